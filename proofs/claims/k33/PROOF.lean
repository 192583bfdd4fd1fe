import PyProof.Rows.All
import Wide.All
import OpenK.AllK
import Wide.FinOn
import Lean
import PyProof.EqAt
import PyProof.EqKinds
import PyProof.TupleCall
import PySem.Challenge.RW_backslope_k33_forms_together
local macro_rules | `(()) => `(by grind)
local macro_rules | `(tactic| ext) => `(tactic| grind)
local macro_rules | `(⋯) => `(by omega)
local macro_rules | `(∅) => `(by decide)
set_option Elab.async false
set_option linter.all false
set_option maxRecDepth 100000
theorem qT:type_of% @if_neg:=@if_neg
theorem qU:type_of% @if_pos:=@if_pos
theorem qV:type_of% @decide_eq_true:=@decide_eq_true
theorem qW:type_of% @of_decide_eq_true:=@of_decide_eq_true
theorem qX:type_of% @decide_eq_false:=@decide_eq_false
theorem qY:type_of% @PySem.wpAny_bind:=@PySem.wpAny_bind
theorem qZ:type_of% @PySem.wpAny_pure:=@PySem.wpAny_pure
theorem pC:type_of% @PySem.wpAny_mono:=@PySem.wpAny_mono
theorem pE:type_of% @Option.some.inj:=@Option.some.inj
theorem pH:type_of% @PySem.Heap.lt_size:=@PySem.Heap.lt_size
theorem pI:type_of% @congrFun:=@congrFun
theorem AG:type_of% @List.length_map:=@List.length_map
theorem AO:type_of% @Nat.le_refl:=@Nat.le_refl
theorem AT:type_of% @List.getD_eq_getElem?_getD:=@List.getD_eq_getElem?_getD
theorem AU:type_of% @List.mem_map:=@List.mem_map
theorem AW:type_of% @Int.ne_of_gt:=@Int.ne_of_gt
theorem Ac:type_of% @List.getElem?_map:=@List.getElem?_map
theorem Ae:type_of% @Nat.zero_le:=@Nat.zero_le
theorem Aj:type_of% @List.getElem?_eq_getElem:=@List.getElem?_eq_getElem
theorem Ap:type_of% @List.mem_singleton:=@List.mem_singleton
theorem Ay:type_of% @List.mem_of_getElem?:=@List.mem_of_getElem?
theorem A6:type_of% @Nat.ne_of_lt:=@Nat.ne_of_lt
theorem A7:type_of% @List.mem_cons:=@List.mem_cons
theorem A8:type_of% @Nat.lt_or_ge:=@Nat.lt_or_ge
theorem BE:type_of% @List.size_toArray:=@List.size_toArray
theorem BF:type_of% @List.getElem?_eq_some_iff:=@List.getElem?_eq_some_iff
theorem BL:type_of% @List.mem_cons_self:=@List.mem_cons_self
theorem BT:type_of% @Nat.le_trans:=@Nat.le_trans
theorem BW:type_of% @List.mem_cons_of_mem:=@List.mem_cons_of_mem
theorem BX:type_of% @List.map_map:=@List.map_map
theorem Bj:type_of% @List.length_range:=@List.length_range
theorem Bk:type_of% @List.length_pos_iff:=@List.length_pos_iff
theorem Bq:type_of% @List.map_append:=@List.map_append
theorem Bw:type_of% @List.length_append:=@List.length_append
theorem Bx:type_of% @List.getElem?_eq_none:=@List.getElem?_eq_none
theorem By:type_of% @Int.mul_ne_zero:=@Int.mul_ne_zero
theorem CA:type_of% @Nat.lt_of_lt_of_le:=@Nat.lt_of_lt_of_le
theorem CB:type_of% @Int.mul_pos:=@Int.mul_pos
theorem CC:type_of% @List.length_take:=@List.length_take
theorem CD:type_of% @List.map_cons:=@List.map_cons
theorem CF:type_of% @Int.natAbs_mul:=@Int.natAbs_mul
theorem CI:type_of% @List.length_eq_zero_iff:=@List.length_eq_zero_iff
theorem CK:type_of% @List.mem_append:=@List.mem_append
theorem CL:type_of% @Int.dvd_trans:=@Int.dvd_trans
theorem CN:type_of% @Int.emod_nonneg:=@Int.emod_nonneg
theorem CO:type_of% @List.length_cons:=@List.length_cons
theorem CW:type_of% @List.take_length:=@List.take_length
theorem CY:type_of% @Nat.mul_le_mul_right:=@Nat.mul_le_mul_right
theorem Cb:type_of% @Bool.false_ne_true:=@Bool.false_ne_true
theorem Cc:type_of% @Int.emod_lt_of_pos:=@Int.emod_lt_of_pos
theorem Cf:type_of% @List.map_congr_left:=@List.map_congr_left
theorem Cg:type_of% @List.forall_mem_singleton:=@List.forall_mem_singleton
theorem Cm:type_of% @List.nodup_cons:=@List.nodup_cons
theorem Cn:type_of% @Nat.pow_succ:=@Nat.pow_succ
theorem Co:type_of% @Int.dvd_add:=@Int.dvd_add
theorem Cp:type_of% @Int.natAbs_natCast:=@Int.natAbs_natCast
theorem Cq:type_of% @Int.dvd_zero:=@Int.dvd_zero
theorem Cy:type_of% @Nat.ne_of_gt:=@Nat.ne_of_gt
theorem Cz:type_of% @List.mem_append_right:=@List.mem_append_right
theorem C3:type_of% @Int.natAbs_dvd_natAbs:=@Int.natAbs_dvd_natAbs
theorem DB:type_of% @Nat.lt_irrefl:=@Nat.lt_irrefl
theorem DP:type_of% @Nat.mul_comm:=@Nat.mul_comm
theorem DQ:type_of% @Int.le_of_lt:=@Int.le_of_lt
theorem DZ:type_of% @List.not_mem_nil:=@List.not_mem_nil
theorem Dn:type_of% @Nat.le_of_lt:=@Nat.le_of_lt
theorem Do:type_of% @Int.fdiv_eq_ediv_of_nonneg:=@Int.fdiv_eq_ediv_of_nonneg
theorem Dp:type_of% @List.all_eq_true:=@List.all_eq_true
theorem Dq:type_of% @List.getElem_mem:=@List.getElem_mem
theorem Dr:type_of% @Nat.lt_succ_self:=@Nat.lt_succ_self
theorem D5:type_of% @List.mem_range:=@List.mem_range
theorem D6:type_of% @Nat.eq_zero_or_pos:=@Nat.eq_zero_or_pos
theorem D7:type_of% @Int.gcd_dvd_right:=@Int.gcd_dvd_right
theorem D8:type_of% @Int.toNat_natCast:=@Int.toNat_natCast
theorem EA:type_of% @List.pairwise_map:=@List.pairwise_map
theorem EB:type_of% @List.getElem?_range:=@List.getElem?_range
theorem ET:type_of% @List.mem_filter:=@List.mem_filter
theorem EU:type_of% @Nat.le_of_dvd:=@Nat.le_of_dvd
theorem EV:type_of% @Nat.mul_le_mul_left:=@Nat.mul_le_mul_left
theorem Es:type_of% @Bool.eq_iff_iff:=@Bool.eq_iff_iff
theorem Et:type_of% @Option.map_eq_some_iff:=@Option.map_eq_some_iff
theorem Eu:type_of% @Int.gcd_dvd_left:=@Int.gcd_dvd_left
theorem Ev:type_of% @Nat.le_antisymm:=@Nat.le_antisymm
theorem Ew:type_of% @List.pairwise_cons:=@List.pairwise_cons
theorem Ex:type_of% @Nat.mul_le_mul:=@Nat.mul_le_mul
theorem FN:type_of% @List.getElem?_replicate:=@List.getElem?_replicate
theorem FO:type_of% @Bool.false_eq_true:=@Bool.false_eq_true
theorem FP:type_of% @List.ext_getElem?:=@List.ext_getElem?
theorem FQ:type_of% @Int.mul_ediv_cancel_left:=@Int.mul_ediv_cancel_left
theorem FR:type_of% @Int.dvd_mul_of_dvd_right:=@Int.dvd_mul_of_dvd_right
theorem F2:type_of% @List.mem_append_left:=@List.mem_append_left
theorem F4:type_of% @Nat.pow_le_pow_right:=@Nat.pow_le_pow_right
theorem F6:type_of% @Int.dvd_mul_of_dvd_left:=@Int.dvd_mul_of_dvd_left
theorem F8:type_of% @List.getElem_of_mem:=@List.getElem_of_mem
theorem F9:type_of% @Int.mul_ediv_cancel':=@Int.mul_ediv_cancel'
theorem GA:type_of% @List.take_append_drop:=@List.take_append_drop
theorem GC:type_of% @List.forall_mem_cons:=@List.forall_mem_cons
theorem Gv:type_of% @List.getLast?_eq_getElem?:=@List.getLast?_eq_getElem?
theorem Gw:type_of% @List.dropLast_concat_getLast:=@List.dropLast_concat_getLast
theorem Hu:type_of% @Int.mul_le_mul_of_nonneg_left:=@Int.mul_le_mul_of_nonneg_left
abbrev cO:=List Int
abbrev cP:=List PySem.Value
abbrev cQ:=PySem.Value->PySem.Shared->Prop
abbrev cS:=List (PySem.Addr×PySem.Obj)
abbrev cU:=PySem.Str->Option PySem.Value
abbrev cV:=List PySem.Expr
abbrev cW:=List PySem.Str
abbrev cZ:=Option PySem.Value
abbrev c_:=List PySem.Addr
abbrev d7:=Nat->Int
abbrev d8:=Nat->Rat
namespace L2
open PySem PySem.Spec PyProof.Rows
noncomputable abbrev E_:=Sum Int Str
noncomputable def Gx:E_->Value->Bool
 | .inl k,v=>Value.isInt k v
 | .inr x,v=>Value.isStrOf x v
noncomputable def T7 (w:World):E_->Int
 | .inl k=>hashInt k
 | .inr x=>hashStr w x
theorem Ey:∀ {k:E_} {v:Value},Gx k v=true->(∃ i t,k=Sum.inl i/\v=Value.int i t)\/(∃ x t,k=Sum.inr x/\v=Value.str x t)
 | .inl i,v,h=>by
   obtain ⟨t,e⟩:=Value.isInt_shape (k:=i) (v:=v) h;exact .inl ⟨i,t,rfl,e⟩
 | .inr x,v,h=>by
   obtain ⟨t,e⟩:=Value.isStrOf_shape (x:=x) (v:=v) h;exact .inr ⟨x,t,rfl,e⟩
theorem T8 (i:Int) (t:Tok):Gx (.inl i) (.int i t)=true:=by simp [Gx,Value.isInt]
theorem T9 (x:Str) (t:Tok):Gx (.inr x) (.str x t)=true:=by simp [Gx,Value.isStrOf]
theorem UA (a b:Int):decide ((Sum.inl a:E_)=Sum.inl b)=(a == b):=by
 by_cases e:a=b
 ·subst e;simp
 ·have h:¬ (Sum.inl a:E_)=Sum.inl b:=λq=>e (Sum.inl.inj q);rw [qX h];exact (beq_eq_false_iff_ne.mpr e).symm
theorem UB (a b:Str):decide ((Sum.inr a:E_)=Sum.inr b)=decide (a=b):=by
 by_cases e:a=b
 ·subst e;simp
 ·have h:¬ (Sum.inr a:E_)=Sum.inr b:=λq=>e (Sum.inr.inj q);rw [qX h,qX e]
theorem UC (a:Int) (b:Str):decide ((Sum.inl a:E_)=Sum.inr b)=false:=qX (λq=>nomatch q)
theorem UD (a:Str) (b:Int):decide ((Sum.inr a:E_)=Sum.inl b)=false:=qX (λq=>nomatch q)
noncomputable def Db (prog:Program) (w:World):PySem.KeyKind prog w E_ where
 is:=Gx
 hash:=T7 w
 inj:=λv a b g f=>by
  rcases Ey g with ⟨i,t,rfl,rfl⟩ | ⟨x,t,rfl,rfl⟩
  ·rcases Ey f with ⟨j,u,rfl,e⟩ | ⟨y,u,rfl,e⟩
   ·injection e with c _;rw [c]
   ·exact nomatch e
  ·rcases Ey f with ⟨j,u,rfl,e⟩ | ⟨y,u,rfl,e⟩
   ·exact nomatch e
   ·injection e with c _;rw [c]
 byValue:=λk v h=>by
  rcases Ey h with ⟨i,t,rfl,rfl⟩ | ⟨x,t,rfl,rfl⟩ <;> rfl
 pyHash:=λd h=>by
  rcases Ey d with ⟨i,t,rfl,rfl⟩ | ⟨x,t,rfl,rfl⟩
  ·exact wpAny_pyHash_int h
  ·exact wpAny_pyHash_str h
 eqBool:=λm d h=>by
  rcases Ey m with ⟨i,t,rfl,rfl⟩ | ⟨x,t,rfl,rfl⟩
  ·rcases Ey d with ⟨j,u,rfl,rfl⟩ | ⟨y,u,rfl,rfl⟩
   ·rw [UA] at h;exact wpAny_eqBool_int h
   ·rw [UC] at h;exact SeqAt.EqAt.int_str i t y u _ _ _ _ h
  ·rcases Ey d with ⟨j,u,rfl,rfl⟩ | ⟨y,u,rfl,rfl⟩
   ·rw [UD] at h;exact SeqAt.EqAt.str_int x t j u _ _ _ _ h
   ·rw [UB] at h;exact wpAny_eqBool_str h
 «strs»:=λk x t v h=>by
  rcases Ey h with ⟨i,u,rfl,e⟩ | ⟨y,u,rfl,e⟩
  ·exact nomatch e
  ·injection e with c _
   subst c
   cases v <;> rfl
theorem UE (prog:Program) (w:World) (i:Int) (t:Tok):(Db prog w).is (.inl i) (.int i t)=true:=T8 i t
theorem JA (prog:Program) (w:World) (x:Str) (t:Tok):(Db prog w).is (.inr x) (.str x t)=true:=T9 x t
inductive V where
 | non | bl (b:Bool) | int (i:Int) | str (x:Str) | byt (b:Array UInt8) | flt (b:UInt64) | ref (a:Addr) | ty (n:String)
 deriving DecidableEq
noncomputable def RelV:V->Value->Prop
 | .non,u=>u=Value.none
 | .bl b,u=>u=Value.bool b
 | .int i,u=>∃ t,u=Value.int i t
 | .str x,u=>∃ t,u=Value.str x t
 | .byt b,u=>∃ t,u=Value.bytes b t
 | .flt b,u=>∃ t,u=Value.float b t
 | .ref a,u=>u=Value.ref a
 | .ty n,u=>u=Value.type n
abbrev Vals:List V->cP->Prop:=Paired RelV
theorem Vals.length {xs:List V} {a:cP} (r:Vals xs a):xs.length=a.length:=Paired.length r
theorem Vals.get:∀ {xs:List V} {a:cP} {i:Nat} {x:V},Vals xs a->xs[i]?=some x->∃ u,a[i]?=some u/\RelV x u
 | _,_,_,_,.nil,e=>by simp at e
 | _,_,0,_,.cons r _,e=>by simp at e;subst e;exact ⟨_,rfl,r⟩
 | _,_,i+1,x,.cons _ t,e=>by
   obtain ⟨u,b,c⟩:=Vals.get (i:=i) (x:=x) t (by simpa using e);exact ⟨u,by simpa using b,c⟩
theorem Vals.set {x:V} {u:Value} (r:RelV x u):∀ {xs:List V} {a:cP} (i:Nat),Vals xs a->Vals (xs.set i x) (a.set i u)
 | _,_,_,.nil=>.nil
 | _,_,0,.cons _ t=>.cons r t
 | _,_,i+1,.cons q t=>.cons q (Vals.set r i t)
theorem Vals.append:∀ {xs ys:List V} {a ws:cP},Vals xs a->Vals ys ws->Vals (xs++ys) (a++ws)
 | _,_,_,_,.nil,s=>s
 | _,_,_,_,.cons r t,s=>.cons r (Vals.append t s)
theorem Vals.take:∀ {xs:List V} {a:cP} (n:Nat),Vals xs a->Vals (xs.take n) (a.take n)
 | _,_,0,_=>.nil
 | _,_,_+1,.nil=>.nil
 | _,_,n+1,.cons r t=>.cons r (Vals.take n t)
theorem Vals.drop:∀ {xs:List V} {a:cP} (n:Nat),Vals xs a->Vals (xs.drop n) (a.drop n)
 | _,_,0,r=>r
 | _,_,_+1,.nil=>.nil
 | _,_,n+1,.cons _ t=>Vals.drop n t
noncomputable def Kf:Option V->cZ->Prop
 | some v,some u=>RelV v u
 | none,none=>True
 | _,_=>False
def KV {a:Type}:List (a×V)->List (a×Value)->Prop:=Paired λ(p:a×V) (q:a×Value)=>p.1=q.1/\RelV p.2 q.2
noncomputable def kV:E_->V
 | .inl i=>.int i
 | .inr x=>.str x
inductive HO where

 | lst (xs:List V)

 | tup (xs:List V)

 | dK (kvs:List (E_×V)) | dT (kvs:List (List E_×V))

 | set (S:Int->Bool) (n:Nat)

 | ins (C dx:Addr) (fs:List (Str×V))

 | own (x:Addr)

 | xd (fs:List (Str×V))

 | met (f x:Addr)

 | rng (lo hi:Int)

 | frz (o:Obj) (u:HO)

 | tbl (ps:Array Value)

 | ext (φ:Heap->Prop)
noncomputable abbrev Hp:=Addr->Option HO
abbrev cN:=Option V
abbrev cM:=List V
noncomputable def upd (H:Hp) (a:Addr) (o:HO):Hp:=λb=>if b=a then some o else H b
theorem upd_same {H:Hp} {a:Addr} {o:HO}:upd H a o a=some o:=by unfold upd;rw [qU rfl]
theorem Ad {H:Hp} {a b:Addr} {o:HO} (h:b≠a):upd H a o b=H b:=by unfold upd;rw [qT h]
theorem FS {H:Hp} {a b:Addr} {o u:HO} (h:H a=some o) (h':H b=some u) (d:o≠u):a≠b:=by
 intro e;subst e;rw [h] at h';exact d (pE h')
theorem BM {H:Hp} {a b:Addr} {o:HO} (h:H a=some o) (h':H b=none):a≠b:=by
 intro e;subst e;rw [h] at h';cases h'
section
variable (P:Program) (w:World)
noncomputable def ObjOk (H:Hp) (h:Heap) (a:Addr):HO->Prop
 | .lst c=>c.length<=sizeLine/\∃ (its:cP) (n:Nat),Vals c its/\h.get? a=some { cls:=.type "list", data:=.seq its.toArray n }
 | .tup c=>c.length<=sizeLine/\∃ its:cP,Vals c its/\IsTup h a its.toArray
 | .dK b=>b.length<=sizeLine/\(a == sysModules)=false/\∃ j,KV b j/\h.DictOf (Db P w) a j
 | .dT b=>b.length<=sizeLine/\(a == sysModules)=false/\∃ c:List (List E_×Addr×Value),
   Paired (λ(p:List E_×V) (q:List E_×Addr×Value)=>p.1=q.1/\H q.2.1=some (.tup (p.1.map kV))/\RelV p.2 q.2.2) b c/\
   ∃ o k y,h.get? a=some o/\o.ExactDict/\o.data=.dict k y/\k.toList=c.map (entryOfKey (tupleKind (Db P w)))/\(c.map (·.1)).Nodup
 | .set S n=>h.SetOf (intKind P w) a S n
 | .ins C g e=>H g=some (.own a)/\e.length<=1000/\g≠a/\h.get? a=some (W.instObj C g)/\
   ∃ d,h.Ns1 g d/\(∀ f,Kf (e.lookup f) (d f))/\PySem.Within d (e.map (·.1))
 | .own _=>∃ o,h.get? a=some o
 | .xd e=>∃ d,h.Ns1 a d/\∀ f,Kf (e.lookup f) (d f)
 | .rng z A=>∃ t u v,h.get? a=some { cls:=.type "range", data:=.fields #[.int z t,.int A u,.int 1 v] }
 | .frz o u=>h.get? a=some o/\ObjOk H h a u
 | .tbl ps=>h.get? a=some { cls:=.none,data:=.fields ps }
 | .met f x=>h.get? a=some (W.methodObj (.ref f) (.ref x))
 | .ext i=>i h/\(∃ o,h.get? a=some o)/\∀ m r:Heap,i m->(∀ o,m.get? a=some o->r.get? a=some o)->i r
def HOk (H:Hp) (h:Heap):Prop:=∀ a o,H a=some o->ObjOk P w H h a o
end
section
variable {P:Program} {w:World} {H H':Hp} {h h':Heap} {a:Addr} {o:HO}
theorem ObjOk.lt (x:ObjOk P w H h a o):a<h.objs.size:=by
 cases o with
 | lst c=>obtain ⟨_,_,_,_,e⟩:=x;exact pH e
 | tup c=>obtain ⟨_,_,_,p⟩:=x;exact p.lt
 | dK b=>obtain ⟨_,_,_,_,o,_,_,e,_⟩:=x;exact pH e
 | dT b=>obtain ⟨_,_,_,_,o,_,_,e,_⟩:=x;exact pH e
 | set S n=>obtain ⟨o,_,_,_,e,_⟩:=x;exact pH e
 | ins C g d=>obtain ⟨_,_,_,e,_⟩:=x;exact pH e
 | own y=>obtain ⟨_,e⟩:=x;exact pH e
 | xd d=>obtain ⟨_,⟨_,_,_,e,_⟩,_⟩:=x;exact pH e
 | rng i j=>obtain ⟨_,_,_,e⟩:=x;exact pH e
 | frz k u=>obtain ⟨e,_⟩:=x;exact pH e
 | tbl ps=>exact pH (show h.get? a=some _ from x)
 | met f y=>exact pH (show h.get? a=some _ from x)
 | ext m=>obtain ⟨_,⟨_,e⟩,_⟩:=x;exact pH e
theorem Paired.mapP {e g:Type} {F G:e->g->Prop}:∀ {c:List e} {d:List g},Paired F c d->(∀ a b,F a b->G a b)->Paired G c d
 | _,_,.nil,_=>.nil
 | _,_,.cons r t,f=>.cons (f _ _ r) (Paired.mapP t f)
theorem ObjOk.stay (x:ObjOk P w H h a o) (k:∀ b u,(b=a\/H b=some (.own a))->h.get? b=some u->h'.get? b=some u)
  (G:∀ b,H b=some (.own a)->H' b=some (.own a)) (I:∀ b A,H b=some (.tup A)->H' b=some (.tup A)):ObjOk P w H' h' a o:=by
 induction o with
 | lst A=>obtain ⟨z,m,n,r,e⟩:=x;exact ⟨z,m,n,r,k _ _ (.inl rfl) e⟩
 | tup A=>obtain ⟨z,m,r,g,e,c⟩:=x;exact ⟨z,m,r,g,k _ _ (.inl rfl) e,c⟩
 | dK B=>obtain ⟨z,y,J,r,g,i,j,e,c⟩:=x;exact ⟨z,y,J,r,g,i,j,k _ _ (.inl rfl) e,c⟩
 | dT B=>
   obtain ⟨z,y,A,r,g,i,j,e,c⟩:=x;exact ⟨z,y,A,Paired.mapP r λp q z=>⟨z.1,I _ _ z.2.1,z.2.2⟩,g,i,j,k _ _ (.inl rfl) e,c⟩
 | set S n=>obtain ⟨g,i,j,t,e,c⟩:=x;exact ⟨g,i,j,t,k _ _ (.inl rfl) e,c⟩
 | ins C O K=>
   obtain ⟨d,z,L,e,D,⟨E,i,j,M,c⟩,r⟩:=x;exact ⟨G _ d,z,L,k _ _ (.inl rfl) e,D,⟨E,i,j,k _ _ (.inr d) M,c⟩,r⟩
 | own y=>obtain ⟨g,e⟩:=x;exact ⟨g,k _ _ (.inl rfl) e⟩
 | xd K=>obtain ⟨D,⟨E,i,j,e,c⟩,r⟩:=x;exact ⟨D,⟨E,i,j,k _ _ (.inl rfl) e,c⟩,r⟩
 | rng Q R=>obtain ⟨t,u,v,e⟩:=x;exact ⟨t,u,v,k _ _ (.inl rfl) e⟩
 | frz g u N=>obtain ⟨e,q⟩:=x;exact ⟨k _ _ (.inl rfl) e,N q⟩
 | tbl ps=>
   have e:h.get? a=some { cls:=.none,data:=.fields ps }:=x;show h'.get? a=some { cls:=.none,data:=.fields ps };exact k a _ (.inl rfl) e
 | met f y=>
   have e:h.get? a=some (W.methodObj (.ref f) (.ref y)):=x;show h'.get? a=some (W.methodObj (.ref f) (.ref y));exact k a _ (.inl rfl) e
 | ext T=>obtain ⟨p,⟨o,e⟩,F⟩:=x;exact ⟨F _ _ p λo q=>k _ _ (.inl rfl) q,⟨o,k _ _ (.inl rfl) e⟩,F⟩
theorem HOk.lt (x:HOk P w H h) (e:H a=some o):a<h.objs.size:=(x a o e).lt
theorem HOk.fresh (x:HOk P w H h) (e:h.objs.size<=a):H a=none:=by
 cases q:H a with
 | none=>rfl
 | some u=>exact absurd (CA (x.lt q) e) (DB _)
theorem HOk.kept (x:HOk P w H h) (k:∀ b u,h.get? b=some u->h'.get? b=some u):HOk P w H h':=λa o e=>
 (x a o e).stay (λb u _ q=>k b u q) (λ_ q=>q) λ_ _ q=>q
theorem HOk.laid (x:HOk P w H h) (k:∀ b u,h.get? b=some u->h'.get? b=some u) (hp:h.objs.size<=a) (d:ObjOk P w (upd H a o) h' a o):HOk P w (upd H a o) h':=λb u e=>by
 have f:=x.fresh hp;by_cases g:b=a
 ·subst g;rw [upd_same] at e;cases e;exact d
 ·rw [Ad g] at e;exact (x b u e).stay (λc v _ q=>k c v q) (λc q=>by rw [Ad (BM q f)];exact q) λc i q=>by rw [Ad (BM q f)];exact q
end
def Rd (H:Hp) (a:Addr) (u:HO):Prop:=H a=some u\/∃ o,H a=some (.frz o u)
theorem Rd.ok {P:Program} {w:World} {H:Hp} {h:Heap} {a:Addr} {u:HO} (r:Rd H a u) (x:HOk P w H h):ObjOk P w H h a u:=by
 rcases r with r | ⟨o,r⟩
 ·exact x a u r
 ·obtain ⟨_,q⟩:=x a _ r;exact q
noncomputable def ca:Option HO->Prop
 | some (.lst _)=>True
 | some (.dK _)=>True
 | some (.dT _)=>True
 | some (.set _ _)=>True
 | some (.ins _ _ _)=>True
 | some (.ext _)=>True
 | _=>False
section
variable {P:Program} {w:World} {H:Hp} {h h':Heap} {x e:Addr} {o':HO}
theorem HOk.write (ok:HOk P w H h) (g:ca (H x)) (p:e=x\/H e=some (.own x)) (k:∀ b u,b≠e->h.get? b=some u->h'.get? b=some u) (n:∃ u,h'.get? e=some u)
  (o:ObjOk P w (upd H x o') h' x o'):HOk P w (upd H x o') h':=λb u q=>by
 have d:∀ c y,H c=some (.own y)->c≠x:=λc y r z=>by subst z;rw [r] at g;exact g
 have f:∀ c i,H c=some (.tup i)->c≠x:=λc i r z=>by subst z;rw [r] at g;exact g
 by_cases j:b=x
 ·subst j;rw [upd_same] at q;cases q;exact o
 ·rw [Ad j] at q;by_cases a:b=e
  ·have A:H b=some (.own x):=by
    rcases p with z | z
    ·exact absurd (a.trans z) j
    ·rw [a];exact z
   rw [q] at A;cases A;obtain ⟨v,B⟩:=n;exact ⟨v,by rw [a];exact B⟩
  ·refine (ok b u q).stay (λc v m r=>k c v ?_ r) (λc r=>by rw [Ad (d c b r)];exact r) λc i r=>by rw [Ad (f c i r)];exact r
   rcases m with rfl | m
   ·exact a
   ·rintro rfl;rcases p with z | z
    ·exact d c b m z
    ·rw [m] at z;cases z;exact j rfl
end
structure Un (fs ex:c_) (H H':Hp) (h h':Heap):Prop where
 keep:∀ b o,h.get? b=some o->H b=none->b∉fs->b∉ex->h'.get? b=some o
 slot:∀ b o,h.get? b=some o->H b=none->b∈fs->b∉ex->∃ sl,h'.get? b=some { o with slots:=sl }
 free:∀ b o,h.get? b=some o->H b=none->b∉ex->H' b=none
 there:∀ b o,h.get? b=some o->b∉ex->∃ o',h'.get? b=some o'
 tups:∀ b xs,H b=some (.tup xs)->H' b=some (.tup xs)
 frzs:∀ b o u,H b=some (.frz o u)->H' b=some (.frz o u)
 tbls:∀ b ps,H b=some (.tbl ps)->∃ more,H' b=some (.tbl (ps++more))
section
variable {fs fs' ex ex':c_} {H H1 H2:Hp} {h h1 h2 h':Heap} {a x e:Addr} {o:HO}
theorem Un.any (u:Un fs ex H H1 h h1) {b:Addr} {c:Obj} (q:h.get? b=some c) (n:H b=none) (f:b∉ex):∃ i,h1.get? b=some { c with slots:=i }:=by
 by_cases g:b∈fs
 ·exact u.slot b c q n g f
 ·exact ⟨c.slots,u.keep b c q n g f⟩
theorem Un.kept (k:∀ b u,h.get? b=some u->h'.get? b=some u):Un fs ex H H h h':=
 ⟨λb c q _ _ _=>k b c q,λb c q _ _ _=>⟨c.slots,k b c q⟩,λ_ _ _ n _=>n,λb c q _=>⟨c,k b c q⟩,λ_ _ q=>q,λ_ _ _ q=>q,λ_ ps q=>⟨#[],by rw [q];simp⟩⟩
theorem Un.refl:Un fs ex H H h h:=Un.kept λ_ _ q=>q
theorem Un.laid (k:∀ b u,h.get? b=some u->h'.get? b=some u) (hp:h.objs.size<=a) (c:H a=none):Un fs ex H (upd H a o) h h' where
 keep:=λb u q _ _ _=>k b u q
 slot:=λb u q _ _ _=>⟨u.slots,k b u q⟩
 free:=λb u q n _=>by rw [Ad (A6 (CA (pH q) hp))];exact n
 there:=λb u q _=>⟨u,k b u q⟩
 tups:=λb d q=>by rw [Ad (BM q c)];exact q
 frzs:=λb u d q=>by rw [Ad (BM q c)];exact q
 tbls:=λb ps q=>⟨#[],by rw [Ad (BM q c),q];simp⟩
theorem Un.write (d:ca (H x)) (m:e=x\/H e=some (.own x)) (k:∀ b u,b≠e->h.get? b=some u->h'.get? b=some u) (f:∃ u,h'.get? e=some u):Un fs ex H (upd H x o) h h':=by
 have i:∀ b,H b=none->b≠x:=λb n z=>by subst z;rw [n] at d;exact d
 have j:∀ b,H b=none->b≠e:=λb n z=>by
  subst z;rcases m with r | r
  ·exact i b n r
  ·rw [n] at r;cases r
 have g:∀ b u,H b=some u->¬ ca (some u)->b≠x:=λb u q p z=>by subst z;rw [q] at d;exact p d
 refine ⟨λb u q n _ _=>k b u (j b n) q,λb u q n _ _=>⟨u.slots,k b u (j b n) q⟩,λb u q n _=>by rw [Ad (i b n)];exact n,λb u q _=>?_,
  λb v q=>by rw [Ad (g b _ q λz=>z)];exact q,λb u v q=>by rw [Ad (g b _ q λz=>z)];exact q,λb ps q=>⟨#[],by rw [Ad (g b _ q λz=>z),q];simp⟩⟩
 by_cases c:b=e
 ·subst c;exact f
 ·exact ⟨u,k b u c q⟩
end
noncomputable def cb (h:Heap) (H:Hp):c_:=(List.range h.objs.size).filter λa=>(H a).isSome
noncomputable def EW (h:Heap) (H:Hp):Heap:=W.hideAll h (cb h H)
theorem UF (h:Heap) (H:Hp):(EW h H).objs.size=h.objs.size:=W.hideAll_size _ _
theorem UG {h:Heap} {H:Hp} {b:Addr} {o:Obj} (e:h.get? b=some o) (n:H b=none):(EW h H).get? b=some o:=
 W.hideAll_get _ e λa=>by
  have q:(H b).isSome=true:=(ET.mp a).2;rw [n] at q;simp at q
theorem UH {h:Heap} {H:Hp} {b:Addr} {o:Obj} (e:(EW h H).get? b=some o):h.get? b=some o/\H b=none:=by
 have a:h.get? b=some o:=W.of_hideAll (cb h H) e;refine ⟨a,?_⟩;cases q:H b with
 | none=>rfl
 | some x=>
   have c:b∈cb h H:=ET.mpr ⟨D5.mpr (pH a),by simp [q]⟩;have z:(EW h H).get? b=none:=W.hideAll_none (cb h H) c;rw [z] at e;cases e
noncomputable def UI (g h:Heap) (L:Addr):cS:=(List.range h.objs.size).filterMap λa=>if a=L\/(g.get? a).isSome=true then none else (h.get? a).map λo=>(a,o)
noncomputable def rest (g h:Heap) (L d:Addr):cS:=(UI g h L).filter λp=>decide (p.1≠d)
structure Mod (K:W.Frag) (mg:cU) (base:Heap):Prop where
 kin:K.In base
 glob:base.Ns mainGlobals mg
 blt:∃ mb,base.Ns builtinsNs mb/\∀ x:Str,x ≠ "__name__" -> mb x=bootBuiltins x
 nolimit:base.NoLimit
structure Cx where
 prog:Program
 w:World
 K:W.Frag
 mg:cU
 base:Heap
 A:Around
 N:cW
 s₀:Shared
 H₀:Hp
 env:Env
 outer:List Env
 stack:List Env
 ex:c_
 fn:Str->Bool
 calm:Bool
 pn:cS
 xe:cQ
noncomputable def au (l:List Env):c_:=l.filterMap (·.frame)
noncomputable abbrev Cx.fs (X:Cx):c_:=au X.outer
def bR (a:Scope) (x:Str):Prop:=a.names.lookup x=some .local\/a.names.lookup x=some .cell\/a.names.lookup x=some .free
def aU (a:Scope) (x:Str):Prop:=a.names.lookup x=some .local\/a.names.lookup x=some .cell
def Look (a:Env) (h:Heap) (m:cU) (x:Str) (u:Value):Prop:=
 (a.kindOf x=some .local/\m x=some u)\/((a.kindOf x=some .cell\/a.kindOf x=some .free)/\∃ c,a.cells.lookup x=some c/\h.IsCell c (some u))
structure Cx.Ok (X:Cx):Prop where
 mod:Mod X.K X.mg X.base
 kind:X.env.scope.kind=.function
 glob:X.env.globals=mainGlobals
 blt:X.env.builtins=builtinsNs
 above:X.s₀.heap.objs.size<=X.env.locals
 inj:∀ x y c,X.env.cells.lookup x=some c->X.env.cells.lookup y=some c->x=y
 has:∀ x,(X.env.kindOf x=some .cell\/X.env.kindOf x=some .free)->∃ c,X.env.cells.lookup x=some c
 cab:∀ x c,X.fn x=true->X.env.cells.lookup x=some c->X.s₀.heap.objs.size<=c
 hd:X.calm=true->X.A.handled=none
 frames:X.A.frames=some X.stack
 stk:X.stack=X.outer\/(X.stack=X.env::X.outer/\X.env.frame=some X.env.locals)
 exf:∀ b∈X.ex,b≠X.env.locals/\∀ x c,X.env.cells.lookup x=some c->c≠b
 bs:∀ b o,X.base.get? b=some o->X.s₀.heap.get? b=some o/\X.H₀ b=none
 bsz:X.base.objs.size<=X.s₀.heap.objs.size
 noex:∀ b o,X.base.get? b=some o->b∉X.ex
 exfs:∀ b∈X.ex,b∉X.fs
 funs:X.s₀.heap.FunFrames X.base X.outer
 frf:∀ b∈X.fs,X.H₀ b=none
 seer:X.base.NoSeer
 tree:(model X.prog X.w).prog.given.tree=none
 plr:∀ s:Shared,(∀ b o,X.base.get? b=some o->s.heap.get? b=some o)->PySem.PylongRoom (model X.prog X.w) X.A s
structure Inv (X:Cx) (pins:cS) (σ:List (cN)) (H:Hp) (s:Shared):Prop where
 ok:X.Ok
 os:s.os=X.s₀.os
 bare:AllBare s.gens
 base:Un X.fs X.ex X.H₀ H X.s₀.heap s.heap
 loc:∃ m,s.heap.Ns X.env.locals m/\∀ (i:Nat) (x:Str) (v:V),X.N[i]?=some x->σ[i]?=some (some v)->bR X.env.scope x->∃ u,RelV v u/\Look X.env s.heap m x u
 cell:∀ x c,X.env.cells.lookup x=some c->∃ v,s.heap.IsCell c v
 free:H X.env.locals=none
 freeC:∀ x c,X.env.cells.lookup x=some c->H c=none
 pin:∀ p∈X.pn++pins,s.heap.get? p.1=some p.2/\H p.1=none/\p.1≠X.env.locals/\p.1∉X.fs/\∀ v,p.2.data≠.cell v
 hok:HOk X.prog X.w H s.heap
 len:σ.length=X.N.length
section
variable {X:Cx} {pins:cS} {σ:List (cN)} {H H':Hp} {s:Shared} {h':Heap}
theorem Cx.Ok.nofr (ok:X.Ok) {b:Addr} {o:Obj} (e:X.base.get? b=some o):b∉X.fs:=λa=>by
 have:=(ok.funs.mem a).1;rw [e] at this;cases this
theorem Inv.bs (I:Inv X pins σ H s):∀ b o,X.base.get? b=some o->s.heap.get? b=some o/\H b=none:=λb o e=>
 ⟨I.base.keep b o (I.ok.bs b o e).1 (I.ok.bs b o e).2 (I.ok.nofr e) (I.ok.noex b o e),I.base.free b o (I.ok.bs b o e).1 (I.ok.bs b o e).2 (I.ok.noex b o e)⟩
theorem Inv.bk (I:Inv X pins σ H s):∀ b o,X.base.get? b=some o->s.heap.get? b=some o:=λb o e=>(I.bs b o e).1
theorem Inv.mod (I:Inv X pins σ H s):Mod X.K X.mg X.base:=I.ok.mod
theorem Inv.kIn (I:Inv X pins σ H s):X.K.In s.heap:=I.ok.mod.kin.keeps I.bk
theorem Inv.fr (I:Inv X pins σ H s):∃ m,Fr X.base X.env.locals s.heap m:=
 let ⟨m,a,_⟩:=I.loc
 ⟨m,a,I.bk,BT I.ok.bsz I.ok.above⟩
theorem Inv.lt (I:Inv X pins σ H s):X.env.locals<s.heap.objs.size:=let ⟨_,a,_⟩:=I.loc;a.lt
theorem Inv.sz (I:Inv X pins σ H s):X.s₀.heap.objs.size<=s.heap.objs.size:=BT I.ok.above (Dn I.lt)
theorem Inv.nofs (I:Inv X pins σ H s) {a:Addr} (h:s.heap.objs.size<=a):a∉X.fs:=λb=>by
 obtain ⟨_,o,c,_⟩:=I.ok.funs.mem b;exact absurd (CA (pH c) (BT I.sz h)) (DB _)
theorem Inv.cne (I:Inv X pins σ H s):∀ x c,X.env.cells.lookup x=some c->c≠X.env.locals:=λx c e z=>by
 obtain ⟨v,o,d,f⟩:=I.cell x c e;obtain ⟨m,⟨g,h,i,a,b,_⟩,_⟩:=I.loc;rw [z,a] at d;cases d;rw [b] at f;cases f
theorem Inv.funs (I:Inv X pins σ H s):s.heap.FunFrames X.base X.outer:=by
 have all:∀ (l:List Env),(∀ b∈au l,b∈X.fs)->X.s₀.heap.FunFrames X.base l->s.heap.FunFrames X.base l:=by
  intro l
  induction l with
  | nil=>intro _ _;trivial
  | cons g r h=>
    intro f i;obtain ⟨hk,⟨L,o,a,j,k,m⟩,n⟩:=i;have c:L∈X.fs:=f L (by unfold au;rw [List.filterMap_cons,a];exact BL);obtain ⟨p,e⟩:=I.base.slot L o k (I.ok.frf L c) c λz=>I.ok.exfs L z c;exact ⟨hk,⟨L,_,a,j,e,m⟩,h (λb d=>f b (by unfold au;rw [List.filterMap_cons,a];exact BW _ d)) n⟩
 exact all X.outer (λ_ d=>d) I.ok.funs
theorem Inv.stack (I:Inv X pins σ H s):s.heap.FunFrames X.base X.stack:=by
 rcases I.ok.stk with e | ⟨e,a⟩
 ·rw [e];exact I.funs
 ·rw [e];obtain ⟨m,b,_⟩:=I.loc;refine .cons (by rw [I.ok.kind];decide) a b ?_ I.funs;exact Heap.get?_none_of_le (BT I.ok.bsz I.ok.above)
theorem Inv.stkSub (I:Inv X pins σ H s):∀ b∈au X.stack,b∈X.env.locals::X.fs:=λb a=>by
 rcases I.ok.stk with e | ⟨e,c⟩
 ·rw [e] at a;exact BW _ a
 ·rw [e] at a;unfold au at a;rw [List.filterMap_cons,c] at a;exact a
theorem Inv.stkFree (I:Inv X pins σ H s):∀ b∈au X.stack,H b=none:=λb a=>by
 rcases A7.mp (I.stkSub b a) with e | a
 ·rw [e];exact I.free
 ·obtain ⟨_,o,c,_⟩:=I.ok.funs.mem a;exact I.base.free b o c (I.ok.frf b a) λz=>I.ok.exfs b z a
theorem Inv.step {g':Array GenState} {t':Nat} {d':Drawn} {ch:c_} (I:Inv X pins σ H s)
  (g:∀ b∈ch,(b∈X.ex\/X.s₀.heap.objs.size<=b)/\b≠X.env.locals/\(∀ x c,X.env.cells.lookup x=some c->c≠b)/\∀ p∈X.pn++pins,p.1≠b)
  (h:∀ b o,b≠X.env.locals->b∉X.fs->b∉ch->s.heap.get? b=some o->H b=none->h'.get? b=some o)
  (B:∀ b o,b≠X.env.locals->b∈X.fs->b∉ch->s.heap.get? b=some o->H b=none->∃ P,h'.get? b=some { o with slots:=P }) (f:∀ b o,b∉ch->s.heap.get? b=some o->H b=none->H' b=none)
  (D:∀ b o,b∉ch->s.heap.get? b=some o->∃ G,h'.get? b=some G)
  (J:∀ b C,H b=some (.tup C)->H' b=some (.tup C)) (K:∀ b o u,H b=some (.frz o u)->H' b=some (.frz o u)) (L:∀ b ps,H b=some (.tbl ps)->∃ M,H' b=some (.tbl (ps++M)))
  (ns:∀ m,s.heap.Ns X.env.locals m->h'.Ns X.env.locals m) (R:HOk X.prog X.w H' h') (hg:AllBare g') :
  Inv X pins σ H' { s with heap:=h',gens:=g',drawn:=d',toks:=t' }:=by
 have N:∀ b o,X.s₀.heap.get? b=some o->b≠X.env.locals:=λb o e=>A6 (CA (pH e) I.ok.above)
 have y:∀ b o,X.s₀.heap.get? b=some o->b∉X.ex->b∉ch:=λb o e a E=>by
  rcases (g b E).1 with z | z
  ·exact a z
  ·exact absurd (CA (pH e) z) (DB _)
 have j:∀ x c,X.env.cells.lookup x=some c->∀ v,s.heap.IsCell c v->h'.IsCell c v:=λx c e v ⟨o,F,S⟩=>by
  have w:c∉ch:=λz=>(g c z).2.2.1 x c e rfl;by_cases Z:c∈X.fs
  ·obtain ⟨P,q⟩:=B c o (I.cne x c e) Z w F (I.freeC x c e);exact ⟨_,q,S⟩
  ·exact ⟨o,h c o (I.cne x c e) Z w F (I.freeC x c e),S⟩
 refine ⟨I.ok,I.os,hg,⟨λb o e n E a=>?_,λb o e n E a=>?_,λb o e n a=>?_,λb o e a=>?_,λb C e=>J b C (I.base.tups b C e),λb o C e=>K b o C (I.base.frzs b o C e),λb ps e=>?_⟩,?_,λx c e=>?_,?_,λx c e=>?_,λp hp=>?_,R,I.len⟩
 ·exact h b o (N b o e) E (y b o e a) (I.base.keep b o e n E a) (I.base.free b o e n a)
 ·obtain ⟨P,A⟩:=I.base.slot b o e n E a;obtain ⟨T,O⟩:=B b _ (N b o e) E (y b o e a) A (I.base.free b o e n a);exact ⟨T,O⟩
 ·obtain ⟨G,A⟩:=I.base.there b o e a;exact f b G (y b o e a) A (I.base.free b o e n a)
 ·obtain ⟨G,A⟩:=I.base.there b o e a;exact D b G (y b o e a) A
 ·obtain ⟨m1,A⟩:=I.base.tbls b ps e;obtain ⟨m2,O⟩:=L b _ A;exact ⟨m1++m2,by rw [O,Array.append_assoc]⟩
 ·obtain ⟨m,hn,hl⟩:=I.loc;refine ⟨m,ns m hn,λi x v A O e3=>?_⟩;obtain ⟨u,r,l⟩:=hl i x v A O e3;refine ⟨u,r,?_⟩;rcases l with l | ⟨k,c,e,z⟩
  ·exact .inl l
  ·exact .inr ⟨k,c,e,j x c e _ z⟩
 ·obtain ⟨v,z⟩:=I.cell x c e;exact ⟨v,j x c e v z⟩
 ·obtain ⟨m,⟨o,_,_,F,_⟩,_⟩:=I.loc;exact f _ o (λz=>(g _ z).2.1 rfl) F I.free
 ·obtain ⟨v,o,F,S⟩:=I.cell x c e;exact f c o (λz=>(g c z).2.2.1 x c e rfl) F (I.freeC x c e)
 ·obtain ⟨e,n,ne,nf,d⟩:=I.pin p hp;have w:p.1∉ch:=λz=>(g p.1 z).2.2.2 p hp rfl;exact ⟨h p.1 p.2 ne nf w e n,f p.1 p.2 w e n,ne,nf,d⟩
theorem Inv.un {t':Nat} (I:Inv X pins σ H s) (u:Un X.fs [] H H' s.heap h') (c:HOk X.prog X.w H' h'):Inv X pins σ H' { s with heap:=h',toks:=t' }:=by
 obtain ⟨m,⟨o,v,w,j,r⟩,_⟩:=id I.loc;obtain ⟨x,k⟩:=u.any j I.free (by simp)
 exact I.step (g':=s.gens) (d':=s.drawn) (ch:=[]) (λ_ z=>nomatch z) (λb o _ d _ e n=>u.keep b o e n d (by simp)) (λb o _ d _ e n=>u.slot b o e n d (by simp)) (λb o _ e n=>u.free b o e n (by simp)) (λb o _ e=>u.there b o e (by simp)) u.tups u.frzs u.tbls (λy p=>by
  obtain ⟨A,f,g,a,q⟩:=p;rw [j] at a;cases a;exact ⟨_,f,g,k,q⟩) c I.bare
theorem Inv.call {g':Array GenState} {t':Nat} {d':Drawn} {ch:c_} (I:Inv X pins σ H s) (u:Un (au X.stack) ch H H' s.heap h') (g:HOk X.prog X.w H' h') (y:AllBare g')
  (d:∀ b∈ch,(b∈X.ex\/X.s₀.heap.objs.size<=b)/\b≠X.env.locals/\(∀ x c,X.env.cells.lookup x=some c->c≠b)/\∀ p∈X.pn++pins,p.1≠b) :
  Inv X pins σ H' { s with heap:=h',gens:=g',drawn:=d',toks:=t' }:=by
 obtain ⟨m,⟨o,D,E,w,r⟩,_⟩:=id I.loc;obtain ⟨F,h⟩:=u.any w I.free λz=>(d _ z).2.1 rfl
 exact I.step (ch:=ch) d (λb o h A a e n=>u.keep b o e n (λz=>(A7.mp (I.stkSub b z)).elim h A) a) (λb o _ _ a e n=>u.any e n a) (λb o a e n=>u.free b o e n a) (λb o a e=>u.there b o e a) u.tups u.frzs u.tbls (λG B=>by
  obtain ⟨J,i,j,f,C⟩:=B;rw [w] at f;cases f;exact ⟨_,i,j,h,C⟩) g y
theorem Inv.turned {t':Nat} {a:Addr} (I:Inv X pins σ H s) (k:∀ b o,b≠a->s.heap.get? b=some o->h'.get? b=some o) (j:H a=none) (g:a≠X.env.locals)
  (w:a∈X.ex\/X.s₀.heap.objs.size<=a) (y:∀ x c,X.env.cells.lookup x=some c->c≠a) (A:∀ p∈X.pn++pins,p.1≠a):Inv X pins σ H { s with heap:=h',toks:=t' }:=by
 have f:∀ b u,H b=some u->b≠a:=λb u e z=>by rw [z,j] at e;cases e
 refine I.step (g':=s.gens) (d':=s.drawn) (ch:=[a]) (λb B=>?_) (λb o _ _ d e _=>k b o (λz=>d (by simp [z])) e) (λb o _ _ d e _=>⟨o.slots,k b o (λz=>d (by simp [z])) e⟩) (λ_ _ _ _ n=>n)
  (λb o d e=>⟨o,k b o (λz=>d (by simp [z])) e⟩) (λ_ _ e=>e) (λ_ _ _ e=>e) (λb ps e=>⟨#[],by rw [e];simp⟩) (λm C=>?_) (λb u e=>?_) I.bare
 ·have e:b=a:=by simpa using B
  subst e;exact ⟨w,g,y,A⟩
 ·obtain ⟨o,D,E,F,r⟩:=C;exact ⟨o,D,E,k _ o (Ne.symm g) F,r⟩
 ·refine (I.hok b u e).stay (λc v d q=>k c v ?_ q) (λ_ q=>q) λ_ _ q=>q;rcases d with z | z
  ·rw [z];exact f b u e
  ·exact f c _ z
theorem Inv.tok (I:Inv X pins σ H s) (t:Nat):Inv X pins σ H { s with toks:=t }:=I.un (h':=s.heap) (t':=t) Un.refl I.hok
theorem Inv.kept {t':Nat} (I:Inv X pins σ H s) (k:∀ b u,s.heap.get? b=some u->h'.get? b=some u):Inv X pins σ H { s with heap:=h',toks:=t' }:=I.un (Un.kept k) (I.hok.kept k)
theorem Inv.laid {a:Addr} {o:HO} {t':Nat} (I:Inv X pins σ H s) (k:∀ b u,s.heap.get? b=some u->h'.get? b=some u) (hp:s.heap.objs.size<=a) (c:ObjOk X.prog X.w (upd H a o) h' a o) :
  Inv X pins σ (upd H a o) { s with heap:=h',toks:=t' }:=I.un (Un.laid k hp (I.hok.fresh hp)) (I.hok.laid k hp c)
theorem Inv.write {x e:Addr} {o:HO} {t':Nat} (I:Inv X pins σ H s) (d:ca (H x)) (f:e=x\/H e=some (.own x)) (k:∀ b u,b≠e->s.heap.get? b=some u->h'.get? b=some u) (a:∃ u,h'.get? e=some u)
  (c:ObjOk X.prog X.w (upd H x o) h' x o):Inv X pins σ (upd H x o) { s with heap:=h',toks:=t' }:=I.un (Un.write d f k a) (I.hok.write d f k a c)
theorem Inv.pins_of {a:cS} (I:Inv X pins σ H s) (h:∀ p∈a,s.heap.get? p.1=some p.2/\H p.1=none/\p.1≠X.env.locals/\p.1∉X.fs/\∀ v,p.2.data≠.cell v):Inv X a σ H s:=
 ⟨I.ok,I.os,I.bare,I.base,I.loc,I.cell,I.free,I.freeC,λp hp=>(CK.mp hp).elim (λz=>I.pin p (F2 _ z)) (h p),I.hok,I.len⟩
theorem M6 {N:cW} (c:N.Nodup) {i j:Nat} {x:Str} (a:N[i]?=some x) (b:N[j]?=some x):i=j:=by
 obtain ⟨f,d⟩:=BF.mp a;obtain ⟨g,e⟩:=BF.mp b;exact (List.getElem_inj c).mp (d.trans e.symm)
theorem M7 {M:Model} {A:Around} {E:cQ} {i:Nat} {x:Str} {v:V} {u:Value} {Q:Unit->Shared->Prop} (I:Inv X pins σ H s) (hN:X.N.Nodup) (O:X.N[i]?=some x) (C:aU X.env.scope x) (r:RelV v u)
  (h:∀ s',Inv X pins (σ.set i (some v)) H s'->(∃ a,Heap.SameBut a s.heap s'.heap/\(a=X.env.locals\/X.env.cells.lookup x=some a))->Q Unit.unit s') (hf:X.fn x=true\/X.env.scope.names.lookup x=some .local:=by first | exact .inl rfl | exact .inr rfl | assumption):wpAny M A (storeName X.env x u) Q E s:=by
 obtain ⟨m,hn,hl⟩:=id I.loc;have P:(X.env.scope.kind == .class || (X.env.scope.kind == .module && X.env.locals != X.env.globals))=false:=by rw [I.ok.kind];rfl
 have G:i<σ.length:=by rw [I.len];exact (BF.mp O).1
 have J:=I.cne
 have g:∀ {a:Addr} {h':Heap},(∃ o,s.heap.get? a=some o/\H a=none)->Heap.SameBut a s.heap h'->HOk X.prog X.w H h':=λ{a h'} ha f b ob e=>by
  obtain ⟨_,_,D⟩:=ha;refine (I.hok b ob e).stay (λc W B q=>(f.2 c ?_).trans q) (λ_ q=>q) λ_ _ q=>q;rintro rfl;rcases B with rfl | B
  ·rw [D] at e;cases e
  ·rw [D] at B;cases B
 rcases C with hk | hk
 ·refine wpAny_storeName_local hk hn (λh' a0 f=>?_) P;obtain ⟨oL,_,_,a1,_⟩:=id hn;refine h _ ⟨I.ok,I.os,I.bare,⟨λb o e n K C=>?_,λb o e n K C=>?_,I.base.free,λb o e C=>?_,I.base.tups,I.base.frzs,I.base.tbls⟩,⟨_,a0,λj y v' w F e3=>?_⟩,λy c e=>?_,I.free,I.freeC,λp hp=>?_,g ⟨oL,a1,I.free⟩ f,by simpa using I.len⟩ ⟨_,f,.inl rfl⟩
  ·exact (f.2 b (A6 (CA (pH e) I.ok.above))).trans (I.base.keep b o e n K C)
  ·obtain ⟨sl,w⟩:=I.base.slot b o e n K C;exact ⟨sl,(f.2 b (A6 (CA (pH e) I.ok.above))).trans w⟩
  ·obtain ⟨o',w⟩:=I.base.there b o e C;exact ⟨o',(f.2 b (A6 (CA (pH e) I.ok.above))).trans w⟩
  ·by_cases L:j=i
   ·subst L;rw [O] at w;cases w;rw [List.getElem?_set_self G] at F;cases F;exact ⟨u,r,.inl ⟨hk,by simp⟩⟩
   ·rw [List.getElem?_set_ne (Ne.symm L)] at F;obtain ⟨u',r',q⟩:=hl j y v' w F e3;refine ⟨u',r',?_⟩;rcases q with ⟨k,e⟩ | ⟨k,c,e,z⟩
    ·refine .inl ⟨k,?_⟩;have:y≠x:=λe=>L (M6 hN w (e ▸ O));simp [this,e]
    ·exact .inr ⟨k,c,e,z.sameBut f (J y c e)⟩
  ·obtain ⟨W,z⟩:=I.cell y c e;exact ⟨W,z.sameBut f (J y c e)⟩
  ·obtain ⟨e,n,Y,nf,d⟩:=I.pin p hp;exact ⟨(f.2 p.1 Y).trans e,n,Y,nf,d⟩
 ·have N:X.fn x=true:=by
   rcases hf with z | z
   ·exact z
   ·rw [z] at hk;cases hk
  obtain ⟨c,B⟩:=I.ok.has x (.inl hk);obtain ⟨W,z⟩:=I.cell x c B;refine wpAny_storeName_cell I.ok.kind hk B z (λh' R f=>?_);obtain ⟨oc,S,T⟩:=id z;refine h { s with heap:=h' } ⟨I.ok,I.os,I.bare,⟨λb o e n K C=>?_,λb o e n K C=>?_,I.base.free,λb o e C=>?_,I.base.tups,I.base.frzs,I.base.tbls⟩,⟨m,hn.sameBut f (Ne.symm (J x c B)),λj y v' w F e3=>?_⟩,λy Z e=>?_,I.free,I.freeC,λp hp=>?_,g ⟨oc,S,I.freeC x c B⟩ f,by simpa using I.len⟩ ⟨c,f,.inr B⟩
  ·exact (f.2 b (A6 (CA (pH e) (I.ok.cab x c N B)))).trans (I.base.keep b o e n K C)
  ·obtain ⟨sl,w⟩:=I.base.slot b o e n K C;exact ⟨sl,(f.2 b (A6 (CA (pH e) (I.ok.cab x c N B)))).trans w⟩
  ·obtain ⟨o',w⟩:=I.base.there b o e C;exact ⟨o',(f.2 b (A6 (CA (pH e) (I.ok.cab x c N B)))).trans w⟩
  ·by_cases L:j=i
   ·subst L;rw [O] at w;cases w;rw [List.getElem?_set_self G] at F;cases F;exact ⟨u,r,.inr ⟨.inl hk,c,B,R⟩⟩
   ·rw [List.getElem?_set_ne (Ne.symm L)] at F;obtain ⟨u',r',q⟩:=hl j y v' w F e3;refine ⟨u',r',?_⟩;rcases q with q | ⟨k,Z,e,z'⟩
    ·exact .inl q
    ·refine .inr ⟨k,Z,e,z'.sameBut f ?_⟩;rintro rfl;exact L (M6 hN w (I.ok.inj _ _ _ e B ▸ O))
  ·by_cases U:Z=c
   ·subst U;exact ⟨_,R⟩
   ·obtain ⟨w2,z2⟩:=I.cell y Z e;exact ⟨w2,z2.sameBut f U⟩
  ·obtain ⟨e,n,Y,nf,d⟩:=I.pin p hp;refine ⟨(f.2 p.1 ?_).trans e,n,Y,nf,d⟩;intro q;rw [q,S] at e;have q':oc=p.2:=pE e;exact d W (by rw [<-q'];exact T)
theorem Kg {M:Model} {A:Around} {E:cQ} {i:Nat} {x:Str} {v:V} {u:Value} {Q:Unit->Shared->Prop} (I:Inv X pins σ H s) (b:X.N.Nodup) (c:X.N[i]?=some x) (d:aU X.env.scope x) (r:RelV v u)
  (h:∀ a,Inv X pins (σ.set i (some v)) H a->Q Unit.unit a) (e:X.fn x=true\/X.env.scope.names.lookup x=some .local:=by first | exact .inl rfl | exact .inr rfl | assumption):wpAny M A (storeName X.env x u) Q E s:=
 M7 I b c d r (λa f _=>h a f) e
theorem Inv.call' {s':Shared} {ch:c_} (I:Inv X pins σ H s) (i:s'.os=s.os) (u:Un (au X.stack) ch H H' s.heap s'.heap) (a:HOk X.prog X.w H' s'.heap) (j:AllBare s'.gens)
  (d:∀ b∈ch,(b∈X.ex\/X.s₀.heap.objs.size<=b)/\b≠X.env.locals/\(∀ x c,X.env.cells.lookup x=some c->c≠b)/\∀ p∈X.pn++pins,p.1≠b):Inv X pins σ H' s':=by
 obtain ⟨h',f,g,h,k⟩:=s';have e:k=s.os:=i;subst e;exact I.call (g':=f) (t':=h) (d':=g) u a j d
end
noncomputable abbrev XK:=Value->Option Addr->Hp->Prop
noncomputable abbrev St:=List (cN)
noncomputable abbrev VK:=V->Hp->Prop
noncomputable abbrev TE:=St->Hp->VK->Prop
noncomputable abbrev TT:=St->Hp->(Bool->Hp->Prop)->Prop
noncomputable abbrev TA:=St->Hp->(cM->Hp->Prop)->Prop
structure Ends where
 nx:St->Hp->Prop
 rt:VK
 bk:St->Hp->Prop:=λ_ _=>False
 ct:St->Hp->Prop:=λ_ _=>False
noncomputable abbrev TS:=Ends->St->Hp->Prop
def EP (X:Cx) (a:cS) (c:St) (Q:VK) (u:Value) (s':Shared):Prop:=∃ v b,Inv X a c b s'/\RelV v u/\Q v b
def TP (X:Cx) (a:cS) (d:St) (Q:Bool->Hp->Prop) (b:Bool) (s':Shared):Prop:=∃ c,Inv X a d c s'/\Q b c
def AP (X:Cx) (a:cS) (d:St) (Q:cM->Hp->Prop) (e:cP) (s':Shared):Prop:=∃ b c,Inv X a d c s'/\Vals b e/\Q b c
def SP (X:Cx) (b:cS) (D:Ends) (f:Flow) (s':Shared):Prop:=
 match f with
 | .next=>∃ a c,Inv X b a c s'/\D.nx a c
 | .brk=>∃ a c,Inv X b a c s'/\D.bk a c
 | .cont=>∃ a c,Inv X b a c s'/\D.ct a c
 | .ret u=>∃ v a c,Inv X b a c s'/\RelV v u/\D.rt v c
def PE (X:Cx) (e:Expr) (t:TE):Prop:=
 ∀ (a:cS) (s:Shared) (b:St) (H:Hp) (Q:VK),Inv X a b H s->t b H Q->wpAny (model X.prog X.w) X.A (eval e X.env) (EP X a b Q) X.xe s
def PT (X:Cx) (e:Expr) (t:TT):Prop:=
 ∀ (a:cS) (s:Shared) (b:St) (H:Hp) (Q:Bool->Hp->Prop),Inv X a b H s->t b H Q->wpAny (model X.prog X.w) X.A (isTrue e X.env (eval e X.env)) (TP X a b Q) X.xe s
def PW (X:Cx) (e:Expr) (t:TT):Prop:=
 ∀ (b:Sem Value) (a:cS) (s:Shared) (c:St) (H:Hp) (Q:Bool->Hp->Prop),Inv X a c H s->t c H Q->wpAny (model X.prog X.w) X.A (isTrue e X.env b) (TP X a c Q) X.xe s
theorem PW.pt {X:Cx} {e:Expr} {t:TT} (h:PW X e t):PT X e t:=h _
def PA (X:Cx) (es:cV) (t:TA):Prop:=
 ∀ (b:Pos) (a:cS) (s:Shared) (c:St) (H:Hp) (Q:cM->Hp->Prop),Inv X a c H s->t c H Q->wpAny (model X.prog X.w) X.A (spliced (backTo b (starEach es X.env))) (AP X a c Q) X.xe s
def PS (X:Cx) (st:Stmt) (t:TS):Prop:=
 ∀ (a:cS) (s:Shared) (b:St) (H:Hp) (D:Ends),Inv X a b H s->t D b H->wpAny (model X.prog X.w) X.A (exec st X.env) (SP X a D) X.xe s
def PSs (X:Cx) (st:List Stmt) (t:TS):Prop:=
 ∀ (a:cS) (s:Shared) (b:St) (H:Hp) (D:Ends),Inv X a b H s->t D b H->wpAny (model X.prog X.w) X.A (execs st X.env) (SP X a D) X.xe s
theorem H_ {b:Type} {t:Sem b} {Q c:b->Shared->Prop} {M:Model} {A:Around} {E:cQ} {s:Shared} (h:wpAny M A t Q E s) (d:∀ a s,Q a s->c a s):wpAny M A t c E s:=pC h d λ_ _ x=>x
section
variable {X:Cx}
def AA (i:Nat):TE:=λa H Q=>∃ v,a[i]?=some (some v)/\Q v H
def tC (v:V):TE:=λ_ H Q=>Q v H
theorem UJ {i:Nat} {x:Str} {pos:Pos} (k:X.N[i]?=some x) (n:bR X.env.scope x) (f:(x == ("__debug__" : Str))=false:=by decide) (g:(x == ("__classdict__" : Str))=false:=by decide):PE X (.Name x pos) (AA i):=by
 intro d s o H Q I h;obtain ⟨v,e,h⟩:=h;obtain ⟨m,p,q⟩:=I.loc;obtain ⟨u,r,l⟩:=q i x v k e n;have b:EP X d o Q u s:=⟨v,H,I,r,h⟩;rcases l with ⟨hk,w⟩ | ⟨hk,c,j,a⟩
 ·exact wpAny_Name (wpAny_loadName_local I.ok.kind hk p w b) f
 ·rcases hk with hk | hk
  ·exact wpAny_Name (wpAny_loadName_cell I.ok.kind hk j a b) f
  ·exact wpAny_Name (wpAny_loadName_free I.ok.kind hk j a b g) f
theorem AF {i j pos}:PE X (.Constant (.int i) j pos) (tC (.int i)):=λ_ _ _ H _ I h=>wpAny_Constant_int ⟨.int i,H,I.tok _,⟨_,rfl⟩,h⟩
theorem EX {b j pos}:PE X (.Constant (.bool b) j pos) (tC (.bl b)):=λ_ _ _ H _ I h=>Constant_bool ⟨.bl b,H,I,rfl,h⟩
theorem GD {j pos}:PE X (.Constant .none j pos) (tC .non):=λ_ _ _ H _ I h=>Constant_none ⟨.non,H,I,rfl,h⟩
theorem DC {x j pos}:PE X (.Constant (.str x) j pos) (tC (.str x)):=λ_ _ _ H _ I h=>Calls.Constant_str ⟨.str x,H,I.tok _,⟨_,rfl⟩,h⟩
def Gl (X:Cx) (x:Str):Prop:=X.env.kindOf x=some .globalImplicit
theorem M9 {E:cQ} {a:cS} {s:Shared} {b:St} {H:Hp} {x:Str} {u:Value} {pos:Pos} {Q:cQ} (I:Inv X a b H s) (c:Gl X x) (d:X.mg x=some u) (h:Q u s)
  (e:(x == ("__debug__" : Str))=false:=by decide):wpAny (model X.prog X.w) X.A (eval (.Name x pos) X.env) Q E s:=
 Calls.Name_function_global I.ok.kind c (Calls.loadGlobal_global (by rw [I.ok.glob];exact I.mod.glob.keeps I.bk) d h) e
theorem EC {E:cQ} {a:cS} {s:Shared} {b:St} {H:Hp} {x:Str} {u:Value} {pos:Pos} {Q:cQ} (I:Inv X a b H s) (c:Gl X x) (d:X.mg x=none) (e:bootBuiltins x=some u) (h:Q u s)
  (f:x ≠ "__name__" := by decide) (g:(x == ("__debug__" : Str))=false:=by decide):wpAny (model X.prog X.w) X.A (eval (.Name x pos) X.env) Q E s:=by
 obtain ⟨k,i,j⟩:=I.mod.blt;exact Calls.Name_function_global I.ok.kind c (Calls.loadGlobal_builtin (by rw [I.ok.glob];exact I.mod.glob.keeps I.bk) d (by rw [I.ok.blt];exact i.keeps I.bk) ((j x f).trans e) h) g
theorem UK {x:Str} {v:V} {u:Value} {pos:Pos} (a:Gl X x) (b:X.mg x=some u) (r:RelV v u) (c:(x == ("__debug__" : Str))=false:=by decide):PE X (.Name x pos) (tC v):=
 λ_ _ _ H _ I h=>M9 I a b ⟨v,H,I,r,h⟩ c
theorem FT {x:Str} {v:V} {u:Value} {pos:Pos} (a:Gl X x) (b:X.mg x=none) (c:bootBuiltins x=some u) (r:RelV v u) (d:x ≠ "__name__" := by decide) (e:(x == ("__debug__" : Str))=false:=by decide):PE X (.Name x pos) (tC v):=
 λ_ _ _ H _ I h=>EC I a b c ⟨v,H,I,r,h⟩ d e
variable {a b:Expr} {ta tb:TE} {pos:Pos}
def tB (t:TE):TT:=λd H Q=>t d H λx e=>∃ c,x=.bl c/\Q c e
theorem Ds {e:Expr} {t:TE} (h:PE X e t) (g:∀ c,isTrue e X.env c=(do let v <-c;standAt e.pos;holding [v] (truthy v)):=by intro _;rfl):PT X e (tB t):=by
 intro f s i H Q I j;refine isTrue_plain (H_ (h f s i H _ I j) λv s1 ⟨x,k,m,n,o⟩=>?_) (g _);obtain ⟨d,rfl,q⟩:=o;cases n;exact wpAny_truthy_bool ⟨k,m,q⟩
variable {tA tB':TT} {rest:cV}
def Dt (t u:TT):TT:=λd H Q=>t d H λc e=>if c=true then u d e Q else Q false e
def az (t u:TT):TT:=λd H Q=>t d H λc e=>if c=true then Q true e else u d e Q
def Dc (t:TT):TT:=λd H Q=>t d H λc e=>Q (!c) e
theorem Ez (f:PT X a tA):PW X (.BoolOp .And [a] pos) tA:=by
 intro i d s g H Q I h;refine isTrue_and (H_ (f d s g H Q I h) λc s1 e=>?_);cases c with
 | true=>exact isTrue_and_nil e
 | false=>exact e
theorem GE (f:PT X a tA):PW X (.BoolOp .Or [a] pos) tA:=by
 intro i d s g H Q I h;refine isTrue_or (H_ (f d s g H Q I h) λc s1 e=>?_);cases c with
 | false=>exact isTrue_or_nil e
 | true=>exact e
theorem E1 (j:PT X a tA) (k:PW X (.BoolOp .And (b::rest) pos) tB'):PW X (.BoolOp .And (a::b::rest) pos) (Dt tA tB'):=by
 intro m d s e H Q I h;refine isTrue_and (H_ (j d s e H _ I h) λc s1 ⟨f,g,i⟩=>?_);cases c with
 | true=>exact k m d s1 e f Q g i
 | false=>exact ⟨f,g,i⟩
theorem E2 (j:PT X a tA) (k:PW X (.BoolOp .Or (b::rest) pos) tB'):PW X (.BoolOp .Or (a::b::rest) pos) (az tA tB'):=by
 intro m d s e H Q I h;refine isTrue_or (H_ (j d s e H _ I h) λc s1 ⟨f,g,i⟩=>?_);cases c with
 | true=>exact ⟨f,g,i⟩
 | false=>exact k m d s1 e f Q g i
theorem ED (e:PT X a tA):PT X (.UnaryOp .Not a pos) (Dc tA):=by
 intro d s f H Q I h;exact isTrue_not (e d s f H (λc g=>Q (!c) g) I h)
def E3 (ta tb:TE):TE:=λd H Q=>ta d H λx e=>∃ c,x=.bl c/\if c=true then tb d e Q else Q (.bl false) e
def UL (ta tb:TE):TE:=λd H Q=>ta d H λx e=>∃ c,x=.bl c/\if c=true then Q (.bl true) e else tb d e Q
def UM (ta:TE):TE:=λd H Q=>ta d H λx e=>∃ c,x=.bl c/\Q (.bl (!c)) e
theorem Kh {op} {t:TE} (h:PE X a t):PE X (.BoolOp op [a] pos) t:=λc s d H Q I e=>BoolOp_one (h c s d H Q I e)
theorem GF (j:PE X a ta) (k:PE X (.BoolOp .And (b::rest) pos) tb):PE X (.BoolOp .And (a::b::rest) pos) (E3 ta tb):=by
 intro d s f H Q I h;refine BoolOp_and (H_ (j d s f H _ I h) λv s1 ⟨x,g,i,m,e⟩=>?_);obtain ⟨c,rfl,e⟩:=e;cases m;refine wpAny_truthy_bool ?_;cases c with
 | true=>exact k d s1 f g Q i e
 | false=>exact ⟨.bl false,g,i,rfl,e⟩
def aY (t:TT) (ta tb:TE):TE:=λd H Q=>t d H λc e=>if c=true then ta d e Q else tb d e Q
theorem JB {c:Expr} (k:PT X c tA) (m:PE X a ta) (n:PE X b tb):PE X (.IfExp c a b pos) (aY tA ta tb):=by
 intro e s f H Q I h;refine wpAny_IfExp (H_ (k e s f H _ I h) λd s1 ⟨g,i,j⟩=>?_);cases d with
 | true=>exact m e s1 f g Q i j
 | false=>exact n e s1 f g Q i j
end
def SqL (K:W.Frag) (H:Hp) (a:Addr) (xs:cM):Prop:=
 Rd H a (.lst xs)\/
  ∃ (o:Obj) (b:Array Value) (n:Nat),K.lookup a=some o/\o.cls=.type "list" /\ o.dict=none/\o.data=.seq b n/\b.size<=sizeLine/\Vals xs b.toList
def SqT (K:W.Frag) (H:Hp) (a:Addr) (xs:cM):Prop:=
 Rd H a (.tup xs)\/
  ∃ (o:Obj) (b:Array Value) (n:Nat),K.lookup a=some o/\o.cls=.type "tuple" /\ o.data=.seq b n/\b.size<=sizeLine/\Vals xs b.toList
noncomputable def UN:Value->cN
 | .none=>some .non
 | .bool b=>some (.bl b)
 | .int i _=>some (.int i)
 | .str x _=>some (.str x)
 | .bytes b _=>some (.byt b)
 | .float b _=>some (.flt b)
 | .ref a=>some (.ref a)
 | .type n=>some (.ty n)
 | _=>none
theorem RelV.abs {x:V} {u:Value} (r:RelV x u):UN u=some x:=by
 cases x with
 | non=>cases r;rfl
 | bl _=>cases r;rfl
 | int _=>obtain ⟨t,rfl⟩:=r;rfl
 | str _=>obtain ⟨t,rfl⟩:=r;rfl
 | byt _=>obtain ⟨t,rfl⟩:=r;rfl
 | flt _=>obtain ⟨t,rfl⟩:=r;rfl
 | ref _=>cases r;rfl
 | ty _=>cases r;rfl
theorem RelV.inj {x y:V} {u:Value} (r:RelV x u) (q:RelV y u):x=y:=pE (r.abs.symm.trans q.abs)
theorem Vals.inj:∀ {xs ys:cM} {a:cP},Vals xs a->Vals ys a->xs=ys
 | _,_,_,.nil,.nil=>rfl
 | _,_,_,.cons r t,.cons b c=>by rw [r.inj b,Vals.inj t c]
section
variable {X:Cx} {pins:cS} {σ:St} {H:Hp} {s:Shared} {a:Addr} {xs ys:cM}
theorem SqL.of {K:W.Frag} (h:H a=some (.lst xs)):SqL K H a xs:=.inl (.inl h)
theorem SqT.of {K:W.Frag} (h:H a=some (.tup xs)):SqT K H a xs:=.inl (.inl h)
theorem Inv.list (I:Inv X pins σ H s) (h:SqL X.K H a xs):∃ b:cP,Vals xs b/\PlainL s.heap a b.toArray/\xs.length<=sizeLine:=by
 rcases h with h | ⟨o,b,n,hk,c,d,f,g,r⟩
 ·obtain ⟨z,b,n,r,e⟩:=h.ok I.hok;exact ⟨b,r,⟨_,n,e,rfl,rfl,rfl⟩,z⟩
 ·refine ⟨b.toList,r,⟨o,n,I.kIn a o hk,c,d,by simpa using f⟩,?_⟩;have e:=r.length;simp only [Array.length_toList] at e;omega
theorem Inv.tuple (I:Inv X pins σ H s) (h:SqT X.K H a xs):∃ b:cP,Vals xs b/\IsTup s.heap a b.toArray/\xs.length<=sizeLine:=by
 rcases h with h | ⟨o,b,n,hk,c,d,f,r⟩
 ·obtain ⟨z,b,r,p⟩:=h.ok I.hok;exact ⟨b,r,p,z⟩
 ·refine ⟨b.toList,r,⟨o,I.kIn a o hk,c,n,by simpa using d⟩,?_⟩;have e:=r.length;simp only [Array.length_toList] at e;omega
theorem Inv.list_inj (I:Inv X pins σ H s) (h:SqL X.K H a xs) (h':SqL X.K H a ys):xs=ys:=by
 obtain ⟨c,r,⟨o,n,e,_,_,d⟩,_⟩:=I.list h;obtain ⟨b,i,⟨k,m,f,_,_,g⟩,_⟩:=I.list h';rw [e] at f;cases f;rw [d] at g;injection g with j _;have:c=b:=by simpa using congrArg Array.toList j
 subst this;exact r.inj i
theorem Inv.tuple_inj (I:Inv X pins σ H s) (h:SqT X.K H a xs) (h':SqT X.K H a ys):xs=ys:=by
 obtain ⟨c,r,⟨o,e,_,n,d⟩,_⟩:=I.tuple h;obtain ⟨b,i,⟨k,f,_,m,g⟩,_⟩:=I.tuple h';rw [e] at f;cases f;rw [d] at g;injection g with j _;have:c=b:=by simpa using congrArg Array.toList j
 subst this;exact r.inj i
end
noncomputable abbrev Cx.wish (X:Cx) (E:cQ):Cx:={ X with xe:=E }
noncomputable abbrev Cx.nox (X:Cx):Cx:=X.wish λ_ _=>False
theorem Cx.Ok.wish {X:Cx} (ok:X.Ok) (E:cQ):(X.wish E).Ok:=
 ⟨ok.mod,ok.kind,ok.glob,ok.blt,ok.above,ok.inj,ok.has,ok.cab,ok.hd,ok.frames,ok.stk,ok.exf,ok.bs,ok.bsz,ok.noex,ok.exfs,ok.funs,ok.frf,ok.seer,ok.tree,ok.plr⟩
theorem Cx.Ok.unwish {X:Cx} {E:cQ} (ok:(X.wish E).Ok):X.Ok:=
 ⟨ok.mod,ok.kind,ok.glob,ok.blt,ok.above,ok.inj,ok.has,ok.cab,ok.hd,ok.frames,ok.stk,ok.exf,ok.bs,ok.bsz,ok.noex,ok.exfs,ok.funs,ok.frf,ok.seer,ok.tree,ok.plr⟩
section
variable {X:Cx} {pins:cS} {σ:St} {H:Hp} {s:Shared} {E:cQ}
theorem Inv.wish (I:Inv X pins σ H s) (E:cQ):Inv (X.wish E) pins σ H s:=⟨I.ok.wish E,I.os,I.bare,I.base,I.loc,I.cell,I.free,I.freeC,I.pin,I.hok,I.len⟩
theorem Inv.unwish (I:Inv (X.wish E) pins σ H s):Inv X pins σ H s:=⟨I.ok.unwish,I.os,I.bare,I.base,I.loc,I.cell,I.free,I.freeC,I.pin,I.hok,I.len⟩
theorem SP.unwish {D:Ends} {f:Flow} {s':Shared} (h:SP (X.wish E) pins D f s'):SP X pins D f s':=by
 cases f with
 | next=>obtain ⟨a,b,I,q⟩:=h;exact ⟨a,b,I.unwish,q⟩
 | brk=>obtain ⟨a,b,I,q⟩:=h;exact ⟨a,b,I.unwish,q⟩
 | cont=>obtain ⟨a,b,I,q⟩:=h;exact ⟨a,b,I.unwish,q⟩
 | ret u=>obtain ⟨v,a,b,I,r,q⟩:=h;exact ⟨v,a,b,I.unwish,r,q⟩
theorem PSs.nox {st:List Stmt} {t:TS} (h:PSs X.nox st t):PSs X st t:=λpins s σ H D I a=>
 pC (h pins s σ H D (I.wish _) a) (λ_ _ q=>q.unwish) λ_ _ z=>False.elim z
end
section
variable {X:Cx} {st:Stmt} {rest:List Stmt} {t u:TS} {e:Expr} {te:TE} {pos:Pos}
def BN:TS:=λD a H=>D.nx a H
def AH (t u:TS):TS:=λD a H=>t { D with nx:=u D } a H
theorem Be:PSs X [] BN:=λ_ _ a H _ I h=>wpAny_execs_nil ⟨a,H,I,h⟩
theorem AK (c:PS X st t) (d:PSs X rest u):PSs X (st::rest) (AH t u):=by
 intro a s g H D I h;refine wpAny_execs_cons (H_ (c a s g H { D with nx:=u D } I h) λf s1 q=>?_);cases f with
 | next=>
   obtain ⟨b,i,j,q⟩:=q;exact d a s1 b i D j q
 | ret v=>exact q
 | brk=>exact q
 | cont=>exact q
theorem AQ (b:PS X st t):PSs X [st] t:=by
 intro a s c H D I h;refine wpAny_execs_cons (H_ (b a s c H D I h) λf s1 q=>?_);cases f with
 | next=>exact wpAny_execs_nil q
 | ret v=>exact q
 | brk=>exact q
 | cont=>exact q
theorem Inv.quiet {a:cS} {b:St} {H:Hp} {s:Shared} (I:Inv X a b H s):interactive X.env=false:=by simp [interactive,I.ok.kind]
def EY (te:TE):TS:=λD a H=>te a H λ_ b=>D.nx a b
theorem GH (c:PE X e te) (d:swapsWith e none pos.line X.env=pure false:=by rfl):PS X (.Expr e pos) (EY te):=by
 intro a s b H D I h;exact wpAny_Expr_any (H_ (c a s b H _ I h) λv s1 ⟨x,f,g,j,i⟩=>⟨b,f,g,i⟩) I.quiet d
def AX (te:TE):TS:=λD a H=>te a H D.rt
theorem AY (c:PE X e te):PS X (.Return (some e) pos) (AX te):=by
 intro a s b H D I h;exact wpAny_Return_some (H_ (c a s b H _ I h) λv s1 ⟨x,d,f,g,i⟩=>⟨x,b,d,f,g,i⟩)
def BJ (c:TT) (t u:TS):TS:=λD a H=>c a H λb d=>if b=true then t D a d else u D a d
theorem BY {c:Expr} {a b:List Stmt} {tc:TT} (m:PT X c tc) (n:PSs X a t) (o:PSs X b u):PS X (.If c a b pos) (BJ tc t u):=by
 intro f s g H D I h;refine wpAny_If (H_ (m f s g H _ I h) λd s1 ⟨i,j,k⟩=>?_);cases d with
 | true=>exact n f s1 g i D j k
 | false=>exact o f s1 g i D j k
end
noncomputable abbrev TG:=V->St->Hp->(St->Hp->Prop)->Prop
noncomputable abbrev aK:=cM->St->Hp->(St->Hp->Prop)->Prop
def PG (X:Cx) (a:Expr) (t:TG):Prop:=
 ∀ (b:cS) (s:Shared) (d:St) (H:Hp) (v:V) (u:Value) (Q:St->Hp->Prop),Inv X b d H s->RelV v u->t v d H Q->
   wpAny (model X.prog X.w) X.A (assign a X.env u) (λ_ f=>∃ c e,Inv X b c e f/\Q c e) X.xe s
def bS (X:Cx) (g:cV) (t:aK):Prop:=
 ∀ (a:cS) (s:Shared) (c:St) (H:Hp) (d:cM) (e:cP) (Q:St->Hp->Prop),Inv X a c H s->Vals d e->t d c H Q->
   wpAny (model X.prog X.w) X.A (assignInOrder ((assignEach g X.env).map (·.2)) e) (λ_ h=>∃ b f,Inv X a b f h/\Q b f) X.xe s
noncomputable abbrev aC:=V->V->V->Hp->(Hp->Prop)->Prop
def aD (X:Cx) (t:aC):Prop:=
 ∀ (a:cS) (s:Shared) (b:St) (H:Hp) (o i v:V) (c d u:Value) (Q:Hp->Prop),Inv X a b H s->RelV o c->RelV i d->RelV v u->t o i v H Q->
   wpAny (model X.prog X.w) X.A (setItem c d u) (λ_ f=>∃ e,Inv X a b e f/\Q e) X.xe s
noncomputable abbrev bT:=V->V->Hp->VK->Prop
def PIp (X:Cx) (c:Operator) (t:bT):Prop:=
 ∀ (a:cS) (s:Shared) (b:St) (H:Hp) (x y:V) (v u:Value) (Q:VK),Inv X a b H s->RelV x v->RelV y u->t x y H Q->
   wpAny (model X.prog X.w) X.A (inplaceOp c v u) (EP X a b Q) X.xe s
section
variable {X:Cx} {pos:Pos}
def AE (i:Nat):TG:=λv a H Q=>Q (a.set i (some v)) H
theorem Ah {i:Nat} {x:Str} (b:X.N.Nodup) (c:X.N[i]?=some x) (d:aU X.env.scope x) (e:X.fn x=true\/X.env.scope.names.lookup x=some .local:=by first | exact .inl rfl | exact .inr rfl | assumption):PG X (.Name x pos) (AE i):=by
 intro a s g H v u Q I r h;exact wpAny_assign_Name (Kg I b c d r (λj f=>⟨_,H,f,h⟩) e)
noncomputable def Cd:aK:=λa b H Q=>a=[]/\Q b H
noncomputable def BK (t:TG) (u:aK):aK:=λb c H Q=>∃ v r,b=v::r/\t v c H λa d=>u r a d Q
theorem DE:bS X [] Cd:=by
 intro a s b H c d Q I r h;obtain ⟨e,h⟩:=h;subst e;cases r;exact assignInOrder_nil ⟨b,H,I,h⟩
theorem Bg {e:Expr} {es:cV} {t:TG} {u:aK} (c:PG X e t) (d:bS X es u)
  (f:(assignEach (e::es) X.env).map (·.2)=assign e X.env::(assignEach es X.env).map (·.2):=by rfl):bS X (e::es) (BK t u):=by
 intro a s g H o p Q I r h;obtain ⟨v,q,i,h⟩:=h;subst i;cases r with
 | cons r j=>
   rw [f];refine assignInOrder_cons (H_ (c a s g H _ _ _ I r h) λ_ s1 ⟨b,k,m,n⟩=>?_);exact d a s1 b k _ _ Q m j n
def UO (K:W.Frag) (n:Nat) (t:aK):TG:=λv c H Q=>∃ a b,v=.ref a/\SqT K H a b/\b.length=n/\t b c H Q
theorem UP {es:cV} {k:Nat} {t:aK} {n:Nat} (m:X.calm=true) (h:bS X es t)
  (p:(assignEach es X.env).length=n:=by rfl) (d:(assignEach es X.env).findIdx? (·.1)=none:=by rfl):PG X (.Tuple es k pos) (UO X.K n t):=by
 intro c s g H v u Q I r f;obtain ⟨a,q,w,x,y,f⟩:=f;subst w;cases r;obtain ⟨z,i,A,E⟩:=I.tuple x;refine assign_Tuple_tuple (I.ok.hd m) A (by simp [p,<-y,i.length]) d λB C=>?_;have D:Inv X c g H { s with heap:=B }:=I.kept (t':=s.toks) λb o e=>C b o (A6 (pH e)) e;exact h c _ g H q _ Q D (by simpa using i) f
def Du (b c:TE) (t:aC):TG:=λv a H Q=>b a H λo d=>c a d λi e=>t o i v e λf=>Q a f
theorem FU {o i:Expr} {e f:TE} {t:aC} (g:PE X o e) (j:PE X i f) (k:aD X t)
  (m:∀ v,assign (.Subscript o i pos) X.env v=(do
   let b <-holding [v] (eval o X.env);let c <-holding [v,b] (eval i X.env)
   standAt pos
   holding [v,b,c] (setItem b c v)
   release [v,b,c] []):=by intro _;rfl):PG X (.Subscript o i pos) (Du e f t):=by
 intro a s d H v u Q I r h;rw [m];refine qY (wpAny_holding (H_ (g a s d H _ I h) λb s1 ⟨x,n,p,q,w⟩=>?_));refine qY (wpAny_holding (H_ (j a s1 d n _ p w) λc z ⟨y,A,B,C,D⟩=>?_));refine qY (wpAny_standAt (qY (wpAny_holding (H_ (k a z d A x y v b c u _ B q C r D) λ_ J ⟨E,F,G⟩=>?_))));exact wpAny_release ⟨d,E,F,G⟩
def AM (b:TE) (g:TG):TS:=λD a H=>b a H λx c=>g x a c D.nx
theorem FV {b e:Expr} {c:TE} {g:TG} (f:PE X e c) (i:PG X b g) (j:swapsWithSole [b] e pos.line X.env=pure false:=by rfl) (k:swappedStores [b] e X.env=pure none:=by rfl)
  (m:(assignEach [b] X.env).map (·.2)=[assign b X.env]:=by rfl):PS X (.Assign [b] e pos) (AM c g):=by
 intro a s d H D I h;refine wpAny_Assign_stores (H_ (f a s d H _ I h) λv s1 ⟨x,n,o,p,r⟩=>?_) j k;rw [m];exact H_ (i a s1 d n x v _ o p r) λ_ u q=>q
theorem Cr {i:Nat} {x:Str} {e:Expr} {c:TE} {a:Pos} (d:X.N.Nodup) (f:X.N[i]?=some x) (g:aU X.env.scope x) (j:PE X e c) (k:swapsWith e (some (.Name x a)) pos.line X.env=pure false:=by rfl) (m:X.fn x=true\/X.env.scope.names.lookup x=some .local:=by first | exact .inl rfl | exact .inr rfl | assumption) :
  PS X (.Assign [.Name x a] e pos) (AM c (AE i)):=by
 intro b s n H D I h;refine wpAny_Assign_Name (H_ (j b s n H _ I h) λv s1 ⟨y,o,p,q,r⟩=>?_) k;exact Kg p d f g q (λw u=>⟨_,o,u,r⟩) m
def UQ (i j:Nat) (b:TA):TS:=λD a H=>b a H λc d=>∃ v w,c=[v,w]/\D.nx ((a.set i (some v)).set j (some w)) d
def EZ (i:Nat) (b:TE) (c:bT):TS:=λD a H=>∃ x,a[i]?=some (some x)/\b a H λy d=>c x y d λz e=>D.nx (a.set i (some z)) e
theorem FW {i:Nat} {x:Str} {e:Expr} {p:TE} {j:Operator} {q:bT} {d:Pos} (E:X.N.Nodup) (A:X.N[i]?=some x) (n:aU X.env.scope x) (F:PE X e p) (G:PIp X j q) (J:X.fn x=true\/X.env.scope.names.lookup x=some .local:=by first | exact .inl rfl | exact .inr rfl | assumption) :
  PS X (.AugAssign (.Name x d) j e pos) (EZ i p q):=by
 intro a s B H D I h;obtain ⟨v,K,h⟩:=h;obtain ⟨m,L,M⟩:=I.loc;have o:bR X.env.scope x:=by rcases n with k | k;exact .inl k;exact .inr (.inl k)
 obtain ⟨u,r,l⟩:=M i x v A K o;refine wpAny_AugAssign_Name ?_
 have C:wpAny (model X.prog X.w) X.A (eval e X.env) (λw f=>wpAny (model X.prog X.w) X.A (inplaceOp j u w) (λr g=>wpAny (model X.prog X.w) X.A (storeName X.env x r) (λ_=>SP X a D .next) X.xe g) X.xe f) X.xe s:=by
  refine H_ (F a s B H _ I h) λw s1 ⟨y,N,O,P,Q⟩=>?_;refine H_ (G a s1 B N v y u w _ O r P Q) λz s2 ⟨zv,R,S,T,U⟩=>?_;exact Kg S E A n T (λs3 W=>⟨_,R,W,U⟩) J
 rcases l with ⟨hk,Y⟩ | ⟨hk,c,Z,b⟩
 ·exact wpAny_loadName_local I.ok.kind hk L Y C
 ·rcases hk with hk | hk
  ·exact wpAny_loadName_cell I.ok.kind hk Z b C
  ·rcases n with k | k
   ·have:X.env.scope.names.lookup x=some .free:=hk;rw [k] at this;cases this
   ·have:X.env.scope.names.lookup x=some .free:=hk;rw [k] at this;cases this
def Gz (e f g:TE) (a:V->V->Hp->VK->Prop) (d:bT) (b:aC):TS:=λD c H=>e c H λo h=>f c h λi j=>a o i j λx k=>g c k λy m=>d x y m λz n=>b o i z n λp=>D.nx c p
def bU (X:Cx) (t:V->V->Hp->VK->Prop):Prop:=
 ∀ (a:cS) (s:Shared) (b:St) (H:Hp) (o i:V) (c d:Value) (Q:VK),Inv X a b H s->RelV o c->RelV i d->t o i H Q->
   wpAny (model X.prog X.w) X.A (getItem c d) (EP X a b Q) X.xe s
theorem JC {o i e:Expr} {p q r:TE} {c:V->V->Hp->VK->Prop} {k:bT} {d:aC} {u:Operator} {m:Pos} (A:PE X o p) (B:PE X i q) (C:bU X c) (E:PE X e r) (hp:PIp X u k) (F:aD X d)
  (G:∀ f g b,augStore i f g b=(do holding [b,f,g] (setItem f g b);release [b,f,g] [];pure .next):=by intros;rfl):PS X (.AugAssign (.Subscript o i m) u e pos) (Gz p q r c k d):=by
 intro a s j H D I h;refine wpAny_AugAssign_SubscriptAny (H_ (A a s j H _ I h) λf s1 ⟨w,J,K,x,L⟩=>?_) G;refine H_ (B a s1 j J _ K L) λg M ⟨y,N,O,z,P⟩=>?_;refine H_ (C a M j N w y f g _ O x z P) λn Q ⟨R,S,T,U,W⟩=>?_;refine H_ (E a Q j S _ T W) λv Y ⟨Z,H4,I4,r4,q4⟩=>?_;refine H_ (hp a Y j H4 R Z n v _ I4 U r4 q4) λb s5 ⟨x5,H5,I5,r5,q5⟩=>?_;exact H_ (F a s5 j H5 w y x5 f g b _ I5 x z r5 q5) λ_ s6 ⟨H6,I6,q6⟩=>⟨j,H6,I6,q6⟩
end
section
variable {X:Cx} {pos:Pos}
def Dd (c:TT) (h:TS):TS:=λD a H=>∃ W:Nat->St->Hp->Prop,(∃ m,W m a H)/\∀ m a H,W m a H->
 c a H λb e=>if b=true then ∃ N:St->Hp->Prop,(∀ d f,N d f->∃ g,g<m/\W g d f)/\h { D with nx:=N,ct:=N,bk:=D.nx } a e else D.nx a e
theorem EE {c:Expr} {g:List Stmt} {tc:TT} {x:TS} (hp:PassesOwn (model X.prog X.w) X.A X.env X.xe) (E:PT X c tc) (F:PSs X g x):PS X (.While c g [] pos) (Dd tc x):=by
 intro a s G H D I h;obtain ⟨W,⟨J,K⟩,i⟩:=h;refine wpAny_While (codeAny_whileLoop (λn L=>∃ j y,Inv X a j y L/\W n j y) ?_ J ⟨G,H,I,K⟩);rintro n s1 ⟨e,z,M,O⟩;refine wpAny_passesOwn hp (H_ (E a s1 e z _ M (i n e z O)) λb P ⟨A,B,m⟩=>?_);cases b with
 | true=>
   obtain ⟨N,C,m⟩:=m;rw [qU rfl];refine wpAny_passesOwn hp (H_ (F a P e A _ B m) λf Q o=>?_);cases f with
   | next=>
     obtain ⟨d,k,p,q⟩:=o;obtain ⟨r,u,w⟩:=C d k q;exact ⟨r,u,d,k,p,w⟩
   | cont=>
     obtain ⟨d,k,p,q⟩:=o;obtain ⟨r,u,w⟩:=C d k q;exact ⟨r,u,d,k,p,w⟩
   | brk=>exact o
   | ret v=>exact o
 | false=>
   rw [qT Cb];exact wpAny_execs_nil ⟨e,A,B,m⟩
end
structure It where
 go:Nat->Hp->Prop
 yld:Nat->Hp->V->Hp->Prop
 stop:Nat->Hp->Prop
def DF (X:Cx) (a:cS) (H:Hp) (b:Addr):Prop:=
 H b=none/\b≠X.env.locals/\b∉X.fs/\(b∈X.ex\/X.s₀.heap.objs.size<=b)/\(∀ x c,X.env.cells.lookup x=some c->c≠b)/\∀ p∈X.pn++a,p.1≠b
theorem Inv.fpOk {X:Cx} {a:cS} {g:St} {H f:Hp} {s:Shared} {b:Addr} (I:Inv X a g H s) (d:s.heap.objs.size<=b) (h:f b=none):DF X a f b:=by
 refine ⟨h,Cy (CA I.lt d),I.nofs d,.inr (BT I.sz d),λx c e z=>?_,λp hp z=>?_⟩
 ·obtain ⟨v,q⟩:=I.cell x c e;exact absurd (CA q.lt (by rw [z];exact d)) (DB _)
 ·exact absurd (CA (pH (I.pin p hp).1) (by rw [z];exact d)) (DB _)
structure Turn (P:Program) (w:World) (K:W.Frag) (tg:Expr) (J:It) (fp:c_) (it:Addr) (tn:Nat->Heap->Prop):Prop where
 mem:it∈fp
 obj:∀ i h,tn i h->∀ b∈fp,∃ o,h.get? b=some o/\∀ v,o.data≠.cell v
 keep:∀ i h h',tn i h->(∀ b∈fp,∀ o,h.get? b=some o->h'.get? b=some o)->tn i h'
 item:∀ (X:Cx),X.prog=P->X.w=w->X.K=K->X.calm=true->∀ (i:Nat) (pins:cS) (s:Shared) (σ:St) (H:Hp) (E:cQ),Inv X pins σ H s->(∀ b∈fp,DF X pins H b)->tn i s.heap->J.go i H->
  wpAny (model P w) X.A (pyNext (.ref it)) (λr s1=>∃ u,r=some u/\
   wpAny (model P w) X.A (letOwnedTupleGo tg (.ref it) u) (λ_ s2=>∃ x H',Inv X pins σ H' s2/\RelV x u/\J.yld i H x H'/\tn (i+1) s2.heap/\∀ b∈fp,H' b=none) E s1) E s
 done:∀ (X:Cx),X.prog=P->X.w=w->X.K=K->X.calm=true->∀ (i:Nat) (pins:cS) (s:Shared) (σ:St) (H:Hp) (E:cQ),Inv X pins σ H s->(∀ b∈fp,DF X pins H b)->tn i s.heap->J.stop i H->
  wpAny (model P w) X.A (pyNext (.ref it)) (λr s1=>r=none/\Inv X pins σ H s1) E s
 self:∀ (A:Around) (i:Nat) (s:Shared) (Q:cQ) (E:cQ),tn i s.heap->Q (.ref it) s->wpAny (model P w) A (pyIter (.ref it)) Q E s
noncomputable abbrev TI:=St->Hp->(It->Hp->Prop)->Prop
def PIE (X:Cx) (a:cS) (i:St) (j:Expr) (R:It->Hp->Prop) (c:Value) (e:Shared):Prop:=
 ∃ (f:Addr) (g:c_) (h:Nat->Heap->Prop) (J:It) (d:Hp),c=.ref f/\Inv X a i d e/\Turn X.prog X.w X.K j J g f h/\h 0 e.heap/\(∀ b∈g,DF X a d b)/\R J d
def PI (X:Cx) (d b:Expr) (e:TI):Prop:=
 ∀ (a:cS) (s:Shared) (c:St) (H:Hp) (R:It->Hp->Prop),Inv X a c H s->e c H R->
   wpAny (model X.prog X.w) X.A (eval b X.env) (λv s1=>wpAny (model X.prog X.w) X.A (pyIter v) (PIE X a c d R) X.xe s1) X.xe s
theorem JD {M:Model} {A:Around} {E:cQ} {s:Shared} {b:Expr} {c:Addr} {u:Value} {o:Obj} {n:String} {vs:Array Value} {Q:Unit->Shared->Prop} (d:s.heap.get? c=some o) (e:o.cls=.type n) (f:o.data=.fields vs)
  (g:["enumerate", "zip", "dict_itemiterator", "dict_reverseitemiterator", "odict_iterator", "itertools.zip_longest", "itertools.pairwise"].contains n=false) (a:Q Unit.unit s):wpAny M A (letOwnedTupleGo b (.ref c) u) Q E s:=by
 unfold letOwnedTupleGo
 cases b <;> first
  | exact qZ a
  | (cases u <;> first
    | exact qZ a
    | (refine qY (wpAny_load d ?_)
       rw [e,f];show wpAny M A (if (["enumerate", "zip", "dict_itemiterator", "dict_reverseitemiterator", "odict_iterator", "itertools.zip_longest", "itertools.pairwise"].contains n && vs[0]? == some (rawInt _))=true then _ else _) Q E s;rw [qT (by intro h;rw [g,Bool.false_and] at h;cases h)];exact qZ a))
noncomputable def ah (K:W.Frag) (a:Addr):It:=
 ⟨λi H=>∃ b x,SqL K H a b/\b[i]?=some x,λi H x c=>c=H/\∀ b,SqL K H a b->b[i]?=some x,λi H=>∃ b,SqL K H a b/\b.length<=i⟩
noncomputable def aA (K:W.Frag) (a:Addr):It:=
 ⟨λi H=>∃ b x,SqT K H a b/\b[i]?=some x,λi H x c=>c=H/\∀ b,SqT K H a b->b[i]?=some x,λi H=>∃ b,SqT K H a b/\b.length<=i⟩
noncomputable def av (a:Int) (n:Nat):It:=⟨λi _=>i<n,λi H x b=>b=H/\x=.int (a+i),λi _=>n<=i⟩
theorem ND {P:Program} {w:World} {K:W.Frag} {U:Expr} (a j:Addr):Turn P w K U (ah K a) [j] j (λi h=>h.IsListIter j a i) where
 mem:=by simp
 obj:=λi h f b m=>by
  have e:b=j:=by simpa using m
  subst e
  obtain ⟨o,e,c,d⟩:=f
  exact ⟨o,e,λv z=>by rw [d] at z;cases z⟩
 keep:=λi h r f k=>f.at λo e=>k j (by simp) o e
 item:=by
  intro X B C D S i g s T H E I y f F
  subst B C D
  obtain ⟨Y,x,A,G⟩:=F
  obtain ⟨J,L,p,Z⟩:=I.list A
  obtain ⟨u,hu,ru⟩:=L.get G
  obtain ⟨M,N,f2,O,Q,R⟩:=y j (by simp)
  refine wpAny_pyNext_list_item f p.isList (x:=u) (by simpa using hu) λr n sb=>?_
  have I1:Inv X g T H { s with heap:=r }:=I.turned (t':=s.toks) (λb o m e=>(sb.2 b m).trans e) M N O Q R
  obtain ⟨o,e,c,d⟩:=id n
  exact ⟨u,rfl,JD (s:={ s with heap:=r }) e c d ∅ ⟨x,H,I1,ru,⟨rfl,λys hy=>by rw [I.list_inj hy A];exact G⟩,n,λb m=>(y b m).1⟩⟩
 done:=by
  intro X B C D S i g s T H E I y f F
  subst B C D
  obtain ⟨Y,A,G⟩:=F
  obtain ⟨J,L,p,Z⟩:=I.list A
  obtain ⟨M,N,f2,O,Q,R⟩:=y j (by simp)
  have hl:=L.length
  exact wpAny_pyNext_list_end (I.ok.hd S) f p.isList (by simp;omega) λr eb=>⟨rfl,I.turned (t':=s.toks) (λb o m e=>eb b o m e) M N O Q R⟩
 self:=λ_ _ _ _ _ f h=>wpAny_pyIter_listiter f h
theorem NE {P:Program} {w:World} {K:W.Frag} {U:Expr} (a j:Addr):Turn P w K U (aA K a) [j] j (λi h=>h.IsTupleIter j a i) where
 mem:=by simp
 obj:=λi h f b m=>by
  have e:b=j:=by simpa using m
  subst e
  obtain ⟨o,e,c,d⟩:=f
  exact ⟨o,e,λv z=>by rw [d] at z;cases z⟩
 keep:=λi h y f k=>f.at λo e=>k j (by simp) o e
 item:=by
  intro X C D F S i g s T H E I A f G
  subst C D F
  obtain ⟨Y,x,B,J⟩:=G
  obtain ⟨n,L,p,Z⟩:=I.tuple B
  obtain ⟨u,hu,ru⟩:=L.get J
  obtain ⟨M,N,f2,O,Q,R⟩:=A j (by simp)
  refine wpAny_pyNext_tuple_item f (show s.heap.IsTuple a n.toArray from p) (x:=u) (by simpa using hu) λy q sb=>?_
  have I1:Inv X g T H { s with heap:=y }:=I.turned (t':=s.toks) (λb o m e=>(sb.2 b m).trans e) M N O Q R
  obtain ⟨o,e,c,d⟩:=id q
  exact ⟨u,rfl,JD (s:={ s with heap:=y }) e c d ∅ ⟨x,H,I1,ru,⟨rfl,λys hy=>by rw [I.tuple_inj hy B];exact J⟩,q,λb m=>(A b m).1⟩⟩
 done:=by
  intro X C D F S i g s T H E I A f G
  subst C D F
  obtain ⟨Y,B,J⟩:=G
  obtain ⟨n,L,p,Z⟩:=I.tuple B
  obtain ⟨M,N,f2,O,Q,R⟩:=A j (by simp)
  have hl:=L.length
  exact wpAny_pyNext_tuple_end (I.ok.hd S) f (show s.heap.IsTuple a n.toArray from p) (by simp;omega) λy eb=>⟨rfl,I.turned (t':=s.toks) (λb o m e=>eb b o m e) M N O Q R⟩
 self:=λ_ _ _ _ _ f h=>wpAny_pyIter_tupleiter f h
theorem UR {P:Program} {w:World} {K:W.Frag} {N:Expr} (c:Addr) (p:Int) (n:Nat):Turn P w K N (av p n) [c] c (λi h=>IsRangeIter h c (p+(i:Nat)*1) ((n:Int) - (i:Nat)) 1) where
 mem:=by simp
 obj:=λi h a b f=>by
  have e:b=c:=by simpa using f
  subst e
  exact ⟨_,a,λv z=>by
   have O:Data.fields _=Data.cell v:=z
   cases O⟩
 keep:=λi h q a k=>k c (by simp) _ a
 item:=by
  intro X u x y A i d s L H E I r a B
  subst u x y
  obtain ⟨C,D,Q,F,G,J⟩:=r c (by simp)
  have W:=Walks.range (prog:=X.prog) (w:=X.w) (I.ok.hd A) c p 1 n
  refine W.item i s _ _ B a λv q M R g S=>?_
  obtain ⟨t,rfl⟩:=R
  have T:Inv X d L H { s with heap:=q,toks:=M }:=I.turned (λb o f e=>S b o (by simpa using f) e) C D F G J
  refine ⟨_,rfl,JD (s:={ s with heap:=q,toks:=M }) (n := "range_iterator") g rfl rfl ∅ ⟨.int (p+i),H,T,⟨t,?_⟩,⟨rfl,rfl⟩,g,λb f=>(r b f).1⟩⟩
  rw [Int.mul_one]
 done:=by
  intro X u x y A i d s L H E I r a B
  subst u x y
  obtain ⟨C,D,Q,F,G,J⟩:=r c (by simp)
  exact wpAny_pyNext_range_end (I.ok.hd A) a (by have:n<=i:=B;omega) λq U=>⟨rfl,I.turned (t':=s.toks) (λb o f e=>U b o f e) C D F G J⟩
 self:=λ_ _ _ _ _ a h=>wpAny_pyIter_rangeiter a h
section
variable {X:Cx} {tg:Expr}
def Bz (K:W.Frag) (c:TE):TI:=λd H R=>c d H λx b=>∃ a,x=.ref a/\(∃ e,SqL K b a e)/\R (ah K a) b
def DG (K:W.Frag) (c:TE):TI:=λd H R=>c d H λx b=>∃ a,x=.ref a/\(∃ e,SqT K b a e)/\R (aA K a) b
theorem CZ {l:Expr} {f:TE} (g:PE X l f):PI X tg l (Bz X.K f):=by
 intro c s i H R I h;refine H_ (g c s i H _ I h) λv s1 ⟨x,j,d,k,m⟩=>?_;obtain ⟨a,e,⟨w,n⟩,q⟩:=m;subst e;cases k;obtain ⟨r,y,p,z⟩:=d.list n;refine wpAny_pyIter_list p.isList ?_;refine ⟨s1.heap.objs.size,[s1.heap.objs.size],_,_,j,rfl,d.kept (t':=s1.toks) λb o e=>Heap.get?_push_of_some _ e,ND a _,⟨_,Heap.get?_push_size _ rfl,rfl,rfl⟩,λb u=>?_,q⟩;have e:b=s1.heap.objs.size:=by simpa using u
 subst e;exact d.fpOk (AO _) (d.hok.fresh (AO _))
theorem Ea {l:Expr} {g:TE} (i:PE X l g):PI X tg l (DG X.K g):=by
 intro c s j H R I h;refine H_ (i c s j H _ I h) λv s1 ⟨x,k,d,m,n⟩=>?_;obtain ⟨a,e,⟨w,r⟩,q⟩:=n;subst e;cases m;obtain ⟨f,y,p,z⟩:=d.tuple r;refine wpAny_pyIter_tuple (show s1.heap.IsTuple a f.toArray from p) ?_;refine ⟨s1.heap.objs.size,[s1.heap.objs.size],_,_,k,rfl,d.kept (t':=s1.toks) λb o e=>Heap.get?_push_of_some _ e,NE a _,⟨_,Heap.get?_push_size _ rfl,rfl,rfl⟩,λb u=>?_,q⟩;have e:b=s1.heap.objs.size:=by simpa using u
 subst e;exact d.fpOk (AO _) (d.hok.fresh (AO _))
theorem US {f:cS} {j:St} {H:Hp} {s:Shared} {R:It->Hp->Prop} {E:cQ} {a d:Int} {t u v:Tok} {tk:Nat} (I:Inv X f j H s) (m:-(2 ^ 62)<=a) (n:a<2 ^ 62) (p:-(2 ^ 62)<=d) (r:d<2 ^ 62)
  (q:R (av a (d - a).toNat) H):wpAny (model X.prog X.w) X.A (pyIter (.ref s.heap.objs.size)) (PIE X f j tg R) E { s with heap:=s.heap.push { cls:=.type "range", data:=.fields #[.int a t,.int d u,.int 1 v] },toks:=tk }:=by
 refine wpAny_pyIter_range (IsRange.new ..) (small_one m n p r) ?_;have k:Inv X f j H { s with heap:=s.heap.push { cls:=.type "range", data:=.fields #[.int a t,.int d u,.int 1 v] },toks:=tk }:=I.kept λb o e=>Heap.get?_push_of_some _ e
 refine ⟨(s.heap.push { cls:=.type "range", data:=.fields #[.int a t,.int d u,.int 1 v] }).objs.size,[(s.heap.push { cls:=.type "range", data:=.fields #[.int a t,.int d u,.int 1 v] }).objs.size],_,_,H,rfl,
  k.kept (t':=tk) λb o e=>Heap.get?_push_of_some _ e,UR _ a (d - a).toNat,?_,λb w=>?_,q⟩
 ·have x:a+((0:Nat):Int)*1=a:=by simp
  have y:(((d - a).toNat:Nat):Int) - ((0:Nat):Int)=Builtin.Range.rangeSize a d 1:=by rw [rangeSize_one];split <;> omega
  show IsRangeIter _ _ (a+((0:Nat):Int)*1) ((((d - a).toNat:Nat):Int) - ((0:Nat):Int)) 1;rw [x,y];exact Heap.get?_push_size _ rfl
 ·have e:b=(s.heap.push { cls:=.type "range", data:=.fields #[.int a t,.int d u,.int 1 v] }).objs.size:=by simpa using w
  subst e;exact k.fpOk (AO _) (k.hok.fresh (AO _))
def Eb (a:TA):TI:=λb H R=>a b H λc d=>∃ j:Int,c=[.int j]/\-(2 ^ 62)<=j/\j<2 ^ 62/\R (av 0 j.toNat) d
def UT (a:TA):TI:=λb H R=>a b H λc d=>∃ i j:Int,c=[.int i,.int j]/\(-(2 ^ 62)<=i/\i<2 ^ 62/\-(2 ^ 62)<=j/\j<2 ^ 62)/\R (av i (j - i).toNat) d
theorem G4 {a:Expr} {d:TA} {p pos:Pos} (f:Gl X "range") (g:X.mg "range" = none) (i:PA X [a] d) (k:starEach [a] X.env=[(false,eval a X.env)]:=by rfl):PI X tg (.Call (.Name "range" p) [a] [] pos) (Eb d):=by
 intro b s m H R I h;refine Call_ (EC I f g boot_range (PyProof.Rows.callWith_type1 (H_ (i pos b s m H _ I h) λw s1 ⟨x,y,n,o,c⟩=>?_) k rfl));obtain ⟨j,e,c,u,q⟩:=c;subst e;cases o with
 | cons r v=>
   cases v;obtain ⟨t,rfl⟩:=r;exact call_range_1 (US n ⋯ ⋯ c u (by simpa using q))
def Bh (f:TI) (g:TG) (h:TS):TS:=λD a H=>f a H λJ j=>∃ W:Nat->Nat->St->Hp->Prop,(∃ m,W 0 m a j)/\∀ i m a H,W i m a H->
 (J.stop i H/\D.nx a H)\/(J.go i H/\∃ N:St->Hp->Prop,(∀ b c,N b c->∃ e,e<m/\W (i+1) e b c)/\∀ x c,J.yld i H x c->g x a c λd k=>h { D with nx:=N,ct:=N,bk:=D.nx } d k)
noncomputable def JE (a:c_) (h:Heap):cS:=a.filterMap λb=>(h.get? b).map λo=>(b,o)
theorem JF {a:c_} {h:Heap} {b:Addr} {o:Obj} (c:b∈a) (e:h.get? b=some o):(b,o)∈JE a h:=List.mem_filterMap.mpr ⟨b,c,by rw [e];rfl⟩
theorem UU {a:c_} {h:Heap} {p:Addr×Obj} (hp:p∈JE a h):p.1∈a/\h.get? p.1=some p.2:=by
 obtain ⟨b,c,e⟩:=List.mem_filterMap.mp hp;cases q:h.get? b with
 | none=>rw [q] at e;cases e
 | some o=>
   rw [q] at e;have d:(b,o)=p:=pE e;subst d;exact ⟨c,q⟩
theorem Inv.pinned {a:cS} {f:St} {H:Hp} {s:Shared} {c:c_} (I:Inv X a f H s) (i:∀ b∈c,DF X a H b) (j:∀ b∈c,∃ o,s.heap.get? b=some o/\∀ v,o.data≠.cell v):Inv X (a++JE c s.heap) f H s:=
 I.pins_of λp hp=>(CK.mp hp).elim (λz=>I.pin p (Cz _ z)) λz=>by
  obtain ⟨g,e⟩:=UU z;obtain ⟨k,m,n,_⟩:=i p.1 g;obtain ⟨o,h,d⟩:=j p.1 g;rw [e] at h;cases h;exact ⟨e,k,m,n,d⟩
theorem Inv.unpinned {a c:cS} {b:St} {H:Hp} {s:Shared} (I:Inv X (a++c) b H s):Inv X a b H s:=I.pins_of λp hp=>I.pin p (Cz _ (F2 _ hp))
theorem Ca {j:Expr} {C:List Stmt} {wi:TI} {g:TG} {tb:TS} {pos:Pos} (hp:PassesOwn (model X.prog X.w) X.A X.env X.xe) (hc:X.calm=true) (hi:PI X tg j wi) (hg:PG X tg g) (k:PSs X C tb)
  (hs:∀ x,foldedSetIterable j X.env x=pure x:=by intro _;rfl):PS X (.For tg j C [] pos) (Bh wi g tb):=by
 intro a s σ H D I h;refine wpAny_For (H_ (hi a s σ H _ I h) λv s1 h1=>H_ h1 λa0 s2 h2=>?_) hs;obtain ⟨it,G,tn,J,H2,e,I2,T,S,f2,W,⟨m0,w0⟩,K⟩:=h2;subst e;have p:∀ {B:Hp},(∀ b∈G,B b=none)->∀ b∈G,DF X a B b:=λhn b k=>⟨hn b k,(f2 b k).2⟩;refine codeAny_forLoop_any (λn s'=>∃ i q B,Inv X a q B s'/\tn i s'.heap/\(∀ b∈G,B b=none)/\W i n q B) ?_ m0 ⟨0,σ,H2,I2,S,λb k=>(f2 b k).1,w0⟩;rintro n s3 ⟨i,w,R,I3,L,M,w3⟩;rcases K i n w R w3 with ⟨O,qn⟩ | ⟨go,N,hN,P⟩
 ·refine wpAny_passesOwn hp (H_ (T.done X rfl rfl rfl hc i a s3 w R X.xe I3 (p M) L O) λr s4 ⟨U,I4⟩=>?_);subst U;exact wpAny_execs_nil ⟨w,R,I4,qn⟩
 ·refine wpAny_passesOwn hp (H_ (T.item X rfl rfl rfl hc i a s3 w R X.xe I3 (p M) L go) λr s4 ⟨u,U,h4⟩=>?_);subst U;refine wpAny_passesOwn hp (H_ h4 λ_ s5 ⟨x,H5,I5,r5,y5,F,bO⟩=>?_);have Y:=I5.pinned (p bO) (T.obj _ _ F);refine wpAny_passesOwn hp (H_ (hg _ s5 w H5 x u _ Y r5 (P x H5 y5)) λ_ s6 ⟨Z,H6,I6,q6⟩=>?_);refine wpAny_passesOwn hp (H_ (k _ s6 Z H6 _ I6 q6) λf s7 E=>?_)
  have y:∀ {c:St} {z:Hp},Inv X (a++JE G s5.heap) c z s7->N c z->∃ m,m<n/\∃ i q B,Inv X a q B s7/\tn i s7.heap/\(∀ b∈G,B b=none)/\W i m q B:=λ{c z} A Q=>by
   obtain ⟨m',hm,w7⟩:=hN c z Q;refine ⟨m',hm,i+1,c,z,A.unpinned,T.keep _ _ _ F λb k o e=>(A.pin (b,o) (Cz _ (Cz _ (JF k e)))).1,λb k=>?_,w7⟩;obtain ⟨o,e,d⟩:=T.obj _ _ F b k;exact (A.pin (b,o) (Cz _ (Cz _ (JF k e)))).2.1
  cases f with
  | next=>obtain ⟨c,z,A,Q⟩:=E;exact y A Q
  | cont=>obtain ⟨c,z,A,Q⟩:=E;exact y A Q
  | brk=>obtain ⟨c,z,A,E⟩:=E;exact ⟨c,z,A.unpinned,E⟩
  | ret v=>obtain ⟨x7,c,z,A,r7,E⟩:=E;exact ⟨x7,c,z,A.unpinned,r7,E⟩
end
theorem UV {K:W.Frag} {a:Addr} {xs:cM} {g:TG} {k:TS} {D:Ends} {b:St} {H:Hp} (Pv:Nat->St->Hp->Prop) (o:Pv 0 b H) (r:∀ i b H,i<=xs.length->Pv i b H->SqL K H a xs)
  (u:∀ i x b H,xs[i]?=some x->Pv i b H->g x b H λc j=>k { D with nx:=Pv (i+1),ct:=Pv (i+1),bk:=D.nx } c j) (A:∀ b H,Pv xs.length b H->D.nx b H) :
  ∃ W:Nat->Nat->St->Hp->Prop,(∃ m,W 0 m b H)/\∀ i m b H,W i m b H->
    ((ah K a).stop i H/\D.nx b H)\/((ah K a).go i H/\∃ N:St->Hp->Prop,(∀ d f,N d f->∃ n,n<m/\W (i+1) n d f)/\∀ x f,(ah K a).yld i H x f->g x b f λc j=>k { D with nx:=N,ct:=N,bk:=D.nx } c j):=by
 refine ⟨λi m b H=>m=xs.length - i/\i<=xs.length/\Pv i b H,⟨xs.length,by simp,Ae _,o⟩,?_⟩;rintro i m b H ⟨rfl,B,p⟩;have q:=r i b H B p;by_cases h:i<xs.length
 ·refine .inr ⟨⟨xs,xs[i],q,by simp [h]⟩,Pv (i+1),λd f C=>⟨xs.length - (i+1),⋯,rfl,h,C⟩,λx f y=>?_⟩;obtain ⟨e,y⟩:=y;subst e;exact u i x b _ (y xs q) p
 ·have e:i=xs.length:=by omega
  subst e;exact .inl ⟨⟨xs,q,AO _⟩,A b H p⟩
theorem NF {K:W.Frag} {a:Addr} {xs:cM} {g:TG} {k:TS} {D:Ends} {b:St} {H:Hp} (Pv:Nat->St->Hp->Prop) (o:Pv 0 b H) (r:∀ i b H,i<=xs.length->Pv i b H->SqT K H a xs)
  (u:∀ i x b H,xs[i]?=some x->Pv i b H->g x b H λc j=>k { D with nx:=Pv (i+1),ct:=Pv (i+1),bk:=D.nx } c j) (A:∀ b H,Pv xs.length b H->D.nx b H) :
  ∃ W:Nat->Nat->St->Hp->Prop,(∃ m,W 0 m b H)/\∀ i m b H,W i m b H->
    ((aA K a).stop i H/\D.nx b H)\/((aA K a).go i H/\∃ N:St->Hp->Prop,(∀ d f,N d f->∃ n,n<m/\W (i+1) n d f)/\∀ x f,(aA K a).yld i H x f->g x b f λc j=>k { D with nx:=N,ct:=N,bk:=D.nx } c j):=by
 refine ⟨λi m b H=>m=xs.length - i/\i<=xs.length/\Pv i b H,⟨xs.length,by simp,Ae _,o⟩,?_⟩;rintro i m b H ⟨rfl,B,p⟩;have q:=r i b H B p;by_cases h:i<xs.length
 ·refine .inr ⟨⟨xs,xs[i],q,by simp [h]⟩,Pv (i+1),λd f C=>⟨xs.length - (i+1),⋯,rfl,h,C⟩,λx f y=>?_⟩;obtain ⟨e,y⟩:=y;subst e;exact u i x b _ (y xs q) p
 ·have e:i=xs.length:=by omega
  subst e;exact .inl ⟨⟨xs,q,AO _⟩,A b H p⟩
theorem UW {h:Int} {n:Nat} {g:TG} {k:TS} {D:Ends} {a:St} {H:Hp} (Pv:Nat->St->Hp->Prop) (q:Pv 0 a H)
  (r:∀ i a H,i<n->Pv i a H->g (.int (h+i)) a H λb j=>k { D with nx:=Pv (i+1),ct:=Pv (i+1),bk:=D.nx } b j) (z:∀ a H,Pv n a H->D.nx a H) :
  ∃ W:Nat->Nat->St->Hp->Prop,(∃ m,W 0 m a H)/\∀ i m a H,W i m a H->
    ((av h n).stop i H/\D.nx a H)\/((av h n).go i H/\∃ N:St->Hp->Prop,(∀ c d,N c d->∃ o,o<m/\W (i+1) o c d)/\∀ x d,(av h n).yld i H x d->g x a d λb j=>k { D with nx:=N,ct:=N,bk:=D.nx } b j):=by
 refine ⟨λi m a H=>m=n - i/\i<=n/\Pv i a H,⟨n,by simp,Ae _,q⟩,?_⟩;rintro i m a H ⟨rfl,B,p⟩;by_cases f:i<n
 ·refine .inr ⟨f,Pv (i+1),λc d A=>⟨n - (i+1),⋯,rfl,f,A⟩,λx d y=>?_⟩;obtain ⟨e,y⟩:=y;subst e y;exact r i a _ f p
 ·have e:i=n:=by omega
  subst e;exact .inl ⟨AO _,z a H p⟩
noncomputable abbrev R2:=V->V->Hp->VK->Prop
def OpR (X:Cx) (f:Value->Value->Sem Value) (r:R2):Prop:=
 ∀ (a:cS) (s:Shared) (b:St) (H:Hp) (x y:V) (v u:Value) (Q:VK),Inv X a b H s->RelV x v->RelV y u->r x y H Q->
   wpAny (model X.prog X.w) X.A (f v u) (EP X a b Q) X.xe s
def UnR (X:Cx) (f:Value->Sem Value) (r:V->Hp->VK->Prop):Prop:=
 ∀ (a:cS) (s:Shared) (b:St) (H:Hp) (x:V) (v:Value) (Q:VK),Inv X a b H s->RelV x v->r x H Q->
   wpAny (model X.prog X.w) X.A (f v) (EP X a b Q) X.xe s
def Ch (X:Cx) (f:Value) (r:cM->Hp->VK->Prop):Prop:=
 ∀ (a:cS) (s:Shared) (b:St) (H:Hp) (c:cM) (d:cP) (Q:VK),Inv X a b H s->Vals c d->r c H Q->
   wpAny (model X.prog X.w) X.A (call f d) (EP X a b Q) X.xe s
def UX (X:Cx) (r:V->Hp->(Bool->Hp->Prop)->Prop):Prop:=
 ∀ (a:cS) (s:Shared) (b:St) (H:Hp) (x:V) (v:Value) (Q:Bool->Hp->Prop),Inv X a b H s->RelV x v->r x H Q->
   wpAny (model X.prog X.w) X.A (truthy v) (TP X a b Q) X.xe s
def A_ (r:R2) (b c:TE):TE:=λa H Q=>b a H λx d=>c a d λy e=>r x y e Q
def P_ (r:V->Hp->VK->Prop) (a:TE):TE:=λb H Q=>a b H λx c=>r x c Q
def rI (C:Int->Int->Prop) (g:Int->Int->V):R2:=λx y H Q=>∃ i j,x=.int i/\y=.int j/\C i j/\Q (g i j) H
def aa (g:Int->Int->V):R2:=λx y H Q=>∃ i j,x=.int i/\y=.int j/\Q (g i j) H
def rU (g:Int->V):V->Hp->VK->Prop:=λx H Q=>∃ i,x=.int i/\Q (g i) H
section
variable {X:Cx} {a b c:Expr} {ta tb tc:TE} {pos:Pos}
theorem Ki (n:PE X a ta) (o:PE X b tb) {d:cS} {s:Shared} {e:St} {H:Hp} {R:V->V->Hp->Prop} (I:Inv X d e H s)
  (h:ta e H λx m=>tb e m λy g=>R x y g) {Q:cQ} {f:Value->Value->Sem Value}
  (p:∀ v u k x y g,Inv X d e g k->RelV x v->RelV y u->R x y g->wpAny (model X.prog X.w) X.A (f v u) Q X.xe k) :
  wpAny (model X.prog X.w) X.A (eval a X.env) (λv i=>wpAny (model X.prog X.w) X.A (eval b X.env) (λu j=>wpAny (model X.prog X.w) X.A (f v u) Q X.xe j) X.xe i) X.xe s:=by
 refine H_ (n d s e H _ I h) λv s1 ⟨x,m,q,r,w⟩=>?_;refine H_ (o d s1 e m _ q w) λu k ⟨y,g,z,A,B⟩=>?_;exact p v u k x y g z r A B
theorem AS {e:Operator} {r:R2} (f:OpR X (binaryOp e) r) (g:PE X a ta) (i:PE X b tb):PE X (.BinOp a e b pos) (A_ r ta tb):=by
 intro d s j H Q I h;exact wpAny_BinOp (Ki g i I h λv u k x y m n o p q=>f d k j m x y v u Q n o p q)
theorem BZ {e:UnaryOp} {r:V->Hp->VK->Prop} (g:UnR X (unaryOp e) r) (i:PE X a ta):PE X (.UnaryOp e a pos) (P_ r ta):=by
 intro d s f H Q I h;exact UnaryOp_ (H_ (i d s f H _ I h) λv s1 ⟨x,j,k,m,n⟩=>g d s1 f j x v Q k m n)
theorem bo {f:Value->Value->Sem Value} {C:Int->Int->Prop} {g:Int->Int->Int}
  (rule:∀ (i j:Int) (t u:Tok) (s:Shared) (Q:cQ) (E:cQ),C i j->Q (.int (g i j) s.toks) { s with toks:=s.toks+1 }->wpAny (model X.prog X.w) X.A (f (.int i t) (.int j u)) Q E s) :
  OpR X f (rI C λi j=>.int (g i j)):=by
 intro e s p H x y v u Q I k m h;obtain ⟨i,j,rfl,rfl,n,q⟩:=h;obtain ⟨t,rfl⟩:=k;obtain ⟨o,rfl⟩:=m;exact rule i j t o s _ _ n ⟨.int (g i j),H,I.tok _,⟨_,rfl⟩,q⟩
theorem JG {f:Value->Value->Sem Value} {g:Int->Int->Int}
  (rule:∀ (i j:Int) (t u:Tok) (s:Shared) (Q:cQ) (E:cQ),Q (.int (g i j) s.toks) { s with toks:=s.toks+1 }->wpAny (model X.prog X.w) X.A (f (.int i t) (.int j u)) Q E s) :
  OpR X f (aa λi j=>.int (g i j)):=by
 intro e s o H x y v u Q I k m h;obtain ⟨i,j,rfl,rfl,q⟩:=h;obtain ⟨t,rfl⟩:=k;obtain ⟨n,rfl⟩:=m;exact rule i j t n s _ _ ⟨.int (g i j),H,I.tok _,⟨_,rfl⟩,q⟩
theorem JH {f:Value->Value->Sem Value} {g:Int->Int->Bool}
  (rule:∀ (i j:Int) (t u:Tok) (s:Shared) (Q:cQ) (E:cQ),Q (.bool (g i j)) s->wpAny (model X.prog X.w) X.A (f (.int i t) (.int j u)) Q E s) :
  OpR X f (aa λi j=>.bl (g i j)):=by
 intro d s n H x y v u Q I e k h;obtain ⟨i,j,rfl,rfl,q⟩:=h;obtain ⟨t,rfl⟩:=e;obtain ⟨m,rfl⟩:=k;exact rule i j t m s _ _ ⟨.bl (g i j),H,I,rfl,q⟩
theorem CP:OpR X (binaryOp .Add) (aa λi j=>.int (i+j)):=JG λ_ _ _ _ _ _ _ q=>add_int q
theorem CM:OpR X (binaryOp .Sub) (aa λi j=>.int (i - j)):=JG λ_ _ _ _ _ _ _ q=>sub_int q
theorem DH:OpR X (binaryOp .Mod) (rI (λ_ j=>0<j) λi j=>.int (i % j)):=bo λi j _ _ _ _ _ d q=>by
 have e:(0:Int)<j:=d;exact mod_int' ⋯ (by rw [Int.fmod_eq_emod_of_nonneg i ⋯];exact q)
theorem UY:OpR X (binaryOp .Mod) (rI (λ_ j=>j≠0) λi j=>.int (i.fmod j)):=bo λ_ _ _ _ _ _ _ d q=>mod_int' d q
theorem UZ:OpR X (inplaceOp .Add) (aa λi j=>.int (i+j)):=JG λ_ _ _ _ _ _ _ q=>iadd_int q
theorem Hv:OpR X (inplaceOp .Sub) (aa λi j=>.int (i - j)):=JG λ_ _ _ _ _ _ _ q=>isub_int q
theorem Ua {f:Value->Sem Value} {g:Int->Int}
  (rule:∀ (i:Int) (t:Tok) (s:Shared) (Q:cQ) (E:cQ),Q (.int (g i) s.toks) { s with toks:=s.toks+1 }->wpAny (model X.prog X.w) X.A (f (.int i t)) Q E s) :
  UnR X f (rU λi=>.int (g i)):=by
 intro e s k H x v Q I j h;obtain ⟨i,rfl,q⟩:=h;obtain ⟨t,rfl⟩:=j;exact rule i t s _ _ ⟨.int (g i),H,I.tok _,⟨_,rfl⟩,q⟩
theorem Ba:UnR X (unaryOp .USub) (rU λi=>.int (-i)):=Ua λ_ _ _ _ _ q=>neg_int q
end
noncomputable def scal:V->V->Bool
 | .non,.non=>true | .non,.int _=>true | .int _,.non=>true | .non,.bl _=>true | .bl _,.non=>true | .non,.str _=>true | .str _,.non=>true
 | .int _,.int _=>true | .bl _,.bl _=>true | .str _,.str _=>true | .byt _,.byt _=>true
 | .int _,.str _=>true | .str _,.int _=>true | .bl _,.str _=>true | .str _,.bl _=>true
 | _,_=>false
def ad:R2:=λx y H Q=>scal x y=true/\Q (.bl (decide (x=y))) H
def ap:R2:=λx y H Q=>scal x y=true/\Q (.bl (!decide (x=y))) H
theorem NG {i j:Int}:decide (V.int i=V.int j)=(i == j):=by
 rw [Es];simp
theorem NH {i j:Bool}:decide (V.bl i=V.bl j)=(i == j):=by
 rw [Es];simp
theorem NI {i j:Str}:decide (V.str i=V.str j)=(i == j):=by
 rw [Es];simp
theorem NJ {i j:Array UInt8}:decide (V.byt i=V.byt j)=(i.toList == j.toList):=by
 rw [Es];cases i;cases j;simp
section
variable {X:Cx} {a b c:Expr} {ta tb tc:TE} {pos:Pos}
theorem Bf {d:cS} {f:St} {H:Hp} {s:Shared} {Q:VK} {k g:Bool} (I:Inv X d f H s) (q:Q (.bl k) H) (e:k=g):EP X d f Q (.bool g) s:=by
 subst e;exact ⟨.bl k,H,I,rfl,q⟩
theorem C4:OpR X (compareOp .Eq) ad:=by
 intro k s m H x y v u Q I g d h;obtain ⟨f,q⟩:=h;cases x with
 | non=>
   cases g;cases y with
   | non=>cases d;exact PySem.EqNone.eq_none_none (Bf I q (by simp))
   | bl j=>cases d;exact PySem.EqNone.eq_none_bool (Bf I q (by simp))
   | int j=>obtain ⟨e,rfl⟩:=d;exact PySem.EqNone.eq_none_int (Bf I q (by simp))
   | str j=>obtain ⟨e,rfl⟩:=d;exact PySem.EqNone.eq_none_str (Bf I q (by simp))
   | _=>exact absurd (show false=true from f) Cb
 | bl i=>
   cases g;cases y with
   | non=>cases d;exact PySem.EqNone.eq_bool_none (Bf I q (by simp))
   | bl j=>cases d;exact eq_bool (Bf I q NH)
   | str j=>obtain ⟨e,rfl⟩:=d;exact PySem.EqMixed.eq_bool_str (Bf I q (by simp))
   | _=>exact absurd (show false=true from f) Cb
 | int i=>
   obtain ⟨t,rfl⟩:=g;cases y with
   | non=>cases d;exact PySem.EqNone.eq_int_none (Bf I q (by simp))
   | int j=>obtain ⟨e,rfl⟩:=d;exact eq_int (Bf I q NG)
   | str j=>obtain ⟨e,rfl⟩:=d;exact PySem.EqMixed.eq_int_str (Bf I q (by simp))
   | _=>exact absurd (show false=true from f) Cb
 | str i=>
   obtain ⟨t,rfl⟩:=g;cases y with
   | non=>cases d;exact PySem.EqNone.eq_str_none (Bf I q (by simp))
   | bl j=>cases d;exact PySem.EqMixed.eq_str_bool (Bf I q (by simp))
   | int j=>obtain ⟨e,rfl⟩:=d;exact PySem.EqMixed.eq_str_int (Bf I q (by simp))
   | str j=>obtain ⟨e,rfl⟩:=d;exact eq_str (Bf I q NI)
   | _=>exact absurd (show false=true from f) Cb
 | byt i=>
   obtain ⟨t,rfl⟩:=g;cases y with
   | byt j=>obtain ⟨e,rfl⟩:=d;exact W.eq_bytes (Bf I q NJ)
   | _=>exact absurd (show false=true from f) Cb
 | _=>cases y <;> exact absurd (show false=true from f) Cb
theorem Ec:OpR X (compareOp .NotEq) ap:=by
 intro k s m H x y v u Q I g d h;obtain ⟨f,q⟩:=h;cases x with
 | non=>
   cases g;cases y with
   | non=>cases d;exact PySem.EqNone.ne_none_none (Bf I q (by simp))
   | bl j=>cases d;exact PySem.EqNone.ne_none_bool (Bf I q (by simp))
   | int j=>obtain ⟨e,rfl⟩:=d;exact PySem.EqNone.ne_none_int (Bf I q (by simp))
   | str j=>obtain ⟨e,rfl⟩:=d;exact PySem.EqNone.ne_none_str (Bf I q (by simp))
   | _=>exact absurd (show false=true from f) Cb
 | bl i=>
   cases g;cases y with
   | non=>cases d;exact PySem.EqNone.ne_bool_none (Bf I q (by simp))
   | bl j=>cases d;exact ne_bool (Bf I q (congrArg not NH))
   | str j=>obtain ⟨e,rfl⟩:=d;exact PySem.EqMixed.ne_bool_str (Bf I q (by simp))
   | _=>exact absurd (show false=true from f) Cb
 | int i=>
   obtain ⟨t,rfl⟩:=g;cases y with
   | non=>cases d;exact PySem.EqNone.ne_int_none (Bf I q (by simp))
   | int j=>obtain ⟨e,rfl⟩:=d;exact ne_int (Bf I q (congrArg not NG))
   | str j=>obtain ⟨e,rfl⟩:=d;exact PySem.EqMixed.ne_int_str (Bf I q (by simp))
   | _=>exact absurd (show false=true from f) Cb
 | str i=>
   obtain ⟨t,rfl⟩:=g;cases y with
   | non=>cases d;exact PySem.EqNone.ne_str_none (Bf I q (by simp))
   | bl j=>cases d;exact PySem.EqMixed.ne_str_bool (Bf I q (by simp))
   | int j=>obtain ⟨e,rfl⟩:=d;exact PySem.EqMixed.ne_str_int (Bf I q (by simp))
   | str j=>obtain ⟨e,rfl⟩:=d;exact ne_str (Bf I q (congrArg not NI))
   | _=>exact absurd (show false=true from f) Cb
 | byt i=>
   obtain ⟨t,rfl⟩:=g;cases y with
   | byt j=>obtain ⟨e,rfl⟩:=d;exact W.ne_bytes (Bf I q (congrArg not NJ))
   | _=>exact absurd (show false=true from f) Cb
 | _=>cases y <;> exact absurd (show false=true from f) Cb
theorem Hw:OpR X (compareOp .Lt) (aa λi j=>.bl (decide (i<j))):=JH λ_ _ _ _ _ _ _ q=>lt_int q
theorem Ub:OpR X (compareOp .LtE) (aa λi j=>.bl (decide (i<=j))):=JH λ_ _ _ _ _ _ _ q=>le_int q
theorem GI:OpR X (compareOp .Gt) (aa λi j=>.bl (decide (j<i))):=JH λ_ _ _ _ _ _ _ q=>gt_int q
theorem NK:OpR X (compareOp .GtE) (aa λi j=>.bl (decide (j<=i))):=JH λ_ _ _ _ _ _ _ q=>ge_int q
theorem NL:OpR X (compareOp .Is) (λx y H Q=>y=.non/\Q (.bl (decide (x=.non))) H):=by
 intro d s g H x y v u Q I e f h;obtain ⟨rfl,q⟩:=h;cases f;refine is_none_gen (Bf I q ?_)
 cases x <;> first
  | (cases e;rfl)
  | (obtain ⟨t,rfl⟩:=e;rfl)
theorem Uc:OpR X (compareOp .IsNot) (λx y H Q=>y=.non/\Q (.bl (!decide (x=.non))) H):=by
 intro d s g H x y v u Q I e f h;obtain ⟨rfl,q⟩:=h;cases f;refine isnot_none_gen (Bf I q ?_)
 cases x <;> first
  | (cases e;rfl)
  | (obtain ⟨t,rfl⟩:=e;rfl)
theorem X_ (b:Expr) {d:CmpOp} (h:d≠.In:=by decide) (e:d≠.NotIn:=by decide):behindInMarks d b=false:=by
 have f:(d == CmpOp.In)=false:=by cases d <;> first | rfl | exact absurd rfl h
 have g:(d == CmpOp.NotIn)=false:=by cases d <;> first | rfl | exact absurd rfl e
 cases b <;> simp [behindInMarks,f,g]
theorem JI {e:CmpOp} {r:R2} (f:OpR X (compareOp e) r) (g:PE X a ta) (i:PE X b tb) (j:behindInMarks e b=false):PE X (.Compare a [e] [b] pos) (A_ r ta tb):=by
 intro d s k H Q I h;exact wpAny_Compare1 (Ki g i I h λv u m x y n o p w q=>f d m k n x y v u Q o p w q) j
def Aq (t:TE):TT:=λd H Q=>t d H λx e=>∃ k,x=.bl k/\Q k e
theorem NM {f:CmpOp} {r:R2} (i:OpR X (compareOp f) r) (j:PE X a ta) (m:PE X b tb) (n:behindInMarks f b=false):PT X (.Compare a [f] [b] pos) (Aq (A_ r ta tb)):=by
 intro d s g H Q I h
 refine wpAny_isTrue_Compare1 (H_ (j d s g H _ I h) λv s1 ⟨x,o,p,q,w⟩=>H_ (m d s1 g o _ p w) λu A ⟨y,B,C,D,E⟩=>
  H_ (i d A g B x y v u _ C q D E) λc L ⟨z,F,G,J,k,e,K⟩=>?_) n
 subst e;cases J;exact wpAny_truthy_bool ⟨F,G,K⟩
def Ud (r f:R2) (ta tb tc:TE):TE:=λd H Q=>ta d H λx g=>tb d g λy h=>r x y h λz e=>∃ k,z=.bl k/\
 (if k=true then tc d e λi j=>f y i j Q else Q (.bl false) e)
def Ue (K:W.Frag) (x:V) (H:Hp) (k:Bool):Prop:=
 match x with
 | .non=>k=false
 | .bl b=>k=b
 | .int i=>k=(i != 0)
 | .str y=>y.length<=sizeLine/\k=((y.length:Int) != 0)
 | .byt y=>y.size<=sizeLine/\k=((y.size:Int) != 0)
 | .ref p=>(∃ d,SqL K H p d/\k=!d.isEmpty)\/(∃ d,SqT K H p d/\k=!d.isEmpty)\/∃ e,H p=some (.dK e)/\k=!e.isEmpty
 | _=>False
theorem Uf {d:Type} {kvs:List (d×V)} {vs:List (d×Value)} (r:KV kvs vs):(!vs.isEmpty)=!kvs.isEmpty:=by
 cases r <;> rfl
theorem NO {xs:cM} {its:cP} (r:Vals xs its):(!its.toArray.isEmpty)=!xs.isEmpty:=by
 cases r <;> simp
theorem G7:(sizeLine:Nat)<2 ^ 63:=by rw [sizeLine_eq];decide
theorem Ug:UX X (λx H Q=>∃ k,Ue X.K x H k/\Q k H):=by
 intro A s E H x v Q I n h;obtain ⟨k,e,q⟩:=h;have F:=G7;have G:sizeLine=16777216:=sizeLine_eq;cases x with
 | non=>
   cases n;have d:k=false:=e;subst d;exact truthy_none ⟨H,I,q⟩
 | bl b=>
   cases n;have d:k=b:=e;subst d;exact wpAny_truthy_bool ⟨H,I,q⟩
 | int i=>
   obtain ⟨t,rfl⟩:=n;have d:k=(i != 0):=e;subst d;exact PySem.P.truthy_int ⟨H,I,q⟩
 | str y=>
   obtain ⟨t,rfl⟩:=n;obtain ⟨C,d⟩:y.length<=sizeLine/\k=((y.length:Int) != 0):=e;subst d;exact PySem.P.truthy_str ⋯ ⟨H,I.tok _,q⟩
 | byt y=>
   obtain ⟨t,rfl⟩:=n;obtain ⟨C,d⟩:y.size<=sizeLine/\k=((y.size:Int) != 0):=e;subst d;exact W.truthy_bytes ⋯ ⟨H,I.tok _,q⟩
 | ref p=>
   cases n;have d:(∃ j,SqL X.K H p j/\k=!j.isEmpty)\/(∃ j,SqT X.K H p j/\k=!j.isEmpty)\/∃ f,H p=some (.dK f)/\k=!f.isEmpty:=e;rcases d with ⟨j,o,d⟩ | ⟨j,o,d⟩ | ⟨f,o,d⟩
   ·subst d;obtain ⟨w,r,z,B⟩:=I.list o;have g:=r.length;exact wpAny_truthy_list z.isList (by simp only [BE];omega) ⟨H,I.tok _,by rw [NO r];exact q⟩
   ·subst d;obtain ⟨w,r,z,B⟩:=I.tuple o;have g:=r.length;exact truthy_tuple z (by simp only [BE];omega) ⟨H,I.tok _,by rw [NO r];exact q⟩
   ·subst d;obtain ⟨B,D,u,r,m⟩:f.length<=sizeLine/\(p == sysModules)=false/\∃ u,KV f u/\s.heap.DictOf (Db X.prog X.w) p u:=I.hok p _ o;have g:f.length=u.length:=Paired.length r;exact wpAny_truthy_dict D m ⋯ ⟨H,I.tok _,by rw [Uf r];exact q⟩
 | _=>exact (show False from e).elim
theorem E4 {x:V} {d:cP} (r:Vals [x] d):∃ u,d=[u]/\RelV x u:=by
 cases r with
 | cons e f=>cases f;exact ⟨_,rfl,e⟩
theorem vals2 {x y:V} {d:cP} (r:Vals [x,y] d):∃ u e,d=[u,e]/\RelV x u/\RelV y e:=by
 cases r with
 | cons f g=>
   cases g with
   | cons h i=>cases i;exact ⟨_,_,rfl,f,h⟩
theorem Uh:Ch X (.builtin "abs") (λd H Q=>∃ i,d=[.int i]/\Q (.int (if i<0 then -i else i)) H):=by
 intro e s f H d g Q I r h;obtain ⟨i,rfl,q⟩:=h;obtain ⟨u,rfl,t,rfl⟩:=E4 r;exact call_abs_int λu j=>⟨.int (if i<0 then -i else i),H,I.tok _,⟨_,rfl⟩,q⟩
theorem Ui (g:X.calm=true):Ch X (.builtin "max") (λe H Q=>∃ i j,e=[.int i,.int j]/\Q (.int (if j > i then j else i)) H):=by
 intro f s m H e n Q I r h;obtain ⟨i,j,rfl,q⟩:=h;obtain ⟨u,o,rfl,⟨t,rfl⟩,⟨p,rfl⟩⟩:=vals2 r;refine max_two_ints (I.ok.hd g) λv w k=>⟨_,H,I.kept k,?_,q⟩;by_cases d:j > i
 ·rw [qU d,qU d];exact ⟨_,rfl⟩
 ·rw [qT d,qT d];exact ⟨_,rfl⟩
end
structure ObjM (h:Heap) (x dx C:Addr) (mA:cU):Prop where
 obj:h.get? x=some (W.instObj C dx)
 ns:h.Ns1 dx mA
 ne:dx≠x
theorem Uj {h:Heap} {d:Addr} {f:cU} (n:h.Ns1 d f):∃ g,h.get? d=some g/\∀ b,W.lookIn b g=some (f b):=by
 obtain ⟨o,i,u,j,k,hk,_,m⟩:=n;refine ⟨o,j,λb=>?_⟩;have e:=m b;unfold nsFind findBy at e;rw [<-Array.find?_toList] at e;unfold W.lookIn;rw [k];dsimp only;split
 ·rename_i y q;rw [q] at e;exact congrArg some e
 ·rename_i q;rw [q] at e
  have a:i.toList.any (·.refKey)=false:=by
   rw [List.any_eq_false];intro y p;obtain ⟨z,t,c⟩:=hk y (Array.mem_toList_iff.mp p);simp [DictEntry.refKey,c]
  have r:¬ i.toList.any (·.refKey)=true:=by rw [a];exact Cb
  rw [qT r];exact congrArg some e
theorem ObjM.look {h:Heap} {x c C:Addr} {d:cU} (I:ObjM h x c C d):∃ b,W.InstAt h x (W.instObj C c) C (some b)/\∀ a,W.lookIn a b=some (d a):=
 let ⟨b,e,f⟩:=Uj I.ns
 ⟨b,⟨I.obj,rfl,rfl,e⟩,f⟩
section
variable {P:Program} {w:World} {H H':Hp} {h h':Heap} {a C dx:Addr} {fs fs':List (Str×V)}
theorem Uk (c:HOk P w H h) (e:H a=some (.ins C dx fs)):∃ b,ObjM h a dx C b/\(∀ f,Kf (fs.lookup f) (b f))/\PySem.Within b (fs.map (·.1))/\fs.length<=1000/\H dx=some (.own a):=by
 obtain ⟨d,z,g,i,b,n,r,q⟩:=(show ObjOk P w H h a (.ins C dx fs) from c a _ e);exact ⟨b,⟨i,n,g⟩,r,q,z,d⟩
end
structure Cls (K:W.Frag) (C:Addr):Prop where
 pg:W.plainGet K C Str.empty=true
 hd:W.hasDictIn K C=true
 po:W.plainOver K C=true
 sa:W.findIn K (.ref C) "__setattr__" = some (some (.builtin "object.__setattr__"))
theorem Cls.get {K:W.Frag} {C:Addr} (c:Cls K C) (f:Str):W.plainGet K C f=true:=c.pg
structure Con (K:W.Frag) (C:Addr) (f:Str) (v:V) (u:Value):Prop where
 at_:W.findIn K (.ref C) f=some (some u)
 rel:RelV v u
 get:W.specialIn K u "__get__" = some none
 cp:W.copiedNames.contains f=false
structure Meth (K:W.Frag) (C:Addr) (m:Str) (f:Addr):Prop where
 at_:W.findIn K (.ref C) m=some (some (.ref f))
 fn:W.isFn K (.ref f)=true
 kp:W.keepIn K (.ref f)=true
section
variable {X:Cx} {pins:cS} {σ:St} {H:Hp} {s:Shared} {A:Around} {E:cQ} {Q:cQ} {c:Value} {b:Bool}
inductive TyOf (K:W.Frag) (H:Hp):V->Value->Prop where
 | non:TyOf K H .non (.type "NoneType")
 | bl (x:Bool):TyOf K H (.bl x) (.type "bool")
 | int (i:Int):TyOf K H (.int i) (.type "int")
 | str (x:Str):TyOf K H (.str x) (.type "str")
 | flt (x:UInt64):TyOf K H (.flt x) (.type "float")
 | lst {a:Addr} {xs:cM} (e:H a=some (.lst xs)):TyOf K H (.ref a) (.type "list")
 | frz {a:Addr} {o:Obj} {xs:cM} (e:H a=some (.frz o (.lst xs))):TyOf K H (.ref a) (.type "list")
 | tup {a:Addr} {xs:cM} (e:H a=some (.tup xs)):TyOf K H (.ref a) (.type "tuple")
 | dK {a:Addr} {kvs:List (E_×V)} (e:H a=some (.dK kvs)):TyOf K H (.ref a) (.type "dict")
 | dT {a:Addr} {kvs:List (List E_×V)} (e:H a=some (.dT kvs)):TyOf K H (.ref a) (.type "dict")
 | ins {a C dx:Addr} {fs:List (Str×V)} (e:H a=some (.ins C dx fs)) (cl:Cls K C) (ha:W.findIn K (.ref C) "__class__" = some (some (.builtin "object.__class__")))
   (hn:W.specialIn K (.builtin "object.__class__") "__get__" = some (some (.builtin "getset_descriptor.__get__"))) (htk:W.takesIn K (.builtin "object.__class__")=some true)
   (hm:W.mroIn K C (.type "object")=some true):TyOf K H (.ref a) (.ref C)
theorem Ul {x:V} {u t:Value} (I:Inv X pins σ H s) (d:RelV x u) (B:TyOf X.K H x t) (e:W.kitOne X.K t c=some b) (h:∀ D,Q (.bool b) { s with toks:=D }) :
  wpAny (model X.prog X.w) A (call (.builtin "isinstance") [u,c]) Q E s:=by
 cases B with
 | non=>cases (show u=Value.none from d);exact W.kia_one W.kitx_none I.kIn True.intro e (λz=>nomatch z) h
 | bl y=>cases (show u=Value.bool y from d);exact W.kia_one W.kitx_bool I.kIn True.intro e (λz=>nomatch z) h
 | int i=>obtain ⟨t,q⟩:=(show ∃ t,u=Value.int i t from d);cases q;exact W.kia_one W.kitx_int I.kIn True.intro e (λz=>nomatch z) h
 | str y=>obtain ⟨t,q⟩:=(show ∃ t,u=Value.str y t from d);cases q;exact W.kia_one W.kitx_str I.kIn True.intro e (λz=>nomatch z) h
 | flt y=>obtain ⟨t,q⟩:=(show ∃ t,u=Value.float y t from d);cases q;exact W.kia_one W.kitx_float I.kIn True.intro e (λz=>nomatch z) h
 | @lst a k f=>
   cases (show u=Value.ref a from d);obtain ⟨_,_,n,_,g⟩:=(show ObjOk X.prog X.w H s.heap a (.lst k) from I.hok a _ f);exact W.kia_one W.kitx_list I.kIn ⟨_,g,rfl⟩ e (λz=>nomatch z) h
 | @frz a F k f=>
   cases (show u=Value.ref a from d);obtain ⟨_,_,_,n,_,g⟩:=(show ObjOk X.prog X.w H s.heap a (.frz F (.lst k)) from I.hok a _ f);exact W.kia_one W.kitx_list I.kIn ⟨_,g,rfl⟩ e (λz=>nomatch z) h
 | @tup a k f=>
   cases (show u=Value.ref a from d);obtain ⟨_,_,_,p⟩:=(show ObjOk X.prog X.w H s.heap a (.tup k) from I.hok a _ f);obtain ⟨o,g,m,_⟩:=p;exact W.kia_one W.kitx_tuple I.kIn ⟨o,g,m⟩ e (λz=>nomatch z) h
 | @dK a j f=>
   cases (show u=Value.ref a from d);obtain ⟨_,_,P,_,p⟩:=(show ObjOk X.prog X.w H s.heap a (.dK j) from I.hok a _ f);obtain ⟨o,G,K,g,m,_⟩:=p;exact W.kia_one W.kitx_dict I.kIn ⟨o,g,m.1⟩ e (λz=>nomatch z) h
 | @dT a j f=>
   cases (show u=Value.ref a from d);obtain ⟨_,_,k,_,o,G,K,g,m,_⟩:=(show ObjOk X.prog X.w H s.heap a (.dT j) from I.hok a _ f);exact W.kia_one W.kitx_dict I.kIn ⟨o,g,m.1⟩ e (λz=>nomatch z) h
 | @ins a C R S f w L M r N=>
   cases (show u=Value.ref a from d);obtain ⟨T,O,_⟩:=Uk I.hok f;obtain ⟨U,J,_⟩:=O.look;exact W.kia_one (W.kitx_own (w.get _) w.hd L M r N) I.kIn J e (λz=>nomatch z) h
end
structure Room (k:Nat) (A:Around):Prop where
 hd:A.handled=none
 dp:A.depth+3*k+105<recursionLimit
 un:A.units+16*k+200<cLine
theorem Room.mono {j k:Nat} {A:Around} (r:Room k A) (h:j<=k):Room j A:=⟨r.hd,by have:=r.dp;omega,by have:=r.un;omega⟩
theorem Room.deeper {k:Nat} {A:Around} (r:Room (k+1) A) (a:Env):Room k (A.deeper a):=
 ⟨r.hd,by have:=r.dp;show A.depth+1+3*k+105<_;omega,by have:=r.un;show A.units+3+16*k+200<_;omega⟩
theorem Room.depth {k:Nat} {A:Around} (r:Room k A):A.depth<recursionLimit:=by have:=r.dp;omega
theorem Room.units {k:Nat} {A:Around} (r:Room k A):A.units+64<cLine:=by have:=r.un;omega
theorem Room.units0 {k:Nat} {A:Around} (r:Room k A):A.units<cLine:=by have:=r.un;omega
def AC:TA:=λ_ H Q=>Q [] H
def AB (b:TE) (tr:TA):TA:=λa H Q=>b a H λx c=>tr a c λd e=>Q (x::d) e
section
variable {X:Cx} {e:Expr} {es:cV} {te:TE} {t:TA} {pos:Pos}
theorem AI:PA X [] AC:=λ_ _ _ _ H Q I h=>Calls.spliced_nil ⟨[],H,I,.nil,h⟩
theorem AD (c:PE X e te) (d:PA X es t) (f:starEach (e::es) X.env=(false,eval e X.env)::starEach es X.env:=by rfl):PA X (e::es) (AB te t):=by
 intro pos a s b H Q I h;rw [f];show wpAny _ _ (spliced ((false,eval e X.env)::backTo pos (starEach es X.env))) _ _ s;refine Calls.spliced_cons (H_ (c a s b H _ I h) λu s1 ⟨x,g,i,j,k⟩=>?_);exact H_ (d pos a s1 b g _ i k) λr v ⟨m,n,o,p,q⟩=>⟨x::m,n,o,.cons j p,q⟩
def Ai (t:TA):TE:=λc H Q=>t c H λa b=>a.length<=sizeLine/\∀ p,b p=none->Q (.ref p) (upd b p (.tup a))
def A9 (t:TA):TE:=λc H Q=>t c H λa b=>a.length<=sizeLine/\∀ p,b p=none->Q (.ref p) (upd b p (.lst a))
theorem As {x1} (h:PA X es t):PE X (.Tuple es x1 pos) (Ai t):=by
 intro a s f H Q I g;refine wpAny_Tuple_spliced (H_ (h pos a s f H _ I g) λi s1 ⟨j,c,d,r,z,q⟩=>⟨by rw [<-r.length];exact z,?_⟩);have k:c s1.heap.objs.size=none:=d.hok.fresh (AO _);refine ⟨.ref s1.heap.objs.size,upd c s1.heap.objs.size (.tup j),d.laid (t':=s1.toks) (λb u e=>Heap.get?_push_of_some _ e) (AO _) ?_,rfl,q _ k⟩;exact ⟨z,i,r,⟨_,Heap.get?_push_size _ rfl,rfl,_,rfl⟩⟩
theorem BO (h:PA X es t):PE X (.List es pos) (A9 t):=by
 intro a s f H Q I g;refine wpAny_List_spliced (H_ (h pos a s f H _ I g) λi s1 ⟨j,c,d,r,z,q⟩=>⟨by rw [<-r.length];exact z,?_⟩);have k:c s1.heap.objs.size=none:=d.hok.fresh (AO _);refine ⟨.ref s1.heap.objs.size,upd c s1.heap.objs.size (.lst j),d.laid (t':=s1.toks) (λb u e=>Heap.get?_push_of_some _ e) (AO _) ?_,rfl,q _ k⟩;exact ⟨z,i,0,r,Heap.get?_push_size _ rfl⟩
end
noncomputable abbrev Sp:=cM->Hp->VK->XK->Prop
noncomputable abbrev aE:=List Env->Hp->Shared->XK->cQ
structure Env0 (P:Program) (w:World) (K:W.Frag) (mg:cU) (base:Heap) (A:Around) (outer:List Env) (s:Shared) (H:Hp):Prop where
 frames:A.frames=some outer
 mod:Mod K mg base
 bs:∀ b o,base.get? b=some o->s.heap.get? b=some o/\H b=none
 bsz:base.objs.size<=s.heap.objs.size
 funs:s.heap.FunFrames base outer
 frf:∀ b∈au outer,H b=none
 hok:HOk P w H s.heap
 bare:AllBare s.gens
 seer:base.NoSeer
 tree:(model P w).prog.given.tree=none
def CE (a:List Env) (P:Program) (w:World) (H:Hp) (s:Shared) (Q:VK) (u:Value) (s':Shared):Prop:=
 ∃ v b,s'.os=s.os/\AllBare s'.gens/\Un (au a) [] H b s.heap s'.heap/\HOk P w b s'.heap/\RelV v u/\Q v b
def CR (CX:aE) (a:List Env) (P:Program) (w:World) (H:Hp) (s:Shared) (Q:VK) (E:XK) (r:Result) (s':Shared):Prop:=
 match r with
 | .ok (.ret u)=>CE a P w H s Q u s'
 | .ok _=>False
 | .error e=>CX a H s E e s'
structure FnOk (P:Program) (w:World) (K:W.Frag) (mg:cU) (base:Heap) (CX:aE) (k:Nat) (f:Addr) (fd:FuncData) (ps:cW) (sp:Sp):Prop where
 len:∀ vs H Q E,sp vs H Q E->vs.length=ps.length
 run:∀ (A:Around) (outer:List Env) (s:Shared) (H:Hp) (args:Args) (us:cP) (vs:cM) (Q:VK) (E:XK),Room k A->Env0 P w K mg base A outer s H->BindsTo s fd args (ps.zip us)->Vals vs us->sp vs H Q E->
  codeAny (model P w) A (.call (.ref f) args) (CR CX outer P w H s Q E) s
section
variable {X:Cx} {pins:cS} {σ:St} {H:Hp} {s s':Shared}
theorem Inv.env0 (I:Inv X pins σ H s):Env0 X.prog X.w X.K X.mg X.base X.A X.stack s H:=
 ⟨I.ok.frames,I.ok.mod,I.bs,BT I.ok.bsz I.sz,I.stack,I.stkFree,I.hok,I.bare,I.ok.seer,I.ok.tree⟩
theorem Inv.after {Q:VK} {u:Value} (I:Inv X pins σ H s) (h:CE X.stack X.prog X.w H s Q u s'):EP X pins σ Q u s':=by
 obtain ⟨v,f,os,a,i,c,r,q⟩:=h;obtain ⟨j,g,d,t,e⟩:=s';obtain rfl:e=s.os:=os;exact ⟨v,f,I.call (h':=j) (g':=g) (d':=d) (t':=t) (ch:=[]) i c a (λb z=>absurd z (by simp)),r,q⟩
end
def AJ (sp:Sp) (a:cM) (E:XK) (t:TA):TE:=λb H Q=>t b H λc d=>sp (c++a) d Q E
def Binds (K:W.Frag) (c:FuncData) (ps:cW) (b:cP):Prop:=
 ∀ (s:Shared) (a:cP),K.In s.heap->(a++b).length=ps.length->BindsTo s c ⟨a,[]⟩ (ps.zip (a++b))
theorem Binds.all {K:W.Frag} {b:FuncData} {ps:cW} (h:∀ a:cP,a.length=ps.length->bindArgs b ⟨a,[]⟩=pure (ps.zip a)):Binds K b ps []:=λs a _ c=>by
 rw [List.append_nil] at c ⊢;exact .of_eq (h a c)
def ak (CX:aE) (X:Cx) (E:XK):Prop:=∀ (a:cS) (c:St) (H:Hp) (s:Shared) (e:Value) (b:Shared),Inv X a c H s->CX X.stack H s E e b->X.xe e b
section
variable {X:Cx} {CX:aE} {k:Nat} {f C:Addr} {fd:FuncData} {ps:cW} {sp:Sp} {dvs:cM} {ds:cP} {E:XK} {x m:Str} {p pos apos:Pos} {e o:Expr} {es:cV} {ta:TE} {t:TA}
theorem Um {a:cS} {d:St} {H:Hp} {s:Shared} {Q:VK} {b:cP} {vs:cM} (F:FnOk X.prog X.w X.K X.mg X.base CX k f fd ps sp) (i:Room k X.A) (j:Binds X.K fd ps ds) (n:Vals dvs ds) (q:ak CX X E)
  (I:Inv X a d H s) (r:Vals vs b) (h:sp (vs++dvs) H Q E):wpAny (model X.prog X.w) X.A (call (.ref f) b) (EP X a d Q) X.xe s:=by
 have g:Vals (vs++dvs) (b++ds):=r.append n;have v:(b++ds).length=ps.length:=by rw [<-g.length];exact F.len _ _ _ _ h
 refine wpAny_call (codeAny_mono (F.run X.A X.stack s H ⟨b,[]⟩ (b++ds) (vs++dvs) Q E i I.env0 (j s b I.kIn v) g h) λr w c=>?_);cases r with
 | error e=>exact q a d H s e w I c
 | ok y=>
   cases y with
   | ret u=>exact I.after c
   | next=>exact False.elim c
   | brk=>exact False.elim c
   | cont=>exact False.elim c
theorem Uo (F:FnOk X.prog X.w X.K X.mg X.base CX k f fd ps sp) (g:Room k X.A) (i:Gl X x) (j:X.mg x=some (.ref f)) (hk:W.keepIn X.K (.ref f)=true) (n:Binds X.K fd ps ds) (u:Vals dvs ds) (v:ak CX X E)
  (w:PA X (e::es) t) (b:(x == ("__debug__" : Str))=false:=by decide) (y:starEach (e::es) X.env=(false,eval e X.env)::starEach es X.env:=by rfl) (c:(backTo pos (starEach es X.env)).any (·.1)=false:=by rfl) :
  PE X (.Call (.Name x p) (e::es) [] pos) (AJ sp dvs E t):=by
 intro a s z H Q I h;refine wpAny_Call_Name_kw (M9 I i j ?_ b);refine W.callWith_K (h₀:=X.base) I.ok.mod.kin hk (H_ (w pos a s z H _ I h) λA s1 ⟨B,D,d,r,q⟩=>⟨d.kIn,?_⟩) y c;exact Um F g n u v d r q
structure Mk (K:W.Frag) (C f:Addr):Prop where
 makes:W.makesIn K C=true
 init:W.findIn K (.ref C) "__init__" = some (some (.ref f))
 fn:W.isFn K (.ref f)=true
 kp:W.keepIn K (.ref C)=true
end
def PK (X:Cx) (b:List Keyword) (t:TA):Prop:=
 ∀ (c:Pos) (a:cS) (s:Shared) (d:St) (H:Hp) (Q:cM->Hp->Prop),Inv X a d H s->t d H Q->wpAny (model X.prog X.w) X.A (evalAll ((backToKw c (keywordEach b X.env)).map (·.2))) (AP X a d Q) X.xe s
section
variable {X:Cx} {CX:aE} {k:Nat} {f C:Addr} {fd:FuncData} {ps ks:cW} {sp:Sp} {E:XK} {x m:Str} {p pos apos kpos:Pos} {e o:Expr} {es:cV} {kws:List Keyword} {te ta:TE} {t tk:TA} {nm:Option Str}
theorem Up:PK X [] AC:=λ_ _ _ _ H Q I h=>wpAny_evalAll_nil ⟨[],H,I,.nil,h⟩
theorem Uq (c:PE X e te) (d:PK X kws t):PK X (⟨nm,e,kpos⟩::kws) (AB te t):=by
 intro pos a s b H Q I h;show wpAny _ _ (evalAll ((do let v <-eval e X.env;standAt pos;pure v)::(backToKw pos (keywordEach kws X.env)).map (·.2))) _ _ s;refine wpAny_evalAll_cons (qY (H_ (c a s b H _ I h) λu s1 ⟨x,g,i,j,n⟩=>qY (wpAny_standAt (qZ ?_))));exact H_ (d pos a s1 b g _ i n) λA B ⟨q,r,w,y,z⟩=>⟨x::q,r,w,.cons j y,z⟩
structure KBinds (K:W.Frag) (fd:FuncData) (ps ks:cW) (g:cP->cP->cP) (gV:cM->cM->cM):Prop where
 to:∀ (s:Shared) (us ws:cP),K.In s.heap->(g us ws).length=ps.length->BindsTo s fd ⟨us,ks.zip ws⟩ (ps.zip (g us ws))
 rel:∀ {vs:cM} {us:cP} {zs:cM} {ws:cP},Vals vs us->Vals zs ws->Vals (gV vs zs) (g us ws)
variable {g:cP->cP->cP} {gV:cM->cM->cM}
end
structure FnScope (N P:cW) (sc:Scope):Prop where
 kind:sc.kind=.function
 co:sc.isCoroutine=false
 gen:sc.isGenerator=false
 nd:N.Nodup
 pre:N.take P.length=P
 par:∀ x∈P,sc.names.lookup x=some .local\/sc.names.lookup x=some .cell
 nofree:∀ y∈sc.names,y.2≠.free
theorem NP {kindOf:Str->Option NameKind} {x:Str}:∀ {a:List (Str×Value)} {m:cU},(∀ v,(x,v)∉a)->bindL kindOf a m x=m x
 | [],_,_=>rfl
 | (n,v)::r,m,h=>by
   unfold bindL;rw [NP λw b=>h w (BW _ b)];split
   ·have:x≠n:=by rintro rfl;exact h v BL
    simp [this]
   ·rfl
theorem NQ {kindOf:Str->Option NameKind} {x:Str}:∀ {a:List (Str×Value)} {m:cU},(∀ v,(x,v)∉a)->bindC kindOf a m x=m x
 | [],_,_=>rfl
 | (n,v)::r,m,h=>by
   unfold bindC;rw [NQ λw b=>h w (BW _ b)];split
   ·rfl
   ·have:x≠n:=by rintro rfl;exact h v BL
    simp [this]
theorem NR {kindOf:Str->Option NameKind} {x:Str} {v:Value}:∀ {P:cW} {vs:cP} {i:Nat} {m:cU},P.Nodup->P[i]?=some x->vs[i]?=some v->kindOf x=some .local->
  bindL kindOf (P.zip vs) m x=some v
 | [],_,_,_,_,h,_,_=>by simp at h
 | _::_,[],_,_,_,_,h,_=>by simp at h
 | p::P,w::vs,0,m,c,a,b,hk=>by
   simp at a b;subst a;subst b;show bindL kindOf ((p,w)::P.zip vs) m p=_;unfold bindL;rw [NP λv d=>(Cm.mp c).1 (List.of_mem_zip d).1,qU hk];simp
 | p::P,w::vs,i+1,m,c,a,b,hk=>by
   show bindL kindOf ((p,w)::P.zip vs) m x=_;unfold bindL;exact NR (i:=i) (Cm.mp c).2 (by simpa using a) (by simpa using b) hk
theorem NS {kindOf:Str->Option NameKind} {x:Str} {v:Value}:∀ {P:cW} {vs:cP} {i:Nat} {m:cU},P.Nodup->P[i]?=some x->vs[i]?=some v->kindOf x≠some .local->
  bindC kindOf (P.zip vs) m x=some v
 | [],_,_,_,_,h,_,_=>by simp at h
 | _::_,[],_,_,_,_,h,_=>by simp at h
 | p::P,w::vs,0,m,c,a,b,hk=>by
   simp at a b;subst a;subst b;show bindC kindOf ((p,w)::P.zip vs) m p=_;unfold bindC;rw [NQ λv d=>(Cm.mp c).1 (List.of_mem_zip d).1,qT hk];simp
 | p::P,w::vs,i+1,m,c,a,b,hk=>by
   show bindC kindOf ((p,w)::P.zip vs) m x=_;unfold bindC;exact NS (i:=i) (Cm.mp c).2 (by simpa using a) (by simpa using b) hk
noncomputable def start (N:cW) (vs:cM):St:=vs.map some++List.replicate (N.length - vs.length) none
noncomputable def GJ (CX:aE) (P:Program) (w:World) (K:W.Frag) (i:cU) (d:Heap) (N:cW) (c:Str) (a:Scope) (f:Addr) (h:Value) (A:Around) (b:List Env) (s:Shared) (H:Hp) (E:XK):Cx where
 prog:=P
 w:=w
 K:=K
 mg:=i
 base:=d
 A:=A.deeper (envOfC c a s.heap.objs.size f h)
 N:=N
 s₀:=s
 H₀:=H
 env:=envOfC c a s.heap.objs.size f h
 outer:=b
 stack:=envOfC c a s.heap.objs.size f h::b
 ex:=[]
 calm:=true
 fn:=λ_=>true
 pn:=[]
 xe:=λe j=>wpAny (model P w) (A.deeper (envOfC c a s.heap.objs.size f h)) (leaving (envOfC c a s.heap.objs.size f h) e) (λ_ g=>CX b H s E e g) (λk g=>CX b H s E k g) j
theorem NT {a:Scope} {n:Nat} {x:Str} (h:a.names.lookup x=some .cell):∃ c,(cellsFrom n a.names []).lookup x=some c:=by
 have q:=W.cellsFrom_some a.names n [] (.inl h);exact Option.isSome_iff_exists.mp q
theorem Ur {CX:aE} {P:Program} {w:World} {K:W.Frag} {M:cU} {B:Heap} {N ps:cW} {g:Str} {d:Scope} {f:Addr} {F:Value} {A:Around} {m:List Env} {s s1:Shared} {H:Hp} {E:XK} {O:cP} {vs:cM}
  (S:FnScope N ps d) (T:A.handled=none) (Q:(A.deeper (envOfC g d s.heap.objs.size f F)).depth+Builtin.pylongFrames<recursionLimit) (j:Env0 P w K M B A m s H) (Z:vs.length=ps.length) (r:Vals vs O)
  (x:InCallC s s.heap.objs.size (bindL (envOfC g d s.heap.objs.size f F).kindOf (ps.zip O) λ_=>none) (cellsFrom (s.heap.objs.size+1) d.names []) (bindC (envOfC g d s.heap.objs.size f F).kindOf (ps.zip O) λ_=>none) s1) :
  Inv (GJ CX P w K M B N g d f F A m s H E) [] (start N vs) H s1:=by
 have U:ps.length<=N.length:=by have:=congrArg List.length S.pre;rw [CC] at this;omega
 obtain ⟨J,tk,rfl,hk⟩:=x.done;have C:∀ b:Addr,b∉(GJ CX P w K M B N g d f F A m s H E).ex:=λb z=>absurd (show b∈([]:c_) from z) (by simp)
 refine ⟨⟨j.mod,S.kind,rfl,rfl,AO _,λy z c J o=>?_,λy D=>?_,λy c _ h=>?_,λ_=>T,Around.frames_deeper j.frames,.inr ⟨rfl,rfl⟩,λb z=>absurd z (C b),j.bs,j.bsz,λb _ _=>C b,λb z=>absurd z (C b),j.funs,j.frf,j.seer,j.tree,λs' G=>PySem.PylongRoom.of (j.mod.nolimit.keeps G) Q (PySem.SeerAt.of (j.seer.keeps G) j.tree (Around.frames_deeper j.frames) S.gen S.co rfl rfl)⟩,
  rfl,j.bare,Un.kept hk,⟨_,x.toInCall.ns,λi y v J o h3=>?_⟩,λy c h=>⟨_,x.cell y c h⟩,j.hok.fresh (AO _),λy c h=>?_,λp hp=>absurd (show p∈([]:cS) from hp) (by simp),j.hok.kept hk,?_⟩
 ·exact name_of_addr x.apart (PySem.mem_of_lookup J) (PySem.mem_of_lookup o)
 ·have D:d.names.lookup y=some .cell\/d.names.lookup y=some .free:=D;rcases D with D | D
  ·exact NT D
  ·exact absurd rfl (S.nofree _ (PySem.mem_of_lookup D))
 ·exact Dn (x.above y c (PySem.mem_of_lookup h))
 ·have L:i<vs.length:=by
   unfold start at o;by_cases L:i<vs.length
   ·exact L
   ·rw [List.getElem?_append_right (by simpa using L)] at o;rw [FN] at o;split at o <;> cases o
  have X:vs[i]?=some v:=by
   unfold start at o;rw [List.getElem?_append_left (by simpa using L),Ac] at o;cases e:vs[i]? with
   | none=>rw [e] at o;cases o
   | some a=>rw [e] at o;cases o;rfl
  obtain ⟨u,R,Y⟩:=r.get X
  have hp:ps[i]?=some y:=by
   rw [<-S.pre,List.getElem?_take_of_lt ⋯];exact J
  have I:ps.Nodup:=by rw [<-S.pre];exact S.nd.sublist (List.take_sublist _ _)
  refine ⟨u,Y,?_⟩;rcases S.par y (Ay hp) with k | k
  ·exact .inl ⟨k,NR I hp R k⟩
  ·obtain ⟨c,e⟩:=NT (n:=s.heap.objs.size+1) k;refine .inr ⟨.inl k,c,e,?_⟩;have q:=x.cell y c e;rw [NS I hp R (by show d.names.lookup y≠_;rw [k];decide)] at q;exact q
 ·exact j.hok.fresh (Dn (x.above y c (PySem.mem_of_lookup h)))
 ·unfold start;show _=N.length;rw [Bw,AG,List.length_replicate];omega
theorem Us {CX:aE} {P:Program} {w:World} {K:W.Frag} {M:cU} {h:Heap} {k:Nat} {f:Addr} {name d:Str} {i:Arguments} {j:List Stmt} {a:Scope} {Z kV D pm g ct oc:Value} {an od:Option Addr}
  {R:Array (cZ)} {N ps:cW} {sp:Sp} (lk:K.lookup f=some ⟨oc,od,.func (W.fnOf name d i j a Z kV D pm an g ct),R⟩) (T:W.codeIn K g d=true) (S:FnScope N ps a)
  (len:∀ vs H Q E,sp vs H Q E->vs.length=ps.length)
  (z:∀ (A:Around) (c:List Env) (s:Shared) (H:Hp) (vs:cM) (Q:VK) (E:XK),Room k (A.deeper (envOfC d a s.heap.objs.size f g))->sp vs H Q E->
   ∃ t,PSs (GJ CX P w K M h N d a f g A c s H E) j t/\t { nx:=λ_ p=>Q .non p,rt:=Q } (start N vs) H) :
  FnOk P w K M h CX (k+1) f (W.fnOf name d i j a Z kV D pm an g ct) ps sp:=by
 refine ⟨len,λA c s H a0 us vs Q E O F hb r G=>?_⟩;have hl:=len _ _ _ _ G;have KX:K.In s.heap:=F.mod.kin.keeps λb o e=>(F.bs b o e).1;have U:s.heap.NoLimit:=F.mod.nolimit.keeps λb o e=>(F.bs b o e).1
 have B:∀ y∈ps.zip us,a.names.lookup y.1=some .local\/(a.names.lookup y.1=some .cell/\((cellsFrom (s.heap.objs.size+1) a.names []).lookup y.1).isSome=true):=λ⟨n,v⟩ hy=>by
  rcases S.par n (List.of_mem_zip hy).1 with q | q
  ·exact .inl q
  ·exact .inr ⟨q,W.cellsFrom_some _ _ _ (.inl q)⟩
 refine codeAny_call_function O.depth (KX _ _ lk) rfl S.co S.gen rfl (W.codeRec_of KX T) (hb _ _ _ _ ?_);refine wpAny_newFunctionEnv_cells S.kind B λa1 he s1 x=>?_;subst he;refine ⟨U.keeps x.toInCall.keep,codeAny_func ?_⟩;obtain ⟨t,ht,hq⟩:=z A c s H vs Q E (O.deeper _) G;have I:Inv (GJ CX P w K M h N d a f g A c s H E) [] (start N vs) H s1:=Ur S O.hd (by have:=(O.deeper (envOfC d a s.heap.objs.size f g)).dp;show _+100<_;omega) F hl r x;refine pC (ht [] s1 (start N vs) H _ I hq) (λfl X C=>?_) λe X C=>C
 have L:∀ {m:St} {p:Hp} {v:V} {u:Value},Inv (GJ CX P w K M h N d a f g A c s H E) [] m p X->RelV v u->Q v p->CE c P w H s Q u X:=
  λ{m p v u} J Y q=>⟨v,p,J.os,J.bare,J.base,J.hok,Y,q⟩
 cases fl with
 | ret u=>
   obtain ⟨v,m,p,J,Y,q⟩:=C;exact L J Y q
 | next=>
   obtain ⟨m,p,J,q⟩:=C;exact L (v:=V.non) (u:=Value.none) J rfl q
 | brk=>
   obtain ⟨_,_,_,q⟩:=C;exact False.elim q
 | cont=>
   obtain ⟨_,_,_,q⟩:=C;exact False.elim q
section
variable {X:Cx} {x:Str} {p pos:Pos} {e:Expr} {es:cV} {t:TA} {id T:String} {r:cM->Hp->VK->Prop}
def J_ (r:cM->Hp->VK->Prop) (t:TA):TE:=λa H Q=>t a H λb c=>r b c Q
theorem At (f:Ch X (.builtin id) r) (g:Gl X x) (i:X.mg x=none) (j:bootBuiltins x=some (.builtin id)) (k:PA X (e::es) t) (m:x ≠ "__name__" := by decide) (b:(x == ("__debug__" : Str))=false:=by decide)
  (n:starEach (e::es) X.env=(false,eval e X.env)::starEach es X.env:=by rfl) (c:(backTo pos (starEach es X.env)).any (·.1)=false:=by rfl):PE X (.Call (.Name x p) (e::es) [] pos) (J_ r t):=by
 intro a s d H Q I h;refine wpAny_Call_Name_kw (EC I g i j ?_ m b);exact PyProof.Rows.callWith_builtin1 (H_ (k pos a s d H _ I h) λo s1 ⟨q,u,v,w,y⟩=>f a s1 d u q o Q v w y) n c
theorem FX (f:Ch X (.type T) r) (g:Gl X x) (i:X.mg x=none) (j:bootBuiltins x=some (.type T)) (k:PA X (e::es) t) (m:x ≠ "__name__" := by decide) (b:(x == ("__debug__" : Str))=false:=by decide)
  (n:starEach (e::es) X.env=(false,eval e X.env)::starEach es X.env:=by rfl) (c:(backTo pos (starEach es X.env)).any (·.1)=false:=by rfl):PE X (.Call (.Name x p) (e::es) [] pos) (J_ r t):=by
 intro a s d H Q I h;refine wpAny_Call_Name_kw (EC I g i j ?_ m b);exact PyProof.Rows.callWith_type1 (H_ (k pos a s d H _ I h) λo s1 ⟨q,u,v,w,y⟩=>f a s1 d u q o Q v w y) n c
end
end L2
namespace HT
open PySem PyProof.Rows
section
variable {prog:Program} {w:World} {A:Around} {E:cQ} {s:Shared}
noncomputable def sIx (n d:Nat):Option Int->Nat
 | none=>d
 | some v=>if v<0 then (v+(n:Int)).toNat else min v.toNat n
end
end HT
namespace L2
open PySem PySem.Spec PyProof.Rows
noncomputable abbrev TO:=St->Hp->(Option Int->Hp->Prop)->Prop
def PO (X:Cx) (e:Option Expr) (t:TO):Prop:=
 ∀ (a:cS) (s:Shared) (b:St) (H:Hp) (Q:Option Int->Hp->Prop),Inv X a b H s->t b H Q->
   wpAny (model X.prog X.w) X.A (evalPart e X.env) (λu d=>∃ o c,Inv X a b c d/\IsPart u o/\Q o c) X.xe s
noncomputable def E5:TO:=λ_ H Q=>Q none H
noncomputable def E6 (t:TE):TO:=λa H Q=>t a H λx b=>∃ i,x=.int i/\Q (some i) b
section
variable {X:Cx} {e:Expr} {te:TE} {lo hi:Option Expr} {tl th:TO} {pos p2:Pos}
theorem GK:PO X none E5:=by
 intro a s b H Q I h;rw [evalPart_none];exact qZ ⟨none,H,I,.none,h⟩
theorem GN (h:PE X e te):PO X (some e) (E6 te):=by
 intro a s b H Q I c;rw [evalPart_some];refine H_ (h a s b H _ I c) λu s1 ⟨x,d,f,g,j⟩=>?_;obtain ⟨i,rfl,q⟩:=j;obtain ⟨t,rfl⟩:=g;exact ⟨some i,d,f,.int i t,q⟩
def cf (X:Cx) (r:V->Option Int->Option Int->Hp->VK->Prop):Prop:=
 ∀ (a:cS) (s:Shared) (b:St) (H:Hp) (x:V) (v c d:Value) (lo hi:Option Int) (f:Addr) (Q:VK),Inv X a b H s->RelV x v->s.heap.IsSliceOf f c d .none->IsPart c lo->IsPart d hi->r x lo hi H Q->
   ∃ T id,typeLookup (.type T) "__getitem__" = pure (some (.builtin id))/\s.TypeIs v T/\wpAny (model X.prog X.w) X.A (getItem v (.ref f)) (EP X a b Q) X.xe s
def aM (r:V->Option Int->Option Int->Hp->VK->Prop) (te:TE) (tl th:TO):TE:=λa H Q=>te a H λx b=>tl a b λl c=>th a c λu d=>r x l u d Q
theorem GO {r:V->Option Int->Option Int->Hp->VK->Prop} (n:cf X r) (o:PE X e te) (p:PO X lo tl) (w:PO X hi th):PE X (.Subscript e (.Slice lo hi none p2) pos) (aM r te tl th):=by
 intro a s g H Q I h;refine Subscript_ (H_ (o a s g H _ I h) λv s1 ⟨x,y,z,A,B⟩=>?_);refine wpAny_Slice (H_ (p a s1 g y _ z B) λj C ⟨l,D,E,F,G⟩=>H_ (w a C g D _ E G) λk c ⟨u,m,J,K,L⟩=>?_);rw [evalPart_none];refine qZ ?_;have M:Inv X a g m { c with heap:=c.heap.push { cls:=.type "slice", data:=.fields #[j,k,.none] } }:=J.kept (t':=c.toks) λb S q=>Heap.get?_push_of_some _ q;obtain ⟨T,id,N,O,P⟩:=n a { c with heap:=c.heap.push { cls:=.type "slice", data:=.fields #[j,k,.none] } } g m x v j k l u c.heap.objs.size Q M A (Heap.IsSliceOf.new ..) F K L;show wpAny (model X.prog X.w) X.A (subscriptTail e (.Slice lo hi none p2) v (.ref c.heap.objs.size)) (EP X a g Q) X.xe { c with heap:=c.heap.push { cls:=.type "slice", data:=.fields #[j,k,.none] } };exact tail_any (ops:=[.ref c.heap.objs.size,v]) O N P (by with_unfolding_all rfl)
noncomputable def CQ (xs:cM) (lo hi:Option Int):cM:=(xs.drop (HT.sIx xs.length 0 lo)).take (HT.sIx xs.length xs.length hi - HT.sIx xs.length 0 lo)
theorem Ut (xs:cM) (lo hi:Option Int):(CQ xs lo hi).length<=xs.length:=by
 unfold CQ;rw [CC,List.length_drop];omega
end
noncomputable def ai (n:Nat) (i:Int):Option Nat:=if 0<=i then (if i<n then some i.toNat else none) else if -(n:Int)<=i then some (i+n).toNat else none
noncomputable def Q_ {a:Type} (xs:List a) (i:Int):Option a:=(ai xs.length i).bind λj=>xs[j]?
theorem NU {n:Nat} {i:Int} {j:Nat} (h:ai n i=some j):seqIndex? i n=some j/\j<n/\-(n:Int)<=i/\i<n:=by
 unfold ai at h;by_cases b:0<=i
 ·rw [qU b] at h;by_cases a:i<n
  ·rw [qU a] at h;have e:i.toNat=j:=pE h;exact ⟨by rw [seqIndex_of b a,e],⋯,⋯,a⟩
  ·rw [qT a] at h;cases h
 ·rw [qT b] at h;by_cases a:-(n:Int)<=i
  ·rw [qU a] at h;have e:(i+n).toNat=j:=pE h;exact ⟨by rw [seqIndex_neg ⋯ a,e],⋯,a,⋯⟩
  ·rw [qT a] at h;cases h
theorem Kj {a:Type} {xs:List a} {i:Int} {v:a} (h:Q_ xs i=some v):∃ j,seqIndex? i xs.length=some j/\xs[j]?=some v/\j<xs.length/\-(xs.length:Int)<=i/\i<xs.length:=by
 unfold Q_ at h;cases e:ai xs.length i with
 | none=>rw [e] at h;cases h
 | some j=>
   rw [e] at h;obtain ⟨b,c,d,f⟩:=NU e;exact ⟨j,b,h,c,d,f⟩
theorem NV {a:Type} {xs:List a} {j:Nat} {v:a} (h:xs[j]?=some v):Q_ xs (j:Int)=some v:=by
 have b:j<xs.length:=(BF.mp h).1
 have e:ai xs.length (j:Int)=some j:=by
  unfold ai;rw [qU ⋯,qU ⋯];simp
 unfold Q_;rw [e];exact h
theorem atI_last {a:Type} (xs:List a) (v:a):Q_ (xs++[v]) (-1)=some v:=by
 have b:(xs++[v]).length=xs.length+1:=by simp
 have e:ai (xs++[v]).length (-1)=some xs.length:=by
  unfold ai;rw [b,qT ∅,qU ⋯];congr 1;omega
 unfold Q_;rw [e];show (xs++[v])[xs.length]?=some v;simp
def Uu (b:Expr):Prop:=∀ o i,subscripted b false o i=operate [o,i] (getItem o i)
def aV (X:Cx) (r:R2):Prop:=
 ∀ (c a:Expr) (b:cS) (s:Shared) (d:St) (H:Hp) (x y:V) (v u:Value) (Q:VK),Inv X b d H s->RelV x v->RelV y u->r x y H Q->
   subscripted a false v u=operate [v,u] (getItem v u)->wpAny (model X.prog X.w) X.A (subscriptTail c a v u) (EP X b d Q) X.xe s
def MtR (X:Cx) (id:String) (r:V->cM->Hp->VK->Prop):Prop:=
 ∀ (a:cS) (s:Shared) (b:St) (H:Hp) (x:V) (c:cM) (v:Value) (d:cP) (Q:VK),Inv X a b H s->RelV x v->Vals c d->r x c H Q->
   wpAny (model X.prog X.w) X.A (call (.builtin id) (v::d)) (EP X a b Q) X.xe s
section
variable {X:Cx} {a b:Expr} {ta tb:TE} {pos:Pos}
theorem BA {r:R2} (d:aV X r) (e:PE X a ta) (f:PE X b tb) (g:Uu b):PE X (.Subscript a b pos) (A_ r ta tb):=by
 intro c s i H Q I h;exact Subscript_ (Ki e f I h λv u j x y k m n o q=>d a b c j i k x y v u Q m n o q (g _ _))
def Uv (K:W.Frag):R2:=λx y H Q=>∃ p c i v,x=.ref p/\y=.int i/\SqL K H p c/\Q_ c i=some v/\Q v H
def Uw (K:W.Frag):R2:=λx y H Q=>∃ p c i v,x=.ref p/\y=.int i/\SqT K H p c/\Q_ c i=some v/\Q v H
theorem Ux:aV X (Uv X.K):=by
 intro f g c s o H x y v u Q I D E h A;obtain ⟨p,O,i,z,rfl,rfl,F,G,q⟩:=h;cases D;obtain ⟨t,rfl⟩:=E;obtain ⟨k,r,m,P⟩:=I.list F;obtain ⟨j,e,J,R,K,L⟩:=Kj G;obtain ⟨w,B,rw'⟩:=r.get J;have M:=r.length;have S:=G7;have d:EP X c o Q w s:=⟨z,H,I,rw',q⟩;by_cases C:0<=i
 ·have n:i.toNat=j:=by
   rw [seqIndex_of C L] at e;exact pE e
  exact item_listR m.isList C ⋯ (by rw [n];simpa using B) d A
 ·have n:(i+(k.toArray.size:Int)).toNat=j:=by
   rw [seqIndex_neg ⋯ K] at e;rw [BE,<-M];exact pE e
  exact subscriptTail_builtinR (x:=w) m.isList.typeIs slot_list_getitem.lookup
   (wpAny_getItem_list_neg (Q:=λr N=>r=w/\EP X c o Q r N) m.isList ⋯ (by rw [BE] <;> omega) ⋯ (by rw [n];simpa using B) ⟨rfl,d⟩) A
theorem Uy:aV X (Uw X.K):=by
 intro d e c s g H x y v u Q I m n h o;obtain ⟨p,K,i,z,rfl,rfl,A,B,q⟩:=h;cases m;obtain ⟨t,rfl⟩:=n;obtain ⟨C,r,k,L⟩:=I.tuple A;obtain ⟨j,D,E,M,N,O⟩:=Kj B;obtain ⟨w,F,rw'⟩:=r.get E;have G:=r.length;have P:=G7;have f:EP X c g Q w s:=⟨z,H,I,rw',q⟩
 exact subscriptTail_builtinR (x:=w) k.typeIs slot_tuple_getitem.lookup
  (getItem_tuple (j:=j) (Q:=λr J=>r=w/\EP X c g Q r J) k ⋯ ⋯ (by rw [BE,<-G];exact D) (by simpa using F) ⟨rfl,f⟩) o
theorem Uz (its:cP) (n j:Nat) (u:Value):Obj.mapSeq (·.setIfInBounds j u) { cls:=.type "list", data:=.seq its.toArray n }={ cls:=.type "list", data:=.seq (its.set j u).toArray n }:=by
 simp [Obj.mapSeq]
theorem Inv.lst {c:cS} {d:St} {H:Hp} {s:Shared} {p:Addr} {xs:cM} (I:Inv X c d H s) (h:H p=some (.lst xs)) :
  ∃ (its:cP) (n:Nat),Vals xs its/\s.heap.get? p=some { cls:=.type "list", data:=.seq its.toArray n }/\xs.length<=sizeLine:=by
 obtain ⟨z,its,n,r,e⟩:=I.hok p _ h;exact ⟨its,n,r,e,z⟩
theorem Inv.lstUpd {c:cS} {g:St} {H:Hp} {s:Shared} {p:Addr} {xs ys:cM} {its its':cP} {n d:Nat} {f:Obj->Obj} (I:Inv X c g H s) (h:H p=some (.lst xs))
  (m:s.heap.get? p=some { cls:=.type "list", data:=.seq its.toArray n }) (i:f { cls:=.type "list", data:=.seq its.toArray n }={ cls:=.type "list", data:=.seq its'.toArray d }) (r:Vals ys its') (o:ys.length<=sizeLine) (t:Nat) :
  Inv X c g (upd H p (.lst ys)) { s with heap:=s.heap.update p f,toks:=t }:=by
 have e:(s.heap.update p f).get? p=some { cls:=.type "list", data:=.seq its'.toArray d }:=by
  rw [Heap.get?_update_self f m (by rw [i] <;> rfl),i]
 refine I.write (x:=p) (e:=p) (by rw [h];trivial) (.inl rfl) (λb u v q=>(Heap.get?_update_other _ _ (Ne.symm v)).trans q) ⟨_,e⟩ ?_;exact ⟨o,its',d,r,e⟩
def EG:V->V->V->Hp->(Hp->Prop)->Prop:=λo i v H Q=>∃ p c k j,o=.ref p/\i=.int k/\H p=some (.lst c)/\ai c.length k=some j/\Q (upd H p (.lst (c.set j v)))
theorem E7:aD X EG:=by
 intro c s A H o i v J K u Q I B C D h;obtain ⟨p,E,k,j,rfl,rfl,hp,F,q⟩:=h;cases B;obtain ⟨t,rfl⟩:=C;obtain ⟨d,n,r,f,G⟩:=I.lst hp;obtain ⟨e,L,m,w⟩:=NU F;have g:=r.length;have M:=G7
 have x:Inv X c A (upd H p (.lst (E.set j v))) { s with heap:=s.heap.update p (Obj.mapSeq (·.setIfInBounds j u)) }:=
  I.lstUpd hp f (Uz d n j u) (r.set D j) (by rw [List.length_set];exact G) s.toks
 by_cases z:0<=k
 ·have hk:k.toNat=j:=by
   rw [seqIndex_of z w] at e;exact pE e
  exact W.ki_setAt f z ⋯ (by rw [BE,<-g];exact w) (by rw [hk];exact ⟨_,x,q⟩)
 ·have hk:(k+(d.toArray.size:Int)).toNat=j:=by
   rw [seqIndex_neg ⋯ m] at e;rw [BE,<-g];exact pE e
  exact W.ki_setBack f ⋯ (by rw [BE,<-g];exact m) ⋯ (by rw [hk];exact ⟨_,x,q⟩)
theorem U0 (c d:Option Int) (n:Nat):(sliceBounds c d none n).1=((HT.sIx n 0 c:Nat):Int)/\(sliceBounds c d none n).2.1=((HT.sIx n n d:Nat):Int)/\(sliceBounds c d none n).2.2=1:=by
 refine ⟨?_,?_,rfl⟩
 ·cases c with
  | none=>simp [sliceBounds,HT.sIx]
  | some i=>
    simp only [sliceBounds,HT.sIx,Option.getD_none,show (1:Int) > 0 by decide,if_true];by_cases h:i<0
    ·simp only [h,if_true] <;> omega
    ·simp only [h,if_false] <;> omega
 ·cases d with
  | none=>simp [sliceBounds,HT.sIx]
  | some i=>
    simp only [sliceBounds,HT.sIx,Option.getD_none,show (1:Int) > 0 by decide,if_true];by_cases h:i<0
    ·simp only [h,if_true] <;> omega
    ·simp only [h,if_false] <;> omega
theorem U1 (its:cP) (c d:Option Int):slicePick its.toArray c d none=((its.drop (HT.sIx its.length 0 c)).take (HT.sIx its.length its.length d - HT.sIx its.length 0 c)).toArray:=by
 obtain ⟨e,f,g⟩:=U0 c d its.toArray.size;unfold slicePick;rw [e,f,g];simp only [sliceRange_one,pick_run,BE] <;> rfl
def U2 (K:W.Frag):V->Option Int->Option Int->Hp->VK->Prop:=λx d e H Q=>∃ a c,x=.ref a/\SqL K H a c/\∀ p,H p=none->Q (.ref p) (upd H p (.lst (CQ c d e)))
theorem NW:cf X (U2 X.K):=by
 intro g s y H x v z A e f B Q I j k m n h;obtain ⟨a,c,rfl,p,q⟩:=h;cases j;obtain ⟨u,r,i,w⟩:=I.list p;have d:=r.length;refine ⟨"list", _,slot_list_getitem.lookup,i.isList.typeIs,?_⟩;refine wpAny_getItem_list_slice i.isList k m n .none (by simp) ?_ (by rw [BE] <;> omega);rw [U1,<-d];refine ⟨.ref s.heap.objs.size,_,I.laid (t':=s.toks) (o:=.lst (CQ c e f)) (λb C q=>Heap.get?_push_of_some _ q) (AO _) ?_,rfl,q _ (I.hok.fresh (AO _))⟩;exact ⟨BT (Ut c e f) w,_,0,(r.drop (HT.sIx c.length 0 e)).take (HT.sIx c.length c.length f - HT.sIx c.length 0 e),Heap.get?_push_size _ rfl⟩
theorem NX:Ch X (.builtin "len") (λj H Q=>∃ p d,j=[.ref p]/\(SqL X.K H p d\/SqT X.K H p d)/\Q (.int d.length) H):=by
 intro k s o H j v Q I r h;obtain ⟨p,d,rfl,e,q⟩:=h;obtain ⟨u,rfl,m⟩:=E4 r;cases m;have w:=G7;rcases e with e | e
 ·obtain ⟨f,g,i,n⟩:=I.list e;have c:=g.length;exact Calls.call_len_list i.isList (by simp only [BE] <;> omega) ⟨.int d.length,H,I.tok _,⟨s.toks+1,by rw [BE,c]⟩,q⟩
 ·obtain ⟨f,g,i,n⟩:=I.tuple e;have c:=g.length;exact len_tuple i (by simp only [BE] <;> omega) ⟨.int d.length,H,I.tok _,⟨s.toks+1,by rw [BE,c]⟩,q⟩
theorem U3:Ch X (.type "list") (λB H Q=>∃ p f,B=[.ref p]/\(SqL X.K H p f\/SqT X.K H p f)/\∀ l,H l=none->Q (.ref l) (upd H l (.lst f))):=by
 intro j s E H B G Q I r h;obtain ⟨p,f,rfl,k,q⟩:=h;obtain ⟨u,rfl,F⟩:=E4 r;cases F
 have m:∀ (c:cP),Vals f c->f.length<=sizeLine->∀ (d:Heap) (g:Nat),(∀ b C,s.heap.get? b=some C->d.get? b=some C)->
   d.get? s.heap.objs.size=some { cls:=.type "list", dict:=none,data:=.seq c.toArray g,slots:=#[] }->EP X j E Q (.ref s.heap.objs.size) { s with heap:=d }:=λc i v d g kp e=>
  ⟨.ref s.heap.objs.size,_,I.laid (t':=s.toks) kp (AO _) (show ObjOk X.prog X.w _ d _ (.lst f) from ⟨v,c,g,i,e⟩),rfl,q _ (I.hok.fresh (AO _))⟩
 rcases k with k | k
 ·obtain ⟨c,i,x,v⟩:=I.list k;have w:=i.length;obtain ⟨o,y,z,n,A⟩:=x.isList;exact call_list_seq p (.inl rfl) y z A (λd g kp e=>m c i v d g kp e) (by simp only [BE] <;> omega)
 ·obtain ⟨c,i,x,v⟩:=I.tuple k;have w:=i.length;obtain ⟨o,y,z,n,A⟩:=x;exact call_list_seq p (.inr rfl) y z A (λd g kp e=>m c i v d g kp e) (by simp only [BE] <;> omega)
theorem U4:Ch X (.type "tuple") (λn H Q=>∃ p f,n=[.ref p]/\((SqL X.K H p f/\∀ l,H l=none->Q (.ref l) (upd H l (.tup f)))\/(SqT X.K H p f/\Q (.ref p) H))):=by
 intro c s v H n E Q I r h;obtain ⟨p,f,rfl,h⟩:=h;obtain ⟨u,rfl,A⟩:=E4 r;cases A;rcases h with ⟨j,q⟩ | ⟨j,q⟩
 ·obtain ⟨d,k,m,w⟩:=I.list j;have x:=k.length;refine call_tuple_list m.isList (λi kp=>?_) (by simp only [BE] <;> omega);have y:Inv X c v H { s with heap:=i }:=I.kept (t':=s.toks) kp
  have C:Inv X c v (upd H i.objs.size (.tup f)) { s with heap:=i.push { cls:=.type "tuple", data:=.seq d.toArray } }:=
   y.laid (t':=s.toks) (λb o e=>Heap.get?_push_of_some _ e) (AO _) (show ObjOk X.prog X.w _ _ _ (.tup f) from ⟨w,d,k,IsTup.new _ _⟩)
  exact ⟨.ref i.objs.size,_,C,rfl,q _ (y.hok.fresh (AO _))⟩
 ·obtain ⟨d,k,m,w⟩:=I.tuple j;exact call_tuple_same m ⟨.ref p,H,I,rfl,q⟩
def cg (K:W.Frag) (T:String) (x:V) (H:Hp):Prop:=match x with
 | .str _=>T = "str"
 | .int _=>T = "int"
 | .ref p=>(T = "list" /\ ∃ d,SqL K H p d)\/(T = "tuple" /\ ∃ o,K.lookup p=some o/\o.cls=.type "tuple" /\ o.dict=none)\/
   (T = "dict" /\ ((∃ c,H p=some (.dK c))\/∃ c,H p=some (.dT c)))\/(T = "set" /\ ∃ S n,H p=some (.set S n))
 | _=>False
theorem U5 {f:cS} {u:St} {H:Hp} {s:Shared} {T:String} {x:V} {v:Value} (I:Inv X f u H s) (r:RelV x v) (g:cg X.K T x H) :
  s.TypeIs v T/\∀ a,v=.ref a->∃ m,s.heap.get? a=some m/\m.dict=none:=by
 cases x with
 | str z=>
   obtain ⟨t,rfl⟩:=r;cases (show T = "str" from g);exact ⟨typeIs_str s z t,λ_ e=>nomatch e⟩
 | int i=>
   obtain ⟨t,rfl⟩:=r;cases (show T = "int" from g);exact ⟨typeIs_int s i t,λ_ e=>nomatch e⟩
 | ref p=>
   cases r;rcases g with ⟨rfl,B,w⟩ | ⟨rfl,o,hk,y,h⟩ | ⟨rfl,hk⟩ | ⟨rfl,S,n,hk⟩
   ·obtain ⟨A,_,q,_⟩:=I.list w;refine ⟨q.isList.typeIs,λa e=>?_⟩;cases e;obtain ⟨o,n,e,c,h,_⟩:=q;exact ⟨o,e,h⟩
   ·refine ⟨⟨o,I.kIn p o hk,y⟩,λa e=>?_⟩;cases e;exact ⟨o,I.kIn _ o hk,h⟩
   ·have z:∃ o,s.heap.get? p=some o/\o.ExactDict:=by
     rcases hk with ⟨j,hk⟩ | ⟨j,hk⟩
     ·obtain ⟨_,_,_,_,o,_,_,e,d,_⟩:=I.hok p _ hk;exact ⟨o,e,d⟩
     ·obtain ⟨_,_,_,_,o,_,_,e,d,_⟩:=I.hok p _ hk;exact ⟨o,e,d⟩
    obtain ⟨o,e,d⟩:=z;refine ⟨⟨o,e,d.1⟩,λa k=>?_⟩;cases k;exact ⟨o,e,d.2.1⟩
   ·obtain ⟨o,_,_,_,e,d,_⟩:=I.hok p _ hk;refine ⟨⟨o,e,d.1⟩,λa k=>?_⟩;cases k;exact ⟨o,e,d.2.1⟩
 | _=>exact False.elim g
def U6 (K:W.Frag) (T:String) (r:V->cM->Hp->VK->Prop) (d:TE):TE:=λe H Q=>d e H λx c=>cg K T x c/\r x [] c Q
def aw (K:W.Frag) (T:String) (r:V->cM->Hp->VK->Prop) (e:TE) (t:TA):TE:=λc H Q=>e c H λx d=>cg K T x d/\t c d λf g=>r x f g Q
variable {o e:Expr} {es:cV} {to:TE} {t:TA} {name:Str} {apos cpos:Pos} {T id:String} {r:V->cM->Hp->VK->Prop}
theorem FY (u:PlainAttrs T) (i:Slot T name id) (k:typeOf (.builtin id)=pure (.type "method_descriptor")) (w:MtR X id r) (y:PE X o to) (z:PA X (e::es) t)
  (f:attributeBase o name X.env (eval o X.env)=eval o X.env:=by rfl)
  (j:((backTo cpos (starEach (e::es) X.env)).all (λx=>!x.1) && (backToKw cpos (keywordEach [] X.env)).all (λx=>x.1.isSome)
   && decide ((e::es).length+([]:List Keyword).length+(if ([]:List Keyword).isEmpty then 0 else 1)<30))=true:=by rfl)
  (g:(apos.endLine == cpos.line)=true:=by rfl) (A:starEach (e::es) X.env=(false,eval e X.env)::starEach es X.env:=by rfl) (d:(backTo cpos (starEach es X.env)).any (·.1)=false:=by rfl) :
  PE X (.Call (.Attribute o name apos) (e::es) [] cpos) (aw X.K T r to t):=by
 intro c s m H Q I h;refine wpAny_Call_method_late f j g rfl (H_ (y c s m H _ I h) λv s1 ⟨x,B,n,p,C,D⟩=>?_);obtain ⟨E,F⟩:=U5 n p C;refine ⟨T,id,u,i,k,E,F,?_⟩;have q:=z cpos c s1 m B _ n D;rw [A] at q ⊢;refine Calls.callWith_builtin (by show (false || (backTo cpos (starEach es X.env)).any (·.1))=false;rw [d] <;> rfl) (Calls.evalArgs_plain ?_);exact H_ q λG J ⟨K,L,M,N,O⟩=>w c J m L x K v G Q M p N O
end
def bH (X:Cx) (id:String) (r:V->cM->Hp->VK->Prop):Prop:=
 ∀ (a:cS) (s:Shared) (b:St) (H:Hp) (x:V) (c:cM) (v:Value) (d:cP) (Q:VK),Inv X a b H s->RelV x v->Vals c d->r x c H Q->
   wpAny (model X.prog X.w) X.A (call (.builtin id) (v::d)) (EP X a b Q) X.xe s
theorem Vals.zero {a:cP} (h:Vals [] a):a=[]:=by cases h;rfl
theorem Vals.inv {x:V} {xs:cM} {a:cP} (h:Vals (x::xs) a):∃ u t,a=u::t/\RelV x u/\Vals xs t:=by cases h with | cons r t=>exact ⟨_,_,rfl,r,t⟩
theorem Vals.one {x:V} {a:cP} (h:Vals [x] a):∃ u,a=[u]/\RelV x u:=by obtain ⟨u,t,rfl,r,h⟩:=h.inv;exact ⟨u,by rw [h.zero],r⟩
theorem Vals.two {x y:V} {a:cP} (h:Vals [x,y] a):∃ u v,a=[u,v]/\RelV x u/\RelV y v:=by obtain ⟨u,t,rfl,r,h⟩:=h.inv;obtain ⟨v,rfl,q⟩:=h.one;exact ⟨u,v,rfl,r,q⟩
theorem Vals.eraseIdx:∀ {xs:cM} {a:cP} (i:Nat),Vals xs a->Vals (xs.eraseIdx i) (a.eraseIdx i)
 | _,_,_,.nil=>.nil
 | _,_,0,.cons _ t=>t
 | _,_,i+1,.cons r t=>.cons r (Vals.eraseIdx i t)
theorem Vals.rep {xs:cM} {a:cP} (h:Vals xs a):∀ k:Nat,Vals (List.replicate k xs).flatten (List.replicate k a).flatten
 | 0=>.nil
 | k+1=>by
   rw [List.replicate_succ,List.replicate_succ,List.flatten_cons,List.flatten_cons];exact Vals.append h (Vals.rep h k)
theorem NY {a:Type}:∀ (l:List a) (i:Nat),(l.eraseIdx i).length<=l.length
 | [],_=>AO _
 | _::_,0=>Nat.le_succ _
 | _::r,i+1=>Nat.succ_le_succ (NY r i)
theorem NZ (its:cP):∀ (k:Nat) (a:cP),
  List.foldl (λb c=>b++c) a.toArray (List.replicate k its.toArray)=(a++(List.replicate k its).flatten).toArray
 | 0,a=>by simp
 | k+1,a=>by
   have e:a.toArray++its.toArray=(a++its).toArray:=by simp
   have d:(a++its)++(List.replicate k its).flatten=a++(List.replicate (k+1) its).flatten:=by
    rw [List.replicate_succ,List.flatten_cons,List.append_assoc]
   rw [<-d,<-NZ its k (a++its),<-e,List.replicate_succ,List.foldl_cons]
section
variable {X:Cx} {pins:cS} {σ:St} {H:Hp} {s:Shared} {l b:Addr} {xs ys zs:cM}
theorem Inv.lset {its its':cP} {n:Nat} {f:Array Value->Array Value} {t':Nat} (I:Inv X pins σ H s) (d:H l=some (.lst xs))
  (e:s.heap.get? l=some { cls:=.type "list", data:=.seq its.toArray n }) (g:f its.toArray=its'.toArray) (h:Vals ys its') (i:ys.length<=sizeLine) :
  Inv X pins σ (upd H l (.lst ys)) { s with heap:=s.heap.update l (Obj.mapSeq f),toks:=t' }:=by
 have q:=PySem.IsL.update e f;rw [g] at q;refine I.write (x:=l) (e:=l) (by rw [d];exact trivial) (.inl rfl) (λm u j k=>(Heap.get?_update_other s.heap (Obj.mapSeq f) (Ne.symm j)).trans k) ⟨_,q⟩ ?_;exact ⟨i,its',_,h,q⟩
theorem Inv.lnew {its:cP} {t':Nat} (I:Inv X pins σ H s) (e:Vals ys its) (f:ys.length<=sizeLine) :
  Inv X pins σ (upd H s.heap.objs.size (.lst ys)) { s with heap:=s.heap.push { cls:=.type "list", data:=.seq its.toArray },toks:=t' }:=
 I.laid (λ_ _ q=>Heap.get?_push_of_some _ q) (AO _) ⟨f,its,0,e,Heap.get?_push_size _ rfl⟩
theorem Inv.fresh (I:Inv X pins σ H s):H s.heap.objs.size=none:=I.hok.fresh (AO _)
theorem Inv.lstM (I:Inv X pins σ H s) (a:H l=some (.lst xs)):xs.length<=sizeLine/\∃ (its:cP) (n:Nat),Vals xs its/\xs.length=its.length/\s.heap.get? l=some { cls:=.type "list", data:=.seq its.toArray n }:=by
 obtain ⟨z,its,n,r,e⟩:=I.hok l _ a;exact ⟨z,its,n,r,r.length,e⟩
theorem Na {n:Nat} (h:n<=sizeLine):Builtin.List.listTooLong n=false:=by
 unfold Builtin.List.listTooLong;exact qX ⋯
end
section
variable {X:Cx}
def GP:V->cM->Hp->VK->Prop:=λx b H Q=>∃ l a y,x=.ref l/\b=[y]/\H l=some (.lst a)/\a.length<sizeLine/\Q .non (upd H l (.lst (a++[y])))
theorem JJ:bH X "list.append" GP:=by
 intro b s i H x j v k Q I d f h;obtain ⟨l,m,y,rfl,rfl,c,o,q⟩:=h;cases d;obtain ⟨u,rfl,g⟩:=f.one;obtain ⟨z,a,n,r,p,e⟩:=I.lstM c;refine call_meets F.slot_list_append ⟨_,e,rfl⟩ F.entry_list_append (F.args_list_append_2 _ _) (PySem.list_append l a.toArray n u (by rw [BE];omega)) ⟨e,?_⟩;refine ⟨.non,_,I.lset (its':=a++[u]) c e (by simp) (r.append (.cons g .nil)) ?_,rfl,q⟩;rw [Bw,List.length_singleton];omega
def Kk:V->cM->Hp->VK->Prop:=λx d H Q=>∃ l b a c,x=.ref l/\d=[.ref b]/\H l=some (.lst a)/\H b=some (.lst c)/\a.length+c.length<=sizeLine/\Q .non (upd H l (.lst (a++c)))
theorem U7:bH X "list.extend" Kk:=by
 intro g s B H x C v D Q I j k h;obtain ⟨l,b,E,G,rfl,rfl,i,m,J,q⟩:=h;cases j;obtain ⟨u,rfl,o⟩:=k.one;cases o;obtain ⟨z,c,n,r,K,e⟩:=I.lstM i;obtain ⟨L,a,p,w,y,A⟩:=I.lstM m;have f:c.toArray.size+a.toArray.size<=sizeLine:=by rw [BE,BE];omega
 have d:¬ (!c.toArray.isEmpty && Builtin.List.listTooLong (c.toArray.size+a.toArray.size))=true:=by
  rw [Na f,Bool.and_false];exact Cb
 refine call_meets F.slot_list_extend ⟨_,e,rfl⟩ F.entry_list_extend (F.args_list_extend_2 _ _)
  (AutoSeq1.list_extend_list_list_0 l c.toArray n b a.toArray p d (by rw [BE];omega) ⋯) ⟨e,A,?_⟩
 refine ⟨.non,_,I.lset (its':=c++a) i e (by simp) (r.append w) ?_,rfl,q⟩;rw [Bw];omega
def U8:V->cM->Hp->VK->Prop:=λx b H Q=>∃ l a y,x=.ref l/\b=[]/\H l=some (.lst a)/\a[a.length - 1]?=some y/\Q y (upd H l (.lst a.dropLast))
def U9:V->cM->Hp->VK->Prop:=λx b H Q=>∃ l a i k y,x=.ref l/\b=[.int i]/\H l=some (.lst a)/\-(2 ^ 63)<=i/\i<2 ^ 63/\seqIndex? i a.length=some k/\a[k]?=some y/\Q y (upd H l (.lst (a.eraseIdx k)))
theorem VA:bH X "list.pop" U9:=by
 intro b s C H x D v E Q I d f h;obtain ⟨l,g,i,k,y,rfl,rfl,c,j,m,hk,o,q⟩:=h;cases d;obtain ⟨u,rfl,p⟩:=f.one;obtain ⟨t,rfl⟩:=p;obtain ⟨z,a,n,r,A,e⟩:=I.lstM c;obtain ⟨w,B,rw'⟩:=r.get o
 refine call_meets F.slot_list_pop ⟨_,e,rfl⟩ F.entry_list_pop (F.args_list_pop_2 _ _)
  (MeetsSeq.list_pop_at l a.toArray n i t k w (fitsIndex_both j m) (by rw [BE,<-A];exact hk) (by rw [<-Array.getElem?_toList];exact B) (by rw [BE];omega)) ⟨e,?_⟩
 refine ⟨y,_,I.lset (its':=a.eraseIdx k) c e ?_ (r.eraseIdx k) ?_,rw',q⟩
 ·show a.toArray.eraseIdxIfInBounds k=(a.eraseIdx k).toArray;rw [List.eraseIdxIfInBounds_toArray]
 ·have:=NY g k;omega
def HA:R2:=λx y H Q=>∃ l b a c,x=.ref l/\y=.ref b/\H l=some (.lst a)/\H b=some (.lst c)/\a.length+c.length<=sizeLine/\∀ p,H p=none->Q (.ref p) (upd H p (.lst (a++c)))
theorem JK:OpR X (binaryOp .Add) HA:=by
 intro d s w H x y v u Q I f g h;obtain ⟨l,b,A,B,rfl,rfl,i,j,C,q⟩:=h;cases f;cases g;obtain ⟨z,c,n,r,D,e⟩:=I.lstM i;obtain ⟨E,a,F,k,m,o⟩:=I.lstM j;refine PySem.P.add_list e o ?_ (by rw [BE,BE];omega);have p:c.toArray++a.toArray=(c++a).toArray:=by simp
 rw [p];exact ⟨.ref _,_,I.lnew (t':=s.toks) (r.append k) (by rw [Bw];omega),rfl,q _ I.fresh⟩
def GS:R2:=λx y H Q=>∃ l k a,x=.ref l/\y=.int k/\H l=some (.lst a)/\-(2 ^ 63)<=k/\k<2 ^ 63/\a.length*k.toNat<=sizeLine/\
 ∀ p,H p=none->Q (.ref p) (upd H p (.lst (List.replicate k.toNat a).flatten))
theorem VB {a:Type} (xs:List a) (k:Nat):(List.replicate k xs).flatten.length=k*xs.length:=by
 induction k with
 | zero=>simp
 | succ k b=>rw [List.replicate_succ,List.flatten_cons,Bw,b,Nat.succ_mul,Nat.add_comm]
theorem Hy:OpR X (binaryOp .Mult) GS:=by
 intro p s L H x y v u Q I A B h;obtain ⟨l,k,M,rfl,rfl,C,D,E,w,q⟩:=h;cases A;obtain ⟨t,rfl⟩:=B;obtain ⟨z,b,n,r,G,e⟩:=I.lstM C;have d:b.toArray.size*k.toNat<=sizeLine:=by rw [BE,<-G];exact w
 have f:¬ b.toArray.size*k.toNat > (2 ^ 63 - 1) / 8:=by
  have:(sizeLine:Nat)<=(2 ^ 63 - 1) / 8:=by decide
  omega
 have g:¬ (!Builtin.List.listFitsIndex k)=true:=by
  rw [fitsIndex_both D E];exact Cb
 have c:¬ Builtin.List.listTooLong (b.toArray.size*k.toNat)=true:=by
  rw [Na d];exact Cb
 have i:List.foldl (λj o=>j++o) #[] (List.replicate (if b.toArray.isEmpty=true then 0 else k.toNat) b.toArray)=(List.replicate k.toNat b).flatten.toArray:=by
  have J:∀ m:Nat,List.foldl (λj o=>j++o) #[] (List.replicate m b.toArray)=(List.replicate m b).flatten.toArray:=λm=>by
   have:=NZ b m [];rw [List.nil_append] at this;exact this
  rw [J];cases b with
  | nil=>simp
  | cons a N=>rw [qT (by simp)]
 refine wpAny_binaryOp_repeat_ref (T := "list") (U := "int") ∅ ⟨_,e,rfl⟩ (λK=>typeIs_int K k t) noFill_list_mul F.fills_int_mul F.slot_int_rmul repeat_list F.slot_int_index.lookup
  (call_meets F.slot_int_rmul (typeIs_int s k t) F.entry_int_rmul (F.args_int_rmul_2 _ _) (int___rmul___int_list k t l b.toArray n)
   ⟨e,rfl,⟨_,e,rfl⟩,call_meets F.slot_list_mul ⟨_,e,rfl⟩ F.entry_list_mul (F.args_list_mul_2 _ _) (AutoListH.list___mul___list_int_3 l b.toArray n k t g f c) ⟨e,?_⟩⟩)
 rw [i];exact ⟨.ref _,_,I.lnew (t':=s.toks) (r.rep k.toNat) (by rw [VB,DP];exact w),rfl,q _ I.fresh⟩
end
end L2
namespace Att
open PySem PySem.W PySem.Calls PyProof.Rows
theorem VC {P:Params} {h:Heap}:∀ (c:cO) (vs:cP),WellAll P h vs (c.map WData.int)->IntsAre vs c:=by
 intro c
 induction c with
 | nil=>
   intro vs w;rw [List.map_nil] at w;cases w;exact .nil
 | cons n c d=>
   intro vs w;rw [CD] at w;cases w with
   | cons a b=>
     cases a;exact .cons _ _ (d _ b)
theorem VD {l:OpenLaw} {n:Nat} (v:l.most=some n) {P:Params} {h:Heap} {b:List WData} {e:cP}
  (f:l.row.toRowW.claim.pre b=true) (m:WellAll P h e b) :
  ∃ a p c,e=[Value.ref a]/\b=[WData.list (c.map WData.int)]/\h.get? a=some { cls:=.type "list", data:=.seq p.toArray }/\IntsAre p c/\c.length<=n:=by
 have o:WShape.hasAll [] b [.list .int]=true:=(pre_splitW f).1;have u:l.pre.holds [] { args:=b }=true:=(pre_splitW f).2;obtain ⟨d,r,rfl,w,x⟩:=hasAllW_cons o;obtain rfl:=hasAllW_nil x;obtain ⟨D,rfl,y⟩:=hasW_list w;obtain ⟨c,rfl⟩:=items_int y
 have g:c.length<=n:=by
  unfold OpenLaw.pre at u
  have j:(WTm.not (.lt (.lit (.int (n:Int))) (.len (.arg 0)))).holds [] { args:=[.list (c.map .int)] }=true:=by
   have j:=(holds_andW u).1;rw [v] at j;exact j
  have k:=condW_of j (w_not (w_lt w_lit (w_len_list (w_arg rfl))));rw [AG] at k;refine Nat.le_of_not_lt λq=>?_;have z:(n:Int)<((c.length:Nat):Int):=by omega
  first
   | (rw [qV z] at k;exact absurd k ∅)
   | (simp at k;omega)
 cases m with
 | cons A B=>
   cases B;cases A with
   | list C i=>exact ⟨_,_,c,rfl,rfl,C,VC c _ i,g⟩
theorem VE (l:OpenLaw) (a:List WData):l.row.toRowW.claim.post a (.bool true) a=true:=
 postW_of (r:=l.row.toRowW) (X:=(true == true))
  (show WShape.has [] (.bool true) .bool=true by first | rfl | decide | simp [WShape.has,WShape.arms,WShape.armsAll])
  (show (WTm.eq .res (.lit (.bool true))).value [] { args:=a,res:=some (.bool true),after:=a }=some (.bool (true == true)) from w_eq_bool (w_res rfl) w_lit) rfl
theorem attach_call {l:OpenLaw} {n:Nat} {q:Program} {loose:cW} {XP:(cU)->Heap->Prop} {YP:World->Heap->Prop} {d:DefRec}
  (H:l.most=some n) (x:d.params.defaults=[])
  (call:∀ (w:World) (c b:Shared) (m y:cU) (h:Addr) (o:Obj) (pm p e:Value) (a:Addr) (vs:cP) (u:cO),
   Ground q loose [] XP w c m y b.heap->YP w b.heap->
   b.heap.get? h=some o->o.data=.func (docDef d.name d.params d.body d.scope pm p e)->b.heap.CodeRec p d.name->m d.name=some (.ref h)->
   b.heap.get? a=some { cls:=.type "list", data:=.seq vs.toArray }->IntsAre vs u->u.length<=n->b.gens=#[]->
   codeAny (model l.prog w) callerA (.call (.ref h) ⟨[.ref a],[]⟩) (λr v=>r=.ok (.ret (.bool true))/\OldK b.heap v.heap/\v.os=b.os/\AllBare v.gens) b) :
  WalkO q loose XP YP l.row.toRowW d [] (λf vs=>PySem.call f vs):=by
 intro w c b m y G Y h o pm p e I kV J K z C A L D E as i F M B N;obtain rfl:I=.none:=Dflts.none C x;obtain rfl:kV=.none:=Dflts.noKw C;obtain ⟨a,vs,u,rfl,rfl,j,g,k⟩:=VD H i B;refine enter_call (codeAny_mono (call w c b m y h o pm p e a vs u G Y J (fd_plain K) z A j g k L) λr v O=>?_);obtain ⟨rfl,P,Q,R⟩:=O;exact ⟨.inl ⟨.bool true,.bool true,[],rfl,λ_=>rfl,.bool true,VE l _,λ_=>⟨List.Pairwise.nil,λ_ S=>(nomatch S)⟩⟩,P,Q,R⟩
section
variable {prog:Program} {w:World} {A:Around} {E:cQ} {s:Shared} {K:Frag}
noncomputable def noObjs (h:Heap):Heap:={ h with objs:=#[] }
theorem noObjs_get (h:Heap) (b:Addr):(noObjs h).get? b=none:=by
 cases e:(noObjs h).get? b with
 | none=>rfl
 | some o=>exact absurd (pH e) (Nat.not_lt_zero _)
noncomputable def ledger (h:Heap) (L d:Addr):cS:=(List.range h.objs.size).filterMap λa=>if a=L\/a=d then none else (h.get? a).map λo=>(a,o)
theorem mem_ledger {h:Heap} {L d a:Addr} {o:Obj}:(a,o)∈ledger h L d↔a≠L/\a≠d/\h.get? a=some o:=by
 unfold ledger;rw [List.mem_filterMap];constructor
 ·rintro ⟨b,_,e⟩;split at e
  ·cases e
  ·rename_i f;obtain ⟨k,c,g⟩:=Et.mp e;cases g;exact ⟨λq=>f (.inl q),λq=>f (.inr q),c⟩
 ·rintro ⟨i,j,c⟩;refine ⟨a,D5.mpr (pH c),?_⟩;rw [qT (show ¬ (a=L\/a=d) from λq=>q.elim i j),c] <;> rfl
theorem fr_all {h:Heap} {L:Addr} {m:cU} (n:h.Ns L m):Fr (noObjs h) L h m:=
 ⟨n,λb o e=>(by rw [noObjs_get] at e;cases e),Ae _⟩
end
end Att
namespace L2
open PySem PySem.Spec PyProof.Rows
theorem Nc:∀ {vs:cP} {a:cO},IntsAre vs a->Vals (a.map V.int) vs
 | _,_,.nil=>.nil
 | _,_,.cons n t h=>.cons ⟨t,rfl⟩ (Nc h)
def a_ (H:Hp):Prop:=∀ b,H b=none\/∃ o a,H b=some (.frz o (.lst a))
theorem VF {P:Program} {w:World} {K:W.Frag} {E mb:cU} {CX:aE} {k:Nat} {fa a:Addr} {fd:FuncData} {x:Str} {sp:Sp} {c:Shared} {vs:cP} {G:cO}
  (KX:K.In c.heap) (I:c.heap.Ns mainGlobals E) (j:c.heap.Ns builtinsNs mb) (a0:∀ x:Str,x ≠ "__name__" -> mb x=bootBuiltins x) (J:c.heap.NoLimit) (g:c.heap.NoSeer) (B:(model P w).prog.given.tree=none) (hg:c.gens=#[])
  (L:c.heap.get? a=some { cls:=.type "list", data:=.seq vs.toArray }) (hi:IntsAre vs G) (hl:G.length<=sizeLine) (hr:Room k callerA)
  (F:∀ p:Heap,K.In p->p.Ns mainGlobals E->FnOk P w K E p CX k fa fd [x] sp) (C:∀ (s:Shared) (u:Value),BindsTo s fd ⟨[u],[]⟩ [(x,u)])
  (a1:∀ H:Hp,a_ H->SqL K H a (G.map V.int)->sp [.ref a] H (λv _=>v=.bl true) λ_ _ _=>False)
  (a2:∀ H e y,CX [] H c (λ_ _ _=>False) e y->False) :
  codeAny (model P w) callerA (.call (.ref fa) ⟨[.ref a],[]⟩) (λr y=>r=.ok (.ret (.bool true))/\OldK c.heap y.heap/\y.os=c.os/\AllBare y.gens) c:=by
 have rv:=Nc hi;have M:=hi.length
 have A:∀ H:Hp,a_ H->SqL K H a (G.map V.int)->HOk P w H c.heap->(∀ b,H b≠none->b=a)->(H a≠none->K.lookup a=none)->
   codeAny (model P w) callerA (.call (.ref fa) ⟨[.ref a],[]⟩) (λr y=>r=.ok (.ret (.bool true))/\OldK c.heap y.heap/\y.os=c.os/\AllBare y.gens) c:=by
  intro H hO hS N hA hK;have f:∀ {b:Addr} {o:Obj},c.heap.get? b=some o->H b=none->(EW c.heap H).get? b=some o:=λe n=>UG e n
  have a3:∀ {b:Addr} {o:Obj} {O:Array DictEntry} {Q:Nat},c.heap.get? b=some o->o.data=.dict O Q->H b=none:=λ{b o O Q} e d=>by
   cases q:H b with
   | none=>rfl
   | some u=>
     have R:b=a:=hA b (by rw [q];simp);subst R;rw [L] at e;cases e;have Y:Data.seq vs.toArray _=Data.dict O Q:=d;cases Y
  have i:∀ {b:Addr} {m:cU},c.heap.Ns b m->(EW c.heap H).Ns b m:=λ{b m} ⟨o,O,Q,e,d,r⟩=>⟨o,O,Q,f e (a3 e d),d,r⟩
  have S:K.In (EW c.heap H):=λb o e=>f (KX b o e) (by
   cases q:H b with
   | none=>rfl
   | some u=>
     have R:b=a:=hA b (by rw [q];simp);subst R;rw [hK (by rw [q];simp)] at e;cases e)
  have hM:Mod K E (EW c.heap H):=⟨S,i I,⟨mb,i j,a0⟩,let ⟨D,h1,h2⟩:=J;⟨D,i h1,h2⟩⟩
  have a4:(EW c.heap H).NoSeer:=⟨let ⟨D,a,b⟩:=g.statics;⟨D,i a,b⟩,let ⟨D,a,b⟩:=g.mods;⟨D,i a,b⟩,let ⟨D,a,b⟩:=g.imp;⟨D,i a,b⟩,
   let ⟨a5,Z,ob,a',b',c',Y,R⟩:=g.main;⟨a5,Z,ob,i a',b',f c' (by
    cases q:H Z with
    | none=>rfl
    | some u=>
      have z:Z=a:=hA Z (by rw [q];simp);subst z;rw [L] at c';cases c';simp at Y),Y,R⟩⟩
  have e0:Env0 P w K E (EW c.heap H) callerA [] c H:=⟨rfl,hM,λb o e=>UH e,Nat.le_of_eq (UF _ _),trivial,λb j=>absurd (show b∈([]:c_) from j) (by simp),N,.of_eq hg,a4,B⟩;refine codeAny_mono ((F _ S (i I)).run callerA [] c H ⟨[.ref a],[]⟩ [.ref a] [.ref a] _ _ hr e0 (C c (.ref a)) (.cons rfl .nil) (a1 H hO hS)) λr y h=>?_;cases r with
  | error e=>exact (a2 H e y h).elim
  | ok fl=>
    cases fl with
    | next=>exact False.elim h
    | brk=>exact False.elim h
    | cont=>exact False.elim h
    | ret u=>
      obtain ⟨v,H',os,T,un,U,r',q⟩:=h;have q':v=.bl true:=q;subst q';obtain rfl:u=Value.bool true:=r';refine ⟨rfl,OldK.of_keep λb o e=>?_,os,T⟩;cases q:H b with
      | none=>exact un.keep b o e q (by intro z;exact absurd (show b∈([]:c_) from z) (by simp)) (by simp)
      | some u=>
        rcases hO b with z | ⟨ob,xs,z⟩
        ·rw [q] at z;cases z
        ·have z2:=un.frzs b ob _ z;obtain ⟨e1,_⟩:=N b _ z;obtain ⟨e2,_⟩:=U b _ z2;rw [e] at e1;cases e1;exact e2
 cases hk:K.lookup a with
 | some o=>
   have e:=KX a o hk;rw [L] at e;cases e;refine A (λ_=>none) (λ_=>.inl rfl) (.inr ⟨_,vs.toArray,_,hk,rfl,rfl,rfl,by rw [BE,M];exact hl,by simpa using rv⟩) (λb u z=>by have X:(none:Option HO)=some u:=z;cases X) (λb z=>absurd rfl z) λz=>absurd rfl z
 | none=>
   refine A (λb=>if b=a then some (.frz { cls:=.type "list", data:=.seq vs.toArray } (.lst (G.map V.int))) else none) (λb=>?_) (.inl (.inr ⟨{ cls:=.type "list", data:=.seq vs.toArray },qU rfl⟩)) (λb u z=>?_) (λb z=>?_) λ_=>hk
   ·by_cases j:b=a
    ·exact .inr ⟨_,_,qU j⟩
    ·exact .inl (qT j)
   ·by_cases j:b=a
    ·have X:=(qU j).symm.trans z;cases X;subst j;exact ⟨L,by rw [AG];exact hl,vs,_,rv,L⟩
    ·have X:=(qT j).symm.trans z;cases X
   ·by_cases j:b=a
    ·exact j
    ·exact absurd (qT j) z
theorem walk_of {l:W.OpenLaw} {n k:Nat} {q:Program} {loose:cW} {XP:(cU)->Heap->Prop} {YP:World->Heap->Prop} {d:DefRec} {K:Params->W.Frag} {CX:World->aE} {sp:World->Sp} {x:Str}
  (M:l.most=some n) (z:n<=sizeLine) (A:d.params.defaults=[]) (N:importsNone q=true) (g:∀ w,(model l.prog w).prog.given.tree=none) (O:Room k callerA)
  (P:∀ (w:World) (h:Heap),YP w h->(K w.params).In h)
  (F:∀ (w:World) (j:cU) (r:Addr) (h:Heap),(K w.params).In h->h.Ns mainGlobals j->j d.name=some (.ref r)->
   ∃ B:FuncData,(∀ (s:Shared) (u:Value),BindsTo s B ⟨[u],[]⟩ [(x,u)])/\
     ∀ b:Heap,(K w.params).In b->b.Ns mainGlobals j->FnOk l.prog w (K w.params) j b (CX w) k r B [x] (sp w))
  (C:∀ (w:World) (H:Hp) (a:Addr) (y:cO),y.length<=n->a_ H->SqL (K w.params) H a (y.map V.int)->sp w [.ref a] H (λv _=>v=.bl true) λ_ _ _=>False)
  (D:∀ (w:World) (H:Hp) (s:Shared) (e:Value) (s':Shared),CX w [] H s (λ_ _ _=>False) e s'->False) :
  W.WalkO q loose XP YP l.row.toRowW d [] (λf I=>PySem.call f I):=by
 refine Att.attach_call M A λw J m j mb r o pm cd Q a I y G Y ho hd R E p i c S=>?_;have L:=P w _ Y;obtain ⟨B,T,U⟩:=F w j r _ L G.T.g E;exact VF L G.T.g G.T.b G.T.builtins G.T.nolimit (G.T.seer N) (g w) S p i (BT c z) O U T (λH X Z=>C w H a y c X Z) λH e s'=>D w H m e s'
noncomputable def Ed (s:Stmt):Arguments:=match s with
 | .FunctionDef _ a _ _ _ _ _ _ _ _=>a
 | _=>{ posonlyargs:=[],args:=[],vararg:=none,kwonlyargs:=[],kw_defaults:=[],kwarg:=none,defaults:=[] }
noncomputable def Dv (s:Stmt):List Stmt:=match s with
 | .FunctionDef _ _ b _ _ _ _ _ _ _=>b
 | _=>[]
noncomputable def Ci (s:Stmt):Scope:=match s with
 | .FunctionDef _ _ _ _ _ _ a _ _ _=>a
 | _=>{ kind:=.function,names:=[],isGenerator:=false,isCoroutine:=false }
noncomputable abbrev aF:aE:=λ_ _ _ _ _ _=>False
abbrev E0:XK:=λ_ _ _=>False
theorem VG {X:Cx}:ak aF X E0:=λ_ _ _ _ _ _ _ h=>h.elim
structure Fun (K:W.Frag) (x qual:Str) (st:Stmt) (f:Addr) (fd:FuncData):Prop where
 ex:∃ (oc:Value) (od:Option Addr) (kV doc pm:Value) (an:Option Addr) (cdv ct:Value) (osl:Array (cZ)),
  fd=W.fnOf x qual (Ed st) (Dv st) (Ci st) .none kV doc pm an cdv ct/\K.lookup f=some ⟨oc,od,.func fd,osl⟩/\W.codeIn K cdv qual=true
 kp:W.keepIn K (.ref f)=true
section
variable {P:Program} {w:World} {K:W.Frag} {mg:cU} {base:Heap}
theorem Fun.ok {x b:Str} {st:Stmt} {f:Addr} {i:FuncData} {N ps:cW} {k:Nat} {sp:Sp} (F:Fun K x b st f i) (S:FnScope N ps (Ci st)) (len:∀ vs H Q E,sp vs H Q E->vs.length=ps.length)
  (d:∀ (c:Value) (A:Around) (a:List Env) (s:Shared) (H:Hp) (vs:cM) (Q:VK) (E:XK),Room k (A.deeper (envOfC b (Ci st) s.heap.objs.size f c))->sp vs H Q E->
   ∃ t,PSs (GJ aF P w K mg base N b (Ci st) f c A a s H E).nox (Dv st) t/\t { nx:=λ_ j=>Q .non j,rt:=Q } (start N vs) H):FnOk P w K mg base aF (k+1) f i ps sp:=by
 obtain ⟨r,u,kV,m,v,y,c,z,n,rfl,o,e⟩:=F.ex;refine Us o e S len λA a s H vs Q E p g=>?_;obtain ⟨t,h,q⟩:=d c A a s H vs Q E p g;exact ⟨t,h.nox,q⟩
theorem Fun.binds {x a:Str} {st:Stmt} {f:Addr} {i:FuncData} {ps:cW} (F:Fun K x a st f i)
  (h:∀ (kV b pm:Value) (d:Option Addr) (c e:Value) (g:cP),g.length=ps.length->bindArgs (W.fnOf x a (Ed st) (Dv st) (Ci st) .none kV b pm d c e) ⟨g,[]⟩=pure (ps.zip g)):Binds K i ps []:=by
 obtain ⟨m,n,kV,b,pm,d,c,e,j,rfl,o,k⟩:=F.ex;exact .all (h kV b pm d c e)
theorem VH {x a:Str} {st:Stmt} {f:Addr} {i:Value} {j g:Option Addr} {e:Array (cZ)} {kV d pm b h:Value} (l:K.lookup f=some ⟨i,j,.func (W.fnOf x a (Ed st) (Dv st) (Ci st) .none kV d pm g b h),e⟩)
  (c:W.codeIn K b a=true) (k:W.keepIn K (.ref f)=true):Fun K x a st f (W.fnOf x a (Ed st) (Dv st) (Ci st) .none kV d pm g b h):=⟨⟨i,j,kV,d,pm,g,b,h,e,rfl,l,c⟩,k⟩
end
section
variable {X:Cx}
theorem pv (i:Nat) {x:Str} {pos:Pos} (b:X.N[i]?=some x:=by rfl) (c:bR X.env.scope x:=by first | exact Or.inl rfl | exact Or.inr (Or.inl rfl) | exact Or.inr (Or.inr rfl)) (d:(x == ("__debug__" : Str))=false:=by decide)
  (a:(x == ("__classdict__" : Str))=false:=by decide):PE X (.Name x pos) (AA i):=UJ b c d a
end
theorem Am {c A B:Prop} [Decidable c] (a:c->A) (b:¬ c->B):if c then A else B:=by
 by_cases h:c
 ·rw [qU h];exact a h
 ·rw [qT h];exact b h
def Same (H a:Hp):Prop:=∀ b o,H b=some o->a b=some o
theorem Same.refl (H:Hp):Same H H:=λ_ _ h=>h
theorem Same.trans {H d e:Hp} (a:Same H d) (b:Same d e):Same H e:=λc o h=>b c o (a c o h)
theorem Same.free {H a:Hp} (e:Same H a) {l:Addr} (h:a l=Option.none):H l=Option.none:=by
 cases q:H l with
 | none=>rfl
 | some o=>
   rw [e l o q] at h;cases h
theorem Same.seq {K:W.Frag} {H b:Hp} {a:Addr} {xs:cM} (e:Same H b) (h:SqL K H a xs):SqL K b a xs:=by
 rcases h with (h | ⟨o,h⟩) | h
 ·exact .inl (.inl (e _ _ h))
 ·exact .inl (.inr ⟨o,e _ _ h⟩)
 ·exact .inr h
end L2
local macro_rules | `(tactic| omega)=>`(tactic| lia)
namespace Bs.Hd
open PySem PySem.Spec PyProof.Rows L2
set_option maxRecDepth 100000
set_option maxHeartbeats 4000000
noncomputable def top (i:Nat):Stmt:=PySem.Challenge.pw_backslope_k33_forms_together.main.body.getD i (.Pass ⟨0,0,0,0⟩)
noncomputable abbrev VI:Stmt:=top 2
noncomputable abbrev VJ:Stmt:=top 3
noncomputable abbrev VL:Stmt:=top 4
noncomputable abbrev VM:Stmt:=top 5
noncomputable abbrev VN:Stmt:=top 6
noncomputable abbrev VO:Stmt:=top 7
noncomputable abbrev VP:Stmt:=top 8
noncomputable abbrev VQ:Stmt:=top 9
noncomputable abbrev VR:Stmt:=top 10
noncomputable abbrev VS:Stmt:=top 11
noncomputable abbrev VT:Stmt:=top 12
noncomputable abbrev VU:Stmt:=top 13
noncomputable abbrev VV:Stmt:=top 14
noncomputable abbrev VW:Stmt:=top 15
noncomputable abbrev VX:Stmt:=top 16
noncomputable abbrev VY:Stmt:=top 17
noncomputable abbrev VZ:Stmt:=top 18
noncomputable abbrev Va:Stmt:=top 19
noncomputable abbrev Vb:Stmt:=top 20
noncomputable abbrev Vc:Stmt:=top 21
noncomputable abbrev Vd:Stmt:=top 22
noncomputable abbrev Ve:Stmt:=top 23
noncomputable abbrev Vf:Stmt:=top 25
noncomputable abbrev Vg:Stmt:=top 26
noncomputable abbrev Vh:Stmt:=top 27
noncomputable abbrev Vi:Stmt:=top 28
noncomputable abbrev Vj:Stmt:=top 29
noncomputable abbrev Vk:Stmt:=top 31
noncomputable abbrev Vl:Stmt:=top 32
noncomputable abbrev Vm:Stmt:=top 33
noncomputable abbrev Vn:Stmt:=top 34
noncomputable abbrev Vo:Stmt:=top 35
noncomputable abbrev Vp:Stmt:=top 36
noncomputable abbrev Vq:Stmt:=top 37
noncomputable abbrev Vr:Stmt:=top 38
noncomputable abbrev Vs:Stmt:=top 39
noncomputable abbrev Vt:Stmt:=top 40
noncomputable abbrev Vu:Stmt:=top 42
noncomputable abbrev Vv:Stmt:=top 43
noncomputable abbrev Vw:Stmt:=top 44
noncomputable abbrev Vx:Stmt:=top 45
noncomputable abbrev Vy:Stmt:=top 46
noncomputable abbrev Vz:Stmt:=top 47
noncomputable abbrev V0:Stmt:=top 48
noncomputable abbrev V1:Stmt:=top 50
noncomputable abbrev V2:Stmt:=top 51
noncomputable abbrev V3:Stmt:=top 52
noncomputable abbrev V4:Stmt:=top 53
noncomputable abbrev V5:Stmt:=top 55
noncomputable abbrev V6:Stmt:=top 56
noncomputable abbrev V7:Stmt:=top 57
noncomputable abbrev V8:Stmt:=top 59
noncomputable abbrev V9:Stmt:=top 60
noncomputable abbrev WA:Stmt:=top 61
noncomputable abbrev WB:Stmt:=top 62
noncomputable abbrev WC:Stmt:=top 63
noncomputable abbrev WD:Stmt:=top 64
noncomputable abbrev WE:Stmt:=top 65
noncomputable abbrev WF:Stmt:=top 66
noncomputable abbrev WG:Stmt:=top 67
noncomputable abbrev WH:Stmt:=top 68
noncomputable abbrev WI:Stmt:=top 69
noncomputable abbrev JL:Stmt:=top 70
noncomputable abbrev N:Value:=.none
noncomputable abbrev S (x:Str) (t:Tok):Value:=.str x t
noncomputable abbrev I (i:Int):Value:=.int i 0
noncomputable abbrev R (a:Addr):Value:=.ref a
noncomputable def en (P:Params) (k:Str) (t:Tok) (v:Value):DictEntry:=⟨PyData.keyHash P k,.str k t,v⟩
noncomputable def K_ (n:Str) (t:Tok) (l c u:Int) (a:Addr) (b g d e f:Value) (x:Int) (y:Tok):Obj:=⟨.type "code", none,.fields #[S n t,S n (t+1),S "/claim/cut.py" (t+2),I l,I c,I 0,I 0,I u,R a,.bool true,I 181,b,g,d,e,f,I x,I l,S "/claim/cut.py" y],#[]⟩
noncomputable def J' (n:Str) (s:Stmt) (pm:Value) (c:Addr):Obj:=⟨.type "function", none,.func (W.fnOf n n (Ed s) (Dv s) (Ci s) .none .none .none pm none (.ref c) .none),#[]⟩
noncomputable abbrev M_:Value:=S "backslope.wholes" 187
noncomputable abbrev aO:Value:=S "backslope.numbers" 393
noncomputable abbrev a9:Value:=S "backslope.polys" 436
noncomputable abbrev aq:Value:=S "backslope.fractions" 521
noncomputable abbrev aW:Value:=S "backslope.forms" 585
noncomputable abbrev R_:Value:=S "law_backslope_k33_forms_together" 624
noncomputable def hp (P:Params):W.Frag:=[
 (3,⟨.type "dict", none,.dict #[en P "__name__" 165 (S "law_backslope_k33_forms_together" 624),en P "__doc__" 166 N,en P "__package__" 167 N,en P "__loader__" 168 (.builtin "__main__.__loader__#opaque"),en P "__spec__" 169 N,en P "__annotations__" 170 (R 6),en P "__builtins__" 171 (R 4),en P "__file__" 173 (S "/claim/cut.py" 172),en P "__cached__" 174 N,en P "EXPONENTS" 197 (R 15),en P "common_divisor" 206 (R 22),en P "raised" 216 (R 29),en P "content" 222 (R 34),en P "row_trimmed" 230 (R 41),en P "row_parted" 236 (R 46),en P "row_times" 249 (R 53),en P "row_over" 263 (R 60),en P "row_less" 269 (R 65),en P "strand_rest" 275 (R 70),en P "strand_shortened" 281 (R 75),en P "row_shortened" 288 (R 82),en P "strand_euclid" 297 (R 89),en P "inverse_modulo" 311 (R 96),en P "rests_modulo" 317 (R 101),en P "row_modulo" 325 (R 108),en P "monic_modulo" 331 (R 113),en P "split_modulo" 346 (R 120),en P "rest_modulo" 355 (R 127),en P "euclid_modulo" 365 (R 134),en P "nearest" 374 (R 141),en P "common_by_prime" 380 (R 146),en P "row_common" 392 (R 153),en P "ratio" 403 (R 160),en P "plus" 411 (R 167),en P "times" 419 (R 174),en P "over" 427 (R 181),en P "before" 435 (R 188),en P "poly" 445 (R 195),en P "degree" 452 (R 202),en P "cleared" 458 (R 207),en P "uncleared" 464 (R 212),en P "number_of" 472 (R 219),en P "p_plus" 478 (R 224),en P "p_times" 488 (R 231),en P "p_scaled" 494 (R 236),en P "p_split" 511 (R 243),en P "common" 520 (R 250),en P "fraction" 531 (R 257),en P "evened" 540 (R 264),en P "quotient" 548 (R 271),en P "f_poly" 555 (R 278),en P "f_number" 562 (R 285),en P "f_plus" 574 (R 292),en P "f_times" 584 (R 299),en P "logs_plus" 600 (R 306),en P "gathered" 606 (R 311),en P "form_plus" 617 (R 318),en P "form_scaled" 623 (R 323),en P "_law_begin" 631 (R 328),en P "_law_take" 641 (R 335),en P "_law_number" 649 (R 342),en P "_law_other" 657 (R 349),en P "_law_whole" 663 (R 354),en P "_law_pool" 669 (R 359),en P "_law_some" 675 (R 364),en P "_law_lines" 681 (R 369),en P "_law_laid" 692 (R 376),en P "_law_fraction" 698 (R 381),en P "_law_is_number" 706 (R 388),en P "_law_is_poly" 712 (R 393),en P "_law_is_fraction" 719 (R 400),en P "_law_is_logs" 727 (R 407),en P "_law_is_form" 734 (R 414),en P "law" 740 (R 419)] 74,#[]⟩),
 (15,⟨.type "tuple", none,.seq #[(.int 61 189),(.int 127 190),(.int 521 191),(.int 1279 192),(.int 4423 193),(.int 9941 194),(.int 21701 195),(.int 44497 196)] 0,#[]⟩),
 (21,K_ "common_divisor" 198 3 2 3 16 (R 17) N (R 18) (R 19) (R 20) 204 205),
 (22,J' "common_divisor" (top 2) M_ 21),
 (28,K_ "raised" 207 9 2 3 23 (R 24) N (R 25) (R 26) (R 27) 214 215),
 (29,J' "raised" (top 3) M_ 28),
 (33,K_ "content" 217 19 2 3 30 (R 31) N N N (R 32) 220 221),
 (34,J' "content" (top 4) M_ 33),
 (40,K_ "row_trimmed" 223 26 1 3 35 (R 36) N (R 37) (R 38) (R 39) 228 229),
 (41,J' "row_trimmed" (top 5) M_ 40),
 (45,K_ "row_parted" 231 31 2 3 42 (R 43) N N N (R 44) 234 235),
 (46,J' "row_parted" (top 6) M_ 45),
 (52,K_ "row_times" 237 33 2 3 47 (R 48) N (R 49) (R 50) (R 51) 247 248),
 (53,J' "row_times" (top 7) M_ 52),
 (59,K_ "row_over" 250 42 2 3 54 (R 55) N (R 56) (R 57) (R 58) 261 262),
 (60,J' "row_over" (top 8) M_ 59),
 (64,K_ "row_less" 264 55 5 3 61 (R 62) N N N (R 63) 267 268),
 (65,J' "row_less" (top 9) M_ 64),
 (69,K_ "strand_rest" 270 61 2 3 66 (R 67) N N N (R 68) 273 274),
 (70,J' "strand_rest" (top 10) M_ 69),
 (74,K_ "strand_shortened" 276 71 1 3 71 (R 72) N N N (R 73) 279 280),
 (75,J' "strand_shortened" (top 11) M_ 74),
 (81,K_ "row_shortened" 282 76 1 3 76 (R 77) N (R 78) (R 79) (R 80) 286 287),
 (82,J' "row_shortened" (top 12) M_ 81),
 (88,K_ "strand_euclid" 289 78 2 3 83 (R 84) N (R 85) (R 86) (R 87) 295 296),
 (89,J' "strand_euclid" (top 13) M_ 88),
 (95,K_ "inverse_modulo" 298 86 2 3 90 (R 91) N (R 92) (R 93) (R 94) 309 310),
 (96,J' "inverse_modulo" (top 14) M_ 95),
 (100,K_ "rests_modulo" 312 100 2 3 97 (R 98) N N N (R 99) 315 316),
 (101,J' "rests_modulo" (top 15) M_ 100),
 (107,K_ "row_modulo" 318 102 2 3 102 (R 103) N (R 104) (R 105) (R 106) 323 324),
 (108,J' "row_modulo" (top 16) M_ 107),
 (112,K_ "monic_modulo" 326 104 2 3 109 (R 110) N N N (R 111) 329 330),
 (113,J' "monic_modulo" (top 17) M_ 112),
 (119,K_ "split_modulo" 332 109 3 3 114 (R 115) N (R 116) (R 117) (R 118) 344 345),
 (120,J' "split_modulo" (top 18) M_ 119),
 (126,K_ "rest_modulo" 347 120 3 3 121 (R 122) N (R 123) (R 124) (R 125) 353 354),
 (127,J' "rest_modulo" (top 19) M_ 126),
 (133,K_ "euclid_modulo" 356 122 3 3 128 (R 129) N (R 130) (R 131) (R 132) 363 364),
 (134,J' "euclid_modulo" (top 20) M_ 133),
 (140,K_ "nearest" 366 130 2 3 135 (R 136) N (R 137) (R 138) (R 139) 372 373),
 (141,J' "nearest" (top 21) M_ 140),
 (145,K_ "common_by_prime" 375 133 3 3 142 (R 143) N N N (R 144) 378 379),
 (146,J' "common_by_prime" (top 22) M_ 145),
 (152,K_ "row_common" 381 142 2 3 147 (R 148) N (R 149) (R 150) (R 151) 390 391),
 (153,J' "row_common" (top 23) M_ 152),
 (159,K_ "ratio" 395 152 2 3 154 (R 155) N (R 156) (R 157) (R 158) 401 402),
 (160,J' "ratio" (top 25) aO 159),
 (166,K_ "plus" 404 157 2 3 161 (R 162) N (R 163) (R 164) (R 165) 409 410),
 (167,J' "plus" (top 26) aO 166),
 (173,K_ "times" 412 159 2 3 168 (R 169) N (R 170) (R 171) (R 172) 417 418),
 (174,J' "times" (top 27) aO 173),
 (180,K_ "over" 420 161 2 3 175 (R 176) N (R 177) (R 178) (R 179) 425 426),
 (181,J' "over" (top 28) aO 180),
 (187,K_ "before" 428 163 2 3 182 (R 183) N (R 184) (R 185) (R 186) 433 434),
 (188,J' "before" (top 29) aO 187),
 (194,K_ "poly" 438 166 1 3 189 (R 190) N (R 191) (R 192) (R 193) 443 444),
 (195,J' "poly" (top 31) a9 194),
 (201,K_ "degree" 446 171 1 3 196 (R 197) N (R 198) (R 199) (R 200) 450 451),
 (202,J' "degree" (top 32) a9 201),
 (206,K_ "cleared" 453 173 1 3 203 (R 204) N N N (R 205) 456 457),
 (207,J' "cleared" (top 33) a9 206),
 (211,K_ "uncleared" 459 178 2 3 208 (R 209) N N N (R 210) 462 463),
 (212,J' "uncleared" (top 34) a9 211),
 (218,K_ "number_of" 465 180 2 3 213 (R 214) N (R 215) (R 216) (R 217) 470 471),
 (219,J' "number_of" (top 35) a9 218),
 (223,K_ "p_plus" 473 182 2 3 220 (R 221) N N N (R 222) 476 477),
 (224,J' "p_plus" (top 36) a9 223),
 (230,K_ "p_times" 479 184 2 3 225 (R 226) N (R 227) (R 228) (R 229) 486 487),
 (231,J' "p_times" (top 37) a9 230),
 (235,K_ "p_scaled" 489 188 2 3 232 (R 233) N N N (R 234) 492 493),
 (236,J' "p_scaled" (top 38) a9 235),
 (242,K_ "p_split" 495 190 2 3 237 (R 238) N (R 239) (R 240) (R 241) 509 510),
 (243,J' "p_split" (top 39) a9 242),
 (249,K_ "common" 512 207 2 3 244 (R 245) N (R 246) (R 247) (R 248) 518 519),
 (250,J' "common" (top 40) a9 249),
 (256,K_ "fraction" 523 211 2 3 251 (R 252) N (R 253) (R 254) (R 255) 529 530),
 (257,J' "fraction" (top 42) aq 256),
 (263,K_ "evened" 532 214 2 3 258 (R 259) N (R 260) (R 261) (R 262) 538 539),
 (264,J' "evened" (top 43) aq 263),
 (270,K_ "quotient" 541 217 2 3 265 (R 266) N (R 267) (R 268) (R 269) 546 547),
 (271,J' "quotient" (top 44) aq 270),
 (277,K_ "f_poly" 549 219 1 3 272 (R 273) N (R 274) (R 275) (R 276) 553 554),
 (278,J' "f_poly" (top 45) aq 277),
 (284,K_ "f_number" 556 221 1 3 279 (R 280) N (R 281) (R 282) (R 283) 560 561),
 (285,J' "f_number" (top 46) aq 284),
 (291,K_ "f_plus" 563 223 2 3 286 (R 287) N (R 288) (R 289) (R 290) 572 573),
 (292,J' "f_plus" (top 47) aq 291),
 (298,K_ "f_times" 575 229 2 3 293 (R 294) N (R 295) (R 296) (R 297) 582 583),
 (299,J' "f_times" (top 48) aq 298),
 (305,K_ "logs_plus" 587 234 3 3 300 (R 301) N (R 302) (R 303) (R 304) 598 599),
 (306,J' "logs_plus" (top 50) aW 305),
 (310,K_ "gathered" 601 243 1 3 307 (R 308) N N N (R 309) 604 605),
 (311,J' "gathered" (top 51) aW 310),
 (317,K_ "form_plus" 607 250 2 3 312 (R 313) N (R 314) (R 315) (R 316) 615 616),
 (318,J' "form_plus" (top 52) aW 317),
 (322,K_ "form_scaled" 618 255 2 3 319 (R 320) N N N (R 321) 621 622),
 (323,J' "form_scaled" (top 53) aW 322),
 (327,K_ "_law_begin" 626 259 1 3 324 (R 325) N N N (R 326) 629 630),
 (328,J' "_law_begin" (top 55) R_ 327),
 (334,K_ "_law_take" 632 265 2 3 329 (R 330) N (R 331) (R 332) (R 333) 639 640),
 (335,J' "_law_take" (top 56) R_ 334),
 (341,K_ "_law_number" 642 277 1 3 336 (R 337) N (R 338) (R 339) (R 340) 647 648),
 (342,J' "_law_number" (top 57) R_ 341),
 (353,K_ "_law_whole" 658 287 1 3 350 (R 351) N N N (R 352) 661 662),
 (354,J' "_law_whole" (top 59) R_ 353),
 (358,K_ "_law_pool" 664 289 1 3 355 (R 356) N N N (R 357) 667 668),
 (359,J' "_law_pool" (top 60) R_ 358),
 (363,K_ "_law_some" 670 295 3 3 360 (R 361) N N N (R 362) 673 674),
 (364,J' "_law_some" (top 61) R_ 363),
 (368,K_ "_law_lines" 676 305 1 3 365 (R 366) N N N (R 367) 679 680),
 (369,J' "_law_lines" (top 62) R_ 368),
 (375,K_ "_law_laid" 682 309 1 3 370 (R 371) N (R 372) (R 373) (R 374) 690 691),
 (376,J' "_law_laid" (top 63) R_ 375),
 (380,K_ "_law_fraction" 693 320 2 3 377 (R 378) N N N (R 379) 696 697),
 (381,J' "_law_fraction" (top 64) R_ 380),
 (387,K_ "_law_is_number" 699 331 1 3 382 (R 383) N (R 384) (R 385) (R 386) 704 705),
 (388,J' "_law_is_number" (top 65) R_ 387),
 (392,K_ "_law_is_poly" 707 338 1 3 389 (R 390) N N N (R 391) 710 711),
 (393,J' "_law_is_poly" (top 66) R_ 392),
 (399,K_ "_law_is_fraction" 713 340 1 3 394 (R 395) N (R 396) (R 397) (R 398) 717 718),
 (400,J' "_law_is_fraction" (top 67) R_ 399),
 (406,K_ "_law_is_logs" 720 342 1 3 401 (R 402) N (R 403) (R 404) (R 405) 725 726),
 (407,J' "_law_is_logs" (top 68) R_ 406),
 (413,K_ "_law_is_form" 728 349 1 3 408 (R 409) N (R 410) (R 411) (R 412) 732 733),
 (414,J' "_law_is_form" (top 69) R_ 413),
 (418,K_ "law" 735 351 1 3 415 (R 416) N N N (R 417) 738 739),
 (419,J' "law" (top 70) R_ 418)]
noncomputable def as:c_:=[3,15,21,22,28,29,33,34,40,41,45,46,52,53,59,60,64,65,69,70,74,75,81,82,88,89,95,96,100,101,107,108,112,113,119,120,126,127,133,134,140,141,145,146,152,153,159,160,166,167,173,174,180,181,187,188,194,195,201,202,206,207,211,212,218,219,223,224,230,231,235,236,242,243,249,250,256,257,263,264,270,271,277,278,284,285,291,292,298,299,305,306,310,311,317,318,322,323,327,328,334,335,341,342,353,354,358,359,363,364,368,369,375,376,380,381,387,388,392,393,399,400,406,407,413,414,418,419]
noncomputable def vw:Program:=W.view PySem.Challenge.pw_backslope_k33_forms_together [1,2,3,4,5,6,7,8,9,10,11,12,13,14,15,16,17,18,19,20,21,22,23,25,26,27,28,29,31,32,33,34,35,36,37,38,39,40,42,43,44,45,46,47,48,50,51,52,53,55,56,57,58,59,60,61,62,63,64,65,66,67,68,69,70]
noncomputable def hk:W.Hook:=W.kHook hp as (λ_=>by kernel_rfl)
theorem left:W.LeftO PySem.Challenge.pw_backslope_k33_forms_together vw [] (λs=>W.xlAt vw [] s && W.recOk (W.RowW.records (W.OpenRow.toRowW (W.OpenLaw.row PySem.Challenge.rw_backslope_k33_forms_together))) s) hk.obs hk.val 4064:=λw=>by kernel_rfl
end Bs.Hd
namespace Bs
def Bd (n:Nat) (x:Int):Prop:=x.natAbs<2 ^ n
theorem Bd.mono {m n:Nat} {x:Int} (h:Bd m x) (a:m<=n):Bd n x:=CA h (F4 ∅ a)
theorem Bd.le {n:Nat} {x y:Int} (h:Bd n x) (a:y.natAbs<=x.natAbs):Bd n y:=Nat.lt_of_le_of_lt a h
theorem Bd.neg {n:Nat} {x:Int} (h:Bd n x):Bd n (-x):=by unfold Bd at *;rw [Int.natAbs_neg];exact h
theorem Bd.add {n:Nat} {x y:Int} (h:Bd n x) (h':Bd n y):Bd (n+1) (x+y):=by
 unfold Bd at *;have:=Int.natAbs_add_le x y;rw [Cn];omega
theorem Bd.sub {n:Nat} {x y:Int} (h:Bd n x) (h':Bd n y):Bd (n+1) (x - y):=by
 rw [Int.sub_eq_add_neg];exact h.add h'.neg
theorem Bd.mul {m n:Nat} {x y:Int} (h:Bd m x) (h':Bd n y):Bd (m+n) (x*y):=by
 unfold Bd at *;rw [CF,Nat.pow_add];exact Nat.mul_lt_mul'' h h'
theorem Nd {x:Int} (a:-18446744073709551616<x) (b:x<18446744073709551616):Bd 64 x:=by
 unfold Bd;have:(2:Nat) ^ 64=18446744073709551616:=by decide
 rw [this];omega
theorem Bd.log2 {n:Nat} {x:Int} (h:Bd n x) (a:0<n):x.natAbs.log2<n:=by
 unfold Bd at h;rcases D6 x.natAbs with b | hp
 ·rw [b];simpa using a
 ·exact (Nat.log2_lt (Cy hp)).mpr h
structure Low (t d:Int):Prop where
 pos:0<d
 one:Int.gcd t d=1
theorem Nf (a b:Int):Int.gcd b (a.fmod b)=Int.gcd a b:=by
 have e:a.fmod b=a - b*a.fdiv b:=Int.fmod_def a b;rw [e];apply Nat.dvd_antisymm
 ·apply Int.dvd_gcd
  ·have f:=Eu b (a - b*a.fdiv b);have g:=D7 b (a - b*a.fdiv b);have d:=Co g (F6 (c:=a.fdiv b) f);rw [Int.sub_add_cancel] at d;exact d
  ·exact Eu b _
 ·apply Int.dvd_gcd
  ·exact D7 a b
  ·exact Int.dvd_sub (Eu a b) (F6 (D7 a b))
theorem Ng (a:Int) {b:Int} (h:0<=b):Int.gcd b (a % b)=Int.gcd a b:=by
 rw [<-Int.fmod_eq_emod_of_nonneg a h,Nf]
theorem WJ (a:Int) {b:Int} (h:b≠0):(a.fmod b).natAbs<b.natAbs:=by
 rcases Int.lt_or_gt_of_ne h with d | d
 ·rw [Int.fmod_eq_emod];have e:=CN a h;have f:=Int.emod_lt a h;split
  ·rename_i c;rcases c with c | c
   ·omega
   ·have:a % b=0:=Int.emod_eq_zero_of_dvd c;omega
  ·rename_i c;have:a % b≠0:=λz=>c (.inr (Int.dvd_of_emod_eq_zero z));omega
 ·rw [Int.fmod_eq_emod_of_nonneg a (DQ d)];have e:=CN a h;have f:=Cc a d;omega
theorem Kl {a b s:Int} (m:b≠0) (j:s=if b<0 then -((Int.gcd a b:Nat):Int) else ((Int.gcd a b:Nat):Int)) :
  s≠0/\s.natAbs<=b.natAbs/\Low (a.fdiv s) (b.fdiv s)/\a.fdiv s*b=a*b.fdiv s/\(a.fdiv s).natAbs<=a.natAbs/\(b.fdiv s).natAbs<=b.natAbs:=by
 have w:0<Int.gcd a b:=Int.gcd_pos_of_ne_zero_right a m;have e:s.natAbs=Int.gcd a b:=by rw [j];split <;> simp
 have k:s≠0:=by intro z;rw [z] at e;simp at e;omega
 have p:s∣a:=by
  rw [<-Int.natAbs_dvd,e];exact Eu a b
 have q:s∣b:=by
  rw [<-Int.natAbs_dvd,e];exact D7 a b
 obtain ⟨t,rfl⟩:=p;obtain ⟨d,rfl⟩:=q;rw [Int.mul_fdiv_cancel_left _ k,Int.mul_fdiv_cancel_left _ k];have n:d≠0:=by rintro rfl;simp at m
 have o:1<=s.natAbs:=by omega
 have r:Int.gcd t d=1:=by
  rw [Int.gcd_mul_left] at e;have u:s.natAbs*Int.gcd t d=s.natAbs*1:=by omega
  exact Nat.eq_of_mul_eq_mul_left o u
 have v:0<d:=by
  by_cases h:s*d<0
  ·rw [qU h] at j;have f:s<0:=by omega
   rcases Int.lt_or_gt_of_ne n with c | c
   ·have:=Int.mul_pos_of_neg_of_neg f c;omega
   ·exact c
  ·rw [qT h] at j;have g:0<s:=by omega
   rcases Int.lt_or_gt_of_ne n with c | c
   ·have:=Int.mul_neg_of_pos_of_neg g c;omega
   ·exact c
 have i:∀ y:Int,y.natAbs<=(s*y).natAbs:=λy=>by
  rw [CF];exact Nat.le_mul_of_pos_left _ o
 refine ⟨k,?_,⟨v,r⟩,?_,i t,i d⟩
 ·rw [CF];exact Nat.le_mul_of_pos_right _ ⋯
 ·ext
theorem Km {a b:Int} (f:0<b):Low (a / ((Int.gcd a b:Nat):Int)) (b / ((Int.gcd a b:Nat):Int))/\(a / ((Int.gcd a b:Nat):Int)).natAbs<=a.natAbs/\(b / ((Int.gcd a b:Nat):Int)).natAbs<=b.natAbs/\0<((Int.gcd a b:Nat):Int)/\((Int.gcd a b:Nat):Int)<=b:=by
 have g:0<Int.gcd a b:=Int.gcd_pos_of_ne_zero_right a ⋯;obtain ⟨_,h,c,i,d,e⟩:=Kl (a:=a) (b:=b) (s:=((Int.gcd a b:Nat):Int)) ⋯ (by rw [qT ⋯]);rw [Do _ ⋯,Do _ ⋯] at c;rw [Do _ ⋯] at d e;exact ⟨c,d,e,⋯,⋯⟩
end Bs
namespace Bs
open PySem L2
def Kn (_ j:Int):Prop:=0<j/\Bd 9000 j
def WK (_ j:Int):Prop:=j≠0/\Bd 9000 j
def WL (i j:Int):Prop:=0<=j/\j<=1000000/\i.natAbs<2 ^ 64
abbrev CJ:R2:=aa λi j=>.int (i+j)
abbrev Br:R2:=aa λi j=>.int (i - j)
abbrev BQ:R2:=rI IntMulOk λi j=>.int (i*j)
abbrev Hz:R2:=rI Kn λi j=>.int (i / j)
abbrev WM:R2:=rI WK λi j=>.int (i.fdiv j)
abbrev C5:R2:=rI (λ_ j=>0<j) λi j=>.int (i % j)
abbrev Nh:R2:=rI (λ_ j=>j≠0) λi j=>.int (i.fmod j)
abbrev WN:R2:=rI WL λi j=>.int (i ^ j.toNat)
abbrev b7:R2:=aa λi j=>.bl (decide (i<j))
abbrev iLe:R2:=aa λi j=>.bl (decide (i<=j))
abbrev aP:R2:=aa λi j=>.bl (decide (j<i))
abbrev ci:R2:=aa λi j=>.bl (decide (j<=i))
abbrev BU:V->Hp->VK->Prop:=rU λi=>.int (-i)
def gT:R2:=λx y H Q=>∃ p i a v,x=.ref p/\y=.int i/\H p=some (.tup a)/\Q_ a i=some v/\Q v H
def gL:R2:=λx y H Q=>∃ p i a v,x=.ref p/\y=.int i/\H p=some (.lst a)/\Q_ a i=some v/\Q v H
def gS (K:W.Frag):R2:=λx y H Q=>∃ p i a v,x=.ref p/\y=.int i/\SqL K H p a/\Q_ a i=some v/\Q v H
def IA:cM->Hp->VK->Prop:=λa H Q=>∃ i,a=[.int i]/\Q (.int (if i<0 then -i else i)) H
def HB:cM->Hp->VK->Prop:=λa H Q=>∃ i j,a=[.int i,.int j]/\Q (.int (if j > i then j else i)) H
def WO:cM->Hp->VK->Prop:=λa H Q=>∃ i j,a=[.int i,.int j]/\Q (.int (if j<i then j else i)) H
def WP:cM->Hp->VK->Prop:=λa H Q=>∃ k,a=[.bl k]/\Q (.int (if k=true then 1 else 0)) H
def DR:cM->Hp->VK->Prop:=λb H Q=>∃ p a,b=[.ref p]/\H p=some (.tup a)/\Q (.int a.length) H
def B8:cM->Hp->VK->Prop:=λb H Q=>∃ p a,b=[.ref p]/\H p=some (.lst a)/\Q (.int a.length) H
def WQ (K:W.Frag):cM->Hp->VK->Prop:=λb H Q=>∃ p a,b=[.ref p]/\SqL K H p a/\Q (.int a.length) H
noncomputable def IB:Option HO->String->Option Bool
 | some (.tup _),n=>if n = "tuple" then some true else if n = "bool" \/ n = "int" \/ n = "list" then some false else none
 | some (.lst _),n=>if n = "list" then some true else if n = "bool" \/ n = "int" \/ n = "tuple" then some false else none
 | _,_=>none
noncomputable def FZ (H:Hp):V->String->Option Bool
 | .int _,n=>if n = "int" then some true else if n = "bool" \/ n = "tuple" \/ n = "list" then some false else none
 | .bl _,n=>if n = "int" \/ n = "bool" then some true else if n = "tuple" \/ n = "list" then some false else none
 | .ref p,n=>IB (H p) n
 | _,_=>none
def Ee:cM->Hp->VK->Prop:=λa H Q=>∃ x n b,a=[x,.ty n]/\FZ H x n=some b/\Q (.bl b) H
theorem WR (H:Hp) (i:Int):FZ H (.int i) "int" = some true:=rfl
theorem WS (H:Hp) (i:Int):FZ H (.int i) "bool" = some false:=rfl
theorem WT (H:Hp) (b:Bool):FZ H (.bl b) "bool" = some true:=rfl
theorem HC {H:Hp} {p:Addr} {xs:cM} (h:H p=some (.tup xs)):FZ H (.ref p) "tuple" = some true:=by
 show IB (H p) "tuple" = _;rw [h];rfl
noncomputable def Ni:V->Bool
 | .int _=>true
 | _=>false
def eqT:R2:=λx y H Q=>∃ a b c d,x=.ref a/\y=.ref b/\H a=some (.tup c)/\H b=some (.tup d)/\c.all Ni=true/\d.all Ni=true/\Q (.bl (decide (c=d))) H
def ForR (d:Int) (n:Nat) (g:TG) (h:TS) (D:Ends) (a:St) (H:Hp):Prop:=∃ W:Nat->Nat->St->Hp->Prop,(∃ m,W 0 m a H)/\∀ i m a H,W i m a H->
 ((av d n).stop i H/\D.nx a H)\/((av d n).go i H/\∃ N:St->Hp->Prop,(∀ b c,N b c->∃ f,f<m/\W (i+1) f b c)/\∀ x c,(av d n).yld i H x c->g x a c λe j=>h { D with nx:=N,ct:=N,bk:=D.nx } e j)
theorem WU {b:TA} {g:TG} {c:TS} {D:Ends} {a:St} {H:Hp}:Bh (Eb b) g c D a H=b a H (λd e=>∃ j:Int,d=[.int j]/\-(2 ^ 62)<=j/\j<2 ^ 62/\ForR 0 j.toNat g c D a e):=rfl
theorem WV {b:TA} {g:TG} {c:TS} {D:Ends} {a:St} {H:Hp}:Bh (UT b) g c D a H=b a H (λd e=>∃ i j:Int,d=[.int i,.int j]/\(-(2 ^ 62)<=i/\i<2 ^ 62/\-(2 ^ 62)<=j/\j<2 ^ 62)/\ForR i (j - i).toNat g c D a e):=rfl
theorem ForR.by {c:Int} {n:Nat} {g:TG} {d:TS} {D:Ends} {a:St} {H:Hp} (Pv:Nat->St->Hp->Prop) (e:Pv 0 a H)
  (f:∀ i a H,i<n->Pv i a H->g (.int (c+i)) a H λb h=>d { D with nx:=Pv (i+1),ct:=Pv (i+1),bk:=D.nx } b h) (j:∀ a H,Pv n a H->D.nx a H):ForR c n g d D a H:=UW Pv e f j
def ForT (K:W.Frag) (a:Addr) (g:TG) (h:TS) (D:Ends) (b:St) (H:Hp):Prop:=∃ W:Nat->Nat->St->Hp->Prop,(∃ m,W 0 m b H)/\∀ i m b H,W i m b H->
 ((aA K a).stop i H/\D.nx b H)\/((aA K a).go i H/\∃ N:St->Hp->Prop,(∀ c d,N c d->∃ f,f<m/\W (i+1) f c d)/\∀ x d,(aA K a).yld i H x d->g x b d λe j=>h { D with nx:=N,ct:=N,bk:=D.nx } e j)
def ForL (K:W.Frag) (a:Addr) (g:TG) (h:TS) (D:Ends) (b:St) (H:Hp):Prop:=∃ W:Nat->Nat->St->Hp->Prop,(∃ m,W 0 m b H)/\∀ i m b H,W i m b H->
 ((ah K a).stop i H/\D.nx b H)\/((ah K a).go i H/\∃ N:St->Hp->Prop,(∀ c d,N c d->∃ f,f<m/\W (i+1) f c d)/\∀ x d,(ah K a).yld i H x d->g x b d λe j=>h { D with nx:=N,ct:=N,bk:=D.nx } e j)
theorem WW {K:W.Frag} {c:TE} {g:TG} {d:TS} {D:Ends} {b:St} {H:Hp}:Bh (DG K c) g d D b H=c b H (λx e=>∃ a,x=.ref a/\(∃ f,SqT K e a f)/\ForT K a g d D b e):=rfl
theorem WX {K:W.Frag} {c:TE} {g:TG} {d:TS} {D:Ends} {b:St} {H:Hp}:Bh (Bz K c) g d D b H=c b H (λx e=>∃ a,x=.ref a/\(∃ f,SqL K e a f)/\ForL K a g d D b e):=rfl
theorem ForT.by {K:W.Frag} {a:Addr} {xs:cM} {g:TG} {d:TS} {D:Ends} {b:St} {H:Hp} (Pv:Nat->St->Hp->Prop) (e:Pv 0 b H) (f:∀ i b H,i<=xs.length->Pv i b H->H a=some (.tup xs))
  (j:∀ i x b H,xs[i]?=some x->Pv i b H->g x b H λc k=>d { D with nx:=Pv (i+1),ct:=Pv (i+1),bk:=D.nx } c k) (m:∀ b H,Pv xs.length b H->D.nx b H):ForT K a g d D b H:=
 NF Pv e (λi b H h p=>SqT.of (f i b H h p)) j m
theorem ForL.by {K:W.Frag} {a:Addr} {xs:cM} {g:TG} {d:TS} {D:Ends} {b:St} {H:Hp} (Pv:Nat->St->Hp->Prop) (e:Pv 0 b H) (f:∀ i b H,i<=xs.length->Pv i b H->SqL K H a xs)
  (h:∀ i x b H,xs[i]?=some x->Pv i b H->g x b H λc j=>d { D with nx:=Pv (i+1),ct:=Pv (i+1),bk:=D.nx } c j) (k:∀ b H,Pv xs.length b H->D.nx b H):ForL K a g d D b H:=
 UV Pv e f h k
theorem EH {c:TT} {e:TS} {D:Ends} {a:St} {H:Hp} (W:Nat->St->Hp->Prop) (m:Nat) (i:W m a H)
  (j:∀ m a H,W m a H->c a H λb f=>if b=true then ∃ N:St->Hp->Prop,(∀ d g,N d g->∃ h,h<m/\W h d g)/\e { D with nx:=N,ct:=N,bk:=D.nx } a f else D.nx a f):Dd c e D a H:=⟨W,⟨m,i⟩,j⟩
def Kp (p:Addr) (H a:Hp):Prop:=∀ b o,b≠p->H b=some o->a b=some o
theorem Kp.upd {p:Addr} {H:Hp} {o:HO}:Kp p H (upd H p o):=λb u n h=>by rw [Ad n];exact h
theorem AL {H:Hp} {p:Addr} (h:H p=none) (o:HO):Same H (upd H p o):=λb u q=>by rw [Ad (BM q h)];exact q
theorem sz {n:Nat} (h:n<=1000000):n<=sizeLine:=by rw [sizeLine_eq];omega
theorem WY {c:Type} (a b:c):Q_ [a,b] 0=some a:=rfl
theorem WZ {c:Type} (a b:c):Q_ [a,b] 1=some b:=rfl
theorem Wa {d:Type} (a b c:d):Q_ [a,b,c] 0=some a:=rfl
theorem Wb {d:Type} (a b c:d):Q_ [a,b,c] 1=some b:=rfl
theorem Wc {d:Type} (a b c:d):Q_ [a,b,c] 2=some c:=rfl
theorem Wd (a b:Int):scal (.int a) (.int b)=true:=rfl
theorem We (a b:Bool):scal (.bl a) (.bl b)=true:=rfl
theorem Wf:ai 3 0=some 0:=rfl
theorem Wg:ai 3 2=some 2:=rfl
end Bs
namespace Bs
open PySem PySem.Spec PyProof.Rows L2
theorem Ko:bootBuiltins "abs" = some (.builtin "abs"):=by decide +kernel
theorem BR:bootBuiltins "len" = some (.builtin "len"):=by decide +kernel
theorem JM:bootBuiltins "max" = some (.builtin "max"):=by decide +kernel
theorem Wh:bootBuiltins "min" = some (.builtin "min"):=by decide +kernel
theorem Fb:bootBuiltins "isinstance" = some (.builtin "isinstance"):=by decide +kernel
theorem Wi:bootBuiltins "all" = some (.builtin "all"):=by decide +kernel
theorem Wj:bootBuiltins "int" = some (.type "int"):=by decide +kernel
theorem Wk:bootBuiltins "bool" = some (.type "bool"):=by decide +kernel
theorem Ef:bootBuiltins "tuple" = some (.type "tuple"):=by decide +kernel
theorem JN:bootBuiltins "list" = some (.type "list"):=by decide +kernel
theorem Wl:bootBuiltins "enumerate" = some (.type "enumerate"):=by decide +kernel
theorem Kq:bootBuiltins "zip" = some (.type "zip"):=by decide +kernel
section
variable {X:Cx}
theorem Nj {n:Nat} {x:Int} (h:Bd n x):Builtin.Int.intBits x<=n:=by
 unfold Builtin.Int.intBits;split
 ·exact Ae _
 ·rename_i a
  have b:x.natAbs≠0:=λz=>a (by have e:x=0:=by omega
                               subst e;rfl)
  have:=(Nat.log2_lt b).mpr h;omega
theorem Bm:OpR X (binaryOp .Mult) BQ:=bo λ_ _ _ _ _ _ _ a q=>mul_int q a
theorem JO:OpR X (inplaceOp .Mult) BQ:=bo λ_ _ _ _ _ _ _ a q=>imul_int q a
theorem Wm:OpR X (binaryOp .FloorDiv) Hz:=bo λi j _ _ _ _ _ a q=>by
 refine floordiv_int (AW a.1) ?_ (.inl (PyProof.noPylong_of_log2 (a.2.log2 ∅)));rw [Do i (DQ a.1)];exact q
theorem Ab:aV X gT:=by
 intro a b c s d H x y v u Q I e f h g;obtain ⟨p,i,j,w,k,m,hp,n,q⟩:=h;exact Uy a b c s d H x y v u Q I e f ⟨p,j,i,w,k,m,SqT.of hp,n,q⟩ g
theorem BG:aV X gL:=by
 intro a b c s d H x y v u Q I e f h g;obtain ⟨p,i,j,w,k,m,hp,n,q⟩:=h;exact Ux a b c s d H x y v u Q I e f ⟨p,j,i,w,k,m,SqL.of hp,n,q⟩ g
theorem Kr:Ch X (.builtin "abs") IA:=Uh
theorem JP (a:X.calm=true):Ch X (.builtin "max") HB:=Ui a
theorem Dw:Ch X (.builtin "len") DR:=λa s b H c d Q I r h=>by
 obtain ⟨p,f,e,hp,q⟩:=h;exact NX a s b H c d Q I r ⟨p,f,e,.inr (SqT.of hp),q⟩
theorem CG:Ch X (.builtin "len") B8:=λa s b H c d Q I r h=>by
 obtain ⟨p,f,e,hp,q⟩:=h;exact NX a s b H c d Q I r ⟨p,f,e,.inl (SqL.of hp),q⟩
theorem Wn (K:W.Frag):W.kitOne K (.type "int") (.type "bool")=some false:=by kernel_rfl
theorem Wp (K:W.Frag):W.kitOne K (.type "int") (.type "tuple")=some false:=by kernel_rfl
theorem Wq (K:W.Frag):W.kitOne K (.type "int") (.type "list")=some false:=by kernel_rfl
theorem Wr (K:W.Frag):W.kitOne K (.type "bool") (.type "int")=some true:=by kernel_rfl
theorem Ws (K:W.Frag):W.kitOne K (.type "bool") (.type "tuple")=some false:=by kernel_rfl
theorem Wu (K:W.Frag):W.kitOne K (.type "bool") (.type "list")=some false:=by kernel_rfl
theorem Wv (K:W.Frag):W.kitOne K (.type "tuple") (.type "bool")=some false:=by kernel_rfl
theorem Ww (K:W.Frag):W.kitOne K (.type "tuple") (.type "int")=some false:=by kernel_rfl
theorem Wx (K:W.Frag):W.kitOne K (.type "tuple") (.type "list")=some false:=by kernel_rfl
theorem Wy (K:W.Frag):W.kitOne K (.type "list") (.type "bool")=some false:=by kernel_rfl
theorem Wz (K:W.Frag):W.kitOne K (.type "list") (.type "int")=some false:=by kernel_rfl
theorem W1 (K:W.Frag):W.kitOne K (.type "list") (.type "tuple")=some false:=by kernel_rfl
theorem JQ (K:W.Frag) (n:String):W.kitOne K (.type n) (.type n)=some true:=by
 unfold W.kitOne;rw [qU (beq_self_eq_true _)]
theorem W2 {H:Hp} {x:V} {n:String} {b:Bool} (K:W.Frag) (h:FZ H x n=some b):∃ t,TyOf K H x t/\W.kitOne K t (.type n)=some b:=by
 cases x with
 | int i=>
   refine ⟨_,.int i,?_⟩;unfold FZ at h;dsimp only at h;split at h
   ·rename_i e;cases h;subst e;exact JQ K _
   ·split at h
    ·rename_i e;cases h;rcases e with rfl | rfl | rfl
     ·exact Wn K
     ·exact Wp K
     ·exact Wq K
    ·cases h
 | bl i=>
   refine ⟨_,.bl i,?_⟩;unfold FZ at h;dsimp only at h;split at h
   ·rename_i e;cases h;rcases e with rfl | rfl
    ·exact Wr K
    ·exact JQ K _
   ·split at h
    ·rename_i e;cases h;rcases e with rfl | rfl
     ·exact Ws K
     ·exact Wu K
    ·cases h
 | ref p=>
   have a:IB (H p) n=some b:=h;cases e:H p with
   | none=>rw [e] at a;cases a
   | some o=>
     rw [e] at a;cases o with
     | tup c=>
       refine ⟨_,.tup e,?_⟩;unfold IB at a;dsimp only at a;split at a
       ·rename_i e;cases a;subst e;exact JQ K _
       ·split at a
        ·rename_i e;cases a;rcases e with rfl | rfl | rfl
         ·exact Wv K
         ·exact Ww K
         ·exact Wx K
        ·cases a
     | lst c=>
       refine ⟨_,.lst e,?_⟩;unfold IB at a;dsimp only at a;split at a
       ·rename_i e;cases a;subst e;exact JQ K _
       ·split at a
        ·rename_i e;cases a;rcases e with rfl | rfl | rfl
         ·exact Wy K
         ·exact Wz K
         ·exact W1 K
        ·cases a
     | _=>cases a
 | _=>cases h
theorem Fc:Ch X (.builtin "isinstance") Ee:=λc s j H m o Q I r h=>by
 obtain ⟨x,n,b,rfl,e,q⟩:=h;obtain ⟨u,d,rfl,f,rn⟩:=vals2 r;have a:d=Value.type n:=rn;subst a;obtain ⟨t,g,k⟩:=W2 X.K e;exact Ul I f g k λi=>⟨.bl b,H,I.tok i,rfl,q⟩
end
structure Cal (P:Program) (w:World) (K:W.Frag) (mg:cU) (base:Heap) (n:Nat) (x:Str) (ps:cW) (sp:Sp):Prop where
 ex:∃ (f:Addr) (fd:FuncData),FnOk P w K mg base aF n f fd ps sp/\Binds K fd ps []/\W.keepIn K (.ref f)=true/\mg x=some (.ref f)
theorem Cal.pe {X:Cx} {n m:Nat} {x:Str} {ps:cW} {sp:Sp} {e:Expr} {es:cV} {t:TA} {p pos:Pos} (C:Cal X.prog X.w X.K X.mg X.base n x ps sp) (d:Room m X.A) (g:n<=m) (h:Gl X x) (i:PA X (e::es) t)
  (a:(x == ("__debug__" : Str))=false:=by decide) (j:starEach (e::es) X.env=(false,eval e X.env)::starEach es X.env:=by rfl) (c:(backTo pos (starEach es X.env)).any (·.1)=false:=by rfl) :
  PE X (.Call (.Name x p) (e::es) [] pos) (AJ sp [] E0 t):=by
 obtain ⟨f,o,F,b,k,m⟩:=C.ex;exact Uo F (d.mono g) h m k b .nil VG i a j c
end Bs
namespace Bs
open PySem L2
noncomputable def CS (capt:List (Option Nat)) (a:L2.St):L2.St:=capt.map λo=>o.bind λj=>(a[j]?).join
def BH (e:TI) (capt:List (Option Nat)) (g:TG) (f:TE):TE:=λc H Q=>e c H λJ h=>∃ (n:Nat) (W:Nat->cM->Hp->Prop),W 0 [] h/\∀ i a H,W i a H->i<=n/\a.length<=sizeLine/\
 ((J.stop i H/\∀ p,H p=none->Q (.ref p) (upd H p (.lst a)))\/(i<n/\J.go i H/\∀ x d,J.yld i H x d->g x (CS capt c) d λb j=>f b j λy k=>W (i+1) (a++[y]) k))
def CompJ (J:It) (capt:List (Option Nat)) (g:TG) (d:TE) (e:L2.St) (Q:VK) (f:Hp):Prop:=∃ (n:Nat) (W:Nat->cM->Hp->Prop),W 0 [] f/\∀ i a H,W i a H->i<=n/\a.length<=sizeLine/\
 ((J.stop i H/\∀ p,H p=none->Q (.ref p) (upd H p (.lst a)))\/(i<n/\J.go i H/\∀ x c,J.yld i H x c->g x (CS capt e) c λb h=>d b h λy j=>W (i+1) (a++[y]) j))
section
variable {K:W.Frag} {ta:TA} {tl:TE} {capt:List (Option Nat)} {g:TG} {te:TE} {σ:L2.St} {H:Hp} {Q:VK}
theorem W3:BH (Eb ta) capt g te σ H Q=ta σ H (λa b=>∃ j:Int,a=[.int j]/\-(2 ^ 62)<=j/\j<2 ^ 62/\CompJ (av 0 j.toNat) capt g te σ Q b):=rfl
theorem W4:BH (DG K tl) capt g te σ H Q=tl σ H (λx b=>∃ a,x=.ref a/\(∃ c,SqT K b a c)/\CompJ (aA K a) capt g te σ Q b):=rfl
theorem W5:BH (Bz K tl) capt g te σ H Q=tl σ H (λx b=>∃ a,x=.ref a/\(∃ c,SqL K b a c)/\CompJ (ah K a) capt g te σ Q b):=rfl
theorem CompJ.range {d:Int} {n:Nat} (W:Nat->cM->Hp->Prop) (f:W 0 [] H) (b:∀ i a H,W i a H->i<=n/\a.length<=sizeLine)
  (j:∀ i a H,i<n->W i a H->g (.int (d+i)) (CS capt σ) H λc k=>te c k λy m=>W (i+1) (a++[y]) m) (o:∀ a H,W n a H->∀ p,H p=none->Q (.ref p) (upd H p (.lst a))):CompJ (av d n) capt g te σ Q H:=by
 refine ⟨n,W,f,λi a H w=>⟨(b i a H w).1,(b i a H w).2,?_⟩⟩;by_cases h:i<n
 ·refine .inr ⟨h,h,λx q y=>?_⟩;obtain ⟨e,y⟩:=y;subst e y;exact j i a _ h w
 ·have e:i=n:=Ev (b i a H w).1 (Nat.not_lt.mp h);subst e;exact .inl ⟨AO _,o a H w⟩
theorem CompJ.tup {a:Addr} {xs:cM} (W:Nat->cM->Hp->Prop) (f:W 0 [] H) (c:∀ i b H,W i b H->i<=xs.length/\b.length<=sizeLine/\H a=some (.tup xs))
  (j:∀ i x b H,xs[i]?=some x->W i b H->g x (CS capt σ) H λd k=>te d k λy m=>W (i+1) (b++[y]) m) (n:∀ b H,W xs.length b H->∀ p,H p=none->Q (.ref p) (upd H p (.lst b))):CompJ (aA K a) capt g te σ Q H:=by
 refine ⟨xs.length,W,f,λi b H w=>⟨(c i b H w).1,(c i b H w).2.1,?_⟩⟩;have q:SqT K H a xs:=SqT.of (c i b H w).2.2;by_cases h:i<xs.length
 ·refine .inr ⟨h,⟨xs,xs[i],q,by simp [h]⟩,λx o y=>?_⟩;obtain ⟨e,y⟩:=y;subst e;exact j i x b _ (y xs q) w
 ·have e:i=xs.length:=Ev (c i b H w).1 (Nat.not_lt.mp h);subst e;exact .inl ⟨⟨xs,q,AO _⟩,n b H w⟩
theorem CompJ.lst {a:Addr} {xs:cM} (W:Nat->cM->Hp->Prop) (f:W 0 [] H) (c:∀ i b H,W i b H->i<=xs.length/\b.length<=sizeLine/\SqL K H a xs)
  (j:∀ i x b H,xs[i]?=some x->W i b H->g x (CS capt σ) H λd k=>te d k λy m=>W (i+1) (b++[y]) m) (n:∀ b H,W xs.length b H->∀ p,H p=none->Q (.ref p) (upd H p (.lst b))):CompJ (ah K a) capt g te σ Q H:=by
 refine ⟨xs.length,W,f,λi b H w=>⟨(c i b H w).1,(c i b H w).2.1,?_⟩⟩;have q:SqL K H a xs:=(c i b H w).2.2;by_cases h:i<xs.length
 ·refine .inr ⟨h,⟨xs,xs[i],q,by simp [h]⟩,λx o y=>?_⟩;obtain ⟨e,y⟩:=y;subst e;exact j i x b _ (y xs q) w
 ·have e:i=xs.length:=Ev (c i b H w).1 (Nat.not_lt.mp h);subst e;exact .inl ⟨⟨xs,q,AO _⟩,n b H w⟩
end
noncomputable def IC (K:W.Frag) (a:Addr):It:=
 ⟨λi H=>∃ b x,SqL K H a b/\b[i]?=some x,λi H v c=>∃ p x,H p=none/\v=.ref p/\c=upd H p (.tup [.int i,x])/\∀ b,SqL K H a b->b[i]?=some x,λi H=>∃ b,SqL K H a b/\b.length<=i⟩
def HD (K:W.Frag) (c:TA):TI:=λd H R=>c d H λe b=>∃ a,e=[.ref a]/\(∃ f,SqL K b a f)/\R (IC K a) b
def ForJ (J:It) (g:TG) (f:TS) (D:Ends) (a:L2.St) (H:Hp):Prop:=∃ W:Nat->Nat->L2.St->Hp->Prop,(∃ m,W 0 m a H)/\∀ i m a H,W i m a H->
 (J.stop i H/\D.nx a H)\/(J.go i H/\∃ N:L2.St->Hp->Prop,(∀ b c,N b c->∃ e,e<m/\W (i+1) e b c)/\∀ x c,J.yld i H x c->g x a c λd h=>f { D with nx:=N,ct:=N,bk:=D.nx } d h)
section
variable {K:W.Frag} {ta:TA} {g:TG} {tb:TS} {D:Ends} {σ:L2.St} {H:Hp} {a:Addr} {xs:cM}
theorem W6:Bh (HD K ta) g tb D σ H=ta σ H (λc b=>∃ a,c=[.ref a]/\(∃ xs,SqL K b a xs)/\ForJ (IC K a) g tb D σ b):=rfl
theorem W7 {capt:List (Option Nat)} {b:TE} {Q:VK}:BH (HD K ta) capt g b σ H Q=ta σ H (λd c=>∃ a,d=[.ref a]/\(∃ xs,SqL K c a xs)/\CompJ (IC K a) capt g b σ Q c):=rfl
theorem ForJ.enumL (Pv:Nat->L2.St->Hp->Prop) (d:Pv 0 σ H) (f:∀ i σ H,i<=xs.length->Pv i σ H->SqL K H a xs)
  (h:∀ i x p σ H,xs[i]?=some x->Pv i σ H->H p=none->g (.ref p) σ (upd H p (.tup [.int i,x])) λb j=>tb { D with nx:=Pv (i+1),ct:=Pv (i+1),bk:=D.nx } b j) (k:∀ σ H,Pv xs.length σ H->D.nx σ H):ForJ (IC K a) g tb D σ H:=by
 refine ⟨λi m σ H=>m=xs.length - i/\i<=xs.length/\Pv i σ H,⟨xs.length,by simp,Ae _,d⟩,?_⟩;rintro i m σ H ⟨rfl,n,pv⟩;have q:=f i σ H n pv;by_cases c:i<xs.length
 ·refine .inr ⟨⟨xs,xs[i],q,by simp [c]⟩,Pv (i+1),λo r u=>⟨xs.length - (i+1),⋯,rfl,c,u⟩,λx r y=>?_⟩;obtain ⟨p,v,hp,rfl,rfl,y⟩:=y;exact h i v p σ _ (y xs q) pv hp
 ·have e:i=xs.length:=by omega
  subst e;exact .inl ⟨⟨xs,q,AO _⟩,k σ H pv⟩
end
end Bs
namespace Bs
open PySem PySem.Spec PyProof.Rows L2
noncomputable def S_ (X:Cx) (N:cW) (a:Scope) (e:List (Str×Addr)) (C:Addr) (s:Shared) (H:Hp) (f:c_):Cx:=
 { X with N:=N,s₀:=s,H₀:=H,env:=compEnvC a e C X.env,outer:=X.stack,stack:=X.stack,ex:=f,fn:=λ_=>false,pn:=[],xe:=λ_ _=>False }
structure BlkOk (X:Cx) (N:cW) (capt:List (Option Nat)) (scope:Scope) (cl:List (Str×Addr)):Prop where
 kind:scope.kind=.function
 clos:closureFor scope X.env=pure cl
 nocell:∀ y∈scope.names,y.2≠.cell
 names:∀ y∈scope.names,y.2=.local->scope.names.lookup y.1=some .local
 cells:∀ y c,cl.lookup y=some c->X.env.cells.lookup y=some c
 has:∀ y,((relabel scope X.env).names.lookup y=some .cell\/(relabel scope X.env).names.lookup y=some .free)->∃ c,cl.lookup y=some c
 cap:∀ (i:Nat) (x:Str) (j:Nat),N[i]?=some x->capt[i]?=some (some j)->X.N[j]?=some x/\bR X.env.scope x/\X.env.kindOf x≠some .local/\((relabel scope X.env).names.lookup x=some .cell\/(relabel scope X.env).names.lookup x=some .free)
 len:capt.length=N.length
section
variable {X:Cx} {pins:cS} {σ:L2.St} {H:Hp} {s:Shared} {N:cW} {capt:List (Option Nat)} {scope:Scope} {cl:List (Str×Addr)} {C:Addr} {fp:c_}
theorem Nk (B:BlkOk X N capt scope cl) (I:Inv X pins σ H s) (d:∀ b∈fp,DF X pins H b) (g:∀ b∈fp,b<s.heap.objs.size) (f:s.heap.objs.size<=C):(S_ X N scope cl C s H fp).Ok where
 mod:=I.ok.mod
 kind:=B.kind
 glob:=I.ok.glob
 blt:=I.ok.blt
 above:=f
 inj:=λx y c i j=>I.ok.inj x y c (B.cells x c i) (B.cells y c j)
 has:=λx h=>B.has x h
 cab:=λ_ _ h=>nomatch h
 hd:=I.ok.hd
 frames:=I.ok.frames
 stk:=.inl rfl
 exf:=λb a=>⟨λe=>absurd (CA (g b a) f) (by rw [show b=C from e];exact DB _),λx c e=>(d b a).2.2.2.2.1 x c (B.cells x c e)⟩
 bs:=I.bs
 bsz:=BT I.ok.bsz I.sz
 noex:=λb o e a=>by
  rcases (d b a).2.2.2.1 with z | z
  ·exact I.ok.noex b o e z
  ·exact absurd (CA (pH e) (BT I.ok.bsz z)) (DB _)
 exfs:=λb a k=>by
  rcases A7.mp (I.stkSub b k) with z | z
  ·exact (d b a).2.1 z
  ·exact (d b a).2.2.1 z
 funs:=I.stack
 frf:=I.stkFree
 seer:=I.ok.seer
 tree:=I.ok.tree
 plr:=I.ok.plr
theorem W8 (B:BlkOk X N capt scope cl) (I:Inv X pins σ H s) (E:∀ b∈fp,DF X pins H b) (F:∀ b∈fp,b<s.heap.objs.size) (y:s.heap.objs.size<=C) {g:Heap} {m:cU} {tk:Nat}
  (G:g.Ns C m) (hk:∀ b o,s.heap.get? b=some o->g.get? b=some o):Inv (S_ X N scope cl C s H fp) [] (CS capt σ) H { s with heap:=g,toks:=tk } where
 ok:=Nk B I E F y
 os:=rfl
 bare:=I.bare
 base:=Un.kept hk
 loc:=by
  refine ⟨m,G,λi x v J K U=>?_⟩;have a:(capt.map λo=>o.bind λj=>(σ[j]?).join)[i]?=some (some v):=K;rw [Ac] at a;cases h:capt[i]? with
  | none=>rw [h] at a;cases a
  | some o=>
    rw [h] at a;cases o with
    | none=>cases a
    | some j=>
      have f:(σ[j]?).join=some v:=pE a;obtain ⟨L,M,O,D⟩:=B.cap i x j J h
      have P:σ[j]?=some (some v):=by
       cases q:σ[j]? with
       | none=>rw [q] at f;cases f
       | some w=>rw [q] at f;exact congrArg some f
      obtain ⟨W,_,Q⟩:=I.loc;obtain ⟨u,r,l⟩:=Q j x v L P M;refine ⟨u,r,.inr ⟨D,?_⟩⟩;rcases l with ⟨l,_⟩ | ⟨_,c,R,S⟩
      ·exact absurd l O
      ·obtain ⟨T,d⟩:=B.has x D;have:=B.cells x T d;rw [R] at this;cases this;obtain ⟨o,k,n⟩:=S;exact ⟨c,d,o,hk c o k,n⟩
 cell:=λx c e=>by
  obtain ⟨v,o,k,n⟩:=I.cell x c (B.cells x c e);exact ⟨v,o,hk c o k,n⟩
 free:=I.hok.fresh y
 freeC:=λx c e=>I.freeC x c (B.cells x c e)
 pin:=λp hp=>nomatch hp
 hok:=I.hok.kept hk
 len:=by show (capt.map _).length=N.length;rw [AG];exact B.len
theorem Nl {h:L2.St} {p:Hp} {y:Shared} {d:cS} (B:BlkOk X N capt scope cl) (I:Inv X pins σ H s) (A:∀ b∈fp,DF X pins H b) (e:Inv (S_ X N scope cl C s H fp) d h p y):Inv (S_ X N scope cl C s H fp) d (CS capt σ) p y:=
 ⟨e.ok,e.os,e.bare,e.base,by
  obtain ⟨m,D,_⟩:=e.loc;refine ⟨m,D,λi x v E F T=>?_⟩;have a:(capt.map λo=>o.bind λj=>(σ[j]?).join)[i]?=some (some v):=F;rw [Ac] at a;cases k:capt[i]? with
  | none=>rw [k] at a;cases a
  | some o=>
    rw [k] at a;cases o with
    | none=>cases a
    | some j=>
      have g:(σ[j]?).join=some v:=pE a;obtain ⟨G,J,K,z⟩:=B.cap i x j E k
      have L:σ[j]?=some (some v):=by
       cases q:σ[j]? with
       | none=>rw [q] at g;cases g
       | some w=>rw [q] at g;exact congrArg some g
      obtain ⟨U,_,M⟩:=I.loc;obtain ⟨u,r,l⟩:=M j x v G L J;refine ⟨u,r,.inr ⟨z,?_⟩⟩;rcases l with ⟨l,_⟩ | ⟨_,c,n,O⟩
      ·exact absurd l K
      ·obtain ⟨P,f⟩:=B.has x z;have:=B.cells x P f;rw [n] at this;cases this;obtain ⟨o,Q,R⟩:=O;obtain ⟨W,hk⟩:=e.base.any Q (I.freeC x c n) λS=>(A c S).2.2.2.2.1 x c n rfl;exact ⟨c,f,_,hk,R⟩,e.cell,e.free,e.freeC,e.pin,e.hok,by show (capt.map _).length=N.length;rw [AG];exact B.len⟩
theorem JR {a b:Type} [BEq a] [LawfulBEq a]:∀ {l:List (a×b)} {y:a} {c:b},l.lookup y=some c->(y,c)∈l
 | (k,v)::l,y,c,h=>by
   rw [List.lookup_cons] at h;cases e:y == k with
   | true=>
     rw [e] at h;cases h;rw [eq_of_beq e];exact BL ..
   | false=>
     rw [e] at h;exact BW _ (JR h)
theorem BlkOk.of (k:scope.kind=.function) (c:closureFor scope X.env=pure cl) (o:(scope.names.all λy=>y.2 != .cell)=true) (p:(scope.names.all λy=>y.2 != .local || scope.names.lookup y.1 == some .local)=true)
  (cs:∀ b∈cl,X.env.cells.lookup b.1=some b.2) (r:((relabel scope X.env).names.all λb=>(b.2 != .cell && b.2 != .free) || (cl.lookup b.1).isSome)=true)
  (u:((List.range N.length).all λi=>match N[i]?,capt[i]? with
   | some x,some (some j)=>X.N[j]? == some x && (X.env.scope.names.lookup x == some .cell || X.env.scope.names.lookup x == some .free) && ((relabel scope X.env).names.lookup x == some .cell || (relabel scope X.env).names.lookup x == some .free)
   | _,_=>true)=true) (v:capt.length=N.length):BlkOk X N capt scope cl where
 kind:=k
 clos:=c
 nocell:=λy f e=>by
  have z:=Dp.mp o y f;rw [e] at z;exact absurd z ∅
 names:=λy f e=>by
  have z:=Dp.mp p y f;rw [e] at z;simpa using z
 cells:=λy c h=>cs (y,c) (JR h)
 has:=λy h=>by
  have m:∃ d,(y,d)∈(relabel scope X.env).names/\(d=.cell\/d=.free):=by
   rcases h with h | h
   ·exact ⟨_,JR h,.inl rfl⟩
   ·exact ⟨_,JR h,.inr rfl⟩
  obtain ⟨d,m,e⟩:=m;have z:=Dp.mp r _ m
  have a:(cl.lookup y).isSome=true:=by
   rcases e with rfl | rfl
   ·simpa using z
   ·simpa using z
  exact Option.isSome_iff_exists.mp a
 cap:=λi x j g w=>by
  have li:i<N.length:=(BF.mp g).1;have z:=Dp.mp u i (D5.mpr li);rw [g,w] at z;simp only [Bool.and_eq_true,Bool.or_eq_true,beq_iff_eq] at z;obtain ⟨⟨A,a⟩,B⟩:=z;refine ⟨A,.inr a,λq=>?_,B⟩;have n:X.env.scope.names.lookup x=some .local:=q;rcases a with a | a <;> (rw [a] at n;cases n)
 len:=v
end
open PySem.AutoSeq1 (wpAny_loadPart')
section
variable {X:Cx} {pins:cS} {σ:L2.St} {H:Hp} {s:Shared}
theorem W9 {e f:Addr} {g:Heap} {tk:Nat} {xs:cM} {its:cP} (I:Inv X pins σ H s) (i:DF X pins H e) (j:DF X pins H f) (k:∀ b o,b≠e->b≠f->s.heap.get? b=some o->g.get? b=some o)
  (x:xs.length<=sizeLine) (A:Vals xs its) (B:g.get? s.heap.objs.size=some { cls:=.type "tuple", data:=.seq its.toArray }):Inv X pins σ (upd H s.heap.objs.size (.tup xs)) { s with heap:=g,toks:=tk }:=by
 have C:H s.heap.objs.size=none:=I.hok.fresh (AO _);have p:∀ b o,s.heap.get? b=some o->b≠s.heap.objs.size:=λb o q=>A6 (pH q);have tr:∀ b u,H b=some u->b≠s.heap.objs.size/\b≠e/\b≠f:=λb u q=>⟨BM q C,BM q i.1,BM q j.1⟩;have a:∀ b,b∉[e,f]->b≠e/\b≠f:=λb h=>⟨λz=>h (by simp [z]),λz=>h (by simp [z])⟩
 refine I.step (g':=s.gens) (d':=s.drawn) (ch:=[e,f]) (λb h=>?_) (λb o _ _ d q _=>k b o (a b d).1 (a b d).2 q) (λb o _ _ d q _=>⟨o.slots,k b o (a b d).1 (a b d).2 q⟩) (λb o _ q n=>?_) (λb o d q=>⟨o,k b o (a b d).1 (a b d).2 q⟩)
  (λb D q=>?_) (λb o u q=>?_) (λb ps q=>⟨#[],?_⟩) (λm E=>?_) (λb u q=>?_) I.bare
 ·have z:b=e\/b=f:=by simpa using h
  rcases z with rfl | rfl
  ·exact ⟨i.2.2.2.1,i.2.1,i.2.2.2.2.1,i.2.2.2.2.2⟩
  ·exact ⟨j.2.2.2.1,j.2.1,j.2.2.2.2.1,j.2.2.2.2.2⟩
 ·rw [Ad (p b o q)];exact n
 ·rw [Ad (tr b _ q).1];exact q
 ·rw [Ad (tr b _ q).1];exact q
 ·rw [Ad (tr b _ q).1,q];simp
 ·obtain ⟨o,F,G,J,K⟩:=E;exact ⟨o,F,G,k _ o i.2.1.symm j.2.1.symm J,K⟩
 ·by_cases h:b=s.heap.objs.size
  ·subst h;rw [upd_same] at q;cases q;exact ⟨x,its,A,⟨_,B,rfl,_,rfl⟩⟩
  ·rw [Ad h] at q;refine (I.hok b u q).stay (λc v d z=>?_) (λc z=>by rw [Ad (tr c _ z).1];exact z) λc D z=>by rw [Ad (tr c _ z).1];exact z
   rcases d with y | y
   ·subst y;exact k _ v (tr _ u q).2.1 (tr _ u q).2.2 z
   ·exact k c v (tr c _ y).2.1 (tr c _ y).2.2 z
end
theorem XA {P:Program} {w:World} {K:W.Frag} {y:cV} {k:Nat} {pos:Pos} (a e m:Addr) (S:e≠m):Turn P w K (.Tuple y k pos) (IC K a) [e,m] e (λi h=>(∃ f,IsEnum h e m i f)/\h.IsListIter m a i) where
 mem:=by simp
 obj:=λi h n b r=>by
  obtain ⟨⟨f,j⟩,o,F,c,d⟩:=n
  have z:b=e\/b=m:=by simpa using r
  rcases z with rfl | rfl
  ·exact ⟨_,j,λv z=>nomatch z⟩
  ·exact ⟨o,F,λv z=>by rw [d] at z;cases z⟩
 keep:=λi h h' n T=>⟨let ⟨f,j⟩:=n.1;⟨f,T e (by simp) _ j⟩,n.2.at λo q=>T m (by simp) o q⟩
 item:=by
  intro X G J L U i A s σ H E I B n M
  subst G J L
  obtain ⟨Y,x,D,N⟩:=M
  obtain ⟨⟨f,j⟩,si⟩:=n
  obtain ⟨C,O,p,hz⟩:=I.list D
  obtain ⟨u,hu,ru⟩:=O.get N
  refine wpAny_pyNext_enum_item j si p.isList (x:=u) (by simpa using hu) S λg eo gi gt _ gk=>?_
  refine ⟨_,rfl,wpAny_letOwnedTupleGo_enum eo λg' Q R=>?_⟩
  have I1:=W9 (g:=g') (tk:=s.toks+1) (xs:=[.int i,x]) (its:=[.int i s.toks,u]) I (B e (by simp)) (B m (by simp)) (λb o Z h2 q=>R.extBut b o Z (gk b o Z h2 q)) (sz (by simp)) (.cons ⟨_,rfl⟩ (.cons ru .nil)) (R.extBut _ _ (Cy (pH j)) gt)
  refine ⟨.ref s.heap.objs.size,_,I1,rfl,⟨_,x,I.hok.fresh (AO _),rfl,rfl,λys hy=>by rw [I.list_inj hy D];exact N⟩,⟨⟨_,by simpa using Q⟩,gi.at λo q=>R.extBut m o S.symm q⟩,λb r=>?_⟩
  rw [Ad]
  ·exact (B b r).1
  ·have z:b=e\/b=m:=by simpa using r
   rcases z with rfl | rfl
   ·exact A6 (pH j)
   ·obtain ⟨o,F,_⟩:=si;exact A6 (pH F)
 done:=by
  intro X G J L U i A s σ H E I B n M
  subst G J L
  obtain ⟨Y,D,N⟩:=M
  obtain ⟨⟨f,j⟩,si⟩:=n
  obtain ⟨C,O,p,hz⟩:=I.list D
  obtain ⟨f0,f1,f2,f3,f4,f5⟩:=B m (by simp)
  have hl:=O.length
  exact wpAny_pyNext_enum_end (I.ok.hd U) j si p.isList (by simp;omega) λg eb=>⟨rfl,I.turned (t':=s.toks) (λb o r q=>eb b o r q) f0 f1 f3 f4 f5⟩
 self:=λ_ _ _ _ _ n h=>let ⟨_,j⟩:=n.1;wpAny_pyIter_enum j h
section
variable {X:Cx} {elts:cV} {k:Nat} {tpos:Pos} {a:Expr} {ta:TA} {p pos:Pos}
theorem Ks (n:Gl X "enumerate") (o:X.mg "enumerate" = none) (r:PA X [a] ta) (v:starEach [a] X.env=[(false,eval a X.env)]:=by rfl):PI X (.Tuple elts k tpos) (.Call (.Name "enumerate" p) [a] [] pos) (HD X.K ta):=by
 intro d s f H R I h;refine Call_ (EC I n o Wl (PyProof.Rows.callWith_type1 (H_ (r pos d s f H _ I h) λG s1 ⟨J,i,e,w,x⟩=>?_) v rfl));obtain ⟨b,rfl,⟨K,y⟩,q⟩:=x;obtain ⟨u,rfl,A⟩:=E4 w;cases A;obtain ⟨B,L,C,M⟩:=e.list y;refine call_enumerate_list C.isList λg j si _ D=>?_;have E:Inv X d f i { s1 with heap:=g }:=e.kept (t':=s1.toks) D;refine wpAny_pyIter_enum j ⟨_,[s1.heap.objs.size+1,s1.heap.objs.size],_,_,i,rfl,E,XA b _ _ (Nat.succ_ne_self _),⟨⟨_,j⟩,si⟩,λc F=>?_,q⟩;have z:c=s1.heap.objs.size+1\/c=s1.heap.objs.size:=by simpa using F
 rcases z with rfl | rfl
 ·exact e.fpOk (Nat.le_succ _) (e.hok.fresh (Nat.le_succ _))
 ·exact e.fpOk (AO _) (e.hok.fresh (AO _))
end
end Bs
namespace Bs
open PySem L2
mutual
inductive RepD (H:Hp):V->W.Dat->Prop
 | non:RepD H .non .none
 | int (i:Int):RepD H (.int i) (.int i)
 | tup {p:Addr} {xs:cM} {ds:List W.Dat} (h:H p=some (.tup xs)) (r:RepA H xs ds):RepD H (.ref p) (.tuple ds)
 | lst {p:Addr} {xs:cM} {ds:List W.Dat} (h:H p=some (.lst xs)) (r:RepA H xs ds):RepD H (.ref p) (.list ds)
inductive RepA (H:Hp):cM->List W.Dat->Prop
 | nil:RepA H [] []
 | cons {x:V} {xs:cM} {d:W.Dat} {ds:List W.Dat} (h:RepD H x d) (r:RepA H xs ds):RepA H (x::xs) (d::ds)
end
def eqD:R2:=λx y H Q=>∃ (d e:W.Dat) (b:Bool),RepD H x d/\RepD H y e/\W.kqdOk 8 d=true/\W.kqdOk 8 e=true/\(b=true↔d=e)/\Q (.bl b) H
def aQ:R2:=λx y H Q=>∃ (d e:W.Dat) (b:Bool),RepD H x d/\RepD H y e/\W.kqdOk 8 d=true/\W.kqdOk 8 e=true/\(b=true↔d=e)/\Q (.bl (!b)) H
def Eg (c:TE):TT:=λd H Q=>c d H λx a=>∃ p b,x=.ref p/\a p=some (.lst b)/\Q (!b.isEmpty) a
def XB (c:TE):TT:=λd H Q=>c d H λx a=>∃ p b,x=.ref p/\a p=some (.tup b)/\Q (!b.isEmpty) a
def sL:V->Option Int->Option Int->Hp->VK->Prop:=λx c d H Q=>∃ a b,x=.ref a/\H a=some (.lst b)/\∀ p,H p=none->Q (.ref p) (upd H p (.lst (CQ b c d)))
def HE:cM->Hp->VK->Prop:=λb H Q=>∃ p a,b=[.ref p]/\H p=some (.lst a)/\∀ l,H l=none->Q (.ref l) (upd H l (.tup a))
def XC:cM->Hp->VK->Prop:=λb H Q=>∃ p a,b=[.ref p]/\H p=some (.tup a)/\∀ l,H l=none->Q (.ref l) (upd H l (.lst a))
def JS:cM->Hp->VK->Prop:=λb H Q=>∃ p a,b=[.ref p]/\H p=some (.lst a)/\∀ l,H l=none->Q (.ref l) (upd H l (.lst a))
def No:cM->Hp->VK->Prop:=λb H Q=>∃ (p:Addr) (a:List Bool),b=[.ref p]/\H p=some (.lst (a.map V.bl))/\Q (.bl (a.all id)) H
end Bs
namespace Bs
open PySem PySem.Spec PyProof.Rows L2
section
variable {X:Cx} {pins:cS} {σ:L2.St} {H:Hp} {s:Shared}
mutual
theorem HF (I:Inv X pins σ H s):∀ {x:V} {d:W.Dat} {u:Value},RepD H x d->RelV x u->∃ as,Reads s.heap u (W.kqdP d) as
 | _,_,_,.non,e=>by cases e;rw [W.kqdP];exact ⟨_,Reads.none⟩
 | _,_,_,.int i,⟨t,e⟩=>by subst e;rw [W.kqdP];exact ⟨_,Reads.int i t⟩
 | _,_,_,.tup h r,e=>by
   cases e;obtain ⟨a,b,p,_⟩:=I.tuple (SqT.of h);obtain ⟨as,q⟩:=JT I r b;obtain ⟨o,c,f,n,g⟩:=p;rw [W.kqdP];exact ⟨as,reads_tuple_at c f g (by simpa using q)⟩
 | _,_,_,.lst h r,e=>by
   cases e;obtain ⟨a,b,p,_⟩:=I.list (SqL.of h);obtain ⟨as,q⟩:=JT I r b;obtain ⟨o,n,c,f,_,g⟩:=p;rw [W.kqdP];exact ⟨_,reads_list_at c f g (by simpa using q)⟩
theorem JT (I:Inv X pins σ H s):∀ {xs:cM} {a:List W.Dat} {b:cP},RepA H xs a->Vals xs b->∃ as,ReadsAll s.heap b (W.kqdPs a) as
 | _,_,_,.nil,.nil=>by rw [W.kqdPs];exact ⟨_,ReadsAll.nil⟩
 | _,_,_,.cons h r,.cons e c=>by
   obtain ⟨as,q⟩:=HF I h e;obtain ⟨f,d⟩:=JT I r c;rw [W.kqdPs];exact ⟨_,ReadsAll.cons q d⟩
end
theorem JU {d:W.Dat} (h:W.kqdOk 8 d=true):SeqAt.shaped (W.kqdP d)=true:=by
 have z:=W.kqd_lay 8 d h;unfold SeqAt.shaped;rw [z.1,Bool.true_and];exact qV (BT z.2 ∅)
theorem Np {d e:W.Dat} {b:Bool} (a:W.kqdOk 8 d=true) (c:W.kqdOk 8 e=true) (f:b=true↔d=e):PyData.eqv (W.kqdP d) (W.kqdP e)=b:=by
 rw [Es,f];exact W.kqd_eqv 8 d e 8 a c
theorem XD (f:X.A.units+64<cLine):OpR X (compareOp .Eq) eqD:=by
 intro pins s σ H x y v u Q I g i h;obtain ⟨d,e,b,j,k,a,c,m,q⟩:=h;obtain ⟨as,n⟩:=HF I j g;obtain ⟨p,o⟩:=HF I k i;exact eq_dataH n o (JU a) (JU c) f (by rw [Np a c m];exact ⟨.bl b,H,I,rfl,q⟩)
theorem HG (f:X.A.units+64<cLine):OpR X (compareOp .NotEq) aQ:=by
 intro pins s σ H x y v u Q I g i h;obtain ⟨d,e,b,j,k,a,c,m,q⟩:=h;obtain ⟨as,n⟩:=HF I j g;obtain ⟨p,o⟩:=HF I k i;exact ne_dataH n o (JU a) (JU c) f (by rw [Np a c m];exact ⟨.bl (!b),H,I,rfl,q⟩)
theorem Fd {a:Expr} {c:TE} (d:PE X a c) (f:∀ b,isTrue a X.env b=(do let v <-b;standAt a.pos;holding [v] (truthy v))):PT X a (Eg c):=λpins s σ H Q I h=>
 isTrue_plain (H_ (d pins s σ H _ I h) λv s1 ⟨x,g,i,j,k⟩=>by
  obtain ⟨p,m,e,hp,q⟩:=k;subst e;exact Ug pins s1 σ g _ v Q i j ⟨_,.inl ⟨m,SqL.of hp,rfl⟩,q⟩) (f _)
theorem ID:cf X sL:=by
 intro pins s σ H x v b c d f g Q I i j k m h;obtain ⟨a,n,e,o,q⟩:=h;exact NW pins s σ H x v b c d f g Q I i j k m ⟨a,n,e,SqL.of o,q⟩
theorem JV:Ch X (.type "tuple") HE:=λpins s σ H a b Q I r h=>by
 obtain ⟨p,c,e,hp,q⟩:=h;exact U4 pins s σ H a b Q I r ⟨p,c,e,.inl ⟨SqL.of hp,q⟩⟩
theorem Nr:Ch X (.type "list") JS:=λpins s σ H a b Q I r h=>by
 obtain ⟨p,c,e,hp,q⟩:=h;exact U3 pins s σ H a b Q I r ⟨p,c,e,.inl (SqL.of hp),q⟩
theorem Nt:∀ {bs:List Bool} {a:cP},Vals (bs.map V.bl) a->a=bs.map Value.bool
 | [],_,.nil=>rfl
 | b::bs,_,.cons e r=>by rw [show _=Value.bool b from e,Nt r];rfl
theorem XE (j:X.calm=true):Ch X (.builtin "all") No:=λpins s σ H G J Q I r h=>by
 obtain ⟨p,a,rfl,hp,q⟩:=h;obtain ⟨u,rfl,k⟩:=E4 r;cases k;obtain ⟨m,n,f,K⟩:=I.list (SqL.of hp);have y:=Nt n;subst y;refine call_all_walk (wpAny_pyIter_list f.isList ⟨s.heap.objs.size,[s.heap.objs.size,p],[s.heap.objs.size],(a.map Value.bool).toArray.size,_,_,λi=>a.getD i false,rfl,Walks.list (A:=X.A.in1) (show X.A.in1.handled=none from I.ok.hd j) s.heap.objs.size p (A6 f.lt) _,⟨⟨_,Heap.get?_push_size _ rfl,rfl,rfl⟩,f.isList.push _⟩,?_,λg L B=>?_⟩)
 ·intro i v M N O C D
  have e:v=Value.bool (a.getD i false):=by
   have z:(a.map Value.bool)[i]?=some v:=by simpa using C
   rw [Ac] at z;cases w:a[i]? with
   | none=>rw [w] at z;cases z
   | some c=>
     rw [w] at z;rw [AT,w];exact (pE z).symm
  subst e;exact wpAny_truthy_bool D
 ·have E:∀ b o,s.heap.get? b=some o->g.get? b=some o:=λb o e=>B b o (λz=>absurd (pH e) (by rw [Ap.mp z];exact DB _)) (Heap.get?_push_of_some _ e);refine ⟨.bl (a.all id),H,I.kept E,?_,q⟩;show Value.bool _=Value.bool _;congr 1;rw [Es];simp only [Dp,D5,BE,AG,id];constructor
  ·intro h x F;obtain ⟨i,d,e⟩:=F8 F;have z:=h i d;rw [AT,Aj d] at z;rw [<-e];exact z
  ·intro h i d;rw [AT,Aj d];exact h _ (Dq d)
theorem JW:bU X gL:=by
 intro pins s σ H o i B C Q I m n h;obtain ⟨p,k,D,v,rfl,rfl,hp,u,q⟩:=h;cases m;obtain ⟨t,rfl⟩:=n;obtain ⟨c,r,e,E⟩:=I.list (SqL.of hp);obtain ⟨j,b,x,F,y,z⟩:=Kj u;obtain ⟨w,f,rw'⟩:=r.get x;have A:=r.length;have G:=G7;have a:EP X pins σ Q w s:=⟨v,H,I,rw',q⟩;by_cases g:0<=k
 ·have d:k.toNat=j:=by
   rw [seqIndex_of g z] at b;exact pE b
  exact wpAny_getItem_list e.isList g ⋯ (by rw [d];simpa using f) a
 ·have d:(k+(c.toArray.size:Int)).toNat=j:=by
   rw [seqIndex_neg ⋯ y] at b;rw [BE,<-A];exact pE b
  exact wpAny_getItem_list_neg e.isList ⋯ (by rw [BE] <;> omega) ⋯ (by rw [d];simpa using f) a
theorem Nv {K:W.Frag} {p:Addr} {xs:cM} (h:H p=some (.lst xs)):cg K "list" (.ref p) H:=.inl ⟨rfl,xs,SqL.of h⟩
end
end Bs
namespace Bs
open PySem L2
def Ce (n:Nat) (t:aK):TG:=λv c H Q=>∃ a b,v=.ref a/\H a=some (.tup b)/\b.length=n/\t b c H Q
end Bs
namespace Bs
open PySem PySem.Spec PyProof.Rows L2
theorem DI {X:Cx} {es:cV} {k:Nat} {pos:Pos} {t:aK} {n:Nat} (d:X.calm=true) (h:bS X es t)
  (f:(assignEach es X.env).length=n:=by rfl) (c:(assignEach es X.env).findIdx? (·.1)=none:=by rfl):PG X (.Tuple es k pos) (Ce n t):=λb s g H v u Q I r q=>by
 obtain ⟨a,i,e,j,m,q⟩:=q;exact UP d h f c b s g H v u Q I r ⟨a,i,e,SqT.of j,m,q⟩
theorem XF {X:Cx}:OpR X (inplaceOp .FloorDiv) Hz:=bo λi j _ _ _ _ _ a q=>by
 refine ifloordiv_int (AW a.1) ?_ (.inl (PyProof.noPylong_of_log2 (a.2.log2 ∅)));rw [Do i (DQ a.1)];exact q
end Bs
namespace Bs
open PySem L2
def sT:V->Option Int->Option Int->Hp->VK->Prop:=λx d e H Q=>∃ a b,x=.ref a/\H a=some (.tup b)/\∀ p c,(c=H/\p=a/\CQ b d e=b)\/(H p=none/\c=upd H p (.tup (CQ b d e)))->Q (.ref p) c
noncomputable def bV (a:Int) (n:Nat):It:=⟨λi _=>i<n,λi H x b=>b=H/\x=.int (a - i),λi _=>n<=i⟩
def IE (a:TA):TI:=λb H R=>a b H λc d=>∃ i j:Int,c=[.int i,.int j,.int (-1)]/\(-(2 ^ 62)<=i/\i<2 ^ 62/\-(2 ^ 62)<=j/\j<2 ^ 62)/\R (bV i (i - j).toNat) d
section
variable {K:W.Frag} {ta:TA} {g:TG} {tb:TS} {D:Ends} {σ:L2.St} {H:Hp} {a:Addr} {xs:cM}
theorem XG:Bh (IE ta) g tb D σ H=ta σ H (λb c=>∃ i j:Int,b=[.int i,.int j,.int (-1)]/\(-(2 ^ 62)<=i/\i<2 ^ 62/\-(2 ^ 62)<=j/\j<2 ^ 62)/\ForJ (bV i (i - j).toNat) g tb D σ c):=rfl
theorem ForJ.down {d:Int} {n:Nat} (Pv:Nat->L2.St->Hp->Prop) (f:Pv 0 σ H)
  (h:∀ i σ H,i<n->Pv i σ H->g (.int (d - i)) σ H λb j=>tb { D with nx:=Pv (i+1),ct:=Pv (i+1),bk:=D.nx } b j) (k:∀ σ H,Pv n σ H->D.nx σ H):ForJ (bV d n) g tb D σ H:=by
 refine ⟨λi m σ H=>m=n - i/\i<=n/\Pv i σ H,⟨n,by simp,Ae _,f⟩,?_⟩;rintro i m σ H ⟨rfl,w,pv⟩;by_cases c:i<n
 ·refine .inr ⟨c,Pv (i+1),λo p q=>⟨n - (i+1),⋯,rfl,c,q⟩,λx p y=>?_⟩;obtain ⟨e,y⟩:=y;subst e y;exact h i σ _ c pv
 ·have e:i=n:=by omega
  subst e;exact .inl ⟨AO _,k σ H pv⟩
end
end Bs
namespace Bs
open PySem PySem.Spec PyProof.Rows L2
theorem XH {P:Program} {w:World} {K:W.Frag} {N:Expr} (c:Addr) (g:Int) (n:Nat):Turn P w K N (bV g n) [c] c (λi h=>IsRangeIter h c (g+(i:Nat)*(-1)) ((n:Int) - (i:Nat)) (-1)) where
 mem:=by simp
 obj:=λi h a b f=>by
  have e:b=c:=by simpa using f
  subst e
  exact ⟨_,a,λv z=>by
   have O:Data.fields _=Data.cell v:=z
   cases O⟩
 keep:=λi h q a k=>k c (by simp) _ a
 item:=by
  intro X u x y A i d s L H E I r a B
  subst u x y
  obtain ⟨C,D,Q,F,G,J⟩:=r c (by simp)
  have W:=Walks.range (prog:=X.prog) (w:=X.w) (I.ok.hd A) c g (-1) n
  refine W.item i s _ _ B a λv q M R j S=>?_
  obtain ⟨t,rfl⟩:=R
  have T:Inv X d L H { s with heap:=q,toks:=M }:=I.turned (λb o f e=>S b o (by simpa using f) e) C D F G J
  refine ⟨_,rfl,JD (s:={ s with heap:=q,toks:=M }) (n := "range_iterator") j rfl rfl ∅ ⟨.int (g - i),H,T,⟨t,?_⟩,⟨rfl,rfl⟩,j,λb f=>(r b f).1⟩⟩
  rw [show g+(i:Int)*(-1)=g - i by omega]
 done:=by
  intro X u x y A i d s L H E I r a B
  subst u x y
  obtain ⟨C,D,Q,F,G,J⟩:=r c (by simp)
  exact wpAny_pyNext_range_end (I.ok.hd A) a (by have:n<=i:=B;omega) λq U=>⟨rfl,I.turned (t':=s.toks) (λb o f e=>U b o f e) C D F G J⟩
 self:=λ_ _ _ _ _ a h=>wpAny_pyIter_rangeiter a h
theorem Nw (a b:Int):Builtin.Range.rangeSize a b (-1)=if b<a then a - b else 0:=by
 unfold Builtin.Range.rangeSize;simp only [show ¬ ((-1:Int) > 0) by decide,if_false,Int.neg_neg,Int.ediv_one];split <;> omega
theorem XI {a b:Int} (e:-(2 ^ 62)<=a) (c:a<2 ^ 62) (f:-(2 ^ 62)<=b) (d:b<2 ^ 62):Builtin.Range.small a b (-1)=true:=by
 unfold Builtin.Range.small;rw [Nw];simp only [Builtin.Range.rangeFitsLong,Bool.and_eq_true,Bool.or_eq_true,decide_eq_true_eq,beq_iff_eq,show ¬ ((-1:Int) > 0) by decide,if_false];split <;> omega
theorem Nx {X:Cx} {D:Expr} {a b c:Expr} {y:TA} {p pos:Pos} (E:Gl X "range") (F:X.mg "range" = none) (G:PA X [a,b,c] y) (J:starEach [a,b,c] X.env=[(false,eval a X.env),(false,eval b X.env),(false,eval c X.env)]:=by rfl) (m:starEach [b,c] X.env=[(false,eval b X.env),(false,eval c X.env)]:=by rfl) :
  PI X D (.Call (.Name "range" p) [a,b,c] [] pos) (IE y):=by
 intro g s z H R I h;refine Call_ (EC I E F boot_range (PyProof.Rows.callWith_type1 (H_ (G pos g s z H _ I h) λU s1 ⟨W,A,K,L,v⟩=>?_) (by rw [J,m]) (by rw [m];rfl)));obtain ⟨i,j,e,⟨v,M,N,O⟩,q⟩:=v;subst e;cases L with
 | cons r n=>
   cases n with
   | cons P n=>
     cases n with
     | cons w n=>
       cases n;obtain ⟨t,rfl⟩:=r;obtain ⟨u,rfl⟩:=P;obtain ⟨f,rfl⟩:=w;refine call_range_3 ∅ ?_ (.inl (PyProof.noPylong_small ∅));refine wpAny_pyIter_range (IsRange.new ..) (XI v M N O) ?_;have x:Inv X g z A { s1 with heap:=s1.heap.push { cls:=.type "range", data:=.fields #[.int i t,.int j u,.int (-1) f] },toks:=s1.toks }:=K.kept λb o e=>Heap.get?_push_of_some _ e
       refine ⟨(s1.heap.push { cls:=.type "range", data:=.fields #[.int i t,.int j u,.int (-1) f] }).objs.size,[(s1.heap.push { cls:=.type "range", data:=.fields #[.int i t,.int j u,.int (-1) f] }).objs.size],_,_,A,rfl,
        x.kept (t':=s1.toks) λb o e=>Heap.get?_push_of_some _ e,XH _ i (i - j).toNat,?_,λb Q=>?_,q⟩
       ·have S:i+((0:Nat):Int)*(-1)=i:=by simp
        have T:(((i - j).toNat:Nat):Int) - ((0:Nat):Int)=Builtin.Range.rangeSize i j (-1):=by rw [Nw];split <;> omega
        show IsRangeIter _ _ (i+((0:Nat):Int)*(-1)) ((((i - j).toNat:Nat):Int) - ((0:Nat):Int)) (-1);rw [S,T];exact Heap.get?_push_size _ rfl
       ·have e:b=(s1.heap.push { cls:=.type "range", data:=.fields #[.int i t,.int j u,.int (-1) f] }).objs.size:=by simpa using Q
        subst e;exact x.fpOk (AO _) (x.hok.fresh (AO _))
end Bs
namespace Bs
open PySem L2
def Kt:R2:=λx y H Q=>y=.non/\Q (.bl (decide (x=.non))) H
def Ny:R2:=λx y H Q=>y=.non/\Q (.bl (!decide (x=.non))) H
def N6 (_ j:Int):Prop:=0<j
def JX (_ j:Int):Prop:=j≠0
abbrev Fe:R2:=rI N6 λi j=>.int (i / j)
abbrev EI:R2:=rI JX λi j=>.int (i.fdiv j)
noncomputable def cj (K:W.Frag) (a b:Addr):It:=
 ⟨λi H=>∃ c d x y,SqL K H a c/\SqL K H b d/\c[i]?=some x/\d[i]?=some y,λi H v e=>∃ p x y,H p=none/\v=.ref p/\e=upd H p (.tup [x,y])/\(∀ c,SqL K H a c->c[i]?=some x)/\∀ d,SqL K H b d->d[i]?=some y,λi H=>∃ c d,SqL K H a c/\SqL K H b d/\c.length<=i⟩
def GT (K:W.Frag) (d:TA):TI:=λe H R=>d e H λf c=>∃ a b,f=[.ref a,.ref b]/\(∃ g,SqL K c a g)/\(∃ h,SqL K c b h)/\R (cj K a b) c
def E8 (h:TI) (capt:List (Option Nat)) (g:TG) (tc:TT) (j:TE):TE:=λd H Q=>h d H λJ k=>∃ (n:Nat) (W:Nat->cM->Hp->Prop),W 0 [] k/\∀ i a H,W i a H->i<=n/\a.length<=sizeLine/\
 ((J.stop i H/\∀ p,H p=none->Q (.ref p) (upd H p (.lst a)))\/(i<n/\J.go i H/\∀ x e,J.yld i H x e->g x (CS capt d) e λc m=>tc c m λb f=>if b=true then j c f λy o=>W (i+1) (a++[y]) o else W (i+1) a f))
def CompF (J:It) (capt:List (Option Nat)) (g:TG) (tc:TT) (f:TE) (h:L2.St) (Q:VK) (j:Hp):Prop:=∃ (n:Nat) (W:Nat->cM->Hp->Prop),W 0 [] j/\∀ i a H,W i a H->i<=n/\a.length<=sizeLine/\
 ((J.stop i H/\∀ p,H p=none->Q (.ref p) (upd H p (.lst a)))\/(i<n/\J.go i H/\∀ x d,J.yld i H x d->g x (CS capt h) d λc k=>tc c k λb e=>if b=true then f c e λy m=>W (i+1) (a++[y]) m else W (i+1) a e))
section
variable {K:W.Frag} {ta:TA} {tl:TE} {capt:List (Option Nat)} {g:TG} {tc:TT} {te:TE} {tb:TS} {D:Ends} {σ:L2.St} {H:Hp} {Q:VK} {a b:Addr} {xs ys:cM}
theorem XJ:E8 (Bz K tl) capt g tc te σ H Q=tl σ H (λx c=>∃ a,x=.ref a/\(∃ xs,SqL K c a xs)/\CompF (ah K a) capt g tc te σ Q c):=rfl
theorem XM:BH (GT K ta) capt g te σ H Q=ta σ H (λd c=>∃ a b,d=[.ref a,.ref b]/\(∃ xs,SqL K c a xs)/\(∃ ys,SqL K c b ys)/\CompJ (cj K a b) capt g te σ Q c):=rfl
theorem CompF.lst (W:Nat->cM->Hp->Prop) (j:W 0 [] H) (d:∀ i ys H,W i ys H->i<=xs.length/\ys.length<=sizeLine/\SqL K H a xs)
  (k:∀ i x ys H,xs[i]?=some x->W i ys H->g x (CS capt σ) H λc m=>tc c m λb f=>if b=true then te c f λy n=>W (i+1) (ys++[y]) n else W (i+1) ys f) (o:∀ ys H,W xs.length ys H->∀ p,H p=none->Q (.ref p) (upd H p (.lst ys))):CompF (ah K a) capt g tc te σ Q H:=by
 refine ⟨xs.length,W,j,λi ys H w=>⟨(d i ys H w).1,(d i ys H w).2.1,?_⟩⟩;have q:SqL K H a xs:=(d i ys H w).2.2;by_cases h:i<xs.length
 ·refine .inr ⟨h,⟨xs,xs[i],q,by simp [h]⟩,λx r y=>?_⟩;obtain ⟨e,y⟩:=y;subst e;exact k i x ys _ (y xs q) w
 ·have e:i=xs.length:=Ev (d i ys H w).1 (Nat.not_lt.mp h);subst e;exact .inl ⟨⟨xs,q,AO _⟩,o ys H w⟩
theorem CompJ.zip (k:xs.length=ys.length) (W:Nat->cM->Hp->Prop) (m:W 0 [] H) (d:∀ i c H,W i c H->i<=xs.length/\c.length<=sizeLine/\SqL K H a xs/\SqL K H b ys)
  (n:∀ i x y c H p,xs[i]?=some x->ys[i]?=some y->W i c H->H p=none->g (.ref p) (CS capt σ) (upd H p (.tup [x,y])) λf o=>te f o λz r=>W (i+1) (c++[z]) r) (u:∀ c H,W xs.length c H->∀ p,H p=none->Q (.ref p) (upd H p (.lst c))):CompJ (cj K a b) capt g te σ Q H:=by
 refine ⟨xs.length,W,m,λi c H w=>⟨(d i c H w).1,(d i c H w).2.1,?_⟩⟩;obtain ⟨_,_,q,j⟩:=d i c H w;by_cases h:i<xs.length
 ·refine .inr ⟨h,⟨xs,ys,xs[i],ys[i],q,j,by simp [h],by simp [k ▸ h]⟩,λv F y=>?_⟩;obtain ⟨p,x,y,hp,A,B,C,E⟩:=y;subst A B;exact n i x y c _ p (C xs q) (E ys j) w hp
 ·have e:i=xs.length:=Ev (d i c H w).1 (Nat.not_lt.mp h);subst e;exact .inl ⟨⟨xs,ys,q,j,AO _⟩,u c H w⟩
end
def N8:V->Hp->VK->Prop:=λx H Q=>∃ (p:Addr) (a:cO),x=.ref p/\H p=some (.lst (a.map V.int))/\∀ m:Int,(a=[]/\m=0\/m∈a)->Q (.int m) H
def Ku (a:TE):TE:=λb H Q=>a b H λx c=>N8 x c Q
def Kv:cM->Hp->VK->Prop:=λb H Q=>∃ (p:Addr) (a:cO),b=[.ref p]/\H p=some (.lst (a.map V.int))/\Q (.bl (a.any λz=>!decide (z=0))) H
end Bs
namespace Bs
open PySem PySem.Spec PyProof.Rows L2
section
variable {X:Cx} {pins:cS} {σ:L2.St} {H:Hp} {s:Shared}
theorem E9:OpR X (binaryOp .FloorDiv) EI:=by
 intro pins s σ H x y v u Q I a b ⟨i,j,c,d,e,q⟩;subst c d;obtain ⟨t,rfl⟩:=a;obtain ⟨f,rfl⟩:=b;exact floordiv_int e ⟨.int (i.fdiv j),H,I.tok _,⟨_,rfl⟩,q⟩ (Or.inr (I.ok.plr s I.bk))
theorem JY:OpR X (binaryOp .FloorDiv) Fe:=by
 intro pins s σ H x y v u Q I b c ⟨i,j,d,e,f,q⟩;have a:0<j:=f;replace q:Q (.int (i / j)) H:=q;rw [<-Do i (DQ a)] at q;exact E9 pins s σ H x y v u Q I b c ⟨i,j,d,e,AW a,q⟩
theorem N9 {f:c_} {g:Heap} {tk:Nat} (I:Inv X pins σ H s) (e:∀ b∈f,DF X pins H b) (k:∀ b o,b∉f->s.heap.get? b=some o->g.get? b=some o):Inv X pins σ H { s with heap:=g,toks:=tk }:=by
 have tr:∀ b u,H b=some u->b∉f:=λb u q a=>by rw [(e b a).1] at q;cases q
 refine I.step (g':=s.gens) (d':=s.drawn) (ch:=f) (λb a=>⟨(e b a).2.2.2.1,(e b a).2.1,(e b a).2.2.2.2.1,(e b a).2.2.2.2.2⟩) (λb o _ _ d q _=>k b o d q) (λb o _ _ d q _=>⟨o.slots,k b o d q⟩) (λ_ _ _ _ n=>n)
  (λb o d q=>⟨o,k b o d q⟩) (λ_ _ q=>q) (λ_ _ _ q=>q) (λb ps q=>⟨#[],by rw [q];simp⟩) (λm j=>?_) (λb u q=>?_) I.bare
 ·obtain ⟨o,p,r,w,x⟩:=j;exact ⟨o,p,r,k _ o (λa=>(e _ a).2.1 rfl) w,x⟩
 ·refine (I.hok b u q).stay (λc v d z=>?_) (λ_ z=>z) λ_ _ z=>z;rcases d with y | y
  ·subst y;exact k _ v (tr _ u q) z
  ·exact k c v (tr c _ y) z
theorem OA {h:c_} {g:Heap} {tk:Nat} {xs:cM} {its:cP} (I:Inv X pins σ H s) (e:∀ b∈h,DF X pins H b) (k:∀ b o,b∉h->s.heap.get? b=some o->g.get? b=some o)
  (p:xs.length<=sizeLine) (r:Vals xs its) (w:g.get? s.heap.objs.size=some { cls:=.type "tuple", data:=.seq its.toArray }):Inv X pins σ (upd H s.heap.objs.size (.tup xs)) { s with heap:=g,toks:=tk }:=by
 have x:H s.heap.objs.size=none:=I.hok.fresh (AO _);have f:∀ b u,H b=some u->b≠s.heap.objs.size:=λb u q=>BM q x;have tr:∀ b u,H b=some u->b∉h:=λb u q a=>by rw [(e b a).1] at q;cases q
 refine I.step (g':=s.gens) (d':=s.drawn) (ch:=h) (λb a=>⟨(e b a).2.2.2.1,(e b a).2.1,(e b a).2.2.2.2.1,(e b a).2.2.2.2.2⟩) (λb o _ _ d q _=>k b o d q) (λb o _ _ d q _=>⟨o.slots,k b o d q⟩) (λb o _ q n=>?_)
  (λb o d q=>⟨o,k b o d q⟩) (λb A q=>?_) (λb o u q=>?_) (λb ps q=>⟨#[],?_⟩) (λm B=>?_) (λb u q=>?_) I.bare
 ·rw [Ad (A6 (pH q))];exact n
 ·rw [Ad (f b _ q)];exact q
 ·rw [Ad (f b _ q)];exact q
 ·rw [Ad (f b _ q),q];simp
 ·obtain ⟨o,C,D,E,F⟩:=B;exact ⟨o,C,D,k _ o (λa=>(e _ a).2.1 rfl) E,F⟩
 ·by_cases a:b=s.heap.objs.size
  ·subst a;rw [upd_same] at q;cases q;exact ⟨p,its,r,⟨_,w,rfl,_,rfl⟩⟩
  ·rw [Ad a] at q;refine (I.hok b u q).stay (λc v d z=>?_) (λc z=>by rw [Ad (f c _ z)];exact z) λc A z=>by rw [Ad (f c _ z)];exact z
   rcases d with y | y
   ·subst y;exact k _ v (tr _ u q) z
   ·exact k c v (tr c _ y) z
end
def XN (a b z c d e f:Addr) (i:Nat) (h:Heap):Prop:=IsZip h z c d .none/\IsPair h c (.ref e) (.ref f)/\(∃ u v,IsPair h d u v)/\h.IsListIter e a i/\h.IsListIter f b i
theorem XO {P:Program} {w:World} {K:W.Frag} {L:cV} {k:Nat} {pos:Pos} {a b z p r m n:Addr} (D:ZipApart z p r m n a b):Turn P w K (.Tuple L k pos) (cj K a b) [z,p,r,m,n] z (XN a b z p r m n) where
 mem:=by simp
 obj:=λi h f c j=>by
  obtain ⟨s1,F,⟨u,v,G⟩,⟨o4,B,_,d4⟩,⟨o5,C,_,d5⟩⟩:=f
  have d:c=z\/c=p\/c=r\/c=m\/c=n:=by simpa using j
  rcases d with rfl | rfl | rfl | rfl | rfl
  ·exact ⟨_,s1,λv q=>nomatch q⟩
  ·exact ⟨_,F,λv q=>nomatch q⟩
  ·exact ⟨_,G,λv q=>nomatch q⟩
  ·exact ⟨_,B,λv q=>by rw [d4] at q;cases q⟩
  ·exact ⟨_,C,λv q=>by rw [d5] at q;cases q⟩
 keep:=λi h h' f M=>⟨M z (by simp) _ f.1,M p (by simp) _ f.2.1,let ⟨u,v,q⟩:=f.2.2.1;⟨u,v,M r (by simp) _ q⟩,f.2.2.2.1.at λo q=>M m (by simp) o q,f.2.2.2.2.at λo q=>M n (by simp) o q⟩
 item:=by
  intro X U Y Z j i N s σ H E I R f hg
  subst U Y Z
  obtain ⟨xs,ys,x,y,S,A,hx,hy⟩:=hg
  obtain ⟨s1,F,⟨u0,v0,G⟩,B,C⟩:=f
  obtain ⟨O,rv,p1,_⟩:=I.list S
  obtain ⟨a0,rw',p2,_⟩:=I.list A
  obtain ⟨u,hu,ru⟩:=rv.get hx
  obtain ⟨v,hv,a1⟩:=rw'.get hy
  refine wpAny_pyNext_zip_item D s1 F G B C p1.isList p2.isList (x:=u) (y:=v) (by simpa using hu) (by simpa using hv) λg g1 g2 g3 g4 g5 _ T=>?_
  refine ⟨_,rfl,wpAny_letOwnedTupleGo_zip g1 λg' z1 J=>?_⟩
  have lz:z<s.heap.objs.size:=pH s1
  have Q:∀ c o,c∉[z,p,r,m,n]->s.heap.get? c=some o->g'.get? c=some o:=λc o j q=>by
   have d:¬ (c=z\/c=p\/c=r\/c=m\/c=n):=by simpa using j
   exact J.extBut c o (λe=>d (.inl e)) (T c o (λe=>d (.inl e)) (λe=>d (.inr (.inr (.inl e)))) (λe=>d (.inr (.inr (.inr (.inl e))))) (λe=>d (.inr (.inr (.inr (.inr e))))) q)
  have I1:=OA (g:=g') (tk:=s.toks) (xs:=[x,y]) (its:=[u,v]) I R Q (sz (by simp)) (.cons ru (.cons a1 .nil)) (J.extBut _ _ (Cy lz) g5)
  refine ⟨.ref s.heap.objs.size,_,I1,rfl,⟨_,x,y,I.hok.fresh (AO _),rfl,rfl,λzs hz=>by rw [I.list_inj hz S];exact hx,λzs hz=>by rw [I.list_inj hz A];exact hy⟩,⟨z1,?_,⟨u,v,J.extBut _ _ D.TOz g2⟩,g3.at λo q=>J.extBut m o D.i1z q,g4.at λo q=>J.extBut n o D.i2z q⟩,λc j=>?_⟩
  ·exact J.extBut _ _ D.TIz (T _ _ D.TIz D.TITO D.TIi1 D.TIi2 F)
  ·rw [Ad]
   ·exact (R c j).1
   ·have d:c=z\/c=p\/c=r\/c=m\/c=n:=by simpa using j
    obtain ⟨o4,B,_⟩:=B
    obtain ⟨o5,C,_⟩:=C
    rcases d with rfl | rfl | rfl | rfl | rfl
    ·exact A6 lz
    ·exact A6 (pH F)
    ·exact A6 (pH G)
    ·exact A6 (pH B)
    ·exact A6 (pH C)
 done:=by
  intro X U Y Z j i N s σ H E I R f hg
  subst U Y Z
  obtain ⟨xs,ys,S,A,hx⟩:=hg
  obtain ⟨s1,F,⟨u0,v0,G⟩,B,C⟩:=f
  obtain ⟨O,rv,p1,_⟩:=I.list S
  obtain ⟨a0,_,p2,_⟩:=I.list A
  have hl:=rv.length
  refine wpAny_pyNext_zip_end (I.ok.hd j) D s1 F G B C p1.isList p2.isList (.inl (by simp;omega)) λg T=>⟨rfl,N9 (tk:=s.toks) I R λc o j q=>?_⟩
  have d:¬ (c=z\/c=p\/c=r\/c=m\/c=n):=by simpa using j
  exact T c o (λe=>d (.inl e)) (λe=>d (.inr (.inr (.inl e)))) (λe=>d (.inr (.inr (.inr (.inl e))))) (λe=>d (.inr (.inr (.inr (.inr e))))) q
 self:=λ_ _ _ _ _ f h=>wpAny_pyIter_zip f.1 h
section
variable {X:Cx} {elts:cV} {k:Nat} {tpos:Pos} {a b:Expr} {ta:TA} {p pos:Pos}
theorem vals2 {x y:V} {c:cP} (r:Vals [x,y] c):∃ u v,c=[u,v]/\RelV x u/\RelV y v:=r.two
theorem JZ (A:Gl X "zip") (B:X.mg "zip" = none) (C:PA X [a,b] ta) (E:starEach [a,b] X.env=(false,eval a X.env)::starEach [b] X.env:=by rfl) (i:(backTo pos (starEach [b] X.env)).any (·.1)=false:=by rfl):PI X (.Tuple elts k tpos) (.Call (.Name "zip" p) [a,b] [] pos) (GT X.K ta):=by
 intro d s m H R I h;refine Call_ (EC I A B Kq (PyProof.Rows.callWith_type1 (H_ (C pos d s m H _ I h) λY s1 ⟨Z,n,e,F,G⟩=>?_) E i));obtain ⟨o,l2,rfl,⟨xs,J⟩,⟨ys,j⟩,q⟩:=G;obtain ⟨u,v,rfl,K,L⟩:=vals2 F;cases K;cases L;obtain ⟨M,_,r,_⟩:=e.list J;obtain ⟨N,_,w,_⟩:=e.list j;refine call_zip_2 r.isList w.isList λg x O P Q S _ T=>?_;have U:Inv X d m n { s1 with heap:=g }:=e.kept (t':=s1.toks) T;have n1:@LT.lt Nat _ o s1.heap.objs.size:=r.lt;have n2:@LT.lt Nat _ l2 s1.heap.objs.size:=w.lt
 have D:ZipApart (s1.heap.objs.size+4) (s1.heap.objs.size+2) (s1.heap.objs.size+3) s1.heap.objs.size (s1.heap.objs.size+1) o l2:=by
  constructor <;> (show (_:Nat)≠_;omega)
 refine wpAny_pyIter_zip x ⟨_,[s1.heap.objs.size+4,s1.heap.objs.size+2,s1.heap.objs.size+3,s1.heap.objs.size,s1.heap.objs.size+1],_,_,n,rfl,U,XO D,⟨x,O,⟨_,_,P⟩,Q,S⟩,λc W=>?_,q⟩
 have f:s1.heap.objs.size<=c:=by
  have z:c=s1.heap.objs.size+4\/c=s1.heap.objs.size+2\/c=s1.heap.objs.size+3\/c=s1.heap.objs.size\/c=s1.heap.objs.size+1:=by simpa using W
  rcases z with z | z | z | z | z <;> rw [z] <;> first | exact Nat.le_add_right _ _ | exact AO _
 exact e.fpOk f (e.hok.fresh f)
end
theorem XQ:bootBuiltins "any" = some (.builtin "any"):=by decide +kernel
theorem Ja:∀ {a:cO} {b:cP} {i:Nat} {u:Value},Vals (a.map V.int) b->b[i]?=some u->∃ n t,a[i]?=some n/\u=Value.int n t
 | [],_,_,_,.nil,e=>by simp at e
 | n::a,_,0,_,.cons r _,e=>by
   simp at e;subst e;obtain ⟨t,rfl⟩:=r;exact ⟨n,t,rfl,rfl⟩
 | _::a,_,i+1,u,.cons _ r,e=>by
   obtain ⟨n,t,c,d⟩:=Ja (i:=i) (u:=u) r (by simpa using e);exact ⟨n,t,by simpa using c,d⟩
section
variable {X:Cx}
theorem XR (y:X.calm=true):Ch X (.builtin "any") Kv:=λk s M H N O Q I r ⟨p,c,e,hp,q⟩=>by
 subst e;obtain ⟨u,rfl,B⟩:=E4 r;cases B;obtain ⟨a,m,j,P⟩:=I.list (SqL.of hp);have R:c.length=a.length:=by have:=m.length;simpa using this
 refine call_any_walk (wpAny_pyIter_list j.isList ⟨s.heap.objs.size,[s.heap.objs.size,p],[s.heap.objs.size],a.toArray.size,_,_,λi=>!decide (c.getD i 0=0),rfl,Walks.list (A:=X.A.in1) (show X.A.in1.handled=none from I.ok.hd y) s.heap.objs.size p (A6 j.lt) _,⟨⟨_,Heap.get?_push_size _ rfl,rfl,rfl⟩,j.isList.push _⟩,?_,λg S C=>?_⟩)
 ·intro i v D E T F f;obtain ⟨n,t,G,rfl⟩:=Ja m (show a[i]?=some v by simpa using F);have e:c.getD i 0=n:=by rw [AT,G];rfl
  replace f:E (!decide (c.getD i 0=0)) D:=f;rw [e] at f;refine PySem.P.truthy_int ?_;have J:(n != 0)=!decide (n=0):=by rw [Es];simp
  rw [J];exact f
 ·have K:∀ b o,s.heap.get? b=some o->g.get? b=some o:=λb o e=>C b o (λz=>absurd (pH e) (by rw [Ap.mp z];exact DB _)) (Heap.get?_push_of_some _ e);refine ⟨_,H,I.kept K,?_,q⟩;show Value.bool _=Value.bool _;congr 1;rw [Es];simp only [List.any_eq_true,D5,BE];constructor
  ·rintro ⟨i,w,h⟩;have d:i<c.length:=by omega
   rw [AT,Aj d] at h;exact ⟨c[i],Dq d,h⟩
  ·rintro ⟨x,L,h⟩;obtain ⟨i,w,rfl⟩:=F8 L;refine ⟨i,⋯,?_⟩;rw [AT,Aj w];exact h
end
section
variable {prog:Program} {w:World} {A:Around} {R:Result->Shared->Prop} {I:Addr} {fp wr:c_} {n:Nat} {P:Nat->Value->Prop} {St:Nat->Heap->Prop} {d:Value}
theorem Kw (W:Walks prog w A.in1 I fp wr n P St) (G:Nat->Nat->Bool) (a:CmpOf prog w A.in1 .Lt P G) (S:Addr) (f:S∉fp):∀ (k j q:Nat) (s:Shared) (h:Value) (c:Nat),n - j=k->j<=n->St j s.heap->q<n->P q h->
  s.heap.get? S=some { cls:=.type "list", dict:=none,data:=.seq #[h,h] c,slots:=#[] }->
  (∀ q v H J,q<n->P q v->(∀ b o,b∉wr->b≠S->s.heap.get? b=some o->H.get? b=some o)->R (.ok (.ret v)) { s with heap:=H,toks:=J })->
  codeAny (model prog w) A (.builtin "min.loop" ⟨[.ref I,.none,.ref S],[("default", d)]⟩) R s
 | 0,j,q,s,h,c,hk,Z,r,N,i,D,K=>by
   have L:j=n:=by omega
   refine codeAny_builtin F.entry_min_loop ?_;rw [Around.under_plainId F.plain_min_loop _];refine qY (m:=seqItems? (.ref S)) (wpAny_seqItems D rfl ?_);refine qY (m:=tryCatch (pyNext (.ref I)) _) (wpAny_tryCatch (W.done s _ _ (L ▸ r) λH J kp=>?_));have g:=kp S _ (λz=>f (W.sub _ z)) D;refine qY (m:=updateSeq S (λ_=>#[])) (wpAny_updateSeq g rfl (qY (wpAny_letGo (qZ ?_))));exact K q h _ J N i λb o u E e=>(Heap.get?_update_other _ _ E.symm).trans (kp b o u e)
 | k+1,j,q,s,h,c,hk,Z,r,N,i,D,K=>by
   have L:j<n:=by omega
   refine codeAny_builtin F.entry_min_loop ?_;rw [Around.under_plainId F.plain_min_loop _];refine qY (m:=seqItems? (.ref S)) (wpAny_seqItems D rfl ?_);refine qY (m:=tryCatch (pyNext (.ref I)) _) (wpAny_tryCatch (W.item j s _ _ L r λv H J X p kp=>?_));have g:=kp S _ (λz=>f (W.sub _ z)) D;refine qY (m:=tryCatch (holding [v,v] (richCompare .Lt v h >>= _)) _) (wpAny_tryCatch (wpAny_holding (qY (a j q v h _ _ _ X i ?_))));refine qY (wpAny_holding (wpAny_truthy_bool (qY (wpAny_letGo (qZ ?_)))));have Y:(toString "min" ++ toString ".loop" : String) = "min.loop" := by decide
   cases G j q with
   | true=>
     simp only [if_true];refine qY (wpAny_updateSeq g rfl (qY (wpAny_letGo ?_)));rw [Y];refine qZ ⟨plainId_quiet F.plain_min_loop _,Kw W G a S f k (j+1) j _ v _ ⋯ ⋯ (W.frame _ _ _ p λb hb o e=>(Heap.get?_update_other _ _ (λz:S=b=>f (by rw [z];exact hb))).trans e) L X (Heap.get?_update_self _ g rfl) λO Q E x y B C=>?_⟩;exact K O Q E x y B λb o u M e=>C b o u M ((Heap.get?_update_other _ _ M.symm).trans (kp b o u e))
   | false=>
     simp only [FO,if_false];refine qY (wpAny_letGo ?_);rw [Y];exact qZ ⟨plainId_quiet F.plain_min_loop _,Kw W G a S f k (j+1) q _ h c ⋯ ⋯ p N i g λO Q E x y B C=>K O Q E x y B λb o u M e=>C b o u M (kp b o u e)⟩
theorem XS (W:Walks prog w A.in1 I fp wr n P St) (B:Nat->Nat->Bool) (f:CmpOf prog w A.in1 .Lt P B) (S:Addr) (a:S∉fp) {s:Shared} {c:Nat} (g:St 0 s.heap)
  (C:s.heap.get? S=some { cls:=.type "list", dict:=none,data:=.seq #[] c,slots:=#[] })
  (D:∀ v h k,(n=0/\v=d\/∃ q,q<n/\P q v)->(∀ b o,b∉wr->b≠S->s.heap.get? b=some o->h.get? b=some o)->R (.ok (.ret v)) { s with heap:=h,toks:=k }) :
  codeAny (model prog w) A (.builtin "min.loop" ⟨[.ref I,.none,.ref S],[("default", d)]⟩) R s:=by
 refine codeAny_builtin F.entry_min_loop ?_;rw [Around.under_plainId F.plain_min_loop _];refine qY (m:=seqItems? (.ref S)) (wpAny_seqItems C rfl ?_);rcases D6 n with z | z
 ·refine qY (m:=tryCatch (pyNext (.ref I)) _) (wpAny_tryCatch (W.done s _ _ (z ▸ g) λh k kp=>?_));refine qY (wpAny_rule (qZ ?_));exact D d h k (.inl ⟨z,rfl⟩) λb o p _ e=>kp b o p e
 ·refine qY (m:=tryCatch (pyNext (.ref I)) _) (wpAny_tryCatch (W.item 0 s _ _ z g λv h k J i kp=>?_));have j:=kp S _ (λz=>a (W.sub _ z)) C;have K:(toString "min" ++ toString ".loop" : String) = "min.loop" := by decide
  refine qY (m:=updateSeq S (λ_=>#[v,v])) (wpAny_updateSeq j rfl ?_);rw [K];refine qZ ⟨plainId_quiet F.plain_min_loop _,Kw W B f S a _ 1 0 _ v _ rfl z (W.frame _ _ _ i λb L o e=>(Heap.get?_update_other _ _ (λz:S=b=>a (by rw [z];exact L))).trans e) z J (Heap.get?_update_self _ j rfl) λM N O r u x y=>?_⟩;exact D N O r (.inr ⟨M,u,x⟩) λb o p H e=>y b o p H ((Heap.get?_update_other _ _ H.symm).trans (kp b o p e))
end
theorem XT (a v:Value):argsOk "min" ⟨[a],[("default", v)]⟩:=by unfold argsOk;kernel_rfl
section
variable {X:Cx} {e:Expr} {te:TE} {p pos kp1 kp2:Pos} {kk:Nat}
theorem XU (S:X.calm=true) (T:X.mg "min" = none) (U:bootBuiltins "min" = some (.builtin "min")) (Y:PE X e te) (Z:Gl X "min" := by rfl)
  (hs:starEach [e] X.env=(false,eval e X.env)::starEach [] X.env:=by rfl) (k:backTo pos (starEach [e] X.env)=(false,eval e X.env)::backTo pos (starEach [] X.env):=by rfl):PE X (.Call (.Name "min" p) [e] [⟨some "default", .Constant (.int 0) kk kp1,kp2⟩] pos) (Ku te):=by
 intro f s L H Q I h;refine wpAny_Call_Name_kw (EC I Z T U ?_ ∅ ∅);refine PyProof.Rows.callWith_kw ?_ k (by rw [k];rfl);rw [k];refine Calls.spliced_cons (H_ (Y f s L H _ I h) λu s1 ⟨x,M,I1,r1,q1⟩=>Calls.spliced_nil ?_);have kw:PK X [⟨some "default", .Constant (.int 0) kk kp1,kp2⟩] (AB (tC (.int 0)) AC):=Uq AF Up;refine H_ (kw pos f s1 L M (λvs N=>vs=[.int 0]/\N=M) I1 ⟨rfl,rfl⟩) λws c ⟨zs,N,r,rz,ez,eh⟩=>?_;subst ez eh;obtain ⟨z,rfl,t,rfl⟩:=E4 rz;obtain ⟨l,O,rfl,hl,q⟩:=q1;cases r1;obtain ⟨d,y,B,hz⟩:=r.list (SqL.of hl);have a0:O.length=d.length:=by have:=y.length;simpa using this
 have nm:(toString "min" ++ toString ".loop" : String) = "min.loop" := by decide
 refine kmb_tree F.kind_min F.plain_min F.entry_min (XT _ _) ?_;refine qY (m:=Builtin.Builtins.bindParams "min" ["key", "default"] 0 ⟨[],[("default", Value.int 0 t)]⟩) (wpAny_of_eq (a:=[none,some (Value.int 0 t)]) rfl ?_);refine qY (qZ (qY (wpAny_pyIter_list B.isList ?_)));refine qY (wpAny_newObj_type ?_);rw [nm];have C:l<c.heap.objs.size:=B.lt;have P:(c.heap.push { cls:=.type "list_iterator", data:=.fields #[.ref l,.int 0 0] }).objs.size=c.heap.objs.size+1:=Heap.size_push ..;have W:=Walks.list (prog:=X.prog) (w:=X.w) (A:=X.A.in1) (show X.A.in1.handled=none from r.ok.hd S) c.heap.objs.size l (A6 C) d.toArray;refine qZ ⟨plainId_quiet F.plain_min_loop _,XS W _ (CmpOf.ints_lt (λi=>O.getD i 0) λi v D=>?_) _ ?_ ⟨⟨_,Heap.get?_push_of_some _ (Heap.get?_push_size _ rfl),rfl,rfl⟩,(B.isList.push _).push _⟩ (Heap.get?_push_size _ rfl) λv g tk E gk=>?_⟩
 ·obtain ⟨n,G,J,rfl⟩:=Ja y (show d[i]?=some v by simpa using D);exact ⟨G,by rw [AT,J];rfl⟩
 ·rw [P]
  have:¬ (c.heap.objs.size+1=c.heap.objs.size\/c.heap.objs.size+1=l):=λz=>by
   rcases z with z | z
   ·exact absurd z (Nat.succ_ne_self _)
   ·rw [<-z] at C;exact absurd C (Nat.not_lt.mpr (Nat.le_succ _))
  simpa using this
 ·have K:∀ b o,c.heap.get? b=some o->g.get? b=some o:=λb o e=>by
   have j:b<c.heap.objs.size:=pH e;refine gk b o (λz=>?_) (λz=>?_) (Heap.get?_push_of_some _ (Heap.get?_push_of_some _ e))
   ·rw [Ap.mp z] at j;exact absurd j (DB _)
   ·rw [z,P] at j;exact absurd j (Nat.not_lt.mpr (Nat.le_succ _))
  have R:=r.kept (t':=tk) K;rcases E with ⟨z,rfl⟩ | ⟨i,hi,D⟩
  ·exact ⟨.int 0,_,R,⟨t,rfl⟩,q 0 (.inl ⟨CI.mp (by rw [BE] at z;omega),rfl⟩)⟩
  ·obtain ⟨n,G,J,rfl⟩:=Ja y (show d[i]?=some v by simpa using D);exact ⟨.int n,_,R,⟨G,rfl⟩,q n (.inr (Ay J))⟩
end
end Bs
namespace Bs
open PySem L2
def sS (K:W.Frag):V->Option Int->Option Int->Hp->VK->Prop:=λx c d H Q=>∃ a b,x=.ref a/\SqL K H a b/\∀ p,H p=none->Q (.ref p) (upd H p (.lst (CQ b c d)))
end Bs
namespace Bs
open PySem PySem.Spec PyProof.Rows L2
section
variable {X:Cx}
theorem XV:OpR X (inplaceOp .FloorDiv) EI:=by
 intro a s g H x y v u Q I b c ⟨i,j,d,e,f,q⟩;subst d e;obtain ⟨t,rfl⟩:=b;obtain ⟨h,rfl⟩:=c;exact ifloordiv_int f ⟨.int (i.fdiv j),H,I.tok _,⟨_,rfl⟩,q⟩ (Or.inr (I.ok.plr s I.bk))
theorem XW:OpR X (inplaceOp .FloorDiv) Fe:=by
 intro a s c H x y v u Q I d e ⟨i,j,f,g,h,q⟩;have b:0<j:=h;replace q:Q (.int (i / j)) H:=q;rw [<-Do i (DQ b)] at q;exact XV a s c H x y v u Q I d e ⟨i,j,f,g,AW b,q⟩
theorem OB:cf X (sS X.K):=NW
end
end Bs
namespace Bs
open PySem L2
def XX (n:Nat) (t:aK):TG:=λv c H Q=>∃ a b,v=.ref a/\H a=some (.lst b)/\b.length=n/\t b c H Q
end Bs
namespace Bs
open PySem PySem.Spec PyProof.Rows L2
theorem XY {m n:Nat} {a b:Int} (c:Bd m a) (d:Bd n b) (h:m+n<=134217728):IntMulOk a b:=IntMulOk.of_le (Nj c) (Nj d) h
end Bs
namespace Bs
open PySem L2
def XZ (i j k:Nat) (b:TA):TS:=λD a H=>b a H λc d=>∃ u v w,c=[u,v,w]/\D.nx (((a.set i (some u)).set j (some v)).set k (some w)) d
def inD (neg:Bool):R2:=λx y H Q=>∃ (p:Addr) (c:cM) (d:W.Dat) (a:List W.Dat) (b:Bool),y=.ref p/\H p=some (.lst c)/\RepD H x d/\RepA H c a/\W.kqdOk 8 d=true/\(∀ e∈a,W.kqdOk 8 e=true)/\(b=true↔d∈a)/\Q (.bl (if neg=true then !b else b)) H
end Bs
namespace Bs
open PySem PySem.Spec PyProof.Rows L2
theorem Xa {d:W.Dat} {a:List W.Dat} {b:Bool} (c:W.kqdOk 8 d=true) (f:∀ e∈a,W.kqdOk 8 e=true) (g:b=true↔d∈a):((W.kqdPs a).any λy=>PyData.eqv y (W.kqdP d))=b:=by
 rw [Es,g];exact W.kqd_any a d f c
theorem Xb {X:Cx} (G:X.A.units+64<cLine):OpR X (compareOp .NotIn) (inD true):=by
 intro a s J H x y v u Q I g i h;obtain ⟨p,K,d,j,b,e,hp,k,m,c,f,r,q⟩:=h;subst e;obtain ⟨as,w⟩:=HF I k g;cases i;obtain ⟨z,A,B,_⟩:=I.list (SqL.of hp);obtain ⟨L,C⟩:=JT I m A;obtain ⟨o,n,D,E,_,F⟩:=B;have l:=W.kqd_layL f;have ld:=W.kqd_lay 8 d c;have l2:=ld.2;refine SeqAt.notIn_list_reads (reads_list_at D E F (by simpa using C)) w l.1 ld.1 ?_ (by rw [Xa c f r];exact ⟨.bl (!b),H,I,rfl,q⟩);have:=Nat.min_le_right (PyData.depthAll (W.kqdPs j)) (W.kqdP d).depth;omega
end Bs
namespace Bs
open PySem L2
noncomputable def Dx (kvs:List (E_×V)) (k:E_):cN:=(kvs.find? λa=>a.1=k).map (·.2)
noncomputable def Df (kvs:List (E_×V)) (k:E_) (v:V):List (E_×V):=
 if kvs.any (λa=>a.1=k) then kvs.map (λa=>if a.1=k then (a.1,v) else a) else kvs++[(k,v)]
def gD:R2:=λx y H Q=>∃ p k a v,x=.ref p/\y=.str k/\H p=some (.dK a)/\Dx a (.inr k)=some v/\Q v H
def Kx:V->V->V->Hp->(Hp->Prop)->Prop:=λo i v H Q=>∃ p k a,o=.ref p/\i=.str k/\H p=some (.dK a)/\a.length<sizeLine/\Q (upd H p (.dK (Df a (.inr k) v)))
noncomputable def IF (ks:cW) (xs:cM):List (E_×V):=(ks.zip xs).map λp=>(.inr p.1,p.2)
def OC (ks:cW) (t:TA):TE:=λc H Q=>∀ p,H p=none->t c (upd H p (.dK [])) λa b=>b p=some (.dK [])/\a.length=ks.length/\Q (.ref p) (upd b p (.dK (IF ks a)))
end Bs
namespace Bs
open PySem PySem.Spec PySem.Calls PyProof.Rows L2
theorem OD {k:E_} {v:V}:∀ {kvs:List (E_×V)} {vs:List (E_×Value)},KV kvs vs->Dx kvs k=some v->∃ u,valueAt vs k=some u/\RelV v u
 | _,_,.nil,h=>by cases h
 | _,_,.cons (a:=⟨d,f⟩) (b:=⟨i,g⟩) ⟨e,r⟩ t,h=>by
   have j:d=i:=e;subst j;unfold Dx at h;unfold valueAt;rw [List.find?_cons] at h ⊢;by_cases c:d=k
   ·rw [qV (show (d,f).1=k from c)] at h;rw [qV (show (d,g).1=k from c)];have m:some f=some v:=h;rw [<-pE m];exact ⟨g,rfl,r⟩
   ·rw [qX (show ¬ (d,f).1=k from c)] at h;rw [qX (show ¬ (d,g).1=k from c)];exact OD t h
theorem OF {k:E_}:∀ {kvs:List (E_×V)} {vs:List (E_×Value)},KV kvs vs->kvs.any (λc=>c.1=k)=vs.any (λc=>c.1=k)
 | _,_,.nil=>rfl
 | _,_,.cons (a:=⟨d,h⟩) (b:=⟨f,i⟩) ⟨e,r⟩ t=>by
   have g:d=f:=e;subst g;rw [List.any_cons,List.any_cons,OF t]
theorem OG {k:E_} {v:V} {u:Value} (g:RelV v u):∀ {kvs:List (E_×V)} {vs:List (E_×Value)},KV kvs vs->KV (kvs.map (λd=>if d.1=k then (d.1,v) else d)) (vs.map (λd=>if d.1=k then (d.1,u) else d))
 | _,_,.nil=>.nil
 | _,_,.cons (a:=⟨f,h⟩) (b:=⟨j,i⟩) ⟨e,r⟩ t=>by
   have m:f=j:=e;subst m;rw [CD,CD];refine .cons ?_ (OG g t);by_cases c:f=k
   ·rw [qU (show (f,h).1=k from c),qU (show (f,i).1=k from c)];exact ⟨rfl,g⟩
   ·rw [qT (show ¬ (f,h).1=k from c),qT (show ¬ (f,i).1=k from c)];exact ⟨rfl,r⟩
theorem OH {k:E_} {v:V} {u:Value} (a:RelV v u):∀ {kvs:List (E_×V)} {vs:List (E_×Value)},KV kvs vs->KV (kvs++[(k,v)]) (vs++[(k,u)])
 | _,_,.nil=>.cons ⟨rfl,a⟩ .nil
 | _,_,.cons p t=>.cons p (OH a t)
theorem Xc {k:E_} {v:V} {u:Value} {kvs:List (E_×V)} {vs:List (E_×Value)} (h:KV kvs vs) (a:RelV v u):KV (Df kvs k v) (stored vs k u):=by
 unfold Df stored;rw [OF h];by_cases c:vs.any (λb=>b.1=k)=true
 ·rw [qU c,qU c];exact OG a h
 ·rw [qT c,qT c];exact OH a h
theorem Xd {k:E_} {v:V} {kvs:List (E_×V)}:(Df kvs k v).length<=kvs.length+1:=by
 unfold Df;split
 ·rw [AG];omega
 ·rw [Bw];exact AO _
section
variable {X:Cx}
theorem Inv.dK {a:cS} {c:L2.St} {H:Hp} {s:Shared} {p:Addr} {kvs:List (E_×V)} (I:Inv X a c H s) (h:H p=some (.dK kvs)) :
  kvs.length<=sizeLine/\(p == sysModules)=false/\∃ b,KV kvs b/\s.heap.DictOf (Db X.prog X.w) p b:=I.hok p _ h
theorem Dy:aV X gD:=by
 intro b c a s e H x y v u Q I g i h j;obtain ⟨p,k,n,z,rfl,rfl,hp,o,q⟩:=h;cases g;obtain ⟨t,rfl⟩:=i;obtain ⟨C,D,E,r,m⟩:=Inv.dK I hp;obtain ⟨w,A,rw'⟩:=OD r o;have d:EP X a e Q w { s with toks:=s.toks+1 }:=⟨z,H,I.tok _,rw',q⟩
 exact subscriptTail_builtinR (x:=w) m.typeIs slot_dict_getitem.lookup
  (wpAny_getItem_of (Q:=λr B=>r=w/\EP X a e Q r B) (JA X.prog X.w k t) m.mapOf A ⟨rfl,d⟩) j
theorem OI:aD X Kx:=by
 intro c s B H o i v C D u Q I f g j h;obtain ⟨p,k,a,rfl,rfl,hp,n,q⟩:=h;cases f;obtain ⟨t,rfl⟩:=g;obtain ⟨E,w,y,r,m⟩:=Inv.dK I hp;have F:a.length=y.length:=Paired.length r;refine wpAny_setItem_pairs (hsz:=by omega) (JA X.prog X.w k t) m λG d z=>⟨_,I.write (x:=p) (e:=p) (o:=.dK (Df a (.inr k) v)) (by rw [hp];trivial) (.inl rfl) (λb u A e=>(z.2 b A).trans e) ?_ ?_,q⟩
 ·obtain ⟨o,_,_,e,_⟩:=d;exact ⟨o,e⟩
 ·exact ⟨by have:=Xd (k:=.inr k) (v:=v) (kvs:=a);omega,w,_,Xc r j,d⟩
end
noncomputable def b8:cW->cM->List (Value×Value)->Prop
 | [],[],[]=>True
 | k::a,x::b,(c,v)::d=>(∃ t,c=.str k t)/\RelV x v/\b8 a b d
 | _,_,_=>False
def PD (X:Cx) (pos:Pos) (d:List (Option Expr)) (b:cV) (ks:cW) (t:TA):Prop:=
 ∃ a:List (Sem Value×Sem Value),((evalEachOpt d X.env).zip ((evalEach b X.env).map λv=>do let x <-v;standAt pos;pure x)=a.map λp=>(some p.1,p.2))/\a.length=ks.length/\
   ∀ (c:cS) (s:Shared) (e:L2.St) (H:Hp) (Q:cM->Hp->Prop),Inv X c e H s->t e H Q->wpAny (model X.prog X.w) X.A (evalPairs a) (λh i=>∃ f g,Inv X c e g i/\b8 ks f h/\Q f g) X.xe s
theorem Xe (X:Cx) {ks:cW} {xs:cM} {vs:List (Value×Value)} (h:b8 ks xs vs):∃ a:List (E_×Value),Carries (Db X.prog X.w) vs a/\KV (IF ks xs) a/\a.map (·.1)=ks.map .inr:=by
 induction ks generalizing xs vs with
 | nil=>cases xs with
   | nil=>cases vs with
     | nil=>exact ⟨[],trivial,.nil,rfl⟩
     | cons=>exact h.elim
   | cons=>exact h.elim
 | cons k ks b=>cases xs with
   | nil=>exact h.elim
   | cons x xs=>cases vs with
     | nil=>exact h.elim
     | cons p vs=>
       obtain ⟨⟨t,e⟩,r,d⟩:=h;obtain ⟨a,c,f,g⟩:=b d;exact ⟨(.inr k,p.2)::a,⟨e ▸ JA X.prog X.w k t,rfl,c⟩,.cons ⟨rfl,r⟩ f,by rw [CD,CD,g]⟩
theorem OJ:∀ {ks:cW},ks.Nodup->(ks.map (Sum.inr:Str->E_)).Nodup
 | [],_=>.nil
 | k::ks,h=>by
   rw [CD,Cm];rw [Cm] at h;refine ⟨λm=>?_,OJ h.2⟩;obtain ⟨a,hk,e⟩:=AU.mp m;exact h.1 (Sum.inr.inj e ▸ hk)
section
variable {X:Cx} {pos:Pos}
theorem Xf:PD X pos [] [] [] AC:=⟨[],rfl,rfl,λ_ _ _ H _ I h=>evalPairs_nil ⟨[],H,I,trivial,h⟩⟩
theorem Jb {c:List (Option Expr)} {a:cV} {ks:cW} {t:TA} {e:Expr} {i:TE} {k:Str} {j p} (n:PE X e i) (h:PD X pos c a ks t):PD X pos (some (.Constant (.str k) j p)::c) (e::a) (k::ks) (AB i t):=by
 obtain ⟨f,o,q,hp⟩:=h;refine ⟨(eval (.Constant (.str k) j p) X.env,do let x <-eval e X.env;standAt pos;pure x)::f,?_,by rw [CO,CO,q],λb s g H Q I r=>?_⟩
 ·rw [CD,<-o];rfl
 ·refine evalPairs_cons ?_;refine H_ (DC (X:=X) (x:=k) (j:=j) (pos:=p) b s g H (λx m=>x=.str k/\AB i t g m Q) I ⟨rfl,r⟩) λu s1 ⟨x,m,w,z,A,B⟩=>?_;subst A;refine qY (H_ (n b s1 g m _ w B) λv C ⟨y,D,E,F,G⟩=>qY (wpAny_standAt (qZ ?_)));exact H_ (hp b C g D _ E G) λN O ⟨J,K,L,d,M⟩=>⟨y::J,K,L,⟨z,F,d⟩,M⟩
theorem Xg {d:List (Option Expr)} {a:cV} {ks:cW} {t:TA} (h:PD X pos d a ks t) (A:ks≠[]) (B:ks.length<=15) (C:ks.Nodup):PE X (.Dict d a pos) (OC ks t):=by
 obtain ⟨j,D,E,hp⟩:=h;intro f s n H Q I G;have J:H s.heap.objs.size=none:=I.hok.fresh (AO _);obtain ⟨m,F⟩:=I.fr;have p:(s.heap.objs.size == sysModules)=false:=F.notModules (modules_low I.ok.mod.nolimit)
 have K:Inv X f n (upd H s.heap.objs.size (.dK [])) { s with heap:=s.heap.push { cls:=.type "dict", data:=.dict #[] } }:=
  I.laid (t':=s.toks) (λb u e=>Heap.get?_push_of_some _ e) (AO _) ⟨Ae _,p,[],.nil,Heap.DictOf.new _⟩
 refine wpAny_Dict_pairs (knd:=Db X.prog X.w) D (λz=>A (CI.mp (by rw [<-E,z];rfl))) ⋯ (H_ (hp f _ n _ _ K (G _ J)) λW s1 ⟨w,M,y,N,i,Y,q⟩=>?_);obtain ⟨g,c,O,e⟩:=Xe X N;obtain ⟨_,_,P,R,S⟩:=Inv.dK y i;cases R;refine ⟨g,c,S,λZ k T=>?_⟩;rw [merged_nil_of_nodup g (by rw [e];exact OJ C)] at k;refine ⟨.ref s.heap.objs.size,upd M s.heap.objs.size (.dK (IF ks w)),y.write (x:=s.heap.objs.size) (e:=s.heap.objs.size) (by rw [i];trivial) (.inl rfl) (λb u U e=>(T.2 b U).trans e) ?_ ?_,rfl,q⟩
 ·obtain ⟨o,_,_,e,_⟩:=k;exact ⟨o,e⟩
 ·have hk:(IF ks w).length<=ks.length:=by unfold IF;rw [AG,List.length_zip];omega
  exact ⟨by rw [sizeLine_eq];omega,p,g,O,k⟩
end
end Bs
namespace Bs
open PySem L2
def OK:cM->Hp->VK->Prop:=λa H Q=>∃ i j,a=[.int i,.int j]/\j≠0/\∀ p,H p=none->Q (.ref p) (upd H p (.tup [.int (i.fdiv j),.int (i.fmod j)]))
def Ky:V->cM->Hp->VK->Prop:=λx b H Q=>∃ l a y k,x=.ref l/\b=[.int (k:Nat),y]/\H l=some (.lst a)/\k<=a.length/\a.length<sizeLine/\Q .non (upd H l (.lst (a.take k++y::a.drop k)))
def OM:V->cM->Hp->VK->Prop:=λx b H Q=>∃ l y a,x=.ref l/\b=[.int 0]/\H l=some (.lst (y::a))/\Q y (upd H l (.lst a))
end Bs
namespace Bs
open PySem PySem.Spec PySem.Calls PyProof.Rows L2
section
variable {X:Cx}
theorem Xh:Ch X (.builtin "divmod") OK:=by
 intro a s g H k m Q I r h;obtain ⟨i,j,rfl,c,q⟩:=h;obtain ⟨u,n,rfl,⟨t,rfl⟩,⟨d,rfl⟩⟩:=vals2 r;have f:H s.heap.objs.size=none:=I.hok.fresh (AO _);refine divmod_int c ?_ (.inr (I.ok.plr s I.bk));refine ⟨.ref s.heap.objs.size,upd H s.heap.objs.size (.tup [.int (i.fdiv j),.int (i.fmod j)]),I.laid (t':=s.toks+1+1) (λb u e=>Heap.get?_push_of_some _ e) (AO _) ?_,rfl,q _ f⟩;exact ⟨by show 2<=sizeLine;rw [sizeLine_eq];decide,[.int (i.fdiv j) s.toks,.int (i.fmod j) (s.toks+1)],.cons ⟨_,rfl⟩ (.cons ⟨_,rfl⟩ .nil),⟨_,Heap.get?_push_size _ rfl,rfl,_,rfl⟩⟩
theorem Xi:bH X "list.insert" Ky:=by
 intro f s B H x C v D Q I j m h;obtain ⟨l,E,y,k,rfl,rfl,g,hk,G,q⟩:=h;cases j;obtain ⟨u,c,rfl,⟨t,rfl⟩,o⟩:=m.two;obtain ⟨z,a,n,r,p,e⟩:=I.lstM g;have d:(k:Int)<2 ^ 63:=by have:=sizeLine_eq;omega
 have b:¬ (!Builtin.List.listFitsIndex (k:Int))=true:=by rw [fitsIndex_both ⋯ d];decide
 have w:a.toArray.size<=sizeLine:=by rw [BE,<-p];exact z
 generalize A:(k:Int)=i at b;have M:=PySem.AutoSeq1.list_insert_list_int_val_1 l a.toArray n i t c b w;refine call_meets F.slot_list_insert ⟨_,e,rfl⟩ F.entry_list_insert (F.args_list_insert_3 _ _ _) M ⟨e,?_⟩;subst A;refine ⟨.non,_,I.lset (its':=a.take k++c::a.drop k) g e ?_ ((r.take k).append (.cons o (r.drop k))) ?_,rfl,q⟩
 ·show ((a.toArray.extract 0 (if (k:Int)<0 then ((k:Int)+(a.toArray.size:Int)).toNat else min (k:Int).toNat a.toArray.size)).push c++a.toArray.extract (if (k:Int)<0 then ((k:Int)+(a.toArray.size:Int)).toNat else min (k:Int).toNat a.toArray.size))=_;rw [qT ⋯,show min (k:Int).toNat a.toArray.size=k by rw [BE];omega];apply Array.ext';simp;rw [List.take_of_length_le (by rw [List.length_drop];exact AO _)]
 ·simp;omega
end
end Bs
namespace Bs
open PySem PySem.Spec PyProof.Rows L2
theorem Xj:bootBuiltins "divmod" = some (.builtin "divmod"):=by decide +kernel
theorem Xk {X:Cx}:bH X "list.pop" OM:=by
 intro a s b H x i v c Q I d e h;obtain ⟨l,y,f,rfl,rfl,g,q⟩:=h;exact VA a s b H _ _ v c Q I d e ⟨l,y::f,0,0,y,rfl,rfl,g,∅,∅,by simp [seqIndex?],rfl,q⟩
section
variable {X:Cx}
theorem Xl:bootBuiltins "sorted" = some (.builtin "sorted"):=by decide +kernel
end
end Bs
namespace Bs
open PySem L2
noncomputable def EJ (kvs:List (List E_×V)) (k:List E_) (v:V):List (List E_×V):=
 if kvs.any (λa=>a.1=k) then kvs.map (λa=>if a.1=k then (a.1,v) else a) else kvs++[(k,v)]
def ON:TE:=λ_ H Q=>∀ p,H p=none->Q (.ref p) (upd H p (.dT []))
def Jc:V->V->V->Hp->(Hp->Prop)->Prop:=λo i v H Q=>∃ p b c a,o=.ref p/\i=.ref b/\H b=some (.tup (List.map kV c))/\H p=some (.dT a)/\a.length<sizeLine/\Q (upd H p (.dT (EJ a c v)))
def Kz:cM->Hp->VK->Prop:=λd H Q=>∃ p b,d=[.ref p]/\H p=some (.dT b)/\∀ as:c_,as.length=b.length->(∀ (i:Nat) (a:Addr) (c:List E_×V),as[i]?=some a->b[i]?=some c->H a=some (.tup (c.1.map kV)))->∀ r,H r=none->Q (.ref r) (upd H r (.lst (as.map V.ref)))
end Bs
namespace Bs
open PySem PySem.Spec PySem.Calls PyProof.Rows L2
theorem Xm {P:Program} {w:World} {k:E_} {u:Value} (r:RelV (kV k) u):(Db P w).is k u=true:=by
 rcases k with i | x
 ·obtain ⟨t,rfl⟩:=r;exact UE P w i t
 ·obtain ⟨t,rfl⟩:=r;exact JA P w x t
theorem OO {P:Program} {w:World}:∀ (ks:List E_) {a:cP},Vals (ks.map kV) a->ItemsAre (Db P w) ks a
 | [],_,.nil=>.nil
 | _::ks,_,.cons h t=>.cons (Xm h) (OO ks t)
abbrev TKv (H:Hp):List (List E_×V)->List (List E_×Addr×Value)->Prop:=Paired λp q=>p.1=q.1/\H q.2.1=some (.tup (p.1.map kV))/\RelV p.2 q.2.2
theorem TKv.any {H:Hp} {k:List E_}:∀ {kvs:List (List E_×V)} {xs:List (List E_×Addr×Value)},TKv H kvs xs->kvs.any (λd=>d.1=k)=(atKey xs k).isSome
 | _,_,.nil=>rfl
 | _,_,.cons (a:=p) (b:=q) h t=>by
   rw [List.any_cons,TKv.any t];unfold atKey;rw [List.find?_cons,<-h.1];by_cases c:p.1=k
   ·rw [qV c];rfl
   ·rw [qX c];rfl
theorem TKv.map {H:Hp} {k:List E_} {v:V} {u:Value} (e:RelV v u):∀ {kvs:List (List E_×V)} {xs:List (List E_×Addr×Value)},TKv H kvs xs->TKv H (kvs.map λd=>if d.1=k then (d.1,v) else d) (xs.map (putAt k u))
 | _,_,.nil=>.nil
 | _,_,.cons (a:=p) (b:=q) h t=>by
   rw [CD,CD];refine .cons ?_ (TKv.map e t);unfold putAt;by_cases c:p.1=k
   ·rw [qU c,qU (h.1 ▸ c)];exact ⟨h.1,h.2.1,e⟩
   ·rw [qT c,qT (h.1 ▸ c)];exact h
theorem TKv.snoc {H:Hp} {p:List E_×V} {q:List E_×Addr×Value} (h:p.1=q.1/\H q.2.1=some (.tup (p.1.map kV))/\RelV p.2 q.2.2):∀ {kvs:List (List E_×V)} {xs:List (List E_×Addr×Value)},TKv H kvs xs->TKv H (kvs++[p]) (xs++[q])
 | _,_,.nil=>.cons h .nil
 | _,_,.cons a t=>.cons a (TKv.snoc h t)
theorem TKv.put {H:Hp} {k:List E_} {b:Addr} {v:V} {u:Value} {kvs:List (List E_×V)} {xs:List (List E_×Addr×Value)} (h:TKv H kvs xs) (c:H b=some (.tup (k.map kV))) (a:RelV v u):TKv H (EJ kvs k v) (storedH xs k b u):=by
 unfold EJ storedH;rw [TKv.any h];split
 ·exact TKv.map a h
 ·exact TKv.snoc ⟨rfl,c,a⟩ h
theorem Xn {k:List E_} {v:V} {kvs:List (List E_×V)}:(EJ kvs k v).length<=kvs.length+1:=by
 unfold EJ;split
 ·rw [AG];omega
 ·rw [Bw];exact AO _
theorem TKv.mem {H:Hp}:∀ {kvs:List (List E_×V)} {xs:List (List E_×Addr×Value)},TKv H kvs xs->∀ x∈xs,H x.2.1=some (.tup (x.1.map kV))
 | _,_,.nil,x,c=>nomatch c
 | _,_,.cons (a:=p) (b:=q) h t,x,c=>by
   rcases A7.mp c with e | e
   ·rw [e,<-h.1];exact h.2.1
   ·exact TKv.mem t x e
theorem TKv.get {H:Hp}:∀ {kvs:List (List E_×V)} {xs:List (List E_×Addr×Value)} {i:Nat} {x:List E_×Addr×Value} {a:List E_×V},TKv H kvs xs->xs[i]?=some x->kvs[i]?=some a->H x.2.1=some (.tup (a.1.map kV))
 | _,_,i,x,a,.nil,b,_=>by cases b
 | _,_,0,x,a,.cons h t,b,hk=>by cases b;cases hk;exact h.2.1
 | _,_,i+1,x,a,.cons h t,b,hk=>TKv.get t b hk
section
variable {X:Cx}
theorem Jd {a:cS} {d:L2.St} {H:Hp} {s:Shared} {b:Addr} {ks:List E_} (I:Inv X a d H s) (h:H b=some (.tup (ks.map kV))):(tupleKind (Db X.prog X.w)).is s.heap ks b:=by
 obtain ⟨_,c,r,o,e,f,n,g⟩:=(show ObjOk X.prog X.w H s.heap b (.tup (ks.map kV)) from I.hok b _ h);exact ⟨o,c.toArray,n,e,f,g,by rw [List.toList_toArray];exact OO ks r⟩
theorem Je {a:cS} {c:L2.St} {H:Hp} {s:Shared} {p:Addr} {kvs:List (List E_×V)} (I:Inv X a c H s) (h:H p=some (.dT kvs)) :
  kvs.length<=sizeLine/\(p == sysModules)=false/\∃ b,TKv H kvs b/\s.heap.DictOfH (tupleKind (Db X.prog X.w)) p b:=by
 obtain ⟨z,y,b,r,o,d,e,f,g,i,j,k⟩:=(show ObjOk X.prog X.w H s.heap p (.dT kvs) from I.hok p _ h);exact ⟨z,y,b,r,o,d,e,f,g,i,j,λx m=>Jd I (TKv.mem r x m),k⟩
theorem Xo (O:X.A.units+64<cLine):aD X Jc:=by
 intro d s P H o i v R S u Q I j n A h;obtain ⟨p,b,f,a,rfl,rfl,c,hp,B,q⟩:=h;cases j;cases n;obtain ⟨T,C,D,r,m⟩:=Je I hp;have U:a.length=D.length:=Paired.length r;refine wpAny_setItem_heap (hsz:=by omega) (tupleKind_room_in1 ⋯) (Jd I c) m λW g E=>⟨_,I.write (x:=p) (e:=p) (o:=.dT (EJ a f v)) (by rw [hp];trivial) (.inl rfl) (λb u c e=>(E.2 b c).trans e) ?_ ?_,q⟩
 ·obtain ⟨o,_,_,e,_⟩:=g;exact ⟨o,e⟩
 ·obtain ⟨o,F,G,J,K,L,M,_,N⟩:=g;refine ⟨by have:=Xn (k:=f) (v:=v) (kvs:=a);omega,C,_,Paired.mapP (TKv.put r c A) λx y z=>⟨z.1,?_,z.2.2⟩,o,F,G,J,K,L,M,N⟩;rw [Ad (FS z.2.1 hp λw=>nomatch w)];exact z.2.1
theorem Xp {pos:Pos}:PE X (.Dict [] [] pos) ON:=by
 intro a s f H Q I h;have c:H s.heap.objs.size=none:=I.hok.fresh (AO _);obtain ⟨m,F⟩:=I.fr;have d:(s.heap.objs.size == sysModules)=false:=F.notModules (modules_low I.ok.mod.nolimit);exact wpAny_Dict_empty ⟨.ref s.heap.objs.size,_,I.laid (o:=.dT []) (t':=s.toks) (λb u e=>Heap.get?_push_of_some _ e) (AO _) ⟨Ae _,d,[],.nil,_,#[],0,Heap.get?_push_size _ rfl,⟨rfl,rfl,rfl⟩,rfl,rfl,List.nodup_nil⟩,rfl,h _ c⟩
def RawD (h:Heap) (d:Addr) (es:Array DictEntry) (ep:Nat):Prop:=∃ o,h.get? d=some o/\o.ExactDict/\o.data=.dict es ep
theorem RawD.ty {s:Shared} {d:Addr} {es:Array DictEntry} {ep:Nat} (m:RawD s.heap d es ep):s.TypeIs (.ref d) "dict" := let ⟨o,e,c,_⟩:=m;⟨o,e,c.1⟩
theorem RawD.by {h h':Heap} {d:Addr} {es:Array DictEntry} {ep:Nat} (m:RawD h d es ep) (k:∀ o,h.get? d=some o->h'.get? d=some o):RawD h' d es ep:=let ⟨o,e,r⟩:=m;⟨o,k o e,r⟩
section
variable {prog:Program} {w:World} {A:Around} {E:cQ} {s:Shared} {d it:Addr} {es:Array DictEntry} {ep i:Nat}
theorem Xq {Q:cQ} (e:(d == sysModules)=false) (m:RawD s.heap d es ep) (q:Q (.ref s.heap.objs.size) { s with heap:=s.heap.push ⟨.type "dict_keyiterator", none,.fields #[.ref d,.int 0 0,.int es.size 0,.int ep 0],#[]⟩ }) :
  wpAny (model prog w) A (pyIter (.ref d)) Q E s:=by
 obtain ⟨o,b,f,c⟩:=id m;refine wpAny_pyIter_slot m.ty PySem.F.slot_dict_iter (wpAny_call_entry PySem.F.slot_dict_iter m.ty PySem.F.entry_dict_iter ?_ (PySem.F.args_dict_iter_1 _));unfold Builtin.«dict.__iter__» Builtin.Dict.dictSlotNone;refine qY (qY (wpAny_notOrdered_dict m.ty (qZ ?_)));show wpAny _ _ (Builtin.Dict.showsAll d >>= _) _ _ _;unfold Builtin.Dict.showsAll;rw [qT (show ¬ (d == sysModules)=true by rw [e];decide)];exact qY (qZ (qY (wpAny_dictEntries b c (qY (wpAny_dictEpoch b c (qY (wpAny_newObj_type (qZ ⟨_,rfl, "dict_keyiterator", _,⟨_,Heap.get?_push_size _ rfl,rfl⟩,PySem.F.slot_dict_keyiterator_next.lookup,q⟩))))))))
theorem Xr {Q:cZ->Shared->Prop} {x:DictEntry} (t:s.heap.IsKeyIter it d i es.size ep) (m:RawD s.heap d es ep) (k:es[i]?=some x)
  (q:∀ c,c.IsKeyIter it d (i+1) es.size ep->Heap.SameBut it s.heap c->Q (some x.key) { s with heap:=c }):wpAny (model prog w) A (pyNext (.ref it)) Q E s:=by
 obtain ⟨o,e,n,b⟩:=id t;obtain ⟨p,g,r,h⟩:=id m;unfold pyNext;refine qY (wpAny_attempt (wpAny_callSpecial?_slot t.typeIs PySem.F.slot_dict_keyiterator_next (wpAny_call_entry PySem.F.slot_dict_keyiterator_next t.typeIs PySem.F.entry_dict_keyiterator_next ?_ (PySem.F.args_dict_keyiterator_next_1 _))));refine qY (qZ (qY (qY (qY (wpAny_typeNameOfWhole_keyiter t.typeIs (qZ (qY (wpAny_fieldsOf e b ?_))))))));have f:Builtin.Dict_items.ownsTuple "dict_keyiterator" = false:=by decide
 simp only [f,FO,if_false];show wpAny _ _ (if (Value.ref d == Value.none)=true then _ else _) _ _ s;rw [qT (show ¬ (Value.ref d == Value.none)=true from Cb)];refine qY (qZ (qY (wpAny_dictEntries g h ?_)));rw [qT (by simp)];refine qY (qZ (qY (wpAny_dictEpoch g h ?_)));rw [qT (by simp)];refine qZ ?_;simp only [show ¬ (i:Int)<0 by omega,if_false,D8,k];refine qY (qY (wpAny_typeNameOfWhole_keyiter t.typeIs (qZ (qY (wpAny_isOneOf_keyiter t.typeIs ?_)))));show wpAny _ _ (setField (.ref it) 1 (rawInt ((i:Int)+1)) >>= _) _ _ _;refine qY (wpAny_setField e b (by simp) ?_)
 have j:(s.heap.update it (Obj.mapFields (·.setIfInBounds 1 (rawInt ((i:Int)+1))))).IsKeyIter it d (i+1) es.size ep:=by
  refine ⟨_,Heap.get?_update_self _ e (Obj.isFreed_of_fields (Obj.data_mapFields b _)),(Obj.cls_mapFields ..).trans n,?_⟩;rw [Obj.data_mapFields b];simp [rawInt]
 refine qY (wpAny_holding (qY (wpAny_isOneOf_keyiter (s:={ s with heap:=s.heap.update it (Obj.mapFields (·.setIfInBounds 1 (rawInt ((i:Int)+1)))) }) j.typeIs ?_)));show wpAny _ _ (pure x.key) _ _ _;exact qZ (qZ ⟨_,rfl,qZ (q _ j (Heap.SameBut.update ..))⟩)
theorem Xs {Q:cZ->Shared->Prop} (n:A.handled=none) (t:s.heap.IsKeyIter it d i es.size ep) (m:RawD s.heap d es ep) (p:es[i]?=none)
  (q:∀ e,Heap.ExtBut it s.heap e->Q none { s with heap:=e }):wpAny (model prog w) A (pyNext (.ref it)) Q E s:=by
 obtain ⟨o,g,r,h⟩:=id t;obtain ⟨u,j,v,k⟩:=id m;unfold pyNext;refine qY (wpAny_attempt (wpAny_callSpecial?_slot t.typeIs PySem.F.slot_dict_keyiterator_next (wpAny_call_entry PySem.F.slot_dict_keyiterator_next t.typeIs PySem.F.entry_dict_keyiterator_next ?_ (PySem.F.args_dict_keyiterator_next_1 _))));refine qY (qZ (qY (qY (qY (wpAny_typeNameOfWhole_keyiter t.typeIs (qZ (qY (wpAny_fieldsOf g h ?_))))))));have c:Builtin.Dict_items.ownsTuple "dict_keyiterator" = false:=by decide
 simp only [c,FO,if_false];show wpAny _ _ (if (Value.ref d == Value.none)=true then _ else _) _ _ s;rw [qT (show ¬ (Value.ref d == Value.none)=true from Cb)];refine qY (qZ (qY (wpAny_dictEntries j k ?_)));rw [qT (by simp)];refine qY (qZ (qY (wpAny_dictEpoch j k ?_)));rw [qT (by simp)];refine qZ ?_;simp only [show ¬ (i:Int)<0 by omega,if_false,D8,p];refine qY (qY (wpAny_typeNameOfWhole_keyiter t.typeIs (qZ ?_)));show wpAny _ _ (setField (.ref it) 0 .none >>= _) _ _ _;refine qY (wpAny_setField g h (by simp) ?_);show wpAny _ _ (newExc (.type "StopIteration") [] >>= _) _ _ _;simp only [newExc,newTuple];refine qY (qY (wpAny_newObj_type ?_ (by size_fits)));refine qY (m:=firstArgMember _ _) (wpAny_of_eq (a:=Value.none) (by first | rfl | (simp only [firstArgMember];rfl)) (wpAny_newObj_type ?_ (by size_fits)));simp only [raiseNew];refine qY (wpAny_handled ?_);rw [show A.in1.handled=none from n];refine qY (qZ (wpAny_throw ?_));refine qY (wpAny_isInstance (T := "StopIteration") (b:=true) ⟨_,Heap.get?_push_size _ rfl,rfl⟩ isSubtype_stop (qZ ?_));exact q _ (((Heap.SameBut.update ..).extBut.push _).push _)
theorem Xu (m:A.handled=none) (n:d≠it):Walks prog w A it [it,d] [it] es.size (λi v=>∃ x,es[i]?=some x/\v=x.key) (λi h=>h.IsKeyIter it d i es.size ep/\RawD h d es ep) where
 sub:=λb c=>by rw [Ap.mp c];exact BL ..
 frame:=λ_ _ _ a k=>⟨a.1.at (k it (BL ..)),a.2.by (k d (BW _ (Ap.mpr rfl)))⟩
 item:=λi s Q E g a q=>Xr a.1 a.2 (Array.getElem?_eq_getElem g) λf p j=>q _ f s.toks ⟨_,Array.getElem?_eq_getElem g,rfl⟩ ⟨p,a.2.by λo e=>(j.2 d n).trans e⟩ λb o c e=>(j.2 b λz=>c (Ap.mpr z)).trans e
 done:=λs Q E a q=>Xs m a.1 a.2 (Array.getElem?_eq_none (AO _)) λf x=>q f s.toks λb o c e=>x b o (λz=>c (Ap.mpr z)) e
 self:=λ_ _ _ _ a q=>wpAny_pyIter_keyiter a.1 q
theorem Xv (a:(d == sysModules)=false):W.KdlSrc prog w "dict" d d es.size (λi v=>∃ x,es[i]?=some x/\v=x.key) (λh=>RawD h d es ep) where
 type:=λ_ m=>m.ty
 there:=λ_ ⟨_,e,_⟩=>⟨pH e,pH e⟩
 keep:=λ_ _ m k=>m.by (k d (.inl rfl))
 notList:=by decide
 notTuple:=by decide
 hint:=λ_ _ _ _ m q=>W.kdl_hint_dict m.ty q
 iter:=λA s b m=>⟨_,_,λ_ _ q=>Xq a m q,Xu b (let ⟨_,e,_⟩:=m;A6 (pH e)),⟨⟨_,Heap.get?_push_size _ rfl,rfl,rfl⟩,m.by λ_ e=>Heap.get?_push_of_some _ e⟩⟩
end
theorem OP (E:X.calm=true):Ch X (.type "list") Kz:=λz s T H U Y Q I r ⟨p,j,e,hp,q⟩=>by
 subst e;obtain ⟨u,rfl,F⟩:=E4 r;cases F;obtain ⟨Z,G,b,A,o,m,B,J,K,L,C,_⟩:=Je I hp;have M:j.length=b.length:=Paired.length A;have hs:m.size=b.length:=by rw [<-Array.length_toList,C,AG]
 refine W.kdl_call (Xv (ep:=B) (es:=m) G) (I.ok.hd E) ⟨o,J,K,L⟩ ⋯ λh' N f c k O n=>?_
 have P:∀ i,f[i]?=(b.map λy=>Value.ref y.2.1)[i]?:=λi=>by
  rcases A8 i b.length with h | h
  ·have D:i<f.size:=by rw [n.1];omega
   obtain ⟨x,d,v⟩:=n.2 i _ (Array.getElem?_eq_getElem D);rw [Array.getElem?_eq_getElem D,v,Ac,Aj h];rw [<-Array.getElem?_toList,C,Ac,Aj h] at d;cases d;rfl
  ·rw [Array.getElem?_eq_none (by rw [n.1];omega),Bx (by rw [AG];exact h)]
 have g:f=(b.map λy=>Value.ref y.2.1).toArray:=by
  refine Array.ext_getElem? λi=>?_;rw [P i,List.getElem?_toArray]
 subst g;have R:H s.heap.objs.size=none:=I.hok.fresh (AO _);refine ⟨.ref s.heap.objs.size,_,I.laid (o:=.lst ((b.map λy=>y.2.1).map V.ref)) (t':=N) k (AO _) ⟨?_,b.map (λy=>Value.ref y.2.1),c,?_,O⟩,rfl,q _ (by rw [AG,M]) (λi a kv d v=>?_) _ R⟩
 ·rw [AG,AG];omega
 ·have:∀ l:List (List E_×Addr×Value),Vals ((l.map λy=>y.2.1).map V.ref) (l.map λy=>Value.ref y.2.1):=λl=>by
   induction l with
   | nil=>exact .nil
   | cons y l S=>exact .cons rfl S
  exact this b
 ·rw [Ac] at d;cases w:b[i]? with
  | none=>rw [w] at d;cases d
  | some y=>rw [w] at d;cases d;exact TKv.get A w v
end
end Bs
namespace Bs
open PySem PySem.Spec PyProof.Rows L2
section
variable {X:Cx} {pins:cS} {σ:L2.St} {H:Hp} {s:Shared} {N:cW} {capt:List (Option Nat)} {scope:Scope} {cl:List (Str×Addr)} {C:Addr} {fp:c_}
def K0:TT:=λ_ H Q=>Q true H
def cu (X:Cx) (cs:cV) (tc:TT):Prop:=∀ (pins:cS) (s:Shared) (σ:L2.St) (H:Hp) (Q:Bool->Hp->Prop),Inv X pins σ H s->tc σ H Q->
 wpAny (model X.prog X.w) X.A (forIn cs true λc r=>if r=true then do let ok <-isTrue c X.env (eval c X.env);pure (ForInStep.yield ok) else pure (ForInStep.yield r)) (λb d=>∃ a,Inv X pins σ a d/\Q b a) X.xe s
theorem OQ {X:Cx}:cu X [] K0:=λ_ s _ H _ I h=>wpAny_tests_nil ⟨H,I,h⟩
theorem OR {X:Cx} {c:Expr} {tc:TT} (h:L2.PT X c tc):cu X [c] tc:=λpins s σ H Q I q=>wpAny_tests_one (h pins s σ H Q I q)
theorem Xw {prog:Program} {w:World} {A:Around} {R:Result->Shared->Prop} {s:Shared} {y a i:Expr} {cs:cV} {scope:Scope} {pos:Pos} {L z:Value} {b:Env} (I:Nat->Shared->Prop)
  (E:∀ n s,I n s->wpAny (model prog w) A (pyNext L) (λr d=>match r with
   | none=>R (.ok .next) d
   | some v=>wpAny (model prog w) A (letOwnedTupleGo a L v) (λ_ j=>wpAny (model prog w) A (assign a b v) (λ_ k=>wpAny (model prog w) A (forIn cs true λc r=>if r=true then do let ok <-isTrue c b (eval c b);pure (ForInStep.yield ok) else pure (ForInStep.yield r)) (λB g=>if B=true then wpAny (model prog w) A (eval y b) (λx o=>
     wpAny (model prog w) A (call (.builtin "list.append") [z,x]) (λ_ p=>∃ m,m<n/\I m p) (λ_ _=>False) o) (λ_ _=>False) g else ∃ m,m<n/\I m g) (λ_ _=>False) k) (λ_ _=>False) j) (λ_ _=>False) d) (λ_ _=>False) s)
  (n:Nat) (h:I n s):codeAny (model prog w) A (.compLoop (.ListComp y [⟨a,i,cs,0⟩] scope pos) 0 L z b) R s:=by
 refine codeAny_loop rfl I (λn s O=>?_) n h;show wpAny _ A ((compTurn (.ListComp y [⟨a,i,cs,0⟩] scope pos) 0 L z b).onRaise (λx=>do noteFrame x b;theTreesLotGoes x)) _ _ s;refine wpAny_noted ?_;rw [compTurn_list];have D:∀ {P:cQ} (e:Value) (M:Shared),(λ(_:Value) (_:Shared)=>False) e M->P e M:=λ_ _ f=>f.elim;refine qY (wpAny_standAt (qY (pC (E n s O) (λr d q=>?_) D)));cases r with
 | none=>exact qZ q
 | some v=>
   refine qY (pC q (λ_ j F=>?_) D);refine qY (pC F (λ_ g G=>qY (pC G (λB k u=>?_) D)) D);cases B with
   | false=>exact qZ ⟨rfl,u⟩
   | true=>exact qY (qY (pC u (λx o J=>qY (pC J (λ_ p K=>qZ (qZ ⟨rfl,K⟩)) D)) D))
theorem K1 {a4 A tg:Expr} {cs:cV} {tc:TT} {pos:Pos} {wi:TI} {g:TG} {te:TE} {pins:cS} {s:Shared} {σ:L2.St} {H:Hp} {Q:VK} (RR:Value->Addr->Result->Shared->Prop) (hc:X.calm=true) (B:BlkOk X N capt scope cl) (hi:PI X tg A wi)
  (hg:∀ C s H fp,PG (S_ X N scope cl C s H fp) tg g) (ht:∀ C s H fp,cu (S_ X N scope cl C s H fp) cs tc) (he:∀ C s H fp,PE (S_ X N scope cl C s H fp) a4 te) (I:Inv X pins σ H s) (h:E8 wi capt g tc te σ H Q)
  (bd:∀ (D C:Addr) (Z:Shared) (Hq:Hp) (m:cU),Inv X pins σ Hq Z->Q (.ref D) Hq->Z.heap.Ns C m->Hq C=none->C≠X.env.locals->X.s₀.heap.objs.size<=C->(∀ x c,X.env.cells.lookup x=some c->c≠C)->(∀ p∈X.pn++pins,p.1≠C)->RR (.ref D) C (.ok .next) Z) :
  wpAny (model X.prog X.w) X.A (eval A X.env) (λx ab=>wpAny (model X.prog X.w) X.A (pyIter x) (λit ac=>wpAny (model X.prog X.w) X.A (newList []) (λae aj=>
   wpAny (model X.prog X.w) X.A (newFunctionEnv scope X.env.globals cl [] X.env.qual none .none (some X.env)) (λa0 al=>
    codeAny (model X.prog X.w) X.A (.compStart (.ListComp a4 [⟨tg,A,cs,0⟩] scope pos) 0 it ae { a0 with scope:=relabel scope X.env }) (RR ae a0.locals) al) X.xe aj) X.xe ac) X.xe ab) X.xe s:=by
 refine H_ (hi pins s σ H _ I h) λv s1 h1=>H_ h1 λbp d h2=>?_;obtain ⟨it,fp,tn,J,M,e,E,T,a5,S,n0,W,w0,am⟩:=h2;subst e;have fl:∀ b∈fp,b<d.heap.objs.size:=λb a=>by obtain ⟨o,e,_⟩:=T.obj _ _ a5 b a;exact pH e
 refine wpAny_newObj_type (wpAny_newFunctionEnv B.nocell (by intro y hy;simp at hy) (λF w j=>?_) B.kind);dsimp only at w j ⊢;generalize hG:d.heap.push { cls:=.type "list", dict:=none,data:=.seq ([]:cP).toArray }=G at w j ⊢;have hC:G.objs.size=d.heap.objs.size+1:=by rw [<-hG,Heap.size_push]
 have K:d.heap.objs.size<=G.objs.size:=by rw [hC];exact Nat.le_succ _
 have U:d.heap.objs.size≠G.objs.size:=by rw [hC];exact A6 (Dr _)
 have a6:∀ b o,d.heap.get? b=some o->F.get? b=some o:=λb o e=>j.extBut b o (by rw [hC];exact A6 (Nat.lt_succ_of_lt (pH e))) (Heap.get?_push_of_some _ (hG ▸ Heap.get?_push_of_some _ e));have an:F.get? d.heap.objs.size=some { cls:=.type "list", data:=.seq ([]:cP).toArray }:=j.extBut _ _ U (Heap.get?_push_of_some _ (hG ▸ Heap.get?_push_size _ rfl));have a7:=Nk B E S fl K
 have be:d.heap.objs.size∉au X.stack:=λa=>by
  rcases A7.mp (E.stkSub _ a) with z | z
  ·exact absurd E.lt (by rw [<-z];exact DB _)
  ·exact E.nofs (AO _) z
 have bf:∀ x c,cl.lookup x=some c->c≠d.heap.objs.size:=λx c e z=>by
  obtain ⟨v,q⟩:=E.cell x c (B.cells x c e);exact absurd q.lt (by rw [z];exact DB _)
 have ao:∀ b∈fp,d.heap.objs.size≠b:=λb a z=>absurd (fl b a) (by rw [<-z];exact DB _);have ar:Inv (S_ X N scope cl G.objs.size d M fp) [] (CS capt σ) M { d with heap:=F,toks:=d.toks+([]:List (Str×Value)).length }:=W8 B E S fl K w a6
 have a3:codeAny (model X.prog X.w) X.A (.compLoop (.ListComp a4 [⟨tg,A,cs,0⟩] scope pos) 0 (.ref it) (.ref d.heap.objs.size) (compEnvC scope cl G.objs.size X.env))
   (RR (.ref d.heap.objs.size) G.objs.size) { d with heap:=F,toks:=d.toks+([]:List (Str×Value)).length }:=by
  refine Xw (λn s'=>∃ (i:Nat) (Y:cM) (f:cP) (k:Nat) (O:Hp),Inv (S_ X N scope cl G.objs.size d M fp) [] (CS capt σ) O s'/\s'.heap.get? d.heap.objs.size=some { cls:=.type "list", data:=.seq f.toArray k }/\Vals Y f/\
   O d.heap.objs.size=none/\tn i s'.heap/\(∀ b∈fp,O b=none)/\W i Y O/\n=n0 - i) ?_ n0 ⟨0,[],[],0,M,ar,an,.nil,E.hok.fresh (AO _),T.keep _ _ _ a5 (λb _ o e=>a6 b o e),λb a=>(S b a).1,w0,rfl⟩
  rintro n s3 ⟨i,Y,f,k,O,I3,hD,hv,nD,b0,b1,w3,en⟩;obtain ⟨_,hl,b2⟩:=am i Y O w3;have hz:f.toArray.size<=sizeLine:=by rw [BE,<-hv.length];exact hl
  have b3:Inv (S_ X N scope cl G.objs.size d M fp) [(d.heap.objs.size,{ cls:=.type "list", data:=.seq f.toArray k })] (CS capt σ) O s3:=I3.pins_of λp hp=>by
   rw [Ap] at hp;subst hp;exact ⟨hD,nD,U,be,λv z=>nomatch z⟩
  have a8:∀ {Hx:Hp} (_:∀ b∈fp,Hx b=none),∀ b∈fp,DF (S_ X N scope cl G.objs.size d M fp) [(d.heap.objs.size,{ cls:=.type "list", data:=.seq f.toArray k })] Hx b:=λhx b a=>
   ⟨hx b a,(a7.exf b a).1,a7.exfs b a,.inl a,(a7.exf b a).2,λp hp=>by
    have b4:p∈[((d.heap.objs.size,{ cls:=.type "list", data:=.seq f.toArray k }):Addr×Obj)]:=hp;rw [Ap] at b4;subst b4;exact ao b a⟩
  rcases b2 with ⟨b5,q⟩ | ⟨bq,go,bg⟩
  ·refine H_ (T.done (S_ X N scope cl G.objs.size d M fp) rfl rfl rfl hc i _ s3 _ O _ b3 (a8 b1) b0 b5) λr Z ⟨hr,I4⟩=>?_;subst hr;have bi:=(I4.pin (d.heap.objs.size,{ cls:=.type "list", data:=.seq f.toArray k }) (Cz _ (Ap.mpr rfl))).1;obtain ⟨m,hn,_⟩:=I4.loc;have P:∀ b u,O b=some u->b≠d.heap.objs.size:=λb u e z=>by rw [z,nD] at e;cases e
   have b6:∀ b o,d.heap.get? b=some o->b≠d.heap.objs.size:=λb o e=>A6 (pH e);have ub:Un (au X.stack) fp M O d.heap Z.heap:=I4.base;have cC:∀ b,b<d.heap.objs.size->b≠G.objs.size:=λb a z=>absurd (CA a K) (by rw [z];exact DB _)
   refine bd _ G.objs.size Z (upd O d.heap.objs.size (.lst Y)) m ?_ (q _ nD) hn (by rw [Ad (λz=>U z.symm)];exact I4.free) (λz=>cC _ E.lt z.symm) (BT E.sz K)
    (λx c e=>by obtain ⟨v,q⟩:=E.cell x c e;exact cC _ q.lt) λp hp=>cC _ (pH (E.pin p hp).1)
   refine E.call' (ch:=fp) (s':=Z) I4.os ?_ ?_ I4.bare λb a=>⟨(S b a).2.2.2.1,(S b a).2.1,(S b a).2.2.2.2.1,(S b a).2.2.2.2.2⟩
   ·refine ⟨ub.keep,ub.slot,λb o e n hx=>?_,ub.there,λb xs e=>?_,λb o u e=>?_,λb ps e=>?_⟩
    ·rw [Ad (b6 b o e)];exact ub.free b o e n hx
    ·have z:=ub.tups b xs e;rw [Ad (P b _ z)];exact z
    ·have z:=ub.frzs b o u e;rw [Ad (P b _ z)];exact z
    ·obtain ⟨b9,z⟩:=ub.tbls b ps e;exact ⟨b9,by rw [Ad (P b _ z)];exact z⟩
   ·intro b u e;by_cases a:b=d.heap.objs.size
    ·subst a;rw [upd_same] at e;cases e;exact ⟨hl,f,k,hv,bi⟩
    ·rw [Ad a] at e;exact (I4.hok b u e).stay (λc v _ q=>q) (λc q=>by rw [Ad (P c _ q)];exact q) λc xs q=>by rw [Ad (P c _ q)];exact q
  ·refine H_ (T.item (S_ X N scope cl G.objs.size d M fp) rfl rfl rfl hc i _ s3 _ O _ b3 (a8 b1) b0 go) λr Z ⟨u,hr,h4⟩=>?_;subst hr;refine H_ h4 λ_ s5 ⟨x,H5,I5,r5,y5,R,bO⟩=>?_;have bj:=I5.pinned (a8 bO) (T.obj _ _ R);refine H_ (hg _ _ _ _ _ s5 _ H5 x u _ bj r5 (bg x H5 y5)) λ_ s6 ⟨L,H6,I6,q6⟩=>?_;refine H_ (ht _ _ _ _ _ s6 L H6 _ I6 q6) λbk s9 ⟨H9,I9,q9⟩=>?_
   have ba:∀ b∈fp,∀ o,s5.heap.get? b=some o->s9.heap.get? b=some o/\H9 b=none:=λb a o e=>by
    have z:=I9.pin (b,o) (Cz _ (Cz _ (JF a e)));exact ⟨z.1,z.2.1⟩
   cases bk with
   | false=>
     have w9:W (i+1) Y H9:=q9;have bb:=I9.pin (d.heap.objs.size,{ cls:=.type "list", data:=.seq f.toArray k }) (Cz _ (F2 _ (Ap.mpr rfl)));have bl:Inv (S_ X N scope cl G.objs.size d M fp) [] L H9 s9:=I9.pins_of λp hp=>nomatch hp
     exact ⟨n0 - (i+1),⋯,i+1,Y,f,k,H9,Nl B E S bl,bb.1,hv,bb.2.1,T.keep _ _ _ R (λb a o e=>(ba b a o e).1),(λb a=>by
      obtain ⟨o,e,_⟩:=T.obj _ _ R b a;exact (ba b a o e).2),w9,rfl⟩
   | true=>
   replace q9:te L H9 λy H4=>W (i+1) (Y++[y]) H4:=q9;refine H_ (he _ _ _ _ _ s9 L H9 _ I9 q9) λuy s7 ⟨y,H7,I7,r7,w7⟩=>?_;have pD:=I7.pin (d.heap.objs.size,{ cls:=.type "list", data:=.seq f.toArray k }) (Cz _ (F2 _ (Ap.mpr rfl)))
   have pF:∀ b∈fp,∀ o,s5.heap.get? b=some o->s7.heap.get? b=some o/\H7 b=none:=λb a o e=>by
    have z:=I7.pin (b,o) (Cz _ (Cz _ (JF a e)));exact ⟨z.1,z.2.1⟩
   refine append_at (hsz:=hz) pD.1 λh8 bc bm=>?_;have bn:Inv (S_ X N scope cl G.objs.size d M fp) [] L H7 s7:=I7.pins_of λp hp=>nomatch hp;have I8:Inv (S_ X N scope cl G.objs.size d M fp) [] L H7 { s7 with heap:=h8,toks:=s7.toks }:=bn.turned (λb o a e=>bc.extBut b o a e) pD.2.1 U (.inr (AO _)) bf (λp hp=>nomatch hp);refine ⟨n0 - (i+1),⋯,i+1,Y++[y],f++[uy],k+1,H7,Nl B E S I8,?_,Paired.snoc hv r7,pD.2.1,T.keep _ _ _ R (λb a o e=>bc.extBut b o (ao b a).symm (pF b a o e).1),λb a=>?_,w7,rfl⟩
   ·show h8.get? _=_;rw [bm,List.push_toArray]
   ·obtain ⟨o,e,_⟩:=T.obj _ _ R b a;exact (pF b a o e).2
 exact codeAny_compStart_list a3 (T.self X.A 0 _ _ _ (T.keep _ _ _ a5 (λb _ o e=>a6 b o e)) a3)
theorem Cj {c a d:Expr} {pos:Pos} {f:TI} {g:TG} {i:TE} (k:X.calm=true) (B:BlkOk X N capt scope cl) (n:PI X d a f)
  (p:∀ C s H fp,PG (S_ X N scope cl C s H fp) d g) (r:∀ C s H fp,PE (S_ X N scope cl C s H fp) c i)
  (u:∀ x,foldedSetIterable a X.env x=pure x:=by intro _;rfl):PE X (.ListComp c [⟨d,a,[],0⟩] scope pos) (BH f capt g i):=by
 intro pins s σ H Q I h;rw [eval_ListComp];refine wpAny_comprehension_free (use:=none) rfl u B.clos B.kind B.names (K1 (cs:=[]) (tc:=K0) (λj C=>compPost (model X.prog X.w) X.A X.xe none (EP X pins σ Q) j C) k B n p (λ_ _ _ _=>OQ) r I (show E8 f capt g K0 i σ H _ from h) λD C L v m w q y z A E F G=>?_);exact ⟨m,y,λM J=>⟨.ref D,v,w.turned (λb o K e=>J.extBut b o K e) z A (.inr E) F G,rfl,q⟩⟩
theorem OS {i:Nat} {x:Str} {c j:Pos} {f d k:Expr} {cs:cV} {tc:TT} {pos:Pos} {A:TI} {g:TG} {E:TE} (J:X.N.Nodup) (p:X.N[i]?=some x) (K:aU X.env.scope x) (L:X.calm=true) (B:BlkOk X N capt scope cl) (M:PI X k d A)
  (O:∀ C s H fp,PG (S_ X N scope cl C s H fp) k g) (P:∀ C s H fp,cu (S_ X N scope cl C s H fp) cs tc) (R:∀ C s H fp,PE (S_ X N scope cl C s H fp) f E)
  (r:swapsWith (.ListComp f [⟨k,d,cs,0⟩] scope pos) (some (.Name x c)) j.line X.env=pure true)
  (S:∀ x,foldedSetIterable d X.env x=pure x) (T:X.fn x=true\/X.env.scope.names.lookup x=some .local) :
  PS X (.Assign [.Name x c] (.ListComp f [⟨k,d,cs,0⟩] scope pos) j) (AM (E8 A capt g tc E) (AE i)):=by
 intro pins s σ H D I h;rw [exec_Assign_Name_used _ _ _ _ r];refine qY (wpAny_standAt (qY ?_));show wpAny _ X.A (do let _ <-comprehension (.ListComp f [⟨k,d,cs,0⟩] scope pos) scope X.env _ (newList []) false (eval d X.env) (some (assign (.Name x c) X.env))) _ _ s
 refine qY (pC (wpAny_comprehension_free (use:=some (assign (.Name x c) X.env)) (Q:=λ_ n=>SP X pins D .next n) rfl S B.clos B.kind B.names
  (K1 (λu C=>compPost (model X.prog X.w) X.A X.xe (some (assign (.Name x c) X.env)) (λ_ n=>SP X pins D .next n) u C) L B M O P R I h λDa C s4 Hq m U q W w F Y G Z=>?_)) (λ_ n hq=>qZ (qZ hq)) λ_ _ e=>e)
 show wpAny _ X.A (assign (.Name x c) X.env (.ref Da)) _ _ _;refine wpAny_assign_Name (M7 U J p K (v:=.ref Da) rfl (λs5 I5 ⟨a,y,ha⟩=>⟨m,W.sameBut y ?_,λh' sb=>⟨_,_,I5.turned (λb o hb e=>sb.extBut b o hb e) w F (.inr Y) G Z,q⟩⟩) T);rcases ha with z | z
 ·rw [z];exact F
 ·exact λe=>G x a z e.symm
theorem Ff {i:Nat} {x:Str} {b c:Pos} {d a e:Expr} {pos:Pos} {j:TI} {g:TG} {k:TE} (m:X.N.Nodup) (f:X.N[i]?=some x) (n:aU X.env.scope x) (o:X.calm=true) (B:BlkOk X N capt scope cl) (p:PI X e a j)
  (q:∀ C s H fp,PG (S_ X N scope cl C s H fp) e g) (r:∀ C s H fp,PE (S_ X N scope cl C s H fp) d k)
  (h:swapsWith (.ListComp d [⟨e,a,[],0⟩] scope pos) (some (.Name x b)) c.line X.env=pure true:=by rfl)
  (u:∀ x,foldedSetIterable a X.env x=pure x:=by intro _;rfl) (v:X.fn x=true\/X.env.scope.names.lookup x=some .local:=by first | exact .inl rfl | exact .inr rfl | assumption) :
  PS X (.Assign [.Name x b] (.ListComp d [⟨e,a,[],0⟩] scope pos) c) (AM (BH j capt g k) (AE i)):=
 OS m f n o B p q (λC s H fp=>OQ) r h u v
theorem Xx {i:Nat} {x:Str} {b d:Pos} {e a f c:Expr} {tc:TT} {pos:Pos} {k:TI} {g:TG} {m:TE} (n:X.N.Nodup) (h:X.N[i]?=some x) (o:aU X.env.scope x) (p:X.calm=true) (B:BlkOk X N capt scope cl) (q:PI X f a k)
  (r:∀ C s H fp,PG (S_ X N scope cl C s H fp) f g) (u:∀ C s H fp,L2.PT (S_ X N scope cl C s H fp) c tc) (v:∀ C s H fp,PE (S_ X N scope cl C s H fp) e m)
  (j:swapsWith (.ListComp e [⟨f,a,[c],0⟩] scope pos) (some (.Name x b)) d.line X.env=pure true:=by rfl)
  (w:∀ x,foldedSetIterable a X.env x=pure x:=by intro _;rfl) (y:X.fn x=true\/X.env.scope.names.lookup x=some .local:=by first | exact .inl rfl | exact .inr rfl | assumption) :
  PS X (.Assign [.Name x b] (.ListComp e [⟨f,a,[c],0⟩] scope pos) d) (AM (E8 k capt g tc m) (AE i)):=
 OS n h o p B q r (λC s H fp=>OR (u C s H fp)) v j w y
theorem Xy {d a f c:Expr} {tc:TT} {pos:Pos} {j:TI} {g:TG} {k:TE} (n:X.calm=true) (B:BlkOk X N capt scope cl) (p:PI X f a j)
  (r:∀ C s H fp,PG (S_ X N scope cl C s H fp) f g) (u:∀ C s H fp,L2.PT (S_ X N scope cl C s H fp) c tc) (v:∀ C s H fp,PE (S_ X N scope cl C s H fp) d k)
  (w:∀ x,foldedSetIterable a X.env x=pure x:=by intro _;rfl):PE X (.ListComp d [⟨f,a,[c],0⟩] scope pos) (E8 j capt g tc k):=by
 intro pins s σ H Q I h;rw [eval_ListComp];refine wpAny_comprehension_free (use:=none) rfl w B.clos B.kind B.names (K1 (λi C=>compPost (model X.prog X.w) X.A X.xe none (EP X pins σ Q) i C) n B p r (λC s H fp=>OR (u C s H fp)) v I h λD C O y m z q A E F G J K=>?_);exact ⟨m,A,λP L=>⟨.ref D,y,z.turned (λb o M e=>L.extBut b o M e) E F (.inr G) J K,rfl,q⟩⟩
end
section
variable {X:Cx}
theorem xI {r:R2} {a:Expr} {b:TE} {n:Int} {j} {q pos:Pos} (c:aV X r) (d:PE X a b):PE X (.Subscript a (.Constant (.int n) j q) pos) (A_ r b (tC (.int n))):=BA c d AF (λ_ _=>rfl)
theorem D_ {i:Nat} {x:Str} {e:Expr} {b:TE} {a pos:Pos} (c:X.N.Nodup) (d:PE X e b) (f:X.N[i]?=some x:=by rfl) (g:aU X.env.scope x:=by exact .inl rfl) (h:swapsWith e (some (.Name x a)) pos.line X.env=pure false:=by rfl) (j:X.fn x=true\/X.env.scope.names.lookup x=some .local:=by first | exact .inl rfl | exact .inr rfl):PS X (.Assign [.Name x a] e pos) (AM b (AE i)):=Cr c f g d h j
theorem cR {c:CmpOp} {r:R2} {a b:Expr} {d e:TE} {pos:Pos} (f:OpR X (compareOp c) r) (g:PE X a d) (h:PE X b e) (i:behindInMarks c b=false:=by exact X_ _):L2.PT X (.Compare a [c] [b] pos) (Aq (A_ r d e)):=NM f g h i
variable {n m:Nat} {x:Str} {ps:cW} {sp:Sp} {a b c:Expr} {ta tb tc:TE} {p pos:Pos} (C:Cal X.prog X.w X.K X.mg X.base n x ps sp) (hr:Room m X.A)
include C hr
theorem Cal.q1 (e:PE X a ta) (f:n<=m:=by decide) (g:Gl X x:=by rfl) (h:(x == ("__debug__" : Str))=false:=by decide) (d:starEach [a] X.env=(false,eval a X.env)::starEach [] X.env:=by rfl):PE X (.Call (.Name x p) [a] [] pos) (AJ sp [] E0 (AB ta AC)):=C.pe hr f g (AD e AI d) h d rfl
theorem Cal.q2 (e:PE X a ta) (f:PE X b tb) (g:n<=m:=by decide) (h:Gl X x:=by rfl) (i:(x == ("__debug__" : Str))=false:=by decide) (d:starEach [a,b] X.env=(false,eval a X.env)::starEach [b] X.env:=by rfl) (j:starEach [b] X.env=(false,eval b X.env)::starEach [] X.env:=by rfl) (hp:(backTo pos (starEach [b] X.env)).any (·.1)=false:=by rfl):PE X (.Call (.Name x p) [a,b] [] pos) (AJ sp [] E0 (AB ta (AB tb AC))):=C.pe hr g h (AD e (AD f AI j) d) i d hp
theorem Cal.q3 (e:PE X a ta) (f:PE X b tb) (g:PE X c tc) (h:n<=m:=by decide) (i:Gl X x:=by rfl) (j:(x == ("__debug__" : Str))=false:=by decide) (d:starEach [a,b,c] X.env=(false,eval a X.env)::starEach [b,c] X.env:=by rfl) (k:starEach [b,c] X.env=(false,eval b X.env)::starEach [c] X.env:=by rfl) (o:starEach [c] X.env=(false,eval c X.env)::starEach [] X.env:=by rfl) (hp:(backTo pos (starEach [b,c] X.env)).any (·.1)=false:=by rfl):PE X (.Call (.Name x p) [a,b,c] [] pos) (AJ sp [] E0 (AB ta (AB tb (AB tc AC)))):=C.pe hr h i (AD e (AD f (AD g AI o) k) d) j d hp
end
end Bs
namespace Bs
open PySem L2
noncomputable def FA (kvs:List (List E_×V)) (k:List E_):cN:=(kvs.find? λa=>a.1=k).map (·.2)
def gDT:R2:=λx y H Q=>∃ p b c a v,x=.ref p/\y=.ref b/\H b=some (.tup (List.map kV c))/\H p=some (.dT a)/\FA a c=some v/\Q v H
def K2:V->cM->Hp->VK->Prop:=λx d H Q=>∃ p b c a v,x=.ref p/\d=[.ref b,v]/\H b=some (.tup (List.map kV c))/\H p=some (.dT a)/\Q ((FA a c).getD v) H
end Bs
namespace Bs
open PySem PySem.Spec PySem.Calls PyProof.Rows L2
theorem TKv.look {H:Hp} {k:List E_}:∀ {kvs:List (List E_×V)} {xs:List (List E_×Addr×Value)},TKv H kvs xs->(FA kvs k=none/\atKey xs k=none)\/∃ v p,FA kvs k=some v/\atKey xs k=some p/\RelV v p.2
 | _,_,.nil=>.inl ⟨rfl,rfl⟩
 | _,_,.cons (a:=p) (b:=q) h t=>by
   unfold FA atKey;rw [List.find?_cons,List.find?_cons,<-h.1];by_cases c:p.1=k
   ·rw [qV c];exact .inr ⟨_,_,rfl,rfl,h.2.2⟩
   ·rw [qX c];exact TKv.look t
section
variable {X:Cx}
theorem Xz (G:X.A.units+64<cLine):aV X gDT:=by
 intro d f a s i H x y v u Q I j n h o;obtain ⟨p,b,w,A,z,rfl,rfl,B,hp,c,q⟩:=h;cases j;cases n;obtain ⟨_,J,K,r,m⟩:=Je I hp;rcases TKv.look (k:=w) r with ⟨e,_⟩ | ⟨v,g,C,D,E⟩
 ·rw [e] at c;cases c
 ·rw [C] at c;cases c
  exact subscriptTail_builtinR (x:=g.2) m.typeIs slot_dict_getitem.lookup
   (wpAny_getItem_heap (Q:=λr F=>r=g.2/\EP X a i Q r F) (tupleKind_room_in1 ⋯) (Jd I B) m D ⟨rfl,z,H,I.tok _,E,q⟩) o
theorem X3 (B:X.A.units+64<cLine):bH X "dict.get" K2:=by
 intro e s C H x D v E Q I g a h;obtain ⟨p,b,f,i,z,rfl,rfl,j,hp,q⟩:=h;cases g;obtain ⟨u,n,rfl,o,w⟩:=a.two;cases o;obtain ⟨_,y,A,r,m⟩:=Je I hp;refine call_meetsIn PySem.F.slot_dict_get m.typeIs PySem.F.entry_dict_get (PySem.F.args_dict_get_3 _ _ _) (meetsH_dict_get_default (tupleKind (Db X.prog X.w)) p b y n) ⟨tupleKind_room_in1 ⋯,f,A,Jd I j,m,?_⟩;rcases TKv.look (k:=f) r with ⟨c,d⟩ | ⟨v,F,c,d,a⟩
 ·rw [c] at q;rw [d];exact ⟨z,H,I.tok _,w,q⟩
 ·rw [c] at q;rw [d];exact ⟨v,H,I.tok _,a,q⟩
end
end Bs
namespace Bs
open PySem PySem.W PyProof.Rows
noncomputable def Tw {b:Type} (c:Nat->Nat->Bool) (N:Nat) (Q:b->Prop):KasT b->Prop
 | .ret a=>Q a
 | .ask i j f=>i<N/\j<N/\i≠j/\Tw c N Q (f (c i j))
theorem Tw.bind {b d:Type} {c:Nat->Nat->Bool} {N:Nat} {Q:d->Prop} {R:b->Prop} {f:b->KasT d} (e:∀ a,R a->Tw c N Q (f a)):∀ (t:KasT b),Tw c N R t->Tw c N Q (t.bind f)
 | .ret a,h=>e a h
 | .ask i j g,h=>⟨h.1,h.2.1,h.2.2.1,Tw.bind e (g (c i j)) h.2.2.2⟩
theorem Tw.wp {e:Type} {c:Nat->Nat->Bool} {N:Nat} {Q:e->Prop} {G:e->Shared->Prop} {I:Shared->Prop} {b:Nat->Nat->(Bool->Shared->Prop)->Shared->Prop} (f:∀ i j C s,i<N->j<N->i≠j->I s->(∀ d,I d->C (c i j) d)->b i j C s) (k:∀ a s,Q a->I s->G a s):∀ (t:KasT e) (s:Shared),Tw c N Q t->I s->t.kasWp b G s
 | .ret a,s,h,i=>k a s h i
 | .ask i j g,s,h,m=>f i j _ s h.1 h.2.1 h.2.2.1 m λd n=>Tw.wp f k (g (c i j)) d h.2.2.2 n
theorem K3 {b:Type} {c:Nat->Nat->Bool} {N:Nat} {Q R:b->Prop} (h:∀ a,R a->Q a):∀ (t:KasT b),Tw c N R t->Tw c N Q t
 | .ret a,x=>h a x
 | .ask i j g,x=>⟨x.1,x.2.1,x.2.2.1,K3 h (g (c i j)) x.2.2.2⟩
section
variable {k:d7} {N:Nat} {p:Array Nat}
noncomputable def kc (k:d7) (i j:Nat):Bool:=decide (k i<k j)
noncomputable def kp (k:d7) (p:Array Nat) (i:Nat):Int:=k (p.getD i 0)
def So (k:d7) (p:Array Nat) (m:Nat):Prop:=∀ i j,i<j->j<m->kp k p i<kp k p j
def De (k:d7) (p:Array Nat) (m:Nat):Prop:=∀ i j,i<j->j<m->kp k p j<kp k p i
def Pm (N:Nat) (p:Array Nat):Prop:=p.Perm (List.range N).toArray
theorem Pm.size (h:Pm N p):p.size=N:=by rw [Array.Perm.size_eq h,BE,Bj]
theorem Pm.lst (h:Pm N p):p.toList.Perm (List.range N):=by have:=Array.Perm.toList h;simpa using this
theorem IG {p:Array Nat} {i:Nat} (h:i<p.size):p.getD i 0=p.toList[i]'(by simpa using h):=by simp [Array.getD,h]
theorem Pm.lt (h:Pm N p) {i:Nat} (a:i<N):p.getD i 0<N:=by
 rw [IG (by rw [h.size];exact a)];exact D5.mp (h.lst.mem_iff.mp (Dq _))
theorem Pm.ne (h:Pm N p) {i j:Nat} (a:i<N) (b:j<N) (n:i≠j):p.getD i 0≠p.getD j 0:=by
 rw [IG (by rw [h.size];exact a),IG (by rw [h.size];exact b)];intro e;exact n ((List.getElem_inj (h.lst.nodup_iff.mpr List.nodup_range)).mp e)
theorem K4 (h:Pm N p) (a:∀ i j,i<N->j<N->i≠j->k i≠k j) {i j:Nat} (b:i<N) (d:j<N) (n:i≠j) (c:¬ kp k p i<kp k p j):kp k p j<kp k p i:=by
 have:=a _ _ (h.lt b) (h.lt d) (h.ne b d n);unfold kp at *;omega
theorem So.succ {m:Nat} (h:So k p m) (l:0<m->kp k p (m - 1)<kp k p m):So k p (m+1):=λi j a b=>by
 by_cases c:j<m
 ·exact h i j a c
 ·have e:j=m:=by omega
  subst e;by_cases d:i=j - 1
  ·rw [d];exact l ⋯
  ·exact Int.lt_trans (h i (j - 1) ⋯ ⋯) (l ⋯)
theorem De.succ {m:Nat} (h:De k p m) (l:0<m->kp k p m<kp k p (m - 1)):De k p (m+1):=λi j a b=>by
 by_cases c:j<m
 ·exact h i j a c
 ·have e:j=m:=by omega
  subst e;by_cases d:i=j - 1
  ·rw [d];exact l ⋯
  ·exact Int.lt_trans (l ⋯) (h i (j - 1) ⋯ ⋯)
theorem K5 (P:Pm N p) (e:∀ i j,i<N->j<N->i≠j->k i≠k j):∀ (f n:Nat),1<=n->n+f<=N->So k p n->Tw (kc k) N (λm=>n<=m/\m<=n+f/\So k p m/\(m=n+f\/kp k p m<kp k p (m - 1))) (kas_asc p f n)
 | 0,n,_,_,h=>⟨AO _,AO _,h,.inl rfl⟩
 | f+1,n,g,o,h=>by
   refine ⟨P.lt ⋯,P.lt ⋯,P.ne ⋯ ⋯ ⋯,?_⟩;show Tw _ _ _ (if kc k _ _=true then _ else _);by_cases c:kp k p n<kp k p (n - 1)
   ·rw [qU (show kc k _ _=true from qV c)];exact ⟨AO _,⋯,h,.inr c⟩
   ·rw [qT (by unfold kc;rw [decide_eq_true_eq];exact c)];have:=K5 P e f (n+1) ⋯ ⋯ (h.succ λ_=>K4 P e ⋯ ⋯ ⋯ c);exact K3 (λm ⟨a,b,c,d⟩=>⟨⋯,⋯,c,by rcases d with d | d;exact .inl ⋯;exact .inr d⟩) _ this
theorem Jf {p q:Array Nat} {i j:Nat} (h:p[i]?=q[j]?):kp k p i=kp k q j:=by
 unfold kp;rw [Array.getD_eq_getD_getElem?,Array.getD_eq_getD_getElem?,h]
theorem OT (P:Pm N p) (g:∀ i j,i<N->j<N->i≠j->k i≠k j):∀ (f n:Nat),1<=n->n+f<=N->De k p n->Tw (kc k) N (λr=>r.1=p/\r.2.2=0/\n<=r.2.1/\r.2.1<=n+f/\De k p r.2.1) (kas_desc f p n 0)
 | 0,n,_,_,h=>⟨rfl,rfl,AO _,AO _,h⟩
 | f+1,n,o,q,h=>by
   refine ⟨P.lt ⋯,P.lt ⋯,P.ne ⋯ ⋯ ⋯,?_⟩;show Tw _ _ _ (if kc k _ _=true then _ else _);by_cases c:kp k p n<kp k p (n - 1)
   ·rw [qU (show kc k _ _=true from qV c),qT ∅];exact K3 (λm ⟨a,b,c,d,e⟩=>⟨a,b,⋯,⋯,e⟩) _ (OT P g f (n+1) ⋯ ⋯ (h.succ λ_=>c))
   ·rw [qT (by unfold kc;rw [decide_eq_true_eq];exact c)];refine ⟨P.lt ⋯,P.lt ⋯,P.ne ⋯ ⋯ ⋯,?_⟩;show Tw _ _ _ (if kc k _ _=true then _ else _);rw [qU (show kc k _ _=true from qV (K4 P g ⋯ ⋯ ⋯ c))];exact ⟨rfl,rfl,AO _,by show n<=n+(f+1);omega,h⟩
theorem OU (P:Pm N p) (n:Nat):Pm N (kas_rev p 0 n):=(mirror_perm _ _ _ _).trans P
theorem X4 (P:Pm N p) {n:Nat} (a:n<=N) (h:De k p n):So k (kas_rev p 0 n) n:=λi j b c=>by
 have e:∀ i,i<n->kp k (kas_rev p 0 n) i=kp k p (n - 1 - i):=λi d=>Jf (by
  unfold kas_rev;rw [getElem?_mirror_all (by rw [P.size];exact a),qU ⟨Ae _,d⟩,Nat.zero_add])
 rw [e i ⋯,e j c];exact h _ _ ⋯ ⋯
def Ct (k:d7) (N:Nat) (r:Nat×Array Nat):Prop:=Pm N r.2/\So k r.2 r.1/\1<=r.1/\r.1<=N
theorem X5 (P:Pm N p) (d:∀ i j,i<N->j<N->i≠j->k i≠k j) {n:Nat} (e:1<=n) (f:n<=N) (h:De k p n):Tw (kc k) N (Ct k N) (kas_tail3 n N p):=
 Tw.bind (λm ⟨a,b,c,_⟩=>⟨OU P n,c,⋯,⋯⟩) _ (K5 (OU P n) d (N - n) n e ⋯ (X4 P f h))
theorem X6 (P:Pm N p) (f:∀ i j,i<N->j<N->i≠j->k i≠k j) (h:2<=N):Tw (kc k) N (Ct k N) (kas_count N p):=by
 refine Tw.bind (λm ⟨a,b,c,d⟩=>?_) _ (K5 P f (N - 1) 1 (AO _) ⋯ λi j n h=>by omega);by_cases e:m=N
 ·rw [qU (by simpa using e)];exact ⟨P,c,a,⋯⟩
 ·rw [qT (by simpa using e)];have o:kp k p m<kp k p (m - 1):=by rcases d with d | d;exact absurd ⋯ e;exact d
  by_cases g:m > 1
  ·rw [qU g];refine ⟨P.lt ⋯,P.lt ⋯,P.ne ⋯ ⋯ ⋯,?_⟩;show Tw _ _ _ (if kc k _ _=true then _ else _);rw [qU (show kc k _ _=true from qV (c 0 (m - 1) ⋯ ⋯))];exact ⟨P,c,a,⋯⟩
  ·rw [qT g];have q:m=1:=by omega
   subst q;refine Tw.bind (λr ⟨u,w,x,y,v⟩=>?_) _ (OT P f (N - (1+1)) (1+1) ⋯ ⋯ (De.succ (λi j n h=>by omega) λ_=>o));rw [qT ⋯,u];exact X5 P f ⋯ ⋯ v
theorem K6 (P:Pm N p) (g:∀ i j,i<N->j<N->i≠j->k i≠k j) {q:Nat} (u:q<N) (S:So k p q):∀ (f l r:Nat),l<=r->r<=q->r - l<=f->(∀ i,i<l->kp k p i<kp k p q)->(∀ i,r<=i->i<q->kp k p q<kp k p i)->Tw (kc k) N (λz=>z<=q/\(∀ i,i<z->kp k p i<kp k p q)/\(∀ i,z<=i->i<q->kp k p q<kp k p i)) (kas_place p q f l r)
 | 0,l,r,w,h,x,n,o=>by
   have:l=r:=by omega
   subst this;exact ⟨h,n,o⟩
 | f+1,l,r,w,h,x,n,o=>by
   show Tw _ _ _ (if l ≥ r then _ else _);by_cases c:l ≥ r
   ·have:l=r:=by omega
    subst this;rw [qU c];exact ⟨h,n,o⟩
   ·rw [qT c];generalize y:(l+r) / 2=m;refine ⟨P.lt ⋯,P.lt ⋯,P.ne ⋯ ⋯ ⋯,?_⟩;show Tw _ _ _ (if kc k _ _=true then _ else _);by_cases d:kp k p q<kp k p m
    ·rw [qU (show kc k _ _=true from qV d)];refine K6 P g u S f l m ⋯ ⋯ ⋯ n λi a b=>?_;by_cases e:i=m
     ·rw [e];exact d
     ·exact Int.lt_trans d (S m i ⋯ b)
    ·rw [qT (by unfold kc;rw [decide_eq_true_eq];exact d)];have v:=K4 P g u ⋯ ⋯ d;refine K6 P g u S f (m+1) r ⋯ h ⋯ (λi a=>?_) o;by_cases e:i=m
     ·rw [e];exact v
     ·exact Int.lt_trans (S i m ⋯ ⋯) v
theorem OV (d:∀ i j,i<N->j<N->i≠j->k i≠k j):∀ (f:Nat) (p:Array Nat) (q:Nat),Pm N p->So k p q->q+f=N->Tw (kc k) N (λr=>Pm N r/\So k r N) (kas_bin f p q)
 | 0,p,q,P,S,e=>⟨P,by rw [<-e];exact S⟩
 | f+1,p,q,P,S,e=>by
   refine Tw.bind (λz ⟨u,m,n⟩=>?_) _ (K6 P d ⋯ S q 0 q (Ae _) (AO _) ⋯ (λi h=>by omega) λi a b=>by omega);refine OV d f _ (q+1) ((bubble_perm _ _ _).trans P) (λi j o v=>?_) ⋯
   have g:∀ i,kp k (bubble p q (q - z)) i=if i=z then kp k p q else if z<i/\i<=q then kp k p (i - 1) else kp k p i:=λi=>by
    have b:=getElem?_bubble (xs:=p) (src:=q) (by rw [P.size];omega) (q - z) ⋯ i;rw [show q - (q - z)=z by omega] at b;split at b
    ·rw [qU (by assumption)];exact Jf b
    ·rw [qT (by assumption)];split at b
     ·rw [qU (by assumption)];exact Jf b
     ·rw [qT (by assumption)];exact Jf b
   rw [g i,g j];by_cases a:i=z
   ·rw [qU a,qT ⋯,qU ⋯];exact n _ ⋯ ⋯
   ·rw [qT a];by_cases b:j=z
    ·rw [qU b,qT ⋯];exact m _ ⋯
    ·rw [qT b];split
     ·rw [qU ⋯];exact S _ _ ⋯ ⋯
     ·split
      ·by_cases c:i=j - 1
       ·omega
       ·exact S _ _ ⋯ ⋯
      ·exact S _ _ ⋯ ⋯
theorem X7 (a:∀ i j,i<N->j<N->i≠j->k i≠k j) (b:2<=N):Tw (kc k) N (λr=>Pm N r/\So k r N) (kas_sort N):=by
 refine Tw.bind (λr ⟨P,S,d,f⟩=>?_) _ (X6 (Array.Perm.refl _) a b);rw [show max r.1 1=r.1 by omega];by_cases c:r.1<N
 ·rw [qU c];exact OV a _ _ _ P S ⋯
 ·rw [qT c];have e:r.1=N:=by omega
  rw [e] at S;exact ⟨P,S⟩
end
end Bs
namespace Bs
open PySem PySem.Spec PySem.Calls PyProof.Rows L2
abbrev FB (h:Heap) (z TI TO T:Addr) (b:Bool):Prop:=
 h.get? z=some { cls:=.type "zip", dict:=none,data:=.fields #[rawInt T,.bool b,.bool false,.ref TI,.ref TO],slots:=#[] }
section
variable {prog:Program} {w:World} {A:Around} {E:cQ} {s:Shared}
theorem X8 {a:Addr} {Q:Option Obj->Shared->Prop} (h:Q (s.heap.get? a) s):wpAny (model prog w) A (loadIfAlive a) Q E s:=λ_ _ _=>h
theorem OW {z TI TO T:Addr} {b:Bool} {o:Obj} {Q:Bool->Shared->Prop} (d:FB s.heap z TI TO T b) (i:s.heap.get? T=some o)
  (f:∀ e,FB e z TI TO T true->Heap.SameBut z s.heap e->Q false { s with heap:=e }):wpAny (model prog w) A (Builtin.SmallTypes.ownedTupleIsFree (.ref z)) Q E s:=by
 unfold Builtin.SmallTypes.ownedTupleIsFree;refine qY (wpAny_field d rfl (x:=rawInt T) rfl ?_);show wpAny _ _ (loadIfAlive ((T:Int).toNat) >>= _) _ _ _;rw [D8];refine qY (X8 ?_);rw [i];refine qY (wpAny_field d rfl (x:=.bool b) rfl ?_);cases b with
 | true=>exact qZ (f _ d (Heap.SameBut.refl ..))
 | false=>
   refine qY (wpAny_setField_rec d (by simp) λh a c=>qZ (f _ a c))
theorem X9 {z TI TO T h i u l2:Addr} {b:Bool} {o:Obj} {B C:Nat} {xs ys:Array Value} {x y:Value} {Q:cQ} (D:ZipApart z TI TO h i u l2)
  (F:FB s.heap z TI TO T b) (G:IsPair s.heap TI (.ref h) (.ref i)) (N:s.heap.get? T=some o)
  (O:s.heap.IsListIter h u B) (P:s.heap.IsListIter i l2 C) (H:s.heap.IsList u xs) (I:s.heap.IsList l2 ys) (R:xs[B]?=some x) (S:ys[C]?=some y)
  (U:∀ n,FB n z TI TO T true->n.IsListIter h u (B+1)->n.IsListIter i l2 (C+1)->IsPair n s.heap.objs.size x y->
   (∀ c o,c≠z->c≠h->c≠i->s.heap.get? c=some o->n.get? c=some o)->Q (.ref s.heap.objs.size) { s with heap:=n }) :
  wpAny (model prog w) A (Builtin.«zip.__next__» ⟨[.ref z],[]⟩) (λJ W=>∃ v,J=.done (.ret v)/\Q v W) E s:=by
 show wpAny _ _ (field (.ref z) 2 >>= _) _ _ _;refine qY (wpAny_field F rfl (x:=.bool false) rfl ?_);show wpAny _ _ (field (.ref z) 3 >>= _) _ _ _;refine qY (wpAny_field F rfl (x:=.ref TI) rfl ?_);refine qY (wpAny_seqItems G rfl ?_);show wpAny _ _ (Builtin.SmallTypes.ownedTupleIsFree (.ref z) >>= _) _ _ _;refine qY (OW F N λL j a=>?_);simp only [FO,if_false];refine qY ?_;rw [<-Array.forIn_toList];simp only [List.forIn_cons,List.forIn_nil];refine qY (qY (wpAny_holding ?_));show wpAny _ _ (Builtin.SmallTypes.nextOf (.ref h) >>= _) _ _ _;refine qY (wpAny_nextOf_list_item (O.extBut a.extBut D.i1z) (H.extBut a.extBut D.l1z) R λM k d=>qZ ?_);refine qZ ?_;refine qY (qY (wpAny_holding ?_));show wpAny _ _ (Builtin.SmallTypes.nextOf (.ref i) >>= _) _ _ _;refine qY (wpAny_nextOf_list_item ((P.extBut a.extBut D.i2z).extBut d.extBut D.i12.symm) ((I.extBut a.extBut D.l2z).extBut d.extBut D.l2i1) S λg m f=>qZ ?_);refine qZ (qZ ?_);refine qY (wpAny_newTuple (qZ ⟨_,rfl,?_⟩) (by show 2<=sizeLine;rw [sizeLine_eq];decide));have e:g.objs.size=s.heap.objs.size:=by rw [f.1,d.1,a.1]
 show Q (.ref g.objs.size) { s with heap:=g.push { cls:=.type "tuple", data:=.seq #[x,y] } };have X:∀ c o,c≠z->c≠h->c≠i->s.heap.get? c=some o->(g.push { cls:=.type "tuple", data:=.seq #[x,y] }).get? c=some o:=λc o Y Z c4 q=>Heap.get?_push_of_some _ (f.extBut _ _ c4 (d.extBut _ _ Z (a.extBut _ _ Y q)));rw [e];refine U _ (Heap.get?_push_of_some _ (f.extBut _ _ D.i2z.symm (d.extBut _ _ D.i1z.symm j))) ((k.extBut f.extBut D.i12).at λo q=>Heap.get?_push_of_some _ q) (m.at λo q=>Heap.get?_push_of_some _ q) ?_ X;rw [<-e];exact Heap.get?_push_size _ rfl
theorem YA {z TI TO T f p h l2:Addr} {b:Bool} {o:Obj} {r:Nat} {xs:Array Value} {Q:Fin->Shared->Prop} (y:A.handled=none) (D:ZipApart z TI TO f p h l2)
  (i:FB s.heap z TI TO T b) (j:IsPair s.heap TI (.ref f) (.ref p)) (B:s.heap.get? T=some o)
  (C:s.heap.IsListIter f h r) (k:s.heap.IsList h xs) (F:xs[r]?=none)
  (G:∀ m e,(∀ c o,c≠z->c≠f->s.heap.get? c=some o->m.get? c=some o)->(∃ o,m.get? e=some o/\o.cls=.type "StopIteration")->E (.ref e) { s with heap:=m }) :
  wpAny (model prog w) A (Builtin.«zip.__next__» ⟨[.ref z],[]⟩) Q E s:=by
 show wpAny _ _ (field (.ref z) 2 >>= _) _ _ _;refine qY (wpAny_field i rfl (x:=.bool false) rfl ?_);show wpAny _ _ (field (.ref z) 3 >>= _) _ _ _;refine qY (wpAny_field i rfl (x:=.ref TI) rfl ?_);refine qY (wpAny_seqItems j rfl ?_);show wpAny _ _ (Builtin.SmallTypes.ownedTupleIsFree (.ref z) >>= _) _ _ _;refine qY (OW i B λv n a=>?_);simp only [FO,if_false];refine qY ?_;rw [<-Array.forIn_toList];simp only [List.forIn_cons,List.forIn_nil];refine qY (qY (wpAny_holding ?_));show wpAny _ _ (Builtin.SmallTypes.nextOf (.ref f) >>= _) _ _ _;exact qY (wpAny_nextOf_list_end y (C.extBut a.extBut D.i1z) (k.extBut a.extBut D.l1z) F λg e d H=>G g e (λc o I J q=>d _ _ J (a.extBut _ _ I q)) H)
theorem YB {z TI TO T d e g l2:Addr} {b:Bool} {o:Obj} {h i:Nat} {xs ys:Array Value} {x y:Value} {Q:cZ->Shared->Prop} (D:ZipApart z TI TO d e g l2)
  (n:FB s.heap z TI TO T b) (j:IsPair s.heap TI (.ref d) (.ref e)) (q:s.heap.get? T=some o)
  (r:s.heap.IsListIter d g h) (u:s.heap.IsListIter e l2 i) (k:s.heap.IsList g xs) (m:s.heap.IsList l2 ys) (v:xs[h]?=some x) (B:ys[i]?=some y)
  (C:∀ a,FB a z TI TO T true->a.IsListIter d g (h+1)->a.IsListIter e l2 (i+1)->IsPair a s.heap.objs.size x y->
   (∀ c o,c≠z->c≠d->c≠e->s.heap.get? c=some o->a.get? c=some o)->Q (some (.ref s.heap.objs.size)) { s with heap:=a }) :
  wpAny (model prog w) A (pyNext (.ref z)) Q E s:=by
 have f:s.TypeIs (.ref z) "zip" := ⟨_,n,rfl⟩;unfold pyNext
 exact qY (wpAny_attempt (wpAny_callSpecial?_slot (name:=Str.ofString "__next__") f PySem.F.slot_zip_next
  (wpAny_call_entry PySem.F.slot_zip_next f PySem.F.entry_zip_next
   (X9 D n j q r u k m v B λa F G H I J=>qZ (C a F G H I J)) (PySem.F.args_zip_next_1 _))))
theorem YC {z TI TO T d j f l2:Addr} {b:Bool} {o:Obj} {k:Nat} {xs:Array Value} {Q:cZ->Shared->Prop} (p:A.handled=none) (D:ZipApart z TI TO d j f l2)
  (m:FB s.heap z TI TO T b) (g:IsPair s.heap TI (.ref d) (.ref j)) (q:s.heap.get? T=some o)
  (r:s.heap.IsListIter d f k) (h:s.heap.IsList f xs) (u:xs[k]?=none)
  (v:∀ i,(∀ c o,c≠z->c≠d->s.heap.get? c=some o->i.get? c=some o)->Q none { s with heap:=i }):wpAny (model prog w) A (pyNext (.ref z)) Q E s:=by
 have a:s.TypeIs (.ref z) "zip" := ⟨_,m,rfl⟩;unfold pyNext
 refine qY (wpAny_attempt (wpAny_callSpecial?_slot (name:=Str.ofString "__next__") a PySem.F.slot_zip_next
  (wpAny_call_entry PySem.F.slot_zip_next a PySem.F.entry_zip_next (YA p D m g q r h u λi e hk x=>?_) (PySem.F.args_zip_next_1 _))))
 obtain ⟨o,y,B⟩:=x;refine qY (wpAny_isInstance (T := "StopIteration") (b:=true) ⟨o,y,B⟩ isSubtype_stop ?_);exact qZ (v _ hk)
end
structure ZFp (z TI TO i1 i2 l1 l2 N0:Addr):Prop where
 D:ZipApart z TI TO i1 i2 l1 l2
 zN:z<N0
 oN:TO<N0
 aN:i1<N0
 bN:i2<N0
def ZS (z TI TO a c d l2:Addr) (xs ys:Array Value) (e i:Nat) (h:Heap):Prop:=
 IsPair h TI (.ref a) (.ref c)/\h.IsListIter a d i/\h.IsListIter c l2 i/\h.IsList d xs/\h.IsList l2 ys/\e<=h.objs.size/\
  ((IsZip h z TI TO .none/\∃ u v,IsPair h TO u v)\/∃ T b u v,e<=T/\FB h z TI TO T b/\IsPair h T u v)
theorem nN {a N c:Addr} (h:a<N) (l:N<=c):c≠a:=Cy (CA h l)
def Zps (xs ys:Array Value) (b:Nat) (h:Heap) (as:c_):Prop:=∀ (j:Nat) (a:Addr),as[j]?=some a->b<=a/\∃ x y,xs[j]?=some x/\ys[j]?=some y/\IsPair h a x y
theorem Zps.keep {xs ys:Array Value} {b:Nat} {h h':Heap} {as:c_} (p:Zps xs ys b h as) (k:∀ c o,b<=c->h.get? c=some o->h'.get? c=some o):Zps xs ys b h' as:=λj a e=>
 let ⟨l,x,y,d,f,g⟩:=p j a e;⟨l,x,y,d,f,k _ _ l g⟩
theorem Zps.push {xs ys:Array Value} {f:Nat} {h:Heap} {as:c_} {a:Addr} {x y:Value} (p:Zps xs ys f h as) (l:f<=a) (g:xs[as.length]?=some x) (i:ys[as.length]?=some y) (k:IsPair h a x y):Zps xs ys f h (as++[a]):=λj b e=>by
 rw [List.getElem?_append] at e;split at e
 ·exact p j b e
 ·rename_i c
  have m:j=as.length:=by
   rcases A8 (j - as.length) 1 with d | d
   ·omega
   ·rw [Bx (by simpa using d)] at e;cases e
  subst m;rw [Nat.sub_self] at e;cases e;exact ⟨l,x,y,g,i,k⟩
section
variable {prog:Program} {w:World} {A:Around} {E:cQ} {s:Shared} {z TI TO i1 i2 l1 l2 N0:Addr} {xs ys:Array Value} {i:Nat}
theorem ZS.keep {h h':Heap} (Z:ZS z TI TO i1 i2 l1 l2 xs ys N0 i h) {S:Addr} (g:S≠z/\S≠TI/\S≠TO/\S≠i1/\S≠i2/\S≠l1/\S≠l2/\S<N0) (k:∀ c o,c≠S->h.get? c=some o->h'.get? c=some o) (n:h.objs.size<=h'.objs.size):ZS z TI TO i1 i2 l1 l2 xs ys N0 i h':=by
 obtain ⟨j,m,p,r,x,y,B⟩:=Z;obtain ⟨e,C,D,F,G,H,I,J⟩:=g;refine ⟨k _ _ C.symm j,m.at λo q=>k _ _ F.symm q,p.at λo q=>k _ _ G.symm q,r.at λo q=>k _ _ H.symm q,x.at λo q=>k _ _ I.symm q,BT y n,?_⟩;rcases B with ⟨a,u,v,d⟩ | ⟨T,b,u,v,f,a,d⟩
 ·exact .inl ⟨k _ _ e.symm a,u,v,k _ _ D.symm d⟩
 ·exact .inr ⟨T,b,u,v,f,k _ _ e.symm a,k _ _ (nN J f) d⟩
theorem ZS.item {x y:Value} {Q:cZ->Shared->Prop} (F:ZFp z TI TO i1 i2 l1 l2 N0) (Z:ZS z TI TO i1 i2 l1 l2 xs ys N0 i s.heap) (B:xs[i]?=some x) (C:ys[i]?=some y)
  (G:∀ d,ZS z TI TO i1 i2 l1 l2 xs ys N0 (i+1) d->IsPair d s.heap.objs.size x y->(∀ c o,c≠z->c≠TO->c≠i1->c≠i2->s.heap.get? c=some o->d.get? c=some o)->Q (some (.ref s.heap.objs.size)) { s with heap:=d }) :
  wpAny (model prog w) A (pyNext (.ref z)) Q E s:=by
 obtain ⟨f,I,J,g,h,K,L⟩:=Z;have D:=F.D;rcases L with ⟨m,u,v,j⟩ | ⟨T,b,u,v,k,m,j⟩
 ·refine wpAny_pyNext_zip_item D m f j I J g h B C λd n P p r e R a=>G d ⟨a _ _ D.TIz D.TITO D.TIi1 D.TIi2 f,p,r,g.at λo q=>a _ o D.l1z D.l1TO D.l1i1 D.l1i2 q,h.at λo q=>a _ o D.l2z D.l2TO D.l2i1 D.l2i2 q,⋯,.inr ⟨_,false,x,y,K,n,e⟩⟩ e a
 ·refine YB D m f j I J g h B C λd n p r e a=>G d ⟨a _ _ D.TIz D.TIi1 D.TIi2 f,p,r,g.at λo q=>a _ o D.l1z D.l1i1 D.l1i2 q,h.at λo q=>a _ o D.l2z D.l2i1 D.l2i2 q,BT K (Dn (pH e)),.inr ⟨T,true,u,v,k,n,a _ _ (nN F.zN k) (nN F.aN k) (nN F.bN k) j⟩⟩ e λc o M _ N O q=>a c o M N O q
theorem ZS.done {Q:cZ->Shared->Prop} (f:A.handled=none) (F:ZFp z TI TO i1 i2 l1 l2 N0) (Z:ZS z TI TO i1 i2 l1 l2 xs ys N0 i s.heap) (g:xs[i]?=none)
  (h:∀ a,(∀ c o,c≠z->c≠TO->c≠i1->c≠i2->s.heap.get? c=some o->a.get? c=some o)->Q none { s with heap:=a }):wpAny (model prog w) A (pyNext (.ref z)) Q E s:=by
 obtain ⟨k,m,p,n,r,D,x⟩:=Z;rcases x with ⟨d,u,v,e⟩ | ⟨T,b,u,v,G,d,e⟩
 ·exact wpAny_pyNext_zip_end f F.D d k e m p n r (.inl g) h
 ·exact YC f F.D d k e m n g λa y=>h a λc o B _ C _ q=>y c o B C q
theorem YD {R:Result->Shared->Prop} (K:A.handled=none) (F:ZFp z TI TO i1 i2 l1 l2 N0) (T:xs.size=ys.size) (U:xs.size<=sizeLine) {S:Addr} (b:S≠z/\S≠TI/\S≠TO/\S≠i1/\S≠i2/\S≠l1/\S≠l2/\S<N0) (m:Value) :
  ∀ (k i:Nat) (s:Shared) (as:c_) (c:Nat),xs.size - i=k->i<=xs.size->ZS z TI TO i1 i2 l1 l2 xs ys N0 i s.heap->s.heap.get? S=some { cls:=.type "list", dict:=none,data:=.seq (as.map Value.ref).toArray c,slots:=#[] }->as.length=i->Zps xs ys N0 s.heap as->
  (∀ e d y,(∀ c o,c≠S->c≠z->c≠TO->c≠i1->c≠i2->s.heap.get? c=some o->e.get? c=some o)->e.get? S=some { cls:=.type "list", dict:=none,data:=.seq (d.map Value.ref).toArray y,slots:=#[] }->d.length=xs.size->Zps xs ys N0 e d->R (.ok (.ret m)) { s with heap:=e })->
  codeAny (model prog w) A (.builtin "list.extend.loop" ⟨[.ref S,.ref z,m],[]⟩) R s:=by
 intro k
 induction k with
 | zero=>
   intro i s as c hk L Z h p P B;refine codeAny_builtin PySem.F.entry_extend_loop ?_;rw [Around.under_plainId PySem.F.plain_extend_loop _];show wpAny _ A.in1 (pyNext (.ref z) >>= _) _ _ s;refine qY (ZS.done (A:=A.in1) K F Z (Array.getElem?_eq_none ⋯) λe j=>?_);exact qZ (B e as c (λc o _ r u v x q=>j c o r u v x q) (j _ _ b.1 b.2.2.1 b.2.2.2.1 b.2.2.2.2.1 h) ⋯ (P.keep λc o a q=>j c o (nN F.zN a) (nN F.oN a) (nN F.aN a) (nN F.bN a) q))
 | succ k M=>
   intro i s as c hk L Z h p P B;refine codeAny_builtin PySem.F.entry_extend_loop ?_;rw [Around.under_plainId PySem.F.plain_extend_loop _];show wpAny _ A.in1 (pyNext (.ref z) >>= _) _ _ s;have l1:i<xs.size:=by omega
   have l2:i<ys.size:=by omega
   refine qY (ZS.item F Z (Array.getElem?_eq_getElem l1) (Array.getElem?_eq_getElem l2) λe N hp j=>?_);have g:=j _ _ b.1 b.2.2.1 b.2.2.2.1 b.2.2.2.2.1 h;have I:N0<=s.heap.objs.size:=Z.2.2.2.2.2.1;have O:∀ c o,N0<=c->s.heap.get? c=some o->e.get? c=some o:=λc o a q=>j c o (nN F.zN a) (nN F.oN a) (nN F.aN a) (nN F.bN a) q;have f:∀ c o,c≠S->e.get? c=some o->(e.update S (Obj.mapSeq (·.push (.ref s.heap.objs.size)))).get? c=some o:=λc o a q=>(Heap.get?_update_other _ _ (Ne.symm a)).trans q;show wpAny _ A.in1 (updateSeq S (·.push (.ref s.heap.objs.size)) >>= _) _ _ _;refine qY (wpAny_updateSeq g rfl (qZ ⟨plainId_quiet PySem.F.plain_extend_loop _,M (i+1) _ (as++[s.heap.objs.size]) (c+1) ⋯ l1 (N.keep b f (by rw [Heap.size_update];exact AO _)) ?_ (by rw [Bw,p];rfl) ?_ λC d y D n G Q=>?_⟩) ?_ ?_)
   ·rw [Heap.get?_update_self _ g rfl];simp [Obj.mapSeq]
   ·refine Zps.push ((P.keep O).keep λc o a q=>f c o (nN b.2.2.2.2.2.2.2 a) q) I ?_ ?_ (f _ _ (nN b.2.2.2.2.2.2.2 I) hp)
    ·rw [p];exact Array.getElem?_eq_getElem l1
    ·rw [p];exact Array.getElem?_eq_getElem l2
   ·exact B C d y (λc o J r u v x q=>D c o J r u v x (f c o J (j c o r u v x q))) n G Q
   ·rw [BE,AG];omega
   ·show Array.size (Array.push _ _)<=_;rw [Array.size_push,BE,AG];omega
end
theorem YE:typeLookup (.type "zip") "__len__" = pure none:=by rw [typeLookup_type,builtinLookup_eq_fast];kernel_rfl
theorem YF:typeLookup (.type "zip") "__length_hint__" = pure none:=by rw [typeLookup_type,builtinLookup_eq_fast];kernel_rfl
section
variable {prog:Program} {w:World} {A:Around} {E:cQ} {s:Shared} {z TI TO i1 i2 l1 l2:Addr} {xs ys:Array Value}
theorem YG {Q:cP->Shared->Prop} (O:A.handled=none) (D:ZipApart z TI TO i1 i2 l1 l2) (R:xs.size=ys.size) (S:xs.size<=sizeLine)
  (B:IsZip s.heap z TI TO .none) (n:IsPair s.heap TI (.ref i1) (.ref i2)) (p:IsPair s.heap TO .none .none) (H:s.heap.IsListIter i1 l1 0) (I:s.heap.IsListIter i2 l2 0) (r:s.heap.IsList l1 xs) (u:s.heap.IsList l2 ys)
  (T:∀ m as,(∀ c o,c≠z->c≠TO->c≠i1->c≠i2->s.heap.get? c=some o->m.get? c=some o)->as.length=xs.size->Zps xs ys s.heap.objs.size m as->s.heap.objs.size<m.objs.size->Q (as.map Value.ref) { s with heap:=m }):wpAny (model prog w) A (collect (.ref z)) Q E s:=by
 have J:z<s.heap.objs.size:=pH B;have U:TI<s.heap.objs.size:=pH n;have K:TO<s.heap.objs.size:=pH p;have L:i1<s.heap.objs.size:=by obtain ⟨_,e,_⟩:=H;exact pH e
 have M:i2<s.heap.objs.size:=by obtain ⟨_,e,_⟩:=I;exact pH e
 have ll:l1<s.heap.objs.size:=by obtain ⟨_,e,_⟩:=r;exact pH e
 have W:l2<s.heap.objs.size:=by obtain ⟨_,e,_⟩:=u;exact pH e
 have C:s.heap.objs.size≠z/\s.heap.objs.size≠TI/\s.heap.objs.size≠TO/\s.heap.objs.size≠i1/\s.heap.objs.size≠i2/\s.heap.objs.size≠l1/\s.heap.objs.size≠l2/\s.heap.objs.size<s.heap.objs.size+1:=⟨Cy J,Cy U,Cy K,Cy L,Cy M,Cy ll,Cy W,Dr _⟩;have F:ZFp z TI TO i1 i2 l1 l2 (s.heap.objs.size+1):=⟨D,Nat.lt_succ_of_lt J,Nat.lt_succ_of_lt K,Nat.lt_succ_of_lt L,Nat.lt_succ_of_lt M⟩;unfold collect;refine qY (wpAny_runValue (codeAny_builtin PySem.F.entry_proto_collect ?_));rw [Around.under_plainId PySem.F.plain_proto_collect _];show wpAny _ A.in1 (newList [] >>= λl=>again (.builtin "list.__iadd__" ⟨[l,.ref z],[]⟩)) _ _ s;refine qY (wpAny_newObj_type ?_);refine qZ ⟨plainId_quiet PySem.F.plain_list_iadd _,codeAny_builtin PySem.F.entry_list_iadd ?_⟩;rw [Around.under_plainId PySem.F.plain_list_iadd _];have g:(s.heap.push { cls:=.type "list", data:=.seq ([]:cP).toArray }).get? s.heap.objs.size=some { cls:=.type "list", data:=.seq ([]:cP).toArray }:=Heap.get?_push_size _ rfl;have i:∀ c o,s.heap.get? c=some o->(s.heap.push { cls:=.type "list", data:=.seq ([]:cP).toArray }).get? c=some o:=λc o q=>Heap.get?_push_of_some _ q;have G:Shared.TypeIs ({ s with heap:=s.heap.push { cls:=.type "list", data:=.seq ([]:cP).toArray } }:Shared) (.ref z) "zip" := ⟨_,i _ _ B,rfl⟩;show wpAny _ A.in1 (Builtin.List.listExtendWith (.ref s.heap.objs.size) (.ref z) (.ref s.heap.objs.size)) _ _ _;unfold Builtin.List.listExtendWith;refine qY (wpAny_typeOf G ?_);have X:Builtin.List.listSameRef (.ref s.heap.objs.size) (.ref z)=false:=by simp [Builtin.List.listSameRef,C.1]
 have Y:(Value.type "zip" == Value.type "list")=false:=by decide
 have q3:(Value.type "zip" == Value.type "tuple")=false:=by decide
 simp only [X,Y,q3,Bool.or_false,FO,if_false];refine qY (wpAny_pyIter_zip (i _ _ B) ?_);refine qY (wpAny_holding ?_);unfold Builtin.List.listLengthHint;refine qY (wpAny_specialOf G YE ?_);show wpAny _ A.in1 (specialOf (Value.ref z) (Str.ofString "__length_hint__") >>= _) _ _ _;refine qY (wpAny_specialOf G YF ?_);refine qZ ?_
 show wpAny _ A.in1 (rule "list.extend.makes-room" >>= λ_=>Builtin.List.listTouch (.ref s.heap.objs.size) >>= λ_=>
  again (.builtin "list.extend.loop" ⟨[.ref s.heap.objs.size,.ref z,.ref s.heap.objs.size],[]⟩)) _ _ _
 refine qY (wpAny_rule ?_);refine qY ?_;show wpAny _ A.in1 (updateSeq s.heap.objs.size (·.push .none) >>= λ_=>updateSeq s.heap.objs.size (·.pop)) _ _ _;refine qY (wpAny_updateSeq g rfl ?_);have h:=Heap.get?_update_self (Obj.mapSeq (·.push Value.none)) g rfl;refine wpAny_updateSeq h rfl ?_;have k:=Heap.get?_update_self (Obj.mapSeq (·.pop)) h rfl
 have x:∀ b o,b≠s.heap.objs.size->(s.heap.push { cls:=.type "list", data:=.seq ([]:cP).toArray }).get? b=some o->
   (((s.heap.push { cls:=.type "list", data:=.seq ([]:cP).toArray }).update s.heap.objs.size (Obj.mapSeq (·.push Value.none))).update s.heap.objs.size (Obj.mapSeq (·.pop))).get? b=some o:=
  λb o N e=>(Heap.get?_update_other _ _ (Ne.symm N)).trans ((Heap.get?_update_other _ _ (Ne.symm N)).trans e)
 have Z:ZS z TI TO i1 i2 l1 l2 xs ys (s.heap.objs.size+1) 0 (s.heap.push { cls:=.type "list", data:=.seq ([]:cP).toArray }):=⟨i _ _ n,H.at λo q=>i _ _ q,I.at λo q=>i _ _ q,r.at λo q=>i _ _ q,u.at λo q=>i _ _ q,by rw [size_push'];exact AO _,.inl ⟨i _ _ B,_,_,i _ _ p⟩⟩;refine qZ ⟨plainId_quiet PySem.F.plain_extend_loop _,YD O F R S C _ xs.size 0 _ [] 2 rfl (Ae _) (Z.keep C x (by rw [Heap.size_update,Heap.size_update];exact AO _)) (by rw [k];simp [Obj.mapSeq]) rfl (λj a e=>nomatch e) λm as c' kk y la P=>?_⟩;show wpAny _ A (load s.heap.objs.size >>= _) _ _ _;refine qY (wpAny_load y ?_);refine qZ (T m as (λc o c1 c2 c3 c4 q=>kk c o (A6 (pH q)) c1 c2 c3 c4 (x c o (A6 (pH q)) (i c o q))) la (λj a e=>⟨Nat.le_of_succ_le (P j a e).1,(P j a e).2⟩) (pH y))
end
end Bs
namespace Bs
open PySem PySem.Spec PySem.Calls PySem.W PyProof.Rows L2
section
variable {prog:Program} {w:World} {A:Around} {E:cQ} {s:Shared}
theorem OX {h:Heap}:∀ (as:c_),(∀ b∈as,∃ n t y,IsPair h b (.int n t) y)->∃ c,KatTups h (as.map Value.ref) c/\(∀ v∈c,∃ n t,v=.int n t)/\c.length=as.length
 | [],_=>⟨[],trivial,(λ_ h=>nomatch h),rfl⟩
 | a::as,hp=>by
   obtain ⟨n,t,y,e⟩:=hp a (BL ..);obtain ⟨c,k,q,l⟩:=OX as λb d=>hp b (BW _ d);refine ⟨.int n t::c,KatTups.cons e rfl rfl rfl k,λv f=>?_,by rw [CO,CO,l]⟩;rcases A7.mp f with z | z
   ·exact ⟨n,t,z⟩
   ·exact q v z
theorem YH {L a:Addr} {m:cU} {e:Nat} {as:c_} {ks:d7} {P:PySem.Fin->Shared->Prop} (Y:s.heap.Ns L m) (Z:s.heap.get? a=some (seqObj "list" (as.map Value.ref).toArray e)) (J:a≠L) (h2:2<=as.length) (a0:as.length<64)
  (hp:∀ (j:Nat) (b:Addr),as[j]?=some b->b≠a/\b≠L/\∃ t y,IsPair s.heap b (.int (ks j) t) y) (D:∀ i j,i<as.length->j<as.length->i≠j->ks i≠ks j)
  (h:∀ p d c,Pm as.length p->So ks p as.length->d.Ns L m->(∀ b o,b≠a->b≠L->s.heap.get? b=some o->d.get? b=some o)->d.get? a=some (seqObj "list" (p.toList.map λi=>(as.map Value.ref).getD i Value.none).toArray c)->P (.done (.ret .none)) { s with heap:=d }) :
  wpAny (model prog w) A (Builtin.«list.sort» ⟨[.ref a],[]⟩) P E s:=by
 have ll:(as.map Value.ref).length=as.length:=AG ..;refine kat_list_sort (h₀:=Att.noObjs s.heap) (L:=L) (m:=m) (news:=(Att.ledger s.heap L L).filter λp=>decide (p.1≠a)) (vs:=as.map Value.ref) (Att.fr_all Y) (λp hp=>?_) Z J (Att.noObjs_get _ _) (λp hp=>qW (ET.mp hp).2) ⋯ ⋯ λe1 d F' W=>?_
 ·obtain ⟨K,_,e⟩:=Att.mem_ledger.mp (ET.mp hp).1;exact ⟨e,K,Att.noObjs_get _ _⟩
 have kk:∀ b o,b≠a->b≠L->s.heap.get? b=some o->d.get? b=some o:=λb o M F q=>(W (b,o) (BW _ (ET.mpr ⟨Att.mem_ledger.mpr ⟨F,F,q⟩,qV M⟩))).1
 have k:∀ (j:Nat) (b:Addr),as[j]?=some b->∃ t y,IsPair d b (.int (ks j) t) y:=λj b q=>by
  obtain ⟨K,n2,t,y,i⟩:=hp j b q;exact ⟨t,y,kk _ _ K n2 i⟩
 obtain ⟨fs,kt,fi,fl⟩:=OX as λb hb=>by
  obtain ⟨j,G⟩:=List.getElem?_of_mem hb;obtain ⟨t,y,i⟩:=k j b G;exact ⟨_,t,y,i⟩
 refine kat_kind (s:={ s with heap:=d }) (T:=Value.type "int") kt ⋯ (λv hv=>by obtain ⟨n,t,rfl⟩:=fi v hv;exact .now) ∅ ?_;rw [ll];refine Tw.wp (c:=kc ks) (N:=as.length) (Q:=λr=>Pm as.length r/\So ks r as.length) (I:=λx=>x={ s with heap:=d }) (λi j C x B G O R hC=>?_) (λp x X R=>?_) _ _ (X7 D h2) rfl
 ·subst R;obtain ⟨t,y,p1⟩:=k i _ (Aj B);obtain ⟨u,z,p2⟩:=k j _ (Aj G);have g:∀ i (B:i<as.length),(as.map Value.ref).getD i Value.none=.ref as[i]:=λi B=>by simp [List.getD,B]
  show wpAny _ _ (keyLt' _ ((as.map Value.ref).getD i Value.none) ((as.map Value.ref).getD j Value.none)) _ _ _;rw [g i B,g j G];refine kat_lt p1 rfl p2 rfl (kat_cons (wpAny_eqBool_int ?_));rw [show (ks i == ks j)=false from beq_eq_false_iff_ne.mpr (D i j B G O)];exact kat_no (oneLt_int (hC _ rfl))
 ·subst R;refine KasFin.intro F' W (.head λp hp=>qW (ET.mp hp).2) λS c U H=>?_;exact h p S c X.1 X.2 U.ns (λb o M F q=>(H (b,o) (BW _ (ET.mpr ⟨Att.mem_ledger.mpr ⟨F,F,q⟩,qV M⟩))).1) (H _ (BL ..)).1
end
section
variable {prog:Program} {w:World} {A:Around} {E:cQ} {s:Shared}
theorem YI {a:Addr} {e:Nat} {vs:cP} {P:PySem.Fin->Shared->Prop} (j:s.heap.get? a=some (seqObj "list" vs.toArray e)) (p:vs.length<2)
  (h:∀ k c,(∀ b o,b≠a->s.heap.get? b=some o->k.get? b=some o)->k.get? a=some (seqObj "list" vs.toArray c)->P (.done (.ret .none)) { s with heap:=k }) :
  wpAny (model prog w) A (Builtin.«list.sort» ⟨[.ref a],[]⟩) P E s:=by
 rw [list_sort_plain];have v:a<s.heap.objs.size:=pH j;refine qY (listItems_at j rfl ?_);refine qY (listUpdate_at j rfl ?_ (by rw [BE,sizeLine_eq];omega) (Ae _));obtain ⟨m,g⟩:∃ m,(s.heap.update a (Obj.mapSeq λ_=>#[])).get? a=some (seqObj "list" #[] m):=⟨_,get?_update_seq j (λ_=>#[])⟩;refine qY (seqEpoch_at g rfl ?_);refine qY (wpAny_newTuple ?_ (by show vs.length<=_;rw [sizeLine_eq];omega));refine qY (wpAny_newList ?_ (Ae _));refine wpAny_holding ?_;have d:(((s.heap.update a (Obj.mapSeq λ_=>#[])).push (seqObj "tuple" vs.toArray 0)).push (seqObj "list" #[] 0)).get? a=some (seqObj "list" #[] m):=Heap.get?_push_of_some _ (Heap.get?_push_of_some _ g);show wpAny (model prog w) A _ P E { s with heap:=((s.heap.update a (Obj.mapSeq λ_=>#[])).push (seqObj "tuple" vs.toArray 0)).push (seqObj "list" #[] 0) };dsimp only;have i:vs.toArray.size<2:=by rw [BE];exact p
 rw [qU i,qU i];refine qY (qZ ?_);rw [StateT.run_pure];refine qY (qZ ?_);dsimp only
 have r:(arrOf (SortSt.mk' general' (vs.toArray.zip vs.toArray) #[] 7 none)).map (·.2)=vs.toArray:=by
  show (vs.toArray.zip vs.toArray).map (·.2)=vs.toArray;apply Array.toList_inj.mp;simp [List.map_snd_zip]
 refine qY (seqEpoch_at d rfl ?_);rw [r];refine qY (listUpdate_at d rfl ?_ (Ae _) (by show vs.toArray.size<=_;rw [BE,sizeLine_eq];omega));simp only [bne_self_eq_false,FO,if_false];obtain ⟨c,u⟩:∃ c,((((s.heap.update a (Obj.mapSeq λ_=>#[])).push (seqObj "tuple" vs.toArray 0)).push (seqObj "list" #[] 0)).update a (Obj.mapSeq λ_=>vs.toArray)).get? a=some (seqObj "list" vs.toArray c):=⟨_,get?_update_seq d (λ_=>vs.toArray)⟩;exact qZ (h _ c (λb o n q=>(Heap.get?_update_other _ _ (Ne.symm n)).trans (Heap.get?_push_of_some _ (Heap.get?_push_of_some _ ((Heap.get?_update_other _ _ (Ne.symm n)).trans q)))) u)
theorem YJ (as:c_):((List.range as.length).toArray.toList.map λi=>(as.map Value.ref).getD i Value.none)=as.map Value.ref:=by
 apply FP;intro i;simp only [Ac,List.getD];rcases A8 i as.length with h | h
 ·simp [h]
 ·simp [h]
theorem YK {z TI TO n u F l2 L:Addr} {m:cU} {xs ys:Array Value} {ks:d7} {Q:cQ} (hh:A.handled=none) (D:ZipApart z TI TO n u F l2) (hl:xs.size=ys.size) (a0:xs.size<64)
  (hz:IsZip s.heap z TI TO .none) (G:IsPair s.heap TI (.ref n) (.ref u)) (H:IsPair s.heap TO .none .none) (h1:s.heap.IsListIter n F 0) (h2:s.heap.IsListIter u l2 0) (I:s.heap.IsList F xs) (J:s.heap.IsList l2 ys)
  (hn:s.heap.Ns L m) (Lz:L≠z/\L≠TO/\L≠n/\L≠u) (hk:∀ (j:Nat) x,xs[j]?=some x->∃ t,x=.int (ks j) t) (K:∀ i j,i<xs.size->j<xs.size->i≠j->ks i≠ks j)
  (hQ:∀ as p d B c,as.length=xs.size->Pm xs.size p->So ks p xs.size->d.Ns L m->(∀ b o,b≠z->b≠TO->b≠n->b≠u->b≠L->s.heap.get? b=some o->d.get? b=some o)->Zps xs ys s.heap.objs.size d as->s.heap.objs.size<=B->B∉as->d.get? B=some (seqObj "list" (p.toList.map λi=>(as.map Value.ref).getD i Value.none).toArray c)->Q (.ref B) { s with heap:=d }) :
  wpAny (model prog w) A (call (.builtin "sorted") [.ref z]) Q E s:=by
 refine Calls.call_function_entry kind_sorted plain_sorted entry_sorted (args_sorted1 _) ?_;unfold Builtin.«sorted»;refine qY (m:=checkCount "sorted" 1 1 _) (qZ ?_);refine qY (YG (A:=A.in1) hh D hl (by rw [sizeLine_eq];omega) hz G H h1 h2 I J λg as gk C P M=>?_);refine qY (wpAny_newList ?_ (by rw [AG,sizeLine_eq];omega));have h:(g.push (seqObj "list" (as.map Value.ref).toArray 0)).get? g.objs.size=some (seqObj "list" (as.map Value.ref).toArray 0):=Heap.get?_push_size _ rfl;have N:L<s.heap.objs.size:=by obtain ⟨_,_,_,e,_⟩:=id hn;exact pH e
 have nL:g.objs.size≠L:=Cy (Nat.lt_trans N M)
 have ns:(g.push (seqObj "list" (as.map Value.ref).toArray 0)).Ns L m:=by
  obtain ⟨o,O,R,S,r⟩:=id hn;exact ⟨o,O,R,Heap.get?_push_of_some _ (gk _ _ Lz.1 Lz.2.1 Lz.2.2.1 Lz.2.2.2 S),r⟩
 have T:g.objs.size∉as:=λhm=>by
  obtain ⟨j,hj⟩:=List.getElem?_of_mem hm;obtain ⟨_,_,_,_,_,e⟩:=P j _ hj;exact DB _ (pH e)
 have P':Zps xs ys s.heap.objs.size (g.push (seqObj "list" (as.map Value.ref).toArray 0)) as:=P.keep λc o _ q=>Heap.get?_push_of_some _ q;show wpAny _ _ _ _ _ { s with heap:=g.push (seqObj "list" (as.map Value.ref).toArray 0) };refine qY (wpAny_holding (wpAny_call_entry slot_list_sort ⟨_,h,rfl⟩ entry_list_sort ?body (args_list_sort _)))
 have v:∀ p d c,Pm xs.size p->So ks p xs.size->d.Ns L m->(∀ b o,b≠g.objs.size->b≠L->(g.push (seqObj "list" (as.map Value.ref).toArray 0)).get? b=some o->d.get? b=some o)->d.get? g.objs.size=some (seqObj "list" (p.toList.map λi=>(as.map Value.ref).getD i Value.none).toArray c)->Q (.ref g.objs.size) { s with heap:=d }:=λp d c U W X k e=>
  hQ as p d _ c C U W X (λb o Y b2 b3 b4 b5 q=>k b o (A6 (Nat.lt_trans (pH q) M)) b5 (Heap.get?_push_of_some _ (gk b o Y b2 b3 b4 q)))
   (λj a ha=>by
    obtain ⟨l,x,y,Z,e2,e3⟩:=P' j a ha;exact ⟨l,x,y,Z,e2,k _ _ (λq=>T (q ▸ Ay ha)) (Ne.symm (A6 (CA N l))) e3⟩) (Dn M) T e
 by_cases c2:2<=as.length
 ·refine YH (s:={ s with heap:=g.push (seqObj "list" (as.map Value.ref).toArray 0) }) (ks:=ks) ns h nL c2 ⋯ (λj b hb=>?_) (λi j hi hj=>K i j ⋯ ⋯) λp d c U W X k e=>⟨_,rfl,qZ ⟨_,rfl,v p d c (C ▸ U) (C ▸ W) X k e⟩⟩;obtain ⟨l,x,y,Z,e2,e3⟩:=P' j b hb;obtain ⟨t,rfl⟩:=hk j x Z;exact ⟨λq=>T (q ▸ Ay hb),Ne.symm (A6 (CA N l)),t,y,e3⟩
 ·refine YI (s:={ s with heap:=g.push (seqObj "list" (as.map Value.ref).toArray 0) }) h (by rw [AG];omega) λd c k e=>⟨_,rfl,qZ ⟨_,rfl,v (List.range as.length).toArray d c (by rw [C];exact Array.Perm.refl _) (λi j a b=>by omega) ?_ (λb o Y _ q=>k b o Y q) (by rw [YJ];exact e)⟩⟩;obtain ⟨o,O,R,S,r⟩:=id ns;exact ⟨o,O,R,k _ _ (Ne.symm nL) S,r⟩
end
end Bs
namespace Bs
open PySem L2
def OY (h:TA):TE:=λi H Q=>h i H λk d=>∃ (a b:Addr) (c:cO) (g:cM),k=[.ref a,.ref b]/\d a=some (.lst (c.map V.int))/\d b=some (.lst g)/\c.length=g.length/\c.length<64/\c.Nodup/\
 ∀ (as:c_) (e:List (Int×V)) (r:Addr) (f:Hp),(∀ b o,d b=some o->f b=some o)->d r=none->f r=some (.lst (as.map V.ref))->as.length=e.length->(∀ (j:Nat) a m,as[j]?=some a->e[j]?=some m->f a=some (.tup [.int m.1,m.2]))->e.Perm (c.zip g)->e.Pairwise (λx y=>x.1<y.1)->Q (.ref r) f
end Bs
namespace Bs
open PySem PySem.Spec PySem.Calls PySem.W PyProof.Rows L2
open Classical in
noncomputable def zF (as:c_) (c:cO) (ys:cM) (D:Addr) (b:cM):Hp:=λa=>if a=D then some (.lst b) else if h:∃ j:Nat,as[j]?=some a then some (.tup [.int (c.getD h.choose 0),ys.getD h.choose .non]) else none
noncomputable def aR (H F:Hp):Hp:=λb=>match F b with | some o=>some o | none=>H b
theorem K7 {H F:Hp} {b:Addr} {o:HO} (h:F b=some o):aR H F b=some o:=by unfold aR;rw [h]
theorem K8 {H F:Hp} {b:Addr} (h:F b=none):aR H F b=H b:=by unfold aR;rw [h]
theorem OZ:∀ l:c_,Vals (l.map V.ref) (l.map Value.ref)
 | []=>.nil
 | _::l=>.cons rfl (OZ l)
theorem YL (a:cO) (ys:cM) (h:a.length=ys.length):((List.range a.length).map λi=>(a.getD i 0,ys.getD i V.non))=a.zip ys:=by
 apply FP;intro i;rw [Ac];rcases A8 i a.length with c | c
 ·have b:i<ys.length:=by omega
  have e:(a.zip ys)[i]?=some (a[i],ys[i]):=List.getElem?_zip_eq_some.mpr ⟨Aj c,Aj b⟩;rw [e];simp [c,b]
 ·have b:ys.length<=i:=by omega
  rw [Bx (by simpa using c),Bx (by rw [List.length_zip];omega)];rfl
section
variable {as:c_} {ns:cO} {ys out:cM} {D b:Addr}
theorem YM:zF as ns ys D out D=some (.lst out):=by unfold zF;rw [qU rfl]
theorem YN (a:b≠D) (c:∀ j:Nat,as[j]?≠some b):zF as ns ys D out b=none:=by
 unfold zF;rw [qT a,dif_neg λ⟨j,e⟩=>c j e]
theorem YO {j:Nat} (c:b≠D) (d:as[j]?=some b) (u:∀ i:Nat,as[i]?=some b->i=j):zF as ns ys D out b=some (.tup [.int (ns.getD j 0),ys.getD j .non]):=by
 unfold zF;have a:∃ j:Nat,as[j]?=some b:=⟨j,d⟩;rw [qT c,dif_pos a,u _ a.choose_spec]
theorem YQ {o:HO} (h:zF as ns ys D out b=some o):(b=D/\o=.lst out)\/∃ j:Nat,as[j]?=some b/\o=.tup [.int (ns.getD j 0),ys.getD j .non]:=by
 unfold zF at h;split at h
 ·cases h;exact .inl ⟨by assumption,rfl⟩
 ·split at h
  ·rename_i a;cases h;exact .inr ⟨_,a.choose_spec,rfl⟩
  ·cases h
end
section
variable {X:Cx} {a b:Expr} {ta:TA} {p p' pos pos':Pos}
theorem YR (hg:Gl X "sorted") (N:X.mg "sorted" = none) (a2:Gl X "zip") (a3:X.mg "zip" = none) (hc:X.calm=true) (O:PA X [a,b] ta)
  (hs:starEach [a,b] X.env=(false,eval a X.env)::starEach [b] X.env:=by rfl) (a4:(backTo pos' (starEach [b] X.env)).any (·.1)=false:=by rfl)
  (a5:starEach [.Call (.Name "zip" p') [a,b] [] pos'] X.env=[(false,eval (.Call (.Name "zip" p') [a,b] [] pos') X.env)]:=by rfl) :
  PE X (.Call (.Name "sorted" p) [.Call (.Name "zip" p') [a,b] [] pos'] [] pos) (OY ta):=by
 intro K s σ H Q I h;refine wpAny_Call_Name_kw (EC I hg N Xl ?_ ∅ ∅);rw [a5];refine Calls.callWith_builtin rfl (Calls.evalArgs_plain (Calls.spliced_cons (Call_ (EC I a2 a3 Kq (PyProof.Rows.callWith_type1 (H_ (O pos' K s σ H _ I h) λus s1 ⟨vs,L,C,r1,q1⟩=>?_) hs a4)))));obtain ⟨l1,l2,d,M,rfl,a6,a7,hl,a8,nd,q⟩:=q1;obtain ⟨u,v,rfl,Y,rv⟩:=vals2 r1;cases Y;cases rv;obtain ⟨R,v1,p1,_⟩:=C.list (SqL.of a6);obtain ⟨Z,v2,p2,_⟩:=C.list (SqL.of a7);refine call_zip_2 p1.isList p2.isList λg z1 z2 z3 z4 z5 gs gk=>Calls.spliced_nil ?_;have n1:@LT.lt Nat _ l1 s1.heap.objs.size:=p1.lt;have n2:@LT.lt Nat _ l2 s1.heap.objs.size:=p2.lt
 have D:ZipApart (s1.heap.objs.size+4) (s1.heap.objs.size+2) (s1.heap.objs.size+3) s1.heap.objs.size (s1.heap.objs.size+1) l1 l2:=by
  constructor <;> (show (_:Nat)≠_;omega)
 obtain ⟨m,hn,_⟩:=id C.loc;have lL:@LT.lt Nat _ X.env.locals s1.heap.objs.size:=by obtain ⟨_,_,_,e,_⟩:=id hn;exact pH e
 have ab:g.Ns X.env.locals m:=by
  obtain ⟨o,es,ep,ho,r⟩:=id hn;exact ⟨o,es,ep,gk _ _ ho,r⟩
 have e1:R.toArray.size=d.length:=by have:=v1.length;simp at this;simp [this]
 have e2:Z.toArray.size=M.length:=by have:=v2.length;simp [this]
 have hk:∀ (j:Nat) x,R.toArray[j]?=some x->∃ t,x=.int (d.getD j 0) t:=λj x hx=>by
  have E:R[j]?=some x:=by simpa using hx
  have f:j<d.length:=by have:=(BF.mp E).1;have:=v1.length;simp at this;omega
  obtain ⟨u,hu,Y⟩:=v1.get (show (d.map V.int)[j]?=some (.int (d.getD j 0)) by simp [f]);rw [E] at hu;cases hu;exact Y
 refine YK (s:={ s1 with heap:=g }) (ks:=λj=>d.getD j 0) (I.ok.hd hc) D (by rw [e1,e2,hl]) (by rw [e1];exact a8) z1 z2 z3 z4 z5 (p1.isList.at λo e=>gk _ _ e) (p2.isList.at λo e=>gk _ _ e) ab ⟨A6 (Nat.lt_add_right _ lL),A6 (Nat.lt_add_right _ lL),A6 lL,A6 (Nat.lt_add_right _ lL)⟩ hk (λi j k f n e=>?_) λas p h' W c la pm so a1 kk P lD dD hD=>?_
 ·rw [e1] at k f;have S:i<d.length:=k;have B:j<d.length:=f;have G:d[i]=d[j]:=by simpa [S,B] using e
  exact n ((List.getElem_inj nd).mp G)
 rw [e1] at la pm so;have gl:s1.heap.objs.size<=g.objs.size:=by rw [gs];exact Nat.le_add_right _ _
 have J:∀ b o,b≠X.env.locals->s1.heap.get? b=some o->h'.get? b=some o:=λb o nb e=>by
  have T:@LT.lt Nat _ b s1.heap.objs.size:=pH e;exact kk b o (A6 (Nat.lt_add_right _ T)) (A6 (Nat.lt_add_right _ T)) (A6 T) (A6 (Nat.lt_add_right _ T)) nb (gk b o e)
 have uq:∀ (i j:Nat) (a:Addr),as[i]?=some a->as[j]?=some a->i=j:=λi j a k f=>by
  obtain ⟨_,x,y,hx,_,k1⟩:=P i a k;obtain ⟨_,x',y',E,_,k2⟩:=P j a f;obtain ⟨t,rfl⟩:=hk i x hx;obtain ⟨t',rfl⟩:=hk j x' E;have k3:=congrArg (λo:Option Obj=>match o with | some { data:=.seq a _,.. }=>a[0]? | _=>none) (Eq.trans (Eq.symm k1) k2)
  have k4:d.getD i 0=d.getD j 0:=by
   simp at k3;simpa using k3.1
  have S:i<d.length:=by have:=(BF.mp k).1;omega
  have B:j<d.length:=by have:=(BF.mp f).1;omega
  exact (List.getElem_inj nd).mp (show d[i]=d[j] by simpa [S,B] using k4)
 have gD:∀ i,i<d.length->as[i]?=some (as.getD i 0):=λi k=>by
  have:i<as.length:=by omega
  simp [this]
 have nD:∀ (j:Nat) a,as[j]?=some a->a≠W:=λj a f e=>dD (e ▸ Ay f);have lA:∀ (j:Nat) a,as[j]?=some a->s1.heap.objs.size<=a:=λj a f=>BT gl (P j a f).1;have pl:p.toList.length=d.length:=by rw [Array.length_toList,pm.size]
 have pi:∀ i∈p.toList,i<d.length:=λi k=>D5.mp (pm.lst.mem_iff.mp k);generalize w:(p.toList.map λi=>as.getD i 0)=A;generalize hF:zF as d M W (A.map V.ref)=F
 have Fn:∀ b,@LT.lt Nat _ b s1.heap.objs.size->F b=none:=λb T=>by
  rw [<-hF];exact YN (A6 (CA T (BT gl lD))) λj e=>absurd (lA j b e) (Nat.not_le_of_lt T)
 have sm:∀ b o,L b=some o->aR L F b=some o:=λb o e=>(K8 (Fn b (C.hok b o e).lt)).trans e;have FD:aR L F W=some (.lst (A.map V.ref)):=K7 (by rw [<-hF];exact YM)
 have Fa:∀ i,i<d.length->aR L F (as.getD i 0)=some (.tup [.int (d.getD i 0),M.getD i .non]):=λi k=>K7 (by
  rw [<-hF];exact YO (nD i _ (gD i k)) (gD i k) λj f=>uq j i _ f (gD i k))
 have fr:L W=none:=C.hok.fresh (BT gl lD);refine ⟨.ref W,aR L F,?_,rfl,q A (p.toList.map λi=>(d.getD i 0,M.getD i V.non)) W (aR L F) sm fr FD (by rw [<-w,AG,AG]) (λj a m O N=>?_) ?_ ?_⟩
 ·show L2.Inv X K σ (aR L F) { s1 with heap:=h' };refine C.step (g':=s1.gens) (d':=s1.drawn) (t':=s1.toks) (ch:=[]) (λ_ z=>nomatch z) (λb o n _ _ e _=>J b o n e) (λb o n _ _ e _=>⟨o.slots,J b o n e⟩) (λb o _ e n=>?_) (λb o _ e=>?_) (λb xs e=>sm b _ e) (λb o u e=>sm b _ e) (λb ps e=>⟨#[],?_⟩) (λm' N=>?_) (λb o e=>?_) C.bare
  ·rw [K8 (Fn b (pH e))];exact n
  ·by_cases U:b=X.env.locals
   ·obtain ⟨o',_,_,G,_⟩:=a1;exact ⟨o',by rw [U];exact G⟩
   ·exact ⟨o,J b o U e⟩
  ·rw [sm b _ e];simp
  ·rw [show m'=m from funext λx=>N.agree hn x];exact a1
  ·cases U:F b with
   | some o'=>
     rw [K7 U] at e;cases e;rw [<-hF] at U;rcases YQ U with ⟨rfl,rfl⟩ | ⟨j,f,rfl⟩
     ·have ev:(p.toList.map λi=>(as.map Value.ref).getD i Value.none)=A.map Value.ref:=by
       rw [<-w,BX];refine Cf λi k=>?_;have:i<as.length:=by have:=pi i k;omega
       simp [this]
      rw [ev] at hD;exact ⟨by rw [AG,<-w,AG,pl,sizeLine_eq];omega,A.map Value.ref,c,OZ A,hD⟩
     ·obtain ⟨_,x,y,hx,hy,k1⟩:=P j b f;obtain ⟨t,rfl⟩:=hk j x hx;have B:j<M.length:=by have:=(BF.mp f).1;omega
      obtain ⟨u,hu,Y⟩:=v2.get (show M[j]?=some (M.getD j .non) by simp [B]);have ac:Z[j]?=some y:=by simpa using hy
      rw [ac] at hu;cases hu;exact ⟨by show 2<=sizeLine;rw [sizeLine_eq];decide,[.int (d.getD j 0) t,y],.cons ⟨_,rfl⟩ (.cons Y .nil),⟨_,k1,rfl,_,rfl⟩⟩
   | none=>
     rw [K8 U] at e;refine (C.hok b o e).stay (λc u hc G=>J c u ?_ G) (λc G=>sm c _ G) λc xs G=>sm c _ G;rintro rfl;rcases hc with z | z
     ·rw [<-z,C.free] at e;cases e
     ·rw [C.free] at z;cases z
 ·rw [<-w,Ac] at O;rw [Ac] at N;cases f:p.toList[j]? with
  | none=>rw [f] at O;cases O
  | some i=>
    rw [f] at O N;cases O;cases N;exact Fa i (pi i (Ay f))
 ·rw [<-YL d M hl];exact pm.lst.map _
 ·rw [EA,List.pairwise_iff_getElem];intro i j k f ae;have:=so i j ae ⋯;unfold kp at this;rw [IG (by simpa using k),IG (by simpa using f)] at this;exact this
end
end Bs
namespace Bs
open PySem L2
noncomputable def K9 (K:W.Frag) (a b c:Addr):It:=
 ⟨λi H=>∃ d e f x y z,SqL K H a d/\SqL K H b e/\SqL K H c f/\d[i]?=some x/\e[i]?=some y/\f[i]?=some z,λi H v g=>∃ p x y z,H p=none/\v=.ref p/\g=upd H p (.tup [x,y,z])/\(∀ d,SqL K H a d->d[i]?=some x)/\(∀ e,SqL K H b e->e[i]?=some y)/\∀ f,SqL K H c f->f[i]?=some z,λi H=>∃ d e f,SqL K H a d/\SqL K H b e/\SqL K H c f/\d.length<=i⟩
def LA (K:W.Frag) (e:TA):TI:=λf H R=>e f H λg d=>∃ a b c,g=[.ref a,.ref b,.ref c]/\(∃ h,SqL K d a h)/\(∃ i,SqL K d b i)/\(∃ j,SqL K d c j)/\R (K9 K a b c) d
theorem CompJ.zip3 {K:W.Frag} {capt:List (Option Nat)} {g:TG} {o:TE} {r:L2.St} {H:Hp} {Q:VK} {a b c:Addr} {xs ys ws:cM} (u:xs.length=ys.length) (j:xs.length=ws.length) (W:Nat->cM->Hp->Prop) (A:W 0 [] H) (f:∀ i d H,W i d H->i<=xs.length/\d.length<=sizeLine/\SqL K H a xs/\SqL K H b ys/\SqL K H c ws)
  (B:∀ i x y w d H p,xs[i]?=some x->ys[i]?=some y->ws[i]?=some w->W i d H->H p=none->g (.ref p) (CS capt r) (upd H p (.tup [x,y,w])) λk C=>o k C λz D=>W (i+1) (d++[z]) D) (E:∀ d H,W xs.length d H->∀ p,H p=none->Q (.ref p) (upd H p (.lst d))):CompJ (K9 K a b c) capt g o r Q H:=by
 refine ⟨xs.length,W,A,λi d H w=>⟨(f i d H w).1,(f i d H w).2.1,?_⟩⟩;obtain ⟨_,_,q,m,n⟩:=f i d H w;by_cases h:i<xs.length
 ·refine .inr ⟨h,⟨xs,ys,ws,xs[i],ys[i],ws[i],q,m,n,by simp [h],by simp [u ▸ h],by simp [j ▸ h]⟩,λv M y=>?_⟩;obtain ⟨p,x,y,z,hp,F,G,I,J,L⟩:=y;subst F G;exact B i x y z d _ p (I xs q) (J ys m) (L ws n) w hp
 ·have e:i=xs.length:=Ev (f i d H w).1 (Nat.not_lt.mp h);subst e;exact .inl ⟨⟨xs,ys,ws,q,m,n,AO _⟩,E d H w⟩
end Bs
namespace Bs
open PySem PySem.Spec PyProof.Rows L2
theorem YS (a b c:Value):checkTypeCall "zip" ⟨[a,b,c],[]⟩=pure Unit.unit:=by kernel_rfl
theorem YT (a b c:Value):checkBuiltinCall "zip.__new__" ⟨[.type "zip", a,b,c],[]⟩=pure Unit.unit:=by kernel_rfl
theorem YU (a b c d:Value):argsOk "object.__init__" ⟨[a,b,c,d],[]⟩:=by
 unfold argsOk;rw [signature?_of (id := "object.__init__") (n:=['_','_','t','i','n','i','_','_']) (o:=['t','c','e','j','b','o']) (by kernel_rfl) PySem.F.owner_object];kernel_rfl
abbrev CH (h:Heap) (T:Addr) (a b c:Value):Prop:=h.get? T=some { cls:=.type "tuple", data:=.seq #[a,b,c] }
structure Z3A (z TI TO i1 i2 i3:Addr):Prop where
 nd:[z,TI,TO,i1,i2,i3].Nodup
section
variable {prog:Program} {w:World} {A:Around} {E:cQ} {s:Shared}
theorem LB {T:Addr} {a b c x:Value} {k:Nat} {Q:Unit->Shared->Prop} (e:CH s.heap T a b c)
  (h:∀ d,d.get? T=some { cls:=.type "tuple", data:=.seq ((#[a,b,c]:Array Value).setIfInBounds k x) }->Heap.SameBut T s.heap d->Q Unit.unit { s with heap:=d }) :
  wpAny (model prog w) A (updateSeq T (·.setIfInBounds k x)) Q E s:=by
 refine wpAny_updateSeq e rfl (h _ ?_ (Heap.SameBut.update ..));rw [Heap.get?_update_self _ e rfl];simp [Obj.mapSeq]
theorem YV {z TI TO h i j H l2 I:Addr} {g:Nat} {xs ys ws:Array Value} {x y v a b c:Value} {Q:cQ} (D:Z3A z TI TO h i j) (L:∀ l∈[H,l2,I],l∉[z,TI,TO,h,i,j])
  (M:IsZip s.heap z TI TO .none) (ab:CH s.heap TI (.ref h) (.ref i) (.ref j)) (ac:CH s.heap TO a b c)
  (h1:s.heap.IsListIter h H g) (h2:s.heap.IsListIter i l2 g) (h3:s.heap.IsListIter j I g) (ae:s.heap.IsList H xs) (aj:s.heap.IsList l2 ys) (al:s.heap.IsList I ws) (hx:xs[g]?=some x) (hy:ys[g]?=some y) (hv:ws[g]?=some v)
  (hQ:∀ q,IsZip q z TI TO (rawInt s.heap.objs.size)->CH q TO x y v->q.IsListIter h H (g+1)->q.IsListIter i l2 (g+1)->q.IsListIter j I (g+1)->CH q s.heap.objs.size x y v->
   (∀ c o,c≠z->c≠TO->c≠h->c≠i->c≠j->s.heap.get? c=some o->q.get? c=some o)->Q (.ref s.heap.objs.size) { s with heap:=q }) :
  wpAny (model prog w) A (Builtin.«zip.__next__» ⟨[.ref z],[]⟩) (λam s'=>∃ v,am=.done (.ret v)/\Q v s') E s:=by
 obtain ⟨nd⟩:=D;simp only [Cm,A7,DZ,or_false,not_or,not_false_eq_true,List.nodup_nil,and_true] at nd;obtain ⟨⟨zt,N,z1,z2,z3⟩,⟨to,t1,t2,t3⟩,⟨o1,o2,o3⟩,⟨O,P⟩,R⟩:=nd;have La:=L H (by simp);have Lb:=L l2 (by simp);have Lc:=L I (by simp);simp only [A7,DZ,or_false,not_or] at La Lb Lc;obtain ⟨a1,a2,a3,a4,a5,a6⟩:=La;obtain ⟨b1,b2,b3,b4,b5,b6⟩:=Lb;obtain ⟨c1,c2,c3,c4,c5,c6⟩:=Lc;show wpAny _ _ (field (.ref z) 2 >>= _) _ _ _;refine qY (wpAny_field M rfl (x:=.bool false) rfl ?_);show wpAny _ _ (field (.ref z) 3 >>= _) _ _ _;refine qY (wpAny_field M rfl (x:=.ref TI) rfl ?_);refine qY (wpAny_seqItems ab rfl ?_);show wpAny _ _ (Builtin.SmallTypes.ownedTupleIsFree (.ref z) >>= _) _ _ _;refine qY ?_;unfold Builtin.SmallTypes.ownedTupleIsFree;refine qY (wpAny_field M rfl (x:=.none) rfl (qZ ?_));simp only [if_true];refine qY (wpAny_rule ?_);refine qY (wpAny_field M rfl (x:=.ref TO) rfl ?_);refine qY (wpAny_setField_rec M (by simp) λg1 u s1=>?_);replace u:IsZip g1 z TI TO .ellipsis:=u;refine qY ?_;simp only [List.zipIdx_cons,List.zipIdx_nil,List.forIn_cons,List.forIn_nil];refine qY (qY (wpAny_onRaise ?_));show wpAny _ _ (Builtin.SmallTypes.nextOf (.ref h) >>= _) _ _ _;refine qY (wpAny_nextOf_list_item (h1.extBut s1.extBut (Ne.symm z1)) (ae.extBut s1.extBut a1) hx λg2 f1 s2=>qZ ?_);have S:CH g2 TO a b c:=s2.extBut _ _ o1 (s1.extBut _ _ (Ne.symm N) ac);refine qY (wpAny_seqItems S rfl ?_);refine qY (LB S λg3 B s3=>?_);replace B:CH g3 TO x b c:=B;refine qY (wpAny_letGo (qZ ?_));refine qY (qY (wpAny_onRaise ?_));show wpAny _ _ (Builtin.SmallTypes.nextOf (.ref i) >>= _) _ _ _;have k3:∀ c o,c≠z->c≠TO->c≠h->s.heap.get? c=some o->g3.get? c=some o:=λc o r k C e=>s3.extBut _ _ k (s2.extBut _ _ C (s1.extBut _ _ r e));refine qY (wpAny_nextOf_list_item (h2.at λo e=>k3 _ o (Ne.symm z2) (Ne.symm o2) (Ne.symm O) e) (aj.at λo e=>k3 _ o b1 b3 b4 e) hy λg4 f2 T=>qZ ?_);have U:CH g4 TO x b c:=T.extBut _ _ o2 B;refine qY (wpAny_seqItems U rfl ?_);refine qY (LB U λg5 F W=>?_);replace F:CH g5 TO x y c:=F;refine qY (wpAny_letGo (qZ ?_));refine qY (qY (wpAny_onRaise ?_));show wpAny _ _ (Builtin.SmallTypes.nextOf (.ref j) >>= _) _ _ _;have k5:∀ c o,c≠z->c≠TO->c≠h->c≠i->s.heap.get? c=some o->g5.get? c=some o:=λc o r k C X e=>W.extBut _ _ k (T.extBut _ _ X (k3 c o r k C e));refine qY (wpAny_nextOf_list_item (h3.at λo e=>k5 _ o (Ne.symm z3) (Ne.symm o3) (Ne.symm P) (Ne.symm R) e) (al.at λo e=>k5 _ o c1 c3 c4 c5 e) hv λg6 f3 J=>qZ ?_);have Y:CH g6 TO x y c:=J.extBut _ _ o3 F;refine qY (wpAny_seqItems Y rfl ?_);refine qY (LB Y λd m K=>?_);replace m:CH d TO x y v:=m;refine qY (wpAny_letGo (qZ (qZ ?_)));refine qY (wpAny_seqItems m rfl ?_);refine qY (wpAny_newTuple ?_);have Z:d.objs.size=s.heap.objs.size:=by rw [K.1,J.1,W.1,T.1,s3.1,s2.1,s1.1]
 have k7:∀ c o,c≠z->c≠TO->c≠h->c≠i->c≠j->s.heap.get? c=some o->d.get? c=some o:=λc o r k C X n5 e=>K.extBut _ _ k (J.extBut _ _ n5 (k5 c o r k C X e));have a0:IsZip d z TI TO .ellipsis:=K.extBut _ _ N (J.extBut _ _ z3 (W.extBut _ _ N (T.extBut _ _ z2 (s3.extBut _ _ N (s2.extBut _ _ z1 u)))));have an:d.IsListIter h H (g+1):=f1.at λo e=>K.extBut _ _ (Ne.symm o1) (J.extBut _ _ P (W.extBut _ _ (Ne.symm o1) (T.extBut _ _ O (s3.extBut _ _ (Ne.symm o1) e))));have ao:d.IsListIter i l2 (g+1):=f2.at λo e=>K.extBut _ _ (Ne.symm o2) (J.extBut _ _ R (W.extBut _ _ (Ne.symm o2) e));have ar:d.IsListIter j I (g+1):=f3.at λo e=>K.extBut _ _ (Ne.symm o3) e;have zl:z<d.objs.size:=pH a0;show wpAny _ _ (Builtin.SmallTypes.ownedTupleHandOut (.ref z) (.ref d.objs.size) >>= _) _ _ _;refine qY ?_;unfold Builtin.SmallTypes.ownedTupleHandOut;have b0:IsZip (d.push { cls:=.type "tuple", data:=.seq #[x,y,v] }) z TI TO .ellipsis:=Heap.get?_push_of_some _ a0;refine qY (wpAny_setField_rec b0 (by simp) λg9 G s9=>?_);replace G:IsZip g9 z TI TO (rawInt d.objs.size):=G;refine wpAny_setField_rec G (by simp) λp f a7=>?_;replace f:IsZip p z TI TO (rawInt d.objs.size):=f;have up:∀ c o,c≠z->d.get? c=some o->p.get? c=some o:=λc o n e=>a7.extBut _ _ n (s9.extBut _ _ n (Heap.get?_push_of_some _ e));have a8:CH p d.objs.size x y v:=a7.extBut _ _ (Cy zl) (s9.extBut _ _ (Cy zl) (Heap.get?_push_size _ rfl));rw [Z] at f a8;refine qZ ⟨_,rfl,?_⟩;show Q (.ref d.objs.size) _;rw [Z];exact hQ p f (up _ _ (Ne.symm N) m) (an.at λo e=>up _ o (Ne.symm z1) e) (ao.at λo e=>up _ o (Ne.symm z2) e) (ar.at λo e=>up _ o (Ne.symm z3) e) a8 λc o r k C X n5 e=>up c o r (k7 c o r k C X n5 e)
theorem YW {z TI TO g k m n:Addr} {v:Nat} {xs:Array Value} {a b c:Value} {Q:Fin->Shared->Prop} (I:A.handled=none) (D:Z3A z TI TO g k m) (L:n∉[z,TI,TO,g,k,m])
  (h:IsZip s.heap z TI TO .none) (p:CH s.heap TI (.ref g) (.ref k) (.ref m)) (J:CH s.heap TO a b c)
  (K:s.heap.IsListIter g n v) (q:s.heap.IsList n xs) (M:xs[v]?=none)
  (N:∀ r e,(∀ c o,c≠z->c≠g->s.heap.get? c=some o->r.get? c=some o)->(∃ o,r.get? e=some o/\o.cls=.type "StopIteration")->E (.ref e) { s with heap:=r }) :
  wpAny (model prog w) A (Builtin.«zip.__next__» ⟨[.ref z],[]⟩) Q E s:=by
 obtain ⟨B⟩:=D;simp only [Cm,A7,DZ,or_false,not_or,not_false_eq_true,List.nodup_nil,and_true] at B;obtain ⟨⟨W,X,C,Y,Z⟩,_⟩:=B;simp only [A7,DZ,or_false,not_or] at L;show wpAny _ _ (field (.ref z) 2 >>= _) _ _ _;refine qY (wpAny_field h rfl (x:=.bool false) rfl ?_);show wpAny _ _ (field (.ref z) 3 >>= _) _ _ _;refine qY (wpAny_field h rfl (x:=.ref TI) rfl ?_);refine qY (wpAny_seqItems p rfl ?_);show wpAny _ _ (Builtin.SmallTypes.ownedTupleIsFree (.ref z) >>= _) _ _ _;refine qY ?_;unfold Builtin.SmallTypes.ownedTupleIsFree;refine qY (wpAny_field h rfl (x:=.none) rfl (qZ ?_));simp only [if_true];refine qY (wpAny_rule ?_);refine qY (wpAny_field h rfl (x:=.ref TO) rfl ?_);refine qY (wpAny_setField_rec h (by simp) λO d s1=>?_);replace d:IsZip O z TI TO .ellipsis:=d;refine qY ?_;simp only [List.zipIdx_cons,List.zipIdx_nil,List.forIn_cons,List.forIn_nil];refine qY (qY (wpAny_onRaise ?_));show wpAny _ _ (Builtin.SmallTypes.nextOf (.ref g) >>= _) _ _ _;refine qY (wpAny_nextOf_list_end I (K.extBut s1.extBut (Ne.symm C)) (q.extBut s1.extBut L.1) M λP e F R=>?_);obtain ⟨S,f,i⟩:=R;have j:IsZip P z TI TO .ellipsis:=F _ _ C d;have u:e≠z:=λx=>by subst x;rw [j] at f;cases f;simp at i
 exact wpAny_setField_rec j (by simp) λT _ G=>N T e (λc o H U x=>G.extBut _ _ H (F _ _ U (s1.extBut _ _ H x))) ⟨S,G.extBut _ _ u f,i⟩
theorem YX {z TI TO f g h j l2 k:Addr} {e:Nat} {xs ys ws:Array Value} {x y v a b c:Value} {Q:cZ->Shared->Prop} (D:Z3A z TI TO f g h) (L:∀ l∈[j,l2,k],l∉[z,TI,TO,f,g,h])
  (u:IsZip s.heap z TI TO .none) (m:CH s.heap TI (.ref f) (.ref g) (.ref h)) (n:CH s.heap TO a b c)
  (C:s.heap.IsListIter f j e) (F:s.heap.IsListIter g l2 e) (G:s.heap.IsListIter h k e) (p:s.heap.IsList j xs) (q:s.heap.IsList l2 ys) (r:s.heap.IsList k ws) (H:xs[e]?=some x) (I:ys[e]?=some y) (J:ws[e]?=some v)
  (K:∀ d,IsZip d z TI TO (rawInt s.heap.objs.size)->CH d TO x y v->d.IsListIter f j (e+1)->d.IsListIter g l2 (e+1)->d.IsListIter h k (e+1)->CH d s.heap.objs.size x y v->
   (∀ c o,c≠z->c≠TO->c≠f->c≠g->c≠h->s.heap.get? c=some o->d.get? c=some o)->Q (some (.ref s.heap.objs.size)) { s with heap:=d }) :
  wpAny (model prog w) A (pyNext (.ref z)) Q E s:=by
 have i:s.TypeIs (.ref z) "zip" := ⟨_,u,rfl⟩;unfold pyNext
 exact qY (wpAny_attempt (wpAny_callSpecial?_slot (name:=Str.ofString "__next__") i PySem.F.slot_zip_next
  (wpAny_call_entry PySem.F.slot_zip_next i PySem.F.entry_zip_next
   (YV D L u m n C F G p q r H I J λd M N O P R S T=>qZ (K d M N O P R S T)) (PySem.F.args_zip_next_1 _))))
theorem YY {z TI TO d g h i:Addr} {p:Nat} {xs:Array Value} {a b c:Value} {Q:cZ->Shared->Prop} (u:A.handled=none) (D:Z3A z TI TO d g h) (L:i∉[z,TI,TO,d,g,h])
  (q:IsZip s.heap z TI TO .none) (j:CH s.heap TI (.ref d) (.ref g) (.ref h)) (k:CH s.heap TO a b c)
  (v:s.heap.IsListIter d i p) (m:s.heap.IsList i xs) (x:xs[p]?=none)
  (y:∀ n,(∀ c o,c≠z->c≠d->s.heap.get? c=some o->n.get? c=some o)->Q none { s with heap:=n }):wpAny (model prog w) A (pyNext (.ref z)) Q E s:=by
 have f:s.TypeIs (.ref z) "zip" := ⟨_,q,rfl⟩;unfold pyNext
 refine qY (wpAny_attempt (wpAny_callSpecial?_slot (name:=Str.ofString "__next__") f PySem.F.slot_zip_next
  (wpAny_call_entry PySem.F.slot_zip_next f PySem.F.entry_zip_next (YW u D L q j k v m x λn e hk B=>?_) (PySem.F.args_zip_next_1 _))))
 obtain ⟨o,C,F⟩:=B;refine qY (wpAny_isInstance (T := "StopIteration") (b:=true) ⟨o,C,F⟩ isSubtype_stop ?_);exact qZ (y _ hk)
end
noncomputable abbrev ag (h:Heap) (a l2 b:Addr):Heap:=((h.push { cls:=.type "list_iterator", data:=.fields #[.ref a,.int 0 0] }).push { cls:=.type "list_iterator", data:=.fields #[.ref l2,.int 0 0] }).push { cls:=.type "list_iterator", data:=.fields #[.ref b,.int 0 0] }
noncomputable abbrev aG (h:Heap) (a l2 b:Addr):Heap:=((ag h a l2 b).push { cls:=.type "tuple", data:=.seq #[.ref h.objs.size,.ref (h.push { cls:=.type "list_iterator", data:=.fields #[.ref a,.int 0 0] }).objs.size,.ref ((h.push { cls:=.type "list_iterator", data:=.fields #[.ref a,.int 0 0] }).push { cls:=.type "list_iterator", data:=.fields #[.ref l2,.int 0 0] }).objs.size] }).push { cls:=.type "tuple", data:=.seq #[.none,.none,.none] }
set_option maxHeartbeats 2000000 in
theorem YZ (b l2 c:Addr) (xs ys ws:Array Value) :
  Meets (Builtin.«zip.__new__» ⟨[.type "zip", .ref b,.ref l2,.ref c],[]⟩) (λ_ R s=>s.heap.IsList b xs/\s.heap.IsList l2 ys/\s.heap.IsList c ws/\
   R (.ok (.ret (.ref (aG s.heap b l2 c).objs.size))) { s with heap:=(aG s.heap b l2 c).push { cls:=.type "zip", data:=.fields #[.none,.bool false,.bool false,.ref (ag s.heap b l2 c).objs.size,.ref ((ag s.heap b l2 c).objs.size+1)] } }):=
 .of_wp λq w A R s h=>by
  obtain ⟨hp,g,d,f,os⟩:=s;obtain ⟨i,j,k,h⟩:=h;have r:=sub_zip;have m:Heap.IsList (Shared.heap ⟨hp,g,d,f,os⟩) b xs:=i;have n:Heap.IsList (Shared.heap ⟨hp.push { cls:=.type "list_iterator", data:=.fields #[.ref b,.int 0 0] },g,d,f,os⟩) l2 ys:=Heap.IsList.push j _;have o:Heap.IsList (Shared.heap ⟨(hp.push { cls:=.type "list_iterator", data:=.fields #[.ref b,.int 0 0] }).push { cls:=.type "list_iterator", data:=.fields #[.ref l2,.int 0 0] },g,d,f,os⟩) c ws:=Heap.IsList.push (Heap.IsList.push k _) _
  wp_walk using wpAny_pyIter_list m,wpAny_pyIter_list n,wpAny_pyIter_list o
  refine ⟨_,rfl,?_⟩;rw [<-size_push' (ag hp b l2 c)] at h;exact h
section
variable {prog:Program} {w:World} {A:Around} {E:cQ} {s:Shared}
theorem Yb {a l2 b:Addr} {xs ys ws:Array Value} {Q:cQ} (i:s.heap.IsList a xs) (j:s.heap.IsList l2 ys) (k:s.heap.IsList b ws)
  (h:∀ d,IsZip d (s.heap.objs.size+5) (s.heap.objs.size+3) (s.heap.objs.size+4) .none->CH d (s.heap.objs.size+3) (.ref s.heap.objs.size) (.ref (s.heap.objs.size+1)) (.ref (s.heap.objs.size+2))->
   CH d (s.heap.objs.size+4) .none .none .none->d.IsListIter s.heap.objs.size a 0->d.IsListIter (s.heap.objs.size+1) l2 0->d.IsListIter (s.heap.objs.size+2) b 0->
   (∀ c o,s.heap.get? c=some o->d.get? c=some o)->Q (.ref (s.heap.objs.size+5)) { s with heap:=d }) :
  wpAny (model prog w) A (call (.type "zip") [.ref a,.ref l2,.ref b]) Q E s:=by
 refine callType_new PySem.F.called_zip ∅ (YS _ _ _) (YT _ _ _) (λm=>YU m _ _ _) PySem.F.entry_zip_new
  (YZ a l2 b xs ys ws) ⟨i,j,k,?_⟩
 have g:(ag s.heap a l2 b).objs.size=s.heap.objs.size+3:=by rw [size_push',size_push',size_push']
 have r:(aG s.heap a l2 b).objs.size=s.heap.objs.size+5:=by rw [size_push',size_push',g]
 have u:(ag s.heap a l2 b).get? s.heap.objs.size=some { cls:=.type "list_iterator", data:=.fields #[.ref a,.int 0 0] }:=Heap.get?_push_of_some _ (Heap.get?_push_of_some _ (Heap.get?_push_size _ rfl));have v:(ag s.heap a l2 b).get? (s.heap.objs.size+1)=some { cls:=.type "list_iterator", data:=.fields #[.ref l2,.int 0 0] }:=Heap.get?_push_of_some _ (by rw [<-size_push'];exact Heap.get?_push_size _ rfl)
 have y:(ag s.heap a l2 b).get? (s.heap.objs.size+2)=some { cls:=.type "list_iterator", data:=.fields #[.ref b,.int 0 0] }:=by
  have:=Heap.get?_push_size ((s.heap.push { cls:=.type "list_iterator", data:=.fields #[.ref a,.int 0 0] }).push { cls:=.type "list_iterator", data:=.fields #[.ref l2,.int 0 0] }) (o:={ cls:=.type "list_iterator", data:=.fields #[.ref b,.int 0 0] }) rfl;rw [size_push',size_push'] at this;exact this
 have f:((aG s.heap a l2 b).push { cls:=.type "zip", data:=.fields #[.none,.bool false,.bool false,.ref (ag s.heap a l2 b).objs.size,.ref ((ag s.heap a l2 b).objs.size+1)] }).get? (aG s.heap a l2 b).objs.size=some _:=Heap.get?_push_size _ rfl
 have z:(aG s.heap a l2 b).get? (s.heap.objs.size+4)=some { cls:=.type "tuple", data:=.seq #[.none,.none,.none] }:=by
  have:=Heap.get?_push_size ((ag s.heap a l2 b).push { cls:=.type "tuple", data:=.seq #[.ref s.heap.objs.size,.ref (s.heap.push { cls:=.type "list_iterator", data:=.fields #[.ref a,.int 0 0] }).objs.size,.ref ((s.heap.push { cls:=.type "list_iterator", data:=.fields #[.ref a,.int 0 0] }).push { cls:=.type "list_iterator", data:=.fields #[.ref l2,.int 0 0] }).objs.size] }) (o:={ cls:=.type "tuple", data:=.seq #[.none,.none,.none] }) rfl;rw [size_push' (ag s.heap a l2 b),g] at this;exact this
 have p:(aG s.heap a l2 b).get? (ag s.heap a l2 b).objs.size=some { cls:=.type "tuple", data:=.seq #[.ref s.heap.objs.size,.ref (s.heap.push { cls:=.type "list_iterator", data:=.fields #[.ref a,.int 0 0] }).objs.size,.ref ((s.heap.push { cls:=.type "list_iterator", data:=.fields #[.ref a,.int 0 0] }).push { cls:=.type "list_iterator", data:=.fields #[.ref l2,.int 0 0] }).objs.size] }:=Heap.get?_push_of_some _ (Heap.get?_push_size _ rfl);rw [g,size_push' (s.heap.push _),size_push' s.heap] at p;have e:∀ c o,(aG s.heap a l2 b).get? c=some o->((aG s.heap a l2 b).push { cls:=.type "zip", data:=.fields #[.none,.bool false,.bool false,.ref (ag s.heap a l2 b).objs.size,.ref ((ag s.heap a l2 b).objs.size+1)] }).get? c=some o:=λc o q=>Heap.get?_push_of_some _ q;have HH:∀ c o,(ag s.heap a l2 b).get? c=some o->(aG s.heap a l2 b).get? c=some o:=λc o q=>Heap.get?_push_of_some _ (Heap.get?_push_of_some _ q);generalize (aG s.heap a l2 b).push { cls:=.type "zip", data:=.fields #[.none,.bool false,.bool false,.ref (ag s.heap a l2 b).objs.size,.ref ((ag s.heap a l2 b).objs.size+1)] }=B at f e ⊢;show _/\_;rw [r] at f ⊢;rw [g] at f;exact ⟨⟨_,f,rfl⟩,h B f (e _ _ p) (e _ _ z) ⟨_,e _ _ (HH _ _ u),rfl,rfl⟩ ⟨_,e _ _ (HH _ _ v),rfl,rfl⟩ ⟨_,e _ _ (HH _ _ y),rfl,rfl⟩ λc o x=>e _ _ (HH _ _ (Heap.get?_push_of_some _ (Heap.get?_push_of_some _ (Heap.get?_push_of_some _ x))))⟩
end
def Z3S (a b c z d e f g j:Addr) (i:Nat) (h:Heap):Prop:=IsZip h z d e .none/\CH h d (.ref f) (.ref g) (.ref j)/\(∃ u v w,CH h e u v w)/\h.IsListIter f a i/\h.IsListIter g b i/\h.IsListIter j c i
theorem Yc {P:Program} {w:World} {K:W.Frag} {R:cV} {k:Nat} {pos:Pos} {a b c z p r j m n:Addr} (D:Z3A z p r j m n) (L:∀ l∈[a,b,c],l∉[z,p,r,j,m,n]):Turn P w K (.Tuple R k pos) (K9 K a b c) [z,p,r,j,m,n] z (Z3S a b c z p r j m n) where
 mem:=by simp
 obj:=λi h e d hd=>by
  obtain ⟨s1,B,⟨u,v,w,O⟩,⟨o4,A,_,d4⟩,⟨o5,C,_,d5⟩,⟨o6,F,_,d6⟩⟩:=e
  have G:d=z\/d=p\/d=r\/d=j\/d=m\/d=n:=by simpa using hd
  rcases G with rfl | rfl | rfl | rfl | rfl | rfl
  ·exact ⟨_,s1,λv q=>nomatch q⟩
  ·exact ⟨_,B,λv q=>nomatch q⟩
  ·exact ⟨_,O,λv q=>nomatch q⟩
  ·exact ⟨_,A,λv q=>by rw [d4] at q;cases q⟩
  ·exact ⟨_,C,λv q=>by rw [d5] at q;cases q⟩
  ·exact ⟨_,F,λv q=>by rw [d6] at q;cases q⟩
 keep:=λi h h' e Q=>⟨Q z (by simp) _ e.1,Q p (by simp) _ e.2.1,let ⟨u,v,w,q⟩:=e.2.2.1;⟨u,v,w,Q r (by simp) _ q⟩,e.2.2.2.1.at λo q=>Q j (by simp) o q,e.2.2.2.2.1.at λo q=>Q m (by simp) o q,e.2.2.2.2.2.at λo q=>Q n (by simp) o q⟩
 item:=by
  intro X hP hw hK f i S s σ H E I Z e hg
  subst hP hw hK
  obtain ⟨xs,ys,zs,x,y,t,hq,J,M,hx,hy,ht⟩:=hg
  obtain ⟨s1,B,⟨u0,v0,w0,O⟩,A,C,F⟩:=e
  obtain ⟨T,rv,p1,_⟩:=I.list hq
  obtain ⟨a4,rw',p2,_⟩:=I.list J
  obtain ⟨a5,rx,p3,_⟩:=I.list M
  obtain ⟨u,hu,ru⟩:=rv.get hx
  obtain ⟨v,hv,a0⟩:=rw'.get hy
  obtain ⟨q,a1,rq⟩:=rx.get ht
  refine YX D L s1 B O A C F p1.isList p2.isList p3.isList (x:=u) (y:=v) (v:=q) (by simpa using hu) (by simpa using hv) (by simpa using a1) λg g1 g2 g3 g4 g5 g6 gk=>?_
  refine ⟨_,rfl,wpAny_letOwnedTupleGo_zip g1 λg' z1 N=>?_⟩
  have lz:z<s.heap.objs.size:=pH s1
  have U:∀ c o,c∉[z,p,r,j,m,n]->s.heap.get? c=some o->g'.get? c=some o:=λc o f q=>by
   simp only [A7,DZ,or_false,not_or] at f
   obtain ⟨n1,n2,n3,n4,n5,n6⟩:=f
   exact N.extBut c o n1 (gk c o n1 n3 n4 n5 n6 q)
  obtain ⟨nd⟩:=D
  simp only [Cm,A7,DZ,or_false,not_or,not_false_eq_true,List.nodup_nil,and_true] at nd
  obtain ⟨⟨zt,zo,a2,z2,z3⟩,⟨a3,t1,t2,t3⟩,⟨o1,o2,o3⟩,⟨a6,a7⟩,a8⟩:=nd
  have I1:=OA (g:=g') (tk:=s.toks) (xs:=[x,y,t]) (its:=[u,v,q]) I Z U (sz (by simp)) (.cons ru (.cons a0 (.cons rq .nil))) (N.extBut _ _ (Cy lz) g6)
  refine ⟨.ref s.heap.objs.size,_,I1,rfl,⟨_,x,y,t,I.hok.fresh (AO _),rfl,rfl,λzs Y=>by rw [I.list_inj Y hq];exact hx,λzs Y=>by rw [I.list_inj Y J];exact hy,λzs Y=>by rw [I.list_inj Y M];exact ht⟩,⟨z1,N.extBut _ _ (Ne.symm zt) (gk _ _ (Ne.symm zt) a3 t1 t2 t3 B),⟨u,v,q,N.extBut _ _ (Ne.symm zo) g2⟩,g3.at λo q=>N.extBut j o (Ne.symm a2) q,g4.at λo q=>N.extBut m o (Ne.symm z2) q,g5.at λo q=>N.extBut n o (Ne.symm z3) q⟩,λc f=>?_⟩
  rw [Ad]
  ·exact (Z c f).1
  ·have G:c=z\/c=p\/c=r\/c=j\/c=m\/c=n:=by simpa using f
   obtain ⟨o4,A,_⟩:=A
   obtain ⟨o5,C,_⟩:=C
   obtain ⟨o6,F,_⟩:=F
   rcases G with rfl | rfl | rfl | rfl | rfl | rfl
   ·exact A6 lz
   ·exact A6 (pH B)
   ·exact A6 (pH O)
   ·exact A6 (pH A)
   ·exact A6 (pH C)
   ·exact A6 (pH F)
 done:=by
  intro X hP hw hK f i S s σ H E I Z e hg
  subst hP hw hK
  obtain ⟨xs,ys,zs,hq,J,M,hx⟩:=hg
  obtain ⟨s1,B,⟨u0,v0,w0,O⟩,A,C,F⟩:=e
  obtain ⟨T,rv,p1,_⟩:=I.list hq
  have hl:=rv.length
  refine YY (I.ok.hd f) D (L a (by simp)) s1 B O A p1.isList (by simp;omega) λg gk=>⟨rfl,N9 (tk:=s.toks) I Z λc o f q=>?_⟩
  simp only [A7,DZ,or_false,not_or] at f
  exact gk c o f.1 f.2.2.2.1 q
 self:=λ_ _ _ _ _ e h=>wpAny_pyIter_zip e.1 h
theorem Yd {x y z:V} {a:cP} (r:Vals [x,y,z] a):∃ u v w,a=[u,v,w]/\RelV x u/\RelV y v/\RelV z w:=by
 obtain ⟨u,t,rfl,b,h⟩:=r.inv;obtain ⟨v,w,rfl,c,d⟩:=h.two;exact ⟨u,v,w,rfl,b,c,d⟩
theorem Ye {X:Cx} {f:cV} {k:Nat} {i:Pos} {a b c:Expr} {y:TA} {p pos:Pos} (O:Gl X "zip") (m:X.mg "zip" = none) (P:PA X [a,b,c] y) (Q:starEach [a,b,c] X.env=(false,eval a X.env)::starEach [b,c] X.env:=by rfl) (n:(backTo pos (starEach [b,c] X.env)).any (·.1)=false:=by rfl):PI X (.Tuple f k i) (.Call (.Name "zip" p) [a,b,c] [] pos) (LA X.K y):=by
 intro d s A H R I h;refine Call_ (EC I O m Kq (PyProof.Rows.callWith_type1 (H_ (P pos d s A H _ I h) λus s1 ⟨vs,B,e,S,T⟩=>?_) Q n));obtain ⟨C,l2,E,rfl,⟨xs,U⟩,⟨ys,o⟩,⟨zs,r⟩,q⟩:=T;obtain ⟨u,v,w,rfl,W,Y,rw'⟩:=Yd S;cases W;cases Y;cases rw';obtain ⟨Z,_,F,_⟩:=e.list U;obtain ⟨a0,_,G,_⟩:=e.list o;obtain ⟨a1,_,J,_⟩:=e.list r;refine Yb F.isList G.isList J.isList λg K z2 z3 z4 z5 z6 gk=>?_;have I2:Inv X d A B { s1 with heap:=g }:=e.kept (t':=s1.toks) gk;have n1:@LT.lt Nat _ C s1.heap.objs.size:=F.lt;have n2:@LT.lt Nat _ l2 s1.heap.objs.size:=G.lt;have n3:@LT.lt Nat _ E s1.heap.objs.size:=J.lt
 have x:∀ c,c∈[s1.heap.objs.size+5,s1.heap.objs.size+3,s1.heap.objs.size+4,s1.heap.objs.size,s1.heap.objs.size+1,s1.heap.objs.size+2]->s1.heap.objs.size<=c:=λc j=>by
  simp only [A7,DZ,or_false] at j;rcases j with z | z | z | z | z | z <;> rw [z] <;> first | exact Nat.le_add_right _ _ | exact AO _
 have D:Z3A (s1.heap.objs.size+5) (s1.heap.objs.size+3) (s1.heap.objs.size+4) s1.heap.objs.size (s1.heap.objs.size+1) (s1.heap.objs.size+2):=⟨by
  simp only [Cm,A7,DZ,or_false,not_or,not_false_eq_true,List.nodup_nil,and_true];refine ⟨⟨?_,?_,?_,?_,?_⟩,⟨?_,?_,?_,?_⟩,⟨?_,?_,?_⟩,⟨?_,?_⟩,?_⟩ <;> (show ¬ (_:Nat)=_;omega)⟩
 have L:∀ l∈[C,l2,E],l∉[s1.heap.objs.size+5,s1.heap.objs.size+3,s1.heap.objs.size+4,s1.heap.objs.size,s1.heap.objs.size+1,s1.heap.objs.size+2]:=λl N m=>by
  have:=x l m;simp only [A7,DZ,or_false] at N;rcases N with rfl | rfl | rfl
  ·exact absurd this (Nat.not_le_of_lt n1)
  ·exact absurd this (Nat.not_le_of_lt n2)
  ·exact absurd this (Nat.not_le_of_lt n3)
 exact wpAny_pyIter_zip K ⟨_,_,_,_,B,rfl,I2,Yc D L,⟨K,z2,⟨_,_,_,z3⟩,z4,z5,z6⟩,λc j=>e.fpOk (x c j) (e.hok.fresh (x c j)),q⟩
end Bs
namespace Bs
open PySem L2
def IH (K:W.Frag) (d:TE):TI:=λe H R=>d e H λx b=>∃ a,x=.ref a/\((∃ c,SqL K b a c)/\R (ah K a) b\/(∃ c,SqT K b a c)/\R (aA K a) b)
theorem Yg {K:W.Frag} {a:Addr} {i:Nat} {xs:cM} {g:TG} {f rest:TS} {D:Ends} {b:L2.St} {H:Hp} (c:H a=some (.tup xs)\/H a=some (.lst xs)) (o:b[i]?=some (some (.ref a))) (Pv:Nat->L2.St->Hp->Prop) (h:Pv 0 b H) (j:∀ i b d,Pv i b d->d a=H a)
  (k:∀ i x b H,xs[i]?=some x->Pv i b H->g x b H λe q=>f { D with nx:=Pv (i+1),ct:=Pv (i+1),bk:=rest D } e q) (n:∀ b H,Pv xs.length b H->rest D b H):AH (Bh (IH K (AA i)) g f) rest D b H:=by
 refine ⟨_,o,a,rfl,?_⟩;rcases c with c | c
 ·exact .inr ⟨⟨_,SqT.of c⟩,ForT.by (D:={ D with nx:=rest D }) Pv h (λi b d _ p=>(j i b d p).trans c) k n⟩
 ·exact .inl ⟨⟨_,SqL.of c⟩,ForL.by (D:={ D with nx:=rest D }) Pv h (λi b d _ p=>SqL.of ((j i b d p).trans c)) k n⟩
theorem Yh {K:W.Frag} {a:Addr} {i:Nat} {xs:cM} {capt:List (Option Nat)} {g:TG} {j:TE} {f:L2.St} {H:Hp} {Q:VK} (d:H a=some (.tup xs)\/H a=some (.lst xs)) (o:f[i]?=some (some (.ref a))) (W:Nat->cM->Hp->Prop) (k:W 0 [] H) (e:∀ i b c,W i b c->i<=xs.length/\b.length<=sizeLine/\c a=H a)
  (m:∀ i x b H,xs[i]?=some x->W i b H->g x (CS capt f) H λh q=>j h q λy r=>W (i+1) (b++[y]) r) (n:∀ b H,W xs.length b H->∀ p,H p=none->Q (.ref p) (upd H p (.lst b))):BH (IH K (AA i)) capt g j f H Q:=by
 refine ⟨_,o,a,rfl,?_⟩;rcases d with d | d
 ·exact .inr ⟨⟨_,SqT.of d⟩,CompJ.tup W k (λi b c p=>⟨(e i b c p).1,(e i b c p).2.1,(e i b c p).2.2.trans d⟩) m n⟩
 ·exact .inl ⟨⟨_,SqL.of d⟩,CompJ.lst W k (λi b c p=>⟨(e i b c p).1,(e i b c p).2.1,SqL.of ((e i b c p).2.2.trans d)⟩) m n⟩
end Bs
namespace Bs
open PySem PySem.Spec PyProof.Rows L2
theorem Oa {X:Cx} {n:Expr} {l:Expr} {k:TE} (r:PE X l k):PI X n l (IH X.K k):=by
 intro c s u H R I h;refine H_ (r c s u H _ I h) λv s1 ⟨x,g,d,w,i⟩=>?_;obtain ⟨a,e,i⟩:=i;subst e;cases w
 have m:∀ b,b∈[s1.heap.objs.size]->DF X c g b:=λb y=>by
  rw [Ap.mp y];exact d.fpOk (AO _) (d.hok.fresh (AO _))
 rcases i with ⟨⟨z,j⟩,q⟩ | ⟨⟨z,j⟩,q⟩
 ·obtain ⟨f,A,p,B⟩:=d.list j;refine wpAny_pyIter_list p.isList ?_;exact ⟨s1.heap.objs.size,[s1.heap.objs.size],_,_,g,rfl,d.kept (t':=s1.toks) λb o e=>Heap.get?_push_of_some _ e,ND a _,⟨_,Heap.get?_push_size _ rfl,rfl,rfl⟩,m,q⟩
 ·obtain ⟨f,A,p,B⟩:=d.tuple j;refine wpAny_pyIter_tuple (show s1.heap.IsTuple a f.toArray from p) ?_;exact ⟨s1.heap.objs.size,[s1.heap.objs.size],_,_,g,rfl,d.kept (t':=s1.toks) λb o e=>Heap.get?_push_of_some _ e,NE a _,⟨_,Heap.get?_push_size _ rfl,rfl,rfl⟩,m,q⟩
end Bs
namespace Bs
theorem Bd.one:Bd 1 1:=by unfold Bd;decide
theorem Bd.pow {b:Nat} {x:Int} (h:Bd b x) (k:Nat):Bd (b*k+1) (x ^ k):=by
 induction k with
 | zero=>rw [Int.pow_zero,Nat.mul_zero];exact Bd.one
 | succ k a=>
   have e:b*(k+1)+1=(b*k+1)+b:=by rw [Nat.mul_add,Nat.mul_one];omega
   rw [Int.pow_succ,e];exact a.mul h
noncomputable abbrev Nu:=Int×Int
abbrev cJ:=List (Nat×cO)
abbrev cI:=List Nu
abbrev cG:=List (Nu×Nu×cI)
abbrev cF:=List (Nu×PySem.Addr×cI)
abbrev cE:=List (Nat×cI)
abbrev cD:=List (Nu×cI)
noncomputable def Y_ (n m:Int):Nu:=(n / ((Int.gcd n m:Nat):Int),m / ((Int.gcd n m:Nat):Int))
noncomputable def I_ (q r:Nu):Nu:=Y_ (q.1*r.2+r.1*q.2) (q.2*r.2)
noncomputable def F_ (q r:Nu):Nu:=Y_ (q.1*r.1) (q.2*r.2)
def Wo (q:Nu) (n m:Int):Prop:=q.1*m=n*q.2
theorem CT {n m:Int} (b:0<m):Low (Y_ n m).1 (Y_ n m).2:=(Km (a:=n) b).1
theorem Fg {n m:Int} (c:0<m):Wo (Y_ n m) n m:=by
 have h:=(Kl (a:=n) (b:=m) (s:=((Int.gcd n m:Nat):Int)) ⋯ (by rw [qT ⋯])).2.2.2.1;rw [Do _ ⋯,Do _ ⋯] at h;exact h
theorem LC {a b d:Int} (h:Low a b) (e:b∣a*d):b∣d:=by
 have c:Nat.Coprime b.natAbs a.natAbs:=by
  have:Nat.Coprime a.natAbs b.natAbs:=h.one;exact this.symm
 have z:=C3.mpr e;rw [CF] at z;exact C3.mp (c.dvd_of_dvd_mul_left z)
theorem Ob {a b c d:Int} (f:Low a b) (g:Low c d) (h:a*d=c*b):a=c/\b=d:=by
 have i:b∣d:=LC f ⟨c,by rw [h,Int.mul_comm]⟩;have j:d∣b:=LC g ⟨a,by rw [<-h,Int.mul_comm]⟩;have e:b=d:=Int.dvd_antisymm (DQ f.pos) (DQ g.pos) i j;subst e;exact ⟨Int.eq_of_mul_eq_mul_right (AW f.pos) h,rfl⟩
theorem Oc {q r:Nu} {n m:Int} (c:Low q.1 q.2) (d:Low r.1 r.2) (f:m≠0) (g:Wo q n m) (h:Wo r n m):q=r:=by
 unfold Wo at g h
 have e:q.1*r.2=r.1*q.2:=by
  have z:m*(q.1*r.2)=m*(r.1*q.2):=by ext
  exact Int.eq_of_mul_eq_mul_left f z
 obtain ⟨a,b⟩:=Ob c d e;exact Prod.ext a b
theorem II {q:Nu} {n m:Int} (c:Low q.1 q.2) (b:0<m) (w:Wo q n m):q.1.natAbs<=n.natAbs/\q.2.natAbs<=m.natAbs:=by
 have e:q=Y_ n m:=Oc c (CT b) (AW b) w (Fg b);subst e;exact ⟨(Km (a:=n) b).2.1,(Km (a:=n) b).2.2.1⟩
theorem Yi {q r:Nu} (a:0<q.2) (b:0<r.2):Low (I_ q r).1 (I_ q r).2:=CT (CB a b)
theorem Yj {q r:Nu} (a:0<q.2) (b:0<r.2):Low (F_ q r).1 (F_ q r).2:=CT (CB a b)
theorem Od {m:Int} (a:0<m):Y_ 0 m=(0,1):=Oc (CT a) ⟨∅,∅⟩ (AW a) (Fg a) (by unfold Wo;omega)
noncomputable def B3 (l:cI):Nat->Nat
 | 0=>0
 | m+1=>if (l.getD m (1,1)).1=0 then B3 l m else m+1
noncomputable def trim (l:cI):cI:=l.take (B3 l l.length)
theorem LD (l:cI):∀ m,B3 l m<=m
 | 0=>AO 0
 | m+1=>by
   unfold B3;split
   ·exact Nat.le_succ_of_le (LD l m)
   ·exact AO _
theorem Oe (l:cI):∀ m,B3 l m=0\/(l.getD (B3 l m - 1) (1,1)).1≠0
 | 0=>.inl rfl
 | m+1=>by
   unfold B3;split
   ·exact Oe l m
   ·rename_i h;exact .inr h
def Nz (l:cI):Prop:=∀ q,l.getLast?=some q->q.1≠0
theorem Yk {l:cI} (h:Nz l):trim l=l:=by
 unfold trim
 have e:B3 l l.length=l.length:=by
  cases b:l.length with
  | zero=>rfl
  | succ m=>
    unfold B3;have a:m<l.length:=by omega
    have z:(l.getD m (1,1)).1≠0:=by
     have q:=h l[m] (by rw [Gv,b];simp [a]);rw [AT,Aj a];exact q
    rw [qT z]
 rw [e,CW]
theorem FC (l:cI):Nz (trim l):=by
 intro q a;unfold trim at a;have b:=LD l l.length;rw [Gv,CC,Nat.min_eq_left b] at a;rcases Oe l l.length with z | z
 ·rw [z] at a;simp at a
 ·by_cases c:B3 l l.length=0
  ·rw [c] at a;simp at a
  ·rw [List.getElem?_take_of_lt ⋯] at a;rw [AT,a] at z;exact z
theorem DJ {l:cI} {q:Nu} (h:q∈trim l):q∈l:=List.mem_of_mem_take h
theorem FE (l:cI):(trim l).length<=l.length:=by
 unfold trim;rw [CC];omega
def AV (l:cI):Prop:=∀ q∈l,Low q.1 q.2
def Of (n:Nat) (l:cI):Prop:=∀ q∈l,Bd n q.1/\Bd n q.2
noncomputable def Aa (l:cI) (i:Nat):Nu:=l.getD i (0,1)
noncomputable def FG (f:Nu->Nu->Nu) (l m:cI):cI:=(List.range (max l.length m.length)).map λi=>f (Aa l i) (Aa m i)
theorem HI:Low 0 1:=⟨∅,∅⟩
theorem C6 {l:cI} (h:AV l) (i:Nat):Low (Aa l i).1 (Aa l i).2:=by
 unfold Aa;rw [AT];cases e:l[i]? with
 | none=>exact HI
 | some q=>exact h q (Ay e)
noncomputable def AZ (l:cI):Int:=l.foldl (λB q=>B*(q.2 / ((Int.gcd B q.2:Nat):Int))) 1
noncomputable def AR (l:cI):cO:=l.map λq=>q.1*(AZ l / q.2)
theorem LE {B d:Int} (b:0<B) (c:0<d):0<B*(d / ((Int.gcd B d:Nat):Int))/\B∣B*(d / ((Int.gcd B d:Nat):Int))/\d∣B*(d / ((Int.gcd B d:Nat):Int))/\(d / ((Int.gcd B d:Nat):Int)).natAbs<=d.natAbs/\0<((Int.gcd B d:Nat):Int)/\((Int.gcd B d:Nat):Int)<=d:=by
 have f:0<Int.gcd B d:=Int.gcd_pos_of_ne_zero_right B ⋯;obtain ⟨k,hk⟩:((Int.gcd B d:Nat):Int)∣d:=D7 B d;obtain ⟨m,g⟩:((Int.gcd B d:Nat):Int)∣B:=Eu B d;have a:(0:Int)<((Int.gcd B d:Nat):Int):=by omega
 have e:d / ((Int.gcd B d:Nat):Int)=k:=by
  have z:d / ((Int.gcd B d:Nat):Int)=(((Int.gcd B d:Nat):Int)*k) / ((Int.gcd B d:Nat):Int):=by rw [<-hk]
  rw [z,FQ _ (AW a)]
 have kp:0<k:=by
  rcases Int.lt_or_le 0 k with h | h
  ·exact h
  ·exfalso;have:=Int.mul_nonneg (DQ a) (show 0<=-k by omega);rw [Int.mul_neg] at this;omega
 have i:((Int.gcd B d:Nat):Int)<=d:=Int.le_of_dvd c (D7 B d);refine ⟨by rw [e];exact CB b kp,Int.dvd_mul_right ..,?_,?_,a,i⟩
 ·rw [e];refine ⟨m,?_⟩;have z:d*m=((Int.gcd B d:Nat):Int)*k*m:=by rw [<-hk]
  have j:B*k=((Int.gcd B d:Nat):Int)*m*k:=by rw [<-g]
  rw [z,j];ext
 ·rw [e]
  have z:d.natAbs=(Int.gcd B d)*k.natAbs:=by
   have:d.natAbs=(((Int.gcd B d:Nat):Int)*k).natAbs:=by rw [<-hk]
   rw [this,CF];simp
  rw [z];exact Nat.le_mul_of_pos_left _ f
theorem Og {b:Nat}:∀ (l:cI) (B:Int) (c:Nat),(∀ q∈l,0<q.2/\Bd b q.2)->0<B->Bd c B->
  0<l.foldl (λB q=>B*(q.2 / ((Int.gcd B q.2:Nat):Int))) B/\B∣l.foldl (λB q=>B*(q.2 / ((Int.gcd B q.2:Nat):Int))) B/\(∀ q∈l,q.2∣l.foldl (λB q=>B*(q.2 / ((Int.gcd B q.2:Nat):Int))) B)/\Bd (c+b*l.length) (l.foldl (λB q=>B*(q.2 / ((Int.gcd B q.2:Nat):Int))) B)
 | [],B,c,_,d,e=>⟨d,Int.dvd_refl B,(λ_ h=>nomatch h),by simpa using e⟩
 | q::l,B,c,h,d,e=>by
   obtain ⟨g,i⟩:=h q (BL ..);obtain ⟨s1,j,k,m,_,_⟩:=LE d g;obtain ⟨n,f,o,p⟩:=Og l (B*(q.2 / ((Int.gcd B q.2:Nat):Int))) (c+b) (λr a=>h r (BW _ a)) s1 (e.mul (i.le m));rw [List.foldl_cons];refine ⟨n,CL j f,λr a=>?_,p.mono (by rw [CO,Nat.mul_add,Nat.mul_one];omega)⟩;rcases A7.mp a with rfl | a
   ·exact CL k f
   ·exact o r a
theorem Oh {b:Nat} {l:cI} (c:AV l) (d:Of b l):0<AZ l/\(∀ q∈l,q.2∣AZ l)/\Bd (1+b*l.length) (AZ l):=by
 obtain ⟨e,_,f,g⟩:=Og (b:=b) l 1 1 (λq a=>⟨(c q a).pos,(d q a).2⟩) ∅ Bd.one;exact ⟨e,f,g⟩
theorem Yl {B d:Int} (a:0<B) (b:0<d):(B / d).natAbs<=B.natAbs:=by
 have c:0<=B / d:=Int.ediv_nonneg (DQ a) (DQ b);have e:B / d<=B:=Int.ediv_le_self d (DQ a);omega
theorem Ym {q:Nu} {B:Int} (a:q.2∣B):Wo q (q.1*(B / q.2)) B:=by
 unfold Wo;rw [Int.mul_assoc,Int.ediv_mul_cancel a]
noncomputable def ps (b a:cO):Nat->d7
 | 0,_=>0
 | i+1,k=>ps b a i k+(if i<=k/\k - i<a.length then b.getD i 0*a.getD (k - i) 0 else 0)
noncomputable def bh (a b:cO) (i j k:Nat):Int:=ps a b i k+(if i<=k/\k - i<j then a.getD i 0*b.getD (k - i) 0 else 0)
theorem Yn (a b:cO) (i k:Nat):bh a b i 0 k=ps a b i k:=by
 unfold bh;rw [qT ⋯];omega
theorem Oi (a b:cO) (i j k:Nat):bh a b i (j+1) k=if k=i+j then bh a b i j k+a.getD i 0*b.getD j 0 else bh a b i j k:=by
 unfold bh;by_cases h:k=i+j
 ·subst h;rw [qU rfl,qU ⟨⋯,⋯⟩,qT ⋯,show i+j - i=j by omega];omega
 ·rw [qT h];congr 1;by_cases c:i<=k/\k - i<j
  ·rw [qU c,qU ⟨c.1,⋯⟩]
  ·rw [qT c,qT ⋯]
theorem GU {c:Nat} {a:cO} (h:∀ z∈a,Bd c z) (i:Nat):Bd c (a.getD i 0):=by
 rw [AT];cases e:a[i]? with
 | none=>exact Nat.pow_pos ∅
 | some z=>exact h z (Ay e)
theorem Dg (c:Nat):Bd c 0:=Nat.pow_pos ∅
theorem LF {c d:Nat} {a b:cO} (e:∀ z∈a,Bd c z) (f:∀ z∈b,Bd d z):∀ i k,Bd (c+d+i) (ps a b i k)
 | 0,_=>Dg _
 | i+1,k=>by
   unfold ps;refine (LF e f i k).add ?_;split
   ·exact ((GU e i).mul (GU f (k - i))).mono ⋯
   ·exact Dg _
theorem LG {b a:cO}:∀ i k,i+a.length<=k+1->ps b a i k=0
 | 0,_,_=>rfl
 | i+1,k,h=>by
   unfold ps;rw [LG i k ⋯,qT ⋯];rfl
noncomputable def EK (l m:cI) (n:Nat):cI:=(List.range n).map λk=>Y_ (ps (AR l) (AR m) l.length k) (AZ l*AZ m)
theorem Oj {l m:cI}:∀ {n:Nat},(∀ i,i<n->l.getD i (1,1)=m.getD i (1,1))->B3 l n=B3 m n
 | 0,_=>rfl
 | n+1,h=>by
   unfold B3;rw [h n (Dr n),Oj λi a=>h i (Nat.lt_succ_of_lt a)]
theorem Ol (l:cI):trim (l++[(0,1)])=trim l:=by
 unfold trim;rw [Bw,List.length_singleton]
 have e:B3 (l++[(0,1)]) (l.length+1)=B3 l l.length:=by
  rw [show B3 (l++[(0,1)]) (l.length+1)=if ((l++[((0,1):Nu)]).getD l.length (1,1)).1=0 then B3 (l++[(0,1)]) l.length else l.length+1 from rfl];rw [qU (by simp [AT])];exact Oj λi a=>by rw [AT,AT,List.getElem?_append_left a]
 rw [e,List.take_append_of_le_length (LD l l.length)]
theorem Om (l m:cI) (n:Nat):EK l m (n+1)=EK l m n++[Y_ (ps (AR l) (AR m) l.length n) (AZ l*AZ m)]:=by
 unfold EK;rw [List.range_succ,Bq];rfl
theorem LH (l m:cI) (a:0<AZ l*AZ m):∀ n,(∀ k,k<n->ps (AR l) (AR m) l.length k=0)->trim (EK l m n)=[]
 | 0,_=>rfl
 | n+1,h=>by
   rw [Om,h n (Dr n),Od a,Ol];exact LH l m a n λk hk=>h k (Nat.lt_succ_of_lt hk)
theorem On {b a:cO} (h:a.length=0):∀ i k,ps b a i k=0
 | 0,_=>rfl
 | i+1,k=>by unfold ps;rw [On h i k,qT ⋯];rfl
theorem Yo {l m:cI} (a:0<AZ l*AZ m) (b:(AR m).length=m.length) :
  trim (EK l m (l.length+m.length))=trim (List.map (λn=>Y_ n (AZ l*AZ m)) (if l.length=0\/m.length=0 then [] else List.map (λk=>ps (AR l) (AR m) l.length k) (List.range (l.length+m.length - 1)))):=by
 by_cases c:l.length=0
 ·rw [qU (.inl c)];refine LH l m a _ λk _=>?_;rw [c];rfl
 ·by_cases d:m.length=0
  ·rw [qU (.inr d)];exact LH l m a _ λk _=>On (by rw [b];exact d) _ _
  ·rw [qT ⋯];obtain ⟨n,e⟩:∃ n,l.length+m.length=n+1:=⟨l.length+m.length - 1,⋯⟩;rw [e,Om,LG l.length n (by rw [b];omega),Od a,Ol,Nat.add_sub_cancel,BX];rfl
noncomputable def val (q:Nu):Rat:=(q.1:Rat) / (q.2:Rat)
theorem U_ (x:Rat):0 / x=0:=by rw [Rat.div_def,Rat.zero_mul]
theorem Au {z:Int} (h:z≠0):(z:Rat)≠0:=by exact_mod_cast h
theorem LI {q:Nu} {n m:Int} (a:q.2≠0) (b:m≠0) (w:Wo q n m):val q=(n:Rat) / (m:Rat):=by
 have c:=Au a;have d:=Au b;have e:(q.1:Rat)*m=n*q.2:=by unfold Wo at w;exact_mod_cast w
 unfold val;ext
theorem DK {q r:Nu} (c:Low q.1 q.2) (d:Low r.1 r.2) (h:val q=val r):q=r:=by
 have a:=Au (AW c.pos);have b:=Au (AW d.pos);unfold val at h;have z:(q.1:Rat)*r.2=r.1*q.2:=by ext
 have e:q.1*r.2=r.1*q.2:=by exact_mod_cast z
 obtain ⟨x,y⟩:=Ob c d e;exact Prod.ext x y
theorem HJ {n m:Int} (a:0<m):val (Y_ n m)=(n:Rat) / (m:Rat):=LI (AW (CT a).pos) (AW a) (Fg a)
theorem Jg {q r:Nu} (c:0<q.2) (d:0<r.2):val (I_ q r)=val q+val r:=by
 unfold I_;rw [HJ (CB c d)];have a:=Au (AW c);have b:=Au (AW d);unfold val;push_cast;ext
theorem IJ {q r:Nu} (c:0<q.2) (d:0<r.2):val (F_ q r)=val q*val r:=by
 unfold F_;rw [HJ (CB c d)];have a:=Au (AW c);have b:=Au (AW d);unfold val;push_cast;ext
noncomputable def Aw (n m:Int):Nu:=if m<0 then Y_ (-n) (-m) else Y_ n m
theorem GV {n m:Int} (a:m≠0):Low (Aw n m).1 (Aw n m).2:=by
 unfold Aw;split
 ·exact CT ⋯
 ·exact CT ⋯
theorem HK {n m:Int} (a:m≠0):val (Aw n m)=(n:Rat) / (m:Rat):=by
 unfold Aw;split
 ·rw [HJ ⋯];have:=Au a;push_cast;ext
 ·exact HJ ⋯
theorem Yp {n m N:Int} (b:m≠0) (h:m∣N):(Aw n m).2∣N:=by
 have a:∀ {n m:Int},0<m->(Y_ n m).2∣m:=λ{n m} c=>by
  unfold Y_;exact Int.ediv_dvd_of_dvd (D7 n m)
 unfold Aw;split
 ·exact CL (a ⋯) (CL (Int.neg_dvd.mpr (Int.dvd_refl m)) h)
 ·exact CL (a ⋯) h
theorem Oo {c d:Nat} {n m:Int} (g:m≠0) (b:Bd c n) (e:Bd d m):Bd c (Aw n m).1/\Bd d (Aw n m).2:=by
 have a:∀ {n m:Int},0<m->Bd c n->Bd d m->Bd c (Y_ n m).1/\Bd d (Y_ n m).2:=λ{n m} f b e=>by
  have w:=II (CT f) f (Fg (n:=n) f);exact ⟨b.le w.1,e.le w.2⟩
 unfold Aw;split
 ·exact a ⋯ b.neg e.neg
 ·exact a ⋯ b e
noncomputable def B_ (l:cI) (k:Nat):Rat:=val (Aa l k)
theorem Yq {q:Nu} (h:Low q.1 q.2) (z:q.1=0):q=(0,1):=DK h HI (by unfold val;rw [z];show ((0:Int):Rat) / _=((0:Int):Rat) / _;rw [show ((0:Int):Rat)=0 from rfl,U_,U_])
theorem Yr {l:cI} (n:AV l) (k:Nat):Aa (trim l) k=Aa l k:=by
 have g:∀ (m:Nat),m<=l.length->(∀ j,m<=j->j<l.length->(Aa l j).1=0)->∀ j,B3 l m<=j->j<l.length->(Aa l j).1=0:=by
  intro m
  induction m with
  | zero=>intro _ h j i c;exact h j ⋯ c
  | succ m o=>
    intro p h j d f;rw [show B3 l (m+1)=if (l.getD m (1,1)).1=0 then B3 l m else m+1 from rfl] at d;split at d
    ·rename_i z;refine o ⋯ (λj i c=>?_) j d f;by_cases e:j=m
     ·subst e;unfold Aa;rw [AT,Aj c] at z ⊢;exact z
     ·exact h j ⋯ c
    ·exact h j d f
 unfold trim;by_cases d:k<B3 l l.length
 ·unfold Aa;rw [AT,AT,List.getElem?_take_of_lt d]
 ·have e:Aa (l.take (B3 l l.length)) k=(0,1):=by
   unfold Aa;rw [AT,Bx (by rw [CC];omega)];rfl
  rw [e];by_cases f:k<l.length
  ·exact (Yq (C6 n k) (g l.length (AO _) (λj a b=>absurd b ⋯) k ⋯ f)).symm
  ·unfold Aa;rw [AT,Bx ⋯];rfl
theorem Fh {l:cI} (a:AV l) (k:Nat):B_ (trim l) k=B_ l k:=by unfold B_;rw [Yr a]
theorem LJ {l:cI} {k:Nat} (h:l.length<=k):Aa l k=(0,1):=by
 unfold Aa;rw [AT,Bx h];rfl
theorem Bt {l:cI} {k:Nat} (h:l.length<=k):B_ l k=0:=by
 unfold B_;rw [LJ h];exact U_ _
theorem Op {a b:cI} (f:Nz b) (h:∀ k,Aa a k=Aa b k):b.length<=a.length:=by
 rcases A8 a.length b.length with g | c
 ·exfalso;have d:b.length - 1<b.length:=by omega
  have q:=f b[b.length - 1] (by rw [Gv];exact Aj d);have e:=h (b.length - 1);rw [LJ ⋯] at e;unfold Aa at e;rw [AT,Aj d] at e;have i:((0,1):Nu)=b[b.length - 1]:=e;rw [<-i] at q;exact q rfl
 ·exact c
theorem Oq {a b:cI} (c:AV a) (d:AV b) (f:Nz a) (j:Nz b) (h:∀ k,B_ a k=B_ b k):a=b:=by
 have g:∀ k,Aa a k=Aa b k:=λk=>DK (C6 c k) (C6 d k) (h k);have e:a.length=b.length:=Ev (Op f λk=>(g k).symm) (Op j g);refine List.ext_getElem e λi m n=>?_;have z:=g i;unfold Aa at z;rw [AT,AT,Aj m,Aj n] at z;exact z
noncomputable def cv (f g:d8):Nat->d8
 | 0,_=>0
 | n+1,k=>cv f g n k+(if n<=k then f n*g (k - n) else 0)
theorem Os {f f' g:d8} {s:Nat} {x:Rat} (a:f s=0) (b:f' s=x) (c:∀ i,i≠s->f' i=f i):∀ n k,cv f' g n k=cv f g n k+(if s<n/\s<=k then x*g (k - s) else 0)
 | 0,k=>by unfold cv;rw [qT ⋯];exact (Rat.add_zero 0).symm
 | n+1,k=>by
   unfold cv;rw [Os a b c n k];by_cases e:n=s
   ·subst e;rw [a,b];by_cases hk:n<=k
    ·rw [qU hk,qU hk,qT ⋯,qU ⟨⋯,hk⟩];ext
    ·rw [qT hk,qT hk,qT ⋯,qT ⋯]
   ·rw [c n e];have d:(s<n+1/\s<=k)↔(s<n/\s<=k):=by omega
    simp only [d];ext
theorem Ot {f g:d8}:∀ n k,(∀ i,i<n->f i=0)->cv f g n k=0
 | 0,_,_=>rfl
 | n+1,k,h=>by
   unfold cv;rw [Ot n k λi a=>h i ⋯,h n ⋯];split <;> ext
theorem Ou {f g:d8} {n:Nat} (h:∀ i,n<=i->f i=0):∀ d k,cv f g (n+d) k=cv f g n k
 | 0,_=>rfl
 | d+1,k=>by
   show cv f g (n+d) k+(if n+d<=k then f (n+d)*g (k - (n+d)) else 0)=_;rw [Ou h d k,h (n+d) ⋯];split <;> ext
theorem Ow {f f' g:d8} (h:∀ i,f i=f' i):∀ n k,cv f g n k=cv f' g n k
 | 0,_=>rfl
 | n+1,k=>by unfold cv;rw [Ow h n k,h n]
noncomputable def O' (l:cI) (M:Int):cO:=l.map λq=>q.1*(M / q.2)
def Ov (l:cI) (M:Int):Prop:=0<M/\∀ q∈l,q.2∣M
theorem Ox {l:cI} {M:Int} (i:Nat):(O' l M).getD i 0=(Aa l i).1*(M / (Aa l i).2):=by
 unfold O' Aa;rw [AT,AT,Ac];cases l[i]? with
 | none=>simp
 | some q=>rfl
theorem Ov.get {l:cI} {M:Int} (h:Ov l M) (i:Nat):(Aa l i).2∣M:=by
 unfold Aa;rw [AT];cases e:l[i]? with
 | none=>exact Int.one_dvd M
 | some q=>exact h.2 q (Ay e)
theorem Ys {l:cI} {M:Int} (h:Ov l M) (i:Nat):Wo (Aa l i) ((O' l M).getD i 0) M:=by
 rw [Ox];exact Ym (h.get i)
theorem GW {l:cI} {M:Int} (a:AV l) (h:Ov l M) (i:Nat):B_ l i=((O' l M).getD i 0:Rat) / (M:Rat):=LI (AW (C6 a i).pos) (AW h.1) (Ys h i)
noncomputable def IK (l m:cI) (a b:Int) (n:Nat):cI:=(List.range n).map λk=>Y_ (ps (O' l a) (O' m b) l.length k) (a*b)
theorem Jh {l m:cI} {d c:Int} (g:AV l) (h:AV m) (e:Ov l d) (f:Ov m c):∀ n k,(ps (O' l d) (O' m c) n k:Rat) / ((d*c:Int):Rat)=cv (B_ l) (B_ m) n k
 | 0,k=>U_ _
 | n+1,k=>by
   have a:=Au (AW e.1);have b:=Au (AW f.1);have i:=Jh g h e f n k;unfold ps cv;rw [<-i];by_cases hk:n<=k
   ·rw [qU hk,GW g e,GW h f];by_cases j:k - n<(O' m c).length
    ·rw [qU ⟨hk,j⟩];push_cast;ext
    ·rw [qT ⋯,show (O' m c).getD (k - n) 0=0 by rw [AT,Bx ⋯];rfl];push_cast;ext
   ·rw [qT hk,qT ⋯];push_cast;ext
theorem Oy {l m:cI} {a b:Int} {n:Nat} (c:Ov l a) (d:Ov m b):AV (IK l m a b n):=by
 intro q e;obtain ⟨k,_,rfl⟩:=AU.mp e;exact CT (CB c.1 d.1)
theorem Oz {l m:cI} {a b:Int} (f:AV l) (g:AV m) (c:Ov l a) (d:Ov m b) (k:Nat):B_ (IK l m a b (l.length+m.length)) k=cv (B_ l) (B_ m) l.length k:=by
 rw [<-Jh f g c d];have i:=CB c.1 d.1;by_cases h:k<l.length+m.length
 ·have e:Aa (IK l m a b (l.length+m.length)) k=Y_ (ps (O' l a) (O' m b) l.length k) (a*b):=by
   unfold IK Aa;rw [AT,Ac,EB h];rfl
  unfold B_;rw [e,HJ i]
 ·rw [Bt (by unfold IK;rw [AG,Bj];omega),LG l.length k (by unfold O';rw [AG];omega)];exact (U_ _).symm
theorem lcm_dvd {B d M:Int} (c:0<B) (f:0<d) (a:B∣M) (b:d∣M):B*(d / ((Int.gcd B d:Nat):Int))∣M:=by
 have z:((Nat.lcm B.natAbs d.natAbs:Nat):Int)∣M:=C3.mp (by rw [Cp];exact Nat.lcm_dvd (C3.mpr a) (C3.mpr b))
 have e:((Nat.lcm B.natAbs d.natAbs:Nat):Int)=B*(d / ((Int.gcd B d:Nat):Int)):=by
  unfold Nat.lcm;rw [Nat.mul_div_assoc _ (Nat.gcd_dvd_right _ _)];push_cast;rw [show ((B.natAbs:Nat):Int)=B by omega,show ((d.natAbs:Nat):Int)=d by omega];rfl
 rw [<-e];exact z
theorem LK {M:Int}:∀ (l:cI) (B:Int),(∀ q∈l,0<q.2/\q.2∣M)->0<B->B∣M->0<l.foldl (λB q=>B*(q.2 / ((Int.gcd B q.2:Nat):Int))) B/\l.foldl (λB q=>B*(q.2 / ((Int.gcd B q.2:Nat):Int))) B∣M
 | [],B,_,a,h=>⟨a,h⟩
 | q::l,B,b,a,h=>by
   obtain ⟨c,d⟩:=b q (BL ..);obtain ⟨s1,_⟩:=LE a c;exact LK l _ (λr e=>b r (BW _ e)) s1 (lcm_dvd a c h d)
theorem Dh {n:Nat} {a b:Int} (d:b≠0) (h:a∣b) (c:Bd n b):Bd n a:=c.le (EU ⋯ (C3.mpr h))
theorem B9 {l:cI} (e:AV l):Ov l (AZ l):=by
 obtain ⟨a,b,_⟩:=Oh (b:=(l.foldl (λn q=>n+q.1.natAbs+q.2.natAbs) 1)) e (λq c=>by
  have d:∀ (l:cI) (n:Nat),n<=l.foldl (λn q=>n+q.1.natAbs+q.2.natAbs) n/\∀ q∈l,q.1.natAbs+q.2.natAbs<=l.foldl (λn q=>n+q.1.natAbs+q.2.natAbs) n:=by
   intro l
   induction l with
   | nil=>intro n;exact ⟨AO _,λ_ h=>nomatch h⟩
   | cons r l f=>
     intro n;obtain ⟨i,g⟩:=f (n+r.1.natAbs+r.2.natAbs);rw [List.foldl_cons];refine ⟨⋯,λq c=>?_⟩;rcases A7.mp c with rfl | c
     ·omega
     ·exact g q c
  have z:=(d l 1).2 q c;exact ⟨Nat.lt_of_le_of_lt ⋯ (Nat.lt_two_pow_self),Nat.lt_of_le_of_lt ⋯ (Nat.lt_two_pow_self)⟩)
 exact ⟨a,b⟩
theorem O0 {l:cI} {M:Int} (b:AV l) (h:Ov l M):AZ l∣M:=(LK l 1 (λq a=>⟨(b q a).pos,h.2 q a⟩) ∅ (Int.one_dvd M)).2
theorem Ji (l:cI):AR l=O' l (AZ l):=rfl
section
variable {α:Type} [Lean.Grind.CommRing α]
noncomputable def cvL:List α->(Nat->α)->Nat->α
 | [],_,_=>0
 | x::a,b,k=>x*b k+(match k with | 0=>0 | k+1=>cvL a b k)
theorem BC (b:Nat->α) (k:Nat):cvL [] b k=0:=rfl
theorem Ax (x:α) (a:List α) (b:Nat->α):cvL (x::a) b 0=x*b 0+0:=rfl
theorem Ar (x:α) (a:List α) (b:Nat->α) (k:Nat):cvL (x::a) b (k+1)=x*b (k+1)+cvL a b k:=rfl
theorem BI {b c:Nat->α} (h:∀ k,b k=c k):∀ (a:List α) (k:Nat),cvL a b k=cvL a c k
 | [],_=>rfl
 | x::a,0=>by rw [Ax,Ax,h 0]
 | x::a,k+1=>by rw [Ar,Ar,h (k+1),BI h a k]
theorem HL (b c:Nat->α):∀ (a:List α) (k:Nat),cvL a (λk=>b k+c k) k=cvL a b k+cvL a c k
 | [],_=>by rw [BC,BC,BC];ext
 | x::a,0=>by rw [Ax,Ax,Ax];ext
 | x::a,k+1=>by rw [Ar,Ar,Ar,HL b c a k];ext
theorem C7 (s:α) (b:Nat->α):∀ (a:List α) (k:Nat),cvL a (λk=>s*b k) k=s*cvL a b k
 | [],_=>by rw [BC,BC];ext
 | x::a,0=>by rw [Ax,Ax];ext
 | x::a,k+1=>by rw [Ar,Ar,C7 s b a k];ext
noncomputable def DS (b:Nat->α):Nat->α
 | 0=>0
 | k+1=>b k
theorem LL (b:Nat->α):∀ (a:List α) (k:Nat),cvL a (DS b) k=DS (cvL a b) k
 | [],0=>rfl
 | [],k+1=>rfl
 | x::a,0=>by rw [Ax];show x*0+0=0;ext
 | x::a,1=>by
   rw [Ar];have h:=LL b a 0;rw [h];show x*b 0+0=cvL (x::a) b 0;rw [Ax]
 | x::a,k+2=>by
   rw [Ar,LL b a (k+1)];show x*b (k+1)+cvL a b k=cvL (x::a) b (k+1);rw [Ar]
theorem GZ (x:α) (a:List α) (b:Nat->α) (k:Nat):cvL (x::a) b k=x*b k+DS (cvL a b) k:=by
 cases k with
 | zero=>exact Ax x a b
 | succ k=>exact Ar x a b k
theorem IL (c:Nat->α):∀ (a b:List α) (k:Nat),cvL a (cvL b c) k=cvL b (cvL a c) k
 | [],b,k=>by
   rw [BC];have e:cvL b (cvL [] c) k=cvL b (λk=>0*c k) k:=BI (λk=>by rw [BC];ext) b k;rw [e,C7];ext
 | x::a,b,k=>by
   rw [GZ];have e:cvL b (cvL (x::a) c) k=cvL b (λk=>x*c k+DS (cvL a c) k) k:=BI (λk=>GZ x a c k) b k;rw [e,HL,C7,LL]
   have d:DS (cvL a (cvL b c)) k=DS (cvL b (cvL a c)) k:=by
    cases k with
    | zero=>rfl
    | succ k=>exact IL c a b k
   rw [d]
noncomputable def Ak:Nat->α
 | 0=>1
 | _+1=>0
theorem DT:∀ (a:List α) (k:Nat),cvL a Ak k=a.getD k 0
 | [],k=>by rw [BC];simp
 | x::a,0=>by rw [Ax];show x*1+0=x;ext
 | x::a,k+1=>by
   rw [Ar,DT a k];show x*0+a.getD k 0=(x::a).getD (k+1) 0;rw [List.getD_cons_succ];ext
end
theorem Yt {n k:Nat}:k∣2 ^ n↔∃ a,a<=n/\k=2 ^ a:=by
 constructor
 ·induction n generalizing k with
  | zero=>intro h;exact ⟨0,AO 0,by simpa using h⟩
  | succ n d=>
    intro h;by_cases f:2∣k
    ·obtain ⟨j,rfl⟩:=f;rw [Cn,DP (2 ^ n) 2] at h;obtain ⟨a,b,e⟩:=d (Nat.dvd_of_mul_dvd_mul_left ∅ h);exact ⟨a+1,⋯,by rw [e,Cn,DP]⟩
    ·have c:Nat.Coprime k 2:=by
      have:Nat.gcd k 2∣2:=Nat.gcd_dvd_right k 2;have g:=EU ∅ this;have i:Nat.gcd k 2≠2:=λz=>f (by rw [<-z];exact Nat.gcd_dvd_left k 2);have m:Nat.gcd k 2≠0:=λz=>by have:=Nat.eq_zero_of_gcd_eq_zero_right z;omega
      show Nat.gcd k 2=1;omega
     rw [Cn] at h;obtain ⟨a,b,e⟩:=d (c.dvd_of_dvd_mul_right h);exact ⟨a,⋯,e⟩
 ·rintro ⟨a,b,rfl⟩;exact Nat.pow_dvd_pow 2 b
structure Pr (p:Nat):Prop where
 two:2<=p
 div:∀ d,d∣p->d=1\/d=p
theorem Pr.cop {p:Nat} (h:Pr p) {a:Nat} (b:¬ p∣a):Nat.gcd a p=1:=by
 rcases h.div _ (Nat.gcd_dvd_right a p) with e | e
 ·exact e
 ·exact absurd (e ▸ Nat.gcd_dvd_left a p) b
theorem Pr.mul {p:Nat} (h:Pr p) {a b:Nat} (d:p∣a*b):p∣a\/p∣b:=by
 by_cases c:p∣a
 ·exact .inl c
 ·refine .inr (Nat.Coprime.dvd_of_dvd_mul_left (k:=p) (m:=a) ?_ d);have:=h.cop c;rw [Nat.gcd_comm] at this;exact this
theorem Pr.mulI {p:Nat} (h:Pr p) {a b:Int} (c:(p:Int)∣a*b):(p:Int)∣a\/(p:Int)∣b:=by
 have z:=C3.mpr c;rw [CF,Cp] at z;rcases h.mul z with e | e
 ·exact .inl (C3.mp (by rw [Cp];exact e))
 ·exact .inr (C3.mp (by rw [Cp];exact e))
theorem O3 {m:Nat} (v:2<=m):∃ q,Pr q/\q∣m/\(q=m\/q*q<=m):=by
 have c:∀ n d,2<=d->(∀ e,2<=e->e<d->¬ e∣m)->m=d+n->∃ q,2<=q/\q∣m/\∀ e,2<=e->e<q->¬ e∣m:=by
  intro n
  induction n with
  | zero=>intro d a h e;exact ⟨d,a,by rw [e];exact Nat.dvd_refl _,h⟩
  | succ n o=>
    intro d a h e;by_cases b:d∣m
    ·exact ⟨d,a,b,h⟩
    ·refine o (d+1) ⋯ (λx p r=>?_) ⋯;by_cases f:x=d
     ·rw [f];exact b
     ·exact h x p ⋯
 obtain ⟨q,u,g,j⟩:=c (m - 2) 2 (AO 2) (λe w i=>absurd i ⋯) ⋯;refine ⟨q,⟨u,λd a=>?_⟩,g,?_⟩
 ·by_cases i:2<=d
  ·right;rcases A8 d q with h | h
   ·exact absurd (Nat.dvd_trans a g) (j d i h)
   ·exact Ev (EU ⋯ a) h
  ·left;have:d≠0:=λz=>by rw [z] at a;have:=Nat.eq_zero_of_zero_dvd a;omega
   omega
 ·obtain ⟨k,hk⟩:=g;by_cases y:k<=1
  ·left
   have:k=1:=by
    rcases D6 k with z | z
    ·rw [z] at hk;omega
    ·omega
   rw [hk,this,Nat.mul_one]
  ·right;rcases A8 k q with h | h
   ·exact absurd ⟨q,by rw [hk,DP]⟩ (j k ⋯ h)
   ·rw [hk];exact EV q h
theorem aH:∀ (n m:Nat) (f:Nat->Nat),(∀ i,i<m->f i<n)->(∀ i j,i<m->j<m->f i=f j->i=j)->m<=n
 | 0,m,f,h,_=>by
   rcases D6 m with z | z
   ·omega
   ·exact absurd (h 0 z) ⋯
 | n+1,0,_,_,_=>by omega
 | n+1,m+1,f,h,a=>by
   have:=aH n m (λi=>if f i=n then f m else f i) (λi d=>by
    show (if f i=n then f m else f i)<n;by_cases e:f i=n
    ·rw [qU e];have g:=h m (Dr m);have:f m≠n:=λz=>absurd (a i m ⋯ ⋯ (by rw [e,z])) ⋯;omega
    ·rw [qT e];have g:=h i ⋯;omega) (λi j d k e=>by
    have e:(if f i=n then f m else f i)=(if f j=n then f m else f j):=e;by_cases c:f i=n
    ·rw [qU c] at e;by_cases b:f j=n
     ·exact a i j ⋯ ⋯ (by rw [c,b])
     ·rw [qT b] at e;exact absurd (a m j ⋯ ⋯ e) ⋯
    ·rw [qT c] at e;by_cases b:f j=n
     ·rw [qU b] at e;exact absurd (a i m ⋯ ⋯ e) ⋯
     ·rw [qT b] at e;exact a i j ⋯ ⋯ e)
   omega
noncomputable abbrev Rt:=Int×Int
noncomputable def O_ (q:Int) (x y:Rt):Rt:=((x.1*y.1+3*(x.2*y.2)) % q,(x.1*y.2+x.2*y.1) % q)
noncomputable def C_ (q:Int):Nat->Rt
 | 0=>(1 % q,0 % q)
 | n+1=>O_ q (2,1) (C_ q n)
theorem Fj {q a b c:Int} (h:a - b=q*c):a % q=b % q:=by
 have:a=b+q*c:=by omega
 rw [this,Int.add_mul_emod_self_left]
theorem em {a q:Int}:∃ c,a % q=a - q*c:=⟨a / q,by have:=Int.emod_add_mul_ediv a q;omega⟩
theorem HM (q:Int) (x y z:Rt):O_ q (O_ q x y) z=O_ q x (O_ q y z):=by
 obtain ⟨a,b⟩:=x;obtain ⟨c,d⟩:=y;obtain ⟨e,f⟩:=z;obtain ⟨g,h⟩:=em (a:=a*c+3*(b*d)) (q:=q);obtain ⟨i,j⟩:=em (a:=a*d+b*c) (q:=q);obtain ⟨k,m⟩:=em (a:=c*e+3*(d*f)) (q:=q);obtain ⟨n,o⟩:=em (a:=c*f+d*e) (q:=q);refine Prod.ext ?_ ?_
 ·show ((a*c+3*(b*d)) % q*e+3*((a*d+b*c) % q*f)) % q=(a*((c*e+3*(d*f)) % q)+3*(b*((c*f+d*e) % q))) % q;rw [h,j,m,o];exact Fj (c:=a*k+3*b*n - g*e - 3*i*f) ()
 ·show ((a*c+3*(b*d)) % q*f+((a*d+b*c) % q*e)) % q=(a*((c*f+d*e) % q)+(b*((c*e+3*(d*f)) % q))) % q;rw [h,j,m,o];exact Fj (c:=a*n+b*k - g*f - i*e) ()
theorem Yu (q:Int) (x y:Rt):O_ q x y=O_ q y x:=by
 refine Prod.ext ?_ ?_
 ·show (x.1*y.1+3*(x.2*y.2)) % q=(y.1*x.1+3*(y.2*x.2)) % q;congr 1;ext
 ·show (x.1*y.2+x.2*y.1) % q=(y.1*x.2+y.2*x.1) % q;congr 1;ext
def rn (q:Int) (x:Rt):Prop:=x.1 % q=x.1/\x.2 % q=x.2
theorem Yv (q:Int) (x y:Rt):rn q (O_ q x y):=⟨Int.emod_emod ..,Int.emod_emod ..⟩
theorem Ga (q:Int):∀ n,rn q (C_ q n)
 | 0=>⟨Int.emod_emod ..,Int.emod_emod ..⟩
 | _+1=>Yv q _ _
theorem ax (q:Int) {x:Rt} (h:rn q x):O_ q (C_ q 0) x=x:=by
 obtain ⟨d,e⟩:=em (a:=1) (q:=q);obtain ⟨f,g⟩:=em (a:=0) (q:=q);refine Prod.ext ?_ ?_
 ·show (1 % q*x.1+3*(0 % q*x.2)) % q=x.1;rw [e,g,<-h.1];rw [Fj (b:=x.1 % q) (c:=- d*(x.1 % q) - 3*f*x.2) (),Int.emod_emod]
 ·show (1 % q*x.2+0 % q*x.1) % q=x.2;rw [e,g,<-h.2];rw [Fj (b:=x.2 % q) (c:=- d*(x.2 % q) - f*x.1) (),Int.emod_emod]
theorem Gb (q:Int):∀ m n,C_ q (m+n)=O_ q (C_ q m) (C_ q n)
 | 0,n=>by rw [Nat.zero_add,ax q (Ga q n)]
 | m+1,n=>by
   rw [Nat.succ_add];show O_ q (2,1) (C_ q (m+n))=O_ q (O_ q (2,1) (C_ q m)) (C_ q n);rw [Gb q m n,HM]
noncomputable def ay (q:Int):Nat->Rt
 | 0=>(1 % q,0 % q)
 | n+1=>O_ q (2,-1) (ay q n)
theorem r21 (q:Int):O_ q (2,-1) (2,1)=C_ q 0:=by
 refine Prod.ext ?_ ?_
 ·show (2*2+3*(-1*1)) % q=1 % q;rfl
 ·show (2*1 + -1*2) % q=0 % q;rfl
theorem O4 (q:Int):∀ n,O_ q (ay q n) (C_ q n)=C_ q 0
 | 0=>ax q (Ga q 0)
 | n+1=>by
   show O_ q (O_ q (2,-1) (ay q n)) (O_ q (2,1) (C_ q n))=_;rw [HM,<-HM q (ay q n),Yu q (ay q n) (2,1),HM q (2,1),O4 q n,<-HM,r21,ax q (Ga q 0)]
theorem LM (q:Int) {m:Nat} (h:C_ q m=C_ q 0):∀ k,C_ q (m*k)=C_ q 0
 | 0=>rfl
 | k+1=>by rw [Nat.mul_succ,Gb,LM q h k,h,ax q (Ga q 0)]
theorem rord (q:Int) {n:Nat} (c:C_ q (2 ^ (n+1))=C_ q 0) (f:C_ q (2 ^ n)≠C_ q 0):∀ d,0<d->d<2 ^ (n+1)->C_ q d≠C_ q 0:=by
 intro d
 induction d using Nat.strongRecOn with
 | _ d g=>
 intro i u e;have j:=Nat.mod_lt (2 ^ (n+1)) i
 have m:C_ q (2 ^ (n+1) % d)=C_ q 0:=by
  have o:=Nat.div_add_mod (2 ^ (n+1)) d;rw [<-o,Gb,LM q e,ax q (Ga q _)] at c;exact c
 rcases D6 (2 ^ (n+1) % d) with z | z
 ·obtain ⟨k,hk⟩:=Nat.dvd_of_mod_eq_zero z;obtain ⟨a,v,b⟩:=(Yt (n:=n+1) (k:=d)).mp ⟨k,hk⟩
  have p:a<=n:=by
   rcases A8 n a with h | h
   ·exfalso;have:a=n+1:=by omega
    rw [this] at b;omega
   ·exact h
  apply f;have r:2 ^ n=d*2 ^ (n - a):=by rw [b,<-Nat.pow_add];congr 1;omega
  rw [r];exact LM q e _
 ·exact g _ j z ⋯ m
theorem aI (q:Int):∀ n,∃ c,(C_ q n).1*(C_ q n).1 - 3*((C_ q n).2*(C_ q n).2) - 1=q*c
 | 0=>by
   obtain ⟨d,f⟩:=em (a:=1) (q:=q);obtain ⟨e,g⟩:=em (a:=0) (q:=q);refine ⟨-2*d+q*d*d - 3*q*e*e,?_⟩;show (1 % q)*(1 % q) - 3*((0 % q)*(0 % q)) - 1=_;rw [f,g];ext
 | n+1=>by
   obtain ⟨c,j⟩:=aI q n;obtain ⟨d,f⟩:=em (a:=2*(C_ q n).1+3*(1*(C_ q n).2)) (q:=q);obtain ⟨e,g⟩:=em (a:=2*(C_ q n).2+1*(C_ q n).1) (q:=q);have h:(C_ q (n+1)).1=2*(C_ q n).1+3*(1*(C_ q n).2) - q*d:=f;have i:(C_ q (n+1)).2=2*(C_ q n).2+1*(C_ q n).1 - q*e:=g;rw [h,i];generalize (C_ q n).1=a at *;generalize (C_ q n).2=b at *;exact ⟨c - 2*d*(2*a+3*b)+q*d*d+6*e*(2*b+a) - 3*q*e*e,()⟩
theorem Yw (q:Int) (n:Nat):∃ c,2*(C_ q (n+n)).1=(2*(C_ q n).1)*(2*(C_ q n).1) - 2+q*c:=by
 obtain ⟨c,e⟩:=aI q n;rw [Gb];obtain ⟨b,d⟩:=em (a:=(C_ q n).1*(C_ q n).1+3*((C_ q n).2*(C_ q n).2)) (q:=q);refine ⟨-2*b - 2*c,?_⟩;show 2*(((C_ q n).1*(C_ q n).1+3*((C_ q n).2*(C_ q n).2)) % q)=_;rw [d];ext
noncomputable def ll (M:Nat):Nat->Nat->Nat
 | 0,s=>s
 | k+1,s=>ll M k ((s*s+(M - 2)) % M)
theorem O5 {q:Int} {M:Nat} (f:2<=M) (g:q∣(M:Int)):∀ (k t s:Nat),q∣2*(C_ q (2 ^ t)).1 - (s:Int)->q∣2*(C_ q (2 ^ (t+k))).1 - (ll M k s:Int)
 | 0,t,s,h=>h
 | k+1,t,s,h=>by
   have:=O5 f g k (t+1) ((s*s+(M - 2)) % M) (by
    obtain ⟨c,i⟩:=Yw q (2 ^ t);obtain ⟨d,j⟩:=h;obtain ⟨m,n⟩:=g;have e:(2:Nat) ^ (t+1)=2 ^ t+2 ^ t:=by rw [Cn];omega
    rw [e,i]
    have z:(((s*s+(M - 2)) % M:Nat):Int)=(s:Int)*s+(M - 2) - M*(((s*s+(M - 2)) / M:Nat):Int):=by
     have:=Nat.mod_add_div (s*s+(M - 2)) M
     have o:(((s*s+(M - 2)) % M:Nat):Int)+(M:Int)*(((s*s+(M - 2)) / M:Nat):Int)=(s:Int)*s+(M - 2):=by
      have:=congrArg (λx:Nat=>(x:Int)) this;simp only [Int.natCast_add,Int.natCast_mul] at this;rw [this,Int.natCast_sub f];rfl
     omega
    rw [z];generalize (((s*s+(M - 2)) / M:Nat):Int)=w;generalize (C_ q (2 ^ t)).1=a at j;have b:2*a=s+q*d:=by omega
    rw [b,n];exact ⟨2*s*d+q*d*d+c - m+m*w,()⟩)
   rw [show t+(k+1)=t+1+k by omega];exact this
theorem Yx {n:Nat} (h:ll (2 ^ (n+2) - 1) n 4 % (2 ^ (n+2) - 1)=0):Pr (2 ^ (n+2) - 1):=by
 have N:4<=2 ^ (n+2):=by rw [Nat.pow_add];have:=Nat.one_le_two_pow (n:=n);omega
 generalize hM:2 ^ (n+2) - 1=M at h ⊢;obtain ⟨q,p,r,A⟩:=O3 (m:=M) ⋯;rcases A with e | A
 ·rw [<-e];exact p
 exfalso;have O:(q:Int)∣(M:Int):=Int.natCast_dvd_natCast.mpr r;have q2:=p.two
 have P:q≠2:=λz=>by
  rw [z] at r;have:2 ^ (n+2)=2*2 ^ (n+1):=by rw [Cn 2 (n+1)];omega
  omega
 have Q:(q:Int)∣2*(C_ q (2 ^ (0+n))).1 - (ll M n 4:Int):=O5 ⋯ O n 0 4 (by
  show (q:Int)∣2*(O_ q (2,1) (C_ q 0)).1 - 4;obtain ⟨f,u⟩:=em (a:=1) (q:=(q:Int));obtain ⟨g,v⟩:=em (a:=0) (q:=(q:Int));show (q:Int)∣2*((2*(1 % (q:Int))+3*(1*(0 % (q:Int)))) % (q:Int)) - 4;obtain ⟨R,S⟩:=em (a:=2*(1 % (q:Int))+3*(1*(0 % (q:Int)))) (q:=(q:Int));rw [S,u,v];exact ⟨-4*f - 6*g - 2*R,()⟩)
 have s1:(q:Int)∣(ll M n 4:Int):=Int.natCast_dvd_natCast.mpr (Nat.dvd_trans r (Nat.dvd_of_mod_eq_zero h))
 have T:(q:Int)∣2*(C_ q (2 ^ n)).1:=by
  have:=Co Q s1;rw [Nat.zero_add] at this;rw [Int.sub_add_cancel] at this;exact this
 have U:(q:Int)∣(C_ q (2 ^ n)).1:=by
  rcases p.mulI T with z | z
  ·exfalso;have w:=Int.natCast_dvd_natCast.mp (show (q:Int)∣((2:Nat):Int) from z);have:=EU ∅ w;omega
  ·exact z
 have k:(q:Int)≠0:=by omega
 have o:C_ q (2 ^ (n+1))=((-1) % (q:Int),0 % (q:Int)):=by
  have e:(2:Nat) ^ (n+1)=2 ^ n+2 ^ n:=by rw [Cn];omega
  rw [e,Gb];obtain ⟨c,W⟩:=aI q (2 ^ n);obtain ⟨d,x⟩:=U;refine Prod.ext ?_ ?_
  ·show ((C_ q (2 ^ n)).1*(C_ q (2 ^ n)).1+3*((C_ q (2 ^ n)).2*(C_ q (2 ^ n)).2)) % (q:Int)=(-1) % (q:Int);refine Fj (c:=2*q*d*d - c) ?_;generalize (C_ q (2 ^ n)).2=b at *;rw [x] at W ⊢;ext
  ·show ((C_ q (2 ^ n)).1*(C_ q (2 ^ n)).2+(C_ q (2 ^ n)).2*(C_ q (2 ^ n)).1) % (q:Int)=0 % (q:Int);refine Fj (c:=2*d*(C_ q (2 ^ n)).2) ?_;rw [x];ext
 have v:C_ q (2 ^ (n+1))≠C_ q 0:=λz=>by
  rw [o] at z;have X:(-1) % (q:Int)=1 % (q:Int):=congrArg Prod.fst z;have w:(q:Int)∣-1 - 1:=Int.dvd_of_emod_eq_zero ((Int.emod_eq_emod_iff_emod_sub_eq_zero).mp X);have Y:=C3.mpr w;have:=EU ∅ Y;rw [Cp] at this;have:(-1 - 1:Int).natAbs=2:=by decide
  omega
 have u:C_ q (2 ^ (n+1+1))=C_ q 0:=by
  have e:(2:Nat) ^ (n+1+1)=2 ^ (n+1)+2 ^ (n+1):=by rw [Cn 2 (n+1)];omega
  rw [e,Gb,o];obtain ⟨f,B⟩:=em (a:=-1) (q:=(q:Int));obtain ⟨g,C⟩:=em (a:=0) (q:=(q:Int));refine Prod.ext ?_ ?_
  ·show ((-1) % (q:Int)*((-1) % (q:Int))+3*(0 % (q:Int)*(0 % (q:Int)))) % (q:Int)=1 % (q:Int);refine Fj (c:=2*f+q*f*f+3*q*g*g) ?_;rw [B,C];ext
  ·show ((-1) % (q:Int)*(0 % (q:Int))+0 % (q:Int)*((-1) % (q:Int))) % (q:Int)=0 % (q:Int);refine Fj (c:=2*g+2*q*f*g) ?_;rw [B,C];ext
 have ord:=rord (q:Int) u v
 have D:∀ i d,0<d->i+d<2 ^ (n+2)->C_ q i≠C_ q (i+d):=λi d Z x z=>by
  have e:C_ q d=C_ q 0:=by
   have a:=O4 (q:Int) i
   have b:O_ q (ay q i) (C_ q (i+d))=C_ q d:=by
    rw [Gb,<-HM,a,ax _ (Ga _ _)]
   rw [<-b,<-z,a]
  exact ord d Z (by have:(2:Nat) ^ (n+1+1)=2 ^ (n+2):=rfl;omega) e
 have y:∀ i,0<=(C_ q i).1/\(C_ q i).1<q/\0<=(C_ q i).2/\(C_ q i).2<q:=λi=>by
  obtain ⟨a,b⟩:=Ga (q:Int) i;have E:(0:Int)<q:=by omega
  have F:=CN (C_ q i).1 k;have G:=Cc (C_ q i).1 E;have H:=CN (C_ q i).2 k;have I:=Cc (C_ q i).2 E;rw [a] at F G;rw [b] at H I;exact ⟨F,G,H,I⟩
 have pg:=aH (q*q) (2 ^ (n+2)) (λi=>(C_ q i).1.toNat*q+(C_ q i).2.toNat) (λi _=>by
  obtain ⟨a,b,c,d⟩:=y i;have J:(C_ q i).1.toNat+1<=q:=by omega
  have d':(C_ q i).2.toNat<q:=by omega
  have:=CY q J;rw [Nat.add_mul,Nat.one_mul] at this;show (C_ q i).1.toNat*q+(C_ q i).2.toNat<q*q;omega) (λi j hi hj e=>by
  have e:(C_ q i).1.toNat*q+(C_ q i).2.toNat=(C_ q j).1.toNat*q+(C_ q j).2.toNat:=e;obtain ⟨a,b,c,d⟩:=y i;obtain ⟨J,b',c',d'⟩:=y j;have o:=congrArg (·% q) e;have K:=congrArg (·/ q) e;simp only [DP _ q,Nat.mul_add_mod,Nat.mul_add_div (show 0<q by omega)] at o K;rw [Nat.mod_eq_of_lt ⋯,Nat.mod_eq_of_lt ⋯] at o;rw [Nat.div_eq_of_lt ⋯,Nat.div_eq_of_lt ⋯] at K;have L:C_ q i=C_ q j:=Prod.ext ⋯ ⋯;rcases Nat.lt_trichotomy i j with h | h | h
  ·exact absurd L (by have:=D i (j - i) ⋯ ⋯;rw [show i+(j - i)=j by omega] at this;exact this)
  ·exact h
  ·exact absurd L.symm (by have:=D j (i - j) ⋯ ⋯;rw [show j+(i - j)=i by omega] at this;exact this))
 omega
noncomputable def cx (M k s:Nat):Nat:=Nat.rec (motive:=λ_=>Nat->Nat) (λs=>s) (λ_ a s=>a ((s*s+(M - 2)) % M)) k s
noncomputable def cA (x:Nat) (f:Nat->Nat):Nat:=Nat.rec (motive:=λ_=>Nat) (f 0) (λn _=>f (n+1)) x
noncomputable def llo (M k j s:Nat):Nat:=Nat.rec (motive:=λ_=>Nat->Nat) (λs=>s) (λ_ a s=>cA (cx M k s) a) j s
theorem LN (M:Nat):∀ k s,cx M k s=ll M k s
 | 0,_=>rfl
 | k+1,s=>LN M k _
theorem O6 (x:Nat) (f:Nat->Nat):cA x f=f x:=by cases x <;> rfl
theorem LO (M:Nat):∀ a b s,ll M (a+b) s=ll M b (ll M a s)
 | 0,b,s=>by rw [Nat.zero_add];rfl
 | a+1,b,s=>by rw [Nat.succ_add];exact LO M a b _
theorem O7 (M k:Nat):∀ j s,llo M k j s=ll M (k*j) s
 | 0,_=>rfl
 | j+1,s=>by
   show cA (cx M k s) (llo M k j)=_;rw [O6,LN,O7 M k j,<-LO];congr 1;rw [Nat.mul_succ,Nat.add_comm]
noncomputable def mers (e:Nat):Nat:=2 ^ e - 1
theorem Fk {n r k j:Nat} (e:n=k*j+r) (h:Nat.beq (cA (llo (mers (n+2)) k j 4) (λs=>cx (mers (n+2)) r s % mers (n+2))) 0=true):Pr (mers (n+2)):=by
 refine Yx ?_;replace h:=Nat.eq_of_beq_eq_true h;rw [O6,O7,LN,<-LO,<-e] at h;exact h
theorem Yy:Pr (mers 61):=Fk (n:=59) (r:=9) (k:=10) (j:=5) rfl (by decide +kernel)
theorem Yz:Pr (mers 127):=Fk (n:=125) (r:=5) (k:=20) (j:=6) rfl (by decide +kernel)
theorem Y3:Pr (mers 521):=Fk (n:=519) (r:=19) (k:=50) (j:=10) rfl (by decide +kernel)
theorem Y4:Pr (mers 1279):=Fk (n:=1277) (r:=77) (k:=100) (j:=12) rfl (by decide +kernel)
theorem Y5:Pr (mers 4423):=Fk (n:=4421) (r:=21) (k:=100) (j:=44) rfl (by decide +kernel)
theorem Y6:Pr (mers 9941):=Fk (n:=9939) (r:=39) (k:=100) (j:=99) rfl (by decide +kernel)
theorem Y7:Pr (mers 21701):=Fk (n:=21699) (r:=99) (k:=150) (j:=144) rfl (by decide +kernel)
theorem Y8:Pr (mers 44497):=Fk (n:=44495) (r:=95) (k:=200) (j:=222) rfl (by decide +kernel)
noncomputable def co (a:cO) (k:Nat):Int:=a.getD k 0
section
variable {α:Type} [Lean.Grind.CommRing α]
noncomputable def A4:List α->List α->List α
 | [],b=>b
 | a,[]=>a
 | x::a,y::b=>(x+y)::A4 a b
theorem LP (a:List α):A4 a []=a:=by cases a <;> rfl
theorem Bi (g:Nat->α):∀ (a b:List α) (k:Nat),cvL (A4 a b) g k=cvL a g k+cvL b g k
 | [],b,k=>by show cvL b g k=0+cvL b g k;ext
 | x::a,[],k=>by rw [LP,BC];ext
 | x::a,y::b,0=>by show cvL ((x+y)::A4 a b) g 0=_;rw [Ax,Ax,Ax];ext
 | x::a,y::b,k+1=>by show cvL ((x+y)::A4 a b) g (k+1)=_;rw [Ar,Ar,Ar,Bi g a b k];ext
theorem BD (c:α) (g:Nat->α):∀ (a:List α) (k:Nat),cvL (a.map (c*·)) g k=c*cvL a g k
 | [],k=>by show (0:α)=c*0;ext
 | x::a,0=>by rw [CD,Ax,Ax];ext
 | x::a,k+1=>by rw [CD,Ar,Ar,BD c g a k];ext
noncomputable def Av (s:Nat) (f:Nat->α) (k:Nat):α:=if s<=k then f (k - s) else 0
theorem IM (g:Nat->α):∀ (s:Nat) (a:List α) (k:Nat),cvL (List.replicate s 0++a) g k=Av s (cvL a g) k
 | 0,a,k=>by unfold Av;rw [qU (Ae k)];rfl
 | s+1,a,0=>by unfold Av;rw [qT ⋯];show cvL (0::(List.replicate s 0++a)) g 0=0;rw [Ax];ext
 | s+1,a,k+1=>by
   show cvL (0::(List.replicate s 0++a)) g (k+1)=_;rw [Ar,IM g s a k];unfold Av;by_cases h:s<=k
   ·rw [qU h,qU ⋯,show k+1 - (s+1)=k - s by omega];ext
   ·rw [qT h,qT ⋯];ext
noncomputable def BV:List α->List α->List α
 | [],_=>[]
 | x::a,b=>A4 (b.map (x*·)) (0::BV a b)
theorem Bu (g:Nat->α):∀ (a b:List α) (k:Nat),cvL (BV a b) g k=cvL a (cvL b g) k
 | [],b,k=>rfl
 | x::a,b,k=>by
   show cvL (A4 (b.map (x*·)) (0::BV a b)) g k=_;rw [Bi,BD,GZ,GZ]
   have e:DS (cvL (BV a b) g) k=DS (cvL a (cvL b g)) k:=by
    cases k with
    | zero=>rfl
    | succ k=>exact Bu g a b k
   rw [e];ext
theorem DU (g:Nat->α) (s:α):∀ (a:List α) (k:Nat),cvL (a++[s]) g k=cvL a g k+s*Av a.length g k
 | [],0=>by show cvL [s] g 0=0+s*g 0;rw [Ax];ext
 | [],k+1=>by show cvL [s] g (k+1)=0+s*g (k+1);rw [Ar,BC];ext
 | x::a,0=>by show cvL (x::(a++[s])) g 0=_;rw [Ax,Ax];unfold Av;rw [qT (by simp)];ext
 | x::a,k+1=>by
   show cvL (x::(a++[s])) g (k+1)=_;rw [Ar,Ar,DU g s a k]
   have e:Av (x::a).length g (k+1)=Av a.length g k:=by
    unfold Av;rw [CO];by_cases h:a.length<=k
    ·rw [qU h,qU ⋯,show k+1 - (a.length+1)=k - a.length by omega]
    ·rw [qT h,qT ⋯]
   rw [e];ext
theorem Fl (a:List α) {g:Nat->α} (h:∀ k,g k=0) (k:Nat):cvL a g k=0:=by
 rw [BI (c:=λk=>0*g k) (λj=>by rw [h j];ext) a k,C7];ext
end
theorem Cu (a:cO) (k:Nat):co a k=cvL a Ak k:=(DT a k).symm
theorem B5 (a b:cO) (k:Nat):cvL a (co b) k=cvL b (co a) k:=by
 rw [BI (Cu b) a k,IL,BI (λj=>(Cu a j).symm) b k]
theorem Ag {a:cO} {k:Nat} (h:a.length<=k):co a k=0:=by
 unfold co;rw [AT,Bx h];rfl
theorem EL {g:d7} {n:Nat} (h:∀ i,n<=i->g i=0):∀ (a:cO) (k:Nat),a.length+n<=k+1->cvL a g k=0
 | [],_,_=>rfl
 | x::a,0,hk=>by
   rw [CO] at hk;rw [Ax,h 0 ⋯];omega
 | x::a,k+1,hk=>by
   rw [CO] at hk;rw [Ar,h (k+1) ⋯,EL h a k ⋯];omega
theorem LQ {p:Int} {g:d7} {n:Nat} (h:∀ i,n<i->p∣g i):∀ (a:cO) (k:Nat),a.length+n<=k->p∣cvL a g k
 | [],_,_=>Cq p
 | x::a,0,hk=>absurd hk (by rw [CO];omega)
 | x::a,k+1,hk=>by
   rw [CO] at hk;rw [Ar];exact Co (FR (h (k+1) ⋯)) (LQ h a k ⋯)
theorem Jj {p:Nat} (hp:Pr p) {g:d7} {n:Nat} (q:¬ (p:Int)∣g n) (h:∀ i,n<i->(p:Int)∣g i) (S:cO) :
  (∀ k,n<=k->(p:Int)∣cvL S g k)->∀ s∈S,(p:Int)∣s:=by
 induction hl:S.length generalizing S with
 | zero=>intro _ s d;rw [CI.mp hl] at d;exact nomatch d
 | succ m r=>
   intro hk;have j:S≠[]:=λz=>by rw [z] at hl;simp at hl
   obtain ⟨T,t,rfl⟩:∃ T t,S=T++[t]:=⟨S.dropLast,S.getLast j,(Gw j).symm⟩;have u:T.length=m:=by simpa using hl
   have o:(p:Int)∣t:=by
    have a:=hk (T.length+n) ⋯;rw [DU] at a;have b:=LQ h T (T.length+n) (AO _)
    have c:(p:Int)∣t*Av T.length g (T.length+n):=by
     have:=Int.dvd_sub a b;rwa [show ∀ x y:Int,x+y - x=y by intro x y;omega] at this
    unfold Av at c;rw [qU ⋯,show T.length+n - T.length=n by omega] at c;rcases hp.mulI c with z | z
    ·exact z
    ·exact absurd z q
   have e:=r T u (λk f=>by
    have a:=hk k f;rw [DU] at a;have:=Int.dvd_sub a (F6 (c:=Av T.length g k) o);rwa [show ∀ x y:Int,x+y - y=x by intro x y;omega] at this)
   intro s d;rcases CK.mp d with h | h
   ·exact e s h
   ·rw [Ap.mp h];exact o
def Lz (g:cO):Prop:=0<g.length/\co g (g.length - 1)≠0
def QI (r o f:d7):Prop:=∃ d:Int,d≠0/\∃ U V:cO,∀ k,d*f k=cvL U r k+cvL V o k
def MQ (g f:d7):Prop:=∃ c:Int,c≠0/\∃ A:cO,∀ k,c*f k=cvL A g k
theorem QI.congr {r o f h:d7} (q:QI r o f) (e:∀ k,h k=f k):QI r o h:=by
 obtain ⟨d,a,U,V,b⟩:=q;exact ⟨d,a,U,V,λk=>by rw [e k];exact b k⟩
theorem QI.left (r o:d7):QI r o r:=⟨1,∅,[1],[],λk=>by
 rw [BC];cases k with
 | zero=>rw [Ax];omega
 | succ k=>rw [Ar,BC];omega⟩
theorem QI.right (r o:d7):QI r o o:=⟨1,∅,[],[1],λk=>by
 rw [BC];cases k with
 | zero=>rw [Ax];omega
 | succ k=>rw [Ar,BC];omega⟩
theorem QI.less {r o f h:d7} (q:QI r o f) (i:QI r o h) (a w:Int) (s:Nat):QI r o (λk=>a*f k - w*Av s h k):=by
 obtain ⟨d,j,U,V,m⟩:=q;obtain ⟨c,e,n,p,g⟩:=i;refine ⟨d*c,By j e,A4 (U.map (c*a*·)) (List.replicate s 0++n.map (-(d*w)*·)),A4 (V.map (c*a*·)) (List.replicate s 0++p.map (-(d*w)*·)),λk=>?_⟩;show d*c*(a*f k - w*Av s h k)=_;rw [Bi,Bi,BD,BD,IM,IM];unfold Av;have u:=m k;by_cases b:s<=k
 ·rw [qU b,qU b,qU b,BD,BD];have v:=g (k - s);ext
 ·rw [qT b,qT b,qT b];ext
theorem QI.scal {r o f:d7} {c:Int} (a:c≠0) (q:QI r o (λk=>c*f k)):QI r o f:=by
 obtain ⟨d,b,U,V,e⟩:=q;exact ⟨d*c,By b a,U,V,λk=>by rw [<-e k];ext⟩
theorem MQ.refl (g:d7):MQ g g:=⟨1,∅,[1],λk=>by
 cases k with
 | zero=>rw [Ax];omega
 | succ k=>rw [Ar,BC];omega⟩
theorem MQ.zero (g:d7) {f:d7} (h:∀ k,f k=0):MQ g f:=⟨1,∅,[],λk=>by rw [BC,h k];rfl⟩
theorem MQ.congr {g f h:d7} (m:MQ g f) (e:∀ k,h k=f k):MQ g h:=by
 obtain ⟨c,a,A,b⟩:=m;exact ⟨c,a,A,λk=>by rw [e k];exact b k⟩
theorem MQ.less {g f h:d7} (m:MQ g f) (j:MQ g h) (a w:Int) (s:Nat):MQ g (λk=>a*f k - w*Av s h k):=by
 obtain ⟨d,n,U,o⟩:=m;obtain ⟨c,e,p,i⟩:=j;refine ⟨d*c,By n e,A4 (U.map (c*a*·)) (List.replicate s 0++p.map (-(d*w)*·)),λk=>?_⟩;show d*c*(a*f k - w*Av s h k)=_;rw [Bi,BD,IM];unfold Av;have q:=o k;by_cases b:s<=k
 ·rw [qU b,qU b,BD];have r:=i (k - s);ext
 ·rw [qT b,qT b];ext
theorem MQ.scal {g f:d7} {c:Int} (a:c≠0) (m:MQ g (λk=>c*f k)):MQ g f:=by
 obtain ⟨d,b,A,e⟩:=m;exact ⟨d*c,By b a,A,λk=>by rw [<-e k];ext⟩
theorem MQ.trans {g f h:d7} (m:MQ g f) (a:MQ f h):MQ g h:=by
 obtain ⟨c,b,A,i⟩:=m;obtain ⟨d,j,B,n⟩:=a;refine ⟨c*d,By b j,BV B A,λk=>?_⟩;rw [Bu];have e:c*cvL B f k=cvL B (cvL A g) k:=by rw [<-C7];exact BI i B k
 rw [<-e,<-n k];ext
theorem MQ.of_QI {r o f g:d7} (a:MQ g r) (b:MQ g o) (q:QI r o f):MQ g f:=by
 obtain ⟨d,h,U,V,i⟩:=q;obtain ⟨c,j,A,m⟩:=a;obtain ⟨e,n,B,p⟩:=b;refine ⟨c*e*d,By (By j n) h,A4 ((BV U A).map (e*·)) ((BV V B).map (c*·)),λk=>?_⟩;rw [Bi,BD,BD,Bu,Bu];have u:c*cvL U r k=cvL U (cvL A g) k:=by rw [<-C7];exact BI m U k
 have v:e*cvL V o k=cvL V (cvL B g) k:=by rw [<-C7];exact BI p V k
 have w:=i k;ext
theorem QI.of_MQ {r o f h:d7} (q:QI r o f) (m:MQ f h):QI r o h:=by
 obtain ⟨c,a,A,b⟩:=m;obtain ⟨d,g,U,V,i⟩:=q;refine ⟨d*c,By g a,BV A U,BV A V,λk=>?_⟩;rw [Bu,Bu];have e:d*cvL A f k=cvL A (cvL U r) k+cvL A (cvL V o) k:=by rw [<-C7,<-HL];exact BI i A k
 rw [<-e,<-b k];ext
theorem LR {f:cO} (h:co f (f.length - 1)=0) (k:Nat):co f.dropLast k=co f k:=by
 unfold co at *;rw [AT,AT];rw [List.getElem?_dropLast];by_cases hk:k<f.length - 1
 ·rw [qU hk]
 ·rw [qT hk];by_cases e:k=f.length - 1
  ·subst e;rw [AT] at h;rw [h];rfl
  ·rw [Bx ⋯]
theorem Dz (f:cO):(∀ k,co f k=0)\/∃ g,Lz g/\g.length<=f.length/\∀ k,co g k=co f k:=by
 induction hn:f.length generalizing f with
 | zero=>exact .inl λk=>Ag ⋯
 | succ n a=>
   by_cases h:co f (f.length - 1)=0
   ·rcases a f.dropLast (by rw [List.length_dropLast];omega) with z | ⟨g,b,d,c⟩
    ·exact .inl λk=>by rw [<-LR h];exact z k
    ·exact .inr ⟨g,b,⋯,λk=>by rw [c,LR h]⟩
   ·exact .inr ⟨f,⟨⋯,h⟩,⋯,λ_=>rfl⟩
theorem Jk (n:Nat) (F:d7) (k:Nat):co ((List.range n).map F) k=if k<n then F k else 0:=by
 unfold co;rw [AT,Ac];by_cases h:k<n
 ·rw [qU h,EB h];rfl
 ·rw [qT h,Bx (by rw [Bj];omega)];rfl
structure Gen (r o:d7) (g:cO):Prop where
 lz:Lz g
 qi:QI r o (co g)
 len:∀ h,Lz h->QI r o (co h)->g.length<=h.length
 last:∀ h,Lz h->QI r o (co h)->h.length=g.length->(co g (g.length - 1)).natAbs<=(co h (h.length - 1)).natAbs
theorem Y9 {r o:d7} {f:cO} (d:Lz f) (q:QI r o (co f)):∃ g,Gen r o g:=by
 have L:∀ n,(∃ f,f.length=n/\Lz f/\QI r o (co f))->∃ m,(∃ f,f.length=m/\Lz f/\QI r o (co f))/\∀ h,Lz h->QI r o (co h)->m<=h.length:=by
  intro n
  induction n using Nat.strongRecOn with
  | _ n e=>
    intro k;by_cases a:∃ m,m<n/\∃ f,f.length=m/\Lz f/\QI r o (co f)
    ·obtain ⟨m,i,a⟩:=a;exact e m i a
    ·refine ⟨n,k,λh b c=>?_⟩;rcases A8 h.length n with z | z
     ·exact absurd ⟨h.length,z,h,rfl,b,c⟩ a
     ·exact z
 obtain ⟨m,⟨p,u,v,w⟩,i⟩:=L f.length ⟨f,rfl,d,q⟩
 have M:∀ n,(∃ f,f.length=m/\Lz f/\QI r o (co f)/\(co f (f.length - 1)).natAbs=n)->∃ g,Gen r o g:=by
  intro n
  induction n using Nat.strongRecOn with
  | _ n e=>
    rintro ⟨f,x,d,y,B⟩;by_cases a:∃ j,j<n/\∃ f,f.length=m/\Lz f/\QI r o (co f)/\(co f (f.length - 1)).natAbs=j
    ·obtain ⟨j,A,a⟩:=a;exact e j A a
    ·refine ⟨f,d,y,λh b c=>by rw [x];exact i h b c,λh b c C=>?_⟩;rcases A8 (co h (h.length - 1)).natAbs (co f (f.length - 1)).natAbs with z | z
     ·exact absurd ⟨_,⋯,h,⋯,b,c,rfl⟩ a
     ·exact z
 exact M _ ⟨p,u,v,w,rfl⟩
theorem Gen.mq {r o:d7} {g:cO} (G:Gen r o g):∀ (n:Nat) (f:cO),f.length<=n->QI r o (co f)->MQ (co g) (co f)
 | 0,f,h,_=>MQ.zero _ λk=>Ag ⋯
 | n+1,f,h,q=>by
   rcases Dz f with z | ⟨b,u,A,i⟩
   ·exact MQ.zero _ z
   have j:QI r o (co b):=q.congr i;have B:=G.len b u j;refine MQ.congr (f:=co b) ?_ λk=>(i k).symm;generalize C:b.length - g.length=s;have D:=G.lz.1;let F:cO:=(List.range (b.length - 1)).map λk=>co g (g.length - 1)*co b k - co b (b.length - 1)*Av s (co g) k
   have p:∀ k,co F k=co g (g.length - 1)*co b k - co b (b.length - 1)*Av s (co g) k:=λk=>by
    rw [Jk];by_cases hk:k<b.length - 1
    ·rw [qU hk]
    ·rw [qT hk];unfold Av;by_cases e:k=b.length - 1
     ·rw [qU ⋯,e,show b.length - 1 - s=g.length - 1 by omega];ext
     ·rw [Ag (a:=b) ⋯];by_cases d:s<=k
      ·rw [qU d,Ag (a:=g) (k:=k - s) ⋯];omega
      ·rw [qT d];omega
   have v:QI r o (co F):=QI.congr (j.less G.qi (co g (g.length - 1)) (co b (b.length - 1)) s) p
   have w:F.length<=n:=by
    have:F.length=b.length - 1:=by show ((List.range (b.length - 1)).map _).length=_;rw [AG,Bj]
    omega
   have m:=Gen.mq G n F w v;have x:=MQ.less (MQ.congr m λk=>(p k).symm) (MQ.refl (co g)) 1 (-(co b (b.length - 1))) s;refine MQ.scal (c:=co g (g.length - 1)) G.lz.2 (MQ.congr x λk=>?_);show _=1*_ - _*Av s (co g) k;generalize Av s (co g) k=y;ext
theorem Gen.prim {r o:d7} {g:cO} (G:Gen r o g) {p:Nat} (hp:2<=p):∃ n,¬ (p:Int)∣co g n/\∀ i,n<i->(p:Int)∣co g i:=by
 have b:∀ n,(∀ i,n<=i->(p:Int)∣co g i)->(∀ i,(p:Int)∣co g i)\/∃ n,¬ (p:Int)∣co g n/\∀ i,n<i->(p:Int)∣co g i:=by
  intro n
  induction n with
  | zero=>intro h;exact .inl λi=>h i (Ae i)
  | succ n v=>
    intro h;by_cases m:(p:Int)∣co g n
    ·exact v λi d=>by
      by_cases e:i=n
      ·rw [e];exact m
      ·exact h i ⋯
    ·exact .inr ⟨n,m,λi d=>h i ⋯⟩
 rcases b g.length (λi d=>by rw [Ag d];exact Cq _) with h | h
 ·exfalso;let a:cO:=g.map (·/ (p:Int))
  have f:∀ k,(p:Int)*co a k=co g k:=λk=>by
   have:co a k=co g k / (p:Int):=by
    show (g.map (·/ (p:Int))).getD k 0=g.getD k 0 / (p:Int);rw [AT,AT,Ac];cases g[k]? with
    | none=>exact (Int.zero_ediv _).symm
    | some z=>rfl
   rw [this,F9 (h k)]
  have w:(p:Int)≠0:=by omega
  have C8:a.length=g.length:=AG ..;have q:co a (a.length - 1)≠0:=λz=>G.lz.2 (by rw [<-f,<-C8,z];omega);have x:Lz a:=⟨by rw [C8];exact G.lz.1,q⟩;have y:QI r o (co a):=QI.scal (c:=(p:Int)) w (QI.congr G.qi f);have u:=G.last a x y C8;have j:=f (g.length - 1);rw [<-C8] at j;rw [C8] at j u;rw [<-j,CF,Cp] at u;rw [C8] at q;have A:0<(co a (g.length - 1)).natAbs:=by omega
  have:=CY (co a (g.length - 1)).natAbs hp;omega
 ·exact h
theorem Gen.loc {r o:d7} {g:cO} (G:Gen r o g) {p:Nat} (hp:Pr p) {f:d7} (m:MQ (co g) f) :
  ∃ (c:Int) (A:cO),¬ (p:Int)∣c/\∀ k,c*f k=cvL A (co g) k:=by
 obtain ⟨n,v,w⟩:=G.prim hp.two;obtain ⟨c,x,A,b⟩:=m
 have i:∀ (m:Nat) (c:Int) (A:cO),c.natAbs<=m->c≠0->(∀ k,c*f k=cvL A (co g) k)->∃ (c:Int) (A:cO),¬ (p:Int)∣c/\∀ k,c*f k=cvL A (co g) k:=by
  intro m
  induction m with
  | zero=>intro c A h u;omega
  | succ m y=>
    intro c A h u b;by_cases j:(p:Int)∣c
    ·have B:∀ a∈A,(p:Int)∣a:=Jj hp v w A λk _=>by rw [<-b k];exact F6 j
     obtain ⟨d,rfl⟩:=j;have C:=hp.two;have q:d≠0:=λz=>u (by rw [z];omega)
     have D:A=(A.map (·/ (p:Int))).map ((p:Int)*·):=by
      rw [BX]
      conv=>lhs;rw [<-List.map_id A]
      refine Cf λa E=>?_;show a=(p:Int)*(a / (p:Int));rw [F9 (B a E)]
     refine y d (A.map (·/ (p:Int))) ?_ q λk=>?_
     ·rw [CF,Cp] at h;have F:0<d.natAbs:=by omega
      have:=CY d.natAbs C;omega
     ·have e:=b k;rw [D,BD,Int.mul_assoc] at e;exact Int.eq_of_mul_eq_mul_left ⋯ e
    ·exact ⟨c,A,j,b⟩
 exact i _ c A (AO _) x b
theorem ZA (a b:Nat):∃ x y:Int,x*a+y*b=(Nat.gcd a b:Int):=by
 induction a,b using Nat.gcd.induction with
 | H0 n=>exact ⟨0,1,by simp⟩
 | H1 m n d c=>
   obtain ⟨x,y,h⟩:=c;refine ⟨y - x*((n / m:Nat):Int),x,?_⟩;rw [Nat.gcd_rec,<-h]
   have e:(n:Int)=(m:Int)*((n / m:Nat):Int)+((n % m:Nat):Int):=by
    have:=Nat.div_add_mod n m;exact_mod_cast this.symm
   generalize ((n / m:Nat):Int)=q at *;generalize ((n % m:Nat):Int)=w at *;rw [e];ext
theorem ZB (a b:Int):∃ x y:Int,x*a+y*b=(Int.gcd a b:Int):=by
 obtain ⟨x,y,h⟩:=ZA a.natAbs b.natAbs
 have s:∀ z:Int,∃ e:Int,(z.natAbs:Int)=e*z:=λz=>by
  rcases Int.natAbs_eq z with h | h
  ·exact ⟨1,⋯⟩
  ·exact ⟨-1,⋯⟩
 obtain ⟨e,c⟩:=s a;obtain ⟨f,d⟩:=s b;refine ⟨x*e,y*f,?_⟩;show _=((Nat.gcd a.natAbs b.natAbs:Nat):Int);rw [<-h,c,d];ext
def Dm (p:Int) (g f:d7):Prop:=∃ S:cO,∀ k,p∣f k - cvL S g k
theorem Gen.dm {r o:d7} {g:cO} (G:Gen r o g) {p:Nat} (hp:Pr p) {f:d7} (m:MQ (co g) f):Dm (p:Int) (co g) f:=by
 obtain ⟨c,A,d,e⟩:=G.loc hp m
 have b:Int.gcd c (p:Int)=1:=by
  have:=hp.cop (a:=c.natAbs) λz=>d (C3.mp (by rw [Cp];exact z));exact this
 obtain ⟨x,y,i⟩:∃ x y:Int,x*c+y*(p:Int)=1:=by
  obtain ⟨x,y,h⟩:=ZB c (p:Int);exact ⟨x,y,by rw [h,b];rfl⟩
 refine ⟨A.map (x*·),λk=>⟨f k*y,?_⟩⟩;rw [BD,<-e k];ext
theorem Dm.less {p:Int} {g f h:d7} (m:Dm p g f) (d:Dm p g h) (a w:Int) (s:Nat):Dm p g (λk=>a*f k - w*Av s h k):=by
 obtain ⟨S,e⟩:=m;obtain ⟨i,c⟩:=d;refine ⟨A4 (S.map (a*·)) (List.replicate s 0++i.map (-w*·)),λk=>?_⟩;show p∣a*f k - w*Av s h k - _;rw [Bi,BD,IM];unfold Av;obtain ⟨x,j⟩:=e k;by_cases b:s<=k
 ·rw [qU b,qU b,BD];obtain ⟨y,n⟩:=c (k - s);exact ⟨a*x - w*y,()⟩
 ·rw [qT b,qT b];exact ⟨a*x,()⟩
theorem Dm.congr {p:Int} {g f h:d7} (m:Dm p g f) (e:∀ k,p∣h k - f k):Dm p g h:=by
 obtain ⟨S,a⟩:=m;exact ⟨S,λk=>by have:=Co (e k) (a k);rwa [show ∀ x y z:Int,x - y+(y - z)=x - z by intro x y z;omega] at this⟩
theorem Dm.zero (p:Int) (g:d7) {f:d7} (h:∀ k,p∣f k):Dm p g f:=⟨[],λk=>by rw [BC];simpa using h k⟩
theorem Gen.lead {r o:d7} {g R:cO} (G:Gen r o g) {p:Nat} (hp:Pr p) (D:Lz R) (m:MQ (co g) (co R)) (h:¬ (p:Int)∣co R (R.length - 1)):¬ (p:Int)∣co g (g.length - 1):=by
 intro E;obtain ⟨n,b,F⟩:=G.prim hp.two;obtain ⟨c,A,d,f⟩:=G.loc hp m
 have M:n+1<g.length:=by
  rcases A8 n g.length with z | z
  ·rcases A8 (n+1) g.length with y | y
   ·exact y
   ·exact absurd E (by rw [show g.length - 1=n by omega];exact b)
  ·exact absurd (by rw [Ag z];exact Cq _) b
 rcases Dz A with z | ⟨B,q,_,H⟩
 ·have:c*co R (R.length - 1)=0:=by
   rw [f,B5,Fl g z]
  rcases Int.mul_eq_zero.mp this with e | e
  ·exact d (by rw [e];exact Cq _)
  ·exact D.2 e
 ·have u:∀ k,c*co R k=cvL B (co g) k:=λk=>by rw [f,B5,BI (λj=>(H j).symm) g k,<-B5]
  have N:B.length+g.length<=R.length+1:=by
   rcases A8 (R.length+1) (B.length+g.length) with z | z
   ·exfalso;have v:=q.1;have O:=G.lz.1;have e:=u (B.length - 1+(g.length - 1));rw [Ag ⋯] at e;have w:B≠[]:=λz=>by rw [z] at v;simp at v
    obtain ⟨T,t,a⟩:∃ T t,B=T++[t]:=⟨B.dropLast,B.getLast w,(Gw w).symm⟩;have I:T.length=B.length - 1:=by rw [a];simp
    have J:co B (B.length - 1)=t:=by rw [<-I,a];unfold co;simp [AT]
    rw [a,DU,<-a,EL (n:=g.length) (λi K=>Ag K) T _ ⋯] at e;unfold Av at e;rw [qU ⋯,show B.length - 1+(g.length - 1) - T.length=g.length - 1 by omega] at e;have L:t*co g (g.length - 1)=0:=by omega
    rcases Int.mul_eq_zero.mp L with x | x
    ·exact q.2 (J.trans x)
    ·exact G.lz.2 x
   ·exact z
  have C:=LQ F B (R.length - 1) ⋯;rw [<-u] at C;rcases hp.mulI C with x | x
  ·exact d x
  ·exact h x
theorem Dm.len {p:Nat} (hp:Pr p) {g f:cO} (o:0<g.length) (b:¬ (p:Int)∣co g (g.length - 1)) (d:Dm (p:Int) (co g) (co f)) (j:∃ k,¬ (p:Int)∣co f k):g.length<=f.length:=by
 rcases A8 f.length g.length with z | z
 ·exfalso;obtain ⟨S,a⟩:=d
  have sS:=Jj hp b (λi q=>by rw [Ag ⋯];exact Cq _) S λk hk=>by
   have:=a k;rw [Ag ⋯] at this;have e:=Int.dvd_neg.mpr this;rwa [show ∀ x:Int,-(0 - x)=x by intro x;omega] at e
  obtain ⟨k,hk⟩:=j;apply hk
  have c:∀ (S:cO),(∀ s∈S,(p:Int)∣s)->∀ k,(p:Int)∣cvL S (co g) k:=by
   intro S
   induction S with
   | nil=>intro _ k;exact Cq _
   | cons x S m=>
     intro h k;rw [GZ];refine Co (F6 (h x (BL ..))) ?_;cases k with
     | zero=>exact Cq _
     | succ k=>exact m (λs n=>h s (BW _ n)) k
  have:=Co (a k) (c S sS k);rwa [Int.sub_add_cancel] at this
 ·exact z
structure RC (r o:d7) (g:cO):Prop where
 lz:Lz g
 left:MQ (co g) r
 right:MQ (co g) o
 qi:QI r o (co g)
theorem Gen.rc {R O g:cO} (G:Gen (co R) (co O) g):RC (co R) (co O) g:=
 ⟨G.lz,G.mq _ R (AO _) (QI.left _ _),G.mq _ O (AO _) (QI.right _ _),G.qi⟩
theorem ZC {r o:d7} {g h:cO} (G:RC r o g) (b:Lz h) (f:MQ (co h) r) (m:MQ (co h) o) (J:g.length<=h.length):RC r o h:=by
 refine ⟨b,f,m,G.qi.of_MQ ?_⟩;obtain ⟨d,A,T,p⟩:=MQ.of_QI f m G.qi;rcases Dz T with z | ⟨B,c,_,C⟩
 ·exfalso;have:d*co g (g.length - 1)=0:=by rw [p,B5,Fl h z]
  rcases Int.mul_eq_zero.mp this with e | e
  ·exact A e
  ·exact G.lz.2 e
 ·have q:∀ k,d*co g k=cvL B (co h) k:=λk=>by rw [p,B5,BI (λj=>(C j).symm) h k,<-B5]
  have u:=c.1;have K:=b.1;have v:B≠[]:=λz=>by rw [z] at u;simp at u
  obtain ⟨X,t,a⟩:∃ X t,B=X++[t]:=⟨B.dropLast,B.getLast v,(Gw v).symm⟩;have D:X.length=B.length - 1:=by rw [a];simp
  have w:co B (B.length - 1)=t:=by rw [<-D,a];unfold co;simp [AT]
  have one:B.length=1:=by
   rcases A8 1 B.length with y | y
   ·exfalso;have e:=q (B.length - 1+(h.length - 1));rw [Ag ⋯,a,DU,<-a,EL (n:=h.length) (λi E=>Ag E) X _ ⋯] at e;unfold Av at e;rw [qU ⋯,show B.length - 1+(h.length - 1) - X.length=h.length - 1 by omega] at e;have F:t*co h (h.length - 1)=0:=by omega
    rcases Int.mul_eq_zero.mp F with x | x
    ·exact c.2 (w.trans x)
    ·exact b.2 x
   ·omega
  have H:X=[]:=CI.mp ⋯;have I:t≠0:=λz=>c.2 (w.trans z);refine ⟨t,I,[d],λk=>?_⟩;have e:=q k;rw [a,H] at e;cases k with
  | zero=>rw [Ax];rw [show ([]++[t]:cO)=[t] from rfl,Ax] at e;omega
  | succ k=>rw [Ar,BC];rw [show ([]++[t]:cO)=[t] from rfl,Ar,BC] at e;omega
def Prim (g:cO):Prop:=∀ c:Int,(∀ k,c∣co g k)->c.natAbs=1
theorem Prim.top {g:cO} (P:Prim g) {p:Nat} (hp:2<=p):∃ n,¬ (p:Int)∣co g n/\∀ i,n<i->(p:Int)∣co g i:=by
 have a:∀ n,(∀ i,n<=i->(p:Int)∣co g i)->(∀ i,(p:Int)∣co g i)\/∃ n,¬ (p:Int)∣co g n/\∀ i,n<i->(p:Int)∣co g i:=by
  intro n
  induction n with
  | zero=>intro h;exact .inl λi=>h i (Ae i)
  | succ n d=>
    intro h;by_cases c:(p:Int)∣co g n
    ·exact d λi b=>by
      by_cases e:i=n
      ·rw [e];exact c
      ·exact h i ⋯
    ·exact .inr ⟨n,c,λi b=>h i ⋯⟩
 rcases a g.length (λi b=>by rw [Ag b];exact Cq _) with h | h
 ·have:=P (p:Int) h;omega
 ·exact h
theorem T_ {g:cO} (P:Prim g) {f:d7} (m:MQ (co g) f):∃ A:cO,∀ k,f k=cvL A (co g) k:=by
 obtain ⟨c,u,A,b⟩:=m
 have i:∀ (m:Nat) (c:Int) (A:cO),c.natAbs<=m->c≠0->(∀ k,c*f k=cvL A (co g) k)->∃ A:cO,∀ k,f k=cvL A (co g) k:=by
  intro m
  induction m with
  | zero=>intro c A h o;omega
  | succ m v=>
    intro c A h o b;by_cases q:c.natAbs=1
    ·rcases Int.natAbs_eq c with e | e
     ·exact ⟨A,λk=>by rw [<-b k,e,q];omega⟩
     ·exact ⟨A.map (-1*·),λk=>by rw [BD,<-b k,e,q];omega⟩
    ·obtain ⟨p,hp,w,_⟩:=O3 (m:=c.natAbs) ⋯;have r:(p:Int)∣c:=C3.mp (by rw [Cp];exact w);obtain ⟨n,x,y⟩:=P.top hp.two;have B:∀ a∈A,(p:Int)∣a:=Jj hp x y A λk _=>by rw [<-b k];exact F6 r
     obtain ⟨d,rfl⟩:=r;have C:=hp.two;have j:d≠0:=λz=>o (by rw [z];omega)
     have D:A=(A.map (·/ (p:Int))).map ((p:Int)*·):=by
      rw [BX]
      conv=>lhs;rw [<-List.map_id A]
      refine Cf λa E=>?_;show a=(p:Int)*(a / (p:Int));rw [F9 (B a E)]
     refine v d (A.map (·/ (p:Int))) ?_ j λk=>?_
     ·rw [CF,Cp] at h;have F:0<d.natAbs:=by omega
      have:=CY d.natAbs C;omega
     ·have e:=b k;rw [D,BD,Int.mul_assoc] at e;exact Int.eq_of_mul_eq_mul_left ⋯ e
 exact i _ c A (AO _) u b
noncomputable def evI:cO->Int->Int
 | [],_=>0
 | a::l,x=>a+x*evI l x
theorem Jl:∀ (l:cO) (x:Int),(∀ k,co l k=0)->evI l x=0
 | [],_,_=>rfl
 | a::l,x,h=>by
   have b:a=0:=h 0;show a+x*evI l x=0;rw [b,Jl l x λk=>h (k+1)];omega
theorem LU:∀ (a b:cO) (x:Int),(∀ k,co a k=co b k)->evI a x=evI b x
 | [],b,x,h=>(Jl b x λk=>(h k).symm).symm
 | a::l,[],x,h=>Jl (a::l) x h
 | a::l,b::m,x,h=>by
   have c:a=b:=h 0;show a+x*evI l x=b+x*evI m x;rw [c,LU l m x λk=>h (k+1)]
theorem O8:∀ (a b:cO) (x:Int),evI (A4 a b) x=evI a x+evI b x
 | [],b,x=>by show evI b x=0+evI b x;omega
 | a::l,[],x=>by rw [LP];show _=_+0;omega
 | a::l,b::m,x=>by
   show (a+b)+x*evI (A4 l m) x=a+x*evI l x+(b+x*evI m x);rw [O8 l m x];ext
theorem O9 (c:Int):∀ (a:cO) (x:Int),evI (a.map (c*·)) x=c*evI a x
 | [],x=>by show (0:Int)=c*0;omega
 | a::l,x=>by
   show c*a+x*evI (l.map (c*·)) x=c*(a+x*evI l x);rw [O9 c l x];ext
theorem PB:∀ (a b:cO) (x:Int),evI (BV a b) x=evI a x*evI b x
 | [],b,x=>by show (0:Int)=0*_;omega
 | a::l,b,x=>by
   show evI (A4 (b.map (a*·)) (0::BV l b)) x=(a+x*evI l x)*evI b x;rw [O8,O9];show a*evI b x+(0+x*evI (BV l b) x)=_;rw [PB l b x];ext
theorem IN (a b:cO) (k:Nat):co (BV a b) k=cvL a (co b) k:=by
 rw [Cu,Bu];exact BI (λj=>(Cu b j).symm) a k
theorem ZD {r a g:cO} (h:∀ k,co r k=cvL a (co g) k) (x:Int):evI r x=evI a x*evI g x:=by
 rw [<-PB];exact LU r (BV a g) x λk=>by rw [IN];exact h k
theorem PC {b c:Nat} {x:Int} (d:Bd c x):∀ (l:cO),(∀ z∈l,Bd b z)->Bd (b+l.length*(c+1)) (evI l x)
 | [],_=>Dg _
 | a::l,f=>by
   show Bd _ (a+x*evI l x);have g:=f a (BL ..);have h:=d.mul (PC d l λz i=>f z (BW _ i));have e:(l.length+1)*(c+1)=l.length*(c+1)+(c+1):=by rw [Nat.add_mul,Nat.one_mul]
   refine ((g.mono (n:=c+(b+l.length*(c+1))) ⋯).add h).mono ?_;rw [CO,e];omega
noncomputable def Z_:cO->Int->cO
 | [],_=>[]
 | _::l,t=>evI l t::Z_ l t
theorem Jm:∀ (l:cO) (t:Int),(Z_ l t).length=l.length
 | [],_=>rfl
 | _::l,t=>congrArg (·+1) (Jm l t)
theorem LV:∀ (l:cO) (t x:Int),evI l x - evI l t=(x - t)*evI (Z_ l t) x
 | [],t,x=>by show (0:Int) - 0=_*0;omega
 | a::l,t,x=>by
   show a+x*evI l x - (a+t*evI l t)=(x - t)*(evI l t+x*evI (Z_ l t) x);have:=LV l t x;ext
theorem Jn:∀ (l:cO) (t:Int) (k:Nat),co l k=(if k=0 then evI l t else co (Z_ l t) (k - 1)) - t*co (Z_ l t) k
 | [],t,k=>by
   rw [show co (Z_ [] t) k=0 from Ag (Ae _),show co (Z_ [] t) (k - 1)=0 from Ag (Ae _),Ag (Ae _)];show 0=(if k=0 then 0 else 0) - _;split <;> omega
 | a::l,t,0=>by
   show a=a+t*evI l t - t*evI l t;omega
 | a::l,t,k+1=>by
   have:=Jn l t k;show co l k=(if k+1=0 then _ else co (evI l t::Z_ l t) (k+1 - 1)) - t*co (Z_ l t) k;rw [qT ⋯,this];cases k with
   | zero=>rfl
   | succ k=>rw [qT ⋯];rfl
theorem ZE (l:cO) (t:Int):co (Z_ l t) (l.length - 1)=0:=by
 induction l with
 | nil=>exact Ag (Ae _)
 | cons a l b=>
   show co (evI l t::Z_ l t) l.length=0;cases h:l.length with
   | zero=>rw [CI.mp h];rfl
   | succ m=>rw [h] at b;exact b
theorem aJ {c:Nat}:∀ (d:Nat) (l:cO) (y:Nat) (x:d7),(∀ k,d<k->co l k=0)->(∀ i,i<=d->Bd c (x i))->(∀ i j,i<=d->j<=d->i≠j->x i≠x j)->(∀ i,i<=d->Bd y (evI l (x i)))->∀ k,Bd (y+d*(c+3)) (co l k)
 | 0,l,y,x,m,_,_,f,k=>by
   cases k with
   | zero=>
     have e:evI l (x 0)=co l 0:=by
      cases l with
      | nil=>rfl
      | cons a l=>
        show a+x 0*evI l (x 0)=a;rw [Jl l (x 0) λk=>m (k+1) ⋯];omega
     have:=f 0 (AO 0);rw [e] at this;exact this.mono ⋯
   | succ k=>rw [m (k+1) ⋯];exact Dg _
 | d+1,l,y,x,m,q,r,f,k=>by
   have v:∀ j,d<j->co (Z_ l (x (d+1))) j=0:=by
    have g:∀ n,∀ j,d<j->l.length<=j+n->co (Z_ l (x (d+1))) j=0:=by
     intro n
     induction n with
     | zero=>intro j _ h;exact Ag (by rw [Jm];omega)
     | succ n o=>
       intro j p h;have e:=Jn l (x (d+1)) (j+1);rw [m (j+1) ⋯,qT ⋯,o (j+1) ⋯ ⋯] at e;rw [show j+1 - 1=j by omega] at e;omega
    intro j p;exact g l.length j p ⋯
   have o:=aJ d (Z_ l (x (d+1))) (y+1) x v (λi u=>q i ⋯) (λi j u p=>r i j ⋯ ⋯) (λi u=>by
    have e:=LV l (x (d+1)) (x i);have C:x i - x (d+1)≠0:=λz=>r i (d+1) ⋯ ⋯ ⋯ ⋯;have b:=(f i ⋯).sub (f (d+1) ⋯);rw [e] at b;refine b.le ?_;rw [CF];exact Nat.le_mul_of_pos_left _ ⋯)
   have e:=Jn l (x (d+1)) k;rw [e];have w:=q (d+1) (AO _);have A:=w.mul (o k);have em:(d+1)*(c+3)=d*(c+3)+(c+3):=by rw [Nat.add_mul,Nat.one_mul]
   have B:Bd (c+(y+1+d*(c+3))) (if k=0 then evI l (x (d+1)) else co (Z_ l (x (d+1))) (k - 1)):=by
    split
    ·exact (f (d+1) (AO _)).mono ⋯
    ·exact (o (k - 1)).mono ⋯
   exact (B.sub A).mono ⋯
end Bs
namespace Bs
open PySem L2
def isN (H:Hp) (v:V) (q:Nu):Prop:=∃ p,v=.ref p/\H p=some (.tup [.int q.1,.int q.2])
noncomputable def Nums (H:Hp):cM->cI->Prop
 | [],[]=>True
 | x::a,q::l=>isN H x q/\Nums H a l
 | _,_=>False
def Tp (H c:Hp):Prop:=∀ b a,H b=some (.tup a)->c b=some (.tup a)
theorem C' {H a:Hp} (s:Same H a):Tp H a:=λb c h=>s b _ h
theorem Kp.tp {p:Addr} {H a:Hp} {xs:cM} (k:Kp p H a) (h:H p=some (.lst xs)):Tp H a:=λb c q=>k b _ (FS q h (by intro z;cases z)) q
theorem Tp.updL {p:Addr} {H:Hp} {xs ys:cM} (h:H p=some (.lst xs)):Tp H (upd H p (.lst ys)):=Kp.tp Kp.upd h
theorem isN.tp {H a:Hp} {v:V} {q:Nu} (h:isN H v q) (t:Tp H a):isN a v q:=let ⟨p,e,z⟩:=h;⟨p,e,t _ _ z⟩
theorem Nums.tp {H a:Hp} (t:Tp H a):∀ {xs:cM} {l:cI},Nums H xs l->Nums a xs l
 | [],[],_=>trivial
 | _::_,_::_,h=>⟨h.1.tp t,Nums.tp t h.2⟩
 | [],_::_,h=>h.elim
 | _::_,[],h=>h.elim
theorem Nums.length {H:Hp}:∀ {xs:cM} {l:cI},Nums H xs l->xs.length=l.length
 | [],[],_=>rfl
 | _::_,_::_,h=>congrArg (·+1) (Nums.length h.2)
 | [],_::_,h=>h.elim
 | _::_,[],h=>h.elim
theorem Nums.get {H:Hp}:∀ {xs:cM} {l:cI} {i:Nat} {v:V},Nums H xs l->xs[i]?=some v->∃ q,l[i]?=some q/\isN H v q
 | [],[],_,_,_,e=>by simp at e
 | _::_,q::_,0,_,h,e=>by simp at e;subst e;exact ⟨q,rfl,h.1⟩
 | _::_,_::_,i+1,_,h,e=>by
   obtain ⟨q,a,b⟩:=Nums.get (i:=i) h.2 (by simpa using e);exact ⟨q,by simpa using a,b⟩
 | [],_::_,_,_,h,_=>h.elim
 | _::_,[],_,_,h,_=>h.elim
theorem Nums.at {H:Hp} {xs:cM} {l:cI} {i:Nat} (h:Nums H xs l) (b:i<l.length) (d:Nu):∃ v,xs[i]?=some v/\isN H v (l.getD i d):=by
 have a:i<xs.length:=by rw [h.length];exact b
 obtain ⟨q,c,e⟩:=h.get (Aj a);refine ⟨_,Aj a,?_⟩;rw [AT,c];exact e
theorem Nums.append {H:Hp}:∀ {xs ys:cM} {l m:cI},Nums H xs l->Nums H ys m->Nums H (xs++ys) (l++m)
 | [],_,[],_,_,h=>h
 | _::_,_,_::_,_,h,a=>⟨h.1,Nums.append h.2 a⟩
 | [],_,_::_,_,h,_=>h.elim
 | _::_,_,[],_,h,_=>h.elim
theorem Nums.one {H:Hp} {v:V} {q:Nu} (h:isN H v q):Nums H [v] [q]:=⟨h,trivial⟩
theorem Nums.take {H:Hp}:∀ {xs:cM} {l:cI} (n:Nat),Nums H xs l->Nums H (xs.take n) (l.take n)
 | [],[],n,_=>by simp [Nums]
 | _::_,_::_,0,_=>trivial
 | _::_,_::_,n+1,h=>⟨h.1,Nums.take n h.2⟩
 | [],_::_,_,h=>h.elim
 | _::_,[],_,h=>h.elim
theorem Nums.set {H:Hp} {v:V} {q:Nu} (a:isN H v q):∀ {xs:cM} {l:cI} (i:Nat),Nums H xs l->Nums H (xs.set i v) (l.set i q)
 | [],[],_,_=>trivial
 | _::_,_::_,0,h=>⟨a,h.2⟩
 | _::_,_::_,i+1,h=>⟨h.1,Nums.set a i h.2⟩
 | [],_::_,_,h=>h.elim
 | _::_,[],_,h=>h.elim
theorem Nums.rep {H:Hp} {v:V} {q:Nu} (a:isN H v q):∀ n:Nat,Nums H (List.replicate n v) (List.replicate n q)
 | 0=>trivial
 | n+1=>⟨a,Nums.rep a n⟩
theorem Jo {a:Type} (v:a):∀ n:Nat,(List.replicate n [v]).flatten=List.replicate n v
 | 0=>rfl
 | n+1=>by rw [List.replicate_succ,List.flatten_cons,Jo v n];rfl
theorem Ck {a:Type} {xs:List a} {i:Int} {j:Nat} {v:a} (e:i=(j:Int)) (h:xs[j]?=some v):Q_ xs i=some v:=by subst e;exact NV h
theorem Jp {H:Hp} {p:Addr} {q:Nu}:isN (upd H p (.tup [.int q.1,.int q.2])) (.ref p) q:=⟨p,rfl,upd_same⟩
theorem Jq {xs:cM} {m:Nat} (h:m<=xs.length):CQ xs none (some (m:Int))=xs.take m:=by
 unfold CQ HT.sIx;simp only [List.drop_zero,Nat.sub_zero,D8];rw [qT ⋯,Nat.min_eq_left h]
def Fm (H:Hp) (Q:VK) (l:cI):Prop:=∀ (r:Addr) (b:cM) (a:Hp),Same H a->a r=some (.tup b)->Nums a b l->Q (.ref r) a
noncomputable def EM (q:Nu):W.Dat:=.tuple [.int q.1,.int q.2]
noncomputable def C9 (l:cI):W.Dat:=.tuple (l.map EM)
theorem HN {H:Hp} {v:V} {q:Nu} (h:isN H v q):RepD H v (EM q):=by
 obtain ⟨p,rfl,hp⟩:=h;exact .tup hp (.cons (.int _) (.cons (.int _) .nil))
theorem PH {H:Hp}:∀ {xs:cM} {l:cI},Nums H xs l->RepA H xs (l.map EM)
 | [],[],_=>.nil
 | _::_,_::_,h=>.cons (HN h.1) (PH h.2)
 | [],_::_,h=>h.elim
 | _::_,[],h=>h.elim
theorem IO {H:Hp} {p:Addr} {xs:cM} {l:cI} (hp:H p=some (.tup xs)) (h:Nums H xs l):RepD H (.ref p) (C9 l):=.tup hp (PH h)
theorem bI (q:Nu) (n:Nat):W.kqdOk (n+1) (EM q)=true:=by simp [EM,W.kqdOk]
theorem bW (l:cI) (n:Nat):W.kqdOk (n+2) (C9 l)=true:=by
 simp only [C9,W.kqdOk,List.all_map,Dp,Function.comp];intro q _;exact bI q n
section
variable {σ:L2.St} {H:Hp} {Q:VK} {D:Ends} {rest:TS} {sp:Sp} {E:XK}
theorem AN {i:Nat} {v:V} (a:σ[i]?=some (some v)) (h:Q v H):AA i σ H Q:=⟨v,a,h⟩
theorem B7 {i:Nat} {k:Int} {a:Addr} {xs:cM} {v:V} (b:σ[i]?=some (some (.ref a))) (c:H a=some (.tup xs)) (d:Q_ xs k=some v) (h:Q v H):A_ gT (AA i) (tC (.int k)) σ H Q:=⟨_,b,a,k,xs,v,rfl,rfl,c,d,h⟩
theorem IP {a:TE} {k:Nat} (h:a σ H λx b=>sp [x] b (λv c=>rest D (σ.set k (some v)) c) E):AH (AM (AJ sp [] E (AB a AC)) (AE k)) rest D σ H:=h
theorem DL {a b:TE} {k:Nat} (h:a σ H λx c=>b σ c λy d=>sp [x,y] d (λv e=>rest D (σ.set k (some v)) e) E):AH (AM (AJ sp [] E (AB a (AB b AC))) (AE k)) rest D σ H:=h
theorem ZF {a b tc:TE} {k:Nat} (h:a σ H λx c=>b σ c λy d=>tc σ d λz e=>sp [x,y,z] e (λv f=>rest D (σ.set k (some v)) f) E):AH (AM (AJ sp [] E (AB a (AB b (AB tc AC)))) (AE k)) rest D σ H:=h
theorem BS {a:TE} (h:a σ H λx b=>sp [x] b Q E):AJ sp [] E (AB a AC) σ H Q:=h
theorem Bb {a b:TE} (h:a σ H λx c=>b σ c λy d=>sp [x,y] d Q E):AJ sp [] E (AB a (AB b AC)) σ H Q:=h
theorem ZG {a b tc:TE} (h:a σ H λx c=>b σ c λy d=>tc σ d λz e=>sp [x,y,z] e Q E):AJ sp [] E (AB a (AB b (AB tc AC))) σ H Q:=h
theorem Bc {a:TE} {k:Nat} (h:a σ H λx b=>rest D (σ.set k (some x)) b):AH (AM a (AE k)) rest D σ H:=h
theorem CU {a:TE} (h:a σ H D.rt):AX a D σ H:=h
theorem LW {a:TE} (h:a σ H λx b=>[x].length<=sizeLine/\∀ p,b p=none->Q (.ref p) (upd b p (.tup [x]))):Ai (AB a AC) σ H Q:=h
theorem Bv {a b:TE} (h:a σ H λx d=>b σ d λy c=>[x,y].length<=sizeLine/\∀ p,c p=none->Q (.ref p) (upd c p (.tup [x,y]))):Ai (AB a (AB b AC)) σ H Q:=h
theorem IQ {a:TE} (h:a σ H λx b=>[x].length<=sizeLine/\∀ p,b p=none->Q (.ref p) (upd b p (.lst [x]))):A9 (AB a AC) σ H Q:=h
theorem N_ {v:V} (h:Q v H):tC v σ H Q:=h
theorem A5 {r:R2} {a b:TE} (h:a σ H λx c=>b σ c λy d=>r x y d Q):A_ r a b σ H Q:=h
theorem IR {g:Int->Int->V} {i j:Int} (h:Q (g i j) H):aa g (.int i) (.int j) H Q:=⟨i,j,rfl,rfl,h⟩
theorem Eh {b:cM->Hp->VK->Prop} {a:TE} (h:a σ H λx c=>b [x] c Q):J_ b (AB a AC) σ H Q:=h
theorem PJ {a:TA} {g:TG} {b:TS} (h:a σ H (λc d=>∃ i j:Int,c=[.int i,.int j,.int (-1)]/\(-(2 ^ 62)<=i/\i<2 ^ 62/\-(2 ^ 62)<=j/\j<2 ^ 62)/\ForJ (bV i (i - j).toNat) g b { D with nx:=rest D } σ d)):AH (Bh (IE a) g b) rest D σ H:=h
theorem ZH {a:TE} {g:TG} (h:a σ H λx b=>g x σ b (rest D)):AH (AM a g) rest D σ H:=h
theorem ZI {c d tc e f:TE} (h:c σ H λx g=>d σ g λy i=>tc σ i λz j=>e σ j λa k=>f σ k λb m=>sp [x,y,z,a,b] m Q E):AJ sp [] E (AB c (AB d (AB tc (AB e (AB f AC))))) σ H Q:=h
theorem FH {i:Nat} {v:V} {σ:L2.St} {H:Hp} {Q:L2.St->Hp->Prop} (h:Q (σ.set i (some v)) H):AE i v σ H Q:=h
theorem Jr {K:W.Frag} {b:TE} {capt:List (Option Nat)} {g:TG} {c:TE} {σ:L2.St} {H:Hp} {Q:VK} (h:b σ H (λx d=>∃ a,x=.ref a/\(∃ e,SqT K d a e)/\CompJ (aA K a) capt g c σ Q d)):BH (DG K b) capt g c σ H Q:=h
theorem IS {K:W.Frag} {b:TE} {capt:List (Option Nat)} {g:TG} {c:TE} {σ:L2.St} {H:Hp} {Q:VK} (h:b σ H (λx d=>∃ a,x=.ref a/\(∃ e,SqL K d a e)/\CompJ (ah K a) capt g c σ Q d)):BH (Bz K b) capt g c σ H Q:=h
theorem IT {a:TE} {k:Nat} {D:Ends} {σ:L2.St} {H:Hp} (h:a σ H λx b=>D.nx (σ.set k (some x)) b):AM a (AE k) D σ H:=h
theorem Ei {c:TT} {t u:TS} (h:c σ H λb a=>if b=true then t { D with nx:=rest D } σ a else u { D with nx:=rest D } σ a):AH (BJ c t u) rest D σ H:=h
theorem Cv {a:TE} {Q:Bool->Hp->Prop} (h:a σ H λx b=>∃ k,x=.bl k/\Q k b):Aq a σ H Q:=h
theorem C8 {x:V}:[x].length<=sizeLine:=by show 1<=_;exact sz ∅
theorem Az {x y:V}:[x,y].length<=sizeLine:=by show 2<=_;exact sz ∅
theorem LX {H:Hp} {a x y:Addr} {A X Y:HO} {P:Hp->Prop} (i:H a=none) (j:upd H a A x=none) (d:upd (upd H a A) x X y=none) (k:∀ b,b a=some A->b y=some Y->Same H b->a≠y->H y=none->P b):P (upd (upd (upd H a A) x X) y Y):=by
 have f:=AL i A;have c:=AL j X;have g:=AL d Y;refine k _ (g _ _ (c _ _ upd_same)) upd_same (λz o h=>g z o (c z o (f z o h))) (BM (c _ _ upd_same) d) ?_;cases e:H y with
 | none=>rfl
 | some o=>have:=c _ _ (f _ _ e);rw [d] at this;cases this
theorem HH {e H:Hp} {t w:Addr} {X:HO} {i ys:cM} {P:Hp->Prop} (f:H t=none) (g:H w=some (.lst i)) (j:e w=none) (s:Same e H) (k:∀ a,Same e a->a w=some (.lst ys)->a t=some X->Tp H a->(∀ c o,c≠w->H c=some o->a c=some o)->P a):P (upd (upd H t X) w (.lst ys)):=by
 have d:=AL f X;exact k _ (λb o h=>Kp.upd b o (BM h j) (d b o (s b o h))) upd_same (Kp.upd _ _ (BM g f).symm upd_same) (λb o h=>Tp.updL (d _ _ g) b o (d _ _ h)) λc o n h=>Kp.upd c o n (d _ _ h)
end
end Bs
set_option maxHeartbeats 4000000
namespace Bs
open PySem L2
theorem Js {g:d8} {n:Nat} (h:∀ i,n<i->g i=0):∀ (a:List Rat) (k:Nat),a.length+n<=k->cvL a g k=0
 | [],_,_=>rfl
 | x::a,0,hk=>absurd hk (by rw [CO];omega)
 | x::a,k+1,hk=>by
   rw [CO] at hk;rw [Ar,h (k+1) ⋯,Js h a k ⋯];ext
theorem PM {g:d8} {n:Nat} (j:g n≠0) (h:∀ i,n<i->g i=0) (S:List Rat):(∀ k,n<=k->cvL S g k=0)->∀ s∈S,s=0:=by
 induction hl:S.length generalizing S with
 | zero=>intro _ s b;rw [CI.mp hl] at b;exact nomatch b
 | succ m o=>
   intro hk;have e:S≠[]:=λz=>by rw [z] at hl;simp at hl
   obtain ⟨T,t,rfl⟩:∃ T t,S=T++[t]:=⟨S.dropLast,S.getLast e,(Gw e).symm⟩
   have f:t=0:=by
    have a:=hk (T.length+n) ⋯;rw [DU,Js h T _ (AO _)] at a;unfold Av at a;rw [qU ⋯,show T.length+n - T.length=n by omega] at a;have p:t*g n=0:=by ext
    rcases Rat.mul_eq_zero.mp p with z | z
    ·exact z
    ·exact absurd z j
   have c:=o T (by simpa using hl) (λk d=>by
    have a:=hk k d;rw [DU,f] at a;ext)
   intro s b;rcases CK.mp b with h | h
   ·exact c s h
   ·rw [Ap.mp h];exact f
theorem LY {g:d8}:∀ (S:List Rat),(∀ s∈S,s=0)->∀ k,cvL S g k=0
 | [],_,_=>rfl
 | x::S,h,0=>by rw [Ax,h x (BL ..)];ext
 | x::S,h,k+1=>by rw [Ar,h x (BL ..),LY S (λs a=>h s (BW _ a)) k];ext
theorem LZ {G:d8} {n:Nat} (a:G n≠0) (b:∀ i,n<i->G i=0) {A B:List Rat} (h:∀ k,cvL A G k=cvL B G k) (g:d8) (k:Nat):cvL A g k=cvL B g k:=by
 have z:=LY (g:=g) (A4 A (B.map ((-1:Rat)*·))) (PM a b _ λk _=>by rw [Bi,BD,h k];ext) k;rw [Bi,BD] at z;ext
structure Sr where
 c:d8
abbrev cL:=List (Rat×Sr)
abbrev cK:=List (Rat×Rat×Sr)
theorem Sr.ext' {f g:Sr} (h:∀ k,f.c k=g.c k):f=g:=by
 cases f;cases g;congr;exact funext h
noncomputable def tr (n:Nat) (f:d8):List Rat:=(List.range n).map f
theorem Gc (n:Nat) (f:d8) (k:Nat):(tr n f).getD k 0=if k<n then f k else 0:=by
 unfold tr;rw [AT,Ac];by_cases h:k<n
 ·rw [EB h,qU h];rfl
 ·rw [qT h,Bx (by rw [Bj];omega)];rfl
theorem IU:∀ (a b:List Rat) (g h:d8) (k:Nat),(∀ i,i<=k->a.getD i 0=b.getD i 0)->(∀ i,i<=k->g i=h i)->cvL a g k=cvL b h k:=by
 intro a
 induction a with
 | nil=>
   intro b
   induction b with
   | nil=>intro g h k _ _;rfl
   | cons y b j=>
     intro g h k c e;have m:=c 0 (Ae _);simp at m;cases k with
     | zero=>rw [BC,Ax,<-m];ext
     | succ k=>
       rw [BC,Ar,<-m];have:=j g h k (λi f=>by have:=c (i+1) ⋯;simpa using this) (λi f=>e i ⋯);rw [BC] at this;ext
 | cons x a j=>
   intro b g h k c e;cases b with
   | nil=>
     have d:=c 0 (Ae _);simp at d;cases k with
     | zero=>rw [BC,Ax,d];ext
     | succ k=>
       rw [BC,Ar,d];have:=j [] g h k (λi f=>by have:=c (i+1) ⋯;simpa using this) (λi f=>e i ⋯);rw [BC] at this;ext
   | cons y b=>
     have d:=c 0 (Ae _);simp at d;cases k with
     | zero=>rw [Ax,Ax,d,e 0 (AO _)]
     | succ k=>
       rw [Ar,Ar,d,e _ (AO _),j b g h k (λi f=>by have:=c (i+1) ⋯;simpa using this) (λi f=>e i ⋯)]
namespace Sr
noncomputable def zero:Sr:=⟨λ_=>0⟩
noncomputable def one:Sr:=⟨Ak⟩
noncomputable def add (f g:Sr):Sr:=⟨λk=>f.c k+g.c k⟩
noncomputable def neg (f:Sr):Sr:=⟨λk=>- f.c k⟩
noncomputable def mul (f g:Sr):Sr:=⟨λk=>cvL (tr (k+1) f.c) g.c k⟩
noncomputable def num (x:Rat):Sr:=⟨λk=>x*Ak k⟩
theorem Jt (f g:Sr) {n k:Nat} (h:k<n):(mul f g).c k=cvL (tr n f.c) g.c k:=by
 refine IU _ _ _ _ _ (λi a=>?_) (λ_ _=>rfl);rw [Gc,Gc,qU ⋯,qU ⋯]
theorem Ld (f g:Sr) {n m k:Nat} (h:k<n) (h':k<m):(mul f g).c k=cvL (tr n f.c) (cvL (tr m g.c) Ak) k:=by
 rw [Jt f g h];refine IU _ _ _ _ _ (λ_ _=>rfl) (λi a=>?_);rw [DT,Gc,qU ⋯]
theorem mul_comm (f g:Sr):mul f g=mul g f:=ext' λk=>by
 rw [Ld f g (Dr k) (Dr k),Ld g f (Dr k) (Dr k),IL]
theorem mul_assoc (f g h:Sr):mul (mul f g) h=mul f (mul g h):=ext' λk=>by
 rw [Jt (mul f g) h (Dr k),Jt f (mul g h) (Dr k)]
 have a:cvL (tr (k+1) (mul f g).c) h.c k=cvL (BV (tr (k+1) f.c) (tr (k+1) g.c)) h.c k:=by
  refine IU _ _ _ _ _ (λi b=>?_) (λ_ _=>rfl);rw [Gc,qU ⋯,<-DT,Bu,Ld f g (n:=k+1) (m:=k+1) ⋯ ⋯]
 rw [a,Bu];exact IU _ _ _ _ _ (λ_ _=>rfl) (λi b=>(Jt g h ⋯).symm)
theorem mul_add (f g h:Sr):mul f (add g h)=add (mul f g) (mul f h):=ext' λk=>by
 show cvL (tr (k+1) f.c) (λk=>g.c k+h.c k) k=_;rw [HL];rfl
theorem mul_one (f:Sr):mul f one=f:=ext' λk=>by
 show cvL (tr (k+1) f.c) Ak k=_;rw [DT,Gc,qU (Dr k)]
theorem mul_zero (f:Sr):mul f zero=zero:=ext' λk=>by
 show cvL (tr (k+1) f.c) (λ_=>0) k=0;have:=C7 (0:Rat) (λ_=>0) (tr (k+1) f.c) k;rw [show (λk:Nat=>(0:Rat)*(λ_=>(0:Rat)) k)=λ_=>0 from funext λ_=>by grind] at this;rw [this];ext
noncomputable def bX (f:Sr):Nat->Sr
 | 0=>one
 | n+1=>mul (bX f n) f
noncomputable instance:Add Sr:=⟨add⟩
noncomputable instance:Mul Sr:=⟨mul⟩
noncomputable instance:Neg Sr:=⟨neg⟩
noncomputable instance:Sub Sr:=⟨λf g=>add f (neg g)⟩
noncomputable instance:NatCast Sr:=⟨λn=>num (n:Rat)⟩
noncomputable instance:IntCast Sr:=⟨λn=>num (n:Rat)⟩
noncomputable instance (n:Nat):OfNat Sr n:=⟨num (n:Rat)⟩
noncomputable instance:Pow Sr Nat:=⟨bX⟩
noncomputable instance:SMul Nat Sr:=⟨λn f=>mul (num (n:Rat)) f⟩
noncomputable instance:SMul Int Sr:=⟨λn f=>mul (num (n:Rat)) f⟩
theorem num0:num 0=zero:=ext' λk=>by show 0*Ak k=(0:Rat);ext
theorem num1:num 1=one:=ext' λk=>by show 1*Ak k=(Ak k:Rat);ext
theorem ZJ (x y:Rat):num (x+y)=add (num x) (num y):=ext' λk=>by show (x+y)*Ak k=x*Ak k+y*Ak k;ext
theorem Le (x:Rat):num (-x)=neg (num x):=ext' λk=>by show (-x)*Ak k = -(x*Ak k);ext
theorem add_comm (f g:Sr):add f g=add g f:=ext' λk=>by show f.c k+g.c k=g.c k+f.c k;ext
theorem add_assoc (f g h:Sr):add (add f g) h=add f (add g h):=ext' λk=>by show f.c k+g.c k+h.c k=f.c k+(g.c k+h.c k);ext
theorem add_zero (f:Sr):add f zero=f:=ext' λk=>by show f.c k+0=f.c k;ext
theorem Lf (f:Sr):add (neg f) f=zero:=ext' λk=>by show -f.c k+f.c k=0;ext
theorem add_mul (f g h:Sr):mul (add f g) h=add (mul f h) (mul g h):=by rw [mul_comm,mul_add,mul_comm h f,mul_comm h g]
theorem neg_mul (f g:Sr):mul (neg f) g=neg (mul f g):=by
 have h:add (mul (neg f) g) (mul f g)=zero:=by rw [<-add_mul,Lf,mul_comm,mul_zero]
 have c:add (neg (mul f g)) (mul f g)=zero:=Lf _;refine ext' λk=>?_;have a:=pI (congrArg Sr.c h) k;have b:=pI (congrArg Sr.c c) k;have a:(mul (neg f) g).c k+(mul f g).c k=0:=a;have b:(neg (mul f g)).c k+(mul f g).c k=0:=b;ext
noncomputable instance:Lean.Grind.CommRing Sr where
 add_zero f:=(congrArg (add f) num0).trans (add_zero f)
 add_comm:=add_comm
 add_assoc:=add_assoc
 mul_assoc:=mul_assoc
 mul_comm:=mul_comm
 mul_one f:=(congrArg (mul f) num1).trans (mul_one f)
 one_mul f:=(congrArg (λz=>mul z f) num1).trans ((mul_comm _ _).trans (mul_one f))
 left_distrib:=mul_add
 right_distrib:=add_mul
 zero_mul f:=by show mul (num 0) f=num 0;rw [num0,mul_comm,mul_zero]
 mul_zero f:=by show mul f (num 0)=num 0;rw [num0,mul_zero]
 pow_zero f:=num1.symm
 pow_succ f n:=rfl
 ofNat_succ n:=by
  show num ((n+1:Nat):Rat)=add (num (n:Rat)) (num 1)
  rw [<-ZJ];push_cast;rfl
 ofNat_eq_natCast n:=rfl
 nsmul_eq_natCast_mul n f:=rfl
 sub_eq_add_neg f g:=rfl
 neg_add_cancel f:=(Lf f).trans num0.symm
 intCast_neg n:=by show num ((-n:Int):Rat)=neg (num (n:Rat));rw [<-Le];push_cast;rfl
 intCast_ofNat n:=rfl
 neg_zsmul n f:=by show mul (num ((-n:Int):Rat)) f=neg (mul (num (n:Rat)) f);rw [show ((-n:Int):Rat) = -(n:Rat) by push_cast;rfl,Le,neg_mul]
 zsmul_natCast_eq_nsmul n f:=rfl
noncomputable def L (a:List Rat):Sr:=⟨cvL a Ak⟩
theorem L_mul (a:List Rat) (g:Sr):L a*g=⟨cvL a g.c⟩:=ext' λk=>by
 refine IU _ _ _ _ _ (λi b=>?_) (λ_ _=>rfl);rw [Gc,qU ⋯];exact DT a i
def Bn (f:Sr) (n:Nat):Prop:=∀ k,n<=k->f.c k=0
theorem Bn.row {f:Sr} {n:Nat} (h:Bn f n):L (tr n f.c)=f:=ext' λk=>by
 show cvL (tr n f.c) Ak k=f.c k;rw [DT,Gc];by_cases hk:k<n
 ·rw [qU hk]
 ·rw [qT hk,h k ⋯]
def Pol (f:Sr):Prop:=∃ a,f=L a
theorem Pol.L (a:List Rat):Pol (L a):=⟨a,rfl⟩
theorem Bn.pol {f:Sr} {n:Nat} (h:Bn f n):Pol f:=⟨_,h.row.symm⟩
theorem ZK (a:List Rat):Bn (Sr.L a) a.length:=λk hk=>by
 show cvL a Ak k=0;rw [DT,AT,Bx hk];rfl
theorem Pol.bn {f:Sr} (h:Pol f):∃ n,Bn f n:=let ⟨a,e⟩:=h;⟨a.length,e ▸ ZK a⟩
theorem Pol.add {f g:Sr} (h:Pol f) (h':Pol g):Pol (f+g):=by
 obtain ⟨a,rfl⟩:=h;obtain ⟨b,rfl⟩:=h';exact ⟨A4 a b,ext' λk=>(Bi Ak a b k).symm⟩
theorem Pol.mul {f g:Sr} (h:Pol f) (h':Pol g):Pol (f*g):=by
 obtain ⟨a,rfl⟩:=h;obtain ⟨b,rfl⟩:=h';exact ⟨BV a b,by rw [L_mul];exact ext' λk=>(Bu Ak a b k).symm⟩
theorem Pol.num (x:Rat):Pol (num x):=⟨[x],ext' λk=>by
 show x*Ak k=cvL [x] Ak k;cases k with
 | zero=>rw [Ax];ext
 | succ k=>rw [Ar,BC];ext⟩
theorem Pol.nat (n:Nat):Pol (OfNat.ofNat n:Sr):=Pol.num (n:Rat)
theorem Pol.neg {f:Sr} (h:Pol f):Pol (-f):=by
 have e:-f=Sr.num (-1)*f:=by
  have:Sr.num (-1)=(-1:Sr):=Le 1;rw [this];ext
 rw [e];exact (Pol.num _).mul h
theorem Pol.sub {f g:Sr} (h:Pol f) (h':Pol g):Pol (f - g):=by
 have e:f - g=f + -g:=by ext
 rw [e];exact h.add h'.neg
theorem top_ex {f:Sr}:∀ n,Bn f n->f=0\/∃ m,m<n/\f.c m≠0/\Bn f (m+1)
 | 0,h=>.inl (ext' λk=>by rw [h k (Ae _)];show 0=((0:Nat):Rat)*Ak k;push_cast;ext)
 | n+1,h=>by
   by_cases z:f.c n=0
   ·rcases top_ex n (λk hk=>by rcases Nat.eq_or_lt_of_le hk with e | e;exact e ▸ z;exact h k e) with q | ⟨m,c,a,b⟩
    ·exact .inl q
    ·exact .inr ⟨m,⋯,a,b⟩
   ·exact .inr ⟨n,⋯,z,h⟩
theorem zero_c (k:Nat):(0:Sr).c k=0:=by show ((0:Nat):Rat)*Ak k=0;push_cast;ext
theorem cancel {f g h:Sr} (c:Pol f) (d:Pol g) (j:Pol h) (o:h≠0) (e:f*h=g*h):f=g:=by
 obtain ⟨a,rfl⟩:=c;obtain ⟨b,rfl⟩:=d;obtain ⟨n,p⟩:=j.bn;rcases top_ex n p with z | ⟨m,_,q,r⟩
 ·exact absurd z o
 rw [L_mul,L_mul] at e;exact ext' λk=>LZ q (λi u=>r i u) (λk=>pI (congrArg Sr.c e) k) Ak k
theorem ne_mul {f g:Sr} (a:Pol f) (b:Pol g) (c:f≠0) (d:g≠0):f*g≠0:=λe=>c (cancel a (Pol.nat 0) b d (by rw [e];ext))
noncomputable def X (n:Nat):Sr:=L (List.replicate n 0++[1])
theorem num_mul (x:Rat) (g:Sr) (k:Nat):(num x*g).c k=x*g.c k:=by
 have:num x=L [x]:=ext' λk=>by
  show x*Ak k=cvL [x] Ak k;cases k with
  | zero=>rw [Ax];ext
  | succ k=>rw [Ar,BC];ext
 rw [this,L_mul];show cvL [x] g.c k=_;cases k with
 | zero=>rw [Ax];ext
 | succ k=>rw [Ar,BC];ext
noncomputable def D (f:Sr):Sr:=⟨λk=>((k:Rat)+1)*f.c (k+1)⟩
theorem L_nil:L []=0:=ext' λk=>by rw [zero_c];rfl
def Cs (f g:Sr):Prop:=∃ U W,Pol U/\Pol W/\U*f+W*g=1
theorem Cs.comm {f g:Sr} (h:Cs f g):Cs g f:=let ⟨U,W,a,b,e⟩:=h;⟨W,U,b,a,()⟩
theorem Cs.mul {f g h:Sr} (p:Pol f) (j:Pol g) (k:Cs f g) (m:Cs f h):Cs f (g*h):=by
 obtain ⟨U,W,n,i,e⟩:=k;obtain ⟨a,b,c,d,o⟩:=m;refine ⟨U+W*a*g,W*b,n.add ((i.mul c).mul j),i.mul d,?_⟩;have:(U+W*a*g)*f+W*b*(g*h)=U*f+W*g*(a*f+b*h):=by ext
 rw [this,o,<-e];ext
theorem Cs.dvd {f w g a:Sr} (h:Cs f w) (b:Pol a) (e:w=a*g):Cs f g:=by
 obtain ⟨U,W,c,d,q⟩:=h;exact ⟨U,W*a,c,d.mul b,by rw [e] at q;ext⟩
theorem Cs.one {f:Sr}:Cs f 1:=⟨0,1,Pol.nat 0,Pol.nat 1,()⟩
theorem Cs.add {f g z c:Sr} (h:Cs f g) (b:Pol c) (e:z=f+c*g):Cs z g:=by
 obtain ⟨U,W,a,d,q⟩:=h;exact ⟨U,W - U*c,a,d.sub (a.mul b),by rw [e];ext⟩
theorem PN {b:d8} {d:Nat} (h:∀ k,d<k->b k=0):∀ (a:List Rat) (k:Nat),d+a.length<=k->cvL a b k=0
 | [],_,_=>rfl
 | x::a,0,hk=>by simp at hk
 | x::a,k+1,hk=>by
   rw [Ar,PN h a k (by simp at hk;omega),h (k+1) (by simp at hk;omega)];ext
theorem top_mul {f g:Sr} {m n:Nat} (b:Bn f (m+1)) (h:Bn g (n+1)):(f*g).c (m+n)=f.c m*g.c n/\Bn (f*g) (m+n+1):=by
 have c:∀ (a:List Rat) (k:Nat),n+a.length<=k->cvL a g.c k=0:=PN λk hk=>h k hk;rw [<-b.row,L_mul];refine ⟨?_,λk hk=>c _ k (by unfold tr;rw [AG,Bj];omega)⟩;show cvL (tr (m+1) f.c) g.c (m+n)=_;have e:tr (m+1) f.c=tr m f.c++[f.c m]:=by unfold tr;rw [List.range_succ,Bq];rfl
 have d:(tr m f.c).length=m:=by unfold tr;rw [AG,Bj]
 rw [e,DU,c (tr m f.c) _ (by rw [d];omega),d];unfold Av;rw [qU ⋯,show m+n - m=n by omega]
 have z:(L (tr m f.c++[f.c m])).c m=f.c m:=by
  rw [<-e];exact pI (congrArg Sr.c b.row) m
 rw [z];ext
theorem Cs.of_unit {f g d U W:Sr} {x:Rat} (a:x≠0) (e:d=num x) (b:Pol U) (c:Pol W) (h:U*f+W*g=d):Cs f g:=by
 refine ⟨num (x⁻¹)*U,num (x⁻¹)*W,(Pol.num _).mul b,(Pol.num _).mul c,?_⟩
 have i:num (x⁻¹)*num x=1:=ext' λk=>by
  rw [num_mul];show x⁻¹*(x*Ak k)=_;have:x⁻¹*x=1:=Rat.inv_mul_cancel _ a;show _=((1:Nat):Rat)*Ak k;push_cast;ext
 rw [e] at h;ext
end Sr
end Bs
namespace Bs.Sr
def Ms (n:Nat) (f:Sr):Prop:=f.c n=1/\Bn f (n+1)
theorem Ms.mul {m n:Nat} {f g:Sr} (a:Ms m f) (b:Ms n g):Ms (m+n) (f*g):=by
 have t:=top_mul a.2 b.2;exact ⟨by rw [t.1,a.1,b.1];ext,t.2⟩
theorem Ms.uniq {m n:Nat} {f g:Sr} {x:Rat} (a:Ms m f) (b:Ms n g) (o:x≠0) (e:f=num x*g):f=g:=by
 have c:∀ k,f.c k=x*g.c k:=λk=>by rw [e,num_mul]
 have d:m=n:=by
  rcases Nat.lt_trichotomy m n with h | h | h
  ·have:=c n;rw [a.2 n h,b.1] at this;ext
  ·exact h
  ·have:=c m;rw [b.2 m h,a.1] at this;ext
 subst d
 have i:x=1:=by
  have:=c m;rw [a.1,b.1] at this;ext
 have j:num 1=(1:Sr):=rfl;rw [e,i,j];ext
noncomputable def Pi (φ:Rat->Rat->Bool):cK->Sr
 | []=>1
 | q::R=>(if φ q.1 q.2.1=true then q.2.2 else 1)*Pi φ R
structure Pr (R:cK):Prop where
 ms:∀ q∈R,∃ n,Ms (n+1) q.2.2
 cs:R.Pairwise λp q=>Cs p.2.2 q.2.2
theorem Ms.pol {n:Nat} {f:Sr} (h:Ms n f):Pol f:=h.2.pol
theorem Pr.tail {q:Rat×Rat×Sr} {R:cK} (h:Pr (q::R)):Pr R:=⟨λp hp=>h.ms p (BW _ hp),(Ew.mp h.cs).2⟩
theorem one_at (k:Nat):(1:Sr).c k=Ak k:=by
 show ((1:Nat):Rat)*Ak k=Ak k;ext
theorem Ms.one:Ms 0 1:=⟨one_at 0,λk hk=>by
 rw [one_at];cases k with
 | zero=>omega
 | succ k=>rfl⟩
theorem Pi.ms (φ:Rat->Rat->Bool):∀ {R:cK},Pr R->∃ n,Ms n (Pi φ R)/\(n=0->∀ q∈R,φ q.1 q.2.1=false)
 | [],_=>⟨0,Ms.one,λ_ _ h=>nomatch h⟩
 | q::R,h=>by
   obtain ⟨n,m,z⟩:=Pi.ms φ h.tail;obtain ⟨k,mk⟩:=h.ms q (BL ..);by_cases c:φ q.1 q.2.1=true
   ·refine ⟨k+1+n,?_,λe=>by omega⟩;unfold Pi;rw [qU c];exact mk.mul m
   ·refine ⟨n,?_,λe p hp=>?_⟩
    ·unfold Pi;rw [qT c];have:=Ms.one.mul m;rwa [Nat.zero_add] at this
    ·rcases A7.mp hp with y | y
     ·rw [y];simpa using c
     ·exact z e p y
theorem Pi.pol (φ:Rat->Rat->Bool) {R:cK} (h:Pr R):Pol (Pi φ R):=let ⟨_,m,_⟩:=Pi.ms φ h;m.pol
theorem Pi.congr {φ ψ:Rat->Rat->Bool}:∀ {R:cK},(∀ q∈R,φ q.1 q.2.1=ψ q.1 q.2.1)->Pi φ R=Pi ψ R
 | [],_=>rfl
 | q::R,h=>by
   unfold Pi;rw [h q (BL ..),Pi.congr λp hp=>h p (BW _ hp)]
theorem Pi.split (φ ψ:Rat->Rat->Bool):∀ (R:cK),Pi φ R=Pi (λa b=>φ a b && ψ a b) R*Pi (λa b=>φ a b && !ψ a b) R
 | []=>by unfold Pi;ext
 | q::R=>by
   unfold Pi;rw [Pi.split φ ψ R];cases φ q.1 q.2.1 <;> cases ψ q.1 q.2.1 <;> simp <;> ext
theorem Pi.cs1 {φ:Rat->Rat->Bool} {f:Sr} (a:Pol f):∀ {R:cK},Pr R->(∀ q∈R,Cs f q.2.2)->Cs f (Pi φ R)
 | [],_,_=>Cs.one
 | q::R,h,c=>by
   unfold Pi;have b:=Pi.cs1 (φ:=φ) a h.tail λp hp=>c p (BW _ hp);obtain ⟨k,mk⟩:=h.ms q (BL ..);split
   ·exact Cs.mul a mk.pol (c q (BL ..)) b
   ·exact Cs.mul a Ms.one.pol Cs.one b
theorem Pi.cs {φ ψ:Rat->Rat->Bool}:∀ {R:cK},Pr R->(∀ q∈R,φ q.1 q.2.1=true->ψ q.1 q.2.1=false)->Cs (Pi φ R) (Pi ψ R)
 | [],_,_=>Cs.one
 | q::R,h,d=>by
   have a:=Pi.cs h.tail λp hp=>d p (BW _ hp);obtain ⟨k,mk⟩:=h.ms q (BL ..);have e:=(Ew.mp h.cs).1;have g:=d q (BL ..);unfold Pi;have b:∀ f:Sr,(1:Sr)*f=f:=λf=>by ext
   by_cases c:φ q.1 q.2.1=true
   ·rw [qU c,qT (by rw [g c];decide),b];exact (Cs.mul (Pi.pol ψ h.tail) mk.pol (Pi.cs1 mk.pol h.tail e).comm a.comm).comm
   ·rw [qT c,b];split
    ·exact Cs.mul (Pi.pol φ h.tail) mk.pol (Pi.cs1 mk.pol h.tail e).comm a
    ·rw [b];exact a
theorem ZL {S T g r e c a b:Sr} (C:Pol g) (n:Pol r) (o:Pol e) (D:Pol c) (p:Pol a) (q:Pol b) (w:Cs r e) (z:Cs a b) (s1:S=g*r) (h:T=g*e) (i:S=c*a) (j:T=c*b):∃ u v,Pol u/\Pol v/\c=u*g/\g=v*c:=by
 obtain ⟨U,W,A,B,x⟩:=w;obtain ⟨k,m,d,f,y⟩:=z;refine ⟨k*r+m*e,U*a+W*b,(d.mul n).add (f.mul o),(A.mul p).add (B.mul q),?_,?_⟩
 ·have:c=k*(c*a)+m*(c*b):=by ext
  rw [this,<-i,<-j,s1,h];ext
 ·have:g=U*(g*r)+W*(g*e):=by ext
  rw [this,<-s1,<-h,i,j];ext
theorem Ms.ne {n:Nat} {f:Sr} (h:Ms n f):f≠0:=λz=>by
 have:=h.1;rw [z] at this;have a:(0:Sr).c n=0:=by show ((0:Nat):Rat)*Ak n=0;ext
 rw [a] at this;exact absurd this ∅
theorem Ms.deg {n m:Nat} {c g u:Sr} (a:Ms n c) (b:Ms m g) (f:Pol u) (e:c=u*g):∃ j,n=j+m/\Bn u (j+1):=by
 obtain ⟨k,i⟩:=f.bn;rcases top_ex k i with z | ⟨j,_,o,d⟩
 ·exact absurd (by rw [e,z];ext) a.ne
 ·refine ⟨j,?_,d⟩;have t:=top_mul d b.2;rw [<-e,b.1] at t;rcases Nat.lt_trichotomy n (j+m) with h | h | h
  ·exact absurd (show u.c j=0 by have:=a.2 (j+m) h;rw [t.1] at this;ext) o
  ·exact h
  ·exact absurd (a.1.symm.trans (t.2 n h)) ∅
theorem Ms.unit {n m:Nat} {c g u v:Sr} (e:Ms n c) (d:Ms m g) (o:Pol u) (pv:Pol v) (p:c=u*g) (f:g=v*c):g=c:=by
 obtain ⟨j,a,w⟩:=e.deg d o p;obtain ⟨i,b,q⟩:=d.deg e pv f;have y:j=0:=by omega
 have r:i=0:=by omega
 subst r
 have h:v=num (v.c 0):=ext' λk=>by
  show v.c k=v.c 0*Ak k;cases k with
  | zero=>rw [show (Ak 0:Rat)=1 from rfl];ext
  | succ k=>rw [q (k+1) ⋯,show (Ak (k+1):Rat)=0 from rfl];ext
 refine d.uniq e (x:=v.c 0) (λz=>d.ne ?_) (by rw [<-h];exact f);rw [f,h,z];have:num 0=(0:Sr):=rfl;rw [this];ext
theorem Pi.common {φ ψ:Rat->Rat->Bool} {R:cK} (h:Pr R) {g r e:Sr} {m:Nat} (c:Ms m g) (f:Pol r) (i:Pol e) (cs:Cs r e) (s1:Pi φ R=g*r) (j:Pi ψ R=g*e):g=Pi (λa b=>φ a b && ψ a b) R:=by
 obtain ⟨n,d,_⟩:=Pi.ms (λa b=>φ a b && ψ a b) h
 have k:Pi ψ R=Pi (λa b=>φ a b && ψ a b) R*Pi (λa b=>ψ a b && !φ a b) R:=by
  rw [Pi.split ψ φ R];congr 1;exact Pi.congr λq _=>Bool.and_comm ..
 obtain ⟨u,v,o,pv,p,w⟩:=ZL c.pol f i d.pol (Pi.pol _ h) (Pi.pol _ h) cs (Pi.cs h λq _ x=>by
  cases y:φ q.1 q.2.1 <;> cases z:ψ q.1 q.2.1 <;> simp [y,z] at x ⊢) s1 j (Pi.split φ ψ R) k
 exact d.unit c o pv p w
theorem Pi.over {φ ψ:Rat->Rat->Bool} {R:cK} (h:Pr R) {q:Sr} (d:Pol q) (e:Pi φ R=q*Pi (λa b=>φ a b && ψ a b) R):q=Pi (λa b=>φ a b && !ψ a b) R:=by
 obtain ⟨n,c,_⟩:=Pi.ms (λa b=>φ a b && ψ a b) h;refine cancel d (Pi.pol _ h) c.pol c.ne ?_;rw [<-e,Pi.split φ ψ R];ext
noncomputable def W:cL->Rat->Sr
 | [],_=>1
 | q::L,c=>(if q.1=c then q.2 else 1)*W L c
theorem W.app (L M:cL) (c:Rat):W (L++M) c=W L c*W M c:=by
 induction L with
 | nil=>show W M c=1*W M c;ext
 | cons q L a=>
   show _*W (L++M) c=_*W L c*W M c;rw [a];ext
structure Can (w:Rat->Sr) (M:cL):Prop where
 asc:M.Pairwise λp q=>p.1<q.1
 nz:∀ q∈M,q.1≠0/\q.2=w q.1/\q.2≠1
 all:∀ c,c≠0->w c≠1->∃ q∈M,q.1=c
theorem Can.congr {w v:Rat->Sr} {M:cL} (h:Can w M) (e:∀ c,c≠0->w c=v c):Can v M:=
 ⟨h.asc,λq g=>let ⟨a,b,d⟩:=h.nz q g;⟨a,b.trans (e _ a),d⟩,λc f d=>h.all c f (by rw [e c f];exact d)⟩
theorem PP:∀ {L M:cL},L.Pairwise (λp q=>p.1<q.1)->M.Pairwise (λp q=>p.1<q.1)->(∀ x,x∈L↔x∈M)->L=M
 | [],[],_,_,_=>rfl
 | [],y::M,_,_,h=>absurd ((h y).mpr (BL ..)) (λz=>nomatch z)
 | x::L,[],_,_,h=>absurd ((h x).mp (BL ..)) (λz=>nomatch z)
 | x::L,y::M,g,i,h=>by
   obtain ⟨d,l2⟩:=Ew.mp g;obtain ⟨f,j⟩:=Ew.mp i
   have e:x=y:=by
    rcases A7.mp ((h x).mp (BL ..)) with z | z
    ·exact z
    ·rcases A7.mp ((h y).mpr (BL ..)) with v | v
     ·exact v.symm
     ·have a:=f x z;have b:=d y v;ext
   subst e;rw [PP l2 j λz=>?_];constructor
   ·intro c;rcases A7.mp ((h z).mp (BW _ c)) with v | v
    ·have:=d z c;rw [v] at this;ext
    ·exact v
   ·intro c;rcases A7.mp ((h z).mpr (BW _ c)) with v | v
    ·have:=f z c;rw [v] at this;ext
    ·exact v
theorem Can.uniq {w:Rat->Sr} {L M:cL} (f:Can w L) (d:Can w M):L=M:=by
 have sub:∀ {L M:cL},Can w L->Can w M->∀ x,x∈L->x∈M:=λ{L M} f d x h=>by
  obtain ⟨a,b,c⟩:=f.nz x h;obtain ⟨y,g,e⟩:=d.all x.1 a (by rw [<-b];exact c);obtain ⟨_,i,_⟩:=d.nz y g;have:y=x:=Prod.ext e (by rw [i,b,e]);rw [<-this];exact g
 exact PP f.asc d.asc λx=>⟨sub f d x,sub d f x⟩
noncomputable def wa (R:cK) (c:Rat):Sr:=Pi (λa _=>decide (a=c)) R
noncomputable def Pcs (R:cK) (c:Rat):List Rat->cL
 | []=>[]
 | n::d=>Pcs R c d++[(n,Pi (λa b=>decide (a=n) && !decide (b=c)) R),(n+c,Pi (λa b=>decide (a=n) && decide (b=c)) R)]
theorem Pi.none {φ:Rat->Rat->Bool}:∀ {R:cK},(∀ q∈R,φ q.1 q.2.1=false)->Pi φ R=1
 | [],_=>rfl
 | q::R,h=>by
   unfold Pi;rw [qT (by rw [h q (BL ..)];decide),Pi.none λp hp=>h p (BW _ hp)];ext
theorem Pi.add {φ ψ c:Rat->Rat->Bool}:∀ {R:cK},(∀ q∈R,φ q.1 q.2.1=(ψ q.1 q.2.1 || c q.1 q.2.1)/\(ψ q.1 q.2.1 && c q.1 q.2.1)=false)->Pi φ R=Pi ψ R*Pi c R
 | [],_=>by show (1:Sr)=1*1;ext
 | q::R,h=>by
   obtain ⟨a,b⟩:=h q (BL ..);unfold Pi;rw [Pi.add λp hp=>h p (BW _ hp),a];cases d:ψ q.1 q.2.1 <;> cases e:c q.1 q.2.1 <;> simp [d,e] at b ⊢ <;> ext
theorem W.pcs (R:cK) (c d:Rat):∀ {e:List Rat},e.Nodup->W (Pcs R c e) d=Pi (λa b=>decide (a∈e/\(b≠c/\a=d\/b=c/\a+c=d))) R
 | [],_=>(Pi.none λq _=>by simp).symm
 | n::e,h=>by
   obtain ⟨f,g⟩:=Cm.mp h;unfold Pcs;rw [W.app,W.pcs R c d g]
   have i:Pi (λa b=>decide (a∈n::e/\(b≠c/\a=d\/b=c/\a+c=d))) R=Pi (λa b=>decide (a∈e/\(b≠c/\a=d\/b=c/\a+c=d))) R*Pi (λa b=>decide (a=n/\(b≠c/\a=d\/b=c/\a+c=d))) R:=Pi.add λq _=>by
    by_cases y:q.1=n
    ·simp [y,f]
    ·simp [y]
   have j:Pi (λa b=>decide (a=n/\(b≠c/\a=d\/b=c/\a+c=d))) R=Pi (λa b=>decide (a=n/\b≠c/\n=d)) R*Pi (λa b=>decide (a=n/\b=c/\n+c=d)) R:=Pi.add λq _=>by
    by_cases y:q.1=n <;> by_cases z:q.2.1=c <;> simp [y,z]
   have k:Pi (λa b=>decide (a=n/\b≠c/\n=d)) R=if n=d then Pi (λa b=>decide (a=n) && !decide (b=c)) R else 1:=by
    split
    ·exact Pi.congr λq _=>by simp [*]
    ·exact Pi.none λq _=>by simp [*]
   have m:Pi (λa b=>decide (a=n/\b=c/\n+c=d)) R=if n+c=d then Pi (λa b=>decide (a=n) && decide (b=c)) R else 1:=by
    split
    ·exact Pi.congr λq _=>by simp [*]
    ·exact Pi.none λq _=>by simp [*]
   rw [i,j,k,m];show _*((if n=d then _ else 1)*((if n+c=d then _ else 1)*1))=_;generalize (if n=d then _ else (1:Sr))=u;generalize (if n+c=d then _ else (1:Sr))=v;ext
theorem wa_plus {R:cK} {c d:Rat} {f:List Rat} (r:d≠0) (i:f.Nodup) (u:∀ n∈f,n≠0) (j:∀ q∈R,q.1≠0->q.1∈f) :
  W (Pcs R c f++[(c,Pi (λa b=>decide (b=c) && !decide (a∈f)) R)]) d=wa (R.map λq=>(if q.2.1=c then q.1+c else q.1,q.2)) d:=by
 have e:∀ R:cK,wa (R.map λq=>(if q.2.1=c then q.1+c else q.1,q.2)) d=Pi (λa b=>decide ((if b=c then a+c else a)=d)) R:=λR=>by
  induction R with
  | nil=>rfl
  | cons q R g=>
    unfold wa at g ⊢;rw [CD];unfold Pi;rw [g]
 rw [e,W.app,W.pcs R c d i];show _*((if c=d then _ else 1)*1)=_
 have k:Pi (λa b=>decide ((if b=c then a+c else a)=d)) R=Pi (λa b=>decide (a∈f/\(b≠c/\a=d\/b=c/\a+c=d))) R*Pi (λa b=>decide (b=c/\a∉f/\c=d)) R:=Pi.add λq m=>by
  by_cases y:q.1∈f
  ·by_cases z:q.2.1=c <;> simp [y,z]
  ·have o:q.1=0:=Classical.byContradiction λh=>y (j q m h);rw [o] at y ⊢;by_cases z:q.2.1=c
   ·simp [y,z];ext
   ·simp [y,z];ext
 have p:Pi (λa b=>decide (b=c/\a∉f/\c=d)) R=if c=d then Pi (λa b=>decide (b=c) && !decide (a∈f)) R else 1:=by
  split
  ·exact Pi.congr λq _=>by simp [*]
  ·exact Pi.none λq _=>by simp [*]
 rw [k,p];ext
noncomputable def ZM:List Rat->List Rat:=λl=>(l.reverse.dropWhile λx=>decide (x=0)).reverse
noncomputable def Lh (a b:List Rat) (c:Rat) (k:Nat):List Rat:=ZM (A4 a ((List.replicate k 0++b).map λx=>-c*x))
noncomputable def eu:Nat->List Rat×List Rat×List Rat->List Rat×List Rat×List Rat->List Rat×List Rat
 | 0,_,y=>y.2
 | f+1,x,y=>
   if y.1.length<=1 then y.2
   else if x.1.length<y.1.length then eu f y x
   else
    let c:=x.1.getD (x.1.length - 1) 0 / y.1.getD (y.1.length - 1) 0;let k:=x.1.length - y.1.length
    eu f (Lh x.1 y.1 c k,Lh x.2.1 y.2.1 c k,Lh x.2.2 y.2.2 c k) y
noncomputable def cst:List Rat->Bool
 | []=>false
 | d::l=>!decide (d=0) && l.all λx=>decide (x=0)
theorem ZN (a:List Rat) (k:Nat):(L a).c k=a.getD k 0:=DT a k
theorem ZP:∀ {l:List Rat},cst l=true->∃ d:Rat,d≠0/\L l=num d
 | [],h=>nomatch h
 | d::l,h=>by
   unfold cst at h;rw [Bool.and_eq_true] at h;refine ⟨d,by simpa using h.1,ext' λk=>?_⟩;rw [ZN];show _=d*Ak k;cases k with
   | zero=>rw [show (Ak 0:Rat)=1 from rfl];show d=d*1;ext
   | succ k=>
     rw [show (Ak (k+1):Rat)=0 from rfl];show l.getD k 0=d*0;rcases A8 k l.length with c | c
     ·have z:=Dp.mp h.2 l[k] (Dq c);rw [AT,Aj c];show l[k]=d*0;rw [qW z];ext
     ·rw [AT,Bx c];show (0:Rat)=d*0;ext
noncomputable def okC (f g:List Rat):Bool:=let w:=eu 12 (f,[1],[]) (g,[],[1]);cst (A4 (BV w.1 f) (BV w.2 g))
theorem ZQ {f g:List Rat} (h:okC f g=true):Cs (L f) (L g):=by
 unfold okC at h;generalize eu 12 (f,[1],[]) (g,[],[1])=w at h;obtain ⟨d,a,e⟩:=ZP h;refine Cs.of_unit a rfl (Pol.L w.1) (Pol.L w.2) ?_;rw [<-e];refine ext' λk=>?_;show (L w.1*L f).c k+(L w.2*L g).c k=cvL (A4 (BV w.1 f) (BV w.2 g)) Ak k;rw [L_mul,L_mul,Bi,Bu,Bu];rfl
noncomputable def poolQ:List (List Rat):=[[0,1],[-1,1],[1,1],[-2,1],[2,1],[-3,1],[1/2,1],[-2/3,1],[-2,0,1],[1,0,1],[1,1,1],[-3,0,1],[-1,1,1],[2,0,1],[-1,2,1],[3,1,1],[-2,0,0,1],[1,1,0,1],[-1,-1,0,1]]
set_option maxRecDepth 100000 in
theorem ZR:(poolQ.all λf=>poolQ.all λg=>decide (f=g) || okC f g)=true:=by decide +kernel
theorem pool_cs {f g:List Rat} (a:f∈poolQ) (b:g∈poolQ) (n:f≠g):Cs (L f) (L g):=by
 have h:=Dp.mp (Dp.mp ZR f a) g b;rw [Bool.or_eq_true] at h;rcases h with h | h
 ·exact absurd (qW h) n
 ·exact ZQ h
theorem W.out {c:Rat}:∀ {L:cL},(∀ q∈L,q.1≠c)->W L c=1
 | [],_=>rfl
 | q::L,h=>by
   show (if q.1=c then q.2 else 1)*W L c=1;rw [qT (h q (BL ..)),W.out λp hp=>h p (BW _ hp)];ext
theorem W.asc:∀ {L:cL},L.Pairwise (λp q=>p.1<q.1)->∀ q∈L,W L q.1=q.2
 | p::L,h,q,b=>by
   obtain ⟨a,c⟩:=Ew.mp h;show (if p.1=q.1 then p.2 else 1)*W L q.1=q.2;rcases A7.mp b with e | e
   ·subst e;rw [qU rfl,W.out λr d=>by have:=a r d;grind];ext
   ·rw [qT (by have:=a q e;ext),W.asc c q e];ext
theorem Can.at {w:Rat->Sr} {M:cL} (h:Can w M) {c:Rat} (b:c≠0):W M c=w c:=by
 by_cases e:∃ q∈M,q.1=c
 ·obtain ⟨q,a,rfl⟩:=e;rw [W.asc h.asc q a,(h.nz q a).2.1]
 ·rw [W.out λq a z=>e ⟨q,a,z⟩];exact Classical.byContradiction λz=>e (h.all c b (λy=>z y.symm))
theorem Can.nil {w:Rat->Sr} (h:∀ c,c≠0->w c=1):Can w []:=⟨.nil,(λ_ h=>nomatch h),λc a d=>absurd (h c a) d⟩
theorem W.scl {x d:Rat} (a:x≠0):∀ {L:cL},W (L.map λq=>(q.1*x,q.2)) d=W L (d / x)
 | []=>rfl
 | q::L=>by
   show (if q.1*x=d then q.2 else 1)*W (L.map λq=>(q.1*x,q.2)) d=(if q.1=d / x then q.2 else 1)*W L (d / x);rw [W.scl a];congr 1
   have:q.1*x=d↔q.1=d / x:=by
    constructor
    ·intro h;ext
    ·intro h;ext
   by_cases c:q.1=d / x
   ·rw [qU c,qU (this.mpr c)]
   ·rw [qT c,qT λz=>c (this.mp z)]
theorem wa.scl {x d:Rat} (a:x≠0):∀ {R:cK},wa (R.map λq=>(q.1*x,q.2)) d=wa R (d / x)
 | []=>rfl
 | q::R=>by
   show (if decide (q.1*x=d)=true then q.2.2 else 1)*wa (R.map λq=>(q.1*x,q.2)) d=(if decide (q.1=d / x)=true then q.2.2 else 1)*wa R (d / x);rw [wa.scl a];congr 1
   have:q.1*x=d↔q.1=d / x:=by
    constructor
    ·intro h;ext
    ·intro h;ext
   by_cases c:q.1=d / x
   ·rw [qU (qV (this.mpr c)),qU (qV c)]
   ·rw [qT (by simpa using λz=>c (this.mp z)),qT (by simpa using c)]
theorem Can.scl {R:cK} {M:cL} (h:Can (wa R) M) (x:Rat) {d:Rat} (c:d≠0):W (M.map λq=>(q.1*x,q.2)) d=wa (R.map λq=>(q.1*x,q.2)) d:=by
 by_cases a:x=0
 ·rw [W.out λq b=>?_]
  ·refine (Pi.none λq b=>?_).symm;obtain ⟨p,_,rfl⟩:=AU.mp b;simp only [decide_eq_false_iff_not];rw [a];ext
  ·obtain ⟨p,_,rfl⟩:=AU.mp b;show p.1*x≠d;rw [a];ext
 ·rw [W.scl a,wa.scl a]
  exact h.at (by
   intro z;exact c ())
noncomputable def stp (c:Rat) (R:cK):cK:=R.map λq=>(if q.2.1=c then q.1+c else q.1,q.2)
theorem stps:∀ {cs:List Rat},cs.Nodup->∀ R:cK,cs.foldl (λR c=>stp c R) R=R.map λq=>(if q.2.1∈cs then q.1+q.2.1 else q.1,q.2)
 | [],_,R=>by simp
 | c::cs,h,R=>by
   obtain ⟨a,b⟩:=Cm.mp h;rw [List.foldl_cons,stps b];unfold stp;rw [BX];refine Cf λq _=>?_;by_cases e:q.2.1=c
   ·simp [Function.comp,e,a]
   ·simp [Function.comp,e]
theorem stps_all {cs:List Rat} {R:cK} (h:cs.Nodup) (a:∀ q∈R,q.2.1≠0->q.2.1∈cs):cs.foldl (λR c=>stp c R) R=R.map λq=>(q.1+q.2.1,q.2):=by
 rw [stps h];refine Cf λq b=>?_;by_cases e:q.2.1∈cs
 ·rw [qU e]
 ·have z:q.2.1=0:=Classical.byContradiction λn=>e (a q b n);rw [qT e];refine Prod.ext ?_ rfl;show q.1=q.1+q.2.1;rw [z];ext
theorem Can.keys {R:cK} {M:cL} (p:Pr R) (h:Can (wa R) M):∀ q∈R,q.1≠0->q.1∈M.map (·.1):=λq b n=>by
 obtain ⟨x,d,e⟩:=h.all q.1 n (λz=>by
  obtain ⟨k,mk,f⟩:=Pi.ms (λa _=>decide (a=q.1)) p
  have g:k=0:=by
   have i:Ms k 1:=by rw [<-z];exact mk
   rcases D6 k with c | c
   ·exact c
   ·have:=Ms.one.2 k ⋯;rw [i.1] at this;exact absurd this ∅
  have:=f g q b;simp at this)
 exact AU.mpr ⟨x,d,e⟩
theorem Can.nodup {w:Rat->Sr} {M:cL} (h:Can w M):(M.map (·.1)).Nodup:=EA.mpr (h.asc.imp λl=>by ext)
structure Gth (L kvs:cL):Prop where
 nd:(kvs.map (·.1)).Nodup
 at':∀ q∈kvs,q.1≠0/\q.2=W L q.1/\∃ n,Ms (n+1) q.2
 all:∀ c,c≠0->W L c≠1->∃ q∈kvs,q.1=c
theorem Gth.nil:Gth [] []:=⟨.nil,(λ_ h=>nomatch h),λ_ _ h=>absurd rfl h⟩
theorem W.snoc (L:cL) (c d:Rat) (v:Sr):W (L++[(c,v)]) d=W L d*if c=d then v else 1:=by
 rw [W.app];show W L d*((if c=d then v else 1)*1)=_;ext
theorem Gth.skip {L kvs:cL} (h:Gth L kvs) {c:Rat} {v:Sr} (z:c=0\/v=1):Gth (L++[(c,v)]) kvs:=by
 have e:∀ d,d≠0->W (L++[(c,v)]) d=W L d:=λd f=>by
  rw [W.snoc];rcases z with z | z
  ·rw [qT (by rw [z];exact λy=>f y.symm)];ext
  ·rw [z];split <;> ext
 exact ⟨h.nd,λq g=>let ⟨a,b,c⟩:=h.at' q g;⟨a,by rw [e _ a];exact b,c⟩,λd f n=>h.all d f (by rw [<-e d f];exact n)⟩
theorem Ms.ne_one {n:Nat} {f:Sr} (h:Ms (n+1) f):f≠1:=λz=>by
 have:=Ms.one.2 (n+1) ⋯;rw [<-z,h.1] at this;exact absurd this ∅
theorem Gth.new {L kvs:cL} (h:Gth L kvs) {c:Rat} {v:Sr} {n:Nat} (i:c≠0) (j:Ms (n+1) v) (g:c∉kvs.map (·.1)):Gth (L++[(c,v)]) (kvs++[(c,v)]):=by
 have o:W L c=1:=Classical.byContradiction λz=>by
  obtain ⟨q,f,e⟩:=h.all c i z;exact g (AU.mpr ⟨q,f,e⟩)
 refine ⟨?_,λq f=>?_,λd p z=>?_⟩
 ·rw [Bq];refine List.nodup_append.mpr ⟨h.nd,Cm.mpr ⟨DZ,List.nodup_nil⟩,λx r y u e=>g ?_⟩;rw [Ap.mp u] at e;rw [<-show x=c from e];exact r
 ·rw [W.snoc];rcases CK.mp f with k | k
  ·obtain ⟨a,b,m⟩:=h.at' q k;refine ⟨a,?_,m⟩;rw [qT λe=>g (AU.mpr ⟨q,k,e.symm⟩),b];ext
  ·rw [Ap.mp k];refine ⟨i,?_,n,j⟩;show v=W L c*if c=c then v else 1
   rw [o,qU rfl];ext
 ·rw [W.snoc] at z;by_cases e:c=d
  ·exact ⟨(c,v),Cz _ (Ap.mpr rfl),e⟩
  ·rw [qT e] at z;obtain ⟨q,f,k⟩:=h.all d p (by intro y;rw [y] at z;exact z ());exact ⟨q,F2 _ f,k⟩
theorem Gth.put {L kvs:cL} (h:Gth L kvs) {c:Rat} {v:Sr} {n:Nat} (o:Ms (n+1) v) (g:c∈kvs.map (·.1)):Gth (L++[(c,v)]) (kvs.map λq=>if q.1=c then (q.1,q.2*v) else q):=by
 have i:(kvs.map λq=>if q.1=c then (q.1,q.2*v) else q).map (·.1)=kvs.map (·.1):=by
  rw [BX];refine Cf λq _=>?_;show (if q.1=c then (q.1,q.2*v) else q).1=q.1;split <;> rfl
 refine ⟨by rw [i];exact h.nd,λq f=>?_,λd r z=>?_⟩
 ·obtain ⟨p,hp,rfl⟩:=AU.mp f;obtain ⟨a,b,m,j⟩:=h.at' p hp;by_cases e:p.1=c
  ·rw [qU e];refine ⟨a,?_,m+(n+1),?_⟩
   ·show p.2*v=W (L++[(c,v)]) p.1;rw [W.snoc,qU e.symm,<-b]
   ·have:=j.mul o;rwa [show m+1+(n+1)=m+(n+1)+1 by omega] at this
  ·rw [qT e];refine ⟨a,?_,m,j⟩;rw [W.snoc,qT λy=>e y.symm,<-b];ext
 ·rw [W.snoc] at z
  have:d∈kvs.map (·.1):=by
   by_cases e:c=d
   ·rw [<-e];exact g
   ·rw [qT e] at z;obtain ⟨q,f,k⟩:=h.all d r (by intro y;rw [y] at z;exact z ());exact AU.mpr ⟨q,f,k⟩
  rw [<-i] at this;obtain ⟨q,f,k⟩:=AU.mp this;exact ⟨q,f,k⟩
theorem Gth.can {L kvs M:cL} (h:Gth L kvs) (pm:M.Perm kvs) (d:M.Pairwise λp q=>p.1<q.1):Can (W L) M:=
 ⟨d,λq f=>let ⟨a,b,_,m⟩:=h.at' q (pm.mem_iff.mp f);⟨a,b,m.ne_one⟩,λc g z=>let ⟨q,f,e⟩:=h.all c g z;⟨q,pm.mem_iff.mpr f,e⟩⟩
end Bs.Sr
namespace Bs
open PySem
noncomputable def Ge (K:W.Frag):Addr:=match W.nsIn K PySem.mainGlobals "EXPONENTS" with | some (some (.ref a))=>a | _=>0
end Bs
namespace Bs
open PySem L2
abbrev Nm (H:Hp) (p:Addr) (t d:Int):Prop:=H p=some (.tup [.int t,.int d])
def Ej (_:W.Frag):Sp:=λc H Q _=>∃ a b:Int,c=[.int a,.int b]/\Q (.int ((Int.gcd a b:Nat):Int)) H
def Ju (K:W.Frag):Sp:=λc H Q _=>∃ (a:Addr) (b:cO),c=[.ref a]/\SqL K H a (b.map V.int)/\b.length<=63/\∀ d,Q (.bl true) d
def Jv (_:W.Frag):Sp:=λa H Q _=>∃ (x n:Int) (b:Nat),a=[.int x,.int n]/\0<=n/\Bd b x/\b*n.toNat+1<=200000/\Q (.int (x ^ n.toNat)) H
noncomputable def A3 (n:Nat) (f:d7):cM:=((List.range n).map f).map V.int
noncomputable def DA (a:cO):Nat->Nat
 | 0=>0
 | m+1=>if a.getD m 1=0 then DA a m else m+1
noncomputable def Cw (a:cO):cO:=a.take (DA a a.length)
def Pl (H:Hp) (r:Addr) (L:cI):Prop:=∃ a,H r=some (.tup a)/\Nums H a L
def HP (_:W.Frag):Sp:=λb H Q _=>∃ (p:Addr) (a:cO),b=[.ref p]/\H p=some (.lst (a.map V.int))/\∀ r,H r=none->Q (.ref r) (upd H r (.lst ((Cw a).map V.int)))
def Tz (a:cO):Prop:=a=[]\/co a (a.length - 1)≠0
noncomputable def SDs (H:Hp):cM->List (cO)->Prop
 | [],[]=>True
 | x::a,r::b=>(∃ p,x=.ref p/\H p=some (.lst (r.map V.int)))/\SDs H a b
 | _,_=>False
def SD (H:Hp) (p:Addr) (b:List (cO)):Prop:=∃ a,H p=some (.lst a)/\SDs H a b
def IV (_:W.Frag):Sp:=λe H Q _=>∃ (p:Addr) (a:cO) (b:Int),e=[.ref p,.int b]/\H p=some (.lst (a.map V.int))/\a.length<=1000/\∀ (g:Int) (c:Hp),Same H c->0<=g->g∣b->(∀ z∈a,g∣z)->(∀ d:Int,d∣b->(∀ z∈a,d∣z)->d∣g)->Q (.int g) c
def IW (_:W.Frag):Sp:=λb H Q _=>∃ (p:Addr) (a:cO) (g:Int),b=[.ref p,.int g]/\H p=some (.lst (a.map V.int))/\(0<g\/a=[])/\a.length<=1000/\∀ r,H r=none->Q (.ref r) (upd H r (.lst ((a.map (·/ g)).map V.int)))
def IX (_:W.Frag):Sp:=λe H Q _=>∃ (p q:Addr) (a b:cO) (f w:Int) (s:Nat),e=[.ref p,.int f,.ref q,.int w,.int (s:Int)]/\H p=some (.lst (a.map V.int))/\H q=some (.lst (b.map V.int))/\a.length<=1000/\s+b.length<=1000/\Bd 60000000 f/\Bd 60000000 w/\(∀ z∈a,Bd 60000000 z)/\(∀ z∈b,Bd 60000000 z)/\
 ∀ (r:Addr) (c:cO) (d:Hp),Same H d->d r=some (.lst (c.map V.int))->Tz c->(∀ k,co c k=f*co a k - w*Av s (co b) k)->Q (.ref r) d
def IY (_:W.Frag):Sp:=λg H Q _=>∃ (p q:Addr) (a c:cO) (b d:Nat),g=[.ref p,.ref q]/\H p=some (.lst (a.map V.int))/\H q=some (.lst (c.map V.int))/\Lz c/\(∀ z∈a,Bd b z)/\(∀ z∈c,Bd d z)/\b+a.length*(d+1)<=60000000/\d<=60000000/\a.length<=1000/\c.length<=1000/\((¬ ∃ A:cO,∀ k,co a k=cvL A (co c) k)->∀ e,Same H e->Q .non e)/\
 ∀ (r:Addr) (f:cO) (e:Hp),Same H e->e r=some (.lst (f.map V.int))->(∀ k,co a k=cvL f (co c) k)->Q (.ref r) e
def Sh (b a:List (cO)):Prop:=∃ g:Int,0<g/\b=a.map (·.map (g*·))
def ZT (a:List (cO)):Prop:=(∀ r∈a,r=[])\/∀ d:Int,(∀ r∈a,∀ z∈r,d∣z)->d.natAbs=1
def IZ (_:W.Frag):Sp:=λd H Q _=>∃ (p:Addr) (b:List (cO)),d=[.ref p]/\SD H p b/\b.length<=1000/\(∀ r∈b,r.length<=1000/\Tz r)/\
 ∀ (t:Addr) (a:List (cO)) (c:Hp),Same H c->SD c t a->Sh b a->ZT a->Q (.ref t) c
def HQ (_:W.Frag):Sp:=λd H Q _=>∃ (p:Addr) (a:cO),d=[.ref p]/\H p=some (.lst (a.map V.int))/\a.length<=1000/\Tz a/\
 ∀ (t:Addr) (b:cO) (g:Int) (c:Hp),Same H c->c t=some (.lst (b.map V.int))->0<g->a=b.map (g*·)->(a=[]\/Prim b)->Q (.ref t) c
def Jw (_:W.Frag):Sp:=λb H Q _=>∃ (p q:Addr) (o:cO),b=[.ref p,.ref q]/\SD H p [[]]/\SD H q [o]/\0<o.length/\∀ (t:Addr) (a:Hp),Same H a->SD a t [[]]->Q (.ref t) a
def Ia (_:W.Frag):Sp:=λb H Q _=>∃ (p q:Addr) (s o:cO),b=[.ref p,.ref q]/\SD H p [s]/\SD H q [o]/\(s=[]\/o=[])/\∀ (t:Addr) (a:Hp),Same H a->SD a t [if o=[] then s else o]->Q (.ref t) a
def Jx (_:W.Frag):Sp:=λb H Q _=>∃ a p:Int,b=[.int a,.int p]/\2<=p/\Bd 45000 p/\∀ r:Int,0<=r->r<p->(Int.gcd a p=1->p∣r*a - 1)->Q (.int r) H
def Jy (_:W.Frag):Sp:=λb H Q _=>∃ (p:Addr) (a:cO) (m:Int),b=[.ref p,.int m]/\H p=some (.lst (a.map V.int))/\0<m/\a.length<=1000/\∀ r,H r=none->Q (.ref r) (upd H r (.lst ((a.map (·% m)).map V.int)))
def Md (m:Int) (a:cO) (f:d7):Prop:=(∀ z∈a,0<=z/\z<m)/\∀ k,m∣co a k - f k
def HR (_:W.Frag):Sp:=λd H Q _=>∃ (p:Addr) (a:cO) (m:Int),d=[.ref p,.int m]/\H p=some (.lst (a.map V.int))/\0<m/\a.length<=1000/\∀ (r:Addr) (b:cO) (c:Hp),Same H c->c r=some (.lst (b.map V.int))->Tz b->b.length<=a.length->Md m b (co a)->Q (.ref r) c
def HS (_:W.Frag):Sp:=λd H Q _=>∃ (q:Addr) (a:cO) (p:Nat),d=[.ref q,.int (p:Int)]/\H q=some (.lst (a.map V.int))/\Pr p/\Bd 45000 (p:Int)/\a.length<=1000/\Tz a/\(∀ z∈a,0<=z/\z<(p:Int))/\
 ∀ (r:Addr) (b:cO) (f:Int) (c:Hp),Same H c->c r=some (.lst (b.map V.int))->b.length=a.length->(a≠[]->co b (b.length - 1)=1)->Md (p:Int) b (λk=>f*co a k)->Q (.ref r) c
def Jz (_:W.Frag):Sp:=λg H Q _=>∃ (p q:Addr) (f a:cO) (m:Int) (b:Nat),g=[.ref p,.ref q,.int m]/\H p=some (.lst (f.map V.int))/\H q=some (.lst (a.map V.int))/\0<a.length/\co a (a.length - 1)=1/\0<m/\Bd b m/\(∀ z∈a,Bd b z)/\b<=60000000/\f.length<=1000/\a.length<=1000/\
 ∀ (t r s:Addr) (d e:cO) (c:Hp),Same H c->c t=some (.tup [.ref r,.ref s])->c r=some (.lst (d.map V.int))->c s=some (.lst (e.map V.int))->Tz d->Tz e->e.length<a.length->Md m e (λk=>co f k - cvL d (co a) k)->(∀ z∈d,0<=z/\z<m)->Q (.ref t) c
def J0 (_:W.Frag):Sp:=λf H Q _=>∃ (p q:Addr) (d a:cO) (m:Int) (b:Nat),f=[.ref p,.ref q,.int m]/\H p=some (.lst (d.map V.int))/\H q=some (.lst (a.map V.int))/\0<a.length/\co a (a.length - 1)=1/\0<m/\Bd b m/\(∀ z∈a,Bd b z)/\b<=60000000/\d.length<=1000/\a.length<=1000/\
 ∀ (s:Addr) (g c:cO) (e:Hp),Same H e->e s=some (.lst (c.map V.int))->Tz c->c.length<a.length->Md m c (λk=>co d k - cvL g (co a) k)->Q (.ref s) e
def J1 (_:W.Frag):Sp:=λh H Q _=>∃ (a b:Addr) (d e:cO) (p:Nat),h=[.ref a,.ref b,.int (p:Int)]/\H a=some (.lst (d.map V.int))/\H b=some (.lst (e.map V.int))/\Pr p/\Bd 45000 (p:Int)/\d.length<=1000/\e.length<=1000/\((∃ k,¬ (p:Int)∣co d k)\/∃ k,¬ (p:Int)∣co e k)/\
 ∀ (s:Addr) (c:cO) (f:Hp),Same H f->f s=some (.lst (c.map V.int))->0<c.length->c.length<=1000->co c (c.length - 1)=1->(∀ z∈c,0<=z/\z<(p:Int))->(∀ g:d7,Dm (p:Int) g (co d)->Dm (p:Int) g (co e)->Dm (p:Int) g (co c))->Dm (p:Int) (co c) (co d)->Dm (p:Int) (co c) (co e)->Q (.ref s) f
def J2 (_:W.Frag):Sp:=λa H Q _=>∃ w p:Int,a=[.int w,.int p]/\0<p/\∀ r:Int,p∣r - w->2*r.natAbs<=p.natAbs->Q (.int r) H
def Fi (e:Nat) (a:cO):Prop:=∀ A g:cO,(∀ k,co a k=cvL A (co g) k)->∀ k,Bd e (co g k)
def Fp (e:Nat) (a:cO):Prop:=∀ g:cO,Lz g->Prim g->MQ (co g) (co a)->∀ k,Bd e (co g k)
def PQ (e c N p:Nat):Prop:=2 ^ ((e+c+2)*N)<p
def J3 (_:W.Frag):Sp:=λj H Q _=>∃ (a b:Addr) (f g:cO) (p d e c N:Nat),j=[.ref a,.ref b,.int (p:Int)]/\H a=some (.lst (f.map V.int))/\H b=some (.lst (g.map V.int))/\Pr p/\Bd 45000 (p:Int)/\Lz f/\Lz g/\(∀ z∈f,Bd d z)/\(∀ z∈g,Bd d z)/\d+f.length*45001<=3000000/\d+g.length*45001<=3000000/\Fi e f/\Fi e g/\f.length+g.length<2 ^ (c+1)/\f.length+g.length<=N+2/\2<=N/\(¬ PQ e c N p->∀ h,Same H h->Q .non h)/\
 ∀ (s:Addr) (i:cO) (h:Hp),Same H h->h s=some (.lst (i.map V.int))->RC (co f) (co g) i->Prim i->Q (.ref s) h
def J4 (_:W.Frag):Sp:=λj H Q _=>∃ (a b:Addr) (f g:cO) (d e c N:Nat),j=[.ref a,.ref b]/\H a=some (.lst (f.map V.int))/\H b=some (.lst (g.map V.int))/\Tz f/\Tz g/\(∀ z∈f,Bd d z)/\(∀ z∈g,Bd d z)/\d<=200000/\f.length<=60/\g.length<=60/\(f≠[]->g≠[]->Fp e f/\Fp e g)/\f.length+g.length<2 ^ (c+1)/\f.length+g.length<=N+2/\2<=N/\(e+c+2)*N<=44490/\
 ∀ (s:Addr) (h:cO) (i:Hp),Same H i->i s=some (.lst (h.map V.int))->((f≠[]\/g≠[])->RC (co f) (co g) h/\Prim h)->(f=[]->g=[]->h=[])->Q (.ref s) i
structure Gq (b c:Nat) (l:cI):Prop where
 low:AV l
 nz:Nz l
 ov:∃ M,Ov l M/\Bd c M/\∀ z∈O' l M,Bd b z
noncomputable def G_ (g:cO):cI:=g.map λn=>Aw n (co g (g.length - 1))
def MR (g f:d8):Prop:=∃ A:List Rat,∀ k,f k=cvL A g k
def Ek (_:W.Frag):Sp:=λc H Q _=>∃ a b:Int,c=[.int a,.int b]/\b≠0/\∀ (p:Addr),H p=none->Q (.ref p) (upd H p (.tup [.int (Aw a b).1,.int (Aw a b).2]))
def FI (_:W.Frag):Sp:=λb H Q _=>∃ (p:Addr) (a:cM) (l:cI),b=[.ref p]/\H p=some (.lst a)/\Nums H a l/\l.length<=1000/\Fm H Q (trim l)
def El (_:W.Frag):Sp:=λd H Q _=>∃ (p:Addr) (c:cM) (l:cI) (M:Int),d=[.ref p]/\(H p=some (.tup c)\/H p=some (.lst c))/\Nums H c l/\AV l/\Ov l M/\Bd 400000 M/\(∀ q∈l,Bd 60000000 q.1)/\l.length<=1000/\
 ∀ (r a:Addr) (b:Hp),Same H b->b r=some (.tup [.ref a,.int (AZ l)])->b a=some (.lst ((AR l).map V.int))->Q (.ref r) b
def HU (_:W.Frag):Sp:=λb H Q _=>∃ (p:Addr) (a:cO) (B:Int),b=[.ref p,.int B]/\H p=some (.lst (a.map V.int))/\B≠0/\a.length<=1000/\Fm H Q (trim (a.map λn=>Aw n B))
def Fq (_:W.Frag):Sp:=λh H Q _=>∃ (p q:Addr) (a f:cM) (l m:cI) (b c e d N:Nat),h=[.ref p,.ref q]/\H p=some (.tup a)/\H q=some (.tup f)/\Nums H a l/\Nums H f m/\Gq b c l/\Gq b c m/\b<=200000/\c<=200000/\l.length<=60/\m.length<=60/\(l≠[]->m≠[]->Fp e (AR l)/\Fp e (AR m))/\l.length+m.length<2 ^ (d+1)/\l.length+m.length<=N+2/\2<=N/\(e+d+2)*N<=44490/\
 (l=[]->m=[]->Fm H Q [])/\((l≠[]\/m≠[])->∀ g,RC (co (AR l)) (co (AR m)) g->Prim g->Fm H Q (G_ g))
def Li (f:Nu->Nu->Nu) (_:W.Frag):Sp:=λe H Q _=>∃ (p q:Addr) (a b c d:Int),e=[.ref p,.ref q]/\Nm H p a b/\Nm H q c d/\0<b/\0<d/\Bd 60000000 a/\Bd 60000000 b/\Bd 60000000 c/\Bd 60000000 d/\
 ∀ (r:Addr),H r=none->Q (.ref r) (upd H r (.tup [.int (f (a,b) (c,d)).1,.int (f (a,b) (c,d)).2]))
def J5 (_:W.Frag):Sp:=λj H Q _=>∃ (p q:Addr) (h i:cM) (l m:cI) (b c d e:Nat),j=[.ref p,.ref q]/\H p=some (.tup h)/\H q=some (.tup i)/\Nums H h l/\Nums H i m/\Gq b c l/\Gq d e m/\m≠[]/\l.length<=100/\m.length<=100/\
 c+(l.length+1 - m.length)*d<=400000/\b+(l.length+1 - m.length)*(d+1)+e<=900000/\e<=400000/\d<=400000/\
 ∀ (t u v:Addr) (f:Hp) (a g:cI),Same H f->f t=some (.tup [.ref u,.ref v])->Pl f u a->Pl f v g->AV a->Nz a->a.length<=l.length+1 - m.length->Gq (b+(l.length+1 - m.length)*(d+1)) (c+(l.length+1 - m.length)*d) g->g.length<m.length->
   (∀ k,B_ l k=cv (B_ a) (B_ m) a.length k+B_ g k)->Q (.ref t) f
def Cop (T B:d8):Prop:=∃ U W:List Rat,∀ k,(Ak k:Rat)=cvL U T k+cvL W B k
noncomputable abbrev Ib:=Li F_
def J6 (_:W.Frag):Sp:=λe H Q _=>∃ (p q:Addr) (a b c d:Int),e=[.ref p,.ref q]/\Nm H p a b/\Nm H q c d/\0<b/\c≠0/\Bd 60000000 a/\Bd 60000000 b/\Bd 60000000 c/\Bd 60000000 d/\
 ∀ (r:Addr),H r=none->Q (.ref r) (upd H r (.tup [.int (Aw (a*d) (b*c)).1,.int (Aw (a*d) (b*c)).2]))
def J7 (_:W.Frag):Sp:=λf H Q _=>∃ (p q:Addr) (a c:cO) (b d:Nat),f=[.ref p,.ref q]/\H p=some (.lst (a.map V.int))/\H q=some (.lst (c.map V.int))/\(∀ z∈a,Bd b z)/\(∀ z∈c,Bd d z)/\b<=900000/\d<=900000/\a.length<=100/\c.length<=100/\
 ∀ (r:Addr) (e:Hp),Same H e->e r=some (.lst ((if a.length=0\/c.length=0 then [] else (List.range (a.length+c.length - 1)).map λk=>ps a c a.length k).map V.int))->Q (.ref r) e
def Di (_:W.Frag):Sp:=λh H Q _=>∃ (p q:Addr) (f g:cM) (l m:cI) (b c d e:Nat),h=[.ref p,.ref q]/\H p=some (.tup f)/\H q=some (.tup g)/\Nums H f l/\Nums H g m/\Gq b c l/\Gq d e m/\l.length<=100/\m.length<=100/\b<=300000/\c<=300000/\d<=300000/\e<=300000/\
 ∀ (r:Addr) (R:cI) (a:Hp),Same H a->Pl a r R->Gq (b+d+l.length) (c+e) R->R.length<=l.length+m.length - 1->(∀ k,B_ R k=cv (B_ l) (B_ m) l.length k)->Q (.ref r) a
def Ic (_:W.Frag):Sp:=λe H Q _=>∃ (p c:Addr) (d:cM) (l:cI) (a b:Int),e=[.ref p,.ref c]/\H p=some (.tup d)/\Nm H c a b/\Nums H d l/\AV l/\0<b/\Bd 60000000 a/\Bd 60000000 b/\(∀ q∈l,Bd 60000000 q.1/\Bd 60000000 q.2)/\l.length<=1000/\Fm H Q (trim (l.map λq=>F_ q (a,b)))
def D1 (_:W.Frag):Sp:=λh H Q _=>∃ (p q:Addr) (f g:cM) (l m:cI) (b c d e:Nat),h=[.ref p,.ref q]/\H p=some (.tup f)/\H q=some (.tup g)/\Nums H f l/\Nums H g m/\Gq b c l/\Gq d e m/\m≠[]/\l.length<=100/\m.length<=100/\
 c+(l.length+1 - m.length)*d<=400000/\b+(l.length+1 - m.length)*(d+1)+e<=900000/\e<=400000/\d<=400000/\MR (B_ m) (B_ l)/\
 ∀ (r:Addr) (R:cI) (a:Hp),Same H a->Pl a r R->AV R->Nz R->R.length<=l.length+1 - m.length->(∀ k,B_ l k=cv (B_ R) (B_ m) R.length k)->Q (.ref r) a
noncomputable abbrev HV:=Li I_
def Id (_:W.Frag):Sp:=λc H Q _=>∃ (p:Addr) (b:cM) (l:cI) (i:Nat),c=[.ref p,.int (i:Int)]/\H p=some (.tup b)/\Nums H b l/\∀ (v:V) (a:Hp),Same H a->isN a v (Aa l i)->Q v a
def Lj (f:Nu->Nu->Nu) (s:Rat) (_:W.Frag):Sp:=λg H Q _=>∃ (p q:Addr) (d e:cM) (l m:cI) (M:Int) (b c:Nat),g=[.ref p,.ref q]/\H p=some (.tup d)/\H q=some (.tup e)/\Nums H d l/\Nums H e m/\AV l/\AV m/\Ov l M/\Ov m M/\Bd c M/\(∀ z∈O' l M,Bd b z)/\(∀ z∈O' m M,Bd b z)/\b<=300000/\c<=300000/\l.length<=100/\m.length<=100/\
 ∀ (r:Addr) (R:cI) (a:Hp),Same H a->Pl a r R->Gq (b+1) c R->R.length<=max l.length m.length->(∀ k,B_ R k=B_ l k+s*B_ m k)->Q (.ref r) a
noncomputable abbrev Lk:=Lj I_ 1
def J8 (_:W.Frag):Sp:=λc H Q _=>∃ (p q:Addr) (l m:cI),c=[.ref p,.ref q]/\Pl H p l/\Pl H q m/\AV l/\AV m/\Nz m/\m≠[]/\(∀ q∈l,Bd 1000000 q.1/\Bd 1000000 q.2)/\(∀ q∈m,Bd 1000000 q.1/\Bd 1000000 q.2)/\l.length<=1000/\m.length<=1000/\
 ∀ a:Nu,Low a.1 a.2->val a*val (Aa m (m.length - 1))=1->∀ (t u v:Addr) (b:Hp),Same H b->b t=some (.tup [.ref u,.ref v])->Pl b u (trim (l.map λq=>F_ q (a.1,a.2)))->Pl b v (trim (m.map λq=>F_ q (a.1,a.2)))->Q (.ref t) b
noncomputable def rw' (l:cI):List Rat:=(List.range l.length).map (B_ l)
def FF (H:Hp) (p:Addr) (T B:cI):Prop:=∃ u v,H p=some (.tup [.ref u,.ref v])/\Pl H u T/\Pl H v B
noncomputable def dv (f:d8) (k:Nat):Rat:=((k:Rat)+1)*f (k+1)
noncomputable def sr (l:cI):Sr:=⟨B_ l⟩
noncomputable def si (a:cO):Sr:=⟨λk=>(co a k:Rat)⟩
structure Lw (T B:cI):Prop where
 lt:AV T
 lb:AV B
 nt:Nz T
 nb:Nz B
 ne:B≠[]
 one:Aa B (B.length - 1)=(1,1)
 cs:Sr.Cs (sr T) (sr B)
structure Rp (b n m:Nat) (T B:cI):Prop where
 lw:Lw T B
 rp:∃ N D:cO,Lz D/\Tz N/\(∀ z∈N,Bd b z)/\(∀ z∈D,Bd b z)/\N.length<=n/\D.length<=m/\sr T*si D=si N*sr B
structure C0 (x n m e:Nat):Prop where
 n1:1<=n
 m1:1<=m
 n60:n<=60
 m60:m<=60
 ne:n<2 ^ e
 me:m<2 ^ e
 e6:e<=6
 lu:(x+e+2)*(n+m)<=44490
abbrev C1 (b n m e:Nat):Prop:=C0 (b+max n m*(2*e+4)) n m e
structure C2 (b n m e:Nat):Prop where
 a:C1 b m m e
 t:C1 (2*b+e+1) (n+m - 1) m e
 b9:b<=5000
 m50:m<=50
def HW (_:W.Frag):Sp:=λc H Q _=>∃ (p q:Addr) (l m:cI) (b x n k e:Nat),c=[.ref p,.ref q]/\Pl H p l/\Pl H q m/\Gq b b l/\Gq b b m/\m≠[]/\l.length<=n/\m.length<=k/\(l≠[]->Fp x (AR l))/\Fp x (AR m)/\C0 x n k e/\b<=100000/\
 ∀ (t:Addr) (a:Hp) (T B:cI),Same H a->FF a t T B->Lw T B->sr T*sr m=sr l*sr B->Q (.ref t) a
def PU (s:Rat) (_:W.Frag):Sp:=λf H Q _=>∃ (p q:Addr) (T B c a:cI) (b n m e:Nat),f=[.ref p,.ref q]/\FF H p T B/\FF H q c a/\Rp b n m T B/\Rp b n m c a/\C2 b n m e/\
 ∀ (t:Addr) (d:Hp) (X Y:cI),Same H d->FF d t X Y->Lw X Y->sr X*(sr B*sr a)=(sr T*sr a+Sr.num s*sr c*sr B)*sr Y->Q (.ref t) d
noncomputable abbrev Ie:=PU 1
def Ig (_:W.Frag):Sp:=λf H Q _=>∃ (p q:Addr) (T B a c:cI) (b n m e:Nat),f=[.ref p,.ref q]/\FF H p T B/\FF H q a c/\Rp b n m T B/\Rp b n m a c/\C1 b n m e/\b<=5000/\
 ∀ (t:Addr) (d:Hp) (X Y:cI),Same H d->FF d t X Y->Lw X Y->sr X*(sr B*sr c)=sr T*sr a*sr Y->Q (.ref t) d
def Stt (H:Hp) (p a:Addr) (n:Int):Prop:=∃ (b:cO) (k:Int) (d:Bool),H p=some (.dK [(.inr "cells", .ref a),(.inr "number", .int k),(.inr "digits", .bl d),(.inr "at", .int n)])/\H a=some (.lst (b.map V.int))/\(∀ z∈b,0<=z)/\b.length<=63/\0<=k/\k<=2147483629+n/\0<=n
def Kpa (p a:Addr) (H c:Hp):Prop:=∀ b o,b≠p->b≠a->H b=some o->c b=some o
def Lm (K:W.Frag):Sp:=λd H Q _=>∃ (s:Addr) (c:cO),d=[.ref s]/\SqL K H s (c.map V.int)/\c.length<=63/\∀ (p a:Addr) (b:Hp),H p=none->H a=none->Same H b->Stt b p a 0->Q (.ref p) b
def Dj (_:W.Frag):Sp:=λc H Q _=>∃ (p a:Addr) (m n:Int),c=[.ref p,.int m]/\Stt H p a n/\n<=100000/\1<=m/\m<=100/\∀ (d:Int) (b:Hp),0<=d->d<m->Stt b p a (n+1)->Kpa p a H b->Q (.int d) b
def Gf (_:W.Frag):Sp:=λc H Q _=>∃ (p a:Addr) (n:Int),c=[.ref p]/\Stt H p a n/\n<=90000/\∀ (r:Addr) (t d:Int) (b:Hp),Nm b r t d->Low t d->t.natAbs<=4036->d<=3->Stt b p a (n+3)->Kpa p a H b->Q (.ref r) b
def Sn (c:Nu):Prop:=Low c.1 c.2/\c.1.natAbs<=4036/\c.2<=3
structure Pt (d:Nat) (l:cI):Prop where
 g:Gq (8*d - 6) (2*d) l
 ne:l≠[]
 len:l.length<=d+1
 d1:1<=d
noncomputable def Pts (H:Hp):cM->cE->Prop
 | [],[]=>True
 | v::b,q::L=>(∃ a,v=.ref a/\Pl H a q.2)/\Pt q.1 q.2/\Pts H b L
 | _,_=>False
noncomputable def sm (L:cE):Nat:=(L.map λq=>q.1).sum
noncomputable def poolN:cE:=[(1,[(0,1),(1,1)]),(1,[(-1,1),(1,1)]),(1,[(1,1),(1,1)]),(1,[(-2,1),(1,1)]),(1,[(2,1),(1,1)]),(1,[(-3,1),(1,1)]),(1,[(1,2),(1,1)]),(1,[(-2,3),(1,1)]),(2,[(-2,1),(0,1),(1,1)]),(2,[(1,1),(0,1),(1,1)]),(2,[(1,1),(1,1),(1,1)]),(2,[(-3,1),(0,1),(1,1)]),(2,[(-1,1),(1,1),(1,1)]),(2,[(2,1),(0,1),(1,1)]),(2,[(-1,1),(2,1),(1,1)]),(2,[(3,1),(1,1),(1,1)]),(3,[(-2,1),(0,1),(0,1),(1,1)]),(3,[(1,1),(1,1),(0,1),(1,1)]),(3,[(-1,1),(-1,1),(0,1),(1,1)])]
noncomputable def Lgs (H:Hp):cM->cD->Prop
 | [],[]=>True
 | v::a,q::L=>(∃ t c w,v=.ref t/\H t=some (.tup [.ref c,.ref w])/\Nm H c q.1.1 q.1.2/\Pl H w q.2)/\Lgs H a L
 | _,_=>False
def LgO (M:cD):Prop:=∀ q∈M,Low q.1.1 q.1.2/\AV q.2/\Nz q.2
noncomputable def lv (M:cD):cL:=M.map λq=>(val q.1,sr q.2)
def Lg (H:Hp) (l:Addr) (M:cD):Prop:=∃ a,H l=some (.tup a)/\Lgs H a M/\LgO M
def Pz (d:Nat) (L:cD):Prop:=∀ q∈L,Gq 100 100 q.2/\q.2.length<=8/\(∃ n,Sr.Ms (n+d) (sr q.2))/\Bd 100 q.1.1/\Bd 100 q.1.2
def SzP (R:cK):Prop:=∀ a:Rat->Rat->Bool,∃ l,sr l=Sr.Pi a R/\Gq 100 100 l/\l.length<=8
def Nb (x:Rat):Prop:=∃ t d:Int,0<d/\val (t,d)=x/\Bd 40 t/\Bd 40 d
noncomputable def mp (f g:Rat->Rat->Rat) (R:cK):cK:=R.map λq=>(f q.1 q.2.1,g q.1 q.2.1,q.2.2)
def Ln (_:W.Frag):Sp:=λe H Q _=>∃ (p q:Addr) (a b c d:Int),e=[.ref p,.ref q]/\Nm H p a b/\Nm H q c d/\Bd 1000 a/\Bd 1000 b/\Bd 1000 c/\Bd 1000 d/\Q (.bl (decide (a*d<c*b))) H
def HX (_:W.Frag):Sp:=λb H Q _=>∃ (p:Addr) (a:cM),b=[.ref p]/\H p=some (.tup a)/\Q (.int ((a.length:Int) - 1)) H
def EN (_:W.Frag):Sp:=λc H Q _=>∃ (p:Addr) (a:cO),c=[.ref p]/\H p=some (.lst (a.map V.int))/\a.length<=100/\∀ (r:Addr) (b:Hp),Same H b->Pl b r (a.map λn=>(n,1))->Q (.ref r) b
def J9 (_:W.Frag):Sp:=λc H Q _=>∃ v:V,c=[v]/\∀ (r:Addr) (b:cM) (a:Hp),Same H a->a r=some (.lst b)->Pts a b poolN->Q (.ref r) a
def Lo (_:W.Frag):Sp:=λe H Q _=>∃ (p a:Addr) (m r n:Int),e=[.ref p,.int m,.int r]/\Stt H p a n/\n<=80000/\0<=m/\m<=4/\0<=r/\r<=6/\∀ (f:Addr) (c:cM) (L:cE) (d:Int) (b:Hp),H f=none->b f=some (.lst c)->Pts b c L->(sm L:Int)<=r->(∀ q∈L,q∈poolN)->(L.map λq=>q.2).Nodup->(L.length:Int)<=m->d<=n+4->Stt b p a d->Kpa p a H b->Q (.ref f) b
def Lq (_:W.Frag):Sp:=λd H Q _=>∃ (p a:Addr) (n:Int),d=[.ref p]/\Stt H p a n/\n<=80000/\∀ (f:Addr) (c:cM) (L:cE) (b:Hp),H f=none->b f=some (.lst c)->Pts b c L->(∀ q∈L,q∈poolN)->(L.map λq=>q.2).Nodup->sm L<=7->L.length<=7->Stt b p a (n+2)->Kpa p a H b->Q (.ref f) b
def KA (_:W.Frag):Sp:=λe H Q _=>∃ (p a l:Addr) (c:cM) (L:cE) (n:Int),e=[.ref p,.ref l]/\Stt H p a n/\n<=80000/\H l=some (.lst c)/\Pts H c L/\(∀ q∈L,q.1<=3)/\L.length<=7/\l≠p/\l≠a/\∀ (t:Addr) (T B:cI) (d:Int) (b:Hp),FF b t T B->Rp 24 3 4 T B->d<=n+20->Stt b p a d->Kpa p a H b->Q (.ref t) b
def KC (_:W.Frag):Sp:=λa H Q _=>∃ (p:Addr) (x y:Int),a=[.ref p]/\Nm H p x y/\Q (.bl true) H
def Ih (_:W.Frag):Sp:=λb H Q _=>∃ (p:Addr) (l:cI),b=[.ref p]/\Pl H p l/\l.length<=100/\∀ a,Same H a->Q (.bl true) a
def Lr (_:W.Frag):Sp:=λb H Q _=>∃ (p:Addr) (T B:cI),b=[.ref p]/\FF H p T B/\T.length<=100/\B.length<=100/\∀ a,Same H a->Q (.bl true) a
def HY (_:W.Frag):Sp:=λc H Q _=>∃ (p:Addr) (b:cM) (L:cD),c=[.ref p]/\H p=some (.lst b)/\Lgs H b L/\LgO L/\Pz 1 L/\L.length<=7/\∀ (r:Addr) (M:cD) (a:Hp),Same H a->Lg a r M->Sr.Can (Sr.W (lv L)) (lv M)->Q (.ref r) a
def KD (_:W.Frag):Sp:=λc H Q _=>∃ (p:Addr) (b:cM) (L:cD),c=[.ref p]/\H p=some (.lst b)/\Lgs H b L/\LgO L/\Pz 0 L/\L.length<=15/\∀ (r:Addr) (M:cD) (a:Hp),Same H a->Lg a r M->Sr.Can (Sr.W (lv L)) (lv M)->Q (.ref r) a
structure Pts2 (R:cK):Prop where
 pr:Sr.Pr R
 sz:SzP R
 na:∀ q∈R,Nb q.1
 len:R.length<=7
def Ls (_:W.Frag):Sp:=λe H Q _=>∃ (l c w:Addr) (M:cD) (q:Nu) (v:cI) (R:cK),e=[.ref l,.ref c,.ref w]/\Lg H l M/\Sr.Can (Sr.wa R) (lv M)/\Pts2 R/\Nm H c q.1 q.2/\Low q.1 q.2/\Nb (val q)/\Pl H w v/\AV v/\Nz v/\sr v=Sr.Pi (λ_ b=>decide (b=val q)) R/\
 ∀ (r:Addr) (d:cD) (a:Hp),Same H a->Lg a r d->Sr.Can (Sr.wa (Sr.stp (val q) R)) (lv d)->Q (.ref r) a
def Lu (_:W.Frag):Sp:=λb H Q _=>∃ v:V,b=[v]/\∀ (r w:Addr) (a:Hp),Same H a->a r=some (.tup [v,.ref w])->Pl a w [(1,1)]->Q (.ref r) a
def KE (_:W.Frag):Sp:=λb H Q _=>∃ (c:Addr) (q:Nu),b=[.ref c]/\Nm H c q.1 q.2/\Low q.1 q.2/\Bd 40 q.1/\Bd 40 q.2/\∀ (r:Addr) (T B:cI) (a:Hp),Same H a->FF a r T B->Rp 42 1 1 T B->sr T*1=Sr.num (val q)*sr B->Q (.ref r) a
def Fo (H:Hp) (o:Addr) (b n m:Nat) (N D:Sr) (M:cD):Prop:=∃ f l T B,H o=some (.tup [.ref f,.ref l])/\FF H f T B/\Rp b n m T B/\(Sr.Pol N/\Sr.Pol D/\D≠0/\sr T*D=N*sr B)/\Lg H l M
def KF (_:W.Frag):Sp:=λh H Q _=>∃ (o p:Addr) (N D e c:Sr) (M f:cD) (R:cK),h=[.ref o,.ref p]/\Fo H o 80 4 4 N D M/\Fo H p 80 4 4 e c f/\Sr.Can (Sr.wa R) (lv M)/\Sr.Can (Sr.wa (mp (λ_ b=>b) (λa _=>a) R)) (lv f)/\Pts2 R/\(∀ q∈R,Nb q.2.1/\Nb (q.1+q.2.1))/\
 ∀ (r:Addr) (g:cD) (d:Hp),Same H d->Fo d r 170 8 8 (N*c+e*D) (D*c) g->Sr.Can (Sr.wa (mp (λa b=>a+b) (λ_ b=>b) R)) (lv g)->Q (.ref r) d
def KG (_:W.Frag):Sp:=λf H Q _=>∃ (o c:Addr) (N D:Sr) (M:cD) (q:Nu) (R:cK),f=[.ref o,.ref c]/\Fo H o 24 3 4 N D M/\Sr.Can (Sr.wa R) (lv M)/\Pts2 R/\Nm H c q.1 q.2/\Low q.1 q.2/\Bd 40 q.1/\Bd 40 q.2/\
 ∀ (r:Addr) (e:cD) (d:Hp),Same H d->Fo d r 80 4 4 (N*Sr.num (val q)) D e->Sr.Can (Sr.wa (mp (λa _=>a*val q) (λ_ b=>b) R)) (lv e)->Q (.ref r) d
def Lv (_:W.Frag):Sp:=λb H Q _=>∃ (p:Addr) (M:cD),b=[.ref p]/\Lg H p M/\(∀ q∈M,q.2.length<=100)/\∀ a,Same H a->Q (.bl true) a
def KH (_:W.Frag):Sp:=λc H Q _=>∃ (p:Addr) (b n m:Nat) (N D:Sr) (M:cD),c=[.ref p]/\Fo H p b n m N D M/\n<64/\m<64/\(∀ q∈M,q.2.length<=100)/\∀ a,Same H a->Q (.bl true) a
section
variable (K:W.Frag)
set_option linter.unusedVariables false
def PV (_:W.Frag):TS:=
 (AH (Dd (Aq (A_ ap (AA 1) (tC (.int 0)))) (AH (AM (A_ Nh (AA 0) (AA 1)) (AE 2))
  (AH (AM (AA 1) (AE 0))
  (AM (AA 2) (AE 1)))))
  (AX (J_ IA (AB (AA 0) AC))))
def PZ (_:W.Frag):TS:=
 (AH (AM (tC (.int 1)) (AE 2))
  (AH (AM (AA 0) (AE 3))
  (AH (Dd (Aq (A_ aP (AA 1) (tC (.int 0)))) (AH (BJ (Aq (A_ ad (A_ C5 (AA 1) (tC (.int 2))) (tC (.int 1)))) (EZ 2 (AA 3) BQ) BN)
  (AH (EZ 1 (tC (.int 2)) Hz)
  (BJ (Aq (A_ aP (AA 1) (tC (.int 0)))) (EZ 3 (AA 3) BQ) BN))))
  (AX (AA 2)))))
def Pa:TS:=
 (AH (AM (AJ (Ej K) [] E0 (AB (Ku (E8 (Bz K (AA 0)) [none] (AE 0) (Aq (A_ ap (AA 0) (tC (.int 0)))) (J_ IA (AB (AA 0) AC)))) (AB (AA 1) AC))) (AE 2))
  (AH (Bh (Bz K (AA 0)) (AE 3) (AH (BJ (Aq (A_ ad (AA 2) (tC (.int 1)))) (AX (tC (.int 1))) BN)
  (AM (AJ (Ej K) [] E0 (AB (AA 3) (AB (AA 2) AC))) (AE 2))))
  (AX (AA 2))))
def Pc (_:W.Frag):TS:=
 (AH (AM (J_ B8 (AB (AA 0) AC)) (AE 1))
  (AH (Dd (Dt (Aq (A_ aP (AA 1) (tC (.int 0)))) (Aq (A_ ad (A_ gL (AA 0) (A_ Br (AA 1) (tC (.int 1)))) (tC (.int 0))))) (EZ 1 (tC (.int 1)) Br))
  (AX (aM sL (AA 0) E5 (E6 (AA 1))))))
def Pd:TS:=
 (AX (BH (Bz K (AA 0)) [none,some 1] (AE 0) (A_ Fe (AA 0) (AA 1))))
def Pf:TS:=
 (AH (BJ (az (Dc (Eg (AA 0))) (Dc (Eg (AA 1)))) (AX (A9 AC)) BN)
  (AH (AM (A_ GS (A9 (AB (tC (.int 0)) AC)) (A_ Br (A_ CJ (J_ B8 (AB (AA 0) AC)) (J_ B8 (AB (AA 1) AC))) (tC (.int 1)))) (AE 2))
  (AH (Bh (HD K (AB (AA 0) AC)) (Ce 2 (BK (AE 3) (BK (AE 4) Cd))) (BJ (Aq (A_ ap (AA 4) (tC (.int 0)))) (Bh (HD K (AB (AA 1) AC)) (Ce 2 (BK (AE 5) (BK (AE 6) Cd))) (Gz (AA 2) (A_ CJ (AA 3) (AA 5)) (A_ BQ (AA 4) (AA 6)) gL CJ EG)) BN))
  (AX (AA 2)))))
def Ph (_:W.Frag):TS:=
 (BJ (Aq (A_ ap (AA 6) (tC (.int 0)))) (Bh (Eb (AB (AA 3) AC)) (AE 7) (Gz (AA 2) (A_ CJ (AA 5) (AA 7)) (A_ BQ (AA 6) (A_ gL (AA 1) (AA 7))) gL Br EG)) BN)
def ZU:TS:=
 (AH (AM (AA 6) (Du (AA 4) (AA 5) EG))
  (Ph K))
def Pj:TS:=
 (AH (BJ (Aq (A_ ap (A_ BQ (AA 6) (A_ gL (AA 1) (P_ BU (tC (.int 1))))) (A_ gL (AA 2) (A_ CJ (AA 5) (AA 3))))) (AX (tC .non)) BN)
  (ZU K))
def ZV:TS:=
 (AH (AM (A_ EI (A_ gL (AA 2) (A_ CJ (AA 5) (AA 3))) (A_ gL (AA 1) (P_ BU (tC (.int 1))))) (AE 6))
  (Pj K))
def ZW (_:W.Frag):TS:=
 (AX (aY (tB (J_ Kv (AB (aM sL (AA 2) E5 (E6 (AA 3))) AC))) (tC .non) (AA 4)))
def ZX:TS:=
 (AH (Bh (IE (AB (A_ Br (A_ Br (J_ B8 (AB (AA 0) AC)) (AA 3)) (tC (.int 1))) (AB (P_ BU (tC (.int 1))) (AB (P_ BU (tC (.int 1))) AC)))) (AE 5) (ZV K))
  (ZW K))
def Pk:TS:=
 (AH (AM (A_ GS (A9 (AB (tC (.int 0)) AC)) (J_ HB (AB (A_ Br (J_ B8 (AB (AA 0) AC)) (AA 3)) (AB (tC (.int 0)) AC)))) (AE 4))
  (ZX K))
def ZY:TS:=
 (AH (AM (A_ Br (J_ B8 (AB (AA 1) AC)) (tC (.int 1))) (AE 3))
  (Pk K))
def ZZ:TS:=
 (AH (AM (J_ JS (AB (AA 0) AC)) (AE 2))
  (ZY K))
def Pn:TS:=
 (AH (AM (BH (Bz K (AA 0)) [none,some 1] (AE 0) (A_ BQ (AA 1) (AA 0))) (AE 5))
  (AH (EY (aw K "list" Kk (AA 5) (AB (A_ GS (A9 (AB (tC (.int 0)) AC)) (A_ Br (A_ CJ (J_ B8 (AB (AA 2) AC)) (AA 4)) (J_ B8 (AB (AA 0) AC)))) AC)))
  (AH (Bh (HD K (AB (AA 2) AC)) (Ce 2 (BK (AE 6) (BK (AE 7) Cd))) (Gz (AA 5) (A_ CJ (AA 6) (AA 4)) (A_ BQ (AA 3) (AA 7)) gL Br EG))
  (AX (AJ (HP K) [] E0 (AB (AA 5) AC))))))
def Zb:TS:=
 (AM (BH (GT K (AB (AA 0) (AB (AA 1) AC))) [none,none,some 6,some 7,some 2] (Ce 2 (BK (AE 0) (BK (AE 1) Cd))) (AJ (IX K) [] E0 (AB (AA 0) (AB (AA 2) (AB (AA 1) (AB (AA 3) (AB (AA 4) AC))))))) (AE 0))
def Zc:TS:=
 (AH (AM (A_ EI (AA 3) (AA 5)) (AE 7))
  (Zb K))
def Zd:TS:=
 (AH (AM (A_ EI (AA 4) (AA 5)) (AE 6))
  (Zc K))
def Ze:TS:=
 (AH (AM (AJ (Ej K) [] E0 (AB (AA 3) (AB (AA 4) AC))) (AE 5))
  (Zd K))
def Zf:TS:=
 (AH (AM (A_ gL (A_ gL (AA 1) (tC (.int 0))) (P_ BU (tC (.int 1)))) (AE 4))
  (Ze K))
def Zg:TS:=
 (AH (AM (A_ gL (A_ gL (AA 0) (tC (.int 0))) (P_ BU (tC (.int 1)))) (AE 3))
  (Zf K))
def Zh:TS:=
 (AH (AM (A_ Br (J_ B8 (AB (A_ gL (AA 0) (tC (.int 0))) AC)) (J_ B8 (AB (A_ gL (AA 1) (tC (.int 0))) AC))) (AE 2))
  (Zg K))
def Po:TS:=
 (AX (AJ (IZ K) [] E0 (AB (AA 0) AC)))
def Pp:TS:=
 (AH (Dd (Aq (A_ ci (J_ B8 (AB (A_ gL (AA 0) (tC (.int 0))) AC)) (J_ B8 (AB (A_ gL (AA 1) (tC (.int 0))) AC)))) (Zh K))
  (Po K))
def Pq:TS:=
 (AH (AM (tC (.int 0)) (AE 1))
  (AH (Bh (Bz K (AA 0)) (AE 2) (AM (AJ (IV K) [] E0 (AB (AA 2) (AB (AA 1) AC))) (AE 1)))
  (AX (BH (Bz K (AA 0)) [none,some 1] (AE 0) (AJ (IW K) [] E0 (AB (AA 0) (AB (AA 1) AC)))))))
def Ps:TS:=
 (AX (A_ gL (AJ (IZ K) [] E0 (AB (A9 (AB (AA 0) AC)) AC)) (tC (.int 0))))
def Px:TS:=
 (AH (Dd (Eg (A_ gL (AA 1) (tC (.int 0)))) (AH (BJ (Aq (A_ ad (J_ B8 (AB (A_ gL (AA 1) (tC (.int 0))) AC)) (tC (.int 1)))) (AX (AA 1)) BN)
  (AH (AM (AJ (Jw K) [] E0 (AB (AA 0) (AB (AA 1) AC))) (AE 2))
  (AH (AM (AA 1) (AE 0))
  (AM (AA 2) (AE 1))))))
  (AX (AA 0)))
def P8 (_:W.Frag):TS:=
 (AM (AA 7) (AE 5))
def QA:TS:=
 (AH (AM (AA 5) (AE 4))
  (P8 K))
def QB:TS:=
 (AH (AM (A_ Br (AA 4) (A_ BQ (AA 6) (AA 5))) (AE 7))
  (QA K))
def QC:TS:=
 (AH (AM (AA 7) (AE 3))
  (QB K))
def QD:TS:=
 (AH (AM (AA 3) (AE 2))
  (QC K))
def QE:TS:=
 (AH (AM (A_ Br (AA 2) (A_ BQ (AA 6) (AA 3))) (AE 7))
  (QD K))
def QF:TS:=
 (AH (AM (A_ Fe (AA 2) (AA 3)) (AE 6))
  (QE K))
def QG (_:W.Frag):TS:=
 (AX (A_ C5 (AA 4) (AA 1)))
def QH:TS:=
 (AH (Dd (Aq (A_ ap (AA 3) (tC (.int 0)))) (QF K))
  (QG K))
def QJ:TS:=
 (AH (AM (tC (.int 1)) (AE 5))
  (QH K))
def QK:TS:=
 (AH (AM (tC (.int 0)) (AE 4))
  (QJ K))
def QL:TS:=
 (AH (AM (A_ C5 (AA 0) (AA 1)) (AE 3))
  (QK K))
def QM:TS:=
 (AH (AM (AA 1) (AE 2))
  (QL K))
def QN:TS:=
 (AX (BH (Bz K (AA 0)) [none,some 1] (AE 0) (A_ C5 (AA 0) (AA 1))))
def QO:TS:=
 (AX (AJ (HP K) [] E0 (AB (AJ (Jy K) [] E0 (AB (AA 0) (AB (AA 1) AC))) AC)))
def QP:TS:=
 (AH (BJ (Dc (Eg (AA 0))) (AX (A9 AC)) BN)
  (AH (AM (AJ (Jx K) [] E0 (AB (A_ gL (AA 0) (P_ BU (tC (.int 1)))) (AB (AA 1) AC))) (AE 2))
  (AX (BH (Bz K (AA 0)) [none,some 1,some 2] (AE 0) (A_ C5 (A_ BQ (AA 0) (AA 2)) (AA 1))))))
def QQ (_:W.Frag):TS:=
 (BJ (Aq (A_ ap (AA 7) (tC (.int 0)))) (Bh (Eb (AB (AA 4) AC)) (AE 8) (Gz (AA 3) (A_ CJ (AA 6) (AA 8)) (A_ BQ (AA 7) (A_ gL (AA 1) (AA 8))) gL Br EG)) BN)
def QR:TS:=
 (AH (AM (AA 7) (Du (AA 5) (AA 6) EG))
  (QQ K))
def Zi:TS:=
 (AH (AM (A_ C5 (A_ gL (AA 3) (A_ CJ (AA 6) (AA 4))) (AA 2)) (AE 7))
  (QR K))
def QS:TS:=
 (AX (Ai (AB (AJ (HP K) [] E0 (AB (AA 5) AC)) (AB (AJ (HR K) [] E0 (AB (aM sL (AA 3) E5 (E6 (AA 4))) (AB (AA 2) AC))) AC))))
def Zj:TS:=
 (AH (Bh (IE (AB (A_ Br (A_ Br (J_ B8 (AB (AA 0) AC)) (AA 4)) (tC (.int 1))) (AB (P_ BU (tC (.int 1))) (AB (P_ BU (tC (.int 1))) AC)))) (AE 6) (Zi K))
  (QS K))
def QT:TS:=
 (AH (AM (A_ GS (A9 (AB (tC (.int 0)) AC)) (J_ HB (AB (A_ Br (J_ B8 (AB (AA 0) AC)) (AA 4)) (AB (tC (.int 0)) AC)))) (AE 5))
  (Zj K))
def Zk:TS:=
 (AH (AM (A_ Br (J_ B8 (AB (AA 1) AC)) (tC (.int 1))) (AE 4))
  (QT K))
def Zl:TS:=
 (AH (AM (J_ JS (AB (AA 0) AC)) (AE 3))
  (Zk K))
def QU:TS:=
 (AX (A_ gT (AJ (Jz K) [] E0 (AB (AA 0) (AB (AA 1) (AB (AA 2) AC)))) (tC (.int 1))))
def QV:TS:=
 (AH (AM (AJ (HS K) [] E0 (AB (AJ (HR K) [] E0 (AB (AA 0) (AB (AA 2) AC))) (AB (AA 2) AC))) (AE 0))
  (AH (AM (AJ (HS K) [] E0 (AB (AJ (HR K) [] E0 (AB (AA 1) (AB (AA 2) AC))) (AB (AA 2) AC))) (AE 1))
  (AH (Dd (Eg (AA 1)) (AH (AM (AJ (J0 K) [] E0 (AB (AA 0) (AB (AA 1) (AB (AA 2) AC)))) (AE 3))
  (AH (AM (AA 1) (AE 0))
  (AM (AJ (HS K) [] E0 (AB (AA 3) (AB (AA 2) AC))) (AE 1)))))
  (AX (AA 0)))))
def QW (_:W.Frag):TS:=
 (AH (AM (A_ C5 (AA 0) (AA 1)) (AE 2))
  (AX (aY (Aq (A_ aP (A_ BQ (tC (.int 2)) (AA 2)) (AA 1))) (A_ Br (AA 2) (AA 1)) (AA 2))))
def QX:TS:=
 (AH (AM (AJ (Ej K) [] E0 (AB (A_ gL (AA 0) (P_ BU (tC (.int 1)))) (AB (A_ gL (AA 1) (P_ BU (tC (.int 1)))) AC))) (AE 3))
  (AH (BJ (Aq (A_ ad (A_ C5 (AA 3) (AA 2)) (tC (.int 0)))) (AX (tC .non)) BN)
  (AH (AM (AJ (J1 K) [] E0 (AB (AA 0) (AB (AA 1) (AB (AA 2) AC)))) (AE 4))
  (AH (AM (AJ (HQ K) [] E0 (AB (BH (Bz K (AA 4)) [none,some 2,some 3] (AE 0) (AJ (J2 K) [] E0 (AB (A_ BQ (AA 2) (AA 0)) (AB (AA 1) AC)))) AC)) (AE 5))
  (AH (BJ (az (Aq (A_ Kt (AJ (IY K) [] E0 (AB (AA 0) (AB (AA 5) AC))) (tC .non))) (Aq (A_ Kt (AJ (IY K) [] E0 (AB (AA 1) (AB (AA 5) AC))) (tC .non)))) (AX (tC .non)) BN)
  (AX (AA 5)))))))
def QY:TS:=
 (AH (AM (AJ (HQ K) [] E0 (AB (AA 0) AC)) (AE 2))
  (AH (AM (AJ (HQ K) [] E0 (AB (AA 1) AC)) (AE 3))
  (AH (BJ (Dt (Eg (AA 0)) (Eg (AA 1))) (Bh (DG K (tC (.ref (Ge K)))) (AE 4) (AH (AM (AJ (J3 K) [] E0 (AB (AA 2) (AB (AA 3) (AB (A_ Br (AJ (Jv K) [] E0 (AB (tC (.int 2)) (AB (AA 4) AC))) (tC (.int 1))) AC)))) (AE 5))
  (BJ (Aq (A_ Ny (AA 5) (tC .non))) (AX (AA 5)) BN))) BN)
  (AX (A_ gL (AJ (Ia K) [] E0 (AB (A9 (AB (AA 2) AC)) (AB (A9 (AB (AA 3) AC)) AC))) (tC (.int 0)))))))
def QZ:TS:=
 (AH (AM (AJ (Ej K) [] E0 (AB (AA 0) (AB (AA 1) AC))) (AE 2))
  (AH (BJ (Aq (A_ b7 (AA 1) (tC (.int 0)))) (AM (P_ BU (AA 2)) (AE 2)) BN)
  (AX (Ai (AB (A_ EI (AA 0) (AA 2)) (AB (A_ EI (AA 1) (AA 2)) AC))))))
def Qa:TS:=
 (AX (AJ (Ek K) [] E0 (AB (A_ CJ (A_ BQ (A_ gT (AA 0) (tC (.int 0))) (A_ gT (AA 1) (tC (.int 1)))) (A_ BQ (A_ gT (AA 1) (tC (.int 0))) (A_ gT (AA 0) (tC (.int 1))))) (AB (A_ BQ (A_ gT (AA 0) (tC (.int 1))) (A_ gT (AA 1) (tC (.int 1)))) AC))))
def Qb:TS:=
 (AX (AJ (Ek K) [] E0 (AB (A_ BQ (A_ gT (AA 0) (tC (.int 0))) (A_ gT (AA 1) (tC (.int 0)))) (AB (A_ BQ (A_ gT (AA 0) (tC (.int 1))) (A_ gT (AA 1) (tC (.int 1)))) AC))))
def Qc:TS:=
 (AX (AJ (Ek K) [] E0 (AB (A_ BQ (A_ gT (AA 0) (tC (.int 0))) (A_ gT (AA 1) (tC (.int 1)))) (AB (A_ BQ (A_ gT (AA 0) (tC (.int 1))) (A_ gT (AA 1) (tC (.int 0)))) AC))))
def Zm (_:W.Frag):TS:=
 (AX (A_ b7 (A_ BQ (A_ gT (AA 0) (tC (.int 0))) (A_ gT (AA 1) (tC (.int 1)))) (A_ BQ (A_ gT (AA 1) (tC (.int 0))) (A_ gT (AA 0) (tC (.int 1))))))
def Qe (_:W.Frag):TS:=
 (AH (AM (J_ B8 (AB (AA 0) AC)) (AE 1))
  (AH (Dd (Dt (Aq (A_ aP (AA 1) (tC (.int 0)))) (Aq (A_ ad (A_ gT (A_ gL (AA 0) (A_ Br (AA 1) (tC (.int 1)))) (tC (.int 0))) (tC (.int 0))))) (EZ 1 (tC (.int 1)) Br))
  (AX (J_ HE (AB (aM sL (AA 0) E5 (E6 (AA 1))) AC)))))
def Zn (_:W.Frag):TS:=
 (AX (A_ Br (J_ DR (AB (AA 0) AC)) (tC (.int 1))))
def Zo:TS:=
 (AH (AM (tC (.int 1)) (AE 1))
  (AH (Bh (IH K (AA 0)) (AE 2) (EZ 1 (A_ Fe (A_ gT (AA 2) (tC (.int 1))) (AJ (Ej K) [] E0 (AB (AA 1) (AB (A_ gT (AA 2) (tC (.int 1))) AC)))) BQ))
  (AX (Ai (AB (BH (IH K (AA 0)) [none,some 1] (AE 0) (A_ BQ (A_ gT (AA 0) (tC (.int 0))) (A_ Fe (AA 1) (A_ gT (AA 0) (tC (.int 1)))))) (AB (AA 1) AC))))))
def Qf:TS:=
 (AX (AJ (FI K) [] E0 (AB (BH (Bz K (AA 0)) [none,some 1] (AE 0) (AJ (Ek K) [] E0 (AB (AA 0) (AB (AA 1) AC)))) AC)))
def Qg (_:W.Frag):TS:=
 (AX (aY (Aq (A_ b7 (AA 1) (J_ DR (AB (AA 0) AC)))) (A_ gT (AA 0) (AA 1)) (Ai (AB (tC (.int 0)) (AB (tC (.int 1)) AC)))))
def Qh:TS:=
 (AX (AJ (FI K) [] E0 (AB (BH (Eb (AB (J_ HB (AB (J_ DR (AB (AA 0) AC)) (AB (J_ DR (AB (AA 1) AC)) AC))) AC)) [none,some 0,some 1] (AE 0) (AJ (HV K) [] E0 (AB (AJ (Id K) [] E0 (AB (AA 1) (AB (AA 0) AC))) (AB (AJ (Id K) [] E0 (AB (AA 2) (AB (AA 0) AC))) AC)))) AC)))
def Qi:TS:=
 (AH (AM (AJ (El K) [] E0 (AB (AA 0) AC)) (AE 2))
  (AH (AM (AJ (El K) [] E0 (AB (AA 1) AC)) (AE 3))
  (AX (AJ (HU K) [] E0 (AB (AJ (J7 K) [] E0 (AB (A_ gT (AA 2) (tC (.int 0))) (AB (A_ gT (AA 3) (tC (.int 0))) AC))) (AB (A_ BQ (A_ gT (AA 2) (tC (.int 1))) (A_ gT (AA 3) (tC (.int 1)))) AC))))))
def Qj:TS:=
 (AX (AJ (FI K) [] E0 (AB (BH (DG K (AA 0)) [none,some 1] (AE 0) (AJ (Ib K) [] E0 (AB (AA 0) (AB (AA 1) AC)))) AC)))
def Zp (_:W.Frag):TS:=
 (EZ 5 (AA 10) Fe)
def Zq:TS:=
 (AH (AM (AJ (IW K) [] E0 (AB (AA 4) (AB (AA 10) AC))) (AE 4))
  (Zp K))
def Qk:TS:=
 (AH (AM (AJ (IV K) [] E0 (AB (AA 4) (AB (AA 5) AC))) (AE 10))
  (Zq K))
def Zs:TS:=
 (AH (EZ 5 (A_ EI (AA 6) (AA 9)) BQ)
  (Qk K))
def Ql:TS:=
 (AH (AM (AJ (IX K) [] E0 (AB (AA 4) (AB (A_ EI (AA 6) (AA 9)) (AB (A_ gT (AA 3) (tC (.int 0))) (AB (A_ EI (A_ gL (AA 4) (P_ BU (tC (.int 1)))) (AA 9)) (AB (AA 8) AC)))))) (AE 4))
  (Zs K))
def Zu:TS:=
 (AH (AM (AJ (Ej K) [] E0 (AB (A_ gL (AA 4) (P_ BU (tC (.int 1)))) (AB (AA 6) AC))) (AE 9))
  (Ql K))
def Qm:TS:=
 (AH (AM (AJ (Ek K) [] E0 (AB (A_ BQ (A_ gL (AA 4) (P_ BU (tC (.int 1)))) (A_ gT (AA 3) (tC (.int 1)))) (AB (A_ BQ (AA 5) (AA 6)) AC))) (Du (AA 7) (AA 8) EG))
  (Zu K))
def Zv:TS:=
 (AH (AM (A_ Br (J_ B8 (AB (AA 4) AC)) (J_ DR (AB (AA 1) AC))) (AE 8))
  (Qm K))
def Qn:TS:=
 (AX (Ai (AB (AJ (FI K) [] E0 (AB (AA 7) AC)) (AB (AJ (HU K) [] E0 (AB (AA 4) (AB (AA 5) AC))) AC))))
def Zw:TS:=
 (AH (Dd (Aq (A_ ci (J_ B8 (AB (AA 4) AC)) (J_ DR (AB (AA 1) AC)))) (Zv K))
  (Qn K))
def Zx:TS:=
 (AH (AM (A_ GS (A9 (AB (Ai (AB (tC (.int 0)) (AB (tC (.int 1)) AC))) AC)) (J_ HB (AB (A_ CJ (A_ Br (J_ DR (AB (AA 0) AC)) (J_ DR (AB (AA 1) AC))) (tC (.int 1))) (AB (tC (.int 0)) AC)))) (AE 7))
  (Zw K))
def Zy:TS:=
 (AH (AM (A_ gL (A_ gT (AA 3) (tC (.int 0))) (P_ BU (tC (.int 1)))) (AE 6))
  (Zx K))
def Zz:TS:=
 (AH (AM (A_ gT (AA 2) (tC (.int 1))) (AE 5))
  (Zy K))
def Z3:TS:=
 (AH (AM (A_ gT (AA 2) (tC (.int 0))) (AE 4))
  (Zz K))
def Z4:TS:=
 (AH (AM (AJ (El K) [] E0 (AB (AA 1) AC)) (AE 3))
  (Z3 K))
def Z5:TS:=
 (AH (AM (AJ (El K) [] E0 (AB (AA 0) AC)) (AE 2))
  (Z4 K))
def Qo:TS:=
 (AH (AM (AJ (J4 K) [] E0 (AB (A_ gT (AJ (El K) [] E0 (AB (AA 0) AC)) (tC (.int 0))) (AB (A_ gT (AJ (El K) [] E0 (AB (AA 1) AC)) (tC (.int 0))) AC))) (AE 2))
  (AX (aY (Eg (AA 2)) (AJ (HU K) [] E0 (AB (AA 2) (AB (A_ gL (AA 2) (P_ BU (tC (.int 1)))) AC))) (Ai AC))))
def Qp:TS:=
 (AH (AM (AJ (Fq K) [] E0 (AB (AA 0) (AB (AA 1) AC))) (AE 2))
  (AX (AJ (J8 K) [] E0 (AB (AJ (D1 K) [] E0 (AB (AA 0) (AB (AA 2) AC))) (AB (AJ (D1 K) [] E0 (AB (AA 1) (AB (AA 2) AC))) AC)))))
def Qq:TS:=
 (AH (AM (AJ (J6 K) [] E0 (AB (Ai (AB (tC (.int 1)) (AB (tC (.int 1)) AC))) (AB (A_ gT (AA 1) (P_ BU (tC (.int 1)))) AC))) (AE 2))
  (AX (Ai (AB (AJ (Ic K) [] E0 (AB (AA 0) (AB (AA 2) AC))) (AB (AJ (Ic K) [] E0 (AB (AA 1) (AB (AA 2) AC))) AC)))))
def Qs:TS:=
 (AX (A_ gT (AJ (J5 K) [] E0 (AB (AA 0) (AB (AA 1) AC))) (tC (.int 0))))
def Z6 (_:W.Frag):TS:=
 (AX (Ai (AB (AA 0) (AB (Ai (AB (Ai (AB (tC (.int 1)) (AB (tC (.int 1)) AC))) AC)) AC))))
def Z7:TS:=
 (AX (AJ (Lu K) [] E0 (AB (AJ (FI K) [] E0 (AB (A9 (AB (AA 0) AC)) AC)) AC)))
def Z8:TS:=
 (AX (Ai (AB (AJ (D1 K) [] E0 (AB (AA 4) (AB (AA 5) AC))) (AB (AJ (D1 K) [] E0 (AB (AJ (Di K) [] E0 (AB (A_ gT (AA 0) (tC (.int 1))) (AB (AA 3) AC))) (AB (AA 5) AC))) AC))))
def Z9:TS:=
 (AH (AM (AJ (Fq K) [] E0 (AB (AA 4) (AB (AA 2) AC))) (AE 5))
  (Z8 K))
def zA:TS:=
 (AH (AM (AJ (Lk K) [] E0 (AB (AJ (Di K) [] E0 (AB (A_ gT (AA 0) (tC (.int 0))) (AB (AA 3) AC))) (AB (AJ (Di K) [] E0 (AB (A_ gT (AA 1) (tC (.int 0))) (AB (AJ (D1 K) [] E0 (AB (A_ gT (AA 0) (tC (.int 1))) (AB (AA 2) AC))) AC))) AC))) (AE 4))
  (Z9 K))
def zB:TS:=
 (AH (AM (AJ (D1 K) [] E0 (AB (A_ gT (AA 1) (tC (.int 1))) (AB (AA 2) AC))) (AE 3))
  (zA K))
def zC:TS:=
 (AH (AM (AJ (Fq K) [] E0 (AB (A_ gT (AA 0) (tC (.int 1))) (AB (A_ gT (AA 1) (tC (.int 1))) AC))) (AE 2))
  (zB K))
def Qt:TS:=
 (AX (Ai (AB (AJ (Di K) [] E0 (AB (A_ gT (AA 2) (tC (.int 0))) (AB (A_ gT (AA 3) (tC (.int 0))) AC))) (AB (AJ (Di K) [] E0 (AB (A_ gT (AA 2) (tC (.int 1))) (AB (A_ gT (AA 3) (tC (.int 1))) AC))) AC))))
def Qu:TS:=
 (AH (AM (AJ (HW K) [] E0 (AB (A_ gT (AA 1) (tC (.int 0))) (AB (A_ gT (AA 0) (tC (.int 1))) AC))) (AE 3))
  (Qt K))
def Qv:TS:=
 (AH (AM (AJ (HW K) [] E0 (AB (A_ gT (AA 0) (tC (.int 0))) (AB (A_ gT (AA 1) (tC (.int 1))) AC))) (AE 2))
  (Qu K))
def Qw:TS:=
 (EY (aw K "list" GP (AA 3) (AB (Ai (AB (AJ (HV K) [] E0 (AB (AA 5) (AB (AA 1) AC))) (AB (AA 7) AC))) AC)))
def Qx:TS:=
 (AH (EY (aw K "list" GP (AA 3) (AB (Ai (AB (AA 5) (AB (AJ (D1 K) [] E0 (AB (AA 6) (AB (AA 7) AC))) AC))) AC)))
  (Qw K))
def zD:TS:=
 (AH (AM (AJ (D1 K) [] E0 (AB (AA 4) (AB (AA 7) AC))) (AE 4))
  (Qx K))
def Qy:TS:=
 (AH (AM (AJ (Fq K) [] E0 (AB (AA 4) (AB (AA 6) AC))) (AE 7))
  (zD K))
def Qz:TS:=
 (AX (AJ (KD K) [] E0 (AB (A_ HA (AA 3) (A9 (AB (Ai (AB (AA 1) (AB (AA 4) AC))) AC))) AC)))
def zE:TS:=
 (AH (Bh (DG K (AA 0)) (Ce 2 (BK (AE 5) (BK (AE 6) Cd))) (Qy K))
  (Qz K))
def Q0:TS:=
 (AH (AM (AA 2) (AE 4))
  (zE K))
def zG:TS:=
 (AH (AM (A9 AC) (AE 3))
  (Q0 K))
def Q3:TS:=
 (AX (J_ HE (AB (BH (Bz K (OY (AB (AA 4) (AB (J_ Kz (AB (AA 1) AC)) AC)))) [none,none,some 1] (Ce 2 (BK (AE 0) (BK (AE 1) Cd))) (Ai (AB (AA 1) (AB (A_ gDT (AA 2) (AA 1)) AC)))) AC)))
def Q4:TS:=
 (AH (AM (A_ gT (AJ (El K) [] E0 (AB (J_ Kz (AB (AA 1) AC)) AC)) (tC (.int 0))) (AE 4))
  (Q3 K))
def zH:TS:=
 (AH (Bh (Bz K (AA 0)) (Ce 2 (BK (AE 2) (BK (AE 3) Cd))) (BJ (Dt (Aq (A_ ap (A_ gT (AA 2) (tC (.int 0))) (tC (.int 0)))) (Aq (A_ aP (AJ (HX K) [] E0 (AB (AA 3) AC)) (tC (.int 0))))) (AM (AJ (Di K) [] E0 (AB (aw K "dict" K2 (AA 1) (AB (AA 2) (AB (Ai (AB (Ai (AB (tC (.int 1)) (AB (tC (.int 1)) AC))) AC)) AC))) (AB (AA 3) AC))) (Du (AA 1) (AA 2) Jc)) BN))
  (Q4 K))
def zI:TS:=
 (AH (AM ON (AE 1))
  (zH K))
def Q5:TS:=
 (AX (Ai (AB (AJ (Ie K) [] E0 (AB (A_ gT (AA 0) (tC (.int 0))) (AB (A_ gT (AA 1) (tC (.int 0))) AC))) (AB (AA 2) AC))))
def Q6:TS:=
 (AH (Bh (DG K (A_ gT (AA 1) (tC (.int 1)))) (Ce 2 (BK (AE 3) (BK (AE 4) Cd))) (AM (AJ (Ls K) [] E0 (AB (AA 2) (AB (AA 3) (AB (AA 4) AC)))) (AE 2)))
  (Q5 K))
def zJ:TS:=
 (AH (AM (A_ gT (AA 0) (tC (.int 1))) (AE 2))
  (Q6 K))
def Q7:TS:=
 (AX (Ai (AB (AJ (Ig K) [] E0 (AB (A_ gT (AA 0) (tC (.int 0))) (AB (AJ (KE K) [] E0 (AB (AA 1) AC)) AC))) (AB (AJ (KD K) [] E0 (AB (AA 2) AC)) AC))))
def zK:TS:=
 (AH (AM (BH (DG K (A_ gT (AA 0) (tC (.int 1)))) [none,none,some 1] (Ce 2 (BK (AE 0) (BK (AE 1) Cd))) (Ai (AB (AJ (Ib K) [] E0 (AB (AA 0) (AB (AA 2) AC))) (AB (AA 1) AC)))) (AE 2))
  (Q7 K))
def zM (_:W.Frag):TS:=
 (AX (OC ["cells", "number", "digits", "at"] (AB (AA 3) (AB (AA 1) (AB (A_ ad (A_ C5 (AA 1) (tC (.int 2))) (tC (.int 0))) (AB (tC (.int 0)) AC))))))
def Q8:TS:=
 (AH (AM (BH (Bz K (aM (sS K) (AA 0) E5 (E6 (tC (.int 63))))) [none] (AE 0) (J_ IA (AB (AA 0) AC))) (AE 3))
  (zM K))
def zO:TS:=
 (AH (Bh (Bz K (aM (sS K) (AA 0) E5 (E6 (tC (.int 63))))) (AE 2) (AM (A_ C5 (A_ CJ (A_ CJ (A_ BQ (AA 1) (tC (.int 48271))) (A_ C5 (AA 2) (tC (.int 2147483647)))) (tC (.int 7))) (tC (.int 2147483629))) (AE 1)))
  (Q8 K))
def zP:TS:=
 (AH (AM (tC (.int 11)) (AE 1))
  (zO K))
def zQ (_:W.Frag):TS:=
 (AX (AA 2))
def zR:TS:=
 (AH (AM (J_ OK (AB (A_ gL (A_ gD (AA 0) (tC (.str "cells"))) (tC (.int 0))) (AB (AA 1) AC))) (Ce 2 (BK (Du (A_ gD (AA 0) (tC (.str "cells"))) (tC (.int 0)) EG) (BK (AE 2) Cd))))
  (zQ K))
def Q9:TS:=
 (AH (BJ (Aq (A_ ad (J_ B8 (AB (A_ gD (AA 0) (tC (.str "cells"))) AC)) (tC (.int 0)))) (AX (tC (.int 0))) BN)
  (zR K))
def zS:TS:=
 (AH (Dd (Dt (Aq (A_ aP (J_ B8 (AB (A_ gD (AA 0) (tC (.str "cells"))) AC)) (tC (.int 1)))) (Aq (A_ ad (A_ gL (A_ gD (AA 0) (tC (.str "cells"))) (tC (.int 0))) (tC (.int 0))))) (EY (aw K "list" OM (A_ gD (AA 0) (tC (.str "cells"))) (AB (tC (.int 0)) AC))))
  (Q9 K))
def zT (_:W.Frag):TS:=
 (AX (A_ C5 (A_ Hz (A_ gD (AA 0) (tC (.str "number"))) (tC (.int 97))) (AA 1)))
def zU:TS:=
 (AH (AM (A_ CJ (A_ C5 (A_ BQ (AA 3) (AA 3)) (tC (.int 2147483587))) (A_ gD (AA 0) (tC (.str "at")))) (Du (AA 0) (tC (.str "number")) Kx))
  (zT K))
def RA:TS:=
 (AH (AM (A_ C5 (A_ BQ (A_ CJ (A_ gD (AA 0) (tC (.str "number"))) (A_ BQ (tC (.int 7919)) (A_ gD (AA 0) (tC (.str "at"))))) (tC (.int 48271))) (tC (.int 2147483629))) (AE 3))
  (zU K))
def zV:TS:=
 (AH (BJ (tB (A_ gD (AA 0) (tC (.str "digits")))) (zS K) BN)
  (RA K))
def zW:TS:=
 (AH (AM (A_ CJ (A_ gD (AA 0) (tC (.str "at"))) (tC (.int 1))) (Du (AA 0) (tC (.str "at")) Kx))
  (zV K))
def RD:TS:=
 (AX (AJ (Ek K) [] E0 (AB (AA 1) (AB (A_ CJ (tC (.int 1)) (AJ (Dj K) [] E0 (AB (AA 0) (AB (tC (.int 3)) AC)))) AC))))
def zX:TS:=
 (AH (BJ (Aq (A_ ad (AJ (Dj K) [] E0 (AB (AA 0) (AB (tC (.int 12)) AC))) (tC (.int 11)))) (AM (A_ BQ (AA 1) (tC (.int 1009))) (AE 1)) BN)
  (RD K))
def zY:TS:=
 (AH (AM (A_ Br (AJ (Dj K) [] E0 (AB (AA 0) (AB (tC (.int 9)) AC))) (tC (.int 4))) (AE 1))
  (zX K))
def zZ:TS:=
 (AX (J_ HE (AB (BH (Bz K (AA 0)) [none] (AE 0) (Ai (AB (AA 0) (AB (tC (.int 1)) AC)))) AC)))
def yA (_:W.Frag):TS:=
 (AX (AA 3))
def RE:TS:=
 (AH (AM (A_ HA (AA 3) (BH (DG K (Ai (AB (A9 (AB (P_ BU (tC (.int 2))) (AB (tC (.int 0)) (AB (tC (.int 0)) (AB (tC (.int 1)) AC))))) (AB (A9 (AB (tC (.int 1)) (AB (tC (.int 1)) (AB (tC (.int 0)) (AB (tC (.int 1)) AC))))) (AB (A9 (AB (P_ BU (tC (.int 1))) (AB (P_ BU (tC (.int 1))) (AB (tC (.int 0)) (AB (tC (.int 1)) AC))))) AC))))) [none] (AE 0) (AJ (EN K) [] E0 (AB (AA 0) AC)))) (AE 3))
  (yA K))
def yB:TS:=
 (AH (AM (A_ HA (AA 1) (BH (Bz K (AA 2)) [none] (AE 0) (AJ (EN K) [] E0 (AB (AA 0) AC)))) (AE 3))
  (RE K))
def yC:TS:=
 (AH (AM (A9 (AB (A9 (AB (P_ BU (tC (.int 2))) (AB (tC (.int 0)) (AB (tC (.int 1)) AC)))) (AB (A9 (AB (tC (.int 1)) (AB (tC (.int 0)) (AB (tC (.int 1)) AC)))) (AB (A9 (AB (tC (.int 1)) (AB (tC (.int 1)) (AB (tC (.int 1)) AC)))) (AB (A9 (AB (P_ BU (tC (.int 3))) (AB (tC (.int 0)) (AB (tC (.int 1)) AC)))) (AB (A9 (AB (P_ BU (tC (.int 1))) (AB (tC (.int 1)) (AB (tC (.int 1)) AC)))) (AB (A9 (AB (tC (.int 2)) (AB (tC (.int 0)) (AB (tC (.int 1)) AC)))) (AB (A9 (AB (P_ BU (tC (.int 1))) (AB (tC (.int 2)) (AB (tC (.int 1)) AC)))) (AB (A9 (AB (tC (.int 3)) (AB (tC (.int 1)) (AB (tC (.int 1)) AC)))) AC))))))))) (AE 2))
  (yB K))
def yD:TS:=
 (AH (AM (A_ HA (BH (DG K (Ai (AB (tC (.int 0)) (AB (tC (.int 1)) (AB (P_ BU (tC (.int 1))) (AB (tC (.int 2)) (AB (P_ BU (tC (.int 2))) (AB (tC (.int 3)) AC)))))))) [none] (AE 0) (AJ (EN K) [] E0 (AB (A9 (AB (P_ BU (AA 0)) (AB (tC (.int 1)) AC))) AC))) (A9 (AB (Ai (AB (Ai (AB (tC (.int 1)) (AB (tC (.int 2)) AC))) (AB (Ai (AB (tC (.int 1)) (AB (tC (.int 1)) AC))) AC))) (AB (Ai (AB (Ai (AB (P_ BU (tC (.int 2))) (AB (tC (.int 3)) AC))) (AB (Ai (AB (tC (.int 1)) (AB (tC (.int 1)) AC))) AC))) AC)))) (AE 1))
  (yC K))
def yE:TS:=
 (AM (A_ Br (AA 5) (AJ (HX K) [] E0 (AB (A_ gL (AA 4) (P_ BU (tC (.int 1)))) AC))) (AE 5))
def yF:TS:=
 (AH (EY (aw K "list" GP (AA 4) (AB (A_ gL (AA 7) (AJ (Dj K) [] E0 (AB (AA 0) (AB (J_ B8 (AB (AA 7) AC)) AC)))) AC)))
  (yE K))
def yG:TS:=
 (BJ (Aq (A_ aQ (AA 7) (A9 AC))) (yF K) BN)
def yH:TS:=
 (AH (AM (E8 (Bz K (AA 3)) [none,some 5,some 4] (AE 0) (Dt (Aq (A_ iLe (AJ (HX K) [] E0 (AB (AA 0) AC)) (AA 1))) (Aq (A_ (inD true) (AA 0) (AA 2)))) (AA 0)) (AE 7))
  (yG K))
def yI (_:W.Frag):TS:=
 (AX (AA 4))
def yJ:TS:=
 (AH (Bh (Eb (AB (AA 1) AC)) (AE 6) (yH K))
  (yI K))
def yK:TS:=
 (AH (AM (AA 2) (AE 5))
  (yJ K))
def yL:TS:=
 (AH (AM (A9 AC) (AE 4))
  (yK K))
def yM:TS:=
 (AH (AM (AJ (J9 K) [] E0 (AB (AA 0) AC)) (AE 3))
  (yL K))
def yN:TS:=
 (AX (BH (Eb (AB (A_ CJ (tC (.int 6)) (AJ (Dj K) [] E0 (AB (AA 0) (AB (tC (.int 2)) AC)))) AC)) [none,some 1,some 2] (AE 0) (A_ gL (AA 1) (A_ C5 (A_ CJ (AA 2) (AA 0)) (tC (.int 8))))))
def yO:TS:=
 (AH (AM (AJ (Dj K) [] E0 (AB (AA 0) (AB (tC (.int 8)) AC))) (AE 2))
  (yN K))
def yP:TS:=
 (AH (AM (aM sL (AJ (J9 K) [] E0 (AB (AA 0) AC)) E5 (E6 (tC (.int 8)))) (AE 1))
  (yO K))
def Lx:TS:=
 (BJ (Dt (Aq (A_ b7 (AA 4) (J_ B8 (AB (AA 1) AC)))) (Aq (A_ eqD (A_ gT (A_ gL (AA 1) (AA 4)) (tC (.int 0))) (AA 2)))) (AM (Ai (AB (AA 2) (AB (AJ (Di K) [] E0 (AB (A_ gT (A_ gL (AA 1) (AA 4)) (tC (.int 1))) (AB (AA 3) AC))) AC))) (Du (AA 1) (AA 4) EG)) (BJ (Aq (A_ aQ (AA 2) (Ai (AB (tC (.int 0)) (AB (tC (.int 1)) AC))))) (EY (aw K "list" Ky (AA 1) (AB (AA 4) (AB (Ai (AB (AA 2) (AB (AA 3) AC))) AC)))) BN))
def yQ:TS:=
 (AH (Dd (Dt (Aq (A_ b7 (AA 4) (J_ B8 (AB (AA 1) AC)))) (tB (AJ (Ln K) [] E0 (AB (A_ gT (A_ gL (AA 1) (AA 4)) (tC (.int 0))) (AB (AA 2) AC))))) (AM (A_ CJ (AA 4) (tC (.int 1))) (AE 4)))
  (Lx K))
def RF:TS:=
 (AH (AM (tC (.int 0)) (AE 4))
  (yQ K))
def RG (_:W.Frag):TS:=
 (AX (J_ HE (AB (AA 1) AC)))
def RH:TS:=
 (AH (Bh (Bz K (AA 0)) (Ce 2 (BK (AE 2) (BK (AE 3) Cd))) (RF K))
  (RG K))
def yR:TS:=
 (AH (AM (A9 AC) (AE 1))
  (RH K))
def RI:TS:=
 (AX (AJ (HW K) [] E0 (AB (AJ (FI K) [] E0 (AB (AA 2) AC)) (AB (AA 3) AC))))
def RJ:TS:=
 (AH (BJ (Aq (A_ ad (AA 4) (tC (.int 3)))) (AM (AJ (EN K) [] E0 (AB (A9 (AB (P_ BU (tC (.int 3))) (AB (tC (.int 1)) AC))) AC)) (AE 3)) BN)
  (RI K))
def RK:TS:=
 (AH (BJ (Aq (A_ ad (AA 4) (tC (.int 2)))) (AM (AJ (Di K) [] E0 (AB (AJ (EN K) [] E0 (AB (A9 (AB (tC (.int 1)) (AB (tC (.int 1)) AC))) AC)) (AB (AJ (EN K) [] E0 (AB (A9 (AB (tC (.int 1)) (AB (tC (.int 1)) AC))) AC)) AC))) (AE 3)) BN)
  (RJ K))
def yS:TS:=
 (AH (BJ (Dt (Aq (A_ ad (AA 4) (tC (.int 1)))) (Aq (A_ aQ (AA 1) (A9 AC)))) (AM (A_ gL (AA 1) (tC (.int 0))) (AE 3)) BN)
  (RK K))
def yT:TS:=
 (AH (AM (AJ (Dj K) [] E0 (AB (AA 0) (AB (tC (.int 4)) AC))) (AE 4))
  (yS K))
def yU:TS:=
 (AH (AM (Ai (AB (Ai (AB (tC (.int 1)) (AB (tC (.int 1)) AC))) AC)) (AE 3))
  (yT K))
def yV:TS:=
 (AH (AM (BH (Eb (AB (A_ CJ (tC (.int 1)) (AJ (Dj K) [] E0 (AB (AA 0) (AB (tC (.int 3)) AC)))) AC)) [none,some 0] (AE 0) (AJ (Gf K) [] E0 (AB (AA 1) AC))) (AE 2))
  (yU K))
def yW:TS:=
 (AH (BJ (az (Dc (tB (J_ Ee (AB (AA 0) (AB (tC (.ty "tuple")) AC))))) (Aq (A_ ap (J_ DR (AB (AA 0) AC)) (tC (.int 2))))) (AX (tC (.bl false))) BN)
  (AH (Bh (DG K (AA 0)) (AE 1) (BJ (az (Dc (tB (J_ Ee (AB (AA 1) (AB (tC (.ty "int")) AC))))) (tB (J_ Ee (AB (AA 1) (AB (tC (.ty "bool")) AC))))) (AX (tC (.bl false))) BN))
  (AX (tC (.bl true)))))
def yX:TS:=
 (AX (E3 (J_ Ee (AB (AA 0) (AB (tC (.ty "tuple")) AC))) (J_ No (AB (BH (DG K (AA 0)) [none] (AE 0) (AJ (KC K) [] E0 (AB (AA 0) AC))) AC))))
def yY:TS:=
 (AX (E3 (J_ Ee (AB (AA 0) (AB (tC (.ty "tuple")) AC))) (E3 (A_ ad (J_ DR (AB (AA 0) AC)) (tC (.int 2))) (E3 (AJ (Ih K) [] E0 (AB (A_ gT (AA 0) (tC (.int 0))) AC)) (AJ (Ih K) [] E0 (AB (A_ gT (AA 0) (tC (.int 1))) AC))))))
def yZ:TS:=
 (AH (BJ (Dc (tB (J_ Ee (AB (AA 0) (AB (tC (.ty "tuple")) AC))))) (AX (tC (.bl false))) BN)
  (AH (Bh (DG K (AA 0)) (AE 1) (BJ (az (Dc (tB (J_ Ee (AB (AA 1) (AB (tC (.ty "tuple")) AC))))) (az (Aq (A_ ap (J_ DR (AB (AA 1) AC)) (tC (.int 2)))) (az (Dc (tB (AJ (KC K) [] E0 (AB (A_ gT (AA 1) (tC (.int 0))) AC)))) (Dc (tB (AJ (Ih K) [] E0 (AB (A_ gT (AA 1) (tC (.int 1))) AC))))))) (AX (tC (.bl false))) BN))
  (AX (tC (.bl true)))))
def xA:TS:=
 (AX (E3 (J_ Ee (AB (AA 0) (AB (tC (.ty "tuple")) AC))) (E3 (A_ ad (J_ DR (AB (AA 0) AC)) (tC (.int 2))) (E3 (AJ (Lr K) [] E0 (AB (A_ gT (AA 0) (tC (.int 0))) AC)) (AJ (Lv K) [] E0 (AB (A_ gT (AA 0) (tC (.int 1))) AC))))))
def RL:TS:=
 (EY (aw K "list" GP (AA 4) (AB (A_ gL (AA 6) (AJ (Dj K) [] E0 (AB (AA 1) (AB (tC (.int 4)) AC)))) AC)))
def RM:TS:=
 (AH (AM (A9 (AB (AJ (Gf K) [] E0 (AB (AA 1) AC)) (AB (Ai (AB (P_ BU (A_ gT (AA 5) (tC (.int 0)))) (AB (A_ gT (AA 5) (tC (.int 1))) AC))) (AB (Ai (AB (tC (.int 0)) (AB (tC (.int 1)) AC))) (AB (AA 5) AC))))) (AE 6))
  (RL K))
def xB (_:W.Frag):TS:=
 (AX (tC (.bl true)))
def RN:TS:=
 (AH (BJ (Aq (A_ aQ (AJ (KF K) [] E0 (AB (AA 9) (AB (AJ (KG K) [] E0 (AB (AA 9) (AB (Ai (AB (P_ BU (tC (.int 1))) (AB (tC (.int 1)) AC))) AC))) AC))) (Ai (AB (Ai (AB (Ai AC) (AB (Ai (AB (Ai (AB (tC (.int 1)) (AB (tC (.int 1)) AC))) AC)) AC))) (AB (Ai AC) AC))))) (AX (tC (.bl false))) BN)
  (xB K))
def RP:TS:=
 (AH (BJ (az (Dc (tB (AJ (KH K) [] E0 (AB (AA 12) AC)))) (Aq (A_ aQ (AA 12) (Ai (AB (AJ (Ig K) [] E0 (AB (AJ (KE K) [] E0 (AB (AA 13) AC)) (AB (AA 7) AC))) (AB (AJ (HY K) [] E0 (AB (AA 14) AC)) AC)))))) (AX (tC (.bl false))) BN)
  (RN K))
def RQ:TS:=
 (AH (AM (AJ (KG K) [] E0 (AB (AA 9) (AB (AA 13) AC))) (AE 12))
  (RP K))
def RT:TS:=
 (AH (AM (BH (GT K (AB (AA 3) (AB (AA 2) AC))) [none,none,some 13] (Ce 2 (BK (AE 0) (BK (AE 1) Cd))) (Ai (AB (AJ (Ib K) [] E0 (AB (AA 0) (AB (AA 2) AC))) (AB (AA 1) AC)))) (AE 14))
  (RQ K))
def RU:TS:=
 (AH (AM (AJ (Gf K) [] E0 (AB (AA 1) AC)) (AE 13))
  (RT K))
def RV:TS:=
 (AH (BJ (az (Dc (tB (AJ (KH K) [] E0 (AB (AA 12) AC)))) (Aq (A_ aQ (AA 12) (Ai (AB (AJ (Ie K) [] E0 (AB (AA 7) (AB (AA 8) AC))) (AB (AJ (HY K) [] E0 (AB (AA 11) AC)) AC)))))) (AX (tC (.bl false))) BN)
  (RU K))
def RW:TS:=
 (AH (AM (AJ (KF K) [] E0 (AB (AA 9) (AB (AA 10) AC))) (AE 12))
  (RV K))
def RX:TS:=
 (AH (AM (BH (LA K (AB (AA 3) (AB (AA 4) (AB (AA 2) AC)))) [none,none,none] (Ce 3 (BK (AE 0) (BK (AE 1) (BK (AE 2) Cd)))) (Ai (AB (AJ (HV K) [] E0 (AB (AA 0) (AB (AA 1) AC))) (AB (AA 2) AC)))) (AE 11))
  (RW K))
def RY:TS:=
 (AH (AM (Ai (AB (AA 8) (AB (AJ (HY K) [] E0 (AB (BH (GT K (AB (AA 4) (AB (AA 2) AC))) [none,none] (Ce 2 (BK (AE 0) (BK (AE 1) Cd))) (Ai (AB (AA 0) (AB (AA 1) AC)))) AC)) AC))) (AE 10))
  (RX K))
def Ra:TS:=
 (AH (AM (Ai (AB (AA 7) (AB (AJ (HY K) [] E0 (AB (BH (GT K (AB (AA 3) (AB (AA 2) AC))) [none,none] (Ce 2 (BK (AE 0) (BK (AE 1) Cd))) (Ai (AB (AA 0) (AB (AA 1) AC)))) AC)) AC))) (AE 9))
  (RY K))
def Rb:TS:=
 (AH (AM (AJ (KA K) [] E0 (AB (AA 1) (AB (AA 2) AC))) (AE 8))
  (Ra K))
def Rc:TS:=
 (AH (AM (AJ (KA K) [] E0 (AB (AA 1) (AB (AA 2) AC))) (AE 7))
  (Rb K))
def Re:TS:=
 (AH (Bh (Bz K (AA 3)) (AE 5) (RM K))
  (Rc K))
def xC:TS:=
 (AH (AM (A9 AC) (AE 4))
  (Re K))
def Rf:TS:=
 (AH (AM (BH (Bz K (AA 2)) [none,some 1] (AE 0) (AJ (Gf K) [] E0 (AB (AA 1) AC))) (AE 3))
  (xC K))
def Rg:TS:=
 (AH (BJ (Aq (A_ ad (AJ (Dj K) [] E0 (AB (AA 1) (AB (tC (.int 8)) AC))) (tC (.int 7)))) (AM (AJ (Lq K) [] E0 (AB (AA 1) AC)) (AE 2)) BN)
  (Rf K))
def Rh:TS:=
 (AH (AM (AJ (Lo K) [] E0 (AB (AA 1) (AB (tC (.int 4)) (AB (tC (.int 6)) AC)))) (AE 2))
  (Rg K))
def xD:TS:=
 (AH (AM (AJ (Lm K) [] E0 (AB (AA 0) AC)) (AE 1))
  (Rh K))
end
theorem xE {K:W.Frag} {H:Hp} {Q:VK} {E:XK} {a:Int} {b:Int} (c:b≠0) (d:∀ (p:Addr),H p=none->Q (.ref p) (upd H p (.tup [.int (Aw a b).1,.int (Aw a b).2]))):Ek K [.int a,.int b] H Q E:=⟨a,b,rfl,c,d⟩
theorem Ri {K:W.Frag} {H:Hp} {Q:VK} {E:XK} {p:Addr} {q:Addr} {xs:cM} {ys:cM} {l:cI} {m:cI} {b:Nat} {c:Nat} {e:Nat} {d:Nat} {N:Nat} (r:H p=some (.tup xs)) (u:H q=some (.tup ys)) (v:Nums H xs l) (w:Nums H ys m) (x:Gq b c l) (y:Gq b c m) (z:b<=200000) (A:c<=200000) (B:l.length<=60) (a:m.length<=60) (f:(l≠[]->m≠[]->Fp e (AR l)/\Fp e (AR m))) (h:l.length+m.length<2 ^ (d+1)) (i:l.length+m.length<=N+2) (j:2<=N) (k:(e+d+2)*N<=44490) (n:(l=[]->m=[]->Fm H Q [])) (o:((l≠[]\/m≠[])->∀ g,RC (co (AR l)) (co (AR m)) g->Prim g->Fm H Q (G_ g))):Fq K [.ref p,.ref q] H Q E:=⟨p,q,xs,ys,l,m,b,c,e,d,N,rfl,r,u,v,w,x,y,z,A,B,a,f,h,i,j,k,n,o⟩
theorem Ly {K:W.Frag} {H:Hp} {Q:VK} {E:XK} {p:Addr} {q:Addr} {xs:cM} {ys:cM} {l:cI} {m:cI} {b:Nat} {c:Nat} {d:Nat} {e:Nat} (j:H p=some (.tup xs)) (n:H q=some (.tup ys)) (o:Nums H xs l) (u:Nums H ys m) (v:Gq b c l) (w:Gq d e m) (x:l.length<=100) (y:m.length<=100) (z:b<=300000) (a:c<=300000) (f:d<=300000) (g:e<=300000) (h:∀ (r:Addr) (R:cI) (i:Hp),Same H i->Pl i r R->Gq (b+d+l.length) (c+e) R->R.length<=l.length+m.length - 1->(∀ k,B_ R k=cv (B_ l) (B_ m) l.length k)->Q (.ref r) i):Di K [.ref p,.ref q] H Q E:=⟨p,q,xs,ys,l,m,b,c,d,e,rfl,j,n,o,u,v,w,x,y,z,a,f,g,h⟩
theorem KI {K:W.Frag} {H:Hp} {Q:VK} {E:XK} {p:Addr} {q:Addr} {xs:cM} {ys:cM} {l:cI} {m:cI} {b:Nat} {c:Nat} {d:Nat} {e:Nat} (o:H p=some (.tup xs)) (u:H q=some (.tup ys)) (v:Nums H xs l) (w:Nums H ys m) (x:Gq b c l) (y:Gq d e m) (z:m≠[]) (A:l.length<=100) (B:m.length<=100) (a:c+(l.length+1 - m.length)*d<=400000) (f:b+(l.length+1 - m.length)*(d+1)+e<=900000) (g:e<=400000) (h:d<=400000) (i:MR (B_ m) (B_ l)) (j:∀ (r:Addr) (R:cI) (n:Hp),Same H n->Pl n r R->AV R->Nz R->R.length<=l.length+1 - m.length->(∀ k,B_ l k=cv (B_ R) (B_ m) R.length k)->Q (.ref r) n):D1 K [.ref p,.ref q] H Q E:=⟨p,q,xs,ys,l,m,b,c,d,e,rfl,o,u,v,w,x,y,z,A,B,a,f,g,h,i,j⟩
theorem xF {f:Nu->Nu->Nu} {s:Rat} {K:W.Frag} {H:Hp} {Q:VK} {E:XK} {p:Addr} {q:Addr} {xs:cM} {ys:cM} {l:cI} {m:cI} {M:Int} {b:Nat} {c:Nat} (o:H p=some (.tup xs)) (u:H q=some (.tup ys)) (v:Nums H xs l) (w:Nums H ys m) (x:AV l) (y:AV m) (A:Ov l M) (B:Ov m M) (C:Bd c M) (a:(∀ z∈O' l M,Bd b z)) (d:(∀ z∈O' m M,Bd b z)) (e:b<=300000) (g:c<=300000) (h:l.length<=100) (i:m.length<=100) (j:∀ (r:Addr) (R:cI) (n:Hp),Same H n->Pl n r R->Gq (b+1) c R->R.length<=max l.length m.length->(∀ k,B_ R k=B_ l k+s*B_ m k)->Q (.ref r) n):Lj f s K [.ref p,.ref q] H Q E:=⟨p,q,xs,ys,l,m,M,b,c,rfl,o,u,v,w,x,y,A,B,C,a,d,e,g,h,i,j⟩
theorem Em {K:W.Frag} {H:Hp} {Q:VK} {E:XK} {p:Addr} {a:Addr} {m:Int} {n:Int} (c:Stt H p a n) (e:n<=100000) (f:1<=m) (g:m<=100) (h:∀ (d:Int) (b:Hp),0<=d->d<m->Stt b p a (n+1)->Kpa p a H b->Q (.int d) b):Dj K [.ref p,.int m] H Q E:=⟨p,a,m,n,rfl,c,e,f,g,h⟩
theorem KJ {K:W.Frag} {H:Hp} {Q:VK} {E:XK} {p:Addr} {a:Addr} {n:Int} (c:Stt H p a n) (e:n<=90000) (f:∀ (r:Addr) (t d:Int) (b:Hp),Nm b r t d->Low t d->t.natAbs<=4036->d<=3->Stt b p a (n+3)->Kpa p a H b->Q (.ref r) b):Gf K [.ref p] H Q E:=⟨p,a,n,rfl,c,e,f⟩
variable {K:W.Frag} {vs:cM} {H:Hp} {Q:VK} {E:XK}
local macro_rules | `(tactic| rwa [$[$t:term],*]) => do
 let l : Array Lean.Term := (("AH AM AJ AB AA AC AE Du L2.start BJ aY Aq L2.tB A_ aa rI L2.tC P_ rU BN AX Ai A9 UQ EZ EY J_ Ud Dt az Dc E3 UL UM ad ap EG CJ Br BQ Hz WM C5 Nh WN b7 iLe aP ci BU gT gL gS IA HB WO WP DR B8 WQ Ee WR WS WT eqT WU WV WW WX List.map_cons List.map_nil List.length_cons List.length_nil List.replicate List.cons_append List.nil_append List.append_nil List.getElem?_cons_zero List.getElem?_cons_succ Option.some.injEq exists_eq_left' exists_eq_left V.int.injEq V.bl.injEq V.ref.injEq V.ty.injEq HO.tup.injEq HO.lst.injEq List.cons.injEq and_true true_and and_assoc exists_and_left List.set_cons_zero List.set_cons_succ decide_eq_true_eq decide_eq_false_iff_not Bool.not_eq_true' Bool.true_eq_false Bool.false_eq_true Bool.not_true Bool.not_false if_true if_false ite_true ite_false Wd We WY WZ Wa Wb Wc Wf Wg Nat.zero_add Nat.reduceAdd Nat.reduceSub upd_same Int.cast_ofNat_Int decide_true decide_false eq_self not_true_eq_false not_false_eq_true Int.natCast_add Int.natCast_zero reduceCtorEq Nm Ce BK Cd Gz aM E5 E6 sL sT HE XC JS Eg XB GS HA GP Kk U8 aw U6 W3 W4 W5 W7 XM XJ W6 XG Ku N8 Kv Kt Ny Fe EI N6 JX CS Option.bind_some Option.bind_none Option.bind Option.join id_eq sS XX XZ Ej Jv HP IV IW IX IY IZ HQ Jw Ia Jx Jy HR HS Jz J0 J1 J2 J3 J4 Ek FI HU Fq Li J5 J6 J7 Di Ic D1 Id Lj J8 HW".splitOn " ").map λs => (⟨(Lean.mkIdent s.toName).raw⟩ : Lean.Term)).toArray
 `(tactic| simp only [$[$(l ++ t):term],*])
theorem DV {a b:Int} (c:Bd 60000000 a) (d:Bd 60000000 b):IntMulOk a b:=XY c d ∅
theorem xG (h:Ej K vs H Q E):PV K { nx:=λ_ d=>Q .non d,rt:=Q } (L2.start ["one","other","rest"] vs) H:=by
 obtain ⟨a,b,rfl,q⟩:=h;unfold PV;rwa [];refine EH (λm f d=>∃ (x y:Int) (r:cN),f=[some (.int x),some (.int y),r]/\d=H/\Int.gcd x y=Int.gcd a b/\m=y.natAbs) b.natAbs ⟨a,b,none,rfl,rfl,rfl,rfl⟩ ?_;rintro m f d ⟨x,y,r,rfl,rfl,g,rfl⟩;rwa [];refine Am (λc=>?_) (λc=>?_)
 ·refine ⟨λi j=>∃ k,k<y.natAbs/\_,λ_ _ h=>h,?_⟩;refine ⟨c,_,WJ x c,y,x.fmod y,_,rfl,rfl,?_,rfl⟩;rw [Nf];exact g
 ·have n:y=0:=Decidable.not_not.mp c;subst n
  have e:(if x<0 then -x else x)=((Int.gcd a b:Nat):Int):=by
   rw [<-g,Int.gcd_zero_right];split <;> omega
  rw [e];exact q
theorem xH (h:Jv K vs H Q E):PZ K { nx:=λ_ f=>Q .non f,rt:=Q } (L2.start ["whole","n","result","square"] vs) H:=by
 obtain ⟨x,n,b,rfl,J,B,L,q⟩:=h;unfold PZ;rwa []
 have p:∀ k:Nat,k<=n.toNat->Bd 60000000 (x ^ k):=λk hk=>(B.pow k).mono (by
  have:=EV b hk;omega)
 refine EH (λm A f=>∃ r s:Nat,A=[some (.int x),some (.int (m:Int)),some (.int (x ^ r)),some (.int (x ^ s))]/\f=H/\r+s*m=n.toNat) n.toNat ⟨0,1,?_,rfl,⋯⟩ ?_
 ·have e:((n.toNat:Nat):Int)=n:=by omega
  rw [e,Int.pow_zero,show x ^ 1=x by rw [Int.pow_succ,Int.pow_zero,Int.one_mul]]
 rintro m A f ⟨r,s,rfl,rfl,M⟩;rwa [];refine Am (λc=>?_) (λc=>?_)
 ·have C:1<=m:=by omega
  have N:s<=s*m:=Nat.le_mul_of_pos_right s C;have D:Kn (m:Int) 2:=⟨∅,(Nd ∅ ∅).mono ∅⟩
  have i:s*m=(s+s)*(m / 2)+s*(m % 2):=by
   have e:m=2*(m / 2)+m % 2:=(Nat.div_add_mod m 2).symm;generalize m / 2=u at e ⊢;generalize m % 2=v at e ⊢;subst e;rw [Nat.mul_add];congr 1;rw [<-Nat.mul_assoc,DP s 2];congr 1;omega
  have F:((m:Int) / 2)=((m / 2:Nat):Int):=by omega
  rw [F];refine ⟨λG I=>∃ d,d<m/\_,λ_ _ h=>h,?_⟩
  have j:∀ g:Nat,g+(s+s)*(m / 2)=n.toNat->Kn (m:Int) 2/\if 0<((m / 2:Nat):Int) then IntMulOk (x ^ s) (x ^ s)/\∃ d,d<m/\∃ r a,[some (V.int x),some (V.int ((m / 2:Nat):Int)),some (V.int (x ^ g)),some (V.int (x ^ s*x ^ s))]=[some (V.int x),some (V.int (d:Int)),some (V.int (x ^ r)),some (V.int (x ^ a))]/\f=f/\r+a*d=n.toNat
    else ∃ d,d<m/\∃ r a,[some (V.int x),some (V.int ((m / 2:Nat):Int)),some (V.int (x ^ g)),some (V.int (x ^ s))]=[some (V.int x),some (V.int (d:Int)),some (V.int (x ^ r)),some (V.int (x ^ a))]/\f=f/\r+a*d=n.toNat:=λg o=>by
   refine ⟨D,Am (λw=>?_) (λw=>?_)⟩
   ·exact ⟨DV (p s ⋯) (p s ⋯),m / 2,⋯,g,s+s,by rw [Int.pow_add],rfl,o⟩
   ·have z:m / 2=0:=by omega
    rw [z] at o ⊢;exact ⟨0,⋯,g,s,rfl,rfl,⋯⟩
  refine ⟨∅,Am (λw=>⟨DV (p r ⋯) (p s ⋯),?_⟩) (λw=>?_)⟩
  ·rw [<-Int.pow_add];have y:m % 2=1:=by omega
   rw [y] at i;exact j (r+s) ⋯
  ·have y:m % 2=0:=by omega
   rw [y] at i;exact j r ⋯
 ·have z:m=0:=by omega
  subst z;have e:r=n.toNat:=by omega
  subst e;exact q
theorem Rj {H:Hp} {Q:VK} {xs:cM} {l:cI} {m:Nat} (a:Nums H xs l) (b:m<=l.length) (e:B3 l l.length=m) (q:Fm H Q (trim l)) :
  ∀ (p:Addr),H p=none->∀ (r:Addr),upd H p (.lst (CQ xs none (some (m:Int)))) r=none->Q (V.ref r) (upd (upd H p (.lst (CQ xs none (some (m:Int))))) r (.tup (CQ xs none (some (m:Int))))):=λp hp r c=>by
 have s:=(AL hp (.lst (CQ xs none (some (m:Int))))).trans (AL c (.tup (CQ xs none (some (m:Int)))));refine q r _ _ s upd_same ?_;rw [Jq (by rw [a.length];exact b)];rw [Jq (by rw [a.length];exact b)] at s;unfold trim;rw [e];exact (a.take m).tp (C' s)
theorem xJ (l:cI) (m:Nat):B3 l (m+1)=if (l.getD m (1,1)).1=0 then B3 l m else m+1:=rfl
theorem xK (h:FI K vs H Q E):Qe K { nx:=λ_ b=>Q .non b,rt:=Q } (L2.start ["row","many"] vs) H:=by
 obtain ⟨p,n,l,rfl,hp,d,A,q⟩:=h;unfold Qe;rwa [hp];have o:=d.length;refine EH (λm g b=>g=[some (.ref p),some (.int (m:Int))]/\b=H/\B3 l m=B3 l l.length/\m<=l.length) n.length ⟨rfl,rfl,by rw [o],⋯⟩ ?_;rintro m g b ⟨rfl,rfl,a,j⟩;rwa [hp];refine Am (λc=>?_) (λc=>?_)
 ·obtain ⟨k,rfl⟩:∃ k,m=k+1:=⟨m - 1,⋯⟩;obtain ⟨v,r,u,rfl,e⟩:=d.at (i:=k) ⋯ (1,1);rw [xJ] at a;refine ⟨_,Ck ⋯ r,u,rfl,_,e,_,rfl,rfl,Am (λf=>?_) (λf=>?_)⟩
  ·have z:(l.getD k (1,1)).1=0:=by injection f
   rw [qU z] at a;exact ⟨λw x=>∃ y,y<k+1/\_,λ_ _ h=>h,k,⋯,by rw [show ((k+1:Nat):Int) - 1=(k:Int) by omega],rfl,a,⋯⟩
  ·have z:(l.getD k (1,1)).1≠0:=λz=>f (by rw [z]);rw [qT z] at a;exact Rj d j a.symm q
 ·have z:m=0:=by omega
  subst z;exact Rj d j a.symm q
theorem xL {l:cI} {i:Nat} {q:Nu} (h:l[i]?=some q):(l.take (i+1)).foldl (λB q=>B*(q.2 / ((Int.gcd B q.2:Nat):Int))) 1=(l.take i).foldl (λB q=>B*(q.2 / ((Int.gcd B q.2:Nat):Int))) 1*(q.2 / ((Int.gcd ((l.take i).foldl (λB q=>B*(q.2 / ((Int.gcd B q.2:Nat):Int))) 1) q.2:Nat):Int)):=by
 rw [List.take_add_one,h,List.foldl_append];rfl
theorem HZ {a b:Type} {l:List a} {i:Nat} {q:a} (f:a->b) (h:l[i]?=some q):(l.take (i+1)).map f=(l.take i).map f++[f q]:=by
 rw [List.take_add_one,h,Bq];rfl
theorem xM (a b:Nat):(if (b:Int) > (a:Int) then (b:Int) else (a:Int)).toNat=max a b:=by split <;> omega
theorem xN {a:Type} (f:Nat->a) (i:Nat):(List.range (i+1)).map f=(List.range i).map f++[f i]:=by rw [List.range_succ,Bq];rfl
theorem Dk (n:Nat) (f:d7):(A3 n f).length=n:=by unfold A3;rw [AG,AG,Bj]
theorem DW {n k:Nat} (f:d7) (h:k<n):(A3 n f)[k]?=some (.int (f k)):=by
 unfold A3;rw [Ac,Ac,EB h];rfl
theorem Hb {n k:Nat} {f g:d7} {z:Int} (h:k<n) (b:g k=z) (c:∀ i,i<n->i≠k->g i=f i):(A3 n f).set k (.int z)=A3 n g:=by
 apply FP;intro i;by_cases a:i<n
 ·by_cases e:i=k
  ·subst e;rw [List.getElem?_set_self (by rw [Dk];exact a),DW g a,b]
  ·rw [List.getElem?_set_ne (λz=>e z.symm),DW f a,DW g a,c i a e]
 ·rw [Bx (by rw [List.length_set,Dk];omega),Bx (by rw [Dk];omega)]
theorem Ii {n:Nat} {f g:d7} (h:∀ i,i<n->g i=f i):A3 n f=A3 n g:=by
 apply FP;intro i;by_cases a:i<n
 ·rw [DW f a,DW g a,h i a]
 ·rw [Bx (by rw [Dk];omega),Bx (by rw [Dk];omega)]
theorem L5 (n:Nat):(List.replicate n [V.int 0]).flatten=A3 n λ_=>0:=by
 rw [Jo];apply FP;intro i;by_cases a:i<n
 ·rw [DW _ a,FN,qU a]
 ·rw [FN,qT a,Bx (by rw [Dk];omega)]
theorem FJ {n k:Nat} {i:Int} (e:i=(k:Int)) (h:k<n):ai n i=some k:=by
 subst e;unfold ai;rw [qU ⋯,qU ⋯];simp
theorem Pl.same {H c:Hp} {r:Addr} {L:cI} (h:Pl H r L) (s:Same H c):Pl c r L:=let ⟨d,a,b⟩:=h;⟨d,s _ _ a,b.tp (C' s)⟩
theorem Pl.tp {H c:Hp} {r:Addr} {L:cI} (h:Pl H r L) (s:Tp H c):Pl c r L:=let ⟨d,a,b⟩:=h;⟨d,s _ _ a,b.tp s⟩
theorem Rk {m n:Nat} {x y:Int} (a:Bd m x) (b:Bd n y) (c:m<=60000000:=by decide) (d:n<=60000000:=by decide):IntMulOk x y:=DV (a.mono c) (b.mono d)
theorem Ij (a:cO) (m:Nat):DA a (m+1)=if a.getD m 1=0 then DA a m else m+1:=rfl
theorem xO (h:HP K vs H Q E):Pc K { nx:=λ_ d=>Q .non d,rt:=Q } (L2.start ["row","many"] vs) H:=by
 obtain ⟨p,a,rfl,hp,q⟩:=h;unfold Pc;rwa [hp]
 have b:∀ m:Nat,m<=a.length->DA a m=DA a a.length->DA a m=m->∀ r,H r=none->Q (V.ref r) (upd H r (.lst (CQ (a.map V.int) none (some (m:Int))))):=λm j n o r u=>by
  rw [Jq (by rw [AG];exact j),<-List.map_take,<-o,n];exact q r u
 refine EH (λm g d=>g=[some (.ref p),some (.int (m:Int))]/\d=H/\DA a m=DA a a.length/\m<=a.length) a.length ⟨by rw [AG],rfl,rfl,AO _⟩ ?_;rintro m g d ⟨rfl,rfl,e,i⟩;rwa [hp];refine Am (λc=>?_) (λc=>?_)
 ·obtain ⟨k,rfl⟩:∃ k,m=k+1:=⟨m - 1,⋯⟩
  have v:(a.map V.int)[k]?=some (V.int (a.getD k 1)):=by
   rw [Ac,Aj ⋯,AT,Aj ⋯];rfl
  refine ⟨_,Ck ⋯ v,rfl,Am (λf=>?_) (λf=>?_)⟩
  ·have z:a.getD k 1=0:=by injection f
   rw [Ij,qU z] at e;exact ⟨λw x=>∃ y,y<k+1/\_,λ_ _ h=>h,k,⋯,by rw [show ((k+1:Nat):Int) - 1=(k:Int) by omega],rfl,e,⋯⟩
  ·have z:a.getD k 1≠0:=λz=>f (by rw [z]);exact b (k+1) i e (by rw [Ij,qT z])
 ·have z:m=0:=by omega
  subst z;exact b 0 i e rfl
theorem L6 (a:cO):∀ m,DA a m<=m
 | 0=>AO 0
 | m+1=>by
   rw [Ij];split
   ·exact Nat.le_succ_of_le (L6 a m)
   ·exact AO _
theorem L7 {a:cO}:(Cw a).length=DA a a.length:=by
 unfold Cw;rw [CC,Nat.min_eq_left (L6 a a.length)]
theorem Rl {c:cO} (k:Nat):(Cw c).getD k 0=c.getD k 0:=by
 have i:∀ (m:Nat),m<=c.length->(∀ j,m<=j->j<c.length->c.getD j 0=0)->∀ j,DA c m<=j->j<c.length->c.getD j 0=0:=by
  intro m
  induction m with
  | zero=>intro _ h j n d;exact h j ⋯ d
  | succ m o=>
    intro p h j f g;rw [Ij] at f;split at f
    ·rename_i z;refine o ⋯ (λj n d=>?_) j f g;by_cases e:j=m
     ·subst e;rw [AT,Aj d] at z ⊢;exact z
     ·exact h j ⋯ d
    ·exact h j f g
 by_cases f:k<DA c c.length
 ·unfold Cw;rw [AT,AT,List.getElem?_take_of_lt f]
 ·have e:(Cw c).getD k 0=0:=by
   rw [AT,Bx (by rw [L7];omega)];rfl
  rw [e];by_cases g:k<c.length
  ·exact (i c.length (AO _) (λj a b=>absurd b ⋯) k ⋯ g).symm
  ·rw [AT,Bx ⋯];rfl
theorem L8 {n:Nat} {z g:Int} (h:g∣z) (b:Bd n z):Bd n (z / g):=by
 by_cases a:z=0
 ·rw [a,Int.zero_ediv];exact Dg n
 ·exact Dh a (Int.ediv_dvd_of_dvd h) b
theorem Rm {z g:Int} (a:g≠0) (h:g∣z):((z / g:Int):Rat)=(z:Rat) / (g:Rat):=by
 obtain ⟨y,rfl⟩:=h;rw [FQ _ a];have:=Au a;push_cast;ext
theorem Rn {a:cO} {g:Int} (h:∀ z∈a,g∣z) (k:Nat):g∣a.getD k 0:=by
 rw [AT];cases e:a[k]? with
 | none=>exact Cq g
 | some z=>exact h z (Ay e)
theorem L9 {m:cI} (b:AV m) (f:Nz m) (h:1<=m.length):(AR m).getD (m.length - 1) 0≠0:=by
 rw [Ji,Ox];have a:m.length - 1<m.length:=by omega
 have q:=f m[m.length - 1] (by rw [Gv];exact Aj a);have e:Aa m (m.length - 1)=m[m.length - 1]:=by unfold Aa;rw [AT,Aj a];rfl
 rw [e];refine By q ?_;have o:=B9 b;have d:=o.2 m[m.length - 1] (Dq a);obtain ⟨y,c⟩:=d;have g:=(b m[m.length - 1] (Dq a)).pos;rw [c,FQ _ (AW g)];intro z;rw [z,Int.mul_zero] at c;have:=o.1;omega
theorem atI_last {xs:cM} {v:V} (h:1<=xs.length) (e:xs[xs.length - 1]?=some v):Q_ xs (-1)=some v:=by
 unfold Q_ ai;rw [qT ∅,qU ⋯,show (-1+(xs.length:Int)).toNat=xs.length - 1 by omega];exact e
theorem MA {n m:Int} (h:0<m):Aw n m=Y_ n m:=by unfold Aw;rw [qT ⋯]
theorem xP (h:Ek K vs H Q E):QZ K { nx:=λ_ j=>Q .non j,rt:=Q } (L2.start ["top","bottom","shared"] vs) H:=by
 obtain ⟨a,b,rfl,d,q⟩:=h;unfold QZ;rwa []
 have f:∀ s:Int,(s=if b<0 then -((Int.gcd a b:Nat):Int) else ((Int.gcd a b:Nat):Int))->JX a s/\JX b s/\2<=sizeLine/\∀ (p:Addr),H p=none->Q (V.ref p) (upd H p (.tup [.int (a.fdiv s),.int (b.fdiv s)])):=λs k=>by
  obtain ⟨g,n,i,m,o,r⟩:=Kl d k
  have e:Aw a b=(a.fdiv s,b.fdiv s):=by
   refine DK (GV d) i ?_;rw [HK d,LI (q:=(a.fdiv s,b.fdiv s)) (AW i.pos) d m]
  rw [e] at q;exact ⟨g,g,sz ∅,q⟩
 refine Am (λc=>?_) (λc=>?_)
 ·exact f _ (by rw [qU c])
 ·exact f _ (by rw [qT c])
theorem bJ {K:W.Frag} {p:Addr} {xs:cM} {H:Hp} {Q:VK} {E:XK} (hp:H p=some (.tup xs)) (h:∃ l,Nums H xs l/\AV l/\∃ M,Ov l M/\Bd 400000 M/\(∀ q∈l,Bd 60000000 q.1)/\l.length<=1000/\∀ (r a:Addr) (d:Hp),Same H d->d r=some (.tup [.ref a,.int (AZ l)])->d a=some (.lst ((AR l).map V.int))->Q (.ref r) d):El K [.ref p] H Q E:=let ⟨l,a,b,M,c⟩:=h;⟨p,xs,l,M,rfl,.inl hp,a,b,c⟩
theorem xQ (h:El K vs H Q E):Zo K { nx:=λ_ d=>Q .non d,rt:=Q } (L2.start ["P","bottom","number"] vs) H:=by
 obtain ⟨p,f,l,M,rfl,hp,w,k,j,A,J,hl,q⟩:=h;have D:=w.length;have L:=(B9 k).1;have N:=Dh (AW j.1) (O0 k j) A;have F:∀ q∈l,Bd 400000 q.2:=λq m=>Dh (AW j.1) (j.2 q m) A;refine Bc (N_ (Yg (xs:=f) hp rfl (λi n d=>∃ x,n=[some (.ref p),some (.int ((l.take i).foldl (λB q=>B*(q.2 / ((Int.gcd B q.2:Nat):Int))) 1)),x]/\d=H) ⟨none,rfl,rfl⟩ ?_ ?_ ?_))
 ·rintro i n d ⟨x,rfl,rfl⟩;rfl
 ·rintro i x n d o ⟨y,rfl,rfl⟩;obtain ⟨z,c,O,rfl,g⟩:=w.get o;have u:=k z (Ay c);have G:=F z (Ay c);obtain ⟨P,R⟩:=LK (M:=M) (l.take i) 1 (λq m=>⟨(k q (List.mem_of_mem_take m)).pos,j.2 q (List.mem_of_mem_take m)⟩) ∅ (Int.one_dvd M);have S:=Dh (AW j.1) R A;obtain ⟨s1,_,_,T,U,s6⟩:=LE P u.pos;rwa [g];refine ⟨U,Rk S (G.le T),?_,_,rfl⟩;rw [xL c]
 ·rintro n d ⟨x,rfl,rfl⟩;rw [D,CW];refine CU (Bv (Yh (xs:=f) hp rfl (λi v b=>i<=f.length/\v=((AR l).take i).map V.int/\b=d) ⟨Ae _,rfl,rfl⟩ ?_ ?_ ?_))
  ·rintro i v b ⟨I,rfl,rfl⟩;refine ⟨I,sz ?_,rfl⟩;rw [AG,CC];omega
  ·rintro i x v b o ⟨I,rfl,rfl⟩;obtain ⟨z,c,O,rfl,g⟩:=w.get o;have u:=k z (Ay c);have G:=F z (Ay c);have W:=J z (Ay c);have X:i<f.length:=(BF.mp o).1;rwa [g];have Y:l.foldl (λB q=>B*(q.2 / ((Int.gcd B q.2:Nat):Int))) 1=AZ l:=rfl;rw [Y];have Z:(AR l)[i]?=some (z.1*(AZ l / z.2)):=by unfold AR;rw [Ac,c];rfl
   refine ⟨u.pos,Rk W (N.le (Yl L u.pos)),⋯,?_⟩;rw [HZ V.int Z]
  ·rintro v b ⟨_,rfl,rfl⟩ a ha;refine AN rfl ⟨Az,λr C=>?_⟩
   have e:(AR l).take f.length=AR l:=by
    rw [D,show l.length=(AR l).length by unfold AR;rw [AG],CW]
   rw [e] at C ⊢;have s:=(AL ha (.lst ((AR l).map V.int))).trans (AL C (.tup [.ref a,.int (AZ l)]));exact q r a _ s upd_same (AL C _ _ _ upd_same)
theorem xR (h:HU K vs H Q E):Qf K { nx:=λ_ b=>Q .non b,rt:=Q } (L2.start ["row","bottom"] vs) H:=by
 obtain ⟨p,d,B,rfl,hp,u,v,q⟩:=h;unfold Qf;rwa [hp];refine ⟨⟨_,SqL.of hp⟩,CompJ.lst (xs:=d.map V.int) (λi f b=>i<=d.length/\Same H b/\Nums b f ((d.take i).map λn=>Aw n B)) ⟨Ae _,Same.refl H,trivial⟩ ?_ ?_ ?_⟩
 ·rintro i f b ⟨m,s1,c⟩;refine ⟨by rw [AG];exact m,sz ?_,SqL.of (s1 _ _ hp)⟩;rw [c.length,AG,CC];omega
 ·rintro i x f b g ⟨m,s1,c⟩;rw [Ac] at g;cases e:d[i]? with
  | none=>rw [e] at g;cases g
  | some n=>
    rw [e] at g;obtain rfl:V.int n=x:=pE g;have w:i<d.length:=(BF.mp e).1;rwa [];refine ⟨u,λr j=>⟨⋯,s1.trans (AL j _),?_⟩⟩;rw [HZ _ e];exact (c.tp (C' (AL j _))).append (Nums.one Jp)
 ·rintro f b ⟨_,s1,c⟩ a y;rw [AG,CW] at c;have o:=AL y (.lst f);rwa [];refine ⟨_,c.tp (C' o),by rw [AG];exact v,λr z k A j C=>q r z k ((s1.trans o).trans A) j C⟩
theorem Ro {b:Nat} {l:cI} {M:Int} (d:AV l) (h:Ov l M) (e:∀ z∈O' l M,Bd b z):∀ q∈l,Bd b q.1:=λq a=>by
 refine (e (q.1*(M / q.2)) (AU.mpr ⟨q,a,rfl⟩)).le ?_;rw [CF];obtain ⟨y,c⟩:=h.2 q a;have f:=(d q a).pos;have i:=h.1;have:M / q.2=y:=by rw [c,FQ _ (AW f)]
 rw [this];refine Nat.le_mul_of_pos_right _ ?_;rcases D6 y.natAbs with z | z
 ·have g:y=0:=by omega
  rw [g] at c;omega
 ·exact z
theorem Fs {g f:cO} (b:Lz g) (o:Lz f) (p:MQ (co g) (co f)):g.length<=f.length:=by
 obtain ⟨c,q,A,d⟩:=p;rcases A8 f.length g.length with y | y
 ·exfalso;rcases Dz A with z | ⟨B,h,_,r⟩
  ·have:c*co f (f.length - 1)=0:=by rw [d,B5,Fl g z]
   rcases Int.mul_eq_zero.mp this with e | e
   ·exact q e
   ·exact o.2 e
  ·have u:∀ k,c*co f k=cvL B (co g) k:=λk=>by rw [d,B5,BI (λj=>(r j).symm) g k,<-B5]
   have v:=h.1;have G:=b.1;have m:B≠[]:=Bk.mp v;obtain ⟨X,t,a⟩:∃ X t,B=X++[t]:=⟨B.dropLast,B.getLast m,(Gw m).symm⟩;have w:X.length=B.length - 1:=by rw [a];simp
   have C:co B (B.length - 1)=t:=by rw [<-w,a];unfold co;simp [AT]
   have e:=u (B.length - 1+(g.length - 1));rw [Ag ⋯,a,DU,<-a,EL (n:=g.length) (λi D=>Ag D) X _ ⋯] at e;unfold Av at e;rw [qU ⋯,show B.length - 1+(g.length - 1) - X.length=g.length - 1 by omega] at e;have F:t*co g (g.length - 1)=0:=by omega
   rcases Int.mul_eq_zero.mp F with x | x
   ·exact h.2 (C.trans x)
   ·exact b.2 x
 ·exact y
theorem php:∀ (m n:Nat) (f:Nat->Nat),(∀ i,i<n->f i<m)->m<n->∃ i j,i<j/\j<n/\f i=f j
 | 0,n,f,h,d=>absurd (h 0 d) (Nat.not_lt_zero _)
 | m+1,n,f,h,d=>by
   obtain ⟨n,rfl⟩:∃ k,n=k+1:=⟨n - 1,⋯⟩;by_cases c:∃ i,i<n/\f i=f n
   ·obtain ⟨i,a,e⟩:=c;exact ⟨i,n,a,⋯,e⟩
   ·have c:∀ i,i<n->f i≠f n:=λi a e=>c ⟨i,a,e⟩;have o:=h n ⋯
    obtain ⟨i,j,b,g,e⟩:=php m n (λi=>if f n<f i then f i - 1 else f i) (λi a=>by
     have p:=h i ⋯;have q:=c i a;show (if f n<f i then f i - 1 else f i)<m;split <;> omega) ⋯
    refine ⟨i,j,b,⋯,?_⟩;have r:=c i ⋯;have u:=c j g;have e:(if f n<f i then f i - 1 else f i)=(if f n<f j then f j - 1 else f j):=e;split at e <;> split at e <;> omega
noncomputable def aX (M:Nat):Nat->(Nat->Nat)->Nat
 | 0,_=>0
 | N+1,e=>e 0+M*aX M N (λk=>e (k+1))
theorem Rq {M:Nat}:∀ (N:Nat) (e:Nat->Nat),(∀ k,k<N->e k<M)->aX M N e<M ^ N
 | 0,_,_=>Nat.one_pos
 | N+1,e,h=>by
   have a:=Rq N (λk=>e (k+1)) (λk hk=>h (k+1) ⋯);have c:=h 0 ⋯;show e 0+M*aX M N (λk=>e (k+1))<M ^ (N+1);have b:M*(aX M N (λk=>e (k+1))+1)<=M*M ^ N:=EV M a;rw [Cn,DP (M ^ N)];rw [Nat.mul_add,Nat.mul_one] at b;omega
theorem Ru {M a b x y:Nat} (c:a<M) (d:b<M) (h:a+M*x=b+M*y):a=b/\x=y:=by
 have f:(a+M*x) % M=a:=by rw [Nat.add_mul_mod_self_left,Nat.mod_eq_of_lt c]
 have g:(b+M*y) % M=b:=by rw [Nat.add_mul_mod_self_left,Nat.mod_eq_of_lt d]
 have e:a=b:=by rw [<-f,h,g]
 subst e;exact ⟨rfl,Nat.eq_of_mul_eq_mul_left ⋯ (Nat.add_left_cancel h)⟩
theorem Rv {M:Nat}:∀ (N:Nat) (e a:Nat->Nat),(∀ k,k<N->e k<M)->(∀ k,k<N->a k<M)->aX M N e=aX M N a->∀ k,k<N->e k=a k
 | 0,_,_,_,_,_,k,hk=>absurd hk (Nat.not_lt_zero _)
 | N+1,e,a,h,b,q,k,hk=>by
   obtain ⟨c,d⟩:=Ru (h 0 ⋯) (b 0 ⋯) q;cases k with
   | zero=>exact c
   | succ k=>exact Rv N _ _ (λk hk=>h (k+1) ⋯) (λk hk=>b (k+1) ⋯) d k ⋯
noncomputable def V_ (p:Nat):Nat->Nat->cO
 | 0,_=>[]
 | N+1,t=>((t % p:Nat):Int)::V_ p N (t / p)
theorem MC (p:Nat):∀ (N t:Nat),(V_ p N t).length=N
 | 0,_=>rfl
 | N+1,t=>by show (V_ p N (t / p)).length+1=N+1;rw [MC p N]
theorem MD {p:Nat} (a:0<p):∀ (N t:Nat),∀ z∈V_ p N t,0<=z/\z<(p:Int)
 | 0,_,z,h=>by cases h
 | N+1,t,z,h=>by
   rcases A7.mp h with rfl | h
   ·have:=Nat.mod_lt t a;omega
   ·exact MD a N _ z h
theorem Rw {p:Nat} (e:0<p):∀ (N t s:Nat),t<p ^ N->s<p ^ N->V_ p N t=V_ p N s->t=s
 | 0,t,s,c,d,_=>by rw [Nat.pow_zero] at c d;omega
 | N+1,t,s,c,d,h=>by
   injection h with a b;rw [Cn,DP] at c d;have:=Rw e N (t / p) (s / p) (Nat.div_lt_of_lt_mul c) (Nat.div_lt_of_lt_mul d) b;have f:=Nat.div_add_mod t p;have g:=Nat.div_add_mod s p;have a:t % p=s % p:=by exact_mod_cast a
   rw [<-f,<-g,this,a]
theorem KK {g:d7} {h q:Nat} (c:∀ k,(g k).natAbs<=h):∀ (a:cO),(∀ z∈a,z.natAbs<=q)->∀ k,(cvL a g k).natAbs<=a.length*(q*h)
 | [],_,k=>by show (0:Int).natAbs<=_;simp
 | x::a,b,0=>by
   rw [Ax];have d:(x*g 0).natAbs<=q*h:=by rw [CF];exact Ex (b x (BL ..)) (c 0)
   have:(x::a).length*(q*h)=a.length*(q*h)+q*h:=by rw [CO,Nat.add_mul,Nat.one_mul]
   omega
 | x::a,b,k+1=>by
   rw [Ar];have d:(x*g (k+1)).natAbs<=q*h:=by rw [CF];exact Ex (b x (BL ..)) (c (k+1))
   have f:=KK c a (λz e=>b z (BW _ e)) k;have:(x::a).length*(q*h)=a.length*(q*h)+q*h:=by rw [CO,Nat.add_mul,Nat.one_mul]
   omega
theorem xS {A B u v:cO} (i:Lz A) (c:Lz B) (q:QI (co A) (co B) Ak) (g:u.length<B.length) (j:v.length<A.length) (h:∀ k,cvL u (co A) k+cvL v (co B) k=0):(∀ k,co u k=0)/\∀ k,co v k=0:=by
 obtain ⟨d,m,U,V,b⟩:=q
 have a:∀ {A B u v U V:cO},Lz B->(∀ k,d*Ak k=cvL U (co A) k+cvL V (co B) k)->u.length<B.length->(∀ k,cvL u (co A) k+cvL v (co B) k=0)->∀ k,co u k=0:=λ{A B u v U V} c b g h=>by
  rcases Dz u with z | ⟨f,n,r,o⟩
  ·exact z
  ·exfalso
   have p:MQ (co B) (co f):=by
    refine ⟨d,m,A4 (BV V u) ((BV U v).map ((-1)*·)),λk=>?_⟩;rw [Bi,BD,Bu,Bu,o k,Cu u k,<-C7,BI b,HL,IL (co A) u U,IL (co B) u V]
    have e:cvL U (cvL u (co A)) k = - cvL U (cvL v (co B)) k:=by
     have:cvL U (cvL u (co A)) k+cvL U (cvL v (co B)) k=0:=by rw [<-HL];exact Fl U h k
     omega
    rw [e];omega
   have:=Fs c n p;omega
 exact ⟨a c b g h,a (A:=B) (B:=A) (u:=v) (v:=u) (U:=V) (V:=U) i (λk=>by rw [b k];omega) j (λk=>by have:=h k;omega)⟩
theorem FK {a b:Int} (h:a=b):a∣b:=by rw [h];exact Int.dvd_refl b
theorem bK {p:Int} {f g:d7} {S:cO} (h:∀ k,p∣f k - cvL S g k):∀ (a:cO) (k:Nat),p∣cvL a f k - cvL a (cvL S g) k
 | [],k=>by show p∣(0:Int) - 0;simp
 | x::a,0=>by
   rw [Ax,Ax];have:=CL (h 0) (Int.dvd_mul_left x _);rw [Int.mul_sub] at this;refine CL this (FK ?_);omega
 | x::a,k+1=>by
   rw [Ar,Ar];have b:=CL (h (k+1)) (Int.dvd_mul_left x _);have c:=bK h a k;rw [Int.mul_sub] at b;have:=Co b c;refine CL this (FK ?_);omega
theorem Rx:∀ (a b:cO),(A4 a b).length=max a.length b.length
 | [],b=>by show b.length=max 0 b.length;omega
 | a,[]=>by rw [LP];show a.length=max a.length 0;omega
 | x::a,y::b=>by
   show (A4 a b).length+1=max (a.length+1) (b.length+1);rw [Rx a b];omega
theorem Ry {a b:cO} (c:a.length=b.length) (h:∀ k,co a k=co b k):a=b:=by
 refine List.ext_getElem c λi d e=>?_;have:=h i;unfold co at this;rwa [AT,AT,Aj d,Aj e] at this
theorem bZ {A B G:cO} {p b:Nat} (hp:Pr p) (lA:Lz A) (lB:Lz B) (q:QI (co A) (co B) Ak) (hA:∀ k,Bd b (co A k)) (hB:∀ k,Bd b (co B k)) (n1:2<=A.length) (m1:2<=B.length) (g2:2<=G.length) (g1:¬ (p:Int)∣co G (G.length - 1)) (dA:Dm (p:Int) (co G) (co A)) (dB:Dm (p:Int) (co G) (co B))
  (j:(2*((A.length+B.length)*2 ^ b)) ^ (A.length+B.length - 2)<p):False:=by
 have p2:=hp.two;have S:0<p:=by omega
 generalize hn:A.length - 1=n at *;generalize hm:B.length - 1=m at *;generalize hE:(A.length+B.length)*2 ^ b=E at *;have N1:A.length+B.length - 2=n+m:=by omega
 rw [N1] at j;have Y:∀ k,(co A k).natAbs<=2 ^ b:=λk=>Dn (hA k);have Z:∀ k,(co B k).natAbs<=2 ^ b:=λk=>Dn (hB k);have E0:0<E:=by rw [<-hE];exact Nat.mul_pos ⋯ (Nat.pow_pos ∅)
 obtain ⟨u,T⟩:∃ u:Nat->cO,∀ t,u t=(V_ p (m+n) t).take m:=⟨_,λ_=>rfl⟩;obtain ⟨v,U⟩:∃ v:Nat->cO,∀ t,v t=(V_ p (m+n) t).drop m:=⟨_,λ_=>rfl⟩;obtain ⟨f,W⟩:∃ f:Nat->d7,∀ t k,f t k=cvL (u t) (co A) k+cvL (v t) (co B) k:=⟨_,λ_ _=>rfl⟩;have J:∀ t,(u t).length=m:=λt=>by rw [T,CC,MC];omega
 have L:∀ t,(v t).length=n:=λt=>by rw [U,List.length_drop,MC];omega
 have uz:∀ t,∀ z∈u t,0<=z/\z<(p:Int):=λt z o=>MD S _ t z (List.mem_of_mem_take (T t ▸ o));have vz:∀ t,∀ z∈v t,0<=z/\z<(p:Int):=λt z o=>MD S _ t z (List.mem_of_mem_drop (U t ▸ o))
 have fb:∀ t k,(f t k).natAbs<E*p:=λt k=>by
  have d:=KK (q:=p - 1) Y (u t) (λz o=>by have:=uz t z o;omega) k;have g:=KK (q:=p - 1) Z (v t) (λz o=>by have:=vz t z o;omega) k;rw [J] at d;rw [L] at g
  have h3:(f t k).natAbs<=(m+n)*((p - 1)*2 ^ b):=by
   rw [Nat.add_mul,W];omega
  refine Nat.lt_of_le_of_lt h3 ?_;rw [<-hE];have e:(m+n)*((p - 1)*2 ^ b)=((m+n)*2 ^ b)*(p - 1):=by rw [DP (p - 1),Nat.mul_assoc]
  rw [e];exact CA (Nat.mul_lt_mul_of_pos_left ⋯ (Nat.mul_pos ⋯ (Nat.pow_pos ∅))) (CY p (CY _ ⋯))
 obtain ⟨X,r⟩:∃ X:Nat->Nat,∀ t,X t=(f t 0 / (p:Int)+(E:Int)).toNat:=⟨_,λ_=>rfl⟩;obtain ⟨O,w⟩:∃ O:Nat->Nat->Nat,∀ t k,O t k=(f t (k+1)+((E*p:Nat):Int)).toNat:=⟨_,λ_ _=>rfl⟩
 have C:∀ t,0<=f t 0 / (p:Int)+(E:Int)/\f t 0 / (p:Int)+(E:Int)<2*(E:Int):=λt=>by
  have h:=fb t 0
  have d:-((E:Int)*(p:Int))<=f t 0:=by have:((E*p:Nat):Int)=(E:Int)*(p:Int):=by push_cast;rfl
                                       omega
  have g:f t 0<(E:Int)*(p:Int):=by have:((E*p:Nat):Int)=(E:Int)*(p:Int):=by push_cast;rfl
                                   omega
  have q1:-(E:Int)<=f t 0 / (p:Int):=by
   refine (Int.le_ediv_iff_mul_le ⋯).mpr ?_;rw [Int.neg_mul];exact d
  have q2:f t 0 / (p:Int)<(E:Int):=Int.ediv_lt_of_lt_mul ⋯ g;omega
 have D:∀ t k,0<=f t (k+1)+((E*p:Nat):Int)/\f t (k+1)+((E*p:Nat):Int)<2*((E*p:Nat):Int):=λt k=>by
  have h:=fb t (k+1);omega
 have F:∀ t,X t<2*E:=λt=>by have:=C t;rw [r];omega
 have I:∀ t k,O t k<2*(E*p):=λt k=>by have:=D t k;rw [w];omega
 have cl:∀ t,X t+2*E*aX (2*(E*p)) (m+n - 1) (O t)<2*E*(2*(E*p)) ^ (m+n - 1):=λt=>by
  have d:=Rq (M:=2*(E*p)) (m+n - 1) (O t) (λk _=>I t k);have g:2*E*(aX (2*(E*p)) (m+n - 1) (O t)+1)<=2*E*(2*(E*p)) ^ (m+n - 1):=EV _ d;have h3:=F t;rw [Nat.mul_add,Nat.mul_one] at g;omega
 have R:2*E*(2*(E*p)) ^ (m+n - 1)<p ^ (m+n):=by
  obtain ⟨N,hN⟩:∃ N,m+n=N+1:=⟨m+n - 1,⋯⟩;rw [hN,Nat.add_sub_cancel];rw [Nat.add_comm n m,hN] at j
  have e:2*E*(2*(E*p)) ^ N=(2*E) ^ (N+1)*p ^ N:=by
   rw [<-Nat.mul_assoc 2 E p,Nat.mul_pow (2*E) p N,Cn,DP ((2*E) ^ N) (2*E),Nat.mul_assoc (2*E)]
  rw [e,Cn p,DP (p ^ N) p];exact Nat.mul_lt_mul_of_pos_right j (Nat.pow_pos S)
 obtain ⟨s,t,st,ht,e⟩:=php _ _ _ (λi _=>cl i) R;obtain ⟨q0,q1⟩:=Ru (F s) (F t) e;have qk:=Rv (m+n - 1) _ _ (λk _=>I s k) (λk _=>I t k) q1;have w0:∀ k,(co (u s) k - co (u t) k)=co (A4 (u s) ((u t).map ((-1)*·))) k:=λk=>by rw [Cu,Cu,Cu,Bi,BD];omega
 have df:∀ k,f s k - f t k=cvL (A4 (u s) ((u t).map ((-1)*·))) (co A) k+cvL (A4 (v s) ((v t).map ((-1)*·))) (co B) k:=λk=>by
  rw [Bi,Bi,BD,BD,W,W];omega
 have P:∀ k,0<k->f s k - f t k=0:=λk hk=>by
  rcases A8 k (m+n) with c | c
  ·have:=qk (k - 1) ⋯;have r1:=D s (k - 1);have r2:=D t (k - 1);rw [w,w,show k - 1+1=k by omega] at this;rw [show k - 1+1=k by omega] at r1 r2;omega
  ·have z:∀ t,f t k=0:=λt=>by
    rw [W,EL (n:=A.length) (λi P=>Ag P) (u t) k (by rw [J];omega),EL (n:=B.length) (λi P=>Ag P) (v t) k (by rw [L];omega)];rfl
   rw [z,z];rfl
 have d0:(f s 0 - f t 0).natAbs<p:=by
  have r1:=C s;have r2:=C t;rw [r,r] at q0;have q0:f s 0 / (p:Int)=f t 0 / (p:Int):=by omega
  have m1:=Int.emod_add_mul_ediv (f s 0) p;have m2:=Int.emod_add_mul_ediv (f t 0) p;have b1:=CN (f s 0) (show (p:Int)≠0 by omega);have b2:=Cc (f s 0) (show (0:Int)<p by omega);have b3:=CN (f t 0) (show (p:Int)≠0 by omega);have b4:=Cc (f t 0) (show (0:Int)<p by omega);rw [q0] at m1;omega
 have dm:Dm (p:Int) (co G) (co [f s 0 - f t 0]):=by
  obtain ⟨SA,a0⟩:=dA;obtain ⟨SB,a1⟩:=dB;refine ⟨A4 (BV (A4 (u s) ((u t).map ((-1)*·))) SA) (BV (A4 (v s) ((v t).map ((-1)*·))) SB),λk=>?_⟩
  have e:co [f s 0 - f t 0] k=f s k - f t k:=by
   cases k with
   | zero=>rfl
   | succ k=>rw [P (k+1) ⋯];exact Ag (by simp)
  rw [e,df,Bi (co G),Bu,Bu];have d:=bK (p:=(p:Int)) a0 (A4 (u s) ((u t).map ((-1)*·))) k;have g:=bK (p:=(p:Int)) a1 (A4 (v s) ((v t).map ((-1)*·))) k;have:=Co d g;refine CL this (FK ?_);omega
 have z0:f s 0 - f t 0=0:=by
  by_cases c:(p:Int)∣f s 0 - f t 0
  ·obtain ⟨y,hy⟩:=c;rcases Int.lt_trichotomy y 0 with z | z | z
   ·have:(p:Int)*y<=(p:Int)*(-1):=Hu ⋯ ⋯;omega
   ·rw [hy,z];omega
   ·have:(p:Int)*1<=(p:Int)*y:=Hu ⋯ ⋯;omega
  ·exfalso;have:=Dm.len hp ⋯ g1 dm ⟨0,c⟩;simp at this;omega
 have all:∀ k,cvL (A4 (u s) ((u t).map ((-1)*·))) (co A) k+cvL (A4 (v s) ((v t).map ((-1)*·))) (co B) k=0:=λk=>by
  rw [<-df];cases k with
  | zero=>exact z0
  | succ k=>exact P (k+1) ⋯
 have ll:∀ {a c:cO} {x:Nat},a.length=x->c.length=x->(A4 a (c.map ((-1)*·))).length=x:=λ{a c x} d g=>by
  rw [Rx,AG,d,g];omega
 obtain ⟨c1,c2⟩:=xS lA lB q (by rw [ll (J s) (J t)];omega) (by rw [ll (L s) (L t)];omega) all;have eu:u s=u t:=Ry (by rw [J,J]) λk=>by have:=c1 k;rw [<-w0] at this;omega
 have ev:v s=v t:=Ry (by rw [L,L]) λk=>by
  have:=c2 k;rw [Cu,Bi,BD,<-Cu,<-Cu] at this;omega
 have:V_ p (m+n) s=V_ p (m+n) t:=by
  rw [<-GA m (V_ p (m+n) s),<-GA m (V_ p (m+n) t)];rw [<-T,<-U,<-T,<-U,eu,ev]
 have:=Rw S _ _ _ ⋯ ⋯ this;omega
theorem R3:∀ (a l:cO),a.Nodup->(∀ t∈a,evI l t=0)->l.length<=a.length->∀ k,co l k=0
 | [],l,_,_,h,k=>Ag (by have:l.length=0:=by simpa using h
                        omega)
 | t::a,l,i,d,j,k=>by
   have b:=Cm.mp i;have e:=d t (BL ..);have m:co (Z_ l t) ((Z_ l t).length - 1)=0:=by rw [Jm];exact ZE l t
   have f:=LR m
   have z:∀ k,co (Z_ l t) k=0:=λk=>by
    rw [<-f k];refine R3 a (Z_ l t).dropLast b.2 (λx g=>?_) (by rw [List.length_dropLast,Jm];simp at j;omega) k;rw [LU _ _ x f];have c:=LV l t x;rw [d x (BW _ g),e] at c
    have n:x - t≠0:=λq=>b.1 (by have:x=t:=by omega
                                rw [<-this];exact g)
    have c:(x - t)*evI (Z_ l t) x=0:=by omega
    rcases Int.mul_eq_zero.mp c with q | q
    ·exact absurd q n
    ·exact q
   rw [Jn l t k,z k];split
   ·rw [e];omega
   ·rw [z (k - 1)];omega
theorem xT (n:Nat):((List.range (2*n+1)).map λi:Nat=>(i:Int) - (n:Int)).Nodup:=by
 unfold List.Nodup;rw [EA];exact (List.nodup_range (n:=2*n+1)).imp λh q=>h ⋯
theorem R4 (f:Int->Bool):∀ P:cO,(P.filter f).length+(P.filter λx=>!f x).length=P.length
 | []=>rfl
 | x::P=>by
   have:=R4 f P;rw [List.filter_cons,List.filter_cons,CO];cases f x
   ·simp;omega
   ·simp;omega
theorem xU {r:cO} {n:Nat} (v:∃ k,co r k≠0) (C:r.length<=n):∃ x:d7,(∀ i,i<=n->evI r (x i)≠0/\(x i).natAbs<=n)/\∀ i j,i<=n->j<=n->i≠j->x i≠x j:=by
 let P:cO:=(List.range (2*n+1)).map λi:Nat=>(i:Int) - (n:Int);have D:P.length=2*n+1:=by show ((List.range (2*n+1)).map λi:Nat=>(i:Int) - (n:Int)).length=_;rw [AG,Bj]
 have p:P.Nodup:=xT n
 have w:∀ x∈P,x.natAbs<=n:=λx y=>by
  obtain ⟨i,d,rfl⟩:=AU.mp y;have:=D5.mp d;omega
 have f:(P.filter λx=>decide (evI r x=0)).length+(P.filter λx=>!decide (evI r x=0)).length=P.length:=by
  exact R4 _ P
 have z:(P.filter λx=>decide (evI r x=0)).length<r.length:=by
  rcases A8 (P.filter λx=>decide (evI r x=0)).length r.length with c | c
  ·exact c
  ·exfalso;obtain ⟨k,hk⟩:=v;exact hk (R3 _ r (p.filter _) (λt A=>by simpa using (ET.mp A).2) c k)
 let a:=P.filter λx=>!decide (evI r x=0)
 have F:n+1<=a.length:=by
  show n+1<=(P.filter λx=>!decide (evI r x=0)).length;omega
 have B:a.Nodup:=p.filter _;refine ⟨λi=>a.getD i 0,λi d=>?_,λi j d G g e=>?_⟩
 ·have b:i<a.length:=by omega
  have e:a.getD i 0=a[i]:=by rw [AT,Aj b];rfl
  show evI r (a.getD i 0)≠0/\(a.getD i 0).natAbs<=n;rw [e];have m:=ET.mp (Dq b);exact ⟨by simpa using m.2,w _ m.1⟩
 ·have h:i<a.length:=by omega
  have o:j<a.length:=by omega
  have e:a.getD i 0=a.getD j 0:=e;rw [AT,AT,Aj h,Aj o] at e;have e:a[i]=a[j]:=e;have u:=List.pairwise_iff_getElem.mp B;rcases Nat.lt_or_gt_of_ne g with q | q
  ·exact u i j h o q e
  ·exact u j i o h q e.symm
theorem Ik {b n c:Nat} {r g A:cO} (o:∀ z∈r,Bd b z) (p:∃ k,co r k≠0) (f:r.length<=n) (B:g.length<=n) (C:n<2 ^ c) (q:∀ k,co r k=cvL A (co g) k):∀ k,Bd (b+n*(2*c+4)) (co g k):=by
 by_cases D:g.length=0
 ·intro k;rw [Ag ⋯];exact Dg _
 obtain ⟨x,h,u⟩:=xU p f
 have m:∀ i,i<=n->Bd c (x i):=λi a=>by
  show (x i).natAbs<2 ^ c;have:=(h i a).2;omega
 intro k
 have:=aJ (c:=c) (g.length - 1) g (b+n*(c+1)) x (λk hk=>Ag ⋯) (λi a=>m i ⋯) (λi j a F d=>u i j ⋯ ⋯ d) (λi a=>by
  have v:=(h i ⋯).1;have e:=ZD q (x i);have w:=PC (m i ⋯) r o
  have y:(evI g (x i)).natAbs<=(evI r (x i)).natAbs:=by
   rw [e,CF];refine Nat.le_mul_of_pos_left _ ?_;rcases D6 (evI A (x i)).natAbs with z | z
   ·exact absurd (by rw [e,Int.natAbs_eq_zero.mp z];omega) v
   ·exact z
  refine (w.le y).mono ?_;have:=CY (c+1) f;omega) k
 refine this.mono ?_;have G:(g.length - 1)*(c+3)<=n*(c+3):=CY (c+3) ⋯;have I:n*(2*c+4)=n*(c+1)+n*(c+3):=by rw [<-Nat.mul_add];congr 1;omega
 omega
theorem Il {a g:cO} (b:Lz a) (c:Lz g):cvL a (co g) (a.length - 1+(g.length - 1))=co a (a.length - 1)*co g (g.length - 1):=by
 obtain ⟨i,s,rfl⟩:∃ i s,a=i++[s]:=⟨a.dropLast,a.getLast (Bk.mp b.1),(Gw _).symm⟩;have e:(i++[s]).length - 1=i.length:=by rw [Bw];simp
 have d:co (i++[s]) i.length=s:=by
  unfold co;rw [AT,List.getElem?_append_right (AO _),Nat.sub_self];rfl
 rw [e,d,DU,EL (n:=g.length) (λi f=>Ag f) i _ (by have:=c.1;omega)];unfold Av;rw [qU ⋯,show i.length+(g.length - 1) - i.length=g.length - 1 by omega];omega
theorem ME {X a:cO} (b:Lz a) {T:Nat} (h:∀ k,T+(a.length - 1)<=k->cvL X (co a) k=0):(∀ j,T<=j->co X j=0)/\∀ s,T=s+1->cvL X (co a) (s+(a.length - 1))=co X s*co a (a.length - 1):=by
 rcases Dz X with z | ⟨Y,d,_,e⟩
 ·refine ⟨λj _=>z j,λs _=>?_⟩;rw [B5,Fl a z,z s];omega
 ·have f:∀ k,cvL X (co a) k=cvL Y (co a) k:=λk=>by rw [B5,BI (λj=>(e j).symm) a k,<-B5]
  have g:=Il d b
  have o:Y.length<=T:=by
   rcases A8 T Y.length with c | c
   ·exfalso;have:=h (Y.length - 1+(a.length - 1)) ⋯;rw [f,g] at this;exact By d.2 b.2 this
   ·exact c
  refine ⟨λj p=>by rw [<-e];exact Ag ⋯,λs q=>?_⟩;rw [f,<-e];have r:=d.1;rcases A8 Y.length T with c | c
  ·rw [Ag ⋯,EL (n:=a.length) (λi m=>Ag m) Y _ (by have:=b.1;omega)];omega
  ·rw [show s=Y.length - 1 by omega];exact g
theorem D2 {m n:Nat} {x y:Int} (a:Bd m x) (b:Bd n y) (c:m<=60000000:=by omega) (d:n<=60000000:=by omega):IntMulOk x y:=DV (a.mono c) (b.mono d)
theorem xV {c:cO} {m:Int} (a:cO) (b:a=(c.filter (λz=>!decide (z=0))).map λz=>if z<0 then -z else z) (h:a=[]/\m=0\/m∈a) (d:Int):(∀ z∈c,d∣z)->d∣m:=by
 intro f;rcases h with ⟨_,e⟩ | h
 ·rw [e];exact Cq d
 ·rw [b] at h;obtain ⟨z,g,rfl⟩:=AU.mp h;have:=f z (ET.mp g).1;show d∣if z<0 then -z else z
  split
  ·exact Int.dvd_neg.mpr this
  ·exact this
theorem xW (h:IV K vs H Q E):Pa K { nx:=λ_ j=>Q .non j,rt:=Q } (L2.start ["row","start","found","whole"] vs) H:=by
 obtain ⟨p,b,r,rfl,hp,X,k⟩:=h;unfold Pa;rwa [];refine ⟨⟨_,SqL.of hp⟩,CompF.lst (xs:=b.map V.int) (λi u j=>i<=b.length/\j=H/\u=(((b.take i).filter (λz=>!decide (z=0))).map λz=>if z<0 then -z else z).map V.int) ⟨Ae _,rfl,rfl⟩ ?_ ?_ ?_⟩
 ·rintro i u j ⟨q,rfl,rfl⟩;refine ⟨by rw [AG];exact q,sz ?_,SqL.of hp⟩;rw [AG,AG];exact BT (List.length_filter_le _ _) (by rw [CC];omega)
 ·rintro i x u j f ⟨q,rfl,rfl⟩;rw [Ac] at f;cases e:b[i]? with
  | none=>rw [e] at f;cases f
  | some n=>
    rw [e] at f;obtain rfl:V.int n=x:=pE f;have N:i<b.length:=(BF.mp e).1;have L:b.take (i+1)=b.take i++[n]:=by rw [List.take_add_one,e];rfl
    rwa [];refine Am (λc=>?_) (λc=>?_)
    ·refine ⟨⋯,?_⟩;have G:¬ n=0:=by simpa using c
     simp [L,List.filter_append,G]
    ·refine ⟨⋯,?_⟩;have G:n=0:=by simpa using c
     simp [L,List.filter_append,G]
 ·rintro u j ⟨_,rfl,rfl⟩ a O;rw [AG,CW];have v:=AL O (.lst (((b.filter (λz=>!decide (z=0))).map λz=>if z<0 then -z else z).map V.int));have o:=v _ _ hp;refine ⟨_,rfl,_,upd_same,λm P=>?_⟩;have R:=xV _ rfl P;generalize S:upd j a (.lst (((b.filter (λz=>!decide (z=0))).map λz=>if z<0 then -z else z).map V.int))=T at v o ⊢;refine ⟨⟨_,SqL.of o⟩,ForL.by (xs:=b.map V.int) (λi w A=>∃ (g:Int) (x:cN),w=[some (.ref p),some (.int r),some (.int g),x]/\A=T/\0<=g/\g∣r/\(∀ z∈b.take i,g∣z)/\(∀ d:Int,d∣r->(∀ z∈b,d∣z)->d∣g)) ⟨_,none,rfl,rfl,⋯,D7 m r,λz B=>(by simp at B),λd q C=>Int.dvd_coe_gcd (R d C) q⟩ ?_ ?_ ?_⟩
  ·rintro i w A _ ⟨g,x,rfl,rfl,_⟩;exact SqL.of o
  ·rintro i x w A f ⟨g,y,rfl,rfl,M,I,D,F⟩;rw [Ac] at f;cases e:b[i]? with
   | none=>rw [e] at f;cases f
   | some n=>
     rw [e] at f;obtain rfl:V.int n=x:=pE f;rwa [];refine Am (λc=>?_) (λc=>?_)
     ·have U:g=1:=by simpa using c
      subst U;exact k 1 _ v ∅ (Int.one_dvd _) (λz _=>Int.one_dvd z) F
     ·refine ⟨⋯,CL (D7 n g) I,λz B=>?_,λd q C=>Int.dvd_coe_gcd (C n (Ay e)) (F d q C)⟩;rw [List.take_add_one,e] at B;rcases CK.mp B with J | J
      ·exact CL (D7 n g) (D z J)
      ·have W:z=n:=by simpa using J
       rw [W];exact Eu n g
  ·rintro w A ⟨g,x,rfl,rfl,M,I,D,F⟩;rw [AG,CW] at D;rwa [];exact k g _ v M I D F
theorem xX (h:IW K vs H Q E):Pd K { nx:=λ_ c=>Q .non c,rt:=Q } (L2.start ["row","divisor"] vs) H:=by
 obtain ⟨p,b,g,rfl,hp,m,u,q⟩:=h;unfold Pd;rwa [];refine ⟨⟨_,SqL.of hp⟩,CompJ.lst (xs:=b.map V.int) (λi j c=>i<=b.length/\c=H/\j=((b.map (·/ g)).take i).map V.int) ⟨Ae _,rfl,rfl⟩ ?_ ?_ ?_⟩
 ·rintro i j c ⟨k,rfl,rfl⟩;refine ⟨by rw [AG];exact k,sz ?_,SqL.of hp⟩;rw [AG,CC];omega
 ·rintro i x j c d ⟨k,rfl,rfl⟩;rw [Ac] at d;cases e:b[i]? with
  | none=>rw [e] at d;cases d
  | some n=>
    rw [e] at d;obtain rfl:V.int n=x:=pE d;have f:i<b.length:=(BF.mp e).1
    have o:0<g:=by
     rcases m with h | h
     ·exact h
     ·rw [h] at f;exact absurd f (by simp)
    rwa [];refine ⟨o,⋯,?_⟩;rw [HZ V.int (q:=n / g) (by rw [Ac,e];rfl)]
 ·rintro j c ⟨_,rfl,rfl⟩ a r;have e:(b.map (·/ g)).take (b.map V.int).length=b.map (·/ g):=by rw [AG,show b.length=(b.map (·/ g)).length by rw [AG],CW]
  rw [e];exact q a r
theorem R7 {a:cO} {k:Nat}:co a k=a.getD k 0:=rfl
theorem MF (a:cO):Tz (Cw a):=by
 have b:∀ m,m<=a.length->DA a m=0\/co a (DA a m - 1)≠0:=by
  intro m
  induction m with
  | zero=>intro _;exact .inl rfl
  | succ m d=>
    intro e;rw [Ij];split
    ·exact d ⋯
    ·rename_i z;right;rw [show m+1 - 1=m by omega,R7];rw [AT,Aj ⋯] at z ⊢;exact z
 have c:(Cw a).length=DA a a.length:=L7;rcases b a.length (AO _) with h | h
 ·left;exact CI.mp (c.trans h)
 ·right;rw [c];show (Cw a).getD _ 0≠0;rw [Rl];exact h
theorem MG (a:cO) (k:Nat):co (Cw a) k=co a k:=Rl k
theorem Im (n:Nat) (F:d7):A3 n F=((List.range n).map F).map V.int:=rfl
theorem xY (a:cO) (f:Int) (n:Nat) (h:a.length<=n):List.map V.int (a.map (f*·))++List.replicate (n - a.length) (V.int 0)=A3 n λk=>f*co a k:=by
 rw [Im];apply FP;intro i;by_cases b:i<a.length
 ·rw [List.getElem?_append_left (by rw [AG,AG];exact b),Ac,Ac,Ac,Ac,EB ⋯,Aj b];show _=some (V.int (f*a.getD i 0));rw [AT,Aj b];rfl
 ·rw [List.getElem?_append_right (by rw [AG,AG];omega),AG,AG,Ac,Ac];by_cases c:i<n
  ·rw [FN,qU ⋯,EB c];show _=some (V.int (f*co a i));rw [Ag ⋯,Int.mul_zero]
  ·rw [FN,qT ⋯,Bx (by rw [Bj];omega)];rfl
theorem xZ (h:IX K vs H Q E):Pn K { nx:=λ_ m=>Q .non m,rt:=Q } (L2.start ["row","factor","other","weight","shift","result","place","whole"] vs) H:=by
 obtain ⟨p,q,d,g,f,w,s,rfl,hp,P,hl,a0,bf,bw,bn,bm,k⟩:=h;unfold Pn;rwa [];refine ⟨⟨_,SqL.of hp⟩,CompJ.lst (xs:=d.map V.int) (λi J m=>i<=d.length/\m=H/\J=((d.map (f*·)).take i).map V.int) ⟨Ae _,rfl,rfl⟩ ?_ ?_ ?_⟩
 ·rintro i J m ⟨Z,rfl,rfl⟩;refine ⟨by rw [AG];exact Z,sz ?_,SqL.of hp⟩;rw [AG,CC];omega
 ·rintro i x J m z ⟨Z,rfl,rfl⟩;rw [Ac] at z;cases e:d[i]? with
  | none=>rw [e] at z;cases z
  | some n=>
    rw [e] at z;obtain rfl:V.int n=x:=pE z;have a1:i<d.length:=(BF.mp e).1;rwa [];refine ⟨D2 bf (bn n (Ay e)),⋯,?_⟩;rw [HZ V.int (q:=f*n) (by rw [Ac,e];rfl)]
 ·rintro J m ⟨_,rfl,rfl⟩ a R;have e:(d.map (f*·)).take (d.map V.int).length=d.map (f*·):=by rw [AG,show d.length=(d.map (f*·)).length by rw [AG],CW]
  rw [e];generalize hL:max d.length (s+g.length)=L;have S:=AL R (.lst (List.map V.int (d.map (f*·))));have A:=S _ _ hp;have B:=S _ _ P;rwa [A,B];refine ⟨Nv upd_same,sz ∅,λb hb=>?_⟩;have M:=AL hb (.lst [.int 0]);refine ⟨_,M _ _ B,_,M _ _ A,?_⟩;have e0:(((g.map V.int).length:Int)+(s:Int) - ((d.map V.int).length:Int))=(g.length:Int)+(s:Int) - (d.length:Int):=by rw [AG,AG]
  rw [e0];have ek:((g.length:Int)+(s:Int) - (d.length:Int)).toNat=L - d.length:=by omega
  refine ⟨⋯,⋯,sz (by rw [ek];simp;omega),λc hc=>?_⟩;rw [ek,Jo];have sc:=AL hc (.lst (List.replicate (L - d.length) (V.int 0)));have T:upd m a (.lst (List.map V.int (d.map (f*·)))) a=some (HO.lst (List.map V.int (d.map (f*·)))):=upd_same;have C:=sc _ _ (M _ _ T);refine ⟨_,C,sz (by simp;omega),?_⟩;rw [xY d f L ⋯];generalize hX:upd (upd (upd m a (.lst (List.map V.int (d.map (f*·))))) b (.lst [.int 0])) c (.lst (List.replicate (L - d.length) (V.int 0)))=N at C ⊢;have sx:Same m N:=λx o h=>by rw [<-hX];exact sc x o (M x o (S x o h))
  have U:Same m (upd N a (.lst (A3 L λk=>f*co d k))):=λx o h=>Kp.upd x o (BM h R) (sx x o h);have D:(upd N a (.lst (A3 L λk=>f*co d k))) a=_:=upd_same;generalize upd N a (.lst (A3 L λk=>f*co d k))=Hd at U D ⊢;refine ⟨⟨_,SqL.of (U _ _ P)⟩,ForJ.enumL (xs:=g.map V.int) (λj O F=>∃ x y:cN,O=[some (.ref p),some (.int f),some (.ref q),some (.int w),some (.int (s:Int)),some (.ref a),x,y]/\Same m F/\F a=some (.lst (A3 L λk=>f*co d k - (if s<=k/\k - s<j then w*co g (k - s) else 0)))) ⟨none,none,rfl,U,?_⟩ ?_ ?_ ?_⟩
  ·rw [D];exact congrArg (λl=>some (HO.lst l)) (Ii λk _=>by rw [qT ⋯];omega)
  ·rintro j O F _ ⟨_,_,_,G,_⟩;exact SqL.of (G _ _ P)
  ·rintro j y pq O F I ⟨y3,y4,rfl,G,v⟩ W;rw [Ac] at I;cases em:g[j]? with
   | none=>rw [em] at I;cases I
   | some u=>
     rw [em] at I;obtain rfl:V.int u=y:=pE I;have jl:j<g.length:=(BF.mp em).1;have ud:co g j=u:=by rw [R7,AT,em];rfl
     have sq:=AL W (.tup [.int (j:Int),.int u]);have X:=sq _ _ v;rwa [X];have Y:s+j<L:=by omega
     refine ⟨_,Ck ⋯ (DW _ Y),D2 bw (bm u (Ay em)),_,rfl,s+j,?_,λb o h=>Kp.upd b o (BM h R) (sq b o (G b o h)),?_⟩
     ·rw [Dk];exact FJ ⋯ Y
     ·refine Hb Y ?_ λk _ hk=>?_
      ·rw [qU ⋯,qT ⋯,show s+j - s=j by omega,ud];omega
      ·by_cases h:s<=k/\k - s<j
       ·rw [qU h,qU ⋯]
       ·rw [qT h,qT ⋯]
  ·rintro O F ⟨y3,y4,rfl,G,v⟩;rw [AG,Im] at v;rwa [v];refine ⟨_,rfl,λr hr=>k r _ _ (G.trans (AL hr _)) upd_same (MF _) λi=>?_⟩;rw [MG,Jk];unfold Av;by_cases z:i<L
   ·rw [qU z];by_cases h:s<=i
    ·rw [qU h];by_cases h2:i - s<g.length
     ·rw [qU ⟨h,h2⟩]
     ·rw [qT ⋯,Ag (a:=g) ⋯];omega
    ·rw [qT h,qT ⋯];omega
   ·rw [qT z,Ag (a:=d) ⋯];by_cases h:s<=i
    ·rw [qU h,Ag (a:=g) ⋯];omega
    ·rw [qT h];omega
theorem wA (a b:Int):(a.fdiv b).natAbs<=a.natAbs:=by
 rw [Int.fdiv_eq_ediv];split
 ·rw [Int.sub_zero];exact Int.natAbs_ediv_le_natAbs a b
 ·rename_i h;have d:b<0:=by omega
  have f:¬ b∣a:=λz=>h (.inr z);have e:=Int.mul_ediv_add_emod a b;have i:=CN a (show b≠0 by omega);have j:=Int.emod_lt_of_neg a d;have rn:a % b≠0:=λz=>f (Int.dvd_of_emod_eq_zero z);generalize a / b=q at *;generalize a % b=r at *;rcases Int.lt_or_le q 1 with g | g
  ·have c:(-b)*(-q) ≥ 2*(-q):=Int.mul_le_mul_of_nonneg_right ⋯ ⋯;rw [Int.neg_mul_neg] at c;omega
  ·have c:(-b)*(q - 1) ≥ 1*(q - 1):=Int.mul_le_mul_of_nonneg_right ⋯ ⋯;rw [Int.neg_mul,Int.mul_sub] at c;omega
theorem MH {n m:Nat} {F:d7}:CQ (A3 n F) none (some (m:Int))=((List.range (min m n)).map F).map V.int:=by
 unfold CQ HT.sIx;simp only [List.drop_zero,Nat.sub_zero,D8];rw [qT ⋯,Dk];unfold A3;rw [<-List.map_take,<-List.map_take,List.take_range];congr 3;omega
theorem wB {n:Nat} {F:d7} (h:((List.range n).map F).any (λz=>!decide (z=0))=false):∀ k,k<n->F k=0:=by
 intro k hk;have:=List.any_eq_false.mp h (F k) (AU.mpr ⟨k,D5.mpr hk,rfl⟩);simpa using this
theorem R9 {n s:Nat} {F:d7} {w:Int} (a:s<n) (b:F s=0) (g:d7) (k:Nat) :
  cvL ((List.range n).map λj=>if j=s then w else F j) g k=cvL ((List.range n).map F) g k+w*Av s g k:=by
 have e:∀ m,m<=n->cvL ((List.range m).map λj=>if j=s then w else F j) g k=cvL ((List.range m).map F) g k+(if s<m then w*Av s g k else 0):=by
  intro m
  induction m with
  | zero=>intro _;rw [qT ⋯];rfl
  | succ m c=>
    intro d;rw [List.range_succ,Bq,Bq,List.map_singleton,List.map_singleton,DU,DU,c ⋯,AG,AG,Bj];by_cases e:m=s
    ·subst e;rw [qU rfl,qT ⋯,qU ⋯,b];omega
    ·rw [qT e];by_cases h:s<m
     ·rw [qU h,qU ⋯];omega
     ·rw [qT h,qT ⋯];omega
 rw [e n (AO n),qU a]
theorem Dl {b:Nat} {a:cO} (h:∀ z∈a,Bd b z) (k:Nat):Bd b (co a k):=GU h k
theorem KL {n:Nat} {g:d7} (k:Nat):cvL ((List.range n).map λ_=>(0:Int)) g k=0:=by
 have e:((List.range n).map λ_=>(0:Int))=(List.replicate n (1:Int)).map (0*·):=by
  apply FP;intro i;rw [Ac,Ac];by_cases h:i<n
  ·rw [EB h,FN,qU h];rfl
  ·rw [Bx (by rw [Bj];omega),FN,qT h];rfl
 rw [e,BD];omega
theorem KM (a:cO):List.map V.int a=A3 a.length (co a):=by
 rw [Im];congr 1;apply FP;intro i;rw [Ac];by_cases h:i<a.length
 ·rw [EB h,Aj h];show _=some (a.getD i 0);rw [AT,Aj h];rfl
 ·rw [Bx ⋯,Bx (by rw [Bj];omega)];rfl
theorem Io {a:cO} (h:0<a.length):Q_ (a.map V.int) (-1)=some (V.int (co a (a.length - 1))):=by
 refine atI_last (by rw [AG];omega) ?_;rw [AG,Ac,Aj ⋯];show _=some (V.int (a.getD (a.length - 1) 0));rw [AT,Aj ⋯];rfl
theorem wC (h:IY K vs H Q E):ZZ K { nx:=λ_ H'=>Q .non H',rt:=Q } (L2.start ["row","divisor","rest","last","quotient","shift","weight","place"] vs) H:=by
 obtain ⟨p,q,f,g,b,d,rfl,hp,hq,lm,bn,bm,bb,b6,hn,hm,kN,kR⟩:=h;have m0:=lm.1;have P:=lm.2;obtain ⟨L,hL⟩:∃ L,g.length=L+1:=⟨g.length - 1,⋯⟩;have R:g.length - 1=L:=by omega
 rw [R] at P;generalize n:co g L=r at P;have aL:=Io m0;rw [R,n] at aL;generalize hc:f.length - L=c;refine Bc (Eh (AN rfl ⟨_,_,rfl,hp,λa ha=>?_⟩));have sa:=AL ha (.lst (f.map V.int));have ab:=sa _ _ hp;have ac:=sa _ _ hq;have ae:((List.map V.int g).length:Int) - 1=(L:Int):=by rw [AG];omega
 refine ⟨_,rfl,_,_,rfl,ac,_,_,rfl,rfl,?_⟩;show Pk K _ [some (.ref p),some (.ref q),some (.ref a),some (.int (((List.map V.int g).length:Int) - 1)),none,none,none,none] _;rw [ae];refine Bc (A5 (IQ (N_ ⟨C8,λx hx=>?_⟩)));have sx:=AL hx (.lst [.int 0]);have al:=sx _ _ ab
 have a1:(if (0:Int) > ((List.map V.int f).length:Int) - (L:Int) then (0:Int) else ((List.map V.int f).length:Int) - (L:Int))=(c:Int):=by
  rw [AG];split <;> omega
 refine ⟨_,rfl,_,_,rfl,al,_,rfl,_,_,rfl,rfl,_,_,rfl,?_⟩;refine ⟨_,(c:Int),_,rfl,congrArg V.int a1,upd_same,⋯,⋯,sz (by simp;omega),λy hy=>?_⟩;refine LX ha hx hy λH1 a2 a3 sH a4 am=>?_;rw [KM f] at a2;rw [D8,L5] at a3;have an:=sH _ _ hp;have ao:((List.map V.int f).length:Int) - (L:Int) - 1=(f.length:Int) - (L:Int) - 1:=by rw [AG]
 have ar:((f.length:Int) - (L:Int) - 1 - -1).toNat=c:=by omega
 refine PJ ?_;refine ⟨_,rfl,_,_,rfl,an,_,rfl,_,_,rfl,rfl,_,_,rfl,rfl,_,rfl,_,rfl,(f.length:Int) - (L:Int) - 1,_,by rw [<-ao],⟨⋯,⋯,∅,∅⟩,?_⟩;rw [ar]
 let Iv:Nat->L2.St->Hp->Prop:=λi S D=>i<=c/\∃ (F G:d7) (u v w:cN),S=[some (.ref p),some (.ref q),some (.ref a),some (.int (L:Int)),some (.ref y),u,v,w]/\Same H D/\D a=some (.lst (A3 f.length F))/\D y=some (.lst (A3 c G))/\
  (∀ j,j<c - i->G j=0)/\(∀ k,k<f.length - i->F k=co f k - cvL ((List.range c).map G) (co g) k)/\(∀ k,f.length - i<=k->co f k=cvL ((List.range c).map G) (co g) k)/\(∀ k,k<f.length->Bd (b+i*(d+1)) (F k))
 refine ForJ.down Iv ⟨Ae _,co f,λ_=>0,none,none,none,rfl,sH,a2,a3,λ_ _=>rfl,λk _=>by rw [KL];omega,λk hk=>by rw [KL,Ag ⋯],λk _=>(Dl bn k).mono ⋯⟩ ?_ ?_
 ·rintro i S D hi ⟨_,F,G,u,v,w,rfl,s2,I,U,hG,hF,J,bF⟩;have a5:=s2 _ _ hq;have ic:i<c:=hi;have b0:((f.length:Int) - (L:Int) - 1 - (i:Int))=((c - 1 - i:Nat):Int):=by omega
  rw [b0];generalize hs:c - 1 - i=s;have b9:s+L=f.length - 1 - i:=by omega
  have aT:Q_ (A3 f.length F) ((s:Int)+(L:Int))=some (V.int (F (s+L))):=Ck (j:=s+L) ⋯ (DW F ⋯);refine ⟨_,rfl,_,rfl,_,rfl,_,_,rfl,rfl,_,_,_,_,rfl,rfl,I,aT,_,rfl,_,rfl,_,_,_,_,rfl,rfl,a5,aL,_,_,rfl,rfl,P,?_⟩;show Pj K _ [some (.ref p),some (.ref q),some (.ref a),some (.int (L:Int)),some (.ref y),some (.int (s:Int)),some (.int ((F (s+L)).fdiv r)),w] D;generalize hw:(F (s+L)).fdiv r=m;have b1:=bF (s+L) ⋯;have W:Bd (b+i*(d+1)) m:=b1.le (by rw [<-hw];exact wA _ _)
  have bi:b+i*(d+1)<=60000000:=by
   have:=CY (d+1) (show i<=f.length by omega);omega
  have ba:b+(i+1)*(d+1)<=60000000:=by
   have:=CY (d+1) (show i+1<=f.length by omega);omega
  have b2:Bd d r:=by rw [<-n];exact Dl bm L
  refine ⟨_,rfl,_,rfl,_,rfl,_,_,_,_,rfl,rfl,a5,aL,_,_,rfl,rfl,D2 W b2,_,rfl,_,rfl,_,rfl,_,_,rfl,rfl,_,_,_,_,rfl,rfl,I,aT,rfl,_,rfl,Am (λY=>?_) (λY=>?_)⟩
  ·refine kN (λ⟨A,hA⟩=>?_) _ s2;have M:m*r≠F (s+L):=by simpa using Y
   have hX:∀ k,cvL (A4 A (((List.range c).map G).map ((-1)*·))) (co g) k=co f k - cvL ((List.range c).map G) (co g) k:=λk=>by rw [Bi,BD,<-hA];omega
   have q:=(ME lm (X:=A4 A (((List.range c).map G).map ((-1)*·))) (T:=s+1) (λk hk=>by rw [hX,J k ⋯];omega)).2 s rfl;rw [hX,R,n,<-hF (s+L) ⋯] at q;exact M (by rw [<-hw,q,Int.mul_fdiv_cancel _ P])
  have ex:m*r=F (s+L):=by simpa using Y
  refine ⟨_,rfl,_,rfl,_,rfl,_,_,_,s,rfl,rfl,U,by rw [Dk];exact FJ rfl ⋯,?_⟩;show Ph K _ [some (.ref p),some (.ref q),some (.ref a),some (.int (L:Int)),some (.ref y),some (.int (s:Int)),some (.int m),w] (upd D y (.lst ((A3 c G).set s (V.int m))));have b3:(A3 c G).set s (V.int m)=A3 c (λj=>if j=s then m else G j):=Hb ⋯ (qU rfl) λj _ hj=>qT hj;rw [b3];have s3:Same H (upd D y (.lst (A3 c λj=>if j=s then m else G j))):=λz o h=>Kp.upd z o (BM h am) (s2 z o h);have Z:(upd D y (.lst (A3 c λj=>if j=s then m else G j))) a=_:=(Ad a4).trans I;have B:(upd D y (.lst (A3 c λj=>if j=s then m else G j))) y=_:=upd_same;generalize (upd D y (.lst (A3 c λj=>if j=s then m else G j)))=H3 at s3 Z B ⊢;have a6:∀ k,cvL ((List.range c).map λj=>if j=s then m else G j) (co g) k=cvL ((List.range c).map G) (co g) k+m*Av s (co g) k:=λk=>R9 ⋯ (hG s ⋯) _ k
  have a7:∀ (F':d7) (u v w:cN) (N:Hp),Same H N->N a=some (.lst (A3 f.length F'))->N y=some (.lst (A3 c λj=>if j=s then m else G j))->(∀ k,k<f.length->F' k=F k - (if s<=k/\k - s<L then m*co g (k - s) else 0))->
    Iv (i+1) [some (.ref p),some (.ref q),some (.ref a),some (.int (L:Int)),some (.ref y),u,v,w] N:=λF' u v w N s4 C O eF=>by
   refine ⟨⋯,F',_,u,v,w,rfl,s4,C,O,λj hj=>?_,λk hk=>?_,λk hk=>?_,λk hk=>?_⟩
   ·show (if j=s then m else G j)=0;rw [qT ⋯];exact hG j ⋯
   ·rw [eF k ⋯,a6,hF k ⋯];unfold Av;by_cases h:s<=k
    ·rw [qU h,qU ⟨h,⋯⟩];omega
    ·rw [qT h,qT ⋯];omega
   ·rw [a6];by_cases ek:k=s+L
    ·have hf:=hF k ⋯;rw [ek] at hf ⊢;unfold Av;rw [qU ⋯,show s+L - s=L by omega,n,ex];omega
    ·have h2:=J k ⋯;rw [h2];unfold Av;by_cases h:s<=k
     ·rw [qU h,Ag (a:=g) ⋯];omega
     ·rw [qT h];omega
   ·rw [eF k hk];have e2:b+(i+1)*(d+1)=b+i*(d+1)+d+1:=by rw [Nat.add_mul];omega
    rw [e2];refine Bd.sub ((bF k hk).mono ⋯) ?_;split
    ·exact W.mul (Dl bm _)
    ·exact Dg _
  refine ⟨_,rfl,rfl,_,rfl,Am (λcw=>?_) (λcw=>?_)⟩
  ·refine ⟨_,rfl,_,rfl,⋯,⋯,?_⟩;rw [D8];refine ForR.by (λj S N=>∃ (u:cN),S=[some (.ref p),some (.ref q),some (.ref a),some (.int (L:Int)),some (.ref y),some (.int (s:Int)),some (.int m),u]/\Same H N/\N a=some (.lst (A3 f.length λk=>F k - (if s<=k/\k - s<j then m*co g (k - s) else 0)))/\N y=some (.lst (A3 c λj=>if j=s then m else G j))) ⟨w,rfl,s3,?_,B⟩ ?_ ?_
   ·rw [Z];exact congrArg (λl=>some (HO.lst l)) (Ii λk _=>by rw [qT ⋯];omega)
   ·rintro j S N hj ⟨u',rfl,s4,C,O⟩;have b4:=s4 _ _ hq;have aj:Q_ (g.map V.int) (0+(j:Int))=some (V.int (co g j)):=Ck (j:=j) ⋯ (by rw [KM];exact DW _ ⋯);refine ⟨_,rfl,_,rfl,_,rfl,_,_,rfl,rfl,_,_,_,_,rfl,rfl,C,Ck (j:=s+j) ⋯ (DW _ ⋯),_,rfl,_,rfl,_,rfl,_,_,_,_,rfl,rfl,b4,aj,_,_,rfl,rfl,D2 W (Dl bm j),_,_,rfl,rfl,_,_,_,s+j,rfl,rfl,C,by rw [Dk];exact FJ ⋯ ⋯,?_⟩;refine ⟨_,rfl,?_,?_,?_⟩
    ·intro z o h;exact Kp.upd z o (BM h ha) (s4 z o h)
    ·refine upd_same.trans (congrArg (λl=>some (HO.lst l)) (Hb ⋯ ?_ λk _ hk=>?_))
     ·rw [qU ⋯,qT ⋯,show s+j - s=j by omega];omega
     ·by_cases h:s<=k/\k - s<j
      ·rw [qU h,qU ⋯]
      ·rw [qT h,qT ⋯]
    ·rw [Ad (Ne.symm a4)];exact O
   ·rintro S N ⟨u',rfl,s4,C,O⟩;exact a7 _ _ _ _ _ s4 C O λk _=>rfl
  ·have w0:m=0:=by simpa using cw
   exact a7 F _ _ _ _ s3 Z B λk _=>by rw [w0];split <;> omega
 ·rintro S D ⟨_,F,G,u,v,w,rfl,s2,I,U,hG,hF,J,bF⟩;refine ⟨_,rfl,_,rfl,_,rfl,_,_,rfl,I,λz hz=>?_⟩;have a0:=AL hz (.lst (((List.range (min L f.length)).map F).map V.int));refine ⟨z,(List.range (min L f.length)).map F,rfl,by rw [MH];exact upd_same,?_⟩;rw [MH];refine ⟨_,rfl,Am (λY=>?_) (λY=>?_)⟩
  ·refine kN (λ⟨A,hA⟩=>?_) _ (s2.trans a0);have hX:∀ k,cvL (A4 A (((List.range c).map G).map ((-1)*·))) (co g) k=co f k - cvL ((List.range c).map G) (co g) k:=λk=>by rw [Bi,BD,<-hA];omega
   have q:=(ME lm (X:=A4 A (((List.range c).map G).map ((-1)*·))) (T:=0) (λk hk=>by rw [hX,J k ⋯];omega)).1;have M:((List.range (min L f.length)).map F).any (λz=>!decide (z=0))=true:=by simpa using Y
   obtain ⟨z,b5,a8⟩:=List.any_eq_true.mp M;obtain ⟨k,hk,rfl⟩:=AU.mp b5;have hk:=D5.mp hk;have e:=hX k;rw [B5,Fl g (λj=>q j (Ae j)),<-hF k ⋯] at e;rw [<-e] at a8;simp at a8
  ·have M:((List.range (min L f.length)).map F).any (λz=>!decide (z=0))=false:=by simpa using Y
   have B:=a0 _ _ U;rw [Im] at B;refine AN rfl (kR y _ _ (s2.trans a0) B λk=>?_);by_cases hk:f.length - c<=k
   ·exact J k hk
   ·have:=hF k ⋯;rw [wB M k ⋯] at this;omega
theorem SC {K:W.Frag} {a:Addr} {capt:List (Option Nat)} {g:TE} {h:L2.St} {Q:VK} {H:Hp} {b:cO} (F:Int->Int) (hp:H a=some (.lst (b.map V.int))) (u:b.length<=1000)
  (m:∀ n,n∈b->∀ P:VK,P (.int (F n)) H->g ((CS capt h).set 0 (some (.int n))) H P) (o:∀ p,H p=none->Q (.ref p) (upd H p (.lst ((b.map F).map V.int)))):CompJ (ah K a) capt (AE 0) g h Q H:=by
 refine CompJ.lst (xs:=b.map V.int) (λi f c=>i<=b.length/\c=H/\f=((b.map F).take i).map V.int) ⟨Ae _,rfl,rfl⟩ ?_ ?_ ?_
 ·rintro i f c ⟨k,rfl,rfl⟩;refine ⟨by rw [AG];exact k,sz ?_,SqL.of hp⟩;rw [AG,CC];omega
 ·rintro i x f c d ⟨k,rfl,rfl⟩;rw [Ac] at d;cases e:b[i]? with
  | none=>rw [e] at d;cases d
  | some n=>
    rw [e] at d;obtain rfl:V.int n=x:=pE d;have r:i<b.length:=(BF.mp e).1;show g ((CS capt h).set 0 (some (.int n))) c _;refine m n (Ay e) _ ⟨⋯,rfl,?_⟩;rw [HZ V.int (q:=F n) (by rw [Ac,e];rfl)]
 ·rintro f c ⟨_,rfl,rfl⟩ p j;have e:(b.map F).take (b.map V.int).length=b.map F:=by rw [AG,show b.length=(b.map F).length by rw [AG],CW]
  rw [e];exact o p j
theorem wD (h:Jy K vs H Q E):QN K { nx:=λ_ a=>Q .non a,rt:=Q } (L2.start ["row","prime"] vs) H:=by
 obtain ⟨p,e,m,rfl,hp,b,c,q⟩:=h;unfold QN;rwa [];refine ⟨⟨_,SqL.of hp⟩,SC (·% m) hp c (λn _ P d=>?_) q⟩;rwa [];exact ⟨b,d⟩
theorem Ip {F:Int->Int} (b:F 0=0) (a:cO) (k:Nat):co (a.map F) k=F (co a k):=by
 unfold co;rw [AT,AT,Ac];cases a[k]? with
 | none=>exact b.symm
 | some z=>rfl
theorem SE {a:cO} {z:Int} (h:z∈Cw a):z∈a:=List.mem_of_mem_take h
theorem wE (a:cO):(Cw a).length<=a.length:=by rw [L7];exact L6 _ _
theorem He (a m:Int):m∣a % m - a:=⟨-(a / m),by have:=Int.emod_add_mul_ediv a m;rw [Int.mul_neg];omega⟩
theorem wF (h:HR K vs H Q E):QO K { nx:=λ_ b=>Q .non b,rt:=Q } (L2.start ["row","prime"] vs) H:=by
 obtain ⟨p,g,m,rfl,hp,a,c,q⟩:=h;unfold QO;rwa [hp];refine ⟨_,rfl,a,c,λr d=>?_⟩;refine ⟨_,rfl,λt e=>?_⟩;refine q t _ _ ((AL d _).trans (AL e _)) upd_same (MF _) (BT (wE _) (by rw [AG];exact AO _)) ⟨λz f=>?_,λk=>?_⟩
 ·obtain ⟨y,_,rfl⟩:=AU.mp (SE f);exact ⟨CN _ ⋯,Cc _ a⟩
 ·rw [MG,Ip (Int.zero_emod m)];exact He _ _
theorem wG (h:Jx K vs H Q E):QM K { nx:=λ_ d=>Q .non d,rt:=Q } (L2.start ["whole","prime","one","other","one_weight","other_weight","quotient","rest"] vs) H:=by
 obtain ⟨a,p,rfl,p2,I,q⟩:=h;unfold QM QL QK QJ QH;rwa [];refine ⟨⋯,?_⟩;have J:=CN a (show p≠0 by omega);have L:=Cc a (show 0<p by omega)
 refine EH (λn m d=>∃ (x y s t:Int) (u v:cN),m=[some (.int a),some (.int p),some (.int x),some (.int y),some (.int s),some (.int t),u,v]/\d=H/\n=y.toNat/\0<=y/\y<x/\x<=p/\
  Int.gcd x y=Int.gcd a p/\p∣x - s*a/\p∣y - t*a/\(t.natAbs:Int)*x+(s.natAbs:Int)*y<=p/\(s.natAbs:Int)<=p) (a % p).toNat ⟨p,a % p,0,1,none,none,rfl,rfl,rfl,J,L,Int.le_refl _,?_,⟨1,⋯⟩,?_,by simp,by simp;omega⟩ ?_
 ·rw [Ng a ⋯]
 ·rw [show a % p - 1*a=a % p - a by omega];exact He a p
 ·rintro n m d ⟨x,y,s,t,u,v,rfl,rfl,rfl,e,yx,xp,f,o,r,hb,M⟩;have tx:(t.natAbs:Int)*1<=(t.natAbs:Int)*x:=Hu ⋯ ⋯;have sy:0<=(s.natAbs:Int)*y:=Int.mul_nonneg ⋯ e;have N:(t.natAbs:Int)<=p:=by omega
  rwa [];refine Am (λc=>?_) (λc=>?_)
  ·have w:0<y:=by
    have:y≠0:=by simpa using c
    omega
   unfold QF QE QD QC QB QA P8;have q0:=Int.ediv_nonneg (show 0<=x by omega) e;have q1:x / y<=x:=Int.ediv_le_self y ⋯;have r0:=CN x (show y≠0 by omega);have r1:=Cc x w;have g:x - x / y*y=x % y:=by have:=Int.emod_add_mul_ediv x y;rw [Int.mul_comm] at this;omega
   have B:∀ {z:Int},z.natAbs<=p.natAbs->Bd 60000000 z:=λh=>(I.le h).mono ∅;refine ⟨λO P=>∃ R,R<y.toNat/\_,λ_ _ h=>h,?_⟩;rwa [];refine ⟨w,D2 (B ⋯) (B ⋯),D2 (B ⋯) (B ⋯),?_⟩;refine ⟨(x - x / y*y).toNat,⋯,rfl,⋯,⋯,⋯,?_,r,?_,?_,N⟩
   ·rw [g,Ng x e];exact f
   ·obtain ⟨b,i⟩:=o;obtain ⟨A,S⟩:=r
    exact ⟨b - x / y*A,by
     generalize x / y=j at *;have k:x=s*a+p*b:=by omega
     have C:y=t*a+p*A:=by omega
     rw [k,C];ext⟩
   ·have T:((s - x / y*t).natAbs:Int)<=(s.natAbs:Int)+x / y*(t.natAbs:Int):=by
     have U:=Int.natAbs_sub_le s (x / y*t);rw [CF] at U;have W:((x / y).natAbs:Int)=x / y:=by omega
     have h3:(((x / y).natAbs*t.natAbs:Nat):Int)=x / y*(t.natAbs:Int):=by rw [Int.natCast_mul,W]
     omega
    have n2:=Int.mul_le_mul_of_nonneg_right T e;rw [g];have X:(t.natAbs:Int)*(x % y)=(t.natAbs:Int)*x - (t.natAbs:Int)*(x / y*y):=by rw [<-g,Int.mul_sub]
    rw [X];generalize (t.natAbs:Int)=D at *;generalize (s.natAbs:Int)=F at *;generalize x / y=j at *;have n4:(F+j*D)*y=F*y+D*(j*y):=by ext
    omega
  ·have Y:y=0:=by simpa using c
   unfold QG;rwa [];refine ⟨⋯,q _ (CN _ ⋯) (Cc _ ⋯) λZ=>?_⟩
   have x1:x=1:=by
    rw [Y] at f;rw [Int.gcd_zero_right,Z] at f;omega
   obtain ⟨b,i⟩:=o;obtain ⟨G,a2⟩:=He s p;refine ⟨G*a - b,?_⟩;have k:s % p=s+p*G:=by omega
   rw [k];have C:s*a=1 - p*b:=by omega
   ext
theorem wH (h:HS K vs H Q E):QP K { nx:=λ_ w=>Q .non w,rt:=Q } (L2.start ["row","prime","factor"] vs) H:=by
 obtain ⟨q,a,p,rfl,g,o,u,x,A,b,k⟩:=h;have C:(2:Int)<=(p:Int):=by have:=o.two;omega
 unfold QP;rwa [g];by_cases d:a=[]
 ·subst d;refine Am (λ_=>?_) (λc=>absurd rfl c);refine ⟨sz ∅,λr j=>k r [] 0 _ (AL j _) upd_same rfl (λz=>absurd rfl z) ⟨λz b=>(by cases b),λi=>?_⟩⟩;show (p:Int)∣co [] i - 0*co [] i;rw [Ag (Ae _)];exact ⟨0,⋯⟩
 have D:0<a.length:=Bk.mpr d;refine Am (λc=>absurd c (by simpa using d)) (λ_=>?_);have G:=Io D;rwa [G];refine ⟨C,u,λf I J m=>?_⟩
 have L:co a (a.length - 1)≠0:=by
  rcases A with h | h
  ·exact absurd h d
  ·exact h
 have O:0<=co a (a.length - 1)/\co a (a.length - 1)<(p:Int):=b _ (by
  unfold co;rw [AT,Aj ⋯];exact Dq _)
 have M:Int.gcd (co a (a.length - 1)) (p:Int)=1:=o.cop λz=>by
  have:=EU ⋯ z;omega
 have m:=m M;have B:∀ {z:Int},0<=z->z<(p:Int)->Bd 60000000 z:=λR S=>(u.le ⋯).mono ∅;refine ⟨⟨_,SqL.of g⟩,SC (λn=>n*f % (p:Int)) g x (λn d P N=>?_) λr j=>?_⟩
 ·rwa [];exact ⟨D2 (B (b n d).1 (b n d).2) (B I J),⋯,N⟩
 ·have v:∀ i,co (a.map λn=>n*f % (p:Int)) i=co a i*f % (p:Int):=λi=>Ip (F:=λn=>n*f % (p:Int)) (by simp) a i;refine k r _ f _ (AL j _) upd_same (AG ..) (λ_=>?_) ⟨λz b=>?_,λi=>?_⟩
  ·rw [AG,v];obtain ⟨c,T⟩:=m;have e:co a (a.length - 1)*f=1+(p:Int)*c:=by rw [Int.mul_comm];omega
   rw [e,Int.add_mul_emod_self_left];exact Int.emod_eq_of_lt ∅ ⋯
  ·obtain ⟨y,_,rfl⟩:=AU.mp b;exact ⟨CN _ ⋯,Cc _ ⋯⟩
  ·rw [v];show (p:Int)∣co a i*f % (p:Int) - f*co a i;rw [Int.mul_comm f];exact He _ _
theorem wI (h:J2 K vs H Q E):QW K { nx:=λ_ d=>Q .non d,rt:=Q } (L2.start ["whole","prime","rest"] vs) H:=by
 obtain ⟨w,p,rfl,a,k⟩:=h;unfold QW;rwa [];have g:=CN w (show p≠0 by omega);have i:=Cc w a;have b:=He w p;refine ⟨a,IntMulOk.of_left (intBits_le_64 ⋯ ⋯),Am (λc=>?_) (λc=>?_)⟩
 ·refine k _ ?_ ⋯;obtain ⟨e,f⟩:=b;exact ⟨e - 1,by rw [Int.mul_sub];omega⟩
 ·exact k _ b ⋯
theorem wJ (h:J0 K vs H Q E):QU K { nx:=λ_ a=>Q .non a,rt:=Q } (L2.start ["row","divisor","modulus"] vs) H:=by
 obtain ⟨p,q,d,e,m,b,rfl,hp,f,g,i,mp,j,c,n,o,u,k⟩:=h;unfold QU;rwa [hp,f];refine ⟨d,rfl,e,rfl,g,i,mp,b,j,c,n,o,u,λt r s v w a x y C z D tr A B _=>?_⟩;refine ⟨_,y,?_⟩;rwa [];exact k s v w a x z tr A B
theorem wK (h:J1 K vs H Q E):QV K { nx:=λ_ P=>Q .non P,rt:=Q } (L2.start ["row","other","prime","rest"] vs) H:=by
 obtain ⟨a,b,ns,ms,p,rfl,ha,hb,pp,Y,hn,hm,h0,k⟩:=h;have p2:(2:Int)<=(p:Int):=by have:=pp.two;omega
 unfold QV;rwa [ha];refine ⟨ns,rfl,⋯,hn,λc r1 H1 s1 hc a2 l1 w=>?_⟩;refine ⟨r1,p,rfl,hc,pp,Y,⋯,a2,w.1,λd n f H2 s2 hd l2 o2 R=>?_⟩;have a3:=s2 _ _ (s1 _ _ hb);rwa [a3];refine ⟨ms,rfl,⋯,hm,λc' r3 H3 s3 a4 a5 l3 L=>?_⟩;refine ⟨r3,p,rfl,a4,pp,Y,⋯,a5,L.1,λd' r4 f' H4 s4 a6 l4 o4 S=>?_⟩;have a7:Same H H4:=((s1.trans s2).trans s3).trans s4;have a8:=(s3.trans s4) _ _ hd
 have I:∀ {g h:d7} {q:cO} {f:Int},Dm (p:Int) g h->Md (p:Int) q (λk=>f*h k)->Dm (p:Int) g (co q):=λ{g h q f} d v=>by
  refine Dm.congr (Dm.less d d f 0 0) λk=>?_;have:=v.2 k;show (p:Int)∣co q k - (f*h k - 0*_);rw [Int.zero_mul,Int.sub_zero];exact this
 have nz:∀ {i q M:cO} {f:Int},(∃ k,¬ (p:Int)∣co i k)->Md (p:Int) q (co i)->M.length=q.length->0<M.length:=λ{i q M f} ⟨k,hk⟩ v e=>by
  rcases D6 M.length with z | z
  ·exfalso;have:=v.2 k;rw [Ag ⋯] at this;have t2:=Int.dvd_neg.mpr this;rw [show ∀ x:Int,-(0 - x)=x by intro x;omega] at t2;exact hk t2
  ·exact z
 have M1:∀ {i q:cO},Md (p:Int) q (co i)->∀ {g:d7},Dm (p:Int) g (co i)->Dm (p:Int) g (co q):=λv g d=>Dm.congr d v.2
 have J:∀ {g:d7} {r n:cO} {f:Int},Md (p:Int) n (λk=>f*co r k)->n.length=r.length->(r≠[]->co n (n.length - 1)=1)->Dm (p:Int) g (co n)->Dm (p:Int) g (co r):=λ{g r n f} v l o d=>by
  by_cases r0:r=[]
  ·exact Dm.zero _ _ λk=>by rw [r0,Ag (Ae _)];exact Cq _
  ·refine Dm.congr (Dm.less d d (co r (r.length - 1)) 0 0) λk=>?_;show (p:Int)∣co r k - (co r (r.length - 1)*co n k - 0*_);rw [Int.zero_mul,Int.sub_zero];have X:=v.2 k;have T:=v.2 (n.length - 1);rw [o r0,l] at T;have q1:(p:Int)∣co r (r.length - 1)*(co n k - f*co r k):=FR X;have q2:(p:Int)∣co r k*(1 - f*co r (r.length - 1)):=FR T;refine CL (Int.dvd_sub q2 q1) (FK ?_);ext
 have O:∀ {g:d7} {i r n:cO} {f:Int},Md (p:Int) r (co i)->Md (p:Int) n (λk=>f*co r k)->n.length=r.length->(r≠[]->co n (n.length - 1)=1)->Dm (p:Int) g (co n)->Dm (p:Int) g (co i):=λ{g i r n f} w v l o d=>Dm.congr (J v l o d) λk=>by
  have:=Int.dvd_neg.mpr (w.2 k);refine CL this (FK ?_);omega
 refine EH (λm σ P=>∃ (x y:Addr) (i j:cO) (u:cN),σ=[some (.ref x),some (.ref y),some (.int (p:Int)),u]/\Same H P/\P x=some (.lst (i.map V.int))/\P y=some (.lst (j.map V.int))/\m=j.length/\i.length<=1000/\j.length<=1000/\(0<i.length\/0<j.length)/\(i≠[]->co i (i.length - 1)=1)/\(j≠[]->co j (j.length - 1)=1)/\(∀ z∈i,0<=z/\z<(p:Int))/\(∀ z∈j,0<=z/\z<(p:Int))/\
  (∀ g:d7,Dm (p:Int) g (co ns)->Dm (p:Int) g (co ms)->Dm (p:Int) g (co i)/\Dm (p:Int) g (co j))/\(∀ g:d7,Dm (p:Int) g (co i)->Dm (p:Int) g (co j)->Dm (p:Int) g (co ns)/\Dm (p:Int) g (co ms))) r4.length ⟨d,d',n,r4,none,rfl,a7,a8,a6,rfl,⋯,⋯,?_,?_,?_,R.1,S.1,λg C F=>⟨I (M1 w C) R,I (M1 L F) S⟩,λg C F=>⟨O w R l2 o2 C,O L S l4 o4 F⟩⟩ ?_
 ·rcases h0 with h | h
  ·exact .inl (nz (f:=f) h w l2)
  ·exact .inr (nz (f:=f) h L l4)
 ·intro z;exact o2 λe=>z (CI.mp (by rw [l2,e];rfl))
 ·intro z;exact o4 λe=>z (CI.mp (by rw [l4,e];rfl))
 ·rintro m σ P ⟨x,y,i,j,u,rfl,sH,hx,hy,rfl,xl,yl,ne,ox,oy,bx,bY,hD,hE⟩;rwa [hy];by_cases N:j=[]
  ·subst N;refine Am (λc=>absurd c (by simp)) (λ_=>?_);have x0:0<i.length:=by simpa using ne
   have Z:Dm (p:Int) (co i) (co i):=⟨[1],λk=>by
    have e:cvL [1] (co i) k=co i k:=by
     cases k with
     | zero=>rw [Ax];omega
     | succ k=>rw [Ar,BC];omega
    rw [e,Int.sub_self];exact Cq _⟩
   have zz:Dm (p:Int) (co i) (co []):=Dm.zero _ _ λk=>by rw [Ag (Ae _)];exact Cq _
   exact k x i P sH hx x0 xl (ox (Bk.mp x0)) bx (λg C F=>(hD g C F).1) (hE _ Z zz).1 (hE _ Z zz).2
  ·have y0:0<j.length:=Bk.mpr N;refine Am (λ_=>?_) (λc=>absurd N (by simpa using c));refine ⟨λae aj=>∃ m',m'<j.length/\_,λ_ _ h=>h,?_⟩;rwa [hx,hy];have B:∀ z:Int,0<=z->z<(p:Int)->Bd 45000 z:=λz X T=>Y.le ⋯;refine ⟨i,rfl,j,rfl,y0,oy N,⋯,45000,Y,λz hz=>B z (bY z hz).1 (bY z hz).2,∅,xl,yl,λs G q H2 a0 hs ab al v=>?_⟩
   have U:∀ g:d7,Dm (p:Int) g (co j)->Dm (p:Int) g (co q)->Dm (p:Int) g (co i):=λg C F=>by
    obtain ⟨S1,X⟩:=C;obtain ⟨D,T⟩:=F;refine ⟨A4 D (BV G S1),λk=>?_⟩;rw [Bi,Bu];have e1:=bK X G k;have m2:(p:Int)∣co q k - (co i k - cvL G (co j) k):=v.2 k;have:=Co (Int.dvd_sub (T k) m2) e1;refine CL this (FK ?_);omega
   refine ⟨q,p,rfl,hs,pp,Y,⋯,ab,v.1,λt ts f H3 a1 ht lt ot W=>?_⟩;refine ⟨ts.length,⋯,(sH.trans a0).trans a1,j,(a0.trans a1) _ _ hy,ts,ht,rfl,yl,⋯,.inl y0,oy,λz=>ot λe=>z (CI.mp (by rw [lt,e];rfl)),bY,W.1,λg C F=>⟨(hD g C F).2,?_⟩,λg C F=>hE g (U g C (J W lt ot F)) C⟩;obtain ⟨dx,dy⟩:=hD g C F
   have dr:Dm (p:Int) g (co q):=by
    obtain ⟨S1,X⟩:=dx;obtain ⟨D,T⟩:=dy;refine Dm.congr (f:=λk=>co i k - cvL G (co j) k) ⟨A4 S1 ((BV G D).map (-1*·)),λk=>?_⟩ v.2;rw [Bi,BD,Bu]
    have e:(p:Int)∣cvL G (co j) k - cvL G (cvL D g) k:=by
     have ac:∀ (A:cO) (k:Nat),(p:Int)∣cvL A (co j) k - cvL A (cvL D g) k:=by
      intro A
      induction A with
      | nil=>intro k;rw [BC,BC];exact ⟨0,⋯⟩
      | cons a A ih=>
        intro k;rw [GZ,GZ]
        have i2:(p:Int)∣DS (cvL A (co j)) k - DS (cvL A (cvL D g)) k:=by
         cases k with
         | zero=>exact ⟨0,by show (0:Int) - 0=_;omega⟩
         | succ k=>exact ih k
        have i1:(p:Int)∣a*(co j k - cvL D g k):=FR (T k);have:=Co i1 i2;rw [show a*(co j k - cvL D g k)+(DS (cvL A (co j)) k - DS (cvL A (cvL D g)) k)=a*co j k+DS (cvL A (co j)) k - (a*cvL D g k+DS (cvL A (cvL D g)) k) by rw [Int.mul_sub];omega] at this;exact this
     exact ac G k
    have:=Int.dvd_sub (X k) e;rw [show co i k - cvL S1 g k - (cvL G (co j) k - cvL G (cvL D g) k)=co i k - cvL G (co j) k - (cvL S1 g k + -1*cvL G (cvL D g) k) by omega] at this;exact this
   exact I dr W
theorem wL (h:Jz K vs H Q E):Zl K { nx:=λ_ H'=>Q .non H',rt:=Q } (L2.start ["row","divisor","modulus","rest","last","quotient","shift","weight","place"] vs) H:=by
 obtain ⟨p,q,d,g,m,b,rfl,hp,hq,m0,ml,mp,bm,a2,bb,hn,hm,kR⟩:=h;obtain ⟨L,hL⟩:∃ L,g.length=L+1:=⟨g.length - 1,⋯⟩;have a3:g.length - 1=L:=by omega
 rw [a3] at ml;generalize hc:d.length - L=c;refine Bc (Eh (AN rfl ⟨_,_,rfl,hp,λa ha=>?_⟩));have sa:=AL ha (.lst (d.map V.int));have a4:=sa _ _ hp;have a5:=sa _ _ hq;have a6:((List.map V.int g).length:Int) - 1=(L:Int):=by rw [AG];omega
 refine ⟨_,rfl,_,_,rfl,a5,_,_,rfl,rfl,?_⟩;show QT K _ [some (.ref p),some (.ref q),some (.int m),some (.ref a),some (.int (((List.map V.int g).length:Int) - 1)),none,none,none,none] _;rw [a6];refine Bc (A5 (IQ (N_ ⟨C8,λx hx=>?_⟩)));have a7:=AL hx (.lst [.int 0]) _ _ a4
 have T:(if (0:Int) > ((List.map V.int d).length:Int) - (L:Int) then (0:Int) else ((List.map V.int d).length:Int) - (L:Int))=(c:Int):=by
  rw [AG];split <;> omega
 refine ⟨_,rfl,_,_,rfl,a7,_,rfl,_,_,rfl,rfl,_,_,rfl,?_⟩;refine ⟨_,(c:Int),_,rfl,congrArg V.int T,upd_same,⋯,⋯,sz (by simp;omega),λy hy=>?_⟩;refine LX ha hx hy λH1 U W sH X a8=>?_;rw [KM d] at U;rw [D8,L5] at W;have ab:=sH _ _ hp;have ac:((List.map V.int d).length:Int) - (L:Int) - 1=(d.length:Int) - (L:Int) - 1:=by rw [AG]
 have ae:((d.length:Int) - (L:Int) - 1 - -1).toNat=c:=by omega
 refine PJ ?_;refine ⟨_,rfl,_,_,rfl,ab,_,rfl,_,_,rfl,rfl,_,_,rfl,rfl,_,rfl,_,rfl,(d.length:Int) - (L:Int) - 1,_,by rw [<-ac],⟨⋯,⋯,∅,∅⟩,?_⟩;rw [ae]
 let Iv:Nat->L2.St->Hp->Prop:=λi O n=>i<=c/\∃ (F G:d7) (u v w:cN),O=[some (.ref p),some (.ref q),some (.int m),some (.ref a),some (.int (L:Int)),some (.ref y),u,v,w]/\Same H n/\n a=some (.lst (A3 d.length F))/\n y=some (.lst (A3 c G))/\
  (∀ j,j<c - i->G j=0)/\(∀ k,k<d.length - i->m∣F k - (co d k - cvL ((List.range c).map G) (co g) k))/\(∀ k,d.length - i<=k->m∣co d k - cvL ((List.range c).map G) (co g) k)/\(∀ j,j<c->0<=G j/\G j<m)
 refine ForJ.down Iv ⟨Ae _,co d,λ_=>0,none,none,none,rfl,sH,U,W,λ_ _=>rfl,λk _=>by rw [KL];exact ⟨0,⋯⟩,λk hk=>by rw [KL,Ag ⋯];exact ⟨0,⋯⟩,λk _=>⟨Int.le_refl 0,mp⟩⟩ ?_ ?_
 ·rintro i O n hi ⟨_,F,G,u,v,w,rfl,s2,I,J,hG,hF,P,bG⟩;have b0:=s2 _ _ hq;have ic:i<c:=hi;have al:((d.length:Int) - (L:Int) - 1 - (i:Int))=((c - 1 - i:Nat):Int):=by omega
  rw [al];generalize hs:c - 1 - i=s;have b1:s+L=d.length - 1 - i:=by omega
  have aT:Q_ (A3 d.length F) ((s:Int)+(L:Int))=some (V.int (F (s+L))):=Ck (j:=s+L) ⋯ (DW F ⋯);refine ⟨_,rfl,_,rfl,_,rfl,_,_,rfl,rfl,_,_,_,_,rfl,rfl,I,aT,_,rfl,_,_,rfl,rfl,mp,?_⟩;show QR K _ [some (.ref p),some (.ref q),some (.int m),some (.ref a),some (.int (L:Int)),some (.ref y),some (.int (s:Int)),some (.int (F (s+L) % m)),w] n;have w0:=CN (F (s+L)) (show m≠0 by omega);have w1:=Cc (F (s+L)) mp;have wd:=He (F (s+L)) m;generalize hw:F (s+L) % m=f at w0 w1 wd ⊢;have am:Bd b f:=bm.le ⋯;refine ⟨_,rfl,_,rfl,_,rfl,_,_,_,s,rfl,rfl,J,by rw [Dk];exact FJ rfl ⋯,?_⟩;show QQ K _ [some (.ref p),some (.ref q),some (.int m),some (.ref a),some (.int (L:Int)),some (.ref y),some (.int (s:Int)),some (.int f),w] (upd n y (.lst ((A3 c G).set s (V.int f))));rw [show (A3 c G).set s (V.int f)=A3 c (λj=>if j=s then f else G j) from Hb ⋯ (qU rfl) λj _ R=>qT R];have s3:Same H (upd n y (.lst (A3 c λj=>if j=s then f else G j))):=λz o h=>Kp.upd z o (BM h a8) (s2 z o h);have A:(upd n y (.lst (A3 c λj=>if j=s then f else G j))) a=_:=(Ad X).trans I;have S:(upd n y (.lst (A3 c λj=>if j=s then f else G j))) y=_:=upd_same;generalize (upd n y (.lst (A3 c λj=>if j=s then f else G j)))=H3 at s3 A S ⊢;have Y:∀ k,cvL ((List.range c).map λj=>if j=s then f else G j) (co g) k=cvL ((List.range c).map G) (co g) k+f*Av s (co g) k:=λk=>R9 ⋯ (hG s ⋯) _ k
  have Z:∀ (F':d7) (u v w:cN) (C:Hp),Same H C->C a=some (.lst (A3 d.length F'))->C y=some (.lst (A3 c λj=>if j=s then f else G j))->(∀ k,k<d.length->F' k=F k - (if s<=k/\k - s<L then f*co g (k - s) else 0))->
    Iv (i+1) [some (.ref p),some (.ref q),some (.int m),some (.ref a),some (.int (L:Int)),some (.ref y),u,v,w] C:=λF' u v w C M B D eF=>by
   refine ⟨⋯,F',_,u,v,w,rfl,M,B,D,λj R=>?_,λk hk=>?_,λk hk=>?_,λj R=>?_⟩
   ·show (if j=s then f else G j)=0;rw [qT ⋯];exact hG j ⋯
   ·have hf:=hF k ⋯;rw [eF k ⋯,Y];unfold Av;by_cases h:s<=k
    ·rw [qU h,qU ⟨h,⋯⟩];rw [show ∀ x y z w:Int,x - y - (z - (w+y))=x - (z - w) by intro x y z w;omega];exact hf
    ·rw [qT h,qT ⋯];rw [show ∀ x z w:Int,x - 0 - (z - (w+f*0))=x - (z - w) by intro x z w;omega];exact hf
   ·rw [Y];by_cases ek:k=s+L
    ·have hf:=hF k ⋯;rw [ek] at hf ⊢;unfold Av;rw [qU ⋯,show s+L - s=L by omega,ml];obtain ⟨α,b2⟩:=hf;obtain ⟨β,b3⟩:=wd;exact ⟨-α - β,by rw [Int.mul_sub,Int.mul_neg];omega⟩
    ·have N:=P k ⋯;unfold Av;by_cases h:s<=k
     ·rw [qU h,Ag (a:=g) ⋯,Int.mul_zero,Int.add_zero];exact N
     ·rw [qT h,Int.mul_zero,Int.add_zero];exact N
   ·show 0<=(if j=s then f else G j)/\(if j=s then f else G j)<m;split
    ·exact ⟨w0,w1⟩
    ·exact bG j R
  refine ⟨_,rfl,rfl,_,rfl,Am (λcw=>?_) (λcw=>?_)⟩
  ·refine ⟨_,rfl,_,rfl,⋯,⋯,?_⟩;rw [D8];refine ForR.by (λj O C=>∃ (u:cN),O=[some (.ref p),some (.ref q),some (.int m),some (.ref a),some (.int (L:Int)),some (.ref y),some (.int (s:Int)),some (.int f),u]/\Same H C/\C a=some (.lst (A3 d.length λk=>F k - (if s<=k/\k - s<j then f*co g (k - s) else 0)))/\C y=some (.lst (A3 c λj=>if j=s then f else G j))) ⟨w,rfl,s3,?_,S⟩ ?_ ?_
   ·rw [A];exact congrArg (λl=>some (HO.lst l)) (Ii λk _=>by rw [qT ⋯];omega)
   ·rintro j O C R ⟨u',rfl,M,B,D⟩;have an:=M _ _ hq;have aj:Q_ (g.map V.int) (0+(j:Int))=some (V.int (co g j)):=Ck (j:=j) ⋯ (by rw [KM];exact DW _ ⋯);refine ⟨_,rfl,_,rfl,_,rfl,_,_,rfl,rfl,_,_,_,_,rfl,rfl,B,Ck (j:=s+j) ⋯ (DW _ ⋯),_,rfl,_,rfl,_,rfl,_,_,_,_,rfl,rfl,an,aj,_,_,rfl,rfl,D2 am (Dl a2 j),_,_,rfl,rfl,_,_,_,s+j,rfl,rfl,B,by rw [Dk];exact FJ ⋯ ⋯,?_⟩;refine ⟨_,rfl,?_,?_,?_⟩
    ·intro z o h;exact Kp.upd z o (BM h ha) (M z o h)
    ·refine upd_same.trans (congrArg (λl=>some (HO.lst l)) (Hb ⋯ ?_ λk _ hk=>?_))
     ·rw [qU ⋯,qT ⋯,show s+j - s=j by omega];omega
     ·by_cases h:s<=k/\k - s<j
      ·rw [qU h,qU ⋯]
      ·rw [qT h,qT ⋯]
    ·rw [Ad (Ne.symm X)];exact D
   ·rintro O C ⟨u',rfl,M,B,D⟩;exact Z _ _ _ _ _ M B D λk _=>rfl
  ·have ao:f=0:=by simpa using cw
   exact Z F _ _ _ _ s3 A S λk _=>by rw [ao];split <;> omega
 ·rintro O n ⟨_,F,G,u,v,w,rfl,s2,I,J,hG,hF,P,bG⟩;rw [Im] at J;show QS K _ _ _;refine CU (Bv (BS ⟨_,rfl,_,_,rfl,J,λt ht=>?_⟩));have st:=AL ht (.lst (List.map V.int (Cw (List.map G (List.range c)))));have A:=st _ _ I;have a0:upd n t (.lst (List.map V.int (Cw (List.map G (List.range c))))) t=_:=upd_same;generalize upd n t (.lst (List.map V.int (Cw (List.map G (List.range c)))))=H3 at st A a0 ⊢;refine Bb ⟨_,rfl,_,rfl,_,rfl,_,_,rfl,A,λz hz=>⟨_,rfl,z,(List.range (min L d.length)).map F,m,rfl,by rw [MH];exact upd_same,mp,by rw [AG,Bj];omega,λr rs C M ar tr lr md=>?_⟩⟩;have a1:=(AL hz _).trans M;rw [AG,Bj] at lr;refine ⟨Az,λe he=>?_⟩;have se:=AL he (.tup [.ref t,.ref r])
  have cq:∀ k,cvL (Cw ((List.range c).map G)) (co g) k=cvL ((List.range c).map G) (co g) k:=λk=>by
   rw [B5,BI (λj=>MG _ j) g k,<-B5]
  refine kR e t r _ rs _ ((s2.trans st).trans (a1.trans se)) upd_same (se _ _ (a1 _ _ a0)) (se _ _ ar) (MF _) tr ⋯ ⟨md.1,λk=>?_⟩ λz hz=>?_
  ·have:=md.2 k;rw [Jk] at this;show m∣co rs k - (co d k - cvL (Cw ((List.range c).map G)) (co g) k);rw [cq];by_cases hk:k<min L d.length
   ·rw [qU hk] at this;have N:=Co this (hF k ⋯);rw [show ∀ x y z:Int,x - y+(y - z)=x - z by intro x y z;omega] at N;exact N
   ·rw [qT hk] at this;have N:=Int.dvd_sub this (P k ⋯);rw [show ∀ x y:Int,x - 0 - y=x - y by intro x y;omega] at N;exact N
  ·obtain ⟨j,R,rfl⟩:=AU.mp (SE hz);exact bG j (D5.mp R)
theorem SDs.tp {H a:Hp} (s:Same H a):∀ {xs:cM} {b:List (cO)},SDs H xs b->SDs a xs b
 | [],[],_=>trivial
 | _::_,_::_,h=>⟨let ⟨p,e,q⟩:=h.1;⟨p,e,s _ _ q⟩,SDs.tp s h.2⟩
 | [],_::_,h=>h.elim
 | _::_,[],h=>h.elim
theorem SD.tp {H a:Hp} (s:Same H a) {p:Addr} {b:List (cO)} (h:SD H p b):SD a p b:=let ⟨c,e,q⟩:=h;⟨c,s _ _ e,q.tp s⟩
theorem SDs.length {H:Hp}:∀ {xs:cM} {a:List (cO)},SDs H xs a->xs.length=a.length
 | [],[],_=>rfl
 | _::_,_::_,h=>congrArg (·+1) (SDs.length h.2)
 | [],_::_,h=>h.elim
 | _::_,[],h=>h.elim
theorem SDs.get {H:Hp}:∀ {xs:cM} {a:List (cO)} {i:Nat} {v:V},SDs H xs a->xs[i]?=some v->∃ p r,v=.ref p/\a[i]?=some r/\H p=some (.lst (r.map V.int))
 | [],[],_,_,_,e=>by simp at e
 | _::_,r::_,0,_,h,e=>by
   simp at e;subst e;obtain ⟨p,e,q⟩:=h.1;exact ⟨p,r,e,rfl,q⟩
 | _::_,_::_,i+1,_,h,e=>by
   obtain ⟨p,r,b,c,d⟩:=SDs.get (i:=i) h.2 (by simpa using e);exact ⟨p,r,b,by simpa using c,d⟩
 | [],_::_,_,_,h,_=>h.elim
 | _::_,[],_,_,h,_=>h.elim
theorem SDs.snoc {H:Hp} {p:Addr} {r:cO} (hp:H p=some (.lst (r.map V.int))):∀ {xs:cM} {a:List (cO)},SDs H xs a->SDs H (xs++[.ref p]) (a++[r])
 | [],[],_=>⟨⟨p,rfl,hp⟩,trivial⟩
 | _::_,_::_,h=>⟨h.1,SDs.snoc hp h.2⟩
 | [],_::_,h=>h.elim
 | _::_,[],h=>h.elim
theorem SD.head {H:Hp} {p:Addr} {r:cO} {c:List (cO)} (h:SD H p (r::c)):∃ a b,H p=some (.lst (.ref a::b))/\H a=some (.lst (r.map V.int))/\SDs H (.ref a::b) (r::c):=by
 obtain ⟨b,e,q⟩:=h
 match b,q with
 | [],q=>exact q.elim
 | x::b,q=>
   obtain ⟨a,d,f⟩:=q.1;subst d;exact ⟨a,b,e,f,q⟩
theorem Hf {a:Type} (x:a) (xs:List a):Q_ (x::xs) 0=some x:=by
 unfold Q_ ai;rw [qU ∅,qU (by rw [CO];omega)];rfl
theorem wM (h:IZ K vs H Q E):Pq K { nx:=λ_ A=>Q .non A,rt:=Q } (L2.start ["strand","shared","row"] vs) H:=by
 obtain ⟨p,b,rfl,⟨I,hp,P⟩,hl,D,k⟩:=h;have lx:=P.length;unfold Pq;rwa [];refine ⟨⟨_,SqL.of hp⟩,ForL.by (xs:=I) (λi J A=>∃ (g:Int) (u:cN),J=[some (.ref p),some (.int g),u]/\Same H A/\0<=g/\(∀ r∈b.take i,∀ z∈r,g∣z)/\(∀ d:Int,(∀ r∈b.take i,∀ z∈r,d∣z)->d∣g)) ⟨0,none,rfl,Same.refl H,Int.le_refl 0,λr D=>(by simp at D),λd _=>Cq d⟩ ?_ ?_ ?_⟩
 ·rintro i J A _ ⟨g,u,rfl,s,_⟩;exact SqL.of (s _ _ hp)
 ·rintro i x J A R ⟨g,u,rfl,s,g0,B,L⟩;obtain ⟨a,r,rfl,j,S⟩:=P.get R;have v:=s _ _ S;have w:=D r (Ay j);rwa [v];refine ⟨r,rfl,w.1,λg' C n T d1 d2 d3=>?_⟩;have F:b.take (i+1)=b.take i++[r]:=by rw [List.take_add_one,j];rfl
  refine ⟨s.trans n,T,λU o z m=>?_,λd M=>d3 d ?_ λz m=>?_⟩
  ·rw [F] at o;rcases CK.mp o with h | h
   ·exact CL d1 (B U h z m)
   ·rw [Ap.mp h] at m;exact d2 z m
  ·exact L d λU o z m=>M U (by rw [F];exact F2 _ o) z m
  ·exact M r (by rw [F];exact Cz _ (Ap.mpr rfl)) z m
 ·rintro J A ⟨g,u,rfl,s,g0,B,L⟩;rw [lx,CW] at B L;have W:=s _ _ hp
  have gz:∀ r∈b,0<g\/r=[]:=λr f=>by
   rcases Int.lt_or_le 0 g with h | h
   ·exact .inl h
   ·right;have G:g=0:=by omega
    rcases (D r f).2 with h | h
    ·exact h
    ·exfalso;by_cases a0:r.length=0
     ·rw [Ag ⋯] at h;exact h rfl
     ·have:=B r f (co r (r.length - 1)) (by
       unfold co;rw [AT,Aj ⋯];exact Dq _)
      rw [G] at this;exact h (Int.zero_dvd.mp this)
  rwa [];refine ⟨⟨_,SqL.of W⟩,CompJ.lst (xs:=I) (λi y C=>i<=b.length/\Same H C/\SDs C y ((b.take i).map λr=>r.map (·/ g))) ⟨Ae _,s,trivial⟩ ?_ ?_ ?_⟩
  ·rintro i y C ⟨X,n,q⟩;refine ⟨⋯,sz ?_,SqL.of (n _ _ hp)⟩;rw [q.length,AG,CC];omega
  ·rintro i x y C R ⟨X,n,q⟩;obtain ⟨a,r,rfl,j,S⟩:=P.get R;have v:=n _ _ S;have w:=D r (Ay j);have a1:i<b.length:=(BF.mp j).1;rwa [v];refine ⟨r,rfl,gz r (Ay j),w.1,λt N=>?_⟩;refine ⟨⋯,n.trans (AL N _),?_⟩;have F:(b.take (i+1)).map (λr=>r.map (·/ g))=(b.take i).map (λr=>r.map (·/ g))++[r.map (·/ g)]:=by rw [List.take_add_one,j];simp
   rw [F];exact SDs.snoc upd_same (q.tp (AL N _))
  ·rintro y C ⟨_,n,q⟩ t N;rw [lx,CW] at q;have O:=AL N (.lst y);by_cases gp:0<g
   ·refine k t _ _ (n.trans O) ⟨y,upd_same,q.tp O⟩ ⟨g,gp,?_⟩ (.inr λd M=>?_)
    ·rw [BX]
     conv=>lhs;rw [<-List.map_id b]
     refine Cf λr f=>?_;show r=(r.map (·/ g)).map (g*·);rw [BX]
     conv=>lhs;rw [<-List.map_id r]
     refine Cf λz m=>?_;show z=g*(z / g);rw [F9 (B r f z m)]
    ·have Y:d*g∣g:=L (d*g) λr f z m=>by
      have X:=M (r.map (·/ g)) (AU.mpr ⟨r,f,rfl⟩) (z / g) (AU.mpr ⟨z,m,rfl⟩);obtain ⟨c,Z⟩:=X;refine ⟨c,?_⟩;have:=F9 (B r f z m);rw [<-this,Z];ext
     obtain ⟨c,Z⟩:=Y
     have e:g*(d*c)=g*1:=by rw [Int.mul_one];conv=>rhs;rw [Z]
                            ext
     have e1:=Int.eq_of_mul_eq_mul_left ⋯ e;have:d.natAbs*c.natAbs=1:=by rw [<-CF,e1];rfl
     exact Nat.eq_one_of_mul_eq_one_right this
   ·have G:∀ r∈b,r=[]:=λr f=>by
     rcases gz r f with h | h
     ·exact absurd h gp
     ·exact h
    have em:b.map (λr=>r.map (·/ g))=b:=by
     conv=>rhs;rw [<-List.map_id b]
     refine Cf λr f=>?_;rw [G r f];rfl
    rw [em] at q;refine k t b _ (n.trans O) ⟨y,upd_same,q.tp O⟩ ⟨1,∅,?_⟩ (.inl G)
    conv=>lhs;rw [<-List.map_id b]
    refine Cf λr f=>?_;rw [G r f];rfl
theorem wN {r:cO} (h:∀ d:Int,(∀ z∈r,d∣z)->d.natAbs=1):Prim r:=λc a=>h c λz b=>by
 obtain ⟨i,e,rfl⟩:=F8 b;have:=a i;unfold co at this;rw [AT,Aj e] at this;exact this
theorem wO (h:HQ K vs H Q E):Ps K { nx:=λ_ j=>Q .non j,rt:=Q } (L2.start ["row"] vs) H:=by
 obtain ⟨p,u,rfl,hp,x,y,k⟩:=h;unfold Ps;rwa [];refine ⟨sz ∅,λa A=>?_⟩;have v:=AL A (.lst [.ref p]);refine ⟨[u],⟨[V.ref p],upd_same,⟨⟨p,rfl,v _ _ hp⟩,trivial⟩⟩,by simp,?_,λt c j B e m n=>?_⟩
 ·intro r o;rw [Ap.mp o];exact ⟨x,y⟩
 obtain ⟨g,C,f⟩:=m
 match c,f,e,n with
 | [q],f,e,n=>
   obtain ⟨b,I,D,F,_⟩:=e.head;have i:u=q.map (g*·):=by simpa using f
   refine ⟨_,D,_,Hf _ _,k b q g j (v.trans B) F C i ?_⟩;rcases n with h | h
   ·left;rw [i,h q (Ap.mpr rfl)];rfl
   ·right;exact wN λd G=>h d λr o z w=>by rw [Ap.mp o] at w;exact G z w
 | [],f,_,_=>simp at f
 | _::_::_,f,_,_=>simp at f
theorem SF {a b:cO} (c:Tz a) (n:Nat) (h:∀ k,n<=k->co a k=0):a.length<=n:=by
 rcases A8 n a.length with z | z
 ·rcases c with e | e
  ·rw [e] at z;simp at z
  ·exact absurd (h _ ⋯) e
 ·exact z
theorem Gh {n:Nat} {a:cO} (h:∀ k,Bd n (co a k)):∀ z∈a,Bd n z:=λz b=>by
 obtain ⟨i,c,rfl⟩:=F8 b;have:=h i;unfold co at this;rw [AT,Aj c] at this;exact this
theorem FM (g:Int) (a:cO) (k:Nat):co (a.map (g*·)) k=g*co a k:=Ip (F:=(g*·)) ⋯ a k
theorem MI {g:Int} (b:g≠0) {a:cO} (h:Tz (a.map (g*·))):Tz a:=by
 rcases h with h | h
 ·left;exact List.map_eq_nil_iff.mp h
 ·right;rw [FM,AG] at h;exact λz=>h (by rw [z];omega)
theorem MJ {n:Nat} {g:Int} (c:0<g) {a:cO} (h:∀ z∈a.map (g*·),Bd n z):∀ z∈a,Bd n z:=λz b=>(h (g*z) (AU.mpr ⟨z,b,rfl⟩)).le (by
 rw [CF];exact Nat.le_mul_of_pos_left _ ⋯)
theorem SG {a b:Int} (c:b≠0) (h:a∣b):a.natAbs<=b.natAbs:=EU ⋯ (C3.mpr h)
theorem wP (h:Jw K vs H Q E):Pp K { nx:=λ_ d=>Q .non d,rt:=Q } (L2.start ["strand","other","shift","top","lead","shared","factor","weight"] vs) H:=by
 obtain ⟨p,q,o,rfl,j,w,I,k⟩:=h;obtain ⟨m,x,hp,f,_⟩:=j.head;obtain ⟨u,y,z,i,_⟩:=w.head;have A:Q_ (V.ref m::x) 0=some (V.ref m):=Hf _ _;have B:Q_ (V.ref u::y) 0=some (V.ref u):=Hf _ _;unfold Pp;rwa [];refine EH (λn v d=>v=[some (.ref p),some (.ref q),none,none,none,none,none,none]/\d=H/\n=0) 0 ⟨rfl,rfl,rfl⟩ ?_;rintro n v d ⟨rfl,rfl,rfl⟩;rwa [hp,z,f,i,A,B];refine Am (λc=>by rw [AG] at c;exfalso;omega) (λ_=>?_);unfold Po;rwa [];refine ⟨[[]],j,∅,(λr C=>by rw [Ap.mp C];exact ⟨∅,.inl rfl⟩),λt a D s1 b F _=>k t D s1 ?_⟩;obtain ⟨g,_,e⟩:=F;have G:a.length=1:=by have:=congrArg List.length e;simpa using this.symm
 obtain ⟨r,rfl⟩:∃ r,a=[r]:=List.length_eq_one_iff.mp G;have e:[]=r.map (g*·):=List.head_eq_of_cons_eq e;rw [List.map_eq_nil_iff.mp e.symm] at b;exact b
theorem DM {a:cO} (h:Tz a) (b:a≠[]):Lz a:=by
 refine ⟨Bk.mpr b,?_⟩;rcases h with e | e
 ·exact absurd e b
 ·exact e
theorem wQ (h:Ia K vs H Q E):Px K { nx:=λ_ b=>Q .non b,rt:=Q } (L2.start ["strand","other","rest"] vs) H:=by
 obtain ⟨p,q,s,o,rfl,r,f,em,k⟩:=h;unfold Px;rwa [];refine EH (λn i b=>(i=[some (.ref p),some (.ref q),none]/\b=H/\n=1)\/∃ (t:Addr) (u:cN),i=[some (.ref q),some (.ref t),u]/\Same H b/\SD b t [[]]/\o≠[]/\n=0) 1 (.inl ⟨rfl,rfl,rfl⟩) ?_;rintro n i b (⟨rfl,rfl,rfl⟩ | ⟨t,u,rfl,v,j,y,rfl⟩)
 ·obtain ⟨w,A,x,d,_⟩:=f.head;have g:Q_ (V.ref w::A) 0=some (V.ref w):=Hf _ _;rwa [x,d,g];by_cases a:o=[]
  ·refine Am (λc=>absurd a (by simpa using c)) (λ_=>?_);rw [qU a] at k;exact k p _ (Same.refl _) r
  ·refine Am (λ_=>?_) (λc=>absurd (by simpa using c) a)
   have B:s=[]:=by
    rcases em with z | z
    ·exact z
    ·exact absurd z a
   rw [qT a] at k;refine ⟨λC D=>∃ F,F<1/\_,λ_ _ h=>h,?_⟩;rwa [x,d,g];refine Am (λ_=>k q _ (Same.refl _) f) (λ_=>?_);refine ⟨by rw [<-B];exact r,o,f,Bk.mpr a,λt J s1 j=>?_⟩;exact ⟨0,∅,.inr ⟨s1,j,a,rfl⟩⟩
 ·obtain ⟨e,G,I,m,_⟩:=j.head;have g:Q_ (V.ref e::G) 0=some (V.ref e):=Hf _ _;rwa [I,m,g];refine Am (λc=>absurd c (by simp)) (λ_=>?_);rw [qT y] at k;exact k q _ v (f.tp v)
theorem wR {b n c:Nat} {r a g:cO} (o:∀ z∈r,Bd b z) (f:r.length<=n) (p:n<2 ^ c) (i:Lz g) (h:∀ k,co r k=cvL a (co g) k):∀ k,Bd (b+n*(2*c+4)) (co a k):=by
 rcases Dz a with z | ⟨d,e,_,j⟩
 ·intro k;rw [z k];exact Dg _
 have m:∀ k,co r k=cvL g (co d) k:=λk=>by rw [h k,B5,BI (λk=>(j k).symm) g k]
 have t:co r (d.length - 1+(g.length - 1))≠0:=by rw [m,B5,Il e i];exact By e.2 i.2
 have q:d.length<=r.length:=by
  rcases A8 (d.length - 1+(g.length - 1)) r.length with c | c
  ·have:=e.1;omega
  ·exact absurd (Ag c) t
 intro k;rw [<-j k];exact Ik o ⟨_,t⟩ f (BT q f) p m k
theorem wS {G S:cO} (a:Lz G) (h:∀ k,cvL S (co G) k=0) (k:Nat):co S k=0:=(ME a (T:=0) λk _=>h k).1 k (Ae k)
theorem Gen.Prim {r o:d7} {g:cO} (G:Gen r o g):Prim g:=λc a=>by
 rcases A8 c.natAbs 2 with h | h
 ·rcases D6 c.natAbs with z | z
  ·exfalso;have b:c=0:=by omega
   have:=a (g.length - 1);rw [b] at this;exact G.lz.2 (Int.zero_dvd.mp this)
  ·omega
 ·exfalso;obtain ⟨n,d,_⟩:=G.prim h;exact d (Int.natAbs_dvd.mpr (a n))
theorem wT {R O A B G:cO} (a:Lz G) (b:∀ k,co R k=cvL A (co G) k) (c:∀ k,co O k=cvL B (co G) k) (q:QI (co R) (co O) (co G)):QI (co A) (co B) Ak:=by
 obtain ⟨d,f,U,V,h⟩:=q;refine ⟨d,f,U,V,λk=>?_⟩
 have z:=wS (S:=A4 (A4 (BV U A) (BV V B)) [-d]) a (λk=>by
  rw [Bi,Bi,Bu,Bu,<-BI b,<-BI c];have:=h k
  have e:cvL [-d] (co G) k = -d*co G k:=by
   cases k with
   | zero=>rw [Ax];omega
   | succ k=>rw [Ar,BC];omega
  rw [e,Int.neg_mul,this];omega) k
 rw [Cu,Bi,Bi,Bu,Bu,<-BI (Cu A),<-BI (Cu B)] at z
 have e:cvL [-d] Ak k = -d*Ak k:=by
  cases k with
  | zero=>rw [Ax];omega
  | succ k=>rw [Ar,BC];omega
 rw [e,Int.neg_mul] at z;omega
theorem wU (p:Nat) (e:0<p) (S:cO):(∀ k,(p:Int)∣co S k)\/∃ T,Lz T/\(∀ k,(p:Int)∣co S k - co T k)/\¬ (p:Int)∣co T (T.length - 1):=by
 have a:∀ k,co (S.map (·% (p:Int))) k=co S k % (p:Int):=λk=>Ip (F:=(·% (p:Int))) (Int.zero_emod _) S k;rcases Dz (S.map (·% (p:Int))) with z | ⟨T,b,_,c⟩
 ·exact .inl λk=>Int.dvd_of_emod_eq_zero (by rw [<-a k];exact z k)
 ·refine .inr ⟨T,b,λk=>?_,λh=>?_⟩
  ·rw [c,a];exact ⟨co S k / p,by have:=Int.emod_add_mul_ediv (co S k) p;omega⟩
  ·have d:=c (T.length - 1);rw [a] at d;have f:=CN (co S (T.length - 1)) (show (p:Int)≠0 by omega);have g:=Cc (co S (T.length - 1)) (show (0:Int)<p by omega);have:=b.2;have l:=Int.le_of_dvd ⋯ h;omega
theorem cvT {p:Int} {S T:cO} {g:d7} {n:Nat} (a:∀ i,n<=i->g i=0) (h:∀ k,p∣co S k - co T k) (k:Nat):p∣cvL S g k - cvL T g k:=by
 have e:∀ k,g k=co ((List.range n).map g) k:=λk=>by
  rw [Jk];split
  ·rfl
  ·exact a k ⋯
 rw [BI e,BI e,B5,B5 T]
 have:=bK (S:=[1]) (f:=co S) (g:=co T) (λk=>by
  have d:cvL [1] (co T) k=co T k:=by
   cases k with
   | zero=>rw [Ax];omega
   | succ k=>rw [Ar,BC];omega
  rw [d];exact h k) ((List.range n).map g) k
 rwa [BI (b:=cvL [1] (co T)) (c:=co T) (λk=>by
  cases k with
  | zero=>rw [Ax];omega
  | succ k=>rw [Ar,BC];omega)] at this
theorem SH {p:Nat} (hp:Pr p) {R A G a T:cO} (b:∀ k,co R k=cvL A (co G) k) (m:Lz G) (c:¬ (p:Int)∣co G (G.length - 1)) (f:∀ k,(p:Int)∣co a k - cvL T (co G) k) (d:Dm (p:Int) (co a) (co R)):Dm (p:Int) (co T) (co A):=by
 obtain ⟨X,g⟩:=d;refine ⟨X,λk=>?_⟩
 have z:=Jj hp c (λi n=>by rw [Ag ⋯];exact Cq _) (A4 A ((BV X T).map ((-1)*·))) (λk _=>by
  rw [Bi,BD,Bu,<-b];have h:=g k;have j:=bK f X k;have:=Co h j;refine CL this (FK ?_);omega)
 have e:co A k - cvL X (co T) k=co (A4 A ((BV X T).map ((-1)*·))) k:=by
  rw [Cu (A4 A _),Bi,BD,Bu,<-Cu,<-BI (Cu T)];omega
 rw [e];exact Rn z k
theorem wV {x e c M p N:Nat} (b:x<2 ^ (c+1)) (d:N<=M) (a:2 ^ ((e+c+2)*M)<p):(2*(x*2 ^ e)) ^ N<p:=by
 have f:2*(x*2 ^ e)<=2 ^ (e+c+2):=by
  have:x*2 ^ e<=2 ^ (c+1)*2 ^ e:=CY _ (Dn b);have g:2 ^ (e+c+2)=2*(2 ^ (c+1)*2 ^ e):=by rw [<-Nat.pow_add,show e+c+2=(c+1+e)+1 by omega,Cn];omega
  omega
 refine Nat.lt_of_le_of_lt ?_ a;rw [Nat.pow_mul];exact BT (Nat.pow_le_pow_left f N) (F4 (Nat.pow_pos ∅) d)
theorem SI (g:d7):∀ k,cvL [1] g k=g k
 | 0=>by rw [Ax];omega
 | k+1=>by rw [Ar,BC];omega
theorem wW {j v b o G:cO} {p c e N:Nat} {d:Int} (hp:Pr p) (ln:Lz j) (lm:Lz v) (fn:Fi e j) (fm:Fi e v) (hc:j.length+v.length<2 ^ (c+1)) (hN:j.length+v.length<=N+2) (n2:2<=N) (X:2 ^ ((e+c+2)*N)<p)
  (J:((Int.gcd (co j (j.length - 1)) (co v (v.length - 1)):Nat):Int)=d) (Y:Gen (co j) (co v) G) (r0:0<b.length) (one:co b (b.length - 1)=1) (aj:G.length<=b.length) (pG:¬ (p:Int)∣co G (G.length - 1)) (dG:Dm (p:Int) (co G) (co b)) (dn:Dm (p:Int) (co b) (co j)) (dm:Dm (p:Int) (co b) (co v))
  (gl:o.length=b.length) (hg:∀ k,k<b.length->(p:Int)∣co o k - d*co b k) (hb:∀ z∈o,2*z.natAbs<=p):MQ (co o) (co j)/\MQ (co o) (co v):=by
 have p2:=hp.two;have P:=Y.Prim;have D:=Y.lz;obtain ⟨A,L⟩:=T_ P Y.rc.left;obtain ⟨B,W⟩:=T_ P Y.rc.right;have Z:=fn G A (λk=>by rw [L k,B5]);have bB:=fm G B (λk=>by rw [W k,B5]);have bG:=fn A G L;have a7:=fn [1] j (λk=>(SI _ k).symm);have a8:=wT D L W Y.qi;obtain ⟨S,hS⟩:=dG;have p0:0<p:=by omega
 have F:¬ (p:Int)∣(1:Int):=λz=>by have:=Int.le_of_dvd ∅ z;omega
 rcases wU p p0 S with z | ⟨T,lT,hT,pT⟩
 ·exfalso;have r:=hS (b.length - 1);have u:=cvT (p:=(p:Int)) (S:=S) (T:=[]) (g:=co G) (n:=G.length) (λi O=>Ag O) (λk=>by rw [Ag (a:=[]) (Ae _),Int.sub_zero];exact z k) (b.length - 1);rw [one] at r;rw [BC,Int.sub_zero] at u;have:=Co r u;rw [Int.sub_add_cancel] at this;exact F this
 have w:∀ k,(p:Int)∣co b k - cvL T (co G) k:=λk=>by
  have:=Co (hS k) (cvT (λi O=>Ag O) hT k (g:=co G) (n:=G.length));refine CL this (FK ?_);omega
 have t0:=lT.1;have g0:=D.1
 have tl:T.length+G.length=b.length+1:=by
  have tp:=Il lT D
  have np:¬ (p:Int)∣co T (T.length - 1)*co G (G.length - 1):=λz=>by
   rcases hp.mulI z with q | q
   ·exact pT q
   ·exact pG q
  have r:=w (T.length - 1+(G.length - 1));rw [tp] at r
  have c1:T.length - 1+(G.length - 1)<b.length:=by
   rcases A8 (T.length - 1+(G.length - 1)) b.length with c | c
   ·exact c
   ·exfalso;rw [Ag c,Int.zero_sub] at r;exact np (Int.dvd_neg.mp r)
  have u:=w (b.length - 1);rw [one] at u;rcases A8 (T.length - 1+(G.length - 1)) (b.length - 1) with c | c
  ·exfalso;rw [EL (n:=G.length) (λi O=>Ag O) T _ ⋯,Int.sub_zero] at u;exact F u
  ·omega
 have a1:=SH hp L D pG w dn;have a3:=SH hp W D pG w dm
 have f:∀ {R A:cO},Lz R->(∀ k,co R k=cvL A (co G) k)->(∀ k,Bd e (co A k))->∃ m,Lz m/\m.length<=R.length/\co m=co A:=λ{R A} lR h _=>by
  rcases Dz A with z | ⟨m,I,_,ea⟩
  ·exact absurd (by rw [h,B5,Fl G z]) lR.2
  ·refine ⟨m,I,?_,funext ea⟩
   have t:co R (m.length - 1+(G.length - 1))≠0:=by
    rw [h,B5,BI (λk=>(ea k).symm) G,<-B5,Il I D];exact By I.2 D.2
   rcases A8 (m.length - 1+(G.length - 1)) R.length with c | c
   ·have:=I.1;omega
   ·exact absurd (Ag c) t
 obtain ⟨m,lA,An,eA⟩:=f ln L Z;obtain ⟨B',lB,Bn,eB⟩:=f lm W bB
 have al:2 ^ e<p:=Nat.lt_of_le_of_lt (F4 ∅ (by
  have:(e+c+2)*1<=(e+c+2)*N:=EV _ ⋯;omega)) X
 have T1:T.length=1:=by
  rcases A8 T.length 2 with cT | cT
  ·omega
  ·exfalso
   have C:∀ {A:cO},Lz A->(∀ k,Bd e (co A k))->Dm (p:Int) (co T) (co A)->2<=A.length:=λ{A} lA Z dA=>by
    have:=Dm.len hp t0 pT dA ⟨A.length - 1,λz=>by
     have r:=Z (A.length - 1);have u:=C3.mpr z;have h3:=EU (by have:=lA.2;omega) u;rw [Cp] at h3;have:(co A (A.length - 1)).natAbs<2 ^ e:=r;omega⟩
    omega
   have a2:=C lA (λk=>by rw [eA];exact Z k) (by rw [eA];exact a1);have b2:=C lB (λk=>by rw [eB];exact bB k) (by rw [eB];exact a3);refine bZ hp lA lB (by rw [eA,eB];exact a8) (λk=>by rw [eA];exact Z k) (λk=>by rw [eB];exact bB k) a2 b2 cT pT (by rw [eA];exact a1) (by rw [eB];exact a3) (wV (x:=m.length+B'.length) (c:=c) (M:=N) ⋯ ⋯ X)
 obtain ⟨s,rfl⟩:∃ s,T=[s]:=by
  match T,T1 with
  | [s],_=>exact ⟨s,rfl⟩
 have a4:∀ k,(p:Int)∣co b k - s*co G k:=λk=>by
  have:=w k
  have e1:cvL [s] (co G) k=s*co G k:=by
   cases k with
   | zero=>rw [Ax];omega
   | succ k=>rw [Ar,BC];omega
  rwa [e1] at this
 have lr:G.length=b.length:=by simp at tl;omega
 have a5:∀ {R A:cO},(∀ k,co R k=cvL A (co G) k)->Lz R->co G (G.length - 1)∣co R (R.length - 1):=λ{R A} h lR=>by
  rcases Dz A with z | ⟨m,I,_,ea⟩
  ·exact absurd (by rw [h,B5,Fl G z]) lR.2
  ·have hh:∀ k,co R k=cvL m (co G) k:=λk=>by rw [h,B5,BI (λk=>(ea k).symm) G,<-B5]
   have tp:=Il I D;have a0:=I.1
   have rl:R.length - 1=m.length - 1+(G.length - 1):=by
    rcases Nat.lt_trichotomy (R.length - 1) (m.length - 1+(G.length - 1)) with c | c | c
    ·exfalso;have:=hh (m.length - 1+(G.length - 1));rw [Ag (by have:=lR.1;omega),tp] at this;exact By I.2 D.2 this.symm
    ·exact c
    ·exfalso;have:=hh (R.length - 1);rw [EL (n:=G.length) (λi O=>Ag O) m _ ⋯] at this;exact lR.2 this
   rw [rl,hh,tp];exact Int.dvd_mul_left _ _
 obtain ⟨t,ht⟩:co G (G.length - 1)∣d:=by rw [<-J];exact Int.dvd_coe_gcd (a5 L ln) (a5 W lm)
 have U:d≠0:=λz=>by
  rw [<-J] at z;have:Int.gcd (co j (j.length - 1)) (co v (v.length - 1))=0:=by omega
  exact ln.2 (Int.gcd_eq_zero_iff.mp this).1
 have ac:t≠0:=λz=>U (by rw [ht,z,Int.mul_zero])
 have bt:t.natAbs<2 ^ e:=by
  have r:d∣co j (j.length - 1):=by rw [<-J];exact Eu ..
  have u:=CL (show t∣d from ⟨co G (G.length - 1),by rw [ht,Int.mul_comm]⟩) r;have h3:=EU (by have:=ln.2;omega) (C3.mpr u);have h4:(co j (j.length - 1)).natAbs<2 ^ e:=a7 _;omega
 have ae:∀ k,co o k=t*co G k:=λk=>by
  rcases A8 k b.length with ck | ck
  ·have r:=hg k ck;have u:=a4 k;have h3:=a4 (b.length - 1);rw [one,<-lr] at h3
   have dv:(p:Int)∣co o k - t*co G k:=by
    have q1:(p:Int)∣d*(co b k - s*co G k):=FR u;have q2:(p:Int)∣(t*co G k)*(1 - s*co G (G.length - 1)):=FR h3;have:=Int.dvd_sub (Co r q1) q2;refine CL this (FK ?_);rw [ht];ext
   have b1:2*(co o k).natAbs<=p:=by
    have:co o k∈o:=by
     unfold co;rw [AT,Aj ⋯];exact Dq _
    exact hb _ this
   have b2:2*(t*co G k).natAbs<p:=by
    rw [CF];have h5:t.natAbs*(co G k).natAbs<=2 ^ e*2 ^ e:=Ex (Dn bt) (Dn (bG k))
    have h6:2*(2 ^ e*2 ^ e)<=2 ^ ((e+c+2)*N):=by
     rw [<-Nat.pow_add,show 2*2 ^ (e+e)=2 ^ (e+e+1) by rw [Cn];omega];refine F4 ∅ ?_;have:(e+c+2)*2<=(e+c+2)*N:=EV _ ⋯;omega
    omega
   obtain ⟨y,hy⟩:=dv;have ab:(co o k - t*co G k).natAbs<p:=by omega
   rcases Int.lt_trichotomy y 0 with z | z | z
   ·have:(p:Int)*y<=(p:Int)*(-1):=Hu ⋯ ⋯;omega
   ·rw [z] at hy;omega
   ·have:(p:Int)*1<=(p:Int)*y:=Hu ⋯ ⋯;omega
  ·rw [Ag ⋯,Ag (a:=G) ⋯];omega
 have a6:∀ {R A:cO},(∀ k,co R k=cvL A (co G) k)->MQ (co o) (co R):=λ{R A} h=>⟨t,ac,A,λk=>by rw [BI ae,C7,h k]⟩;exact ⟨a6 L,a6 W⟩
theorem SJ {g f:cO} {A:cO} (h:∀ k,co f k=cvL A (co g) k):MQ (co g) (co f):=⟨1,∅,A,λk=>by rw [<-h k];omega⟩
theorem wX (h:J3 K vs H Q E):QX K { nx:=λ_ M=>Q .non M,rt:=Q } (L2.start ["row","other","prime","lead","found","guess"] vs) H:=by
 obtain ⟨a,b,o,v,p,d,O,W,NN,rfl,ha,hb,N,bp,P,lm,bn,bm,dn,dm,fn,fm,nc,hN,a6,kN,kR⟩:=h;have p2:(2:Int)<=(p:Int):=by have:=N.two;omega
 unfold QX;have an:=Io P.1;have am:=Io lm.1;rwa [ha,hb,an,am];generalize I:((Int.gcd (co o (o.length - 1)) (co v (v.length - 1)):Nat):Int)=j;have X:j∣co o (o.length - 1):=by rw [<-I];exact Eu ..
 have bl:Bd d j:=(Dl bn (o.length - 1)).le (SG P.2 X);refine ⟨⋯,Am (λc=>?_) (λc=>?_)⟩
 ·refine kN (λw=>?_) _ (Same.refl H);have ar:j.natAbs<2 ^ O:=(fn [1] o (λk=>(SI _ k).symm) (o.length - 1)).le (SG P.2 X);have z:=Int.dvd_of_emod_eq_zero (show j % (p:Int)=0 by simpa using c)
  have l0:j≠0:=λz=>by
   rw [<-I] at z;have:Int.gcd (co o (o.length - 1)) (co v (v.length - 1))=0:=by omega
   exact P.2 (Int.gcd_eq_zero_iff.mp this).1
  have h3:=EU ⋯ (C3.mpr z);rw [Cp] at h3
  have:2 ^ O<=2 ^ ((O+W+2)*NN):=by
   refine F4 ∅ ?_;have:(O+W+2)*1<=(O+W+2)*NN:=EV _ ⋯;omega
  have w:2 ^ ((O+W+2)*NN)<p:=w;omega
 have pl:¬ (p:Int)∣j:=λz=>c (by rw [Int.emod_eq_zero_of_dvd z])
 have Y:¬ (p:Int)∣co o (o.length - 1)\/¬ (p:Int)∣co v (v.length - 1):=by
  by_cases Z:(p:Int)∣co o (o.length - 1)
  ·right;intro h2;exact pl (by rw [<-I];exact Int.dvd_coe_gcd Z h2)
  ·exact .inl Z
 refine ⟨o,v,p,rfl,rfl,rfl,N,bp,⋯,⋯,?_,λs J H1 s1 hs r0 rl one br hD a7 a8=>?_⟩
 ·rcases Y with h | h
  ·exact .inl ⟨_,h⟩
  ·exact .inr ⟨_,h⟩
 refine ⟨⟨_,SqL.of hs⟩,CompJ.lst (xs:=J.map V.int) (λi ys M=>i<=J.length/\M=H1/\∃ m:cO,ys=m.map V.int/\m.length=i/\(∀ k,k<i->(p:Int)∣co m k - j*co J k)/\∀ z∈m,Bd 45000 z/\2*z.natAbs<=p) ⟨Ae _,rfl,[],rfl,rfl,λk hk=>absurd hk ⋯,λz R=>nomatch R⟩ ?_ ?_ ?_⟩
 ·rintro i ys M ⟨Z,rfl,m,rfl,gl,_⟩;exact ⟨by rw [AG];exact Z,sz (by rw [AG];omega),SqL.of hs⟩
 ·rintro i x ys M hi ⟨Z,rfl,m,rfl,gl,hg,w⟩;rw [Ac] at hi;cases e:J[i]? with
  | none=>rw [e] at hi;cases hi
  | some n=>
    rw [e] at hi;obtain rfl:V.int n=x:=pE hi;have b0:i<J.length:=(BF.mp e).1;have b1:=br n (Ay e);have cn:co J i=n:=by unfold co;rw [AT,e];rfl
    rwa [];refine ⟨D2 bl (bp.le (x:=(p:Int)) (y:=n) ⋯),⋯,λr ab S=>⟨⋯,m++[r],by simp,by simp;omega,λk hk=>?_,λz R=>?_⟩⟩
    ·by_cases ek:k=i
     ·subst ek;have:co (m++[r]) k=r:=by unfold co;rw [AT,<-gl];simp
      rw [this,cn];exact ab
     ·have:co (m++[r]) k=co m k:=by unfold co;rw [AT,AT,List.getElem?_append_left ⋯]
      rw [this];exact hg k ⋯
    ·rcases CK.mp R with z1 | z1
     ·exact w z z1
     ·rw [Ap.mp z1];exact ⟨bp.le ⋯,by rw [Cp] at S;exact S⟩
 ·rintro ys M ⟨_,rfl,m,rfl,gl,hg,w⟩ t ht;rw [AG] at gl hg;have st:=AL ht (.lst (m.map V.int));have a0:upd M t (.lst (m.map V.int)) t=_:=upd_same;generalize upd M t (.lst (m.map V.int))=H2 at st a0 ⊢;have a1:0<m.length:=by omega
  have B:co m (m.length - 1)≠0:=λz=>by
   have:=hg (m.length - 1) ⋯;rw [z,show m.length - 1=J.length - 1 by omega,one] at this;exact pl (by have t2:=Int.dvd_neg.mpr this;rw [show -(0 - j*1)=j by omega] at t2;exact t2)
  rwa [a0];refine ⟨m,rfl,⋯,.inr B,λu q g H3 s3 hu g0 eg hp=>?_⟩
  have Pg:Prim q:=by
   rcases hp with h | h
   ·rw [h] at a1;simp at a1
   ·exact h
  have a2:q.length=m.length:=by rw [eg,AG]
  have T:Lz q:=DM (MI (AW g0) (by rw [<-eg];exact .inr B)) (λz=>by rw [z] at a2;simp at a2;omega);have a3:∀ z∈q,Bd 45000 z:=MJ g0 (by rw [<-eg];exact λz R=>(w z R).1);have C:Same H H3:=(s1.trans st).trans s3;have ac:=C _ _ ha;have ae:=C _ _ hb;obtain ⟨G,L⟩:=Y9 P (QI.left (co o) (co v));have mn:=L.mq _ o (AO _) (QI.left _ _);have mm:=L.mq _ v (AO _) (QI.right _ _)
  have D:¬ (p:Int)∣co G (G.length - 1):=by
   rcases Y with h | h
   ·exact L.lead N P mn h
   ·exact L.lead N lm mm h
  have dG:=hD (co G) (L.dm N mn) (L.dm N mm)
  have a4:G.length<=J.length:=Dm.len N L.lz.1 D dG ⟨J.length - 1,by
   rw [one];intro z;have:=Int.le_of_dvd ∅ z;omega⟩
  have F:PQ O W NN p->(∃ A:cO,∀ k,co o k=cvL A (co q) k)/\∃ A:cO,∀ k,co v k=cvL A (co q) k:=λaj=>by
   obtain ⟨q1,q2⟩:=wW N P lm fn fm nc hN a6 aj I L r0 one a4 D dG a7 a8 gl hg (λz R=>(w z R).2);have sc:∀ k,co m k=g*co q k:=λk=>by rw [eg,FM]
   have mg:MQ (co q) (co m):=⟨1,∅,[g],λk=>by
    have e:cvL [g] (co q) k=g*co q k:=by
     cases k with
     | zero=>rw [Ax];omega
     | succ k=>rw [Ar,BC];omega
    rw [e,sc];omega⟩
   exact ⟨T_ Pg (mg.trans q1),T_ Pg (mg.trans q2)⟩
  rwa [ac,hu];refine ⟨o,rfl,q,rfl,T,d,bn,45000,a3,⋯,∅,⋯,⋯,λno=>kN (λw=>no (F w).1) |> λf H4 U=>f H4 (C.trans U),λr qs H4 U hr hq=>?_⟩;have al:=U _ _ ae;have a5:=U _ _ hu;rwa [al,a5];refine ⟨v,rfl,q,rfl,T,d,bm,45000,a3,⋯,∅,⋯,⋯,λno=>kN (λw=>no (F w).2) |> λf H5 s5=>f H5 ((C.trans U).trans s5),λr2 b2 H5 s5 S ao=>?_⟩;exact kR u q H5 ((C.trans U).trans s5) (s5 _ _ a5) (ZC L.rc T (SJ hq) (SJ ao) ⋯) Pg
noncomputable def exps:List Nat:=[61,127,521,1279,4423,9941,21701,44497]
def wY (K:W.Frag):Prop:=∀ H:Hp,SqT K H (Ge K) (exps.map λe:Nat=>V.int (e:Int))
theorem wZ:∀ e∈exps,Pr (mers e)/\e<=44497:=by
 intro e a;have h:e=61\/e=127\/e=521\/e=1279\/e=4423\/e=9941\/e=21701\/e=44497:=by simpa [exps] using a
 rcases h with h | h | h | h | h | h | h | h <;> rw [h]
 ·exact ⟨Yy,∅⟩
 ·exact ⟨Yz,∅⟩
 ·exact ⟨Y3,∅⟩
 ·exact ⟨Y4,∅⟩
 ·exact ⟨Y5,∅⟩
 ·exact ⟨Y6,∅⟩
 ·exact ⟨Y7,∅⟩
 ·exact ⟨Y8,∅⟩
theorem vA (e:Nat):(2:Int) ^ (e:Int).toNat - 1=((mers e:Nat):Int):=by
 unfold mers;have:=Nat.one_le_two_pow (n:=e);rw [Int.natCast_sub this,D8,Int.natCast_pow];rfl
theorem vB {e:Nat} (h:e<=44497):Bd 45000 ((mers e:Nat):Int):=by
 unfold Bd mers;rw [Cp];have a:=Nat.one_le_two_pow (n:=e);have b:=F4 (n:=2) ∅ (show e<=45000 by omega);omega
theorem MK {b e one a j:cO} {g h:Int} (o:g≠0) (p:h≠0) (q:b=one.map (g*·)) (r:e=a.map (h*·)) (R:RC (co one) (co a) j):RC (co b) (co e) j:=by
 have m:∀ k,co b k=g*co one k:=λk=>by rw [q,FM]
 have n:∀ k,co e k=h*co a k:=λk=>by rw [r,FM]
 refine ⟨R.lz,?_,?_,?_⟩
 ·obtain ⟨c,f,A,i⟩:=R.left;exact ⟨c,f,A.map (g*·),λk=>by rw [BD,<-i k,m k];ext⟩
 ·obtain ⟨c,f,A,i⟩:=R.right;exact ⟨c,f,A.map (h*·),λk=>by rw [BD,<-i k,n k];ext⟩
 ·obtain ⟨d,u,U,W,v⟩:=R.qi;refine ⟨g*h*d,By (By o p) u,U.map (h*·),W.map (g*·),λk=>?_⟩;rw [BD,BD,BI m U k,BI n W k,C7,C7];have:=v k;ext
theorem SK {e:Nat} {a:Int} {one b:cO} (n:a≠0) (d:b=one.map (a*·)) (h:Fp e b):Fp e one:=λg f i ⟨c,j,A,m⟩=>h g f i ⟨c,j,A.map (a*·),λk=>by
 rw [BD,<-m k,d,FM];ext⟩
theorem SL {c:Int} {g:d7} (h:∀ k,c∣g k):∀ (A:cO) (k:Nat),c∣cvL A g k
 | [],_=>by rw [BC];exact Cq c
 | x::A,0=>by rw [Ax];exact Co (FR (h 0)) (Cq c)
 | x::A,k+1=>by rw [Ar];exact Co (FR (h _)) (SL h A k)
theorem SM {e:Nat} {one:cO} (p:Prim one) (h:Fp e one):Fi e one:=λA g b k=>by
 rcases Dz g with z | ⟨d,f,_,a⟩
 ·rw [z k];exact Dg _
 ·rw [<-a k];refine h d f (λc i=>p c λk=>?_) ⟨1,∅,A,λk=>by rw [Int.one_mul,b k];exact BI (λk=>(a k).symm) A k⟩ k;rw [b k];exact SL (λk=>by rw [<-a k];exact i k) A k
theorem vC {K:W.Frag} (hK:wY K) {vs:cM} {H:Hp} {Q:VK} {E:XK} (h:J4 K vs H Q E):QY K { nx:=λ_ j=>Q .non j,rt:=Q } (L2.start ["row","other","one","two","exponent","found"] vs) H:=by
 obtain ⟨a,b,p,D,d,J,cc,NN,rfl,ha,hb,tn,tm,bn,bm,d9,nN,mN,L,nc,hN,a0,sm,k⟩:=h;unfold QY;rwa [ha];refine ⟨p,rfl,⋯,tn,λF one g1 H1 s1 n f q p1=>?_⟩;have a3:=s1 _ _ hb;rwa [a3];refine ⟨D,rfl,⋯,tm,λM c g2 G s2 r g w p2=>?_⟩;have m:=s1.trans s2;have a4:=m _ _ ha;have a5:=m _ _ hb;have N:=s2 _ _ n;have l1:p.length=one.length:=by rw [q,AG]
 have l2:D.length=c.length:=by rw [w,AG]
 have t1:Tz one:=MI (AW f) (by rw [<-q];exact tn);have t2:Tz c:=MI (AW g) (by rw [<-w];exact tm);have b1:∀ z∈one,Bd d z:=MJ f (by rw [<-q];exact bn);have b2:∀ z∈c,Bd d z:=MJ g (by rw [<-w];exact bm);have O:one=[]↔p=[]:=by rw [<-CI,<-CI,l1]
 have I:c=[]↔D=[]:=by rw [<-CI,<-CI,l2]
 have P:(p=[]\/D=[])->∀ (U:Hp) (u v:cN),Same G U->(AX (A_ gL (AJ (Ia K) [] E0 (AB (A9 (AB (AA 2) AC)) (AB (A9 (AB (AA 3) AC)) AC))) (tC (.int 0)))) { nx:=λ_ j=>Q .non j,rt:=Q } [some (.ref a),some (.ref b),some (.ref F),some (.ref M),u,v] U:=λem U u v o=>by
  have A:=o _ _ N;have B:=o _ _ r;rwa [];refine ⟨sz ∅,λx hx=>?_⟩;have sx:=AL hx (.lst [.ref F]);refine ⟨sz ∅,λy hy=>?_⟩;have X:=AL hy (.lst [.ref M]);have a6:=X _ _ (show upd U x (.lst [.ref F]) x=_ from upd_same);refine ⟨one,⟨[V.ref F],a6,⟨⟨F,rfl,X _ _ (sx _ _ A)⟩,trivial⟩⟩,c,⟨[V.ref M],upd_same,⟨⟨M,rfl,X _ _ (sx _ _ B)⟩,trivial⟩⟩,em.imp (λz=>O.mpr z) (λz=>I.mpr z),λt Y R a7=>?_⟩;obtain ⟨ar,xr,ht,a8,_⟩:=a7.head;refine ⟨_,ht,_,Hf _ _,?_⟩;refine k ar _ Y (m.trans (o.trans ((sx.trans X).trans R))) a8 (λab=>?_) λn r=>by rw [qU (I.mpr r)];exact O.mpr n
  have z0:∀ {x:cO},x=[]->∀ k,co x k=0:=λe k=>by rw [e];exact Ag (Ae _)
  by_cases C:c=[]
  ·rw [qU C]
   have Z:p≠[]:=by
    rcases ab with h | h
    ·exact h
    ·exact absurd (I.mp C) h
   have ac:Lz one:=DM t1 λz=>Z (O.mp z);exact ⟨MK (AW f) (AW g) q w ⟨ac,MQ.refl _,MQ.zero _ (z0 C),QI.left _ _⟩,p1.resolve_left Z⟩
  ·rw [qT C];have Z:one=[]:=O.mpr (em.resolve_right λz=>C (I.mpr z));exact ⟨MK (AW f) (AW g) q w ⟨DM t2 C,MQ.zero _ (z0 Z),MQ.refl _,QI.right _ _⟩,p2.resolve_left λz=>C (I.mpr z)⟩
 have l0:=λem=>P em G none none (Same.refl G);simp only [AH,AM,AJ,AB,AA,AC,AE,Du,L2.start,BJ,aY,Aq,tB,A_,aa,rI,tC,P_,rU,BN,AX,Ai,A9,UQ,EZ,EY,J_,Ud,Dt,az,Dc,E3,UL,UM,ad,ap,EG,CJ,Br,BQ,Hz,WM,C5,Nh,WN,b7,iLe,aP,ci,BU,gT,gL,gS,IA,HB,WO,WP,DR,B8,WQ,Ee,WR,WS,WT,eqT,WU,WV,WW,WX,CD,List.map_nil,CO,List.length_nil,List.replicate,List.cons_append,List.nil_append,List.append_nil,List.getElem?_cons_zero,List.getElem?_cons_succ,Option.some.injEq,exists_eq_left',exists_eq_left,V.int.injEq,V.bl.injEq,V.ref.injEq,V.ty.injEq,HO.tup.injEq,HO.lst.injEq,List.cons.injEq,and_true,true_and,and_assoc,exists_and_left,List.set_cons_zero,List.set_cons_succ,decide_eq_true_eq,decide_eq_false_iff_not,Bool.not_eq_true',Bool.true_eq_false,FO,Bool.not_true,Bool.not_false,if_true,if_false,ite_true,ite_false,Wd,We,WY,WZ,Wa,Wb,Wc,Wf,Wg,Nat.zero_add,Nat.reduceAdd,Nat.reduceSub,upd_same,Int.cast_ofNat_Int,decide_true,decide_false,eq_self,not_true_eq_false,not_false_eq_true,Int.natCast_add,Int.natCast_zero,reduceCtorEq,Nm,Ce,BK,Cd,Gz,aM,E5,E6,sL,sT,HE,XC,JS,Eg,XB,GS,HA,GP,Kk,U8,aw,U6,W3,W4,W5,W7,XM,XJ,W6,XG,Ku,N8,Kv,Kt,Ny,Fe,EI,N6,JX,CS,Option.bind_some,Option.bind_none,Option.bind,Option.join,id_eq,sS,XX,XZ,Ej,Jv,HP,IV,IW,IX,IY,IZ,HQ,Jw,Ia,Jx,Jy,HR,HS,Jz,J0,J1,J2,J3,J4,Ek,FI,HU,Fq,Li,J5,J6,J7,Di,Ic,D1,Id,Lj,J8,HW] at l0;have ae:p≠[]->D≠[]->Lz one/\Lz c:=λn r=>⟨DM t1 λz=>n (O.mp z),DM t2 λz=>r (I.mp z)⟩;refine ⟨_,a4,Am (λc1=>⟨_,a5,Am (λc2=>⟨⟨_,hK G⟩,?_⟩) (λc2=>l0 (.inr (by simpa using c2)))⟩) (λc1=>l0 (.inl (by simpa using c1)))⟩;have y1:p≠[]:=by simpa using c1
 have y2:D≠[]:=by simpa using c2
 obtain ⟨z1,z2⟩:=ae y1 y2;have aj:Fi J one:=SM (p1.resolve_left y1) (SK (AW f) q (L y1 y2).1);have al:Fi J c:=SM (p2.resolve_left y2) (SK (AW g) w (L y1 y2).2);refine NF (xs:=exps.map λe:Nat=>V.int (e:Int)) (λi σ j=>i<8/\∃ u v,σ=[some (.ref a),some (.ref b),some (.ref F),some (.ref M),u,v]/\Same G j) ⟨∅,none,none,rfl,Same.refl G⟩ (λi σ j _ _=>hK j) ?_ ?_
 ·rintro i x σ j S ⟨i8,u,v,rfl,o⟩;rw [Ac] at S;cases e:exps[i]? with
  | none=>rw [e] at S;cases S
  | some T=>
    rw [e] at S;obtain rfl:V.int (T:Int)=x:=pE S;obtain ⟨pe,pl⟩:=wZ T (Ay e);have A:=o _ _ N;have B:=o _ _ r;rwa [A,B];refine ⟨⋯,2,by unfold Bd;decide,⋯,one,c,mers T,vA T,rfl,rfl,pe,vB pl,z1,z2,d,b1,b2,⋯,⋯,J,aj,al,cc,⋯,NN,⋯,a0,λnb Y R=>⟨?_,o.trans R⟩,λt rs Y R ht rc pr=>?_⟩
    ·rcases A8 (i+1) 8 with c8 | c8
     ·exact c8
     ·exfalso;have i7:i=7:=by omega
      rw [i7] at e;obtain rfl:44497=T:=pE e;refine nb ?_;show 2 ^ ((J+cc+2)*NN)<mers 44497;have n:2 ^ ((J+cc+2)*NN)<=2 ^ 44490:=F4 ∅ sm
      have r:2 ^ 44490<mers 44497:=by
       unfold mers;have e7:2 ^ 44497=2 ^ 44490*2 ^ 7:=by rw [<-Nat.pow_add]
       rw [e7];have:1<=2 ^ 44490:=Nat.one_le_two_pow;omega
      omega
    exact k t rs Y (m.trans (o.trans R)) ht (λ_=>⟨MK (AW f) (AW g) q w rc,pr⟩) λn _=>absurd n (by simpa using c1)
 ·rintro σ j ⟨i8,_⟩;exact absurd i8 (by simp [exps])
theorem Bp (l:cI):(AR l).length=l.length:=by unfold AR;rw [AG]
theorem EO {l:cI} (a:AV l) (b:Nz l):Tz (AR l):=by
 by_cases h:l=[]
 ·left;rw [h];rfl
 ·right;rw [Bp];exact L9 a b (Bk.mpr h)
theorem vD {l:cI} {M N:Int} (f:AV l) (g:Ov l M) (i:Ov l N) (h:M∣N) {b:Nat} (j:∀ z∈O' l N,Bd b z):∀ z∈O' l M,Bd b z:=λz k=>by
 obtain ⟨q,a,rfl⟩:=AU.mp k;refine (j (q.1*(N / q.2)) (AU.mpr ⟨q,a,rfl⟩)).le ?_;rw [CF,CF];refine EV _ ?_;have c:=(f q a).pos;obtain ⟨x,d⟩:=g.2 q a;obtain ⟨y,e⟩:=h;have m:M / q.2=x:=by rw [d,FQ _ (AW c)]
 have n:N / q.2=x*y:=by rw [e,d,Int.mul_assoc,FQ _ (AW c)]
 rw [m,n,CF];refine Nat.le_mul_of_pos_right _ ?_;rcases D6 y.natAbs with z | z
 ·have o:y=0:=by omega
  have:=i.1;rw [e,o] at this;omega
 ·exact z
theorem Gq.clr {b c:Nat} {l:cI} (G:Gq b c l):(∀ z∈AR l,Bd b z)/\Bd c (AZ l)/\(∀ q∈l,Bd b q.1):=by
 obtain ⟨M,a,f,d⟩:=G.ov;have e:=O0 G.low a;exact ⟨vD G.low (B9 G.low) a e d,Dh (AW a.1) e f,Ro G.low a d⟩
theorem DY (g:cO):(G_ g).length=g.length:=by unfold G_;rw [AG]
theorem Ft {g:cO} (a:Lz g):AV (G_ g):=λq b=>by
 obtain ⟨z,_,rfl⟩:=AU.mp b;exact GV a.2
theorem KN {g:cO} (a:Lz g) (k:Nat):B_ (G_ g) k=(co g k:Rat) / (co g (g.length - 1):Rat):=by
 unfold B_ Aa G_;rw [AT,Ac];unfold co;rw [AT (l:=g) (i:=k)];cases e:g[k]? with
 | none=>
   show val (0,1)=((0:Int):Rat) / _;unfold val;show ((0:Int):Rat) / _=_;rw [show ((0:Int):Rat)=0 from rfl,U_,U_]
 | some z=>exact HK a.2
theorem SN {g:cO} (a:Lz g):Aa (G_ g) (g.length - 1)=(1,1):=DK (C6 (Ft a) _) ⟨∅,∅⟩ (by
 have h:=KN a (g.length - 1);unfold B_ at h;rw [h];have:=Au a.2;have b:val (1,1)=1:=by unfold val;show ((1:Int):Rat) / ((1:Int):Rat)=1;ext
 rw [b];ext)
theorem Gi {g:cO} (b:Lz g):Nz (G_ g):=λq a=>by
 have h:=SN b;rw [Gv,DY] at a;unfold Aa at h;rw [AT,a] at h;have c:q=(1,1):=h;rw [c];decide
theorem vE (h:Fq K vs H Q E):Qo K { nx:=λ_ Z=>Q .non Z,rt:=Q } (L2.start ["P","Q","row"] vs) H:=by
 obtain ⟨p,q,xs,ys,l,m,b,c,ee,dd,NN,rfl,hp,j,hN,hM,f,g,b9,c9,lN,mN,A,B,C,D,sm,k0,k1⟩:=h;obtain ⟨F,a0,G⟩:=f.clr;obtain ⟨I,a1,J⟩:=g.clr;obtain ⟨M1,O1,L,_⟩:=f.ov;obtain ⟨M2,O2,M,_⟩:=g.ov;unfold Qo;rwa [hp];refine bJ hp ⟨l,hN,f.low,M1,O1,L.mono ⋯,λq j=>(G q j).mono ⋯,⋯,λr a H1 s1 hr ha=>?_⟩;have k:=s1 _ _ j;rwa [hr,k];refine bJ k ⟨m,hM.tp (C' s1),g.low,M2,O2,M.mono ⋯,λq j=>(J q j).mono ⋯,⋯,λr2 a2 H2 X N O=>?_⟩;have S:=X _ _ ha;rwa [N,S,O];have w:AR l=[]↔l=[]:=by rw [<-CI,<-CI,Bp]
 have x:AR m=[]↔m=[]:=by rw [<-CI,<-CI,Bp]
 refine ⟨AR l,rfl,AR m,rfl,EO f.low f.nz,EO g.low g.nz,b,F,I,b9,by rw [Bp];exact lN,by rw [Bp];exact mN,ee,λy T=>A (λz=>y (w.mpr z)) (λz=>T (x.mpr z)),dd,by rw [Bp,Bp];exact B,NN,by rw [Bp,Bp];exact C,D,sm,λs d H3 s3 Y rc r0=>?_⟩;have o:=(s1.trans X).trans s3;rwa [Y];by_cases u:l=[]/\m=[]
 ·have e:=r0 (w.mpr u.1) (x.mpr u.2);subst e;refine Am (λz=>absurd z (by simp)) (λ_=>?_);exact ⟨sz ∅,λt U=>k0 u.1 u.2 t [] _ (o.trans (AL U _)) upd_same trivial⟩
 ·have i:l≠[]\/m≠[]:=by
   by_cases y:l=[]
   ·exact .inr λT=>u ⟨y,T⟩
   ·exact .inl y
  obtain ⟨R,P⟩:=rc (i.imp (λh z=>h (w.mp z)) (λh z=>h (x.mp z)));have W:d≠[]:=Bk.mp R.lz.1;refine Am (λ_=>?_) (λz=>absurd W (by simpa using z));have al:=Io R.lz.1
  have rl:d.length<=1000:=by
   rcases i with h | h
   ·have:=Fs R.lz (DM (EO f.low f.nz) λz=>h (w.mp z)) R.left;rw [Bp] at this;omega
   ·have:=Fs R.lz (DM (EO g.low g.nz) λz=>h (x.mp z)) R.right;rw [Bp] at this;omega
  rwa [Y,al];refine ⟨d,rfl,R.lz.2,rl,λt zs H4 s4 U v=>?_⟩;have e:trim (d.map λn=>Aw n (co d (d.length - 1)))=G_ d:=Yk (Gi R.lz);rw [e] at v;exact k1 i d R P t zs H4 (o.trans s4) U v
theorem MR.short {g f:d8} {n:Nat} (b:g n≠0) (h:∀ i,n<i->g i=0) (m:MR g f) (c:∀ k,n<=k->f k=0) (k:Nat):f k=0:=by
 obtain ⟨A,a⟩:=m;rw [a k];exact LY A (PM b h A λk hk=>by rw [<-a k];exact c k hk) k
theorem SO {q:Nu} {n M:Int} (c:q.2≠0) (d:M≠0) (h:val q=(n:Rat) / (M:Rat)):Wo q n M:=by
 unfold Wo;unfold val at h;have a:=Au c;have b:=Au d;have e:(q.1:Rat)*(M:Rat)=(n:Rat)*(q.2:Rat):=by ext
 exact_mod_cast e
theorem SQ {q:Nu} {n M:Int} (a:Low q.1 q.2) (h:Wo q n M):q.2∣M/\q.1*(M / q.2)=n:=by
 unfold Wo at h;have d:q.2∣M:=LC a ⟨n,by rw [h,Int.mul_comm]⟩;refine ⟨d,?_⟩;have b:=a.pos
 have e:q.2*(q.1*(M / q.2))=q.2*n:=by
  have:=F9 d
  calc q.2*(q.1*(M / q.2))=q.1*(q.2*(M / q.2)):=by ext
   _=q.1*M:=by rw [this]
   _=q.2*n:=by rw [h,Int.mul_comm]
 exact Int.eq_of_mul_eq_mul_left (AW b) e
structure RS (m:cI) (z:d8) (b c d i:Nat) (L:cI):Prop where
 low:AV L
 ov:∃ D,Ov L D/\Bd (c+i*d) D/\∀ z∈O' L D,Bd (b+i*(d+1)) z
 mr:MR (B_ m) (λk=>B_ L k - z k)
theorem SR {m:cI} (b:Nz m) (c:m≠[]):(Aa m (m.length - 1)).1≠0:=by
 have a:m.length - 1<m.length:=by have:=Bk.mpr c;omega
 have q:=b m[m.length - 1] (by rw [Gv];exact Aj a);have e:Aa m (m.length - 1)=m[m.length - 1]:=by unfold Aa;rw [AT,Aj a];rfl
 rw [e];exact q
theorem DN {m:cI} (c:AV m) (d:Nz m) (e:m≠[]):B_ m (m.length - 1)≠0:=by
 have a:=Au (SR d e);have b:=Au (AW (C6 c (m.length - 1)).pos);unfold B_ val;ext
theorem SS (f:d7):∀ (A:cO) (k:Nat),cvL (A.map λz:Int=>(z:Rat)) (λk=>(f k:Rat)) k=((cvL A f k:Int):Rat)
 | [],_=>rfl
 | x::A,0=>by rw [CD,Ax,Ax];push_cast;ext
 | x::A,k+1=>by rw [CD,Ar,Ar,SS f A k];push_cast;ext
theorem KO {f:d7} {G:d8} {a:Rat} (b:a≠0) (c:∀ k,G k=a*(f k:Rat)) (A:cO) (k:Nat):((cvL A f k:Int):Rat)=a⁻¹*cvL (A.map λz:Int=>(z:Rat)) G k:=by
 rw [BI c,C7,SS];ext
theorem MR.of {f g:d7} {F G:d8} {d a:Rat} (b:a≠0) (h:∀ k,F k=d*(f k:Rat)) (i:∀ k,G k=a*(g k:Rat)) (m:MQ g f):MR G F:=by
 obtain ⟨c,j,A,n⟩:=m;have o:=Au j;refine ⟨(A.map λz:Int=>(z:Rat)).map (d*(c:Rat)⁻¹*a⁻¹*·),λk=>?_⟩;have e:(c:Rat)*(f k:Rat)=((cvL A g k:Int):Rat):=by exact_mod_cast n k
 rw [BD,h k];rw [KO b i] at e;ext
theorem EQ {l:cI} (a:AV l) (k:Nat):B_ l k=((AZ l:Rat))⁻¹*(co (AR l) k:Rat):=by
 rw [GW a (B9 a),<-Ji];show (co (AR l) k:Rat) / _=_;ext
theorem ST {l:cI} (a:AV l):((AZ l:Rat))⁻¹≠0:=by
 have:=Au (AW (B9 a).1);ext
theorem D3 {g:cO} (a:Lz g) (k:Nat):B_ (G_ g) k=((co g (g.length - 1):Rat))⁻¹*(co g k:Rat):=by
 rw [KN a];ext
theorem Fu {g:cO} (a:Lz g):((co g (g.length - 1):Rat))⁻¹≠0:=by
 have:=Au a.2;ext
theorem Gj {a:Int} (f:a≠0) {B:Nat} {d:cO} (h:∀ z∈d,Bd B z):Ov (d.map λn=>Aw n a) (a.natAbs:Int)/\∀ z∈O' (d.map λn=>Aw n a) (a.natAbs:Int),Bd B z:=by
 have i:(0:Int)<(a.natAbs:Int):=by omega
 have c:∀ n∈d,(Aw n a).2∣(a.natAbs:Int)/\Bd B ((Aw n a).1*((a.natAbs:Int) / (Aw n a).2)):=λn b=>by
  have j:=GV (n:=n) f;have v:=Au f
  have:∃ s:Int,val (Aw n a)=(s:Rat) / (((a.natAbs:Int):Int):Rat)/\Bd B s:=by
   rw [HK f];rcases Int.natAbs_eq a with e | e
   ·exact ⟨n,by rw [<-e],h n b⟩
   ·refine ⟨-n,?_,(h n b).neg⟩;have k:(a.natAbs:Int) = -a:=by omega
    rw [k];push_cast;ext
  obtain ⟨s,m,o⟩:=this;obtain ⟨p,r⟩:=SQ j (SO (AW j.pos) (AW i) m);exact ⟨p,by rw [r];exact o⟩
 refine ⟨⟨i,λq g=>?_⟩,λz u=>?_⟩
 ·obtain ⟨n,b,rfl⟩:=AU.mp g;exact (c n b).1
 ·obtain ⟨q,g,rfl⟩:=AU.mp u;obtain ⟨n,b,rfl⟩:=AU.mp g;exact (c n b).2
theorem vF {l:cI} {M:Int} {B:Nat} (h:Ov l M) (b:∀ z∈O' l M,Bd B z):Ov (trim l) M/\∀ z∈O' (trim l) M,Bd B z:=by
 refine ⟨⟨h.1,λq a=>h.2 q (DJ a)⟩,λz c=>?_⟩;obtain ⟨q,a,rfl⟩:=AU.mp c;exact b _ (AU.mpr ⟨q,DJ a,rfl⟩)
theorem vG {F G:d8} {P:d8} (n:Nat) (h:∀ k,P k=cv F G n k):MR G P:=by
 refine ⟨(List.range n).map F,λk=>?_⟩;rw [h k];clear h
 induction n with
 | zero=>rfl
 | succ n a=>
   show cv F G n k+(if n<=k then F n*G (k - n) else 0)=_;rw [a,List.range_succ,Bq,List.map_singleton,DU,AG,Bj];unfold Av;by_cases hk:n<=k
   ·rw [qU hk,qU hk]
   ·rw [qT hk,qT hk];ext
structure PS (l m:cI) (b c d e nq:Nat) (r:cO) (B:Int) (qs:cI):Prop where
 len:r.length<=l.length
 tz:Tz r
 B0:B≠0
 N:∃ N,0<N/\B∣N/\Bd (c+(nq - (r.length+1 - m.length))*d) N/\∀ q∈qs,q.2∣N
 low:AV qs
 qb:∀ q∈qs,Bd (b+nq*(d+1)+e) q.1
 rb:∀ z∈r,Bd (b+(nq - (r.length+1 - m.length))*(d+1)) z
 ql:qs.length=nq
 zer:∀ j,j+m.length<=r.length->Aa qs j=(0,1)
 idn:∀ k,B_ l k=cv (B_ qs) (B_ m) nq k+(co r k:Rat) / (B:Rat)
theorem SU {a:cO} {g:Int} (k:Nat):co (a.map (·/ g)) k=co a k / g:=Ip (F:=(·/ g)) (Int.zero_ediv g) a k
theorem SV {a:cO} {g:Int} (h:∀ z∈a,g∣z) (k:Nat):g∣co a k:=Rn h k
theorem PS.step {l m:cI} {b c d e u:Nat} {r:cO} {B:Int} {D:cI} (S:PS l m b c d e u r B D) (U:AV m) (nm:Nz m) (m1:1<=m.length) (bC:∀ z∈AR m,Bd d z) (bE:Bd e (AZ m)) (M:u=l.length+1 - m.length) (hr:m.length<=r.length)
  {o top I f w g:Int} (v:o=co (AR m) (m.length - 1)) (J:top=co r (r.length - 1)) (X:0<I) (O:f*I=o) (W:w*I=top) {A:cO} (t1:Tz A) (F:∀ k,co A k=f*co r k - w*Av (r.length - m.length) (co (AR m)) k) (Y:0<g) (Z:g∣B*f) (gr:∀ z∈A,g∣z) :
  PS l m b c d e u (A.map (·/ g)) (B*f / g) (D.set (r.length - m.length) (Aw (top*AZ m) (B*o)))/\A.length<r.length:=by
 have G:o≠0:=by rw [v];exact L9 U nm m1
 have cl:(AR m).length=m.length:=Bp m;have P:f≠0:=λz=>G (by rw [<-O,z,Int.zero_mul])
 have a0:A.length<r.length:=by
  have:A.length<=r.length - 1:=SF (b:=[]) t1 _ λk hk=>by
   rw [F k];unfold Av;rw [qU ⋯];by_cases ek:k=r.length - 1
   ·rw [ek,<-J,show r.length - 1 - (r.length - m.length)=m.length - 1 by omega,<-v,<-W,<-O];ext
   ·rw [Ag (a:=r) ⋯,Ag (a:=AR m) (k:=k - (r.length - m.length)) ⋯];omega
  omega
 have Az:(A.map (·/ g)).length=A.length:=AG ..;obtain ⟨N,N0,NB,Nb,Nq⟩:=S.N;have a2:=S.len;have bl:Bd d o:=by rw [v];exact Dl bC _
 have bt:Bd (b+(u - (r.length+1 - m.length))*(d+1)) top:=by rw [J];exact Dl S.rb _
 have bf:Bd d f:=Dh G ⟨I,by rw [O]⟩ bl
 have bw:Bd (b+(u - (r.length+1 - m.length))*(d+1)) w:=by
  by_cases z:top=0
  ·have w0:w=0:=by
    rcases Int.mul_eq_zero.mp (W.trans z) with h | h
    ·exact h
    ·omega
   rw [w0];exact Dg _
  ·exact Dh z ⟨I,by rw [W]⟩ bt
 have R:r.length - m.length<u:=by omega
 have bne:B*o≠0:=By S.B0 G;have T:=GV (n:=top*AZ m) bne;have p:∀ {q:Nu},q∈D.set (r.length - m.length) (Aw (top*AZ m) (B*o))->q∈D\/q=Aw (top*AZ m) (B*o):=λ{q} h=>List.mem_or_eq_of_mem_set h
 have C:∀ j,Aa (D.set (r.length - m.length) (Aw (top*AZ m) (B*o))) j=if j=r.length - m.length then Aw (top*AZ m) (B*o) else Aa D j:=λj=>by
  unfold Aa;rw [AT,AT];by_cases e:j=r.length - m.length
  ·rw [qU e,e,List.getElem?_set_self (by rw [S.ql];exact R)];rfl
  ·rw [qT e,List.getElem?_set_ne (λz=>e z.symm)]
 have L:∀ x:Nat,(u - (r.length+1 - m.length))*x+x<=(u - (A.length+1 - m.length))*x:=λx=>by
  have:=CY x (show u - (r.length+1 - m.length)+1<=u - (A.length+1 - m.length) by omega);rw [Nat.add_mul,Nat.one_mul] at this;exact this
 refine ⟨⟨⋯,?_,?_,⟨N*(o.natAbs:Int),?_,?_,?_,?_⟩,?_,?_,?_,?_,?_,?_⟩,a0⟩
 ·rcases t1 with h | h
  ·left;rw [h];rfl
  ·right;rw [Az,SU];intro z;have:=Int.ediv_mul_cancel (SV gr (A.length - 1));rw [z,Int.zero_mul] at this;exact h this.symm
 ·intro z;have d:=Int.ediv_mul_cancel Z;rw [z,Int.zero_mul] at d;exact By S.B0 P d.symm
 ·exact CB N0 ⋯
 ·refine CL (Int.ediv_dvd_of_dvd Z) (Int.mul_dvd_mul NB ?_);exact Int.dvd_natAbs.mpr ⟨I,by rw [O]⟩
 ·have a1:Bd d (o.natAbs:Int):=bl.le (by rw [Cp];exact AO _);refine (Nb.mul a1).mono ?_;rw [Az];have:=L d;omega
 ·intro q M;rcases p M with h | h
  ·exact CL (Nq q h) (Int.dvd_mul_right ..)
  ·rw [h];exact Yp bne (Int.mul_dvd_mul NB (Int.dvd_natAbs.mpr (Int.dvd_refl _)))
 ·intro q M;rcases p M with h | h
  ·exact S.low q h
  ·rw [h];exact T
 ·intro q M;rcases p M with h | h
  ·exact S.qb q h
  ·rw [h];refine (Oo bne (bt.mul bE) (Nat.lt_two_pow_self:Bd _ (B*o))).1.mono ?_;have:=CY (d+1) (show u - (r.length+1 - m.length)<=u by omega);omega
 ·intro z hz;obtain ⟨y,hy,rfl⟩:=AU.mp hz;refine L8 (gr y hy) ?_;refine Gh (n:=b+(u - ((A.map (·/ g)).length+1 - m.length))*(d+1)) (λk=>?_) y hy;rw [F k,Az];have gw:=L (d+1);refine Bd.mono (m:=(b+(u - (r.length+1 - m.length))*(d+1)+d)+1) (Bd.sub ((bf.mul (Dl S.rb k)).mono ⋯) ?_) ⋯;unfold Av;split
  ·exact bw.mul (Dl bC _)
  ·rw [Int.mul_zero];exact Dg _
 ·rw [List.length_set];exact S.ql
 ·intro j hj;rw [Az] at hj;rw [C,qT ⋯];exact S.zer j ⋯
 ·intro k;have hB:=Au S.B0;have hL:=Au G;have hg:=Au (AW Y);have hF:=Au P;have hE:=Au (AW (B9 U).1)
  have c1:=Os (f:=B_ D) (f':=B_ (D.set (r.length - m.length) (Aw (top*AZ m) (B*o)))) (g:=B_ m) (s:=r.length - m.length) (x:=val (Aw (top*AZ m) (B*o)))
   (by unfold B_;rw [S.zer _ ⋯];exact U_ _) (by unfold B_;rw [C,qU rfl]) (λi hi=>by unfold B_;rw [C,qT hi]) u k
  have gd:g∣f*co r k - w*Av (r.length - m.length) (co (AR m)) k:=by rw [<-F k];exact SV gr k
  rw [c1,S.idn k,SU,F k,Rm (AW Y) gd,Rm (AW Y) Z,HK bne];have a3:(f:Rat)*I=o:=by exact_mod_cast O
  have a4:(w:Rat)*I=top:=by exact_mod_cast W
  have hS:=Au (AW X);unfold Av;by_cases hk:r.length - m.length<=k
  ·rw [qU hk,qU ⟨R,hk⟩,GW U (B9 U),<-Ji];show _+(co r k:Rat) / _=_+_*((co (AR m) (k - (r.length - m.length)):Rat) / _)+_;push_cast;generalize (co (AR m) (k - (r.length - m.length)):Rat)=dk;generalize cv (B_ D) (B_ m) u k=c;generalize (co r k:Rat)=x;ext
  ·rw [qT hk,qT ⋯];push_cast;generalize cv (B_ D) (B_ m) u k=c;generalize (co r k:Rat)=x;ext
theorem SW {a b:Nu} (h:EM a=EM b):a=b:=by
 unfold EM at h;injection h with h;injection h with d c;injection c with c _;injection d with d;injection c with c;exact Prod.ext d c
theorem vH (h:J5 K vs H Q E):Z5 K { nx:=λ_ H'=>Q .non H',rt:=Q } (L2.start ["P","Q","row","divisor","rest","bottom","lead","quotient","shift","shared","spare"] vs) H:=by
 obtain ⟨p,q,xs,ys,l,m,b0,c0,d0,e0,rfl,hp,v,hN,hM,GL,GM,m0,c3,m6,hc,hb,he,hd,k⟩:=h;obtain ⟨ba,bb,bc⟩:=GL.clr;obtain ⟨T,bd,be⟩:=GM.clr;obtain ⟨M,hO,bM,c4⟩:=GL.ov;obtain ⟨M',c5,c6,_⟩:=GM.ov;have hl:=GL.low;have hm:=GM.low;have nm:=GM.nz;have m1:1<=m.length:=Bk.mpr m0;have b9:b0<=900000:=by omega
 have c9:c0<=400000:=by omega
 have lx:=hN.length;have ly:=hM.length;have bf:∀ q∈m,Bd 60000000 q.1:=λq v=>(be q v).mono ⋯;have bE:Bd e0 (AZ m):=bd;have OE:=B9 hm;have OL:=B9 hl;have bL:Bd c0 (AZ l):=bb;have cl:(AR m).length=m.length:=by unfold AR;rw [AG]
 have bg:(AR l).length=l.length:=by unfold AR;rw [AG]
 refine IP (AN rfl (bJ hp ⟨l,hN,hl,M,hO,bM.mono ⋯,λq v=>(bc q v).mono ⋯,⋯,λra a H1 s1 F G=>?_⟩));have bi:=s1 _ _ v;refine IP (AN rfl (bJ bi ⟨m,hM.tp (C' s1),hm,AZ m,OE,bE.mono ⋯,bf,⋯,λrb b H2 s2 U W=>?_⟩));have F:=s2 _ _ F;have G:=s2 _ _ G;have X:=s1.trans s2;have bj:=X _ _ hp;have a7:=X _ _ v
 have A:∀ {r:cO},1<=r.length->Q_ (r.map V.int) (-1)=some (V.int (r.getD (r.length - 1) 0)):=λ{r} h=>by
  unfold Q_ ai;rw [qT ∅,qU (by rw [AG];omega),AG,show (-1+(r.length:Int)).toNat=r.length - 1 by omega];show (r.map V.int)[r.length - 1]?=_;rw [Ac,AT,Aj ⋯];rfl
 have el:=A (r:=AR m) ⋯;rw [cl] at el;generalize x:(AR m).getD (m.length - 1) 0=e at el;have Y:e≠0:=by rw [<-x];exact L9 hm nm m1
 have a8:Bd d0 e:=by rw [<-x];exact GU T _
 refine Bc (B7 rfl F rfl (Bc (B7 rfl F rfl (Bc (A5 (B7 rfl U rfl ⟨_,rfl,_,_,_,_,rfl,rfl,W,el,?_⟩))))));refine Bc (A5 (IQ (Bv (N_ (N_ ⟨Az,λe1 ab=>⟨C8,λe2 ac=>?_⟩⟩)))));have u:=(AL ab (.tup [.int 0,.int 1])).trans (AL ac (.lst [.ref e1]));have en:(if (0:Int) > (xs.length:Int) - (ys.length:Int)+1 then 0 else (xs.length:Int) - (ys.length:Int)+1)=((l.length+1 - m.length:Nat):Int):=by split <;> omega
 refine ⟨_,rfl,_,_,rfl,u _ _ bj,_,rfl,_,_,rfl,u _ _ a7,_,_,rfl,rfl,_,_,rfl,rfl,_,_,rfl,?_⟩;refine ⟨_,((l.length+1 - m.length:Nat):Int),_,rfl,congrArg V.int en,upd_same,⋯,⋯,sz (by simp;omega),λw hw=>?_⟩;refine LX ab ac hw λH3 h1 ae u _ w2=>?_;rw [D8,Jo] at ae;have N0:Nums H3 (List.replicate (l.length+1 - m.length) (V.ref e1)) (List.replicate (l.length+1 - m.length) (0,1)):=Nums.rep ⟨e1,rfl,h1⟩ _
 have gz:∀ n j:Nat,Aa (List.replicate n ((0,1):Nu)) j=(0,1):=λn j=>by
  unfold Aa;rw [AT,FN];split <;> rfl
 refine EH (λn σ H'=>∃ (c:Addr) (r:cO) (B:Int) (zs:cM) (I:cI) (x8 x9 J:cN),σ=[some (.ref p),some (.ref q),some (.ref ra),some (.ref rb),some (.ref c),some (.int B),some (.int e),some (.ref w),x8,x9,J]/\Same H2 H'/\H' c=some (.lst (r.map V.int))/\c≠w/\H' w=some (.lst zs)/\Nums H' zs I/\PS l m b0 c0 d0 e0 (l.length+1 - m.length) r B I/\n=r.length) l.length
  ⟨a,AR l,AZ l,_,_,none,none,none,rfl,u,u _ _ G,BM G w2,ae,N0,⟨⋯,EO hl GL.nz,AW OL.1,⟨AZ l,OL.1,Int.dvd_refl _,bL.mono ⋯,λq v=>?_⟩,λq v=>?_,λq v=>?_,λz hz=>?_,List.length_replicate ..,λj _=>gz _ j,λk=>?_⟩,bg.symm⟩ ?_
 ·rw [(List.mem_replicate.mp v).2];exact Int.one_dvd _
 ·rw [(List.mem_replicate.mp v).2];exact HI
 ·rw [(List.mem_replicate.mp v).2];exact Dg _
 ·exact (ba z hz).mono ⋯
 ·rw [Ot _ _ (λi _=>by unfold B_;rw [gz];exact U_ _),GW hl OL,Ji];exact (Rat.zero_add _).symm
 rintro n σ H4 ⟨c,r,B,zs,I,x8,x9,J,rfl,s4,C,cw,Z,N4,o,rfl⟩;have aj:=s4 _ _ a7;refine ⟨_,rfl,_,_,rfl,C,_,rfl,_,_,rfl,aj,_,_,rfl,rfl,_,rfl,Am (λcc=>?_) (λcc=>?_)⟩
 ·have al:m.length<=r.length:=by have cc:=qW cc;rw [AG] at cc;omega
  refine ⟨_,λ_ _ h=>h,?_⟩;have es:((r.map V.int).length:Int) - (ys.length:Int)=((r.length - m.length:Nat):Int):=by rw [AG];omega
  have lt:=A (r:=r) ⋯;generalize P:r.getD (r.length - 1) 0=top at lt;have am:=s4 _ _ U;have bv:=s4 _ _ W;obtain ⟨N,L,NB,Nb,Nq⟩:=o.N;have a0:Bd 400000 B:=(Dh (AW L) NB Nb).mono (BT (Nat.add_le_add_left (CY _ (Nat.sub_le _ _)) _) hc)
  have bk:b0+(l.length+1 - m.length - (r.length+1 - m.length))*(d0+1)<=900000:=by
   have:=CY (d0+1) (Nat.sub_le (l.length+1 - m.length) (r.length+1 - m.length));omega
  have R:Bd 900000 top:=by rw [<-P];exact (GU o.rb _).mono bk
  have bl:∀ z∈r,Bd 60000000 z:=λz hz=>(o.rb z hz).mono ⋯;refine ⟨_,rfl,_,_,rfl,C,_,rfl,_,_,rfl,aj,_,_,rfl,rfl,?_⟩;show Qm K _ [some (.ref p),some (.ref q),some (.ref ra),some (.ref rb),some (.ref c),some (.int B),some (.int e),some (.ref w),some (.int (((r.map V.int).length:Int) - (ys.length:Int))),x9,J] _;rw [es];have bne:B*e≠0:=By o.B0 Y;refine ZH (Bb ⟨_,rfl,_,rfl,_,_,_,_,rfl,rfl,C,lt,_,rfl,_,_,_,_,rfl,rfl,am,rfl,_,_,rfl,rfl,D2 R bE,_,rfl,_,rfl,_,_,rfl,rfl,D2 a0 a8,_,_,rfl,bne,λt1 an=>?_⟩);have c7:zs.length=l.length+1 - m.length:=by rw [N4.length,o.ql]
  have bw:=o.len;refine ⟨_,rfl,_,rfl,_,zs,_,r.length - m.length,rfl,rfl,AL an _ _ _ Z,FJ rfl ⋯,?_⟩;refine HH an Z w2 s4 λH5 s5 ao h5 bm k5=>?_;have hn:=Nums.set (q:=Aw (top*AZ m) (B*e)) ⟨t1,rfl,h5⟩ (r.length - m.length) (N4.tp bm);have D:=k5 _ _ cw C;have ar:=s5 _ _ U;have b1:=s5 _ _ W;refine DL ⟨_,rfl,_,rfl,_,_,_,_,rfl,rfl,D,lt,_,rfl,_,_,rfl,?_⟩;show Ql K _ [some (.ref p),some (.ref q),some (.ref ra),some (.ref rb),some (.ref c),some (.int B),some (.int e),some (.ref w),some (.int ((r.length - m.length:Nat):Int)),some (.int ((Int.gcd top e:Nat):Int)),J] _;have y:(0:Int)<((Int.gcd top e:Nat):Int):=by have:=Int.gcd_pos_of_ne_zero_right top Y;omega
  have a1:((Int.gcd top e:Nat):Int)∣e:=D7 top e;have a2:((Int.gcd top e:Nat):Int)∣top:=Eu top e;have hf:=Int.ediv_mul_cancel a1;have a3:=Int.ediv_mul_cancel a2;generalize bx:((Int.gcd top e:Nat):Int)=sh at y a1 a2 hf a3 ⊢;have a4:=L8 a1 a8;have b2:=L8 a2 R;have a5:e.fdiv sh=e / sh:=Do e (DQ y);have b3:top.fdiv sh=top / sh:=Do top (DQ y);generalize c8:e / sh=f at hf a4 a5 ⊢;generalize top / sh=wt at a3 b2 b3 ⊢;refine Bc (ZI ⟨_,rfl,_,rfl,_,rfl,_,_,rfl,rfl,AW y,_,rfl,_,_,_,_,rfl,rfl,ar,rfl,_,rfl,_,rfl,_,_,_,_,rfl,rfl,D,lt,_,rfl,_,_,rfl,rfl,AW y,_,rfl,?_⟩);refine ⟨_,_,r,AR m,f,wt,r.length - m.length,by rw [<-a5,<-b3],D,b1,⋯,⋯,a4.mono ⋯,b2.mono ∅,bl,λz hz=>(T z hz).mono ⋯,λc1 O H6 s6 b4 t6 e6=>?_⟩;have bn:f≠0:=λz=>Y (by rw [<-hf,z,Int.zero_mul])
  have l6:O.length<=1000:=by
   have:O.length<=1000:=SF (b:=[]) t6 1000 λk hk=>by
    rw [e6 k,Ag (a:=r) ⋯];unfold Av;split
    ·rw [Ag (a:=AR m) ⋯];omega
    ·omega
   exact this
  refine ⟨_,rfl,_,rfl,_,rfl,_,_,rfl,rfl,AW y,_,_,rfl,rfl,?_⟩;rw [a5];refine ⟨D2 a0 a4,?_⟩;show Qk K _ _ _;refine DL ⟨_,rfl,_,rfl,_,O,_,rfl,b4,l6,λg H7 s7 gn gB gr _=>?_⟩
  have g0:0<g:=by
   rcases Int.lt_or_eq_of_le gn with z | z
   ·exact z
   ·exact absurd (Int.zero_dvd.mp (z ▸ gB)) (By o.B0 bn)
  have bp:=s7 _ _ b4;obtain ⟨S5,bq⟩:=o.step hm nm m1 T bE rfl al x.symm P.symm y hf a3 t6 e6 g0 gB gr;have br:(O.map (·/ g)).length=O.length:=AG ..;refine DL ⟨_,rfl,_,rfl,_,O,_,rfl,bp,.inl g0,⋯,λc2 b5=>⟨_,rfl,_,rfl,_,_,rfl,rfl,g0,?_⟩⟩;have bs:=AL b5 (.lst ((O.map (·/ g)).map V.int));have b6:=s6.trans s7;have a6:=b6.trans bs;exact ⟨O.length,bq,_,O.map (·/ g),_,_,_,_,_,_,rfl,s5.trans a6,upd_same,(BM (b6 _ _ ao) b5).symm,a6 _ _ ao,hn.tp (C' a6),S5,br.symm⟩
 ·have al:r.length<m.length:=by have cc:=of_decide_eq_false (Bool.eq_false_iff.mpr cc);rw [AG] at cc;omega
  obtain ⟨N,L,NB,Nb,Nq⟩:=o.N;have a0:Bd 400000 B:=(Dh (AW L) NB Nb).mono (BT (Nat.add_le_add_left (CY _ (Nat.sub_le _ _)) _) hc);have bz:=o.ql;show Qn K _ _ _;refine CU (Bv (BS ⟨_,rfl,_,_,I,rfl,Z,N4,⋯,λt1 z1 H5 s5 h5 n5=>?_⟩));have D:=s5 _ _ C;have bt:=o.len;refine Bb ⟨_,rfl,_,rfl,_,r,_,rfl,D,o.B0,⋯,λt2 z2 H6 s6 h6 n6=>⟨Az,λt ht=>?_⟩⟩;have st:=AL ht (.tup [.ref t1,.ref t2]);have S:AV (r.map λn=>Aw n B):=λq v=>by obtain ⟨n,_,rfl⟩:=AU.mp v;exact GV o.B0
  have bu:∀ k,B_ (r.map λn=>Aw n B) k=(r.getD k 0:Rat) / (B:Rat):=λk=>by
   unfold B_ Aa;rw [AT,AT,Ac];cases r[k]? with
   | none=>exact (U_ _).trans (U_ _).symm
   | some z=>exact HK o.B0
  have Bo:=o.rb;have r0:r.length+1 - m.length=0:=by omega
  rw [r0,Nat.sub_zero] at Bo Nb;have bB:Bd (c0+(l.length+1 - m.length)*d0) B:=Dh (AW L) NB Nb;obtain ⟨RO,RB⟩:=Gj o.B0 Bo;obtain ⟨TO,TB⟩:=vF RO RB;refine k t t1 t2 _ (trim I) (trim (r.map λn=>Aw n B)) ((((X.trans s4).trans s5).trans s6).trans st) upd_same (Pl.same ⟨z1,h5,n5⟩ (s6.trans st)) (Pl.same ⟨z2,h6,n6⟩ st) (λq v=>o.low q (DJ v)) (FC _) ?_ ⟨λq v=>S q (DJ v),FC _,_,TO,bB.le ⋯,TB⟩ ?_ λk=>?_
  ·have:=FE I;omega
  ·have:=FE (r.map λn=>Aw n B);rw [AG] at this;omega
  ·obtain ⟨d,hd⟩:∃ d,l.length+1 - m.length=(trim I).length+d:=⟨l.length+1 - m.length - (trim I).length,by have:=FE I;omega⟩;rw [Fh S,bu,o.idn k,Ow (λi=>(Fh o.low i).symm),hd,Ou (λi hi=>Bt hi)];rfl
theorem MR.add {n F G L:d8} (a:MR n F) (b:MR n G) (h:∀ k,L k=F k+G k):MR n L:=by
 obtain ⟨A,c⟩:=a;obtain ⟨B,d⟩:=b;exact ⟨A4 A B,λk=>by rw [Bi,<-c k,<-d k,h k]⟩
theorem MR.smul {n F L:d8} (a:MR n F) (c:Rat) (h:∀ k,L k=c*F k):MR n L:=by
 obtain ⟨A,b⟩:=a;exact ⟨A.map (c*·),λk=>by rw [BD,<-b k,h k]⟩
theorem MR.sub {n F G L:d8} (a:MR n F) (b:MR n G) (h:∀ k,L k=F k - G k):MR n L:=
 a.add (b.smul (-1) (L:=λk=>-1*G k) λ_=>rfl) λk=>by rw [h k];ext
theorem KP (F G:d8) (k:Nat):∀ n,cv F G n k=cvL ((List.range n).map F) G k
 | 0=>rfl
 | n+1=>by
   show cv F G n k+(if n<=k then F n*G (k - n) else 0)=_;rw [KP F G k n,List.range_succ,Bq,List.map_singleton,DU,AG,Bj];unfold Av;by_cases hk:n<=k
   ·rw [qU hk,qU hk]
   ·rw [qT hk,qT hk];ext
theorem vI {F:d8} {n:Nat} (h:∀ i,n<=i->F i=0) (k:Nat):F k=cvL ((List.range n).map F) Ak k:=by
 rw [DT,AT,Ac];by_cases hk:k<n
 ·rw [EB hk];rfl
 ·rw [Bx (by rw [Bj];omega),h k ⋯];rfl
theorem Gq.mono {b c b' c':Nat} {l:cI} (G:Gq b c l) (a:b<=b') (d:c<=c'):Gq b' c' l:=by
 obtain ⟨x,y,M,O,e,f⟩:=G;exact ⟨x,y,M,O,e.mono d,λz g=>(f z g).mono a⟩
theorem Fv {T:cI} {b c:Nat} (g:AV T) (n:Nz T) {M:Int} (j:0<M) (o:Bd c M) {N:d7} (h:∀ k,B_ T k=(N k:Rat) / (M:Rat)) (p:∀ k,Bd b (N k)):Gq b c T:=by
 have f:∀ q∈T,∃ k,q.2∣M/\q.1*(M / q.2)=N k:=λq d=>by
  obtain ⟨i,r,rfl⟩:=F8 d;have e:Aa T i=T[i]:=by unfold Aa;rw [AT,Aj r];rfl
  have m:=g _ d;have v:=h i;unfold B_ at v;rw [e] at v;exact ⟨i,SQ m (SO (AW m.pos) (AW j) v)⟩
 refine ⟨g,n,M,⟨j,λq d=>?_⟩,o,λz u=>?_⟩
 ·obtain ⟨k,a,_⟩:=f q d;exact a
 ·obtain ⟨q,d,rfl⟩:=AU.mp u;obtain ⟨k,_,a⟩:=f q d;rw [a];exact p k
theorem vJ (h:Ib K vs H Q E):Qb K { nx:=λ_ g=>Q .non g,rt:=Q } (L2.start ["one","other"] vs) H:=by
 obtain ⟨p,q,a,b,c,d,rfl,hp,i,e,f,j,m,n,o,k⟩:=h;unfold Qb;rwa [hp,i];exact ⟨DV j n,DV m o,AW (CB e f),λr u=>by rw [MA (CB e f)];exact k r u⟩
theorem vK (h:J6 K vs H Q E):Qc K { nx:=λ_ e=>Q .non e,rt:=Q } (L2.start ["one","other"] vs) H:=by
 obtain ⟨p,q,a,b,c,d,rfl,hp,f,g,i,j,m,n,o,k⟩:=h;unfold Qc;rwa [hp,f];exact ⟨DV j o,DV m n,By (AW g) i,k⟩
theorem vL (h:J7 K vs H Q E):Pf K { nx:=λ_ n=>Q .non n,rt:=Q } (L2.start ["row","other","result","place","whole","step","factor"] vs) H:=by
 obtain ⟨p,q,f,g,b,d,rfl,hp,N,bn,bm,b9,d9,ln,lm,k⟩:=h;unfold Pf;rwa [hp,N];have P:∀ B:cO,((!(List.map V.int B).isEmpty)=false)↔B.length=0:=λB=>by cases B <;> simp
 simp only [P];refine Am (λc=>?_) (λc=>Am (λc2=>?_) (λc2=>?_))
 ·exact ⟨sz ∅,λr R=>k r _ (AL R _) (by rw [qU (.inl c)];exact upd_same)⟩
 ·exact ⟨sz ∅,λr R=>k r _ (AL R _) (by rw [qU (.inr c2)];exact upd_same)⟩
 rw [qT ⋯] at k;refine ⟨sz ∅,λa ha=>?_⟩;have O:=AL ha (.lst [.int 0]);have F:=O _ _ hp;have S:=O _ _ N;rwa [F,S];rw [AG,AG];have eL:((f.length:Int)+(g.length:Int) - 1).toNat=f.length+g.length - 1:=by omega
 rw [eL,L5];refine ⟨⋯,⋯,sz ⋯,λw T=>?_⟩;generalize U:f.length+g.length - 1=L at T ⊢;have sw:=AL T (.lst (A3 L λ_=>0))
 have w0:H w=none:=by
  cases e:H w with
  | none=>rfl
  | some o=>have z:=O _ _ e;rw [T] at z;cases z
 refine ⟨⟨_,SqL.of (sw _ _ F)⟩,ForJ.enumL (xs:=f.map V.int) (λi v n=>∃ W X C D:cN,v=[some (.ref p),some (.ref q),some (.ref w),W,X,C,D]/\Same H n/\n w=some (.lst (A3 L λk=>ps f g i k)))
  ⟨none,none,none,none,rfl,O.trans sw,upd_same⟩ ?_ ?_ ?_⟩
 ·rintro i v n _ ⟨_,_,_,_,_,s1,_⟩;exact SqL.of (s1 _ _ hp)
 ·rintro i x pp v H1 G ⟨W,X,C,D,rfl,s1,m⟩ Y;rw [Ac] at G;cases en:f[i]? with
  | none=>rw [en] at G;cases G
  | some z=>
    rw [en] at G;obtain rfl:V.int z=x:=pE G;have il:i<f.length:=(BF.mp en).1;have zd:f.getD i 0=z:=by rw [AT,en];rfl
    have I:=AL Y (.tup [.int (i:Int),.int z]);rwa [];refine Am (λc3=>?_) (λc3=>?_)
    ·refine ⟨⟨_,SqL.of (I _ _ (s1 _ _ N))⟩,ForJ.enumL (xs:=g.map V.int) (λj v n=>∃ C D:cN,v=[some (.ref p),some (.ref q),some (.ref w),some (.int (i:Int)),some (.int z),C,D]/\Same H n/\n w=some (.lst (A3 L λk=>bh f g i j k)))
      ⟨C,D,rfl,s1.trans I,by rw [I _ _ m];exact congrArg (λl=>some (HO.lst l)) (Ii λk _=>(Yn f g i k))⟩ ?_ ?_ ?_⟩
     ·rintro j v n _ ⟨_,_,_,J,_⟩;exact SqL.of (J _ _ N)
     ·rintro j y pq v H2 M ⟨y3,y4,rfl,J,A⟩ Z;rw [Ac] at M;cases em:g[j]? with
      | none=>rw [em] at M;cases M
      | some u=>
        rw [em] at M;obtain rfl:V.int u=y:=pE M;have jl:j<g.length:=(BF.mp em).1;have ud:g.getD j 0=u:=by rw [AT,em];rfl
        have sq:=AL Z (.tup [.int (j:Int),.int u]);have a0:=sq _ _ A;rwa [a0];have kl:i+j<L:=by omega
        refine ⟨_,Ck ⋯ (DW _ kl),DV ((bn z (Ay en)).mono ⋯) ((bm u (Ay em)).mono ⋯),_,rfl,i+j,?_,λb o h=>Kp.upd b o (BM h w0) (sq b o (J b o h)),?_⟩
        ·rw [Dk];exact FJ ⋯ kl
        ·refine Hb kl ?_ λk _ hk=>?_
         ·rw [Oi,qU rfl,zd,ud]
         ·rw [Oi,qT hk]
     ·rintro v H2 ⟨y3,y4,rfl,J,A⟩;rw [AG] at A;exact ⟨_,_,_,_,rfl,J,A⟩
    ·refine ⟨s1.trans I,?_⟩;rw [I _ _ m];refine congrArg (λl=>some (HO.lst l)) (Ii λk _=>?_);have z0:z=0:=Decidable.not_not.mp c3;show ps f g i k+_=ps f g i k;rw [zd,z0];simp
 ·rintro v H1 ⟨W,X,C,D,rfl,s1,m⟩;rwa [];rw [AG] at m;subst U;exact k w H1 s1 m
theorem vM (h:Di K vs H Q E):Qi K { nx:=λ_ R=>Q .non R,rt:=Q } (L2.start ["P","Q","one","other"] vs) H:=by
 obtain ⟨p,q,xs,ys,l,m,b,c,d,e,rfl,hp,f,S,T,Gl,j,ll,lm,b9,c9,d9,e9,k⟩:=h;unfold Qi;obtain ⟨I,g,U⟩:=Gl.clr;obtain ⟨J,i,W⟩:=j.clr;have o:=B9 Gl.low;have u:=B9 j.low;rwa [hp,f];refine bJ hp ⟨l,S,Gl.low,AZ l,o,g.mono ⋯,λq f=>(U q f).mono ⋯,⋯,λr a H1 s1 X Y=>?_⟩;have v:=s1 _ _ f;rwa [v];refine bJ v ⟨m,T.tp (C' s1),j.low,AZ m,u,i.mono ⋯,λq f=>(W q f).mono ⋯,⋯,λr2 a2 H2 B x C=>?_⟩;have y:=B _ _ X;have D:=B _ _ Y;rwa [y,x];have Z:(AR l).length=l.length:=by unfold AR;rw [AG]
 have L:(AR m).length=m.length:=by unfold AR;rw [AG]
 refine ⟨AR l,D,AR m,C,b,I,d,J,⋯,⋯,⋯,⋯,λw H3 F hw=>?_⟩;have G:=F _ _ y;have z:=F _ _ x;rwa [G,z];have A:0<AZ l*AZ m:=CB o.1 u.1;refine ⟨DV (g.mono ⋯) (i.mono ⋯),_,hw,AW A,?_,λr4 zs H4 s4 h4 M=>?_⟩
 ·split
  ·exact Ae _
  ·rw [AG,Bj];omega
 have O:trim (EK l m (l.length+m.length))=trim (List.map (λn=>Aw n (AZ l*AZ m)) (if (AR l).length=0\/(AR m).length=0 then [] else List.map (λk=>ps (AR l) (AR m) (AR l).length k) (List.range ((AR l).length+(AR m).length - 1)))):=by
  rw [Z,L,show (λn=>Aw n (AZ l*AZ m))=λn=>Y_ n (AZ l*AZ m) from funext λn=>MA A];exact Yo A L
 have P:AV (EK l m (l.length+m.length)):=Oy o u
 have pv:∀ k,B_ (trim (EK l m (l.length+m.length))) k=cv (B_ l) (B_ m) l.length k:=λk=>by
  rw [Fh P];exact Oz Gl.low j.low o u k
 rw [<-O] at M;refine k r4 _ H4 (((s1.trans B).trans F).trans s4) ⟨zs,h4,M⟩ ?_ ?_ pv
 ·refine Fv (λq f=>P q (DJ f)) (FC _) A (g.mul i) (N:=λk=>ps (AR l) (AR m) l.length k) (λk=>?_) λk=>LF I J _ _;rw [pv];exact (Jh Gl.low j.low o u _ _).symm
 ·rw [O];refine BT (FE _) ?_;rw [AG];split
  ·exact Ae _
  ·rw [AG,Bj];omega
theorem vN (h:Ic K vs H Q E):Qj K { nx:=λ_ d=>Q .non d,rt:=Q } (L2.start ["P","c"] vs) H:=by
 obtain ⟨p,c,j,l,a,b,rfl,hp,D,v,F,G,I,J,L,ll,k⟩:=h;unfold Qj;rwa [hp];have M:=v.length;refine ⟨⟨_,SqT.of hp⟩,CompJ.tup (xs:=j) (λi f d=>i<=j.length/\Same H d/\Nums d f ((l.take i).map λq=>F_ q (a,b))) ⟨Ae _,Same.refl H,trivial⟩ ?_ ?_ ?_⟩
 ·rintro i f d ⟨y,s1,e⟩;exact ⟨y,sz (by rw [e.length,AG,CC];omega),s1 _ _ hp⟩
 ·rintro i x f d A ⟨y,s1,e⟩;obtain ⟨z,n,W,rfl,o⟩:=v.get A;have N:i<j.length:=(BF.mp A).1;have g:=s1 _ _ o;have u:=s1 _ _ D;have O:=F z (Ay n);have B:=L z (Ay n);rwa [g,u];refine ⟨O.pos,G,B.1,B.2,I,J,λr m=>⟨⋯,s1.trans (AL m _),?_⟩⟩;rw [HZ _ n];exact (e.tp (C' (AL m _))).append (Nums.one Jp)
 ·rintro f d ⟨_,s1,e⟩ w P;have C:=AL P (.lst f);rw [M,CW] at e;rwa [];exact ⟨_,e.tp (C' C),by rw [AG];omega,λr R S T m U=>k r R S ((s1.trans C).trans T) m U⟩
theorem vO (h:D1 K vs H Q E):Qs K { nx:=λ_ r=>Q .non r,rt:=Q } (L2.start ["P","Q"] vs) H:=by
 obtain ⟨p,q,R,S,l,m,b,c,d,e,rfl,hp,w,x,y,Gl,f,n,ll,z,A,B,C,D,F,k⟩:=h;unfold Qs;rwa [hp,w];refine ⟨l,x,m,y,b,c,Gl,d,e,f,n,ll,z,A,B,C,D,λt u v G a g s1 I J T L M N U W o=>?_⟩
 have O:∀ k,B_ g k=0:=by
  have j:MR (B_ m) (B_ g):=F.sub (vG (P:=λk=>cv (B_ a) (B_ m) a.length k) a.length (λk=>rfl)) λk=>by have:=o k;show B_ g k=B_ l k - cv (B_ a) (B_ m) a.length k;ext
  refine λk=>MR.short (DN f.low f.nz n) (λi X=>Bt ⋯) j (λk hk=>Bt ⋯) k
 rwa [I];exact k u a G s1 J L M N λk=>by rw [o k,O k];ext
theorem Hg (l:cI) (k:Nat):cvL (rw' l) Ak k=B_ l k:=(vI (λi a=>Bt a) k).symm
theorem Hh (l:cI) (g:d8) (k:Nat):cv (B_ l) g l.length k=cvL (rw' l) g k:=KP _ _ k _
theorem SX {L M G T B:d8} {t b U W:List Rat} {n:Nat} (a:∀ k,cvL t Ak k=T k) (c:∀ k,cvL b Ak k=B k) (d:G n≠0) (f:∀ i,n<i->G i=0)
  (g:∀ k,L k=cvL t G k) (h:∀ k,M k=cvL b G k) (e:∀ k,G k=cvL U L k+cvL W M k):Cop T B:=by
 refine ⟨U,W,λk=>?_⟩
 have z:=LZ d f (A:=[1]) (B:=A4 (BV U t) (BV W b)) (λk=>by
  rw [Bi,Bu,Bu,<-BI g,<-BI h,<-e k];cases k with
  | zero=>rw [Ax];ext
  | succ k=>rw [Ar,BC];ext) Ak k
 rw [Bi,Bu,Bu,BI a,BI c] at z;rw [<-z,DT];cases k with
 | zero=>rfl
 | succ k=>rfl
theorem Cop.scal {T B T' B':d8} {s:Rat} (a:s≠0) (h:Cop T B) (b:∀ k,T' k=s*T k) (c:∀ k,B' k=s*B k):Cop T' B':=by
 obtain ⟨U,W,e⟩:=h;refine ⟨U.map (s⁻¹*·),W.map (s⁻¹*·),λk=>?_⟩;rw [BD,BD,BI b,BI c,C7,C7,e k];have:s⁻¹*s=1:=Rat.inv_mul_cancel s a;ext
theorem vP {B B':cI} (j:AV B) (a:AV B') (m:Nz B) (b:Nz B') (n:B≠[]) (g:B'≠[]) (o:Aa B (B.length - 1)=(1,1)) (p:Aa B' (B'.length - 1)=(1,1)) (h:MR (B_ B) (B_ B')) (h':MR (B_ B') (B_ B)):B=B':=by
 have len:∀ {B B':cI},AV B->AV B'->Nz B->Nz B'->B≠[]->B'≠[]->MR (B_ B) (B_ B')->B.length<=B'.length:=λ{B B'} j a m b n g h=>by
  rcases A8 B'.length B.length with c | c
  ·exact absurd (MR.short (DN j m n) (λi q=>Bt ⋯) h (λk hk=>Bt ⋯) (B'.length - 1)) (DN a b g)
  ·exact c
 have e:B.length=B'.length:=Ev (len j a m b n g h) (len a j b m g n h');have u:0<B.length:=Bk.mpr n;refine Oq j a m b λk=>?_
 have d:=MR.short (f:=λk=>B_ B' k - B_ B k) (DN j m n) (λi q=>Bt ⋯) (h.sub ⟨[1],λk=>by
  cases k with
  | zero=>rw [Ax];ext
  | succ k=>rw [Ar,BC];ext⟩ λk=>rfl) (λk hk=>by
    rcases A8 (B.length - 1) k with c | c
    ·show B_ B' k - B_ B k=0;rw [Bt ⋯,Bt ⋯];ext
    ·have r:k=B.length - 1:=by omega
     show B_ B' k - B_ B k=0;unfold B_;rw [r,o,e,p];ext) k
 have d:B_ B' k - B_ B k=0:=d;ext
theorem SY {l m:cI} {g:cO} (a:AV l) (b:AV m) (R:RC (co (AR l)) (co (AR m)) g):∃ U W:List Rat,∀ k,B_ (G_ g) k=cvL U (B_ l) k+cvL W (B_ m) k:=by
 obtain ⟨d,c,U,W,f⟩:=R.qi;have h:=Au c;have j:=ST a;have n:=ST b;refine ⟨(U.map λz:Int=>(z:Rat)).map (((co g (g.length - 1):Rat))⁻¹*(d:Rat)⁻¹*(((AZ l:Rat))⁻¹)⁻¹*·),(W.map λz:Int=>(z:Rat)).map (((co g (g.length - 1):Rat))⁻¹*(d:Rat)⁻¹*(((AZ m:Rat))⁻¹)⁻¹*·),λk=>?_⟩;have e:(d:Rat)*(co g k:Rat)=((cvL U (co (AR l)) k:Int):Rat)+((cvL W (co (AR m)) k:Int):Rat):=by exact_mod_cast f k
 rw [KO j (EQ a),KO n (EQ b)] at e;rw [BD,BD,D3 R.lz];generalize cvL (U.map λz:Int=>(z:Rat)) (B_ l) k=x at e ⊢;generalize cvL (W.map λz:Int=>(z:Rat)) (B_ m) k=y at e ⊢;generalize ((AZ l:Rat)⁻¹)⁻¹=u at e ⊢;generalize ((AZ m:Rat)⁻¹)⁻¹=v at e ⊢;have i:(d:Rat)⁻¹*(d:Rat)=1:=Rat.inv_mul_cancel _ h;have:(co g k:Rat)=(d:Rat)⁻¹*(u*x+v*y):=by rw [<-e];ext
 rw [this];ext
theorem ML {l a:cI} {g:cO} {b n c:Nat} (j:AV l) (r:AV a) (o:∀ z∈AR l,Bd b z) (p:l.length<=n) (q:n<2 ^ c) (d:Lz g) (P:Prim g) (m:MQ (co g) (co (AR l))) (e:∀ k,B_ l k=cv (B_ a) (B_ (G_ g)) a.length k) :
  ∃ A:cO,(∀ k,Bd (b+n*(2*c+4)) (co A k))/\∀ k,B_ a k=((co g (g.length - 1):Rat))*(co A k:Rat)*((AZ l:Rat))⁻¹:=by
 obtain ⟨A,f⟩:=T_ P m;refine ⟨A,wR o (by rw [Bp];exact p) q d f,λk=>?_⟩;have u:=Au d.2;have top:B_ (G_ g) (g.length - 1)≠0:=by rw [D3 d];ext
 have h:∀ i,g.length - 1<i->B_ (G_ g) i=0:=λi h=>Bt (by rw [DY];omega)
 have z:=LZ top h (A:=rw' a) (B:=(A.map λz:Int=>(z:Rat)).map ((co g (g.length - 1):Rat)*((AZ l:Rat))⁻¹*·)) (λk=>by
  rw [<-Hh,<-e k,BD,EQ j,f k,KO (Fu d) (D3 d)];ext) Ak k
 rw [Hg,BD,DT,AT,Ac] at z;rw [z];unfold co;rw [AT (l:=A)];cases A[k]? with
 | none=>show _*(0:Rat)=_*((0:Int):Rat)*_;ext
 | some v=>show _*(v:Rat)=_*(v:Rat)*_;ext
theorem SZ {l:cI} {a b:Int} (c:AV l) (d:0<b) (k:Nat):B_ (l.map λq=>F_ q (a,b)) k=val (a,b)*B_ l k:=by
 unfold B_ Aa;rw [AT,AT,Ac];cases e:l[k]? with
 | none=>
   show val (0,1)=_*val (0,1);have:val (0,1)=0:=by unfold val;exact U_ _
   rw [this];ext
 | some q=>
   show val (F_ q (a,b))=_*val q;rw [IJ (c q (Ay e)).pos d];ext
theorem Sa {l:cI} {a b:Int} (c:AV l) (d:0<b):AV (l.map λq=>F_ q (a,b)):=λq e=>by
 obtain ⟨z,f,rfl⟩:=AU.mp e;exact Yj (c z f).pos d
theorem Hi:Low 1 1:=⟨∅,∅⟩
theorem bdc {n:Nat} {x:Int} (h:x.natAbs<2 ^ n):Bd n x:=h
theorem vQ (h:J8 K vs H Q E):Qq K { nx:=λ_ Y=>Q .non Y,rt:=Q } (L2.start ["P","Q","factor"] vs) H:=by
 obtain ⟨p,q,l,m,rfl,⟨xs,hp,Z⟩,⟨ys,c,C⟩,ll,N,nm,O,P,G,l9,m9,k⟩:=h;have p1:0<m.length:=Bk.mpr O;obtain ⟨v,I,pv,rfl,b⟩:=C.at (i:=m.length - 1) ⋯ (0,1);have J:Q_ ys (-1)=some (V.ref pv):=atI_last (by rw [C.length];exact p1) (by rw [C.length];exact I);have R:Low (Aa m (m.length - 1)).1 (Aa m (m.length - 1)).2:=C6 N _;have o:=SR nm O
 have mL:Aa m (m.length - 1)∈m:=by
  unfold Aa;rw [AT,Aj ⋯];exact Dq _
 have x:=G _ mL;have b:H pv=some (HO.tup [V.int (Aa m (m.length - 1)).1,V.int (Aa m (m.length - 1)).2]):=b;generalize a0:Aa m (m.length - 1)=r at b R o x k;unfold Qq;rwa [];refine ⟨sz ∅,λw hw=>?_⟩;have D:=AL hw (.tup [.int 1,.int 1]);have y:=D _ _ c;have d:=D _ _ b;have z:upd H w (.tup [.int 1,.int 1]) w=some (HO.tup [V.int 1,V.int 1]):=upd_same;generalize upd H w (.tup [.int 1,.int 1])=S at D y d z ⊢;refine ⟨_,y,_,J,_,rfl,?_⟩;rwa [d,z];have T:Bd 60000000 1:=(bdc (n:=1) ∅).mono ∅;refine ⟨∅,o,T,T,x.1.mono ∅,x.2.mono ∅,λf hf=>?_⟩;rw [Int.one_mul,Int.one_mul];have F:=GV (n:=r.2) o;have A:=Oo o x.2 x.1
 have U:val (Aw r.2 r.1)*val r=1:=by
  have z1:=Au o;have z2:=Au (AW R.pos);rw [HK o];unfold val;ext
 generalize Aw r.2 r.1=a at F A U ⊢;have W:=AL hf (.tup [.int a.1,.int a.2]);have e:upd S f (.tup [.int a.1,.int a.2]) f=some (HO.tup [V.int a.1,V.int a.2]):=upd_same;generalize upd S f (.tup [.int a.1,.int a.2])=H4 at W e ⊢;have g:=D.trans W;have L:=g _ _ hp;rwa [L,e];refine ⟨l,Z.tp (C' g),ll,F.pos,A.1.mono ∅,A.2.mono ∅,λq c=>⟨(P q c).1.mono ∅,(P q c).2.mono ∅⟩,⋯,λu us H6 X hu nu=>?_⟩;have j:=g.trans X;refine ⟨_,j _ _ c,m,a.1,a.2,X _ _ e,C.tp (C' j),N,F.pos,A.1.mono ∅,A.2.mono ∅,λq c=>⟨(G q c).1.mono ∅,(G q c).2.mono ∅⟩,⋯,λv vs H7 M I nv=>⟨sz ∅,λt ht=>?_⟩⟩;have B:=AL ht (.tup [.ref u,.ref v]);exact k a F U t u v _ ((j.trans M).trans B) upd_same ⟨us,B _ _ (M _ _ hu),(nu.tp (C' M)).tp (C' B)⟩ ⟨vs,B _ _ I,nv.tp (C' B)⟩
theorem vR {f:Nu->Nu->Nu} {s:Int} (j:∀ q r:Nu,0<q.2->0<r.2->Low (f q r).1 (f q r).2/\val (f q r)=val q+(s:Rat)*val r) (u:s=1\/s = -1) {l m:cI} {M:Int} {b c:Nat} (d:AV l) (g:AV m) (n:Ov l M) (v:Ov m M) (w:Bd c M) (x:∀ z∈O' l M,Bd b z) (y:∀ z∈O' m M,Bd b z) :
  Gq (b+1) c (trim (FG f l m))/\(trim (FG f l m)).length<=max l.length m.length/\∀ k,B_ (trim (FG f l m)) k=B_ l k+(s:Rat)*B_ m k:=by
 have a:AV (FG f l m):=λq h=>by
  obtain ⟨i,_,rfl⟩:=AU.mp h;exact (j _ _ (C6 d i).pos (C6 g i).pos).1
 have pv:∀ k,B_ (trim (FG f l m)) k=B_ l k+(s:Rat)*B_ m k:=λk=>by
  rw [Fh a];rcases A8 k (max l.length m.length) with c | c
  ·have e:Aa (FG f l m) k=f (Aa l k) (Aa m k):=by
    unfold FG Aa;rw [AT,Ac,EB c];rfl
   unfold B_;rw [e,(j _ _ (C6 d k).pos (C6 g k).pos).2]
  ·rw [Bt (by unfold FG;rw [AG,Bj];exact c),Bt (l:=l) ⋯,Bt (l:=m) ⋯];ext
 refine ⟨Fv (λq h=>a q (DJ h)) (FC _) n.1 w (N:=λk=>(O' l M).getD k 0+s*(O' m M).getD k 0) (λk=>?_) λk=>?_,?_,pv⟩
 ·rw [pv,GW d n,GW g v];push_cast;ext
 ·have o:=GU x k;have p:=GU y k;rcases u with z | z
  ·rw [z,Int.one_mul];exact o.add p
  ·rw [z,show (O' l M).getD k 0 + -1*(O' m M).getD k 0=(O' l M).getD k 0 - (O' m M).getD k 0 by omega];exact o.sub p
 ·refine BT (FE _) ?_;unfold FG;rw [AG,Bj];exact AO _
theorem vS (h:HV K vs H Q E):Qa K { nx:=λ_ j=>Q .non j,rt:=Q } (L2.start ["one","other"] vs) H:=by
 obtain ⟨p,q,a,b,c,d,rfl,hp,m,e,f,n,g,o,i,k⟩:=h;unfold Qa;rwa [hp,m];exact ⟨DV n i,DV o g,DV g i,AW (CB e f),λr u=>by rw [MA (CB e f)];exact k r u⟩
theorem vT (h:Id K vs H Q E):Qg K { nx:=λ_ b=>Q .non b,rt:=Q } (L2.start ["P","place"] vs) H:=by
 obtain ⟨p,g,l,i,rfl,hp,a,q⟩:=h;unfold Qg;rwa [hp];have j:=a.length;refine Am (λc=>?_) (λc=>⟨sz ∅,λr d=>q _ _ (AL d _) ?_⟩)
 ·obtain ⟨v,e,f⟩:=a.at (i:=i) ⋯ (0,1);exact ⟨v,NV e,q v H (Same.refl H) f⟩
 ·rw [LJ ⋯];exact Jp (q:=(0,1))
theorem Sb {l:cI} {M:Int} {b c:Nat} (a:AV l) (O:Ov l M) (d:Bd c M) (f:∀ z∈O' l M,Bd b z) (i:Nat):Bd (b+1) (Aa l i).1/\Bd (c+1) (Aa l i).2:=by
 unfold Aa;rw [AT];cases e:l[i]? with
 | none=>exact ⟨Dg _,(bdc (n:=1) ∅).mono ⋯⟩
 | some q=>
   have m:=Ay e;exact ⟨(Ro a O f q m).mono ⋯,(Dh (AW O.1) (O.2 q m) d).mono ⋯⟩
theorem KQ {P A C:cI} (f:AV P) (g:Nz P) (j:AV A) (m:Nz A) (b:A≠[]) (o:AV C) (p:Nz C) (C0:C≠[]) (h:∀ k,B_ P k=cv (B_ A) (B_ C) A.length k) :
  P.length+1=A.length+C.length/\B_ P (P.length - 1)=B_ A (A.length - 1)*B_ C (C.length - 1)/\P≠[]:=by
 have u:0<A.length:=Bk.mpr b;have v:0<C.length:=Bk.mpr C0
 have a:∀ k,A.length+C.length - 1<=k->B_ P k=0:=λk hk=>by
  rw [h,KP];exact Js (n:=C.length - 1) (λi a=>Bt ⋯) _ _ (by rw [AG,Bj];omega)
 have top:B_ P (A.length - 1+(C.length - 1))=B_ A (A.length - 1)*B_ C (C.length - 1):=by
  rw [h];obtain ⟨n,e⟩:∃ n,A.length=n+1:=⟨A.length - 1,⋯⟩;rw [e];show cv (B_ A) (B_ C) n (n+1 - 1+(C.length - 1))+_=_
  have z:cv (B_ A) (B_ C) n (n+(C.length - 1))=0:=by
   rw [KP];exact Js (n:=C.length - 1) (λi a=>Bt ⋯) _ _ (by rw [AG,Bj];omega)
  rw [Nat.add_sub_cancel,z,qU ⋯,show n+(C.length - 1) - n=C.length - 1 by omega,Rat.zero_add]
 have r:B_ P (A.length - 1+(C.length - 1))≠0:=by
  rw [top];intro z;rcases Rat.mul_eq_zero.mp z with q | q
  ·exact DN j m b q
  ·exact DN o p C0 q
 have w:A.length - 1+(C.length - 1)<P.length:=by
  rcases A8 (A.length - 1+(C.length - 1)) P.length with c | c
  ·exact c
  ·exact absurd (Bt c) r
 have d:P≠[]:=Bk.mp ⋯
 have l2:P.length=A.length - 1+(C.length - 1)+1:=by
  rcases A8 (A.length - 1+(C.length - 1)+1) P.length with c | c
  ·exact absurd (a (P.length - 1) ⋯) (DN f g d)
  ·omega
 exact ⟨⋯,by rw [l2,Nat.add_sub_cancel];exact top,d⟩
theorem Sc {B:cI} (a:AV B) (h:B_ B (B.length - 1)=1):Aa B (B.length - 1)=(1,1):=by
 refine DK (C6 a _) Hi ?_;have:val ((1:Int),(1:Int))=1:=by unfold val;show ((1:Int):Rat) / ((1:Int):Rat)=1;rw [show ((1:Int):Rat)=1 from rfl];ext
 rw [this];exact h
theorem Gk {B:cI} (h:Aa B (B.length - 1)=(1,1)):B_ B (B.length - 1)=1:=by
 unfold B_;rw [h];unfold val;show ((1:Int):Rat) / ((1:Int):Rat)=1;rw [show ((1:Int):Rat)=1 from rfl];ext
theorem FF.same {H d:Hp} {p:Addr} {T B:cI} (h:FF H p T B) (s:Same H d):FF d p T B:=let ⟨u,v,a,b,c⟩:=h;⟨u,v,s _ _ a,b.same s,c.same s⟩
theorem Sd {l a:cI} {g:cO} {b c n e d:Nat} (Gl:Gq b c l) (f:AV a) (h:Nz a) (i:l.length<=n) (j:n<2 ^ e) (o:Lz g) (P:Prim g) (p:Bd d (co g (g.length - 1))) (m:MQ (co g) (co (AR l))) (q:∀ k,B_ l k=cv (B_ a) (B_ (G_ g)) a.length k):Gq (d+(b+n*(2*e+4))) c a:=by
 obtain ⟨A,r,u⟩:=ML Gl.low f Gl.clr.1 i j o P m q;exact Fv f h (B9 Gl.low).1 Gl.clr.2.1 (N:=λk=>co g (g.length - 1)*co A k) (λk=>by rw [u,Rat.div_def];push_cast;rfl) λk=>Bd.mul p (r k)
theorem vU {b c:Nat} {l m:cI} (g:Gq b c l) (h:Gq b c m):∃ M,Ov l M/\Ov m M/\Bd (c+c) M/\(∀ z∈O' l M,Bd (b+c) z)/\∀ z∈O' m M,Bd (b+c) z:=by
 have a:∀ {l:cI} {M N:Int},AV l->Ov l M->(∀ z∈O' l M,Bd b z)->0<N->Bd c N->Ov l (M*N)/\∀ z∈O' l (M*N),Bd (b+c) z:=λ{l M N} A O p r d=>by
  refine ⟨⟨CB O.1 r,λq f=>F6 (O.2 q f)⟩,λz u=>?_⟩;obtain ⟨q,f,rfl⟩:=AU.mp u;have e:M*N / q.2=M / q.2*N:=Int.mul_ediv_assoc' N (O.2 q f);rw [e,<-Int.mul_assoc];exact (p _ (AU.mpr ⟨q,f,rfl⟩)).mul d
 obtain ⟨M,i,j,v⟩:=g.ov;obtain ⟨N,k,d,w⟩:=h.ov;obtain ⟨x,y⟩:=a g.low i v k.1 d;obtain ⟨n,o⟩:=a h.low k w i.1 j;rw [Int.mul_comm N M] at n o;exact ⟨M*N,x,n,j.mul d,y,o⟩
theorem Hj (l:cI):sr l=Sr.L (rw' l):=Sr.ext' λk=>(Hg l k).symm
theorem Af (l:cI):Sr.Pol (sr l):=⟨_,Hj l⟩
theorem vV (l:cI) (g:d8):(⟨cvL (rw' l) g⟩:Sr)=sr l*⟨g⟩:=by rw [Hj,Sr.L_mul]
theorem Cl {P A C:cI} (h:∀ k,B_ P k=cv (B_ A) (B_ C) A.length k):sr P=sr A*sr C:=by
 refine Eq.trans ?_ (vV A (B_ C));exact Sr.ext' λk=>(h k).trans (Hh _ _ _)
theorem DO {l:cI} (a:AV l) (b:Nz l) (c:l≠[]):sr l≠0:=λz=>DN a b c (by
 have:=pI (congrArg Sr.c z) (l.length - 1);rw [Sr.zero_c] at this;exact this)
theorem Gn {l m:cI} (a:AV l) (b:AV m) (c:Nz l) (d:Nz m) (h:sr l=sr m):l=m:=Oq a b c d λk=>pI (congrArg Sr.c h) k
theorem KR (k:Nat):(1:Sr).c k=Ak k:=by show ((1:Nat):Rat)*Ak k=_;push_cast;ext
theorem sr_cop {T B:cI}:Cop (B_ T) (B_ B)↔Sr.Cs (sr T) (sr B):=by
 constructor
 ·rintro ⟨U,W,e⟩;refine ⟨Sr.L U,Sr.L W,Sr.Pol.L _,Sr.Pol.L _,?_⟩;rw [Sr.L_mul,Sr.L_mul];exact Sr.ext' λk=>by rw [KR,e k];rfl
 ·rintro ⟨_,_,⟨U,rfl⟩,⟨W,rfl⟩,e⟩;refine ⟨U,W,λk=>?_⟩;rw [Sr.L_mul,Sr.L_mul] at e;have:=pI (congrArg Sr.c e) k;rw [KR] at this;exact this.symm
theorem vW (h:Lk K vs H Q E):Qh K { nx:=λ_ d=>Q .non d,rt:=Q } (L2.start ["P","Q"] vs) H:=by
 obtain ⟨p,q,T,U,l,m,M,b,c,rfl,hp,I,J,L,A,B,N,O,C,j,n,b9,c9,ll,lm,k⟩:=h;unfold Qh;rwa [hp,I];have W:=J.length;have X:=L.length;rw [xM,W,X];refine ⟨⋯,⋯,CompJ.range (λi o d=>i<=max l.length m.length/\Same H d/\Nums d o ((List.range i).map λi=>I_ (Aa l i) (Aa m i))) ⟨Ae _,Same.refl H,trivial⟩ ?_ ?_ ?_⟩
 ·rintro i o d ⟨w,s1,x⟩;exact ⟨w,sz (by rw [x.length,AG,Bj];omega)⟩
 ·rintro i o d hi ⟨w,s1,x⟩;rwa [];rw [show (0:Int)+(i:Int)=(i:Int) by omega];refine ⟨T,l,i,rfl,s1 _ _ hp,J.tp (C' s1),λv H1 e Y=>⟨U,m,i,rfl,e _ _ (s1 _ _ I),L.tp (C' (s1.trans e)),λu H2 y Z=>?_⟩⟩;obtain ⟨pv,rfl,D⟩:=Y.tp (C' y);obtain ⟨pu,rfl,F⟩:=Z;have P:=Sb A N C j i;have R:=Sb B O C n i;refine ⟨pv,rfl,pu,rfl,_,_,D,_,_,F,(C6 A i).pos,(C6 B i).pos,P.1.mono ⋯,P.2.mono ⋯,R.1.mono ⋯,R.2.mono ⋯,λr z=>⟨⋯,((s1.trans e).trans y).trans (AL z _),?_⟩⟩;rw [xN];exact (x.tp (C' ((e.trans y).trans (AL z _)))).append (Nums.one Jp)
 ·rintro o d ⟨_,s1,x⟩ a ha;rwa [];have e:=AL ha (.lst o);have g:=vR (f:=I_) (s:=1) (λq r w S=>⟨Yi w S,by rw [Jg w S];ext⟩) (.inl rfl) A B N O C j n;refine ⟨_,x.tp (C' e),by rw [AG,Bj];omega,λr os G y z hz=>?_⟩;exact k r _ G ((s1.trans e).trans y) ⟨os,z,hz⟩ g.1 g.2.1 λk=>by have:=g.2.2 k;exact this
theorem Iq (p:d7):∀ (w:cO) (k:Nat),((cvL w p k:Int):Rat)=cvL (w.map λz:Int=>(z:Rat)) (λk=>(p k:Rat)) k
 | [],_=>rfl
 | x::w,0=>by rw [Ax];show _=(x:Rat)*(p 0:Rat)+0;push_cast;rfl
 | x::w,k+1=>by rw [Ar];show _=(x:Rat)*(p (k+1):Rat)+cvL (w.map λz:Int=>(z:Rat)) (λk=>(p k:Rat)) k;rw [<-Iq p w k];push_cast;rfl
theorem En (a:cO):si a=Sr.L (a.map λz:Int=>(z:Rat)):=Sr.ext' λk=>by
 show ((co a k:Int):Rat)=cvL _ Ak k;rw [DT];unfold co;rw [AT,AT,Ac];cases a[k]? <;> rfl
theorem CV (a:cO):Sr.Pol (si a):=⟨_,En a⟩
theorem KS {a b c:cO} (h:∀ k,co a k=cvL b (co c) k):si a=si b*si c:=by
 rw [En b,Sr.L_mul];refine Sr.ext' λk=>?_;show ((co a k:Int):Rat)=cvL _ (λk=>((co c k:Int):Rat)) k;rw [h k,Iq]
theorem ER {a:cO} (h:Lz a):si a≠0:=λz=>h.2 (by
 have:=pI (congrArg Sr.c z) (a.length - 1);rw [Sr.zero_c] at this;have this:((co a (a.length - 1):Int):Rat)=0:=this;exact_mod_cast this)
theorem vX (a:cO):Sr.Bn (si a) a.length:=λk hk=>by
 show ((co a k:Int):Rat)=0;rw [Ag hk];rfl
theorem Go {g:Int} (a:cO):si (a.map (g*·))=Sr.num (g:Rat)*si a:=Sr.ext' λk=>by
 rw [Sr.num_mul];show ((co (a.map (g*·)) k:Int):Rat)=(g:Rat)*((co a k:Int):Rat)
 have e:co (a.map (g*·)) k=g*co a k:=by
  unfold co;rw [AT,AT,Ac];cases a[k]? with
  | none=>simp
  | some z=>rfl
 rw [e];push_cast;rfl
namespace Sr
theorem num_num (x y:Rat):num x*num y=num (x*y):=ext' λk=>by
 rw [num_mul];show x*(y*Ak k)=x*y*Ak k;ext
theorem num_one:num 1=1:=congrArg num (show (1:Rat)=((1:Nat):Rat) by push_cast;rfl)
theorem num_inv {x:Rat} (h:x≠0):num x⁻¹*num x=1:=by
 rw [num_num,Rat.inv_mul_cancel _ h];exact num_one
end Sr
theorem vY {x:Rat} (h:x≠0):x⁻¹≠0:=λz=>by
 have:=Rat.inv_mul_cancel _ h;rw [z] at this;ext
theorem Se {g f:cO} (m:MQ (co g) (co f)):∃ B,Sr.Pol B/\si f=B*si g:=by
 obtain ⟨c,a,A,h⟩:=m;have b:=Au a;refine ⟨Sr.num ((c:Rat)⁻¹)*si A,(Sr.Pol.num _).mul (CV A),?_⟩
 have e:Sr.num (c:Rat)*si f=si A*si g:=by
  rw [<-Go];refine KS λk=>?_;rw [<-h k];unfold co;rw [AT,AT,Ac];cases f[k]? with
  | none=>simp
  | some z=>rfl
 have i:=Sr.num_inv b;have:si f=Sr.num ((c:Rat)⁻¹)*Sr.num (c:Rat)*si f:=by rw [i];ext
 rw [this,show Sr.num ((c:Rat)⁻¹)*Sr.num (c:Rat)*si f=Sr.num ((c:Rat)⁻¹)*(Sr.num (c:Rat)*si f) by ext,e];ext
theorem vZ {r o g:cO} (R:RC (co r) (co o) g) {A B:Sr} (a:Sr.Pol A) (b:Sr.Pol B) (c:si r=A*si g) (f:si o=B*si g):Sr.Cs A B:=by
 obtain ⟨d,i,U,W,h⟩:=R.qi
 have e:Sr.num (d:Rat)*si g=si U*si r+si W*si o:=by
  rw [En U,En W,Sr.L_mul,Sr.L_mul];refine Sr.ext' λk=>?_;rw [Sr.num_mul];show (d:Rat)*((co g k:Int):Rat)=cvL _ (λk=>((co r k:Int):Rat)) k+cvL _ (λk=>((co o k:Int):Rat)) k;rw [<-Iq,<-Iq];exact_mod_cast h k
 have j:Sr.num (d:Rat)=si U*A+si W*B:=Sr.cancel (Sr.Pol.num _) (((CV U).mul a).add ((CV W).mul b)) (CV g) (ER R.lz) (by rw [e,c,f];ext);exact Sr.Cs.of_unit (Au i) rfl (CV U) (CV W) j.symm
def DvI (a g:cO):Prop:=∃ A:cO,∀ k,co a k=cvL A (co g) k
theorem DvI.len {a g:cO} (h:DvI a g) (b:Lz a) (l2:Lz g):g.length<=a.length:=Fs l2 b (by
 obtain ⟨A,c⟩:=h;exact ⟨1,∅,A,λk=>by rw [Int.one_mul];exact c k⟩)
theorem MM {a:cO} (h:Lz a):sr (G_ a)=Sr.num ((co a (a.length - 1):Rat))⁻¹*si a:=Sr.ext' λk=>by
 rw [Sr.num_mul];exact D3 h k
theorem Eo {l:cI} (h:AV l):sr l=Sr.num ((AZ l:Rat))⁻¹*si (AR l):=Sr.ext' λk=>by
 rw [Sr.num_mul];exact EQ h k
theorem W_ {x y:Rat} (a:x≠0) (b:y≠0):x*y≠0:=λz=>by
 rcases Rat.mul_eq_zero.mp z with z | z
 ·exact a z
 ·exact b z
theorem uA (l:cI):Sr.Bn (sr l) l.length:=λk hk=>Bt hk
structure Mon (b:Nat) (R:cI):Prop where
 gq:Gq b b R
 ne:R≠[]
 one:Aa R (R.length - 1)=(1,1)
theorem Mon.top {b:Nat} {R:cI} (h:Mon b R):(sr R).c (R.length - 1)=1/\Sr.Bn (sr R) (R.length - 1+1):=by
 have:=Bk.mpr h.ne;exact ⟨Gk h.one,by rw [Nat.sub_add_cancel this];exact uA R⟩
theorem uB {R:cI} {Y:Sr} {n:Nat} (f:AV R) (g:Nz R) (e:sr R=Y) (i:Y.c n≠0) (j:Sr.Bn Y (n+1)):R≠[]/\R.length=n+1/\B_ R (R.length - 1)=Y.c n:=by
 have a:B_ R n=Y.c n:=pI (congrArg Sr.c e) n
 have b:n<R.length:=by
  rcases A8 n R.length with h | h
  ·exact h
  ·exact absurd (a.symm.trans (Bt h)) i
 have c:R≠[]:=λz=>by rw [z] at b;simp at b
 have d:R.length=n+1:=by
  rcases A8 (n+1) R.length with h | h
  ·have z:=DN f g c;exact absurd ((pI (congrArg Sr.c e) (R.length - 1)).trans (j _ ⋯)) z
  ·omega
 exact ⟨c,d,by rw [d];exact a⟩
theorem uC:∀ (n:Nat) (D:cO),Lz D->(co D (D.length - 1)).natAbs<=n->∃ (g:Int) (P:cO),g≠0/\D=P.map (g*·)/\Prim P/\Lz P/\P.length=D.length:=by
 intro n
 induction n with
 | zero=>intro D l h;exact absurd (Int.natAbs_eq_zero.mp ⋯) l.2
 | succ n o=>
   intro D l h;by_cases d:Prim D
   ·exact ⟨1,D,∅,by simp,d,l,rfl⟩
   ·obtain ⟨c,f⟩:=Classical.not_forall.mp d;have a:∀ k,c∣co D k:=Classical.byContradiction λz=>f λy=>absurd y z;have p:c.natAbs≠1:=λz=>f λ_=>z;have j:c≠0:=λz=>l.2 (by have:=a (D.length - 1);rw [z] at this;exact Int.zero_dvd.mp this)
    have e:D=(D.map (·/ c)).map (c*·):=by
     rw [BX];refine (List.map_id D).symm.trans (Cf λz q=>?_);obtain ⟨i,r,rfl⟩:=F8 q;have:=a i;unfold co at this;rw [AT,Aj r] at this;exact (F9 this).symm
    have b:(D.map (·/ c)).length=D.length:=AG ..
    have m:∀ k,co D k=c*co (D.map (·/ c)) k:=λk=>by
     have:=pI (congrArg Sr.c (Go (g:=c) (D.map (·/ c)))) k;rw [<-e,Sr.num_mul] at this;have this:((co D k:Int):Rat)=(c:Rat)*((co (D.map (·/ c)) k:Int):Rat):=this;exact_mod_cast this
    have l2:Lz (D.map (·/ c)):=⟨by rw [b];exact l.1,λz=>l.2 (by rw [b] at z;rw [m,z,Int.mul_zero])⟩
    have sm:(co (D.map (·/ c)) ((D.map (·/ c)).length - 1)).natAbs<=n:=by
     have u:=m (D.length - 1);rw [b];rw [u,CF] at h;have C:(co (D.map (·/ c)) (D.length - 1)).natAbs≠0:=λz=>l2.2 (by rw [b];exact Int.natAbs_eq_zero.mp z);have v:2<=c.natAbs:=by have:=Int.natAbs_pos.mpr j;omega
     have:=CY (co (D.map (·/ c)) (D.length - 1)).natAbs v;omega
    obtain ⟨g,P,w,x,A,B,ll⟩:=o _ l2 sm;refine ⟨c*g,P,By j w,?_,A,B,⋯⟩;rw [e,x,BX];refine Cf λz _=>?_;show c*(g*z)=c*g*z;ext
theorem Sf:∀ a:List Rat,∃ c:Int,c≠0/\∃ A:cO,∀ k,(c:Rat)*a.getD k 0=((A.getD k 0:Int):Rat)
 | []=>⟨1,∅,[],λk=>by simp⟩
 | x::a=>by
   obtain ⟨c,d,A,h⟩:=Sf a;have b:((x.den:Int))≠0:=by have:=x.den_pos;omega
   have f:(x.den:Rat)*x=(x.num:Rat):=by
    have g:(x.num:Rat) / ((x.den:Int):Rat)=x:=(Rat.divInt_eq_div x.num (x.den:Int)).symm.trans (Rat.num_divInt_den x);have i:=Au b;have j:((x.den:Int):Rat)=(x.den:Rat):=rfl;rw [j] at g i;ext
   refine ⟨c*x.den,By d b,(c*x.num)::A.map (λz=>(x.den:Int)*z),λk=>?_⟩;cases k with
   | zero=>
     show ((c*x.den:Int):Rat)*x=((c*x.num:Int):Rat);push_cast;rw [Rat.mul_assoc,f]
   | succ k=>
     show ((c*x.den:Int):Rat)*a.getD k 0=(((A.map λz=>(x.den:Int)*z).getD k 0:Int):Rat)
     have e:(A.map λz=>(x.den:Int)*z).getD k 0=(x.den:Int)*A.getD k 0:=by
      rw [AT,AT,Ac];cases A[k]? <;> simp
     rw [e];have:=h k;push_cast at this ⊢;ext
theorem KT {f g:cO} {Y:Sr} (d:Sr.Pol Y) (e:si f=Y*si g):MQ (co g) (co f):=by
 obtain ⟨a,rfl⟩:=d;obtain ⟨c,i,A,h⟩:=Sf a;refine ⟨c,i,A,λk=>?_⟩
 have m:si A=Sr.num (c:Rat)*Sr.L a:=Sr.ext' λj=>by
  rw [Sr.num_mul];show ((A.getD j 0:Int):Rat)=(c:Rat)*cvL a Ak j;rw [DT];exact (h j).symm
 have b:Sr.num (c:Rat)*si f=si A*si g:=by rw [e,m];ext
 rw [En A,Sr.L_mul] at b;have:=pI (congrArg Sr.c b) k;rw [Sr.num_mul] at this;have this:(c:Rat)*((co f k:Int):Rat)=cvL (A.map λz:Int=>(z:Rat)) (λk=>((co g k:Int):Rat)) k:=this;rw [<-Iq] at this;exact_mod_cast this
theorem Sg {l:cI} (a:AV l) (b:Nz l) (c:l≠[]):∃ (x:Rat) (P:cO),x≠0/\sr l=Sr.num x*si P/\Prim P/\Lz P/\P.length=l.length:=by
 have d:Lz (AR l):=DM (EO a b) (λz=>c (CI.mp (by rw [<-Bp,z];rfl)));obtain ⟨g,P,f,e,h,i,j⟩:=uC _ _ d (AO _);refine ⟨((AZ l:Rat))⁻¹*(g:Rat),P,W_ (vY (Au (AW (B9 a).1))) (Au f),?_,h,i,by rw [j,Bp]⟩;rw [Eo a,e,Go,<-Sr.num_num];ext
theorem Si {P:cO} {d:Nat} (b:Lz P) (e:∀ k,Bd d (co P k)):Mon d (G_ P):=by
 have a:=b.2;refine ⟨Fv (Ft b) (Gi b) (M:=((co P (P.length - 1)).natAbs:Int)) ⋯ ?_ (N:=λk=>if 0<co P (P.length - 1) then co P k else - co P k) (λk=>?_) (λk=>?_),?_,?_⟩
 ·show ((co P (P.length - 1)).natAbs:Int).natAbs<2 ^ d;rw [Cp];exact e _
 ·rw [KN b];by_cases c:0<co P (P.length - 1)
  ·rw [qU c,Int.natAbs_of_nonneg ⋯]
  ·rw [qT c,show ((co P (P.length - 1)).natAbs:Int) = - co P (P.length - 1) by omega];have f:=Au a;push_cast;ext
 ·split
  ·exact e k
  ·exact (e k).neg
 ·intro z;have g:(G_ P).length=0:=by rw [z];rfl
  rw [DY] at g;have:=b.1;omega
 ·refine DK (C6 (Ft b) _) ⟨∅,∅⟩ ?_;show B_ (G_ P) _=_;rw [DY,KN b];have f:=Au a;unfold val;show _=((1:Int):Rat) / ((1:Int):Rat);push_cast;ext
theorem uD {c:Nat} {p q:cI} {x:Rat} (d:AV p) (f:Nz p) (m:p≠[]) (g:Aa p (p.length - 1)=(1,1)) (b:Mon c q) (h:x≠0) (e:sr p=Sr.num x*sr q):p=q:=by
 have t:(Sr.num x*sr q).c (q.length - 1)=x:=by rw [Sr.num_mul,b.top.1];ext
 have i:Sr.Bn (Sr.num x*sr q) (q.length - 1+1):=λk hk=>by rw [Sr.num_mul,b.top.2 k hk];ext
 obtain ⟨_,len,a⟩:=uB d f e (by rw [t];exact h) i;have j:x=1:=by rw [<-t,<-a,Gk g]
 rw [j,Sr.num_one] at e;exact Gn d b.gq.low f b.gq.nz (by rw [e];ext)
theorem Sj {R:cO} {Y:Sr} {n:Nat} (l:Lz R) (e:si R=Y) (c:Y.c n≠0) (d:Sr.Bn Y (n+1)):R.length=n+1/\((co R (R.length - 1):Int):Rat)=Y.c n:=by
 have a:((co R n:Int):Rat)=Y.c n:=pI (congrArg Sr.c e) n
 have f:n<R.length:=by
  rcases A8 n R.length with h | h
  ·exact h
  ·rw [Ag h] at a;exact absurd a.symm c
 have b:R.length=n+1:=by
  rcases A8 (n+1) R.length with h | h
  ·have z:((co R (R.length - 1):Int):Rat)=0:=(pI (congrArg Sr.c e) (R.length - 1)).trans (d _ ⋯);exact absurd (by exact_mod_cast z) l.2
  ·omega
 exact ⟨b,by rw [b];exact a⟩
theorem Sk {T B:cI} {N D:cO} {b n e:Nat} (h:Lw T B) (g:Lz D) (tN:Tz N) (R:∀ z∈N,Bd b z) (S:∀ z∈D,Bd b z) (n1:N.length<=n) (n2:D.length<=n) (X:n<2 ^ e) (Z:sr T*si D=si N*sr B) :
  Gq (b+(b+n*(2*e+4))) (b+(b+n*(2*e+4))) T/\Gq (b+n*(2*e+4)) (b+n*(2*e+4)) B/\T.length<=N.length/\B.length<=D.length:=by
 obtain ⟨U,W,pU,pW,h1⟩:=h.cs
 have o:si D=(U*si N+W*si D)*sr B:=by
  have:si D=(U*sr T+W*sr B)*si D:=by rw [h1];ext
  calc si D=(U*sr T+W*sr B)*si D:=this
   _=U*(sr T*si D)+W*sr B*si D:=by ext
   _=_:=by rw [Z];ext
 generalize hY:U*si N+W*si D=Y at o;have p:Sr.Pol Y:=by rw [<-hY];exact (pU.mul (CV N)).add (pW.mul (CV D))
 obtain ⟨x,P,x0,eB,pP,i,pl⟩:=Sg h.lb h.nb h.ne;obtain ⟨A,hA⟩:=T_ pP (KT (p.mul (Sr.Pol.num x)) (show si D=Y*Sr.num x*si P by rw [o,eB];ext));have gl:P.length<=D.length:=DvI.len ⟨A,hA⟩ g i;have bP:∀ k,Bd (b+n*(2*e+4)) (co P k):=Ik S ⟨_,g.2⟩ n2 ⋯ X hA
 have hB:B=G_ P:=by
  have mB:Mon (b+n*(2*e+4)) (G_ P):=Si i bP;have x1:x*(co P (P.length - 1):Rat)≠0:=W_ x0 (Au i.2);refine uD h.lb h.nb h.ne h.one mB x1 ?_;rw [eB,MM i,<-Sr.num_num]
  have iP:Sr.num (co P (P.length - 1):Rat)*Sr.num ((co P (P.length - 1):Rat))⁻¹=1:=by
   have:=Sr.num_inv (Au i.2);ext
  ext
 have C:Gq (b+n*(2*e+4)) (b+n*(2*e+4)) B:=by rw [hB];exact (Si i bP).gq
 have lB:B.length<=D.length:=by rw [hB,DY];exact gl
 have B0:=DO h.lb h.nb h.ne
 have F:si N=Y*sr T:=by
  refine Sr.cancel (CV N) (p.mul (Af T)) (Af B) B0 ?_;rw [<-Z,show sr T*si D=sr T*(Y*sr B) from congrArg _ o];ext
 by_cases G:T=[]
 ·subst G;refine ⟨⟨h.lt,h.nt,1,⟨∅,(λ_ h=>nomatch h)⟩,bdc (by show 1<2 ^ _;exact Nat.one_lt_two_pow (by have:=g.1;have:0<n*(2*e+4):=Nat.mul_pos ⋯ ⋯;omega)),(λ_ h=>nomatch h)⟩,C,Ae _,lB⟩
 have D0:=ER g;have Y0:Y≠0:=λz=>D0 (by rw [o,z];ext);have TT:=DO h.lt h.nt G;have N0:si N≠0:=by rw [F];exact Sr.ne_mul p (Af T) Y0 TT
 have Nn:N≠[]:=λz=>N0 (by rw [z,En []];exact Sr.L_nil);have I:Lz N:=DM tN Nn;obtain ⟨y,a,y0,J,pQ,v,ql⟩:=Sg h.lt h.nt G;obtain ⟨A2,u⟩:=T_ pQ (KT (p.mul (Sr.Pol.num y)) (show si N=Y*Sr.num y*si a by rw [F,J];ext));have a0:a.length<=N.length:=DvI.len ⟨A2,u⟩ I v;have bQ:∀ k,Bd (b+n*(2*e+4)) (co a k):=Ik R ⟨_,I.2⟩ n1 ⋯ X u;obtain ⟨m,hm⟩:=p.bn;rcases Sr.top_ex m hm with z | ⟨j,_,j0,jb⟩
 ·exact absurd z Y0
 have MB:Mon (b+n*(2*e+4)) B:=⟨C,h.ne,h.one⟩;have w:=Sr.top_mul jb MB.top.2;rw [MB.top.1] at w;obtain ⟨_,dD⟩:=Sj g o (n:=j+(B.length - 1)) (by rw [w.1];intro z;exact j0 ()) w.2;rw [w.1] at dD;have L:Sr.Bn (si a) (a.length - 1+1):=by rw [Nat.sub_add_cancel v.1];exact vX a
 have d:=Sr.top_mul (f:=Y*Sr.num y) (m:=j) (λk hk=>by rw [show Y*Sr.num y=Sr.num y*Y by ext,Sr.num_mul,jb k hk];ext) L;have cY:(Y*Sr.num y).c j=y*Y.c j:=by rw [show Y*Sr.num y=Sr.num y*Y by ext,Sr.num_mul]
 rw [cY] at d;have O:(si a).c (a.length - 1)=(co a (a.length - 1):Rat):=rfl;rw [O] at d;have q1:=Au v.2;obtain ⟨_,dN⟩:=Sj I (show si N=Y*Sr.num y*si a by rw [F,J];ext) (n:=j+(a.length - 1)) (by rw [d.1];exact W_ (W_ y0 j0) q1) d.2;rw [d.1] at dN;have d1:=Au g.2;have mz:co D (D.length - 1)*co a (a.length - 1)≠0:=By g.2 v.2;have bm:Bd (b+(b+n*(2*e+4))) (co D (D.length - 1)*co a (a.length - 1)):=Bd.mul (Dl S _) (bQ _);have bt:∀ k,Bd (b+(b+n*(2*e+4))) (co N (N.length - 1)*co a k):=λk=>Bd.mul (Dl R _) (bQ k)
 have pT:∀ k,B_ T k=((co N (N.length - 1)*co a k:Int):Rat) / ((co D (D.length - 1)*co a (a.length - 1):Int):Rat):=λk=>by
  have e1:B_ T k=y*((co a k:Int):Rat):=by
   have:=pI (congrArg Sr.c J) k;rw [Sr.num_mul] at this;exact this
  rw [e1];push_cast;rw [dN,dD];generalize ((co a (a.length - 1):Int):Rat)=q at *;generalize ((co a k:Int):Rat)=r at *;ext
 refine ⟨Fv h.lt h.nt (M:=((co D (D.length - 1)*co a (a.length - 1)).natAbs:Int)) ⋯ ?_ (N:=λk=>if 0<co D (D.length - 1)*co a (a.length - 1) then co N (N.length - 1)*co a k else - (co N (N.length - 1)*co a k)) (λk=>?_) (λk=>?_),C,⋯,lB⟩
 ·show ((co D (D.length - 1)*co a (a.length - 1)).natAbs:Int).natAbs<2 ^ _;rw [Cp];exact bm
 ·rw [pT k];generalize co D (D.length - 1)*co a (a.length - 1)=M at *;generalize co N (N.length - 1)*co a k=r at *;by_cases c:0<M
  ·rw [qU c,Int.natAbs_of_nonneg ⋯]
  ·rw [qT c,show (M.natAbs:Int) = - M by omega];have c1:=Au mz;push_cast;ext
 ·split
  ·exact bt k
  ·exact (bt k).neg
theorem Fw {T B:cI} {N D:Sr} (h:Lw T B) (a:Sr.Pol N) (b:Sr.Pol D) (c:sr T*D=N*sr B):∃ Y,Sr.Pol Y/\D=Y*sr B/\N=Y*sr T:=by
 obtain ⟨U,W,d,e,g⟩:=h.cs
 have f:D=(U*N+W*D)*sr B:=by
  have:D=(U*sr T+W*sr B)*D:=by rw [g];ext
  calc D=(U*sr T+W*sr B)*D:=this
   _=U*(sr T*D)+W*sr B*D:=by ext
   _=_:=by rw [c];ext
 refine ⟨U*N+W*D,(d.mul a).add (e.mul b),f,?_⟩;refine Sr.cancel a (((d.mul a).add (e.mul b)).mul (Af T)) (Af B) (DO h.lb h.nb h.ne) ?_;rw [<-c,show sr T*D=sr T*((U*N+W*D)*sr B) from congrArg _ f];ext
theorem MN {l:cI} {N:cO} {Y:Sr} {b n e:Nat} (f:AV l) (c:Lz N) (h:∀ z∈N,Bd b z) (i:N.length<=n) (j:n<2 ^ e) (k:Sr.Pol Y) (m:si N=Y*sr l):Fp (b+n*(2*e+4)) (AR l):=λg o p q=>by
 obtain ⟨r,a,u⟩:=Se q;obtain ⟨A,d⟩:=T_ p (KT ((k.mul (Sr.Pol.num _)).mul a) (show si N=Y*Sr.num ((AZ l:Rat))⁻¹*r*si g by rw [m,Eo f,u];ext));have v:g.length<=N.length:=DvI.len ⟨A,d⟩ c o;exact Ik h ⟨_,c.2⟩ i ⋯ j d
theorem Fp.mono {x y:Nat} {a:cO} (h:Fp x a) (e:x<=y):Fp y a:=λg b c d k=>(h g b c d k).mono e
theorem KU {l:cI} (a:AV l) (b:Nz l) (c:l≠[]):Lz (AR l):=DM (EO a b) λz=>c (CI.mp (by rw [<-Bp,z];rfl))
theorem Ir {b c n e:Nat} {l:cI} (G:Gq b c l) (f:l≠[]) (h:l.length<=n) (i:n<2 ^ e):Fp (b+n*(2*e+4)) (AR l):=λg j k a=>by
 have d:=KU G.low G.nz f;obtain ⟨A,m⟩:=T_ k a;have o:g.length<=l.length:=by have:=Fs j d a;rw [Bp] at this;exact this
 exact Ik G.clr.1 ⟨_,d.2⟩ (by rw [Bp];exact h) ⋯ i m
theorem uE {x:Nat} {l m:cI} {Y:Sr} (c:AV l) (b:AV m) (d:Sr.Pol Y) (e:sr m=Y*sr l) (h:Fp x (AR m)):Fp x (AR l):=λg f j k=>by
 obtain ⟨q,a,n⟩:=Se k;refine h g f j (KT (((Sr.Pol.num (AZ m:Rat)).mul d).mul ((Sr.Pol.num ((AZ l:Rat))⁻¹).mul a)) ?_);have i:=Sr.num_inv (Au (AW (B9 b).1));have o:=Eo b;have p:si (AR m)=Sr.num (AZ m:Rat)*sr m:=by rw [o];ext
 rw [p,e,Eo c,n];ext
theorem Rp.facts {b n m e:Nat} {T B:cI} (h:Rp b n m T B) (o:n<2 ^ e) (p:m<2 ^ e) :
  Gq (b+(b+max n m*(2*e+4))) (b+(b+max n m*(2*e+4))) T/\Gq (b+max n m*(2*e+4)) (b+max n m*(2*e+4)) B/\T.length<=n/\B.length<=m/\(T≠[]->Fp (b+n*(2*e+4)) (AR T))/\Fp (b+m*(2*e+4)) (AR B):=by
 obtain ⟨N,D,a,d,f,g,nN,q,i⟩:=h.rp;obtain ⟨r,u,x,l2⟩:=Sk h.lw a d f g (show N.length<=max n m by omega) (show D.length<=max n m by omega) (show max n m<2 ^ e by omega) i;obtain ⟨Y,c,j,k⟩:=Fw h.lw (CV N) (CV D) i;refine ⟨r,u,⋯,⋯,λv=>?_,MN h.lw.lb a g q p c j⟩;refine MN h.lw.lt (DM d λz=>?_) f nN o c k;have w:Y≠0:=λz=>ER a (by rw [j,z];ext);have:=Sr.ne_mul c (Af T) w (DO h.lw.lt h.lw.nt v);exact this (by rw [<-k,z,En []];exact Sr.L_nil)
theorem C0.dd {x n m e:Nat} (h:C0 x n m e):x*2<=44490/\∀ y,y<=n+m->y*(x+1)<=44490/\y*x<=44490:=by
 have c:=h.lu;have d:=h.n1;have f:=h.m1
 have k:∀ y,y<=n+m->y*(x+1)<=44490/\y*x<=44490:=λy a=>by
  have b:y*(x+1)<=(n+m)*(x+e+2):=Ex a ⋯;have g:y*x<=y*(x+1):=EV _ ⋯;rw [DP (n+m)] at b;omega
 exact ⟨by have:=(k 2 ⋯).2;omega,k⟩
theorem C0.ml {x n m e:Nat} (h:C0 x n m e):max n m<2 ^ e/\max n m*(2*e+4)<=960:=by
 have:=h.ne;have:=h.me;have:=h.n60;have:=h.m60;have:=h.e6;have:max n m*(2*e+4)<=60*16:=Ex ⋯ ⋯;exact ⟨⋯,this⟩
theorem Sl {m:cI} {g:cO} {x:Nat} (e:AV m) (f:Nz m) (h:m≠[]) (F:Fp x (AR m)) (a:Lz g) (c:MQ (co g) (co (AR m))) (P:Prim g) :
  Gq x x (G_ g)/\G_ g≠[]/\(G_ g).length<=m.length/\MR (B_ (G_ g)) (B_ m)/\(∀ k,Bd x (co g k))/\B_ (G_ g) ((G_ g).length - 1)=1:=by
 have d:=KU e f h;have i:g.length<=m.length:=by have:=Fs a d c;rw [Bp] at this;exact this
 have b:=F g a P c;refine ⟨⟨Ft a,Gi a,_,(Gj a.2 (Gh b)).1,(b (g.length - 1)).le ⋯,(Gj a.2 (Gh b)).2⟩,Bk.mp (by rw [DY];exact a.1),by rw [DY];exact i,MR.of (Fu a) (EQ e) (D3 a) c,b,Gk ?_⟩;rw [DY];exact SN a
theorem uF (h:HW K vs H Q E):Qp K { nx:=λ_ H'=>Q .non H',rt:=Q } (L2.start ["P","Q","shared"] vs) H:=by
 obtain ⟨p,q,l,m,b,D,n,I,e,rfl,⟨xs,hp,hN⟩,⟨ys,f,hM⟩,Gl,w,m0,ln,mn,a7,X,Z,b9,k⟩:=h;obtain ⟨D9,zz⟩:=Z.dd;obtain ⟨Y,b5⟩:=Z.ml;have b6:=Z.n60;have ba:=Z.m60;have bb:=Z.n1;have bc:=Z.m1;have bd:=Z.ne;have be:=Z.me;unfold Qp;rwa [hp,f];refine ⟨l,hN,m,hM,b,b,Gl,w,⋯,⋯,⋯,⋯,D,λl0 _=>⟨a7 l0,X⟩,e,by rw [Cn];omega,n+I,⋯,⋯,Z.lu,λ_ z=>absurd z m0,λ_ g R P r zs H1 s1 hr hz=>?_⟩;have j:=R.lz;have a8:Lz (AR m):=DM (EO w.low w.nz) λz=>m0 (CI.mp (by rw [<-Bp,z];rfl));have gl:g.length<=m.length:=by have:=Fs j a8 R.right;rwa [Bp] at this
 have bg:=X g j P R.right;have Gg:Gq D D (G_ g):=⟨Ft j,Gi j,_,(Gj j.2 (Gh bg)).1,(bg (g.length - 1)).le ⋯,(Gj j.2 (Gh bg)).2⟩;have g0:G_ g≠[]:=Bk.mp (by rw [DY];exact j.1);have M1:MR (B_ (G_ g)) (B_ l):=MR.of (Fu j) (EQ Gl.low) (D3 j) R.left;have M2:MR (B_ (G_ g)) (B_ m):=MR.of (Fu j) (EQ w.low) (D3 j) R.right;have ab:=s1 _ _ hp;rwa [hr,ab];have bf:0<(G_ g).length:=Bk.mpr g0;have e1:=(zz (l.length+1 - (G_ g).length) ⋯).1;have e2:=(zz (l.length+1 - (G_ g).length) ⋯).2;refine ⟨l,hN.tp (C' s1),G_ g,hz,b,b,Gl,D,D,Gg,g0,⋯,by rw [DY];omega,⋯,⋯,⋯,⋯,M1,λr0 o H2 s2 ⟨ac,h0,n0⟩ x ae J L=>?_⟩;obtain ⟨A0,aj,al⟩:=ML Gl.low x Gl.clr.1 (show l.length<=max n I by omega) Y j P R.left L;have G0:Gq (D+(b+max n I*(2*e+4))) b o:=Fv x ae (B9 Gl.low).1 Gl.clr.2.1 (N:=λk=>co g (g.length - 1)*co A0 k) (λk=>by rw [al,Rat.div_def];push_cast;rfl) λk=>Bd.mul (bg _) (aj k)
 have C:∀ q∈o,Bd (D+(b+max n I*(2*e+4))) q.1/\Bd b q.2:=λq f=>⟨G0.clr.2.2 q f,by
  obtain ⟨M,O,bM,_⟩:=G0.ov;exact Dh (AW O.1) (O.2 q f) bM⟩
 have S:=s1.trans s2;have am:=S _ _ f;have an:=s2 _ _ hr;rwa [am,an];have e1:=(zz (m.length+1 - (G_ g).length) ⋯).1;have e2:=(zz (m.length+1 - (G_ g).length) ⋯).2;refine ⟨m,hM.tp (C' S),G_ g,hz.tp (C' s2),b,b,w,D,D,Gg,g0,⋯,by rw [DY];omega,⋯,⋯,⋯,⋯,M2,λr1 d H3 s3 ⟨ao,h1,n1⟩ y a0 ar A=>?_⟩;obtain ⟨A1,b0,b1⟩:=ML w.low y w.clr.1 (show m.length<=max n I by omega) Y j P R.right A
 have a1:d≠[]:=λz=>by
  have:=A (m.length - 1);rw [z] at this;exact DN w.low w.nz m0 this
 have G1:Gq (D+(b+max n I*(2*e+4))) b d:=Fv y a0 (B9 w.low).1 w.clr.2.1 (N:=λk=>co g (g.length - 1)*co A1 k) (λk=>by rw [b1,Rat.div_def];push_cast;rfl) λk=>Bd.mul (bg _) (b0 k);have p1:0<d.length:=Bk.mpr a1
 have a2:∀ q∈d,Bd (D+(b+max n I*(2*e+4))) q.1/\Bd b q.2:=λq f=>⟨G1.clr.2.2 q f,by
  obtain ⟨M,O,bM,_⟩:=G1.ov;exact Dh (AW O.1) (O.2 q f) bM⟩
 have l0:=J;refine ⟨o,⟨ac,s3 _ _ h0,n0.tp (C' s3)⟩,d,⟨ao,h1,n1⟩,x,y,a0,a1,λq f=>⟨(C q f).1.mono ⋯,(C q f).2.mono ⋯⟩,λq f=>⟨(a2 q f).1.mono ⋯,(a2 q f).2.mono ⋯⟩,⋯,⋯,λc fl fv t u v H4 s4 ht ⟨us,hu,nu⟩ ⟨vs,hv,nv⟩=>?_⟩;generalize b2:Aa d (d.length - 1)=la at fv;have F:=Sa (a:=c.1) x fl.pos;have G:=Sa (a:=c.1) y fl.pos;have eT:∀ k,B_ (trim (o.map λq=>F_ q (c.1,c.2))) k=val c*B_ o k:=λk=>(Fh F k).trans (SZ x fl.pos k);have eB:∀ k,B_ (trim (d.map λq=>F_ q (c.1,c.2))) k=val c*B_ d k:=λk=>(Fh G k).trans (SZ y fl.pos k);have a3:(trim (o.map λq=>F_ q (c.1,c.2))).length<=o.length:=BT (FE _) (by rw [AG];exact AO _);have a4:(trim (d.map λq=>F_ q (c.1,c.2))).length<=d.length:=BT (FE _) (by rw [AG];exact AO _);have lT:AV (trim (o.map λq=>F_ q (c.1,c.2))):=λq f=>F q (DJ f);have lB:AV (trim (d.map λq=>F_ q (c.1,c.2))):=λq f=>G q (DJ f);have nT:=FC (o.map λq=>F_ q (c.1,c.2));have nB:=FC (d.map λq=>F_ q (c.1,c.2));generalize trim (o.map λq=>F_ q (c.1,c.2))=T at nu eT a3 lT nT;generalize trim (d.map λq=>F_ q (c.1,c.2))=B at nv eB a4 lB nB;have s0:val c≠0:=λz=>by rw [z] at fv;ext
 have b3:B_ d (d.length - 1)=val la:=by unfold B_;rw [b2]
 have tB:B_ B (d.length - 1)=1:=by rw [eB,b3];exact fv
 have a5:B.length=d.length:=by
  rcases A8 (d.length - 1) B.length with z | z
  ·omega
  ·rw [Bt z] at tB;exact absurd tB ∅
 obtain ⟨U,W,eU⟩:=SY Gl.low w.low R;have a6:B_ (G_ g) ((G_ g).length - 1)≠0:=DN (Ft j) (Gi j) g0;have c0:∀ k,B_ l k=cvL (rw' o) (B_ (G_ g)) k:=λk=>(L k).trans (Hh _ _ _);have c1:∀ k,B_ m k=cvL (rw' d) (B_ (G_ g)) k:=λk=>(A k).trans (Hh _ _ _);have b4:=(S.trans s3).trans s4;refine k t H4 T B b4 ⟨u,v,ht,⟨us,hu,nu⟩,⟨vs,hv,nv⟩⟩ ⟨lT,lB,nT,nB,Bk.mp ⋯,?_,sr_cop.mp ?_⟩ ?_
 ·refine DK (C6 lB _) Hi ?_;have:val ((1:Int),(1:Int))=1:=by unfold val;show ((1:Int):Rat) / ((1:Int):Rat)=1;rw [show ((1:Int):Rat)=1 from rfl];ext
  rw [this,a5];exact tB
 ·exact (SX (t:=rw' o) (b:=rw' d) (Hg o) (Hg d) a6 (λi hi=>Bt ⋯) c0 c1 eU).scal s0 eT eB
 ·have e1:sr T=Sr.num (val c)*sr o:=Sr.ext' λk=>by rw [Sr.num_mul];exact eT k
  have e2:sr B=Sr.num (val c)*sr d:=Sr.ext' λk=>by rw [Sr.num_mul];exact eB k
  rw [e1,e2,Cl L,Cl A];ext
structure Al (b n m e:Nat) (T B:cI):Prop where
 lw:Lw T B
 gt:Gq (2*b+960) (2*b+960) T
 gb:Gq (2*b+960) (2*b+960) B
 tn:T.length<=n
 bm:B.length<=m
 ft:T≠[]->Fp (b+n*(2*e+4)) (AR T)
 fb:Fp (b+m*(2*e+4)) (AR B)
theorem Rp.all {b n m e:Nat} {T B:cI} (h:Rp b n m T B) (a:n<2 ^ e) (c:m<2 ^ e) (d:n<=60) (f:m<=60) (p:e<=6):Al b n m e T B:=by
 obtain ⟨g,i,j,l2,k,o⟩:=h.facts a c;have:max n m*(2*e+4)<=60*16:=Ex ⋯ ⋯;exact ⟨h.lw,g.mono ⋯ ⋯,i.mono ⋯ ⋯,j,l2,k,o⟩
theorem MO (b n m e:Nat):b+n*(2*e+4)<=b+max n m*(2*e+4):=Nat.add_le_add_left (CY _ ⋯) _
theorem MP (b n m e:Nat):b+m*(2*e+4)<=b+max n m*(2*e+4):=Nat.add_le_add_left (CY _ ⋯) _
theorem Sm {T B:cI} {b n e:Nat} {l m:cI} (h:Lw T B) (Gl:Gq b b l) (a:Gq b b m) (j:m≠[]) (k:l.length<=n) (o:m.length<=n) (p:n<2 ^ e) (G:sr T*sr m=sr l*sr B) :
  Gq (2*b+(2*b+n*(2*e+4))) (2*b+(2*b+n*(2*e+4))) T/\Gq (2*b+(2*b+n*(2*e+4))) (2*b+(2*b+n*(2*e+4))) B/\T.length<=l.length/\B.length<=m.length:=by
 have f:=Gl.clr;have g:=a.clr;have q:=Au (AW (B9 Gl.low).1);have r:=Au (AW (B9 a.low).1)
 have u:∀ z∈(AR l).map (AZ m*·),Bd (2*b) z:=λz c=>by
  obtain ⟨y,d,rfl⟩:=AU.mp c;exact ((g.2.1).mul (f.1 y d)).mono ⋯
 have v:∀ z∈(AR m).map (AZ l*·),Bd (2*b) z:=λz c=>by
  obtain ⟨y,d,rfl⟩:=AU.mp c;exact ((f.2.1).mul (g.1 y d)).mono ⋯
 have i:=KU a.low a.nz j;have w:=(B9 Gl.low).1;have x:=(B9 a.low).1;have A:Lz ((AR m).map (AZ l*·)):=⟨by rw [AG];exact i.1,by rw [AG,FM];exact By (AW w) i.2⟩
 have C:Tz ((AR l).map (AZ m*·)):=by
  rcases EO Gl.low Gl.nz with h | h
  ·left;rw [h];rfl
  ·right;rw [AG,FM];exact By (AW x) h
 have I:=Sr.num_inv q;have J:=Sr.num_inv r;have D:si (AR l)=Sr.num (AZ l:Rat)*sr l:=by rw [Eo Gl.low];ext
 have F:si (AR m)=Sr.num (AZ m:Rat)*sr m:=by rw [Eo a.low];ext
 have:=Sk h A C u v (by rw [AG,Bp];exact k) (by rw [AG,Bp];exact o) p (by rw [Go,Go,D,F];ext);rw [AG,AG,Bp,Bp] at this;exact ⟨this.1,this.2.1.mono ⋯ ⋯,this.2.2.1,this.2.2.2⟩
theorem uG {P A C:cI} (a:AV P) (b:Nz P) (c:AV A) (d:Nz A) (e:A≠[]) (f:Aa A (A.length - 1)=(1,1)) (g:AV C) (i:Nz C) (C0:C≠[]) (j:Aa C (C.length - 1)=(1,1)) (h:∀ k,B_ P k=cv (B_ A) (B_ C) A.length k):P≠[]/\Aa P (P.length - 1)=(1,1):=by
 obtain ⟨_,l2,m⟩:=KQ a b c d e g i C0 h;rw [Gk f,Gk j] at l2;exact ⟨m,Sc a (by rw [l2];ext)⟩
theorem uH {a b c d:Sr} (f:Sr.Pol a) (g:Sr.Pol b) (e:Sr.Pol c) (h:Sr.Pol d) (i:Sr.Cs a c) (j:Sr.Cs a d) (k:Sr.Cs b c) (m:Sr.Cs b d):Sr.Cs (a*b) (c*d):=by
 have n:=(i.mul f e j).comm;have o:=(k.mul g e m).comm;exact (n.mul (e.mul h) f o).comm
theorem uI (h:Ig K vs H Q E):Qv K { nx:=λ_ H'=>Q .non H',rt:=Q } (L2.start ["F","G","one","other"] vs) H:=by
 obtain ⟨p,q,T,B,T',C,b,n,m,e,rfl,⟨u,v,hp,Pu,Pv⟩,⟨u',v',hq,L,M⟩,D,R2,Z,b9,k⟩:=h;have c:=D.all Z.ne Z.me Z.n60 Z.m60 Z.e6;have d:=R2.all Z.ne Z.me Z.n60 Z.m60 Z.e6;have ar:=Z.n60;have b0:=Z.m60;obtain ⟨o,b1⟩:=Z.ml;unfold Qv;rwa [hp,hq];refine ⟨T,Pu,C,M,_,c.gt,d.gb,R2.lw.ne,b+max n m*(2*e+4),n,c.tn,m,d.bm,λh=>(c.ft h).mono (MO ..),d.fb.mono (MP ..),e,Z,⋯,λt1 H1 F Q1 s1 ⟨a1,d1,h1,N,O⟩ f g=>?_⟩;have P:=s1 _ _ hp;have R:=s1 _ _ hq;unfold Qu;rwa [P,R];refine ⟨T',L.same s1,B,Pv.same s1,_,d.gt,c.gb,D.lw.ne,b+max n m*(2*e+4),n,d.tn,m,c.bm,λh=>(d.ft h).mono (MO ..),c.fb.mono (MP ..),e,Z,⋯,λt2 H2 G Q2 I ⟨a2,d2,h2,S,U⟩ a i=>?_⟩;obtain ⟨g1,W,l1,b2⟩:=Sm f c.gt d.gb R2.lw.ne (show _<=max n m by have:=c.tn;omega) (show _<=max n m by have:=d.bm;omega) o g;obtain ⟨g2,a0,l2,b3⟩:=Sm a d.gt c.gb D.lw.ne (show _<=max n m by have:=d.tn;omega) (show _<=max n m by have:=c.bm;omega) o i;have:=c.tn;have:=c.bm;have:=d.tn;have:=d.bm;have r:=I _ _ h1;obtain ⟨b4,a3,a4⟩:=N.same I;obtain ⟨b5,a5,a6⟩:=O.same I;obtain ⟨b6,a7,a8⟩:=S;obtain ⟨ba,ab,ac⟩:=U;unfold Qt;rwa [r,h2,a3,a7];refine ⟨F,a4,G,a8,_,_,g1,_,_,g2,⋯,⋯,⋯,⋯,⋯,⋯,λr3 X H3 j PX GX lX eX=>?_⟩;have ae:=j _ _ r;have aj:=j _ _ h2;have x:=j _ _ a5;have y:=j _ _ ab;rwa [ae,aj,x,y];refine ⟨Q1,a6.tp (C' j),Q2,ac.tp (C' j),_,_,W,_,_,a0,⋯,⋯,⋯,⋯,⋯,⋯,λr4 Y H4 s4 PY J lY eY=>⟨sz ∅,λw hw=>?_⟩⟩;have s5:=AL hw (.tup [.ref r3,.ref r4]);obtain ⟨Y0,oY⟩:=uG J.low J.nz f.lb f.nb f.ne f.one a.lb a.nb a.ne a.one eY;have o1:=Cl eX;have o2:=Cl eY;obtain ⟨f1,z,al,am⟩:=Fw f (Af T) (Af C) g;obtain ⟨f2,A,an,ao⟩:=Fw a (Af T') (Af B) i;have c1:Sr.Cs (sr F) (sr Q2):=((D.lw.cs.comm.dvd z am).comm).dvd A an;have c2:Sr.Cs (sr G) (sr Q1):=((R2.lw.cs.comm.dvd A ao).comm).dvd z al;refine k w _ X Y (((s1.trans I).trans j).trans (s4.trans s5)) ⟨r3,r4,upd_same,(PX.same s4).same s5,PY.same s5⟩ ⟨GX.low,J.low,GX.nz,J.nz,Y0,oY,?_⟩ ?_
 ·rw [o1,o2];exact uH (Af _) (Af _) (Af _) (Af _) f.cs c1 c2 a.cs
 ·rw [o1,o2];have:sr F*sr G*(sr B*sr C)=(sr F*sr C)*(sr G*sr B):=by ext
  rw [this,g,i];ext
theorem Ss {F:d7} {w x:Nat} (a:∀ k,w<=k->F k=0) (f:∀ k,Bd x (F k)):∃ Z:cO,Tz Z/\(∀ k,co Z k=F k)/\(∀ z∈Z,Bd x z)/\Z.length<=w:=by
 have b:∀ k,co ((List.range w).map F) k=F k:=λk=>by
  unfold co;rw [AT,Ac];rcases A8 k w with c | c
  ·rw [EB c];rfl
  ·rw [Bx (by rw [Bj];exact c)];exact (a k c).symm
 rcases Dz ((List.range w).map F) with z | ⟨g,j,d,e⟩
 ·exact ⟨[],.inl rfl,λk=>by rw [<-b,z];exact Ag (Ae _),(λ_ h=>nomatch h),Ae _⟩
 ·refine ⟨g,.inr j.2,λk=>(e k).trans (b k),λz a=>?_,by rw [AG,Bj] at d;exact d⟩;obtain ⟨i,m,rfl⟩:=F8 a;have:co g i=g[i]:=by unfold co;rw [AT,Aj m];rfl
  rw [<-this,e,b];exact f i
theorem MS {N D:cO} {b d n e:Nat} (a:∀ z∈N,Bd b z) (c:∀ z∈D,Bd d z) (i:N.length<=n) (j:n<2 ^ e) (k:Nat):Bd (b+d+e) (cvL N (co D) k):=by
 have h:=KK (h:=2 ^ d) (q:=2 ^ b) (λk=>Dn (Dl c k)) N (λz f=>Dn (a z f)) k;have g:0<2 ^ b*2 ^ d:=Nat.mul_pos (Nat.pow_pos ∅) (Nat.pow_pos ∅);have m:N.length*(2 ^ b*2 ^ d)<2 ^ e*(2 ^ b*2 ^ d):=Nat.mul_lt_mul_of_pos_right ⋯ g;unfold Bd;rw [Nat.pow_add,Nat.pow_add,DP (2 ^ b*2 ^ d)];omega
theorem MT {N D:cO} {n m k:Nat} (b:N.length<=n) (dl:D.length<=m) (h:n+m<=k+1):cvL N (co D) k=0:=EL (n:=D.length) (λi a=>Ag a) N k ⋯
theorem MU {N D:cO} {b d n m e:Nat} (c:∀ z∈N,Bd b z) (f:∀ z∈D,Bd d z) (a:N.length<=n) (dl:D.length<=m) (g:n<2 ^ e):∃ Z:cO,Tz Z/\si Z=si N*si D/\(∀ z∈Z,Bd (b+d+e) z)/\Z.length<=n+m - 1:=by
 obtain ⟨Z,t,h,i,l⟩:=Ss (F:=cvL N (co D)) (w:=n+m - 1) (x:=b+d+e) (λk hk=>MT a dl ⋯) (MS c f a g);exact ⟨Z,t,KS h,i,l⟩
theorem Su {N D a c:cO} {b b' n m d j e w:Nat} {s:Int} (u:s=1\/s = -1) (v:∀ z∈N,Bd b z) (y:∀ z∈D,Bd b z) (f:∀ z∈a,Bd b' z) (g:∀ z∈c,Bd b' z) (o:N.length<=n) (A:D.length<=m) (p:a.length<=d) (B:c.length<=j) (C:n<2 ^ e) (i:d<2 ^ e) (L:n+j<=w+1) (M:d+m<=w+1) :
  ∃ Z:cO,Tz Z/\si Z=si N*si c+Sr.num (s:Rat)*si a*si D/\(∀ z∈Z,Bd (b+b'+e+1) z)/\Z.length<=w:=by
 obtain ⟨Z,t,h,G,l⟩:=Ss (F:=λk=>cvL N (co c) k+s*cvL a (co D) k) (w:=w) (x:=b+b'+e+1) (λk hk=>by rw [MT o B ⋯,MT p A ⋯];omega) (λk=>by
  have q:=MS v g o C k;have r:=(MS f y p i k).mono (show b'+b+e<=b+b'+e by omega);rcases u with z | z
  ·rw [z,Int.one_mul];exact q.add r
  ·rw [z,show cvL N (co c) k + -1*cvL a (co D) k=cvL N (co c) k - cvL a (co D) k by omega];exact q.sub r)
 refine ⟨Z,t,Sr.ext' λk=>?_,G,l⟩;have I:(si N*si c).c k=((cvL N (co c) k:Int):Rat):=by rw [<-KS (IN N c)];show ((co (BV N c) k:Int):Rat)=_;rw [IN]
 have J:(Sr.num (s:Rat)*si a*si D).c k=(s:Rat)*((cvL a (co D) k:Int):Rat):=by
  rw [show Sr.num (s:Rat)*si a*si D=Sr.num (s:Rat)*(si a*si D) by ext,Sr.num_mul,<-KS (IN a D)];show (s:Rat)*((co (BV a D) k:Int):Rat)=_;rw [IN]
 show ((co Z k:Int):Rat)=(si N*si c).c k+(Sr.num (s:Rat)*si a*si D).c k;rw [I,J,h k];push_cast;rfl
theorem Sv {l m:cI} {g:cO} {A B:Sr} (a:AV l) (b:AV m) (R:RC (co (AR l)) (co (AR m)) g) (c:Sr.Pol A) (d:Sr.Pol B) (e:sr l=A*sr (G_ g)) (f:sr m=B*sr (G_ g)):Sr.Cs A B:=by
 have n:=Sr.num_inv (Au (AW (B9 a).1));have o:=Sr.num_inv (Au (AW (B9 b).1));have h:si (AR l)=Sr.num (AZ l:Rat)*sr l:=by rw [Eo a];ext
 have i:si (AR m)=Sr.num (AZ m:Rat)*sr m:=by rw [Eo b];ext
 have j:si (AR l)=(Sr.num (AZ l:Rat)*Sr.num ((co g (g.length - 1):Rat))⁻¹*A)*si g:=by rw [h,e,MM R.lz];ext
 have k:si (AR m)=(Sr.num (AZ m:Rat)*Sr.num ((co g (g.length - 1):Rat))⁻¹*B)*si g:=by rw [i,f,MM R.lz];ext
 have:=vZ R (((Sr.Pol.num _).mul (Sr.Pol.num _)).mul c) (((Sr.Pol.num _).mul (Sr.Pol.num _)).mul d) j k;exact ((this.dvd ((Sr.Pol.num _).mul (Sr.Pol.num _)) rfl).comm.dvd ((Sr.Pol.num _).mul (Sr.Pol.num _)) rfl).comm
theorem uJ {T B T' B' G a R b S X f:Sr} {s:Rat} (r:s≠0) (j:Sr.Pol T) (c:Sr.Pol T') (g:Sr.Pol a) (k:Sr.Pol R) (m:Sr.Pol G) (n:Sr.Pol S) (o:Sr.Pol X) (u:Sr.Pol f) (v:B=a*G) (h:B'=R*G) (d:Sr.Cs a R) (w:Sr.Cs T B) (x:Sr.Cs T' B') (p:b=T*R+Sr.num s*(T'*a)) (q:b=X*S) (P:G=f*S) (y:Sr.Cs X f):Sr.Cs X (a*R*f):=by
 have z:Sr.Cs T a:=w.dvd m (by rw [v];ext);have A:Sr.Cs T' R:=x.dvd m (by rw [h];ext);have C:Sr.Cs (T*R) a:=(z.comm.mul g j d).comm;have D:Sr.Cs b a:=C.add ((Sr.Pol.num s).mul c) (by rw [p];ext);have F:Sr.Cs (T'*a) R:=(A.comm.mul k c d.comm).comm
 have I:Sr.Cs (Sr.num s*(T'*a)) R:=by
  obtain ⟨U,W,J,L,e⟩:=F;have i:=Sr.num_inv r;exact ⟨U*Sr.num s⁻¹,W,J.mul (Sr.Pol.num _),L,()⟩
 have M:Sr.Cs b R:=I.add j (by rw [p];ext);have N:Sr.Cs X a:=(D.comm.dvd n (show b=S*X by rw [q];ext)).comm;have O:Sr.Cs X R:=(M.comm.dvd n (show b=S*X by rw [q];ext)).comm;exact (N.mul o g O).mul o (g.mul k) y
theorem MV {l m:cI} {Y:Sr} (a:Sr.Pol Y) (h:sr m=Y*sr l):MR (B_ l) (B_ m):=by
 obtain ⟨A,rfl⟩:=a;refine ⟨A,λk=>?_⟩;have:=pI (congrArg Sr.c h) k;rw [Sr.L_mul] at this;exact this
theorem uK {l m:cI} (h:MR (B_ l) (B_ m)):∃ Y,Sr.Pol Y/\sr m=Y*sr l:=by
 obtain ⟨A,a⟩:=h;refine ⟨Sr.L A,Sr.Pol.L A,?_⟩;rw [Sr.L_mul];exact Sr.ext' a
theorem uL (h:Ie K vs H Q E):zC K { nx:=λ_ H'=>Q .non H',rt:=Q } (L2.start ["F","G","shared","rest","top","spare"] vs) H:=by
 obtain ⟨p,q,T,B,T',B',b,n,m,e,rfl,⟨u,v,hp,Pu,Pv⟩,⟨u',v',hq,b1,b2⟩,g,R2,Z,k⟩:=h;have j:=Z.a;have O:=Z.t;have n1:=O.n1;have ct:=O.n60;have U:=j.m60;have cw:=Z.m50;have m1:=j.m1;have nt:n<2 ^ e:=by have:=O.ne;omega
 have o:=g.all nt j.me ⋯ U j.e6;have P:=R2.all nt j.me ⋯ U j.e6;have b9:=Z.b9;obtain ⟨zv,hv,nv⟩:=Pv;obtain ⟨cy,a3,a4⟩:=b2;have:=o.tn;have:=o.bm;have:=P.tn;have:=P.bm;have mm:max m m=m:=Nat.max_self m;have W:=j.lu;rw [mm] at W;refine DL (B7 rfl hp rfl (B7 rfl hq rfl (Ri hv a3 nv a4 o.gb P.gb ⋯ ⋯ ⋯ ⋯ (λ_ _=>⟨o.fb,P.fb⟩) (d:=e) (by rw [Cn];have:=j.me;omega) (N:=m+m) ⋯ ⋯ W (λz _=>absurd z g.lw.ne) λ_ A C P1 r1 z1 H1 s1 h1 a0=>?_)));obtain ⟨a,f,cz,M1,a1,o1⟩:=Sl g.lw.lb g.lw.nb g.lw.ne o.fb C.lz C.left P1;have b3:MR (B_ (G_ A)) (B_ B'):=MR.of (Fu C.lz) (EQ R2.lw.lb) (D3 C.lz) C.right;have ck:0<(G_ A).length:=Bk.mpr f;obtain ⟨D,eD⟩:∃ D,D=b+m*(2*e+4):=⟨_,rfl⟩;rw [<-eD] at a a1 W;have cl:m*(2*e+4)<=960:=BT (Ex U (show 2*e+4<=16 by have:=j.e6;omega)) ∅;have D9:D<=5960:=by omega
 have b4:=s1 _ _ hq;have a5:=s1 _ _ a3;have DX:D<=2*b+e+1+max (n+m - 1) m*(2*e+4):=by have:=MP (2*b+e+1) (n+m - 1) m e;omega
 have mD:∀ x,x<=n+m - 1+m->x*D<=44490/\x*(D+1)<=44490:=λx hx=>by
  have h1:x*(D+1)<=(n+m - 1+m)*(2*b+e+1+max (n+m - 1) m*(2*e+4)+e+2):=Ex hx ⋯;have h2:x*D<=x*(D+1):=EV _ ⋯;have h3:=O.lu;rw [DP] at h3;omega
 have mB:=mD (B.length+1 - (G_ A).length) ⋯;have d0:=mD (B'.length+1 - (G_ A).length) ⋯;refine DL (B7 rfl b4 rfl (AN rfl (KI a5 h1 (a4.tp (C' s1)) a0 P.gb a f ⋯ ⋯ ⋯ ⋯ ⋯ ⋯ b3 λr2 R H2 s2 ⟨z2,h2,a6⟩ lR nR cm eR=>?_)));have GR:=(Sd P.gb lR nR P.bm j.me C.lz P1 (a1 _) C.right eR).mono (b':=20000) (c':=11000) ⋯ ⋯;have a2:=s1.trans s2;have b5:=a2 _ _ hp;obtain ⟨d1,b6,ba⟩:=Pu.same a2;refine DL (Bb (B7 rfl b5 rfl (AN rfl (Ly b6 h2 ba a6 o.gt GR ⋯ ⋯ ⋯ ⋯ ⋯ ⋯ λr3 X1 H3 s3 ⟨z3,h3,n3⟩ G3 l3 e3=>?_))));have r:=a2.trans s3;have bb:=r _ _ hp;have bc:=r _ _ hq;have bd:=r _ _ hv;have be:=(s2.trans s3) _ _ h1;refine Bb (B7 rfl bc rfl (Bb (B7 rfl bb rfl (AN rfl (KI bd be (nv.tp (C' r)) (a0.tp (C' (s2.trans s3))) o.gb a f ⋯ ⋯ ⋯ ⋯ ⋯ ⋯ M1 λr4 Qd H4 s4 ⟨z4,h4,n4⟩ lQ nQ cn eQ=>?_)))));have GQ:=(Sd o.gb lQ nQ o.bm j.me C.lz P1 (a1 _) C.left eQ).mono (b':=20000) (c':=11000) ⋯ ⋯;have a7:=r.trans s4;obtain ⟨d2,bf,bg⟩:=b1.same a7;refine Ly bf h4 bg n4 P.gt GQ ⋯ ⋯ ⋯ ⋯ ⋯ ⋯ λr5 X2 H5 s5 ⟨z5,h5,n5⟩ G5 l5 e5=>?_;have bi:=(s4.trans s5) _ _ h3;have bj:=G3.mono (b':=32000) (c':=22000) ⋯ ⋯;have bk:=G5.mono (b':=32000) (c':=22000) ⋯ ⋯;obtain ⟨M,bl,bm,bM,q1,q2⟩:=vU bj bk;refine xF bi h5 (n3.tp (C' (s4.trans s5))) n5 G3.low G5.low bl bm bM q1 q2 ⋯ ⋯ ⋯ ⋯ λr6 F H6 s6 ⟨z6,h6,n6⟩ G6 l6 e6=>?_;have d3:F.length<=n+m - 1:=by omega
 have a8:=((((s2.trans s3).trans s4).trans s5).trans s6);have bn:=a8 _ _ h1;have S:=Cl eQ;have oR:=Cl eR
 have ot:sr F=sr T*sr R+Sr.num 1*(sr T'*sr Qd):=by
  rw [<-Cl e3,<-Cl e5];exact Sr.ext' λk=>by show B_ F k=(sr X1).c k+(Sr.num 1*sr X2).c k;rw [Sr.num_mul];exact e6 k
 obtain ⟨N,DD,lD,tN,bN,bD,nN,nD,bp⟩:=g.rp;obtain ⟨N',bq,br,d4,bs,bt,bu,bv,ab⟩:=R2.rp;obtain ⟨Y1,G,ac,bw⟩:=Fw g.lw (CV N) (CV DD) bp;obtain ⟨Y2,I,ae,bx⟩:=Fw R2.lw (CV N') (CV bq) ab;have c0:Y1≠0:=λz=>ER lD (by rw [ac,z];ext);have c1:Y2≠0:=λz=>ER br (by rw [ae,z];ext);have G0:=DO a.low a.nz f
 have c2:F≠[]->Fp (2*b+e+1+max (n+m - 1) m*(2*e+4)) (AR F):=λt0=>by
  obtain ⟨Zr,tz,ez,bz,lz⟩:=Su (s:=1) (.inl rfl) bN bD bs bt nN nD bu bv nt nt (w:=n+m - 1) ⋯ ⋯;have eZ:si Zr=(Y1*Y2*sr (G_ A))*sr F:=by rw [ez,bw,ae,bx,ac,ot,S,oR,show ((1:Int):Rat)=1 from rfl];ext
  have Z0:si Zr≠0:=by rw [eZ];exact Sr.ne_mul ((G.mul I).mul (Af _)) (Af F) (Sr.ne_mul (G.mul I) (Af _) (Sr.ne_mul G I c0 c1) G0) (DO G6.low G6.nz t0)
  have c3:Lz Zr:=DM tz λz=>Z0 (by rw [z,En []];exact Sr.L_nil);have:=MN G6.low c3 bz lz O.ne ((G.mul I).mul (Af _)) eZ;exact this.mono (by have:=MO (2*b+e+1) (n+m - 1) m e;omega)
 have aj:Fp D (AR (G_ A)):=uE a.low g.lw.lb (Af Qd) S (by rw [eD];exact o.fb);refine DL (AN rfl (AN rfl (Ri (b:=60000) (c:=60000) h6 bn n6 (a0.tp (C' a8)) (G6.mono ⋯ ⋯) (a.mono ⋯ ⋯) ⋯ ⋯ ⋯ ⋯ (λt0 _=>⟨c2 t0,aj.mono DX⟩) (d:=e) (by rw [Cn];have:=O.ne;have:=O.me;omega) (N:=n+m - 1+m) ⋯ ⋯ O.lu (λ_ z=>absurd z f) λ_ g2 Rr P2 r7 z7 H7 s7 h7 n7=>?_)));obtain ⟨i,y,d5,M2,d6,o2⟩:=Sl a.low a.nz f aj Rr.lz Rr.right P2;have cp:0<(G_ g2).length:=Bk.mpr y;have c4:MR (B_ (G_ g2)) (B_ F):=MR.of (Fu Rr.lz) (EQ G6.low) (D3 Rr.lz) Rr.left;have c5:=s7 _ _ h6;have m3:=mD (F.length+1 - (G_ g2).length) ⋯;refine CU (Bv (Bb (AN rfl (AN rfl (KI c5 h7 (n6.tp (C' s7)) n7 G6 i y ⋯ ⋯ ⋯ ⋯ ⋯ ⋯ c4 λr8 X H8 s8 PX lX nX cq eX=>?_)))));have J:=(((a7.trans s5).trans s6).trans s7).trans s8;have al:=((((s3.trans s4).trans s5).trans s6).trans s7).trans s8;have c6:=J _ _ hp;have c7:=J _ _ hv;have c8:=al _ _ h2;have c9:=s8 _ _ h7;refine Bb (Bb (B7 rfl c6 rfl (AN rfl (Ly c7 c8 (nv.tp (C' J)) (a6.tp (C' al)) o.gb GR ⋯ ⋯ ⋯ ⋯ ⋯ ⋯ λr9 Pb H9 s9 ⟨z9,h9,n9⟩ G9 l9 e9=>AN rfl ?_))));have cc:=s9 _ _ c9;have m4:=mD (Pb.length+1 - (G_ g2).length) ⋯;have oX:=Cl eX;have o9:=Cl e9;obtain ⟨G',L,oG⟩:=uK M2;have M3:MR (B_ (G_ g2)) (B_ Pb):=MV (Y:=sr Qd*G'*sr R) (((Af _).mul L).mul (Af _)) (by rw [o9,S,oG];ext);refine KI h9 cc n9 (n7.tp (C' (s8.trans s9))) G9 i y ⋯ ⋯ ⋯ ⋯ ⋯ ⋯ M3 λam Y d9 an PY lY nY cr eY=>⟨Az,λwt cd=>?_⟩;have st:=AL cd (.tup [.ref r8,.ref am]);have oY:=Cl eY;have S0:=DO i.low i.nz y;have ce:=Sv g.lw.lb R2.lw.lb C (Af Qd) (Af R) S oR;have ch:=Sv G6.low a.low Rr (Af X) L oX oG
 have ao:sr Y=sr Qd*sr R*G':=by
  refine Sr.cancel (Af Y) (((Af _).mul (Af _)).mul L) (Af (G_ g2)) S0 ?_;rw [<-oY,o9,S,oG];ext
 have cs:=uJ (s:=1) ∅ (Af T) (Af T') (Af Qd) (Af R) (Af (G_ A)) (Af (G_ g2)) (Af X) L S oR ce g.lw.cs R2.lw.cs ot oX oG ch;rw [<-ao] at cs
 have R0:R≠[]:=λz=>by
  have:=eR (B'.length - 1);rw [z] at this;exact DN R2.lw.lb R2.lw.nb R2.lw.ne this
 have lr:=KQ R2.lw.lb R2.lw.nb lR nR R0 a.low a.nz f eR;have lp:=KQ G9.low G9.nz g.lw.lb g.lw.nb g.lw.ne lR nR R0 e9
 have Y0:Y≠[]:=λz=>by
  have:=eY (Pb.length - 1);rw [z] at this;exact DN G9.low G9.nz lp.2.2 this
 have ly:=KQ G9.low G9.nz lY nY Y0 i.low i.nz y eY
 have ar:B_ R (R.length - 1)=1:=by
  have:=lr.2.1;rw [Gk R2.lw.one,o1] at this;ext
 have b0:B_ Y (Y.length - 1)=1:=by
  have h1:=ly.2.1;have h2:=lp.2.1;rw [Gk g.lw.one,ar] at h2;rw [o2,h2] at h1;ext
 refine k wt _ X Y (((J.trans s9).trans an).trans st) ⟨r8,am,upd_same,((PX.same s9).same an).same st,PY.same st⟩ ⟨lX,lY,nX,nY,Y0,Sc lY b0,cs⟩ ?_;have w1:sr X*(sr B*sr B')=sr Qd*sr R*sr (G_ A)*(sr X*sr (G_ A)):=by rw [S,oR];ext
 have w2:sr X*sr (G_ A)=sr F*G':=by rw [oX,oG];ext
 rw [w1,w2,ao,ot,S,oR];ext
theorem Rp.mono {b n m b' c d:Nat} {T B:cI} (h:Rp b n m T B) (e:b<=b') (o:n<=c) (p:m<=d):Rp b' c d T B:=by
 obtain ⟨N,D,f,g,i,j,nN,q,k⟩:=h.rp;exact ⟨h.lw,N,D,f,g,λz a=>(i z a).mono e,λz a=>(j z a).mono e,⋯,⋯,k⟩
theorem Sw {Z:cO} (t:Tz Z) (h:si Z≠0):Lz Z:=DM t λz=>h (by rw [z,En []];exact Sr.L_nil)
theorem Rp.open {b n m:Nat} {T B:cI} (h:Rp b n m T B):∃ (N D:cO) (Y:Sr),Lz D/\(∀ z∈N,Bd b z)/\(∀ z∈D,Bd b z)/\N.length<=n/\D.length<=m/\Sr.Pol Y/\Y≠0/\si D=Y*sr B/\si N=Y*sr T:=by
 obtain ⟨N,D,a,k,d,e,nN,f,g⟩:=h.rp;obtain ⟨Y,i,c,j⟩:=Fw h.lw (CV N) (CV D) g;exact ⟨N,D,Y,a,d,e,nN,f,i,λz=>ER a (by rw [c,z];ext),c,j⟩
theorem Rp.sum {b n m b' d f e w:Nat} {s:Int} (y:s=1\/s = -1) {T B T' B' X Y:cI} (h:Rp b n m T B) (h':Rp b' d f T' B') (l:Lw X Y) (A:sr X*(sr B*sr B')=(sr T*sr B'+Sr.num (s:Rat)*sr T'*sr B)*sr Y) (C:n<2 ^ e) (g:d<2 ^ e) (F:m<2 ^ e) (G:n+f<=w+1) (I:d+m<=w+1):Rp (b+b'+e+1) w (m+f - 1) X Y:=by
 obtain ⟨N,D,q,J,L,r,nN,u,M,O,P,R⟩:=h.open;obtain ⟨N',S,v,i,j,a,k,c,U,a0,o,p⟩:=h'.open;obtain ⟨Z,tz,ez,bz,lz⟩:=Su y L r j a nN u k c C g G I;obtain ⟨W,tw,x,bw,lw⟩:=MU r a u c F;have W0:si W≠0:=by rw [x];exact Sr.ne_mul (CV D) (CV S) (ER J) (ER i)
 refine ⟨l,Z,W,Sw tw W0,tz,bz,λz hz=>(bw z hz).mono ⋯,lz,lw,?_⟩;rw [ez,x,P,o,R,p];have:sr X*(q*sr B*(v*sr B'))=q*v*(sr X*(sr B*sr B')):=by ext
 rw [this,A];ext
theorem Rp.mul {b n m b' k o e:Nat} {T B T' B' X Y:cI} (h:Rp b n m T B) (h':Rp b' k o T' B') (l:Lw X Y) (u:sr X*(sr B*sr B')=sr T*sr T'*sr Y) (v:n<2 ^ e) (w:m<2 ^ e):Rp (b+b'+e) (n+k - 1) (m+o - 1) X Y:=by
 obtain ⟨N,D,p,x,y,z,nN,A,C,F,G,I⟩:=h.open;obtain ⟨N',J,q,a,c,d,f,g,L,M,i,j⟩:=h'.open;obtain ⟨Z,O,P,R,S⟩:=MU y c nN f v;obtain ⟨W,U,r,bw,lw⟩:=MU z d A g w;have W0:si W≠0:=by rw [r];exact Sr.ne_mul (CV D) (CV J) (ER x) (ER a)
 refine ⟨l,Z,W,Sw U W0,O,R,bw,S,lw,?_⟩;rw [P,r,G,i,I,j];have:sr X*(p*sr B*(q*sr B'))=p*q*(sr X*(sr B*sr B')):=by ext
 rw [this,u];ext
theorem uM:Sr.num ((-1:Int):Rat) = -1:=by
 have a:Sr.num ((-1:Int):Rat)+Sr.num 1=0:=Sr.ext' λk=>by
  show ((-1:Int):Rat)*Ak k+1*Ak k=(0:Sr).c k;rw [Sr.zero_c,show (((-1:Int)):Rat) = -1 from rfl];ext
 rw [Sr.num_one] at a;ext
theorem Rp.of {b c b' c' n k x:Nat} {l m T B:cI} (L:Lw T B) (Gl:Gq b c l) (a:Gq b' c' m) (p:m≠[]) (q:l.length<=n) (r:m.length<=k) (w:sr T*sr m=sr l*sr B) (A:b+c'<=x) (C:b'+c<=x):Rp x n k T B:=by
 have f:=Gl.clr;have g:=a.clr;have i:=KU a.low a.nz p;have j:=(B9 Gl.low).1;have o:=(B9 a.low).1;have D:=Sr.num_inv (Au (AW j));have F:=Sr.num_inv (Au (AW o));have u:si (AR l)=Sr.num (AZ l:Rat)*sr l:=by rw [Eo Gl.low];ext
 have v:si (AR m)=Sr.num (AZ m:Rat)*sr m:=by rw [Eo a.low];ext
 refine ⟨L,(AR l).map (AZ m*·),(AR m).map (AZ l*·),⟨by rw [AG];exact i.1,by rw [AG,FM];exact By (AW j) i.2⟩,?_,λz d=>?_,λz d=>?_,by rw [AG,Bp];exact q,by rw [AG,Bp];exact r,by rw [Go,Go,u,v];ext⟩
 ·rcases EO Gl.low Gl.nz with h | h
  ·left;rw [h];rfl
  ·right;rw [AG,FM];exact By (AW o) h
 ·obtain ⟨y,e,rfl⟩:=AU.mp d;exact ((g.2.1).mul (f.1 y e)).mono ⋯
 ·obtain ⟨y,e,rfl⟩:=AU.mp d;exact ((f.2.1).mul (g.1 y e)).mono ⋯
theorem Lw.uniq {X Y a b:cI} (h:Lw X Y) (h':Lw a b) (c:sr X*sr b=sr a*sr Y):X=a/\Y=b:=by
 obtain ⟨f,d,e,_⟩:=Fw h (Af a) (Af b) c;obtain ⟨g,i,j,_⟩:=Fw h' (Af X) (Af Y) c.symm;have k:Y=b:=vP h.lb h'.lb h.nb h'.nb h.ne h'.ne h.one h'.one (MV d e) (MV i j);subst k;exact ⟨Gn h.lt h'.lt h.nt h'.nt (Sr.cancel (Af X) (Af a) (Af Y) (DO h.lb h.nb h.ne) c),rfl⟩
theorem Lw.uniq' {X Y a b:cI} {Z:Sr} (h:Lw X Y) (h':Lw a b) (c:Sr.Pol Z) (d:Z≠0) (e:sr X*sr b*Z=sr a*sr Y*Z):X=a/\Y=b:=h.uniq h' (Sr.cancel ((Af X).mul (Af b)) ((Af a).mul (Af Y)) c d e)
noncomputable def Fy (T B:cI):W.Dat:=.tuple [C9 T,C9 B]
theorem Sx {H:Hp} {p:Addr} {T B:cI} (h:FF H p T B):RepD H (.ref p) (Fy T B):=by
 obtain ⟨u,v,hp,⟨e,a,b⟩,⟨f,c,d⟩⟩:=h;exact .tup hp (.cons (IO a b) (.cons (IO c d) .nil))
theorem okF (T B:cI) (n:Nat):W.kqdOk (n+3) (Fy T B)=true:=by
 simp only [Fy,W.kqdOk,List.all_cons,List.all_nil,bW,Bool.and_self]
structure Wt (X Y:cI) (N D:Sr):Prop where
 pN:Sr.Pol N
 pD:Sr.Pol D
 D0:D≠0
 eq:sr X*D=N*sr Y
def Fx (H:Hp) (p:Addr) (b n m:Nat) (N D:Sr):Prop:=∃ T B,FF H p T B/\Rp b n m T B/\Wt T B N D
theorem Wt.self {T B:cI} (h:Lw T B):Wt T B (sr T) (sr B):=⟨Af T,Af B,DO h.lb h.nb h.ne,rfl⟩
theorem Fx.same {H a:Hp} {p:Addr} {b n m:Nat} {N D:Sr} (h:Fx H p b n m N D) (s:Same H a):Fx a p b n m N D:=let ⟨T,B,f,r⟩:=h;⟨T,B,f.same s,r⟩
theorem Iu {H:Hp} {p:Addr} {b n m:Nat} {T B:cI} (f:FF H p T B) (r:Rp b n m T B):Fx H p b n m (sr T) (sr B):=⟨T,B,f,r,Wt.self r.lw⟩
noncomputable instance (x n m e:Nat):Decidable (C0 x n m e):=decidable_of_iff (1<=n/\1<=m/\n<=60/\m<=60/\n<2 ^ e/\m<2 ^ e/\e<=6/\(x+e+2)*(n+m)<=44490) ⟨λ⟨a,b,c,d,e,f,g,h⟩=>⟨a,b,c,d,e,f,g,h⟩,λ⟨a,b,c,d,e,f,g,h⟩=>⟨a,b,c,d,e,f,g,h⟩⟩
noncomputable instance (b n m e:Nat):Decidable (C2 b n m e):=decidable_of_iff (C1 b m m e/\C1 (2*b+e+1) (n+m - 1) m e/\b<=5000/\m<=50) ⟨λ⟨a,b,c,d⟩=>⟨a,b,c,d⟩,λ⟨a,b,c,d⟩=>⟨a,b,c,d⟩⟩
theorem uN {K:W.Frag} {H:Hp} {Q:VK} {E:XK} {p q:Addr} {s:Int} {b n m b' h i:Nat} {N D u c:Sr} (w:s=1\/s = -1) (f:Fx H p b n m N D) (g:Fx H q b' h i u c) (e:Nat) (Z:C2 (max b b') (max n h) (max m i) e/\n<2 ^ e/\h<2 ^ e/\m<2 ^ e)
  (k:∀ t j,Same H j->Fx j t (b+b'+e+1) (max (n+i - 1) (h+m - 1)) (m+i - 1) (N*c+Sr.num (s:Rat)*u*D) (D*c)->Q (.ref t) j):PU (s:Rat) K [.ref p,.ref q] H Q E:=by
 obtain ⟨T,B,F,R,W⟩:=f;obtain ⟨r,d,x,o,a⟩:=g;refine ⟨p,q,T,B,r,d,max b b',max n h,max m i,e,rfl,F,x,R.mono ⋯ ⋯ ⋯,o.mono ⋯ ⋯ ⋯,Z.1,λt j X Y s1 y z v=>k t j s1 ⟨X,Y,y,R.sum w o z v Z.2.1 Z.2.2.1 Z.2.2.2 ⋯ ⋯,?_⟩⟩;refine ⟨(W.pN.mul a.pD).add (((Sr.Pol.num _).mul a.pN).mul W.pD),W.pD.mul a.pD,Sr.ne_mul W.pD a.pD W.D0 a.D0,?_⟩;refine Sr.cancel ((Af X).mul (W.pD.mul a.pD)) (((W.pN.mul a.pD).add (((Sr.Pol.num _).mul a.pN).mul W.pD)).mul (Af Y)) ((Af B).mul (Af d)) (Sr.ne_mul (Af B) (Af d) (DO R.lw.lb R.lw.nb R.lw.ne) (DO o.lw.lb o.lw.nb o.lw.ne)) ?_;have A:sr X*(D*c)*(sr B*sr d)=sr X*(sr B*sr d)*(D*c):=by ext
 have C:=W.eq;have G:=a.eq;have I:(sr T*sr d+Sr.num (s:Rat)*sr r*sr B)*sr Y*(D*c)=(sr T*D*(sr d*c)+Sr.num (s:Rat)*(sr r*c)*(sr B*D))*sr Y:=by ext
 rw [A,v,I,C,G];ext
theorem Sz {K:W.Frag} {H:Hp} {Q:VK} {E:XK} {p q:Addr} {b n m b' c d:Nat} {N D i j:Sr} (f:Fx H p b n m N D) (g:Fx H q b' c d i j) (e:Nat) (Z:C2 (max b b') (max n c) (max m d) e/\n<2 ^ e/\c<2 ^ e/\m<2 ^ e)
  (k:∀ t a,Same H a->Fx a t (b+b'+e+1) (max (n+d - 1) (c+m - 1)) (m+d - 1) (N*j+i*D) (D*j)->Q (.ref t) a):Ie K [.ref p,.ref q] H Q E:=
 uN (s:=1) (.inl rfl) f g e Z λt a s1 h=>k t a s1 (by
  rw [show Sr.num ((1:Int):Rat)=1 from Sr.num_one,show (1:Sr)*i*D=i*D by grind] at h;exact h)
theorem S3 {K:W.Frag} {H:Hp} {Q:VK} {E:XK} {p q:Addr} {b n m b' j o:Nat} {N D u c:Sr} (f:Fx H p b n m N D) (g:Fx H q b' j o u c) (e:Nat) (Z:C1 (max b b') (max n j) (max m o) e/\max b b'<=5000/\n<2 ^ e/\m<2 ^ e)
  (k:∀ t d,Same H d->Fx d t (b+b'+e) (n+j - 1) (m+o - 1) (N*u) (D*c)->Q (.ref t) d):Ig K [.ref p,.ref q] H Q E:=by
 obtain ⟨T,B,F,R,W⟩:=f;obtain ⟨r,h,w,i,a⟩:=g;refine ⟨p,q,T,B,r,h,max b b',max n j,max m o,e,rfl,F,w,R.mono ⋯ ⋯ ⋯,i.mono ⋯ ⋯ ⋯,Z.1,Z.2.1,λt d X Y s1 x y v=>k t d s1 ⟨X,Y,x,R.mul i y v Z.2.2.1 Z.2.2.2,?_⟩⟩;refine ⟨W.pN.mul a.pN,W.pD.mul a.pD,Sr.ne_mul W.pD a.pD W.D0 a.D0,?_⟩;refine Sr.cancel ((Af X).mul (W.pD.mul a.pD)) ((W.pN.mul a.pN).mul (Af Y)) ((Af B).mul (Af h)) (Sr.ne_mul (Af B) (Af h) (DO R.lw.lb R.lw.nb R.lw.ne) (DO i.lw.lb i.lw.nb i.lw.ne)) ?_;have z:sr X*(D*c)*(sr B*sr h)=sr X*(sr B*sr h)*(D*c):=by ext
 have A:=W.eq;have C:=a.eq;have G:sr T*sr r*sr Y*(D*c)=sr T*D*(sr r*c)*sr Y:=by ext
 rw [z,v,G,A,C];ext
theorem uO {H:Hp} {p q:Addr} {b n m b' j k:Nat} {N D h a:Sr} (f:Fx H p b n m N D) (g:Fx H q b' j k h a) (e:N*a=h*D):∃ T B,FF H p T B/\FF H q T B:=by
 obtain ⟨T,B,F,R,W⟩:=f;obtain ⟨i,c,o,r,d⟩:=g
 obtain ⟨rfl,rfl⟩:=R.lw.uniq' r.lw (W.pD.mul d.pD) (Sr.ne_mul W.pD d.pD W.D0 d.D0) (by
  have u:sr T*sr c*(D*a)=(sr T*D)*sr c*a:=by ext
  have v:sr i*sr B*(D*a)=(sr i*a)*sr B*D:=by ext
  rw [u,v,W.eq,d.eq];have w:N*sr B*sr c*a=N*a*sr B*sr c:=by ext
  rw [w,e];ext)
 exact ⟨T,B,F,o⟩
theorem Gp:sr [(1,1)]=1:=Sr.ext' λk=>by
 rw [KR];cases k with
 | zero=>show val (1,1)=_;unfold val;show ((1:Int):Rat) / ((1:Int):Rat)=1;rw [show ((1:Int):Rat)=1 from rfl];ext
 | succ k=>show B_ [(1,1)] (k+1)=0;exact Bt (by simp)
theorem KW:sr []=0:=Sr.ext' λk=>by rw [Sr.zero_c];exact Bt (Ae _)
theorem si1:si [1]=1:=Sr.ext' λk=>by
 rw [KR];cases k with
 | zero=>rfl
 | succ k=>show ((co [1] (k+1):Int):Rat)=0;rw [Ag (by simp)];rfl
theorem si0:si []=0:=by rw [En []];exact Sr.L_nil
theorem lw1 {T:cI} (b:AV T) (c:Nz T):Lw T [(1,1)]:=⟨b,λq a=>by rw [Ap.mp a];exact Hi,c,λq a=>by obtain rfl:(1,1)=q:=pE a;decide,by simp,rfl,by rw [Gp];exact Sr.Cs.one⟩
theorem MW:(1:Sr)≠0:=by rw [<-si1];exact ER ⟨∅,∅⟩
theorem uP {H:Hp} {t u v:Addr} (a:H t=some (.tup [.ref u,.ref v])) (b:H u=some (.tup [])) (c:Pl H v [(1,1)]):Fx H t 1 1 1 0 1:=by
 have l:Lw [] [(1,1)]:=lw1 (λ_ h=>nomatch h) (λ_ h=>nomatch h);refine ⟨[],[(1,1)],⟨u,v,a,⟨[],b,trivial⟩,c⟩,⟨l,[],[1],⟨∅,∅⟩,.inl rfl,(λ_ h=>nomatch h),λz d=>by rw [Ap.mp d];exact Bd.one,∅,∅,?_⟩,Sr.Pol.nat 0,Sr.Pol.nat 1,MW,?_⟩
 ·rw [KW,si0,si1,Gp]
 ·rw [KW,Gp]
noncomputable def af (a:Addr) (k:Int) (d:Bool) (n:Int):List (E_×V):=[(.inr "cells", .ref a),(.inr "number", .int k),(.inr "digits", .bl d),(.inr "at", .int n)]
theorem KY {k:Str} {v:V} {kvs:List (E_×V)}:Dx ((.inr k,v)::kvs) (.inr k)=some v:=by
 unfold Dx;rw [List.find?_cons,qV rfl];rfl
theorem Hk {j k:Str} {v:V} {kvs:List (E_×V)} (h:j≠k):Dx ((.inr j,v)::kvs) (.inr k)=Dx kvs (.inr k):=by
 unfold Dx;rw [List.find?_cons,qX (λz=>h (Sum.inr.inj z))]
theorem S6 {k:Str} {v w:V} {kvs:List (E_×V)} (h:∀ x∈kvs,x.1≠.inr k):Df ((.inr k,v)::kvs) (.inr k) w=(.inr k,w)::kvs:=by
 unfold Df;rw [qU (by rw [List.any_cons,qV rfl];rfl),CD,qU rfl];congr 1;refine (Cf λx a=>?_).trans (List.map_id _);rw [qT (h x a)];rfl
theorem KZ {j k:Str} {v w:V} {kvs:List (E_×V)} (h:j≠k) (hk:(kvs.any λa=>a.1=Sum.inr k)=true):Df ((.inr j,v)::kvs) (.inr k) w=(.inr j,v)::Df kvs (.inr k) w:=by
 have e:decide ((Sum.inr j:E_)=Sum.inr k)=false:=qX (λz=>h (Sum.inr.inj z));unfold Df;rw [qU hk,List.any_cons,e,Bool.false_or,qU hk,CD,qT (λz=>h (Sum.inr.inj z))]
theorem s1:(("cells" : Str) ≠ "number")/\(("cells" : Str) ≠ "digits")/\(("cells" : Str) ≠ "at")/\(("number" : Str) ≠ "digits")/\(("number" : Str) ≠ "at")/\(("digits" : Str) ≠ "at"):=by decide +kernel
section
variable {a:Addr} {k n:Int} {d:Bool}
theorem Hl:Dx (af a k d n) (.inr "cells")=some (.ref a):=KY
theorem S7:Dx (af a k d n) (.inr "number")=some (.int k):=(Hk s1.1).trans KY
theorem uQ:Dx (af a k d n) (.inr "digits")=some (.bl d):=(Hk s1.2.1).trans ((Hk s1.2.2.2.1).trans KY)
theorem MX:Dx (af a k d n) (.inr "at")=some (.int n):=(Hk s1.2.2.1).trans ((Hk s1.2.2.2.2.1).trans ((Hk s1.2.2.2.2.2).trans KY))
theorem MY {k:Str} {v:V}:([((.inr k:E_),v)].any λb=>b.1=Sum.inr k)=true:=by rw [List.any_cons,qV rfl];rfl
theorem MZ {j k:Str} {v:V} {kvs:List (E_×V)} (h:(kvs.any λb=>b.1=Sum.inr k)=true):((((.inr j:E_),v)::kvs).any λb=>b.1=Sum.inr k)=true:=by rw [List.any_cons,h,Bool.or_true]
theorem uR {m:Int}:Df (af a k d n) (.inr "at") (.int m)=af a k d m:=by
 unfold af;rw [KZ s1.2.2.1 (MZ (MZ MY)),KZ s1.2.2.2.2.1 (MZ MY),KZ s1.2.2.2.2.2 MY,S6 (λ_ h=>(DZ h).elim)]
theorem uS {m:Int}:Df (af a k d n) (.inr "number") (.int m)=af a m d n:=by
 unfold af
 have h:∀ x∈[((.inr "digits" : E_),V.bl d),(.inr "at", .int n)],x.1≠.inr "number" := λx b=>by
  rcases A7.mp b with rfl | b
  ·exact λz=>s1.2.2.2.1 (Sum.inr.inj z).symm
  ·rw [Ap.mp b];exact λz=>s1.2.2.2.2.1 (Sum.inr.inj z).symm
 rw [KZ s1.1 (by rw [List.any_cons,qV rfl];rfl),S6 h]
end
theorem S8 {a:Addr} {k n:Int} {d:Bool}:(af a k d n).length<sizeLine:=by show 4<_;rw [sizeLine_eq];decide
theorem uT (h:Dj K vs H Q E):zW K { nx:=λ_ D=>Q .non D,rt:=Q } (L2.start ["_law_state","_law_many","_law_digit","_law_number_here"] vs) H:=by
 obtain ⟨p,a,m,n,rfl,⟨O,k,d,hp,X,Y,L,Z,k1,n0⟩,n5,m1,m2,R⟩:=h;have u:a≠p:=FS X hp (λz=>nomatch z);refine ⟨_,rfl,p,_,af a k d n,_,rfl,rfl,hp,MX,n,1,rfl,rfl,_,rfl,p,_,af a k d n,rfl,rfl,hp,S8,?_⟩;rw [uR];have q:upd H p (.dK (af a k d (n+1))) p=some (.dK (af a k d (n+1))):=upd_same;have F:upd H p (.dK (af a k d (n+1))) a=some (.lst (O.map V.int)):=(Ad u).trans X;have G:Kpa p a H (upd H p (.dK (af a k d (n+1)))):=λb o B _ I=>(Ad B).trans I;generalize upd H p (.dK (af a k d (n+1)))=H1 at q F G ⊢;refine ⟨_,rfl,p,_,_,_,rfl,rfl,q,uQ,d,rfl,Am (λcd=>?_) (λcd=>?_)⟩
 ·refine EH (λj σ D=>∃ v:cO,σ=[some (.ref p),some (.int m),none,none]/\D p=some (.dK (af a k d (n+1)))/\D a=some (.lst (v.map V.int))/\(∀ z∈v,0<=z)/\v.length<=63/\Kpa p a H D/\j=v.length) O.length ⟨O,rfl,q,F,Y,L,G,rfl⟩ ?_;rintro j σ H2 ⟨A,rfl,f,i,P,l2,S,rfl⟩
  have C:Q9 K { nx:=RA K { nx:=λx D=>Q V.non D,rt:=Q },rt:=Q } [some (.ref p),some (.int m),none,none] H2:=by
   refine ⟨_,rfl,p,_,_,_,rfl,rfl,f,Hl,a,_,rfl,i,rfl,_,rfl,Am (λc=>?_) (λc=>?_)⟩
   ·exact R 0 H2 (Int.le_refl _) ⋯ ⟨A,k,d,f,i,P,l2,Z,⋯,⋯⟩ S
   ·have ne:A≠[]:=λz=>by rw [z] at c;exact c rfl
    cases A with
    | nil=>exact absurd rfl ne
    | cons z rest=>
      refine ⟨_,rfl,p,_,_,_,rfl,rfl,f,Hl,a,0,_,.int z,rfl,rfl,i,Ck (j:=0) rfl rfl,_,rfl,z,m,rfl,⋯,λw hw=>?_⟩;have z0:=P z (BL ..);have T:=AL hw (.tup [.int (z.fdiv m),.int (z.fmod m)]);have M:=T _ _ f;have U:=T _ _ i;refine ⟨w,_,rfl,upd_same,rfl,_,_,rfl,_,rfl,p,_,_,_,rfl,rfl,M,Hl,a,_,0,0,rfl,rfl,U,?_,_,_,rfl,rfl,?_⟩
      ·exact FJ rfl (by simp)
      refine ⟨_,rfl,?_⟩;have dm:z.fmod m=z % m:=Int.fmod_eq_emod_of_nonneg _ ⋯;have dd:z.fdiv m=z / m:=Do _ ⋯;refine R (z.fmod m) _ (by rw [dm];exact CN _ ⋯) (by rw [dm];exact Cc _ ⋯) ⟨z.fdiv m::rest,k,d,(Ad u.symm).trans M,?_,λy N=>?_,l2,Z,⋯,⋯⟩ (λb o B J I=>(Ad J).trans (T _ _ (S b o B J I)))
      ·rw [upd_same];rfl
      ·rcases A7.mp N with rfl | N
       ·rw [dd];exact Int.ediv_nonneg z0 ⋯
       ·exact P y (BW _ N)
  refine ⟨_,rfl,p,_,_,_,rfl,rfl,f,Hl,a,_,rfl,i,_,_,rfl,rfl,_,rfl,Am (λg=>?_) (λg=>?_)⟩
  ·cases A with
   | nil=>exact absurd (qW g) (by simp)
   | cons z rest=>
     refine ⟨_,rfl,p,_,_,_,rfl,rfl,f,Hl,a,0,_,.int z,rfl,rfl,i,Ck (j:=0) rfl rfl,rfl,_,rfl,Am (λe=>?_) (λe=>?_)⟩
     ·refine ⟨_,λ_ _ h=>h,_,rfl,p,_,_,_,rfl,rfl,f,Hl,Nv i,a,.int z,rest.map V.int,rfl,rfl,i,?_⟩;exact ⟨rest.length,by simp,rest,rfl,(Ad u.symm).trans f,upd_same,λy N=>P y (BW _ N),by have:(z::rest).length=rest.length+1:=rfl;omega,λb o B J I=>(Ad J).trans (S b o B J I),rfl⟩
     ·exact C
  ·exact C
 ·refine ⟨_,rfl,p,_,_,_,rfl,rfl,q,S7,_,rfl,p,_,_,_,rfl,rfl,q,MX,7919,n+1,rfl,rfl,IntMulOk.of_right (intBits_le_64 ⋯ ⋯),k,_,rfl,rfl,_,_,rfl,rfl,IntMulOk.of_right (intBits_le_64 ⋯ ⋯),_,_,rfl,rfl,(show (0:Int)<2147483629 by decide),?_⟩;have q0:=CN ((k+7919*(n+1))*48271) (show (2147483629:Int)≠0 by decide);have q1:=Cc ((k+7919*(n+1))*48271) (show (0:Int)<2147483629 by decide);refine ⟨_,rfl,_,rfl,_,_,rfl,rfl,IntMulOk.of_right (intBits_le_64 ⋯ ⋯),_,_,rfl,rfl,(show (0:Int)<2147483587 by decide),_,rfl,p,_,_,_,rfl,rfl,q,MX,_,_,rfl,rfl,_,rfl,p,_,_,rfl,rfl,q,S8,?_⟩;rw [uS];generalize e2:(k+7919*(n+1))*48271 % 2147483629*((k+7919*(n+1))*48271 % 2147483629)=W;have r0:=CN W (show (2147483587:Int)≠0 by decide);have r1:=Cc W (show (0:Int)<2147483587 by decide);generalize W % 2147483587=r at r0 r1 ⊢;refine ⟨_,rfl,p,_,_,_,rfl,rfl,upd_same,S7,r+(n+1),97,rfl,rfl,⟨∅,(Nd ⋯ ⋯).mono ∅⟩,_,rfl,(r+(n+1)) / 97,m,rfl,rfl,⋯,?_⟩;exact R _ _ (CN _ ⋯) (Cc _ ⋯) ⟨O,r+(n+1),d,upd_same,(Ad u).trans F,Y,L,⋯,⋯,⋯⟩ (λb o B J I=>(Ad B).trans (G b o B J I))
theorem Kpa.trans {p a:Addr} {H c d:Hp} (h:Kpa p a H c) (g:Kpa p a c d):Kpa p a H d:=λb o e f i=>g b o e f (h b o e f i)
theorem Kpa.same {p a:Addr} {H c d:Hp} (h:Kpa p a H c) (g:Same c d):Kpa p a H d:=λb o e f i=>g b o (h b o e f i)
theorem Stt.same {H b:Hp} {p a:Addr} {n:Int} (h:Stt H p a n) (s:Same H b):Stt b p a n:=by
 obtain ⟨c,k,d,hp,e,r⟩:=h;exact ⟨c,k,d,s _ _ hp,s _ _ e,r⟩
theorem Stt.mono {H:Hp} {p a:Addr} {n b:Int} (h:Stt H p a n) (e:n=b):Stt H p a b:=e ▸ h
theorem uU {n m:Int} (h:0<m):(Aw n m).1.natAbs<=n.natAbs/\(Aw n m).2<=m:=by
 have e:Aw n m=Y_ n m:=by unfold Aw;rw [qT ⋯]
 have w:=II (CT h) h (Fg (n:=n) h);have l:=(CT (n:=n) h).pos;rw [e];exact ⟨w.1,by have:=w.2;omega⟩
theorem uV (h:Gf K vs H Q E):zY K { nx:=λ_ b=>Q .non b,rt:=Q } (L2.start ["_law_state","_law_top"] vs) H:=by
 obtain ⟨p,a,n,rfl,o,D,q⟩:=h;refine Bc (A5 (Bb (AN rfl (N_ (Em o ⋯ ∅ ∅ λd F G I g u=>N_ (IR (Ei (Cv (A5 (Bb (AN rfl (N_ (Em g ⋯ ∅ ∅ λe v J L i y=>⟨rfl,_,rfl,?_⟩)))))))))))))
 have k:∀ t:Int,t.natAbs<=4036->RD K { nx:=λx b=>Q V.non b,rt:=Q } [some (.ref p),some (.int t)] v:=λt z=>by
  refine CU (Bb (AN rfl (A5 (N_ (Bb (AN rfl (N_ (Em i ⋯ ∅ ∅ λf M N O j A=>IR (xE ⋯ λr B=>?_)))))))));have sr:=AL B (.tup [.int (Aw t (1+f)).1,.int (Aw t (1+f)).2]);have C:1+f≠0:=by omega
  have w:=uU (n:=t) (m:=1+f) ⋯;exact q r _ _ _ upd_same (GV C) (BT w.1 z) (by have:=w.2;omega) ((j.same sr).mono ⋯) (((u.trans y).trans A).same sr)
 refine Am (λc=>?_) (λc=>?_)
 ·refine ⟨_,rfl,_,1009,rfl,rfl,IntMulOk.of_right (intBits_le_64 ⋯ ⋯),k _ ?_⟩;have:(d - 4).natAbs<=4:=by omega
  rw [CF];exact BT (CY _ this) ∅
 ·exact k _ ⋯
@[elab_as_elim] theorem l2 {c e:Type} {P:List c->List e->Prop} (xs:List c) (ys:List e) (b:(∀ x xs,P (x::xs) [])/\∀ y ys,P [] (y::ys)) (a:P [] []) (d:∀ x xs y ys,P xs ys->P (x::xs) (y::ys)):P xs ys:=by
  induction xs generalizing ys with
  | nil=>cases ys with
    | nil=>exact a
    | cons=>exact b.2 _ _
  | cons x xs f=>cases ys with
    | nil=>exact b.1 _ _
    | cons=>exact d _ _ _ _ (f _)
theorem Pts.tp {H b:Hp} (t:Tp H b) {ws:cM} {L:cE}:Pts H ws L->Pts b ws L:=l2 ws L ⟨λ_ _ h=>h.elim,λ_ _ h=>h.elim⟩ (λ_=>trivial) λ_ _ _ _ r h=>⟨let ⟨a,e,P⟩:=h.1;⟨a,e,P.tp t⟩,h.2.1,r h.2.2⟩
theorem Pts.len {H:Hp} {ws:cM} {L:cE}:Pts H ws L->ws.length=L.length:=l2 ws L ⟨λ_ _ h=>h.elim,λ_ _ h=>h.elim⟩ (λ_=>rfl) λ_ _ _ _ r h=>congrArg (·+1) (r h.2.2)
theorem Pts.get {H:Hp} {ws:cM} {L:cE} {i:Nat} {v:V} (h:Pts H ws L) (e:ws[i]?=some v):∃ q,L[i]?=some q/\(∃ a,v=.ref a/\Pl H a q.2)/\Pt q.1 q.2:=by
 revert h e;generalize i=j;revert j
 exact l2 ws L ⟨λ_ _ _ h=>h.elim,λ_ _ _ h=>h.elim⟩ (λ_ _ e=>nomatch e) λ_ _ q _ r i h e=>by
  cases i with
  | zero=>exact ⟨q,rfl,by cases e;exact h.1,h.2.1⟩
  | succ i=>exact r i h.2.2 e
theorem Pts.app {H:Hp} {ws:cM} {L:cE} {vs:cM} {M:cE} (h:Pts H ws L) (k:Pts H vs M):Pts H (ws++vs) (L++M):=by
 revert h;exact l2 ws L ⟨λ_ _ h=>h.elim,λ_ _ h=>h.elim⟩ (λ_=>k) λ_ _ _ _ r h=>⟨h.1,h.2.1,r h.2.2⟩
theorem Pts.rep {H:Hp} {ws:cM} {L:cE}:Pts H ws L->RepA H ws (L.map λq=>C9 q.2):=l2 ws L ⟨λ_ _ h=>h.elim,λ_ _ h=>h.elim⟩ (λ_=>.nil) λ_ _ _ _ r h=>by obtain ⟨⟨a,e,b,h,n⟩,_,k⟩:=h;subst e;exact .cons (IO h n) (r k)
theorem Lgs.tp {H b:Hp} (t:Tp H b) {ws:cM} {L:cD}:Lgs H ws L->Lgs b ws L:=l2 ws L ⟨λ_ _ h=>h.elim,λ_ _ h=>h.elim⟩ (λ_=>trivial) λ_ _ _ _ r h=>by obtain ⟨⟨a,c,w,e,h,n,P⟩,k⟩:=h;exact ⟨⟨a,c,w,e,t _ _ h,t _ _ n,P.tp t⟩,r k⟩
theorem Lgs.len {H:Hp} {ws:cM} {L:cD}:Lgs H ws L->ws.length=L.length:=l2 ws L ⟨λ_ _ h=>h.elim,λ_ _ h=>h.elim⟩ (λ_=>rfl) λ_ _ _ _ r h=>congrArg (·+1) (r h.2)
theorem Lgs.get {H:Hp} {ws:cM} {L:cD} {i:Nat} {v:V} (h:Lgs H ws L) (e:ws[i]?=some v):∃ q,L[i]?=some q/\∃ t c w,v=.ref t/\H t=some (.tup [.ref c,.ref w])/\Nm H c q.1.1 q.1.2/\Pl H w q.2:=by
 revert h e;generalize i=j;revert j
 exact l2 ws L ⟨λ_ _ _ h=>h.elim,λ_ _ _ h=>h.elim⟩ (λ_ _ e=>nomatch e) λ_ _ q _ r i h e=>by
  cases i with
  | zero=>exact ⟨q,rfl,by cases e;exact h.1⟩
  | succ i=>exact r i h.2 e
theorem Lgs.app {H:Hp} {ws:cM} {L:cD} {vs:cM} {M:cD} (h:Lgs H ws L) (k:Lgs H vs M):Lgs H (ws++vs) (L++M):=by
 revert h;exact l2 ws L ⟨λ_ _ h=>h.elim,λ_ _ h=>h.elim⟩ (λ_=>k) λ_ _ _ _ r h=>⟨h.1,r h.2⟩
theorem Lgs.cut {H:Hp}:∀ (k:Nat) {ws:cM} {L:cD},Lgs H ws L->Lgs H (ws.take k) (L.take k)/\Lgs H (ws.drop k) (L.drop k)
 | 0,_,_,h=>⟨trivial,h⟩
 | _+1,[],[],_=>⟨trivial,trivial⟩
 | k+1,_::_,_::_,⟨a,r⟩=>let ⟨x,y⟩:=r.cut k;⟨⟨a,x⟩,y⟩
 | _+1,[],_::_,h=>h.elim
 | _+1,_::_,[],h=>h.elim
theorem Kpa.tp {H c:Hp} {p a:Addr} {n:Int} (k:Kpa p a H c) (s:Stt H p a n):Tp H c:=λb f h=>by
 obtain ⟨g,q,d,hp,e,_⟩:=s;exact k b _ (FS h hp (λz=>nomatch z)) (FS h e (λz=>nomatch z)) h
theorem Kpa.of {p a:Addr} {H c:Hp} (s:Same H c):Kpa p a H c:=λb o _ _ d=>s b o d
theorem uW (h:Ln K vs H Q E):Zm K { nx:=λ_ f=>Q .non f,rt:=Q } (L2.start ["one","other"] vs) H:=by
 obtain ⟨p,q,a,b,c,d,rfl,hp,e,g,i,j,m,k⟩:=h;have M:∀ {x y:Int},Bd 1000 x->Bd 1000 y->IntMulOk x y:=λn o=>DV (n.mono ∅) (o.mono ∅);exact CU (A5 (A5 (B7 rfl hp rfl (B7 rfl e rfl ⟨_,_,rfl,rfl,M g m,A5 (B7 rfl e rfl (B7 rfl hp rfl ⟨_,_,rfl,rfl,M j i,⟨_,_,rfl,rfl,k⟩⟩))⟩))))
theorem uX (h:HX K vs H Q E):Zn K { nx:=λ_ a=>Q .non a,rt:=Q } (L2.start ["P"] vs) H:=by
 obtain ⟨p,b,rfl,hp,q⟩:=h;exact ⟨_,rfl,_,_,rfl,hp,_,_,rfl,rfl,q⟩
theorem uY (h:EN K vs H Q E):zZ K { nx:=λ_ f=>Q .non f,rt:=Q } (L2.start ["_law_row"] vs) H:=by
 obtain ⟨p,a,rfl,hp,y,k⟩:=h;have e:(a.map V.int).length=a.length:=AG ..;refine CU (Eh (IS (AN rfl ⟨_,rfl,⟨_,SqL.of hp⟩,CompJ.lst (xs:=a.map V.int) (λi c f=>i<=a.length/\Same H f/\Nums f c ((a.take i).map λn=>(n,1))) ⟨Ae _,Same.refl H,trivial⟩ ?_ ?_ ?_⟩)))
 ·rintro i c j ⟨g,s1,b⟩;have l:=b.length;rw [AG,CC] at l;exact ⟨by rw [e];exact g,sz ⋯,SqL.of (s1 _ _ hp)⟩
 ·rintro i x c j m ⟨g,s1,b⟩;rw [Ac] at m;obtain ⟨z,o,rfl⟩:=Et.mp m;have v:i<a.length:=(BF.mp o).1;refine FH (Bv (AN rfl (N_ ⟨Az,λw d=>⟨v,s1.trans (AL d _),?_⟩⟩)));have q:(a.take (i+1)).map (λn=>((n,1):Nu))=(a.take i).map (λn=>(n,1))++[(z,1)]:=by rw [List.take_succ,o];simp
  rw [q];exact (b.tp (C' (AL d _))).append (Nums.one ⟨w,rfl,upd_same⟩)
 ·rintro c j ⟨g,s1,b⟩ w d;rw [e,CW] at b;refine ⟨_,_,rfl,upd_same,λr u=>k r _ ((s1.trans (AL d _)).trans (AL u _)) ⟨c,upd_same,b.tp (C' ((AL d _).trans (AL u _)))⟩⟩
theorem uZ (h:KC K vs H Q E):yW K { nx:=λ_ a=>Q .non a,rt:=Q } (L2.start ["_law_found","_law_one"] vs) H:=by
 obtain ⟨p,x,y,rfl,hp,k⟩:=h;refine Ei ⟨_,rfl,_,_,true,rfl,HC hp,true,rfl,?_⟩;refine ⟨_,rfl,_,_,rfl,hp,rfl,_,rfl,?_⟩;refine ⟨_,rfl,_,rfl,⟨_,SqT.of hp⟩,ForT.by (xs:=[.int x,.int y]) (λi d a=>∃ c,d=[some (.ref p),c]/\a=H) ⟨_,rfl,rfl⟩ ?_ ?_ ?_⟩
 ·rintro i d a _ ⟨c,rfl,rfl⟩;exact hp
 ·rintro i v d a b ⟨c,rfl,rfl⟩
  have e:∃ z:Int,v=.int z:=by
   match i,b with
   | 0,b=>exact ⟨x,(pE b).symm⟩
   | 1,b=>exact ⟨y,(pE b).symm⟩
  obtain ⟨z,rfl⟩:=e;exact ⟨_,rfl,_,_,true,rfl,rfl,true,rfl,_,rfl,_,_,false,rfl,rfl,false,rfl,_,rfl,rfl⟩
 ·rintro d a ⟨c,rfl,rfl⟩;exact k
theorem tE (h:Ih K vs H Q E):yX K { nx:=λ_ f=>Q .non f,rt:=Q } (L2.start ["_law_found"] vs) H:=by
 obtain ⟨p,l,rfl,⟨b,hp,j⟩,u,k⟩:=h;have v:=j.length;refine CU ⟨_,rfl,_,_,true,rfl,HC hp,true,rfl,?_⟩;rw [qU rfl];refine Eh (Jr (AN rfl ⟨_,rfl,⟨_,SqT.of hp⟩,CompJ.tup (xs:=b) (λi c f=>i<=b.length/\f=H/\c=(List.replicate i true).map V.bl) ⟨Ae _,rfl,rfl⟩ ?_ ?_ ?_⟩))
 ·rintro i c m ⟨g,rfl,rfl⟩;exact ⟨g,sz (by rw [AG,List.length_replicate];omega),hp⟩
 ·rintro i x c m d ⟨g,rfl,rfl⟩;have n:i<b.length:=(BF.mp d).1;obtain ⟨q,_,a,rfl,o⟩:=j.get d;exact FH (BS (AN rfl ⟨_,_,_,rfl,o,n,rfl,by rw [List.replicate_succ',Bq];rfl⟩))
 ·rintro c m ⟨g,rfl,rfl⟩ w r;refine ⟨w,List.replicate b.length true,rfl,upd_same,?_⟩;have e:(List.replicate b.length true).all id=true:=Dp.mpr λx d=>by rw [List.eq_of_mem_replicate d];rfl
  rw [e];exact k _ (AL r _)
theorem tF (h:Lr K vs H Q E):yY K { nx:=λ_ a=>Q .non a,rt:=Q } (L2.start ["_law_found"] vs) H:=by
 obtain ⟨p,T,B,rfl,⟨u,v,hp,b,Pv⟩,c,d,k⟩:=h;refine CU ⟨_,rfl,_,_,true,rfl,HC hp,true,rfl,?_⟩;rw [qU rfl];refine ⟨_,rfl,_,_,rfl,hp,rfl,true,rfl,?_⟩;rw [qU rfl];refine BS (B7 rfl hp rfl ⟨_,_,rfl,b,c,λf s1=>⟨true,rfl,?_⟩⟩);rw [qU rfl];exact BS (B7 rfl (s1 _ _ hp) rfl ⟨_,_,rfl,Pv.same s1,d,λg e=>k _ (s1.trans e)⟩)
theorem Ka {K:W.Frag} {c:TE} {g:TG} {d rest:TS} {D:Ends} {b:L2.St} {H:Hp} (h:c b H λx e=>∃ a,x=.ref a/\(∃ f,SqL K e a f)/\ForL K a g d { D with nx:=rest D } b e):AH (Bh (Bz K c) g d) rest D b H:=h
theorem tG (a:cO) (b c:Option Int):∃ d:cO,CQ (a.map V.int) b c=d.map V.int/\d.length<=a.length:=by
 refine ⟨(a.drop (HT.sIx (a.map V.int).length 0 b)).take (HT.sIx (a.map V.int).length (a.map V.int).length c - HT.sIx (a.map V.int).length 0 b),?_,?_⟩
 ·unfold CQ;rw [List.map_take,List.map_drop]
 ·rw [CC,List.length_drop];omega
theorem tH (h:Lm K vs H Q E):zP K { nx:=λ_ e=>Q .non e,rt:=Q } (L2.start ["_law_script","_law_number_here","_law_cell","_law_cells"] vs) H:=by
 obtain ⟨s,T,rfl,J,U,k⟩:=h;obtain ⟨d,em,lm⟩:=tG T none (some 63);refine Bc (N_ (Ka ?_));refine ⟨_,rfl,_,rfl,_,_,rfl,J,λc W=>?_⟩;rw [em];have s1:=AL W (.lst (d.map V.int));have j:(upd H c (.lst (d.map V.int))) c=some (HO.lst (d.map V.int)):=upd_same;generalize upd H c (.lst (d.map V.int))=A at s1 j ⊢;refine ⟨_,rfl,⟨_,SqL.of j⟩,ForL.by (xs:=d.map V.int) (λi v e=>∃ (q:Int) (z:cN),v=[some (.ref s),some (.int q),z,none]/\A=e/\0<=q/\q<=2147483629) ⟨11,none,rfl,rfl,∅,∅⟩ ?_ ?_ ?_⟩
 ·rintro i v e _ ⟨q,z,rfl,rfl,_⟩;exact SqL.of j
 ·rintro i x v e u ⟨q,z,rfl,rfl,L,X⟩;rw [Ac] at u;obtain ⟨y,_,rfl⟩:=Et.mp u;refine ⟨_,rfl,_,_,rfl,rfl,IntMulOk.of_right (intBits_le_64 ⋯ ⋯),_,rfl,_,_,rfl,rfl,(show (0:Int)<2147483647 by decide),_,_,rfl,rfl,_,_,rfl,rfl,_,_,rfl,rfl,(show (0:Int)<2147483629 by decide),_,_,rfl,rfl,?_,?_⟩
  ·exact CN _ ∅
  ·exact DQ (Cc _ ∅)
 ·rintro v e ⟨q,z,rfl,rfl,L,X⟩;show Q8 K { nx:=λ_ e=>Q .non e,rt:=Q } _ _;refine Bc (IS ?_);refine ⟨_,rfl,_,rfl,_,_,rfl,Same.seq s1 J,λB C=>?_⟩;rw [em];have D:=AL C (.lst (d.map V.int));have m:(upd A B (.lst (d.map V.int))) B=some (HO.lst (d.map V.int)):=upd_same;generalize upd A B (.lst (d.map V.int))=F at D m ⊢;have M:(d.map V.int).length=d.length:=AG ..;refine ⟨_,rfl,⟨_,SqL.of m⟩,CompJ.lst (xs:=d.map V.int) (λi w e=>i<=d.length/\F=e/\∃ f:cO,w=f.map V.int/\f.length=i/\∀ z∈f,0<=z) ⟨Ae _,rfl,[],rfl,rfl,(λ_ h=>nomatch h)⟩ ?_ ?_ ?_⟩
  ·rintro i w e ⟨G,rfl,f,rfl,g,_⟩;exact ⟨by rw [M];exact G,sz (by rw [AG];omega),SqL.of m⟩
  ·rintro i x w e u ⟨G,rfl,f,rfl,g,I⟩;rw [Ac] at u;obtain ⟨y,Y,rfl⟩:=Et.mp u;have Z:i<d.length:=(BF.mp Y).1;refine ⟨_,rfl,_,rfl,Z,rfl,f++[if y<0 then -y else y],by rw [Bq];rfl,by rw [Bw,g];rfl,λz hz=>?_⟩;rcases CK.mp hz with h | h
   ·exact I z h
   ·rw [Ap.mp h];split <;> omega
  ·rintro w e ⟨G,rfl,f,rfl,g,I⟩ a N;have O:=AL N (.lst (f.map V.int));have n:(upd F a (.lst (f.map V.int))) a=some (HO.lst (f.map V.int)):=upd_same;have a0:H a=none:=s1.free (D.free N);generalize upd F a (.lst (f.map V.int))=H3 at O n ⊢;refine λp hp=>⟨_,rfl,_,rfl,_,rfl,_,_,rfl,rfl,(show (0:Int)<2 by decide),rfl,upd_same,rfl,?_⟩;have P:a≠p:=BM n hp;have r:=(s1.trans D).trans O;rw [M] at g;refine k p a _ (r.free hp) a0 (λb o R=>?_) ⟨f,q,_,upd_same,?_,I,⋯,L,⋯,∅⟩
   ·have S:b≠p:=BM (r _ _ R) hp;exact (Ad S).trans ((Ad S).trans (r _ _ R))
   ·exact (Ad P).trans ((Ad P).trans n)
def aS (d:Nat) (a:cO):Prop:=a.length=d+1/\1<=d/\d<=3/\a.getLast?≠some 0/\∀ z∈a,z.natAbs<=3
theorem Ma {d:Nat} {c:cO} (h:aS d c):Pt d (c.map λn=>((n,1):Nu)):=by
 obtain ⟨f,g,k,i,j⟩:=h;refine ⟨⟨λq a=>?_,λq a z=>?_,1,⟨∅,λq a=>?_⟩,?_,λz h=>?_⟩,?_,by rw [AG,f];exact AO _,g⟩
 ·obtain ⟨n,_,rfl⟩:=AU.mp a;exact ⟨Int.one_pos,Int.gcd_one_right _⟩
 ·rw [List.getLast?_map] at a;obtain ⟨n,b,rfl⟩:=Et.mp a;exact i (by rw [b];exact congrArg some z)
 ·obtain ⟨n,_,rfl⟩:=AU.mp a;exact Int.dvd_refl _
 ·exact Bd.mono (show Bd 1 (1:Int) by unfold Bd;decide) ⋯
 ·obtain ⟨q,a,rfl⟩:=AU.mp h;obtain ⟨n,b,rfl⟩:=AU.mp a;have e:n*(1 / 1)=n:=by rw [Int.ediv_one,Int.mul_one]
  show Bd _ (n*(1 / 1));rw [e];exact Bd.mono (show Bd 2 n by unfold Bd;have:=j n b;omega) ⋯
 ·intro z;have:=congrArg List.length z;rw [AG,f] at this;exact nomatch this
noncomputable def rN (r:Nat×cO):Nat×cI:=(r.1,r.2.map λn=>(n,1))
noncomputable def Rws (H:Hp):cM->cJ->Prop
 | [],[]=>True
 | v::vs,r::R=>(∃ a,v=.ref a/\H a=some (.lst (r.2.map V.int)))/\aS r.1 r.2/\Rws H vs R
 | _,_=>False
theorem Rws.same {H b:Hp} {vs:cM} {R:cJ} (s:Same H b):Rws H vs R->Rws b vs R:=l2 vs R ⟨λ_ _ h=>h.elim,λ_ _ h=>h.elim⟩ (λ_=>trivial) λ_ _ _ _ r h=>⟨let ⟨a,e,P⟩:=h.1;⟨a,e,s _ _ P⟩,h.2.1,r h.2.2⟩
theorem Rws.len {H:Hp} {vs:cM} {R:cJ}:Rws H vs R->vs.length=R.length:=l2 vs R ⟨λ_ _ h=>h.elim,λ_ _ h=>h.elim⟩ (λ_=>rfl) λ_ _ _ _ r h=>congrArg (·+1) (r h.2.2)
theorem Rws.get {H:Hp} {vs:cM} {R:cJ} {i:Nat} {v:V} (h:Rws H vs R) (e:vs[i]?=some v):∃ q,R[i]?=some q/\(∃ a,v=.ref a/\H a=some (.lst (q.2.map V.int)))/\aS q.1 q.2:=by
 revert h e;generalize i=j;revert j
 exact l2 vs R ⟨λ_ _ _ h=>h.elim,λ_ _ _ h=>h.elim⟩ (λ_ _ e=>nomatch e) λ_ _ q _ r i h e=>by
  cases i with
  | zero=>exact ⟨q,rfl,by cases e;exact h.1,h.2.1⟩
  | succ i=>exact r i h.2.2 e
def RowsT (t:TA) (R:cJ):Prop:=∀ (b:L2.St) (H:Hp) (Q:cM->Hp->Prop),(∀ vs a,Same H a->Rws a vs R->Q vs a)->t b H Q
theorem RowsT.nil:RowsT AC []:=λ_ H _ h=>h [] H (Same.refl H) trivial
theorem RowsT.cons {tr e:TA} {R:cJ} {d:Nat} (c:cO) (f:∀ (b:L2.St) (H:Hp) (Q:cM->Hp->Prop),Q (c.map V.int) H->e b H Q) (ok:aS d c) (h:RowsT tr R):RowsT (AB (A9 e) tr) ((d,c)::R):=λb H Q k=>by
 exact f b H _ ⟨sz (by rw [AG,ok.1];have:=ok.2.2.1;omega),λa g=>h b _ _ λvs i s r=>k (.ref a::vs) i ((AL g _).trans s) ⟨⟨a,rfl,s _ _ upd_same⟩,ok,r⟩⟩
theorem Pts.snocR {H:Hp} {ys:cM} {L:cE} {r:Addr} {d:Nat} {a:cO} (h:Pts H ys L) (P:Pl H r (a.map λn=>((n,1):Nu))) (ok:aS d a):Pts H (ys++[.ref r]) (L++[rN (d,a)]):=h.app ⟨⟨r,rfl,P⟩,Ma ok,trivial⟩
theorem ES {a:Type} {l:List a} {i:Nat} {x:a} (h:l[i]?=some x):l.take (i+1)=l.take i++[x]:=by rw [List.take_succ,h];rfl
theorem S9 {K:W.Frag} {H:Hp} {Q:VK} {b:Addr} {xs:cM} {R:cJ} {e:L2.St} {J:It} (u:∀ W:Nat->cM->Hp->Prop,W 0 [] H->(∀ i d c,W i d c->i<=xs.length/\d.length<=sizeLine/\Same H c)->(∀ i x d c,xs[i]?=some x->W i d c->AE 0 x (CS [none] e) c λf g=>AJ (EN K) [] E0 (AB (AA 0) AC) f g λy v=>W (i+1) (d++[y]) v)->(∀ d c,W xs.length d c->∀ p,c p=none->Q (.ref p) (upd c p (.lst d)))->CompJ J [none] (AE 0) (AJ (EN K) [] E0 (AB (AA 0) AC)) e Q H) (j:Rws H xs R) (D:R.length<=100)
  (k:∀ d c w,Same H c->Pts c d (R.map rN)->c w=none->Q (.ref w) (upd c w (.lst d))):CompJ J [none] (AE 0) (AJ (EN K) [] E0 (AB (AA 0) AC)) e Q H:=by
 have z:=j.len;refine u (λi d c=>i<=xs.length/\Same H c/\Pts c d ((R.take i).map rN)) ⟨Ae _,Same.refl H,trivial⟩ ?_ ?_ ?_
 ·rintro i d c ⟨m,s,h⟩;exact ⟨m,sz (by rw [h.len,AG,CC];omega),s⟩
 ·rintro i x d c n ⟨m,s,h⟩;have A:i<xs.length:=(BF.mp n).1;obtain ⟨q,B,⟨a,rfl,C⟩,ok⟩:=j.get n;refine FH (BS (AN rfl ⟨_,q.2,rfl,s _ _ C,by have:=ok.1;have:=ok.2.2.1;omega,λr g o P=>⟨A,s.trans o,?_⟩⟩));rw [ES B,Bq];exact (h.tp (C' o)).snocR P ok
 ·rintro d c ⟨_,s,h⟩ p hp;rw [z,CW] at h;exact k d c p s h hp
theorem TC:Pt 1 [((1:Int),(2:Int)),(1,1)]/\Pt 1 [((-2:Int),(3:Int)),(1,1)]:=by
 have g:∀ a b:Int,0<b->b<=3->a.natAbs<=2->Int.gcd a b=1->Pt 1 [(a,b),(1,1)]:=λa b f i j h=>by
  refine ⟨⟨λq c=>?_,λq c=>?_,b,⟨f,λq c=>?_⟩,(show Bd 2 b by unfold Bd;omega),λz d=>?_⟩,by simp,by simp,AO _⟩
  ·rcases A7.mp c with rfl | c
   ·exact ⟨f,h⟩
   ·rw [Ap.mp c];exact Hi
  ·obtain rfl:(1,1)=q:=pE c;decide
  ·rcases A7.mp c with rfl | c
   ·exact Int.dvd_refl _
   ·rw [Ap.mp c];exact Int.one_dvd _
  ·have e:O' [(a,b),(1,1)] b=[a*(b / b),1*(b / 1)]:=rfl;rw [e,Int.ediv_self ⋯,Int.ediv_one,Int.mul_one,Int.one_mul] at d;show Bd 2 z;unfold Bd;rcases A7.mp d with rfl | d
   ·omega
   ·rw [Ap.mp d];omega
 exact ⟨g 1 2 ∅ ∅ ∅ ∅,g (-2) 3 ∅ ∅ ∅ ∅⟩
noncomputable instance (d:Nat) (a:cO):Decidable (aS d a):=by unfold aS;infer_instance
theorem TD {H:Hp} {a b c:Addr} {p q r s:Int} (d:H a=none) (e:upd H a (.tup [.int p,.int q]) b=none) (f:upd (upd H a (.tup [.int p,.int q])) b (.tup [.int r,.int s]) c=none):Pl (upd (upd (upd H a (.tup [.int p,.int q])) b (.tup [.int r,.int s])) c (.tup [.ref a,.ref b])) c [(p,q),(r,s)]/\Same H (upd (upd (upd H a (.tup [.int p,.int q])) b (.tup [.int r,.int s])) c (.tup [.ref a,.ref b])):=
 have u:=AL e _;have v:=AL f _
 ⟨⟨_,upd_same,⟨a,rfl,v _ _ (u _ _ upd_same)⟩,⟨b,rfl,v _ _ upd_same⟩,trivial⟩,(AL d _).trans (u.trans v)⟩
theorem tI (h:J9 K vs H Q E):yD K { nx:=λ_ m=>Q .non m,rt:=Q } (L2.start ["_law_state","_law_lines_here","_law_rows","_law_pool_here"] vs) H:=by
 obtain ⟨v,rfl,k⟩:=h;refine Bc (A5 (Jr ?_));refine ⟨_,rfl,_,rfl,sz ∅,λw hw=>⟨_,rfl,⟨_,SqT.of upd_same⟩,?_⟩⟩;have Y:(upd H w (.tup ([0,1,-1,2,-2,3].map V.int))) w=some (HO.tup ([0,1,-1,2,-2,3].map V.int)):=upd_same;have s1:=AL hw (.tup ([0,1,-1,2,-2,3].map V.int));show CompJ _ _ _ _ _ _ (upd H w (.tup ([0,1,-1,2,-2,3].map V.int)));generalize upd H w (.tup ([0,1,-1,2,-2,3].map V.int))=H1 at Y s1 ⊢;refine CompJ.tup (xs:=[0,1,-1,2,-2,3].map V.int) (λi j m=>i<=6/\Same H1 m/\Pts m j ((([0,1,-1,2,-2,3]:cO).take i).map λz=>rN (1,[-z,1]))) ⟨Ae _,Same.refl H1,trivial⟩ ?_ ?_ ?_
 ·rintro i j m ⟨hi,s,h⟩;exact ⟨hi,sz (by rw [h.len,AG,CC];omega),s _ _ Y⟩
 ·rintro i x j m hx ⟨hi,s,h⟩;rw [Ac] at hx;obtain ⟨z,hz,rfl⟩:=Et.mp hx;have lt:i<6:=(BF.mp hz).1;have z3:∀ z∈[(0:Int),1,-1,2,-2,3],z.natAbs<=3:=by decide
  have z9:=z3 z (Ay hz)
  have ok:aS 1 [-z,1]:=⟨rfl,∅,∅,by simp,λy hy=>by
   rcases A7.mp hy with rfl | hy
   ·omega
   ·rw [Ap.mp hy];decide⟩
  refine FH (BS ?_);refine ⟨_,rfl,_,rfl,Az,λa ha=>⟨a,[-z,1],rfl,upd_same,(show 2<=100 by decide),λr H2 Z P=>?_⟩⟩;have s3:=(AL ha (.lst [.int (-z),.int 1])).trans Z;refine ⟨lt,s.trans s3,?_⟩;rw [ES hz,Bq];exact (h.tp (C' s3)).snocR P ok
 ·rintro j m ⟨_,s,h⟩ u hu;obtain ⟨L,eL⟩:∃ L,L=(([0,1,-1,2,-2,3]:cO).map λz=>rN (1,[-z,1])):=⟨_,rfl⟩;have h:Pts m j L:=by rw [eL];exact h
  have e:L.length=6:=by rw [eL];rfl
  have Z:=AL hu (.lst j);have a0:(upd m u (.lst j)) u=some (HO.lst j):=upd_same;have h2:=h.tp (C' Z);have a4:=s1.trans (s.trans Z);have e6:L.length=6:=e;generalize upd m u (.lst j)=H2 at Z a0 h2 a4 ⊢;refine ⟨Az,λa1 g1=>⟨Az,λa2 M=>⟨Az,λA g3=>?_⟩⟩⟩;have N:=TD (p:=1) (q:=2) (r:=1) (s:=1) g1 M g3;generalize upd (upd (upd H2 a1 (.tup [.int 1,.int 2])) a2 (.tup [.int 1,.int 1])) A (.tup [.ref a1,.ref a2])=H5 at N ⊢;refine ⟨_,rfl,Az,λb1 i1=>⟨Az,λb2 i2=>⟨Az,λn i3=>⟨Az,λb4 i4=>?_⟩⟩⟩⟩;have O:=TD (p:=-2) (q:=3) (r:=1) (s:=1) i1 i2 i3;have t7:=AL i4 (.lst [.ref A,.ref n]);have B:=N.2.trans (O.2.trans t7);have N:=N.1.same (O.2.trans t7);have O:=O.1.same t7;have h4:=upd_same (H:=upd (upd (upd H5 b1 (.tup [.int (-2),.int 3])) b2 (.tup [.int 1,.int 1])) n (.tup [.ref b1,.ref b2])) (a:=b4) (o:=.lst [.ref A,.ref n]);generalize upd (upd (upd (upd H5 b1 (.tup [.int (-2),.int 3])) b2 (.tup [.int 1,.int 1])) n (.tup [.ref b1,.ref b2])) b4 (.lst [.ref A,.ref n])=H3 at N O B h4 ⊢;have P3:Pts H3 (j++[V.ref A,V.ref n]) (L++[(1,[(1,2),(1,1)]),(1,[(-2,3),(1,1)])]):=(h2.tp (C' B)).app ⟨⟨A,rfl,N⟩,TC.1,⟨n,rfl,O⟩,TC.2,trivial⟩;have e3:L++[(1,[((1:Int),(2:Int)),(1,1)]),(1,[(-2,3),(1,1)])]=poolN.take 8:=by rw [eL];rfl
  have l8:(L++[(1,[((1:Int),(2:Int)),(1,1)]),(1,[(-2,3),(1,1)])]).length=8:=by rw [Bw,e6];rfl
  generalize L++[(1,[((1:Int),(2:Int)),(1,1)]),(1,[(-2,3),(1,1)])]=L3 at P3 l8 e3;have a5:j.length=6:=h.len.trans e6;refine ⟨_,_,_,_,rfl,rfl,B _ _ a0,h4,sz (by rw [a5];exact (show 6+2<=1000000 by decide)),λf hf=>?_⟩;have s4:=AL hf (.lst (j++[V.ref A,V.ref n]));have R:(upd H3 f (.lst (j++[V.ref A,V.ref n]))) f=some (HO.lst (j++[V.ref A,V.ref n])):=upd_same;have P4:=P3.tp (C' s4);have a6:=(a4.trans B).trans s4;generalize upd H3 f (.lst (j++[V.ref A,V.ref n]))=H4 at R P4 a6 ⊢;clear P3 s4 N O t7 B h4 hf g1 M g3 i1 i2 i3 i4;generalize j++[V.ref A,V.ref n]=I at R P4;refine Bc ?_;refine (RowsT.cons (d:=2) [-2,0,1] (λ_ _ _ h=>⟨_,rfl,h⟩) ∅ (RowsT.cons (d:=2) [1,0,1] (λ_ _ _ h=>h) ∅ (RowsT.cons (d:=2) [1,1,1] (λ_ _ _ h=>h) ∅ (RowsT.cons (d:=2) [-3,0,1] (λ_ _ _ h=>⟨_,rfl,h⟩) ∅ (RowsT.cons (d:=2) [-1,1,1] (λ_ _ _ h=>⟨_,rfl,h⟩) ∅ (RowsT.cons (d:=2) [2,0,1] (λ_ _ _ h=>h) ∅ (RowsT.cons (d:=2) [-1,2,1] (λ_ _ _ h=>⟨_,rfl,h⟩) ∅ (RowsT.cons (d:=2) [3,1,1] (λ_ _ _ h=>h) ∅ RowsT.nil)))))))) _ _ _ λrs H5 s5 R5=>⟨sz (by rw [R5.len];decide),λg hg=>?_⟩;have s6:=AL hg (.lst rs);have S:(upd H5 g (.lst rs)) g=some (HO.lst rs):=upd_same;have R6:=Rws.same s6 R5;have a7:=s5.trans s6;generalize upd H5 g (.lst rs)=H6 at S R6 a7 ⊢;refine Bc (A5 (AN rfl (IS (AN rfl ⟨_,rfl,⟨_,SqL.of S⟩,S9 (xs:=rs) (b:=g) (λW h0 T hs hd=>CompJ.lst W h0 (λi j m w=>⟨(T i j m w).1,(T i j m w).2.1,SqL.of ((T i j m w).2.2 _ _ S)⟩) hs hd) R6 ∅ λc H7 w7 s7 P7 b5=>?_⟩))));have s8:=AL b5 (.lst c);have U:=a7.trans (s7.trans s8);have b6:=P7.len;have wl:=P4.len;refine ⟨_,_,_,_,rfl,rfl,U _ _ R,upd_same,sz (by rw [b6,wl,l8];exact (show 8+8<=1000000 by decide)),λf8 b9=>?_⟩;have s9:=AL b9 (.lst (I++c));have a8:(upd (upd H7 w7 (.lst c)) f8 (.lst (I++c))) f8=some (HO.lst (I++c)):=upd_same;have P9:Pts (upd (upd H7 w7 (.lst c)) f8 (.lst (I++c))) (I++c) (L3++List.map rN _):=(P4.tp (C' (U.trans s9))).app (P7.tp (C' (s8.trans s9)));have ab:=a6.trans (U.trans s9);generalize upd (upd H7 w7 (.lst c)) f8 (.lst (I++c))=H9 at a8 P9 ab ⊢;show RE K _ _ _;refine Bc (A5 (AN rfl (Jr ?_)));refine (RowsT.cons (d:=3) [-2,0,0,1] (λ_ _ _ h=>⟨_,rfl,h⟩) ∅ (RowsT.cons (d:=3) [1,1,0,1] (λ_ _ _ h=>h) ∅ (RowsT.cons (d:=3) [-1,-1,0,1] (λ_ _ _ h=>⟨_,rfl,_,rfl,h⟩) ∅ RowsT.nil))) _ _ _ λC ac ba ae=>⟨sz (by rw [ae.len];decide),λM bb=>?_⟩;have aj:=AL bb (.tup C);have D:(upd ac M (.tup C)) M=some (HO.tup C):=upd_same;have al:=Rws.same aj ae;have J:=ba.trans aj;generalize upd ac M (.tup C)=bf at D al J ⊢;refine ⟨_,rfl,⟨_,SqT.of D⟩,S9 (xs:=C) (b:=M) (λW h0 T hs hd=>CompJ.tup W h0 (λi j m w=>⟨(T i j m w).1,(T i j m w).2.1,(T i j m w).2.2 _ _ D⟩) hs hd) al ∅ λF bg bi bc am an=>?_⟩;have ao:=AL an (.lst F);have G:=J.trans (bc.trans ao);have ar:=am.len;have bd:=P9.len;refine ⟨_,_,_,_,rfl,rfl,G _ _ a8,upd_same,sz (by rw [bd,ar,Bw,l8];exact (show 8+8+3<=1000000 by decide)),λbe b0=>?_⟩;have X:=AL b0 (.lst (I++c++F));refine CU (AN rfl (k be (I++c++F) _ (ab.trans (G.trans X)) upd_same ?_));have P:=(P9.tp (C' (G.trans X))).app (am.tp (C' (ao.trans X)));rw [e3] at P;exact P
theorem Hm {a:TE} {b:L2.St} {H:Hp} {Q:cM->Hp->Prop} (h:a b H λx c=>Q [x] c):AB a AC b H Q:=h
theorem tJ {K:W.Frag} {c:TE} {capt:List (Option Nat)} {g:TG} {tc:TT} {d:TE} {b:L2.St} {H:Hp} {Q:VK} (h:c b H (λx e=>∃ a,x=.ref a/\(∃ f,SqL K e a f)/\CompF (ah K a) capt g tc d b Q e)):E8 (Bz K c) capt g tc d b H Q:=h
theorem Hn {H:Hp} {f:Addr} {ws vs:cM} (h:H f=some (.lst ws)):Tp H (upd H f (.lst vs)):=λb c a=>(Ad (FS a h (λz=>nomatch z))).trans a
theorem tK (L M:cE):sm (L++M)=sm L+sm M:=by unfold sm;rw [Bq,List.sum_append]
theorem tL (L:cE):W.kqdOk 8 (.list (L.map λq=>C9 q.2))=true:=by
 simp only [W.kqdOk,List.all_map];exact Dp.mpr λq _=>bW _ 5
theorem tM (L:cE):∀ e∈L.map (λq=>C9 q.2),W.kqdOk 8 e=true:=λe a=>by
 obtain ⟨q,_,rfl⟩:=AU.mp a;exact bW _ 6
theorem tO {a:Type} (P:Prop) (_:a):∃ b:Bool,b=true↔P:=by
 by_cases h:P
 ·exact ⟨true,λ_=>h,λ_=>rfl⟩
 ·exact ⟨false,(λz=>nomatch z),λz=>absurd z h⟩
theorem TF {H:Hp} {Q:VK} {w e:Addr} {ws:cM} {L:cE} (a:H w=some (.lst ws)) (P:Pts H ws L) (b:H e=some (.lst [])) (h:Q (.bl (!decide (L=[]))) H):aQ (.ref w) (.ref e) H Q:=by
 refine ⟨_,_,decide (L=[]),.lst a P.rep,.lst b .nil,tL L,∅,?_,h⟩;rw [decide_eq_true_eq];constructor
 ·rintro rfl;rfl
 ·intro z;have c:L.map (λq=>C9 q.2)=[]:=by injection z
  exact List.map_eq_nil_iff.mp c
theorem Stt.pn {H:Hp} {p a b:Addr} {n:Int} (h:Stt H p a n) (c:H b=none):b≠p/\b≠a:=by
 obtain ⟨_,_,_,hp,d,_⟩:=h;exact ⟨Ne.symm (BM hp c),Ne.symm (BM d c)⟩
theorem Stt.upd {H:Hp} {p a f:Addr} {n:Int} {o:HO} (h:Stt H p a n) (b:f≠p) (c:f≠a):Stt (upd H f o) p a n:=by
 obtain ⟨e,k,d,hp,g,r⟩:=h;exact ⟨e,k,d,(Ad (Ne.symm b)).trans hp,(Ad (Ne.symm c)).trans g,r⟩
theorem Iw:∀ q∈poolN,q.2.length=q.1+1/\q.1<=3:=by decide
theorem tP (h:Lo K vs H Q E):yM K { nx:=λ_ A=>Q .non A,rt:=Q } (L2.start ["_law_state","_law_many","_law_most","_law_pool_here","_law_found","_law_room","_law_k","_law_fits"] vs) H:=by
 obtain ⟨p,a,m,r,n,rfl,st,n9,m0,m4,r0,r6,k⟩:=h;refine IP (AN rfl ⟨_,rfl,λpl ps H1 s1 I P1=>?_⟩);have am:poolN.length=19:=rfl;refine ⟨sz ∅,λf hf=>?_⟩;have s2:=AL hf (.lst []);have a0:(upd H1 f (.lst [])) f=some (HO.lst []):=upd_same;have B:=s2 _ _ I;have S:=(st.same s1).same s2;have P2:=P1.tp (C' s2);have a1:=s1.trans s2;have f0:H f=none:=s1.free hf;have nf:f≠p/\f≠a:=(st.same s1).pn hf;have ab:pl≠f:=BM I hf;generalize upd H1 f (.lst [])=H2 at a0 B S P2 a1 ⊢;have ac:pl≠p:=by obtain ⟨_,_,_,hp,_⟩:=S;exact FS B hp (λz=>nomatch z)
 refine ⟨_,rfl,?_⟩;refine ⟨_,rfl,_,rfl,⋯,⋯,?_⟩;have al:=P2.len;by_cases a2:pl=a
 ·exact absurd a2 (by
   obtain ⟨_,_,_,_,ha,_⟩:=st.same s1;intro z;rw [z,ha] at I;obtain ⟨v0,T⟩:∃ v,ps[0]?=some v:=⟨ps[0]'⋯,Aj ⋯⟩;obtain ⟨q0,_,⟨b0,e0,_⟩,_⟩:=P1.get T;have e1:=pE I;injection e1 with e1;rw [<-e1,e0,Ac] at T;obtain ⟨y,_,J⟩:=Et.mp T;exact nomatch J)
 refine ForR.by (λi σ A=>∃ (O:Int) (c6 c7:cN) (U:Int) (P:cM) (L:cE),σ=[some (.ref p),some (.int m),some (.int r),some (.ref pl),some (.ref f),some (.int O),c6,c7]/\A pl=some (.lst ps)/\Pts A ps poolN/\A f=some (.lst P)/\Pts A P L/\(sm L:Int)+O<=r/\0<=O/\(∀ q∈L,q∈poolN)/\(L.map λq=>q.2).Nodup/\L.length<=i/\U<=n+i/\Stt A p a U/\Kpa p a H A) ⟨r,none,none,n,[],[],rfl,B,P2,a0,trivial,by show ((0:Nat):Int)+r<=r;omega,r0,(λ_ h=>nomatch h),List.nodup_nil,AO _,⋯,S,Kpa.of a1⟩ ?_ ?_
 ·rintro i σ H3 hi ⟨O,c6,c7,U,P,L,rfl,u,P3,C,PW,sl,a3,q3,nd,li,ni,M,k3⟩;refine Bc (tJ (AN rfl ⟨_,rfl,⟨_,SqL.of u⟩,CompF.lst (xs:=ps) (λj G A=>j<=ps.length/\H3=A/\∃ D,Pts H3 G D/\(∀ q∈D,q∈poolN/\q.2.length=q.1+1/\(q.1:Int)<=O/\q.2∉L.map λq=>q.2)/\D.length<=j) ⟨Ae _,rfl,[],trivial,(λ_ h=>nomatch h),AO _⟩ ?_ ?_ ?_⟩))
  ·rintro j G A ⟨hj,rfl,D,h,_,e⟩;exact ⟨hj,sz (by rw [h.len];omega),SqL.of u⟩
  ·rintro j x G A hx ⟨hj,rfl,D,h,eF,e⟩;have lt:j<ps.length:=(BF.mp hx).1;obtain ⟨q,hq,⟨b,rfl,zs,hz,hN⟩,pt⟩:=P3.get hx;obtain ⟨ql,qm⟩:=Iw q (Ay hq);have zl:=hN.length;refine FH (Cv (A5 (BS (AN rfl ⟨_,_,rfl,hz,AN rfl ⟨_,_,rfl,rfl,_,rfl,Am (λc=>?_) (λc=>?_)⟩⟩))))
   ·obtain ⟨bb,a4⟩:=tO (C9 q.2∈L.map λq=>C9 q.2) Unit.unit;refine Cv (A5 (AN rfl (AN rfl ⟨_,_,_,_,bb,rfl,C,IO hz hN,PW.rep,bW _ 6,tM L,a4,_,rfl,Am (λc2=>?_) (λc2=>?_)⟩)))
    ·refine AN rfl ⟨lt,rfl,D++[q],h.app ⟨⟨b,rfl,zs,hz,hN⟩,pt,trivial⟩,λy J=>?_,by rw [Bw];exact Nat.succ_le_succ e⟩;rcases CK.mp J with d | d
     ·exact eF y d
     ·rw [Ap.mp d];have:=qW c
      exact ⟨Ay hq,ql,⋯,λz=>by
       have z1:C9 q.2∈L.map λq=>C9 q.2:=by
        obtain ⟨y,J,e⟩:=AU.mp z;exact AU.mpr ⟨y,J,by rw [e]⟩
       rw [a4.mpr z1] at c2;exact absurd c2 ∅⟩
    ·exact ⟨lt,rfl,D,h,eF,Nat.le_succ_of_le e⟩
   ·exact ⟨lt,rfl,D,h,eF,Nat.le_succ_of_le e⟩
  ·rintro G A ⟨_,rfl,D,PF,EF,lF⟩ w hw;have s4:=AL hw (.lst G);have a5:(upd H3 w (.lst G)) w=some (HO.lst G):=upd_same;have nw:w≠p/\w≠a:=M.pn hw;have an:f≠w:=BM C hw;have ao:pl≠w:=BM u hw;generalize upd H3 w (.lst G)=H4 at s4 a5 ⊢;refine ⟨_,rfl,sz ∅,λe he=>?_⟩;have s5:=AL he (.lst []);have a6:(upd H4 e (.lst [])) e=some (HO.lst []):=upd_same;have g:=s4.trans s5;have N:=s5 _ _ a5;generalize upd H4 e (.lst [])=H5 at s5 a6 g N ⊢;have W:=PF.tp (C' g);have X:=g _ _ C;have R:=g _ _ u;have Y:=M.same g;have k5:=k3.same g;refine TF N W a6 ⟨_,rfl,Am (λc=>?_) (λc=>?_)⟩
   ·have F0:D≠[]:=by simpa using c
    have yl:=W.len
    have y1:1<=G.length:=by
     have:0<D.length:=Bk.mpr F0;omega
    refine ⟨_,rfl,.inl ⟨rfl,_,SqL.of X⟩,Hm (A5 (AN rfl (Bb (AN rfl (Eh (AN rfl ⟨_,_,rfl,N,Em Y ⋯ ⋯ ⋯ λd H6 d0 d1 ae k6=>?_⟩))))))⟩;have Z:=k6.tp Y;have aj:=k6 _ _ nw.1 nw.2 N;have a7:=k6 _ _ nf.1 nf.2 X;have a8:=k6 _ _ ac a2 R;have dk:d.toNat<G.length:=by omega
    obtain ⟨q,hq,⟨b,e1,Pb⟩,pt⟩:=(W.tp Z).get (Aj dk);obtain ⟨zs,hz,hN⟩:=Pb;have zl:=hN.length;obtain ⟨qm,ql,qr,qn⟩:=EF q (Ay hq);refine ⟨_,_,_,V.ref b,rfl,rfl,aj,Ck (j:=d.toNat) (Int.toNat_of_nonneg d0).symm (by rw [Aj dk,e1]),?_⟩;have wl:=PW.len;refine ⟨_,_,_,rfl,rfl,a7,CA (by omega:P.length<1000000) (sz (AO _)),?_⟩;have F:Tp H6 (upd H6 f (.lst (P++[V.ref b]))):=Hn a7;refine ⟨_,rfl,_,rfl,_,rfl,_,_,_,_,rfl,rfl,upd_same,L2.atI_last ..,_,_,rfl,F _ _ hz,_,_,rfl,rfl,?_⟩;refine ⟨_,_,_,U+1,_,L++[q],rfl,(Ad ab).trans a8,((P3.tp (C' g)).tp Z).tp F,upd_same,(((PW.tp (C' g)).tp Z).tp F).app ⟨⟨b,rfl,zs,F _ _ hz,hN.tp F⟩,pt,trivial⟩,?_,⋯,λy J=>?_,?_,by rw [Bw];exact Nat.succ_le_succ li,⋯,ae.upd nf.1 nf.2,λc o h1 h2 hc=>(Ad (BM hc f0)).trans ((k5.trans k6) c o h1 h2 hc)⟩
    ·rw [tK];show (((sm L+(q.1+0):Nat)):Int)+(O - ((zs.length:Int) - 1))<=r;omega
    ·rcases CK.mp J with c | c
     ·exact q3 y c
     ·rw [Ap.mp c];exact qm
    ·rw [Bq];refine List.nodup_append.mpr ⟨nd,Cm.mpr ⟨DZ,List.nodup_nil⟩,λx hx y J e=>?_⟩;rw [Ap.mp J] at e;exact qn (show q.2∈_ by rw [show q.2=x from e.symm];exact hx)
   ·exact ⟨O,_,_,U,P,L,rfl,R,P3.tp (C' g),X,PW.tp (C' g),sl,a3,q3,nd,Nat.le_succ_of_le li,⋯,Y,k5⟩
 ·rintro σ H3 ⟨O,c6,c7,U,P,L,rfl,u,P3,C,PW,sl,a3,q3,nd,li,ni,M,k3⟩;exact CU (AN rfl (k f P L U H3 f0 C PW ⋯ q3 nd ⋯ ⋯ M k3))
theorem TH {b:TA} {capt:List (Option Nat)} {g:TG} {c:TE} {a:L2.St} {H:Hp} {Q:VK} (h:b a H (λvs d=>∃ j:Int,vs=[.int j]/\-(2 ^ 62)<=j/\j<2 ^ 62/\CompJ (av 0 j.toNat) capt g c a Q d)):BH (Eb b) capt g c a H Q:=h
theorem Kpa.fr {H b:Hp} {p a f:Addr} {n:Int} (k:Kpa p a H b) (s:Stt b p a n) (h:b f=none):H f=none:=by
 obtain ⟨c,d⟩:=s.pn h;cases e:H f with
 | none=>rfl
 | some o=>exact nomatch (k f o c d e).symm.trans h
noncomputable def aB (d n:Nat):cE:=(List.range n).map λk=>poolN.getD ((d+k) % 8) (0,[])
theorem TJ (d n:Nat):(aB d n).length=n:=by unfold aB;rw [AG,Bj]
theorem tQ (d n:Nat):aB d (n+1)=aB d n++[poolN.getD ((d+n) % 8) (0,[])]:=by unfold aB;rw [List.range_succ,Bq];rfl
theorem tR (d:Nat) (a:d<8) (n:Nat) (b:n<8):(∀ q∈aB d n,q∈poolN)/\((aB d n).map λq=>q.2).Nodup/\sm (aB d n)<=7:=
 have h:∀ (d n:Fin 8),(∀ q∈aB d.1 n.1,q∈poolN)/\((aB d.1 n.1).map λq=>q.2).Nodup/\sm (aB d.1 n.1)<=7:=by decide +kernel
 h ⟨d,a⟩ ⟨n,b⟩
theorem tS (h:Lq K vs H Q E):yP K { nx:=λ_ o=>Q .non o,rt:=Q } (L2.start ["_law_state","_law_lines_here","_law_first"] vs) H:=by
 obtain ⟨p,a,n,rfl,G,n9,k⟩:=h;refine Bc ?_;refine BS (AN rfl ⟨_,rfl,λpl ps I s1 A J=>⟨_,rfl,_,_,rfl,A,λw L=>?_⟩⟩);have U:ps.length=19:=J.len;have W:CQ ps none (some 8)=ps.take 8:=Jq (m:=8) ⋯;rw [W];have M:=AL L (.lst (ps.take 8));have u:(upd I w (.lst (ps.take 8))) w=some (HO.lst (ps.take 8)):=upd_same;have N:w≠p/\w≠a:=(G.same s1).pn L;have c:=s1.trans M;have O:=J.tp (C' M);generalize upd I w (.lst (ps.take 8))=H2 at u c O ⊢;have v:=G.same c;refine DL (AN rfl (N_ (Em v ⋯ ∅ ∅ λd H3 d0 d1 B X=>?_)));refine CU (TH (Hm (A5 (N_ (Bb (AN rfl (N_ (Em B ⋯ ∅ ∅ λe P e0 e1 x Y=>IR ⟨_,rfl,⋯,⋯,?_⟩))))))));have g:=X.trans Y;have C:=g _ _ N.1 N.2 u;have Z:=O.tp (g.tp v);refine CompJ.range (λi r o=>i<=(6+e).toNat/\P=o/\Pts P r (aB d.toNat i)) ⟨Ae _,rfl,trivial⟩ ?_ ?_ ?_
 ·rintro i r o ⟨D,rfl,h⟩;exact ⟨D,sz (by rw [h.len,TJ];omega)⟩
 ·rintro i r o D ⟨_,rfl,h⟩;have R:=CN (d+(0+(i:Int))) (show (8:Int)≠0 by decide);have j1:=Cc (d+(0+(i:Int))) (show (0:Int)<8 by decide);refine FH (A5 (AN rfl (A5 (A5 (AN rfl (AN rfl (IR (N_ ⟨_,_,rfl,rfl,(show (0:Int)<8 by decide),?_⟩))))))));obtain ⟨y,z⟩:∃ y,y=(d+(0+(i:Int))) % 8:=⟨_,rfl⟩;rw [<-z] at R j1;have S:y.toNat<ps.length:=by omega
  obtain ⟨q,hq,⟨b,e2,Pb⟩,pt⟩:=Z.get (Aj S);refine ⟨_,_,_,V.ref b,rfl,rfl,C,Ck (j:=y.toNat) (z.symm.trans (Int.toNat_of_nonneg R).symm) ?_,D,rfl,?_⟩
  ·rw [List.getElem?_take,qU ⋯,Aj S,e2]
  ·rw [tQ,show (d.toNat+i) % 8=y.toNat by omega,AT,hq];exact h.app ⟨⟨b,rfl,Pb⟩,pt,trivial⟩
 ·rintro r o ⟨_,rfl,h⟩ f T;have F:=AL T (.lst r);obtain ⟨o1,o2,o3⟩:=tR d.toNat ⋯ (6+e).toNat ⋯;exact k f r _ _ (((Kpa.of c).trans g).fr x T) upd_same (h.tp (C' F)) o1 o2 o3 (by rw [TJ];omega) ((x.same F).mono ⋯) (((Kpa.of c).trans g).same F)
theorem tT {b:cI} (h:∀ q∈b,Sn q):Gq 15 3 (trim b):=by
 refine ⟨λq a=>(h q (DJ a)).1,FC b,6,⟨∅,λq a=>?_⟩,(show Bd 3 6 by unfold Bd;decide),λz e=>?_⟩
 ·obtain ⟨d,_,f⟩:=h q (DJ a);have g:=d.pos;have c:q.2=1\/q.2=2\/q.2=3:=by omega
  rcases c with c | c | c <;> rw [c] <;> decide
 ·obtain ⟨q,a,rfl⟩:=AU.mp e;obtain ⟨d,i,f⟩:=h q (DJ a);have g:=d.pos;have c:q.2=1\/q.2=2\/q.2=3:=by omega
  unfold Bd;rw [CF];have j:(6 / q.2).natAbs<=6:=by rcases c with c | c | c <;> rw [c] <;> decide
  exact Nat.lt_of_le_of_lt (Ex i j) ∅
theorem fr6 {K:W.Frag} {i H:Hp} {Q:VK} {p a j b:Addr} {u v:cN} {ys:cM} {c m:cI} {n:Int} (w:Kpa p a i H) (st:Stt H p a n) (x:H j=some (.lst ys)) (y:Nums H ys c) (A:∀ q∈c,Sn q) (N:c.length<=3) (P:Pl H b m) (G:Gq 18 6 m) (f:m≠[]) (h:m.length<=4)
  (k:∀ t T B d,FF d t T B->Rp 24 3 4 T B->Stt d p a n->Kpa p a i d->Q (.ref t) d):RI K { nx:=λ_ d=>Q .non d,rt:=Q } [some (.ref p),u,some (.ref j),some (.ref b),v] H:=by
 refine CU (Bb (BS (AN rfl ⟨_,_,c,rfl,x,y,⋯,λr C O s1 D F=>AN rfl ?_⟩)));have g:=tT A;have R:=FE c;refine ⟨_,_,trim c,m,18,58,3,4,3,rfl,⟨C,D,F⟩,P.same s1,g.mono ∅ ∅,G.mono ∅ ∅,f,⋯,h,λz=>(Ir g z (n:=3) (e:=3) ⋯ ∅).mono ∅,(Ir G f (n:=4) (e:=3) h ∅).mono ∅,∅,∅,λt I T B o J L M=>?_⟩;exact k t T B I J (Rp.of L g G f ⋯ h M ∅ ∅) ((st.same s1).same o) ((w.same s1).same o)
theorem bO {K:W.Frag} {e H:Hp} {Q:VK} {p a f b:Addr} {v:cN} {ys:cM} {d m:cI} {n x:Int} (g:Kpa p a e H) (st:Stt H p a n) (h:H f=some (.lst ys)) (i:Nums H ys d) (j:∀ q∈d,Sn q) (u:d.length<=3) (P:Pl H b m) (G:Gq 18 6 m) (y:m≠[]) (z:m.length<=4)
  (k:∀ t T B c,FF c t T B->Rp 24 3 4 T B->Stt c p a n->Kpa p a e c->Q (.ref t) c):RJ K { nx:=λ_ c=>Q .non c,rt:=Q } [some (.ref p),v,some (.ref f),some (.ref b),some (.int x)] H:=by
 refine Ei (Cv (A5 (AN rfl (N_ ⟨rfl,_,rfl,Am (λ_=>?_) (λ_=>?_)⟩))))
 ·refine IT (BS ?_);refine ⟨_,rfl,Az,λw A=>⟨w,[-3,1],rfl,upd_same,(show 2<=100 by decide),λr D s1 C=>?_⟩⟩;have s:=(AL A (.lst [.int (-3),.int 1])).trans s1;have o:=Ma (show aS 1 [-3,1] by decide);exact fr6 (g.same s) (st.same s) (s _ _ h) (i.tp (C' s)) j u C (o.g.mono ∅ ∅) o.ne (show 2<=4 by decide) k
 ·exact fr6 g st h i j u P G y z k
theorem fr4 {K:W.Frag} {i H:Hp} {Q:VK} {p a j b:Addr} {D:cN} {ys:cM} {f m:cI} {n F:Int} (u:Kpa p a i H) (st:Stt H p a n) (v:H j=some (.lst ys)) (x:Nums H ys f) (y:∀ q∈f,Sn q) (A:f.length<=3) (P:Pl H b m) (G:Gq 18 6 m) (I:m≠[]) (J:m.length<=4)
  (k:∀ t T B d,FF d t T B->Rp 24 3 4 T B->Stt d p a n->Kpa p a i d->Q (.ref t) d):RK K { nx:=λ_ d=>Q .non d,rt:=Q } [some (.ref p),D,some (.ref j),some (.ref b),some (.int F)] H:=by
 refine Ei (Cv (A5 (AN rfl (N_ ⟨rfl,_,rfl,Am (λ_=>?_) (λ_=>?_)⟩))))
 ·refine IT (Bb (BS ?_));refine ⟨Az,λw L=>⟨w,[1,1],rfl,upd_same,(show 2<=100 by decide),λr H1 s1 M=>?_⟩⟩;refine BS ?_;refine ⟨Az,λN e=>⟨N,[1,1],rfl,upd_same,(show 2<=100 by decide),λr2 H2 C O=>?_⟩⟩;have s:=((AL L (.lst [.int 1,.int 1])).trans s1).trans ((AL e (.lst [.int 1,.int 1])).trans C);have g:=(AL e (.lst [.int 1,.int 1])).trans C;have o:=Ma (show aS 1 [1,1] by decide);obtain ⟨S,U,X⟩:=M.same g;obtain ⟨Y,Z,n2⟩:=O;refine ⟨_,_,S,Y,_,_,2,2,2,2,rfl,U,Z,X,n2,o.g,o.g,(show 2<=100 by decide),(show 2<=100 by decide),∅,∅,∅,∅,λr3 R H3 s3 P3 G3 h e3=>?_⟩;have c:=s.trans s3;have R0:R≠[]:=λz=>Sr.ne_mul (Af _) (Af _) (DO o.g.low o.g.nz o.ne) (DO o.g.low o.g.nz o.ne) (by rw [<-Cl e3,z];exact KW);exact bO (u.same c) (st.same c) (c _ _ v) (x.tp (C' c)) y A P3 (G3.mono (show 2+2+2<=18 by decide) ∅) R0 (BT h (show 2+2 - 1<=4 by decide)) k
 ·exact bO u st v x y A P G I J k
theorem tU (h:KA K vs H Q E):yV K { nx:=λ_ f=>Q .non f,rt:=Q } (L2.start ["_law_state","_law_parts","_law_top","_law_bottom","_law_kind"] vs) H:=by
 obtain ⟨p,a,l,ws,L,n,rfl,st,n9,hl,PL,q3,l7,Y,Z,k⟩:=h;refine Bc (TH (Hm (A5 (N_ (Bb (AN rfl (N_ (Em st ⋯ ∅ ∅ λe H1 e0 e1 a0 k1=>IR ⟨_,rfl,⋯,⋯,?_⟩))))))));refine CompJ.range (λi x f=>i<=(1+e).toNat/\∃ A,Nums f x A/\(∀ q∈A,Sn q)/\A.length=i/\Stt f p a (n+1+3*i)/\Kpa p a H f) ⟨Ae _,[],trivial,(λ_ h=>nomatch h),rfl,a0.mono ⋯,k1⟩ ?_ ?_ ?_
 ·rintro i x f ⟨hi,A,h,_,e,_⟩;exact ⟨hi,sz (by rw [h.length];omega)⟩
 ·rintro i x H2 hi ⟨_,A,h,M,el,m,k2⟩;refine FH (BS (AN rfl (KJ m ⋯ λr t d H3 hr lo t1 d1 o I=>⟨hi,A++[(t,d)],(h.tp (I.tp m)).append (Nums.one ⟨r,rfl,hr⟩),λq v=>?_,by rw [Bw,el];rfl,o.mono ⋯,k2.trans I⟩)));rcases CK.mp v with c | c
  ·exact M q c
  ·rw [Ap.mp c];exact ⟨lo,t1,d1⟩
 ·rintro x H2 ⟨_,A,hN,M,el,m,k2⟩ N O;have s3:=AL O (.lst x);have y:(upd H2 N (.lst x)) N=some (HO.lst x):=upd_same;have nt:N≠p/\N≠a:=m.pn O;have o:=m.same s3;have I:=k2.same s3;have P:=hN.tp (C' s3);generalize upd H2 N (.lst x)=H3 at y o I P ⊢;refine Bc (LW (Bv (N_ (N_ ⟨Az,λu hu=>⟨C8,λb hb=>?_⟩⟩))));have J:=(AL hu (.tup [.int 1,.int 1])).trans (AL hb (.tup [.ref u]));have Pb:Pl (upd (upd H3 u (.tup [.int 1,.int 1])) b (.tup [.ref u])) b [(1,1)]:=⟨_,upd_same,⟨u,rfl,AL hb _ _ _ upd_same⟩,trivial⟩;generalize upd (upd H3 u (.tup [.int 1,.int 1])) b (.tup [.ref u])=H4 at J Pb ⊢;have R:=o.same J;refine DL (AN rfl (N_ (Em R ⋯ ∅ ∅ λkd H5 _ _ C X=>?_)));have D:=X.tp R;have F:=X _ _ nt.1 nt.2 (J _ _ y);have G:=(P.tp (C' J)).tp D;have w:=(I.same J).trans X;have l5:=w _ _ Y Z hl;have one:Gq 18 6 [((1:Int),(1:Int))]:=⟨λq v=>by rw [Ap.mp v];exact Hi,λq v=>by obtain rfl:(1,1)=q:=pE v;decide,1,⟨∅,λq v=>by rw [Ap.mp v];exact Int.dvd_refl _⟩,(show Bd 6 1 by unfold Bd;decide),λz hz=>by rw [show z=1 from Ap.mp hz];unfold Bd;decide⟩;have P5:=PL.tp ((I.same J).trans X |>.tp st);refine Ei ?_;refine Cv (A5 (AN rfl (N_ ⟨rfl,_,rfl,Am (λ_=>?_) (λ_=>?_)⟩)))
  ·refine Cv (A5 (AN rfl ⟨sz ∅,λe6 a1=>?_⟩));have g:=AL a1 (.lst []);have P6:=P5.tp (C' g);refine TF (g _ _ l5) P6 upd_same ⟨_,rfl,Am (λc=>?_) (λc=>?_)⟩
   ·have L0:L≠[]:=by simpa using c
    have wl:=P6.len;have w1:0<ws.length:=by rw [wl];exact Bk.mpr L0
    obtain ⟨q,v,⟨b',e',a2⟩,pt⟩:=P6.get (Aj w1);have d3:=q3 q (Ay v);have ql:=pt.len;refine IT (A5 (AN rfl (N_ ⟨_,_,_,V.ref b',rfl,rfl,g _ _ l5,Ck (j:=0) rfl (by rw [Aj w1,e']),?_⟩)));exact fr4 (w.same g) (C.same g) (g _ _ F) (G.tp (C' g)) M ⋯ a2 (pt.g.mono ⋯ ⋯) pt.ne ⋯ λt T B f S U y W=>k t T B _ f S U ⋯ y W
   ·exact fr4 (w.same g) (C.same g) (g _ _ F) (G.tp (C' g)) M ⋯ ((Pb.tp D).same g) one (by simp) (show 1<=4 by decide) λt T B f S U y W=>k t T B _ f S U ⋯ y W
  ·exact fr4 w C F G M ⋯ (Pb.tp D) one (by simp) (show 1<=4 by decide) λt T B f S U y W=>k t T B _ f S U ⋯ y W
theorem D4 (φ:Rat->Rat->Bool) (f g:Rat->Rat->Rat):∀ R,Sr.Pi φ (mp f g R)=Sr.Pi (λa b=>φ (f a b) (g a b)) R
 | []=>rfl
 | q::R=>by
   show (if φ (f q.1 q.2.1) (g q.1 q.2.1)=true then q.2.2 else 1)*Sr.Pi φ (mp f g R)=_;rw [D4 φ f g R];rfl
theorem Pts2.mp {R:cK} (h:Pts2 R) (f g:Rat->Rat->Rat) (b:∀ q∈R,Nb (f q.1 q.2.1)):Pts2 (Bs.mp f g R):=
 ⟨⟨λq a=>by obtain ⟨p,hp,rfl⟩:=AU.mp a;exact h.pr.ms p hp,EA.mpr h.pr.cs⟩,λc=>by rw [D4];exact h.sz _,λq a=>by obtain ⟨p,hp,rfl⟩:=AU.mp a;exact b p hp,by unfold Bs.mp;rw [AG];exact h.len⟩
theorem tV (R:cK) (c:Rat):Sr.W (R.map λq=>(q.1,q.2.2)) c=Sr.wa R c:=by
 induction R with
 | nil=>rfl
 | cons q R a=>
   show (if q.1=c then q.2.2 else 1)*Sr.W (R.map λq=>(q.1,q.2.2)) c=(if decide (q.1=c)=true then q.2.2 else 1)*Sr.wa R c;rw [a];congr 1;by_cases h:q.1=c
   ·rw [qU h,qU (qV h)]
   ·rw [qT h,qT (by simpa using h)]
theorem tW {L A B:cL} (h:Sr.Gth L A) (p:A.Perm B):Sr.Gth L B:=⟨(p.map (·.1)).nodup_iff.mp h.nd,λq a=>h.at' q (p.mem_iff.mpr a),λc b d=>let ⟨q,a,e⟩:=h.all c b d;⟨q,p.mem_iff.mp a,e⟩⟩
theorem Nb.low {q:Nu} (h:Nb (val q)) (l:Low q.1 q.2):Bd 40 q.1/\Bd 40 q.2:=by
 obtain ⟨t,d,a,e,b,c⟩:=h;have w:=II (CT a) a (Fg (n:=t) a);have:Y_ t d=q:=DK (CT a) l ((HJ a).trans e);rw [<-this];exact ⟨b.le w.1,c.le w.2⟩
theorem TK {d:Type}:∀ {l m:List d},l.Nodup->(∀ x∈l,x∈m)->l.length<=m.length
 | [],_,_,_=>Ae _
 | a::l,m,e,h=>by
   obtain ⟨s,t,rfl⟩:=List.append_of_mem (h a (BL ..));obtain ⟨f,g⟩:=Cm.mp e
   have:=TK (m:=s++t) g λx b=>by
    rcases CK.mp (h x (BW _ b)) with c | c
    ·exact F2 _ c
    ·rcases A7.mp c with c | c
     ·exact absurd (c ▸ b) f
     ·exact Cz _ c
   rw [Bw] at this;rw [CO,Bw,CO];omega
theorem Ix {R:cK} {M:cD} (P:Pts2 R) (o:LgO M) (h:Sr.Can (Sr.wa R) (lv M)):(∀ q∈M,Gq 100 100 q.2/\q.2.length<=8/\(∃ n,Sr.Ms (n+1) (sr q.2))/\Bd 40 q.1.1/\Bd 40 q.1.2/\val q.1≠0/\sr q.2=Sr.wa R (val q.1))/\M.length<=7:=by
 have j:∀ q∈M,val q.1≠0/\sr q.2=Sr.wa R (val q.1)/\sr q.2≠1/\∃ p∈R,p.1=val q.1:=λq d=>by
  obtain ⟨a,b,c⟩:=h.nz (val q.1,sr q.2) (AU.mpr ⟨q,d,rfl⟩);refine ⟨a,b,c,Classical.byContradiction λz=>c ?_⟩;rw [b];exact Sr.Pi.none λp hp=>by simpa using λe=>z ⟨p,hp,e⟩
 refine ⟨λq d=>?_,?_⟩
 ·obtain ⟨v,e,k,p,hp,g⟩:=j q d;obtain ⟨f,l2,w⟩:=o q d;obtain ⟨l,y,G,A⟩:=P.sz (λa _=>decide (a=val q.1));have r:l=q.2:=Gn G.low l2 G.nz w (y.trans e.symm);obtain ⟨n,m,z⟩:=Sr.Pi.ms (λa _=>decide (a=val q.1)) P.pr;have u:=Nb.low (g ▸ P.na p hp) f;refine ⟨r ▸ G,r ▸ A,?_,u.1,u.2,v,e⟩;cases n with
  | zero=>exact absurd (z rfl p hp) (by simpa using g)
  | succ n=>exact ⟨n,by rw [e];exact m⟩
 ·have k:=h.nodup
  have f:=TK (m:=R.map (·.1)) k λx i=>by
   unfold lv at i;rw [BX] at i;obtain ⟨q,d,rfl⟩:=AU.mp i;obtain ⟨_,_,_,p,hp,g⟩:=j q d;exact AU.mpr ⟨p,hp,g⟩
  unfold lv at f;rw [AG,AG,AG] at f;exact BT f P.len
theorem TM:∀ {M N:cD},LgO M->LgO N->lv M=lv N->M=N
 | [],[],_,_,_=>rfl
 | [],_::_,_,_,h=>nomatch h
 | _::_,[],_,_,h=>nomatch h
 | p::M,q::N,b,c,h=>by
   injection h with d e;injection d with f g;obtain ⟨i,j,k⟩:=b p (BL ..);obtain ⟨m,n,o⟩:=c q (BL ..);rw [show p=q from Prod.ext (DK i m f) (Gn j n k o g),TM (λx a=>b x (BW _ a)) (λx a=>c x (BW _ a)) e]
theorem LgO.app {M N:cD} (h:LgO M) (k:LgO N):LgO (M++N):=λq a=>(CK.mp a).elim (h q) (k q)
theorem Lg.same {H d:Hp} {l:Addr} {M:cD} (h:Lg H l M) (s:Same H d):Lg d l M:=let ⟨e,a,b,c⟩:=h;⟨e,s _ _ a,b.tp (C' s),c⟩
structure Sq (k:Nat) (l:cI):Prop where
 g:Gq (220*k) (100*k) l
 len:l.length<=7*k+1
theorem Sq.one {l:cI} (g:Gq 100 100 l) (len:l.length<=8):Sq 1 l:=⟨g.mono ∅ ∅,len⟩
theorem Sq.mono {j k:Nat} {l:cI} (h:Sq j l) (i:j<=k):Sq k l:=⟨h.g.mono ⋯ ⋯,by have:=h.len;omega⟩
theorem Sq.mul {k:Nat} {l v R:cI} (h:Sq k l) (a:k<=15) (lv:v.length<=8) (G:Gq (220*k+100+l.length) (100*k+100) R) (len:R.length<=l.length+v.length - 1):Sq (k+1) R:=by
 have:=h.len;exact ⟨G.mono ⋯ ⋯,⋯⟩
noncomputable def ky (c:Nu):List E_:=[.inl c.1,.inl c.2]
noncomputable def kE (E:cF):List (List E_×V):=E.map λq=>(ky q.1,V.ref q.2.1)
noncomputable def dE (E:cF):cL:=E.map λq=>(val q.1,sr q.2.2)
theorem Mb {c d:Nu} (h:ky c=ky d):c=d:=by
 injection h with b a;injection a with a _;injection b with b;injection a with a;exact Prod.ext b a
theorem TN (c:Nu) (E:cF):(FA (kE E) (ky c)=none/\∀ q∈E,q.1≠c)\/∃ q∈E,q.1=c/\FA (kE E) (ky c)=some (.ref q.2.1):=by
 induction E with
 | nil=>exact .inl ⟨rfl,λ_ h=>nomatch h⟩
 | cons q E d=>
   unfold FA kE;rw [CD,List.find?_cons];by_cases e:q.1=c
   ·refine .inr ⟨q,BL ..,e,?_⟩;rw [qV (congrArg ky e)];rfl
   ·rw [qX λz=>e (Mb z)];rcases d with ⟨a,b⟩ | ⟨p,hp,a,b⟩
    ·refine .inl ⟨a,λp hp=>?_⟩;rcases A7.mp hp with c | c
     ·rw [c];exact e
     ·exact b p c
    ·exact .inr ⟨p,BW _ hp,a,b⟩
theorem any_kE {c:Nu} {E:cF}:((kE E).any (λb=>b.1=ky c)=true)↔∃ q∈E,q.1=c:=by
 rw [List.any_eq_true];constructor
 ·rintro ⟨x,d,e⟩;obtain ⟨q,a,rfl⟩:=AU.mp d;exact ⟨q,a,Mb (qW e)⟩
 ·rintro ⟨q,a,e⟩;exact ⟨_,AU.mpr ⟨q,a,rfl⟩,qV (congrArg ky e)⟩
theorem tX {E:cF} {c:Nu} {r:Addr} (R:cI) (h:∀ q∈E,q.1≠c):EJ (kE E) (ky c) (.ref r)=kE (E++[(c,r,R)]):=by
 unfold EJ;rw [qT λz=>let ⟨q,a,e⟩:=any_kE.mp z;h q a e];unfold kE;rw [Bq];rfl
theorem tY {E:cF} {c:Nu} {r:Addr} (R:cI) (h:∃ q∈E,q.1=c):EJ (kE E) (ky c) (.ref r)=kE (E.map λq=>if q.1=c then (q.1,r,R) else q):=by
 unfold EJ;rw [qU (any_kE.mpr h)];unfold kE;rw [BX,BX];refine Cf λq _=>?_;show (if ky q.1=ky c then (ky q.1,V.ref r) else (ky q.1,V.ref q.2.1))=(ky (if q.1=c then (q.1,r,R) else q).1,V.ref (if q.1=c then (q.1,r,R) else q).2.1);by_cases e:q.1=c
 ·rw [qU (congrArg ky e),qU e]
 ·rw [qT λz=>e (Mb z),qT e]
def EnO (H:Hp) (k:Nat) (E:cF):Prop:=∀ q∈E,Low q.1.1 q.1.2/\Pl H q.2.1 q.2.2/\Sq k q.2.2/\Bd 100 q.1.1/\Bd 100 q.1.2
theorem EnO.tp {H e:Hp} {j k:Nat} {E:cF} (h:EnO H j E) (t:Tp H e) (i:j<=k):EnO e k E:=λq f=>let ⟨a,b,c,d⟩:=h q f;⟨a,b.tp t,c.mono i,d⟩
theorem EnO.app {H:Hp} {k:Nat} {E F:cF} (h:EnO H k E) (g:EnO H k F):EnO H k (E++F):=λq a=>(CK.mp a).elim (h q) (g q)
theorem Ep (L:cD) (q:Nu×cI):lv (L++[q])=lv L++[(val q.1,sr q.2)]:=by unfold lv;rw [Bq];rfl
theorem tZ {H:Hp} {f:Addr} {k l:List (List E_×V)} (h:H f=some (.dT k)):Tp H (upd H f (.dT l)):=λb c a=>(Ad (FS a h (λz=>nomatch z))).trans a
theorem Iy (d:Int):val (0,d)=0:=U_ _
theorem sD {q:Nu} (l:Low q.1 q.2) (h:q.1≠0):val q≠0:=λz=>h (by
 have:q=(0,1):=DK l HI (z.trans (Iy 1).symm);rw [this])
theorem Mc {n:Nat} {l:cI} (h:Sr.Ms n (sr l)) (a:AV l) (b:Nz l):l.length=n+1:=by
 have d:n<l.length:=by
  rcases A8 n l.length with c | c
  ·exact c
  ·exact absurd (h.1.symm.trans (Bt c)) ∅
 rcases A8 (n+1) l.length with c | c
 ·exact absurd (h.2 (l.length - 1) ⋯) (DN a b (Bk.mp ⋯))
 ·omega
theorem TQ {f:Sr} (h:Sr.Ms 0 f):f=1:=Sr.ext' λk=>by
 rw [Sr.one_at];cases k with
 | zero=>exact h.1
 | succ k=>exact h.2 (k+1) ⋯
theorem Me:Gq 1 1 [((1:Int),(1:Int))]:=⟨λq a=>by rw [Ap.mp a];exact Hi,λq a=>by obtain rfl:(1,1)=q:=pE a;decide,1,⟨∅,λq a=>by rw [Ap.mp a];exact Int.dvd_refl _⟩,(show Bd 1 1 by unfold Bd;decide),λz b=>by rw [show z=1 from Ap.mp b];unfold Bd;decide⟩
theorem Iz {n:Nat} (h:n<1000000):n<sizeLine:=CA h (sz (AO _))
theorem sE {K:W.Frag} {H0 H:Hp} {D:Ends} {p f c w:Addr} {x4:cN} {E:cF} {L:cD} {q:Nu×cI} {k:Nat} (s0:Same H0 H) (f0:H0 f=none) (hf:H f=some (.dT (kE E))) (J:EnO H k E) (G:Sr.Gth (lv L) (dE E)) (hc:Nm H c q.1.1 q.1.2) (hw:Pl H w q.2) (lq:Low q.1.1 q.1.2) (I:Gq 100 100 q.2) (l8:q.2.length<=8) (M:∃ n,Sr.Ms n (sr q.2)) (b1:Bd 100 q.1.1) (b2:Bd 100 q.1.2) (a3:k<15) (el:E.length<=k)
  (nx:∀ H' i,Same H0 H'->H' f=some (.dT (kE i))->EnO H' (k+1) i->Sr.Gth (lv (L++[q])) (dE i)->i.length<=k+1->D.nx [some (.ref p),some (.ref f),some (.ref c),some (.ref w),x4] H') :
  BJ (Dt (Aq (A_ ap (A_ gT (AA 2) (tC (.int 0))) (tC (.int 0)))) (Aq (A_ aP (AJ (HX K) [] E0 (AB (AA 3) AC)) (tC (.int 0))))) (AM (AJ (Di K) [] E0 (AB (aw K "dict" K2 (AA 1) (AB (AA 2) (AB (Ai (AB (Ai (AB (tC (.int 1)) (AB (tC (.int 1)) AC))) AC)) AC))) (AB (AA 3) AC))) (Du (AA 1) (AA 2) Jc)) BN D [some (.ref p),some (.ref f),some (.ref c),some (.ref w),x4] H:=by
 obtain ⟨zs,hz,hN⟩:=hw;have zl:=hN.length;obtain ⟨n,M⟩:=M;have ln:=Mc M I.low I.nz;have B:(val q.1=0\/sr q.2=1)->D.nx [some (.ref p),some (.ref f),some (.ref c),some (.ref w),x4] H:=λz=>nx H E s0 hf (J.tp (λ_ _ h=>h) ⋯) (by rw [Ep];exact G.skip z) ⋯;refine Cv (A5 (B7 rfl hc rfl (N_ ⟨rfl,_,rfl,Am (λc0=>?_) (λc0=>?_)⟩)))
 ·have n0:q.1.1≠0:=λz=>by rw [z] at c0;exact absurd c0 ∅
  have v0:=sD lq n0;refine Cv (A5 (BS (AN rfl ⟨_,zs,rfl,hz,N_ ⟨_,_,rfl,rfl,_,rfl,Am (λc1=>?_) (λc1=>?_)⟩⟩)))
  ·have l2:2<=q.2.length:=by have:=qW c1;omega
   obtain ⟨n',rfl⟩:∃ n',n=n'+1:=⟨n - 1,⋯⟩;refine ⟨_,rfl,.inr (.inr (.inl ⟨rfl,.inr ⟨_,hf⟩⟩)),_,rfl,Az,λj a0=>⟨C8,λO P=>?_⟩⟩;have m:=(AL a0 (.tup [.int 1,.int 1])).trans (AL P (.tup [.ref j]));have P3:Nums (upd (upd H j (.tup [.int 1,.int 1])) O (.tup [.ref j])) [V.ref j] [(1,1)]:=⟨⟨j,rfl,AL P _ _ _ upd_same⟩,trivial⟩;have h3:(upd (upd H j (.tup [.int 1,.int 1])) O (.tup [.ref j])) O=some (HO.tup [V.ref j]):=upd_same;generalize upd (upd H j (.tup [.int 1,.int 1])) O (.tup [.ref j])=H3 at m P3 h3 ⊢;have S:=m _ _ hc;have T:=m _ _ hf;have U:=m _ _ hz;have N3:=hN.tp (C' m);refine ⟨_,_,ky q.1,_,_,rfl,rfl,S,T,?_⟩
   have X:∀ (r:Addr) (C:Hp) (i:cF),Same H3 C->EJ (kE E) (ky q.1) (.ref r)=kE i->EnO C (k+1) i->Sr.Gth (lv (L++[q])) (dE i)->i.length<=k+1->Du (AA 1) (AA 2) Jc (.ref r) [some (.ref p),some (.ref f),some (.ref c),some (.ref w),x4] C D.nx:=λr C i u eE o5 N l5=>by
    have Y:=u _ _ T;refine ⟨_,rfl,_,rfl,f,c,ky q.1,kE E,rfl,rfl,u _ _ S,Y,Iz (by unfold kE;rw [AG];omega),?_⟩;rw [eE];exact nx _ i (λb o hb=>(Ad (BM hb f0)).trans (u _ _ (m _ _ (s0 _ _ hb)))) upd_same (o5.tp (tZ Y) (AO _)) N l5
   rcases TN q.1 E with ⟨Z,e2⟩ | ⟨y,A,Z,e2⟩
   ·rw [Z];refine ⟨_,rfl,O,w,_,zs,[(1,1)],q.2,1,1,100,100,rfl,h3,U,P3,N3,Me,I,∅,⋯,∅,∅,∅,∅,λr R C u P5 N l5 e5=>?_⟩;have eR:R=q.2:=Gn N.low I.low N.nz I.nz (by rw [Cl e5,Gp];ext);subst eR;refine X r C (E++[(q.1,r,q.2)]) u (tX _ e2) (((J.tp (C' (m.trans u)) ⋯)).app λy A=>?_) ?_ (by rw [Bw];exact Nat.succ_le_succ el)
    ·rw [Ap.mp A];exact ⟨lq,P5,(Sq.one I l8).mono ⋯,b1,b2⟩
    ·rw [Ep]
     have g:=G.new v0 M λz=>by
      obtain ⟨x,F,ex⟩:=AU.mp z;obtain ⟨y,A,rfl⟩:=AU.mp F;exact e2 y A (DK (J y A).1 lq ex)
     unfold dE at g ⊢;rw [Bq];exact g
   ·obtain ⟨ly,Py,Sy,_⟩:=J y A;obtain ⟨us,hu,hU⟩:=Py.same m;have yl:=Sy.len;rw [e2];refine ⟨_,rfl,y.2.1,w,us,zs,y.2.2,q.2,_,_,100,100,rfl,hu,U,hU,N3,Sy.g,I,⋯,⋯,⋯,⋯,∅,∅,λr R C u P5 N l5 e5=>?_⟩
    have all:∀ x∈E,x.1=q.1->sr R=sr x.2.2*sr q.2:=λx F ex=>by
     have w1:=(G.at' _ (AU.mpr ⟨x,F,rfl⟩)).2.1;have w2:=(G.at' _ (AU.mpr ⟨y,A,rfl⟩)).2.1;rw [Cl e5,show sr x.2.2=_ from w1,show sr y.2.2=_ from w2];show Sr.W (lv L) (val y.1)*_=Sr.W (lv L) (val x.1)*_;rw [Z,ex]
    refine X r C (E.map λx=>if x.1=q.1 then (x.1,r,R) else x) u (tY _ ⟨y,A,Z⟩) (λx F=>?_) ?_ (by rw [AG];omega)
    ·obtain ⟨v,hv,rfl⟩:=AU.mp F;obtain ⟨a,b,c',d⟩:=J v hv;by_cases e:v.1=q.1
     ·rw [qU e];exact ⟨a,P5,Sy.mul ⋯ l8 N l5,d⟩
     ·rw [qT e];exact ⟨a,b.same (m.trans u),c'.mono ⋯,d⟩
    ·rw [Ep];have g:=G.put (c:=val q.1) M (AU.mpr ⟨_,AU.mpr ⟨y,A,rfl⟩,by rw [Z]⟩)
     have ee:dE (E.map λx=>if x.1=q.1 then (x.1,r,R) else x)=(dE E).map λx=>if x.1=val q.1 then (x.1,x.2*sr q.2) else x:=by
      unfold dE;rw [BX,BX];refine Cf λx F=>?_;show (val (if x.1=q.1 then (x.1,r,R) else x).1,sr (if x.1=q.1 then (x.1,r,R) else x).2.2)=if val x.1=val q.1 then (val x.1,sr x.2.2*sr q.2) else (val x.1,sr x.2.2)
      by_cases e:x.1=q.1
      ·rw [qU e,qU (by rw [e])];show (val x.1,sr R)=_;rw [all x F e]
      ·rw [qT e,qT λz=>e (DK (J x F).1 lq z)]
     rw [ee];exact g
  ·have l1:q.2.length<=1:=by have:=of_decide_eq_false (Bool.eq_false_iff.mpr c1);omega
   have n0:n=0:=by omega
   subst n0;exact B (.inr (TQ M))
 ·have z:q.1.1=0:=by
   have:=Bool.eq_false_iff.mpr c0;rw [Bool.not_eq_false'] at this;have:=qW this;injection this
  refine B (.inl ?_);have:=Iy q.1.2;rw [<-z] at this;exact this
theorem sF {k n:Type} {f:k->n} {l m:List n} (h:l.Perm m):∀ Z:List k,l=Z.map f->∃ g,Z.Perm g/\m=g.map f:=by
 induction h with
 | nil=>
   intro Z e;cases Z with
   | nil=>exact ⟨[],.nil,rfl⟩
   | cons a Z=>exact nomatch e
 | cons x _ o=>
   intro Z e;cases Z with
   | nil=>exact nomatch e
   | cons a Z=>
     injection e with d c;obtain ⟨g,p,q⟩:=o Z c;exact ⟨a::g,p.cons a,by rw [CD,q,d]⟩
 | swap x y l=>
   intro Z e;cases Z with
   | nil=>exact nomatch e
   | cons a Z=>
     injection e with d c;cases Z with
     | nil=>exact nomatch c
     | cons b Z=>
       injection c with c r;exact ⟨b::a::Z,.swap b a Z,by rw [CD,CD,d,c,r]⟩
 | trans _ _ i j=>
   intro Z e;obtain ⟨u,v,d⟩:=i Z e;obtain ⟨w,z,c⟩:=j u d;exact ⟨w,v.trans z,c⟩
theorem Mf {b j:Type} {f:b->j}:∀ {l:List b},(l.map f).Nodup->∀ {x y},x∈l->y∈l->f x=f y->x=y
 | a::l,h,x,y,k,g,e=>by
   obtain ⟨i,m⟩:=Cm.mp h;rcases A7.mp k with c | c
   ·rcases A7.mp g with d | d
    ·rw [c,d]
    ·exact absurd (AU.mpr ⟨y,d,by rw [<-e,c]⟩) i
   ·rcases A7.mp g with d | d
    ·exact absurd (AU.mpr ⟨x,c,by rw [e,d]⟩) i
    ·exact Mf m c d e
theorem TR {H:Hp}:∀ {as:c_} {l:cI},as.length=l.length->(∀ (i:Nat) a q,as[i]?=some a->l[i]?=some q->Nm H a q.1 q.2)->Nums H (as.map V.ref) l
 | [],[],_,_=>trivial
 | a::as,q::l,e,h=>⟨⟨a,rfl,h 0 a q rfl rfl⟩,TR (Nat.succ.inj e) λi x y b c=>h (i+1) x y b c⟩
 | [],_::_,e,_=>nomatch e
 | _::_,[],e,_=>nomatch e
theorem Kb {q:Nu} {B:Int} (l:Low q.1 q.2) (h:q.2∣B):((q.1*(B / q.2):Int):Rat)=val q*(B:Rat):=by
 have e:=Int.ediv_mul_cancel h;have a:(B:Rat)=((B / q.2:Int):Rat)*(q.2:Rat):=by rw [<-Rat.intCast_mul,e]
 have b:(q.2:Rat)≠0:=Au (AW l.pos);unfold val;rw [Rat.intCast_mul,a,Rat.div_def];have:=Rat.inv_mul_cancel _ b;ext
theorem TU {q r:Nu} {B:Int} (l:Low q.1 q.2) (m:Low r.1 r.2) (h:q.2∣B) (g:r.2∣B) (b:0<B) (c:q.1*(B / q.2)<r.1*(B / r.2)):val q<val r:=by
 have a:((q.1*(B / q.2):Int):Rat)<((r.1*(B / r.2):Int):Rat):=Rat.intCast_lt_intCast.mpr c;rw [Kb l h,Kb m g] at a;have d:(0:Rat)<(B:Rat):=Rat.intCast_pos.mpr b;exact Rat.lt_of_mul_lt_mul_right a (Rat.le_of_lt d)
theorem TV {q r:Nu} {B:Int} (l:Low q.1 q.2) (m:Low r.1 r.2) (h:q.2∣B) (g:r.2∣B) (d:0<B) (c:q.1*(B / q.2)=r.1*(B / r.2)):q=r:=by
 have a:=Kb l h;rw [c,Kb m g] at a;have b:(B:Rat)≠0:=Au (AW d);refine DK l m ?_;have e:val q=val q*(B:Rat)*(B:Rat)⁻¹:=by have:=Rat.mul_inv_cancel _ b;ext
 have f:val r=val r*(B:Rat)*(B:Rat)⁻¹:=by have:=Rat.mul_inv_cancel _ b;ext
 rw [e,f,a]
theorem TW {c d g:Type} (f:c->g):∀ (E:List c) (bs:List d),(E.map f).zip bs=(E.zip bs).map λe=>(f e.1,e.2)
 | [],_=>rfl
 | _::_,[]=>rfl
 | a::E,b::bs=>by rw [CD,List.zip_cons_cons,List.zip_cons_cons,CD,TW f E bs]
theorem Mg {c d:Type}:∀ {E:List c} {bs:List d},bs.length=E.length->(E.zip bs).map (·.1)=E
 | [],_,_=>by rw [List.zip_nil_left];rfl
 | a::E,[],h=>nomatch h
 | a::E,b::bs,h=>by rw [List.zip_cons_cons,CD,Mg (Nat.succ.inj h)]
theorem sG (h:KD K vs H Q E):zI K { nx:=λ_ j=>Q .non j,rt:=Q } (L2.start ["pieces","found","c","v","tops"] vs) H:=by
 obtain ⟨p,ws,L,rfl,hp,PL,oL,zL,b0,k⟩:=h;have wl:=PL.len;refine Bc λf hf=>?_;have s1:=AL hf (HO.dT []);have h1:(upd H f (HO.dT [])) f=some (HO.dT []):=upd_same;generalize upd H f (HO.dT [])=H1 at s1 h1 ⊢;refine Ka (AN rfl ⟨_,rfl,⟨_,SqL.of (s1 _ _ hp)⟩,ForL.by (xs:=ws) (λi σ j=>∃ (x2 x3:cN) (E:cF),σ=[some (.ref p),some (.ref f),x2,x3,none]/\Same H j/\j f=some (.dT (kE E))/\EnO j i E/\Sr.Gth (lv (L.take i)) (dE E)/\E.length<=i) ⟨none,none,[],rfl,s1,h1,(λ_ h=>nomatch h),Sr.Gth.nil,AO _⟩ ?_ ?_ ?_⟩)
 ·rintro i σ j _ ⟨x2,x3,E,rfl,s,_⟩;exact SqL.of (s _ _ hp)
 ·rintro i x σ H2 S ⟨x2,x3,E,rfl,s2,B,A,G,el⟩;have lt:i<ws.length:=(BF.mp S).1;obtain ⟨q,d,t,c,w,rfl,ht,hc,Pw⟩:=(PL.tp (C' s2)).get S;obtain ⟨z1,z2,⟨n,z3⟩,z4,z5⟩:=zL q (Ay d);refine ⟨_,_,rfl,ht,rfl,_,_,rfl,_,_,rfl,rfl,?_⟩;refine sE s2 hf B A G hc Pw (oL q (Ay d)).1 z1 z2 ⟨_,z3⟩ z4 z5 ⋯ el λj E' a1 a2 a3 a4 a5=>⟨_,_,E',rfl,a1,a2,a3,?_,a5⟩;rw [ES d];exact a4
 ·rintro σ H2 ⟨x2,x3,E,rfl,s2,B,A,G,el⟩;rw [wl,CW] at G;have T:AV (E.map (·.1)):=λq d=>by obtain ⟨e,o,rfl⟩:=AU.mp d;exact (A e o).1
  have bd:Of 100 (E.map (·.1)):=λq d=>by obtain ⟨e,o,rfl⟩:=AU.mp d;exact (A e o).2.2.2
  obtain ⟨c0,c1,c2⟩:=Oh T bd;rw [AG] at c2
  have kx:∀ {as:c_} {j:Hp},as.length=(kE E).length->(∀ (i:Nat) (a:Addr) (kv:List E_×V),as[i]?=some a->(kE E)[i]?=some kv->j a=some (.tup (kv.1.map kV)))->Nums j (as.map V.ref) (E.map (·.1)):=λ{as j} e h=>by
   refine TR (by rw [e];unfold kE;rw [AG,AG]) λi a q J d=>?_;rw [Ac] at d;obtain ⟨y,hy,rfl⟩:=Et.mp d;exact h i a (ky y.1,V.ref y.2.1) J (by unfold kE;rw [Ac,hy];rfl)
  show Q4 K _ _ _;refine Bc (A5 (BS (Eh (AN rfl ⟨f,kE E,rfl,B,λas al a6 r hr=>?_⟩))));have s3:=AL hr (.lst (as.map V.ref));refine ⟨r,as.map V.ref,E.map (·.1),AZ (E.map (·.1)),rfl,.inr upd_same,(kx al a6).tp (C' s3),T,⟨c0,c1⟩,c2.mono ⋯,λq d=>(bd q d).1.mono ∅,by rw [AG];omega,λr4 a4 H4 s4 a7 a8=>N_ ⟨_,_,_,_,rfl,rfl,a7,rfl,?_⟩⟩;have M:=s3.trans s4;generalize upd H2 r (.lst (as.map V.ref))=H3 at s3 s4;have U:=M _ _ B;have ab:=A.tp (C' M) (AO _);show Q3 K _ _ _;refine CU (Eh (IS ?_));refine ⟨_,rfl,_,rfl,f,kE E,rfl,U,λu bl ac r5 ae=>?_⟩;have s5:=AL ae (.lst (u.map V.ref));have N5:=(kx bl ac).tp (C' s5);have h5:(upd H4 r5 (.lst (u.map V.ref))) r5=some (HO.lst (u.map V.ref)):=upd_same;generalize upd H4 r5 (.lst (u.map V.ref))=H5 at s5 N5 h5 ⊢;have N:u.length=E.length:=by rw [bl];unfold kE;rw [AG]
  have cn:AR (E.map (·.1))=E.map λe=>e.1.1*(AZ (E.map (·.1)) / e.1.2):=by unfold AR;rw [BX];rfl
  have nv:(E.map λe=>val e.1).Nodup:=by have:=G.nd;unfold dE at this;rw [BX] at this;exact this
  have C:∀ e∈E,e.1.2∣AZ (E.map (·.1)):=λe o=>c1 e.1 (AU.mpr ⟨e,o,rfl⟩)
  have nd:(AR (E.map (·.1))).Nodup:=by
   rw [cn];refine EA.mpr ((EA.mp nv).imp_of_mem λ{a b} J F n z=>n ?_);rw [TV (A a J).1 (A b F).1 (C a J) (C b F) c0 z]
  refine ⟨a4,r5,AR (E.map (·.1)),u.map V.ref,rfl,s5 _ _ a8,h5,by rw [cn,AG,AG,N],by rw [cn,AG];omega,nd,λv ms r6 H6 s6 _ W l6 aj pm X=>⟨_,rfl,⟨_,SqL.of W⟩,?_⟩⟩;have ez:(AR (E.map (·.1))).zip (u.map V.ref)=(E.zip (u.map V.ref)).map λe=>(e.1.1.1*(AZ (E.map (·.1)) / e.1.1.2),e.2):=by rw [cn,TW]
  obtain ⟨Z,pZ,eZ⟩:=sF pm.symm _ ez
  have D:∀ e∈Z,e.1∈E:=λe o=>by
   have m:=pZ.mem_iff.mpr o;have:e.1∈(E.zip (u.map V.ref)).map (·.1):=AU.mpr ⟨e,m,rfl⟩;rw [Mg (by rw [AG,N])] at this;exact this
  have aZ:∀ e∈Z,∃ b,e.2=V.ref b/\Nm H6 b e.1.1.1 e.1.1.2:=λe o=>by
   obtain ⟨i,hi⟩:=List.mem_iff_getElem?.mp (pZ.mem_iff.mpr o);obtain ⟨h1,h2⟩:=List.getElem?_zip_eq_some.mp hi;obtain ⟨q,d,b,e3,e4⟩:=N5.get h2;rw [Ac,h1] at d;obtain rfl:e.1.1=q:=pE d;exact ⟨b,e3,s6 _ _ e4⟩
  have lZ:Z.length=v.length:=by rw [l6,eZ,AG]
  have O:Same H4 H6:=s5.trans s6;have am:=O _ _ U;have an:=ab.tp (C' O) (AO _)
  have ar:v.length<=15:=by
   rw [<-lZ,<-pZ.length_eq,List.length_zip,AG];omega
  refine CompJ.lst (xs:=v.map V.ref) (λi P j=>i<=v.length/\Same H6 j/\Lgs j P ((Z.take i).map λe=>(e.1.1,e.1.2.2))) ⟨Ae _,Same.refl H6,trivial⟩ ?_ ?_ ?_
  ·rintro i P j ⟨hi,s,h⟩;exact ⟨by rw [AG];exact hi,sz (by rw [h.len,AG,CC];omega),SqL.of (s _ _ W)⟩
  ·rintro i x P H7 S ⟨hi,I,h⟩;rw [Ac] at S;obtain ⟨t,ht,rfl⟩:=Et.mp S;have lt:i<v.length:=(BF.mp ht).1;obtain ⟨e,o⟩:∃ e,Z[i]?=some e:=⟨Z[i]'⋯,Aj ⋯⟩;have Y:=Ay o;have tt:=aj i t _ ht (by rw [eZ,Ac,o];rfl);obtain ⟨b,eb,F⟩:=aZ e Y;obtain ⟨_,Pe,_⟩:=an e.1 (D e Y)
   have lk:FA (kE E) (ky e.1.1)=some (.ref e.1.2.1):=by
    rcases TN e.1.1 E with ⟨_,n⟩ | ⟨q,d,e1,e2⟩
    ·exact absurd rfl (n e.1 (D e Y))
    ·rw [Mf nv (D e Y) d (by rw [e1])];rw [Mf nv (D e Y) d (by rw [e1])] at e2;exact e2
   rw [show e.2=V.ref b from eb] at tt;refine ⟨_,_,rfl,I _ _ tt,rfl,_,_,rfl,_,_,rfl,rfl,?_⟩;refine Bv (AN rfl (A5 (AN rfl (AN rfl ⟨f,b,ky e.1.1,kE E,_,rfl,rfl,I _ _ F,I _ _ am,lk,Az,λt8 a0=>⟨lt,I.trans (AL a0 _),?_⟩⟩))));have R:=AL a0 (.tup [.ref b,.ref e.1.2.1]);rw [ES o,Bq];exact (h.tp (C' R)).app ⟨⟨t8,b,e.1.2.1,rfl,upd_same,(I.trans R) _ _ F,Pe.same (I.trans R)⟩,trivial⟩
  ·rintro P H7 ⟨_,I,h⟩ w hw;have R:=AL hw (.lst P);rw [AG,<-lZ,CW] at h;refine ⟨_,_,rfl,upd_same,λg hg=>?_⟩;have s9:=AL hg (.tup P);refine k g (Z.map λe=>(e.1.1,e.1.2.2)) _ ((s2.trans M).trans (O.trans (I.trans (R.trans s9)))) ⟨P,upd_same,h.tp (C' (R.trans s9)),λq d=>?_⟩ (G.can ?_ ?_)
   ·obtain ⟨e,o,rfl⟩:=AU.mp d;obtain ⟨a,_,b,_⟩:=A e.1 (D e o);exact ⟨a,b.g.low,b.g.nz⟩
   ·have ao:=(pZ.symm.map (λe:(Nu×Addr×cI)×V=>(val e.1.1,sr e.1.2.2)))
    have e1:dE E=(E.zip (u.map V.ref)).map λe=>(val e.1.1,sr e.1.2.2):=by
     conv=>lhs;rw [<-Mg (E:=E) (bs:=u.map V.ref) (by rw [AG,N])]
     unfold dE;rw [BX];rfl
    rw [e1];unfold lv;rw [BX];exact ao
   ·unfold lv;rw [BX];rw [eZ] at X;refine EA.mpr ((EA.mp X).imp_of_mem λ{a b} J F n=>?_);exact TU (A a.1 (D a J)).1 (A b.1 (D b F)).1 (C a.1 (D a J)) (C b.1 (D b F)) c0 n
theorem TX {q r:Nu} (l:Low q.1 q.2) (m:Low r.1 r.2):q.1*r.2<r.1*q.2↔val q<val r:=by
 have g:=CB l.pos m.pos;have d:q.2*r.2 / q.2=r.2:=FQ _ (AW l.pos);have e:q.2*r.2 / r.2=q.2:=Int.mul_ediv_cancel _ (AW m.pos)
 have f:∀ {a b:Nu},Low a.1 a.2->Low b.1 b.2->a.1*b.2<b.1*a.2->val a<val b:=λ{a b} l m h=>by
  have d:a.2*b.2 / a.2=b.2:=FQ _ (AW l.pos);have e:a.2*b.2 / b.2=a.2:=Int.mul_ediv_cancel _ (AW m.pos);exact TU (B:=a.2*b.2) l m (Int.dvd_mul_right ..) (Int.dvd_mul_left ..) (CB l.pos m.pos) (by rw [d,e];exact h)
 refine ⟨f l m,λh=>?_⟩;rcases Int.lt_trichotomy (q.1*r.2) (r.1*q.2) with c | c | c
 ·exact c
 ·have:=TV (B:=q.2*r.2) l m (Int.dvd_mul_right ..) (Int.dvd_mul_left ..) g (by rw [d,e];exact c);rw [this] at h;exact absurd h ()
 ·have:=f m l c;exact absurd h ()
theorem TY (A B:cD):lv (A++B)=lv A++lv B:=by unfold lv;rw [Bq]
def Asc (N:cD):Prop:=N.Pairwise λa b=>val a.1<val b.1
theorem sI {N:cD} (h:Asc N):(lv N).Pairwise λp q=>p.1<q.1:=EA.mpr h
theorem Asc.ins {A B:cD} {q:Nu×cI} (h:Asc (A++B)) (d:∀ a∈A,val a.1<val q.1) (e:∀ b∈B,val q.1<val b.1):Asc (A++q::B):=by
 obtain ⟨f,g,i⟩:=List.pairwise_append.mp h;refine List.pairwise_append.mpr ⟨f,Ew.mpr ⟨e,g⟩,λa x b y=>?_⟩;rcases A7.mp y with c | c
 ·rw [c];exact d a x
 ·exact i a x b c
theorem Mh {N:cD} {a:Nat} {y:Nu×cI} (h:N[a]?=some y):N=N.take a++y::N.drop (a+1):=by
 have e:=BF.mp h
 conv=>lhs;rw [<-GA a N,List.drop_eq_getElem_cons e.1,e.2]
def Rz (i:Nat) (N:cD):Prop:=∀ y∈N,Sq i y.2/\Bd 100 y.1.1/\Bd 100 y.1.2
theorem Rz.mono {i j:Nat} {N:cD} (h:Rz i N) (k:i<=j):Rz j N:=λy c=>let ⟨a,b⟩:=h y c;⟨a.mono k,b⟩
structure La (H:Hp) (i:Nat) (L:cD) (xs:cM) (N:cD):Prop where
 lg:Lgs H xs N
 lo:LgO N
 rz:Rz i N
 g:Sr.Gth (lv L) (lv N)
 asc:Asc N
 len:N.length<=i
theorem sJ {K:W.Frag} {H0 H:Hp} {D:Ends} {p r c w:Addr} {xs:cM} {N L:cD} {q:Nu×cI} {i f:Nat} (s0:Same H0 H) (r0:H0 r=none) (S:H r=some (.lst xs)) (h:La H i L xs N) (aj:f<=N.length) (G:∀ a∈N.take f,val a.1<val q.1) (pos:∀ y,N[f]?=some y->¬ val y.1<val q.1) (hc:Nm H c q.1.1 q.1.2) (Pw:Pl H w q.2) (lq:Low q.1.1 q.1.2) (gq:Gq 100 100 q.2) (l8:q.2.length<=8) (ms:∃ n,Sr.Ms (n+1) (sr q.2)) (b1:Bd 100 q.1.1) (b2:Bd 100 q.1.2) (i7:i<7)
  (k:∀ H' X N',Same H0 H'->H' r=some (.lst X)->La H' (i+1) (L++[q]) X N'->D.nx [some (.ref p),some (.ref r),some (.ref c),some (.ref w),some (.int f)] H'):Lx K D [some (.ref p),some (.ref r),some (.ref c),some (.ref w),some (.int f)] H:=by
 have xl:=h.lg.len;have nl:=h.len;obtain ⟨n,ms⟩:=ms
 have Y:∀ T:Hp,Same H T->(∀ y,N[f]?=some y->y.1≠q.1)->BJ (Aq (A_ aQ (AA 2) (Ai (AB (tC (.int 0)) (AB (tC (.int 1)) AC))))) (EY (aw K "list" Ky (AA 1) (AB (AA 4) (AB (Ai (AB (AA 2) (AB (AA 3) AC))) AC)))) BN D [some (.ref p),some (.ref r),some (.ref c),some (.ref w),some (.int f)] T:=λT s2 ne=>by
  have up:∀ b∈N.drop f,val q.1<val b.1:=by
   rcases A8 f N.length with I | ge
   ·have u:=Aj I
    have al:val q.1<val N[f].1:=by
     have a:=pos _ u;have b:=ne _ u;have c:val N[f].1≠val q.1:=λz=>b (DK (h.lo _ (Dq I)).1 lq z);ext
    intro b B;rw [List.drop_eq_getElem_cons I] at B;rcases A7.mp B with e | e
    ·rw [e];exact al
    ·have d:=h.asc;rw [Mh u] at d;have:=(Ew.mp (List.pairwise_append.mp d).2.1).1 b e;ext
   ·intro b B;rw [List.drop_of_length_le ge] at B;exact nomatch B
  refine Cv (A5 (AN rfl (Bv (N_ (N_ ⟨Az,λz hz=>?_⟩)))));have Z:=AL hz (.tup [.int 0,.int 1]);have iC:isN (upd T z (.tup [.int 0,.int 1])) (.ref c) q.1:=⟨c,rfl,Z _ _ (s2 _ _ hc)⟩;have iZ:isN (upd T z (.tup [.int 0,.int 1])) (.ref z) (0,1):=⟨z,rfl,upd_same⟩;refine ⟨_,_,decide (q.1=((0,1):Nu)),HN iC,HN iZ,bI _ 7,bI _ 7,?_,_,rfl,?_⟩
  ·rw [decide_eq_true_eq];exact ⟨λz=>by rw [z],SW⟩
  have J:=s2.trans Z;generalize upd T z (.tup [.int 0,.int 1])=U at J ⊢;refine Am (λcc=>?_) (λcc=>k U xs N (s0.trans J) (J _ _ S) ⟨h.lg.tp (C' J),h.lo,h.rz.mono ⋯,?_,h.asc,⋯⟩)
  ·have q0:q.1≠(0,1):=λz=>by rw [z] at cc;exact absurd cc ∅
   have v0:val q.1≠0:=λz=>q0 (DK lq HI (z.trans (Iy 1).symm));refine ⟨_,rfl,.inl ⟨rfl,_,SqL.of (J _ _ S)⟩,?_⟩;refine ⟨_,rfl,_,rfl,_,rfl,Az,λt ht=>?_⟩;have s4:=AL ht (.tup [.ref c,.ref w]);have C:(upd U t (.tup [.ref c,.ref w])) t=some (HO.tup [V.ref c,V.ref w]):=upd_same;have m:=J.trans s4;generalize upd U t (.tup [.ref c,.ref w])=H4 at C m ⊢;have F:=m _ _ S;refine ⟨_,_,_,f,rfl,rfl,F,by rw [xl];exact aj,Iz ⋯,?_⟩;have t5:Tp H4 (upd H4 r (.lst (xs.take f++V.ref t::xs.drop f))):=Hn F;obtain ⟨c1,c2⟩:=(h.lg.tp (C' m)).cut f
   have pm:(N++[q]).Perm (N.take f++q::N.drop f):=by
    have a:(N++[q]).Perm (q::N):=List.perm_append_comm
    have b:(q::N).Perm (N.take f++q::N.drop f):=by
     conv=>lhs;rw [<-GA f N]
     exact List.perm_middle.symm
    exact a.trans b
   have me:∀ y∈N.take f++q::N.drop f,y∈N\/y=q:=λy u=>by
    rcases CK.mp (pm.mem_iff.mpr u) with c | c
    ·exact .inl c
    ·exact .inr (Ap.mp c)
   refine k _ _ (N.take f++q::N.drop f) (λb o B=>(Ad (BM B r0)).trans (m _ _ (s0 _ _ B))) upd_same ⟨(Lgs.app c1 (vs:=V.ref t::xs.drop f) (M:=q::N.drop f) ⟨⟨t,c,w,rfl,C,m _ _ hc,Pw.same m⟩,c2⟩).tp t5,λy u=>?_,λy u=>?_,?_,?_,?_⟩
   ·rcases me y u with c | c
    ·exact h.lo y c
    ·rw [c];exact ⟨lq,gq.low,gq.nz⟩
   ·rcases me y u with c | c
    ·exact h.rz.mono ⋯ y c
    ·rw [c];exact ⟨(Sq.one gq l8).mono ⋯,b1,b2⟩
   ·have g:=h.g.new v0 ms λz=>by
     obtain ⟨x,hx,ex⟩:=AU.mp z;obtain ⟨y,u,rfl⟩:=AU.mp hx;have ex:val y.1=val q.1:=ex;rw [<-GA f N] at u;rcases CK.mp u with c | c
     ·have:=G y c;ext
     ·have:=up y c;ext
    rw [Ep];refine tW g ?_;rw [<-Ep];exact pm.map _
   ·exact Asc.ins (by rw [GA];exact h.asc) G up
   ·rw [<-pm.length_eq,Bw];exact Nat.succ_le_succ nl
  ·have q0:q.1=(0,1):=by
    have:=Bool.eq_false_iff.mpr cc;rw [Bool.not_eq_false'] at this;exact qW this
   rw [Ep];exact h.g.skip (.inl (by rw [q0];exact Iy 1))
 refine Cv (A5 (AN rfl (Eh (AN rfl ⟨_,_,rfl,S,⟨_,_,rfl,rfl,_,rfl,Am (λc1=>?_) (λc1=>?_)⟩⟩))))
 ·have I:f<xs.length:=by have:=qW c1;omega
  obtain ⟨y,u,t,cy,wy,ey,a0,am,Py⟩:=h.lg.get (Aj I);have a6:Q_ xs (f:Int)=some (V.ref t):=Ck (j:=f) rfl (by rw [Aj I,ey]);refine Cv (A5 (A5 (A5 (AN rfl (AN rfl ⟨_,_,_,_,rfl,rfl,S,a6,N_ ⟨_,_,_,_,rfl,rfl,a0,rfl,AN rfl ?_⟩⟩)))));refine ⟨_,_,decide (y.1=q.1),HN ⟨cy,rfl,am⟩,HN ⟨c,rfl,hc⟩,bI _ 7,bI _ 7,?_,_,rfl,Am (λc2=>?_) (λc2=>Y H (Same.refl H) λy' a7=>?_)⟩
  ·rw [decide_eq_true_eq];exact ⟨λz=>by rw [z],SW⟩
  ·have ye:y.1=q.1:=qW c2;have a8:=Mh u;obtain ⟨z1,h1,n1⟩:=Py;obtain ⟨z2,h2,n2⟩:=Pw;have my:=Ay u;obtain ⟨sy,yb⟩:=h.rz y my;have yl:=sy.len;refine ⟨_,rfl,?_⟩;refine Bb (A5 (A5 (AN rfl (AN rfl ⟨_,_,_,_,rfl,rfl,S,a6,N_ ⟨_,_,_,_,rfl,rfl,a0,rfl,AN rfl ⟨_,_,z1,z2,_,_,_,_,_,_,rfl,h1,h2,n1,n2,sy.g,gq,⋯,⋯,⋯,⋯,⋯,⋯,λr3 R U J P3 G3 l3 e3=>⟨Az,λO an=>?_⟩⟩⟩⟩))));have s4:=AL an (.tup [.ref c,.ref r3]);have C:(upd U O (.tup [.ref c,.ref r3])) O=some (HO.tup [V.ref c,V.ref r3]):=upd_same;have m:=J.trans s4;have P4:=P3.same s4;generalize upd U O (.tup [.ref c,.ref r3])=H4 at C m P4 ⊢;have F:=m _ _ S;refine ⟨_,rfl,_,rfl,_,_,_,f,rfl,rfl,F,FJ rfl I,?_⟩;have t5:Tp H4 (upd H4 r (.lst (xs.set f (V.ref O)))):=Hn F;have ab:=h.lg.tp (C' m);have ao:=(ab.cut f).1;have ar:=(ab.cut (f+1)).2;have es:xs.set f (V.ref O)=xs.take f++V.ref O::xs.drop (f+1):=by rw [List.set_eq_take_append_cons_drop,qU I]
   have me:∀ v∈N.take f++(q.1,R)::N.drop (f+1),v∈N\/v=(q.1,R):=λv hv=>by
    rcases CK.mp hv with c | c
    ·exact .inl (List.mem_of_mem_take c)
    ·rcases A7.mp c with c | c
     ·exact .inr c
     ·exact .inl (List.mem_of_mem_drop c)
   have ac:=h.asc;rw [a8] at ac;obtain ⟨a1,a2,a3⟩:=List.pairwise_append.mp ac;obtain ⟨a4,a5⟩:=Ew.mp a2;refine k _ _ (N.take f++(q.1,R)::N.drop (f+1)) (λb o B=>(Ad (BM B r0)).trans (m _ _ (s0 _ _ B))) upd_same ⟨?_,λv hv=>?_,λv hv=>?_,?_,?_,?_⟩
   ·rw [es] at t5 ⊢;exact (Lgs.app ao (vs:=V.ref O::xs.drop (f+1)) (M:=(q.1,R)::N.drop (f+1)) ⟨⟨O,c,r3,rfl,C,m _ _ hc,P4⟩,ar⟩).tp t5
   ·rcases me v hv with c | c
    ·exact h.lo v c
    ·rw [c];exact ⟨lq,G3.low,G3.nz⟩
   ·rcases me v hv with c | c
    ·exact h.rz.mono ⋯ v c
    ·rw [c];exact ⟨sy.mul ⋯ l8 G3 l3,b1,b2⟩
   ·rw [Ep];have g:=h.g.put (c:=val q.1) ms (AU.mpr ⟨(val y.1,sr y.2),AU.mpr ⟨y,my,rfl⟩,by rw [ye]⟩)
    have ae:∀ {A:cD},(∀ a∈A,val a.1≠val q.1)->(lv A).map (λx=>if x.1=val q.1 then (x.1,x.2*sr q.2) else x)=lv A:=λ{A} hA=>by
     conv=>rhs;rw [<-List.map_id (lv A)]
     refine Cf λx hx=>?_;obtain ⟨a,P,rfl⟩:=AU.mp hx;exact qT (hA a P)
    have ee:(lv N).map (λx=>if x.1=val q.1 then (x.1,x.2*sr q.2) else x)=lv (N.take f++(q.1,R)::N.drop (f+1)):=by
     conv=>lhs;rw [a8,TY,Bq,ae λa P=>by have:=G a P;grind]
     rw [TY];congr 1;show (if val y.1=val q.1 then (val y.1,sr y.2*sr q.2) else (val y.1,sr y.2))::(lv (N.drop (f+1))).map _=(val q.1,sr R)::lv (N.drop (f+1));rw [ae λa P=>by have:=a4 a P;rw [ye] at this;ext,qU (by rw [ye]),Cl e3,ye]
    rw [<-ee];exact g
   ·refine List.pairwise_append.mpr ⟨a1,Ew.mpr ⟨λb B=>?_,a5⟩,λa P b B=>?_⟩
    ·show val q.1<val b.1;rw [<-ye];exact a4 b B
    ·rcases A7.mp B with c | c
     ·rw [c];exact G a P
     ·exact a3 a P b (BW _ c)
   ·rw [Bw,CO,CC,List.length_drop];omega
  ·rw [u] at a7;cases a7;exact λz=>c2 (qV z)
 ·have ge:xs.length<=f:=by have:=of_decide_eq_false (Bool.eq_false_iff.mpr c1);omega
  refine Y H (Same.refl H) λy u=>?_;have:=(BF.mp u).1;omega
theorem sK (h:HY K vs H Q E):yR K { nx:=λ_ b=>Q .non b,rt:=Q } (L2.start ["_law_pairs","_law_rows","_law_c","_law_part","_law_place"] vs) H:=by
 obtain ⟨p,X,L,rfl,hp,Y,oL,zL,l7,k⟩:=h;refine ⟨sz ∅,λr Z=>?_⟩;have s1:=AL Z (.lst []);have h1:(upd H r (.lst [])) r=some (HO.lst []):=upd_same;generalize upd H r (.lst [])=H1 at s1 h1 ⊢;have wl:=Y.len;show RH K _ _ _;refine Ka (AN rfl ⟨_,rfl,⟨_,SqL.of (s1 _ _ hp)⟩,ForL.by (xs:=X) (λi m b=>∃ (g v A:cN) (d:cM) (N:cD),m=[some (.ref p),some (.ref r),g,v,A]/\Same H b/\b r=some (.lst d)/\La b i (L.take i) d N) ⟨none,none,none,[],[],rfl,s1,h1,⟨trivial,(λ_ h=>nomatch h),(λ_ h=>nomatch h),Sr.Gth.nil,.nil,AO _⟩⟩ ?_ ?_ ?_⟩)
 ·rintro i m b _ ⟨g,v,A,d,N,rfl,s,_⟩;exact SqL.of (s _ _ hp)
 ·rintro i x m J hx ⟨g,v,A,d,N,rfl,I,n,o⟩;have lt:i<X.length:=(BF.mp hx).1;obtain ⟨q,hq,t,c,w,rfl,ht,hc,Pw⟩:=(Y.tp (C' I)).get hx;have mq:=Ay hq;obtain ⟨z1,z2,z3,z4,z5⟩:=zL q mq;have M:=(oL q mq).1;have xl:=o.lg.len;refine ⟨_,_,rfl,ht,rfl,_,_,rfl,_,_,rfl,rfl,?_⟩;show RF K _ _ _
  have C:∀ e:Nat,e<=N.length->(∀ a∈N.take e,val a.1<val q.1)->(∀ y,N[e]?=some y->¬ val y.1<val q.1)->Lx K { nx:=λm b=>∃ (g v A:cN) (d:cM) (N:cD),m=[some (.ref p),some (.ref r),g,v,A]/\Same H b/\b r=some (.lst d)/\La b (i+1) (L.take (i+1)) d N,rt:=Q,ct:=λm b=>∃ (g v A:cN) (d:cM) (N:cD),m=[some (.ref p),some (.ref r),g,v,A]/\Same H b/\b r=some (.lst d)/\La b (i+1) (L.take (i+1)) d N,bk:=RG K { nx:=λ_ b=>Q .non b,rt:=Q } } [some (.ref p),some (.ref r),some (.ref c),some (.ref w),some (.int e)] J:=λe u b1 b2=>
   sJ I Z n o u b1 b2 hc Pw M z1 z2 z3 z4 z5 ⋯ λb O N' a1 a2 a3=>⟨_,_,_,O,N',rfl,a1,a2,by rw [ES hq];exact a3⟩
  refine Bc (N_ ?_);refine EH (λj m b=>∃ e:Nat,e<=N.length/\(∀ a∈N.take e,val a.1<val q.1)/\m=[some (.ref p),some (.ref r),some (.ref c),some (.ref w),some (.int e)]/\J=b/\j=d.length - e) d.length ⟨0,Ae _,(λ_ h=>nomatch h),rfl,rfl,rfl⟩ ?_;rintro j m b ⟨e,u,B,rfl,rfl,rfl⟩;refine Cv (A5 (AN rfl (Eh (AN rfl ⟨_,_,rfl,n,⟨_,_,rfl,rfl,_,rfl,Am (λP=>?_) (λP=>C e u B λy D=>?_)⟩⟩))))
  ·have F:e<d.length:=by have:=qW P;omega
   obtain ⟨y,D,ty,cy,wy,ey,R,S,Py⟩:=o.lg.get (Aj F);have my:=Ay D;have T:Q_ d (e:Int)=some (V.ref ty):=Ck (j:=e) rfl (by rw [Aj F,ey]);obtain ⟨_,U,W⟩:=o.rz y my;have ly:=(o.lo y my).1;refine Bb (A5 (A5 (AN rfl (AN rfl ⟨_,_,_,_,rfl,rfl,n,T,N_ ⟨_,_,_,_,rfl,rfl,R,rfl,AN rfl ⟨_,_,_,_,_,_,rfl,S,hc,U.mono ∅,W.mono ∅,z4.mono ∅,z5.mono ∅,_,rfl,Am (λg=>?_) (λg=>C e u B λy' G=>?_)⟩⟩⟩))))
   ·refine ⟨_,λ_ _ h=>h,⟨_,rfl,_,_,rfl,rfl,?_⟩⟩;refine ⟨d.length - (e+1),⋯,e+1,⋯,λa ha=>?_,rfl,rfl,rfl⟩;rw [ES D] at ha;rcases CK.mp ha with c | c
    ·exact B a c
    ·rw [Ap.mp c];exact (TX ly M).mp (qW g)
   ·rw [D] at G;cases G;exact λz=>g (qV ((TX ly M).mpr z))
  ·have ge:d.length<=e:=by have:=of_decide_eq_false (Bool.eq_false_iff.mpr P);omega
   have:=(BF.mp D).1;omega
 ·rintro m J ⟨g,v,A,d,N,rfl,I,n,o⟩;rw [wl,CW] at o;refine CU (Eh (AN rfl ⟨_,_,rfl,n,λf hf=>?_⟩));have s3:=AL hf (.tup d);exact k f N _ (I.trans s3) ⟨d,upd_same,o.lg.tp (C' s3),o.lo⟩ (o.g.can (.refl _) (sI o.asc))
theorem Mi {K:W.Frag} {c:TE} {g:TG} {d rest:TS} {D:Ends} {b:L2.St} {H:Hp} (h:c b H (λx e=>∃ a,x=.ref a/\(∃ f,SqT K e a f)/\ForT K a g d { D with nx:=rest D } b e)):AH (Bh (DG K c) g d) rest D b H:=h
theorem sM {l m:cI} {g:cO} (Gl:Gq 100 100 l) (f:Gq 100 100 m) (y:l≠[]) (q:m≠[]) (A:l.length<=8) (u:m.length<=8) (R:RC (co (AR l)) (co (AR m)) g) (P:Prim g) :
  Gq 196 196 (G_ g)/\G_ g≠[]/\(G_ g).length<=8/\MR (B_ (G_ g)) (B_ l)/\MR (B_ (G_ g)) (B_ m)/\(∃ n,Sr.Ms n (sr (G_ g)))/\∀ c d,(∀ k,B_ l k=cv (B_ c) (B_ (G_ g)) c.length k)->(∀ k,B_ m k=cv (B_ d) (B_ (G_ g)) d.length k)->Sr.Cs (sr c) (sr d):=by
 have a:=R.lz;have j:Fp 196 (AR m):=Ir f q (n:=8) (e:=4) u ∅;have o:Lz (AR m):=DM (EO f.low f.nz) λz=>q (CI.mp (by rw [<-Bp,z];rfl));have B:g.length<=m.length:=by have:=Fs a o R.right;rwa [Bp] at this
 have p:=j g a P R.right;have r:G_ g≠[]:=Bk.mp (by rw [DY];exact a.1);have h:B_ (G_ g) ((G_ g).length - 1)≠0:=DN (Ft a) (Gi a) r;refine ⟨⟨Ft a,Gi a,_,(Gj a.2 (Gh p)).1,(p (g.length - 1)).le ⋯,(Gj a.2 (Gh p)).2⟩,r,by rw [DY];omega,MR.of (Fu a) (EQ Gl.low) (D3 a) R.left,MR.of (Fu a) (EQ f.low) (D3 a) R.right,⟨g.length - 1,?_,λk hk=>?_⟩,λc d v w=>sr_cop.mp ?_⟩
 ·show B_ (G_ g) (g.length - 1)=1;rw [D3 a];exact Rat.inv_mul_cancel _ (Au a.2)
 ·exact Bt (by rw [DY];have:=a.1;omega)
 ·obtain ⟨U,W,x⟩:=SY Gl.low f.low R;exact SX (t:=rw' c) (b:=rw' d) (Hg c) (Hg d) h (λi C=>Bt ⋯) (λk=>(v k).trans (Hh _ _ _)) (λk=>(w k).trans (Hh _ _ _)) x
theorem Lgs.snoc {H:Hp} {ws:cM} {L:cD} {t c w:Addr} {q:Nu×cI} (h:Lgs H ws L) (a:H t=some (.tup [.ref c,.ref w])) (b:Nm H c q.1.1 q.1.2) (d:Pl H w q.2):Lgs H (ws++[.ref t]) (L++[q]):=h.app (vs:=[.ref t]) (M:=[q]) ⟨⟨t,c,w,rfl,a,b,d⟩,trivial⟩
theorem Mj {x y:Nat} {q r:Nu} (f:0<q.2) (g:0<r.2) (a:Bd x q.1) (b:Bd y q.2) (c:Bd x r.1) (d:Bd y r.2):Bd (x+y+1) (I_ q r).1/\Bd (y+y) (I_ q r).2:=by
 have e:=CB f g;have w:=II (CT e) e (Fg (n:=q.1*r.2+r.1*q.2) e);exact ⟨(Bd.add (a.mul d) (c.mul b)).le w.1,(b.mul d).le w.2⟩
theorem Ml {x y:Nat} {q r:Nu} (f:0<q.2) (g:0<r.2) (a:Bd x q.1) (b:Bd y q.2) (c:Bd x r.1) (d:Bd y r.2):Bd (x+x) (F_ q r).1/\Bd (y+y) (F_ q r).2:=by
 have e:=CB f g;have w:=II (CT e) e (Fg (n:=q.1*r.1) e);exact ⟨(a.mul c).le w.1,(b.mul d).le w.2⟩
theorem Pts2.row {R:cK} (P:Pts2 R) {φ:Rat->Rat->Bool} {l:cI} (a:AV l) (b:Nz l) (e:sr l=Sr.Pi φ R):Gq 100 100 l/\l.length<=8/\l≠[]/\∃ n,Sr.Ms n (sr l):=by
 obtain ⟨c,d,G,f⟩:=P.sz φ;have g:c=l:=Gn G.low a G.nz b (d.trans e.symm);subst g;obtain ⟨n,m,_⟩:=Sr.Pi.ms φ P.pr;rw [<-e] at m;exact ⟨G,f,λz=>m.ne (by rw [z];exact KW),n,m⟩
noncomputable def b_ (M:cD):List Rat:=(M.map λq=>val q.1).reverse
theorem sO (M:cD) (y:Nu×cI):b_ (M++[y])=val y.1::b_ M:=by unfold b_;rw [Bq,List.reverse_append];rfl
theorem Pz.app {d:Nat} {L M:cD} (h:Pz d L) (k:Pz d M):Pz d (L++M):=λq a=>(CK.mp a).elim (h q) (k q)
structure Lp (H:Hp) (R:cK) (c:Rat) (i:Nat) (ns:List Rat) (u:Addr) (lf:cI) (xs:cM) (L:cD):Prop where
 lg:Lgs H xs L
 lo:LgO L
 pz:Pz 0 L
 len:L.length=2*i
 eq:lv L=Sr.Pcs R c ns
 pl:Pl H u lf
 low:AV lf
 nz:Nz lf
 el:sr lf=Sr.Pi (λa b=>decide (b=c) && !decide (a∈ns)) R
theorem sP {K:W.Frag} {H0 H:Hp} {D:Ends} {l c w s u n v:Addr} {x7:cN} {R:cK} {q:Nu} {i:Nat} {C:List Rat} {lf:cI} {xs:cM} {L:cD} {y:Nu×cI} (P:Pts2 R) (s0:Same H0 H) (Z:H0 s=none) (hs:H s=some (.lst xs)) (h:Lp H R (val q) i C u lf xs L) (i7:i<7) (hc:Nm H c q.1 q.2) (lq:Low q.1 q.2) (bq:Bd 40 q.1/\Bd 40 q.2) (hn:Nm H n y.1.1 y.1.2) (hv:Pl H v y.2) (F:Low y.1.1 y.1.2/\AV y.2/\Nz y.2) (G:Bd 40 y.1.1) (I:Bd 40 y.1.2) (ey:sr y.2=Sr.wa R (val y.1)) (nn:val y.1∉C)
  (nx:∀ H' u' ao ar a0 L',Same H0 H'->H' s=some (.lst a0)->Lp H' R (val q) (i+1) (val y.1::C) u' ar a0 L'->D.nx [some (.ref l),some (.ref c),some (.ref w),some (.ref s),some (.ref u'),some (.ref n),some (.ref v),ao] H'):Qy K D [some (.ref l),some (.ref c),some (.ref w),some (.ref s),some (.ref u),some (.ref n),some (.ref v),x7] H:=by
 obtain ⟨Gl,l8,l0,n1,m1⟩:=P.row h.low h.nz h.el;obtain ⟨Gy,y8,y0,n2,m2⟩:=P.row F.2.1 F.2.2 ey;obtain ⟨us,hu,hU⟩:=h.pl;obtain ⟨ys,hy,hY⟩:=hv;have b0:Fp 196 (AR lf):=Ir Gl l0 (n:=8) (e:=4) l8 ∅;have b1:Fp 196 (AR y.2):=Ir Gy y0 (n:=8) (e:=4) y8 ∅;refine DL (AN rfl (AN rfl ⟨_,_,us,ys,lf,y.2,100,100,196,4,14,rfl,hu,hy,hU,hY,Gl,Gy,∅,∅,⋯,⋯,λ_ _=>⟨b0,b1⟩,⋯,⋯,∅,∅,λz=>absurd z l0,λ_ g b2 Pg r zs H3 s3 hr hz=>?_⟩));obtain ⟨T,g0,g8,M1,M2,⟨m,mg⟩,cs⟩:=sM Gl Gy l0 y0 l8 y8 b2 Pg;have bb:0<(G_ g).length:=Bk.mpr g0;refine DL (AN rfl (AN rfl ⟨_,_,us,zs,lf,G_ g,100,100,196,196,rfl,s3 _ _ hu,hr,hU.tp (C' s3),hz,Gl,T,g0,⋯,⋯,⋯,⋯,∅,∅,M1,λu4 U H4 s4 P0 b3 b4 ba e0=>?_⟩));have k:=s3.trans s4;show Qx K _ _ _;refine ⟨_,rfl,.inl ⟨rfl,_,SqL.of (k _ _ hs)⟩,Hm (Bv (AN rfl (Bb (AN rfl (AN rfl ⟨_,_,ys,zs,y.2,G_ g,100,100,196,196,rfl,k _ _ hy,s4 _ _ hr,hY.tp (C' k),hz.tp (C' s4),Gy,T,g0,⋯,⋯,⋯,⋯,∅,∅,M2,λv5 B H5 s5 P1 lo1 a3 b5 e1=>⟨Az,λj b6=>?_⟩⟩)))))⟩;have X:=AL b6 (.tup [.ref n,.ref v5]);have a4:(upd H5 j (.tup [.ref n,.ref v5])) j=some (HO.tup [V.ref n,V.ref v5]):=upd_same;have d:=k.trans (s5.trans X);have a5:=P0.same (s5.trans X);have a6:=P1.same X;have a7:=(s4.trans (s5.trans X)) _ _ hr;have ab:=hz.tp (C' (s4.trans (s5.trans X)));generalize upd H5 j (.tup [.ref n,.ref v5])=Y at X a4 d a5 a6 a7 ab ⊢;have xl:=h.lg.len;have Ll:=h.len;have ac:=d _ _ hs;refine ⟨_,_,_,rfl,rfl,ac,Iz ⋯,?_⟩;have p:Tp Y (upd Y s (.lst (xs++[V.ref j]))):=Hn ac;have J:(upd Y s (.lst (xs++[V.ref j]))) s=some (HO.lst (xs++[V.ref j])):=upd_same;have ae:Same H0 (upd Y s (.lst (xs++[V.ref j]))):=λb o M=>(Ad (BM M Z)).trans (d _ _ (s0 _ _ M));generalize upd Y s (.lst (xs++[V.ref j]))=H7 at p J ae ⊢;show Qw K _ _ _;refine ⟨_,rfl,.inl ⟨rfl,_,SqL.of J⟩,Hm (Bv (Bb (AN rfl (AN rfl ⟨_,_,_,_,_,_,rfl,p _ _ (d _ _ hn),p _ _ (d _ _ hc),F.1.pos,lq.pos,G.mono ∅,I.mono ∅,bq.1.mono ∅,bq.2.mono ∅,λA b9=>AN rfl ⟨Az,λt8 aj=>?_⟩⟩))))⟩;have s8:=(AL b9 (.tup [.int (I_ (y.1.1,y.1.2) (q.1,q.2)).1,.int (I_ (y.1.1,y.1.2) (q.1,q.2)).2])).trans (AL aj (.tup [.ref A,.ref r]));have al:=AL aj (.tup [.ref A,.ref r]) _ _ (upd_same (H:=H7) (a:=A) (o:=HO.tup [V.int (I_ (y.1.1,y.1.2) (q.1,q.2)).1,V.int (I_ (y.1.1,y.1.2) (q.1,q.2)).2]));have am:=upd_same (H:=upd H7 A (.tup [.int (I_ (y.1.1,y.1.2) (q.1,q.2)).1,.int (I_ (y.1.1,y.1.2) (q.1,q.2)).2])) (a:=t8) (o:=HO.tup [V.ref A,V.ref r]);show GP _ _ (upd (upd H7 A (.tup [.int (I_ (y.1.1,y.1.2) (q.1,q.2)).1,.int (I_ (y.1.1,y.1.2) (q.1,q.2)).2])) t8 (.tup [.ref A,.ref r])) _;generalize upd (upd H7 A (.tup [.int (I_ (y.1.1,y.1.2) (q.1,q.2)).1,.int (I_ (y.1.1,y.1.2) (q.1,q.2)).2])) t8 (.tup [.ref A,.ref r])=H8 at s8 al am ⊢;have an:=s8 _ _ J;refine ⟨_,_,_,rfl,rfl,an,Iz (by rw [Bw];show xs.length+1<_;omega),?_⟩;have N:Tp H8 (upd H8 s (.lst ((xs++[V.ref j])++[V.ref t8]))):=Hn an;have f:Tp Y (upd H8 s (.lst ((xs++[V.ref j])++[V.ref t8]))):=λb o M=>N b o (s8 _ _ (p b o M));have z0:=Cl e0;have z1:=Cl e1;have pr:=P.pr;have s1:Sr.Pi (λa b=>decide (b=val q) && !decide (a∈C)) R=sr (G_ g)*sr U:=by rw [<-h.el,z0];ext
 have t1:Sr.Pi (λa _=>decide (a=val y.1)) R=sr (G_ g)*sr B:=by
  have:sr y.2=Sr.Pi (λa _=>decide (a=val y.1)) R:=ey;rw [<-this,z1];ext
 have eg:=Sr.Pi.common pr mg (Af U) (Af B) (cs U B e0 e1) s1 t1;have k0:sr U=Sr.Pi (λa b=>(decide (b=val q) && !decide (a∈C)) && !decide (a=val y.1)) R:=Sr.Pi.over (φ:=λa b=>decide (b=val q) && !decide (a∈C)) (ψ:=λa _=>decide (a=val y.1)) pr (Af U) (by rw [<-eg,s1];ext)
 have O:sr (G_ g)=Sr.Pi (λa b=>decide (a=val y.1) && decide (b=val q)) R:=by
  rw [eg];refine Sr.Pi.congr λx _=>?_;by_cases a1:x.1=val y.1 <;> by_cases a2:x.2.1=val q <;> simp [a1,a2,nn]
 have k1:sr B=Sr.Pi (λa b=>decide (a=val y.1) && !decide (b=val q)) R:=Sr.Pi.over (φ:=λa _=>decide (a=val y.1)) (ψ:=λ_ b=>decide (b=val q)) pr (Af B) (by rw [<-O,t1];ext);obtain ⟨GR,R8,_,n3,m3⟩:=P.row lo1 a3 k1;obtain ⟨GG,G8,_,_⟩:=P.row T.low T.nz O;have nb:=Mj (q:=y.1) (r:=q) F.1.pos lq.pos G I bq.1 bq.2;have nl:Low (I_ y.1 q).1 (I_ y.1 q).2:=CT (CB F.1.pos lq.pos);refine nx _ u4 _ U _ (L++[(y.1,B)]++[(I_ y.1 q,G_ g)]) (λb o M=>(Ad (BM M Z)).trans (s8 _ _ (ae _ _ M))) upd_same ⟨?_,?_,?_,?_,?_,a5.tp f,b3,b4,?_⟩
 ·exact (((h.lg.tp (C' d)).tp f).snoc (q:=(y.1,B)) (f _ _ a4) (f _ _ (d _ _ hn)) (a6.tp f)).snoc (q:=(I_ y.1 q,G_ g)) (N _ _ am) (N _ _ al) ⟨zs,f _ _ a7,ab.tp f⟩
 ·refine (h.lo.app λx S=>?_).app λx S=>?_
  ·rw [Ap.mp S];exact ⟨F.1,lo1,a3⟩
  ·rw [Ap.mp S];exact ⟨nl,T.low,T.nz⟩
 ·refine (h.pz.app λx S=>?_).app λx S=>?_
  ·rw [Ap.mp S];exact ⟨GR,R8,⟨n3,m3⟩,G.mono ∅,I.mono ∅⟩
  ·rw [Ap.mp S];exact ⟨GG,G8,⟨m,mg⟩,nb.1.mono ∅,nb.2.mono ∅⟩
 ·rw [Bw,Bw,Ll];show 2*i+1+1=_;omega
 ·rw [Ep,Ep,h.eq,List.append_assoc];show Sr.Pcs R (val q) C++[(val y.1,sr B),(val (I_ y.1 q),sr (G_ g))]=_;rw [k1,O,Jg F.1.pos lq.pos];rfl
 ·rw [k0];refine Sr.Pi.congr λx _=>?_;by_cases a1:x.1=val y.1 <;> by_cases a2:x.2.1=val q <;> simp [a1,a2]
theorem sQ (h:Ls K vs H Q E):zG K { nx:=λ_ e=>Q .non e,rt:=Q } (L2.start ["logs","c","part","pieces","left","number","v","shared"] vs) H:=by
 obtain ⟨l,c,w,M,q,v,R,rfl,⟨ws,hl,PL,oL⟩,p,P,hc,X,nq,Pw,Y,Z,ev,k⟩:=h;obtain ⟨F,m7⟩:=Ix P oL p;have bq:=nq.low X;have wl:=PL.len;refine ⟨sz ∅,λs hs=>?_⟩;have s1:=AL hs (.lst []);have h1:(upd H s (.lst [])) s=some (HO.lst []):=upd_same;generalize upd H s (.lst [])=H1 at s1 h1 ⊢;show Q0 K _ _ _;refine Bc (AN rfl ?_);have nd:(M.map λq=>val q.1).Nodup:=by have:=p.nodup;unfold lv at this;rw [BX] at this;exact this
 refine Mi (AN rfl ⟨_,rfl,⟨_,SqT.of (s1 _ _ hl)⟩,ForT.by (xs:=ws) (λi O e=>∃ (S T U:cN) (u:Addr) (A:cI) (j:cM) (L:cD),O=[some (.ref l),some (.ref c),some (.ref w),some (.ref s),some (.ref u),S,T,U]/\Same H e/\e s=some (.lst j)/\Lp e R (val q) i (b_ (M.take i)) u A j L) ⟨none,none,none,w,v,[],[],rfl,s1,h1,⟨trivial,(λ_ h=>nomatch h),(λ_ h=>nomatch h),rfl,rfl,Pw.same s1,Y,Z,?_⟩⟩ ?_ ?_ ?_⟩)
 ·rw [ev];refine Sr.Pi.congr λx _=>?_;show _=(_ && !decide (x.1∈[]));simp
 ·rintro i O e _ ⟨S,T,U,u,A,j,L,rfl,s,_⟩;exact s _ _ hl
 ·rintro i x O W m ⟨S,T,U,u,A,j,L,rfl,C,B,b⟩;have lt:i<ws.length:=(BF.mp m).1;obtain ⟨y,G,t,n,v2,rfl,ht,hn,Pv⟩:=(PL.tp (C' C)).get m;have my:=Ay G;obtain ⟨_,_,_,y1,y2,_,y4⟩:=F y my;refine ⟨_,_,rfl,ht,rfl,_,_,rfl,_,_,rfl,rfl,?_⟩;refine sP P C hs B b ⋯ (C _ _ hc) X bq hn Pv (oL y my) y1 y2 y4 (λz=>?_) λe u' a0 a4 a5 L' a1 a2 a3=>⟨_,_,a0,u',a4,a5,L',rfl,a1,a2,by rw [ES G,sO];exact a3⟩;unfold b_ at z;rw [List.mem_reverse] at z;rw [Mh G,Bq] at nd;exact (List.nodup_append.mp nd).2.2 _ z _ (BL ..) rfl
 ·rintro O W ⟨S,T,U,u,A,j,L,rfl,C,B,b⟩;rw [wl,CW] at b;show Qz K _ _ _;have xl:=b.lg.len;have Ll:=b.len;obtain ⟨Gl,l8,l0,n1,m1⟩:=P.row b.low b.nz b.el;refine CU (BS (A5 (AN rfl (IQ (Bv (AN rfl (AN rfl ⟨Az,λt ht=>⟨C8,λf hf=>?_⟩⟩)))))));have D:=(AL ht (.tup [.ref c,.ref u])).trans (AL hf (.lst [.ref t]));have I:=AL hf (.lst [.ref t]) _ _ (upd_same (H:=W) (a:=t) (o:=HO.tup [V.ref c,V.ref u]));have J:=upd_same (H:=upd W t (.tup [.ref c,.ref u])) (a:=f) (o:=HO.lst [V.ref t]);generalize upd (upd W t (.tup [.ref c,.ref u])) f (.lst [.ref t])=H3 at D I J ⊢;refine ⟨_,_,_,_,rfl,rfl,D _ _ B,J,sz (by show j.length+1<=_;omega),λg hg=>?_⟩;have s4:=AL hg (.lst (j++[V.ref t]));refine ⟨g,j++[V.ref t],L++[(q,A)],rfl,upd_same,((b.lg.tp (C' D)).snoc (q:=(q,A)) I (D _ _ (C _ _ hc)) (b.pl.same D)).tp (C' s4),b.lo.app λx m=>?_,b.pz.app λx m=>?_,by rw [Bw,Ll];show 2*M.length+1<=15;omega,λr M' e s5 lg N=>k r M' e ((C.trans D).trans (s4.trans s5)) lg (N.congr λd d0=>?_)⟩
  ·rw [Ap.mp m];exact ⟨X,b.low,b.nz⟩
  ·rw [Ap.mp m];exact ⟨Gl,l8,⟨n1,m1⟩,bq.1.mono ∅,bq.2.mono ∅⟩
  ·rw [Ep,b.eq,show sr A=_ from b.el];refine Sr.wa_plus d0 (List.pairwise_reverse.mpr (nd.imp Ne.symm)) (λn hn=>?_) λx m x0=>?_
   ·obtain ⟨y,G,rfl⟩:=AU.mp (List.mem_reverse.mp hn);exact (F y G).2.2.2.2.2.1
   ·have:=p.keys P.pr x m x0;unfold lv at this;rw [BX] at this;exact List.mem_reverse.mpr this
theorem sR (h:Lu K vs H Q E):Z6 K { nx:=λ_ e=>Q .non e,rt:=Q } (L2.start ["P"] vs) H:=by
 obtain ⟨v,rfl,k⟩:=h;refine CU (Bv (AN rfl (LW (Bv (N_ (N_ ⟨Az,λa f=>⟨C8,λb g=>⟨Az,λc i=>?_⟩⟩⟩))))));have s1:=AL g (.tup [.ref a]);have d:=AL i (.tup [v,.ref b]);exact k c b _ ((AL f _).trans (s1.trans d)) upd_same ⟨_,d _ _ upd_same,⟨a,rfl,d _ _ (s1 _ _ upd_same)⟩,trivial⟩
theorem sU {q:Nu} (l:Low q.1 q.2) (b:Bd 40 q.1) (c:Bd 40 q.2):Gq 40 40 (trim [q]):=by
 refine ⟨λx a=>by rw [Ap.mp (DJ a)];exact l,FC _,q.2,⟨l.pos,λx a=>by rw [Ap.mp (DJ a)];exact Int.dvd_refl _⟩,c,λz d=>?_⟩;obtain ⟨x,a,rfl⟩:=AU.mp d;rw [Ap.mp (DJ a),Int.ediv_self (AW l.pos),Int.mul_one];exact b
theorem sV (h:KE K vs H Q E):Z7 K { nx:=λ_ g=>Q .non g,rt:=Q } (L2.start ["c"] vs) H:=by
 obtain ⟨c,q,rfl,i,d,j,m,k⟩:=h;refine CU (BS (BS (IQ (AN rfl ⟨C8,λa n=>?_⟩))));have f:=AL n (.lst [.ref c]);refine ⟨a,[.ref c],[q],rfl,upd_same,⟨⟨c,rfl,f _ _ i⟩,trivial⟩,(show 1<=1000 by decide),λr o D s1 p u=>⟨.ref r,rfl,λt w v b y z=>?_⟩⟩;have G:=sU d j m;have A:Lw (trim [q]) [(1,1)]:=lw1 G.low G.nz;have B:=FE [q];refine k t (trim [q]) [(1,1)] v ((f.trans s1).trans b) ⟨r,w,y,⟨o,b _ _ p,u.tp (C' b)⟩,z⟩ (Rp.of A G Me (by simp) B (AO _) rfl ∅ ∅) ?_
 have e:sr (trim [q])=Sr.num (val q):=Sr.ext' λk=>by
  show B_ (trim [q]) k=val q*Ak k;rw [Fh λx C=>by rw [Ap.mp C];exact d];cases k with
  | zero=>
    rw [show (Ak 0:Rat)=1 from rfl];show val q=val q*1;ext
  | succ k=>
    rw [show (Ak (k+1):Rat)=0 from rfl,Bt (by simp)];ext
 rw [e,Gp]
theorem Fo.fx {H:Hp} {o:Addr} {b n m:Nat} {N D:Sr} {M:cD} (h:Fo H o b n m N D M):∃ f l,H o=some (.tup [.ref f,.ref l])/\Fx H f b n m N D/\Lg H l M:=by
 obtain ⟨f,l,T,B,g,i,j,⟨a,c,d,e⟩,k⟩:=h;exact ⟨f,l,g,⟨T,B,i,j,a,c,d,e⟩,k⟩
theorem Fo.of {H:Hp} {o f l:Addr} {b n m b' g h:Nat} {N D:Sr} {M:cD} (i:H o=some (.tup [.ref f,.ref l])) (j:Fx H f b n m N D) (k:Lg H l M) (p:b<=b') (q:n<=g) (r:m<=h):Fo H o b' g h N D M:=by
 obtain ⟨T,B,u,v,a,c,d,e⟩:=j;exact ⟨f,l,T,B,i,u,v.mono p q r,⟨a,c,d,e⟩,k⟩
theorem Fo.same {H a:Hp} {o:Addr} {b n m:Nat} {N D:Sr} {M:cD} (h:Fo H o b n m N D M) (s:Same H a):Fo a o b n m N D M:=by
 obtain ⟨f,l,T,B,c,d,e,w,g⟩:=h;exact ⟨f,l,T,B,s _ _ c,d.same s,e,w,g.same s⟩
theorem Fo.mono {H:Hp} {o:Addr} {b n m b' a c:Nat} {N D:Sr} {M:cD} (h:Fo H o b n m N D M) (d:b<=b') (e:n<=a) (g:m<=c):Fo H o b' a c N D M:=by
 obtain ⟨f,l,i,j,k⟩:=h.fx;exact Fo.of i j k d e g
noncomputable def Rs (R:cK) (M:cD):cK:=(M.map λq=>val q.1).foldl (λR c=>Sr.stp c R) R
theorem TZ {R:cK} {M:cD} (c:(M.map λq=>val q.1).Nodup):Rs R M=mp (λa b=>if b∈M.map (λq=>val q.1) then a+b else a) (λ_ b=>b) R:=Sr.stps c R
theorem sW (h:KF K vs H Q E):zJ K { nx:=λ_ z=>Q .non z,rt:=Q } (L2.start ["one","other","logs","c","v"] vs) H:=by
 obtain ⟨o,p,N,D,N',D',M,g,R,rfl,fo,fp,L,d,P,X,k⟩:=h;obtain ⟨f,l,Y,fx,lg⟩:=fo.fx;obtain ⟨f',l',hp,O,ws,A,Z,oL⟩:=fp.fx;have P':Pts2 (mp (λ_ b=>b) (λa _=>a) R):=P.mp _ _ λq w=>(X q w).1;obtain ⟨S,m7⟩:=Ix P' oL d;have wl:=Z.len;have T:(g.map λq=>val q.1).Nodup:=by have:=d.nodup;unfold lv at this;rw [BX] at this;exact this
 have B:∀ i,((g.take i).map λq=>val q.1).Nodup:=λi=>by
  have e:=GA i g;rw [<-e,Bq] at T;exact (List.nodup_append.mp T).1
 have PR:∀ i,Pts2 (Rs R (g.take i)):=λi=>by
  rw [TZ (B i)];refine P.mp _ _ λq w=>?_;show Nb (if _ then _ else _);split
  ·exact (X q w).2
  ·exact P.na q w
 refine Bc (B7 rfl Y rfl ?_);show Q6 K _ _ _;refine Mi (B7 rfl hp rfl ⟨_,rfl,⟨_,SqT.of A⟩,ForT.by (xs:=ws) (λi F z=>∃ (G I:cN) (l2:Addr) (m:cD),F=[some (.ref o),some (.ref p),some (.ref l2),G,I]/\Same H z/\Lg z l2 m/\Sr.Can (Sr.wa (Rs R (g.take i))) (lv m)) ⟨none,none,l,M,rfl,Same.refl H,lg,L⟩ ?_ ?_ ?_⟩)
 ·rintro i F z _ ⟨G,I,l2,m,rfl,s,_⟩;exact s _ _ A
 ·rintro i x F H2 hx ⟨G,I,l2,m,rfl,j,u,c⟩;obtain ⟨y,hy,t,n,v,rfl,ht,hn,Pv⟩:=(Z.tp (C' j)).get hx;have my:=Ay hy;obtain ⟨_,_,_,y1,y2,_,y4⟩:=S y my;obtain ⟨ly,lo,nz⟩:=oL y my;refine ⟨_,_,rfl,ht,rfl,_,_,rfl,_,_,rfl,rfl,?_⟩;refine IT (ZG (AN rfl (AN rfl (AN rfl ⟨_,_,_,m,y.1,y.2,Rs R (g.take i),rfl,u,c,PR i,hn,ly,⟨y.1.1,y.1.2,ly.pos,rfl,y1,y2⟩,Pv,lo,nz,?_,λr N3 H3 J U C=>⟨_,_,r,N3,rfl,j.trans J,U,?_⟩⟩))))
  ·rw [y4,TZ (B i),D4];show Sr.Pi _ (mp _ _ R)=_;rw [D4]
  ·have e:Rs R (g.take (i+1))=Sr.stp (val y.1) (Rs R (g.take i)):=by
    unfold Rs;rw [ES hy,Bq,List.foldl_append];rfl
   rw [e];exact C
 ·rintro F H2 ⟨G,I,l2,m,rfl,j,u,c⟩;rw [wl,CW] at c
  have e:Rs R g=mp (λa b=>a+b) (λ_ b=>b) R:=Sr.stps_all T λq w q0=>by
   have:=d.keys P'.pr (q.2.1,q.1,q.2.2) (AU.mpr ⟨q,w,rfl⟩) q0;unfold lv at this;rw [BX] at this;exact this
  rw [e] at c;show Q5 K _ _ _;refine CU (Bv (Bb (B7 rfl (j _ _ Y) rfl (B7 rfl (j _ _ hp) rfl (Sz (fx.same j) (O.same j) 3 ∅ λt H3 J F3=>AN rfl ⟨Az,λr hr=>?_⟩)))));have W:=AL hr (.tup [.ref t,.ref l2]);exact k r m _ (j.trans (J.trans W)) (Fo.of upd_same (F3.same W) (u.same (J.trans W)) ∅ ∅ ∅) c
theorem sX (h:KG K vs H Q E):zK K { nx:=λ_ A=>Q .non A,rt:=Q } (L2.start ["form","c","pieces"] vs) H:=by
 obtain ⟨o,c,N,D,M,q,R,rfl,fo,B,P,hc,C,S,T,k⟩:=h;obtain ⟨f,l,ho,fx,U,hl,PL,F⟩:=fo.fx;obtain ⟨I,m7⟩:=Ix P F B;have wl:=PL.len;refine Bc (Jr (B7 rfl ho rfl ⟨_,rfl,⟨_,SqT.of hl⟩,CompJ.tup (xs:=U) (λi g A=>i<=U.length/\Same H A/\Lgs A g ((M.take i).map λy=>(F_ y.1 q,y.2))) ⟨Ae _,Same.refl H,trivial⟩ ?_ ?_ ?_⟩))
 ·rintro i g A ⟨hi,s,h⟩;exact ⟨hi,sz (by rw [h.len,AG,CC];omega),s _ _ hl⟩
 ·rintro i x g W u ⟨hi,J,h⟩;have lt:i<U.length:=(BF.mp u).1;obtain ⟨y,j,t,n,v,rfl,ht,hn,Pv⟩:=(PL.tp (C' J)).get u;have my:=Ay j;obtain ⟨_,_,_,X,Y,_,_⟩:=I y my;refine ⟨_,_,rfl,ht,rfl,_,_,rfl,_,_,rfl,rfl,?_⟩;refine Bv (Bb (AN rfl (AN rfl ⟨_,_,_,_,_,_,rfl,hn,J _ _ hc,(F y my).1.pos,C.pos,X.mono ∅,Y.mono ∅,S.mono ∅,T.mono ∅,λa ha=>AN rfl ⟨Az,λt8 Z=>?_⟩⟩)));have z:=AL ha (.tup [.int (F_ (y.1.1,y.1.2) (q.1,q.2)).1,.int (F_ (y.1.1,y.1.2) (q.1,q.2)).2]);have m:=AL Z (.tup [.ref a,.ref v]);refine ⟨lt,J.trans (z.trans m),?_⟩;rw [ES j,Bq];exact (h.tp (C' (z.trans m))).snoc (q:=(F_ y.1 q,y.2)) upd_same (m _ _ upd_same) (Pv.same (z.trans m))
 ·rintro g W ⟨_,J,h⟩ w hw;rw [wl,CW] at h;have z:=AL hw (.lst g);have L:(upd W w (.lst g)) w=some (HO.lst g):=upd_same;have h3:=h.tp (C' z);have b:=J.trans z;generalize upd W w (.lst g)=H3 at L h3 b ⊢;show Q7 K _ _ _;refine CU (Bv (Bb (B7 rfl (b _ _ ho) rfl (BS (AN rfl ⟨c,q,rfl,b _ _ hc,C,S,T,λr4 T4 B4 H4 m a0 a4 e4=>?_⟩)))));have a5:Fx H4 r4 42 1 1 (Sr.num (val q)) 1:=⟨T4,B4,a0,a4,Sr.Pol.num _,Sr.Pol.nat 1,MW,e4⟩;refine S3 ((fx.same b).same m) a5 3 ∅ λt H5 s5 F5=>BS (AN rfl ?_);have p:=m.trans s5;refine ⟨w,g,M.map λy=>(F_ y.1 q,y.2),rfl,p _ _ L,h3.tp (C' p),λx u=>?_,λx u=>?_,by rw [AG];omega,λr M2 H6 s6 a6 O=>⟨Az,λr7 a7=>?_⟩⟩
  ·obtain ⟨y,j,rfl⟩:=AU.mp u;obtain ⟨a1,a2,a3⟩:=F y j;exact ⟨CT (CB a1.pos C.pos),a2,a3⟩
  ·obtain ⟨y,j,rfl⟩:=AU.mp u;obtain ⟨G,l8,⟨n,ms⟩,X,Y,_,_⟩:=I y j;have nb:=Ml (q:=y.1) (r:=q) (F y j).1.pos C.pos X Y S T;exact ⟨G,l8,⟨n+1,ms⟩,nb.1.mono ∅,nb.2.mono ∅⟩
  ·have s7:=AL a7 (.tup [.ref t,.ref r]);have e1:D*1=D:=by ext
   rw [e1] at F5;have F7:=F5.same (s6.trans s7);refine k r7 M2 _ (b.trans (p.trans (s6.trans s7))) (Fo.of upd_same F7 (a6.same s7) ∅ ∅ ∅) (O.congr λd d0=>?_)
   ·have e:lv (M.map λy=>(F_ y.1 q,y.2))=(lv M).map λx=>(x.1*val q,x.2):=by
     unfold lv;rw [BX,BX];refine Cf λy j=>?_;show (val (F_ y.1 q),sr y.2)=(val y.1*val q,sr y.2);rw [IJ (F y j).1.pos C.pos]
    rw [e];exact B.scl (val q) d0
theorem sY (h:Lv K vs H Q E):yZ K { nx:=λ_ a=>Q .non a,rt:=Q } (L2.start ["_law_found","_law_pair"] vs) H:=by
 obtain ⟨p,M,rfl,⟨g,hp,j,w⟩,m,k⟩:=h;refine Ei ⟨_,rfl,_,_,true,rfl,HC hp,true,rfl,Am (λz=>nomatch z) (λ_=>?_)⟩;refine Mi (AN rfl ⟨_,rfl,⟨_,SqT.of hp⟩,ForT.by (xs:=g) (λi b a=>∃ c,b=[some (.ref p),c]/\Same H a) ⟨_,rfl,Same.refl H⟩ ?_ ?_ ?_⟩)
 ·rintro i b a _ ⟨c,rfl,s⟩;exact s _ _ hp
 ·rintro i x b f o ⟨c,rfl,d⟩;obtain ⟨y,q,t,n,v,rfl,e,r,Pv⟩:=(j.tp (C' d)).get o;refine ⟨_,rfl,_,_,true,rfl,HC e,true,rfl,?_⟩;refine ⟨_,rfl,_,_,rfl,e,rfl,_,rfl,?_⟩;refine BS (B7 rfl e rfl ⟨_,_,_,rfl,r,true,rfl,?_⟩);refine BS (B7 rfl e rfl ⟨_,_,rfl,Pv,m y (Ay q),λA u=>⟨true,rfl,?_⟩⟩);exact ⟨_,rfl,d.trans u⟩
 ·rintro b f ⟨c,rfl,d⟩;exact k f d
theorem sZ (h:KH K vs H Q E):xA K { nx:=λ_ a=>Q .non a,rt:=Q } (L2.start ["_law_found"] vs) H:=by
 obtain ⟨p,b,n,m,N,D,M,rfl,⟨f,l,T,B,hp,c,d,_,g⟩,i,j,o,k⟩:=h;obtain ⟨_,_,r,u,_⟩:=d.facts (e:=6) i j;refine CU ⟨_,rfl,_,_,true,rfl,HC hp,true,rfl,?_⟩;rw [qU rfl];refine ⟨_,rfl,_,_,rfl,hp,rfl,true,rfl,?_⟩;rw [qU rfl];refine BS (B7 rfl hp rfl ⟨_,T,B,rfl,c,⋯,⋯,λv s1=>⟨true,rfl,?_⟩⟩);rw [qU rfl];exact BS (B7 rfl (s1 _ _ hp) rfl ⟨_,M,rfl,g.same s1,o,λw q=>k _ (s1.trans q)⟩)
theorem rA:∀ q∈poolN,B_ q.2 q.1=1:=by decide +kernel
theorem Ta:∀ q∈poolN,rw' q.2∈Sr.poolQ:=by decide +kernel
theorem Tb:∀ q∈poolN,(∀ x∈q.2,0<x.2/\Int.gcd x.1 x.2=1)/\∀ x,q.2.getLast?=some x->x.1≠0:=by
 intro q b;refine ⟨λx a=>?_,λx a=>?_⟩
 ·have h:∀ q∈poolN,∀ x∈q.2,0<x.2/\Int.gcd x.1 x.2=1:=by decide +kernel
  exact h q b x a
 ·have h:∀ q∈poolN,q.2.getLast?=some (1,1):=by decide +kernel
  rw [h q b] at a;cases a;decide
theorem Mm {q:Nat×cI} (a:q∈poolN):Sr.Ms q.1 (sr q.2):=⟨rA q a,λk hk=>Bt (by have:=(Iw q a).1;omega)⟩
theorem rB {p q:Nat×cI} (hp:p∈poolN) (f:q∈poolN) (n:p.2≠q.2):Sr.Cs (sr p.2) (sr q.2):=by
 rw [Hj,Hj];refine Sr.pool_cs (Ta p hp) (Ta q f) λz=>n ?_;obtain ⟨a,b⟩:=Tb p hp;obtain ⟨c,d⟩:=Tb q f;exact Gn (λx e=>⟨(a x e).1,(a x e).2⟩) (λx e=>⟨(c x e).1,(c x e).2⟩) b d (by rw [Hj,Hj,z])
structure Mq (d:Nat) (l:cI):Prop where
 g:Gq (10*d - 8+1) (2*d - 1+1) l
 ms:Sr.Ms d (sr l)
theorem rC {b c d e:Nat} {l m:cI} (Gl:Gq b c l) (a:Gq d e m):∃ R,Gq (b+d+l.length) (c+e) R/\sr R=sr l*sr m:=by
 obtain ⟨n,h,_⟩:=Gl.clr;obtain ⟨o,i,_⟩:=a.clr;have f:=B9 Gl.low;have g:=B9 a.low;have j:AV (EK l m (l.length+m.length)):=Oy f g
 have pv:∀ k,B_ (trim (EK l m (l.length+m.length))) k=cv (B_ l) (B_ m) l.length k:=λk=>by
  rw [Fh j];exact Oz Gl.low a.low f g k
 refine ⟨trim (EK l m (l.length+m.length)),Fv (λq p=>j q (DJ p)) (FC _) (CB f.1 g.1) (h.mul i) (N:=λk=>ps (AR l) (AR m) l.length k) (λk=>?_) (λk=>LF n o _ _),Cl pv⟩;rw [pv];exact (Jh Gl.low a.low f g _ _).symm
theorem Mq.mul {d e:Nat} {l m:cI} (h:Mq (d+1) l) (k:Mq e m) (b:d<=2):∃ R,Mq (d+1+e) R/\sr R=sr l*sr m:=by
 have ll:=Mc h.ms h.g.low h.g.nz;cases e with
 | zero=>exact ⟨l,h,by rw [TQ k.ms];ext⟩
 | succ e=>
   obtain ⟨R,G,a⟩:=rC h.g k.g;exact ⟨R,⟨G.mono ⋯ ⋯,by rw [a];exact h.ms.mul k.ms⟩,a⟩
noncomputable def RZ (Z:cG):cK:=Z.map λe=>(val e.1,val e.2.1,sr e.2.2)
theorem Tc (φ:Rat->Rat->Bool):∀ (Z:cG) (L:cE),L.map (λq=>q.2)=Z.map (λe=>e.2.2)->(∀ q∈L,q∈poolN/\Pt q.1 q.2)->∃ d l,d<=sm L/\sr l=Sr.Pi φ (RZ Z)/\Mq d l
 | [],[],_,_=>⟨0,[(1,1)],AO _,Gp,⟨Me,by rw [Gp];exact Sr.Ms.one⟩⟩
 | [],_::_,h,_=>nomatch h
 | _::_,[],h,_=>nomatch h
 | z::Z,q::L,h,ok=>by
   injection h with a m;obtain ⟨d,l,dl,b,f⟩:=Tc φ Z L m λx n=>ok x (BW _ n);obtain ⟨g,i⟩:=ok q (BL ..);have u:=(Iw q g).2;have v:=i.d1;have w:sm (q::L)=q.1+sm L:=rfl;have a:q.2=z.2.2:=a;by_cases c:φ (val z.1) (val z.2.1)=true
   ·obtain ⟨k,j⟩:∃ k,q.1=k+1:=⟨q.1 - 1,⋯⟩;have o:Mq (k+1) q.2:=⟨by have:=i.g;rw [j] at this;exact this.mono ⋯ ⋯,by rw [<-j];exact Mm g⟩;obtain ⟨R,p,r⟩:=o.mul f ⋯;refine ⟨_,R,⋯,?_,p⟩;show sr R=(if φ (val z.1) (val z.2.1)=true then sr z.2.2 else 1)*Sr.Pi φ (RZ Z);rw [qU c,r,b,a]
   ·refine ⟨d,l,⋯,?_,f⟩;show sr l=(if φ (val z.1) (val z.2.1)=true then sr z.2.2 else 1)*Sr.Pi φ (RZ Z);rw [qT c,b];ext
structure ZO (Z:cG) (L:cE):Prop where
 sa:∀ e∈Z,Sn e.1/\Sn e.2.1
 eq:L.map (λq=>q.2)=Z.map (λe=>e.2.2)
 pool:∀ q∈L,q∈poolN/\Pt q.1 q.2
 nd:(L.map λq=>q.2).Nodup
 sm7:sm L<=7
 len:L.length<=7
theorem ZO.zl {Z:cG} {L:cE} (h:ZO Z L):Z.length=L.length:=by
 have:=congrArg List.length h.eq;rw [AG,AG] at this;exact this.symm
theorem ZO.mem {Z:cG} {L:cE} (h:ZO Z L) {e:Nu×Nu×cI} (b:e∈Z):∃ q∈L,q.2=e.2.2/\q∈poolN/\Pt q.1 q.2:=by
 have:e.2.2∈L.map λq=>q.2:=by rw [h.eq];exact AU.mpr ⟨e,b,rfl⟩
 obtain ⟨q,a,c⟩:=AU.mp this;exact ⟨q,a,c,h.pool q a⟩
theorem Sn.bd {c:Nu} (h:Sn c):Bd 12 c.1/\Bd 2 c.2:=by
 obtain ⟨a,b,d⟩:=h;have:=a.pos;unfold Bd;exact ⟨⋯,⋯⟩
theorem Sn.nb {c:Nu} (h:Sn c):Nb (val c):=⟨c.1,c.2,h.1.pos,rfl,h.bd.1.mono ∅,h.bd.2.mono ∅⟩
theorem Sn.nb2 {c d:Nu} (h:Sn c) (g:Sn d):Nb (val c+val d):=by
 have b:=Mj h.1.pos g.1.pos h.bd.1 h.bd.2 g.bd.1 g.bd.2;exact ⟨(I_ c d).1,(I_ c d).2,(CT (CB h.1.pos g.1.pos)).pos,Jg h.1.pos g.1.pos,b.1.mono ∅,b.2.mono ∅⟩
theorem ZO.pts {Z:cG} {L:cE} (h:ZO Z L):Pts2 (RZ Z):=by
 refine ⟨⟨λp hp=>?_,?_⟩,λm=>?_,λp hp=>?_,by unfold RZ;rw [AG,h.zl];exact h.len⟩
 ·obtain ⟨e,g,rfl⟩:=AU.mp hp;obtain ⟨q,_,c,i,o⟩:=h.mem g;have y:=o.d1;refine ⟨q.1 - 1,?_⟩;rw [show q.1 - 1+1=q.1 by omega];show Sr.Ms q.1 (sr e.2.2);rw [<-c];exact Mm i
 ·have j:=h.nd;rw [h.eq] at j;refine EA.mpr ((EA.mp j).imp_of_mem λ{a b} u v n=>?_);obtain ⟨q,_,c,i,_⟩:=h.mem u;obtain ⟨r,_,k,w,_⟩:=h.mem v;show Sr.Cs (sr a.2.2) (sr b.2.2);rw [<-c,<-k];exact rB i w (by rw [c,k];exact n)
 ·obtain ⟨d,l,dl,x,f⟩:=Tc m Z L h.eq h.pool;have z:=h.sm7;exact ⟨l,x,f.g.mono ⋯ ⋯,by rw [Mc f.ms f.g.low f.g.nz];omega⟩
 ·obtain ⟨e,g,rfl⟩:=AU.mp hp;exact (h.sa e g).1.nb
theorem ZO.nb {Z:cG} {L:cE} (h:ZO Z L):∀ q∈RZ Z,Nb q.2.1/\Nb (q.1+q.2.1):=λq c=>by
 obtain ⟨e,d,rfl⟩:=AU.mp c;obtain ⟨a,b⟩:=h.sa e d;exact ⟨b.nb,a.nb2 b⟩
theorem ZO.pz {Z:cG} {L:cE} (h:ZO Z L) {f:Nu×Nu×cI->Nu} (k:∀ e∈Z,Low (f e).1 (f e).2/\Bd 100 (f e).1/\Bd 100 (f e).2):LgO (Z.map λe=>(f e,e.2.2))/\Pz 1 (Z.map λe=>(f e,e.2.2)):=by
 have P:=h.pts
 have i:∀ e∈Z,Gq 100 100 e.2.2/\e.2.2.length<=8/\∃ n,Sr.Ms (n+1) (sr e.2.2):=λe d=>by
  obtain ⟨q,_,p,m,o⟩:=h.mem d;have:=(Iw q m);have r:=o.d1;have g:=o.g;rw [<-p];exact ⟨g.mono ⋯ ⋯,⋯,q.1 - 1,by rw [show q.1 - 1+1=q.1 by omega];exact Mm m⟩
 refine ⟨λx j=>?_,λx j=>?_⟩
 ·obtain ⟨e,d,rfl⟩:=AU.mp j;exact ⟨(k e d).1,(i e d).1.low,(i e d).1.nz⟩
 ·obtain ⟨e,d,rfl⟩:=AU.mp j;obtain ⟨a,b,c⟩:=i e d;exact ⟨a,b,c,(k e d).2⟩
noncomputable def Ho (M:cD):W.Dat:=.tuple (M.map λq=>.tuple [EM q.1,C9 q.2])
theorem Lgs.rep {H:Hp} {ws:cM} {M:cD}:Lgs H ws M->RepA H ws (M.map λq=>.tuple [EM q.1,C9 q.2]):=l2 ws M ⟨λ_ _ h=>h.elim,λ_ _ h=>h.elim⟩ (λ_=>.nil) λ_ _ _ _ r h=>by
 obtain ⟨⟨t,c,w,e,a,b,g,d,f⟩,k⟩:=h;subst e;exact .cons (.tup a (.cons (HN ⟨c,rfl,b⟩) (.cons (IO d f) .nil))) (r k)
theorem okL (M:cD):W.kqdOk 7 (Ho M)=true:=by
 simp only [Ho,W.kqdOk,List.all_map];refine Dp.mpr λq _=>?_;show W.kqdOk 6 (.tuple [EM q.1,C9 q.2])=true;simp only [W.kqdOk,List.all_cons,List.all_nil,bW,bI,Bool.and_self]
theorem Mn {H:Hp} {o p:Addr} {b n m b' k q:Nat} {N D i j:Sr} {M:cD} {Q:VK} (f:Fo H o b n m N D M) (g:Fo H p b' k q i j M) (e:N*j=i*D) (h:Q (.bl false) H):aQ (.ref o) (.ref p) H Q:=by
 obtain ⟨C,G,r,u,I,v,w,_⟩:=f.fx;obtain ⟨J,L,hp,a,x,c,d,_⟩:=g.fx;obtain ⟨T,B,F,y⟩:=uO u a e
 have ok:W.kqdOk 8 (.tuple [Fy T B,Ho M])=true:=by
  have z:W.kqdOk 7 (Fy T B)=true:=okF T B 4;have A:=okL M;show [Fy T B,Ho M].all (W.kqdOk 7)=true;rw [List.all_cons,List.all_cons,z,A];rfl
 exact ⟨.tuple [Fy T B,Ho M],.tuple [Fy T B,Ho M],true,.tup r (.cons (Sx F) (.cons (.tup v w.rep) .nil)),.tup hp (.cons (Sx y) (.cons (.tup c d.rep) .nil)),ok,ok,⟨λ_=>rfl,λ_=>rfl⟩,h⟩
theorem Mo {K:W.Frag} {a b:Addr} {i j:Nat} {xs ys:cM} {A:cI} {L:cE} {capt:List (Option Nat)} {D:TE} (F:Nu->Nu) {g:L2.St} {H:Hp} {Q:VK} (o:g[i]?=some (some (.ref a))) (u:g[j]?=some (some (.ref b))) (G:H a=some (.lst xs)) (I:H b=some (.lst ys)) (J:Nums H xs A) (M:Pts H ys L) (el:A.length=L.length) (l7:L.length<=7)
  (v:∀ (c w:Addr) (q:Nu) (m:Hp) (N:VK),q∈A->Same H m->Nm m c q.1 q.2->(∀ t z f,Same m f->f t=some (.tup [.ref z,.ref w])->Nm f z (F q).1 (F q).2->N (.ref t) f)->D (((CS capt g).set 0 (some (.ref c))).set 1 (some (.ref w))) m N)
  (k:∀ e d w,Same H d->Lgs d e ((A.map F).zip (L.map λq=>q.2))->d w=none->Q (.ref w) (upd d w (.lst e))):BH (GT K (AB (AA i) (AB (AA j) AC))) capt (Ce 2 (BK (AE 0) (BK (AE 1) Cd))) D g H Q:=by
 have xl:=J.length;have yl:=M.len;have zl:((A.map F).zip (L.map λq=>q.2)).length=L.length:=by rw [List.length_zip,AG,AG];omega
 refine ⟨_,o,_,u,a,b,rfl,⟨_,SqL.of G⟩,⟨_,SqL.of I⟩,CompJ.zip (xs:=xs) (ys:=ys) ⋯ (λi e d=>i<=xs.length/\Same H d/\Lgs d e (((A.map F).zip (L.map λq=>q.2)).take i)) ⟨Ae _,Same.refl H,trivial⟩ ?_ ?_ ?_⟩
 ·rintro i e d ⟨O,s,h⟩;exact ⟨O,sz (by rw [h.len,CC];omega),SqL.of (s _ _ G),SqL.of (s _ _ I)⟩
 ·rintro i x y e d p P S ⟨O,s,h⟩ hp;have T:i<xs.length:=(BF.mp P).1;have s1:=AL hp (.tup [x,y]);have n:=s.trans s1;obtain ⟨q,R,c,rfl,U⟩:=(J.tp (C' n)).get P;obtain ⟨r,X,⟨w,rfl,Y⟩,_⟩:=(M.tp (C' n)).get S;refine ⟨_,_,rfl,upd_same,rfl,_,_,rfl,_,_,rfl,rfl,?_⟩;refine v c w q _ _ (Ay R) n U λt z f B Z C=>⟨T,n.trans B,?_⟩;have hz:((A.map F).zip (L.map λq=>q.2))[i]?=some (F q,r.2):=List.getElem?_zip_eq_some.mpr ⟨by rw [Ac,R];rfl,by rw [Ac,X];rfl⟩;rw [ES hz];exact (h.tp (C' (s1.trans B))).snoc Z C (Y.same B)
 ·rintro e d ⟨_,s,h⟩ w hw;rw [List.take_of_length_le ⋯] at h;exact k e d w s h hw
theorem rD {K:W.Frag} {a b c:Addr} {i j l:Nat} {xs ys ws:cM} {A B:cI} {L:cE} {g:L2.St} {H:Hp} {Q:VK} (o:g[i]?=some (some (.ref a))) (z:g[j]?=some (some (.ref b))) (C:g[l]?=some (some (.ref c))) (O:H a=some (.lst xs)) (P:H b=some (.lst ys)) (R:H c=some (.lst ws)) (S:Nums H xs A) (T:Nums H ys B) (U:Pts H ws L) (el:A.length=L.length) (a0:B.length=L.length) (l7:L.length<=7) (sA:∀ q∈A,Sn q) (sB:∀ q∈B,Sn q)
  (k:∀ f d w,Same H d->Lgs d f ((A.zip (B.zip (L.map λq=>q.2))).map λe=>(I_ e.1 e.2.1,e.2.2))->d w=none->Q (.ref w) (upd d w (.lst f))):BH (LA K (AB (AA i) (AB (AA j) (AB (AA l) AC)))) [none,none,none] (Ce 3 (BK (AE 0) (BK (AE 1) (BK (AE 2) Cd)))) (Ai (AB (AJ (HV K) [] E0 (AB (AA 0) (AB (AA 1) AC))) (AB (AA 2) AC))) g H Q:=by
 have xl:=S.length;have yl:=T.length;have wl:=U.len;have zl:(A.zip (B.zip (L.map λq=>q.2))).length=L.length:=by rw [List.length_zip,List.length_zip,AG];omega
 refine ⟨_,o,_,z,_,C,a,b,c,rfl,⟨_,SqL.of O⟩,⟨_,SqL.of P⟩,⟨_,SqL.of R⟩,CompJ.zip3 (xs:=xs) (ys:=ys) (ws:=ws) ⋯ ⋯ (λi f d=>i<=xs.length/\Same H d/\Lgs d f (((A.zip (B.zip (L.map λq=>q.2))).take i).map λe=>(I_ e.1 e.2.1,e.2.2))) ⟨Ae _,Same.refl H,trivial⟩ ?_ ?_ ?_⟩
 ·rintro i f d ⟨X,s,h⟩;exact ⟨X,sz (by rw [h.len,AG,CC];omega),SqL.of (s _ _ O),SqL.of (s _ _ P),SqL.of (s _ _ R)⟩
 ·rintro i x y w f d p Y hy D ⟨X,s,h⟩ hp;have lt:i<xs.length:=(BF.mp Y).1;have s1:=AL hp (.tup [x,y,w]);have m:=s.trans s1;obtain ⟨q,Z,cq,rfl,F⟩:=(S.tp (C' m)).get Y;obtain ⟨r,hr,cr,rfl,G⟩:=(T.tp (C' m)).get hy;obtain ⟨v,hv,⟨u,rfl,Pu⟩,_⟩:=(U.tp (C' m)).get D;have I:=sA q (Ay Z);have J:=sB r (Ay hr);refine ⟨_,_,rfl,upd_same,rfl,_,_,rfl,_,_,rfl,_,_,rfl,rfl,?_⟩;refine Bv (Bb (AN rfl (AN rfl ⟨_,_,_,_,_,_,rfl,F,G,I.1.pos,J.1.pos,I.bd.1.mono ∅,I.bd.2.mono ∅,J.bd.1.mono ∅,J.bd.2.mono ∅,λt ht=>AN rfl ⟨Az,λt2 M=>?_⟩⟩)));have N:=AL ht (.tup [.int (I_ (q.1,q.2) (r.1,r.2)).1,.int (I_ (q.1,q.2) (r.1,r.2)).2]);have n:=AL M (.tup [.ref t,.ref u]);refine ⟨lt,m.trans (N.trans n),?_⟩;have hz:(A.zip (B.zip (L.map λq=>q.2)))[i]?=some (q,r,v.2):=List.getElem?_zip_eq_some.mpr ⟨Z,List.getElem?_zip_eq_some.mpr ⟨hr,by rw [Ac,hv];rfl⟩⟩;rw [ES hz,Bq];exact (h.tp (C' (s1.trans (N.trans n)))).snoc (q:=(I_ q r,v.2)) upd_same (n _ _ upd_same) (Pu.same (N.trans n))
 ·rintro f d ⟨_,s,h⟩ w D;rw [List.take_of_length_le ⋯] at h;exact k f d w s h D
structure LS (H:Hp) (p a g2 g3 g4 f7 f8:Addr) (n:Int) (Z:cG) (L:cE) (T B T' B':cI):Prop where
 st:Stt H p a n
 n9:n<=5000
 z:ZO Z L
 h2:∃ ws,H g2=some (.lst ws)/\Pts H ws L
 h3:∃ xs,H g3=some (.lst xs)/\Nums H xs (Z.map λe=>e.1)
 h4:∃ ys,H g4=some (.lst ys)/\Nums H ys (Z.map λe=>e.2.1)
 k7:FF H f7 T B/\Rp 24 3 4 T B
 k8:FF H f8 T' B'/\Rp 24 3 4 T' B'
 n2:g2≠p/\g2≠a
 n3:g3≠p/\g3≠a
theorem LS.same {H d:Hp} {p a e f g i j:Addr} {n:Int} {Z:cG} {L:cE} {T B T' B':cI} (h:LS H p a e f g i j n Z L T B T' B') (s:Same H d):LS d p a e f g i j n Z L T B T' B':=
 ⟨h.st.same s,h.n9,h.z,let ⟨c,a,b⟩:=h.h2;⟨c,s _ _ a,b.tp (C' s)⟩,let ⟨c,a,b⟩:=h.h3;⟨c,s _ _ a,b.tp (C' s)⟩,let ⟨c,a,b⟩:=h.h4;⟨c,s _ _ a,b.tp (C' s)⟩,⟨h.k7.1.same s,h.k7.2⟩,⟨h.k8.1.same s,h.k8.2⟩,h.n2,h.n3⟩
theorem Td {w:Rat->Sr} {M N:cD} {H:Hp} {l m:Addr} (c:Sr.Can w (lv M)) (d:Sr.Can w (lv N)) (e:Lg H l M) (f:Lg H m N):M=N:=by
 obtain ⟨_,_,_,a⟩:=e;obtain ⟨_,_,_,b⟩:=f;exact TM a b (c.uniq d)
theorem Fo.lg {H:Hp} {o:Addr} {b n m:Nat} {N D:Sr} {M:cD} (h:Fo H o b n m N D M):∃ l,Lg H l M:=let ⟨_,l,_,_,g⟩:=h.fx;⟨l,g⟩
theorem wz {Z:cG} {f:Nu×Nu×cI->Nu} {g:Rat->Rat->Rat} (h:∀ e∈Z,val (f e)=g (val e.1) (val e.2.1)) (c:Rat):Sr.W (lv (Z.map λe=>(f e,e.2.2))) c=Sr.wa (mp g (λ_ b=>b) (RZ Z)) c:=by
 rw [<-tV];congr 1;unfold lv mp RZ;rw [BX,BX,BX];refine Cf λe a=>?_;show (val (f e),sr e.2.2)=(g (val e.1) (val e.2.1),sr e.2.2);rw [h e a]
theorem rE (R:cK):mp (λa _=>a) (λ_ b=>b) R=R:=List.map_id R
theorem Te:val (-1,1) = -1:=by unfold val;show ((-1:Int):Rat) / ((1:Int):Rat) = -1;rw [show ((1:Int):Rat)=1 from rfl,show ((-1:Int):Rat) = -1 from rfl];ext
theorem rF:Sr.num (val (-1,1)) = -1:=by rw [Te];exact uM
theorem rG {K:W.Frag} {H:Hp} {Q:VK} {s p g2 g3 g4 f7 f8 o:Addr} {x5 x6 v w A B C:cN} {Z:cG} {L:cE} {N D:Sr} {M:cD} (z:ZO Z L) (T:Fo H o 24 3 4 N D M) (i:Sr.Can (Sr.wa (RZ Z)) (lv M)) (k:∀ F,Q (.bl true) F) :
  RN K { nx:=λ_ F=>Q .non F,rt:=Q } [some (.ref s),some (.ref p),some (.ref g2),some (.ref g3),some (.ref g4),x5,x6,some (.ref f7),some (.ref f8),some (.ref o),v,w,A,B,C] H:=by
 have P:=z.pts;refine Ei (Cv (A5 (Bb (AN rfl (Bb (AN rfl (Bv ⟨_,rfl,N_ ⟨Az,λc hc=>?_⟩⟩)))))));have s1:=AL hc (.tup [.int (-1),.int 1]);refine ⟨o,c,N,D,M,(-1,1),RZ Z,rfl,T.same s1,i,P,upd_same,⟨∅,∅⟩,by unfold Bd;decide,by unfold Bd;decide,λr M2 H2 s2 G j=>?_⟩
 have I:∀ e∈Z,Nb (val e.1*val (-1,1)):=λe J=>by
  obtain ⟨a,_⟩:=z.sa e J;have b:=Ml (x:=12) (y:=2) (q:=e.1) (r:=(-1,1)) a.1.pos ∅ a.bd.1 a.bd.2 (show Bd 12 (-1) by unfold Bd;decide) (show Bd 2 1 by unfold Bd;decide);exact ⟨(F_ e.1 (-1,1)).1,(F_ e.1 (-1,1)).2,(CT (CB a.1.pos ∅)).pos,IJ a.1.pos ∅,b.1.mono ∅,b.2.mono ∅⟩
 have zero:∀ a:Rat,a+a*val (-1,1)=0:=λa=>by rw [Te];ext
 have O:=s1.trans s2;refine ⟨o,r,N,D,_,_,M,M2,mp (λa _=>a) (λa _=>a*val (-1,1)) (RZ Z),rfl,(T.same O).mono ∅ ∅ ∅,G,i.congr λd _=>?_,j.congr λd _=>?_,P.mp _ _ P.na,λq hq=>?_,λr3 M3 H3 s3 R m=>?_⟩
 ·show Sr.Pi _ _=Sr.Pi _ (mp _ _ _);rw [D4]
 ·show Sr.Pi _ (mp _ _ _)=Sr.Pi _ (mp _ _ _);rw [D4,D4,D4]
 ·obtain ⟨y,hy,rfl⟩:=AU.mp hq;obtain ⟨e,J,rfl⟩:=AU.mp hy;refine ⟨I e J,?_⟩;show Nb (val e.1+val e.1*val (-1,1));rw [zero];exact ⟨0,1,∅,Iy 1,by unfold Bd;decide,by unfold Bd;decide⟩
 ·have S:Sr.Can (Sr.wa (mp (λa b=>a+b) (λ_ b=>b) (mp (λa _=>a) (λa _=>a*val (-1,1)) (RZ Z)))) []:=Sr.Can.nil λc S=>by
   show Sr.Pi _ (mp _ _ (mp _ _ _))=1;rw [D4,D4];refine Sr.Pi.none λq _=>?_;rw [decide_eq_false_iff_not,zero];exact λz=>S z.symm
  have e3:=m.uniq S;have m0:M3=[]:=List.map_eq_nil_iff.mp e3;subst m0;refine Bv (Bv ⟨sz ∅,λa1 h1=>?_⟩);refine LW (Bv (N_ (N_ ⟨Az,λU h2=>⟨C8,λa3 h3=>⟨Az,λa4 h4=>⟨sz ∅,λa5 h5=>⟨Az,λa6 h6=>?_⟩⟩⟩⟩⟩)));have t1:=AL h1 (.tup []);have X:=AL h2 (.tup [.int 1,.int 1]);have t3:=AL h3 (.tup [.ref U]);have t4:=AL h4 (.tup [.ref a1,.ref a3]);have t5:=AL h5 (.tup []);have Y:=AL h6 (.tup [.ref a4,.ref a5]);have n:=t5.trans Y;have u:=t4.trans n;have f:=t3.trans u;have g:Fo _ a6 1 1 1 0 1 []:=Fo.of upd_same (uP (n _ _ upd_same) ((X.trans f) _ _ upd_same) ⟨_,u _ _ upd_same,⟨U,rfl,f _ _ upd_same⟩,trivial⟩) ⟨[],Y _ _ upd_same,trivial,λ_ h=>nomatch h⟩ (AO _) (AO _) (AO _);refine Mn (R.same (t1.trans (X.trans f))) g ?_ ⟨_,rfl,Am (λz=>nomatch z) λ_=>?_⟩
  ·rw [rF];ext
  ·exact k _
theorem rH {K:W.Frag} {H:Hp} {Q:VK} {s p a g2 g3 g4 f7 f8 o:Addr} {x5 x6 a6 a7 a8 ab ac:cN} {n:Int} {Z:cG} {L:cE} {T B T' B':cI} {M:cD} (h:LS H p a g2 g3 g4 f7 f8 n Z L T B T' B') (fo:Fo H o 24 3 4 (sr T) (sr B) M) (N:Sr.Can (Sr.wa (RZ Z)) (lv M)) (k:∀ H',Q (.bl true) H') :
  RU K { nx:=λ_ H'=>Q .non H',rt:=Q } [some (.ref s),some (.ref p),some (.ref g2),some (.ref g3),some (.ref g4),x5,x6,some (.ref f7),some (.ref f8),some (.ref o),a6,a7,a8,ab,ac] H:=by
 have P:=h.z.pts;have n9:=h.n9;refine IP (AN rfl (KJ h.st ⋯ λc t d H1 hc A t1 d1 be k1=>?_));have C:Sn (t,d):=⟨A,t1,d1⟩;have i:=k1.tp h.st;obtain ⟨ws,hw,PL⟩:=h.h2;obtain ⟨xs,hx,NA⟩:=h.h3;have aj:=k1 _ _ h.n2.1 h.n2.2 hw;have al:=k1 _ _ h.n3.1 h.n3.2 hx;have F:=PL.tp i;have am:=NA.tp i;obtain ⟨u,v,e7,Pu,Pv⟩:=h.k7.1;have F7:FF H1 f7 T B:=⟨u,v,i _ _ e7,Pu.tp i,Pv.tp i⟩
 have O:Fo H1 o 24 3 4 (sr T) (sr B) M:=by
  obtain ⟨f,l,T1,B1,ho,⟨u1,v1,e1,an,ao⟩,rp,w,ar,hl,F,o1⟩:=fo;exact ⟨f,l,T1,B1,i _ _ ho,⟨u1,v1,i _ _ e1,an.tp i,ao.tp i⟩,rp,w,ar,i _ _ hl,F.tp i,o1⟩
 have zl:=h.z.zl;have l7:=h.z.len;show RT K _ _ _;refine Bc (Mo (λq=>F_ q (t,d)) rfl rfl al aj am F (by rw [AG,zl]) l7 (λc2 w2 q H2 Q2 R s2 b0 kk=>?_) λS H2 w s2 lg b1=>?_)
 ·obtain ⟨e,j,rfl⟩:=AU.mp R;obtain ⟨m,_⟩:=h.z.sa e j;refine Bv (Bb (AN rfl (AN rfl ⟨_,_,_,_,_,_,rfl,b0,s2 _ _ hc,m.1.pos,A.pos,m.bd.1.mono ∅,m.bd.2.mono ∅,C.bd.1.mono ∅,C.bd.2.mono ∅,λt3 b2=>AN rfl ⟨Az,λt4 b3=>?_⟩⟩)));have U:=AL b3 (.tup [.ref t3,.ref w2]);exact kk t4 t3 _ ((AL b2 _).trans U) upd_same (U _ _ upd_same)
 have s3:=AL b1 (.lst S);have X:(upd H2 w (.lst S)) w=some (HO.lst S):=upd_same;have G:=lg.tp (C' s3);have y:=s2.trans s3;generalize upd H2 w (.lst S)=H3 at X G y ⊢;rw [BX,h.z.eq,List.zip_map'] at G;show RQ K _ _ _;refine DL (AN rfl (AN rfl ⟨o,c,_,_,M,(t,d),RZ Z,rfl,O.same y,N,P,y _ _ hc,A,C.bd.1.mono ∅,C.bd.2.mono ∅,λr M2 H4 U I D=>?_⟩));have Y:=y.trans U
 have a0:∀ e∈Z,Nb (val e.1*val (t,d))/\Low (F_ e.1 (t,d)).1 (F_ e.1 (t,d)).2/\Bd 100 (F_ e.1 (t,d)).1/\Bd 100 (F_ e.1 (t,d)).2:=λe j=>by
  obtain ⟨m,_⟩:=h.z.sa e j;have b:=Ml m.1.pos A.pos m.bd.1 m.bd.2 C.bd.1 C.bd.2;have lw:=CT (n:=e.1.1*t) (CB m.1.pos A.pos);exact ⟨⟨(F_ e.1 (t,d)).1,(F_ e.1 (t,d)).2,lw.pos,IJ m.1.pos A.pos,b.1.mono ∅,b.2.mono ∅⟩,lw,b.1.mono ∅,b.2.mono ∅⟩
 have P4:Pts2 (mp (λa _=>a*val (t,d)) (λ_ b=>b) (RZ Z)):=P.mp _ _ λq R=>by
  obtain ⟨e,j,rfl⟩:=AU.mp R;exact (a0 e j).1
 obtain ⟨l4,a1⟩:=I.lg;have b4:=(Ix P4 (let ⟨_,_,_,x⟩:=a1;x) D).1;show RP K _ _ _;refine Ei ?_;refine BS (AN rfl ⟨_,80,4,4,_,_,M2,rfl,I,∅,∅,λq R=>BT (b4 q R).2.1 ∅,λH5 s5=>⟨true,rfl,Am (λz=>nomatch z) λ_=>?_⟩⟩);have a2:=Y.trans s5;refine Cv (A5 (AN rfl (Bv (Bb (BS (AN rfl ⟨c,(t,d),rfl,a2 _ _ hc,A,C.bd.1.mono ∅,C.bd.2.mono ∅,λr6 T6 B6 H6 s6 b5 b6 e6=>AN rfl ?_⟩))))));have b9:Fx H6 r6 42 1 1 (Sr.num (val (t,d))) 1:=⟨T6,B6,b5,b6,Sr.Pol.num _,Sr.Pol.nat 1,MW,e6⟩;refine S3 b9 (Iu (F7.same (a2.trans s6)) h.k7.2) 3 ∅ λt7 H7 s7 ba=>BS (AN rfl ?_);obtain ⟨bb,bc⟩:=h.z.pz (f:=λe=>F_ e.1 (t,d)) λe j=>(a0 e j).2;have a3:=U.trans (s5.trans (s6.trans s7));refine ⟨w,S,_,rfl,a3 _ _ X,G.tp (C' a3),bb,bc,by rw [AG,zl];exact l7,λr8 M8 H8 s8 a4 a5=>⟨Az,λr9 bd=>?_⟩⟩;have s9:=AL bd (.tup [.ref t7,.ref r8]);have c8:=a5.congr λx _=>wz (g:=λa _=>a*val (t,d)) (λe j=>IJ (h.z.sa e j).1.1.pos A.pos) x;have J:=(s5.trans (s6.trans s7)).trans (s8.trans s9);have em:M2=M8:=Td D c8 (a1.same J) (a4.same s9);subst em;have g9:Fo _ r9 _ _ _ _ _ M2:=Fo.of upd_same (ba.same (s8.trans s9)) (a4.same s9) (AO _) (AO _) (AO _);refine Mn (I.same J) g9 ?_ ⟨_,rfl,Am (λz=>nomatch z) λ_=>?_⟩
 ·ext
 ·exact rG h.z ((O.same Y).same J) N k
theorem rJ {K:W.Frag} {H:Hp} {Q:VK} {s p a g2 g3 g4 f7 f8:Addr} {x5 x6 x9 b4 b5 b6 b9 ba:cN} {n:Int} {Z:cG} {L:cE} {T B T' B':cI} (h:LS H p a g2 g3 g4 f7 f8 n Z L T B T' B') (k:∀ H',Q (.bl true) H') :
  Ra K { nx:=λ_ H'=>Q .non H',rt:=Q } [some (.ref s),some (.ref p),some (.ref g2),some (.ref g3),some (.ref g4),x5,x6,some (.ref f7),some (.ref f8),x9,b4,b5,b6,b9,ba] H:=by
 have P:=h.z.pts;have nb:=h.z.nb;have S:=h.z.zl;have l7:=h.z.len;have v:=h.z.sa;obtain ⟨ws,hw,PL⟩:=h.h2;obtain ⟨xs,hx,NA⟩:=h.h3;obtain ⟨ys,hy,NB⟩:=h.h4
 have te:∀ (c w:Addr) (q:Nu) (I:Hp) (U:VK),Nm I c q.1 q.2->(∀ t c' X,Same I X->X t=some (.tup [.ref c',.ref w])->Nm X c' q.1 q.2->U (.ref t) X)->Ai (AB (AA 0) (AB (AA 1) AC)) [some (.ref c),some (.ref w)] I U:=λc w q I U hc kk=>
  Bv (AN rfl (AN rfl ⟨Az,λt ht=>kk t c _ (AL ht _) upd_same (AL ht _ _ _ hc)⟩))
 refine Bc (Bv (AN rfl (BS (Mo (λq=>q) rfl rfl hx hw NA PL (by rw [AG,S]) l7 (λc w q I U _ _ hc kk=>te c w q I U hc kk) λzs H1 w s1 lg bb=>?_))));rw [List.map_id',h.z.eq,List.zip_map'] at lg;have s2:=AL bb (.lst zs);obtain ⟨o1,o2⟩:=h.z.pz (f:=λe=>e.1) λe j=>⟨(v e j).1.1,(v e j).1.bd.1.mono ∅,(v e j).1.bd.2.mono ∅⟩;refine ⟨w,zs,_,rfl,upd_same,lg.tp (C' s2),o1,o2,by rw [AG,S];exact l7,λr3 M X s3 bc a3=>⟨Az,λo ho=>?_⟩⟩
 have a4:Sr.Can (Sr.wa (RZ Z)) (lv M):=a3.congr λc _=>by
  have:=wz (Z:=Z) (f:=λe=>e.1) (g:=λa _=>a) (λ_ _=>rfl) c;rw [rE] at this;exact this
 have s4:=AL ho (.tup [.ref f7,.ref r3]);have m:=(s1.trans s2).trans (s3.trans s4);have a5:(upd X o (.tup [.ref f7,.ref r3])) o=some (HO.tup [V.ref f7,V.ref r3]):=upd_same;have a6:=bc.same s4;generalize upd X o (.tup [.ref f7,.ref r3])=H4 at m a5 a6 ⊢;have h4:=h.same m;have fo:Fo H4 o 24 3 4 (sr T) (sr B) M:=Fo.of a5 (Iu h4.k7.1 h4.k7.2) a6 (AO _) (AO _) (AO _);show RY K _ _ _;refine Bc (Bv (AN rfl (BS (Mo (λq=>q) rfl rfl (m _ _ hy) (m _ _ hw) (NB.tp (C' m)) (PL.tp (C' m)) (by rw [AG,S]) l7 (λc w q I U _ _ hc kk=>te c w q I U hc kk) λa7 H5 w5 s5 a8 bd=>?_))));rw [List.map_id',h.z.eq,List.zip_map'] at a8;have s6:=AL bd (.lst a7);obtain ⟨o3,o4⟩:=h.z.pz (f:=λe=>e.2.1) λe j=>⟨(v e j).2.1,(v e j).2.bd.1.mono ∅,(v e j).2.bd.2.mono ∅⟩;refine ⟨w5,a7,_,rfl,upd_same,a8.tp (C' s6),o3,o4,by rw [AG,S];exact l7,λr7 M' H7 s7 bf ab=>⟨Az,λo' bg=>?_⟩⟩
 have ac:Sr.Can (Sr.wa (mp (λ_ b=>b) (λa _=>a) (RZ Z))) (lv M'):=ab.congr λc _=>by
  rw [wz (Z:=Z) (f:=λe=>e.2.1) (g:=λ_ b=>b) (λ_ _=>rfl) c];show Sr.Pi _ (mp _ _ _)=Sr.Pi _ (mp _ _ _);rw [D4,D4]
 have s8:=AL bg (.tup [.ref f8,.ref r7]);have D:=(s5.trans s6).trans (s7.trans s8);have aj:(upd H7 o' (.tup [.ref f8,.ref r7])) o'=some (HO.tup [V.ref f8,V.ref r7]):=upd_same;have al:=bf.same s8;generalize upd H7 o' (.tup [.ref f8,.ref r7])=H8 at D aj al ⊢;have h8:=h4.same D;have am:=fo.same D;have bi:Fo H8 o' 24 3 4 (sr T') (sr B') M':=Fo.of aj (Iu h8.k8.1 h8.k8.2) al (AO _) (AO _) (AO _);have u:=m.trans D;show RX K _ _ _;refine Bc (rD rfl rfl rfl (u _ _ hx) (u _ _ hy) (u _ _ hw) (NA.tp (C' u)) (NB.tp (C' u)) (PL.tp (C' u)) (by rw [AG,S]) (by rw [AG,S]) l7 (λq Y=>?_) (λq Y=>?_) λy H9 w9 s9 an bj=>?_)
 ·obtain ⟨e,j,rfl⟩:=AU.mp Y;exact (v e j).1
 ·obtain ⟨e,j,rfl⟩:=AU.mp Y;exact (v e j).2
 rw [h.z.eq,List.zip_map',List.zip_map',BX] at an;have ao:=AL bj (.lst y);have J:(upd H9 w9 (.lst y)) w9=some (HO.lst y):=upd_same;have N:=an.tp (C' ao);have i:=s9.trans ao;generalize upd H9 w9 (.lst y)=bv at J N i ⊢;show RW K _ _ _;refine DL (AN rfl (AN rfl ⟨o,o',_,_,_,_,M,M',RZ Z,rfl,(am.same i).mono ∅ ∅ ∅,(bi.same i).mono ∅ ∅ ∅,a4,ac,P,nb,λr M2 bw a0 A C=>?_⟩));have P4:Pts2 (mp (λa b=>a+b) (λ_ b=>b) (RZ Z)):=P.mp _ _ λq Y=>(nb q Y).2;obtain ⟨l4,ar⟩:=A.lg;have bk:=(Ix P4 (let ⟨_,_,_,x⟩:=ar;x) C).1;have b0:=h8.same (i.trans a0);show RV K _ _ _;refine Ei ?_;refine BS (AN rfl ⟨_,170,8,8,_,_,M2,rfl,A,∅,∅,λq Y=>BT (bk q Y).2.1 ∅,λbx a1=>⟨true,rfl,Am (λz=>nomatch z) λ_=>?_⟩⟩);have F:=b0.same a1;refine Cv (A5 (AN rfl (Bv (Bb (AN rfl (AN rfl (Sz (Iu F.k7.1 F.k7.2) (Iu F.k8.1 F.k8.2) 3 ∅ λbl bz b1 bm=>BS (AN rfl ?_))))))))
 have bn:∀ e∈Z,Low (I_ e.1 e.2.1).1 (I_ e.1 e.2.1).2/\Bd 100 (I_ e.1 e.2.1).1/\Bd 100 (I_ e.1 e.2.1).2:=λe j=>by
  obtain ⟨ae,be⟩:=v e j;have b:=Mj ae.1.pos be.1.pos ae.bd.1 ae.bd.2 be.bd.1 be.bd.2;exact ⟨CT (CB ae.1.pos be.1.pos),b.1.mono ∅,b.2.mono ∅⟩
 obtain ⟨bp,bq⟩:=h.z.pz (f:=λe=>I_ e.1 e.2.1) bn;have O:=a0.trans (a1.trans b1);refine ⟨w9,y,_,rfl,O _ _ J,N.tp (C' O),bp,bq,by rw [AG,S];exact l7,λbr bs c0 b2 R a2=>⟨Az,λbt b3=>?_⟩⟩;have G:=AL b3 (.tup [.ref bl,.ref br]);have bu:=a2.congr λx _=>wz (g:=λa b=>a+b) (λe j=>Jg (v e j).1.1.pos (v e j).2.1.pos) x;have d:=(a1.trans b1).trans (b2.trans G);have em:M2=bs:=Td C bu (ar.same d) (R.same G);subst em;have g9:Fo _ bt _ _ _ _ _ M2:=Fo.of upd_same (bm.same (b2.trans G)) (R.same G) (AO _) (AO _) (AO _);refine Mn (A.same d) g9 rfl ⟨_,rfl,Am (λz=>nomatch z) λ_=>?_⟩;exact rH (b0.same d) (((am.same i).same a0).same d) a4 k
theorem Pts.all {H:Hp} {ws:cM} {L:cE}:Pts H ws L->∀ q∈L,Pt q.1 q.2:=l2 ws L ⟨λ_ _ h=>h.elim,λ_ _ h=>h.elim⟩ (λ_ _ h=>nomatch h) λ_ _ y _ r h q a=>by
 rcases A7.mp a with c | c
 ·rw [c];exact h.2.1
 ·exact r h.2.2 q c
theorem FF.tp {H d:Hp} {p:Addr} {T B:cI} (h:FF H p T B) (t:Tp H d):FF d p T B:=let ⟨u,v,a,b,c⟩:=h;⟨u,v,t _ _ a,b.tp t,c.tp t⟩
theorem rK {K:W.Frag} {H:Hp} {Q:VK} {s p a f w g:Addr} {U X:cN} {n:Int} {ws ys r:cM} {L:cE} {A C:cI} (st:Stt H p a n) (n9:n<=2000) (u:H f=some (.lst ws)) (m:Pts H ws L) (d:∀ q∈L,q∈poolN) (Y:(L.map λq=>q.2).Nodup) (s7:sm L<=7) (v:L.length<=7) (b:f≠p/\f≠a) (x:w≠p/\w≠a) (G:g≠p/\g≠a) (hw:H w=some (.lst ys)) (NA:Nums H ys A) (sA:∀ q∈A,Sn q) (al:A.length=L.length) (hg:H g=some (.lst r)) (NC:Nums H r C) (sC:∀ q∈C,Sn q) (cl:C.length=L.length) (k:∀ y,Q (.bl true) y) :
  Rc K { nx:=λ_ y=>Q .non y,rt:=Q } [some (.ref s),some (.ref p),some (.ref f),some (.ref w),some (.ref g),U,X,none,none,none,none,none,none,none,none] H:=by
 have I:∀ q∈L,q.1<=3:=λq o=>(Iw q (d q o)).2;refine DL (AN rfl (AN rfl ⟨p,a,f,ws,L,n,rfl,st,⋯,u,m,I,v,b.1,b.2,λt T B n1 H1 ff R ni i z=>?_⟩));have t1:=z.tp st;show Rb K _ _ _;refine DL (AN rfl (AN rfl ⟨p,a,f,ws,L,n1,rfl,i,⋯,z _ _ b.1 b.2 u,m.tp t1,I,v,b.1,b.2,λt' J M n2 H2 D R' a0 F N=>?_⟩));have c:=z.trans N;have h:=c.tp st;have O:(A.zip (C.zip (L.map λq=>q.2))).map (λe=>e.1)=A:=List.map_fst_zip (by rw [List.length_zip,AG];omega);have j:(A.zip (C.zip (L.map λq=>q.2))).map (λe=>e.2)=C.zip (L.map λq=>q.2):=List.map_snd_zip (by rw [List.length_zip,AG];omega)
 have P:(A.zip (C.zip (L.map λq=>q.2))).map (λe=>e.2.1)=C:=by
  have:(C.zip (L.map λq=>q.2)).map (λe=>e.1)=C:=List.map_fst_zip (by rw [AG];omega);rw [<-j,BX] at this;exact this
 have e3:(A.zip (C.zip (L.map λq=>q.2))).map (λe=>e.2.2)=L.map λq=>q.2:=by
  have:(C.zip (L.map λq=>q.2)).map (λe=>e.2)=L.map λq=>q.2:=List.map_snd_zip (by rw [AG];omega);rw [<-j,BX] at this;exact this
 refine rJ (a:=a) (n:=n2) (Z:=A.zip (C.zip (L.map λq=>q.2))) (L:=L) (T:=T) (B:=B) (T':=J) (B':=M) ⟨F,⋯,⟨λe S=>⟨sA _ ?_,sC _ ?_⟩,e3.symm,λq o=>⟨d q o,m.all q o⟩,Y,s7,v⟩,⟨ws,c _ _ b.1 b.2 u,m.tp h⟩,⟨ys,c _ _ x.1 x.2 hw,by rw [O];exact NA.tp h⟩,⟨r,c _ _ G.1 G.2 hg,by rw [P];exact NC.tp h⟩,⟨FF.tp ff (N.tp i),R⟩,⟨D,R'⟩,b,x⟩ k
 ·have:e.1∈(A.zip (C.zip (L.map λq=>q.2))).map (λe=>e.1):=AU.mpr ⟨e,S,rfl⟩;rw [O] at this;exact this
 ·have:e.2.1∈(A.zip (C.zip (L.map λq=>q.2))).map (λe=>e.2.1):=AU.mpr ⟨e,S,rfl⟩;rw [P] at this;exact this
theorem Sn.neg {q:Nu} (h:Sn q):Sn (-q.1,q.2):=⟨⟨h.1.pos,by rw [Int.neg_gcd];exact h.1.2⟩,by rw [Int.natAbs_neg];exact h.2.1,h.2.2⟩
theorem rL:Sn (0,1):=⟨HI,∅,∅⟩
theorem Tf {K:W.Frag} {H:Hp} {Q:VK} {s p a f:Addr} {n:Int} {ws:cM} {L:cE} (st:Stt H p a n) (n9:n<=1000) (hf:H f=some (.lst ws)) (PL:Pts H ws L) (U:∀ q∈L,q∈poolN) (nd:(L.map λq=>q.2).Nodup) (s7:sm L<=7) (l7:L.length<=7) (X:f≠p/\f≠a) (k:∀ B,Q (.bl true) B) :
  Rf K { nx:=λ_ B=>Q .non B,rt:=Q } [some (.ref s),some (.ref p),some (.ref f),none,none,none,none,none,none,none,none,none,none,none,none] H:=by
 have wl:=PL.len;refine Bc (IS (AN rfl ⟨_,rfl,⟨_,SqL.of hf⟩,CompJ.lst (xs:=ws) (λi G B=>i<=ws.length/\∃ A,Nums B G A/\(∀ q∈A,Sn q)/\A.length=i/\Stt B p a (n+3*i)/\Kpa p a H B) ⟨Ae _,[],trivial,(λ_ h=>nomatch h),rfl,st.mono ⋯,Kpa.of (Same.refl H)⟩ ?_ ?_ ?_⟩))
 ·rintro i G B ⟨hi,A,h,_,e,_,k0⟩;exact ⟨hi,sz (by rw [h.length];omega),SqL.of (k0 _ _ X.1 X.2 hf)⟩
 ·rintro i x G H2 hx ⟨hi,A,h,sA,e,F,k2⟩;have lt:i<ws.length:=(BF.mp hx).1;refine FH (BS (AN rfl (KJ F ⋯ λr t d H3 hr lo t1 d1 m Y=>⟨lt,A++[(t,d)],(h.tp (Y.tp F)).append (Nums.one ⟨r,rfl,hr⟩),λq hq=>?_,by rw [Bw,e];rfl,m.mono ⋯,k2.trans Y⟩)));rcases CK.mp hq with c | c
  ·exact sA q c
  ·rw [Ap.mp c];exact ⟨lo,t1,d1⟩
 ·rintro G H2 ⟨_,A,NA,sA,al,F,k2⟩ w hw;have s3:=AL hw (.lst G);have I:(upd H2 w (.lst G)) w=some (HO.lst G):=upd_same;have Z:w≠p/\w≠a:=F.pn hw;have m:=F.same s3;have Y:=k2.same s3;have N:=NA.tp (C' s3);generalize upd H2 w (.lst G)=H3 at I m Y N ⊢;refine ⟨sz ∅,λg hg=>?_⟩;have s4:=AL hg (.lst []);have a0:(upd H3 g (.lst [])) g=some (HO.lst []):=upd_same;have O:g≠p/\g≠a:=m.pn hg;have a1:=m.same s4;generalize upd H3 g (.lst [])=H4 at s4 a0 a1 ⊢;have yl:=NA.length;show Re K _ _ _;refine Ka (AN rfl ⟨_,rfl,⟨_,SqL.of (s4 _ _ I)⟩,ForL.by (xs:=G) (λi σ B=>∃ (x5 x6:cN) (P:cM) (C:cI),σ=[some (.ref s),some (.ref p),some (.ref f),some (.ref w),some (.ref g),x5,x6,none,none,none,none,none,none,none,none]/\B g=some (.lst P)/\Nums B P C/\(∀ q∈C,Sn q)/\C.length=i/\Stt B p a (n+3*ws.length+4*i)/\Kpa p a H3 B) ⟨none,none,[],[],rfl,a0,trivial,(λ_ h=>nomatch h),rfl,a1.mono ⋯,Kpa.of s4⟩ ?_ ?_ ?_⟩)
  ·rintro i σ B _ ⟨x5,x6,P,C,rfl,_,_,_,_,_,M⟩;exact SqL.of (M _ _ Z.1 Z.2 I)
  ·rintro i x σ H5 hx ⟨x5,x6,P,C,rfl,R,NC,sC,cl,J,M⟩;have lt:i<G.length:=(BF.mp hx).1;obtain ⟨q,hq,c,rfl,hc⟩:=(N.tp (M.tp m)).get hx;have sq:=sA q (Ay hq);refine FH ?_;show RM K _ _ _;refine Bc ?_;refine BS (AN rfl (KJ J ⋯ λr t d H6 hr lo t1 d1 a2 k6=>?_));have a3:=k6.tp J;have S:=a3 _ _ hc;refine ⟨_,rfl,_,_,_,_,rfl,rfl,S,rfl,_,rfl,_,rfl,_,_,_,_,rfl,rfl,S,rfl,Az,λD ae=>⟨Az,λz hz=>⟨_,rfl,by show 4<=_;exact sz ∅,λe he=>?_⟩⟩⟩;have u1:=AL ae (.tup [.int (-q.1),.int q.2]);have u2:=AL hz (.tup [.int 0,.int 1]);have u3:=AL he (.lst [.ref r,.ref D,.ref z,.ref c]);have u:=u1.trans (u2.trans u3);have N7:Nums (upd (upd (upd H6 D (.tup [.int (-q.1),.int q.2])) z (.tup [.int 0,.int 1])) e (.lst [.ref r,.ref D,.ref z,.ref c])) [V.ref r,V.ref D,V.ref z,V.ref c] [(t,d),(-q.1,q.2),(0,1),q]:=⟨⟨r,rfl,u _ _ hr⟩,⟨D,rfl,(u2.trans u3) _ _ upd_same⟩,⟨z,rfl,u3 _ _ upd_same⟩,⟨c,rfl,u _ _ S⟩,trivial⟩;have a4:=upd_same (H:=upd (upd H6 D (.tup [.int (-q.1),.int q.2])) z (.tup [.int 0,.int 1])) (a:=e) (o:=HO.lst [V.ref r,V.ref D,V.ref z,V.ref c]);have ne:e≠p/\e≠a:=((a2.same u1).same u2).pn he;show RL K _ _ (upd (upd (upd H6 D (.tup [.int (-q.1),.int q.2])) z (.tup [.int 0,.int 1])) e (.lst [.ref r,.ref D,.ref z,.ref c]));generalize upd (upd (upd H6 D (.tup [.int (-q.1),.int q.2])) z (.tup [.int 0,.int 1])) e (.lst [.ref r,.ref D,.ref z,.ref c])=H7 at u N7 a4 ⊢;have a5:=a2.same u;have a6:=u _ _ (k6 _ _ O.1 O.2 R);refine ⟨_,rfl,.inl ⟨rfl,_,SqL.of a6⟩,Hm (A5 (AN rfl (Bb (AN rfl (N_ (Em a5 ⋯ ∅ ∅ λj H8 j0 j1 aj k8=>?_))))))⟩;have a7:=k8.tp a5;have am:=k8 _ _ ne.1 ne.2 a4;have a8:=k8 _ _ O.1 O.2 a6;have jl:j.toNat<[V.ref r,V.ref D,V.ref z,V.ref c].length:=by show _<4;omega
   obtain ⟨y,hy,v,ev,hv⟩:=(N7.tp a7).get (Aj jl)
   have sy:Sn y:=by
    have T:=Ay hy;rcases A7.mp T with c | T
    ·rw [c];exact ⟨lo,t1,d1⟩
    ·rcases A7.mp T with c | T
     ·rw [c];exact sq.neg
     ·rcases A7.mp T with c | T
      ·rw [c];exact rL
      ·rw [Ap.mp T];exact sq
   have zl:=NC.length;refine ⟨_,_,_,V.ref v,rfl,rfl,am,Ck (j:=j.toNat) (Int.toNat_of_nonneg j0).symm (by rw [Aj jl,ev]),_,_,_,rfl,rfl,a8,Iz ⋯,?_⟩;have ab:Tp H8 (upd H8 g (.lst (P++[V.ref v]))):=Hn a8;refine ⟨_,_,P++[V.ref v],C++[y],rfl,upd_same,((((NC.tp a3).tp (C' u)).tp a7).tp ab).append (Nums.one ⟨v,rfl,ab _ _ hv⟩),λy' an=>?_,by rw [Bw,cl];rfl,(aj.upd O.1 O.2).mono ⋯,λb o b1 b2 hb=>(Ad (BM hb hg)).trans (k8 _ _ b1 b2 (u _ _ (k6 _ _ b1 b2 (M _ _ b1 b2 hb))))⟩;rcases CK.mp an with c | c
   ·exact sC y' c
   ·rw [Ap.mp c];exact sy
  ·rintro σ H5 ⟨x5,x6,P,C,rfl,R,NC,sC,cl,J,M⟩;have ac:=Y.trans M;exact rK J ⋯ (ac _ _ X.1 X.2 hf) (PL.tp (ac.tp st)) U nd s7 l7 X Z O (M _ _ Z.1 Z.2 I) (N.tp (M.tp m)) sA ⋯ R NC sC ⋯ k
theorem rM (h:Ju K vs H Q E):xD K { nx:=λ_ u=>Q .non u,rt:=Q } (L2.start ["_law_script","_law_state","_law_parts","_law_ones","_law_others","_law_number_here","_law_some_here","_law_kr","_law_ks","_law_one","_law_other_here","_law_sums","_law_found","_law_by","_law_due"] vs) H:=by
 obtain ⟨s,v,rfl,w,j,k⟩:=h;refine IP (AN rfl ⟨_,v,rfl,w,j,λp a I J M s1 q=>?_⟩);show Rh K _ _ _;refine ZF (AN rfl (N_ (N_ ⟨p,a,4,6,0,rfl,q,∅,∅,∅,∅,∅,λf N L x O y z PW sL d A P R i S=>?_⟩)));have m:f≠p/\f≠a:=q.pn y;show Rg K _ _ _;refine Ei (Cv (A5 (Bb (AN rfl (N_ (Em i ⋯ ∅ ∅ λe T U W b r=>N_ ⟨rfl,_,rfl,Am (λ_=>?_) (λ_=>?_)⟩))))))
 ·refine IT (BS (AN rfl ⟨p,a,x+1,rfl,b,⋯,λg X Y Z B C D c n F G o k4=>?_⟩));exact Tf o ⋯ C D c n F G (b.pn B) k
 ·exact Tf b ⋯ (r _ _ m.1 m.2 z) (PW.tp (r.tp i)) d A ⋯ ⋯ m k
end Bs
namespace Bs
open PySem PySem.Spec PyProof.Rows L2
set_option maxHeartbeats 4000000
open Hd
structure Bl (K:W.Frag) (mg:cU):Prop where
 abs:mg "abs" = none
 min:mg "min" = none
 len:mg "len" = none
 enumerate:mg "enumerate" = none
 list:mg "list" = none
 max:mg "max" = none
 range:mg "range" = none
 any:mg "any" = none
 zip:mg "zip" = none
 EXPONENTS:mg "EXPONENTS" = some (.ref (Ge K))
 tuple:mg "tuple" = none
 sorted:mg "sorted" = none
 divmod:mg "divmod" = none
 isinstance:mg "isinstance" = none
 int:mg "int" = none
 bool:mg "bool" = none
 all:mg "all" = none
 xEXPONENTS:∀ H:Hp,SqT K H (Ge K) (exps.map λe:Nat=>V.int (e:Int))
section
variable {P:Program} {w:World} {K:W.Frag} {mg:cU} {base:Heap} {f:Addr} {fd:FuncData}
theorem K' {n:Str} {st:Stmt} {N ps:cW} {k:Nat} {sp:Sp} {t:TS} (F:Fun K n n st f fd) (v:∀ {vs:cM} {H:Hp} {Q:VK} {E:XK},sp vs H Q E->t { nx:=λ_ g=>Q .non g,rt:=Q } (start N vs) H) (d:∀ {a:Value} {A:Around} {b:List Env} {s:Shared} {H:Hp} {E:XK} (c:Room k (A.deeper (envOfC n (Ci st) s.heap.objs.size f a))) (i:N.Nodup) (j:(A.deeper (envOfC n (Ci st) s.heap.objs.size f a)).units<cLine) (e:(A.deeper (envOfC n (Ci st) s.heap.objs.size f a)).units+64<cLine),PSs (GJ aF P w K mg base N n (Ci st) f a A b s H E).nox (Dv st) t) (S:FnScope N ps (Ci st):=by exact ⟨rfl,rfl,rfl,by decide +kernel,rfl,by decide +kernel,by decide +kernel⟩) (len:∀ vs H Q E,sp vs H Q E->vs.length=ps.length:=by intro vs H Q E h;repeat (first | (obtain ⟨rfl,_⟩:=h;rfl) | obtain ⟨_,h⟩:=h)):FnOk P w K mg base aF (k+1) f fd ps sp:=F.ok S len λa A b s H vs Q E c h=>⟨t,d c S.nd c.units0 c.units,v h⟩
theorem li {a:Prop} {b:Type} {x:b}:x=x\/a:=Or.inl rfl
end
set_option maxHeartbeats 4000000
open Hd
theorem Mp {K:W.Frag} {st:Stmt} {f c:Addr} {n:Str} {pm:Value} (l:K.lookup f=some (J' n st pm c)) (e:W.codeIn K (.ref c) n=true) (k:W.keepIn K (.ref f)=true):Fun K n n st f (W.fnOf n n (Ed st) (Dv st) (Ci st) .none .none .none pm none (.ref c) .none):=VH (st:=st) l e k
theorem rO {P:Program} {K:W.Frag} {w:World} {h c:Heap} {d:cU} {k:Nat} {f:Addr} {g:FuncData} {n:Str} {ps:cW} {sp:Sp} (X:K.In h) (G:h.Ns mainGlobals d) (ok:FnOk P w K d c aF k f g ps sp) (b:Binds K g ps []) (e:W.keepIn K (.ref f)=true) (a:W.nsIn K mainGlobals n=some (some (.ref f))):Cal P w K d c k n ps sp:=⟨f,g,ok,b,e,W.mg_of X G a⟩
theorem I0 {a:cP} {n:Nat} (h:a.length=n+1):∃ x t,a=x::t/\t.length=n:=by cases a with | nil=>cases h | cons x t=>exact ⟨x,t,rfl,Nat.succ.inj h⟩
theorem Tg (a:cP) (h:a.length=1):∃ b,a=[b]:=by obtain ⟨x,t,rfl,q⟩:=I0 h;exact ⟨x,by rw [CI.mp q]⟩
theorem Th (b:cP) (h:b.length=2):∃ c a,b=[c,a]:=by obtain ⟨x,t,rfl,q⟩:=I0 h;obtain ⟨a,rfl⟩:=Tg t q;exact ⟨x,a,rfl⟩
theorem Ti (c:cP) (h:c.length=3):∃ d a b,c=[d,a,b]:=by obtain ⟨x,t,rfl,q⟩:=I0 h;obtain ⟨a,b,rfl⟩:=Th t q;exact ⟨x,a,b,rfl⟩
theorem rP (d:cP) (h:d.length=4):∃ e a b c,d=[e,a,b,c]:=by obtain ⟨x,t,rfl,q⟩:=I0 h;obtain ⟨a,b,c,rfl⟩:=Ti t q;exact ⟨x,a,b,c,rfl⟩
theorem rQ (e:cP) (h:e.length=5):∃ f a b c d,e=[f,a,b,c,d]:=by obtain ⟨x,t,rfl,q⟩:=I0 h;obtain ⟨a,b,c,d,rfl⟩:=rP t q;exact ⟨x,a,b,c,d,rfl⟩
theorem Ao {P:Program} {K:W.Frag} {w:World} {h g:Heap} {j:cU} {k:Nat} {f c:Addr} {n:Str} {ps:cW} {sp:Sp} {st:Stmt} {pm:Value} (X:K.In h) (G:h.Ns mainGlobals j) (ok:Fun K n n st f (W.fnOf n n (Ed st) (Dv st) (Ci st) .none .none .none pm none (.ref c) .none)->FnOk P w K j g aF k f (W.fnOf n n (Ed st) (Dv st) (Ci st) .none .none .none pm none (.ref c) .none) ps sp) (l:K.lookup f=some (J' n st pm c):=by kernel_rfl) (e:W.codeIn K (.ref c) n=true:=by kernel_rfl) (q:W.keepIn K (.ref f)=true:=by kernel_rfl) (a:W.nsIn K mainGlobals n=some (some (.ref f)):=by kernel_rfl) (b:∀ (kV m pm:Value) (p:Option Addr) (o r:Value) (d:cP),d.length=ps.length->bindArgs (W.fnOf n n (Ed st) (Dv st) (Ci st) .none kV m pm p o r) ⟨d,[]⟩=pure (ps.zip d):=by first | exact λ_ _ _ _ _ _ d i=>by obtain ⟨_,rfl⟩:=Tg d i;rfl | exact λ_ _ _ _ _ _ d i=>by obtain ⟨_,_,rfl⟩:=Th d i;rfl | exact λ_ _ _ _ _ _ d i=>by obtain ⟨_,_,_,rfl⟩:=Ti d i;rfl | exact λ_ _ _ _ _ _ d i=>by obtain ⟨_,_,_,_,_,rfl⟩:=rQ d i;rfl):Cal P w K j g k n ps sp:=rO X G (ok (Mp l e q)) ((Mp l e q).binds b) q a
abbrev L_ (P:Program) (w:World) (b:cU) (a:Heap) (k:Nat) (n:Str) (ps:cW) (sp:W.Frag->Sp):Prop:=Cal P w (hp w.params) b a k n ps (sp (hp w.params))
section
variable {P:Program} {w:World} {mg:cU} {base h:Heap} (X:(hp w.params).In h) (G:h.Ns mainGlobals mg) (B:Bl (hp w.params) mg)
include X G B
theorem Gs:L_ P w mg base 1 "common_divisor" ["one", "other"] Ej:=Ao (f:=22) (c:=21) (pm:=M_) (st:=VI) X G λF=>K' F (xG ) λb a d e=>(AK (EE PassesOwn.never (cR Ec (pv 1) AF) (AK (D_ a (AS UY (pv 0) (pv 1))) (AK (D_ a (pv 1)) (AQ (D_ a (pv 2)))))) (AQ (AY (At Kr rfl B.abs Ko (AD (pv 0) AI)))))
theorem rR:L_ P w mg base 1 "raised" ["whole", "n"] Jv:=Ao (f:=29) (c:=28) (pm:=M_) (st:=VJ) X G λF=>K' F (xH ) λb a d e=>(AK (D_ a AF) (AK (D_ a (pv 0)) (AK (EE PassesOwn.never (cR GI (pv 1) AF) (AK (BY (cR C4 (AS DH (pv 1) AF) AF) (AQ (FW (i:=2) a rfl li (pv 3) JO)) Be) (AK (FW (i:=1) a rfl li AF XF) (AQ (BY (cR GI (pv 1) AF) (AQ (FW (i:=3) a rfl li (pv 3) JO)) Be))))) (AQ (AY (pv 2))))))
theorem Mr:L_ P w mg base 1 "row_trimmed" ["row"] HP:=Ao (f:=41) (c:=40) (pm:=M_) (st:=VM) X G λF=>K' F (xO ) λb a d e=>(AK (D_ a (At CG rfl B.len BR (AD (pv 0) AI))) (AK (EE PassesOwn.never (PW.pt (E1 (cR GI (pv 1) AF) (Ez (cR C4 (BA BG (pv 0) (AS CM (pv 1) AF) (λ_ _=>rfl)) AF)))) (AQ (FW (i:=1) a rfl li AF Hv))) (AQ (AY (GO ID (pv 0) GK (GN (pv 1)))))))
theorem Tj:L_ P w mg base 1 "row_parted" ["row", "divisor"] IW:=Ao (f:=46) (c:=45) (pm:=M_) (st:=VN) X G λF=>K' F (xX ) λa b d e=>(AQ (AY (Cj (N:=["whole", "divisor"]) (capt:=[none,some 1]) rfl (BlkOk.of rfl rfl rfl rfl (Cg.mpr rfl) rfl rfl rfl) (CZ (pv 0)) (λ_ _ _ _=>(Ah (i:=0) (show (["whole", "divisor"]:List PySem.Str).Nodup by decide +kernel) rfl li)) (λ_ _ _ _=>(AS JY (pv 0) (pv 1))))))
theorem rS:L_ P w mg base 1 "row_times" ["row", "other"] J7:=Ao (f:=53) (c:=52) (pm:=M_) (st:=VO) X G λF=>K' F (vL ) λb a d e=>(AK (BY (PW.pt (E2 (ED (Fd (pv 0) (λ_=>rfl))) (GE (ED (Fd (pv 1) (λ_=>rfl)))))) (AQ (AY (BO AI))) Be) (AK (D_ a (AS Hy (BO (AD AF AI)) (AS CM (AS CP (At CG rfl B.len BR (AD (pv 0) AI)) (At CG rfl B.len BR (AD (pv 1) AI))) AF))) (AK (Ca PassesOwn.never rfl (Ks rfl B.enumerate (AD (pv 0) AI)) (DI rfl (Bg (Ah (i:=3) a rfl li) (Bg (Ah (i:=4) a rfl li) DE))) (AQ (BY (cR Ec (pv 4) AF) (AQ (Ca PassesOwn.never rfl (Ks rfl B.enumerate (AD (pv 1) AI)) (DI rfl (Bg (Ah (i:=5) a rfl li) (Bg (Ah (i:=6) a rfl li) DE))) (AQ (JC (pv 2) (AS CP (pv 3) (pv 5)) JW (AS Bm (pv 4) (pv 6)) UZ E7)))) Be))) (AQ (AY (pv 2))))))
theorem Tk:L_ P w mg base 1 "row_over" ["row", "divisor"] IY:=Ao (f:=60) (c:=59) (pm:=M_) (st:=VP) X G λF=>K' F (wC ) λb a d e=>(AK (D_ a (FX Nr rfl B.list JN (AD (pv 0) AI))) (AK (D_ a (AS CM (At CG rfl B.len BR (AD (pv 1) AI)) AF)) (AK (D_ a (AS Hy (BO (AD AF AI)) (At (JP rfl) rfl B.max JM (AD (AS CM (At CG rfl B.len BR (AD (pv 0) AI)) (pv 3)) (AD AF AI))))) (AK (Ca PassesOwn.never rfl (Nx rfl B.range (AD (AS CM (AS CM (At CG rfl B.len BR (AD (pv 0) AI)) (pv 3)) AF) (AD (BZ Ba AF) (AD (BZ Ba AF) AI)))) (Ah (i:=5) a rfl li) (AK (D_ a (AS E9 (BA BG (pv 2) (AS CP (pv 5) (pv 3)) (λ_ _=>rfl)) (BA BG (pv 1) (BZ Ba AF) (λ_ _=>rfl)))) (AK (BY (cR Ec (AS Bm (pv 6) (BA BG (pv 1) (BZ Ba AF) (λ_ _=>rfl))) (BA BG (pv 2) (AS CP (pv 5) (pv 3)) (λ_ _=>rfl))) (AQ (AY GD)) Be) (AK (FV (pv 6) (FU (pv 4) (pv 5) E7)) (AQ (BY (cR Ec (pv 6) AF) (AQ (Ca PassesOwn.never rfl (G4 rfl B.range (AD (pv 3) AI)) (Ah (i:=7) a rfl li) (AQ (JC (pv 2) (AS CP (pv 5) (pv 7)) JW (AS Bm (pv 6) (BA BG (pv 1) (pv 7) (λ_ _=>rfl))) Hv E7)))) Be)))))) (AQ (AY (JB (Ds (At (XR rfl) rfl B.any XQ (AD (GO ID (pv 2) GK (GN (pv 3))) AI))) GD (pv 4))))))))
theorem rT:L_ P w mg base 1 "inverse_modulo" ["whole", "prime"] Jx:=Ao (f:=96) (c:=95) (pm:=M_) (st:=VV) X G λF=>K' F (wG ) λb a d e=>(AK (D_ a (pv 1)) (AK (D_ a (AS DH (pv 0) (pv 1))) (AK (D_ a AF) (AK (D_ a AF) (AK (EE PassesOwn.never (cR Ec (pv 3) AF) (AK (D_ a (AS JY (pv 2) (pv 3))) (AK (D_ a (AS CM (pv 2) (AS Bm (pv 6) (pv 3)))) (AK (D_ a (pv 3)) (AK (D_ a (pv 7)) (AK (D_ a (AS CM (pv 4) (AS Bm (pv 6) (pv 5)))) (AK (D_ a (pv 5)) (AQ (D_ a (pv 7)))))))))) (AQ (AY (AS DH (pv 4) (pv 1)))))))))
theorem rV:L_ P w mg base 1 "rests_modulo" ["row", "prime"] Jy:=Ao (f:=101) (c:=100) (pm:=M_) (st:=VW) X G λF=>K' F (wD ) λa b d e=>(AQ (AY (Cj (N:=["whole", "prime"]) (capt:=[none,some 1]) rfl (BlkOk.of rfl rfl rfl rfl (Cg.mpr rfl) rfl rfl rfl) (CZ (pv 0)) (λ_ _ _ _=>(Ah (i:=0) (show (["whole", "prime"]:List PySem.Str).Nodup by decide +kernel) rfl li)) (λ_ _ _ _=>(AS DH (pv 0) (pv 1))))))
theorem rW:L_ P w mg base 1 "nearest" ["whole", "prime"] J2:=Ao (f:=141) (c:=140) (pm:=M_) (st:=Vc) X G λF=>K' F (wI ) λb a d e=>(AK (D_ a (AS DH (pv 0) (pv 1))) (AQ (AY (JB (cR GI (AS Bm AF (pv 2)) (pv 1)) (AS CM (pv 2) (pv 1)) (pv 2)))))
theorem rX:L_ P w mg base 1 "before" ["one", "other"] Ln:=Ao (f:=188) (c:=187) (pm:=aO) (st:=Vj) X G λF=>K' F (uW ) λa b d e=>(AQ (AY (JI Hw (AS Bm (xI Ab (pv 0)) (xI Ab (pv 1))) (AS Bm (xI Ab (pv 1)) (xI Ab (pv 0))) (X_ _))))
theorem Hr:L_ P w mg base 1 "poly" ["row"] FI:=Ao (f:=195) (c:=194) (pm:=a9) (st:=Vk) X G λF=>K' F (xK ) λb a d e=>(AK (D_ a (At CG rfl B.len BR (AD (pv 0) AI))) (AK (EE PassesOwn.never (PW.pt (E1 (cR GI (pv 1) AF) (Ez (cR C4 (xI Ab (BA BG (pv 0) (AS CM (pv 1) AF) (λ_ _=>rfl))) AF)))) (AQ (FW (i:=1) a rfl li AF Hv))) (AQ (AY (FX JV rfl B.tuple Ef (AD (GO ID (pv 0) GK (GN (pv 1))) AI))))))
theorem Mt:L_ P w mg base 1 "degree" ["P"] HX:=Ao (f:=202) (c:=201) (pm:=a9) (st:=Vl) X G λF=>K' F (uX ) λa b d e=>(AQ (AY (AS CM (At Dw rfl B.len BR (AD (pv 0) AI)) AF)))
theorem Tl:L_ P w mg base 1 "number_of" ["P", "place"] Id:=Ao (f:=219) (c:=218) (pm:=a9) (st:=Vo) X G λF=>K' F (vT ) λa b d e=>(AQ (AY (JB (cR Hw (pv 1) (At Dw rfl B.len BR (AD (pv 0) AI))) (BA Ab (pv 0) (pv 1) (λ_ _=>rfl)) (As (AD AF (AD AF AI))))))
theorem rY:L_ P w mg base 1 "f_poly" ["P"] Lu:=Ao (f:=278) (c:=277) (pm:=aq) (st:=Vx) X G λF=>K' F (sR ) λa b d e=>(AQ (AY (As (AD (pv 0) (AD (As (AD (As (AD AF (AD AF AI))) AI)) AI)))))
theorem rZ:L_ P w mg base 1 "_law_begin" ["_law_script"] Lm:=Ao (f:=328) (c:=327) (pm:=R_) (st:=V5) X G λF=>K' F (tH ) λb a d e=>(AK (D_ a AF) (AK (Ca PassesOwn.never rfl (CZ (GO OB (pv 0) GK (GN AF))) (Ah (i:=2) a rfl li) (AQ (D_ a (AS DH (AS CP (AS CP (AS Bm (pv 1) AF) (AS DH (pv 2) AF)) AF) AF)))) (AK (Ff (i:=3) (N:=["_law_cell"]) (capt:=[none]) a rfl li rfl (BlkOk.of rfl rfl rfl rfl (λ_ h=>nomatch h) rfl rfl rfl) (CZ (GO OB (pv 0) GK (GN AF))) (λ_ _ _ _=>(Ah (i:=0) (show (["_law_cell"]:List PySem.Str).Nodup by decide +kernel) rfl li)) (λ_ _ _ _=>(At Kr rfl B.abs Ko (AD (pv 0) AI)))) (AQ (AY (Xg (Jb (pv 3) (Jb (pv 1) (Jb (JI C4 (AS DH (pv 1) AF) AF (X_ _)) (Jb AF Xf)))) ∅ ∅ (by decide +kernel)))))))
theorem Er:L_ P w mg base 1 "_law_take" ["_law_state", "_law_many"] Dj:=Ao (f:=335) (c:=334) (pm:=R_) (st:=V6) X G λF=>K' F (uT ) λb a d e=>(AK (FV (AS CP (BA Dy (pv 0) DC (λ_ _=>rfl)) AF) (FU (pv 0) DC OI)) (AK (BY (Ds (BA Dy (pv 0) DC (λ_ _=>rfl))) (AK (EE PassesOwn.never (PW.pt (E1 (cR GI (At CG rfl B.len BR (AD (BA Dy (pv 0) DC (λ_ _=>rfl)) AI)) AF) (Ez (cR C4 (xI BG (BA Dy (pv 0) DC (λ_ _=>rfl))) AF)))) (AQ (GH (FY PySem.F.plainAttrs_list PySem.F.slot_list_pop PySem.F.type_list_pop Xk (BA Dy (pv 0) DC (λ_ _=>rfl)) (AD AF AI))))) (AK (BY (cR C4 (At CG rfl B.len BR (AD (BA Dy (pv 0) DC (λ_ _=>rfl)) AI)) AF) (AQ (AY AF)) Be) (AK (FV (At Xh rfl B.divmod Xj (AD (xI BG (BA Dy (pv 0) DC (λ_ _=>rfl))) (AD (pv 1) AI))) (DI rfl (Bg (FU (BA Dy (pv 0) DC (λ_ _=>rfl)) AF E7) (Bg (Ah (i:=2) a rfl li) DE)))) (AQ (AY (pv 2)))))) Be) (AK (D_ a (AS DH (AS Bm (AS CP (BA Dy (pv 0) DC (λ_ _=>rfl)) (AS Bm AF (BA Dy (pv 0) DC (λ_ _=>rfl)))) AF) AF)) (AK (FV (AS CP (AS DH (AS Bm (pv 3) (pv 3)) AF) (BA Dy (pv 0) DC (λ_ _=>rfl))) (FU (pv 0) DC OI)) (AQ (AY (AS DH (AS Wm (BA Dy (pv 0) DC (λ_ _=>rfl)) AF) (pv 1))))))))
theorem Hs:L_ P w mg base 1 "_law_whole" ["_law_row"] EN:=Ao (f:=354) (c:=353) (pm:=R_) (st:=V8) X G λF=>K' F (uY ) λa b d e=>(AQ (AY (FX JV rfl B.tuple Ef (AD (Cj (N:=["_law_number_here"]) (capt:=[none]) rfl (BlkOk.of rfl rfl rfl rfl (λ_ h=>nomatch h) rfl rfl rfl) (CZ (pv 0)) (λ_ _ _ _=>(Ah (i:=0) (show (["_law_number_here"]:List PySem.Str).Nodup by decide +kernel) rfl li)) (λ_ _ _ _=>(As (AD (pv 0) (AD AF AI))))) AI))))
theorem Tm:L_ P w mg base 1 "_law_is_number" ["_law_found"] KC:=Ao (f:=388) (c:=387) (pm:=R_) (st:=WE) X G λF=>K' F (uZ ) λb a d e=>(AK (BY (PW.pt (E2 (ED (Ds (At Fc rfl B.isinstance Fb (AD (pv 0) (AD (FT rfl B.tuple Ef rfl) AI))))) (GE (cR Ec (At Dw rfl B.len BR (AD (pv 0) AI)) AF)))) (AQ (AY EX)) Be) (AK (Ca PassesOwn.never rfl (Ea (pv 0)) (Ah (i:=1) a rfl li) (AQ (BY (PW.pt (E2 (ED (Ds (At Fc rfl B.isinstance Fb (AD (pv 1) (AD (FT rfl B.int Wj rfl) AI))))) (GE (Ds (At Fc rfl B.isinstance Fb (AD (pv 1) (AD (FT rfl B.bool Wk rfl) AI))))))) (AQ (AY EX)) Be))) (AQ (AY EX))))
theorem Tn:L_ P w mg base 2 "content" ["row", "start"] IV:=Ao (f:=34) (c:=33) (pm:=M_) (st:=VL) X G λF=>K' F (xW ) λb a d e=>(AK (D_ a ((Gs X G B).q2 b (XU rfl B.min Wh (Xy (N:=["whole"]) (capt:=[none]) rfl (BlkOk.of rfl rfl rfl rfl (λ_ h=>nomatch h) rfl rfl rfl) (CZ (pv 0)) (λ_ _ _ _=>(Ah (i:=0) (show (["whole"]:List PySem.Str).Nodup by decide +kernel) rfl li)) (λ_ _ _ _=>(cR Ec (pv 0) AF)) (λ_ _ _ _=>(At Kr rfl B.abs Ko (AD (pv 0) AI))))) (pv 1))) (AK (Ca PassesOwn.never rfl (CZ (pv 0)) (Ah (i:=3) a rfl li) (AK (BY (cR C4 (pv 2) AF) (AQ (AY AF)) Be) (AQ (D_ a ((Gs X G B).q2 b (pv 3) (pv 2)))))) (AQ (AY (pv 2)))))
theorem To:L_ P w mg base 2 "row_less" ["row", "factor", "other", "weight", "shift"] IX:=Ao (f:=65) (c:=64) (pm:=M_) (st:=VQ) X G λF=>K' F (xZ ) λb a d e=>(AK (Ff (i:=5) (N:=["whole", "factor"]) (capt:=[none,some 1]) a rfl li rfl (BlkOk.of rfl rfl rfl rfl (Cg.mpr rfl) rfl rfl rfl) (CZ (pv 0)) (λ_ _ _ _=>(Ah (i:=0) (show (["whole", "factor"]:List PySem.Str).Nodup by decide +kernel) rfl li)) (λ_ _ _ _=>(AS Bm (pv 1) (pv 0)))) (AK (GH (FY PySem.F.plainAttrs_list PySem.F.slot_list_extend PySem.F.type_list_extend U7 (pv 5) (AD (AS Hy (BO (AD AF AI)) (AS CM (AS CP (At CG rfl B.len BR (AD (pv 2) AI)) (pv 4)) (At CG rfl B.len BR (AD (pv 0) AI)))) AI))) (AK (Ca PassesOwn.never rfl (Ks rfl B.enumerate (AD (pv 2) AI)) (DI rfl (Bg (Ah (i:=6) a rfl li) (Bg (Ah (i:=7) a rfl li) DE))) (AQ (JC (pv 5) (AS CP (pv 6) (pv 4)) JW (AS Bm (pv 3) (pv 7)) Hv E7))) (AQ (AY ((Mr X G B).q1 b (pv 5)))))))
theorem Mu:L_ P w mg base 2 "row_modulo" ["row", "prime"] HR:=Ao (f:=108) (c:=107) (pm:=M_) (st:=VX) X G λF=>K' F (wF ) λa b d e=>(AQ (AY ((Mr X G B).q1 a ((rV X G B).q2 a (pv 0) (pv 1)))))
theorem Mv:L_ P w mg base 2 "monic_modulo" ["row", "prime"] HS:=Ao (f:=113) (c:=112) (pm:=M_) (st:=VY) X G λF=>K' F (wH ) λa b d e=>(AK (BY (ED (Fd (pv 0) (λ_=>rfl))) (AQ (AY (BO AI))) Be) (AK (Cr (i:=2) b rfl (Or.inr rfl) ((rT X G B).q2 a (BA BG (pv 0) (BZ Ba AF) (λ_ _=>rfl)) (pv 1))) (AQ (AY (Cj (N:=["whole", "prime", "factor"]) (capt:=[none,some 1,some 2]) rfl (BlkOk.of rfl rfl rfl rfl (GC.mpr ⟨rfl,(Cg.mpr rfl)⟩) rfl rfl rfl) (CZ (pv 0)) (λ_ _ _ _=>(Ah (i:=0) (show (["whole", "prime", "factor"]:List PySem.Str).Nodup by decide +kernel) rfl li)) (λ_ _ _ _=>(AS DH (AS Bm (pv 0) (pv 2)) (pv 1))))))))
theorem Ht:L_ P w mg base 2 "ratio" ["top", "bottom"] Ek:=Ao (f:=160) (c:=159) (pm:=aO) (st:=Vf) X G λF=>K' F (xP ) λb a d e=>(AK (D_ a ((Gs X G B).q2 b (pv 0) (pv 1))) (AK (BY (cR Hw (pv 1) AF) (AQ (D_ a (BZ Ba (pv 2)))) Be) (AQ (AY (As (AD (AS E9 (pv 0) (pv 2)) (AD (AS E9 (pv 1) (pv 2)) AI)))))))
theorem Gu:L_ P w mg base 2 "cleared" ["P"] El:=Ao (f:=207) (c:=206) (pm:=a9) (st:=Vm) X G λF=>K' F (xQ ) λb a d e=>(AK (Cr (i:=1) a rfl (Or.inr rfl) AF) (AK (Ca PassesOwn.never rfl (Oa (pv 0)) (Ah (i:=2) a rfl li) (AQ (FW (i:=1) a rfl (Or.inr rfl) (AS JY (xI Ab (pv 2)) ((Gs X G B).q2 b (pv 1) (xI Ab (pv 2)))) JO))) (AQ (AY (As (AD (Cj (N:=["number", "bottom"]) (capt:=[none,some 1]) rfl (BlkOk.of rfl rfl rfl rfl (Cg.mpr rfl) rfl rfl rfl) (Oa (pv 0)) (λ_ _ _ _=>(Ah (i:=0) (show (["number", "bottom"]:List PySem.Str).Nodup by decide +kernel) rfl li)) (λ_ _ _ _=>(AS Bm (xI Ab (pv 0)) (AS JY (pv 1) (xI Ab (pv 0)))))) (AD (pv 1) AI)))))))
theorem Tq:L_ P w mg base 2 "f_number" ["c"] KE:=Ao (f:=285) (c:=284) (pm:=aq) (st:=Vy) X G λF=>K' F (sV ) λa b d e=>(AQ (AY ((rY X G B).q1 a ((Hr X G B).q1 a (BO (AD (pv 0) AI))))))
theorem Tr:L_ P w mg base 2 "_law_pool" ["_law_state"] J9:=Ao (f:=359) (c:=358) (pm:=R_) (st:=V9) X G λF=>K' F (tI ) λb a d e=>(AK (D_ a (AS JK (Cj (N:=["_law_k"]) (capt:=[none]) rfl (BlkOk.of rfl rfl rfl rfl (λ_ h=>nomatch h) rfl rfl rfl) (Ea (As (AD AF (AD AF (AD (BZ Ba AF) (AD AF (AD (BZ Ba AF) (AD AF AI)))))))) (λ_ _ _ _=>(Ah (i:=0) (show (["_law_k"]:List PySem.Str).Nodup by decide +kernel) rfl li)) (λ_ _ _ _=>((Hs X G B).q1 b (BO (AD (BZ Ba (pv 0)) (AD AF AI)))))) (BO (AD (As (AD (As (AD AF (AD AF AI))) (AD (As (AD AF (AD AF AI))) AI))) (AD (As (AD (As (AD (BZ Ba AF) (AD AF AI))) (AD (As (AD AF (AD AF AI))) AI))) AI))))) (AK (D_ a (BO (AD (BO (AD (BZ Ba AF) (AD AF (AD AF AI)))) (AD (BO (AD AF (AD AF (AD AF AI)))) (AD (BO (AD AF (AD AF (AD AF AI)))) (AD (BO (AD (BZ Ba AF) (AD AF (AD AF AI)))) (AD (BO (AD (BZ Ba AF) (AD AF (AD AF AI)))) (AD (BO (AD AF (AD AF (AD AF AI)))) (AD (BO (AD (BZ Ba AF) (AD AF (AD AF AI)))) (AD (BO (AD AF (AD AF (AD AF AI)))) AI)))))))))) (AK (D_ a (AS JK (pv 1) (Cj (N:=["_law_row"]) (capt:=[none]) rfl (BlkOk.of rfl rfl rfl rfl (λ_ h=>nomatch h) rfl rfl rfl) (CZ (pv 2)) (λ_ _ _ _=>(Ah (i:=0) (show (["_law_row"]:List PySem.Str).Nodup by decide +kernel) rfl li)) (λ_ _ _ _=>((Hs X G B).q1 b (pv 0)))))) (AK (D_ a (AS JK (pv 3) (Cj (N:=["_law_row"]) (capt:=[none]) rfl (BlkOk.of rfl rfl rfl rfl (λ_ h=>nomatch h) rfl rfl rfl) (Ea (As (AD (BO (AD (BZ Ba AF) (AD AF (AD AF (AD AF AI))))) (AD (BO (AD AF (AD AF (AD AF (AD AF AI))))) (AD (BO (AD (BZ Ba AF) (AD (BZ Ba AF) (AD AF (AD AF AI))))) AI))))) (λ_ _ _ _=>(Ah (i:=0) (show (["_law_row"]:List PySem.Str).Nodup by decide +kernel) rfl li)) (λ_ _ _ _=>((Hs X G B).q1 b (pv 0)))))) (AQ (AY (pv 3)))))))
theorem Mw:L_ P w mg base 2 "_law_is_poly" ["_law_found"] Ih:=Ao (f:=393) (c:=392) (pm:=R_) (st:=WF) X G λF=>K' F (tE ) λa b d e=>(AQ (AY (GF (At Fc rfl B.isinstance Fb (AD (pv 0) (AD (FT rfl B.tuple Ef rfl) AI))) (Kh (At (XE rfl) rfl B.all Wi (AD (Cj (N:=["_law_one"]) (capt:=[none]) rfl (BlkOk.of rfl rfl rfl rfl (λ_ h=>nomatch h) rfl rfl rfl) (Ea (pv 0)) (λ_ _ _ _=>(Ah (i:=0) (show (["_law_one"]:List PySem.Str).Nodup by decide +kernel) rfl li)) (λ_ _ _ _=>((Tm X G B).q1 a (pv 0)))) AI))))))
theorem Ts:L_ P w mg base 3 "strand_shortened" ["strand"] IZ:=Ao (f:=75) (c:=74) (pm:=M_) (st:=VS) X G λF=>K' F (wM ) λb a d e=>(AK (Cr (i:=1) a rfl (Or.inr rfl) AF) (AK (Ca PassesOwn.never rfl (CZ (pv 0)) (Ah (i:=2) a rfl li) (AQ (Cr (i:=1) a rfl (Or.inr rfl) ((Tn X G B).q2 b (pv 2) (pv 1))))) (AQ (AY (Cj (N:=["row", "shared"]) (capt:=[none,some 1]) rfl (BlkOk.of rfl rfl rfl rfl (Cg.mpr rfl) rfl rfl rfl) (CZ (pv 0)) (λ_ _ _ _=>(Ah (i:=0) (show (["row", "shared"]:List PySem.Str).Nodup by decide +kernel) rfl li)) (λ_ _ _ _=>((Tj X G B).q2 b (pv 0) (pv 1))))))))
theorem qA:L_ P w mg base 3 "split_modulo" ["row", "divisor", "modulus"] Jz:=Ao (f:=120) (c:=119) (pm:=M_) (st:=VZ) X G λF=>K' F (wL ) λb a d e=>(AK (D_ a (FX Nr rfl B.list JN (AD (pv 0) AI))) (AK (D_ a (AS CM (At CG rfl B.len BR (AD (pv 1) AI)) AF)) (AK (D_ a (AS Hy (BO (AD AF AI)) (At (JP rfl) rfl B.max JM (AD (AS CM (At CG rfl B.len BR (AD (pv 0) AI)) (pv 4)) (AD AF AI))))) (AK (Ca PassesOwn.never rfl (Nx rfl B.range (AD (AS CM (AS CM (At CG rfl B.len BR (AD (pv 0) AI)) (pv 4)) AF) (AD (BZ Ba AF) (AD (BZ Ba AF) AI)))) (Ah (i:=6) a rfl li) (AK (D_ a (AS DH (BA BG (pv 3) (AS CP (pv 6) (pv 4)) (λ_ _=>rfl)) (pv 2))) (AK (FV (pv 7) (FU (pv 5) (pv 6) E7)) (AQ (BY (cR Ec (pv 7) AF) (AQ (Ca PassesOwn.never rfl (G4 rfl B.range (AD (pv 4) AI)) (Ah (i:=8) a rfl li) (AQ (JC (pv 3) (AS CP (pv 6) (pv 8)) JW (AS Bm (pv 7) (BA BG (pv 1) (pv 8) (λ_ _=>rfl))) Hv E7)))) Be))))) (AQ (AY (As (AD ((Mr X G B).q1 b (pv 5)) (AD ((Mu X G B).q2 b (GO ID (pv 3) GK (GN (pv 4))) (pv 2)) AI)))))))))
theorem Mx:L_ P w mg base 3 "plus" ["one", "other"] HV:=Ao (f:=167) (c:=166) (pm:=aO) (st:=Vg) X G λF=>K' F (vS ) λa b d e=>(AQ (AY ((Ht X G B).q2 a (AS CP (AS Bm (xI Ab (pv 0)) (xI Ab (pv 1))) (AS Bm (xI Ab (pv 1)) (xI Ab (pv 0)))) (AS Bm (xI Ab (pv 0)) (xI Ab (pv 1))))))
theorem My:L_ P w mg base 3 "times" ["one", "other"] Ib:=Ao (f:=174) (c:=173) (pm:=aO) (st:=Vh) X G λF=>K' F (vJ ) λa b d e=>(AQ (AY ((Ht X G B).q2 a (AS Bm (xI Ab (pv 0)) (xI Ab (pv 1))) (AS Bm (xI Ab (pv 0)) (xI Ab (pv 1))))))
theorem qB:L_ P w mg base 3 "over" ["one", "other"] J6:=Ao (f:=181) (c:=180) (pm:=aO) (st:=Vi) X G λF=>K' F (vK ) λa b d e=>(AQ (AY ((Ht X G B).q2 a (AS Bm (xI Ab (pv 0)) (xI Ab (pv 1))) (AS Bm (xI Ab (pv 0)) (xI Ab (pv 1))))))
theorem Mz:L_ P w mg base 3 "uncleared" ["row", "bottom"] HU:=Ao (f:=212) (c:=211) (pm:=a9) (st:=Vn) X G λF=>K' F (xR ) λa b d e=>(AQ (AY ((Hr X G B).q1 a (Cj (N:=["whole", "bottom"]) (capt:=[none,some 1]) rfl (BlkOk.of rfl rfl rfl rfl (Cg.mpr rfl) rfl rfl rfl) (CZ (pv 0)) (λ_ _ _ _=>(Ah (i:=0) (show (["whole", "bottom"]:List PySem.Str).Nodup by decide +kernel) rfl li)) (λ_ _ _ _=>((Ht X G B).q2 a (pv 0) (pv 1)))))))
theorem Kc:L_ P w mg base 3 "_law_number" ["_law_state"] Gf:=Ao (f:=342) (c:=341) (pm:=R_) (st:=V7) X G λF=>K' F (uV ) λa b d e=>(AK (D_ b (AS CM ((Er X G B).q2 a (pv 0) AF) AF)) (AK (BY (cR C4 ((Er X G B).q2 a (pv 0) AF) AF) (AQ (D_ b (AS Bm (pv 1) AF))) Be) (AQ (AY ((Ht X G B).q2 a (pv 1) (AS CP AF ((Er X G B).q2 a (pv 0) AF)))))))
theorem qC:L_ P w mg base 3 "_law_some" ["_law_state", "_law_many", "_law_most"] Lo:=Ao (f:=364) (c:=363) (pm:=R_) (st:=WA) X G λF=>K' F (tP ) λb a e d=>(AK (D_ a ((Tr X G B).q1 b (pv 0))) (AK (Cr (i:=4) a rfl (Or.inr rfl) (BO AI)) (AK (Cr (i:=5) a rfl (Or.inr rfl) (pv 2)) (AK (Ca PassesOwn.never rfl (G4 rfl B.range (AD (pv 1) AI)) (Ah (i:=6) a rfl li) (AK (Xx (i:=7) (N:=["_law_part", "_law_room", "_law_found"]) (capt:=[none,some 5,some 4]) a rfl li rfl (BlkOk.of rfl rfl rfl rfl (GC.mpr ⟨rfl,(Cg.mpr rfl)⟩) rfl rfl rfl) (CZ (pv 3)) (λ_ _ _ _=>(Ah (i:=0) (show (["_law_part", "_law_room", "_law_found"]:List PySem.Str).Nodup by decide +kernel) rfl li)) (λ_ _ _ _=>(PW.pt (E1 (cR Ub ((Mt X G B).q1 b (pv 0)) (pv 1)) (Ez (NM (Xb d) (pv 0) (pv 2) rfl))))) (λ_ _ _ _=>(pv 0))) (AQ (BY (cR (HG d) (pv 7) (BO AI)) (AK (GH (FY PySem.F.plainAttrs_list PySem.F.slot_list_append PySem.F.type_list_append JJ (pv 4) (AD (BA BG (pv 7) ((Er X G B).q2 b (pv 0) (At CG rfl B.len BR (AD (pv 7) AI))) (λ_ _=>rfl)) AI))) (AQ (Cr (i:=5) a rfl (Or.inr rfl) (AS CM (pv 5) ((Mt X G B).q1 b (BA BG (pv 4) (BZ Ba AF) (λ_ _=>rfl))))))) Be)))) (AQ (AY (pv 4)))))))
theorem qD:L_ P w mg base 3 "_law_lines" ["_law_state"] Lq:=Ao (f:=369) (c:=368) (pm:=R_) (st:=WB) X G λF=>K' F (tS ) λa b d e=>(AK (Cr (i:=1) b rfl (Or.inr rfl) (GO ID ((Tr X G B).q1 a (pv 0)) GK (GN AF))) (AK (Cr (i:=2) b rfl (Or.inr rfl) ((Er X G B).q2 a (pv 0) AF)) (AQ (AY (Cj (N:=["_law_k", "_law_lines_here", "_law_first"]) (capt:=[none,some 1,some 2]) rfl (BlkOk.of rfl rfl rfl rfl (GC.mpr ⟨rfl,(Cg.mpr rfl)⟩) rfl rfl rfl) (G4 rfl B.range (AD (AS CP AF ((Er X G B).q2 a (pv 0) AF)) AI)) (λ_ _ _ _=>(Ah (i:=0) (show (["_law_k", "_law_lines_here", "_law_first"]:List PySem.Str).Nodup by decide +kernel) rfl li)) (λ_ _ _ _=>(BA BG (pv 1) (AS DH (AS CP (pv 2) (pv 0)) AF) (λ_ _=>rfl))))))))
theorem qE:L_ P w mg base 3 "_law_is_fraction" ["_law_found"] Lr:=Ao (f:=400) (c:=399) (pm:=R_) (st:=WG) X G λF=>K' F (tF ) λa b d e=>(AQ (AY (GF (At Fc rfl B.isinstance Fb (AD (pv 0) (AD (FT rfl B.tuple Ef rfl) AI))) (GF (JI C4 (At Dw rfl B.len BR (AD (pv 0) AI)) AF (X_ _)) (GF ((Mw X G B).q1 a (xI Ab (pv 0))) (Kh ((Mw X G B).q1 a (xI Ab (pv 0)))))))))
theorem qG:L_ P w mg base 3 "_law_is_logs" ["_law_found"] Lv:=Ao (f:=407) (c:=406) (pm:=R_) (st:=WH) X G λF=>K' F (sY ) λa b d e=>(AK (BY (ED (Ds (At Fc rfl B.isinstance Fb (AD (pv 0) (AD (FT rfl B.tuple Ef rfl) AI))))) (AQ (AY EX)) Be) (AK (Ca PassesOwn.never rfl (Ea (pv 0)) (Ah (i:=1) b rfl li) (AQ (BY (PW.pt (E2 (ED (Ds (At Fc rfl B.isinstance Fb (AD (pv 1) (AD (FT rfl B.tuple Ef rfl) AI))))) (E2 (cR Ec (At Dw rfl B.len BR (AD (pv 1) AI)) AF) (E2 (ED (Ds ((Tm X G B).q1 a (xI Ab (pv 1))))) (GE (ED (Ds ((Mw X G B).q1 a (xI Ab (pv 1)))))))))) (AQ (AY EX)) Be))) (AQ (AY EX))))
theorem qH:L_ P w mg base 4 "strand_rest" ["strand", "other"] Jw:=Ao (f:=70) (c:=69) (pm:=M_) (st:=VR) X G λF=>K' F (wP ) λb a d e=>(AK (EE PassesOwn.never (cR NK (At CG rfl B.len BR (AD (xI BG (pv 0)) AI)) (At CG rfl B.len BR (AD (xI BG (pv 1)) AI))) (AK (Cr (i:=2) a rfl (Or.inr rfl) (AS CM (At CG rfl B.len BR (AD (xI BG (pv 0)) AI)) (At CG rfl B.len BR (AD (xI BG (pv 1)) AI)))) (AK (D_ a (BA BG (xI BG (pv 0)) (BZ Ba AF) (λ_ _=>rfl))) (AK (D_ a (BA BG (xI BG (pv 1)) (BZ Ba AF) (λ_ _=>rfl))) (AK (D_ a ((Gs X G B).q2 b (pv 3) (pv 4))) (AK (Cr (i:=6) a rfl (Or.inr rfl) (AS E9 (pv 4) (pv 5))) (AK (Cr (i:=7) a rfl (Or.inr rfl) (AS E9 (pv 3) (pv 5))) (AQ (Ff (i:=0) (N:=["row", "follower", "factor", "weight", "shift"]) (capt:=[none,none,some 6,some 7,some 2]) a rfl li rfl (BlkOk.of rfl rfl rfl rfl (GC.mpr ⟨rfl,(GC.mpr ⟨rfl,(Cg.mpr rfl)⟩)⟩) rfl rfl rfl) (JZ rfl B.zip (AD (pv 0) (AD (pv 1) AI))) (λ_ _ _ _=>(DI rfl (Bg (Ah (i:=0) (show (["row", "follower", "factor", "weight", "shift"]:List PySem.Str).Nodup by decide +kernel) rfl li) (Bg (Ah (i:=1) (show (["row", "follower", "factor", "weight", "shift"]:List PySem.Str).Nodup by decide +kernel) rfl li) DE)))) (λ_ _ _ _=>((To X G B).pe b ∅ rfl (AD (pv 0) (AD (pv 2) (AD (pv 1) (AD (pv 3) (AD (pv 4) AI)))))))))))))))) (AQ (AY ((Ts X G B).q1 b (pv 0)))))
theorem M4:L_ P w mg base 4 "row_shortened" ["row"] HQ:=Ao (f:=82) (c:=81) (pm:=M_) (st:=VT) X G λF=>K' F (wO ) λa b d e=>(AQ (AY (xI BG ((Ts X G B).q1 a (BO (AD (pv 0) AI))))))
theorem qJ:L_ P w mg base 4 "rest_modulo" ["row", "divisor", "modulus"] J0:=Ao (f:=127) (c:=126) (pm:=M_) (st:=Va) X G λF=>K' F (wJ ) λa b d e=>(AQ (AY (xI Ab ((qA X G B).q3 a (pv 0) (pv 1) (pv 2)))))
theorem qK:L_ P w mg base 4 "p_plus" ["P", "Q"] Lk:=Ao (f:=224) (c:=223) (pm:=a9) (st:=Vp) X G λF=>K' F (vW ) λa b d e=>(AQ (AY ((Hr X G B).q1 a (Cj (N:=["place", "P", "Q"]) (capt:=[none,some 0,some 1]) rfl (BlkOk.of rfl rfl rfl rfl (GC.mpr ⟨rfl,(Cg.mpr rfl)⟩) rfl rfl rfl) (G4 rfl B.range (AD (At (JP rfl) rfl B.max JM (AD (At Dw rfl B.len BR (AD (pv 0) AI)) (AD (At Dw rfl B.len BR (AD (pv 1) AI)) AI))) AI)) (λ_ _ _ _=>(Ah (i:=0) (show (["place", "P", "Q"]:List PySem.Str).Nodup by decide +kernel) rfl li)) (λ_ _ _ _=>((Mx X G B).q2 a ((Tl X G B).q2 a (pv 1) (pv 0)) ((Tl X G B).q2 a (pv 2) (pv 0))))))))
theorem Fz:L_ P w mg base 4 "p_times" ["P", "Q"] Di:=Ao (f:=231) (c:=230) (pm:=a9) (st:=Vq) X G λF=>K' F (vM ) λa b d e=>(AK (D_ b ((Gu X G B).q1 a (pv 0))) (AK (D_ b ((Gu X G B).q1 a (pv 1))) (AQ (AY ((Mz X G B).q2 a ((rS X G B).q2 a (xI Ab (pv 2)) (xI Ab (pv 3))) (AS Bm (xI Ab (pv 2)) (xI Ab (pv 3))))))))
theorem Tt:L_ P w mg base 4 "p_scaled" ["P", "c"] Ic:=Ao (f:=236) (c:=235) (pm:=a9) (st:=Vr) X G λF=>K' F (vN ) λa b d e=>(AQ (AY ((Hr X G B).q1 a (Cj (N:=["number", "c"]) (capt:=[none,some 1]) rfl (BlkOk.of rfl rfl rfl rfl (Cg.mpr rfl) rfl rfl rfl) (Ea (pv 0)) (λ_ _ _ _=>(Ah (i:=0) (show (["number", "c"]:List PySem.Str).Nodup by decide +kernel) rfl li)) (λ_ _ _ _=>((My X G B).q2 a (pv 0) (pv 1)))))))
theorem qL:L_ P w mg base 4 "p_split" ["P", "Q"] J5:=Ao (f:=243) (c:=242) (pm:=a9) (st:=Vs) X G λF=>K' F (vH ) λb a d e=>(AK (D_ a ((Gu X G B).q1 b (pv 0))) (AK (D_ a ((Gu X G B).q1 b (pv 1))) (AK (D_ a (xI Ab (pv 2))) (AK (D_ a (xI Ab (pv 2))) (AK (D_ a (BA BG (xI Ab (pv 3)) (BZ Ba AF) (λ_ _=>rfl))) (AK (D_ a (AS Hy (BO (AD (As (AD AF (AD AF AI))) AI)) (At (JP rfl) rfl B.max JM (AD (AS CP (AS CM (At Dw rfl B.len BR (AD (pv 0) AI)) (At Dw rfl B.len BR (AD (pv 1) AI))) AF) (AD AF AI))))) (AK (EE PassesOwn.never (cR NK (At CG rfl B.len BR (AD (pv 4) AI)) (At Dw rfl B.len BR (AD (pv 1) AI))) (AK (D_ a (AS CM (At CG rfl B.len BR (AD (pv 4) AI)) (At Dw rfl B.len BR (AD (pv 1) AI)))) (AK (FV ((Ht X G B).q2 b (AS Bm (BA BG (pv 4) (BZ Ba AF) (λ_ _=>rfl)) (xI Ab (pv 3))) (AS Bm (pv 5) (pv 6))) (FU (pv 7) (pv 8) E7)) (AK (D_ a ((Gs X G B).q2 b (BA BG (pv 4) (BZ Ba AF) (λ_ _=>rfl)) (pv 6))) (AK (D_ a ((To X G B).pe b ∅ rfl (AD (pv 4) (AD (AS E9 (pv 6) (pv 9)) (AD (xI Ab (pv 3)) (AD (AS E9 (BA BG (pv 4) (BZ Ba AF) (λ_ _=>rfl)) (pv 9)) (AD (pv 8) AI))))))) (AK (FW (i:=5) a rfl li (AS E9 (pv 6) (pv 9)) JO) (AK (D_ a ((Tn X G B).q2 b (pv 4) (pv 5))) (AK (D_ a ((Tj X G B).q2 b (pv 4) (pv 10))) (AQ (FW (i:=5) a rfl li (pv 10) XW)))))))))) (AQ (AY (As (AD ((Hr X G B).q1 b (pv 7)) (AD ((Mz X G B).q2 b (pv 4) (pv 5)) AI))))))))))))
theorem Tu:L_ P w mg base 4 "_law_is_form" ["_law_found"] KH:=Ao (f:=414) (c:=413) (pm:=R_) (st:=WI) X G λF=>K' F (sZ ) λa b d e=>(AQ (AY (GF (At Fc rfl B.isinstance Fb (AD (pv 0) (AD (FT rfl B.tuple Ef rfl) AI))) (GF (JI C4 (At Dw rfl B.len BR (AD (pv 0) AI)) AF (X_ _)) (GF ((qE X G B).q1 a (xI Ab (pv 0))) (Kh ((qG X G B).q1 a (xI Ab (pv 0)))))))))
theorem qN:L_ P w mg base 5 "strand_euclid" ["strand", "other"] Ia:=Ao (f:=89) (c:=88) (pm:=M_) (st:=VU) X G λF=>K' F (wQ ) λb a d e=>(AK (EE PassesOwn.never (Fd (xI BG (pv 1)) (λ_=>rfl)) (AK (BY (cR C4 (At CG rfl B.len BR (AD (xI BG (pv 1)) AI)) AF) (AQ (AY (pv 1))) Be) (AK (D_ a ((qH X G B).q2 b (pv 0) (pv 1))) (AK (D_ a (pv 1)) (AQ (D_ a (pv 2))))))) (AQ (AY (pv 0))))
theorem qO:L_ P w mg base 5 "euclid_modulo" ["row", "other", "prime"] J1:=Ao (f:=134) (c:=133) (pm:=M_) (st:=Vb) X G λF=>K' F (wK ) λa b d e=>(AK (D_ b ((Mv X G B).q2 a ((Mu X G B).q2 a (pv 0) (pv 2)) (pv 2))) (AK (D_ b ((Mv X G B).q2 a ((Mu X G B).q2 a (pv 1) (pv 2)) (pv 2))) (AK (EE PassesOwn.never (Fd (pv 1) (λ_=>rfl)) (AK (D_ b ((qJ X G B).q3 a (pv 0) (pv 1) (pv 2))) (AK (D_ b (pv 1)) (AQ (D_ b ((Mv X G B).q2 a (pv 3) (pv 2))))))) (AQ (AY (pv 0))))))
theorem qP:L_ P w mg base 5 "evened" ["P", "Q"] J8:=Ao (f:=264) (c:=263) (pm:=aq) (st:=Vv) X G λF=>K' F (vQ ) λa b d e=>(AK (D_ b ((qB X G B).q2 a (As (AD AF (AD AF AI))) (BA Ab (pv 1) (BZ Ba AF) (λ_ _=>rfl)))) (AQ (AY (As (AD ((Tt X G B).q2 a (pv 0) (pv 2)) (AD ((Tt X G B).q2 a (pv 1) (pv 2)) AI))))))
theorem F1:L_ P w mg base 5 "quotient" ["P", "Q"] D1:=Ao (f:=271) (c:=270) (pm:=aq) (st:=Vw) X G λF=>K' F (vO ) λa b d e=>(AQ (AY (xI Ab ((qL X G B).q2 a (pv 0) (pv 1)))))
theorem Tv:L_ P w mg base 5 "gathered" ["pieces"] KD:=Ao (f:=311) (c:=310) (pm:=aW) (st:=V2) X G λF=>K' F (sG ) λb a e d=>(AK (Cr (i:=1) a rfl (Or.inr rfl) Xp) (AK (Ca PassesOwn.never rfl (CZ (pv 0)) (DI rfl (Bg (Ah (i:=2) a rfl li) (Bg (Ah (i:=3) a rfl li) DE))) (AQ (BY (PW.pt (E1 (cR Ec (xI Ab (pv 2)) AF) (Ez (cR GI ((Mt X G B).q1 b (pv 3)) AF)))) (AQ (FV ((Fz X G B).q2 b (FY PySem.F.plainAttrs_dict PySem.F.slot_dict_get PySem.F.type_dict_get (X3 d) (pv 1) (AD (pv 2) (AD (As (AD (As (AD AF (AD AF AI))) AI)) AI))) (pv 3)) (FU (pv 1) (pv 2) (Xo d)))) Be))) (AK (D_ a (xI Ab ((Gu X G B).q1 b (FX (OP rfl) rfl B.list JN (AD (pv 1) AI))))) (AQ (AY (FX JV rfl B.tuple Ef (AD (Cj (N:=["top", "c", "found"]) (capt:=[none,none,some 1]) rfl (BlkOk.of rfl rfl rfl rfl (Cg.mpr rfl) rfl rfl rfl) (CZ (YR rfl B.sorted rfl B.zip rfl (AD (pv 4) (AD (FX (OP rfl) rfl B.list JN (AD (pv 1) AI)) AI)))) (λ_ _ _ _=>(DI rfl (Bg (Ah (i:=0) (show (["top", "c", "found"]:List PySem.Str).Nodup by decide +kernel) rfl li) (Bg (Ah (i:=1) (show (["top", "c", "found"]:List PySem.Str).Nodup by decide +kernel) rfl li) DE)))) (λ_ _ _ _=>(As (AD (pv 1) (AD (BA (Xz d) (pv 2) (pv 1) (λ_ _=>rfl)) AI))))) AI)))))))
theorem Kd:L_ P w mg base 5 "_law_laid" ["_law_pairs"] HY:=Ao (f:=376) (c:=375) (pm:=R_) (st:=WC) X G λF=>K' F (sK ) λb a e d=>(AK (D_ a (BO AI)) (AK (Ca PassesOwn.never rfl (CZ (pv 0)) (DI rfl (Bg (Ah (i:=2) a rfl li) (Bg (Ah (i:=3) a rfl li) DE))) (AK (D_ a AF) (AK (EE PassesOwn.never (PW.pt (E1 (cR Hw (pv 4) (At CG rfl B.len BR (AD (pv 1) AI))) (Ez (Ds ((rX X G B).q2 b (xI Ab (BA BG (pv 1) (pv 4) (λ_ _=>rfl))) (pv 2)))))) (AQ (D_ a (AS CP (pv 4) AF)))) (AQ (BY (PW.pt (E1 (cR Hw (pv 4) (At CG rfl B.len BR (AD (pv 1) AI))) (Ez (cR (XD d) (xI Ab (BA BG (pv 1) (pv 4) (λ_ _=>rfl))) (pv 2))))) (AQ (FV (As (AD (pv 2) (AD ((Fz X G B).q2 b (xI Ab (BA BG (pv 1) (pv 4) (λ_ _=>rfl))) (pv 3)) AI))) (FU (pv 1) (pv 4) E7))) (AQ (BY (cR (HG d) (pv 2) (As (AD AF (AD AF AI)))) (AQ (GH (FY PySem.F.plainAttrs_list PySem.F.slot_list_insert PySem.F.type_list_insert Xi (pv 1) (AD (pv 4) (AD (As (AD (pv 2) (AD (pv 3) AI))) AI))))) Be))))))) (AQ (AY (FX JV rfl B.tuple Ef (AD (pv 1) AI))))))
theorem qQ:L_ P w mg base 6 "common_by_prime" ["row", "other", "prime"] J3:=Ao (f:=146) (c:=145) (pm:=M_) (st:=Vd) X G λF=>K' F (wX ) λa b d e=>(AK (Cr (i:=3) b rfl (Or.inr rfl) ((Gs X G B).q2 a (BA BG (pv 0) (BZ Ba AF) (λ_ _=>rfl)) (BA BG (pv 1) (BZ Ba AF) (λ_ _=>rfl)))) (AK (BY (cR C4 (AS DH (pv 3) (pv 2)) AF) (AQ (AY GD)) Be) (AK (D_ b ((qO X G B).q3 a (pv 0) (pv 1) (pv 2))) (AK (D_ b ((M4 X G B).q1 a (Cj (N:=["whole", "prime", "lead"]) (capt:=[none,some 2,some 3]) rfl (BlkOk.of rfl rfl rfl rfl (GC.mpr ⟨rfl,(Cg.mpr rfl)⟩) rfl rfl rfl) (CZ (pv 4)) (λ_ _ _ _=>(Ah (i:=0) (show (["whole", "prime", "lead"]:List PySem.Str).Nodup by decide +kernel) rfl li)) (λ_ _ _ _=>((rW X G B).q2 a (AS Bm (pv 2) (pv 0)) (pv 1)))))) (AK (BY (PW.pt (E2 (cR NL ((Tk X G B).q2 a (pv 0) (pv 5)) GD) (GE (cR NL ((Tk X G B).q2 a (pv 1) (pv 5)) GD)))) (AQ (AY GD)) Be) (AQ (AY (pv 5))))))))
theorem qR:L_ P w mg base 7 "row_common" ["row", "other"] J4:=Ao (f:=153) (c:=152) (pm:=M_) (st:=Ve) X G λF=>K' F (vC B.xEXPONENTS ) λa b d e=>(AK (D_ b ((M4 X G B).q1 a (pv 0))) (AK (D_ b ((M4 X G B).q1 a (pv 1))) (AK (BY (PW.pt (E1 (Fd (pv 0) (λ_=>rfl)) (Ez (Fd (pv 1) (λ_=>rfl))))) (AQ (Ca PassesOwn.never rfl (Ea (UK rfl B.EXPONENTS rfl)) (Ah (i:=4) b rfl li) (AK (D_ b ((qQ X G B).q3 a (pv 2) (pv 3) (AS CM ((rR X G B).q2 a AF (pv 4)) AF))) (AQ (BY (cR Uc (pv 5) GD) (AQ (AY (pv 5))) Be))))) Be) (AQ (AY (xI BG ((qN X G B).q2 a (BO (AD (pv 2) AI)) (BO (AD (pv 3) AI)))))))))
theorem Ke:L_ P w mg base 8 "common" ["P", "Q"] Fq:=Ao (f:=250) (c:=249) (pm:=a9) (st:=Vt) X G λF=>K' F (vE ) λa b d e=>(AK (D_ b ((qR X G B).q2 a (xI Ab ((Gu X G B).q1 a (pv 0))) (xI Ab ((Gu X G B).q1 a (pv 1))))) (AQ (AY (JB (Fd (pv 2) (λ_=>rfl)) ((Mz X G B).q2 a (pv 2) (BA BG (pv 2) (BZ Ba AF) (λ_ _=>rfl))) (As AI)))))
theorem M5:L_ P w mg base 9 "fraction" ["P", "Q"] HW:=Ao (f:=257) (c:=256) (pm:=aq) (st:=Vu) X G λF=>K' F (uF ) λa b d e=>(AK (D_ b ((Ke X G B).q2 a (pv 0) (pv 1))) (AQ (AY ((qP X G B).q2 a ((F1 X G B).q2 a (pv 0) (pv 2)) ((F1 X G B).q2 a (pv 1) (pv 2))))))
theorem Tx:L_ P w mg base 9 "f_plus" ["F", "G"] Ie:=Ao (f:=292) (c:=291) (pm:=aq) (st:=Vz) X G λF=>K' F (uL ) λa b d e=>(AK (D_ b ((Ke X G B).q2 a (xI Ab (pv 0)) (xI Ab (pv 1)))) (AK (D_ b ((F1 X G B).q2 a (xI Ab (pv 1)) (pv 2))) (AK (D_ b ((qK X G B).q2 a ((Fz X G B).q2 a (xI Ab (pv 0)) (pv 3)) ((Fz X G B).q2 a (xI Ab (pv 1)) ((F1 X G B).q2 a (xI Ab (pv 0)) (pv 2))))) (AK (D_ b ((Ke X G B).q2 a (pv 4) (pv 2))) (AQ (AY (As (AD ((F1 X G B).q2 a (pv 4) (pv 5)) (AD ((F1 X G B).q2 a ((Fz X G B).q2 a (xI Ab (pv 0)) (pv 3)) (pv 5)) AI)))))))))
theorem qS:L_ P w mg base 9 "logs_plus" ["logs", "c", "part"] Ls:=Ao (f:=306) (c:=305) (pm:=aW) (st:=V1) X G λF=>K' F (sQ ) λb a d e=>(AK (D_ a (BO AI)) (AK (D_ a (pv 2)) (AK (Ca PassesOwn.never rfl (Ea (pv 0)) (DI rfl (Bg (Ah (i:=5) a rfl li) (Bg (Ah (i:=6) a rfl li) DE))) (AK (D_ a ((Ke X G B).q2 b (pv 4) (pv 6))) (AK (D_ a ((F1 X G B).q2 b (pv 4) (pv 7))) (AK (GH (FY PySem.F.plainAttrs_list PySem.F.slot_list_append PySem.F.type_list_append JJ (pv 3) (AD (As (AD (pv 5) (AD ((F1 X G B).q2 b (pv 6) (pv 7)) AI))) AI))) (AQ (GH (FY PySem.F.plainAttrs_list PySem.F.slot_list_append PySem.F.type_list_append JJ (pv 3) (AD (As (AD ((Mx X G B).q2 b (pv 5) (pv 1)) (AD (pv 7) AI))) AI)))))))) (AQ (AY ((Tv X G B).q1 b (AS JK (pv 3) (BO (AD (As (AD (pv 1) (AD (pv 4) AI))) AI)))))))))
theorem Ty:L_ P w mg base 10 "f_times" ["F", "G"] Ig:=Ao (f:=299) (c:=298) (pm:=aq) (st:=V0) X G λF=>K' F (uI ) λa b d e=>(AK (D_ b ((M5 X G B).q2 a (xI Ab (pv 0)) (xI Ab (pv 1)))) (AK (D_ b ((M5 X G B).q2 a (xI Ab (pv 1)) (xI Ab (pv 0)))) (AQ (AY (As (AD ((Fz X G B).q2 a (xI Ab (pv 2)) (xI Ab (pv 3))) (AD ((Fz X G B).q2 a (xI Ab (pv 2)) (xI Ab (pv 3))) AI)))))))
theorem T2:L_ P w mg base 10 "form_plus" ["one", "other"] KF:=Ao (f:=318) (c:=317) (pm:=aW) (st:=V3) X G λF=>K' F (sW ) λb a d e=>(AK (D_ a (xI Ab (pv 0))) (AK (Ca PassesOwn.never rfl (Ea (xI Ab (pv 1))) (DI rfl (Bg (Ah (i:=3) a rfl li) (Bg (Ah (i:=4) a rfl li) DE))) (AQ (D_ a ((qS X G B).q3 b (pv 2) (pv 3) (pv 4))))) (AQ (AY (As (AD ((Tx X G B).q2 b (xI Ab (pv 0)) (xI Ab (pv 1))) (AD (pv 2) AI)))))))
theorem T3:L_ P w mg base 10 "_law_fraction" ["_law_state", "_law_parts"] KA:=Ao (f:=381) (c:=380) (pm:=R_) (st:=WD) X G λF=>K' F (tU ) λa b e d=>(AK (Ff (i:=2) (N:=["_law_k", "_law_state"]) (capt:=[none,some 0]) b rfl li rfl (BlkOk.of rfl rfl rfl rfl (Cg.mpr rfl) rfl rfl rfl) (G4 rfl B.range (AD (AS CP AF ((Er X G B).q2 a (pv 0) AF)) AI)) (λ_ _ _ _=>(Ah (i:=0) (show (["_law_k", "_law_state"]:List PySem.Str).Nodup by decide +kernel) rfl li)) (λ_ _ _ _=>((Kc X G B).q1 a (pv 1)))) (AK (D_ b (As (AD (As (AD AF (AD AF AI))) AI))) (AK (D_ b ((Er X G B).q2 a (pv 0) AF)) (AK (BY (PW.pt (E1 (cR C4 (pv 4) AF) (Ez (cR (HG d) (pv 1) (BO AI))))) (AQ (D_ b (xI BG (pv 1)))) Be) (AK (BY (cR C4 (pv 4) AF) (AQ (D_ b ((Fz X G B).q2 a ((Hs X G B).q1 a (BO (AD AF (AD AF AI)))) ((Hs X G B).q1 a (BO (AD AF (AD AF AI))))))) Be) (AK (BY (cR C4 (pv 4) AF) (AQ (D_ b ((Hs X G B).q1 a (BO (AD (BZ Ba AF) (AD AF AI)))))) Be) (AQ (AY ((M5 X G B).q2 a ((Hr X G B).q1 a (pv 2)) (pv 3))))))))))
theorem T5:L_ P w mg base 11 "form_scaled" ["form", "c"] KG:=Ao (f:=323) (c:=322) (pm:=aW) (st:=V4) X G λF=>K' F (sX ) λa b d e=>(AK (Ff (i:=2) (N:=["number", "v", "c"]) (capt:=[none,none,some 1]) b rfl li rfl (BlkOk.of rfl rfl rfl rfl (Cg.mpr rfl) rfl rfl rfl) (Ea (xI Ab (pv 0))) (λ_ _ _ _=>(DI rfl (Bg (Ah (i:=0) (show (["number", "v", "c"]:List PySem.Str).Nodup by decide +kernel) rfl li) (Bg (Ah (i:=1) (show (["number", "v", "c"]:List PySem.Str).Nodup by decide +kernel) rfl li) DE)))) (λ_ _ _ _=>(As (AD ((My X G B).q2 a (pv 0) (pv 2)) (AD (pv 1) AI))))) (AQ (AY (As (AD ((Ty X G B).q2 a (xI Ab (pv 0)) ((Tq X G B).q1 a (pv 1))) (AD ((Tv X G B).q1 a (pv 2)) AI))))))
end
theorem all_mk {l:W.OpenLaw} {w:World} {h:Heap} {k:cU} {p:Addr} (X:(hp w.params).In h) (G:h.Ns mainGlobals k) (m:k "law" = some (.ref p))
  : ∃ q:FuncData,(∀ (s:Shared) (v:Value),BindsTo s q ⟨[v],[]⟩ [("_law_script", v)])/\∀ j:Heap,(hp w.params).In j->j.Ns mainGlobals k->FnOk l.prog w (hp w.params) k j aF 12 p q ["_law_script"] (Ju (hp w.params)):=by
 have e:=m.symm.trans (W.mg_of X G (n := "law") (v:=.ref 419) (by kernel_rfl));cases e;have a:Ge (hp w.params)=15:=by kernel_rfl
 have d:∀ H:Hp,SqT (hp w.params) H (Ge (hp w.params)) (exps.map λe:Nat=>V.int (e:Int)):=λH=>.inr ⟨_,_,_,(show (hp w.params).lookup (Ge (hp w.params))=some ⟨.type "tuple", none,.seq #[(.int 61 189),(.int 127 190),(.int 521 191),(.int 1279 192),(.int 4423 193),(.int 9941 194),(.int 21701 195),(.int 44497 196)] 0,#[]⟩ by rw [a];kernel_rfl),rfl,rfl,by show 8<=sizeLine;rw [sizeLine_eq];decide,.cons ⟨_,rfl⟩ (.cons ⟨_,rfl⟩ (.cons ⟨_,rfl⟩ (.cons ⟨_,rfl⟩ (.cons ⟨_,rfl⟩ (.cons ⟨_,rfl⟩ (.cons ⟨_,rfl⟩ (.cons ⟨_,rfl⟩ (.nil))))))))⟩;have B:Bl (hp w.params) k:=⟨W.mg_none_of X G (by kernel_rfl),W.mg_none_of X G (by kernel_rfl),W.mg_none_of X G (by kernel_rfl),W.mg_none_of X G (by kernel_rfl),W.mg_none_of X G (by kernel_rfl),W.mg_none_of X G (by kernel_rfl),W.mg_none_of X G (by kernel_rfl),W.mg_none_of X G (by kernel_rfl),W.mg_none_of X G (by kernel_rfl),by rw [a];exact W.mg_of X G (by kernel_rfl),W.mg_none_of X G (by kernel_rfl),W.mg_none_of X G (by kernel_rfl),W.mg_none_of X G (by kernel_rfl),W.mg_none_of X G (by kernel_rfl),W.mg_none_of X G (by kernel_rfl),W.mg_none_of X G (by kernel_rfl),W.mg_none_of X G (by kernel_rfl),d⟩;have r:=Mp (K:=hp w.params) (st:=JL) (f:=419) (c:=418) (n := "law") (pm:=R_) (by kernel_rfl) (by kernel_rfl) (by kernel_rfl);refine ⟨W.fnOf "law" "law" (Ed JL) (Dv JL) (Ci JL) .none .none .none R_ none (.ref 418) .none,λs v=>.of_eq rfl,λj KB _=>?_⟩;exact K' r (rM ) λb g u o=>(AK (Cr (i:=1) g rfl (Or.inr rfl) ((rZ X G B).q1 b (pv 0))) (AK (D_ g ((qC X G B).q3 b (pv 1) AF AF)) (AK (BY (cR C4 ((Er X G B).q2 b (pv 1) AF) AF) (AQ (D_ g ((qD X G B).q1 b (pv 1)))) Be) (AK (Ff (i:=3) (N:=["_law_part", "_law_state"]) (capt:=[none,some 1]) g rfl li rfl (BlkOk.of rfl rfl rfl rfl (Cg.mpr rfl) rfl rfl rfl) (CZ (pv 2)) (λ_ _ _ _=>(Ah (i:=0) (show (["_law_part", "_law_state"]:List PySem.Str).Nodup by decide +kernel) rfl li)) (λ_ _ _ _=>((Kc X G B).q1 b (pv 1)))) (AK (D_ g (BO AI)) (AK (Ca PassesOwn.never rfl (CZ (pv 3)) (Ah (i:=5) g rfl li) (AK (D_ g (BO (AD ((Kc X G B).q1 b (pv 1)) (AD (As (AD (BZ Ba (xI Ab (pv 5))) (AD (xI Ab (pv 5)) AI))) (AD (As (AD AF (AD AF AI))) (AD (pv 5) AI)))))) (AQ (GH (FY PySem.F.plainAttrs_list PySem.F.slot_list_append PySem.F.type_list_append JJ (pv 4) (AD (BA BG (pv 6) ((Er X G B).q2 b (pv 1) AF) (λ_ _=>rfl)) AI)))))) (AK (D_ g ((T3 X G B).q2 b (pv 1) (pv 2))) (AK (D_ g ((T3 X G B).q2 b (pv 1) (pv 2))) (AK (D_ g (As (AD (pv 7) (AD ((Kd X G B).q1 b (Cj (N:=["_law_c", "_law_part"]) (capt:=[none,none]) rfl (BlkOk.of rfl rfl rfl rfl (λ_ h=>nomatch h) rfl rfl rfl) (JZ rfl B.zip (AD (pv 3) (AD (pv 2) AI))) (λ_ _ _ _=>(DI rfl (Bg (Ah (i:=0) (show (["_law_c", "_law_part"]:List PySem.Str).Nodup by decide +kernel) rfl li) (Bg (Ah (i:=1) (show (["_law_c", "_law_part"]:List PySem.Str).Nodup by decide +kernel) rfl li) DE)))) (λ_ _ _ _=>(As (AD (pv 0) (AD (pv 1) AI)))))) AI)))) (AK (D_ g (As (AD (pv 8) (AD ((Kd X G B).q1 b (Cj (N:=["_law_c", "_law_part"]) (capt:=[none,none]) rfl (BlkOk.of rfl rfl rfl rfl (λ_ h=>nomatch h) rfl rfl rfl) (JZ rfl B.zip (AD (pv 4) (AD (pv 2) AI))) (λ_ _ _ _=>(DI rfl (Bg (Ah (i:=0) (show (["_law_c", "_law_part"]:List PySem.Str).Nodup by decide +kernel) rfl li) (Bg (Ah (i:=1) (show (["_law_c", "_law_part"]:List PySem.Str).Nodup by decide +kernel) rfl li) DE)))) (λ_ _ _ _=>(As (AD (pv 0) (AD (pv 1) AI)))))) AI)))) (AK (Ff (i:=11) (N:=["_law_c", "_law_d", "_law_part"]) (capt:=[none,none,none]) g rfl li rfl (BlkOk.of rfl rfl rfl rfl (λ_ h=>nomatch h) rfl rfl rfl) (Ye rfl B.zip (AD (pv 3) (AD (pv 4) (AD (pv 2) AI)))) (λ_ _ _ _=>(DI rfl (Bg (Ah (i:=0) (show (["_law_c", "_law_d", "_law_part"]:List PySem.Str).Nodup by decide +kernel) rfl li) (Bg (Ah (i:=1) (show (["_law_c", "_law_d", "_law_part"]:List PySem.Str).Nodup by decide +kernel) rfl li) (Bg (Ah (i:=2) (show (["_law_c", "_law_d", "_law_part"]:List PySem.Str).Nodup by decide +kernel) rfl li) DE))))) (λ_ _ _ _=>(As (AD ((Mx X G B).q2 b (pv 0) (pv 1)) (AD (pv 2) AI))))) (AK (D_ g ((T2 X G B).q2 b (pv 9) (pv 10))) (AK (BY (PW.pt (E2 (ED (Ds ((Tu X G B).q1 b (pv 12)))) (GE (cR (HG o) (pv 12) (As (AD ((Tx X G B).q2 b (pv 7) (pv 8)) (AD ((Kd X G B).q1 b (pv 11)) AI))))))) (AQ (AY EX)) Be) (AK (Cr (i:=13) g rfl (Or.inr rfl) ((Kc X G B).q1 b (pv 1))) (AK (Ff (i:=14) (N:=["_law_c", "_law_part", "_law_by"]) (capt:=[none,none,some 13]) g rfl li rfl (BlkOk.of rfl rfl rfl rfl (Cg.mpr rfl) rfl rfl rfl) (JZ rfl B.zip (AD (pv 3) (AD (pv 2) AI))) (λ_ _ _ _=>(DI rfl (Bg (Ah (i:=0) (show (["_law_c", "_law_part", "_law_by"]:List PySem.Str).Nodup by decide +kernel) rfl li) (Bg (Ah (i:=1) (show (["_law_c", "_law_part", "_law_by"]:List PySem.Str).Nodup by decide +kernel) rfl li) DE)))) (λ_ _ _ _=>(As (AD ((My X G B).q2 b (pv 0) (pv 2)) (AD (pv 1) AI))))) (AK (D_ g ((T5 X G B).q2 b (pv 9) (pv 13))) (AK (BY (PW.pt (E2 (ED (Ds ((Tu X G B).q1 b (pv 12)))) (GE (cR (HG o) (pv 12) (As (AD ((Ty X G B).q2 b ((Tq X G B).q1 b (pv 13)) (pv 7)) (AD ((Kd X G B).q1 b (pv 14)) AI))))))) (AQ (AY EX)) Be) (AK (BY (cR (HG o) ((T2 X G B).q2 b (pv 9) ((T5 X G B).q2 b (pv 9) (As (AD (BZ Ba AF) (AD AF AI))))) (As (AD (As (AD (As AI) (AD (As (AD (As (AD AF (AD AF AI))) AI)) AI))) (AD (As AI) AI)))) (AQ (AY EX)) Be) (AQ (AY EX))))))))))))))))))))
theorem row_said {l:W.OpenLaw} (h:l.wellSaid=true):l.row.wellSaid=true:=by
 unfold W.OpenLaw.wellSaid at h;simp only [Bool.and_eq_true] at h;exact h.1.1.1.1.1.1.1.1.1.1.1.1.1.1.1.1.1.1
theorem walk {l:W.OpenLaw} {q:Program} {loose:cW} {XP:(cU)->Heap->Prop} {YP:World->Heap->Prop} {d:DefRec} {K:Params->W.Frag} (j:l.most=some 63) (e:d.params.defaults=[]) (m:importsNone q=true) (o:∀ w,(model l.prog w).prog.given.tree=none)
  (p:∀ (w:World) (h:Heap),YP w h->(K w.params).In h)
  (F:∀ (w:World) (c:cU) (g:Addr) (h:Heap),(K w.params).In h->h.Ns mainGlobals c->c d.name=some (.ref g)->
   ∃ i:FuncData,(∀ (s:Shared) (u:Value),BindsTo s i ⟨[u],[]⟩ [("_law_script", u)])/\∀ b:Heap,(K w.params).In b->b.Ns mainGlobals c->FnOk l.prog w (K w.params) c b aF 12 g i ["_law_script"] (Ju (K w.params))) :
  W.WalkO q loose XP YP l.row.toRowW d [] (λf r=>PySem.call f r):=
 L2.walk_of (n:=63) (k:=12) (x := "_law_script") (CX:=λ_=>aF) (sp:=λw=>Ju (K w.params)) j ∅ e m o ⟨rfl,∅,∅⟩ p F (λ_ _ a v y _ A=>⟨a,v,rfl,A,y,λ_=>rfl⟩) λ_ _ _ _ _ z=>z
end Bs
open PySem PySem.W PyProof.Rows
set_option maxRecDepth 100000 in
set_option maxHeartbeats 0 in
theorem PySem.Challenge.cw_backslope_k33_forms_together_holds : PySem.Challenge.rw_backslope_k33_forms_together.Holds := by
  have a : PySem.Challenge.rw_backslope_k33_forms_together.wellSaid = true := by decide +kernel
  refine ⟨a, ?_⟩;refine W.holds_open (q := Bs.Hd.vw) (loose := []) (Xt := fun s => W.xlAt Bs.Hd.vw [] s && W.recOk (W.RowW.records (W.OpenRow.toRowW (W.OpenLaw.row PySem.Challenge.rw_backslope_k33_forms_together))) s) (XP := W.XL Bs.Hd.vw []) (Yf := Bs.Hd.hk.obs) (Ya := Bs.Hd.hk.val) (YP := Bs.Hd.hk.says) (N := 4064) Bs.Hd.left Bs.Hd.hk.of Bs.Hd.hk.keeps (fun s e => W.xl_of s (Bool.and_eq_true_iff.mp e).1) W.XL.keeps (by rfl) (by rfl) (by rfl) (fun s e => W.recFacts_of (Bool.and_eq_true_iff.mp e).2) (by rfl) (Bs.row_said a) (by decide +kernel) ⟨rfl, rfl, rfl, rfl, rfl, by decide +kernel⟩ ?hw ?hc
  case hw => w_witness2
  case hc => exact Bs.walk (l := PySem.Challenge.rw_backslope_k33_forms_together) (K := Bs.Hd.hp) rfl rfl (by decide +kernel) (fun _ => rfl) (fun w h Y => Y) (fun w d f h c G b => Bs.all_mk c G b)
#print axioms PySem.Challenge.cw_backslope_k33_forms_together_holds

