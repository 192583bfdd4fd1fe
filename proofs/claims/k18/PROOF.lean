import PyProof.Rows.All
import Wide.All
import OpenK.AllK
import Wide.FinOn
import Lean
import PyProof.EqAt
import PyProof.EqKinds
import PyProof.TupleCall
import PySem.Challenge.RW_backslope_k18_least_polynomials
local macro_rules | `(()) => `(by grind)
local macro_rules | `(tactic| ext) => `(tactic| grind)
local macro_rules | `(⋯) => `(by omega)
local macro_rules | `(∅) => `(by decide)
local macro_rules | `(↑$x) => `(($x).length)
local macro_rules | `(↥$x) => `(some (.ref $x))
local macro_rules | `(⇑$x) => `(($x).heap.objs.size)
local macro_rules | `(~~~$x) => `(($x).map $(Lean.mkIdent `L2.V.int))
def rP:Nat->Lean.Syntax->Lean.MacroM (Lean.TSyntax `rcasesPat)
 | 0,_=>Lean.Macro.throwUnsupported
 | n+1,s=>match s with
  | `(⟨$xs,*⟩)=>do
    let l<-xs.getElems.mapM (rP n ·)
    `(rcasesPat| ⟨$[$l:rcasesPat],*⟩)
  | `(_)=>`(rcasesPat| _)
  | `($i:ident)=>`(rcasesPat| $i:ident)
  | _=>Lean.Macro.throwUnsupported
local macro_rules
| `(tactic| let $x:ident := $e)=>`(tactic| have $x:ident := $e)
| `(tactic| let $x:ident : $t := $e)=>`(tactic| have $x:ident : $t := $e)
| `(tactic| let $p:term := $e)=>do `(tactic| obtain $(<-rP 9 p):rcasesPat := $e)
| `(tactic| let $p:term : $t := $e)=>do `(tactic| obtain $(<-rP 9 p):rcasesPat : $t := $e)
set_option Elab.async false
set_option linter.all false
set_option maxRecDepth 100000
def bY:type_of% @PySem.F.plainAttrs_list:=@PySem.F.plainAttrs_list
def cA:type_of% @PySem.F.slot_list_append:=@PySem.F.slot_list_append
def cB:type_of% @PySem.F.type_list_append:=@PySem.F.type_list_append
def qZ:type_of% @if_neg:=@if_neg
def pB:type_of% @if_pos:=@if_pos
def pC:type_of% @decide_eq_true:=@decide_eq_true
def pE:type_of% @of_decide_eq_true:=@of_decide_eq_true
def pG:type_of% @decide_eq_false:=@decide_eq_false
def pH:type_of% @of_decide_eq_false:=@of_decide_eq_false
def pI:type_of% @PySem.wpAny_bind:=@PySem.wpAny_bind
def pJ:type_of% @PySem.wpAny_pure:=@PySem.wpAny_pure
def pK:type_of% @PySem.wpAny_mono:=@PySem.wpAny_mono
def pL:type_of% @Option.some.inj:=@Option.some.inj
def pM:type_of% @PySem.Heap.lt_size:=@PySem.Heap.lt_size
def AI:type_of% @List.length_map:=@List.length_map
def AJ:type_of% @List.getD_eq_getElem?_getD:=@List.getD_eq_getElem?_getD
def AT:type_of% @List.getElem?_eq_getElem:=@List.getElem?_eq_getElem
def AV:type_of% @Nat.le_refl:=@Nat.le_refl
def AX:type_of% @Nat.zero_le:=@Nat.zero_le
def Ac:type_of% @List.getElem?_map:=@List.getElem?_map
def Ah:type_of% @Int.ne_of_gt:=@Int.ne_of_gt
def Ao:type_of% @List.mem_map:=@List.mem_map
def Au:type_of% @List.length_range:=@List.length_range
def Ax:type_of% @List.getElem?_eq_some_iff:=@List.getElem?_eq_some_iff
def A5:type_of% @List.mem_of_getElem?:=@List.mem_of_getElem?
def A7:type_of% @List.size_toArray:=@List.size_toArray
def BC:type_of% @List.length_take:=@List.length_take
def BD:type_of% @Nat.not_lt_zero:=@Nat.not_lt_zero
def BG:type_of% @Nat.ne_of_lt:=@Nat.ne_of_lt
def BH:type_of% @List.getElem?_eq_none:=@List.getElem?_eq_none
def BM:type_of% @Nat.le_trans:=@Nat.le_trans
def BR:type_of% @List.forall_mem_singleton:=@List.forall_mem_singleton
def BU:type_of% @List.mem_singleton:=@List.mem_singleton
def Bh:type_of% @Int.mul_pos:=@Int.mul_pos
def Bx:type_of% @Nat.pow_succ:=@Nat.pow_succ
def B2:type_of% @Nat.lt_of_lt_of_le:=@Nat.lt_of_lt_of_le
def B3:type_of% @List.length_append:=@List.length_append
def B4:type_of% @List.take_length:=@List.take_length
def B6:type_of% @Rat.intCast_mul:=@Rat.intCast_mul
def CB:type_of% @Int.toNat_natCast:=@Int.toNat_natCast
def CI:type_of% @Nat.mul_le_mul_right:=@Nat.mul_le_mul_right
def CO:type_of% @Int.emod_nonneg:=@Int.emod_nonneg
def CP:type_of% @List.map_append:=@List.map_append
def CV:type_of% @Int.natAbs_mul:=@Int.natAbs_mul
def CW:type_of% @Int.emod_lt_of_pos:=@Int.emod_lt_of_pos
def Cf:type_of% @Bool.false_ne_true:=@Bool.false_ne_true
def Ch:type_of% @Nat.lt_succ_self:=@Nat.lt_succ_self
def Ci:type_of% @Int.mul_comm:=@Int.mul_comm
def Cn:type_of% @List.getElem_mem:=@List.getElem_mem
def Co:type_of% @Int.mul_assoc:=@Int.mul_assoc
def Cp:type_of% @List.getElem?_range:=@List.getElem?_range
def C5:type_of% @Nat.lt_irrefl:=@Nat.lt_irrefl
def C7:type_of% @List.length_set:=@List.length_set
def DK:type_of% @List.mem_append:=@List.mem_append
def DV:type_of% @List.mem_cons:=@List.mem_cons
def DW:type_of% @List.take_add_one:=@List.take_add_one
def DX:type_of% @Int.dvd_trans:=@Int.dvd_trans
def DY:type_of% @List.mem_iff_getElem:=@List.mem_iff_getElem
def Dd:type_of% @List.mem_append_right:=@List.mem_append_right
def De:type_of% @List.getElem?_append_right:=@List.getElem?_append_right
def Df:type_of% @Nat.mul_comm:=@Nat.mul_comm
def Dn:type_of% @List.mem_cons_of_mem:=@List.mem_cons_of_mem
def Do:type_of% @List.getElem?_replicate:=@List.getElem?_replicate
def Dq:type_of% @Nat.pow_add:=@Nat.pow_add
def Dr:type_of% @Int.le_of_lt:=@Int.le_of_lt
def Ds:type_of% @Int.natAbs_natCast:=@Int.natAbs_natCast
def Dt:type_of% @Int.natCast_dvd_natCast:=@Int.natCast_dvd_natCast
def Du:type_of% @List.forall_mem_cons:=@List.forall_mem_cons
def D5:type_of% @List.mem_range:=@List.mem_range
def D6:type_of% @List.mem_cons_self:=@List.mem_cons_self
def D7:type_of% @Nat.le_succ:=@Nat.le_succ
def D8:type_of% @List.getElem?_append_left:=@List.getElem?_append_left
def D9:type_of% @List.length_singleton:=@List.length_singleton
def EA:type_of% @Int.gcd_dvd_right:=@Int.gcd_dvd_right
def EB:type_of% @Nat.lt_or_ge:=@Nat.lt_or_ge
def EC:type_of% @Int.mul_zero:=@Int.mul_zero
def ED:type_of% @Int.mul_le_mul_of_nonneg_right:=@Int.mul_le_mul_of_nonneg_right
def EQ:type_of% @Nat.le_antisymm:=@Nat.le_antisymm
def ER:type_of% @Int.natAbs_dvd_natAbs:=@Int.natAbs_dvd_natAbs
def ES:type_of% @Int.zero_mul:=@Int.zero_mul
def ET:type_of% @Int.mul_le_mul_of_nonneg_left:=@Int.mul_le_mul_of_nonneg_left
def EU:type_of% @Int.mul_ne_zero:=@Int.mul_ne_zero
def EV:type_of% @Nat.sub_self:=@Nat.sub_self
def Eh:type_of% @Nat.lt_of_le_of_lt:=@Nat.lt_of_le_of_lt
def Ei:type_of% @Int.fdiv_eq_ediv_of_nonneg:=@Int.fdiv_eq_ediv_of_nonneg
def Ej:type_of% @Nat.lt_succ_iff_lt_or_eq:=@Nat.lt_succ_iff_lt_or_eq
def Ek:type_of% @List.mem_of_mem_take:=@List.mem_of_mem_take
def El:type_of% @List.ext_getElem?:=@List.ext_getElem?
def Ex:type_of% @List.range_succ:=@List.range_succ
def Ey:type_of% @Int.mul_ediv_cancel_left:=@Int.mul_ediv_cancel_left
def Ez:type_of% @Int.mul_nonneg:=@Int.mul_nonneg
def E3:type_of% @Nat.mul_le_mul_left:=@Nat.mul_le_mul_left
def FN:type_of% @List.length_replicate:=@List.length_replicate
def FO:type_of% @Nat.eq_zero_or_pos:=@Nat.eq_zero_or_pos
def FP:type_of% @Int.gcd_dvd_left:=@Int.gcd_dvd_left
def FQ:type_of% @List.length_pos_iff:=@List.length_pos_iff
def Fq:type_of% @List.getElem?_set_self:=@List.getElem?_set_self
def Fr:type_of% @List.getElem?_set_ne:=@List.getElem?_set_ne
def Fs:type_of% @Nat.pow_le_pow_right:=@Nat.pow_le_pow_right
def Ft:type_of% @Int.eq_of_mul_eq_mul_left:=@Int.eq_of_mul_eq_mul_left
def Fu:type_of% @List.getLast?_eq_getElem?:=@List.getLast?_eq_getElem?
def GZ:type_of% @List.length_eq_zero_iff:=@List.length_eq_zero_iff
abbrev cL:=List Int
abbrev cM:=List PySem.Value
abbrev cN:=PySem.Value->PySem.Shared->Prop
abbrev cO:=List (PySem.Addr×PySem.Obj)
abbrev cP:=PySem.Str->Option PySem.Value
abbrev cQ:=List PySem.Expr
abbrev cT:=List PySem.Str
abbrev cU:=Option PySem.Value
abbrev cV:=List PySem.Addr
abbrev cY:=Nat->Int
abbrev cZ:=Nat->Rat
namespace L2
open PySem PySem.Spec PyProof.Rows
noncomputable abbrev V_:=Sum Int Str
noncomputable def Mn:V_->Value->Bool
 | .inl k,v=>Value.isInt k v
 | .inr x,v=>Value.isStrOf x v
noncomputable def UG (w:World):V_->Int
 | .inl k=>hashInt k
 | .inr x=>hashStr w x
theorem E5:∀ {k:V_} {v:Value},Mn k v=true->(∃ i t,k=Sum.inl i/\v=Value.int i t)\/(∃ x t,k=Sum.inr x/\v=Value.str x t)
 | .inl i,v,h=>by
   let ⟨t,e⟩:=Value.isInt_shape (k:=i) (v:=v) h;exact .inl ⟨i,t,rfl,e⟩
 | .inr x,v,h=>by
   let ⟨t,e⟩:=Value.isStrOf_shape (x:=x) (v:=v) h;exact .inr ⟨x,t,rfl,e⟩
def UH (a b:Int):decide ((Sum.inl a:V_)=Sum.inl b)=(a == b):=by
 by_cases e:a=b
 ·subst e;simp
 ·let h:¬ (Sum.inl a:V_)=Sum.inl b:=λq=>e (Sum.inl.inj q);rw [pG h];exact (beq_eq_false_iff_ne.mpr e).symm
def UI (a b:Str):decide ((Sum.inr a:V_)=Sum.inr b)=decide (a=b):=by
 by_cases e:a=b
 ·subst e;simp
 ·let h:¬ (Sum.inr a:V_)=Sum.inr b:=λq=>e (Sum.inr.inj q);rw [pG h,pG e]
def UJ (a:Int) (b:Str):decide ((Sum.inl a:V_)=Sum.inr b)=false:=pG (λq=>nomatch q)
def UK (a:Str) (b:Int):decide ((Sum.inr a:V_)=Sum.inl b)=false:=pG (λq=>nomatch q)
noncomputable def J6 (prog:Program) (w:World):PySem.KeyKind prog w V_ where
 is:=Mn
 hash:=UG w
 inj:=λv a b g f=>by
  rcases E5 g with ⟨i,t,rfl,rfl⟩ | ⟨x,t,rfl,rfl⟩
  ·rcases E5 f with ⟨j,u,rfl,e⟩ | ⟨y,u,rfl,e⟩
   ·injection e with c _;rw [c]
   ·exact nomatch e
  ·rcases E5 f with ⟨j,u,rfl,e⟩ | ⟨y,u,rfl,e⟩
   ·exact nomatch e
   ·injection e with c _;rw [c]
 byValue:=λk v h=>by
  rcases E5 h with ⟨i,t,rfl,rfl⟩ | ⟨x,t,rfl,rfl⟩ <;> rfl
 pyHash:=λd h=>by
  rcases E5 d with ⟨i,t,rfl,rfl⟩ | ⟨x,t,rfl,rfl⟩
  ·exact wpAny_pyHash_int h
  ·exact wpAny_pyHash_str h
 eqBool:=λm d h=>by
  rcases E5 m with ⟨i,t,rfl,rfl⟩ | ⟨x,t,rfl,rfl⟩
  ·rcases E5 d with ⟨j,u,rfl,rfl⟩ | ⟨y,u,rfl,rfl⟩
   ·rw [UH] at h;exact wpAny_eqBool_int h
   ·rw [UJ] at h;exact SeqAt.EqAt.int_str i t y u _ _ _ _ h
  ·rcases E5 d with ⟨j,u,rfl,rfl⟩ | ⟨y,u,rfl,rfl⟩
   ·rw [UK] at h;exact SeqAt.EqAt.str_int x t j u _ _ _ _ h
   ·rw [UI] at h;exact wpAny_eqBool_str h
 «strs»:=λk x t v h=>by
  rcases E5 h with ⟨i,u,rfl,e⟩ | ⟨y,u,rfl,e⟩
  ·exact nomatch e
  ·injection e with c _
   subst c
   cases v <;> rfl
inductive V where
 | non | bl (b:Bool) | int (i:Int) | str (x:Str) | byt (b:Array UInt8) | flt (b:UInt64) | ref (a:Addr) | ty (n:String)
 deriving DecidableEq
noncomputable def RelV:V->Value->Prop
 | .non,u=>u=Value.none
 | .bl b,u=>u=Value.bool b
 | .int i,u=>∃ t,u=Value.int i t
 | .str x,u=>∃ t,u=Value.str x t
 | .byt b,u=>∃ t,u=Value.bytes b t
 | .flt b,u=>∃ t,u=Value.float b t
 | .ref a,u=>u=Value.ref a
 | .ty n,u=>u=Value.type n
abbrev Vals:List V->cM->Prop:=Paired RelV
def Vals.length {xs:List V} {a:cM} (r:Vals xs a):↑xs=↑a:=Paired.length r
theorem Vals.get:∀ {xs:List V} {a:cM} {i:Nat} {x:V},Vals xs a->xs[i]?=some x->∃ u,a[i]?=some u/\RelV x u
 | _,_,_,_,.nil,e=>by simp at e
 | _,_,0,_,.cons r _,e=>by simp at e;subst e;exact ⟨_,rfl,r⟩
 | _,_,i+1,x,.cons _ t,e=>by
   let ⟨u,b,c⟩:=Vals.get (i:=i) (x:=x) t (by simpa using e);exact ⟨u,by simpa using b,c⟩
theorem Vals.set {x:V} {u:Value} (r:RelV x u):∀ {xs:List V} {a:cM} (i:Nat),Vals xs a->Vals (xs.set i x) (a.set i u)
 | _,_,_,.nil=>.nil
 | _,_,0,.cons _ t=>.cons r t
 | _,_,i+1,.cons q t=>.cons q (Vals.set r i t)
theorem Vals.append:∀ {xs ys:List V} {a b:cM},Vals xs a->Vals ys b->Vals (xs++ys) (a++b)
 | _,_,_,_,.nil,s=>s
 | _,_,_,_,.cons r t,s=>.cons r (Vals.append t s)
theorem Vals.take:∀ {xs:List V} {a:cM} (n:Nat),Vals xs a->Vals (xs.take n) (a.take n)
 | _,_,0,_=>.nil
 | _,_,_+1,.nil=>.nil
 | _,_,n+1,.cons r t=>.cons r (Vals.take n t)
theorem Vals.drop:∀ {xs:List V} {a:cM} (n:Nat),Vals xs a->Vals (xs.drop n) (a.drop n)
 | _,_,0,r=>r
 | _,_,_+1,.nil=>.nil
 | _,_,n+1,.cons _ t=>Vals.drop n t
noncomputable def RelO:Option V->cU->Prop
 | some v,some u=>RelV v u
 | none,none=>True
 | _,_=>False
def KV {a:Type}:List (a×V)->List (a×Value)->Prop:=Paired λ(p:a×V) (q:a×Value)=>p.1=q.1/\RelV p.2 q.2
noncomputable def kV:V_->V
 | .inl i=>.int i
 | .inr x=>.str x
inductive HO where

 | lst (xs:List V)

 | tup (xs:List V)

 | dK (kvs:List (V_×V)) | dT (kvs:List (List V_×V))

 | set (S:Int->Bool) (n:Nat)

 | ins (C dx:Addr) (fs:List (Str×V))

 | own (x:Addr)

 | xd (fs:List (Str×V))

 | met (f x:Addr)

 | rng (lo hi:Int)

 | frz (o:Obj) (u:HO)

 | tbl (ps:Array Value)

 | ext (φ:Heap->Prop)
noncomputable abbrev Hp:=Addr->Option HO
abbrev cK:=Option V
abbrev cJ:=List V
noncomputable def upd (H:Hp) (a:Addr) (o:HO):Hp:=λb=>if b=a then some o else H b
def upd_same {H:Hp} {a:Addr} {o:HO}:upd H a o a=some o:=by unfold upd;rw [pB rfl]
def Aq {H:Hp} {a b:Addr} {o:HO} (h:b≠a):upd H a o b=H b:=by unfold upd;rw [qZ h]
def Mo {H:Hp} {a:Addr} {o u:HO}:upd (upd H a o) a u=upd H a u:=by
 funext b;unfold upd;split <;> rfl
def Fv {H:Hp} {a b:Addr} {o u:HO} (h:H a=some o) (h':H b=some u) (d:o≠u):a≠b:=by
 intro e;subst e;rw [h] at h';exact d (pL h')
def As {H:Hp} {a b:Addr} {o:HO} (h:H a=some o) (h':H b=none):a≠b:=by
 intro e;subst e;rw [h] at h';cases h'
section
variable (P:Program) (w:World)
noncomputable def ObjOk (H:Hp) (h:Heap) (a:Addr):HO->Prop
 | .lst c=>↑c<=sizeLine/\∃ (its:cM) (n:Nat),Vals c its/\h.get? a=some { cls:=.type "list", data:=.seq its.toArray n }
 | .tup c=>↑c<=sizeLine/\∃ its:cM,Vals c its/\IsTup h a its.toArray
 | .dK b=>↑b<=sizeLine/\(a == sysModules)=false/\∃ j,KV b j/\h.DictOf (J6 P w) a j
 | .dT b=>↑b<=sizeLine/\(a == sysModules)=false/\∃ c:List (List V_×Addr×Value),
   Paired (λ(p:List V_×V) (q:List V_×Addr×Value)=>p.1=q.1/\H q.2.1=some (.tup (p.1.map kV))/\RelV p.2 q.2.2) b c/\
   ∃ o k y,h.get? a=some o/\o.ExactDict/\o.data=.dict k y/\k.toList=c.map (entryOfKey (tupleKind (J6 P w)))/\(c.map (·.1)).Nodup
 | .set S n=>h.SetOf (intKind P w) a S n
 | .ins C g e=>H g=some (.own a)/\↑e<=1000/\g≠a/\h.get? a=some (W.instObj C g)/\
   ∃ d,h.Ns1 g d/\(∀ f,RelO (e.lookup f) (d f))/\PySem.Within d (e.map (·.1))
 | .own _=>∃ o,h.get? a=some o
 | .xd e=>∃ d,h.Ns1 a d/\∀ f,RelO (e.lookup f) (d f)
 | .rng lo z=>∃ t u v,h.get? a=some { cls:=.type "range", data:=.fields #[.int lo t,.int z u,.int 1 v] }
 | .frz o u=>h.get? a=some o/\ObjOk H h a u
 | .tbl ps=>h.get? a=some { cls:=.none,data:=.fields ps }
 | .met f x=>h.get? a=some (W.methodObj (.ref f) (.ref x))
 | .ext i=>i h/\(∃ o,h.get? a=some o)/\∀ m r:Heap,i m->(∀ o,m.get? a=some o->r.get? a=some o)->i r
def HOk (H:Hp) (h:Heap):Prop:=∀ a o,H a=some o->ObjOk P w H h a o
end
section
variable {P:Program} {w:World} {H H':Hp} {h h':Heap} {a:Addr} {o:HO}
theorem ObjOk.lt (x:ObjOk P w H h a o):a<h.objs.size:=by
 cases o with
 | lst c=>let ⟨_,_,_,_,e⟩:=x;exact pM e
 | tup c=>let ⟨_,_,_,p⟩:=x;exact p.lt
 | dK b=>let ⟨_,_,_,_,o,_,_,e,_⟩:=x;exact pM e
 | dT b=>let ⟨_,_,_,_,o,_,_,e,_⟩:=x;exact pM e
 | set S n=>let ⟨o,_,_,_,e,_⟩:=x;exact pM e
 | ins C g d=>let ⟨_,_,_,e,_⟩:=x;exact pM e
 | own y=>let ⟨_,e⟩:=x;exact pM e
 | xd d=>let ⟨_,⟨_,_,_,e,_⟩,_⟩:=x;exact pM e
 | rng lo i=>let ⟨_,_,_,e⟩:=x;exact pM e
 | frz j u=>let ⟨e,_⟩:=x;exact pM e
 | tbl ps=>exact pM (show h.get? a=some _ from x)
 | met f y=>exact pM (show h.get? a=some _ from x)
 | ext k=>let ⟨_,⟨_,e⟩,_⟩:=x;exact pM e
theorem Paired.mapP {e g:Type} {F G:e->g->Prop}:∀ {c:List e} {d:List g},Paired F c d->(∀ a b,F a b->G a b)->Paired G c d
 | _,_,.nil,_=>.nil
 | _,_,.cons r t,f=>.cons (f _ _ r) (Paired.mapP t f)
theorem ObjOk.stay (x:ObjOk P w H h a o) (k:∀ b u,(b=a\/H b=some (.own a))->h.get? b=some u->h'.get? b=some u)
  (G:∀ b,H b=some (.own a)->H' b=some (.own a)) (I:∀ b A,H b=some (.tup A)->H' b=some (.tup A)):ObjOk P w H' h' a o:=by
 induction o with
 | lst A=>let ⟨z,m,n,r,e⟩:=x;exact ⟨z,m,n,r,k _ _ (.inl rfl) e⟩
 | tup A=>let ⟨z,m,r,g,e,c⟩:=x;exact ⟨z,m,r,g,k _ _ (.inl rfl) e,c⟩
 | dK B=>let ⟨z,y,J,r,g,i,j,e,c⟩:=x;exact ⟨z,y,J,r,g,i,j,k _ _ (.inl rfl) e,c⟩
 | dT B=>
   let ⟨z,y,A,r,g,i,j,e,c⟩:=x;exact ⟨z,y,A,Paired.mapP r λp q z=>⟨z.1,I _ _ z.2.1,z.2.2⟩,g,i,j,k _ _ (.inl rfl) e,c⟩
 | set S n=>let ⟨g,i,j,t,e,c⟩:=x;exact ⟨g,i,j,t,k _ _ (.inl rfl) e,c⟩
 | ins C O K=>
   let ⟨d,z,L,e,D,⟨E,i,j,M,c⟩,r⟩:=x;exact ⟨G _ d,z,L,k _ _ (.inl rfl) e,D,⟨E,i,j,k _ _ (.inr d) M,c⟩,r⟩
 | own y=>let ⟨g,e⟩:=x;exact ⟨g,k _ _ (.inl rfl) e⟩
 | xd K=>let ⟨D,⟨E,i,j,e,c⟩,r⟩:=x;exact ⟨D,⟨E,i,j,k _ _ (.inl rfl) e,c⟩,r⟩
 | rng lo Q=>let ⟨t,u,v,e⟩:=x;exact ⟨t,u,v,k _ _ (.inl rfl) e⟩
 | frz g u N=>let ⟨e,q⟩:=x;exact ⟨k _ _ (.inl rfl) e,N q⟩
 | tbl ps=>
   let e:h.get? a=some { cls:=.none,data:=.fields ps }:=x;show h'.get? a=some { cls:=.none,data:=.fields ps };exact k a _ (.inl rfl) e
 | met f y=>
   let e:h.get? a=some (W.methodObj (.ref f) (.ref y)):=x;show h'.get? a=some (W.methodObj (.ref f) (.ref y));exact k a _ (.inl rfl) e
 | ext R=>let ⟨p,⟨o,e⟩,F⟩:=x;exact ⟨F _ _ p λo q=>k _ _ (.inl rfl) q,⟨o,k _ _ (.inl rfl) e⟩,F⟩
def HOk.lt (x:HOk P w H h) (e:H a=some o):a<h.objs.size:=(x a o e).lt
theorem HOk.fresh (x:HOk P w H h) (e:h.objs.size<=a):H a=none:=by
 cases q:H a with
 | none=>rfl
 | some u=>exact absurd (B2 (x.lt q) e) (C5 _)
def HOk.kept (x:HOk P w H h) (k:∀ b u,h.get? b=some u->h'.get? b=some u):HOk P w H h':=λa o e=>
 (x a o e).stay (λb u _ q=>k b u q) (λ_ q=>q) λ_ _ q=>q
def HOk.laid (x:HOk P w H h) (k:∀ b u,h.get? b=some u->h'.get? b=some u) (hp:h.objs.size<=a) (d:ObjOk P w (upd H a o) h' a o):HOk P w (upd H a o) h':=λb u e=>by
 let f:=x.fresh hp;by_cases g:b=a
 ·subst g;rw [upd_same] at e;cases e;exact d
 ·rw [Aq g] at e;exact (x b u e).stay (λc v _ q=>k c v q) (λc q=>by rw [Aq (As q f)];exact q) λc i q=>by rw [Aq (As q f)];exact q
end
def Rd (H:Hp) (a:Addr) (u:HO):Prop:=H a=some u\/∃ o,H a=some (.frz o u)
def Rd.ok {P:Program} {w:World} {H:Hp} {h:Heap} {a:Addr} {u:HO} (r:Rd H a u) (x:HOk P w H h):ObjOk P w H h a u:=by
 rcases r with r | ⟨o,r⟩
 ·exact x a u r
 ·let ⟨_,q⟩:=x a _ r;exact q
noncomputable def bK:Option HO->Prop
 | some (.lst _)=>True
 | some (.dK _)=>True
 | some (.dT _)=>True
 | some (.set _ _)=>True
 | some (.ins _ _ _)=>True
 | some (.ext _)=>True
 | _=>False
section
variable {P:Program} {w:World} {H:Hp} {h h':Heap} {x e:Addr} {o':HO}
def HOk.write (ok:HOk P w H h) (g:bK (H x)) (p:e=x\/H e=some (.own x)) (k:∀ b u,b≠e->h.get? b=some u->h'.get? b=some u) (n:∃ u,h'.get? e=some u)
  (o:ObjOk P w (upd H x o') h' x o'):HOk P w (upd H x o') h':=λb u q=>by
 let d:∀ c y,H c=some (.own y)->c≠x:=λc y r z=>by subst z;rw [r] at g;exact g
 let f:∀ c i,H c=some (.tup i)->c≠x:=λc i r z=>by subst z;rw [r] at g;exact g
 by_cases j:b=x
 ·subst j;rw [upd_same] at q;cases q;exact o
 ·rw [Aq j] at q;by_cases a:b=e
  ·let A:H b=some (.own x):=by
    rcases p with z | z
    ·exact absurd (a.trans z) j
    ·rw [a];exact z
   rw [q] at A;cases A;let ⟨v,B⟩:=n;exact ⟨v,by rw [a];exact B⟩
  ·refine (ok b u q).stay (λc v m r=>k c v ?_ r) (λc r=>by rw [Aq (d c b r)];exact r) λc i r=>by rw [Aq (f c i r)];exact r
   rcases m with rfl | m
   ·exact a
   ·rintro rfl;rcases p with z | z
    ·exact d c b m z
    ·rw [m] at z;cases z;exact j rfl
end
structure Un (fs ex:cV) (H H':Hp) (h h':Heap):Prop where
 keep:∀ b o,h.get? b=some o->H b=none->b∉fs->b∉ex->h'.get? b=some o
 slot:∀ b o,h.get? b=some o->H b=none->b∈fs->b∉ex->∃ sl,h'.get? b=some { o with slots:=sl }
 free:∀ b o,h.get? b=some o->H b=none->b∉ex->H' b=none
 there:∀ b o,h.get? b=some o->b∉ex->∃ o',h'.get? b=some o'
 tups:∀ b xs,H b=some (.tup xs)->H' b=some (.tup xs)
 frzs:∀ b o u,H b=some (.frz o u)->H' b=some (.frz o u)
 tbls:∀ b ps,H b=some (.tbl ps)->∃ more,H' b=some (.tbl (ps++more))
section
variable {fs fs' ex ex':cV} {H H1 H2:Hp} {h h1 h2 h':Heap} {a x e:Addr} {o:HO}
def Un.any (u:Un fs ex H H1 h h1) {b:Addr} {c:Obj} (q:h.get? b=some c) (n:H b=none) (f:b∉ex):∃ i,h1.get? b=some { c with slots:=i }:=by
 by_cases g:b∈fs
 ·exact u.slot b c q n g f
 ·exact ⟨c.slots,u.keep b c q n g f⟩
def Un.kept (k:∀ b u,h.get? b=some u->h'.get? b=some u):Un fs ex H H h h':=
 ⟨λb c q _ _ _=>k b c q,λb c q _ _ _=>⟨c.slots,k b c q⟩,λ_ _ _ n _=>n,λb c q _=>⟨c,k b c q⟩,λ_ _ q=>q,λ_ _ _ q=>q,λ_ ps q=>⟨#[],by rw [q];simp⟩⟩
def Un.refl:Un fs ex H H h h:=Un.kept λ_ _ q=>q
def Un.laid (k:∀ b u,h.get? b=some u->h'.get? b=some u) (hp:h.objs.size<=a) (c:H a=none):Un fs ex H (upd H a o) h h' where
 keep:=λb u q _ _ _=>k b u q
 slot:=λb u q _ _ _=>⟨u.slots,k b u q⟩
 free:=λb u q n _=>by rw [Aq (BG (B2 (pM q) hp))];exact n
 there:=λb u q _=>⟨u,k b u q⟩
 tups:=λb d q=>by rw [Aq (As q c)];exact q
 frzs:=λb u d q=>by rw [Aq (As q c)];exact q
 tbls:=λb ps q=>⟨#[],by rw [Aq (As q c),q];simp⟩
def Un.write (d:bK (H x)) (m:e=x\/H e=some (.own x)) (k:∀ b u,b≠e->h.get? b=some u->h'.get? b=some u) (f:∃ u,h'.get? e=some u):Un fs ex H (upd H x o) h h':=by
 let i:∀ b,H b=none->b≠x:=λb n z=>by subst z;rw [n] at d;exact d
 let j:∀ b,H b=none->b≠e:=λb n z=>by
  subst z;rcases m with r | r
  ·exact i b n r
  ·rw [n] at r;cases r
 let g:∀ b u,H b=some u->¬ bK (some u)->b≠x:=λb u q p z=>by subst z;rw [q] at d;exact p d
 refine ⟨λb u q n _ _=>k b u (j b n) q,λb u q n _ _=>⟨u.slots,k b u (j b n) q⟩,λb u q n _=>by rw [Aq (i b n)];exact n,λb u q _=>?_,
  λb v q=>by rw [Aq (g b _ q λz=>z)];exact q,λb u v q=>by rw [Aq (g b _ q λz=>z)];exact q,λb ps q=>⟨#[],by rw [Aq (g b _ q λz=>z),q];simp⟩⟩
 by_cases c:b=e
 ·subst c;exact f
 ·exact ⟨u,k b u c q⟩
end
noncomputable def bO (h:Heap) (H:Hp):cV:=(List.range h.objs.size).filter λa=>(H a).isSome
noncomputable def Em (h:Heap) (H:Hp):Heap:=W.hideAll h (bO h H)
def UL (h:Heap) (H:Hp):(Em h H).objs.size=h.objs.size:=W.hideAll_size _ _
def UM {h:Heap} {H:Hp} {b:Addr} {o:Obj} (e:h.get? b=some o) (n:H b=none):(Em h H).get? b=some o:=
 W.hideAll_get _ e λa=>by
  let q:(H b).isSome=true:=(List.mem_filter.mp a).2;rw [n] at q;simp at q
theorem UN {h:Heap} {H:Hp} {b:Addr} {o:Obj} (e:(Em h H).get? b=some o):h.get? b=some o/\H b=none:=by
 let a:h.get? b=some o:=W.of_hideAll (bO h H) e;refine ⟨a,?_⟩;cases q:H b with
 | none=>rfl
 | some x=>
   let c:b∈bO h H:=List.mem_filter.mpr ⟨D5.mpr (pM a),by simp [q]⟩;let z:(Em h H).get? b=none:=W.hideAll_none (bO h H) c;rw [z] at e;cases e
noncomputable def UO (g h:Heap) (L:Addr):cO:=(List.range h.objs.size).filterMap λa=>if a=L\/(g.get? a).isSome=true then none else (h.get? a).map λo=>(a,o)
noncomputable def rest (g h:Heap) (L d:Addr):cO:=(UO g h L).filter λp=>decide (p.1≠d)
structure Mod (K:W.Frag) (mg:cP) (base:Heap):Prop where
 kin:K.In base
 glob:base.Ns mainGlobals mg
 blt:∃ mb,base.Ns builtinsNs mb/\∀ x:Str,x ≠ "__name__" -> mb x=bootBuiltins x
 nolimit:base.NoLimit
structure Cx where
 prog:Program
 w:World
 K:W.Frag
 mg:cP
 base:Heap
 A:Around
 N:cT
 s₀:Shared
 H₀:Hp
 env:Env
 outer:List Env
 stack:List Env
 ex:cV
 fn:Str->Bool
 calm:Bool
 pn:cO
 xe:cN
noncomputable def af (l:List Env):cV:=l.filterMap (·.frame)
noncomputable abbrev Cx.fs (X:Cx):cV:=af X.outer
def bj (a:Scope) (x:Str):Prop:=a.names.lookup x=some .local\/a.names.lookup x=some .cell\/a.names.lookup x=some .free
def aF (a:Scope) (x:Str):Prop:=a.names.lookup x=some .local\/a.names.lookup x=some .cell
def bo (a:Env) (h:Heap) (m:cP) (x:Str) (u:Value):Prop:=
 (a.kindOf x=some .local/\m x=some u)\/((a.kindOf x=some .cell\/a.kindOf x=some .free)/\∃ c,a.cells.lookup x=some c/\h.IsCell c (some u))
structure Cx.Ok (X:Cx):Prop where
 mod:Mod X.K X.mg X.base
 kind:X.env.scope.kind=.function
 glob:X.env.globals=mainGlobals
 blt:X.env.builtins=builtinsNs
 above:X.s₀.heap.objs.size<=X.env.locals
 inj:∀ x y c,X.env.cells.lookup x=some c->X.env.cells.lookup y=some c->x=y
 has:∀ x,(X.env.kindOf x=some .cell\/X.env.kindOf x=some .free)->∃ c,X.env.cells.lookup x=some c
 cab:∀ x c,X.fn x=true->X.env.cells.lookup x=some c->X.s₀.heap.objs.size<=c
 hd:X.calm=true->X.A.handled=none
 frames:X.A.frames=some X.stack
 stk:X.stack=X.outer\/(X.stack=X.env::X.outer/\X.env.frame=some X.env.locals)
 exf:∀ b∈X.ex,b≠X.env.locals/\∀ x c,X.env.cells.lookup x=some c->c≠b
 bs:∀ b o,X.base.get? b=some o->X.s₀.heap.get? b=some o/\X.H₀ b=none
 bsz:X.base.objs.size<=X.s₀.heap.objs.size
 noex:∀ b o,X.base.get? b=some o->b∉X.ex
 exfs:∀ b∈X.ex,b∉X.fs
 funs:X.s₀.heap.FunFrames X.base X.outer
 frf:∀ b∈X.fs,X.H₀ b=none
 seer:X.base.NoSeer
 tree:(model X.prog X.w).prog.given.tree=none
 plr:∀ s:Shared,(∀ b o,X.base.get? b=some o->s.heap.get? b=some o)->PySem.PylongRoom (model X.prog X.w) X.A s
structure Inv (X:Cx) (pins:cO) (σ:List (cK)) (H:Hp) (s:Shared):Prop where
 ok:X.Ok
 os:s.os=X.s₀.os
 bare:AllBare s.gens
 base:Un X.fs X.ex X.H₀ H X.s₀.heap s.heap
 loc:∃ m,s.heap.Ns X.env.locals m/\∀ (i:Nat) (x:Str) (v:V),X.N[i]?=some x->σ[i]?=some (some v)->bj X.env.scope x->∃ u,RelV v u/\bo X.env s.heap m x u
 cell:∀ x c,X.env.cells.lookup x=some c->∃ v,s.heap.IsCell c v
 free:H X.env.locals=none
 freeC:∀ x c,X.env.cells.lookup x=some c->H c=none
 pin:∀ p∈X.pn++pins,s.heap.get? p.1=some p.2/\H p.1=none/\p.1≠X.env.locals/\p.1∉X.fs/\∀ v,p.2.data≠.cell v
 hok:HOk X.prog X.w H s.heap
 len:↑σ=↑X.N
section
variable {X:Cx} {pins:cO} {σ:List (cK)} {H H':Hp} {s:Shared} {h':Heap}
def Cx.Ok.nofr (ok:X.Ok) {b:Addr} {o:Obj} (e:X.base.get? b=some o):b∉X.fs:=λa=>by
 have:=(ok.funs.mem a).1;rw [e] at this;cases this
def Inv.bs (I:Inv X pins σ H s):∀ b o,X.base.get? b=some o->s.heap.get? b=some o/\H b=none:=λb o e=>
 ⟨I.base.keep b o (I.ok.bs b o e).1 (I.ok.bs b o e).2 (I.ok.nofr e) (I.ok.noex b o e),I.base.free b o (I.ok.bs b o e).1 (I.ok.bs b o e).2 (I.ok.noex b o e)⟩
def Inv.bk (I:Inv X pins σ H s):∀ b o,X.base.get? b=some o->s.heap.get? b=some o:=λb o e=>(I.bs b o e).1
def Inv.mod (I:Inv X pins σ H s):Mod X.K X.mg X.base:=I.ok.mod
def Inv.kIn (I:Inv X pins σ H s):X.K.In s.heap:=I.ok.mod.kin.keeps I.bk
def Inv.lt (I:Inv X pins σ H s):X.env.locals<⇑s:=let ⟨_,a,_⟩:=I.loc;a.lt
def Inv.sz (I:Inv X pins σ H s):X.s₀.heap.objs.size<=⇑s:=BM I.ok.above (Nat.le_of_lt I.lt)
def Inv.nofs (I:Inv X pins σ H s) {a:Addr} (h:⇑s<=a):a∉X.fs:=λb=>by
 let ⟨_,o,c,_⟩:=I.ok.funs.mem b;exact absurd (B2 (pM c) (BM I.sz h)) (C5 _)
def Inv.cne (I:Inv X pins σ H s):∀ x c,X.env.cells.lookup x=some c->c≠X.env.locals:=λx c e z=>by
 let ⟨v,o,d,f⟩:=I.cell x c e;let ⟨m,⟨g,h,i,a,b,_⟩,_⟩:=I.loc;rw [z,a] at d;cases d;rw [b] at f;cases f
def Inv.funs (I:Inv X pins σ H s):s.heap.FunFrames X.base X.outer:=by
 let all:∀ (l:List Env),(∀ b∈af l,b∈X.fs)->X.s₀.heap.FunFrames X.base l->s.heap.FunFrames X.base l:=by
  intro l
  induction l with
  | nil=>intro _ _;trivial
  | cons g r h=>
    intro f i;let ⟨hk,⟨L,o,a,j,k,m⟩,n⟩:=i;let c:L∈X.fs:=f L (by unfold af;rw [List.filterMap_cons,a];exact D6);let ⟨p,e⟩:=I.base.slot L o k (I.ok.frf L c) c λz=>I.ok.exfs L z c;exact ⟨hk,⟨L,_,a,j,e,m⟩,h (λb d=>f b (by unfold af;rw [List.filterMap_cons,a];exact Dn _ d)) n⟩
 exact all X.outer (λ_ d=>d) I.ok.funs
def Inv.stack (I:Inv X pins σ H s):s.heap.FunFrames X.base X.stack:=by
 rcases I.ok.stk with e | ⟨e,a⟩
 ·rw [e];exact I.funs
 ·rw [e];let ⟨m,b,_⟩:=I.loc;refine .cons (by rw [I.ok.kind];decide) a b ?_ I.funs;exact Heap.get?_none_of_le (BM I.ok.bsz I.ok.above)
def Inv.stkSub (I:Inv X pins σ H s):∀ b∈af X.stack,b∈X.env.locals::X.fs:=λb a=>by
 rcases I.ok.stk with e | ⟨e,c⟩
 ·rw [e] at a;exact Dn _ a
 ·rw [e] at a;unfold af at a;rw [List.filterMap_cons,c] at a;exact a
def Inv.stkFree (I:Inv X pins σ H s):∀ b∈af X.stack,H b=none:=λb a=>by
 rcases DV.mp (I.stkSub b a) with e | a
 ·rw [e];exact I.free
 ·let ⟨_,o,c,_⟩:=I.ok.funs.mem a;exact I.base.free b o c (I.ok.frf b a) λz=>I.ok.exfs b z a
def Inv.step {g':Array GenState} {t':Nat} {d':Drawn} {ch:cV} (I:Inv X pins σ H s)
  (g:∀ b∈ch,(b∈X.ex\/X.s₀.heap.objs.size<=b)/\b≠X.env.locals/\(∀ x c,X.env.cells.lookup x=some c->c≠b)/\∀ p∈X.pn++pins,p.1≠b)
  (h:∀ b o,b≠X.env.locals->b∉X.fs->b∉ch->s.heap.get? b=some o->H b=none->h'.get? b=some o)
  (B:∀ b o,b≠X.env.locals->b∈X.fs->b∉ch->s.heap.get? b=some o->H b=none->∃ P,h'.get? b=some { o with slots:=P }) (f:∀ b o,b∉ch->s.heap.get? b=some o->H b=none->H' b=none)
  (D:∀ b o,b∉ch->s.heap.get? b=some o->∃ G,h'.get? b=some G)
  (J:∀ b C,H b=some (.tup C)->H' b=some (.tup C)) (K:∀ b o u,H b=some (.frz o u)->H' b=some (.frz o u)) (L:∀ b ps,H b=some (.tbl ps)->∃ M,H' b=some (.tbl (ps++M)))
  (ns:∀ m,s.heap.Ns X.env.locals m->h'.Ns X.env.locals m) (R:HOk X.prog X.w H' h') (hg:AllBare g') :
  Inv X pins σ H' { s with heap:=h',gens:=g',drawn:=d',toks:=t' }:=by
 let N:∀ b o,X.s₀.heap.get? b=some o->b≠X.env.locals:=λb o e=>BG (B2 (pM e) I.ok.above)
 let y:∀ b o,X.s₀.heap.get? b=some o->b∉X.ex->b∉ch:=λb o e a E=>by
  rcases (g b E).1 with z | z
  ·exact a z
  ·exact absurd (B2 (pM e) z) (C5 _)
 let j:∀ x c,X.env.cells.lookup x=some c->∀ v,s.heap.IsCell c v->h'.IsCell c v:=λx c e v ⟨o,F,S⟩=>by
  let w:c∉ch:=λz=>(g c z).2.2.1 x c e rfl;by_cases Z:c∈X.fs
  ·let ⟨P,q⟩:=B c o (I.cne x c e) Z w F (I.freeC x c e);exact ⟨_,q,S⟩
  ·exact ⟨o,h c o (I.cne x c e) Z w F (I.freeC x c e),S⟩
 refine ⟨I.ok,I.os,hg,⟨λb o e n E a=>?_,λb o e n E a=>?_,λb o e n a=>?_,λb o e a=>?_,λb C e=>J b C (I.base.tups b C e),λb o C e=>K b o C (I.base.frzs b o C e),λb ps e=>?_⟩,?_,λx c e=>?_,?_,λx c e=>?_,λp hp=>?_,R,I.len⟩
 ·exact h b o (N b o e) E (y b o e a) (I.base.keep b o e n E a) (I.base.free b o e n a)
 ·let ⟨P,A⟩:=I.base.slot b o e n E a;let ⟨T,O⟩:=B b _ (N b o e) E (y b o e a) A (I.base.free b o e n a);exact ⟨T,O⟩
 ·let ⟨G,A⟩:=I.base.there b o e a;exact f b G (y b o e a) A (I.base.free b o e n a)
 ·let ⟨G,A⟩:=I.base.there b o e a;exact D b G (y b o e a) A
 ·let ⟨m1,A⟩:=I.base.tbls b ps e;let ⟨m2,O⟩:=L b _ A;exact ⟨m1++m2,by rw [O,Array.append_assoc]⟩
 ·let ⟨m,hn,hl⟩:=I.loc;refine ⟨m,ns m hn,λi x v A O e3=>?_⟩;let ⟨u,r,l⟩:=hl i x v A O e3;refine ⟨u,r,?_⟩;rcases l with l | ⟨k,c,e,z⟩
  ·exact .inl l
  ·exact .inr ⟨k,c,e,j x c e _ z⟩
 ·let ⟨v,z⟩:=I.cell x c e;exact ⟨v,j x c e v z⟩
 ·let ⟨m,⟨o,_,_,F,_⟩,_⟩:=I.loc;exact f _ o (λz=>(g _ z).2.1 rfl) F I.free
 ·let ⟨v,o,F,S⟩:=I.cell x c e;exact f c o (λz=>(g c z).2.2.1 x c e rfl) F (I.freeC x c e)
 ·let ⟨e,n,ne,nf,d⟩:=I.pin p hp;let w:p.1∉ch:=λz=>(g p.1 z).2.2.2 p hp rfl;exact ⟨h p.1 p.2 ne nf w e n,f p.1 p.2 w e n,ne,nf,d⟩
def Inv.un {t':Nat} (I:Inv X pins σ H s) (u:Un X.fs [] H H' s.heap h') (c:HOk X.prog X.w H' h'):Inv X pins σ H' { s with heap:=h',toks:=t' }:=by
 let ⟨m,⟨o,v,w,j,r⟩,_⟩:=id I.loc;let ⟨x,k⟩:=u.any j I.free (by simp)
 exact I.step (g':=s.gens) (d':=s.drawn) (ch:=[]) (λ_ z=>nomatch z) (λb o _ d _ e n=>u.keep b o e n d (by simp)) (λb o _ d _ e n=>u.slot b o e n d (by simp)) (λb o _ e n=>u.free b o e n (by simp)) (λb o _ e=>u.there b o e (by simp)) u.tups u.frzs u.tbls (λy p=>by
  let ⟨A,f,g,a,q⟩:=p;rw [j] at a;cases a;exact ⟨_,f,g,k,q⟩) c I.bare
def Inv.call {g':Array GenState} {t':Nat} {d':Drawn} {ch:cV} (I:Inv X pins σ H s) (u:Un (af X.stack) ch H H' s.heap h') (g:HOk X.prog X.w H' h') (y:AllBare g')
  (d:∀ b∈ch,(b∈X.ex\/X.s₀.heap.objs.size<=b)/\b≠X.env.locals/\(∀ x c,X.env.cells.lookup x=some c->c≠b)/\∀ p∈X.pn++pins,p.1≠b) :
  Inv X pins σ H' { s with heap:=h',gens:=g',drawn:=d',toks:=t' }:=by
 let ⟨m,⟨o,D,E,w,r⟩,_⟩:=id I.loc;let ⟨F,h⟩:=u.any w I.free λz=>(d _ z).2.1 rfl
 exact I.step (ch:=ch) d (λb o h A a e n=>u.keep b o e n (λz=>(DV.mp (I.stkSub b z)).elim h A) a) (λb o _ _ a e n=>u.any e n a) (λb o a e n=>u.free b o e n a) (λb o a e=>u.there b o e a) u.tups u.frzs u.tbls (λG B=>by
  let ⟨J,i,j,f,C⟩:=B;rw [w] at f;cases f;exact ⟨_,i,j,h,C⟩) g y
def Inv.turned {t':Nat} {a:Addr} (I:Inv X pins σ H s) (k:∀ b o,b≠a->s.heap.get? b=some o->h'.get? b=some o) (j:H a=none) (g:a≠X.env.locals)
  (w:a∈X.ex\/X.s₀.heap.objs.size<=a) (y:∀ x c,X.env.cells.lookup x=some c->c≠a) (A:∀ p∈X.pn++pins,p.1≠a):Inv X pins σ H { s with heap:=h',toks:=t' }:=by
 let f:∀ b u,H b=some u->b≠a:=λb u e z=>by rw [z,j] at e;cases e
 refine I.step (g':=s.gens) (d':=s.drawn) (ch:=[a]) (λb B=>?_) (λb o _ _ d e _=>k b o (λz=>d (by simp [z])) e) (λb o _ _ d e _=>⟨o.slots,k b o (λz=>d (by simp [z])) e⟩) (λ_ _ _ _ n=>n)
  (λb o d e=>⟨o,k b o (λz=>d (by simp [z])) e⟩) (λ_ _ e=>e) (λ_ _ _ e=>e) (λb ps e=>⟨#[],by rw [e];simp⟩) (λm C=>?_) (λb u e=>?_) I.bare
 ·let e:b=a:=by simpa using B
  subst e;exact ⟨w,g,y,A⟩
 ·let ⟨o,D,E,F,r⟩:=C;exact ⟨o,D,E,k _ o (Ne.symm g) F,r⟩
 ·refine (I.hok b u e).stay (λc v d q=>k c v ?_ q) (λ_ q=>q) λ_ _ q=>q;rcases d with z | z
  ·rw [z];exact f b u e
  ·exact f c _ z
def Inv.tok (I:Inv X pins σ H s) (t:Nat):Inv X pins σ H { s with toks:=t }:=I.un (h':=s.heap) (t':=t) Un.refl I.hok
def Inv.kept {t':Nat} (I:Inv X pins σ H s) (k:∀ b u,s.heap.get? b=some u->h'.get? b=some u):Inv X pins σ H { s with heap:=h',toks:=t' }:=I.un (Un.kept k) (I.hok.kept k)
def Inv.laid {a:Addr} {o:HO} {t':Nat} (I:Inv X pins σ H s) (k:∀ b u,s.heap.get? b=some u->h'.get? b=some u) (hp:⇑s<=a) (c:ObjOk X.prog X.w (upd H a o) h' a o) :
  Inv X pins σ (upd H a o) { s with heap:=h',toks:=t' }:=I.un (Un.laid k hp (I.hok.fresh hp)) (I.hok.laid k hp c)
def Inv.write {x e:Addr} {o:HO} {t':Nat} (I:Inv X pins σ H s) (d:bK (H x)) (f:e=x\/H e=some (.own x)) (k:∀ b u,b≠e->s.heap.get? b=some u->h'.get? b=some u) (a:∃ u,h'.get? e=some u)
  (c:ObjOk X.prog X.w (upd H x o) h' x o):Inv X pins σ (upd H x o) { s with heap:=h',toks:=t' }:=I.un (Un.write d f k a) (I.hok.write d f k a c)
def Inv.pins_of {a:cO} (I:Inv X pins σ H s) (h:∀ p∈a,s.heap.get? p.1=some p.2/\H p.1=none/\p.1≠X.env.locals/\p.1∉X.fs/\∀ v,p.2.data≠.cell v):Inv X a σ H s:=
 ⟨I.ok,I.os,I.bare,I.base,I.loc,I.cell,I.free,I.freeC,λp hp=>(DK.mp hp).elim (λz=>I.pin p (List.mem_append_left _ z)) (h p),I.hok,I.len⟩
def Mp {N:cT} (c:N.Nodup) {i j:Nat} {x:Str} (a:N[i]?=some x) (b:N[j]?=some x):i=j:=by
 let ⟨f,d⟩:=Ax.mp a;let ⟨g,e⟩:=Ax.mp b;exact (List.getElem_inj c).mp (d.trans e.symm)
def Mq {M:Model} {A:Around} {E:cN} {i:Nat} {x:Str} {v:V} {u:Value} {Q:Unit->Shared->Prop} (I:Inv X pins σ H s) (hN:X.N.Nodup) (O:X.N[i]?=some x) (C:aF X.env.scope x) (r:RelV v u)
  (h:∀ s',Inv X pins (σ.set i (some v)) H s'->(∃ a,Heap.SameBut a s.heap s'.heap/\(a=X.env.locals\/X.env.cells.lookup x=some a))->Q Unit.unit s') (hf:X.fn x=true\/X.env.scope.names.lookup x=some .local:=by first | exact .inl rfl | exact .inr rfl | assumption):wpAny M A (storeName X.env x u) Q E s:=by
 let ⟨m,hn,hl⟩:=id I.loc;let P:(X.env.scope.kind == .class || (X.env.scope.kind == .module && X.env.locals != X.env.globals))=false:=by rw [I.ok.kind];rfl
 let G:i<↑σ:=by rw [I.len];exact (Ax.mp O).1
 let J:=I.cne
 let g:∀ {a:Addr} {h':Heap},(∃ o,s.heap.get? a=some o/\H a=none)->Heap.SameBut a s.heap h'->HOk X.prog X.w H h':=λ{a h'} ha f b ob e=>by
  let ⟨_,_,D⟩:=ha;refine (I.hok b ob e).stay (λc W B q=>(f.2 c ?_).trans q) (λ_ q=>q) λ_ _ q=>q;rintro rfl;rcases B with rfl | B
  ·rw [D] at e;cases e
  ·rw [D] at B;cases B
 rcases C with hk | hk
 ·refine wpAny_storeName_local hk hn (λh' a0 f=>?_) P;let ⟨oL,_,_,a3,_⟩:=id hn;refine h _ ⟨I.ok,I.os,I.bare,⟨λb o e n K C=>?_,λb o e n K C=>?_,I.base.free,λb o e C=>?_,I.base.tups,I.base.frzs,I.base.tbls⟩,⟨_,a0,λj y v' w F e3=>?_⟩,λy c e=>?_,I.free,I.freeC,λp hp=>?_,g ⟨oL,a3,I.free⟩ f,by simpa using I.len⟩ ⟨_,f,.inl rfl⟩
  ·exact (f.2 b (BG (B2 (pM e) I.ok.above))).trans (I.base.keep b o e n K C)
  ·let ⟨sl,w⟩:=I.base.slot b o e n K C;exact ⟨sl,(f.2 b (BG (B2 (pM e) I.ok.above))).trans w⟩
  ·let ⟨o',w⟩:=I.base.there b o e C;exact ⟨o',(f.2 b (BG (B2 (pM e) I.ok.above))).trans w⟩
  ·by_cases L:j=i
   ·subst L;rw [O] at w;cases w;rw [Fq G] at F;cases F;exact ⟨u,r,.inl ⟨hk,by simp⟩⟩
   ·rw [Fr (Ne.symm L)] at F;let ⟨u',r',q⟩:=hl j y v' w F e3;refine ⟨u',r',?_⟩;rcases q with ⟨k,e⟩ | ⟨k,c,e,z⟩
    ·refine .inl ⟨k,?_⟩;have:y≠x:=λe=>L (Mp hN w (e ▸ O));simp [this,e]
    ·exact .inr ⟨k,c,e,z.sameBut f (J y c e)⟩
  ·let ⟨W,z⟩:=I.cell y c e;exact ⟨W,z.sameBut f (J y c e)⟩
  ·let ⟨e,n,Y,nf,d⟩:=I.pin p hp;exact ⟨(f.2 p.1 Y).trans e,n,Y,nf,d⟩
 ·let N:X.fn x=true:=by
   rcases hf with z | z
   ·exact z
   ·rw [z] at hk;cases hk
  let ⟨c,B⟩:=I.ok.has x (.inl hk);let ⟨W,z⟩:=I.cell x c B;refine wpAny_storeName_cell I.ok.kind hk B z (λh' R f=>?_);let ⟨oc,S,T⟩:=id z;refine h { s with heap:=h' } ⟨I.ok,I.os,I.bare,⟨λb o e n K C=>?_,λb o e n K C=>?_,I.base.free,λb o e C=>?_,I.base.tups,I.base.frzs,I.base.tbls⟩,⟨m,hn.sameBut f (Ne.symm (J x c B)),λj y v' w F e3=>?_⟩,λy Z e=>?_,I.free,I.freeC,λp hp=>?_,g ⟨oc,S,I.freeC x c B⟩ f,by simpa using I.len⟩ ⟨c,f,.inr B⟩
  ·exact (f.2 b (BG (B2 (pM e) (I.ok.cab x c N B)))).trans (I.base.keep b o e n K C)
  ·let ⟨sl,w⟩:=I.base.slot b o e n K C;exact ⟨sl,(f.2 b (BG (B2 (pM e) (I.ok.cab x c N B)))).trans w⟩
  ·let ⟨o',w⟩:=I.base.there b o e C;exact ⟨o',(f.2 b (BG (B2 (pM e) (I.ok.cab x c N B)))).trans w⟩
  ·by_cases L:j=i
   ·subst L;rw [O] at w;cases w;rw [Fq G] at F;cases F;exact ⟨u,r,.inr ⟨.inl hk,c,B,R⟩⟩
   ·rw [Fr (Ne.symm L)] at F;let ⟨u',r',q⟩:=hl j y v' w F e3;refine ⟨u',r',?_⟩;rcases q with q | ⟨k,Z,e,z'⟩
    ·exact .inl q
    ·refine .inr ⟨k,Z,e,z'.sameBut f ?_⟩;rintro rfl;exact L (Mp hN w (I.ok.inj _ _ _ e B ▸ O))
  ·by_cases U:Z=c
   ·subst U;exact ⟨_,R⟩
   ·let ⟨w2,z2⟩:=I.cell y Z e;exact ⟨w2,z2.sameBut f U⟩
  ·let ⟨e,n,Y,nf,d⟩:=I.pin p hp;refine ⟨(f.2 p.1 ?_).trans e,n,Y,nf,d⟩;intro q;rw [q,S] at e;let q':oc=p.2:=pL e;exact d W (by rw [<-q'];exact T)
def HN {M:Model} {A:Around} {E:cN} {i:Nat} {x:Str} {v:V} {u:Value} {Q:Unit->Shared->Prop} (I:Inv X pins σ H s) (b:X.N.Nodup) (c:X.N[i]?=some x) (d:aF X.env.scope x) (r:RelV v u)
  (h:∀ a,Inv X pins (σ.set i (some v)) H a->Q Unit.unit a) (e:X.fn x=true\/X.env.scope.names.lookup x=some .local:=by first | exact .inl rfl | exact .inr rfl | assumption):wpAny M A (storeName X.env x u) Q E s:=
 Mq I b c d r (λa f _=>h a f) e
def Inv.call' {s':Shared} {ch:cV} (I:Inv X pins σ H s) (f:s'.os=s.os) (u:Un (af X.stack) ch H H' s.heap s'.heap) (a:HOk X.prog X.w H' s'.heap) (g:AllBare s'.gens)
  (d:∀ b∈ch,(b∈X.ex\/X.s₀.heap.objs.size<=b)/\b≠X.env.locals/\(∀ x c,X.env.cells.lookup x=some c->c≠b)/\∀ p∈X.pn++pins,p.1≠b):Inv X pins σ H' s':=by
 let ⟨h',g',d',t',h⟩:=s';let e:h=s.os:=f;subst e;exact I.call (g':=g') (t':=t') (d':=d') u a g d
end
noncomputable abbrev XK:=Value->Option Addr->Hp->Prop
noncomputable abbrev St:=List (cK)
noncomputable abbrev VK:=V->Hp->Prop
noncomputable abbrev TE:=St->Hp->VK->Prop
noncomputable abbrev TT:=St->Hp->(Bool->Hp->Prop)->Prop
noncomputable abbrev TA:=St->Hp->(cJ->Hp->Prop)->Prop
structure Ends where
 nx:St->Hp->Prop
 rt:VK
 bk:St->Hp->Prop:=λ_ _=>False
 ct:St->Hp->Prop:=λ_ _=>False
noncomputable abbrev TS:=Ends->St->Hp->Prop
def EP (X:Cx) (a:cO) (c:St) (Q:VK) (u:Value) (s':Shared):Prop:=∃ v b,Inv X a c b s'/\RelV v u/\Q v b
def TP (X:Cx) (a:cO) (d:St) (Q:Bool->Hp->Prop) (b:Bool) (s':Shared):Prop:=∃ c,Inv X a d c s'/\Q b c
def AP (X:Cx) (a:cO) (d:St) (Q:cJ->Hp->Prop) (e:cM) (s':Shared):Prop:=∃ b c,Inv X a d c s'/\Vals b e/\Q b c
def SP (X:Cx) (b:cO) (D:Ends) (f:Flow) (s':Shared):Prop:=
 match f with
 | .next=>∃ a c,Inv X b a c s'/\D.nx a c
 | .brk=>∃ a c,Inv X b a c s'/\D.bk a c
 | .cont=>∃ a c,Inv X b a c s'/\D.ct a c
 | .ret u=>∃ v a c,Inv X b a c s'/\RelV v u/\D.rt v c
def PE (X:Cx) (e:Expr) (t:TE):Prop:=
 ∀ (a:cO) (s:Shared) (b:St) (H:Hp) (Q:VK),Inv X a b H s->t b H Q->wpAny (model X.prog X.w) X.A (eval e X.env) (EP X a b Q) X.xe s
def PT (X:Cx) (e:Expr) (t:TT):Prop:=
 ∀ (a:cO) (s:Shared) (b:St) (H:Hp) (Q:Bool->Hp->Prop),Inv X a b H s->t b H Q->wpAny (model X.prog X.w) X.A (isTrue e X.env (eval e X.env)) (TP X a b Q) X.xe s
def PW (X:Cx) (e:Expr) (t:TT):Prop:=
 ∀ (b:Sem Value) (a:cO) (s:Shared) (c:St) (H:Hp) (Q:Bool->Hp->Prop),Inv X a c H s->t c H Q->wpAny (model X.prog X.w) X.A (isTrue e X.env b) (TP X a c Q) X.xe s
def PW.pt {X:Cx} {e:Expr} {t:TT} (h:PW X e t):PT X e t:=h _
def PA (X:Cx) (d:cQ) (t:TA):Prop:=
 ∀ (b:Pos) (a:cO) (s:Shared) (c:St) (H:Hp) (Q:cJ->Hp->Prop),Inv X a c H s->t c H Q->wpAny (model X.prog X.w) X.A (spliced (backTo b (starEach d X.env))) (AP X a c Q) X.xe s
def PS (X:Cx) (st:Stmt) (t:TS):Prop:=
 ∀ (a:cO) (s:Shared) (b:St) (H:Hp) (D:Ends),Inv X a b H s->t D b H->wpAny (model X.prog X.w) X.A (exec st X.env) (SP X a D) X.xe s
def PSs (X:Cx) (st:List Stmt) (t:TS):Prop:=
 ∀ (a:cO) (s:Shared) (b:St) (H:Hp) (D:Ends),Inv X a b H s->t D b H->wpAny (model X.prog X.w) X.A (execs st X.env) (SP X a D) X.xe s
def H_ {b:Type} {t:Sem b} {Q c:b->Shared->Prop} {M:Model} {A:Around} {E:cN} {s:Shared} (h:wpAny M A t Q E s) (d:∀ a s,Q a s->c a s):wpAny M A t c E s:=pK h d λ_ _ x=>x
section
variable {X:Cx}
def AA (i:Nat):TE:=λa H Q=>∃ v,a[i]?=some (some v)/\Q v H
def tC (v:V):TE:=λ_ H Q=>Q v H
def UP {i:Nat} {x:Str} {f:Pos} (n:X.N[i]?=some x) (o:bj X.env.scope x) (g:(x == ("__debug__" : Str))=false:=by decide) (j:(x == ("__classdict__" : Str))=false:=by decide):PE X (.Name x f) (AA i):=by
 intro d s p H Q I h;let ⟨v,e,h⟩:=h;let ⟨m,q,w⟩:=I.loc;let ⟨u,r,l⟩:=w i x v n e o;let b:EP X d p Q u s:=⟨v,H,I,r,h⟩;rcases l with ⟨hk,y⟩ | ⟨hk,c,k,a⟩
 ·exact wpAny_Name (wpAny_loadName_local I.ok.kind hk q y b) g
 ·rcases hk with hk | hk
  ·exact wpAny_Name (wpAny_loadName_cell I.ok.kind hk k a b) g
  ·exact wpAny_Name (wpAny_loadName_free I.ok.kind hk k a b j) g
def AN {i j pos}:PE X (.Constant (.int i) j pos) (tC (.int i)):=λ_ _ _ H _ I h=>wpAny_Constant_int ⟨.int i,H,I.tok _,⟨_,rfl⟩,h⟩
def Fw {b j pos}:PE X (.Constant (.bool b) j pos) (tC (.bl b)):=λ_ _ _ H _ I h=>Constant_bool ⟨.bl b,H,I,rfl,h⟩
def IW {j pos}:PE X (.Constant .none j pos) (tC .non):=λ_ _ _ H _ I h=>Constant_none ⟨.non,H,I,rfl,h⟩
def HP {x j pos}:PE X (.Constant (.str x) j pos) (tC (.str x)):=λ_ _ _ H _ I h=>Calls.Constant_str ⟨.str x,H,I.tok _,⟨_,rfl⟩,h⟩
def Gl (X:Cx) (x:Str):Prop:=X.env.kindOf x=some .globalImplicit
def J7 {E:cN} {a:cO} {s:Shared} {c:St} {H:Hp} {x:Str} {u:Value} {b:Pos} {Q:cN} (I:Inv X a c H s) (d:Gl X x) (e:X.mg x=some u) (h:Q u s)
  (f:(x == ("__debug__" : Str))=false:=by decide):wpAny (model X.prog X.w) X.A (eval (.Name x b) X.env) Q E s:=
 Calls.Name_function_global I.ok.kind d (Calls.loadGlobal_global (by rw [I.ok.glob];exact I.mod.glob.keeps I.bk) e h) f
def Dg {E:cN} {a:cO} {s:Shared} {c:St} {H:Hp} {x:Str} {u:Value} {b:Pos} {Q:cN} (I:Inv X a c H s) (d:Gl X x) (e:X.mg x=none) (f:bootBuiltins x=some u) (h:Q u s)
  (g:x ≠ "__name__" := by decide) (i:(x == ("__debug__" : Str))=false:=by decide):wpAny (model X.prog X.w) X.A (eval (.Name x b) X.env) Q E s:=by
 let ⟨m,j,k⟩:=I.mod.blt;exact Calls.Name_function_global I.ok.kind d (Calls.loadGlobal_builtin (by rw [I.ok.glob];exact I.mod.glob.keeps I.bk) e (by rw [I.ok.blt];exact j.keeps I.bk) ((k x g).trans f) h) i
def IX {x:Str} {v:V} {u:Value} {a:Pos} (b:Gl X x) (c:X.mg x=some u) (r:RelV v u) (d:(x == ("__debug__" : Str))=false:=by decide):PE X (.Name x a) (tC v):=
 λ_ _ _ H _ I h=>J7 I b c ⟨v,H,I,r,h⟩ d
def UQ {x:Str} {v:V} {u:Value} {a:Pos} (b:Gl X x) (c:X.mg x=none) (d:bootBuiltins x=some u) (r:RelV v u) (e:x ≠ "__name__" := by decide) (f:(x == ("__debug__" : Str))=false:=by decide):PE X (.Name x a) (tC v):=
 λ_ _ _ H _ I h=>Dg I b c d ⟨v,H,I,r,h⟩ e f
variable {a b:Expr} {ta tb:TE} {pos:Pos}
def tB (t:TE):TT:=λd H Q=>t d H λx e=>∃ c,x=.bl c/\Q c e
def HQ {e:Expr} {t:TE} (h:PE X e t) (g:∀ c,isTrue e X.env c=(do let v <-c;standAt e.pos;holding [v] (truthy v)):=by intro _;rfl):PT X e (tB t):=by
 intro f s i H Q I j;refine isTrue_plain (H_ (h f s i H _ I j) λv p ⟨x,k,m,n,o⟩=>?_) (g _);let ⟨d,rfl,q⟩:=o;cases n;exact wpAny_truthy_bool ⟨k,m,q⟩
variable {tA tB':TT} {rest:cQ}
def EE (t u:TT):TT:=λd H Q=>t d H λc e=>if c=true then u d e Q else Q false e
def aG (t u:TT):TT:=λd H Q=>t d H λc e=>if c=true then Q true e else u d e Q
def Ga (t:TT):TT:=λd H Q=>t d H λc e=>Q (!c) e
theorem Fx (f:PT X a tA):PW X (.BoolOp .And [a] pos) tA:=by
 intro i d s g H Q I h;refine isTrue_and (H_ (f d s g H Q I h) λc j e=>?_);cases c with
 | true=>exact isTrue_and_nil e
 | false=>exact e
theorem Mr (f:PT X a tA):PW X (.BoolOp .Or [a] pos) tA:=by
 intro i d s g H Q I h;refine isTrue_or (H_ (f d s g H Q I h) λc j e=>?_);cases c with
 | false=>exact isTrue_or_nil e
 | true=>exact e
theorem FR (j:PT X a tA) (k:PW X (.BoolOp .And (b::rest) pos) tB'):PW X (.BoolOp .And (a::b::rest) pos) (EE tA tB'):=by
 intro m d s e H Q I h;refine isTrue_and (H_ (j d s e H _ I h) λc n ⟨f,g,i⟩=>?_);cases c with
 | true=>exact k m d n e f Q g i
 | false=>exact ⟨f,g,i⟩
theorem IY (j:PT X a tA) (k:PW X (.BoolOp .Or (b::rest) pos) tB'):PW X (.BoolOp .Or (a::b::rest) pos) (aG tA tB'):=by
 intro m d s e H Q I h;refine isTrue_or (H_ (j d s e H _ I h) λc n ⟨f,g,i⟩=>?_);cases c with
 | true=>exact ⟨f,g,i⟩
 | false=>exact k m d n e f Q g i
def HR (e:PT X a tA):PT X (.UnaryOp .Not a pos) (Ga tA):=by
 intro d s f H Q I h;exact isTrue_not (e d s f H (λc g=>Q (!c) g) I h)
def J8 (ta tb:TE):TE:=λd H Q=>ta d H λx e=>∃ c,x=.bl c/\if c=true then tb d e Q else Q (.bl false) e
def UR {op} {t:TE} (h:PE X a t):PE X (.BoolOp op [a] pos) t:=λc s d H Q I e=>BoolOp_one (h c s d H Q I e)
theorem US (j:PE X a ta) (k:PE X (.BoolOp .And (b::rest) pos) tb):PE X (.BoolOp .And (a::b::rest) pos) (J8 ta tb):=by
 intro d s f H Q I h;refine BoolOp_and (H_ (j d s f H _ I h) λv m ⟨x,g,i,n,e⟩=>?_);let ⟨c,rfl,e⟩:=e;cases n;refine wpAny_truthy_bool ?_;cases c with
 | true=>exact k d m f g Q i e
 | false=>exact ⟨.bl false,g,i,rfl,e⟩
def ak (t:TT) (ta tb:TE):TE:=λd H Q=>t d H λc e=>if c=true then ta d e Q else tb d e Q
theorem Fy {c:Expr} (m:PT X c tA) (n:PE X a ta) (o:PE X b tb):PE X (.IfExp c a b pos) (ak tA ta tb):=by
 intro e s f H Q I h;refine wpAny_IfExp (H_ (m e s f H _ I h) λd g ⟨i,j,k⟩=>?_);cases d with
 | true=>exact n e g f i Q j k
 | false=>exact o e g f i Q j k
end
def SqL (K:W.Frag) (H:Hp) (a:Addr) (xs:cJ):Prop:=
 Rd H a (.lst xs)\/
  ∃ (o:Obj) (b:Array Value) (n:Nat),K.lookup a=some o/\o.cls=.type "list" /\ o.dict=none/\o.data=.seq b n/\b.size<=sizeLine/\Vals xs b.toList
def SqT (K:W.Frag) (H:Hp) (a:Addr) (xs:cJ):Prop:=
 Rd H a (.tup xs)\/
  ∃ (o:Obj) (b:Array Value) (n:Nat),K.lookup a=some o/\o.cls=.type "tuple" /\ o.data=.seq b n/\b.size<=sizeLine/\Vals xs b.toList
noncomputable def UT:Value->cK
 | .none=>some .non
 | .bool b=>some (.bl b)
 | .int i _=>some (.int i)
 | .str x _=>some (.str x)
 | .bytes b _=>some (.byt b)
 | .float b _=>some (.flt b)
 | .ref a=>↥a
 | .type n=>some (.ty n)
 | _=>none
theorem RelV.abs {x:V} {u:Value} (r:RelV x u):UT u=some x:=by
 cases x with
 | non=>cases r;rfl
 | bl _=>cases r;rfl
 | int _=>let ⟨t,rfl⟩:=r;rfl
 | str _=>let ⟨t,rfl⟩:=r;rfl
 | byt _=>let ⟨t,rfl⟩:=r;rfl
 | flt _=>let ⟨t,rfl⟩:=r;rfl
 | ref _=>cases r;rfl
 | ty _=>cases r;rfl
def RelV.inj {x y:V} {u:Value} (r:RelV x u) (q:RelV y u):x=y:=pL (r.abs.symm.trans q.abs)
theorem Vals.inj:∀ {xs ys:cJ} {a:cM},Vals xs a->Vals ys a->xs=ys
 | _,_,_,.nil,.nil=>rfl
 | _,_,_,.cons r t,.cons b c=>by rw [r.inj b,Vals.inj t c]
section
variable {X:Cx} {pins:cO} {σ:St} {H:Hp} {s:Shared} {a:Addr} {xs ys:cJ}
def SqL.of {K:W.Frag} (h:H a=some (.lst xs)):SqL K H a xs:=.inl (.inl h)
def SqT.of {K:W.Frag} (h:H a=some (.tup xs)):SqT K H a xs:=.inl (.inl h)
def Inv.list (I:Inv X pins σ H s) (h:SqL X.K H a xs):∃ b:cM,Vals xs b/\PlainL s.heap a b.toArray/\↑xs<=sizeLine:=by
 rcases h with h | ⟨o,b,n,hk,c,d,f,g,r⟩
 ·let ⟨z,b,n,r,e⟩:=h.ok I.hok;exact ⟨b,r,⟨_,n,e,rfl,rfl,rfl⟩,z⟩
 ·refine ⟨b.toList,r,⟨o,n,I.kIn a o hk,c,d,by simpa using f⟩,?_⟩;let e:=↑r;simp only [Array.length_toList] at e;omega
def Inv.tuple (I:Inv X pins σ H s) (h:SqT X.K H a xs):∃ b:cM,Vals xs b/\IsTup s.heap a b.toArray/\↑xs<=sizeLine:=by
 rcases h with h | ⟨o,b,n,hk,c,d,f,r⟩
 ·let ⟨z,b,r,p⟩:=h.ok I.hok;exact ⟨b,r,p,z⟩
 ·refine ⟨b.toList,r,⟨o,I.kIn a o hk,c,n,by simpa using d⟩,?_⟩;let e:=↑r;simp only [Array.length_toList] at e;omega
def Inv.list_inj (I:Inv X pins σ H s) (h:SqL X.K H a xs) (h':SqL X.K H a ys):xs=ys:=by
 let ⟨c,r,⟨o,n,e,_,_,d⟩,_⟩:=I.list h;let ⟨b,i,⟨k,m,f,_,_,g⟩,_⟩:=I.list h';rw [e] at f;cases f;rw [d] at g;injection g with j _;have:c=b:=by simpa using congrArg Array.toList j
 subst this;exact r.inj i
def Inv.tuple_inj (I:Inv X pins σ H s) (h:SqT X.K H a xs) (h':SqT X.K H a ys):xs=ys:=by
 let ⟨c,r,⟨o,e,_,n,d⟩,_⟩:=I.tuple h;let ⟨b,i,⟨k,f,_,m,g⟩,_⟩:=I.tuple h';rw [e] at f;cases f;rw [d] at g;injection g with j _;have:c=b:=by simpa using congrArg Array.toList j
 subst this;exact r.inj i
end
noncomputable abbrev Cx.wish (X:Cx) (E:cN):Cx:={ X with xe:=E }
noncomputable abbrev Cx.nox (X:Cx):Cx:=X.wish λ_ _=>False
def Cx.Ok.wish {X:Cx} (ok:X.Ok) (E:cN):(X.wish E).Ok:=
 ⟨ok.mod,ok.kind,ok.glob,ok.blt,ok.above,ok.inj,ok.has,ok.cab,ok.hd,ok.frames,ok.stk,ok.exf,ok.bs,ok.bsz,ok.noex,ok.exfs,ok.funs,ok.frf,ok.seer,ok.tree,ok.plr⟩
def Cx.Ok.unwish {X:Cx} {E:cN} (ok:(X.wish E).Ok):X.Ok:=
 ⟨ok.mod,ok.kind,ok.glob,ok.blt,ok.above,ok.inj,ok.has,ok.cab,ok.hd,ok.frames,ok.stk,ok.exf,ok.bs,ok.bsz,ok.noex,ok.exfs,ok.funs,ok.frf,ok.seer,ok.tree,ok.plr⟩
section
variable {X:Cx} {pins:cO} {σ:St} {H:Hp} {s:Shared} {E:cN}
def Inv.wish (I:Inv X pins σ H s) (E:cN):Inv (X.wish E) pins σ H s:=⟨I.ok.wish E,I.os,I.bare,I.base,I.loc,I.cell,I.free,I.freeC,I.pin,I.hok,I.len⟩
def Inv.unwish (I:Inv (X.wish E) pins σ H s):Inv X pins σ H s:=⟨I.ok.unwish,I.os,I.bare,I.base,I.loc,I.cell,I.free,I.freeC,I.pin,I.hok,I.len⟩
theorem SP.unwish {D:Ends} {f:Flow} {s':Shared} (h:SP (X.wish E) pins D f s'):SP X pins D f s':=by
 cases f with
 | next=>let ⟨a,b,I,q⟩:=h;exact ⟨a,b,I.unwish,q⟩
 | brk=>let ⟨a,b,I,q⟩:=h;exact ⟨a,b,I.unwish,q⟩
 | cont=>let ⟨a,b,I,q⟩:=h;exact ⟨a,b,I.unwish,q⟩
 | ret u=>let ⟨v,a,b,I,r,q⟩:=h;exact ⟨v,a,b,I.unwish,r,q⟩
def PSs.nox {st:List Stmt} {t:TS} (h:PSs X.nox st t):PSs X st t:=λpins s σ H D I a=>
 pK (h pins s σ H D (I.wish _) a) (λ_ _ q=>q.unwish) λ_ _ z=>False.elim z
end
section
variable {X:Cx} {st:Stmt} {rest:List Stmt} {t u:TS} {e:Expr} {te:TE} {pos:Pos}
def Bi:TS:=λD a H=>D.nx a H
def AH (t u:TS):TS:=λD a H=>t { D with nx:=u D } a H
def Bv:PSs X [] Bi:=λ_ _ a H _ I h=>wpAny_execs_nil ⟨a,H,I,h⟩
theorem AL (c:PS X st t) (d:PSs X rest u):PSs X (st::rest) (AH t u):=by
 intro a s g H D I h;refine wpAny_execs_cons (H_ (c a s g H { D with nx:=u D } I h) λf i q=>?_);cases f with
 | next=>
   let ⟨b,j,k,q⟩:=q;exact d a i b j D k q
 | ret v=>exact q
 | brk=>exact q
 | cont=>exact q
theorem AS (b:PS X st t):PSs X [st] t:=by
 intro a s c H D I h;refine wpAny_execs_cons (H_ (b a s c H D I h) λf d q=>?_);cases f with
 | next=>exact wpAny_execs_nil q
 | ret v=>exact q
 | brk=>exact q
 | cont=>exact q
def Inv.quiet {a:cO} {b:St} {H:Hp} {s:Shared} (I:Inv X a b H s):interactive X.env=false:=by simp [interactive,I.ok.kind]
def EF (te:TE):TS:=λD a H=>te a H λ_ b=>D.nx a b
def FS (c:PE X e te) (d:swapsWith e none pos.line X.env=pure false:=by rfl):PS X (.Expr e pos) (EF te):=by
 intro a s b H D I h;exact wpAny_Expr_any (H_ (c a s b H _ I h) λv j ⟨x,f,g,k,i⟩=>⟨b,f,g,i⟩) I.quiet d
def Ad (te:TE):TS:=λD a H=>te a H D.rt
def Af (c:PE X e te):PS X (.Return (some e) pos) (Ad te):=by
 intro a s b H D I h;exact wpAny_Return_some (H_ (c a s b H _ I h) λv j ⟨x,d,f,g,i⟩=>⟨x,b,d,f,g,i⟩)
def BV (c:TT) (t u:TS):TS:=λD a H=>c a H λb d=>if b=true then t D a d else u D a d
theorem Bp {c:Expr} {a b:List Stmt} {tc:TT} (n:PT X c tc) (o:PSs X a t) (p:PSs X b u):PS X (.If c a b pos) (BV tc t u):=by
 intro f s g H D I h;refine wpAny_If (H_ (n f s g H _ I h) λd i ⟨j,k,m⟩=>?_);cases d with
 | true=>exact o f i g j D k m
 | false=>exact p f i g j D k m
end
noncomputable abbrev TG:=V->St->Hp->(St->Hp->Prop)->Prop
noncomputable abbrev aH:=cJ->St->Hp->(St->Hp->Prop)->Prop
def PG (X:Cx) (a:Expr) (t:TG):Prop:=
 ∀ (b:cO) (s:Shared) (d:St) (H:Hp) (v:V) (u:Value) (Q:St->Hp->Prop),Inv X b d H s->RelV v u->t v d H Q->
   wpAny (model X.prog X.w) X.A (assign a X.env u) (λ_ f=>∃ c e,Inv X b c e f/\Q c e) X.xe s
def br (X:Cx) (g:cQ) (t:aH):Prop:=
 ∀ (a:cO) (s:Shared) (c:St) (H:Hp) (d:cJ) (e:cM) (Q:St->Hp->Prop),Inv X a c H s->Vals d e->t d c H Q->
   wpAny (model X.prog X.w) X.A (assignInOrder ((assignEach g X.env).map (·.2)) e) (λ_ h=>∃ b f,Inv X a b f h/\Q b f) X.xe s
noncomputable abbrev au:=V->V->V->Hp->(Hp->Prop)->Prop
def aP (X:Cx) (t:au):Prop:=
 ∀ (a:cO) (s:Shared) (b:St) (H:Hp) (o i v:V) (c d u:Value) (Q:Hp->Prop),Inv X a b H s->RelV o c->RelV i d->RelV v u->t o i v H Q->
   wpAny (model X.prog X.w) X.A (setItem c d u) (λ_ f=>∃ e,Inv X a b e f/\Q e) X.xe s
noncomputable abbrev bu:=V->V->Hp->VK->Prop
def PIp (X:Cx) (c:Operator) (t:bu):Prop:=
 ∀ (a:cO) (s:Shared) (b:St) (H:Hp) (x y:V) (v u:Value) (Q:VK),Inv X a b H s->RelV x v->RelV y u->t x y H Q->
   wpAny (model X.prog X.w) X.A (inplaceOp c v u) (EP X a b Q) X.xe s
section
variable {X:Cx} {pos:Pos}
def AF (i:Nat):TG:=λv a H Q=>Q (a.set i (some v)) H
def Aa {i:Nat} {x:Str} (b:X.N.Nodup) (c:X.N[i]?=some x) (d:aF X.env.scope x) (e:X.fn x=true\/X.env.scope.names.lookup x=some .local:=by first | exact .inl rfl | exact .inr rfl | assumption):PG X (.Name x pos) (AF i):=by
 intro a s g H v u Q I r h;exact wpAny_assign_Name (HN I b c d r (λj f=>⟨_,H,f,h⟩) e)
noncomputable def CY:aH:=λa b H Q=>a=[]/\Q b H
noncomputable def A8 (t:TG) (u:aH):aH:=λb c H Q=>∃ v r,b=v::r/\t v c H λa d=>u r a d Q
def Cq:br X [] CY:=by
 intro a s b H c d Q I r h;let ⟨e,h⟩:=h;subst e;cases r;exact assignInOrder_nil ⟨b,H,I,h⟩
theorem BE {e:Expr} {b:cQ} {t:TG} {u:aH} (d:PG X e t) (f:br X b u)
  (g:(assignEach (e::b) X.env).map (·.2)=assign e X.env::(assignEach b X.env).map (·.2):=by rfl):br X (e::b) (A8 t u):=by
 intro a s i H q w Q I r h;let ⟨v,vr,j,h⟩:=h;subst j;cases r with
 | cons r k=>
   rw [g];refine assignInOrder_cons (H_ (d a s i H _ _ _ I r h) λ_ m ⟨c,n,o,p⟩=>?_);exact f a m c n _ _ Q o k p
def UU (K:W.Frag) (n:Nat) (t:aH):TG:=λv c H Q=>∃ a b,v=.ref a/\SqT K H a b/\↑b=n/\t b c H Q
def UV {d:cQ} {k:Nat} {t:aH} {n:Nat} (p:X.calm=true) (h:br X d t)
  (q:(assignEach d X.env).length=n:=by rfl) (f:(assignEach d X.env).findIdx? (·.1)=none:=by rfl):PG X (.Tuple d k pos) (UU X.K n t):=by
 intro c s i H v u Q I r g;let ⟨a,w,x,y,z,g⟩:=g;subst x;cases r;let ⟨A,j,B,F⟩:=I.tuple y;refine assign_Tuple_tuple (I.ok.hd p) B (by simp [q,<-z,j.length]) f λC D=>?_;let E:Inv X c i H { s with heap:=C }:=I.kept (t':=s.toks) λb o e=>D b o (BG (pM e)) e;exact h c _ i H w _ Q E (by simpa using j) g
def Cj (b c:TE) (t:au):TG:=λv a H Q=>b a H λo d=>c a d λi e=>t o i v e λf=>Q a f
def DL {o i:Expr} {e f:TE} {t:au} (g:PE X o e) (j:PE X i f) (k:aP X t)
  (m:∀ v,assign (.Subscript o i pos) X.env v=(do
   let b <-holding [v] (eval o X.env);let c <-holding [v,b] (eval i X.env)
   standAt pos
   holding [v,b,c] (setItem b c v)
   release [v,b,c] []):=by intro _;rfl):PG X (.Subscript o i pos) (Cj e f t):=by
 intro a s d H v u Q I r h;rw [m];refine pI (wpAny_holding (H_ (g a s d H _ I h) λb n ⟨x,p,q,w,z⟩=>?_));refine pI (wpAny_holding (H_ (j a n d p _ q z) λc A ⟨y,B,C,D,E⟩=>?_));refine pI (wpAny_standAt (pI (wpAny_holding (H_ (k a A d B x y v b c u _ C w D r E) λ_ K ⟨F,G,J⟩=>?_))));exact wpAny_release ⟨d,F,G,J⟩
def AO (b:TE) (g:TG):TS:=λD a H=>b a H λx c=>g x a c D.nx
def C8 {b e:Expr} {c:TE} {g:TG} (f:PE X e c) (i:PG X b g) (j:swapsWithSole [b] e pos.line X.env=pure false:=by rfl) (k:swappedStores [b] e X.env=pure none:=by rfl)
  (m:(assignEach [b] X.env).map (·.2)=[assign b X.env]:=by rfl):PS X (.Assign [b] e pos) (AO c g):=by
 intro a s d H D I h;refine wpAny_Assign_stores (H_ (f a s d H _ I h) λv n ⟨x,o,p,r,u⟩=>?_) j k;rw [m];exact H_ (i a n d o x v _ p r u) λ_ w q=>q
def DM {i:Nat} {x:Str} {e:Expr} {c:TE} {a:Pos} (d:X.N.Nodup) (f:X.N[i]?=some x) (g:aF X.env.scope x) (j:PE X e c) (k:swapsWith e (some (.Name x a)) pos.line X.env=pure false:=by rfl) (m:X.fn x=true\/X.env.scope.names.lookup x=some .local:=by first | exact .inl rfl | exact .inr rfl | assumption) :
  PS X (.Assign [.Name x a] e pos) (AO c (AF i)):=by
 intro b s n H D I h;refine wpAny_Assign_Name (H_ (j b s n H _ I h) λv w ⟨y,o,p,q,r⟩=>?_) k;exact HN p d f g q (λz u=>⟨_,o,u,r⟩) m
def J9 (i j:Nat) (b:TA):TS:=λD a H=>b a H λc d=>∃ v w,c=[v,w]/\D.nx ((a.set i (some v)).set j (some w)) d
def Ms {i j:Nat} {x y:Str} {a b:Expr} {B:TA} {m n r:Pos} {kt k2 pt2} (N:X.calm=true) (C:X.N.Nodup) (O:X.N[i]?=some x) (P:X.N[j]?=some y) (u:i≠j)
  (E:X.env.scope.names.lookup x=some .local) (F:X.env.scope.names.lookup y=some .local) (Q:PA X [a,b] B)
  (R:swappedStores [.Tuple [.Name x m,.Name y n] kt r] (.Tuple [a,b] k2 pt2) X.env=pure (some [x,y]))
  (S:swapsWithSole [.Tuple [.Name x m,.Name y n] kt r] (.Tuple [a,b] k2 pt2) pos.line X.env=pure false:=by rfl) :
  PS X (.Assign [.Tuple [.Name x m,.Name y n] kt r] (.Tuple [a,b] k2 pt2) pos) (J9 i j B):=by
 intro d s G H D I h;rw [exec_Assign_arm];refine pI (wpAny_standAt ?_);rw [S];refine pI (pJ ?_);rw [qZ ∅];refine pI (Tuple_ (H_ (Q _ d s G H _ I h) λT f ⟨vs,J,U,W,z⟩=>?_));let ⟨v,w,Y,z⟩:=z;subst Y
 let ⟨g,k,rfl,Z,rw'⟩:∃ g k,T=[g,k]/\RelV v g/\RelV w k:=by
  cases W with
  | cons p q=>
    cases q with
    | cons p' q'=>
      cases q';exact ⟨_,_,rfl,p,p'⟩
 refine wpAny_newObj_type ?_ (by show 2<=sizeLine;decide);let I2:Inv X d G J { f with heap:=f.heap.push { cls:=.type "tuple", data:=.seq [g,k].toArray } }:=U.kept (t':=f.toks) λb o e=>Heap.get?_push_of_some _ e;rw [R];refine pI (pJ ?_);show wpAny (model X.prog X.w) X.A (do rule "assign.swapped-stores"; let c <-unpackItems (.ref ⇑f) 2 none;assignInOrder [λv=>bindName X.env y v,λv=>bindName X.env x v] c.reverse;pure Flow.next) _ _ _;refine pI (wpAny_rule (pI (unpackItems_tuple (items:=#[g,k]) (I.ok.hd N) (IsTup.new f.heap _) λh' A=>?_)));let I3:=I2.kept (h':=h') (t':=f.toks) λb o e=>A b o (BG (pM e)) e;show wpAny _ _ (assignInOrder [λv=>bindName X.env y v,λv=>bindName X.env x v] [k,g] >>= λ_=>pure Flow.next) _ _ _;refine pI (assignInOrder_cons (wpAny_bindName (HN I3 C P (.inl F) rw' (λs2 I4=>?_) (.inr F))));refine assignInOrder_cons (wpAny_bindName (HN I4 C O (.inl E) Z (λs3 M=>assignInOrder_nil (pJ ?_)) (.inr E)));rw [List.set_comm _ _ (Ne.symm u)] at M;exact ⟨_,J,M,z⟩
def Dh (i:Nat) (b:TE) (c:bu):TS:=λD a H=>∃ x,a[i]?=some (some x)/\b a H λy d=>c x y d λz e=>D.nx (a.set i (some z)) e
def EW {i:Nat} {x:Str} {e:Expr} {p:TE} {j:Operator} {q:bu} {d:Pos} (E:X.N.Nodup) (A:X.N[i]?=some x) (n:aF X.env.scope x) (F:PE X e p) (G:PIp X j q) (J:X.fn x=true\/X.env.scope.names.lookup x=some .local:=by first | exact .inl rfl | exact .inr rfl | assumption) :
  PS X (.AugAssign (.Name x d) j e pos) (Dh i p q):=by
 intro a s B H D I h;let ⟨v,K,h⟩:=h;let ⟨m,L,M⟩:=I.loc;let o:bj X.env.scope x:=by rcases n with k | k;exact .inl k;exact .inr (.inl k)
 let ⟨u,r,l⟩:=M i x v A K o;refine wpAny_AugAssign_Name ?_
 let C:wpAny (model X.prog X.w) X.A (eval e X.env) (λw f=>wpAny (model X.prog X.w) X.A (inplaceOp j u w) (λr g=>wpAny (model X.prog X.w) X.A (storeName X.env x r) (λ_=>SP X a D .next) X.xe g) X.xe f) X.xe s:=by
  refine H_ (F a s B H _ I h) λw N ⟨y,O,P,Q,R⟩=>?_;refine H_ (G a N B O v y u w _ P r Q R) λz s2 ⟨zv,S,T,U,W⟩=>?_;exact HN T E A n U (λs3 Y=>⟨_,S,Y,W⟩) J
 rcases l with ⟨hk,Z⟩ | ⟨hk,c,hc,b⟩
 ·exact wpAny_loadName_local I.ok.kind hk L Z C
 ·rcases hk with hk | hk
  ·exact wpAny_loadName_cell I.ok.kind hk hc b C
  ·rcases n with k | k
   ·have:X.env.scope.names.lookup x=some .free:=hk;rw [k] at this;cases this
   ·have:X.env.scope.names.lookup x=some .free:=hk;rw [k] at this;cases this
def IZ (e f g:TE) (a:V->V->Hp->VK->Prop) (d:bu) (b:au):TS:=λD c H=>e c H λo h=>f c h λi j=>a o i j λx k=>g c k λy m=>d x y m λz n=>b o i z n λp=>D.nx c p
def bv (X:Cx) (t:V->V->Hp->VK->Prop):Prop:=
 ∀ (a:cO) (s:Shared) (b:St) (H:Hp) (o i:V) (c d:Value) (Q:VK),Inv X a b H s->RelV o c->RelV i d->t o i H Q->
   wpAny (model X.prog X.w) X.A (getItem c d) (EP X a b Q) X.xe s
def KA {o i e:Expr} {p q r:TE} {c:V->V->Hp->VK->Prop} {k:bu} {d:au} {u:Operator} {m:Pos} (A:PE X o p) (B:PE X i q) (C:bv X c) (E:PE X e r) (hp:PIp X u k) (F:aP X d)
  (G:∀ f g b,augStore i f g b=(do holding [b,f,g] (setItem f g b);release [b,f,g] [];pure .next):=by intros;rfl):PS X (.AugAssign (.Subscript o i m) u e pos) (IZ p q r c k d):=by
 intro a s j H D I h;refine wpAny_AugAssign_SubscriptAny (H_ (A a s j H _ I h) λf J ⟨w,K,L,x,M⟩=>?_) G;refine H_ (B a J j K _ L M) λg N ⟨y,O,P,z,Q⟩=>?_;refine H_ (C a N j O w y f g _ P x z Q) λn R ⟨S,T,U,W,Y⟩=>?_;refine H_ (E a R j T _ U Y) λv Z ⟨x4,H4,I4,r4,q4⟩=>?_;refine H_ (hp a Z j H4 S x4 n v _ I4 W r4 q4) λb s5 ⟨x5,H5,I5,r5,q5⟩=>?_;exact H_ (F a s5 j H5 w y x5 f g b _ I5 x z r5 q5) λ_ s6 ⟨H6,I6,q6⟩=>⟨j,H6,I6,q6⟩
end
section
variable {X:Cx} {pos:Pos}
def Cr (c:TT) (h:TS):TS:=λD a H=>∃ W:Nat->St->Hp->Prop,(∃ m,W m a H)/\∀ m a H,W m a H->
 c a H λb e=>if b=true then ∃ N:St->Hp->Prop,(∀ d f,N d f->∃ g,g<m/\W g d f)/\h { D with nx:=N,ct:=N,bk:=D.nx } a e else D.nx a e
theorem C9 {c:Expr} {g:List Stmt} {tc:TT} {x:TS} (hp:PassesOwn (model X.prog X.w) X.A X.env X.xe) (E:PT X c tc) (F:PSs X g x):PS X (.While c g [] pos) (Cr tc x):=by
 intro a s G H D I h;let ⟨W,⟨J,K⟩,i⟩:=h;refine wpAny_While (codeAny_whileLoop (λn L=>∃ j y,Inv X a j y L/\W n j y) ?_ J ⟨G,H,I,K⟩);rintro n M ⟨e,z,O,P⟩;refine wpAny_passesOwn hp (H_ (E a M e z _ O (i n e z P)) λb Q ⟨A,B,m⟩=>?_);cases b with
 | true=>
   let ⟨N,C,m⟩:=m;rw [pB rfl];refine wpAny_passesOwn hp (H_ (F a Q e A _ B m) λf R o=>?_);cases f with
   | next=>
     let ⟨d,k,p,q⟩:=o;let ⟨r,u,w⟩:=C d k q;exact ⟨r,u,d,k,p,w⟩
   | cont=>
     let ⟨d,k,p,q⟩:=o;let ⟨r,u,w⟩:=C d k q;exact ⟨r,u,d,k,p,w⟩
   | brk=>exact o
   | ret v=>exact o
 | false=>
   rw [qZ Cf];exact wpAny_execs_nil ⟨e,A,B,m⟩
end
structure It where
 go:Nat->Hp->Prop
 yld:Nat->Hp->V->Hp->Prop
 stop:Nat->Hp->Prop
def DZ (X:Cx) (a:cO) (H:Hp) (b:Addr):Prop:=
 H b=none/\b≠X.env.locals/\b∉X.fs/\(b∈X.ex\/X.s₀.heap.objs.size<=b)/\(∀ x c,X.env.cells.lookup x=some c->c≠b)/\∀ p∈X.pn++a,p.1≠b
def Inv.fpOk {X:Cx} {a:cO} {g:St} {H f:Hp} {s:Shared} {b:Addr} (I:Inv X a g H s) (d:⇑s<=b) (h:f b=none):DZ X a f b:=by
 refine ⟨h,Nat.ne_of_gt (B2 I.lt d),I.nofs d,.inr (BM I.sz d),λx c e z=>?_,λp hp z=>?_⟩
 ·let ⟨v,q⟩:=I.cell x c e;exact absurd (B2 q.lt (by rw [z];exact d)) (C5 _)
 ·exact absurd (B2 (pM (I.pin p hp).1) (by rw [z];exact d)) (C5 _)
structure Turn (P:Program) (w:World) (K:W.Frag) (tg:Expr) (J:It) (fp:cV) (it:Addr) (tn:Nat->Heap->Prop):Prop where
 mem:it∈fp
 obj:∀ i h,tn i h->∀ b∈fp,∃ o,h.get? b=some o/\∀ v,o.data≠.cell v
 keep:∀ i h h',tn i h->(∀ b∈fp,∀ o,h.get? b=some o->h'.get? b=some o)->tn i h'
 item:∀ (X:Cx),X.prog=P->X.w=w->X.K=K->X.calm=true->∀ (i:Nat) (pins:cO) (s:Shared) (σ:St) (H:Hp) (E:cN),Inv X pins σ H s->(∀ b∈fp,DZ X pins H b)->tn i s.heap->J.go i H->
  wpAny (model P w) X.A (pyNext (.ref it)) (λr s1=>∃ u,r=some u/\
   wpAny (model P w) X.A (letOwnedTupleGo tg (.ref it) u) (λ_ s2=>∃ x H',Inv X pins σ H' s2/\RelV x u/\J.yld i H x H'/\tn (i+1) s2.heap/\∀ b∈fp,H' b=none) E s1) E s
 done:∀ (X:Cx),X.prog=P->X.w=w->X.K=K->X.calm=true->∀ (i:Nat) (pins:cO) (s:Shared) (σ:St) (H:Hp) (E:cN),Inv X pins σ H s->(∀ b∈fp,DZ X pins H b)->tn i s.heap->J.stop i H->
  wpAny (model P w) X.A (pyNext (.ref it)) (λr s1=>r=none/\Inv X pins σ H s1) E s
 self:∀ (A:Around) (i:Nat) (s:Shared) (Q:cN) (E:cN),tn i s.heap->Q (.ref it) s->wpAny (model P w) A (pyIter (.ref it)) Q E s
noncomputable abbrev TI:=St->Hp->(It->Hp->Prop)->Prop
def PIE (X:Cx) (a:cO) (i:St) (j:Expr) (R:It->Hp->Prop) (c:Value) (e:Shared):Prop:=
 ∃ (f:Addr) (g:cV) (h:Nat->Heap->Prop) (J:It) (d:Hp),c=.ref f/\Inv X a i d e/\Turn X.prog X.w X.K j J g f h/\h 0 e.heap/\(∀ b∈g,DZ X a d b)/\R J d
def PI (X:Cx) (d b:Expr) (e:TI):Prop:=
 ∀ (a:cO) (s:Shared) (c:St) (H:Hp) (R:It->Hp->Prop),Inv X a c H s->e c H R->
   wpAny (model X.prog X.w) X.A (eval b X.env) (λv f=>wpAny (model X.prog X.w) X.A (pyIter v) (PIE X a c d R) X.xe f) X.xe s
def HS {M:Model} {A:Around} {E:cN} {s:Shared} {b:Expr} {c:Addr} {u:Value} {o:Obj} {n:String} {d:Array Value} {Q:Unit->Shared->Prop} (e:s.heap.get? c=some o) (f:o.cls=.type n) (g:o.data=.fields d)
  (i:["enumerate","zip","dict_itemiterator","dict_reverseitemiterator","odict_iterator","itertools.zip_longest","itertools.pairwise"].contains n=false) (a:Q Unit.unit s):wpAny M A (letOwnedTupleGo b (.ref c) u) Q E s:=by
 unfold letOwnedTupleGo
 cases b <;> first
  | exact pJ a
  | (cases u <;> first
    | exact pJ a
    | (refine pI (wpAny_load e ?_)
       rw [f,g];show wpAny M A (if (["enumerate","zip","dict_itemiterator","dict_reverseitemiterator","odict_iterator","itertools.zip_longest","itertools.pairwise"].contains n && d[0]? == some (rawInt _))=true then _ else _) Q E s;rw [qZ (by intro h;rw [i,Bool.false_and] at h;cases h)];exact pJ a))
noncomputable def aa (K:W.Frag) (a:Addr):It:=
 ⟨λi H=>∃ b x,SqL K H a b/\b[i]?=some x,λi H x c=>c=H/\∀ b,SqL K H a b->b[i]?=some x,λi H=>∃ b,SqL K H a b/\↑b<=i⟩
noncomputable def aI (K:W.Frag) (a:Addr):It:=
 ⟨λi H=>∃ b x,SqT K H a b/\b[i]?=some x,λi H x c=>c=H/\∀ b,SqT K H a b->b[i]?=some x,λi H=>∃ b,SqT K H a b/\↑b<=i⟩
noncomputable def Z_ (lo:Int) (n:Nat):It:=⟨λi _=>i<n,λi H x a=>a=H/\x=.int (lo+i),λi _=>n<=i⟩
def Mt {P:Program} {w:World} {K:W.Frag} {U:Expr} (a j:Addr):Turn P w K U (aa K a) [j] j (λi h=>h.IsListIter j a i) where
 mem:=by simp
 obj:=λi h f b m=>by
  let e:b=j:=by simpa using m
  subst e
  let ⟨o,e,c,d⟩:=f
  exact ⟨o,e,λv z=>by rw [d] at z;cases z⟩
 keep:=λi h r f k=>f.at λo e=>k j (by simp) o e
 item:=by
  intro X B C D S i g s T H E I y f F
  subst B C D
  let ⟨Y,x,A,G⟩:=F
  let ⟨J,L,p,Z⟩:=I.list A
  let ⟨u,hu,ru⟩:=L.get G
  let ⟨M,N,f2,O,Q,R⟩:=y j (by simp)
  refine wpAny_pyNext_list_item f p.isList (x:=u) (by simpa using hu) λr n sb=>?_
  let I1:Inv X g T H { s with heap:=r }:=I.turned (t':=s.toks) (λb o m e=>(sb.2 b m).trans e) M N O Q R
  let ⟨o,e,c,d⟩:=id n
  exact ⟨u,rfl,HS (s:={ s with heap:=r }) e c d ∅ ⟨x,H,I1,ru,⟨rfl,λys hy=>by rw [I.list_inj hy A];exact G⟩,n,λb m=>(y b m).1⟩⟩
 done:=by
  intro X B C D S i g s T H E I y f F
  subst B C D
  let ⟨Y,A,G⟩:=F
  let ⟨J,L,p,Z⟩:=I.list A
  let ⟨M,N,f2,O,Q,R⟩:=y j (by simp)
  let hl:=↑L
  exact wpAny_pyNext_list_end (I.ok.hd S) f p.isList (by simp;omega) λr eb=>⟨rfl,I.turned (t':=s.toks) (λb o m e=>eb b o m e) M N O Q R⟩
 self:=λ_ _ _ _ _ f h=>wpAny_pyIter_listiter f h
def UW {P:Program} {w:World} {K:W.Frag} {U:Expr} (a j:Addr):Turn P w K U (aI K a) [j] j (λi h=>h.IsTupleIter j a i) where
 mem:=by simp
 obj:=λi h f b m=>by
  let e:b=j:=by simpa using m
  subst e
  let ⟨o,e,c,d⟩:=f
  exact ⟨o,e,λv z=>by rw [d] at z;cases z⟩
 keep:=λi h y f k=>f.at λo e=>k j (by simp) o e
 item:=by
  intro X C D F S i g s T H E I A f G
  subst C D F
  let ⟨Y,x,B,J⟩:=G
  let ⟨n,L,p,Z⟩:=I.tuple B
  let ⟨u,hu,ru⟩:=L.get J
  let ⟨M,N,f2,O,Q,R⟩:=A j (by simp)
  refine wpAny_pyNext_tuple_item f (show s.heap.IsTuple a n.toArray from p) (x:=u) (by simpa using hu) λy q sb=>?_
  let I1:Inv X g T H { s with heap:=y }:=I.turned (t':=s.toks) (λb o m e=>(sb.2 b m).trans e) M N O Q R
  let ⟨o,e,c,d⟩:=id q
  exact ⟨u,rfl,HS (s:={ s with heap:=y }) e c d ∅ ⟨x,H,I1,ru,⟨rfl,λys hy=>by rw [I.tuple_inj hy B];exact J⟩,q,λb m=>(A b m).1⟩⟩
 done:=by
  intro X C D F S i g s T H E I A f G
  subst C D F
  let ⟨Y,B,J⟩:=G
  let ⟨n,L,p,Z⟩:=I.tuple B
  let ⟨M,N,f2,O,Q,R⟩:=A j (by simp)
  let hl:=↑L
  exact wpAny_pyNext_tuple_end (I.ok.hd S) f (show s.heap.IsTuple a n.toArray from p) (by simp;omega) λy eb=>⟨rfl,I.turned (t':=s.toks) (λb o m e=>eb b o m e) M N O Q R⟩
 self:=λ_ _ _ _ _ f h=>wpAny_pyIter_tupleiter f h
def UX {P:Program} {w:World} {K:W.Frag} {M:Expr} (c:Addr) (lo:Int) (n:Nat):Turn P w K M (Z_ lo n) [c] c (λi h=>IsRangeIter h c (lo+(i:Nat)*1) ((n:Int) - (i:Nat)) 1) where
 mem:=by simp
 obj:=λi h a b f=>by
  let e:b=c:=by simpa using f
  subst e
  exact ⟨_,a,λv z=>by
   let N:Data.fields _=Data.cell v:=z
   cases N⟩
 keep:=λi h p a k=>k c (by simp) _ a
 item:=by
  intro X r u x y i d s J H E I q a A
  subst r u x
  let ⟨B,C,O,D,F,G⟩:=q c (by simp)
  let W:=Walks.range (prog:=X.prog) (w:=X.w) (I.ok.hd y) c lo 1 n
  refine W.item i s _ _ A a λv p L Q g R=>?_
  let ⟨t,rfl⟩:=Q
  let S:Inv X d J H { s with heap:=p,toks:=L }:=I.turned (λb o f e=>R b o (by simpa using f) e) B C D F G
  refine ⟨_,rfl,HS (s:={ s with heap:=p,toks:=L }) (n := "range_iterator") g rfl rfl ∅ ⟨.int (lo+i),H,S,⟨t,?_⟩,⟨rfl,rfl⟩,g,λb f=>(q b f).1⟩⟩
  rw [Int.mul_one]
 done:=by
  intro X r u x y i d s J H E I q a A
  subst r u x
  let ⟨B,C,O,D,F,G⟩:=q c (by simp)
  exact wpAny_pyNext_range_end (I.ok.hd y) a (by have:n<=i:=A;omega) λp T=>⟨rfl,I.turned (t':=s.toks) (λb o f e=>T b o f e) B C D F G⟩
 self:=λ_ _ _ _ _ a h=>wpAny_pyIter_rangeiter a h
section
variable {X:Cx} {tg:Expr}
def BL (K:W.Frag) (c:TE):TI:=λd H R=>c d H λx b=>∃ a,x=.ref a/\(∃ e,SqL K b a e)/\R (aa K a) b
def Bq {l:Expr} {g:TE} (i:PE X l g):PI X tg l (BL X.K g):=by
 intro c s j H R I h;refine H_ (i c s j H _ I h) λv d ⟨x,k,f,m,n⟩=>?_;let ⟨a,e,⟨y,r⟩,q⟩:=n;subst e;cases m;let ⟨u,z,p,A⟩:=f.list r;refine wpAny_pyIter_list p.isList ?_;refine ⟨⇑d,[⇑d],_,_,k,rfl,f.kept (t':=d.toks) λb o e=>Heap.get?_push_of_some _ e,Mt a _,⟨_,Heap.get?_push_size _ rfl,rfl,rfl⟩,λb w=>?_,q⟩;let e:b=⇑d:=by simpa using w
 subst e;exact f.fpOk (AV _) (f.hok.fresh (AV _))
def Mu {d:cO} {i:St} {H:Hp} {s:Shared} {R:It->Hp->Prop} {E:cN} {lo c:Int} {t u v:Tok} {tk:Nat} (I:Inv X d i H s) (k:-(2 ^ 62)<=lo) (m:lo<2 ^ 62) (n:-(2 ^ 62)<=c) (p:c<2 ^ 62)
  (q:R (Z_ lo (c - lo).toNat) H):wpAny (model X.prog X.w) X.A (pyIter (.ref ⇑s)) (PIE X d i tg R) E { s with heap:=s.heap.push { cls:=.type "range", data:=.fields #[.int lo t,.int c u,.int 1 v] },toks:=tk }:=by
 refine wpAny_pyIter_range (IsRange.new ..) (small_one k m n p) ?_;let j:Inv X d i H { s with heap:=s.heap.push { cls:=.type "range", data:=.fields #[.int lo t,.int c u,.int 1 v] },toks:=tk }:=I.kept λb o e=>Heap.get?_push_of_some _ e
 refine ⟨(s.heap.push { cls:=.type "range", data:=.fields #[.int lo t,.int c u,.int 1 v] }).objs.size,[(s.heap.push { cls:=.type "range", data:=.fields #[.int lo t,.int c u,.int 1 v] }).objs.size],_,_,H,rfl,
  j.kept (t':=tk) λb o e=>Heap.get?_push_of_some _ e,UX _ lo (c - lo).toNat,?_,λb r=>?_,q⟩
 ·let w:lo+((0:Nat):Int)*1=lo:=by simp
  let x:(((c - lo).toNat:Nat):Int) - ((0:Nat):Int)=Builtin.Range.rangeSize lo c 1:=by rw [rangeSize_one];split <;> omega
  show IsRangeIter _ _ (lo+((0:Nat):Int)*1) ((((c - lo).toNat:Nat):Int) - ((0:Nat):Int)) 1;rw [w,x];exact Heap.get?_push_size _ rfl
 ·let e:b=(s.heap.push { cls:=.type "range", data:=.fields #[.int lo t,.int c u,.int 1 v] }).objs.size:=by simpa using r
  subst e;exact j.fpOk (AV _) (j.hok.fresh (AV _))
def Cs (a:TA):TI:=λb H R=>a b H λc d=>∃ j:Int,c=[.int j]/\-(2 ^ 62)<=j/\j<2 ^ 62/\R (Z_ 0 j.toNat) d
def HU (a:TA):TI:=λb H R=>a b H λc d=>∃ i j:Int,c=[.int i,.int j]/\(-(2 ^ 62)<=i/\i<2 ^ 62/\-(2 ^ 62)<=j/\j<2 ^ 62)/\R (Z_ i (j - i).toNat) d
theorem Di {a:Expr} {f:TA} {p b:Pos} (g:Gl X "range") (i:X.mg "range" = none) (k:PA X [a] f) (m:starEach [a] X.env=[(false,eval a X.env)]:=by rfl):PI X tg (.Call (.Name "range" p) [a] [] b) (Cs f):=by
 intro c s n H R I h;refine Call_ (Dg I g i boot_range (PyProof.Rows.callWith_type1 (H_ (k b c s n H _ I h) λx y ⟨z,A,o,u,d⟩=>?_) m rfl));let ⟨j,e,d,v,q⟩:=d;subst e;cases u with
 | cons r w=>
   cases w;let ⟨t,rfl⟩:=r;exact call_range_1 (Mu o ⋯ ⋯ d v (by simpa using q))
theorem UY {a b:Expr} {m:TA} {p c:Pos} (n:Gl X "range") (o:X.mg "range" = none) (u:PA X [a,b] m) (v:starEach [a,b] X.env=[(false,eval a X.env),(false,eval b X.env)]:=by rfl) (d:starEach [b] X.env=[(false,eval b X.env)]:=by rfl) :
  PI X tg (.Call (.Name "range" p) [a,b] [] c) (HU m):=by
 intro f s w H R I h;refine Call_ (Dg I n o boot_range (PyProof.Rows.callWith_type1 (H_ (u c f s w H _ I h) λD E ⟨F,G,x,y,g⟩=>?_) (by rw [v,d]) (by rw [d];rfl)));let ⟨i,j,e,⟨g,z,A,B⟩,q⟩:=g;subst e;cases y with
 | cons r k=>
   cases k with
   | cons C k=>
     cases k;let ⟨t,rfl⟩:=r;let ⟨J,rfl⟩:=C;exact call_range_2 (Mu x g z A B q)
def Ay (f:TI) (g:TG) (h:TS):TS:=λD a H=>f a H λJ j=>∃ W:Nat->Nat->St->Hp->Prop,(∃ m,W 0 m a j)/\∀ i m a H,W i m a H->
 (J.stop i H/\D.nx a H)\/(J.go i H/\∃ N:St->Hp->Prop,(∀ b c,N b c->∃ e,e<m/\W (i+1) e b c)/\∀ x c,J.yld i H x c->g x a c λd k=>h { D with nx:=N,ct:=N,bk:=D.nx } d k)
noncomputable def Ia (a:cV) (h:Heap):cO:=a.filterMap λb=>(h.get? b).map λo=>(b,o)
def Ib {a:cV} {h:Heap} {b:Addr} {o:Obj} (c:b∈a) (e:h.get? b=some o):(b,o)∈Ia a h:=List.mem_filterMap.mpr ⟨b,c,by rw [e];rfl⟩
theorem UZ {a:cV} {h:Heap} {p:Addr×Obj} (hp:p∈Ia a h):p.1∈a/\h.get? p.1=some p.2:=by
 let ⟨b,c,e⟩:=List.mem_filterMap.mp hp;cases q:h.get? b with
 | none=>rw [q] at e;cases e
 | some o=>
   rw [q] at e;let d:(b,o)=p:=pL e;subst d;exact ⟨c,q⟩
def Inv.pinned {a:cO} {f:St} {H:Hp} {s:Shared} {c:cV} (I:Inv X a f H s) (i:∀ b∈c,DZ X a H b) (j:∀ b∈c,∃ o,s.heap.get? b=some o/\∀ v,o.data≠.cell v):Inv X (a++Ia c s.heap) f H s:=
 I.pins_of λp hp=>(DK.mp hp).elim (λz=>I.pin p (Dd _ z)) λz=>by
  let ⟨g,e⟩:=UZ z;let ⟨k,m,n,_⟩:=i p.1 g;let ⟨o,h,d⟩:=j p.1 g;rw [e] at h;cases h;exact ⟨e,k,m,n,d⟩
def Inv.unpinned {a pl:cO} {b:St} {H:Hp} {s:Shared} (I:Inv X (a++pl) b H s):Inv X a b H s:=I.pins_of λp hp=>I.pin p (Dd _ (List.mem_append_left _ hp))
def CC {j:Expr} {C:List Stmt} {wi:TI} {g:TG} {tb:TS} {S:Pos} (hp:PassesOwn (model X.prog X.w) X.A X.env X.xe) (hc:X.calm=true) (hi:PI X tg j wi) (hg:PG X tg g) (k:PSs X C tb)
  (hs:∀ x,foldedSetIterable j X.env x=pure x:=by intro _;rfl):PS X (.For tg j C [] S) (Ay wi g tb):=by
 intro a s σ H D I h;refine wpAny_For (H_ (hi a s σ H _ I h) λv s1 h1=>H_ h1 λa4 s2 h2=>?_) hs;let ⟨it,G,tn,J,H2,e,I2,T,U,f2,W,⟨m0,w0⟩,K⟩:=h2;subst e;let p:∀ {B:Hp},(∀ b∈G,B b=none)->∀ b∈G,DZ X a B b:=λhn b k=>⟨hn b k,(f2 b k).2⟩;refine codeAny_forLoop_any (λn s'=>∃ i q B,Inv X a q B s'/\tn i s'.heap/\(∀ b∈G,B b=none)/\W i n q B) ?_ m0 ⟨0,σ,H2,I2,U,λb k=>(f2 b k).1,w0⟩;rintro n s3 ⟨i,w,R,I3,L,M,w3⟩;rcases K i n w R w3 with ⟨O,qn⟩ | ⟨go,N,hN,P⟩
 ·refine wpAny_passesOwn hp (H_ (T.done X rfl rfl rfl hc i a s3 w R X.xe I3 (p M) L O) λr s4 ⟨Y,I4⟩=>?_);subst Y;exact wpAny_execs_nil ⟨w,R,I4,qn⟩
 ·refine wpAny_passesOwn hp (H_ (T.item X rfl rfl rfl hc i a s3 w R X.xe I3 (p M) L go) λr s4 ⟨u,Y,h4⟩=>?_);subst Y;refine wpAny_passesOwn hp (H_ h4 λ_ s5 ⟨x,H5,I5,r5,y5,F,Z⟩=>?_);let a0:=I5.pinned (p Z) (T.obj _ _ F);refine wpAny_passesOwn hp (H_ (hg _ s5 w H5 x u _ a0 r5 (P x H5 y5)) λ_ s6 ⟨a3,H6,I6,q6⟩=>?_);refine wpAny_passesOwn hp (H_ (k _ s6 a3 H6 _ I6 q6) λf s7 E=>?_)
  let y:∀ {c:St} {z:Hp},Inv X (a++Ia G s5.heap) c z s7->N c z->∃ m,m<n/\∃ i q B,Inv X a q B s7/\tn i s7.heap/\(∀ b∈G,B b=none)/\W i m q B:=λ{c z} A Q=>by
   let ⟨m',hm,w7⟩:=hN c z Q;refine ⟨m',hm,i+1,c,z,A.unpinned,T.keep _ _ _ F λb k o e=>(A.pin (b,o) (Dd _ (Dd _ (Ib k e)))).1,λb k=>?_,w7⟩;let ⟨o,e,d⟩:=T.obj _ _ F b k;exact (A.pin (b,o) (Dd _ (Dd _ (Ib k e)))).2.1
  cases f with
  | next=>let ⟨c,z,A,Q⟩:=E;exact y A Q
  | cont=>let ⟨c,z,A,Q⟩:=E;exact y A Q
  | brk=>let ⟨c,z,A,E⟩:=E;exact ⟨c,z,A.unpinned,E⟩
  | ret v=>let ⟨x7,c,z,A,r7,E⟩:=E;exact ⟨x7,c,z,A.unpinned,r7,E⟩
end
def Ua {K:W.Frag} {a:Addr} {xs:cJ} {g:TG} {k:TS} {D:Ends} {b:St} {H:Hp} (Pv:Nat->St->Hp->Prop) (o:Pv 0 b H) (r:∀ i b H,i<=↑xs->Pv i b H->SqL K H a xs)
  (u:∀ i x b H,xs[i]?=some x->Pv i b H->g x b H λc j=>k { D with nx:=Pv (i+1),ct:=Pv (i+1),bk:=D.nx } c j) (A:∀ b H,Pv ↑xs b H->D.nx b H) :
  ∃ W:Nat->Nat->St->Hp->Prop,(∃ m,W 0 m b H)/\∀ i m b H,W i m b H->
    ((aa K a).stop i H/\D.nx b H)\/((aa K a).go i H/\∃ N:St->Hp->Prop,(∀ d f,N d f->∃ n,n<m/\W (i+1) n d f)/\∀ x f,(aa K a).yld i H x f->g x b f λc j=>k { D with nx:=N,ct:=N,bk:=D.nx } c j):=by
 refine ⟨λi m b H=>m=↑xs - i/\i<=↑xs/\Pv i b H,⟨↑xs,by simp,AX _,o⟩,?_⟩;rintro i m b H ⟨rfl,B,p⟩;let q:=r i b H B p;by_cases h:i<↑xs
 ·refine .inr ⟨⟨xs,xs[i],q,by simp [h]⟩,Pv (i+1),λd f C=>⟨↑xs - (i+1),⋯,rfl,h,C⟩,λx f y=>?_⟩;let ⟨e,y⟩:=y;subst e;exact u i x b _ (y xs q) p
 ·let e:i=↑xs:=by omega
  subst e;exact .inl ⟨⟨xs,q,AV _⟩,A b H p⟩
def Ub {K:W.Frag} {a:Addr} {xs:cJ} {g:TG} {k:TS} {D:Ends} {b:St} {H:Hp} (Pv:Nat->St->Hp->Prop) (o:Pv 0 b H) (r:∀ i b H,i<=↑xs->Pv i b H->SqT K H a xs)
  (u:∀ i x b H,xs[i]?=some x->Pv i b H->g x b H λc j=>k { D with nx:=Pv (i+1),ct:=Pv (i+1),bk:=D.nx } c j) (A:∀ b H,Pv ↑xs b H->D.nx b H) :
  ∃ W:Nat->Nat->St->Hp->Prop,(∃ m,W 0 m b H)/\∀ i m b H,W i m b H->
    ((aI K a).stop i H/\D.nx b H)\/((aI K a).go i H/\∃ N:St->Hp->Prop,(∀ d f,N d f->∃ n,n<m/\W (i+1) n d f)/\∀ x f,(aI K a).yld i H x f->g x b f λc j=>k { D with nx:=N,ct:=N,bk:=D.nx } c j):=by
 refine ⟨λi m b H=>m=↑xs - i/\i<=↑xs/\Pv i b H,⟨↑xs,by simp,AX _,o⟩,?_⟩;rintro i m b H ⟨rfl,B,p⟩;let q:=r i b H B p;by_cases h:i<↑xs
 ·refine .inr ⟨⟨xs,xs[i],q,by simp [h]⟩,Pv (i+1),λd f C=>⟨↑xs - (i+1),⋯,rfl,h,C⟩,λx f y=>?_⟩;let ⟨e,y⟩:=y;subst e;exact u i x b _ (y xs q) p
 ·let e:i=↑xs:=by omega
  subst e;exact .inl ⟨⟨xs,q,AV _⟩,A b H p⟩
def Uc {lo:Int} {n:Nat} {g:TG} {j:TS} {D:Ends} {a:St} {H:Hp} (Pv:Nat->St->Hp->Prop) (o:Pv 0 a H)
  (q:∀ i a H,i<n->Pv i a H->g (.int (lo+i)) a H λb h=>j { D with nx:=Pv (i+1),ct:=Pv (i+1),bk:=D.nx } b h) (w:∀ a H,Pv n a H->D.nx a H) :
  ∃ W:Nat->Nat->St->Hp->Prop,(∃ m,W 0 m a H)/\∀ i m a H,W i m a H->
    ((Z_ lo n).stop i H/\D.nx a H)\/((Z_ lo n).go i H/\∃ N:St->Hp->Prop,(∀ c d,N c d->∃ k,k<m/\W (i+1) k c d)/\∀ x d,(Z_ lo n).yld i H x d->g x a d λb h=>j { D with nx:=N,ct:=N,bk:=D.nx } b h):=by
 refine ⟨λi m a H=>m=n - i/\i<=n/\Pv i a H,⟨n,by simp,AX _,o⟩,?_⟩;rintro i m a H ⟨rfl,A,p⟩;by_cases f:i<n
 ·refine .inr ⟨f,Pv (i+1),λc d z=>⟨n - (i+1),⋯,rfl,f,z⟩,λx d y=>?_⟩;let ⟨e,y⟩:=y;subst e y;exact q i a _ f p
 ·let e:i=n:=by omega
  subst e;exact .inl ⟨AV _,w a H p⟩
noncomputable abbrev R2:=V->V->Hp->VK->Prop
def OpR (X:Cx) (f:Value->Value->Sem Value) (r:R2):Prop:=
 ∀ (a:cO) (s:Shared) (b:St) (H:Hp) (x y:V) (v u:Value) (Q:VK),Inv X a b H s->RelV x v->RelV y u->r x y H Q->
   wpAny (model X.prog X.w) X.A (f v u) (EP X a b Q) X.xe s
def UnR (X:Cx) (f:Value->Sem Value) (r:V->Hp->VK->Prop):Prop:=
 ∀ (a:cO) (s:Shared) (b:St) (H:Hp) (x:V) (v:Value) (Q:VK),Inv X a b H s->RelV x v->r x H Q->
   wpAny (model X.prog X.w) X.A (f v) (EP X a b Q) X.xe s
def C6 (X:Cx) (f:Value) (r:cJ->Hp->VK->Prop):Prop:=
 ∀ (a:cO) (s:Shared) (b:St) (H:Hp) (c:cJ) (d:cM) (Q:VK),Inv X a b H s->Vals c d->r c H Q->
   wpAny (model X.prog X.w) X.A (call f d) (EP X a b Q) X.xe s
def Ud (X:Cx) (r:V->Hp->(Bool->Hp->Prop)->Prop):Prop:=
 ∀ (a:cO) (s:Shared) (b:St) (H:Hp) (x:V) (v:Value) (Q:Bool->Hp->Prop),Inv X a b H s->RelV x v->r x H Q->
   wpAny (model X.prog X.w) X.A (truthy v) (TP X a b Q) X.xe s
def A_ (r:R2) (b c:TE):TE:=λa H Q=>b a H λx d=>c a d λy e=>r x y e Q
def O_ (r:V->Hp->VK->Prop) (a:TE):TE:=λb H Q=>a b H λx c=>r x c Q
def rI (C:Int->Int->Prop) (g:Int->Int->V):R2:=λx y H Q=>∃ i j,x=.int i/\y=.int j/\C i j/\Q (g i j) H
def a8 (g:Int->Int->V):R2:=λx y H Q=>∃ i j,x=.int i/\y=.int j/\Q (g i j) H
def rU (g:Int->V):V->Hp->VK->Prop:=λx H Q=>∃ i,x=.int i/\Q (g i) H
section
variable {X:Cx} {a b c:Expr} {ta tb tc:TE} {pos:Pos}
def KC (n:PE X a ta) (o:PE X b tb) {d:cO} {s:Shared} {e:St} {H:Hp} {R:V->V->Hp->Prop} (I:Inv X d e H s)
  (h:ta e H λx m=>tb e m λy g=>R x y g) {Q:cN} {f:Value->Value->Sem Value}
  (p:∀ v u k x y g,Inv X d e g k->RelV x v->RelV y u->R x y g->wpAny (model X.prog X.w) X.A (f v u) Q X.xe k) :
  wpAny (model X.prog X.w) X.A (eval a X.env) (λv i=>wpAny (model X.prog X.w) X.A (eval b X.env) (λu j=>wpAny (model X.prog X.w) X.A (f v u) Q X.xe j) X.xe i) X.xe s:=by
 refine H_ (n d s e H _ I h) λv q ⟨x,m,r,w,z⟩=>?_;refine H_ (o d q e m _ r z) λu k ⟨y,g,A,B,C⟩=>?_;exact p v u k x y g A w B C
def AR {e:Operator} {r:R2} (f:OpR X (binaryOp e) r) (g:PE X a ta) (i:PE X b tb):PE X (.BinOp a e b pos) (A_ r ta tb):=by
 intro d s j H Q I h;exact wpAny_BinOp (KC g i I h λv u k x y m n o p q=>f d k j m x y v u Q n o p q)
def BX {e:UnaryOp} {r:V->Hp->VK->Prop} (g:UnR X (unaryOp e) r) (i:PE X a ta):PE X (.UnaryOp e a pos) (O_ r ta):=by
 intro d s f H Q I h;exact UnaryOp_ (H_ (i d s f H _ I h) λv j ⟨x,k,m,n,o⟩=>g d j f k x v Q m n o)
def aX {f:Value->Value->Sem Value} {C:Int->Int->Prop} {g:Int->Int->Int}
  (rule:∀ (i j:Int) (t u:Tok) (s:Shared) (Q:cN) (E:cN),C i j->Q (.int (g i j) s.toks) { s with toks:=s.toks+1 }->wpAny (model X.prog X.w) X.A (f (.int i t) (.int j u)) Q E s) :
  OpR X f (rI C λi j=>.int (g i j)):=by
 intro e s p H x y v u Q I k m h;let ⟨i,j,rfl,rfl,n,q⟩:=h;let ⟨t,rfl⟩:=k;let ⟨o,rfl⟩:=m;exact rule i j t o s _ _ n ⟨.int (g i j),H,I.tok _,⟨_,rfl⟩,q⟩
def Ic {f:Value->Value->Sem Value} {g:Int->Int->Int}
  (rule:∀ (i j:Int) (t u:Tok) (s:Shared) (Q:cN) (E:cN),Q (.int (g i j) s.toks) { s with toks:=s.toks+1 }->wpAny (model X.prog X.w) X.A (f (.int i t) (.int j u)) Q E s) :
  OpR X f (a8 λi j=>.int (g i j)):=by
 intro e s o H x y v u Q I k m h;let ⟨i,j,rfl,rfl,q⟩:=h;let ⟨t,rfl⟩:=k;let ⟨n,rfl⟩:=m;exact rule i j t n s _ _ ⟨.int (g i j),H,I.tok _,⟨_,rfl⟩,q⟩
def Id {f:Value->Value->Sem Value} {g:Int->Int->Bool}
  (rule:∀ (i j:Int) (t u:Tok) (s:Shared) (Q:cN) (E:cN),Q (.bool (g i j)) s->wpAny (model X.prog X.w) X.A (f (.int i t) (.int j u)) Q E s) :
  OpR X f (a8 λi j=>.bl (g i j)):=by
 intro d s n H x y v u Q I e k h;let ⟨i,j,rfl,rfl,q⟩:=h;let ⟨t,rfl⟩:=e;let ⟨m,rfl⟩:=k;exact rule i j t m s _ _ ⟨.bl (g i j),H,I,rfl,q⟩
def BY:OpR X (binaryOp .Add) (a8 λi j=>.int (i+j)):=Ic λ_ _ _ _ _ _ _ q=>add_int q
def Bj:OpR X (binaryOp .Sub) (a8 λi j=>.int (i - j)):=Ic λ_ _ _ _ _ _ _ q=>sub_int q
def CQ:OpR X (binaryOp .Mod) (rI (λ_ j=>0<j) λi j=>.int (i % j)):=aX λi j _ _ _ _ _ d q=>by
 let e:(0:Int)<j:=d;exact mod_int' ⋯ (by rw [Int.fmod_eq_emod_of_nonneg i ⋯];exact q)
def Ue:OpR X (binaryOp .Mod) (rI (λ_ j=>j≠0) λi j=>.int (i.fmod j)):=aX λ_ _ _ _ _ _ _ d q=>mod_int' d q
def Ie:OpR X (inplaceOp .Add) (a8 λi j=>.int (i+j)):=Ic λ_ _ _ _ _ _ _ q=>iadd_int q
def Ig:OpR X (inplaceOp .Sub) (a8 λi j=>.int (i - j)):=Ic λ_ _ _ _ _ _ _ q=>isub_int q
def Uf {f:Value->Sem Value} {g:Int->Int}
  (rule:∀ (i:Int) (t:Tok) (s:Shared) (Q:cN) (E:cN),Q (.int (g i) s.toks) { s with toks:=s.toks+1 }->wpAny (model X.prog X.w) X.A (f (.int i t)) Q E s) :
  UnR X f (rU λi=>.int (g i)):=by
 intro e s k H x v Q I j h;let ⟨i,rfl,q⟩:=h;let ⟨t,rfl⟩:=j;exact rule i t s _ _ ⟨.int (g i),H,I.tok _,⟨_,rfl⟩,q⟩
def BZ:UnR X (unaryOp .USub) (rU λi=>.int (-i)):=Uf λ_ _ _ _ _ q=>neg_int q
end
noncomputable def aJ:V->V->Bool
 | .non,.non=>true | .non,.int _=>true | .int _,.non=>true | .non,.bl _=>true | .bl _,.non=>true | .non,.str _=>true | .str _,.non=>true
 | .int _,.int _=>true | .bl _,.bl _=>true | .str _,.str _=>true | .byt _,.byt _=>true
 | .int _,.str _=>true | .str _,.int _=>true | .bl _,.str _=>true | .str _,.bl _=>true
 | _,_=>false
def U_:R2:=λx y H Q=>aJ x y=true/\Q (.bl (decide (x=y))) H
def aC:R2:=λx y H Q=>aJ x y=true/\Q (.bl (!decide (x=y))) H
def Mv {i j:Int}:decide (V.int i=V.int j)=(i == j):=by
 rw [Bool.eq_iff_iff];simp
def Mw {i j:Bool}:decide (V.bl i=V.bl j)=(i == j):=by
 rw [Bool.eq_iff_iff];simp
def Mx {i j:Str}:decide (V.str i=V.str j)=(i == j):=by
 rw [Bool.eq_iff_iff];simp
def My {i j:Array UInt8}:decide (V.byt i=V.byt j)=(i.toList == j.toList):=by
 rw [Bool.eq_iff_iff];cases i;cases j;simp
section
variable {X:Cx} {a b c:Expr} {ta tb tc:TE} {pos:Pos}
def Bc {d:cO} {f:St} {H:Hp} {s:Shared} {Q:VK} {k g:Bool} (I:Inv X d f H s) (q:Q (.bl k) H) (e:k=g):EP X d f Q (.bool g) s:=by
 subst e;exact ⟨.bl k,H,I,rfl,q⟩
theorem Ct:OpR X (compareOp .Eq) U_:=by
 intro k s m H x y v u Q I g d h;let ⟨f,q⟩:=h;cases x with
 | non=>
   cases g;cases y with
   | non=>cases d;exact PySem.EqNone.eq_none_none (Bc I q (by simp))
   | bl j=>cases d;exact PySem.EqNone.eq_none_bool (Bc I q (by simp))
   | int j=>let ⟨e,rfl⟩:=d;exact PySem.EqNone.eq_none_int (Bc I q (by simp))
   | str j=>let ⟨e,rfl⟩:=d;exact PySem.EqNone.eq_none_str (Bc I q (by simp))
   | _=>exact absurd (show false=true from f) Cf
 | bl i=>
   cases g;cases y with
   | non=>cases d;exact PySem.EqNone.eq_bool_none (Bc I q (by simp))
   | bl j=>cases d;exact eq_bool (Bc I q Mw)
   | str j=>let ⟨e,rfl⟩:=d;exact PySem.EqMixed.eq_bool_str (Bc I q (by simp))
   | _=>exact absurd (show false=true from f) Cf
 | int i=>
   let ⟨t,rfl⟩:=g;cases y with
   | non=>cases d;exact PySem.EqNone.eq_int_none (Bc I q (by simp))
   | int j=>let ⟨e,rfl⟩:=d;exact eq_int (Bc I q Mv)
   | str j=>let ⟨e,rfl⟩:=d;exact PySem.EqMixed.eq_int_str (Bc I q (by simp))
   | _=>exact absurd (show false=true from f) Cf
 | str i=>
   let ⟨t,rfl⟩:=g;cases y with
   | non=>cases d;exact PySem.EqNone.eq_str_none (Bc I q (by simp))
   | bl j=>cases d;exact PySem.EqMixed.eq_str_bool (Bc I q (by simp))
   | int j=>let ⟨e,rfl⟩:=d;exact PySem.EqMixed.eq_str_int (Bc I q (by simp))
   | str j=>let ⟨e,rfl⟩:=d;exact eq_str (Bc I q Mx)
   | _=>exact absurd (show false=true from f) Cf
 | byt i=>
   let ⟨t,rfl⟩:=g;cases y with
   | byt j=>let ⟨e,rfl⟩:=d;exact W.eq_bytes (Bc I q My)
   | _=>exact absurd (show false=true from f) Cf
 | _=>cases y <;> exact absurd (show false=true from f) Cf
theorem FT:OpR X (compareOp .NotEq) aC:=by
 intro k s m H x y v u Q I g d h;let ⟨f,q⟩:=h;cases x with
 | non=>
   cases g;cases y with
   | non=>cases d;exact PySem.EqNone.ne_none_none (Bc I q (by simp))
   | bl j=>cases d;exact PySem.EqNone.ne_none_bool (Bc I q (by simp))
   | int j=>let ⟨e,rfl⟩:=d;exact PySem.EqNone.ne_none_int (Bc I q (by simp))
   | str j=>let ⟨e,rfl⟩:=d;exact PySem.EqNone.ne_none_str (Bc I q (by simp))
   | _=>exact absurd (show false=true from f) Cf
 | bl i=>
   cases g;cases y with
   | non=>cases d;exact PySem.EqNone.ne_bool_none (Bc I q (by simp))
   | bl j=>cases d;exact ne_bool (Bc I q (congrArg not Mw))
   | str j=>let ⟨e,rfl⟩:=d;exact PySem.EqMixed.ne_bool_str (Bc I q (by simp))
   | _=>exact absurd (show false=true from f) Cf
 | int i=>
   let ⟨t,rfl⟩:=g;cases y with
   | non=>cases d;exact PySem.EqNone.ne_int_none (Bc I q (by simp))
   | int j=>let ⟨e,rfl⟩:=d;exact ne_int (Bc I q (congrArg not Mv))
   | str j=>let ⟨e,rfl⟩:=d;exact PySem.EqMixed.ne_int_str (Bc I q (by simp))
   | _=>exact absurd (show false=true from f) Cf
 | str i=>
   let ⟨t,rfl⟩:=g;cases y with
   | non=>cases d;exact PySem.EqNone.ne_str_none (Bc I q (by simp))
   | bl j=>cases d;exact PySem.EqMixed.ne_str_bool (Bc I q (by simp))
   | int j=>let ⟨e,rfl⟩:=d;exact PySem.EqMixed.ne_str_int (Bc I q (by simp))
   | str j=>let ⟨e,rfl⟩:=d;exact ne_str (Bc I q (congrArg not Mx))
   | _=>exact absurd (show false=true from f) Cf
 | byt i=>
   let ⟨t,rfl⟩:=g;cases y with
   | byt j=>let ⟨e,rfl⟩:=d;exact W.ne_bytes (Bc I q (congrArg not My))
   | _=>exact absurd (show false=true from f) Cf
 | _=>cases y <;> exact absurd (show false=true from f) Cf
def E8:OpR X (compareOp .Lt) (a8 λi j=>.bl (decide (i<j))):=Id λ_ _ _ _ _ _ _ q=>lt_int q
def Mz:OpR X (compareOp .LtE) (a8 λi j=>.bl (decide (i<=j))):=Id λ_ _ _ _ _ _ _ q=>le_int q
def EX:OpR X (compareOp .Gt) (a8 λi j=>.bl (decide (j<i))):=Id λ_ _ _ _ _ _ _ q=>gt_int q
def M3:OpR X (compareOp .GtE) (a8 λi j=>.bl (decide (j<=i))):=Id λ_ _ _ _ _ _ _ q=>ge_int q
def Ug:OpR X (compareOp .Is) (λx y H Q=>y=.non/\Q (.bl (decide (x=.non))) H):=by
 intro d s g H x y v u Q I e f h;let ⟨rfl,q⟩:=h;cases f;refine is_none_gen (Bc I q ?_)
 cases x <;> first
  | (cases e;rfl)
  | (let ⟨t,rfl⟩:=e;rfl)
def Uh:OpR X (compareOp .IsNot) (λx y H Q=>y=.non/\Q (.bl (!decide (x=.non))) H):=by
 intro d s g H x y v u Q I e f h;let ⟨rfl,q⟩:=h;cases f;refine isnot_none_gen (Bc I q ?_)
 cases x <;> first
  | (cases e;rfl)
  | (let ⟨t,rfl⟩:=e;rfl)
def W_ (b:Expr) {d:CmpOp} (h:d≠.In:=by decide) (e:d≠.NotIn:=by decide):behindInMarks d b=false:=by
 let f:(d == CmpOp.In)=false:=by cases d <;> first | rfl | exact absurd rfl h
 let g:(d == CmpOp.NotIn)=false:=by cases d <;> first | rfl | exact absurd rfl e
 cases b <;> simp [behindInMarks,f,g]
def KD {e:CmpOp} {r:R2} (f:OpR X (compareOp e) r) (g:PE X a ta) (i:PE X b tb) (j:behindInMarks e b=false):PE X (.Compare a [e] [b] pos) (A_ r ta tb):=by
 intro d s k H Q I h;exact wpAny_Compare1 (KC g i I h λv u m x y n o p w q=>f d m k n x y v u Q o p w q) j
def Ap (t:TE):TT:=λd H Q=>t d H λx e=>∃ k,x=.bl k/\Q k e
def M4 {f:CmpOp} {r:R2} (i:OpR X (compareOp f) r) (j:PE X a ta) (m:PE X b tb) (n:behindInMarks f b=false):PT X (.Compare a [f] [b] pos) (Ap (A_ r ta tb)):=by
 intro d s g H Q I h
 refine wpAny_isTrue_Compare1 (H_ (j d s g H _ I h) λv o ⟨x,p,q,w,A⟩=>H_ (m d o g p _ q A) λu B ⟨y,C,D,E,F⟩=>
  H_ (i d B g C x y v u _ D w E F) λc M ⟨z,G,J,K,k,e,L⟩=>?_) n
 subst e;cases K;exact wpAny_truthy_bool ⟨G,J,L⟩
def Ui (K:W.Frag) (x:V) (H:Hp) (k:Bool):Prop:=
 match x with
 | .non=>k=false
 | .bl b=>k=b
 | .int i=>k=(i != 0)
 | .str y=>↑y<=sizeLine/\k=((↑y:Int) != 0)
 | .byt y=>y.size<=sizeLine/\k=((y.size:Int) != 0)
 | .ref p=>(∃ d,SqL K H p d/\k=!d.isEmpty)\/(∃ d,SqT K H p d/\k=!d.isEmpty)\/∃ e,H p=some (.dK e)/\k=!e.isEmpty
 | _=>False
def Uj {e:Type} {d:List (e×V)} {f:List (e×Value)} (r:KV d f):(!f.isEmpty)=!d.isEmpty:=by
 cases r <;> rfl
def M5 {xs:cJ} {its:cM} (r:Vals xs its):(!its.toArray.isEmpty)=!xs.isEmpty:=by
 cases r <;> simp
def Gb:(sizeLine:Nat)<2 ^ 63:=by rw [sizeLine_eq];decide
theorem Uk:Ud X (λx H Q=>∃ k,Ui X.K x H k/\Q k H):=by
 intro z s D H x v Q I n h;let ⟨k,e,q⟩:=h;let E:=Gb;let F:sizeLine=16777216:=sizeLine_eq;cases x with
 | non=>
   cases n;let d:k=false:=e;subst d;exact truthy_none ⟨H,I,q⟩
 | bl b=>
   cases n;let d:k=b:=e;subst d;exact wpAny_truthy_bool ⟨H,I,q⟩
 | int i=>
   let ⟨t,rfl⟩:=n;let d:k=(i != 0):=e;subst d;exact PySem.P.truthy_int ⟨H,I,q⟩
 | str y=>
   let ⟨t,rfl⟩:=n;let ⟨B,d⟩:↑y<=sizeLine/\k=((↑y:Int) != 0):=e;subst d;exact PySem.P.truthy_str ⋯ ⟨H,I.tok _,q⟩
 | byt y=>
   let ⟨t,rfl⟩:=n;let ⟨B,d⟩:y.size<=sizeLine/\k=((y.size:Int) != 0):=e;subst d;exact W.truthy_bytes ⋯ ⟨H,I.tok _,q⟩
 | ref p=>
   cases n;let d:(∃ j,SqL X.K H p j/\k=!j.isEmpty)\/(∃ j,SqT X.K H p j/\k=!j.isEmpty)\/∃ f,H p=some (.dK f)/\k=!f.isEmpty:=e;rcases d with ⟨j,o,d⟩ | ⟨j,o,d⟩ | ⟨f,o,d⟩
   ·subst d;let ⟨w,r,pl,A⟩:=I.list o;let g:=↑r;exact wpAny_truthy_list pl.isList (by simp only [A7];omega) ⟨H,I.tok _,by rw [M5 r];exact q⟩
   ·subst d;let ⟨w,r,pl,A⟩:=I.tuple o;let g:=↑r;exact truthy_tuple pl (by simp only [A7];omega) ⟨H,I.tok _,by rw [M5 r];exact q⟩
   ·subst d;let ⟨A,C,u,r,m⟩:↑f<=sizeLine/\(p == sysModules)=false/\∃ u,KV f u/\s.heap.DictOf (J6 X.prog X.w) p u:=I.hok p _ o;let g:↑f=↑u:=Paired.length r;exact wpAny_truthy_dict C m ⋯ ⟨H,I.tok _,by rw [Uj r];exact q⟩
 | _=>exact (show False from e).elim
theorem EG {x:V} {d:cM} (r:Vals [x] d):∃ u,d=[u]/\RelV x u:=by
 cases r with
 | cons e f=>cases f;exact ⟨_,rfl,e⟩
theorem vals2 {x y:V} {d:cM} (r:Vals [x,y] d):∃ u e,d=[u,e]/\RelV x u/\RelV y e:=by
 cases r with
 | cons f g=>
   cases g with
   | cons h i=>cases i;exact ⟨_,_,rfl,f,h⟩
def Ul:C6 X (.builtin "abs") (λd H Q=>∃ i,d=[.int i]/\Q (.int (if i<0 then -i else i)) H):=by
 intro e s f H d g Q I r h;let ⟨i,rfl,q⟩:=h;let ⟨u,rfl,t,rfl⟩:=EG r;exact call_abs_int λu j=>⟨.int (if i<0 then -i else i),H,I.tok _,⟨_,rfl⟩,q⟩
def Um (g:X.calm=true):C6 X (.builtin "max") (λe H Q=>∃ i j,e=[.int i,.int j]/\Q (.int (if j > i then j else i)) H):=by
 intro f s m H e n Q I r h;let ⟨i,j,rfl,q⟩:=h;let ⟨u,o,rfl,⟨t,rfl⟩,⟨p,rfl⟩⟩:=vals2 r;refine max_two_ints (I.ok.hd g) λv w k=>⟨_,H,I.kept k,?_,q⟩;by_cases d:j > i
 ·rw [pB d,pB d];exact ⟨_,rfl⟩
 ·rw [qZ d,qZ d];exact ⟨_,rfl⟩
end
structure ObjM (h:Heap) (x dx C:Addr) (mA:cP):Prop where
 obj:h.get? x=some (W.instObj C dx)
 ns:h.Ns1 dx mA
 ne:dx≠x
def Uo {h:Heap} {d:Addr} {f:cP} (n:h.Ns1 d f):∃ g,h.get? d=some g/\∀ b,W.lookIn b g=some (f b):=by
 let ⟨o,i,u,j,k,hk,_,m⟩:=n;refine ⟨o,j,λb=>?_⟩;let e:=m b;unfold nsFind findBy at e;rw [<-Array.find?_toList] at e;unfold W.lookIn;rw [k];dsimp only;split
 ·rename_i y q;rw [q] at e;exact congrArg some e
 ·rename_i q;rw [q] at e
  let a:i.toList.any (·.refKey)=false:=by
   rw [List.any_eq_false];intro y p;let ⟨z,t,c⟩:=hk y (Array.mem_toList_iff.mp p);simp [DictEntry.refKey,c]
  let r:¬ i.toList.any (·.refKey)=true:=by rw [a];exact Cf
  rw [qZ r];exact congrArg some e
def ObjM.look {h:Heap} {x c C:Addr} {d:cP} (I:ObjM h x c C d):∃ b,W.InstAt h x (W.instObj C c) C (some b)/\∀ a,W.lookIn a b=some (d a):=
 let ⟨b,e,f⟩:=Uo I.ns
 ⟨b,⟨I.obj,rfl,rfl,e⟩,f⟩
section
variable {prog:Program} {w:World} {A:Around} {E:cN} {s:Shared} {K:W.Frag} {x dx C f:Addr} {mA:cP} {name:Str} {v:Value}
def Up {a:Bool} {Q:cN} (X:K.In s.heap) (I:ObjM s.heap x dx C mA) (d:W.plainGet K C name=true) (e:W.hasDictIn K C=true)
  (g:W.findIn K (.ref C) name=some none) (i:mA name=some v) (b:W.handedIn v=true) (h:Q v { s with toks:=s.toks+1 }) :
  wpAny (model prog w) A (getAttr (.ref x) name a) Q E s:=by
 let ⟨k,J,j⟩:=I.look;exact W.get_value X J (W.plainGet_of d).1 (W.findObj_own e g rfl (by rw [j,i])) b h
def Uq {ns:cT} {Q:Unit->Shared->Prop} (X:K.In s.heap) (I:ObjM s.heap x dx C mA)
  (o:W.findIn K (.ref C) "__setattr__" = some (some (.builtin "object.__setattr__"))) (hp:W.plainOver K C=true) (p:W.takerIn K C name=some none) (q:W.hasDictIn K C=true)
  (u:PySem.Within mA ns) (hsz:↑ns<=sizeLine)
  (h:∀ g,ObjM g x dx C (λy=>if y=name then some v else mA y)->Heap.SameBut dx s.heap g->Q Unit.unit { s with heap:=g,toks:=s.toks+2 }) :
  wpAny (model prog w) A (setAttr (.ref x) name v) Q E s:=by
 let ⟨G,J,H⟩:=I.look;refine W.set_plain X J o (W.osa_open (s:={ s with toks:=s.toks+1 }) (r:=none) X J hp p λb=>?_);let ⟨L,z,i⟩:=W.any_some q;let B:s.heap.get? x=some ⟨.ref C,some dx,.plain,#[]⟩:=I.obj;refine pI (pJ (pI (pI (wpAny_loadPart B (pI (W.Looks.here (s:={ s with toks:=s.toks+1 }) (W.looks_clsIn X z) ?_))))));rw [i];refine pJ (a:=some dx) (pI (pJ (pI ?_)));refine wpAny_nsSet1 (s:={ s with toks:=s.toks+1 }) I.ns λg d e=>?_;let ⟨M,D,F,j,k,m⟩:=d.count (PySem.Within.cons name v u);refine pI (wpAny_lookBehind j (by rw [k];exact pastItsLine_dict (BM m (by rw [List.length_cons];omega))) ?_);exact pJ (h _ ⟨(e.2 _ (Ne.symm I.ne)).trans I.obj,d,I.ne⟩ e)
def Ur {R:Result->Shared->Prop} {b:cM} {c:List (Str×Value)} (X:K.In s.heap) (i:W.makesIn K C=true)
  (j:W.findIn K (.ref C) "__init__" = some (↥f)) (k:W.typeIn K (.ref f)=some (.type "function"))
  (h:codeAny (model prog w) (A.under (.builtin "type.__call__" ⟨.ref C::b,c⟩)) (.call (.ref f) ⟨.ref (⇑s+1)::b,c⟩) (W.InitBack (⇑s+1) R)
   { s with heap:=(s.heap.push W.emptyDict).push (W.instObj C ⇑s) }) :
  codeAny (model prog w) A (.call (.ref C) ⟨b,c⟩) R s:=by
 let ⟨m,g,d,t,os⟩:=s;exact W.make_core (W.makes_of X i) (W.looks_findIn X j) (λa=>W.bind_fn X a k) (.inl rfl) h
end
noncomputable def CD (f:Str) (v:V):List (Str×V)->List (Str×V)
 | []=>[(f,v)]
 | (g,x)::r=>if g=f then (g,v)::r else (g,x)::CD f v r
theorem DA (f g:Str) (v:V):∀ b:List (Str×V),(CD f v b).lookup g=if g=f then some v else b.lookup g
 | []=>by
   show List.lookup g [(f,v)]=_;by_cases h:g=f
   ·let a:(g == f)=true:=beq_iff_eq.mpr h;simp only [List.lookup,a,pB h]
   ·let a:(g == f)=false:=beq_eq_false_iff_ne.mpr h;simp only [List.lookup,a,qZ h]
 | (k,x)::r=>by
   let c:=DA f g v r;rw [show CD f v ((k,x)::r)=(if k=f then (k,v)::r else (k,x)::CD f v r) from rfl];by_cases hk:k=f
   ·rw [pB hk];by_cases h:g=k
    ·let a:(g == k)=true:=beq_iff_eq.mpr h;simp only [List.lookup,a,pB (h.trans hk)]
    ·let a:(g == k)=false:=beq_eq_false_iff_ne.mpr h;simp only [List.lookup,a,qZ (λe:g=f=>h (e.trans hk.symm))]
   ·rw [qZ hk];by_cases h:g=k
    ·let a:(g == k)=true:=beq_iff_eq.mpr h;simp only [List.lookup,a,qZ (λe:g=f=>hk (h.symm.trans e))]
    ·let a:(g == k)=false:=beq_eq_false_iff_ne.mpr h;simp only [List.lookup,a];exact c
theorem KE (f:Str) (v:V):∀ a:List (Str×V),f∈(CD f v a).map (·.1)/\∀ g,g∈a.map (·.1)->g∈(CD f v a).map (·.1)
 | []=>⟨by simp [CD],λg h=>by simp at h⟩
 | (k,x)::r=>by
   let ⟨b,c⟩:=KE f v r;rw [show CD f v ((k,x)::r)=(if k=f then (k,v)::r else (k,x)::CD f v r) from rfl];by_cases hk:k=f
   ·rw [pB hk];subst hk;exact ⟨by simp,λg h=>by simpa using h⟩
   ·rw [qZ hk];refine ⟨?_,λg h=>?_⟩
    ·rw [List.map_cons];exact Dn _ b
    ·rw [List.map_cons] at h ⊢;rcases DV.mp h with e | e
     ·exact DV.mpr (.inl e)
     ·exact Dn _ (c g e)
theorem M6 (f:Str) (v:V):∀ a:List (Str×V),(CD f v a).length<=↑a+1
 | []=>by simp [CD]
 | (k,x)::r=>by
   let b:=M6 f v r;rw [show CD f v ((k,x)::r)=(if k=f then (k,v)::r else (k,x)::CD f v r) from rfl];by_cases hk:k=f
   ·rw [pB hk,List.length_cons,List.length_cons];omega
   ·rw [qZ hk,List.length_cons,List.length_cons];omega
theorem RelO.some_of {v:V} {o:cU} (r:RelO (some v) o):∃ u,o=some u/\RelV v u:=by
 cases o with
 | none=>exact (show False from r).elim
 | some u=>exact ⟨u,rfl,r⟩
theorem Us {v:V} {u:Value} (r:RelV v u):W.handedIn u=true:=by
 cases v with
 | non=>cases (show u=Value.none from r);rfl
 | bl b=>cases (show u=Value.bool b from r);rfl
 | int i=>let ⟨t,e⟩:=(show ∃ t,u=Value.int i t from r);cases e;rfl
 | str x=>let ⟨t,e⟩:=(show ∃ t,u=Value.str x t from r);cases e;rfl
 | byt b=>let ⟨t,e⟩:=(show ∃ t,u=Value.bytes b t from r);cases e;rfl
 | flt b=>let ⟨t,e⟩:=(show ∃ t,u=Value.float b t from r);cases e;rfl
 | ref a=>cases (show u=Value.ref a from r);rfl
 | ty n=>cases (show u=Value.type n from r);rfl
section
variable {P:Program} {w:World} {H H':Hp} {h h':Heap} {a C dx:Addr} {fs fs':List (Str×V)}
def KF (c:HOk P w H h) (e:H a=some (.ins C dx fs)):∃ b,ObjM h a dx C b/\(∀ f,RelO (fs.lookup f) (b f))/\PySem.Within b (fs.map (·.1))/\↑fs<=1000/\H dx=some (.own a):=by
 let ⟨d,z,g,i,b,n,r,q⟩:=(show ObjOk P w H h a (.ins C dx fs) from c a _ e);exact ⟨b,⟨i,n,g⟩,r,q,z,d⟩
end
structure Cls (K:W.Frag) (C:Addr):Prop where
 pg:W.plainGet K C Str.empty=true
 hd:W.hasDictIn K C=true
 po:W.plainOver K C=true
 sa:W.findIn K (.ref C) "__setattr__" = some (some (.builtin "object.__setattr__"))
def Cls.get {K:W.Frag} {C:Addr} (c:Cls K C) (f:Str):W.plainGet K C f=true:=c.pg
def NoAttr (K:W.Frag) (C:Addr) (f:Str):Prop:=W.findIn K (.ref C) f=some none
def NoAttr.taker {K:W.Frag} {C:Addr} {f:Str} (n:NoAttr K C f):W.takerIn K C f=some none:=by
 unfold W.takerIn;rw [show W.findIn K (.ref C) f=some none from n];rfl
section
variable {X:Cx} {pins:cO} {σ:St} {H:Hp} {s:Shared} {a C dx:Addr} {fs:List (Str×V)} {f:Str} {v:V} {A:Around} {E:cN}
def Ut {b:Bool} {Q:cN} (I:Inv X pins σ H s) (e:H a=some (.ins C dx fs)) (c:Cls X.K C) (n:NoAttr X.K C f) (l:fs.lookup f=some v)
  (h:∀ u d,Inv X pins σ H d->RelV v u->Q u d):wpAny (model X.prog X.w) A (getAttr (.ref a) f b) Q E s:=by
 let ⟨i,O,r,_,_,_⟩:=KF I.hok e;let ⟨u,j,g⟩:=RelO.some_of (v:=v) (o:=i f) (by rw [<-l];exact r f);exact Up I.kIn O (c.get f) c.hd n j (Us g) (h u _ (I.tok _) g)
def Uu {y:V} {u:Value} {Q:Unit->Shared->Prop} (I:Inv X pins σ H s) (e:H a=some (.ins C dx fs)) (c:Cls X.K C) (n:NoAttr X.K C f) (L:↑fs<1000) (p:RelV y u)
  (h:∀ i,Inv X pins σ (upd H a (.ins C dx (CD f y fs))) i->Q Unit.unit i):wpAny (model X.prog X.w) A (setAttr (.ref a) f u) Q E s:=by
 let ⟨j,O,r,k,_,m⟩:=KF I.hok e;let w:(fs.map (·.1)).length<=sizeLine:=by rw [AI,sizeLine_eq];omega
 refine Uq I.kIn O c.sa c.po n.taker c.hd k w λB d D=>h _ ?_;let F:∃ o,B.get? dx=some o:=let ⟨o,_,_,G,_⟩:=d.ns;⟨o,G⟩;refine I.write (x:=a) (e:=dx) (by rw [e];exact True.intro) (.inr m) (λb q J z=>(D.2 b J).trans z) F ?_;refine ⟨by rw [Aq O.ne];exact m,?_,O.ne,d.obj,_,d.ns,λg=>?_,λg K=>?_⟩
 ·have:=M6 f y fs;omega
 ·show RelO ((CD f y fs).lookup g) (if g=f then some u else j g);rw [DA];by_cases q:g=f
  ·rw [pB q,pB q];exact p
  ·rw [qZ q,qZ q];exact r g
 ·by_cases q:g=f
  ·rw [q];exact (KE f y fs).1
  ·refine (KE f y fs).2 g (k g λz=>K ?_);show (if g=f then some u else j g)=none;rw [qZ q];exact z
def Inv.made (I:Inv X pins σ H s):Inv X pins σ (upd (upd H ⇑s (.own (⇑s+1))) (⇑s+1) (.ins C ⇑s []))
  { s with heap:=(s.heap.push W.emptyDict).push (W.instObj C ⇑s) }:=by
 let d:(s.heap.push W.emptyDict).get? ⇑s=some W.emptyDict:=Heap.get?_push_size s.heap rfl
 let h:((s.heap.push W.emptyDict).push (W.instObj C ⇑s)).get? (⇑s+1)=some (W.instObj C ⇑s):=by
  have:=Heap.get?_push_size (s.heap.push W.emptyDict) (o:=W.instObj C ⇑s) rfl;rwa [Heap.size_push] at this
 let i:(s.heap.push W.emptyDict).Ns ⇑s (λ_=>none):=⟨W.emptyDict,#[],_,d,rfl,(λe j=>absurd j (by simp)),λ_=>rfl⟩;let k:=I.laid (a:=⇑s) (o:=.own (⇑s+1)) (h':=s.heap.push W.emptyDict) (t':=s.toks) (λb u q=>Heap.get?_push_of_some _ q) (AV _) ⟨_,d⟩;refine k.laid (a:=⇑s+1) (o:=.ins C ⇑s []) (t':=s.toks) (λb u q=>Heap.get?_push_of_some _ q) (Nat.le_of_eq (Heap.size_push _ _)) ?_;let g:⇑s≠⇑s+1:=BG (Ch _);refine ⟨by rw [Aq g,upd_same],AX _,g,h,λ_=>none,(Heap.Ns1.of_empty i).at λo q=>Heap.get?_push_of_some _ q,λ_=>True.intro,λy m=>absurd rfl m⟩
def Uv {prog:Program} {w:World} {b:Env} {e:Expr} {f:Str} {d:Pos} {s:Shared} {Q:cN} (g:attributeBase e f b (eval e b)=eval e b)
  (h:wpAny (model prog w) A (eval e b) (λo c=>wpAny (model prog w) A (getAttr o f true) Q E c) E s):wpAny (model prog w) A (eval (.Attribute e f d) b) Q E s:=
 Attribute_any_ h (by rw [arm_eval_Attribute,g])
end
def CS (K:W.Frag) (d:TE) (f:Str):TE:=λe H Q=>d e H λx b=>∃ a C g c v,x=.ref a/\b a=some (.ins C g c)/\Cls K C/\NoAttr K C f/\c.lookup f=some v/\Q v b
def Fz (K:W.Frag) (g h:TE) (f:Str):TS:=λD b H=>h b H λy i=>g b i λx d=>∃ a C e c,x=.ref a/\d a=some (.ins C e c)/\Cls K C/\NoAttr K C f/\↑c<1000/\
 D.nx b (upd d a (.ins C e (CD f y c)))
section
variable {X:Cx} {o e value:Expr} {f:Str} {pos pos' tpos:Pos} {ta tv:TE}
def Ck (d:PE X e ta) (g:attributeBase e f X.env (eval e X.env)=eval e X.env):PE X (.Attribute e f pos) (CS X.K ta f):=by
 intro b s i H Q I h;refine Uv g (H_ (d b s i H _ I h) λu z ⟨x,j,k,m,a,C,A,B,v,p,r,c,n,l,q⟩=>?_);subst p;obtain rfl:u=Value.ref a:=m;exact Ut k r c n l λD E w y=>⟨v,j,w,y,q⟩
def HV (g:PE X o ta) (i:PE X value tv) (j:swapsWith value (some (.Attribute o f pos')) pos.line X.env=pure false):PS X (.Assign [.Attribute o f pos'] value pos) (Fz X.K ta tv f):=by
 intro b s d H D I h;refine plainObj_wpAny_Assign_Attribute (H_ (i b s d H _ I h) λu k ⟨y,m,p,r,q⟩=>H_ (g b k d m _ p q) λv G ⟨x,J,w,z,a,C,K,L,A,B,c,n,l,E⟩=>?_) j;subst A;obtain rfl:v=Value.ref a:=z;exact Uu w B c n l r λM F=>⟨d,_,F,E⟩
end
section
variable {X:Cx} {pins:cO} {σ:St} {H:Hp} {s:Shared} {A:Around} {E:cN} {Q:cN} {c:Value} {b:Bool}
inductive TyOf (K:W.Frag) (H:Hp):V->Value->Prop where
 | non:TyOf K H .non (.type "NoneType")
 | bl (x:Bool):TyOf K H (.bl x) (.type "bool")
 | int (i:Int):TyOf K H (.int i) (.type "int")
 | str (x:Str):TyOf K H (.str x) (.type "str")
 | flt (x:UInt64):TyOf K H (.flt x) (.type "float")
 | lst {a:Addr} {xs:cJ} (e:H a=some (.lst xs)):TyOf K H (.ref a) (.type "list")
 | frz {a:Addr} {o:Obj} {xs:cJ} (e:H a=some (.frz o (.lst xs))):TyOf K H (.ref a) (.type "list")
 | tup {a:Addr} {xs:cJ} (e:H a=some (.tup xs)):TyOf K H (.ref a) (.type "tuple")
 | dK {a:Addr} {kvs:List (V_×V)} (e:H a=some (.dK kvs)):TyOf K H (.ref a) (.type "dict")
 | dT {a:Addr} {kvs:List (List V_×V)} (e:H a=some (.dT kvs)):TyOf K H (.ref a) (.type "dict")
 | ins {a C dx:Addr} {fs:List (Str×V)} (e:H a=some (.ins C dx fs)) (cl:Cls K C) (ha:W.findIn K (.ref C) "__class__" = some (some (.builtin "object.__class__")))
   (hn:W.specialIn K (.builtin "object.__class__") "__get__" = some (some (.builtin "getset_descriptor.__get__"))) (htk:W.takesIn K (.builtin "object.__class__")=some true)
   (hm:W.mroIn K C (.type "object")=some true):TyOf K H (.ref a) (.ref C)
theorem Uw {x:V} {u t:Value} (I:Inv X pins σ H s) (d:RelV x u) (B:TyOf X.K H x t) (e:W.kitOne X.K t c=some b) (h:∀ D,Q (.bool b) { s with toks:=D }) :
  wpAny (model X.prog X.w) A (call (.builtin "isinstance") [u,c]) Q E s:=by
 cases B with
 | non=>cases (show u=Value.none from d);exact W.kia_one W.kitx_none I.kIn True.intro e (λz=>nomatch z) h
 | bl y=>cases (show u=Value.bool y from d);exact W.kia_one W.kitx_bool I.kIn True.intro e (λz=>nomatch z) h
 | int i=>let ⟨t,q⟩:=(show ∃ t,u=Value.int i t from d);cases q;exact W.kia_one W.kitx_int I.kIn True.intro e (λz=>nomatch z) h
 | str y=>let ⟨t,q⟩:=(show ∃ t,u=Value.str y t from d);cases q;exact W.kia_one W.kitx_str I.kIn True.intro e (λz=>nomatch z) h
 | flt y=>let ⟨t,q⟩:=(show ∃ t,u=Value.float y t from d);cases q;exact W.kia_one W.kitx_float I.kIn True.intro e (λz=>nomatch z) h
 | @lst a k f=>
   cases (show u=Value.ref a from d);let ⟨_,_,n,_,g⟩:=(show ObjOk X.prog X.w H s.heap a (.lst k) from I.hok a _ f);exact W.kia_one W.kitx_list I.kIn ⟨_,g,rfl⟩ e (λz=>nomatch z) h
 | @frz a F k f=>
   cases (show u=Value.ref a from d);let ⟨_,_,_,n,_,g⟩:=(show ObjOk X.prog X.w H s.heap a (.frz F (.lst k)) from I.hok a _ f);exact W.kia_one W.kitx_list I.kIn ⟨_,g,rfl⟩ e (λz=>nomatch z) h
 | @tup a k f=>
   cases (show u=Value.ref a from d);let ⟨_,_,_,p⟩:=(show ObjOk X.prog X.w H s.heap a (.tup k) from I.hok a _ f);let ⟨o,g,m,_⟩:=p;exact W.kia_one W.kitx_tuple I.kIn ⟨o,g,m⟩ e (λz=>nomatch z) h
 | @dK a j f=>
   cases (show u=Value.ref a from d);let ⟨_,_,P,_,p⟩:=(show ObjOk X.prog X.w H s.heap a (.dK j) from I.hok a _ f);let ⟨o,G,K,g,m,_⟩:=p;exact W.kia_one W.kitx_dict I.kIn ⟨o,g,m.1⟩ e (λz=>nomatch z) h
 | @dT a j f=>
   cases (show u=Value.ref a from d);let ⟨_,_,k,_,o,G,K,g,m,_⟩:=(show ObjOk X.prog X.w H s.heap a (.dT j) from I.hok a _ f);exact W.kia_one W.kitx_dict I.kIn ⟨o,g,m.1⟩ e (λz=>nomatch z) h
 | @ins a C R S f w L M r N=>
   cases (show u=Value.ref a from d);let ⟨T,O,_⟩:=KF I.hok f;let ⟨U,J,_⟩:=O.look;exact W.kia_one (W.kitx_own (w.get _) w.hd L M r N) I.kIn J e (λz=>nomatch z) h
end
structure Room (k:Nat) (A:Around):Prop where
 hd:A.handled=none
 dp:A.depth+3*k+105<recursionLimit
 un:A.units+16*k+200<cLine
def Room.mono {j k:Nat} {A:Around} (r:Room k A) (h:j<=k):Room j A:=⟨r.hd,by have:=r.dp;omega,by have:=r.un;omega⟩
def Room.deeper {k:Nat} {A:Around} (r:Room (k+1) A) (a:Env):Room k (A.deeper a):=
 ⟨r.hd,by have:=r.dp;show A.depth+1+3*k+105<_;omega,by have:=r.un;show A.units+3+16*k+200<_;omega⟩
def Ux {A:Around} {C:Addr} {a:cM} {b:List (Str×Value)}:(A.under (.builtin "type.__call__" ⟨.ref C::a,b⟩)).depth=A.depth+1:=by
 first | rfl | simp [Around.under,Code.weight,Code.isCreation,Code.isGuard,Code.isCaller,Code.frames,Code.isFrame,guardIds]
def Uy {A:Around} {C:Addr} {a:cM} {b:List (Str×Value)}:(A.under (.builtin "type.__call__" ⟨.ref C::a,b⟩)).units=A.units+1:=by
 first | rfl | simp [Around.under,Code.cUnits,Code.frames,Code.isFrame]
def Room.make {k:Nat} {A:Around} (r:Room (k+1) A) (C:Addr) (a:cM) (b:List (Str×Value)):Room k (A.under (.builtin "type.__call__" ⟨.ref C::a,b⟩)):=
 ⟨r.hd,by have:=r.dp;rw [Ux];omega,by have:=r.un;rw [Uy];omega⟩
def Room.depth {k:Nat} {A:Around} (r:Room k A):A.depth<recursionLimit:=by have:=r.dp;omega
def Room.units {k:Nat} {A:Around} (r:Room k A):A.units+64<cLine:=by have:=r.un;omega
def Room.units0 {k:Nat} {A:Around} (r:Room k A):A.units<cLine:=by have:=r.un;omega
def AC:TA:=λ_ H Q=>Q [] H
def AB (b:TE) (tr:TA):TA:=λa H Q=>b a H λx c=>tr a c λd e=>Q (x::d) e
section
variable {X:Cx} {e:Expr} {es:cQ} {te:TE} {t:TA} {pos:Pos}
def AK:PA X [] AC:=λ_ _ _ _ H Q I h=>Calls.spliced_nil ⟨[],H,I,.nil,h⟩
def AE (c:PE X e te) (d:PA X es t) (f:starEach (e::es) X.env=(false,eval e X.env)::starEach es X.env:=by rfl):PA X (e::es) (AB te t):=by
 intro pos a s b H Q I h;rw [f];show wpAny _ _ (spliced ((false,eval e X.env)::backTo pos (starEach es X.env))) _ _ s;refine Calls.spliced_cons (H_ (c a s b H _ I h) λu g ⟨x,i,j,k,m⟩=>?_);exact H_ (d pos a g b i _ j m) λv w ⟨n,o,p,q,r⟩=>⟨x::n,o,p,.cons k q,r⟩
def A6 (t:TA):TE:=λc H Q=>t c H λa b=>↑a<=sizeLine/\∀ p,b p=none->Q (.ref p) (upd b p (.tup a))
def A9 (t:TA):TE:=λc H Q=>t c H λa b=>↑a<=sizeLine/\∀ p,b p=none->Q (.ref p) (upd b p (.lst a))
def Ba {x1} (h:PA X es t):PE X (.Tuple es x1 pos) (A6 t):=by
 intro a s g H Q I i;refine wpAny_Tuple_spliced (H_ (h pos a s g H _ I i) λj c ⟨k,d,f,r,z,q⟩=>⟨by rw [<-↑r];exact z,?_⟩);let m:d ⇑c=none:=f.hok.fresh (AV _);refine ⟨.ref ⇑c,upd d ⇑c (.tup k),f.laid (t':=c.toks) (λb u e=>Heap.get?_push_of_some _ e) (AV _) ?_,rfl,q _ m⟩;exact ⟨z,j,r,⟨_,Heap.get?_push_size _ rfl,rfl,_,rfl⟩⟩
def BS (h:PA X es t):PE X (.List es pos) (A9 t):=by
 intro a s g H Q I i;refine wpAny_List_spliced (H_ (h pos a s g H _ I i) λj c ⟨k,d,f,r,z,q⟩=>⟨by rw [<-↑r];exact z,?_⟩);let m:d ⇑c=none:=f.hok.fresh (AV _);refine ⟨.ref ⇑c,upd d ⇑c (.lst k),f.laid (t':=c.toks) (λb u e=>Heap.get?_push_of_some _ e) (AV _) ?_,rfl,q _ m⟩;exact ⟨z,j,0,r,Heap.get?_push_size _ rfl⟩
end
noncomputable abbrev Sp:=cJ->Hp->VK->XK->Prop
noncomputable abbrev av:=List Env->Hp->Shared->XK->cN
structure Env0 (P:Program) (w:World) (K:W.Frag) (mg:cP) (base:Heap) (A:Around) (outer:List Env) (s:Shared) (H:Hp):Prop where
 frames:A.frames=some outer
 mod:Mod K mg base
 bs:∀ b o,base.get? b=some o->s.heap.get? b=some o/\H b=none
 bsz:base.objs.size<=⇑s
 funs:s.heap.FunFrames base outer
 frf:∀ b∈af outer,H b=none
 hok:HOk P w H s.heap
 bare:AllBare s.gens
 seer:base.NoSeer
 tree:(model P w).prog.given.tree=none
def CE (a:List Env) (P:Program) (w:World) (H:Hp) (s:Shared) (Q:VK) (u:Value) (s':Shared):Prop:=
 ∃ v b,s'.os=s.os/\AllBare s'.gens/\Un (af a) [] H b s.heap s'.heap/\HOk P w b s'.heap/\RelV v u/\Q v b
def CR (CX:av) (a:List Env) (P:Program) (w:World) (H:Hp) (s:Shared) (Q:VK) (E:XK) (r:Result) (s':Shared):Prop:=
 match r with
 | .ok (.ret u)=>CE a P w H s Q u s'
 | .ok _=>False
 | .error e=>CX a H s E e s'
structure FnOk (P:Program) (w:World) (K:W.Frag) (mg:cP) (base:Heap) (CX:av) (k:Nat) (f:Addr) (fd:FuncData) (ps:cT) (sp:Sp):Prop where
 len:∀ vs H Q E,sp vs H Q E->↑vs=↑ps
 run:∀ (A:Around) (outer:List Env) (s:Shared) (H:Hp) (args:Args) (us:cM) (vs:cJ) (Q:VK) (E:XK),Room k A->Env0 P w K mg base A outer s H->BindsTo s fd args (ps.zip us)->Vals vs us->sp vs H Q E->
  codeAny (model P w) A (.call (.ref f) args) (CR CX outer P w H s Q E) s
def Env0.make {P:Program} {w:World} {K:W.Frag} {c:cP} {b:Heap} {A:Around} {a:List Env} {s:Shared} {H:Hp} (e:Env0 P w K c b A a s H) (C:Addr) (d:cM) (f:List (Str×Value)) :
  Env0 P w K c b (A.under (.builtin "type.__call__" ⟨.ref C::d,f⟩)) a s H:=⟨by first | exact e.frames | (simpa [Around.under,Code.envs,Code.isFrame,pushEnvs] using e.frames),e.mod,e.bs,e.bsz,e.funs,e.frf,e.hok,e.bare,e.seer,e.tree⟩
section
variable {X:Cx} {pins:cO} {σ:St} {H:Hp} {s s':Shared}
def Inv.env0 (I:Inv X pins σ H s):Env0 X.prog X.w X.K X.mg X.base X.A X.stack s H:=
 ⟨I.ok.frames,I.ok.mod,I.bs,BM I.ok.bsz I.sz,I.stack,I.stkFree,I.hok,I.bare,I.ok.seer,I.ok.tree⟩
def Inv.after {Q:VK} {u:Value} (I:Inv X pins σ H s) (h:CE X.stack X.prog X.w H s Q u s'):EP X pins σ Q u s':=by
 let ⟨v,f,os,a,i,c,r,q⟩:=h;let ⟨j,g,d,t,e⟩:=s';obtain rfl:e=s.os:=os;exact ⟨v,f,I.call (h':=j) (g':=g) (d':=d) (t':=t) (ch:=[]) i c a (λb z=>absurd z (by simp)),r,q⟩
end
def AQ (sp:Sp) (a:cJ) (E:XK) (t:TA):TE:=λb H Q=>t b H λc d=>sp (c++a) d Q E
def Gc (C:Addr) (sp:Sp) (b:cJ) (E:XK) (t:TA):TE:=λd H Q=>t d H λe c=>∀ x a,c x=none->c a=none->a≠x->
 sp (.ref x::(e++b)) (upd (upd c a (.own x)) x (.ins C a [])) (λv f=>v=.non/\Q (.ref x) f) E
def Binds (K:W.Frag) (b:FuncData) (ps:cT) (ds:cM):Prop:=
 ∀ (s:Shared) (a:cM),K.In s.heap->(a++ds).length=↑ps->BindsTo s b ⟨a,[]⟩ (ps.zip (a++ds))
def Binds.all {K:W.Frag} {b:FuncData} {ps:cT} (h:∀ a:cM,↑a=↑ps->bindArgs b ⟨a,[]⟩=pure (ps.zip a)):Binds K b ps []:=λs a _ c=>by
 rw [List.append_nil] at c ⊢;exact .of_eq (h a c)
def T_ (CX:av) (X:Cx) (E:XK):Prop:=∀ (a:cO) (c:St) (H:Hp) (s:Shared) (e:Value) (b:Shared),Inv X a c H s->CX X.stack H s E e b->X.xe e b
section
variable {X:Cx} {CX:av} {k:Nat} {f C:Addr} {fd:FuncData} {ps:cT} {sp:Sp} {dvs:cJ} {ds:cM} {E:XK} {x m:Str} {p pos apos:Pos} {e o:Expr} {es:cQ} {ta:TE} {t:TA}
theorem Uz {a:cO} {g:St} {H:Hp} {s:Shared} {Q:VK} {b:cM} {d:cJ} (F:FnOk X.prog X.w X.K X.mg X.base CX k f fd ps sp) (j:Room k X.A) (n:Binds X.K fd ps ds) (q:Vals dvs ds) (v:T_ CX X E)
  (I:Inv X a g H s) (r:Vals d b) (h:sp (d++dvs) H Q E):wpAny (model X.prog X.w) X.A (call (.ref f) b) (EP X a g Q) X.xe s:=by
 let i:Vals (d++dvs) (b++ds):=r.append q;let w:(b++ds).length=↑ps:=by rw [<-↑i];exact F.len _ _ _ _ h
 refine wpAny_call (codeAny_mono (F.run X.A X.stack s H ⟨b,[]⟩ (b++ds) (d++dvs) Q E j I.env0 (n s b I.kIn w) i h) λr y c=>?_);cases r with
 | error e=>exact v a g H s e y I c
 | ok z=>
   cases z with
   | ret u=>exact I.after c
   | next=>exact False.elim c
   | brk=>exact False.elim c
   | cont=>exact False.elim c
def U0 (F:FnOk X.prog X.w X.K X.mg X.base CX k f fd ps sp) (g:Room k X.A) (i:Gl X x) (j:X.mg x=↥f) (hk:W.keepIn X.K (.ref f)=true) (n:Binds X.K fd ps ds) (u:Vals dvs ds) (v:T_ CX X E)
  (w:PA X (e::es) t) (b:(x == ("__debug__" : Str))=false:=by decide) (y:starEach (e::es) X.env=(false,eval e X.env)::starEach es X.env:=by rfl) (c:(backTo pos (starEach es X.env)).any (·.1)=false:=by rfl) :
  PE X (.Call (.Name x p) (e::es) [] pos) (AQ sp dvs E t):=by
 intro a s z H Q I h;refine wpAny_Call_Name_kw (J7 I i j ?_ b);refine W.callWith_K (h₀:=X.base) I.ok.mod.kin hk (H_ (w pos a s z H _ I h) λA B ⟨D,G,d,r,q⟩=>⟨d.kIn,?_⟩) y c;exact Uz F g n u v d r q
structure Mk (K:W.Frag) (C f:Addr):Prop where
 makes:W.makesIn K C=true
 init:W.findIn K (.ref C) "__init__" = some (↥f)
 fn:W.isFn K (.ref f)=true
 kp:W.keepIn K (.ref C)=true
theorem U1 {a:cO} {i:St} {H:Hp} {s:Shared} {Q:VK} {c:cM} {j:cJ} (M:Mk X.K C f) (F:FnOk X.prog X.w X.K X.mg X.base CX k f fd ps sp) (w:Room (k+1) X.A) (y:Binds X.K fd ps ds) (z:Vals dvs ds)
  (A:T_ CX X E) (I:Inv X a i H s) (r:Vals j c)
  (h:∀ x d,H x=none->H d=none->d≠x->sp (.ref x::(j++dvs)) (upd (upd H d (.own x)) x (.ins C d [])) (λv B=>v=.non/\Q (.ref x) B) E) :
  wpAny (model X.prog X.w) X.A (call (.ref C) c) (EP X a i Q) X.xe s:=by
 let n:=h (⇑s+1) ⇑s (I.hok.fresh (D7 _)) (I.hok.fresh (AV _)) (BG (Ch _));let g:=Inv.made (C:=C) I;let q:Vals (V.ref (⇑s+1)::(j++dvs)) (Value.ref (⇑s+1)::(c++ds)):=.cons rfl (r.append z)
 let D:(Value.ref (⇑s+1)::c++ds).length=↑ps:=by
  let e:=↑q;rw [F.len _ _ _ _ n] at e;exact e.symm
 refine wpAny_call (Ur (f:=f) I.kIn M.makes M.init (beq_iff_eq.mp M.fn) (codeAny_mono (F.run _ X.stack _ _ ⟨Value.ref (⇑s+1)::c,[]⟩ (Value.ref (⇑s+1)::(c++ds)) _ _ E (w.make C c [])
  (g.env0.make C c []) (y _ (Value.ref (⇑s+1)::c) g.kIn D) q n) λr G b=>?_))
 cases r with
 | error e=>exact A a i _ _ e G g b
 | ok J=>
   cases J with
   | ret u=>
     let ⟨v,K,L,N,O,P⟩:=g.after b;subst O;exact ⟨N,⟨V.ref (⇑s+1),K,L,rfl,P⟩⟩
   | next=>exact False.elim b
   | brk=>exact False.elim b
   | cont=>exact False.elim b
def U3 (M:Mk X.K C f) (F:FnOk X.prog X.w X.K X.mg X.base CX k f fd ps sp) (g:Room (k+1) X.A) (i:Gl X x) (j:X.mg x=↥C) (n:Binds X.K fd ps ds) (u:Vals dvs ds) (v:T_ CX X E)
  (w:PA X (e::es) t) (b:(x == ("__debug__" : Str))=false:=by decide) (y:starEach (e::es) X.env=(false,eval e X.env)::starEach es X.env:=by rfl) (c:(backTo pos (starEach es X.env)).any (·.1)=false:=by rfl) :
  PE X (.Call (.Name x p) (e::es) [] pos) (Gc C sp dvs E t):=by
 intro a s z H Q I h;refine wpAny_Call_Name_kw (J7 I i j ?_ b);refine W.callWith_K (h₀:=X.base) I.ok.mod.kin M.kp (H_ (w pos a s z H _ I h) λA B ⟨D,G,d,r,q⟩=>⟨d.kIn,?_⟩) y c;exact U1 M F g n u v d r q
end
def PK (X:Cx) (b:List Keyword) (t:TA):Prop:=
 ∀ (c:Pos) (a:cO) (s:Shared) (d:St) (H:Hp) (Q:cJ->Hp->Prop),Inv X a d H s->t d H Q->wpAny (model X.prog X.w) X.A (evalAll ((backToKw c (keywordEach b X.env)).map (·.2))) (AP X a d Q) X.xe s
section
variable {X:Cx} {CX:av} {k:Nat} {f C:Addr} {fd:FuncData} {ps ks:cT} {sp:Sp} {E:XK} {x m:Str} {p pos apos kpos:Pos} {e o:Expr} {es:cQ} {kws:List Keyword} {te ta:TE} {t tk:TA} {nm:Option Str}
def U4:PK X [] AC:=λ_ _ _ _ H Q I h=>wpAny_evalAll_nil ⟨[],H,I,.nil,h⟩
def U5 (c:PE X e te) (d:PK X kws t):PK X (⟨nm,e,kpos⟩::kws) (AB te t):=by
 intro pos a s b H Q I h;show wpAny _ _ (evalAll ((do let v <-eval e X.env;standAt pos;pure v)::(backToKw pos (keywordEach kws X.env)).map (·.2))) _ _ s;refine wpAny_evalAll_cons (pI (H_ (c a s b H _ I h) λu g ⟨x,i,j,n,q⟩=>pI (wpAny_standAt (pJ ?_))));exact H_ (d pos a g b i _ j q) λB D ⟨r,w,y,z,A⟩=>⟨x::r,w,y,.cons n z,A⟩
variable {g:cM->cM->cM} {gV:cJ->cJ->cJ}
end
structure FnScope (N P:cT) (sc:Scope):Prop where
 kind:sc.kind=.function
 co:sc.isCoroutine=false
 gen:sc.isGenerator=false
 nd:N.Nodup
 pre:N.take ↑P=P
 par:∀ x∈P,sc.names.lookup x=some .local\/sc.names.lookup x=some .cell
 nofree:∀ y∈sc.names,y.2≠.free
theorem M7 {kindOf:Str->Option NameKind} {x:Str}:∀ {a:List (Str×Value)} {m:cP},(∀ v,(x,v)∉a)->bindL kindOf a m x=m x
 | [],_,_=>rfl
 | (n,v)::r,m,h=>by
   unfold bindL;rw [M7 λw b=>h w (Dn _ b)];split
   ·have:x≠n:=by rintro rfl;exact h v D6
    simp [this]
   ·rfl
theorem M8 {kindOf:Str->Option NameKind} {x:Str}:∀ {a:List (Str×Value)} {m:cP},(∀ v,(x,v)∉a)->bindC kindOf a m x=m x
 | [],_,_=>rfl
 | (n,v)::r,m,h=>by
   unfold bindC;rw [M8 λw b=>h w (Dn _ b)];split
   ·rfl
   ·have:x≠n:=by rintro rfl;exact h v D6
    simp [this]
theorem M9 {kindOf:Str->Option NameKind} {x:Str} {v:Value}:∀ {P:cT} {a:cM} {i:Nat} {m:cP},P.Nodup->P[i]?=some x->a[i]?=some v->kindOf x=some .local->
  bindL kindOf (P.zip a) m x=some v
 | [],_,_,_,_,h,_,_=>by simp at h
 | _::_,[],_,_,_,_,h,_=>by simp at h
 | p::P,w::a,0,m,d,b,c,hk=>by
   simp at b c;subst b;subst c;show bindL kindOf ((p,w)::P.zip a) m p=_;unfold bindL;rw [M7 λv e=>(List.nodup_cons.mp d).1 (List.of_mem_zip e).1,pB hk];simp
 | p::P,w::a,i+1,m,d,b,c,hk=>by
   show bindL kindOf ((p,w)::P.zip a) m x=_;unfold bindL;exact M9 (i:=i) (List.nodup_cons.mp d).2 (by simpa using b) (by simpa using c) hk
theorem NA {kindOf:Str->Option NameKind} {x:Str} {v:Value}:∀ {P:cT} {a:cM} {i:Nat} {m:cP},P.Nodup->P[i]?=some x->a[i]?=some v->kindOf x≠some .local->
  bindC kindOf (P.zip a) m x=some v
 | [],_,_,_,_,h,_,_=>by simp at h
 | _::_,[],_,_,_,_,h,_=>by simp at h
 | p::P,w::a,0,m,d,b,c,hk=>by
   simp at b c;subst b;subst c;show bindC kindOf ((p,w)::P.zip a) m p=_;unfold bindC;rw [M8 λv e=>(List.nodup_cons.mp d).1 (List.of_mem_zip e).1,qZ hk];simp
 | p::P,w::a,i+1,m,d,b,c,hk=>by
   show bindC kindOf ((p,w)::P.zip a) m x=_;unfold bindC;exact NA (i:=i) (List.nodup_cons.mp d).2 (by simpa using b) (by simpa using c) hk
noncomputable def start (N:cT) (a:cJ):St:=a.map some++List.replicate (↑N - ↑a) none
noncomputable def F0 (CX:av) (P:Program) (w:World) (K:W.Frag) (h:cP) (c:Heap) (N:cT) (qual:Str) (a:Scope) (f:Addr) (g:Value) (A:Around) (b:List Env) (s:Shared) (H:Hp) (E:XK):Cx where
 prog:=P
 w:=w
 K:=K
 mg:=h
 base:=c
 A:=A.deeper (envOfC qual a ⇑s f g)
 N:=N
 s₀:=s
 H₀:=H
 env:=envOfC qual a ⇑s f g
 outer:=b
 stack:=envOfC qual a ⇑s f g::b
 ex:=[]
 calm:=true
 fn:=λ_=>true
 pn:=[]
 xe:=λe i=>wpAny (model P w) (A.deeper (envOfC qual a ⇑s f g)) (leaving (envOfC qual a ⇑s f g) e) (λ_ d=>CX b H s E e d) (λj d=>CX b H s E j d) i
def NC {a:Scope} {n:Nat} {x:Str} (h:a.names.lookup x=some .cell):∃ c,(cellsFrom n a.names []).lookup x=some c:=by
 let q:=W.cellsFrom_some a.names n [] (.inl h);exact Option.isSome_iff_exists.mp q
def U6 {CX:av} {P:Program} {w:World} {K:W.Frag} {M:cP} {o:Heap} {N ps:cT} {qual:Str} {d:Scope} {f:Addr} {F:Value} {A:Around} {j:List Env} {s R:Shared} {H:Hp} {E:XK} {O:cM} {B:cJ}
  (S:FnScope N ps d) (U:A.handled=none) (Q:(A.deeper (envOfC qual d ⇑s f F)).depth+Builtin.pylongFrames<recursionLimit) (g:Env0 P w K M o A j s H) (hl:↑B=↑ps) (r:Vals B O)
  (x:InCallC s ⇑s (bindL (envOfC qual d ⇑s f F).kindOf (ps.zip O) λ_=>none) (cellsFrom (⇑s+1) d.names []) (bindC (envOfC qual d ⇑s f F).kindOf (ps.zip O) λ_=>none) R) :
  Inv (F0 CX P w K M o N qual d f F A j s H E) [] (start N B) H R:=by
 let X:↑ps<=↑N:=by have:=congrArg List.length S.pre;rw [BC] at this;omega
 let ⟨J,tk,rfl,hk⟩:=x.done;let C:∀ b:Addr,b∉(F0 CX P w K M o N qual d f F A j s H E).ex:=λb z=>absurd (show b∈([]:cV) from z) (by simp)
 refine ⟨⟨g.mod,S.kind,rfl,rfl,AV _,λy z c J m=>?_,λy D=>?_,λy c _ h=>?_,λ_=>U,Around.frames_deeper g.frames,.inr ⟨rfl,rfl⟩,λb z=>absurd z (C b),g.bs,g.bsz,λb _ _=>C b,λb z=>absurd z (C b),g.funs,g.frf,g.seer,g.tree,λs' G=>PySem.PylongRoom.of (g.mod.nolimit.keeps G) Q (PySem.SeerAt.of (g.seer.keeps G) g.tree (Around.frames_deeper g.frames) S.gen S.co rfl rfl)⟩,
  rfl,g.bare,Un.kept hk,⟨_,x.toInCall.ns,λi y v J m h3=>?_⟩,λy c h=>⟨_,x.cell y c h⟩,g.hok.fresh (AV _),λy c h=>?_,λp hp=>absurd (show p∈([]:cO) from hp) (by simp),g.hok.kept hk,?_⟩
 ·exact name_of_addr x.apart (PySem.mem_of_lookup J) (PySem.mem_of_lookup m)
 ·let D:d.names.lookup y=some .cell\/d.names.lookup y=some .free:=D;rcases D with D | D
  ·exact NC D
  ·exact absurd rfl (S.nofree _ (PySem.mem_of_lookup D))
 ·exact Nat.le_of_lt (x.above y c (PySem.mem_of_lookup h))
 ·let L:i<↑B:=by
   unfold start at m;by_cases L:i<↑B
   ·exact L
   ·rw [De (by simpa using L)] at m;rw [Do] at m;split at m <;> cases m
  let Y:B[i]?=some v:=by
   unfold start at m;rw [D8 (by simpa using L),Ac] at m;cases e:B[i]? with
   | none=>rw [e] at m;cases m
   | some a=>rw [e] at m;cases m;rfl
  let ⟨u,T,Z⟩:=r.get Y
  let hp:ps[i]?=some y:=by
   rw [<-S.pre,List.getElem?_take_of_lt ⋯];exact J
  let I:ps.Nodup:=by rw [<-S.pre];exact S.nd.sublist (List.take_sublist _ _)
  refine ⟨u,Z,?_⟩;rcases S.par y (A5 hp) with k | k
  ·exact .inl ⟨k,M9 I hp T k⟩
  ·let ⟨c,e⟩:=NC (n:=⇑s+1) k;refine .inr ⟨.inl k,c,e,?_⟩;let q:=x.cell y c e;rw [NA I hp T (by show d.names.lookup y≠_;rw [k];decide)] at q;exact q
 ·exact g.hok.fresh (Nat.le_of_lt (x.above y c (PySem.mem_of_lookup h)))
 ·unfold start;show _=↑N;rw [B3,AI,FN];omega
theorem U7 {CX:av} {P:Program} {w:World} {K:W.Frag} {M:cP} {g:Heap} {k:Nat} {f:Addr} {name qual:Str} {h:Arguments} {i:List Stmt} {a:Scope} {Z kV D pm d ct oc:Value} {an od:Option Addr}
  {R:Array (cU)} {N ps:cT} {sp:Sp} (lk:K.lookup f=some ⟨oc,od,.func (W.fnOf name qual h i a Z kV D pm an d ct),R⟩) (T:W.codeIn K d qual=true) (S:FnScope N ps a)
  (len:∀ j H Q E,sp j H Q E->↑j=↑ps)
  (z:∀ (A:Around) (c:List Env) (s:Shared) (H:Hp) (j:cJ) (Q:VK) (E:XK),Room k (A.deeper (envOfC qual a ⇑s f d))->sp j H Q E->
   ∃ t,PSs (F0 CX P w K M g N qual a f d A c s H E) i t/\t { nx:=λ_ p=>Q .non p,rt:=Q } (start N j) H) :
  FnOk P w K M g CX (k+1) f (W.fnOf name qual h i a Z kV D pm an d ct) ps sp:=by
 refine ⟨len,λA c s H a0 us j Q E O F hb r G=>?_⟩;let hl:=len _ _ _ _ G;let KX:K.In s.heap:=F.mod.kin.keeps λb o e=>(F.bs b o e).1;let U:s.heap.NoLimit:=F.mod.nolimit.keeps λb o e=>(F.bs b o e).1
 let B:∀ y∈ps.zip us,a.names.lookup y.1=some .local\/(a.names.lookup y.1=some .cell/\((cellsFrom (⇑s+1) a.names []).lookup y.1).isSome=true):=λ⟨n,v⟩ hy=>by
  rcases S.par n (List.of_mem_zip hy).1 with q | q
  ·exact .inl q
  ·exact .inr ⟨q,W.cellsFrom_some _ _ _ (.inl q)⟩
 refine codeAny_call_function O.depth (KX _ _ lk) rfl S.co S.gen rfl (W.codeRec_of KX T) (hb _ _ _ _ ?_);refine wpAny_newFunctionEnv_cells S.kind B λa3 he s1 x=>?_;subst he;refine ⟨U.keeps x.toInCall.keep,codeAny_func ?_⟩;let ⟨t,ht,hq⟩:=z A c s H j Q E (O.deeper _) G;let I:Inv (F0 CX P w K M g N qual a f d A c s H E) [] (start N j) H s1:=U6 S O.hd (by have:=(O.deeper (envOfC qual a ⇑s f d)).dp;show _+100<_;omega) F hl r x;refine pK (ht [] s1 (start N j) H _ I hq) (λfl X C=>?_) λe X C=>C
 let L:∀ {m:St} {p:Hp} {v:V} {u:Value},Inv (F0 CX P w K M g N qual a f d A c s H E) [] m p X->RelV v u->Q v p->CE c P w H s Q u X:=
  λ{m p v u} J Y q=>⟨v,p,J.os,J.bare,J.base,J.hok,Y,q⟩
 cases fl with
 | ret u=>
   let ⟨v,m,p,J,Y,q⟩:=C;exact L J Y q
 | next=>
   let ⟨m,p,J,q⟩:=C;exact L (v:=V.non) (u:=Value.none) J rfl q
 | brk=>
   let ⟨_,_,_,q⟩:=C;exact False.elim q
 | cont=>
   let ⟨_,_,_,q⟩:=C;exact False.elim q
section
variable {X:Cx} {x:Str} {p pos:Pos} {e:Expr} {es:cQ} {t:TA} {id T:String} {r:cJ->Hp->VK->Prop}
def E_ (r:cJ->Hp->VK->Prop) (t:TA):TE:=λa H Q=>t a H λb c=>r b c Q
def Ai (f:C6 X (.builtin id) r) (g:Gl X x) (i:X.mg x=none) (j:bootBuiltins x=some (.builtin id)) (k:PA X (e::es) t) (m:x ≠ "__name__" := by decide) (b:(x == ("__debug__" : Str))=false:=by decide)
  (n:starEach (e::es) X.env=(false,eval e X.env)::starEach es X.env:=by rfl) (c:(backTo pos (starEach es X.env)).any (·.1)=false:=by rfl):PE X (.Call (.Name x p) (e::es) [] pos) (E_ r t):=by
 intro a s d H Q I h;refine wpAny_Call_Name_kw (Dg I g i j ?_ m b);exact PyProof.Rows.callWith_builtin1 (H_ (k pos a s d H _ I h) λo q ⟨u,v,w,y,z⟩=>f a q d v u o Q w y z) n c
def Dv (f:C6 X (.type T) r) (g:Gl X x) (i:X.mg x=none) (j:bootBuiltins x=some (.type T)) (k:PA X (e::es) t) (m:x ≠ "__name__" := by decide) (b:(x == ("__debug__" : Str))=false:=by decide)
  (n:starEach (e::es) X.env=(false,eval e X.env)::starEach es X.env:=by rfl) (c:(backTo pos (starEach es X.env)).any (·.1)=false:=by rfl):PE X (.Call (.Name x p) (e::es) [] pos) (E_ r t):=by
 intro a s d H Q I h;refine wpAny_Call_Name_kw (Dg I g i j ?_ m b);exact PyProof.Rows.callWith_type1 (H_ (k pos a s d H _ I h) λo q ⟨u,v,w,y,z⟩=>f a q d v u o Q w y z) n c
end
end L2
namespace HT
open PySem PyProof.Rows
section
variable {prog:Program} {w:World} {A:Around} {E:cN} {s:Shared}
noncomputable def sIx (n d:Nat):Option Int->Nat
 | none=>d
 | some v=>if v<0 then (v+(n:Int)).toNat else min v.toNat n
theorem U8 (n d:Nat) (b:d<=n) (o:Option Int):sIx n d o<=n:=by
 cases o with
 | none=>exact b
 | some v=>
   show (if v<0 then (v+(n:Int)).toNat else min v.toNat n)<=n;by_cases a:v<0
   ·rw [pB a];omega
   ·rw [qZ a];exact Nat.min_le_right _ _
def ND (v:Int) (n d:Nat):(if v<0 then max (v+(n:Int)) 0 else min v (n:Int))=((sIx n d (some v):Nat):Int):=by
 show (if v<0 then max (v+(n:Int)) 0 else min v (n:Int))=(((if v<0 then (v+(n:Int)).toNat else min v.toNat n):Nat):Int);by_cases a:v<0
 ·simp only [pB a];omega
 ·simp only [qZ a];omega
def U9 (lo a:Option Int) (n:Nat):Builtin.Slice.sliceAdjust lo a 1 (n:Int)=(((sIx n 0 lo:Nat):Int),((sIx n n a:Nat):Int)):=by
 let b:¬ ((1:Int)<0):=by omega
 unfold Builtin.Slice.sliceAdjust;simp only [b,if_false];refine Prod.ext ?_ ?_
 ·cases lo with
  | none=>rfl
  | some v=>exact ND v n 0
 ·cases a with
  | none=>rfl
  | some v=>exact ND v n n
def VA (i j:Nat):Builtin.Slice.slicePlaces (i:Int) (j:Int) 1=j - i:=by
 unfold Builtin.Slice.slicePlaces;let a:(1:Int) > 0:=by omega
 simp only [a,if_true,Int.ediv_one];split <;> omega
theorem NE {v:Value} {o:Option Int} {Q:Option Int->Shared->Prop} (p:IsPart v o) (h:Q o s):wpAny (model prog w) A (Builtin.Slice.slicePartIndex v) Q E s:=by
 cases p with
 | none=>exact slicePart_none h
 | int i t=>exact slicePart_int h
def NF {e:Addr} {vl d:Value} {lo a:Option Int} {n:Nat} {Q:Int×Int×Nat->Shared->Prop} (f:s.heap.IsSliceOf e vl d .none) (pl:IsPart vl lo) (g:IsPart d a)
  (h:Q (((sIx n 0 lo:Nat):Int),1,sIx n n a - sIx n 0 lo) s):wpAny (model prog w) A (Builtin.Slice.sliceApplied (.ref e) (pure (n:Int))) Q E s:=by
 let ⟨os,b,i,c⟩:=id f;unfold Builtin.Slice.sliceApplied Builtin.Slice.sliceFields;refine pI (pI (wpAny_field b c (x:=vl) rfl (pI (wpAny_field b c (x:=d) rfl (pI (wpAny_field b c (x:=.none) rfl (pJ ?_)))))));refine pI (slicePart_none ?_);show wpAny _ _ (if ((1:Int) == 0)=true then _ else _) _ _ s;rw [qZ ∅];refine pI (NE pl (pI (NE g (pI (pJ ?_)))));show wpAny _ _ (match Builtin.Slice.sliceAdjust lo a 1 (n:Int) with | (lo,a)=>pure (lo,(1:Int),Builtin.Slice.slicePlaces lo a 1)) _ _ s;rw [U9 lo a n];show wpAny _ _ (pure (((sIx n 0 lo:Nat):Int),(1:Int),Builtin.Slice.slicePlaces ((sIx n 0 lo:Nat):Int) ((sIx n n a:Nat):Int) 1)) _ _ s;rw [VA];exact pJ h
def VB (xs:Array Value) (i k:Nat):((List.range k).filterMap λ(m:Nat)=>xs[((i:Int)+(m:Int)*1).toNat]?).toArray=((xs.toList.drop i).take k).toArray:=by
 let e:(λ(m:Nat)=>xs[((i:Int)+(m:Int)*1).toNat]?)=λm=>xs[i+m]?:=by
  funext m;have:((i:Int)+(m:Int)*1).toNat=i+m:=by omega
  rw [this]
 rw [e];have:=pick_run xs i k;rw [List.filterMap_map] at this;let a:((λx=>xs[x]?) ∘ λx=>i+x)=λm=>xs[i+m]?:=rfl;rw [a] at this;rw [this]
def getItem_tuple_cut {t d:Addr} {items:Array Value} {vl j:Value} {lo b:Option Int} {Q:cN} (c:IsTup s.heap t items) (k:s.heap.IsSliceOf d vl j .none) (pl:IsPart vl lo) (p:IsPart j b)
  (r:¬ (sIx items.size 0 lo=0/\sIx items.size items.size b=items.size))
  (h:Q (.ref ⇑s) { s with heap:=s.heap.push { cls:=.type "tuple", data:=.seq ((items.toList.drop (sIx items.size 0 lo)).take (sIx items.size items.size b - sIx items.size 0 lo)).toArray } })
  (hsz:items.size<=sizeLine):wpAny (model prog w) A (getItem (.ref t) (.ref d)) Q E s:=by
 let a:sizeOk (.seq ((items.toList.drop (sIx items.size 0 lo)).take (sIx items.size items.size b - sIx items.size 0 lo)).toArray):=by
  show ((items.toList.drop (sIx items.size 0 lo)).take (sIx items.size items.size b - sIx items.size 0 lo)).toArray.size<=sizeLine;rw [A7,BC,List.length_drop,Array.length_toList];omega
 let x:sIx items.size items.size b<=items.size:=U8 _ _ (AV _) b;let ⟨os,e,f,v⟩:=id k;let g:s.TypeIs (.ref d) "slice" := ⟨os,e,f⟩;unfold getItem
 try with_reducible refine wpAny_holding ?_
 first | refine pI (pJ ?_) | skip
 refine pI (wpAny_sequenceKey c.typeIs ∅ ?_)
 refine pI (wpAny_callSpecial?_slot (name:=Str.ofString "__getitem__") c.typeIs PyProof.Rows.slot_tuple_getitem
  (wpAny_call_entry PyProof.Rows.slot_tuple_getitem c.typeIs entry_tuple_getitem ?_ (args_tuple_getitem _ _)))
 show wpAny _ _ (Builtin.Tuple.tupleItemsOf (.ref t) >>= _) _ _ s;refine pI (tupleItemsOf_ c ?_);refine pI (wpAny_typeOf g ?_);rw [pB ∅];refine pI (NF k pl p ?_)
 let i:¬ ((((sIx items.size 0 lo:Nat):Int) == 0 && (1:Int) == 1 && (sIx items.size items.size b - sIx items.size 0 lo) == items.size)=true):=by
  intro q;rw [Bool.and_eq_true,Bool.and_eq_true] at q;let y:((sIx items.size 0 lo:Nat):Int)=0:=eq_of_beq q.1.1;let z:sIx items.size items.size b - sIx items.size 0 lo=items.size:=eq_of_beq q.2;exact r ⟨⋯,⋯⟩
 show wpAny _ _ (if (((sIx items.size 0 lo:Nat):Int) == 0 && (1:Int) == 1 && (sIx items.size items.size b - sIx items.size 0 lo) == items.size)=true then _ else _) _ _ s;rw [qZ i,VB]
 first
  | exact pI (m:=Builtin.Tuple.tupleExact _) (wpAny_newObj_type (pJ ⟨_,rfl,pJ h⟩) a)
  | exact pI (m:=Builtin.Tuple.tupleExact _) (wpAny_newObj_type (pI (pJ (pJ ⟨_,rfl,pJ h⟩))) a)
  | exact pI (pI (m:=Builtin.Tuple.tupleExact _) (wpAny_newObj_type (pJ (pJ ⟨_,rfl,pJ h⟩)) a))
  | exact pI (pI (m:=Builtin.Tuple.tupleExact _) (wpAny_newObj_type (pJ ⟨_,rfl,pJ h⟩) a))
end
end HT
namespace L2
open PySem PySem.Spec PyProof.Rows
noncomputable abbrev TO:=St->Hp->(Option Int->Hp->Prop)->Prop
def PO (X:Cx) (e:Option Expr) (t:TO):Prop:=
 ∀ (a:cO) (s:Shared) (b:St) (H:Hp) (Q:Option Int->Hp->Prop),Inv X a b H s->t b H Q->
   wpAny (model X.prog X.w) X.A (evalPart e X.env) (λu d=>∃ o c,Inv X a b c d/\IsPart u o/\Q o c) X.xe s
noncomputable def DB:TO:=λ_ H Q=>Q none H
noncomputable def DC (t:TE):TO:=λa H Q=>t a H λx b=>∃ i,x=.int i/\Q (some i) b
section
variable {X:Cx} {e:Expr} {te:TE} {lo hi:Option Expr} {tl th:TO} {pos p2:Pos}
def DN:PO X none DB:=by
 intro a s b H Q I h;rw [evalPart_none];exact pJ ⟨none,H,I,.none,h⟩
def DO (h:PE X e te):PO X (some e) (DC te):=by
 intro a s b H Q I c;rw [evalPart_some];refine H_ (h a s b H _ I c) λu k ⟨x,d,f,g,j⟩=>?_;let ⟨i,rfl,q⟩:=j;let ⟨t,rfl⟩:=g;exact ⟨some i,d,f,.int i t,q⟩
def aY (X:Cx) (r:V->Option Int->Option Int->Hp->VK->Prop):Prop:=
 ∀ (a:cO) (s:Shared) (b:St) (H:Hp) (x:V) (v vl c:Value) (lo hi:Option Int) (d:Addr) (Q:VK),Inv X a b H s->RelV x v->s.heap.IsSliceOf d vl c .none->IsPart vl lo->IsPart c hi->r x lo hi H Q->
   ∃ T id,typeLookup (.type T) "__getitem__" = pure (some (.builtin id))/\s.TypeIs v T/\wpAny (model X.prog X.w) X.A (getItem v (.ref d)) (EP X a b Q) X.xe s
def S_ (r:V->Option Int->Option Int->Hp->VK->Prop) (te:TE) (tl th:TO):TE:=λa H Q=>te a H λx b=>tl a b λl c=>th a c λu d=>r x l u d Q
def DQ {r:V->Option Int->Option Int->Hp->VK->Prop} (m:aY X r) (n:PE X e te) (o:PO X lo tl) (p:PO X hi th):PE X (.Subscript e (.Slice lo hi none p2) pos) (S_ r te tl th):=by
 intro a s g H Q I h;refine Subscript_ (H_ (n a s g H _ I h) λv w ⟨x,y,z,A,B⟩=>?_);refine wpAny_Slice (H_ (o a w g y _ z B) λvl C ⟨l,D,E,pl,F⟩=>H_ (p a C g D _ E F) λj c ⟨u,k,G,J,K⟩=>?_);rw [evalPart_none];refine pJ ?_;let L:Inv X a g k { c with heap:=c.heap.push { cls:=.type "slice", data:=.fields #[vl,j,.none] } }:=G.kept (t':=c.toks) λb P q=>Heap.get?_push_of_some _ q;let ⟨T,id,M,N,O⟩:=m a { c with heap:=c.heap.push { cls:=.type "slice", data:=.fields #[vl,j,.none] } } g k x v vl j l u ⇑c Q L A (Heap.IsSliceOf.new ..) pl J K;show wpAny (model X.prog X.w) X.A (subscriptTail e (.Slice lo hi none p2) v (.ref ⇑c)) (EP X a g Q) X.xe { c with heap:=c.heap.push { cls:=.type "slice", data:=.fields #[vl,j,.none] } };exact tail_any (ops:=[.ref ⇑c,v]) N M O (by with_unfolding_all rfl)
noncomputable def Be (xs:cJ) (lo hi:Option Int):cJ:=(xs.drop (HT.sIx ↑xs 0 lo)).take (HT.sIx ↑xs ↑xs hi - HT.sIx ↑xs 0 lo)
def NG (xs:cJ) (lo hi:Option Int):(Be xs lo hi).length<=↑xs:=by
 unfold Be;rw [BC,List.length_drop];omega
def VC (K:W.Frag):V->Option Int->Option Int->Hp->VK->Prop:=λx lo hi H Q=>∃ a b,x=.ref a/\SqT K H a b/\
 ¬ (HT.sIx ↑b 0 lo=0/\HT.sIx ↑b ↑b hi=↑b)/\∀ p,H p=none->Q (.ref p) (upd H p (.tup (Be b lo hi)))
def VD:aY X (VC X.K):=by
 intro g s w H x v vl y lo hi z Q I k m pl n h;let ⟨a,d,rfl,p,u,q⟩:=h;cases k;let ⟨f,r,i,j⟩:=I.tuple p;let c:f.toArray.size=↑d:=by rw [A7];exact r.length.symm
 refine ⟨"tuple", _,PyProof.Rows.slot_tuple_getitem.lookup,i.typeIs,?_⟩;refine HT.getItem_tuple_cut i m pl n (by rw [c];exact u) ?_ (by rw [c];exact j);rw [c];refine ⟨.ref ⇑s,_,I.laid (t':=s.toks) (o:=.tup (Be d lo hi)) (λb A q=>Heap.get?_push_of_some _ q) (AV _) ?_,rfl,q _ (I.hok.fresh (AV _))⟩;exact ⟨BM (NG d lo hi) j,_,(r.drop (HT.sIx ↑d 0 lo)).take (HT.sIx ↑d ↑d hi - HT.sIx ↑d 0 lo),IsTup.new _ _⟩
end
noncomputable def Y_ (n:Nat) (i:Int):Option Nat:=if 0<=i then (if i<n then some i.toNat else none) else if -(n:Int)<=i then some (i+n).toNat else none
noncomputable def N_ {a:Type} (xs:List a) (i:Int):Option a:=(Y_ ↑xs i).bind λj=>xs[j]?
def NH {n:Nat} {i:Int} {j:Nat} (h:Y_ n i=some j):seqIndex? i n=some j/\j<n/\-(n:Int)<=i/\i<n:=by
 unfold Y_ at h;by_cases b:0<=i
 ·rw [pB b] at h;by_cases a:i<n
  ·rw [pB a] at h;let e:i.toNat=j:=pL h;exact ⟨by rw [seqIndex_of b a,e],⋯,⋯,a⟩
  ·rw [qZ a] at h;cases h
 ·rw [qZ b] at h;by_cases a:-(n:Int)<=i
  ·rw [pB a] at h;let e:(i+n).toNat=j:=pL h;exact ⟨by rw [seqIndex_neg ⋯ a,e],⋯,a,⋯⟩
  ·rw [qZ a] at h;cases h
theorem KG {a:Type} {xs:List a} {i:Int} {v:a} (h:N_ xs i=some v):∃ j,seqIndex? i ↑xs=some j/\xs[j]?=some v/\j<↑xs/\-(↑xs:Int)<=i/\i<↑xs:=by
 unfold N_ at h;cases e:Y_ ↑xs i with
 | none=>rw [e] at h;cases h
 | some j=>
   rw [e] at h;let ⟨b,c,d,f⟩:=NH e;exact ⟨j,b,h,c,d,f⟩
def DD {a:Type} {xs:List a} {j:Nat} {v:a} (h:xs[j]?=some v):N_ xs (j:Int)=some v:=by
 let b:j<↑xs:=(Ax.mp h).1
 let e:Y_ ↑xs (j:Int)=some j:=by
  unfold Y_;rw [pB ⋯,pB ⋯];simp
 unfold N_;rw [e];exact h
def VE (b:Expr):Prop:=∀ o i,subscripted b false o i=operate [o,i] (getItem o i)
def aZ (X:Cx) (r:R2):Prop:=
 ∀ (c a:Expr) (b:cO) (s:Shared) (d:St) (H:Hp) (x y:V) (v u:Value) (Q:VK),Inv X b d H s->RelV x v->RelV y u->r x y H Q->
   subscripted a false v u=operate [v,u] (getItem v u)->wpAny (model X.prog X.w) X.A (subscriptTail c a v u) (EP X b d Q) X.xe s
def MtR (X:Cx) (id:String) (r:V->cJ->Hp->VK->Prop):Prop:=
 ∀ (a:cO) (s:Shared) (b:St) (H:Hp) (x:V) (c:cJ) (v:Value) (d:cM) (Q:VK),Inv X a b H s->RelV x v->Vals c d->r x c H Q->
   wpAny (model X.prog X.w) X.A (call (.builtin id) (v::d)) (EP X a b Q) X.xe s
section
variable {X:Cx} {a b:Expr} {ta tb:TE} {pos:Pos}
def Aw {r:R2} (d:aZ X r) (e:PE X a ta) (f:PE X b tb) (g:VE b):PE X (.Subscript a b pos) (A_ r ta tb):=by
 intro c s i H Q I h;exact Subscript_ (KC e f I h λv u j x y k m n o q=>d a b c j i k x y v u Q m n o q (g _ _))
def VF (K:W.Frag):R2:=λx y H Q=>∃ p c i v,x=.ref p/\y=.int i/\SqL K H p c/\N_ c i=some v/\Q v H
def VG (K:W.Frag):R2:=λx y H Q=>∃ p c i v,x=.ref p/\y=.int i/\SqT K H p c/\N_ c i=some v/\Q v H
def VH:aZ X (VF X.K):=by
 intro f g c s n H x y v u Q I C D h o;let ⟨p,N,i,z,rfl,rfl,E,F,q⟩:=h;cases C;let ⟨t,rfl⟩:=D;let ⟨k,r,pl,O⟩:=I.list E;let ⟨j,e,G,P,J,K⟩:=KG F;let ⟨w,A,rw'⟩:=r.get G;let L:=↑r;let R:=Gb;let d:EP X c n Q w s:=⟨z,H,I,rw',q⟩;by_cases B:0<=i
 ·let m:i.toNat=j:=by
   rw [seqIndex_of B K] at e;exact pL e
  exact item_listR pl.isList B ⋯ (by rw [m];simpa using A) d o
 ·let m:(i+(k.toArray.size:Int)).toNat=j:=by
   rw [seqIndex_neg ⋯ J] at e;rw [A7,<-L];exact pL e
  exact subscriptTail_builtinR (x:=w) pl.isList.typeIs slot_list_getitem.lookup
   (wpAny_getItem_list_neg (Q:=λr M=>r=w/\EP X c n Q r M) pl.isList ⋯ (by rw [A7] <;> omega) ⋯ (by rw [m];simpa using A) ⟨rfl,d⟩) o
def VI:aZ X (VG X.K):=by
 intro d e c s g H x y v u Q I k m h n;let ⟨p,J,i,z,rfl,rfl,o,A,q⟩:=h;cases k;let ⟨t,rfl⟩:=m;let ⟨B,r,pl,K⟩:=I.tuple o;let ⟨j,C,D,L,M,N⟩:=KG A;let ⟨w,E,rw'⟩:=r.get D;let F:=↑r;let O:=Gb;let f:EP X c g Q w s:=⟨z,H,I,rw',q⟩
 exact subscriptTail_builtinR (x:=w) pl.typeIs slot_tuple_getitem.lookup
  (getItem_tuple (j:=j) (Q:=λr G=>r=w/\EP X c g Q r G) pl ⋯ ⋯ (by rw [A7,<-F];exact C) (by simpa using E) ⟨rfl,f⟩) n
def VJ (its:cM) (n j:Nat) (u:Value):Obj.mapSeq (·.setIfInBounds j u) { cls:=.type "list", data:=.seq its.toArray n }={ cls:=.type "list", data:=.seq (its.set j u).toArray n }:=by
 simp [Obj.mapSeq]
def Inv.lst {c:cO} {d:St} {H:Hp} {s:Shared} {p:Addr} {xs:cJ} (I:Inv X c d H s) (h:H p=some (.lst xs)) :
  ∃ (its:cM) (n:Nat),Vals xs its/\s.heap.get? p=some { cls:=.type "list", data:=.seq its.toArray n }/\↑xs<=sizeLine:=by
 let ⟨z,its,n,r,e⟩:=I.hok p _ h;exact ⟨its,n,r,e,z⟩
def Inv.lstUpd {c:cO} {g:St} {H:Hp} {s:Shared} {p:Addr} {xs ys:cJ} {its its':cM} {n d:Nat} {f:Obj->Obj} (I:Inv X c g H s) (h:H p=some (.lst xs))
  (m:s.heap.get? p=some { cls:=.type "list", data:=.seq its.toArray n }) (i:f { cls:=.type "list", data:=.seq its.toArray n }={ cls:=.type "list", data:=.seq its'.toArray d }) (r:Vals ys its') (o:↑ys<=sizeLine) (t:Nat) :
  Inv X c g (upd H p (.lst ys)) { s with heap:=s.heap.update p f,toks:=t }:=by
 let e:(s.heap.update p f).get? p=some { cls:=.type "list", data:=.seq its'.toArray d }:=by
  rw [Heap.get?_update_self f m (by rw [i] <;> rfl),i]
 refine I.write (x:=p) (e:=p) (by rw [h];trivial) (.inl rfl) (λb u v q=>(Heap.get?_update_other _ _ (Ne.symm v)).trans q) ⟨_,e⟩ ?_;exact ⟨o,its',d,r,e⟩
def Cl:V->V->V->Hp->(Hp->Prop)->Prop:=λo i v H Q=>∃ p c k j,o=.ref p/\i=.int k/\H p=some (.lst c)/\Y_ ↑c k=some j/\Q (upd H p (.lst (c.set j v)))
def Cu:aP X Cl:=by
 intro c s A H o i v J K u Q I B C D h;let ⟨p,E,k,j,rfl,rfl,hp,F,q⟩:=h;cases B;let ⟨t,rfl⟩:=C;let ⟨d,n,r,f,G⟩:=I.lst hp;let ⟨e,L,m,w⟩:=NH F;let g:=↑r;let M:=Gb
 let x:Inv X c A (upd H p (.lst (E.set j v))) { s with heap:=s.heap.update p (Obj.mapSeq (·.setIfInBounds j u)) }:=
  I.lstUpd hp f (VJ d n j u) (r.set D j) (by rw [C7];exact G) s.toks
 by_cases z:0<=k
 ·let hk:k.toNat=j:=by
   rw [seqIndex_of z w] at e;exact pL e
  exact W.ki_setAt f z ⋯ (by rw [A7,<-g];exact w) (by rw [hk];exact ⟨_,x,q⟩)
 ·let hk:(k+(d.toArray.size:Int)).toNat=j:=by
   rw [seqIndex_neg ⋯ m] at e;rw [A7,<-g];exact pL e
  exact W.ki_setBack f ⋯ (by rw [A7,<-g];exact m) ⋯ (by rw [hk];exact ⟨_,x,q⟩)
def VL (lo c:Option Int) (n:Nat):(sliceBounds lo c none n).1=((HT.sIx n 0 lo:Nat):Int)/\(sliceBounds lo c none n).2.1=((HT.sIx n n c:Nat):Int)/\(sliceBounds lo c none n).2.2=1:=by
 refine ⟨?_,?_,rfl⟩
 ·cases lo with
  | none=>simp [sliceBounds,HT.sIx]
  | some i=>
    simp only [sliceBounds,HT.sIx,Option.getD_none,show (1:Int) > 0 by decide,if_true];by_cases h:i<0
    ·simp only [h,if_true] <;> omega
    ·simp only [h,if_false] <;> omega
 ·cases c with
  | none=>simp [sliceBounds,HT.sIx]
  | some i=>
    simp only [sliceBounds,HT.sIx,Option.getD_none,show (1:Int) > 0 by decide,if_true];by_cases h:i<0
    ·simp only [h,if_true] <;> omega
    ·simp only [h,if_false] <;> omega
def VM (its:cM) (lo c:Option Int):slicePick its.toArray lo c none=((its.drop (HT.sIx ↑its 0 lo)).take (HT.sIx ↑its ↑its c - HT.sIx ↑its 0 lo)).toArray:=by
 let ⟨d,e,f⟩:=VL lo c its.toArray.size;unfold slicePick;rw [d,e,f];simp only [sliceRange_one,pick_run,A7] <;> rfl
def VN (K:W.Frag):V->Option Int->Option Int->Hp->VK->Prop:=λx lo d H Q=>∃ a c,x=.ref a/\SqL K H a c/\∀ p,H p=none->Q (.ref p) (upd H p (.lst (Be c lo d)))
def NI:aY X (VN X.K):=by
 intro f s u H x v vl w lo e y Q I i j pl k h;let ⟨a,c,rfl,m,q⟩:=h;cases i;let ⟨n,r,g,p⟩:=I.list m;let d:=↑r;refine ⟨"list", _,slot_list_getitem.lookup,g.isList.typeIs,?_⟩;refine wpAny_getItem_list_slice g.isList j pl k .none (by simp) ?_ (by rw [A7] <;> omega);rw [VM,<-d];refine ⟨.ref ⇑s,_,I.laid (t':=s.toks) (o:=.lst (Be c lo e)) (λb z q=>Heap.get?_push_of_some _ q) (AV _) ?_,rfl,q _ (I.hok.fresh (AV _))⟩;exact ⟨BM (NG c lo e) p,_,0,(r.drop (HT.sIx ↑c 0 lo)).take (HT.sIx ↑c ↑c e - HT.sIx ↑c 0 lo),Heap.get?_push_size _ rfl⟩
def NJ:C6 X (.builtin "len") (λi H Q=>∃ p d,i=[.ref p]/\(SqL X.K H p d\/SqT X.K H p d)/\Q (.int ↑d) H):=by
 intro j s n H i o Q I r h;let ⟨p,d,rfl,e,q⟩:=h;let ⟨u,rfl,k⟩:=EG r;cases k;let v:=Gb;rcases e with e | e
 ·let ⟨f,g,pl,m⟩:=I.list e;let c:=↑g;exact Calls.call_len_list pl.isList (by simp only [A7] <;> omega) ⟨.int ↑d,H,I.tok _,⟨s.toks+1,by rw [A7,c]⟩,q⟩
 ·let ⟨f,g,pl,m⟩:=I.tuple e;let c:=↑g;exact len_tuple pl (by simp only [A7] <;> omega) ⟨.int ↑d,H,I.tok _,⟨s.toks+1,by rw [A7,c]⟩,q⟩
def NK:C6 X (.type "list") (λA H Q=>∃ p f,A=[.ref p]/\(SqL X.K H p f\/SqT X.K H p f)/\∀ l,H l=none->Q (.ref l) (upd H l (.lst f))):=by
 intro j s D H A F Q I r h;let ⟨p,f,rfl,k,q⟩:=h;let ⟨u,rfl,E⟩:=EG r;cases E
 let m:∀ (c:cM),Vals f c->↑f<=sizeLine->∀ (d:Heap) (g:Nat),(∀ b B,s.heap.get? b=some B->d.get? b=some B)->
   d.get? ⇑s=some { cls:=.type "list", dict:=none,data:=.seq c.toArray g,slots:=#[] }->EP X j D Q (.ref ⇑s) { s with heap:=d }:=λc i v d g kp e=>
  ⟨.ref ⇑s,_,I.laid (t':=s.toks) kp (AV _) (show ObjOk X.prog X.w _ d _ (.lst f) from ⟨v,c,g,i,e⟩),rfl,q _ (I.hok.fresh (AV _))⟩
 rcases k with k | k
 ·let ⟨c,i,pl,v⟩:=I.list k;let w:=↑i;let ⟨o,x,y,n,z⟩:=pl.isList;exact call_list_seq p (.inl rfl) x y z (λd g kp e=>m c i v d g kp e) (by simp only [A7] <;> omega)
 ·let ⟨c,i,pl,v⟩:=I.tuple k;let w:=↑i;let ⟨o,x,y,n,z⟩:=pl;exact call_list_seq p (.inr rfl) x y z (λd g kp e=>m c i v d g kp e) (by simp only [A7] <;> omega)
def VO:C6 X (.type "tuple") (λm H Q=>∃ p f,m=[.ref p]/\((SqL X.K H p f/\∀ l,H l=none->Q (.ref l) (upd H l (.tup f)))\/(SqT X.K H p f/\Q (.ref p) H))):=by
 intro c s n H m C Q I r h;let ⟨p,f,rfl,h⟩:=h;let ⟨u,rfl,z⟩:=EG r;cases z;rcases h with ⟨j,q⟩ | ⟨j,q⟩
 ·let ⟨d,k,pl,v⟩:=I.list j;let w:=↑k;refine call_tuple_list pl.isList (λi kp=>?_) (by simp only [A7] <;> omega);let x:Inv X c n H { s with heap:=i }:=I.kept (t':=s.toks) kp
  let A:Inv X c n (upd H i.objs.size (.tup f)) { s with heap:=i.push { cls:=.type "tuple", data:=.seq d.toArray } }:=
   x.laid (t':=s.toks) (λb o e=>Heap.get?_push_of_some _ e) (AV _) (show ObjOk X.prog X.w _ _ _ (.tup f) from ⟨v,d,k,IsTup.new _ _⟩)
  exact ⟨.ref i.objs.size,_,A,rfl,q _ (x.hok.fresh (AV _))⟩
 ·let ⟨d,k,pl,v⟩:=I.tuple j;exact call_tuple_same pl ⟨.ref p,H,I,rfl,q⟩
def bQ (K:W.Frag) (T:String) (x:V) (H:Hp):Prop:=match x with
 | .str _=>T = "str"
 | .int _=>T = "int"
 | .ref p=>(T = "list" /\ ∃ d,SqL K H p d)\/(T = "tuple" /\ ∃ o,K.lookup p=some o/\o.cls=.type "tuple" /\ o.dict=none)\/
   (T = "dict" /\ ((∃ c,H p=some (.dK c))\/∃ c,H p=some (.dT c)))\/(T = "set" /\ ∃ S n,H p=some (.set S n))
 | _=>False
theorem NL {f:cO} {q:St} {H:Hp} {s:Shared} {T:String} {x:V} {v:Value} (I:Inv X f q H s) (r:RelV x v) (g:bQ X.K T x H) :
  s.TypeIs v T/\∀ a,v=.ref a->∃ m,s.heap.get? a=some m/\m.dict=none:=by
 cases x with
 | str z=>
   let ⟨t,rfl⟩:=r;cases (show T = "str" from g);exact ⟨typeIs_str s z t,λ_ e=>nomatch e⟩
 | int i=>
   let ⟨t,rfl⟩:=r;cases (show T = "int" from g);exact ⟨typeIs_int s i t,λ_ e=>nomatch e⟩
 | ref p=>
   cases r;rcases g with ⟨rfl,A,u⟩ | ⟨rfl,o,hk,w,h⟩ | ⟨rfl,hk⟩ | ⟨rfl,S,n,hk⟩
   ·let ⟨y,_,pl,_⟩:=I.list u;refine ⟨pl.isList.typeIs,λa e=>?_⟩;cases e;let ⟨o,n,e,c,h,_⟩:=pl;exact ⟨o,e,h⟩
   ·refine ⟨⟨o,I.kIn p o hk,w⟩,λa e=>?_⟩;cases e;exact ⟨o,I.kIn _ o hk,h⟩
   ·let z:∃ o,s.heap.get? p=some o/\o.ExactDict:=by
     rcases hk with ⟨j,hk⟩ | ⟨j,hk⟩
     ·let ⟨_,_,_,_,o,_,_,e,d,_⟩:=I.hok p _ hk;exact ⟨o,e,d⟩
     ·let ⟨_,_,_,_,o,_,_,e,d,_⟩:=I.hok p _ hk;exact ⟨o,e,d⟩
    let ⟨o,e,d⟩:=z;refine ⟨⟨o,e,d.1⟩,λa k=>?_⟩;cases k;exact ⟨o,e,d.2.1⟩
   ·let ⟨o,_,_,_,e,d,_⟩:=I.hok p _ hk;refine ⟨⟨o,e,d.1⟩,λa k=>?_⟩;cases k;exact ⟨o,e,d.2.1⟩
 | _=>exact False.elim g
def KH (K:W.Frag) (T:String) (r:V->cJ->Hp->VK->Prop) (d:TE):TE:=λe H Q=>d e H λx c=>bQ K T x c/\r x [] c Q
def aK (K:W.Frag) (T:String) (r:V->cJ->Hp->VK->Prop) (e:TE) (t:TA):TE:=λc H Q=>e c H λx d=>bQ K T x d/\t c d λf g=>r x f g Q
variable {o e:Expr} {es:cQ} {to:TE} {t:TA} {name:Str} {apos cpos:Pos} {T id:String} {r:V->cJ->Hp->VK->Prop}
def NM (n:PlainAttrs T) (g:Slot T name id) (i:typeOf (.builtin id)=pure (.type "method_descriptor")) (p:MtR X id r) (q:PE X o to)
  (d:attributeBase o name X.env (eval o X.env)=eval o X.env:=by rfl) (f:(apos.endLine == cpos.line)=true:=by rfl):PE X (.Call (.Attribute o name apos) [] [] cpos) (KH X.K T r to):=by
 intro c s j H Q I h;refine wpAny_Call_method0_late d f (H_ (q c s j H _ I h) λv u ⟨x,w,k,m,y,z⟩=>?_);let ⟨A,B⟩:=NL k m y;exact ⟨T,id,n,g,i,A,B,Calls.callWith_builtin rfl (PySem.evalArgs_none (p c u j w x [] v [] Q k m .nil z))⟩
def F1 (u:PlainAttrs T) (i:Slot T name id) (k:typeOf (.builtin id)=pure (.type "method_descriptor")) (w:MtR X id r) (y:PE X o to) (z:PA X (e::es) t)
  (f:attributeBase o name X.env (eval o X.env)=eval o X.env:=by rfl)
  (j:((backTo cpos (starEach (e::es) X.env)).all (λx=>!x.1) && (backToKw cpos (keywordEach [] X.env)).all (λx=>x.1.isSome)
   && decide ((e::es).length+([]:List Keyword).length+(if ([]:List Keyword).isEmpty then 0 else 1)<30))=true:=by rfl)
  (g:(apos.endLine == cpos.line)=true:=by rfl) (A:starEach (e::es) X.env=(false,eval e X.env)::starEach es X.env:=by rfl) (d:(backTo cpos (starEach es X.env)).any (·.1)=false:=by rfl) :
  PE X (.Call (.Attribute o name apos) (e::es) [] cpos) (aK X.K T r to t):=by
 intro c s m H Q I h;refine wpAny_Call_method_late f j g rfl (H_ (y c s m H _ I h) λv B ⟨x,C,n,p,D,E⟩=>?_);let ⟨F,G⟩:=NL n p D;refine ⟨T,id,u,i,k,F,G,?_⟩;let q:=z cpos c B m C _ n E;rw [A] at q ⊢;refine Calls.callWith_builtin (by show (false || (backTo cpos (starEach es X.env)).any (·.1))=false;rw [d] <;> rfl) (Calls.evalArgs_plain ?_);exact H_ q λJ K ⟨L,M,N,O,P⟩=>w c K m M x L v J Q N p O P
end
def MtM (X:Cx) (id:String) (r:V->cJ->Hp->VK->Prop):Prop:=
 ∀ (a:cO) (s:Shared) (b:St) (H:Hp) (x:V) (c:cJ) (v:Value) (d:cM) (Q:VK),Inv X a b H s->RelV x v->Vals c d->r x c H Q->
   wpAny (model X.prog X.w) X.A (call (.builtin id) (v::d)) (EP X a b Q) X.xe s
def Vals.zero {a:cM} (h:Vals [] a):a=[]:=by cases h;rfl
def Vals.inv {x:V} {xs:cJ} {a:cM} (h:Vals (x::xs) a):∃ u t,a=u::t/\RelV x u/\Vals xs t:=by cases h with | cons r t=>exact ⟨_,_,rfl,r,t⟩
def Vals.one {x:V} {a:cM} (h:Vals [x] a):∃ u,a=[u]/\RelV x u:=by let ⟨u,t,rfl,r,h⟩:=h.inv;exact ⟨u,by rw [h.zero],r⟩
def Vals.two {x y:V} {a:cM} (h:Vals [x,y] a):∃ u v,a=[u,v]/\RelV x u/\RelV y v:=by let ⟨u,t,rfl,r,h⟩:=h.inv;let ⟨v,rfl,q⟩:=h.one;exact ⟨u,v,rfl,r,q⟩
theorem Vals.dropLast {xs:cJ} {a:cM} (h:Vals xs a):Vals xs.dropLast a.dropLast:=by
 induction h with
 | nil=>exact .nil
 | cons r t b=>
   cases t with
   | nil=>exact .nil
   | cons q c=>exact .cons r b
theorem Vals.rep {xs:cJ} {a:cM} (h:Vals xs a):∀ k:Nat,Vals (List.replicate k xs).flatten (List.replicate k a).flatten
 | 0=>.nil
 | k+1=>by
   rw [List.replicate_succ,List.replicate_succ,List.flatten_cons,List.flatten_cons];exact Vals.append h (Vals.rep h k)
theorem VP {c:Type} (l:List c):l.eraseIdx (↑l - 1)=l.dropLast:=by
 induction l with
 | nil=>rfl
 | cons a r d=>
   cases r with
   | nil=>rfl
   | cons b r=>
     let e:(a::b::r).length - 1=((b::r).length - 1)+1:=by
      let f:(a::b::r).length=↑r+2:=rfl;let g:(b::r).length=↑r+1:=rfl;omega
     rw [e,List.eraseIdx_cons_succ,d]
     all_goals rfl
theorem NN (its:cM):∀ (k:Nat) (a:cM),
  List.foldl (λb c=>b++c) a.toArray (List.replicate k its.toArray)=(a++(List.replicate k its).flatten).toArray
 | 0,a=>by simp
 | k+1,a=>by
   let e:a.toArray++its.toArray=(a++its).toArray:=by simp
   let d:(a++its)++(List.replicate k its).flatten=a++(List.replicate (k+1) its).flatten:=by
    rw [List.replicate_succ,List.flatten_cons,List.append_assoc]
   rw [<-d,<-NN its k (a++its),<-e,List.replicate_succ,List.foldl_cons]
section
variable {X:Cx} {pins:cO} {σ:St} {H:Hp} {s:Shared} {l b:Addr} {xs ys zs:cJ}
def Inv.lset {its its':cM} {n:Nat} {f:Array Value->Array Value} {t':Nat} (I:Inv X pins σ H s) (d:H l=some (.lst xs))
  (e:s.heap.get? l=some { cls:=.type "list", data:=.seq its.toArray n }) (g:f its.toArray=its'.toArray) (h:Vals ys its') (i:↑ys<=sizeLine) :
  Inv X pins σ (upd H l (.lst ys)) { s with heap:=s.heap.update l (Obj.mapSeq f),toks:=t' }:=by
 let q:=PySem.IsL.update e f;rw [g] at q;refine I.write (x:=l) (e:=l) (by rw [d];exact trivial) (.inl rfl) (λm u j k=>(Heap.get?_update_other s.heap (Obj.mapSeq f) (Ne.symm j)).trans k) ⟨_,q⟩ ?_;exact ⟨i,its',_,h,q⟩
def Inv.lnew {its:cM} {t':Nat} (I:Inv X pins σ H s) (e:Vals ys its) (f:↑ys<=sizeLine) :
  Inv X pins σ (upd H ⇑s (.lst ys)) { s with heap:=s.heap.push { cls:=.type "list", data:=.seq its.toArray },toks:=t' }:=
 I.laid (λ_ _ q=>Heap.get?_push_of_some _ q) (AV _) ⟨f,its,0,e,Heap.get?_push_size _ rfl⟩
def Inv.fresh (I:Inv X pins σ H s):H ⇑s=none:=I.hok.fresh (AV _)
def Inv.lstM (I:Inv X pins σ H s) (a:H l=some (.lst xs)):↑xs<=sizeLine/\∃ (its:cM) (n:Nat),Vals xs its/\↑xs=↑its/\s.heap.get? l=some { cls:=.type "list", data:=.seq its.toArray n }:=by
 let ⟨z,its,n,r,e⟩:=I.hok l _ a;exact ⟨z,its,n,r,↑r,e⟩
def NO {n:Nat} (h:n<=sizeLine):Builtin.List.listTooLong n=false:=by
 unfold Builtin.List.listTooLong;exact pG ⋯
end
section
variable {X:Cx}
def F2:V->cJ->Hp->VK->Prop:=λx b H Q=>∃ l a y,x=.ref l/\b=[y]/\H l=some (.lst a)/\↑a<sizeLine/\Q .non (upd H l (.lst (a++[y])))
def Gd:MtM X "list.append" F2:=by
 intro b s i H x j v k Q I d f h;let ⟨l,m,y,rfl,rfl,c,o,q⟩:=h;cases d;let ⟨u,rfl,g⟩:=f.one;let ⟨z,a,n,r,p,e⟩:=I.lstM c;refine call_meets F.slot_list_append ⟨_,e,rfl⟩ F.entry_list_append (F.args_list_append_2 _ _) (PySem.list_append l a.toArray n u (by rw [A7];omega)) ⟨e,?_⟩;refine ⟨.non,_,I.lset (its':=a++[u]) c e (by simp) (r.append (.cons g .nil)) ?_,rfl,q⟩;rw [B3,D9];omega
def NP:V->cJ->Hp->VK->Prop:=λx d H Q=>∃ l b a c,x=.ref l/\d=[.ref b]/\H l=some (.lst a)/\H b=some (.lst c)/\↑a+↑c<=sizeLine/\Q .non (upd H l (.lst (a++c)))
def VQ:MtM X "list.extend" NP:=by
 intro g s B H x C v D Q I j k h;let ⟨l,b,E,G,rfl,rfl,i,m,J,q⟩:=h;cases j;let ⟨u,rfl,o⟩:=k.one;cases o;let ⟨z,c,n,r,K,e⟩:=I.lstM i;let ⟨L,a,p,w,y,A⟩:=I.lstM m;let f:c.toArray.size+a.toArray.size<=sizeLine:=by rw [A7,A7];omega
 let d:¬ (!c.toArray.isEmpty && Builtin.List.listTooLong (c.toArray.size+a.toArray.size))=true:=by
  rw [NO f,Bool.and_false];exact Cf
 refine call_meets F.slot_list_extend ⟨_,e,rfl⟩ F.entry_list_extend (F.args_list_extend_2 _ _)
  (AutoSeq1.list_extend_list_list_0 l c.toArray n b a.toArray p d (by rw [A7];omega) ⋯) ⟨e,A,?_⟩
 refine ⟨.non,_,I.lset (its':=c++a) i e (by simp) (r.append w) ?_,rfl,q⟩;rw [B3];omega
def NQ:V->cJ->Hp->VK->Prop:=λx b H Q=>∃ l a y,x=.ref l/\b=[]/\H l=some (.lst a)/\a[↑a - 1]?=some y/\Q y (upd H l (.lst a.dropLast))
def VR:MtM X "list.pop" NQ:=by
 intro d s p H x w v A Q I g i h;let ⟨l,B,y,rfl,rfl,f,j,q⟩:=h;cases g;let b:=i.zero;subst b;let ⟨z,a,n,r,k,e⟩:=I.lstM f;let ⟨u,m,o⟩:=r.get j
 let c:a.toArray[a.toArray.size - 1]?=some u:=by
  show a.toArray[↑a - 1]?=some u;rw [<-Array.getElem?_toList,<-k];exact m
 refine call_meets F.slot_list_pop ⟨_,e,rfl⟩ F.entry_list_pop (F.args_list_pop_1 _) (MeetsSeq.list_pop_last l a.toArray n u c (by rw [A7];omega)) ⟨e,?_⟩;refine ⟨y,_,I.lset (its':=a.dropLast) f e ?_ r.dropLast ?_,o,q⟩
 ·show a.toArray.eraseIdxIfInBounds (a.toArray.size - 1)=a.dropLast.toArray;rw [A7,List.eraseIdxIfInBounds_toArray,VP]
 ·rw [List.length_dropLast];omega
def FU:R2:=λx y H Q=>∃ l b a c,x=.ref l/\y=.ref b/\H l=some (.lst a)/\H b=some (.lst c)/\↑a+↑c<=sizeLine/\∀ p,H p=none->Q (.ref p) (upd H p (.lst (a++c)))
def F3:OpR X (binaryOp .Add) FU:=by
 intro d s w H x y v u Q I f g h;let ⟨l,b,A,B,rfl,rfl,i,j,C,q⟩:=h;cases f;cases g;let ⟨z,c,n,r,D,e⟩:=I.lstM i;let ⟨E,a,F,k,m,o⟩:=I.lstM j;refine PySem.P.add_list e o ?_ (by rw [A7,A7];omega);let p:c.toArray++a.toArray=(c++a).toArray:=by simp
 rw [p];exact ⟨.ref _,_,I.lnew (t':=s.toks) (r.append k) (by rw [B3];omega),rfl,q _ I.fresh⟩
def EH:R2:=λx y H Q=>∃ l k a,x=.ref l/\y=.int k/\H l=some (.lst a)/\-(2 ^ 63)<=k/\k<2 ^ 63/\↑a*k.toNat<=sizeLine/\
 ∀ p,H p=none->Q (.ref p) (upd H p (.lst (List.replicate k.toNat a).flatten))
theorem VS {a:Type} (xs:List a) (k:Nat):(List.replicate k xs).flatten.length=k*↑xs:=by
 induction k with
 | zero=>simp
 | succ k b=>rw [List.replicate_succ,List.flatten_cons,B3,b,Nat.succ_mul,Nat.add_comm]
def EY:OpR X (binaryOp .Mult) EH:=by
 intro p s L H x y v u Q I A B h;let ⟨l,k,M,rfl,rfl,C,D,E,w,q⟩:=h;cases A;let ⟨t,rfl⟩:=B;let ⟨z,b,n,r,G,e⟩:=I.lstM C;let d:b.toArray.size*k.toNat<=sizeLine:=by rw [A7,<-G];exact w
 let f:¬ b.toArray.size*k.toNat > (2 ^ 63 - 1) / 8:=by
  have:(sizeLine:Nat)<=(2 ^ 63 - 1) / 8:=by decide
  omega
 let g:¬ (!Builtin.List.listFitsIndex k)=true:=by
  rw [fitsIndex_both D E];exact Cf
 let c:¬ Builtin.List.listTooLong (b.toArray.size*k.toNat)=true:=by
  rw [NO d];exact Cf
 let i:List.foldl (λj o=>j++o) #[] (List.replicate (if b.toArray.isEmpty=true then 0 else k.toNat) b.toArray)=(List.replicate k.toNat b).flatten.toArray:=by
  let J:∀ m:Nat,List.foldl (λj o=>j++o) #[] (List.replicate m b.toArray)=(List.replicate m b).flatten.toArray:=λm=>by
   have:=NN b m [];rw [List.nil_append] at this;exact this
  rw [J];cases b with
  | nil=>simp
  | cons a N=>rw [qZ (by simp)]
 refine wpAny_binaryOp_repeat_ref (T := "list") (U := "int") ∅ ⟨_,e,rfl⟩ (λK=>typeIs_int K k t) noFill_list_mul F.fills_int_mul F.slot_int_rmul repeat_list F.slot_int_index.lookup
  (call_meets F.slot_int_rmul (typeIs_int s k t) F.entry_int_rmul (F.args_int_rmul_2 _ _) (int___rmul___int_list k t l b.toArray n)
   ⟨e,rfl,⟨_,e,rfl⟩,call_meets F.slot_list_mul ⟨_,e,rfl⟩ F.entry_list_mul (F.args_list_mul_2 _ _) (AutoListH.list___mul___list_int_3 l b.toArray n k t g f c) ⟨e,?_⟩⟩)
 rw [i];exact ⟨.ref _,_,I.lnew (t':=s.toks) (r.rep k.toNat) (by rw [VS,Df];exact w),rfl,q _ I.fresh⟩
end
end L2
namespace Att
open PySem PySem.W PySem.Calls PyProof.Rows
theorem VT {P:Params} {h:Heap}:∀ (ns:cL) (c:cM),WellAll P h c (ns.map WData.int)->IntsAre c ns:=by
 intro ns
 induction ns with
 | nil=>
   intro c w;rw [List.map_nil] at w;cases w;exact .nil
 | cons n ns d=>
   intro c w;rw [List.map_cons] at w;cases w with
   | cons a b=>
     cases a;exact .cons _ _ (d _ b)
theorem VU {l:OpenLaw} {n:Nat} (v:l.most=some n) {P:Params} {h:Heap} {b:List WData} {e:cM}
  (f:l.row.toRowW.claim.pre b=true) (m:WellAll P h e b) :
  ∃ a p c,e=[Value.ref a]/\b=[WData.list (c.map WData.int)]/\h.get? a=some { cls:=.type "list", data:=.seq p.toArray }/\IntsAre p c/\↑c<=n:=by
 let o:WShape.hasAll [] b [.list .int]=true:=(pre_splitW f).1;let u:l.pre.holds [] { args:=b }=true:=(pre_splitW f).2;let ⟨d,r,rfl,w,x⟩:=hasAllW_cons o;obtain rfl:=hasAllW_nil x;let ⟨D,rfl,y⟩:=hasW_list w;let ⟨c,rfl⟩:=items_int y
 let g:↑c<=n:=by
  unfold OpenLaw.pre at u
  let j:(WTm.not (.lt (.lit (.int (n:Int))) (.len (.arg 0)))).holds [] { args:=[.list (c.map .int)] }=true:=by
   let j:=(holds_andW u).1;rw [v] at j;exact j
  let k:=condW_of j (w_not (w_lt w_lit (w_len_list (w_arg rfl))));rw [AI] at k;refine Nat.le_of_not_lt λq=>?_;let z:(n:Int)<((↑c:Nat):Int):=by omega
  first
   | (rw [pC z] at k;exact absurd k ∅)
   | (simp at k;omega)
 cases m with
 | cons A B=>
   cases B;cases A with
   | list C i=>exact ⟨_,_,c,rfl,rfl,C,VT c _ i,g⟩
def VV (l:OpenLaw) (a:List WData):l.row.toRowW.claim.post a (.bool true) a=true:=
 postW_of (r:=l.row.toRowW) (X:=(true == true))
  (show WShape.has [] (.bool true) .bool=true by first | rfl | decide | simp [WShape.has,WShape.arms,WShape.armsAll])
  (show (WTm.eq .res (.lit (.bool true))).value [] { args:=a,res:=some (.bool true),after:=a }=some (.bool (true == true)) from w_eq_bool (w_res rfl) w_lit) rfl
def attach_call {l:OpenLaw} {n:Nat} {q:Program} {loose:cT} {XP:(cP)->Heap->Prop} {YP:World->Heap->Prop} {d:DefRec}
  (F:l.most=some n) (v:d.params.defaults=[])
  (call:∀ (w:World) (b s₁:Shared) (m x:cP) (h:Addr) (o:Obj) (pm p c:Value) (a:Addr) (g:cM) (ns:cL),
   Ground q loose [] XP w b m x s₁.heap->YP w s₁.heap->
   s₁.heap.get? h=some o->o.data=.func (docDef d.name d.params d.body d.scope pm p c)->s₁.heap.CodeRec p d.name->m d.name=↥h->
   s₁.heap.get? a=some { cls:=.type "list", data:=.seq g.toArray }->IntsAre g ns->↑ns<=n->s₁.gens=#[]->
   codeAny (model l.prog w) callerA (.call (.ref h) ⟨[.ref a],[]⟩) (λr u=>r=.ok (.ret (.bool true))/\OldK s₁.heap u.heap/\u.os=s₁.os/\AllBare u.gens) s₁) :
  WalkO q loose XP YP l.row.toRowW d [] (λf g=>PySem.call f g):=by
 intro w b s₁ m x G Y h o pm p c H kV I J y B z K C D as i E L A M;obtain rfl:H=.none:=Dflts.none B v;obtain rfl:kV=.none:=Dflts.noKw B;let ⟨a,g,ns,rfl,rfl,j,e,k⟩:=VU F i A;refine enter_call (codeAny_mono (call w b s₁ m x h o pm p c a g ns G Y I (fd_plain J) y z j e k K) λr u N=>?_);let ⟨rfl,O,P,Q⟩:=N;exact ⟨.inl ⟨.bool true,.bool true,[],rfl,λ_=>rfl,.bool true,VV l _,λ_=>⟨List.Pairwise.nil,λ_ R=>(nomatch R)⟩⟩,O,P,Q⟩
end Att
namespace L2
open PySem PySem.Spec PyProof.Rows
theorem NR:∀ {a:cM} {ns:cL},IntsAre a ns->Vals (~~~ns) a
 | _,_,.nil=>.nil
 | _,_,.cons n t h=>.cons ⟨t,rfl⟩ (NR h)
def aQ (H:Hp):Prop:=∀ b,H b=none\/∃ o a,H b=some (.frz o (.lst a))
theorem VW {P:Program} {w:World} {K:W.Frag} {E Z:cP} {CX:av} {k:Nat} {fa a:Addr} {fd:FuncData} {x:Str} {sp:Sp} {s₁:Shared} {A:cM} {ns:cL}
  (KX:K.In s₁.heap) (G:s₁.heap.Ns mainGlobals E) (i:s₁.heap.Ns builtinsNs Z) (a0:∀ x:Str,x ≠ "__name__" -> Z x=bootBuiltins x) (I:s₁.heap.NoLimit) (f:s₁.heap.NoSeer) (B:(model P w).prog.given.tree=none) (hg:s₁.gens=#[])
  (J:s₁.heap.get? a=some { cls:=.type "list", data:=.seq A.toArray }) (hi:IntsAre A ns) (hl:↑ns<=sizeLine) (hr:Room k callerA)
  (F:∀ j:Heap,K.In j->j.Ns mainGlobals E->FnOk P w K E j CX k fa fd [x] sp) (C:∀ (s:Shared) (u:Value),BindsTo s fd ⟨[u],[]⟩ [(x,u)])
  (a3:∀ H:Hp,aQ H->SqL K H a (~~~ns)->sp [.ref a] H (λv _=>v=.bl true) λ_ _ _=>False)
  (a4:∀ H e p,CX [] H s₁ (λ_ _ _=>False) e p->False) :
  codeAny (model P w) callerA (.call (.ref fa) ⟨[.ref a],[]⟩) (λr p=>r=.ok (.ret (.bool true))/\OldK s₁.heap p.heap/\p.os=s₁.os/\AllBare p.gens) s₁:=by
 let rv:=NR hi;let L:=↑hi
 let y:∀ H:Hp,aQ H->SqL K H a (~~~ns)->HOk P w H s₁.heap->(∀ b,H b≠none->b=a)->(H a≠none->K.lookup a=none)->
   codeAny (model P w) callerA (.call (.ref fa) ⟨[.ref a],[]⟩) (λr p=>r=.ok (.ret (.bool true))/\OldK s₁.heap p.heap/\p.os=s₁.os/\AllBare p.gens) s₁:=by
  intro H hO hS M hA hK;let c:∀ {b:Addr} {o:Obj},s₁.heap.get? b=some o->H b=none->(Em s₁.heap H).get? b=some o:=λe n=>UM e n
  let a5:∀ {b:Addr} {o:Obj} {N:Array DictEntry} {O:Nat},s₁.heap.get? b=some o->o.data=.dict N O->H b=none:=λ{b o N O} e d=>by
   cases q:H b with
   | none=>rfl
   | some u=>
     let Q:b=a:=hA b (by rw [q];simp);subst Q;rw [J] at e;cases e;let X:Data.seq A.toArray _=Data.dict N O:=d;cases X
  let g:∀ {b:Addr} {m:cP},s₁.heap.Ns b m->(Em s₁.heap H).Ns b m:=λ{b m} ⟨o,N,O,e,d,r⟩=>⟨o,N,O,c e (a5 e d),d,r⟩
  let R:K.In (Em s₁.heap H):=λb o e=>c (KX b o e) (by
   cases q:H b with
   | none=>rfl
   | some u=>
     let Q:b=a:=hA b (by rw [q];simp);subst Q;rw [hK (by rw [q];simp)] at e;cases e)
  let hM:Mod K E (Em s₁.heap H):=⟨R,g G,⟨Z,g i,a0⟩,let ⟨D,h1,h2⟩:=I;⟨D,g h1,h2⟩⟩
  let a6:(Em s₁.heap H).NoSeer:=⟨let ⟨D,a,b⟩:=f.statics;⟨D,g a,b⟩,let ⟨D,a,b⟩:=f.mods;⟨D,g a,b⟩,let ⟨D,a,b⟩:=f.imp;⟨D,g a,b⟩,
   let ⟨a7,Y,ob,a',b',c',X,Q⟩:=f.main;⟨a7,Y,ob,g a',b',c c' (by
    cases q:H Y with
    | none=>rfl
    | some u=>
      let z:Y=a:=hA Y (by rw [q];simp);subst z;rw [J] at c';cases c';simp at X),X,Q⟩⟩
  let e0:Env0 P w K E (Em s₁.heap H) callerA [] s₁ H:=⟨rfl,hM,λb o e=>UN e,Nat.le_of_eq (UL _ _),trivial,λb i=>absurd (show b∈([]:cV) from i) (by simp),M,.of_eq hg,a6,B⟩;refine codeAny_mono ((F _ R (g G)).run callerA [] s₁ H ⟨[.ref a],[]⟩ [.ref a] [.ref a] _ _ hr e0 (C s₁ (.ref a)) (.cons rfl .nil) (a3 H hO hS)) λr p h=>?_;cases r with
  | error e=>exact (a4 H e p h).elim
  | ok fl=>
    cases fl with
    | next=>exact False.elim h
    | brk=>exact False.elim h
    | cont=>exact False.elim h
    | ret u=>
      let ⟨v,H',os,S,un,T,r',q⟩:=h;let q':v=.bl true:=q;subst q';obtain rfl:u=Value.bool true:=r';refine ⟨rfl,OldK.of_keep λb o e=>?_,os,S⟩;cases q:H b with
      | none=>exact un.keep b o e q (by intro z;exact absurd (show b∈([]:cV) from z) (by simp)) (by simp)
      | some u=>
        rcases hO b with z | ⟨ob,xs,z⟩
        ·rw [q] at z;cases z
        ·let z2:=un.frzs b ob _ z;let ⟨e1,_⟩:=M b _ z;let ⟨e2,_⟩:=T b _ z2;rw [e] at e1;cases e1;exact e2
 cases hk:K.lookup a with
 | some o=>
   let e:=KX a o hk;rw [J] at e;cases e;refine y (λ_=>none) (λ_=>.inl rfl) (.inr ⟨_,A.toArray,_,hk,rfl,rfl,rfl,by rw [A7,L];exact hl,by simpa using rv⟩) (λb u z=>by let U:(none:Option HO)=some u:=z;cases U) (λb z=>absurd rfl z) λz=>absurd rfl z
 | none=>
   refine y (λb=>if b=a then some (.frz { cls:=.type "list", data:=.seq A.toArray } (.lst (~~~ns))) else none) (λb=>?_) (.inl (.inr ⟨{ cls:=.type "list", data:=.seq A.toArray },pB rfl⟩)) (λb u z=>?_) (λb z=>?_) λ_=>hk
   ·by_cases i:b=a
    ·exact .inr ⟨_,_,pB i⟩
    ·exact .inl (qZ i)
   ·by_cases i:b=a
    ·let U:=(pB i).symm.trans z;cases U;subst i;exact ⟨J,by rw [AI];exact hl,A,_,rv,J⟩
    ·let U:=(qZ i).symm.trans z;cases U
   ·by_cases i:b=a
    ·exact i
    ·exact absurd (qZ i) z
def walk_of {l:W.OpenLaw} {n k:Nat} {q:Program} {loose:cT} {XP:(cP)->Heap->Prop} {YP:World->Heap->Prop} {d:DefRec} {K:Params->W.Frag} {CX:World->av} {sp:World->Sp} {x:Str}
  (L:l.most=some n) (y:n<=sizeLine) (z:d.params.defaults=[]) (M:importsNone q=true) (g:∀ w,(model l.prog w).prog.given.tree=none) (N:Room k callerA)
  (O:∀ (w:World) (h:Heap),YP w h->(K w.params).In h)
  (F:∀ (w:World) (j:cP) (r:Addr) (h:Heap),(K w.params).In h->h.Ns mainGlobals j->j d.name=↥r->
   ∃ A:FuncData,(∀ (s:Shared) (u:Value),BindsTo s A ⟨[u],[]⟩ [(x,u)])/\
     ∀ b:Heap,(K w.params).In b->b.Ns mainGlobals j->FnOk l.prog w (K w.params) j b (CX w) k r A [x] (sp w))
  (B:∀ (w:World) (H:Hp) (a:Addr) (ns:cL),↑ns<=n->aQ H->SqL (K w.params) H a (~~~ns)->sp w [.ref a] H (λv _=>v=.bl true) λ_ _ _=>False)
  (C:∀ (w:World) (H:Hp) (s:Shared) (e:Value) (s':Shared),CX w [] H s (λ_ _ _=>False) e s'->False) :
  W.WalkO q loose XP YP l.row.toRowW d [] (λf E=>PySem.call f E):=by
 refine Att.attach_call L z λw I m j Z r o pm cd P a E ns G Y ho hd Q D p i c R=>?_;let J:=O w _ Y;let ⟨A,S,T⟩:=F w j r _ J G.T.g D;exact VW J G.T.g G.T.b G.T.builtins G.T.nolimit (G.T.seer M) (g w) R p i (BM c y) N T S (λH U X=>B w H a ns c U X) λH e s'=>C w H m e s'
noncomputable def inClass (s:Stmt) (j:Nat):Stmt:=match s with
 | .ClassDef _ _ _ a _ _ _ _ _ _ _=>a.getD j (.Pass ⟨0,0,0,0⟩)
 | _=>.Pass ⟨0,0,0,0⟩
noncomputable def EZ (s:Stmt):Arguments:=match s with
 | .FunctionDef _ a _ _ _ _ _ _ _ _=>a
 | _=>{ posonlyargs:=[],args:=[],vararg:=none,kwonlyargs:=[],kw_defaults:=[],kwarg:=none,defaults:=[] }
noncomputable def Dw (s:Stmt):List Stmt:=match s with
 | .FunctionDef _ _ b _ _ _ _ _ _ _=>b
 | _=>[]
noncomputable def Cv (s:Stmt):Scope:=match s with
 | .FunctionDef _ _ _ _ _ _ a _ _ _=>a
 | _=>{ kind:=.function,names:=[],isGenerator:=false,isCoroutine:=false }
noncomputable abbrev am:av:=λ_ _ _ _ _ _=>False
abbrev E0:XK:=λ_ _ _=>False
def NS {X:Cx}:T_ am X E0:=λ_ _ _ _ _ _ _ h=>h.elim
structure Fun (K:W.Frag) (x qual:Str) (st:Stmt) (f:Addr) (fd:FuncData):Prop where
 ex:∃ (oc:Value) (od:Option Addr) (kV doc pm:Value) (an:Option Addr) (cdv ct:Value) (osl:Array (cU)),
  fd=W.fnOf x qual (EZ st) (Dw st) (Cv st) .none kV doc pm an cdv ct/\K.lookup f=some ⟨oc,od,.func fd,osl⟩/\W.codeIn K cdv qual=true
 kp:W.keepIn K (.ref f)=true
section
variable {P:Program} {w:World} {K:W.Frag} {mg:cP} {base:Heap}
def Fun.ok {x qual:Str} {st:Stmt} {f:Addr} {i:FuncData} {N ps:cT} {k:Nat} {sp:Sp} (F:Fun K x qual st f i) (S:FnScope N ps (Cv st)) (len:∀ c H Q E,sp c H Q E->↑c=↑ps)
  (d:∀ (b:Value) (A:Around) (a:List Env) (s:Shared) (H:Hp) (c:cJ) (Q:VK) (E:XK),Room k (A.deeper (envOfC qual (Cv st) ⇑s f b))->sp c H Q E->
   ∃ t,PSs (F0 am P w K mg base N qual (Cv st) f b A a s H E).nox (Dw st) t/\t { nx:=λ_ j=>Q .non j,rt:=Q } (start N c) H):FnOk P w K mg base am (k+1) f i ps sp:=by
 let ⟨r,u,kV,m,v,y,b,z,n,rfl,o,e⟩:=F.ex;refine U7 o e S len λA a s H c Q E p g=>?_;let ⟨t,h,q⟩:=d b A a s H c Q E p g;exact ⟨t,h.nox,q⟩
def Fun.binds {x qual:Str} {st:Stmt} {f:Addr} {g:FuncData} {ps:cT} (F:Fun K x qual st f g)
  (h:∀ (kV a pm:Value) (c:Option Addr) (b d:Value) (e:cM),↑e=↑ps->bindArgs (W.fnOf x qual (EZ st) (Dw st) (Cv st) .none kV a pm c b d) ⟨e,[]⟩=pure (ps.zip e)):Binds K g ps []:=by
 let ⟨k,m,kV,a,pm,c,b,d,i,rfl,n,j⟩:=F.ex;exact .all (h kV a pm c b d)
def NT {x qual:Str} {st:Stmt} {f:Addr} {h:Value} {i e:Option Addr} {d:Array (cU)} {kV b pm a g:Value} (l:K.lookup f=some ⟨h,i,.func (W.fnOf x qual (EZ st) (Dw st) (Cv st) .none kV b pm e a g),d⟩)
  (c:W.codeIn K a qual=true) (k:W.keepIn K (.ref f)=true):Fun K x qual st f (W.fnOf x qual (EZ st) (Dw st) (Cv st) .none kV b pm e a g):=⟨⟨h,i,kV,b,pm,e,a,g,d,rfl,l,c⟩,k⟩
end
section
variable {X:Cx}
def pv (i:Nat) {x:Str} {a:Pos} (c:X.N[i]?=some x:=by rfl) (d:bj X.env.scope x:=by first | exact Or.inl rfl | exact Or.inr (Or.inl rfl) | exact Or.inr (Or.inr rfl)) (e:(x == ("__debug__" : Str))=false:=by decide)
  (b:(x == ("__classdict__" : Str))=false:=by decide):PE X (.Name x a) (AA i):=UP c d e b
end
def Aj {c A B:Prop} [Decidable c] (a:c->A) (b:¬ c->B):if c then A else B:=by
 by_cases h:c
 ·rw [pB h];exact a h
 ·rw [qZ h];exact b h
def Same (H a:Hp):Prop:=∀ b o,H b=some o->a b=some o
def Same.refl (H:Hp):Same H H:=λ_ _ h=>h
def Same.trans {H d e:Hp} (a:Same H d) (b:Same d e):Same H e:=λc o h=>b c o (a c o h)
theorem Same.free {H a:Hp} (e:Same H a) {l:Addr} (h:a l=Option.none):H l=Option.none:=by
 cases q:H l with
 | none=>rfl
 | some o=>
   rw [e l o q] at h;cases h
def Same.seq {K:W.Frag} {H b:Hp} {a:Addr} {xs:cJ} (e:Same H b) (h:SqL K H a xs):SqL K b a xs:=by
 rcases h with (h | ⟨o,h⟩) | h
 ·exact .inl (.inl (e _ _ h))
 ·exact .inl (.inr ⟨o,e _ _ h⟩)
 ·exact .inr h
end L2
local macro_rules | `(tactic| omega)=>`(tactic| lia)
namespace Bs.Hd
open PySem PySem.Spec PyProof.Rows L2
set_option maxRecDepth 100000
set_option maxHeartbeats 4000000
noncomputable def top (i:Nat):Stmt:=PySem.Challenge.pw_backslope_k18_least_polynomials.main.body.getD i (.Pass ⟨0,0,0,0⟩)
noncomputable abbrev VX:Stmt:=top 3
noncomputable abbrev VY:Stmt:=top 4
noncomputable abbrev VZ:Stmt:=top 5
noncomputable abbrev Va:Stmt:=top 6
noncomputable abbrev Vb:Stmt:=top 7
noncomputable abbrev Vc:Stmt:=top 8
noncomputable abbrev Vd:Stmt:=top 9
noncomputable abbrev Ve:Stmt:=top 10
noncomputable abbrev Vf:Stmt:=top 11
noncomputable abbrev Vg:Stmt:=top 12
noncomputable abbrev Vh:Stmt:=top 13
noncomputable abbrev Vi:Stmt:=top 14
noncomputable abbrev Vj:Stmt:=top 15
noncomputable abbrev Vk:Stmt:=top 16
noncomputable abbrev Vl:Stmt:=top 17
noncomputable abbrev Vm:Stmt:=top 18
noncomputable abbrev Vn:Stmt:=top 19
noncomputable abbrev Vo:Stmt:=top 20
noncomputable abbrev Vp:Stmt:=top 21
noncomputable abbrev Vq:Stmt:=top 22
noncomputable abbrev Vr:Stmt:=top 24
noncomputable abbrev Vs:Stmt:=top 25
noncomputable abbrev Vt:Stmt:=top 26
noncomputable abbrev Vu:Stmt:=top 28
noncomputable abbrev Vv:Stmt:=top 29
noncomputable abbrev Vw:Stmt:=top 30
noncomputable abbrev Vx:Stmt:=top 31
noncomputable abbrev Vy:Stmt:=top 32
noncomputable abbrev Vz:Stmt:=top 33
noncomputable abbrev V0:Stmt:=top 34
noncomputable abbrev V1:Stmt:=top 35
noncomputable abbrev V2:Stmt:=top 37
noncomputable abbrev NU:Stmt:=L2.inClass (top 38) 0
noncomputable abbrev V3:Stmt:=top 39
noncomputable abbrev V4:Stmt:=top 40
noncomputable abbrev V5:Stmt:=top 41
noncomputable abbrev V6:Stmt:=top 42
noncomputable abbrev V7:Stmt:=top 43
noncomputable abbrev V8:Stmt:=top 44
noncomputable abbrev V9:Stmt:=top 45
noncomputable abbrev WA:Stmt:=top 46
noncomputable abbrev WC:Stmt:=top 47
noncomputable abbrev WD:Stmt:=top 48
noncomputable abbrev WE:Stmt:=top 49
noncomputable abbrev WF:Stmt:=top 50
noncomputable abbrev WG:Stmt:=top 51
noncomputable abbrev WH:Stmt:=top 53
noncomputable abbrev WI:Stmt:=top 54
noncomputable abbrev WJ:Stmt:=top 55
noncomputable abbrev WK:Stmt:=top 56
noncomputable abbrev WL:Stmt:=top 57
noncomputable abbrev WM:Stmt:=top 59
noncomputable abbrev WN:Stmt:=top 60
noncomputable abbrev WO:Stmt:=top 61
noncomputable abbrev WP:Stmt:=top 62
noncomputable abbrev WQ:Stmt:=top 63
noncomputable abbrev WR:Stmt:=top 64
noncomputable abbrev WS:Stmt:=top 65
noncomputable abbrev WT:Stmt:=top 66
noncomputable abbrev WU:Stmt:=top 67
noncomputable abbrev WV:Stmt:=top 68
noncomputable abbrev WX:Stmt:=top 69
noncomputable abbrev WY:Stmt:=top 70
noncomputable abbrev WZ:Stmt:=top 71
noncomputable abbrev Wa:Stmt:=top 72
noncomputable abbrev Wb:Stmt:=top 73
noncomputable abbrev Wc:Stmt:=top 74
noncomputable abbrev Wd:Stmt:=top 75
noncomputable abbrev Ih:Stmt:=top 76
noncomputable abbrev N:Value:=.none
noncomputable abbrev S (x:Str) (t:Tok):Value:=.str x t
noncomputable abbrev I (i:Int):Value:=.int i 0
noncomputable abbrev R (a:Addr):Value:=.ref a
noncomputable def G_ (P:Params) (k:Str) (t:Tok) (v:Value):DictEntry:=⟨PyData.keyHash P k,.str k t,v⟩
noncomputable def K_ (n:Str) (t:Tok) (l c u:Int) (a:Addr) (b g d e f:Value) (x:Int) (y:Tok):Obj:=⟨.type "code", none,.fields #[S n t,S n (t+1),S "/claim/cut.py" (t+2),I l,I c,I 0,I 0,I u,R a,.bool true,I 181,b,g,d,e,f,I x,I l,S "/claim/cut.py" y],#[]⟩
noncomputable def J_ (n:Str) (s:Stmt) (pm:Value) (c:Addr):Obj:=⟨.type "function", none,.func (W.fnOf n n (EZ s) (Dw s) (Cv s) .none .none .none pm none (.ref c) .none),#[]⟩
noncomputable def fnQ (n q:Str) (s:Stmt) (pm:Value) (c:Addr):Obj:=⟨.type "function", none,.func (W.fnOf n q (EZ s) (Dw s) (Cv s) .none .none .none pm none (.ref c) .none),#[]⟩
noncomputable abbrev N':Value:=S "backslope.wholes" 187
noncomputable abbrev a_:Value:=S "backslope.numbers" 359
noncomputable abbrev a9:Value:=S "backslope.polys" 386
noncomputable abbrev Q_:Value:=S "backslope.linear" 455
noncomputable abbrev aD:Value:=S "backslope.parts" 594
noncomputable abbrev P_:Value:=S "law_backslope_k18_least_polynomials" 646
noncomputable def hp (P:Params):W.Frag:=[
 (3,⟨.type "dict", none,.dict #[G_ P "__name__" 165 (S "law_backslope_k18_least_polynomials" 646),G_ P "__doc__" 166 N,G_ P "__package__" 167 N,G_ P "__loader__" 168 (.builtin "__main__.__loader__#opaque"),G_ P "__spec__" 169 N,G_ P "__annotations__" 170 (R 6),G_ P "__builtins__" 171 (R 4),G_ P "__file__" 173 (S "/claim/cut.py" 172),G_ P "__cached__" 174 N,G_ P "FIRST_PRIME" 190 (.int 170141183460469231731687303715884105727 189),G_ P "SECOND_PRIME" 192 (.int 2147483647 191),G_ P "common_divisor" 201 (R 21),G_ P "is_prime" 209 (R 28),G_ P "prime_after" 217 (R 35),G_ P "other_prime" 224 (R 42),G_ P "dot" 230 (R 47),G_ P "content" 236 (R 52),G_ P "row_trimmed" 244 (R 59),G_ P "row_parted" 250 (R 64),G_ P "row_times" 263 (R 71),G_ P "row_less" 269 (R 76),G_ P "inverse_modulo" 283 (R 83),G_ P "rests_modulo" 289 (R 88),G_ P "row_modulo" 297 (R 95),G_ P "monic_modulo" 303 (R 100),G_ P "split_modulo" 318 (R 107),G_ P "rest_modulo" 327 (R 114),G_ P "reduced_modulo" 333 (R 119),G_ P "swapped" 343 (R 126),G_ P "row_cleared" 349 (R 131),G_ P "nearest" 358 (R 138),G_ P "ratio" 369 (R 145),G_ P "plus" 377 (R 152),G_ P "minus" 385 (R 159),G_ P "poly" 395 (R 166),G_ P "cleared" 401 (R 171),G_ P "uncleared" 407 (R 176),G_ P "number_of" 415 (R 183),G_ P "p_plus" 421 (R 188),G_ P "p_minus" 427 (R 193),G_ P "p_times" 437 (R 200),G_ P "p_split" 454 (R 207),G_ P "solved" 462 (R 212),G_ P "Core" 493 (R 227),G_ P "width_of" 500 (R 238),G_ P "picked" 506 (R 243),G_ P "spread" 518 (R 250),G_ P "numbers_over" 524 (R 255),G_ P "crossed" 530 (R 260),G_ P "picked_column" 536 (R 265),G_ P "inverse_rows" 542 (R 270),G_ P "frees_of" 548 (R 275),G_ P "weights_against" 554 (R 280),G_ P "settled" 560 (R 285),G_ P "solves" 571 (R 292),G_ P "guessed" 577 (R 297),G_ P "bottom_modulo" 593 (R 304),G_ P "put_into" 607 (R 311),G_ P "least" 619 (R 318),G_ P "made_of" 625 (R 323),G_ P "numbers_at" 631 (R 328),G_ P "least_rank" 645 (R 335),G_ P "_law_hand" 655 (R 342),G_ P "_law_draw" 667 (R 349),G_ P "_law_lowest" 677 (R 356),G_ P "_law_row_times" 690 (R 363),G_ P "_law_poly_of" 696 (R 368),G_ P "_law_scale" 703 (R 375),G_ P "_law_any_row" 714 (R 382),G_ P "_law_monic_of" 720 (R 387),G_ P "_law_sum" 728 (R 394),G_ P "_law_product" 736 (R 401),G_ P "_law_trimmed" 744 (R 408),G_ P "_law_times" 757 (R 415),G_ P "_law_rest" 769 (R 422),G_ P "_law_number_at" 777 (R 429),G_ P "_law_powers" 787 (R 436),G_ P "_law_put" 800 (R 443),G_ P "_law_case" 811 (R 450),G_ P "law" 817 (R 455)] 80,#[]⟩),
 (20,K_ "common_divisor" 193 4 2 3 15 (R 16) N (R 17) (R 18) (R 19) 199 200),
 (21,J_ "common_divisor" (top 3) N' 20),
 (27,K_ "is_prime" 202 10 1 3 22 (R 23) N (R 24) (R 25) (R 26) 207 208),
 (28,J_ "is_prime" (top 4) N' 27),
 (34,K_ "prime_after" 210 17 1 3 29 (R 30) N (R 31) (R 32) (R 33) 215 216),
 (35,J_ "prime_after" (top 5) N' 34),
 (41,K_ "other_prime" 218 22 1 3 36 (R 37) N (R 38) (R 39) (R 40) 222 223),
 (42,J_ "other_prime" (top 6) N' 41),
 (46,K_ "dot" 225 24 2 3 43 (R 44) N N N (R 45) 228 229),
 (47,J_ "dot" (top 7) N' 46),
 (51,K_ "content" 231 26 2 3 48 (R 49) N N N (R 50) 234 235),
 (52,J_ "content" (top 8) N' 51),
 (58,K_ "row_trimmed" 237 33 1 3 53 (R 54) N (R 55) (R 56) (R 57) 242 243),
 (59,J_ "row_trimmed" (top 9) N' 58),
 (63,K_ "row_parted" 245 38 2 3 60 (R 61) N N N (R 62) 248 249),
 (64,J_ "row_parted" (top 10) N' 63),
 (70,K_ "row_times" 251 40 2 3 65 (R 66) N (R 67) (R 68) (R 69) 261 262),
 (71,J_ "row_times" (top 11) N' 70),
 (75,K_ "row_less" 264 49 5 3 72 (R 73) N N N (R 74) 267 268),
 (76,J_ "row_less" (top 12) N' 75),
 (82,K_ "inverse_modulo" 270 55 2 3 77 (R 78) N (R 79) (R 80) (R 81) 281 282),
 (83,J_ "inverse_modulo" (top 13) N' 82),
 (87,K_ "rests_modulo" 284 69 2 3 84 (R 85) N N N (R 86) 287 288),
 (88,J_ "rests_modulo" (top 14) N' 87),
 (94,K_ "row_modulo" 290 71 2 3 89 (R 90) N (R 91) (R 92) (R 93) 295 296),
 (95,J_ "row_modulo" (top 15) N' 94),
 (99,K_ "monic_modulo" 298 73 2 3 96 (R 97) N N N (R 98) 301 302),
 (100,J_ "monic_modulo" (top 16) N' 99),
 (106,K_ "split_modulo" 304 78 3 3 101 (R 102) N (R 103) (R 104) (R 105) 316 317),
 (107,J_ "split_modulo" (top 17) N' 106),
 (113,K_ "rest_modulo" 319 89 3 3 108 (R 109) N (R 110) (R 111) (R 112) 325 326),
 (114,J_ "rest_modulo" (top 18) N' 113),
 (118,K_ "reduced_modulo" 328 91 2 3 115 (R 116) N N N (R 117) 331 332),
 (119,J_ "reduced_modulo" (top 19) N' 118),
 (125,K_ "swapped" 334 107 3 3 120 (R 121) N (R 122) (R 123) (R 124) 341 342),
 (126,J_ "swapped" (top 20) N' 125),
 (130,K_ "row_cleared" 344 112 4 3 127 (R 128) N N N (R 129) 347 348),
 (131,J_ "row_cleared" (top 21) N' 130),
 (137,K_ "nearest" 350 117 2 3 132 (R 133) N (R 134) (R 135) (R 136) 356 357),
 (138,J_ "nearest" (top 22) N' 137),
 (144,K_ "ratio" 361 121 2 3 139 (R 140) N (R 141) (R 142) (R 143) 367 368),
 (145,J_ "ratio" (top 24) a_ 144),
 (151,K_ "plus" 370 126 2 3 146 (R 147) N (R 148) (R 149) (R 150) 375 376),
 (152,J_ "plus" (top 25) a_ 151),
 (158,K_ "minus" 378 128 2 3 153 (R 154) N (R 155) (R 156) (R 157) 383 384),
 (159,J_ "minus" (top 26) a_ 158),
 (165,K_ "poly" 388 131 1 3 160 (R 161) N (R 162) (R 163) (R 164) 393 394),
 (166,J_ "poly" (top 28) a9 165),
 (170,K_ "cleared" 396 136 1 3 167 (R 168) N N N (R 169) 399 400),
 (171,J_ "cleared" (top 29) a9 170),
 (175,K_ "uncleared" 402 141 2 3 172 (R 173) N N N (R 174) 405 406),
 (176,J_ "uncleared" (top 30) a9 175),
 (182,K_ "number_of" 408 143 2 3 177 (R 178) N (R 179) (R 180) (R 181) 413 414),
 (183,J_ "number_of" (top 31) a9 182),
 (187,K_ "p_plus" 416 145 2 3 184 (R 185) N N N (R 186) 419 420),
 (188,J_ "p_plus" (top 32) a9 187),
 (192,K_ "p_minus" 422 147 2 3 189 (R 190) N N N (R 191) 425 426),
 (193,J_ "p_minus" (top 33) a9 192),
 (199,K_ "p_times" 428 149 2 3 194 (R 195) N (R 196) (R 197) (R 198) 435 436),
 (200,J_ "p_times" (top 34) a9 199),
 (206,K_ "p_split" 438 153 2 3 201 (R 202) N (R 203) (R 204) (R 205) 452 453),
 (207,J_ "p_split" (top 35) a9 206),
 (211,K_ "solved" 457 171 2 3 208 (R 209) N N N (R 210) 460 461),
 (212,J_ "solved" (top 37) Q_ 211),
 (237,K_ "width_of" 494 197 1 3 232 (R 233) N (R 234) (R 235) (R 236) 498 499),
 (238,J_ "width_of" (top 39) Q_ 237),
 (242,K_ "picked" 501 199 2 3 239 (R 240) N N N (R 241) 504 505),
 (243,J_ "picked" (top 40) Q_ 242),
 (249,K_ "spread" 507 201 3 3 244 (R 245) N (R 246) (R 247) (R 248) 516 517),
 (250,J_ "spread" (top 41) Q_ 249),
 (254,K_ "numbers_over" 519 206 2 3 251 (R 252) N N N (R 253) 522 523),
 (255,J_ "numbers_over" (top 42) Q_ 254),
 (259,K_ "crossed" 525 208 1 3 256 (R 257) N N N (R 258) 528 529),
 (260,J_ "crossed" (top 43) Q_ 259),
 (264,K_ "picked_column" 531 210 2 3 261 (R 262) N N N (R 263) 534 535),
 (265,J_ "picked_column" (top 44) Q_ 264),
 (269,K_ "inverse_rows" 537 212 2 3 266 (R 267) N N N (R 268) 540 541),
 (270,J_ "inverse_rows" (top 45) Q_ 269),
 (274,K_ "frees_of" 543 216 2 3 271 (R 272) N N N (R 273) 546 547),
 (275,J_ "frees_of" (top 46) Q_ 274),
 (279,K_ "weights_against" 549 229 3 3 276 (R 277) N N N (R 278) 552 553),
 (280,J_ "weights_against" (top 47) Q_ 279),
 (284,K_ "settled" 555 235 4 3 281 (R 282) N N N (R 283) 558 559),
 (285,J_ "settled" (top 48) Q_ 284),
 (291,K_ "solves" 561 251 3 3 286 (R 287) N (R 288) (R 289) (R 290) 569 570),
 (292,J_ "solves" (top 49) Q_ 291),
 (296,K_ "guessed" 572 256 2 3 293 (R 294) N N N (R 295) 575 576),
 (297,J_ "guessed" (top 50) Q_ 296),
 (303,K_ "bottom_modulo" 578 265 3 3 298 (R 299) N (R 300) (R 301) (R 302) 591 592),
 (304,J_ "bottom_modulo" (top 51) Q_ 303),
 (310,K_ "put_into" 596 280 3 3 305 (R 306) N (R 307) (R 308) (R 309) 605 606),
 (311,J_ "put_into" (top 53) aD 310),
 (317,K_ "least" 608 286 2 3 312 (R 313) N (R 314) (R 315) (R 316) 617 618),
 (318,J_ "least" (top 54) aD 317),
 (322,K_ "made_of" 620 297 2 3 319 (R 320) N N N (R 321) 623 624),
 (323,J_ "made_of" (top 55) aD 322),
 (327,K_ "numbers_at" 626 301 2 3 324 (R 325) N N N (R 326) 629 630),
 (328,J_ "numbers_at" (top 56) aD 327),
 (334,K_ "least_rank" 632 303 2 3 329 (R 330) N (R 331) (R 332) (R 333) 643 644),
 (335,J_ "least_rank" (top 57) aD 334),
 (341,K_ "_law_hand" 648 316 1 3 336 (R 337) N (R 338) (R 339) (R 340) 653 654),
 (342,J_ "_law_hand" (top 59) P_ 341),
 (348,K_ "_law_draw" 656 319 2 3 343 (R 344) N (R 345) (R 346) (R 347) 665 666),
 (349,J_ "_law_draw" (top 60) P_ 348),
 (355,K_ "_law_lowest" 668 332 2 3 350 (R 351) N (R 352) (R 353) (R 354) 675 676),
 (356,J_ "_law_lowest" (top 61) P_ 355),
 (362,K_ "_law_row_times" 678 339 2 3 357 (R 358) N (R 359) (R 360) (R 361) 688 689),
 (363,J_ "_law_row_times" (top 62) P_ 362),
 (367,K_ "_law_poly_of" 691 345 2 3 364 (R 365) N N N (R 366) 694 695),
 (368,J_ "_law_poly_of" (top 63) P_ 367),
 (374,K_ "_law_scale" 697 347 1 3 369 (R 370) N (R 371) (R 372) (R 373) 701 702),
 (375,J_ "_law_scale" (top 64) P_ 374),
 (381,K_ "_law_any_row" 704 349 3 3 376 (R 377) N (R 378) (R 379) (R 380) 712 713),
 (382,J_ "_law_any_row" (top 65) P_ 381),
 (386,K_ "_law_monic_of" 715 354 1 3 383 (R 384) N N N (R 385) 718 719),
 (387,J_ "_law_monic_of" (top 66) P_ 386),
 (393,K_ "_law_sum" 721 356 2 3 388 (R 389) N (R 390) (R 391) (R 392) 726 727),
 (394,J_ "_law_sum" (top 67) P_ 393),
 (400,K_ "_law_product" 729 358 2 3 395 (R 396) N (R 397) (R 398) (R 399) 734 735),
 (401,J_ "_law_product" (top 68) P_ 400),
 (407,K_ "_law_trimmed" 737 360 1 3 402 (R 403) N (R 404) (R 405) (R 406) 742 743),
 (408,J_ "_law_trimmed" (top 69) P_ 407),
 (414,K_ "_law_times" 745 365 2 3 409 (R 410) N (R 411) (R 412) (R 413) 755 756),
 (415,J_ "_law_times" (top 70) P_ 414),
 (421,K_ "_law_rest" 758 371 2 3 416 (R 417) N (R 418) (R 419) (R 420) 767 768),
 (422,J_ "_law_rest" (top 71) P_ 421),
 (428,K_ "_law_number_at" 770 380 2 3 423 (R 424) N (R 425) (R 426) (R 427) 775 776),
 (429,J_ "_law_number_at" (top 72) P_ 428),
 (435,K_ "_law_powers" 778 384 3 3 430 (R 431) N (R 432) (R 433) (R 434) 785 786),
 (436,J_ "_law_powers" (top 73) P_ 435),
 (442,K_ "_law_put" 788 389 3 3 437 (R 438) N (R 439) (R 440) (R 441) 798 799),
 (443,J_ "_law_put" (top 74) P_ 442),
 (449,K_ "_law_case" 801 395 1 3 444 (R 445) N (R 446) (R 447) (R 448) 809 810),
 (450,J_ "_law_case" (top 75) P_ 449),
 (454,K_ "law" 812 411 1 3 451 (R 452) N N N (R 453) 815 816),
 (455,J_ "law" (top 76) P_ 454),
 (227,⟨.type "type", none,.cls { name := "Core", bases:=[(.type "object")],mro:=[(R 227),(.type "object")],ns:=226,qualname := "Core", hasDict:=true,slotNames:=[],subclasses:=[],abstract:=false,collection:=none,hasDel:=false },#[none,none,(some (S "Core" 463)),(some (S "Core" 471)),(some (.builtin "object.__new__")),(some (.bool true))]⟩),
 (226,⟨.type "dict", none,.dict #[G_ P "__module__" 470 (S "backslope.linear" 455),G_ P "__firstlineno__" 474 (.int 188 473),G_ P "__init__" 480 (R 224),G_ P "__static_attributes__" 486 (R 225),G_ P "__dict__" 488 (R 228),G_ P "__weakref__" 490 (R 229),G_ P "__doc__" 491 N] 4,#[]⟩),
 (223,⟨.type "code", none,.fields #[(S "__init__" 475),(S "Core.__init__" 476),(S "/claim/cut.py" 477),(I 190),(I 3),(I 0),(I 0),(I 3),(R 220),(.bool true),(I 181),(R 221),N,N,N,(R 222),(I 478),(I 190),(S "/claim/cut.py" 479)],#[]⟩),
 (224,fnQ "__init__" "Core.__init__" (L2.inClass (top 38) 0) Q_ 223)]
noncomputable def as:cV:=[3,20,21,27,28,34,35,41,42,46,47,51,52,58,59,63,64,70,71,75,76,82,83,87,88,94,95,99,100,106,107,113,114,118,119,125,126,130,131,137,138,144,145,151,152,158,159,165,166,170,171,175,176,182,183,187,188,192,193,199,200,206,207,211,212,237,238,242,243,249,250,254,255,259,260,264,265,269,270,274,275,279,280,284,285,291,292,296,297,303,304,310,311,317,318,322,323,327,328,334,335,341,342,348,349,355,356,362,363,367,368,374,375,381,382,386,387,393,394,400,401,407,408,414,415,421,422,428,429,435,436,442,443,449,450,454,455,227,226,223,224]
noncomputable def vw:Program:=W.view PySem.Challenge.pw_backslope_k18_least_polynomials [76]
noncomputable def lo:cT:=(["FIRST_PRIME","SECOND_PRIME","common_divisor","is_prime","prime_after","other_prime","dot","content","row_trimmed","row_parted","row_times","row_less","inverse_modulo","rests_modulo","row_modulo","monic_modulo","split_modulo","rest_modulo","reduced_modulo","swapped","row_cleared","nearest","ratio","plus","minus"]:cT)++(["poly","cleared","uncleared","number_of","p_plus","p_minus","p_times","p_split","solved","Core","width_of","picked","spread","numbers_over","crossed","picked_column","inverse_rows","frees_of","weights_against","settled","solves","guessed","bottom_modulo","put_into","least"]:cT)++(["made_of","numbers_at","least_rank","_law_hand","_law_draw","_law_lowest","_law_row_times","_law_poly_of","_law_scale","_law_any_row","_law_monic_of","_law_sum","_law_product","_law_trimmed","_law_times","_law_rest","_law_number_at","_law_powers","_law_put","_law_case"]:cT)
noncomputable def hk:W.Hook:=W.kHook hp as (λ_=>by kernel_rfl)
def left:W.LeftO PySem.Challenge.pw_backslope_k18_least_polynomials vw lo (λs=>W.xlAt vw [] s && W.recOk (W.RowW.records (W.OpenRow.toRowW (W.OpenLaw.row PySem.Challenge.rw_backslope_k18_least_polynomials))) s) hk.obs hk.val 4766:=λw=>by kernel_rfl
def sd:PySem.Challenge.rw_backslope_k18_least_polynomials.wellSaid=true:=by decide +kernel
end Bs.Hd
namespace Bs
def Bd (n:Nat) (x:Int):Prop:=x.natAbs<2 ^ n
def Bd.mono {m n:Nat} {x:Int} (h:Bd m x) (a:m<=n):Bd n x:=B2 h (Fs ∅ a)
def Bd.le {n:Nat} {x y:Int} (h:Bd n x) (a:y.natAbs<=x.natAbs):Bd n y:=Eh a h
def Bd.neg {n:Nat} {x:Int} (h:Bd n x):Bd n (-x):=by unfold Bd at *;rw [Int.natAbs_neg];exact h
def Bd.add {n:Nat} {x y:Int} (h:Bd n x) (h':Bd n y):Bd (n+1) (x+y):=by
 unfold Bd at *;have:=Int.natAbs_add_le x y;rw [Bx];omega
def Bd.sub {n:Nat} {x y:Int} (h:Bd n x) (h':Bd n y):Bd (n+1) (x - y):=by
 rw [Int.sub_eq_add_neg];exact h.add h'.neg
def Bd.mul {m n:Nat} {x y:Int} (h:Bd m x) (h':Bd n y):Bd (m+n) (x*y):=by
 unfold Bd at *;rw [CV,Dq];exact Nat.mul_lt_mul'' h h'
def Bd.log2 {n:Nat} {x:Int} (h:Bd n x) (a:0<n):x.natAbs.log2<n:=by
 unfold Bd at h;rcases FO x.natAbs with b | hp
 ·rw [b];simpa using a
 ·exact (Nat.log2_lt (Nat.ne_of_gt hp)).mpr h
structure Low (t d:Int):Prop where
 pos:0<d
 one:Int.gcd t d=1
def NV (a b:Int):Int.gcd b (a.fmod b)=Int.gcd a b:=by
 let e:a.fmod b=a - b*a.fdiv b:=Int.fmod_def a b;rw [e];apply Nat.dvd_antisymm
 ·apply Int.dvd_gcd
  ·let f:=FP b (a - b*a.fdiv b);let g:=EA b (a - b*a.fdiv b);let d:=Int.dvd_add g (Int.dvd_mul_of_dvd_left (c:=a.fdiv b) f);rw [Int.sub_add_cancel] at d;exact d
  ·exact FP b _
 ·apply Int.dvd_gcd
  ·exact EA a b
  ·exact Int.dvd_sub (FP a b) (Int.dvd_mul_of_dvd_left (EA a b))
def KI (a:Int) {b:Int} (h:0<=b):Int.gcd b (a % b)=Int.gcd a b:=by
 rw [<-Int.fmod_eq_emod_of_nonneg a h,NV]
def We (a:Int) {b:Int} (h:b≠0):(a.fmod b).natAbs<b.natAbs:=by
 rcases Int.lt_or_gt_of_ne h with d | d
 ·rw [Int.fmod_eq_emod];let e:=CO a h;let f:=Int.emod_lt a h;split
  ·rename_i c;rcases c with c | c
   ·omega
   ·have:a % b=0:=Int.emod_eq_zero_of_dvd c;omega
  ·rename_i c;have:a % b≠0:=λz=>c (.inr (Int.dvd_of_emod_eq_zero z));omega
 ·rw [Int.fmod_eq_emod_of_nonneg a (Dr d)];let e:=CO a h;let f:=CW a d;omega
def Ii {a b s:Int} (m:b≠0) (j:s=if b<0 then -((Int.gcd a b:Nat):Int) else ((Int.gcd a b:Nat):Int)) :
  s≠0/\s.natAbs<=b.natAbs/\Low (a.fdiv s) (b.fdiv s)/\a.fdiv s*b=a*b.fdiv s/\(a.fdiv s).natAbs<=a.natAbs/\(b.fdiv s).natAbs<=b.natAbs:=by
 let w:0<Int.gcd a b:=Int.gcd_pos_of_ne_zero_right a m;let e:s.natAbs=Int.gcd a b:=by rw [j];split <;> simp
 let k:s≠0:=by intro z;rw [z] at e;simp at e;omega
 let p:s∣a:=by
  rw [<-Int.natAbs_dvd,e];exact FP a b
 let q:s∣b:=by
  rw [<-Int.natAbs_dvd,e];exact EA a b
 let ⟨t,rfl⟩:=p;let ⟨d,rfl⟩:=q;rw [Int.mul_fdiv_cancel_left _ k,Int.mul_fdiv_cancel_left _ k];let n:d≠0:=by rintro rfl;simp at m
 let o:1<=s.natAbs:=by omega
 let r:Int.gcd t d=1:=by
  rw [Int.gcd_mul_left] at e;let u:s.natAbs*Int.gcd t d=s.natAbs*1:=by omega
  exact Nat.eq_of_mul_eq_mul_left o u
 let v:0<d:=by
  by_cases h:s*d<0
  ·rw [pB h] at j;let f:s<0:=by omega
   rcases Int.lt_or_gt_of_ne n with c | c
   ·have:=Int.mul_pos_of_neg_of_neg f c;omega
   ·exact c
  ·rw [qZ h] at j;let g:0<s:=by omega
   rcases Int.lt_or_gt_of_ne n with c | c
   ·have:=Int.mul_neg_of_pos_of_neg g c;omega
   ·exact c
 let i:∀ y:Int,y.natAbs<=(s*y).natAbs:=λy=>by
  rw [CV];exact Nat.le_mul_of_pos_left _ o
 refine ⟨k,?_,⟨v,r⟩,?_,i t,i d⟩
 ·rw [CV];exact Nat.le_mul_of_pos_right _ ⋯
 ·ext
def KJ {a b:Int} (f:0<b):Low (a / ((Int.gcd a b:Nat):Int)) (b / ((Int.gcd a b:Nat):Int))/\(a / ((Int.gcd a b:Nat):Int)).natAbs<=a.natAbs/\(b / ((Int.gcd a b:Nat):Int)).natAbs<=b.natAbs/\0<((Int.gcd a b:Nat):Int)/\((Int.gcd a b:Nat):Int)<=b:=by
 let g:0<Int.gcd a b:=Int.gcd_pos_of_ne_zero_right a ⋯;let ⟨_,h,c,i,d,e⟩:=Ii (a:=a) (b:=b) (s:=((Int.gcd a b:Nat):Int)) ⋯ (by rw [qZ ⋯]);rw [Ei _ ⋯,Ei _ ⋯] at c;rw [Ei _ ⋯] at d e;exact ⟨c,d,e,⋯,⋯⟩
end Bs
namespace Bs
open PySem L2
def Wf (_ j:Int):Prop:=0<j/\Bd 9000 j
abbrev BI:R2:=a8 λi j=>.int (i+j)
abbrev BT:R2:=a8 λi j=>.int (i - j)
abbrev Av:R2:=rI IntMulOk λi j=>.int (i*j)
abbrev Ij:R2:=rI Wf λi j=>.int (i / j)
abbrev CT:R2:=rI (λ_ j=>0<j) λi j=>.int (i % j)
abbrev Wg:R2:=rI (λ_ j=>j≠0) λi j=>.int (i.fmod j)
abbrev aE:R2:=a8 λi j=>.bl (decide (i<j))
abbrev iLe:R2:=a8 λi j=>.bl (decide (i<=j))
abbrev ao:R2:=a8 λi j=>.bl (decide (j<i))
abbrev iGe:R2:=a8 λi j=>.bl (decide (j<=i))
abbrev BN:V->Hp->VK->Prop:=rU λi=>.int (-i)
def gT:R2:=λx y H Q=>∃ p i a v,x=.ref p/\y=.int i/\H p=some (.tup a)/\N_ a i=some v/\Q v H
def gL:R2:=λx y H Q=>∃ p i a v,x=.ref p/\y=.int i/\H p=some (.lst a)/\N_ a i=some v/\Q v H
def gS (K:W.Frag):R2:=λx y H Q=>∃ p i a v,x=.ref p/\y=.int i/\SqL K H p a/\N_ a i=some v/\Q v H
def FV:cJ->Hp->VK->Prop:=λa H Q=>∃ i,a=[.int i]/\Q (.int (if i<0 then -i else i)) H
def Ge:cJ->Hp->VK->Prop:=λa H Q=>∃ i j,a=[.int i,.int j]/\Q (.int (if j > i then j else i)) H
def B9:cJ->Hp->VK->Prop:=λb H Q=>∃ p a,b=[.ref p]/\H p=some (.tup a)/\Q (.int ↑a) H
def BA:cJ->Hp->VK->Prop:=λb H Q=>∃ p a,b=[.ref p]/\H p=some (.lst a)/\Q (.int ↑a) H
noncomputable def HW:Option HO->String->Option Bool
 | some (.tup _),n=>if n = "tuple" then some true else if n = "bool" \/ n = "int" \/ n = "list" then some false else none
 | some (.lst _),n=>if n = "list" then some true else if n = "bool" \/ n = "int" \/ n = "tuple" then some false else none
 | _,_=>none
noncomputable def FW (H:Hp):V->String->Option Bool
 | .int _,n=>if n = "int" then some true else if n = "bool" \/ n = "tuple" \/ n = "list" then some false else none
 | .bl _,n=>if n = "int" \/ n = "bool" then some true else if n = "tuple" \/ n = "list" then some false else none
 | .ref p,n=>HW (H p) n
 | _,_=>none
def NW:cJ->Hp->VK->Prop:=λa H Q=>∃ x n b,a=[x,.ty n]/\FW H x n=some b/\Q (.bl b) H
def qD (H:Hp) (i:Int):FW H (.int i) "int" = some true:=rfl
def qE (H:Hp) (i:Int):FW H (.int i) "bool" = some false:=rfl
def qF (H:Hp) (b:Bool):FW H (.bl b) "bool" = some true:=rfl
def Wh {H:Hp} {p:Addr} {xs:cJ} (h:H p=some (.tup xs)):FW H (.ref p) "tuple" = some true:=by
 show HW (H p) "tuple" = _;rw [h];rfl
def ForR (lo:Int) (n:Nat) (g:TG) (f:TS) (D:Ends) (a:St) (H:Hp):Prop:=∃ W:Nat->Nat->St->Hp->Prop,(∃ m,W 0 m a H)/\∀ i m a H,W i m a H->
 ((Z_ lo n).stop i H/\D.nx a H)\/((Z_ lo n).go i H/\∃ N:St->Hp->Prop,(∀ b c,N b c->∃ e,e<m/\W (i+1) e b c)/\∀ x c,(Z_ lo n).yld i H x c->g x a c λd h=>f { D with nx:=N,ct:=N,bk:=D.nx } d h)
def qG {b:TA} {g:TG} {c:TS} {D:Ends} {a:St} {H:Hp}:Ay (Cs b) g c D a H=b a H (λd e=>∃ j:Int,d=[.int j]/\-(2 ^ 62)<=j/\j<2 ^ 62/\ForR 0 j.toNat g c D a e):=rfl
def qH {b:TA} {g:TG} {c:TS} {D:Ends} {a:St} {H:Hp}:Ay (HU b) g c D a H=b a H (λd e=>∃ i j:Int,d=[.int i,.int j]/\(-(2 ^ 62)<=i/\i<2 ^ 62/\-(2 ^ 62)<=j/\j<2 ^ 62)/\ForR i (j - i).toNat g c D a e):=rfl
def ForR.by {lo:Int} {n:Nat} {g:TG} {c:TS} {D:Ends} {a:St} {H:Hp} (Pv:Nat->St->Hp->Prop) (d:Pv 0 a H)
  (e:∀ i a H,i<n->Pv i a H->g (.int (lo+i)) a H λb f=>c { D with nx:=Pv (i+1),ct:=Pv (i+1),bk:=D.nx } b f) (h:∀ a H,Pv n a H->D.nx a H):ForR lo n g c D a H:=Uc Pv d e h
def ForT (K:W.Frag) (a:Addr) (g:TG) (h:TS) (D:Ends) (b:St) (H:Hp):Prop:=∃ W:Nat->Nat->St->Hp->Prop,(∃ m,W 0 m b H)/\∀ i m b H,W i m b H->
 ((aI K a).stop i H/\D.nx b H)\/((aI K a).go i H/\∃ N:St->Hp->Prop,(∀ c d,N c d->∃ f,f<m/\W (i+1) f c d)/\∀ x d,(aI K a).yld i H x d->g x b d λe j=>h { D with nx:=N,ct:=N,bk:=D.nx } e j)
def ForL (K:W.Frag) (a:Addr) (g:TG) (h:TS) (D:Ends) (b:St) (H:Hp):Prop:=∃ W:Nat->Nat->St->Hp->Prop,(∃ m,W 0 m b H)/\∀ i m b H,W i m b H->
 ((aa K a).stop i H/\D.nx b H)\/((aa K a).go i H/\∃ N:St->Hp->Prop,(∀ c d,N c d->∃ f,f<m/\W (i+1) f c d)/\∀ x d,(aa K a).yld i H x d->g x b d λe j=>h { D with nx:=N,ct:=N,bk:=D.nx } e j)
def qJ {K:W.Frag} {c:TE} {g:TG} {d:TS} {D:Ends} {b:St} {H:Hp}:Ay (BL K c) g d D b H=c b H (λx e=>∃ a,x=.ref a/\(∃ f,SqL K e a f)/\ForL K a g d D b e):=rfl
def ForT.by {K:W.Frag} {a:Addr} {xs:cJ} {g:TG} {d:TS} {D:Ends} {b:St} {H:Hp} (Pv:Nat->St->Hp->Prop) (e:Pv 0 b H) (f:∀ i b H,i<=↑xs->Pv i b H->H a=some (.tup xs))
  (j:∀ i x b H,xs[i]?=some x->Pv i b H->g x b H λc k=>d { D with nx:=Pv (i+1),ct:=Pv (i+1),bk:=D.nx } c k) (m:∀ b H,Pv ↑xs b H->D.nx b H):ForT K a g d D b H:=
 Ub Pv e (λi b H h p=>SqT.of (f i b H h p)) j m
def ForL.by {K:W.Frag} {a:Addr} {xs:cJ} {g:TG} {d:TS} {D:Ends} {b:St} {H:Hp} (Pv:Nat->St->Hp->Prop) (e:Pv 0 b H) (f:∀ i b H,i<=↑xs->Pv i b H->SqL K H a xs)
  (h:∀ i x b H,xs[i]?=some x->Pv i b H->g x b H λc j=>d { D with nx:=Pv (i+1),ct:=Pv (i+1),bk:=D.nx } c j) (k:∀ b H,Pv ↑xs b H->D.nx b H):ForL K a g d D b H:=
 Ua Pv e f h k
def DE {c:TT} {e:TS} {D:Ends} {a:St} {H:Hp} (W:Nat->St->Hp->Prop) (m:Nat) (i:W m a H)
  (j:∀ m a H,W m a H->c a H λb f=>if b=true then ∃ N:St->Hp->Prop,(∀ d g,N d g->∃ h,h<m/\W h d g)/\e { D with nx:=N,ct:=N,bk:=D.nx } a f else D.nx a f):Cr c e D a H:=⟨W,⟨m,i⟩,j⟩
def F4 {t u:TS} {D:Ends} {a:St} {H:Hp} (h:t { D with nx:=u D } a H):AH t u D a H:=h
def Kp (p:Addr) (H a:Hp):Prop:=∀ b o,b≠p->H b=some o->a b=some o
def Kp.trans {p:Addr} {H d e:Hp} (a:Kp p H d) (b:Kp p d e):Kp p H e:=λc o n h=>b c o n (a c o n h)
def Kp.same {p:Addr} {H d e:Hp} (a:Kp p H d) (b:Same d e):Kp p H e:=λc o n h=>b c o (a c o n h)
def Kp.of_same {p:Addr} {H a:Hp} (b:Same H a):Kp p H a:=λc o _ h=>b c o h
def Kp.upd {p:Addr} {H:Hp} {o:HO}:Kp p H (upd H p o):=λb u n h=>by rw [Aq n];exact h
def AM {H:Hp} {p:Addr} (h:H p=none) (o:HO):Same H (upd H p o):=λb u q=>by rw [Aq (As q h)];exact q
def sz {n:Nat} (h:n<=1000000):n<=sizeLine:=by rw [sizeLine_eq];omega
def F5 {c:Type} (a b:c):N_ [a,b] 0=some a:=rfl
def E9 {c:Type} (a b:c):N_ [a,b] 1=some b:=rfl
def Wj {d:Type} (a b c:d):N_ [a,b,c] 0=some a:=rfl
def Wk {d:Type} (a b c:d):N_ [a,b,c] 1=some b:=rfl
def Wl {d:Type} (a b c:d):N_ [a,b,c] 2=some c:=rfl
def qK (a b:Int):aJ (.int a) (.int b)=true:=rfl
def qL (a b:Bool):aJ (.bl a) (.bl b)=true:=rfl
def qN:Y_ 3 0=some 0:=rfl
def qO:Y_ 3 2=some 2:=rfl
end Bs
namespace Bs
open PySem PySem.Spec PyProof.Rows L2
def F6:bootBuiltins "abs" = some (.builtin "abs"):=by decide +kernel
def Ar:bootBuiltins "len" = some (.builtin "len"):=by decide +kernel
def Gf:bootBuiltins "max" = some (.builtin "max"):=by decide +kernel
def Wm:bootBuiltins "min" = some (.builtin "min"):=by decide +kernel
def Wn:bootBuiltins "isinstance" = some (.builtin "isinstance"):=by decide +kernel
def KK:bootBuiltins "sum" = some (.builtin "sum"):=by decide +kernel
def F7:bootBuiltins "tuple" = some (.type "tuple"):=by decide +kernel
def FX:bootBuiltins "list" = some (.type "list"):=by decide +kernel
def NX:bootBuiltins "enumerate" = some (.type "enumerate"):=by decide +kernel
def NY:bootBuiltins "zip" = some (.type "zip"):=by decide +kernel
def Wp:bootBuiltins "reversed" = some (.type "reversed"):=by decide +kernel
section
variable {X:Cx}
def NZ {n:Nat} {x:Int} (h:Bd n x):Builtin.Int.intBits x<=n:=by
 unfold Builtin.Int.intBits;split
 ·exact AX _
 ·rename_i a
  let b:x.natAbs≠0:=λz=>a (by let e:x=0:=by omega
                              subst e;rfl)
  have:=(Nat.log2_lt b).mpr h;omega
def Az:OpR X (binaryOp .Mult) Av:=aX λ_ _ _ _ _ _ _ a q=>mul_int q a
def HX:OpR X (inplaceOp .Mult) Av:=aX λ_ _ _ _ _ _ _ a q=>imul_int q a
def KL:OpR X (binaryOp .FloorDiv) Ij:=aX λi j _ _ _ _ _ a q=>by
 refine floordiv_int (Ah a.1) ?_ (.inl (PyProof.noPylong_of_log2 (a.2.log2 ∅)));rw [Ei i (Dr a.1)];exact q
def AZ:aZ X gT:=by
 intro a b c s d H x y v u Q I e f h g;let ⟨p,i,j,w,k,m,hp,n,q⟩:=h;exact VI a b c s d H x y v u Q I e f ⟨p,j,i,w,k,m,SqT.of hp,n,q⟩ g
def An:aZ X gL:=by
 intro a b c s d H x y v u Q I e f h g;let ⟨p,i,j,w,k,m,hp,n,q⟩:=h;exact VH a b c s d H x y v u Q I e f ⟨p,j,i,w,k,m,SqL.of hp,n,q⟩ g
def F8:C6 X (.builtin "abs") FV:=Ul
def HY (a:X.calm=true):C6 X (.builtin "max") Ge:=Um a
def CF:C6 X (.builtin "len") B9:=λa s b H c d Q I r h=>by
 let ⟨p,f,e,hp,q⟩:=h;exact NJ a s b H c d Q I r ⟨p,f,e,.inr (SqT.of hp),q⟩
def BO:C6 X (.builtin "len") BA:=λa s b H c d Q I r h=>by
 let ⟨p,f,e,hp,q⟩:=h;exact NJ a s b H c d Q I r ⟨p,f,e,.inl (SqL.of hp),q⟩
def Wr (K:W.Frag):W.kitOne K (.type "int") (.type "bool")=some false:=by kernel_rfl
def Ws (K:W.Frag):W.kitOne K (.type "int") (.type "tuple")=some false:=by kernel_rfl
def Wt (K:W.Frag):W.kitOne K (.type "int") (.type "list")=some false:=by kernel_rfl
def Wu (K:W.Frag):W.kitOne K (.type "bool") (.type "int")=some true:=by kernel_rfl
def Wv (K:W.Frag):W.kitOne K (.type "bool") (.type "tuple")=some false:=by kernel_rfl
def Ww (K:W.Frag):W.kitOne K (.type "bool") (.type "list")=some false:=by kernel_rfl
def Wx (K:W.Frag):W.kitOne K (.type "tuple") (.type "bool")=some false:=by kernel_rfl
def Wy (K:W.Frag):W.kitOne K (.type "tuple") (.type "int")=some false:=by kernel_rfl
def Wz (K:W.Frag):W.kitOne K (.type "tuple") (.type "list")=some false:=by kernel_rfl
def W1 (K:W.Frag):W.kitOne K (.type "list") (.type "bool")=some false:=by kernel_rfl
def W2 (K:W.Frag):W.kitOne K (.type "list") (.type "int")=some false:=by kernel_rfl
def W3 (K:W.Frag):W.kitOne K (.type "list") (.type "tuple")=some false:=by kernel_rfl
def Ik (K:W.Frag) (n:String):W.kitOne K (.type n) (.type n)=some true:=by
 unfold W.kitOne;rw [pB (beq_self_eq_true _)]
theorem W4 {H:Hp} {x:V} {n:String} {b:Bool} (K:W.Frag) (h:FW H x n=some b):∃ t,TyOf K H x t/\W.kitOne K t (.type n)=some b:=by
 cases x with
 | int i=>
   refine ⟨_,.int i,?_⟩;unfold FW at h;dsimp only at h;split at h
   ·rename_i e;cases h;subst e;exact Ik K _
   ·split at h
    ·rename_i e;cases h;rcases e with rfl | rfl | rfl
     ·exact Wr K
     ·exact Ws K
     ·exact Wt K
    ·cases h
 | bl i=>
   refine ⟨_,.bl i,?_⟩;unfold FW at h;dsimp only at h;split at h
   ·rename_i e;cases h;rcases e with rfl | rfl
    ·exact Wu K
    ·exact Ik K _
   ·split at h
    ·rename_i e;cases h;rcases e with rfl | rfl
     ·exact Wv K
     ·exact Ww K
    ·cases h
 | ref p=>
   let a:HW (H p) n=some b:=h;cases e:H p with
   | none=>rw [e] at a;cases a
   | some o=>
     rw [e] at a;cases o with
     | tup c=>
       refine ⟨_,.tup e,?_⟩;unfold HW at a;dsimp only at a;split at a
       ·rename_i e;cases a;subst e;exact Ik K _
       ·split at a
        ·rename_i e;cases a;rcases e with rfl | rfl | rfl
         ·exact Wx K
         ·exact Wy K
         ·exact Wz K
        ·cases a
     | lst c=>
       refine ⟨_,.lst e,?_⟩;unfold HW at a;dsimp only at a;split at a
       ·rename_i e;cases a;subst e;exact Ik K _
       ·split at a
        ·rename_i e;cases a;rcases e with rfl | rfl | rfl
         ·exact W1 K
         ·exact W2 K
         ·exact W3 K
        ·cases a
     | _=>cases a
 | _=>cases h
def W5:C6 X (.builtin "isinstance") NW:=λc s j H m o Q I r h=>by
 let ⟨x,n,b,rfl,e,q⟩:=h;let ⟨u,d,rfl,f,rn⟩:=vals2 r;let a:d=Value.type n:=rn;subst a;let ⟨t,g,k⟩:=W4 X.K e;exact Uw I f g k λi=>⟨.bl b,H,I.tok i,rfl,q⟩
end
structure Cal (P:Program) (w:World) (K:W.Frag) (mg:cP) (base:Heap) (n:Nat) (x:Str) (ps:cT) (sp:Sp):Prop where
 ex:∃ (f:Addr) (fd:FuncData),FnOk P w K mg base am n f fd ps sp/\Binds K fd ps []/\W.keepIn K (.ref f)=true/\mg x=↥f
def Cal.pe {X:Cx} {n m:Nat} {x:Str} {ps:cT} {sp:Sp} {e:Expr} {a:cQ} {t:TA} {p c:Pos} (C:Cal X.prog X.w X.K X.mg X.base n x ps sp) (h:Room m X.A) (i:n<=m) (j:Gl X x) (o:PA X (e::a) t)
  (d:(x == ("__debug__" : Str))=false:=by decide) (q:starEach (e::a) X.env=(false,eval e X.env)::starEach a X.env:=by rfl) (g:(backTo c (starEach a X.env)).any (·.1)=false:=by rfl) :
  PE X (.Call (.Name x p) (e::a) [] c) (AQ sp [] E0 t):=by
 let ⟨f,r,F,b,k,m⟩:=C.ex;exact U0 F (h.mono i) j m k b .nil NS o d q g
end Bs
namespace Bs
open PySem L2
noncomputable def CU (capt:List (Option Nat)) (a:L2.St):L2.St:=capt.map λo=>o.bind λj=>(a[j]?).join
def At (e:TI) (capt:List (Option Nat)) (g:TG) (f:TE):TE:=λc H Q=>e c H λJ h=>∃ (n:Nat) (W:Nat->cJ->Hp->Prop),W 0 [] h/\∀ i a H,W i a H->i<=n/\↑a<=sizeLine/\
 ((J.stop i H/\∀ p,H p=none->Q (.ref p) (upd H p (.lst a)))\/(i<n/\J.go i H/\∀ x d,J.yld i H x d->g x (CU capt c) d λb j=>f b j λy k=>W (i+1) (a++[y]) k))
def CompJ (J:It) (capt:List (Option Nat)) (g:TG) (d:TE) (e:L2.St) (Q:VK) (f:Hp):Prop:=∃ (n:Nat) (W:Nat->cJ->Hp->Prop),W 0 [] f/\∀ i a H,W i a H->i<=n/\↑a<=sizeLine/\
 ((J.stop i H/\∀ p,H p=none->Q (.ref p) (upd H p (.lst a)))\/(i<n/\J.go i H/\∀ x c,J.yld i H x c->g x (CU capt e) c λb h=>d b h λy j=>W (i+1) (a++[y]) j))
section
variable {K:W.Frag} {ta:TA} {tl:TE} {capt:List (Option Nat)} {g:TG} {te:TE} {σ:L2.St} {H:Hp} {Q:VK}
def qP:At (Cs ta) capt g te σ H Q=ta σ H (λa b=>∃ j:Int,a=[.int j]/\-(2 ^ 62)<=j/\j<2 ^ 62/\CompJ (Z_ 0 j.toNat) capt g te σ Q b):=rfl
def qQ:At (HU ta) capt g te σ H Q=ta σ H (λa b=>∃ i j:Int,a=[.int i,.int j]/\(-(2 ^ 62)<=i/\i<2 ^ 62/\-(2 ^ 62)<=j/\j<2 ^ 62)/\CompJ (Z_ i (j - i).toNat) capt g te σ Q b):=rfl
def qR:At (BL K tl) capt g te σ H Q=tl σ H (λx b=>∃ a,x=.ref a/\(∃ c,SqL K b a c)/\CompJ (aa K a) capt g te σ Q b):=rfl
def CompJ.range {lo:Int} {n:Nat} (W:Nat->cJ->Hp->Prop) (d:W 0 [] H) (b:∀ i a H,W i a H->i<=n/\↑a<=sizeLine)
  (f:∀ i a H,i<n->W i a H->g (.int (lo+i)) (CU capt σ) H λc j=>te c j λy k=>W (i+1) (a++[y]) k) (m:∀ a H,W n a H->∀ p,H p=none->Q (.ref p) (upd H p (.lst a))):CompJ (Z_ lo n) capt g te σ Q H:=by
 refine ⟨n,W,d,λi a H w=>⟨(b i a H w).1,(b i a H w).2,?_⟩⟩;by_cases h:i<n
 ·refine .inr ⟨h,h,λx o y=>?_⟩;let ⟨e,y⟩:=y;subst e y;exact f i a _ h w
 ·let e:i=n:=EQ (b i a H w).1 (Nat.not_lt.mp h);subst e;exact .inl ⟨AV _,m a H w⟩
def CompJ.tup {a:Addr} {xs:cJ} (W:Nat->cJ->Hp->Prop) (f:W 0 [] H) (c:∀ i b H,W i b H->i<=↑xs/\↑b<=sizeLine/\H a=some (.tup xs))
  (j:∀ i x b H,xs[i]?=some x->W i b H->g x (CU capt σ) H λd k=>te d k λy m=>W (i+1) (b++[y]) m) (n:∀ b H,W ↑xs b H->∀ p,H p=none->Q (.ref p) (upd H p (.lst b))):CompJ (aI K a) capt g te σ Q H:=by
 refine ⟨↑xs,W,f,λi b H w=>⟨(c i b H w).1,(c i b H w).2.1,?_⟩⟩;let q:SqT K H a xs:=SqT.of (c i b H w).2.2;by_cases h:i<↑xs
 ·refine .inr ⟨h,⟨xs,xs[i],q,by simp [h]⟩,λx o y=>?_⟩;let ⟨e,y⟩:=y;subst e;exact j i x b _ (y xs q) w
 ·let e:i=↑xs:=EQ (c i b H w).1 (Nat.not_lt.mp h);subst e;exact .inl ⟨⟨xs,q,AV _⟩,n b H w⟩
def CompJ.lst {a:Addr} {xs:cJ} (W:Nat->cJ->Hp->Prop) (f:W 0 [] H) (c:∀ i b H,W i b H->i<=↑xs/\↑b<=sizeLine/\SqL K H a xs)
  (j:∀ i x b H,xs[i]?=some x->W i b H->g x (CU capt σ) H λd k=>te d k λy m=>W (i+1) (b++[y]) m) (n:∀ b H,W ↑xs b H->∀ p,H p=none->Q (.ref p) (upd H p (.lst b))):CompJ (aa K a) capt g te σ Q H:=by
 refine ⟨↑xs,W,f,λi b H w=>⟨(c i b H w).1,(c i b H w).2.1,?_⟩⟩;let q:SqL K H a xs:=(c i b H w).2.2;by_cases h:i<↑xs
 ·refine .inr ⟨h,⟨xs,xs[i],q,by simp [h]⟩,λx o y=>?_⟩;let ⟨e,y⟩:=y;subst e;exact j i x b _ (y xs q) w
 ·let e:i=↑xs:=EQ (c i b H w).1 (Nat.not_lt.mp h);subst e;exact .inl ⟨⟨xs,q,AV _⟩,n b H w⟩
end
noncomputable def F9 (K:W.Frag) (a:Addr):It:=
 ⟨λi H=>∃ b x,SqL K H a b/\b[i]?=some x,λi H v c=>∃ p x,H p=none/\v=.ref p/\c=upd H p (.tup [.int i,x])/\∀ b,SqL K H a b->b[i]?=some x,λi H=>∃ b,SqL K H a b/\↑b<=i⟩
noncomputable def Il (K:W.Frag) (a:Addr):It:=
 ⟨λi H=>∃ b x,SqT K H a b/\b[i]?=some x,λi H v c=>∃ p x,H p=none/\v=.ref p/\c=upd H p (.tup [.int i,x])/\∀ b,SqT K H a b->b[i]?=some x,λi H=>∃ b,SqT K H a b/\↑b<=i⟩
def EI (K:W.Frag) (c:TA):TI:=λd H R=>c d H λe b=>∃ a,e=[.ref a]/\(∃ f,SqL K b a f)/\R (F9 K a) b
def Im (K:W.Frag) (c:TA):TI:=λd H R=>c d H λe b=>∃ a,e=[.ref a]/\(∃ f,SqT K b a f)/\R (Il K a) b
def ForJ (J:It) (g:TG) (f:TS) (D:Ends) (a:L2.St) (H:Hp):Prop:=∃ W:Nat->Nat->L2.St->Hp->Prop,(∃ m,W 0 m a H)/\∀ i m a H,W i m a H->
 (J.stop i H/\D.nx a H)\/(J.go i H/\∃ N:L2.St->Hp->Prop,(∀ b c,N b c->∃ e,e<m/\W (i+1) e b c)/\∀ x c,J.yld i H x c->g x a c λd h=>f { D with nx:=N,ct:=N,bk:=D.nx } d h)
section
variable {K:W.Frag} {ta:TA} {g:TG} {tb:TS} {D:Ends} {σ:L2.St} {H:Hp} {a:Addr} {xs:cJ}
def qS:Ay (EI K ta) g tb D σ H=ta σ H (λc b=>∃ a,c=[.ref a]/\(∃ xs,SqL K b a xs)/\ForJ (F9 K a) g tb D σ b):=rfl
def qT:Ay (Im K ta) g tb D σ H=ta σ H (λc b=>∃ a,c=[.ref a]/\(∃ xs,SqT K b a xs)/\ForJ (Il K a) g tb D σ b):=rfl
def qU {capt:List (Option Nat)} {b:TE} {Q:VK}:At (EI K ta) capt g b σ H Q=ta σ H (λd c=>∃ a,d=[.ref a]/\(∃ xs,SqL K c a xs)/\CompJ (F9 K a) capt g b σ Q c):=rfl
def ForJ.enumL (Pv:Nat->L2.St->Hp->Prop) (d:Pv 0 σ H) (f:∀ i σ H,i<=↑xs->Pv i σ H->SqL K H a xs)
  (h:∀ i x p σ H,xs[i]?=some x->Pv i σ H->H p=none->g (.ref p) σ (upd H p (.tup [.int i,x])) λb j=>tb { D with nx:=Pv (i+1),ct:=Pv (i+1),bk:=D.nx } b j) (k:∀ σ H,Pv ↑xs σ H->D.nx σ H):ForJ (F9 K a) g tb D σ H:=by
 refine ⟨λi m σ H=>m=↑xs - i/\i<=↑xs/\Pv i σ H,⟨↑xs,by simp,AX _,d⟩,?_⟩;rintro i m σ H ⟨rfl,n,pv⟩;let q:=f i σ H n pv;by_cases c:i<↑xs
 ·refine .inr ⟨⟨xs,xs[i],q,by simp [c]⟩,Pv (i+1),λo r u=>⟨↑xs - (i+1),⋯,rfl,c,u⟩,λx r y=>?_⟩;let ⟨p,v,hp,rfl,rfl,y⟩:=y;exact h i v p σ _ (y xs q) pv hp
 ·let e:i=↑xs:=by omega
  subst e;exact .inl ⟨⟨xs,q,AV _⟩,k σ H pv⟩
def ForJ.enumT (Pv:Nat->L2.St->Hp->Prop) (d:Pv 0 σ H) (f:∀ i σ H,i<=↑xs->Pv i σ H->H a=some (.tup xs))
  (h:∀ i x p σ H,xs[i]?=some x->Pv i σ H->H p=none->g (.ref p) σ (upd H p (.tup [.int i,x])) λb j=>tb { D with nx:=Pv (i+1),ct:=Pv (i+1),bk:=D.nx } b j) (k:∀ σ H,Pv ↑xs σ H->D.nx σ H):ForJ (Il K a) g tb D σ H:=by
 refine ⟨λi m σ H=>m=↑xs - i/\i<=↑xs/\Pv i σ H,⟨↑xs,by simp,AX _,d⟩,?_⟩;rintro i m σ H ⟨rfl,n,pv⟩;let q:SqT K H a xs:=SqT.of (f i σ H n pv);by_cases c:i<↑xs
 ·refine .inr ⟨⟨xs,xs[i],q,by simp [c]⟩,Pv (i+1),λo r u=>⟨↑xs - (i+1),⋯,rfl,c,u⟩,λx r y=>?_⟩;let ⟨p,v,hp,rfl,rfl,y⟩:=y;exact h i v p σ _ (y xs q) pv hp
 ·let e:i=↑xs:=by omega
  subst e;exact .inl ⟨⟨xs,q,AV _⟩,k σ H pv⟩
end
end Bs
namespace Bs
open PySem PySem.Spec PyProof.Rows L2
section
variable {X:Cx} {pins:cO} {σ:L2.St} {H:Hp} {s:Shared} {N:cT} {capt:List (Option Nat)} {scope:Scope} {cl:List (Str×Addr)} {C:Addr} {fp:cV}
theorem Io {a b:Type} [BEq a] [LawfulBEq a]:∀ {l:List (a×b)} {y:a} {c:b},l.lookup y=some c->(y,c)∈l
 | (k,v)::l,y,c,h=>by
   rw [List.lookup_cons] at h;cases e:y == k with
   | true=>
     rw [e] at h;cases h;rw [eq_of_beq e];exact D6 ..
   | false=>
     rw [e] at h;exact Dn _ (Io h)
end
open PySem.AutoSeq1 (wpAny_loadPart')
section
variable {prog:Program} {w:World} {A:Around} {E:cN} {s:Shared} {e it t:Addr} {i:Nat} {zs:Array Value}
def KM {x:Value} {Q:cN} (si:s.heap.IsTupleIter it t i) (st:s.heap.IsTuple t zs) (d:zs[i]?=some x)
  (f:∀ g,g.IsTupleIter it t (i+1)->Heap.SameBut it s.heap g->Q x { s with heap:=g }):wpAny (model prog w) A (Builtin.SmallTypes.nextOf (.ref it)) Q E s:=by
 let ⟨m,b,h,a⟩:=id si;let ⟨n,j,_,o,k⟩:=st;unfold Builtin.SmallTypes.nextOf;refine pI (wpAny_callSpecial?_slot (name:=Str.ofString "__next__") si.typeIs F.slot_tuple_iterator_next (wpAny_call_entry F.slot_tuple_iterator_next si.typeIs F.entry_tuple_iterator_next ?_ (F.args_tuple_iterator_next_1 _)));show wpAny _ _ (field (.ref it) 0 >>= _) _ _ s;refine pI (wpAny_field b a (x:=.ref t) rfl ?_);show wpAny _ _ (if (Value.ref t == Value.none)=true then _ else _) _ _ s;rw [qZ (λq:(Value.ref t == Value.none)=true=>Cf q)];show wpAny _ _ (field (.ref it) 1 >>= _) _ _ s;refine pI (wpAny_field b a (x:=.int i 0) rfl ?_);show wpAny _ _ (seqItems? (.ref t) >>= _) _ _ s;refine pI (wpAny_seqItems j k ?_);simp only [CB,d];refine pI (wpAny_setField b a (by simp) (pJ ⟨x,rfl,pJ (f _ ⟨_,Heap.get?_update_self _ b (Obj.isFreed_of_fields (Obj.data_mapFields a _)),(Obj.cls_mapFields ..).trans h,?_⟩ (Heap.SameBut.update ..))⟩));rw [Obj.data_mapFields a];simp [rawInt]
def Na {Q:cN} (d:A.handled=none) (si:s.heap.IsTupleIter it t i) (st:s.heap.IsTuple t zs) (h:zs[i]?=none)
  (j:∀ g x,Heap.ExtBut it s.heap g->(∃ o,g.get? x=some o/\o.cls=.type "StopIteration")->E (.ref x) { s with heap:=g }):wpAny (model prog w) A (Builtin.SmallTypes.nextOf (.ref it)) Q E s:=by
 let ⟨p,b,r,c⟩:=id si;let ⟨u,k,_,v,n⟩:=st;unfold Builtin.SmallTypes.nextOf;refine pI (wpAny_callSpecial?_slot (name:=Str.ofString "__next__") si.typeIs F.slot_tuple_iterator_next (wpAny_call_entry F.slot_tuple_iterator_next si.typeIs F.entry_tuple_iterator_next ?_ (F.args_tuple_iterator_next_1 _)));show wpAny _ _ (field (.ref it) 0 >>= _) _ _ s;refine pI (wpAny_field b c (x:=.ref t) rfl ?_);show wpAny _ _ (if (Value.ref t == Value.none)=true then _ else _) _ _ s;rw [qZ (λq:(Value.ref t == Value.none)=true=>Cf q)];show wpAny _ _ (field (.ref it) 1 >>= _) _ _ s;refine pI (wpAny_field b c (x:=.int i 0) rfl ?_);show wpAny _ _ (seqItems? (.ref t) >>= _) _ _ s;refine pI (wpAny_seqItems k n ?_);simp only [CB,h];refine pI (wpAny_rule (pI (wpAny_setField b c (by simp) (pI ?_))));simp only [newExc,newTuple];refine pI (wpAny_newObj_type (pI (m:=firstArgMember _ _) (wpAny_of_eq (a:=Value.none) (by first | rfl | (simp only [firstArgMember];rfl)) (wpAny_newObj_type ?_ (by size_fits)))) (by size_fits));simp only [raiseNew];refine pI (wpAny_handled ?_)
 first
  | rw [show A.in1.handled=none from d]
  | rw [d]
 exact pI (pJ (wpAny_throw (j _ _ (((Heap.SameBut.update ..).extBut.push _).push _) ⟨_,Heap.get?_push_size _ rfl,rfl⟩)))
def W7 {x a:Value} {Q:cN} (J:IsEnum s.heap e it i a) (si:s.heap.IsTupleIter it t i) (st:s.heap.IsTuple t zs) (hx:zs[i]?=some x) (z:e≠it)
  (hQ:∀ g,IsEnumOut g e it ((i:Int)+1) x ⇑s->g.IsTupleIter it t (i+1)->g.get? ⇑s=some { cls:=.type "tuple", data:=.seq #[.int i s.toks,x] }->
   (∀ b o,b≠e->b≠it->s.heap.get? b=some o->g.get? b=some o)->Q (.ref ⇑s) { s with heap:=g,toks:=s.toks+1 }) :
  wpAny (model prog w) A (Builtin.«enumerate.__next__» ⟨[.ref e],[]⟩) (λK s'=>∃ v,K=.done (.ret v)/\Q v s') E s:=by
 let ⟨f,h,j,c,os⟩:=s;show wpAny _ _ (field (.ref e) 2 >>= _) _ _ _;refine pI (wpAny_field J rfl (x:=.ref it) rfl ?_);refine pI (KM si st hx λk i1 n=>?_);replace n:Heap.SameBut it f k:=n;let B:IsEnum k e it i a:=(n.2 e z).trans J;show wpAny _ _ (field (.ref e) 3 >>= _) _ _ ⟨k,h,j,c,os⟩;refine pI (wpAny_field B rfl (x:=rawInt i) rfl ?_);show wpAny _ _ (field (.ref e) 4 >>= _) _ _ ⟨k,h,j,c,os⟩;refine pI (wpAny_field B rfl (x:=.none) rfl ?_);show wpAny _ _ (mkInt i >>= _) _ _ ⟨k,h,j,c,os⟩;refine pI (wpAny_mkInt ?_);show wpAny _ _ (setField (.ref e) 3 (rawInt ((i:Int)+1)) >>= _) _ _ ⟨k,h,j,c+1,os⟩;refine pI (wpAny_setField_rec B (by simp) λu C p=>?_);replace p:Heap.SameBut e k u:=p;replace C:IsEnum u e it ((i:Int)+1) a:=C;show wpAny _ _ (setField (.ref e) 4 .none >>= _) _ _ ⟨u,h,j,c+1,os⟩;refine pI (wpAny_setField_rec C (by simp) λm D q=>?_);replace q:Heap.SameBut e u m:=q;replace D:IsEnum m e it ((i:Int)+1) a:=D;show wpAny _ _ (newTuple [.int i c,x] >>= _) _ _ ⟨m,h,j,c+1,os⟩;refine pI (wpAny_newTuple ?_);let F:IsEnum (m.push { cls:=.type "tuple", data:=.seq #[.int i c,x] }) e it ((i:Int)+1) a:=Heap.get?_push_of_some _ D;generalize G:m.push { cls:=.type "tuple", data:=.seq #[.int i c,x] }=r at F;let L:m.objs.size=f.objs.size:=by rw [q.1,p.1,n.1]
 let le:e<f.objs.size:=pM J;let t4:r.get? f.objs.size=some { cls:=.type "tuple", data:=.seq #[.int i c,x] }:=by rw [<-G,<-L];exact Heap.get?_push_size _ rfl
 let k4:∀ b o,b≠e->b≠it->f.get? b=some o->r.get? b=some o:=λb o d y M=>by
  rw [<-G];exact Heap.get?_push_of_some _ (q.extBut b o d (p.extBut b o d (n.extBut b o y M)))
 let i4:r.IsTupleIter it t (i+1):=by
  let ⟨o,N,O⟩:=i1;exact ⟨o,by rw [<-G];exact Heap.get?_push_of_some _ (q.extBut it o z.symm (p.extBut it o z.symm N)),O⟩
 show wpAny _ _ (Builtin.SmallTypes.ownedTupleIsFree (.ref e) >>= _) _ _ ⟨r,h,j,c+1,os⟩;rw [L];clear G D q C p B n i1 L m u k;refine pI ?_;unfold Builtin.SmallTypes.ownedTupleIsFree;refine pI (wpAny_field F rfl (x:=.none) rfl (pJ ?_));simp only [if_true];refine pI (wpAny_rule (pI (wpAny_field F rfl (x:=a) rfl (pI (wpAny_setField_rec F (by simp) λH P R=>?_)))));replace R:Heap.SameBut e r H:=R;replace P:IsEnum H e it ((i:Int)+1) x:=P;show wpAny _ _ (Builtin.SmallTypes.ownedTupleHandOut (.ref e) (.ref f.objs.size) >>= _) _ _ ⟨H,h,j,c+1,os⟩;refine pI ?_;unfold Builtin.SmallTypes.ownedTupleHandOut;refine pI (wpAny_setField_rec P (by simp) λS T U=>?_);replace U:Heap.SameBut e H S:=U;replace T:IsEnumOut S e it ((i:Int)+1) x f.objs.size:=T;refine wpAny_setField_rec T (by simp) λI W X=>?_;replace X:Heap.SameBut e S I:=X;replace W:IsEnumOut I e it ((i:Int)+1) x f.objs.size:=W;let Y:∀ b o,b≠e->r.get? b=some o->I.get? b=some o:=λb o d y=>X.extBut b o d (U.extBut b o d (R.extBut b o d y));refine pI (wpAny_letGo (pJ ⟨_,rfl,hQ I W ?_ (Y _ _ (Nat.ne_of_gt le) t4) λb o d y M=>Y b o d (k4 b o d y M)⟩));let ⟨o,N,O⟩:=i4;exact ⟨o,Y it o z.symm N,O⟩
def W8 {x d:Value} {Q:cU->Shared->Prop} (f:IsEnum s.heap e it i d) (si:s.heap.IsTupleIter it t i) (st:s.heap.IsTuple t zs) (n:zs[i]?=some x) (p:e≠it)
  (q:∀ g,IsEnumOut g e it ((i:Int)+1) x ⇑s->g.IsTupleIter it t (i+1)->g.get? ⇑s=some { cls:=.type "tuple", data:=.seq #[.int i s.toks,x] }->
   (∀ b o,b≠e->b≠it->s.heap.get? b=some o->g.get? b=some o)->Q (some (.ref ⇑s)) { s with heap:=g,toks:=s.toks+1 }):wpAny (model prog w) A (pyNext (.ref e)) Q E s:=by
 let m:s.TypeIs (.ref e) "enumerate" := ⟨_,f,rfl⟩;unfold pyNext;exact pI (wpAny_attempt (wpAny_callSpecial?_slot (name:=Str.ofString "__next__") m F.slot_enumerate_next (wpAny_call_entry F.slot_enumerate_next m F.entry_enumerate_next (W7 f si st n p λg a b c k=>pJ (q g a b c k)) (F.args_enumerate_next_1 _))))
def W9 {a:Value} {Q:cU->Shared->Prop} (h:A.handled=none) (c:IsEnum s.heap e it i a) (si:s.heap.IsTupleIter it t i) (st:s.heap.IsTuple t zs) (j:zs[i]?=none)
  (k:∀ g,Heap.ExtBut it s.heap g->Q none { s with heap:=g }):wpAny (model prog w) A (pyNext (.ref e)) Q E s:=by
 let f:s.TypeIs (.ref e) "enumerate" := ⟨_,c,rfl⟩;unfold pyNext;refine pI (wpAny_attempt (wpAny_callSpecial?_slot (name:=Str.ofString "__next__") f F.slot_enumerate_next (wpAny_call_entry F.slot_enumerate_next f F.entry_enumerate_next ?_ (F.args_enumerate_next_1 _))));show wpAny _ _ (field (.ref e) 2 >>= _) _ _ _;refine pI (wpAny_field c rfl (x:=.ref it) rfl (pI (Na h si st j λg x m ⟨o,n,p⟩=>?_)));exact pI (wpAny_isInstance (T := "StopIteration") (b:=true) ⟨o,n,p⟩ isSubtype_stop (pJ (k _ m)))
def XA (n:Nat) (f:Option Addr) (m:Array (cU)) :
  Meets (Builtin.«enumerate.__new__» ⟨[.type "enumerate", .ref t],[]⟩) (λ_ R s=>s.heap.get? t=some { cls:=.type "tuple", dict:=f,data:=.seq zs n,slots:=m }/\
   R (.ok (.ret (.ref (s.heap.push { cls:=.type "tuple_iterator", data:=.fields #[.ref t,.int 0 0] }).objs.size)))
     { s with heap:=(s.heap.push { cls:=.type "tuple_iterator", data:=.fields #[.ref t,.int 0 0] }).push { cls:=.type "enumerate", data:=.fields #[.none,.bool false,.ref ⇑s,rawInt 0,.none,.none] } }):=
 .of_wp λprog w A R s h=>by
  let ⟨o,p,q,r,os⟩:=s;let ⟨d,h⟩:=h;let j:=sub_enumerate;let k:Heap.IsTuple (Shared.heap ⟨o,p,q,r,os⟩) t zs:=⟨_,d,rfl,n,rfl⟩
  wp_walk using wpAny_loadPart' d
  refine wpAny_stack_any λu=>pJ ?_;split
  ·rename_i c _ _ _ _ _;cases (c == Value.type "enumerate") <;> (wp_walk using wpAny_loadPart' d,wpAny_pyIter_tuple k;exact ⟨_,rfl,h⟩)
  ·wp_walk using wpAny_loadPart' d,wpAny_pyIter_tuple k
   exact ⟨_,rfl,h⟩
def XB {Q:cN} (q:s.heap.IsTuple t zs)
  (h:∀ g,IsEnum g (⇑s+1) ⇑s 0 .none->g.IsTupleIter ⇑s t 0->(∀ b o,s.heap.get? b=some o->g.get? b=some o)->Q (.ref (⇑s+1)) { s with heap:=g }) :
  wpAny (model prog w) A (call (.type "enumerate") [.ref t]) Q E s:=by
 let ⟨⟨c,a,r,u⟩,v,d,n,f⟩:=q;replace d:c=.type "tuple" := d;replace f:r=.seq zs n:=f;subst d f;refine callType_new F.called_enumerate ∅ (F.typeCall_enumerate_1 _) (F.newCall_enumerate_1 _) (λj=>F.args_object_init_2 j _) F.entry_enumerate_new (XA n a u) ⟨v,?_⟩;let m:(s.heap.push { cls:=.type "tuple_iterator", data:=.fields #[.ref t,.int 0 0] }).objs.size=⇑s+1:=Heap.size_push ..;show _/\_;rw [m]
 let p:IsEnum ((s.heap.push { cls:=.type "tuple_iterator", data:=.fields #[.ref t,.int 0 0] }).push { cls:=.type "enumerate", data:=.fields #[.none,.bool false,.ref ⇑s,rawInt 0,.none,.none] }) (⇑s+1) ⇑s 0 .none:=by
  let z:=Heap.get?_push_size (s.heap.push { cls:=.type "tuple_iterator", data:=.fields #[.ref t,.int 0 0] }) (o:={ cls:=.type "enumerate", data:=.fields #[.none,.bool false,.ref ⇑s,rawInt 0,.none,.none] }) rfl;rw [m] at z;exact z
 exact ⟨⟨_,p,rfl⟩,h _ p ⟨_,Heap.get?_push_of_some _ (Heap.get?_push_size _ rfl),rfl,rfl⟩ λb o x=>Heap.get?_push_of_some _ (Heap.get?_push_of_some _ x)⟩
end
section
variable {X:Cx} {pins:cO} {σ:L2.St} {H:Hp} {s:Shared}
def Nc {e f:Addr} {g:Heap} {tk:Nat} {xs:cJ} {its:cM} (I:Inv X pins σ H s) (i:DZ X pins H e) (j:DZ X pins H f) (k:∀ b o,b≠e->b≠f->s.heap.get? b=some o->g.get? b=some o)
  (x:↑xs<=sizeLine) (A:Vals xs its) (B:g.get? ⇑s=some { cls:=.type "tuple", data:=.seq its.toArray }):Inv X pins σ (upd H ⇑s (.tup xs)) { s with heap:=g,toks:=tk }:=by
 let C:H ⇑s=none:=I.hok.fresh (AV _);let p:∀ b o,s.heap.get? b=some o->b≠⇑s:=λb o q=>BG (pM q);let tr:∀ b u,H b=some u->b≠⇑s/\b≠e/\b≠f:=λb u q=>⟨As q C,As q i.1,As q j.1⟩;let a:∀ b,b∉[e,f]->b≠e/\b≠f:=λb h=>⟨λz=>h (by simp [z]),λz=>h (by simp [z])⟩
 refine I.step (g':=s.gens) (d':=s.drawn) (ch:=[e,f]) (λb h=>?_) (λb o _ _ d q _=>k b o (a b d).1 (a b d).2 q) (λb o _ _ d q _=>⟨o.slots,k b o (a b d).1 (a b d).2 q⟩) (λb o _ q n=>?_) (λb o d q=>⟨o,k b o (a b d).1 (a b d).2 q⟩)
  (λb D q=>?_) (λb o u q=>?_) (λb ps q=>⟨#[],?_⟩) (λm E=>?_) (λb u q=>?_) I.bare
 ·let z:b=e\/b=f:=by simpa using h
  rcases z with rfl | rfl
  ·exact ⟨i.2.2.2.1,i.2.1,i.2.2.2.2.1,i.2.2.2.2.2⟩
  ·exact ⟨j.2.2.2.1,j.2.1,j.2.2.2.2.1,j.2.2.2.2.2⟩
 ·rw [Aq (p b o q)];exact n
 ·rw [Aq (tr b _ q).1];exact q
 ·rw [Aq (tr b _ q).1];exact q
 ·rw [Aq (tr b _ q).1,q];simp
 ·let ⟨o,F,G,J,K⟩:=E;exact ⟨o,F,G,k _ o i.2.1.symm j.2.1.symm J,K⟩
 ·by_cases h:b=⇑s
  ·subst h;rw [upd_same] at q;cases q;exact ⟨x,its,A,⟨_,B,rfl,_,rfl⟩⟩
  ·rw [Aq h] at q;refine (I.hok b u q).stay (λc v d z=>?_) (λc z=>by rw [Aq (tr c _ z).1];exact z) λc D z=>by rw [Aq (tr c _ z).1];exact z
   rcases d with y | y
   ·subst y;exact k _ v (tr _ u q).2.1 (tr _ u q).2.2 z
   ·exact k c v (tr c _ y).2.1 (tr c _ y).2.2 z
end
def XC {P:Program} {w:World} {K:W.Frag} {y:cQ} {k:Nat} {F:Pos} (a e m:Addr) (T:e≠m):Turn P w K (.Tuple y k F) (F9 K a) [e,m] e (λi h=>(∃ f,IsEnum h e m i f)/\h.IsListIter m a i) where
 mem:=by simp
 obj:=λi h n b r=>by
  let ⟨⟨f,j⟩,o,G,c,d⟩:=n
  let z:b=e\/b=m:=by simpa using r
  rcases z with rfl | rfl
  ·exact ⟨_,j,λv z=>nomatch z⟩
  ·exact ⟨o,G,λv z=>by rw [d] at z;cases z⟩
 keep:=λi h h' n U=>⟨let ⟨f,j⟩:=n.1;⟨f,U e (by simp) _ j⟩,n.2.at λo q=>U m (by simp) o q⟩
 item:=by
  intro X J L M Y i A s σ H E I B n N
  subst J L M
  let ⟨Z,x,D,O⟩:=N
  let ⟨⟨f,j⟩,si⟩:=n
  let ⟨C,Q,p,hz⟩:=I.list D
  let ⟨u,hu,ru⟩:=Q.get O
  refine wpAny_pyNext_enum_item j si p.isList (x:=u) (by simpa using hu) T λg eo gi gt _ gk=>?_
  refine ⟨_,rfl,wpAny_letOwnedTupleGo_enum eo λg' R S=>?_⟩
  let I1:=Nc (g:=g') (tk:=s.toks+1) (xs:=[.int i,x]) (its:=[.int i s.toks,u]) I (B e (by simp)) (B m (by simp)) (λb o h1 h2 q=>S.extBut b o h1 (gk b o h1 h2 q)) (sz (by simp)) (.cons ⟨_,rfl⟩ (.cons ru .nil)) (S.extBut _ _ (Nat.ne_of_gt (pM j)) gt)
  refine ⟨.ref ⇑s,_,I1,rfl,⟨_,x,I.hok.fresh (AV _),rfl,rfl,λys hy=>by rw [I.list_inj hy D];exact O⟩,⟨⟨_,by simpa using R⟩,gi.at λo q=>S.extBut m o T.symm q⟩,λb r=>?_⟩
  rw [Aq]
  ·exact (B b r).1
  ·let z:b=e\/b=m:=by simpa using r
   rcases z with rfl | rfl
   ·exact BG (pM j)
   ·let ⟨o,G,_⟩:=si;exact BG (pM G)
 done:=by
  intro X J L M Y i A s σ H E I B n N
  subst J L M
  let ⟨Z,D,O⟩:=N
  let ⟨⟨f,j⟩,si⟩:=n
  let ⟨C,Q,p,hz⟩:=I.list D
  let ⟨f0,f1,f2,f3,f4,f5⟩:=B m (by simp)
  let hl:=↑Q
  exact wpAny_pyNext_enum_end (I.ok.hd Y) j si p.isList (by simp;omega) λg eb=>⟨rfl,I.turned (t':=s.toks) (λb o r q=>eb b o r q) f0 f1 f3 f4 f5⟩
 self:=λ_ _ _ _ _ n h=>let ⟨_,j⟩:=n.1;wpAny_pyIter_enum j h
def XD {P:Program} {w:World} {K:W.Frag} {A:cQ} {k:Nat} {F:Pos} (a e m:Addr) (T:e≠m):Turn P w K (.Tuple A k F) (Il K a) [e,m] e (λi h=>(∃ f,IsEnum h e m i f)/\h.IsTupleIter m a i) where
 mem:=by simp
 obj:=λi h n b y=>by
  let ⟨⟨f,j⟩,o,G,c,d⟩:=n
  let z:b=e\/b=m:=by simpa using y
  rcases z with rfl | rfl
  ·exact ⟨_,j,λv z=>nomatch z⟩
  ·exact ⟨o,G,λv z=>by rw [d] at z;cases z⟩
 keep:=λi h h' n U=>⟨let ⟨f,j⟩:=n.1;⟨f,U e (by simp) _ j⟩,n.2.at λo q=>U m (by simp) o q⟩
 item:=by
  intro X J L M Y i B s σ H E I C n N
  subst J L M
  let ⟨Z,x,D,O⟩:=N
  let ⟨⟨f,j⟩,si⟩:=n
  let ⟨r,Q,p,hz⟩:=I.tuple D
  let ⟨u,hu,ru⟩:=Q.get O
  refine W8 j si (show s.heap.IsTuple a r.toArray from p) (x:=u) (by simpa using hu) T λg eo gi gt gk=>?_
  refine ⟨_,rfl,wpAny_letOwnedTupleGo_enum eo λg' R S=>?_⟩
  let I1:=Nc (g:=g') (tk:=s.toks+1) (xs:=[.int i,x]) (its:=[.int i s.toks,u]) I (C e (by simp)) (C m (by simp)) (λb o h1 h2 q=>S.extBut b o h1 (gk b o h1 h2 q)) (sz (by simp)) (.cons ⟨_,rfl⟩ (.cons ru .nil)) (S.extBut _ _ (Nat.ne_of_gt (pM j)) gt)
  refine ⟨.ref ⇑s,_,I1,rfl,⟨_,x,I.hok.fresh (AV _),rfl,rfl,λys hy=>by rw [I.tuple_inj hy D];exact O⟩,⟨⟨_,by simpa using R⟩,gi.at λo q=>S.extBut m o T.symm q⟩,λb y=>?_⟩
  rw [Aq]
  ·exact (C b y).1
  ·let z:b=e\/b=m:=by simpa using y
   rcases z with rfl | rfl
   ·exact BG (pM j)
   ·let ⟨o,G,_⟩:=si;exact BG (pM G)
 done:=by
  intro X J L M Y i B s σ H E I C n N
  subst J L M
  let ⟨Z,D,O⟩:=N
  let ⟨⟨f,j⟩,si⟩:=n
  let ⟨r,Q,p,hz⟩:=I.tuple D
  let ⟨f0,f1,f2,f3,f4,f5⟩:=C m (by simp)
  let hl:=↑Q
  exact W9 (I.ok.hd Y) j si (show s.heap.IsTuple a r.toArray from p) (by simp;omega) λg eb=>⟨rfl,I.turned (t':=s.toks) (λb o y q=>eb b o y q) f0 f1 f3 f4 f5⟩
 self:=λ_ _ _ _ _ n h=>let ⟨_,j⟩:=n.1;wpAny_pyIter_enum j h
section
variable {X:Cx} {elts:cQ} {k:Nat} {tpos:Pos} {a:Expr} {ta:TA} {p pos:Pos}
def GA (o:Gl X "enumerate") (r:X.mg "enumerate" = none) (v:PA X [a] ta) (w:starEach [a] X.env=[(false,eval a X.env)]:=by rfl):PI X (.Tuple elts k tpos) (.Call (.Name "enumerate" p) [a] [] pos) (EI X.K ta):=by
 intro d s i H R I h;refine Call_ (Dg I o r NX (PyProof.Rows.callWith_type1 (H_ (v pos d s i H _ I h) λG e ⟨J,j,f,x,y⟩=>?_) w rfl));let ⟨b,rfl,⟨K,A⟩,q⟩:=y;let ⟨u,rfl,B⟩:=EG x;cases B;let ⟨C,L,pl,M⟩:=f.list A;refine call_enumerate_list pl.isList λg m si _ D=>?_;let E:Inv X d i j { e with heap:=g }:=f.kept (t':=e.toks) D;refine wpAny_pyIter_enum m ⟨_,[⇑e+1,⇑e],_,_,j,rfl,E,XC b _ _ (Nat.succ_ne_self _),⟨⟨_,m⟩,si⟩,λc F=>?_,q⟩;let z:c=⇑e+1\/c=⇑e:=by simpa using F
 rcases z with rfl | rfl
 ·exact f.fpOk (D7 _) (f.hok.fresh (D7 _))
 ·exact f.fpOk (AV _) (f.hok.fresh (AV _))
def Nd (r:Gl X "enumerate") (v:X.mg "enumerate" = none) (w:PA X [a] ta) (x:starEach [a] X.env=[(false,eval a X.env)]:=by rfl):PI X (.Tuple elts k tpos) (.Call (.Name "enumerate" p) [a] [] pos) (Im X.K ta):=by
 intro d s j H R I h;refine Call_ (Dg I r v NX (PyProof.Rows.callWith_type1 (H_ (w pos d s j H _ I h) λG e ⟨J,m,f,y,A⟩=>?_) x rfl));let ⟨b,rfl,⟨K,B⟩,q⟩:=A;let ⟨u,rfl,C⟩:=EG y;cases C;let ⟨i,L,pl,M⟩:=f.tuple B;refine XB (show e.heap.IsTuple b i.toArray from pl) λg n si D=>?_;let E:Inv X d j m { e with heap:=g }:=f.kept (t':=e.toks) D;refine wpAny_pyIter_enum n ⟨_,[⇑e+1,⇑e],_,_,m,rfl,E,XD b _ _ (Nat.succ_ne_self _),⟨⟨_,n⟩,si⟩,λc F=>?_,q⟩;let z:c=⇑e+1\/c=⇑e:=by simpa using F
 rcases z with rfl | rfl
 ·exact f.fpOk (D7 _) (f.hok.fresh (D7 _))
 ·exact f.fpOk (AV _) (f.hok.fresh (AV _))
end
end Bs
namespace Bs
open PySem L2
mutual
inductive RepD (H:Hp):V->W.Dat->Prop
 | non:RepD H .non .none
 | int (i:Int):RepD H (.int i) (.int i)
 | tup {p:Addr} {xs:cJ} {ds:List W.Dat} (h:H p=some (.tup xs)) (r:RepA H xs ds):RepD H (.ref p) (.tuple ds)
 | lst {p:Addr} {xs:cJ} {ds:List W.Dat} (h:H p=some (.lst xs)) (r:RepA H xs ds):RepD H (.ref p) (.list ds)
inductive RepA (H:Hp):cJ->List W.Dat->Prop
 | nil:RepA H [] []
 | cons {x:V} {xs:cJ} {d:W.Dat} {ds:List W.Dat} (h:RepD H x d) (r:RepA H xs ds):RepA H (x::xs) (d::ds)
end
def bS:R2:=λx y H Q=>∃ (d e:W.Dat) (b:Bool),RepD H x d/\RepD H y e/\W.kqdOk 8 d=true/\W.kqdOk 8 e=true/\(b=true↔d=e)/\Q (.bl b) H
def bx:R2:=λx y H Q=>∃ (d e:W.Dat) (b:Bool),RepD H x d/\RepD H y e/\W.kqdOk 8 d=true/\W.kqdOk 8 e=true/\(b=true↔d=e)/\Q (.bl (!b)) H
def FA (c:TE):TT:=λd H Q=>c d H λx a=>∃ p b,x=.ref p/\a p=some (.lst b)/\Q (!b.isEmpty) a
def sL:V->Option Int->Option Int->Hp->VK->Prop:=λx lo c H Q=>∃ a b,x=.ref a/\H a=some (.lst b)/\∀ p,H p=none->Q (.ref p) (upd H p (.lst (Be b lo c)))
def GB:cJ->Hp->VK->Prop:=λb H Q=>∃ p a,b=[.ref p]/\H p=some (.lst a)/\∀ l,H l=none->Q (.ref l) (upd H l (.tup a))
def Ip:cJ->Hp->VK->Prop:=λb H Q=>∃ p a,b=[.ref p]/\H p=some (.tup a)/\∀ l,H l=none->Q (.ref l) (upd H l (.lst a))
def HZ:cJ->Hp->VK->Prop:=λb H Q=>∃ p a,b=[.ref p]/\H p=some (.lst a)/\∀ l,H l=none->Q (.ref l) (upd H l (.lst a))
end Bs
namespace Bs
open PySem PySem.Spec PyProof.Rows L2
section
variable {X:Cx} {pins:cO} {σ:L2.St} {H:Hp} {s:Shared}
mutual
theorem Gg (I:Inv X pins σ H s):∀ {x:V} {d:W.Dat} {u:Value},RepD H x d->RelV x u->∃ as,Reads s.heap u (W.kqdP d) as
 | _,_,_,.non,e=>by cases e;rw [W.kqdP];exact ⟨_,Reads.none⟩
 | _,_,_,.int i,⟨t,e⟩=>by subst e;rw [W.kqdP];exact ⟨_,Reads.int i t⟩
 | _,_,_,.tup h r,e=>by
   cases e;let ⟨a,b,p,_⟩:=I.tuple (SqT.of h);let ⟨as,q⟩:=Iq I r b;let ⟨o,c,f,n,g⟩:=p;rw [W.kqdP];exact ⟨as,reads_tuple_at c f g (by simpa using q)⟩
 | _,_,_,.lst h r,e=>by
   cases e;let ⟨a,b,p,_⟩:=I.list (SqL.of h);let ⟨as,q⟩:=Iq I r b;let ⟨o,n,c,f,_,g⟩:=p;rw [W.kqdP];exact ⟨_,reads_list_at c f g (by simpa using q)⟩
theorem Iq (I:Inv X pins σ H s):∀ {xs:cJ} {ds:List W.Dat} {a:cM},RepA H xs ds->Vals xs a->∃ as,ReadsAll s.heap a (W.kqdPs ds) as
 | _,_,_,.nil,.nil=>by rw [W.kqdPs];exact ⟨_,ReadsAll.nil⟩
 | _,_,_,.cons h r,.cons e b=>by
   let ⟨as,q⟩:=Gg I h e;let ⟨d,c⟩:=Iq I r b;rw [W.kqdPs];exact ⟨_,ReadsAll.cons q c⟩
end
def Ir {d:W.Dat} (h:W.kqdOk 8 d=true):SeqAt.shaped (W.kqdP d)=true:=by
 let z:=W.kqd_lay 8 d h;unfold SeqAt.shaped;rw [z.1,Bool.true_and];exact pC (BM z.2 ∅)
def Nf {d e:W.Dat} {b:Bool} (a:W.kqdOk 8 d=true) (c:W.kqdOk 8 e=true) (f:b=true↔d=e):PyData.eqv (W.kqdP d) (W.kqdP e)=b:=by
 rw [Bool.eq_iff_iff,f];exact W.kqd_eqv 8 d e 8 a c
def Ng (f:X.A.units+64<cLine):OpR X (compareOp .Eq) bS:=by
 intro pins s σ H x y v u Q I g i h;let ⟨d,e,b,j,k,a,c,m,q⟩:=h;let ⟨as,n⟩:=Gg I j g;let ⟨p,o⟩:=Gg I k i;exact eq_dataH n o (Ir a) (Ir c) f (by rw [Nf a c m];exact ⟨.bl b,H,I,rfl,q⟩)
def KN (f:X.A.units+64<cLine):OpR X (compareOp .NotEq) bx:=by
 intro pins s σ H x y v u Q I g i h;let ⟨d,e,b,j,k,a,c,m,q⟩:=h;let ⟨as,n⟩:=Gg I j g;let ⟨p,o⟩:=Gg I k i;exact ne_dataH n o (Ir a) (Ir c) f (by rw [Nf a c m];exact ⟨.bl (!b),H,I,rfl,q⟩)
def Gh {a:Expr} {c:TE} (d:PE X a c) (f:∀ b,isTrue a X.env b=(do let v <-b;standAt a.pos;holding [v] (truthy v))):PT X a (FA c):=λpins s σ H Q I h=>
 isTrue_plain (H_ (d pins s σ H _ I h) λv g ⟨x,i,j,k,m⟩=>by
  let ⟨p,n,e,hp,q⟩:=m;subst e;exact Uk pins g σ i _ v Q j k ⟨_,.inl ⟨n,SqL.of hp,rfl⟩,q⟩) (f _)
def Ea:aY X sL:=by
 intro pins s σ H x v vl b lo c d Q I f g pl i h;let ⟨a,j,e,k,q⟩:=h;exact NI pins s σ H x v vl b lo c d Q I f g pl i ⟨a,j,e,SqL.of k,q⟩
def Gi:C6 X (.type "tuple") GB:=λpins s σ H a b Q I r h=>by
 let ⟨p,c,e,hp,q⟩:=h;exact VO pins s σ H a b Q I r ⟨p,c,e,.inl ⟨SqL.of hp,q⟩⟩
def KO:C6 X (.type "list") Ip:=λpins s σ H a b Q I r h=>by
 let ⟨p,c,e,hp,q⟩:=h;exact NK pins s σ H a b Q I r ⟨p,c,e,.inr (SqT.of hp),q⟩
def Iu:C6 X (.type "list") HZ:=λpins s σ H a b Q I r h=>by
 let ⟨p,c,e,hp,q⟩:=h;exact NK pins s σ H a b Q I r ⟨p,c,e,.inl (SqL.of hp),q⟩
def KP:bv X gL:=by
 intro pins s σ H o i A B Q I g m h;let ⟨p,k,C,v,rfl,rfl,hp,n,q⟩:=h;cases g;let ⟨t,rfl⟩:=m;let ⟨c,r,pl,D⟩:=I.list (SqL.of hp);let ⟨j,b,u,E,x,y⟩:=KG n;let ⟨w,e,rw'⟩:=r.get u;let z:=↑r;let F:=Gb;let a:EP X pins σ Q w s:=⟨v,H,I,rw',q⟩;by_cases f:0<=k
 ·let d:k.toNat=j:=by
   rw [seqIndex_of f y] at b;exact pL b
  exact wpAny_getItem_list pl.isList f ⋯ (by rw [d];simpa using e) a
 ·let d:(k+(c.toArray.size:Int)).toNat=j:=by
   rw [seqIndex_neg ⋯ x] at b;rw [A7,<-z];exact pL b
  exact wpAny_getItem_list_neg pl.isList ⋯ (by rw [A7] <;> omega) ⋯ (by rw [d];simpa using e) a
def Gj {K:W.Frag} {p:Addr} {xs:cJ} (h:H p=some (.lst xs)):bQ K "list" (.ref p) H:=.inl ⟨rfl,xs,SqL.of h⟩
end
end Bs
namespace Bs
open PySem L2
def CZ (n:Nat) (t:aH):TG:=λv c H Q=>∃ a b,v=.ref a/\H a=some (.tup b)/\↑b=n/\t b c H Q
end Bs
namespace Bs
open PySem PySem.Spec PyProof.Rows L2
def Cw {X:Cx} {c:cQ} {k:Nat} {d:Pos} {t:aH} {n:Nat} (g:X.calm=true) (h:br X c t)
  (i:(assignEach c X.env).length=n:=by rfl) (f:(assignEach c X.env).findIdx? (·.1)=none:=by rfl):PG X (.Tuple c k d) (CZ n t):=λb s j H v u Q I r q=>by
 let ⟨a,m,e,o,p,q⟩:=q;exact UV g h i f b s j H v u Q I r ⟨a,m,e,SqT.of o,p,q⟩
end Bs
namespace Bs
open PySem L2
def sT:V->Option Int->Option Int->Hp->VK->Prop:=λx lo d H Q=>∃ a b,x=.ref a/\H a=some (.tup b)/\∀ p c,(c=H/\p=a/\Be b lo d=b)\/(H p=none/\c=upd H p (.tup (Be b lo d)))->Q (.ref p) c
end Bs
namespace HT
open PySem PySem.Spec PyProof.Rows
def whole_cut {prog:Program} {w:World} {A:Around} {E:cN} {s:Shared} {t b:Addr} {items:Array Value} {vl g:Value} {lo c:Option Int} {Q:cN} (a:IsTup s.heap t items) (i:s.heap.IsSliceOf b vl g .none) (pl:IsPart vl lo) (k:IsPart g c)
  (j:sIx items.size 0 lo=0/\sIx items.size items.size c=items.size) (h:Q (.ref t) s):wpAny (model prog w) A (getItem (.ref t) (.ref b)) Q E s:=by
 let ⟨os,d,e,n⟩:=id i;let f:s.TypeIs (.ref b) "slice" := ⟨os,d,e⟩;unfold getItem
 try with_reducible refine wpAny_holding ?_
 first | refine pI (pJ ?_) | skip
 refine pI (wpAny_sequenceKey a.typeIs ∅ ?_)
 refine pI (wpAny_callSpecial?_slot (name:=Str.ofString "__getitem__") a.typeIs PyProof.Rows.slot_tuple_getitem
  (wpAny_call_entry PyProof.Rows.slot_tuple_getitem a.typeIs entry_tuple_getitem ?_ (args_tuple_getitem _ _)))
 show wpAny _ _ (Builtin.Tuple.tupleItemsOf (.ref t) >>= _) _ _ s;refine pI (tupleItemsOf_ a ?_);refine pI (wpAny_typeOf f ?_);rw [pB ∅];refine pI (NF i pl k ?_);show wpAny _ _ (if (((sIx items.size 0 lo:Nat):Int) == 0 && (1:Int) == 1 && (sIx items.size items.size c - sIx items.size 0 lo) == items.size)=true then _ else _) _ _ s;rw [pB (by rw [j.1,j.2];simp)];refine pI (m:=Builtin.Tuple.tupleIsExact (.ref t)) (pI (wpAny_typeOf a.typeIs (pJ ?_)));rw [pB ∅]
 first
  | exact pI (wpAny_rule (pI (pJ (pJ ⟨_,rfl,pJ h⟩))))
  | exact pI (wpAny_rule (pI (pJ ⟨_,rfl,pJ h⟩)))
  | exact pI (wpAny_rule (pJ ⟨_,rfl,pJ h⟩))
  | exact pI (pI (wpAny_rule (pJ (pJ ⟨_,rfl,pJ h⟩))))
end HT
namespace Bs
open PySem PySem.Spec PyProof.Rows L2
def KQ {X:Cx}:aY X sT:=by
 intro c s u H x v vl w lo i y Q I j k pl m h;let ⟨a,b,e,n,q⟩:=h;by_cases f:HT.sIx ↑b 0 lo=0/\HT.sIx ↑b ↑b i=↑b
 ·subst e;cases j;let ⟨g,r,o,z⟩:=I.tuple (SqT.of n);let d:g.toArray.size=↑b:=by rw [A7];exact r.length.symm
  refine ⟨"tuple", _,PyProof.Rows.slot_tuple_getitem.lookup,o.typeIs,HT.whole_cut o k pl m (by rw [d];exact f) ⟨.ref a,H,I,rfl,q a H (.inl ⟨rfl,rfl,?_⟩)⟩⟩;unfold Be;rw [f.1,f.2,List.drop_zero,Nat.sub_zero,B4]
 ·exact VD c s u H x v vl w lo i y Q I j k pl m ⟨a,b,e,SqT.of n,f,λp hp=>q p _ (.inr ⟨hp,rfl⟩)⟩
end Bs
namespace Bs
open PySem L2
noncomputable def bA (lo:Int) (n:Nat):It:=⟨λi _=>i<n,λi H x a=>a=H/\x=.int (lo - i),λi _=>n<=i⟩
def Iv (a:TA):TI:=λb H R=>a b H λc d=>∃ i j:Int,c=[.int i,.int j,.int (-1)]/\(-(2 ^ 62)<=i/\i<2 ^ 62/\-(2 ^ 62)<=j/\j<2 ^ 62)/\R (bA i (i - j).toNat) d
section
variable {K:W.Frag} {ta:TA} {g:TG} {tb:TS} {D:Ends} {σ:L2.St} {H:Hp} {a:Addr} {xs:cJ}
def qV:Ay (Iv ta) g tb D σ H=ta σ H (λb c=>∃ i j:Int,b=[.int i,.int j,.int (-1)]/\(-(2 ^ 62)<=i/\i<2 ^ 62/\-(2 ^ 62)<=j/\j<2 ^ 62)/\ForJ (bA i (i - j).toNat) g tb D σ c):=rfl
def ForJ.down {lo:Int} {n:Nat} (Pv:Nat->L2.St->Hp->Prop) (d:Pv 0 σ H)
  (f:∀ i σ H,i<n->Pv i σ H->g (.int (lo - i)) σ H λb h=>tb { D with nx:=Pv (i+1),ct:=Pv (i+1),bk:=D.nx } b h) (j:∀ σ H,Pv n σ H->D.nx σ H):ForJ (bA lo n) g tb D σ H:=by
 refine ⟨λi m σ H=>m=n - i/\i<=n/\Pv i σ H,⟨n,by simp,AX _,d⟩,?_⟩;rintro i m σ H ⟨rfl,v,pv⟩;by_cases c:i<n
 ·refine .inr ⟨c,Pv (i+1),λk o p=>⟨n - (i+1),⋯,rfl,c,p⟩,λx o y=>?_⟩;let ⟨e,y⟩:=y;subst e y;exact f i σ _ c pv
 ·let e:i=n:=by omega
  subst e;exact .inl ⟨AV _,j σ H pv⟩
end
end Bs
namespace Bs
open PySem PySem.Spec PyProof.Rows L2
def XE {P:Program} {w:World} {K:W.Frag} {M:Expr} (c:Addr) (lo:Int) (n:Nat):Turn P w K M (bA lo n) [c] c (λi h=>IsRangeIter h c (lo+(i:Nat)*(-1)) ((n:Int) - (i:Nat)) (-1)) where
 mem:=by simp
 obj:=λi h a b f=>by
  let e:b=c:=by simpa using f
  subst e
  exact ⟨_,a,λv z=>by
   let N:Data.fields _=Data.cell v:=z
   cases N⟩
 keep:=λi h p a k=>k c (by simp) _ a
 item:=by
  intro X r u x y i d s J H E I q a A
  subst r u x
  let ⟨B,C,O,D,F,G⟩:=q c (by simp)
  let W:=Walks.range (prog:=X.prog) (w:=X.w) (I.ok.hd y) c lo (-1) n
  refine W.item i s _ _ A a λv p L Q g R=>?_
  let ⟨t,rfl⟩:=Q
  let S:Inv X d J H { s with heap:=p,toks:=L }:=I.turned (λb o f e=>R b o (by simpa using f) e) B C D F G
  refine ⟨_,rfl,HS (s:={ s with heap:=p,toks:=L }) (n := "range_iterator") g rfl rfl ∅ ⟨.int (lo - i),H,S,⟨t,?_⟩,⟨rfl,rfl⟩,g,λb f=>(q b f).1⟩⟩
  rw [show lo+(i:Int)*(-1)=lo - i by omega]
 done:=by
  intro X r u x y i d s J H E I q a A
  subst r u x
  let ⟨B,C,O,D,F,G⟩:=q c (by simp)
  exact wpAny_pyNext_range_end (I.ok.hd y) a (by have:n<=i:=A;omega) λp T=>⟨rfl,I.turned (t':=s.toks) (λb o f e=>T b o f e) B C D F G⟩
 self:=λ_ _ _ _ _ a h=>wpAny_pyIter_rangeiter a h
def Nh (a b:Int):Builtin.Range.rangeSize a b (-1)=if b<a then a - b else 0:=by
 unfold Builtin.Range.rangeSize;simp only [show ¬ ((-1:Int) > 0) by decide,if_false,Int.neg_neg,Int.ediv_one];split <;> omega
def XF {a b:Int} (e:-(2 ^ 62)<=a) (c:a<2 ^ 62) (f:-(2 ^ 62)<=b) (d:b<2 ^ 62):Builtin.Range.small a b (-1)=true:=by
 unfold Builtin.Range.small;rw [Nh];simp only [Builtin.Range.rangeFitsLong,Bool.and_eq_true,Bool.or_eq_true,decide_eq_true_eq,beq_iff_eq,show ¬ ((-1:Int) > 0) by decide,if_false];split <;> omega
theorem XG {X:Cx} {E:Expr} {a b c:Expr} {z:TA} {p n:Pos} (F:Gl X "range") (G:X.mg "range" = none) (J:PA X [a,b,c] z) (K:starEach [a,b,c] X.env=[(false,eval a X.env),(false,eval b X.env),(false,eval c X.env)]:=by rfl) (u:starEach [b,c] X.env=[(false,eval b X.env),(false,eval c X.env)]:=by rfl) :
  PI X E (.Call (.Name "range" p) [a,b,c] [] n) (Iv z):=by
 intro g s A H R I h;refine Call_ (Dg I F G boot_range (PyProof.Rows.callWith_type1 (H_ (J n g s A H _ I h) λW k ⟨Y,B,L,M,w⟩=>?_) (by rw [K,u]) (by rw [u];rfl)));let ⟨i,j,e,⟨w,N,O,P⟩,q⟩:=w;subst e;cases M with
 | cons r v=>
   cases v with
   | cons Q v=>
     cases v with
     | cons x v=>
       cases v;let ⟨t,rfl⟩:=r;let ⟨t',rfl⟩:=Q;let ⟨f,rfl⟩:=x;refine call_range_3 ∅ ?_ (.inl (PyProof.noPylong_small ∅));refine wpAny_pyIter_range (IsRange.new ..) (XF w N O P) ?_;let y:Inv X g A B { k with heap:=k.heap.push { cls:=.type "range", data:=.fields #[.int i t,.int j t',.int (-1) f] },toks:=k.toks }:=L.kept λb o e=>Heap.get?_push_of_some _ e
       refine ⟨(k.heap.push { cls:=.type "range", data:=.fields #[.int i t,.int j t',.int (-1) f] }).objs.size,[(k.heap.push { cls:=.type "range", data:=.fields #[.int i t,.int j t',.int (-1) f] }).objs.size],_,_,B,rfl,
        y.kept (t':=k.toks) λb o e=>Heap.get?_push_of_some _ e,XE _ i (i - j).toNat,?_,λb S=>?_,q⟩
       ·let T:i+((0:Nat):Int)*(-1)=i:=by simp
        let U:(((i - j).toNat:Nat):Int) - ((0:Nat):Int)=Builtin.Range.rangeSize i j (-1):=by rw [Nh];split <;> omega
        show IsRangeIter _ _ (i+((0:Nat):Int)*(-1)) ((((i - j).toNat:Nat):Int) - ((0:Nat):Int)) (-1);rw [T,U];exact Heap.get?_push_size _ rfl
       ·let e:b=(k.heap.push { cls:=.type "range", data:=.fields #[.int i t,.int j t',.int (-1) f] }).objs.size:=by simpa using S
        subst e;exact y.fpOk (AV _) (y.hok.fresh (AV _))
end Bs
namespace Bs
open PySem L2
def XH:R2:=λx y H Q=>y=.non/\Q (.bl (decide (x=.non))) H
def XI:R2:=λx y H Q=>y=.non/\Q (.bl (!decide (x=.non))) H
def XJ (_ j:Int):Prop:=0<j
def Hb (_ j:Int):Prop:=j≠0
abbrev En:R2:=rI XJ λi j=>.int (i / j)
abbrev FB:R2:=rI Hb λi j=>.int (i.fdiv j)
noncomputable def aR (K:W.Frag) (a b:Addr):It:=
 ⟨λi H=>∃ c d x y,SqL K H a c/\SqL K H b d/\c[i]?=some x/\d[i]?=some y,λi H v e=>∃ p x y,H p=none/\v=.ref p/\e=upd H p (.tup [x,y])/\(∀ c,SqL K H a c->c[i]?=some x)/\∀ d,SqL K H b d->d[i]?=some y,λi H=>∃ c d,SqL K H a c/\SqL K H b d/\↑c<=i⟩
def Dx (K:W.Frag) (d:TA):TI:=λe H R=>d e H λf c=>∃ a b,f=[.ref a,.ref b]/\(∃ g,SqL K c a g)/\(∃ h,SqL K c b h)/\R (aR K a b) c
def FC (h:TI) (capt:List (Option Nat)) (g:TG) (tc:TT) (j:TE):TE:=λd H Q=>h d H λJ k=>∃ (n:Nat) (W:Nat->cJ->Hp->Prop),W 0 [] k/\∀ i a H,W i a H->i<=n/\↑a<=sizeLine/\
 ((J.stop i H/\∀ p,H p=none->Q (.ref p) (upd H p (.lst a)))\/(i<n/\J.go i H/\∀ x e,J.yld i H x e->g x (CU capt d) e λc m=>tc c m λb f=>if b=true then j c f λy o=>W (i+1) (a++[y]) o else W (i+1) a f))
def CompF (J:It) (capt:List (Option Nat)) (g:TG) (tc:TT) (f:TE) (h:L2.St) (Q:VK) (j:Hp):Prop:=∃ (n:Nat) (W:Nat->cJ->Hp->Prop),W 0 [] j/\∀ i a H,W i a H->i<=n/\↑a<=sizeLine/\
 ((J.stop i H/\∀ p,H p=none->Q (.ref p) (upd H p (.lst a)))\/(i<n/\J.go i H/\∀ x d,J.yld i H x d->g x (CU capt h) d λc k=>tc c k λb e=>if b=true then f c e λy m=>W (i+1) (a++[y]) m else W (i+1) a e))
section
variable {K:W.Frag} {ta:TA} {tl:TE} {capt:List (Option Nat)} {g:TG} {tc:TT} {te:TE} {tb:TS} {D:Ends} {σ:L2.St} {H:Hp} {Q:VK} {a b:Addr} {xs ys:cJ}
def qW:FC (BL K tl) capt g tc te σ H Q=tl σ H (λx c=>∃ a,x=.ref a/\(∃ xs,SqL K c a xs)/\CompF (aa K a) capt g tc te σ Q c):=rfl
def qY:At (Dx K ta) capt g te σ H Q=ta σ H (λd c=>∃ a b,d=[.ref a,.ref b]/\(∃ xs,SqL K c a xs)/\(∃ ys,SqL K c b ys)/\CompJ (aR K a b) capt g te σ Q c):=rfl
def CompF.lst (W:Nat->cJ->Hp->Prop) (j:W 0 [] H) (d:∀ i ys H,W i ys H->i<=↑xs/\↑ys<=sizeLine/\SqL K H a xs)
  (k:∀ i x ys H,xs[i]?=some x->W i ys H->g x (CU capt σ) H λc m=>tc c m λb f=>if b=true then te c f λy n=>W (i+1) (ys++[y]) n else W (i+1) ys f) (o:∀ ys H,W ↑xs ys H->∀ p,H p=none->Q (.ref p) (upd H p (.lst ys))):CompF (aa K a) capt g tc te σ Q H:=by
 refine ⟨↑xs,W,j,λi ys H w=>⟨(d i ys H w).1,(d i ys H w).2.1,?_⟩⟩;let q:SqL K H a xs:=(d i ys H w).2.2;by_cases h:i<↑xs
 ·refine .inr ⟨h,⟨xs,xs[i],q,by simp [h]⟩,λx r y=>?_⟩;let ⟨e,y⟩:=y;subst e;exact k i x ys _ (y xs q) w
 ·let e:i=↑xs:=EQ (d i ys H w).1 (Nat.not_lt.mp h);subst e;exact .inl ⟨⟨xs,q,AV _⟩,o ys H w⟩
def CompJ.zip (k:↑xs=↑ys) (W:Nat->cJ->Hp->Prop) (m:W 0 [] H) (d:∀ i c H,W i c H->i<=↑xs/\↑c<=sizeLine/\SqL K H a xs/\SqL K H b ys)
  (n:∀ i x y c H p,xs[i]?=some x->ys[i]?=some y->W i c H->H p=none->g (.ref p) (CU capt σ) (upd H p (.tup [x,y])) λf o=>te f o λz r=>W (i+1) (c++[z]) r) (u:∀ c H,W ↑xs c H->∀ p,H p=none->Q (.ref p) (upd H p (.lst c))):CompJ (aR K a b) capt g te σ Q H:=by
 refine ⟨↑xs,W,m,λi c H w=>⟨(d i c H w).1,(d i c H w).2.1,?_⟩⟩;let ⟨_,_,q,j⟩:=d i c H w;by_cases h:i<↑xs
 ·refine .inr ⟨h,⟨xs,ys,xs[i],ys[i],q,j,by simp [h],by simp [k ▸ h]⟩,λv F y=>?_⟩;let ⟨p,x,y,hp,A,B,C,E⟩:=y;subst A B;exact n i x y c _ p (C xs q) (E ys j) w hp
 ·let e:i=↑xs:=EQ (d i c H w).1 (Nat.not_lt.mp h);subst e;exact .inl ⟨⟨xs,ys,q,j,AV _⟩,u c H w⟩
end
def XM:V->Hp->VK->Prop:=λx H Q=>∃ (p:Addr) (a:cL),x=.ref p/\H p=some (.lst (~~~a))/\∀ m:Int,(a=[]/\m=0\/m∈a)->Q (.int m) H
def Ni (a:TE):TE:=λb H Q=>a b H λx c=>XM x c Q
def Nj:cJ->Hp->VK->Prop:=λb H Q=>∃ (p:Addr) (a:cL),b=[.ref p]/\H p=some (.lst (~~~a))/\Q (.bl (a.any λz=>!decide (z=0))) H
end Bs
namespace Bs
open PySem PySem.Spec PyProof.Rows L2
section
variable {X:Cx} {pins:cO} {σ:L2.St} {H:Hp} {s:Shared}
def FY:OpR X (binaryOp .FloorDiv) FB:=by
 intro pins s σ H x y v u Q I a b ⟨i,j,c,d,e,q⟩;subst c d;let ⟨t,rfl⟩:=a;let ⟨f,rfl⟩:=b;exact floordiv_int e ⟨.int (i.fdiv j),H,I.tok _,⟨_,rfl⟩,q⟩ (Or.inr (I.ok.plr s I.bk))
def GC:OpR X (binaryOp .FloorDiv) En:=by
 intro pins s σ H x y v u Q I b c ⟨i,j,d,e,f,q⟩;let a:0<j:=f;replace q:Q (.int (i / j)) H:=q;rw [<-Ei i (Dr a)] at q;exact FY pins s σ H x y v u Q I b c ⟨i,j,d,e,Ah a,q⟩
def Nk {f:cV} {g:Heap} {tk:Nat} (I:Inv X pins σ H s) (e:∀ b∈f,DZ X pins H b) (k:∀ b o,b∉f->s.heap.get? b=some o->g.get? b=some o):Inv X pins σ H { s with heap:=g,toks:=tk }:=by
 let tr:∀ b u,H b=some u->b∉f:=λb u q a=>by rw [(e b a).1] at q;cases q
 refine I.step (g':=s.gens) (d':=s.drawn) (ch:=f) (λb a=>⟨(e b a).2.2.2.1,(e b a).2.1,(e b a).2.2.2.2.1,(e b a).2.2.2.2.2⟩) (λb o _ _ d q _=>k b o d q) (λb o _ _ d q _=>⟨o.slots,k b o d q⟩) (λ_ _ _ _ n=>n)
  (λb o d q=>⟨o,k b o d q⟩) (λ_ _ q=>q) (λ_ _ _ q=>q) (λb ps q=>⟨#[],by rw [q];simp⟩) (λm j=>?_) (λb u q=>?_) I.bare
 ·let ⟨o,p,r,w,x⟩:=j;exact ⟨o,p,r,k _ o (λa=>(e _ a).2.1 rfl) w,x⟩
 ·refine (I.hok b u q).stay (λc v d z=>?_) (λ_ z=>z) λ_ _ z=>z;rcases d with y | y
  ·subst y;exact k _ v (tr _ u q) z
  ·exact k c v (tr c _ y) z
def Nl {h:cV} {g:Heap} {tk:Nat} {xs:cJ} {its:cM} (I:Inv X pins σ H s) (e:∀ b∈h,DZ X pins H b) (k:∀ b o,b∉h->s.heap.get? b=some o->g.get? b=some o)
  (p:↑xs<=sizeLine) (r:Vals xs its) (w:g.get? ⇑s=some { cls:=.type "tuple", data:=.seq its.toArray }):Inv X pins σ (upd H ⇑s (.tup xs)) { s with heap:=g,toks:=tk }:=by
 let x:H ⇑s=none:=I.hok.fresh (AV _);let f:∀ b u,H b=some u->b≠⇑s:=λb u q=>As q x;let tr:∀ b u,H b=some u->b∉h:=λb u q a=>by rw [(e b a).1] at q;cases q
 refine I.step (g':=s.gens) (d':=s.drawn) (ch:=h) (λb a=>⟨(e b a).2.2.2.1,(e b a).2.1,(e b a).2.2.2.2.1,(e b a).2.2.2.2.2⟩) (λb o _ _ d q _=>k b o d q) (λb o _ _ d q _=>⟨o.slots,k b o d q⟩) (λb o _ q n=>?_)
  (λb o d q=>⟨o,k b o d q⟩) (λb A q=>?_) (λb o u q=>?_) (λb ps q=>⟨#[],?_⟩) (λm B=>?_) (λb u q=>?_) I.bare
 ·rw [Aq (BG (pM q))];exact n
 ·rw [Aq (f b _ q)];exact q
 ·rw [Aq (f b _ q)];exact q
 ·rw [Aq (f b _ q),q];simp
 ·let ⟨o,C,D,E,F⟩:=B;exact ⟨o,C,D,k _ o (λa=>(e _ a).2.1 rfl) E,F⟩
 ·by_cases a:b=⇑s
  ·subst a;rw [upd_same] at q;cases q;exact ⟨p,its,r,⟨_,w,rfl,_,rfl⟩⟩
  ·rw [Aq a] at q;refine (I.hok b u q).stay (λc v d z=>?_) (λc z=>by rw [Aq (f c _ z)];exact z) λc A z=>by rw [Aq (f c _ z)];exact z
   rcases d with y | y
   ·subst y;exact k _ v (tr _ u q) z
   ·exact k c v (tr c _ y) z
end
def XN (a b z c d e f:Addr) (i:Nat) (h:Heap):Prop:=IsZip h z c d .none/\IsPair h c (.ref e) (.ref f)/\(∃ u v,IsPair h d u v)/\h.IsListIter e a i/\h.IsListIter f b i
def XO {P:Program} {w:World} {K:W.Frag} {M:cQ} {k:Nat} {Y:Pos} {a b z p r m n:Addr} (D:ZipApart z p r m n a b):Turn P w K (.Tuple M k Y) (aR K a b) [z,p,r,m,n] z (XN a b z p r m n) where
 mem:=by simp
 obj:=λi h f c j=>by
  let ⟨G,F,⟨u,v,J⟩,⟨o4,B,_,d4⟩,⟨o5,C,_,d5⟩⟩:=f
  let d:c=z\/c=p\/c=r\/c=m\/c=n:=by simpa using j
  rcases d with rfl | rfl | rfl | rfl | rfl
  ·exact ⟨_,G,λv q=>nomatch q⟩
  ·exact ⟨_,F,λv q=>nomatch q⟩
  ·exact ⟨_,J,λv q=>nomatch q⟩
  ·exact ⟨_,B,λv q=>by rw [d4] at q;cases q⟩
  ·exact ⟨_,C,λv q=>by rw [d5] at q;cases q⟩
 keep:=λi h h' f N=>⟨N z (by simp) _ f.1,N p (by simp) _ f.2.1,let ⟨u,v,q⟩:=f.2.2.1;⟨u,v,N r (by simp) _ q⟩,f.2.2.2.1.at λo q=>N m (by simp) o q,f.2.2.2.2.at λo q=>N n (by simp) o q⟩
 item:=by
  intro X Z hw hK j i O s σ H E I S f hg
  subst Z hw hK
  let ⟨xs,ys,x,y,T,A,hx,hy⟩:=hg
  let ⟨G,F,⟨u0,v0,J⟩,B,C⟩:=f
  let ⟨Q,rv,p1,_⟩:=I.list T
  let ⟨a0,rw',p2,_⟩:=I.list A
  let ⟨u,hu,ru⟩:=rv.get hx
  let ⟨v,hv,a3⟩:=rw'.get hy
  refine wpAny_pyNext_zip_item D G F J B C p1.isList p2.isList (x:=u) (y:=v) (by simpa using hu) (by simpa using hv) λg g1 g2 g3 g4 g5 _ U=>?_
  refine ⟨_,rfl,wpAny_letOwnedTupleGo_zip g1 λg' z1 L=>?_⟩
  let lz:z<⇑s:=pM G
  let R:∀ c o,c∉[z,p,r,m,n]->s.heap.get? c=some o->g'.get? c=some o:=λc o j q=>by
   let d:¬ (c=z\/c=p\/c=r\/c=m\/c=n):=by simpa using j
   exact L.extBut c o (λe=>d (.inl e)) (U c o (λe=>d (.inl e)) (λe=>d (.inr (.inr (.inl e)))) (λe=>d (.inr (.inr (.inr (.inl e))))) (λe=>d (.inr (.inr (.inr (.inr e))))) q)
  let I1:=Nl (g:=g') (tk:=s.toks) (xs:=[x,y]) (its:=[u,v]) I S R (sz (by simp)) (.cons ru (.cons a3 .nil)) (L.extBut _ _ (Nat.ne_of_gt lz) g5)
  refine ⟨.ref ⇑s,_,I1,rfl,⟨_,x,y,I.hok.fresh (AV _),rfl,rfl,λzs hz=>by rw [I.list_inj hz T];exact hx,λzs hz=>by rw [I.list_inj hz A];exact hy⟩,⟨z1,?_,⟨u,v,L.extBut _ _ D.TOz g2⟩,g3.at λo q=>L.extBut m o D.i1z q,g4.at λo q=>L.extBut n o D.i2z q⟩,λc j=>?_⟩
  ·exact L.extBut _ _ D.TIz (U _ _ D.TIz D.TITO D.TIi1 D.TIi2 F)
  ·rw [Aq]
   ·exact (S c j).1
   ·let d:c=z\/c=p\/c=r\/c=m\/c=n:=by simpa using j
    let ⟨o4,B,_⟩:=B
    let ⟨o5,C,_⟩:=C
    rcases d with rfl | rfl | rfl | rfl | rfl
    ·exact BG lz
    ·exact BG (pM F)
    ·exact BG (pM J)
    ·exact BG (pM B)
    ·exact BG (pM C)
 done:=by
  intro X Z hw hK j i O s σ H E I S f hg
  subst Z hw hK
  let ⟨xs,ys,T,A,hx⟩:=hg
  let ⟨G,F,⟨u0,v0,J⟩,B,C⟩:=f
  let ⟨Q,rv,p1,_⟩:=I.list T
  let ⟨a0,_,p2,_⟩:=I.list A
  let hl:=↑rv
  refine wpAny_pyNext_zip_end (I.ok.hd j) D G F J B C p1.isList p2.isList (.inl (by simp;omega)) λg U=>⟨rfl,Nk (tk:=s.toks) I S λc o j q=>?_⟩
  let d:¬ (c=z\/c=p\/c=r\/c=m\/c=n):=by simpa using j
  exact U c o (λe=>d (.inl e)) (λe=>d (.inr (.inr (.inl e)))) (λe=>d (.inr (.inr (.inr (.inl e))))) (λe=>d (.inr (.inr (.inr (.inr e))))) q
 self:=λ_ _ _ _ _ f h=>wpAny_pyIter_zip f.1 h
section
variable {X:Cx} {elts:cQ} {k:Nat} {tpos:Pos} {a b:Expr} {ta:TA} {p pos:Pos}
def vals2 {x y:V} {c:cM} (r:Vals [x,y] c):∃ u v,c=[u,v]/\RelV x u/\RelV y v:=r.two
def FZ (B:Gl X "zip") (C:X.mg "zip" = none) (E:PA X [a,b] ta) (F:starEach [a,b] X.env=(false,eval a X.env)::starEach [b] X.env:=by rfl) (j:(backTo pos (starEach [b] X.env)).any (·.1)=false:=by rfl):PI X (.Tuple elts k tpos) (.Call (.Name "zip" p) [a,b] [] pos) (Dx X.K ta):=by
 intro e s n H R I h;refine Call_ (Dg I B C NY (PyProof.Rows.callWith_type1 (H_ (E pos e s n H _ I h) λZ d ⟨vs,o,f,G,J⟩=>?_) F j));let ⟨l1,r,rfl,⟨xs,K⟩,⟨ys,m⟩,q⟩:=J;let ⟨u,v,rfl,L,M⟩:=vals2 G;cases L;cases M;let ⟨N,_,w,_⟩:=f.list K;let ⟨O,_,x,_⟩:=f.list m;refine call_zip_2 w.isList x.isList λg y P Q S T _ U=>?_;let W:Inv X e n o { d with heap:=g }:=f.kept (t':=d.toks) U;let n1:@LT.lt Nat _ l1 ⇑d:=w.lt;let n2:@LT.lt Nat _ r ⇑d:=x.lt
 let D:ZipApart (⇑d+4) (⇑d+2) (⇑d+3) ⇑d (⇑d+1) l1 r:=by
  constructor <;> (show (_:Nat)≠_;omega)
 refine wpAny_pyIter_zip y ⟨_,[⇑d+4,⇑d+2,⇑d+3,⇑d,⇑d+1],_,_,o,rfl,W,XO D,⟨y,P,⟨_,_,Q⟩,S,T⟩,λc Y=>?_,q⟩
 let i:⇑d<=c:=by
  let z:c=⇑d+4\/c=⇑d+2\/c=⇑d+3\/c=⇑d\/c=⇑d+1:=by simpa using Y
  rcases z with z | z | z | z | z <;> rw [z] <;> first | exact Nat.le_add_right _ _ | exact AV _
 exact f.fpOk i (f.hok.fresh i)
end
def XQ:bootBuiltins "any" = some (.builtin "any"):=by decide +kernel
theorem GD:∀ {ns:cL} {a:cM} {i:Nat} {u:Value},Vals (~~~ns) a->a[i]?=some u->∃ n t,ns[i]?=some n/\u=Value.int n t
 | [],_,_,_,.nil,e=>by simp at e
 | n::ns,_,0,_,.cons r _,e=>by
   simp at e;subst e;let ⟨t,rfl⟩:=r;exact ⟨n,t,rfl,rfl⟩
 | _::ns,_,i+1,u,.cons _ r,e=>by
   let ⟨n,t,b,c⟩:=GD (i:=i) (u:=u) r (by simpa using e);exact ⟨n,t,by simpa using b,c⟩
section
variable {X:Cx}
def XR (w:X.calm=true):C6 X (.builtin "any") Nj:=λj s L H M N Q I r ⟨p,c,e,hp,q⟩=>by
 subst e;let ⟨u,rfl,y⟩:=EG r;cases y;let ⟨a,k,pl,O⟩:=I.list (SqL.of hp);let P:↑c=↑a:=by have:=↑k;simpa using this
 refine call_any_walk (wpAny_pyIter_list pl.isList ⟨⇑s,[⇑s,p],[⇑s],a.toArray.size,_,_,λi=>!decide (c.getD i 0=0),rfl,Walks.list (A:=X.A.in1) (show X.A.in1.handled=none from I.ok.hd w) ⇑s p (BG pl.lt) _,⟨⟨_,Heap.get?_push_size _ rfl,rfl,rfl⟩,pl.isList.push _⟩,?_,λg R B=>?_⟩)
 ·intro i v C D S E f;let ⟨n,t,F,rfl⟩:=GD k (show a[i]?=some v by simpa using E);let e:c.getD i 0=n:=by rw [AJ,F];rfl
  replace f:D (!decide (c.getD i 0=0)) C:=f;rw [e] at f;refine PySem.P.truthy_int ?_;let G:(n != 0)=!decide (n=0):=by rw [Bool.eq_iff_iff];simp
  rw [G];exact f
 ·let J:∀ b o,s.heap.get? b=some o->g.get? b=some o:=λb o e=>B b o (λz=>absurd (pM e) (by rw [BU.mp z];exact C5 _)) (Heap.get?_push_of_some _ e);refine ⟨_,H,I.kept J,?_,q⟩;show Value.bool _=Value.bool _;congr 1;rw [Bool.eq_iff_iff];simp only [List.any_eq_true,D5,A7];constructor
  ·rintro ⟨i,m,h⟩;let d:i<↑c:=by omega
   rw [AJ,AT d] at h;exact ⟨c[i],Cn d,h⟩
  ·rintro ⟨x,K,h⟩;let ⟨i,m,rfl⟩:=List.getElem_of_mem K;refine ⟨i,⋯,?_⟩;rw [AJ,AT m];exact h
end
section
variable {prog:Program} {w:World} {A:Around} {R:Result->Shared->Prop} {I:Addr} {fp wr:cV} {n:Nat} {P:Nat->Value->Prop} {St:Nat->Heap->Prop} {d:Value}
theorem KR (W:Walks prog w A.in1 I fp wr n P St) (G:Nat->Nat->Bool) (a:CmpOf prog w A.in1 .Lt P G) (S:Addr) (f:S∉fp):∀ (k j q:Nat) (s:Shared) (h:Value) (c:Nat),n - j=k->j<=n->St j s.heap->q<n->P q h->
  s.heap.get? S=some { cls:=.type "list", dict:=none,data:=.seq #[h,h] c,slots:=#[] }->
  (∀ q v H J,q<n->P q v->(∀ b o,b∉wr->b≠S->s.heap.get? b=some o->H.get? b=some o)->R (.ok (.ret v)) { s with heap:=H,toks:=J })->
  codeAny (model prog w) A (.builtin "min.loop" ⟨[.ref I,.none,.ref S],[("default", d)]⟩) R s
 | 0,j,q,s,h,c,hk,Z,r,N,i,D,K=>by
   let L:j=n:=by omega
   refine codeAny_builtin F.entry_min_loop ?_;rw [Around.under_plainId F.plain_min_loop _];refine pI (m:=seqItems? (.ref S)) (wpAny_seqItems D rfl ?_);refine pI (m:=tryCatch (pyNext (.ref I)) _) (wpAny_tryCatch (W.done s _ _ (L ▸ r) λH J kp=>?_));let g:=kp S _ (λz=>f (W.sub _ z)) D;refine pI (m:=updateSeq S (λ_=>#[])) (wpAny_updateSeq g rfl (pI (wpAny_letGo (pJ ?_))));exact K q h _ J N i λb o u E e=>(Heap.get?_update_other _ _ E.symm).trans (kp b o u e)
 | k+1,j,q,s,h,c,hk,Z,r,N,i,D,K=>by
   let L:j<n:=by omega
   refine codeAny_builtin F.entry_min_loop ?_;rw [Around.under_plainId F.plain_min_loop _];refine pI (m:=seqItems? (.ref S)) (wpAny_seqItems D rfl ?_);refine pI (m:=tryCatch (pyNext (.ref I)) _) (wpAny_tryCatch (W.item j s _ _ L r λv H J X p kp=>?_));let g:=kp S _ (λz=>f (W.sub _ z)) D;refine pI (m:=tryCatch (holding [v,v] (richCompare .Lt v h >>= _)) _) (wpAny_tryCatch (wpAny_holding (pI (a j q v h _ _ _ X i ?_))));refine pI (wpAny_holding (wpAny_truthy_bool (pI (wpAny_letGo (pJ ?_)))));let Y:(toString "min" ++ toString ".loop" : String) = "min.loop" := by decide
   cases G j q with
   | true=>
     simp only [if_true];refine pI (wpAny_updateSeq g rfl (pI (wpAny_letGo ?_)));rw [Y];refine pJ ⟨plainId_quiet F.plain_min_loop _,KR W G a S f k (j+1) j _ v _ ⋯ ⋯ (W.frame _ _ _ p λb hb o e=>(Heap.get?_update_other _ _ (λz:S=b=>f (by rw [z];exact hb))).trans e) L X (Heap.get?_update_self _ g rfl) λO Q E x y B C=>?_⟩;exact K O Q E x y B λb o u M e=>C b o u M ((Heap.get?_update_other _ _ M.symm).trans (kp b o u e))
   | false=>
     simp only [Bool.false_eq_true,if_false];refine pI (wpAny_letGo ?_);rw [Y];exact pJ ⟨plainId_quiet F.plain_min_loop _,KR W G a S f k (j+1) q _ h c ⋯ ⋯ p N i g λO Q E x y B C=>K O Q E x y B λb o u M e=>C b o u M (kp b o u e)⟩
def XS (W:Walks prog w A.in1 I fp wr n P St) (B:Nat->Nat->Bool) (f:CmpOf prog w A.in1 .Lt P B) (S:Addr) (a:S∉fp) {s:Shared} {c:Nat} (g:St 0 s.heap)
  (C:s.heap.get? S=some { cls:=.type "list", dict:=none,data:=.seq #[] c,slots:=#[] })
  (D:∀ v h k,(n=0/\v=d\/∃ q,q<n/\P q v)->(∀ b o,b∉wr->b≠S->s.heap.get? b=some o->h.get? b=some o)->R (.ok (.ret v)) { s with heap:=h,toks:=k }) :
  codeAny (model prog w) A (.builtin "min.loop" ⟨[.ref I,.none,.ref S],[("default", d)]⟩) R s:=by
 refine codeAny_builtin F.entry_min_loop ?_;rw [Around.under_plainId F.plain_min_loop _];refine pI (m:=seqItems? (.ref S)) (wpAny_seqItems C rfl ?_);rcases FO n with z | z
 ·refine pI (m:=tryCatch (pyNext (.ref I)) _) (wpAny_tryCatch (W.done s _ _ (z ▸ g) λh k kp=>?_));refine pI (wpAny_rule (pJ ?_));exact D d h k (.inl ⟨z,rfl⟩) λb o p _ e=>kp b o p e
 ·refine pI (m:=tryCatch (pyNext (.ref I)) _) (wpAny_tryCatch (W.item 0 s _ _ z g λv h k J i kp=>?_));let j:=kp S _ (λz=>a (W.sub _ z)) C;let K:(toString "min" ++ toString ".loop" : String) = "min.loop" := by decide
  refine pI (m:=updateSeq S (λ_=>#[v,v])) (wpAny_updateSeq j rfl ?_);rw [K];refine pJ ⟨plainId_quiet F.plain_min_loop _,KR W B f S a _ 1 0 _ v _ rfl z (W.frame _ _ _ i λb L o e=>(Heap.get?_update_other _ _ (λz:S=b=>a (by rw [z];exact L))).trans e) z J (Heap.get?_update_self _ j rfl) λM N O r u x y=>?_⟩;exact D N O r (.inr ⟨M,u,x⟩) λb o p H e=>y b o p H ((Heap.get?_update_other _ _ H.symm).trans (kp b o p e))
end
def XT (a v:Value):argsOk "min" ⟨[a],[("default", v)]⟩:=by unfold argsOk;kernel_rfl
section
variable {X:Cx} {e:Expr} {te:TE} {p pos kp1 kp2:Pos} {kk:Nat}
abbrev bF (i:Int):TE:=tC (.int i)
abbrev bN (s:Sp) (t:TA):TE:=AQ s [] E0 t
def XU (R:X.calm=true) (S:X.mg "min" = none) (T:bootBuiltins "min" = some (.builtin "min")) (U:PE X e te) (Y:Gl X "min" := by rfl)
  (hs:starEach [e] X.env=(false,eval e X.env)::starEach [] X.env:=by rfl) (k:backTo pos (starEach [e] X.env)=(false,eval e X.env)::backTo pos (starEach [] X.env):=by rfl):PE X (.Call (.Name "min" p) [e] [⟨some "default", .Constant (.int 0) kk kp1,kp2⟩] pos) (Ni te):=by
 intro f s K H Q I h;refine wpAny_Call_Name_kw (Dg I Y S T ?_ ∅ ∅);refine PyProof.Rows.callWith_kw ?_ k (by rw [k];rfl);rw [k];refine Calls.spliced_cons (H_ (U f s K H _ I h) λu Z ⟨x,L,I1,r1,q1⟩=>Calls.spliced_nil ?_);let kw:PK X [⟨some "default", .Constant (.int 0) kk kp1,kp2⟩] (AB (bF 0) AC):=U5 AN U4;refine H_ (kw pos f Z K L (λvs M=>vs=[.int 0]/\M=L) I1 ⟨rfl,rfl⟩) λws c ⟨zs,M,r,rz,ez,eh⟩=>?_;subst ez eh;let ⟨z,rfl,t,rfl⟩:=EG rz;let ⟨l,N,rfl,hl,q⟩:=q1;cases r1;let ⟨d,y,pl,hz⟩:=r.list (SqL.of hl);let a0:↑N=↑d:=by have:=↑y;simpa using this
 let nm:(toString "min" ++ toString ".loop" : String) = "min.loop" := by decide
 refine kmb_tree F.kind_min F.plain_min F.entry_min (XT _ _) ?_;refine pI (m:=Builtin.Builtins.bindParams "min" ["key","default"] 0 ⟨[],[("default", Value.int 0 t)]⟩) (wpAny_of_eq (a:=[none,some (Value.int 0 t)]) rfl ?_);refine pI (pJ (pI (wpAny_pyIter_list pl.isList ?_)));refine pI (wpAny_newObj_type ?_);rw [nm];let B:l<⇑c:=pl.lt;let O:(c.heap.push { cls:=.type "list_iterator", data:=.fields #[.ref l,.int 0 0] }).objs.size=⇑c+1:=Heap.size_push ..;let W:=Walks.list (prog:=X.prog) (w:=X.w) (A:=X.A.in1) (show X.A.in1.handled=none from r.ok.hd R) ⇑c l (BG B) d.toArray;refine pJ ⟨plainId_quiet F.plain_min_loop _,XS W _ (CmpOf.ints_lt (λi=>N.getD i 0) λi v C=>?_) _ ?_ ⟨⟨_,Heap.get?_push_of_some _ (Heap.get?_push_size _ rfl),rfl,rfl⟩,(pl.isList.push _).push _⟩ (Heap.get?_push_size _ rfl) λv g tk D gk=>?_⟩
 ·let ⟨n,E,G,rfl⟩:=GD y (show d[i]?=some v by simpa using C);exact ⟨E,by rw [AJ,G];rfl⟩
 ·rw [O]
  have:¬ (⇑c+1=⇑c\/⇑c+1=l):=λz=>by
   rcases z with z | z
   ·exact absurd z (Nat.succ_ne_self _)
   ·rw [<-z] at B;exact absurd B (Nat.not_lt.mpr (D7 _))
  simpa using this
 ·let J:∀ b o,c.heap.get? b=some o->g.get? b=some o:=λb o e=>by
   let j:b<⇑c:=pM e;refine gk b o (λz=>?_) (λz=>?_) (Heap.get?_push_of_some _ (Heap.get?_push_of_some _ e))
   ·rw [BU.mp z] at j;exact absurd j (C5 _)
   ·rw [z,O] at j;exact absurd j (Nat.not_lt.mpr (D7 _))
  let P:=r.kept (t':=tk) J;rcases D with ⟨z,rfl⟩ | ⟨i,hi,C⟩
  ·exact ⟨.int 0,_,P,⟨t,rfl⟩,q 0 (.inl ⟨GZ.mp (by rw [A7] at z;omega),rfl⟩)⟩
  ·let ⟨n,E,G,rfl⟩:=GD y (show d[i]?=some v by simpa using C);exact ⟨.int n,_,P,⟨E,rfl⟩,q n (.inr (A5 G))⟩
end
end Bs
namespace Bs
open PySem L2
def sS (K:W.Frag):V->Option Int->Option Int->Hp->VK->Prop:=λx lo c H Q=>∃ a b,x=.ref a/\SqL K H a b/\∀ p,H p=none->Q (.ref p) (upd H p (.lst (Be b lo c)))
def Iw:cJ->Hp->VK->Prop:=λb H Q=>∃ (p:Addr) (a:cL),b=[.ref p]/\H p=some (.lst (~~~a))/\Q (.int a.sum) H
end Bs
namespace Bs
open PySem PySem.Spec PyProof.Rows L2
section
variable {X:Cx}
def XV:OpR X (inplaceOp .FloorDiv) FB:=by
 intro a s g H x y v u Q I b c ⟨i,j,d,e,f,q⟩;subst d e;let ⟨t,rfl⟩:=b;let ⟨h,rfl⟩:=c;exact ifloordiv_int f ⟨.int (i.fdiv j),H,I.tok _,⟨_,rfl⟩,q⟩ (Or.inr (I.ok.plr s I.bk))
def XW:OpR X (inplaceOp .FloorDiv) En:=by
 intro a s c H x y v u Q I d e ⟨i,j,f,g,h,q⟩;let b:0<j:=h;replace q:Q (.int (i / j)) H:=q;rw [<-Ei i (Dr b)] at q;exact XV a s c H x y v u Q I d e ⟨i,j,f,g,Ah b,q⟩
def Nn:aY X (sS X.K):=NI
theorem No (ns:cL):∀ k,k<=↑ns->preSum (λi=>ns.getD i 0) k=(ns.take k).sum
 | 0,_=>rfl
 | k+1,h=>by
   let e:ns.take (k+1)=ns.take k++[ns.getD k 0]:=by
    rw [DW,AJ,AT ⋯];rfl
   show preSum _ k+_=_;rw [e,No ns k ⋯,List.sum_append];simp
def KS (h:X.calm=true):C6 X (.builtin "sum") Iw:=λd s D H E F Q I r ⟨p,a,e,hp,q⟩=>by
 subst e;let ⟨u,rfl,j⟩:=EG r;cases j;let ⟨c,f,pl,G⟩:=I.list (SqL.of hp);let k:↑a=↑c:=by have:=↑f;simpa using this
 refine call_sum_walkG (wpAny_pyIter_list pl.isList ⟨⇑s,[⇑s,p],[⇑s],c.toArray.size,_,_,λi=>a.getD i 0,rfl,Walks.list (A:=X.A.in1) (show X.A.in1.handled=none from I.ok.hd h) ⇑s p (BG pl.lt) _,⟨⟨_,Heap.get?_push_size _ rfl,rfl,rfl⟩,pl.isList.push _⟩,?_,?_,λg J t m=>?_⟩)
 ·intro b w;let z:b=⇑s\/b=p:=by simpa using w
  rcases z with z | z
  ·rw [z];exact pM (Heap.get?_push_size _ rfl)
  ·let ⟨o,_,x,_⟩:=pl;rw [z];exact pM (Heap.get?_push_of_some _ x)
 ·intro i v y;let ⟨n,t,B,rfl⟩:=GD f (show c[i]?=some v by simpa using y);let e:a.getD i 0=n:=by rw [AJ,B];rfl
  exact ⟨t,by show Value.int n t=Value.int (a.getD i 0) t;rw [e]⟩
 ·let C:∀ b o,s.heap.get? b=some o->g.get? b=some o:=λb o e=>m b o (λz=>absurd (pM e) (by rw [BU.mp z];exact C5 _)) (Heap.get?_push_of_some _ e);refine ⟨.int a.sum,H,I.kept C,⟨t,?_⟩,q⟩;let e:=No a ↑a (AV _);rw [B4] at e;rw [A7,<-k,e]
end
def XX {m n:Nat} {a b:Int} (c:Bd m a) (d:Bd n b) (h:m+n<=134217728):IntMulOk a b:=IntMulOk.of_le (NZ c) (NZ d) h
end Bs
namespace Bs
open PySem L2
def inD (neg:Bool):R2:=λx y H Q=>∃ (p:Addr) (c:cJ) (d:W.Dat) (a:List W.Dat) (b:Bool),y=.ref p/\H p=some (.lst c)/\RepD H x d/\RepA H c a/\W.kqdOk 8 d=true/\(∀ e∈a,W.kqdOk 8 e=true)/\(b=true↔d∈a)/\Q (.bl (if neg=true then !b else b)) H
end Bs
namespace Bs
open PySem PySem.Spec PyProof.Rows L2
def XZ {d:W.Dat} {ds:List W.Dat} {b:Bool} (a:W.kqdOk 8 d=true) (c:∀ e∈ds,W.kqdOk 8 e=true) (f:b=true↔d∈ds):((W.kqdPs ds).any λy=>PyData.eqv y (W.kqdP d))=b:=by
 rw [Bool.eq_iff_iff,f];exact W.kqd_any ds d c a
def Xa {X:Cx} (F:X.A.units+64<cLine):OpR X (compareOp .NotIn) (inD true):=by
 intro a s G H x y v u Q I g i h;let ⟨p,J,d,j,b,e,hp,k,m,c,f,r,q⟩:=h;subst e;let ⟨as,w⟩:=Gg I k g;cases i;let ⟨z,A,pl,_⟩:=I.list (SqL.of hp);let ⟨K,B⟩:=Iq I m A;let ⟨o,n,C,D,_,E⟩:=pl;let l:=W.kqd_layL f;let ld:=W.kqd_lay 8 d c;let L:=ld.2;refine SeqAt.notIn_list_reads (reads_list_at C D E (by simpa using B)) w l.1 ld.1 ?_ (by rw [XZ c f r];exact ⟨.bl (!b),H,I,rfl,q⟩);have:=Nat.min_le_right (PyData.depthAll (W.kqdPs j)) (W.kqdP d).depth;omega
end Bs
namespace Bs
open PySem L2
noncomputable def Xb (a:List (V_×V)) (k:V_):cK:=(a.find? λb=>b.1=k).map (·.2)
def gD:R2:=λx y H Q=>∃ p k a v,x=.ref p/\y=.str k/\H p=some (.dK a)/\Xb a (.inr k)=some v/\Q v H
noncomputable def blN (i:Int):Nat:=if i=0 then 0 else i.natAbs.log2+1
def Np:R2:=rI (λi j=>0<=j/\(blN i:Int)+j<=134217728) λi j=>.int (i*2 ^ j.toNat)
def Nr:V->cJ->Hp->VK->Prop:=λx a H Q=>∃ i:Int,x=.int i/\a=[]/\Q (.int (blN i)) H
end Bs
namespace Bs
open PySem PySem.Spec PyProof.Rows L2
section
variable {X:Cx}
def Nt (i:Int):Builtin.Int.intBits i=blN i:=by unfold Builtin.Int.intBits blN;by_cases h:i=0 <;> simp [h]
def Xc:OpR X (binaryOp .LShift) Np:=aX λ_ _ _ _ _ _ _ a q=>lshift_int a.1 (by rw [Nt];exact a.2) q
def Xd:MtR X "int.bit_length" Nr:=by
 intro a s d H x e v f Q I b c h;let ⟨i,rfl,rfl,q⟩:=h;let ⟨t,rfl⟩:=b;cases c;exact call_int_bit_length ⟨.int (blN i),H,I.tok _,⟨_,by rw [Nt]⟩,q⟩
end
end Bs
namespace Bs
open PySem L2
noncomputable def aM (K:W.Frag) (a b:Addr):It:=
 ⟨λi H=>∃ c d x y,SqT K H a c/\SqL K H b d/\c[i]?=some x/\d[i]?=some y,λi H v e=>∃ p x y,H p=none/\v=.ref p/\e=upd H p (.tup [x,y])/\(∀ c,SqT K H a c->c[i]?=some x)/\∀ d,SqL K H b d->d[i]?=some y,λi H=>∃ c d,SqT K H a c/\SqL K H b d/\↑c<=i⟩
def KT (K:W.Frag) (d:TA):TI:=λe H R=>d e H λf c=>∃ a b,f=[.ref a,.ref b]/\(∃ g,SqT K c a g)/\(∃ h,SqL K c b h)/\R (aM K a b) c
end Bs
namespace Bs
open PySem PySem.Spec PyProof.Rows L2
open PySem.AutoSeq1 (wpAny_loadPart')
section
variable {prog:Program} {w:World} {A:Around} {E:cN} {s:Shared}
def Xe {z TI TO K L l1 U:Addr} {k1 k2:Nat} {xs ys:Array Value} {x y a b:Value} {Q:cN} (D:ZipApart z TI TO K L l1 U)
  (W:IsZip s.heap z TI TO .none) (a6:IsPair s.heap TI (.ref K) (.ref L)) (a7:IsPair s.heap TO a b)
  (h1:s.heap.IsTupleIter K l1 k1) (h2:s.heap.IsListIter L U k2) (ab:s.heap.IsTuple l1 xs) (aj:s.heap.IsList U ys) (hx:xs[k1]?=some x) (hy:ys[k2]?=some y)
  (hQ:∀ M,IsZip M z TI TO (rawInt ⇑s)->IsPair M TO x y->M.IsTupleIter K l1 (k1+1)->M.IsListIter L U (k2+1)->IsPair M ⇑s x y->M.objs.size=⇑s+1->
   (∀ c o,c≠z->c≠TO->c≠K->c≠L->s.heap.get? c=some o->M.get? c=some o)->Q (.ref ⇑s) { s with heap:=M }) :
  wpAny (model prog w) A (Builtin.«zip.__next__» ⟨[.ref z],[]⟩) (λal s'=>∃ v,al=.done (.ret v)/\Q v s') E s:=by
 show wpAny _ _ (field (.ref z) 2 >>= _) _ _ _;refine pI (wpAny_field W rfl (x:=.bool false) rfl ?_);show wpAny _ _ (field (.ref z) 3 >>= _) _ _ _;refine pI (wpAny_field W rfl (x:=.ref TI) rfl ?_);refine pI (wpAny_seqItems a6 rfl ?_);show wpAny _ _ (Builtin.SmallTypes.ownedTupleIsFree (.ref z) >>= _) _ _ _;refine pI ?_;unfold Builtin.SmallTypes.ownedTupleIsFree;refine pI (wpAny_field W rfl (x:=.none) rfl (pJ ?_));simp only [if_true];refine pI (wpAny_rule ?_);refine pI (wpAny_field W rfl (x:=.ref TO) rfl ?_);refine pI (wpAny_setField_rec W (by simp) λX q f=>?_);replace q:IsZip X z TI TO .ellipsis:=q;refine pI ?_;simp only [List.zipIdx_cons,List.zipIdx_nil,List.forIn_cons,List.forIn_nil];refine pI (pI (wpAny_onRaise ?_));show wpAny _ _ (Builtin.SmallTypes.nextOf (.ref K) >>= _) _ _ _;refine pI (KM (h1.extBut f.extBut D.i1z) (ab.extBut f.extBut D.l1z) hx λY O h=>pJ ?_);let C:IsPair Y TO a b:=h.extBut _ _ D.TOi1 (f.extBut _ _ D.TOz a7);refine pI (wpAny_seqItems C rfl ?_);refine pI (wpAny_updateSeq_pair C λZ m i=>?_);replace m:IsPair Z TO x b:=m;refine pI (wpAny_letGo (pJ ?_));refine pI (pI (wpAny_onRaise ?_));show wpAny _ _ (Builtin.SmallTypes.nextOf (.ref L) >>= _) _ _ _
 refine pI (wpAny_nextOf_list_item (((h2.extBut f.extBut D.i2z).extBut h.extBut D.i12.symm).extBut i.extBut D.TOi2.symm)
  (((aj.extBut f.extBut D.l2z).extBut h.extBut D.l2i1).extBut i.extBut D.l2TO) hy λa0 P j=>pJ ?_)
 let F:IsPair a0 TO x b:=j.extBut _ _ D.TOi2 m;refine pI (wpAny_seqItems F rfl ?_);refine pI (wpAny_updateSeq_pair F λd g k=>?_);replace g:IsPair d TO x y:=g;refine pI (wpAny_letGo (pJ (pJ ?_)));refine pI (wpAny_seqItems g rfl ?_);refine pI (wpAny_newTuple ?_);let a3:d.objs.size=⇑s:=by rw [k.1,j.1,i.1,h.1,f.1]
 let G:IsZip d z TI TO .ellipsis:=k.extBut _ _ D.TOz.symm (j.extBut _ _ D.i2z.symm (i.extBut _ _ D.TOz.symm (h.extBut _ _ D.i1z.symm q)))
 let R:∀ c o,c≠z->c≠TO->c≠K->c≠L->s.heap.get? c=some o->d.get? c=some o:=λc o S c2 c3 c4 e=>
  k.extBut _ _ c2 (j.extBut _ _ c4 (i.extBut _ _ c2 (h.extBut _ _ c3 (f.extBut _ _ S e))))
 let H:d.IsTupleIter K l1 (k1+1):=((O.extBut i.extBut D.TOi1.symm).extBut j.extBut D.i12).extBut k.extBut D.TOi1.symm;let I:d.IsListIter L U (k2+1):=P.extBut k.extBut D.TOi2.symm;let N:z<d.objs.size:=pM G;let an:TO<d.objs.size:=pM g;let ap:K<d.objs.size:=by let ⟨_,e,_⟩:=H;exact pM e
 let b0:L<d.objs.size:=by let ⟨_,e,_⟩:=I;exact pM e
 show wpAny _ _ (Builtin.SmallTypes.ownedTupleHandOut (.ref z) (.ref d.objs.size) >>= _) _ _ _;refine pI ?_;unfold Builtin.SmallTypes.ownedTupleHandOut;let T:IsZip (d.push { cls:=.type "tuple", data:=.seq #[x,y] }) z TI TO .ellipsis:=Heap.get?_push_of_some _ G;refine pI (wpAny_setField_rec T (by simp) λa4 r u=>?_);replace r:IsZip a4 z TI TO (rawInt d.objs.size):=r;refine wpAny_setField_rec r (by simp) λp n B=>?_;replace n:IsZip p z TI TO (rawInt d.objs.size):=n;let up:∀ c o,c≠z->d.get? c=some o->p.get? c=some o:=λc o S e=>B.extBut _ _ S (u.extBut _ _ S (Heap.get?_push_of_some _ e));let J:IsPair p d.objs.size x y:=B.extBut _ _ (Nat.ne_of_gt N) (u.extBut _ _ (Nat.ne_of_gt N) (Heap.get?_push_size _ rfl));let a5:p.objs.size=d.objs.size+1:=by rw [B.1,u.1,Heap.size_push]
 rw [a3] at n J a5;refine pJ ⟨_,rfl,?_⟩;show Q (.ref d.objs.size) _;rw [a3];exact hQ p n (up _ _ D.TOz g) (H.at λo e=>up _ o D.i1z e) (I.at λo e=>up _ o D.i2z e) J a5 λc o S c2 c3 c4 e=>up c o S (R c o S c2 c3 c4 e)
theorem Xf {z TI TO B C l1 N:Addr} {O P:Nat} {xs ys:Array Value} {a b:Value} {Q:Fin->Shared->Prop} (hh:A.handled=none) (D:ZipApart z TI TO B C l1 N)
  (F:IsZip s.heap z TI TO .none) (R:IsPair s.heap TI (.ref B) (.ref C)) (S:IsPair s.heap TO a b)
  (h1:s.heap.IsTupleIter B l1 O) (h2:s.heap.IsListIter C N P) (G:s.heap.IsTuple l1 xs) (T:s.heap.IsList N ys) (H:xs[O]?=none\/ys[P]?=none)
  (hE:∀ U e,(∀ c o,c≠z->c≠TO->c≠B->c≠C->s.heap.get? c=some o->U.get? c=some o)->(∃ o,U.get? e=some o/\o.cls=.type "StopIteration")->E (.ref e) { s with heap:=U }) :
  wpAny (model prog w) A (Builtin.«zip.__next__» ⟨[.ref z],[]⟩) Q E s:=by
 show wpAny _ _ (field (.ref z) 2 >>= _) _ _ _;refine pI (wpAny_field F rfl (x:=.bool false) rfl ?_);show wpAny _ _ (field (.ref z) 3 >>= _) _ _ _;refine pI (wpAny_field F rfl (x:=.ref TI) rfl ?_);refine pI (wpAny_seqItems R rfl ?_);show wpAny _ _ (Builtin.SmallTypes.ownedTupleIsFree (.ref z) >>= _) _ _ _;refine pI ?_;unfold Builtin.SmallTypes.ownedTupleIsFree;refine pI (wpAny_field F rfl (x:=.none) rfl (pJ ?_));simp only [if_true];refine pI (wpAny_rule ?_);refine pI (wpAny_field F rfl (x:=.ref TO) rfl ?_);refine pI (wpAny_setField_rec F (by simp) λI i d=>?_);replace i:IsZip I z TI TO .ellipsis:=i;refine pI ?_;simp only [List.zipIdx_cons,List.zipIdx_nil,List.forIn_cons,List.forIn_nil];refine pI (pI (wpAny_onRaise ?_));show wpAny _ _ (Builtin.SmallTypes.nextOf (.ref B) >>= _) _ _ _;cases W:xs[O]? with
 | none=>
   refine pI (Na hh (h1.extBut d.extBut D.i1z) (G.extBut d.extBut D.l1z) W λm e f X=>?_);let ⟨Y,j,n⟩:=X;let p:IsZip m z TI TO .ellipsis:=f _ _ D.i1z.symm i;let y:e≠z:=λx=>by subst x;rw [p] at j;cases j;simp at n
   refine wpAny_setField_rec p (by simp) λv _ g=>hE v e (λc o J _ Z _ x=>g.extBut _ _ J (f _ _ Z (d.extBut _ _ J x))) ⟨Y,g.extBut _ _ y j,n⟩
 | some x=>
   let hy:ys[P]?=none:=by rcases H with h | h;rw [W] at h;cases h;exact h
   refine pI (KM (h1.extBut d.extBut D.i1z) (G.extBut d.extBut D.l1z) W λm a0 f=>pJ ?_);let k:IsPair m TO a b:=f.extBut _ _ D.TOi1 (d.extBut _ _ D.TOz S);refine pI (wpAny_seqItems k rfl ?_);refine pI (wpAny_updateSeq_pair k λv M g=>?_);refine pI (wpAny_letGo (pJ ?_));refine pI (pI (wpAny_onRaise ?_));show wpAny _ _ (Builtin.SmallTypes.nextOf (.ref C) >>= _) _ _ _
   refine pI (wpAny_nextOf_list_end hh (((h2.extBut d.extBut D.i2z).extBut f.extBut D.i12.symm).extBut g.extBut D.TOi2.symm)
    (((T.extBut d.extBut D.l2z).extBut f.extBut D.l2i1).extBut g.extBut D.l2TO) hy λK e q X=>?_)
   let ⟨Y,j,n⟩:=X;let r:IsZip K z TI TO .ellipsis:=q _ _ D.i2z.symm (g.extBut _ _ D.TOz.symm (f.extBut _ _ D.i1z.symm i));let y:e≠z:=λx=>by subst x;rw [r] at j;cases j;simp at n
   refine wpAny_setField_rec r (by simp) λL _ u=>hE L e (λc o J c2 Z c4 x=>u.extBut _ _ J (q _ _ c4 (g.extBut _ _ c2 (f.extBut _ _ Z (d.extBut _ _ J x))))) ⟨Y,u.extBut _ _ y j,n⟩
def Xg {z TI TO e f l1 g:Addr} {h i:Nat} {xs ys:Array Value} {x y a b:Value} {Q:cU->Shared->Prop} (D:ZipApart z TI TO e f l1 g)
  (p:IsZip s.heap z TI TO .none) (j:IsPair s.heap TI (.ref e) (.ref f)) (k:IsPair s.heap TO a b)
  (u:s.heap.IsTupleIter e l1 h) (v:s.heap.IsListIter f g i) (m:s.heap.IsTuple l1 xs) (n:s.heap.IsList g ys) (B:xs[h]?=some x) (C:ys[i]?=some y)
  (G:∀ d,IsZip d z TI TO (rawInt ⇑s)->IsPair d TO x y->d.IsTupleIter e l1 (h+1)->d.IsListIter f g (i+1)->IsPair d ⇑s x y->d.objs.size=⇑s+1->
   (∀ c o,c≠z->c≠TO->c≠e->c≠f->s.heap.get? c=some o->d.get? c=some o)->Q (some (.ref ⇑s)) { s with heap:=d }) :
  wpAny (model prog w) A (pyNext (.ref z)) Q E s:=by
 let r:s.TypeIs (.ref z) "zip" := ⟨_,p,rfl⟩;unfold pyNext
 exact pI (wpAny_attempt (wpAny_callSpecial?_slot (name:=Str.ofString "__next__") r F.slot_zip_next
  (wpAny_call_entry F.slot_zip_next r F.entry_zip_next
   (Xe D p j k u v m n B C λd a1 a2 H I J K L=>pJ (G d a1 a2 H I J K L)) (F.args_zip_next_1 _))))
def Xh {z TI TO f g l1 h:Addr} {p q:Nat} {xs ys:Array Value} {a b:Value} {Q:cU->Shared->Prop} (x:A.handled=none) (D:ZipApart z TI TO f g l1 h)
  (r:IsZip s.heap z TI TO .none) (i:IsPair s.heap TI (.ref f) (.ref g)) (j:IsPair s.heap TO a b)
  (y:s.heap.IsTupleIter f l1 p) (B:s.heap.IsListIter g h q) (k:s.heap.IsTuple l1 xs) (m:s.heap.IsList h ys) (d:xs[p]?=none\/ys[q]?=none)
  (C:∀ n,(∀ c o,c≠z->c≠TO->c≠f->c≠g->s.heap.get? c=some o->n.get? c=some o)->Q none { s with heap:=n }):wpAny (model prog w) A (pyNext (.ref z)) Q E s:=by
 let v:s.TypeIs (.ref z) "zip" := ⟨_,r,rfl⟩;unfold pyNext
 refine pI (wpAny_attempt (wpAny_callSpecial?_slot (name:=Str.ofString "__next__") v F.slot_zip_next
  (wpAny_call_entry F.slot_zip_next v F.entry_zip_next (Xf x D r i j y B k m d λn e hk G=>?_) (F.args_zip_next_1 _))))
 let ⟨o,H,I⟩:=G;refine pI (wpAny_isInstance (T := "StopIteration") (b:=true) ⟨o,H,I⟩ isSubtype_stop ?_);exact pJ (C _ hk)
end
noncomputable abbrev Ix (h:Heap) (l1:Addr):Heap:=h.push { cls:=.type "tuple_iterator", data:=.fields #[.ref l1,.int 0 0] }
noncomputable abbrev Iy (h:Heap) (l1 a:Addr):Heap:=(Ix h l1).push { cls:=.type "list_iterator", data:=.fields #[.ref a,.int 0 0] }
noncomputable abbrev Iz (h:Heap) (l1 a:Addr):Heap:=(Iy h l1 a).push { cls:=.type "tuple", data:=.seq #[.ref h.objs.size,.ref (Ix h l1).objs.size] }
noncomputable abbrev JA (h:Heap) (l1 a:Addr):Heap:=(Iz h l1 a).push { cls:=.type "tuple", data:=.seq #[.none,.none] }
noncomputable abbrev GE (h:Heap) (l1 a:Addr):Heap:=(JA h l1 a).push { cls:=.type "zip", data:=.fields #[.none,.bool false,.bool false,.ref (Iy h l1 a).objs.size,.ref (Iz h l1 a).objs.size] }
def Xi (l1 a:Addr) (xs ys:Array Value) :
  Meets (Builtin.«zip.__new__» ⟨[.type "zip", .ref l1,.ref a],[]⟩) (λ_ R s=>s.heap.IsTuple l1 xs/\s.heap.IsList a ys/\
   R (.ok (.ret (.ref (JA s.heap l1 a).objs.size))) { s with heap:=GE s.heap l1 a }):=
 .of_wp λj w A R s h=>by
  let ⟨hp,g,d,k,os⟩:=s;let ⟨b,c,h⟩:=h;let m:=sub_zip;let e:Heap.IsTuple (Shared.heap ⟨hp,g,d,k,os⟩) l1 xs:=b;let f:Heap.IsList (Shared.heap ⟨hp.push { cls:=.type "tuple_iterator", data:=.fields #[.ref l1,.int 0 0] },g,d,k,os⟩) a ys:=Heap.IsList.push c _
  wp_walk using wpAny_pyIter_tuple e,wpAny_pyIter_list f
  exact ⟨_,rfl,h⟩
section
variable {prog:Program} {w:World} {A:Around} {E:cN} {s:Shared}
def Xj {l1 a:Addr} {xs ys:Array Value} {Q:cN} (d:s.heap.IsTuple l1 xs) (e:s.heap.IsList a ys)
  (h:∀ b,IsZip b (⇑s+4) (⇑s+2) (⇑s+3) .none->IsPair b (⇑s+2) (.ref ⇑s) (.ref (⇑s+1))->
   IsPair b (⇑s+3) .none .none->b.IsTupleIter ⇑s l1 0->b.IsListIter (⇑s+1) a 0->b.objs.size=⇑s+5->
   (∀ c o,s.heap.get? c=some o->b.get? c=some o)->Q (.ref (⇑s+4)) { s with heap:=b }) :
  wpAny (model prog w) A (call (.type "zip") [.ref l1,.ref a]) Q E s:=by
 refine callType_new F.called_zip ∅ (F.typeCall_zip_2 _ _) (F.newCall_zip_2 _ _) (λf=>F.args_object_init_3 f _ _) F.entry_zip_new
  (Xi l1 a xs ys) ⟨d,e,?_⟩
 let g:(Ix s.heap l1).objs.size=⇑s+1:=Heap.size_push ..;let i:(Iy s.heap l1 a).objs.size=⇑s+2:=by rw [Heap.size_push,g]
 let j:(Iz s.heap l1 a).objs.size=⇑s+3:=by rw [Heap.size_push,i]
 let k:(JA s.heap l1 a).objs.size=⇑s+4:=by rw [Heap.size_push,j]
 let u:(GE s.heap l1 a).objs.size=⇑s+5:=by rw [Heap.size_push,k]
 let m:(GE s.heap l1 a).get? (JA s.heap l1 a).objs.size=some _:=Heap.get?_push_size _ rfl;let p:(GE s.heap l1 a).get? (Iz s.heap l1 a).objs.size=some _:=Heap.get?_push_of_some _ (Heap.get?_push_size _ rfl);let q:(GE s.heap l1 a).get? (Iy s.heap l1 a).objs.size=some _:=Heap.get?_push_of_some _ (Heap.get?_push_of_some _ (Heap.get?_push_size _ rfl));let r:(GE s.heap l1 a).get? (Ix s.heap l1).objs.size=some _:=Heap.get?_push_of_some _ (Heap.get?_push_of_some _ (Heap.get?_push_of_some _ (Heap.get?_push_size _ rfl)));let v:(GE s.heap l1 a).get? ⇑s=some _:=Heap.get?_push_of_some _ (Heap.get?_push_of_some _ (Heap.get?_push_of_some _ (Heap.get?_push_of_some _ (Heap.get?_push_size _ rfl))));show _/\_;rw [i,j,k] at m;rw [g,i] at q;rw [j] at p;rw [g] at r;rw [k]
 exact ⟨⟨_,m,rfl⟩,h _ m q p ⟨_,v,rfl,rfl⟩ ⟨_,r,rfl,rfl⟩ u λc o x=>
  Heap.get?_push_of_some _ (Heap.get?_push_of_some _ (Heap.get?_push_of_some _ (Heap.get?_push_of_some _ (Heap.get?_push_of_some _ x))))⟩
end
def Xk (a b z c d e f:Addr) (i:Nat) (h:Heap):Prop:=IsZip h z c d .none/\IsPair h c (.ref e) (.ref f)/\(∃ u v,IsPair h d u v)/\h.IsTupleIter e a i/\h.IsListIter f b i
def Xl {P:Program} {w:World} {K:W.Frag} {M:cQ} {k:Nat} {Y:Pos} {a b z p r m n:Addr} (D:ZipApart z p r m n a b):Turn P w K (.Tuple M k Y) (aM K a b) [z,p,r,m,n] z (Xk a b z p r m n) where
 mem:=by simp
 obj:=λi h f c j=>by
  let ⟨G,F,⟨u,v,J⟩,⟨o4,B,_,d4⟩,⟨o5,C,_,d5⟩⟩:=f
  let d:c=z\/c=p\/c=r\/c=m\/c=n:=by simpa using j
  rcases d with rfl | rfl | rfl | rfl | rfl
  ·exact ⟨_,G,λv q=>nomatch q⟩
  ·exact ⟨_,F,λv q=>nomatch q⟩
  ·exact ⟨_,J,λv q=>nomatch q⟩
  ·exact ⟨_,B,λv q=>by rw [d4] at q;cases q⟩
  ·exact ⟨_,C,λv q=>by rw [d5] at q;cases q⟩
 keep:=λi h h' f N=>⟨N z (by simp) _ f.1,N p (by simp) _ f.2.1,let ⟨u,v,q⟩:=f.2.2.1;⟨u,v,N r (by simp) _ q⟩,f.2.2.2.1.at λo q=>N m (by simp) o q,f.2.2.2.2.at λo q=>N n (by simp) o q⟩
 item:=by
  intro X Z hw hK j i O s σ H E I S f hg
  subst Z hw hK
  let ⟨xs,ys,x,y,T,A,hx,hy⟩:=hg
  let ⟨G,F,⟨u0,v0,J⟩,B,C⟩:=f
  let ⟨Q,rv,p1,_⟩:=I.tuple T
  let ⟨a0,rw',p2,_⟩:=I.list A
  let ⟨u,hu,ru⟩:=rv.get hx
  let ⟨v,hv,a3⟩:=rw'.get hy
  refine Xg D G F J B C p1 p2.isList (x:=u) (y:=v) (by simpa using hu) (by simpa using hv) λg g1 g2 g3 g4 g5 _ U=>?_
  refine ⟨_,rfl,wpAny_letOwnedTupleGo_zip g1 λg' z1 L=>?_⟩
  let lz:z<⇑s:=pM G
  let R:∀ c o,c∉[z,p,r,m,n]->s.heap.get? c=some o->g'.get? c=some o:=λc o j q=>by
   let d:¬ (c=z\/c=p\/c=r\/c=m\/c=n):=by simpa using j
   exact L.extBut c o (λe=>d (.inl e)) (U c o (λe=>d (.inl e)) (λe=>d (.inr (.inr (.inl e)))) (λe=>d (.inr (.inr (.inr (.inl e))))) (λe=>d (.inr (.inr (.inr (.inr e))))) q)
  let I1:=Nl (g:=g') (tk:=s.toks) (xs:=[x,y]) (its:=[u,v]) I S R (sz (by simp)) (.cons ru (.cons a3 .nil)) (L.extBut _ _ (Nat.ne_of_gt lz) g5)
  refine ⟨.ref ⇑s,_,I1,rfl,⟨_,x,y,I.hok.fresh (AV _),rfl,rfl,λzs hz=>by rw [I.tuple_inj hz T];exact hx,λzs hz=>by rw [I.list_inj hz A];exact hy⟩,⟨z1,?_,⟨u,v,L.extBut _ _ D.TOz g2⟩,g3.at λo q=>L.extBut m o D.i1z q,g4.at λo q=>L.extBut n o D.i2z q⟩,λc j=>?_⟩
  ·exact L.extBut _ _ D.TIz (U _ _ D.TIz D.TITO D.TIi1 D.TIi2 F)
  ·rw [Aq]
   ·exact (S c j).1
   ·let d:c=z\/c=p\/c=r\/c=m\/c=n:=by simpa using j
    let ⟨o4,B,_⟩:=B
    let ⟨o5,C,_⟩:=C
    rcases d with rfl | rfl | rfl | rfl | rfl
    ·exact BG lz
    ·exact BG (pM F)
    ·exact BG (pM J)
    ·exact BG (pM B)
    ·exact BG (pM C)
 done:=by
  intro X Z hw hK j i O s σ H E I S f hg
  subst Z hw hK
  let ⟨xs,ys,T,A,hx⟩:=hg
  let ⟨G,F,⟨u0,v0,J⟩,B,C⟩:=f
  let ⟨Q,rv,p1,_⟩:=I.tuple T
  let ⟨a0,_,p2,_⟩:=I.list A
  let hl:=↑rv
  refine Xh (I.ok.hd j) D G F J B C p1 p2.isList (.inl (by simp;omega)) λg U=>⟨rfl,Nk (tk:=s.toks) I S λc o j q=>?_⟩
  let d:¬ (c=z\/c=p\/c=r\/c=m\/c=n):=by simpa using j
  exact U c o (λe=>d (.inl e)) (λe=>d (.inr (.inr (.inl e)))) (λe=>d (.inr (.inr (.inr (.inl e))))) (λe=>d (.inr (.inr (.inr (.inr e))))) q
 self:=λ_ _ _ _ _ f h=>wpAny_pyIter_zip f.1 h
section
variable {X:Cx} {elts:cQ} {k:Nat} {tpos:Pos} {a b:Expr} {ta:TA} {p pos:Pos}
def Xm (B:Gl X "zip") (C:X.mg "zip" = none) (E:PA X [a,b] ta) (F:starEach [a,b] X.env=(false,eval a X.env)::starEach [b] X.env:=by rfl) (j:(backTo pos (starEach [b] X.env)).any (·.1)=false:=by rfl):PI X (.Tuple elts k tpos) (.Call (.Name "zip" p) [a,b] [] pos) (KT X.K ta):=by
 intro e s n H R I h;refine Call_ (Dg I B C NY (PyProof.Rows.callWith_type1 (H_ (E pos e s n H _ I h) λZ d ⟨vs,o,f,G,J⟩=>?_) F j));let ⟨l1,r,rfl,⟨xs,K⟩,⟨ys,m⟩,q⟩:=J;let ⟨u,v,rfl,L,M⟩:=vals2 G;cases L;cases M;let ⟨N,_,w,_⟩:=f.tuple K;let ⟨O,_,x,_⟩:=f.list m;refine Xj w x.isList λg y P Q S T _ U=>?_;let W:Inv X e n o { d with heap:=g }:=f.kept (t':=d.toks) U;let n1:@LT.lt Nat _ l1 ⇑d:=w.lt;let n2:@LT.lt Nat _ r ⇑d:=x.lt
 let D:ZipApart (⇑d+4) (⇑d+2) (⇑d+3) ⇑d (⇑d+1) l1 r:=by
  constructor <;> (show (_:Nat)≠_;omega)
 refine wpAny_pyIter_zip y ⟨_,[⇑d+4,⇑d+2,⇑d+3,⇑d,⇑d+1],_,_,o,rfl,W,Xl D,⟨y,P,⟨_,_,Q⟩,S,T⟩,λc Y=>?_,q⟩
 let i:⇑d<=c:=by
  let z:c=⇑d+4\/c=⇑d+2\/c=⇑d+3\/c=⇑d\/c=⇑d+1:=by simpa using Y
  rcases z with z | z | z | z | z <;> rw [z] <;> first | exact Nat.le_add_right _ _ | exact AV _
 exact f.fpOk i (f.hok.fresh i)
end
end Bs
namespace Bs
open PySem PySem.Spec PyProof.Rows L2
section
variable {X:Cx} {pins:cO} {σ:L2.St} {H:Hp} {s:Shared} {N:cT} {capt:List (Option Nat)} {scope:Scope} {cl:List (Str×Addr)} {C:Addr} {fp:cV}
def KU:TT:=λ_ H Q=>Q true H
def bU (X:Cx) (cs:cQ) (tc:TT):Prop:=∀ (pins:cO) (s:Shared) (σ:L2.St) (H:Hp) (Q:Bool->Hp->Prop),Inv X pins σ H s->tc σ H Q->
 wpAny (model X.prog X.w) X.A (forIn cs true λc r=>if r=true then do let ok <-isTrue c X.env (eval c X.env);pure (ForInStep.yield ok) else pure (ForInStep.yield r)) (λb d=>∃ a,Inv X pins σ a d/\Q b a) X.xe s
def Nv {X:Cx}:bU X [] KU:=λ_ s _ H _ I h=>wpAny_tests_nil ⟨H,I,h⟩
def Nw {X:Cx} {c:Expr} {tc:TT} (h:L2.PT X c tc):bU X [c] tc:=λpins s σ H Q I q=>wpAny_tests_one (h pins s σ H Q I q)
theorem Xn {prog:Program} {w:World} {A:Around} {R:Result->Shared->Prop} {s:Shared} {y a i:Expr} {cs:cQ} {scope:Scope} {E:Pos} {M z:Value} {b:Env} (I:Nat->Shared->Prop)
  (F:∀ n s,I n s->wpAny (model prog w) A (pyNext M) (λr d=>match r with
   | none=>R (.ok .next) d
   | some v=>wpAny (model prog w) A (letOwnedTupleGo a M v) (λ_ j=>wpAny (model prog w) A (assign a b v) (λ_ k=>wpAny (model prog w) A (forIn cs true λc r=>if r=true then do let ok <-isTrue c b (eval c b);pure (ForInStep.yield ok) else pure (ForInStep.yield r)) (λB g=>if B=true then wpAny (model prog w) A (eval y b) (λx o=>
     wpAny (model prog w) A (call (.builtin "list.append") [z,x]) (λ_ p=>∃ m,m<n/\I m p) (λ_ _=>False) o) (λ_ _=>False) g else ∃ m,m<n/\I m g) (λ_ _=>False) k) (λ_ _=>False) j) (λ_ _=>False) d) (λ_ _=>False) s)
  (n:Nat) (h:I n s):codeAny (model prog w) A (.compLoop (.ListComp y [⟨a,i,cs,0⟩] scope E) 0 M z b) R s:=by
 refine codeAny_loop rfl I (λn s P=>?_) n h;show wpAny _ A ((compTurn (.ListComp y [⟨a,i,cs,0⟩] scope E) 0 M z b).onRaise (λx=>do noteFrame x b;theTreesLotGoes x)) _ _ s;refine wpAny_noted ?_;rw [compTurn_list];let D:∀ {Q:cN} (e:Value) (O:Shared),(λ(_:Value) (_:Shared)=>False) e O->Q e O:=λ_ _ f=>f.elim;refine pI (wpAny_standAt (pI (pK (F n s P) (λr d q=>?_) D)));cases r with
 | none=>exact pJ q
 | some v=>
   refine pI (pK q (λ_ j G=>?_) D);refine pI (pK G (λ_ g J=>pI (pK J (λB k u=>?_) D)) D);cases B with
   | false=>exact pJ ⟨rfl,u⟩
   | true=>exact pI (pI (pK u (λx o K=>pI (pK K (λ_ p L=>pJ (pJ ⟨rfl,L⟩)) D)) D))
end
section
variable {X:Cx}
def xI {r:R2} {a:Expr} {c:TE} {n:Int} {j} {q b:Pos} (d:aZ X r) (e:PE X a c):PE X (.Subscript a (.Constant (.int n) j q) b) (A_ r c (tC (.int n))):=Aw d e AN (λ_ _=>rfl)
def B_ {i:Nat} {x:Str} {e:Expr} {c:TE} {a b:Pos} (d:X.N.Nodup) (f:PE X e c) (g:X.N[i]?=some x:=by rfl) (h:aF X.env.scope x:=by exact .inl rfl) (j:swapsWith e (some (.Name x a)) b.line X.env=pure false:=by rfl) (k:X.fn x=true\/X.env.scope.names.lookup x=some .local:=by first | exact .inl rfl | exact .inr rfl):PS X (.Assign [.Name x a] e b) (AO c (AF i)):=DM d g h f j k
def cR {c:CmpOp} {r:R2} {a b:Expr} {e f:TE} {d:Pos} (g:OpR X (compareOp c) r) (h:PE X a e) (i:PE X b f) (j:behindInMarks c b=false:=by exact W_ _):L2.PT X (.Compare a [c] [b] d) (Ap (A_ r e f)):=M4 g h i j
variable {n m:Nat} {x:Str} {ps:cT} {sp:Sp} {a b c:Expr} {ta tb tc:TE} {p pos:Pos} (C:Cal X.prog X.w X.K X.mg X.base n x ps sp) (hr:Room m X.A)
include C hr
theorem Cal.q1 (e:PE X a ta) (f:n<=m:=by decide) (g:Gl X x:=by rfl) (h:(x == ("__debug__" : Str))=false:=by decide) (d:starEach [a] X.env=(false,eval a X.env)::starEach [] X.env:=by rfl):PE X (.Call (.Name x p) [a] [] pos) (AQ sp [] E0 (AB ta AC)):=C.pe hr f g (AE e AK d) h d rfl
theorem Cal.q2 (e:PE X a ta) (f:PE X b tb) (g:n<=m:=by decide) (h:Gl X x:=by rfl) (i:(x == ("__debug__" : Str))=false:=by decide) (d:starEach [a,b] X.env=(false,eval a X.env)::starEach [b] X.env:=by rfl) (j:starEach [b] X.env=(false,eval b X.env)::starEach [] X.env:=by rfl) (hp:(backTo pos (starEach [b] X.env)).any (·.1)=false:=by rfl):PE X (.Call (.Name x p) [a,b] [] pos) (AQ sp [] E0 (AB ta (AB tb AC))):=C.pe hr g h (AE e (AE f AK j) d) i d hp
theorem Cal.q3 (e:PE X a ta) (f:PE X b tb) (g:PE X c tc) (h:n<=m:=by decide) (i:Gl X x:=by rfl) (j:(x == ("__debug__" : Str))=false:=by decide) (d:starEach [a,b,c] X.env=(false,eval a X.env)::starEach [b,c] X.env:=by rfl) (k:starEach [b,c] X.env=(false,eval b X.env)::starEach [c] X.env:=by rfl) (o:starEach [c] X.env=(false,eval c X.env)::starEach [] X.env:=by rfl) (hp:(backTo pos (starEach [b,c] X.env)).any (·.1)=false:=by rfl):PE X (.Call (.Name x p) [a,b,c] [] pos) (AQ sp [] E0 (AB ta (AB tb (AB tc AC)))):=C.pe hr h i (AE e (AE f (AE g AK o) k) d) j d hp
end
end Bs
namespace Bs
open PySem PySem.W PyProof.Rows
section
variable {k:cY} {N:Nat} {p:Array Nat}
noncomputable def kc (k:cY) (i j:Nat):Bool:=decide (k i<k j)
noncomputable def kp (k:cY) (p:Array Nat) (i:Nat):Int:=k (p.getD i 0)
end
end Bs
namespace Bs
open PySem PySem.Spec PySem.Calls PySem.W PyProof.Rows L2
open Classical in
noncomputable def zF (as:cV) (ns:cL) (ys:cJ) (D:Addr) (b:cJ):Hp:=λa=>if a=D then some (.lst b) else if h:∃ j:Nat,as[j]?=some a then some (.tup [.int (ns.getD h.choose 0),ys.getD h.choose .non]) else none
end Bs
namespace Bs
open PySem L2
def He (K:W.Frag) (d:TE):TI:=λe H R=>d e H λx b=>∃ a,x=.ref a/\((∃ c,SqL K b a c)/\R (aa K a) b\/(∃ c,SqT K b a c)/\R (aI K a) b)
def Xo {K:W.Frag} {a:Addr} {i:Nat} {xs:cJ} {g:TG} {f rest:TS} {D:Ends} {b:L2.St} {H:Hp} (c:H a=some (.tup xs)\/H a=some (.lst xs)) (o:b[i]?=some (↥a)) (Pv:Nat->L2.St->Hp->Prop) (h:Pv 0 b H) (j:∀ i b d,Pv i b d->d a=H a)
  (k:∀ i x b H,xs[i]?=some x->Pv i b H->g x b H λe q=>f { D with nx:=Pv (i+1),ct:=Pv (i+1),bk:=rest D } e q) (n:∀ b H,Pv ↑xs b H->rest D b H):AH (Ay (He K (AA i)) g f) rest D b H:=by
 refine ⟨_,o,a,rfl,?_⟩;rcases c with c | c
 ·exact .inr ⟨⟨_,SqT.of c⟩,ForT.by (D:={ D with nx:=rest D }) Pv h (λi b d _ p=>(j i b d p).trans c) k n⟩
 ·exact .inl ⟨⟨_,SqL.of c⟩,ForL.by (D:={ D with nx:=rest D }) Pv h (λi b d _ p=>SqL.of ((j i b d p).trans c)) k n⟩
def Xp {K:W.Frag} {a:Addr} {i:Nat} {xs:cJ} {capt:List (Option Nat)} {g:TG} {j:TE} {f:L2.St} {H:Hp} {Q:VK} (d:H a=some (.tup xs)\/H a=some (.lst xs)) (o:f[i]?=some (↥a)) (W:Nat->cJ->Hp->Prop) (k:W 0 [] H) (e:∀ i b c,W i b c->i<=↑xs/\↑b<=sizeLine/\c a=H a)
  (m:∀ i x b H,xs[i]?=some x->W i b H->g x (CU capt f) H λh q=>j h q λy r=>W (i+1) (b++[y]) r) (n:∀ b H,W ↑xs b H->∀ p,H p=none->Q (.ref p) (upd H p (.lst b))):At (He K (AA i)) capt g j f H Q:=by
 refine ⟨_,o,a,rfl,?_⟩;rcases d with d | d
 ·exact .inr ⟨⟨_,SqT.of d⟩,CompJ.tup W k (λi b c p=>⟨(e i b c p).1,(e i b c p).2.1,(e i b c p).2.2.trans d⟩) m n⟩
 ·exact .inl ⟨⟨_,SqL.of d⟩,CompJ.lst W k (λi b c p=>⟨(e i b c p).1,(e i b c p).2.1,SqL.of ((e i b c p).2.2.trans d)⟩) m n⟩
end Bs
namespace Bs
open PySem PySem.Spec PyProof.Rows L2
def Nx {X:Cx} {r:Expr} {l:Expr} {m:TE} (u:PE X l m):PI X r l (He X.K m):=by
 intro c s w H R I h;refine H_ (u c s w H _ I h) λv d ⟨x,i,f,y,j⟩=>?_;let ⟨a,e,j⟩:=j;subst e;cases y
 let n:∀ b,b∈[⇑d]->DZ X c i b:=λb z=>by
  rw [BU.mp z];exact f.fpOk (AV _) (f.hok.fresh (AV _))
 rcases j with ⟨⟨A,k⟩,q⟩ | ⟨⟨A,k⟩,q⟩
 ·let ⟨g,B,p,C⟩:=f.list k;refine wpAny_pyIter_list p.isList ?_;exact ⟨⇑d,[⇑d],_,_,i,rfl,f.kept (t':=d.toks) λb o e=>Heap.get?_push_of_some _ e,Mt a _,⟨_,Heap.get?_push_size _ rfl,rfl,rfl⟩,n,q⟩
 ·let ⟨g,B,p,C⟩:=f.tuple k;refine wpAny_pyIter_tuple (show d.heap.IsTuple a g.toArray from p) ?_;exact ⟨⇑d,[⇑d],_,_,i,rfl,f.kept (t':=d.toks) λb o e=>Heap.get?_push_of_some _ e,UW a _,⟨_,Heap.get?_push_size _ rfl,rfl,rfl⟩,n,q⟩
end Bs
namespace Bs
open PySem L2
def KW (b:TA):TE:=λc H Q=>b c H λd a=>∃ n:Nat,d=[.int (n:Int)]/\n<=1000/\∀ p,a p=none->Q (.ref p) (upd a p (.lst ((List.range n).map λi:Nat=>V.int (i:Int))))
def ForJ.zip {K:W.Frag} {g:TG} {j:TS} {D:Ends} {c:L2.St} {H:Hp} {a b:Addr} {xs ys:cJ} (k:↑xs=↑ys) (Pv:Nat->L2.St->Hp->Prop) (n:Pv 0 c H) (o:∀ i c H,i<=↑xs->Pv i c H->H a=some (.lst xs)/\H b=some (.lst ys))
  (r:∀ i x y p c H,xs[i]?=some x->ys[i]?=some y->Pv i c H->H p=none->g (.ref p) c (upd H p (.tup [x,y])) λf u=>j { D with nx:=Pv (i+1),ct:=Pv (i+1),bk:=D.nx } f u) (v:∀ c H,Pv ↑xs c H->D.nx c H):ForJ (aR K a b) g j D c H:=by
 refine ⟨λi m c H=>m=↑xs - i/\i<=↑xs/\Pv i c H,⟨↑xs,by simp,AX _,n⟩,?_⟩;rintro i m c H ⟨rfl,w,pv⟩;let ⟨z,d⟩:=o i c H w pv;let q:SqL K H a xs:=SqL.of z;let d:SqL K H b ys:=SqL.of d;by_cases h:i<↑xs
 ·refine .inr ⟨⟨xs,ys,xs[i],ys[i],q,d,by simp [h],by simp [k ▸ h]⟩,Pv (i+1),λA B C=>⟨↑xs - (i+1),⋯,rfl,h,C⟩,λx B y=>?_⟩;let ⟨p,E,F,hp,rfl,rfl,G,I⟩:=y;exact r i E F p c _ (G xs q) (I ys d) pv hp
 ·let e:i=↑xs:=by omega
  subst e;exact .inl ⟨⟨xs,ys,q,d,AV _⟩,v c H pv⟩
end Bs
namespace Bs
open PySem PySem.Spec PyProof.Rows L2
open PySem.AutoSeq1 (wpAny_loadPart')
section
variable {X:Cx} {elts:cQ} {k:Nat} {tpos:Pos} {a b:Expr} {ta:TA} {p pos:Pos}
theorem Xq:∀ (n:Nat) (c:cM),↑c=n->(∀ (i:Nat) v,c[i]?=some v->∃ t,v=.int (i:Int) t)->Vals ((List.range n).map λi:Nat=>V.int (i:Int)) c:=λn c f h=>by
 induction n generalizing c with
 | zero=>cases GZ.mp f;exact .nil
 | succ n g=>
   let e:c=c.take n++[c[n]]:=by rw [List.take_append_getElem];exact (List.take_of_length_le ⋯).symm
   rw [e,Ex,CP];refine Vals.append (g _ (by rw [BC];omega) λi v d=>h i v ?_) (.cons (h n _ (AT ⋯)) .nil);have:i<(c.take n).length:=Classical.byContradiction λz=>by rw [BH ⋯] at d;cases d
   rw [BC] at this;rw [List.getElem?_take,pB ⋯] at d;exact d
def Xr {a:Expr} {r d:Pos} (F:Gl X "list") (G:X.mg "list" = none) (w:Gl X "range") (x:X.mg "range" = none) (J:X.calm=true) (K:PA X [a] ta) (L:starEach [a] X.env=[(false,eval a X.env)]:=by rfl)
  (g:starEach [.Call (.Name "range" r) [a] [] d] X.env=[(false,eval (.Call (.Name "range" r) [a] [] d) X.env)]:=by rfl):PE X (.Call (.Name "list" p) [.Call (.Name "range" r) [a] [] d] [] pos) (KW ta):=by
 intro f s y H Q I h;refine wpAny_Call_Name_kw (Dg I F G FX ?_ ∅ ∅);refine PyProof.Rows.callWith_type1 (rest:=[]) ?_ g rfl;rw [g];refine Calls.spliced_cons (Call_ (Dg I w x boot_range (PyProof.Rows.callWith_type1 (H_ (K d f s y H _ I h) λY j ⟨Z,M,N,O,P⟩=>?_) L rfl)));let ⟨n,rfl,n1,q⟩:=P;let ⟨u,rfl,R⟩:=EG O;let ⟨t,rfl⟩:=R;refine call_range_1 (Calls.spliced_nil ?_);let z:Inv X f y M { j with heap:=j.heap.push { cls:=.type "range", data:=.fields #[.int 0 j.toks,.int (n:Int) t,.int 1 (j.toks+1)] },toks:=j.toks+1+1 }:=N.kept λb o e=>Heap.get?_push_of_some _ e
 let T:(n:Int)<2 ^ 62:=by have:(n:Int)<=1000:=by omega
                          omega
 refine call_list_range (n:=n) (I.ok.hd J) (IsRange.new ..) (small_one ⋯ ⋯ ⋯ T) (by rw [rangeSize_one];split <;> omega) ⋯ λh' U m c hk W D=>?_;refine ⟨.ref _,_,z.laid (o:=.lst ((List.range n).map λi:Nat=>V.int (i:Int))) (t':=U) hk (AV _) ⟨?_,m.toList,c,Xq n m.toList (by rw [Array.length_toList];exact D.1) λi v E=>?_,?_⟩,rfl,q _ (z.hok.fresh (AV _))⟩
 ·rw [AI,Au];exact sz ⋯
 ·rw [Array.getElem?_toList] at E;let ⟨t,e⟩:=D.2 i v E;exact ⟨t,by rw [e];congr 1;omega⟩
 ·rw [Array.toArray_toList];exact W
end
structure Mak (P:Program) (w:World) (K:W.Frag) (mg:cP) (base:Heap) (n:Nat) (x:Str) (C:Addr) (ps:cT) (sp:Sp):Prop where
 ex:∃ (f:Addr) (fd:FuncData),Mk K C f/\FnOk P w K mg base am n f fd ps sp/\Binds K fd ps []/\mg x=↥C
def Mak.pe {X:Cx} {n m:Nat} {x:Str} {C:Addr} {ps:cT} {sp:Sp} {e:Expr} {a:cQ} {t:TA} {p c:Pos} (M:Mak X.prog X.w X.K X.mg X.base n x C ps sp) (h:Room m X.A) (i:n+1<=m) (j:Gl X x) (o:PA X (e::a) t)
  (d:(x == ("__debug__" : Str))=false:=by decide) (q:starEach (e::a) X.env=(false,eval e X.env)::starEach a X.env:=by rfl) (g:(backTo c (starEach a X.env)).any (·.1)=false:=by rfl) :
  PE X (.Call (.Name x p) (e::a) [] c) (Gc C sp [] E0 t):=by
 let ⟨f,r,k,F,b,m⟩:=M.ex;exact U3 k F (h.mono i) j m b .nil NS o d q g
end Bs
namespace Bs
open PySem L2
noncomputable def bV (K:W.Frag) (a:Addr) (n:Nat):It:=⟨λi H=>i<n/\∃ b,SqT K H a b/\↑b=n,λi H x c=>c=H/\∀ b,SqT K H a b->b[n - 1 - i]?=some x,λi _=>n=i⟩
def KY (K:W.Frag) (d:TA):TI:=λe H R=>d e H λf b=>∃ a c,f=[.ref a]/\SqT K b a c/\R (bV K a ↑c) b
def ForJ.revT {K:W.Frag} {g:TG} {f:TS} {D:Ends} {b:L2.St} {H:Hp} {a:Addr} {xs:cJ} (Pv:Nat->L2.St->Hp->Prop) (h:Pv 0 b H) (j:∀ i b H,i<=↑xs->Pv i b H->SqT K H a xs)
  (k:∀ i x b H,i<↑xs->xs[↑xs - 1 - i]?=some x->Pv i b H->g x b H λc n=>f { D with nx:=Pv (i+1),ct:=Pv (i+1),bk:=D.nx } c n) (o:∀ b H,Pv ↑xs b H->D.nx b H):ForJ (bV K a ↑xs) g f D b H:=by
 refine ⟨λi m b H=>m=↑xs - i/\i<=↑xs/\Pv i b H,⟨↑xs,by simp,AX _,h⟩,?_⟩;rintro i m b H ⟨rfl,p,pv⟩;let q:=j i b H p pv;by_cases d:i<↑xs
 ·refine .inr ⟨⟨d,xs,q,rfl⟩,Pv (i+1),λr u v=>⟨↑xs - (i+1),⋯,rfl,d,v⟩,λx u y=>?_⟩;let ⟨e,y⟩:=y;subst e;exact k i x b _ d (y xs q) pv
 ·let e:i=↑xs:=by omega
  subst e;exact .inl ⟨rfl,o b H pv⟩
end Bs
namespace HT
open PySem PySem.Spec PyProof.Rows L2
def Ny:Manifest.owners.lookup (String.ofList ['d','e','s','r','e','v','e','r'].reverse)=some Manifest.sig_reversed:=by kernel_rfl
def so_next:Slot "reversed" "__next__" "reversed.__next__" :=
 .of (owner := "reversed") (n := "__next__") (by rw [typeLookup_type,builtinLookup_eq_fast];kernel_rfl) (by decide +kernel) (by decide +kernel) (by decide +kernel) (by first | exact .inl (by decide +kernel) | exact .inr (by decide +kernel)) (by rw [isSubtype_type];kernel_rfl)
def N3:Slot "reversed" "__iter__" "reversed.__iter__" :=
 .of (owner := "reversed") (n := "__iter__") (by rw [typeLookup_type,builtinLookup_eq_fast];kernel_rfl) (by decide +kernel) (by decide +kernel) (by decide +kernel) (by first | exact .inl (by decide +kernel) | exact .inr (by decide +kernel)) (by rw [isSubtype_type];kernel_rfl)
def Xs:Slot "reversed" "__init__" "object.__init__" :=
 .of (owner := "object") (n := "__init__") (by rw [typeLookup_type,builtinLookup_eq_fast];kernel_rfl) (by decide +kernel) (by decide +kernel) (by decide +kernel) (by first | exact .inl (by decide +kernel) | exact .inr (by decide +kernel)) (by rw [isSubtype_type];kernel_rfl)
def N6:entryFor table "reversed.__next__" = some Builtin.«reversed.__next__»:=entryFor_of_tree (by kernel_rfl)
def Xu:entryFor table "reversed.__iter__" = some Builtin.«dict_keyiterator.__iter__»:=
 entryFor_alias (id' := "dict_keyiterator.__iter__") (by kernel_rfl) (by first | rfl | decide +kernel | (unfold String.splitOn;simp +decide [String.splitOnAux])) (by decide +kernel) (by kernel_rfl)
def N8 (a:Value):argsOk "reversed.__next__" ⟨[a],[]⟩:=by
 unfold argsOk;rw [signature?_of (id := "reversed.__next__") (n:=['_','_','t','x','e','n','_','_']) (o:=['d','e','s','r','e','v','e','r']) (by kernel_rfl) Ny];kernel_rfl
def Xv (a:Value):argsOk "reversed.__iter__" ⟨[a],[]⟩:=by
 unfold argsOk;rw [signature?_of (id := "reversed.__iter__") (n:=['_','_','r','e','t','i','_','_']) (o:=['d','e','s','r','e','v','e','r']) (by kernel_rfl) Ny];kernel_rfl
def Xw:TypeCalled "reversed" "reversed.__new__" "object.__init__" :=
 ⟨by decide +kernel,F.create_reversed,⟨_,_,F.mro_reversed⟩,F.made_reversed,F.plain_reversed_new,F.sub_reversed_self,Xs⟩
def Xx:typeLookup (.type "tuple") "__reversed__" = pure none:=by rw [typeLookup_type,builtinLookup_eq_fast];kernel_rfl
def Xy:isSubtype (.type "tuple") (.type "dict")=pure false:=by rw [isSubtype_type];kernel_rfl
noncomputable def JB (t:Addr) (i:Int):Obj:={ cls:=.type "reversed", data:=.fields #[.ref t,rawInt i] }
def IsRvT (h:Heap) (a t:Addr) (i:Int):Prop:=∃ o,h.get? a=some o/\o.cls=.type "reversed" /\ o.data=.fields #[.ref t,rawInt i]
section
variable {prog:Program} {w:World} {A:Around} {E:cN} {s:Shared} {t it:Addr} {zs:Array Value}
def IsRvT.typeIs {i:Int} (x:IsRvT s.heap it t i):s.TypeIs (.ref it) "reversed" := let ⟨o,a,b,_⟩:=x;⟨o,a,b⟩
def IsRvT.at {h h':Heap} {i:Int} (x:IsRvT h it t i) (e:∀ o,h.get? it=some o->h'.get? it=some o):IsRvT h' it t i:=let ⟨o,a,r⟩:=x;⟨o,e _ a,r⟩
def Xz (zs:Array Value) (t:Addr) :
  Meets (Builtin.«reversed.__new__» ⟨[.type "reversed", .ref t],[]⟩) (λ_ R s=>IsTup s.heap t zs/\zs.size<=sizeLine/\
   R (.ok (.ret (.ref ⇑s))) { s with heap:=s.heap.push (JB t ((zs.size:Int) - 1)),toks:=s.toks+1+1 }):=
 .of_wp λprog w A R s h=>by
  let ⟨b,e,h⟩:=h;unfold Builtin.«reversed.__new__»;refine pI (wpAny_of_eq (newClass_reversed _) ?_)
  try dsimp only
  refine pI (wpAny_of_eq (a:=Unit.unit) (by first | rfl | kernel_rfl) ?_);refine pI (wpAny_of_eq (a:=Unit.unit) (by first | rfl | kernel_rfl) ?_)
  try dsimp only
  refine pI (wpAny_specialOf b.typeIs Xx ?_)
  try dsimp only
  refine pI (show wpAny _ _ (isInstance (.ref t) (.type "dict") >>= _) _ _ s from pI (wpAny_isInstance b.typeIs Xy ?_));show wpAny _ _ (specialOf (.ref t) "__getitem__" >>= _) _ _ s;refine pI (wpAny_specialOf b.typeIs slot_tuple_getitem.lookup ?_);refine pJ ?_;show wpAny _ _ (call (Value.builtin "len") [Value.ref t] >>= _) _ _ s;refine pI (len_tuple b (by unfold sizeLine at e;omega) ?_);refine pI (wpAny_of_eq (a:=some (zs.size:Int)) rfl ?_);show wpAny _ _ (Builtin.SmallTypes.newRecord (Value.type "reversed") [Value.ref t,rawInt ((zs.size:Int) - 1)] >>= _) _ _ _;refine pI ?_;unfold Builtin.SmallTypes.newRecord;refine wpAny_newObj_type ?_ (by size_fits);exact pJ ⟨_,rfl,h⟩
def X1 {Q:cN} (d:IsTup s.heap t zs) (e:zs.size<=sizeLine)
  (h:Q (.ref ⇑s) { s with heap:=s.heap.push (JB t ((zs.size:Int) - 1)),toks:=s.toks+1+1 }):wpAny (model prog w) A (call (.type "reversed") [.ref t]) Q E s:=
 callType_new Xw ∅ (F.typeCall_reversed_1 _) (F.newCall_reversed_1 _) (λa=>F.args_object_init_2 a _) F.entry_reversed_new (Xz zs t) ⟨d,e,⟨_,Heap.get?_push_size _ rfl,rfl⟩,h⟩
def X2 {i:Nat} {x:Value} {Q:cU->Shared->Prop} (d:IsRvT s.heap it t (i:Int)) (j:IsTup s.heap t zs) (m:zs.size<=sizeLine) (g:zs[i]?=some x)
  (n:∀ h p,IsRvT h it t ((i:Int) - 1)->Heap.SameBut it s.heap h->Q (some x) { s with heap:=h,toks:=p }):wpAny (model prog w) A (pyNext (.ref it)) Q E s:=by
 let ⟨o,f,q,e⟩:=id d
 let r:i<zs.size:=by
  rcases EB i zs.size with c | c
  ·exact c
  ·rw [Array.getElem?_eq_none c] at g;cases g
 unfold pyNext;refine pI (wpAny_attempt (wpAny_callSpecial?_slot (name:=Str.ofString "__next__") d.typeIs so_next (wpAny_call_entry so_next d.typeIs N6 ?_ (N8 _))));unfold Builtin.«reversed.__next__»;refine pI (wpAny_of_eq (a:=(Value.ref it,[])) rfl ?_)
 try dsimp only
 refine pI (wpAny_field f e (x:=.ref t) rfl ?_);refine pI (wpAny_field f e (x:=rawInt (i:Int)) rfl ?_);show wpAny _ _ (if (i:Int)<0 then _ else _) _ _ s;rw [qZ ⋯];show wpAny _ _ (specialOf (.ref t) "__getitem__" >>= _) _ _ s;refine pI (wpAny_specialOf j.typeIs slot_tuple_getitem.lookup ?_);show wpAny _ _ (mkInt (i:Int) >>= _) _ _ s;refine pI (wpAny_mkInt ?_);refine pI (wpAny_attempt (getItem_tuple (s:={ s with toks:=s.toks+1 }) j ⋯ (by unfold sizeLine at m;omega) (seqIndex_of ⋯ ⋯) (by simpa using g) ?_));show wpAny _ _ (field (.ref it) 1 >>= _) _ _ _;refine pI (wpAny_field (s:={ s with toks:=s.toks+1 }) f e (x:=rawInt (i:Int)) rfl ?_);show wpAny _ _ (setField (.ref it) 1 (rawInt ((i:Int) - 1)) >>= _) _ _ _;refine pI (wpAny_setField (s:={ s with toks:=s.toks+1 }) f e (by simp) ?_);refine pJ ⟨x,rfl,pJ (n _ _ ?_ (Heap.SameBut.update ..))⟩
 exact ⟨_,Heap.get?_update_self _ f (Obj.isFreed_of_fields (Obj.data_mapFields e _)),(Obj.cls_mapFields ..).trans q,by
  rw [Obj.data_mapFields e];simp⟩
theorem X3 {Q:cU->Shared->Prop} (f:A.handled=none) (c:IsRvT s.heap it t (-1))
  (i:∀ g,Heap.ExtBut it s.heap g->Q none { s with heap:=g }):wpAny (model prog w) A (pyNext (.ref it)) Q E s:=by
 let ⟨o,e,j,d⟩:=id c;unfold pyNext;refine pI (wpAny_attempt (wpAny_callSpecial?_slot (name:=Str.ofString "__next__") c.typeIs so_next (wpAny_call_entry so_next c.typeIs N6 ?_ (N8 _))));unfold Builtin.«reversed.__next__»;refine pI (wpAny_of_eq (a:=(Value.ref it,[])) rfl ?_)
 try dsimp only
 refine pI (wpAny_field e d (x:=.ref t) rfl ?_);refine pI (wpAny_field e d (x:=rawInt (-1)) rfl ?_);show wpAny _ _ (if (-1:Int)<0 then _ else _) _ _ s;rw [pB ∅];refine pI (wpAny_rule ?_);refine pI (show wpAny _ _ (setField (.ref it) 1 (rawInt (-1)) >>= λ_=>setField (.ref it) 0 .none) _ _ _ from pI (wpAny_setField e d (by simp) ?_));refine wpAny_setField (Heap.get?_update_self _ e (Obj.isFreed_of_fields (Obj.data_mapFields d _))) (Obj.data_mapFields d _) (by simp) ?_
 first
 | show wpAny _ _ (newExc (.type "StopIteration") [] >>= _) _ _ _
 | (refine pI ?_;show wpAny _ _ (newExc (.type "StopIteration") [] >>= _) _ _ _)
 refine pI ?_;simp only [newExc,newTuple];refine pI (wpAny_newObj_type ?_ (by size_fits));refine pI (m:=firstArgMember _ _) (wpAny_of_eq (a:=Value.none) (by first | rfl | (simp only [firstArgMember];rfl)) ?_);refine wpAny_newObj_type ?_ (by size_fits);simp only [raiseNew];refine pI (wpAny_handled ?_)
 first | rw [show A.in1.handled=none from f] | rw [f]
 refine pI (pJ (wpAny_throw ?_));refine pI (wpAny_isInstance (T := "StopIteration") (b:=true) ⟨_,Heap.get?_push_size _ rfl,rfl⟩ isSubtype_stop ?_);exact pJ (i _ ((((Heap.SameBut.update ..).extBut.trans (Heap.SameBut.update ..).extBut).push _).push _))
def N9 {i:Int} {Q:cN} (a:IsRvT s.heap it t i) (h:Q (.ref it) s):wpAny (model prog w) A (pyIter (.ref it)) Q E s:=by
 refine wpAny_pyIter_slot a.typeIs N3 (wpAny_call_entry N3 a.typeIs Xu ?_ (Xv _));show wpAny _ _ (ret (.ref it)) _ _ s;exact pJ ⟨_,rfl, "reversed", _,a.typeIs,so_next.lookup,h⟩
end
end HT
namespace Bs
open PySem PySem.Spec PyProof.Rows L2 HT
def X4 {P:Program} {w:World} {K:W.Frag} {tg:Expr} (a f:Addr) (n:Nat):Turn P w K tg (bV K a n) [f] f (λi h=>IsRvT h f a ((n:Int) - 1 - (i:Int))) where
 mem:=by simp
 obj:=λi h g b m=>by
  let e:b=f:=by simpa using m
  subst e
  let ⟨o,e,c,d⟩:=g
  exact ⟨o,e,λv z=>by rw [d] at z;cases z⟩
 keep:=λi h r g k=>g.at λo e=>k f (by simp) o e
 item:=by
  intro X D F G T i j s U H E I C g J
  subst D F G
  let ⟨hi,Y,Z,hn⟩:=J
  let ⟨a0,rv,p,hz⟩:=I.tuple Z
  let hx:Y[n - 1 - i]?=some (Y[n - 1 - i]'⋯):=AT ⋯
  let ⟨u,hu,ru⟩:=rv.get hx
  let ⟨L,M,f2,N,O,Q⟩:=C f (by simp)
  let q:IsRvT s.heap f a ((n - 1 - i:Nat):Int):=by rw [show ((n - 1 - i:Nat):Int)=(n:Int) - 1 - (i:Int) by omega];exact g
  refine X2 q p (by rw [A7,<-↑rv];exact hz) (x:=u) (by simpa using hu) λr tk y sb=>?_
  let I1:Inv X j U H { s with heap:=r,toks:=tk }:=I.turned (λb o m e=>(sb.2 b m).trans e) L M N O Q
  let ⟨o,e,c,d⟩:=id y
  let R:IsRvT r f a ((n:Int) - 1 - ((i+1:Nat):Int)):=by rw [show (n:Int) - 1 - ((i+1:Nat):Int)=((n - 1 - i:Nat):Int) - 1 by omega];exact y
  exact ⟨u,rfl,HS (s:={ s with heap:=r,toks:=tk }) e c d ∅ ⟨_,H,I1,ru,⟨rfl,λys hy=>by rw [I.tuple_inj hy Z];exact hx⟩,R,λb m=>(C b m).1⟩⟩
 done:=by
  intro X D F G T i j s U H E I C g J
  subst D F G
  let S:n=i:=J
  subst S
  let ⟨L,M,f2,N,O,Q⟩:=C f (by simp)
  let q:IsRvT s.heap f a (-1):=by rw [show (-1:Int)=(n:Int) - 1 - (n:Int) by omega];exact g
  exact X3 (I.ok.hd T) q λr eb=>⟨rfl,I.turned (t':=s.toks) (λb o m e=>eb b o m e) L M N O Q⟩
 self:=λ_ _ _ _ _ g h=>N9 g h
def X5 {X:Cx} {x:Expr} {a:Expr} {m:TA} {p i:Pos} (y:Gl X "reversed") (A:X.mg "reversed" = none) (B:PA X [a] m) (C:starEach [a] X.env=[(false,eval a X.env)]:=by rfl):PI X x (.Call (.Name "reversed" p) [a] [] i) (KY X.K m):=by
 intro d s n H R I h;refine Call_ (Dg I y A Wp (PyProof.Rows.callWith_type1 (H_ (B i d s n H _ I h) λO f ⟨P,r,j,D,E⟩=>?_) C rfl));let ⟨b,k,rfl,F,q⟩:=E;let ⟨u,rfl,G⟩:=EG D;cases G;let ⟨g,J,pl,K⟩:=j.tuple F;let L:=↑J;refine X1 pl (by rw [A7,<-L];exact K) ?_;let M:Inv X d n r { f with heap:=f.heap.push (JB b ((g.toArray.size:Int) - 1)),toks:=f.toks+1+1 }:=j.kept λb o e=>Heap.get?_push_of_some _ e
 let si:IsRvT (f.heap.push (JB b ((g.toArray.size:Int) - 1))) ⇑f b ((↑k:Int) - 1 - ((0:Nat):Int)):=by
  rw [show (↑k:Int) - 1 - ((0:Nat):Int)=(g.toArray.size:Int) - 1 by rw [A7];omega];exact ⟨_,Heap.get?_push_size _ rfl,rfl,rfl⟩
 refine N9 si ⟨_,[⇑f],_,_,r,rfl,M,X4 b _ ↑k,si,λc N=>?_,q⟩;let z:c=⇑f:=by simpa using N
 subst z;exact j.fpOk (AV _) (j.hok.fresh (AV _))
end Bs
namespace Bs
open PySem L2
def OA:cJ->Hp->VK->Prop:=λb H Q=>∃ (p:Addr) (a:cL),b=[.ref p]/\H p=some (.lst (~~~a))/\a≠[]/\∀ m∈a,(∀ z∈a,z<=m)->Q (.int m) H
end Bs
namespace Bs
open PySem PySem.Spec PyProof.Rows L2
theorem OB (f:cY):∀ n i,i<=n->f i<=f (argBest (λi j=>decide (f j<f i)) n)
 | 0,i,h=>by rw [Nat.le_zero.mp h];exact Int.le_refl _
 | n+1,i,h=>by
   let a:=OB f n;unfold argBest;by_cases c:f (argBest (λi j=>decide (f j<f i)) n)<f (n+1)
   ·rw [pB (pC c)];rcases Ej.mp (Nat.lt_succ_of_le h) with q | q
    ·exact Int.le_trans (a i ⋯) (Dr c)
    ·rw [q];exact Int.le_refl _
   ·rw [qZ (by simpa using c)];rcases Ej.mp (Nat.lt_succ_of_le h) with q | q
    ·exact a i ⋯
    ·rw [q];exact Int.not_lt.mp c
def X6 {X:Cx} (w:X.calm=true):C6 X (.builtin "max") OA:=λk s G H J K Q I r ⟨p,c,e,hp,x,q⟩=>by
 subst e;let ⟨u,rfl,y⟩:=EG r;cases y;let ⟨a,f,pl,m⟩:=I.list (SqL.of hp);let L:↑c=↑a:=by have:=↑f;simpa using this
 let M:0<↑c:=FQ.mpr x;refine call_max_walk (wpAny_pyIter_list pl.isList ⟨⇑s,[⇑s,p],[⇑s],a.toArray.size,_,_,λi j=>decide (c.getD j 0<c.getD i 0),rfl,Walks.list (A:=X.A.in1) (show X.A.in1.handled=none from I.ok.hd w) ⇑s p (BG pl.lt) _,⟨⟨_,Heap.get?_push_size _ rfl,rfl,rfl⟩,pl.isList.push _⟩,?_,by rw [A7];omega,CmpOf.ints_gt (λi=>c.getD i 0) (λi v h=>?_),λv g N h B=>?_⟩)
 ·intro b C;let z:b=⇑s\/b=p:=by simpa using C
  rcases z with z | z
  ·rw [z];exact pM (Heap.get?_push_size _ rfl)
  ·let ⟨o,_,D,_⟩:=pl;rw [z];exact pM (Heap.get?_push_of_some _ D)
 ·let ⟨n,t,d,rfl⟩:=GD f (show a[i]?=some v by simpa using h);exact ⟨t,by rw [AJ,d];rfl⟩
 ·let E:∀ b o,s.heap.get? b=some o->g.get? b=some o:=λb o e=>B b o (λz=>absurd (pM e) (by rw [BU.mp z];exact C5 _)) (Heap.get?_push_of_some _ e);let ⟨n,t,d,rfl⟩:=GD f (show a[_]?=some v by simpa using h);refine ⟨.int n,H,I.kept E,⟨t,rfl⟩,q n (by let ⟨z,e⟩:=Ax.mp d;exact e ▸ Cn z) λz m=>?_⟩;let ⟨j,F,rfl⟩:=List.getElem_of_mem m;have:=OB (λi=>c.getD i 0) (a.toArray.size - 1) j (by rw [A7];omega);simp only [AJ,AT F] at this;rw [A7,d] at this;exact this
noncomputable def own:Option Str->Addr->List (Str×Addr)
 | none,_=>[]
 | some x,c=>[(x,c)]
noncomputable def pO:Option Str->Heap->Heap
 | none,h=>h
 | some _,h=>h.push { cls:=.type "cell", data:=.cell none }
noncomputable def Br (X:Cx) (N:cT) (a:Scope) (xo:Option Str) (e:List (Str×Addr)) (C:Addr) (s:Shared) (H:Hp) (f:cV):Cx:=
 { X with N:=N,s₀:=s,H₀:=H,env:=compEnvC a (own xo (C+1)++e) C X.env,outer:=X.stack,stack:=X.stack,ex:=f,fn:=λy=>xo == some y,pn:=[],xe:=λ_ _=>False }
structure BlkOk1 (X:Cx) (N:cT) (capt:List (Option Nat)) (scope:Scope) (xo:Option Str) (cl:List (Str×Addr)):Prop where
 kind:scope.kind=.function
 clos:closureFor scope X.env=pure cl
 one:∀ n,cellsFrom n scope.names cl=own xo n++cl/\∀ h:Heap,pushCells h scope.names=pO xo h
 names:∀ y∈scope.names,y.2=.local->scope.names.lookup y.1=some .local
 cells:∀ y c,cl.lookup y=some c->X.env.cells.lookup y=some c
 has:∀ y,((relabel scope X.env).names.lookup y=some .cell\/(relabel scope X.env).names.lookup y=some .free)->xo=some y\/∃ c,cl.lookup y=some c
 cap:∀ (i:Nat) (x:Str) (j:Nat),N[i]?=some x->capt[i]?=some (some j)->X.N[j]?=some x/\bj X.env.scope x/\X.env.kindOf x≠some .local/\((relabel scope X.env).names.lookup x=some .cell\/(relabel scope X.env).names.lookup x=some .free)/\xo≠some x
 len:↑capt=↑N
theorem Gk {xo:Option Str} {x:Str} {a c:Addr} {b:List (Str×Addr)} (h:List.lookup x (own xo a++b)=some c):xo=some x/\c=a\/b.lookup x=some c:=by
 cases xo with
 | none=>exact .inr h
 | some y=>
   let h:List.lookup x ((y,a)::b)=some c:=h;rw [List.lookup_cons] at h;cases e:x == y with
   | true=>
     rw [e] at h;exact .inl ⟨by rw [eq_of_beq e],(pL h).symm⟩
   | false=>
     rw [e] at h;exact .inr h
theorem OC {xo:Option Str} {x:Str} {a:Addr} {b:List (Str×Addr)} (h:xo≠some x):List.lookup x (own xo a++b)=b.lookup x:=by
 cases xo with
 | none=>rfl
 | some y=>
   show List.lookup x ((y,a)::b)=_;rw [List.lookup_cons,beq_eq_false_iff_ne.mpr λe=>h (by rw [e])]
def look_at {x:Str} {a:Addr} {b:List (Str×Addr)}:List.lookup x (own (some x) a++b)=some a:=by
 show List.lookup x ((x,a)::b)=_;rw [List.lookup_cons,beq_self_eq_true]
def X7 {M:Model} {A:Around} {E:cN} {s:Shared} {a:Scope} {globals:Addr} {j:List (Str×Addr)} {qual:Str} {d:Env} {xo:Option Str} {Q:Env->Shared->Prop}
  (one:∀ n,cellsFrom n a.names j=own xo n++j/\∀ h:Heap,pushCells h a.names=pO xo h)
  (r:∀ k,k.Ns ⇑s (λ_=>none)->(∀ x,xo=some x->k.IsCell (⇑s+1) none)->(∀ b o,s.heap.get? b=some o->k.get? b=some o)->
   Q (newEnv a ⇑s globals (own xo (⇑s+1)++j) qual none .none (some d) builtinsNs) { s with heap:=k }) :
  wpAny M A (newFunctionEnv a globals j [] qual none .none (some d)) Q E s:=by
 simp only [newFunctionEnv,Option.isSome_some,if_true];refine pI (wpAny_alloc ?_);refine pI (wpAny_layCells _ (λq g m=>by cases p:g == NameKind.cell <;> simp [p]) _ _ _ _ ?_);let z:(s.heap.push { cls:=.type "dict", data:=.dict #[] }).objs.size=⇑s+1:=Heap.size_push ..;rw [show ({ s with heap:=s.heap.push { cls:=.type "dict", data:=.dict #[] } }:Shared).heap.objs.size=⇑s+1 from z,(one _).1,(one 0).2];refine pJ (r (pO xo (s.heap.push { cls:=.type "dict", data:=.dict #[] })) ?_ (λx e=>?_) λb o e=>?_)
 ·cases xo with
  | none=>exact Heap.Ns.new s.heap (.type "dict")
  | some x=>exact (Heap.Ns.new s.heap (.type "dict")).keeps λb o e=>Heap.get?_push_of_some _ e
 ·subst e;exact ⟨_,by rw [<-z];exact Heap.get?_push_size _ rfl,rfl⟩
 ·cases xo with
  | none=>exact Heap.get?_push_of_some _ e
  | some x=>exact Heap.get?_push_of_some _ (Heap.get?_push_of_some _ e)
section
variable {X:Cx} {pins:cO} {σ:L2.St} {H:Hp} {s:Shared} {N:cT} {capt:List (Option Nat)} {scope:Scope} {xo:Option Str} {cl:List (Str×Addr)} {C:Addr} {fp:cV}
def OF (B:BlkOk1 X N capt scope xo cl) (I:Inv X pins σ H s) (g:∀ b∈fp,DZ X pins H b) (k:∀ b∈fp,b<⇑s) (d:⇑s<=C):(Br X N scope xo cl C s H fp).Ok where
 mod:=I.ok.mod
 kind:=B.kind
 glob:=I.ok.glob
 blt:=I.ok.blt
 above:=d
 inj:=λx y c i j=>by
  let f:∀ z,cl.lookup z=some c->c≠C+1:=λz e q=>by
   let ⟨v,n⟩:=I.cell z c (B.cells z c e)
   exact absurd (B2 n.lt d) (by rw [q];exact Nat.not_lt.mpr (D7 _))
  rcases Gk i with ⟨a1,p⟩ | a1 <;> rcases Gk j with ⟨a2,r⟩ | a2
  ·exact pL (a1.symm.trans a2)
  ·exact absurd p (f y a2)
  ·exact absurd r (f x a1)
  ·exact I.ok.inj x y c (B.cells x c a1) (B.cells y c a2)
 has:=λx h=>by
  by_cases e:xo=some x
  ·subst e;exact ⟨_,look_at⟩
  ·let ⟨c,u⟩:=(B.has x h).resolve_left e
   exact ⟨c,(OC e).trans u⟩
 cab:=λx c i j=>by
  let e:xo=some x:=eq_of_beq i
  subst e
  have:some (C+1)=some c:=look_at.symm.trans j
  cases this
  exact BM d (D7 _)
 hd:=I.ok.hd
 frames:=I.ok.frames
 stk:=.inl rfl
 exf:=λb a=>⟨λe=>absurd (B2 (k b a) d) (by rw [show b=C from e];exact C5 _),λx c e=>by
  rcases Gk e with ⟨_,q⟩ | e
  ·intro z;let m:=k b a;rw [<-z,q] at m;exact absurd (B2 m d) (Nat.not_lt.mpr (D7 _))
  ·exact (g b a).2.2.2.2.1 x c (B.cells x c e)⟩
 bs:=I.bs
 bsz:=BM I.ok.bsz I.sz
 noex:=λb o e a=>by
  rcases (g b a).2.2.2.1 with z | z
  ·exact I.ok.noex b o e z
  ·exact absurd (B2 (pM e) (BM I.ok.bsz z)) (C5 _)
 exfs:=λb a w=>by
  rcases DV.mp (I.stkSub b w) with z | z
  ·exact (g b a).2.1 z
  ·exact (g b a).2.2.1 z
 funs:=I.stack
 frf:=I.stkFree
 seer:=I.ok.seer
 tree:=I.ok.tree
 plr:=I.ok.plr
theorem OG (B:BlkOk1 X N capt scope xo cl) (I:Inv X pins σ H s) {k:Heap} (hk:∀ x c o,X.env.cells.lookup x=some c->s.heap.get? c=some o->∃ d,k.get? c=some d/\d.data=o.data) {i:Nat} {x:Str} {v:V} {m:cP} (z:N[i]?=some x) (A:(CU capt σ)[i]?=some (some v)) :
  ∃ u,RelV v u/\bo (compEnvC scope (own xo (C+1)++cl) C X.env) k m x u:=by
 let a:(capt.map λo=>o.bind λj=>(σ[j]?).join)[i]?=some (some v):=A;rw [Ac] at a;cases f:capt[i]? with
 | none=>rw [f] at a;cases a
 | some o=>
   rw [f] at a;cases o with
   | none=>cases a
   | some j=>
     let e:(σ[j]?).join=some v:=pL a;let ⟨D,E,F,n,p⟩:=B.cap i x j z f
     let G:σ[j]?=some (some v):=by
      cases q:σ[j]? with
      | none=>rw [q] at e;cases e
      | some w=>rw [q] at e;exact congrArg some e
     let ⟨P,_,J⟩:=I.loc;let ⟨u,r,l⟩:=J j x v D G E;refine ⟨u,r,.inr ⟨n,?_⟩⟩;rcases l with ⟨l,_⟩ | ⟨_,c,y,K⟩
     ·exact absurd l F
     ·let ⟨L,b⟩:=(B.has x n).resolve_left p;have:=B.cells x L b;rw [y] at this;cases this;let ⟨o,M,O⟩:=K;let ⟨d,g,h⟩:=hk x c o y M;exact ⟨c,(OC p).trans b,d,g,h.trans O⟩
def X8 (B:BlkOk1 X N capt scope xo cl) (I:Inv X pins σ H s) (j:∀ b∈fp,DZ X pins H b) (k:∀ b∈fp,b<⇑s) (d:⇑s<=C) {a:Heap} {m:cP} {tk:Nat}
  (n:a.Ns C m) (r:∀ x,xo=some x->a.IsCell (C+1) none) (hk:∀ b o,s.heap.get? b=some o->a.get? b=some o):Inv (Br X N scope xo cl C s H fp) [] (CU capt σ) H { s with heap:=a,toks:=tk } where
 ok:=OF B I j k d
 os:=rfl
 bare:=I.bare
 base:=Un.kept hk
 loc:=⟨m,n,λi x v u w A=>OG B I (λ_ c o _ f=>⟨o,hk c o f,rfl⟩) u w⟩
 cell:=λx c e=>by
  rcases Gk e with ⟨z,q⟩ | e
  ·rw [q];exact ⟨none,r _ z⟩
  ·let ⟨v,o,f,y⟩:=I.cell x c (B.cells x c e);exact ⟨v,o,hk c o f,y⟩
 free:=I.hok.fresh d
 freeC:=λx c e=>by
  rcases Gk e with ⟨_,q⟩ | e
  ·rw [q];exact I.hok.fresh (BM d (D7 _))
  ·exact I.freeC x c (B.cells x c e)
 pin:=λp hp=>nomatch hp
 hok:=I.hok.kept hk
 len:=by show (capt.map _).length=↑N;rw [AI];exact B.len
def OH {e:L2.St} {f:Hp} {g:Shared} {a:cO} (B:BlkOk1 X N capt scope xo cl) (I:Inv X pins σ H s) (j:∀ b∈fp,DZ X pins H b) (d:Inv (Br X N scope xo cl C s H fp) a e f g):Inv (Br X N scope xo cl C s H fp) a (CU capt σ) f g:=
 ⟨d.ok,d.os,d.bare,d.base,by
  let ⟨m,k,_⟩:=d.loc;refine ⟨m,k,λi x v n p u=>OG B I (λy c o h q=>?_) n p⟩;let ⟨w,hk⟩:=d.base.any q (I.freeC y c h) λr=>(j c r).2.2.2.2.1 y c h rfl;exact ⟨_,hk,rfl⟩,d.cell,d.free,d.freeC,d.pin,d.hok,by show (capt.map _).length=↑N;rw [AI];exact B.len⟩
def BlkOk1.of (k:scope.kind=.function) (c:closureFor scope X.env=pure cl) (o:∀ n,cellsFrom n scope.names cl=own xo n++cl/\∀ h:Heap,pushCells h scope.names=pO xo h) (p:(scope.names.all λy=>y.2 != .local || scope.names.lookup y.1 == some .local)=true)
  (cs:∀ a∈cl,X.env.cells.lookup a.1=some a.2) (r:((relabel scope X.env).names.all λa=>(a.2 != .cell && a.2 != .free) || xo == some a.1 || (cl.lookup a.1).isSome)=true)
  (u:((List.range ↑N).all λi=>match N[i]?,capt[i]? with
   | some x,some (some j)=>X.N[j]? == some x && (X.env.scope.names.lookup x == some .cell || X.env.scope.names.lookup x == some .free) && ((relabel scope X.env).names.lookup x == some .cell || (relabel scope X.env).names.lookup x == some .free) && xo != some x
   | _,_=>true)=true) (v:↑capt=↑N):BlkOk1 X N capt scope xo cl where
 kind:=k
 clos:=c
 one:=o
 names:=λy w e=>by
  let z:=List.all_eq_true.mp p y w;rw [e] at z;simpa using z
 cells:=λy c h=>cs (y,c) (Io h)
 has:=λy h=>by
  let m:∃ d,(y,d)∈(relabel scope X.env).names/\(d=.cell\/d=.free):=by
   rcases h with h | h
   ·exact ⟨_,Io h,.inl rfl⟩
   ·exact ⟨_,Io h,.inr rfl⟩
  let ⟨d,m,e⟩:=m;let z:=List.all_eq_true.mp r _ m;rcases (Bool.or_eq_true _ _).mp z with z | z
  ·rcases (Bool.or_eq_true _ _).mp z with z | z
   ·rcases e with rfl | rfl <;> exact absurd z Cf
   ·exact .inl (eq_of_beq z)
  ·exact .inr (Option.isSome_iff_exists.mp z)
 cap:=λi x j f A=>by
  let li:i<↑N:=(Ax.mp f).1;let z:=List.all_eq_true.mp u i (D5.mpr li);rw [f,A] at z;simp only [Bool.and_eq_true,Bool.or_eq_true,beq_iff_eq,bne_iff_ne] at z;let ⟨⟨⟨B,b⟩,D⟩,E⟩:=z;refine ⟨B,.inr b,λq=>?_,D,E⟩;let g:X.env.scope.names.lookup x=some .local:=q;rcases b with b | b <;> (rw [b] at g;cases g)
 len:=v
def KZ {a6 E tg:Expr} {cs:cQ} {tc:TT} {ap:Pos} {wi:TI} {g:TG} {te:TE} {pins:cO} {s:Shared} {σ:L2.St} {H:Hp} {Q:VK} (RR:Value->Addr->Result->Shared->Prop) (hc:X.calm=true) (B:BlkOk1 X N capt scope xo cl) (hi:PI X tg E wi)
  (hg:∀ C s H fp,PG (Br X N scope xo cl C s H fp) tg g) (ht:∀ C s H fp,bU (Br X N scope xo cl C s H fp) cs tc) (he:∀ C s H fp,PE (Br X N scope xo cl C s H fp) a6 te) (I:Inv X pins σ H s) (h:FC wi capt g tc te σ H Q)
  (bq:∀ (D C:Addr) (Z:Shared) (Hq:Hp) (m:cP),Inv X pins σ Hq Z->Q (.ref D) Hq->Z.heap.Ns C m->Hq C=none->C≠X.env.locals->X.s₀.heap.objs.size<=C->(∀ x c,X.env.cells.lookup x=some c->c≠C)->(∀ p∈X.pn++pins,p.1≠C)->RR (.ref D) C (.ok .next) Z) :
  wpAny (model X.prog X.w) X.A (eval E X.env) (λx b0=>wpAny (model X.prog X.w) X.A (pyIter x) (λit b1=>wpAny (model X.prog X.w) X.A (newList []) (λb2 b3=>
   wpAny (model X.prog X.w) X.A (newFunctionEnv scope X.env.globals cl [] X.env.qual none .none (some X.env)) (λa0 b4=>
    codeAny (model X.prog X.w) X.A (.compStart (.ListComp a6 [⟨tg,E,cs,0⟩] scope ap) 0 it b2 { a0 with scope:=relabel scope X.env }) (RR b2 a0.locals) b4) X.xe b3) X.xe b1) X.xe b0) X.xe s:=by
 refine H_ (hi pins s σ H _ I h) λv s1 h1=>H_ h1 λc6 d h2=>?_;let ⟨it,fp,tn,J,O,e,F,T,a7,U,n0,W,w0,b5⟩:=h2;subst e;let fl:∀ b∈fp,b<⇑d:=λb a=>by let ⟨o,e,_⟩:=T.obj _ _ a7 b a;exact pM e
 refine wpAny_newObj_type (X7 B.one λK w A j=>?_);dsimp only at w A j ⊢;generalize hG:d.heap.push { cls:=.type "list", dict:=none,data:=.seq ([]:cM).toArray }=G at w A j ⊢;let hC:G.objs.size=⇑d+1:=by rw [<-hG,Heap.size_push]
 let L:⇑d<=G.objs.size:=by rw [hC];exact D7 _
 let ab:⇑d≠G.objs.size:=by rw [hC];exact BG (Ch _)
 let aj:∀ b o,d.heap.get? b=some o->K.get? b=some o:=λb o e=>j b o (hG ▸ Heap.get?_push_of_some _ e);let b6:K.get? ⇑d=some { cls:=.type "list", data:=.seq ([]:cM).toArray }:=j _ _ (hG ▸ Heap.get?_push_size _ rfl);let al:=OF B F U fl L
 let bs:⇑d∉af X.stack:=λa=>by
  rcases DV.mp (F.stkSub _ a) with z | z
  ·exact absurd F.lt (by rw [<-z];exact C5 _)
  ·exact F.nofs (AV _) z
 let bt:∀ x c,List.lookup x (own xo (G.objs.size+1)++cl)=some c->c≠⇑d:=λx c e z=>by
  rcases Gk e with ⟨_,rfl⟩ | e
  ·rw [hC] at z;exact absurd z (Nat.ne_of_gt (Nat.lt_succ_of_lt (Ch _)))
  ·let ⟨v,q⟩:=F.cell x c (B.cells x c e);exact absurd q.lt (by rw [z];exact C5 _)
 let b7:∀ b∈fp,⇑d≠b:=λb a z=>absurd (fl b a) (by rw [<-z];exact C5 _);let b9:Inv (Br X N scope xo cl G.objs.size d O fp) [] (CU capt σ) O { d with heap:=K,toks:=d.toks }:=X8 B F U fl L w A aj
 let a5:codeAny (model X.prog X.w) X.A (.compLoop (.ListComp a6 [⟨tg,E,cs,0⟩] scope ap) 0 (.ref it) (.ref ⇑d) (compEnvC scope (own xo (G.objs.size+1)++cl) G.objs.size X.env))
   (RR (.ref ⇑d) G.objs.size) { d with heap:=K,toks:=d.toks }:=by
  refine Xn (λn s'=>∃ (i:Nat) (Y:cJ) (f:cM) (k:Nat) (P:Hp),Inv (Br X N scope xo cl G.objs.size d O fp) [] (CU capt σ) P s'/\s'.heap.get? ⇑d=some { cls:=.type "list", data:=.seq f.toArray k }/\Vals Y f/\
   P ⇑d=none/\tn i s'.heap/\(∀ b∈fp,P b=none)/\W i Y P/\n=n0 - i) ?_ n0 ⟨0,[],[],0,O,b9,b6,.nil,F.hok.fresh (AV _),T.keep _ _ _ a7 (λb _ o e=>aj b o e),λb a=>(U b a).1,w0,rfl⟩
  rintro n s3 ⟨i,Y,f,k,P,I3,hD,hv,nD,ba,bb,w3,en⟩;let ⟨_,hl,bc⟩:=b5 i Y P w3;let hz:f.toArray.size<=sizeLine:=by rw [A7,<-↑hv];exact hl
  let bd:Inv (Br X N scope xo cl G.objs.size d O fp) [(⇑d,{ cls:=.type "list", data:=.seq f.toArray k })] (CU capt σ) P s3:=I3.pins_of λp hp=>by
   rw [BU] at hp;subst hp;exact ⟨hD,nD,ab,bs,λv z=>nomatch z⟩
  let an:∀ {Hx:Hp} (_:∀ b∈fp,Hx b=none),∀ b∈fp,DZ (Br X N scope xo cl G.objs.size d O fp) [(⇑d,{ cls:=.type "list", data:=.seq f.toArray k })] Hx b:=λhx b a=>
   ⟨hx b a,(al.exf b a).1,al.exfs b a,.inl a,(al.exf b a).2,λp hp=>by
    let be:p∈[((⇑d,{ cls:=.type "list", data:=.seq f.toArray k }):Addr×Obj)]:=hp;rw [BU] at be;subst be;exact b7 b a⟩
  rcases bc with ⟨bf,q⟩ | ⟨c7,go,bw⟩
  ·refine H_ (T.done (Br X N scope xo cl G.objs.size d O fp) rfl rfl rfl hc i _ s3 _ P _ bd (an bb) ba bf) λr Z ⟨hr,I4⟩=>?_;subst hr;let bz:=(I4.pin (⇑d,{ cls:=.type "list", data:=.seq f.toArray k }) (Dd _ (BU.mpr rfl))).1;let ⟨m,hn,_⟩:=I4.loc;let R:∀ b u,P b=some u->b≠⇑d:=λb u e z=>by rw [z,nD] at e;cases e
   let bg:∀ b o,d.heap.get? b=some o->b≠⇑d:=λb o e=>BG (pM e);let ub:Un (af X.stack) fp O P d.heap Z.heap:=I4.base;let cC:∀ b,b<⇑d->b≠G.objs.size:=λb a z=>absurd (B2 a L) (by rw [z];exact C5 _)
   refine bq _ G.objs.size Z (upd P ⇑d (.lst Y)) m ?_ (q _ nD) hn (by rw [Aq (λz=>ab z.symm)];exact I4.free) (λz=>cC _ F.lt z.symm) (BM F.sz L)
    (λx c e=>by let ⟨v,q⟩:=F.cell x c e;exact cC _ q.lt) λp hp=>cC _ (pM (F.pin p hp).1)
   refine F.call' (ch:=fp) (s':=Z) I4.os ?_ ?_ I4.bare λb a=>⟨(U b a).2.2.2.1,(U b a).2.1,(U b a).2.2.2.2.1,(U b a).2.2.2.2.2⟩
   ·refine ⟨ub.keep,ub.slot,λb o e n hx=>?_,ub.there,λb xs e=>?_,λb o u e=>?_,λb ps e=>?_⟩
    ·rw [Aq (bg b o e)];exact ub.free b o e n hx
    ·let z:=ub.tups b xs e;rw [Aq (R b _ z)];exact z
    ·let z:=ub.frzs b o u e;rw [Aq (R b _ z)];exact z
    ·let ⟨bk,z⟩:=ub.tbls b ps e;exact ⟨bk,by rw [Aq (R b _ z)];exact z⟩
   ·intro b u e;by_cases a:b=⇑d
    ·subst a;rw [upd_same] at e;cases e;exact ⟨hl,f,k,hv,bz⟩
    ·rw [Aq a] at e;exact (I4.hok b u e).stay (λc v _ q=>q) (λc q=>by rw [Aq (R c _ q)];exact q) λc xs q=>by rw [Aq (R c _ q)];exact q
  ·refine H_ (T.item (Br X N scope xo cl G.objs.size d O fp) rfl rfl rfl hc i _ s3 _ P _ bd (an bb) ba go) λr Z ⟨u,hr,h4⟩=>?_;subst hr;refine H_ h4 λ_ s5 ⟨x,H5,I5,r5,y5,S,c0⟩=>?_;let c1:=I5.pinned (an c0) (T.obj _ _ S);refine H_ (hg _ _ _ _ _ s5 _ H5 x u _ c1 r5 (bw x H5 y5)) λ_ s6 ⟨M,H6,I6,q6⟩=>?_;refine H_ (ht _ _ _ _ _ s6 M H6 _ I6 q6) λc2 s9 ⟨H9,I9,q9⟩=>?_
   let bl:∀ b∈fp,∀ o,s5.heap.get? b=some o->s9.heap.get? b=some o/\H9 b=none:=λb a o e=>by
    let z:=I9.pin (b,o) (Dd _ (Dd _ (Ib a e)));exact ⟨z.1,z.2.1⟩
   cases c2 with
   | false=>
     let w9:W (i+1) Y H9:=q9;let bm:=I9.pin (⇑d,{ cls:=.type "list", data:=.seq f.toArray k }) (Dd _ (List.mem_append_left _ (BU.mpr rfl)));let c3:Inv (Br X N scope xo cl G.objs.size d O fp) [] M H9 s9:=I9.pins_of λp hp=>nomatch hp
     exact ⟨n0 - (i+1),⋯,i+1,Y,f,k,H9,OH B F U c3,bm.1,hv,bm.2.1,T.keep _ _ _ S (λb a o e=>(bl b a o e).1),(λb a=>by
      let ⟨o,e,_⟩:=T.obj _ _ S b a;exact (bl b a o e).2),w9,rfl⟩
   | true=>
   replace q9:te M H9 λy H4=>W (i+1) (Y++[y]) H4:=q9;refine H_ (he _ _ _ _ _ s9 M H9 _ I9 q9) λuy s7 ⟨y,H7,I7,r7,w7⟩=>?_;let pD:=I7.pin (⇑d,{ cls:=.type "list", data:=.seq f.toArray k }) (Dd _ (List.mem_append_left _ (BU.mpr rfl)))
   let pF:∀ b∈fp,∀ o,s5.heap.get? b=some o->s7.heap.get? b=some o/\H7 b=none:=λb a o e=>by
    let z:=I7.pin (b,o) (Dd _ (Dd _ (Ib a e)));exact ⟨z.1,z.2.1⟩
   refine append_at (hsz:=hz) pD.1 λh8 bp c4=>?_;let c5:Inv (Br X N scope xo cl G.objs.size d O fp) [] M H7 s7:=I7.pins_of λp hp=>nomatch hp;let I8:Inv (Br X N scope xo cl G.objs.size d O fp) [] M H7 { s7 with heap:=h8,toks:=s7.toks }:=c5.turned (λb o a e=>bp.extBut b o a e) pD.2.1 ab (.inr (AV _)) bt (λp hp=>nomatch hp);refine ⟨n0 - (i+1),⋯,i+1,Y++[y],f++[uy],k+1,H7,OH B F U I8,?_,Paired.snoc hv r7,pD.2.1,T.keep _ _ _ S (λb a o e=>bp.extBut b o (b7 b a).symm (pF b a o e).1),λb a=>?_,w7,rfl⟩
   ·show h8.get? _=_;rw [c4,List.push_toArray]
   ·let ⟨o,e,_⟩:=T.obj _ _ S b a;exact (pF b a o e).2
 exact codeAny_compStart_list a5 (T.self X.A 0 _ _ _ (T.keep _ _ _ a7 (λb _ o e=>aj b o e)) a5)
def Bt {c a d:Expr} {f:Pos} {i:TI} {g:TG} {j:TE} (n:X.calm=true) (B:BlkOk1 X N capt scope xo cl) (p:PI X d a i)
  (r:∀ C s H fp,PG (Br X N scope xo cl C s H fp) d g) (u:∀ C s H fp,PE (Br X N scope xo cl C s H fp) c j)
  (v:∀ x,foldedSetIterable a X.env x=pure x:=by intro _;rfl):PE X (.ListComp c [⟨d,a,[],0⟩] scope f) (At i capt g j):=by
 intro pins s σ H Q I h;rw [eval_ListComp];refine wpAny_comprehension_free (use:=none) rfl v B.clos B.kind B.names (KZ (cs:=[]) (tc:=KU) (λk C=>compPost (model X.prog X.w) X.A X.xe none (EP X pins σ Q) k C) n B p r (λ_ _ _ _=>Nv) u I (show FC i capt g KU j σ H _ from h) λD C M w m y q z A E F G J=>?_);exact ⟨m,z,λO K=>⟨.ref D,w,y.turned (λb o L e=>K.extBut b o L e) A E (.inr F) G J,rfl,q⟩⟩
def OI {i:Nat} {x:Str} {c j:Pos} {f d n:Expr} {cs:cQ} {tc:TT} {k:Pos} {E:TI} {g:TG} {F:TE} (K:X.N.Nodup) (r:X.N[i]?=some x) (L:aF X.env.scope x) (M:X.calm=true) (B:BlkOk1 X N capt scope xo cl) (O:PI X n d E)
  (P:∀ C s H fp,PG (Br X N scope xo cl C s H fp) n g) (R:∀ C s H fp,bU (Br X N scope xo cl C s H fp) cs tc) (S:∀ C s H fp,PE (Br X N scope xo cl C s H fp) f F)
  (u:swapsWith (.ListComp f [⟨n,d,cs,0⟩] scope k) (some (.Name x c)) j.line X.env=pure true)
  (T:∀ x,foldedSetIterable d X.env x=pure x) (U:X.fn x=true\/X.env.scope.names.lookup x=some .local) :
  PS X (.Assign [.Name x c] (.ListComp f [⟨n,d,cs,0⟩] scope k) j) (AO (FC E capt g tc F) (AF i)):=by
 intro pins s σ H D I h;rw [exec_Assign_Name_used _ _ _ _ u];refine pI (wpAny_standAt (pI ?_));show wpAny _ X.A (do let _ <-comprehension (.ListComp f [⟨n,d,cs,0⟩] scope k) scope X.env _ (newList []) false (eval d X.env) (some (assign (.Name x c) X.env))) _ _ s
 refine pI (pK (wpAny_comprehension_free (use:=some (assign (.Name x c) X.env)) (Q:=λ_ p=>SP X pins D .next p) rfl T B.clos B.kind B.names
  (KZ (λw C=>compPost (model X.prog X.w) X.A X.xe (some (assign (.Name x c) X.env)) (λ_ p=>SP X pins D .next p) w C) M B O P R S I h λDa C s4 Hq m W q Y y G Z J h4=>?_)) (λ_ p hq=>pJ (pJ hq)) λ_ _ e=>e)
 show wpAny _ X.A (assign (.Name x c) X.env (.ref Da)) _ _ _;refine wpAny_assign_Name (Mq W K r L (v:=.ref Da) rfl (λs5 I5 ⟨a,A,ha⟩=>⟨m,Y.sameBut A ?_,λh' sb=>⟨_,_,I5.turned (λb o hb e=>sb.extBut b o hb e) y G (.inr Z) J h4,q⟩⟩) U);rcases ha with z | z
 ·rw [z];exact G
 ·exact λe=>J x a z e.symm
def Eb {i:Nat} {x:Str} {b c:Pos} {d a f:Expr} {e:Pos} {k:TI} {g:TG} {m:TE} (n:X.N.Nodup) (h:X.N[i]?=some x) (o:aF X.env.scope x) (p:X.calm=true) (B:BlkOk1 X N capt scope xo cl) (q:PI X f a k)
  (r:∀ C s H fp,PG (Br X N scope xo cl C s H fp) f g) (u:∀ C s H fp,PE (Br X N scope xo cl C s H fp) d m)
  (j:swapsWith (.ListComp d [⟨f,a,[],0⟩] scope e) (some (.Name x b)) c.line X.env=pure true:=by rfl)
  (v:∀ x,foldedSetIterable a X.env x=pure x:=by intro _;rfl) (w:X.fn x=true\/X.env.scope.names.lookup x=some .local:=by first | exact .inl rfl | exact .inr rfl | assumption) :
  PS X (.Assign [.Name x b] (.ListComp d [⟨f,a,[],0⟩] scope e) c) (AO (At k capt g m) (AF i)):=
 OI n h o p B q r (λC s H fp=>Nv) u j v w
def X9 {i:Nat} {x:Str} {b d:Pos} {e a h c:Expr} {tc:TT} {f:Pos} {m:TI} {g:TG} {n:TE} (o:X.N.Nodup) (j:X.N[i]?=some x) (p:aF X.env.scope x) (q:X.calm=true) (B:BlkOk1 X N capt scope xo cl) (r:PI X h a m)
  (u:∀ C s H fp,PG (Br X N scope xo cl C s H fp) h g) (v:∀ C s H fp,L2.PT (Br X N scope xo cl C s H fp) c tc) (w:∀ C s H fp,PE (Br X N scope xo cl C s H fp) e n)
  (k:swapsWith (.ListComp e [⟨h,a,[c],0⟩] scope f) (some (.Name x b)) d.line X.env=pure true:=by rfl)
  (y:∀ x,foldedSetIterable a X.env x=pure x:=by intro _;rfl) (z:X.fn x=true\/X.env.scope.names.lookup x=some .local:=by first | exact .inl rfl | exact .inr rfl | assumption) :
  PS X (.Assign [.Name x b] (.ListComp e [⟨h,a,[c],0⟩] scope f) d) (AO (FC m capt g tc n) (AF i)):=
 OI o j p q B r u (λC s H fp=>Nw (v C s H fp)) w k y z
def YA {d a f c:Expr} {tc:TT} {i:Pos} {k:TI} {g:TG} {n:TE} (p:X.calm=true) (B:BlkOk1 X N capt scope xo cl) (r:PI X f a k)
  (u:∀ C s H fp,PG (Br X N scope xo cl C s H fp) f g) (v:∀ C s H fp,L2.PT (Br X N scope xo cl C s H fp) c tc) (w:∀ C s H fp,PE (Br X N scope xo cl C s H fp) d n)
  (y:∀ x,foldedSetIterable a X.env x=pure x:=by intro _;rfl):PE X (.ListComp d [⟨f,a,[c],0⟩] scope i) (FC k capt g tc n):=by
 intro pins s σ H Q I h;rw [eval_ListComp];refine wpAny_comprehension_free (use:=none) rfl y B.clos B.kind B.names (KZ (λj C=>compPost (model X.prog X.w) X.A X.xe none (EP X pins σ Q) j C) p B r u (λC s H fp=>Nw (v C s H fp)) w I h λD C P z m A q E F G J K L=>?_);exact ⟨m,E,λR M=>⟨.ref D,z,A.turned (λb o O e=>M.extBut b o O e) F G (.inr J) K L,rfl,q⟩⟩
end
end Bs
namespace Bs
def Bd.one:Bd 1 1:=by unfold Bd;decide
noncomputable abbrev Nu:=Int×Int
abbrev cF:=List Nu
abbrev cE:=(cF)
noncomputable def L_ (n m:Int):Nu:=(n / ((Int.gcd n m:Nat):Int),m / ((Int.gcd n m:Nat):Int))
noncomputable def I_ (q r:Nu):Nu:=L_ (q.1*r.2+r.1*q.2) (q.2*r.2)
noncomputable def W' (q r:Nu):Nu:=L_ (q.1*r.2 - r.1*q.2) (q.2*r.2)
noncomputable def C' (q r:Nu):Nu:=L_ (q.1*r.1) (q.2*r.2)
def Wo (q:Nu) (n m:Int):Prop:=q.1*m=n*q.2
def Dj {n m:Int} (b:0<m):Low (L_ n m).1 (L_ n m).2:=(KJ (a:=n) b).1
def Fa {n m:Int} (c:0<m):Wo (L_ n m) n m:=by
 let h:=(Ii (a:=n) (b:=m) (s:=((Int.gcd n m:Nat):Int)) ⋯ (by rw [qZ ⋯])).2.2.2.1;rw [Ei _ ⋯,Ei _ ⋯] at h;exact h
def Ka {a b d:Int} (h:Low a b) (e:b∣a*d):b∣d:=by
 let c:Nat.Coprime b.natAbs a.natAbs:=by
  have:Nat.Coprime a.natAbs b.natAbs:=h.one;exact this.symm
 let z:=ER.mpr e;rw [CV] at z;exact ER.mp (c.dvd_of_dvd_mul_left z)
def OJ {a b c d:Int} (f:Low a b) (g:Low c d) (h:a*d=c*b):a=c/\b=d:=by
 let i:b∣d:=Ka f ⟨c,by rw [h,Ci]⟩;let j:d∣b:=Ka g ⟨a,by rw [<-h,Ci]⟩;let e:b=d:=Int.dvd_antisymm (Dr f.pos) (Dr g.pos) i j;subst e;exact ⟨Int.eq_of_mul_eq_mul_right (Ah f.pos) h,rfl⟩
def Kb {q r:Nu} {n m:Int} (c:Low q.1 q.2) (d:Low r.1 r.2) (f:m≠0) (g:Wo q n m) (h:Wo r n m):q=r:=by
 unfold Wo at g h
 let e:q.1*r.2=r.1*q.2:=by
  let z:m*(q.1*r.2)=m*(r.1*q.2):=by ext
  exact Ft f z
 let ⟨a,b⟩:=OJ c d e;exact Prod.ext a b
def YB {q:Nu} {n m:Int} (c:Low q.1 q.2) (b:0<m) (w:Wo q n m):q.1.natAbs<=n.natAbs/\q.2.natAbs<=m.natAbs:=by
 let e:q=L_ n m:=Kb c (Dj b) (Ah b) w (Fa b);subst e;exact ⟨(KJ (a:=n) b).2.1,(KJ (a:=n) b).2.2.1⟩
def Kc {q r:Nu} (a:0<q.2) (b:0<r.2):Low (I_ q r).1 (I_ q r).2:=Dj (Bh a b)
def YC {q r:Nu} (a:0<q.2) (b:0<r.2):Low (W' q r).1 (W' q r).2:=Dj (Bh a b)
def Hf {q r:Nu} (a:0<q.2) (b:0<r.2):Low (C' q r).1 (C' q r).2:=Dj (Bh a b)
def YD {q r:Nu} {n k m:Int} (a:0<q.2) (b:0<r.2) (c:Wo q n m) (d:Wo r k m):Wo (I_ q r) (n+k) m:=by
 let w:=Fa (n:=q.1*r.2+r.1*q.2) (Bh a b);unfold Wo at *;unfold I_;let z:(q.2*r.2)*((L_ (q.1*r.2+r.1*q.2) (q.2*r.2)).1*m)=(q.2*r.2)*((n+k)*(L_ (q.1*r.2+r.1*q.2) (q.2*r.2)).2):=by ext
 exact Ft (Ah (Bh a b)) z
def YE {q r:Nu} {n k m l:Int} (a:0<q.2) (b:0<r.2) (c:Wo q n m) (d:Wo r k l):Wo (C' q r) (n*k) (m*l):=by
 let w:=Fa (n:=q.1*r.1) (Bh a b);unfold Wo at *;unfold C';let z:(q.2*r.2)*((L_ (q.1*r.1) (q.2*r.2)).1*(m*l))=(q.2*r.2)*((n*k)*(L_ (q.1*r.1) (q.2*r.2)).2):=by ext
 exact Ft (Ah (Bh a b)) z
def Kd {m:Int} (a:0<m):L_ 0 m=(0,1):=Kb (Dj a) ⟨∅,∅⟩ (Ah a) (Fa a) (by unfold Wo;omega)
noncomputable def Bu (l:cF):Nat->Nat
 | 0=>0
 | m+1=>if (l.getD m (1,1)).1=0 then Bu l m else m+1
noncomputable def trim (l:cF):cF:=l.take (Bu l ↑l)
theorem Ke (l:cF):∀ m,Bu l m<=m
 | 0=>AV 0
 | m+1=>by
   unfold Bu;split
   ·exact Nat.le_succ_of_le (Ke l m)
   ·exact AV _
theorem OK (l:cF):∀ m,Bu l m=0\/(l.getD (Bu l m - 1) (1,1)).1≠0
 | 0=>.inl rfl
 | m+1=>by
   unfold Bu;split
   ·exact OK l m
   ·rename_i h;exact .inr h
def Nz (l:cF):Prop:=∀ q,l.getLast?=some q->q.1≠0
def YF {l:cF} (h:Nz l):trim l=l:=by
 unfold trim
 let e:Bu l ↑l=↑l:=by
  cases b:↑l with
  | zero=>rfl
  | succ m=>
    unfold Bu;let a:m<↑l:=by omega
    let z:(l.getD m (1,1)).1≠0:=by
     let q:=h l[m] (by rw [Fu,b];simp [a]);rw [AJ,AT a];exact q
    rw [qZ z]
 rw [e,B4]
def Dy (l:cF):Nz (trim l):=by
 intro q a;unfold trim at a;let b:=Ke l ↑l;rw [Fu,BC,Nat.min_eq_left b] at a;rcases OK l ↑l with z | z
 ·rw [z] at a;simp at a
 ·by_cases c:Bu l ↑l=0
  ·rw [c] at a;simp at a
  ·rw [List.getElem?_take_of_lt ⋯] at a;rw [AJ,a] at z;exact z
def EJ {l:cF} {q:Nu} (h:q∈trim l):q∈l:=Ek h
def Fb (l:cF):(trim l).length<=↑l:=by
 unfold trim;rw [BC];omega
def Am (l:cF):Prop:=∀ q∈l,Low q.1 q.2
def YG (n:Nat) (l:cF):Prop:=∀ q∈l,Bd n q.1/\Bd n q.2
noncomputable def AG (l:cF) (i:Nat):Nu:=l.getD i (0,1)
noncomputable def FD (f:Nu->Nu->Nu) (l m:cF):cF:=(List.range (max ↑l ↑m)).map λi=>f (AG l i) (AG m i)
def Kf:Low 0 1:=⟨∅,∅⟩
theorem CJ {l:cF} (h:Am l) (i:Nat):Low (AG l i).1 (AG l i).2:=by
 unfold AG;rw [AJ];cases e:l[i]? with
 | none=>exact Kf
 | some q=>exact h q (A5 e)
noncomputable def Ag (l:cF):Int:=l.foldl (λB q=>B*(q.2 / ((Int.gcd B q.2:Nat):Int))) 1
noncomputable def AY (l:cF):cL:=l.map λq=>q.1*(Ag l / q.2)
def Kg {B d:Int} (b:0<B) (c:0<d):0<B*(d / ((Int.gcd B d:Nat):Int))/\B∣B*(d / ((Int.gcd B d:Nat):Int))/\d∣B*(d / ((Int.gcd B d:Nat):Int))/\(d / ((Int.gcd B d:Nat):Int)).natAbs<=d.natAbs/\0<((Int.gcd B d:Nat):Int)/\((Int.gcd B d:Nat):Int)<=d:=by
 let f:0<Int.gcd B d:=Int.gcd_pos_of_ne_zero_right B ⋯;let ⟨k,hk⟩:((Int.gcd B d:Nat):Int)∣d:=EA B d;let ⟨m,g⟩:((Int.gcd B d:Nat):Int)∣B:=FP B d;let a:(0:Int)<((Int.gcd B d:Nat):Int):=by omega
 let e:d / ((Int.gcd B d:Nat):Int)=k:=by
  let z:d / ((Int.gcd B d:Nat):Int)=(((Int.gcd B d:Nat):Int)*k) / ((Int.gcd B d:Nat):Int):=by rw [<-hk]
  rw [z,Ey _ (Ah a)]
 let kp:0<k:=by
  rcases Int.lt_or_le 0 k with h | h
  ·exact h
  ·exfalso;have:=Ez (Dr a) (show 0<=-k by omega);rw [Int.mul_neg] at this;omega
 let i:((Int.gcd B d:Nat):Int)<=d:=Int.le_of_dvd c (EA B d);refine ⟨by rw [e];exact Bh b kp,Int.dvd_mul_right ..,?_,?_,a,i⟩
 ·rw [e];refine ⟨m,?_⟩;let z:d*m=((Int.gcd B d:Nat):Int)*k*m:=by rw [<-hk]
  let j:B*k=((Int.gcd B d:Nat):Int)*m*k:=by rw [<-g]
  rw [z,j];ext
 ·rw [e]
  let z:d.natAbs=(Int.gcd B d)*k.natAbs:=by
   have:d.natAbs=(((Int.gcd B d:Nat):Int)*k).natAbs:=by rw [<-hk]
   rw [this,CV];simp
  rw [z];exact Nat.le_mul_of_pos_left _ f
theorem ON {b:Nat}:∀ (l:cF) (B:Int) (c:Nat),(∀ q∈l,0<q.2/\Bd b q.2)->0<B->Bd c B->
  0<l.foldl (λB q=>B*(q.2 / ((Int.gcd B q.2:Nat):Int))) B/\B∣l.foldl (λB q=>B*(q.2 / ((Int.gcd B q.2:Nat):Int))) B/\(∀ q∈l,q.2∣l.foldl (λB q=>B*(q.2 / ((Int.gcd B q.2:Nat):Int))) B)/\Bd (c+b*↑l) (l.foldl (λB q=>B*(q.2 / ((Int.gcd B q.2:Nat):Int))) B)
 | [],B,c,_,d,e=>⟨d,Int.dvd_refl B,(λ_ h=>nomatch h),by simpa using e⟩
 | q::l,B,c,h,d,e=>by
   let ⟨g,i⟩:=h q (D6 ..);let ⟨j,k,m,n,_,_⟩:=Kg d g;let ⟨o,f,p,u⟩:=ON l (B*(q.2 / ((Int.gcd B q.2:Nat):Int))) (c+b) (λr a=>h r (Dn _ a)) j (e.mul (i.le n));rw [List.foldl_cons];refine ⟨o,DX k f,λr a=>?_,u.mono (by rw [List.length_cons,Nat.mul_add,Nat.mul_one];omega)⟩;rcases DV.mp a with rfl | a
   ·exact DX m f
   ·exact p r a
def YH {b:Nat} {l:cF} (c:Am l) (d:YG b l):0<Ag l/\(∀ q∈l,q.2∣Ag l)/\Bd (1+b*↑l) (Ag l):=by
 let ⟨e,_,f,g⟩:=ON (b:=b) l 1 1 (λq a=>⟨(c q a).pos,(d q a).2⟩) ∅ Bd.one;exact ⟨e,f,g⟩
def OO {B d:Int} (a:0<B) (b:0<d):(B / d).natAbs<=B.natAbs:=by
 let c:0<=B / d:=Int.ediv_nonneg (Dr a) (Dr b);let e:B / d<=B:=Int.ediv_le_self d (Dr a);omega
def YI {q:Nu} {B:Int} (a:q.2∣B):Wo q (q.1*(B / q.2)) B:=by
 unfold Wo;rw [Co,Int.ediv_mul_cancel a]
noncomputable def ps (ns ms:cL):Nat->cY
 | 0,_=>0
 | i+1,k=>ps ns ms i k+(if i<=k/\k - i<↑ms then ns.getD i 0*ms.getD (k - i) 0 else 0)
noncomputable def V' (ns ms:cL) (i j k:Nat):Int:=ps ns ms i k+(if i<=k/\k - i<j then ns.getD i 0*ms.getD (k - i) 0 else 0)
def Kh (ns ms:cL) (i k:Nat):V' ns ms i 0 k=ps ns ms i k:=by
 unfold V';rw [qZ ⋯];omega
def Gn (ns ms:cL) (i j k:Nat):V' ns ms i (j+1) k=if k=i+j then V' ns ms i j k+ns.getD i 0*ms.getD j 0 else V' ns ms i j k:=by
 unfold V';by_cases h:k=i+j
 ·subst h;rw [pB rfl,pB ⟨⋯,⋯⟩,qZ ⋯,show i+j - i=j by omega];omega
 ·rw [qZ h];congr 1;by_cases a:i<=k/\k - i<j
  ·rw [pB a,pB ⟨a.1,⋯⟩]
  ·rw [qZ a,qZ ⋯]
theorem Dz {c:Nat} {ns:cL} (h:∀ z∈ns,Bd c z) (i:Nat):Bd c (ns.getD i 0):=by
 rw [AJ];cases e:ns[i]? with
 | none=>exact Nat.pow_pos ∅
 | some z=>exact h z (A5 e)
def EK (c:Nat):Bd c 0:=Nat.pow_pos ∅
theorem Hg {c d:Nat} {ns ms:cL} (a:∀ z∈ns,Bd c z) (b:∀ z∈ms,Bd d z):∀ i k,Bd (c+d+i) (ps ns ms i k)
 | 0,_=>EK _
 | i+1,k=>by
   unfold ps;refine (Hg a b i k).add ?_;split
   ·exact ((Dz a i).mul (Dz b (k - i))).mono ⋯
   ·exact EK _
def YJ {c d:Nat} {ns ms:cL} (a:∀ z∈ns,Bd c z) (b:∀ z∈ms,Bd d z) (i j k:Nat):Bd (c+d+i+1) (V' ns ms i j k):=by
 unfold V';refine (Hg a b i k).add ?_;split
 ·exact ((Dz a i).mul (Dz b (k - i))).mono ⋯
 ·exact EK _
theorem Go {ns ms:cL}:∀ i k,i+↑ms<=k+1->ps ns ms i k=0
 | 0,_,_=>rfl
 | i+1,k,h=>by
   unfold ps;rw [Go i k ⋯,qZ ⋯];rfl
noncomputable def Fc (l m:cF) (n:Nat):cF:=(List.range n).map λk=>L_ (ps (AY l) (AY m) ↑l k) (Ag l*Ag m)
theorem OP {l m:cF}:∀ {n:Nat},(∀ i,i<n->l.getD i (1,1)=m.getD i (1,1))->Bu l n=Bu m n
 | 0,_=>rfl
 | n+1,h=>by
   unfold Bu;rw [h n (Ch n),OP λi a=>h i (Nat.lt_succ_of_lt a)]
def OQ (l:cF):trim (l++[(0,1)])=trim l:=by
 unfold trim;rw [B3,D9]
 let e:Bu (l++[(0,1)]) (↑l+1)=Bu l ↑l:=by
  rw [show Bu (l++[(0,1)]) (↑l+1)=if ((l++[((0,1):Nu)]).getD ↑l (1,1)).1=0 then Bu (l++[(0,1)]) ↑l else ↑l+1 from rfl];rw [pB (by simp [AJ])];exact OP λi a=>by rw [AJ,AJ,D8 a]
 rw [e,List.take_append_of_le_length (Ke l ↑l)]
def OS (l m:cF) (n:Nat):Fc l m (n+1)=Fc l m n++[L_ (ps (AY l) (AY m) ↑l n) (Ag l*Ag m)]:=by
 unfold Fc;rw [Ex,CP];rfl
theorem Ki (l m:cF) (a:0<Ag l*Ag m):∀ n,(∀ k,k<n->ps (AY l) (AY m) ↑l k=0)->trim (Fc l m n)=[]
 | 0,_=>rfl
 | n+1,h=>by
   rw [OS,h n (Ch n),Kd a,OQ];exact Ki l m a n λk hk=>h k (Nat.lt_succ_of_lt hk)
theorem Kj {ns ms:cL} (h:↑ms=0):∀ i k,ps ns ms i k=0
 | 0,_=>rfl
 | i+1,k=>by unfold ps;rw [Kj h i k,qZ ⋯];rfl
def YK {l m:cF} (a:0<Ag l*Ag m) (b:(AY m).length=↑m) :
  trim (Fc l m (↑l+↑m))=trim (List.map (λn=>L_ n (Ag l*Ag m)) (if ↑l=0\/↑m=0 then [] else List.map (λk=>ps (AY l) (AY m) ↑l k) (List.range (↑l+↑m - 1)))):=by
 by_cases c:↑l=0
 ·rw [pB (.inl c)];refine Ki l m a _ λk _=>?_;rw [c];rfl
 ·by_cases d:↑m=0
  ·rw [pB (.inr d)];exact Ki l m a _ λk _=>Kj (by rw [b];exact d) _ _
  ·rw [qZ ⋯];let ⟨n,e⟩:∃ n,↑l+↑m=n+1:=⟨↑l+↑m - 1,⋯⟩;rw [e,OS,Go ↑l n (by rw [b];omega),Kd a,OQ,Nat.add_sub_cancel,List.map_map];rfl
noncomputable def val (q:Nu):Rat:=(q.1:Rat) / (q.2:Rat)
def P' (x:Rat):0 / x=0:=by rw [Rat.div_def,Rat.zero_mul]
def A4 {z:Int} (h:z≠0):(z:Rat)≠0:=by exact_mod_cast h
def JC {q:Nu} {n m:Int} (a:q.2≠0) (b:m≠0) (w:Wo q n m):val q=(n:Rat) / (m:Rat):=by
 let c:=A4 a;let d:=A4 b;let e:(q.1:Rat)*m=n*q.2:=by unfold Wo at w;exact_mod_cast w
 unfold val;ext
def Hh {q r:Nu} (c:Low q.1 q.2) (d:Low r.1 r.2) (h:val q=val r):q=r:=by
 let a:=A4 (Ah c.pos);let b:=A4 (Ah d.pos);unfold val at h;let z:(q.1:Rat)*r.2=r.1*q.2:=by ext
 let e:q.1*r.2=r.1*q.2:=by exact_mod_cast z
 let ⟨x,y⟩:=OJ c d e;exact Prod.ext x y
def Hi {n m:Int} (a:0<m):val (L_ n m)=(n:Rat) / (m:Rat):=JC (Ah (Dj a).pos) (Ah a) (Fa a)
def JD {q r:Nu} (c:0<q.2) (d:0<r.2):val (I_ q r)=val q+val r:=by
 unfold I_;rw [Hi (Bh c d)];let a:=A4 (Ah c);let b:=A4 (Ah d);unfold val;push_cast;ext
def Kk {q r:Nu} (c:0<q.2) (d:0<r.2):val (C' q r)=val q*val r:=by
 unfold C';rw [Hi (Bh c d)];let a:=A4 (Ah c);let b:=A4 (Ah d);unfold val;push_cast;ext
noncomputable def Ae (n m:Int):Nu:=if m<0 then L_ (-n) (-m) else L_ n m
def FE {n m:Int} (a:m≠0):Low (Ae n m).1 (Ae n m).2:=by
 unfold Ae;split
 ·exact Dj ⋯
 ·exact Dj ⋯
def Fd {n m:Int} (a:m≠0):val (Ae n m)=(n:Rat) / (m:Rat):=by
 unfold Ae;split
 ·rw [Hi ⋯];have:=A4 a;push_cast;ext
 ·exact Hi ⋯
def YL {n m N:Int} (b:m≠0) (h:m∣N):(Ae n m).2∣N:=by
 let a:∀ {n m:Int},0<m->(L_ n m).2∣m:=λ{n m} c=>by
  unfold L_;exact Int.ediv_dvd_of_dvd (EA n m)
 unfold Ae;split
 ·exact DX (a ⋯) (DX (Int.neg_dvd.mpr (Int.dvd_refl m)) h)
 ·exact DX (a ⋯) h
def JE {c d:Nat} {n m:Int} (g:m≠0) (b:Bd c n) (e:Bd d m):Bd c (Ae n m).1/\Bd d (Ae n m).2:=by
 let a:∀ {n m:Int},0<m->Bd c n->Bd d m->Bd c (L_ n m).1/\Bd d (L_ n m).2:=λ{n m} f b e=>by
  let w:=YB (Dj f) f (Fa (n:=n) f);exact ⟨b.le w.1,e.le w.2⟩
 unfold Ae;split
 ·exact a ⋯ b.neg e.neg
 ·exact a ⋯ b e
noncomputable def C_ (l:cF) (k:Nat):Rat:=val (AG l k)
def YM {q:Nu} (h:Low q.1 q.2) (z:q.1=0):q=(0,1):=Hh h Kf (by unfold val;rw [z];show ((0:Int):Rat) / _=((0:Int):Rat) / _;rw [show ((0:Int):Rat)=0 from rfl,P',P'])
def YN {l:cF} (n:Am l) (k:Nat):AG (trim l) k=AG l k:=by
 let g:∀ (m:Nat),m<=↑l->(∀ j,m<=j->j<↑l->(AG l j).1=0)->∀ j,Bu l m<=j->j<↑l->(AG l j).1=0:=by
  intro m
  induction m with
  | zero=>intro _ h j i c;exact h j ⋯ c
  | succ m o=>
    intro p h j d f;rw [show Bu l (m+1)=if (l.getD m (1,1)).1=0 then Bu l m else m+1 from rfl] at d;split at d
    ·rename_i z;refine o ⋯ (λj i c=>?_) j d f;by_cases e:j=m
     ·subst e;unfold AG;rw [AJ,AT c] at z ⊢;exact z
     ·exact h j ⋯ c
    ·exact h j d f
 unfold trim;by_cases d:k<Bu l ↑l
 ·unfold AG;rw [AJ,AJ,List.getElem?_take_of_lt d]
 ·let e:AG (l.take (Bu l ↑l)) k=(0,1):=by
   unfold AG;rw [AJ,BH (by rw [BC];omega)];rfl
  rw [e];by_cases f:k<↑l
  ·exact (YM (CJ n k) (g ↑l (AV _) (λj a b=>absurd b ⋯) k ⋯ f)).symm
  ·unfold AG;rw [AJ,BH ⋯];rfl
def Eo {l:cF} (a:Am l) (k:Nat):C_ (trim l) k=C_ l k:=by unfold C_;rw [YN a]
def Kl {l:cF} {k:Nat} (h:↑l<=k):AG l k=(0,1):=by
 unfold AG;rw [AJ,BH h];rfl
def Db {l:cF} {k:Nat} (h:↑l<=k):C_ l k=0:=by
 unfold C_;rw [Kl h];exact P' _
def OT {a b:cF} (f:Nz b) (h:∀ k,AG a k=AG b k):↑b<=↑a:=by
 rcases EB ↑a ↑b with g | c
 ·exfalso;let d:↑b - 1<↑b:=by omega
  let q:=f b[↑b - 1] (by rw [Fu];exact AT d);let e:=h (↑b - 1);rw [Kl ⋯] at e;unfold AG at e;rw [AJ,AT d] at e;let i:((0,1):Nu)=b[↑b - 1]:=e;rw [<-i] at q;exact q rfl
 ·exact c
def YO {a b:cF} (c:Am a) (d:Am b) (f:Nz a) (j:Nz b) (h:∀ k,C_ a k=C_ b k):a=b:=by
 let g:∀ k,AG a k=AG b k:=λk=>Hh (CJ c k) (CJ d k) (h k);let e:↑a=↑b:=EQ (OT f λk=>(g k).symm) (OT j g);refine List.ext_getElem e λi m n=>?_;let z:=g i;unfold AG at z;rw [AJ,AJ,AT m,AT n] at z;exact z
noncomputable def cv (f g:cZ):Nat->cZ
 | 0,_=>0
 | n+1,k=>cv f g n k+(if n<=k then f n*g (k - n) else 0)
theorem OU {f f' g:cZ} {s:Nat} {x:Rat} (a:f s=0) (b:f' s=x) (c:∀ i,i≠s->f' i=f i):∀ n k,cv f' g n k=cv f g n k+(if s<n/\s<=k then x*g (k - s) else 0)
 | 0,k=>by unfold cv;rw [qZ ⋯];exact (Rat.add_zero 0).symm
 | n+1,k=>by
   unfold cv;rw [OU a b c n k];by_cases e:n=s
   ·subst e;rw [a,b];by_cases hk:n<=k
    ·rw [pB hk,pB hk,qZ ⋯,pB ⟨⋯,hk⟩];ext
    ·rw [qZ hk,qZ hk,qZ ⋯,qZ ⋯]
   ·rw [c n e];let d:(s<n+1/\s<=k)↔(s<n/\s<=k):=by omega
    simp only [d];ext
theorem OV {f g:cZ}:∀ n k,(∀ i,i<n->f i=0)->cv f g n k=0
 | 0,_,_=>rfl
 | n+1,k,h=>by
   unfold cv;rw [OV n k λi a=>h i ⋯,h n ⋯];split <;> ext
theorem OX {f g:cZ} {n:Nat} (h:∀ i,n<=i->f i=0):∀ d k,cv f g (n+d) k=cv f g n k
 | 0,_=>rfl
 | d+1,k=>by
   show cv f g (n+d) k+(if n+d<=k then f (n+d)*g (k - (n+d)) else 0)=_;rw [OX h d k,h (n+d) ⋯];split <;> ext
theorem OY {f f' g:cZ} (h:∀ i,f i=f' i):∀ n k,cv f g n k=cv f' g n k
 | 0,_=>rfl
 | n+1,k=>by unfold cv;rw [OY h n k,h n]
noncomputable def F_ (l:cF) (M:Int):cL:=l.map λq=>q.1*(M / q.2)
def Ov (l:cF) (M:Int):Prop:=0<M/\∀ q∈l,q.2∣M
theorem OZ {l:cF} {M:Int} (i:Nat):(F_ l M).getD i 0=(AG l i).1*(M / (AG l i).2):=by
 unfold F_ AG;rw [AJ,AJ,Ac];cases l[i]? with
 | none=>simp
 | some q=>rfl
theorem Ov.get {l:cF} {M:Int} (h:Ov l M) (i:Nat):(AG l i).2∣M:=by
 unfold AG;rw [AJ];cases e:l[i]? with
 | none=>exact Int.one_dvd M
 | some q=>exact h.2 q (A5 e)
def Km {l:cF} {M:Int} (h:Ov l M) (i:Nat):Wo (AG l i) ((F_ l M).getD i 0) M:=by
 rw [OZ];exact YI (h.get i)
def Ec {l:cF} {M:Int} (a:Am l) (h:Ov l M) (i:Nat):C_ l i=((F_ l M).getD i 0:Rat) / (M:Rat):=JC (Ah (CJ a i).pos) (Ah h.1) (Km h i)
noncomputable def FF (l m:cF) (a b:Int) (n:Nat):cF:=(List.range n).map λk=>L_ (ps (F_ l a) (F_ m b) ↑l k) (a*b)
theorem Hj {l m:cF} {d c:Int} (g:Am l) (h:Am m) (e:Ov l d) (f:Ov m c):∀ n k,(ps (F_ l d) (F_ m c) n k:Rat) / ((d*c:Int):Rat)=cv (C_ l) (C_ m) n k
 | 0,k=>P' _
 | n+1,k=>by
   let a:=A4 (Ah e.1);let b:=A4 (Ah f.1);let i:=Hj g h e f n k;unfold ps cv;rw [<-i];by_cases hk:n<=k
   ·rw [pB hk,Ec g e,Ec h f];by_cases j:k - n<(F_ m c).length
    ·rw [pB ⟨hk,j⟩];push_cast;ext
    ·rw [qZ ⋯,show (F_ m c).getD (k - n) 0=0 by rw [AJ,BH ⋯];rfl];push_cast;ext
   ·rw [qZ hk,qZ ⋯];push_cast;ext
def Kn {l m:cF} {a b:Int} {n:Nat} (c:Ov l a) (d:Ov m b):Am (FF l m a b n):=by
 intro q e;let ⟨k,_,rfl⟩:=Ao.mp e;exact Dj (Bh c.1 d.1)
def Ko {l m:cF} {a b:Int} (f:Am l) (g:Am m) (c:Ov l a) (d:Ov m b) (k:Nat):C_ (FF l m a b (↑l+↑m)) k=cv (C_ l) (C_ m) ↑l k:=by
 rw [<-Hj f g c d];let i:=Bh c.1 d.1;by_cases h:k<↑l+↑m
 ·let e:AG (FF l m a b (↑l+↑m)) k=L_ (ps (F_ l a) (F_ m b) ↑l k) (a*b):=by
   unfold FF AG;rw [AJ,Ac,Cp h];rfl
  unfold C_;rw [e,Hi i]
 ·rw [Db (by unfold FF;rw [AI,Au];omega),Go ↑l k (by unfold F_;rw [AI];omega)];exact (P' _).symm
def lcm_dvd {B d M:Int} (c:0<B) (f:0<d) (a:B∣M) (b:d∣M):B*(d / ((Int.gcd B d:Nat):Int))∣M:=by
 let z:((Nat.lcm B.natAbs d.natAbs:Nat):Int)∣M:=ER.mp (by rw [Ds];exact Nat.lcm_dvd (ER.mpr a) (ER.mpr b))
 let e:((Nat.lcm B.natAbs d.natAbs:Nat):Int)=B*(d / ((Int.gcd B d:Nat):Int)):=by
  unfold Nat.lcm;rw [Nat.mul_div_assoc _ (Nat.gcd_dvd_right _ _)];push_cast;rw [show ((B.natAbs:Nat):Int)=B by omega,show ((d.natAbs:Nat):Int)=d by omega];rfl
 rw [<-e];exact z
theorem Kq {M:Int}:∀ (l:cF) (B:Int),(∀ q∈l,0<q.2/\q.2∣M)->0<B->B∣M->0<l.foldl (λB q=>B*(q.2 / ((Int.gcd B q.2:Nat):Int))) B/\l.foldl (λB q=>B*(q.2 / ((Int.gcd B q.2:Nat):Int))) B∣M
 | [],B,_,a,h=>⟨a,h⟩
 | q::l,B,b,a,h=>by
   let ⟨c,d⟩:=b q (D6 ..);let ⟨e,_⟩:=Kg a c;exact Kq l _ (λr f=>b r (Dn _ f)) e (lcm_dvd a c h d)
def DR {n:Nat} {a b:Int} (d:b≠0) (h:a∣b) (c:Bd n b):Bd n a:=c.le (Nat.le_of_dvd ⋯ (ER.mpr h))
def DF {l:cF} (e:Am l):Ov l (Ag l):=by
 let ⟨a,b,_⟩:=YH (b:=(l.foldl (λn q=>n+q.1.natAbs+q.2.natAbs) 1)) e (λq c=>by
  let d:∀ (l:cF) (n:Nat),n<=l.foldl (λn q=>n+q.1.natAbs+q.2.natAbs) n/\∀ q∈l,q.1.natAbs+q.2.natAbs<=l.foldl (λn q=>n+q.1.natAbs+q.2.natAbs) n:=by
   intro l
   induction l with
   | nil=>intro n;exact ⟨AV _,λ_ h=>nomatch h⟩
   | cons r l f=>
     intro n;let ⟨i,g⟩:=f (n+r.1.natAbs+r.2.natAbs);rw [List.foldl_cons];refine ⟨⋯,λq c=>?_⟩;rcases DV.mp c with rfl | c
     ·omega
     ·exact g q c
  let z:=(d l 1).2 q c;exact ⟨Eh ⋯ (Nat.lt_two_pow_self),Eh ⋯ (Nat.lt_two_pow_self)⟩)
 exact ⟨a,b⟩
def Kr {l:cF} {M:Int} (b:Am l) (h:Ov l M):Ag l∣M:=(Kq l 1 (λq a=>⟨(b q a).pos,h.2 q a⟩) ∅ (Int.one_dvd M)).2
def JF (l:cF):AY l=F_ l (Ag l):=rfl
section
variable {α:Type} [Lean.Grind.CommRing α]
noncomputable def cvL:List α->(Nat->α)->Nat->α
 | [],_,_=>0
 | x::a,b,k=>x*b k+(match k with | 0=>0 | k+1=>cvL a b k)
def CK (b:Nat->α) (k:Nat):cvL [] b k=0:=rfl
def Bk (x:α) (a:List α) (b:Nat->α):cvL (x::a) b 0=x*b 0+0:=rfl
def Bf (x:α) (a:List α) (b:Nat->α) (k:Nat):cvL (x::a) b (k+1)=x*b (k+1)+cvL a b k:=rfl
theorem Gp {b c:Nat->α} (h:∀ k,b k=c k):∀ (a:List α) (k:Nat),cvL a b k=cvL a c k
 | [],_=>rfl
 | x::a,0=>by rw [Bk,Bk,h 0]
 | x::a,k+1=>by rw [Bf,Bf,h (k+1),Gp h a k]
theorem Ks (b c:Nat->α):∀ (a:List α) (k:Nat),cvL a (λk=>b k+c k) k=cvL a b k+cvL a c k
 | [],_=>by rw [CK,CK,CK];ext
 | x::a,0=>by rw [Bk,Bk,Bk];ext
 | x::a,k+1=>by rw [Bf,Bf,Bf,Ks b c a k];ext
theorem JG (s:α) (b:Nat->α):∀ (a:List α) (k:Nat),cvL a (λk=>s*b k) k=s*cvL a b k
 | [],_=>by rw [CK,CK];ext
 | x::a,0=>by rw [Bk,Bk];ext
 | x::a,k+1=>by rw [Bf,Bf,JG s b a k];ext
noncomputable def FG (b:Nat->α):Nat->α
 | 0=>0
 | k+1=>b k
theorem Kt (b:Nat->α):∀ (a:List α) (k:Nat),cvL a (FG b) k=FG (cvL a b) k
 | [],0=>rfl
 | [],k+1=>rfl
 | x::a,0=>by rw [Bk];show x*0+0=0;ext
 | x::a,1=>by
   rw [Bf];let h:=Kt b a 0;rw [h];show x*b 0+0=cvL (x::a) b 0;rw [Bk]
 | x::a,k+2=>by
   rw [Bf,Kt b a (k+1)];show x*b (k+1)+cvL a b k=cvL (x::a) b (k+1);rw [Bf]
theorem Hk (x:α) (a:List α) (b:Nat->α) (k:Nat):cvL (x::a) b k=x*b k+FG (cvL a b) k:=by
 cases k with
 | zero=>exact Bk x a b
 | succ k=>exact Bf x a b k
theorem Ku (c:Nat->α):∀ (a b:List α) (k:Nat),cvL a (cvL b c) k=cvL b (cvL a c) k
 | [],b,k=>by
   rw [CK];let e:cvL b (cvL [] c) k=cvL b (λk=>0*c k) k:=Gp (λk=>by rw [CK];ext) b k;rw [e,JG];ext
 | x::a,b,k=>by
   rw [Hk];let e:cvL b (cvL (x::a) c) k=cvL b (λk=>x*c k+FG (cvL a c) k) k:=Gp (λk=>Hk x a c k) b k;rw [e,Ks,JG,Kt]
   let d:FG (cvL a (cvL b c)) k=FG (cvL b (cvL a c)) k:=by
    cases k with
    | zero=>rfl
    | succ k=>exact Ku c a b k
   rw [d]
noncomputable def BQ:Nat->α
 | 0=>1
 | _+1=>0
theorem Ep:∀ (a:List α) (k:Nat),cvL a BQ k=a.getD k 0
 | [],k=>by rw [CK];simp
 | x::a,0=>by rw [Bk];show x*1+0=x;ext
 | x::a,k+1=>by
   rw [Bf,Ep a k];show x*0+a.getD k 0=(x::a).getD (k+1) 0;rw [List.getD_cons_succ];ext
end
def YQ {n k:Nat}:k∣2 ^ n↔∃ a,a<=n/\k=2 ^ a:=by
 constructor
 ·induction n generalizing k with
  | zero=>intro h;exact ⟨0,AV 0,by simpa using h⟩
  | succ n d=>
    intro h;by_cases f:2∣k
    ·let ⟨j,rfl⟩:=f;rw [Bx,Df (2 ^ n) 2] at h;let ⟨a,b,e⟩:=d (Nat.dvd_of_mul_dvd_mul_left ∅ h);exact ⟨a+1,⋯,by rw [e,Bx,Df]⟩
    ·let c:Nat.Coprime k 2:=by
      have:Nat.gcd k 2∣2:=Nat.gcd_dvd_right k 2;let g:=Nat.le_of_dvd ∅ this;let i:Nat.gcd k 2≠2:=λz=>f (by rw [<-z];exact Nat.gcd_dvd_left k 2);let m:Nat.gcd k 2≠0:=λz=>by have:=Nat.eq_zero_of_gcd_eq_zero_right z;omega
      show Nat.gcd k 2=1;omega
     rw [Bx] at h;let ⟨a,b,e⟩:=d (c.dvd_of_dvd_mul_right h);exact ⟨a,⋯,e⟩
 ·rintro ⟨a,b,rfl⟩;exact Nat.pow_dvd_pow 2 b
structure Pr (p:Nat):Prop where
 two:2<=p
 div:∀ d,d∣p->d=1\/d=p
def Pr.cop {p:Nat} (h:Pr p) {a:Nat} (b:¬ p∣a):Nat.gcd a p=1:=by
 rcases h.div _ (Nat.gcd_dvd_right a p) with e | e
 ·exact e
 ·exact absurd (e ▸ Nat.gcd_dvd_left a p) b
def Pr.mul {p:Nat} (h:Pr p) {a b:Nat} (d:p∣a*b):p∣a\/p∣b:=by
 by_cases c:p∣a
 ·exact .inl c
 ·refine .inr (Nat.Coprime.dvd_of_dvd_mul_left (k:=p) (m:=a) ?_ d);have:=h.cop c;rw [Nat.gcd_comm] at this;exact this
def Pr.mulI {p:Nat} (h:Pr p) {a b:Int} (c:(p:Int)∣a*b):(p:Int)∣a\/(p:Int)∣b:=by
 let z:=ER.mpr c;rw [CV,Ds] at z;rcases h.mul z with e | e
 ·exact .inl (ER.mp (by rw [Ds];exact e))
 ·exact .inr (ER.mp (by rw [Ds];exact e))
def YR {m:Nat} (v:2<=m):∃ q,Pr q/\q∣m/\(q=m\/q*q<=m):=by
 let c:∀ n d,2<=d->(∀ e,2<=e->e<d->¬ e∣m)->m=d+n->∃ q,2<=q/\q∣m/\∀ e,2<=e->e<q->¬ e∣m:=by
  intro n
  induction n with
  | zero=>intro d a h e;exact ⟨d,a,by rw [e];exact Nat.dvd_refl _,h⟩
  | succ n o=>
    intro d a h e;by_cases b:d∣m
    ·exact ⟨d,a,b,h⟩
    ·refine o (d+1) ⋯ (λx p r=>?_) ⋯;by_cases f:x=d
     ·rw [f];exact b
     ·exact h x p ⋯
 let ⟨q,u,g,j⟩:=c (m - 2) 2 (AV 2) (λe w i=>absurd i ⋯) ⋯;refine ⟨q,⟨u,λd a=>?_⟩,g,?_⟩
 ·by_cases i:2<=d
  ·right;rcases EB d q with h | h
   ·exact absurd (Nat.dvd_trans a g) (j d i h)
   ·exact EQ (Nat.le_of_dvd ⋯ a) h
  ·left;have:d≠0:=λz=>by rw [z] at a;have:=Nat.eq_zero_of_zero_dvd a;omega
   omega
 ·let ⟨k,hk⟩:=g;by_cases y:k<=1
  ·left
   have:k=1:=by
    rcases FO k with z | z
    ·rw [z] at hk;omega
    ·omega
   rw [hk,this,Nat.mul_one]
  ·right;rcases EB k q with h | h
   ·exact absurd ⟨q,by rw [hk,Df]⟩ (j k ⋯ h)
   ·rw [hk];exact E3 q h
theorem aw:∀ (n m:Nat) (f:Nat->Nat),(∀ i,i<m->f i<n)->(∀ i j,i<m->j<m->f i=f j->i=j)->m<=n
 | 0,m,f,h,_=>by
   rcases FO m with z | z
   ·omega
   ·exact absurd (h 0 z) ⋯
 | n+1,0,_,_,_=>by omega
 | n+1,m+1,f,h,a=>by
   have:=aw n m (λi=>if f i=n then f m else f i) (λi d=>by
    show (if f i=n then f m else f i)<n;by_cases e:f i=n
    ·rw [pB e];let g:=h m (Ch m);have:f m≠n:=λz=>absurd (a i m ⋯ ⋯ (by rw [e,z])) ⋯;omega
    ·rw [qZ e];let g:=h i ⋯;omega) (λi j d k e=>by
    let e:(if f i=n then f m else f i)=(if f j=n then f m else f j):=e;by_cases c:f i=n
    ·rw [pB c] at e;by_cases b:f j=n
     ·exact a i j ⋯ ⋯ (by rw [c,b])
     ·rw [qZ b] at e;exact absurd (a m j ⋯ ⋯ e) ⋯
    ·rw [qZ c] at e;by_cases b:f j=n
     ·rw [pB b] at e;exact absurd (a i m ⋯ ⋯ e) ⋯
     ·rw [qZ b] at e;exact a i j ⋯ ⋯ e)
   omega
noncomputable abbrev Rt:=Int×Int
noncomputable def M_ (q:Int) (x y:Rt):Rt:=((x.1*y.1+3*(x.2*y.2)) % q,(x.1*y.2+x.2*y.1) % q)
noncomputable def A' (q:Int):Nat->Rt
 | 0=>(1 % q,0 % q)
 | n+1=>M_ q (2,1) (A' q n)
def Fe {q a b c:Int} (h:a - b=q*c):a % q=b % q:=by
 have:a=b+q*c:=by omega
 rw [this,Int.add_mul_emod_self_left]
def em {a q:Int}:∃ c,a % q=a - q*c:=⟨a / q,by have:=Int.emod_add_mul_ediv a q;omega⟩
def Gr (q:Int) (x y z:Rt):M_ q (M_ q x y) z=M_ q x (M_ q y z):=by
 let ⟨a,b⟩:=x;let ⟨c,d⟩:=y;let ⟨e,f⟩:=z;let ⟨g,h⟩:=em (a:=a*c+3*(b*d)) (q:=q);let ⟨i,j⟩:=em (a:=a*d+b*c) (q:=q);let ⟨k,m⟩:=em (a:=c*e+3*(d*f)) (q:=q);let ⟨n,o⟩:=em (a:=c*f+d*e) (q:=q);refine Prod.ext ?_ ?_
 ·show ((a*c+3*(b*d)) % q*e+3*((a*d+b*c) % q*f)) % q=(a*((c*e+3*(d*f)) % q)+3*(b*((c*f+d*e) % q))) % q;rw [h,j,m,o];exact Fe (c:=a*k+3*b*n - g*e - 3*i*f) ()
 ·show ((a*c+3*(b*d)) % q*f+((a*d+b*c) % q*e)) % q=(a*((c*f+d*e) % q)+(b*((c*e+3*(d*f)) % q))) % q;rw [h,j,m,o];exact Fe (c:=a*n+b*k - g*f - i*e) ()
def YS (q:Int) (x y:Rt):M_ q x y=M_ q y x:=by
 refine Prod.ext ?_ ?_
 ·show (x.1*y.1+3*(x.2*y.2)) % q=(y.1*x.1+3*(y.2*x.2)) % q;congr 1;ext
 ·show (x.1*y.2+x.2*y.1) % q=(y.1*x.2+y.2*x.1) % q;congr 1;ext
def rn (q:Int) (x:Rt):Prop:=x.1 % q=x.1/\x.2 % q=x.2
def YT (q:Int) (x y:Rt):rn q (M_ q x y):=⟨Int.emod_emod ..,Int.emod_emod ..⟩
theorem GF (q:Int):∀ n,rn q (A' q n)
 | 0=>⟨Int.emod_emod ..,Int.emod_emod ..⟩
 | _+1=>YT q _ _
def ag (q:Int) {x:Rt} (h:rn q x):M_ q (A' q 0) x=x:=by
 let ⟨d,e⟩:=em (a:=1) (q:=q);let ⟨f,g⟩:=em (a:=0) (q:=q);refine Prod.ext ?_ ?_
 ·show (1 % q*x.1+3*(0 % q*x.2)) % q=x.1;rw [e,g,<-h.1];rw [Fe (b:=x.1 % q) (c:=- d*(x.1 % q) - 3*f*x.2) (),Int.emod_emod]
 ·show (1 % q*x.2+0 % q*x.1) % q=x.2;rw [e,g,<-h.2];rw [Fe (b:=x.2 % q) (c:=- d*(x.2 % q) - f*x.1) (),Int.emod_emod]
theorem GG (q:Int):∀ m n,A' q (m+n)=M_ q (A' q m) (A' q n)
 | 0,n=>by rw [Nat.zero_add,ag q (GF q n)]
 | m+1,n=>by
   rw [Nat.succ_add];show M_ q (2,1) (A' q (m+n))=M_ q (M_ q (2,1) (A' q m)) (A' q n);rw [GG q m n,Gr]
noncomputable def ah (q:Int):Nat->Rt
 | 0=>(1 % q,0 % q)
 | n+1=>M_ q (2,-1) (ah q n)
def r21 (q:Int):M_ q (2,-1) (2,1)=A' q 0:=by
 refine Prod.ext ?_ ?_
 ·show (2*2+3*(-1*1)) % q=1 % q;rfl
 ·show (2*1 + -1*2) % q=0 % q;rfl
theorem Oa (q:Int):∀ n,M_ q (ah q n) (A' q n)=A' q 0
 | 0=>ag q (GF q 0)
 | n+1=>by
   show M_ q (M_ q (2,-1) (ah q n)) (M_ q (2,1) (A' q n))=_;rw [Gr,<-Gr q (ah q n),YS q (ah q n) (2,1),Gr q (2,1),Oa q n,<-Gr,r21,ag q (GF q 0)]
theorem Kv (q:Int) {m:Nat} (h:A' q m=A' q 0):∀ k,A' q (m*k)=A' q 0
 | 0=>rfl
 | k+1=>by rw [Nat.mul_succ,GG,Kv q h k,h,ag q (GF q 0)]
theorem rord (q:Int) {n:Nat} (c:A' q (2 ^ (n+1))=A' q 0) (f:A' q (2 ^ n)≠A' q 0):∀ d,0<d->d<2 ^ (n+1)->A' q d≠A' q 0:=by
 intro d
 induction d using Nat.strongRecOn with
 | _ d g=>
 intro i u e;let j:=Nat.mod_lt (2 ^ (n+1)) i
 let m:A' q (2 ^ (n+1) % d)=A' q 0:=by
  let o:=Nat.div_add_mod (2 ^ (n+1)) d;rw [<-o,GG,Kv q e,ag q (GF q _)] at c;exact c
 rcases FO (2 ^ (n+1) % d) with z | z
 ·let ⟨k,hk⟩:=Nat.dvd_of_mod_eq_zero z;let ⟨a,v,b⟩:=(YQ (n:=n+1) (k:=d)).mp ⟨k,hk⟩
  let p:a<=n:=by
   rcases EB n a with h | h
   ·exfalso;have:a=n+1:=by omega
    rw [this] at b;omega
   ·exact h
  apply f;let r:2 ^ n=d*2 ^ (n - a):=by rw [b,<-Dq];congr 1;omega
  rw [r];exact Kv q e _
 ·exact g _ j z ⋯ m
theorem ax (q:Int):∀ n,∃ c,(A' q n).1*(A' q n).1 - 3*((A' q n).2*(A' q n).2) - 1=q*c
 | 0=>by
   let ⟨d,f⟩:=em (a:=1) (q:=q);let ⟨e,g⟩:=em (a:=0) (q:=q);refine ⟨-2*d+q*d*d - 3*q*e*e,?_⟩;show (1 % q)*(1 % q) - 3*((0 % q)*(0 % q)) - 1=_;rw [f,g];ext
 | n+1=>by
   let ⟨c,j⟩:=ax q n;let ⟨d,f⟩:=em (a:=2*(A' q n).1+3*(1*(A' q n).2)) (q:=q);let ⟨e,g⟩:=em (a:=2*(A' q n).2+1*(A' q n).1) (q:=q);let h:(A' q (n+1)).1=2*(A' q n).1+3*(1*(A' q n).2) - q*d:=f;let i:(A' q (n+1)).2=2*(A' q n).2+1*(A' q n).1 - q*e:=g;rw [h,i];generalize (A' q n).1=a at *;generalize (A' q n).2=b at *;exact ⟨c - 2*d*(2*a+3*b)+q*d*d+6*e*(2*b+a) - 3*q*e*e,()⟩
def YU (q:Int) (n:Nat):∃ c,2*(A' q (n+n)).1=(2*(A' q n).1)*(2*(A' q n).1) - 2+q*c:=by
 let ⟨c,e⟩:=ax q n;rw [GG];let ⟨b,d⟩:=em (a:=(A' q n).1*(A' q n).1+3*((A' q n).2*(A' q n).2)) (q:=q);refine ⟨-2*b - 2*c,?_⟩;show 2*(((A' q n).1*(A' q n).1+3*((A' q n).2*(A' q n).2)) % q)=_;rw [d];ext
noncomputable def ll (M:Nat):Nat->Nat->Nat
 | 0,s=>s
 | k+1,s=>ll M k ((s*s+(M - 2)) % M)
theorem Ob {q:Int} {M:Nat} (f:2<=M) (g:q∣(M:Int)):∀ (k t s:Nat),q∣2*(A' q (2 ^ t)).1 - (s:Int)->q∣2*(A' q (2 ^ (t+k))).1 - (ll M k s:Int)
 | 0,t,s,h=>h
 | k+1,t,s,h=>by
   have:=Ob f g k (t+1) ((s*s+(M - 2)) % M) (by
    let ⟨c,i⟩:=YU q (2 ^ t);let ⟨d,j⟩:=h;let ⟨m,n⟩:=g;let e:(2:Nat) ^ (t+1)=2 ^ t+2 ^ t:=by rw [Bx];omega
    rw [e,i]
    let z:(((s*s+(M - 2)) % M:Nat):Int)=(s:Int)*s+(M - 2) - M*(((s*s+(M - 2)) / M:Nat):Int):=by
     have:=Nat.mod_add_div (s*s+(M - 2)) M
     let o:(((s*s+(M - 2)) % M:Nat):Int)+(M:Int)*(((s*s+(M - 2)) / M:Nat):Int)=(s:Int)*s+(M - 2):=by
      have:=congrArg (λx:Nat=>(x:Int)) this;simp only [Int.natCast_add,Int.natCast_mul] at this;rw [this,Int.natCast_sub f];rfl
     omega
    rw [z];generalize (((s*s+(M - 2)) / M:Nat):Int)=w;generalize (A' q (2 ^ t)).1=a at j;let b:2*a=s+q*d:=by omega
    rw [b,n];exact ⟨2*s*d+q*d*d+c - m+m*w,()⟩)
   rw [show t+(k+1)=t+1+k by omega];exact this
def YV {n:Nat} (h:ll (2 ^ (n+2) - 1) n 4 % (2 ^ (n+2) - 1)=0):Pr (2 ^ (n+2) - 1):=by
 let K:4<=2 ^ (n+2):=by rw [Dq];have:=Nat.one_le_two_pow (n:=n);omega
 generalize hM:2 ^ (n+2) - 1=M at h ⊢;let ⟨q,o,p,y⟩:=YR (m:=M) ⋯;rcases y with e | y
 ·rw [<-e];exact o
 exfalso;let L:(q:Int)∣(M:Int):=Dt.mpr p;let q2:=o.two
 let N:q≠2:=λz=>by
  rw [z] at p;have:2 ^ (n+2)=2*2 ^ (n+1):=by rw [Bx 2 (n+1)];omega
  omega
 let O:(q:Int)∣2*(A' q (2 ^ (0+n))).1 - (ll M n 4:Int):=Ob ⋯ L n 0 4 (by
  show (q:Int)∣2*(M_ q (2,1) (A' q 0)).1 - 4;let ⟨f,r⟩:=em (a:=1) (q:=(q:Int));let ⟨g,u⟩:=em (a:=0) (q:=(q:Int));show (q:Int)∣2*((2*(1 % (q:Int))+3*(1*(0 % (q:Int)))) % (q:Int)) - 4;let ⟨P,Q⟩:=em (a:=2*(1 % (q:Int))+3*(1*(0 % (q:Int)))) (q:=(q:Int));rw [Q,r,u];exact ⟨-4*f - 6*g - 2*P,()⟩)
 let R:(q:Int)∣(ll M n 4:Int):=Dt.mpr (Nat.dvd_trans p (Nat.dvd_of_mod_eq_zero h))
 let S:(q:Int)∣2*(A' q (2 ^ n)).1:=by
  have:=Int.dvd_add O R;rw [Nat.zero_add] at this;rw [Int.sub_add_cancel] at this;exact this
 let T:(q:Int)∣(A' q (2 ^ n)).1:=by
  rcases o.mulI S with z | z
  ·exfalso;let v:=Dt.mp (show (q:Int)∣((2:Nat):Int) from z);have:=Nat.le_of_dvd ∅ v;omega
  ·exact z
 let k:(q:Int)≠0:=by omega
 let m1:A' q (2 ^ (n+1))=((-1) % (q:Int),0 % (q:Int)):=by
  let e:(2:Nat) ^ (n+1)=2 ^ n+2 ^ n:=by rw [Bx];omega
  rw [e,GG];let ⟨c,U⟩:=ax q (2 ^ n);let ⟨d,w⟩:=T;refine Prod.ext ?_ ?_
  ·show ((A' q (2 ^ n)).1*(A' q (2 ^ n)).1+3*((A' q (2 ^ n)).2*(A' q (2 ^ n)).2)) % (q:Int)=(-1) % (q:Int);refine Fe (c:=2*q*d*d - c) ?_;generalize (A' q (2 ^ n)).2=b at *;rw [w] at U ⊢;ext
  ·show ((A' q (2 ^ n)).1*(A' q (2 ^ n)).2+(A' q (2 ^ n)).2*(A' q (2 ^ n)).1) % (q:Int)=0 % (q:Int);refine Fe (c:=2*d*(A' q (2 ^ n)).2) ?_;rw [w];ext
 let u:A' q (2 ^ (n+1))≠A' q 0:=λz=>by
  rw [m1] at z;let W:(-1) % (q:Int)=1 % (q:Int):=congrArg Prod.fst z;let v:(q:Int)∣-1 - 1:=Int.dvd_of_emod_eq_zero ((Int.emod_eq_emod_iff_emod_sub_eq_zero).mp W);let X:=ER.mpr v;have:=Nat.le_of_dvd ∅ X;rw [Ds] at this;have:(-1 - 1:Int).natAbs=2:=by decide
  omega
 let r:A' q (2 ^ (n+1+1))=A' q 0:=by
  let e:(2:Nat) ^ (n+1+1)=2 ^ (n+1)+2 ^ (n+1):=by rw [Bx 2 (n+1)];omega
  rw [e,GG,m1];let ⟨f,A⟩:=em (a:=-1) (q:=(q:Int));let ⟨g,B⟩:=em (a:=0) (q:=(q:Int));refine Prod.ext ?_ ?_
  ·show ((-1) % (q:Int)*((-1) % (q:Int))+3*(0 % (q:Int)*(0 % (q:Int)))) % (q:Int)=1 % (q:Int);refine Fe (c:=2*f+q*f*f+3*q*g*g) ?_;rw [A,B];ext
  ·show ((-1) % (q:Int)*(0 % (q:Int))+0 % (q:Int)*((-1) % (q:Int))) % (q:Int)=0 % (q:Int);refine Fe (c:=2*g+2*q*f*g) ?_;rw [A,B];ext
 let ord:=rord (q:Int) r u
 let C:∀ i d,0<d->i+d<2 ^ (n+2)->A' q i≠A' q (i+d):=λi d Y w z=>by
  let e:A' q d=A' q 0:=by
   let a:=Oa (q:Int) i
   let b:M_ q (ah q i) (A' q (i+d))=A' q d:=by
    rw [GG,<-Gr,a,ag _ (GF _ _)]
   rw [<-b,<-z,a]
  exact ord d Y (by have:(2:Nat) ^ (n+1+1)=2 ^ (n+2):=rfl;omega) e
 let x:∀ i,0<=(A' q i).1/\(A' q i).1<q/\0<=(A' q i).2/\(A' q i).2<q:=λi=>by
  let ⟨a,b⟩:=GF (q:Int) i;let D:(0:Int)<q:=by omega
  let E:=CO (A' q i).1 k;let F:=CW (A' q i).1 D;let G:=CO (A' q i).2 k;let H:=CW (A' q i).2 D;rw [a] at E F;rw [b] at G H;exact ⟨E,F,G,H⟩
 let pg:=aw (q*q) (2 ^ (n+2)) (λi=>(A' q i).1.toNat*q+(A' q i).2.toNat) (λi _=>by
  let ⟨a,b,c,d⟩:=x i;let I:(A' q i).1.toNat+1<=q:=by omega
  let Z:(A' q i).2.toNat<q:=by omega
  have:=CI q I;rw [Nat.add_mul,Nat.one_mul] at this;show (A' q i).1.toNat*q+(A' q i).2.toNat<q*q;omega) (λi j hi hj e=>by
  let e:(A' q i).1.toNat*q+(A' q i).2.toNat=(A' q j).1.toNat*q+(A' q j).2.toNat:=e;let ⟨a,b,c,d⟩:=x i;let ⟨I,b',c',Z⟩:=x j;let m1:=congrArg (·% q) e;let m2:=congrArg (·/ q) e;simp only [Df _ q,Nat.mul_add_mod,Nat.mul_add_div (show 0<q by omega)] at m1 m2;rw [Nat.mod_eq_of_lt ⋯,Nat.mod_eq_of_lt ⋯] at m1;rw [Nat.div_eq_of_lt ⋯,Nat.div_eq_of_lt ⋯] at m2;let J:A' q i=A' q j:=Prod.ext ⋯ ⋯;rcases Nat.lt_trichotomy i j with h | h | h
  ·exact absurd J (by have:=C i (j - i) ⋯ ⋯;rw [show i+(j - i)=j by omega] at this;exact this)
  ·exact h
  ·exact absurd J.symm (by have:=C j (i - j) ⋯ ⋯;rw [show j+(i - j)=i by omega] at this;exact this))
 omega
noncomputable def bX (M k s:Nat):Nat:=Nat.rec (motive:=λ_=>Nat->Nat) (λs=>s) (λ_ a s=>a ((s*s+(M - 2)) % M)) k s
noncomputable def bZ (x:Nat) (f:Nat->Nat):Nat:=Nat.rec (motive:=λ_=>Nat) (f 0) (λn _=>f (n+1)) x
noncomputable def llo (M k j s:Nat):Nat:=Nat.rec (motive:=λ_=>Nat->Nat) (λs=>s) (λ_ a s=>bZ (bX M k s) a) j s
theorem Kw (M:Nat):∀ k s,bX M k s=ll M k s
 | 0,_=>rfl
 | k+1,s=>Kw M k _
def Oc (x:Nat) (f:Nat->Nat):bZ x f=f x:=by cases x <;> rfl
theorem Kx (M:Nat):∀ a b s,ll M (a+b) s=ll M b (ll M a s)
 | 0,b,s=>by rw [Nat.zero_add];rfl
 | a+1,b,s=>by rw [Nat.succ_add];exact Kx M a b _
theorem Od (M k:Nat):∀ j s,llo M k j s=ll M (k*j) s
 | 0,_=>rfl
 | j+1,s=>by
   show bZ (bX M k s) (llo M k j)=_;rw [Oc,Kw,Od M k j,<-Kx];congr 1;rw [Nat.mul_succ,Nat.add_comm]
noncomputable def ay (e:Nat):Nat:=2 ^ e - 1
def Oe {n r k j:Nat} (e:n=k*j+r) (h:Nat.beq (bZ (llo (ay (n+2)) k j 4) (λs=>bX (ay (n+2)) r s % ay (n+2))) 0=true):Pr (ay (n+2)):=by
 refine YV ?_;replace h:=Nat.eq_of_beq_eq_true h;rw [Oc,Od,Kw,<-Kx,<-e] at h;exact h
def YW:Pr (ay 127):=Oe (n:=125) (r:=5) (k:=20) (j:=6) rfl (by decide +kernel)
noncomputable def co (ns:cL) (k:Nat):Int:=ns.getD k 0
section
variable {α:Type} [Lean.Grind.CommRing α]
noncomputable def FH:List α->List α->List α
 | [],b=>b
 | a,[]=>a
 | x::a,y::b=>(x+y)::FH a b
def YX (a:List α):FH a []=a:=by cases a <;> rfl
theorem JH (g:Nat->α):∀ (a b:List α) (k:Nat),cvL (FH a b) g k=cvL a g k+cvL b g k
 | [],b,k=>by show cvL b g k=0+cvL b g k;ext
 | x::a,[],k=>by rw [YX,CK];ext
 | x::a,y::b,0=>by show cvL ((x+y)::FH a b) g 0=_;rw [Bk,Bk,Bk];ext
 | x::a,y::b,k+1=>by show cvL ((x+y)::FH a b) g (k+1)=_;rw [Bf,Bf,Bf,JH g a b k];ext
theorem JI (c:α) (g:Nat->α):∀ (a:List α) (k:Nat),cvL (a.map (c*·)) g k=c*cvL a g k
 | [],k=>by show (0:α)=c*0;ext
 | x::a,0=>by rw [List.map_cons,Bk,Bk];ext
 | x::a,k+1=>by rw [List.map_cons,Bf,Bf,JI c g a k];ext
noncomputable def BJ (s:Nat) (f:Nat->α) (k:Nat):α:=if s<=k then f (k - s) else 0
theorem Ky (g:Nat->α):∀ (s:Nat) (a:List α) (k:Nat),cvL (List.replicate s 0++a) g k=BJ s (cvL a g) k
 | 0,a,k=>by unfold BJ;rw [pB (AX k)];rfl
 | s+1,a,0=>by unfold BJ;rw [qZ ⋯];show cvL (0::(List.replicate s 0++a)) g 0=0;rw [Bk];ext
 | s+1,a,k+1=>by
   show cvL (0::(List.replicate s 0++a)) g (k+1)=_;rw [Bf,Ky g s a k];unfold BJ;by_cases h:s<=k
   ·rw [pB h,pB ⋯,show k+1 - (s+1)=k - s by omega];ext
   ·rw [qZ h,qZ ⋯];ext
noncomputable def Gu:List α->List α->List α
 | [],_=>[]
 | x::a,b=>FH (b.map (x*·)) (0::Gu a b)
theorem JJ (g:Nat->α):∀ (a b:List α) (k:Nat),cvL (Gu a b) g k=cvL a (cvL b g) k
 | [],b,k=>rfl
 | x::a,b,k=>by
   show cvL (FH (b.map (x*·)) (0::Gu a b)) g k=_;rw [JH,JI,Hk,Hk]
   let e:FG (cvL (Gu a b) g) k=FG (cvL a (cvL b g)) k:=by
    cases k with
    | zero=>rfl
    | succ k=>exact JJ g a b k
   rw [e];ext
theorem Hl (g:Nat->α) (s:α):∀ (a:List α) (k:Nat),cvL (a++[s]) g k=cvL a g k+s*BJ ↑a g k
 | [],0=>by show cvL [s] g 0=0+s*g 0;rw [Bk];ext
 | [],k+1=>by show cvL [s] g (k+1)=0+s*g (k+1);rw [Bf,CK];ext
 | x::a,0=>by show cvL (x::(a++[s])) g 0=_;rw [Bk,Bk];unfold BJ;rw [qZ (by simp)];ext
 | x::a,k+1=>by
   show cvL (x::(a++[s])) g (k+1)=_;rw [Bf,Bf,Hl g s a k]
   let e:BJ (x::a).length g (k+1)=BJ ↑a g k:=by
    unfold BJ;rw [List.length_cons];by_cases h:↑a<=k
    ·rw [pB h,pB ⋯,show k+1 - (↑a+1)=k - ↑a by omega]
    ·rw [qZ h,qZ ⋯]
   rw [e];ext
end
def Of (a:cL) (k:Nat):co a k=cvL a BQ k:=(Ep a k).symm
def Og (a b:cL) (k:Nat):cvL a (co b) k=cvL b (co a) k:=by
 rw [Gp (Of b) a k,Ku,Gp (λj=>(Of a j).symm) b k]
def EL {a:cL} {k:Nat} (h:↑a<=k):co a k=0:=by
 unfold co;rw [AJ,BH h];rfl
def Lz (g:cL):Prop:=0<↑g/\co g (↑g - 1)≠0
def Oh (n:Nat) (F:cY) (k:Nat):co ((List.range n).map F) k=if k<n then F k else 0:=by
 unfold co;rw [AJ,Ac];by_cases h:k<n
 ·rw [pB h,Cp h];rfl
 ·rw [qZ h,BH (by rw [Au];omega)];rfl
end Bs
namespace Bs
open PySem L2
def isN (H:Hp) (v:V) (q:Nu):Prop:=∃ p,v=.ref p/\H p=some (.tup [.int q.1,.int q.2])
noncomputable def Nums (H:Hp):cJ->cF->Prop
 | [],[]=>True
 | x::a,q::l=>isN H x q/\Nums H a l
 | _,_=>False
def Tp (H c:Hp):Prop:=∀ b a,H b=some (.tup a)->c b=some (.tup a)
def D_ {H a:Hp} (s:Same H a):Tp H a:=λb c h=>s b _ h
def Kp.tp {p:Addr} {H a:Hp} {xs:cJ} (k:Kp p H a) (h:H p=some (.lst xs)):Tp H a:=λb c q=>k b _ (Fv q h (by intro z;cases z)) q
def Tp.updL {p:Addr} {H:Hp} {xs ys:cJ} (h:H p=some (.lst xs)):Tp H (upd H p (.lst ys)):=Kp.tp Kp.upd h
def isN.tp {H a:Hp} {v:V} {q:Nu} (h:isN H v q) (t:Tp H a):isN a v q:=let ⟨p,e,z⟩:=h;⟨p,e,t _ _ z⟩
theorem Nums.tp {H a:Hp} (t:Tp H a):∀ {xs:cJ} {l:cF},Nums H xs l->Nums a xs l
 | [],[],_=>trivial
 | _::_,_::_,h=>⟨h.1.tp t,Nums.tp t h.2⟩
 | [],_::_,h=>h.elim
 | _::_,[],h=>h.elim
theorem Nums.length {H:Hp}:∀ {xs:cJ} {l:cF},Nums H xs l->↑xs=↑l
 | [],[],_=>rfl
 | _::_,_::_,h=>congrArg (·+1) (Nums.length h.2)
 | [],_::_,h=>h.elim
 | _::_,[],h=>h.elim
theorem Nums.get {H:Hp}:∀ {xs:cJ} {l:cF} {i:Nat} {v:V},Nums H xs l->xs[i]?=some v->∃ q,l[i]?=some q/\isN H v q
 | [],[],_,_,_,e=>by simp at e
 | _::_,q::_,0,_,h,e=>by simp at e;subst e;exact ⟨q,rfl,h.1⟩
 | _::_,_::_,i+1,_,h,e=>by
   let ⟨q,a,b⟩:=Nums.get (i:=i) h.2 (by simpa using e);exact ⟨q,by simpa using a,b⟩
 | [],_::_,_,_,h,_=>h.elim
 | _::_,[],_,_,h,_=>h.elim
def Nums.at {H:Hp} {xs:cJ} {l:cF} {i:Nat} (h:Nums H xs l) (b:i<↑l) (d:Nu):∃ v,xs[i]?=some v/\isN H v (l.getD i d):=by
 let a:i<↑xs:=by rw [↑h];exact b
 let ⟨q,c,e⟩:=h.get (AT a);refine ⟨_,AT a,?_⟩;rw [AJ,c];exact e
theorem Nums.append {H:Hp}:∀ {xs ys:cJ} {l m:cF},Nums H xs l->Nums H ys m->Nums H (xs++ys) (l++m)
 | [],_,[],_,_,h=>h
 | _::_,_,_::_,_,h,a=>⟨h.1,Nums.append h.2 a⟩
 | [],_,_::_,_,h,_=>h.elim
 | _::_,_,[],_,h,_=>h.elim
def Nums.one {H:Hp} {v:V} {q:Nu} (h:isN H v q):Nums H [v] [q]:=⟨h,trivial⟩
theorem Nums.take {H:Hp}:∀ {xs:cJ} {l:cF} (n:Nat),Nums H xs l->Nums H (xs.take n) (l.take n)
 | [],[],n,_=>by simp [Nums]
 | _::_,_::_,0,_=>trivial
 | _::_,_::_,n+1,h=>⟨h.1,Nums.take n h.2⟩
 | [],_::_,_,h=>h.elim
 | _::_,[],_,h=>h.elim
theorem Nums.set {H:Hp} {v:V} {q:Nu} (a:isN H v q):∀ {xs:cJ} {l:cF} (i:Nat),Nums H xs l->Nums H (xs.set i v) (l.set i q)
 | [],[],_,_=>trivial
 | _::_,_::_,0,h=>⟨a,h.2⟩
 | _::_,_::_,i+1,h=>⟨h.1,Nums.set a i h.2⟩
 | [],_::_,_,h=>h.elim
 | _::_,[],_,h=>h.elim
theorem Nums.rep {H:Hp} {v:V} {q:Nu} (a:isN H v q):∀ n:Nat,Nums H (List.replicate n v) (List.replicate n q)
 | 0=>trivial
 | n+1=>⟨a,Nums.rep a n⟩
theorem Er {a:Type} (v:a):∀ n:Nat,(List.replicate n [v]).flatten=List.replicate n v
 | 0=>rfl
 | n+1=>by rw [List.replicate_succ,List.flatten_cons,Er v n];rfl
def Ca {a:Type} {xs:List a} {i:Int} {j:Nat} {v:a} (e:i=(j:Int)) (h:xs[j]?=some v):N_ xs i=some v:=by subst e;exact DD h
def Ff {H:Hp} {p:Addr} {q:Nu}:isN (upd H p (.tup [.int q.1,.int q.2])) (.ref p) q:=⟨p,rfl,upd_same⟩
def Gv {xs:cJ} {m:Nat} (h:m<=↑xs):Be xs none (some (m:Int))=xs.take m:=by
 unfold Be HT.sIx;simp only [List.drop_zero,Nat.sub_zero,CB];rw [qZ ⋯,Nat.min_eq_left h]
def GH (H:Hp) (Q:VK) (l:cF):Prop:=∀ (r:Addr) (b:cJ) (a:Hp),Same H a->a r=some (.tup b)->Nums a b l->Q (.ref r) a
noncomputable def Es (q:Nu):W.Dat:=.tuple [.int q.1,.int q.2]
noncomputable def Gw (l:cF):W.Dat:=.tuple (l.map Es)
def Kz {H:Hp} {v:V} {q:Nu} (h:isN H v q):RepD H v (Es q):=by
 let ⟨p,rfl,hp⟩:=h;exact .tup hp (.cons (.int _) (.cons (.int _) .nil))
theorem Oi {H:Hp}:∀ {xs:cJ} {l:cF},Nums H xs l->RepA H xs (l.map Es)
 | [],[],_=>.nil
 | _::_,_::_,h=>.cons (Kz h.1) (Oi h.2)
 | [],_::_,h=>h.elim
 | _::_,[],h=>h.elim
def JK {H:Hp} {p:Addr} {xs:cJ} {l:cF} (hp:H p=some (.tup xs)) (h:Nums H xs l):RepD H (.ref p) (Gw l):=.tup hp (Oi h)
def okN (q:Nu) (n:Nat):W.kqdOk (n+1) (Es q)=true:=by simp [Es,W.kqdOk]
def b_ (l:cF) (n:Nat):W.kqdOk (n+2) (Gw l)=true:=by
 simp only [Gw,W.kqdOk,List.all_map,List.all_eq_true,Function.comp];intro q _;exact okN q n
section
variable {σ:L2.St} {H:Hp} {Q:VK} {D:Ends} {rest:TS} {sp:Sp} {E:XK}
def AD {i:Nat} {v:V} (a:σ[i]?=some (some v)) (h:Q v H):AA i σ H Q:=⟨v,a,h⟩
def CG {i:Nat} {k:Int} {a:Addr} {xs:cJ} {v:V} (b:σ[i]?=some (↥a)) (c:H a=some (.tup xs)) (d:N_ xs k=some v) (h:Q v H):A_ gT (AA i) (tC (.int k)) σ H Q:=⟨_,b,a,k,xs,v,rfl,rfl,c,d,h⟩
def K0 {a:TE} {k:Nat} (h:a σ H λx b=>sp [x] b (λv c=>rest D (σ.set k (some v)) c) E):AH (AO (AQ sp [] E (AB a AC)) (AF k)) rest D σ H:=h
def GI {a b:TE} {k:Nat} (h:a σ H λx c=>b σ c λy d=>sp [x,y] d (λv e=>rest D (σ.set k (some v)) e) E):AH (AO (AQ sp [] E (AB a (AB b AC))) (AF k)) rest D σ H:=h
def K1 {a b tc:TE} {k:Nat} (h:a σ H λx c=>b σ c λy d=>tc σ d λz e=>sp [x,y,z] e (λv f=>rest D (σ.set k (some v)) f) E):AH (AO (AQ sp [] E (AB a (AB b (AB tc AC)))) (AF k)) rest D σ H:=h
def CL {a:TE} (h:a σ H λx b=>sp [x] b Q E):AQ sp [] E (AB a AC) σ H Q:=h
def Al {a b:TE} (h:a σ H λx c=>b σ c λy d=>sp [x,y] d Q E):AQ sp [] E (AB a (AB b AC)) σ H Q:=h
def DS {a b tc:TE} (h:a σ H λx c=>b σ c λy d=>tc σ d λz e=>sp [x,y,z] e Q E):AQ sp [] E (AB a (AB b (AB tc AC))) σ H Q:=h
def Ab {a:TE} {k:Nat} (h:a σ H λx b=>rest D (σ.set k (some x)) b):AH (AO a (AF k)) rest D σ H:=h
def Bb {a:TE} (h:a σ H D.rt):Ad a D σ H:=h
def K2 {a:TE} (h:a σ H λx b=>[x].length<=sizeLine/\∀ p,b p=none->Q (.ref p) (upd b p (.tup [x]))):A6 (AB a AC) σ H Q:=h
def DG {a b:TE} (h:a σ H λx d=>b σ d λy c=>[x,y].length<=sizeLine/\∀ p,c p=none->Q (.ref p) (upd c p (.tup [x,y]))):A6 (AB a (AB b AC)) σ H Q:=h
def Oj {a b tc:TE} (h:a σ H λx d=>b σ d λy e=>tc σ e λz c=>[x,y,z].length<=sizeLine/\∀ p,c p=none->Q (.ref p) (upd c p (.tup [x,y,z]))):A6 (AB a (AB b (AB tc AC))) σ H Q:=h
def DH {a:TE} (h:a σ H λx b=>[x].length<=sizeLine/\∀ p,b p=none->Q (.ref p) (upd b p (.lst [x]))):A9 (AB a AC) σ H Q:=h
def YY {a b:TE} (h:a σ H λx d=>b σ d λy c=>[x,y].length<=sizeLine/\∀ p,c p=none->Q (.ref p) (upd c p (.lst [x,y]))):A9 (AB a (AB b AC)) σ H Q:=h
def G' {v:V} (h:Q v H):tC v σ H Q:=h
def AW {r:R2} {a b:TE} (h:a σ H λx c=>b σ c λy d=>r x y d Q):A_ r a b σ H Q:=h
def DI {k:Int} {a:Addr} {xs:cJ} {v:V} (b:H a=some (.tup xs)) (c:N_ xs k=some v) (h:Q v H):gT (.ref a) (.int k) H Q:=⟨a,k,xs,v,rfl,rfl,b,c,h⟩
def B7 {k:Int} {a:Addr} {xs:cJ} {v:V} (b:H a=some (.lst xs)) (c:N_ xs k=some v) (h:Q v H):gL (.ref a) (.int k) H Q:=⟨a,k,xs,v,rfl,rfl,b,c,h⟩
def Fg {a:TE} (h:a σ H λx b=>BA [x] b Q):E_ BA (AB a AC) σ H Q:=h
def Fh {a:Addr} {xs:cJ} (b:H a=some (.lst xs)) (h:Q (.int ↑xs) H):BA [.ref a] H Q:=⟨a,xs,rfl,b,h⟩
def Bg {b:cJ->Hp->VK->Prop} {a:TE} (h:a σ H λx c=>b [x] c Q):E_ b (AB a AC) σ H Q:=h
def YZ {a:TA} {g:TG} {b:TS} (h:a σ H (λc d=>∃ i j:Int,c=[.int i,.int j,.int (-1)]/\(-(2 ^ 62)<=i/\i<2 ^ 62/\-(2 ^ 62)<=j/\j<2 ^ 62)/\ForJ (bA i (i - j).toNat) g b { D with nx:=rest D } σ d)):AH (Ay (Iv a) g b) rest D σ H:=h
def GJ {a:TE} {g:TG} (h:a σ H λx b=>g x σ b (rest D)):AH (AO a g) rest D σ H:=h
def JL {b c tc d:TE} (h:b σ H λx e=>c σ e λy f=>tc σ f λz g=>d σ g λa i=>sp [x,y,z,a] i Q E):AQ sp [] E (AB b (AB c (AB tc (AB d AC)))) σ H Q:=h
def Yb {c d tc e f:TE} (h:c σ H λx g=>d σ g λy i=>tc σ i λz j=>e σ j λa k=>f σ k λb m=>sp [x,y,z,a,b] m Q E):AQ sp [] E (AB c (AB d (AB tc (AB e (AB f AC))))) σ H Q:=h
def By {i:Nat} {v:V} {σ:L2.St} {H:Hp} {Q:L2.St->Hp->Prop} (h:Q (σ.set i (some v)) H):AF i v σ H Q:=h
def Cy {K:W.Frag} {b:TE} {capt:List (Option Nat)} {g:TG} {c:TE} {σ:L2.St} {H:Hp} {Q:VK} (h:b σ H (λx d=>∃ a,x=.ref a/\(∃ e,SqL K d a e)/\CompJ (aa K a) capt g c σ Q d)):At (BL K b) capt g c σ H Q:=h
def Gx {a:TE} {k:Nat} {D:Ends} {σ:L2.St} {H:Hp} (h:a σ H λx b=>D.nx (σ.set k (some x)) b):AO a (AF k) D σ H:=h
def D1 {c:TT} {t u:TS} (h:c σ H λb a=>if b=true then t { D with nx:=rest D } σ a else u { D with nx:=rest D } σ a):AH (BV c t u) rest D σ H:=h
def Bz {a:TE} {Q:Bool->Hp->Prop} (h:a σ H λx b=>∃ k,x=.bl k/\Q k b):Ap a σ H Q:=h
def Cb {x:V}:[x].length<=sizeLine:=by show 1<=_;exact sz ∅
def CH {x y:V}:[x,y].length<=sizeLine:=by show 2<=_;exact sz ∅
def K3 {x y z:V}:[x,y,z].length<=sizeLine:=by show 3<=_;exact sz ∅
theorem Ol {H:Hp} {a x y:Addr} {A X Y:HO} {P:Hp->Prop} (i:H a=none) (j:upd H a A x=none) (d:upd (upd H a A) x X y=none) (k:∀ b,b a=some A->b y=some Y->Same H b->a≠y->H y=none->P b):P (upd (upd (upd H a A) x X) y Y):=by
 let f:=AM i A;let c:=AM j X;let g:=AM d Y;refine k _ (g _ _ (c _ _ upd_same)) upd_same (λz o h=>g z o (c z o (f z o h))) (As (c _ _ upd_same) d) ?_;cases e:H y with
 | none=>rfl
 | some o=>have:=c _ _ (f _ _ e);rw [d] at this;cases this
def Yc {e H:Hp} {t w:Addr} {X:HO} {i ys:cJ} {P:Hp->Prop} (f:H t=none) (g:H w=some (.lst i)) (j:e w=none) (s:Same e H) (k:∀ a,Same e a->a w=some (.lst ys)->a t=some X->Tp H a->(∀ c o,c≠w->H c=some o->a c=some o)->P a):P (upd (upd H t X) w (.lst ys)):=by
 let d:=AM f X;exact k _ (λb o h=>Kp.upd b o (As h j) (d b o (s b o h))) upd_same (Kp.upd _ _ (As g f).symm upd_same) (λb o h=>Tp.updL (d _ _ g) b o (d _ _ h)) λc o n h=>Kp.upd c o n (d _ _ h)
end
end Bs
set_option maxHeartbeats 4000000
namespace Bs
open PySem L2
structure Sr where
 c:cZ
def Sr.ext' {f g:Sr} (h:∀ k,f.c k=g.c k):f=g:=by
 cases f;cases g;congr;exact funext h
noncomputable def tr (n:Nat) (f:cZ):List Rat:=(List.range n).map f
def GK (n:Nat) (f:cZ) (k:Nat):(tr n f).getD k 0=if k<n then f k else 0:=by
 unfold tr;rw [AJ,Ac];by_cases h:k<n
 ·rw [Cp h,pB h];rfl
 ·rw [qZ h,BH (by rw [Au];omega)];rfl
theorem Hm:∀ (a b:List Rat) (g h:cZ) (k:Nat),(∀ i,i<=k->a.getD i 0=b.getD i 0)->(∀ i,i<=k->g i=h i)->cvL a g k=cvL b h k:=by
 intro a
 induction a with
 | nil=>
   intro b
   induction b with
   | nil=>intro g h k _ _;rfl
   | cons y b j=>
     intro g h k c e;let m:=c 0 (AX _);simp at m;cases k with
     | zero=>rw [CK,Bk,<-m];ext
     | succ k=>
       rw [CK,Bf,<-m];have:=j g h k (λi f=>by have:=c (i+1) ⋯;simpa using this) (λi f=>e i ⋯);rw [CK] at this;ext
 | cons x a j=>
   intro b g h k c e;cases b with
   | nil=>
     let d:=c 0 (AX _);simp at d;cases k with
     | zero=>rw [CK,Bk,d];ext
     | succ k=>
       rw [CK,Bf,d];have:=j [] g h k (λi f=>by have:=c (i+1) ⋯;simpa using this) (λi f=>e i ⋯);rw [CK] at this;ext
   | cons y b=>
     let d:=c 0 (AX _);simp at d;cases k with
     | zero=>rw [Bk,Bk,d,e 0 (AV _)]
     | succ k=>
       rw [Bf,Bf,d,e _ (AV _),j b g h k (λi f=>by have:=c (i+1) ⋯;simpa using this) (λi f=>e i ⋯)]
namespace Sr
noncomputable def zero:Sr:=⟨λ_=>0⟩
noncomputable def one:Sr:=⟨BQ⟩
noncomputable def add (f g:Sr):Sr:=⟨λk=>f.c k+g.c k⟩
noncomputable def neg (f:Sr):Sr:=⟨λk=>- f.c k⟩
noncomputable def mul (f g:Sr):Sr:=⟨λk=>cvL (tr (k+1) f.c) g.c k⟩
noncomputable def num (x:Rat):Sr:=⟨λk=>x*BQ k⟩
def JM (f g:Sr) {n k:Nat} (h:k<n):(mul f g).c k=cvL (tr n f.c) g.c k:=by
 refine Hm _ _ _ _ _ (λi a=>?_) (λ_ _=>rfl);rw [GK,GK,pB ⋯,pB ⋯]
def K4 (f g:Sr) {n m k:Nat} (h:k<n) (h':k<m):(mul f g).c k=cvL (tr n f.c) (cvL (tr m g.c) BQ) k:=by
 rw [JM f g h];refine Hm _ _ _ _ _ (λ_ _=>rfl) (λi a=>?_);rw [Ep,GK,pB ⋯]
def mul_comm (f g:Sr):mul f g=mul g f:=ext' λk=>by
 rw [K4 f g (Ch k) (Ch k),K4 g f (Ch k) (Ch k),Ku]
def mul_assoc (f g h:Sr):mul (mul f g) h=mul f (mul g h):=ext' λk=>by
 rw [JM (mul f g) h (Ch k),JM f (mul g h) (Ch k)]
 let a:cvL (tr (k+1) (mul f g).c) h.c k=cvL (Gu (tr (k+1) f.c) (tr (k+1) g.c)) h.c k:=by
  refine Hm _ _ _ _ _ (λi b=>?_) (λ_ _=>rfl);rw [GK,pB ⋯,<-Ep,JJ,K4 f g (n:=k+1) (m:=k+1) ⋯ ⋯]
 rw [a,JJ];exact Hm _ _ _ _ _ (λ_ _=>rfl) (λi b=>(JM g h ⋯).symm)
def mul_add (f g h:Sr):mul f (add g h)=add (mul f g) (mul f h):=ext' λk=>by
 show cvL (tr (k+1) f.c) (λk=>g.c k+h.c k) k=_;rw [Ks];rfl
def mul_one (f:Sr):mul f one=f:=ext' λk=>by
 show cvL (tr (k+1) f.c) BQ k=_;rw [Ep,GK,pB (Ch k)]
def mul_zero (f:Sr):mul f zero=zero:=ext' λk=>by
 show cvL (tr (k+1) f.c) (λ_=>0) k=0;have:=JG (0:Rat) (λ_=>0) (tr (k+1) f.c) k;rw [show (λk:Nat=>(0:Rat)*(λ_=>(0:Rat)) k)=λ_=>0 from funext λ_=>by grind] at this;rw [this];ext
noncomputable def npow (f:Sr):Nat->Sr
 | 0=>one
 | n+1=>mul (npow f n) f
noncomputable instance:Add Sr:=⟨add⟩
noncomputable instance:Mul Sr:=⟨mul⟩
noncomputable instance:Neg Sr:=⟨neg⟩
noncomputable instance:Sub Sr:=⟨λf g=>add f (neg g)⟩
noncomputable instance:NatCast Sr:=⟨λn=>num (n:Rat)⟩
noncomputable instance:IntCast Sr:=⟨λn=>num (n:Rat)⟩
noncomputable instance (n:Nat):OfNat Sr n:=⟨num (n:Rat)⟩
noncomputable instance:Pow Sr Nat:=⟨npow⟩
noncomputable instance:SMul Nat Sr:=⟨λn f=>mul (num (n:Rat)) f⟩
noncomputable instance:SMul Int Sr:=⟨λn f=>mul (num (n:Rat)) f⟩
def num0:num 0=zero:=ext' λk=>by show 0*BQ k=(0:Rat);ext
def num1:num 1=one:=ext' λk=>by show 1*BQ k=(BQ k:Rat);ext
def K5 (x y:Rat):num (x+y)=add (num x) (num y):=ext' λk=>by show (x+y)*BQ k=x*BQ k+y*BQ k;ext
def num_neg (x:Rat):num (-x)=neg (num x):=ext' λk=>by show (-x)*BQ k = -(x*BQ k);ext
def add_comm (f g:Sr):add f g=add g f:=ext' λk=>by show f.c k+g.c k=g.c k+f.c k;ext
def add_assoc (f g h:Sr):add (add f g) h=add f (add g h):=ext' λk=>by show f.c k+g.c k+h.c k=f.c k+(g.c k+h.c k);ext
def add_zero (f:Sr):add f zero=f:=ext' λk=>by show f.c k+0=f.c k;ext
def K6 (f:Sr):add (neg f) f=zero:=ext' λk=>by show -f.c k+f.c k=0;ext
def add_mul (f g h:Sr):mul (add f g) h=add (mul f h) (mul g h):=by rw [mul_comm,mul_add,mul_comm h f,mul_comm h g]
def neg_mul (f g:Sr):mul (neg f) g=neg (mul f g):=by
 let h:add (mul (neg f) g) (mul f g)=zero:=by rw [<-add_mul,K6,mul_comm,mul_zero]
 let c:add (neg (mul f g)) (mul f g)=zero:=K6 _;refine ext' λk=>?_;let a:=congrFun (congrArg Sr.c h) k;let b:=congrFun (congrArg Sr.c c) k;let a:(mul (neg f) g).c k+(mul f g).c k=0:=a;let b:(neg (mul f g)).c k+(mul f g).c k=0:=b;ext
noncomputable instance:Lean.Grind.CommRing Sr where
 add_zero f:=(congrArg (add f) num0).trans (add_zero f)
 add_comm:=add_comm
 add_assoc:=add_assoc
 mul_assoc:=mul_assoc
 mul_comm:=mul_comm
 mul_one f:=(congrArg (mul f) num1).trans (mul_one f)
 one_mul f:=(congrArg (λz=>mul z f) num1).trans ((mul_comm _ _).trans (mul_one f))
 left_distrib:=mul_add
 right_distrib:=add_mul
 zero_mul f:=by show mul (num 0) f=num 0;rw [num0,mul_comm,mul_zero]
 mul_zero f:=by show mul f (num 0)=num 0;rw [num0,mul_zero]
 pow_zero f:=num1.symm
 pow_succ f n:=rfl
 ofNat_succ n:=by
  show num ((n+1:Nat):Rat)=add (num (n:Rat)) (num 1)
  rw [<-K5];push_cast;rfl
 ofNat_eq_natCast n:=rfl
 nsmul_eq_natCast_mul n f:=rfl
 sub_eq_add_neg f g:=rfl
 neg_add_cancel f:=(K6 f).trans num0.symm
 intCast_neg n:=by show num ((-n:Int):Rat)=neg (num (n:Rat));rw [<-num_neg];push_cast;rfl
 intCast_ofNat n:=rfl
 neg_zsmul n f:=by show mul (num ((-n:Int):Rat)) f=neg (mul (num (n:Rat)) f);rw [show ((-n:Int):Rat) = -(n:Rat) by push_cast;rfl,num_neg,neg_mul]
 zsmul_natCast_eq_nsmul n f:=rfl
noncomputable def L (a:List Rat):Sr:=⟨cvL a BQ⟩
def L_mul (a:List Rat) (g:Sr):L a*g=⟨cvL a g.c⟩:=ext' λk=>by
 refine Hm _ _ _ _ _ (λi b=>?_) (λ_ _=>rfl);rw [GK,pB ⋯];exact Ep a i
def Bn (f:Sr) (n:Nat):Prop:=∀ k,n<=k->f.c k=0
def Bn.row {f:Sr} {n:Nat} (h:Bn f n):L (tr n f.c)=f:=ext' λk=>by
 show cvL (tr n f.c) BQ k=f.c k;rw [Ep,GK];by_cases hk:k<n
 ·rw [pB hk]
 ·rw [qZ hk,h k ⋯]
def Pol (f:Sr):Prop:=∃ a,f=L a
def Pol.L (a:List Rat):Pol (L a):=⟨a,rfl⟩
def Yd (a:List Rat):Bn (Sr.L a) ↑a:=λk hk=>by
 show cvL a BQ k=0;rw [Ep,AJ,BH hk];rfl
def Pol.bn {f:Sr} (h:Pol f):∃ n,Bn f n:=let ⟨a,e⟩:=h;⟨↑a,e ▸ Yd a⟩
def Pol.add {f g:Sr} (h:Pol f) (h':Pol g):Pol (f+g):=by
 let ⟨a,rfl⟩:=h;let ⟨b,rfl⟩:=h';exact ⟨FH a b,ext' λk=>(JH BQ a b k).symm⟩
def Pol.mul {f g:Sr} (h:Pol f) (h':Pol g):Pol (f*g):=by
 let ⟨a,rfl⟩:=h;let ⟨b,rfl⟩:=h';exact ⟨Gu a b,by rw [L_mul];exact ext' λk=>(JJ BQ a b k).symm⟩
theorem Pol.num (x:Rat):Pol (num x):=⟨[x],ext' λk=>by
 show x*BQ k=cvL [x] BQ k;cases k with
 | zero=>rw [Bk];ext
 | succ k=>rw [Bf,CK];ext⟩
def Pol.nat (n:Nat):Pol (OfNat.ofNat n:Sr):=Pol.num (n:Rat)
def Pol.neg {f:Sr} (h:Pol f):Pol (-f):=by
 let e:-f=Sr.num (-1)*f:=by
  have:Sr.num (-1)=(-1:Sr):=num_neg 1;rw [this];ext
 rw [e];exact (Pol.num _).mul h
def Pol.sub {f g:Sr} (h:Pol f) (h':Pol g):Pol (f - g):=by
 let e:f - g=f + -g:=by ext
 rw [e];exact h.add h'.neg
theorem Pol.pow {f:Sr} (h:Pol f):∀ n:Nat,Pol (f ^ n)
 | 0=>(num1 ▸ Pol.num 1:Pol one)
 | n+1=>(h.pow n).mul h
theorem Om {f:Sr}:∀ n,Bn f n->f=0\/∃ m,m<n/\f.c m≠0/\Bn f (m+1)
 | 0,h=>.inl (ext' λk=>by rw [h k (AX _)];show 0=((0:Nat):Rat)*BQ k;push_cast;ext)
 | n+1,h=>by
   by_cases z:f.c n=0
   ·rcases Om n (λk hk=>by rcases Nat.eq_or_lt_of_le hk with e | e;exact e ▸ z;exact h k e) with q | ⟨m,m1,m2,m3⟩
    ·exact .inl q
    ·exact .inr ⟨m,⋯,m2,m3⟩
   ·exact .inr ⟨n,⋯,z,h⟩
def zero_c (k:Nat):(0:Sr).c k=0:=by show ((0:Nat):Rat)*BQ k=0;push_cast;ext
noncomputable def X (n:Nat):Sr:=L (List.replicate n 0++[1])
def K7 (n:Nat) (g:Sr) (k:Nat):(X n*g).c k=if n<=k then g.c (k - n) else 0:=by
 unfold X;rw [L_mul];show cvL (List.replicate n 0++[1]) g.c k=_;rw [Ky];unfold BJ;by_cases h:n<=k
 ·rw [pB h,pB h];cases k - n with
  | zero=>rw [Bk];ext
  | succ k=>rw [Bf,CK];ext
 ·rw [qZ h,qZ h]
theorem num_mul (x:Rat) (g:Sr) (k:Nat):(num x*g).c k=x*g.c k:=by
 have:num x=L [x]:=ext' λk=>by
  show x*BQ k=cvL [x] BQ k;cases k with
  | zero=>rw [Bk];ext
  | succ k=>rw [Bf,CK];ext
 rw [this,L_mul];show cvL [x] g.c k=_;cases k with
 | zero=>rw [Bk];ext
 | succ k=>rw [Bf,CK];ext
def sub_c (f g:Sr) (k:Nat):(f - g).c k=f.c k - g.c k:=by show f.c k + - g.c k=_;ext
noncomputable def D (f:Sr):Sr:=⟨λk=>((k:Rat)+1)*f.c (k+1)⟩
def pow_s (f:Sr) (n:Nat):f ^ (n+1)=f ^ n*f:=rfl
def pow_z (f:Sr):f ^ 0=1:=num1.symm
theorem On {b:cZ} {d:Nat} (h:∀ k,d<k->b k=0):∀ (a:List Rat) (k:Nat),d+↑a<=k->cvL a b k=0
 | [],_,_=>rfl
 | x::a,0,hk=>by simp at hk
 | x::a,k+1,hk=>by
   rw [Bf,On h a k (by simp at hk;omega),h (k+1) (by simp at hk;omega)];ext
def Oo {f g:Sr} {m n:Nat} (b:Bn f (m+1)) (h:Bn g (n+1)):(f*g).c (m+n)=f.c m*g.c n/\Bn (f*g) (m+n+1):=by
 let c:∀ (a:List Rat) (k:Nat),n+↑a<=k->cvL a g.c k=0:=On λk hk=>h k hk;rw [<-b.row,L_mul];refine ⟨?_,λk hk=>c _ k (by unfold tr;rw [AI,Au];omega)⟩;show cvL (tr (m+1) f.c) g.c (m+n)=_;let e:tr (m+1) f.c=tr m f.c++[f.c m]:=by unfold tr;rw [Ex,CP];rfl
 let d:(tr m f.c).length=m:=by unfold tr;rw [AI,Au]
 rw [e,Hl,c (tr m f.c) _ (by rw [d];omega),d];unfold BJ;rw [pB ⋯,show m+n - m=n by omega]
 let z:(L (tr m f.c++[f.c m])).c m=f.c m:=by
  rw [<-e];exact congrFun (congrArg Sr.c b.row) m
 rw [z];ext
end Sr
theorem php:∀ (m n:Nat) (f:Nat->Nat),(∀ i,i<n->f i<m)->m<n->∃ i j,i<j/\j<n/\f i=f j
 | 0,n,f,h,d=>absurd (h 0 d) (BD _)
 | m+1,n,f,h,d=>by
   let ⟨n,rfl⟩:∃ k,n=k+1:=⟨n - 1,⋯⟩;by_cases c:∃ i,i<n/\f i=f n
   ·let ⟨i,a,e⟩:=c;exact ⟨i,n,a,⋯,e⟩
   ·let c:∀ i,i<n->f i≠f n:=λi a e=>c ⟨i,a,e⟩;let o:=h n ⋯
    let ⟨i,j,b,g,e⟩:=php m n (λi=>if f n<f i then f i - 1 else f i) (λi a=>by
     let p:=h i ⋯;let q:=c i a;show (if f n<f i then f i - 1 else f i)<m;split <;> omega) ⋯
    refine ⟨i,j,b,⋯,?_⟩;let r:=c i ⋯;let u:=c j g;let e:(if f n<f i then f i - 1 else f i)=(if f n<f j then f j - 1 else f j):=e;split at e <;> split at e <;> omega
noncomputable def aS (M:Nat):Nat->(Nat->Nat)->Nat
 | 0,_=>0
 | N+1,e=>e 0+M*aS M N (λk=>e (k+1))
theorem Op {M:Nat}:∀ (N:Nat) (e:Nat->Nat),(∀ k,k<N->e k<M)->aS M N e<M ^ N
 | 0,_,_=>Nat.one_pos
 | N+1,e,h=>by
   let a:=Op N (λk=>e (k+1)) (λk hk=>h (k+1) ⋯);let c:=h 0 ⋯;show e 0+M*aS M N (λk=>e (k+1))<M ^ (N+1);let b:M*(aS M N (λk=>e (k+1))+1)<=M*M ^ N:=E3 M a;rw [Bx,Df (M ^ N)];rw [Nat.mul_add,Nat.mul_one] at b;omega
def Ye {M a b x y:Nat} (c:a<M) (d:b<M) (h:a+M*x=b+M*y):a=b/\x=y:=by
 let f:(a+M*x) % M=a:=by rw [Nat.add_mul_mod_self_left,Nat.mod_eq_of_lt c]
 let g:(b+M*y) % M=b:=by rw [Nat.add_mul_mod_self_left,Nat.mod_eq_of_lt d]
 let e:a=b:=by rw [<-f,h,g]
 subst e;exact ⟨rfl,Nat.eq_of_mul_eq_mul_left ⋯ (Nat.add_left_cancel h)⟩
theorem Oq {M:Nat}:∀ (N:Nat) (e a:Nat->Nat),(∀ k,k<N->e k<M)->(∀ k,k<N->a k<M)->aS M N e=aS M N a->∀ k,k<N->e k=a k
 | 0,_,_,_,_,_,k,hk=>absurd hk (BD _)
 | N+1,e,a,h,b,q,k,hk=>by
   let ⟨c,d⟩:=Ye (h 0 ⋯) (b 0 ⋯) q;cases k with
   | zero=>exact c
   | succ k=>exact Oq N _ _ (λk hk=>h (k+1) ⋯) (λk hk=>b (k+1) ⋯) d k ⋯
noncomputable def U' (p:Nat):Nat->Nat->cL
 | 0,_=>[]
 | N+1,t=>((t % p:Nat):Int)::U' p N (t / p)
theorem JN (p:Nat):∀ (N t:Nat),(U' p N t).length=N
 | 0,_=>rfl
 | N+1,t=>by show (U' p N (t / p)).length+1=N+1;rw [JN p N]
theorem Os {p:Nat} (a:0<p):∀ (N t:Nat),∀ z∈U' p N t,0<=z/\z<(p:Int)
 | 0,_,z,h=>by cases h
 | N+1,t,z,h=>by
   rcases DV.mp h with rfl | h
   ·have:=Nat.mod_lt t a;omega
   ·exact Os a N _ z h
theorem Ot {p:Nat} (e:0<p):∀ (N t s:Nat),t<p ^ N->s<p ^ N->U' p N t=U' p N s->t=s
 | 0,t,s,c,d,_=>by rw [Nat.pow_zero] at c d;omega
 | N+1,t,s,c,d,h=>by
   injection h with a b;rw [Bx,Df] at c d;have:=Ot e N (t / p) (s / p) (Nat.div_lt_of_lt_mul c) (Nat.div_lt_of_lt_mul d) b;let f:=Nat.div_add_mod t p;let g:=Nat.div_add_mod s p;let a:t % p=s % p:=by exact_mod_cast a
   rw [<-f,<-g,this,a]
section
variable {R:Type} [Lean.Grind.CommRing R]
noncomputable def su:Nat->(Nat->R)->R
 | 0,_=>0
 | n+1,f=>su n f+f n
theorem AU {f g:Nat->R}:∀ n,(∀ i,i<n->f i=g i)->su n f=su n g
 | 0,_=>rfl
 | n+1,h=>by
   show su n f+f n=su n g+g n;rw [AU n λi a=>h i ⋯,h n ⋯]
theorem Bw:∀ {n:Nat} {f:Nat->R},(∀ i,i<n->f i=0)->su n f=0
 | 0,_,_=>rfl
 | n+1,f,h=>by
   show su n f+f n=0;rw [Bw λi a=>h i ⋯,h n ⋯];ext
theorem Fi (f g:Nat->R):∀ n,su n (λi=>f i+g i)=su n f+su n g
 | 0=>by show (0:R)=0+0;ext
 | n+1=>by
   show su n _+(f n+g n)=su n f+f n+(su n g+g n);rw [Fi f g n];ext
theorem BK (c:R) (f:Nat->R):∀ n,su n (λi=>c*f i)=c*su n f
 | 0=>by show (0:R)=c*0;ext
 | n+1=>by
   show su n _+c*f n=c*(su n f+f n);rw [BK c f n];ext
def Fj (f g:Nat->R) (n:Nat):su n (λi=>f i - g i)=su n f - su n g:=by
 let h:=Fi (λi=>f i - g i) g n;rw [AU (f:=λi=>f i - g i+g i) (g:=f) n λi _=>by grind] at h;ext
def Cd (c:R) (f:Nat->R) (n:Nat):su n (λi=>f i*c)=su n f*c:=by
 rw [AU (g:=λi=>c*f i) n λi _=>by ext,BK];ext
theorem Dk (f:Nat->Nat->R) (m:Nat):∀ n,su n (λi=>su m (f i))=su m λj=>su n λi=>f i j
 | 0=>(Bw λ_ _=>rfl).symm
 | n+1=>by
   show su n (λi=>su m (f i))+su m (f n)=su m λj=>su n (λi=>f i j)+f n j;rw [Fi,Dk f m n]
noncomputable def dl (i j:Nat):R:=if i=j then 1 else 0
theorem Et (f:Nat->R) (k:Nat):∀ n,su n (λi=>f i*dl i k)=if k<n then f k else 0
 | 0=>rfl
 | n+1=>by
   show su n _+f n*dl n k=_;rw [Et f k n];unfold dl;by_cases h:n=k
   ·rw [pB h,qZ ⋯,pB ⋯,h];ext
   ·rw [qZ h];by_cases q:k<n
    ·rw [pB q,pB ⋯];ext
    ·rw [qZ q,qZ ⋯];ext
def aU (f:Nat->R) {k n:Nat} (h:k<n):su n (λi=>dl i k*f i)=f k:=by
 rw [AU (g:=λi=>f i*dl i k) n λi _=>by ext,Et,pB h]
def K8 (i j:Nat):(dl i j:R)=dl j i:=by
 unfold dl;by_cases q:i=j
 ·rw [pB q,pB q.symm]
 ·rw [qZ q,qZ (λz=>q z.symm)]
def Gy (f:Nat->R) {k n:Nat} (h:k<n):su n (λi=>dl k i*f i)=f k:=by
 rw [AU (g:=λi=>dl i k*f i) n λi _=>by rw [K8],aU f h]
def swp {k l M:Nat} (h:k<M):(if (if k=l then M else k)=M then l else (if k=l then M else k))=k:=by
 by_cases q:k=l
 ·rw [pB q,pB rfl,q]
 ·rw [qZ q,qZ ⋯]
def Yg (f:Nat->R) {l m:Nat} (h:l<=m):su (m+1) f=su m (λi=>f (if i=l then m else i))+f l:=by
 let e:su m (λi=>f (if i=l then m else i))=su m f+(if l<m then f m - f l else 0):=by
  rw [AU (g:=λi=>f i+(λ_=>f m - f l) i*dl i l) m λi _=>by
   unfold dl;by_cases q:i=l
   ·rw [pB q,pB q,q];ext
   ·rw [qZ q,qZ q];ext,Fi,Et]
 rw [e];show su m f+f m=_;by_cases q:l<m
 ·rw [pB q];ext
 ·rw [qZ q,show l=m by omega];ext
structure Dom (R:Type) [Lean.Grind.CommRing R]:Prop where
 one:(1:R)≠0
 mul:∀ {a b:R},a*b=0->a=0\/b=0
theorem aV (D:Dom R):∀ (n m:Nat) (a:Nat->Nat->R),n<m->∃ c:Nat->R,(∃ i,i<m/\c i≠0)/\∀ j,j<n->su m (λi=>c i*a i j)=0
 | 0,m,a,h=>⟨λ_=>1,⟨0,h,D.one⟩,λj d=>absurd d (BD j)⟩
 | n+1,m,a,h=>by
   by_cases z:∀ i,i<m->a i n=0
   ·let ⟨c,o,e⟩:=aV D n m a ⋯;refine ⟨c,o,λj d=>?_⟩;by_cases q:j=n
    ·rw [q];exact Bw λi b=>by rw [z i b];ext
    ·exact e j ⋯
   ·let ⟨l,v,p⟩:∃ l,l<m/\a l n≠0:=Classical.byContradiction λx=>z λi b=>Classical.byContradiction λy=>x ⟨i,b,y⟩;let ⟨M,rfl⟩:∃ M,m=M+1:=⟨m - 1,⋯⟩;let ⟨c,⟨k,hk,r⟩,e⟩:=aV D n M (λi j=>a l n*a (if i=l then M else i) j - a (if i=l then M else i) n*a l j) ⋯
    let ⟨C,f,u⟩:∃ C:Nat->R,(∀ k,k<M->C (if k=l then M else k)=a l n*c k)/\C l = - su M (λk=>c k*a (if k=l then M else k) n):=
     ⟨λi=>if i=l then - su M (λk=>c k*a (if k=l then M else k) n) else a l n*c (if i=M then l else i),λk hk=>by
      let e:=swp (l:=l) hk;show (if (if k=l then M else k)=l then _ else a l n*c (if (if k=l then M else k)=M then l else (if k=l then M else k)))=_;rw [qZ (by split <;> omega),e],by show (if l=l then _ else _)=_;rw [pB rfl]⟩
    refine ⟨C,⟨if k=l then M else k,by split <;> omega,?_⟩,λj d=>?_⟩
    ·rw [f k hk];exact λy=>(D.mul y).elim p r
    ·rw [Yg _ (by omega:l<=M),u]
     rw [AU (g:=λi=>a l n*(c i*a (if i=l then M else i) j)) M λi b=>by
      rw [f i b];ext,BK]
     let w:su M (λi=>c i*(a l n*a (if i=l then M else i) j - a (if i=l then M else i) n*a l j))=a l n*su M (λi=>c i*a (if i=l then M else i) j) - su M (λk=>c k*a (if k=l then M else k) n)*a l j:=by
      rw [<-BK,<-Cd,<-Fj];exact AU M λi _=>by ext
     by_cases q:j=n
     ·rw [q];ext
     ·have:=e j ⋯;ext
def c8 (D:Dom R) {k:Nat} {W M:Nat->Nat->R} (h:∀ i,i<k->∀ j,j<k->su k (λt=>W i t*M t j)=dl i j) {v:Nat->R} (o:∀ j,j<k->su k (λt=>v t*M t j)=0):∀ t,t<k->v t=0:=by
 let ⟨c,⟨l,w,m⟩,e⟩:=aV D k (k+1) (λi t=>if i=k then v t else W i t) ⋯
 let n:∀ j,j<k->c j=0:=λj b=>by
  let a:su k (λt=>su (k+1) (λi=>c i*(if i=k then v t else W i t))*M t j)=0:=Bw λt d=>by rw [e t d];ext
  rw [AU (g:=λt=>su (k+1) (λi=>c i*((if i=k then v t else W i t)*M t j))) k λt _=>by rw [<-Cd];exact AU _ λi _=>by ext,Dk] at a;rw [AU (g:=λi=>c i*su k (λt=>(if i=k then v t else W i t)*M t j)) (k+1) λi _=>by rw [BK]] at a
  let p:su k (λi=>c i*su k (λt=>(if i=k then v t else W i t)*M t j))=c j:=by
   rw [AU (g:=λi=>c i*dl i j) k λi f=>by
    rw [AU (g:=λt=>W i t*M t j) k λt _=>by rw [qZ ⋯],h i f j b],Et,pB b]
  let q:su k (λt=>(if k=k then v t else W k t)*M t j)=0:=by
   rw [AU (g:=λt=>v t*M t j) k λt _=>by rw [pB rfl],o j b]
  let a:su k (λi=>c i*su k (λt=>(if i=k then v t else W i t)*M t j))+c k*su k (λt=>(if k=k then v t else W k t)*M t j)=0:=a;rw [p,q] at a;ext
 let r:l=k:=Classical.byContradiction λz=>m (n l ⋯);intro t d;have:=e t d;let u:su k (λi=>c i*(if i=k then v t else W i t))=0:=Bw λi f=>by rw [n i f];ext
 let this:su k (λi=>c i*(if i=k then v t else W i t))+c k*(if k=k then v t else W k t)=0:=this;rw [u,pB rfl] at this;exact (D.mul (show c k*v t=0 by ext)).elim (λz=>absurd z (r ▸ m)) id
def Ou (D:Dom R) {k:Nat} {W M:Nat->Nat->R} (h:∀ i,i<k->∀ j,j<k->su k (λt=>W i t*M t j)=dl i j):∀ i,i<k->∀ j,j<k->su k (λt=>M i t*W t j)=dl i j:=λi b j c=>by
 have:=c8 D h (v:=λj=>su k (λt=>M i t*W t j) - dl i j) (λs a=>by
  let d:∀ j,(su k (λt=>M i t*W t j) - dl i j)*M j s=su k (λt=>M i t*(W t j*M j s)) - dl i j*M j s:=λj=>by
   have:su k (λt=>M i t*(W t j*M j s))=su k (λt=>M i t*W t j)*M j s:=by
    rw [<-Cd];exact AU k λx _=>by ext
   clear h;ext
  rw [AU k λj _=>d j,Fj,Dk,Gy _ b];rw [AU (g:=λt=>M i t*dl t s) k λt e=>by rw [BK,h t e s a],Et,pB a];ext) j c
 ext
end
noncomputable def aN (q:Int):Setoid Int:=⟨λa b=>q∣a - b,λa=>⟨0,⋯⟩,λ{a b} h=>by let ⟨c,h⟩:=h;exact ⟨-c,by rw [Int.mul_neg,<-h];omega⟩,λ{a b c} h g=>by let ⟨x,h⟩:=h;let ⟨y,g⟩:=g;exact ⟨x+y,by rw [Int.mul_add,<-h,<-g];omega⟩⟩
noncomputable def Zm (q:Int):Type:=Quotient (aN q)
namespace Zm
variable {q:Int}
noncomputable def of (q a:Int):Zm q:=Quotient.mk (aN q) a
def of_eq {a b:Int}:of q a=of q b↔q∣a - b:=⟨λh=>Quotient.exact (s:=aN q) h,λh=>Quotient.sound (s:=aN q) h⟩
def sur (x:Zm q):∃ a,of q a=x:=Quotient.exists_rep (s:=aN q) x
noncomputable def add (x y:Zm q):Zm q:=Quotient.lift₂ (s₁:=aN q) (s₂:=aN q) (λa b=>of q (a+b)) (λa b c d h g=>of_eq.mpr (by let ⟨x,h⟩:=h;let ⟨y,g⟩:=g;exact ⟨x+y,by rw [Int.mul_add,<-h,<-g];omega⟩)) x y
def mulc {a b c d:Int} (h:q∣a - c) (g:q∣b - d):q∣a*b - c*d:=by
 let ⟨x,h⟩:=h;let ⟨y,g⟩:=g;refine ⟨x*b+c*y,?_⟩;let e:a=q*x+c:=by omega
 let f:b=q*y+d:=by omega
 ext
noncomputable def mul (x y:Zm q):Zm q:=Quotient.lift₂ (s₁:=aN q) (s₂:=aN q) (λa b=>of q (a*b)) (λa b c d h g=>of_eq.mpr (mulc h g)) x y
noncomputable def npow (x:Zm q):Nat->Zm q
 | 0=>of q 1
 | n+1=>mul (npow x n) x
noncomputable instance:Add (Zm q):=⟨add⟩
noncomputable instance:Mul (Zm q):=⟨mul⟩
noncomputable instance:Neg (Zm q):=⟨λx=>mul (of q (-1)) x⟩
noncomputable instance:Sub (Zm q):=⟨λx y=>add x (mul (of q (-1)) y)⟩
noncomputable instance:NatCast (Zm q):=⟨λn=>of q n⟩
noncomputable instance:IntCast (Zm q):=⟨λn=>of q n⟩
noncomputable instance (n:Nat):OfNat (Zm q) n:=⟨of q n⟩
noncomputable instance:Pow (Zm q) Nat:=⟨npow⟩
noncomputable instance:SMul Nat (Zm q):=⟨λn f=>mul (of q n) f⟩
noncomputable instance:SMul Int (Zm q):=⟨λn f=>mul (of q n) f⟩
def Yh (a b:Int):of q (a+b)=of q a+of q b:=rfl
def of_mul (a b:Int):of q (a*b)=of q a*of q b:=rfl
def a1 (x y:Zm q):add x y=add y x:=by
 let ⟨a,rfl⟩:=sur x;let ⟨b,rfl⟩:=sur y;exact congrArg (of q) (Int.add_comm a b)
def a2 (x y z:Zm q):add (add x y) z=add x (add y z):=by
 let ⟨a,rfl⟩:=sur x;let ⟨b,rfl⟩:=sur y;let ⟨c,rfl⟩:=sur z;exact congrArg (of q) (Int.add_assoc a b c)
def m1 (x y:Zm q):mul x y=mul y x:=by
 let ⟨a,rfl⟩:=sur x;let ⟨b,rfl⟩:=sur y;exact congrArg (of q) (Ci a b)
def m2 (x y z:Zm q):mul (mul x y) z=mul x (mul y z):=by
 let ⟨a,rfl⟩:=sur x;let ⟨b,rfl⟩:=sur y;let ⟨c,rfl⟩:=sur z;exact congrArg (of q) (Co a b c)
def m3 (x y z:Zm q):mul x (add y z)=add (mul x y) (mul x z):=by
 let ⟨a,rfl⟩:=sur x;let ⟨b,rfl⟩:=sur y;let ⟨c,rfl⟩:=sur z;exact congrArg (of q) (Int.mul_add a b c)
def m4 (x:Zm q):mul (of q 1) x=x:=by
 let ⟨a,rfl⟩:=sur x;exact congrArg (of q) (Int.one_mul a)
def m5 (x:Zm q):mul (of q 0) x=of q 0:=by
 let ⟨a,rfl⟩:=sur x;exact congrArg (of q) (ES a)
noncomputable instance:Lean.Grind.CommRing (Zm q) where
 add_zero x:=by
  let ⟨a,rfl⟩:=sur x
  exact congrArg (of q) (Int.add_zero a)
 add_comm:=a1
 add_assoc:=a2
 mul_assoc:=m2
 mul_comm:=m1
 mul_one x:=(m1 _ _).trans (m4 x)
 one_mul:=m4
 left_distrib:=m3
 right_distrib x y z:=by show mul (add x y) z=add (mul x z) (mul y z);rw [m1,m3,m1 z x,m1 z y]
 zero_mul:=m5
 mul_zero x:=(m1 _ _).trans (m5 x)
 pow_zero _:=rfl
 pow_succ _ _:=rfl
 ofNat_succ n:=congrArg (of q) (by show ((n+1:Nat):Int)=(n:Int)+1;omega)
 neg_add_cancel x:=by
  let ⟨a,rfl⟩:=sur x
  exact congrArg (of q) (show -1*a+a=((0:Nat):Int) by omega)
 sub_eq_add_neg _ _:=rfl
 neg_zsmul n x:=by
  let ⟨a,rfl⟩:=sur x
  exact congrArg (of q) (show -n*a = -1*(n*a) by rw [Int.neg_mul,Int.neg_mul,Int.one_mul])
 zsmul_natCast_eq_nsmul _ _:=rfl
 intCast_neg n:=congrArg (of q) (show -n = -1*n by omega)
def of_sub (a b:Int):of q (a - b)=of q a - of q b:=congrArg (of q) (show a - b=a + -1*b by omega)
def of_zero {a:Int}:of q a=0↔q∣a:=by
 let h:of q a=of q 0↔q∣a - 0:=of_eq;rw [Int.sub_zero] at h;exact h
def of_mod (a:Int):of q (a % q)=of q a:=of_eq.mpr ⟨-(a / q),by have:=Int.emod_def a q;rw [Int.mul_neg,this];omega⟩
theorem of_su (f:cY):∀ n,of q (su n f)=su n λi=>of q (f i)
 | 0=>rfl
 | n+1=>by
   show of q (su n f+f n)=su n (λi=>of q (f i))+of q (f n);rw [Yh,of_su f n]
def dom {p:Nat} (c:p≠1) (h:∀ a b:Int,(p:Int)∣a*b->(p:Int)∣a\/(p:Int)∣b):Dom (Zm (p:Int)):=⟨λz=>c (by
  have:=of_zero.mp (show of (p:Int) 1=0 from z);have:=Dt.mp (show (p:Int)∣((1:Nat):Int) from this);exact Nat.dvd_one.mp this),λ{a b} e=>by
 let ⟨x,rfl⟩:=sur a;let ⟨y,rfl⟩:=sur b;rw [<-of_mul,of_zero] at e;exact (h x y e).imp of_zero.mpr of_zero.mpr⟩
end Zm
section
variable {R:Type} [Lean.Grind.CommRing R]
structure RE (n w:Nat) (a:Nat->Nat->R) (col d:Nat) (o c:Nat->Nat) (u l:Nat->Nat->R):Prop where
 dn:d<=n
 on:∀ i,i<n->o i<n
 inj:∀ i j,i<n->j<n->o i=o j->i=j
 cl:∀ s,s<d->c s<col
 cr:∀ s t,s<t->t<d->c s<c t
 row:∀ i,i<d->∀ j,j<w->l i j=su d λt=>u i t*a (o t) j
 row2:∀ i,d<=i->i<n->∀ j,j<w->l i j=a (o i) j+su d λt=>u i t*a (o t) j
 piv:∀ s,s<d->∀ i,i<n->l i (c s)=dl i s
 zer:∀ i,d<=i->i<n->∀ j,j<col->l i j=0
 ech:∀ i,i<d->∀ j,j<c i->l i j=0
def RE.start (n w:Nat) (a:Nat->Nat->R) (c:Nat->Nat) (u:Nat->Nat->R):RE n w a 0 0 (λi=>i) c u a:=
 ⟨AX _,λ_ h=>h,λ_ _ _ _ h=>h,λs h=>absurd h (BD s),λs t _ h=>absurd h (BD t),λi h=>absurd h (BD i),λi _ _ j _=>by show a i j=a i j+0;ext,λs h=>absurd h (BD s),λ_ _ _ j h=>absurd h (BD j),λi h=>absurd h (BD i)⟩
variable {n w col d:Nat} {a u l:Nat->Nat->R} {o c:Nat->Nat}
def RE.skip (I:RE n w a col d o c u l) (h:∀ i,d<=i->i<n->l i col=0):RE n w a (col+1) d o c u l:=
 ⟨I.dn,I.on,I.inj,λs f=>Nat.lt_succ_of_lt (I.cl s f),I.cr,I.row,I.row2,I.piv,λi b e j g=>by
  rcases Ej.mp g with q | q
  ·exact I.zer i b e j q
  ·rw [q];exact h i b e,I.ech⟩
noncomputable def tw (x y i:Nat):Nat:=if i=x then y else if i=y then x else i
def K9 (x y:Nat):tw x y x=y:=by unfold tw;rw [pB rfl]
def Hn {x y i n:Nat} (b:x<n) (e:y<n) (f:i<n):tw x y i<n:=by unfold tw;split;exact e;split;exact b;exact f
def Yi {x y i:Nat} (h:i<x) (b:i<y):tw x y i=i:=by unfold tw;rw [qZ ⋯,qZ ⋯]
def Yj {x y i j:Nat} (h:tw x y i=tw x y j):i=j:=by unfold tw at h;split at h <;> split at h <;> (try split at h) <;> (try split at h) <;> omega
def LA {x y i:Nat} (h:x<i) (b:x<=y):x<=tw x y i/\tw x y i≠y:=by unfold tw;rw [qZ ⋯];split <;> omega
def Ow (f b:Nat->R) (z:R) (d:Nat):su (d+1) (λt=>(if t=d then z else f t)*b t)=su d (λt=>f t*b t)+z*b d:=by
 show su d (λt=>(if t=d then z else f t)*b t)+(if d=d then z else f d)*b d=_;rw [pB rfl,AU (f:=λt=>(if t=d then z else f t)*b t) d λt e=>by rw [qZ ⋯]]
def RE.step (I:RE n w a col d o c u l) {k:Nat} {y:R} {o' c':Nat->Nat} {l':Nat->Nat->R} (Q:col<w) (x:d<=k) (A:k<n) (M:l k col*y=1)
  (B:∀ i,i<n->o' i=o (tw d k i)) (F:∀ s,s<d->c' s=c s) (v:c' d=col) (H:∀ j,j<w->l' d j=l k j*y)
  (C:∀ i,i<n->i≠d->∀ j,j<w->l' i j=l (tw d k i) j - l (tw d k i) col*(l k j*y)):∃ W,RE n w a (col+1) (d+1) o' c' W l':=by
 let N:d<n:=by omega
 let D:∀ i,i<n->tw d k i<n:=λi b=>Hn N A b;let J:∀ i,i<d->tw d k i=i:=λi b=>Yi b ⋯;let S:∀ t,t<d->o' t=o t:=λt E=>by rw [B t ⋯,J t E]
 let O:o' d=o k:=by rw [B d N,K9]
 let kc:∀ s,s<d->l k (c s)=0:=λs P=>by rw [I.piv s P k A];unfold dl;rw [qZ ⋯]
 let K:∀ s,s<d->c s<col:=I.cl
 let m:∀ j,j<w->l k j*y=su (d+1) λt=>(if t=d then y else y*u k t)*a (o' t) j:=λj h=>by
  rw [Ow,O,I.row2 k x A j h,AU (f:=λt=>y*u k t*a (o' t) j) (g:=λt=>y*(u k t*a (o t) j)) d λt E=>by rw [S t E,Lean.Grind.Semiring.mul_assoc],BK,Lean.Grind.Semiring.right_distrib,Lean.Grind.CommSemiring.mul_comm y,Lean.Grind.CommSemiring.mul_comm y,Lean.Grind.Semiring.add_comm]
 let G:∀ f:Nat->R,∀ j,su d (λt=>f t*a (o t) j)=su (d+1) (λt=>(if t=d then 0 else f t)*a (o' t) j):=λf j=>by
  rw [Ow,AU (f:=λt=>f t*a (o' t) j) d λt E=>by rw [S t E],Lean.Grind.Semiring.zero_mul,Lean.Grind.Semiring.add_zero]
 refine ⟨λi t=>if i=d then (if t=d then y else y*u k t) else (if t=d then 0 else u (tw d k i) t) - l (tw d k i) col*(if t=d then y else y*u k t),N,λi b=>?_,λi j b h e=>?_,λs P=>?_,λs t X E=>?_,λi b j h=>?_,λi Y b j h=>?_,λs P i b=>?_,λi Y b j h=>?_,λi b j h=>?_⟩
 ·rw [B i b];exact I.on _ (D i b)
 ·rw [B i b,B j h] at e;exact Yj (I.inj _ _ (D i b) (D j h) e)
 ·by_cases q:s=d
  ·rw [q,v];omega
  ·rw [F s ⋯];have:=K s ⋯;omega
 ·rw [F s ⋯];by_cases q:t=d
  ·rw [q,v];exact K s ⋯
  ·rw [F t ⋯];exact I.cr s t X ⋯
 ·by_cases q:i=d
  ·rw [q,H j h,m j h];exact AU _ λt _=>by rw [pB rfl]
  ·let id:i<d:=by omega
   rw [C i ⋯ q j h,J i id,m j h,I.row i id j h,<-BK];rw [G (u i),<-Fj];exact AU _ λt _=>by rw [qZ q];ext
 ·let q:i≠d:=by omega
  let ⟨L,T⟩:=LA (y:=k) (show d<i by omega) x;rw [C i b q j h,m j h,I.row2 _ L (D i b) j h,B i b,<-BK];rw [G (u (tw d k i))]
  let Z:su (d+1) (λt=>(if i=d then (if t=d then y else y*u k t) else (if t=d then 0 else u (tw d k i) t) - l (tw d k i) col*(if t=d then y else y*u k t))*a (o' t) j)=su (d+1) (λt=>(if t=d then 0 else u (tw d k i) t)*a (o' t) j) - su (d+1) (λt=>l (tw d k i) col*((if t=d then y else y*u k t)*a (o' t) j)):=by
   rw [<-Fj];exact AU _ λt _=>by rw [qZ q];ext
  rw [Z];ext
 ·by_cases q:s=d
  ·rw [q,v];by_cases p:i=d
   ·rw [p,H _ Q,M];unfold dl;rw [pB rfl]
   ·rw [C i b p col Q,M];unfold dl;rw [qZ p];ext
  ·let sd:s<d:=by omega
   let U:c s<w:=by have:=K s sd;omega
   rw [F s sd];by_cases p:i=d
   ·rw [p,H _ U,kc s sd];unfold dl;rw [qZ ⋯];ext
   ·rw [C i b p (c s) U,kc s sd,I.piv s sd _ (D i b)];by_cases r:i<d
    ·rw [J i r];ext
    ·let ⟨L,T⟩:=LA (y:=k) (show d<i by omega) x;unfold dl;rw [qZ ⋯,qZ ⋯];ext
 ·let q:i≠d:=by omega
  let ⟨L,T⟩:=LA (y:=k) (show d<i by omega) x;rw [C i b q j ⋯];rcases Ej.mp h with z | z
  ·rw [I.zer _ L (D i b) j z,I.zer k x A j z];ext
  ·rw [z,M];ext
 ·by_cases q:i=d
  ·rw [q,v] at h;rw [q,H j ⋯,I.zer k x A j h];ext
  ·let id:i<d:=by omega
   rw [F i id] at h;have:=K i id;rw [C i ⋯ q j ⋯,J i id,I.ech i id j h,I.zer k x A j ⋯];ext
def RE.minor (I:RE n w a col d o c u l) (f:col<=w):∀ i,i<d->∀ s,s<d->su d (λt=>u i t*a (o t) (c s))=dl i s:=λi e s b=>by
 rw [<-I.row i e (c s) (by have:=I.cl s b;omega)];exact I.piv s b i (by have:=I.dn;omega)
end
section
variable {R:Type} [Lean.Grind.CommRing R]
variable {n w col d:Nat} {a u l:Nat->Nat->R} {o c:Nat->Nat}
def LB (h:∀ t,t<d->o t<n) (v:Nat->R) (b:Nat->R):su n (λr=>su d (λt=>v t*dl (o t) r)*b r)=su d λt=>v t*b (o t):=by
 rw [AU (g:=λr=>su d λt=>v t*(dl (o t) r*b r)) n λr _=>by rw [<-Cd];exact AU d λt _=>by rw [Lean.Grind.Semiring.mul_assoc],Dk];exact AU d λt e=>by rw [BK,Gy b (h t e)]
def RE.inverse {k:Nat} {M W:Nat->Nat->R} (D:Dom R) (H:∀ i,i<k->∀ j,j<k->su k (λt=>W i t*M t j)=dl i j) (A:∀ r,r<k->∀ j,j<k->a r j=M r j) (p:∀ r,r<k->∀ j,j<k->a r (k+j)=dl r j)
  (I:RE k (k+k) a (k+k) d o c u l):d=k/\∀ i,i<k->∀ j,j<k->su k (λt=>l i (k+t)*M t j)=dl i j:=by
 let J:d=k:=by
  have:=I.dn;refine EQ this (Nat.le_of_not_lt λq=>?_);let C:=I.on d q;let e:=I.row2 d (AV _) q (k+o d) ⋯
  rw [I.zer d (AV _) q _ ⋯,p _ C _ C,Bw λt E=>by
   rw [p _ (I.on t ⋯) _ C];unfold dl;rw [qZ λz=>by have:=I.inj t d ⋯ q z;omega,Lean.Grind.Semiring.mul_zero]] at e
  unfold dl at e;rw [pB rfl,Lean.Grind.Semiring.add_zero] at e;exact D.one e.symm
 subst J
 let U:∀ i,i<d->∀ j,j<d+d->l i j=su d λr=>su d (λt=>u i t*dl (o t) r)*a r j:=λi f j b=>by
  rw [LB (λt E=>I.on t E),I.row i f j b]
 let x:∀ i,i<d->∀ j,j<d->l i (d+j)=su d (λt=>u i t*dl (o t) j):=λi f j b=>by
  rw [U i f (d+j) ⋯,AU (g:=λr=>su d (λt=>u i t*dl (o t) r)*dl r j) d λr B=>by rw [p r B j b],Et (λr=>su d (λt=>u i t*dl (o t) r)),pB b]
 let one:∀ i,i<d->∀ j,j<d->l i j=su d λr=>l i (d+r)*M r j:=λi f j b=>by
  rw [U i f j ⋯];exact AU d λr B=>by rw [A r B j b,x i f r B]
 let K:∀ s,s<d->c s<d:=by
  by_cases z:d=0
  ·intro s h;omega
  let y:c (d - 1)<d:=Nat.lt_of_not_le λq=>by
   let L:=c8 D H (v:=λr=>l (d - 1) (d+r)) λj b=>by
    rw [<-one (d - 1) ⋯ j b];exact I.ech (d - 1) ⋯ j ⋯
   let e:=I.piv (d - 1) ⋯ (d - 1) ⋯;let Q:=I.cl (d - 1) ⋯;let F:=L (c (d - 1) - d) ⋯;simp only [show d+(c (d - 1) - d)=c (d - 1) by omega] at F;rw [F] at e;unfold dl at e;rw [pB rfl] at e;exact D.one e.symm
  intro s h;by_cases q:s=d - 1
  ·rw [q];exact y
  ·have:=I.cr s (d - 1) ⋯ ⋯;omega
 let G:∀ m s,s+m<d->c s+m<=c (s+m):=λm=>by
  induction m with
  | zero=>intro s _;exact AV _
  | succ m N=>
    intro s h;let A:=N s ⋯;let p:=I.cr (s+m) (s+(m+1)) ⋯ h;omega
 let O:∀ s,s<d->s<=c s:=λs h=>by have:=G s 0 ⋯;rw [Nat.zero_add] at this;omega
 let P:∀ s,s<d->c s=s:=λs h=>by
  let A:=G (d - 1 - s) s ⋯;let p:=K (d - 1) ⋯;rw [show s+(d - 1 - s)=d - 1 by omega] at A;have:=O s h;omega
 refine ⟨rfl,λi f j b=>?_⟩;rw [<-one i f j b];have:=I.piv j b i f;rw [P j b] at this;exact this
end
def bH {n:Nat} {o:Nat->Nat} (b:∀ i,i<n->o i<n) (a:∀ i j,i<n->j<n->o i=o j->i=j) {r:Nat} (c:r<n):∃ i,i<n/\o i=r:=by
 let ⟨i,j,d,f,e⟩:=php n (n+1) (λi=>if i=n then r else o i) (λi g=>by
  show (if i=n then r else o i)<n;by_cases q:i=n
  ·rw [pB q];exact c
  ·rw [qZ q];exact b i ⋯) ⋯
 let e:(if i=n then r else o i)=(if j=n then r else o j):=e;rw [qZ ⋯] at e;by_cases q:j=n
 ·rw [pB q] at e;exact ⟨i,⋯,e⟩
 ·rw [qZ q] at e;have:=a i j ⋯ ⋯ e;omega
section
variable {R:Type} [Lean.Grind.CommRing R]
variable {n w d:Nat} {a u l:Nat->Nat->R} {o c:Nat->Nat}
def RE.span (I:RE n w a w d o c u l) {r:Nat} (h:r<n):∃ z:Nat->R,∀ j,j<w->a r j=su d λt=>z t*a (o t) j:=by
 let ⟨i,b,rfl⟩:=bH I.on I.inj h;by_cases q:i<d
 ·exact ⟨λt=>dl i t,λj _=>(Gy (λt=>a (o t) j) q).symm⟩
 ·refine ⟨λt=>- u i t,λj f=>?_⟩;let e:=I.row2 i ⋯ b j f;rw [I.zer i ⋯ b j f] at e;rw [AU (g:=λt=>(-1)*(u i t*a (o t) j)) d λt _=>by ext,BK];ext
theorem RE.all (n w:Nat) (a:Nat->Nat->R) (f:∀ x:R,x≠0->∃ y,x*y=1):∀ b,b<=w->∃ (d:Nat) (o c:Nat->Nat) (u l:Nat->Nat->R),RE n w a b d o c u l
 | 0,_=>⟨0,_,λ_=>0,λ_ _=>0,a,RE.start n w a _ _⟩
 | b+1,h=>by
   let ⟨d,o,c,u,l,I⟩:=RE.all n w a f b ⋯;by_cases q:∀ i,d<=i->i<n->l i b=0
   ·exact ⟨d,o,c,u,l,I.skip q⟩
   ·let ⟨k,m,p,e⟩:∃ k,d<=k/\k<n/\l k b≠0:=Classical.byContradiction λx=>q λi r g=>Classical.byContradiction λy=>x ⟨i,r,g,y⟩;let ⟨y,v⟩:=f _ e
    let ⟨z,A⟩:=I.step (k:=k) (y:=y) (o':=λi=>o (tw d k i)) (c':=λs=>if s=d then b else c s) (l':=λi j=>if i=d then l k j*y else l (tw d k i) j - l (tw d k i) b*(l k j*y)) ⋯ m p v (λ_ _=>rfl)
     (λs B=>by show (if s=d then _ else _)=_;rw [qZ ⋯]) (by show (if d=d then _ else _)=_;rw [pB rfl]) (λj _=>by show (if d=d then _ else _)=_;rw [pB rfl]) (λi _ g j _=>by show (if i=d then _ else _)=_;rw [qZ g])
    exact ⟨_,_,_,z,_,A⟩
end
theorem LC {A B:Nat} {f g:cY}:∀ n,(∀ i,i<n->(f i).natAbs<=A)->(∀ i,i<n->(g i).natAbs<=B)->(su n λi=>f i*g i).natAbs<=n*(A*B)
 | 0,_,_=>by show (0:Int).natAbs<=_;omega
 | n+1,a,b=>by
   show (su n (λi=>f i*g i)+f n*g n).natAbs<=_;let d:=LC n (λi c=>a i ⋯) (λi c=>b i ⋯);let e:(f n*g n).natAbs<=A*B:=by rw [CV];exact Nat.mul_le_mul (a n ⋯) (b n ⋯)
   let h:=Int.natAbs_add_le (su n λi=>f i*g i) (f n*g n);rw [Nat.add_mul,Nat.one_mul];omega
def Ox {k A X:Nat} {M:Nat->cY} (F:∀ i,i<k->∀ j,j<k+1->(M i j).natAbs<=A) (G:1<=A) (B:X=(2*((k+1)*A)) ^ k) :
  ∃ x:cY,(∃ j,j<k+1/\x j≠0)/\(∀ j,(x j).natAbs<=X)/\∀ i,i<k->su (k+1) (λj=>M i j*x j)=0:=by
 let ⟨E,h⟩:∃ E,E=(k+1)*A:=⟨_,rfl⟩;rw [<-h] at B;let J:1<=E:=by rw [h];exact Nat.mul_pos ⋯ G
 let ⟨y,m⟩:∃ y:Nat->cY,∀ t j,y t j=(U' (X+1) (k+1) t).getD j 0:=⟨_,λ_ _=>rfl⟩
 let n:∀ t j,0<=y t j/\y t j<=(X:Int):=λt j=>by
  rw [m];rcases EB j (U' (X+1) (k+1) t).length with q | q
  ·rw [AJ,AT q];have:=Os (Nat.succ_pos X) (k+1) t _ (Cn q);show 0<=(U' (X+1) (k+1) t)[j]/\(U' (X+1) (k+1) t)[j]<=(X:Int);omega
  ·rw [AJ,BH q];show (0:Int)<=0/\(0:Int)<=X;omega
 let ⟨f,o⟩:∃ f:Nat->cY,∀ t i,f t i=su (k+1) λj=>M i j*y t j:=⟨_,λ_ _=>rfl⟩
 let r:∀ t i,i<k->(f t i).natAbs<=E*X:=λt i c=>by
  rw [o,h,Nat.mul_assoc];exact LC (k+1) (λj a=>F i c j a) (λj _=>by have:=n t j;omega)
 let ⟨e,u⟩:∃ e:Nat->Nat->Nat,∀ t i,e t i=(f t i+((E*X:Nat):Int)).toNat:=⟨_,λ_ _=>rfl⟩;let v:∀ t i,i<k->e t i<2*(E*X)+1:=λt i c=>by have:=r t i c;rw [u];omega
 let d:(2*(E*X)+1) ^ k<(X+1) ^ (k+1):=by
  let b:(2*(E*X)+1) ^ k<=(2*E*(X+1)) ^ k:=Nat.pow_le_pow_left (by rw [Nat.mul_add,Nat.mul_assoc];omega) k;rw [Nat.mul_pow,<-B] at b;rw [Bx,Df ((X+1) ^ k)];exact Eh b (Nat.mul_lt_mul_of_pos_right (Ch X) (Nat.pow_pos (Nat.succ_pos X)))
 let ⟨s,t,K,H,q⟩:=php _ _ (λt=>aS (2*(E*X)+1) k (e t)) (λi _=>Op k (e i) λj a=>v i j a) d;let I:=Oq k _ _ (λj a=>v s j a) (λj a=>v t j a) q;refine ⟨λj=>y t j - y s j,?_,λj=>by have:=n t j;have:=n s j;show (y t j - y s j).natAbs<=X;omega,λi c=>?_⟩
 ·refine Classical.byContradiction λz=>?_;let z:∀ j,j<k+1->y t j=y s j:=λj a=>Classical.byContradiction λw=>z ⟨j,a,by show y t j - y s j≠0;omega⟩
  have:t=s:=Ot (p:=X+1) (Nat.succ_pos X) (k+1) t s H ⋯ (List.ext_getElem (by rw [JN,JN]) λj b C=>by
   have:=z j (by rw [JN] at b;exact b);rw [m,m,AJ,AT b,AJ,AT C] at this;exact this)
  omega
 ·let b:=I i c;let C:=r t i c;let L:=r s i c;let D:f t i=f s i:=by rw [u,u] at b;omega
  rw [o,o] at D;rw [AU (g:=λj=>M i j*y t j - M i j*y s j) (k+1) λj _=>Int.mul_sub _ _ _,Fj,D];omega
structure Inv2 (p:Int) (k:Nat) (M T:Nat->cY):Prop where
 mt:∀ i,i<k->∀ j,j<k->p∣su k (λt=>M i t*T t j) - dl i j
 tm:∀ i,i<k->∀ j,j<k->p∣su k (λt=>T i t*M t j) - dl i j
theorem LD {p:Int} {f:cY}:∀ n,(∀ i,i<n->p∣f i)->p∣su n f
 | 0,_=>⟨0,by show (0:Int)=p*0;omega⟩
 | n+1,h=>Int.dvd_add (LD n λi a=>h i ⋯) (h n ⋯)
def Yk {p:Int} {f g:cY} (n:Nat) (h:∀ i,i<n->p∣f i - g i):p∣su n f - su n g:=by
 rw [<-Fj];exact LD n h
def Inv2.flip {p:Int} {k:Nat} {M T:Nat->cY} (I:Inv2 p k M T):Inv2 p k (λi j=>M j i) (λi j=>T j i):=
 ⟨λi a j b=>by rw [AU (g:=λt=>T j t*M t i) k λt _=>Ci _ _,K8];exact I.tm j b i a,λi a j b=>by rw [AU (g:=λt=>M j t*T t i) k λt _=>Ci _ _,K8];exact I.mt j b i a⟩
theorem Inv2.zero {p:Int} {k:Nat} {M T:Nat->cY} (I:Inv2 p k M T):∀ (e:Nat) {x:cY},(∀ i,i<k->p ^ e∣su k λj=>M i j*x j)->∀ j,j<k->p ^ e∣x j
 | 0,_,_=>λj _=>by rw [Int.pow_zero];exact Int.one_dvd _
 | e+1,x,h=>λj b=>by
   let o:=Inv2.zero I e (x:=x) λi a=>DX ⟨p,Int.pow_succ p e⟩ (h i a);let c:p ^ (e+1)∣su k λi=>T j i*su k λt=>M i t*x t:=LD k λi a=>DX (h i a) (Int.dvd_mul_left _ _);rw [AU (g:=λi=>su k λt=>T j i*(M i t*x t)) k λi _=>by rw [BK],Dk,AU (g:=λt=>(su k λi=>T j i*M i t)*x t) k λt _=>by rw [<-Cd];exact AU k λi _=>by rw [Co]] at c
   let d:p ^ (e+1)∣su k (λt=>(su k λi=>T j i*M i t)*x t) - su k (λt=>dl j t*x t):=Yk k λt f=>by
    rw [<-Int.sub_mul,Int.pow_succ,Ci];let ⟨y,m⟩:=I.tm j b t f;let ⟨z,n⟩:=o t f;exact ⟨y*z,by rw [m,n];ext⟩
   rw [Gy x b] at d;let ⟨y,m⟩:=c;let ⟨z,n⟩:=d;exact ⟨y - z,by rw [Int.mul_sub];omega⟩
def Inv2.null {p k:Nat} {M T:Nat->cY} (f:2<=p) (I:Inv2 (p:Int) k M T) {x:cY} (h:∀ i,i<k->(su k λj=>M i j*x j)=0):∀ j,j<k->x j=0:=λj a=>by
 let d:=I.zero (x j).natAbs (x:=x) (λi b=>by rw [h i b];exact Int.dvd_zero _) j a
 let c:p ^ (x j).natAbs∣(x j).natAbs:=by
  have:=ER.mpr d;rwa [Int.natAbs_pow,Ds] at this
 let e:(x j).natAbs<p ^ (x j).natAbs:=Nat.lt_pow_self ⋯;have:=Nat.eq_zero_of_dvd_of_lt c e;omega
def Inv2.small {p k A X:Nat} {M T:Nat->cY} {b:cY} (f:2<=p) (I:Inv2 (p:Int) k M T) (m:∀ i,i<k->∀ j,j<k->(M i j).natAbs<=A) (n:∀ i,i<k->(b i).natAbs<=A) (o:1<=A) (r:X=(2*((k+1)*A)) ^ k) :
  ∃ (x:cY) (D:Int),0<D/\D<=X/\(∀ j,(x j).natAbs<=X)/\∀ i,i<k->su k (λj=>M i j*x j)=b i*D:=by
 let ⟨x,⟨j,d,u⟩,c,v⟩:=Ox (k:=k) (A:=A) (M:=λi j=>if j=k then - b i else M i j) (λi a j d=>by
  show (if j=k then - b i else M i j).natAbs<=A;by_cases q:j=k
  ·rw [pB q];have:=n i a;omega
  ·rw [qZ q];exact m i a j ⋯) o r
 let e:∀ i,i<k->su k (λj=>M i j*x j)=b i*x k:=λi a=>by
  let h:su k (λj=>(if j=k then - b i else M i j)*x j)+(if k=k then - b i else M i k)*x k=0:=v i a;rw [pB rfl,AU (g:=λj=>M i j*x j) k λj d=>by rw [qZ ⋯],Int.neg_mul] at h;omega
 let w:x k≠0:=λz=>u (by
  by_cases q:j=k
  ·rw [q];exact z
  ·exact I.null f (x:=x) (λi a=>by rw [e i a,z,EC]) j ⋯)
 let y:=c k;rcases Int.lt_or_gt_of_ne w with q | q
 ·exact ⟨λj=>- x j,- x k,⋯,⋯,λj=>by have:=c j;show (- x j).natAbs<=X;omega,λi a=>by
   rw [AU (g:=λj=>(-1)*(M i j*x j)) k λj _=>by rw [Int.mul_neg,Int.neg_mul,Int.one_mul],BK,e i a,Int.mul_neg];omega⟩
 ·exact ⟨x,x k,q,⋯,c,e⟩
structure Eu (m w one oth s t:Int):Prop where
 s0:0<=s
 t1:1<=t
 o0:0<=oth
 lt:oth<one
 det:one*t+oth*s=m
 sg:(m∣oth - t*w/\m∣one+s*w)\/(m∣oth+t*w/\m∣one - s*w)
def Eu.start {m w:Int} (a:0<=w) (b:w<m):Eu m w m w 0 1:=
 ⟨⋯,⋯,a,b,⋯,.inl ⟨⟨0,⋯⟩,⟨1,⋯⟩⟩⟩
def Eu.next {m w one a s t:Int} (E:Eu m w one a s t) (h:0<a):Eu m w a (one - one / a*a) t (s+one / a*t):=by
 let r:one - one / a*a=one % a:=by rw [Int.emod_def,Ci]
 let b:0<=one / a:=Int.ediv_nonneg (by have:=E.lt;omega) E.o0;let f:0<=one / a*t:=Ez b (by have:=E.t1;omega);let c:1<=one / a:=(Int.le_ediv_iff_mul_le h).mpr (by have:=E.lt;omega);let g:1*t<=one / a*t:=ED c (by have:=E.t1;omega);generalize one / a=q at *;refine ⟨by have:=E.t1;omega,by have:=E.t1;have:=E.s0;omega,by rw [r];exact CO _ ⋯,by rw [r];exact CW _ h,?_,?_⟩
 ·have:=E.det;ext
 ·rcases E.sg with ⟨⟨x,d⟩,⟨y,e⟩⟩ | ⟨⟨x,d⟩,⟨y,e⟩⟩
  ·exact .inr ⟨⟨y - q*x,()⟩,⟨x,()⟩⟩
  ·exact .inl ⟨⟨y - q*x,()⟩,⟨x,()⟩⟩
def Oy {m w one b s t u v:Int} (h:one*t+b*s=m) (r:1<=t) (i:0<=b) (A:0<m) (B:0<v) (j:m∣b - t*w) (k:m∣one+s*w) (g:m∣v*w - u) (sz:(u.natAbs:Int)*t+b*v<m):∃ c,0<c/\v=t*c/\u=b*c:=by
 let C:0<=b*v:=Ez i ⋯
 let z:u*t - b*v=0:=by
  let d:m∣u*t - b*v:=by
   let ⟨x,o⟩:=j;let ⟨y,p⟩:=g;exact ⟨- (x*v) - y*t,()⟩
  let q:(u*t - b*v).natAbs<m.natAbs:=by
   let a1:(u*t).natAbs=u.natAbs*t.natAbs:=CV u t;let a2:((u.natAbs*t.natAbs:Nat):Int)=(u.natAbs:Int)*t:=by push_cast;rw [show ((t.natAbs:Nat):Int)=t by omega]
   generalize u.natAbs*t.natAbs=n at *;omega
  exact Int.eq_zero_of_dvd_of_natAbs_lt_natAbs d q
 let ⟨c,D⟩:m∣one*v+s*u:=by
  let ⟨x,o⟩:=k;let ⟨y,p⟩:=g;exact ⟨x*v - y*s,()⟩
 let e:m*v=m*(t*c):=by ext
 let f:m*u=m*(b*c):=by ext
 let e:=Ft ⋯ e;let f:=Ft ⋯ f;refine ⟨c,Int.pos_of_mul_pos_right (a:=t) ⋯ ⋯,e,f⟩
def Eu.pair {m w one a s t u v:Int} (E:Eu m w one a s t) (g:0<m) (h:m∣v*w - u) (i:0<v) (sz:(u.natAbs:Int)*t+a*v<m):∃ c y:Int,0<c/\v=t*c/\y*c=u/\m∣y - t*w:=by
 rcases E.sg with ⟨b,d⟩ | ⟨b,d⟩
 ·let ⟨c,e,f,j⟩:=Oy E.det E.t1 E.o0 g i b d h sz;exact ⟨c,a,e,f,j.symm,b⟩
 ·let ⟨c,e,f,j⟩:=Oy (w:=-w) (u:=-u) E.det E.t1 E.o0 g i (by rw [Int.mul_neg,Int.sub_neg];exact b) (by rw [Int.mul_neg];exact d) (by let ⟨x,k⟩:=h;exact ⟨-x,()⟩) (by rw [Int.natAbs_neg];exact sz);exact ⟨c,- a,e,f,(),by let ⟨x,k⟩:=b;exact ⟨-x,()⟩⟩
def Eu.fits {m w one b s t u v a X:Int} (E:Eu m w one b s t) (d:b<=a) (lo:a<one) (h:a*a<=m) (c:4*X<=a) (e:(u.natAbs:Int)<=X) (f:v<=X) (i:0<v):(u.natAbs:Int)*t+b*v<m:=by
 let j:=E.t1;let g:=E.o0;let k:(u.natAbs:Int)*t<=X*t:=ED e ⋯;let n:b*v<=a*X:=Int.le_trans (ED d ⋯) (ET f ⋯);let o:4*X*t<=a*t:=ED c ⋯;let p:a*t<=one*t:=ED ⋯ ⋯;let q:a*(4*X)<=a*a:=ET c ⋯;let r:0<=b*s:=Ez g E.s0;let x:=E.det;let y:4*X*t=4*(X*t):=Co _ _ _;let z:a*(4*X)=4*(a*X):=by rw [<-Co,Ci a 4,Co]
 have:0<a*X:=Bh ⋯ ⋯;omega
def domQ:Dom Rat:=⟨∅,λ{a b} e=>by
 by_cases h:a=0
 ·exact .inl h
 ·refine .inr ?_;have:a⁻¹*(a*b)=0:=by rw [e];ext
  rw [<-Rat.mul_assoc,Rat.inv_mul_cancel a h] at this;ext⟩
def Yl (x:Rat) (h:x≠0):∃ y,x*y=1:=⟨x⁻¹,Rat.mul_inv_cancel x h⟩
theorem GN (f:cY):∀ n,((su n f:Int):Rat)=su n λi=>(f i:Rat)
 | 0=>rfl
 | n+1=>by
   show ((su n f+f n:Int):Rat)=su n (λi=>(f i:Rat))+(f n:Rat);rw [Rat.intCast_add,GN f n]
def Fk {a b:Int} (h:(a:Rat)=(b:Rat)):a=b:=Rat.intCast_inj.mp h
theorem Oz (v:cZ):∀ n,∃ (D:Int) (V:cY),D≠0/\∀ i,i<n->(V i:Rat)=(D:Rat)*v i
 | 0=>⟨1,λ_=>0,∅,λi h=>absurd h (BD i)⟩
 | n+1=>by
   let ⟨D,V,g,h⟩:=Oz v n;let b:((v n).den:Int)≠0:=by have:=(v n).den_nz;omega
   let e:(v n)*((v n).den:Rat)=((v n).num:Rat):=by
    let c:((v n).num:Rat) / (((v n).den:Int):Rat)=v n:=(Rat.divInt_eq_div (v n).num ((v n).den:Int)).symm.trans (Rat.num_divInt_den (v n));let j:(((v n).den:Int):Rat)=((v n).den:Rat):=rfl;let d:(((v n).den:Int):Rat)≠0:=λz=>b (Fk z);rw [j] at c d;have:=Rat.div_mul_cancel (a:=((v n).num:Rat)) d;rw [c] at this;exact this
   refine ⟨D*((v n).den:Int),λi=>if i=n then D*(v n).num else V i*((v n).den:Int),EU g b,λi k=>?_⟩;let f:(((v n).den:Int):Rat)=((v n).den:Rat):=Rat.intCast_natCast _;by_cases q:i=n
   ·show ((if i=n then D*(v n).num else _:Int):Rat)=_;rw [pB q,q,B6,B6,f];ext
   ·show ((if i=n then _ else V i*((v n).den:Int):Int):Rat)=_;rw [qZ q,B6,B6,h i ⋯,f];ext
def RE.dw {R:Type} [Lean.Grind.CommRing R] {n w d:Nat} {a u l:Nat->Nat->R} {o c:Nat->Nat} (I:RE n w a w d o c u l):d<=w:=by
 let b:∀ m,m<d->m<=c m:=λm=>by
  induction m with
  | zero=>intro _;omega
  | succ m e=>
    intro h;let f:=e ⋯;let g:=I.cr m (m+1) ⋯ h;omega
 by_cases z:d=0
 ·omega
 ·let f:=b (d - 1) ⋯;let g:=I.cl (d - 1) ⋯;omega
def Ym {n w A:Nat} {b:Nat->cY} (G:∀ r,r<n->∀ j,j<w->(b r j).natAbs<=A) (H:1<=A) :
  ∃ (d:Nat) (o c:Nat->Nat) (D:cY),d<=w/\(∀ t,t<d->o t<n)/\(∀ s,s<d->c s<w)/\(∀ s,s<d->D s≠0/\(D s).natAbs<=(2*((d+1)*A)) ^ d)/\(∀ s,s<d->∃ x:cY,∀ a,a<d->su d (λt=>x t*b (o t) (c a))=D s*dl s a)/\
    ∀ i,i<n->∃ z:cZ,∀ j,j<w->(b i j:Rat)=su d (λt=>z t*(b (o t) j:Rat)):=by
 let ⟨d,o,c,u,l,I⟩:=RE.all n w (λr j=>(b r j:Rat)) Yl w (AV _);let R:=I.dn;let U:=I.minor (AV _);let J:=Ou domQ (W:=u) (M:=λt s=>(b (o t) (c s):Rat)) U;let C:∀ s,s<d->c s<w:=λs p=>I.cl s p
 let f:∀ s,s<d->∃ (D:Int) (x:cY),(D≠0/\D.natAbs<=(2*((d+1)*A)) ^ d)/\∀ a,a<d->su d (λt=>x t*b (o t) (c a))=D*dl s a:=λs p=>by
  let ⟨x,⟨j,S,K⟩,L,N⟩:=Ox (k:=d) (A:=A) (M:=λa t=>if t=d then - dl s a else b (o t) (c a)) (λa m t B=>by
   show (if t=d then - dl s a else b (o t) (c a)).natAbs<=A;by_cases q:t=d
   ·rw [pB q];unfold dl;split <;> (show Int.natAbs _<=A) <;> simp <;> omega
   ·rw [qZ q];exact G _ (I.on t ⋯) _ (C a m)) H rfl
  let e:∀ a,a<d->su d (λt=>x t*b (o t) (c a))=x d*dl s a:=λa m=>by
   let h:su d (λt=>(if t=d then - dl s a else b (o t) (c a))*x t)+(if d=d then - dl s a else b (o d) (c a))*x d=0:=N a m;rw [pB rfl,AU (g:=λt=>x t*b (o t) (c a)) d λt B=>by rw [qZ ⋯,Ci]] at h;ext
  let O:x d≠0:=λz=>K (by
   by_cases q:j=d
   ·rw [q];exact z
   ·let v:j<d:=by omega
    refine Fk ?_
    let P:∀ a,a<d->su d (λt=>(x t:Rat)*(b (o t) (c a):Rat))=0:=λa m=>by
     have:=e a m;rw [z,ES] at this;have:=congrArg (λy:Int=>(y:Rat)) this;simp only [GN] at this;rw [AU (g:=λt=>(x t:Rat)*(b (o t) (c a):Rat)) d λt _=>B6 _ _] at this;exact this
    let E:su d (λa=>su d (λt=>(x t:Rat)*(b (o t) (c a):Rat))*u a j)=0:=Bw λa m=>by rw [P a m,Rat.zero_mul]
    rw [AU (g:=λa=>su d λt=>(x t:Rat)*((b (o t) (c a):Rat)*u a j)) d λa _=>by rw [<-Cd];exact AU d λt _=>by rw [Rat.mul_assoc],Dk,AU (g:=λt=>(x t:Rat)*dl t j) d λt B=>by rw [BK,J t B j v],Et,pB v] at E;exact E)
  exact ⟨x d,x,⟨O,L d⟩,e⟩
 let ⟨D,F⟩:∃ D:cY,∀ s (h:s<d),D s=Classical.choose (f s h):=⟨λs=>if h:s<d then Classical.choose (f s h) else 1,λs h=>dif_pos h⟩;refine ⟨d,o,c,D,I.dw,λt B=>I.on t ⋯,C,λs p=>?_,λs p=>?_,λi Q=>I.span Q⟩
 ·rw [F s p];exact (Classical.choose_spec (Classical.choose_spec (f s p))).1
 ·rw [F s p];exact ⟨_,(Classical.choose_spec (Classical.choose_spec (f s p))).2⟩
noncomputable def pd:Nat->(cY)->Int
 | 0,_=>1
 | n+1,f=>pd n f*f n
theorem O0 {f:cY}:∀ n,(∀ s,s<n->f s≠0)->pd n f≠0
 | 0,_=>Int.one_ne_zero
 | n+1,h=>EU (O0 n λs a=>h s ⋯) (h n ⋯)
theorem O3 {f:cY}:∀ {n s:Nat},s<n->f s∣pd n f
 | n+1,s,h=>by
   by_cases q:s=n
   ·rw [q];exact ⟨pd n f,Ci _ _⟩
   ·exact DX (O3 (n:=n) ⋯) ⟨f n,rfl⟩
theorem O4 {f:cY} {X:Nat}:∀ n,(∀ s,s<n->(f s).natAbs<=X)->(pd n f).natAbs<=X ^ n
 | 0,_=>AV _
 | n+1,h=>by
   show (pd n f*f n).natAbs<=_;rw [CV,Bx];exact Nat.mul_le_mul (O4 n λs a=>h s ⋯) (h n ⋯)
noncomputable def bn:Nat->Nat->Nat
 | _,0=>1
 | 0,_+1=>0
 | n+1,k+1=>bn n k+bn n (k+1)
def JO (n:Nat):bn n 0=1:=by cases n <;> rfl
theorem Ho:∀ n k:Nat,(k+1)*bn (n+1) (k+1)=(n+1)*bn n k
 | 0,0=>rfl
 | 0,k+1=>by show (k+2)*(0+0)=1*0;omega
 | n+1,k=>by
   show (k+1)*(bn (n+1) k+bn (n+1) (k+1))=_;cases k with
   | zero=>
     let h:=Ho n 0;rw [JO] at h ⊢;omega
   | succ k=>
     let c:=Ho n k;let d:=Ho n (k+1);let e:bn (n+1) (k+1)=bn n k+bn n (k+1):=rfl;generalize bn (n+1) (k+1+1)=x at *;generalize bn (n+1) (k+1)=y at *;generalize bn n k=a at *;generalize bn n (k+1)=b at *;ext
theorem aW {M N:Nat} (h:∀ m,0<m->m<=N->m∣M):∀ k n:Nat,k<=n->n+1<=N->∃ t:Int,t*(((n:Int)+1)*(bn n k:Int))=(M:Int)
 | 0,n,_,d=>by
   let ⟨t,e⟩:=h (n+1) ⋯ d;refine ⟨(t:Int),?_⟩;rw [JO,e];push_cast;ext
 | k+1,0,hk,_=>absurd hk ⋯
 | k+1,n+1,hk,d=>by
   let ⟨f,p⟩:=aW h k n ⋯ ⋯;let ⟨g,i⟩:=aW h k (n+1) ⋯ d;refine ⟨f - g,?_⟩;let q:((k:Int)+1)*(bn (n+1) (k+1):Int)=((n:Int)+1)*(bn n k:Int):=by exact_mod_cast Ho n k
   let r:((n:Int)+1 - k)*(bn (n+1) k:Int)=((n:Int)+1)*(bn n k:Int):=by
    cases k with
    | zero=>rw [JO,JO];push_cast;omega
    | succ j=>
      let u:((j:Int)+1)*(bn (n+1) (j+1):Int)=((n:Int)+1)*(bn n j:Int):=by exact_mod_cast Ho n j
      let v:(bn (n+1) (j+1):Int)=(bn n j:Int)+(bn n (j+1):Int):=by
       have:bn (n+1) (j+1)=bn n j+bn n (j+1):=rfl;omega
      push_cast;ext
   push_cast at i ⊢;let o:((k:Int)+1)≠0:=by omega
   refine Ft o ?_;generalize (bn (n+1) (k+1):Int)=b at *;generalize (bn n k:Int)=a at *;generalize (bn (n+1) k:Int)=c at *;ext
theorem O5:∀ n:Nat,2 ^ n<=bn (2*n) n
 | 0=>AV _
 | n+1=>by
   let a:=O5 n;let e:2*(n+1)=2*n+1+1:=by omega
   rw [e,Bx];let b:bn (2*n+1+1) (n+1)=bn (2*n+1) n+bn (2*n+1) (n+1):=rfl;let c:bn (2*n+1) (n+1)=bn (2*n) n+bn (2*n) (n+1):=rfl
   let d:bn (2*n) n<=bn (2*n+1) n:=by
    cases n with
    | zero=>exact AV _
    | succ m=>
      show _<=bn (2*(m+1)) m+bn (2*(m+1)) (m+1);omega
   omega
def Yn {M n:Nat} (a:0<M) (h:∀ m,0<m->m<=2*n+1->m∣M):2 ^ n<=M:=by
 let ⟨t,c⟩:=aW h n (2*n) ⋯ ⋯;let b:=O5 n;let e:0<2 ^ n:=Nat.pow_pos ∅;let d:(bn (2*n) n:Int)∣(M:Int):=⟨t*(((2*n:Nat):Int)+1),by rw [<-c];ext⟩;have:=Nat.le_of_dvd a (Dt.mp d);omega
theorem Yo:∀ m:Nat,2<=m->∃ q,Pr q/\q∣m:=by
 intro m
 induction m using Nat.strongRecOn with
 | _ m c=>
   intro h;by_cases p:Pr m
   ·exact ⟨m,p,Nat.dvd_refl m⟩
   ·let ⟨d,a,g,i⟩:∃ d,d∣m/\d≠1/\d≠m:=Classical.byContradiction λz=>p ⟨h,λd b=>Classical.byContradiction λy=>z ⟨d,b,λe=>y (.inl e),λe=>y (.inr e)⟩⟩;have:=Nat.le_of_dvd ⋯ a;let j:d≠0:=λz=>by rw [z] at a;have:=Nat.eq_zero_of_zero_dvd a;omega
    let ⟨q,f,b⟩:=c d ⋯ ⋯;exact ⟨q,f,Nat.dvd_trans b a⟩
noncomputable def aq:Nat->Nat
 | 0=>1
 | n+1=>(n+1)*aq n
theorem O6:∀ n,0<aq n
 | 0=>Nat.one_pos
 | n+1=>Nat.mul_pos (Nat.succ_pos n) (O6 n)
theorem O7:∀ {n m:Nat},0<m->m<=n->m∣aq n
 | 0,_,h,a=>absurd h ⋯
 | n+1,m,h,a=>by
   by_cases q:m=n+1
   ·rw [q];exact ⟨aq n,rfl⟩
   ·exact Nat.dvd_trans (O7 h ⋯) ⟨n+1,Df _ _⟩
theorem O8 {b:Nat}:∀ {n:Nat},n<=2 ^ b->aq n<=2 ^ (b*n)
 | 0,_=>Nat.one_le_two_pow
 | n+1,h=>by
   show (n+1)*aq n<=_;rw [Nat.mul_succ,Dq,Df (n+1)];exact Nat.mul_le_mul (O8 ⋯) h
theorem az {F:Nat} (h:∀ q,Pr q->q<2 ^ 61->q∣F):∀ e m:Nat,0<m->m<2 ^ e->m<2 ^ 61->m∣F ^ e
 | 0,m,f,a,_=>by
   have:m<1:=a;omega
 | e+1,m,f,a,k=>by
   by_cases q:m=1
   ·rw [q];exact Nat.one_dvd _
   ·let ⟨q,b,c,d⟩:=Yo m ⋯;let g:=b.two;let n:c≠0:=λz=>by rw [z] at d;omega
    let o:2*c<=q*c:=CI c g;let i:q*1<=q*c:=E3 q ⋯;rw [Bx] at a;let j:=az h e c ⋯ ⋯ ⋯;rw [d,Df,Bx];exact Nat.mul_dvd_mul j (h q b ⋯)
def Yp {D:Nat} (g:0<D) (h:D<=2 ^ 1000000):∃ q,Pr q/\2 ^ 31<q/\q<2 ^ 61/\¬ q∣D:=by
 refine Classical.byContradiction λi=>?_
 let all:∀ q,Pr q->q<2 ^ 61->q∣aq (2 ^ 31)*D:=λq e j=>by
  rcases EB (2 ^ 31) q with c | c
  ·exact Nat.dvd_trans (Classical.byContradiction λz=>i ⟨q,e,c,j,z⟩) ⟨aq (2 ^ 31),Df _ _⟩
  ·exact Nat.dvd_trans (O7 (by have:=e.two;omega) c) ⟨D,rfl⟩
 let ⟨N,v⟩:∃ N:Nat,N=576460752303423488:=⟨_,rfl⟩;let ⟨E,k⟩:∃ E:Nat,E=66571993088:=⟨_,rfl⟩
 let o:aq (2 ^ 31)<=2 ^ E:=by
  have:=O8 (b:=31) (n:=2 ^ 31) (AV _);rw [show 31*2 ^ 31=E by rw [k]] at this;exact this
 let p:aq (2 ^ 31)*D<=2 ^ (E+1000000):=by
  rw [Dq];exact Nat.mul_le_mul o h
 let d:0<aq (2 ^ 31)*D:=Nat.mul_pos (O6 _) g;generalize aq (2 ^ 31)*D=F at *;let r:=Yn (M:=F ^ 61) (n:=N) (Nat.pow_pos d) λm u w=>az all 61 m u ⋯ ⋯;let f:F ^ 61<=(2 ^ (E+1000000)) ^ 61:=Nat.pow_le_pow_left p 61;rw [<-Nat.pow_mul] at f;have:=(Nat.pow_le_pow_iff_right (a:=2) ∅).mp (BM r f);omega
end Bs
namespace Bs
open PySem L2
abbrev eA (Q:VK):Ends:={ nx:=λ_ h=>Q .non h,rt:=Q }
noncomputable def B1 (K:W.Frag):Addr:=match W.nsIn K PySem.mainGlobals "Core" with | some (↥a)=>a | _=>0
noncomputable def sr (l:cF):Sr:=⟨C_ l⟩
noncomputable def si (ns:cL):Sr:=⟨λk=>(co ns k:Rat)⟩
abbrev Nm (H:Hp) (p:Addr) (t d:Int):Prop:=H p=some (.tup [.int t,.int d])
def GO (_:W.Frag):Sp:=λc H Q _=>∃ a b:Int,c=[.int a,.int b]/\Q (.int ((Int.gcd a b:Nat):Int)) H
def JP (K:W.Frag):Sp:=λc H Q _=>∃ (a:Addr) (b:cL),c=[.ref a]/\SqL K H a (~~~b)/\↑b<=63/\∀ d,Q (.bl true) d
noncomputable def BF (n:Nat) (f:cY):cJ:=((List.range n).map f).map V.int
noncomputable def DT (ns:cL):Nat->Nat
 | 0=>0
 | m+1=>if ns.getD m 1=0 then DT ns m else m+1
noncomputable def DJ (ns:cL):cL:=ns.take (DT ns ↑ns)
def Pl (H:Hp) (r:Addr) (L:cF):Prop:=∃ a,H r=some (.tup a)/\Nums H a L
def Hr (_:W.Frag):Sp:=λb H Q _=>∃ (p:Addr) (a:cL),b=[.ref p]/\H p=some (.lst (~~~a))/\∀ r,H r=none->Q (.ref r) (upd H r (.lst ((DJ a).map V.int)))
def Tz (ns:cL):Prop:=ns=[]\/co ns (↑ns - 1)≠0
noncomputable def SDs (H:Hp):cJ->List (cL)->Prop
 | [],[]=>True
 | x::a,r::b=>(∃ p,x=.ref p/\H p=some (.lst (~~~r)))/\SDs H a b
 | _,_=>False
def SD (H:Hp) (p:Addr) (b:List (cL)):Prop:=∃ a,H p=some (.lst a)/\SDs H a b
def LE (_:W.Frag):Sp:=λe H Q _=>∃ (p:Addr) (a:cL) (b:Int),e=[.ref p,.int b]/\H p=some (.lst (~~~a))/\↑a<=1000/\∀ (g:Int) (c:Hp),Same H c->0<=g->g∣b->(∀ z∈a,g∣z)->(∀ d:Int,d∣b->(∀ z∈a,d∣z)->d∣g)->Q (.int g) c
def LF (_:W.Frag):Sp:=λb H Q _=>∃ (p:Addr) (a:cL) (g:Int),b=[.ref p,.int g]/\H p=some (.lst (~~~a))/\(0<g\/a=[])/\↑a<=1000/\∀ r,H r=none->Q (.ref r) (upd H r (.lst ((a.map (·/ g)).map V.int)))
def LG (_:W.Frag):Sp:=λe H Q _=>∃ (p q:Addr) (a b:cL) (f w:Int) (s:Nat),e=[.ref p,.int f,.ref q,.int w,.int (s:Int)]/\H p=some (.lst (~~~a))/\H q=some (.lst (~~~b))/\↑a<=1000/\s+↑b<=1000/\Bd 60000000 f/\Bd 60000000 w/\(∀ z∈a,Bd 60000000 z)/\(∀ z∈b,Bd 60000000 z)/\
 ∀ (r:Addr) (c:cL) (d:Hp),Same H d->d r=some (.lst (~~~c))->Tz c->(∀ k,co c k=f*co a k - w*BJ s (co b) k)->Q (.ref r) d
def JQ (_:W.Frag):Sp:=λb H Q _=>∃ a p:Int,b=[.int a,.int p]/\2<=p/\Bd 45000 p/\∀ r:Int,0<=r->r<p->(Int.gcd a p=1->p∣r*a - 1)->Q (.int r) H
def JR (_:W.Frag):Sp:=λb H Q _=>∃ (p:Addr) (a:cL) (m:Int),b=[.ref p,.int m]/\H p=some (.lst (~~~a))/\0<m/\↑a<=1000/\∀ r,H r=none->Q (.ref r) (upd H r (.lst ((a.map (·% m)).map V.int)))
def Md (m:Int) (a:cL) (f:cY):Prop:=(∀ z∈a,0<=z/\z<m)/\∀ k,m∣co a k - f k
def LH (_:W.Frag):Sp:=λd H Q _=>∃ (p:Addr) (a:cL) (m:Int),d=[.ref p,.int m]/\H p=some (.lst (~~~a))/\0<m/\↑a<=1000/\∀ (r:Addr) (b:cL) (c:Hp),Same H c->c r=some (.lst (~~~b))->Tz b->↑b<=↑a->Md m b (co a)->Q (.ref r) c
def LI (_:W.Frag):Sp:=λd H Q _=>∃ (q:Addr) (a:cL) (p:Nat),d=[.ref q,.int (p:Int)]/\H q=some (.lst (~~~a))/\2<=p/\Bd 45000 (p:Int)/\↑a<=1000/\(∀ z∈a,Bd 60000000 z)/\(a≠[]->Int.gcd (co a (↑a - 1)) (p:Int)=1)/\
 ∀ (r:Addr) (b:cL) (f:Int) (c:Hp),Same H c->c r=some (.lst (~~~b))->↑b=↑a->(a≠[]->co b (↑b - 1)=1)->Md (p:Int) b (λk=>f*co a k)->Q (.ref r) c
def LJ (_:W.Frag):Sp:=λg H Q _=>∃ (p q:Addr) (f a:cL) (m:Int) (b:Nat),g=[.ref p,.ref q,.int m]/\H p=some (.lst (~~~f))/\H q=some (.lst (~~~a))/\0<↑a/\co a (↑a - 1)=1/\0<m/\Bd b m/\(∀ z∈a,Bd b z)/\b<=60000000/\↑f<=1000/\↑a<=1000/\
 ∀ (t r s:Addr) (d e:cL) (c:Hp),Same H c->c t=some (.tup [.ref r,.ref s])->c r=some (.lst (~~~d))->c s=some (.lst (~~~e))->Tz d->Tz e->↑e<↑a->Md m e (λk=>co f k - cvL d (co a) k)->(∀ z∈d,0<=z/\z<m)->Q (.ref t) c
def LK (_:W.Frag):Sp:=λf H Q _=>∃ (p q:Addr) (d a:cL) (m:Int) (b:Nat),f=[.ref p,.ref q,.int m]/\H p=some (.lst (~~~d))/\H q=some (.lst (~~~a))/\0<↑a/\co a (↑a - 1)=1/\0<m/\Bd b m/\(∀ z∈a,Bd b z)/\b<=60000000/\↑d<=1000/\↑a<=1000/\
 ∀ (s:Addr) (g c:cL) (e:Hp),Same H e->e s=some (.lst (~~~c))->Tz c->↑c<↑a->Md m c (λk=>co d k - cvL g (co a) k)->Q (.ref s) e
def JS (_:W.Frag):Sp:=λa H Q _=>∃ w p:Int,a=[.int w,.int p]/\0<p/\∀ r:Int,p∣r - w->2*r.natAbs<=p.natAbs->Q (.int r) H
structure Gq (b c:Nat) (l:cF):Prop where
 low:Am l
 nz:Nz l
 ov:∃ M,Ov l M/\Bd c M/\∀ z∈F_ l M,Bd b z
noncomputable def ac (g:cL):cF:=g.map λn=>Ae n (co g (↑g - 1))
def MR (g f:cZ):Prop:=∃ A:List Rat,∀ k,f k=cvL A g k
def Fl (_:W.Frag):Sp:=λc H Q _=>∃ a b:Int,c=[.int a,.int b]/\b≠0/\∀ (p:Addr),H p=none->Q (.ref p) (upd H p (.tup [.int (Ae a b).1,.int (Ae a b).2]))
def FI (_:W.Frag):Sp:=λb H Q _=>∃ (p:Addr) (a:cJ) (l:cF),b=[.ref p]/\H p=some (.lst a)/\Nums H a l/\↑l<=1000/\GH H Q (trim l)
def Ev (_:W.Frag):Sp:=λd H Q _=>∃ (p:Addr) (c:cJ) (l:cF) (M:Int),d=[.ref p]/\(H p=some (.tup c)\/H p=some (.lst c))/\Nums H c l/\Am l/\Ov l M/\Bd 400000 M/\(∀ q∈l,Bd 60000000 q.1)/\↑l<=1000/\
 ∀ (r a:Addr) (b:Hp),Same H b->b r=some (.tup [.ref a,.int (Ag l)])->b a=some (.lst ((AY l).map V.int))->Q (.ref r) b
def JT (_:W.Frag):Sp:=λb H Q _=>∃ (p:Addr) (a:cL) (B:Int),b=[.ref p,.int B]/\H p=some (.lst (~~~a))/\B≠0/\↑a<=1000/\GH H Q (trim (a.map λn=>Ae n B))
def Hs (f:Nu->Nu->Nu) (_:W.Frag):Sp:=λe H Q _=>∃ (p q:Addr) (a b c d:Int),e=[.ref p,.ref q]/\Nm H p a b/\Nm H q c d/\0<b/\0<d/\Bd 60000000 a/\Bd 60000000 b/\Bd 60000000 c/\Bd 60000000 d/\
 ∀ (r:Addr),H r=none->Q (.ref r) (upd H r (.tup [.int (f (a,b) (c,d)).1,.int (f (a,b) (c,d)).2]))
def GP (_:W.Frag):Sp:=λj H Q _=>∃ (p q:Addr) (h i:cJ) (l m:cF) (b c d e:Nat),j=[.ref p,.ref q]/\H p=some (.tup h)/\H q=some (.tup i)/\Nums H h l/\Nums H i m/\Gq b c l/\Gq d e m/\m≠[]/\↑l<=100/\↑m<=100/\
 c+(↑l+1 - ↑m)*d<=400000/\b+(↑l+1 - ↑m)*(d+1)+e<=900000/\e<=400000/\d<=400000/\
 ∀ (t u v:Addr) (f:Hp) (a g:cF),Same H f->f t=some (.tup [.ref u,.ref v])->Pl f u a->Pl f v g->Am a->Nz a->↑a<=↑l+1 - ↑m->Gq (b+(↑l+1 - ↑m)*(d+1)) (c+(↑l+1 - ↑m)*d) g->↑g<↑m->
   (∀ k,C_ l k=cv (C_ a) (C_ m) ↑a k+C_ g k)->Q (.ref t) f
def JU (_:W.Frag):Sp:=λf H Q _=>∃ (p q:Addr) (a c:cL) (b d:Nat),f=[.ref p,.ref q]/\H p=some (.lst (~~~a))/\H q=some (.lst (~~~c))/\(∀ z∈a,Bd b z)/\(∀ z∈c,Bd d z)/\b<=900000/\d<=900000/\↑a<=100/\↑c<=100/\
 ∀ (r:Addr) (e:Hp),Same H e->e r=some (.lst ((if ↑a=0\/↑c=0 then [] else (List.range (↑a+↑c - 1)).map λk=>ps a c ↑a k).map V.int))->Q (.ref r) e
def JV (_:W.Frag):Sp:=λh H Q _=>∃ (p q:Addr) (f g:cJ) (l m:cF) (b c d e:Nat),h=[.ref p,.ref q]/\H p=some (.tup f)/\H q=some (.tup g)/\Nums H f l/\Nums H g m/\Gq b c l/\Gq d e m/\↑l<=100/\↑m<=100/\b<=300000/\c<=300000/\d<=300000/\e<=300000/\
 ∀ (r:Addr) (R:cF) (a:Hp),Same H a->Pl a r R->Gq (b+d+↑l) (c+e) R->↑R<=↑l+↑m - 1->(∀ k,C_ R k=cv (C_ l) (C_ m) ↑l k)->Q (.ref r) a
noncomputable abbrev LM:=Hs I_
noncomputable abbrev LN:=Hs W'
def Fm (_:W.Frag):Sp:=λc H Q _=>∃ (p:Addr) (b:cJ) (l:cF) (i:Nat),c=[.ref p,.int (i:Int)]/\H p=some (.tup b)/\Nums H b l/\∀ (v:V) (a:Hp),Same H a->isN a v (AG l i)->Q v a
def O9 (f:Nu->Nu->Nu) (s:Rat) (_:W.Frag):Sp:=λg H Q _=>∃ (p q:Addr) (d e:cJ) (l m:cF) (M:Int) (b c:Nat),g=[.ref p,.ref q]/\H p=some (.tup d)/\H q=some (.tup e)/\Nums H d l/\Nums H e m/\Am l/\Am m/\Ov l M/\Ov m M/\Bd c M/\(∀ z∈F_ l M,Bd b z)/\(∀ z∈F_ m M,Bd b z)/\b<=300000/\c<=300000/\↑l<=100/\↑m<=100/\
 ∀ (r:Addr) (R:cF) (a:Hp),Same H a->Pl a r R->Gq (b+1) c R->↑R<=max ↑l ↑m->(∀ k,C_ R k=C_ l k+s*C_ m k)->Q (.ref r) a
noncomputable abbrev LO:=O9 I_ 1
noncomputable abbrev LP:=O9 W' (-1)
noncomputable def rw' (l:cF):List Rat:=(List.range ↑l).map (C_ l)
noncomputable def en (L:List (cL)) (i j:Nat):Int:=co (L.getD i []) j
def Rect (L:List (cL)) (n w:Nat):Prop:=↑L=n/\∀ r∈L,↑r=w
noncomputable def iN (os:List Nat):cJ:=os.map λi:Nat=>V.int (i:Int)
noncomputable def nth (os:List Nat) (i:Nat):Nat:=os.getD i 0
def aA (p:Int) (L:List (cL)):Prop:=∀ r∈L,∀ z∈r,0<=z/\z<p
def aB (b:Nat) (L:List (cL)):Prop:=∀ r∈L,∀ z∈r,Bd b z
def GQ (_:W.Frag):Sp:=λf H Q _=>∃ (a b:Addr) (c d:cL) (n:Nat),f=[.ref a,.ref b]/\H a=some (.lst (~~~c))/\H b=some (.lst (~~~d))/\↑c=n/\↑d=n/\n<=1000/\(∀ z∈c,Bd 1000000 z)/\(∀ z∈d,Bd 1000000 z)/\∀ e,Same H e->Q (.int (su n λi=>co c i*co d i)) e
def LQ (_:W.Frag):Sp:=λa H Q _=>∃ n:Nat,a=[.int (n:Int)]/\n<2 ^ 45000/\∀ b:Bool,(b=true↔Pr n)->Q (.bl b) H
def LR (_:W.Frag):Sp:=λa H Q _=>∃ n g:Nat,a=[.int (n:Int)]/\Pr g/\n<g/\g<2 ^ 45000/\∀ p:Nat,Pr p->n<p->p<=g->Q (.int (p:Int)) H
noncomputable def CA:Nat:=2 ^ 127 - 1
noncomputable def b8:Nat:=2 ^ 31 - 1
def JW (_:W.Frag):Sp:=λa H Q _=>∃ n g:Nat,a=[.int (n:Int)]/\Pr g/\(n=CA\/n<g)/\g<2 ^ 45000/\b8<=g/\∀ p:Nat,Pr p->(n=CA/\p=b8\/n≠CA/\n<p)->p<=g->Q (.int (p:Int)) H
def JX (_:W.Frag):Sp:=λd H Q _=>∃ (a:Addr) (b:cJ) (i j:Nat),d=[.ref a,.int (i:Int),.int (j:Int)]/\H a=some (.lst b)/\i<↑b/\j<↑b/\↑b<=1000/\∀ (r:Addr) (c:cJ),H r=none->↑c=↑b->(∀ k,k<↑b->c[k]?=b[tw i j k]?)->Q (.ref r) (upd H r (.lst c))
def JY (_:W.Frag):Sp:=λh H Q _=>∃ (a b:Addr) (d e:cL) (n c:Nat) (p:Int),h=[.ref a,.ref b,.int (c:Int),.int p]/\H a=some (.lst (~~~d))/\H b=some (.lst (~~~e))/\↑d=n/\↑e=n/\n<=1000/\c<n/\0<p/\Bd 45000 p/\(∀ z∈d,0<=z/\z<p)/\(∀ z∈e,0<=z/\z<p)/\
 ∀ (r:Addr) (f:cL) (g:Hp),Same H g->(r=a\/H r=none)->g r=some (.lst (~~~f))->↑f=n->(∀ z∈f,0<=z/\z<p)->(∀ j,j<n->Zm.of p (co f j)=Zm.of p (co d j) - Zm.of p (co d c)*Zm.of p (co e j))->Q (.ref r) g
structure Rdc (p:Int) (L:List (cL)) (n w:Nat) (LL:List (cL)) (os cs:List Nat):Prop where
 rc:Rect LL ↑os w
 lc:↑cs=↑os
 ip:aA p LL
 ri:∃ (o c:Nat->Nat) (u l:Nat->Nat->Zm p),RE n w (λi j=>Zm.of p (en L i j)) w ↑os o c u l/\(∀ i,i<↑os->nth os i=o i)/\(∀ i,i<↑os->nth cs i=c i)/\∀ i,i<↑os->∀ j,j<w->l i j=Zm.of p (en LL i j)
def Ht (_:W.Frag):Sp:=λe H Q _=>∃ (a:Addr) (L:List (cL)) (n w p:Nat),e=[.ref a,.int (p:Int)]/\SD H a L/\Rect L n w/\n<=100/\w<=100/\Pr p/\Bd 45000 (p:Int)/\
 ∀ (r x y z:Addr) (c:List (cL)) (os d:List Nat) (b:Hp),Same H b->b r=some (.tup [.ref x,.ref y,.ref z])->SD b x c->b y=some (.lst (iN os))->b z=some (.lst (iN d))->Rdc (p:Int) L n w c os d->Q (.ref r) b
def Hu (_:W.Frag):Sp:=λb H Q _=>∃ (a:Addr) (L:List (cL)) (n w:Nat),b=[.ref a]/\SD H a L/\Rect L n w/\(n=0->w=0)/\Q (.int (w:Int)) H
def Hv (_:W.Frag):Sp:=λd H Q _=>∃ (a b:Addr) (c:cL) (ps:List Nat),d=[.ref a,.ref b]/\H a=some (.lst (~~~c))/\H b=some (.lst (iN ps))/\(∀ i∈ps,i<↑c)/\↑ps<=1000/\∀ r,H r=none->Q (.ref r) (upd H r (.lst ((ps.map (co c)).map V.int)))
def G0 (_:W.Frag):Sp:=λf H Q _=>∃ (a b:Addr) (ps:List Nat) (d:cL) (w:Nat),f=[.ref a,.ref b,.int (w:Int)]/\H a=some (.lst (iN ps))/\H b=some (.lst (~~~d))/\↑ps=↑d/\(∀ i∈ps,i<w)/\ps.Nodup/\w<=1000/\
 ∀ (r:Addr) (c:cL) (e:Hp),Same H e->H r=none->e r=some (.lst (~~~c))->↑c=w->(∀ i,i<↑ps->co c (nth ps i)=co d i)->(∀ j,(∀ i,i<↑ps->nth ps i≠j)->co c j=0)->Q (.ref r) e
def Hw (_:W.Frag):Sp:=λf H Q _=>∃ (a:Addr) (d:cL) (b:Int),f=[.ref a,.int b]/\H a=some (.lst (~~~d))/\↑d<=1000/\b≠0/\∀ (r:Addr) (e:cJ) (c:Hp),Same H c->c r=some (.tup e)->Nums c e (d.map λz=>Ae z b)->Q (.ref r) c
def LS (_:W.Frag):Sp:=λb H Q _=>∃ (a:Addr) (L:List (cL)) (n w j:Nat),b=[.ref a,.int (j:Int)]/\SD H a L/\Rect L n w/\n<=1000/\j<w/\∀ r,H r=none->Q (.ref r) (upd H r (.lst ((L.map λl=>co l j).map V.int)))
def JZ (_:W.Frag):Sp:=λd H Q _=>∃ (a:Addr) (L:List (cL)) (n w:Nat),d=[.ref a]/\SD H a L/\Rect L n w/\(n=0->w=0)/\n<=1000/\w<=1000/\∀ (r:Addr) (b:List (cL)) (c:Hp),Same H c->SD c r b->Rect b w n->(∀ i,i<n->∀ j,j<w->en b j i=en L i j)->(∀ P:Int->Prop,(∀ l∈L,∀ z∈l,P z)->∀ l∈b,∀ z∈l,P z)->Q (.ref r) c
def LU (_:W.Frag):Sp:=λc H Q _=>∃ (a:Addr) (M:List (cL)) (k p:Nat) (W:Nat->Nat->Zm (p:Int)),c=[.ref a,.int (p:Int)]/\SD H a M/\Rect M k k/\k<=50/\Pr p/\Bd 45000 (p:Int)/\(∀ i,i<k->∀ j,j<k->su k (λt=>W i t*Zm.of (p:Int) (en M t j))=dl i j)/\
 ∀ (r:Addr) (T:List (cL)) (b:Hp),Same H b->SD b r T->Rect T k k->aA (p:Int) T->Inv2 (p:Int) k (en M) (en T)->Q (.ref r) b
structure CorM (L:List (cL)) (n w p:Nat) (os cs:List Nat) (M T:List (cL)):Prop where
 lc:↑cs=↑os
 rM:Rect M ↑os ↑os
 rT:Rect T ↑os ↑os
 iT:aA (p:Int) T
 inv:Inv2 (p:Int) ↑os (en M) (en T)
 ol:∀ i∈os,i<n
 ou:os.Nodup
 cl:∀ j∈cs,j<w
 cu:cs.Pairwise (·<·)
 eM:∀ i,i<↑os->∀ s,s<↑os->en M i s=en L (nth os i) (nth cs s)
 span:∀ r,r<n->∃ z:cY,∀ j,j<w->(p:Int)∣en L r j - su ↑os λt=>z t*en L (nth os t) j
structure FsOk (fs:List (Str×V)) (p:Nat) (y z m t:Addr):Prop where
 f1:fs.lookup ("prime" : Str)=some (.int (p:Int))
 f2:fs.lookup ("lines" : Str)=↥y
 f3:fs.lookup ("columns" : Str)=↥z
 f4:fs.lookup ("minor" : Str)=↥m
 f5:fs.lookup ("turned" : Str)=↥t
structure Cor (C:Addr) (H:Hp) (x:Addr) (L:List (cL)) (n w p:Nat) (os cs:List Nat) (M T:List (cL)) (y z m t:Addr):Prop where
 at':∃ dx fs,H x=some (.ins C dx fs)/\FsOk fs p y z m t
 hy:H y=some (.lst (iN os))
 hz:H z=some (.lst (iN cs))
 hm:SD H m M
 ht:SD H t T
 c:CorM L n w p os cs M T
structure ClsOk (K:W.Frag) (C:Addr):Prop where
 cl:Cls K C
 a1:NoAttr K C "prime"
 a2:NoAttr K C "lines"
 a3:NoAttr K C "columns"
 a4:NoAttr K C "minor"
 a5:NoAttr K C "turned"
def GR (K:W.Frag):Sp:=λc H Q _=>∃ (x a:Addr) (d:Addr) (L:List (cL)) (n w p:Nat),c=[.ref x,.ref a,.int (p:Int)]/\H x=some (.ins (B1 K) d [])/\SD H a L/\Rect L n w/\n<=50/\w<=50/\Pr p/\Bd 45000 (p:Int)/\
 ∀ (os e:List Nat) (M T:List (cL)) (y z m t:Addr) (b:Hp),Kp x H b->Cor (B1 K) b x L n w p os e M T y z m t->Q .non b
def LV (_:W.Frag):Sp:=λc H Q _=>∃ w m a:Int,c=[.int w,.int m,.int a]/\0<=w/\w<m/\0<=a/\a<m/\Bd 500000 m/\∀ one b s t:Int,Eu m w one b s t->b<=a->a<one->Q (.int t) H
structure Fits (m X:Int) (ps:cL) (x:cY) (D:Int):Prop where
 d0:0<D
 dX:D<=X
 xX:∀ j,((x j).natAbs:Int)<=X
 dv:∀ j,j<↑ps->m∣D*co ps j - x j
 m0:256*X*X<m
def LW (_:W.Frag):Sp:=λe H Q _=>∃ (a:Addr) (ps:cL) (m:Int),e=[.ref a,.int m]/\H a=some (.lst (~~~ps))/\↑ps<=1000/\(∀ z∈ps,Bd 500000 z)/\2<=m/\Bd 250000 m/\(∀ c,Same H c->(∀ X x D,¬ Fits m X ps x D)->Q .non c)/\
 ∀ (r b:Addr) (d:cL) (B:Int) (c:Hp),Same H c->c r=some (.tup [.ref b,.int B])->c b=some (.lst (~~~d))->↑d=↑ps->0<B->B<=m->(∀ z∈d,z.natAbs<=m.natAbs)->(∀ X x D,Fits m X ps x D->∀ j,j<↑ps->co d j*D=x j*B)->Q (.ref r) c
def LX (_:W.Frag):Sp:=λf H Q _=>∃ (m g y b:Addr) (M:List (cL)) (a d:cL) (B:Int) (k:Nat),f=[.ref m,.ref g,.ref b]/\SD H m M/\Rect M k k/\H g=some (.tup [.ref y,.int B])/\H y=some (.lst (~~~a))/\H b=some (.lst (~~~d))/\↑a=k/\↑d=k/\k<=50/\aB 1000000 M/\(∀ z∈a,Bd 1000000 z)/\(∀ z∈d,Bd 1000000 z)/\Bd 1000000 B/\
 ∀ (e:Hp) (c:Bool),Same H e->(c=true↔∀ i,i<k->su k (λj=>en M i j*co a j)=co d i*B)->Q (.bl c) e
def Hy (_:W.Frag):Sp:=λe H Q _=>∃ (m t b:Addr) (M T:List (cL)) (a:cL) (k p:Nat),e=[.ref m,.ref t,.ref b,.int (p:Int)]/\SD H m M/\SD H t T/\H b=some (.lst (~~~a))/\Rect M k k/\Rect T k k/\↑a=k/\k<=10/\2<=p/\Bd 44500 (p:Int)/\aA (p:Int) T/\Inv2 (p:Int) k (en M) (en T)/\aB 4000 M/\(∀ z∈a,Bd 4000 z)/\
 ∀ (r y:Addr) (c:cL) (B:Int) (d:Hp),Same H d->d r=some (.tup [.ref y,.int B])->d y=some (.lst (~~~c))->↑c=k->0<B->Bd 250000 B->(∀ z∈c,Bd 250000 z)->(∀ i,i<k->su k (λj=>en M i j*co c j)=co a i*B)->Q (.ref r) d
structure Fre (L:List (cL)) (n w:Nat) (cs:List Nat) (q:Nat) (f:cL) (D:Int):Prop where
 lf:↑f=w
 d0:0<D
 bD:Bd 250000 D
 bf:∀ z∈f,Bd 250000 z
 sol:∀ i,i<n->su w (λj=>en L i j*co f j)=0
 qw:q<w
 qc:q∉cs
 one:co f q=D
 zer:∀ j,j<w->j∉cs->j≠q->co f j=0
noncomputable def FRs (H:Hp) (L:List (cL)) (n w:Nat) (cs:List Nat):cJ->List (Nat×cL×Int)->Prop
 | [],[]=>True
 | x::b,q::l=>(∃ u a,x=.ref u/\H u=some (.tup a)/\Nums H a (q.2.1.map λz=>Ae z q.2.2)/\Fre L n w cs q.1 q.2.1 q.2.2)/\FRs H L n w cs b l
 | _,_=>False
noncomputable def ar (w:Nat) (cs:List Nat):List Nat:=(List.range w).filter λj=>decide (j∉cs)
def Ja (L:List (cL)) (n w:Nat) (os:List Nat):Prop:=∃ (i:Nat) (f:cY),i<n/\(∀ t,t<↑os->su w (λj=>en L (nth os t) j*f j)=0)/\su w (λj=>en L i j*f j)≠0
def Hz (K:W.Frag):Sp:=λe H Q _=>∃ (a x y z m t:Addr) (L M T:List (cL)) (n w p:Nat) (os c:List Nat),e=[.ref a,.ref x]/\SD H a L/\Rect L n w/\(n=0->w=0)/\n<=20/\w<=10/\aB 4000 L/\2<=p/\Bd 44500 (p:Int)/\Cor (B1 K) H x L n w p os c M T y z m t/\
 (∀ b,Same H b->Ja L n w os->Q .non b)/\
 ∀ (r:Addr) (d:cJ) (F:List (Nat×cL×Int)) (b:Hp),Same H b->b r=some (.lst d)->FRs b L n w c d F->F.map (λq=>q.1)=ar w c->Q (.ref r) b
def LY (K:W.Frag):Sp:=λd H Q _=>∃ (a x y z m t:Addr) (L M T:List (cL)) (n w p:Nat) (os c:List Nat) (i:Nat),d=[.ref a,.ref x,.int (i:Int)]/\SD H a L/\Rect L n w/\n<=20/\w<=10/\aB 4000 L/\2<=p/\Bd 44500 (p:Int)/\Cor (B1 K) H x L n w p os c M T y z m t/\i<n/\i∉os/\
 ∀ (r u:Addr) (W:cL) (B:Int) (b:Hp),Same H b->b r=some (.tup [.ref u,.int B])->b u=some (.lst (~~~W))->↑W=n->0<B->Bd 250000 B->(∀ z∈W,Bd 250000 z)->co W i=B->(∀ j,j<n->j∉os->j≠i->co W j=0)->(∀ s,s<↑os->su n (λj=>co W j*en L j (nth c s))=0)->Q (.ref r) b
noncomputable def NRs (H:Hp):cJ->List cE->Prop
 | [],[]=>True
 | x::c,l::d=>(∃ a b,x=.ref a/\H a=some (.lst b)/\Nums H b l)/\NRs H c d
 | _,_=>False
noncomputable def vl (l:cF) (j:Nat):Rat:=val (l.getD j (0,1))
noncomputable def vr (A:List cE) (i j:Nat):Rat:=vl (A.getD i []) j
def NuOk (b:Nat) (l:cF):Prop:=Am l/\∀ q∈l,Bd b q.1/\Bd b q.2
noncomputable def TFs (H:Hp) (w:Nat) (A:List cE):cJ->List cE->Prop
 | [],[]=>True
 | x::b,l::c=>(∃ u a,x=.ref u/\H u=some (.tup a)/\Nums H a l/\↑l=w/\NuOk 250000 l/\∀ i,i<↑A->su w (λj=>vr A i j*vl l j)=0)/\TFs H w A b c
 | _,_=>False
def Jb (_:W.Frag):Sp:=λk H Q _=>∃ (a b:Addr) (e g:cJ) (A:List cE) (B:cF) (n w:Nat),k=[.ref a,.ref b]/\H a=some (.lst e)/\H b=some (.lst g)/\NRs H e A/\Nums H g B/\↑A=n/\↑B=n/\(∀ l∈A,↑l=w)/\(n=0->w=0)/\n<=20/\w<=10/\(∀ i,i<n->NuOk 1400 (A.getD i []++[B.getD i (0,1)])/\∃ m,Ov (A.getD i []++[B.getD i (0,1)]) m/\Bd 2500 m)/\
 (∀ (r x f:Addr) (d h:cJ) (X:cF) (F:List cE) (c:Hp),Same H c->c r=some (.tup [.str "told", .ref x,.ref f])->c x=some (.tup d)->Nums c d X->↑X=w->NuOk 250000 X->(∀ i,i<n->su w (λj=>vr A i j*vl X j)=vl B i)->c f=some (.tup h)->TFs c w A h F->(∀ l∈F,∃ j,j<w/\vl l j≠0)->Q (.ref r) c)/\
 ∀ (r x:Addr) (d:cJ) (W:cF) (c:Hp),0<n->Same H c->c r=some (.tup [.str "none", .ref x])->c x=some (.tup d)->Nums c d W->↑W=n->NuOk 260000 W->(∀ j,j<w->su n (λi=>vr A i j*vl W i)=0)->su n (λi=>vl B i*vl W i)≠0->Q (.ref r) c
def Nb (b:Nat) (q:Nu):Prop:=Low q.1 q.2/\Bd b q.1/\Bd b q.2
def twN (f:Nu->Nu->Nu) (a:cJ) (H:Hp) (Q:VK):Prop:=∃ (x y:Addr) (q r:Nu),a=[.ref x,.ref y]/\isN H (.ref x) q/\isN H (.ref y) r/\Nb 50000000 q/\Nb 50000000 r/\∀ p,H p=none->Q (.ref p) (upd H p (.tup [.int (f q r).1,.int (f q r).2]))
noncomputable abbrev IA:=Hs I_
noncomputable abbrev G6:=Hs C'
def Hand (H:Hp) (p a:Addr) (n:Int):Prop:=∃ (b:cL) (x y z:Int),H p=some (.lst [.ref a,.int x,.int y,.int z])/\H a=some (.lst (~~~b))/\↑b<=1000/\a≠p/\0<=x/\x<=n/\0<=y
def LZ (K:W.Frag):Sp:=λd H Q _=>∃ (s:Addr) (c:cL),d=[.ref s]/\SqL K H s (~~~c)/\↑c<=63/\∀ (p a:Addr) (b:Hp),H p=none->Kp p H b->Hand b p a 0->Q (.ref p) b
def Cz (_:W.Frag):Sp:=λc H Q _=>∃ (p a:Addr) (m n:Int),c=[.ref p,.int m]/\Hand H p a n/\n<=100000/\0<m/\m<=1000/\
 ∀ (d:Int) (b:Hp),0<=d->d<m->Hand b p a (n+2)->Kp p H b->Q (.int d) b
noncomputable abbrev GS:=Fl
def GT (_:W.Frag):Sp:=λe H Q _=>∃ (p q:Addr) (a b:cL) (n m:Nat),e=[.ref p,.ref q]/\H p=some (.lst (~~~a))/\H q=some (.lst (~~~b))/\Lz a/\Lz b/\↑a<=20/\↑b<=20/\(∀ z∈a,Bd n z)/\(∀ z∈b,Bd m z)/\n<=1000/\m<=1000/\
 ∀ (r:Addr) (c:cL) (d:Hp),Same H d->d r=some (.lst (~~~c))->↑c=↑a+↑b - 1->Lz c->(∀ k,co c k=ps a b ↑a k)->Q (.ref r) d
def Jc (_:W.Frag):Sp:=λb H Q _=>∃ (p q:Addr) (a:cL) (t d:Int),b=[.ref p,.ref q]/\H p=some (.lst (~~~a))/\Nm H q t d/\d≠0/\Bd 1000 t/\(∀ z∈a,Bd 1000 z)/\↑a<=1000/\GH H Q (a.map λn=>Ae (n*t) d)
def Jd (_:W.Frag):Sp:=λc H Q _=>∃ (p a:Addr) (n:Int),c=[.ref p]/\Hand H p a n/\n<=90000/\
 ∀ (r:Addr) (t d:Int) (b:Hp),Nm b r t d->Low t d->t≠0->Bd 4 t->Bd 4 d->Hand b p a (n+6)->Kp p H b->Q (.ref r) b
def GU (_:W.Frag):Sp:=λd H Q _=>∃ (p a:Addr) (m s n:Int),d=[.ref p,.int m,.int s]/\Hand H p a n/\n<=90000/\0<=m/\m<=8/\1<=s/\s<=30/\
 ∀ (r:Addr) (b:cL) (c:Hp),c r=some (.lst (~~~b))->(↑b:Int)<=m+1->Lz b->(∀ z∈b,-s<=z/\z<=s)->r≠p->r≠a->Hand c p a (n+40)->Kp p H c->Q (.ref r) c
def La (_:W.Frag):Sp:=λb H Q _=>∃ (p:Addr) (a:cL),b=[.ref p]/\H p=some (.lst (~~~a))/\Lz a/\↑a<=1000/\GH H Q (ac a)
noncomputable abbrev G7:=FI
def Lb (_:W.Frag):Sp:=λg H Q _=>∃ (p q:Addr) (d e:cJ) (l m:cF) (b c:Nat),g=[.ref p,.ref q]/\H p=some (.tup d)/\H q=some (.tup e)/\Nums H d l/\Nums H e m/\Gq b c l/\Gq b c m/\b<=1000/\c<=1000/\↑l<=100/\↑m<=100/\
 ∀ (r:Addr) (f:cJ) (L:cF) (a:Hp),Same H a->a r=some (.tup f)->Nums a f L->Am L->Nz L->sr L=sr l*sr m->Gq (b+b+↑l) (c+c) L->Q (.ref r) a
def Sr.Cg (W f g:Sr):Prop:=∃ q,Sr.Pol q/\f=g+W*q
structure Pws (P W:cF) (w:Nat) (pk:Nat->cF):Prop where
 gP:Gq 12 12 P
 lP:↑P<=7
 gW:Gq 12 12 W
 lW:↑W=w+1
 w1:1<=w
 w7:w<=7
 top:AG W w=(1,1)
 g:∀ k,k<=7->Gq (97*k+1) (84*k+1) (pk k)
 l:∀ k,k<=7->(pk k).length<=w
 cg:∀ k,k<=7->Sr.Cg (sr W) (sr (pk k)) (sr P ^ k)
 z:pk 0=[(1,1)]
def Dp (pk:Nat->cF) (d:Nat):Prop:=∃ z:cZ,sr (pk d)=su d λt=>Sr.num (z t)*sr (pk t)
noncomputable def PLs (H:Hp):cJ->List cE->Prop
 | [],[]=>True
 | x::c,l::d=>(∃ a b,x=.ref a/\H a=some (.tup b)/\Nums H b l)/\PLs H c d
 | _,_=>False
noncomputable def sq (l:cF) (f:Nat->Sr):Sr:=su ↑l λt=>Sr.num (vl l t)*f t
def Lc (_:W.Frag):Sp:=λh H Q _=>∃ (a b c:Addr) (e f g:cJ) (m P W:cF) (w:Nat) (i:Nat->cF),h=[.ref a,.ref b,.ref c]/\H a=some (.tup e)/\H b=some (.tup f)/\H c=some (.tup g)/\Nums H e m/\Nums H f P/\Nums H g W/\Gq 12 12 m/\↑m<=5/\Pws P W w i/\
 ∀ (r:Addr) (R:cF) (d:Hp),Same H d->Pl d r R->Am R->Nz R->↑R<=w->Sr.Cg (sr W) (sr R) (sq m λt=>sr P ^ t)->Q (.ref r) d
def Ld (_:W.Frag):Sp:=λf H Q _=>∃ (a:Addr) (c:cJ) (d:List cE) (i:Nat),f=[.ref a,.int (i:Int)]/\H a=some (.lst c)/\PLs H c d/\↑c<=100/\
 ∀ (r:Addr) (e:cJ) (b:Hp),Same H b->b r=some (.lst e)->Nums b e (d.map λl=>AG l i)->Q (.ref r) b
def Le (_:W.Frag):Sp:=λi H Q _=>∃ (a b:Addr) (e g:cJ) (c:List cE) (l:cF),i=[.ref a,.ref b]/\H a=some (.lst e)/\PLs H e c/\H b=some (.tup g)/\Nums H g l/\↑c<=7/\1<=↑c/\↑l<=7/\(∀ j,j<↑c->(c.getD j []).length<=7/\Gq 800 (84*j+1) (c.getD j []))/\Gq 800 (84*↑c+1) l/\
 (∀ (r x f:Addr) (h k:cJ) (X:cF) (d:Hp),Same H d->d r=some (.tup [.str "told", .ref x,.ref f])->d x=some (.tup h)->Nums d h X->↑X=↑c->NuOk 250000 X->sq X (λj=>sr (c.getD j []))=sr l->Q (.ref r) d)/\
 ∀ (r x:Addr) (d:Hp),Same H d->d r=some (.tup [.str "none", .ref x])->(∀ z:cZ,su ↑c (λj=>Sr.num (z j)*sr (c.getD j []))≠sr l)->Q (.ref r) d
def Lf (_:W.Frag):Sp:=λg H Q _=>∃ (a b:Addr) (c e:cL) (w:Nat),g=[.ref a,.ref b]/\H a=some (.lst (~~~c))/\H b=some (.lst (~~~e))/\↑c<=20/\↑e=w+1/\1<=w/\w<=20/\(∀ z∈c,Bd 200 z)/\(∀ z∈e,Bd 100 z)/\0<co e w/\
 ∀ (r:Nat) (f:Hp),Same H f->1<=r->(∀ (d:Nat) (z:cZ),Sr.Cg (si e) (si c ^ d) (su d λt=>Sr.num (z t)*si c ^ t)->r<=d)->Q (.int (r:Int)) f
def Lg (_:W.Frag):Sp:=λi H Q _=>∃ (a b:Addr) (g h:cJ) (P W:cF) (w:Nat) (c:Nat->cF),i=[.ref a,.ref b]/\H a=some (.tup g)/\H b=some (.tup h)/\Nums H g P/\Nums H h W/\Pws P W w c/\
 ∀ (r:Addr) (R:cF) (d:Nat) (f:Hp),Same H f->Pl f r R->NuOk 250000 R->↑R=d+1->1<=d->d<=w->AG R d=(1,1)->sq R (λt=>sr (c t))=0->(∀ e,e<d->¬ Dp c e)->Q (.ref r) f
def IB (_:W.Frag):Sp:=λe H Q _=>∃ (p q:Addr) (a d:cJ) (l W R:cF) (w b c:Nat),e=[.ref p,.ref q]/\H p=some (.tup a)/\H q=some (.tup d)/\Nums H a l/\Nums H d W/\Gq b c l/\Gq 12 12 W/\↑W=w+1/\AG W w=(1,1)/\↑l<=20/\w<=7/\b<=3000/\c<=3000/\Am R/\Nz R/\↑R<=w/\Sr.Cg (sr W) (sr l) (sr R)/\GH H Q R
def Lh (_:W.Frag):Sp:=λc H Q _=>∃ (p:Addr) (b:cJ) (l:cF) (i:Nat),c=[.ref p,.int (i:Int)]/\H p=some (.tup b)/\Nums H b l/\∀ (v:V) (a:Hp),Same H a->isN a v (AG l i)->Q v a
def Je (_:W.Frag):Sp:=λh H Q _=>∃ (a b:Addr) (d e:cJ) (P W:cF) (w n:Nat) (f:Nat->cF),h=[.ref a,.ref b,.int (n:Int)]/\H a=some (.tup d)/\H b=some (.tup e)/\Nums H d P/\Nums H e W/\Pws P W w f/\n<=8/\
 ∀ (r:Addr) (g:cJ) (c:Hp),Same H c->c r=some (.lst g)->PLs c g ((List.range (max n 1)).map f)->Q (.ref r) c
def Jf (_:W.Frag):Sp:=λi H Q _=>∃ (a b c:Addr) (e f g:cJ) (m P W:cF) (w:Nat) (h:Nat->cF),i=[.ref a,.ref b,.ref c]/\H a=some (.tup e)/\H b=some (.tup f)/\H c=some (.tup g)/\Nums H e m/\Nums H f P/\Nums H g W/\NuOk 250000 m/\↑m<=8/\Pws P W w h/\
 ∀ (r:Addr) (R:cF) (d:Hp),Same H d->Pl d r R->Am R->Nz R->sr R=sq m (λt=>sr (h t))->Q (.ref r) d
def Li (_:W.Frag):Sp:=λe H Q _=>∃ (p a:Addr) (n:Int),e=[.ref p]/\Hand H p a n/\n<=1000/\
 ∀ (t u v:Addr) (c d:cJ) (P W:cF) (w:Nat) (b:Hp),b t=some (.tup [.ref u,.ref v])->b u=some (.tup c)->Nums b c P->b v=some (.tup d)->Nums b d W->Gq 12 12 P->↑P<=7->Gq 12 12 W->↑W=w+1->1<=w->w<=7->AG W w=(1,1)->Hand b p a (n+1000)->Kp p H b->Q (.ref t) b
section
variable (K:W.Frag)
set_option linter.unusedVariables false
def PB (_:W.Frag):TS:=
 (AH (Cr (Ap (A_ aC (AA 1) (bF 0))) (AH (AO (A_ Wg (AA 0) (AA 1)) (AF 2))
  (AH (AO (AA 1) (AF 0))
  (AO (AA 2) (AF 1)))))
  (Ad (E_ FV (AB (AA 0) AC))))
def Yq (_:W.Frag):TS:=
 (AH (AO (bF 2) (AF 1))
  (AH (Cr (Ap (A_ iLe (A_ Av (AA 1) (AA 1)) (AA 0))) (AH (BV (Ap (A_ U_ (A_ CT (AA 0) (AA 1)) (bF 0))) (Ad (tC (.bl false))) Bi)
  (Dh 1 (bF 1) BI)))
  (Ad (A_ ao (AA 0) (bF 1)))))
def Yr:TS:=
 (AH (AO (A_ BI (AA 0) (bF 1)) (AF 1))
  (AH (Cr (Ga (tB (bN (LQ K) (AB (AA 1) AC)))) (Dh 1 (bF 1) BI))
  (Ad (AA 1))))
def Ys:TS:=
 (Ad (ak (Ap (A_ U_ (AA 0) (bF 170141183460469231731687303715884105727))) (bF 2147483647) (bN (LR K) (AB (AA 0) AC))))
def Yt:TS:=
 (Ad (E_ Iw (AB (At (Dx K (AB (AA 0) (AB (AA 1) AC))) [none,none] (CZ 2 (A8 (AF 0) (A8 (AF 1) CY))) (A_ Av (AA 0) (AA 1))) AC)))
def PC:TS:=
 (AH (AO (bN (GO K) (AB (Ni (FC (BL K (AA 0)) [none] (AF 0) (Ap (A_ aC (AA 0) (bF 0))) (E_ FV (AB (AA 0) AC)))) (AB (AA 1) AC))) (AF 2))
  (AH (Ay (BL K (AA 0)) (AF 3) (AH (BV (Ap (A_ U_ (AA 2) (bF 1))) (Ad (bF 1)) Bi)
  (AO (bN (GO K) (AB (AA 3) (AB (AA 2) AC))) (AF 2))))
  (Ad (AA 2))))
def PD (_:W.Frag):TS:=
 (AH (AO (E_ BA (AB (AA 0) AC)) (AF 1))
  (AH (Cr (EE (Ap (A_ ao (AA 1) (bF 0))) (Ap (A_ U_ (A_ gL (AA 0) (A_ BT (AA 1) (bF 1))) (bF 0)))) (Dh 1 (bF 1) BT))
  (Ad (S_ sL (AA 0) DB (DC (AA 1))))))
def PF:TS:=
 (Ad (At (BL K (AA 0)) [none,some 1] (AF 0) (A_ En (AA 0) (AA 1))))
def PH:TS:=
 (AH (BV (aG (Ga (FA (AA 0))) (Ga (FA (AA 1)))) (Ad (A9 AC)) Bi)
  (AH (AO (A_ EH (A9 (AB (bF 0) AC)) (A_ BT (A_ BI (E_ BA (AB (AA 0) AC)) (E_ BA (AB (AA 1) AC))) (bF 1))) (AF 2))
  (AH (Ay (EI K (AB (AA 0) AC)) (CZ 2 (A8 (AF 3) (A8 (AF 4) CY))) (BV (Ap (A_ aC (AA 4) (bF 0))) (Ay (EI K (AB (AA 1) AC)) (CZ 2 (A8 (AF 5) (A8 (AF 6) CY))) (IZ (AA 2) (A_ BI (AA 3) (AA 5)) (A_ Av (AA 4) (AA 6)) gL BI Cl)) Bi))
  (Ad (AA 2)))))
def PJ:TS:=
 (AH (AO (At (BL K (AA 0)) [none,some 1] (AF 0) (A_ Av (AA 1) (AA 0))) (AF 5))
  (AH (EF (aK K "list" NP (AA 5) (AB (A_ EH (A9 (AB (bF 0) AC)) (A_ BT (A_ BI (E_ BA (AB (AA 2) AC)) (AA 4)) (E_ BA (AB (AA 0) AC)))) AC)))
  (AH (Ay (EI K (AB (AA 2) AC)) (CZ 2 (A8 (AF 6) (A8 (AF 7) CY))) (IZ (AA 5) (A_ BI (AA 6) (AA 4)) (A_ Av (AA 3) (AA 7)) gL BT Cl))
  (Ad (bN (Hr K) (AB (AA 5) AC))))))
def PL (_:W.Frag):TS:=
 (AO (AA 7) (AF 5))
def PM:TS:=
 (AH (AO (AA 5) (AF 4))
  (PL K))
def PN:TS:=
 (AH (AO (A_ BT (AA 4) (A_ Av (AA 6) (AA 5))) (AF 7))
  (PM K))
def PP:TS:=
 (AH (AO (AA 7) (AF 3))
  (PN K))
def PQ:TS:=
 (AH (AO (AA 3) (AF 2))
  (PP K))
def PU:TS:=
 (AH (AO (A_ BT (AA 2) (A_ Av (AA 6) (AA 3))) (AF 7))
  (PQ K))
def PV:TS:=
 (AH (AO (A_ En (AA 2) (AA 3)) (AF 6))
  (PU K))
def PX (_:W.Frag):TS:=
 (Ad (A_ CT (AA 4) (AA 1)))
def PZ:TS:=
 (AH (Cr (Ap (A_ aC (AA 3) (bF 0))) (PV K))
  (PX K))
def Pa:TS:=
 (AH (AO (bF 1) (AF 5))
  (PZ K))
def Pb:TS:=
 (AH (AO (bF 0) (AF 4))
  (Pa K))
def Pc:TS:=
 (AH (AO (A_ CT (AA 0) (AA 1)) (AF 3))
  (Pb K))
def Pd:TS:=
 (AH (AO (AA 1) (AF 2))
  (Pc K))
def Pe:TS:=
 (Ad (At (BL K (AA 0)) [none,some 1] (AF 0) (A_ CT (AA 0) (AA 1))))
def Pf:TS:=
 (Ad (bN (Hr K) (AB (bN (JR K) (AB (AA 0) (AB (AA 1) AC))) AC)))
def Pg:TS:=
 (AH (BV (Ga (FA (AA 0))) (Ad (A9 AC)) Bi)
  (AH (AO (bN (JQ K) (AB (A_ gL (AA 0) (O_ BN (bF 1))) (AB (AA 1) AC))) (AF 2))
  (Ad (At (BL K (AA 0)) [none,some 1,some 2] (AF 0) (A_ CT (A_ Av (AA 0) (AA 2)) (AA 1))))))
def Ph (_:W.Frag):TS:=
 (BV (Ap (A_ aC (AA 7) (bF 0))) (Ay (Cs (AB (AA 4) AC)) (AF 8) (IZ (AA 3) (A_ BI (AA 6) (AA 8)) (A_ Av (AA 7) (A_ gL (AA 1) (AA 8))) gL BT Cl)) Bi)
def Pi:TS:=
 (AH (AO (AA 7) (Cj (AA 5) (AA 6) Cl))
  (Ph K))
def Yu:TS:=
 (AH (AO (A_ CT (A_ gL (AA 3) (A_ BI (AA 6) (AA 4))) (AA 2)) (AF 7))
  (Pi K))
def Pj:TS:=
 (Ad (A6 (AB (bN (Hr K) (AB (AA 5) AC)) (AB (bN (LH K) (AB (S_ sL (AA 3) DB (DC (AA 4))) (AB (AA 2) AC))) AC))))
def Yv:TS:=
 (AH (Ay (Iv (AB (A_ BT (A_ BT (E_ BA (AB (AA 0) AC)) (AA 4)) (bF 1)) (AB (O_ BN (bF 1)) (AB (O_ BN (bF 1)) AC)))) (AF 6) (Yu K))
  (Pj K))
def Pk:TS:=
 (AH (AO (A_ EH (A9 (AB (bF 0) AC)) (E_ Ge (AB (A_ BT (E_ BA (AB (AA 0) AC)) (AA 4)) (AB (bF 0) AC)))) (AF 5))
  (Yv K))
def Yw:TS:=
 (AH (AO (A_ BT (E_ BA (AB (AA 1) AC)) (bF 1)) (AF 4))
  (Pk K))
def Yx:TS:=
 (AH (AO (E_ HZ (AB (AA 0) AC)) (AF 3))
  (Yw K))
def Pm:TS:=
 (Ad (A_ gT (bN (LJ K) (AB (AA 0) (AB (AA 1) (AB (AA 2) AC)))) (bF 1)))
def Pn:TS:=
 (EF (aK K "list" F2 (AA 4) (AB (AA 5) AC)))
def Po:TS:=
 (AH (AO (AA 9) (Cj (AA 2) (AA 6) Cl))
  (Pn K))
def Pp:TS:=
 (AH (AO (At (BL K (AA 2)) [none,some 9,some 5,some 1] (AF 0) (bN (JY K) (AB (AA 0) (AB (AA 1) (AB (AA 2) (AB (AA 3) AC)))))) (AF 2))
  (Po K))
def Pq:TS:=
 (AH (AO (At (BL K (A_ gL (AA 2) (AA 6))) [none,some 1,some 8] (AF 0) (A_ CT (A_ Av (AA 0) (AA 2)) (AA 1))) (AF 9))
  (Pp K))
def Ps:TS:=
 (AH (AO (bN (JQ K) (AB (A_ gL (A_ gL (AA 2) (AA 6)) (AA 5)) (AB (AA 1) AC))) (AF 8))
  (Pq K))
def Pw:TS:=
 (AH (AO (bN (JX K) (AB (AA 3) (AB (AA 6) (AB (A_ gL (AA 7) (bF 0)) AC)))) (AF 3))
  (Ps K))
def Yy:TS:=
 (AH (AO (bN (JX K) (AB (AA 2) (AB (AA 6) (AB (A_ gL (AA 7) (bF 0)) AC)))) (AF 2))
  (Pw K))
def Px:TS:=
 (BV (FA (AA 7)) (Yy K) Bi)
def Py:TS:=
 (AH (AO (FC (HU (AB (AA 6) (AB (E_ BA (AB (AA 2) AC)) AC))) [none,some 5,some 2] (AF 0) (Ap (A_ aC (A_ gL (A_ gL (AA 2) (AA 0)) (AA 1)) (bF 0))) (AA 0)) (AF 7))
  (Px K))
def Pz:TS:=
 (AH (AO (E_ BA (AB (AA 4) AC)) (AF 6))
  (Py K))
def P0 (_:W.Frag):TS:=
 (Ad (A6 (AB (S_ sL (AA 2) DB (DC (E_ BA (AB (AA 4) AC)))) (AB (S_ sL (AA 3) DB (DC (E_ BA (AB (AA 4) AC)))) (AB (AA 4) AC)))))
def P6:TS:=
 (AH (Ay (Cs (AB (ak (FA (AA 0)) (E_ BA (AB (A_ gL (AA 0) (bF 0)) AC)) (bF 0)) AC)) (AF 5) (Pz K))
  (P0 K))
def P9:TS:=
 (AH (AO (A9 AC) (AF 4))
  (P6 K))
def QA:TS:=
 (AH (AO (KW (AB (E_ BA (AB (AA 0) AC)) AC)) (AF 3))
  (P9 K))
def Yz:TS:=
 (AH (AO (At (BL K (AA 0)) [none,some 1] (AF 0) (bN (JR K) (AB (AA 0) (AB (AA 1) AC)))) (AF 2))
  (QA K))
def Y1 (_:W.Frag):TS:=
 (AH (AO (E_ HZ (AB (AA 0) AC)) (AF 3))
  (AH (AO (A_ gL (AA 0) (AA 2)) (Cj (AA 3) (AA 1) Cl))
  (AH (AO (A_ gL (AA 0) (AA 1)) (Cj (AA 3) (AA 2) Cl))
  (Ad (AA 3)))))
def Y2:TS:=
 (AH (AO (A_ gL (AA 0) (AA 2)) (AF 4))
  (AH (BV (Ap (A_ U_ (AA 4) (bF 0))) (Ad (AA 0)) Bi)
  (Ad (At (Dx K (AB (AA 0) (AB (AA 1) AC))) [none,none,some 3,some 4] (CZ 2 (A8 (AF 0) (A8 (AF 1) CY))) (A_ CT (A_ BT (AA 0) (A_ Av (AA 3) (AA 1))) (AA 2))))))
def QB (_:W.Frag):TS:=
 (AH (AO (A_ CT (AA 0) (AA 1)) (AF 2))
  (Ad (ak (Ap (A_ ao (A_ Av (bF 2) (AA 2)) (AA 1))) (A_ BT (AA 2) (AA 1)) (AA 2))))
def QC:TS:=
 (AH (AO (bN (GO K) (AB (AA 0) (AB (AA 1) AC))) (AF 2))
  (AH (BV (Ap (A_ aE (AA 1) (bF 0))) (AO (O_ BN (AA 2)) (AF 2)) Bi)
  (Ad (A6 (AB (A_ FB (AA 0) (AA 2)) (AB (A_ FB (AA 1) (AA 2)) AC))))))
def QD:TS:=
 (Ad (bN (Fl K) (AB (A_ BI (A_ Av (A_ gT (AA 0) (bF 0)) (A_ gT (AA 1) (bF 1))) (A_ Av (A_ gT (AA 1) (bF 0)) (A_ gT (AA 0) (bF 1)))) (AB (A_ Av (A_ gT (AA 0) (bF 1)) (A_ gT (AA 1) (bF 1))) AC))))
def QE:TS:=
 (Ad (bN (Fl K) (AB (A_ BT (A_ Av (A_ gT (AA 0) (bF 0)) (A_ gT (AA 1) (bF 1))) (A_ Av (A_ gT (AA 1) (bF 0)) (A_ gT (AA 0) (bF 1)))) (AB (A_ Av (A_ gT (AA 0) (bF 1)) (A_ gT (AA 1) (bF 1))) AC))))
def QF (_:W.Frag):TS:=
 (AH (AO (E_ BA (AB (AA 0) AC)) (AF 1))
  (AH (Cr (EE (Ap (A_ ao (AA 1) (bF 0))) (Ap (A_ U_ (A_ gT (A_ gL (AA 0) (A_ BT (AA 1) (bF 1))) (bF 0)) (bF 0)))) (Dh 1 (bF 1) BT))
  (Ad (E_ GB (AB (S_ sL (AA 0) DB (DC (AA 1))) AC)))))
def Y3:TS:=
 (AH (AO (tC (.int 1)) (AF 1))
  (AH (Ay (He K (AA 0)) (AF 2) (Dh 1 (A_ En (A_ gT (AA 2) (tC (.int 1))) (AQ (GO K) [] E0 (AB (AA 1) (AB (A_ gT (AA 2) (tC (.int 1))) AC)))) Av))
  (Ad (A6 (AB (At (He K (AA 0)) [none,some 1] (AF 0) (A_ Av (A_ gT (AA 0) (tC (.int 0))) (A_ En (AA 1) (A_ gT (AA 0) (tC (.int 1)))))) (AB (AA 1) AC))))))
def QG:TS:=
 (Ad (bN (FI K) (AB (At (BL K (AA 0)) [none,some 1] (AF 0) (bN (Fl K) (AB (AA 0) (AB (AA 1) AC)))) AC)))
def QH (_:W.Frag):TS:=
 (Ad (ak (Ap (A_ aE (AA 1) (E_ B9 (AB (AA 0) AC)))) (A_ gT (AA 0) (AA 1)) (A6 (AB (bF 0) (AB (bF 1) AC)))))
def QI:TS:=
 (Ad (bN (FI K) (AB (At (Cs (AB (E_ Ge (AB (E_ B9 (AB (AA 0) AC)) (AB (E_ B9 (AB (AA 1) AC)) AC))) AC)) [none,some 0,some 1] (AF 0) (bN (LM K) (AB (bN (Fm K) (AB (AA 1) (AB (AA 0) AC))) (AB (bN (Fm K) (AB (AA 2) (AB (AA 0) AC))) AC)))) AC)))
def QJ:TS:=
 (Ad (bN (FI K) (AB (At (Cs (AB (E_ Ge (AB (E_ B9 (AB (AA 0) AC)) (AB (E_ B9 (AB (AA 1) AC)) AC))) AC)) [none,some 0,some 1] (AF 0) (bN (LN K) (AB (bN (Fm K) (AB (AA 1) (AB (AA 0) AC))) (AB (bN (Fm K) (AB (AA 2) (AB (AA 0) AC))) AC)))) AC)))
def QK:TS:=
 (AH (AO (bN (Ev K) (AB (AA 0) AC)) (AF 2))
  (AH (AO (bN (Ev K) (AB (AA 1) AC)) (AF 3))
  (Ad (bN (JT K) (AB (bN (JU K) (AB (A_ gT (AA 2) (bF 0)) (AB (A_ gT (AA 3) (bF 0)) AC))) (AB (A_ Av (A_ gT (AA 2) (bF 1)) (A_ gT (AA 3) (bF 1))) AC))))))
def Y4 (_:W.Frag):TS:=
 (Dh 5 (AA 10) En)
def Y5:TS:=
 (AH (AO (bN (LF K) (AB (AA 4) (AB (AA 10) AC))) (AF 4))
  (Y4 K))
def QL:TS:=
 (AH (AO (bN (LE K) (AB (AA 4) (AB (AA 5) AC))) (AF 10))
  (Y5 K))
def Y6:TS:=
 (AH (Dh 5 (A_ FB (AA 6) (AA 9)) Av)
  (QL K))
def QM:TS:=
 (AH (AO (bN (LG K) (AB (AA 4) (AB (A_ FB (AA 6) (AA 9)) (AB (A_ gT (AA 3) (bF 0)) (AB (A_ FB (A_ gL (AA 4) (O_ BN (bF 1))) (AA 9)) (AB (AA 8) AC)))))) (AF 4))
  (Y6 K))
def Y7:TS:=
 (AH (AO (bN (GO K) (AB (A_ gL (AA 4) (O_ BN (bF 1))) (AB (AA 6) AC))) (AF 9))
  (QM K))
def QN:TS:=
 (AH (AO (bN (Fl K) (AB (A_ Av (A_ gL (AA 4) (O_ BN (bF 1))) (A_ gT (AA 3) (bF 1))) (AB (A_ Av (AA 5) (AA 6)) AC))) (Cj (AA 7) (AA 8) Cl))
  (Y7 K))
def Y8:TS:=
 (AH (AO (A_ BT (E_ BA (AB (AA 4) AC)) (E_ B9 (AB (AA 1) AC))) (AF 8))
  (QN K))
def QO:TS:=
 (Ad (A6 (AB (bN (FI K) (AB (AA 7) AC)) (AB (bN (JT K) (AB (AA 4) (AB (AA 5) AC))) AC))))
def Y9:TS:=
 (AH (Cr (Ap (A_ iGe (E_ BA (AB (AA 4) AC)) (E_ B9 (AB (AA 1) AC)))) (Y8 K))
  (QO K))
def ZA:TS:=
 (AH (AO (A_ EH (A9 (AB (A6 (AB (bF 0) (AB (bF 1) AC))) AC)) (E_ Ge (AB (A_ BI (A_ BT (E_ B9 (AB (AA 0) AC)) (E_ B9 (AB (AA 1) AC))) (bF 1)) (AB (bF 0) AC)))) (AF 7))
  (Y9 K))
def ZB:TS:=
 (AH (AO (A_ gL (A_ gT (AA 3) (bF 0)) (O_ BN (bF 1))) (AF 6))
  (ZA K))
def ZC:TS:=
 (AH (AO (A_ gT (AA 2) (bF 1)) (AF 5))
  (ZB K))
def ZD:TS:=
 (AH (AO (A_ gT (AA 2) (bF 0)) (AF 4))
  (ZC K))
def ZE:TS:=
 (AH (AO (bN (Ev K) (AB (AA 1) AC)) (AF 3))
  (ZD K))
def ZF:TS:=
 (AH (AO (bN (Ev K) (AB (AA 0) AC)) (AF 2))
  (ZE K))
def Lj:TS:=
 (AO (bN (Hz K) (AB (AA 3) (AB (AA 5) AC))) (AF 6))
def QP:TS:=
 (AH (AO (Gc (B1 K) (GR K) [] E0 (AB (AA 3) (AB (bN (JW K) (AB (CS K (AA 5) "prime") AC)) AC))) (AF 5))
  (Lj K))
def QQ:TS:=
 (Ad (A6 (AB (tC (.str "none")) (AB (bN (Hw K) (AB (AA 12) (AB (A_ gT (AA 11) (bF 1)) AC))) AC))))
def QR:TS:=
 (AH (AO (At (Dx K (AB (A_ gT (AA 11) (bF 0)) (AB (AA 2) AC))) [none,none] (CZ 2 (A8 (AF 0) (A8 (AF 1) CY))) (A_ Av (AA 0) (A_ gT (AA 1) (bF 1)))) (AF 12))
  (QQ K))
def QS:TS:=
 (AH (AO (bN (LY K) (AB (AA 3) (AB (AA 5) (AB (AA 9) AC)))) (AF 11))
  (QR K))
def QT:TS:=
 (Ad (A6 (AB (tC (.str "told")) (AB (bN (Hw K) (AB (AA 8) (AB (A_ gT (AA 7) (bF 1)) AC))) (AB (E_ GB (AB (AA 6) AC)) AC)))))
def QU:TS:=
 (AH (Ay (EI K (AB (AA 3) AC)) (CZ 2 (A8 (AF 9) (A8 (AF 10) CY))) (BV (Ap (A_ aC (bN (GQ K) (AB (AA 10) (AB (AA 8) AC))) (A_ Av (A_ gL (AA 4) (AA 9)) (A_ gT (AA 7) (bF 1))))) (QS K) Bi))
  (QT K))
def QV:TS:=
 (AH (AO (bN (G0 K) (AB (CS K (AA 5) "columns") (AB (A_ gT (AA 7) (bF 0)) (AB (bN (Hu K) (AB (AA 3) AC)) AC)))) (AF 8))
  (QU K))
def QW:TS:=
 (AH (AO (bN (Hy K) (AB (CS K (AA 5) "minor") (AB (CS K (AA 5) "turned") (AB (bN (Hv K) (AB (AA 4) (AB (CS K (AA 5) "lines") AC))) (AB (CS K (AA 5) "prime") AC))))) (AF 7))
  (QV K))
def QX:TS:=
 (AH (Cr (Ap (A_ XH (AA 6) (tC .non))) (QP K))
  (QW K))
def Lk:TS:=
 (AH (AO (bN (Hz K) (AB (AA 3) (AB (AA 5) AC))) (AF 6))
  (QX K))
def QY:TS:=
 (AH (AO (Gc (B1 K) (GR K) [] E0 (AB (AA 3) (AB (bF 170141183460469231731687303715884105727) AC))) (AF 5))
  (Lk K))
def QZ:TS:=
 (AH (AO (At (BL K (AA 2)) [none] (AF 0) (A_ gL (A_ gT (AA 0) (bF 0)) (O_ BN (bF 1)))) (AF 4))
  (QY K))
def Qa:TS:=
 (AH (AO (At (BL K (AA 2)) [none] (AF 0) (S_ sL (A_ gT (AA 0) (bF 0)) DB (DC (O_ BN (bF 1))))) (AF 3))
  (QZ K))
def Qb:TS:=
 (AH (AO (At (Dx K (AB (AA 0) (AB (AA 1) AC))) [none,none] (CZ 2 (A8 (AF 0) (A8 (AF 1) CY))) (bN (Ev K) (AB (A_ FU (E_ HZ (AB (AA 0) AC)) (A9 (AB (AA 1) AC))) AC))) (AF 2))
  (Qa K))
def Qc:TS:=
 (Fz K (AA 0) (bN (LU K) (AB (CS K (AA 0) "minor") (AB (AA 2) AC))) "turned")
def Qd:TS:=
 (AH (Fz K (AA 0) (At (BL K (CS K (AA 0) "lines")) [none,some 1,some 0] (AF 0) (bN (Hv K) (AB (A_ gL (AA 1) (AA 0)) (AB (CS K (AA 2) "columns") AC)))) "minor")
  (Qc K))
def Qe:TS:=
 (AH (Fz K (AA 0) (A_ gT (AA 3) (bF 2)) "columns")
  (Qd K))
def Qf:TS:=
 (AH (Fz K (AA 0) (A_ gT (AA 3) (bF 1)) "lines")
  (Qe K))
def Qg:TS:=
 (AH (Fz K (AA 0) (AA 2) "prime")
  (Qf K))
def ZG:TS:=
 (AH (AO (bN (Ht K) (AB (AA 1) (AB (AA 2) AC))) (AF 3))
  (Qg K))
def ZH (_:W.Frag):TS:=
 (Ad (ak (FA (AA 0)) (E_ BA (AB (A_ gL (AA 0) (bF 0)) AC)) (bF 0)))
def ZI:TS:=
 (Ad (At (BL K (AA 1)) [none,some 0] (AF 0) (A_ gL (AA 1) (AA 0))))
def ZJ:TS:=
 (AH (AO (A_ EH (A9 (AB (bF 0) AC)) (AA 2)) (AF 3))
  (AH (Ay (Dx K (AB (AA 0) (AB (AA 1) AC))) (CZ 2 (A8 (AF 4) (A8 (AF 5) CY))) (AO (AA 5) (Cj (AA 3) (AA 4) Cl)))
  (Ad (AA 3))))
def ZK:TS:=
 (Ad (E_ GB (AB (At (BL K (AA 0)) [none,some 1] (AF 0) (bN (Fl K) (AB (AA 0) (AB (AA 1) AC)))) AC)))
def ZL:TS:=
 (Ad (At (Cs (AB (bN (Hu K) (AB (AA 0) AC)) AC)) [none,some 0] (AF 0) (bN (LS K) (AB (AA 1) (AB (AA 0) AC)))))
def ZM:TS:=
 (Ad (At (BL K (AA 0)) [none,some 1] (AF 0) (A_ gL (AA 0) (AA 1))))
def Qh:TS:=
 (Ad (At (BL K (A_ gT (bN (Ht K) (AB (AA 3) (AB (AA 1) AC))) (bF 0))) [none,some 2] (AF 0) (S_ sL (AA 0) (DC (AA 1)) DB)))
def Qi:TS:=
 (AH (AO (At (EI K (AB (AA 0) AC)) [none,none,some 2] (CZ 2 (A8 (AF 0) (A8 (AF 1) CY))) (A_ FU (AA 1) (bN (G0 K) (AB (A9 (AB (AA 0) AC)) (AB (A9 (AB (bF 1) AC)) (AB (AA 2) AC)))))) (AF 3))
  (Qh K))
def ZN:TS:=
 (AH (AO (E_ BA (AB (AA 0) AC)) (AF 2))
  (Qi K))
def Qj:TS:=
 (EF (aK K "list" F2 (AA 3) (AB (bN (Hw K) (AB (AA 7) (AB (A_ gT (AA 6) (bF 1)) AC))) AC)))
def Qk:TS:=
 (AH (BV (tB (E_ Nj (AB (At (BL K (AA 0)) [none,some 7] (AF 0) (bN (GQ K) (AB (AA 0) (AB (AA 1) AC)))) AC))) (Ad (tC .non)) Bi)
  (Qj K))
def Ql:TS:=
 (AH (AO (A_ gT (AA 6) (bF 1)) (Cj (AA 7) (AA 4) Cl))
  (Qk K))
def Qm:TS:=
 (AH (AO (bN (G0 K) (AB (CS K (AA 1) "columns") (AB (A_ gT (AA 6) (bF 0)) (AB (AA 2) AC)))) (AF 7))
  (Ql K))
def Qn:TS:=
 (AH (AO (bN (Hy K) (AB (CS K (AA 1) "minor") (AB (CS K (AA 1) "turned") (AB (AA 5) (AB (CS K (AA 1) "prime") AC))))) (AF 6))
  (Qm K))
def Qo:TS:=
 (AH (AO (At (BL K (CS K (AA 1) "lines")) [none,some 4,some 0] (AF 0) (O_ BN (A_ gL (A_ gL (AA 2) (AA 0)) (AA 1)))) (AF 5))
  (Qn K))
def Qp (_:W.Frag):TS:=
 (Ad (AA 3))
def Qq:TS:=
 (AH (Ay (Cs (AB (AA 2) AC)) (AF 4) (BV (Ap (A_ (inD true) (AA 4) (CS K (AA 1) "columns"))) (Qo K) Bi))
  (Qp K))
def Qr:TS:=
 (AH (AO (A9 AC) (AF 3))
  (Qq K))
def ZO:TS:=
 (AH (AO (bN (Hu K) (AB (AA 0) AC)) (AF 2))
  (Qr K))
def Qs (_:W.Frag):TS:=
 (Ad (A6 (AB (AA 5) (AB (A_ gT (AA 4) (bF 1)) AC))))
def Qt:TS:=
 (AH (AO (A_ gT (AA 4) (bF 1)) (Cj (AA 5) (AA 2) Cl))
  (Qs K))
def Qu:TS:=
 (AH (AO (bN (G0 K) (AB (CS K (AA 1) "lines") (AB (At (BL K (A_ gT (AA 4) (bF 0))) [none] (AF 0) (O_ BN (AA 0))) (AB (E_ BA (AB (AA 0) AC)) AC)))) (AF 5))
  (Qt K))
def Qv:TS:=
 (AH (AO (bN (Hy K) (AB (bN (JZ K) (AB (CS K (AA 1) "minor") AC)) (AB (bN (JZ K) (AB (CS K (AA 1) "turned") AC)) (AB (AA 3) (AB (CS K (AA 1) "prime") AC))))) (AF 4))
  (Qu K))
def ZP:TS:=
 (AH (AO (bN (Hv K) (AB (A_ gL (AA 0) (AA 2)) (AB (CS K (AA 1) "columns") AC))) (AF 3))
  (Qv K))
def Qw (_:W.Frag):TS:=
 (Dh 6 (AA 3) Av)
def Qx:TS:=
 (AH (AO (At (Dx K (AB (AA 4) (AB (AA 0) AC))) [none,none,some 3,some 10] (CZ 2 (A8 (AF 0) (A8 (AF 1) CY))) (A_ En (A_ BT (AA 0) (bN (GQ K) (AB (AA 1) (AB (AA 3) AC)))) (AA 2))) (AF 4))
  (Qw K))
def Qy:TS:=
 (AH (AO (At (Dx K (AB (AA 5) (AB (AA 10) AC))) [none,none,some 6] (CZ 2 (A8 (AF 0) (A8 (AF 1) CY))) (A_ BI (AA 0) (A_ Av (AA 2) (AA 1)))) (AF 5))
  (Qx K))
def Qz:TS:=
 (AH (AO (At (BL K (AA 1)) [none,some 3,some 9] (AF 0) (A_ CT (bN (GQ K) (AB (AA 0) (AB (AA 2) AC))) (AA 1))) (AF 10))
  (Qy K))
def Q0:TS:=
 (AH (AO (At (BL K (AA 4)) [none,some 3] (AF 0) (A_ CT (AA 0) (AA 1))) (AF 9))
  (Qz K))
def Q1 (_:W.Frag):TS:=
 (Dh 7 (bF 2) Av)
def Ll:TS:=
 (AH (BV (EE (Ap (A_ XI (AA 11) (tC .non))) (tB (bN (LX K) (AB (AA 0) (AB (AA 11) (AB (AA 2) AC)))))) (Ad (AA 11)) Bi)
  (Q1 K))
def Q2:TS:=
 (AH (AO (bN (LW K) (AB (AA 5) (AB (AA 6) AC))) (AF 11))
  (Ll K))
def Q3:TS:=
 (AH (Ay (Cs (AB (AA 7) AC)) (AF 8) (Q0 K))
  (Q2 K))
def Q4:TS:=
 (Cr (tB (tC (.bl true))) (Q3 K))
def Q5:TS:=
 (AH (AO (bF 1) (AF 7))
  (Q4 K))
def Q6:TS:=
 (AH (AO (bF 1) (AF 6))
  (Q5 K))
def Q7:TS:=
 (AH (AO (A_ EH (A9 (AB (bF 0) AC)) (E_ BA (AB (AA 2) AC))) (AF 5))
  (Q6 K))
def ZQ:TS:=
 (AH (AO (AA 2) (AF 4))
  (Q7 K))
def ZR:TS:=
 (AH (Ay (Dx K (AB (AA 0) (AB (AA 2) AC))) (CZ 2 (A8 (AF 3) (A8 (AF 4) CY))) (BV (Ap (A_ aC (bN (GQ K) (AB (AA 3) (AB (A_ gT (AA 1) (bF 0)) AC))) (A_ Av (AA 4) (A_ gT (AA 1) (bF 1))))) (Ad (tC (.bl false))) Bi))
  (Ad (tC (.bl true))))
def Q8 (_:W.Frag):TS:=
 (BV (Ap (A_ ao (AA 3) (AA 2))) (Ad (tC .non)) Bi)
def Q9:TS:=
 (AH (Dh 3 (bN (LV K) (AB (A_ CT (A_ Av (AA 4) (AA 3)) (AA 1)) (AB (AA 1) (AB (AA 2) AC)))) Av)
  (Q8 K))
def RA:TS:=
 (Ad (A6 (AB (At (BL K (AA 0)) [none,some 1,some 3] (AF 0) (bN (JS K) (AB (A_ Av (AA 0) (AA 2)) (AB (AA 1) AC)))) (AB (AA 3) AC))))
def RC:TS:=
 (AH (Ay (BL K (AA 0)) (AF 4) (BV (Ap (A_ ao (E_ FV (AB (bN (JS K) (AB (A_ Av (AA 4) (AA 3)) (AB (AA 1) AC))) AC)) (AA 2))) (Q9 K) Bi))
  (RA K))
def RD:TS:=
 (AH (AO (bF 1) (AF 3))
  (RC K))
def ZS:TS:=
 (AH (AO (A_ Np (bF 1) (A_ En (A_ BT (KH K "int" Nr (AA 1)) (bF 2)) (bF 2))) (AF 2))
  (RD K))
def RF (_:W.Frag):TS:=
 (AO (AA 9) (AF 6))
def RG:TS:=
 (AH (AO (AA 6) (AF 5))
  (RF K))
def RH:TS:=
 (AH (AO (A_ BI (AA 5) (A_ Av (AA 7) (AA 6))) (AF 9))
  (RG K))
def RI:TS:=
 (AH (AO (AA 8) (AF 4))
  (RH K))
def RJ:TS:=
 (AH (AO (AA 4) (AF 3))
  (RI K))
def RK:TS:=
 (AH (AO (A_ BT (AA 3) (A_ Av (AA 7) (AA 4))) (AF 8))
  (RJ K))
def RL:TS:=
 (AH (AO (A_ En (AA 3) (AA 4)) (AF 7))
  (RK K))
def RN (_:W.Frag):TS:=
 (Ad (AA 6))
def RP:TS:=
 (AH (Cr (Ap (A_ ao (AA 4) (AA 2))) (RL K))
  (RN K))
def RQ:TS:=
 (AH (AO (bF 1) (AF 6))
  (RP K))
def RU:TS:=
 (AH (AO (bF 0) (AF 5))
  (RQ K))
def RV:TS:=
 (AH (AO (AA 0) (AF 4))
  (RU K))
def ZT:TS:=
 (AH (AO (AA 1) (AF 3))
  (RV K))
def ZU (_:W.Frag):TS:=
 (Ad (AA 4))
def ZV:TS:=
 (AH (Ay (KY K (AB (AA 0) AC)) (AF 5) (AO (A_ gT (bN (GP K) (AB (bN (LO K) (AB (bN (JV K) (AB (AA 4) (AB (AA 3) AC))) (AB (bN (FI K) (AB (A9 (AB (AA 5) AC)) AC)) AC))) (AB (AA 2) AC))) (bF 1)) (AF 4)))
  (ZU K))
def ZW:TS:=
 (AH (AO (A6 AC) (AF 4))
  (ZV K))
def ZX:TS:=
 (AH (AO (A_ gT (bN (GP K) (AB (AA 1) (AB (AA 2) AC))) (bF 1)) (AF 3))
  (ZW K))
def RW (_:W.Frag):TS:=
 (Dh 4 (bF 1) BI)
def RX:TS:=
 (AH (AO (bN (Le K) (AB (S_ sL (AA 3) DB (DC (AA 4))) (AB (bN (LP K) (AB (A6 AC) (AB (A_ gL (AA 3) (AA 4)) AC))) AC))) (AF 5))
  (RW K))
def RY:TS:=
 (AH (Cr (Ap (A_ iLe (E_ BA (AB (AA 3) AC)) (AA 4))) (EF (aK K "list" F2 (AA 3) (AB (A_ gT (bN (GP K) (AB (bN (JV K) (AB (A_ gL (AA 3) (O_ BN (bF 1))) (AB (AA 2) AC))) (AB (AA 1) AC))) (bF 1)) AC))))
  (RX K))
def ZY:TS:=
 (Ad (bN (FI K) (AB (A_ FU (E_ Ip (AB (A_ gT (AA 5) (bF 1)) AC)) (A9 (AB (A6 (AB (bF 1) (AB (bF 1) AC))) AC))) AC)))
def ZZ:TS:=
 (AH (Cr (Ap (A_ U_ (A_ gT (AA 5) (bF 0)) (tC (.str "none")))) (RY K))
  (ZY K))
def Za:TS:=
 (AH (AO (A6 (AB (tC (.str "none")) AC)) (AF 5))
  (ZZ K))
def Zb:TS:=
 (AH (AO (bN (Lf K) (AB (A_ gT (bN (Ev K) (AB (AA 2) AC)) (bF 0)) (AB (A_ gT (bN (Ev K) (AB (AA 1) AC)) (bF 0)) AC))) (AF 4))
  (Za K))
def Zc:TS:=
 (AH (AO (A9 (AB (A6 (AB (A6 (AB (bF 1) (AB (bF 1) AC))) AC)) AC)) (AF 3))
  (Zb K))
def Zd:TS:=
 (AH (AO (A_ gT (bN (GP K) (AB (AA 0) (AB (AA 1) AC))) (bF 1)) (AF 2))
  (Zc K))
def RZ:TS:=
 (Ad (bN (Jb K) (AB (AA 3) (AB (At (Cs (AB (AA 2) AC)) [none,some 1] (AF 0) (bN (Fm K) (AB (AA 1) (AB (AA 0) AC)))) AC))))
def Lm:TS:=
 (AH (AO (At (Cs (AB (AA 2) AC)) [none,some 0] (AF 0) (bN (Ld K) (AB (AA 1) (AB (AA 0) AC)))) (AF 3))
  (RZ K))
def Ze:TS:=
 (AH (AO (E_ OA (AB (A_ FU (A9 (AB (bF 1) AC)) (At (BL K (A_ FU (AA 0) (A9 (AB (AA 1) AC)))) [none] (AF 0) (E_ B9 (AB (AA 0) AC)))) AC)) (AF 2))
  (Lm K))
def Zf:TS:=
 (Ad (At (BL K (AA 0)) [none,some 1] (AF 0) (bN (Fm K) (AB (AA 0) (AB (AA 1) AC)))))
def Ra:TS:=
 (AO (bN (LK K) (AB (bN (JU K) (AB (AA 6) (AB (AA 0) AC))) (AB (AA 3) (AB (AA 2) AC)))) (AF 6))
def Zg:TS:=
 (AH (EF (aK K "list" F2 (AA 5) (AB (A_ FU (AA 6) (A_ EH (A9 (AB (bF 0) AC)) (A_ BT (AA 4) (E_ BA (AB (AA 6) AC))))) AC)))
  (Ra K))
def Zh:TS:=
 (Ad (E_ BA (AB (A_ gT (bN (Ht K) (AB (AA 5) (AB (AA 2) AC))) (bF 2)) AC)))
def Zj:TS:=
 (AH (Ay (Cs (AB (AA 4) AC)) (AF 7) (Zg K))
  (Zh K))
def Zk:TS:=
 (AH (AO (A9 (AB (bF 1) AC)) (AF 6))
  (Zj K))
def Rb:TS:=
 (AH (AO (A9 AC) (AF 5))
  (Zk K))
def Zl:TS:=
 (AH (AO (A_ BT (E_ BA (AB (AA 1) AC)) (bF 1)) (AF 4))
  (Rb K))
def Zn:TS:=
 (AH (AO (bN (LI K) (AB (AA 1) (AB (AA 2) AC))) (AF 3))
  (Zl K))
def Zo:TS:=
 (AH (Cr (Ap (A_ U_ (A_ CT (A_ gL (AA 1) (O_ BN (bF 1))) (AA 2)) (bF 0))) (AO (bN (JW K) (AB (AA 2) AC)) (AF 2)))
  (Zn K))
def Zp:TS:=
 (AH (AO (bF 170141183460469231731687303715884105727) (AF 2))
  (Zo K))
def Rc:TS:=
 (AH (AO (E_ Iw (AB (S_ (sS K) (AA 0) DB (DC (bF 1))) AC)) (AF 1))
  (Ad (A9 (AB (E_ HZ (AB (S_ (sS K) (AA 0) DB (DC (bF 63))) AC)) (AB (bF 0) (AB (A_ Ij (E_ FV (AB (AA 1) AC)) (bF 2)) (AB (A_ CT (AA 1) (bF 2)) AC)))))))
def Re (_:W.Frag):TS:=
 (AO (E_ FV (AB (A_ gL (A_ gL (AA 0) (bF 0)) (A_ gL (AA 0) (bF 1))) AC)) (Cj (AA 0) (bF 2) Cl))
def Rf:TS:=
 (AH (AO (A_ BI (A_ gL (AA 0) (bF 1)) (bF 1)) (Cj (AA 0) (bF 1) Cl))
  (Re K))
def Rg (_:W.Frag):TS:=
 (Ad (AA 2))
def Rh:TS:=
 (AH (AO (A_ Ij (A_ gL (AA 0) (bF 2)) (AA 1)) (Cj (AA 0) (bF 2) Cl))
  (Rg K))
def Ri:TS:=
 (AH (AO (A_ CT (A_ gL (AA 0) (bF 2)) (AA 1)) (AF 2))
  (Rh K))
def Rj (_:W.Frag):TS:=
 (Ad (A_ CT (A_ Ij (AA 5) (bF 7)) (AA 1)))
def Rk:TS:=
 (AH (AO (A_ CT (A_ BI (A_ Av (AA 4) (A_ BI (A_ CT (AA 4) (bF 39373)) (A_ gL (AA 0) (bF 1)))) (A_ Av (bF 31) (A_ gL (AA 0) (bF 1)))) (bF 1999999973)) (AF 5))
  (Rj K))
def Rl:TS:=
 (AH (AO (A_ CT (A_ Av (A_ BI (A_ BI (A_ CT (AA 3) (bF 2147483629)) (A_ Av (bF 7919) (A_ gL (AA 0) (bF 1)))) (bF 11)) (A_ BI (bF 48271) (A_ Av (bF 2) (A_ gL (AA 0) (bF 1))))) (bF 2147483647)) (AF 4))
  (Rk K))
def Rm:TS:=
 (AH (AO (E_ Iw (AB (S_ sL (S_ sL (A_ gL (AA 0) (bF 0)) (DC (A_ CT (A_ gL (AA 0) (bF 1)) (E_ Ge (AB (bF 1) (AB (E_ BA (AB (A_ gL (AA 0) (bF 0)) AC)) AC))))) DB) DB (DC (bF 1))) AC)) (AF 3))
  (Rl K))
def Lo:TS:=
 (AH (AO (A_ BI (A_ gL (AA 0) (bF 1)) (bF 1)) (Cj (AA 0) (bF 1) Cl))
  (Rm K))
def Lp:TS:=
 (AH (BV (EE (Ap (A_ U_ (A_ gL (AA 0) (bF 3)) (bF 1))) (Ap (A_ ao (A_ gL (AA 0) (bF 2)) (bF 0)))) (Ri K) Bi)
  (Lo K))
def Ro:TS:=
 (AH (BV (EE (Ap (A_ U_ (A_ gL (AA 0) (bF 3)) (bF 1))) (EE (Ap (A_ U_ (A_ gL (AA 0) (bF 2)) (bF 0))) (Ap (A_ aE (A_ BI (A_ gL (AA 0) (bF 1)) (bF 1)) (E_ BA (AB (A_ gL (AA 0) (bF 0)) AC)))))) (Rf K) Bi)
  (Lp K))
def Rp (_:W.Frag):TS:=
 (AH (J9 2 3 (AB (E_ FV (AB (AA 0) AC)) (AB (E_ FV (AB (AA 1) AC)) AC)))
  (AH (Cr (Ap (A_ ao (AA 3) (bF 0))) (J9 2 3 (AB (AA 3) (AB (A_ CT (AA 2) (AA 3)) AC))))
  (AH (BV (Ap (A_ aE (AA 1) (bF 0))) (AO (O_ BN (AA 2)) (AF 2)) Bi)
  (Ad (A6 (AB (A_ FB (AA 0) (AA 2)) (AB (A_ FB (AA 1) (AA 2)) AC)))))))
def Rq:TS:=
 (AH (AO (A_ EH (A9 (AB (bF 0) AC)) (A_ BT (A_ BI (E_ BA (AB (AA 0) AC)) (E_ BA (AB (AA 1) AC))) (bF 1))) (AF 2))
  (AH (Ay (EI K (AB (AA 0) AC)) (CZ 2 (A8 (AF 3) (A8 (AF 4) CY))) (Ay (EI K (AB (AA 1) AC)) (CZ 2 (A8 (AF 5) (A8 (AF 6) CY))) (AO (A_ BI (A_ gL (AA 2) (A_ BI (AA 3) (AA 5))) (A_ Av (AA 4) (AA 6))) (Cj (AA 2) (A_ BI (AA 3) (AA 5)) Cl))))
  (Ad (AA 2))))
def Rs:TS:=
 (Ad (E_ GB (AB (At (BL K (AA 0)) [none,some 1] (AF 0) (bN (GS K) (AB (A_ Av (AA 0) (A_ gT (AA 1) (bF 0))) (AB (A_ gT (AA 1) (bF 1)) AC)))) AC)))
def Ru:TS:=
 (Ad (bN (GS K) (AB (A_ Av (A_ gL (A9 (AB (bF 1) (AB (O_ BN (bF 1)) AC))) (bN (Cz K) (AB (AA 0) (AB (bF 2) AC)))) (A_ BI (bF 1) (bN (Cz K) (AB (AA 0) (AB (bF 9) AC))))) (AB (A_ BI (bF 1) (bN (Cz K) (AB (AA 0) (AB (bF 9) AC)))) AC))))
def Rv:TS:=
 (AH (AO (A9 AC) (AF 3))
  (AH (Ay (Cs (AB (bN (Cz K) (AB (AA 0) (AB (A_ BI (AA 1) (bF 1)) AC))) AC)) (AF 4) (EF (aK K "list" F2 (AA 3) (AB (A_ gL (A9 (AB (bF 0) (AB (bF 1) (AB (O_ BN (bF 1)) (AB (A_ BT (bN (Cz K) (AB (AA 0) (AB (A_ BI (A_ Av (bF 2) (AA 2)) (bF 1)) AC))) (AA 2)) AC))))) (bN (Cz K) (AB (AA 0) (AB (bF 4) AC)))) AC))))
  (Ad (A_ FU (AA 3) (A9 (AB (A_ Av (A_ gL (A9 (AB (bF 1) (AB (O_ BN (bF 1)) AC))) (bN (Cz K) (AB (AA 0) (AB (bF 2) AC)))) (A_ BI (bF 1) (bN (Cz K) (AB (AA 0) (AB (AA 2) AC))))) AC))))))
def Rw:TS:=
 (Ad (E_ GB (AB (At (BL K (AA 0)) [none,some 0] (AF 0) (bN (GS K) (AB (AA 0) (AB (A_ gL (AA 1) (O_ BN (bF 1))) AC)))) AC)))
def Rx:TS:=
 (Ad (bN (GS K) (AB (A_ BI (A_ Av (A_ gT (AA 0) (bF 0)) (A_ gT (AA 1) (bF 1))) (A_ Av (A_ gT (AA 1) (bF 0)) (A_ gT (AA 0) (bF 1)))) (AB (A_ Av (A_ gT (AA 0) (bF 1)) (A_ gT (AA 1) (bF 1))) AC))))
def Ry:TS:=
 (Ad (bN (GS K) (AB (A_ Av (A_ gT (AA 0) (bF 0)) (A_ gT (AA 1) (bF 0))) (AB (A_ Av (A_ gT (AA 0) (bF 1)) (A_ gT (AA 1) (bF 1))) AC))))
def Rz (_:W.Frag):TS:=
 (AH (AO (E_ BA (AB (AA 0) AC)) (AF 1))
  (AH (Cr (EE (Ap (A_ ao (AA 1) (bF 0))) (Ap (A_ U_ (A_ gT (A_ gL (AA 0) (A_ BT (AA 1) (bF 1))) (bF 0)) (bF 0)))) (AO (A_ BT (AA 1) (bF 1)) (AF 1)))
  (Ad (E_ GB (AB (S_ sL (AA 0) DB (DC (AA 1))) AC)))))
def Zq:TS:=
 (AH (AO (A_ EH (A9 (AB (A6 (AB (bF 0) (AB (bF 1) AC))) AC)) (A_ BI (E_ B9 (AB (AA 0) AC)) (E_ B9 (AB (AA 1) AC)))) (AF 2))
  (AH (Ay (Im K (AB (AA 0) AC)) (CZ 2 (A8 (AF 3) (A8 (AF 4) CY))) (Ay (Im K (AB (AA 1) AC)) (CZ 2 (A8 (AF 5) (A8 (AF 6) CY))) (AO (bN (IA K) (AB (A_ gL (AA 2) (A_ BI (AA 3) (AA 5))) (AB (bN (G6 K) (AB (AA 4) (AB (AA 6) AC))) AC))) (Cj (AA 2) (A_ BI (AA 3) (AA 5)) Cl))))
  (Ad (bN (G7 K) (AB (AA 2) AC)))))
def R7:TS:=
 (AO (bN (IA K) (AB (A_ gL (AA 2) (AA 5)) (AB (bN (G6 K) (AB (AA 3) (AB (A6 (AB (O_ BN (A_ gT (A_ gT (AA 1) (AA 4)) (bF 0))) (AB (A_ gT (A_ gT (AA 1) (AA 4)) (bF 1)) AC))) AC))) AC))) (Cj (AA 2) (AA 5) Cl))
def R8:TS:=
 (AH (AO (A_ BI (A_ BT (E_ BA (AB (AA 2) AC)) (E_ B9 (AB (AA 1) AC))) (AA 4)) (AF 5))
  (R7 K))
def Zr:TS:=
 (EF (KH K "list" NQ (AA 2)))
def Zs:TS:=
 (AH (Ay (Cs (AB (E_ B9 (AB (AA 1) AC)) AC)) (AF 4) (R8 K))
  (Zr K))
def Zt:TS:=
 (AH (AO (bN (G6 K) (AB (A_ gL (AA 2) (O_ BN (bF 1))) (AB (ak (Ap (A_ aE (A_ gT (A_ gT (AA 1) (O_ BN (bF 1))) (bF 0)) (bF 0))) (A6 (AB (O_ BN (A_ gT (A_ gT (AA 1) (O_ BN (bF 1))) (bF 1))) (AB (O_ BN (A_ gT (A_ gT (AA 1) (O_ BN (bF 1))) (bF 0))) AC))) (A6 (AB (A_ gT (A_ gT (AA 1) (O_ BN (bF 1))) (bF 1)) (AB (A_ gT (A_ gT (AA 1) (O_ BN (bF 1))) (bF 0)) AC)))) AC))) (AF 3))
  (Zs K))
def Zu:TS:=
 (Ad (bN (G7 K) (AB (AA 2) AC)))
def Zv:TS:=
 (AH (Cr (Ap (A_ iGe (E_ BA (AB (AA 2) AC)) (E_ B9 (AB (AA 1) AC)))) (Zt K))
  (Zu K))
def Zw:TS:=
 (AH (AO (E_ Ip (AB (AA 0) AC)) (AF 2))
  (Zv K))
def Zx (_:W.Frag):TS:=
 (AH (BV (Ap (A_ aE (AA 1) (E_ B9 (AB (AA 0) AC)))) (Ad (A_ gT (AA 0) (AA 1))) Bi)
  (Ad (A6 (AB (bF 0) (AB (bF 1) AC)))))
def Zy:TS:=
 (AH (AO (A9 (AB (bN (IB K) (AB (A6 (AB (A6 (AB (bF 1) (AB (bF 1) AC))) AC)) (AB (AA 1) AC))) AC)) (AF 3))
  (AH (Cr (Ap (A_ aE (E_ BA (AB (AA 3) AC)) (AA 2))) (EF (aK K "list" F2 (AA 3) (AB (bN (IB K) (AB (bN (Lb K) (AB (A_ gL (AA 3) (O_ BN (bF 1))) (AB (AA 0) AC))) (AB (AA 1) AC))) AC))))
  (Ad (AA 3))))
def Zz:TS:=
 (Ad (bN (G7 K) (AB (AA 3) AC)))
def Z0:TS:=
 (AH (Ay (KT K (AB (AA 0) (AB (bN (Je K) (AB (AA 1) (AB (AA 2) (AB (E_ B9 (AB (AA 0) AC)) AC)))) AC))) (CZ 2 (A8 (AF 4) (A8 (AF 5) CY))) (Ay (Cs (AB (E_ B9 (AB (AA 5) AC)) AC)) (AF 6) (AO (bN (IA K) (AB (A_ gL (AA 3) (AA 6)) (AB (bN (G6 K) (AB (AA 4) (AB (A_ gT (AA 5) (AA 6)) AC))) AC))) (Cj (AA 3) (AA 6) Cl))))
  (Zz K))
def Z1:TS:=
 (AH (AO (A_ EH (A9 (AB (A6 (AB (bF 0) (AB (bF 1) AC))) AC)) (E_ B9 (AB (AA 2) AC))) (AF 3))
  (Z0 K))
def R9 (_:W.Frag):TS:=
 (Ad (A6 (AB (AA 3) (AB (AA 2) AC))))
def SA:TS:=
 (AH (BV (Ap (A_ U_ (AA 4) (bF 1))) (AO (ak (Ap (A_ bS (bN (G7 K) (AB (E_ Ip (AB (S_ sT (AA 2) DB (DC (O_ BN (bF 1)))) AC)) AC)) (S_ sT (AA 2) DB (DC (O_ BN (bF 1)))))) (S_ sT (AA 2) DB (DC (O_ BN (bF 1)))) (AA 3)) (AF 3)) Bi)
  (R9 K))
def Z2:TS:=
 (AH (BV (Ap (A_ U_ (AA 4) (bF 0))) (AO (A6 AC) (AF 3)) Bi)
  (SA K))
def Z3:TS:=
 (AH (AO (bN (Cz K) (AB (AA 0) (AB (bF 6) AC))) (AF 4))
  (Z2 K))
def SB:TS:=
 (AH (AO (bN (Jc K) (AB (bN (GU K) (AB (AA 0) (AB (bF 5) (AB (bF 9) AC)))) (AB (bN (Jd K) (AB (AA 0) AC)) AC))) (AF 3))
  (Z3 K))
def Lq:TS:=
 (AH (AO (bN (La K) (AB (AA 1) AC)) (AF 2))
  (SB K))
def SC:TS:=
 (AH (BV (EE (Ap (A_ aE (E_ BA (AB (AA 1) AC)) (bF 4))) (Ap (A_ U_ (bN (Cz K) (AB (AA 0) (AB (bF 3) AC))) (bF 0)))) (AO (bN (GT K) (AB (AA 1) (AB (AA 1) AC))) (AF 1)) (BV (Ap (A_ U_ (bN (Cz K) (AB (AA 0) (AB (bF 8) AC))) (bF 0))) (AO (bN (GT K) (AB (AA 1) (AB (bN (GU K) (AB (AA 0) (AB (bF 3) (AB (bF 3) AC)))) AC))) (AF 1)) Bi))
  (Lq K))
def Z4:TS:=
 (AH (BV (Ap (A_ U_ (bN (Cz K) (AB (AA 0) (AB (bF 2) AC))) (bF 0))) (AO (bN (GT K) (AB (AA 1) (AB (A9 (AB (A_ BT (bN (Cz K) (AB (AA 0) (AB (bF 9) AC))) (bF 4)) (AB (A_ BT (bN (Cz K) (AB (AA 0) (AB (bF 3) AC))) (bF 1)) (AB (bF 1) AC)))) AC))) (AF 1)) Bi)
  (SC K))
def Z5:TS:=
 (AH (AO (bN (GT K) (AB (bN (GU K) (AB (AA 0) (AB (bF 1) (AB (bF 6) AC)))) (AB (A9 (AB (A_ BT (bN (Cz K) (AB (AA 0) (AB (bF 9) AC))) (bF 4)) (AB (bF 1) AC))) AC))) (AF 1))
  (Z4 K))
def SE (_:W.Frag):TS:=
 (Ad (J8 (A_ U_ (A_ gT (AA 8) (bF 0)) (tC (.str "told"))) (A_ bS (A_ gT (AA 8) (bF 2)) (A6 AC))))
def Z6:TS:=
 (AH (AO (bN (Jb K) (AB (AA 7) (AB (A_ EH (A9 (AB (A6 (AB (bF 0) (AB (bF 1) AC))) AC)) (E_ BA (AB (AA 7) AC))) AC))) (AF 8))
  (SE K))
def Z7:TS:=
 (AH (AO (At (Cs (AB (A_ BT (E_ B9 (AB (AA 3) AC)) (bF 1)) AC)) [none,some 6] (AF 0) (At (BL K (AA 1)) [none,some 0] (AF 0) (bN (Lh K) (AB (AA 0) (AB (AA 1) AC))))) (AF 7))
  (Z6 K))
def SF:TS:=
 (AH (AO (bN (Je K) (AB (AA 2) (AB (AA 3) (AB (A_ BT (E_ B9 (AB (AA 5) AC)) (bF 1)) AC)))) (AF 6))
  (Z7 K))
def Z8:TS:=
 (AH (BV (Ap (A_ bx (bN (Jf K) (AB (AA 5) (AB (AA 2) (AB (AA 3) AC)))) (A6 AC))) (Ad (tC (.bl false))) Bi)
  (SF K))
def Z9:TS:=
 (AH (BV (aG (Ga (tB (E_ NW (AB (AA 5) (AB (tC (.ty "tuple")) AC))))) (aG (Ap (A_ aE (E_ B9 (AB (AA 5) AC)) (bF 2))) (aG (Ap (A_ ao (E_ B9 (AB (AA 5) AC)) (E_ B9 (AB (AA 3) AC)))) (Ap (A_ bx (A_ gT (AA 5) (O_ BN (bF 1))) (A6 (AB (bF 1) (AB (bF 1) AC)))))))) (Ad (tC (.bl false))) Bi)
  (Z8 K))
def zA:TS:=
 (AH (AO (bN (Lg K) (AB (AA 2) (AB (AA 3) AC))) (AF 5))
  (Z9 K))
def SG:TS:=
 (AH (BV (Ap (A_ bx (bN (Lc K) (AB (AA 4) (AB (AA 2) (AB (AA 3) AC)))) (bN (Jf K) (AB (AA 4) (AB (AA 2) (AB (AA 3) AC)))))) (Ad (tC (.bl false))) Bi)
  (zA K))
def zB:TS:=
 (AH (BV (Ap (A_ U_ (bN (Cz K) (AB (AA 1) (AB (bF 8) AC))) (bF 0))) (AO (A6 AC) (AF 4)) Bi)
  (SG K))
def zC:TS:=
 (AH (AO (bN (Jc K) (AB (bN (GU K) (AB (AA 1) (AB (bF 4) (AB (bF 9) AC)))) (AB (bN (Jd K) (AB (AA 1) AC)) AC))) (AF 4))
  (zB K))
def zD:TS:=
 (AH (AO (bN (Li K) (AB (AA 1) AC)) (CZ 2 (A8 (AF 2) (A8 (AF 3) CY))))
  (zC K))
def zE:TS:=
 (AH (AO (bN (LZ K) (AB (AA 0) AC)) (AF 1))
  (zD K))
end
variable {K:W.Frag} {vs:cJ} {H:Hp} {Q:VK} {E:XK}
local macro_rules | `(tactic| rwa [$[$t:term],*]) => do
 let l : Array Lean.Term := (("AH AO AQ AB AA AC AF Cj L2.start BV ak Ap L2.tB A_ a8 rI L2.tC O_ rU Bi Ad A6 A9 J9 Dh EF E_ EE aG Ga J8 U_ aC Cl BI BT Av Ij CT Wg aE iLe ao iGe BN gT gL gS FV Ge B9 BA NW qD qE qF qG qH qJ List.map_cons List.map_nil List.length_cons List.length_nil List.replicate List.cons_append List.nil_append List.append_nil List.getElem?_cons_zero List.getElem?_cons_succ Option.some.injEq exists_eq_left' exists_eq_left V.int.injEq V.bl.injEq V.ref.injEq V.ty.injEq HO.tup.injEq HO.lst.injEq List.cons.injEq and_true true_and and_assoc exists_and_left List.set_cons_zero List.set_cons_succ decide_eq_true_eq decide_eq_false_iff_not Bool.not_eq_true' Bool.true_eq_false Bool.false_eq_true Bool.not_true Bool.not_false if_true if_false ite_true ite_false qK qL F5 E9 Wj Wk Wl qN qO Nat.zero_add Nat.reduceAdd Nat.reduceSub upd_same Int.cast_ofNat_Int decide_true decide_false eq_self not_true_eq_false not_false_eq_true Int.natCast_add Int.natCast_zero reduceCtorEq Nm CZ A8 CY IZ S_ DB DC sL sT GB Ip HZ FA EH FU F2 NP NQ aK KH qP qQ qR qU qY qW qS qT qV Ni XM Nj XH XI En FB XJ Hb CU Option.bind_some Option.bind_none Option.bind Option.join id_eq sS Iw GO Hr LE LF LG JQ JR LH LI LJ LK JS Fl FI JT GP JU JV Fm LZ Cz GT Jc Jd GU La Lb IB Hs".splitOn " ").map λs => (⟨(Lean.mkIdent s.toName).raw⟩ : Lean.Term)).toArray
 `(tactic| simp only [$[$(l ++ t):term],*])
def Lr {x:Int} (a:-1099511627776<x) (b:x<1099511627776):Bd 40 x:=by
 show x.natAbs<1099511627776;omega
def Ew {a b:Int} (c:Bd 60000000 a) (d:Bd 60000000 b):IntMulOk a b:=XX c d ∅
def Jg {a b:Int} (c:-18446744073709551616<b) (d:b<18446744073709551616):IntMulOk a b:=IntMulOk.of_right (intBits_le_64 ⋯ ⋯)
def SH {a b:Int} (c:-18446744073709551616<a) (d:a<18446744073709551616):IntMulOk a b:=IntMulOk.of_left (intBits_le_64 ⋯ ⋯)
def zG (h:GO K vs H Q E):PB K { nx:=λ_ d=>Q .non d,rt:=Q } (L2.start ["one","other","rest"] vs) H:=by
 let ⟨a,b,rfl,q⟩:=h;unfold PB;rwa [];refine DE (λm f d=>∃ (x y:Int) (r:cK),f=[some (.int x),some (.int y),r]/\d=H/\Int.gcd x y=Int.gcd a b/\m=y.natAbs) b.natAbs ⟨a,b,none,rfl,rfl,rfl,rfl⟩ ?_;rintro m f d ⟨x,y,r,rfl,rfl,g,rfl⟩;rwa [];refine Aj (λc=>?_) (λc=>?_)
 ·refine ⟨λi j=>∃ k,k<y.natAbs/\_,λ_ _ h=>h,?_⟩;refine ⟨c,_,We x c,y,x.fmod y,_,rfl,rfl,?_,rfl⟩;rw [NV];exact g
 ·let n:y=0:=Decidable.not_not.mp c;subst n
  let e:(if x<0 then -x else x)=((Int.gcd a b:Nat):Int):=by
   rw [<-g,Int.gcd_zero_right];split <;> omega
  rw [e];exact q
def zH {ns:cL} {k:Int} (b:0<=k) (h:k<(↑ns:Int)):∃ v:Int,N_ (~~~ns) k=some (.int v):=by
 let hk:k.toNat<↑ns:=by omega
 let a:k=((k.toNat:Nat):Int):=by omega
 let q:N_ (~~~ns) ((k.toNat:Nat):Int)=some (.int ns[k.toNat]):=DD (by rw [Ac,AT hk] <;> rfl);rw [<-a] at q;exact ⟨_,q⟩
def Jh {H:Hp} {Q:VK} {xs:cJ} {l:cF} {m:Nat} (a:Nums H xs l) (b:m<=↑l) (e:Bu l ↑l=m) (q:GH H Q (trim l)) :
  ∀ (p:Addr),H p=none->∀ (r:Addr),upd H p (.lst (Be xs none (some (m:Int)))) r=none->Q (V.ref r) (upd (upd H p (.lst (Be xs none (some (m:Int))))) r (.tup (Be xs none (some (m:Int))))):=λp hp r c=>by
 let s:=(AM hp (.lst (Be xs none (some (m:Int))))).trans (AM c (.tup (Be xs none (some (m:Int)))));refine q r _ _ s upd_same ?_;rw [Gv (by rw [↑a];exact b)];rw [Gv (by rw [↑a];exact b)] at s;unfold trim;rw [e];exact (a.take m).tp (D_ s)
def SI (l:cF) (m:Nat):Bu l (m+1)=if (l.getD m (1,1)).1=0 then Bu l m else m+1:=rfl
def zJ (h:FI K vs H Q E):QF K { nx:=λ_ b=>Q .non b,rt:=Q } (L2.start ["row","many"] vs) H:=by
 let ⟨p,n,l,rfl,hp,d,A,q⟩:=h;unfold QF;rwa [hp];let o:=↑d;refine DE (λm g b=>g=[↥p,some (.int (m:Int))]/\b=H/\Bu l m=Bu l ↑l/\m<=↑l) ↑n ⟨rfl,rfl,by rw [o],⋯⟩ ?_;rintro m g b ⟨rfl,rfl,a,j⟩;rwa [hp];refine Aj (λc=>?_) (λc=>?_)
 ·let ⟨k,rfl⟩:∃ k,m=k+1:=⟨m - 1,⋯⟩;let ⟨v,r,u,rfl,e⟩:=d.at (i:=k) ⋯ (1,1);rw [SI] at a;refine ⟨_,Ca ⋯ r,u,rfl,_,e,_,rfl,rfl,Aj (λf=>?_) (λf=>?_)⟩
  ·let z:(l.getD k (1,1)).1=0:=by injection f
   rw [pB z] at a;exact ⟨λw x=>∃ y,y<k+1/\_,λ_ _ h=>h,k,⋯,by rw [show ((k+1:Nat):Int) - 1=(k:Int) by omega],rfl,a,⋯⟩
  ·let z:(l.getD k (1,1)).1≠0:=λz=>f (by rw [z]);rw [qZ z] at a;exact Jh d j a.symm q
 ·let z:m=0:=by omega
  subst z;exact Jh d j a.symm q
def zK {l:cF} {i:Nat} {q:Nu} (h:l[i]?=some q):(l.take (i+1)).foldl (λB q=>B*(q.2 / ((Int.gcd B q.2:Nat):Int))) 1=(l.take i).foldl (λB q=>B*(q.2 / ((Int.gcd B q.2:Nat):Int))) 1*(q.2 / ((Int.gcd ((l.take i).foldl (λB q=>B*(q.2 / ((Int.gcd B q.2:Nat):Int))) 1) q.2:Nat):Int)):=by
 rw [DW,h,List.foldl_append];rfl
def Ed {a b:Type} {l:List a} {i:Nat} {q:a} (f:a->b) (h:l[i]?=some q):(l.take (i+1)).map f=(l.take i).map f++[f q]:=by
 rw [DW,h,CP];rfl
def SJ (a b:Nat):(if (b:Int) > (a:Int) then (b:Int) else (a:Int)).toNat=max a b:=by split <;> omega
def SK {a:Type} (f:Nat->a) (i:Nat):(List.range (i+1)).map f=(List.range i).map f++[f i]:=by rw [Ex,CP];rfl
def EM (n:Nat) (f:cY):(BF n f).length=n:=by unfold BF;rw [AI,AI,Au]
def EN {n k:Nat} (f:cY) (h:k<n):(BF n f)[k]?=some (.int (f k)):=by
 unfold BF;rw [Ac,Ac,Cp h];rfl
def IC {n k:Nat} {f g:cY} {z:Int} (h:k<n) (b:g k=z) (c:∀ i,i<n->i≠k->g i=f i):(BF n f).set k (.int z)=BF n g:=by
 apply El;intro i;by_cases a:i<n
 ·by_cases e:i=k
  ·subst e;rw [Fq (by rw [EM];exact a),EN g a,b]
  ·rw [Fr (λz=>e z.symm),EN f a,EN g a,c i a e]
 ·rw [BH (by rw [C7,EM];omega),BH (by rw [EM];omega)]
def ID {n:Nat} {f g:cY} (h:∀ i,i<n->g i=f i):BF n f=BF n g:=by
 apply El;intro i;by_cases a:i<n
 ·rw [EN f a,EN g a,h i a]
 ·rw [BH (by rw [EM];omega),BH (by rw [EM];omega)]
def Ls (n:Nat):(List.replicate n [V.int 0]).flatten=BF n λ_=>0:=by
 rw [Er];apply El;intro i;by_cases a:i<n
 ·rw [EN _ a,Do,pB a]
 ·rw [Do,qZ a,BH (by rw [EM];omega)]
def FJ {n k:Nat} {i:Int} (e:i=(k:Int)) (h:k<n):Y_ n i=some k:=by
 subst e;unfold Y_;rw [pB ⋯,pB ⋯];simp
def Pl.same {H c:Hp} {r:Addr} {L:cF} (h:Pl H r L) (s:Same H c):Pl c r L:=let ⟨d,a,b⟩:=h;⟨d,s _ _ a,b.tp (D_ s)⟩
def GV {m n:Nat} {x y:Int} (a:Bd m x) (b:Bd n y) (c:m<=60000000:=by decide) (d:n<=60000000:=by decide):IntMulOk x y:=Ew (a.mono c) (b.mono d)
def IE (ns:cL) (m:Nat):DT ns (m+1)=if ns.getD m 1=0 then DT ns m else m+1:=rfl
def zL (h:Hr K vs H Q E):PD K { nx:=λ_ d=>Q .non d,rt:=Q } (L2.start ["row","many"] vs) H:=by
 let ⟨p,a,rfl,hp,q⟩:=h;unfold PD;rwa [hp]
 let b:∀ m:Nat,m<=↑a->DT a m=DT a ↑a->DT a m=m->∀ r,H r=none->Q (V.ref r) (upd H r (.lst (Be (~~~a) none (some (m:Int))))):=λm j n o r u=>by
  rw [Gv (by rw [AI];exact j),<-List.map_take,<-o,n];exact q r u
 refine DE (λm g d=>g=[↥p,some (.int (m:Int))]/\d=H/\DT a m=DT a ↑a/\m<=↑a) ↑a ⟨by rw [AI],rfl,rfl,AV _⟩ ?_;rintro m g d ⟨rfl,rfl,e,i⟩;rwa [hp];refine Aj (λc=>?_) (λc=>?_)
 ·let ⟨k,rfl⟩:∃ k,m=k+1:=⟨m - 1,⋯⟩
  let v:(~~~a)[k]?=some (V.int (a.getD k 1)):=by
   rw [Ac,AT ⋯,AJ,AT ⋯];rfl
  refine ⟨_,Ca ⋯ v,rfl,Aj (λf=>?_) (λf=>?_)⟩
  ·let z:a.getD k 1=0:=by injection f
   rw [IE,pB z] at e;exact ⟨λw x=>∃ y,y<k+1/\_,λ_ _ h=>h,k,⋯,by rw [show ((k+1:Nat):Int) - 1=(k:Int) by omega],rfl,e,⋯⟩
  ·let z:a.getD k 1≠0:=λz=>f (by rw [z]);exact b (k+1) i e (by rw [IE,qZ z])
 ·let z:m=0:=by omega
  subst z;exact b 0 i e rfl
theorem Lu (ns:cL):∀ m,DT ns m<=m
 | 0=>AV 0
 | m+1=>by
   rw [IE];split
   ·exact Nat.le_succ_of_le (Lu ns m)
   ·exact AV _
def Lv {ns:cL}:(DJ ns).length=DT ns ↑ns:=by
 unfold DJ;rw [BC,Nat.min_eq_left (Lu ns ↑ns)]
def SL {ns:cL} (k:Nat):(DJ ns).getD k 0=ns.getD k 0:=by
 let g:∀ (m:Nat),m<=↑ns->(∀ j,m<=j->j<↑ns->ns.getD j 0=0)->∀ j,DT ns m<=j->j<↑ns->ns.getD j 0=0:=by
  intro m
  induction m with
  | zero=>intro _ h j i c;exact h j ⋯ c
  | succ m n=>
    intro o h j d f;rw [IE] at d;split at d
    ·rename_i z;refine n ⋯ (λj i c=>?_) j d f;by_cases e:j=m
     ·subst e;rw [AJ,AT c] at z ⊢;exact z
     ·exact h j ⋯ c
    ·exact h j d f
 by_cases d:k<DT ns ↑ns
 ·unfold DJ;rw [AJ,AJ,List.getElem?_take_of_lt d]
 ·let e:(DJ ns).getD k 0=0:=by
   rw [AJ,BH (by rw [Lv];omega)];rfl
  rw [e];by_cases f:k<↑ns
  ·exact (g ↑ns (AV _) (λj a b=>absurd b ⋯) k ⋯ f).symm
  ·rw [AJ,BH ⋯];rfl
def Lw {n:Nat} {z g:Int} (h:g∣z) (b:Bd n z):Bd n (z / g):=by
 by_cases a:z=0
 ·rw [a,Int.zero_ediv];exact EK n
 ·exact DR a (Int.ediv_dvd_of_dvd h) b
def SM {z g:Int} (a:g≠0) (h:g∣z):((z / g:Int):Rat)=(z:Rat) / (g:Rat):=by
 let ⟨y,rfl⟩:=h;rw [Ey _ a];have:=A4 a;push_cast;ext
theorem zM {ns:cL} {g:Int} (h:∀ z∈ns,g∣z) (k:Nat):g∣ns.getD k 0:=by
 rw [AJ];cases e:ns[k]? with
 | none=>exact Int.dvd_zero g
 | some z=>exact h z (A5 e)
def Lx {m:cF} (b:Am m) (f:Nz m) (h:1<=↑m):(AY m).getD (↑m - 1) 0≠0:=by
 rw [JF,OZ];let a:↑m - 1<↑m:=by omega
 let q:=f m[↑m - 1] (by rw [Fu];exact AT a);let e:AG m (↑m - 1)=m[↑m - 1]:=by unfold AG;rw [AJ,AT a];rfl
 rw [e];refine EU q ?_;let o:=DF b;let d:=o.2 m[↑m - 1] (Cn a);let ⟨y,c⟩:=d;let g:=(b m[↑m - 1] (Cn a)).pos;rw [c,Ey _ (Ah g)];intro z;rw [z,EC] at c;have:=o.1;omega
def G8 {xs:cJ} {v:V} (h:1<=↑xs) (e:xs[↑xs - 1]?=some v):N_ xs (-1)=some v:=by
 unfold N_ Y_;rw [qZ ∅,pB ⋯,show (-1+(↑xs:Int)).toNat=↑xs - 1 by omega];exact e
def IF {n m:Int} (h:0<m):Ae n m=L_ n m:=by unfold Ae;rw [qZ ⋯]
def zN (h:Fl K vs H Q E):QC K { nx:=λ_ j=>Q .non j,rt:=Q } (L2.start ["top","bottom","shared"] vs) H:=by
 let ⟨a,b,rfl,d,q⟩:=h;unfold QC;rwa []
 let f:∀ s:Int,(s=if b<0 then -((Int.gcd a b:Nat):Int) else ((Int.gcd a b:Nat):Int))->Hb a s/\Hb b s/\2<=sizeLine/\∀ (p:Addr),H p=none->Q (V.ref p) (upd H p (.tup [.int (a.fdiv s),.int (b.fdiv s)])):=λs k=>by
  let ⟨g,n,i,m,o,r⟩:=Ii d k
  let e:Ae a b=(a.fdiv s,b.fdiv s):=by
   refine Hh (FE d) i ?_;rw [Fd d,JC (q:=(a.fdiv s,b.fdiv s)) (Ah i.pos) d m]
  rw [e] at q;exact ⟨g,g,sz ∅,q⟩
 refine Aj (λc=>?_) (λc=>?_)
 ·exact f _ (by rw [pB c])
 ·exact f _ (by rw [qZ c])
def bh {K:W.Frag} {p:Addr} {xs:cJ} {H:Hp} {Q:VK} {E:XK} (hp:H p=some (.tup xs)) (h:∃ l,Nums H xs l/\Am l/\∃ M,Ov l M/\Bd 400000 M/\(∀ q∈l,Bd 60000000 q.1)/\↑l<=1000/\∀ (r a:Addr) (d:Hp),Same H d->d r=some (.tup [.ref a,.int (Ag l)])->d a=some (.lst ((AY l).map V.int))->Q (.ref r) d):Ev K [.ref p] H Q E:=let ⟨l,a,b,M,c⟩:=h;⟨p,xs,l,M,rfl,.inl hp,a,b,c⟩
def zO (h:Ev K vs H Q E):Y3 K { nx:=λ_ d=>Q .non d,rt:=Q } (L2.start ["P","bottom","number"] vs) H:=by
 let ⟨p,f,l,M,rfl,hp,w,k,j,A,J,hl,q⟩:=h;let D:=↑w;let L:=(DF k).1;let N:=DR (Ah j.1) (Kr k j) A;let F:∀ q∈l,Bd 400000 q.2:=λq m=>DR (Ah j.1) (j.2 q m) A;refine Ab (G' (Xo (xs:=f) hp rfl (λi n d=>∃ x,n=[↥p,some (.int ((l.take i).foldl (λB q=>B*(q.2 / ((Int.gcd B q.2:Nat):Int))) 1)),x]/\d=H) ⟨none,rfl,rfl⟩ ?_ ?_ ?_))
 ·rintro i n d ⟨x,rfl,rfl⟩;rfl
 ·rintro i x n d o ⟨y,rfl,rfl⟩;let ⟨z,c,O,rfl,g⟩:=w.get o;let u:=k z (A5 c);let G:=F z (A5 c);let ⟨P,R⟩:=Kq (M:=M) (l.take i) 1 (λq m=>⟨(k q (Ek m)).pos,j.2 q (Ek m)⟩) ∅ (Int.one_dvd M);let S:=DR (Ah j.1) R A;let ⟨s1,_,_,T,U,s6⟩:=Kg P u.pos;rwa [g];refine ⟨U,GV S (G.le T),?_,_,rfl⟩;rw [zK c]
 ·rintro n d ⟨x,rfl,rfl⟩;rw [D,B4];refine Bb (DG (Xp (xs:=f) hp rfl (λi v b=>i<=↑f/\v=((AY l).take i).map V.int/\b=d) ⟨AX _,rfl,rfl⟩ ?_ ?_ ?_))
  ·rintro i v b ⟨I,rfl,rfl⟩;refine ⟨I,sz ?_,rfl⟩;rw [AI,BC];omega
  ·rintro i x v b o ⟨I,rfl,rfl⟩;let ⟨z,c,O,rfl,g⟩:=w.get o;let u:=k z (A5 c);let G:=F z (A5 c);let W:=J z (A5 c);let X:i<↑f:=(Ax.mp o).1;rwa [g];let Y:l.foldl (λB q=>B*(q.2 / ((Int.gcd B q.2:Nat):Int))) 1=Ag l:=rfl;rw [Y];let Z:(AY l)[i]?=some (z.1*(Ag l / z.2)):=by unfold AY;rw [Ac,c];rfl
   refine ⟨u.pos,GV W (N.le (OO L u.pos)),⋯,?_⟩;rw [Ed V.int Z]
  ·rintro v b ⟨_,rfl,rfl⟩ a ha;refine AD rfl ⟨CH,λr C=>?_⟩
   let e:(AY l).take ↑f=AY l:=by
    rw [D,show ↑l=(AY l).length by unfold AY;rw [AI],B4]
   rw [e] at C ⊢;let s:=(AM ha (.lst ((AY l).map V.int))).trans (AM C (.tup [.ref a,.int (Ag l)]));exact q r a _ s upd_same (AM C _ _ _ upd_same)
def zP (h:JT K vs H Q E):QG K { nx:=λ_ b=>Q .non b,rt:=Q } (L2.start ["row","bottom"] vs) H:=by
 let ⟨p,d,B,rfl,hp,v,w,q⟩:=h;unfold QG;rwa [hp];refine ⟨⟨_,SqL.of hp⟩,CompJ.lst (xs:=d.map V.int) (λi f b=>i<=↑d/\Same H b/\Nums b f ((d.take i).map λn=>Ae n B)) ⟨AX _,Same.refl H,trivial⟩ ?_ ?_ ?_⟩
 ·rintro i f b ⟨o,g,c⟩;refine ⟨by rw [AI];exact o,sz ?_,SqL.of (g _ _ hp)⟩;rw [↑c,AI,BC];omega
 ·rintro i x f b j ⟨o,g,c⟩;rw [Ac] at j;cases e:d[i]? with
  | none=>rw [e] at j;cases j
  | some n=>
    rw [e] at j;obtain rfl:V.int n=x:=pL j;let y:i<↑d:=(Ax.mp e).1;rwa [];refine ⟨v,λr k=>⟨⋯,g.trans (AM k _),?_⟩⟩;rw [Ed _ e];exact (c.tp (D_ (AM k _))).append (Nums.one Ff)
 ·rintro f b ⟨_,g,c⟩ a z;rw [AI,B4] at c;let u:=AM z (.lst f);rwa [];refine ⟨_,c.tp (D_ u),by rw [AI];exact w,λr A m C k D=>q r A m ((g.trans u).trans C) k D⟩
def G9 {b:Nat} {l:cF} {M:Int} (d:Am l) (h:Ov l M) (e:∀ z∈F_ l M,Bd b z):∀ q∈l,Bd b q.1:=λq a=>by
 refine (e (q.1*(M / q.2)) (Ao.mpr ⟨q,a,rfl⟩)).le ?_;rw [CV];let ⟨y,c⟩:=h.2 q a;let f:=(d q a).pos;let i:=h.1;have:M / q.2=y:=by rw [c,Ey _ (Ah f)]
 rw [this];refine Nat.le_mul_of_pos_right _ ?_;rcases FO y.natAbs with z | z
 ·let g:y=0:=by omega
  rw [g] at c;omega
 ·exact z
def B8 {m n:Nat} {x y:Int} (a:Bd m x) (b:Bd n y) (c:m<=60000000:=by omega) (d:n<=60000000:=by omega):IntMulOk x y:=Ew (a.mono c) (b.mono d)
def zQ {ns:cL} {m:Int} (ms:cL) (a:ms=(ns.filter (λz=>!decide (z=0))).map λz=>if z<0 then -z else z) (h:ms=[]/\m=0\/m∈ms) (d:Int):(∀ z∈ns,d∣z)->d∣m:=by
 intro b;rcases h with ⟨_,e⟩ | h
 ·rw [e];exact Int.dvd_zero d
 ·rw [a] at h;let ⟨z,c,rfl⟩:=Ao.mp h;have:=b z (List.mem_filter.mp c).1;show d∣if z<0 then -z else z
  split
  ·exact Int.dvd_neg.mpr this
  ·exact this
def zR (h:LE K vs H Q E):PC K { nx:=λ_ j=>Q .non j,rt:=Q } (L2.start ["row","start","found","whole"] vs) H:=by
 let ⟨p,b,r,rfl,hp,X,k⟩:=h;unfold PC;rwa [];refine ⟨⟨_,SqL.of hp⟩,CompF.lst (xs:=b.map V.int) (λi u j=>i<=↑b/\j=H/\u=(((b.take i).filter (λz=>!decide (z=0))).map λz=>if z<0 then -z else z).map V.int) ⟨AX _,rfl,rfl⟩ ?_ ?_ ?_⟩
 ·rintro i u j ⟨q,rfl,rfl⟩;refine ⟨by rw [AI];exact q,sz ?_,SqL.of hp⟩;rw [AI,AI];exact BM (List.length_filter_le _ _) (by rw [BC];omega)
 ·rintro i x u j f ⟨q,rfl,rfl⟩;rw [Ac] at f;cases e:b[i]? with
  | none=>rw [e] at f;cases f
  | some n=>
    rw [e] at f;obtain rfl:V.int n=x:=pL f;let N:i<↑b:=(Ax.mp e).1;let L:b.take (i+1)=b.take i++[n]:=by rw [DW,e];rfl
    rwa [];refine Aj (λc=>?_) (λc=>?_)
    ·refine ⟨⋯,?_⟩;let G:¬ n=0:=by simpa using c
     simp [L,List.filter_append,G]
    ·refine ⟨⋯,?_⟩;let G:n=0:=by simpa using c
     simp [L,List.filter_append,G]
 ·rintro u j ⟨_,rfl,rfl⟩ a O;rw [AI,B4];let v:=AM O (.lst (((b.filter (λz=>!decide (z=0))).map λz=>if z<0 then -z else z).map V.int));let o:=v _ _ hp;refine ⟨_,rfl,_,upd_same,λm P=>?_⟩;let R:=zQ _ rfl P;generalize S:upd j a (.lst (((b.filter (λz=>!decide (z=0))).map λz=>if z<0 then -z else z).map V.int))=T at v o ⊢;refine ⟨⟨_,SqL.of o⟩,ForL.by (xs:=b.map V.int) (λi w A=>∃ (g:Int) (x:cK),w=[↥p,some (.int r),some (.int g),x]/\A=T/\0<=g/\g∣r/\(∀ z∈b.take i,g∣z)/\(∀ d:Int,d∣r->(∀ z∈b,d∣z)->d∣g)) ⟨_,none,rfl,rfl,⋯,EA m r,λz B=>(by simp at B),λd q C=>Int.dvd_coe_gcd (R d C) q⟩ ?_ ?_ ?_⟩
  ·rintro i w A _ ⟨g,x,rfl,rfl,_⟩;exact SqL.of o
  ·rintro i x w A f ⟨g,y,rfl,rfl,M,I,D,F⟩;rw [Ac] at f;cases e:b[i]? with
   | none=>rw [e] at f;cases f
   | some n=>
     rw [e] at f;obtain rfl:V.int n=x:=pL f;rwa [];refine Aj (λc=>?_) (λc=>?_)
     ·let U:g=1:=by simpa using c
      subst U;exact k 1 _ v ∅ (Int.one_dvd _) (λz _=>Int.one_dvd z) F
     ·refine ⟨⋯,DX (EA n g) I,λz B=>?_,λd q C=>Int.dvd_coe_gcd (C n (A5 e)) (F d q C)⟩;rw [DW,e] at B;rcases DK.mp B with J | J
      ·exact DX (EA n g) (D z J)
      ·let W:z=n:=by simpa using J
       rw [W];exact FP n g
  ·rintro w A ⟨g,x,rfl,rfl,M,I,D,F⟩;rw [AI,B4] at D;rwa [];exact k g _ v M I D F
def zS (h:LF K vs H Q E):PF K { nx:=λ_ c=>Q .non c,rt:=Q } (L2.start ["row","divisor"] vs) H:=by
 let ⟨p,b,g,rfl,hp,m,u,q⟩:=h;unfold PF;rwa [];refine ⟨⟨_,SqL.of hp⟩,CompJ.lst (xs:=b.map V.int) (λi j c=>i<=↑b/\c=H/\j=((b.map (·/ g)).take i).map V.int) ⟨AX _,rfl,rfl⟩ ?_ ?_ ?_⟩
 ·rintro i j c ⟨k,rfl,rfl⟩;refine ⟨by rw [AI];exact k,sz ?_,SqL.of hp⟩;rw [AI,BC];omega
 ·rintro i x j c d ⟨k,rfl,rfl⟩;rw [Ac] at d;cases e:b[i]? with
  | none=>rw [e] at d;cases d
  | some n=>
    rw [e] at d;obtain rfl:V.int n=x:=pL d;let f:i<↑b:=(Ax.mp e).1
    let o:0<g:=by
     rcases m with h | h
     ·exact h
     ·rw [h] at f;exact absurd f (by simp)
    rwa [];refine ⟨o,⋯,?_⟩;rw [Ed V.int (q:=n / g) (by rw [Ac,e];rfl)]
 ·rintro j c ⟨_,rfl,rfl⟩ a r;let e:(b.map (·/ g)).take (~~~b).length=b.map (·/ g):=by rw [AI,show ↑b=(b.map (·/ g)).length by rw [AI],B4]
  rw [e];exact q a r
def SN {ns:cL} {k:Nat}:co ns k=ns.getD k 0:=rfl
def Ly (ns:cL):Tz (DJ ns):=by
 let a:∀ m,m<=↑ns->DT ns m=0\/co ns (DT ns m - 1)≠0:=by
  intro m
  induction m with
  | zero=>intro _;exact .inl rfl
  | succ m c=>
    intro d;rw [IE];split
    ·exact c ⋯
    ·rename_i z;right;rw [show m+1 - 1=m by omega,SN];rw [AJ,AT ⋯] at z ⊢;exact z
 let b:(DJ ns).length=DT ns ↑ns:=Lv;rcases a ↑ns (AV _) with h | h
 ·left;exact GZ.mp (b.trans h)
 ·right;rw [b];show (DJ ns).getD _ 0≠0;rw [SL];exact h
def L1 (ns:cL) (k:Nat):co (DJ ns) k=co ns k:=SL k
def Ji (n:Nat) (F:cY):BF n F=((List.range n).map F).map V.int:=rfl
def zT (ns:cL) (f:Int) (n:Nat) (h:↑ns<=n):List.map V.int (ns.map (f*·))++List.replicate (n - ↑ns) (V.int 0)=BF n λk=>f*co ns k:=by
 rw [Ji];apply El;intro i;by_cases a:i<↑ns
 ·rw [D8 (by rw [AI,AI];exact a),Ac,Ac,Ac,Ac,Cp ⋯,AT a];show _=some (V.int (f*ns.getD i 0));rw [AJ,AT a];rfl
 ·rw [De (by rw [AI,AI];omega),AI,AI,Ac,Ac];by_cases b:i<n
  ·rw [Do,pB ⋯,Cp b];show _=some (V.int (f*co ns i));rw [EL ⋯,EC]
  ·rw [Do,qZ ⋯,BH (by rw [Au];omega)];rfl
def zU (h:LG K vs H Q E):PJ K { nx:=λ_ m=>Q .non m,rt:=Q } (L2.start ["row","factor","other","weight","shift","result","place","whole"] vs) H:=by
 let ⟨p,q,d,g,f,w,s,rfl,hp,P,hl,a0,bf,bw,bn,bm,k⟩:=h;unfold PJ;rwa [];refine ⟨⟨_,SqL.of hp⟩,CompJ.lst (xs:=d.map V.int) (λi J m=>i<=↑d/\m=H/\J=((d.map (f*·)).take i).map V.int) ⟨AX _,rfl,rfl⟩ ?_ ?_ ?_⟩
 ·rintro i J m ⟨Y,rfl,rfl⟩;refine ⟨by rw [AI];exact Y,sz ?_,SqL.of hp⟩;rw [AI,BC];omega
 ·rintro i x J m z ⟨Y,rfl,rfl⟩;rw [Ac] at z;cases e:d[i]? with
  | none=>rw [e] at z;cases z
  | some n=>
    rw [e] at z;obtain rfl:V.int n=x:=pL z;let a3:i<↑d:=(Ax.mp e).1;rwa [];refine ⟨B8 bf (bn n (A5 e)),⋯,?_⟩;rw [Ed V.int (q:=f*n) (by rw [Ac,e];rfl)]
 ·rintro J m ⟨_,rfl,rfl⟩ a R;let e:(d.map (f*·)).take (~~~d).length=d.map (f*·):=by rw [AI,show ↑d=(d.map (f*·)).length by rw [AI],B4]
  rw [e];generalize hL:max ↑d (s+↑g)=L;let S:=AM R (.lst (List.map V.int (d.map (f*·))));let A:=S _ _ hp;let B:=S _ _ P;rwa [A,B];refine ⟨Gj upd_same,sz ∅,λb hb=>?_⟩;let M:=AM hb (.lst [.int 0]);refine ⟨_,M _ _ B,_,M _ _ A,?_⟩;let e0:(((~~~g).length:Int)+(s:Int) - ((~~~d).length:Int))=(↑g:Int)+(s:Int) - (↑d:Int):=by rw [AI,AI]
  rw [e0];let Z:((↑g:Int)+(s:Int) - (↑d:Int)).toNat=L - ↑d:=by omega
  refine ⟨⋯,⋯,sz (by rw [Z];simp;omega),λc hc=>?_⟩;rw [Z,Er];let sc:=AM hc (.lst (List.replicate (L - ↑d) (V.int 0)));let T:upd m a (.lst (List.map V.int (d.map (f*·)))) a=some (HO.lst (List.map V.int (d.map (f*·)))):=upd_same;let C:=sc _ _ (M _ _ T);refine ⟨_,C,sz (by simp;omega),?_⟩;rw [zT d f L ⋯];generalize hX:upd (upd (upd m a (.lst (List.map V.int (d.map (f*·))))) b (.lst [.int 0])) c (.lst (List.replicate (L - ↑d) (V.int 0)))=N at C ⊢;let sx:Same m N:=λx o h=>by rw [<-hX];exact sc x o (M x o (S x o h))
  let sd:Same m (upd N a (.lst (BF L λk=>f*co d k))):=λx o h=>Kp.upd x o (As h R) (sx x o h);let D:(upd N a (.lst (BF L λk=>f*co d k))) a=_:=upd_same;generalize upd N a (.lst (BF L λk=>f*co d k))=Hd at sd D ⊢;refine ⟨⟨_,SqL.of (sd _ _ P)⟩,ForJ.enumL (xs:=g.map V.int) (λj O F=>∃ x y:cK,O=[↥p,some (.int f),↥q,some (.int w),some (.int (s:Int)),↥a,x,y]/\Same m F/\F a=some (.lst (BF L λk=>f*co d k - (if s<=k/\k - s<j then w*co g (k - s) else 0)))) ⟨none,none,rfl,sd,?_⟩ ?_ ?_ ?_⟩
  ·rw [D];exact congrArg (λl=>some (HO.lst l)) (ID λk _=>by rw [qZ ⋯];omega)
  ·rintro j O F _ ⟨_,_,_,G,_⟩;exact SqL.of (G _ _ P)
  ·rintro j y pq O F I ⟨y3,y4,rfl,G,v⟩ U;rw [Ac] at I;cases em:g[j]? with
   | none=>rw [em] at I;cases I
   | some u=>
     rw [em] at I;obtain rfl:V.int u=y:=pL I;let jl:j<↑g:=(Ax.mp em).1;let ud:co g j=u:=by rw [SN,AJ,em];rfl
     let sq:=AM U (.tup [.int (j:Int),.int u]);let W:=sq _ _ v;rwa [W];let X:s+j<L:=by omega
     refine ⟨_,Ca ⋯ (EN _ X),B8 bw (bm u (A5 em)),_,rfl,s+j,?_,λb o h=>Kp.upd b o (As h R) (sq b o (G b o h)),?_⟩
     ·rw [EM];exact FJ ⋯ X
     ·refine IC X ?_ λk _ hk=>?_
      ·rw [pB ⋯,qZ ⋯,show s+j - s=j by omega,ud];omega
      ·by_cases h:s<=k/\k - s<j
       ·rw [pB h,pB ⋯]
       ·rw [qZ h,qZ ⋯]
  ·rintro O F ⟨y3,y4,rfl,G,v⟩;rw [AI,Ji] at v;rwa [v];refine ⟨_,rfl,λr hr=>k r _ _ (G.trans (AM hr _)) upd_same (Ly _) λi=>?_⟩;rw [L1,Oh];unfold BJ;by_cases z:i<L
   ·rw [pB z];by_cases h:s<=i
    ·rw [pB h];by_cases h2:i - s<↑g
     ·rw [pB ⟨h,h2⟩]
     ·rw [qZ ⋯,EL (a:=g) ⋯];omega
    ·rw [qZ h,qZ ⋯];omega
   ·rw [qZ z,EL (a:=d) ⋯];by_cases h:s<=i
    ·rw [pB h,EL (a:=g) ⋯];omega
    ·rw [qZ h];omega
def zV {n m:Nat} {F:cY}:Be (BF n F) none (some (m:Int))=((List.range (min m n)).map F).map V.int:=by
 unfold Be HT.sIx;simp only [List.drop_zero,Nat.sub_zero,CB];rw [qZ ⋯,EM];unfold BF;rw [<-List.map_take,<-List.map_take,List.take_range];congr 3;omega
def zX {n s:Nat} {F:cY} {w:Int} (a:s<n) (b:F s=0) (g:cY) (k:Nat) :
  cvL ((List.range n).map λj=>if j=s then w else F j) g k=cvL ((List.range n).map F) g k+w*BJ s g k:=by
 let e:∀ m,m<=n->cvL ((List.range m).map λj=>if j=s then w else F j) g k=cvL ((List.range m).map F) g k+(if s<m then w*BJ s g k else 0):=by
  intro m
  induction m with
  | zero=>intro _;rw [qZ ⋯];rfl
  | succ m c=>
    intro d;rw [Ex,CP,CP,List.map_singleton,List.map_singleton,Hl,Hl,c ⋯,AI,AI,Au];by_cases e:m=s
    ·subst e;rw [pB rfl,qZ ⋯,pB ⋯,b];omega
    ·rw [qZ e];by_cases h:s<m
     ·rw [pB h,pB ⋯];omega
     ·rw [qZ h,qZ ⋯];omega
 rw [e n (AV n),pB a]
def HF {b:Nat} {ns:cL} (h:∀ z∈ns,Bd b z) (k:Nat):Bd b (co ns k):=Dz h k
def SO {n:Nat} {g:cY} (k:Nat):cvL ((List.range n).map λ_=>(0:Int)) g k=0:=by
 let e:((List.range n).map λ_=>(0:Int))=(List.replicate n (1:Int)).map (0*·):=by
  apply El;intro i;rw [Ac,Ac];by_cases h:i<n
  ·rw [Cp h,Do,pB h];rfl
  ·rw [BH (by rw [Au];omega),Do,qZ h];rfl
 rw [e,JI];omega
def SQ (ns:cL):List.map V.int ns=BF ↑ns (co ns):=by
 rw [Ji];congr 1;apply El;intro i;rw [Ac];by_cases h:i<↑ns
 ·rw [Cp h,AT h];show _=some (ns.getD i 0);rw [AJ,AT h];rfl
 ·rw [BH ⋯,BH (by rw [Au];omega)];rfl
def L3 {ms:cL} (h:0<↑ms):N_ (~~~ms) (-1)=some (V.int (co ms (↑ms - 1))):=by
 refine G8 (by rw [AI];omega) ?_;rw [AI,Ac,AT ⋯];show _=some (V.int (ms.getD (↑ms - 1) 0));rw [AJ,AT ⋯];rfl
def IG {K:W.Frag} {a:Addr} {capt:List (Option Nat)} {f:TE} {g:L2.St} {Q:VK} {H:Hp} {ns:cL} (F:Int->Int) (hp:H a=some (.lst (~~~ns))) (r:↑ns<=1000)
  (k:∀ n,n∈ns->∀ P:VK,P (.int (F n)) H->f ((CU capt g).set 0 (some (.int n))) H P) (m:∀ p,H p=none->Q (.ref p) (upd H p (.lst ((ns.map F).map V.int)))):CompJ (aa K a) capt (AF 0) f g Q H:=by
 refine CompJ.lst (xs:=ns.map V.int) (λi d b=>i<=↑ns/\b=H/\d=((ns.map F).take i).map V.int) ⟨AX _,rfl,rfl⟩ ?_ ?_ ?_
 ·rintro i d b ⟨j,rfl,rfl⟩;refine ⟨by rw [AI];exact j,sz ?_,SqL.of hp⟩;rw [AI,BC];omega
 ·rintro i x d b c ⟨j,rfl,rfl⟩;rw [Ac] at c;cases e:ns[i]? with
  | none=>rw [e] at c;cases c
  | some n=>
    rw [e] at c;obtain rfl:V.int n=x:=pL c;let o:i<↑ns:=(Ax.mp e).1;show f ((CU capt g).set 0 (some (.int n))) b _;refine k n (A5 e) _ ⟨⋯,rfl,?_⟩;rw [Ed V.int (q:=F n) (by rw [Ac,e];rfl)]
 ·rintro d b ⟨_,rfl,rfl⟩ p h;let e:(ns.map F).take (~~~ns).length=ns.map F:=by rw [AI,show ↑ns=(ns.map F).length by rw [AI],B4]
  rw [e];exact m p h
def zY (h:JR K vs H Q E):Pe K { nx:=λ_ a=>Q .non a,rt:=Q } (L2.start ["row","prime"] vs) H:=by
 let ⟨p,e,m,rfl,hp,b,c,q⟩:=h;unfold Pe;rwa [];refine ⟨⟨_,SqL.of hp⟩,IG (·% m) hp c (λn _ P d=>?_) q⟩;rwa [];exact ⟨b,d⟩
theorem L4 {F:Int->Int} (a:F 0=0) (ns:cL) (k:Nat):co (ns.map F) k=F (co ns k):=by
 unfold co;rw [AJ,AJ,Ac];cases ns[k]? with
 | none=>exact a.symm
 | some z=>rfl
def SR {ns:cL} {z:Int} (h:z∈DJ ns):z∈ns:=Ek h
def zZ (ns:cL):(DJ ns).length<=↑ns:=by rw [Lv];exact Lu _ _
def Fn (a m:Int):m∣a % m - a:=⟨-(a / m),by have:=Int.emod_add_mul_ediv a m;rw [Int.mul_neg];omega⟩
def yA (h:LH K vs H Q E):Pf K { nx:=λ_ b=>Q .non b,rt:=Q } (L2.start ["row","prime"] vs) H:=by
 let ⟨p,g,m,rfl,hp,a,c,q⟩:=h;unfold Pf;rwa [hp];refine ⟨_,rfl,a,c,λr d=>?_⟩;refine ⟨_,rfl,λt e=>?_⟩;refine q t _ _ ((AM d _).trans (AM e _)) upd_same (Ly _) (BM (zZ _) (by rw [AI];exact AV _)) ⟨λz f=>?_,λk=>?_⟩
 ·let ⟨y,_,rfl⟩:=Ao.mp (SR f);exact ⟨CO _ ⋯,CW _ a⟩
 ·rw [L1,L4 (Int.zero_emod m)];exact Fn _ _
def yB (h:JQ K vs H Q E):Pd K { nx:=λ_ d=>Q .non d,rt:=Q } (L2.start ["whole","prime","one","other","one_weight","other_weight","quotient","rest"] vs) H:=by
 let ⟨a,p,rfl,p2,I,q⟩:=h;unfold Pd Pc Pb Pa PZ;rwa [];refine ⟨⋯,?_⟩;let J:=CO a (show p≠0 by omega);let a1:=CW a (show 0<p by omega)
 refine DE (λn m d=>∃ (x y s t:Int) (u v:cK),m=[some (.int a),some (.int p),some (.int x),some (.int y),some (.int s),some (.int t),u,v]/\d=H/\n=y.toNat/\0<=y/\y<x/\x<=p/\
  Int.gcd x y=Int.gcd a p/\p∣x - s*a/\p∣y - t*a/\(t.natAbs:Int)*x+(s.natAbs:Int)*y<=p/\(s.natAbs:Int)<=p) (a % p).toNat ⟨p,a % p,0,1,none,none,rfl,rfl,rfl,J,a1,Int.le_refl _,?_,⟨1,⋯⟩,?_,by simp,by simp;omega⟩ ?_
 ·rw [KI a ⋯]
 ·rw [show a % p - 1*a=a % p - a by omega];exact Fn a p
 ·rintro n m d ⟨x,y,s,t,u,v,rfl,rfl,rfl,e,yx,xp,f,o,r,hb,L⟩;let tx:(t.natAbs:Int)*1<=(t.natAbs:Int)*x:=ET ⋯ ⋯;let sy:0<=(s.natAbs:Int)*y:=Ez ⋯ e;let M:(t.natAbs:Int)<=p:=by omega
  rwa [];refine Aj (λc=>?_) (λc=>?_)
  ·let w:0<y:=by
    have:y≠0:=by simpa using c
    omega
   unfold PV PU PQ PP PN PM PL;let q0:=Int.ediv_nonneg (show 0<=x by omega) e;let q1:x / y<=x:=Int.ediv_le_self y ⋯;let r0:=CO x (show y≠0 by omega);let r1:=CW x w;let g:x - x / y*y=x % y:=by have:=Int.emod_add_mul_ediv x y;rw [Ci] at this;omega
   let B:∀ {z:Int},z.natAbs<=p.natAbs->Bd 60000000 z:=λh=>(I.le h).mono ∅;refine ⟨λN O=>∃ P,P<y.toNat/\_,λ_ _ h=>h,?_⟩;rwa [];refine ⟨w,B8 (B ⋯) (B ⋯),B8 (B ⋯) (B ⋯),?_⟩;refine ⟨(x - x / y*y).toNat,⋯,rfl,⋯,⋯,⋯,?_,r,?_,?_,M⟩
   ·rw [g,KI x e];exact f
   ·let ⟨b,i⟩:=o;let ⟨A,R⟩:=r
    exact ⟨b - x / y*A,by
     generalize x / y=j at *;let k:x=s*a+p*b:=by omega
     let C:y=t*a+p*A:=by omega
     rw [k,C];ext⟩
   ·let S:((s - x / y*t).natAbs:Int)<=(s.natAbs:Int)+x / y*(t.natAbs:Int):=by
     let T:=Int.natAbs_sub_le s (x / y*t);rw [CV] at T;let U:((x / y).natAbs:Int)=x / y:=by omega
     let h3:(((x / y).natAbs*t.natAbs:Nat):Int)=x / y*(t.natAbs:Int):=by rw [Int.natCast_mul,U]
     omega
    let n2:=ED S e;rw [g];let W:(t.natAbs:Int)*(x % y)=(t.natAbs:Int)*x - (t.natAbs:Int)*(x / y*y):=by rw [<-g,Int.mul_sub]
    rw [W];generalize (t.natAbs:Int)=D at *;generalize (s.natAbs:Int)=F at *;generalize x / y=j at *;let n4:(F+j*D)*y=F*y+D*(j*y):=by ext
    omega
  ·let X:y=0:=by simpa using c
   unfold PX;rwa [];refine ⟨⋯,q _ (CO _ ⋯) (CW _ ⋯) λY=>?_⟩
   let x1:x=1:=by
    rw [X] at f;rw [Int.gcd_zero_right,Y] at f;omega
   let ⟨b,i⟩:=o;let ⟨G,Z⟩:=Fn s p;refine ⟨G*a - b,?_⟩;let k:s % p=s+p*G:=by omega
   rw [k];let C:s*a=1 - p*b:=by omega
   ext
def yC (h:LI K vs H Q E):Pg K { nx:=λ_ w=>Q .non w,rt:=Q } (L2.start ["row","prime","factor"] vs) H:=by
 let ⟨q,a,p,rfl,g,x,u,A,C,d,k⟩:=h;let D:(2:Int)<=(p:Int):=by omega
 unfold Pg;rwa [g];by_cases b:a=[]
 ·subst b;refine Aj (λ_=>?_) (λc=>absurd rfl c);refine ⟨sz ∅,λr j=>k r [] 0 _ (AM j _) upd_same rfl (λz=>absurd rfl z) ⟨λz m=>(by cases m),λi=>?_⟩⟩;show (p:Int)∣co [] i - 0*co [] i;rw [EL (AX _)];exact ⟨0,⋯⟩
 let G:0<↑a:=FQ.mpr b;refine Aj (λc=>absurd c (by simpa using b)) (λ_=>?_);let I:=L3 G;rwa [I];refine ⟨D,u,λf J L o=>?_⟩;let M:=d b;let o:=o M;let B:∀ {z:Int},0<=z->z<(p:Int)->Bd 60000000 z:=λO R=>(u.le ⋯).mono ∅;refine ⟨⟨_,SqL.of g⟩,IG (λn=>n*f % (p:Int)) g A (λn b P N=>?_) λr j=>?_⟩
 ·rwa [];exact ⟨B8 (C n b) (B J L),⋯,N⟩
 ·let v:∀ i,co (a.map λn=>n*f % (p:Int)) i=co a i*f % (p:Int):=λi=>L4 (F:=λn=>n*f % (p:Int)) (by simp) a i;refine k r _ f _ (AM j _) upd_same (AI ..) (λ_=>?_) ⟨λz m=>?_,λi=>?_⟩
  ·rw [AI,v];let ⟨c,S⟩:=o;let e:co a (↑a - 1)*f=1+(p:Int)*c:=by rw [Ci];omega
   rw [e,Int.add_mul_emod_self_left];exact Int.emod_eq_of_lt ∅ ⋯
  ·let ⟨y,_,rfl⟩:=Ao.mp m;exact ⟨CO _ ⋯,CW _ ⋯⟩
  ·rw [v];show (p:Int)∣co a i*f % (p:Int) - f*co a i;rw [Ci f];exact Fn _ _
def yD (h:JS K vs H Q E):QB K { nx:=λ_ d=>Q .non d,rt:=Q } (L2.start ["whole","prime","rest"] vs) H:=by
 let ⟨w,p,rfl,a,k⟩:=h;unfold QB;rwa [];let g:=CO w (show p≠0 by omega);let i:=CW w a;let b:=Fn w p;refine ⟨a,IntMulOk.of_left (intBits_le_64 ⋯ ⋯),Aj (λc=>?_) (λc=>?_)⟩
 ·refine k _ ?_ ⋯;let ⟨e,f⟩:=b;exact ⟨e - 1,by rw [Int.mul_sub];omega⟩
 ·exact k _ b ⋯
def yE (h:LK K vs H Q E):Pm K { nx:=λ_ a=>Q .non a,rt:=Q } (L2.start ["row","divisor","modulus"] vs) H:=by
 let ⟨p,q,d,e,m,b,rfl,hp,f,g,i,j,n,c,o,u,v,k⟩:=h;unfold Pm;rwa [hp,f];refine ⟨d,rfl,e,rfl,g,i,j,b,n,c,o,u,v,λt r s w x a y z D A F tr B C _=>?_⟩;refine ⟨_,z,?_⟩;rwa [];exact k s w x a y A tr B C
abbrev spI (p q a y:Addr) (L c:Nat) (m:Int) (ns ms:cL) (H:Hp):Nat->L2.St->Hp->Prop:=λi d b=>i<=c/\∃ (F G:cY) (u v w:cK),d=[↥p,↥q,some (.int m),↥a,some (.int (L:Int)),↥y,u,v,w]/\Same H b/\b a=some (.lst (BF ↑ns F))/\b y=some (.lst (BF c G))/\
  (∀ j,j<c - i->G j=0)/\(∀ k,k<↑ns - i->m∣F k - (co ns k - cvL ((List.range c).map G) (co ms) k))/\(∀ k,↑ns - i<=k->m∣co ns k - cvL ((List.range c).map G) (co ms) k)/\(∀ j,j<c->0<=G j/\G j<m)
def yF (h:LJ K vs H Q E):Yx K (eA Q) (L2.start ["row","divisor","modulus","rest","last","quotient","shift","weight","place"] vs) H:=by
 let ⟨p,q,d,g,m,b,rfl,hp,hq,m0,ml,mp,bm,a7,bb,hn,hm,kR⟩:=h;let ⟨L,hL⟩:∃ L,↑g=L+1:=⟨↑g - 1,⋯⟩;let ab:↑g - 1=L:=by omega
 rw [ab] at ml;generalize hc:↑d - L=c;refine Ab (Bg (AD rfl ⟨_,_,rfl,hp,λa ha=>?_⟩));let sa:=AM ha (.lst (~~~d));let al:=sa _ _ hp;let an:=sa _ _ hq;let T:((List.map V.int g).length:Int) - 1=(L:Int):=by rw [AI];omega
 refine ⟨_,rfl,_,_,rfl,an,_,_,rfl,rfl,?_⟩;show Pk K _ [↥p,↥q,some (.int m),↥a,some (.int (((List.map V.int g).length:Int) - 1)),none,none,none,none] _;rw [T];refine Ab (AW (DH (G' ⟨Cb,λx hx=>?_⟩)));let ap:=AM hx (.lst [.int 0]) _ _ al
 let M:(if (0:Int) > ((List.map V.int d).length:Int) - (L:Int) then (0:Int) else ((List.map V.int d).length:Int) - (L:Int))=(c:Int):=by
  rw [AI];split <;> omega
 refine ⟨_,rfl,_,_,rfl,ap,_,rfl,_,_,rfl,rfl,_,_,rfl,?_⟩;refine ⟨_,(c:Int),_,rfl,congrArg V.int M,upd_same,⋯,⋯,sz (by simp;omega),λy hy=>?_⟩;refine Ol ha hx hy λH1 U W sH X b0=>?_;rw [SQ d] at U;rw [CB,Ls] at W;let b1:=sH _ _ hp;let Y:((List.map V.int d).length:Int) - (L:Int) - 1=(↑d:Int) - (L:Int) - 1:=by rw [AI]
 let Z:((↑d:Int) - (L:Int) - 1 - -1).toNat=c:=by omega
 refine YZ ?_;refine ⟨_,rfl,_,_,rfl,b1,_,rfl,_,_,rfl,rfl,_,_,rfl,rfl,_,rfl,_,rfl,(↑d:Int) - (L:Int) - 1,_,by rw [<-Y],⟨⋯,⋯,∅,∅⟩,?_⟩;rw [Z];clear Z Y M T;refine ForJ.down (spI p q a y L c m d g H) ⟨AX _,co d,λ_=>0,none,none,none,rfl,sH,U,W,λ_ _=>rfl,λk _=>by rw [SO];exact ⟨0,⋯⟩,λk hk=>by rw [SO,EL ⋯];exact ⟨0,⋯⟩,λk _=>⟨Int.le_refl 0,mp⟩⟩ ?_ ?_
 ·rintro i σ D hi ⟨_,F,G,u,v,w,rfl,s2,I,J,hG,hF,P,bG⟩;let b6:=s2 _ _ hq;let ic:i<c:=hi;let a0:((↑d:Int) - (L:Int) - 1 - (i:Int))=((c - 1 - i:Nat):Int):=by omega
  rw [a0];clear a0;generalize hs:c - 1 - i=s;let b7:s+L+1+i=↑d:=by omega
  replace hs:s+1+i=c:=by omega
  replace hc:↑d=L+c:=by omega
  let aT:N_ (BF ↑d F) ((s:Int)+(L:Int))=some (V.int (F (s+L))):=Ca (j:=s+L) ⋯ (EN F ⋯);refine ⟨_,rfl,_,rfl,_,rfl,_,_,rfl,rfl,_,_,_,_,rfl,rfl,I,aT,_,rfl,_,_,rfl,rfl,mp,?_⟩;show Pi K _ [↥p,↥q,some (.int m),↥a,some (.int (L:Int)),↥y,some (.int (s:Int)),some (.int (F (s+L) % m)),w] D;let w0:=CO (F (s+L)) (show m≠0 by omega);let w1:=CW (F (s+L)) mp;let wd:=Fn (F (s+L)) m;generalize hw:F (s+L) % m=f at w0 w1 wd ⊢;let b2:Bd b f:=bm.le ⋯;refine ⟨_,rfl,_,rfl,_,rfl,_,_,_,s,rfl,rfl,J,by rw [EM];exact FJ rfl ⋯,?_⟩;show Ph K _ [↥p,↥q,some (.int m),↥a,some (.int (L:Int)),↥y,some (.int (s:Int)),some (.int f),w] (upd D y (.lst ((BF c G).set s (V.int f))));rw [show (BF c G).set s (V.int f)=BF c (λj=>if j=s then f else G j) from IC ⋯ (pB rfl) λj _ R=>qZ R];let s3:Same H (upd D y (.lst (BF c λj=>if j=s then f else G j))):=λz o h=>Kp.upd z o (As h b0) (s2 z o h);let n:(upd D y (.lst (BF c λj=>if j=s then f else G j))) a=_:=(Aq X).trans I;let S:(upd D y (.lst (BF c λj=>if j=s then f else G j))) y=_:=upd_same;generalize (upd D y (.lst (BF c λj=>if j=s then f else G j)))=H3 at s3 n S ⊢;let a3:∀ k,cvL ((List.range c).map λj=>if j=s then f else G j) (co g) k=cvL ((List.range c).map G) (co g) k+f*BJ s (co g) k:=λk=>zX ⋯ (hG s ⋯) _ k
  let a4:∀ (F':cY) (u v w:cK) (B:Hp),Same H B->B a=some (.lst (BF ↑d F'))->B y=some (.lst (BF c λj=>if j=s then f else G j))->(∀ k,k<↑d->F' k=F k - (if s<=k/\k - s<L then f*co g (k - s) else 0))->
    (spI p q a y L c m d g H) (i+1) [↥p,↥q,some (.int m),↥a,some (.int (L:Int)),↥y,u,v,w] B:=λF' u v w B N A C eF=>by
   refine ⟨⋯,F',_,u,v,w,rfl,N,A,C,λj R=>?_,λk hk=>?_,λk hk=>?_,λj R=>?_⟩
   ·show (if j=s then f else G j)=0;rw [qZ ⋯];exact hG j ⋯
   ·let hf:=hF k ⋯;rw [eF k ⋯,a3];unfold BJ;by_cases h:s<=k
    ·rw [pB h,pB ⟨h,⋯⟩];rw [show ∀ x y z w:Int,x - y - (z - (w+y))=x - (z - w) by intro x y z w;omega];exact hf
    ·rw [qZ h,qZ ⋯];rw [show ∀ x z w:Int,x - 0 - (z - (w+f*0))=x - (z - w) by intro x z w;omega];exact hf
   ·rw [a3];by_cases ek:k=s+L
    ·let hf:=hF k ⋯;rw [ek] at hf ⊢;unfold BJ;rw [pB ⋯,show s+L - s=L by omega,ml];let ⟨α,b9⟩:=hf;let ⟨β,ba⟩:=wd;exact ⟨-α - β,by rw [Int.mul_sub,Int.mul_neg];omega⟩
    ·let O:=P k ⋯;unfold BJ;by_cases h:s<=k
     ·rw [pB h,EL (a:=g) ⋯,EC,Int.add_zero];exact O
     ·rw [qZ h,EC,Int.add_zero];exact O
   ·show 0<=(if j=s then f else G j)/\(if j=s then f else G j)<m;split
    ·exact ⟨w0,w1⟩
    ·exact bG j R
  refine ⟨_,rfl,rfl,_,rfl,Aj (λcw=>?_) (λcw=>?_)⟩
  ·refine ⟨_,rfl,_,rfl,⋯,⋯,?_⟩;rw [CB];refine ForR.by (λj σ B=>∃ (u:cK),σ=[↥p,↥q,some (.int m),↥a,some (.int (L:Int)),↥y,some (.int (s:Int)),some (.int f),u]/\Same H B/\B a=some (.lst (BF ↑d λk=>F k - (if s<=k/\k - s<j then f*co g (k - s) else 0)))/\B y=some (.lst (BF c λj=>if j=s then f else G j))) ⟨w,rfl,s3,?_,S⟩ ?_ ?_
   ·rw [n];exact congrArg (λl=>some (HO.lst l)) (ID λk _=>by rw [qZ ⋯];omega)
   ·rintro j σ B R ⟨u',rfl,N,A,C⟩;let b3:=N _ _ hq;let aj:N_ (~~~g) (0+(j:Int))=some (V.int (co g j)):=Ca (j:=j) ⋯ (by rw [SQ];exact EN _ ⋯);refine ⟨_,rfl,_,rfl,_,rfl,_,_,rfl,rfl,_,_,_,_,rfl,rfl,A,Ca (j:=s+j) ⋯ (EN _ ⋯),_,rfl,_,rfl,_,rfl,_,_,_,_,rfl,rfl,b3,aj,_,_,rfl,rfl,B8 b2 (HF a7 j),_,_,rfl,rfl,_,_,_,s+j,rfl,rfl,A,by rw [EM];exact FJ ⋯ ⋯,?_⟩;refine ⟨_,rfl,?_,?_,?_⟩
    ·intro z o h;exact Kp.upd z o (As h ha) (N z o h)
    ·refine upd_same.trans (congrArg (λl=>some (HO.lst l)) (IC ⋯ ?_ λk _ hk=>?_))
     ·rw [pB ⋯,qZ ⋯,show s+j - s=j by omega];omega
     ·by_cases h:s<=k/\k - s<j
      ·rw [pB h,pB ⋯]
      ·rw [qZ h,qZ ⋯]
    ·rw [Aq (Ne.symm X)];exact C
   ·rintro σ B ⟨u',rfl,N,A,C⟩;exact a4 _ _ _ _ _ N A C λk _=>rfl
  ·let b4:f=0:=by simpa using cw
   exact a4 F _ _ _ _ s3 n S λk _=>by rw [b4];split <;> omega
 ·rintro σ D ⟨_,F,G,u,v,w,rfl,s2,I,J,hG,hF,P,bG⟩;let bc:↑d - c=min L ↑d:=by omega
  clear hc;rw [Ji] at J;show Pj K _ _ _;refine Bb (DG (CL ⟨_,rfl,_,_,rfl,J,λt ht=>?_⟩));let st:=AM ht (.lst (List.map V.int (DJ (List.map G (List.range c)))));let n:=st _ _ I;let a5:upd D t (.lst (List.map V.int (DJ (List.map G (List.range c))))) t=_:=upd_same;generalize upd D t (.lst (List.map V.int (DJ (List.map G (List.range c)))))=H3 at st n a5 ⊢;refine Al ⟨_,rfl,_,rfl,_,rfl,_,_,rfl,n,λz hz=>⟨_,rfl,z,(List.range (min L ↑d)).map F,m,rfl,by rw [zV];exact upd_same,mp,by rw [AI,Au];omega,λr rs B N b5 tr lr md=>?_⟩⟩;let a6:=(AM hz _).trans N;rw [AI,Au] at lr;refine ⟨CH,λe he=>?_⟩;let se:=AM he (.tup [.ref t,.ref r])
  let cq:∀ k,cvL (DJ ((List.range c).map G)) (co g) k=cvL ((List.range c).map G) (co g) k:=λk=>by
   rw [Og,Gp (λj=>L1 _ j) g k,<-Og]
  refine kR e t r _ rs _ ((s2.trans st).trans (a6.trans se)) upd_same (se _ _ (a6 _ _ a5)) (se _ _ b5) (Ly _) tr ⋯ ⟨md.1,λk=>?_⟩ λz hz=>?_
  ·have:=md.2 k;rw [Oh] at this;show m∣co rs k - (co d k - cvL (DJ ((List.range c).map G)) (co g) k);rw [cq];by_cases hk:k<min L ↑d
   ·rw [pB hk] at this;let O:=Int.dvd_add this (hF k ⋯);rw [show ∀ x y z:Int,x - y+(y - z)=x - z by intro x y z;omega] at O;exact O
   ·rw [qZ hk] at this;let O:=Int.dvd_sub this (P k ⋯);rw [show ∀ x y:Int,x - 0 - y=x - y by intro x y;omega] at O;exact O
  ·let ⟨j,R,rfl⟩:=Ao.mp (SR hz);exact bG j (D5.mp R)
theorem SDs.tp {H a:Hp} (s:Same H a):∀ {xs:cJ} {b:List (cL)},SDs H xs b->SDs a xs b
 | [],[],_=>trivial
 | _::_,_::_,h=>⟨let ⟨p,e,q⟩:=h.1;⟨p,e,s _ _ q⟩,SDs.tp s h.2⟩
 | [],_::_,h=>h.elim
 | _::_,[],h=>h.elim
def SD.tp {H a:Hp} (s:Same H a) {p:Addr} {b:List (cL)} (h:SD H p b):SD a p b:=let ⟨c,e,q⟩:=h;⟨c,s _ _ e,q.tp s⟩
theorem SDs.length {H:Hp}:∀ {xs:cJ} {a:List (cL)},SDs H xs a->↑xs=↑a
 | [],[],_=>rfl
 | _::_,_::_,h=>congrArg (·+1) (SDs.length h.2)
 | [],_::_,h=>h.elim
 | _::_,[],h=>h.elim
theorem SDs.get {H:Hp}:∀ {xs:cJ} {a:List (cL)} {i:Nat} {v:V},SDs H xs a->xs[i]?=some v->∃ p r,v=.ref p/\a[i]?=some r/\H p=some (.lst (~~~r))
 | [],[],_,_,_,e=>by simp at e
 | _::_,r::_,0,_,h,e=>by
   simp at e;subst e;let ⟨p,e,q⟩:=h.1;exact ⟨p,r,e,rfl,q⟩
 | _::_,_::_,i+1,_,h,e=>by
   let ⟨p,r,b,c,d⟩:=SDs.get (i:=i) h.2 (by simpa using e);exact ⟨p,r,b,by simpa using c,d⟩
 | [],_::_,_,_,h,_=>h.elim
 | _::_,[],_,_,h,_=>h.elim
theorem SDs.snoc {H:Hp} {p:Addr} {r:cL} (hp:H p=some (.lst (~~~r))):∀ {xs:cJ} {a:List (cL)},SDs H xs a->SDs H (xs++[.ref p]) (a++[r])
 | [],[],_=>⟨⟨p,rfl,hp⟩,trivial⟩
 | _::_,_::_,h=>⟨h.1,SDs.snoc hp h.2⟩
 | [],_::_,h=>h.elim
 | _::_,[],h=>h.elim
def SS {a b:cL} (c:Tz a) (n:Nat) (h:∀ k,n<=k->co a k=0):↑a<=n:=by
 rcases EB n ↑a with z | z
 ·rcases c with e | e
  ·rw [e] at z;simp at z
  ·exact absurd (h _ ⋯) e
 ·exact z
def yG {n:Nat} {a:cL} (h:∀ k,Bd n (co a k)):∀ z∈a,Bd n z:=λz b=>by
 let ⟨i,c,rfl⟩:=List.getElem_of_mem b;have:=h i;unfold co at this;rw [AJ,AT c] at this;exact this
def Jj (l:cF):(AY l).length=↑l:=by unfold AY;rw [AI]
def yH {l:cF} (a:Am l) (b:Nz l):Tz (AY l):=by
 by_cases h:l=[]
 ·left;rw [h];rfl
 ·right;rw [Jj];exact Lx a b (FQ.mpr h)
def yI {l:cF} {M N:Int} (f:Am l) (g:Ov l M) (i:Ov l N) (h:M∣N) {b:Nat} (j:∀ z∈F_ l N,Bd b z):∀ z∈F_ l M,Bd b z:=λz k=>by
 let ⟨q,a,rfl⟩:=Ao.mp k;refine (j (q.1*(N / q.2)) (Ao.mpr ⟨q,a,rfl⟩)).le ?_;rw [CV,CV];refine E3 _ ?_;let c:=(f q a).pos;let ⟨x,d⟩:=g.2 q a;let ⟨y,e⟩:=h;let m:M / q.2=x:=by rw [d,Ey _ (Ah c)]
 let n:N / q.2=x*y:=by rw [e,d,Co,Ey _ (Ah c)]
 rw [m,n,CV];refine Nat.le_mul_of_pos_right _ ?_;rcases FO y.natAbs with z | z
 ·let o:y=0:=by omega
  have:=i.1;rw [e,o] at this;omega
 ·exact z
def Gq.clr {b c:Nat} {l:cF} (G:Gq b c l):(∀ z∈AY l,Bd b z)/\Bd c (Ag l)/\(∀ q∈l,Bd b q.1):=by
 let ⟨M,a,f,d⟩:=G.ov;let e:=Kr G.low a;exact ⟨yI G.low (DF G.low) a e d,DR (Ah a.1) e f,G9 G.low a d⟩
def L7 (g:cL):(ac g).length=↑g:=by unfold ac;rw [AI]
def SU {g:cL} (a:Lz g):Am (ac g):=λq b=>by
 let ⟨z,_,rfl⟩:=Ao.mp b;exact FE a.2
theorem yJ {g:cL} (a:Lz g) (k:Nat):C_ (ac g) k=(co g k:Rat) / (co g (↑g - 1):Rat):=by
 unfold C_ AG ac;rw [AJ,Ac];unfold co;rw [AJ (l:=g) (i:=k)];cases e:g[k]? with
 | none=>
   show val (0,1)=((0:Int):Rat) / _;unfold val;show ((0:Int):Rat) / _=_;rw [show ((0:Int):Rat)=0 from rfl,P',P']
 | some z=>exact Fd a.2
def SV {g:cL} (a:Lz g):AG (ac g) (↑g - 1)=(1,1):=Hh (CJ (SU a) _) ⟨∅,∅⟩ (by
 let h:=yJ a (↑g - 1);unfold C_ at h;rw [h];have:=A4 a.2;let b:val (1,1)=1:=by unfold val;show ((1:Int):Rat) / ((1:Int):Rat)=1;ext
 rw [b];ext)
def yK {g:cL} (b:Lz g):Nz (ac g):=λq a=>by
 let h:=SV b;rw [Fu,L7] at a;unfold AG at h;rw [AJ,a] at h;let c:q=(1,1):=h;rw [c];decide
def MR.less {g f h:cZ} (m:MR g f) (a:Rat) (s:Nat) (e:∀ k,h k=f k - a*BJ s g k):MR g h:=by
 let ⟨A,b⟩:=m;refine ⟨FH A ((List.replicate s 0++[a]).map ((-1:Rat)*·)),λk=>?_⟩;rw [JH,JI,Ky,e k,b k]
 let c:BJ s (cvL [a] g) k=a*BJ s g k:=by
  unfold BJ;by_cases hk:s<=k
  ·rw [pB hk,pB hk];cases d:k - s with
   | zero=>rw [Bk];ext
   | succ j=>rw [Bf,CK];ext
  ·rw [qZ hk,qZ hk];ext
 rw [c];ext
def L8 {q:Nu} {n M:Int} (c:q.2≠0) (d:M≠0) (h:val q=(n:Rat) / (M:Rat)):Wo q n M:=by
 unfold Wo;unfold val at h;let a:=A4 c;let b:=A4 d;let e:(q.1:Rat)*(M:Rat)=(n:Rat)*(q.2:Rat):=by ext
 exact_mod_cast e
def L9 {q:Nu} {n M:Int} (a:Low q.1 q.2) (h:Wo q n M):q.2∣M/\q.1*(M / q.2)=n:=by
 unfold Wo at h;let d:q.2∣M:=Ka a ⟨n,by rw [h,Ci]⟩;refine ⟨d,?_⟩;let b:=a.pos
 let e:q.2*(q.1*(M / q.2))=q.2*n:=by
  have:=Int.mul_ediv_cancel' d
  calc q.2*(q.1*(M / q.2))=q.1*(q.2*(M / q.2)):=by ext
   _=q.1*M:=by rw [this]
   _=q.2*n:=by rw [h,Ci]
 exact Ft (Ah b) e
structure RS (m:cF) (z:cZ) (b c d i:Nat) (L:cF):Prop where
 low:Am L
 ov:∃ D,Ov L D/\Bd (c+i*d) D/\∀ z∈F_ L D,Bd (b+i*(d+1)) z
 mr:MR (C_ m) (λk=>C_ L k - z k)
noncomputable def X_ (L m:cF) (cc:Nu) (s j:Nat):cF:=(List.range ↑L).map λk=>if s<=k/\k - s<j then I_ (AG L k) (C' (-cc.1,cc.2) (AG m (k - s))) else AG L k
def EO (L m:cF) (cc:Nu) (s j:Nat):(X_ L m cc s j).length=↑L:=by unfold X_;rw [AI,Au]
def IH {L m:cF} {cc:Nu} {s j k:Nat} (h:k<↑L):(X_ L m cc s j)[k]?=some (if s<=k/\k - s<j then I_ (AG L k) (C' (-cc.1,cc.2) (AG m (k - s))) else AG L k):=by
 unfold X_;rw [Ac,Cp h];rfl
def SW (q:Nu):val (-q.1,q.2) = - val q:=by
 unfold val;show ((-q.1:Int):Rat) / _=_;push_cast;ext
def yL {m:cF} (b:Nz m) (c:m≠[]):(AG m (↑m - 1)).1≠0:=by
 let a:↑m - 1<↑m:=by have:=FQ.mpr c;omega
 let q:=b m[↑m - 1] (by rw [Fu];exact AT a);let e:AG m (↑m - 1)=m[↑m - 1]:=by unfold AG;rw [AJ,AT a];rfl
 rw [e];exact q
def Jk {m:cF} (c:Am m) (d:Nz m) (e:m≠[]):C_ m (↑m - 1)≠0:=by
 let a:=A4 (yL d e);let b:=A4 (Ah (CJ c (↑m - 1)).pos);unfold C_ val;ext
def yM {L m:cF} {cc:Nu} {s j:Nat} (a:Am L) (b:Am m) (c:0<cc.2):Am (X_ L m cc s j):=λq d=>by
 let ⟨k,_,rfl⟩:=Ao.mp d;show Low (if s<=k/\k - s<j then I_ (AG L k) (C' (-cc.1,cc.2) (AG m (k - s))) else AG L k).1 _;split
 ·exact Kc (CJ a k).pos (Hf (q:=(-cc.1,cc.2)) c (CJ b _).pos).pos
 ·exact CJ a k
def yN {L m:cF} {cc:Nu} {s:Nat} (c:Am L) (a:Am m) (b:0<cc.2) (d:↑L=s+↑m) (k:Nat):C_ (X_ L m cc s ↑m) k=C_ L k - val cc*BJ s (C_ m) k:=by
 by_cases h:k<↑L
 ·let e:AG (X_ L m cc s ↑m) k=if s<=k/\k - s<↑m then I_ (AG L k) (C' (-cc.1,cc.2) (AG m (k - s))) else AG L k:=by
   unfold AG;rw [AJ,IH h];rfl
  unfold C_;rw [e];unfold BJ;by_cases hk:s<=k
  ·rw [pB ⟨hk,⋯⟩,pB hk,JD (CJ c k).pos (Hf (q:=(-cc.1,cc.2)) b (CJ a _).pos).pos,Kk (q:=(-cc.1,cc.2)) b (CJ a _).pos,SW];show _=_ - _*val (AG m (k - s));ext
  ·rw [qZ ⋯,qZ hk];ext
 ·rw [Db (by rw [EO];omega),Db ⋯];unfold BJ;rw [pB ⋯,Db ⋯];ext
def RS.step {m:cF} {z:cZ} {b c d i:Nat} {L:cF} (S:RS m z b c d i L) (A:Am m) (nm:Nz m) (Y:m≠[]) {M:Int} (O:Ov m M) (Z:∀ z∈F_ m M,Bd d z) (hs:↑m<=↑L) {by':Nu} (lb:Low by'.1 by'.2) (vb:val by'*C_ m (↑m - 1)=1) :
  RS m z b c d (i+1) (X_ L m (C' (AG L (↑L - 1)) by') (↑L - ↑m) ↑m).dropLast:=by
 let l0:=FQ.mpr Y;let lL:=CJ S.low (↑L - 1);generalize B:C' (AG L (↑L - 1)) by'=f;let C:Low f.1 f.2:=by rw [<-B];exact Hf lL.pos lb.pos
 let vc:val f=C_ L (↑L - 1)*val by':=by rw [<-B];exact Kk lL.pos lb.pos
 generalize a0:↑L - ↑m=s;let P:↑L=s+↑m:=by omega
 let u:=yM (s:=s) (j:=↑m) S.low A C.pos;let pw:=λk=>yN (cc:=f) S.low A C.pos P k;let g:=EO L m f s ↑m;let R:=Jk A nm Y
 let F:C_ (X_ L m f s ↑m) (↑L - 1)=0:=by
  rw [pw,vc];unfold BJ;rw [pB ⋯,show ↑L - 1 - s=↑m - 1 by omega];ext
 let dl:∀ k,C_ (X_ L m f s ↑m).dropLast k=C_ L k - val f*BJ s (C_ m) k:=λk=>by
  rw [<-pw];by_cases h:k<↑L - 1
  ·unfold C_ AG;rw [AJ,AJ,List.getElem?_dropLast,pB (by rw [g];exact h)]
  ·rw [Db (by rw [List.length_dropLast,g];omega)];by_cases e:k=↑L - 1
   ·rw [e,F]
   ·rw [Db (by rw [g];omega)]
 let o:Am (X_ L m f s ↑m).dropLast:=λq p=>u q (List.dropLast_subset _ p);refine ⟨o,?_,S.mr.less (val f) s λk=>by rw [dl k];ext⟩;let ⟨D,N,bD,bz⟩:=S.ov;generalize G:(F_ m M).getD (↑m - 1) 0=a;let I:C_ m (↑m - 1)=(a:Rat) / (M:Rat):=by rw [Ec A O,G]
 let M0:=A4 (Ah O.1);let D0:=A4 (Ah N.1);let J:a≠0:=λz=>R (by rw [I,z];exact P' _);let v:Bd d a:=by rw [<-G];exact Dz Z _
 let T:0<(a.natAbs:Int):=by omega
 let U:∀ k,∃ n:Int,C_ (X_ L m f s ↑m).dropLast k=(n:Rat) / ((D*(a.natAbs:Int):Int):Rat)/\Bd (b+(i+1)*(d+1)) n:=λk=>by
  let e2:b+(i+1)*(d+1)=(d+(b+i*(d+1)))+1:=by rw [Nat.add_mul];omega
  let b1:Bd (b+i*(d+1)) ((F_ L D).getD k 0):=Dz bz k;let b2:Bd (b+i*(d+1)) ((F_ L D).getD (↑L - 1) 0):=Dz bz _
  let hv:val f=((F_ L D).getD (↑L - 1) 0:Rat) / (D:Rat)*((M:Rat) / (a:Rat)):=by
   rw [vc,Ec S.low N]
   have:val by'=(M:Rat) / (a:Rat):=by
    rw [I] at vb;have:=A4 J;ext
   rw [this]
  let up:∃ w:Int,BJ s (C_ m) k=(w:Rat) / (M:Rat)/\Bd d w:=by
   unfold BJ;by_cases hk:s<=k
   ·rw [pB hk,Ec A O];exact ⟨_,rfl,Dz Z _⟩
   ·rw [qZ hk];exact ⟨0,(P' _).symm,EK _⟩
  let ⟨w,hw,bw⟩:=up;rw [dl,hv,hw,Ec S.low N,e2];let a3:=A4 J;rcases Int.natAbs_eq a with e | e
  ·refine ⟨(a.natAbs:Int)*(F_ L D).getD k 0 - w*(F_ L D).getD (↑L - 1) 0,?_,?_⟩
   ·rw [<-e];push_cast;generalize ((F_ L D).getD k 0:Rat)=x at *;generalize ((F_ L D).getD (↑L - 1) 0:Rat)=y at *;ext
   ·rw [<-e];exact (v.mul b1).sub (bw.mul b2)
  ·refine ⟨(a.natAbs:Int)*(F_ L D).getD k 0+w*(F_ L D).getD (↑L - 1) 0,?_,?_⟩
   ·let W:(a.natAbs:Int) = -a:=by omega
    rw [W];push_cast;generalize ((F_ L D).getD k 0:Rat)=x at *;generalize ((F_ L D).getD (↑L - 1) 0:Rat)=y at *;ext
   ·let W:(a.natAbs:Int) = -a:=by omega
    rw [W];exact (v.neg.mul b1).add (bw.mul b2)
 let DP:0<D*(a.natAbs:Int):=Bh N.1 T
 let r:∀ q∈(X_ L m f s ↑m).dropLast,q.2∣D*(a.natAbs:Int)/\Bd (b+(i+1)*(d+1)) (q.1*((D*(a.natAbs:Int)) / q.2)):=λq p=>by
  let ⟨k,hk,e⟩:=List.getElem_of_mem p;let ⟨n,X,bn⟩:=U k;let lq:=o q p;let ek:AG (X_ L m f s ↑m).dropLast k=q:=by unfold AG;rw [AJ,AT hk,<-e];rfl
  unfold C_ at X;rw [ek] at X;let ⟨h1,h2⟩:=L9 lq (L8 (Ah lq.pos) (Ah DP) X);exact ⟨h1,by rw [h2];exact bn⟩
 refine ⟨D*(a.natAbs:Int),⟨DP,λq p=>(r q p).1⟩,?_,λz hz=>?_⟩
 ·refine (bD.mul (v.le (y:=(a.natAbs:Int)) ⋯)).mono ?_;rw [Nat.add_mul];omega
 ·let ⟨q,p,rfl⟩:=Ao.mp hz;exact (r q p).2
def yO {l:cF} (a:Am l) (k:Nat):C_ l k=((Ag l:Rat))⁻¹*(co (AY l) k:Rat):=by
 rw [Ec a (DF a),<-JF];show (co (AY l) k:Rat) / _=_;ext
def MA {a:Int} (d:a≠0) {B:Nat} {ns:cL} (g:∀ z∈ns,Bd B z):Ov (ns.map λn=>Ae n a) (a.natAbs:Int)/\∀ z∈F_ (ns.map λn=>Ae n a) (a.natAbs:Int),Bd B z:=by
 let h:(0:Int)<(a.natAbs:Int):=by omega
 let c:∀ n∈ns,(Ae n a).2∣(a.natAbs:Int)/\Bd B ((Ae n a).1*((a.natAbs:Int) / (Ae n a).2)):=λn b=>by
  let i:=FE (n:=n) d;let l1:=A4 d
  have:∃ s:Int,val (Ae n a)=(s:Rat) / (((a.natAbs:Int):Int):Rat)/\Bd B s:=by
   rw [Fd d];rcases Int.natAbs_eq a with e | e
   ·exact ⟨n,by rw [<-e],g n b⟩
   ·refine ⟨-n,?_,(g n b).neg⟩;let j:(a.natAbs:Int) = -a:=by omega
    rw [j];push_cast;ext
  let ⟨s,k,m⟩:=this;let ⟨o,p⟩:=L9 i (L8 (Ah i.pos) (Ah h) k);exact ⟨o,by rw [p];exact m⟩
 refine ⟨⟨h,λq f=>?_⟩,λz r=>?_⟩
 ·let ⟨n,b,rfl⟩:=Ao.mp f;exact (c n b).1
 ·let ⟨q,f,rfl⟩:=Ao.mp r;let ⟨n,b,rfl⟩:=Ao.mp f;exact (c n b).2
def MB {l:cF} {M:Int} {B:Nat} (h:Ov l M) (b:∀ z∈F_ l M,Bd B z):Ov (trim l) M/\∀ z∈F_ (trim l) M,Bd B z:=by
 refine ⟨⟨h.1,λq a=>h.2 q (EJ a)⟩,λz c=>?_⟩;let ⟨q,a,rfl⟩:=Ao.mp c;exact b _ (Ao.mpr ⟨q,EJ a,rfl⟩)
structure PS (l m:cF) (b c d e nq:Nat) (r:cL) (B:Int) (qs:cF):Prop where
 len:↑r<=↑l
 tz:Tz r
 B0:B≠0
 N:∃ N,0<N/\B∣N/\Bd (c+(nq - (↑r+1 - ↑m))*d) N/\∀ q∈qs,q.2∣N
 low:Am qs
 qb:∀ q∈qs,Bd (b+nq*(d+1)+e) q.1
 rb:∀ z∈r,Bd (b+(nq - (↑r+1 - ↑m))*(d+1)) z
 ql:↑qs=nq
 zer:∀ j,j+↑m<=↑r->AG qs j=(0,1)
 idn:∀ k,C_ l k=cv (C_ qs) (C_ m) nq k+(co r k:Rat) / (B:Rat)
def SX {ns:cL} {g:Int} (k:Nat):co (ns.map (·/ g)) k=co ns k / g:=L4 (F:=(·/ g)) (Int.zero_ediv g) ns k
def SY {ns:cL} {g:Int} (h:∀ z∈ns,g∣z) (k:Nat):g∣co ns k:=zM h k
def PS.step {l m:cF} {b c d e u:Nat} {r:cL} {B:Int} {D:cF} (S:PS l m b c d e u r B D) (U:Am m) (nm:Nz m) (m1:1<=↑m) (bC:∀ z∈AY m,Bd d z) (bE:Bd e (Ag m)) (M:u=↑l+1 - ↑m) (hr:↑m<=↑r)
  {o top I f w g:Int} (v:o=co (AY m) (↑m - 1)) (J:top=co r (↑r - 1)) (X:0<I) (O:f*I=o) (W:w*I=top) {A:cL} (t1:Tz A) (F:∀ k,co A k=f*co r k - w*BJ (↑r - ↑m) (co (AY m)) k) (Y:0<g) (Z:g∣B*f) (gr:∀ z∈A,g∣z) :
  PS l m b c d e u (A.map (·/ g)) (B*f / g) (D.set (↑r - ↑m) (Ae (top*Ag m) (B*o)))/\↑A<↑r:=by
 let G:o≠0:=by rw [v];exact Lx U nm m1
 let cl:(AY m).length=↑m:=Jj m;let P:f≠0:=λz=>G (by rw [<-O,z,ES])
 let a0:↑A<↑r:=by
  have:↑A<=↑r - 1:=SS (b:=[]) t1 _ λk hk=>by
   rw [F k];unfold BJ;rw [pB ⋯];by_cases ek:k=↑r - 1
   ·rw [ek,<-J,show ↑r - 1 - (↑r - ↑m)=↑m - 1 by omega,<-v,<-W,<-O];ext
   ·rw [EL (a:=r) ⋯,EL (a:=AY m) (k:=k - (↑r - ↑m)) ⋯];omega
  omega
 let CH:(A.map (·/ g)).length=↑A:=AI ..;let ⟨N,N0,NB,Nb,Nq⟩:=S.N;let a4:=S.len;let bl:Bd d o:=by rw [v];exact HF bC _
 let bt:Bd (b+(u - (↑r+1 - ↑m))*(d+1)) top:=by rw [J];exact HF S.rb _
 let bf:Bd d f:=DR G ⟨I,by rw [O]⟩ bl
 let bw:Bd (b+(u - (↑r+1 - ↑m))*(d+1)) w:=by
  by_cases z:top=0
  ·let w0:w=0:=by
    rcases Int.mul_eq_zero.mp (W.trans z) with h | h
    ·exact h
    ·omega
   rw [w0];exact EK _
  ·exact DR z ⟨I,by rw [W]⟩ bt
 let R:↑r - ↑m<u:=by omega
 let bne:B*o≠0:=EU S.B0 G;let T:=FE (n:=top*Ag m) bne;let p:∀ {q:Nu},q∈D.set (↑r - ↑m) (Ae (top*Ag m) (B*o))->q∈D\/q=Ae (top*Ag m) (B*o):=λ{q} h=>List.mem_or_eq_of_mem_set h
 let C:∀ j,AG (D.set (↑r - ↑m) (Ae (top*Ag m) (B*o))) j=if j=↑r - ↑m then Ae (top*Ag m) (B*o) else AG D j:=λj=>by
  unfold AG;rw [AJ,AJ];by_cases e:j=↑r - ↑m
  ·rw [pB e,e,Fq (by rw [S.ql];exact R)];rfl
  ·rw [qZ e,Fr (λz=>e z.symm)]
 let L:∀ x:Nat,(u - (↑r+1 - ↑m))*x+x<=(u - (↑A+1 - ↑m))*x:=λx=>by
  have:=CI x (show u - (↑r+1 - ↑m)+1<=u - (↑A+1 - ↑m) from BM (m:=u - (↑r - ↑m)) ⋯ (Nat.sub_le_sub_left ⋯ u));rw [Nat.add_mul,Nat.one_mul] at this;exact this
 refine ⟨⟨⋯,?_,?_,⟨N*(o.natAbs:Int),?_,?_,?_,?_⟩,?_,?_,?_,?_,?_,?_⟩,a0⟩
 ·rcases t1 with h | h
  ·left;rw [h];rfl
  ·right;rw [CH,SX];intro z;have:=Int.ediv_mul_cancel (SY gr (↑A - 1));rw [z,ES] at this;exact h this.symm
 ·intro z;let d:=Int.ediv_mul_cancel Z;rw [z,ES] at d;exact EU S.B0 P d.symm
 ·exact Bh N0 ⋯
 ·refine DX (Int.ediv_dvd_of_dvd Z) (Int.mul_dvd_mul NB ?_);exact Int.dvd_natAbs.mpr ⟨I,by rw [O]⟩
 ·let a3:Bd d (o.natAbs:Int):=bl.le (by rw [Ds];exact AV _);refine (Nb.mul a3).mono ?_;rw [CH];have:=L d;omega
 ·intro q M;rcases p M with h | h
  ·exact DX (Nq q h) (Int.dvd_mul_right ..)
  ·rw [h];exact YL bne (Int.mul_dvd_mul NB (Int.dvd_natAbs.mpr (Int.dvd_refl _)))
 ·intro q M;rcases p M with h | h
  ·exact S.low q h
  ·rw [h];exact T
 ·intro q M;rcases p M with h | h
  ·exact S.qb q h
  ·rw [h];refine (JE bne (bt.mul bE) (Nat.lt_two_pow_self:Bd _ (B*o))).1.mono ?_;have:=CI (d+1) (show u - (↑r+1 - ↑m)<=u by omega);omega
 ·intro z hz;let ⟨y,hy,rfl⟩:=Ao.mp hz;refine Lw (gr y hy) ?_;refine yG (n:=b+(u - ((A.map (·/ g)).length+1 - ↑m))*(d+1)) (λk=>?_) y hy;rw [F k,CH];let gw:=L (d+1);refine Bd.mono (m:=(b+(u - (↑r+1 - ↑m))*(d+1)+d)+1) (Bd.sub ((bf.mul (HF S.rb k)).mono ⋯) ?_) ⋯;unfold BJ;split
  ·exact bw.mul (HF bC _)
  ·rw [EC];exact EK _
 ·rw [C7];exact S.ql
 ·intro j hj;rw [CH] at hj;rw [C,qZ ⋯];exact S.zer j ⋯
 ·intro k;let hB:=A4 S.B0;let hL:=A4 G;let hg:=A4 (Ah Y);let hF:=A4 P;let hE:=A4 (Ah (DF U).1)
  let c1:=OU (f:=C_ D) (f':=C_ (D.set (↑r - ↑m) (Ae (top*Ag m) (B*o)))) (g:=C_ m) (s:=↑r - ↑m) (x:=val (Ae (top*Ag m) (B*o)))
   (by unfold C_;rw [S.zer _ ⋯];exact P' _) (by unfold C_;rw [C,pB rfl]) (λi hi=>by unfold C_;rw [C,qZ hi]) u k
  let gd:g∣f*co r k - w*BJ (↑r - ↑m) (co (AY m)) k:=by rw [<-F k];exact SY gr k
  rw [c1,S.idn k,SX,F k,SM (Ah Y) gd,SM (Ah Y) Z,Fd bne];let a5:(f:Rat)*I=o:=by exact_mod_cast O
  let a6:(w:Rat)*I=top:=by exact_mod_cast W
  let hS:=A4 (Ah X);unfold BJ;by_cases hk:↑r - ↑m<=k
  ·rw [pB hk,pB ⟨R,hk⟩,Ec U (DF U),<-JF];show _+(co r k:Rat) / _=_+_*((co (AY m) (k - (↑r - ↑m)):Rat) / _)+_;push_cast;generalize (co (AY m) (k - (↑r - ↑m)):Rat)=dk;generalize cv (C_ D) (C_ m) u k=c;generalize (co r k:Rat)=x;ext
  ·rw [qZ hk,qZ ⋯];push_cast;generalize cv (C_ D) (C_ m) u k=c;generalize (co r k:Rat)=x;ext
def yP {a b:Nu} (h:Es a=Es b):a=b:=by
 unfold Es at h;injection h with h;injection h with d c;injection c with c _;injection d with d;injection c with c;exact Prod.ext d c
theorem SZ {l m:cF} (h:Gw l=Gw m):l=m:=by
 unfold Gw at h;injection h with h
 induction l generalizing m with
 | nil=>
   cases m with
   | nil=>rfl
   | cons b m=>simp at h
 | cons a l c=>
   cases m with
   | nil=>simp at h
   | cons b m=>
     rw [List.map_cons,List.map_cons] at h;injection h with d e;rw [yP d,c e]
def eqP {H:Hp} {p q:Addr} {xs ys:cJ} {l m:cF} {Q:VK} (hp:H p=some (.tup xs)) (c:Nums H xs l) (d:H q=some (.tup ys)) (e:Nums H ys m) (b:Bool) (a:b=true↔l=m) (h:Q (.bl b) H):bS (.ref p) (.ref q) H Q:=
 ⟨_,_,b,JK hp c,JK d e,b_ _ 6,b_ _ 6,⟨λz=>by rw [a.mp z],λz=>a.mpr (SZ z)⟩,h⟩
def neP {H:Hp} {p q:Addr} {xs ys:cJ} {l m:cF} {Q:VK} (hp:H p=some (.tup xs)) (c:Nums H xs l) (d:H q=some (.tup ys)) (e:Nums H ys m) (b:Bool) (a:b=true↔l=m) (h:Q (.bl (!b)) H):bx (.ref p) (.ref q) H Q:=
 ⟨_,_,b,JK hp c,JK d e,b_ _ 6,b_ _ 6,⟨λz=>by rw [a.mp z],λz=>a.mpr (SZ z)⟩,h⟩
def yQ (h:GP K vs H Q E):ZF K (eA Q) (L2.start ["P","Q","row","divisor","rest","bottom","lead","quotient","shift","shared","spare"] vs) H:=by
 let ⟨p,q,xs,ys,l,m,b0,c0,d0,e0,rfl,hp,v,hN,hM,GL,GM,m0,cj,m6,hc,hb,he,hd,k⟩:=h;let ⟨bg,bk,bl⟩:=GL.clr;let ⟨T,bm,bp⟩:=GM.clr;let ⟨M,hO,bM,ck⟩:=GL.ov;let ⟨M',cm,cn,_⟩:=GM.ov;let hl:=GL.low;let hm:=GM.low;let nm:=GM.nz;let m1:1<=↑m:=FQ.mpr m0;let b9:b0<=900000:=by omega
 let c9:c0<=400000:=by omega
 let lx:=↑hN;let ly:=↑hM;let bq:∀ q∈m,Bd 60000000 q.1:=λq v=>(bp q v).mono ⋯;let bE:Bd e0 (Ag m):=bm;let OE:=DF hm;let OL:=DF hl;let bL:Bd c0 (Ag l):=bk;let cl:(AY m).length=↑m:=by unfold AY;rw [AI]
 let bs:(AY l).length=↑l:=by unfold AY;rw [AI]
 refine K0 (AD rfl (bh hp ⟨l,hN,hl,M,hO,bM.mono ⋯,λq v=>(bl q v).mono ⋯,⋯,λra a H1 s1 F G=>?_⟩));let bt:=s1 _ _ v;refine K0 (AD rfl (bh bt ⟨m,hM.tp (D_ s1),hm,Ag m,OE,bE.mono ⋯,bq,⋯,λrb b H2 s2 U W=>?_⟩));let F:=s2 _ _ F;let G:=s2 _ _ G;let X:=s1.trans s2;let bw:=X _ _ hp;let aj:=X _ _ v
 let A:∀ {r:cL},1<=↑r->N_ (~~~r) (-1)=some (V.int (r.getD (↑r - 1) 0)):=λ{r} h=>by
  unfold N_ Y_;rw [qZ ∅,pB (by rw [AI];omega),AI,show (-1+(↑r:Int)).toNat=↑r - 1 by omega];show (~~~r)[↑r - 1]?=_;rw [Ac,AJ,AT ⋯];rfl
 let el:=A (r:=AY m) ⋯;rw [cl] at el;generalize x:(AY m).getD (↑m - 1) 0=e at el;let Y:e≠0:=by rw [<-x];exact Lx hm nm m1
 let al:Bd d0 e:=by rw [<-x];exact Dz T _
 refine Ab (CG rfl F rfl (Ab (CG rfl F rfl (Ab (AW (CG rfl U rfl ⟨_,rfl,_,_,_,_,rfl,rfl,W,el,?_⟩))))));refine Ab (AW (DH (DG (G' (G' ⟨CH,λe1 an=>⟨Cb,λe2 ap=>?_⟩⟩)))));let u:=(AM an (.tup [.int 0,.int 1])).trans (AM ap (.lst [.ref e1]));let en:(if (0:Int) > (↑xs:Int) - (↑ys:Int)+1 then 0 else (↑xs:Int) - (↑ys:Int)+1)=((↑l+1 - ↑m:Nat):Int):=by split <;> omega
 refine ⟨_,rfl,_,_,rfl,u _ _ bw,_,rfl,_,_,rfl,u _ _ aj,_,_,rfl,rfl,_,_,rfl,rfl,_,_,rfl,?_⟩;refine ⟨_,((↑l+1 - ↑m:Nat):Int),_,rfl,congrArg V.int en,upd_same,⋯,⋯,sz (by simp;omega),λw hw=>?_⟩;refine Ol an ap hw λH3 h1 b1 u _ w2=>?_;rw [CB,Er] at b1;let N0:Nums H3 (List.replicate (↑l+1 - ↑m) (V.ref e1)) (List.replicate (↑l+1 - ↑m) (0,1)):=Nums.rep ⟨e1,rfl,h1⟩ _
 let gz:∀ n j:Nat,AG (List.replicate n ((0,1):Nu)) j=(0,1):=λn j=>by
  unfold AG;rw [AJ,Do];split <;> rfl
 refine DE (λn σ H'=>∃ (c:Addr) (r:cL) (B:Int) (zs:cJ) (I:cF) (x8 x9 J:cK),σ=[↥p,↥q,↥ra,↥rb,↥c,some (.int B),some (.int e),↥w,x8,x9,J]/\Same H2 H'/\H' c=some (.lst (~~~r))/\c≠w/\H' w=some (.lst zs)/\Nums H' zs I/\PS l m b0 c0 d0 e0 (↑l+1 - ↑m) r B I/\n=↑r) ↑l
  ⟨a,AY l,Ag l,_,_,none,none,none,rfl,u,u _ _ G,As G w2,b1,N0,⟨⋯,yH hl GL.nz,Ah OL.1,⟨Ag l,OL.1,Int.dvd_refl _,bL.mono ⋯,λq v=>?_⟩,λq v=>?_,λq v=>?_,λz hz=>?_,FN ..,λj _=>gz _ j,λk=>?_⟩,bs.symm⟩ ?_
 ·rw [(List.mem_replicate.mp v).2];exact Int.one_dvd _
 ·rw [(List.mem_replicate.mp v).2];exact Kf
 ·rw [(List.mem_replicate.mp v).2];exact EK _
 ·exact (bg z hz).mono ⋯
 ·rw [OV _ _ (λi _=>by unfold C_;rw [gz];exact P' _),Ec hl OL,JF];exact (Rat.zero_add _).symm
 rintro n σ H4 ⟨c,r,B,zs,I,x8,x9,J,rfl,s4,C,cw,Z,N4,o,rfl⟩;let b2:=s4 _ _ aj;refine ⟨_,rfl,_,_,rfl,C,_,rfl,_,_,rfl,b2,_,_,rfl,rfl,_,rfl,Aj (λcc=>?_) (λcc=>?_)⟩
 ·let b3:↑m<=↑r:=by let cc:=pE cc;rw [AI] at cc;omega
  refine ⟨_,λ_ _ h=>h,?_⟩;let es:((~~~r).length:Int) - (↑ys:Int)=((↑r - ↑m:Nat):Int):=by rw [AI];omega
  let lt:=A (r:=r) ⋯;generalize P:r.getD (↑r - 1) 0=top at lt;let b4:=s4 _ _ U;let cf:=s4 _ _ W;let ⟨N,L,NB,Nb,Nq⟩:=o.N;let a0:Bd 400000 B:=(DR (Ah L) NB Nb).mono (BM (Nat.add_le_add_left (CI _ (Nat.sub_le _ _)) _) hc)
  let bz:b0+(↑l+1 - ↑m - (↑r+1 - ↑m))*(d0+1)<=900000:=by
   have:=CI (d0+1) (Nat.sub_le (↑l+1 - ↑m) (↑r+1 - ↑m));omega
  let R:Bd 900000 top:=by rw [<-P];exact (Dz o.rb _).mono bz
  let c3:∀ z∈r,Bd 60000000 z:=λz hz=>(o.rb z hz).mono ⋯;refine ⟨_,rfl,_,_,rfl,C,_,rfl,_,_,rfl,b2,_,_,rfl,rfl,?_⟩;show QN K _ [↥p,↥q,↥ra,↥rb,↥c,some (.int B),some (.int e),↥w,some (.int (((~~~r).length:Int) - (↑ys:Int))),x9,J] _;rw [es];let bne:B*e≠0:=EU o.B0 Y;refine GJ (Al ⟨_,rfl,_,rfl,_,_,_,_,rfl,rfl,C,lt,_,rfl,_,_,_,_,rfl,rfl,b4,rfl,_,_,rfl,rfl,B8 R bE,_,rfl,_,rfl,_,_,rfl,rfl,B8 a0 al,_,_,rfl,bne,λt1 b5=>?_⟩);let cp:↑zs=↑l+1 - ↑m:=by rw [↑N4,o.ql]
  let cg:=o.len;refine ⟨_,rfl,_,rfl,_,zs,_,↑r - ↑m,rfl,rfl,AM b5 _ _ _ Z,FJ rfl ⋯,?_⟩;refine Yc b5 Z w2 s4 λH5 s5 b6 h5 c4 k5=>?_;let hn:=Nums.set (q:=Ae (top*Ag m) (B*e)) ⟨t1,rfl,h5⟩ (↑r - ↑m) (N4.tp c4);let D:=k5 _ _ cw C;let b7:=s5 _ _ U;let ba:=s5 _ _ W;refine GI ⟨_,rfl,_,rfl,_,_,_,_,rfl,rfl,D,lt,_,rfl,_,_,rfl,?_⟩;show QM K _ [↥p,↥q,↥ra,↥rb,↥c,some (.int B),some (.int e),↥w,some (.int ((↑r - ↑m:Nat):Int)),some (.int ((Int.gcd top e:Nat):Int)),J] _;let y:(0:Int)<((Int.gcd top e:Nat):Int):=by have:=Int.gcd_pos_of_ne_zero_right top Y;omega
  let a3:((Int.gcd top e:Nat):Int)∣e:=EA top e;let a4:((Int.gcd top e:Nat):Int)∣top:=FP top e;let hf:=Int.ediv_mul_cancel a3;let a5:=Int.ediv_mul_cancel a4;generalize ch:((Int.gcd top e:Nat):Int)=sh at y a3 a4 hf a5 ⊢;let a6:=Lw a3 al;let bb:=Lw a4 R;let a7:e.fdiv sh=e / sh:=Ei e (Dr y);let bc:top.fdiv sh=top / sh:=Ei top (Dr y);generalize cq:e / sh=f at hf a6 a7 ⊢;generalize top / sh=wt at a5 bb bc ⊢;refine Ab (Yb ⟨_,rfl,_,rfl,_,rfl,_,_,rfl,rfl,Ah y,_,rfl,_,_,_,_,rfl,rfl,b7,rfl,_,rfl,_,rfl,_,_,_,_,rfl,rfl,D,lt,_,rfl,_,_,rfl,rfl,Ah y,_,rfl,?_⟩);refine ⟨_,_,r,AY m,f,wt,↑r - ↑m,by rw [<-a7,<-bc],D,ba,⋯,⋯,a6.mono ⋯,bb.mono ∅,c3,λz hz=>(T z hz).mono ⋯,λc1 O H6 s6 bd t6 e6=>?_⟩;let c5:f≠0:=λz=>Y (by rw [<-hf,z,ES])
  let l6:↑O<=1000:=by
   have:↑O<=1000:=SS (b:=[]) t6 1000 λk hk=>by
    rw [e6 k,EL (a:=r) ⋯];unfold BJ;split
    ·rw [EL (a:=AY m) ⋯];omega
    ·omega
   exact this
  refine ⟨_,rfl,_,rfl,_,rfl,_,_,rfl,rfl,Ah y,_,_,rfl,rfl,?_⟩;rw [a7];refine ⟨B8 a0 a6,?_⟩;show QL K _ _ _;refine GI ⟨_,rfl,_,rfl,_,O,_,rfl,bd,l6,λg H7 s7 gn gB gr _=>?_⟩
  let g0:0<g:=by
   rcases Int.lt_or_eq_of_le gn with z | z
   ·exact z
   ·exact absurd (Int.zero_dvd.mp (z ▸ gB)) (EU o.B0 c5)
  let c6:=s7 _ _ bd;let ⟨S5,c7⟩:=o.step hm nm m1 T bE rfl b3 x.symm P.symm y hf a5 t6 e6 g0 gB gr;let ca:(O.map (·/ g)).length=↑O:=AI ..;refine GI ⟨_,rfl,_,rfl,_,O,_,rfl,c6,.inl g0,⋯,λc2 be=>⟨_,rfl,_,rfl,_,_,rfl,rfl,g0,?_⟩⟩;let cb:=AM be (.lst ((O.map (·/ g)).map V.int));let bf:=s6.trans s7;let ab:=bf.trans cb;exact ⟨↑O,c7,_,O.map (·/ g),_,_,_,_,_,_,rfl,s5.trans ab,upd_same,(As (bf _ _ b6) be).symm,ab _ _ b6,hn.tp (D_ ab),S5,ca.symm⟩
 ·let b3:↑r<↑m:=by let cc:=pH (Bool.eq_false_iff.mpr cc);rw [AI] at cc;omega
  let ⟨N,L,NB,Nb,Nq⟩:=o.N;let a0:Bd 400000 B:=(DR (Ah L) NB Nb).mono (BM (Nat.add_le_add_left (CI _ (Nat.sub_le _ _)) _) hc);let ci:=o.ql;show QO K _ _ _;refine Bb (DG (CL ⟨_,rfl,_,_,I,rfl,Z,N4,⋯,λt1 z1 H5 s5 h5 n5=>?_⟩));let D:=s5 _ _ C;let cd:=o.len;refine Al ⟨_,rfl,_,rfl,_,r,_,rfl,D,o.B0,⋯,λt2 z2 H6 s6 h6 n6=>⟨CH,λt ht=>?_⟩⟩;let st:=AM ht (.tup [.ref t1,.ref t2]);let S:Am (r.map λn=>Ae n B):=λq v=>by let ⟨n,_,rfl⟩:=Ao.mp v;exact FE o.B0
  let ce:∀ k,C_ (r.map λn=>Ae n B) k=(r.getD k 0:Rat) / (B:Rat):=λk=>by
   unfold C_ AG;rw [AJ,AJ,Ac];cases r[k]? with
   | none=>exact (P' _).trans (P' _).symm
   | some z=>exact Fd o.B0
  let Bo:=o.rb;let r0:↑r+1 - ↑m=0:=by omega
  rw [r0,Nat.sub_zero] at Bo Nb;let bB:Bd (c0+(↑l+1 - ↑m)*d0) B:=DR (Ah L) NB Nb;let ⟨RO,RB⟩:=MA o.B0 Bo;let ⟨TO,TB⟩:=MB RO RB;refine k t t1 t2 _ (trim I) (trim (r.map λn=>Ae n B)) ((((X.trans s4).trans s5).trans s6).trans st) upd_same (Pl.same ⟨z1,h5,n5⟩ (s6.trans st)) (Pl.same ⟨z2,h6,n6⟩ st) (λq v=>o.low q (EJ v)) (Dy _) ?_ ⟨λq v=>S q (EJ v),Dy _,_,TO,bB.le ⋯,TB⟩ ?_ λk=>?_
  ·have:=Fb I;omega
  ·have:=Fb (r.map λn=>Ae n B);rw [AI] at this;omega
  ·let ⟨d,hd⟩:∃ d,↑l+1 - ↑m=(trim I).length+d:=⟨↑l+1 - ↑m - (trim I).length,(Nat.add_sub_cancel' (by rw [<-o.ql];exact Fb I)).symm⟩;rw [Eo S,ce,o.idn k,OY (λi=>(Eo o.low i).symm),hd,OX (λi hi=>Db hi)];rfl
theorem Sa (F G:cZ) (k:Nat):∀ n,cv F G n k=cvL ((List.range n).map F) G k
 | 0=>rfl
 | n+1=>by
   show cv F G n k+(if n<=k then F n*G (k - n) else 0)=_;rw [Sa F G k n,Ex,CP,List.map_singleton,Hl,AI,Au];unfold BJ;by_cases hk:n<=k
   ·rw [pB hk,pB hk]
   ·rw [qZ hk,qZ hk];ext
def yR {F:cZ} {n:Nat} (h:∀ i,n<=i->F i=0) (k:Nat):F k=cvL ((List.range n).map F) BQ k:=by
 rw [Ep,AJ,Ac];by_cases hk:k<n
 ·rw [Cp hk];rfl
 ·rw [BH (by rw [Au];omega),h k ⋯];rfl
def Gq.mono {b c b' c':Nat} {l:cF} (G:Gq b c l) (a:b<=b') (d:c<=c'):Gq b' c' l:=by
 let ⟨x,y,M,O,e,f⟩:=G;exact ⟨x,y,M,O,e.mono d,λz g=>(f z g).mono a⟩
def Jl {T:cF} {b c:Nat} (g:Am T) (n:Nz T) {M:Int} (j:0<M) (o:Bd c M) {N:cY} (h:∀ k,C_ T k=(N k:Rat) / (M:Rat)) (p:∀ k,Bd b (N k)):Gq b c T:=by
 let f:∀ q∈T,∃ k,q.2∣M/\q.1*(M / q.2)=N k:=λq d=>by
  let ⟨i,r,rfl⟩:=List.getElem_of_mem d;let e:AG T i=T[i]:=by unfold AG;rw [AJ,AT r];rfl
  let m:=g _ d;let v:=h i;unfold C_ at v;rw [e] at v;exact ⟨i,L9 m (L8 (Ah m.pos) (Ah j) v)⟩
 refine ⟨g,n,M,⟨j,λq d=>?_⟩,o,λz u=>?_⟩
 ·let ⟨k,a,_⟩:=f q d;exact a
 ·let ⟨q,d,rfl⟩:=Ao.mp u;let ⟨k,_,a⟩:=f q d;rw [a];exact p k
def yS (h:JU K vs H Q E):PH K { nx:=λ_ n=>Q .non n,rt:=Q } (L2.start ["row","other","result","place","whole","step","factor"] vs) H:=by
 let ⟨p,q,f,g,b,d,rfl,hp,O,bn,bm,b9,d9,ln,lm,k⟩:=h;unfold PH;rwa [hp,O];let R:∀ C:cL,((!(List.map V.int C).isEmpty)=false)↔↑C=0:=λC=>by cases C <;> simp
 simp only [R];refine Aj (λc=>?_) (λc=>Aj (λc2=>?_) (λc2=>?_))
 ·exact ⟨sz ∅,λr S=>k r _ (AM S _) (by rw [pB (.inl c)];exact upd_same)⟩
 ·exact ⟨sz ∅,λr S=>k r _ (AM S _) (by rw [pB (.inr c2)];exact upd_same)⟩
 rw [qZ ⋯] at k;refine ⟨sz ∅,λa ha=>?_⟩;let P:=AM ha (.lst [.int 0]);let G:=P _ _ hp;let T:=P _ _ O;rwa [G,T];rw [AI,AI];let eL:((↑f:Int)+(↑g:Int) - 1).toNat=↑f+↑g - 1:=by omega
 rw [eL,Ls];refine ⟨⋯,⋯,sz ⋯,λw U=>?_⟩;generalize W:↑f+↑g - 1=L at U ⊢;let sw:=AM U (.lst (BF L λ_=>0))
 let w0:H w=none:=by
  cases e:H w with
  | none=>rfl
  | some o=>let z:=P _ _ e;rw [U] at z;cases z
 refine ⟨⟨_,SqL.of (sw _ _ G)⟩,ForJ.enumL (xs:=f.map V.int) (λi v n=>∃ X Y D F:cK,v=[↥p,↥q,↥w,X,Y,D,F]/\Same H n/\n w=some (.lst (BF L λk=>ps f g i k)))
  ⟨none,none,none,none,rfl,P.trans sw,upd_same⟩ ?_ ?_ ?_⟩
 ·rintro i v n _ ⟨_,_,_,_,_,B,_⟩;exact SqL.of (B _ _ hp)
 ·rintro i x pp v H1 I ⟨X,Y,D,F,rfl,B,m⟩ Z;rw [Ac] at I;cases en:f[i]? with
  | none=>rw [en] at I;cases I
  | some z=>
    rw [en] at I;obtain rfl:V.int z=x:=pL I;let il:i<↑f:=(Ax.mp en).1;let zd:f.getD i 0=z:=by rw [AJ,en];rfl
    let J:=AM Z (.tup [.int (i:Int),.int z]);rwa [];refine Aj (λc3=>?_) (λc3=>?_)
    ·refine ⟨⟨_,SqL.of (J _ _ (B _ _ O))⟩,ForJ.enumL (xs:=g.map V.int) (λj v n=>∃ D F:cK,v=[↥p,↥q,↥w,some (.int (i:Int)),some (.int z),D,F]/\Same H n/\n w=some (.lst (BF L λk=>V' f g i j k)))
      ⟨D,F,rfl,B.trans J,by rw [J _ _ m];exact congrArg (λl=>some (HO.lst l)) (ID λk _=>(Kh f g i k))⟩ ?_ ?_ ?_⟩
     ·rintro j v n _ ⟨_,_,_,M,_⟩;exact SqL.of (M _ _ O)
     ·rintro j y pq v H2 N ⟨y3,y4,rfl,M,A⟩ a0;rw [Ac] at N;cases em:g[j]? with
      | none=>rw [em] at N;cases N
      | some u=>
        rw [em] at N;obtain rfl:V.int u=y:=pL N;let jl:j<↑g:=(Ax.mp em).1;let ud:g.getD j 0=u:=by rw [AJ,em];rfl
        let sq:=AM a0 (.tup [.int (j:Int),.int u]);let a3:=sq _ _ A;rwa [a3];let kl:i+j<L:=by omega
        refine ⟨_,Ca ⋯ (EN _ kl),Ew ((bn z (A5 en)).mono ⋯) ((bm u (A5 em)).mono ⋯),_,rfl,i+j,?_,λb o h=>Kp.upd b o (As h w0) (sq b o (M b o h)),?_⟩
        ·rw [EM];exact FJ ⋯ kl
        ·refine IC kl ?_ λk _ hk=>?_
         ·rw [Gn,pB rfl,zd,ud]
         ·rw [Gn,qZ hk]
     ·rintro v H2 ⟨y3,y4,rfl,M,A⟩;rw [AI] at A;exact ⟨_,_,_,_,rfl,M,A⟩
    ·refine ⟨B.trans J,?_⟩;rw [J _ _ m];refine congrArg (λl=>some (HO.lst l)) (ID λk _=>?_);let z0:z=0:=Decidable.not_not.mp c3;show ps f g i k+_=ps f g i k;rw [zd,z0];simp
 ·rintro v H1 ⟨X,Y,D,F,rfl,B,m⟩;rwa [];rw [AI] at m;subst W;exact k w H1 B m
def yT (h:JV K vs H Q E):QK K { nx:=λ_ P=>Q .non P,rt:=Q } (L2.start ["P","Q","one","other"] vs) H:=by
 let ⟨p,q,xs,ys,l,m,b,c,d,e,rfl,hp,f,R,S,Gl,j,ll,lm,b9,c9,d9,e9,k⟩:=h;unfold QK;let ⟨J,g,T⟩:=Gl.clr;let ⟨L,i,U⟩:=j.clr;let o:=DF Gl.low;let u:=DF j.low;rwa [hp,f];refine bh hp ⟨l,R,Gl.low,Ag l,o,g.mono ⋯,λq f=>(T q f).mono ⋯,⋯,λr a H1 B W X=>?_⟩;let v:=B _ _ f;rwa [v];refine bh v ⟨m,S.tp (D_ B),j.low,Ag m,u,i.mono ⋯,λq f=>(U q f).mono ⋯,⋯,λr2 a2 H2 C x D=>?_⟩;let y:=C _ _ W;let F:=C _ _ X;rwa [y,x];let m1:(AY l).length=↑l:=by unfold AY;rw [AI]
 let m2:(AY m).length=↑m:=by unfold AY;rw [AI]
 refine ⟨AY l,F,AY m,D,b,J,d,L,⋯,⋯,⋯,⋯,λw H3 G Y=>?_⟩;let I:=G _ _ y;let z:=G _ _ x;rwa [I,z];let A:0<Ag l*Ag m:=Bh o.1 u.1;refine ⟨Ew (g.mono ⋯) (i.mono ⋯),_,Y,Ah A,?_,λZ zs H4 s4 h4 M=>?_⟩
 ·split
  ·exact AX _
  ·rw [AI,Au];omega
 let O:trim (Fc l m (↑l+↑m))=trim (List.map (λn=>Ae n (Ag l*Ag m)) (if (AY l).length=0\/(AY m).length=0 then [] else List.map (λk=>ps (AY l) (AY m) (AY l).length k) (List.range ((AY l).length+(AY m).length - 1)))):=by
  rw [m1,m2,show (λn=>Ae n (Ag l*Ag m))=λn=>L_ n (Ag l*Ag m) from funext λn=>IF A];exact YK A m2
 let lo:Am (Fc l m (↑l+↑m)):=Kn o u
 let pv:∀ k,C_ (trim (Fc l m (↑l+↑m))) k=cv (C_ l) (C_ m) ↑l k:=λk=>by
  rw [Eo lo];exact Ko Gl.low j.low o u k
 rw [<-O] at M;refine k Z _ H4 (((B.trans C).trans G).trans s4) ⟨zs,h4,M⟩ ?_ ?_ pv
 ·refine Jl (λq f=>lo q (EJ f)) (Dy _) A (g.mul i) (N:=λk=>ps (AY l) (AY m) ↑l k) (λk=>?_) λk=>Hg J L _ _;rw [pv];exact (Hj Gl.low j.low o u _ _).symm
 ·rw [O];refine BM (Fb _) ?_;rw [AI];split
  ·exact AX _
  ·rw [AI,Au];omega
def yU (l:cF) (k:Nat):cvL (rw' l) BQ k=C_ l k:=(yR (λi a=>Db a) k).symm
def Sb (l:cF) (g:cZ) (k:Nat):cv (C_ l) g ↑l k=cvL (rw' l) g k:=Sa _ _ k _
def MC {H:Hp} {p:Addr} (h:H p=some (.tup [.int 1,.int 1])):isN H (.ref p) (1,1):=⟨p,rfl,h⟩
def ae {n:Nat} {x:Int} (h:x.natAbs<2 ^ n):Bd n x:=h
def ai (q r:Nu):I_ q (-r.1,r.2)=W' q r:=by
 unfold I_ W';congr 1;show q.1*r.2 + -r.1*q.2=_;ext
def yV {q r:Nu} (a:0<q.2) (b:0<r.2):val (W' q r)=val q - val r:=by
 rw [<-ai,JD (r:=(-r.1,r.2)) a b,SW];ext
def Sc {f:Nu->Nu->Nu} {s:Int} (j:∀ q r:Nu,0<q.2->0<r.2->Low (f q r).1 (f q r).2/\val (f q r)=val q+(s:Rat)*val r) (u:s=1\/s = -1) {l m:cF} {M:Int} {b c:Nat} (d:Am l) (g:Am m) (n:Ov l M) (v:Ov m M) (w:Bd c M) (x:∀ z∈F_ l M,Bd b z) (y:∀ z∈F_ m M,Bd b z) :
  Gq (b+1) c (trim (FD f l m))/\(trim (FD f l m)).length<=max ↑l ↑m/\∀ k,C_ (trim (FD f l m)) k=C_ l k+(s:Rat)*C_ m k:=by
 let a:Am (FD f l m):=λq h=>by
  let ⟨i,_,rfl⟩:=Ao.mp h;exact (j _ _ (CJ d i).pos (CJ g i).pos).1
 let pv:∀ k,C_ (trim (FD f l m)) k=C_ l k+(s:Rat)*C_ m k:=λk=>by
  rw [Eo a];rcases EB k (max ↑l ↑m) with c | c
  ·let e:AG (FD f l m) k=f (AG l k) (AG m k):=by
    unfold FD AG;rw [AJ,Ac,Cp c];rfl
   unfold C_;rw [e,(j _ _ (CJ d k).pos (CJ g k).pos).2]
  ·rw [Db (by unfold FD;rw [AI,Au];exact c),Db (l:=l) ⋯,Db (l:=m) ⋯];ext
 refine ⟨Jl (λq h=>a q (EJ h)) (Dy _) n.1 w (N:=λk=>(F_ l M).getD k 0+s*(F_ m M).getD k 0) (λk=>?_) λk=>?_,?_,pv⟩
 ·rw [pv,Ec d n,Ec g v];push_cast;ext
 ·let o:=Dz x k;let p:=Dz y k;rcases u with z | z
  ·rw [z,Int.one_mul];exact o.add p
  ·rw [z,show (F_ l M).getD k 0 + -1*(F_ m M).getD k 0=(F_ l M).getD k 0 - (F_ m M).getD k 0 by omega];exact o.sub p
 ·refine BM (Fb _) ?_;unfold FD;rw [AI,Au];exact AV _
def yW (h:LM K vs H Q E):QD K { nx:=λ_ j=>Q .non j,rt:=Q } (L2.start ["one","other"] vs) H:=by
 let ⟨p,q,a,b,c,d,rfl,hp,m,e,f,n,g,o,i,k⟩:=h;unfold QD;rwa [hp,m];exact ⟨Ew n i,Ew o g,Ew g i,Ah (Bh e f),λr u=>by rw [IF (Bh e f)];exact k r u⟩
def yX (h:LN K vs H Q E):QE K { nx:=λ_ j=>Q .non j,rt:=Q } (L2.start ["one","other"] vs) H:=by
 let ⟨p,q,a,b,c,d,rfl,hp,m,e,f,n,g,o,i,k⟩:=h;unfold QE;rwa [hp,m];exact ⟨Ew n i,Ew o g,Ew g i,Ah (Bh e f),λr u=>by rw [IF (Bh e f)];exact k r u⟩
def yY (h:Fm K vs H Q E):QH K { nx:=λ_ b=>Q .non b,rt:=Q } (L2.start ["P","place"] vs) H:=by
 let ⟨p,g,l,i,rfl,hp,a,q⟩:=h;unfold QH;rwa [hp];let j:=↑a;refine Aj (λc=>?_) (λc=>⟨sz ∅,λr d=>q _ _ (AM d _) ?_⟩)
 ·let ⟨v,e,f⟩:=a.at (i:=i) ⋯ (0,1);exact ⟨v,DD e,q v H (Same.refl H) f⟩
 ·rw [Kl ⋯];exact Ff (q:=(0,1))
theorem Jm {l:cF} {M:Int} {b c:Nat} (a:Am l) (O:Ov l M) (d:Bd c M) (f:∀ z∈F_ l M,Bd b z) (i:Nat):Bd (b+1) (AG l i).1/\Bd (c+1) (AG l i).2:=by
 unfold AG;rw [AJ];cases e:l[i]? with
 | none=>exact ⟨EK _,(ae (n:=1) ∅).mono ⋯⟩
 | some q=>
   let m:=A5 e;exact ⟨(G9 a O f q m).mono ⋯,(DR (Ah O.1) (O.2 q m) d).mono ⋯⟩
def yZ (h:LP K vs H Q E):QJ K { nx:=λ_ e=>Q .non e,rt:=Q } (L2.start ["P","Q"] vs) H:=by
 let ⟨p,q,U,W,l,m,M,b,c,rfl,hp,J,L,N,B,C,O,P,D,n,o,b9,c9,ll,lm,k⟩:=h;unfold QJ;rwa [hp,J];let X:=↑L;let Y:=↑N;rw [SJ,X,Y];refine ⟨⋯,⋯,CompJ.range (λi w e=>i<=max ↑l ↑m/\Same H e/\Nums e w ((List.range i).map λi=>W' (AG l i) (AG m i))) ⟨AX _,Same.refl H,trivial⟩ ?_ ?_ ?_⟩
 ·rintro i w e ⟨x,d,y⟩;exact ⟨x,sz (by rw [↑y,AI,Au];omega)⟩
 ·rintro i w e hi ⟨x,d,y⟩;rwa [];rw [show (0:Int)+(i:Int)=(i:Int) by omega];refine ⟨U,l,i,rfl,d _ _ hp,L.tp (D_ d),λv H1 g Z=>⟨W,m,i,rfl,g _ _ (d _ _ J),N.tp (D_ (d.trans g)),λu H2 z hu=>?_⟩⟩;let ⟨pv,rfl,F⟩:=Z.tp (D_ z);let ⟨pu,rfl,G⟩:=hu;let R:=Jm B O D n i;let S:=Jm C P D o i;refine ⟨pv,rfl,pu,rfl,_,_,F,_,_,G,(CJ B i).pos,(CJ C i).pos,R.1.mono ⋯,R.2.mono ⋯,S.1.mono ⋯,S.2.mono ⋯,λr A=>⟨⋯,((d.trans g).trans z).trans (AM A _),?_⟩⟩;rw [SK];exact (y.tp (D_ ((g.trans z).trans (AM A _)))).append (Nums.one Ff)
 ·rintro w e ⟨_,d,y⟩ a ha;rwa [];let g:=AM ha (.lst w);let j:=Sc (f:=W') (s:=-1) (λq r x T=>⟨YC x T,by rw [yV x T];push_cast;ext⟩) (.inr rfl) B C O P D n o;refine ⟨_,y.tp (D_ g),by rw [AI,Au];omega,λr os I z A hz=>?_⟩;exact k r _ I ((d.trans g).trans z) ⟨os,A,hz⟩ j.1 j.2.1 λk=>by have:=j.2.2 k;exact this
def xA {b c:Nat} {l m:cF} (g:Gq b c l) (h:Gq b c m):∃ M,Ov l M/\Ov m M/\Bd (c+c) M/\(∀ z∈F_ l M,Bd (b+c) z)/\∀ z∈F_ m M,Bd (b+c) z:=by
 let a:∀ {l:cF} {M N:Int},Am l->Ov l M->(∀ z∈F_ l M,Bd b z)->0<N->Bd c N->Ov l (M*N)/\∀ z∈F_ l (M*N),Bd (b+c) z:=λ{l M N} A O p r d=>by
  refine ⟨⟨Bh O.1 r,λq f=>Int.dvd_mul_of_dvd_left (O.2 q f)⟩,λz u=>?_⟩;let ⟨q,f,rfl⟩:=Ao.mp u;let e:M*N / q.2=M / q.2*N:=Int.mul_ediv_assoc' N (O.2 q f);rw [e,<-Co];exact (p _ (Ao.mpr ⟨q,f,rfl⟩)).mul d
 let ⟨M,i,j,v⟩:=g.ov;let ⟨N,k,d,w⟩:=h.ov;let ⟨x,y⟩:=a g.low i v k.1 d;let ⟨n,o⟩:=a h.low k w i.1 j;rw [Ci N M] at n o;exact ⟨M*N,x,n,j.mul d,y,o⟩
def CompJ.enumL {K:W.Frag} {capt:List (Option Nat)} {g:TG} {f:TE} {j:L2.St} {H:Hp} {Q:VK} {a:Addr} {xs:cJ} (W:Nat->cJ->Hp->Prop) (k:W 0 [] H) (c:∀ i b H,W i b H->i<=↑xs/\↑b<=sizeLine/\SqL K H a xs)
  (m:∀ i x p b H,xs[i]?=some x->W i b H->H p=none->g (.ref p) (CU capt j) (upd H p (.tup [.int i,x])) λd n=>f d n λy o=>W (i+1) (b++[y]) o) (r:∀ b H,W ↑xs b H->∀ p,H p=none->Q (.ref p) (upd H p (.lst b))):CompJ (F9 K a) capt g f j Q H:=by
 refine ⟨↑xs,W,k,λi b H w=>⟨(c i b H w).1,(c i b H w).2.1,?_⟩⟩;let q:SqL K H a xs:=(c i b H w).2.2;by_cases h:i<↑xs
 ·refine .inr ⟨h,⟨xs,xs[i],q,by simp [h]⟩,λx v y=>?_⟩;let ⟨p,u,hp,rfl,rfl,y⟩:=y;exact m i u p b _ (y xs q) w hp
 ·let e:i=↑xs:=EQ (c i b H w).1 (Nat.not_lt.mp h);subst e;exact .inl ⟨⟨xs,q,AV _⟩,r b H w⟩
def Sd (l:cF):sr l=Sr.L (rw' l):=Sr.ext' λk=>(yU l k).symm
def Ee (l:cF):Sr.Pol (sr l):=⟨_,Sd l⟩
def Se (l:cF) (g:cZ):(⟨cvL (rw' l) g⟩:Sr)=sr l*⟨g⟩:=by rw [Sd,Sr.L_mul]
def Jn {P A C:cF} (h:∀ k,C_ P k=cv (C_ A) (C_ C) ↑A k):sr P=sr A*sr C:=by
 refine Eq.trans ?_ (Se A (C_ C));exact Sr.ext' λk=>(h k).trans (Sb _ _ _)
def xB {l:cF} (a:Am l) (b:Nz l) (c:l≠[]):sr l≠0:=λz=>Jk a b c (by
 have:=congrFun (congrArg Sr.c z) (↑l - 1);rw [Sr.zero_c] at this;exact this)
def MD {l m:cF} (a:Am l) (b:Am m) (c:Nz l) (d:Nz m) (h:sr l=sr m):l=m:=YO a b c d λk=>congrFun (congrArg Sr.c h) k
def xC (h:LO K vs H Q E):QI K { nx:=λ_ e=>Q .non e,rt:=Q } (L2.start ["P","Q"] vs) H:=by
 let ⟨p,q,U,W,l,m,M,b,c,rfl,hp,J,L,N,B,C,O,P,D,n,o,b9,c9,ll,lm,k⟩:=h;unfold QI;rwa [hp,J];let X:=↑L;let Y:=↑N;rw [SJ,X,Y];refine ⟨⋯,⋯,CompJ.range (λi w e=>i<=max ↑l ↑m/\Same H e/\Nums e w ((List.range i).map λi=>I_ (AG l i) (AG m i))) ⟨AX _,Same.refl H,trivial⟩ ?_ ?_ ?_⟩
 ·rintro i w e ⟨x,d,y⟩;exact ⟨x,sz (by rw [↑y,AI,Au];omega)⟩
 ·rintro i w e hi ⟨x,d,y⟩;rwa [];rw [show (0:Int)+(i:Int)=(i:Int) by omega];refine ⟨U,l,i,rfl,d _ _ hp,L.tp (D_ d),λv H1 g Z=>⟨W,m,i,rfl,g _ _ (d _ _ J),N.tp (D_ (d.trans g)),λu H2 z hu=>?_⟩⟩;let ⟨pv,rfl,F⟩:=Z.tp (D_ z);let ⟨pu,rfl,G⟩:=hu;let R:=Jm B O D n i;let S:=Jm C P D o i;refine ⟨pv,rfl,pu,rfl,_,_,F,_,_,G,(CJ B i).pos,(CJ C i).pos,R.1.mono ⋯,R.2.mono ⋯,S.1.mono ⋯,S.2.mono ⋯,λr A=>⟨⋯,((d.trans g).trans z).trans (AM A _),?_⟩⟩;rw [SK];exact (y.tp (D_ ((g.trans z).trans (AM A _)))).append (Nums.one Ff)
 ·rintro w e ⟨_,d,y⟩ a ha;rwa [];let g:=AM ha (.lst w);let j:=Sc (f:=I_) (s:=1) (λq r x T=>⟨Kc x T,by rw [JD x T];ext⟩) (.inl rfl) B C O P D n o;refine ⟨_,y.tp (D_ g),by rw [AI,Au];omega,λr os I z A hz=>?_⟩;exact k r _ I ((d.trans g).trans z) ⟨os,A,hz⟩ j.1 j.2.1 λk=>by have:=j.2.2 k;exact this
theorem ME (p:cY):∀ (w:cL) (k:Nat),((cvL w p k:Int):Rat)=cvL (w.map λz:Int=>(z:Rat)) (λk=>(p k:Rat)) k
 | [],_=>rfl
 | x::w,0=>by rw [Bk];show _=(x:Rat)*(p 0:Rat)+0;push_cast;rfl
 | x::w,k+1=>by rw [Bf];show _=(x:Rat)*(p (k+1):Rat)+cvL (w.map λz:Int=>(z:Rat)) (λk=>(p k:Rat)) k;rw [<-ME p w k];push_cast;rfl
def MF (ns:cL):si ns=Sr.L (ns.map λz:Int=>(z:Rat)):=Sr.ext' λk=>by
 show ((co ns k:Int):Rat)=cvL _ BQ k;rw [Ep];unfold co;rw [AJ,AJ,Ac];cases ns[k]? <;> rfl
def FK (ns:cL):Sr.Pol (si ns):=⟨_,MF ns⟩
def HG (ns:cL):Sr.Bn (si ns) ↑ns:=λk hk=>by
 show ((co ns k:Int):Rat)=0;rw [EL hk];rfl
namespace Sr
def num_num (x y:Rat):num x*num y=num (x*y):=ext' λk=>by
 rw [num_mul];show x*(y*BQ k)=x*y*BQ k;ext
def num_one:num 1=1:=congrArg num (show (1:Rat)=((1:Nat):Rat) by push_cast;rfl)
def num_inv {x:Rat} (h:x≠0):num x⁻¹*num x=1:=by
 rw [num_num,Rat.inv_mul_cancel _ h];exact num_one
theorem mul_pow {f g:Sr}:∀ n:Nat,(f*g) ^ n=f ^ n*g ^ n
 | 0=>by rw [pow_z,pow_z,pow_z];ext
 | n+1=>by rw [pow_s,pow_s,pow_s,mul_pow n];ext
theorem num_pow (x:Rat):∀ n:Nat,num x ^ n=num (x ^ n)
 | 0=>by rw [pow_z,Rat.pow_zero];exact num_one.symm
 | n+1=>by rw [pow_s,num_pow x n,num_num,Rat.pow_succ]
end Sr
def Sf {l:cF} (h:Am l):sr l=Sr.num ((Ag l:Rat))⁻¹*si (AY l):=Sr.ext' λk=>by
 rw [Sr.num_mul];exact yO h k
def Dl (l:cF):Sr.Bn (sr l) ↑l:=λk hk=>Db hk
def Jo {a H:Hp} {p:Addr} (s:Same a H) (h:H p=none) (o:HO):Same a (L2.upd H p o):=s.trans (AM h o)
def MG {K:W.Frag} {capt:List (Option Nat)} {e:TE} {f:L2.St} {H:Hp} {Q:VK} {a b:Addr} {ns ms:cL} (F:Int->Int->Int) (k:H a=some (.lst (~~~ns))) (o:H b=some (.lst (~~~ms))) (q:↑ns=↑ms) (z:↑ns<=1000)
  (r:∀ x y,x∈ns->y∈ms->∀ (c:Hp) (P:VK),Same H c->P (.int (F x y)) c->e (((CU capt f).set 0 (some (.int x))).set 1 (some (.int y))) c P) (u:∀ (p:Addr) (c:Hp),Same H c->c p=none->Q (.ref p) (upd c p (.lst ((List.zipWith F ns ms).map V.int)))) :
  CompJ (aR K a b) capt (CZ 2 (A8 (AF 0) (A8 (AF 1) CY))) e f Q H:=by
 let v:(List.zipWith F ns ms).length=↑ns:=by rw [List.length_zipWith];omega
 refine CompJ.zip (xs:=ns.map V.int) (ys:=ms.map V.int) (by rw [AI,AI,q]) (λi d c=>i<=↑ns/\Same H c/\d=((List.zipWith F ns ms).take i).map V.int) ⟨AX _,Same.refl H,rfl⟩ ?_ ?_ ?_
 ·rintro i d c ⟨g,s,rfl⟩;refine ⟨by rw [AI];exact g,sz ?_,SqL.of (s _ _ k),SqL.of (s _ _ o)⟩;rw [AI,BC];omega
 ·rintro i x y d c p h j ⟨g,s,rfl⟩ hp;rw [Ac] at h j;let ⟨m,em,rfl⟩:=Option.map_eq_some_iff.mp h;let ⟨n,en,rfl⟩:=Option.map_eq_some_iff.mp j;let w:(List.zipWith F ns ms)[i]?=some (F m n):=by rw [List.getElem?_zipWith,em,en]
  refine ⟨p,_,rfl,upd_same,rfl,_,_,rfl,_,_,rfl,rfl,?_⟩;refine r m n (A5 em) (A5 en) _ _ (Jo s hp _) ?_;refine ⟨?_,Jo s hp _,?_⟩
  ·have:=(Ax.mp em).1;omega
  ·rw [Ed V.int w]
 ·rintro d c ⟨_,s,rfl⟩ p hp;rw [AI,<-v,B4];exact u p c s hp
theorem Sg (f:cY):∀ a:cL,(∀ i,i<↑a->f i=co a.reverse i)->a.reverse.sum=su ↑a f
 | [],_=>rfl
 | x::a,h=>by
   rw [List.reverse_cons] at h ⊢;rw [List.sum_append];show _=su ↑a f+f ↑a;let c:=h ↑a (Ch _);rw [Sg f a λi b=>?_,c]
   ·unfold co;rw [AJ,De (by rw [List.length_reverse];exact AV _),List.length_reverse,EV];simp
   ·rw [h i (Nat.lt_succ_of_lt b)];unfold co;rw [AJ,D8 (by rw [List.length_reverse];exact b),AJ]
def xD (f:cY) (ns:cL) (h:∀ i,i<↑ns->f i=co ns i):ns.sum=su ↑ns f:=by
 have:=Sg f ns.reverse (by rw [List.length_reverse,List.reverse_reverse];exact h);rwa [List.reverse_reverse,List.length_reverse] at this
def HH {K:W.Frag} {e:TA} {capt:List (Option Nat)} {g:TG} {f:TE} {c:L2.St} {H:Hp} {Q:VK} (h:e c H (λvs d=>∃ a b,vs=[.ref a,.ref b]/\(∃ i,SqL K d a i)/\(∃ j,SqL K d b j)/\CompJ (aR K a b) capt g f c Q d)):At (Dx K e) capt g f c H Q:=h
def MH {F:Int->Int->Int} {ns ms:cL} {i:Nat} (a:i<↑ns) (b:i<↑ms):co (List.zipWith F ns ms) i=F (co ns i) (co ms i):=by
 unfold co;rw [AJ,List.getElem?_zipWith,AT a,AT b,AJ,AT a,AJ,AT b];rfl
def xE (h:GQ K vs H Q E):Yt K (eA Q) (L2.start ["row","other"] vs) H:=by
 let ⟨a,b,d,e,n,rfl,f,g,r,u,v,bn,j,k⟩:=h;refine Bb (Bg (HH ⟨_,rfl,_,rfl,a,b,rfl,⟨_,SqL.of f⟩,⟨_,SqL.of g⟩,MG (·*·) f g ⋯ ⋯ (λx y m o c P s p=>⟨_,rfl,_,rfl,_,_,rfl,rfl,B8 (bn x m) (j y o),p⟩) λp c s hp=>⟨p,_,rfl,upd_same,?_⟩⟩))
 rw [xD (λi=>co d i*co e i) _ λi q=>by
  rw [List.length_zipWith] at q;exact (MH ⋯ ⋯).symm,List.length_zipWith,show min ↑d ↑e=n by omega]
 exact k _ (Jo s hp _)
def MI {a b:Nat} (h:a<=b):2 ^ a<=2 ^ b:=Fs ∅ h
def xF (h:LQ K vs H Q E):Yq K (eA Q) (L2.start ["whole","divisor"] vs) H:=by
 let ⟨n,rfl,v,k⟩:=h;let i:(2:Nat) ^ 45001=2 ^ 45000*2:=Bx 2 45000;let j:(2:Nat) ^ 2<=2 ^ 45000:=MI ∅;refine DE (λm r g=>∃ d:Nat,r=[some (.int (n:Int)),some (.int (d:Int))]/\g=H/\2<=d/\m=n+2 - d/\d<=n+2/\∀ e,2<=e->e<d->¬ e∣n) n ⟨2,rfl,rfl,⋯,⋯,⋯,λe C D=>by omega⟩ ?_;rintro m r g ⟨d,rfl,rfl,w,rfl,F,o⟩
 let u:Bd 45001 (d:Int):=by
  unfold Bd;rw [Ds,i];generalize (2:Nat) ^ 45000=Z at *;omega
 clear i j v;refine ⟨_,rfl,_,rfl,_,_,rfl,rfl,B8 u u,_,rfl,_,_,rfl,rfl,_,rfl,Aj (λc=>?_) (λc=>?_)⟩
 ·let c:=pE c;let x:d*d<=n:=by exact_mod_cast c
  let dl:d<n:=by
   have:d*2<=d*d:=E3 d w;omega
  refine ⟨_,λ_ _ h=>h,?_⟩;refine ⟨_,rfl,_,rfl,_,_,rfl,rfl,⋯,rfl,_,rfl,Aj (λz=>?_) (λz=>?_)⟩
  ·refine k false ⟨(λz=>by cases z),λhp=>?_⟩;let z:(n:Int) % (d:Int)=0:=by simpa using z
   let A:d∣n:=Dt.mp (Int.dvd_of_emod_eq_zero z);rcases hp.div d A with y | y <;> omega
  ·let z:¬ (n:Int) % (d:Int)=0:=by simpa using z
   refine ⟨_,rfl,_,_,rfl,rfl,?_⟩;refine ⟨n+2 - (d+1),⋯,d+1,rfl,rfl,⋯,rfl,⋯,λe j B a=>?_⟩;rcases Ej.mp B with y | y
   ·exact o e j y a
   ·rw [y] at a;exact z (Int.emod_eq_zero_of_dvd (Dt.mpr a))
 ·let c:¬ (d:Int)*(d:Int)<=(n:Int):=λy=>c (pC y)
  let x:n<d*d:=by have:(n:Int)<((d*d:Nat):Int):=by push_cast;omega
                  omega
  refine ⟨_,rfl,_,_,rfl,rfl,k _ ?_⟩;constructor
  ·intro y;let G:1<(n:Int):=pE y;refine ⟨⋯,λe a=>?_⟩;let ⟨f,b⟩:=a;by_cases i:e=1
   ·exact .inl i
   by_cases en:e=n
   ·exact .inr en
   exfalso;let I:e≠0:=λz=>by rw [z] at b;omega
   let J:f≠0:=λz=>by rw [z] at b;omega
   let L:f≠1:=λz=>by rw [z] at b;omega
   rcases EB e d with p | p
   ·exact o e ⋯ p ⟨f,b⟩
   ·rcases EB f d with q | q
    ·exact o f ⋯ q ⟨e,by rw [b,Df]⟩
    ·have:=Nat.mul_le_mul p q;omega
  ·intro y;have:=y.two;exact pC ⋯
theorem xG (h:LR K vs H Q E):Yr K (eA Q) (L2.start ["whole","found"] vs) H:=by
 let ⟨n,g,rfl,o,q,e,k⟩:=h;refine ⟨_,rfl,_,_,rfl,rfl,?_⟩;refine DE (λm f a=>∃ d:Nat,f=[some (.int (n:Int)),some (.int (d:Int))]/\a=H/\n<d/\d<=g/\m=g - d) (g - (n+1)) ⟨n+1,rfl,rfl,⋯,⋯,rfl⟩ ?_;rintro m f a ⟨d,rfl,rfl,p,i,rfl⟩;refine CL ⟨_,rfl,d,rfl,Eh i e,λb j=>⟨_,rfl,?_⟩⟩;clear e;cases b with
 | true=>
   show (if (!true)=true then _ else _);refine Aj (λc=>by cases c) (λ_=>?_);exact ⟨_,rfl,k d (j.mp rfl) p i⟩
 | false=>
   refine Aj (λ_=>?_) (λc=>absurd rfl c);let r:d≠g:=λz=>by have:=j.mpr (z ▸ o);cases this
   refine ⟨_,λ_ _ h=>h,?_⟩;exact ⟨_,rfl,_,_,rfl,rfl,g - (d+1),⋯,d+1,rfl,rfl,⋯,⋯,rfl⟩
def xH:Pr b8:=Oe (n:=29) (r:=9) (k:=10) (j:=2) rfl (by decide +kernel)
def xJ (h:JW K vs H Q E):Ys K (eA Q) (L2.start ["prime"] vs) H:=by
 let ⟨n,g,rfl,d,f,i,a,k⟩:=h;let e:(CA:Int)=170141183460469231731687303715884105727:=by decide
 refine ⟨_,rfl,rfl,_,rfl,Aj (λc=>?_) (λc=>?_)⟩
 ·let c:(n:Int)=170141183460469231731687303715884105727:=by simpa using c
  exact k b8 xH (.inl ⟨⋯,rfl⟩) a
 ·let c:¬ (n:Int)=170141183460469231731687303715884105727:=by simpa using c
  exact CL (AD rfl ⟨n,g,rfl,d,f.resolve_left ⋯,i,λp j m o=>k p j (.inr ⟨⋯,m⟩) o⟩)
def xK {a:Type} {xs:List a} {i j k:Nat} {x y:a} (d:xs[j]?=some x) (b:xs[i]?=some y) (e:i<↑xs) (c:j<↑xs) (hk:k<↑xs):((xs.set i x).set j y)[k]?=xs[tw i j k]?:=by
 rw [List.getElem?_set,C7,List.getElem?_set];unfold tw;by_cases q:k=j
 ·by_cases r:k=i
  ·rw [pB q.symm,pB c,pB r,<-q,r,b]
  ·rw [pB q.symm,pB c,qZ r,pB q,b]
 ·rw [qZ (λz=>q z.symm)];by_cases r:k=i
  ·rw [pB r.symm,pB e,pB r,d]
  ·rw [qZ (λz=>r z.symm),qZ r,qZ q]
def HI {n i:Nat} (h:i<n):Y_ n (i:Int)=some i:=by
 unfold Y_;rw [pB ⋯,pB ⋯];simp
def xL (h:JX K vs H Q E):Y1 K (eA Q) (L2.start ["row","one","other","result"] vs) H:=by
 let ⟨a,b,i,j,rfl,c,d,e,p,k⟩:=h;refine Ab (Bg (AD rfl ⟨a,b,rfl,c,λr f=>?_⟩));let g:a≠r:=As c f;let ⟨x,m⟩:∃ x,b[j]?=some x:=⟨_,AT e⟩;let ⟨y,n⟩:∃ y,b[i]?=some y:=⟨_,AT d⟩;refine GJ (AW (AD rfl (AD rfl (B7 (by rw [Aq g];exact c) (DD m) ?_))));refine ⟨_,rfl,_,rfl,r,b,_,i,rfl,rfl,upd_same,HI d,?_⟩;rw [Mo];refine GJ (AW (AD rfl (AD rfl (B7 (by rw [Aq g];exact c) (DD n) ?_))));refine ⟨_,rfl,_,rfl,r,_,_,j,rfl,rfl,upd_same,HI (by rw [C7];exact e),?_⟩;rw [Mo];exact Bb (AD rfl (k r _ f (by rw [C7,C7]) λk hk=>xK m n d e hk))
def Sh {D:Ends} {t:TS} {a:L2.St} {H:Hp} (h:t D a H):Bi { D with nx:=t D } a H:=h
def xM (h:JY K vs H Q E):Y2 K (eA Q) (L2.start ["row","lead","column","prime","weight"] vs) H:=by
 let ⟨a,b,d,G,n,c,p,rfl,e,g,v,I,J,L,m,w,rn,rm,k⟩:=h
 let A:(~~~d)[c]?=some (.int (co d c)):=by
  rw [Ac,AT ⋯];unfold co;rw [AJ,AT ⋯];rfl
 let C:co d c∈d:=by
  unfold co;rw [AJ,AT ⋯];exact Cn _
 refine Ab (AW (AD rfl (AD rfl (B7 e (DD A) ?_))));refine D1 (Bz (AW (AD rfl (G' ⟨rfl,_,rfl,Aj (λz=>?_) (λ_=>?_)⟩))))
 ·let z:co d c=0:=by simpa using z
  refine Bb (AD rfl (k a d H (Same.refl H) (.inl rfl) e v rn λj D=>?_));rw [z,show Zm.of p 0=0 from rfl];ext
 ·refine Sh (Bb (HH ⟨_,rfl,_,rfl,a,b,rfl,⟨_,SqL.of e⟩,⟨_,SqL.of g⟩,MG (λx y=>(x - co d c*y) % p) e g ⋯ ⋯ (λx y M F f P s q=>?_) λr f s o=>?_⟩))
  ·let B:∀ z,0<=z/\z<p->Bd 45000 z:=λz u=>w.le ⋯;exact ⟨_,rfl,_,rfl,_,rfl,_,_,rfl,rfl,B8 (B _ (rn _ C)) (B _ (rm y F)),_,_,rfl,rfl,_,rfl,_,_,rfl,rfl,m,q⟩
  ·refine k r _ _ (Jo s o _) (.inr (s.free o)) upd_same (by rw [List.length_zipWith];omega) (λz u=>?_) λj D=>?_
   ·let ⟨i,N,rfl⟩:=DY.mp u;rw [List.getElem_zipWith];exact ⟨CO _ ⋯,CW _ m⟩
   ·rw [MH ⋯ ⋯,Zm.of_mod,Zm.of_sub,Zm.of_mul]
noncomputable def rm (H:Hp) (c:Addr):Hp:=λb=>if b=c then none else H b
def D2 {H:Hp} {c:Addr}:Same (rm H c) H:=λb o h=>by
 unfold rm at h;by_cases q:b=c
 ·rw [pB q] at h;cases h
 ·rwa [qZ q] at h
def Fo {H:Hp} {b c:Addr} {o:HO} (n:b≠c) (h:H b=some o):rm H c b=some o:=by unfold rm;rw [qZ n];exact h
def Fp {H a:Hp} (c:Addr) (s:Same H a):Same (rm H c) (rm a c):=λb o h=>by
 unfold rm at h ⊢;by_cases q:b=c
 ·rw [pB q] at h;cases h
 ·rw [qZ q] at h ⊢;exact s b o h
def II {H:Hp} {c:Addr} {o:HO}:Same (rm H c) (rm (upd H c o) c):=λb u h=>by
 unfold rm at h ⊢;by_cases q:b=c
 ·rw [pB q] at h;cases h
 ·rw [qZ q] at h ⊢;rw [Aq q];exact h
theorem SDs.mk {H:Hp}:∀ {xs:cJ} {b:List (cL)},↑xs=↑b->(∀ (i:Nat) r,b[i]?=some r->∃ a,xs[i]?=↥a/\H a=some (.lst (~~~r)))->SDs H xs b
 | [],[],_,_=>trivial
 | x::xs,r::b,h,k=>by
   let ⟨a,e,q⟩:=k 0 r rfl;cases pL e;exact ⟨⟨a,rfl,q⟩,SDs.mk (Nat.succ.inj h) λi r c=>k (i+1) r (by simpa using c)⟩
 | [],_::_,h,_=>nomatch h
 | _::_,[],h,_=>nomatch h
def SDs.at {H:Hp} {xs:cJ} {b:List (cL)} (h:SDs H xs b) {i:Nat} (d:i<↑b):∃ a,xs[i]?=↥a/\H a=some (.lst ((b.getD i []).map V.int)):=by
 let c:i<↑xs:=by rw [↑h];exact d
 let ⟨a,r,e,f,g⟩:=h.get (AT c);refine ⟨a,by rw [AT c,e],?_⟩;rw [AJ,f];exact g
def Rect.row {L:List (cL)} {n w i:Nat} (R:Rect L n w) (h:i<n):L.getD i []∈L/\(L.getD i []).length=w:=by
 let a:i<↑L:=by rw [R.1];exact h
 let m:L.getD i []∈L:=by rw [AJ,AT a];exact Cn a
 exact ⟨m,R.2 _ m⟩
def CM {ns:cL} {i:Nat} (h:i<↑ns):co ns i∈ns:=by
 unfold co;rw [AJ,AT h];exact Cn h
def Dm {ns:cL} {i:Nat} (h:i<↑ns):(~~~ns)[i]?=some (.int (co ns i)):=by
 rw [Ac,AT h];unfold co;rw [AJ,AT h];rfl
def Rect.en_mem {L:List (cL)} {n w i j:Nat} (R:Rect L n w) (h:i<n) (a:j<w):∃ r∈L,en L i j∈r:=⟨_,(R.row h).1,CM (by rw [(R.row h).2];exact a)⟩
def HJ {os:List Nat} {i:Nat} (h:i<↑os):(iN os)[i]?=some (.int (nth os i:Int)):=by
 unfold iN nth;rw [Ac,AT h,AJ,AT h];rfl
def CN (os:List Nat):(iN os).length=↑os:=by unfold iN;rw [AI]
def D3 {a:Type} (f:Nat->a) (d:a) {n i:Nat} (h:i<n):((List.range n).map f).getD i d=f i:=by
 rw [AJ,Ac,Cp h];rfl
def Ce {os:List Nat} {i:Nat} (h:i<↑os):nth os i∈os:=by
 unfold nth;rw [AJ,AT h];exact Cn h
def xN {p:Nat} (a:Pr p) {x f:Int} (c:0<=x) (e:x<(p:Int)) (i:x≠0) (b:Int.gcd x (p:Int)=1->(p:Int)∣f*x - 1):Zm.of (p:Int) x*Zm.of (p:Int) f=1:=by
 let g:Int.gcd x (p:Int)=1:=by
  rcases a.div _ (Dt.mp (EA x (p:Int))) with q | q
  ·exact q
  ·let d:=FP x (p:Int);rw [q] at d;have:=Int.le_of_dvd ⋯ d;omega
 let h:=b g;rw [<-Zm.of_mul,show (1:Zm (p:Int))=Zm.of (p:Int) 1 from rfl,Zm.of_eq,Ci];exact h
structure RSm (H H':Hp) (L:List (cL)) (n w p i:Nat) (lf od cm:Addr) (LL:List (cL)) (ob cb:List Nat):Prop where
 s:Same H H'
 cn:H cm=none
 hl:SD (rm H' cm) lf LL
 ho:rm H' cm od=some (.lst (iN ob))
 hc:H' cm=some (.lst (iN cb))
 rc:Rect LL n w
 lo:↑ob=n
 ip:aA (p:Int) LL
 re:∃ u,RE n w (λi j=>Zm.of (p:Int) (en L i j)) i ↑cb (nth ob) (nth cb) u (λi j=>Zm.of (p:Int) (en LL i j))
def xO {K:W.Frag} {H:Hp} {Q:VK} {f:L2.St} {lf cm ld:Addr} {LL:List (cL)} {ls:cL} {n w p c:Nat} (F:f[2]?=some (↥lf)) (u:f[9]?=some (↥ld)) (v:f[5]?=some (some (.int (c:Int)))) (y:f[1]?=some (some (.int (p:Int))))
  (hl:SD (rm H cm) lf LL) (hc:∃ o,H cm=some o) (hd:H ld=some (.lst (~~~ls))) (R:Rect LL n w) (n1:n<=100) (w1:w<=100) (lw:↑ls=w) (cw:c<w) (p0:0<p) (bp:Bd 45000 (p:Int)) (ip:aA (p:Int) LL) (il:∀ z∈ls,0<=z/\z<(p:Int))
  (k:∀ (r:Addr) (ys:cJ) (b:List (cL)) (d:Hp),Same H d->d r=none->SDs (rm d cm) ys b->Rect b n w->aA (p:Int) b->(∀ t,t<n->∀ j,j<w->Zm.of (p:Int) (en b t j)=Zm.of (p:Int) (en LL t j) - Zm.of (p:Int) (en LL t c)*Zm.of (p:Int) (co ls j))->Q (.ref r) (upd d r (.lst ys))) :
  At (BL K (AA 2)) [none,some 9,some 5,some 1] (AF 0) (bN (JY K) (AB (AA 0) (AB (AA 1) (AB (AA 2) (AB (AA 3) AC))))) f H Q:=by
 let ⟨C,G,Y⟩:=hl;let a0:=↑Y;let m:=D2 _ _ G;let ⟨oc,I⟩:=hc;refine Cy (AD F ⟨lf,rfl,⟨_,SqL.of m⟩,CompJ.lst (xs:=C) (λi ys d=>i<=↑C/\Same H d/\∃ b:List (cL),SDs (rm d cm) ys b/\↑b=i/\(∀ r∈b,↑r=w)/\aA (p:Int) b/\∀ t,t<i->∀ j,j<w->Zm.of (p:Int) (en b t j)=Zm.of (p:Int) (en LL t j) - Zm.of (p:Int) (en LL t c)*Zm.of (p:Int) (co ls j)) ⟨AX _,Same.refl H,[],trivial,rfl,(λ_ h=>nomatch h),(λ_ h=>nomatch h),λt h=>absurd h (BD t)⟩ ?_ ?_ ?_⟩)
 ·rintro i ys d ⟨Z,s,b,A,B,_⟩;refine ⟨Z,sz ?_,SqL.of (s _ _ m)⟩;rw [↑A,B,<-R.1.symm.symm] at *;have:=R.1;omega
 ·rintro i x ys d hx ⟨Z,s,b,A,B,rw',J,L⟩;let M:i<↑C:=(Ax.mp hx).1;let N:i<n:=by have:=R.1;omega
  let ⟨a,r,rfl,er,D⟩:=Y.get hx;let eg:LL.getD i []=r:=by rw [AJ,er];rfl
  let g:=R.row N;rw [eg] at g
  let O:a≠cm:=λz=>by
   unfold rm at D;rw [pB z] at D;cases D
  let b5:(CU [none,some 9,some 5,some 1] f)=[none,↥ld,some (.int (c:Int)),some (.int (p:Int))]:=by
   show [none,(f[9]?).join,(f[5]?).join,(f[1]?).join]=_;rw [u,v,y];rfl
  rw [b5];refine By (JL (AD rfl (AD rfl (AD rfl (AD rfl ⟨a,ld,r,ls,w,c,_,rfl,s _ _ (D2 _ _ D),s _ _ hd,g.2,lw,⋯,cw,⋯,bp,ip r g.1,il,λq rs H2 s2 hq P S T U=>?_⟩)))))
  let X:q≠cm:=by
   rcases hq with z | z
   ·rw [z];exact O
   ·exact (As (s _ _ I) z).symm
  refine ⟨M,s.trans s2,b++[rs],(A.tp (Fp cm s2)).snoc (Fo X P),by rw [B3,B];rfl,λr g=>?_,λr g=>?_,λt ht j hj=>?_⟩
  ·rcases DK.mp g with z | z
   ·exact rw' r z
   ·rw [BU.mp z];exact S
  ·rcases DK.mp g with z | z
   ·exact J r z
   ·rw [BU.mp z];exact T
  ·unfold en;by_cases z:t<i
   ·rw [AJ,D8 ⋯,<-AJ];exact L t z j hj
   ·let e:t=i:=by omega
    subst e;rw [AJ,De ⋯,B,EV];show Zm.of _ (co rs j)=_;rw [eg];exact U j hj
 ·rintro ys d ⟨_,s,b,A,B,rw',J,L⟩ r g;let e:↑C=n:=by have:=R.1;omega
  exact k r ys b d s g A ⟨⋯,rw'⟩ J λt ht=>L t ⋯
def CompF.range {capt:List (Option Nat)} {g:TG} {tc:TT} {f:TE} {j:L2.St} {H:Hp} {Q:VK} {lo:Int} {n:Nat} (W:Nat->cJ->Hp->Prop) (m:W 0 [] H) (d:∀ i a H,W i a H->i<=n/\↑a<=sizeLine)
  (o:∀ i a H,i<n->W i a H->g (.int (lo+i)) (CU capt j) H λc q=>tc c q λb k=>if b=true then f c k λy r=>W (i+1) (a++[y]) r else W (i+1) a k) (u:∀ a H,W n a H->∀ p,H p=none->Q (.ref p) (upd H p (.lst a))):CompF (Z_ lo n) capt g tc f j Q H:=by
 refine ⟨n,W,m,λi a H w=>⟨(d i a H w).1,(d i a H w).2,?_⟩⟩;by_cases h:i<n
 ·refine .inr ⟨h,h,λx v y=>?_⟩;let ⟨e,y⟩:=y;subst e y;exact o i a _ h w
 ·let e:i=n:=EQ (d i a H w).1 (Nat.not_lt.mp h);subst e;exact .inl ⟨AV _,u a H w⟩
def xP {b:TA} {capt:List (Option Nat)} {g:TG} {tc:TT} {c:TE} {a:L2.St} {H:Hp} {Q:VK} (h:b a H (λvs d=>∃ i j:Int,vs=[.int i,.int j]/\(-(2 ^ 62)<=i/\i<2 ^ 62/\-(2 ^ 62)<=j/\j<2 ^ 62)/\CompF (Z_ i (j - i).toNat) capt g tc c a Q d)):FC (HU b) capt g tc c a H Q:=h
def HK {c:TT} {t u:TS} {D:Ends} {a:L2.St} {H:Hp} (h:c a H λb d=>if b=true then t D a d else u D a d):BV c t u D a H:=h
def Si {a:TE} {b:L2.St} {H:Hp} {Q:Bool->Hp->Prop} (h:a b H λx c=>∃ p d,x=.ref p/\c p=some (.lst d)/\Q (!d.isEmpty) c):FA a b H Q:=h
def Jp (F:Int->Int) {ns:cL} {j:Nat} (h:j<↑ns):co (ns.map F) j=F (co ns j):=by
 unfold co;rw [AJ,Ac,AT h,AJ,AT h];rfl
def RSm.step {K:W.Frag} {H H':Hp} {L:List (cL)} {n w p i:Nat} {a lf od cm:Addr} {LL:List (cL)} {ob C:List Nat} {x6 x7 x8 x9:cK} {D:Ends} (I:RSm H H' L n w p i lf od cm LL ob C) (iw:i<w) (n1:n<=100) (w1:w<=100) (pp:Pr p) (bp:Bd 45000 (p:Int))
  (nx:∀ U lf od LL ob C x6 x7 x8 x9,RSm H U L n w p (i+1) lf od cm LL ob C->D.nx [↥a,some (.int (p:Int)),↥lf,↥od,↥cm,some (.int (i:Int)),x6,x7,x8,x9] U) :
  Pz K D [↥a,some (.int (p:Int)),↥lf,↥od,↥cm,some (.int (i:Int)),x6,x7,x8,x9] H':=by
 let p2:=pp.two;let ⟨s,cn,⟨ws,al,hS⟩,ho,X,R,lo,ip,u,re⟩:=I;let bt:=↑hS;let wn:↑ws=n:=by rw [bt,R.1]
 let M:=D2 _ _ al;let bw:=D2 _ _ ho;let dn:=re.dn;let di:↑C<=100:=by omega
 let ⟨d,hd⟩:∃ d,d=↑C:=⟨_,rfl⟩;rw [<-hd] at re dn;refine Ab (Fg (AD rfl (Fh X ?_)));rw [CN,<-hd];show Py K _ _ _;refine Ab (xP ⟨_,rfl,_,rfl,lf,ws,rfl,M,_,_,rfl,by rw [wn];omega,?_⟩);rw [wn,show ((n:Int) - (d:Int)).toNat=n - d by omega];refine CompF.range (λk S U=>k<=n - d/\U=H'/\∃ A:List Nat,S=iN A/\↑A<=k/\(∀ z∈A,d<=z/\z<n/\en LL z i≠0)/\(A=[]->∀ z,d<=z->z<d+k->en LL z i=0)) ⟨AX _,rfl,[],rfl,AV _,(λ_ h=>nomatch h),λ_ z h1 h2=>by omega⟩ ?_ ?_ ?_
 ·rintro k S U ⟨hk,rfl,A,rfl,ld,_⟩;exact ⟨hk,sz (by rw [CN];omega)⟩
 ·rintro k S U hk ⟨_,rfl,A,rfl,ld,h1,h2⟩;let ⟨ra,bz,c0⟩:=hS.at (i:=d+k) (by rw [R.1];omega);let g:=R.row (i:=d+k) ⋯;let ec:(((LL.getD (d+k) []).map V.int))[i]?=some (.int (en LL (d+k) i)):=Dm (by rw [g.2];exact iw);refine By (Bz (AW (AW (AW (AD rfl (AD rfl (B7 M (Ca (j:=d+k) ⋯ bz) (AD rfl (B7 (D2 _ _ c0) (DD ec) (G' ⟨rfl,_,rfl,Aj (λz=>?_) (λz=>?_)⟩))))))))))
  ·let z:en LL (d+k) i≠0:=by simpa using z
   refine ⟨_,rfl,⋯,rfl,A++[d+k],?_,by rw [B3];exact Nat.succ_le_succ ld,λy hy=>?_,λe=>by simp at e⟩
   ·unfold iN;rw [CP];show _++[V.int ((d:Int)+(k:Int))]=_++[V.int ((d+k:Nat):Int)];rw [Int.natCast_add]
   ·rcases DK.mp hy with q | q
    ·exact h1 y q
    ·rw [BU.mp q];exact ⟨⋯,⋯,z⟩
  ·let z:en LL (d+k) i=0:=by simpa using z
   refine ⟨⋯,rfl,A,rfl,⋯,h1,λe y y1 y2=>?_⟩;by_cases q:y=d+k
   ·rw [q];exact z
   ·exact h2 e y y1 ⋯
 rintro S U ⟨_,rfl,A,rfl,ld,h1,h2⟩ ch an;let cg:ch≠cm:=(As X an).symm;let T:=AM an (.lst (iN A));show Px K _ _ _;refine HK (Si (AD rfl ⟨ch,_,rfl,upd_same,Aj (λc=>?_) (λc=>?_)⟩))
 ·-- a pivot
  let ⟨k,m,rfl⟩:∃ k m,A=k::m:=by
   cases A with
   | nil=>cases c
   | cons k m=>exact ⟨k,m,rfl⟩
  let ⟨dk,kn,c1⟩:=h1 k (D6 ..);clear c h2;let ap:(iN (k::m))[0]?=some (.int (k:Int)):=rfl;generalize c2:upd U ch (.lst (iN (k::m)))=H3 at *;let a0:H3 ch=some (.lst (iN (k::m))):=by rw [<-c2];exact upd_same
  refine K1 (AD rfl (AD rfl (AW (AD rfl (G' (B7 a0 (Ca (j:=0) rfl ap) ⟨lf,ws,d,k,rfl,T _ _ M,⋯,⋯,⋯,λl2 S b0 ly ey=>?_⟩))))));let s2:=AM b0 (.lst S);let b1:l2≠cm:=(As (T _ _ X) b0).symm;generalize c3:upd H3 l2 (.lst S)=H4 at *;let N:H4 l2=some (.lst S):=by rw [<-c3];exact upd_same
  show Pw K _ _ _;refine K1 (AD rfl (AD rfl (AW (AD rfl (G' (B7 (s2 _ _ a0) (Ca (j:=0) rfl ap) ⟨od,iN ob,d,k,rfl,s2 _ _ (T _ _ bw),by rw [CN];omega,by rw [CN];omega,by rw [CN];omega,λo2 zs b2 lz ez=>?_⟩))))));let s3:=AM b2 (.lst zs);let b3:o2≠cm:=(As (s2 _ _ (T _ _ X)) b2).symm;generalize c4:upd H4 o2 (.lst zs)=H5 at *;let a3:H5 o2=some (.lst zs):=by rw [<-c4];exact upd_same
  let a5:=(T.trans s2).trans s3;rw [CN] at lz ez
  let c5:zs=iN ((List.range n).map λt=>nth ob (tw d k t)):=by
   refine El λt=>?_;rcases EB t n with q | q
   ·rw [ez t ⋯,HJ (by rw [lo];exact Hn ⋯ ⋯ q),HJ (by simpa using q)];unfold nth;rw [D3 _ _ q]
   ·rw [BH ⋯,BH (by rw [CN];simpa using q)]
  let b4:SDs (rm H5 cm) S ((List.range n).map λt=>LL.getD (tw d k t) []):=SDs.mk (by rw [ly,wn];simp) λt r g=>by
   let q:t<n:=by
    have:=(Ax.mp g).1;simpa using this
   rw [Ac,Cp q] at g;let ⟨b,eb,F⟩:=hS.at (i:=tw d k t) (by rw [R.1];exact Hn ⋯ kn q);refine ⟨b,by rw [ey t ⋯,eb],?_⟩;cases g;exact Fp cm a5 _ _ F
  let e5:∀ t,t<n->∀ j,en ((List.range n).map λt=>LL.getD (tw d k t) []) t j=en LL (tw d k t) j:=λt B j=>by
   unfold en;rw [D3 _ _ B]
  let R5:Rect ((List.range n).map λt=>LL.getD (tw d k t) []) n w:=⟨by simp,λr g=>by
   let ⟨t,B,rfl⟩:=Ao.mp g;exact (R.row (Hn ⋯ kn (D5.mp B))).2⟩
  let a6:aA (p:Int) ((List.range n).map λt=>LL.getD (tw d k t) []):=λr g=>by
   let ⟨t,B,rfl⟩:=Ao.mp g;exact ip _ (R.row (Hn ⋯ kn (D5.mp B))).1
  generalize ci:((List.range n).map λt=>LL.getD (tw d k t) [])=L5 at *;show Ps K _ _ _;let ⟨rd,b5,a7⟩:=b4.at (i:=d) (by rw [R5.1];omega);let x:=R5.row (i:=d) ⋯;let ec:(((L5.getD d []).map V.int))[i]?=some (.int (en L5 d i)):=Dm (by rw [x.2];exact iw);let b6:en L5 d i=en LL k i:=by rw [e5 d ⋯,K9]
  let zi:=a6 _ x.1 _ (CM (i:=i) (by rw [x.2];exact iw));refine GI (AW (AW (AD rfl (AD rfl (B7 (s3 _ _ N) (DD b5) (AD rfl (B7 (D2 _ _ a7) (DD ec) (AD rfl ⟨_,_,rfl,⋯,bp,λf f0 f1 hf=>?_⟩))))))))
  let b7:Zm.of (p:Int) (en LL k i)*Zm.of (p:Int) f=1:=by
   rw [<-b6];exact xN pp zi.1 zi.2 (by show en L5 d i≠0;rw [b6];exact c1) hf
  show Pq K _ _ _;refine Ab (Cy (AW (AD rfl (AD rfl (B7 (s3 _ _ N) (DD b5) ⟨rd,rfl,⟨_,SqL.of (D2 _ _ a7)⟩,IG (λz=>z*f % (p:Int)) (D2 _ _ a7) (by rw [x.2];omega) (λz hz P hP=>?_) λld b9=>?_⟩)))))
  ·let zb:=a6 _ x.1 z hz;exact ⟨_,rfl,_,rfl,_,_,rfl,rfl,B8 (bp.le ⋯) (bp.le ⋯),_,rfl,_,_,rfl,rfl,⋯,hP⟩
  let s4:=AM b9 (.lst (((L5.getD d []).map λz=>z*f % (p:Int)).map V.int));let c6:ld≠cm:=(As (a5 _ _ X) b9).symm;let ⟨v,Y⟩:∃ v,v=(L5.getD d []).map λz=>z*f % (p:Int):=⟨_,rfl⟩;rw [<-Y] at s4 ⊢;let ba:↑v=w:=by rw [Y,AI];exact x.2
  let bb:∀ j,j<w->Zm.of (p:Int) (co v j)=Zm.of (p:Int) (en LL k j)*Zm.of (p:Int) f:=λj hj=>by
   let e:co v j=en L5 d j*f % (p:Int):=by
    rw [Y];exact Jp _ (by rw [x.2];exact hj)
   rw [e,Zm.of_mod,Zm.of_mul,e5 d ⋯,K9]
  let bc:∀ z∈v,0<=z/\z<(p:Int):=λz hz=>by
   rw [Y] at hz;let ⟨y,_,rfl⟩:=Ao.mp hz;exact ⟨CO _ ⋯,CW _ ⋯⟩
  generalize c7:upd H5 ld (.lst (~~~v))=H6 at *;let O:H6 ld=some (.lst (~~~v)):=by rw [<-c7];exact upd_same
  let bd:=a5.trans s4;show Pp K _ _ _;refine Ab (xO (lf:=l2) (cm:=cm) (ld:=ld) (LL:=L5) (ls:=v) (n:=n) (w:=w) (p:=p) (c:=i) rfl rfl rfl rfl ⟨S,Fo b1 (s4 _ _ (s3 _ _ N)),b4.tp (Fp cm s4)⟩ ⟨_,bd _ _ X⟩ O R5 n1 w1 ba iw ⋯ bp a6 bc λl3 G L6 H7 s5 J be R6 c9 e6=>?_);let Z:=bd.trans s5;let a4:l3≠cm:=(As (Z _ _ X) J).symm;let s6:=AM J (.lst G);generalize ca:upd H7 l3 (.lst G)=H8 at *;let bf:H8 l3=some (.lst G):=by rw [<-ca];exact upd_same
  let bg:ld≠l3:=As (s5 _ _ O) J;show Po K _ _ _;let ab:=↑be;refine GJ (AD rfl ⟨_,rfl,_,rfl,l3,G,_,d,rfl,rfl,bf,HI (by rw [ab,R6.1];omega),?_⟩);show Pn K _ _ _;let bk:H8 ld=some (.lst (~~~v)):=s6 _ _ (s5 _ _ O);let cc:H8 cm=some (.lst (iN C)):=s6 _ _ (Z _ _ X);generalize aj:upd H8 l3 (.lst (G.set d (.ref ld)))=H9 at *;let bl:H9 cm=some (.lst (iN C)):=by rw [<-aj,Aq a4.symm];exact cc
  refine ⟨_,rfl,.inl ⟨rfl,_,SqL.of bl⟩,_,rfl,cm,_,_,rfl,rfl,bl,sz (by rw [CN];omega),?_⟩;let k9:Kp l3 H8 H9:=by rw [<-aj];exact Kp.upd
  refine nx _ l3 o2 (L6.set d v) ((List.range n).map λt=>nth ob (tw d k t)) (C++[i]) _ _ _ _ ?_
  let cd:Same U H9:=by
   intro b o F;exact k9 b o (As (Z b o F) J) (s6 _ _ (Z b o F))
  let bm:iN C++[V.int (i:Int)]=iN (C++[i]):=by unfold iN;rw [CP];rfl
  rw [bm]
  let bq:∀ t,t<n->∀ j,en (L6.set d v) t j=if t=d then co v j else en L6 t j:=λt B j=>by
   unfold en;rw [AJ,List.getElem?_set];by_cases q:t=d
   ·rw [pB q.symm,pB (by rw [R6.1];omega),pB q];rfl
   ·rw [qZ (λz=>q z.symm),qZ q,<-AJ]
  refine ⟨λb o F=>?_,cn,⟨G.set d (.ref ld),?_,?_⟩,?_,upd_same,⟨by rw [C7];exact R6.1,λr g=>?_⟩,by simp,λr g=>?_,?_⟩
  ·rw [Aq (As F cn)];exact cd _ _ (s _ _ F)
  ·refine II _ _ (Fo a4 ?_);rw [<-aj];exact upd_same
  ·refine SDs.mk (by rw [C7,C7];exact ab) λt r g=>?_
   let tn:t<n:=by
    have:=(Ax.mp g).1;rw [C7,R6.1] at this;exact this
   rw [List.getElem?_set] at g ⊢;by_cases q:d=t
   ·rw [pB q,pB (by rw [R6.1];omega)] at g;rw [pB q,pB (by rw [ab,R6.1];omega)];cases g;exact ⟨ld,rfl,II _ _ (Fo c6 (k9 _ _ bg bk))⟩
   ·rw [qZ q] at g ⊢;let ⟨b,eb,F⟩:=be.at (i:=t) (by rw [R6.1];exact tn);refine ⟨b,eb,?_⟩;rw [AJ,g] at F
    let ce:b≠cm:=λz=>by
     unfold rm at F;rw [pB z] at F;cases F
    let bs:=D2 _ _ F;exact II _ _ (Fo ce (k9 _ _ (As bs J) (s6 _ _ bs)))
  ·have:=s6 _ _ (s5 _ _ (s4 _ _ a3));rw [c5] at this;exact II _ _ (Fo b3 (k9 _ _ (As (s5 _ _ (s4 _ _ a3)) J) this))
  ·rcases List.mem_or_eq_of_mem_set g with q | q
   ·exact R6.2 r q
   ·rw [q];exact ba
  ·rcases List.mem_or_eq_of_mem_set g with q | q
   ·exact c9 r q
   ·rw [q];exact bc
  ·rw [B3,<-hd]
   let cf:∀ t,t<d->nth (C++[i]) t=nth C t:=λt B=>by
    unfold nth;rw [AJ,D8 ⋯,<-AJ]
   refine re.step (k:=k) (y:=Zm.of (p:Int) f) iw dk kn b7 (λt B=>?_) cf ?_ (λj hj=>?_) (λt B q j hj=>?_)
   ·unfold nth;rw [D3 _ _ B]
   ·unfold nth;rw [AJ,De ⋯,<-hd,EV];rfl
   ·show Zm.of _ (en (L6.set d v) d j)=_;rw [bq d ⋯,pB rfl];exact bb j hj
   ·show Zm.of _ (en (L6.set d v) t j)=_;rw [bq t B,qZ q,e6 t B j hj,e5 t B,e5 t B,bb j hj]
 ·let e:A=[]:=by
   cases A with
   | nil=>rfl
   | cons k m=>exact absurd rfl c
  refine nx _ lf od LL ob C _ _ _ _ ⟨s.trans T,cn,⟨ws,Fp cm T _ _ al,hS.tp (Fp cm T)⟩,Fp cm T _ _ ho,T _ _ X,R,lo,ip,u,?_⟩;rw [<-hd];refine re.skip λt dt tn=>?_;rw [h2 e t dt ⋯];rfl
def xQ {H:Hp} {c:Addr} {o:HO} (h:H c=none):Same H (rm (upd H c o) c):=λb u a=>Fo (As a h) (AM h o b u a)
def Rect.nil {n w:Nat} {L:List (cL)} (R:Rect L n w) (h:n=0):L=[]:=GZ.mp (R.1.trans h)
def Sj {a:Addr} {L:List (cL)} {n w:Nat} {f:L2.St} {H:Hp} {Q:VK} (d:f[0]?=some (↥a)) (h:SD H a L) (R:Rect L n w) (o:n=0->Q (.int 0) H) (p:n≠0->Q (.int (w:Int)) H):ak (FA (AA 0)) (E_ BA (AB (A_ gL (AA 0) (bF 0)) AC)) (bF 0) f H Q:=by
 let ⟨g,k,m⟩:=h;let e:=↑m;refine Si (AD d ⟨a,g,rfl,k,Aj (λc=>?_) (λc=>?_)⟩)
 ·let q:n≠0:=λz=>by
   rw [R.nil z] at e;rw [GZ.mp e] at c;cases c
  let ⟨b,r,u⟩:=m.at (i:=0) (by rw [R.1];omega);refine Fg (AW (AD d (G' (B7 k (Ca (j:=0) rfl r) (Fh u ?_)))));rw [AI,(R.row (i:=0) ⋯).2];exact p q
 ·refine o (Classical.byContradiction λz=>c ?_);cases g with
  | nil=>have:0=↑L:=e;have:=R.1;omega
  | cons=>rfl
def RE.none {R:Type} [Lean.Grind.CommRing R] {w d:Nat} {a u l:Nat->Nat->R} {o c:Nat->Nat} (I:RE 0 w a 0 d o c u l):RE 0 w a w d o c u l:=by
 have:d=0:=by have:=I.dn;omega
 subst this;exact ⟨AV _,I.on,I.inj,λs h=>absurd h (BD s),I.cr,I.row,λi _ h=>absurd h (BD i),λs h=>absurd h (BD s),λi _ h=>absurd h (BD i),I.ech⟩
theorem SDs.take {H:Hp}:∀ {xs:cJ} {a:List (cL)} (n:Nat),SDs H xs a->SDs H (xs.take n) (a.take n)
 | [],[],n,_=>by simp [SDs]
 | _::_,_::_,0,_=>trivial
 | _::_,_::_,n+1,h=>⟨h.1,SDs.take n h.2⟩
 | [],_::_,_,h=>h.elim
 | _::_,[],_,h=>h.elim
def xR {os:List Nat} {d i:Nat} (h:i<d):nth (os.take d) i=nth os i:=by
 unfold nth;rw [AJ,List.getElem?_take,pB h,<-AJ]
def xS {L:List (cL)} {d i j:Nat} (h:i<d):en (L.take d) i j=en L i j:=by
 unfold en;rw [AJ,List.getElem?_take,pB h,<-AJ]
def xT (h:Ht K vs H Q E):Yz K { nx:=λ_ c=>Q .non c,rt:=Q } (L2.start ["rows","prime","left","order","columns","column","done","chosen","factor","lead"] vs) H:=by
 let ⟨a,L,n,w,p,rfl,hL,R,n1,w1,pp,bp,k⟩:=h;let p2:=pp.two;let ⟨D,ha,hS⟩:=hL;let F:=↑hS;let wn:↑D=n:=by rw [F,R.1]
 let ⟨g,B⟩:∃ g:List (cL),g=L.map λr=>r.map (·% (p:Int)):=⟨_,rfl⟩;refine Ab (Cy (AD rfl ⟨a,rfl,⟨_,SqL.of ha⟩,CompJ.lst (xs:=D) (λi N c=>i<=↑D/\Same H c/\SDs c N (g.take i)) ⟨AX _,Same.refl H,trivial⟩ ?_ ?_ ?_⟩))
 ·rintro i N c ⟨d,s,hR⟩;refine ⟨d,sz ?_,SqL.of (s _ _ ha)⟩;rw [↑hR,BC];omega
 ·rintro i x N c hx ⟨d,s,hR⟩;let an:i<↑D:=(Ax.mp hx).1;let ⟨b,r,rfl,er,hb⟩:=hS.get hx;let C:r∈L:=A5 er;refine By (Al (AD rfl (AD rfl ⟨b,r,_,rfl,s _ _ hb,⋯,by rw [R.2 r C];omega,λq hq=>?_⟩)));let G:=AM hq (.lst ((r.map (·% (p:Int))).map V.int));refine ⟨an,s.trans G,?_⟩;let e0:g[i]?=some (r.map (·% (p:Int))):=by rw [B,Ac,er];rfl
  let et:g.take (i+1)=g.take i++[r.map (·% (p:Int))]:=by rw [DW,e0];rfl
  rw [et];exact (hR.tp G).snoc upd_same
 rintro N H1 ⟨_,s1,hR⟩ m W;let e0:g.take ↑D=g:=by rw [F,show ↑L=↑g by rw [B,AI],B4]
 rw [e0] at hR;let G:=AM W (.lst N);generalize ap:upd H1 m (.lst N)=H2 at *;let a0:H2 m=some (.lst N):=by rw [<-ap];exact upd_same
 let a3:=s1.trans G;show QA K _ _ _;refine Ab (show KW _ _ _ _ from Fg (AD rfl (Fh (a3 _ _ ha) ⟨n,by rw [wn],⋯,λo b0=>?_⟩)));let s3:=AM b0 (.lst ((List.range n).map λi:Nat=>V.int (i:Int)));generalize b1:upd H2 o (.lst ((List.range n).map λi:Nat=>V.int (i:Int)))=H3 at *;let a4:H3 o=some (.lst (iN (List.range n))):=by rw [<-b1];exact upd_same
 show P9 K _ _ _;refine Ab (show A9 AC _ _ _ from ⟨AX _,λA X=>?_⟩);let s4:=AM X (.lst []);let a5:=a3.trans s3;let Y:=a5.trans s4;let cn:H A=none:=a5.free X;let r4:Same H3 (rm (upd H3 A (.lst [])) A):=xQ X;generalize b2:upd H3 A (.lst [])=H4 at *;let O:H4 A=some (.lst (iN [])):=by rw [<-b2];exact upd_same
 let R0:Rect g n w:=⟨by rw [B,AI];exact R.1,λr C=>by
  rw [B] at C;let ⟨r',h',rfl⟩:=Ao.mp C;rw [AI];exact R.2 r' h'⟩
 let a6:aA (p:Int) g:=λr C z hz=>by
  rw [B] at C;let ⟨r',h',rfl⟩:=Ao.mp C;let ⟨y,_,rfl⟩:=Ao.mp hz;exact ⟨CO _ ⋯,CW _ ⋯⟩
 let ez:∀ i,i<n->∀ j,j<w->Zm.of (p:Int) (en g i j)=Zm.of (p:Int) (en L i j):=λi d j hj=>by
  let e:en g i j=en L i j % (p:Int):=by
   let a7:i<↑L:=by rw [R.1];exact d
   let e1:g.getD i []=(L.getD i []).map (·% (p:Int)):=by
    rw [B,AJ,Ac,AT a7,AJ,AT a7];rfl
   show co (g.getD i []) j=co (L.getD i []) j % _;rw [e1];exact Jp _ (by rw [(R.row d).2];exact hj)
  rw [e,Zm.of_mod]
 let ab:∃ u,RE n w (λi j=>Zm.of (p:Int) (en L i j)) 0 0 (nth (List.range n)) (nth []) u (λi j=>Zm.of (p:Int) (en g i j)):=by
  let nr:∀ i,i<n->nth (List.range n) i=i:=λi d=>by
   unfold nth;rw [AJ,Cp d];rfl
  refine ⟨λ_ _=>0,AX _,λi d=>by rw [nr i d];exact d,λi j d hj e=>by rw [nr i d,nr j hj] at e;exact e,λs h=>absurd h (BD s),λs t _ h=>absurd h (BD t),λi h=>absurd h (BD i),λi _ d j hj=>?_,λs h=>absurd h (BD s),λ_ _ _ j h=>absurd h (BD j),λi h=>absurd h (BD i)⟩;show Zm.of _ (en g i j)=Zm.of _ (en L (nth (List.range n) i) j)+0;rw [nr i d,ez i d j hj];ext
 let I0:RSm H H4 L n w p 0 m o A g (List.range n) []:=⟨Y,cn,⟨N,r4 _ _ (s3 _ _ a0),(hR.tp (G.trans s3)).tp r4⟩,r4 _ _ a4,O,R0,Au,a6,ab⟩
 let aj:∀ c m o M v f x5 P S T U,RSm H c L n w p w m o A M v f->P0 K { nx:=λ_ c=>Q .non c,rt:=Q } [↥a,some (.int (p:Int)),↥m,↥o,↥A,x5,P,S,T,U] c:=by
  rintro c m o M v f x5 P S T U ⟨s,cn,⟨D,W,hS⟩,ho,hc,R',lo,ip,u,re⟩;let F:=↑hS;let dn:=re.dn;let al:=D2 _ _ W;let b3:=D2 _ _ ho;let b4:=hS.tp D2;refine Bb (Oj (AD rfl (Fg (AD rfl (Fh hc ⟨_,rfl,m,D,rfl,al,λl2 b5=>?_⟩)))));rw [CN,Gv (by rw [F,R'.1];exact dn)];let G:=AM b5 (.lst (D.take ↑f));refine AD rfl (Fg (AD rfl (Fh (G _ _ hc) ⟨_,rfl,o,_,rfl,G _ _ b3,λo2 b6=>?_⟩)));rw [CN,Gv (by rw [CN,lo];exact dn)];let s3:=AM b6 (.lst ((iN v).take ↑f));refine AD rfl ⟨K3,λr C=>?_⟩;let s4:=AM C (.tup [.ref l2,.ref o2,.ref A]);let st:Same c (upd (upd (upd c l2 (.lst (D.take ↑f))) o2 (.lst ((iN v).take ↑f))) r (.tup [.ref l2,.ref o2,.ref A])):=(G.trans s3).trans s4;let ol:(v.take ↑f).length=↑f:=by rw [BC];omega
  refine k r l2 o2 A (M.take ↑f) (v.take ↑f) f _ (s.trans st) upd_same ⟨D.take ↑f,s4 _ _ (s3 _ _ upd_same),((b4.take _).tp st)⟩ ?_ (st _ _ hc) ⟨⟨?_,λr C=>R'.2 r (Ek C)⟩,ol.symm,λr C=>ip r (Ek C),?_⟩
  ·have:iN (v.take ↑f)=(iN v).take ↑f:=by unfold iN;rw [List.map_take]
   rw [this];exact s4 _ _ upd_same
  ·rw [ol,BC,R'.1];omega
  ·rw [ol];exact ⟨nth v,nth f,u,_,re,λi d=>xR d,λi _=>rfl,λi d j hj=>by rw [xS d]⟩
 show P6 K _ _ _;refine (show Ay _ _ _ _ _ _ from Sj rfl (⟨D,Y _ _ ha,hS.tp Y⟩:SD H4 a L) R (λn0=>⟨0,rfl,∅,∅,?_⟩) (λn0=>⟨(w:Int),rfl,⋯,⋯,?_⟩))
 ·refine ForR.by (λi Z c=>i=0/\Z=[↥a,some (.int (p:Int)),↥m,↥o,↥A,none,none,none,none,none]/\c=H4) ⟨rfl,rfl,rfl⟩ (λi Z c d=>absurd d (BD i)) ?_;rintro Z c ⟨_,rfl,rfl⟩;let ⟨u,re⟩:=ab;refine aj _ _ _ _ _ _ _ _ _ _ _ ⟨I0.s,cn,I0.hl,I0.ho,O,R0,Au,a6,u,?_⟩;subst n0;exact re.none
 ·refine ForR.by (λi Z c=>∃ m o M v f x5 P S T U,Z=[↥a,some (.int (p:Int)),↥m,↥o,↥A,x5,P,S,T,U]/\RSm H c L n w p i m o A M v f) ⟨m,o,g,_,_,none,none,none,none,none,rfl,I0⟩ ?_ ?_
  ·rintro i Z c d ⟨m,o,M,v,f,x5,P,S,T,U,rfl,I⟩;let iw:i<w:=by omega
   refine By ?_;rw [show ((0:Int)+(i:Int))=(i:Int) by omega];exact I.step iw n1 w1 pp bp λH2 m o M v f P S T U J=>⟨m,o,M,v,f,_,P,S,T,U,rfl,J⟩
  ·rintro Z c ⟨m,o,M,v,f,x5,P,S,T,U,rfl,I⟩;exact aj _ _ _ _ _ _ _ _ _ _ _ I
def xU (h:Hu K vs H Q E):ZH K (eA Q) (L2.start ["sides"] vs) H:=by
 let ⟨a,L,n,w,rfl,c,R,z,k⟩:=h;refine Bb (Sj rfl c R (λd=>?_) (λ_=>k));have:=z d;subst this;exact k
def xV (h:Hv K vs H Q E):ZI K (eA Q) (L2.start ["row","places"] vs) H:=by
 let ⟨a,b,d,ps,rfl,o,m,hp,u,k⟩:=h;refine Bb (Cy (AD rfl ⟨b,rfl,⟨_,SqL.of m⟩,CompJ.lst (xs:=iN ps) (λi g f=>i<=↑ps/\f=H/\g=((ps.map (co d)).take i).map V.int) ⟨AX _,rfl,rfl⟩ ?_ ?_ ?_⟩))
 ·rintro i g f ⟨n,rfl,rfl⟩;refine ⟨by rw [CN];exact n,sz ?_,SqL.of m⟩;rw [AI,BC];omega
 ·rintro i x g f j ⟨n,rfl,rfl⟩;let c:i<↑ps:=by have:=(Ax.mp j).1;rw [CN] at this;exact this
  rw [HJ c] at j;cases j;let p:nth ps i<↑d:=hp _ (Ce c);refine By (AW (AD rfl (AD rfl (B7 o (DD (Dm p)) ⟨c,rfl,?_⟩))))
  let e:(ps.map (co d))[i]?=some (co d (nth ps i)):=by
   unfold nth;rw [Ac,AT c,AJ,AT c];rfl
  rw [Ed V.int e]
 ·rintro g f ⟨_,rfl,rfl⟩ r q;let e:(ps.map (co d)).take (iN ps).length=ps.map (co d):=by rw [CN,show ↑ps=(ps.map (co d)).length by rw [AI],B4]
  rw [e];exact k r q
def Jq {a:cL} {i j:Nat} {z:Int} (h:i<↑a):co (a.set i z) j=if j=i then z else co a j:=by
 unfold co;rw [AJ,List.getElem?_set];by_cases q:j=i
 ·rw [pB q.symm,pB h,pB q];rfl
 ·rw [qZ (λz=>q z.symm),qZ q,AJ]
def IJ {ps:List Nat} (h:ps.Nodup) {i j:Nat} (a:i<↑ps) (b:j<↑ps) (e:nth ps i=nth ps j):i=j:=by
 unfold nth at e;rw [AJ,AT a,AJ,AT b] at e;exact (List.getElem_inj h).mp e
def Sk (w j:Nat):co (List.replicate w (0:Int)) j=0:=by
 unfold co;rw [AJ,Do];split <;> rfl
def xW (h:G0 K vs H Q E):ZJ K (eA Q) (L2.start ["places","wholes","width","result","place","whole"] vs) H:=by
 let ⟨a,b,ps,n,w,rfl,L,p,S,hp,T,w1,k⟩:=h;refine Ab (AW (DH (G' ⟨Cb,λt F=>AD rfl ⟨t,_,_,rfl,rfl,upd_same,⋯,⋯,?_,λr M=>?_⟩⟩)))
 ·rw [CB,show [V.int 0].length=1 from rfl,Nat.one_mul];exact sz ⋯
 rw [CB,Er];let N:=AM F (.lst [.int 0]);let U:=AM M (.lst (List.replicate w (V.int 0)));let g:=N.trans U;let rn:H r=none:=N.free M;generalize G:upd (upd H t (.lst [.int 0])) r (.lst (List.replicate w (V.int 0)))=W at *;let I:W r=some (.lst ((List.replicate w (0:Int)).map V.int)):=by rw [List.map_replicate,<-G];exact upd_same
 let X:(iN ps).length=(~~~n).length:=by rw [CN,AI,S]
 refine (show Ay (Dx K _) _ _ _ _ _ from ⟨_,rfl,_,rfl,a,b,rfl,⟨_,SqL.of (g _ _ L)⟩,⟨_,SqL.of (g _ _ p)⟩,ForJ.zip (xs:=iN ps) (ys:=n.map V.int) X (λi u f=>i<=↑ps/\∃ (c:cL) (v A:cK),u=[↥a,↥b,some (.int (w:Int)),↥r,v,A]/\Same H f/\f r=some (.lst (~~~c))/\↑c=w/\(∀ t,t<i->co c (nth ps t)=co n t)/\(∀ j,(∀ t,t<i->nth ps t≠j)->co c j=0))
  ⟨AX _,List.replicate w 0,none,none,rfl,g,I,FN,λt h=>absurd h (BD t),λj _=>Sk w j⟩ ?_ ?_ ?_⟩)
 ·rintro i u f _ ⟨_,c,v,A,rfl,s,_⟩;exact ⟨s _ _ L,s _ _ p⟩
 ·rintro i x y q u f J O ⟨_,c,v,A,rfl,s,m,B,C,D⟩ Y;let d:i<↑ps:=by have:=(Ax.mp J).1;rw [CN] at this;exact this
  rw [HJ d] at J;rw [Dm ⋯] at O;cases J;cases O;let P:=AM Y (.tup [V.int (nth ps i:Int),.int (co n i)]);let Z:nth ps i<w:=hp _ (Ce d);refine ⟨q,_,rfl,upd_same,rfl,_,_,rfl,_,_,rfl,rfl,?_⟩;refine ⟨_,rfl,_,rfl,_,rfl,r,_,_,nth ps i,rfl,rfl,P _ _ m,HI (by rw [AI,B];exact Z),?_⟩;refine ⟨d,c.set (nth ps i) (co n i),_,_,rfl,?_,by rw [List.map_set];exact upd_same,by rw [C7];exact B,λt F=>?_,λj R=>?_⟩
  ·exact λb o p=>by rw [Aq (As p rn)];exact P _ _ (s b o p)
  ·rw [Jq ⋯];by_cases e:t=i
   ·rw [e,pB rfl]
   ·rw [qZ λz=>e (IJ T ⋯ d z)];exact C t ⋯
  ·rw [Jq ⋯,qZ λz=>R i ⋯ z.symm];exact D j λt F=>R t ⋯
 ·rintro u f ⟨_,c,v,A,rfl,s,m,B,C,D⟩;rw [CN] at C D;exact Bb (AD rfl (k r c f s rn m B C D))
def xY (h:Hw K vs H Q E):ZK K (eA Q) (L2.start ["wholes","bottom"] vs) H:=by
 let ⟨a,c,b,rfl,p,B,w,k⟩:=h;refine Bb (Bg (Cy (AD rfl ⟨a,rfl,⟨_,SqL.of p⟩,CompJ.lst (xs:=c.map V.int) (λi f g=>i<=↑c/\Same H g/\Nums g f ((c.map λz=>Ae z b).take i)) ⟨AX _,Same.refl H,trivial⟩ ?_ ?_ ?_⟩)))
 ·rintro i f g ⟨u,s,j⟩;refine ⟨by rw [AI];exact u,sz ?_,SqL.of (s _ _ p)⟩;rw [↑j,BC];omega
 ·rintro i x f g n ⟨u,s,j⟩;let d:i<↑c:=by have:=(Ax.mp n).1;rw [AI] at this;exact this
  rw [Dm d] at n;cases n;refine By (Al (AD rfl (AD rfl ⟨_,b,rfl,w,λq o=>?_⟩)));let m:=AM o (.tup [.int (Ae (co c i) b).1,.int (Ae (co c i) b).2]);refine ⟨d,s.trans m,?_⟩
  let e:(c.map λz=>Ae z b)[i]?=some (Ae (co c i) b):=by
   unfold co;rw [Ac,AT d,AJ,AT d];rfl
  let y:(c.map λz=>Ae z b).take (i+1)=(c.map λz=>Ae z b).take i++[Ae (co c i) b]:=by rw [DW,e];rfl
  rw [y];exact (j.tp (D_ m)).append (Nums.one Ff)
 ·rintro f g ⟨_,s,j⟩ r A;let e:(c.map λz=>Ae z b).take (~~~c).length=c.map λz=>Ae z b:=by rw [show (~~~c).length=(c.map λz=>Ae z b).length by rw [AI,AI],B4]
  rw [e] at j;let m:=AM A (.lst f);refine ⟨r,f,rfl,upd_same,λq o=>?_⟩;let v:=AM o (.tup f);exact k q f _ ((s.trans m).trans v) upd_same (j.tp (D_ (m.trans v)))
def xZ (h:LS K vs H Q E):ZM K (eA Q) (L2.start ["rows","place"] vs) H:=by
 let ⟨a,L,n,w,j,rfl,⟨d,m,o⟩,R,B,v,k⟩:=h;let y:=↑o;let C:=R.1;refine Bb (Cy (AD rfl ⟨a,rfl,⟨_,SqL.of m⟩,CompJ.lst (xs:=d) (λi f c=>i<=↑d/\c=H/\f=((L.map λl=>co l j).take i).map V.int) ⟨AX _,rfl,rfl⟩ ?_ ?_ ?_⟩))
 ·rintro i f c ⟨p,rfl,rfl⟩;refine ⟨p,sz ?_,SqL.of m⟩;rw [AI,BC];omega
 ·rintro i x f c q ⟨p,rfl,rfl⟩;let g:i<↑d:=(Ax.mp q).1;let ⟨b,r,rfl,u,z⟩:=o.get q;refine By (AW (AD rfl (AD rfl (B7 z (DD (Dm (by rw [R.2 r (A5 u)];exact v))) ⟨g,rfl,?_⟩))));rw [Ed V.int (show (L.map λl=>co l j)[i]?=some (co r j) by rw [Ac,u];rfl)]
 ·rintro f c ⟨_,rfl,rfl⟩ r A;let e:(L.map λl=>co l j).take ↑d=L.map λl=>co l j:=by rw [y,show ↑L=(L.map λl=>co l j).length by rw [AI],B4]
  rw [e];exact k r A
def wA {b:TA} {capt:List (Option Nat)} {g:TG} {c:TE} {a:L2.St} {H:Hp} {Q:VK} (h:b a H (λvs d=>∃ j:Int,vs=[.int j]/\-(2 ^ 62)<=j/\j<2 ^ 62/\CompJ (Z_ 0 j.toNat) capt g c a Q d)):At (Cs b) capt g c a H Q:=h
def wB (h:JZ K vs H Q E):ZL K (eA Q) (L2.start ["rows"] vs) H:=by
 let ⟨a,L,n,w,rfl,A,R,z,B,G,k⟩:=h;let ⟨b,c⟩:∃ b:List (cL),b=(List.range w).map λj=>L.map λl=>co l j:=⟨_,rfl⟩;let p:↑b=w:=by rw [c,AI,Au]
 refine Bb (wA (CL (AD rfl ⟨a,L,n,w,rfl,A,R,z,(w:Int),rfl,⋯,⋯,?_⟩)));rw [CB];refine CompJ.range (λi g d=>i<=w/\Same H d/\SDs d g (b.take i)) ⟨AX _,Same.refl H,trivial⟩ ?_ ?_ ?_
 ·rintro i g d ⟨f,s,m⟩;refine ⟨f,sz ?_⟩;rw [↑m,BC];omega
 ·rintro i g d f ⟨_,s,m⟩;rw [show ((0:Int)+(i:Int))=(i:Int) by omega];refine By (Al (AD rfl (AD rfl ⟨a,L,n,w,i,rfl,A.tp s,R,B,f,λr o=>?_⟩)));let q:=AM o (.lst ((L.map λl=>co l i).map V.int));refine ⟨f,s.trans q,?_⟩;let e:b[i]?=some (L.map λl=>co l i):=by rw [c,Ac,Cp f];rfl
  let C:b.take (i+1)=b.take i++[L.map λl=>co l i]:=by rw [DW,e];rfl
  rw [C];exact (m.tp q).snoc upd_same
 ·rintro g d ⟨_,s,m⟩ r o;rw [show b.take w=b by rw [<-p,B4]] at m;let q:=AM o (.lst g);refine k r b _ (s.trans q) ⟨g,upd_same,m.tp q⟩ ⟨p,λl u=>?_⟩ (λi f j x=>?_) λP D l u y F=>?_
  ·rw [c] at u;let ⟨j,_,rfl⟩:=Ao.mp u;rw [AI];exact R.1
  ·let v:i<↑L:=by rw [R.1];exact f
   show co (b.getD j []) i=co (L.getD i []) j;rw [c,D3 _ _ x];unfold co;rw [AJ,Ac,AT v,AJ (l:=L),AT v];rfl
  ·rw [c] at u;let ⟨j,x,rfl⟩:=Ao.mp u;let ⟨r,o,rfl⟩:=Ao.mp F;exact D r o _ (CM (by rw [R.2 r o];exact D5.mp x))
def wC {K:W.Frag} {c:TA} {capt:List (Option Nat)} {g:TG} {d:TE} {b:L2.St} {H:Hp} {Q:VK} (h:c b H (λvs e=>∃ a,vs=[.ref a]/\(∃ f,SqL K e a f)/\CompJ (F9 K a) capt g d b Q e)):At (EI K c) capt g d b H Q:=h
def Pr.dom {p:Nat} (h:Pr p):Dom (Zm (p:Int)):=Zm.dom (by have:=h.two;omega) λa b c=>by
 by_cases q:p∣a.natAbs
 ·exact .inl (Int.dvd_natAbs.mp (Dt.mpr q))
 ·refine .inr (Int.dvd_natAbs.mp (Dt.mpr ?_));let g:=h.cop q;let d:p∣a.natAbs*b.natAbs:=by rw [<-CV];exact Dt.mp (Int.dvd_natAbs.mpr c)
  exact (Nat.Coprime.symm g).dvd_of_dvd_mul_left d
def Sl {q:Int} (i j:Nat):Zm.of q (dl i j)=dl i j:=by
 unfold dl;by_cases h:i=j
 ·rw [pB h,pB h];rfl
 ·rw [qZ h,qZ h];rfl
def zm_dvd {q:Int} {k:Nat} {f g:cY} {i j:Nat}:(q∣su k (λt=>f t*g t) - dl i j)↔su k (λt=>Zm.of q (f t)*Zm.of q (g t))=dl i j:=by
 rw [<-Zm.of_eq,Zm.of_su,Sl,AU (f:=λt=>Zm.of q (f t*g t)) (g:=λt=>Zm.of q (f t)*Zm.of q (g t)) k λt _=>Zm.of_mul _ _]
def wD {xs:cJ} {m:Nat} (h:m<=↑xs):Be xs (some (m:Int)) none=xs.drop m:=by
 unfold Be HT.sIx;simp only [CB];rw [qZ ⋯,Nat.min_eq_left h];exact List.take_of_length_le (by rw [List.length_drop];omega)
def IK {a b:cL} {j:Nat} (h:j<↑a):co (a++b) j=co a j:=by
 unfold co;rw [AJ,D8 h,AJ]
def IL {a b:cL} {j:Nat}:co (a++b) (↑a+j)=co b j:=by
 unfold co;rw [AJ,De ⋯,Nat.add_sub_cancel_left,AJ]
def wE {a:cL} {k j:Nat}:co (a.drop k) j=co a (k+j):=by
 unfold co;rw [AJ,List.getElem?_drop,AJ]
def Sm {c:Type} {a b:List c} {i:Nat} {d:c} (h:i<↑a):(a++b).getD i d=a.getD i d:=by
 rw [AJ,D8 h,AJ]
def Sn {c:Type} {a:List c} {b d:c}:(a++[b]).getD ↑a d=b:=by
 rw [AJ,De (AV _),EV];rfl
def wF (h:LU K vs H Q E):ZN K (eA Q) (L2.start ["rows","prime","many","beside"] vs) H:=by
 let ⟨a,M,k,p,W,rfl,hM,R,k1,pp,bp,hW,q⟩:=h;let p2:=pp.two;let ⟨ws,ha,hS⟩:=hM;let lw:=↑hS;let wk:↑ws=k:=by rw [lw,R.1]
 refine Ab (Fg (AD rfl (Fh ha ?_)));rw [wk];show Qi K _ _ _;refine Ab (wC ⟨_,rfl,a,rfl,⟨_,SqL.of ha⟩,CompJ.enumL (xs:=ws) (λi d g=>i<=↑ws/\Same H g/\∃ n:List (cL),SDs g d n/\↑n=i/\(∀ r∈n,↑r=k+k)/\∀ t,t<i->∀ j,j<k->en n t j=en M t j/\en n t (k+j)=dl t j) ⟨AX _,Same.refl H,[],trivial,rfl,(λ_ h=>nomatch h),λt h=>absurd h (BD t)⟩ ?_ ?_ ?_⟩)
 ·rintro i d g ⟨A,s,n,S,lB,_⟩;exact ⟨A,sz (by rw [↑S];omega),SqL.of (s _ _ ha)⟩
 ·rintro i x t d g hx ⟨A,s,n,S,lB,rB,eB⟩ ht;let I:i<↑ws:=(Ax.mp hx).1;let ⟨b,r,rfl,T,hb⟩:=hS.get hx;let eg:M.getD i []=r:=by rw [AJ,T];rfl
  let lr:=R.2 r (A5 T);let s2:=AM ht (.tup [.int (i:Int),.ref b]);refine ⟨t,_,rfl,upd_same,rfl,_,_,rfl,_,_,rfl,rfl,?_⟩;generalize U:upd g t (.tup [.int (i:Int),.ref b])=H2 at *;refine AW (AD rfl (DS (DH (AD rfl ⟨Cb,λc hc=>DH (G' ⟨Cb,λe he=>AD rfl ?_⟩)⟩))));let s3:=AM hc (.lst [V.int (i:Int)]);let F:=AM he (.lst [V.int 1]);refine ⟨c,e,[i],[1],k,rfl,F _ _ upd_same,upd_same,rfl,λz X=>by rw [BU.mp X];omega,(List.pairwise_singleton _ _),⋯,λu rs H5 s5 hu a4 a5 e1 e0=>?_⟩;let J:=((s2.trans s3).trans F).trans s5;refine ⟨b,u,_,_,rfl,rfl,J _ _ (s _ _ hb),a4,sz (by rw [AI,AI];omega),λv P=>?_⟩;let s6:=AM P (.lst (r.map V.int++rs.map V.int));refine ⟨I,(s.trans J).trans s6,n++[r++rs],(S.tp (J.trans s6)).snoc (by rw [CP];exact upd_same),by rw [B3,lB];rfl,λz X=>?_,λm hm j C=>?_⟩
  ·rcases DK.mp X with y | y
   ·exact rB z y
   ·rw [BU.mp y,B3,lr,a5]
  ·by_cases y:m<i
   ·unfold en;rw [Sm ⋯];exact eB m y j C
   ·let ye:m=↑n:=by omega
    unfold en;rw [ye,Sn,lB,eg];refine ⟨IK ⋯,?_⟩;rw [<-lr,IL];unfold dl;by_cases x:i=j
    ·rw [pB x,<-x];exact e1 0 Nat.one_pos
    ·rw [qZ x];refine e0 j λt ht=>?_;have:t=0:=by have:t<1:=ht;omega
     rw [this];exact x
 rintro d H1 ⟨_,s1,n,S,lB,rB,eB⟩ be a6;let s2:=AM a6 (.lst d);generalize U:upd H1 be (.lst d)=H2 at *;let Y:H2 be=some (.lst d):=by rw [<-U];exact upd_same
 show Qh K _ _ _;refine Bb (Cy (AW (Al (AD rfl (AD rfl ⟨be,n,k,k+k,p,rfl,⟨d,Y,S.tp s2⟩,⟨⋯,rB⟩,⋯,⋯,pp,bp,λr x y z f os cs H3 s3 L hx _ _ D=>G' (DI L (Wj _ _ _) ?_)⟩)))));let ⟨O,Z,a0⟩:=hx;let ⟨o,c,u,l,re,eo,ec,el⟩:=D.ri;let N:=re.inverse pp.dom (M:=λi j=>Zm.of (p:Int) (en M i j)) (W:=W) hW (λr L j C=>by show Zm.of _ (en n r j)=_;rw [(eB r ⋯ j C).1]) (λr L j C=>by show Zm.of _ (en n r (k+j))=_;rw [(eB r ⋯ j C).2,Sl]);let ⟨dk,N⟩:=N;let Rr:=D.rc;let ip:=D.ip;let a7:=↑a0;let ab:↑f=k:=Rr.1.trans dk;refine ⟨x,rfl,⟨_,SqL.of Z⟩,CompJ.lst (xs:=O) (λi d g=>i<=↑O/\Same H3 g/\SDs g d ((f.map λr=>r.drop k).take i)) ⟨AX _,Same.refl H3,trivial⟩ ?_ ?_ ?_⟩
 ·rintro i d g ⟨A,s,B⟩;exact ⟨A,sz (by rw [↑B,BC];omega),SqL.of (s _ _ Z)⟩
 ·rintro i v d g P ⟨A,s,B⟩;let I:i<↑O:=(Ax.mp P).1;let ⟨b,G,rfl,T,hb⟩:=a0.get P;let lr:=Rr.2 G (A5 T);refine By (show S_ sL _ _ _ _ _ _ from AD rfl (AD rfl ⟨_,rfl,b,_,rfl,s _ _ hb,λw hw=>?_⟩));rw [wD (by rw [AI];omega)];let F:=AM hw (.lst ((~~~G).drop k));refine ⟨I,s.trans F,?_⟩;let e:(f.map λr=>r.drop k)[i]?=some (G.drop k):=by rw [Ac,T];rfl
  let et:(f.map λr=>r.drop k).take (i+1)=(f.map λr=>r.drop k).take i++[G.drop k]:=by rw [DW,e];rfl
  rw [et];exact (B.tp F).snoc (by rw [List.map_drop];exact upd_same)
 ·rintro d g ⟨_,s,B⟩ v P;rw [show (f.map λr=>r.drop k).take ↑O=f.map λr=>r.drop k by rw [a7,show ↑f=(f.map λr=>r.drop k).length by rw [AI],B4]] at B;let F:=AM P (.lst d)
  let aj:∀ i,i<k->∀ j,en (f.map λr=>r.drop k) i j=en f i (k+j):=λi A j=>by
   let a3:i<↑f:=by omega
   unfold en;rw [AJ,Ac,AT a3,AJ (l:=f),AT a3];exact wE
  let tm:∀ i,i<k->∀ j,j<k->su k (λt=>Zm.of (p:Int) (en (f.map λr=>r.drop k) i t)*Zm.of (p:Int) (en M t j))=dl i j:=λi A j C=>by
   rw [<-N i A j C];exact AU k λt ht=>by rw [aj i A t,<-el i ⋯ (k+t) ⋯]
  refine q v _ _ (((s1.trans s2).trans s3).trans (s.trans F)) ⟨d,upd_same,B.tp F⟩ ⟨by rw [AI];exact ab,λr L=>?_⟩ (λr L z X=>?_) ⟨λi A j C=>zm_dvd.mpr (Ou pp.dom tm i A j C),λi A j C=>zm_dvd.mpr (tm i A j C)⟩
  ·let ⟨G,h',rfl⟩:=Ao.mp L;rw [List.length_drop,Rr.2 G h'];omega
  ·let ⟨G,h',rfl⟩:=Ao.mp L;exact ip G h' z (List.mem_of_mem_drop X)
def Jr {K:W.Frag} {d e:TE} {f:Str} {rest:TS} {D:Ends} {b:L2.St} {H:Hp} (h:e b H λy j=>d b j λx g=>∃ a C i c,x=.ref a/\g a=some (.ins C i c)/\Cls K C/\NoAttr K C f/\↑c<1000/\rest D b (upd g a (.ins C i (CD f y c)))):AH (Fz K d e f) rest D b H:=h
def Cm {K:W.Frag} {b:TE} {f:Str} {c:L2.St} {H:Hp} {Q:VK} (h:b c H λx d=>∃ a C g e v,x=.ref a/\d a=some (.ins C g e)/\Cls K C/\NoAttr K C f/\e.lookup f=some v/\Q v d):CS K b f c H Q:=h
def SD.kx {H d:Hp} {x a:Addr} {C n:Addr} {o:List (Str×V)} {L:List (cL)} (h:SD H a L) (p:H x=some (.ins C n o)) (k:Kp x H d):SD d a L:=by
 let e:∀ b f,H b=some (.lst f)->b≠x:=λb f c=>Fv c p (by intro z;cases z);let ⟨q,g,j⟩:=h;refine ⟨q,k _ _ (e _ _ g) g,SDs.mk ↑j λi r m=>?_⟩;let u:i<↑L:=(Ax.mp m).1;let ⟨b,v,c⟩:=j.at u;rw [AJ,m] at c;exact ⟨b,v,k _ _ (e _ _ c) c⟩
def Ef {os:List Nat} {z:Nat} (h:z∈os):∃ i,i<↑os/\nth os i=z:=by
 let ⟨i,a,rfl⟩:=DY.mp h;refine ⟨i,a,?_⟩;unfold nth;rw [AJ,AT a];rfl
def Eg {os:List Nat} {i:Nat} (h:i<↑os):os[i]=nth os i:=by
 unfold nth;rw [AJ,AT h];rfl
theorem IM (f:Str) (v:V):∀ a:List (Str×V),(CD f v a).length<=↑a+1
 | []=>AV _
 | (g,x)::r=>by
   unfold CD;by_cases h:g=f
   ·rw [pB h];show ↑r+1<=↑r+1+1;omega
   ·rw [qZ h];exact Nat.succ_le_succ (IM f v r)
def wG {K:W.Frag} (g:ClsOk K (B1 K)) {vs:cJ} {H:Hp} {Q:VK} {E:XK} (h:GR K vs H Q E):ZG K (eA Q) (L2.start ["self","sides","prime","reduced"] vs) H:=by
 let ⟨x,a,d,L,n,w,p,rfl,hx,hL,R,n1,w1,pp,bp,k⟩:=h;generalize B1 K=C at *;refine GI (AD rfl (AD rfl ⟨a,L,n,w,p,rfl,hL,R,⋯,⋯,pp,bp,λr l y z LL os I H1 s1 X hl hy hz D=>?_⟩));let Y:=s1 _ _ hx;let b1:=hL.tp s1;show Qg K _ _ _;refine Jr (AD rfl (AD rfl ⟨x,C,d,_,rfl,Y,g.cl,g.a1,∅,?_⟩));let ⟨f1,a3⟩:∃ f1,f1=CD "prime" (.int (p:Int)) []:=⟨_,rfl⟩;rw [<-a3];let bq:↑f1<=1:=by rw [a3];exact IM _ _ _
 let k2:Kp x H1 (upd H1 x (.ins C d f1)):=Kp.upd;let nl:∀ {b xs},H1 b=some (.lst xs)->b≠x:=λhb=>Fv hb Y (by intro z;cases z);let nt:∀ {b xs},H1 b=some (.tup xs)->b≠x:=λhb=>Fv hb Y (by intro z;cases z);generalize b2:upd H1 x (.ins C d f1)=H2 at *;let b3:H2 x=some (.ins C d f1):=by rw [<-b2];exact upd_same
 show Qf K _ _ _;refine Jr (AW (AD rfl (G' (DI (k2 _ _ (nt X) X) (Wk _ _ _) (AD rfl ⟨x,C,d,_,rfl,b3,g.cl,g.a2,⋯,?_⟩)))));let ⟨f2,Z⟩:∃ f2,f2=CD "lines" (.ref y) f1:=⟨_,rfl⟩;rw [<-Z];let bs:↑f2<=2:=by have:=IM "lines" (.ref y) f1;rw [Z];omega
 let k3:Kp x H2 (upd H2 x (.ins C d f2)):=Kp.upd;generalize b4:upd H2 x (.ins C d f2)=H3 at *;let b5:H3 x=some (.ins C d f2):=by rw [<-b4];exact upd_same
 let a6:=k2.trans k3;show Qe K _ _ _;refine Jr (AW (AD rfl (G' (DI (a6 _ _ (nt X) X) (Wl _ _ _) (AD rfl ⟨x,C,d,_,rfl,b5,g.cl,g.a3,⋯,?_⟩)))));let ⟨U,J⟩:∃ U,U=CD "columns" (.ref z) f2:=⟨_,rfl⟩;rw [<-J];let bt:↑U<=3:=by have:=IM "columns" (.ref z) f2;rw [J];omega
 let k4:Kp x H3 (upd H3 x (.ins C d U)):=Kp.upd;generalize b6:upd H3 x (.ins C d U)=H4 at *;let a4:H4 x=some (.ins C d U):=by rw [<-b6];exact upd_same
 let a0:=a6.trans k4;let a7:=a0 _ _ (nl hy) hy;let b7:=a0 _ _ (nl hz) hz;let b9:=b1.kx Y a0;let N:U.lookup ("lines" : Str)=↥y:=by rw [J,DA,qZ ∅,Z,DA,pB rfl]
 let O:U.lookup ("columns" : Str)=↥z:=by rw [J,DA,pB rfl]
 let ⟨o,c,u,l',re,eo,ec,el⟩:=D.ri;let lc:=D.lc;let dn:=re.dn;let on:∀ i,i<↑os->nth os i<n:=λi f=>by rw [eo i f];exact re.on i ⋯
 let cw:∀ i,i<↑os->nth I i<w:=λi f=>by rw [ec i f];exact re.cl i f
 let ⟨M,hM⟩:∃ M:List (cL),M=os.map λt=>I.map (co (L.getD t [])):=⟨_,rfl⟩;let lM:↑M=↑os:=by rw [hM,AI]
 show Qd K _ _ _;refine Jr (Cy (Cm (AD rfl ⟨x,C,d,_,_,rfl,a4,g.cl,g.a2,N,y,rfl,⟨_,SqL.of a7⟩,CompJ.lst (xs:=iN os) (λi ys H'=>i<=↑os/\Same H4 H'/\SDs H' ys (M.take i)) ⟨AX _,Same.refl H4,trivial⟩ ?_ ?_ ?_⟩)))
 ·rintro i ys H' ⟨f,s,hS⟩;exact ⟨by rw [CN];exact f,sz (by rw [↑hS,BC];omega),SqL.of (s _ _ a7)⟩
 ·rintro i v ys H' hv ⟨f,s,hS⟩;let B:i<↑os:=by have:=(Ax.mp hv).1;rw [CN] at this;exact this
  rw [HJ B] at hv;cases hv;let ⟨ws,ba,bb⟩:=b9;let ⟨b,eb,hb⟩:=bb.at (i:=nth os i) (by rw [R.1];exact on i B);let lr:=(R.row (on i B)).2;refine By (Al (AW (AD rfl (AD rfl (B7 (s _ _ ba) (DD eb) (Cm (AD rfl ⟨x,C,d,_,_,rfl,s _ _ a4,g.cl,g.a3,O,⟨b,z,_,I,rfl,s _ _ hb,s _ _ b7,λj A=>?_,⋯,λq hq=>?_⟩⟩)))))))
  ·let ⟨t,ht,rfl⟩:=Ef A;rw [lr];exact cw t ⋯
  ·let s2:=AM hq (.lst ((I.map (co (L.getD (nth os i) []))).map V.int));refine ⟨B,s.trans s2,?_⟩;let e:M[i]?=some (I.map (co (L.getD (nth os i) []))):=by rw [hM,Ac,AT B,Eg B];rfl
   let et:M.take (i+1)=M.take i++[I.map (co (L.getD (nth os i) []))]:=by rw [DW,e];rfl
   rw [et];exact (hS.tp s2).snoc upd_same
 rintro ys H5 ⟨_,s5,ab⟩ m hm;rw [show M.take (iN os).length=M by rw [CN,<-lM,B4]] at ab;let s6:=AM hm (.lst ys);generalize bc:upd H5 m (.lst ys)=H6 at *;let bd:H6 m=some (.lst ys):=by rw [<-bc];exact upd_same
 let aj:=s5.trans s6;let a5:=aj _ _ a4;let al:SD H6 m M:=⟨ys,bd,ab.tp s6⟩;refine AD rfl ⟨x,C,d,_,rfl,a5,g.cl,g.a4,⋯,?_⟩;let ⟨f4,F⟩:∃ f4,f4=CD "minor" (.ref m) U:=⟨_,rfl⟩;rw [<-F];let bw:↑f4<=4:=by have:=IM "minor" (.ref m) U;rw [F];omega
 let k7:Kp x H6 (upd H6 x (.ins C d f4)):=Kp.upd;generalize be:upd H6 x (.ins C d f4)=H7 at *;let an:H7 x=some (.ins C d f4):=by rw [<-be];exact upd_same
 let P:f4.lookup ("minor" : Str)=↥m:=by rw [F,DA,pB rfl]
 let bf:=al.kx a5 k7
 let RM:Rect M ↑os ↑os:=⟨lM,λr X=>by
  rw [hM] at X;let ⟨t,_,rfl⟩:=Ao.mp X;rw [AI];exact lc⟩
 let eM:∀ i,i<↑os->∀ s,s<↑os->en M i s=en L (nth os i) (nth I s):=λi f s hs=>by
  let e:M.getD i []=I.map (co (L.getD (nth os i) [])):=by rw [hM,AJ,Ac,AT f,Eg f];rfl
  let ap:s<↑I:=by omega
  unfold en;rw [e];show (I.map (co (L.getD (nth os i) []))).getD s 0=_;rw [AJ,Ac,AT ap,Eg ap];rfl
 show Qc K _ _ _;refine (show AQ _ _ _ _ _ _ _ from Al (Cm (AD rfl ⟨x,C,d,_,_,rfl,an,g.cl,g.a4,P,AD rfl ⟨m,M,↑os,p,u,rfl,bf,RM,⋯,pp,bp,λi f j A=>?_,λt T H8 s8 hT RT iT bg=>?_⟩⟩)))
 ·rw [<-re.minor (AV _) i f j A];exact AU _ λt ht=>by rw [eM t ht j A,eo t ht,ec j A]
 let b0:=s8 _ _ an;refine AD rfl ⟨x,C,d,_,rfl,b0,g.cl,g.a5,⋯,?_⟩;let ⟨f5,G⟩:∃ f5,f5=CD "turned" (.ref t) f4:=⟨_,rfl⟩;rw [<-G];let k9:Kp x H8 (upd H8 x (.ins C d f5)):=Kp.upd;generalize bk:upd H8 x (.ins C d f5)=H9 at *;let bl:H9 x=some (.ins C d f5):=by rw [<-bk];exact upd_same
 let S:Kp x H1 H9:=((a0.same aj).trans k7 |>.same s8).trans k9;let bm:Kp x H6 H9:=(k7.same s8).trans k9;refine k os I M T y z m t H9 (λb o nb hb=>S b o nb (s1 _ _ hb)) ⟨⟨d,f5,bl,⟨?_,?_,?_,?_,?_⟩⟩,S _ _ (nl hy) hy,S _ _ (nl hz) hz,al.kx a5 bm,hT.kx b0 k9,⟨lc,RM,RT,iT,bg,λi f=>?_,?_,λj A=>?_,?_,eM,λr X=>?_⟩⟩
 ·rw [G,DA,qZ ∅,F,DA,qZ ∅,J,DA,qZ ∅,Z,DA,qZ ∅,a3,DA,pB rfl]
 ·rw [G,DA,qZ ∅,F,DA,qZ ∅,N]
 ·rw [G,DA,qZ ∅,F,DA,qZ ∅,O]
 ·rw [G,DA,qZ ∅,P]
 ·rw [G,DA,pB rfl]
 ·let ⟨t,ht,rfl⟩:=Ef f;exact on t ht
 ·refine List.pairwise_iff_getElem.mpr λi j f A ij e=>?_;rw [Eg f,Eg A,eo i f,eo j A] at e;have:=re.inj i j ⋯ ⋯ e;omega
 ·let ⟨t,ht,rfl⟩:=Ef A;exact cw t ⋯
 ·refine List.pairwise_iff_getElem.mpr λi j f A ij=>?_;rw [Eg f,Eg A,ec i ⋯,ec j ⋯];exact re.cr i j ij ⋯
 ·let ⟨v,hv⟩:=re.span X;refine ⟨λt=>Classical.choose (Zm.sur (v t)),λj A=>?_⟩;rw [<-Zm.of_eq,Zm.of_su];refine (hv j A).trans (AU _ λt ht=>?_);rw [Zm.of_mul,Classical.choose_spec (Zm.sur (v t)),eo t ht]
def wH (i:Int):i.natAbs<2 ^ blN i:=by
 unfold blN;split
 ·rename_i h;rw [h];decide
 ·exact Nat.lt_log2_self
def So {i:Int} (h:i≠0):2 ^ (blN i - 1)<=i.natAbs/\1<=blN i:=by
 unfold blN;rw [qZ h,Nat.add_sub_cancel];exact ⟨Nat.log2_self_le ⋯,⋯⟩
def wI {b:Nat} {i:Int} (h:Bd b i):blN i<=b:=by
 by_cases z:i=0
 ·unfold blN;rw [pB z];exact AX _
 ·let c:=(So z).1;let d:i.natAbs<2 ^ b:=h;have:=(Nat.pow_lt_pow_iff_right (a:=2) ∅).mp (Eh c d);omega
def wJ {K:W.Frag} {c:TE} {g:TG} {d rest:TS} {D:Ends} {b:L2.St} {H:Hp} (h:c b H (λx e=>∃ a,x=.ref a/\(∃ f,SqL K e a f)/\ForL K a g d { D with nx:=rest D } b e)):AH (Ay (BL K c) g d) rest D b H:=h
def wK (h:LV K vs H Q E):ZT K (eA Q) (L2.start ["whole","modulus","limit","one","other","one_weight","other_weight","quotient","rest","size"] vs) H:=by
 let ⟨w,m,b,rfl,q,r,D,u,v,k⟩:=h;refine Ab (AD rfl ?_);show RV K _ _ _;refine Ab (AD rfl ?_);show RU K _ _ _;refine Ab (G' ?_);show RQ K _ _ _;refine Ab (G' ?_);show RP K _ _ _;refine F4 (DE (λn g e=>∃ (one a s t:Int) (i j o:cK),g=[some (.int w),some (.int m),some (.int b),some (.int one),some (.int a),some (.int s),some (.int t),i,j,o]/\e=H/\n=a.toNat/\b<one/\Eu m w one a s t) w.toNat ⟨m,w,0,1,none,none,none,rfl,rfl,rfl,u,Eu.start q r⟩ ?_);rintro n g e ⟨one,a,s,t,i,j,o,rfl,rfl,rfl,lo,I⟩;let x:=I.s0;let y:=I.t1;let f:=I.o0;let F:=I.lt;let A:=I.det;let G:one*1<=one*t:=ET y ⋯;let J:1*t<=one*t:=ED ⋯ ⋯;let L:0<=a*s:=Ez f x;refine ⟨_,rfl,_,rfl,_,_,rfl,rfl,_,rfl,Aj (λc=>?_) (λc=>?_)⟩
 ·let c:b<a:=pE c;refine ⟨_,λ_ _ h=>h,?_⟩;let d:=I.next ⋯;let C:0<=one / a:=Int.ediv_nonneg ⋯ f;let M:one / a<=one:=Int.ediv_le_self a ⋯;let B:∀ z:Int,0<=z->z<=m->Bd 500000 z:=λz N O=>v.le ⋯;let p:Bd 500000 (one / a):=B _ C ⋯;show RL K _ _ _;refine Ab ⟨_,rfl,_,rfl,_,_,rfl,rfl,show (0:Int)<a by omega,?_⟩;show RK K _ _ _;refine Ab ⟨_,rfl,_,rfl,_,rfl,_,_,rfl,rfl,B8 p (B a f ⋯),_,_,rfl,rfl,?_⟩;show RJ K _ _ _;refine Ab (AD rfl ?_);show RI K _ _ _;refine Ab (AD rfl ?_);show RH K _ _ _;refine Ab ⟨_,rfl,_,rfl,_,rfl,_,_,rfl,rfl,B8 p (B t ⋯ ⋯),_,_,rfl,rfl,?_⟩;show RG K _ _ _;refine Ab (AD rfl ?_);show RF K _ _ _;refine Gx (AD rfl ⟨(one - one / a*a).toNat,?_,a,one - one / a*a,t,s+one / a*t,_,_,_,rfl,rfl,rfl,c,d⟩);have:=d.lt;have:=d.o0;omega
 ·let c:¬ b<a:=λz=>c (pC z);show RN K _ _ _;exact Bb (AD rfl (k one a s t I ⋯ lo))
def wL {m:Int} (m2:2<=m):∃ e:Nat,(((blN m:Int) - 2) / 2)=(e:Int)/\(2:Int) ^ e*2 ^ e*2<=m/\m<(2:Int) ^ e*2 ^ e*8/\1<=(2:Int) ^ e/\(e:Int)<=blN m:=by
 let a:=wH m;let ⟨c,g⟩:=So (show m≠0 by omega)
 let h:2<=blN m:=Nat.le_of_not_lt λz=>by
  have:blN m=1:=by omega
  rw [this] at a;omega
 let ⟨e,d⟩:∃ e:Nat,blN m=2*e+2\/blN m=2*e+3:=⟨(blN m - 2) / 2,⋯⟩;let i:1<=2 ^ e:=Nat.pow_pos ∅;let sq:(2:Nat) ^ (2*e)=2 ^ e*2 ^ e:=by rw [Nat.two_mul,Dq]
 let b:((2:Int) ^ e)=((2 ^ e:Nat):Int):=by push_cast;rfl
 let f:((2 ^ e:Nat):Int)*((2 ^ e:Nat):Int)=((2 ^ e*2 ^ e:Nat):Int):=by push_cast;rfl
 refine ⟨e,⋯,?_,?_,by rw [b];omega,⋯⟩
 ·rw [b,f,<-sq];rcases d with q | q
  ·rw [q,show 2*e+2 - 1=2*e+1 by omega,Bx] at c;omega
  ·rw [q,show 2*e+3 - 1=2*e+1+1 by omega,Bx,Bx] at c;omega
 ·rw [b,f,<-sq];rcases d with q | q
  ·rw [q,show 2*e+2=2*e+1+1 by omega,Bx,Bx] at a;omega
  ·rw [q,show 2*e+3=2*e+1+1+1 by omega,Bx,Bx,Bx] at a;omega
def Fits.lim {m X D l:Int} {ps:cL} {x:cY} (F:Fits m X ps x D) (h:m<l*l*8) (a:0<=l):4*X<=l:=by
 let b:=F.d0;let c:=F.dX;let d:=F.m0;refine Int.le_of_not_gt λz=>?_;let e:l*l<=l*(4*X):=ET ⋯ a;let f:l*(4*X)<=4*X*(4*X):=ED ⋯ ⋯;let g:4*X*(4*X)=16*(X*X):=by ext
 let i:256*X*X=256*(X*X):=Co _ _ _;let j:0<=X*X:=Ez ⋯ ⋯;omega
def Sq {m y z:Int} (h:m∣y - z) (b:(y.natAbs:Int)+(z.natAbs:Int)<m):y=z:=by
 have:=Int.eq_zero_of_dvd_of_natAbs_lt_natAbs h (Nat.lt_of_le_of_lt (Int.natAbs_sub_le y z) ⋯);omega
def Gs (m:Int) (ps:cL) (B:Int) (i:Nat):Prop:=∀ X x D,Fits m X ps x D->∃ c,0<c/\D=B*c/\∀ j,j<i->∃ y,y*c=x j/\m∣y - co ps j*B
def wM (h:LW K vs H Q E):ZS K (eA Q) (L2.start ["places","modulus","limit","bottom","place"] vs) H:=by
 let ⟨a,ps,m,rfl,S,p1,bp,m2,bm,kN,k⟩:=h;let ⟨e,ee,l1,T,l3,el⟩:=wL m2;let bl:=wI bm;refine Ab ⟨_,rfl,rfl,m,rfl,rfl,_,_,rfl,rfl,_,_,rfl,rfl,show (0:Int)<2 by decide,_,_,rfl,rfl,?_,?_⟩
 ·show (0:Int)<=((blN m:Int) - 2) / 2/\(blN 1:Int)+((blN m:Int) - 2) / 2<=134217728;rw [ee,show (blN 1:Int)=1 by decide];omega
 show RD K _ (List.set _ 2 (some (.int (1*2 ^ (((blN m:Int) - 2) / 2).toNat)))) _;rw [ee,CB,Int.one_mul];generalize (2:Int) ^ e=f at *;let lm:f*1<=f*f:=ET l3 ⋯;let B5:∀ z:Int,0<=z->z<=m->Bd 250000 z:=λz z0 zm=>bm.le ⋯;refine Ab (G' ?_);show RC K _ _ _;refine wJ ⟨_,rfl,a,rfl,⟨_,SqL.of S⟩,ForL.by (xs:=ps.map V.int) (λi U A=>∃ (B:Int) (o:cK),U=[↥a,some (.int m),some (.int f),some (.int B),o]/\A=H/\i<=↑ps/\0<B/\B<=f/\Gs m ps B i) ⟨1,none,rfl,rfl,AX _,∅,l3,λX x D F=>⟨D,F.d0,⋯,λj h=>absurd h (BD j)⟩⟩ ?_ ?_ ?_⟩
 ·rintro i U A _ ⟨B,o,rfl,rfl,_⟩;exact SqL.of S
 ·rintro i v U A n ⟨B,o,rfl,rfl,_,W,Bl,I⟩;let p:i<↑ps:=by have:=(Ax.mp n).1;rw [AI] at this;exact this
  rw [Dm p] at n;cases n;let bz:Bd 500000 (co ps i):=bp _ (CM p);let O:Bd 250000 B:=B5 B ⋯ ⋯;refine By (HK (Bz (AW (Bg (Al ⟨_,rfl,_,rfl,_,_,rfl,rfl,B8 bz O,_,rfl,_,_,rfl,⋯,λN Y hN=>⟨N,rfl,_,rfl,_,_,rfl,rfl,_,rfl,Aj (λc=>?_) (λc=>?_)⟩⟩)))))
  ·let c:f<(if N<0 then -N else N):=pE c;show Q9 K _ _ _;refine (show Dh _ _ _ _ _ _ from ⟨_,rfl,DS ⟨_,rfl,_,rfl,_,_,rfl,rfl,B8 bz O,_,rfl,_,_,rfl,rfl,show (0:Int)<m by omega,_,rfl,_,rfl,co ps i*B % m,m,f,rfl,CO _ ⋯,CW _ ⋯,⋯,⋯,bm.mono ∅,λone a0 s t Eu ol lo=>?_⟩⟩);let t1:=Eu.t1
   let tm:t<=m:=by
    let h2:1*t<=one*t:=ED ⋯ ⋯;let h3:0<=a0*s:=Ez Eu.o0 Eu.s0;have:=Eu.det;omega
   refine ⟨_,_,rfl,rfl,B8 O (B5 t ⋯ tm),?_⟩
   let C:Gs m ps (B*t) (i+1):=λX x D F=>by
    let ⟨c,G,J,P⟩:=I X x D F;let o:=F.lim T ⋯
    let cX:c<=X:=by
     let Z:1*c<=B*c:=ED ⋯ ⋯;have:=F.dX;omega
    let hd:m∣c*(co ps i*B % m) - x i:=by
     let ⟨u,hu⟩:=F.dv i p;let ⟨v,n⟩:=Fn (co ps i*B) m;exact ⟨c*v+u,()⟩
    let ⟨c',y,a3,e1,e2,e3⟩:=Eu.pair ⋯ hd G (Eu.fits ol lo ⋯ o (F.xX i) cX G);refine ⟨c',a3,by rw [J,e1,Co],λj R=>?_⟩;by_cases q:j=i
    ·rw [q];refine ⟨y,e2,?_⟩;let ⟨u,hu⟩:=e3;let ⟨v,n⟩:=Fn (co ps i*B) m;exact ⟨u+t*v,()⟩
    ·let ⟨z,L,⟨u,hu⟩⟩:=P j ⋯;exact ⟨z*t,by rw [<-L,e1,Co],⟨u*t,()⟩⟩
   show Q8 K _ _ _;refine HK (Bz ⟨_,rfl,_,rfl,_,_,rfl,rfl,_,rfl,Aj (λd=>?_) (λd=>?_)⟩)
   ·let d:f<B*t:=pE d;refine kN _ (Same.refl A) λX x D F=>?_;let ⟨c,G,J,_⟩:=C X x D F;let o:=F.lim T ⋯;let Z:B*t*1<=B*t*c:=ET ⋯ ⋯;have:=F.dX;have:=F.d0;omega
   ·let d:¬ f<B*t:=λz=>d (pC z);exact ⟨B*t,_,rfl,rfl,⋯,Bh W ⋯,⋯,C⟩
  ·let c:¬ f<(if N<0 then -N else N):=λz=>c (pC z);let nl:(N.natAbs:Int)<=f:=by split at c <;> omega
   refine ⟨B,_,rfl,rfl,⋯,W,Bl,λX x D F=>?_⟩;let ⟨c,G,J,P⟩:=I X x D F;refine ⟨c,G,J,λj R=>?_⟩;by_cases q:j=i
   ·rw [q];refine ⟨N,?_,Y⟩;let o:=F.lim T ⋯
    let cX:c<=X:=by
     let Z:1*c<=B*c:=ED ⋯ ⋯;have:=F.dX;omega
    let xX:=F.xX i;refine Sq (m:=m) ?_ ?_
    ·let ⟨u,hu⟩:=F.dv i p;let ⟨v,n⟩:=Y;exact ⟨v*c+u,()⟩
    ·let e1:((N*c).natAbs:Int)=(N.natAbs:Int)*c:=by rw [CV];push_cast;rw [show ((c.natAbs:Nat):Int)=c by omega]
     let Z:(N.natAbs:Int)*c<=f*X:=Int.le_trans (ED nl ⋯) (ET cX ⋯);let h2:f*(4*X)<=f*f:=ET o ⋯;let e2:f*(4*X)=4*(f*X):=by ext
     omega
   ·exact P j ⋯
 ·rintro U A ⟨B,o,rfl,rfl,_,W,Bl,I⟩;rw [AI] at I;let O:Bd 250000 B:=B5 B ⋯ ⋯;show RA K _ _ _;refine Bb (DG (Cy (AD rfl ⟨a,rfl,⟨_,SqL.of S⟩,CompJ.lst (xs:=ps.map V.int) (λi ys w=>i<=↑ps/\w=A/\∃ g:cL,ys=g.map V.int/\↑g=i/\(∀ z∈g,2*z.natAbs<=m.natAbs)/\∀ j,j<i->m∣co g j - co ps j*B) ⟨AX _,rfl,[],rfl,rfl,(λ_ h=>nomatch h),λj h=>absurd h (BD j)⟩ ?_ ?_ ?_⟩)))
  ·rintro i ys w ⟨p,rfl,g,rfl,M,_⟩;exact ⟨by rw [AI];exact p,sz (by rw [AI];omega),SqL.of S⟩
  ·rintro i v ys w n ⟨_,rfl,g,rfl,M,L,z2⟩;let p:i<↑ps:=by have:=(Ax.mp n).1;rw [AI] at this;exact this
   rw [Dm p] at n;cases n;refine By (Al ⟨_,rfl,_,rfl,_,_,rfl,rfl,B8 (bp _ (CM p)) O,_,rfl,_,_,rfl,⋯,λN Y hN=>⟨p,rfl,g++[N],by rw [CP];rfl,by rw [B3,M];rfl,λz hz=>?_,λj R=>?_⟩⟩)
   ·rcases DK.mp hz with q | q
    ·exact L z q
    ·rw [BU.mp q];exact hN
   ·by_cases q:j<i
    ·rw [IK ⋯];exact z2 j q
    ·let e:j=↑g+0:=by omega
     rw [e,IL,Nat.add_zero,M];exact Y
  ·rintro ys w ⟨_,rfl,g,rfl,M,L,z2⟩ b hb;rw [AI] at M z2;let s1:=AM hb (.lst (~~~g));refine AD rfl ⟨CH,λr hr=>?_⟩;let s2:=AM hr (.tup [.ref b,.int B]);refine k r b g B _ (s1.trans s2) upd_same (s2 _ _ upd_same) M W ⋯ (λz hz=>by have:=L z hz;omega) λX x D F j R=>?_;let ⟨c,G,J,P⟩:=I X x D F;let ⟨y,y1,y2⟩:=P j R;let o:=F.lim T ⋯
   let e:co g j=y:=by
    refine Sq (m:=m) ?_ ?_
    ·let ⟨u,hu⟩:=z2 j R;let ⟨v,n⟩:=y2;exact ⟨u - v,()⟩
    ·let Z:=L (co g j) (CM ⋯)
     let h2:(y.natAbs:Int)<=X:=by
      have:=F.xX j;let e:(y*c).natAbs=y.natAbs*c.natAbs:=CV y c;let h3:y.natAbs*1<=y.natAbs*c.natAbs:=E3 _ ⋯;rw [<-y1] at this;omega
     omega
   rw [e,J,<-y1];ext
def wN (h:LX K vs H Q E):ZR K (eA Q) (L2.start ["minor","guess","due","row","whole"] vs) H:=by
 let ⟨m,g,y,b,M,o,e,B,n,rfl,⟨A,J,L⟩,R,N,W,O,X,lb,n1,Y,C,Z,bB,k⟩:=h;let lw:=↑L;let wn:↑A=n:=by rw [lw,R.1]
 refine (show Ay (Dx K _) _ _ _ _ _ from ⟨_,rfl,_,rfl,m,b,rfl,⟨_,SqL.of J⟩,⟨_,SqL.of O⟩,ForJ.zip (xs:=A) (ys:=e.map V.int) (by rw [AI];omega) (λi u d=>∃ w x,u=[↥m,↥g,↥b,w,x]/\Same H d/\∀ t,t<i->su n (λj=>en M t j*co o j)=co e t*B) ⟨none,none,rfl,Same.refl H,λt h=>absurd h (BD t)⟩ ?_ ?_ ?_⟩)
 ·rintro i u d _ ⟨w,x,rfl,s,_⟩;exact ⟨s _ _ J,s _ _ O⟩
 ·rintro i v z p u d P S ⟨w,x,rfl,s,I⟩ hp;let hi:i<↑A:=(Ax.mp P).1;let ⟨r,f,rfl,T,hr⟩:=L.get P;rw [Dm ⋯] at S;cases S;let U:M.getD i []=f:=by rw [AJ,T];rfl
  let rm:=A5 T;let s2:=AM hp (.tup [.ref r,.int (co e i)]);generalize D:upd d p (.tup [.ref r,.int (co e i)])=H2 at *;let F:H2 p=some (.tup [.ref r,.int (co e i)]):=by rw [<-D];exact upd_same
  let a:=s.trans s2;refine ⟨p,_,rfl,F,rfl,_,_,rfl,_,_,rfl,rfl,?_⟩;refine HK (Bz (AW (Al (AD rfl (CG rfl (a _ _ N) (F5 _ _) ⟨r,y,f,o,n,rfl,a _ _ hr,a _ _ W,R.2 f rm,X,⋯,Y f rm,C,λH3 G=>?_⟩)))));refine AW (AD rfl (CG rfl (G _ _ (a _ _ N)) (E9 _ _) ⟨_,_,rfl,rfl,B8 (Z _ (CM ⋯)) bB,rfl,_,rfl,Aj (λc=>?_) (λc=>?_)⟩))
  ·let c:su n (λi=>co f i*co o i)≠co e i*B:=by simpa using c
   refine k H3 false (a.trans G) ⟨(λz=>by cases z),λz=>absurd ?_ c⟩;have:=z i ⋯;unfold en at this;rw [U] at this;exact this
  ·let c:su n (λi=>co f i*co o i)=co e i*B:=by simpa using c
   refine ⟨_,_,rfl,a.trans G,λt ht=>?_⟩;by_cases q:t=i
   ·unfold en;rw [q,U];exact c
   ·exact I t ⋯
 ·rintro u d ⟨w,x,rfl,s,I⟩;exact k d true s ⟨λ_ i hi=>I i ⋯,λ_=>rfl⟩
structure ST (p k:Nat) (M:List (cL)) (bs ls qs:cL) (e:Nat):Prop where
 ll:↑ls=k
 lq:↑qs=k
 eq:∀ i,i<k->co bs i=su k (λj=>en M i j*co qs j)+(p:Int) ^ e*co ls i
 bl:∀ z∈ls,Bd 4020 z
 bq:∀ z∈qs,0<=z/\z<(p:Int) ^ e
def ST.dvd {p k e:Nat} {M T:List (cL)} {ls c a:cL} (I:Inv2 (p:Int) k (en M) (en T)) (f:∀ t,t<k->co c t=co ls t % (p:Int)) (h:∀ j,j<k->co a j=su k (λt=>en T j t*co c t) % (p:Int)) {i:Nat} (d:i<k):(p:Int)∣co ls i - su k λj=>en M i j*co a j:=by
 rw [<-Zm.of_eq,Zm.of_su]
 let m:∀ j,j<k->Zm.of (p:Int) (en M i j*co a j)=su k λt=>Zm.of (p:Int) (en M i j)*Zm.of (p:Int) (en T j t)*Zm.of (p:Int) (co ls t):=λj n=>by
  rw [Zm.of_mul,h j n,Zm.of_mod,Zm.of_su,<-BK];exact AU k λt b=>by rw [f t b,Zm.of_mul,Zm.of_mod,Lean.Grind.Semiring.mul_assoc]
 rw [AU k m,Dk,AU (g:=λt=>dl i t*Zm.of (p:Int) (co ls t)) k λt b=>by rw [Cd,zm_dvd.mp (I.mt i d t b)],Gy (λt=>Zm.of (p:Int) (co ls t)) d]
def wO {p k:Nat} {x s y:Int} (g:2<=p) (b:k<=10) (c:Bd 4020 x) (d:s.natAbs<=k*(2 ^ 4000*p)) (h:x - s=(p:Int)*y):Bd 4020 y:=by
 unfold Bd at *;let e:(2:Nat) ^ 4020=2 ^ 4000*1048576:=by rw [show 4020=4000+20 from rfl,Dq]
 let f:k*(2 ^ 4000*p)=2 ^ 4000*(k*p):=Nat.mul_left_comm ..;rw [f] at d;rw [e] at c ⊢;let i:0<(2:Nat) ^ 4000:=Nat.pow_pos ∅;generalize (2:Nat) ^ 4000=Y at *
 let j:p*y.natAbs<=x.natAbs+s.natAbs:=by
  rw [<-Ds p,<-CV,<-h];exact Int.natAbs_sub_le x s
 refine Nat.lt_of_not_le λz=>?_;let m:p*(Y*1048576)<=p*y.natAbs:=E3 _ z;let n:Y*(k*p)<=Y*(10*p):=E3 _ (CI _ b);let o:p*(Y*1048576)=Y*(1048576*p):=by rw [Nat.mul_left_comm,Df p]
 let a:Y*(1048576*p)<Y*1048576+Y*(10*p):=by omega
 rw [<-Nat.mul_add] at a;have:=Nat.lt_of_mul_lt_mul_left a;omega
def wP {K:W.Frag} {H H0:Hp} {m t b lf pl:Addr} {M T:List (cL)} {bs ls G:cL} {k p e:Nat} {st:Int} {x8 x9 U a4:cK} {D:Ends}
  (hm:SD H0 m M) (ht:SD H0 t T) (s0:Same H0 H) (hl:H lf=some (.lst (~~~ls))) (hq:H pl=some (.lst (~~~G))) (RM:Rect M k k) (RT:Rect T k k) (k1:k<=10) (p2:2<=p) (bp:Bd 44500 (p:Int)) (iT:aA (p:Int) T) (I:Inv2 (p:Int) k (en M) (en T)) (bM:aB 4000 M) (S:ST p k M bs ls G e) (be:Bd 250000 ((p:Int) ^ (e+1)))
  (nx:∀ (lf pl:Addr) (ls G:cL) (f:Hp) x9 U,Same H0 f->f lf=some (.lst (~~~ls))->f pl=some (.lst (~~~G))->ST p k M bs ls G (e+1)->D.nx [↥m,↥t,↥b,some (.int (p:Int)),↥lf,↥pl,some (.int ((p:Int) ^ (e+1))),some (.int st),x8,x9,U,a4] f) :
  Q0 K D [↥m,↥t,↥b,some (.int (p:Int)),↥lf,↥pl,some (.int ((p:Int) ^ e)),some (.int st),x8,x9,U,a4] H:=by
 let p0:(0:Int)<(p:Int):=by omega
 let bz:(0:Int)<(p:Int) ^ e:=Int.pow_pos p0;let J:(p:Int) ^ (e+1)=(p:Int) ^ e*(p:Int):=Int.pow_succ _ _
 let bE:Bd 250000 ((p:Int) ^ e):=be.le (by
  have:(p:Int) ^ e*1<=(p:Int) ^ e*(p:Int):=ET ⋯ ⋯;rw [J];omega)
 let bP:∀ z:Int,0<=z/\z<(p:Int)->Bd 44500 z:=λz d=>bp.le ⋯;let ⟨ws,a5,a6⟩:=hm;let ⟨vs,a7,ab⟩:=ht;let c0:=↑a6;let b3:=↑ab;let c1:=RM.1;let b4:=RT.1;let ll:=S.ll;let lq:=S.lq;refine Ab (Cy (AD rfl ⟨lf,rfl,⟨_,SqL.of hl⟩,IG (·% (p:Int)) hl ⋯ (λn hn P hP=>⟨_,rfl,_,rfl,_,_,rfl,rfl,p0,hP⟩) λsh b5=>?_⟩));let ⟨C,L⟩:∃ C,C=ls.map (·% (p:Int)):=⟨_,rfl⟩;rw [<-L];let b6:↑C=k:=by rw [L,AI];exact ll
 let b7:∀ t,t<k->co C t=co ls t % (p:Int):=λt ht=>by rw [L];exact Jp _ ⋯
 let b9:∀ z∈C,0<=z/\z<(p:Int):=λz d=>by
  rw [L] at d;let ⟨y,_,rfl⟩:=Ao.mp d;exact ⟨CO _ ⋯,CW _ p0⟩
 let s1:=AM b5 (.lst (~~~C));generalize ba:upd H sh (.lst (~~~C))=H1 at *;let aj:H1 sh=some (.lst (~~~C)):=by rw [<-ba];exact upd_same
 let N:=s0.trans s1;show Qz K _ _ _;refine Ab (Cy (AD rfl ⟨t,rfl,⟨_,SqL.of (N _ _ a7)⟩,CompJ.lst (xs:=vs) (λi ys f=>i<=↑vs/\Same H1 f/\∃ a:cL,ys=a.map V.int/\↑a=i/\(∀ z∈a,0<=z/\z<(p:Int))/\∀ j,j<i->co a j=su k (λt=>en T j t*co C t) % (p:Int)) ⟨AX _,Same.refl H1,[],rfl,rfl,(λ_ h=>nomatch h),λj h=>absurd h (BD j)⟩ ?_ ?_ ?_⟩))
 ·rintro i ys f ⟨g,s,a,rfl,o,_⟩;exact ⟨g,sz (by rw [AI];omega),SqL.of (s _ _ (N _ _ a7))⟩
 ·rintro i v ys f hv ⟨_,s,a,rfl,o,f1,f2⟩;let g:i<↑vs:=(Ax.mp hv).1;let ⟨r,w,rfl,er,hr⟩:=ab.get hv;let eg:T.getD i []=w:=by rw [AJ,er];rfl
  let rm:=A5 er;refine By (AW (Al (AD rfl (AD rfl ⟨r,sh,w,C,k,rfl,s _ _ (N _ _ hr),s _ _ aj,RT.2 w rm,b6,⋯,λz d=>(bP z (iT w rm z d)).mono ∅,λz d=>(bP z (b9 z d)).mono ∅,λH2 s2=>?_⟩))));refine AD rfl ⟨_,_,rfl,rfl,p0,g,s.trans s2,a++[su k (λi=>co w i*co C i) % (p:Int)],by rw [CP];rfl,by rw [B3,o];rfl,λz d=>?_,λj hj=>?_⟩
  ·rcases DK.mp d with q | q
   ·exact f1 z q
   ·rw [BU.mp q];exact ⟨CO _ ⋯,CW _ p0⟩
  ·by_cases q:j<i
   ·rw [IK ⋯];exact f2 j q
   ·let ej:j=↑a+0:=by omega
    rw [ej,IL,Nat.add_zero,o];unfold en;rw [eg];rfl
 rintro ys H2 ⟨_,s2,a,rfl,o,f1,f2⟩ fo bb;rw [b3,b4] at o f2;let s3:=AM bb (.lst (~~~a));generalize bc:upd H2 fo (.lst (~~~a))=H3 at *;let F:H3 fo=some (.lst (~~~a)):=by rw [<-bc];exact upd_same
 let O:=s2.trans s3;let bd:=N.trans O;show Qy K _ _ _;refine Ab (HH ⟨_,rfl,_,rfl,pl,fo,rfl,⟨_,SqL.of (O _ _ (s1 _ _ hq))⟩,⟨_,SqL.of F⟩,MG (λx y=>x+(p:Int) ^ e*y) (O _ _ (s1 _ _ hq)) F ⋯ ⋯ (λx y hx X f P s q=>⟨_,rfl,_,rfl,_,rfl,_,_,rfl,rfl,B8 bE (bP y (f1 y X)),_,_,rfl,rfl,q⟩) λY H4 s4 bf=>?_⟩);let ⟨c,Z⟩:∃ c,c=List.zipWith (λx y=>x+(p:Int) ^ e*y) G a:=⟨_,rfl⟩;rw [<-Z];let bg:↑c=k:=by rw [Z,List.length_zipWith];omega
 let al:∀ j,j<k->co c j=co G j+(p:Int) ^ e*co a j:=λj hj=>by rw [Z];exact MH ⋯ ⋯
 let s5:=AM bf (.lst (~~~c));generalize bk:upd H4 Y (.lst (~~~c))=H5 at *;let an:H5 Y=some (.lst (~~~c)):=by rw [<-bk];exact upd_same
 let a0:=s4.trans s5;let R:=bd.trans a0;let ap:H5 lf=some (.lst (~~~ls)):=a0 _ _ (O _ _ (s1 _ _ hl));show Qx K _ _ _;let dv:∀ i,i<k->(p:Int)∣co ls i - su k λj=>en M i j*co a j:=λi g=>ST.dvd (e:=e) I b7 f2 g;refine Ab (HH ⟨_,rfl,_,rfl,lf,m,rfl,⟨_,SqL.of ap⟩,⟨_,SqL.of (R _ _ a5)⟩,CompJ.zip (xs:=ls.map V.int) (ys:=ws) (by rw [AI];omega) (λi zs f=>i<=↑ls/\Same H5 f/\∃ u:cL,zs=u.map V.int/\↑u=i/\(∀ z∈u,Bd 4020 z)/\∀ j,j<i->co ls j - su k (λt=>en M j t*co a t)=(p:Int)*co u j) ⟨AX _,Same.refl H5,[],rfl,rfl,(λ_ h=>nomatch h),λj h=>absurd h (BD j)⟩ ?_ ?_ ?_⟩)
 ·rintro i zs f ⟨g,s,u,rfl,lg,_⟩;exact ⟨by rw [AI];exact g,sz (by rw [AI];omega),SqL.of (s _ _ ap),SqL.of (s _ _ (R _ _ a5))⟩
 ·rintro i v y zs f q hv X ⟨_,s,u,rfl,lg,g1,g2⟩ bl;let g:i<↑ls:=by have:=(Ax.mp hv).1;rw [AI] at this;exact this
  rw [Dm g] at hv;cases hv;let ⟨r,w,rfl,er,hr⟩:=a6.get X;let eg:M.getD i []=w:=by rw [AJ,er];rfl
  let rm:=A5 er;let s6:=AM bl (.tup [.int (co ls i),.ref r]);refine ⟨q,_,rfl,upd_same,rfl,_,_,rfl,_,_,rfl,rfl,?_⟩;generalize c2:upd f q (.tup [.int (co ls i),.ref r])=H6 at *;let a3:=s.trans s6;refine AW (AW (AD rfl (Al (AD rfl (AD rfl ⟨r,fo,w,a,k,rfl,a3 _ _ (R _ _ hr),a3 _ _ (a0 _ _ F),RM.2 w rm,o,⋯,λz d=>(bM w rm z d).mono ∅,λz d=>(bP z (f1 z d)).mono ∅,λH7 s7=>⟨_,_,rfl,rfl,AD rfl ⟨_,_,rfl,rfl,p0,?_⟩⟩⟩)))));let ee:su k (λi=>co w i*co a i)=su k (λt=>en M i t*co a t):=by unfold en;rw [eg]
  let ⟨y,X⟩:=dv i ⋯;let ey:(co ls i - su k (λi=>co w i*co a i)) / (p:Int)=y:=by rw [ee,X];exact Ey _ ⋯
  show i+1<=_/\_/\_;refine ⟨g,a3.trans s7,u++[y],by rw [CP,<-ey];rfl,by rw [B3,lg];rfl,λz d=>?_,λj hj=>?_⟩
  ·rcases DK.mp d with q | q
   ·exact g1 z q
   ·rw [BU.mp q];refine wO p2 k1 (S.bl _ (CM g)) (LC (A:=2 ^ 4000) (B:=p) k (λt ht=>?_) λt ht=>?_) X
    ·let ⟨r',bm,bq⟩:=RM.en_mem (i:=i) (j:=t) ⋯ ht;exact Nat.le_of_lt (bM r' bm _ bq)
    ·have:=f1 (co a t) (CM ⋯);omega
  ·by_cases q:j<i
   ·rw [IK ⋯];exact g2 j q
   ·let ej:j=↑u+0:=by omega
    rw [ej,IL,Nat.add_zero,lg];exact X
 rintro zs H6 ⟨_,s6,u,rfl,lg,g1,g2⟩ l2 bt;rw [AI] at lg g2;let s7:=AM bt (.lst (~~~u));generalize bw:upd H6 l2 (.lst (~~~u))=H7 at *;let b0:H7 l2=some (.lst (~~~u)):=by rw [<-bw];exact upd_same
 show Qw K _ _ _;refine ⟨_,rfl,_,rfl,_,_,rfl,rfl,B8 bE bp,?_⟩;show D.nx (List.set _ 6 (some (.int ((p:Int) ^ e*(p:Int))))) _;rw [<-J];refine nx l2 Y u c H7 _ _ (R.trans (s6.trans s7)) b0 ((s6.trans s7) _ _ an) ⟨⋯,bg,λi g=>?_,g1,λz d=>?_⟩
 ·let e1:=S.eq i g;let e2:=g2 i ⋯
  let e3:su k (λj=>en M i j*co c j)=su k (λj=>en M i j*co G j)+(p:Int) ^ e*su k (λt=>en M i t*co a t):=by
   rw [<-BK,<-Fi];exact AU k λj hj=>by rw [al j hj];ext
  rw [e1,e3,J];ext
 ·let ⟨j,hj,rfl⟩:=DY.mp d;let ej:c[j]=co c j:=by unfold co;rw [AJ,AT hj];rfl
  rw [ej,al j ⋯,J];let b1:=S.bq (co G j) (CM ⋯);let b2:=f1 (co a j) (CM ⋯);let h1:0<=(p:Int) ^ e*co a j:=Ez ⋯ b2.1;let h2:(p:Int) ^ e*(co a j+1)<=(p:Int) ^ e*(p:Int):=ET ⋯ ⋯;rw [Int.mul_add,Int.mul_one] at h2;omega
def Ss {k:Nat} (b:k<=10):(2*((k+1)*2 ^ 4000)) ^ k<=2 ^ 40050:=by
 let a:2*((k+1)*2 ^ 4000)<=2 ^ 4005:=by
  let e:(2:Nat) ^ 4005=32*2 ^ 4000:=by rw [show 4005=5+4000 from rfl,Dq]
  rw [e];generalize (2:Nat) ^ 4000=Y;have:(k+1)*Y<=11*Y:=CI _ ⋯;omega
 refine BM (Nat.pow_le_pow_left a k) ?_;rw [<-Nat.pow_mul];exact MI ⋯
def ST.fits {p k e:Nat} {M T:List (cL)} {a ls d:cL} (o:2<=p) (q:k<=10) (I:Inv2 (p:Int) k (en M) (en T)) (u:Rect M k k) (v:aB 4000 M) (O:↑a=k) (w:∀ z∈a,Bd 4000 z) (S:ST p k M a ls d e) (f:(2:Int) ^ 80110<(p:Int) ^ e) :
  ∃ X x D,Fits ((p:Int) ^ e) X d x D/\∀ i,i<k->su k (λj=>en M i j*x j)=co a i*D:=by
 let ⟨x,D,y,B,C,h⟩:=I.small (A:=2 ^ 4000) (b:=co a) o (λi c j m=>by
  let ⟨r,F,G⟩:=u.en_mem c m;exact Nat.le_of_lt (v r F _ G)) (λi c=>Nat.le_of_lt (w _ (CM ⋯))) (Nat.pow_pos ∅) rfl
 let n:=Ss q;generalize (2*((k+1)*2 ^ 4000)) ^ k=X at *;refine ⟨(X:Int),x,D,⟨y,B,λj=>by have:=C j;omega,λj m=>?_,?_⟩,h⟩
 ·refine I.zero e (x:=λj=>D*co d j - x j) (λi c=>?_) j (by have:=S.lq;omega);rw [AU (g:=λj=>D*(en M i j*co d j) - en M i j*x j) k λj _=>by ext,Fj,BK,h i c,S.eq i c];exact ⟨-(co ls i*D),()⟩
 ·refine Int.lt_of_le_of_lt ?_ f;let J:(2:Nat) ^ 80110=1024*(2 ^ 40050*2 ^ 40050):=by rw [show 80110=10+(40050+40050) from rfl,Dq,Dq]
  let L:(2:Int) ^ 80110=((2 ^ 80110:Nat):Int):=by rw [Int.natCast_pow];rfl
  let P:X*X<=2 ^ 40050*2 ^ 40050:=Nat.mul_le_mul n n;rw [L,J];generalize (2:Nat) ^ 40050=Y at *;let N:256*(X:Int)*(X:Int)=((256*(X*X):Nat):Int):=by push_cast;rw [Co]
  rw [N];omega
def Su {p e Z:Nat} (b:2<=p) (h:p ^ e<=2 ^ Z):e<=Z:=by
 let c:2 ^ e<=p ^ e:=Nat.pow_le_pow_left b e;exact (Nat.pow_le_pow_iff_right (a:=2) ∅).mp (BM c h)
def Sv {p st i:Nat} (f:2<=p) (a:Bd 44500 (p:Int)) (h:p ^ (st - 1)<=2 ^ 80110) (g:1<=st) (j:i<=st):Bd 250000 ((p:Int) ^ (st - 1+i)):=by
 let a:p<2 ^ 44500:=by unfold Bd at a;rw [Ds] at a;exact a
 let e:((p:Int) ^ (st - 1+i)).natAbs=p ^ (st - 1+i):=by rw [Int.natAbs_pow,Ds]
 unfold Bd;rw [e];let b:p ^ (st - 1+i)<=p ^ ((st - 1)+(st - 1)+1):=Fs ⋯ ⋯;refine Eh b ?_;rw [Bx,Dq];let c:p ^ (st - 1)*p ^ (st - 1)<=2 ^ 80110*2 ^ 80110:=Nat.mul_le_mul h h;let d:p ^ (st - 1)*p ^ (st - 1)*p<=2 ^ 80110*2 ^ 80110*2 ^ 44500:=Nat.mul_le_mul c (Nat.le_of_lt a);refine Eh d ?_;rw [<-Dq,<-Dq];exact Nat.pow_lt_pow_right ∅ ∅
def wQ (h:Hy K vs H Q E):ZQ K (eA Q) (L2.start ["minor","turned","due","prime","left","places","scale","steps","step","short","found","guess"] vs) H:=by
 let ⟨m,t,b,M,T,R,k,p,rfl,hm,ht,hb,RM,RT,lb,k1,W,bp,iT,I,bM,bb,kk⟩:=h;refine Ab (AD rfl ?_);show Q7 K _ _ _;refine Ab (AW (DH (G' ⟨Cb,λc hc=>Fg (AD rfl (Fh (AM hc _ _ _ hb) ⟨c,_,_,rfl,rfl,upd_same,?_,?_,?_,λpl a6=>?_⟩))⟩)))
 ·rw [AI];omega
 ·rw [AI];omega
 ·rw [AI,lb,CB,show [V.int 0].length=1 from rfl,Nat.one_mul];exact sz ⋯
 rw [AI,lb,CB,Er];let s1:=AM hc (.lst [V.int 0]);let s2:=AM a6 (.lst (List.replicate k (V.int 0)));let a0:=s1.trans s2;generalize a7:upd (upd H c (.lst [V.int 0])) pl (.lst (List.replicate k (V.int 0)))=H2 at *;let a3:H2 pl=some (.lst ((List.replicate k (0:Int)).map V.int)):=by rw [List.map_replicate,<-a7];exact upd_same
 show Q6 K _ _ _;refine Ab (G' ?_);show Q5 K _ _ _;refine Ab (G' ?_);show Q4 K _ _ _
 let S0:ST p k M R R (List.replicate k 0) 0:=⟨lb,FN,λi hi=>by
  rw [Bw (n:=k) (f:=λj=>en M i j*co (List.replicate k 0) j) λj _=>by rw [Sk,EC]];rw [Int.pow_zero];omega,λz A=>(bb z A).mono ∅,λz A=>by
  rw [(List.mem_replicate.mp A).2,Int.pow_zero];decide⟩
 refine DE (λn Y P=>∃ (w pl:Addr) (C v:cL) (a:Nat) (L G o u:cK),Y=[↥m,↥t,↥b,some (.int (p:Int)),↥w,↥pl,some (.int ((p:Int) ^ (a - 1))),some (.int (a:Int)),L,G,o,u]/\Same H P/\P w=some (.lst (~~~C))/\P pl=some (.lst (~~~v))/\ST p k M R C v (a - 1)/\1<=a/\p ^ (a - 1)<=2 ^ 80110/\n=80200 - a) 80199 ⟨b,pl,R,List.replicate k 0,1,none,none,none,none,rfl,a0,a0 _ _ hb,a3,S0,AV _,by rw [EV,Nat.pow_zero];exact Nat.pow_pos ∅,rfl⟩ ?_;rintro n Y P ⟨w,pl,C,v,a,L,G,o,u,rfl,s,hl,Z,S,a4,U,rfl⟩;let b0:a - 1<=80110:=Su W U;refine ⟨true,rfl,Aj (λ_=>?_) (λz=>absurd rfl z)⟩;refine ⟨_,λ_ _ h=>h,?_⟩;show Q3 K _ _ _;refine (show Ay _ _ _ _ _ _ from ⟨_,rfl,(a:Int),rfl,⋯,⋯,?_⟩);rw [CB];refine ForR.by (λi Y J=>∃ (w pl:Addr) (C v:cL) (L G o:cK),Y=[↥m,↥t,↥b,some (.int (p:Int)),↥w,↥pl,some (.int ((p:Int) ^ (a - 1+i))),some (.int (a:Int)),L,G,o,u]/\Same H J/\J w=some (.lst (~~~C))/\J pl=some (.lst (~~~v))/\ST p k M R C v (a - 1+i)) ⟨w,pl,C,v,L,G,o,rfl,s,hl,Z,S⟩ ?_ ?_
 ·rintro i Y J hi ⟨w,pl,C,v,L,G,o,rfl,s,hl,Z,S⟩;refine By ?_;exact wP hm ht s hl Z RM RT k1 W bp iT I bM S (Sv W bp U a4 (i:=i+1) hi) λw pl C v H3 G o N ab aj S3=>⟨w,pl,C,v,_,G,o,rfl,N,ab,aj,S3⟩
 rintro Y J ⟨w,pl,C,v,L,G,o,rfl,s,hl,Z,S⟩;let be:=Sv W bp U a4 (AV a);let ⟨e,he⟩:∃ e,e=a - 1+a:=⟨_,rfl⟩;rw [<-he] at be S ⊢;let lq:=S.lq
 let al:(2:Int)<=(p:Int) ^ e:=by
  let h1:p ^ 1<=p ^ e:=Fs ⋯ ⋯;rw [Nat.pow_one] at h1;have:(p:Int) ^ e=((p ^ e:Nat):Int):=by rw [Int.natCast_pow]
  rw [this];omega
 let bq:∀ z∈v,Bd 250000 z:=λz A=>be.le (by have:=S.bq z A;omega)
 let q:(∀ X x D,Fits ((p:Int) ^ e) X v x D->(∀ i,i<k->su k (λj=>en M i j*x j)=co R i*D)->False)->p ^ e<=2 ^ 80110:=λno=>by
  refine Nat.le_of_not_lt λz=>?_;let e1:(p:Int) ^ e=((p ^ e:Nat):Int):=by rw [Int.natCast_pow]
  let e2:(2:Int) ^ 80110=((2 ^ 80110:Nat):Int):=by rw [Int.natCast_pow];rfl
  let ⟨X,x,D,F,hs⟩:=S.fits W k1 I RM bM lb bb (by rw [e1,e2];exact Int.ofNat_lt.mpr z);exact no X x D F hs
 let O:∀ (u:cK) (H3:Hp),Same J H3->p ^ e<=2 ^ 80110->Q1 K { nx:=λan P=>∃ m',m'<80200 - a/\∃ (w pl:Addr) (C v:cL) (a:Nat) (L G o u:cK),an=[↥m,↥t,↥b,some (.int (p:Int)),↥w,↥pl,some (.int ((p:Int) ^ (a - 1))),some (.int (a:Int)),L,G,o,u]/\Same H P/\P w=some (.lst (~~~C))/\P pl=some (.lst (~~~v))/\ST p k M R C v (a - 1)/\1<=a/\p ^ (a - 1)<=2 ^ 80110/\m'=80200 - a,rt:=Q } [↥m,↥t,↥b,some (.int (p:Int)),↥w,↥pl,some (.int ((p:Int) ^ e)),some (.int (a:Int)),L,G,o,u] H3:=λu H3 N q=>by
  refine ⟨_,rfl,_,_,rfl,rfl,Jg ∅ ∅,?_⟩;let ez:=Su W q;refine ⟨80200 - (2*a),⋯,w,pl,C,v,2*a,L,G,o,u,?_,s.trans N,N _ _ hl,N _ _ Z,?_,⋯,?_,rfl⟩
  ·show [↥m,↥t,↥b,some (.int (p:Int)),↥w,↥pl,some (.int ((p:Int) ^ e)),some (.int ((a:Int)*2)),L,G,o,u]=_;rw [show 2*a - 1=e by omega,show (a:Int)*2=((2*a:Nat):Int) by omega]
  ·rw [show 2*a - 1=e by omega];exact S
  ·rw [show 2*a - 1=e by omega];exact q
 show Q2 K _ _ _;refine GI (AD rfl (AD rfl ⟨pl,v,_,rfl,Z,⋯,λz A=>(bq z A).mono ∅,al,be,λH3 N no=>?_,λg y ys B H3 N hg hy ly B0 Bm ym ap=>?_⟩))
 ·show Ll K _ _ _;refine D1 (show EE _ _ _ _ _ from ⟨_,rfl,rfl,_,rfl,Aj (λz=>by cases z) (λ_=>Aj (λz=>by cases z) (λ_=>?_))⟩);exact O _ _ N (q λX x D F _=>no X x D F)
 ·let bB:Bd 250000 B:=be.le ⋯;let a5:∀ z∈ys,Bd 250000 z:=λz A=>be.le (ym z A);show Ll K _ _ _;refine D1 (show EE _ _ _ _ _ from ⟨_,rfl,rfl,_,rfl,Aj (λ_=>?_) (λz=>absurd rfl z)⟩);refine (show AQ _ _ _ _ _ _ _ from DS (AD rfl (AD rfl (AD rfl ⟨m,g,y,b,M,ys,R,B,k,rfl,hm.tp (s.trans N),RM,hg,hy,(s.trans N) _ _ hb,⋯,lb,⋯,λr hr z A=>(bM r hr z A).mono ∅,λz A=>(a5 z A).mono ∅,λz A=>(bb z A).mono ∅,bB.mono ∅,λH4 c s4 hc=>⟨c,rfl,Aj (λd=>?_) (λd=>?_)⟩⟩))))
  ·exact Bb (AD rfl (kk g y ys B H4 ((s.trans N).trans s4) (s4 _ _ hg) (s4 _ _ hy) ⋯ B0 bB a5 (hc.mp d)))
  ·refine O _ _ (N.trans s4) (q λX x D F hs=>d (hc.mpr λi hi=>?_));let f:=ap X x D F;let d0:=F.d0
   let e1:su k (λj=>en M i j*co ys j)*D=co R i*B*D:=by
    rw [<-Cd,AU (g:=λj=>B*(en M i j*x j)) k λj hj=>by
     have:=f j ⋯;rw [Co,this];ext,BK,hs i hi]
    ext
   exact Int.eq_of_mul_eq_mul_right ⋯ e1
def Cor.tp {C:Addr} {H a:Hp} {x:Addr} {L:List (cL)} {n w p:Nat} {os cs:List Nat} {M T:List (cL)} {y z m t:Addr} (c:Cor C H x L n w p os cs M T y z m t) (s:Same H a):Cor C a x L n w p os cs M T y z m t:=
 ⟨let ⟨b,d,h,f⟩:=c.at';⟨b,d,s _ _ h,f⟩,s _ _ c.hy,s _ _ c.hz,c.hm.tp s,c.ht.tp s,c.c⟩
theorem R_ {w:Nat}:∀ (cs:List Nat) (lo:Nat),cs.Pairwise (·<·)->(∀ j∈cs,lo<=j/\j<w)->cs=[]\/↑cs+lo<=w
 | [],_,_,_=>.inl rfl
 | c::cs,lo,hp,a=>by
   let ⟨d,e⟩:=List.pairwise_cons.mp hp;let f:=a c (D6 ..);refine .inr ?_;rcases R_ cs (c+1) e (λj b=>⟨d j b,(a j (Dn _ b)).2⟩) with q | q
   ·rw [q];show 1+lo<=w;omega
   ·show ↑cs+1+lo<=w;omega
def MJ {cs:List Nat} {w:Nat} (h:cs.Pairwise (·<·)) (a:∀ j∈cs,j<w):↑cs<=w:=by
 rcases R_ cs 0 h (λj b=>⟨AX _,a j b⟩) with q | q
 ·rw [q];exact AX _
 ·exact q
def MK {R:Type} [Lean.Grind.CommRing R] {w d q:Nat} {c:Nat->Nat} {f:Nat->R} (g:Nat->R) (r:∀ s,s<d->c s<w) (i:∀ s t,s<d->t<d->c s=c t->s=t) (u:q<w) (v:∀ s,s<d->c s≠q) (k:∀ j,j<w->(∀ s,s<d->c s≠j)->j≠q->f j=0) :
  su w (λj=>g j*f j)=su d (λs=>g (c s)*f (c s))+g q*f q:=by
 let m:∀ j,j<w->f j=su d (λs=>f (c s)*dl (c s) j)+f q*dl q j:=λj n=>by
  by_cases a:∃ s,s<d/\c s=j
  ·let ⟨h,o,rfl⟩:=a
   rw [AU (g:=λs=>(λs=>f (c s)) s*dl s h) d λs b=>by
    unfold dl;by_cases e:c s=c h
    ·rw [pB e,pB (i s h b o e)]
    ·rw [qZ e,qZ λz=>e (by rw [z])],Et (λs=>f (c s)),pB o]
   unfold dl;rw [qZ λz=>v h o z.symm];ext
  ·let a:∀ s,s<d->c s≠j:=λs b z=>a ⟨s,b,z⟩
   rw [Bw λs b=>by
    unfold dl;rw [qZ (a s b)];grind]
   by_cases p:j=q
   ·rw [p];unfold dl;rw [pB rfl];ext
   ·rw [k j n a p];unfold dl;rw [qZ λz=>p z.symm];ext
 rw [AU (g:=λj=>su d (λs=>f (c s)*dl (c s) j)*g j+f q*(dl q j*g j)) w λj n=>by rw [m j n];ext,Fi,LB r (λs=>f (c s)) g,BK,Gy g u];rw [AU (f:=λt=>f (c t)*g (c t)) (g:=λs=>g (c s)*f (c s)) d λs _=>by grind];ext
theorem FRs.tp {H a:Hp} {L:List (cL)} {n w:Nat} {cs:List Nat} (t:Tp H a):∀ {xs:cJ} {F:List (Nat×cL×Int)},FRs H L n w cs xs F->FRs a L n w cs xs F
 | [],[],_=>trivial
 | _::_,_::_,h=>⟨let ⟨u,b,e,c,d,f⟩:=h.1;⟨u,b,e,t _ _ c,d.tp t,f⟩,FRs.tp t h.2⟩
 | [],_::_,h=>h.elim
 | _::_,[],h=>h.elim
theorem FRs.length {H:Hp} {L:List (cL)} {n w:Nat} {cs:List Nat}:∀ {xs:cJ} {F:List (Nat×cL×Int)},FRs H L n w cs xs F->↑xs=↑F
 | [],[],_=>rfl
 | _::_,_::_,h=>congrArg (·+1) (FRs.length h.2)
 | [],_::_,h=>h.elim
 | _::_,[],h=>h.elim
theorem FRs.snoc {H:Hp} {L:List (cL)} {n w:Nat} {cs:List Nat} {u:Addr} {a:cJ} {q:Nat×cL×Int} (b:H u=some (.tup a)) (c:Nums H a (q.2.1.map λz=>Ae z q.2.2)) (f:Fre L n w cs q.1 q.2.1 q.2.2):∀ {xs:cJ} {F:List (Nat×cL×Int)},FRs H L n w cs xs F->FRs H L n w cs (xs++[.ref u]) (F++[q])
 | [],[],_=>⟨⟨u,a,rfl,b,c,f⟩,trivial⟩
 | _::_,_::_,h=>⟨h.1,FRs.snoc b c f h.2⟩
 | [],_::_,h=>h.elim
 | _::_,[],h=>h.elim
def Sw (i:Nat) (cs:List Nat):ar (i+1) cs=ar i cs++(if i∈cs then [] else [i]):=by
 unfold ar;rw [Ex,List.filter_append];by_cases h:i∈cs
 ·rw [pB h];simp [h]
 ·rw [qZ h];simp [h]
def wR (w:Nat) (cs:List Nat):(ar w cs).length<=w:=by
 unfold ar;have:=List.length_filter_le (λj=>decide (j∉cs)) (List.range w);rw [Au] at this;exact this
theorem Sx {H:Hp}:∀ a:List Nat,RepA H (iN a) (a.map λj:Nat=>W.Dat.int (j:Int))
 | []=>.nil
 | _::a=>.cons (.int _) (Sx a)
def ML {a:TE} {b:L2.St} {H:Hp} {Q:VK} (h:a b H λx c=>∃ i:Int,x=.int i/\Q (.int (-i)) c):O_ BN a b H Q:=h
def wS {K:W.Frag} (U:ClsOk K (B1 K)) {vs:cJ} {H:Hp} {Q:VK} {E:XK} (h:Hz K vs H Q E):ZO K (eA Q) (L2.start ["sides","core","width","frees","column","due","solution","row"] vs) H:=by
 let ⟨a,x,y,z,m,t,L,M,T,n,w,p,os,G,rfl,hL,R,nw,n1,w1,bL,p2,bp,C,kN,k⟩:=h;generalize B1 K=A at *;let c:=C.c;let lc:=c.lc;let ol:=c.ol;let cl:=c.cl;let dw:↑os<=10:=by have:=MJ c.cu c.cl;omega
 let b1:G.Nodup:=c.cu.imp λh=>BG h
 let bM:aB 4000 M:=λr hr z X=>by
  let ⟨i,hi,rfl⟩:=DY.mp hr;let ⟨j,D,rfl⟩:=DY.mp X;let b2:i<↑os:=by have:=c.rM.1;omega
  let bb:j<↑os:=by have:=c.rM.2 _ hr;omega
  let e:M[i][j]=en M i j:=by
   unfold en co;rw [AJ (l:=M),AT hi];show M[i][j]=(M[i]).getD j 0;rw [AJ,AT D];rfl
  rw [e,c.eM i b2 j bb];let ⟨r,hr,hm⟩:=R.en_mem (ol _ (Ce b2)) (cl _ (Ce (by omega:j<↑G)));exact bL r hr _ hm
 refine K0 (AD rfl ⟨a,L,n,w,rfl,hL,R,nw,?_⟩);show Qr K _ _ _;refine Ab (show A9 AC _ _ _ from ⟨AX _,λfr b3=>?_⟩);let s0:=AM b3 (.lst []);show Qq K _ _ _;refine (show Ay _ _ _ _ _ _ from ⟨_,rfl,(w:Int),rfl,⋯,⋯,?_⟩);rw [CB];refine ForR.by (λi σ J=>i<=w/\∃ (Z:cJ) (F:List (Nat×cL×Int)) (x4 x5 x6 x7:cK),σ=[↥a,↥x,some (.int (w:Int)),↥fr,x4,x5,x6,x7]/\Same H J/\J fr=some (.lst Z)/\FRs J L n w G Z F/\F.map (λq=>q.1)=ar i G) ⟨AX _,[],[],none,none,none,none,rfl,s0,upd_same,trivial,rfl⟩ ?_ ?_
 ·rintro i σ H1 hi ⟨_,Z,F,x4,x5,x6,x7,rfl,s1,I,hF,eF⟩;refine By ?_;rw [show ((0:Int)+(i:Int))=(i:Int) by omega];let C1:=C.tp s1;let ⟨dx,fs,ab,fo⟩:=C1.at';refine HK (Bz (AW (AD rfl (Cm (AD rfl ⟨x,A,dx,fs,_,rfl,ab,U.cl,U.a3,fo.f3,z,_,.int (i:Int),G.map (λj:Nat=>.int (j:Int)),decide (i∈G),rfl,C1.hz,.int _,Sx G,rfl,λe he=>?_,?_,_,rfl,Aj (λq=>?_) (λq=>?_)⟩)))))
  ·let ⟨j,_,rfl⟩:=Ao.mp he;rfl
  ·constructor
   ·intro h;exact Ao.mpr ⟨i,pE h,rfl⟩
   ·intro h;let ⟨j,D,e⟩:=Ao.mp h;have:(j:Int)=(i:Int):=by injection e
    rw [show i=j by omega];exact pC D
  ·-- a column that isn't the core's
   let ic:i∉G:=by simpa using q
   show Qo K _ _ _;let ⟨ws,aj,hS⟩:=hL;let lw:=↑hS;let ⟨P,a3⟩:∃ P:cL,P=os.map λo=>-(en L o i):=⟨_,rfl⟩;let b4:↑P=↑os:=by rw [a3,AI]
   refine Ab (Cy (Cm (AD rfl ⟨x,A,dx,fs,_,rfl,ab,U.cl,U.a2,fo.f2,y,rfl,⟨_,SqL.of C1.hy⟩,CompJ.lst (xs:=iN os) (λj O J=>j<=↑os/\J=H1/\O=(P.take j).map V.int) ⟨AX _,rfl,rfl⟩ ?_ ?_ ?_⟩)))
   ·rintro j O J ⟨D,rfl,rfl⟩;exact ⟨by rw [CN];exact D,sz (by rw [AI,BC];omega),SqL.of C1.hy⟩
   ·rintro j v O J hv ⟨_,rfl,rfl⟩;let D:j<↑os:=by have:=(Ax.mp hv).1;rw [CN] at this;exact this
    rw [HJ D] at hv;cases hv;let on:=ol _ (Ce D);let ⟨b,eb,Y⟩:=hS.at (i:=nth os j) (by rw [R.1];exact on);let lr:=(R.row on).2;refine By (ML (AW (AW (AD rfl (AD rfl (B7 (s1 _ _ aj) (DD eb) (AD rfl (B7 (s1 _ _ Y) (DD (Dm (by rw [lr];exact hi))) ⟨_,rfl,D,rfl,?_⟩))))))));let e:P[j]?=some (-(en L (nth os j) i)):=by rw [a3,Ac,AT D,Eg D];rfl
    rw [Ed V.int e];rfl
   rintro c2 J ⟨_,rfl,rfl⟩ du bc;rw [show P.take (iN os).length=P by rw [CN,<-b4,B4]];let s2:=AM bc (.lst (~~~P));generalize bd:upd J du (.lst (~~~P))=H2 at *;let b5:H2 du=some (.lst (~~~P)):=by rw [<-bd];exact upd_same
   let C2:=C1.tp s2;let a4:=s2 _ _ ab
   let be:∀ z∈P,Bd 4000 z:=λz X=>by
    rw [a3] at X;let ⟨o,ho,rfl⟩:=Ao.mp X;let ⟨r,hr,hm⟩:=R.en_mem (ol o ho) hi;exact (bL r hr _ hm).neg
   show Qn K _ _ _;refine Ab (JL (Cm (AD rfl ⟨x,A,dx,fs,_,rfl,a4,U.cl,U.a4,fo.f4,Cm (AD rfl ⟨x,A,dx,fs,_,rfl,a4,U.cl,U.a5,fo.f5,AD rfl (Cm (AD rfl ⟨x,A,dx,fs,_,rfl,a4,U.cl,U.a1,fo.f1,m,t,du,M,T,P,↑os,p,rfl,C2.hm,C2.ht,b5,c.rM,c.rT,b4,dw,p2,bp,c.iT,c.inv,bM,be,λso yy O B H3 s3 a5 bg c3 B0 bB bk bl=>?_⟩))⟩)⟩)));let C3:=C2.tp s3;let bm:=s3 _ _ a4;show Qm K _ _ _;refine Ab (DS (Cm (AD rfl ⟨x,A,dx,fs,_,rfl,bm,U.cl,U.a3,fo.f3,CG rfl a5 (F5 _ _) (AD rfl ⟨z,yy,G,O,w,rfl,C3.hz,bg,⋯,cl,b1,⋯,λro rs H4 s4 b6 al bq r1 r0=>?_⟩)⟩)));let a6:=(s2.trans s3).trans s4;let bt:H ro=none:=(s1.trans (s2.trans s3)).free b6;let b7:fr≠ro:=As (s3 _ _ (s2 _ _ I)) b6;show Ql K _ _ _;refine GJ (CG rfl (s4 _ _ a5) (E9 _ _) ⟨_,rfl,_,rfl,ro,_,_,i,rfl,rfl,al,HI (by rw [AI];omega),?_⟩);rw [<-List.map_set];let ⟨f,hf⟩:∃ f,f=rs.set i B:=⟨_,rfl⟩;rw [<-hf];let k5:Kp ro H4 (upd H4 ro (.lst (~~~f))):=Kp.upd;generalize bw:upd H4 ro (.lst (~~~f))=H5 at *;let a7:H5 ro=some (.lst (~~~f)):=by rw [<-bw];exact upd_same
   let s5:Same H H5:=λb o Y=>k5 b o (As Y bt) (a6 _ _ (s1 _ _ Y));let cf:∀ j,co f j=if j=i then B else co rs j:=λj=>by rw [hf];exact Jq ⋯
   let lf:↑f=w:=by rw [hf,C7];exact bq
   let fB:co f i=B:=by rw [cf,pB rfl]
   let fc:∀ s,s<↑os->co f (nth G s)=co O s:=λs hs=>by
    rw [cf,qZ λe=>ic (by rw [<-e];exact Ce ⋯)];exact r1 s ⋯
   let f0:∀ j,j<w->j∉G->j≠i->co f j=0:=λj D jc ji=>by
    rw [cf,qZ ji];exact r0 j λs hs e=>jc (by rw [<-e];exact Ce hs)
   let bf:∀ z∈f,Bd 250000 z:=λzz X=>by
    let ⟨j,D,rfl⟩:=DY.mp X;let e:f[j]=co f j:=by unfold co;rw [AJ,AT D];rfl
    rw [e];by_cases ji:j=i
    ·rw [ji,fB];exact bB
    ·by_cases jc:j∈G
     ·let ⟨s,hs,rfl⟩:=Ef jc;rw [fc s ⋯];exact bk _ (CM ⋯)
     ·rw [f0 j ⋯ jc ji];exact EK _
   let sum:∀ o,su w (λj=>en L o j*co f j)=su ↑os (λs=>en L o (nth G s)*co O s)+en L o i*B:=λo=>by
    rw [MK (d:=↑os) (c:=nth G) (q:=i) (f:=co f) (λj=>en L o j) (λs hs=>cl _ (Ce ⋯)) (λs t hs ht e=>IJ b1 ⋯ ⋯ e) hi (λs hs e=>ic (by rw [<-e];exact Ce ⋯)) (λj D h1 h2=>f0 j D (λjc=>by
     let ⟨s,hs,e⟩:=Ef jc;exact h1 s ⋯ e) h2),fB,AU (f:=λs=>en L o (nth G s)*co f (nth G s)) (g:=λs=>en L o (nth G s)*co O s) ↑os λs hs=>by rw [fc s hs]]
   let ap:∀ tt,tt<↑os->su w (λj=>en L (nth os tt) j*co f j)=0:=λtt ht=>by
    rw [sum,AU (g:=λs=>en M tt s*co O s) ↑os λs hs=>by rw [c.eM tt ht s hs],bl tt ht]
    let e:co P tt = -(en L (nth os tt) i):=by
     unfold co;rw [a3,AJ,Ac,AT ht,Eg ht];rfl
    rw [e];ext
   show Qk K _ _ _;refine D1 (show tB _ _ _ _ from Bg (Cy (AD rfl ⟨a,rfl,⟨_,SqL.of (s5 _ _ aj)⟩,CompJ.lst (xs:=ws) (λj O J=>j<=↑ws/\Same H5 J/\∃ N:cL,O=N.map V.int/\↑N=j/\∀ o,o<j->co N o=su w λq=>en L o q*co f q) ⟨AX _,Same.refl H5,[],rfl,rfl,λo h=>absurd h (BD o)⟩ ?_ ?_ ?_⟩)))
   ·rintro j O J ⟨D,s,N,rfl,ld,_⟩;exact ⟨D,sz (by rw [AI];have:=R.1;omega),SqL.of (s _ _ (s5 _ _ aj))⟩
   ·rintro j v O J hv ⟨_,s,N,rfl,ld,hd⟩;let D:j<↑ws:=(Ax.mp hv).1;let ⟨b,rr,rfl,er,Y⟩:=hS.get hv;let eg:L.getD j []=rr:=by rw [AJ,er];rfl
    let rm:=A5 er;refine By (Al (AD rfl (AD rfl ⟨b,ro,rr,f,w,rfl,s _ _ (s5 _ _ Y),s _ _ a7,R.2 rr rm,lf,⋯,λzz X=>(bL rr rm zz X).mono ∅,λzz X=>(bf zz X).mono ∅,λH6 s6=>⟨D,s.trans s6,N++[su w λq=>co rr q*co f q],by rw [CP];rfl,by rw [B3,ld];rfl,λo ho=>?_⟩⟩)));by_cases q:o<j
    ·rw [IK ⋯];exact hd o q
    ·let eo:o=↑N+0:=by omega
     rw [eo,IL,Nat.add_zero,ld];unfold en;rw [eg];rfl
   rintro O H6 ⟨_,s6,N,rfl,ld,hd⟩ an bz;let wn:↑ws=n:=by rw [lw,R.1]
   rw [wn] at ld hd;let s7:=AM bz (.lst (~~~N));generalize c0:upd H6 an (.lst (~~~N))=H7 at *;let b9:H7 an=some (.lst (~~~N)):=by rw [<-c0];exact upd_same
   let S:=s6.trans s7;refine ⟨an,N,rfl,b9,_,rfl,Aj (λq=>?_) (λq=>?_)⟩
   ·let ⟨zz,X,nz⟩:=List.any_eq_true.mp q;let ⟨o,ho,rfl⟩:=DY.mp X;let e:N[o]=co N o:=by unfold co;rw [AJ,AT ho];rfl
    rw [e,hd o ⋯] at nz;exact kN _ (s5.trans S) ⟨o,co f,⋯,ap,by simpa using nz⟩
   ·let all:∀ o,o<n->su w (λj=>en L o j*co f j)=0:=λo ho=>Classical.byContradiction λnz=>q (List.any_eq_true.mpr ⟨co N o,CM ⋯,by rw [hd o ho];simpa using nz⟩);refine Sh ?_;show Qj K _ _ _;let a0:H7 fr=some (.lst Z):=S _ _ (k5 _ _ b7 (a6 _ _ I));let ba:H7 so=some (.tup [.ref yy,.int B]):=S _ _ (k5 _ _ (Fv (s4 _ _ a5) al (by intro z;cases z)) (s4 _ _ a5));let c1:Tp J H7:=λb o Y=>S _ _ (k5 _ _ (Fv (a6 _ _ Y) al (by intro z;cases z)) (a6 _ _ Y));let lF:=↑hF
    let c4:↑F<=w:=by
     have:=congrArg List.length eF;rw [AI] at this;have:=wR i G;omega
    refine ⟨_,rfl,.inl ⟨rfl,_,SqL.of a0⟩,Al (AD rfl (CG rfl ba (E9 _ _) ⟨ro,f,B,rfl,S _ _ a7,⋯,⋯,λu zs H8 s8 hu hN=>⟨fr,_,_,rfl,rfl,s8 _ _ a0,sz ⋯,hi,Z++[.ref u],F++[(i,f,B)],_,_,_,_,rfl,λb o Y=>?_,upd_same,?_,?_⟩⟩))⟩
    ·rw [Aq (As Y b3)];exact s8 _ _ (S _ _ (s5 _ _ Y))
    ·let b0:Tp H8 (upd H8 fr (.lst (Z++[.ref u]))):=Tp.updL (s8 _ _ a0);exact ((hF.tp c1).tp (D_ s8)).tp b0 |> FRs.snoc (q:=(i,f,B)) (b0 _ _ hu) (hN.tp b0) ⟨lf,B0,bB,bf,all,hi,ic,fB,f0⟩
    ·rw [CP,eF,Sw,qZ ic];rfl
  ·let ic:i∈G:=by simpa using q
   refine ⟨hi,Z,F,_,_,_,_,rfl,s1,I,hF,?_⟩;rw [Sw,pB ic,List.append_nil];exact eF
 ·rintro σ H1 ⟨_,Z,F,x4,x5,x6,x7,rfl,s1,I,hF,eF⟩;show Qp K _ _ _;exact Bb (AD rfl (k fr Z F H1 s1 I hF eF))
theorem bez (a b:Nat):∃ x y:Int,(a:Int)*x+(b:Int)*y=((Nat.gcd a b:Nat):Int):=by
 induction a,b using Nat.gcd.induction with
 | H0 n=>exact ⟨0,1,by rw [Nat.gcd_zero_left];omega⟩
 | H1 m n h c=>
   let ⟨x,y,e⟩:=c;refine ⟨y - (n / m:Nat)*x,x,?_⟩;rw [Nat.gcd_rec,<-e]
   let d:(n:Int)=(m:Int)*((n / m:Nat):Int)+((n % m:Nat):Int):=by
    have:=Nat.div_add_mod n m;omega
   ext
def Pr.inv {p:Nat} (h:Pr p) (D:Int) (a:¬ (p:Int)∣D):∃ E,Zm.of (p:Int) E*Zm.of (p:Int) D=1:=by
 let g:Nat.gcd D.natAbs p=1:=h.cop λz=>a (Int.dvd_natAbs.mp (Dt.mpr z));let ⟨x,y,e⟩:=bez D.natAbs p;rw [g] at e;refine ⟨x*D.sign,?_⟩;rw [<-Zm.of_mul,show (1:Zm (p:Int))=Zm.of (p:Int) 1 from rfl,Zm.of_eq];refine ⟨-y,?_⟩;let b:D.sign*D=(D.natAbs:Int):=Int.sign_mul_self D;let c:x*D.sign*D=(D.natAbs:Int)*x:=by rw [Co,b,Ci]
 rw [c];let e:(D.natAbs:Int)*x+(p:Int)*y=1:=e;rw [Int.mul_neg];omega
def wT {L:List (cL)} {n w:Nat} (R:Rect L n w) (bL:aB 4000 L) (w1:w<=10) :
  ∃ D:Nat,0<D/\D<=2 ^ 1000000/\∀ (p:Nat) (os cs:List Nat) (M T:List (cL)),CorM L n w p os cs M T->Pr p->¬ p∣D->¬ Ja L n w os:=by
 let ⟨r,o,c,D,rw',on,cw,D0,P,y⟩:=Ym (n:=n) (w:=w) (A:=2 ^ 4000) (b:=en L) (λi S j F=>by
  let ⟨r',U,hm⟩:=R.en_mem S F;exact Nat.le_of_lt (bL r' U _ hm)) (Nat.pow_pos ∅)
 let xs:=Ss (k:=r) ⋯;let nz:=O0 r λs a=>(D0 s a).1;refine ⟨(pd r D).natAbs,⋯,?_,λp os cs M T C O pD=>?_⟩
 ·refine BM (O4 r λs a=>BM (D0 s a).2 xs) ?_;rw [<-Nat.pow_mul];exact MI ⋯
 rintro ⟨i,f,S,u,X⟩;let p2:=O.two;let ⟨d,hd⟩:∃ d,d=↑os:=⟨_,rfl⟩;let lc:=C.lc;let N:=C.inv;let eM:=C.eM;rw [<-hd] at u lc N eM;let G:∀ s,s<r->∃ E,Zm.of (p:Int) E*Zm.of (p:Int) (D s)=1:=λs a=>O.inv (D s) λz=>pD (Dt.mp (Int.dvd_natAbs.mpr (DX z (O3 a))))
 let ⟨W,hW⟩:∃ W:Nat->Nat->Zm (p:Int),∀ s,s<r->∀ J,J<r->su r (λt=>W s t*Zm.of (p:Int) (en L (o t) (c J)))=dl s J:=by
  refine ⟨λs t=>if h:s<r then Zm.of (p:Int) (Classical.choose (G s h))*Zm.of (p:Int) (Classical.choose (P s h) t) else 0,λs a J Y=>?_⟩;let ce:=Classical.choose_spec (G s a);let y:=Classical.choose_spec (P s a) J Y
  rw [AU (g:=λt=>Zm.of (p:Int) (Classical.choose (G s a))*Zm.of (p:Int) (Classical.choose (P s a) t*en L (o t) (c J))) r λt _=>by
   show (if h:s<r then _ else _)*_=_;rw [dif_pos a,Zm.of_mul,Lean.Grind.Semiring.mul_assoc],BK,<-Zm.of_su,y,Zm.of_mul,<-Lean.Grind.Semiring.mul_assoc,ce]
  unfold dl;split
  ·show (1:Zm (p:Int))*1=1;ext
  ·show (1:Zm (p:Int))*0=0;ext
 let Z:r<=d:=Nat.le_of_not_lt λlt=>by
  let y:∀ t,t<r->∃ z:cY,∀ j,j<w->(p:Int)∣en L (o t) j - su d λs=>z s*en L (nth os s) j:=λt m=>by rw [hd];exact C.span (o t) (on t m)
  let ⟨I,⟨l,hl,nl⟩,e⟩:=aV O.dom d r (λt s=>if h:t<r then Zm.of (p:Int) (Classical.choose (y t h) s) else 0) lt;refine nl (c8 O.dom (k:=r) (W:=W) (M:=λt s=>Zm.of (p:Int) (en L (o t) (c s))) hW (v:=I) (λs a=>?_) l hl)
  let ez:∀ t,t<r->Zm.of (p:Int) (en L (o t) (c s))=su d λq=>(if h:t<r then Zm.of (p:Int) (Classical.choose (y t h) q) else 0)*Zm.of (p:Int) (en L (nth os q) (c s)):=λt m=>by
   have:=Zm.of_eq.mpr (Classical.choose_spec (y t m) (c s) (cw s a));rw [this,Zm.of_su];exact AU d λq _=>by rw [dif_pos m,Zm.of_mul]
  rw [AU (g:=λt=>su d λq=>I t*(if h:t<r then Zm.of (p:Int) (Classical.choose (y t h) q) else 0)*Zm.of (p:Int) (en L (nth os q) (c s))) r λt m=>by
   rw [ez t m,<-BK];exact AU d λq _=>by rw [Lean.Grind.Semiring.mul_assoc],Dk]
  exact Bw λq hq=>by rw [Cd,e q hq,Lean.Grind.Semiring.zero_mul]
 let ⟨I,⟨l,hl,nl⟩,e⟩:=aV domQ r (d+1) (λt s=>if h:(if t=d then i else nth os t)<n then Classical.choose (y _ h) s else 0) ⋯
 let bn:∀ t,t<d+1->(if t=d then i else nth os t)<n:=λt m=>by
  by_cases q:t=d
  ·rw [pB q];exact S
  ·rw [qZ q];exact C.ol _ (Ce ⋯)
 let zero:∀ j,j<w->su (d+1) (λt=>I t*(en L (if t=d then i else nth os t) j:Rat))=0:=λj F=>by
  rw [AU (g:=λt=>su r λq=>I t*(if h:(if t=d then i else nth os t)<n then Classical.choose (y _ h) q else 0)*(en L (o q) j:Rat)) (d+1) λt m=>by
   rw [Classical.choose_spec (y _ (bn t m)) j F,<-BK];exact AU r λq _=>by rw [dif_pos (bn t m),Rat.mul_assoc],Dk]
  exact Bw λq hq=>by rw [Cd,e q hq,Rat.zero_mul]
 let ⟨B,V,b0,hV⟩:=Oz I (d+1)
 let zI:∀ j,j<w->su d (λt=>V t*en L (nth os t) j)+V d*en L i j=0:=λj F=>by
  let h:su (d+1) (λt=>V t*en L (if t=d then i else nth os t) j)=0:=Fk (by
   rw [GN,AU (g:=λt=>(B:Rat)*(I t*(en L (if t=d then i else nth os t) j:Rat))) (d+1) λt m=>by rw [B6,hV t m,Rat.mul_assoc],BK,zero j F,Rat.mul_zero];rfl)
  let h:su d (λt=>V t*en L (if t=d then i else nth os t) j)+V d*en L (if d=d then i else nth os d) j=0:=h;rw [pB rfl,AU (f:=λt=>V t*en L (if t=d then i else nth os t) j) (g:=λt=>V t*en L (nth os t) j) d λt m=>by rw [qZ ⋯]] at h;exact h
 let vd:V d=0:=by
  let Z:su w (λj=>(su d (λr=>V r*en L (nth os r) j)+V d*en L i j)*f j)=0:=Bw λj F=>by rw [zI j F,ES]
  rw [AU (g:=λj=>su d (λr=>V r*(en L (nth os r) j*f j))+V d*(en L i j*f j)) w λj _=>by
   rw [Int.add_mul,<-Cd,Co,AU (f:=λr=>V r*en L (nth os r) j*f j) (g:=λr=>V r*(en L (nth os r) j*f j)) d λr _=>Co ..],Fi,Dk,BK,Bw (n:=d) (λr hr=>by rw [BK,u r hr,EC]),Int.zero_add] at Z
  exact (Int.mul_eq_zero.mp Z).resolve_right X
 let vz:=N.flip.null p2 (x:=V) (λs a=>by
  have:=zI (nth cs s) (C.cl _ (Ce ⋯));rw [vd,ES,Int.add_zero] at this;rw [AU (g:=λr=>V r*en L (nth os r) (nth cs s)) d λr hr=>by rw [eM r hr s a,Ci]];exact this)
 let vl:V l=0:=by
  by_cases q:l=d
  ·rw [q];exact vd
  ·exact vz l ⋯
 have:=hV l hl;rw [vl] at this;let a0:(B:Rat)≠0:=λz=>b0 (Fk z);exact nl ((domQ.mul this.symm).resolve_left a0)
def Inv2.congr {p:Int} {k:Nat} {M T d e:Nat->cY} (I:Inv2 p k M T) (f:∀ i,i<k->∀ j,j<k->d i j=M i j) (h:∀ i,i<k->∀ j,j<k->e i j=T i j):Inv2 p k d e:=
 ⟨λi a j b=>by rw [AU (g:=λt=>M i t*T t j) k λt c=>by rw [f i a t c,h t c j b]];exact I.mt i a j b,λi a j b=>by rw [AU (g:=λt=>T i t*M t j) k λt c=>by rw [h i a t c,f t c j b]];exact I.tm i a j b⟩
def CorM.bM {L M T:List (cL)} {n w p b:Nat} {os cs:List Nat} (c:CorM L n w p os cs M T) (R:Rect L n w) (g:aB b L):aB b M:=λr d z h=>by
 let ⟨i,k,rfl⟩:=DY.mp d;let ⟨j,m,rfl⟩:=DY.mp h;let q:=c.lc;let a:i<↑os:=by have:=c.rM.1;omega
 let f:j<↑os:=by have:=c.rM.2 _ d;omega
 let e:M[i][j]=en M i j:=by
  unfold en co;rw [AJ (l:=M),AT k];show M[i][j]=(M[i]).getD j 0;rw [AJ,AT m];rfl
 rw [e,c.eM i a j f];let ⟨r,d,o⟩:=R.en_mem (c.ol _ (Ce a)) (c.cl _ (Ce (by omega:j<↑cs)));exact g r d _ o
def wU {K:W.Frag} (F:ClsOk K (B1 K)) {vs:cJ} {H:Hp} {Q:VK} {E:XK} (h:LY K vs H Q E):ZP K (eA Q) (L2.start ["sides","core","place","due","solution","weights"] vs) H:=by
 let ⟨a,x,y,z,m,t,L,M,T,n,w,p,os,I,i,rfl,hL,R,n1,w1,bL,p2,bp,C,U,io,k⟩:=h;generalize B1 K=A at *;let c:=C.c;let lc:=c.lc;let ol:=c.ol;let cl:=c.cl;let dw:↑os<=10:=by have:=MJ c.cu c.cl;omega
 let bM:=c.bM R bL;let ⟨dx,fs,hx,fo⟩:=C.at';let ⟨ws,a3,hS⟩:=hL;let ⟨b,eb,hb⟩:=hS.at (i:=i) (by rw [R.1];exact U);let lr:=(R.row U).2;refine Ab (Al (AW (AD rfl (AD rfl (B7 a3 (DD eb) (Cm (AD rfl ⟨x,A,dx,fs,_,rfl,hx,F.cl,F.a3,fo.f3,b,z,_,I,rfl,hb,C.hz,λj u=>by rw [lr];exact cl j u,⋯,λdu ap=>?_⟩)))))));let ⟨G,J⟩:∃ G,G=I.map (co (L.getD i [])):=⟨_,rfl⟩;rw [<-J];let b0:↑G=↑os:=by rw [J,AI];exact lc
 let b1:∀ s,s<↑os->co G s=en L i (nth I s):=λs N=>by
  let a4:s<↑I:=by omega
  show G.getD s 0=_;rw [J,AJ,Ac,AT a4,Eg a4];rfl
 let b2:∀ z∈G,Bd 4000 z:=λz hz=>by
  rw [J] at hz;let ⟨j,u,rfl⟩:=Ao.mp hz;exact bL _ (R.row U).1 _ (CM (by rw [lr];exact cl j u))
 let s1:=AM ap (.lst (~~~G));generalize b3:upd H du (.lst (~~~G))=H1 at *;let a5:H1 du=some (.lst (~~~G)):=by rw [<-b3];exact upd_same
 let C1:=C.tp s1;let O:=s1 _ _ hx;show Qv K _ _ _;refine Ab (JL (CL (Cm (AD rfl ⟨x,A,dx,fs,_,rfl,O,F.cl,F.a4,fo.f4,m,M,↑os,↑os,rfl,C1.hm,c.rM,id,⋯,⋯,λm2 M2 H2 s2 b4 b5 a6 b6=>CL (Cm (AD rfl ⟨x,A,dx,fs,_,rfl,s2 _ _ O,F.cl,F.a5,fo.f5,t,T,↑os,↑os,rfl,C1.ht.tp s2,c.rT,id,⋯,⋯,λt2 T2 H3 s3 b7 b9 ba bb=>AD rfl (Cm (AD rfl ⟨x,A,dx,fs,_,rfl,s3 _ _ (s2 _ _ O),F.cl,F.a1,fo.f1,m2,t2,du,M2,T2,G,↑os,p,rfl,b4.tp s3,b7,s3 _ _ (s2 _ _ a5),b5,b9,b0,dw,p2,bp,bb (λz=>0<=z/\z<(p:Int)) c.iT,c.inv.flip.congr (λi U j u=>a6 j u i U) (λi U j u=>ba j u i U),b6 (λz=>Bd 4000 z) bM,b2,λso yy Y B H4 s4 S a7 bz B0 bB bc bd=>?_⟩))⟩))⟩))));let Z:=(s2.trans s3).trans s4;let C4:=C1.tp Z;let be:=Z _ _ O;let bf:=s1.trans Z;show Qu K _ _ _;refine Ab (DS (Cm (AD rfl ⟨x,A,dx,fs,_,rfl,be,F.cl,F.a2,fo.f2,Cy (CG rfl S (F5 _ _) ⟨yy,rfl,⟨_,SqL.of a7⟩,IG (λz=>-z) a7 ⋯ (λn hn P hP=>⟨_,rfl,_,rfl,hP⟩) λng bg=>?_⟩)⟩)));let s5:=AM bg (.lst ((Y.map λz=>-z).map V.int));generalize bk:upd H4 ng (.lst ((Y.map λz=>-z).map V.int))=H5 at *;let ab:H5 ng=some (.lst ((Y.map λz=>-z).map V.int)):=by rw [<-bk];exact upd_same
 let a0:=bf.trans s5;let wn:↑ws=n:=by rw [↑hS,R.1]
 refine Fg (AD rfl (Fh (a0 _ _ a3) ⟨y,ng,os,Y.map λz=>-z,n,by rw [wn],s5 _ _ C4.hy,ab,by rw [AI];omega,ol,c.ou,⋯,λX rs H6 s6 bl aj bm r1 r0=>?_⟩));show Qt K _ _ _;refine GJ (CG rfl (s6 _ _ (s5 _ _ S)) (E9 _ _) ⟨_,rfl,_,rfl,X,_,_,i,rfl,rfl,aj,HI (by rw [AI];omega),?_⟩);rw [<-List.map_set];let bq:H X=none:=a0.free bl;let ⟨W,hW⟩:∃ W,W=rs.set i B:=⟨_,rfl⟩;rw [<-hW];let k7:Kp X H6 (upd H6 X (.lst (~~~W))):=Kp.upd;generalize bt:upd H6 X (.lst (~~~W))=H7 at *;let al:H7 X=some (.lst (~~~W)):=by rw [<-bt];exact upd_same
 let bw:Same H H7:=λb o hb=>k7 b o (As hb bq) (s6 _ _ (a0 _ _ hb));let lW:↑W=n:=by rw [hW,C7];exact bm
 let cW:∀ j,co W j=if j=i then B else co rs j:=λj=>by rw [hW];exact Jq ⋯
 let WB:co W i=B:=by rw [cW,pB rfl]
 let Wo:∀ D,D<↑os->co W (nth os D) = - co Y D:=λD v=>by
  rw [cW,qZ λe=>io (by rw [<-e];exact Ce v),r1 D v];exact Jp _ ⋯
 let W0:∀ j,j<n->j∉os->j≠i->co W j=0:=λj u jo ji=>by
  rw [cW,qZ ji];exact r0 j λs N e=>jo (by rw [<-e];exact Ce N)
 show Qs K _ _ _;refine Bb (DG (AD rfl (CG rfl (k7 _ _ (Fv (s6 _ _ (s5 _ _ S)) aj (by intro z;cases z)) (s6 _ _ (s5 _ _ S))) (E9 _ _) ⟨CH,λr hr=>?_⟩)));let s8:=AM hr (.tup [.ref X,.int B]);refine k r X W B _ (bw.trans s8) upd_same (s8 _ _ al) lW B0 bB (λzz hz=>?_) WB W0 λs N=>?_
 ·let ⟨j,u,rfl⟩:=DY.mp hz;let e:W[j]=co W j:=by unfold co;rw [AJ,AT u];rfl
  rw [e];by_cases ji:j=i
  ·rw [ji,WB];exact bB
  ·by_cases jo:j∈os
   ·let ⟨D,v,rfl⟩:=Ef jo;rw [Wo D v];exact (bc _ (CM ⋯)).neg
   ·rw [W0 j ⋯ jo ji];exact EK _
 ·rw [AU (g:=λj=>en L j (nth I s)*co W j) n λj _=>Ci _ _,MK (d:=↑os) (c:=nth os) (q:=i) (f:=co W) (λj=>en L j (nth I s)) (λD v=>ol _ (Ce v)) (λs t N v e=>IJ c.ou N v e) U (λD v e=>io (by rw [<-e];exact Ce v)) (λj u h1 h2=>W0 j u (λjo=>by
   let ⟨D,v,e⟩:=Ef jo;exact h1 D v e) h2),WB]
  let e:=bd s N;rw [AU (g:=λj=>en L (nth os j) (nth I s)*co Y j) ↑os λj u=>by rw [a6 j u s N,c.eM j u s N],b1 s N] at e;rw [AU (f:=λan=>en L (nth os an) (nth I s)*co W (nth os an)) (g:=λj=>(-1)*(en L (nth os j) (nth I s)*co Y j)) ↑os λj u=>by rw [Wo j u];ext,BK,e];omega
def wV {R:Type} [Lean.Grind.CommRing R] {w d:Nat} {c:Nat->Nat} {f:Nat->R} (g:Nat->R) (p:∀ s,s<d->c s<w) (h:∀ s t,s<d->t<d->c s=c t->s=t) (i:∀ j,j<w->(∀ s,s<d->c s≠j)->f j=0) :
  su w (λj=>g j*f j)=su d (λs=>g (c s)*f (c s)):=by
 let k:∀ j,j<w->f j=su d (λs=>f (c s)*dl (c s) j):=λj m=>by
  by_cases a:∃ s,s<d/\c s=j
  ·let ⟨n,o,rfl⟩:=a
   rw [AU (g:=λs=>(λs=>f (c s)) s*dl s n) d λs b=>by
    unfold dl;by_cases e:c s=c n
    ·rw [pB e,pB (h s n b o e)]
    ·rw [qZ e,qZ λz=>e (by rw [z])],Et (λs=>f (c s)),pB o]
  ·let a:∀ s,s<d->c s≠j:=λs b z=>a ⟨s,b,z⟩
   rw [Bw λs b=>by
    unfold dl;rw [qZ (a s b)];grind]
   exact i j m a
 rw [AU (g:=λj=>su d (λs=>f (c s)*dl (c s) j)*g j) w λj m=>by rw [<-k j m];ext,LB p (λs=>f (c s)) g];exact AU d λs _=>by ext
def Sy {l:cF} (b:Am l) {j:Nat} (a:j<↑l):((co (AY l) j:Int):Rat)=vl l j*((Ag l:Int):Rat):=by
 let c:=(DF b).2 _ (Cn a);let lo:=b _ (Cn a)
 let d:co (AY l) j=l[j].1*(Ag l / l[j].2):=by
  unfold co AY;rw [AJ,Ac,AT a];rfl
 let e:vl l j=(l[j].1:Rat) / (l[j].2:Rat):=by
  unfold vl val;rw [AJ,AT a];rfl
 let ⟨t,f⟩:=c;let p:=lo.pos;let g:((l[j].2:Int):Rat)≠0:=A4 ⋯;rw [d,e,f,Ey _ ⋯];push_cast;ext
def MM {b m:Nat} {l:cF} {M:Int} (h:NuOk b l) (o:Ov l M) (e:Bd m M):(∀ z∈AY l,Bd (b+m) z)/\Bd m (Ag l):=by
 let f:=(DF h.1).1;let a:Bd m (Ag l):=DR (Ah o.1) (Kr h.1 o) e;refine ⟨λz c=>?_,a⟩;unfold AY at c;let ⟨q,d,rfl⟩:=Ao.mp c;exact ((h.2 q d).1).mul (a.le (OO f (h.1 q d).pos))
def Js (l:cF):(AY l).length=↑l:=by unfold AY;rw [AI]
noncomputable def CLs (H:Hp):cJ->List cE->Prop
 | [],[]=>True
 | x::b,l::c=>(∃ r a,x=.ref r/\H r=some (.tup [.ref a,.int (Ag l)])/\H a=some (.lst ((AY l).map V.int)))/\CLs H b c
 | _,_=>False
theorem CLs.tp {H b:Hp} (s:Same H b):∀ {xs:cJ} {ls:List cE},CLs H xs ls->CLs b xs ls
 | [],[],_=>trivial
 | _::_,_::_,h=>⟨let ⟨r,a,e,c,d⟩:=h.1;⟨r,a,e,s _ _ c,s _ _ d⟩,CLs.tp s h.2⟩
 | [],_::_,h=>h.elim
 | _::_,[],h=>h.elim
theorem CLs.length {H:Hp}:∀ {xs:cJ} {ls:List cE},CLs H xs ls->↑xs=↑ls
 | [],[],_=>rfl
 | _::_,_::_,h=>congrArg (·+1) (CLs.length h.2)
 | [],_::_,h=>h.elim
 | _::_,[],h=>h.elim
theorem CLs.get {H:Hp}:∀ {xs:cJ} {ls:List cE} {i:Nat} {v:V},CLs H xs ls->xs[i]?=some v->∃ r a l,v=.ref r/\ls[i]?=some l/\H r=some (.tup [.ref a,.int (Ag l)])/\H a=some (.lst ((AY l).map V.int))
 | [],[],_,_,_,e=>by simp at e
 | _::_,l::_,0,_,h,e=>by
   simp at e;subst e;let ⟨r,a,e,b,c⟩:=h.1;exact ⟨r,a,l,e,rfl,b,c⟩
 | _::_,_::_,i+1,_,h,e=>by
   let ⟨r,a,l,d,f,g⟩:=CLs.get (i:=i) h.2 (by simpa using e);exact ⟨r,a,l,d,by simpa using f,g⟩
 | [],_::_,_,_,h,_=>h.elim
 | _::_,[],_,_,h,_=>h.elim
theorem CLs.snoc {H:Hp} {r a:Addr} {l:cF} (b:H r=some (.tup [.ref a,.int (Ag l)])) (c:H a=some (.lst ((AY l).map V.int))):∀ {xs:cJ} {ls:List cE},CLs H xs ls->CLs H (xs++[.ref r]) (ls++[l])
 | [],[],_=>⟨⟨r,a,rfl,b,c⟩,trivial⟩
 | _::_,_::_,h=>⟨h.1,CLs.snoc b c h.2⟩
 | [],_::_,h=>h.elim
 | _::_,[],h=>h.elim
theorem NRs.get {H:Hp}:∀ {xs:cJ} {A:List cE} {i:Nat} {v:V},NRs H xs A->xs[i]?=some v->∃ a b l,v=.ref a/\A[i]?=some l/\H a=some (.lst b)/\Nums H b l
 | [],[],_,_,_,e=>by simp at e
 | _::_,l::_,0,_,h,e=>by
   simp at e;subst e;let ⟨a,b,e,c,d⟩:=h.1;exact ⟨a,b,l,e,rfl,c,d⟩
 | _::_,_::_,i+1,_,h,e=>by
   let ⟨a,b,l,f,g,j⟩:=NRs.get (i:=i) h.2 (by simpa using e);exact ⟨a,b,l,f,by simpa using g,j⟩
 | [],_::_,_,_,h,_=>h.elim
 | _::_,[],_,_,h,_=>h.elim
theorem NRs.length {H:Hp}:∀ {xs:cJ} {A:List cE},NRs H xs A->↑xs=↑A
 | [],[],_=>rfl
 | _::_,_::_,h=>congrArg (·+1) (NRs.length h.2)
 | [],_::_,h=>h.elim
 | _::_,[],h=>h.elim
def Sz {xs:cJ} {w:Nat} (h:↑xs=w+1):Be xs none (some (-1))=xs.take w:=by
 unfold Be HT.sIx;simp only [List.drop_zero,Nat.sub_zero];rw [pB ∅,show ((-1:Int)+(↑xs:Int)).toNat=w by omega]
def wW {xs:cJ} {w:Nat} {v:V} (h:↑xs=w+1) (a:xs[w]?=some v):N_ xs (-1)=some v:=by
 unfold N_ Y_;rw [qZ ∅,pB ⋯,show ((-1:Int)+(↑xs:Int)).toNat=w by omega];exact a
structure Eqs (H:Hp) (A:List cE) (B:cF) (n w:Nat) (ln sd du:Addr) (ls:List cE) (L:List (cL)) (ds:cL):Prop where
 hl:∃ zs,H ln=some (.lst zs)/\CLs H zs ls
 hs:SD H sd L
 hd:H du=some (.lst (~~~ds))
 ll:↑ls=n
 ld:↑ds=n
 rL:Rect L n w
 bL:aB 4000 L
 bd:∀ z∈ds,Bd 4000 z
 b0:∀ l∈ls,0<Ag l/\Bd 2500 (Ag l)
 eL:∀ i,i<n->∀ j,j<w->((en L i j:Int):Rat)=vr A i j*((Ag (ls.getD i []):Int):Rat)
 ed:∀ i,i<n->((co ds i:Int):Rat)=vl B i*((Ag (ls.getD i []):Int):Rat)
def Eqs.tp {H a:Hp} {A:List cE} {B:cF} {n w:Nat} {b sd d:Addr} {ls:List cE} {L:List (cL)} {ds:cL} (e:Eqs H A B n w b sd d ls L ds) (s:Same H a):Eqs a A B n w b sd d ls L ds:=
 ⟨let ⟨f,h,c⟩:=e.hl;⟨f,s _ _ h,c.tp s⟩,e.hs.tp s,s _ _ e.hd,e.ll,e.ld,e.rL,e.bL,e.bd,e.b0,e.eL,e.ed⟩
def wX {K:W.Frag} {H:Hp} {D:Ends} {a b:Addr} {xs ys:cJ} {A:List cE} {B:cF} {n w:Nat} {x5 x6 x7 x8 x9 a4 a5 a6:cK} (ha:H a=some (.lst xs)) (hb:H b=some (.lst ys)) (hA:NRs H xs A) (hB:Nums H ys B) (lA:↑A=n) (lB:↑B=n) (rA:∀ l∈A,↑l=w) (n1:n<=20) (w1:w<=10)
  (ok:∀ i,i<n->NuOk 1400 (A.getD i []++[B.getD i (0,1)])/\∃ m,Ov (A.getD i []++[B.getD i (0,1)]) m/\Bd 2500 m)
  (k:∀ (S sd du:Addr) (ls:List cE) (L:List (cL)) (ds:cL) (o:Hp),Same H o->Eqs o A B n w S sd du ls L ds->QY K D [↥a,↥b,↥S,↥sd,↥du,x5,x6,x7,x8,x9,a4,a5,a6] o) :
  Qb K D [↥a,↥b,none,none,none,x5,x6,x7,x8,x9,a4,a5,a6] H:=by
 let lx:=↑hA;let ly:=↑hB;let ⟨ls,G⟩:∃ ls:List cE,ls=(List.range n).map λi=>A.getD i []++[B.getD i (0,1)]:=⟨_,rfl⟩;let U:↑ls=n:=by rw [G,AI,Au]
 let a7:∀ i,i<n->ls.getD i []=A.getD i []++[B.getD i (0,1)]:=λi h=>by rw [G,D3 _ _ h]
 let gA:∀ i,i<n->A.getD i []∈A:=λi h=>by rw [AJ,AT ⋯];exact Cn _
 let lw:∀ l∈ls,↑l=w+1:=λl F=>by
  rw [G] at F;let ⟨i,h,rfl⟩:=Ao.mp F;rw [B3,rA _ (gA i (D5.mp h))];rfl
 let I:∀ l∈ls,NuOk 1400 l/\∃ m,Ov l m/\Bd 2500 m:=λl F=>by
  rw [G] at F;let ⟨i,h,rfl⟩:=Ao.mp F;exact ok i (D5.mp h)
 refine Ab (HH ⟨_,rfl,_,rfl,a,b,rfl,⟨_,SqL.of ha⟩,⟨_,SqL.of hb⟩,CompJ.zip (xs:=xs) (ys:=ys) ⋯ (λi u o=>i<=↑xs/\Same H o/\CLs o u (ls.take i)) ⟨AX _,Same.refl H,trivial⟩ ?_ ?_ ?_⟩)
 ·rintro i u o ⟨h,s,X⟩;exact ⟨h,sz (by rw [↑X,BC];omega),SqL.of (s _ _ ha),SqL.of (s _ _ hb)⟩
 ·rintro i x y u o p hx hy ⟨_,s,X⟩ hp;let h:i<↑xs:=(Ax.mp hx).1;let Y:i<n:=by omega
  let ⟨r,Z,l,rfl,el,J,hN⟩:=hA.get hx;let ⟨q,eq,hq⟩:=hB.get hy;let e1:A.getD i []=l:=by rw [AJ,el];rfl
  let e2:B.getD i (0,1)=q:=by rw [AJ,eq];rfl
  let s2:=AM hp (.tup [.ref r,y]);refine ⟨p,_,rfl,upd_same,rfl,_,_,rfl,_,_,rfl,rfl,?_⟩;generalize ab:upd o p (.tup [.ref r,y])=H2 at *;let aj:=s.trans s2;let ⟨N,m,T,o3⟩:=ok i Y;rw [e1,e2] at N T;refine CL (AW (Bg (AD rfl ⟨r,Z,rfl,aj _ _ J,λc hc=>?_⟩)));let s3:=AM hc (.lst Z);refine DH (AD rfl ⟨Cb,λd hd=>?_⟩);let s4:=AM hd (.lst [y]);let ap:↑Z=w:=by rw [↑hN];rw [<-e1];exact rA _ (gA i Y)
  refine ⟨c,d,Z,[y],rfl,rfl,s4 _ _ upd_same,upd_same,sz (by show ↑Z+1<=_;omega),λe he=>?_⟩;let s5:=AM he (.lst (Z++[y]));let al:=((aj.trans s3).trans s4).trans s5;refine ⟨e,Z++[y],l++[q],m,rfl,.inr upd_same,(hN.tp (D_ al)).append (Nums.one (hq.tp (D_ al))),N.1,T,o3.mono ∅,λz hz=>((N.2 z hz).1).mono ∅,by rw [B3,<-↑hN,ap];show w+1<=_;omega,λf g H6 s6 hf hg=>?_⟩;let st:=((s2.trans s3).trans s4).trans (s5.trans s6);refine ⟨h,s.trans st,?_⟩;let e0:ls[i]?=some (l++[q]):=by rw [G,Ac,Cp Y,<-e1,<-e2];rfl
  let et:ls.take (i+1)=ls.take i++[l++[q]]:=by rw [DW,e0];rfl
  rw [et];exact (X.tp st).snoc hf hg
 rintro u H1 ⟨_,s1,X⟩ S b0;rw [show ls.take ↑xs=ls by rw [show ↑xs=↑ls by omega,B4]] at X;let lz:=↑X;let s2:=AM b0 (.lst u);generalize ab:upd H1 S (.lst u)=H2 at *;let C:H2 S=some (.lst u):=by rw [<-ab];exact upd_same
 let a0:=X.tp s2;show Qa K _ _ _;let ⟨L,hL⟩:∃ L:List (cL),L=ls.map λl=>(AY l).take w:=⟨_,rfl⟩;refine Ab (Cy (AD rfl ⟨S,rfl,⟨_,SqL.of C⟩,CompJ.lst (xs:=u) (λi ys o=>i<=↑u/\Same H2 o/\SDs o ys (L.take i)) ⟨AX _,Same.refl H2,trivial⟩ ?_ ?_ ?_⟩))
 ·rintro i ys o ⟨h,s,hS⟩;exact ⟨h,sz (by rw [↑hS,BC];omega),SqL.of (s _ _ C)⟩
 ·rintro i v ys o hv ⟨_,s,hS⟩;let h:i<↑u:=(Ax.mp hv).1;let ⟨r,c,l,rfl,el,J,hc⟩:=a0.get hv;let O:=A5 el;refine By (show S_ sL _ _ _ _ _ _ from CG rfl (s _ _ J) (F5 _ _) (ML (G' ⟨1,rfl,_,rfl,c,_,rfl,s _ _ hc,λp hp=>?_⟩)));rw [Sz (w:=w) (by rw [AI,Js];exact lw l O)];let s3:=AM hp (.lst (((AY l).map V.int).take w));refine ⟨h,s.trans s3,?_⟩;let e0:L[i]?=some ((AY l).take w):=by rw [hL,Ac,el];rfl
  let et:L.take (i+1)=L.take i++[(AY l).take w]:=by rw [DW,e0];rfl
  rw [et];exact (hS.tp s3).snoc (by rw [List.map_take];exact upd_same)
 rintro P H3 ⟨_,s3,hS⟩ sd b1;rw [show L.take ↑u=L by rw [show ↑u=↑L by rw [hL,AI];omega,B4]] at hS;let s4:=AM b1 (.lst P);generalize b2:upd H3 sd (.lst P)=H4 at *;let an:H4 sd=some (.lst P):=by rw [<-b2];exact upd_same
 let R:=s3.trans s4;let b3:=a0.tp R;show QZ K _ _ _;let ⟨ds,M⟩:∃ ds:cL,ds=ls.map λl=>co (AY l) w:=⟨_,rfl⟩;refine Ab (Cy (AD rfl ⟨S,rfl,⟨_,SqL.of (R _ _ C)⟩,CompJ.lst (xs:=u) (λi ys o=>i<=↑u/\o=H4/\ys=(ds.take i).map V.int) ⟨AX _,rfl,rfl⟩ ?_ ?_ ?_⟩))
 ·rintro i ys o ⟨h,rfl,rfl⟩;exact ⟨h,sz (by rw [AI,BC];omega),SqL.of (R _ _ C)⟩
 ·rintro i v ys o hv ⟨_,rfl,rfl⟩;let h:i<↑u:=(Ax.mp hv).1;let ⟨r,c,l,rfl,el,J,hc⟩:=b3.get hv;let O:=A5 el;let ll:(AY l).length=w+1:=by rw [Js];exact lw l O
  refine By (AW (CG rfl J (F5 _ _) (ML (G' ⟨1,rfl,B7 hc (wW (w:=w) (by rw [AI];exact ll) (Dm ⋯)) ⟨h,rfl,?_⟩⟩))));let e0:ds[i]?=some (co (AY l) w):=by rw [M,Ac,el];rfl
  rw [Ed V.int e0]
 rintro b6 o ⟨_,rfl,rfl⟩ du b4;rw [show ds.take ↑u=ds by rw [show ↑u=↑ds by rw [M,AI];omega,B4]];let s5:=AM b4 (.lst (~~~ds));let a3:=R.trans s5;let lL:↑L=n:=by rw [hL,AI];exact U
 let gl:∀ i,i<n->ls.getD i []∈ls:=λi h=>by rw [AJ,AT ⋯];exact Cn _
 refine k S sd du ls L ds _ (s1.trans (s2.trans a3)) ⟨⟨u,a3 _ _ C,a0.tp a3⟩,⟨P,s5 _ _ an,hS.tp (s4.trans s5)⟩,upd_same,U,by rw [M,AI];exact U,⟨lL,λr J=>?_⟩,λr J z hz=>?_,λz hz=>?_,λl F=>?_,λi h j hj=>?_,λi h=>?_⟩
 ·rw [hL] at J;let ⟨l,F,rfl⟩:=Ao.mp J;rw [BC,Js,lw l F];omega
 ·rw [hL] at J;let ⟨l,F,rfl⟩:=Ao.mp J;let ⟨N,m,T,o3⟩:=I l F;exact ((MM N T o3).1 z (Ek hz)).mono ∅
 ·rw [M] at hz;let ⟨l,F,rfl⟩:=Ao.mp hz;let ⟨N,m,T,o3⟩:=I l F;exact ((MM N T o3).1 _ (CM (by rw [Js,lw l F];omega))).mono ∅
 ·let ⟨N,m,T,o3⟩:=I l F;exact ⟨(DF N.1).1,(MM N T o3).2⟩
 ·let O:=gl i h;let b5:=lw _ O
  let e:en L i j=co (AY (ls.getD i [])) j:=by
   let e1:L.getD i []=(AY (ls.getD i [])).take w:=by
    rw [hL,AJ,Ac,AT ⋯,AJ,AT ⋯];rfl
   show (L.getD i []).getD j 0=(AY (ls.getD i [])).getD j 0;rw [e1];generalize AY (ls.getD i [])=cl;rw [AJ,List.getElem?_take,pB hj,<-AJ]
  rw [e,Sy (I _ O).1.1 ⋯];congr 1;unfold vr vl;rw [a7 i h,Sm (by rw [rA _ (gA i h)];exact hj)]
 ·let O:=gl i h;let b5:=lw _ O
  let e:co ds i=co (AY (ls.getD i [])) w:=by
   show ds.getD i 0=_;rw [M,AJ,Ac,AT ⋯,AJ,AT ⋯];rfl
  rw [e,Sy (I _ O).1.1 ⋯];congr 1;unfold vl;rw [a7 i h,show w=(A.getD i []).length from (rA _ (gA i h)).symm,Sn]
def Jt {a:cL} {b:Int} (d:b≠0) {j:Nat} (c:j<↑a):vl (a.map λz=>Ae z b) j=((co a j:Int):Rat) / ((b:Int):Rat):=by
 unfold vl co;rw [AJ,Ac,AT c,AJ,AT c];exact Fd d
def MN {d:cL} {b:Int} {c:Nat} (e:b≠0) (f:∀ z∈d,Bd c z) (g:Bd c b):NuOk c (d.map λz=>Ae z b):=
 ⟨λq a=>by let ⟨z,_,rfl⟩:=Ao.mp a;exact FE e,λq a=>by let ⟨z,h,rfl⟩:=Ao.mp a;exact JE e (f z h) g⟩
section
variable {H:Hp} {A:List cE} {B:cF} {n w:Nat} {ln sd du:Addr} {ls:List cE} {L:List (cL)} {ds:cL}
def Eqs.bt (E:Eqs H A B n w ln sd du ls L ds) {i:Nat} (a:i<n):ls.getD i []∈ls/\((Ag (ls.getD i []):Int):Rat)≠0:=by
 let m:ls.getD i []∈ls:=by rw [AJ,AT (by have:=E.ll;omega)];exact Cn _
 exact ⟨m,A4 (by have:=(E.b0 _ m).1;omega)⟩
def Eqs.sum (E:Eqs H A B n w ln sd du ls L ds) {i:Nat} (b:i<n) {f:cL} {D:Int} (a:D≠0) (lf:↑f=w):su w (λj=>vr A i j*vl (f.map λz=>Ae z D) j)*(((Ag (ls.getD i []):Int):Rat)*((D:Int):Rat))=((su w (λj=>en L i j*co f j):Int):Rat):=by
 let d:=A4 a;rw [<-Cd,GN];refine AU w λj c=>?_;rw [Jt a ⋯,B6,E.eL i b j c];ext
def Eqs.zero (E:Eqs H A B n w ln sd du ls L ds) {i:Nat} (a:i<n) {f:cL} {D:Int} (c:D≠0) (lf:↑f=w) (h:su w (λj=>en L i j*co f j)=0):su w (λj=>vr A i j*vl (f.map λz=>Ae z D) j)=0:=by
 let e:=E.sum a c lf;let b:=(E.bt a).2;let d:=A4 c;rw [h] at e;let e:su w (λj=>vr A i j*vl (f.map λz=>Ae z D) j)*(((Ag (ls.getD i []):Int):Rat)*((D:Int):Rat))=0:=e;exact (domQ.mul e).resolve_right λz=>(domQ.mul z).elim b d
def Eqs.told (E:Eqs H A B n w ln sd du ls L ds) {i:Nat} (a:i<n) {f:cL} {D:Int} (c:D≠0) (lf:↑f=w) (h:su w (λj=>en L i j*co f j)=co ds i*D):su w (λj=>vr A i j*vl (f.map λz=>Ae z D) j)=vl B i:=by
 let e:=E.sum a c lf;let b:=(E.bt a).2;let d:=A4 c;rw [h,B6,E.ed i a] at e;let g:(su w (λj=>vr A i j*vl (f.map λz=>Ae z D) j) - vl B i)*(((Ag (ls.getD i []):Int):Rat)*((D:Int):Rat))=0:=by ext
 have:=(domQ.mul g).resolve_right λz=>(domQ.mul z).elim b d;ext
theorem TFs.of (E:Eqs H A B n w ln sd du ls L ds) (b:↑A=n) {a:Hp} {cs:List Nat}:∀ {xs:cJ} {F:List (Nat×cL×Int)},FRs a L n w cs xs F->TFs a w A xs (F.map λq=>q.2.1.map λz=>Ae z q.2.2)
 | [],[],_=>trivial
 | _::_,q::_,h=>⟨let ⟨u,c,e,d,g,f⟩:=h.1;⟨u,c,e,d,g,by rw [AI];exact f.lf,MN (Ah f.d0) f.bf f.bD,λi j=>E.zero ⋯ (Ah f.d0) f.lf (f.sol i ⋯)⟩,TFs.of E b h.2⟩
 | [],_::_,h=>h.elim
 | _::_,[],h=>h.elim
end
theorem TFs.tp {H a:Hp} {w:Nat} {A:List cE} (t:Tp H a):∀ {xs:cJ} {F:List cE},TFs H w A xs F->TFs a w A xs F
 | [],[],_=>trivial
 | _::_,_::_,h=>⟨let ⟨u,b,e,c,d,f⟩:=h.1;⟨u,b,e,t _ _ c,d.tp t,f⟩,TFs.tp t h.2⟩
 | [],_::_,h=>h.elim
 | _::_,[],h=>h.elim
theorem FRs.get {H:Hp} {L:List (cL)} {n w:Nat} {cs:List Nat}:∀ {xs:cJ} {F:List (Nat×cL×Int)},FRs H L n w cs xs F->∀ q∈F,Fre L n w cs q.1 q.2.1 q.2.2
 | [],[],_,_,h=>nomatch h
 | _::_,p::_,h,q,a=>by
   rcases DV.mp a with e | e
   ·rw [e];let ⟨_,_,_,_,_,f⟩:=h.1;exact f
   ·exact FRs.get h.2 q e
 | [],_::_,h,_,_=>h.elim
 | _::_,[],h,_,_=>h.elim
def S1 {K:W.Frag} {H:Hp} {Q:VK} {a:Addr} {L:List (cL)} {n w p:Nat} (i:SD H a L) (R:Rect L n w) (j:n<=50) (q:w<=50) (r:Pr p) (u:Bd 45000 (p:Int))
  (k:∀ (x:Addr) (os cs:List Nat) (M T:List (cL)) (y z m t:Addr) (f:Hp),Same H f->Cor (B1 K) f x L n w p os cs M T y z m t->Q (.ref x) f) :
  ∀ x d,H x=none->H d=none->d≠x->GR K (.ref x::([.ref a,.int (p:Int)]++[])) (upd (upd H d (.own x)) x (.ins (B1 K) d [])) (λv A=>v=.non/\Q (.ref x) A) E0:=λx d h g C=>by
 let s:∀ b o,H b=some o->upd (upd H d (.own x)) x (.ins (B1 K) d []) b=some o:=λb o e=>by
  rw [Aq (As e h),Aq (As e g)];exact e
 exact ⟨x,a,d,L,n,w,p,rfl,upd_same,i.tp s,R,j,q,r,u,λos cs M T y z m t f B c=>⟨rfl,k x os cs M T y z m t f (λb o e=>B b o (As e h) (s b o e)) c⟩⟩
def FrO (H:Hp) (L:List (cL)) (n w:Nat) (os cs:List Nat) (v:V):Prop:=(v=.non/\Ja L n w os)\/∃ r a F,v=.ref r/\H r=some (.lst a)/\FRs H L n w cs a F/\F.map (λq=>q.1)=ar w cs
def wY:b8=2147483647:=by decide
def S7:CA=170141183460469231731687303715884105727:=by decide
def bI {p:Nat} {b:Nat} (h:p<2 ^ 130) (a:130<=b):Bd b (p:Int):=by
 have:Bd 130 (p:Int):=by unfold Bd;rw [Ds];exact h
 exact this.mono a
def X':Pr CA:=YW
def wZ {L:List (cL)} {n w p:Nat} {os cs:List Nat} {M T:List (cL)} {F:List (Nat×cL×Int)} {W:cL} (c:CorM L n w p os cs M T) (v:∀ q∈F,Fre L n w cs q.1 q.2.1 q.2.2) (x:F.map (λq=>q.1)=ar w cs) (r:∀ s,s<↑os->su n (λj=>co W j*en L j (nth cs s))=0) {j:Nat} (k:j<w):su n (λi=>co W i*en L i j)=0:=by
 by_cases b:j∈cs
 ·let ⟨s,a,rfl⟩:=Ef b;exact r s (by have:=c.lc;omega)
 ·let u:j∈ar w cs:=by unfold ar;exact List.mem_filter.mpr ⟨D5.mpr k,pC b⟩
  rw [<-x] at u;let ⟨q,y,rfl⟩:=Ao.mp u;let f:=v q y
  let m:su w (λj=>su n (λi=>co W i*en L i j)*co q.2.1 j)=0:=by
   rw [AU (g:=λj=>su n λi=>co W i*(en L i j*co q.2.1 j)) w λj _=>by rw [<-Cd];exact AU n λi _=>Co ..,Dk];exact Bw λi z=>by rw [BK,f.sol i z,EC]
  let o:cs.Nodup:=c.cu.imp λh=>BG h
  rw [MK (d:=↑cs) (c:=nth cs) (q:=q.1) (f:=co q.2.1) (λj=>su n λi=>co W i*en L i j) (λs a=>c.cl _ (Ce a)) (λs t a A e=>IJ o a A e) k (λs a e=>b (by rw [<-e];exact Ce a)) (λj k m B=>f.zer j k (λb=>by
   let ⟨s,a,e⟩:=Ef b;exact m s a e) B),Bw (n:=↑cs) (λs a=>by rw [r s (by have:=c.lc;omega),ES]),Int.zero_add,f.one] at m
  exact (Int.mul_eq_zero.mp m).resolve_right (Ah f.d0)
def vA {L:List (cL)} {n w:Nat} {os:List Nat} {W ds a:cL} {B i:Int} {q:Nat} (c:∀ j,j<w->su n (λi=>co W i*en L i j)=0) (d:q<n) (h:co W q≠0) (k:∀ j,j<n->j∉os->j≠q->co W j=0) (m:∀ o∈os,su w (λj=>en L o j*co a j)=co ds o*B) (sq:su w (λj=>en L q j*co a j)≠co ds q*B) (u:q∉os):su n (λi=>co W i*co ds i)≠0:=λz=>by
 let b:su n (λi=>co W i*(su w (λj=>en L i j*co a j) - co ds i*B))=0:=by
  rw [AU (g:=λi=>su w (λj=>co W i*en L i j*co a j) - co W i*co ds i*B) n λi _=>by
   rw [Int.mul_sub,<-BK,AU (f:=λj=>co W i*(en L i j*co a j)) (g:=λj=>co W i*en L i j*co a j) w λj _=>(Co ..).symm];ext,Fj,Dk,Cd,z,Bw (n:=w) (λj p=>by rw [Cd,c j p,ES])]
  omega
 rw [AU (g:=λi=>(λi=>co W i*(su w (λj=>en L i j*co a j) - co ds i*B)) i*dl i q) n λi r=>by
  unfold dl;by_cases e:i=q
  ·rw [pB e,Int.mul_one]
  ·rw [qZ e,EC];by_cases o:i∈os
   ·rw [m i o,Int.sub_self,EC]
   ·rw [k i r o e,ES],Et (λi=>co W i*(su w (λj=>en L i j*co a j) - co ds i*B)),pB d] at b
 rcases Int.mul_eq_zero.mp b with y | y
 ·exact h y
 ·exact sq ⋯
theorem S8:∀ (k:Nat) (v:cZ),∃ (D:Int) (x:cY),D≠0/\∀ j,j<k->v j*(D:Rat)=(x j:Rat)
 | 0,_=>⟨1,λ_=>0,∅,λj h=>absurd h (BD j)⟩
 | k+1,v=>by
   let ⟨D,x,a,e⟩:=S8 k v;let d:=(v k).den_nz;let h:=Rat.num_divInt_den (v k);rw [Rat.divInt_eq_div] at h;let b:(((v k).den:Int):Rat)≠0:=A4 ⋯;refine ⟨D*((v k).den:Int),λj=>if j=k then (v k).num*D else x j*((v k).den:Int),EU a ⋯,λj c=>?_⟩;show v j*((D*((v k).den:Int):Int):Rat)=(((if j=k then (v k).num*D else x j*((v k).den:Int)):Int):Rat);rw [B6];by_cases q:j=k
   ·rw [pB q,q,B6];ext
   ·rw [qZ q,B6,<-e j ⋯];ext
def vB {a:Hp} {b:cJ} {L:List (cL)} {n w:Nat} {cs:List Nat} {F:List (Nat×cL×Int)} (c:FRs a L n w cs b F):∀ l∈F.map (λq=>q.2.1.map λz=>Ae z q.2.2),∃ j,j<w/\vl l j≠0:=λl e=>by
 let ⟨q,g,rfl⟩:=Ao.mp e;let f:=c.get q g;refine ⟨q.1,f.qw,?_⟩;let d:=A4 (Ah f.d0);rw [Jt (Ah f.d0) (by rw [f.lf];exact f.qw),f.one];intro z;ext
def vC {C:Addr} {sp:Sp} {E:XK} {d e:TE} {b:L2.St} {H:Hp} {Q:VK} (h:d b H λu f=>e b f λv c=>∀ x a,c x=none->c a=none->a≠x->sp (.ref x::([u,v]++[])) (upd (upd c a (.own x)) x (.ins C a [])) (λy g=>y=.non/\Q (.ref x) g) E):Gc C sp [] E (AB d (AB e AC)) b H Q:=h
def vD {K:W.Frag} (U:ClsOk K (B1 K)) {vs:cJ} {H:Hp} {Q:VK} {E:XK} (h:Jb K vs H Q E):Qb K { nx:=λ_ C=>Q .non C,rt:=Q } (L2.start ["rows","due","lines","sides","dues","core","frees","solution","row","place","side","weights","wholes"] vs) H:=by
 let ⟨a,b,xs,ys,A,B,n,w,rfl,ha,hb,hA,hB,lA,lB,rA,nw,n1,w1,ok,kT,kN⟩:=h;refine wX ha hb hA hB lA lB rA n1 w1 ok λln sd du ls L ds H1 s1 E1=>?_;let R:=E1.rL;let bL:=E1.bL;let ⟨D,d0,dD,b2⟩:=wT R bL w1;let ⟨g,pg,cy,ca,gD⟩:=Yp d0 dD;let cz:=wY;let b3:=S7;let cb:g<2 ^ 45000:=Nat.lt_trans ca (Nat.pow_lt_pow_right ∅ ∅);let bg:∀ p:Nat,p=CA\/p<=g->p<2 ^ 130:=λp hp=>by omega
 let frees:∀ {x y z m t:Addr} {p:Nat} {os J:List Nat} {M T:List (cL)} {C:Hp} {Q':VK},Same H1 C->Cor (B1 K) C x L n w p os J M T y z m t->Pr p->p<2 ^ 130->(∀ v H2,Same C H2->FrO H2 L n w os J v->Q' v H2)->Hz K [.ref sd,.ref x] C Q' E0:=λ{x y z m t p os J M T C Q'} s c pp pb k=>
  ⟨sd,x,y,z,m,t,L,M,T,n,w,p,os,J,rfl,E1.hs.tp s,R,nw,n1,w1,bL,pp.two,bI pb ∅,c,λH2 s2 no=>k _ H2 s2 (.inl ⟨rfl,no⟩),λr xs F H2 s2 hr hF eF=>k _ H2 s2 (.inr ⟨r,xs,F,rfl,hr,hF,eF⟩)⟩
 refine Ab (show Gc _ _ _ _ _ _ _ _ from ⟨_,rfl,?_⟩);show ∀ x X,H1 x=none->H1 X=none->X≠x->GR K (.ref x::([.ref sd,.int 170141183460469231731687303715884105727]++[])) _ _ _;rw [show (170141183460469231731687303715884105727:Int)=(CA:Int) by rw [b3];rfl];refine S1 (Q:=λv C=>Lk K { nx:=λ_ C=>Q .non C,rt:=Q } [↥a,↥b,↥ln,↥sd,↥du,some v,none,none,none,none,none,none,none] C) E1.hs R ⋯ ⋯ X' (bI (bg _ (.inl rfl)) ∅) λx os J M T y z m t H2 s2 c2=>?_;show Lk K _ _ _;refine GI (AD rfl (AD rfl (frees s2 c2 X' (bg _ (.inl rfl)) λv H3 s3 f3=>?_)));show QX K _ _ _;refine F4 (DE (λmm σ C=>∃ (x y z m t:Addr) (p:Nat) (os J:List Nat) (M T:List (cL)) (v:V),σ=[↥a,↥b,↥ln,↥sd,↥du,↥x,some v,none,none,none,none,none,none]/\Same H1 C/\Cor (B1 K) C x L n w p os J M T y z m t/\Pr p/\(p=CA/\mm=g+1\/p≠CA/\b8<=p/\p<=g/\mm=g - p)/\FrO C L n w os J v) (g+1) ⟨x,y,z,m,t,CA,os,J,M,T,v,rfl,s2.trans s3,c2.tp s3,X',.inl ⟨rfl,rfl⟩,f3⟩ ?_);rintro mm σ H4 ⟨x,y,z,m,t,p,os,J,M,T,v,rfl,s4,c4,pp,hp,f4⟩;let ⟨X,fs,O,fo⟩:=c4.at';let c:=c4.c;let pb:p<2 ^ 130:=bg p (by rcases hp with q | q;exact .inl q.1;exact .inr q.2.2.1);refine ⟨_,rfl,rfl,_,rfl,Aj (λq=>?_) (λq=>?_)⟩
 ·-- another prime
  let no:Ja L n w os:=by
   rcases f4 with ⟨_,h⟩ | ⟨r,_,_,e,_⟩
   ·exact h
   ·rw [e] at q;cases pE q
  let d1:p≠g:=λe=>by
   have:=Classical.byContradiction λnd=>b2 p os J M T c pp nd no;exact gD (by rw [<-e];exact this)
  refine ⟨_,λ_ _ h=>h,?_⟩;show QP K _ _ _;refine Ab (vC (AD rfl (CL (Cm (AD rfl ⟨x,B1 K,X,fs,_,rfl,O,U.cl,U.a1,fo.f1,p,g,rfl,pg,?_,cb,⋯,λp' ab b4 b5=>?_⟩)))))
  ·rcases hp with q | q
   ·exact .inl q.1
   ·exact .inr ⋯
  show ∀ x X,H4 x=none->H4 X=none->X≠x->GR K (.ref x::([.ref sd,.int (p':Int)]++[])) _ _ _;let b6:=bg p' (.inr b5);refine S1 (Q:=λv C=>Lj K _ [↥a,↥b,↥ln,↥sd,↥du,some v,some _,none,none,none,none,none,none] C) (E1.hs.tp s4) R ⋯ ⋯ ab (bI b6 ∅) λx os J M T y z m t H5 s5 c5=>?_;show Lj K _ _ _;refine Gx (Al (AD rfl (AD rfl (frees (s4.trans s5) c5 ab b6 λv H6 s6 f6=>⟨g - p',?_,x,y,z,m,t,p',os,J,M,T,v,rfl,(s4.trans s5).trans s6,c5.tp s6,ab,.inr ⟨⋯,?_,b5,rfl⟩,f6⟩))))
  ·rcases hp with q | q <;> rcases b4 with r | r <;> omega
  ·rcases b4 with r | r
   ·omega
   ·rcases hp with q | q
    ·exact absurd q.1 r.1
    ·omega
 ·-- solved by this one
  let fr:∃ r xs F,v=.ref r/\H4 r=some (.lst xs)/\FRs H4 L n w J xs F/\F.map (λq=>q.1)=ar w J:=by
   rcases f4 with ⟨e,_⟩ | h
   ·exact absurd (pC e) q
   ·exact h
  let ⟨fr,gs,F,rfl,cc,hF,eF⟩:=fr;clear q f4;let E4:=E1.tp s4;let lc:=c.lc;let ol:=c.ol;let cl:=c.cl;let dw:↑os<=10:=by have:=MJ c.cu c.cl;omega
  let b7:J.Nodup:=c.cu.imp λh=>BG h;let ldn:=E4.ld;show QW K _ _ _;refine Ab (JL (Cm (AD rfl ⟨x,B1 K,X,fs,_,rfl,O,U.cl,U.a4,fo.f4,Cm (AD rfl ⟨x,B1 K,X,fs,_,rfl,O,U.cl,U.a5,fo.f5,Al (AD rfl (Cm (AD rfl ⟨x,B1 K,X,fs,_,rfl,O,U.cl,U.a2,fo.f2,du,y,ds,os,rfl,E4.hd,c4.hy,λi G=>by rw [ldn];exact ol i G,⋯,λpk cd=>?_⟩)))⟩)⟩)));let ⟨bs,a3⟩:∃ bs,bs=os.map (co ds):=⟨_,rfl⟩;rw [<-a3];let ce:↑bs=↑os:=by rw [a3,AI]
  let cf:∀ t,t<↑os->co bs t=co ds (nth os t):=λt ht=>by
   show bs.getD t 0=_;rw [a3,AJ,Ac,AT ht,Eg ht];rfl
  let cg:∀ z∈bs,Bd 4000 z:=λz hz=>by
   rw [a3] at hz;let ⟨o,ho,rfl⟩:=Ao.mp hz;exact E4.bd _ (CM (by rw [ldn];exact ol o ho))
  let s5:=AM cd (.lst (~~~bs));generalize ch:upd H4 pk (.lst (~~~bs))=H5 at *;let b9:H5 pk=some (.lst (~~~bs)):=by rw [<-ch];exact upd_same
  let c5:=c4.tp s5;refine Cm (AD rfl ⟨x,B1 K,X,fs,_,rfl,s5 _ _ O,U.cl,U.a1,fo.f1,m,t,pk,M,T,bs,↑os,p,rfl,c5.hm,c5.ht,b9,c.rM,c.rT,ce,dw,pp.two,bI pb ∅,c.iT,c.inv,c.bM R bL,cg,λso yy zs B' H6 s6 ba ci d2 B0 bB cj ck=>?_⟩);let c6:=c5.tp s6;let aj:=s5.trans s6;let cm:=aj _ _ O;let E6:=E4.tp aj;let al:B'≠0:=by omega
  show QV K _ _ _;refine Ab (DS (Cm (AD rfl ⟨x,B1 K,X,fs,_,rfl,cm,U.cl,U.a3,fo.f3,CG rfl ba (F5 _ _) (CL (AD rfl ⟨sd,L,n,w,rfl,E6.hs,R,nw,z,yy,J,zs,w,rfl,c6.hz,ci,⋯,cl,b7,⋯,λro Y H7 s7 d3 bb an r1 r0=>?_⟩))⟩)));let bc:=aj.trans s7;let Z:=E6.tp s7;let c7:=c6.tp s7
  let bd:∀ z∈Y,Bd 250000 z:=λzz hz=>by
   let ⟨j,hj,rfl⟩:=DY.mp hz;let e:Y[j]=co Y j:=by unfold co;rw [AJ,AT hj];rfl
   rw [e];by_cases jc:j∈J
   ·let ⟨s,hs,rfl⟩:=Ef jc;rw [r1 s hs];exact cj _ (CM ⋯)
   ·rw [r0 j λs hs e=>jc (by rw [<-e];exact Ce hs)];exact EK _
  let a0:∀ o∈os,su w (λj=>en L o j*co Y j)=co ds o*B':=λo ho=>by
   let ⟨tt,ht,rfl⟩:=Ef ho;rw [wV (d:=↑os) (c:=nth J) (f:=co Y) (λj=>en L (nth os tt) j) (λs hs=>cl _ (Ce ⋯)) (λs t hs ht e=>IJ b7 ⋯ ⋯ e) (λj hj h1=>r0 j λs hs=>h1 s ⋯),AU (g:=λs=>en M tt s*co zs s) ↑os λs hs=>by rw [c.eM tt ht s hs,r1 s ⋯],ck tt ht,cf tt ht]
  let a7:=s7 _ _ ba;let ⟨ws,be,bf⟩:=Z.hs;let cn:=↑bf;let wn:↑ws=n:=by rw [cn,R.1]
  show QU K _ _ _;refine (show Ay (EI K _) _ _ _ _ _ from ⟨_,rfl,sd,rfl,⟨_,SqL.of be⟩,ForJ.enumL (xs:=ws) (λi σ C=>∃ x9 a4,σ=[↥a,↥b,↥ln,↥sd,↥du,↥x,↥fr,↥so,↥ro,x9,a4,none,none]/\Same H7 C/\∀ t,t<i->su w (λj=>en L t j*co Y j)=co ds t*B') ⟨none,none,rfl,Same.refl H7,λt h=>absurd h (BD t)⟩ ?_ ?_ ?_⟩)
  ·rintro i σ C _ ⟨x9,a4,rfl,s,_⟩;exact SqL.of (s _ _ be)
  ·rintro i v q σ H8 hv ⟨x9,a4,rfl,s8,I⟩ hq;let G:i<↑ws:=(Ax.mp hv).1;let bk:i<n:=by omega
   let ⟨r,rr,rfl,er,hr⟩:=bf.get hv;let eg:L.getD i []=rr:=by rw [AJ,er];rfl
   let rm:=A5 er;let s9:=AM hq (.tup [.int (i:Int),.ref r]);refine ⟨q,_,rfl,upd_same,rfl,_,_,rfl,_,_,rfl,rfl,?_⟩;generalize d4:upd H8 q (.tup [.int (i:Int),.ref r])=H9 at *;let ap:=s8.trans s9;refine HK (Bz (AW (Al (AD rfl (AD rfl ⟨r,ro,rr,Y,w,rfl,ap _ _ hr,ap _ _ bb,R.2 rr rm,an,⋯,λz hz=>(bL rr rm z hz).mono ∅,λz hz=>(bd z hz).mono ∅,λHA sA=>?_⟩)))));let P:=ap.trans sA;let cp:co ds i∈ds:=CM ⋯;refine AW (AW (AD rfl (AD rfl (B7 (P _ _ Z.hd) (DD (Dm ⋯)) (CG rfl (P _ _ a7) (E9 _ _) ⟨_,_,rfl,rfl,B8 (E4.bd _ cp) bB,rfl,_,rfl,Aj (λq=>?_) (λq=>?_)⟩)))))
   ·-- none
    let ne:su w (λj=>en L i j*co Y j)≠co ds i*B':=by
     let q:su w (λi=>co rr i*co Y i)≠co ds i*B':=by simpa using q
     unfold en;rw [eg];exact q
    let io:i∉os:=λh=>ne (a0 i h);show QS K _ _ _;refine K1 (AD rfl (AD rfl (AD rfl ⟨sd,x,y,z,m,t,L,M,T,n,w,p,os,J,i,rfl,Z.hs.tp P,R,n1,w1,bL,pp.two,bI pb ∅,c7.tp P,bk,io,λwr wu W BW HB sB bm bp lW d5 cq bW Wi W0 zc=>?_⟩)));let bq:=P.trans sB;let S:BW≠0:=by omega
    let ⟨zl,bt,bw⟩:=(Z.tp bq).hl;let d6:=↑bw;let d7:=Z.ll;let ⟨N,a5⟩:∃ N:cL,N=(List.range n).map λi=>co W i*Ag (ls.getD i []):=⟨_,rfl⟩;let bz:↑N=n:=by rw [a5,AI,Au]
    show QR K _ _ _;refine Ab (HH (CG rfl bm (F5 _ _) ⟨_,rfl,wu,ln,rfl,⟨_,SqL.of bp⟩,⟨_,SqL.of bt⟩,CompJ.zip (xs:=W.map V.int) (ys:=zl) (by rw [AI];omega) (λi zs C=>i<=n/\Same HB C/\zs=(N.take i).map V.int) ⟨AX _,Same.refl HB,rfl⟩ ?_ ?_ ?_⟩))
    ·rintro i zs C ⟨G,s,rfl⟩;exact ⟨by rw [AI];omega,sz (by rw [AI,BC];omega),SqL.of (s _ _ bp),SqL.of (s _ _ bt)⟩
    ·rintro i v u zs C q hv hu ⟨_,s,rfl⟩ hq;let G:i<↑W:=by have:=(Ax.mp hv).1;rw [AI] at this;exact this
     rw [Dm G] at hv;cases hv;let ⟨r,c',l,rfl,el,hr,_⟩:=bw.get hu;let gl:ls.getD i []=l:=by rw [AJ,el];rfl
     let bl:=Z.b0 l (A5 el);let s2:=AM hq (.tup [.int (co W i),.ref r]);refine ⟨q,_,rfl,upd_same,rfl,_,_,rfl,_,_,rfl,rfl,?_⟩;refine AW (AD rfl (CG rfl (s2 _ _ (s _ _ hr)) (E9 _ _) ⟨_,_,rfl,rfl,B8 (bW _ (CM G)) bl.2,⋯,s.trans s2,?_⟩));let e0:N[i]?=some (co W i*Ag l):=by rw [a5,Ac,Cp ⋯,<-gl];rfl
     rw [Ed V.int e0]
    rintro d8 HC ⟨_,sC,rfl⟩ wl cr;rw [AI,lW,show N.take n=N by rw [<-bz,B4]];let sD:=AM cr (.lst (~~~N));generalize ct:upd HC wl (.lst (~~~N))=HD at *;let c0:HD wl=some (.lst (~~~N)):=by rw [<-ct];exact upd_same
    let c1:=sC.trans sD
    let cu:∀ z∈N,Bd 260000 z:=λz hz=>by
     rw [a5] at hz;let ⟨i,G,rfl⟩:=Ao.mp hz;let G:=D5.mp G;exact ((bW _ (CM ⋯)).mul (Z.b0 _ (Z.bt G).1).2).mono ∅
    show QQ K _ _ _;refine Bb (DG (G' (Al (AD rfl (CG rfl (c1 _ _ bm) (E9 _ _) ⟨wl,N,BW,rfl,c0,⋯,S,λu us HE sE hu hN=>⟨CH,λrr b0=>?_⟩⟩)))));let sF:=AM b0 (.tup [.str "none", .ref u]);let zW:∀ j,j<w->su n (λi=>co W i*en L i j)=0:=λj hj=>wZ c hF.get eF zc hj
    let c3:∀ i,i<n->((co N i:Int):Rat)=((co W i:Int):Rat)*((Ag (ls.getD i []):Int):Rat):=λi G=>by
     have:co N i=co W i*Ag (ls.getD i []):=by
      show N.getD i 0=_;rw [a5,D3 _ _ G]
     rw [this,B6]
    let cw:=A4 S;let c9:Same H (upd HE rr (.tup [.str "none", .ref u])):=(s1.trans (s4.trans (bc.trans (bq.trans (c1.trans (sE.trans sF))))));refine kN rr u us (N.map λz=>Ae z BW) _ ⋯ c9 upd_same (sF _ _ hu) (hN.tp (D_ sF)) (by rw [AI];exact bz) (MN S cu (cq.mono ∅)) (λj hj=>?_) ?_
    ·let e:su n (λi=>vr A i j*vl (N.map λz=>Ae z BW) i)*((BW:Int):Rat)=((su n (λi=>co W i*en L i j):Int):Rat):=by
      rw [<-Cd,GN];refine AU n λi G=>?_;rw [Jt S ⋯,c3 i G,B6,Z.eL i G j hj];ext
     rw [zW j hj] at e;exact (domQ.mul (show _*((BW:Int):Rat)=0 from e)).resolve_right cw
    ·let e:su n (λi=>vl B i*vl (N.map λz=>Ae z BW) i)*((BW:Int):Rat)=((su n (λi=>co W i*co ds i):Int):Rat):=by
      rw [<-Cd,GN];refine AU n λi G=>?_;rw [Jt S ⋯,c3 i G,B6,Z.ed i G];ext
     intro z0;rw [z0,Rat.zero_mul] at e;exact vA (B:=B') (i:=0) zW bk (by rw [Wi];exact S) W0 a0 ne io (Fk e.symm)
   ·let q:su w (λi=>co rr i*co Y i)=co ds i*B':=by simpa using q
    refine ⟨_,_,rfl,P,λt ht=>?_⟩;by_cases e:t=i
    ·unfold en;rw [e,eg];exact q
    ·exact I t ⋯
  ·rintro σ H8 ⟨x9,a4,rfl,s8,I⟩;rw [wn] at I;show QT K _ _ _;let b1:=bc.trans s8;refine Bb (Oj (G' (Al (AD rfl (CG rfl (s8 _ _ a7) (E9 _ _) ⟨ro,Y,B',rfl,s8 _ _ bb,⋯,al,λu us H9 s9 hu hN=>Bg (AD rfl ⟨fr,gs,rfl,s9 _ _ (b1 _ _ cc),λft cx=>⟨K3,λrr b0=>?_⟩⟩)⟩)))));let sA:=AM cx (.tup gs);let sB:=AM b0 (.tup [.str "told", .ref u,.ref ft]);let a6:=sA.trans sB;refine kT rr u ft us gs (Y.map λz=>Ae z B') _ _ (s1.trans (s4.trans (b1.trans (s9.trans a6)))) upd_same (a6 _ _ hu) (hN.tp (D_ a6)) (by rw [AI];exact an) (MN al bd bB) (λi G=>Z.told G al an (I i G)) (sB _ _ upd_same) ((TFs.of Z lA hF).tp (D_ (b1.trans (s9.trans a6)))) (vB hF)
def vE {b d:TE} {a:L2.St} {H:Hp} {Q:VK} (h:b a H λx e=>∃ c,x=.bl c/\if c=true then d a e Q else Q (.bl false) e):J8 b d a H Q:=h
def MO {b:Nat} {x y:Int} (a:0<y) (c:Bd b x) (d:Bd b y):Nb b (L_ x y):=by
 let e:Ae x y=L_ x y:=by unfold Ae;rw [qZ ⋯]
 have:=JE (Ah a) c d;rw [e] at this;exact ⟨Dj a,this⟩
def vF {a b:Nat} {q r:Nu} (c:Nb a q) (d:Nb b r):Nb (a+b+1) (I_ q r):=by
 refine MO (Bh c.1.pos d.1.pos) ?_ ((c.2.2.mul d.2.2).mono ⋯);let f:=c.2.1.mul d.2.2;let e:=d.2.1.mul c.2.2;rw [Nat.add_comm b a] at e;exact f.add e
def IN {a b:Nat} {q r:Nu} (c:Nb a q) (d:Nb b r):Nb (a+b) (C' q r):=MO (Bh c.1.pos d.1.pos) (c.2.1.mul d.2.1) (c.2.2.mul d.2.2)
def Nb.mono {a b:Nat} {q:Nu} (h:Nb a q) (c:a<=b):Nb b q:=⟨h.1,h.2.1.mono c,h.2.2.mono c⟩
def NuOk.at {b:Nat} {l:cF} (h:NuOk b l) {q:Nu} (a:q∈l):Nb b q:=⟨h.1 q a,h.2 q a⟩
def S9 {l:cF} {j:Nat} {q:Nu} (h:l[j]?=some q):vl l j=val q/\l.getD j (0,1)=q:=by
 let e:l.getD j (0,1)=q:=by rw [AJ,h];rfl
 unfold vl;rw [e];exact ⟨rfl,rfl⟩
theorem NRs.tp {H b:Hp} (s:Same H b):∀ {xs:cJ} {A:List cE},NRs H xs A->NRs b xs A
 | [],[],_=>trivial
 | _::_,_::_,h=>⟨let ⟨a,c,e,d,f⟩:=h.1;⟨a,c,e,s _ _ d,f.tp (D_ s)⟩,NRs.tp s h.2⟩
 | [],_::_,h=>h.elim
 | _::_,[],h=>h.elim
def NuOk.snoc {b:Nat} {l:cF} {q:Nu} (h:NuOk b l) (c:Nb b q):NuOk b (l++[q]):=
 ⟨λr a=>(DK.mp a).elim (h.1 r) λz=>by rw [BU.mp z];exact c.1,λr a=>(DK.mp a).elim (h.2 r) λz=>by rw [BU.mp z];exact c.2⟩
theorem NRs.snoc {H:Hp} {a:Addr} {b:cJ} {l:cF} (c:H a=some (.lst b)) (d:Nums H b l):∀ {xs:cJ} {A:List cE},NRs H xs A->NRs H (xs++[.ref a]) (A++[l])
 | [],[],_=>⟨⟨a,b,rfl,c,d⟩,trivial⟩
 | _::_,_::_,h=>⟨h.1,NRs.snoc c d h.2⟩
 | [],_::_,h=>h.elim
 | _::_,[],h=>h.elim
def vG (h:IA K vs H Q E):Rx K { nx:=λ_ j=>Q .non j,rt:=Q } (L2.start ["_law_one","_law_other"] vs) H:=by
 let ⟨p,q,a,b,c,d,rfl,hp,m,e,f,n,g,o,i,k⟩:=h;unfold Rx;rwa [hp,m];exact ⟨GV n i,GV o g,GV g i,Ah (Bh e f),λr u=>by rw [IF (Bh e f)];exact k r u⟩
def vH (h:G6 K vs H Q E):Ry K { nx:=λ_ g=>Q .non g,rt:=Q } (L2.start ["_law_one","_law_other"] vs) H:=by
 let ⟨p,q,a,b,c,d,rfl,hp,i,e,f,j,m,n,o,k⟩:=h;unfold Ry;rwa [hp,i];exact ⟨GV j n,GV m o,Ah (Bh e f),λr u=>by rw [IF (Bh e f)];exact k r u⟩
def vI (h:G7 K vs H Q E):Rz K { nx:=λ_ b=>Q .non b,rt:=Q } (L2.start ["_law_row","_law_many"] vs) H:=by
 let ⟨p,n,l,rfl,hp,d,A,q⟩:=h;unfold Rz;rwa [hp];let o:=↑d;refine DE (λm g b=>g=[↥p,some (.int (m:Int))]/\b=H/\Bu l m=Bu l ↑l/\m<=↑l) ↑n ⟨rfl,rfl,by rw [o],⋯⟩ ?_;rintro m g b ⟨rfl,rfl,a,j⟩;rwa [hp];refine Aj (λc=>?_) (λc=>?_)
 ·let ⟨k,rfl⟩:∃ k,m=k+1:=⟨m - 1,⋯⟩;let ⟨v,r,u,rfl,e⟩:=d.at (i:=k) ⋯ (1,1);rw [SI] at a;refine ⟨_,Ca ⋯ r,u,rfl,_,e,_,rfl,rfl,Aj (λf=>?_) (λf=>?_)⟩
  ·let z:(l.getD k (1,1)).1=0:=by injection f
   rw [pB z] at a;exact ⟨λw x=>∃ y,y<k+1/\_,λ_ _ h=>h,k,⋯,by rw [show ((k+1:Nat):Int) - 1=(k:Int) by omega],rfl,a,⋯⟩
  ·let z:(l.getD k (1,1)).1≠0:=λz=>f (by rw [z]);rw [qZ z] at a;exact Jh d j a.symm q
 ·let z:m=0:=by omega
  subst z;exact Jh d j a.symm q
def Ju (ns:cL) (lo b:Option Int):∃ a:cL,Be (~~~ns) lo b=a.map V.int/\↑a<=↑ns:=by
 unfold Be;rw [<-List.map_drop,<-List.map_take];exact ⟨_,rfl,by rw [BC,List.length_drop];omega⟩
def vJ (h:LZ K vs H Q E):Rc K { nx:=λ_ f=>Q .non f,rt:=Q } (L2.start ["_law_script","_law_first"] vs) H:=by
 let ⟨s,a,rfl,c,g,k⟩:=h;unfold Rc;rwa [];let ⟨i,j,_⟩:=Ju a none (some 1);let ⟨m,n,A⟩:=Ju a none (some 63);refine ⟨_,c,λp hp=>⟨i,j,_,Same.seq (AM hp _) c,λB q l u=>⟨⟨∅,(Lr ∅ ∅).mono ∅⟩,∅,sz ∅,λr b=>?_⟩⟩⟩;let v:=AM hp (.lst (Be (~~~a) none (some 1)));let w:=AM q (.lst (Be (~~~a) none (some 63)));let x:=AM u (.lst (Be (~~~a) none (some 63)));let d:=(v.trans w).trans x
 let y:H r=none:=by
  cases e:H r with
  | none=>rfl
  | some o=>let z:=d _ _ e;rw [b] at z;cases z
 refine k r l _ y (Kp.of_same (d.trans (AM b _))) ⟨m,0,_,_,upd_same,?_,⋯,?_,∅,∅,?_⟩
 ·rw [<-n];exact (AM b _) _ _ upd_same
 ·exact As upd_same b
 ·refine Int.ediv_nonneg ?_ ∅;split <;> omega
def vK (h:Cz K vs H Q E):Ro K { nx:=λ_ u=>Q .non u,rt:=Q } (L2.start ["_law_hand_here","_law_many","_law_found","_law_cell","_law_once","_law_twice"] vs) H:=by
 let ⟨p,a,m,n,rfl,⟨e,x,y,z,hp,r,U,J,M,xn,F⟩,n9,w,m9,k⟩:=h;let N:∀ x y:Int,N_ [V.ref a,V.int x,V.int y,V.int z] 0=some (V.ref a):=λ_ _=>rfl;let j:∀ x y:Int,N_ [V.ref a,V.int x,V.int y,V.int z] 1=some (V.int x):=λ_ _=>rfl;let G:∀ x y:Int,N_ [V.ref a,V.int x,V.int y,V.int z] 2=some (V.int y):=λ_ _=>rfl;let W:∀ x y:Int,N_ [V.ref a,V.int x,V.int y,V.int z] 3=some (V.int z):=λ_ _=>rfl;let X:Y_ 4 1=some 1:=rfl;let Y:Y_ 4 2=some 2:=rfl;let f:∀ {c:Hp} {o:HO},c a=some (.lst (~~~e))->(upd c p o) a=some (.lst (~~~e)):=λh=>by rw [Aq J];exact h
 let Z:∀ (x y:Int) (c:Hp),c p=some (.lst [V.ref a,V.int x,V.int y,V.int z])->c a=some (.lst (~~~e))->0<=x->x<=n+1->0<=y->Kp p H c->Lp K { nx:=λx u=>Q V.non u,rt:=Q } [some (V.ref p),some (V.int m),none,none,none,none] c:=λx y c hp r M xn F k1=>by
  let A:Lo K { nx:=λx u=>Q V.non u,rt:=Q } [some (V.ref p),some (V.int m),none,none,none,none] c:=by
   unfold Lo;rwa [hp,j,X];let B:Kp p H (upd c p (.lst [.ref a,.int (x+1),.int y,.int z])):=k1.trans Kp.upd;let d:upd c p (.lst [.ref a,.int (x+1),.int y,.int z]) p=_:=upd_same;let b:upd c p (.lst [.ref a,.int (x+1),.int y,.int z]) a=_:=f r;generalize upd c p (.lst [.ref a,.int (x+1),.int y,.int z])=H2 at B d b ⊢;unfold Rm;rwa [d,b,N,j];let ⟨O,e1,_⟩:=Ju e (some ((x+1) % if ((~~~e).length:Int) > 1 then ((~~~e).length:Int) else 1)) none;let ⟨I,e2,_⟩:=Ju O none (some 1);rw [e1,e2];refine ⟨by split <;> omega,λq1 P q2 S=>⟨I,rfl,?_⟩⟩;let T:=(AM P (.lst (~~~O))).trans (AM S (.lst (~~~I)));let g:=T _ _ d;let C:=T _ _ b;let k3:=B.same T;generalize upd (upd H2 q1 (.lst (~~~O))) q2 (.lst (~~~I))=H3 at g C k3 ⊢;generalize I.sum=D;unfold Rl;rwa [g,j];let L:∀ {x y:Int},0<=x->x<4611686018427387904->IntMulOk x y:=λP S=>SH ⋯ ⋯;let R:∀ {x y:Int},0<=y->y<4611686018427387904->IntMulOk x y:=λP S=>Jg ⋯ ⋯;refine ⟨∅,L ∅ ∅,L ∅ ∅,R ⋯ ⋯,∅,?_⟩;generalize (D % 2147483629+7919*(x+1)+11)*(48271+2*(x+1)) % 2147483647=i;unfold Rk;rwa [g,j];let z:=CO i (show (39373:Int)≠0 by decide);let z2:=CW i (show (0:Int)<39373 by decide);refine ⟨∅,R ⋯ ⋯,L ∅ ∅,∅,?_⟩;unfold Rj;rwa [];exact ⟨⟨∅,(Lr ∅ ∅).mono ∅⟩,w,k _ _ (CO _ ⋯) (CW _ w) ⟨e,x+1,y,_,g,C,U,J,⋯,⋯,F⟩ k3⟩
  unfold Lp;rwa [hp,G,W];refine Aj (λ_=>?_) (λ_=>A);refine Aj (λ_=>?_) (λ_=>A);unfold Ri;rwa [hp,G];refine ⟨w,?_⟩;unfold Rh Rg;rwa [hp,G,Y];exact ⟨⟨w,(Lr ⋯ ⋯).mono ∅⟩,k _ _ (CO _ ⋯) (CW _ w) ⟨e,x,y / m,z,upd_same,f r,U,J,M,⋯,Int.ediv_nonneg F ⋯⟩ (k1.trans Kp.upd)⟩
 unfold Ro;rwa [hp,r,N,j,G,W];let q:=Z x y H hp r M ⋯ F (Kp.of_same (Same.refl H));refine Aj (λ_=>?_) (λ_=>q);refine Aj (λ_=>?_) (λ_=>q);refine Aj (λxl=>?_) (λ_=>q);unfold Rf;rwa [hp,j,X];let d:upd H p (.lst [.ref a,.int (x+1),.int y,.int z]) p=_:=upd_same;let b:upd H p (.lst [.ref a,.int (x+1),.int y,.int z]) a=_:=f r;let B:Kp p H (upd H p (.lst [.ref a,.int (x+1),.int y,.int z])):=Kp.upd;generalize upd H p (.lst [.ref a,.int (x+1),.int y,.int z])=H2 at B d b ⊢;unfold Re;rwa [d,b,N,j,Y];rw [AI] at xl;let ⟨v,hv⟩:=zH (ns:=e) (k:=x+1) ⋯ ⋯;exact ⟨_,hv,v,rfl,Z (x+1) _ _ upd_same (f b) ⋯ ⋯ (by split <;> omega) (B.trans Kp.upd)⟩
def vL (h:GS K vs H Q E):Rp K { nx:=λ_ d=>Q .non d,rt:=Q } (L2.start ["_law_top","_law_bottom","_law_one","_law_other"] vs) H:=by
 let ⟨a,b,rfl,f,q⟩:=h;unfold Rp;rwa []
 let i:∀ s:Int,(s=if b<0 then -((Int.gcd a b:Nat):Int) else ((Int.gcd a b:Nat):Int))->Hb a s/\Hb b s/\2<=sizeLine/\∀ (p:Addr),H p=none->Q (V.ref p) (upd H p (.tup [.int (a.fdiv s),.int (b.fdiv s)])):=λs v=>by
  let ⟨j,D,k,w,F,G⟩:=Ii f v
  let e:Ae a b=(a.fdiv s,b.fdiv s):=by
   refine Hh (FE f) k ?_;rw [Fd f,JC (q:=(a.fdiv s,b.fdiv s)) (Ah k.pos) f w]
  rw [e] at q;exact ⟨j,j,sz ∅,q⟩
 refine DE (λm n d=>∃ x y:Int,n=[some (.int a),some (.int b),some (.int x),some (.int y)]/\d=H/\0<=x/\0<=y/\Int.gcd x y=Int.gcd a b/\m=y.natAbs) b.natAbs ⟨_,_,rfl,rfl,by split <;> omega,by split <;> omega,?_,by split <;> omega⟩ ?_
 ·split <;> split <;> simp [Int.neg_gcd,Int.gcd_neg]
 rintro m n d ⟨x,y,rfl,rfl,I,o,r,rfl⟩;rwa [];refine Aj (λc=>?_) (λc=>?_)
 ·refine ⟨λz A=>∃ B,B<y.natAbs/\_,λ_ _ h=>h,?_⟩;let C:=CO x (show y≠0 by omega);let J:=CW x c;refine ⟨c,(x % y).natAbs,⋯,y,x % y,rfl,rfl,o,C,?_,rfl⟩;rw [KI x o];exact r
 ·let e:y=0:=by omega
  subst e;let u:x=((Int.gcd a b:Nat):Int):=by rw [<-r,Int.gcd_zero_right];omega
  refine Aj (λg=>?_) (λg=>?_)
  ·exact i _ (by rw [pB g,u])
  ·exact i _ (by rw [qZ g,u])
def vM (h:Jc K vs H Q E):Rs K { nx:=λ_ c=>Q .non c,rt:=Q } (L2.start ["_law_row","_law_scale_here"] vs) H:=by
 let ⟨p,q,b,t,d,rfl,hp,v,A,B,bn,G,k⟩:=h;unfold Rs;rwa [hp,v];refine ⟨⟨_,SqL.of hp⟩,CompJ.lst (xs:=b.map V.int) (λi f c=>i<=↑b/\Same H c/\Nums c f ((b.map λn=>Ae (n*t) d).take i)) ⟨AX _,Same.refl H,trivial⟩ ?_ ?_ ?_⟩
 ·rintro i f c ⟨w,g,j⟩;refine ⟨by rw [AI];exact w,sz ?_,SqL.of (g _ _ hp)⟩;rw [↑j,BC];omega
 ·rintro i x f c m ⟨w,g,j⟩;rw [Ac] at m;cases e:b[i]? with
  | none=>rw [e] at m;cases m
  | some z=>
    rw [e] at m;obtain rfl:=pL m;let u:=g _ _ v;let C:i<↑b:=(Ax.mp e).1;rwa [u];refine ⟨B8 (bn z (A5 e)) B,A,λr o=>⟨⋯,g.trans (AM o _),?_⟩⟩;let D:(b.map λn=>Ae (n*t) d)[i]?=some (Ae (z*t) d):=by rw [Ac,e];rfl
    rw [DW,D];exact (j.tp (D_ (AM o _))).append (Nums.one Ff)
 ·rintro f c ⟨_,g,j⟩ a F;let e:(b.map λn=>Ae (n*t) d).take (~~~b).length=b.map λn=>Ae (n*t) d:=by rw [AI,show ↑b=(b.map λn=>Ae (n*t) d).length by rw [AI],B4]
  rw [e] at j;rwa [];intro r o;let y:=(AM F (.lst f)).trans (AM o (.tup f));exact k r f _ (g.trans y) upd_same (j.tp (D_ y))
def vN (h:La K vs H Q E):Rw K { nx:=λ_ c=>Q .non c,rt:=Q } (L2.start ["_law_row"] vs) H:=by
 let ⟨p,b,rfl,hp,o,B,k⟩:=h;unfold Rw;rwa [hp];let v:=L3 o.1;refine ⟨⟨_,SqL.of hp⟩,CompJ.lst (xs:=b.map V.int) (λi d c=>i<=↑b/\Same H c/\Nums c d ((ac b).take i)) ⟨AX _,Same.refl H,trivial⟩ ?_ ?_ ?_⟩
 ·rintro i d c ⟨q,f,g⟩;refine ⟨by rw [AI];exact q,sz ?_,SqL.of (f _ _ hp)⟩;rw [↑g,BC];omega
 ·rintro i x d c j ⟨q,f,g⟩;rw [Ac] at j;cases e:b[i]? with
  | none=>rw [e] at j;cases j
  | some z=>
    rw [e] at j;obtain rfl:=pL j;let n:=f _ _ hp;let w:i<↑b:=(Ax.mp e).1;rwa [n,v];refine ⟨o.2,λr m=>⟨⋯,f.trans (AM m _),?_⟩⟩;let y:(ac b)[i]?=some (Ae z (co b (↑b - 1))):=by unfold ac;rw [Ac,e];rfl
    rw [DW,y];exact (g.tp (D_ (AM m _))).append (Nums.one Ff)
 ·rintro d c ⟨_,f,g⟩ a A;let e:(ac b).take (~~~b).length=ac b:=by rw [AI,show ↑b=(ac b).length by rw [L7],B4]
  rw [e] at g;rwa [];intro r m;let u:=(AM A (.lst d)).trans (AM m (.tup d));exact k r d _ (f.trans u) upd_same (g.tp (D_ u))
def vO {a b:cL} (d:0<↑a) (e:0<↑b):ps a b ↑a (↑a+↑b - 1 - 1)=co a (↑a - 1)*co b (↑b - 1):=by
 let ⟨i,c⟩:∃ i,↑a=i+1:=⟨↑a - 1,⋯⟩;rw [c];show ps a b i _+_=_;rw [Go i _ ⋯,pB ⟨⋯,⋯⟩,show i+1+↑b - 1 - 1 - i=↑b - 1 by omega];show 0+co a i*co b (↑b - 1)=_;rw [Nat.add_sub_cancel];omega
def vP (h:GT K vs H Q E):Rq K { nx:=λ_ f=>Q .non f,rt:=Q } (L2.start ["_law_one","_law_other","_law_made","_law_k","_law_a","_law_j","_law_b"] vs) H:=by
 let ⟨p,q,c,d,n,m,rfl,hp,J,la,lb,a0,a3,ba,bb,n9,m9,k⟩:=h;let N:=la.1;let O:=lb.1;unfold Rq;rwa [hp,J];refine ⟨sz ∅,λa ha=>?_⟩;let M:=AM ha (.lst [.int 0]);let D:=M _ _ hp;let P:=M _ _ J;rwa [D,P];rw [AI,AI];let eL:((↑c:Int)+(↑d:Int) - 1).toNat=↑c+↑d - 1:=by omega
 rw [eL,Ls];refine ⟨⋯,⋯,sz ⋯,λw R=>?_⟩;generalize S:↑c+↑d - 1=L at R ⊢;let sw:=AM R (.lst (BF L λ_=>0))
 let w0:H w=none:=by
  cases e:H w with
  | none=>rfl
  | some o=>let z:=M _ _ e;rw [R] at z;cases z
 refine ⟨⟨_,SqL.of (sw _ _ D)⟩,ForJ.enumL (xs:=c.map V.int) (λi g f=>∃ T U A B:cK,g=[↥p,↥q,↥w,T,U,A,B]/\Same H f/\f w=some (.lst (BF L λk=>ps c d i k)))
  ⟨none,none,none,none,rfl,M.trans sw,upd_same⟩ ?_ ?_ ?_⟩
 ·rintro i g f _ ⟨_,_,_,_,_,C,_⟩;exact SqL.of (C _ _ hp)
 ·rintro i x pp g H1 F ⟨T,U,A,B,rfl,C,r⟩ W;rw [Ac] at F;cases en:c[i]? with
  | none=>rw [en] at F;cases F
  | some z=>
    rw [en] at F;obtain rfl:V.int z=x:=pL F;let il:i<↑c:=(Ax.mp en).1;let zd:c.getD i 0=z:=by rw [AJ,en];rfl
    let X:=AM W (.tup [.int (i:Int),.int z]);rwa []
    refine ⟨⟨_,SqL.of (X _ _ (C _ _ J))⟩,ForJ.enumL (xs:=d.map V.int) (λj g f=>∃ A B:cK,g=[↥p,↥q,↥w,some (.int (i:Int)),some (.int z),A,B]/\Same H f/\f w=some (.lst (BF L λk=>V' c d i j k)))
      ⟨A,B,rfl,C.trans X,by rw [X _ _ r];exact congrArg (λl=>some (HO.lst l)) (ID λk _=>(Kh c d i k))⟩ ?_ ?_ ?_⟩
    ·rintro j g f _ ⟨_,_,_,G,_⟩;exact SqL.of (G _ _ J)
    ·rintro j y pq g H2 I ⟨y3,y4,rfl,G,v⟩ Y;rw [Ac] at I;cases em:d[j]? with
     | none=>rw [em] at I;cases I
     | some u=>
       rw [em] at I;obtain rfl:V.int u=y:=pL I;let jl:j<↑d:=(Ax.mp em).1;let ud:d.getD j 0=u:=by rw [AJ,em];rfl
       let sq:=AM Y (.tup [.int (j:Int),.int u]);let Z:=sq _ _ v;rwa [Z];let kl:i+j<L:=by omega
       refine ⟨_,Ca ⋯ (EN _ kl),B8 (ba z (A5 en)) (bb u (A5 em)),_,rfl,i+j,?_,λb o h=>Kp.upd b o (As h w0) (sq b o (G b o h)),?_⟩
       ·rw [EM];exact FJ ⋯ kl
       ·refine IC kl ?_ λk _ hk=>?_
        ·rw [Gn,pB rfl,zd,ud]
        ·rw [Gn,qZ hk]
    ·rintro g H2 ⟨y3,y4,rfl,G,v⟩;rw [AI] at v;exact ⟨_,_,_,_,rfl,G,v⟩
 ·rintro g H1 ⟨T,U,A,B,rfl,C,r⟩;rwa [];rw [AI] at r
  let ck:∀ k,co ((List.range L).map λk=>ps c d ↑c k) k=ps c d ↑c k:=λk=>by
   unfold co;rw [AJ,Ac];by_cases hk:k<L
   ·rw [Cp hk];rfl
   ·rw [BH (by rw [Au];omega),Go _ _ ⋯];rfl
  let cl:((List.range L).map λk=>ps c d ↑c k).length=L:=by rw [AI,Au]
  refine k w _ H1 C r (by rw [cl];omega) ⟨by rw [cl];omega,?_⟩ ck;rw [ck,cl,<-S,vO N O];exact EU la.2 lb.2
def Hand.same {H b:Hp} {p a:Addr} {n:Int} (h:Hand H p a n) (s:Same H b):Hand b p a n:=by
 let ⟨c,x,y,z,d,e,r⟩:=h;exact ⟨c,x,y,z,s _ _ d,s _ _ e,r⟩
def Hand.mono {H:Hp} {p a:Addr} {n b:Int} (h:Hand H p a n) (e:n<=b):Hand H p a b:=by
 let ⟨c,x,y,z,d,f,g,i,j,m,k⟩:=h;exact ⟨c,x,y,z,d,f,g,i,j,⋯,k⟩
def Hand.ne {H:Hp} {p a q:Addr} {n:Int} (h:Hand H p a n) (e:H q=none):q≠p:=by
 let ⟨c,x,y,z,b,_⟩:=h;exact λw=>by rw [w,b] at e;cases e
def Hand.ne2 {H:Hp} {p a q:Addr} {n:Int} (h:Hand H p a n) (e:H q=none):q≠a:=by
 let ⟨c,x,y,z,_,b,_⟩:=h;exact λw=>by rw [w,b] at e;cases e
def Hand.upd {H:Hp} {p a q:Addr} {n:Int} {o:HO} (h:Hand H p a n) (e:q≠p) (b:q≠a):Hand (upd H q o) p a n:=by
 let ⟨c,x,y,z,d,f,r⟩:=h;exact ⟨c,x,y,z,by rw [Aq e.symm];exact d,by rw [Aq b.symm];exact f,r⟩
def TC {d:Int} (a:0<=d) (b:d<2):∃ s:Int,N_ [V.int 1,V.int (-1)] d=some (V.int s)/\s≠0/\-1<=s/\s<=1:=by
 rcases (show d=0\/d=1 by omega) with e | e <;> subst e
 ·exact ⟨1,rfl,∅,∅,∅⟩
 ·exact ⟨-1,rfl,∅,∅,∅⟩
def bdQ {n:Nat} {x:Int} (h:x.natAbs<2 ^ n):Bd n x:=h
def TD {n m:Int} (c:m≠0) (d:n≠0):(Ae n m).1≠0:=λz=>by
 let v:=Fd (n:=n) c;unfold val at v;rw [z,show ((0:Int):Rat)=0 from rfl,P'] at v;let a:=A4 c;let b:=A4 d;ext
def TF {s d:Int} (a:s≠0) (b:-1<=s) (c:s<=1):(s*d).natAbs=d.natAbs:=by
 rw [CV];have:s.natAbs=1:=by omega
 rw [this,Nat.one_mul]
def vQ (h:Jd K vs H Q E):Ru K { nx:=λ_ o=>Q .non o,rt:=Q } (L2.start ["_law_hand_here"] vs) H:=by
 let ⟨p,ad,n,rfl,i,M,k⟩:=h;unfold Ru;rwa [];refine ⟨sz ∅,λq a=>⟨ad,n,i.same (AM a _),⋯,∅,∅,λd u v w x j=>?_⟩⟩;let ⟨s,y,m,z,A⟩:=TC v w;let b:Kp p H u:=(Kp.of_same (AM a _)).trans j;refine ⟨_,j _ _ (i.ne a) upd_same,_,y,ad,n+2,x,⋯,∅,∅,λe N O P B C=>⟨s,rfl,Jg ⋯ ⋯,ad,n+2+2,B,⋯,∅,∅,λf R S T D F=>⟨⋯,λr G=>?_⟩⟩⟩;let sr:=AM G (.tup [.int (Ae (s*(1+e)) (1+f)).1,.int (Ae (s*(1+e)) (1+f)).2]);let g:1+f≠0:=by omega
 let I:=TF (d:=1+e) m z A;let ⟨J,L⟩:=JE (c:=4) (d:=4) (n:=s*(1+e)) g (bdQ (by rw [I];show _<16;omega)) (bdQ (by show _<16;omega));exact k r _ _ _ upd_same (FE g) (TD g (EU m ⋯)) J L ((D.same sr).mono ⋯) (((b.trans C).trans F).same sr)
def vR {d v a:Int} (f:1<=a) (g:0<=d) (h:d<4) (b:-a<=v) (c:v<=a):∃ s:Int,N_ [V.int 0,V.int 1,V.int (-1),V.int v] d=some (V.int s)/\-a<=s/\s<=a:=by
 rcases (show d=0\/d=1\/d=2\/d=3 by omega) with e | e | e | e <;> subst e
 ·exact ⟨0,rfl,⋯,⋯⟩
 ·exact ⟨1,rfl,⋯,⋯⟩
 ·exact ⟨-1,rfl,⋯,⋯⟩
 ·exact ⟨v,rfl,b,c⟩
def vS (h:GU K vs H Q E):Rv K { nx:=λ_ q=>Q .non q,rt:=Q } (L2.start ["_law_hand_here","_law_most","_law_size","_law_row","_law_k"] vs) H:=by
 let ⟨p,ad,m,C,n,rfl,S,n9,m0,m7,hS,a0,k⟩:=h;let T:1<=C:=hS;unfold Rv;rwa [];refine ⟨sz ∅,λw I=>⟨ad,n,S.same (AM I _),⋯,⋯,⋯,λd H1 d0 dm h1 k1=>⟨⋯,⋯,?_⟩⟩⟩;let D:w≠p:=S.ne I;let wa:w≠ad:=S.ne2 I;let U:Kp p H H1:=(Kp.of_same (AM I _)).trans k1;let W:H1 w=some (.lst []):=k1 _ _ D upd_same;refine ForR.by (λi X q=>i<=d.toNat/\∃ (j:cL) (x:cK),X=[↥p,some (.int m),some (.int C),↥w,x]/\q w=some (.lst (~~~j))/\↑j=i/\(∀ z∈j,-C<=z/\z<=C)/\Hand q p ad (n+2+4*i)/\Kp p H q) ⟨AX _,[],none,rfl,W,rfl,λz J=>absurd J (by simp),by simpa using h1,U⟩ ?_ ?_
 ·rintro i X q hi ⟨_,j,x,rfl,a,ln,bn,N,Y⟩;rwa [a];refine ⟨Gj a,SH ∅ ∅,ad,_,N,⋯,⋯,⋯,λe H3 e0 e9 O F=>⟨sz ∅,λc u=>?_⟩⟩;let y:=F _ _ D a;let Z:=AM u (.lst [.int 0,.int 1,.int (-1),.int (e - C)]);refine ⟨ad,_,O.same Z,⋯,∅,∅,λf H4 f0 f4 L G=>?_⟩;let ⟨s,hs,s1,s2⟩:=vR T (v:=e - C) f0 f4 ⋯ ⋯;let A:=G _ _ D (Z _ _ y);refine ⟨_,G _ _ (O.ne u) upd_same,_,hs,_,A,sz (by rw [AI];omega),⋯,j++[s],by simp,by simp;omega,λz J=>?_,(L.mono ⋯).upd D wa,λb o B P=>?_⟩
  ·rcases DK.mp J with h | h
   ·exact bn z h
   ·rw [BU.mp h];exact ⟨s1,s2⟩
  ·rw [Aq (As P I)];exact G _ _ B (Z _ _ (F _ _ B (Y _ _ B P)))
 ·rintro X q ⟨_,j,x,rfl,a,ln,bn,N,Y⟩;rwa [a];refine ⟨sz ∅,λc u=>⟨ad,_,N.same (AM u _),⋯,∅,∅,λe H3 e0 e2 O F=>?_⟩⟩;let ⟨s,hs,s0,s1,s2⟩:=TC e0 e2;let y:=F _ _ D (AM u _ _ _ a);refine ⟨_,F _ _ (N.ne u) upd_same,_,hs,ad,_,O,⋯,⋯,⋯,λf H4 f0 f9 L G=>⟨s,rfl,Jg ⋯ ⋯,sz ∅,λg hg=>?_⟩⟩;let A:=G _ _ D y;let R:=AM hg (.lst [.int (s*(1+f))]);refine ⟨_,R _ _ A,sz (by rw [AI];omega),λr hr=>?_⟩;let sr:=AM hr (.lst (j.map V.int++[V.int (s*(1+f))]));let M:=R.trans sr;let em:j.map V.int++[V.int (s*(1+f))]=(j++[s*(1+f)]).map V.int:=by simp
  let sm:=TF (d:=1+f) s0 s1 s2;refine k r (j++[s*(1+f)]) _ (by rw [<-em];exact upd_same) (by rw [B3];simp;omega) ⟨by simp,?_⟩ (λz J=>?_) ?_ ?_ ((L.same M).mono ⋯) (λb o B P=>M _ _ (G _ _ B (F _ _ B (AM u _ _ _ (Y _ _ B P)))))
  ·unfold co;rw [B3,D9,Nat.add_sub_cancel,AJ,De (AV _)];simp;exact ⟨s0,⋯⟩
  ·rcases DK.mp J with h | h
   ·exact bn z h
   ·rw [BU.mp h];omega
  ·exact (L.same R).ne hr
  ·exact (L.same R).ne2 hr
def GW {K:W.Frag} {f:Nu->Nu->Nu} {vs:cJ} {H:Hp} {Q:VK} {E:XK} (h:twN f vs H Q):Hs f K vs H Q E:=by
 let ⟨x,y,q,r,rfl,⟨_,c,d⟩,⟨_,e,g⟩,a,b,k⟩:=h;cases c;cases e;exact ⟨_,_,q.1,q.2,r.1,r.2,rfl,d,g,a.1.pos,b.1.pos,a.2.1.mono ∅,a.2.2.mono ∅,b.2.1.mono ∅,b.2.2.mono ∅,k⟩
def Jv {a:Type} {n k:Nat} (f:Nat->a) (h:k<n):((List.range n).map f)[k]?=some (f k):=by
 rw [Ac,Cp h];rfl
def vT {b:Type} {n k:Nat} {f g:Nat->b} {z:b} (h:k<n) (c:g k=z) (d:∀ i,i<n->i≠k->g i=f i):((List.range n).map f).set k z=(List.range n).map g:=by
 apply El;intro i;by_cases a:i<n
 ·by_cases e:i=k
  ·subst e;rw [Fq (by rw [AI,Au];exact a),Jv g a,c]
  ·rw [Fr (λz=>e z.symm),Jv f a,Jv g a,d i a e]
 ·rw [BH (by rw [C7,AI,Au];omega),BH (by rw [AI,Au];omega)]
def TH {a:Type} {n:Nat} {f g:Nat->a} (h:∀ i,i<n->f i=g i):(List.range n).map f=(List.range n).map g:=
 List.map_congr_left λi b=>h i (D5.mp b)
theorem TJ {a:Type} (z:a):∀ n:Nat,(List.range n).map (λ_=>z)=List.replicate n z
 | 0=>rfl
 | n+1=>by rw [Ex,CP,TJ z n,List.replicate_succ'];rfl
def vU {n k B:Int} {q r:Nu} {a b c:Int} (d:0<B) (f:0<q.2) (g:0<r.2) (h:Wo q a b) (i:Wo r c k) (e:B=b*k):I_ (L_ n B) (C' q r)=L_ (n+a*c) B:=by
 subst e;refine Kb (Kc (Dj d).pos (Hf f g).pos) (Dj d) (Ah d) (YD (Dj d).pos (Hf f g).pos (Fa d) (YE f g h i)) (Fa d)
def vV (h:Lb K vs H Q E):Zq K (eA Q) (L2.start ["_law_kp","_law_kq","_law_row","_law_k","_law_one","_law_j","_law_other"] vs) H:=by
 let ⟨p,q,T,ys,l,m,b0,c0,rfl,hp,U,hN,hM,Gl,W,b1,c1,ll,lm,k⟩:=h;let ⟨d,G,M,bl⟩:=Gl.ov;let ⟨a,I,O,bm⟩:=W.ov;let lx:=↑hN;let ly:=↑hM;let BP:=Bh G.1 I.1;let a0:Bd 2000 (d*a):=(M.mul O).mono ⋯;let n2:(F_ m a).length=↑m:=by unfold F_;rw [AI]
 let bd:∀ i j k,i<=100->Bd 2101 (V' (F_ l d) (F_ m a) i j k):=λi j k hi=>(YJ bl bm i j k).mono ⋯;refine Ab (AW (DH (DG (G' (G' ⟨CH,λb hb=>⟨Cb,λc hc=>?_⟩⟩)))));let sb:=AM hb (.tup [.int 0,.int 1]);let sc:=AM hc (.lst [.ref b]);let s0:=sb.trans sc;let a3:upd (upd H b (.tup [.int 0,.int 1])) c (.lst [.ref b]) b=some (HO.tup [V.int 0,V.int 1]):=sc _ _ upd_same;let a4:upd (upd H b (.tup [.int 0,.int 1])) c (.lst [.ref b]) c=some (HO.lst [V.ref b]):=upd_same;generalize upd (upd H b (.tup [.int 0,.int 1])) c (.lst [.ref b])=H0 at *;refine AW (Bg (AD rfl ⟨p,T,rfl,s0 _ _ hp,Bg (AD rfl ⟨q,ys,rfl,s0 _ _ U,_,_,rfl,rfl,c,_,[.ref b],rfl,rfl,a4,⋯,⋯,sz (by rw [D9];omega),λw hw=>?_⟩)⟩));rw [show ((↑T:Int)+(↑ys:Int)).toNat=↑l+↑m by omega,Er];let sw:=AM hw (.lst (List.replicate (↑l+↑m) (V.ref b)));let w0:H w=none:=s0.free hw;let C:=s0.trans sw;refine (show Ay _ _ _ _ _ _ from ⟨_,rfl,p,rfl,⟨_,SqT.of (C _ _ hp)⟩,ForJ.enumT (xs:=T) (λi D f=>∃ x1 x2 R S:cK,D=[↥p,↥q,↥w,x1,x2,R,S]/\Same H f/\∃ J,f w=some (.lst J)/\Nums f J ((List.range (↑l+↑m)).map λk=>L_ (ps (F_ l d) (F_ m a) i k) (d*a))) ⟨none,none,none,none,rfl,C,_,upd_same,?_⟩ ?_ ?_ ?_⟩)
 ·rw [show (λk=>L_ (ps (F_ l d) (F_ m a) 0 k) (d*a))=λ_=>((0,1):Nu) from funext λk=>Kd BP,TJ];exact Nums.rep ⟨b,rfl,sw _ _ a3⟩ _
 ·rintro i D f _ ⟨_,_,_,_,_,C,_⟩;exact C _ _ hp
 ·rintro i x pp D H1 hi ⟨x1,x2,R,S,rfl,C,J,P,F⟩ a5;let ⟨z,X,px,rfl,a6⟩:=hN.get hi;let il:i<↑l:=(Ax.mp X).1;let zd:AG l i=z:=by unfold AG;rw [AJ,X];rfl
  let sp:=AM a5 (.tup [.int (i:Int),.ref px]);refine ⟨pp,_,rfl,upd_same,rfl,_,_,rfl,_,_,rfl,rfl,?_⟩;let lq:=Gl.low z (A5 X);let zq:Bd 1000 z.1/\Bd 1000 z.2:=⟨(G9 Gl.low G bl z (A5 X)).mono b1,(DR (Ah G.1) (G.2 z (A5 X)) M).mono c1⟩;refine (show Ay _ _ _ _ _ _ from ⟨_,rfl,q,rfl,⟨_,SqT.of (sp _ _ (C _ _ U))⟩,ForJ.enumT (xs:=ys) (λj D f=>∃ R S:cK,D=[↥p,↥q,↥w,some (.int (i:Int)),↥px,R,S]/\Same H f/\∃ J,f w=some (.lst J)/\Nums f J ((List.range (↑l+↑m)).map λk=>L_ (V' (F_ l d) (F_ m a) i j k) (d*a))) ⟨R,S,rfl,C.trans sp,_,sp _ _ P,?_⟩ ?_ ?_ ?_⟩)
  ·rw [TH λk _=>congrArg (λz=>L_ z (d*a)) (Kh (F_ l d) (F_ m a) i k)];exact F.tp (D_ sp)
  ·rintro j D f _ ⟨_,_,_,L,_⟩;exact L _ _ U
  ·rintro j y pq D H2 hj ⟨y3,y4,rfl,L,A,B,e⟩ a7;let ⟨u,Y,py,rfl,ab⟩:=hM.get hj;let jl:j<↑m:=(Ax.mp Y).1;let ud:AG m j=u:=by unfold AG;rw [AJ,Y];rfl
   let sq:=AM a7 (.tup [.int (j:Int),.ref py]);let kl:i+j<↑l+↑m:=by omega
   let aj:=e.tp (D_ sq);let ⟨v,hv,g,rfl,hg⟩:=aj.at (i:=i+j) (by rw [AI,Au];exact kl) (1,1);rw [AJ,Jv _ kl] at hg;let lu:=W.low u (A5 Y);let zu:Bd 1000 u.1/\Bd 1000 u.2:=⟨(G9 W.low I bm u (A5 Y)).mono b1,(DR (Ah I.1) (I.2 u (A5 Y)) O).mono c1⟩;refine ⟨pq,_,rfl,upd_same,rfl,_,_,rfl,_,_,rfl,rfl,?_⟩;generalize upd H2 pq (.tup [.int (j:Int),.ref py])=H3 at *;let nq:Nb 1000 z:=⟨lq,zq⟩;let nu:Nb 1000 u:=⟨lu,zu⟩;let s3:=L.trans sq;let al:Nb 2101 (L_ (V' (F_ l d) (F_ m a) i j (i+j)) (d*a)):=MO BP (bd i j (i+j) ⋯) (a0.mono ∅);let an:=IN nq nu;refine (show AQ _ _ _ _ _ _ _ from Al (AW (AD rfl (AW (AD rfl (AD rfl ⟨_,_,rfl,rfl,B7 (sq _ _ B) (Ca (j:=i+j) ⋯ hv) (Al (AD rfl (AD rfl (GW ⟨px,py,z,u,rfl,⟨px,rfl,s3 _ _ a6⟩,⟨py,rfl,s3 _ _ ab⟩,nq.mono ∅,nu.mono ∅,λr1 ap=>?_⟩))))⟩))))));let Z:=AM ap (.tup [.int (C' z u).1,.int (C' z u).2]);refine GW ⟨g,r1,_,C' z u,rfl,⟨g,rfl,Z _ _ hg⟩,⟨r1,rfl,upd_same⟩,al.mono ∅,an.mono ∅,λr2 b2=>?_⟩;let b3:=AM b2 (.tup [.int (I_ (L_ (V' (F_ l d) (F_ m a) i j (i+j)) (d*a)) (C' z u)).1,.int (I_ (L_ (V' (F_ l d) (F_ m a) i j (i+j)) (d*a)) (C' z u)).2]);let st:=(sq.trans Z).trans b3;let lz:↑A=↑l+↑m:=by rw [↑e,AI,Au]
   refine (show Cj _ _ _ _ _ _ _ from AD rfl (AW (AD rfl (AD rfl ⟨_,_,rfl,rfl,w,A,_,i+j,rfl,rfl,st _ _ B,FJ ⋯ ⋯,⟨_,_,rfl,λb o h=>Kp.upd b o (As h w0) (st b o (L b o h)),_,upd_same,?_⟩⟩))));let hn:=(Nums.set (q:=I_ (L_ (V' (F_ l d) (F_ m a) i j (i+j)) (d*a)) (C' z u)) ⟨r2,rfl,upd_same⟩ (i+j) (e.tp (D_ st))).tp (Tp.updL (ys:=A.set (i+j) (V.ref r2)) (st _ _ B));rw [vT (g:=λk=>L_ (V' (F_ l d) (F_ m a) i (j+1) k) (d*a)) kl ?_ λk _ hk=>?_] at hn
   ·exact hn
   ·let w1:=Km G i;let w2:=Km I j;rw [zd] at w1;rw [ud] at w2;show L_ (V' (F_ l d) (F_ m a) i (j+1) (i+j)) (d*a)=_;rw [Gn,pB rfl,vU BP lq.pos lu.pos w1 w2 rfl]
   ·show L_ (V' (F_ l d) (F_ m a) i (j+1) k) (d*a)=_;rw [Gn,qZ hk]
  ·rintro D H2 ⟨y3,y4,rfl,L,A,B,e⟩;rw [ly,TH λk _=>congrArg (λz=>L_ z (d*a)) (show V' (F_ l d) (F_ m a) i ↑m k=ps (F_ l d) (F_ m a) (i+1) k by rw [<-n2];rfl)] at e;exact ⟨_,_,_,_,rfl,L,A,B,e⟩
 ·rintro D H1 ⟨x1,x2,R,S,rfl,C,J,P,F⟩;rw [lx] at F;let lo:=Kn (n:=↑l+↑m) G I;let pv:∀ k,C_ (trim (FF l m d a (↑l+↑m))) k=cv (C_ l) (C_ m) ↑l k:=λk=>by rw [Eo lo,Ko Gl.low W.low G I]
  let aL:Am (trim (FF l m d a (↑l+↑m))):=λq U=>lo q (EJ U);refine Bb (CL (AD rfl ⟨w,J,_,rfl,P,F,by rw [AI,Au];omega,λr vs H2 L hr hv=>k r vs _ H2 (C.trans L) hr hv aL (Dy _) (Jn pv) (Jl aL (Dy _) BP (M.mul O) (N:=ps (F_ l d) (F_ m a) ↑l) (λk=>?_) λk=>?_)⟩))
  ·exact (pv k).trans (Hj Gl.low W.low G I ↑l k).symm
  ·exact Hg bl bm ↑l k
def Nums.dropLast {H:Hp} {xs:cJ} {l:cF} (h:Nums H xs l):Nums H xs.dropLast l.dropLast:=by
 rw [List.dropLast_eq_take,List.dropLast_eq_take,↑h];exact h.take _
def Hand.at {H:Hp} {p a:Addr} {n:Int} (h:Hand H p a n):∃ b,H p=some (.lst b):=by
 let ⟨d,x,y,z,c,_⟩:=h;exact ⟨_,c⟩
def Kp.tp' {p:Addr} {H c:Hp} {xs:cJ} (k:Kp p H c) (h:H p=some (.lst xs)):Tp H c:=λb d a=>k b _ (λz=>by rw [z,h] at a;cases a) a
def vW (L m:cF) (cc:Nu) (s:Nat):X_ L m cc s 0=L:=by
 apply El;intro k;by_cases h:k<↑L
 ·rw [IH h,qZ ⋯];unfold AG;rw [AJ,AT h];rfl
 ·rw [BH (by rw [EO];omega),BH ⋯]
def vY {L m:cF} {cc:Nu} {s j:Nat} (h:s+j<↑L):(X_ L m cc s j).set (s+j) (I_ (AG L (s+j)) (C' (-cc.1,cc.2) (AG m j)))=X_ L m cc s (j+1):=by
 apply El;intro k;by_cases hk:k<↑L
 ·rw [IH hk];by_cases e:k=s+j
  ·subst e;rw [Fq (by rw [EO];exact hk),pB ⋯,show s+j - s=j by omega]
  ·rw [Fr (λz=>e z.symm),IH hk];congr 1;by_cases a:s<=k/\k - s<j
   ·rw [pB a,pB ⋯]
   ·rw [qZ a,qZ ⋯]
 ·rw [BH (by rw [C7,EO];omega),BH (by rw [EO];omega)]
def vZ {t d:Int} (h:Low t d) (c:t≠0):(t<0->Low (-d) (-t)/\val (-d,-t)*val (t,d)=1)/\(¬ t<0->Low d t/\val (d,t)*val (t,d)=1):=by
 let a:=A4 (Ah h.pos);let b:=A4 c;let g:=h.one;refine ⟨λn=>⟨⟨⋯,?_⟩,?_⟩,λn=>⟨⟨⋯,?_⟩,?_⟩⟩
 ·rw [Int.neg_gcd,Int.gcd_neg,Int.gcd_comm];exact g
 ·unfold val;push_cast;ext
 ·rw [Int.gcd_comm];exact g
 ·unfold val;ext
def uA (c q:Nu):C' c (-q.1,q.2)=C' (-c.1,c.2) q:=by
 unfold C';show L_ (c.1 * -q.1) _=L_ (-c.1*q.1) _;rw [show c.1 * -q.1 = -c.1*q.1 by grind]
def TK {ns:cL} {t d:Int} (f:Lz ns) (bn:∀ z∈ns,Bd 8 z) (l:Low t d) (g:t≠0) (h:Bd 4 t) (i:Bd 4 d):Gq 12 12 (ns.map λn=>Ae (n*t) d):=by
 let c:d≠0:=Ah l.pos;let e:(ns.map λn=>Ae (n*t) d)=(ns.map (·*t)).map λn=>Ae n d:=by rw [List.map_map];rfl
 let b:∀ z∈ns.map (·*t),Bd 12 z:=λz j=>by let ⟨y,k,rfl⟩:=Ao.mp j;exact (bn y k).mul h
 let r:=MA c b;rw [<-e] at r;refine ⟨λq a=>?_,λq a=>?_,_,r.1,(i.le ⋯).mono ∅,r.2⟩
 ·let ⟨z,_,rfl⟩:=Ao.mp a;exact FE c
 ·rw [List.getLast?_map] at a;let o:=f.1
  let m:ns.getLast?=some (co ns (↑ns - 1)):=by
   rw [Fu];unfold co;rw [AJ,AT ⋯];rfl
  rw [m] at a;obtain rfl:=pL a;exact TD c (EU f.2 g)
def uB {ns:cL} (a:Lz ns) (bn:∀ z∈ns,Bd 12 z):Gq 12 12 (ac ns):=by
 let ⟨O,B⟩:=MA a.2 bn;exact ⟨SU a,yK a,_,O,(HF bn (↑ns - 1)).le ⋯,B⟩
def uC {x y:Int} (h:y≠0):Lz [x,y]:=⟨by simp,h⟩
theorem IO (k:Nat):C_ [(1,1)] k=(BQ k:Rat):=by
 unfold C_ AG;cases k with
 | zero=>show val (1,1)=1;unfold val;show ((1:Int):Rat) / ((1:Int):Rat)=1;ext
 | succ j=>
   show val ([].getD j (0,1))=0;rw [List.getD_nil];unfold val;show ((0:Int):Rat) / _=0;rw [show ((0:Int):Rat)=0 from rfl,P']
namespace Sr
noncomputable def pl (n:Nat) (c:cZ):Sr:=⟨λk=>if k<n then c k else 0⟩
def uD (n:Nat) (c:cZ):Bn (pl n c) n:=λk hk=>by show (if k<n then c k else 0)=0;rw [qZ ⋯]
def add_c (f g:Sr) (k:Nat):(f+g).c k=f.c k+g.c k:=rfl
def X_c (n k:Nat):(X n).c k=if n=k then 1 else 0:=by
 let h:=K7 n 1 k;rw [show X n*1=X n by grind] at h;rw [h];by_cases q:n<=k
 ·rw [pB q];show ((1:Nat):Rat)*BQ (k - n)=_;by_cases e:n=k
  ·rw [pB e,e,EV];show ((1:Nat):Rat)*1=1;push_cast;ext
  ·rw [qZ e];let ⟨j,a⟩:∃ j,k - n=j+1:=⟨k - n - 1,⋯⟩;rw [a];show ((1:Nat):Rat)*0=0;ext
 ·rw [qZ q,qZ ⋯]
def uE (n:Nat) (c:cZ):pl (n+1) c=pl n c+num (c n)*X n:=ext' λk=>by
 rw [add_c,num_mul,X_c];show (if k<n+1 then c k else 0)=(if k<n then c k else 0)+_;by_cases q:k<n
 ·rw [pB q,pB ⋯,qZ ⋯];ext
 ·by_cases e:n=k
  ·rw [qZ q,pB e,pB ⋯,e];ext
  ·rw [qZ q,qZ e,qZ ⋯];ext
def uF (c:cZ):pl 0 c=0:=ext' λk=>by rw [zero_c];exact uD 0 c k (AX k)
theorem pl_mul (c:cZ) (g:Sr) (h:Nat):∀ n,(pl n c*g).c h=su n λj=>c j*(if j<=h then g.c (h - j) else 0)
 | 0=>by rw [uF,show (0:Sr)*g=0 by ext,zero_c];rfl
 | n+1=>by
   rw [uE,show (pl n c+num (c n)*X n)*g=pl n c*g+num (c n)*(X n*g) by ext,add_c,pl_mul c g h n,num_mul,K7];rfl
def pl_of {f:Sr} {n:Nat} (h:Bn f n):pl n f.c=f:=ext' λk=>by
 show (if k<n then f.c k else 0)=f.c k;by_cases q:k<n
 ·rw [pB q]
 ·rw [qZ q,h k ⋯]
theorem su_c (f:Nat->Sr) (k:Nat):∀ n,(su n f).c k=su n λt=>(f t).c k
 | 0=>zero_c k
 | n+1=>by show (su n f+f n).c k=su n (λt=>(f t).c k)+(f n).c k;rw [add_c,su_c f k n]
def uG {q B:Sr} {n b:Nat} (c:Pol q) (d:B.c b≠0) (f:Bn B (b+1)) (h:Bn (q*B) n):Bn q (n - b):=by
 let ⟨k,hk⟩:=c.bn;rcases Om k hk with z | ⟨e,_,g,a⟩
 ·rw [z];exact λk _=>zero_c k
 ·let ⟨t,_⟩:=Oo a f
  have:e+b<n:=Classical.byContradiction λi=>by
   have:=h (e+b) ⋯;rw [t] at this;rcases domQ.mul this with z | z
   ·exact g z
   ·exact d z
  exact λk hk=>a k ⋯
end Sr
theorem Jw {R:Type} [Lean.Grind.CommRing R] (f:Nat->R):∀ n,su (n+1) f=f 0+su n λi=>f (i+1)
 | 0=>by show (0:R)+f 0=f 0+0;ext
 | n+1=>by show su (n+1) f+f (n+1)=f 0+(su n (λi=>f (i+1))+f (n+1));rw [Jw f n];ext
namespace Sr
variable {W:Sr}
def Cg.of {f g:Sr} (h:f=g):Cg W f g:=⟨0,Pol.nat 0,by rw [h];ext⟩
def Cg.symm {f g:Sr} (h:Cg W f g):Cg W g f:=let ⟨q,p,e⟩:=h;⟨-q,p.neg,by rw [e];ext⟩
def Cg.trans {f g h:Sr} (a:Cg W f g) (b:Cg W g h):Cg W f h:=by
 let ⟨q,p,e⟩:=a;let ⟨c,d,i⟩:=b;exact ⟨q+c,p.add d,by rw [e,i];ext⟩
def Cg.add {f g f' g':Sr} (a:Cg W f g) (b:Cg W f' g'):Cg W (f+f') (g+g'):=by
 let ⟨q,p,e⟩:=a;let ⟨c,d,h⟩:=b;exact ⟨q+c,p.add d,by rw [e,h];ext⟩
def Cg.mul {f g f' g':Sr} (d:Pol f') (h:Pol g) (a:Cg W f g) (b:Cg W f' g'):Cg W (f*f') (g*g'):=by
 let ⟨q,p,e⟩:=a;let ⟨c,i,j⟩:=b;refine ⟨g*c+q*f',(h.mul i).add (p.mul d),?_⟩;have:f*f'=g*f'+W*(q*f'):=by rw [e];ext
 let k:g*f'=g*g'+W*(g*c):=by rw [j];ext
 rw [this,k];ext
theorem Cg.pow {f g:Sr} (b:Pol f) (c:Pol g) (a:Cg W f g):∀ n:Nat,Cg W (f ^ n) (g ^ n)
 | 0=>Cg.of (by rw [pow_z,pow_z])
 | n+1=>by rw [pow_s,pow_s];exact Cg.mul b (c.pow n) (Cg.pow b c a n) a
def Cg.num {f g:Sr} (x:Rat) (a:Cg W f g):Cg W (Sr.num x*f) (Sr.num x*g):=by
 let ⟨q,p,e⟩:=a;exact ⟨Sr.num x*q,(Pol.num x).mul p,by rw [e];ext⟩
theorem Cg.su {f g:Nat->Sr}:∀ n,(∀ i,i<n->Cg W (f i) (g i))->Cg W (Bs.su n f) (Bs.su n g)
 | 0,_=>Cg.of rfl
 | n+1,h=>Cg.add (Cg.su n λi a=>h i ⋯) (h n ⋯)
def Cg.eq {f g:Sr} {w:Nat} (a:W.c w≠0) (c:Bn W (w+1)) (d:Bn f w) (i:Bn g w) (h:Cg W f g):f=g:=by
 let ⟨q,p,e⟩:=h
 let b:Bn (q*W) w:=λk hk=>by
  have:q*W=f - g:=by rw [e];ext
  rw [this,sub_c,d k hk,i k hk];ext
 let j:=uG p a c b;have:q=0:=ext' λk=>by rw [zero_c];exact j k ⋯
 rw [e,this];ext
structure Zi (f:Sr):Prop where
 pol:Pol f
 z:∀ k,∃ z:Int,f.c k=(z:Rat)
theorem TL {f:cZ}:∀ n,(∀ i,i<n->∃ z:Int,f i=(z:Rat))->∃ z:Int,Bs.su n f=(z:Rat)
 | 0,_=>⟨0,rfl⟩
 | n+1,h=>by
   let ⟨a,c⟩:=TL n λi e=>h i ⋯;let ⟨b,d⟩:=h n ⋯;exact ⟨a+b,by show Bs.su n f+f n=_;rw [c,d,Rat.intCast_add]⟩
def Zi.add {f g:Sr} (a:Zi f) (b:Zi g):Zi (f+g):=⟨a.pol.add b.pol,λk=>by
 let ⟨x,c⟩:=a.z k;let ⟨y,d⟩:=b.z k;exact ⟨x+y,by rw [add_c,c,d,Rat.intCast_add]⟩⟩
theorem Zi.num (z:Int):Zi (Sr.num (z:Rat)):=⟨Pol.num _,λk=>by
 cases k with
 | zero=>exact ⟨z,by show (z:Rat)*1=z;ext⟩
 | succ k=>exact ⟨0,by show (z:Rat)*0=((0:Int):Rat);ext⟩⟩
def Zi.mul {f g:Sr} (a:Zi f) (b:Zi g):Zi (f*g):=⟨a.pol.mul b.pol,λk=>by
 let ⟨n,c⟩:=a.pol.bn;rw [<-pl_of c,pl_mul];refine TL n λi _=>?_;let ⟨x,d⟩:=a.z i;rw [d];by_cases q:i<=k
 ·let ⟨y,e⟩:=b.z (k - i);exact ⟨x*y,by rw [pB q,e,B6]⟩
 ·exact ⟨0,by rw [qZ q];ext⟩⟩
def Zi.sub {f g:Sr} (a:Zi f) (b:Zi g):Zi (f - g):=by
 have:f - g=f+Sr.num ((-1:Int):Rat)*g:=by
  refine ext' λk=>?_;rw [sub_c,add_c,num_mul];ext
 rw [this];exact a.add ((Zi.num _).mul b)
def Zi.zero:Zi 0:=⟨Pol.nat 0,λk=>⟨0,by rw [zero_c];rfl⟩⟩
def Zi.one:Zi 1:=⟨Pol.nat 1,λk=>by
 have:=(Zi.num 1).z k;let ⟨z,e⟩:=this;refine ⟨z,?_⟩;rw [<-e];rfl⟩
theorem Zi.pow {f:Sr} (a:Zi f):∀ n:Nat,Zi (f ^ n)
 | 0=>by rw [pow_z];exact Zi.one
 | n+1=>by rw [pow_s];exact (Zi.pow a n).mul a
theorem Zi.su {f:Nat->Sr}:∀ n,(∀ i,i<n->Zi (f i))->Zi (Bs.su n f)
 | 0,_=>Zi.zero
 | n+1,h=>(Zi.su n λi a=>h i ⋯).add (h n ⋯)
def Zi.X (n:Nat):Zi (X n):=⟨Pol.L _,λk=>by
 rw [X_c];by_cases q:n=k
 ·exact ⟨1,by rw [pB q];rfl⟩
 ·exact ⟨0,by rw [qZ q];rfl⟩⟩
def uH (x:Rat) (e:Nat):Sr.num (x ^ (e+1))=Sr.num (x ^ e)*Sr.num x:=by
 rw [Rat.pow_succ,<-num_num]
theorem psd {G:Sr} {m:Nat} {L:Int} (d:Zi G) (f:G.c m=(L:Rat)) (g:Bn G (m+1)):∀ (n:Nat) (F:Sr),Zi F->Bn F n->∃ (e:Nat) (Q R:Sr),Zi Q/\Zi R/\Bn R m/\Sr.num ((L:Rat) ^ e)*F=Q*G+R
 | 0,F,a,b=>⟨0,0,F,Zi.zero,a,λk _=>b k (AX _),by rw [show ((L:Rat)) ^ 0=1 by ext,num_one];ext⟩
 | n+1,F,a,b=>by
   by_cases q:n<m
   ·exact ⟨0,0,F,Zi.zero,a,λk hk=>b k ⋯,by rw [show ((L:Rat)) ^ 0=1 by ext,num_one];ext⟩
   ·let ⟨z,h⟩:=a.z n;let zF:Zi (Sr.num (L:Rat)*F - Sr.num (z:Rat)*(X (n - m)*G)):=((Zi.num L).mul a).sub ((Zi.num z).mul ((Zi.X _).mul d))
    let ⟨e,Q,R,i,j,o,E⟩:=psd d f g n _ zF (λk hk=>by
     rw [sub_c,num_mul,num_mul,K7,pB ⋯];by_cases c:k=n
     ·rw [c,h,show n - (n - m)=m by omega,f];ext
     ·rw [b k ⋯,g (k - (n - m)) ⋯];ext)
    refine ⟨e+1,Q+Sr.num ((L:Rat) ^ e)*Sr.num (z:Rat)*X (n - m),R,i.add (((by
     have:(L:Rat) ^ e=((L ^ e:Int):Rat):=(Rat.intCast_pow L e).symm;rw [this];exact Zi.num _:Zi (Sr.num ((L:Rat) ^ e))).mul (Zi.num z)).mul (Zi.X _)),j,o,?_⟩
    rw [uH];ext
theorem TM {M:Sr} {m:Nat} {p:Int} (i:Zi M) (j:M.c m=1) (o:Bn M (m+1)):∀ (n:Nat) (Y E F:Sr),Zi Y->Zi E->Bn Y n->Bn F m->F=M*Y+Sr.num (p:Rat)*E->∃ q,Zi q/\F=Sr.num (p:Rat)*q
 | 0,Y,E,F,d,a,b,f,h=>⟨E,a,by
   rw [h,show Y=0 from ext' λk=>by rw [zero_c];exact b k (AX _)];ext⟩
 | n+1,Y,E,F,d,a,b,f,h=>by
   let ⟨y,r⟩:=d.z n;let ⟨e,u⟩:=a.z (m+n);let t:=(Oo o b).1
   let w:(0:Rat)=(y:Rat)+(p:Rat)*(e:Rat):=by
    have:=f (m+n) ⋯;rw [h,add_c,num_mul,u,t,j,r] at this;rw [<-this];ext
   let v:(y:Rat) = - ((p:Rat)*(e:Rat)):=by ext
   refine TM i j o n (Y - Sr.num (y:Rat)*X n) (E - Sr.num (e:Rat)*(M*X n)) F (d.sub ((Zi.num y).mul (Zi.X n))) (a.sub ((Zi.num e).mul (i.mul (Zi.X n)))) (λk hk=>?_) f ?_
   ·rw [sub_c,num_mul,X_c];by_cases c:n=k
    ·rw [pB c,<-c,r];ext
    ·rw [qZ c,b k ⋯];ext
   ·let g:Sr.num (y:Rat) = - (Sr.num (p:Rat)*Sr.num (e:Rat)):=by
     rw [v,num_num];exact num_neg _
    rw [h,g];ext
theorem su_pol' {f:Nat->Sr}:∀ n,(∀ t,t<n->Pol (f t))->Pol (Bs.su n f)
 | 0,_=>Pol.nat 0
 | n+1,h=>(su_pol' n λt a=>h t ⋯).add (h n ⋯)
def numz:Sr.num 0=0:=congrArg Sr.num (show (0:Rat)=((0:Nat):Rat) by push_cast;rfl)
theorem TN (f:cZ):∀ n,Sr.num (Bs.su n f)=Bs.su n λi=>Sr.num (f i)
 | 0=>numz
 | n+1=>by
   show Sr.num (Bs.su n f+f n)=Bs.su n (λi=>Sr.num (f i))+Sr.num (f n);rw [<-TN f n];exact K5 _ _
def TQ (x y:Rat):Sr.num (x+y)=Sr.num x+Sr.num y:=K5 x y
theorem TR {W A:Sr} (a:Pol A) {d:Nat} {z:cZ} (h:Cg W (A ^ d) (Bs.su d λt=>Sr.num (z t)*A ^ t)):∀ k:Nat,∃ y:cZ,Cg W (A ^ k) (Bs.su d λt=>Sr.num (y t)*A ^ t)
 | 0=>by
   by_cases q:d=0
   ·subst q;exact ⟨z,h⟩
   ·refine ⟨λt=>if t=0 then 1 else 0,Cg.of ?_⟩;let ⟨e,rfl⟩:∃ e,d=e+1:=⟨d - 1,⋯⟩;rw [Jw,Bw λi _=>by show Sr.num (if i+1=0 then 1 else 0)*_=0;rw [qZ ⋯,numz];grind];show A ^ 0=Sr.num (if 0=0 then 1 else 0)*A ^ 0+0;rw [pB rfl,num_one];ext
 | k+1=>by
   let ⟨y,b⟩:=TR a h k;by_cases q:d=0
   ·subst q;refine ⟨y,?_⟩;have:=Cg.mul a (Pol.nat 0) b (Cg.of (W:=W) (rfl:A=A));rw [pow_s];refine this.trans (Cg.of ?_);show (0:Sr)*A=0;ext
   ·let ⟨e,rfl⟩:∃ e,d=e+1:=⟨d - 1,⋯⟩;refine ⟨λt=>(if t=0 then 0 else y (t - 1))+y e*z t,?_⟩;rw [pow_s];let c:=Cg.mul (W:=W) a (su_pol' (f:=λt=>Sr.num (y t)*A ^ t) (e+1) λt _=>(Pol.num _).mul (a.pow t)) b (Cg.of (rfl:A=A));refine c.trans ?_
    let j:Bs.su (e+1) (λt=>Sr.num (y t)*A ^ t)*A=Bs.su e (λt=>Sr.num (y t)*A ^ (t+1))+Sr.num (y e)*A ^ (e+1):=by
     rw [<-Cd];show Bs.su e (λt=>Sr.num (y t)*A ^ t*A)+Sr.num (y e)*A ^ e*A=_;rw [AU (g:=λt=>Sr.num (y t)*A ^ (t+1)) e λt _=>by rw [pow_s];ext,pow_s];ext
    let m:(Bs.su (e+1) λt=>Sr.num ((if t=0 then 0 else y (t - 1))+y e*z t)*A ^ t)=Bs.su e (λt=>Sr.num (y t)*A ^ (t+1))+Sr.num (y e)*Bs.su (e+1) λt=>Sr.num (z t)*A ^ t:=by
     rw [AU (g:=λt=>Sr.num (if t=0 then 0 else y (t - 1))*A ^ t+Sr.num (y e)*(Sr.num (z t)*A ^ t)) (e+1) λt _=>by rw [TQ,<-num_num];ext,Fi,BK];congr 1;rw [Jw,pB rfl,numz,AU (g:=λt=>Sr.num (y t)*A ^ (t+1)) e λt _=>by rw [qZ ⋯];rfl];ext
    rw [j,m];exact Cg.add (Cg.of rfl) (h.num (y e))
theorem bJ {M G:Sr} {p:Int} {f g:Nat->Sr} (x:cY):∀ r,(∀ j,j<r->∃ Z E,Zi Z/\Zi E/\f j=g j - M*Z+Sr.num (p:Rat)*E)->∃ Z E,Zi Z/\Zi E/\Bs.su r (λj=>Sr.num (x j:Rat)*f j)=Bs.su r (λj=>Sr.num (x j:Rat)*g j) - M*Z+Sr.num (p:Rat)*E
 | 0,_=>⟨0,0,Zi.zero,Zi.zero,by show (0:Sr)=0 - M*0+_*0;ext⟩
 | r+1,h=>by
   let ⟨Z,E,c,d,e⟩:=bJ (M:=M) (G:=G) (p:=p) x r λj n=>h j ⋯;let ⟨i,k,a,b,m⟩:=h r ⋯;refine ⟨Z+Sr.num (x r:Rat)*i,E+Sr.num (x r:Rat)*k,c.add ((Zi.num _).mul a),d.add ((Zi.num _).mul b),?_⟩;show Bs.su r _+Sr.num (x r:Rat)*f r=Bs.su r _+Sr.num (x r:Rat)*g r - _+_;rw [e,m];ext
end Sr
open Sr in
def uI {p:Nat} (pp:Pr p) {A M:Sr} {a:cL} {w:Nat} (lw:↑a=w+1) (m:¬ (p:Int)∣co a w) (w0:co a w≠0) (hA:Zi A) (hM:Zi M) (U:M.c w=1) (bM:Bn M (w+1))
  {f:Int} {E0:Sr} (b:Zi E0) (X:M=Sr.num (f:Rat)*si a+Sr.num ((p:Int):Rat)*E0) {n r:Nat} {L:List (cL)} {o c:Nat->Nat} {u l:Nat->Nat->Zm (p:Int)} (I:RE n w (λi j=>Zm.of (p:Int) (en L i j)) w r o c u l)
  (Y:∀ i,i<n->Bn (si (L.getD i [])) w/\∃ Z E,Zi Z/\Zi E/\si (L.getD i [])=A ^ i - M*Z+Sr.num ((p:Int):Rat)*E) {x:cY} (hx:Cg (si a) (su r λj=>Sr.num (x j:Rat)*A ^ (o j)) 0):∀ j,j<r->(p:Int)∣x j:=by
 let hW:Zi (si a):=⟨FK a,λk=>⟨_,rfl⟩⟩;let bW:Bn (si a) (w+1):=lw ▸ HG a;let B:(si a).c w=(co a w:Rat):=rfl;let hS:Zi (su r λj=>Sr.num (x j:Rat)*A ^ (o j)):=Zi.su r λj _=>(Zi.num _).mul (hA.pow _);let ⟨ns,C⟩:=hS.pol.bn;let ⟨e,Q,R,F,hR,bR,J⟩:=psd hW B bW ns _ hS C
 let R0:R=0:=by
  refine Cg.eq (W:=si a) (w:=w) (by rw [B];exact A4 w0) bW bR (λk _=>zero_c k) ?_;let ⟨q,pq,eq⟩:=hx;refine ⟨Sr.num ((co a w:Rat) ^ e)*q - Q,((Pol.num _).mul pq).sub F.pol,?_⟩;have:R=Sr.num ((co a w:Rat) ^ e)*(su r λj=>Sr.num (x j:Rat)*A ^ (o j)) - Q*si a:=by rw [J];ext
  rw [this,eq];ext
 let ⟨Z,E,hZ,hE,eT⟩:=bJ (M:=M) (G:=0) (p:=p) (f:=λj=>si (L.getD (o j) [])) (g:=λj=>A ^ (o j)) x r λj N=>(Y (o j) (I.on j (by have:=I.dn;omega))).2;let ⟨e0,O⟩:=b.z w
 let fL:(p:Int)∣f*co a w - 1:=by
  refine ⟨-e0,?_⟩;have:=congrArg (λs:Sr=>s.c w) X;simp only [add_c,Sr.num_mul,O,B,U] at this
  let h2:((f*co a w - 1:Int):Rat)=(((p:Int) * -e0:Int):Rat):=by
   rw [Rat.intCast_sub,B6,B6,Rat.intCast_neg];show (f:Rat)*(co a w:Rat) - ((1:Int):Rat)=_;rw [show ((1:Int):Rat)=1 from rfl,this];ext
  exact Fk h2
 let ⟨h,hh⟩:=fL
 let d:Zi (Sr.num ((co a w:Rat) ^ e)):=by
  rw [show (co a w:Rat) ^ e=((co a w ^ e:Int):Rat) from (Rat.intCast_pow _ e).symm];exact Zi.num _
 let P:Sr.num (f:Rat)*Sr.num (co a w:Rat)=1+Sr.num ((p:Int):Rat)*Sr.num (h:Rat):=by
  rw [num_num,num_num,<-B6,<-B6,show f*co a w=1+(p:Int)*h by omega,Rat.intCast_add,TQ];congr 1
 let eW:si a=Sr.num (co a w:Rat)*M - Sr.num ((p:Int):Rat)*(Sr.num (h:Rat)*si a+Sr.num (co a w:Rat)*E0):=by
  have:Sr.num (co a w:Rat)*M=(Sr.num (f:Rat)*Sr.num (co a w:Rat))*si a+Sr.num ((p:Int):Rat)*(Sr.num (co a w:Rat)*E0):=by rw [X];ext
  rw [this,P];ext
 let bT:Bn (su r λj=>Sr.num (x j:Rat)*si (L.getD (o j) [])) w:=λk hk=>by
  rw [su_c];exact Bw λj N=>by rw [Sr.num_mul,(Y (o j) (I.on j (by have:=I.dn;omega))).1 k hk];ext
 let hY:Zi (Sr.num (co a w:Rat)*Q - Sr.num ((co a w:Rat) ^ e)*Z):=((Zi.num _).mul F).sub (d.mul hZ);let ⟨ny,S⟩:=hY.pol.bn
 let ⟨E2,T,eF⟩:=TM (p:=(p:Int)) hM U bM ny _ (Sr.num ((co a w:Rat) ^ e)*E - Q*(Sr.num (h:Rat)*si a+Sr.num (co a w:Rat)*E0)) (Sr.num ((co a w:Rat) ^ e)*su r λj=>Sr.num (x j:Rat)*si (L.getD (o j) [])) hY ((d.mul hE).sub (F.mul (((Zi.num _).mul hW).add ((Zi.num _).mul b)))) S (λk hk=>by rw [Sr.num_mul,bT k hk];ext) (by
   rw [eT];rw [R0] at J;let s1:Sr.num ((co a w:Rat) ^ e)*(su r (λj=>Sr.num (x j:Rat)*A ^ (o j)) - M*Z+Sr.num ((p:Int):Rat)*E)=Sr.num ((co a w:Rat) ^ e)*su r (λj=>Sr.num (x j:Rat)*A ^ (o j)) - Sr.num ((co a w:Rat) ^ e)*(M*Z)+Sr.num ((co a w:Rat) ^ e)*(Sr.num ((p:Int):Rat)*E):=by ext
   rw [s1,J];generalize si a=WW at *;let s2:Q*WW+0=Q*(Sr.num (co a w:Rat)*M - Sr.num ((p:Int):Rat)*(Sr.num (h:Rat)*WW+Sr.num (co a w:Rat)*E0)):=by rw [<-eW];ext
   rw [s2];ext)
 let D:=pp.dom
 let dv:∀ k,(p:Int)∣su r λj=>x j*en L (o j) k:=λk=>by
  let ⟨z,hz⟩:=T.z k;let c1:=congrArg (λs:Sr=>s.c k) eF;simp only [Sr.num_mul,su_c,hz] at c1
  let c2:((co a w ^ e*su r (λj=>x j*en L (o j) k):Int):Rat)=(((p:Int)*z:Int):Rat):=by
   rw [B6,B6,Rat.intCast_pow,GN,<-c1];congr 1;exact AU r λj _=>by rw [B6];rfl
  let c3:(p:Int)∣co a w ^ e*su r (λj=>x j*en L (o j) k):=⟨z,Fk c2⟩
  let cp:∀ (e:Nat) (y:Int),(p:Int)∣co a w ^ e*y->(p:Int)∣y:=by
   intro e
   induction e with
   | zero=>intro y h;rwa [Int.pow_zero,Int.one_mul] at h
   | succ e ih=>
     intro y h;rw [Int.pow_succ,Co] at h;let h:=ih _ h;let h:=Zm.of_zero.mpr h;rw [Zm.of_mul] at h;rcases D.mul h with q | q
     ·exact absurd (Zm.of_zero.mp q) m
     ·exact Zm.of_zero.mp q
  exact cp e _ c3
 intro j N
 have:=c8 D (W:=u) (M:=λt s=>Zm.of (p:Int) (en L (o t) (c s))) (v:=λj=>Zm.of (p:Int) (x j)) (k:=r) (I.minor (AV _)) (λs _=>by
  have:=Zm.of_zero.mpr (dv (c s));rw [Zm.of_su] at this;exact this) j N
 exact Zm.of_zero.mp this
open Sr in
def uJ {p:Nat} (F:Pr p) {A M:Sr} {a:cL} {w:Nat} (U:↑a=w+1) (v:¬ (p:Int)∣co a w) (X:co a w≠0) (G:Zi A) (Y:Zi M) (M1:M.c w=1) (bM:Bn M (w+1))
  {f:Int} {E0:Sr} (B:Zi E0) (eM:M=Sr.num (f:Rat)*si a+Sr.num ((p:Int):Rat)*E0) {n r:Nat} {L:List (cL)} {o c:Nat->Nat} {u l:Nat->Nat->Zm (p:Int)} (I:RE n w (λi j=>Zm.of (p:Int) (en L i j)) w r o c u l)
  (hL:∀ i,i<n->Bn (si (L.getD i [])) w/\∃ Z E,Zi Z/\Zi E/\si (L.getD i [])=A ^ i - M*Z+Sr.num ((p:Int):Rat)*E)
  {d:Nat} {z:cZ} (hz:Cg (si a) (A ^ d) (su d λt=>Sr.num (z t)*A ^ t)):r<=d:=Classical.byContradiction λlt=>by
 let J:=TR G.pol hz;let ⟨y,hy⟩:∃ y:Nat->cZ,∀ k,Cg (si a) (A ^ k) (su d λt=>Sr.num (y k t)*A ^ t):=⟨λk=>Classical.choose (J k),λk=>Classical.choose_spec (J k)⟩;let ⟨O,⟨i,P,ci⟩,ez⟩:=aV domQ d r (λj t=>y (o j) t) ⋯;let ⟨D,x,D0,R⟩:=S8 r O
 let e:Cg (si a) (su r λj=>Sr.num (x j:Rat)*A ^ (o j)) 0:=by
  let h1:=Cg.su (W:=si a) (f:=λj=>Sr.num (x j:Rat)*A ^ (o j)) (g:=λj=>Sr.num (x j:Rat)*su d λt=>Sr.num (y (o j) t)*A ^ t) r λj _=>(hy (o j)).num _;refine h1.trans (Cg.of ?_);rw [AU (g:=λj=>su d λt=>Sr.num (x j:Rat)*Sr.num (y (o j) t)*A ^ t) r λj _=>by rw [<-BK];exact AU d λt _=>by ext,Dk];refine Bw λt ht=>?_;rw [Cd,AU (g:=λj=>Sr.num (D:Rat)*Sr.num (O j*y (o j) t)) r λj b=>by rw [<-R j b,num_num,num_num];congr 1;ext,BK,<-TN,ez t ht,numz];ext
 let m:∀ (N:Nat) (x:cY),Cg (si a) (su r λj=>Sr.num (x j:Rat)*A ^ (o j)) 0->∀ j,j<r->(x j).natAbs<=N->x j=0:=by
  intro N
  induction N with
  | zero=>intro x _ j _ h;omega
  | succ N ih=>
    intro x S j b hN;let C:=uI F U v X G Y M1 bM B eM I hL S;let p2:=F.two;let p0:((p:Int):Rat)≠0:=A4 ⋯
    have:=ih (λj=>x j / (p:Int)) (by
     let h:=S.num (((p:Int):Rat)⁻¹)
     let e1:Sr.num (((p:Int):Rat)⁻¹)*(su r λj=>Sr.num (x j:Rat)*A ^ (o j))=su r λj=>Sr.num ((x j / (p:Int):Int):Rat)*A ^ (o j):=by
      rw [<-BK];refine AU r λj b=>?_;have:=Int.mul_ediv_cancel' (C j b);let e2:(x j:Rat)=((p:Int):Rat)*((x j / (p:Int):Int):Rat):=by rw [<-B6,this]
      let e3:Sr.num (((p:Int):Rat)⁻¹)*Sr.num (x j:Rat)=Sr.num ((x j / (p:Int):Int):Rat):=by
       rw [num_num,e2,<-Rat.mul_assoc,Rat.inv_mul_cancel _ p0,Rat.one_mul]
      rw [<-e3];ext
     rw [e1] at h;refine h.trans (Cg.of ?_)
     ext) j b (by
      let ⟨q,T⟩:=C j b;show (x j / (p:Int)).natAbs<=N;rw [T,Ey _ (show (p:Int)≠0 by omega)];rw [T,CV,Ds] at hN;have:2*q.natAbs<=p*q.natAbs:=CI _ p2;omega)
    let h2:=Int.mul_ediv_cancel' (C j b);rw [<-h2,this,EC]
 let x0:=m (x i).natAbs x e i P (AV _);have:=R i P;rw [x0] at this;exact ci ((domQ.mul this).resolve_right (A4 D0))
theorem TU {x:Rat} (h:x≠0):∀ n:Nat,x ^ n≠0
 | 0,z=>domQ.one (by rw [<-z];ext)
 | n+1,z=>by
   rw [Rat.pow_succ] at z;exact (domQ.mul z).elim (TU h n) h
def TV {l m R:cF} (h:MR (C_ m) (λk=>C_ l k - C_ R k)):Sr.Cg (sr m) (sr l) (sr R):=by
 let ⟨A,a⟩:=h;refine ⟨Sr.L A,Sr.Pol.L A,?_⟩
 let e:Sr.L A*sr m=sr l - sr R:=by
  rw [Sr.L_mul];exact Sr.ext' λk=>by rw [Sr.sub_c];exact (a k).symm
 have:sr m*Sr.L A=Sr.L A*sr m:=by ext
 rw [this,e];ext
def uK {l m R:cF} (h:Sr.Cg (sr m) (sr l) (sr R)):MR (C_ m) (λk=>C_ l k - C_ R k):=by
 let ⟨q,⟨A,rfl⟩,e⟩:=h;refine ⟨A,λk=>?_⟩;let a:sr l - sr R=Sr.L A*sr m:=by rw [e];ext
 rw [Sr.L_mul] at a;have:=congrArg (λs:Sr=>s.c k) a;rw [Sr.sub_c] at this;exact this
def MP {R:cF} {n:Nat} (a:Am R) (b:Nz R) (h:Sr.Bn (sr R) n):↑R<=n:=Classical.byContradiction λc=>by
 let d:R≠[]:=λz=>by rw [z] at c;exact c (AX _)
 exact Jk a b d (h (↑R - 1) ⋯)
def TW {f g:Sr} {a b:Nat} (c:Sr.Bn f a) (d:Sr.Bn g b):Sr.Bn (f*g) (a+b - 1):=λk hk=>by
 rw [<-Sr.pl_of c,Sr.pl_mul];refine Bw λi e=>?_;by_cases q:i<=k
 ·rw [pB q,d (k - i) ⋯];ext
 ·rw [qZ q];ext
def uL {q:Nu} (h:Low q.1 q.2) (a:q.1≠0):∃ b:Nu,Low b.1 b.2/\val b*val q=1:=by
 let ⟨d,e⟩:=vZ h a;by_cases c:q.1<0
 ·exact ⟨(-q.2,-q.1),d c⟩
 ·exact ⟨(q.2,q.1),e c⟩
theorem TX {m:cF} {z:cZ} {b c d:Nat} (e:Am m) (n:Nz m) (f:m≠[]) {M:Int} (o:Ov m M) (p:∀ z∈F_ m M,Bd d z):∀ (j i:Nat) (L:cF),RS m z b c d i L->↑L<=↑m - 1+j->∃ g k,RS m z b c d k g/\↑g<↑m/\k<=i+j
 | 0,i,L,S,h=>⟨L,i,S,by have:=FQ.mpr f;omega,⋯⟩
 | j+1,i,L,S,h=>by
   by_cases q:↑L<↑m
   ·exact ⟨L,i,S,q,⋯⟩
   ·let a:C_ m (↑m - 1)=val (AG m (↑m - 1)):=rfl;let ⟨r,u,v⟩:=uL (CJ e (↑m - 1)) λz=>Jk e n f (by rw [a];unfold val;rw [z];ext);let ⟨g,k,w,x,y⟩:=TX e n f o p j (i+1) _ (S.step e n f o p ⋯ u (by rw [a];exact v)) (by rw [List.length_dropLast,EO];omega);exact ⟨g,k,w,x,⋯⟩
def uM {l m:cF} {b c d e:Nat} (Gl:Gq b c l) (a:Gq d e m) (j:m≠[]):∃ R,Gq (b+(↑l+1 - ↑m)*(d+1)) (c+(↑l+1 - ↑m)*d) R/\↑R<↑m/\Sr.Cg (sr m) (sr l) (sr R):=by
 let ⟨M,n,_,o⟩:=a.ov;let ⟨D,p,r,u⟩:=Gl.ov;let I:=FQ.mpr j;let v:RS m (C_ l) b c d 0 l:=⟨Gl.low,⟨D,p,by rw [Nat.zero_mul];exact r,by rw [Nat.zero_mul];exact u⟩,[],λk=>by rw [CK];ext⟩;let ⟨L,i,S,w,J⟩:=TX a.low a.nz j n o (↑l+1 - ↑m) 0 l v ⋯;let ⟨x,f,g,h⟩:=S.ov;let ⟨y,B⟩:=MB f h;let N:i*d<=(↑l+1 - ↑m)*d:=CI _ ⋯;let O:i*(d+1)<=(↑l+1 - ↑m)*(d+1):=CI _ ⋯;refine ⟨trim L,⟨λq C=>S.low q (EJ C),Dy L,x,y,g.mono ⋯,λz F=>(B z F).mono ⋯⟩,Eh (Fb L) w,?_⟩;refine (TV (l:=trim L) (R:=l) ?_).symm;let ⟨A,G⟩:=S.mr;exact ⟨A,λk=>by show C_ (trim L) k - C_ l k=_;rw [Eo S.low];exact G k⟩
def uN {l m:cF} {b c d e:Nat} (Gl:Gq b c l) (g:Gq d e m):∃ R,Gq (b+d+↑l) (c+e) R/\↑R<=↑l+↑m - 1/\sr R=sr l*sr m:=by
 let ⟨h,a,i,u⟩:=Gl.ov;let ⟨j,f,o,v⟩:=g.ov;let lo:=Kn (n:=↑l+↑m) a f;let pv:∀ k,C_ (trim (FF l m h j (↑l+↑m))) k=cv (C_ l) (C_ m) ↑l k:=λk=>by rw [Eo lo,Ko Gl.low g.low a f]
 let p:Am (trim (FF l m h j (↑l+↑m))):=λq w=>lo q (EJ w);let r:=Jn pv;exact ⟨_,Jl p (Dy _) (Bh a.1 f.1) (i.mul o) (N:=ps (F_ l h) (F_ m j) ↑l) (λk=>(pv k).trans (Hj Gl.low g.low a f ↑l k).symm) λk=>Hg u v ↑l k,MP p (Dy _) (by rw [r];exact TW (Dl l) (Dl m)),r⟩
def TY:sr [(1,1)]=1:=Sr.ext' λk=>by
 show C_ [(1,1)] k=((1:Nat):Rat)*BQ k;rw [IO];push_cast;ext
def TZ:Gq 1 1 [(1,1)]:=⟨λq a=>by rw [BU.mp a];exact ⟨∅,∅⟩,λq a=>by cases a;decide,1,⟨∅,λq a=>by rw [BU.mp a];decide⟩,ae ∅,λz b=>by
 have:z=1:=by simpa [F_] using b
 rw [this];exact ae ∅⟩
def uO {P W:cF} {w:Nat} (c:Gq 12 12 P) (g:↑P<=7) (d:Gq 12 12 W) (b:↑W=w+1) (e:1<=w) (h:w<=7) (top:AG W w=(1,1)):∃ i,Pws P W w i:=by
 let j:W≠[]:=λz=>by rw [z] at b;cases b
 let a:∀ k,∃ l,Gq (97*k+1) (84*k+1) l/\↑l<=w/\Sr.Cg (sr W) (sr l) (sr P ^ k)/\(k=0->l=[(1,1)]):=by
  intro k
  induction k with
  | zero=>exact ⟨_,TZ,e,Sr.Cg.of (by rw [Sr.pow_z,TY]),λ_=>rfl⟩
  | succ k m=>
    let ⟨l,n,ll,o,_⟩:=m;let ⟨R,p,u,q⟩:=uN c n;let ⟨S,gS,v,r⟩:=uM p d j;let f:↑R+1 - ↑W<=6:=by omega
    let x:=CI 13 f;let y:=CI 12 f;refine ⟨S,gS.mono ⋯ ⋯,⋯,?_,λz=>absurd z (Nat.succ_ne_zero k)⟩;refine r.symm.trans ?_;rw [q,Sr.pow_s,show sr P ^ k*sr P=sr P*sr P ^ k by grind];exact Sr.Cg.mul (Ee l) (Ee P) (Sr.Cg.of rfl) o
 exact ⟨λk=>Classical.choose (a k),c,g,d,b,e,h,top,λk _=>(Classical.choose_spec (a k)).1,λk _=>(Classical.choose_spec (a k)).2.1,λk _=>(Classical.choose_spec (a k)).2.2.1,(Classical.choose_spec (a 0)).2.2.2 rfl⟩
section
variable {P W:cF} {w:Nat} {pk:Nat->cF}
def Pws.W0 (h:Pws P W w pk):W≠[]:=λz=>by have:=h.lW;rw [z] at this;cases this
def Pws.wc (h:Pws P W w pk):(sr W).c w=1:=by
 show val (AG W w)=1;rw [h.top];exact (IO 0).trans rfl
def Pws.bW (h:Pws P W w pk):Sr.Bn (sr W) (w+1):=h.lW ▸ Dl W
def GX {l:cF} {n:Nat} (h:↑l<=n):Sr.Bn (sr l) n:=λk hk=>Dl l k ⋯
def Pws.uniq (h:Pws P W w pk) {R:cF} {k:Nat} (hk:k<=7) (lo:Am R) (a:Nz R) (len:↑R<=w) (c:Sr.Cg (sr W) (sr R) (sr P ^ k)):R=pk k:=
 MD lo (h.g k hk).low a (h.g k hk).nz (Sr.Cg.eq (w:=w) (by rw [h.wc];decide) h.bW (GX len) (GX (h.l k hk)) (c.trans (h.cg k hk).symm))
def uP (h:Pws P W w pk) {R S:cF} (lo:Am R) (e:Nz R) (len:↑R<=w) (b:Am S) (d:Nz S) (a:↑S<=w) (c:Sr.Cg (sr W) (sr R) (sr S)):R=S:=
 MD lo b e d (Sr.Cg.eq (w:=w) (by rw [h.wc];decide) h.bW (GX len) (GX a) c)
theorem Ta {c:cZ}:∀ n,(∃ i,i<n/\c i≠0)->∃ t,t<n/\c t≠0/\∀ i,t<i->i<n->c i=0
 | 0,⟨i,h,_⟩=>absurd h (BD i)
 | n+1,⟨i,h,a⟩=>by
   by_cases q:c n=0
   ·let ⟨t,g,e,f⟩:=Ta n ⟨i,by
     rcases Ej.mp h with z | z
     ·exact z
     ·rw [z] at a;exact absurd q a,a⟩
    exact ⟨t,⋯,e,λj b d=>by
     rcases Ej.mp d with z | z
     ·exact f j b z
     ·rw [z];exact q⟩
   ·exact ⟨n,⋯,q,λj b d=>by omega⟩
theorem Tb {R:Type} [Lean.Grind.CommRing R] {f:Nat->R} {t:Nat}:∀ n,t<=n->(∀ i,t<=i->i<n->f i=0)->su n f=su t f
 | 0,h,_=>by rw [Nat.le_zero.mp h]
 | n+1,h,a=>by
   by_cases q:t=n+1
   ·rw [q]
   ·show su n f+f n=su t f;rw [Tb n ⋯ λi b c=>a i b ⋯,a n ⋯ ⋯];ext
def Tc {c:cZ} {n:Nat} (a:∃ i,i<n/\c i≠0) (h:su n (λt=>Sr.num (c t)*sr (pk t))=0):∃ t,t<n/\Dp pk t:=by
 let ⟨t,b,d,f⟩:=Ta n a;refine ⟨t,b,λi=>- (c i*(c t)⁻¹),?_⟩;rw [Tb (t:=t+1) n ⋯ λi m j=>by rw [f i ⋯ j,Sr.numz];grind] at h;let h:su t (λt=>Sr.num (c t)*sr (pk t))+Sr.num (c t)*sr (pk t)=0:=h
 rw [AU (g:=λi=>Sr.num (- (c t)⁻¹)*(Sr.num (c i)*sr (pk i))) t λi _=>by
  have:Sr.num (- (c t)⁻¹)*(Sr.num (c i)*sr (pk i))=(Sr.num (- (c t)⁻¹)*Sr.num (c i))*sr (pk i):=by ext
  rw [this,Sr.num_num];congr 2;ext,BK]
 let e:su t (λt=>Sr.num (c t)*sr (pk t)) = - (Sr.num (c t)*sr (pk t)):=by
  generalize su t (λt=>Sr.num (c t)*sr (pk t))=s at *;ext
 let o:=Sr.num_inv d;let k:Sr.num (- (c t)⁻¹) = - Sr.num ((c t)⁻¹):=Sr.num_neg _;rw [e,k];ext
def uQ (a:∀ k,k<=w->Sr.Bn (sr (pk k)) w):∃ d,d<=w/\Dp pk d:=by
 let ⟨c,b,e⟩:=aV domQ w (w+1) (λi j=>(sr (pk i)).c j) ⋯
 let ⟨t,f,d⟩:=Tc (pk:=pk) b (Sr.ext' λk=>by
  rw [Sr.su_c,Sr.zero_c];by_cases q:k<w
  ·rw [<-e k q];exact AU _ λi _=>Sr.num_mul _ _ _
  ·exact Bw λi g=>by rw [Sr.num_mul,a i ⋯ k ⋯];ext)
 exact ⟨t,⋯,d⟩
theorem Td {Q:Nat->Prop}:∀ n,(∃ d,d<=n/\Q d)->∃ d,d<=n/\Q d/\∀ e,e<d->¬ Q e
 | 0,⟨d,h,q⟩=>⟨d,h,q,λe a=>by omega⟩
 | n+1,⟨d,h,q⟩=>by
   by_cases c:∃ d,d<=n/\Q d
   ·let ⟨d,g,b,f⟩:=Td n c;exact ⟨d,⋯,b,f⟩
   ·exact ⟨d,h,q,λe a z=>c ⟨e,⋯,z⟩⟩
def uR {d:Nat} (min:∀ e,e<d->¬ Dp pk e) {c:cZ} (h:su d (λt=>Sr.num (c t)*sr (pk t))=0):∀ t,t<d->c t=0:=λt a=>Classical.byContradiction λz=>by
 let ⟨e,b,q⟩:=Tc (pk:=pk) ⟨t,a,z⟩ h;exact min e b q
def Pws.cg_row (h:Pws P W w pk) {d:Nat} (k:d<=7) (D:Dp pk d):∃ z:cZ,Sr.Cg (si (AY W)) (si (AY (pk 1)) ^ d) (su d λt=>Sr.num (z t)*si (AY (pk 1)) ^ t):=by
 let ⟨z,m⟩:=D;let f:(Ag (pk 1):Rat)≠0:=A4 (Ah (DF (h.g 1 ∅).low).1);let v:(Ag W:Rat)≠0:=A4 (Ah (DF h.gW.low).1);let n:=Sf (h.g 1 ∅).low;let o:=Sf h.gW.low;generalize (Ag (pk 1):Rat)=B at *;generalize (Ag W:Rat)=p at *;let x:=FK (AY (pk 1));generalize si (AY (pk 1))=A at *
 let g:∀ t,t<=7->Sr.Cg (sr W) (A ^ t) (Sr.num (B ^ t)*sr (pk t)):=λt i=>by
  let a:A=Sr.num B*sr (pk 1):=by
   have:=Sr.num_inv f;rw [n];ext
  let b:A ^ t=Sr.num (B ^ t)*sr (pk 1) ^ t:=by rw [a,Sr.mul_pow,Sr.num_pow]
  rw [b];refine Sr.Cg.num _ ?_;let j:=h.cg 1 ∅;rw [show sr P ^ 1=sr P by grind] at j;exact (Sr.Cg.pow (Ee _) (Ee _) j t).trans (h.cg t i).symm
 let r:∀ t:Nat,B ^ t≠0:=TU f;refine ⟨λt=>B ^ d*z t*(B ^ t)⁻¹,?_⟩
 let all:Sr.Cg (sr W) (A ^ d) (su d λt=>Sr.num (B ^ d*z t*(B ^ t)⁻¹)*A ^ t):=by
  refine (g d k).trans ?_;rw [m,<-BK];refine Sr.Cg.su d λt i=>?_;let c:=(g t ⋯).num (B ^ d*z t*(B ^ t)⁻¹);refine (Sr.Cg.of ?_).trans c.symm;let a:Sr.num (B ^ d)*(Sr.num (z t)*sr (pk t))=Sr.num (B ^ d*z t)*sr (pk t):=by rw [<-Sr.num_num];ext
  let b:Sr.num (B ^ d*z t*(B ^ t)⁻¹)*(Sr.num (B ^ t)*sr (pk t))=Sr.num (B ^ d*z t*(B ^ t)⁻¹*B ^ t)*sr (pk t):=by rw [<-Sr.num_num (B ^ d*z t*(B ^ t)⁻¹)];ext
  rw [a,b];congr 2;have:=Rat.inv_mul_cancel _ (r t);rw [Rat.mul_assoc,this,Rat.mul_one]
 let ⟨q,u,e⟩:=all;refine ⟨Sr.num p⁻¹*q,(Sr.Pol.num _).mul u,?_⟩;rw [e,o];ext
end
def MQ {b c:Nat} {l:cF} (a:Am l) (f:∃ M,Ov l M/\Bd c M/\∀ z∈F_ l M,Bd b z) (i:Nat):Low (AG l i).1 (AG l i).2/\Bd b (AG l i).1/\Bd c (AG l i).2/\∃ M,0<M/\Bd c M/\∀ i,(AG l i).2∣M:=by
 let ⟨M,O,d,g⟩:=f
 let e:∀ i,(AG l i).2∣M:=λi=>by
  by_cases h:i<↑l
  ·unfold AG;rw [AJ,AT h];exact O.2 _ (Cn _)
  ·unfold AG;rw [AJ,BH ⋯];exact Int.one_dvd _
 refine ⟨CJ a i,?_,DR (Ah O.1) (e i) d,M,O.1,d,e⟩;by_cases h:i<↑l
 ·unfold AG;rw [AJ,AT h];exact G9 a O g _ (Cn _)
 ·unfold AG;rw [AJ,BH ⋯];exact ae (Nat.pow_pos ∅)
def uS (h:IB K vs H Q E):Zw K (eA Q) (L2.start ["_law_kp","_law_kw","_law_row","_law_by","_law_k","_law_at"] vs) H:=by
 let ⟨p,q,D,u,l,W,R,w,b,c,rfl,hp,N,hN,hM,gl,O,lW,top,b5,w7,b3,c3,a7,ab,lR,cg,k⟩:=h;let W0:W≠[]:=λz=>by rw [z] at lW;cases lW
 let lx:=↑hN;let ly:=↑hM;let ⟨M,OM,bM,bw⟩:=O.ov;let ⟨v,hv,pv,rfl,P⟩:=hM.at (i:=w) ⋯ (0,1);rw [show W.getD w (0,1)=(1,1) from top] at P;let al:N_ u (-1)=↥pv:=G8 ⋯ (by rw [show ↑u - 1=w by omega];exact hv)
 let wc:val (1,1)*C_ W (↑W - 1)=1:=by
  rw [show ↑W - 1=w by omega];show val (1,1)*val (AG W w)=1;rw [top,show val (1,1)=1 from (IO 0).trans rfl];ext
 refine Ab (Bg (AD rfl ⟨p,D,rfl,hp,λX hX=>?_⟩));let sX:=AM hX (.lst D);let aj:upd H X (.lst D) X=some (HO.lst D):=upd_same;generalize upd H X (.lst D)=H1 at *;refine F4 (DE (λn F J=>∃ (i:Nat) (B:cJ) (L:cF) (u1 G I:cK),F=[↥p,↥q,↥X,u1,G,I]/\n=↑L/\Same H J/\J X=some (.lst B)/\Nums J B L/\RS W (C_ R) b c 12 i L/\i+↑L=↑l) ↑l ⟨0,D,l,none,none,none,rfl,rfl,sX,aj,hN.tp (D_ sX),⟨gl.low,by rw [Nat.zero_mul];exact gl.ov,uK cg⟩,Nat.zero_add _⟩ ?_);rintro n F H2 ⟨i,B,L,u1,G,I,rfl,rfl,s2,y,hZ,S,hi⟩;let T:=s2 _ _ N;let lz:=↑hZ
 let Ln:∀ k,Nb 4000 (AG L k):=λk=>by
  let ⟨g1,g2,g3,_⟩:=MQ S.low S.ov k;exact ⟨g1,g2.mono ⋯,g3.mono ⋯⟩
 refine Bz (AW (Bg (AD rfl ⟨X,B,rfl,y,Bg (AD rfl ⟨q,u,rfl,T,_,_,rfl,rfl,_,rfl,Aj (λU=>?_) (λU=>?_)⟩)⟩)))
 ·let U:=pE U;let wl:↑W<=↑L:=by omega
  let ⟨v,hv,pl,rfl,an⟩:=hZ.at (i:=↑L - 1) ⋯ (0,1);let all:N_ B (-1)=↥pl:=G8 ⋯ (by rw [lz];exact hv);let Y:=s2 _ _ P;let kq:∀ {j:Int} {x:V} {R:VK},N_ [V.int 1,V.int 1] j=some x->R x H2->A_ gT (A_ gT (AA 1) (O_ BN (bF 1))) (tC (.int j)) [↥p,↥q,↥X,u1,G,I] H2 R:=λe h=>AW (AW (AD rfl ⟨_,rfl,DI T al (G' (DI Y e h))⟩));refine ⟨_,λ_ _ h=>h,Ab (Al (AW (AD rfl ⟨_,rfl,B7 y all (show ak _ _ _ _ _ _ from Bz (AW (kq rfl (G' ⟨_,_,rfl,rfl,_,rfl,Aj (λc=>absurd (pE c) ∅) (λ_=>DG (kq rfl (kq rfl ⟨CH,λt ht=>?_⟩)))⟩))))⟩)))⟩;let Z:=AM ht (.tup [.int 1,.int 1]);refine GW ⟨pl,t,AG L (↑L - 1),(1,1),rfl,⟨pl,rfl,Z _ _ an⟩,⟨t,rfl,upd_same⟩,(Ln _).mono ∅,⟨⟨∅,∅⟩,(ae ∅:Bd 1 1).mono ∅,(ae ∅:Bd 1 1).mono ∅⟩,λr hr=>?_⟩;let S2:=S.step O.low O.nz W0 OM bw wl (by':=(1,1)) ⟨∅,∅⟩ wc;let nc:Nb 4001 (C' (AG L (↑L - 1)) (1,1)):=IN (b:=1) (Ln _) ⟨⟨∅,∅⟩,ae ∅,ae ∅⟩;generalize C' (AG L (↑L - 1)) (1,1)=a at *;let s4:=Z.trans (AM hr (.tup [.int a.1,.int a.2]));let ap:upd (upd H2 t (.tup [.int 1,.int 1])) r (.tup [.int a.1,.int a.2]) r=some (HO.tup [V.int a.1,V.int a.2]):=upd_same;generalize upd (upd H2 t (.tup [.int 1,.int 1])) r (.tup [.int a.1,.int a.2])=H4 at *;let a0:=s2.trans s4;let b0:=s4 _ _ y;refine (show AH (Ay _ _ _) _ _ _ _ from ⟨_,rfl,q,u,rfl,a0 _ _ N,(↑u:Int),rfl,⋯,⋯,?_⟩);rw [CB,ly];let ⟨s,hs⟩:∃ s,↑L=s+↑W:=⟨↑L - ↑W,⋯⟩;rw [show ↑L - ↑W=s by omega] at S2;refine ForR.by (λj F g=>∃ (d:cJ) (G I:cK),F=[↥p,↥q,↥X,↥r,G,I]/\Same H g/\Tp H4 g/\g X=some (.lst d)/\Nums g d (X_ L W a s j)) ⟨B,G,I,rfl,a0,λ_ _ h=>h,b0,by rw [vW];exact hZ.tp (D_ s4)⟩ ?_ ?_
  ·rintro j F g hj ⟨d,v2,v3,rfl,C,t5,f,m⟩;rw [Int.zero_add];let a3:=C _ _ N;let a4:↑d=↑L:=by rw [↑m,EO]
   let ⟨vm,b1,pm,rfl,b2⟩:=(hM.tp (D_ C)).at hj (0,1);let kl:s+j<↑L:=by omega
   let ⟨vp,b4,pp,rfl,a5⟩:=m.at (i:=s+j) (by rw [EO];exact kl) (0,1);rw [show (X_ L W a s j).getD (s+j) (0,1)=AG L (s+j) by rw [AJ,IH kl,qZ ⋯];rfl] at a5;refine By (show R8 K _ _ _ from Ab (AW (AW (Bg (AD rfl ⟨X,d,rfl,f,Bg (AD rfl ⟨q,u,rfl,a3,_,_,rfl,rfl,AD rfl ⟨_,_,rfl,rfl,?_⟩⟩)⟩)))));show R7 K _ [↥p,↥q,↥X,↥r,some (.int (j:Int)),some (.int ((↑d:Int) - (↑u:Int)+(j:Int)))] g;rw [show (↑d:Int) - (↑u:Int)+(j:Int)=((s+j:Nat):Int) by omega];let ⟨w1,w2,w3,_⟩:=MQ O.low O.ov j;let nw:Nb 12 (-(AG W j).1,(AG W j).2):=⟨⟨w1.pos,by rw [Int.neg_gcd];exact w1.one⟩,w2.neg,w3⟩;let km:∀ {e:Int} {x:V} {R:VK},N_ [V.int (AG W j).1,V.int (AG W j).2] e=some x->R x g->A_ gT (A_ gT (AA 1) (AA 4)) (tC (.int e)) [↥p,↥q,↥X,↥r,some (.int (j:Int)),some (.int ((s+j:Nat):Int))] g R:=λe h=>AW (AW (AD rfl (AD rfl (DI a3 (Ca rfl b1) (G' (DI b2 e h))))));refine (show AO _ _ _ _ _ from Al (AW (AD rfl (AD rfl (B7 f (Ca rfl b4) (Al (AD rfl (DG (show O_ _ _ _ _ _ from km rfl ⟨_,rfl,km rfl ⟨CH,λt ht=>?_⟩⟩)))))))));let Z:=AM ht (.tup [.int (-(AG W j).1),.int (AG W j).2]);refine GW ⟨r,t,a,(-(AG W j).1,(AG W j).2),rfl,⟨r,rfl,Z _ _ (t5 _ _ ap)⟩,⟨t,rfl,upd_same⟩,nc.mono ∅,nw.mono ∅,λr7 h7=>?_⟩;let nn:=IN nc nw;rw [show C' a (-(AG W j).1,(AG W j).2)=C' (-a.1,a.2) (AG W j) from uA a (AG W j)] at *;let s7:=Z.trans (AM h7 (.tup [.int (C' (-a.1,a.2) (AG W j)).1,.int (C' (-a.1,a.2) (AG W j)).2]));refine GW ⟨pp,r7,AG L (s+j),_,rfl,⟨pp,rfl,s7 _ _ a5⟩,⟨r7,rfl,upd_same⟩,(Ln _).mono ∅,nn.mono ∅,λr8 h8=>?_⟩;let s8:=s7.trans (AM h8 (.tup [.int (I_ (AG L (s+j)) (C' (-a.1,a.2) (AG W j))).1,.int (I_ (AG L (s+j)) (C' (-a.1,a.2) (AG W j))).2]));let n8:=Ff (H:=upd (upd g t (.tup [.int (-(AG W j).1),.int (AG W j).2])) r7 (.tup [.int (C' (-a.1,a.2) (AG W j)).1,.int (C' (-a.1,a.2) (AG W j)).2])) (p:=r8) (q:=I_ (AG L (s+j)) (C' (-a.1,a.2) (AG W j)));generalize upd (upd (upd g t (.tup [.int (-(AG W j).1),.int (AG W j).2])) r7 (.tup [.int (C' (-a.1,a.2) (AG W j)).1,.int (C' (-a.1,a.2) (AG W j)).2])) r8 (.tup [.int (I_ (AG L (s+j)) (C' (-a.1,a.2) (AG W j))).1,.int (I_ (AG L (s+j)) (C' (-a.1,a.2) (AG W j))).2])=H8 at *;let a6:=s8 _ _ f;refine (show Cj _ _ _ _ _ _ _ from AD rfl (AD rfl ⟨X,d,_,s+j,rfl,rfl,a6,by rw [a4];exact FJ rfl kl,?_⟩));let t9:=Tp.updL (ys:=d.set (s+j) (V.ref r8)) a6;refine ⟨_,_,_,rfl,λb o h=>Kp.upd b o (As h hX) (s8 b o (C b o h)),λb o h=>t9 _ _ (s8 _ _ (t5 _ _ h)),upd_same,?_⟩;rw [<-vY kl];exact (Nums.set n8 _ (m.tp (D_ s8))).tp t9
  ·rintro F g ⟨d,v2,v3,rfl,C,t5,f,m⟩;let a4:↑d=↑L:=by rw [↑m,EO]
   refine ⟨_,rfl,Gj f,X,d,d[↑d - 1]'⋯,rfl,rfl,f,AT ⋯,?_⟩;exact ⟨_,by rw [List.length_dropLast,EO];omega,i+1,_,_,_,_,_,rfl,rfl,λb o h=>Kp.upd b o (As h hX) (C b o h),upd_same,(m.tp (Tp.updL f)).dropLast,S2,by rw [List.length_dropLast,EO];omega⟩
 ·let U:=pH (Bool.eq_false_iff.mpr U);let lt:=Fb L
  let tL:trim L=R:=MD (λq N=>S.low q (EJ N)) a7 (Dy _) ab (Sr.Cg.eq (W:=sr W) (w:=w) (by show val (AG W w)≠0;rw [top,show val (1,1)=1 from (IO 0).trans rfl];decide) (lW ▸ Dl W) (GX ⋯) (GX lR) (TV (by
   let ⟨A,hA⟩:=S.mr;exact ⟨A,λk=>by show C_ (trim L) k - C_ R k=_;rw [Eo S.low];exact hA k⟩)))
  exact Bb (CL (AD rfl ⟨X,B,L,rfl,y,hZ,⋯,λr us g C hr hu=>k r us g (s2.trans C) hr (tL ▸ hu)⟩))
theorem PLs.tp {H b:Hp} (t:Tp H b):∀ {xs:cJ} {ls:List cE},PLs H xs ls->PLs b xs ls
 | [],[],_=>trivial
 | _::_,_::_,⟨⟨a,c,e,d,f⟩,r⟩=>⟨⟨a,c,e,t _ _ d,f.tp t⟩,r.tp t⟩
theorem PLs.length {H:Hp}:∀ {xs:cJ} {ls:List cE},PLs H xs ls->↑xs=↑ls
 | [],[],_=>rfl
 | _::_,_::_,⟨_,r⟩=>congrArg (·+1) ↑r
theorem PLs.get {H:Hp}:∀ {xs:cJ} {ls:List cE} {i:Nat} {v:V},PLs H xs ls->xs[i]?=some v->∃ a b,v=.ref a/\H a=some (.tup b)/\Nums H b (ls.getD i [])/\i<↑ls
 | [],[],_,_,_,h=>by cases h
 | x::xs,l::ls,0,v,⟨⟨a,b,e,c,d⟩,_⟩,h=>by
   cases h;exact ⟨a,b,e,c,d,Nat.succ_pos _⟩
 | x::xs,l::ls,i+1,v,⟨_,r⟩,h=>by
   let ⟨a,b,e,c,d,f⟩:=r.get (i:=i) h;exact ⟨a,b,e,c,d,Nat.succ_lt_succ f⟩
theorem PLs.snoc {H:Hp} {a:Addr} {b:cJ} {l:cF} (c:H a=some (.tup b)) (d:Nums H b l):∀ {xs:cJ} {ls:List cE},PLs H xs ls->PLs H (xs++[.ref a]) (ls++[l])
 | [],[],_=>⟨⟨a,b,rfl,c,d⟩,trivial⟩
 | _::_,_::_,⟨e,r⟩=>⟨e,r.snoc c d⟩
theorem PLs.take {H:Hp}:∀ {xs:cJ} {ls:List cE} (n:Nat),PLs H xs ls->PLs H (xs.take n) (ls.take n)
 | [],[],n,_=>by rw [List.take_nil,List.take_nil];exact trivial
 | _::_,_::_,0,_=>trivial
 | _::_,_::_,n+1,⟨e,r⟩=>⟨e,r.take n⟩
def MS {a b:Type} (f:a->b) (d:a) {l:List a} {j:Nat} (h:j<↑l):(l.take (j+1)).map f=(l.take j).map f++[f (l.getD j d)]:=by
 rw [DW,CP,AJ,AT h];rfl
def Te {a b:Type} (f:a->b) (d:a) (e:b) {l:List a} {j:Nat} (h:j<↑l):(l.map f).getD j e=f (l.getD j d):=by
 rw [AJ,Ac,AJ,AT h];rfl
def IP {a:Type} (f:Nat->a) (j:Nat):(List.range (j+1)).map f=(List.range j).map f++[f j]:=by rw [Ex,CP];rfl
def uT (h:Ld K vs H Q E):Zf K (eA Q) (L2.start ["columns","place"] vs) H:=by
 let ⟨a,g,r,i,rfl,m,n,C,k⟩:=h;let D:=↑n;refine Bb (Cy (AD rfl ⟨a,rfl,⟨g,SqL.of m⟩,CompJ.lst (xs:=g) (λj d c=>j<=↑g/\Same H c/\Nums c d ((r.take j).map λl=>AG l i)) ⟨AX _,Same.refl H,trivial⟩ ?_ ?_ ?_⟩))
 ·rintro j d c ⟨o,s,f⟩;exact ⟨o,sz (by rw [↑f,AI,BC];omega),SqL.of (s _ _ m)⟩
 ·rintro j x d c u ⟨o,s,f⟩;let ⟨b,w,rfl,y,z,A⟩:=(n.tp (D_ s)).get u;refine By (Al (AD rfl (AD rfl ⟨b,w,_,i,rfl,y,z,λv F q B=>⟨⋯,s.trans q,?_⟩⟩)));rw [MS (λl=>AG l i) [] A];exact (f.tp (D_ q)).append (Nums.one B)
 ·rintro d c ⟨_,s,f⟩ p hp;let e:=AM hp (.lst d);rw [List.take_of_length_le ⋯] at f;exact k p d _ (s.trans e) upd_same (f.tp (D_ e))
def uU (h:Lh K vs H Q E):Zx K (eA Q) (L2.start ["_law_kp","_law_k"] vs) H:=by
 let ⟨p,d,l,i,rfl,hp,a,k⟩:=h;let n:=↑a;refine D1 (Bz (AW (AD rfl (Bg (AD rfl ⟨p,d,rfl,hp,_,_,rfl,rfl,_,rfl,Aj (λc=>?_) (λc=>?_)⟩)))))
 ·let c:=pE c;let f:i<↑l:=by omega
  let ⟨v,g,j⟩:=a.at f (0,1);exact Bb (AW (AD rfl (AD rfl (DI hp (Ca rfl g) (k v H (Same.refl H) j)))))
 ·let c:=pH (Bool.eq_false_iff.mpr c);refine ⟨CH,λr m=>?_⟩;let e:=AM m (.tup [.int 0,.int 1]);refine k (.ref r) _ e ⟨r,rfl,?_⟩
  have:AG l i=(0,1):=by
   unfold AG;rw [AJ,BH ⋯];rfl
  rw [this];exact upd_same
noncomputable def eS:Nat->Nat
 | 0=>0
 | n+1=>eS n+(84*n+1)
def Gq.at {b c:Nat} {l:cF} (G:Gq b c l) (i:Nat):Low (AG l i).1 (AG l i).2/\Bd b (AG l i).1/\Bd c (AG l i).2/\∃ M,0<M/\Bd c M/\∀ i,(AG l i).2∣M:=MQ G.low G.ov i
theorem Tf {ds:List cE} (i:Nat):∀ n,(∀ j,j<n->Gq 800 (84*j+1) (ds.getD j []))->∃ m:Int,0<m/\Bd (eS n+1) m/\∀ j,j<n->(AG (ds.getD j []) i).2∣m
 | 0,_=>⟨1,∅,ae ∅,λj h=>absurd h (BD j)⟩
 | n+1,h=>by
   let ⟨m,b,c,d⟩:=Tf i n λj a=>h j ⋯;let ⟨_,_,_,M,e,f,g⟩:=(h n ⋯).at i;refine ⟨m*M,Bh b e,(c.mul f).mono (by show eS n+1+(84*n+1)<=eS n+(84*n+1)+1;omega),λj a=>?_⟩;rcases Ej.mp a with q | q
   ·exact DX (d j q) (Int.dvd_mul_right _ _)
   ·rw [q];exact DX (g i) (Int.dvd_mul_left _ _)
def Tg {cs:List cE} {l:cF} (h:∀ j,j<↑cs->Gq 800 (84*j+1) (cs.getD j [])) (f:Gq 800 (84*↑cs+1) l) (u:↑cs<=7) (i:Nat) :
  NuOk 1400 (cs.map (λl=>AG l i)++[AG l i])/\∃ m,Ov (cs.map (λl=>AG l i)++[AG l i]) m/\Bd 2500 m:=by
 let e:cs.map (λl=>AG l i)++[AG l i]=(cs++[l]).map λl=>AG l i:=by rw [CP];rfl
 let d:∀ j,j<↑cs+1->Gq 800 (84*j+1) ((cs++[l]).getD j []):=λj a=>by
  rcases Ej.mp a with q | q
  ·rw [AJ,D8 q,<-AJ];exact h j q
  ·rw [q,AJ,De (AV _),EV];exact f
 let c:∀ q∈cs.map (λl=>AG l i)++[AG l i],∃ j,j<↑cs+1/\q=AG ((cs++[l]).getD j []) i:=λq b=>by
  rw [e] at b;let ⟨x,g,rfl⟩:=Ao.mp b;let ⟨j,a,rfl⟩:=DY.mp g;exact ⟨j,by rw [B3] at a;exact a,by rw [AJ,AT a];rfl⟩
 let ⟨m,k,n,o⟩:=Tf (ds:=cs++[l]) i (↑cs+1) d;refine ⟨⟨λq b=>?_,λq b=>?_⟩,m,⟨k,λq b=>?_⟩,n.mono ?_⟩
 ·let ⟨j,a,rfl⟩:=c q b;exact ((d j a).at i).1
 ·let ⟨j,a,rfl⟩:=c q b;let ⟨_,p,r,_⟩:=(d j a).at i;exact ⟨p.mono ∅,r.mono ⋯⟩
 ·let ⟨j,a,rfl⟩:=c q b;exact o j a
 ·have:↑cs+1=1\/↑cs+1=2\/↑cs+1=3\/↑cs+1=4\/↑cs+1=5\/↑cs+1=6\/↑cs+1=7\/↑cs+1=8:=by omega
  rcases this with z | z | z | z | z | z | z | z <;> rw [z] <;> decide
def MT {b:TA} {capt:List (Option Nat)} {g:TG} {c:TE} {a:L2.St} {H:Hp} {Q:VK} (h:b a H (λvs d=>∃ j:Int,vs=[.int j]/\-(2 ^ 62)<=j/\j<2 ^ 62/\CompJ (Z_ 0 j.toNat) capt g c a Q d)):At (Cs b) capt g c a H Q:=h
def MU (l:cF) (f:Nat->Sr) (k:Nat):(sq l f).c k=su ↑l λt=>vl l t*(f t).c k:=by
 unfold sq;rw [Sr.su_c];exact AU _ λt _=>Sr.num_mul _ _ _
def MV {cs:List cE} {N i j:Nat} (a:i<N) (b:j<↑cs):vr ((List.range N).map λi=>cs.map λl=>AG l i) i j=(sr (cs.getD j [])).c i:=by
 unfold vr vl;rw [D3 (λi=>cs.map λl=>AG l i) [] a,Te (λl=>AG l i) [] (0,1) b];rfl
def Th {l:cF} {N i:Nat} (a:i<N):vl ((List.range N).map λi=>AG l i) i=(sr l).c i:=by
 unfold vl;rw [D3 (λi=>AG l i) (0,1) a];rfl
noncomputable def Y' (cs:List cE):cL:=cs.map λl=>(↑l:Int)
def uV {K:W.Frag} {Q:VK} {H G:Hp} {E:XK} {a b:Addr} {xs ys:cJ} {cs:List cE} {l:cF} {N:Nat} (ha:H a=some (.lst xs)) (hP:PLs H xs cs) (hb:H b=some (.tup ys)) (hl:Nums H ys l) (c7:↑cs<=7) (c1:1<=↑cs)
  (hg:∀ j,j<↑cs->Gq 800 (84*j+1) (cs.getD j [])) (gl:Gq 800 (84*↑cs+1) l) (N1:1<=N) (N7:N<=7) (hN:∀ j,j<↑cs->(cs.getD j []).length<=N) (lN:↑l<=N) (s0:Same G H)
  (kT:∀ (r x f:Addr) (m gs:cJ) (X:cF) (c:Hp),Same G c->c r=some (.tup [.str "told", .ref x,.ref f])->c x=some (.tup m)->Nums c m X->↑X=↑cs->NuOk 250000 X->sq X (λj=>sr (cs.getD j []))=sr l->Q (.ref r) c)
  (kN:∀ (r x:Addr) (c:Hp),Same G c->c r=some (.tup [.str "none", .ref x])->(∀ z:cZ,su ↑cs (λj=>Sr.num (z j)*sr (cs.getD j []))≠sr l)->Q (.ref r) c) :
  Lm K { nx:=λ_ c=>Q .non c,rt:=Q } [↥a,↥b,some (.int (N:Int)),none] H:=by
 let lx:=↑hP;refine Ab (MT ⟨_,rfl,(N:Int),rfl,⋯,⋯,?_⟩);rw [CB];refine CompJ.range (n:=N) (λj g c=>j<=N/\Same H c/\NRs c g ((List.range j).map λi=>cs.map λl=>AG l i)) ⟨AX _,Same.refl H,trivial⟩ ?_ ?_ ?_
 ·rintro j g c ⟨o,s,u⟩;exact ⟨o,sz (by rw [↑u,AI,Au];omega)⟩
 ·rintro j g c d ⟨o,s,u⟩;rw [Int.zero_add];refine By (Al (AD rfl (AD rfl ⟨a,xs,cs,j,rfl,s _ _ ha,hP.tp (D_ s),⋯,λr m I w h J=>⟨d,s.trans w,?_⟩⟩)));rw [IP];exact (u.tp w).snoc h J
 rintro g H1 ⟨_,s1,u⟩ p hp;let sp:=AM hp (.lst g);let w:=s1.trans sp;let L:upd H1 p (.lst g) p=some (HO.lst g):=upd_same;let M:=u.tp sp;generalize upd H1 p (.lst g)=I at *;show RZ K _ [↥a,↥b,some (.int (N:Int)),↥p] _;refine Bb (Al (AD rfl (MT ⟨_,rfl,(N:Int),rfl,⋯,⋯,?_⟩)));rw [CB];refine CompJ.range (n:=N) (λj vs c=>j<=N/\Same I c/\Nums c vs ((List.range j).map λi=>AG l i)) ⟨AX _,Same.refl I,trivial⟩ ?_ ?_ ?_
 ·rintro j vs c ⟨o,s,y⟩;exact ⟨o,sz (by rw [↑y,AI,Au];omega)⟩
 ·rintro j vs c d ⟨o,s,y⟩;rw [Int.zero_add];let st:=w.trans s;refine By (Al (AD rfl (AD rfl ⟨b,ys,l,j,rfl,st _ _ hb,hl.tp (D_ st),λv O D hv=>⟨d,s.trans D,?_⟩⟩)));rw [IP];exact (y.tp (D_ D)).append (Nums.one hv)
 rintro A O ⟨_,D,y⟩ q hq;let B:=AM hq (.lst A);let P:=D.trans B;let R:upd O q (.lst A) q=some (HO.lst A):=upd_same;let S:=y.tp (D_ B);let T:=P _ _ L;let U:=M.tp P;generalize upd O q (.lst A)=H4 at *;let so:=s0.trans (w.trans P);let lA:((List.range N).map λi=>cs.map λl=>AG l i).length=N:=by rw [AI,Au]
 let lB:((List.range N).map λi=>AG l i).length=N:=by rw [AI,Au]
 refine ⟨p,q,g,A,_,_,N,↑cs,rfl,T,R,U,S,lA,lB,λr h=>?_,λz=>by omega,⋯,⋯,λi C=>?_,λr x f m gs X F Y Z h hx hX lX oX eX _ _ _=>?_,λr x m W Y n0 Z h hx hW lW oW eW eB=>?_⟩
 ·let ⟨i,_,rfl⟩:=Ao.mp h;exact AI ..
 ·rw [D3 (λi=>cs.map λl=>AG l i) [] C,D3 (λi=>AG l i) (0,1) C];exact Tg hg gl c7 i
 ·refine kT r x f m gs X Y (so.trans Z) h hx hX lX oX (Sr.ext' λk=>?_);rw [MU,lX];by_cases hk:k<N
  ·rw [<-Th hk,<-eX k hk];exact AU _ λj d=>by rw [MV hk d];ext
  ·rw [Dl l k ⋯];exact Bw λj d=>by rw [Dl _ k (by have:=hN j d;omega)];ext
 ·refine kN r x Y (so.trans Z) h λz J=>eB ?_
  let e:∀ i,i<N->vl ((List.range N).map λi=>AG l i) i*vl W i=su ↑cs λj=>z j*(vr ((List.range N).map λi=>cs.map λl=>AG l i) i j*vl W i):=λi C=>by
   rw [Th C,<-J,Sr.su_c,<-Cd];exact AU _ λj d=>by rw [Sr.num_mul,MV C d];ext
  rw [AU N e,Dk];exact Bw λj d=>by rw [BK,eW j d];ext
def uW (h:Le K vs H Q E):Ze K (eA Q) (L2.start ["columns","P","many","rows"] vs) H:=by
 let ⟨a,b,e,ys,d,l,rfl,R,A,S,B,c7,c1,l7,T,gl,kT,kN⟩:=h;let lx:=↑A;let ly:=↑B;refine Ab (Bg (AW (DH (G' ⟨Cb,λi C=>?_⟩))));let s1:=AM C (.lst [.int 1]);refine Cy (AW (AD rfl (DH (AD rfl ⟨Cb,λk n=>?_⟩))));let U:=s1.trans (AM n (.lst [.ref b]));let h1:upd (upd H i (.lst [.int 1])) k (.lst [.ref b]) i=some (HO.lst [V.int 1]):=AM n _ _ _ upd_same;let h2:upd (upd H i (.lst [.int 1])) k (.lst [.ref b]) k=some (HO.lst [V.ref b]):=upd_same;generalize upd (upd H i (.lst [.int 1])) k (.lst [.ref b])=W at *;refine ⟨a,k,e,[.ref b],rfl,rfl,U _ _ R,h2,sz (by rw [D9];omega),λp D=>?_⟩;let X:=AM D (.lst (e++[V.ref b]));let Y:upd W p (.lst (e++[V.ref b])) p=some (HO.lst (e++[V.ref b])):=upd_same;let F:=X _ _ h1;let r:=U.trans X;generalize upd W p (.lst (e++[V.ref b]))=G at *;let P3:PLs G (e++[.ref b]) (d++[l]):=(A.tp (D_ r)).snoc (r _ _ S) (B.tp (D_ r));let a0:(e++[V.ref b]).length=(d++[l]).length:=↑P3;let I:(d++[l]).length=↑d+1:=by rw [B3];rfl
 refine ⟨p,rfl,⟨_,SqL.of Y⟩,CompJ.lst (xs:=e++[.ref b]) (λj u g=>j<=(e++[V.ref b]).length/\Same G g/\u=(Y' ((d++[l]).take j)).map V.int) ⟨AX _,Same.refl G,rfl⟩ ?_ ?_ ?_⟩
 ·rintro j u g ⟨Z,s,rfl⟩;refine ⟨Z,sz ?_,SqL.of (s _ _ Y)⟩;unfold Y';rw [AI,AI,BC];omega
 ·rintro j x u g J ⟨Z,s,rfl⟩;let ⟨c,zs,rfl,hc,v,f⟩:=(P3.tp (D_ s)).get J;refine By (Bg (AD rfl ⟨c,zs,rfl,hc,⋯,s,?_⟩));unfold Y';rw [MS (λl:cF=>(↑l:Int)) [] f,CP,↑v];rfl
 rintro u H4 ⟨_,s4,rfl⟩ w L;rw [List.take_of_length_le ⋯] at *;let s5:=AM L (.lst ((Y' (d++[l])).map V.int));let h4:upd H4 w (.lst ((Y' (d++[l])).map V.int)) w=some (HO.lst ((Y' (d++[l])).map V.int)):=upd_same;let t5:=(r.trans s4).trans s5;let M:=s5 _ _ (s4 _ _ F);generalize upd H4 w (.lst ((Y' (d++[l])).map V.int))=H5 at *;let ll:(Y' (d++[l])).length=↑d+1:=by unfold Y';rw [AI,I]
 refine ⟨i,w,[.int 1],_,rfl,rfl,M,h4,sz (by rw [AI,ll,D9];omega),λy O=>?_⟩;let s6:=AM O (.lst ([V.int 1]++(Y' (d++[l])).map V.int));let h6:upd H5 y (.lst ([V.int 1]++(Y' (d++[l])).map V.int)) y=some (HO.lst ((1::Y' (d++[l])).map V.int)):=upd_same;let o:=t5.trans s6;generalize upd H5 y (.lst ([V.int 1]++(Y' (d++[l])).map V.int))=H6 at *
 let all:∀ z∈Y' (d++[l]),0<=z/\z<=7:=λz v=>by
  unfold Y' at v;let ⟨x,J,rfl⟩:=Ao.mp v;rcases DK.mp J with q | q
  ·let ⟨j,f,rfl⟩:=DY.mp q;have:=(T j f).1;rw [AJ,AT f] at this;let this:d[j].length<=7:=this;omega
  ·rw [BU.mp q];omega
 refine ⟨y,1::Y' (d++[l]),rfl,h6,(by simp),λm hm P=>?_⟩;let m1:=P 1 (D6 ..)
 let m7:m<=7:=by
  rcases DV.mp hm with q | q
  ·omega
  ·exact (all m q).2
 let ⟨N,rfl⟩:∃ N:Nat,m=(N:Int):=⟨m.toNat,⋯⟩;show Lm K _ [↥a,↥b,some (.int (N:Int)),none] _;refine uV (E:=E) (o _ _ R) (A.tp (D_ o)) (o _ _ S) (B.tp (D_ o)) c7 c1 (λj f=>(T j f).2) gl ⋯ ⋯ (λj f=>?_) ?_ o kT kN
 ·have:=P ((d.getD j []).length:Int) (Dn _ (by
   unfold Y';refine Ao.mpr ⟨d.getD j [],List.mem_append_left _ ?_,rfl⟩;rw [AJ,AT f];exact Cn _))
  omega
 ·have:=P (↑l:Int) (Dn _ (by
   unfold Y';exact Ao.mpr ⟨l,Dd _ (List.mem_singleton_self _),rfl⟩))
  omega
theorem MW (ns ms:cL) (k:Nat):∀ n,((ps ns ms n k:Int):Rat)=su n λj=>(co ns j:Rat)*(if j<=k then (si ms).c (k - j) else 0)
 | 0=>rfl
 | n+1=>by
   show ((ps ns ms n k+(if n<=k/\k - n<↑ms then ns.getD n 0*ms.getD (k - n) 0 else 0):Int):Rat)=su n _+_;rw [Rat.intCast_add,MW ns ms k n];congr 1;show _=(co ns n:Rat)*(if n<=k then (si ms).c (k - n) else 0);by_cases h:n<=k
   ·rw [pB h];by_cases a:k - n<↑ms
    ·rw [pB ⟨h,a⟩,B6];rfl
    ·rw [qZ ⋯,HG ms (k - n) ⋯];show (0:Rat)=_;ext
   ·rw [qZ ⋯,qZ h];show (0:Rat)=_;ext
noncomputable def aO (ns ms:cL):cL:=if ↑ns=0\/↑ms=0 then [] else (List.range (↑ns+↑ms - 1)).map λk=>ps ns ms ↑ns k
def uY (ns ms:cL):si (aO ns ms)=si ns*si ms:=Sr.ext' λk=>by
 rw [<-Sr.pl_of (HG ns),Sr.pl_mul];let e:=MW ns ms k ↑ns;refine Eq.trans ?_ e;show ((co (aO ns ms) k:Int):Rat)=_;congr 1;unfold aO;by_cases h:↑ns=0\/↑ms=0
 ·rw [pB h];rcases h with h | h
  ·rw [h];rfl
  ·rw [Kj h];rfl
 ·rw [qZ h];show ((List.range (↑ns+↑ms - 1)).map λk=>ps ns ms ↑ns k).getD k 0=_;by_cases q:k<↑ns+↑ms - 1
  ·rw [D3 _ _ q]
  ·rw [AJ,BH (by rw [AI,Au];omega),Go ↑ns k ⋯];rfl
def uZ (ns ms:cL):(aO ns ms).length<=↑ns+↑ms:=by
 unfold aO;split
 ·exact AX _
 ·rw [AI,Au];omega
def IQ (ns:cL):Sr.Zi (si ns):=⟨FK ns,λk=>⟨_,rfl⟩⟩
def Ti {p:Nat} (f:0<p) {F:Sr} (b:Sr.Pol F) {g:cY} (c:∀ k,F.c k=(g k:Rat)) (d:∀ k,(p:Int)∣g k):∃ E,Sr.Zi E/\F=Sr.num ((p:Int):Rat)*E:=by
 let a:((p:Int):Rat)≠0:=A4 ⋯;refine ⟨Sr.num (((p:Int):Rat)⁻¹)*F,⟨(Sr.Pol.num _).mul b,λk=>?_⟩,?_⟩
 ·let ⟨z,e⟩:=d k;refine ⟨z,?_⟩;rw [Sr.num_mul,c,e,B6,<-Rat.mul_assoc,Rat.inv_mul_cancel _ a,Rat.one_mul]
 ·have:=Sr.num_inv a;ext
def tD {p:Nat} (c:0<p) {b ns a ms:cL} (h:Md (p:Int) b (λk=>co ns k - cvL a (co ms) k)):∃ E,Sr.Zi E/\si b=si ns - si a*si ms+Sr.num ((p:Int):Rat)*E:=by
 let em:si a*si ms=⟨λk=>((cvL a (co ms) k:Int):Rat)⟩:=by
  rw [MF,Sr.L_mul];exact Sr.ext' λk=>(ME (co ms) a k).symm
 let ⟨E,d,e⟩:=Ti c (F:=si b - (si ns - si a*si ms)) ((FK b).sub ((FK ns).sub ((FK a).mul (FK ms)))) (g:=λk=>co b k - (co ns k - cvL a (co ms) k)) (λk=>by
  rw [Sr.sub_c,Sr.sub_c,em,Rat.intCast_sub,Rat.intCast_sub];rfl) h.2
 exact ⟨E,d,by rw [<-e];ext⟩
def tE {p:Nat} (b:0<p) {a ns:cL} {f:Int} (h:Md (p:Int) a (λk=>f*co ns k)):∃ E,Sr.Zi E/\si a=Sr.num (f:Rat)*si ns+Sr.num ((p:Int):Rat)*E:=by
 let ⟨E,c,e⟩:=Ti b (F:=si a - Sr.num (f:Rat)*si ns) ((FK a).sub ((Sr.Pol.num _).mul (FK ns))) (g:=λk=>co a k - f*co ns k) (λk=>by
  rw [Sr.sub_c,Sr.num_mul,Rat.intCast_sub,B6];rfl) h.2
 exact ⟨E,c,by rw [<-e];ext⟩
def tF (ps:cL) (n:Nat):si (ps++List.replicate n 0)=si ps:=Sr.ext' λk=>by
 show ((co (ps++List.replicate n 0) k:Int):Rat)=((co ps k:Int):Rat);congr 1;show (ps++List.replicate n 0).getD k 0=ps.getD k 0;rw [AJ,AJ];by_cases h:k<↑ps
 ·rw [D8 h]
 ·rw [De ⋯,BH (l:=ps) ⋯,Do];split <;> rfl
structure PwI (p:Nat) (A M:Sr) (w i:Nat) (L:List (cL)) (ps:cL):Prop where
 lL:↑L=i
 rL:∀ r∈L,↑r=w
 hL:∀ j,j<i->∃ Z E,Sr.Zi Z/\Sr.Zi E/\si (L.getD j [])=A ^ j - M*Z+Sr.num ((p:Int):Rat)*E
 lp:↑ps<=w
 bp:∀ z∈ps,0<=z/\z<(p:Int)
 hp:∃ Z E,Sr.Zi Z/\Sr.Zi E/\si ps=A ^ i - M*Z+Sr.num ((p:Int):Rat)*E
 one:i=0->ps=[1]
 two:0<i->co (L.getD 0 []) 0=1
def PwI.step {p w i:Nat} {ns ms ps a b:cL} {L:List (cL)} (h:PwI p (si ns) (si ms) w i L ps) (n:0<p) (A:1<=w) (B:↑ms=w+1) (C:↑b<↑ms) (d:Md (p:Int) b (λk=>co (aO ps ns) k - cvL a (co ms) k)) :
  PwI p (si ns) (si ms) w (i+1) (L++[ps++List.replicate (w - ↑ps) 0]) b:=by
 let f:∀ j,j<i->(L++[ps++List.replicate (w - ↑ps) 0]).getD j []=L.getD j []:=λj g=>by
  rw [AJ,D8 (by have:=h.lL;omega),<-AJ]
 let m:(L++[ps++List.replicate (w - ↑ps) 0]).getD i []=ps++List.replicate (w - ↑ps) 0:=by
  rw [AJ,De (by have:=h.lL;omega),h.lL,EV];rfl
 let ⟨E,o,e⟩:=tD n d;let ⟨Z,u,v,c,x⟩:=h.hp;refine ⟨by rw [B3,h.lL];rfl,λr y=>?_,λj g=>?_,⋯,d.1,⟨Z*si ns+si a,u*si ns+E,(v.mul (IQ ns)).add (IQ a),(c.mul (IQ ns)).add o,?_⟩,λz=>absurd z (Nat.succ_ne_zero i),λ_=>?_⟩
 ·rcases DK.mp y with q | q
  ·exact h.rL r q
  ·rw [BU.mp q,B3,FN];have:=h.lp;omega
 ·rcases Ej.mp g with q | q
  ·rw [f j q];exact h.hL j q
  ·rw [q,m,tF];exact h.hp
 ·rw [e,uY,x,Sr.pow_s];ext
 ·by_cases q:i=0
  ·subst q;rw [m,h.one rfl];rfl
  ·rw [f 0 ⋯];exact h.two ⋯
def tG {p:Nat} (f:Pr p) {L:List (cL)} {n w r:Nat} (k:1<=n) (m:1<=w) (one:co (L.getD 0 []) 0=1) {o c:Nat->Nat} {u l:Nat->Nat->Zm (p:Int)} (I:RE n w (λi j=>Zm.of (p:Int) (en L i j)) w r o c u l):1<=r:=Classical.byContradiction λq=>by
 let g:r=0:=by omega
 subst g;let ⟨i,a,e⟩:=bH I.on I.inj (r:=0) ⋯;let b:=I.row2 i (AX _) a 0 ⋯;rw [I.zer i (AX _) a 0 ⋯,e] at b;let d:(0:Zm (p:Int))=Zm.of (p:Int) (en L 0 0)+0:=b;unfold en at d;rw [one] at d
 let h:(1:Zm (p:Int))=0:=by
  have:(1:Zm (p:Int))=Zm.of (p:Int) 1:=rfl;rw [this];ext
 exact f.dom.one h
def tH (h:Lf K vs H Q E):Zp K (eA Q) (L2.start ["row","divisor","prime","modulus","width","powers","power","step"] vs) H:=by
 let ⟨a,b,J,A,w,rfl,ha,hb,ln,R,w1,be,bn,bw,top,k⟩:=h;let g:=S7;let S:=X';let p2:=S.two;let T:Bd 127 ((CA:Nat):Int):=ae (by rw [g];decide);let C:∀ {l:cL},↑l=w+1->↑l - 1=w:=λh=>by omega
 let U:Bd 100 (co A w):=bw _ (CM ⋯)
 let M:¬ (CA:Int)∣co A w:=λz=>by
  let h1:=Int.le_of_dvd top z;let h2:(co A w).natAbs<2 ^ 100:=U;rw [g] at h1;omega
 refine Ab (G' ?_);rw [show (170141183460469231731687303715884105727:Int)=(CA:Int) by rw [g];rfl];refine F4 (DE (λ_ P B=>P=[↥a,↥b,some (.int (CA:Int)),none,none,none,none,none]/\B=H) 0 ⟨rfl,rfl⟩ ?_);rintro m P B ⟨rfl,rfl⟩;let aL:=L3 (ms:=A) ⋯;rw [C R] at aL;refine ⟨_,rfl,_,rfl,_,_,_,_,rfl,rfl,hb,aL,_,rfl,_,_,rfl,rfl,⋯,rfl,_,rfl,Aj (λc=>?_) (λ_=>?_)⟩
 ·exfalso;let c:V.int (co A w % (CA:Int))=V.int 0:=pE c;let c:co A w % (CA:Int)=0:=by injection c
  exact M (Int.dvd_of_emod_eq_zero c)
 refine Ab (Al (AD rfl (AD rfl ⟨b,A,CA,rfl,hb,p2,T.mono ∅,⋯,λz n=>(bw z n).mono ∅,λ_=>by
  rw [C R];exact S.cop λz=>M (Int.ofNat_dvd_left.mpr z),λmd D f G s1 hm W one Y=>?_⟩)))
 let ab:A≠[]:=λz=>by rw [z] at R;cases R
 let one:=one ab;let W:↑D=w+1:=by omega
 rw [C W] at one;let aj:=s1 _ _ hb;let ew:((~~~A).length:Int) - 1=(w:Int):=by rw [AI];omega
 refine Ab ⟨_,rfl,_,_,rfl,aj,_,_,rfl,rfl,?_⟩;show Rb K _ [↥a,↥b,some (.int (CA:Int)),↥md,some (.int (((~~~A).length:Int) - 1)),none,none,none] G;rw [ew];refine Ab (show A9 AC _ _ _ from ⟨AX _,λX hX=>?_⟩);let sX:=AM hX (.lst []);refine Ab (DH (G' ⟨Cb,λq hq=>?_⟩));let a0:=AM hq (.lst [.int 1]);let al:upd (upd G X (.lst [])) q (.lst [.int 1]) X=some (HO.lst []):=a0 _ _ upd_same;let an:upd (upd G X (.lst [])) q (.lst [.int 1]) q=some (HO.lst (([1]:cL).map V.int)):=upd_same;let s2:=sX.trans a0;let qX:q≠X:=(As (upd_same:upd G X (.lst []) X=some (HO.lst [])) hq).symm;let ap:G X=none:=hX;generalize upd (upd G X (.lst [])) q (.lst [.int 1])=H2 at *;let m1:(si D).c w=1:=by show ((co D w:Int):Rat)=1;rw [one];rfl
 refine (show AH (Ay _ _ _) _ _ _ _ from ⟨_,rfl,(w:Int),rfl,⋯,⋯,?_⟩);rw [CB]
 refine ForR.by (λi P B=>∃ (q:Addr) (ps:cL) (e:cJ) (L:List (cL)) (u:cK),P=[↥a,↥b,some (.int (CA:Int)),↥md,some (.int (w:Int)),↥X,↥q,u]/\Same G B/\B X=some (.lst e)/\SDs (rm B X) e L/\q≠X/\B q=some (.lst (~~~ps))/\PwI CA (si J) (si D) w i L ps)
  ⟨q,[1],[],[],none,rfl,s2,al,trivial,qX,an,rfl,(λr N=>nomatch N),λj hj=>absurd hj (BD j),w1,λz n=>?_,⟨0,0,Sr.Zi.zero,Sr.Zi.zero,?_⟩,λ_=>rfl,λz=>absurd z (C5 0)⟩ ?_ ?_
 ·rw [BU.mp n];omega
 ·rw [Sr.pow_z]
  have:si [1]=1:=Sr.ext' λk=>by
   show ((co [1] k:Int):Rat)=((1:Nat):Rat)*BQ k;cases k with
   | zero=>show ((1:Int):Rat)=((1:Nat):Rat)*1;push_cast;ext
   | succ k=>show ((0:Int):Rat)=((1:Nat):Rat)*0;push_cast;ext
  rw [this];ext
 ·rintro i P H3 hi ⟨q,ps,e,L,u,rfl,s3,F,hS,qX,a3,p⟩;let lx:=↑hS;let lL:=p.lL;let lp:=p.lp;refine (show AH (EF _) _ _ _ _ from ⟨_,rfl,Gj F,?_⟩);refine ⟨_,rfl,Cb,λz n=>?_⟩;let O:=AM n (.lst [.int 0]);let b0:upd H3 z (.lst [.int 0]) z=some (HO.lst [V.int 0]):=upd_same;let a4:=O _ _ a3;let b1:=O _ _ F;let b2:((w:Int) - ((~~~ps).length:Int))=((w - ↑ps:Nat):Int):=by rw [AI];omega
  generalize upd H3 z (.lst [.int 0])=H4 at *;refine ⟨_,rfl,_,rfl,_,_,rfl,a4,_,_,rfl,rfl,?_⟩;refine ⟨_,((w - ↑ps:Nat):Int),_,rfl,congrArg V.int b2,b0,⋯,⋯,sz (by rw [D9];omega),λy hy=>?_⟩;rw [CB,Er];let sy:=AM hy (.lst (List.replicate (w - ↑ps) (V.int 0)));let b3:upd H4 y (.lst (List.replicate (w - ↑ps) (V.int 0))) y=some (HO.lst (List.replicate (w - ↑ps) (V.int 0))):=upd_same;let a5:=sy _ _ a4;let a6:=sy _ _ b1;generalize upd H4 y (.lst (List.replicate (w - ↑ps) (V.int 0)))=H5 at *;refine ⟨q,y,_,_,rfl,rfl,a5,b3,sz (by rw [AI,FN];omega),λv hv=>?_⟩;let ev:ps.map V.int++List.replicate (w - ↑ps) (V.int 0)=(ps++List.replicate (w - ↑ps) 0).map V.int:=by rw [CP,List.map_replicate]
  rw [ev];let sv:=AM hv (.lst ((ps++List.replicate (w - ↑ps) 0).map V.int));let b4:upd H5 v (.lst ((ps++List.replicate (w - ↑ps) 0).map V.int)) v=some (HO.lst ((ps++List.replicate (w - ↑ps) 0).map V.int)):=upd_same;let b5:=sv _ _ a5;let b6:=sv _ _ a6;let vX:v≠X:=(As a6 hv).symm;let t6:=(O.trans sy).trans sv;generalize upd H5 v (.lst ((ps++List.replicate (w - ↑ps) 0).map V.int))=H6 at *;refine ⟨X,e,.ref v,rfl,rfl,b6,by rw [lx,lL];exact B2 (show i<1000 by omega) (sz ∅),?_⟩;let S6:SDs (rm (upd H6 X (.lst (e++[V.ref v]))) X) (e++[.ref v]) (L++[ps++List.replicate (w - ↑ps) 0]):=((hS.tp (Fp X t6)).tp II).snoc (Fo vX (Kp.upd _ _ vX b4));let s7:Same G (upd H6 X (.lst (e++[V.ref v]))):=λc o h=>Kp.upd c o (As h ap) (t6 c o (s3 c o h));let b7:upd H6 X (.lst (e++[V.ref v])) q=some (.lst (~~~ps)):=Kp.upd _ _ qX b5;let a7:upd H6 X (.lst (e++[V.ref v])) X=some (.lst (e++[V.ref v])):=upd_same;generalize upd H6 X (.lst (e++[V.ref v]))=H7 at *;show Ra K _ [↥a,↥b,some (.int (CA:Int)),↥md,some (.int (w:Int)),↥X,↥q,some (.int (0+(i:Int)))] H7;refine (show AO _ _ _ _ _ from DS (Al (AD rfl (AD rfl ⟨q,a,ps,J,127,200,rfl,b7,s7 _ _ (s1 _ _ ha),λz n=>?_,bn,∅,∅,⋯,⋯,λr H8 s8 N=>AD rfl (AD rfl ?_)⟩))))
  ·have:=p.bp z n;exact T.le ⋯
  let N:H8 r=some (.lst ((aO ps J).map V.int)):=N;let bf:=uZ ps J;refine ⟨r,md,aO ps J,D,(CA:Int),127,rfl,N,(s7.trans s8) _ _ hm,⋯,by rw [C W];exact one,⋯,T,λz n=>T.le (by have:=Y.1 z n;omega),∅,⋯,⋯,λs qs rs H9 s9 hs tz lr b9=>?_⟩;let t9:=s8.trans s9;refine ⟨s,rs,_,_,_,rfl,s7.trans t9,t9 _ _ a7,S6.tp (Fp X t9),?_,hs,p.step ⋯ w1 W lr b9⟩;intro z;have:=t9 _ _ a7;rw [<-z,hs] at this;injection this with this;injection this with this;let l1:=congrArg List.length this;rw [AI,B3,lx,lL,D9] at l1;have:=congrArg (λl:cJ=>l[i]?) this;let e2:(e++[V.ref v])[i]?=some (V.ref v):=by rw [De ⋯,show i - ↑e=0 by omega];rfl
  rw [e2,Ac,AT ⋯] at this;cases this
 ·rintro P H3 ⟨q,ps,e,L,u,rfl,s3,F,hS,qX,a3,p⟩;let ba:SD H3 X L:=⟨e,F,hS.tp D2⟩;refine Bb (Bg (AW (Al (AD rfl (AD rfl ⟨X,L,w,w,CA,rfl,ba,⟨p.lL,p.rL⟩,⋯,⋯,S,T.mono ∅,λr x y z LL os cs H4 s4 N hx hy n hR=>G' (DI N rfl ⟨z,_,rfl,n,?_⟩)⟩)))));let ⟨o,c,u',l,I,_,_,_⟩:=hR.ri;let len:((iN cs).length:Int)=(↑os:Int):=by unfold iN;rw [AI,hR.lc]
  rw [len];let ⟨E0,bb,eM⟩:=tE ⋯ Y
  let bc:∀ i,i<w->Sr.Bn (si (L.getD i [])) w/\∃ Z E,Sr.Zi Z/\Sr.Zi E/\si (L.getD i [])=si J ^ i - si D*Z+Sr.num (((CA:Nat):Int):Rat)*E:=λi hi=>by
   refine ⟨?_,p.hL i hi⟩;let m:L.getD i []∈L:=by rw [AJ,AT (by have:=p.lL;omega)];exact Cn _
   have:=HG (L.getD i []);rw [p.rL _ m] at this;exact this
  refine k ↑os H4 (s1.trans (s3.trans s4)) (tG S w1 w1 (p.two ⋯) I) λd zz bd=>?_;exact uJ S R M (Ah top) (IQ J) (IQ D) m1 (W ▸ HG D) bb eM I bc bd
def MX {l m a b:cF} (h:∀ k,C_ l k=cv (C_ a) (C_ m) ↑a k+C_ b k):Sr.Cg (sr m) (sr l) (sr b):=by
 refine ⟨sr a,Ee a,Sr.ext' λk=>?_⟩
 let e:sr m*sr a=⟨cvL (rw' a) (C_ m)⟩:=by
  rw [Se];show sr m*sr a=sr a*sr m;ext
 rw [e];show C_ l k=C_ b k+cvL (rw' a) (C_ m) k;rw [h k,Sb];ext
def Jx {b c:Nat} (d:1<=c):Gq b c []:=⟨(λq a=>nomatch a),(λq a=>nomatch a),1,⟨∅,(λq a=>nomatch a)⟩,(ae ∅:Bd 1 1).mono d,(λz e=>nomatch e)⟩
def tI {b c:Nat} {m:cF} {q:Nu} (G:Gq b c m) (d:q∈m):Gq b c (trim [q]):=by
 let ⟨M,O,f,g⟩:=G.ov;let h:Ov [q] M:=⟨O.1,λr a=>by rw [BU.mp a];exact O.2 q d⟩
 let i:∀ z∈F_ [q] M,Bd b z:=λz e=>by
  unfold F_ at e;let ⟨r,a,rfl⟩:=Ao.mp e;rw [BU.mp a];exact g _ (Ao.mpr ⟨q,d,rfl⟩)
 let ⟨j,k⟩:=MB h i;exact ⟨λr a=>by rw [BU.mp (EJ a)];exact G.low q d,Dy _,M,j,f,k⟩
theorem tJ {q:Nu} (h:Low q.1 q.2):sr (trim [q])=Sr.num (val q):=Sr.ext' λk=>by
 show C_ (trim [q]) k=val q*BQ k;rw [Eo (λr a=>by rw [BU.mp a];exact h)];cases k with
 | zero=>show val q=val q*1;ext
 | succ k=>
   rw [Db (by show 1<=k+1;omega)];show 0=val q*0;ext
def tK {K:W.Frag} {c:TA} {g:TG} {d rest:TS} {D:Ends} {b:L2.St} {H:Hp} (h:c b H (λvs e=>∃ a f,vs=[.ref a]/\SqT K e a f/\ForJ (bV K a ↑f) g d { D with nx:=rest D } b e)):AH (Ay (KY K c) g d) rest D b H:=h
def Tj {K:W.Frag} {H:Hp} {Q:VK} {E:XK} {a b:Addr} {xs ys:cJ} {P W:cF} {w:Nat} {pk:Nat->cF} (c:Pws P W w pk) (h:H a=some (.tup xs)) (i:H b=some (.tup ys)) (j:Nums H xs P) (m:Nums H ys W)
  (k:∀ (t u v:Addr) (d:Hp),Same H d->d t=some (.tup [.ref u,.ref v])->Pl d v (pk 1)->Q (.ref t) d):GP K [.ref a,.ref b] H Q E:=by
 let p:=c.lW;let q:=c.lP;let f:↑P+1 - ↑W<=7:=by have:=c.w1;omega
 let r:=CI 13 f;let x:=CI 12 f;refine ⟨a,b,xs,ys,P,W,12,12,12,12,rfl,h,i,j,m,c.gP,c.gW,c.W0,⋯,by have:=c.w7;omega,⋯,⋯,∅,∅,λt u v d y n s o z Pv _ _ _ g A e=>?_⟩
 have:n=pk 1:=c.uniq ∅ g.low g.nz ⋯ (by
  rw [show sr P ^ 1=sr P by grind];exact (MX e).symm)
 rw [this] at Pv;exact k t u v d s o Pv
def tM {W P R a R1 R2 b:cF} {q:Nu} {w n i:Nat} {m:cF} {pk:Nat->cF} (j:Pws P W w pk) (v:i<↑m) (k:a=pk 1) (o:vl m (↑m - 1 - i)=val q) (c:Sr.Cg (sr W) (sr R) (su i λt=>Sr.num (vl m (↑m - i+t))*sr P ^ t))
  (p:sr R1=sr R*sr a) (r:sr R2=sr R1+Sr.num 1*Sr.num (val q)) (u:Sr.Cg (sr W) (sr R2) (sr b)):Sr.Cg (sr W) (sr b) (su (i+1) λt=>Sr.num (vl m (↑m - (i+1)+t))*sr P ^ t):=by
 refine u.symm.trans ?_;let d:=j.cg 1 ∅;rw [show sr P ^ 1=sr P by ext,<-k] at d;let e:=Sr.Cg.mul (Ee a) (Sr.su_pol' (f:=λt=>Sr.num (vl m (↑m - i+t))*sr P ^ t) i λt _=>(Sr.Pol.num _).mul ((Ee P).pow t)) c d;rw [<-p] at e;let h:=Sr.Cg.add e (Sr.Cg.of (W:=sr W) (rfl:Sr.num 1*Sr.num (val q)=Sr.num 1*Sr.num (val q)));rw [<-r] at h;refine h.trans (Sr.Cg.of ?_)
 rw [Jw,Nat.add_zero,show ↑m - (i+1)=↑m - 1 - i by omega,o,Sr.num_one,Sr.pow_z,<-Cd,AU (g:=λt=>Sr.num (vl m (↑m - 1 - i+(t+1)))*sr P ^ (t+1)) i λt _=>by
  rw [Sr.pow_s,show ↑m - 1 - i+(t+1)=↑m - i+t by omega];grind]
 ext
def tN (h:Lc K vs H Q E):ZX K (eA Q) (L2.start ["m","P","W","rest","value","number"] vs) H:=by
 let ⟨a,b,c,B,ys,zs,m,P,W,w,pk,rfl,ha,hb,hc,hm,hP,hW,gm,m5,d,k⟩:=h;let w7:=d.w7;let lW:=d.lW;let lx:=↑hm;refine Ab (AW (Al (AD rfl (AD rfl (Tj d hb hc hP hW λt u v H1 s1 J Pv=>G' (DI J rfl ?_))))));let l1:=d.l 1 ∅;let g1:Gq 98 85 (pk 1):=d.g 1 ∅;let ⟨L,e0⟩:∃ L,L=pk 1:=⟨_,rfl⟩;rw [<-e0] at Pv l1 g1;refine Ab (show A6 AC _ _ _ from ⟨AX _,λq hq=>?_⟩);let r:=AM hq (.tup []);let N:upd H1 q (.tup []) q=some (HO.tup []):=upd_same;let C:=s1.trans r;let O:=Pv.same r;generalize upd H1 q (.tup [])=H2 at *
 refine tK ⟨_,rfl,a,B,rfl,SqT.of (C _ _ ha),ForJ.revT (xs:=B) (λi D p=>i<=↑B/\∃ (q:Addr) (R:cF) (u:cK),D=[↥a,↥b,↥c,↥v,↥q,u]/\Same H2 p/\Pl p q R/\Gq (1000*3 ^ i) (1000*3 ^ i) R/\↑R<=w/\Sr.Cg (sr W) (sr R) (su i λt=>Sr.num (vl m (↑m - i+t))*sr P ^ t))
  ⟨AX _,q,[],none,rfl,Same.refl H2,⟨[],N,trivial⟩,Jx ∅,AX _,Sr.Cg.of (Sr.ext' λk=>by rw [show (su 0 λt=>Sr.num (vl m (↑m - 0+t))*sr P ^ t)=0 from rfl,Sr.zero_c];exact Dl [] k (AX _))⟩ ?_ ?_ ?_⟩
 ·rintro i D p _ ⟨_,q,R,u,rfl,s,_⟩;exact SqT.of ((C.trans s) _ _ ha)
 ·rintro i x D H3 hi hx ⟨_,q,R,u,rfl,A,S,F,lR,cR⟩;let T:=C.trans A;let ⟨z,hz,f,rfl,U⟩:=(hm.tp (D_ T)).get hx;let zm:=A5 hz;let zv:=(S9 hz).1;rw [lx] at zv;let ⟨rs,X,nR⟩:=S;let ⟨us,Y,nv⟩:=O.same A;let t1:1<=3 ^ i:=Nat.one_le_pow _ _ ∅;let ap:3 ^ i<=81:=Fs (n:=3) (j:=4) ∅ ⋯;refine By (Gx (AW (Al (Al (Al (AD rfl (AD rfl ⟨q,v,rs,us,R,L,_,_,98,85,rfl,X,Y,nR,nv,F,g1,⋯,⋯,⋯,⋯,∅,∅,λr1 o H4 s4 Z G b0 e1=>CL (DH (AD rfl ⟨Cb,λy hy=>?_⟩))⟩)))))));let sy:=AM hy (.lst [.ref f]);let a0:upd H4 y (.lst [.ref f]) y=some (HO.lst [V.ref f]):=upd_same;let s5:=s4.trans sy;let Z:=Z.same sy;generalize upd H4 y (.lst [.ref f])=H5 at *;refine ⟨y,[.ref f],[z],rfl,a0,Nums.one ⟨f,rfl,s5 _ _ U⟩,(by show 1<=1000;decide),λr2 a3 H6 s6 a4 n2=>?_⟩;let ⟨a5,a6,n1⟩:=Z.same s6;let G:Gq (1000*3 ^ i+120) (1000*3 ^ i+120) o:=G.mono ⋯ ⋯;let Gz:Gq (1000*3 ^ i+120) (1000*3 ^ i+120) (trim [z]):=(tI gm zm).mono ⋯ ⋯;let ⟨M,O1,O2,bM,b1,b2⟩:=xA G Gz;let lz:=Fb [z];let lz:(trim [z]).length<=1:=lz;refine ⟨r1,r2,a5,a3,o,trim [z],M,_,_,rfl,a6,a4,n1,n2,G.low,Gz.low,O1,O2,bM,b1,b2,⋯,⋯,⋯,⋯,λr3 I H7 s7 P3 G3 b3 e3=>AD rfl ?_⟩;let ⟨a7,ab,n3⟩:=P3;let t7:=(s5.trans s6).trans s7
  let e:↑I+1 - ↑W<=14:=by
   have:max ↑o (trim [z]).length<=14:=Nat.max_le.mpr ⟨⋯,⋯⟩;omega
  let aj:↑I<=20:=by
   have:max ↑o (trim [z]).length<=14:=Nat.max_le.mpr ⟨⋯,⋯⟩;omega
  let k1:=CI 13 e;let k2:=CI 12 e;refine ⟨r3,c,a7,zs,I,W,_,_,12,12,rfl,ab,(T.trans t7) _ _ hc,n3,hW.tp (D_ (T.trans t7)),G3,d.gW,d.W0,⋯,⋯,⋯,⋯,∅,∅,λt u' v' H8 qs al s8 J _ an _ _ _ gr lr e4=>G' (DI J rfl ⟨hi,v',al,_,rfl,(A.trans t7).trans s8,an,gr.mono ?_ ?_,⋯,?_⟩)⟩
  ·rw [Bx];omega
  ·rw [Bx];omega
  ·refine tM (n:=0) (R1:=o) (R2:=I) d ⋯ e0 zv cR (Jn e1) ?_ (MX e4);rw [<-tJ (gm.low z zm)];refine Sr.ext' λk=>?_;rw [Sr.add_c,Sr.num_mul];exact e3 k
 ·rintro D H3 ⟨_,q,R,u,rfl,A,S,F,lR,cR⟩;refine Bb (AD rfl (k q R H3 (C.trans A) S F.low F.nz lR ?_));rw [lx] at cR;unfold sq;rw [AU (g:=λt=>Sr.num (vl m t)*sr P ^ t) ↑m λt _=>by rw [EV,Nat.zero_add]] at cR;exact cR
def FM (pk:Nat->cF) {n j:Nat} (h:j<n):((List.range n).map pk).getD j []=pk j:=D3 pk [] h
def tO (pk:Nat->cF) {n m:Nat} (h:m<=n):((List.range n).map pk).take m=(List.range m).map pk:=by
 rw [<-List.map_take,List.take_range,Nat.min_eq_left h]
def tP {X:cF} {q:Nu} (f:Nat->Sr):sq (X++[q]) f=sq X f+Sr.num (val q)*f ↑X:=by
 unfold sq;rw [B3,D9];show su ↑X _+Sr.num (vl (X++[q]) ↑X)*f ↑X=_;congr 1
 ·exact AU _ λt a=>by
   congr 2;unfold vl;rw [AJ,D8 a,<-AJ]
 ·congr 2;unfold vl;rw [AJ,De (AV _),EV];rfl
def tQ {W:cF} {w:Nat} (a:↑W=w+1) (top:AG W w=(1,1)):co (AY W) w=Ag W:=by
 unfold co AY;rw [Te (λq:Nu=>q.1*(Ag W / q.2)) (0,1) 0 ⋯];show (AG W w).1*(Ag W / (AG W w).2)=_;rw [top];show 1*(Ag W / 1)=Ag W;rw [Int.ediv_one,Int.one_mul]
def LsT (pk:Nat->cF) (d:Nat) (H:Hp) (b:Addr) (a c:Nat):Prop:=
 ((∃ g,H b=some (.tup (.str "none" :: g)))/\1<=a/\a<=d/\c=d+1 - a)\/
 ((∃ (x f:Addr) (e:cJ) (X:cF),H b=some (.tup [.str "told", .ref x,.ref f])/\H x=some (.tup e)/\Nums H e X/\↑X=d/\NuOk 250000 X/\sq X (λj=>sr (pk j)) = - sr (pk d))/\c=0)
def tS {K:W.Frag} {D:Ends} {H H0:Hp} {a b r G td:Addr} {ys xs:cJ} {P W:cF} {w d n i:Nat} {pk:Nat->cF} (m:Pws P W w pk) (hb:H b=some (.tup ys)) (hW:Nums H ys W) (hr:Pl H r (pk 1)) (hp:H G=some (.lst xs)) (hP:PLs H xs ((List.range n).map pk)) (n1:1<=n) (n8:n<=8) (m1:1<=i) (md:i<=d) (dw:d<=w) (D0:Dp pk d) (min:∀ e,e<d->¬ Dp pk e) (p0:H0 G=none) (s0:Same H0 H)
  (k:∀ (A:Addr) (a3:cJ) (p N:Nat) (B:Hp),Same H0 B->B G=some (.lst a3)->PLs B a3 ((List.range p).map pk)->1<=p->p<=8->N<d+1 - i->LsT pk d B A (i+1) N->B b=some (.tup ys)->Nums B ys W->Pl B r (pk 1)->D.nx [↥a,↥b,↥r,↥G,some (.int ((i:Int)+1)),↥A] B) :
  RY K D [↥a,↥b,↥r,↥G,some (.int (i:Int)),↥td] H:=by
 let w7:=m.w7;let lW:=m.lW;let l1:=m.l 1 ∅;let g1:Gq 98 85 (pk 1):=m.g 1 ∅;refine F4 (DE (λkk σ B=>∃ (xs:cJ) (n:Nat),σ=[↥a,↥b,↥r,↥G,some (.int (i:Int)),↥td]/\Same H0 B/\B G=some (.lst xs)/\PLs B xs ((List.range n).map pk)/\1<=n/\n<=8/\kk=i+1 - n/\B b=some (.tup ys)/\Nums B ys W/\Pl B r (pk 1)) (i+1 - n) ⟨xs,n,rfl,s0,hp,hP,n1,n8,rfl,hb,hW,hr⟩ ?_);rintro kk σ H1 ⟨xs,n,rfl,s1,C,I,n1,n8,rfl,R,S,a4⟩;let lx:=↑I;rw [AI,Au] at lx;refine Bz (AW (Bg (AD rfl ⟨G,xs,rfl,C,AD rfl ⟨_,_,rfl,rfl,_,rfl,Aj (λc=>?_) (λc=>?_)⟩⟩)))
 ·let c:=pE c;let nm:n<=i:=by omega
  refine ⟨_,λ_ _ h=>h,?_⟩;let ⟨p,rfl⟩:∃ p,n=p+1:=⟨n - 1,⋯⟩;let ⟨v,hv⟩:∃ v,xs[↑xs - 1]?=some v:=⟨_,AT ⋯⟩;let a5:=hv;rw [show ↑xs - 1=p by omega] at a5;let ⟨c1,T,rfl,U,J,_⟩:=I.get a5;rw [FM pk (Ch p)] at J;let ⟨zr,a6,a7⟩:=a4;let gn:=m.g p ⋯;let ln:=m.l p ⋯;refine (show EF _ _ _ _ from ⟨_,rfl,Gj C,AW (Al (Al (AW (AD rfl ⟨_,rfl,B7 C (G8 ⋯ hv) (AD rfl ⟨c1,r,T,zr,pk p,pk 1,_,_,98,85,rfl,U,a6,J,a7,gn,g1,⋯,⋯,⋯,⋯,∅,∅,λr2 R2 H2 s2 P2 G2 b9 e2=>AD rfl ?_⟩)⟩))))⟩);let ⟨z2,h2,ap⟩:=P2;let hn:↑R2+1 - ↑W<=14:=by omega
  let k1:=CI 13 hn;let k2:=CI 12 hn;refine ⟨r2,b,z2,ys,R2,W,_,_,12,12,rfl,h2,s2 _ _ R,ap,S.tp (D_ s2),G2,m.gW,m.W0,⋯,⋯,⋯,⋯,∅,∅,λt u v H3 qs rs s3 ht _ Pv _ _ _ gr Y e3=>G' (DI ht rfl ?_)⟩
  let b0:rs=pk (p+1):=m.uniq ⋯ gr.low gr.nz ⋯ (by
   refine (MX e3).symm.trans ?_;rw [Jn e2,Sr.pow_s];let c1:=m.cg 1 ∅;rw [show sr P ^ 1=sr P by grind] at c1;exact Sr.Cg.mul (Ee _) ((Ee P).pow p) (m.cg p ⋯) c1)
  rw [b0] at Pv;let F:=s2.trans s3;let ab:=F _ _ C;refine ⟨G,xs,.ref v,rfl,rfl,ab,by rw [lx];exact B2 (show p+1<1000 by omega) (sz ∅),?_⟩;let ⟨zv,b1,nv⟩:=Pv;let Z:=Tp.updL (ys:=xs++[V.ref v]) ab;refine ⟨i+1 - (p+1+1),⋯,xs++[.ref v],p+1+1,rfl,λc o h=>Kp.upd c o (As h p0) (F c o (s1 c o h)),upd_same,?_,⋯,⋯,rfl,Z _ _ (F _ _ R),(S.tp (D_ F)).tp Z,⟨zr,Z _ _ (F _ _ a6),(a7.tp (D_ F)).tp Z⟩⟩;rw [IP];exact ((I.tp (D_ F)).tp Z).snoc (Z _ _ b1) (nv.tp Z)
 ·let c:=pH (Bool.eq_false_iff.mpr c);let nm:i<n:=by omega
  show RX K D [↥a,↥b,↥r,↥G,some (.int (i:Int)),↥td] H1;refine Ab (Al (show S_ _ _ _ _ _ _ _ from ⟨_,rfl,_,rfl,_,rfl,G,xs,rfl,C,λz hz=>?_⟩));rw [Gv ⋯];let b2:=AM hz (.lst (xs.take i));let b3:upd H1 z (.lst (xs.take i)) z=some (HO.lst (xs.take i)):=upd_same;generalize upd H1 z (.lst (xs.take i))=H2 at *;refine Al (show A6 AC _ _ _ from ⟨AX _,λy hy=>?_⟩);let sy:=AM hy (.tup []);let b4:upd H2 y (.tup []) y=some (HO.tup []):=upd_same;let s3:=b2.trans sy;let b5:=sy _ _ b3;generalize upd H2 y (.tup [])=H3 at *;let P3:=I.tp (D_ s3);let ⟨v,hv⟩:∃ v,xs[i]?=some v:=⟨_,AT ⋯⟩;let ⟨c1,T,rfl,U,J,_⟩:=P3.get hv;rw [FM pk nm] at J;let gm:=m.g i ⋯;let lm:=m.l i ⋯;let ⟨M,O,bM,bt⟩:=gm.ov;refine AW (AD rfl (AD rfl (B7 (s3 _ _ C) (Ca rfl hv) ⟨y,c1,[],T,[],pk i,M,_,_,rfl,b4,U,trivial,J,(λq hq=>nomatch hq),gm.low,⟨O.1,(λq hq=>nomatch hq)⟩,O,bM,(λz hz=>nomatch hz),bt,⋯,⋯,∅,⋯,λr4 R4 H4 s4 P4 G4 l4 e4=>?_⟩)))
  let l4:↑R4<=(pk i).length:=by
   have:max ([]:cF).length (pk i).length=(pk i).length:=Nat.max_eq_right (AX _);rw [this] at l4;exact l4
  let aj:sr R4 = - sr (pk i):=Sr.ext' λk=>by
   show C_ R4 k = - C_ (pk i) k;rw [e4 k,Db (AX _)];ext
  let ⟨z4,h4,n4⟩:=P4;let b6:=s3.trans s4;let Pt:=(P3.tp (D_ s4)).take i;rw [tO pk ⋯] at Pt;let Y:((List.range i).map pk).length=i:=by rw [AI,Au]
  let al:∀ (A:Addr) (N:Nat) (L:Hp),Same H4 L->N<d+1 - i->LsT pk d L A (i+1) N->RW K D [↥a,↥b,↥r,↥G,some (.int (i:Int)),↥A] L:=λA N L s5 b7 hl=>by
   let t5:=b6.trans s5;refine (show Dh _ _ _ _ _ _ from ⟨_,rfl,_,_,rfl,rfl,?_⟩);exact k A xs n N L (s1.trans t5) (t5 _ _ C) (I.tp (D_ t5)) n1 n8 b7 hl (t5 _ _ R) (S.tp (D_ t5)) (a4.same t5)
  refine ⟨z,r4,xs.take i,z4,(List.range i).map pk,R4,rfl,s4 _ _ b5,Pt,h4,n4,by rw [Y];omega,by rw [Y];exact m1,⋯,λj hj=>?_,by rw [Y];exact G4.mono ⋯ ⋯,λr5 x f zs gs X L s5 a0 hx hX lX oX eX=>?_,λr5 x L s5 a0 no=>?_⟩
  ·rw [Y] at hj;rw [FM pk hj];have:=m.l j ⋯;exact ⟨⋯,(m.g j ⋯).mono ⋯ (AV _)⟩
  ·rw [Y] at lX
   let an:sq X (λj=>sr (pk j)) = - sr (pk i):=by
    rw [<-aj,<-eX];unfold sq;exact AU _ λj hj=>by show Sr.num (vl X j)*sr (pk j)=Sr.num (vl X j)*sr (((List.range i).map pk).getD j []);rw [FM pk ⋯]
   let dm:Dp pk i:=⟨λt=>- vl X t,by
    have:sr (pk i) = - sq X (λj=>sr (pk j)):=by rw [an];ext
    rw [this];unfold sq
    rw [lX,AU (f:=λt=>Sr.num (- vl X t)*sr (pk t)) (g:=λt=>Sr.num (-1)*(Sr.num (vl X t)*sr (pk t))) i λt _=>by
     have:Sr.num (-1)*(Sr.num (vl X t)*sr (pk t))=(Sr.num (-1)*Sr.num (vl X t))*sr (pk t):=by ext
     rw [this,Sr.num_num];congr 2;ext,BK]
    have:Sr.num (-1) = - (1:Sr):=by rw [<-Sr.num_one];exact Sr.num_neg _
    rw [this];ext⟩
   let ed:i=d:=EQ md (Classical.byContradiction λz=>min i ⋯ dm);refine al r5 0 L s5 ⋯ (.inr ⟨⟨x,f,zs,X,a0,hx,hX,⋯,oX,by rw [<-ed];exact an⟩,rfl⟩)
  ·let nd:i≠d:=λz=>by
    let ⟨zz,hz⟩:=D0;rw [<-z] at hz;refine no (λt=>- zz t) ?_
    rw [Y,aj,hz,AU (g:=λt=>Sr.num (-1)*(Sr.num (zz t)*sr (pk t))) i λt ht=>by
     rw [FM pk ht];have:Sr.num (-1)*(Sr.num (zz t)*sr (pk t))=(Sr.num (-1)*Sr.num (zz t))*sr (pk t):=by ext
     rw [this,Sr.num_num];congr 2;ext,BK]
    have:Sr.num (-1) = - (1:Sr):=by rw [<-Sr.num_one];exact Sr.num_neg _
    rw [this];ext
   exact al r5 (d+1 - (i+1)) L s5 ⋯ (.inl ⟨⟨_,a0⟩,⋯,⋯,rfl⟩)
def tT (h:Lg K vs H Q E):Zd K (eA Q) (L2.start ["P","W","rest","powers","many","told"] vs) H:=by
 let ⟨a,b,xs,ys,P,W,w,B,rfl,ha,hb,hP,hW,g,k⟩:=h;let w7:=g.w7;let lW:=g.lW;let l1:=g.l 1 ∅;let g1:Gq 98 85 (B 1):=g.g 1 ∅;let ⟨d,dw,D0,min⟩:=Td w (uQ (pk:=B) (w:=w) λj hj=>GX (g.l j ⋯));refine Ab (AW (Al (AD rfl (AD rfl (Tj g ha hb hP hW λt u r H1 s1 ht Pv=>G' (DI ht rfl ?_))))));refine Ab (DH (K2 (DG (G' (G' ⟨CH,λo ho=>⟨Cb,λi a6=>⟨Cb,λp hp=>?_⟩⟩⟩)))));let so:=AM ho (.tup [.int 1,.int 1]);let G:=AM a6 (.tup [.ref o]);let sp:=AM hp (.lst [.ref i]);let s2:=(so.trans G).trans sp;let a7:upd (upd (upd H1 o (.tup [.int 1,.int 1])) i (.tup [.ref o])) p (.lst [.ref i]) p=some (HO.lst [V.ref i]):=upd_same;let ab:upd (upd (upd H1 o (.tup [.int 1,.int 1])) i (.tup [.ref o])) p (.lst [.ref i]) i=some (HO.tup [V.ref o]):=sp _ _ upd_same;let aj:upd (upd (upd H1 o (.tup [.int 1,.int 1])) i (.tup [.ref o])) p (.lst [.ref i]) o=some (HO.tup [V.int 1,V.int 1]):=sp _ _ (G _ _ upd_same);let p0:H p=none:=s1.free ((so.trans G).free hp);generalize upd (upd (upd H1 o (.tup [.int 1,.int 1])) i (.tup [.ref o])) p (.lst [.ref i])=H2 at *;let P2:PLs H2 [.ref i] ((List.range 1).map B):=⟨⟨i,[.ref o],rfl,ab,by rw [g.z];exact Nums.one (MC aj)⟩,trivial⟩;let I:=s1.trans s2;let ⟨zr,L,M⟩:=Pv.same s2;let OR:=DF g1.low;let OW:=DF g.gW.low;let ⟨cR,bR,tR⟩:=g1.clr;let ⟨cW,bW,tW⟩:=g.gW.clr;refine Ab (Al (AW (CL (AD rfl (bh L ⟨B 1,M,g1.low,Ag (B 1),OR,bR.mono ∅,λq J=>(tR q J).mono ∅,⋯,λr3 a3 H3 s3 al an=>G' (DI al rfl ?_)⟩)))));refine AW (CL (AD rfl (bh (s3 _ _ (I _ _ hb)) ⟨W,hW.tp (D_ (I.trans s3)),g.gW.low,Ag W,OW,bW.mono ∅,λq J=>(tW q J).mono ∅,⋯,λr4 a4 H4 s4 ap b0=>G' (DI ap rfl ?_)⟩)));let b1:=s3.trans s4;refine ⟨a3,a4,AY (B 1),AY W,w,rfl,s4 _ _ an,b0,by rw [Jj];omega,by rw [Jj];exact lW,g.w1,⋯,λz N=>(cR z N).mono ∅,λz N=>(cW z N).mono ∅,by rw [tQ lW g.top];exact OW.1,λm0 H5 s5 m1 b2=>?_⟩;let ⟨zz,b3⟩:=g.cg_row ⋯ D0;let md:=b2 d zz b3;let b4:=b1.trans s5;refine Ab (K2 (G' ⟨Cb,λF b5=>?_⟩));let b6:=AM b5 (.tup [.str "none"]);let O:upd H5 F (.tup [.str "none"]) F=some (HO.tup [V.str "none"]):=upd_same;let v:=b4.trans b6;generalize upd H5 F (.tup [.str "none"])=H6 at *;let s6:=I.trans v
 refine F4 (DE (λmm σ C=>∃ (xs:cJ) (n m:Nat) (F:Addr),σ=[↥a,↥b,↥r,↥p,some (.int (m:Int)),↥F]/\Same H C/\C p=some (.lst xs)/\PLs C xs ((List.range n).map B)/\1<=n/\n<=8/\LsT B d C F m mm/\C b=some (.tup ys)/\Nums C ys W/\Pl C r (B 1)) (d+1 - m0)
  ⟨[.ref i],1,m0,F,rfl,s6,v _ _ a7,P2.tp (D_ v),∅,∅,.inl ⟨⟨_,O⟩,m1,md,rfl⟩,s6 _ _ hb,hW.tp (D_ s6),⟨zr,v _ _ L,M.tp (D_ v)⟩⟩ ?_)
 rintro mm σ H7 ⟨cb,n,m,F,rfl,s7,b7,P7,n1,n8,hl,b9,ba,bb⟩;rcases hl with ⟨⟨us,D⟩,q1,q2,rfl⟩ | ⟨⟨x,f,A,X,D,hx,hX,lX,oX,eX⟩,rfl⟩
 ·refine Bz (AW (CG rfl D (Ca (j:=0) rfl rfl) (G' ⟨rfl,_,rfl,Aj (λ_=>⟨_,λ_ _ h=>h,?_⟩) (λc=>absurd (pC rfl) c)⟩)));refine tS g b9 ba bb b7 P7 n1 n8 q1 q2 dw D0 min p0 s7 λbc bd n' be H8 s8 bf P8 bg bk bl bm bp bq bs=>⟨be,bl,bd,n',m+1,bc,rfl,s8,bf,P8,bg,bk,bm,bp,bq,bs⟩
 ·refine Bz (AW (CG rfl D rfl (G' ⟨rfl,_,rfl,Aj (λc=>?_) (λ_=>?_)⟩)))
  ·exfalso;let c:V.str "told" = V.str "none" := pE c;injection c with c;exact absurd c ∅
  refine Bb (CL (AW (Bg (CG rfl D rfl ⟨x,A,rfl,hx,λy hy=>?_⟩))));let sy:=AM hy (.lst A);let bt:upd H7 y (.lst A) y=some (HO.lst A):=upd_same;generalize upd H7 y (.lst A)=H8 at *;refine DH (DG (G' (G' ⟨CH,λe bw=>⟨Cb,λz N=>?_⟩⟩)));let bz:=AM bw (.tup [.int 1,.int 1]);let R:=AM N (.lst [.ref e]);let c0:upd (upd H8 e (.tup [.int 1,.int 1])) z (.lst [.ref e]) e=some (HO.tup [V.int 1,V.int 1]):=R _ _ upd_same;let c1:upd (upd H8 e (.tup [.int 1,.int 1])) z (.lst [.ref e]) z=some (HO.lst [V.ref e]):=upd_same;let S:=bz.trans R;generalize upd (upd H8 e (.tup [.int 1,.int 1])) z (.lst [.ref e])=H9 at *;let lz:=↑hX;refine ⟨y,z,A,[.ref e],rfl,rfl,S _ _ bt,c1,sz (by rw [D9];omega),λy2 c2=>?_⟩;let T:=AM c2 (.lst (A++[V.ref e]));let U:upd H9 y2 (.lst (A++[V.ref e])) y2=some (HO.lst (A++[V.ref e])):=upd_same;let Y:=(sy.trans S).trans T;let Z:=T _ _ c0;generalize upd H9 y2 (.lst (A++[V.ref e]))=cc at *;let c3:(X++[((1,1):Nu)]).length=d+1:=by rw [B3,lX];rfl
  let c4:Nz (X++[((1,1):Nu)]):=λq J=>by
   rw [List.getLast?_append] at J;cases J;decide
  let d1:1<=d:=by
   rcases FO d with z | z
   ·omega
   ·exact z
  let c5:NuOk 250000 (X++[((1,1):Nu)]):=oX.snoc ⟨⟨∅,∅⟩,(ae ∅:Bd 1 1).mono ∅,(ae ∅:Bd 1 1).mono ∅⟩;refine ⟨y2,A++[.ref e],X++[(1,1)],rfl,U,(hX.tp (D_ Y)).append (Nums.one (MC Z)),⋯,λc6 c7 c9 ca a0 a5=>?_⟩;rw [YF c4] at a5;refine k c6 (X++[(1,1)]) d c9 (s7.trans (Y.trans ca)) ⟨c7,a0,a5⟩ c5 c3 d1 dw ?_ ?_ min
  ·unfold AG;rw [AJ,De ⋯,lX,EV];rfl
  ·rw [tP,eX,lX]
   have:Sr.num (val (1,1))=1:=by
    rw [show val (1,1)=1 from (IO 0).trans rfl,Sr.num_one]
   rw [this];ext
def ForJ.zipW {K:W.Frag} {g:TG} {j:TS} {D:Ends} {c:L2.St} {H:Hp} {a b:Addr} {xs ys:cJ} (k:↑xs<=↑ys) (Pv:Nat->L2.St->Hp->Prop) (n:Pv 0 c H) (o:∀ i c H,i<=↑xs->Pv i c H->H a=some (.tup xs)/\H b=some (.lst ys))
  (r:∀ i x y p c H,xs[i]?=some x->ys[i]?=some y->Pv i c H->H p=none->g (.ref p) c (upd H p (.tup [x,y])) λf u=>j { D with nx:=Pv (i+1),ct:=Pv (i+1),bk:=D.nx } f u) (v:∀ c H,Pv ↑xs c H->D.nx c H):ForJ (aM K a b) g j D c H:=by
 refine ⟨λi m c H=>m=↑xs - i/\i<=↑xs/\Pv i c H,⟨↑xs,by simp,AX _,n⟩,?_⟩;rintro i m c H ⟨rfl,w,pv⟩;let ⟨z,d⟩:=o i c H w pv;let q:SqT K H a xs:=SqT.of z;let d:SqL K H b ys:=SqL.of d;by_cases h:i<↑xs
 ·refine .inr ⟨⟨xs,ys,xs[i],ys[i],q,d,by simp [h],by simp [B2 h k]⟩,Pv (i+1),λA B C=>⟨↑xs - (i+1),⋯,rfl,h,C⟩,λx B y=>?_⟩;let ⟨p,F,G,hp,rfl,rfl,I,J⟩:=y;exact r i F G p c _ (I xs q) (J ys d) pv hp
 ·let e:i=↑xs:=by omega
  subst e;exact .inl ⟨⟨xs,ys,q,d,AV _⟩,v c H pv⟩
def tU {K:W.Frag} {e:TA} {g:TG} {f rest:TS} {D:Ends} {c:L2.St} {H:Hp} (h:e c H (λvs d=>∃ a b,vs=[.ref a,.ref b]/\(∃ i,SqT K d a i)/\(∃ j,SqL K d b j)/\ForJ (aM K a b) g f { D with nx:=rest D } c d)):AH (Ay (KT K e) g f) rest D c H:=h
def Tk {K:W.Frag} {H:Hp} {Q:VK} {E:XK} {p q:Addr} {xs ys:cJ} {P W l:cF} {w k b c:Nat} {pk:Nat->cF} (a:Pws P W w pk) (hp:H p=some (.tup xs)) (e:H q=some (.tup ys)) (f:Nums H xs l) (g:Nums H ys W) (i:Gq b c l) (j:b<=3000) (m:c<=3000) (ll:↑l<=20) (d:k<=7) (n:Sr.Cg (sr W) (sr l) (sr P ^ k)) (h:GH H Q (pk k)):IB K [.ref p,.ref q] H Q E:=by
 exact ⟨p,q,xs,ys,l,W,pk k,w,b,c,rfl,hp,e,f,g,i,a.gW,a.lW,a.top,ll,a.w7,j,m,(a.g k d).low,(a.g k d).nz,a.l k d,n.trans (a.cg k d).symm,h⟩
def tV (h:Je K vs H Q E):Zy K (eA Q) (L2.start ["_law_kp","_law_kw","_law_many","_law_rungs"] vs) H:=by
 let ⟨a,b,xs,ys,P,W,w,n,p,rfl,ha,T,hP,U,f,n8,k⟩:=h;let w7:=f.w7;let lP:=f.lP;refine Ab (DH (Al (K2 (DG (G' (G' ⟨CH,λo ho=>⟨Cb,λt ht=>AD rfl ?_⟩⟩))))));let so:=AM ho (.tup [.int 1,.int 1]);let Y:=AM ht (.tup [.ref o]);let y:=so.trans Y;let A:upd (upd H o (.tup [.int 1,.int 1])) t (.tup [.ref o]) t=some (HO.tup [V.ref o]):=upd_same;let B:upd (upd H o (.tup [.int 1,.int 1])) t (.tup [.ref o]) o=some (HO.tup [V.int 1,V.int 1]):=Y _ _ upd_same;generalize upd (upd H o (.tup [.int 1,.int 1])) t (.tup [.ref o])=H1 at *;refine Tk (k:=0) f A (y _ _ T) (Nums.one (MC B)) (U.tp (D_ y)) TZ ∅ ∅ ∅ ∅ (Sr.Cg.of (by rw [Sr.pow_z,TY])) λr zs C Z hr hz=>⟨Cb,λX hX=>?_⟩;let D:=AM hX (.lst [.ref r]);let F:upd C X (.lst [.ref r]) X=some (HO.lst [V.ref r]):=upd_same;let s3:=(y.trans Z).trans D;let X0:H X=none:=(y.trans Z).free hX;let P3:PLs (upd C X (.lst [.ref r])) [.ref r] ((List.range 1).map p):=⟨⟨r,zs,rfl,D _ _ hr,hz.tp (D_ D)⟩,trivial⟩;generalize upd C X (.lst [.ref r])=H3 at *;refine F4 (DE (λmm σ m=>∃ (d:cJ) (j:Nat),σ=[↥a,↥b,some (.int (n:Int)),↥X]/\Same H m/\m X=some (.lst d)/\PLs m d ((List.range j).map p)/\1<=j/\j<=max n 1/\mm=n - j) (n - 1) ⟨[.ref r],1,rfl,s3,F,P3,AV _,Nat.le_max_right ..,rfl⟩ ?_);rintro mm σ H4 ⟨d,j,rfl,g,e,z,j1,jn,rfl⟩;let lu:=↑z;rw [AI,Au] at lu;refine Bz (AW (Bg (AD rfl ⟨X,d,rfl,e,AD rfl ⟨_,_,rfl,rfl,_,rfl,Aj (λc=>?_) (λc=>?_)⟩⟩)))
 ·let c:=pE c;let a0:j<n:=by omega
  refine ⟨_,λ_ _ h=>h,?_⟩;let ⟨i,rfl⟩:∃ i,j=i+1:=⟨j - 1,⋯⟩;let ⟨v,hv⟩:∃ v,d[↑d - 1]?=some v:=⟨_,AT ⋯⟩;let q:=hv;rw [show ↑d - 1=i by omega] at q;let ⟨c1,G,rfl,I,u,_⟩:=z.get q;rw [FM p (Ch i)] at u;let gi:=(f.g i ⋯).mono (b':=700) (c':=700) ⋯ ⋯;let li:=f.l i ⋯;refine (show EF _ _ _ _ from ⟨_,rfl,Gj e,Al (Al (AW (AD rfl ⟨_,rfl,B7 e (G8 ⋯ hv) (AD rfl ⟨c1,a,G,xs,p i,P,700,700,rfl,I,g _ _ ha,u,hP.tp (D_ g),gi,f.gP.mono ∅ ∅,∅,∅,⋯,⋯,λr5 z5 L5 H5 J h5 n5 L M e5 G5=>AD rfl ?_⟩)⟩)))⟩)
  let N:↑L5<=20:=by
   have:=MP L M (by rw [e5];exact TW (Dl (p i)) (Dl P));omega
  refine Tk (k:=i+1) f h5 ((g.trans J) _ _ T) n5 (U.tp (D_ (g.trans J))) G5 ⋯ ∅ N ⋯ ?_ λO z6 H6 s6 h6 n6=>?_
  ·rw [e5,Sr.pow_s];exact Sr.Cg.mul (Ee _) ((Ee P).pow i) (f.cg i ⋯) (Sr.Cg.of rfl)
  let R:=J.trans s6;let x:=R _ _ e;refine ⟨X,d,.ref O,rfl,rfl,x,by rw [lu];exact B2 (show i+1<1000 by omega) (sz ∅),?_⟩;let S:=Tp.updL (ys:=d++[V.ref O]) x;refine ⟨n - (i+1+1),⋯,d++[.ref O],i+1+1,rfl,λc o h=>Kp.upd c o (As h X0) (R c o (g c o h)),upd_same,?_,⋯,by have:=Nat.le_max_left n 1;omega,rfl⟩;rw [IP];exact ((z.tp (D_ R)).tp S).snoc (S _ _ h6) (n6.tp S)
 ·let c:=pH (Bool.eq_false_iff.mpr c)
  let ej:j=max n 1:=by
   rcases Nat.le_total n 1 with h | h
   ·rw [Nat.max_eq_right h] at *;omega
   ·rw [Nat.max_eq_left h] at *;omega
  refine ⟨_,rfl,k X d H4 g e ?_⟩;rw [<-ej];exact z
structure Tot (m:cF) (pk:Nat->cF) (w i j:Nat) (tot:cF):Prop where
 len:↑tot=w+1
 nb:∀ k,k<w+1->Nb (260000*(if k<j then i+1 else i)+1) (AG tot k)
 v:∀ k,k<w+1->val (AG tot k)=su (if k<j then i+1 else i) λt=>vl m t*(sr (pk t)).c k
def Tot.set {m a:cF} {pk:Nat->cF} {w i j:Nat} (h:Tot m pk w i j a) (e:j<w+1) {q r:Nu} (f:Nb 250000 q) (g:Nb 700 r) (v:vl m i=val q) (x:(sr (pk i)).c j=val r):Tot m pk w i (j+1) (a.set j (I_ (AG a j) (C' q r))):=by
 let y:j<↑a:=by have:=h.len;omega
 let n:AG (a.set j (I_ (AG a j) (C' q r))) j=I_ (AG a j) (C' q r):=by
  unfold AG;rw [AJ,Fq y];rfl
 let o:∀ k,k≠j->AG (a.set j (I_ (AG a j) (C' q r))) k=AG a k:=λk hk=>by
  unfold AG;rw [AJ,Fr (λz=>hk z.symm),<-AJ]
 let b:=h.nb j e;let p:=h.v j e;rw [qZ (C5 j)] at b p;let u:=IN f g;refine ⟨by rw [C7];exact h.len,λk hk=>?_,λk hk=>?_⟩
 ·by_cases c:k=j
  ·rw [c,n,pB (Ch j)];exact (vF b u).mono ⋯
  ·rw [o k c];have:=h.nb k hk;by_cases d:k<j
   ·rw [pB d] at this;rw [pB ⋯];exact this
   ·rw [qZ d] at this;rw [qZ ⋯];exact this
 ·by_cases c:k=j
  ·rw [c,n,pB (Ch j),JD b.1.pos u.1.pos,Kk f.1.pos g.1.pos,p];show _=su i _+vl m i*(sr (pk i)).c j;rw [v,x]
  ·rw [o k c];have:=h.v k hk;by_cases d:k<j
   ·rw [pB d] at this;rw [pB ⋯];exact this
   ·rw [qZ d] at this;rw [qZ ⋯];exact this
def Tot.next {m a:cF} {pk:Nat->cF} {w i:Nat} (h:Tot m pk w i (pk i).length a):Tot m pk w (i+1) 0 a:=by
 refine ⟨h.len,λk hk=>?_,λk hk=>?_⟩
 ·rw [qZ (BD k)];refine (h.nb k hk).mono ?_;split <;> omega
 ·rw [qZ (BD k),h.v k hk];by_cases c:k<(pk i).length
  ·rw [pB c]
  ·rw [qZ c];show _=su i _+vl m i*(sr (pk i)).c k;rw [Dl (pk i) k ⋯];ext
def tX {b c:TE} {a:L2.St} {H:Hp} {Q:cJ->Hp->Prop} (h:b a H λx d=>c a d λy e=>Q [x,y] e):AB b (AB c AC) a H Q:=h
def tY (h:Jf K vs H Q E):Z1 K (eA Q) (L2.start ["_law_m","_law_kp","_law_kw","_law_total","_law_number","_law_rung","_law_k"] vs) H:=by
 let ⟨a,b,c,xs,ys,zs,m,P,W,w,f,rfl,ha,hb,hc,hm,hP,hW,om,m8,T,k⟩:=h;let w7:=T.w7;let lW:=T.lW;let lx:=↑hm;let lz:=↑hW;refine Ab (AW (DH (DG (G' (G' ⟨CH,λo ho=>⟨Cb,λl hl=>?_⟩⟩)))));let so:=AM ho (.tup [.int 0,.int 1]);let sl:=AM hl (.lst [.ref o]);let a0:upd (upd H o (.tup [.int 0,.int 1])) l (.lst [.ref o]) o=some (HO.tup [V.int 0,V.int 1]):=sl _ _ upd_same;let ap:upd (upd H o (.tup [.int 0,.int 1])) l (.lst [.ref o]) l=some (HO.lst [V.ref o]):=upd_same;let s1:=so.trans sl;generalize upd (upd H o (.tup [.int 0,.int 1])) l (.lst [.ref o])=H1 at *;refine Bg (AD rfl ⟨c,zs,rfl,s1 _ _ hc,l,_,[.ref o],rfl,rfl,ap,⋯,⋯,sz (by rw [D9];omega),λX hX=>?_⟩);rw [CB,Er,show ↑zs=w+1 by omega];let sX:=AM hX (.lst (List.replicate (w+1) (V.ref o)));let M:upd H1 X (.lst (List.replicate (w+1) (V.ref o))) X=some (HO.lst (List.replicate (w+1) (V.ref o))):=upd_same;let X0:H X=none:=s1.free hX;let U:=s1.trans sX;let N2:Nums (upd H1 X (.lst (List.replicate (w+1) (V.ref o)))) (List.replicate (w+1) (V.ref o)) (List.replicate (w+1) (0,1)):=Nums.rep ⟨o,rfl,sX _ _ a0⟩ _;generalize upd H1 X (.lst (List.replicate (w+1) (V.ref o)))=H2 at *;refine tU (tX (AD rfl (DS (AD rfl (AD rfl (Bg (AD rfl ⟨a,xs,rfl,U _ _ ha,b,c,ys,zs,P,W,w,↑m,f,by rw [lx],U _ _ hb,U _ _ hc,hP.tp (D_ U),hW.tp (D_ U),T,m8,λY us H3 Z hY PY=>?_⟩)))))));let lu:=↑PY;rw [AI,Au] at lu
 let gz:∀ n j:Nat,AG (List.replicate n ((0,1):Nu)) j=(0,1):=λn j=>by
  unfold AG;rw [AJ,Do];split <;> rfl
 let t3:=U.trans Z
 let XY:X≠Y:=λz=>by
  let h1:=Z _ _ M;rw [z,hY] at h1;injection h1 with h1;injection h1 with h1;let ⟨v,G⟩:∃ v,us[0]?=some v:=⟨_,AT (by have:=Nat.le_max_right ↑m 1;omega)⟩;let ⟨c1,bf,rfl,A,a3,_⟩:=PY.get G;rw [h1,Do] at G;rw [pB (Nat.succ_pos w)] at G;cases G;rw [Z _ _ (sX _ _ a0)] at A;injection A with A;injection A with A;rw [<-A] at a3;let ⟨q,N,p,e,_⟩:=a3.get (i:=0) rfl;cases e
 refine ⟨a,Y,rfl,⟨_,SqT.of (t3 _ _ ha)⟩,⟨_,SqL.of hY⟩,ForJ.zipW (xs:=xs) (ys:=us) (by have:=Nat.le_max_left ↑m 1;omega) (λi I B=>i<=↑xs/\∃ (u1 u2 J:cK) (g:cJ) (d:cF),I=[↥a,↥b,↥c,↥X,u1,u2,J]/\Kp X H3 B/\B X=some (.lst g)/\Nums B g d/\Tot m f w i 0 d)
  ⟨AX _,none,none,none,_,_,rfl,λ_ _ _ h=>h,Z _ _ M,N2.tp (D_ Z),FN ..,λk _=>?_,λk _=>?_⟩ ?_ ?_ ?_⟩
 ·rw [gz];exact ⟨⟨∅,∅⟩,(ae ∅:Bd 1 0).mono ⋯,(ae ∅:Bd 1 1).mono ⋯⟩
 ·rw [gz,qZ (BD k)];show val (0,1)=0;unfold val;show ((0:Int):Rat) / ((1:Int):Rat)=0;ext
 ·rintro i I B _ ⟨_,u1,u2,J,g,d,rfl,kp,_⟩;exact ⟨kp _ _ (As ha X0) (t3 _ _ ha),kp _ _ XY.symm hY⟩
 ·rintro i x y p I H4 hx hy ⟨_,u1,u2,J,g,d,rfl,kp,O,nt,T4⟩ hp;let hi:i<↑xs:=(Ax.mp hx).1;let sp:=AM hp (.tup [x,y]);let R:Tp H3 H4:=λc' bg h'=>kp c' _ (λz=>by rw [z] at h';rw [Z _ _ M] at h';cases h') h';let ⟨q,N,px,rfl,b0⟩:=(hm.tp (D_ t3)).get hx;let ⟨py,zy,rfl,b1,ny,a4⟩:=PY.get hy;rw [FM f (by rw [AI,Au] at a4;exact a4)] at ny;let a5:=R _ _ b0;let a6:=R _ _ b1;let b2:=ny.tp R;let qm:=A5 N;let nq:Nb 250000 q:=om.at qm;let vq:=(S9 N).1;let gi:=T.g i ⋯;let li:=T.l i ⋯;refine ⟨p,_,rfl,upd_same,rfl,_,_,rfl,_,_,rfl,rfl,?_⟩;let b3:=sp _ _ O;let b4:=nt.tp (D_ sp);let b5:Kp X H3 (upd H4 p (.tup [.ref px,.ref py])):=λb o n h=>sp b o (kp b o n h);let a7:=sp _ _ a5;let L:=sp _ _ a6;let b6:=b2.tp (D_ sp);generalize upd H4 p (.tup [.ref px,.ref py])=H5 at *;let b7:=↑ny;refine (show Ay _ _ _ _ _ _ from ⟨_,rfl,_,_,rfl,L,(↑zy:Int),rfl,⋯,⋯,?_⟩);rw [CB,b7];refine ForR.by (λj I B=>∃ (J:cK) (g:cJ) (d:cF),I=[↥a,↥b,↥c,↥X,↥px,↥py,J]/\Kp X H5 B/\Tp H5 B/\B X=some (.lst g)/\Nums B g d/\Tot m f w i j d) ⟨_,g,d,rfl,λ_ _ _ h=>h,λ_ _ h=>h,b3,b4,T4⟩ ?_ ?_
  ·rintro j I H6 hj ⟨J,g,d,rfl,S,C,F,D,T6⟩;rw [Int.zero_add];let ⟨v,G,pv,rfl,b9⟩:=(b6.tp C).at hj (0,1);let lt:=T6.len;let bk:=↑D;let ⟨u,hu,pu,rfl,ba⟩:=D.at (i:=j) ⋯ (0,1);let nj:=T6.nb j ⋯;rw [qZ (C5 j)] at nj;let ⟨g1,g2,g3,_⟩:=gi.at j;let nr:Nb 700 (AG (f i) j):=⟨g1,g2.mono ⋯,g3.mono ⋯⟩;refine (show AQ _ _ _ _ _ _ _ from Al (AW (AD rfl (AD rfl (B7 F (Ca rfl hu) (Al (AD rfl (AW (AD rfl (AD rfl (DI (C _ _ L) (Ca rfl G) (GW ⟨px,pv,q,AG (f i) j,rfl,⟨px,rfl,C _ _ a7⟩,⟨pv,rfl,b9⟩,nq.mono ∅,nr.mono ∅,λr1 bb=>?_⟩))))))))))));let ab:=AM bb (.tup [.int (C' q (AG (f i) j)).1,.int (C' q (AG (f i) j)).2]);refine GW ⟨pu,r1,AG d j,C' q (AG (f i) j),rfl,⟨pu,rfl,ab _ _ ba⟩,⟨r1,rfl,upd_same⟩,nj.mono ⋯,(IN nq nr).mono ∅,λr2 bc=>?_⟩;let bd:=AM bc (.tup [.int (I_ (AG d j) (C' q (AG (f i) j))).1,.int (I_ (AG d j) (C' q (AG (f i) j))).2]);let st:=ab.trans bd;let aj:=st _ _ F;let be:isN (upd (upd H6 r1 (.tup [.int (C' q (AG (f i) j)).1,.int (C' q (AG (f i) j)).2])) r2 (.tup [.int (I_ (AG d j) (C' q (AG (f i) j))).1,.int (I_ (AG d j) (C' q (AG (f i) j))).2])) (.ref r2) (I_ (AG d j) (C' q (AG (f i) j))):=⟨r2,rfl,upd_same⟩;generalize upd (upd H6 r1 (.tup [.int (C' q (AG (f i) j)).1,.int (C' q (AG (f i) j)).2])) r2 (.tup [.int (I_ (AG d j) (C' q (AG (f i) j))).1,.int (I_ (AG d j) (C' q (AG (f i) j))).2])=H8 at *;refine (show Cj _ _ _ _ _ _ _ from AD rfl (AD rfl ⟨X,g,_,j,rfl,rfl,aj,FJ rfl ⋯,?_⟩));let al:=Tp.updL (ys:=g.set j (V.ref r2)) aj;refine ⟨_,_,_,rfl,λb o n h=>Kp.upd b o n (st b o (S b o n h)),λb o h=>al _ _ (st _ _ (C _ _ h)),upd_same,(Nums.set be j (D.tp (D_ st))).tp al,T6.set ⋯ nq nr vq rfl⟩
  ·rintro I H6 ⟨J,g,d,rfl,S,C,F,D,T6⟩;exact ⟨hi,_,_,_,g,d,rfl,b5.trans S,F,D,T6.next⟩
 ·rintro I H4 ⟨_,u1,u2,J,g,d,rfl,kp,O,nt,T4⟩
  let an:Am d:=λq N=>by
   let ⟨j,hj,rfl⟩:=DY.mp N;have:=(T4.nb j (by have:=T4.len;omega)).1;unfold AG at this;rw [AJ,AT hj] at this;exact this
  let lt:=T4.len;refine Bb (CL (AD rfl ⟨X,g,d,rfl,O,nt,⋯,λr vs H5 s5 hr G=>k r (trim d) H5 ?_ ⟨vs,hr,G⟩ (λq N=>an q (EJ N)) (Dy _) (Sr.ext' λj=>?_)⟩))
  ·intro b o h;exact s5 _ _ (kp b o (As h X0) (t3 _ _ h))
  ·show C_ (trim d) j=_;rw [Eo an,MU,<-lx];by_cases hj:j<w+1
   ·have:=T4.v j hj;rw [qZ (BD j)] at this;exact this
   ·rw [Db ⋯];refine (Bw λt ht=>?_).symm;have:=T.l t ⋯;rw [Dl (f t) j ⋯];ext
def tZ {a:L2.St} {H:Hp} {Q:VK} {b c tc:TE} (h:b a H λx e=>c a e λy f=>tc a f λz d=>[x,y,z].length<=sizeLine/\∀ p,d p=none->Q (.ref p) (upd d p (.lst [x,y,z]))):A9 (AB b (AB c (AB tc AC))) a H Q:=h
noncomputable def l1:cL->Nat
 | []=>0
 | x::a=>x.natAbs+l1 a
theorem MY {N:Nat}:∀ {ns:cL},(∀ z∈ns,z.natAbs<=N)->l1 ns<=↑ns*N
 | [],_=>AX _
 | x::a,h=>by
   let c:=h x (D6 ..);let d:=MY (ns:=a) λz b=>h z (Dn _ b);show x.natAbs+l1 a<=(↑a+1)*N;rw [Nat.add_mul,Nat.one_mul];omega
theorem Tl {g:cY} {A:Nat} (a:∀ k,(g k).natAbs<=A):∀ (b:cL) (k:Nat),(cvL b g k).natAbs<=l1 b*A
 | [],k=>by rw [CK];exact AX _
 | x::b,k=>by
   rw [Hk];let c:(x*g k).natAbs<=x.natAbs*A:=by rw [CV];exact E3 _ (a k)
   let d:(FG (cvL b g) k).natAbs<=l1 b*A:=by
    cases k with
    | zero=>exact AX _
    | succ k=>exact Tl a b k
   show _<=(x.natAbs+l1 b)*A;rw [Nat.add_mul];exact BM (Int.natAbs_add_le _ _) (Nat.add_le_add c d)
def Jy {a b c:cL} {A B:Nat} (h:∀ k,co c k=ps a b ↑a k) (d:∀ z∈a,z.natAbs<=A) (f:l1 b<=B):∀ z∈c,z.natAbs<=B*A:=λz g=>by
 let e:si c=si b*si a:=Sr.ext' λk=>by
  let i:si b*si a=si a*si b:=by ext
  rw [i,<-Sr.pl_of (HG a),Sr.pl_mul];show ((co c k:Int):Rat)=_;rw [h k];exact MW a b k ↑a
 let em:si b*si a=⟨λk=>((cvL b (co a) k:Int):Rat)⟩:=by
  rw [MF,Sr.L_mul];exact Sr.ext' λk=>(ME (co a) b k).symm
 rw [em] at e;let ⟨k,hk,rfl⟩:=DY.mp g;let j:co c k=cvL b (co a) k:=Fk (congrFun (congrArg Sr.c e) k);let m:co c k=c[k]:=by unfold co;rw [AJ,AT hk];rfl
 rw [<-m,j];refine BM (Tl (A:=A) (λk=>?_) b k) (CI _ f);by_cases q:k<↑a
 ·unfold co;rw [AJ,AT q];exact d _ (Cn _)
 ·unfold co;rw [AJ,BH ⋯];exact AX _
def D4 {z:Int} {N:Nat} (b:Nat) (h:z.natAbs<=N) (a:N<2 ^ b):Bd b z:=Eh h a
def bi (e:Hp) (p a:Addr) (n:Int) (Q:VK):Prop:=∀ (t u v:Addr) (c d:cJ) (P W:cF) (w:Nat) (b:Hp),b t=some (.tup [.ref u,.ref v])->b u=some (.tup c)->Nums b c P->b v=some (.tup d)->Nums b d W->Gq 12 12 P->↑P<=7->Gq 12 12 W->↑W=w+1->1<=w->w<=7->AG W w=(1,1)->Hand b p a (n+1000)->Kp p e b->Q (.ref t) b
def MZ {H a:Hp} {s v:Addr} {ys:cJ} {w:Nat} (c:↑ys=w+1) (d:H v=some (.tup ys)) (h:(a=H/\s=v/\Be ys none (some (-1))=ys)\/(H s=none/\a=upd H s (.tup (Be ys none (some (-1)))))):Same H a/\a s=some (.tup (ys.take w)):=by
 rw [Sz c] at h;rcases h with ⟨b,e,f⟩ | ⟨g,b⟩
 ·subst b e;exact ⟨Same.refl _,by rw [f];exact d⟩
 ·subst b;exact ⟨AM g _,upd_same⟩
section
variable {K:W.Frag} {Q:VK} {H0:Hp} {p a:Addr} {n:Int}
def Ma (k:bi H0 p a n Q) {H:Hp} {u v:Addr} {xs ys:cJ} {P W:cF} {w:Nat} {r c:cK} {m:Int} (d:H u=some (.tup xs)) (e:Nums H xs P) (f:H v=some (.tup ys)) (g:Nums H ys W) (h:Gq 12 12 P) (i:↑P<=7) (j:Gq 12 12 W) (o:↑W=w+1) (q:1<=w) (x:w<=7) (top:AG W w=(1,1)) (y:Hand H p a m) (z:m<=n+1000) (kp:Kp p H0 H) :
  R9 K { nx:=λ_ A=>Q .non A,rt:=Q } [↥p,r,↥v,↥u,c] H:=by
 refine Bb (DG (AD rfl (AD rfl ⟨CH,λt B=>?_⟩)));let b:=AM B (.tup [.ref u,.ref v]);exact k t u v xs ys P W w _ upd_same (b _ _ d) (e.tp (D_ b)) (b _ _ f) (g.tp (D_ b)) h i j o q x top ((y.mono z).same b) (kp.same b)
def Tm (k:bi H0 p a n Q) {H:Hp} {u v:Addr} {xs ys:cJ} {P W:cF} {w:Nat} {r:cK} {m Y:Int} (N:H u=some (.tup xs)) (R:Nums H xs P) (d:H v=some (.tup ys)) (e:Nums H ys W) (S:Gq 12 12 P) (T:↑P<=7) (f:Gq 12 12 W) (h:↑W=w+1) (i:1<=w) (j:w<=7) (top:AG W w=(1,1)) (o:Hand H p a m) (x:m<=n+1000) (kp:Kp p H0 H) :
  SA K { nx:=λ_ Z=>Q .non Z,rt:=Q } [↥p,r,↥v,↥u,some (.int Y)] H:=by
 let y:↑ys=w+1:=by rw [↑e];exact h
 refine D1 (Bz (AW (AD rfl (G' ⟨rfl,_,rfl,Aj (λ_=>?_) (λ_=>?_)⟩))))
 ·refine Gx (show ak _ _ _ _ _ _ from Bz (AW (CL (Bg (show S_ _ _ _ _ _ _ _ from ⟨_,rfl,_,rfl,_,rfl,v,ys,rfl,d,λs1 U A=>?_⟩)))));let ⟨e1,h1⟩:=MZ y d A;refine ⟨s1,_,rfl,h1,λl1 B=>?_⟩;let sl:=AM B (.lst (ys.take w));let X:=e1.trans sl;let C:upd U l1 (.lst (ys.take w)) l1=some (HO.lst (ys.take w)):=upd_same;generalize upd U l1 (.lst (ys.take w))=H2 at *;let nt:=(e.tp (D_ X)).take w;refine ⟨l1,ys.take w,W.take w,rfl,C,nt,by rw [BC];omega,λr3 z3 H3 s3 h3 n3=>?_⟩;let D:=X.trans s3;refine (show S_ _ _ _ _ _ _ _ from ⟨_,rfl,_,rfl,_,rfl,v,ys,rfl,D _ _ d,λs4 H4 F=>?_⟩);let ⟨G,h4⟩:=MZ y (D _ _ d) F;let b:=D.trans G;refine eqP (G _ _ h3) (n3.tp (D_ G)) h4 ((e.tp (D_ b)).take w) (decide (trim (W.take w)=W.take w)) decide_eq_true_iff ⟨_,rfl,Aj (λc=>?_) (λ_=>?_)⟩
  ·let c:=pE c;let nz:Nz (W.take w):=c ▸ Dy (W.take w);refine (show S_ _ _ _ _ _ _ _ from ⟨_,rfl,_,rfl,_,rfl,v,ys,rfl,b _ _ d,λs5 H5 I=>?_⟩);let ⟨e5,h5⟩:=MZ y (b _ _ d) I;let g:=b.trans e5;let ⟨M,O,bM,bt⟩:=f.ov
   let gt:Gq 12 12 (W.take w):=⟨λq J=>f.low q (Ek J),nz,M,⟨O.1,λq J=>O.2 q (Ek J)⟩,bM,λz L=>bt z (by
    unfold F_ at L ⊢;rw [List.map_take] at L;exact Ek L)⟩
   exact Ma (K:=K) k h5 ((e.tp (D_ g)).take w) (g _ _ d) (e.tp (D_ g)) gt (by rw [BC];omega) f h i j top (o.same g) x (kp.same g)
  ·exact ⟨_,rfl,Ma (K:=K) k (b _ _ N) (R.tp (D_ b)) (b _ _ d) (e.tp (D_ b)) S T f h i j top (o.same b) x (kp.same b)⟩
 ·exact Ma (K:=K) k N R d e S T f h i j top o x kp
def sG (k:bi H0 p a n Q) {H:Hp} {v:Addr} {ys:cJ} {W:cF} {w:Nat} {r:cK} {m:Int} (M:H v=some (.tup ys)) (hW:Nums H ys W) (O:Gq 12 12 W) (R:↑W=w+1) (S:1<=w) (T:w<=7) (top:AG W w=(1,1)) (A:Hand H p a m) (m0:m<=10000) (mn:m+100<=n+1000) (kp:Kp p H0 H) :
  SB K { nx:=λ_ H'=>Q .non H',rt:=Q } [↥p,r,↥v,none,none] H:=by
 refine Ab (Al (DS (AD rfl (G' (G' ⟨p,a,5,9,m,rfl,A,⋯,∅,∅,∅,∅,λr1 U H1 B a0 C X rp ra f Y=>?_⟩)))));refine CL (AD rfl ⟨p,a,m+40,rfl,f,⋯,λZ t d H2 D lo t0 bt bd F G=>?_⟩)
 let nv:v≠p:=λz=>by
  let ⟨zs,c⟩:=A.at
  rw [<-z,M] at c;cases c
 let g:=Kp.tp' Y A.at.choose_spec;let h:=Kp.tp' G f.at.choose_spec;let dd:d≠0:=Ah lo.pos;refine ⟨Z |> λ_=>r1,Z,U,t,d,rfl,G _ _ rp B,D,dd,bt.mono ∅,λz c=>?_,⋯,λr3 z3 H3 x h3 n3=>?_⟩
 ·have:=X z c;exact D4 (N:=9) 1000 ⋯ (B2 (by decide:9<2 ^ 4) (Fs ∅ ∅))
 let gP:=TK C (λz c=>D4 (N:=9) 8 (by have:=X z c;omega) ∅) lo t0 bt bd;let lP:(U.map λn=>Ae (n*t) d).length<=6:=by rw [AI];omega
 let I:=x _ _ (h _ _ (g _ _ M));let J:=((hW.tp g).tp h).tp (D_ x);let i:=F.same x;let L:=((kp.trans Y).trans G).same x;refine Ab (Al (AD rfl (G' ⟨p,a,6,_,rfl,i,⋯,∅,∅,λkd H4 k0 k6 j k4=>?_⟩)));let b:=Kp.tp' k4 i.at.choose_spec;let o:=b _ _ I;let q:=J.tp b;let u:=L.trans k4;refine D1 (Bz (AW (AD rfl (G' ⟨rfl,_,rfl,Aj (λ_=>?_) (λ_=>?_)⟩))))
 ·refine Gx (show A6 AC _ _ _ from ⟨AX _,λe he=>?_⟩);let y:=AM he (.tup []);exact Tm (K:=K) k upd_same (P:=[]) trivial (y _ _ o) (q.tp (D_ y)) (Jx ∅) ∅ O R S T top (j.same y) ⋯ (u.same y)
 ·exact Tm (K:=K) k (b _ _ h3) (n3.tp b) o q gP ⋯ O R S T top j ⋯ u
def Mb (k:bi H0 p a n Q) {H:Hp} {b:Addr} {ns:cL} {m:Int} (e:H b=some (.lst (~~~ns))) (c:Lz ns) (u:2<=↑ns) (x:↑ns<=8) (bn:∀ z∈ns,z.natAbs<=2700) (f:Hand H p a m) (g:m<=10000) (h:m+100<=n+1000) (kp:Kp p H0 H) :
  Lq K { nx:=λ_ i=>Q .non i,rt:=Q } [↥p,↥b,none,none,none] H:=by
 refine Ab (CL (AD rfl ⟨b,ns,rfl,e,c,⋯,λv y A d j o=>?_⟩));let q:=uB c λz r=>D4 12 (bn z r) ∅;exact sG (K:=K) k j o q (w:=↑ns - 1) (by rw [L7];omega) ⋯ ⋯ (SV c) (f.same d) g h (kp.same d)
def Tn (k:bi H0 p a n Q) {H:Hp} {e:Addr} {ns:cL} {m:Int} (A:H e=some (.lst (~~~ns))) (q:e≠p) (C:Lz ns) (W:2<=↑ns) (l5:↑ns<=5) (bn:∀ z∈ns,z.natAbs<=180) (X:↑ns<4->∀ z∈ns,z.natAbs<=30) (S:Hand H p a m) (m0:m<=9000) (mn:m+300<=n+1000) (kp:Kp p H0 H) :
  SC K { nx:=λ_ G=>Q .non G,rt:=Q } [↥p,↥e,none,none,none] H:=by
 let r:∀ {o:Hp} {m1:Int},o e=some (.lst (~~~ns))->Hand o p a m1->m1<=m+2->Kp p H0 o->BV (Ap (A_ U_ (bN (Cz K) (AB (AA 0) (AB (bF 8) AC))) (bF 0))) (AO (bN (GT K) (AB (AA 1) (AB (bN (GU K) (AB (AA 0) (AB (bF 3) (AB (bF 3) AC)))) AC))) (AF 1)) Bi { nx:=Lq K { nx:=λ_ G=>Q .non G,rt:=Q },rt:=Q } [↥p,↥e,none,none,none] o:=by
  intro o m1 h g mm u;refine (show Ap _ _ _ _ from Bz (AW (Al (AD rfl (G' ⟨p,a,8,m1,rfl,g,⋯,∅,∅,λd H2 _ _ v D=>G' ⟨rfl,_,rfl,Aj (λ_=>?_) (λ_=>?_)⟩⟩)))))
  ·refine (show AO _ _ _ _ _ from Al (AD rfl (DS (AD rfl (G' (G' ⟨p,a,3,3,_,rfl,v,⋯,∅,∅,∅,∅,λY I H3 J Z w T a0 _ L U=>?_⟩))))));let x:=U _ _ q (D _ _ q h);refine ⟨e,Y,ns,I,12,12,rfl,x,J,C,w,⋯,⋯,λz f=>D4 12 (bn z f) ∅,λz f=>D4 (N:=3) 12 (by have:=T z f;omega) ∅,∅,∅,λr4 M H4 y i O j P=>?_⟩;let R:=Jy (B:=12) P bn (by let h:=MY (N:=3) (ns:=I) (λz f=>by have:=T z f;omega);let h2:=CI 3 (show ↑I<=4 by omega);omega);have:=w.1;exact Mb (K:=K) k i j ⋯ ⋯ (λz f=>BM (R z f) ∅) (L.same y) ⋯ ⋯ (((u.trans D).trans U).same y)
  ·exact Mb (K:=K) k (D _ _ q h) C W ⋯ (λz f=>BM (bn z f) ∅) v ⋯ ⋯ (u.trans D)
 refine D1 (show EE _ _ _ _ _ from Bz (AW (Bg (AD rfl ⟨e,_,rfl,A,G' ⟨_,_,rfl,rfl,_,rfl,Aj (λc=>?_) (λ_=>?_)⟩⟩))))
 ·let c:=pE c;rw [AI] at c;let M:↑ns<4:=by omega
  refine (show Ap _ _ _ _ from Bz (AW (Al (AD rfl (G' ⟨p,a,3,m,rfl,S,⋯,∅,∅,λd o _ _ g F=>G' ⟨rfl,_,rfl,Aj (λ_=>?_) (λ_=>?_)⟩⟩)))))
  ·let h:=F _ _ q A;let b:=X M;refine (show AO _ _ _ _ _ from Al (AD rfl (AD rfl ⟨e,e,ns,ns,12,12,rfl,h,h,C,C,⋯,⋯,λz f=>D4 12 (b z f) ∅,λz f=>D4 12 (b z f) ∅,∅,∅,λr4 M H4 y i O j P=>?_⟩)));let R:=Jy (B:=90) P b (by let h:=MY (N:=30) (ns:=ns) b;let h2:=CI 30 (show ↑ns<=3 by omega);omega);exact Mb (K:=K) k i j ⋯ ⋯ (λz f=>BM (R z f) ∅) (g.same y) ⋯ ⋯ ((kp.trans F).same y)
  ·exact r (F _ _ q A) g (Int.le_refl _) (kp.trans F)
 ·exact Aj (λz=>nomatch z) λ_=>r A S ⋯ kp
end
def sI (h:Li K vs H Q E):Z5 K (eA Q) (L2.start ["_law_hand_here","_law_row","_law_kw","_law_kp","_law_kind"] vs) H:=by
 let ⟨p,a,n,rfl,hH,n1,k⟩:=h;let k:bi H p a n Q:=k;refine Ab (Al (DS (AD rfl (G' (G' ⟨p,a,1,6,n,rfl,hH,⋯,∅,∅,∅,∅,λr1 L H1 M aj o b1 rp ra N k1=>?_⟩)))));refine YY (AW (Al (AD rfl (G' ⟨p,a,9,_,rfl,N,⋯,∅,∅,λd H2 d0 d9 O k2=>G' ⟨_,_,rfl,rfl,G' ⟨CH,λy hy=>?_⟩⟩⟩))));let P:=AM hy (.lst [.int (d - 4),.int 1]);let R:upd H2 y (.lst [.int (d - 4),.int 1]) y=some (HO.lst (([d - 4,1]:cL).map V.int)):=upd_same;let S:=P _ _ (k2 _ _ rp M);let T:=O.same P;let U:=(k1.trans k2).same P;generalize upd H2 y (.lst [.int (d - 4),.int 1])=H3 at *;let q:∀ z∈L,z.natAbs<=6:=λz b=>by have:=b1 z b;omega
 let W:∀ z∈([d - 4,1]:cL),z.natAbs<=4:=λz b=>by
  rcases DV.mp b with e | e
  ·rw [e];omega
  ·rw [BU.mp e];decide
 refine ⟨r1,y,L,[d - 4,1],12,12,rfl,S,R,o,uC ∅,⋯,by show 2<=20;decide,λz b=>D4 12 (q z b) ∅,λz b=>D4 12 (W z b) ∅,∅,∅,λr4 G H4 s4 f r u e4=>?_⟩;let r:↑G=↑L+2 - 1:=r;let n0:=o.1;let m:=Jy (B:=5) e4 q (by show (d - 4).natAbs+(1+0)<=5;omega);let m:∀ z∈G,z.natAbs<=30:=λz b=>BM (m z b) ∅;let v:=T.same s4;let w:=U.same s4
 let c:r4≠p:=λz=>by
  let ⟨_,x,yy,z',e,_⟩:=v;rw [<-z,f] at e;injection e with e;injection e with e;have:=congrArg (λl:cJ=>l[0]?) e;rw [Ac,AT ⋯] at this;cases this
 refine D1 (Bz (AW (Al (AD rfl (G' ⟨p,a,2,_,rfl,v,⋯,∅,∅,λd5 H5 _ _ A I=>G' ⟨rfl,_,rfl,Aj (λ_=>?_) (λ_=>?_)⟩⟩)))))
 ·let X:=I _ _ c f;refine (show AO _ _ _ _ _ from Al (AD rfl (tZ (AW (Al (AD rfl (G' ⟨p,a,9,_,rfl,A,⋯,∅,∅,λg H6 al an Y k6=>G' ⟨_,_,rfl,rfl,AW (Al (AD rfl (G' ⟨p,a,3,_,rfl,Y,⋯,∅,∅,λi H7 ap b0 Z k7=>G' ⟨_,_,rfl,rfl,G' ⟨K3,λJ a0=>?_⟩⟩⟩)))⟩⟩)))))));let j:=AM a0 (.lst [.int (g - 4),.int (i - 1),.int 1]);let a3:upd H7 J (.lst [.int (g - 4),.int (i - 1),.int 1]) J=some (HO.lst (([g - 4,i - 1,1]:cL).map V.int)):=upd_same;let a4:=j _ _ (k7 _ _ c (k6 _ _ c X));let a5:=Z.same j;let a6:=(((w.trans I).trans k6).trans k7).same j;generalize upd H7 J (.lst [.int (g - 4),.int (i - 1),.int 1])=H8 at *
  let b3:∀ z∈([g - 4,i - 1,1]:cL),z.natAbs<=4:=λz b=>by
   rcases DV.mp b with e | b
   ·rw [e];omega
   rcases DV.mp b with e | e
   ·rw [e];omega
   ·rw [BU.mp e];decide
  refine ⟨r4,J,G,[g - 4,i - 1,1],12,12,rfl,a4,a3,u,⟨by show 0<3;decide,by show (1:Int)≠0;decide⟩,⋯,by show 3<=20;decide,λz b=>D4 12 (m z b) ∅,λz b=>D4 12 (b3 z b) ∅,∅,∅,λr9 c9 H9 s9 C D a7 e9=>?_⟩;let D:↑c9=↑G+3 - 1:=D;let b9:=Jy (B:=6) e9 m (by show (g - 4).natAbs+((i - 1).natAbs+(1+0))<=6;omega);let F:=a5.same s9
  let ab:r9≠p:=λz=>by
   let ⟨_,x,yy,z',e,_⟩:=F;rw [<-z,C] at e;injection e with e;injection e with e;have:=congrArg (λl:cJ=>l[0]?) e;rw [Ac,AT ⋯] at this;cases this
  exact Tn (K:=K) k C ab a7 ⋯ ⋯ (λz b=>BM (b9 z b) ∅) (λz=>by omega) F ⋯ ⋯ (a6.same s9)
 ·exact Tn (K:=K) k (I _ _ c f) c u ⋯ ⋯ (λz b=>BM (m z b) ∅) (λ_=>m) A ⋯ ⋯ (w.trans I)
theorem To {H:Hp} {w:Nat} {A:List cE}:∀ {xs:cJ} {F:List cE},TFs H w A xs F->∀ l∈F,∀ i,i<↑A->su w (λj=>vr A i j*vl l j)=0
 | [],[],_,l,a=>nomatch a
 | _::_,f::F,⟨⟨_,_,_,_,_,_,_,e⟩,r⟩,l,a=>by
   rcases DV.mp a with q | q
   ·rw [q];exact e
   ·exact To r l q
theorem sJ {H:Hp} {w d:Nat} {A:List cE}:∀ {b:cJ} {F:List cE},↑A=w->TFs H d A b F->(∀ l∈F,∃ j,j<d/\vl l j≠0)->(∀ c:cZ,(∀ i,i<w->su d (λj=>vr A i j*c j)=0)->∀ j,j<d->c j=0)->b=[]
 | [],[],_,_,_,_=>rfl
 | _::_,l::F,h,e,f,a=>by
   let ⟨j,g,z⟩:=f l (D6 ..);exact absurd (a (vl l) (λi k=>To e l (D6 ..) i ⋯) j g) z
section
variable {K:W.Frag} {Q:VK} {P W:cF} {w:Nat} {pk:Nat->cF}
def sK (k:∀ a,Q (.bl true) a) (C:Pws P W w pk) {H:Hp} {u v f:Addr} {xs ys I:cJ} {d:Nat} {x0 x1 x4:cK} (hu:H u=some (.tup xs)) (hP:Nums H xs P) (hv:H v=some (.tup ys)) (hW:Nums H ys W) (hf:H f=some (.tup I)) (lz:↑I=d+1) (d1:1<=d) (dw:d<=w) (min:∀ e,e<d->¬ Dp pk e) :
  SF K { nx:=λ_ a=>Q .non a,rt:=Q } [x0,x1,↥u,↥v,x4,↥f,none,none,none] H:=by
 let w7:=C.w7;let w1:=C.w1;let lW:=C.lW;let ly:=↑hW;refine Ab (DS (AD rfl (AD rfl (AW (Bg (AD rfl ⟨f,I,rfl,hf,G' ⟨_,_,rfl,rfl,?_⟩⟩))))));refine ⟨u,v,xs,ys,P,W,w,d,pk,?_,hu,hv,hP,hW,C,⋯,λr J H1 s1 hr PR=>?_⟩
 ·show [V.ref u,V.ref v,V.int ((↑I:Int) - 1)]=_;rw [show ((↑I:Int) - 1)=(d:Int) by omega]
 rw [Nat.max_eq_left d1] at PR;let lu:=↑PR;rw [AI,Au] at lu;let L:((List.range d).map pk).length=d:=by rw [AI,Au]
 refine Ab (MT (AW (Bg (AD rfl ⟨v,ys,rfl,s1 _ _ hv,G' ⟨_,_,rfl,rfl,((↑ys:Int) - 1),rfl,⋯,⋯,?_⟩⟩))));rw [show ((↑ys:Int) - 1).toNat=w by omega];refine CompJ.range (n:=w) (λj J a=>j<=w/\Same H1 a/\NRs a J ((List.range j).map λi=>((List.range d).map pk).map λl=>AG l i)) ⟨AX _,Same.refl H1,trivial⟩ ?_ ?_ ?_
 ·rintro j a0 a ⟨h1,s,M⟩;exact ⟨h1,sz (by rw [↑M,AI,Au];omega)⟩
 ·rintro j a0 N y ⟨h1,s,M⟩;rw [Int.zero_add];refine By (Cy (AD rfl ⟨r,rfl,⟨J,SqL.of (s _ _ hr)⟩,CompJ.lst (xs:=J) (λi g a=>i<=↑J/\Same N a/\Nums a g ((((List.range d).map pk).take i).map λl=>AG l j)) ⟨AX _,Same.refl N,trivial⟩ ?_ ?_ ?_⟩))
  ·rintro i g a ⟨e1,A,D⟩;exact ⟨e1,sz (by rw [↑D,AI,BC];omega),SqL.of ((s.trans A) _ _ hr)⟩
  ·rintro i x g a hx ⟨e1,A,D⟩;let ⟨b,zb,rfl,hb,hz,h⟩:=(PR.tp (D_ (s.trans A))).get hx;refine By (Al (AD rfl (AD rfl ⟨b,zb,_,j,rfl,hb,hz,λv' Z s3 a3=>⟨by rw [L] at h;omega,A.trans s3,?_⟩⟩)));rw [MS (λl=>AG l j) [] h];exact (D.tp (D_ s3)).append (Nums.one a3)
  ·rintro g a ⟨_,A,D⟩ q hq;let e:=AM hq (.lst g);rw [List.take_of_length_le ⋯] at D;refine ⟨y,(s.trans A).trans e,?_⟩;rw [IP];exact (M.tp (A.trans e)).snoc upd_same (D.tp (D_ e))
 rintro G N ⟨_,s2,M⟩ p hp;let sp:=AM hp (.lst G);let O:upd N p (.lst G) p=some (HO.lst G):=upd_same;let R:=M.tp sp;generalize upd N p (.lst G)=Z at *;let lA:((List.range w).map λi=>((List.range d).map pk).map λl=>AG l i).length=w:=by rw [AI,Au]
 let S:=↑R;rw [lA] at S;refine Ab (Al (AD rfl (AW (DH (DG (G' (G' ⟨CH,λo ho=>⟨Cb,λl hl=>?_⟩⟩)))))));let so:=AM ho (.tup [.int 0,.int 1]);let sl:=AM hl (.lst [.ref o]);let a4:upd (upd Z o (.tup [.int 0,.int 1])) l (.lst [.ref o]) o=some (HO.tup [V.int 0,V.int 1]):=sl _ _ upd_same;let a5:upd (upd Z o (.tup [.int 0,.int 1])) l (.lst [.ref o]) l=some (HO.lst [V.ref o]):=upd_same;let T:=so.trans sl;generalize upd (upd Z o (.tup [.int 0,.int 1])) l (.lst [.ref o])=H4 at *;refine Bg (AD rfl ⟨p,G,rfl,T _ _ O,l,_,[.ref o],rfl,rfl,a5,⋯,⋯,sz (by rw [D9];omega),λq hq=>?_⟩);rw [CB,Er,S];let U:=AM hq (.lst (List.replicate w (V.ref o)));let a6:upd H4 q (.lst (List.replicate w (V.ref o))) q=some (HO.lst (List.replicate w (V.ref o))):=upd_same;let Y:=T.trans U;let N5:Nums (upd H4 q (.lst (List.replicate w (V.ref o)))) (List.replicate w (V.ref o)) (List.replicate w (0,1)):=Nums.rep ⟨o,rfl,U _ _ a4⟩ _;generalize upd H4 q (.lst (List.replicate w (V.ref o)))=H5 at *
 let gB:∀ i,(List.replicate w ((0,1):Nu)).getD i (0,1)=(0,1):=λi=>by
  rw [AJ,Do];split <;> rfl
 let gc:∀ j,j<d->Gq 800 (84*j+1) (((List.range d).map pk).getD j []):=λj y=>by
  rw [FM pk y];exact (C.g j ⋯).mono ⋯ (AV _)
 refine ⟨p,q,G,_,_,_,w,d,rfl,Y _ _ O,a6,R.tp Y,N5,lA,FN ..,λr' a7=>?_,λz=>by omega,⋯,⋯,λi h=>?_,λr6 x6 f6 z6 g6 X F H6 s6 B ab hX lX oX eX aj hT al=>?_,λr6 x6 z6 W6 H6 n0 s6 B ab an ap b0 b1 eB=>?_⟩
 ·let ⟨i,_,rfl⟩:=Ao.mp a7;rw [AI];exact L
 ·rw [D3 (λi=>((List.range d).map pk).map λl=>AG l i) [] h,gB];have:=Tg (cs:=(List.range d).map pk) (l:=[]) (by rw [L];exact gc) (Jx ⋯) (by rw [L];omega) i;exact this
 ·show SE K _ [x0,x1,↥u,↥v,x4,↥f,↥r,↥p,↥r6] H6
  let g0:g6=[]:=sJ lA hT al λc hc=>uR min (by
   refine Sr.ext' λi=>?_;rw [Sr.su_c,Sr.zero_c];by_cases h:i<w
   ·rw [<-hc i h];exact AU _ λj y=>by rw [MV h (by rw [L];exact y),FM pk y,Sr.num_mul];ext
   ·exact Bw λj y=>by rw [Sr.num_mul,Dl (pk j) i (by have:=C.l j ⋯;omega)];ext)
  subst g0;refine Bb (vE (AW (CG rfl B rfl (G' ⟨rfl,_,rfl,Aj (λ_=>?_) (λc=>absurd (pC rfl) c)⟩))));refine AW (CG rfl B rfl (show A6 AC _ _ _ from ⟨AX _,λe he=>?_⟩));exact eqP (l:=[]) (m:=[]) (AM he _ _ _ aj) trivial upd_same trivial true (by simp) (k _)
 ·exact absurd (Bw λi h=>by unfold vl;rw [gB,show val (0,1)=0 by unfold val;show ((0:Int):Rat) / ((1:Int):Rat)=0;grind];ext) eB
def Tq (k:∀ L,Q (.bl true) L) (f:Pws P W w pk) {H:Hp} {u v x:Addr} {xs ys ms:cJ} {m:cF} {x0 x1:cK} (p:H u=some (.tup xs)) (r:Nums H xs P) (j:H v=some (.tup ys)) (n:Nums H ys W) (hx:H x=some (.tup ms)) (hm:Nums H ms m) (I:Gq 12 12 m) (m5:↑m<=5) :
  SG K { nx:=λ_ L=>Q .non L,rt:=Q } [x0,x1,↥u,↥v,↥x,none,none,none,none] H:=by
 let w7:=f.w7;let lW:=f.lW;let ly:=↑n;let ⟨M,O,bM,bt⟩:=I.ov;let om:NuOk 250000 m:=⟨I.low,λq hq=>⟨(G9 I.low O bt q hq).mono ∅,(DR (Ah O.1) (O.2 q hq) bM).mono ∅⟩⟩;refine D1 (Bz (AW (DS (AD rfl (AD rfl (AD rfl ⟨x,u,v,ms,xs,ys,m,P,W,w,pk,rfl,hx,p,j,hm,r,n,I,m5,f,λr1 R1 H1 h P1 lo1 N R S=>?_⟩))))));refine DS (AD rfl (AD rfl (AD rfl ⟨x,u,v,ms,xs,ys,m,P,W,w,pk,rfl,h _ _ hx,h _ _ p,h _ _ j,hm.tp (D_ h),r.tp (D_ h),n.tp (D_ h),om,⋯,f,λr2 R2 H2 s2 P2 y A e2=>?_⟩)));let ⟨z1,h1,n1⟩:=P1.same s2;let ⟨z2,h2,n2⟩:=P2;let a:=h.trans s2
 let b2:Sr.Bn (sr R2) w:=by
  rw [e2];intro i hi;rw [MU];exact Bw λt ht=>by rw [Dl (pk t) i (by have:=f.l t ⋯;omega)];ext
 let c2:Sr.Cg (sr W) (sr R2) (sq m λt=>sr P ^ t):=by
  rw [e2];exact Sr.Cg.su _ λt ht=>(f.cg t ⋯).num _
 let T:R1=R2:=uP f lo1 N R y A (MP y A b2) (S.trans c2.symm);refine neP h1 n1 h2 n2 true (by simp [T]) ⟨_,rfl,Aj (λz=>nomatch z) λ_=>?_⟩;refine Ab (Al (AD rfl (AD rfl ⟨u,v,xs,ys,P,W,w,pk,rfl,a _ _ p,a _ _ j,r.tp (D_ a),n.tp (D_ a),f,λU R3 d H3 s3 P3 o3 l3 d1 dw t3 e3 min=>?_⟩)));let ⟨B,C,X⟩:=P3;let lz:=↑X;let D:=a.trans s3;let ⟨ab,Y,q3,rfl,F⟩:=X.at (i:=d) ⋯ (0,1);let Z:R3.getD d (0,1)=(1,1):=t3;rw [Z] at F;let al:N_ B (-1)=↥q3:=G8 ⋯ (by rw [show ↑B - 1=d by omega];exact Y);let a0:=Wh C;refine D1 (show aG _ _ _ _ _ from ⟨_,rfl,_, "tuple", true,rfl,a0,true,rfl,?_⟩);refine Aj (λz=>nomatch z) λ_=>?_;refine (show aG _ _ _ _ _ from Bz (AW (Bg (AD rfl ⟨U,B,rfl,C,G' ⟨_,_,rfl,rfl,_,rfl,Aj (λc=>?_) λ_=>?_⟩⟩))))
 ·let c:=pE c;omega
 refine (show aG _ _ _ _ _ from Bz (AW (Bg (AD rfl ⟨U,B,rfl,C,Bg (AD rfl ⟨v,ys,rfl,D _ _ j,_,_,rfl,rfl,_,rfl,Aj (λc=>?_) λ_=>?_⟩)⟩))))
 ·let c:=pE c;omega
 refine Bz (AW (AW (AD rfl ⟨_,rfl,DI C al (DG (G' (G' ⟨CH,λo ho=>?_⟩)))⟩)));let J:=AM ho (.tup [.int 1,.int 1]);let a3:upd H3 o (.tup [.int 1,.int 1]) o=some (HO.tup [V.int 1,V.int 1]):=upd_same;let a4:=J _ _ F;let b:=D.trans J;let h4:=J _ _ C;let n4:=X.tp (D_ J);generalize upd H3 o (.tup [.int 1,.int 1])=H4 at *;refine ⟨Es (1,1),Es (1,1),true,Kz ⟨q3,rfl,a4⟩,Kz ⟨o,rfl,a3⟩,rfl,rfl,by simp,_,rfl,Aj (λz=>nomatch z) λ_=>?_⟩;refine D1 (Bz (AW (DS (AD rfl (AD rfl (AD rfl ⟨U,u,v,B,xs,ys,R3,P,W,w,pk,rfl,h4,b _ _ p,b _ _ j,n4,r.tp (D_ b),n.tp (D_ b),o3,⋯,f,λr5 R5 H5 s5 P5 a5 a6 e5=>?_⟩))))));refine (show A6 AC _ _ _ from ⟨AX _,λe he=>?_⟩);let se:=AM he (.tup []);let ⟨z5,h5,n5⟩:=P5;let a7:R5=[]:=Classical.byContradiction λz=>xB a5 a6 z (by rw [e5];exact e3);let G:=s5.trans se;let g:=b.trans G;refine neP (m:=[]) (se _ _ h5) (n5.tp (D_ se)) upd_same trivial true (by simp [a7]) ⟨_,rfl,Aj (λz=>nomatch z) λ_=>?_⟩;exact sK (K:=K) k f (g _ _ p) (r.tp (D_ g)) (g _ _ j) (n.tp (D_ g)) (G _ _ h4) ⋯ d1 dw min
end
def sM (h:JP K vs H Q E):zE K (eA Q) (L2.start ["_law_script","_law_hand_here","_law_kp","_law_kw","_law_m","_law_found","_law_rungs","_law_rows","_law_told"] vs) H:=by
 let ⟨s,ns,rfl,hs,o,k⟩:=h;refine Ab (CL (AD rfl ⟨s,ns,rfl,hs,o,λp a H1 p0 k1 q=>?_⟩));refine GJ (CL (AD rfl ⟨p,a,0,rfl,q,∅,λt u v xs ys P W w r ht G I J L gP lP gW lW w1 w7 top g k2=>⟨t,_,rfl,ht,rfl,_,_,rfl,_,_,rfl,rfl,?_⟩⟩));let ⟨pk,M⟩:=uO gP lP gW lW w1 w7 top;refine Ab (Al (DS (AD rfl (G' (G' ⟨p,a,4,9,_,rfl,g,∅,∅,∅,∅,∅,λr3 O H3 x a0 y R rp ra i k3=>?_⟩)))));refine CL (AD rfl ⟨p,a,_,rfl,i,∅,λr4 S T H4 A lo t0 U bd B X=>?_⟩);let C:=Kp.tp' k3 g.at.choose_spec;let D:=Kp.tp' X i.at.choose_spec;refine ⟨r3,r4,O,S,T,rfl,X _ _ rp x,A,Ah lo.pos,U.mono ∅,λz F=>?_,⋯,λr5 z5 H5 Y h5 n5=>?_⟩
 ·have:=R z F;exact D4 (N:=9) 1000 ⋯ (B2 (by decide:9<2 ^ 4) (Fs ∅ ∅))
 let gm:=TK y (λz F=>D4 (N:=9) 8 (by have:=R z F;omega) ∅) lo t0 U bd;let lm:(O.map λn=>Ae (n*S) T).length<=5:=by rw [AI];omega
 let f:=B.same Y;let j:Tp r H5:=λb Z h=>Y _ _ (D _ _ (C _ _ h));refine D1 (Bz (AW (Al (AD rfl (G' ⟨p,a,8,_,rfl,f,∅,∅,∅,λd6 H6 _ _ a3 k6=>G' ⟨rfl,_,rfl,Aj (λ_=>?_) (λ_=>?_)⟩⟩)))))
 ·let d:=Kp.tp' k6 f.at.choose_spec;refine Gx (show A6 AC _ _ _ from ⟨AX _,λe he=>?_⟩);let se:=AM he (.tup []);let c:Tp r (upd H6 e (.tup [])):=λb Z h=>se _ _ (d _ _ (j _ _ h));exact Tq (K:=K) k M (c _ _ G) (I.tp c) (c _ _ J) (L.tp c) upd_same (m:=[]) trivial (Jx ∅) ∅
 ·let d:=Kp.tp' k6 f.at.choose_spec;let c:Tp r H6:=λb Z h=>d _ _ (j _ _ h);exact Tq (K:=K) k M (c _ _ G) (I.tp c) (c _ _ J) (L.tp c) (d _ _ h5) (n5.tp d) gm lm
end Bs
namespace Bs
open PySem PySem.Spec PyProof.Rows L2
set_option maxHeartbeats 4000000
open Hd
structure Bl (K:W.Frag) (mg:cP):Prop where
 abs:mg "abs" = none
 FIRST_PRIME:mg "FIRST_PRIME" = some (.int 170141183460469231731687303715884105727 189)
 SECOND_PRIME:mg "SECOND_PRIME" = some (.int 2147483647 191)
 zip:mg "zip" = none
 sum:mg "sum" = none
 min:mg "min" = none
 len:mg "len" = none
 enumerate:mg "enumerate" = none
 list:mg "list" = none
 max:mg "max" = none
 range:mg "range" = none
 tuple:mg "tuple" = none
 any:mg "any" = none
 reversed:mg "reversed" = none
 isinstance:mg "isinstance" = none
section
variable {P:Program} {w:World} {K:W.Frag} {mg:cP} {base:Heap} {f:Addr} {fd:FuncData}
def J' {n q:Str} {st:Stmt} {N ps:cT} {k:Nat} {sp:Sp} {t:TS} (F:Fun K n q st f fd) (v:∀ {c:cJ} {H:Hp} {Q:VK} {E:XK},sp c H Q E->t (eA Q) (start N c) H) (d:∀ {a:Value} {A:Around} {b:List Env} {s:Shared} {H:Hp} {E:XK} (e:Room k (A.deeper (envOfC q (Cv st) ⇑s f a))) (j:N.Nodup) (m:(A.deeper (envOfC q (Cv st) ⇑s f a)).units<cLine) (g:(A.deeper (envOfC q (Cv st) ⇑s f a)).units+64<cLine),PSs (F0 am P w K mg base N q (Cv st) f a A b s H E).nox (Dw st) t) (S:FnScope N ps (Cv st):=by exact ⟨rfl,rfl,rfl,by decide +kernel,rfl,by decide +kernel,by decide +kernel⟩) (len:∀ c H Q E,sp c H Q E->↑c=↑ps:=by intro c H Q E h;repeat (first | (let ⟨rfl,_⟩:=h;rfl) | let ⟨_,h⟩:=h)):FnOk P w K mg base am (k+1) f fd ps sp:=F.ok S len λa A b s H c Q E e h=>⟨t,d e S.nd e.units0 e.units,v h⟩
def li {a:Prop} {b:Type} {x:b}:x=x\/a:=Or.inl rfl
end
set_option maxHeartbeats 4000000
open Hd
def Mc {K:W.Frag} {st:Stmt} {f c:Addr} {n:Str} {pm:Value} (l:K.lookup f=some (J_ n st pm c)) (e:W.codeIn K (.ref c) n=true) (k:W.keepIn K (.ref f)=true):Fun K n n st f (W.fnOf n n (EZ st) (Dw st) (Cv st) .none .none .none pm none (.ref c) .none):=NT (st:=st) l e k
def sN {P:Program} {K:W.Frag} {w:World} {h c:Heap} {d:cP} {k:Nat} {f:Addr} {g:FuncData} {n:Str} {ps:cT} {sp:Sp} (X:K.In h) (G:h.Ns mainGlobals d) (ok:FnOk P w K d c am k f g ps sp) (b:Binds K g ps []) (e:W.keepIn K (.ref f)=true) (a:W.nsIn K mainGlobals n=some (↥f)):Cal P w K d c k n ps sp:=⟨f,g,ok,b,e,W.mg_of X G a⟩
def IR {a:cM} {n:Nat} (h:↑a=n+1):∃ x t,a=x::t/\↑t=n:=by cases a with | nil=>cases h | cons x t=>exact ⟨x,t,rfl,Nat.succ.inj h⟩
def Tr (a:cM) (h:↑a=1):∃ b,a=[b]:=by let ⟨x,t,rfl,q⟩:=IR h;exact ⟨x,by rw [GZ.mp q]⟩
def Ts (b:cM) (h:↑b=2):∃ c a,b=[c,a]:=by let ⟨x,t,rfl,q⟩:=IR h;let ⟨a,rfl⟩:=Tr t q;exact ⟨x,a,rfl⟩
def Me (c:cM) (h:↑c=3):∃ d a b,c=[d,a,b]:=by let ⟨x,t,rfl,q⟩:=IR h;let ⟨a,b,rfl⟩:=Ts t q;exact ⟨x,a,b,rfl⟩
def Tt (d:cM) (h:↑d=4):∃ e a b c,d=[e,a,b,c]:=by let ⟨x,t,rfl,q⟩:=IR h;let ⟨a,b,c,rfl⟩:=Me t q;exact ⟨x,a,b,c,rfl⟩
def sO (e:cM) (h:↑e=5):∃ f a b c d,e=[f,a,b,c,d]:=by let ⟨x,t,rfl,q⟩:=IR h;let ⟨a,b,c,d,rfl⟩:=Tt t q;exact ⟨x,a,b,c,d,rfl⟩
def Ak {P:Program} {K:W.Frag} {w:World} {h i:Heap} {j:cP} {k:Nat} {f c:Addr} {n:Str} {ps:cT} {sp:Sp} {st:Stmt} {pm:Value} (X:K.In h) (G:h.Ns mainGlobals j) (ok:Fun K n n st f (W.fnOf n n (EZ st) (Dw st) (Cv st) .none .none .none pm none (.ref c) .none)->FnOk P w K j i am k f (W.fnOf n n (EZ st) (Dw st) (Cv st) .none .none .none pm none (.ref c) .none) ps sp) (l:K.lookup f=some (J_ n st pm c):=by kernel_rfl) (e:W.codeIn K (.ref c) n=true:=by kernel_rfl) (q:W.keepIn K (.ref f)=true:=by kernel_rfl) (a:W.nsIn K mainGlobals n=some (↥f):=by kernel_rfl) (b:∀ (kV m pm:Value) (p:Option Addr) (o r:Value) (d:cM),↑d=↑ps->bindArgs (W.fnOf n n (EZ st) (Dw st) (Cv st) .none kV m pm p o r) ⟨d,[]⟩=pure (ps.zip d):=by first | exact λ_ _ _ _ _ _ d g=>by let ⟨_,rfl⟩:=Tr d g;rfl | exact λ_ _ _ _ _ _ d g=>by let ⟨_,_,rfl⟩:=Ts d g;rfl | exact λ_ _ _ _ _ _ d g=>by let ⟨_,_,_,rfl⟩:=Me d g;rfl | exact λ_ _ _ _ _ _ d g=>by let ⟨_,_,_,_,rfl⟩:=Tt d g;rfl | exact λ_ _ _ _ _ _ d g=>by let ⟨_,_,_,_,_,rfl⟩:=sO d g;rfl):Cal P w K j i k n ps sp:=sN X G (ok (Mc l e q)) ((Mc l e q).binds b) q a
abbrev K' (P:Program) (w:World) (b:cP) (a:Heap) (k:Nat) (n:Str) (ps:cT) (sp:W.Frag->Sp):Prop:=Cal P w (hp w.params) b a k n ps (sp (hp w.params))
def Tu {P:Params}:B1 (hp P)=227:=by kernel_rfl
def Jz {P:Params}:ClsOk (hp P) (B1 (hp P)):=by
 rw [Tu];exact ⟨⟨by kernel_rfl,by kernel_rfl,by kernel_rfl,by kernel_rfl⟩,(show W.findIn _ _ _=_ by kernel_rfl),(show W.findIn _ _ _=_ by kernel_rfl),(show W.findIn _ _ _=_ by kernel_rfl),(show W.findIn _ _ _=_ by kernel_rfl),(show W.findIn _ _ _=_ by kernel_rfl)⟩
section
variable {P:Program} {w:World} {mg:cP} {base h:Heap} (X:(hp w.params).In h) (G:h.Ns mainGlobals mg) (B:Bl (hp w.params) mg)
include X G B
theorem IS:K' P w mg base 1 "common_divisor" ["one","other"] GO:=Ak (f:=21) (c:=20) (pm:=N') (st:=VX) X G λF=>J' F (zG ) λb a d e=>(AL (C9 PassesOwn.never (cR FT (pv 1) AN) (AL (B_ a (AR Ue (pv 0) (pv 1))) (AL (B_ a (pv 1)) (AS (B_ a (pv 2)))))) (AS (Af (Ai F8 rfl B.abs F6 (AE (pv 0) AK)))))
theorem sP:K' P w mg base 1 "is_prime" ["whole"] LQ:=Ak (f:=28) (c:=27) (pm:=N') (st:=VY) X G λF=>J' F (xF ) λb a d e=>(AL (B_ a AN) (AL (C9 PassesOwn.never (cR Mz (AR Az (pv 1) (pv 1)) (pv 0)) (AL (Bp (cR Ct (AR CQ (pv 0) (pv 1)) AN) (AS (Af Fw)) Bv) (AS (EW (i:=1) a rfl li AN Ie)))) (AS (Af (KD EX (pv 0) AN (W_ _))))))
theorem IT:K' P w mg base 1 "dot" ["row","other"] GQ:=Ak (f:=47) (c:=46) (pm:=N') (st:=Vb) X G λF=>J' F (xE ) λa b d e=>(AS (Af (Ai (KS rfl) rfl B.sum KK (AE (Bt (N:=["whole","factor"]) (capt:=[none,none]) (xo:=none) rfl (BlkOk1.of rfl rfl (λ_=>⟨rfl,λ_=>rfl⟩) rfl (λ_ h=>nomatch h) rfl rfl rfl) (FZ rfl B.zip (AE (pv 0) (AE (pv 1) AK))) (λ_ _ _ _=>(Cw rfl (BE (Aa (i:=0) (show (["whole","factor"]:cT).Nodup by decide +kernel) rfl li) (BE (Aa (i:=1) (show (["whole","factor"]:cT).Nodup by decide +kernel) rfl li) Cq)))) (λ_ _ _ _=>(AR Az (pv 0) (pv 1)))) AK))))
theorem Mf:K' P w mg base 1 "row_trimmed" ["row"] Hr:=Ak (f:=59) (c:=58) (pm:=N') (st:=Vd) X G λF=>J' F (zL ) λb a d e=>(AL (B_ a (Ai BO rfl B.len Ar (AE (pv 0) AK))) (AL (C9 PassesOwn.never (PW.pt (FR (cR EX (pv 1) AN) (Fx (cR Ct (Aw An (pv 0) (AR Bj (pv 1) AN) (λ_ _=>rfl)) AN)))) (AS (EW (i:=1) a rfl li AN Ig))) (AS (Af (DQ Ea (pv 0) DN (DO (pv 1)))))))
theorem sQ:K' P w mg base 1 "row_parted" ["row","divisor"] LF:=Ak (f:=64) (c:=63) (pm:=N') (st:=Ve) X G λF=>J' F (zS ) λa b d e=>(AS (Af (Bt (N:=["whole","divisor"]) (capt:=[none,some 1]) (xo:=none) rfl (BlkOk1.of rfl rfl (λ_=>⟨rfl,λ_=>rfl⟩) rfl (BR.mpr rfl) rfl rfl rfl) (Bq (pv 0)) (λ_ _ _ _=>(Aa (i:=0) (show (["whole","divisor"]:cT).Nodup by decide +kernel) rfl li)) (λ_ _ _ _=>(AR GC (pv 0) (pv 1))))))
theorem Tv:K' P w mg base 1 "row_times" ["row","other"] JU:=Ak (f:=71) (c:=70) (pm:=N') (st:=Vf) X G λF=>J' F (yS ) λb a d e=>(AL (Bp (PW.pt (IY (HR (Gh (pv 0) (λ_=>rfl))) (Mr (HR (Gh (pv 1) (λ_=>rfl)))))) (AS (Af (BS AK))) Bv) (AL (B_ a (AR EY (BS (AE AN AK)) (AR Bj (AR BY (Ai BO rfl B.len Ar (AE (pv 0) AK)) (Ai BO rfl B.len Ar (AE (pv 1) AK))) AN))) (AL (CC PassesOwn.never rfl (GA rfl B.enumerate (AE (pv 0) AK)) (Cw rfl (BE (Aa (i:=3) a rfl li) (BE (Aa (i:=4) a rfl li) Cq))) (AS (Bp (cR FT (pv 4) AN) (AS (CC PassesOwn.never rfl (GA rfl B.enumerate (AE (pv 1) AK)) (Cw rfl (BE (Aa (i:=5) a rfl li) (BE (Aa (i:=6) a rfl li) Cq))) (AS (KA (pv 2) (AR BY (pv 3) (pv 5)) KP (AR Az (pv 4) (pv 6)) Ie Cu)))) Bv))) (AS (Af (pv 2))))))
theorem Tw:K' P w mg base 1 "inverse_modulo" ["whole","prime"] JQ:=Ak (f:=83) (c:=82) (pm:=N') (st:=Vh) X G λF=>J' F (yB ) λb a d e=>(AL (B_ a (pv 1)) (AL (B_ a (AR CQ (pv 0) (pv 1))) (AL (B_ a AN) (AL (B_ a AN) (AL (C9 PassesOwn.never (cR FT (pv 3) AN) (AL (B_ a (AR GC (pv 2) (pv 3))) (AL (B_ a (AR Bj (pv 2) (AR Az (pv 6) (pv 3)))) (AL (B_ a (pv 3)) (AL (B_ a (pv 7)) (AL (B_ a (AR Bj (pv 4) (AR Az (pv 6) (pv 5)))) (AL (B_ a (pv 5)) (AS (B_ a (pv 7)))))))))) (AS (Af (AR CQ (pv 4) (pv 1)))))))))
theorem Tx:K' P w mg base 1 "rests_modulo" ["row","prime"] JR:=Ak (f:=88) (c:=87) (pm:=N') (st:=Vi) X G λF=>J' F (zY ) λa b d e=>(AS (Af (Bt (N:=["whole","prime"]) (capt:=[none,some 1]) (xo:=none) rfl (BlkOk1.of rfl rfl (λ_=>⟨rfl,λ_=>rfl⟩) rfl (BR.mpr rfl) rfl rfl rfl) (Bq (pv 0)) (λ_ _ _ _=>(Aa (i:=0) (show (["whole","prime"]:cT).Nodup by decide +kernel) rfl li)) (λ_ _ _ _=>(AR CQ (pv 0) (pv 1))))))
theorem Ty:K' P w mg base 1 "swapped" ["row","one","other"] JX:=Ak (f:=126) (c:=125) (pm:=N') (st:=Vo) X G λF=>J' F (xL ) λb a d e=>(AL (B_ a (Dv Iu rfl B.list FX (AE (pv 0) AK))) (AL (C8 (Aw An (pv 0) (pv 2) (λ_ _=>rfl)) (DL (pv 3) (pv 1) Cu)) (AL (C8 (Aw An (pv 0) (pv 1) (λ_ _=>rfl)) (DL (pv 3) (pv 2) Cu)) (AS (Af (pv 3))))))
theorem sR:K' P w mg base 1 "row_cleared" ["row","lead","column","prime"] JY:=Ak (f:=131) (c:=130) (pm:=N') (st:=Vp) X G λF=>J' F (xM ) λb a d e=>(AL (DM (i:=4) a rfl (Or.inr rfl) (Aw An (pv 0) (pv 2) (λ_ _=>rfl))) (AL (Bp (cR Ct (pv 4) AN) (AS (Af (pv 0))) Bv) (AS (Af (Bt (N:=["whole","other","prime","weight"]) (capt:=[none,none,some 3,some 4]) (xo:=none) rfl (BlkOk1.of rfl rfl (λ_=>⟨rfl,λ_=>rfl⟩) rfl (Du.mpr ⟨rfl,(BR.mpr rfl)⟩) rfl rfl rfl) (FZ rfl B.zip (AE (pv 0) (AE (pv 1) AK))) (λ_ _ _ _=>(Cw rfl (BE (Aa (i:=0) (show (["whole","other","prime","weight"]:cT).Nodup by decide +kernel) rfl li) (BE (Aa (i:=1) (show (["whole","other","prime","weight"]:cT).Nodup by decide +kernel) rfl li) Cq)))) (λ_ _ _ _=>(AR CQ (AR Bj (pv 0) (AR Az (pv 3) (pv 1))) (pv 2))))))))
theorem T0:K' P w mg base 1 "nearest" ["whole","prime"] JS:=Ak (f:=138) (c:=137) (pm:=N') (st:=Vq) X G λF=>J' F (yD ) λb a d e=>(AL (B_ a (AR CQ (pv 0) (pv 1))) (AS (Af (Fy (cR EX (AR Az AN (pv 2)) (pv 1)) (AR Bj (pv 2) (pv 1)) (pv 2)))))
theorem HL:K' P w mg base 1 "poly" ["row"] FI:=Ak (f:=166) (c:=165) (pm:=a9) (st:=Vu) X G λF=>J' F (zJ ) λb a d e=>(AL (B_ a (Ai BO rfl B.len Ar (AE (pv 0) AK))) (AL (C9 PassesOwn.never (PW.pt (FR (cR EX (pv 1) AN) (Fx (cR Ct (xI AZ (Aw An (pv 0) (AR Bj (pv 1) AN) (λ_ _=>rfl))) AN)))) (AS (EW (i:=1) a rfl li AN Ig))) (AS (Af (Dv Gi rfl B.tuple F7 (AE (DQ Ea (pv 0) DN (DO (pv 1))) AK))))))
theorem HM:K' P w mg base 1 "number_of" ["P","place"] Fm:=Ak (f:=183) (c:=182) (pm:=a9) (st:=Vx) X G λF=>J' F (yY ) λa b d e=>(AS (Af (Fy (cR E8 (pv 1) (Ai CF rfl B.len Ar (AE (pv 0) AK))) (Aw AZ (pv 0) (pv 1) (λ_ _=>rfl)) (Ba (AE AN (AE AN AK))))))
theorem Mg:K' P w mg base 1 "width_of" ["sides"] Hu:=Ak (f:=238) (c:=237) (pm:=Q_) (st:=V3) X G λF=>J' F (xU ) λa b d e=>(AS (Af (Fy (Gh (pv 0) (λ_=>rfl)) (Ai BO rfl B.len Ar (AE (xI An (pv 0)) AK)) AN)))
theorem Mh:K' P w mg base 1 "picked" ["row","places"] Hv:=Ak (f:=243) (c:=242) (pm:=Q_) (st:=V4) X G λF=>J' F (xV ) λa b d e=>(AS (Af (Bt (N:=["place","row"]) (capt:=[none,some 0]) (xo:=none) rfl (BlkOk1.of rfl rfl (λ_=>⟨rfl,λ_=>rfl⟩) rfl (BR.mpr rfl) rfl rfl rfl) (Bq (pv 1)) (λ_ _ _ _=>(Aa (i:=0) (show (["place","row"]:cT).Nodup by decide +kernel) rfl li)) (λ_ _ _ _=>(Aw An (pv 1) (pv 0) (λ_ _=>rfl))))))
theorem J0:K' P w mg base 1 "spread" ["places","wholes","width"] G0:=Ak (f:=250) (c:=249) (pm:=Q_) (st:=V5) X G λF=>J' F (xW ) λb a d e=>(AL (B_ a (AR EY (BS (AE AN AK)) (pv 2))) (AL (CC PassesOwn.never rfl (FZ rfl B.zip (AE (pv 0) (AE (pv 1) AK))) (Cw rfl (BE (Aa (i:=4) a rfl li) (BE (Aa (i:=5) a rfl li) Cq))) (AS (C8 (pv 5) (DL (pv 3) (pv 4) Cu)))) (AS (Af (pv 3)))))
theorem sU:K' P w mg base 1 "picked_column" ["rows","place"] LS:=Ak (f:=265) (c:=264) (pm:=Q_) (st:=V8) X G λF=>J' F (xZ ) λa b d e=>(AS (Af (Bt (N:=["row","place"]) (capt:=[none,some 1]) (xo:=none) rfl (BlkOk1.of rfl rfl (λ_=>⟨rfl,λ_=>rfl⟩) rfl (BR.mpr rfl) rfl rfl rfl) (Bq (pv 0)) (λ_ _ _ _=>(Aa (i:=0) (show (["row","place"]:cT).Nodup by decide +kernel) rfl li)) (λ_ _ _ _=>(Aw An (pv 0) (pv 1) (λ_ _=>rfl))))))
theorem sV:K' P w mg base 1 "bottom_modulo" ["whole","modulus","limit"] LV:=Ak (f:=304) (c:=303) (pm:=Q_) (st:=WG) X G λF=>J' F (wK ) λb a d e=>(AL (B_ a (pv 1)) (AL (B_ a (pv 0)) (AL (B_ a AN) (AL (B_ a AN) (AL (C9 PassesOwn.never (cR EX (pv 4) (pv 2)) (AL (B_ a (AR GC (pv 3) (pv 4))) (AL (B_ a (AR Bj (pv 3) (AR Az (pv 7) (pv 4)))) (AL (B_ a (pv 4)) (AL (B_ a (pv 8)) (AL (B_ a (AR BY (pv 5) (AR Az (pv 7) (pv 6)))) (AL (B_ a (pv 6)) (AS (B_ a (pv 9)))))))))) (AS (Af (pv 6))))))))
theorem sW:K' P w mg base 1 "_law_hand" ["_law_script"] LZ:=Ak (f:=342) (c:=341) (pm:=P_) (st:=WM) X G λF=>J' F (vJ ) λb a d e=>(AL (B_ a (Ai (KS rfl) rfl B.sum KK (AE (DQ Nn (pv 0) DN (DO AN)) AK))) (AS (Af (BS (AE (Dv Iu rfl B.list FX (AE (DQ Nn (pv 0) DN (DO AN)) AK)) (AE AN (AE (AR KL (Ai F8 rfl B.abs F6 (AE (pv 1) AK)) AN) (AE (AR CQ (pv 1) AN) AK))))))))
theorem DU:K' P w mg base 1 "_law_draw" ["_law_hand_here","_law_many"] Cz:=Ak (f:=349) (c:=348) (pm:=P_) (st:=WN) X G λF=>J' F (vK ) λb a d e=>(AL (Bp (PW.pt (FR (cR Ct (xI An (pv 0)) AN) (FR (cR Ct (xI An (pv 0)) AN) (Fx (cR E8 (AR BY (xI An (pv 0)) AN) (Ai BO rfl B.len Ar (AE (xI An (pv 0)) AK))))))) (AL (C8 (AR BY (xI An (pv 0)) AN) (DL (pv 0) AN Cu)) (AS (C8 (Ai F8 rfl B.abs F6 (AE (Aw An (xI An (pv 0)) (xI An (pv 0)) (λ_ _=>rfl)) AK)) (DL (pv 0) AN Cu)))) Bv) (AL (Bp (PW.pt (FR (cR Ct (xI An (pv 0)) AN) (Fx (cR EX (xI An (pv 0)) AN)))) (AL (B_ a (AR CQ (xI An (pv 0)) (pv 1))) (AL (C8 (AR KL (xI An (pv 0)) (pv 1)) (DL (pv 0) AN Cu)) (AS (Af (pv 2))))) Bv) (AL (C8 (AR BY (xI An (pv 0)) AN) (DL (pv 0) AN Cu)) (AL (B_ a (Ai (KS rfl) rfl B.sum KK (AE (DQ Ea (DQ Ea (xI An (pv 0)) (DO (AR CQ (xI An (pv 0)) (Ai (HY rfl) rfl B.max Gf (AE AN (AE (Ai BO rfl B.len Ar (AE (xI An (pv 0)) AK)) AK))))) DN) DN (DO AN)) AK))) (AL (B_ a (AR CQ (AR Az (AR BY (AR BY (AR CQ (pv 3) AN) (AR Az AN (xI An (pv 0)))) AN) (AR BY AN (AR Az AN (xI An (pv 0))))) AN)) (AL (B_ a (AR CQ (AR BY (AR Az (pv 4) (AR BY (AR CQ (pv 4) AN) (xI An (pv 0)))) (AR Az AN (xI An (pv 0)))) AN)) (AS (Af (AR CQ (AR KL (pv 5) AN) (pv 1))))))))))
theorem IU:K' P w mg base 1 "_law_lowest" ["_law_top","_law_bottom"] GS:=Ak (f:=356) (c:=355) (pm:=P_) (st:=WO) X G λF=>J' F (vL ) λb a d e=>(AL (Ms (i:=2) (j:=3) rfl a rfl rfl ∅ rfl rfl (AE (Ai F8 rfl B.abs F6 (AE (pv 0) AK)) (AE (Ai F8 rfl B.abs F6 (AE (pv 1) AK)) AK)) rfl) (AL (C9 PassesOwn.never (cR EX (pv 3) AN) (AS (Ms (i:=2) (j:=3) rfl a rfl rfl ∅ rfl rfl (AE (pv 3) (AE (AR CQ (pv 2) (pv 3)) AK)) rfl))) (AL (Bp (cR E8 (pv 1) AN) (AS (B_ a (BX BZ (pv 2)))) Bv) (AS (Af (Ba (AE (AR FY (pv 0) (pv 2)) (AE (AR FY (pv 1) (pv 2)) AK))))))))
theorem J1:K' P w mg base 1 "_law_row_times" ["_law_one","_law_other"] GT:=Ak (f:=363) (c:=362) (pm:=P_) (st:=WP) X G λF=>J' F (vP ) λb a d e=>(AL (B_ a (AR EY (BS (AE AN AK)) (AR Bj (AR BY (Ai BO rfl B.len Ar (AE (pv 0) AK)) (Ai BO rfl B.len Ar (AE (pv 1) AK))) AN))) (AL (CC PassesOwn.never rfl (GA rfl B.enumerate (AE (pv 0) AK)) (Cw rfl (BE (Aa (i:=3) a rfl li) (BE (Aa (i:=4) a rfl li) Cq))) (AS (CC PassesOwn.never rfl (GA rfl B.enumerate (AE (pv 1) AK)) (Cw rfl (BE (Aa (i:=5) a rfl li) (BE (Aa (i:=6) a rfl li) Cq))) (AS (C8 (AR BY (Aw An (pv 2) (AR BY (pv 3) (pv 5)) (λ_ _=>rfl)) (AR Az (pv 4) (pv 6))) (DL (pv 2) (AR BY (pv 3) (pv 5)) Cu)))))) (AS (Af (pv 2)))))
theorem J2:K' P w mg base 1 "_law_trimmed" ["_law_row"] G7:=Ak (f:=408) (c:=407) (pm:=P_) (st:=WX) X G λF=>J' F (vI ) λb a d e=>(AL (B_ a (Ai BO rfl B.len Ar (AE (pv 0) AK))) (AL (C9 PassesOwn.never (PW.pt (FR (cR EX (pv 1) AN) (Fx (cR Ct (xI AZ (Aw An (pv 0) (AR Bj (pv 1) AN) (λ_ _=>rfl))) AN)))) (AS (B_ a (AR Bj (pv 1) AN)))) (AS (Af (Dv Gi rfl B.tuple F7 (AE (DQ Ea (pv 0) DN (DO (pv 1))) AK))))))
theorem sY:K' P w mg base 1 "_law_number_at" ["_law_kp","_law_k"] Lh:=Ak (f:=429) (c:=428) (pm:=P_) (st:=Wa) X G λF=>J' F (uU ) λa b d e=>(AL (Bp (cR E8 (pv 1) (Ai CF rfl B.len Ar (AE (pv 0) AK))) (AS (Af (Aw AZ (pv 0) (pv 1) (λ_ _=>rfl)))) Bv) (AS (Af (Ba (AE AN (AE AN AK))))))
theorem sZ:K' P w mg base 2 "prime_after" ["whole"] LR:=Ak (f:=35) (c:=34) (pm:=N') (st:=VZ) X G λF=>J' F (xG ) λb a d e=>(AL (B_ a (AR BY (pv 0) AN)) (AL (C9 PassesOwn.never (HR (HQ ((sP X G B).q1 b (pv 1)))) (AS (EW (i:=1) a rfl li AN Ie))) (AS (Af (pv 1)))))
theorem rC:K' P w mg base 2 "content" ["row","start"] LE:=Ak (f:=52) (c:=51) (pm:=N') (st:=Vc) X G λF=>J' F (zR ) λb a d e=>(AL (B_ a ((IS X G B).q2 b (XU rfl B.min Wm (YA (N:=["whole"]) (capt:=[none]) (xo:=none) rfl (BlkOk1.of rfl rfl (λ_=>⟨rfl,λ_=>rfl⟩) rfl (λ_ h=>nomatch h) rfl rfl rfl) (Bq (pv 0)) (λ_ _ _ _=>(Aa (i:=0) (show (["whole"]:cT).Nodup by decide +kernel) rfl li)) (λ_ _ _ _=>(cR FT (pv 0) AN)) (λ_ _ _ _=>(Ai F8 rfl B.abs F6 (AE (pv 0) AK))))) (pv 1))) (AL (CC PassesOwn.never rfl (Bq (pv 0)) (Aa (i:=3) a rfl li) (AL (Bp (cR Ct (pv 2) AN) (AS (Af AN)) Bv) (AS (B_ a ((IS X G B).q2 b (pv 3) (pv 2)))))) (AS (Af (pv 2)))))
theorem rD:K' P w mg base 2 "row_less" ["row","factor","other","weight","shift"] LG:=Ak (f:=76) (c:=75) (pm:=N') (st:=Vg) X G λF=>J' F (zU ) λb a d e=>(AL (Eb (i:=5) (N:=["whole","factor"]) (capt:=[none,some 1]) (xo:=none) a rfl li rfl (BlkOk1.of rfl rfl (λ_=>⟨rfl,λ_=>rfl⟩) rfl (BR.mpr rfl) rfl rfl rfl) (Bq (pv 0)) (λ_ _ _ _=>(Aa (i:=0) (show (["whole","factor"]:cT).Nodup by decide +kernel) rfl li)) (λ_ _ _ _=>(AR Az (pv 1) (pv 0)))) (AL (FS (F1 bY PySem.F.slot_list_extend PySem.F.type_list_extend VQ (pv 5) (AE (AR EY (BS (AE AN AK)) (AR Bj (AR BY (Ai BO rfl B.len Ar (AE (pv 2) AK)) (pv 4)) (Ai BO rfl B.len Ar (AE (pv 0) AK)))) AK))) (AL (CC PassesOwn.never rfl (GA rfl B.enumerate (AE (pv 2) AK)) (Cw rfl (BE (Aa (i:=6) a rfl li) (BE (Aa (i:=7) a rfl li) Cq))) (AS (KA (pv 5) (AR BY (pv 6) (pv 4)) KP (AR Az (pv 3) (pv 7)) Ig Cu))) (AS (Af ((Mf X G B).q1 b (pv 5)))))))
theorem rE:K' P w mg base 2 "row_modulo" ["row","prime"] LH:=Ak (f:=95) (c:=94) (pm:=N') (st:=Vj) X G λF=>J' F (yA ) λa b d e=>(AS (Af ((Mf X G B).q1 a ((Tx X G B).q2 a (pv 0) (pv 1)))))
theorem rF:K' P w mg base 2 "monic_modulo" ["row","prime"] LI:=Ak (f:=100) (c:=99) (pm:=N') (st:=Vk) X G λF=>J' F (yC ) λa b d e=>(AL (Bp (HR (Gh (pv 0) (λ_=>rfl))) (AS (Af (BS AK))) Bv) (AL (DM (i:=2) b rfl (Or.inr rfl) ((Tw X G B).q2 a (Aw An (pv 0) (BX BZ AN) (λ_ _=>rfl)) (pv 1))) (AS (Af (Bt (N:=["whole","prime","factor"]) (capt:=[none,some 1,some 2]) (xo:=none) rfl (BlkOk1.of rfl rfl (λ_=>⟨rfl,λ_=>rfl⟩) rfl (Du.mpr ⟨rfl,(BR.mpr rfl)⟩) rfl rfl rfl) (Bq (pv 0)) (λ_ _ _ _=>(Aa (i:=0) (show (["whole","prime","factor"]:cT).Nodup by decide +kernel) rfl li)) (λ_ _ _ _=>(AR CQ (AR Az (pv 0) (pv 2)) (pv 1))))))))
theorem Mi:K' P w mg base 2 "reduced_modulo" ["rows","prime"] Ht:=Ak (f:=119) (c:=118) (pm:=N') (st:=Vn) X G λF=>J' F (xT ) λb a d e=>(AL (DM (i:=2) a rfl (Or.inr rfl) (Bt (N:=["row","prime"]) (capt:=[none,some 1]) (xo:=none) rfl (BlkOk1.of rfl rfl (λ_=>⟨rfl,λ_=>rfl⟩) rfl (BR.mpr rfl) rfl rfl rfl) (Bq (pv 0)) (λ_ _ _ _=>(Aa (i:=0) (show (["row","prime"]:cT).Nodup by decide +kernel) rfl li)) (λ_ _ _ _=>((Tx X G B).q2 b (pv 0) (pv 1))))) (AL (B_ a (Xr rfl B.list rfl B.range rfl (AE (Ai BO rfl B.len Ar (AE (pv 0) AK)) AK))) (AL (B_ a (BS AK)) (AL (CC PassesOwn.never rfl (Di rfl B.range (AE (Fy (Gh (pv 0) (λ_=>rfl)) (Ai BO rfl B.len Ar (AE (xI An (pv 0)) AK)) AN) AK)) (Aa (i:=5) a rfl (Or.inr rfl)) (AL (B_ a (Ai BO rfl B.len Ar (AE (pv 4) AK))) (AL (X9 (i:=7) (N:=["place","column","left"]) (capt:=[none,some 5,some 2]) (xo:=none) a rfl li rfl (BlkOk1.of rfl rfl (λ_=>⟨rfl,λ_=>rfl⟩) rfl (Du.mpr ⟨rfl,(BR.mpr rfl)⟩) rfl rfl rfl) (UY rfl B.range (AE (pv 6) (AE (Ai BO rfl B.len Ar (AE (pv 2) AK)) AK))) (λ_ _ _ _=>(Aa (i:=0) (show (["place","column","left"]:cT).Nodup by decide +kernel) rfl li)) (λ_ _ _ _=>(cR FT (Aw An (Aw An (pv 2) (pv 0) (λ_ _=>rfl)) (pv 1) (λ_ _=>rfl)) AN)) (λ_ _ _ _=>(pv 0))) (AS (Bp (Gh (pv 7) (λ_=>rfl)) (AL (DM (i:=2) a rfl (Or.inr rfl) ((Ty X G B).q3 b (pv 2) (pv 6) (xI An (pv 7)))) (AL (B_ a ((Ty X G B).q3 b (pv 3) (pv 6) (xI An (pv 7)))) (AL (DM (i:=8) a rfl (Or.inr rfl) ((Tw X G B).q2 b (Aw An (Aw An (pv 2) (pv 6) (λ_ _=>rfl)) (pv 5) (λ_ _=>rfl)) (pv 1))) (AL (DM (i:=9) a rfl (Or.inr rfl) (Bt (N:=["whole","prime","factor"]) (capt:=[none,some 1,some 8]) (xo:=none) rfl (BlkOk1.of rfl rfl (λ_=>⟨rfl,λ_=>rfl⟩) rfl (Du.mpr ⟨rfl,(BR.mpr rfl)⟩) rfl rfl rfl) (Bq (Aw An (pv 2) (pv 6) (λ_ _=>rfl))) (λ_ _ _ _=>(Aa (i:=0) (show (["whole","prime","factor"]:cT).Nodup by decide +kernel) rfl li)) (λ_ _ _ _=>(AR CQ (AR Az (pv 0) (pv 2)) (pv 1))))) (AL (DM (i:=2) a rfl (Or.inr rfl) (Bt (N:=["row","lead","column","prime"]) (capt:=[none,some 9,some 5,some 1]) (xo:=none) rfl (BlkOk1.of rfl rfl (λ_=>⟨rfl,λ_=>rfl⟩) rfl (Du.mpr ⟨rfl,(Du.mpr ⟨rfl,(BR.mpr rfl)⟩)⟩) rfl rfl rfl) (Bq (pv 2)) (λ_ _ _ _=>(Aa (i:=0) (show (["row","lead","column","prime"]:cT).Nodup by decide +kernel) rfl li)) (λ_ _ _ _=>((sR X G B).pe b ∅ rfl (AE (pv 0) (AE (pv 1) (AE (pv 2) (AE (pv 3) AK)))))))) (AL (C8 (pv 9) (DL (pv 2) (pv 6) Cu)) (AS (FS (F1 bY cA cB Gd (pv 4) (AE (pv 5) AK)))))))))) Bv))))) (AS (Af (Ba (AE (DQ Ea (pv 2) DN (DO (Ai BO rfl B.len Ar (AE (pv 4) AK)))) (AE (DQ Ea (pv 3) DN (DO (Ai BO rfl B.len Ar (AE (pv 4) AK)))) (AE (pv 4) AK))))))))))
theorem IV:K' P w mg base 2 "ratio" ["top","bottom"] Fl:=Ak (f:=145) (c:=144) (pm:=a_) (st:=Vr) X G λF=>J' F (zN ) λb a d e=>(AL (B_ a ((IS X G B).q2 b (pv 0) (pv 1))) (AL (Bp (cR E8 (pv 1) AN) (AS (B_ a (BX BZ (pv 2)))) Bv) (AS (Af (Ba (AE (AR FY (pv 0) (pv 2)) (AE (AR FY (pv 1) (pv 2)) AK)))))))
theorem GY:K' P w mg base 2 "cleared" ["P"] Ev:=Ak (f:=171) (c:=170) (pm:=a9) (st:=Vv) X G λF=>J' F (zO ) λb a d e=>(AL (DM (i:=1) a rfl (Or.inr rfl) AN) (AL (CC PassesOwn.never rfl (Nx (pv 0)) (Aa (i:=2) a rfl li) (AS (EW (i:=1) a rfl (Or.inr rfl) (AR GC (xI AZ (pv 2)) ((IS X G B).q2 b (pv 1) (xI AZ (pv 2)))) HX))) (AS (Af (Ba (AE (Bt (N:=["number","bottom"]) (capt:=[none,some 1]) (xo:=none) rfl (BlkOk1.of rfl rfl (λ_=>⟨rfl,λ_=>rfl⟩) rfl (BR.mpr rfl) rfl rfl rfl) (Nx (pv 0)) (λ_ _ _ _=>(Aa (i:=0) (show (["number","bottom"]:cT).Nodup by decide +kernel) rfl li)) (λ_ _ _ _=>(AR Az (xI AZ (pv 0)) (AR GC (pv 1) (xI AZ (pv 0)))))) (AE (pv 1) AK)))))))
theorem T1:K' P w mg base 2 "crossed" ["rows"] JZ:=Ak (f:=260) (c:=259) (pm:=Q_) (st:=V7) X G λF=>J' F (wB ) λa b d e=>(AS (Af (Bt (N:=["place","rows"]) (capt:=[none,some 0]) (xo:=none) rfl (BlkOk1.of rfl rfl (λ_=>⟨rfl,λ_=>rfl⟩) rfl (BR.mpr rfl) rfl rfl rfl) (Di rfl B.range (AE ((Mg X G B).q1 a (pv 0)) AK)) (λ_ _ _ _=>(Aa (i:=0) (show (["place","rows"]:cT).Nodup by decide +kernel) rfl li)) (λ_ _ _ _=>((sU X G B).q2 a (pv 1) (pv 0))))))
theorem rG:K' P w mg base 2 "solves" ["minor","guess","due"] LX:=Ak (f:=292) (c:=291) (pm:=Q_) (st:=WE) X G λF=>J' F (wN ) λb a d e=>(AL (CC PassesOwn.never rfl (FZ rfl B.zip (AE (pv 0) (AE (pv 2) AK))) (Cw rfl (BE (Aa (i:=3) a rfl li) (BE (Aa (i:=4) a rfl li) Cq))) (AS (Bp (cR FT ((IT X G B).q2 b (pv 3) (xI AZ (pv 1))) (AR Az (pv 4) (xI AZ (pv 1)))) (AS (Af Fw)) Bv))) (AS (Af Fw)))
theorem rH:K' P w mg base 2 "guessed" ["places","modulus"] LW:=Ak (f:=297) (c:=296) (pm:=Q_) (st:=WF) X G λF=>J' F (wM ) λb a d e=>(AL (B_ a (AR Xc AN (AR GC (AR Bj (NM PySem.F.plainAttrs_int PySem.F.slot_int_bit_length PyProof.Rows.type_int_bit_length Xd (pv 1)) AN) AN))) (AL (DM (i:=3) a rfl (Or.inr rfl) AN) (AL (CC PassesOwn.never rfl (Bq (pv 0)) (Aa (i:=4) a rfl li) (AS (Bp (cR EX (Ai F8 rfl B.abs F6 (AE ((T0 X G B).q2 b (AR Az (pv 4) (pv 3)) (pv 1)) AK)) (pv 2)) (AL (EW (i:=3) a rfl (Or.inr rfl) ((sV X G B).q3 b (AR CQ (AR Az (pv 4) (pv 3)) (pv 1)) (pv 1) (pv 2)) HX) (AS (Bp (cR EX (pv 3) (pv 2)) (AS (Af IW)) Bv))) Bv))) (AS (Af (Ba (AE (Bt (N:=["place","modulus","bottom"]) (capt:=[none,some 1,some 3]) (xo:=none) rfl (BlkOk1.of rfl rfl (λ_=>⟨rfl,λ_=>rfl⟩) rfl (Du.mpr ⟨rfl,(BR.mpr rfl)⟩) rfl rfl rfl) (Bq (pv 0)) (λ_ _ _ _=>(Aa (i:=0) (show (["place","modulus","bottom"]:cT).Nodup by decide +kernel) rfl li)) (λ_ _ _ _=>((T0 X G B).q2 b (AR Az (pv 0) (pv 2)) (pv 1)))) (AE (pv 3) AK))))))))
theorem rJ:K' P w mg base 2 "numbers_at" ["columns","place"] Ld:=Ak (f:=328) (c:=327) (pm:=aD) (st:=WK) X G λF=>J' F (uT ) λa b d e=>(AS (Af (Bt (N:=["P","place"]) (capt:=[none,some 1]) (xo:=none) rfl (BlkOk1.of rfl rfl (λ_=>⟨rfl,λ_=>rfl⟩) rfl (BR.mpr rfl) rfl rfl rfl) (Bq (pv 0)) (λ_ _ _ _=>(Aa (i:=0) (show (["P","place"]:cT).Nodup by decide +kernel) rfl li)) (λ_ _ _ _=>((HM X G B).q2 a (pv 0) (pv 1))))))
theorem T3:K' P w mg base 2 "_law_poly_of" ["_law_row","_law_scale_here"] Jc:=Ak (f:=368) (c:=367) (pm:=P_) (st:=WQ) X G λF=>J' F (vM ) λa b d e=>(AS (Af (Dv Gi rfl B.tuple F7 (AE (Bt (N:=["_law_one","_law_scale_here"]) (capt:=[none,some 1]) (xo:=none) rfl (BlkOk1.of rfl rfl (λ_=>⟨rfl,λ_=>rfl⟩) rfl (BR.mpr rfl) rfl rfl rfl) (Bq (pv 0)) (λ_ _ _ _=>(Aa (i:=0) (show (["_law_one","_law_scale_here"]:cT).Nodup by decide +kernel) rfl li)) (λ_ _ _ _=>((IU X G B).q2 a (AR Az (pv 0) (xI AZ (pv 1))) (xI AZ (pv 1))))) AK))))
theorem T5:K' P w mg base 2 "_law_scale" ["_law_hand_here"] Jd:=Ak (f:=375) (c:=374) (pm:=P_) (st:=WR) X G λF=>J' F (vQ ) λa b d e=>(AS (Af ((IU X G B).q2 a (AR Az (Aw An (BS (AE AN (AE (BX BZ AN) AK))) ((DU X G B).q2 a (pv 0) AN) (λ_ _=>rfl)) (AR BY AN ((DU X G B).q2 a (pv 0) AN))) (AR BY AN ((DU X G B).q2 a (pv 0) AN)))))
theorem J3:K' P w mg base 2 "_law_any_row" ["_law_hand_here","_law_most","_law_size"] GU:=Ak (f:=382) (c:=381) (pm:=P_) (st:=WS) X G λF=>J' F (vS ) λa b d e=>(AL (B_ b (BS AK)) (AL (CC PassesOwn.never rfl (Di rfl B.range (AE ((DU X G B).q2 a (pv 0) (AR BY (pv 1) AN)) AK)) (Aa (i:=4) b rfl li) (AS (FS (F1 bY cA cB Gd (pv 3) (AE (Aw An (BS (AE AN (AE AN (AE (BX BZ AN) (AE (AR Bj ((DU X G B).q2 a (pv 0) (AR BY (AR Az AN (pv 2)) AN)) (pv 2)) AK))))) ((DU X G B).q2 a (pv 0) AN) (λ_ _=>rfl)) AK))))) (AS (Af (AR F3 (pv 3) (BS (AE (AR Az (Aw An (BS (AE AN (AE (BX BZ AN) AK))) ((DU X G B).q2 a (pv 0) AN) (λ_ _=>rfl)) (AR BY AN ((DU X G B).q2 a (pv 0) (pv 2)))) AK)))))))
theorem rK:K' P w mg base 2 "_law_monic_of" ["_law_row"] La:=Ak (f:=387) (c:=386) (pm:=P_) (st:=WT) X G λF=>J' F (vN ) λa b d e=>(AS (Af (Dv Gi rfl B.tuple F7 (AE (Bt (N:=["_law_one","_law_row"]) (capt:=[none,some 0]) (xo:=none) rfl (BlkOk1.of rfl rfl (λ_=>⟨rfl,λ_=>rfl⟩) rfl (BR.mpr rfl) rfl rfl rfl) (Bq (pv 0)) (λ_ _ _ _=>(Aa (i:=0) (show (["_law_one","_law_row"]:cT).Nodup by decide +kernel) rfl li)) (λ_ _ _ _=>((IU X G B).q2 a (pv 0) (Aw An (pv 1) (BX BZ AN) (λ_ _=>rfl))))) AK))))
theorem Mj:K' P w mg base 2 "_law_sum" ["_law_one","_law_other"] IA:=Ak (f:=394) (c:=393) (pm:=P_) (st:=WU) X G λF=>J' F (vG ) λa b d e=>(AS (Af ((IU X G B).q2 a (AR BY (AR Az (xI AZ (pv 0)) (xI AZ (pv 1))) (AR Az (xI AZ (pv 1)) (xI AZ (pv 0)))) (AR Az (xI AZ (pv 0)) (xI AZ (pv 1))))))
theorem J4:K' P w mg base 2 "_law_product" ["_law_one","_law_other"] G6:=Ak (f:=401) (c:=400) (pm:=P_) (st:=WV) X G λF=>J' F (vH ) λa b d e=>(AS (Af ((IU X G B).q2 a (AR Az (xI AZ (pv 0)) (xI AZ (pv 1))) (AR Az (xI AZ (pv 0)) (xI AZ (pv 1))))))
theorem T7:K' P w mg base 3 "other_prime" ["prime"] JW:=Ak (f:=42) (c:=41) (pm:=N') (st:=Va) X G λF=>J' F (xJ ) λa b d e=>(AS (Af (Fy (cR Ct (pv 0) (IX rfl B.FIRST_PRIME ⟨_,rfl⟩)) (IX rfl B.SECOND_PRIME ⟨_,rfl⟩) ((sZ X G B).q1 a (pv 0)))))
theorem rN:K' P w mg base 3 "split_modulo" ["row","divisor","modulus"] LJ:=Ak (f:=107) (c:=106) (pm:=N') (st:=Vl) X G λF=>J' F (yF ) λb a d e=>(AL (B_ a (Dv Iu rfl B.list FX (AE (pv 0) AK))) (AL (B_ a (AR Bj (Ai BO rfl B.len Ar (AE (pv 1) AK)) AN)) (AL (B_ a (AR EY (BS (AE AN AK)) (Ai (HY rfl) rfl B.max Gf (AE (AR Bj (Ai BO rfl B.len Ar (AE (pv 0) AK)) (pv 4)) (AE AN AK))))) (AL (CC PassesOwn.never rfl (XG rfl B.range (AE (AR Bj (AR Bj (Ai BO rfl B.len Ar (AE (pv 0) AK)) (pv 4)) AN) (AE (BX BZ AN) (AE (BX BZ AN) AK)))) (Aa (i:=6) a rfl li) (AL (B_ a (AR CQ (Aw An (pv 3) (AR BY (pv 6) (pv 4)) (λ_ _=>rfl)) (pv 2))) (AL (C8 (pv 7) (DL (pv 5) (pv 6) Cu)) (AS (Bp (cR FT (pv 7) AN) (AS (CC PassesOwn.never rfl (Di rfl B.range (AE (pv 4) AK)) (Aa (i:=8) a rfl li) (AS (KA (pv 3) (AR BY (pv 6) (pv 8)) KP (AR Az (pv 7) (Aw An (pv 1) (pv 8) (λ_ _=>rfl))) Ig Cu)))) Bv))))) (AS (Af (Ba (AE ((Mf X G B).q1 b (pv 5)) (AE ((rE X G B).q2 b (DQ Ea (pv 3) DN (DO (pv 4))) (pv 2)) AK)))))))))
theorem rO:K' P w mg base 3 "plus" ["one","other"] LM:=Ak (f:=152) (c:=151) (pm:=a_) (st:=Vs) X G λF=>J' F (yW ) λa b d e=>(AS (Af ((IV X G B).q2 a (AR BY (AR Az (xI AZ (pv 0)) (xI AZ (pv 1))) (AR Az (xI AZ (pv 1)) (xI AZ (pv 0)))) (AR Az (xI AZ (pv 0)) (xI AZ (pv 1))))))
theorem rP:K' P w mg base 3 "minus" ["one","other"] LN:=Ak (f:=159) (c:=158) (pm:=a_) (st:=Vt) X G λF=>J' F (yX ) λa b d e=>(AS (Af ((IV X G B).q2 a (AR Bj (AR Az (xI AZ (pv 0)) (xI AZ (pv 1))) (AR Az (xI AZ (pv 1)) (xI AZ (pv 0)))) (AR Az (xI AZ (pv 0)) (xI AZ (pv 1))))))
theorem T8:K' P w mg base 3 "uncleared" ["row","bottom"] JT:=Ak (f:=176) (c:=175) (pm:=a9) (st:=Vw) X G λF=>J' F (zP ) λa b d e=>(AS (Af ((HL X G B).q1 a (Bt (N:=["whole","bottom"]) (capt:=[none,some 1]) (xo:=none) rfl (BlkOk1.of rfl rfl (λ_=>⟨rfl,λ_=>rfl⟩) rfl (BR.mpr rfl) rfl rfl rfl) (Bq (pv 0)) (λ_ _ _ _=>(Aa (i:=0) (show (["whole","bottom"]:cT).Nodup by decide +kernel) rfl li)) (λ_ _ _ _=>((IV X G B).q2 a (pv 0) (pv 1)))))))
theorem Ml:K' P w mg base 3 "numbers_over" ["wholes","bottom"] Hw:=Ak (f:=255) (c:=254) (pm:=Q_) (st:=V6) X G λF=>J' F (xY ) λa b d e=>(AS (Af (Dv Gi rfl B.tuple F7 (AE (Bt (N:=["whole","bottom"]) (capt:=[none,some 1]) (xo:=none) rfl (BlkOk1.of rfl rfl (λ_=>⟨rfl,λ_=>rfl⟩) rfl (BR.mpr rfl) rfl rfl rfl) (Bq (pv 0)) (λ_ _ _ _=>(Aa (i:=0) (show (["whole","bottom"]:cT).Nodup by decide +kernel) rfl li)) (λ_ _ _ _=>((IV X G B).q2 a (pv 0) (pv 1)))) AK))))
theorem rQ:K' P w mg base 3 "inverse_rows" ["rows","prime"] LU:=Ak (f:=270) (c:=269) (pm:=Q_) (st:=V9) X G λF=>J' F (wF ) λa b d e=>(AL (DM (i:=2) b rfl (Or.inr rfl) (Ai BO rfl B.len Ar (AE (pv 0) AK))) (AL (Eb (i:=3) (N:=["place","row","many"]) (capt:=[none,none,some 2]) (xo:=none) b rfl li rfl (BlkOk1.of rfl rfl (λ_=>⟨rfl,λ_=>rfl⟩) rfl (BR.mpr rfl) rfl rfl rfl) (GA rfl B.enumerate (AE (pv 0) AK)) (λ_ _ _ _=>(Cw rfl (BE (Aa (i:=0) (show (["place","row","many"]:cT).Nodup by decide +kernel) rfl li) (BE (Aa (i:=1) (show (["place","row","many"]:cT).Nodup by decide +kernel) rfl li) Cq)))) (λ_ _ _ _=>(AR F3 (pv 1) ((J0 X G B).q3 a (BS (AE (pv 0) AK)) (BS (AE AN AK)) (pv 2))))) (AS (Af (Bt (N:=["row","many"]) (capt:=[none,some 2]) (xo:=none) rfl (BlkOk1.of rfl rfl (λ_=>⟨rfl,λ_=>rfl⟩) rfl (BR.mpr rfl) rfl rfl rfl) (Bq (xI AZ ((Mi X G B).q2 a (pv 3) (pv 1)))) (λ_ _ _ _=>(Aa (i:=0) (show (["row","many"]:cT).Nodup by decide +kernel) rfl li)) (λ_ _ _ _=>(DQ Ea (pv 0) (DO (pv 1)) DN)))))))
theorem Mm:K' P w mg base 3 "settled" ["minor","turned","due","prime"] Hy:=Ak (f:=285) (c:=284) (pm:=Q_) (st:=WD) X G λF=>J' F (wQ ) λb a d e=>(AL (B_ a (pv 2)) (AL (B_ a (AR EY (BS (AE AN AK)) (Ai BO rfl B.len Ar (AE (pv 2) AK)))) (AL (DM (i:=6) a rfl (Or.inr rfl) AN) (AL (B_ a AN) (AS (C9 PassesOwn.never (HQ Fw) (AL (CC PassesOwn.never rfl (Di rfl B.range (AE (pv 7) AK)) (Aa (i:=8) a rfl li) (AL (DM (i:=9) a rfl (Or.inr rfl) (Bt (N:=["whole","prime"]) (capt:=[none,some 3]) (xo:=none) rfl (BlkOk1.of rfl rfl (λ_=>⟨rfl,λ_=>rfl⟩) rfl (BR.mpr rfl) rfl rfl rfl) (Bq (pv 4)) (λ_ _ _ _=>(Aa (i:=0) (show (["whole","prime"]:cT).Nodup by decide +kernel) rfl li)) (λ_ _ _ _=>(AR CQ (pv 0) (pv 1))))) (AL (DM (i:=10) a rfl (Or.inr rfl) (Bt (N:=["row","prime","short"]) (capt:=[none,some 3,some 9]) (xo:=none) rfl (BlkOk1.of rfl rfl (λ_=>⟨rfl,λ_=>rfl⟩) rfl (Du.mpr ⟨rfl,(BR.mpr rfl)⟩) rfl rfl rfl) (Bq (pv 1)) (λ_ _ _ _=>(Aa (i:=0) (show (["row","prime","short"]:cT).Nodup by decide +kernel) rfl li)) (λ_ _ _ _=>(AR CQ ((IT X G B).q2 b (pv 0) (pv 2)) (pv 1))))) (AL (Eb (i:=5) (N:=["whole","more","scale"]) (capt:=[none,none,some 6]) (xo:=none) a rfl li rfl (BlkOk1.of rfl rfl (λ_=>⟨rfl,λ_=>rfl⟩) rfl (BR.mpr rfl) rfl rfl rfl) (FZ rfl B.zip (AE (pv 5) (AE (pv 10) AK))) (λ_ _ _ _=>(Cw rfl (BE (Aa (i:=0) (show (["whole","more","scale"]:cT).Nodup by decide +kernel) rfl li) (BE (Aa (i:=1) (show (["whole","more","scale"]:cT).Nodup by decide +kernel) rfl li) Cq)))) (λ_ _ _ _=>(AR BY (pv 0) (AR Az (pv 2) (pv 1))))) (AL (Eb (i:=4) (N:=["whole","row","prime","found"]) (capt:=[none,none,some 3,some 10]) (xo:=none) a rfl li rfl (BlkOk1.of rfl rfl (λ_=>⟨rfl,λ_=>rfl⟩) rfl (Du.mpr ⟨rfl,(BR.mpr rfl)⟩) rfl rfl rfl) (FZ rfl B.zip (AE (pv 4) (AE (pv 0) AK))) (λ_ _ _ _=>(Cw rfl (BE (Aa (i:=0) (show (["whole","row","prime","found"]:cT).Nodup by decide +kernel) rfl li) (BE (Aa (i:=1) (show (["whole","row","prime","found"]:cT).Nodup by decide +kernel) rfl li) Cq)))) (λ_ _ _ _=>(AR GC (AR Bj (pv 0) ((IT X G B).q2 b (pv 1) (pv 3))) (pv 2)))) (AS (EW (i:=6) a rfl (Or.inr rfl) (pv 3) HX))))))) (AL (B_ a ((rH X G B).q2 b (pv 5) (pv 6))) (AL (Bp (PW.pt (FR (cR Uh (pv 11) IW) (Fx (HQ ((rG X G B).q3 b (pv 0) (pv 11) (pv 2)))))) (AS (Af (pv 11))) Bv) (AS (EW (i:=7) a rfl li AN HX)))))))))))
theorem rR:K' P w mg base 3 "_law_times" ["_law_kp","_law_kq"] Lb:=Ak (f:=415) (c:=414) (pm:=P_) (st:=WY) X G λF=>J' F (vV ) λb a d e=>(AL (B_ a (AR EY (BS (AE (Ba (AE AN (AE AN AK))) AK)) (AR BY (Ai CF rfl B.len Ar (AE (pv 0) AK)) (Ai CF rfl B.len Ar (AE (pv 1) AK))))) (AL (CC PassesOwn.never rfl (Nd rfl B.enumerate (AE (pv 0) AK)) (Cw rfl (BE (Aa (i:=3) a rfl li) (BE (Aa (i:=4) a rfl li) Cq))) (AS (CC PassesOwn.never rfl (Nd rfl B.enumerate (AE (pv 1) AK)) (Cw rfl (BE (Aa (i:=5) a rfl li) (BE (Aa (i:=6) a rfl li) Cq))) (AS (C8 ((Mj X G B).q2 b (Aw An (pv 2) (AR BY (pv 3) (pv 5)) (λ_ _=>rfl)) ((J4 X G B).q2 b (pv 4) (pv 6))) (DL (pv 2) (AR BY (pv 3) (pv 5)) Cu)))))) (AS (Af ((J2 X G B).q1 b (pv 2))))))
theorem T9:K' P w mg base 3 "_law_rest" ["_law_kp","_law_kw"] IB:=Ak (f:=422) (c:=421) (pm:=P_) (st:=WZ) X G λF=>J' F (uS ) λa b d e=>(AL (B_ b (Dv KO rfl B.list FX (AE (pv 0) AK))) (AL (C9 PassesOwn.never (cR M3 (Ai BO rfl B.len Ar (AE (pv 2) AK)) (Ai CF rfl B.len Ar (AE (pv 1) AK))) (AL (B_ b ((J4 X G B).q2 a (Aw An (pv 2) (BX BZ AN) (λ_ _=>rfl)) (Fy (cR E8 (xI AZ (Aw AZ (pv 1) (BX BZ AN) (λ_ _=>rfl))) AN) (Ba (AE (BX BZ (xI AZ (Aw AZ (pv 1) (BX BZ AN) (λ_ _=>rfl)))) (AE (BX BZ (xI AZ (Aw AZ (pv 1) (BX BZ AN) (λ_ _=>rfl)))) AK))) (Ba (AE (xI AZ (Aw AZ (pv 1) (BX BZ AN) (λ_ _=>rfl))) (AE (xI AZ (Aw AZ (pv 1) (BX BZ AN) (λ_ _=>rfl))) AK)))))) (AL (CC PassesOwn.never rfl (Di rfl B.range (AE (Ai CF rfl B.len Ar (AE (pv 1) AK)) AK)) (Aa (i:=4) b rfl li) (AL (B_ b (AR BY (AR Bj (Ai BO rfl B.len Ar (AE (pv 2) AK)) (Ai CF rfl B.len Ar (AE (pv 1) AK))) (pv 4))) (AS (C8 ((Mj X G B).q2 a (Aw An (pv 2) (pv 5) (λ_ _=>rfl)) ((J4 X G B).q2 a (pv 3) (Ba (AE (BX BZ (xI AZ (Aw AZ (pv 1) (pv 4) (λ_ _=>rfl)))) (AE (xI AZ (Aw AZ (pv 1) (pv 4) (λ_ _=>rfl))) AK))))) (DL (pv 2) (pv 5) Cu))))) (AS (FS (NM bY PySem.F.slot_list_pop PySem.F.type_list_pop VR (pv 2))))))) (AS (Af ((J2 X G B).q1 a (pv 2))))))
theorem rS:K' P w mg base 3 "_law_case" ["_law_hand_here"] Li:=Ak (f:=450) (c:=449) (pm:=P_) (st:=Wd) X G λF=>J' F (sI ) λa b e d=>(AL (B_ b ((J1 X G B).q2 a ((J3 X G B).q3 a (pv 0) AN AN) (BS (AE (AR Bj ((DU X G B).q2 a (pv 0) AN) AN) (AE AN AK))))) (AL (Bp (cR Ct ((DU X G B).q2 a (pv 0) AN) AN) (AS (B_ b ((J1 X G B).q2 a (pv 1) (BS (AE (AR Bj ((DU X G B).q2 a (pv 0) AN) AN) (AE (AR Bj ((DU X G B).q2 a (pv 0) AN) AN) (AE AN AK))))))) Bv) (AL (Bp (PW.pt (FR (cR E8 (Ai BO rfl B.len Ar (AE (pv 1) AK)) AN) (Fx (cR Ct ((DU X G B).q2 a (pv 0) AN) AN)))) (AS (B_ b ((J1 X G B).q2 a (pv 1) (pv 1)))) (AS (Bp (cR Ct ((DU X G B).q2 a (pv 0) AN) AN) (AS (B_ b ((J1 X G B).q2 a (pv 1) ((J3 X G B).q3 a (pv 0) AN AN)))) Bv))) (AL (B_ b ((rK X G B).q1 a (pv 1))) (AL (B_ b ((T3 X G B).q2 a ((J3 X G B).q3 a (pv 0) AN AN) ((T5 X G B).q1 a (pv 0)))) (AL (B_ b ((DU X G B).q2 a (pv 0) AN)) (AL (Bp (cR Ct (pv 4) AN) (AS (B_ b (Ba AK))) Bv) (AL (Bp (cR Ct (pv 4) AN) (AS (B_ b (Fy (cR (Ng d) ((J2 X G B).q1 a (Dv KO rfl B.list FX (AE (DQ KQ (pv 2) DN (DO (BX BZ AN))) AK))) (DQ KQ (pv 2) DN (DO (BX BZ AN)))) (DQ KQ (pv 2) DN (DO (BX BZ AN))) (pv 3)))) Bv) (AS (Af (Ba (AE (pv 3) (AE (pv 2) AK)))))))))))))
theorem rV:K' P w mg base 4 "rest_modulo" ["row","divisor","modulus"] LK:=Ak (f:=114) (c:=113) (pm:=N') (st:=Vm) X G λF=>J' F (yE ) λa b d e=>(AS (Af (xI AZ ((rN X G B).q3 a (pv 0) (pv 1) (pv 2)))))
theorem rW:K' P w mg base 4 "p_plus" ["P","Q"] LO:=Ak (f:=188) (c:=187) (pm:=a9) (st:=Vy) X G λF=>J' F (xC ) λa b d e=>(AS (Af ((HL X G B).q1 a (Bt (N:=["place","P","Q"]) (capt:=[none,some 0,some 1]) (xo:=none) rfl (BlkOk1.of rfl rfl (λ_=>⟨rfl,λ_=>rfl⟩) rfl (Du.mpr ⟨rfl,(BR.mpr rfl)⟩) rfl rfl rfl) (Di rfl B.range (AE (Ai (HY rfl) rfl B.max Gf (AE (Ai CF rfl B.len Ar (AE (pv 0) AK)) (AE (Ai CF rfl B.len Ar (AE (pv 1) AK)) AK))) AK)) (λ_ _ _ _=>(Aa (i:=0) (show (["place","P","Q"]:cT).Nodup by decide +kernel) rfl li)) (λ_ _ _ _=>((rO X G B).q2 a ((HM X G B).q2 a (pv 1) (pv 0)) ((HM X G B).q2 a (pv 2) (pv 0))))))))
theorem rX:K' P w mg base 4 "p_minus" ["P","Q"] LP:=Ak (f:=193) (c:=192) (pm:=a9) (st:=Vz) X G λF=>J' F (yZ ) λa b d e=>(AS (Af ((HL X G B).q1 a (Bt (N:=["place","P","Q"]) (capt:=[none,some 0,some 1]) (xo:=none) rfl (BlkOk1.of rfl rfl (λ_=>⟨rfl,λ_=>rfl⟩) rfl (Du.mpr ⟨rfl,(BR.mpr rfl)⟩) rfl rfl rfl) (Di rfl B.range (AE (Ai (HY rfl) rfl B.max Gf (AE (Ai CF rfl B.len Ar (AE (pv 0) AK)) (AE (Ai CF rfl B.len Ar (AE (pv 1) AK)) AK))) AK)) (λ_ _ _ _=>(Aa (i:=0) (show (["place","P","Q"]:cT).Nodup by decide +kernel) rfl li)) (λ_ _ _ _=>((rP X G B).q2 a ((HM X G B).q2 a (pv 1) (pv 0)) ((HM X G B).q2 a (pv 2) (pv 0))))))))
theorem UA:K' P w mg base 4 "p_times" ["P","Q"] JV:=Ak (f:=200) (c:=199) (pm:=a9) (st:=V0) X G λF=>J' F (yT ) λa b d e=>(AL (B_ b ((GY X G B).q1 a (pv 0))) (AL (B_ b ((GY X G B).q1 a (pv 1))) (AS (Af ((T8 X G B).q2 a ((Tv X G B).q2 a (xI AZ (pv 2)) (xI AZ (pv 3))) (AR Az (xI AZ (pv 2)) (xI AZ (pv 3))))))))
theorem J5:K' P w mg base 4 "p_split" ["P","Q"] GP:=Ak (f:=207) (c:=206) (pm:=a9) (st:=V1) X G λF=>J' F (yQ ) λb a d e=>(AL (B_ a ((GY X G B).q1 b (pv 0))) (AL (B_ a ((GY X G B).q1 b (pv 1))) (AL (B_ a (xI AZ (pv 2))) (AL (B_ a (xI AZ (pv 2))) (AL (B_ a (Aw An (xI AZ (pv 3)) (BX BZ AN) (λ_ _=>rfl))) (AL (B_ a (AR EY (BS (AE (Ba (AE AN (AE AN AK))) AK)) (Ai (HY rfl) rfl B.max Gf (AE (AR BY (AR Bj (Ai CF rfl B.len Ar (AE (pv 0) AK)) (Ai CF rfl B.len Ar (AE (pv 1) AK))) AN) (AE AN AK))))) (AL (C9 PassesOwn.never (cR M3 (Ai BO rfl B.len Ar (AE (pv 4) AK)) (Ai CF rfl B.len Ar (AE (pv 1) AK))) (AL (B_ a (AR Bj (Ai BO rfl B.len Ar (AE (pv 4) AK)) (Ai CF rfl B.len Ar (AE (pv 1) AK)))) (AL (C8 ((IV X G B).q2 b (AR Az (Aw An (pv 4) (BX BZ AN) (λ_ _=>rfl)) (xI AZ (pv 3))) (AR Az (pv 5) (pv 6))) (DL (pv 7) (pv 8) Cu)) (AL (B_ a ((IS X G B).q2 b (Aw An (pv 4) (BX BZ AN) (λ_ _=>rfl)) (pv 6))) (AL (B_ a ((rD X G B).pe b ∅ rfl (AE (pv 4) (AE (AR FY (pv 6) (pv 9)) (AE (xI AZ (pv 3)) (AE (AR FY (Aw An (pv 4) (BX BZ AN) (λ_ _=>rfl)) (pv 9)) (AE (pv 8) AK))))))) (AL (EW (i:=5) a rfl li (AR FY (pv 6) (pv 9)) HX) (AL (B_ a ((rC X G B).q2 b (pv 4) (pv 5))) (AL (B_ a ((sQ X G B).q2 b (pv 4) (pv 10))) (AS (EW (i:=5) a rfl li (pv 10) XW)))))))))) (AS (Af (Ba (AE ((HL X G B).q1 b (pv 7)) (AE ((T8 X G B).q2 b (pv 4) (pv 5)) AK))))))))))))
theorem UB:Mak P w (hp w.params) mg base 4 "Core" (B1 (hp w.params)) ["self","sides","prime"] (GR (hp w.params)):=by
 rw [Tu];let F:=NT (x := "__init__") (qual := "Core.__init__") (st:=NU) (show (hp w.params).lookup 224=some (fnQ "__init__" "Core.__init__" NU Q_ 223) by kernel_rfl) (by kernel_rfl) (by kernel_rfl);exact ⟨224,_,⟨by kernel_rfl,by kernel_rfl,by kernel_rfl,by kernel_rfl⟩,J' F (wG Jz) λa b e f=>(AL (B_ b ((Mi X G B).q2 a (pv 1) (pv 2))) (AL (HV (pv 0) (pv 2) rfl) (AL (HV (pv 0) (xI AZ (pv 3)) rfl) (AL (HV (pv 0) (xI AZ (pv 3)) rfl) (AL (HV (pv 0) (Bt (N:=["line","sides","self"]) (capt:=[none,some 1,some 0]) (xo:=none) rfl (BlkOk1.of rfl rfl (λ_=>⟨rfl,λ_=>rfl⟩) rfl (Du.mpr ⟨rfl,(BR.mpr rfl)⟩) rfl rfl rfl) (Bq (Ck (pv 0) rfl)) (λ_ _ _ _=>(Aa (i:=0) (show (["line","sides","self"]:cT).Nodup by decide +kernel) rfl li)) (λ_ _ _ _=>((Mh X G B).q2 a (Aw An (pv 1) (pv 0) (λ_ _=>rfl)) (Ck (pv 2) rfl)))) rfl) (AS (HV (pv 0) ((rQ X G B).q2 a (Ck (pv 0) rfl) (pv 2)) rfl))))))),F.binds λ_ _ _ _ _ _ c d=>by let ⟨_,_,_,rfl⟩:=Me c d;rfl,W.mg_of X G (by kernel_rfl)⟩
theorem UC:K' P w mg base 4 "frees_of" ["sides","core"] Hz:=Ak (f:=275) (c:=274) (pm:=Q_) (st:=WA) X G λF=>J' F (wS Jz) λb a e d=>(AL (B_ a ((Mg X G B).q1 b (pv 0))) (AL (B_ a (BS AK)) (AL (CC PassesOwn.never rfl (Di rfl B.range (AE (pv 2) AK)) (Aa (i:=4) a rfl (Or.inr rfl)) (AS (Bp (M4 (Xa d) (pv 4) (Ck (pv 1) rfl) rfl) (AL (Eb (i:=5) (N:=["line","column","sides"]) (capt:=[none,some 4,some 0]) (xo:=none) a rfl li rfl (BlkOk1.of rfl rfl (λ_=>⟨rfl,λ_=>rfl⟩) rfl (Du.mpr ⟨rfl,(BR.mpr rfl)⟩) rfl rfl rfl) (Bq (Ck (pv 1) rfl)) (λ_ _ _ _=>(Aa (i:=0) (show (["line","column","sides"]:cT).Nodup by decide +kernel) rfl li)) (λ_ _ _ _=>(BX BZ (Aw An (Aw An (pv 2) (pv 0) (λ_ _=>rfl)) (pv 1) (λ_ _=>rfl))))) (AL (B_ a ((Mm X G B).pe b ∅ rfl (AE (Ck (pv 1) rfl) (AE (Ck (pv 1) rfl) (AE (pv 5) (AE (Ck (pv 1) rfl) AK)))))) (AL (DM (i:=7) a rfl (Or.inr rfl) ((J0 X G B).q3 b (Ck (pv 1) rfl) (xI AZ (pv 6)) (pv 2))) (AL (C8 (xI AZ (pv 6)) (DL (pv 7) (pv 4) Cu)) (AL (Bp (HQ (Ai (XR rfl) rfl B.any XQ (AE (Bt (N:=["side","row"]) (capt:=[none,some 7]) (xo:=none) rfl (BlkOk1.of rfl rfl (λ_=>⟨rfl,λ_=>rfl⟩) rfl (BR.mpr rfl) rfl rfl rfl) (Bq (pv 0)) (λ_ _ _ _=>(Aa (i:=0) (show (["side","row"]:cT).Nodup by decide +kernel) rfl li)) (λ_ _ _ _=>((IT X G B).q2 b (pv 0) (pv 1)))) AK))) (AS (Af IW)) Bv) (AS (FS (F1 bY cA cB Gd (pv 3) (AE ((Ml X G B).q2 b (pv 7) (xI AZ (pv 6))) AK))))))))) Bv))) (AS (Af (pv 3))))))
theorem rY:K' P w mg base 4 "weights_against" ["sides","core","place"] LY:=Ak (f:=280) (c:=279) (pm:=Q_) (st:=WC) X G λF=>J' F (wU Jz) λa b d e=>(AL (B_ b ((Mh X G B).q2 a (Aw An (pv 0) (pv 2) (λ_ _=>rfl)) (Ck (pv 1) rfl))) (AL (B_ b ((Mm X G B).pe a ∅ rfl (AE ((T1 X G B).q1 a (Ck (pv 1) rfl)) (AE ((T1 X G B).q1 a (Ck (pv 1) rfl)) (AE (pv 3) (AE (Ck (pv 1) rfl) AK)))))) (AL (B_ b ((J0 X G B).q3 a (Ck (pv 1) rfl) (Bt (N:=["whole"]) (capt:=[none]) (xo:=none) rfl (BlkOk1.of rfl rfl (λ_=>⟨rfl,λ_=>rfl⟩) rfl (λ_ h=>nomatch h) rfl rfl rfl) (Bq (xI AZ (pv 4))) (λ_ _ _ _=>(Aa (i:=0) (show (["whole"]:cT).Nodup by decide +kernel) rfl li)) (λ_ _ _ _=>(BX BZ (pv 0)))) (Ai BO rfl B.len Ar (AE (pv 0) AK)))) (AL (C8 (xI AZ (pv 4)) (DL (pv 5) (pv 2) Cu)) (AS (Af (Ba (AE (pv 5) (AE (xI AZ (pv 4)) AK)))))))))
theorem UD:K' P w mg base 4 "_law_powers" ["_law_kp","_law_kw","_law_many"] Je:=Ak (f:=436) (c:=435) (pm:=P_) (st:=Wb) X G λF=>J' F (tV ) λa b d e=>(AL (B_ b (BS (AE ((T9 X G B).q2 a (Ba (AE (Ba (AE AN (AE AN AK))) AK)) (pv 1)) AK))) (AL (C9 PassesOwn.never (cR E8 (Ai BO rfl B.len Ar (AE (pv 3) AK)) (pv 2)) (AS (FS (F1 bY cA cB Gd (pv 3) (AE ((T9 X G B).q2 a ((rR X G B).q2 a (Aw An (pv 3) (BX BZ AN) (λ_ _=>rfl)) (pv 0)) (pv 1)) AK))))) (AS (Af (pv 3)))))
theorem rZ:K' P w mg base 5 "put_into" ["m","P","W"] Lc:=Ak (f:=311) (c:=310) (pm:=aD) (st:=WH) X G λF=>J' F (tN ) λa b d e=>(AL (B_ b (xI AZ ((J5 X G B).q2 a (pv 1) (pv 2)))) (AL (B_ b (Ba AK)) (AL (CC PassesOwn.never rfl (X5 rfl B.reversed (AE (pv 0) AK)) (Aa (i:=5) b rfl li) (AS (B_ b (xI AZ ((J5 X G B).q2 a ((rW X G B).q2 a ((UA X G B).q2 a (pv 4) (pv 3)) ((HL X G B).q1 a (BS (AE (pv 5) AK)))) (pv 2)))))) (AS (Af (pv 4))))))
theorem qA:K' P w mg base 5 "least_rank" ["row","divisor"] Lf:=Ak (f:=335) (c:=334) (pm:=aD) (st:=WL) X G λF=>J' F (tH ) λb a d e=>(AL (B_ a (IX rfl B.FIRST_PRIME ⟨_,rfl⟩)) (AL (C9 PassesOwn.never (cR Ct (AR CQ (Aw An (pv 1) (BX BZ AN) (λ_ _=>rfl)) (pv 2)) AN) (AS (B_ a ((T7 X G B).q1 b (pv 2))))) (AL (B_ a ((rF X G B).q2 b (pv 1) (pv 2))) (AL (B_ a (AR Bj (Ai BO rfl B.len Ar (AE (pv 1) AK)) AN)) (AL (B_ a (BS AK)) (AL (B_ a (BS (AE AN AK))) (AL (CC PassesOwn.never rfl (Di rfl B.range (AE (pv 4) AK)) (Aa (i:=7) a rfl li) (AL (FS (F1 bY cA cB Gd (pv 5) (AE (AR F3 (pv 6) (AR EY (BS (AE AN AK)) (AR Bj (pv 4) (Ai BO rfl B.len Ar (AE (pv 6) AK))))) AK))) (AS (B_ a ((rV X G B).q3 b ((Tv X G B).q2 b (pv 6) (pv 0)) (pv 3) (pv 2)))))) (AS (Af (Ai BO rfl B.len Ar (AE (xI AZ ((Mi X G B).q2 b (pv 5) (pv 2))) AK)))))))))))
theorem UE:K' P w mg base 5 "_law_put" ["_law_m","_law_kp","_law_kw"] Jf:=Ak (f:=443) (c:=442) (pm:=P_) (st:=Wc) X G λF=>J' F (tY ) λa b d e=>(AL (B_ b (AR EY (BS (AE (Ba (AE AN (AE AN AK))) AK)) (Ai CF rfl B.len Ar (AE (pv 2) AK)))) (AL (CC PassesOwn.never rfl (Xm rfl B.zip (AE (pv 0) (AE ((UD X G B).q3 a (pv 1) (pv 2) (Ai CF rfl B.len Ar (AE (pv 0) AK))) AK))) (Cw rfl (BE (Aa (i:=4) b rfl li) (BE (Aa (i:=5) b rfl li) Cq))) (AS (CC PassesOwn.never rfl (Di rfl B.range (AE (Ai CF rfl B.len Ar (AE (pv 5) AK)) AK)) (Aa (i:=6) b rfl li) (AS (C8 ((Mj X G B).q2 a (Aw An (pv 3) (pv 6) (λ_ _=>rfl)) ((J4 X G B).q2 a (pv 4) (Aw AZ (pv 5) (pv 6) (λ_ _=>rfl)))) (DL (pv 3) (pv 6) Cu)))))) (AS (Af ((J2 X G B).q1 a (pv 3))))))
theorem UF:K' P w mg base 6 "solved" ["rows","due"] Jb:=Ak (f:=212) (c:=211) (pm:=Q_) (st:=V2) X G λF=>J' F (vD Jz) λa b d e=>(AL (Eb (i:=2) (N:=["row","number"]) (capt:=[none,none]) (xo:=none) b rfl li rfl (BlkOk1.of rfl rfl (λ_=>⟨rfl,λ_=>rfl⟩) rfl (λ_ h=>nomatch h) rfl rfl rfl) (FZ rfl B.zip (AE (pv 0) (AE (pv 1) AK))) (λ_ _ _ _=>(Cw rfl (BE (Aa (i:=0) (show (["row","number"]:cT).Nodup by decide +kernel) rfl li) (BE (Aa (i:=1) (show (["row","number"]:cT).Nodup by decide +kernel) rfl li) Cq)))) (λ_ _ _ _=>((GY X G B).q1 a (AR F3 (Dv Iu rfl B.list FX (AE (pv 0) AK)) (BS (AE (pv 1) AK)))))) (AL (Eb (i:=3) (N:=["line"]) (capt:=[none]) (xo:=none) b rfl li rfl (BlkOk1.of rfl rfl (λ_=>⟨rfl,λ_=>rfl⟩) rfl (λ_ h=>nomatch h) rfl rfl rfl) (Bq (pv 2)) (λ_ _ _ _=>(Aa (i:=0) (show (["line"]:cT).Nodup by decide +kernel) rfl li)) (λ_ _ _ _=>(DQ Ea (xI AZ (pv 0)) DN (DO (BX BZ AN))))) (AL (Eb (i:=4) (N:=["line"]) (capt:=[none]) (xo:=none) b rfl li rfl (BlkOk1.of rfl rfl (λ_=>⟨rfl,λ_=>rfl⟩) rfl (λ_ h=>nomatch h) rfl rfl rfl) (Bq (pv 2)) (λ_ _ _ _=>(Aa (i:=0) (show (["line"]:cT).Nodup by decide +kernel) rfl li)) (λ_ _ _ _=>(Aw An (xI AZ (pv 0)) (BX BZ AN) (λ_ _=>rfl)))) (AL (B_ b ((UB X G B).pe a ∅ rfl (AE (pv 3) (AE (IX rfl B.FIRST_PRIME ⟨_,rfl⟩) AK)))) (AL (B_ b ((UC X G B).q2 a (pv 3) (pv 5))) (AL (C9 PassesOwn.never (cR Ug (pv 6) IW) (AL (B_ b ((UB X G B).pe a ∅ rfl (AE (pv 3) (AE ((T7 X G B).q1 a (Ck (pv 5) rfl)) AK)))) (AS (B_ b ((UC X G B).q2 a (pv 3) (pv 5)))))) (AL (B_ b ((Mm X G B).pe a ∅ rfl (AE (Ck (pv 5) rfl) (AE (Ck (pv 5) rfl) (AE ((Mh X G B).q2 a (pv 4) (Ck (pv 5) rfl)) (AE (Ck (pv 5) rfl) AK)))))) (AL (B_ b ((J0 X G B).q3 a (Ck (pv 5) rfl) (xI AZ (pv 7)) ((Mg X G B).q1 a (pv 3)))) (AL (CC PassesOwn.never rfl (GA rfl B.enumerate (AE (pv 3) AK)) (Cw rfl (BE (Aa (i:=9) b rfl li) (BE (Aa (i:=10) b rfl li) Cq))) (AS (Bp (cR FT ((IT X G B).q2 a (pv 10) (pv 8)) (AR Az (Aw An (pv 4) (pv 9) (λ_ _=>rfl)) (xI AZ (pv 7)))) (AL (B_ b ((rY X G B).q3 a (pv 3) (pv 5) (pv 9))) (AL (Eb (i:=12) (N:=["weight","line"]) (capt:=[none,none]) (xo:=none) b rfl li rfl (BlkOk1.of rfl rfl (λ_=>⟨rfl,λ_=>rfl⟩) rfl (λ_ h=>nomatch h) rfl rfl rfl) (FZ rfl B.zip (AE (xI AZ (pv 11)) (AE (pv 2) AK))) (λ_ _ _ _=>(Cw rfl (BE (Aa (i:=0) (show (["weight","line"]:cT).Nodup by decide +kernel) rfl li) (BE (Aa (i:=1) (show (["weight","line"]:cT).Nodup by decide +kernel) rfl li) Cq)))) (λ_ _ _ _=>(AR Az (pv 0) (xI AZ (pv 1))))) (AS (Af (Ba (AE HP (AE ((Ml X G B).q2 a (pv 12) (xI AZ (pv 11))) AK))))))) Bv))) (AS (Af (Ba (AE HP (AE ((Ml X G B).q2 a (pv 8) (xI AZ (pv 7))) (AE (Dv Gi rfl B.tuple F7 (AE (pv 6) AK)) AK)))))))))))))))
theorem qB:K' P w mg base 7 "made_of" ["columns","P"] Le:=Ak (f:=323) (c:=322) (pm:=aD) (st:=WJ) X G λF=>J' F (uW ) λa b d e=>(AL (B_ b (Ai (X6 rfl) rfl B.max Gf (AE (AR F3 (BS (AE AN AK)) (Bt (N:=["column"]) (capt:=[none]) (xo:=none) rfl (BlkOk1.of rfl rfl (λ_=>⟨rfl,λ_=>rfl⟩) rfl (λ_ h=>nomatch h) rfl rfl rfl) (Bq (AR F3 (pv 0) (BS (AE (pv 1) AK)))) (λ_ _ _ _=>(Aa (i:=0) (show (["column"]:cT).Nodup by decide +kernel) rfl li)) (λ_ _ _ _=>(Ai CF rfl B.len Ar (AE (pv 0) AK))))) AK))) (AL (Eb (i:=3) (N:=["place","columns"]) (capt:=[none,some 0]) (xo:=none) b rfl li rfl (BlkOk1.of rfl rfl (λ_=>⟨rfl,λ_=>rfl⟩) rfl (BR.mpr rfl) rfl rfl rfl) (Di rfl B.range (AE (pv 2) AK)) (λ_ _ _ _=>(Aa (i:=0) (show (["place","columns"]:cT).Nodup by decide +kernel) rfl li)) (λ_ _ _ _=>((rJ X G B).q2 a (pv 1) (pv 0)))) (AS (Af ((UF X G B).q2 a (pv 3) (Bt (N:=["place","P"]) (capt:=[none,some 1]) (xo:=none) rfl (BlkOk1.of rfl rfl (λ_=>⟨rfl,λ_=>rfl⟩) rfl (BR.mpr rfl) rfl rfl rfl) (Di rfl B.range (AE (pv 2) AK)) (λ_ _ _ _=>(Aa (i:=0) (show (["place","P"]:cT).Nodup by decide +kernel) rfl li)) (λ_ _ _ _=>((HM X G B).q2 a (pv 1) (pv 0)))))))))
theorem qC:K' P w mg base 8 "least" ["P","W"] Lg:=Ak (f:=318) (c:=317) (pm:=aD) (st:=WI) X G λF=>J' F (tT ) λa b d e=>(AL (B_ b (xI AZ ((J5 X G B).q2 a (pv 0) (pv 1)))) (AL (B_ b (BS (AE (Ba (AE (Ba (AE AN (AE AN AK))) AK)) AK))) (AL (B_ b ((qA X G B).q2 a (xI AZ ((GY X G B).q1 a (pv 2))) (xI AZ ((GY X G B).q1 a (pv 1))))) (AL (B_ b (Ba (AE HP AK))) (AL (C9 PassesOwn.never (cR Ct (xI AZ (pv 5)) HP) (AL (C9 PassesOwn.never (cR Mz (Ai BO rfl B.len Ar (AE (pv 3) AK)) (pv 4)) (AS (FS (F1 bY cA cB Gd (pv 3) (AE (xI AZ ((J5 X G B).q2 a ((UA X G B).q2 a (Aw An (pv 3) (BX BZ AN) (λ_ _=>rfl)) (pv 2)) (pv 1))) AK))))) (AL (B_ b ((qB X G B).q2 a (DQ Ea (pv 3) DN (DO (pv 4))) ((rX X G B).q2 a (Ba AK) (Aw An (pv 3) (pv 4) (λ_ _=>rfl))))) (AS (EW (i:=4) b rfl li AN Ie))))) (AS (Af ((HL X G B).q1 a (AR F3 (Dv KO rfl B.list FX (AE (xI AZ (pv 5)) AK)) (BS (AE (Ba (AE AN (AE AN AK))) AK)))))))))))
end
def all_mk {l:W.OpenLaw} {w:World} {h:Heap} {g:cP} {m:Addr} (X:(hp w.params).In h) (G:h.Ns mainGlobals g) (k:g "law" = ↥m)
  : ∃ o:FuncData,(∀ (s:Shared) (v:Value),BindsTo s o ⟨[v],[]⟩ [("_law_script", v)])/\∀ a:Heap,(hp w.params).In a->a.Ns mainGlobals g->FnOk l.prog w (hp w.params) g a am 9 m o ["_law_script"] (JP (hp w.params)):=by
 let e:=k.symm.trans (W.mg_of X G (n := "law") (v:=.ref 455) (by kernel_rfl));cases e;let B:Bl (hp w.params) g:=⟨W.mg_none_of X G (by kernel_rfl),W.mg_of X G (by kernel_rfl),W.mg_of X G (by kernel_rfl),W.mg_none_of X G (by kernel_rfl),W.mg_none_of X G (by kernel_rfl),W.mg_none_of X G (by kernel_rfl),W.mg_none_of X G (by kernel_rfl),W.mg_none_of X G (by kernel_rfl),W.mg_none_of X G (by kernel_rfl),W.mg_none_of X G (by kernel_rfl),W.mg_none_of X G (by kernel_rfl),W.mg_none_of X G (by kernel_rfl),W.mg_none_of X G (by kernel_rfl),W.mg_none_of X G (by kernel_rfl),W.mg_none_of X G (by kernel_rfl)⟩;let p:=Mc (K:=hp w.params) (st:=Ih) (f:=455) (c:=454) (n := "law") (pm:=P_) (by kernel_rfl) (by kernel_rfl) (by kernel_rfl);refine ⟨W.fnOf "law" "law" (EZ Ih) (Dw Ih) (Cv Ih) .none .none .none P_ none (.ref 454) .none,λs v=>.of_eq rfl,λa KB _=>?_⟩;exact J' p (sM ) λb d q j=>(AL (B_ d ((sW X G B).q1 b (pv 0))) (AL (C8 ((rS X G B).q1 b (pv 1)) (Cw rfl (BE (Aa (i:=2) d rfl li) (BE (Aa (i:=3) d rfl li) Cq)))) (AL (B_ d ((T3 X G B).q2 b ((J3 X G B).q3 b (pv 1) AN AN) ((T5 X G B).q1 b (pv 1)))) (AL (Bp (cR Ct ((DU X G B).q2 b (pv 1) AN) AN) (AS (B_ d (Ba AK))) Bv) (AL (Bp (cR (KN j) ((rZ X G B).q3 b (pv 4) (pv 2) (pv 3)) ((UE X G B).q3 b (pv 4) (pv 2) (pv 3))) (AS (Af Fw)) Bv) (AL (B_ d ((qC X G B).q2 b (pv 2) (pv 3))) (AL (Bp (PW.pt (IY (HR (HQ (Ai W5 rfl B.isinstance Wn (AE (pv 5) (AE (UQ rfl B.tuple F7 rfl) AK))))) (IY (cR E8 (Ai CF rfl B.len Ar (AE (pv 5) AK)) AN) (IY (cR EX (Ai CF rfl B.len Ar (AE (pv 5) AK)) (Ai CF rfl B.len Ar (AE (pv 3) AK))) (Mr (cR (KN j) (Aw AZ (pv 5) (BX BZ AN) (λ_ _=>rfl)) (Ba (AE AN (AE AN AK))))))))) (AS (Af Fw)) Bv) (AL (Bp (cR (KN j) ((UE X G B).q3 b (pv 5) (pv 2) (pv 3)) (Ba AK)) (AS (Af Fw)) Bv) (AL (DM (i:=6) d rfl (Or.inr rfl) ((UD X G B).q3 b (pv 2) (pv 3) (AR Bj (Ai CF rfl B.len Ar (AE (pv 5) AK)) AN))) (AL (Eb (i:=7) (N:=["_law_k","_law_rungs"]) (capt:=[none,some 6]) (xo:=some "_law_k") d rfl li rfl (BlkOk1.of rfl rfl (λ_=>⟨rfl,λ_=>rfl⟩) rfl (BR.mpr rfl) rfl rfl rfl) (Di rfl B.range (AE (AR Bj (Ai CF rfl B.len Ar (AE (pv 3) AK)) AN) AK)) (λ_ _ _ _=>(Aa (i:=0) (show (["_law_k","_law_rungs"]:cT).Nodup by decide +kernel) rfl (Or.inr rfl))) (λ_ _ _ _=>(Bt (N:=["_law_rung","_law_k"]) (capt:=[none,some 0]) (xo:=none) rfl (BlkOk1.of rfl rfl (λ_=>⟨rfl,λ_=>rfl⟩) rfl (BR.mpr rfl) rfl rfl rfl) (Bq (pv 1)) (λ_ _ _ _=>(Aa (i:=0) (show (["_law_rung","_law_k"]:cT).Nodup by decide +kernel) rfl li)) (λ_ _ _ _=>((sY X G B).q2 b (pv 0) (pv 1)))))) (AL (B_ d ((UF X G B).q2 b (pv 7) (AR EY (BS (AE (Ba (AE AN (AE AN AK))) AK)) (Ai BO rfl B.len Ar (AE (pv 7) AK))))) (AS (Af (US (KD Ct (xI AZ (pv 8)) HP (W_ _)) (UR (KD (Ng j) (xI AZ (pv 8)) (Ba AK) (W_ _)))))))))))))))))
def row_said {l:W.OpenLaw} (h:l.wellSaid=true):l.row.wellSaid=true:=by
 unfold W.OpenLaw.wellSaid at h;simp only [Bool.and_eq_true] at h;exact h.1.1.1.1.1.1.1.1.1.1.1.1.1.1.1.1.1.1
def walk {l:W.OpenLaw} {q:Program} {loose:cT} {XP:(cP)->Heap->Prop} {YP:World->Heap->Prop} {d:DefRec} {K:Params->W.Frag} (j:l.most=some 63) (e:d.params.defaults=[]) (m:importsNone q=true) (o:∀ w,(model l.prog w).prog.given.tree=none)
  (p:∀ (w:World) (h:Heap),YP w h->(K w.params).In h)
  (F:∀ (w:World) (c:cP) (g:Addr) (h:Heap),(K w.params).In h->h.Ns mainGlobals c->c d.name=↥g->
   ∃ i:FuncData,(∀ (s:Shared) (u:Value),BindsTo s i ⟨[u],[]⟩ [("_law_script", u)])/\∀ b:Heap,(K w.params).In b->b.Ns mainGlobals c->FnOk l.prog w (K w.params) c b am 9 g i ["_law_script"] (JP (K w.params))) :
  W.WalkO q loose XP YP l.row.toRowW d [] (λf r=>PySem.call f r):=
 L2.walk_of (n:=63) (k:=9) (x := "_law_script") (CX:=λ_=>am) (sp:=λw=>JP (K w.params)) j ∅ e m o ⟨rfl,∅,∅⟩ p F (λ_ _ a v y _ A=>⟨a,v,rfl,A,y,λ_=>rfl⟩) λ_ _ _ _ _ z=>z
end Bs
open PySem PySem.W PyProof.Rows
set_option maxRecDepth 100000 in
set_option maxHeartbeats 0 in
theorem PySem.Challenge.cw_backslope_k18_least_polynomials_holds : PySem.Challenge.rw_backslope_k18_least_polynomials.Holds := by
  let a : PySem.Challenge.rw_backslope_k18_least_polynomials.wellSaid = true := Bs.Hd.sd;refine ⟨a, ?_⟩;refine W.holds_open (q := Bs.Hd.vw) (loose := Bs.Hd.lo) (Xt := fun s => W.xlAt Bs.Hd.vw [] s && W.recOk (W.RowW.records (W.OpenRow.toRowW (W.OpenLaw.row PySem.Challenge.rw_backslope_k18_least_polynomials))) s) (XP := W.XL Bs.Hd.vw []) (Yf := Bs.Hd.hk.obs) (Ya := Bs.Hd.hk.val) (YP := Bs.Hd.hk.says) (N := 4766) Bs.Hd.left Bs.Hd.hk.of Bs.Hd.hk.keeps (fun s e => W.xl_of s (Bool.and_eq_true_iff.mp e).1) W.XL.keeps (by rfl) (by rfl) (by rfl) (fun s e => W.recFacts_of (Bool.and_eq_true_iff.mp e).2) (by rfl) (Bs.row_said a) (by decide +kernel) ⟨rfl, rfl, rfl, rfl, rfl, by decide +kernel⟩ ?hw ?hc
  case hw => w_witness2
  case hc => exact Bs.walk (l := PySem.Challenge.rw_backslope_k18_least_polynomials) (K := Bs.Hd.hp) rfl rfl (by decide +kernel) (fun _ => rfl) (fun w h Y => Y) (fun w d f h c G b => Bs.all_mk c G b)
#print axioms PySem.Challenge.cw_backslope_k18_least_polynomials_holds


