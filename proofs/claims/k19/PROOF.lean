import PyProof.Rows.All
import Wide.All
import OpenK.AllK
import Wide.FinOn
import Lean
import PyProof.EqAt
import PyProof.EqKinds
import PyProof.TupleCall
import PySem.Challenge.RW_backslope_k19_factors_that_meet
local macro_rules | `(()) => `(by grind)
local macro_rules | `(tactic| ext) => `(tactic| grind)
local macro_rules | `(⋯) => `(by omega)
local macro_rules | `(`a) => `(by omega)
local macro_rules | `(∅) => `(by decide)
local macro_rules | `(`b) => `(by decide)
local macro_rules | `(↑$x) => `(($x).length)
local macro_rules | `($x ^^^ $y) => `($x = some (.lst $y))
local macro_rules | `($x &&& $y) => `($x = some (.tup $y))
local macro_rules (kind := «term{_}») | s => do
  let mut o : Array (Lean.TSyntax `term) := #[]
  for e in (⟨s[1].getArgs⟩ : Lean.Syntax.TSepArray `term ",").getElems do
    match e.raw.isNatLit?.bind fun n => ["","_r","r","__rr","_r_r","____rr","__r","rr","_r__rr","__"][n]? with
    | some "" | none => o := o.push e
    | some w => for c in w.toList do o := o.push (<-if c == '_' then `(_) else `(rfl))
  `(⟨$[$o],*⟩)
local macro_rules | `(↥$x) => `(some (.ref $x))
local macro_rules | `(⇑$x) => `(($x).heap.objs.size)
local macro_rules | `(~~~$x) => `(($x).map $(Lean.mkIdent `L2.V.int))
def rP:Nat->Lean.Syntax->Lean.MacroM (Lean.TSyntax `rcasesPat)
 | 0,_=>Lean.Macro.throwUnsupported
 | n+1,s=>do
  let s:=if s.isOfKind Lean.choiceKind then (s.getArgs.find? (·.isOfKind `«term{_}»)).getD s else s
  if s.isOfKind `«term{_}» then
   let l<-(⟨s[1].getArgs⟩:Lean.Syntax.TSepArray `term ",").getElems.mapM (rP n ·)
   return (<-`(rcasesPat| ⟨$[$l:rcasesPat],*⟩))
  match s with
  | `(⟨$xs,*⟩)=>do
    let l<-xs.getElems.mapM (rP n ·)
    `(rcasesPat| ⟨$[$l:rcasesPat],*⟩)
  | `(_)=>`(rcasesPat| _)
  | `($i:ident)=>`(rcasesPat| $i:ident)
  | _=>Lean.Macro.throwUnsupported
local macro_rules
| `(tactic| let $x:ident := $e)=>`(tactic| have $x:ident := $e)
| `(tactic| let $x:ident : $t := $e)=>`(tactic| have $x:ident : $t := $e)
| `(tactic| let $p:term := $e)=>do `(tactic| obtain $(<-rP 9 p):rcasesPat := $e)
| `(tactic| let $p:term : $t := $e)=>do `(tactic| obtain $(<-rP 9 p):rcasesPat : $t := $e)
local macro_rules | `(@$x:ident) => do
  match x.getId with
  | .str .anonymous s => if s.length ≤ 2 && !(["dK","dT"] : List String).contains s then `(($x).length) else Lean.Macro.throwUnsupported
  | _ => Lean.Macro.throwUnsupported
set_option Elab.async false
noncomputable section
set_option maxHeartbeats 4000000
set_option linter.all false
set_option maxRecDepth 100000
def nB:type_of% @if_neg:=@if_neg
def nC:type_of% @if_pos:=@if_pos
def nE:type_of% @decide_eq_true:=@decide_eq_true
def nF:type_of% @of_decide_eq_true:=@of_decide_eq_true
def bQ:type_of% @PySem.F.plainAttrs_list:=@PySem.F.plainAttrs_list
def bR:type_of% @PySem.F.slot_list_append:=@PySem.F.slot_list_append
def cL:type_of% @PySem.F.type_list_append:=@PySem.F.type_list_append
def nG:type_of% @decide_eq_false:=@decide_eq_false
def nH:type_of% @PySem.wpAny_bind:=@PySem.wpAny_bind
def nJ:type_of% @PySem.wpAny_pure:=@PySem.wpAny_pure
def nK:type_of% @PySem.wpAny_mono:=@PySem.wpAny_mono
def nL:type_of% @Option.some.inj:=@Option.some.inj
def nO:type_of% @PySem.Heap.lt_size:=@PySem.Heap.lt_size
def AI:type_of% @List.length_map:=@List.length_map
def AN:type_of% @List.getD_eq_getElem?_getD:=@List.getD_eq_getElem?_getD
def AR:type_of% @List.getElem?_eq_getElem:=@List.getElem?_eq_getElem
def AT:type_of% @Nat.le_refl:=@Nat.le_refl
def AV:type_of% @Nat.zero_le:=@Nat.zero_le
def Ah:type_of% @List.getElem?_map:=@List.getElem?_map
def Am:type_of% @List.mem_map:=@List.mem_map
def Ap:type_of% @List.mem_singleton:=@List.mem_singleton
def A3:type_of% @List.getElem?_eq_some_iff:=@List.getElem?_eq_some_iff
def BE:type_of% @Nat.lt_or_ge:=@Nat.lt_or_ge
def BJ:type_of% @List.size_toArray:=@List.size_toArray
def BK:type_of% @Int.natAbs_mul:=@Int.natAbs_mul
def BL:type_of% @Int.ne_of_gt:=@Int.ne_of_gt
def BQ:type_of% @Nat.ne_of_lt:=@Nat.ne_of_lt
def BR:type_of% @List.mem_append:=@List.mem_append
def BW:type_of% @Nat.le_trans:=@Nat.le_trans
def BX:type_of% @List.mem_cons_self:=@List.mem_cons_self
def BZ:type_of% @Nat.lt_of_lt_of_le:=@Nat.lt_of_lt_of_le
def Ba:type_of% @List.length_take:=@List.length_take
def Bb:type_of% @List.mem_of_getElem?:=@List.mem_of_getElem?
def Bf:type_of% @List.length_append:=@List.length_append
def Bg:type_of% @List.length_range:=@List.length_range
def Bj:type_of% @List.map_append:=@List.map_append
def Bk:type_of% @Nat.not_lt_zero:=@Nat.not_lt_zero
def Bo:type_of% @Int.mul_ne_zero:=@Int.mul_ne_zero
def Br:type_of% @List.mem_cons_of_mem:=@List.mem_cons_of_mem
def Bt:type_of% @List.forall_mem_singleton:=@List.forall_mem_singleton
def B3:type_of% @Int.emod_nonneg:=@Int.emod_nonneg
def B4:type_of% @List.take_length:=@List.take_length
def B5:type_of% @List.length_eq_zero_iff:=@List.length_eq_zero_iff
def CB:type_of% @List.getElem?_eq_none:=@List.getElem?_eq_none
def CM:type_of% @Int.emod_lt_of_pos:=@Int.emod_lt_of_pos
def CN:type_of% @List.getElem_mem:=@List.getElem_mem
def CO:type_of% @Int.dvd_trans:=@Int.dvd_trans
def CS:type_of% @List.mem_cons:=@List.mem_cons
def Cg:type_of% @Nat.pow_succ:=@Nat.pow_succ
def Ch:type_of% @Int.toNat_natCast:=@Int.toNat_natCast
def Ci:type_of% @Int.natAbs_dvd_natAbs:=@Int.natAbs_dvd_natAbs
def Cj:type_of% @List.length_cons:=@List.length_cons
def Ck:type_of% @Int.natAbs_natCast:=@Int.natAbs_natCast
def Cp:type_of% @List.mem_append_right:=@List.mem_append_right
def Cq:type_of% @Nat.mul_comm:=@Nat.mul_comm
def Cr:type_of% @Nat.lt_of_le_of_lt:=@Nat.lt_of_le_of_lt
def Cs:type_of% @Int.mul_comm:=@Int.mul_comm
def Ct:type_of% @Nat.mul_le_mul_right:=@Nat.mul_le_mul_right
def Cz:type_of% @Nat.lt_irrefl:=@Nat.lt_irrefl
def C1:type_of% @Bool.false_ne_true:=@Bool.false_ne_true
def C2:type_of% @Nat.pow_le_pow_right:=@Nat.pow_le_pow_right
def C3:type_of% @List.getElem_of_mem:=@List.getElem_of_mem
def C4:type_of% @List.take_add_one:=@List.take_add_one
def DB:type_of% @List.mem_range:=@List.mem_range
def DC:type_of% @Int.dvd_add:=@Int.dvd_add
def DD:type_of% @Nat.pow_pos:=@Nat.pow_pos
def DE:type_of% @List.length_pos_iff:=@List.length_pos_iff
def DI:type_of% @Rat.inv_mul_cancel:=@Rat.inv_mul_cancel
def DJ:type_of% @Int.le_refl:=@Int.le_refl
def DQ:type_of% @Int.le_of_lt:=@Int.le_of_lt
def DR:type_of% @Int.dvd_zero:=@Int.dvd_zero
def DS:type_of% @List.getElem?_range:=@List.getElem?_range
def DT:type_of% @Nat.sub_self:=@Nat.sub_self
def Dc:type_of% @Nat.le_of_lt:=@Nat.le_of_lt
def Dd:type_of% @Nat.le_succ:=@Nat.le_succ
def De:type_of% @Nat.mul_le_mul_left:=@Nat.mul_le_mul_left
def Df:type_of% @Rat.intCast_eq_zero_iff:=@Rat.intCast_eq_zero_iff
def Dg:type_of% @Int.mul_zero:=@Int.mul_zero
def Dh:type_of% @Int.le_trans:=@Int.le_trans
def Di:type_of% @List.forall_mem_cons:=@List.forall_mem_cons
def Dw:type_of% @List.length_set:=@List.length_set
def Dx:type_of% @Nat.eq_zero_or_pos:=@Nat.eq_zero_or_pos
def Dy:type_of% @List.map_map:=@List.map_map
def Dz:type_of% @Nat.le_of_dvd:=@Nat.le_of_dvd
def D1:type_of% @Nat.sub_zero:=@Nat.sub_zero
def D7:type_of% @List.map_congr_left:=@List.map_congr_left
def EI:type_of% @List.getElem?_append_right:=@List.getElem?_append_right
def EJ:type_of% @List.length_replicate:=@List.length_replicate
def EK:type_of% @Int.gcd_dvd_right:=@Int.gcd_dvd_right
def EL:type_of% @List.ext_getElem?:=@List.ext_getElem?
def EM:type_of% @Nat.mul_le_mul:=@Nat.mul_le_mul
def EN:type_of% @Int.mul_le_mul_of_nonneg_left:=@Int.mul_le_mul_of_nonneg_left
def Eh:type_of% @List.getElem?_append_left:=@List.getElem?_append_left
def Ei:type_of% @Int.fdiv_eq_ediv_of_nonneg:=@Int.fdiv_eq_ediv_of_nonneg
def Ej:type_of% @Int.le_of_dvd:=@Int.le_of_dvd
def Ek:type_of% @List.mem_of_mem_take:=@List.mem_of_mem_take
def E2:type_of% @Bool.eq_iff_iff:=@Bool.eq_iff_iff
def E3:type_of% @List.getElem?_replicate:=@List.getElem?_replicate
def E4:type_of% @Int.gcd_dvd_left:=@Int.gcd_dvd_left
def FO:type_of% @List.mem_append_left:=@List.mem_append_left
def FP:type_of% @Int.dvd_of_emod_eq_zero:=@Int.dvd_of_emod_eq_zero
def FQ:type_of% @List.all_eq_true:=@List.all_eq_true
def FR:type_of% @Int.emod_add_mul_ediv:=@Int.emod_add_mul_ediv
def FS:type_of% @Int.natCast_dvd_natCast:=@Int.natCast_dvd_natCast
def FT:type_of% @Int.mul_ediv_cancel':=@Int.mul_ediv_cancel'
def Fv:type_of% @Int.dvd_mul_of_dvd_left:=@Int.dvd_mul_of_dvd_left
def Fw:type_of% @Int.emod_eq_zero_of_dvd:=@Int.emod_eq_zero_of_dvd
def Fx:type_of% @Int.dvd_mul_of_dvd_right:=@Int.dvd_mul_of_dvd_right
def Gb:type_of% @Nat.le_mul_of_pos_left:=@Nat.le_mul_of_pos_left
def Gc:type_of% @Nat.le_mul_of_pos_right:=@Nat.le_mul_of_pos_right
def Ge:type_of% @Nat.lt_succ_iff_lt_or_eq:=@Nat.lt_succ_iff_lt_or_eq
def Gf:type_of% @Int.mul_ediv_cancel_left:=@Int.mul_ediv_cancel_left
def Gg:type_of% @Int.mul_le_mul_of_nonneg_right:=@Int.mul_le_mul_of_nonneg_right
abbrev cY:=List Int
abbrev cZ:=List PySem.Value
abbrev c_:=PySem.Value->PySem.Shared->Prop
abbrev d6:=List (PySem.Addr×PySem.Obj)
abbrev d8:=PySem.Str->Option PySem.Value
abbrev dc:=List PySem.Expr
abbrev dd:=List PySem.Str
abbrev de:=List PySem.Addr
abbrev dh:=Nat->Int
namespace L2
open PySem PySem.Spec PyProof.Rows
abbrev N_:=Sum Int Str
noncomputable def JD:N_->Value->Bool
 | .inl k,v=>Value.isInt k v
 | .inr x,v=>Value.isStrOf x v
noncomputable def T5 (w:World):N_->Int
 | .inl k=>hashInt k
 | .inr x=>hashStr w x
theorem E5:∀ {k:N_} {v:Value},JD k v=true->(∃ i t,k=Sum.inl i/\v=Value.int i t)\/(∃ x t,k=Sum.inr x/\v=Value.str x t)
 | .inl i,v,h=>by
   let {t,e}:=Value.isInt_shape (k:=i) (v:=v) h;exact .inl ⟨i,t,rfl,e⟩
 | .inr x,v,h=>by
   let {t,e}:=Value.isStrOf_shape (x:=x) (v:=v) h;exact .inr ⟨x,t,rfl,e⟩
def T6 (i:Int) (t:Tok):JD (.inl i) (.int i t)=true:=by simp [JD,Value.isInt]
def T7 (a b:Int):decide ((Sum.inl a:N_)=Sum.inl b)=(a == b):=by
 by_cases e:a=b
 .subst e;simp
 .let h:¬ (Sum.inl a:N_)=Sum.inl b:=λq=>e (Sum.inl.inj q);rw [nG h];exact (beq_eq_false_iff_ne.mpr e).symm
def T8 (a b:Str):decide ((Sum.inr a:N_)=Sum.inr b)=decide (a=b):=by
 by_cases e:a=b
 .subst e;simp
 .let h:¬ (Sum.inr a:N_)=Sum.inr b:=λq=>e (Sum.inr.inj q);rw [nG h,nG e]
def T9 (a:Int) (b:Str):decide ((Sum.inl a:N_)=Sum.inr b)=false:=nG (λq=>nomatch q)
def UA (a:Str) (b:Int):decide ((Sum.inr a:N_)=Sum.inl b)=false:=nG (λq=>nomatch q)
noncomputable def Gh (prog:Program) (w:World):PySem.KeyKind prog w N_ where
 is:=JD
 hash:=T5 w
 inj:=λv a b g f=>by
  rcases E5 g with ⟨i,t,rfl,rfl⟩ | ⟨x,t,rfl,rfl⟩
  .rcases E5 f with ⟨j,u,rfl,e⟩ | ⟨y,u,rfl,e⟩
   .injection e with c _;rw [c]
   .exact nomatch e
  .rcases E5 f with ⟨j,u,rfl,e⟩ | ⟨y,u,rfl,e⟩
   .exact nomatch e
   .injection e with c _;rw [c]
 byValue:=λk v h=>by
  rcases E5 h with ⟨i,t,rfl,rfl⟩ | ⟨x,t,rfl,rfl⟩ <;> rfl
 pyHash:=λd h=>by
  rcases E5 d with ⟨i,t,rfl,rfl⟩ | ⟨x,t,rfl,rfl⟩
  .exact wpAny_pyHash_int h
  .exact wpAny_pyHash_str h
 eqBool:=λm d h=>by
  rcases E5 m with ⟨i,t,rfl,rfl⟩ | ⟨x,t,rfl,rfl⟩
  .rcases E5 d with ⟨j,u,rfl,rfl⟩ | ⟨y,u,rfl,rfl⟩
   .rw [T7] at h;exact wpAny_eqBool_int h
   .rw [T9] at h;exact SeqAt.EqAt.int_str i t y u _ _ _ _ h
  .rcases E5 d with ⟨j,u,rfl,rfl⟩ | ⟨y,u,rfl,rfl⟩
   .rw [UA] at h;exact SeqAt.EqAt.str_int x t j u _ _ _ _ h
   .rw [T8] at h;exact wpAny_eqBool_str h
 «strs»:=λk x t v h=>by
  rcases E5 h with ⟨i,u,rfl,e⟩ | ⟨y,u,rfl,e⟩
  .exact nomatch e
  .injection e with c _
   subst c
   cases v <;> rfl
def UB (prog:Program) (w:World) (i:Int) (t:Tok):(Gh prog w).is (.inl i) (.int i t)=true:=T6 i t
inductive V where
 | non | bl (b:Bool) | int (i:Int) | str (x:Str) | byt (b:Array UInt8) | flt (b:UInt64) | ref (a:Addr) | ty (n:String)
 deriving DecidableEq
noncomputable def RelV:V->Value->Prop
 | .non,u=>u=Value.none
 | .bl b,u=>u=Value.bool b
 | .int i,u=>∃ t,u=Value.int i t
 | .str x,u=>∃ t,u=Value.str x t
 | .byt b,u=>∃ t,u=Value.bytes b t
 | .flt b,u=>∃ t,u=Value.float b t
 | .ref a,u=>u=Value.ref a
 | .ty n,u=>u=Value.type n
abbrev Vals:List V->cZ->Prop:=Paired RelV
def Vals.length {xs:List V} {a:cZ} (r:Vals xs a):@xs=@a:=Paired.length r
theorem Vals.get:∀ {xs:List V} {a:cZ} {i:Nat} {x:V},Vals xs a->xs[i]?=some x->∃ u,a[i]?=some u/\RelV x u
 | _,_,_,_,.nil,e=>by simp at e
 | _,_,0,_,.cons r _,e=>by simp at e;subst e;exact {1,r}
 | _,_,i+1,x,.cons _ t,e=>by
   let {u,b,c}:=Vals.get (i:=i) (x:=x) t (by simpa using e);exact {u,by simpa using b,c}
theorem Vals.set {x:V} {u:Value} (r:RelV x u):∀ {xs:List V} {a:cZ} (i:Nat),Vals xs a->Vals (xs.set i x) (a.set i u)
 | _,_,_,.nil=>.nil
 | _,_,0,.cons _ t=>.cons r t
 | _,_,i+1,.cons q t=>.cons q (Vals.set r i t)
theorem Vals.append:∀ {xs ys:List V} {a b:cZ},Vals xs a->Vals ys b->Vals (xs++ys) (a++b)
 | _,_,_,_,.nil,s=>s
 | _,_,_,_,.cons r t,s=>.cons r (Vals.append t s)
theorem Vals.take:∀ {xs:List V} {a:cZ} (n:Nat),Vals xs a->Vals (xs.take n) (a.take n)
 | _,_,0,_=>.nil
 | _,_,_+1,.nil=>.nil
 | _,_,n+1,.cons r t=>.cons r (Vals.take n t)
theorem Vals.drop:∀ {xs:List V} {a:cZ} (n:Nat),Vals xs a->Vals (xs.drop n) (a.drop n)
 | _,_,0,r=>r
 | _,_,_+1,.nil=>.nil
 | _,_,n+1,.cons _ t=>Vals.drop n t
noncomputable def Kq:Option V->Option Value->Prop
 | some v,some u=>RelV v u
 | none,none=>True
 | _,_=>False
def KV {a:Type}:List (a×V)->List (a×Value)->Prop:=Paired λ(p:a×V) (q:a×Value)=>p.1=q.1/\RelV p.2 q.2
noncomputable def kV:N_->V
 | .inl i=>.int i
 | .inr x=>.str x
inductive HO where

 | lst (xs:List V)

 | tup (xs:List V)

 | dK (kvs:List (N_×V)) | dT (kvs:List (List N_×V))

 | set (S:Int->Bool) (n:Nat)

 | ins (C dx:Addr) (fs:List (Str×V))

 | own (x:Addr)

 | xd (fs:List (Str×V))

 | met (f x:Addr)

 | rng (lo hi:Int)

 | frz (o:Obj) (u:HO)

 | tbl (ps:Array Value)

 | ext (φ:Heap->Prop)
abbrev Hp:=Addr->Option HO
abbrev cX:=Option V
abbrev cW:=List V
noncomputable def upd (H:Hp) (a:Addr) (o:HO):Hp:=λb=>if b=a then some o else H b
def upd_same {H:Hp} {a:Addr} {o:HO}:upd H a o a=some o:=by unfold upd;rw [nC rfl]
def Ai {H:Hp} {a b:Addr} {o:HO} (h:b≠a):upd H a o b=H b:=by unfold upd;rw [nB h]
def Na {H:Hp} {a:Addr} {o u:HO}:upd (upd H a o) a u=upd H a u:=by
 funext b;unfold upd;split <;> rfl
def UC {H:Hp} {a b:Addr} {o u:HO} (h:H a=some o) (h':H b=some u) (d:o≠u):a≠b:=by
 intro e;subst e;rw [h] at h';exact d (nL h')
def Aq {H:Hp} {a b:Addr} {o:HO} (h:H a=some o) (h':H b=none):a≠b:=by
 intro e;subst e;rw [h] at h';cases h'
section
variable (P:Program) (w:World)
noncomputable def ObjOk (H:Hp) (h:Heap) (a:Addr):HO->Prop
 | .lst c=>@c<=sizeLine/\∃ (its:cZ) (n:Nat),Vals c its/\h.get? a=some { cls:=.type "list", data:=.seq its.toArray n }
 | .tup c=>@c<=sizeLine/\∃ its:cZ,Vals c its/\IsTup h a its.toArray
 | .dK b=>@b<=sizeLine/\(a == sysModules)=false/\∃ j,KV b j/\h.DictOf (Gh P w) a j
 | .dT b=>@b<=sizeLine/\(a == sysModules)=false/\∃ c:List (List N_×Addr×Value),
   Paired (λ(p:List N_×V) (q:List N_×Addr×Value)=>p.1=q.1/\H q.2.1&&&(p.1.map kV)/\RelV p.2 q.2.2) b c/\
   ∃ o k y,h.get? a=some o/\o.ExactDict/\o.data=.dict k y/\k.toList=c.map (entryOfKey (tupleKind (Gh P w)))/\(c.map (·.1)).Nodup
 | .set S n=>h.SetOf (intKind P w) a S n
 | .ins C g e=>H g=some (.own a)/\@e<=1000/\g≠a/\h.get? a=some (W.instObj C g)/\
   ∃ d,h.Ns1 g d/\(∀ f,Kq (e.lookup f) (d f))/\PySem.Within d (e.map (·.1))
 | .own _=>∃ o,h.get? a=some o
 | .xd e=>∃ d,h.Ns1 a d/\∀ f,Kq (e.lookup f) (d f)
 | .rng lo z=>∃ t u v,h.get? a=some { cls:=.type "range", data:=.fields #[.int lo t,.int z u,.int 1 v] }
 | .frz o u=>h.get? a=some o/\ObjOk H h a u
 | .tbl ps=>h.get? a=some { cls:=.none,data:=.fields ps }
 | .met f x=>h.get? a=some (W.methodObj (.ref f) (.ref x))
 | .ext i=>i h/\(∃ o,h.get? a=some o)/\∀ m r:Heap,i m->(∀ o,m.get? a=some o->r.get? a=some o)->i r
def HOk (H:Hp) (h:Heap):Prop:=∀ a o,H a=some o->ObjOk P w H h a o
end
section
variable {P:Program} {w:World} {H H':Hp} {h h':Heap} {a:Addr} {o:HO}
theorem ObjOk.lt (x:ObjOk P w H h a o):a<h.objs.size:=by
 cases o with
 | lst c=>let ⟨_,_,_,_,e⟩:=x;exact nO e
 | tup c=>let ⟨_,_,_,p⟩:=x;exact p.lt
 | dK b=>let ⟨_,_,_,_,o,_,_,e,_⟩:=x;exact nO e
 | dT b=>let ⟨_,_,_,_,o,_,_,e,_⟩:=x;exact nO e
 | set S n=>let ⟨o,_,_,_,e,_⟩:=x;exact nO e
 | ins C g d=>let ⟨_,_,_,e,_⟩:=x;exact nO e
 | own y=>let ⟨_,e⟩:=x;exact nO e
 | xd d=>let ⟨_,⟨_,_,_,e,_⟩,_⟩:=x;exact nO e
 | rng lo i=>let ⟨_,_,_,e⟩:=x;exact nO e
 | frz j u=>let ⟨e,_⟩:=x;exact nO e
 | tbl ps=>exact nO (show h.get? a=some _ from x)
 | met f y=>exact nO (show h.get? a=some _ from x)
 | ext k=>let ⟨_,⟨_,e⟩,_⟩:=x;exact nO e
theorem Paired.mapP {e g:Type} {F G:e->g->Prop}:∀ {c:List e} {d:List g},Paired F c d->(∀ a b,F a b->G a b)->Paired G c d
 | _,_,.nil,_=>.nil
 | _,_,.cons r t,f=>.cons (f _ _ r) (Paired.mapP t f)
theorem ObjOk.stay (x:ObjOk P w H h a o) (k:∀ b u,(b=a\/H b=some (.own a))->h.get? b=some u->h'.get? b=some u)
  (G:∀ b,H b=some (.own a)->H' b=some (.own a)) (I:∀ b A,H b&&&A->H' b&&&A):ObjOk P w H' h' a o:=by
 induction o with
 | lst A=>let ⟨z,m,n,r,e⟩:=x;exact {z,m,n,r,k _ _ (.inl rfl) e}
 | tup A=>let ⟨z,m,r,g,e,c⟩:=x;exact {z,m,r,g,k _ _ (.inl rfl) e,c}
 | dK B=>let ⟨z,y,J,r,g,i,j,e,c⟩:=x;exact {z,y,J,r,g,i,j,k _ _ (.inl rfl) e,c}
 | dT B=>
   let {z,y,A,r,g,i,j,e,c}:=x;exact {z,y,A,Paired.mapP r λp q z=>{z.1,I _ _ z.2.1,z.2.2},g,i,j,k _ _ (.inl rfl) e,c}
 | set S n=>let ⟨g,i,j,t,e,c⟩:=x;exact {g,i,j,t,k _ _ (.inl rfl) e,c}
 | ins C O K=>
   let {d,z,L,e,D,{E,i,j,M,c},r}:=x;exact {G _ d,z,L,k _ _ (.inl rfl) e,D,{E,i,j,k _ _ (.inr d) M,c},r}
 | own y=>let ⟨g,e⟩:=x;exact {g,k _ _ (.inl rfl) e}
 | xd K=>let ⟨D,⟨E,i,j,e,c⟩,r⟩:=x;exact {D,{E,i,j,k _ _ (.inl rfl) e,c},r}
 | rng lo Q=>let ⟨t,u,v,e⟩:=x;exact {t,u,v,k _ _ (.inl rfl) e}
 | frz g u N=>let ⟨e,q⟩:=x;exact {k _ _ (.inl rfl) e,N q}
 | tbl ps=>
   let e:h.get? a=some { cls:=.none,data:=.fields ps }:=x;show h'.get? a=some { cls:=.none,data:=.fields ps };exact k a _ (.inl rfl) e
 | met f y=>
   let e:h.get? a=some (W.methodObj (.ref f) (.ref y)):=x;show h'.get? a=some (W.methodObj (.ref f) (.ref y));exact k a _ (.inl rfl) e
 | ext R=>let ⟨p,⟨o,e⟩,F⟩:=x;exact {F _ _ p λo q=>k _ _ (.inl rfl) q,{o,k _ _ (.inl rfl) e},F}
def HOk.lt (x:HOk P w H h) (e:H a=some o):a<h.objs.size:=(x a o e).lt
theorem HOk.fresh (x:HOk P w H h) (e:h.objs.size<=a):H a=none:=by
 cases q:H a with
 | none=>rfl
 | some u=>exact absurd (BZ (x.lt q) e) (Cz _)
def HOk.kept (x:HOk P w H h) (k:∀ b u,h.get? b=some u->h'.get? b=some u):HOk P w H h':=λa o e=>
 (x a o e).stay (λb u _ q=>k b u q) (λ_ q=>q) λ_ _ q=>q
def HOk.laid (x:HOk P w H h) (k:∀ b u,h.get? b=some u->h'.get? b=some u) (hp:h.objs.size<=a) (d:ObjOk P w (upd H a o) h' a o):HOk P w (upd H a o) h':=λb u e=>by
 let f:=x.fresh hp;by_cases g:b=a
 .subst g;rw [upd_same] at e;cases e;exact d
 .rw [Ai g] at e;exact (x b u e).stay (λc v _ q=>k c v q) (λc q=>by rw [Ai (Aq q f)];exact q) λc i q=>by rw [Ai (Aq q f)];exact q
end
def Rd (H:Hp) (a:Addr) (u:HO):Prop:=H a=some u\/∃ o,H a=some (.frz o u)
def Rd.ok {P:Program} {w:World} {H:Hp} {h:Heap} {a:Addr} {u:HO} (r:Rd H a u) (x:HOk P w H h):ObjOk P w H h a u:=by
 rcases r with r | ⟨o,r⟩
 .exact x a u r
 .let {_,q}:=x a _ r;exact q
noncomputable def cg:Option HO->Prop
 | some (.lst _)=>True
 | some (.dK _)=>True
 | some (.dT _)=>True
 | some (.set _ _)=>True
 | some (.ins _ _ _)=>True
 | some (.ext _)=>True
 | _=>False
section
variable {P:Program} {w:World} {H:Hp} {h h':Heap} {x e:Addr} {o':HO}
def HOk.write (ok:HOk P w H h) (g:cg (H x)) (p:e=x\/H e=some (.own x)) (k:∀ b u,b≠e->h.get? b=some u->h'.get? b=some u) (n:∃ u,h'.get? e=some u)
  (o:ObjOk P w (upd H x o') h' x o'):HOk P w (upd H x o') h':=λb u q=>by
 let d:∀ c y,H c=some (.own y)->c≠x:=λc y r z=>by subst z;rw [r] at g;exact g
 let f:∀ c i,H c&&&i->c≠x:=λc i r z=>by subst z;rw [r] at g;exact g
 by_cases j:b=x
 .subst j;rw [upd_same] at q;cases q;exact o
 .rw [Ai j] at q;by_cases a:b=e
  .let A:H b=some (.own x):=by
    rcases p with z | z
    .exact absurd (a.trans z) j
    .rw [a];exact z
   rw [q] at A;cases A;let {v,B}:=n;exact {v,by rw [a];exact B}
  .refine (ok b u q).stay (λc v m r=>k c v ?_ r) (λc r=>by rw [Ai (d c b r)];exact r) λc i r=>by rw [Ai (f c i r)];exact r
   rcases m with rfl | m
   .exact a
   .rintro rfl;rcases p with z | z
    .exact d c b m z
    .rw [m] at z;cases z;exact j rfl
end
structure Un (fs ex:de) (H H':Hp) (h h':Heap):Prop where
 keep:∀ b o,h.get? b=some o->H b=none->b∉fs->b∉ex->h'.get? b=some o
 slot:∀ b o,h.get? b=some o->H b=none->b∈fs->b∉ex->∃ sl,h'.get? b=some { o with slots:=sl }
 free:∀ b o,h.get? b=some o->H b=none->b∉ex->H' b=none
 there:∀ b o,h.get? b=some o->b∉ex->∃ o',h'.get? b=some o'
 tups:∀ b xs,H b&&&xs->H' b&&&xs
 frzs:∀ b o u,H b=some (.frz o u)->H' b=some (.frz o u)
 tbls:∀ b ps,H b=some (.tbl ps)->∃ more,H' b=some (.tbl (ps++more))
section
variable {fs fs' ex ex':de} {H H1 H2:Hp} {h h1 h2 h':Heap} {a x e:Addr} {o:HO}
def Un.any (u:Un fs ex H H1 h h1) {b:Addr} {c:Obj} (q:h.get? b=some c) (n:H b=none) (f:b∉ex):∃ i,h1.get? b=some { c with slots:=i }:=by
 by_cases g:b∈fs
 .exact u.slot b c q n g f
 .exact {c.slots,u.keep b c q n g f}
def Un.kept (k:∀ b u,h.get? b=some u->h'.get? b=some u):Un fs ex H H h h':=
 {λb c q _ _ _=>k b c q,λb c q _ _ _=>{c.slots,k b c q},λ_ _ _ n _=>n,λb c q _=>{c,k b c q},λ_ _ q=>q,λ_ _ _ q=>q,λ_ ps q=>{#[],by rw [q];simp}}
def Un.refl:Un fs ex H H h h:=Un.kept λ_ _ q=>q
def Un.laid (k:∀ b u,h.get? b=some u->h'.get? b=some u) (hp:h.objs.size<=a) (c:H a=none):Un fs ex H (upd H a o) h h' where
 keep:=λb u q _ _ _=>k b u q
 slot:=λb u q _ _ _=>{u.slots,k b u q}
 free:=λb u q n _=>by rw [Ai (BQ (BZ (nO q) hp))];exact n
 there:=λb u q _=>{u,k b u q}
 tups:=λb d q=>by rw [Ai (Aq q c)];exact q
 frzs:=λb u d q=>by rw [Ai (Aq q c)];exact q
 tbls:=λb ps q=>{#[],by rw [Ai (Aq q c),q];simp}
def Un.write (d:cg (H x)) (m:e=x\/H e=some (.own x)) (k:∀ b u,b≠e->h.get? b=some u->h'.get? b=some u) (f:∃ u,h'.get? e=some u):Un fs ex H (upd H x o) h h':=by
 let i:∀ b,H b=none->b≠x:=λb n z=>by subst z;rw [n] at d;exact d
 let j:∀ b,H b=none->b≠e:=λb n z=>by
  subst z;rcases m with r | r
  .exact i b n r
  .rw [n] at r;cases r
 let g:∀ b u,H b=some u->¬ cg (some u)->b≠x:=λb u q p z=>by subst z;rw [q] at d;exact p d
 refine {λb u q n _ _=>k b u (j b n) q,λb u q n _ _=>{u.slots,k b u (j b n) q},λb u q n _=>by rw [Ai (i b n)];exact n,λb u q _=>?_,
  λb v q=>by rw [Ai (g b _ q λz=>z)];exact q,λb u v q=>by rw [Ai (g b _ q λz=>z)];exact q,λb ps q=>{#[],by rw [Ai (g b _ q λz=>z),q];simp}}
 by_cases c:b=e
 .subst c;exact f
 .exact {u,k b u c q}
end
noncomputable def cu (h:Heap) (H:Hp):de:=(List.range h.objs.size).filter λa=>(H a).isSome
noncomputable def El (h:Heap) (H:Hp):Heap:=W.hideAll h (cu h H)
def UD (h:Heap) (H:Hp):(El h H).objs.size=h.objs.size:=W.hideAll_size _ _
def UE {h:Heap} {H:Hp} {b:Addr} {o:Obj} (e:h.get? b=some o) (n:H b=none):(El h H).get? b=some o:=
 W.hideAll_get _ e λa=>by
  let q:(H b).isSome=true:=(List.mem_filter.mp a).2;rw [n] at q;simp at q
theorem UF {h:Heap} {H:Hp} {b:Addr} {o:Obj} (e:(El h H).get? b=some o):h.get? b=some o/\H b=none:=by
 let a:h.get? b=some o:=W.of_hideAll (cu h H) e;refine {a,?_};cases q:H b with
 | none=>rfl
 | some x=>
   let c:b∈cu h H:=List.mem_filter.mpr {DB.mpr (nO a),by simp [q]};let z:(El h H).get? b=none:=W.hideAll_none (cu h H) c;rw [z] at e;cases e
noncomputable def UG (g h:Heap) (L:Addr):d6:=(List.range h.objs.size).filterMap λa=>if a=L\/(g.get? a).isSome=true then none else (h.get? a).map λo=>(a,o)
noncomputable def rest (g h:Heap) (L d:Addr):d6:=(UG g h L).filter λp=>decide (p.1≠d)
structure Mod (K:W.Frag) (mg:d8) (base:Heap):Prop where
 kin:K.In base
 glob:base.Ns mainGlobals mg
 blt:∃ mb,base.Ns builtinsNs mb/\∀ x:Str,x ≠ "__name__" -> mb x=bootBuiltins x
 nolimit:base.NoLimit
structure Cx where
 prog:Program
 w:World
 K:W.Frag
 mg:d8
 base:Heap
 A:Around
 N:dd
 s₀:Shared
 H₀:Hp
 env:Env
 outer:List Env
 stack:List Env
 ex:de
 fn:Str->Bool
 calm:Bool
 pn:d6
 xe:c_
noncomputable def ax (l:List Env):de:=l.filterMap (·.frame)
abbrev Cx.fs (X:Cx):de:=ax X.outer
def bV (a:Scope) (x:Str):Prop:=a.names.lookup x=some .local\/a.names.lookup x=some .cell\/a.names.lookup x=some .free
def aN (a:Scope) (x:Str):Prop:=a.names.lookup x=some .local\/a.names.lookup x=some .cell
def bW (a:Env) (h:Heap) (m:d8) (x:Str) (u:Value):Prop:=
 (a.kindOf x=some .local/\m x=some u)\/((a.kindOf x=some .cell\/a.kindOf x=some .free)/\∃ c,a.cells.lookup x=some c/\h.IsCell c (some u))
structure Cx.Ok (X:Cx):Prop where
 mod:Mod X.K X.mg X.base
 kind:X.env.scope.kind=.function
 glob:X.env.globals=mainGlobals
 blt:X.env.builtins=builtinsNs
 above:X.s₀.heap.objs.size<=X.env.locals
 inj:∀ x y c,X.env.cells.lookup x=some c->X.env.cells.lookup y=some c->x=y
 has:∀ x,(X.env.kindOf x=some .cell\/X.env.kindOf x=some .free)->∃ c,X.env.cells.lookup x=some c
 cab:∀ x c,X.fn x=true->X.env.cells.lookup x=some c->X.s₀.heap.objs.size<=c
 hd:X.calm=true->X.A.handled=none
 frames:X.A.frames=some X.stack
 stk:X.stack=X.outer\/(X.stack=X.env::X.outer/\X.env.frame=some X.env.locals)
 exf:∀ b∈X.ex,b≠X.env.locals/\∀ x c,X.env.cells.lookup x=some c->c≠b
 bs:∀ b o,X.base.get? b=some o->X.s₀.heap.get? b=some o/\X.H₀ b=none
 bsz:X.base.objs.size<=X.s₀.heap.objs.size
 noex:∀ b o,X.base.get? b=some o->b∉X.ex
 exfs:∀ b∈X.ex,b∉X.fs
 funs:X.s₀.heap.FunFrames X.base X.outer
 frf:∀ b∈X.fs,X.H₀ b=none
 seer:X.base.NoSeer
 tree:(model X.prog X.w).prog.given.tree=none
 plr:∀ s:Shared,(∀ b o,X.base.get? b=some o->s.heap.get? b=some o)->PySem.PylongRoom (model X.prog X.w) X.A s
structure Inv (X:Cx) (pins:d6) (σ:List (cX)) (H:Hp) (s:Shared):Prop where
 ok:X.Ok
 os:s.os=X.s₀.os
 bare:AllBare s.gens
 base:Un X.fs X.ex X.H₀ H X.s₀.heap s.heap
 loc:∃ m,s.heap.Ns X.env.locals m/\∀ (i:Nat) (x:Str) (v:V),X.N[i]?=some x->σ[i]?=some (some v)->bV X.env.scope x->∃ u,RelV v u/\bW X.env s.heap m x u
 cell:∀ x c,X.env.cells.lookup x=some c->∃ v,s.heap.IsCell c v
 free:H X.env.locals=none
 freeC:∀ x c,X.env.cells.lookup x=some c->H c=none
 pin:∀ p∈X.pn++pins,s.heap.get? p.1=some p.2/\H p.1=none/\p.1≠X.env.locals/\p.1∉X.fs/\∀ v,p.2.data≠.cell v
 hok:HOk X.prog X.w H s.heap
 len:@σ=↑X.N
section
variable {X:Cx} {pins:d6} {σ:List (cX)} {H H':Hp} {s:Shared} {h':Heap}
def Cx.Ok.nofr (ok:X.Ok) {b:Addr} {o:Obj} (e:X.base.get? b=some o):b∉X.fs:=λa=>by
 have:=(ok.funs.mem a).1;rw [e] at this;cases this
def Inv.bs (I:Inv X pins σ H s):∀ b o,X.base.get? b=some o->s.heap.get? b=some o/\H b=none:=λb o e=>
 {I.base.keep b o (I.ok.bs b o e).1 (I.ok.bs b o e).2 (I.ok.nofr e) (I.ok.noex b o e),I.base.free b o (I.ok.bs b o e).1 (I.ok.bs b o e).2 (I.ok.noex b o e)}
def Inv.bk (I:Inv X pins σ H s):∀ b o,X.base.get? b=some o->s.heap.get? b=some o:=λb o e=>(I.bs b o e).1
def Inv.mod (I:Inv X pins σ H s):Mod X.K X.mg X.base:=I.ok.mod
def Inv.kIn (I:Inv X pins σ H s):X.K.In s.heap:=I.ok.mod.kin.keeps I.bk
def Inv.fr (I:Inv X pins σ H s):∃ m,Fr X.base X.env.locals s.heap m:=
 let ⟨m,a,_⟩:=I.loc
 {m,a,I.bk,BW I.ok.bsz I.ok.above}
def Inv.lt (I:Inv X pins σ H s):X.env.locals<⇑s:=let ⟨_,a,_⟩:=I.loc;a.lt
def Inv.sz (I:Inv X pins σ H s):X.s₀.heap.objs.size<=⇑s:=BW I.ok.above (Dc I.lt)
def Inv.nofs (I:Inv X pins σ H s) {a:Addr} (h:⇑s<=a):a∉X.fs:=λb=>by
 let {_,o,c,_}:=I.ok.funs.mem b;exact absurd (BZ (nO c) (BW I.sz h)) (Cz _)
def Inv.cne (I:Inv X pins σ H s):∀ x c,X.env.cells.lookup x=some c->c≠X.env.locals:=λx c e z=>by
 let {v,o,d,f}:=I.cell x c e;let {m,{g,h,i,a,b,_},_}:=I.loc;rw [z,a] at d;cases d;rw [b] at f;cases f
def Inv.funs (I:Inv X pins σ H s):s.heap.FunFrames X.base X.outer:=by
 let all:∀ (l:List Env),(∀ b∈ax l,b∈X.fs)->X.s₀.heap.FunFrames X.base l->s.heap.FunFrames X.base l:=by
  intro l
  induction l with
  | nil=>intro _ _;trivial
  | cons g r h=>
    intro f i;let {hk,{L,o,a,j,k,m},n}:=i;let c:L∈X.fs:=f L (by unfold ax;rw [List.filterMap_cons,a];exact BX);let {p,e}:=I.base.slot L o k (I.ok.frf L c) c λz=>I.ok.exfs L z c;exact {hk,{L,_,a,j,e,m},h (λb d=>f b (by unfold ax;rw [List.filterMap_cons,a];exact Br _ d)) n}
 exact all X.outer (λ_ d=>d) I.ok.funs
def Inv.stack (I:Inv X pins σ H s):s.heap.FunFrames X.base X.stack:=by
 rcases I.ok.stk with e | ⟨e,a⟩
 .rw [e];exact I.funs
 .rw [e];let {m,b,_}:=I.loc;refine .cons (by rw [I.ok.kind];decide) a b ?_ I.funs;exact Heap.get?_none_of_le (BW I.ok.bsz I.ok.above)
def Inv.stkSub (I:Inv X pins σ H s):∀ b∈ax X.stack,b∈X.env.locals::X.fs:=λb a=>by
 rcases I.ok.stk with e | ⟨e,c⟩
 .rw [e] at a;exact Br _ a
 .rw [e] at a;unfold ax at a;rw [List.filterMap_cons,c] at a;exact a
def Inv.stkFree (I:Inv X pins σ H s):∀ b∈ax X.stack,H b=none:=λb a=>by
 rcases CS.mp (I.stkSub b a) with e | a
 .rw [e];exact I.free
 .let {_,o,c,_}:=I.ok.funs.mem a;exact I.base.free b o c (I.ok.frf b a) λz=>I.ok.exfs b z a
def Inv.step {g':Array GenState} {t':Nat} {d':Drawn} {ch:de} (I:Inv X pins σ H s)
  (g:∀ b∈ch,(b∈X.ex\/X.s₀.heap.objs.size<=b)/\b≠X.env.locals/\(∀ x c,X.env.cells.lookup x=some c->c≠b)/\∀ p∈X.pn++pins,p.1≠b)
  (h:∀ b o,b≠X.env.locals->b∉X.fs->b∉ch->s.heap.get? b=some o->H b=none->h'.get? b=some o)
  (B:∀ b o,b≠X.env.locals->b∈X.fs->b∉ch->s.heap.get? b=some o->H b=none->∃ P,h'.get? b=some { o with slots:=P }) (f:∀ b o,b∉ch->s.heap.get? b=some o->H b=none->H' b=none)
  (D:∀ b o,b∉ch->s.heap.get? b=some o->∃ G,h'.get? b=some G)
  (J:∀ b C,H b&&&C->H' b&&&C) (K:∀ b o u,H b=some (.frz o u)->H' b=some (.frz o u)) (L:∀ b ps,H b=some (.tbl ps)->∃ M,H' b=some (.tbl (ps++M)))
  (ns:∀ m,s.heap.Ns X.env.locals m->h'.Ns X.env.locals m) (R:HOk X.prog X.w H' h') (hg:AllBare g') :
  Inv X pins σ H' { s with heap:=h',gens:=g',drawn:=d',toks:=t' }:=by
 let N:∀ b o,X.s₀.heap.get? b=some o->b≠X.env.locals:=λb o e=>BQ (BZ (nO e) I.ok.above)
 let y:∀ b o,X.s₀.heap.get? b=some o->b∉X.ex->b∉ch:=λb o e a E=>by
  rcases (g b E).1 with z | z
  .exact a z
  .exact absurd (BZ (nO e) z) (Cz _)
 let j:∀ x c,X.env.cells.lookup x=some c->∀ v,s.heap.IsCell c v->h'.IsCell c v:=λx c e v ⟨o,F,S⟩=>by
  let w:c∉ch:=λz=>(g c z).2.2.1 x c e rfl;by_cases Z:c∈X.fs
  .let {P,q}:=B c o (I.cne x c e) Z w F (I.freeC x c e);exact {_,q,S}
  .exact {o,h c o (I.cne x c e) Z w F (I.freeC x c e),S}
 refine {I.ok,I.os,hg,{λb o e n E a=>?_,λb o e n E a=>?_,λb o e n a=>?_,λb o e a=>?_,λb C e=>J b C (I.base.tups b C e),λb o C e=>K b o C (I.base.frzs b o C e),λb ps e=>?_},?_,λx c e=>?_,?_,λx c e=>?_,λp hp=>?_,R,I.len}
 .exact h b o (N b o e) E (y b o e a) (I.base.keep b o e n E a) (I.base.free b o e n a)
 .let {P,A}:=I.base.slot b o e n E a;let {T,O}:=B b _ (N b o e) E (y b o e a) A (I.base.free b o e n a);exact ⟨T,O⟩
 .let {G,A}:=I.base.there b o e a;exact f b G (y b o e a) A (I.base.free b o e n a)
 .let {G,A}:=I.base.there b o e a;exact D b G (y b o e a) A
 .let {m1,A}:=I.base.tbls b ps e;let {m2,O}:=L b _ A;exact {m1++m2,by rw [O,Array.append_assoc]}
 .let {m,hn,hl}:=I.loc;refine {m,ns m hn,λi x v A O e3=>?_};let {u,r,l}:=hl i x v A O e3;refine {u,r,?_};rcases l with l | ⟨k,c,e,z⟩
  .exact .inl l
  .exact .inr {k,c,e,j x c e _ z}
 .let {v,z}:=I.cell x c e;exact {v,j x c e v z}
 .let {m,{o,_,_,F,_},_}:=I.loc;exact f _ o (λz=>(g _ z).2.1 rfl) F I.free
 .let {v,o,F,S}:=I.cell x c e;exact f c o (λz=>(g c z).2.2.1 x c e rfl) F (I.freeC x c e)
 .let {e,n,ne,nf,d}:=I.pin p hp;let w:p.1∉ch:=λz=>(g p.1 z).2.2.2 p hp rfl;exact {h p.1 p.2 ne nf w e n,f p.1 p.2 w e n,ne,nf,d}
def Inv.un {t':Nat} (I:Inv X pins σ H s) (u:Un X.fs [] H H' s.heap h') (c:HOk X.prog X.w H' h'):Inv X pins σ H' { s with heap:=h',toks:=t' }:=by
 let {m,{o,v,w,j,r},_}:=id I.loc;let {x,k}:=u.any j I.free (by simp)
 exact I.step (g':=s.gens) (d':=s.drawn) (ch:=[]) (λ_ z=>nomatch z) (λb o _ d _ e n=>u.keep b o e n d (by simp)) (λb o _ d _ e n=>u.slot b o e n d (by simp)) (λb o _ e n=>u.free b o e n (by simp)) (λb o _ e=>u.there b o e (by simp)) u.tups u.frzs u.tbls (λy p=>by
  let {A,f,g,a,q}:=p;rw [j] at a;cases a;exact {_,f,g,k,q}) c I.bare
def Inv.call {g':Array GenState} {t':Nat} {d':Drawn} {ch:de} (I:Inv X pins σ H s) (u:Un (ax X.stack) ch H H' s.heap h') (g:HOk X.prog X.w H' h') (y:AllBare g')
  (d:∀ b∈ch,(b∈X.ex\/X.s₀.heap.objs.size<=b)/\b≠X.env.locals/\(∀ x c,X.env.cells.lookup x=some c->c≠b)/\∀ p∈X.pn++pins,p.1≠b) :
  Inv X pins σ H' { s with heap:=h',gens:=g',drawn:=d',toks:=t' }:=by
 let {m,{o,D,E,w,r},_}:=id I.loc;let {F,h}:=u.any w I.free λz=>(d _ z).2.1 rfl
 exact I.step (ch:=ch) d (λb o h A a e n=>u.keep b o e n (λz=>(CS.mp (I.stkSub b z)).elim h A) a) (λb o _ _ a e n=>u.any e n a) (λb o a e n=>u.free b o e n a) (λb o a e=>u.there b o e a) u.tups u.frzs u.tbls (λG B=>by
  let {J,i,j,f,C}:=B;rw [w] at f;cases f;exact {_,i,j,h,C}) g y
def Inv.turned {t':Nat} {a:Addr} (I:Inv X pins σ H s) (k:∀ b o,b≠a->s.heap.get? b=some o->h'.get? b=some o) (j:H a=none) (g:a≠X.env.locals)
  (w:a∈X.ex\/X.s₀.heap.objs.size<=a) (y:∀ x c,X.env.cells.lookup x=some c->c≠a) (A:∀ p∈X.pn++pins,p.1≠a):Inv X pins σ H { s with heap:=h',toks:=t' }:=by
 let f:∀ b u,H b=some u->b≠a:=λb u e z=>by rw [z,j] at e;cases e
 refine I.step (g':=s.gens) (d':=s.drawn) (ch:=[a]) (λb B=>?_) (λb o _ _ d e _=>k b o (λz=>d (by simp [z])) e) (λb o _ _ d e _=>{o.slots,k b o (λz=>d (by simp [z])) e}) (λ_ _ _ _ n=>n)
  (λb o d e=>{o,k b o (λz=>d (by simp [z])) e}) (λ_ _ e=>e) (λ_ _ _ e=>e) (λb ps e=>{#[],by rw [e];simp}) (λm C=>?_) (λb u e=>?_) I.bare
 .let e:b=a:=by simpa using B
  subst e;exact ⟨w,g,y,A⟩
 .let {o,D,E,F,r}:=C;exact {o,D,E,k _ o (Ne.symm g) F,r}
 .refine (I.hok b u e).stay (λc v d q=>k c v ?_ q) (λ_ q=>q) λ_ _ q=>q;rcases d with z | z
  .rw [z];exact f b u e
  .exact f c _ z
def Inv.tok (I:Inv X pins σ H s) (t:Nat):Inv X pins σ H { s with toks:=t }:=I.un (h':=s.heap) (t':=t) Un.refl I.hok
def Inv.kept {t':Nat} (I:Inv X pins σ H s) (k:∀ b u,s.heap.get? b=some u->h'.get? b=some u):Inv X pins σ H { s with heap:=h',toks:=t' }:=I.un (Un.kept k) (I.hok.kept k)
def Inv.laid {a:Addr} {o:HO} {t':Nat} (I:Inv X pins σ H s) (k:∀ b u,s.heap.get? b=some u->h'.get? b=some u) (hp:⇑s<=a) (c:ObjOk X.prog X.w (upd H a o) h' a o) :
  Inv X pins σ (upd H a o) { s with heap:=h',toks:=t' }:=I.un (Un.laid k hp (I.hok.fresh hp)) (I.hok.laid k hp c)
def Inv.write {x e:Addr} {o:HO} {t':Nat} (I:Inv X pins σ H s) (d:cg (H x)) (f:e=x\/H e=some (.own x)) (k:∀ b u,b≠e->s.heap.get? b=some u->h'.get? b=some u) (a:∃ u,h'.get? e=some u)
  (c:ObjOk X.prog X.w (upd H x o) h' x o):Inv X pins σ (upd H x o) { s with heap:=h',toks:=t' }:=I.un (Un.write d f k a) (I.hok.write d f k a c)
def Inv.pins_of {a:d6} (I:Inv X pins σ H s) (h:∀ p∈a,s.heap.get? p.1=some p.2/\H p.1=none/\p.1≠X.env.locals/\p.1∉X.fs/\∀ v,p.2.data≠.cell v):Inv X a σ H s:=
 {I.ok,I.os,I.bare,I.base,I.loc,I.cell,I.free,I.freeC,λp hp=>(BR.mp hp).elim (λz=>I.pin p (FO _ z)) (h p),I.hok,I.len}
def Nb {N:dd} (c:N.Nodup) {i j:Nat} {x:Str} (a:N[i]?=some x) (b:N[j]?=some x):i=j:=by
 let {f,d}:=A3.mp a;let {g,e}:=A3.mp b;exact (List.getElem_inj c).mp (d.trans e.symm)
def Nc {M:Model} {A:Around} {E:c_} {i:Nat} {x:Str} {v:V} {u:Value} {Q:Unit->Shared->Prop} (I:Inv X pins σ H s) (hN:X.N.Nodup) (O:X.N[i]?=some x) (C:aN X.env.scope x) (r:RelV v u)
  (h:∀ s',Inv X pins (σ.set i (some v)) H s'->(∃ a,Heap.SameBut a s.heap s'.heap/\(a=X.env.locals\/X.env.cells.lookup x=some a))->Q Unit.unit s') (hf:X.fn x=true\/X.env.scope.names.lookup x=some .local:=by first | exact .inl rfl | exact .inr rfl | assumption):wpAny M A (storeName X.env x u) Q E s:=by
 let {m,hn,hl}:=id I.loc;let P:(X.env.scope.kind == .class || (X.env.scope.kind == .module && X.env.locals != X.env.globals))=false:=by rw [I.ok.kind];rfl
 let G:i<@σ:=by rw [I.len];exact (A3.mp O).1
 let J:=I.cne
 let g:∀ {a:Addr} {h':Heap},(∃ o,s.heap.get? a=some o/\H a=none)->Heap.SameBut a s.heap h'->HOk X.prog X.w H h':=λ{a h'} ha f b ob e=>by
  let {_,_,D}:=ha;refine (I.hok b ob e).stay (λc W B q=>(f.2 c ?_).trans q) (λ_ q=>q) λ_ _ q=>q;rintro rfl;rcases B with rfl | B
  .rw [D] at e;cases e
  .rw [D] at B;cases B
 rcases C with hk | hk
 .refine wpAny_storeName_local hk hn (λh' a0 f=>?_) P;let {oL,_,_,a3,_}:=id hn;refine h _ {I.ok,I.os,I.bare,{λb o e n K C=>?_,λb o e n K C=>?_,I.base.free,λb o e C=>?_,I.base.tups,I.base.frzs,I.base.tbls},{_,a0,λj y v' w F e3=>?_},λy c e=>?_,I.free,I.freeC,λp hp=>?_,g ⟨oL,a3,I.free⟩ f,by simpa using I.len} {_,f,.inl rfl}
  .exact (f.2 b (BQ (BZ (nO e) I.ok.above))).trans (I.base.keep b o e n K C)
  .let {sl,w}:=I.base.slot b o e n K C;exact {sl,(f.2 b (BQ (BZ (nO e) I.ok.above))).trans w}
  .let {o',w}:=I.base.there b o e C;exact {o',(f.2 b (BQ (BZ (nO e) I.ok.above))).trans w}
  .by_cases L:j=i
   .subst L;rw [O] at w;cases w;rw [List.getElem?_set_self G] at F;cases F;exact {u,r,.inl {hk,by simp}}
   .rw [List.getElem?_set_ne (Ne.symm L)] at F;let {u',r',q}:=hl j y v' w F e3;refine {u',r',?_};rcases q with ⟨k,e⟩ | ⟨k,c,e,z⟩
    .refine .inl {k,?_};have:y≠x:=λe=>L (Nb hN w (e ▸ O));simp [this,e]
    .exact .inr {k,c,e,z.sameBut f (J y c e)}
  .let {W,z}:=I.cell y c e;exact {W,z.sameBut f (J y c e)}
  .let {e,n,Y,nf,d}:=I.pin p hp;exact {(f.2 p.1 Y).trans e,n,Y,nf,d}
 .let N:X.fn x=true:=by
   rcases hf with z | z
   .exact z
   .rw [z] at hk;cases hk
  let {c,B}:=I.ok.has x (.inl hk);let {W,z}:=I.cell x c B;refine wpAny_storeName_cell I.ok.kind hk B z (λh' R f=>?_);let {oc,S,T}:=id z;refine h { s with heap:=h' } {I.ok,I.os,I.bare,{λb o e n K C=>?_,λb o e n K C=>?_,I.base.free,λb o e C=>?_,I.base.tups,I.base.frzs,I.base.tbls},{m,hn.sameBut f (Ne.symm (J x c B)),λj y v' w F e3=>?_},λy Z e=>?_,I.free,I.freeC,λp hp=>?_,g {oc,S,I.freeC x c B} f,by simpa using I.len} {c,f,.inr B}
  .exact (f.2 b (BQ (BZ (nO e) (I.ok.cab x c N B)))).trans (I.base.keep b o e n K C)
  .let {sl,w}:=I.base.slot b o e n K C;exact {sl,(f.2 b (BQ (BZ (nO e) (I.ok.cab x c N B)))).trans w}
  .let {o',w}:=I.base.there b o e C;exact {o',(f.2 b (BQ (BZ (nO e) (I.ok.cab x c N B)))).trans w}
  .by_cases L:j=i
   .subst L;rw [O] at w;cases w;rw [List.getElem?_set_self G] at F;cases F;exact {u,r,.inr {.inl hk,c,B,R}}
   .rw [List.getElem?_set_ne (Ne.symm L)] at F;let {u',r',q}:=hl j y v' w F e3;refine {u',r',?_};rcases q with q | ⟨k,Z,e,z'⟩
    .exact .inl q
    .refine .inr {k,Z,e,z'.sameBut f ?_};rintro rfl;exact L (Nb hN w (I.ok.inj _ _ _ e B ▸ O))
  .by_cases U:Z=c
   .subst U;exact {_,R}
   .let {w2,z2}:=I.cell y Z e;exact {w2,z2.sameBut f U}
  .let {e,n,Y,nf,d}:=I.pin p hp;refine {(f.2 p.1 ?_).trans e,n,Y,nf,d};intro q;rw [q,S] at e;let q':oc=p.2:=nL e;exact d W (by rw [<-q'];exact T)
def Hb {M:Model} {A:Around} {E:c_} {i:Nat} {x:Str} {v:V} {u:Value} {Q:Unit->Shared->Prop} (I:Inv X pins σ H s) (b:X.N.Nodup) (c:X.N[i]?=some x) (d:aN X.env.scope x) (r:RelV v u)
  (h:∀ a,Inv X pins (σ.set i (some v)) H a->Q Unit.unit a) (e:X.fn x=true\/X.env.scope.names.lookup x=some .local:=by first | exact .inl rfl | exact .inr rfl | assumption):wpAny M A (storeName X.env x u) Q E s:=
 Nc I b c d r (λa f _=>h a f) e
def Inv.call' {s':Shared} {ch:de} (I:Inv X pins σ H s) (f:s'.os=s.os) (u:Un (ax X.stack) ch H H' s.heap s'.heap) (a:HOk X.prog X.w H' s'.heap) (g:AllBare s'.gens)
  (d:∀ b∈ch,(b∈X.ex\/X.s₀.heap.objs.size<=b)/\b≠X.env.locals/\(∀ x c,X.env.cells.lookup x=some c->c≠b)/\∀ p∈X.pn++pins,p.1≠b):Inv X pins σ H' s':=by
 let {h',g',d',t',h}:=s';let e:h=s.os:=f;subst e;exact I.call (g':=g') (t':=t') (d':=d') u a g d
end
abbrev XK:=Value->Option Addr->Hp->Prop
abbrev St:=List (cX)
abbrev VK:=V->Hp->Prop
abbrev TE:=St->Hp->VK->Prop
abbrev TT:=St->Hp->(Bool->Hp->Prop)->Prop
abbrev TA:=St->Hp->(cW->Hp->Prop)->Prop
structure Ends where
 nx:St->Hp->Prop
 rt:VK
 bk:St->Hp->Prop:=λ_ _=>False
 ct:St->Hp->Prop:=λ_ _=>False
abbrev TS:=Ends->St->Hp->Prop
def EP (X:Cx) (a:d6) (c:St) (Q:VK) (u:Value) (s':Shared):Prop:=∃ v b,Inv X a c b s'/\RelV v u/\Q v b
def TP (X:Cx) (a:d6) (d:St) (Q:Bool->Hp->Prop) (b:Bool) (s':Shared):Prop:=∃ c,Inv X a d c s'/\Q b c
def AP (X:Cx) (a:d6) (d:St) (Q:cW->Hp->Prop) (e:cZ) (s':Shared):Prop:=∃ b c,Inv X a d c s'/\Vals b e/\Q b c
def SP (X:Cx) (b:d6) (D:Ends) (f:Flow) (s':Shared):Prop:=
 match f with
 | .next=>∃ a c,Inv X b a c s'/\D.nx a c
 | .brk=>∃ a c,Inv X b a c s'/\D.bk a c
 | .cont=>∃ a c,Inv X b a c s'/\D.ct a c
 | .ret u=>∃ v a c,Inv X b a c s'/\RelV v u/\D.rt v c
def PE (X:Cx) (e:Expr) (t:TE):Prop:=
 ∀ (a:d6) (s:Shared) (b:St) (H:Hp) (Q:VK),Inv X a b H s->t b H Q->wpAny (model X.prog X.w) X.A (eval e X.env) (EP X a b Q) X.xe s
def PT (X:Cx) (e:Expr) (t:TT):Prop:=
 ∀ (a:d6) (s:Shared) (b:St) (H:Hp) (Q:Bool->Hp->Prop),Inv X a b H s->t b H Q->wpAny (model X.prog X.w) X.A (isTrue e X.env (eval e X.env)) (TP X a b Q) X.xe s
def PW (X:Cx) (e:Expr) (t:TT):Prop:=
 ∀ (b:Sem Value) (a:d6) (s:Shared) (c:St) (H:Hp) (Q:Bool->Hp->Prop),Inv X a c H s->t c H Q->wpAny (model X.prog X.w) X.A (isTrue e X.env b) (TP X a c Q) X.xe s
def PW.pt {X:Cx} {e:Expr} {t:TT} (h:PW X e t):PT X e t:=h _
def PA (X:Cx) (d:dc) (t:TA):Prop:=
 ∀ (b:Pos) (a:d6) (s:Shared) (c:St) (H:Hp) (Q:cW->Hp->Prop),Inv X a c H s->t c H Q->wpAny (model X.prog X.w) X.A (spliced (backTo b (starEach d X.env))) (AP X a c Q) X.xe s
def PS (X:Cx) (st:Stmt) (t:TS):Prop:=
 ∀ (a:d6) (s:Shared) (b:St) (H:Hp) (D:Ends),Inv X a b H s->t D b H->wpAny (model X.prog X.w) X.A (exec st X.env) (SP X a D) X.xe s
def PSs (X:Cx) (st:List Stmt) (t:TS):Prop:=
 ∀ (a:d6) (s:Shared) (b:St) (H:Hp) (D:Ends),Inv X a b H s->t D b H->wpAny (model X.prog X.w) X.A (execs st X.env) (SP X a D) X.xe s
def F_ {b:Type} {t:Sem b} {Q c:b->Shared->Prop} {M:Model} {A:Around} {E:c_} {s:Shared} (h:wpAny M A t Q E s) (d:∀ a s,Q a s->c a s):wpAny M A t c E s:=nK h d λ_ _ x=>x
section
variable {X:Cx}
inductive AA(i:Nat)(a:L2.St)(H:Hp)(Q:VK):Prop
 |mk(v):a[i]?=some (some v)->Q v H->AA i a H Q
def pK {i:Nat} {b:L2.St} {H:Hp} {Q:VK}:AA i b H Q=∃ v,b[i]?=some (some v)/\Q v H:=propext {λ⟨a,a1,a2⟩=>⟨a,a1,a2⟩,λ⟨a,a1,a2⟩=>⟨a,a1,a2⟩}
def tC (v:V):TE:=λ_ H Q=>Q v H
def UH {i:Nat} {x:Str} {f:Pos} (n:X.N[i]?=some x) (o:bV X.env.scope x) (g:(x == ("__debug__" : Str))=false:=by decide) (j:(x == ("__classdict__" : Str))=false:=by decide):PE X (.Name x f) (AA i):=by
 intro d s p H Q I h;let {v,e,h}:=h;let {m,q,w}:=I.loc;let {u,r,l}:=w i x v n e o;let b:EP X d p Q u s:=⟨v,H,I,r,h⟩;rcases l with ⟨hk,y⟩ | ⟨hk,c,k,a⟩
 .exact wpAny_Name (wpAny_loadName_local I.ok.kind hk q y b) g
 .rcases hk with hk | hk
  .exact wpAny_Name (wpAny_loadName_cell I.ok.kind hk k a b) g
  .exact wpAny_Name (wpAny_loadName_free I.ok.kind hk k a b j) g
def AH {i j pos}:PE X (.Constant (.int i) j pos) (tC (.int i)):=λ_ _ _ H _ I h=>wpAny_Constant_int {.int i,H,I.tok _,{1},h}
def JE {b j pos}:PE X (.Constant (.bool b) j pos) (tC (.bl b)):=λ_ _ _ H _ I h=>Constant_bool {.bl b,H,I,2,h}
def EO {j pos}:PE X (.Constant .none j pos) (tC .non):=λ_ _ _ H _ I h=>Constant_none {.non,H,I,2,h}
def Gl (X:Cx) (x:Str):Prop:=X.env.kindOf x=some .globalImplicit
def Nd {E:c_} {a:d6} {s:Shared} {c:St} {H:Hp} {x:Str} {u:Value} {b:Pos} {Q:c_} (I:Inv X a c H s) (d:Gl X x) (e:X.mg x=some u) (h:Q u s)
  (f:(x == ("__debug__" : Str))=false:=by decide):wpAny (model X.prog X.w) X.A (eval (.Name x b) X.env) Q E s:=
 Calls.Name_function_global I.ok.kind d (Calls.loadGlobal_global (by rw [I.ok.glob];exact I.mod.glob.keeps I.bk) e h) f
def Dj {E:c_} {a:d6} {s:Shared} {c:St} {H:Hp} {x:Str} {u:Value} {b:Pos} {Q:c_} (I:Inv X a c H s) (d:Gl X x) (e:X.mg x=none) (f:bootBuiltins x=some u) (h:Q u s)
  (g:x ≠ "__name__" := by decide) (i:(x == ("__debug__" : Str))=false:=by decide):wpAny (model X.prog X.w) X.A (eval (.Name x b) X.env) Q E s:=by
 let {m,j,k}:=I.mod.blt;exact Calls.Name_function_global I.ok.kind d (Calls.loadGlobal_builtin (by rw [I.ok.glob];exact I.mod.glob.keeps I.bk) e (by rw [I.ok.blt];exact j.keeps I.bk) ((k x g).trans f) h) i
def UI {x:Str} {v:V} {u:Value} {a:Pos} (b:Gl X x) (c:X.mg x=some u) (r:RelV v u) (d:(x == ("__debug__" : Str))=false:=by decide):PE X (.Name x a) (tC v):=
 λ_ _ _ H _ I h=>Nd I b c ⟨v,H,I,r,h⟩ d
def Nf {x:Str} {v:V} {u:Value} {a:Pos} (b:Gl X x) (c:X.mg x=none) (d:bootBuiltins x=some u) (r:RelV v u) (e:x ≠ "__name__" := by decide) (f:(x == ("__debug__" : Str))=false:=by decide):PE X (.Name x a) (tC v):=
 λ_ _ _ H _ I h=>Dj I b c d ⟨v,H,I,r,h⟩ e f
variable {a b:Expr} {ta tb:TE} {pos:Pos}
def tB (t:TE):TT:=λd H Q=>t d H λx e=>∃ c,x=.bl c/\Q c e
def FU {e:Expr} {t:TE} (h:PE X e t) (g:∀ c,isTrue e X.env c=(do let v <-c;standAt e.pos;holding [v] (truthy v)):=by intro _;rfl):PT X e (tB t):=by
 intro f s i H Q I j;refine isTrue_plain (F_ (h f s i H _ I j) λv p ⟨x,k,m,n,o⟩=>?_) (g _);let {d,rfl,q}:=o;cases n;exact wpAny_truthy_bool ⟨k,m,q⟩
variable {tA tB':TT} {rest:dc}
def EQ (t u:TT):TT:=λd H Q=>t d H λc e=>if c=true then u d e Q else Q false e
def aC (t u:TT):TT:=λd H Q=>t d H λc e=>if c=true then Q true e else u d e Q
def ER (t:TT):TT:=λd H Q=>t d H λc e=>Q (!c) e
theorem Gi (f:PT X a tA):PW X (.BoolOp .And [a] pos) tA:=by
 intro i d s g H Q I h;refine isTrue_and (F_ (f d s g H Q I h) λc j e=>?_);cases c with
 | true=>exact isTrue_and_nil e
 | false=>exact e
theorem JG (f:PT X a tA):PW X (.BoolOp .Or [a] pos) tA:=by
 intro i d s g H Q I h;refine isTrue_or (F_ (f d s g H Q I h) λc j e=>?_);cases c with
 | false=>exact isTrue_or_nil e
 | true=>exact e
theorem Fy (j:PT X a tA) (k:PW X (.BoolOp .And (b::rest) pos) tB'):PW X (.BoolOp .And (a::b::rest) pos) (EQ tA tB'):=by
 intro m d s e H Q I h;refine isTrue_and (F_ (j d s e H _ I h) λc n ⟨f,g,i⟩=>?_);cases c with
 | true=>exact k m d n e f Q g i
 | false=>exact ⟨f,g,i⟩
theorem He (j:PT X a tA) (k:PW X (.BoolOp .Or (b::rest) pos) tB'):PW X (.BoolOp .Or (a::b::rest) pos) (aC tA tB'):=by
 intro m d s e H Q I h;refine isTrue_or (F_ (j d s e H _ I h) λc n ⟨f,g,i⟩=>?_);cases c with
 | true=>exact ⟨f,g,i⟩
 | false=>exact k m d n e f Q g i
def Fz (e:PT X a tA):PT X (.UnaryOp .Not a pos) (ER tA):=by
 intro d s f H Q I h;exact isTrue_not (e d s f H (λc g=>Q (!c) g) I h)
def JH (ta tb:TE):TE:=λd H Q=>ta d H λx e=>∃ c,x=.bl c/\if c=true then tb d e Q else Q (.bl false) e
def Ng {op} {t:TE} (h:PE X a t):PE X (.BoolOp op [a] pos) t:=λc s d H Q I e=>BoolOp_one (h c s d H Q I e)
theorem Nh (j:PE X a ta) (k:PE X (.BoolOp .And (b::rest) pos) tb):PE X (.BoolOp .And (a::b::rest) pos) (JH ta tb):=by
 intro d s f H Q I h;refine BoolOp_and (F_ (j d s f H _ I h) λv m ⟨x,g,i,n,e⟩=>?_);let {c,rfl,e}:=e;cases n;refine wpAny_truthy_bool ?_;cases c with
 | true=>exact k d m f g Q i e
 | false=>exact {.bl false,g,i,2,e}
def aV (t:TT) (ta tb:TE):TE:=λd H Q=>t d H λc e=>if c=true then ta d e Q else tb d e Q
theorem Hf {c:Expr} (m:PT X c tA) (n:PE X a ta) (o:PE X b tb):PE X (.IfExp c a b pos) (aV tA ta tb):=by
 intro e s f H Q I h;refine wpAny_IfExp (F_ (m e s f H _ I h) λd g ⟨i,j,k⟩=>?_);cases d with
 | true=>exact n e g f i Q j k
 | false=>exact o e g f i Q j k
end
def SqL (K:W.Frag) (H:Hp) (a:Addr) (xs:cW):Prop:=
 Rd H a (.lst xs)\/
  ∃ (o:Obj) (b:Array Value) (n:Nat),K.lookup a=some o/\o.cls=.type "list" /\ o.dict=none/\o.data=.seq b n/\b.size<=sizeLine/\Vals xs b.toList
def SqT (K:W.Frag) (H:Hp) (a:Addr) (xs:cW):Prop:=
 Rd H a (.tup xs)\/
  ∃ (o:Obj) (b:Array Value) (n:Nat),K.lookup a=some o/\o.cls=.type "tuple" /\ o.data=.seq b n/\b.size<=sizeLine/\Vals xs b.toList
noncomputable def UJ:Value->cX
 | .none=>some .non
 | .bool b=>some (.bl b)
 | .int i _=>some (.int i)
 | .str x _=>some (.str x)
 | .bytes b _=>some (.byt b)
 | .float b _=>some (.flt b)
 | .ref a=>↥a
 | .type n=>some (.ty n)
 | _=>none
theorem RelV.abs {x:V} {u:Value} (r:RelV x u):UJ u=some x:=by
 cases x with
 | non=>cases r;rfl
 | bl _=>cases r;rfl
 | int _=>let ⟨t,rfl⟩:=r;rfl
 | str _=>let ⟨t,rfl⟩:=r;rfl
 | byt _=>let ⟨t,rfl⟩:=r;rfl
 | flt _=>let ⟨t,rfl⟩:=r;rfl
 | ref _=>cases r;rfl
 | ty _=>cases r;rfl
def RelV.inj {x y:V} {u:Value} (r:RelV x u) (q:RelV y u):x=y:=nL (r.abs.symm.trans q.abs)
theorem Vals.inj:∀ {xs ys:cW} {a:cZ},Vals xs a->Vals ys a->xs=ys
 | _,_,_,.nil,.nil=>rfl
 | _,_,_,.cons r t,.cons b c=>by rw [r.inj b,Vals.inj t c]
section
variable {X:Cx} {pins:d6} {σ:St} {H:Hp} {s:Shared} {a:Addr} {xs ys:cW}
def SqL.of {K:W.Frag} (h:H a^^^xs):SqL K H a xs:=.inl (.inl h)
def SqT.of {K:W.Frag} (h:H a&&&xs):SqT K H a xs:=.inl (.inl h)
def Inv.list (I:Inv X pins σ H s) (h:SqL X.K H a xs):∃ b:cZ,Vals xs b/\PlainL s.heap a b.toArray/\@xs<=sizeLine:=by
 rcases h with h | ⟨o,b,n,hk,c,d,f,hz,r⟩
 .let {z,b,n,r,e}:=h.ok I.hok;exact {b,r,{_,n,e,7,2},z}
 .refine {b.toList,r,{o,n,I.kIn a o hk,c,d,by simpa using f},?_};let e:=@r;simp only [Array.length_toList] at e;omega
def Inv.tuple (I:Inv X pins σ H s) (h:SqT X.K H a xs):∃ b:cZ,Vals xs b/\IsTup s.heap a b.toArray/\@xs<=sizeLine:=by
 rcases h with h | ⟨o,b,n,hk,c,d,hz,r⟩
 .let {z,b,r,p}:=h.ok I.hok;exact ⟨b,r,p,z⟩
 .refine {b.toList,r,{o,I.kIn a o hk,c,n,by simpa using d},?_};let e:=@r;simp only [Array.length_toList] at e;omega
def Inv.list_inj (I:Inv X pins σ H s) (h:SqL X.K H a xs) (h':SqL X.K H a ys):xs=ys:=by
 let {c,r,{o,n,e,_,_,d},_}:=I.list h;let {b,i,{k,m,f,_,_,g},_}:=I.list h';rw [e] at f;cases f;rw [d] at g;injection g with j _;have:c=b:=by simpa using congrArg Array.toList j
 subst this;exact r.inj i
def Inv.tuple_inj (I:Inv X pins σ H s) (h:SqT X.K H a xs) (h':SqT X.K H a ys):xs=ys:=by
 let {c,r,{o,e,_,n,d},_}:=I.tuple h;let {b,i,{k,f,_,m,g},_}:=I.tuple h';rw [e] at f;cases f;rw [d] at g;injection g with j _;have:c=b:=by simpa using congrArg Array.toList j
 subst this;exact r.inj i
end
abbrev Cx.wish (X:Cx) (E:c_):Cx:={ X with xe:=E }
abbrev Cx.nox (X:Cx):Cx:=X.wish λ_ _=>False
def Cx.Ok.wish {X:Cx} (ok:X.Ok) (E:c_):(X.wish E).Ok:=
 ⟨ok.mod,ok.kind,ok.glob,ok.blt,ok.above,ok.inj,ok.has,ok.cab,ok.hd,ok.frames,ok.stk,ok.exf,ok.bs,ok.bsz,ok.noex,ok.exfs,ok.funs,ok.frf,ok.seer,ok.tree,ok.plr⟩
def Cx.Ok.unwish {X:Cx} {E:c_} (ok:(X.wish E).Ok):X.Ok:=
 ⟨ok.mod,ok.kind,ok.glob,ok.blt,ok.above,ok.inj,ok.has,ok.cab,ok.hd,ok.frames,ok.stk,ok.exf,ok.bs,ok.bsz,ok.noex,ok.exfs,ok.funs,ok.frf,ok.seer,ok.tree,ok.plr⟩
section
variable {X:Cx} {pins:d6} {σ:St} {H:Hp} {s:Shared} {E:c_}
def Inv.wish (I:Inv X pins σ H s) (E:c_):Inv (X.wish E) pins σ H s:={I.ok.wish E,I.os,I.bare,I.base,I.loc,I.cell,I.free,I.freeC,I.pin,I.hok,I.len}
def Inv.unwish (I:Inv (X.wish E) pins σ H s):Inv X pins σ H s:=⟨I.ok.unwish,I.os,I.bare,I.base,I.loc,I.cell,I.free,I.freeC,I.pin,I.hok,I.len⟩
theorem SP.unwish {D:Ends} {f:Flow} {s':Shared} (h:SP (X.wish E) pins D f s'):SP X pins D f s':=by
 cases f with
 | next=>let ⟨a,b,I,q⟩:=h;exact ⟨a,b,I.unwish,q⟩
 | brk=>let ⟨a,b,I,q⟩:=h;exact ⟨a,b,I.unwish,q⟩
 | cont=>let ⟨a,b,I,q⟩:=h;exact ⟨a,b,I.unwish,q⟩
 | ret u=>let ⟨v,a,b,I,r,q⟩:=h;exact ⟨v,a,b,I.unwish,r,q⟩
def PSs.nox {st:List Stmt} {t:TS} (h:PSs X.nox st t):PSs X st t:=λpins s σ H D I a=>
 nK (h pins s σ H D (I.wish _) a) (λ_ _ q=>q.unwish) λ_ _ z=>False.elim z
end
section
variable {X:Cx} {st:Stmt} {rest:List Stmt} {t u:TS} {e:Expr} {te:TE} {pos:Pos}
def BA:TS:=λD a H=>D.nx a H
def AF (t u:TS):TS:=λD a H=>t { D with nx:=u D } a H
def BM:PSs X [] BA:=λ_ _ a H _ I h=>wpAny_execs_nil ⟨a,H,I,h⟩
theorem AG (c:PS X st t) (d:PSs X rest u):PSs X (st::rest) (AF t u):=by
 intro a s g H D I h;refine wpAny_execs_cons (F_ (c a s g H { D with nx:=u D } I h) λf i q=>?_);cases f with
 | next=>
   let {b,j,k,q}:=q;exact d a i b j D k q
 | ret v=>exact q
 | brk=>exact q
 | cont=>exact q
theorem AQ (b:PS X st t):PSs X [st] t:=by
 intro a s c H D I h;refine wpAny_execs_cons (F_ (b a s c H D I h) λf d q=>?_);cases f with
 | next=>exact wpAny_execs_nil q
 | ret v=>exact q
 | brk=>exact q
 | cont=>exact q
def Inv.quiet {a:d6} {b:St} {H:Hp} {s:Shared} (I:Inv X a b H s):interactive X.env=false:=by simp [interactive,I.ok.kind]
def DK (te:TE):TS:=λD a H=>te a H λ_ b=>D.nx a b
def Em (c:PE X e te) (d:swapsWith e none pos.line X.env=pure false:=by rfl):PS X (.Expr e pos) (DK te):=by
 intro a s b H D I h;exact wpAny_Expr_any (F_ (c a s b H _ I h) λv j ⟨x,f,g,k,i⟩=>⟨b,f,g,i⟩) I.quiet d
def Aa (te:TE):TS:=λD a H=>te a H D.rt
def Ac (c:PE X e te):PS X (.Return (some e) pos) (Aa te):=by
 intro a s b H D I h;exact wpAny_Return_some (F_ (c a s b H _ I h) λv j ⟨x,d,f,g,i⟩=>⟨x,b,d,f,g,i⟩)
def BC (c:TT) (t u:TS):TS:=λD a H=>c a H λb d=>if b=true then t D a d else u D a d
theorem BN {c:Expr} {a b:List Stmt} {tc:TT} (n:PT X c tc) (o:PSs X a t) (p:PSs X b u):PS X (.If c a b pos) (BC tc t u):=by
 intro f s g H D I h;refine wpAny_If (F_ (n f s g H _ I h) λd i ⟨j,k,m⟩=>?_);cases d with
 | true=>exact o f i g j D k m
 | false=>exact p f i g j D k m
end
abbrev TG:=V->St->Hp->(St->Hp->Prop)->Prop
abbrev aW:=cW->St->Hp->(St->Hp->Prop)->Prop
def PG (X:Cx) (a:Expr) (t:TG):Prop:=
 ∀ (b:d6) (s:Shared) (d:St) (H:Hp) (v:V) (u:Value) (Q:St->Hp->Prop),Inv X b d H s->RelV v u->t v d H Q->
   wpAny (model X.prog X.w) X.A (assign a X.env u) (λ_ f=>∃ c e,Inv X b c e f/\Q c e) X.xe s
def bX (X:Cx) (g:dc) (t:aW):Prop:=
 ∀ (a:d6) (s:Shared) (c:St) (H:Hp) (d:cW) (e:cZ) (Q:St->Hp->Prop),Inv X a c H s->Vals d e->t d c H Q->
   wpAny (model X.prog X.w) X.A (assignInOrder ((assignEach g X.env).map (·.2)) e) (λ_ h=>∃ b f,Inv X a b f h/\Q b f) X.xe s
abbrev aD:=V->V->V->Hp->(Hp->Prop)->Prop
def aO (X:Cx) (t:aD):Prop:=
 ∀ (a:d6) (s:Shared) (b:St) (H:Hp) (o i v:V) (c d u:Value) (Q:Hp->Prop),Inv X a b H s->RelV o c->RelV i d->RelV v u->t o i v H Q->
   wpAny (model X.prog X.w) X.A (setItem c d u) (λ_ f=>∃ e,Inv X a b e f/\Q e) X.xe s
abbrev bE:=V->V->Hp->VK->Prop
def PIp (X:Cx) (c:Operator) (t:bE):Prop:=
 ∀ (a:d6) (s:Shared) (b:St) (H:Hp) (x y:V) (v u:Value) (Q:VK),Inv X a b H s->RelV x v->RelV y u->t x y H Q->
   wpAny (model X.prog X.w) X.A (inplaceOp c v u) (EP X a b Q) X.xe s
section
variable {X:Cx} {pos:Pos}
def AE (i:Nat):TG:=λv a H Q=>Q (a.set i (some v)) H
def Af {i:Nat} {x:Str} (b:X.N.Nodup) (c:X.N[i]?=some x) (d:aN X.env.scope x) (e:X.fn x=true\/X.env.scope.names.lookup x=some .local:=by first | exact .inl rfl | exact .inr rfl | assumption):PG X (.Name x pos) (AE i):=by
 intro a s g H v u Q I r h;exact wpAny_assign_Name (Hb I b c d r (λj f=>{_,H,f,h}) e)
noncomputable def D2:aW:=λa b H Q=>a=[]/\Q b H
inductive B6(t:TG)(u:aW)(b:cW)(c:L2.St)(H:Hp)(Q:L2.St->Hp->Prop):Prop
 |mk(v r):b=v::r->(t v c H λa d=>u r a d Q)->B6 t u b c H Q
def ES:bX X [] D2:=by
 intro a s b H c d Q I r h;let {e,h}:=h;subst e;cases r;exact assignInOrder_nil ⟨b,H,I,h⟩
theorem CT {e:Expr} {b:dc} {t:TG} {u:aW} (d:PG X e t) (f:bX X b u)
  (g:(assignEach (e::b) X.env).map (·.2)=assign e X.env::(assignEach b X.env).map (·.2):=by rfl):bX X (e::b) (B6 t u):=by
 intro a s i H q w Q I r h;let {v,x,j,h}:=h;subst j;cases r with
 | cons r k=>
   rw [g];refine assignInOrder_cons (F_ (d a s i H _ _ _ I r h) λ_ m ⟨c,n,o,p⟩=>?_);exact f a m c n _ _ Q o k p
inductive UK(K:W.Frag)(n:Nat)(t:aW)(v:V)(c:L2.St)(H:Hp)(Q:L2.St->Hp->Prop):Prop
 |mk(a b):v=.ref a->SqT K H a b->@b=n->t b c H Q->UK K n t v c H Q
def UL {d:dc} {k:Nat} {t:aW} {n:Nat} (p:X.calm=true) (h:bX X d t)
  (q:(assignEach d X.env).length=n:=by rfl) (f:(assignEach d X.env).findIdx? (·.1)=none:=by rfl):PG X (.Tuple d k pos) (UK X.K n t):=by
 intro c s i H v u Q I r g;let {a,w,x,y,z,g}:=g;subst x;cases r;let {A,j,B,hz}:=I.tuple y;refine assign_Tuple_tuple (I.ok.hd p) B (by simp [q,<-z,j.length]) f λC D=>?_;let E:Inv X c i H { s with heap:=C }:=I.kept (t':=s.toks) λb o e=>D b o (BQ (nO e)) e;exact h c _ i H w _ Q E (by simpa using j) g
def DU (b c:TE) (t:aD):TG:=λv a H Q=>b a H λo d=>c a d λi e=>t o i v e λf=>Q a f
def Dk {o i:Expr} {e f:TE} {t:aD} (g:PE X o e) (j:PE X i f) (k:aO X t)
  (m:∀ v,assign (.Subscript o i pos) X.env v=(do
   let b <-holding [v] (eval o X.env);let c <-holding [v,b] (eval i X.env)
   standAt pos
   holding [v,b,c] (setItem b c v)
   release [v,b,c] []):=by intro _;rfl):PG X (.Subscript o i pos) (DU e f t):=by
 intro a s d H v u Q I r h;rw [m];refine nH (wpAny_holding (F_ (g a s d H _ I h) λb n ⟨x,p,q,w,z⟩=>?_));refine nH (wpAny_holding (F_ (j a n d p _ q z) λc A ⟨y,B,C,D,E⟩=>?_));refine nH (wpAny_standAt (nH (wpAny_holding (F_ (k a A d B x y v b c u _ C w D r E) λ_ K ⟨F,G,J⟩=>?_))));exact wpAny_release ⟨d,F,G,J⟩
def AJ (b:TE) (g:TG):TS:=λD a H=>b a H λx c=>g x a c D.nx
def DF {b e:Expr} {c:TE} {g:TG} (f:PE X e c) (i:PG X b g) (j:swapsWithSole [b] e pos.line X.env=pure false:=by rfl) (k:swappedStores [b] e X.env=pure none:=by rfl)
  (m:(assignEach [b] X.env).map (·.2)=[assign b X.env]:=by rfl):PS X (.Assign [b] e pos) (AJ c g):=by
 intro a s d H D I h;refine wpAny_Assign_stores (F_ (f a s d H _ I h) λv n ⟨x,o,p,r,u⟩=>?_) j k;rw [m];exact F_ (i a n d o x v _ p r u) λ_ w q=>q
def CC {i:Nat} {x:Str} {e:Expr} {c:TE} {a:Pos} (d:X.N.Nodup) (f:X.N[i]?=some x) (g:aN X.env.scope x) (j:PE X e c) (k:swapsWith e (some (.Name x a)) pos.line X.env=pure false:=by rfl) (m:X.fn x=true\/X.env.scope.names.lookup x=some .local:=by first | exact .inl rfl | exact .inr rfl | assumption) :
  PS X (.Assign [.Name x a] e pos) (AJ c (AE i)):=by
 intro b s n H D I h;refine wpAny_Assign_Name (F_ (j b s n H _ I h) λv w ⟨y,o,p,q,r⟩=>?_) k;exact Hb p d f g q (λz u=>{_,o,u,r}) m
def F3 (i j:Nat) (b:TA):TS:=λD a H=>b a H λc d=>∃ v w,c=[v,w]/\D.nx ((a.set i (some v)).set j (some w)) d
def JI {i j:Nat} {x y:Str} {a b:Expr} {B:TA} {m n r:Pos} {kt k2 pt2} (N:X.calm=true) (C:X.N.Nodup) (O:X.N[i]?=some x) (P:X.N[j]?=some y) (u:i≠j)
  (E:X.env.scope.names.lookup x=some .local) (F:X.env.scope.names.lookup y=some .local) (Q:PA X [a,b] B)
  (R:swappedStores [.Tuple [.Name x m,.Name y n] kt r] (.Tuple [a,b] k2 pt2) X.env=pure (some [x,y]))
  (S:swapsWithSole [.Tuple [.Name x m,.Name y n] kt r] (.Tuple [a,b] k2 pt2) pos.line X.env=pure false:=by rfl) :
  PS X (.Assign [.Tuple [.Name x m,.Name y n] kt r] (.Tuple [a,b] k2 pt2) pos) (F3 i j B):=by
 intro d s G H D I h;rw [exec_Assign_arm];refine nH (wpAny_standAt ?_);rw [S];refine nH (nJ ?_);rw [nB `b];refine nH (Tuple_ (F_ (Q _ d s G H _ I h) λT f ⟨vs,J,U,W,z⟩=>?_));let {v,w,Y,z}:=z;subst Y
 let {g,k,rfl,Z,rw'}:∃ g k,T=[g,k]/\RelV v g/\RelV w k:=by
  cases W with
  | cons p q=>
    cases q with
    | cons p' q'=>
      cases q';exact {6,p,p'}
 refine wpAny_newObj_type ?_ (by show 2<=sizeLine;decide);let I2:Inv X d G J { f with heap:=f.heap.push { cls:=.type "tuple", data:=.seq [g,k].toArray } }:=U.kept (t':=f.toks) λb o e=>Heap.get?_push_of_some _ e;rw [R];refine nH (nJ ?_);show wpAny (model X.prog X.w) X.A (do rule "assign.swapped-stores"; let c <-unpackItems (.ref ⇑f) 2 none;assignInOrder [λv=>bindName X.env y v,λv=>bindName X.env x v] c.reverse;pure Flow.next) _ _ _;refine nH (wpAny_rule (nH (unpackItems_tuple (items:=#[g,k]) (I.ok.hd N) (IsTup.new f.heap _) λh' A=>?_)));let I3:=I2.kept (h':=h') (t':=f.toks) λb o e=>A b o (BQ (nO e)) e;show wpAny _ _ (assignInOrder [λv=>bindName X.env y v,λv=>bindName X.env x v] [k,g] >>= λ_=>pure Flow.next) _ _ _;refine nH (assignInOrder_cons (wpAny_bindName (Hb I3 C P (.inl F) rw' (λs2 I4=>?_) (.inr F))));refine assignInOrder_cons (wpAny_bindName (Hb I4 C O (.inl E) Z (λs3 M=>assignInOrder_nil (nJ ?_)) (.inr E)));rw [List.set_comm _ _ (Ne.symm u)] at M;exact {_,J,M,z}
inductive ET(i:Nat)(b:TE)(c:bE)(D:Ends)(a:L2.St)(H:Hp):Prop
 |mk(x):a[i]?=some (some x)->(b a H λy d=>c x y d λz e=>D.nx (a.set i (some z)) e)->ET i b c D a H
def pL {i:Nat} {c:TE} {d:bE} {D:Ends} {a:L2.St} {H:Hp}:ET i c d D a H=∃ x,a[i]?=some (some x)/\c a H λy e=>d x y e λz f=>D.nx (a.set i (some z)) f:=propext {λ⟨b,a1,a2⟩=>⟨b,a1,a2⟩,λ⟨b,a1,a2⟩=>⟨b,a1,a2⟩}
def E6 {i:Nat} {x:Str} {e:Expr} {p:TE} {j:Operator} {q:bE} {d:Pos} (E:X.N.Nodup) (A:X.N[i]?=some x) (n:aN X.env.scope x) (F:PE X e p) (G:PIp X j q) (J:X.fn x=true\/X.env.scope.names.lookup x=some .local:=by first | exact .inl rfl | exact .inr rfl | assumption) :
  PS X (.AugAssign (.Name x d) j e pos) (ET i p q):=by
 intro a s B H D I h;let {v,K,h}:=h;let {m,L,M}:=I.loc;let o:bV X.env.scope x:=by rcases n with k | k;exact .inl k;exact .inr (.inl k)
 let {u,r,l}:=M i x v A K o;refine wpAny_AugAssign_Name ?_
 let C:wpAny (model X.prog X.w) X.A (eval e X.env) (λw f=>wpAny (model X.prog X.w) X.A (inplaceOp j u w) (λr g=>wpAny (model X.prog X.w) X.A (storeName X.env x r) (λ_=>SP X a D .next) X.xe g) X.xe f) X.xe s:=by
  refine F_ (F a s B H _ I h) λw N ⟨y,O,P,Q,R⟩=>?_;refine F_ (G a N B O v y u w _ P r Q R) λz s2 ⟨zv,S,T,U,W⟩=>?_;exact Hb T E A n U (λs3 Y=>{_,S,Y,W}) J
 rcases l with ⟨hk,Z⟩ | ⟨hk,c,hc,b⟩
 .exact wpAny_loadName_local I.ok.kind hk L Z C
 .rcases hk with hk | hk
  .exact wpAny_loadName_cell I.ok.kind hk hc b C
  .rcases n with k | k
   .have:X.env.scope.names.lookup x=some .free:=hk;rw [k] at this;cases this
   .have:X.env.scope.names.lookup x=some .free:=hk;rw [k] at this;cases this
def Gj (e f g:TE) (a:V->V->Hp->VK->Prop) (d:bE) (b:aD):TS:=λD c H=>e c H λo h=>f c h λi j=>a o i j λx k=>g c k λy m=>d x y m λz n=>b o i z n λp=>D.nx c p
def b_ (X:Cx) (t:V->V->Hp->VK->Prop):Prop:=
 ∀ (a:d6) (s:Shared) (b:St) (H:Hp) (o i:V) (c d:Value) (Q:VK),Inv X a b H s->RelV o c->RelV i d->t o i H Q->
   wpAny (model X.prog X.w) X.A (getItem c d) (EP X a b Q) X.xe s
def Hg {o i e:Expr} {p q r:TE} {c:V->V->Hp->VK->Prop} {k:bE} {d:aD} {u:Operator} {m:Pos} (A:PE X o p) (B:PE X i q) (C:b_ X c) (E:PE X e r) (hp:PIp X u k) (F:aO X d)
  (G:∀ f g b,augStore i f g b=(do holding [b,f,g] (setItem f g b);release [b,f,g] [];pure .next):=by intros;rfl):PS X (.AugAssign (.Subscript o i m) u e pos) (Gj p q r c k d):=by
 intro a s j H D I h;refine wpAny_AugAssign_SubscriptAny (F_ (A a s j H _ I h) λf J ⟨w,K,L,x,M⟩=>?_) G;refine F_ (B a J j K _ L M) λg N ⟨y,O,P,z,Q⟩=>?_;refine F_ (C a N j O w y f g _ P x z Q) λn R ⟨S,T,U,W,Y⟩=>?_;refine F_ (E a R j T _ U Y) λv Z ⟨x4,H4,I4,r4,q4⟩=>?_;refine F_ (hp a Z j H4 S x4 n v _ I4 W r4 q4) λb s5 ⟨x5,H5,I5,r5,q5⟩=>?_;exact F_ (F a s5 j H5 w y x5 f g b _ I5 x z r5 q5) λ_ s6 ⟨H6,I6,q6⟩=>⟨j,H6,I6,q6⟩
end
section
variable {X:Cx} {pos:Pos}
def Cu (c:TT) (h:TS):TS:=λD a H=>∃ W:Nat->St->Hp->Prop,(∃ m,W m a H)/\∀ m a H,W m a H->
 c a H λb e=>if b=true then ∃ N:St->Hp->Prop,(∀ d f,N d f->∃ g,g<m/\W g d f)/\h { D with nx:=N,ct:=N,bk:=D.nx } a e else D.nx a e
theorem DV {c:Expr} {g:List Stmt} {tc:TT} {x:TS} (hp:PassesOwn (model X.prog X.w) X.A X.env X.xe) (E:PT X c tc) (F:PSs X g x):PS X (.While c g [] pos) (Cu tc x):=by
 intro a s G H D I h;let {W,{J,K},i}:=h;refine wpAny_While (codeAny_whileLoop (λn L=>∃ j y,Inv X a j y L/\W n j y) ?_ J ⟨G,H,I,K⟩);rintro n M ⟨e,z,O,P⟩;refine wpAny_passesOwn hp (F_ (E a M e z _ O (i n e z P)) λb Q ⟨A,B,m⟩=>?_);cases b with
 | true=>
   let {N,C,m}:=m;rw [nC rfl];refine wpAny_passesOwn hp (F_ (F a Q e A _ B m) λf R o=>?_);cases f with
   | next=>
     let {d,k,p,q}:=o;let {r,u,w}:=C d k q;exact ⟨r,u,d,k,p,w⟩
   | cont=>
     let {d,k,p,q}:=o;let {r,u,w}:=C d k q;exact ⟨r,u,d,k,p,w⟩
   | brk=>exact o
   | ret v=>exact o
 | false=>
   rw [nB C1];exact wpAny_execs_nil ⟨e,A,B,m⟩
end
structure It where
 go:Nat->Hp->Prop
 yld:Nat->Hp->V->Hp->Prop
 stop:Nat->Hp->Prop
def Dl (X:Cx) (a:d6) (H:Hp) (b:Addr):Prop:=
 H b=none/\b≠X.env.locals/\b∉X.fs/\(b∈X.ex\/X.s₀.heap.objs.size<=b)/\(∀ x c,X.env.cells.lookup x=some c->c≠b)/\∀ p∈X.pn++a,p.1≠b
def Inv.fpOk {X:Cx} {a:d6} {g:St} {H f:Hp} {s:Shared} {b:Addr} (I:Inv X a g H s) (d:⇑s<=b) (h:f b=none):Dl X a f b:=by
 refine {h,Nat.ne_of_gt (BZ I.lt d),I.nofs d,.inr (BW I.sz d),λx c e z=>?_,λp hp z=>?_}
 .let {v,q}:=I.cell x c e;exact absurd (BZ q.lt (by rw [z];exact d)) (Cz _)
 .exact absurd (BZ (nO (I.pin p hp).1) (by rw [z];exact d)) (Cz _)
structure Turn (P:Program) (w:World) (K:W.Frag) (tg:Expr) (J:It) (fp:de) (it:Addr) (tn:Nat->Heap->Prop):Prop where
 mem:it∈fp
 obj:∀ i h,tn i h->∀ b∈fp,∃ o,h.get? b=some o/\∀ v,o.data≠.cell v
 keep:∀ i h h',tn i h->(∀ b∈fp,∀ o,h.get? b=some o->h'.get? b=some o)->tn i h'
 item:∀ (X:Cx),X.prog=P->X.w=w->X.K=K->X.calm=true->∀ (i:Nat) (pins:d6) (s:Shared) (σ:St) (H:Hp) (E:c_),Inv X pins σ H s->(∀ b∈fp,Dl X pins H b)->tn i s.heap->J.go i H->
  wpAny (model P w) X.A (pyNext (.ref it)) (λr s1=>∃ u,r=some u/\
   wpAny (model P w) X.A (letOwnedTupleGo tg (.ref it) u) (λ_ s2=>∃ x H',Inv X pins σ H' s2/\RelV x u/\J.yld i H x H'/\tn (i+1) s2.heap/\∀ b∈fp,H' b=none) E s1) E s
 done:∀ (X:Cx),X.prog=P->X.w=w->X.K=K->X.calm=true->∀ (i:Nat) (pins:d6) (s:Shared) (σ:St) (H:Hp) (E:c_),Inv X pins σ H s->(∀ b∈fp,Dl X pins H b)->tn i s.heap->J.stop i H->
  wpAny (model P w) X.A (pyNext (.ref it)) (λr s1=>r=none/\Inv X pins σ H s1) E s
 self:∀ (A:Around) (i:Nat) (s:Shared) (Q:c_) (E:c_),tn i s.heap->Q (.ref it) s->wpAny (model P w) A (pyIter (.ref it)) Q E s
abbrev TI:=St->Hp->(It->Hp->Prop)->Prop
def PIE (X:Cx) (a:d6) (i:St) (j:Expr) (R:It->Hp->Prop) (c:Value) (e:Shared):Prop:=
 ∃ (f:Addr) (g:de) (h:Nat->Heap->Prop) (J:It) (d:Hp),c=.ref f/\Inv X a i d e/\Turn X.prog X.w X.K j J g f h/\h 0 e.heap/\(∀ b∈g,Dl X a d b)/\R J d
def PI (X:Cx) (d b:Expr) (e:TI):Prop:=
 ∀ (a:d6) (s:Shared) (c:St) (H:Hp) (R:It->Hp->Prop),Inv X a c H s->e c H R->
   wpAny (model X.prog X.w) X.A (eval b X.env) (λv f=>wpAny (model X.prog X.w) X.A (pyIter v) (PIE X a c d R) X.xe f) X.xe s
def Hh {M:Model} {A:Around} {E:c_} {s:Shared} {b:Expr} {c:Addr} {u:Value} {o:Obj} {n:String} {d:Array Value} {Q:Unit->Shared->Prop} (e:s.heap.get? c=some o) (f:o.cls=.type n) (g:o.data=.fields d)
  (i:["enumerate","zip","dict_itemiterator","dict_reverseitemiterator","odict_iterator","itertools.zip_longest","itertools.pairwise"].contains n=false) (a:Q Unit.unit s):wpAny M A (letOwnedTupleGo b (.ref c) u) Q E s:=by
 unfold letOwnedTupleGo
 cases b <;> first
  | exact nJ a
  | (cases u <;> first
    | exact nJ a
    | (refine nH (wpAny_load e ?_)
       rw [f,g];show wpAny M A (if (["enumerate","zip","dict_itemiterator","dict_reverseitemiterator","odict_iterator","itertools.zip_longest","itertools.pairwise"].contains n && d[0]? == some (rawInt _))=true then _ else _) Q E s;rw [nB (by intro h;rw [i,Bool.false_and] at h;cases h)];exact nJ a))
noncomputable def ag (K:W.Frag) (a:Addr):It:=
 {λi H=>∃ b x,SqL K H a b/\b[i]?=some x,λi H x c=>c=H/\∀ b,SqL K H a b->b[i]?=some x,λi H=>∃ b,SqL K H a b/\@b<=i}
noncomputable def aK (K:W.Frag) (a:Addr):It:=
 {λi H=>∃ b x,SqT K H a b/\b[i]?=some x,λi H x c=>c=H/\∀ b,SqT K H a b->b[i]?=some x,λi H=>∃ b,SqT K H a b/\@b<=i}
noncomputable def Y' (lo:Int) (n:Nat):It:={λi _=>i<n,λi H x a=>a=H/\x=.int (lo+i),λi _=>n<=i}
def UM {P:Program} {w:World} {K:W.Frag} {U:Expr} (a j:Addr):Turn P w K U (ag K a) [j] j (λi h=>h.IsListIter j a i) where
 mem:=by simp
 obj:=λi h f b m=>by
  let e:b=j:=by simpa using m
  subst e
  let {o,e,c,d}:=f
  exact {o,e,λv z=>by rw [d] at z;cases z}
 keep:=λi h r f k=>f.at λo e=>k j (by simp) o e
 item:=by
  intro X B C D S i g s T H E I y f F
  subst B C D
  let {Y,x,A,G}:=F
  let {J,L,p,hz}:=I.list A
  let {u,Z,ru}:=L.get G
  let {M,N,f2,O,Q,R}:=y j (by simp)
  refine wpAny_pyNext_list_item f p.isList (x:=u) (by simpa using Z) λr n sb=>?_
  let I1:Inv X g T H { s with heap:=r }:=I.turned (t':=s.toks) (λb o m e=>(sb.2 b m).trans e) M N O Q R
  let {o,e,c,d}:=id n
  exact {u,2,Hh (s:={ s with heap:=r }) e c d `b {x,H,I1,ru,{2,λys hy=>by rw [I.list_inj hy A];exact G},n,λb m=>(y b m).1}}
 done:=by
  intro X B C D S i g s T H E I y f F
  subst B C D
  let {Y,A,G}:=F
  let {J,L,p,hz}:=I.list A
  let {M,N,f2,O,Q,R}:=y j (by simp)
  let hl:=@L
  exact wpAny_pyNext_list_end (I.ok.hd S) f p.isList (by simp;omega) λr eb=>{2,I.turned (t':=s.toks) (λb o m e=>eb b o m e) M N O Q R}
 self:=λ_ _ _ _ _ f h=>wpAny_pyIter_listiter f h
def UN {P:Program} {w:World} {K:W.Frag} {U:Expr} (a j:Addr):Turn P w K U (aK K a) [j] j (λi h=>h.IsTupleIter j a i) where
 mem:=by simp
 obj:=λi h f b m=>by
  let e:b=j:=by simpa using m
  subst e
  let {o,e,c,d}:=f
  exact {o,e,λv z=>by rw [d] at z;cases z}
 keep:=λi h y f k=>f.at λo e=>k j (by simp) o e
 item:=by
  intro X C D F S i g s T H E I A f G
  subst C D F
  let {Y,x,B,J}:=G
  let {n,L,p,hz}:=I.tuple B
  let {u,Z,ru}:=L.get J
  let {M,N,f2,O,Q,R}:=A j (by simp)
  refine wpAny_pyNext_tuple_item f (show s.heap.IsTuple a n.toArray from p) (x:=u) (by simpa using Z) λy q sb=>?_
  let I1:Inv X g T H { s with heap:=y }:=I.turned (t':=s.toks) (λb o m e=>(sb.2 b m).trans e) M N O Q R
  let {o,e,c,d}:=id q
  exact {u,2,Hh (s:={ s with heap:=y }) e c d `b {x,H,I1,ru,{2,λys hy=>by rw [I.tuple_inj hy B];exact J},q,λb m=>(A b m).1}}
 done:=by
  intro X C D F S i g s T H E I A f G
  subst C D F
  let {Y,B,J}:=G
  let {n,L,p,hz}:=I.tuple B
  let {M,N,f2,O,Q,R}:=A j (by simp)
  let hl:=@L
  exact wpAny_pyNext_tuple_end (I.ok.hd S) f (show s.heap.IsTuple a n.toArray from p) (by simp;omega) λy eb=>{2,I.turned (t':=s.toks) (λb o m e=>eb b o m e) M N O Q R}
 self:=λ_ _ _ _ _ f h=>wpAny_pyIter_tupleiter f h
def UO {P:Program} {w:World} {K:W.Frag} {M:Expr} (c:Addr) (lo:Int) (n:Nat):Turn P w K M (Y' lo n) [c] c (λi h=>IsRangeIter h c (lo+(i:Nat)*1) ((n:Int) - (i:Nat)) 1) where
 mem:=by simp
 obj:=λi h a b f=>by
  let e:b=c:=by simpa using f
  subst e
  exact {_,a,λv z=>by
   let N:Data.fields _=Data.cell v:=z
   cases N}
 keep:=λi h p a k=>k c (by simp) _ a
 item:=by
  intro X r u x y i d s J H E I q a A
  subst r u x
  let {B,C,O,D,F,G}:=q c (by simp)
  let W:=Walks.range (prog:=X.prog) (w:=X.w) (I.ok.hd y) c lo 1 n
  refine W.item i s _ _ A a λv p L Q g R=>?_
  let {t,rfl}:=Q
  let S:Inv X d J H { s with heap:=p,toks:=L }:=I.turned (λb o f e=>R b o (by simpa using f) e) B C D F G
  refine {1,Hh (s:={ s with heap:=p,toks:=L }) (n := "range_iterator") g rfl rfl `b {.int (lo+i),H,S,{t,?_},⟨rfl,rfl⟩,g,λb f=>(q b f).1}}
  rw [Int.mul_one]
 done:=by
  intro X r u x y i d s J H E I q a A
  subst r u x
  let {B,C,O,D,F,G}:=q c (by simp)
  exact wpAny_pyNext_range_end (I.ok.hd y) a (by have:n<=i:=A;omega) λp T=>{2,I.turned (t':=s.toks) (λb o f e=>T b o f e) B C D F G}
 self:=λ_ _ _ _ _ a h=>wpAny_pyIter_rangeiter a h
section
variable {X:Cx} {tg:Expr}
def A5 (K:W.Frag) (c:TE):TI:=λd H R=>c d H λx b=>∃ a,x=.ref a/\(∃ e,SqL K b a e)/\R (ag K a) b
def Gk (K:W.Frag) (c:TE):TI:=λd H R=>c d H λx b=>∃ a,x=.ref a/\(∃ e,SqT K b a e)/\R (aK K a) b
def BY {l:Expr} {g:TE} (i:PE X l g):PI X tg l (A5 X.K g):=by
 intro c s j H R I h;refine F_ (i c s j H _ I h) λv d ⟨x,k,f,m,n⟩=>?_;let {a,e,{y,r},q}:=n;subst e;cases m;let {u,z,p,hz}:=f.list r;refine wpAny_pyIter_list p.isList ?_;refine {⇑d,[⇑d],9,k,2,f.kept (t':=d.toks) λb o e=>Heap.get?_push_of_some _ e,UM a _,{_,Heap.get?_push_size _ rfl,7},λb w=>?_,q};let e:b=⇑d:=by simpa using w
 subst e;exact f.fpOk (AT _) (f.hok.fresh (AT _))
def Kr {l:Expr} {i:TE} (j:PE X l i):PI X tg l (Gk X.K i):=by
 intro c s k H R I h;refine F_ (j c s k H _ I h) λv d ⟨x,m,f,n,r⟩=>?_;let {a,e,{y,u},q}:=r;subst e;cases n;let {g,z,p,hz}:=f.tuple u;refine wpAny_pyIter_tuple (show d.heap.IsTuple a g.toArray from p) ?_;refine {⇑d,[⇑d],9,m,2,f.kept (t':=d.toks) λb o e=>Heap.get?_push_of_some _ e,UN a _,{_,Heap.get?_push_size _ rfl,7},λb w=>?_,q};let e:b=⇑d:=by simpa using w
 subst e;exact f.fpOk (AT _) (f.hok.fresh (AT _))
def Ni {d:d6} {i:St} {H:Hp} {s:Shared} {R:It->Hp->Prop} {E:c_} {lo c:Int} {t u v:Tok} {tk:Nat} (I:Inv X d i H s) (k:-(2 ^ 62)<=lo) (m:lo<2 ^ 62) (n:-(2 ^ 62)<=c) (p:c<2 ^ 62)
  (q:R (Y' lo (c - lo).toNat) H):wpAny (model X.prog X.w) X.A (pyIter (.ref ⇑s)) (PIE X d i tg R) E { s with heap:=s.heap.push { cls:=.type "range", data:=.fields #[.int lo t,.int c u,.int 1 v] },toks:=tk }:=by
 refine wpAny_pyIter_range (IsRange.new ..) (small_one k m n p) ?_;let j:Inv X d i H { s with heap:=s.heap.push { cls:=.type "range", data:=.fields #[.int lo t,.int c u,.int 1 v] },toks:=tk }:=I.kept λb o e=>Heap.get?_push_of_some _ e
 refine {(s.heap.push { cls:=.type "range", data:=.fields #[.int lo t,.int c u,.int 1 v] }).objs.size,[(s.heap.push { cls:=.type "range", data:=.fields #[.int lo t,.int c u,.int 1 v] }).objs.size],_,_,H,rfl,
  j.kept (t':=tk) λb o e=>Heap.get?_push_of_some _ e,UO _ lo (c - lo).toNat,?_,λb r=>?_,q}
 .let w:lo+((0:Nat):Int)*1=lo:=by simp
  let x:(((c - lo).toNat:Nat):Int) - ((0:Nat):Int)=Builtin.Range.rangeSize lo c 1:=by rw [rangeSize_one];split <;> omega
  show IsRangeIter _ _ (lo+((0:Nat):Int)*1) ((((c - lo).toNat:Nat):Int) - ((0:Nat):Int)) 1;rw [w,x];exact Heap.get?_push_size _ rfl
 .let e:b=(s.heap.push { cls:=.type "range", data:=.fields #[.int lo t,.int c u,.int 1 v] }).objs.size:=by simpa using r
  subst e;exact j.fpOk (AT _) (j.hok.fresh (AT _))
def DG (a:TA):TI:=λb H R=>a b H λc d=>∃ j:Int,c=[.int j]/\-(2 ^ 62)<=j/\j<2 ^ 62/\R (Y' 0 j.toNat) d
def F4 (a:TA):TI:=λb H R=>a b H λc d=>∃ i j:Int,c=[.int i,.int j]/\(-(2 ^ 62)<=i/\i<2 ^ 62/\-(2 ^ 62)<=j/\j<2 ^ 62)/\R (Y' i (j - i).toNat) d
theorem EU {a:Expr} {f:TA} {p b:Pos} (g:Gl X "range") (i:X.mg "range" = none) (k:PA X [a] f) (m:starEach [a] X.env=[(false,eval a X.env)]:=by rfl):PI X tg (.Call (.Name "range" p) [a] [] b) (DG f):=by
 intro c s n H R I h;refine Call_ (Dj I g i boot_range (PyProof.Rows.callWith_type1 (F_ (k b c s n H _ I h) λx y ⟨z,A,o,u,d⟩=>?_) m rfl));let {j,e,d,v,q}:=d;subst e;cases u with
 | cons r w=>
   cases w;let {t,rfl}:=r;exact call_range_1 (Ni o `a `a d v (by simpa using q))
theorem Ks {a b:Expr} {m:TA} {p c:Pos} (n:Gl X "range") (o:X.mg "range" = none) (u:PA X [a,b] m) (v:starEach [a,b] X.env=[(false,eval a X.env),(false,eval b X.env)]:=by rfl) (d:starEach [b] X.env=[(false,eval b X.env)]:=by rfl) :
  PI X tg (.Call (.Name "range" p) [a,b] [] c) (F4 m):=by
 intro f s w H R I h;refine Call_ (Dj I n o boot_range (PyProof.Rows.callWith_type1 (F_ (u c f s w H _ I h) λD E ⟨F,G,x,y,g⟩=>?_) (by rw [v,d]) (by rw [d];rfl)));let {i,j,e,{g,z,A,B},q}:=g;subst e;cases y with
 | cons r k=>
   cases k with
   | cons C k=>
     cases k;let {t,rfl}:=r;let {J,rfl}:=C;exact call_range_2 (Ni x g z A B q)
def A4 (f:TI) (g:TG) (h:TS):TS:=λD a H=>f a H λJ j=>∃ W:Nat->Nat->St->Hp->Prop,(∃ m,W 0 m a j)/\∀ i m a H,W i m a H->
 (J.stop i H/\D.nx a H)\/(J.go i H/\∃ N:St->Hp->Prop,(∀ b c,N b c->∃ e,e<m/\W (i+1) e b c)/\∀ x c,J.yld i H x c->g x a c λd k=>h { D with nx:=N,ct:=N,bk:=D.nx } d k)
noncomputable def JJ (a:de) (h:Heap):d6:=a.filterMap λb=>(h.get? b).map λo=>(b,o)
def JK {a:de} {h:Heap} {b:Addr} {o:Obj} (c:b∈a) (e:h.get? b=some o):(b,o)∈JJ a h:=List.mem_filterMap.mpr {b,c,by rw [e];rfl}
theorem UP {a:de} {h:Heap} {p:Addr×Obj} (hp:p∈JJ a h):p.1∈a/\h.get? p.1=some p.2:=by
 let {b,c,e}:=List.mem_filterMap.mp hp;cases q:h.get? b with
 | none=>rw [q] at e;cases e
 | some o=>
   rw [q] at e;let d:(b,o)=p:=nL e;subst d;exact ⟨c,q⟩
def Inv.pinned {a:d6} {f:St} {H:Hp} {s:Shared} {c:de} (I:Inv X a f H s) (i:∀ b∈c,Dl X a H b) (j:∀ b∈c,∃ o,s.heap.get? b=some o/\∀ v,o.data≠.cell v):Inv X (a++JJ c s.heap) f H s:=
 I.pins_of λp hp=>(BR.mp hp).elim (λz=>I.pin p (Cp _ z)) λz=>by
  let {g,e}:=UP z;let {k,m,n,_}:=i p.1 g;let {o,h,d}:=j p.1 g;rw [e] at h;cases h;exact ⟨e,k,m,n,d⟩
def Inv.unpinned {a c:d6} {b:St} {H:Hp} {s:Shared} (I:Inv X (a++c) b H s):Inv X a b H s:=I.pins_of λp hp=>I.pin p (Cp _ (FO _ hp))
def Bu {j:Expr} {C:List Stmt} {wi:TI} {g:TG} {tb:TS} {S:Pos} (hp:PassesOwn (model X.prog X.w) X.A X.env X.xe) (hc:X.calm=true) (hi:PI X tg j wi) (hg:PG X tg g) (k:PSs X C tb)
  (hs:∀ x,foldedSetIterable j X.env x=pure x:=by intro _;rfl):PS X (.For tg j C [] S) (A4 wi g tb):=by
 intro a s σ H D I h;refine wpAny_For (F_ (hi a s σ H _ I h) λv s1 h1=>F_ h1 λa4 s2 h2=>?_) hs;let {it,G,tn,J,H2,e,I2,T,U,f2,W,{m0,w0},K}:=h2;subst e;let p:∀ {B:Hp},(∀ b∈G,B b=none)->∀ b∈G,Dl X a B b:=λhn b k=>{hn b k,(f2 b k).2};refine codeAny_forLoop_any (λn s'=>∃ i q B,Inv X a q B s'/\tn i s'.heap/\(∀ b∈G,B b=none)/\W i n q B) ?_ m0 {0,σ,H2,I2,U,λb k=>(f2 b k).1,w0};rintro n s3 ⟨i,w,R,I3,L,M,w3⟩;rcases K i n w R w3 with ⟨O,qn⟩ | ⟨go,N,hN,P⟩
 .refine wpAny_passesOwn hp (F_ (T.done X rfl rfl rfl hc i a s3 w R X.xe I3 (p M) L O) λr s4 ⟨Y,I4⟩=>?_);subst Y;exact wpAny_execs_nil ⟨w,R,I4,qn⟩
 .refine wpAny_passesOwn hp (F_ (T.item X rfl rfl rfl hc i a s3 w R X.xe I3 (p M) L go) λr s4 ⟨u,Y,h4⟩=>?_);subst Y;refine wpAny_passesOwn hp (F_ h4 λ_ s5 ⟨x,H5,I5,r5,y5,F,Z⟩=>?_);let a0:=I5.pinned (p Z) (T.obj _ _ F);refine wpAny_passesOwn hp (F_ (hg _ s5 w H5 x u _ a0 r5 (P x H5 y5)) λ_ s6 ⟨a3,H6,I6,q6⟩=>?_);refine wpAny_passesOwn hp (F_ (k _ s6 a3 H6 _ I6 q6) λf s7 E=>?_)
  let y:∀ {c:St} {z:Hp},Inv X (a++JJ G s5.heap) c z s7->N c z->∃ m,m<n/\∃ i q B,Inv X a q B s7/\tn i s7.heap/\(∀ b∈G,B b=none)/\W i m q B:=λ{c z} A Q=>by
   let {m',hm,w7}:=hN c z Q;refine {m',hm,i+1,c,z,A.unpinned,T.keep _ _ _ F λb k o e=>(A.pin (b,o) (Cp _ (Cp _ (JK k e)))).1,λb k=>?_,w7};let {o,e,d}:=T.obj _ _ F b k;exact (A.pin (b,o) (Cp _ (Cp _ (JK k e)))).2.1
  cases f with
  | next=>let ⟨c,z,A,Q⟩:=E;exact y A Q
  | cont=>let ⟨c,z,A,Q⟩:=E;exact y A Q
  | brk=>let ⟨c,z,A,E⟩:=E;exact ⟨c,z,A.unpinned,E⟩
  | ret v=>let ⟨x7,c,z,A,r7,E⟩:=E;exact ⟨x7,c,z,A.unpinned,r7,E⟩
end
def UQ {K:W.Frag} {a:Addr} {xs:cW} {g:TG} {k:TS} {D:Ends} {b:St} {H:Hp} (Pv:Nat->St->Hp->Prop) (o:Pv 0 b H) (r:∀ i b H,i<=@xs->Pv i b H->SqL K H a xs)
  (u:∀ i x b H,xs[i]?=some x->Pv i b H->g x b H λc j=>k { D with nx:=Pv (i+1),ct:=Pv (i+1),bk:=D.nx } c j) (A:∀ b H,Pv @xs b H->D.nx b H) :
  ∃ W:Nat->Nat->St->Hp->Prop,(∃ m,W 0 m b H)/\∀ i m b H,W i m b H->
    ((ag K a).stop i H/\D.nx b H)\/((ag K a).go i H/\∃ N:St->Hp->Prop,(∀ d f,N d f->∃ n,n<m/\W (i+1) n d f)/\∀ x f,(ag K a).yld i H x f->g x b f λc j=>k { D with nx:=N,ct:=N,bk:=D.nx } c j):=by
 refine {λi m b H=>m=@xs - i/\i<=@xs/\Pv i b H,{@xs,by simp,AV _,o},?_};rintro i m b H ⟨rfl,B,p⟩;let q:=r i b H B p;by_cases h:i<@xs
 .refine .inr {{xs,xs[i],q,by simp [h]},Pv (i+1),λd f C=>{@xs - (i+1),`a,2,h,C},λx f y=>?_};let {e,y}:=y;subst e;exact u i x b _ (y xs q) p
 .let e:i=@xs:=by omega
  subst e;exact .inl {{xs,q,AT _},A b H p}
def Nj {K:W.Frag} {a:Addr} {xs:cW} {g:TG} {k:TS} {D:Ends} {b:St} {H:Hp} (Pv:Nat->St->Hp->Prop) (o:Pv 0 b H) (r:∀ i b H,i<=@xs->Pv i b H->SqT K H a xs)
  (u:∀ i x b H,xs[i]?=some x->Pv i b H->g x b H λc j=>k { D with nx:=Pv (i+1),ct:=Pv (i+1),bk:=D.nx } c j) (A:∀ b H,Pv @xs b H->D.nx b H) :
  ∃ W:Nat->Nat->St->Hp->Prop,(∃ m,W 0 m b H)/\∀ i m b H,W i m b H->
    ((aK K a).stop i H/\D.nx b H)\/((aK K a).go i H/\∃ N:St->Hp->Prop,(∀ d f,N d f->∃ n,n<m/\W (i+1) n d f)/\∀ x f,(aK K a).yld i H x f->g x b f λc j=>k { D with nx:=N,ct:=N,bk:=D.nx } c j):=by
 refine {λi m b H=>m=@xs - i/\i<=@xs/\Pv i b H,{@xs,by simp,AV _,o},?_};rintro i m b H ⟨rfl,B,p⟩;let q:=r i b H B p;by_cases h:i<@xs
 .refine .inr {{xs,xs[i],q,by simp [h]},Pv (i+1),λd f C=>{@xs - (i+1),`a,2,h,C},λx f y=>?_};let {e,y}:=y;subst e;exact u i x b _ (y xs q) p
 .let e:i=@xs:=by omega
  subst e;exact .inl {{xs,q,AT _},A b H p}
def UR {lo:Int} {n:Nat} {g:TG} {j:TS} {D:Ends} {a:St} {H:Hp} (Pv:Nat->St->Hp->Prop) (o:Pv 0 a H)
  (q:∀ i a H,i<n->Pv i a H->g (.int (lo+i)) a H λb h=>j { D with nx:=Pv (i+1),ct:=Pv (i+1),bk:=D.nx } b h) (w:∀ a H,Pv n a H->D.nx a H) :
  ∃ W:Nat->Nat->St->Hp->Prop,(∃ m,W 0 m a H)/\∀ i m a H,W i m a H->
    ((Y' lo n).stop i H/\D.nx a H)\/((Y' lo n).go i H/\∃ N:St->Hp->Prop,(∀ c d,N c d->∃ k,k<m/\W (i+1) k c d)/\∀ x d,(Y' lo n).yld i H x d->g x a d λb h=>j { D with nx:=N,ct:=N,bk:=D.nx } b h):=by
 refine {λi m a H=>m=n - i/\i<=n/\Pv i a H,{n,by simp,AV _,o},?_};rintro i m a H ⟨rfl,A,p⟩;by_cases f:i<n
 .refine .inr {f,Pv (i+1),λc d z=>{n - (i+1),`a,2,f,z},λx d y=>?_};let {e,y}:=y;subst e y;exact q i a _ f p
 .let e:i=n:=by omega
  subst e;exact .inl {AT _,w a H p}
theorem while_by {c:TT} {i:TS} {D:Ends} {a:St} {H:Hp} (Pv:St->Hp->Prop) (g:St->Hp->Nat) (k:Pv a H)
  (n:∀ a H,Pv a H->c a H λb e=>if b=true then i { D with nx:=λd f=>Pv d f/\g d f<g a H,ct:=λd f=>Pv d f/\g d f<g a H,bk:=D.nx } a e else D.nx a e)
  (h:∀ a H Q j,(∀ b e,Q b e->j b e)->c a H Q->c a H j):Cu c i D a H:=by
 refine {λm a H=>m=g a H/\Pv a H,{1,k},?_};rintro m a H ⟨rfl,p⟩;refine h a H _ _ (λb e q=>?_) (n a H p);cases b with
 | true=>exact {_,λd f ⟨o,l⟩=>{_,l,2,o},q}
 | false=>exact q
abbrev R2:=V->V->Hp->VK->Prop
def OpR (X:Cx) (f:Value->Value->Sem Value) (r:R2):Prop:=
 ∀ (a:d6) (s:Shared) (b:St) (H:Hp) (x y:V) (v u:Value) (Q:VK),Inv X a b H s->RelV x v->RelV y u->r x y H Q->
   wpAny (model X.prog X.w) X.A (f v u) (EP X a b Q) X.xe s
def UnR (X:Cx) (f:Value->Sem Value) (r:V->Hp->VK->Prop):Prop:=
 ∀ (a:d6) (s:Shared) (b:St) (H:Hp) (x:V) (v:Value) (Q:VK),Inv X a b H s->RelV x v->r x H Q->
   wpAny (model X.prog X.w) X.A (f v) (EP X a b Q) X.xe s
def CW (X:Cx) (f:Value) (r:cW->Hp->VK->Prop):Prop:=
 ∀ (a:d6) (s:Shared) (b:St) (H:Hp) (c:cW) (d:cZ) (Q:VK),Inv X a b H s->Vals c d->r c H Q->
   wpAny (model X.prog X.w) X.A (call f d) (EP X a b Q) X.xe s
def US (X:Cx) (r:V->Hp->(Bool->Hp->Prop)->Prop):Prop:=
 ∀ (a:d6) (s:Shared) (b:St) (H:Hp) (x:V) (v:Value) (Q:Bool->Hp->Prop),Inv X a b H s->RelV x v->r x H Q->
   wpAny (model X.prog X.w) X.A (truthy v) (TP X a b Q) X.xe s
def A_ (r:R2) (b c:TE):TE:=λa H Q=>b a H λx d=>c a d λy e=>r x y e Q
def T_ (r:V->Hp->VK->Prop) (a:TE):TE:=λb H Q=>a b H λx c=>r x c Q
inductive rI(C:Int->Int->Prop)(g:Int->Int->V)(x y:V)(H:Hp)(Q:VK):Prop
 |mk(i j):x=.int i->y=.int j->C i j->Q (g i j) H->rI C g x y H Q
def pM {C:Int->Int->Prop} {g:Int->Int->V} {x:V} {y:V} {H:Hp} {Q:VK}:rI C g x y H Q=∃ i j,x=.int i/\y=.int j/\C i j/\Q (g i j) H:=propext {λ⟨a,a1,a2,b,c,d⟩=>⟨a,a1,a2,b,c,d⟩,λ⟨a,a1,a2,b,c,d⟩=>⟨a,a1,a2,b,c,d⟩}
inductive Z_(g:Int->Int->V)(x y:V)(H:Hp)(Q:VK):Prop
 |mk(i j):x=.int i->y=.int j->Q (g i j) H->Z_ g x y H Q
def pQ {g:Int->Int->V} {x:V} {y:V} {H:Hp} {Q:VK}:Z_ g x y H Q=∃ i j,x=.int i/\y=.int j/\Q (g i j) H:=propext {λ⟨a,a1,a2,b,c⟩=>⟨a,a1,a2,b,c⟩,λ⟨a,a1,a2,b,c⟩=>⟨a,a1,a2,b,c⟩}
inductive rU(g:Int->V)(x:V)(H:Hp)(Q:VK):Prop
 |mk(i):x=.int i->Q (g i) H->rU g x H Q
def pR {g:Int->V} {x:V} {H:Hp} {Q:VK}:rU g x H Q=∃ i,x=.int i/\Q (g i) H:=propext {λ⟨a,a1,a2⟩=>⟨a,a1,a2⟩,λ⟨a,a1,a2⟩=>⟨a,a1,a2⟩}
section
variable {X:Cx} {a b c:Expr} {ta tb tc:TE} {pos:Pos}
def Kt (n:PE X a ta) (o:PE X b tb) {d:d6} {s:Shared} {e:St} {H:Hp} {R:V->V->Hp->Prop} (I:Inv X d e H s)
  (h:ta e H λx m=>tb e m λy g=>R x y g) {Q:c_} {f:Value->Value->Sem Value}
  (p:∀ v u k x y g,Inv X d e g k->RelV x v->RelV y u->R x y g->wpAny (model X.prog X.w) X.A (f v u) Q X.xe k) :
  wpAny (model X.prog X.w) X.A (eval a X.env) (λv i=>wpAny (model X.prog X.w) X.A (eval b X.env) (λu j=>wpAny (model X.prog X.w) X.A (f v u) Q X.xe j) X.xe i) X.xe s:=by
 refine F_ (n d s e H _ I h) λv q ⟨x,m,r,w,z⟩=>?_;refine F_ (o d q e m _ r z) λu k ⟨y,g,A,B,C⟩=>?_;exact p v u k x y g A w B C
def AM {e:Operator} {r:R2} (f:OpR X (binaryOp e) r) (g:PE X a ta) (i:PE X b tb):PE X (.BinOp a e b pos) (A_ r ta tb):=by
 intro d s j H Q I h;exact wpAny_BinOp (Kt g i I h λv u k x y m n o p q=>f d k j m x y v u Q n o p q)
def Bx {e:UnaryOp} {r:V->Hp->VK->Prop} (g:UnR X (unaryOp e) r) (i:PE X a ta):PE X (.UnaryOp e a pos) (T_ r ta):=by
 intro d s f H Q I h;exact UnaryOp_ (F_ (i d s f H _ I h) λv j ⟨x,k,m,n,o⟩=>g d j f k x v Q m n o)
def b6 {f:Value->Value->Sem Value} {C:Int->Int->Prop} {g:Int->Int->Int}
  (rule:∀ (i j:Int) (t u:Tok) (s:Shared) (Q:c_) (E:c_),C i j->Q (.int (g i j) s.toks) { s with toks:=s.toks+1 }->wpAny (model X.prog X.w) X.A (f (.int i t) (.int j u)) Q E s) :
  OpR X f (rI C λi j=>.int (g i j)):=by
 intro e s p H x y v u Q I k m h;let {i,j,rfl,rfl,n,q}:=h;let {t,rfl}:=k;let {o,rfl}:=m;exact rule i j t o s _ _ n {.int (g i j),H,I.tok _,{1},q}
def JL {f:Value->Value->Sem Value} {g:Int->Int->Int}
  (rule:∀ (i j:Int) (t u:Tok) (s:Shared) (Q:c_) (E:c_),Q (.int (g i j) s.toks) { s with toks:=s.toks+1 }->wpAny (model X.prog X.w) X.A (f (.int i t) (.int j u)) Q E s) :
  OpR X f (Z_ λi j=>.int (g i j)):=by
 intro e s o H x y v u Q I k m h;let {i,j,rfl,rfl,q}:=h;let {t,rfl}:=k;let {n,rfl}:=m;exact rule i j t n s _ _ {.int (g i j),H,I.tok _,{1},q}
def JM {f:Value->Value->Sem Value} {g:Int->Int->Bool}
  (rule:∀ (i j:Int) (t u:Tok) (s:Shared) (Q:c_) (E:c_),Q (.bool (g i j)) s->wpAny (model X.prog X.w) X.A (f (.int i t) (.int j u)) Q E s) :
  OpR X f (Z_ λi j=>.bl (g i j)):=by
 intro d s n H x y v u Q I e k h;let {i,j,rfl,rfl,q}:=h;let {t,rfl}:=e;let {m,rfl}:=k;exact rule i j t m s _ _ {.bl (g i j),H,I,2,q}
def BH:OpR X (binaryOp .Add) (Z_ λi j=>.int (i+j)):=JL λ_ _ _ _ _ _ _ q=>add_int q
def Az:OpR X (binaryOp .Sub) (Z_ λi j=>.int (i - j)):=JL λ_ _ _ _ _ _ _ q=>sub_int q
def CY:OpR X (binaryOp .Mod) (rI (λ_ j=>0<j) λi j=>.int (i % j)):=b6 λi j _ _ _ _ _ d q=>by
 let e:(0:Int)<j:=d;exact mod_int' `a (by rw [Int.fmod_eq_emod_of_nonneg i `a];exact q)
def Nk:OpR X (binaryOp .Mod) (rI (λ_ j=>j≠0) λi j=>.int (i.fmod j)):=b6 λ_ _ _ _ _ _ _ d q=>mod_int' d q
def Hi:OpR X (inplaceOp .Add) (Z_ λi j=>.int (i+j)):=JL λ_ _ _ _ _ _ _ q=>iadd_int q
def JN:OpR X (inplaceOp .Sub) (Z_ λi j=>.int (i - j)):=JL λ_ _ _ _ _ _ _ q=>isub_int q
def UT {f:Value->Sem Value} {g:Int->Int}
  (rule:∀ (i:Int) (t:Tok) (s:Shared) (Q:c_) (E:c_),Q (.int (g i) s.toks) { s with toks:=s.toks+1 }->wpAny (model X.prog X.w) X.A (f (.int i t)) Q E s) :
  UnR X f (rU λi=>.int (g i)):=by
 intro e s k H x v Q I j h;let {i,rfl,q}:=h;let {t,rfl}:=j;exact rule i t s _ _ {.int (g i),H,I.tok _,{1},q}
def By:UnR X (unaryOp .USub) (rU λi=>.int (-i)):=UT λ_ _ _ _ _ q=>neg_int q
end
noncomputable def scal:V->V->Bool
 | .non,.non=>true | .non,.int _=>true | .int _,.non=>true | .non,.bl _=>true | .bl _,.non=>true | .non,.str _=>true | .str _,.non=>true
 | .int _,.int _=>true | .bl _,.bl _=>true | .str _,.str _=>true | .byt _,.byt _=>true
 | .int _,.str _=>true | .str _,.int _=>true | .bl _,.str _=>true | .str _,.bl _=>true
 | _,_=>false
def W_:R2:=λx y H Q=>scal x y=true/\Q (.bl (decide (x=y))) H
def av:R2:=λx y H Q=>scal x y=true/\Q (.bl (!decide (x=y))) H
def Nl {i j:Int}:decide (V.int i=V.int j)=(i == j):=by
 rw [E2];simp
def Nn {i j:Bool}:decide (V.bl i=V.bl j)=(i == j):=by
 rw [E2];simp
def No {i j:Str}:decide (V.str i=V.str j)=(i == j):=by
 rw [E2];simp
def Np {i j:Array UInt8}:decide (V.byt i=V.byt j)=(i.toList == j.toList):=by
 rw [E2];cases i;cases j;simp
section
variable {X:Cx} {a b c:Expr} {ta tb tc:TE} {pos:Pos}
def Bc {d:d6} {f:St} {H:Hp} {s:Shared} {Q:VK} {k g:Bool} (I:Inv X d f H s) (q:Q (.bl k) H) (e:k=g):EP X d f Q (.bool g) s:=by
 subst e;exact {.bl k,H,I,2,q}
theorem Cl:OpR X (compareOp .Eq) W_:=by
 intro k s m H x y v u Q I g d h;let {f,q}:=h;cases x with
 | non=>
   cases g;cases y with
   | non=>cases d;exact PySem.EqNone.eq_none_none (Bc I q (by simp))
   | bl j=>cases d;exact PySem.EqNone.eq_none_bool (Bc I q (by simp))
   | int j=>let ⟨e,rfl⟩:=d;exact PySem.EqNone.eq_none_int (Bc I q (by simp))
   | str j=>let ⟨e,rfl⟩:=d;exact PySem.EqNone.eq_none_str (Bc I q (by simp))
   | _=>exact absurd (show false=true from f) C1
 | bl i=>
   cases g;cases y with
   | non=>cases d;exact PySem.EqNone.eq_bool_none (Bc I q (by simp))
   | bl j=>cases d;exact eq_bool (Bc I q Nn)
   | str j=>let ⟨e,rfl⟩:=d;exact PySem.EqMixed.eq_bool_str (Bc I q (by simp))
   | _=>exact absurd (show false=true from f) C1
 | int i=>
   let {t,rfl}:=g;cases y with
   | non=>cases d;exact PySem.EqNone.eq_int_none (Bc I q (by simp))
   | int j=>let ⟨e,rfl⟩:=d;exact eq_int (Bc I q Nl)
   | str j=>let ⟨e,rfl⟩:=d;exact PySem.EqMixed.eq_int_str (Bc I q (by simp))
   | _=>exact absurd (show false=true from f) C1
 | str i=>
   let {t,rfl}:=g;cases y with
   | non=>cases d;exact PySem.EqNone.eq_str_none (Bc I q (by simp))
   | bl j=>cases d;exact PySem.EqMixed.eq_str_bool (Bc I q (by simp))
   | int j=>let ⟨e,rfl⟩:=d;exact PySem.EqMixed.eq_str_int (Bc I q (by simp))
   | str j=>let ⟨e,rfl⟩:=d;exact eq_str (Bc I q No)
   | _=>exact absurd (show false=true from f) C1
 | byt i=>
   let {t,rfl}:=g;cases y with
   | byt j=>let ⟨e,rfl⟩:=d;exact W.eq_bytes (Bc I q Np)
   | _=>exact absurd (show false=true from f) C1
 | _=>cases y <;> exact absurd (show false=true from f) C1
theorem D8:OpR X (compareOp .NotEq) av:=by
 intro k s m H x y v u Q I g d h;let {f,q}:=h;cases x with
 | non=>
   cases g;cases y with
   | non=>cases d;exact PySem.EqNone.ne_none_none (Bc I q (by simp))
   | bl j=>cases d;exact PySem.EqNone.ne_none_bool (Bc I q (by simp))
   | int j=>let ⟨e,rfl⟩:=d;exact PySem.EqNone.ne_none_int (Bc I q (by simp))
   | str j=>let ⟨e,rfl⟩:=d;exact PySem.EqNone.ne_none_str (Bc I q (by simp))
   | _=>exact absurd (show false=true from f) C1
 | bl i=>
   cases g;cases y with
   | non=>cases d;exact PySem.EqNone.ne_bool_none (Bc I q (by simp))
   | bl j=>cases d;exact ne_bool (Bc I q (congrArg not Nn))
   | str j=>let ⟨e,rfl⟩:=d;exact PySem.EqMixed.ne_bool_str (Bc I q (by simp))
   | _=>exact absurd (show false=true from f) C1
 | int i=>
   let {t,rfl}:=g;cases y with
   | non=>cases d;exact PySem.EqNone.ne_int_none (Bc I q (by simp))
   | int j=>let ⟨e,rfl⟩:=d;exact ne_int (Bc I q (congrArg not Nl))
   | str j=>let ⟨e,rfl⟩:=d;exact PySem.EqMixed.ne_int_str (Bc I q (by simp))
   | _=>exact absurd (show false=true from f) C1
 | str i=>
   let {t,rfl}:=g;cases y with
   | non=>cases d;exact PySem.EqNone.ne_str_none (Bc I q (by simp))
   | bl j=>cases d;exact PySem.EqMixed.ne_str_bool (Bc I q (by simp))
   | int j=>let ⟨e,rfl⟩:=d;exact PySem.EqMixed.ne_str_int (Bc I q (by simp))
   | str j=>let ⟨e,rfl⟩:=d;exact ne_str (Bc I q (congrArg not No))
   | _=>exact absurd (show false=true from f) C1
 | byt i=>
   let {t,rfl}:=g;cases y with
   | byt j=>let ⟨e,rfl⟩:=d;exact W.ne_bytes (Bc I q (congrArg not Np))
   | _=>exact absurd (show false=true from f) C1
 | _=>cases y <;> exact absurd (show false=true from f) C1
def Hj:OpR X (compareOp .Lt) (Z_ λi j=>.bl (decide (i<j))):=JM λ_ _ _ _ _ _ _ q=>lt_int q
def Nq:OpR X (compareOp .LtE) (Z_ λi j=>.bl (decide (i<=j))):=JM λ_ _ _ _ _ _ _ q=>le_int q
def D9:OpR X (compareOp .Gt) (Z_ λi j=>.bl (decide (j<i))):=JM λ_ _ _ _ _ _ _ q=>gt_int q
def UU:OpR X (compareOp .GtE) (Z_ λi j=>.bl (decide (j<=i))):=JM λ_ _ _ _ _ _ _ q=>ge_int q
def Nr:OpR X (compareOp .Is) (λx y H Q=>y=.non/\Q (.bl (decide (x=.non))) H):=by
 intro d s g H x y v u Q I e f h;let {rfl,q}:=h;cases f;refine is_none_gen (Bc I q ?_)
 cases x <;> first
  | (cases e;rfl)
  | (let ⟨t,rfl⟩:=e;rfl)
def Nt:OpR X (compareOp .IsNot) (λx y H Q=>y=.non/\Q (.bl (!decide (x=.non))) H):=by
 intro d s g H x y v u Q I e f h;let {rfl,q}:=h;cases f;refine isnot_none_gen (Bc I q ?_)
 cases x <;> first
  | (cases e;rfl)
  | (let ⟨t,rfl⟩:=e;rfl)
def Q_ (b:Expr) {d:CmpOp} (h:d≠.In:=by decide) (e:d≠.NotIn:=by decide):behindInMarks d b=false:=by
 let f:(d == CmpOp.In)=false:=by cases d <;> first | rfl | exact absurd rfl h
 let g:(d == CmpOp.NotIn)=false:=by cases d <;> first | rfl | exact absurd rfl e
 cases b <;> simp [behindInMarks,f,g]
def Gm {e:CmpOp} {r:R2} (f:OpR X (compareOp e) r) (g:PE X a ta) (i:PE X b tb) (j:behindInMarks e b=false):PE X (.Compare a [e] [b] pos) (A_ r ta tb):=by
 intro d s k H Q I h;exact wpAny_Compare1 (Kt g i I h λv u m x y n o p w q=>f d m k n x y v u Q o p w q) j
def Ak (t:TE):TT:=λd H Q=>t d H λx e=>∃ k,x=.bl k/\Q k e
def Nv {f:CmpOp} {r:R2} (i:OpR X (compareOp f) r) (j:PE X a ta) (m:PE X b tb) (n:behindInMarks f b=false):PT X (.Compare a [f] [b] pos) (Ak (A_ r ta tb)):=by
 intro d s g H Q I h
 refine wpAny_isTrue_Compare1 (F_ (j d s g H _ I h) λv o ⟨x,p,q,w,A⟩=>F_ (m d o g p _ q A) λu B ⟨y,C,D,E,F⟩=>
  F_ (i d B g C x y v u _ D w E F) λc M ⟨z,G,J,K,k,e,L⟩=>?_) n
 subst e;cases K;exact wpAny_truthy_bool ⟨G,J,L⟩
def UV (K:W.Frag) (x:V) (H:Hp) (k:Bool):Prop:=
 match x with
 | .non=>k=false
 | .bl b=>k=b
 | .int i=>k=(i != 0)
 | .str y=>@y<=sizeLine/\k=((@y:Int) != 0)
 | .byt y=>y.size<=sizeLine/\k=((y.size:Int) != 0)
 | .ref p=>(∃ d,SqL K H p d/\k=!d.isEmpty)\/(∃ d,SqT K H p d/\k=!d.isEmpty)\/∃ e,H p=some (.dK e)/\k=!e.isEmpty
 | _=>False
def UW {d:Type} {kvs:List (d×V)} {e:List (d×Value)} (r:KV kvs e):(!e.isEmpty)=!kvs.isEmpty:=by
 cases r <;> rfl
def Nw {xs:cW} {its:cZ} (r:Vals xs its):(!its.toArray.isEmpty)=!xs.isEmpty:=by
 cases r <;> simp
def Gn:(sizeLine:Nat)<2 ^ 63:=by rw [sizeLine_eq];decide
theorem UX:US X (λx H Q=>∃ k,UV X.K x H k/\Q k H):=by
 intro A s D H x v Q I n h;let {k,e,q}:=h;let E:=Gn;let F:sizeLine=16777216:=sizeLine_eq;cases x with
 | non=>
   cases n;let d:k=false:=e;subst d;exact truthy_none ⟨H,I,q⟩
 | bl b=>
   cases n;let d:k=b:=e;subst d;exact wpAny_truthy_bool ⟨H,I,q⟩
 | int i=>
   let {t,rfl}:=n;let d:k=(i != 0):=e;subst d;exact PySem.P.truthy_int ⟨H,I,q⟩
 | str y=>
   let {t,rfl}:=n;let {B,d}:@y<=sizeLine/\k=((@y:Int) != 0):=e;subst d;exact PySem.P.truthy_str `a {H,I.tok _,q}
 | byt y=>
   let {t,rfl}:=n;let {B,d}:y.size<=sizeLine/\k=((y.size:Int) != 0):=e;subst d;exact W.truthy_bytes `a {H,I.tok _,q}
 | ref p=>
   cases n;let d:(∃ j,SqL X.K H p j/\k=!j.isEmpty)\/(∃ j,SqT X.K H p j/\k=!j.isEmpty)\/∃ f,H p=some (.dK f)/\k=!f.isEmpty:=e;rcases d with ⟨j,o,d⟩ | ⟨j,o,d⟩ | ⟨f,o,d⟩
   .subst d;let {w,r,z,hz}:=I.list o;let g:=@r;exact wpAny_truthy_list z.isList (by simp only [BJ];omega) {H,I.tok _,by rw [Nw r];exact q}
   .subst d;let {w,r,z,hz}:=I.tuple o;let g:=@r;exact truthy_tuple z (by simp only [BJ];omega) {H,I.tok _,by rw [Nw r];exact q}
   .subst d;let {hz,C,u,r,m}:@f<=sizeLine/\(p == sysModules)=false/\∃ u,KV f u/\s.heap.DictOf (Gh X.prog X.w) p u:=I.hok p _ o;let g:@f=@u:=Paired.length r;exact wpAny_truthy_dict C m `a {H,I.tok _,by rw [UW r];exact q}
 | _=>exact (show False from e).elim
theorem DW {x:V} {d:cZ} (r:Vals [x] d):∃ u,d=[u]/\RelV x u:=by
 cases r with
 | cons e f=>cases f;exact {1,e}
theorem vals2 {x y:V} {d:cZ} (r:Vals [x,y] d):∃ u e,d=[u,e]/\RelV x u/\RelV y e:=by
 cases r with
 | cons f g=>
   cases g with
   | cons h i=>cases i;exact {6,f,h}
def UY:CW X (.builtin "abs") (λd H Q=>∃ i,d=[.int i]/\Q (.int (if i<0 then -i else i)) H):=by
 intro e s f H d g Q I r h;let {i,rfl,q}:=h;let {u,rfl,t,rfl}:=DW r;exact call_abs_int λu j=>{.int (if i<0 then -i else i),H,I.tok _,{1},q}
def UZ (g:X.calm=true):CW X (.builtin "max") (λe H Q=>∃ i j,e=[.int i,.int j]/\Q (.int (if j > i then j else i)) H):=by
 intro f s m H e n Q I r h;let {i,j,rfl,q}:=h;let {u,o,rfl,{t,rfl},{p,rfl}}:=vals2 r;refine max_two_ints (I.ok.hd g) λv w k=>{_,H,I.kept k,?_,q};by_cases d:j > i
 .rw [nC d,nC d];exact {1}
 .rw [nB d,nB d];exact {1}
def Ua:CW X (.type "int") (λd H Q=>(∃ i,d=[.int i]/\Q (.int i) H)\/∃ k,d=[.bl k]/\Q (.int (if k then 1 else 0)) H):=by
 intro e s g H d j Q I r h;rcases h with ⟨i,rfl,q⟩ | ⟨k,rfl,q⟩
 .let {u,rfl,t,rfl}:=DW r;exact call_int_int {.int i,H,I,{1},q}
 .let {u,rfl,f}:=DW r;cases f;exact call_int_bool {.int (if k then 1 else 0),H,I.tok _,{1},q}
end
structure ObjM (h:Heap) (x dx C:Addr) (mA:d8):Prop where
 obj:h.get? x=some (W.instObj C dx)
 ns:h.Ns1 dx mA
 ne:dx≠x
def Ub {h:Heap} {d:Addr} {f:d8} (n:h.Ns1 d f):∃ g,h.get? d=some g/\∀ b,W.lookIn b g=some (f b):=by
 let {o,i,u,j,k,hk,_,m}:=n;refine {o,j,λb=>?_};let e:=m b;unfold nsFind findBy at e;rw [<-Array.find?_toList] at e;unfold W.lookIn;rw [k];dsimp only;split
 .rename_i y q;rw [q] at e;exact congrArg some e
 .rename_i q;rw [q] at e
  let a:i.toList.any (·.refKey)=false:=by
   rw [List.any_eq_false];intro y p;let {z,t,c}:=hk y (Array.mem_toList_iff.mp p);simp [DictEntry.refKey,c]
  let r:¬ i.toList.any (·.refKey)=true:=by rw [a];exact C1
  rw [nB r];exact congrArg some e
def ObjM.look {h:Heap} {x c C:Addr} {d:d8} (I:ObjM h x c C d):∃ b,W.InstAt h x (W.instObj C c) C (some b)/\∀ a,W.lookIn a b=some (d a):=
 let ⟨b,e,f⟩:=Ub I.ns
 {b,⟨I.obj,rfl,rfl,e⟩,f}
section
variable {P:Program} {w:World} {H H':Hp} {h h':Heap} {a C dx:Addr} {fs fs':List (Str×V)}
def Uc (c:HOk P w H h) (e:H a=some (.ins C dx fs)):∃ b,ObjM h a dx C b/\(∀ f,Kq (fs.lookup f) (b f))/\PySem.Within b (fs.map (·.1))/\@fs<=1000/\H dx=some (.own a):=by
 let {d,z,g,i,b,n,r,q}:=(show ObjOk P w H h a (.ins C dx fs) from c a _ e);exact {b,⟨i,n,g⟩,r,q,z,d}
end
structure Cls (K:W.Frag) (C:Addr):Prop where
 pg:W.plainGet K C Str.empty=true
 hd:W.hasDictIn K C=true
 po:W.plainOver K C=true
 sa:W.findIn K (.ref C) "__setattr__" = some (some (.builtin "object.__setattr__"))
def Cls.get {K:W.Frag} {C:Addr} (c:Cls K C) (f:Str):W.plainGet K C f=true:=c.pg
section
variable {X:Cx} {pins:d6} {σ:St} {H:Hp} {s:Shared} {A:Around} {E:c_} {Q:c_} {c:Value} {b:Bool}
inductive TyOf (K:W.Frag) (H:Hp):V->Value->Prop where
 | non:TyOf K H .non (.type "NoneType")
 | bl (x:Bool):TyOf K H (.bl x) (.type "bool")
 | int (i:Int):TyOf K H (.int i) (.type "int")
 | str (x:Str):TyOf K H (.str x) (.type "str")
 | flt (x:UInt64):TyOf K H (.flt x) (.type "float")
 | lst {a:Addr} {xs:cW} (e:H a^^^xs):TyOf K H (.ref a) (.type "list")
 | frz {a:Addr} {o:Obj} {xs:cW} (e:H a=some (.frz o (.lst xs))):TyOf K H (.ref a) (.type "list")
 | tup {a:Addr} {xs:cW} (e:H a&&&xs):TyOf K H (.ref a) (.type "tuple")
 | dK {a:Addr} {kvs:List (N_×V)} (e:H a=some (.dK kvs)):TyOf K H (.ref a) (.type "dict")
 | dT {a:Addr} {kvs:List (List N_×V)} (e:H a=some (.dT kvs)):TyOf K H (.ref a) (.type "dict")
 | ins {a C dx:Addr} {fs:List (Str×V)} (e:H a=some (.ins C dx fs)) (cl:Cls K C) (ha:W.findIn K (.ref C) "__class__" = some (some (.builtin "object.__class__")))
   (hn:W.specialIn K (.builtin "object.__class__") "__get__" = some (some (.builtin "getset_descriptor.__get__"))) (htk:W.takesIn K (.builtin "object.__class__")=some true)
   (hm:W.mroIn K C (.type "object")=some true):TyOf K H (.ref a) (.ref C)
theorem Ud {x:V} {u t:Value} (I:Inv X pins σ H s) (d:RelV x u) (B:TyOf X.K H x t) (e:W.kitOne X.K t c=some b) (h:∀ D,Q (.bool b) { s with toks:=D }) :
  wpAny (model X.prog X.w) A (call (.builtin "isinstance") [u,c]) Q E s:=by
 cases B with
 | non=>cases (show u=Value.none from d);exact W.kia_one W.kitx_none I.kIn True.intro e (λz=>nomatch z) h
 | bl y=>cases (show u=Value.bool y from d);exact W.kia_one W.kitx_bool I.kIn True.intro e (λz=>nomatch z) h
 | int i=>let ⟨t,q⟩:=(show ∃ t,u=Value.int i t from d);cases q;exact W.kia_one W.kitx_int I.kIn True.intro e (λz=>nomatch z) h
 | str y=>let ⟨t,q⟩:=(show ∃ t,u=Value.str y t from d);cases q;exact W.kia_one W.kitx_str I.kIn True.intro e (λz=>nomatch z) h
 | flt y=>let ⟨t,q⟩:=(show ∃ t,u=Value.float y t from d);cases q;exact W.kia_one W.kitx_float I.kIn True.intro e (λz=>nomatch z) h
 | @lst a k f=>
   cases (show u=Value.ref a from d);let {_,_,n,_,g}:=(show ObjOk X.prog X.w H s.heap a (.lst k) from I.hok a _ f);exact W.kia_one W.kitx_list I.kIn {_,g,2} e (λz=>nomatch z) h
 | @frz a F k f=>
   cases (show u=Value.ref a from d);let {_,_,_,n,_,g}:=(show ObjOk X.prog X.w H s.heap a (.frz F (.lst k)) from I.hok a _ f);exact W.kia_one W.kitx_list I.kIn {_,g,2} e (λz=>nomatch z) h
 | @tup a k f=>
   cases (show u=Value.ref a from d);let {_,_,_,p}:=(show ObjOk X.prog X.w H s.heap a (.tup k) from I.hok a _ f);let {o,g,m,_}:=p;exact W.kia_one W.kitx_tuple I.kIn ⟨o,g,m⟩ e (λz=>nomatch z) h
 | @dK a j f=>
   cases (show u=Value.ref a from d);let {_,_,P,_,p}:=(show ObjOk X.prog X.w H s.heap a (.dK j) from I.hok a _ f);let {o,G,K,g,m,_}:=p;exact W.kia_one W.kitx_dict I.kIn ⟨o,g,m.1⟩ e (λz=>nomatch z) h
 | @dT a j f=>
   cases (show u=Value.ref a from d);let {_,_,k,_,o,G,K,g,m,_}:=(show ObjOk X.prog X.w H s.heap a (.dT j) from I.hok a _ f);exact W.kia_one W.kitx_dict I.kIn ⟨o,g,m.1⟩ e (λz=>nomatch z) h
 | @ins a C R S f w L M r N=>
   cases (show u=Value.ref a from d);let {T,O,_}:=Uc I.hok f;let {U,J,_}:=O.look;exact W.kia_one (W.kitx_own (w.get _) w.hd L M r N) I.kIn J e (λz=>nomatch z) h
end
structure Room (k:Nat) (A:Around):Prop where
 hd:A.handled=none
 dp:A.depth+3*k+105<recursionLimit
 un:A.units+16*k+200<cLine
def Room.mono {j k:Nat} {A:Around} (r:Room k A) (h:j<=k):Room j A:={r.hd,by have:=r.dp;omega,by have:=r.un;omega}
def Room.deeper {k:Nat} {A:Around} (r:Room (k+1) A) (a:Env):Room k (A.deeper a):=
 {r.hd,by have:=r.dp;show A.depth+1+3*k+105<_;omega,by have:=r.un;show A.units+3+16*k+200<_;omega}
def Room.depth {k:Nat} {A:Around} (r:Room k A):A.depth<recursionLimit:=by have:=r.dp;omega
def Room.units {k:Nat} {A:Around} (r:Room k A):A.units+64<cLine:=by have:=r.un;omega
def Room.units0 {k:Nat} {A:Around} (r:Room k A):A.units<cLine:=by have:=r.un;omega
def AC:TA:=λ_ H Q=>Q [] H
def AB (b:TE) (tr:TA):TA:=λa H Q=>b a H λx c=>tr a c λd e=>Q (x::d) e
section
variable {X:Cx} {e:Expr} {es:dc} {te:TE} {t:TA} {pos:Pos}
def AK:PA X [] AC:=λ_ _ _ _ H Q I h=>Calls.spliced_nil {[],H,I,.nil,h}
def AD (c:PE X e te) (d:PA X es t) (f:starEach (e::es) X.env=(false,eval e X.env)::starEach es X.env:=by rfl):PA X (e::es) (AB te t):=by
 intro pos a s b H Q I h;rw [f];show wpAny _ _ (spliced ((false,eval e X.env)::backTo pos (starEach es X.env))) _ _ s;refine Calls.spliced_cons (F_ (c a s b H _ I h) λu g ⟨x,i,j,k,m⟩=>?_);exact F_ (d pos a g b i _ j m) λv w ⟨n,o,p,q,r⟩=>{x::n,o,p,.cons k q,r}
def EV (t:TA):TE:=λc H Q=>t c H λa b=>@a<=sizeLine/\∀ p,b p=none->Q (.ref p) (upd b p (.tup a))
def As (t:TA):TE:=λc H Q=>t c H λa b=>@a<=sizeLine/\∀ p,b p=none->Q (.ref p) (upd b p (.lst a))
def FV {x1} (h:PA X es t):PE X (.Tuple es x1 pos) (EV t):=by
 intro a s g H Q I i;refine wpAny_Tuple_spliced (F_ (h pos a s g H _ I i) λj c ⟨k,d,f,r,z,q⟩=>{by rw [<-@r];exact z,?_});let m:d ⇑c=none:=f.hok.fresh (AT _);refine {.ref ⇑c,upd d ⇑c (.tup k),f.laid (t':=c.toks) (λb u e=>Heap.get?_push_of_some _ e) (AT _) ?_,2,q _ m};exact {z,j,r,{_,Heap.get?_push_size _ rfl,2,1}}
def A6 (h:PA X es t):PE X (.List es pos) (As t):=by
 intro a s g H Q I i;refine wpAny_List_spliced (F_ (h pos a s g H _ I i) λj c ⟨k,d,f,r,z,q⟩=>{by rw [<-@r];exact z,?_});let m:d ⇑c=none:=f.hok.fresh (AT _);refine {.ref ⇑c,upd d ⇑c (.lst k),f.laid (t':=c.toks) (λb u e=>Heap.get?_push_of_some _ e) (AT _) ?_,2,q _ m};exact {z,j,0,r,Heap.get?_push_size _ rfl}
end
abbrev Sp:=cW->Hp->VK->XK->Prop
abbrev aE:=List Env->Hp->Shared->XK->c_
structure Env0 (P:Program) (w:World) (K:W.Frag) (mg:d8) (base:Heap) (A:Around) (outer:List Env) (s:Shared) (H:Hp):Prop where
 frames:A.frames=some outer
 mod:Mod K mg base
 bs:∀ b o,base.get? b=some o->s.heap.get? b=some o/\H b=none
 bsz:base.objs.size<=⇑s
 funs:s.heap.FunFrames base outer
 frf:∀ b∈ax outer,H b=none
 hok:HOk P w H s.heap
 bare:AllBare s.gens
 seer:base.NoSeer
 tree:(model P w).prog.given.tree=none
def CE (a:List Env) (P:Program) (w:World) (H:Hp) (s:Shared) (Q:VK) (u:Value) (s':Shared):Prop:=
 ∃ v b,s'.os=s.os/\AllBare s'.gens/\Un (ax a) [] H b s.heap s'.heap/\HOk P w b s'.heap/\RelV v u/\Q v b
def CR (CX:aE) (a:List Env) (P:Program) (w:World) (H:Hp) (s:Shared) (Q:VK) (E:XK) (r:Result) (s':Shared):Prop:=
 match r with
 | .ok (.ret u)=>CE a P w H s Q u s'
 | .ok _=>False
 | .error e=>CX a H s E e s'
structure FnOk (P:Program) (w:World) (K:W.Frag) (mg:d8) (base:Heap) (CX:aE) (k:Nat) (f:Addr) (fd:FuncData) (ps:dd) (sp:Sp):Prop where
 len:∀ vs H Q E,sp vs H Q E->@vs=@ps
 run:∀ (A:Around) (outer:List Env) (s:Shared) (H:Hp) (args:Args) (us:cZ) (vs:cW) (Q:VK) (E:XK),Room k A->Env0 P w K mg base A outer s H->BindsTo s fd args (ps.zip us)->Vals vs us->sp vs H Q E->
  codeAny (model P w) A (.call (.ref f) args) (CR CX outer P w H s Q E) s
section
variable {X:Cx} {pins:d6} {σ:St} {H:Hp} {s s':Shared}
def Inv.env0 (I:Inv X pins σ H s):Env0 X.prog X.w X.K X.mg X.base X.A X.stack s H:=
 {I.ok.frames,I.ok.mod,I.bs,BW I.ok.bsz I.sz,I.stack,I.stkFree,I.hok,I.bare,I.ok.seer,I.ok.tree}
def Inv.after {Q:VK} {u:Value} (I:Inv X pins σ H s) (h:CE X.stack X.prog X.w H s Q u s'):EP X pins σ Q u s':=by
 let {v,f,os,a,i,c,r,q}:=h;let {j,g,d,t,e}:=s';obtain rfl:e=s.os:=os;exact {v,f,I.call (h':=j) (g':=g) (d':=d) (t':=t) (ch:=[]) i c a (λb z=>absurd z (by simp)),r,q}
end
def AL (sp:Sp) (a:cW) (E:XK) (t:TA):TE:=λb H Q=>t b H λc d=>sp (c++a) d Q E
def Binds (K:W.Frag) (c:FuncData) (ps:dd) (b:cZ):Prop:=
 ∀ (s:Shared) (a:cZ),K.In s.heap->(a++b).length=@ps->BindsTo s c {a,[]} (ps.zip (a++b))
def Binds.all {K:W.Frag} {b:FuncData} {ps:dd} (h:∀ a:cZ,@a=@ps->bindArgs b ⟨a,[]⟩=pure (ps.zip a)):Binds K b ps []:=λs a _ c=>by
 rw [List.append_nil] at c ⊢;exact .of_eq (h a c)
def ah (CX:aE) (X:Cx) (E:XK):Prop:=∀ (a:d6) (c:St) (H:Hp) (s:Shared) (e:Value) (b:Shared),Inv X a c H s->CX X.stack H s E e b->X.xe e b
section
variable {X:Cx} {CX:aE} {k:Nat} {f C:Addr} {fd:FuncData} {ps:dd} {sp:Sp} {dvs:cW} {ds:cZ} {E:XK} {x m:Str} {p pos apos:Pos} {e o:Expr} {es:dc} {ta:TE} {t:TA}
theorem Ue {a:d6} {g:St} {H:Hp} {s:Shared} {Q:VK} {b:cZ} {d:cW} (F:FnOk X.prog X.w X.K X.mg X.base CX k f fd ps sp) (j:Room k X.A) (n:Binds X.K fd ps ds) (q:Vals dvs ds) (v:ah CX X E)
  (I:Inv X a g H s) (r:Vals d b) (h:sp (d++dvs) H Q E):wpAny (model X.prog X.w) X.A (call (.ref f) b) (EP X a g Q) X.xe s:=by
 let i:Vals (d++dvs) (b++ds):=r.append q;let w:(b++ds).length=@ps:=by rw [<-@i];exact F.len _ _ _ _ h
 refine wpAny_call (codeAny_mono (F.run X.A X.stack s H {b,[]} (b++ds) (d++dvs) Q E j I.env0 (n s b I.kIn w) i h) λr y c=>?_);cases r with
 | error e=>exact v a g H s e y I c
 | ok z=>
   cases z with
   | ret u=>exact I.after c
   | next=>exact False.elim c
   | brk=>exact False.elim c
   | cont=>exact False.elim c
def Uf (F:FnOk X.prog X.w X.K X.mg X.base CX k f fd ps sp) (g:Room k X.A) (i:Gl X x) (j:X.mg x=↥f) (hk:W.keepIn X.K (.ref f)=true) (n:Binds X.K fd ps ds) (u:Vals dvs ds) (v:ah CX X E)
  (w:PA X (e::es) t) (b:(x == ("__debug__" : Str))=false:=by decide) (y:starEach (e::es) X.env=(false,eval e X.env)::starEach es X.env:=by rfl) (c:(backTo pos (starEach es X.env)).any (·.1)=false:=by rfl) :
  PE X (.Call (.Name x p) (e::es) [] pos) (AL sp dvs E t):=by
 intro a s z H Q I h;refine wpAny_Call_Name_kw (Nd I i j ?_ b);refine W.callWith_K (h₀:=X.base) I.ok.mod.kin hk (F_ (w pos a s z H _ I h) λA B ⟨D,G,d,r,q⟩=>{d.kIn,?_}) y c;exact Ue F g n u v d r q
end
def PK (X:Cx) (b:List Keyword) (t:TA):Prop:=
 ∀ (c:Pos) (a:d6) (s:Shared) (d:St) (H:Hp) (Q:cW->Hp->Prop),Inv X a d H s->t d H Q->wpAny (model X.prog X.w) X.A (evalAll ((backToKw c (keywordEach b X.env)).map (·.2))) (AP X a d Q) X.xe s
section
variable {X:Cx} {CX:aE} {k:Nat} {f C:Addr} {fd:FuncData} {ps ks:dd} {sp:Sp} {E:XK} {x m:Str} {p pos apos kpos:Pos} {e o:Expr} {es:dc} {kws:List Keyword} {te ta:TE} {t tk:TA} {nm:Option Str}
def Ug:PK X [] AC:=λ_ _ _ _ H Q I h=>wpAny_evalAll_nil {[],H,I,.nil,h}
def Uh (c:PE X e te) (d:PK X kws t):PK X (⟨nm,e,kpos⟩::kws) (AB te t):=by
 intro pos a s b H Q I h;show wpAny _ _ (evalAll ((do let v <-eval e X.env;standAt pos;pure v)::(backToKw pos (keywordEach kws X.env)).map (·.2))) _ _ s;refine wpAny_evalAll_cons (nH (F_ (c a s b H _ I h) λu g ⟨x,i,j,n,q⟩=>nH (wpAny_standAt (nJ ?_))));exact F_ (d pos a g b i _ j q) λB D ⟨r,w,y,z,A⟩=>{x::r,w,y,.cons n z,A}
variable {g:cZ->cZ->cZ} {gV:cW->cW->cW}
end
structure FnScope (N P:dd) (sc:Scope):Prop where
 kind:sc.kind=.function
 co:sc.isCoroutine=false
 gen:sc.isGenerator=false
 nd:N.Nodup
 pre:N.take @P=P
 par:∀ x∈P,sc.names.lookup x=some .local\/sc.names.lookup x=some .cell
 nofree:∀ y∈sc.names,y.2≠.free
theorem Nx {kindOf:Str->Option NameKind} {x:Str}:∀ {a:List (Str×Value)} {m:d8},(∀ v,(x,v)∉a)->bindL kindOf a m x=m x
 | [],_,_=>rfl
 | (n,v)::r,m,h=>by
   unfold bindL;rw [Nx λw b=>h w (Br _ b)];split
   .have:x≠n:=by rintro rfl;exact h v BX
    simp [this]
   .rfl
theorem Ny {kindOf:Str->Option NameKind} {x:Str}:∀ {a:List (Str×Value)} {m:d8},(∀ v,(x,v)∉a)->bindC kindOf a m x=m x
 | [],_,_=>rfl
 | (n,v)::r,m,h=>by
   unfold bindC;rw [Ny λw b=>h w (Br _ b)];split
   .rfl
   .have:x≠n:=by rintro rfl;exact h v BX
    simp [this]
theorem N3 {kindOf:Str->Option NameKind} {x:Str} {v:Value}:∀ {P:dd} {a:cZ} {i:Nat} {m:d8},P.Nodup->P[i]?=some x->a[i]?=some v->kindOf x=some .local->
  bindL kindOf (P.zip a) m x=some v
 | [],_,_,_,_,h,_,_=>by simp at h
 | _::_,[],_,_,_,_,h,_=>by simp at h
 | p::P,w::a,0,m,d,b,c,hk=>by
   simp at b c;subst b;subst c;show bindL kindOf ((p,w)::P.zip a) m p=_;unfold bindL;rw [Nx λv e=>(List.nodup_cons.mp d).1 (List.of_mem_zip e).1,nC hk];simp
 | p::P,w::a,i+1,m,d,b,c,hk=>by
   show bindL kindOf ((p,w)::P.zip a) m x=_;unfold bindL;exact N3 (i:=i) (List.nodup_cons.mp d).2 (by simpa using b) (by simpa using c) hk
theorem N5 {kindOf:Str->Option NameKind} {x:Str} {v:Value}:∀ {P:dd} {a:cZ} {i:Nat} {m:d8},P.Nodup->P[i]?=some x->a[i]?=some v->kindOf x≠some .local->
  bindC kindOf (P.zip a) m x=some v
 | [],_,_,_,_,h,_,_=>by simp at h
 | _::_,[],_,_,_,_,h,_=>by simp at h
 | p::P,w::a,0,m,d,b,c,hk=>by
   simp at b c;subst b;subst c;show bindC kindOf ((p,w)::P.zip a) m p=_;unfold bindC;rw [Ny λv e=>(List.nodup_cons.mp d).1 (List.of_mem_zip e).1,nB hk];simp
 | p::P,w::a,i+1,m,d,b,c,hk=>by
   show bindC kindOf ((p,w)::P.zip a) m x=_;unfold bindC;exact N5 (i:=i) (List.nodup_cons.mp d).2 (by simpa using b) (by simpa using c) hk
noncomputable def start (N:dd) (a:cW):St:=a.map some++List.replicate (@N - @a) none
noncomputable def F5 (CX:aE) (P:Program) (w:World) (K:W.Frag) (i:d8) (d:Heap) (N:dd) (c:Str) (a:Scope) (f:Addr) (h:Value) (A:Around) (b:List Env) (s:Shared) (H:Hp) (E:XK):Cx where
 prog:=P
 w:=w
 K:=K
 mg:=i
 base:=d
 A:=A.deeper (envOfC c a ⇑s f h)
 N:=N
 s₀:=s
 H₀:=H
 env:=envOfC c a ⇑s f h
 outer:=b
 stack:=envOfC c a ⇑s f h::b
 ex:=[]
 calm:=true
 fn:=λ_=>true
 pn:=[]
 xe:=λe j=>wpAny (model P w) (A.deeper (envOfC c a ⇑s f h)) (leaving (envOfC c a ⇑s f h) e) (λ_ g=>CX b H s E e g) (λk g=>CX b H s E k g) j
def N6 {a:Scope} {n:Nat} {x:Str} (h:a.names.lookup x=some .cell):∃ c,(cellsFrom n a.names []).lookup x=some c:=by
 let q:=W.cellsFrom_some a.names n [] (.inl h);exact Option.isSome_iff_exists.mp q
def Ui {CX:aE} {P:Program} {w:World} {K:W.Frag} {O:d8} {B:Heap} {N ps:dd} {g:Str} {d:Scope} {f:Addr} {G:Value} {A:Around} {m:List Env} {s T:Shared} {H:Hp} {E:XK} {Q:cZ} {C:cW}
  (S:FnScope N ps d) (X:A.handled=none) (R:(A.deeper (envOfC g d ⇑s f G)).depth+Builtin.pylongFrames<recursionLimit) (j:Env0 P w K O B A m s H) (hl:@C=@ps) (r:Vals C Q)
  (x:InCallC s ⇑s (bindL (envOfC g d ⇑s f G).kindOf (ps.zip Q) λ_=>none) (cellsFrom (⇑s+1) d.names []) (bindC (envOfC g d ⇑s f G).kindOf (ps.zip Q) λ_=>none) T) :
  Inv (F5 CX P w K O B N g d f G A m s H E) [] (start N C) H T:=by
 let Y:@ps<=@N:=by have:=congrArg List.length S.pre;rw [Ba] at this;omega
 let {L,tk,rfl,hk}:=x.done;let D:∀ b:Addr,b∉(F5 CX P w K O B N g d f G A m s H E).ex:=λb z=>absurd (show b∈([]:de) from z) (by simp)
 refine {{j.mod,S.kind,7,AT _,λy z c L o=>?_,λy F=>?_,λy c _ h=>?_,λ_=>X,Around.frames_deeper j.frames,.inr ⟨rfl,rfl⟩,λb z=>absurd z (D b),j.bs,j.bsz,λb _ _=>D b,λb z=>absurd z (D b),j.funs,j.frf,j.seer,j.tree,λs' I=>PySem.PylongRoom.of (j.mod.nolimit.keeps I) R (PySem.SeerAt.of (j.seer.keeps I) j.tree (Around.frames_deeper j.frames) S.gen S.co rfl rfl)},
  rfl,j.bare,Un.kept hk,{_,x.toInCall.ns,λi y v L o h3=>?_},λy c h=>{_,x.cell y c h},j.hok.fresh (AT _),λy c h=>?_,λp hp=>absurd (show p∈([]:d6) from hp) (by simp),j.hok.kept hk,?_}
 .exact name_of_addr x.apart (PySem.mem_of_lookup L) (PySem.mem_of_lookup o)
 .let F:d.names.lookup y=some .cell\/d.names.lookup y=some .free:=F;rcases F with F | F
  .exact N6 F
  .exact absurd rfl (S.nofree _ (PySem.mem_of_lookup F))
 .exact Dc (x.above y c (PySem.mem_of_lookup h))
 .let M:i<@C:=by
   unfold start at o;by_cases M:i<@C
   .exact M
   .rw [EI (by simpa using M)] at o;rw [E3] at o;split at o <;> cases o
  let Z:C[i]?=some v:=by
   unfold start at o;rw [Eh (by simpa using M),Ah] at o;cases e:C[i]? with
   | none=>rw [e] at o;cases o
   | some a=>rw [e] at o;cases o;rfl
  let {u,U,rv}:=r.get Z
  let hp:ps[i]?=some y:=by
   rw [<-S.pre,List.getElem?_take_of_lt `a];exact L
  let J:ps.Nodup:=by rw [<-S.pre];exact S.nd.sublist (List.take_sublist _ _)
  refine {u,rv,?_};rcases S.par y (Bb hp) with k | k
  .exact .inl {k,N3 J hp U k}
  .let {c,e}:=N6 (n:=⇑s+1) k;refine .inr {.inl k,c,e,?_};let q:=x.cell y c e;rw [N5 J hp U (by show d.names.lookup y≠_;rw [k];decide)] at q;exact q
 .exact j.hok.fresh (Dc (x.above y c (PySem.mem_of_lookup h)))
 .unfold start;show _=@N;rw [Bf,AI,EJ];omega
theorem Uj {CX:aE} {P:Program} {w:World} {K:W.Frag} {R:d8} {h:Heap} {k:Nat} {f:Addr} {z d:Str} {i:Arguments} {j:List Stmt} {a:Scope} {dV kV G pm g ct oc:Value} {an od:Option Addr}
  {U:Array (Option Value)} {N ps:dd} {sp:Sp} (lk:K.lookup f=some ⟨oc,od,.func (W.fnOf z d i j a dV kV G pm an g ct),U⟩) (X:W.codeIn K g d=true) (S:FnScope N ps a)
  (len:∀ m H Q E,sp m H Q E->@m=@ps)
  (C:∀ (A:Around) (c:List Env) (s:Shared) (H:Hp) (m:cW) (Q:VK) (E:XK),Room k (A.deeper (envOfC d a ⇑s f g))->sp m H Q E->
   ∃ t,PSs (F5 CX P w K R h N d a f g A c s H E) j t/\t { nx:=λ_ B=>Q .non B,rt:=Q } (start N m) H) :
  FnOk P w K R h CX (k+1) f (W.fnOf z d i j a dV kV G pm an g ct) ps sp:=by
 refine {len,λA c s H a0 us m Q E T L hb r M=>?_};let hl:=len _ _ _ _ M;let KX:K.In s.heap:=L.mod.kin.keeps λb o e=>(L.bs b o e).1;let Y:s.heap.NoLimit:=L.mod.nolimit.keeps λb o e=>(L.bs b o e).1
 let D:∀ y∈ps.zip us,a.names.lookup y.1=some .local\/(a.names.lookup y.1=some .cell/\((cellsFrom (⇑s+1) a.names []).lookup y.1).isSome=true):=λ⟨n,v⟩ hy=>by
  rcases S.par n (List.of_mem_zip hy).1 with q | q
  .exact .inl q
  .exact .inr {q,W.cellsFrom_some _ _ _ (.inl q)}
 refine codeAny_call_function T.depth (KX _ _ lk) rfl S.co S.gen rfl (W.codeRec_of KX X) (hb _ _ _ _ ?_);refine wpAny_newFunctionEnv_cells S.kind D λa3 he s1 x=>?_;subst he;refine {Y.keeps x.toInCall.keep,codeAny_func ?_};let {t,ht,hq}:=C A c s H m Q E (T.deeper _) M;let I:Inv (F5 CX P w K R h N d a f g A c s H E) [] (start N m) H s1:=Ui S T.hd (by have:=(T.deeper (envOfC d a ⇑s f g)).dp;show _+100<_;omega) L hl r x;refine nK (ht [] s1 (start N m) H _ I hq) (λfl Z F=>?_) λe Z F=>F
 let O:∀ {p:St} {B:Hp} {v:V} {u:Value},Inv (F5 CX P w K R h N d a f g A c s H E) [] p B Z->RelV v u->Q v B->CE c P w H s Q u Z:=
  λ{p B v u} J rv q=>⟨v,B,J.os,J.bare,J.base,J.hok,rv,q⟩
 cases fl with
 | ret u=>
   let {v,p,B,J,rv,q}:=F;exact O J rv q
 | next=>
   let {p,B,J,q}:=F;exact O (v:=V.non) (u:=Value.none) J rfl q
 | brk=>
   let {_,_,_,q}:=F;exact False.elim q
 | cont=>
   let {_,_,_,q}:=F;exact False.elim q
section
variable {X:Cx} {x:Str} {p pos:Pos} {e:Expr} {es:dc} {t:TA} {id T:String} {r:cW->Hp->VK->Prop}
def D' (r:cW->Hp->VK->Prop) (t:TA):TE:=λa H Q=>t a H λb c=>r b c Q
def Ad (f:CW X (.builtin id) r) (g:Gl X x) (i:X.mg x=none) (j:bootBuiltins x=some (.builtin id)) (k:PA X (e::es) t) (m:x ≠ "__name__" := by decide) (b:(x == ("__debug__" : Str))=false:=by decide)
  (n:starEach (e::es) X.env=(false,eval e X.env)::starEach es X.env:=by rfl) (c:(backTo pos (starEach es X.env)).any (·.1)=false:=by rfl):PE X (.Call (.Name x p) (e::es) [] pos) (D' r t):=by
 intro a s d H Q I h;refine wpAny_Call_Name_kw (Dj I g i j ?_ m b);exact PyProof.Rows.callWith_builtin1 (F_ (k pos a s d H _ I h) λo q ⟨u,v,w,y,z⟩=>f a q d v u o Q w y z) n c
def E7 (f:CW X (.type T) r) (g:Gl X x) (i:X.mg x=none) (j:bootBuiltins x=some (.type T)) (k:PA X (e::es) t) (m:x ≠ "__name__" := by decide) (b:(x == ("__debug__" : Str))=false:=by decide)
  (n:starEach (e::es) X.env=(false,eval e X.env)::starEach es X.env:=by rfl) (c:(backTo pos (starEach es X.env)).any (·.1)=false:=by rfl):PE X (.Call (.Name x p) (e::es) [] pos) (D' r t):=by
 intro a s d H Q I h;refine wpAny_Call_Name_kw (Dj I g i j ?_ m b);exact PyProof.Rows.callWith_type1 (F_ (k pos a s d H _ I h) λo q ⟨u,v,w,y,z⟩=>f a q d v u o Q w y z) n c
end
end L2
namespace HT
open PySem PyProof.Rows
section
variable {prog:Program} {w:World} {A:Around} {E:c_} {s:Shared}
noncomputable def sIx (n d:Nat):Option Int->Nat
 | none=>d
 | some v=>if v<0 then (v+(n:Int)).toNat else min v.toNat n
end
end HT
namespace L2
open PySem PySem.Spec PyProof.Rows
abbrev TO:=St->Hp->(Option Int->Hp->Prop)->Prop
def PO (X:Cx) (e:Option Expr) (t:TO):Prop:=
 ∀ (a:d6) (s:Shared) (b:St) (H:Hp) (Q:Option Int->Hp->Prop),Inv X a b H s->t b H Q->
   wpAny (model X.prog X.w) X.A (evalPart e X.env) (λu d=>∃ o c,Inv X a b c d/\IsPart u o/\Q o c) X.xe s
noncomputable def Dn:TO:=λ_ H Q=>Q none H
noncomputable def Do (t:TE):TO:=λa H Q=>t a H λx b=>∃ i,x=.int i/\Q (some i) b
section
variable {X:Cx} {e:Expr} {te:TE} {lo hi:Option Expr} {tl th:TO} {pos p2:Pos}
def EA:PO X none Dn:=by
 intro a s b H Q I h;rw [evalPart_none];exact nJ {none,H,I,.none,h}
def EB (h:PE X e te):PO X (some e) (Do te):=by
 intro a s b H Q I c;rw [evalPart_some];refine F_ (h a s b H _ I c) λu k ⟨x,d,f,g,j⟩=>?_;let {i,rfl,q}:=j;let {t,rfl}:=g;exact {some i,d,f,.int i t,q}
def cx (X:Cx) (r:V->Option Int->Option Int->Hp->VK->Prop):Prop:=
 ∀ (a:d6) (s:Shared) (b:St) (H:Hp) (x:V) (v c d:Value) (lo hi:Option Int) (f:Addr) (Q:VK),Inv X a b H s->RelV x v->s.heap.IsSliceOf f c d .none->IsPart c lo->IsPart d hi->r x lo hi H Q->
   ∃ T id,typeLookup (.type T) "__getitem__" = pure (some (.builtin id))/\s.TypeIs v T/\wpAny (model X.prog X.w) X.A (getItem v (.ref f)) (EP X a b Q) X.xe s
def Z' (r:V->Option Int->Option Int->Hp->VK->Prop) (te:TE) (tl th:TO):TE:=λa H Q=>te a H λx b=>tl a b λl c=>th a c λu d=>r x l u d Q
def EC {r:V->Option Int->Option Int->Hp->VK->Prop} (n:cx X r) (o:PE X e te) (p:PO X lo tl) (w:PO X hi th):PE X (.Subscript e (.Slice lo hi none p2) pos) (Z' r te tl th):=by
 intro a s g H Q I h;refine Subscript_ (F_ (o a s g H _ I h) λv y ⟨x,z,A,B,C⟩=>?_);refine wpAny_Slice (F_ (p a y g z _ A C) λj D ⟨l,E,F,G,J⟩=>F_ (w a D g E _ F J) λk c ⟨u,m,K,L,M⟩=>?_);rw [evalPart_none];refine nJ ?_;let N:Inv X a g m { c with heap:=c.heap.push { cls:=.type "slice", data:=.fields #[j,k,.none] } }:=K.kept (t':=c.toks) λb S q=>Heap.get?_push_of_some _ q;let {T,id,O,P,R}:=n a { c with heap:=c.heap.push { cls:=.type "slice", data:=.fields #[j,k,.none] } } g m x v j k l u ⇑c Q N B (Heap.IsSliceOf.new ..) G L M;show wpAny (model X.prog X.w) X.A (subscriptTail e (.Slice lo hi none p2) v (.ref ⇑c)) (EP X a g Q) X.xe { c with heap:=c.heap.push { cls:=.type "slice", data:=.fields #[j,k,.none] } };exact tail_any (ops:=[.ref ⇑c,v]) P O R (by with_unfolding_all rfl)
noncomputable def CD (xs:cW) (lo hi:Option Int):cW:=(xs.drop (HT.sIx @xs 0 lo)).take (HT.sIx @xs @xs hi - HT.sIx @xs 0 lo)
def Uk (xs:cW) (lo hi:Option Int):(CD xs lo hi).length<=@xs:=by
 unfold CD;rw [Ba,List.length_drop];omega
end
noncomputable def aa (n:Nat) (i:Int):Option Nat:=if 0<=i then (if i<n then some i.toNat else none) else if -(n:Int)<=i then some (i+n).toNat else none
noncomputable def M' {a:Type} (xs:List a) (i:Int):Option a:=(aa @xs i).bind λj=>xs[j]?
def N7 {n:Nat} {i:Int} {j:Nat} (h:aa n i=some j):seqIndex? i n=some j/\j<n/\-(n:Int)<=i/\i<n:=by
 unfold aa at h;by_cases b:0<=i
 .rw [nC b] at h;by_cases a:i<n
  .rw [nC a] at h;let e:i.toNat=j:=nL h;exact {by rw [seqIndex_of b a,e],`a,`a,a}
  .rw [nB a] at h;cases h
 .rw [nB b] at h;by_cases a:-(n:Int)<=i
  .rw [nC a] at h;let e:(i+n).toNat=j:=nL h;exact {by rw [seqIndex_neg `a a,e],`a,a,`a}
  .rw [nB a] at h;cases h
theorem Ku {a:Type} {xs:List a} {i:Int} {v:a} (h:M' xs i=some v):∃ j,seqIndex? i @xs=some j/\xs[j]?=some v/\j<@xs/\-(@xs:Int)<=i/\i<@xs:=by
 unfold M' at h;cases e:aa @xs i with
 | none=>rw [e] at h;cases h
 | some j=>
   rw [e] at h;let {b,c,d,f}:=N7 e;exact ⟨j,b,h,c,d,f⟩
def DL {a:Type} {xs:List a} {j:Nat} {v:a} (h:xs[j]?=some v):M' xs (j:Int)=some v:=by
 let b:j<@xs:=(A3.mp h).1
 let e:aa @xs (j:Int)=some j:=by
  unfold aa;rw [nC `a,nC `a];simp
 unfold M';rw [e];exact h
def Ul (b:Expr):Prop:=∀ o i,subscripted b false o i=operate [o,i] (getItem o i)
def bH (X:Cx) (r:R2):Prop:=
 ∀ (c a:Expr) (b:d6) (s:Shared) (d:St) (H:Hp) (x y:V) (v u:Value) (Q:VK),Inv X b d H s->RelV x v->RelV y u->r x y H Q->
   subscripted a false v u=operate [v,u] (getItem v u)->wpAny (model X.prog X.w) X.A (subscriptTail c a v u) (EP X b d Q) X.xe s
def MtR (X:Cx) (id:String) (r:V->cW->Hp->VK->Prop):Prop:=
 ∀ (a:d6) (s:Shared) (b:St) (H:Hp) (x:V) (c:cW) (v:Value) (d:cZ) (Q:VK),Inv X a b H s->RelV x v->Vals c d->r x c H Q->
   wpAny (model X.prog X.w) X.A (call (.builtin id) (v::d)) (EP X a b Q) X.xe s
section
variable {X:Cx} {a b:Expr} {ta tb:TE} {pos:Pos}
def BD {r:R2} (d:bH X r) (e:PE X a ta) (f:PE X b tb) (g:Ul b):PE X (.Subscript a b pos) (A_ r ta tb):=by
 intro c s i H Q I h;exact Subscript_ (Kt e f I h λv u j x y k m n o q=>d a b c j i k x y v u Q m n o q (g _ _))
inductive Um(K:W.Frag)(x y:V)(H:Hp)(Q:VK):Prop
 |mk(p c i v):x=.ref p->y=.int i->SqL K H p c->M' c i=some v->Q v H->Um K x y H Q
inductive Uo(K:W.Frag)(x y:V)(H:Hp)(Q:VK):Prop
 |mk(p c i v):x=.ref p->y=.int i->SqT K H p c->M' c i=some v->Q v H->Uo K x y H Q
def Up:bH X (Um X.K):=by
 intro f g c s o H x y v u Q I D E h A;let {p,O,i,z,rfl,rfl,F,G,q}:=h;cases D;let {t,rfl}:=E;let {k,r,m,hz}:=I.list F;let {j,e,J,P,K,L}:=Ku G;let {w,B,rw'}:=r.get J;let M:=@r;let R:=Gn;let d:EP X c o Q w s:=⟨z,H,I,rw',q⟩;by_cases C:0<=i
 .let n:i.toNat=j:=by
   rw [seqIndex_of C L] at e;exact nL e
  exact item_listR m.isList C `a (by rw [n];simpa using B) d A
 .let n:(i+(k.toArray.size:Int)).toNat=j:=by
   rw [seqIndex_neg `a K] at e;rw [BJ,<-M];exact nL e
  exact subscriptTail_builtinR (x:=w) m.isList.typeIs slot_list_getitem.lookup
   (wpAny_getItem_list_neg (Q:=λr N=>r=w/\EP X c o Q r N) m.isList `a (by rw [BJ] <;> omega) `a (by rw [n];simpa using B) ⟨rfl,d⟩) A
def Uq:bH X (Uo X.K):=by
 intro d e c s g H x y v u Q I m n h o;let {p,K,i,z,rfl,rfl,A,B,q}:=h;cases m;let {t,rfl}:=n;let {C,r,k,hz}:=I.tuple A;let {j,D,E,L,M,N}:=Ku B;let {w,F,rw'}:=r.get E;let G:=@r;let O:=Gn;let f:EP X c g Q w s:=⟨z,H,I,rw',q⟩
 exact subscriptTail_builtinR (x:=w) k.typeIs slot_tuple_getitem.lookup
  (getItem_tuple (j:=j) (Q:=λr J=>r=w/\EP X c g Q r J) k `a `a (by rw [BJ,<-G];exact D) (by simpa using F) ⟨rfl,f⟩) o
def Ur (its:cZ) (n j:Nat) (u:Value):Obj.mapSeq (·.setIfInBounds j u) { cls:=.type "list", data:=.seq its.toArray n }={ cls:=.type "list", data:=.seq (its.set j u).toArray n }:=by
 simp [Obj.mapSeq]
def Inv.lst {c:d6} {d:St} {H:Hp} {s:Shared} {p:Addr} {xs:cW} (I:Inv X c d H s) (h:H p^^^xs) :
  ∃ (its:cZ) (n:Nat),Vals xs its/\s.heap.get? p=some { cls:=.type "list", data:=.seq its.toArray n }/\@xs<=sizeLine:=by
 let {z,its,n,r,e}:=I.hok p _ h;exact ⟨its,n,r,e,z⟩
def Inv.lstUpd {c:d6} {g:St} {H:Hp} {s:Shared} {p:Addr} {xs ys:cW} {its its':cZ} {n d:Nat} {f:Obj->Obj} (I:Inv X c g H s) (h:H p^^^xs)
  (m:s.heap.get? p=some { cls:=.type "list", data:=.seq its.toArray n }) (i:f { cls:=.type "list", data:=.seq its.toArray n }={ cls:=.type "list", data:=.seq its'.toArray d }) (r:Vals ys its') (hz:@ys<=sizeLine) (t:Nat) :
  Inv X c g (upd H p (.lst ys)) { s with heap:=s.heap.update p f,toks:=t }:=by
 let e:(s.heap.update p f).get? p=some { cls:=.type "list", data:=.seq its'.toArray d }:=by
  rw [Heap.get?_update_self f m (by rw [i] <;> rfl),i]
 refine I.write (x:=p) (e:=p) (by rw [h];trivial) (.inl rfl) (λb u o q=>(Heap.get?_update_other _ _ (Ne.symm o)).trans q) {_,e} ?_;exact ⟨hz,its',d,r,e⟩
inductive Cv(o i v:V)(H:Hp)(Q:Hp->Prop):Prop
 |mk(p c k j):o=.ref p->i=.int k->H p^^^c->aa @c k=some j->Q (upd H p (.lst (c.set j v)))->Cv o i v H Q
def C5:aO X Cv:=by
 intro c s A H o i v F G u Q I ro B C h;let {p,D,k,j,rfl,rfl,hp,E,q}:=h;cases ro;let {t,rfl}:=B;let {d,n,r,f,hz}:=I.lst hp;let {e,J,m,w}:=N7 E;let g:=@r;let K:=Gn
 let x:Inv X c A (upd H p (.lst (D.set j v))) { s with heap:=s.heap.update p (Obj.mapSeq (·.setIfInBounds j u)) }:=
  I.lstUpd hp f (Ur d n j u) (r.set C j) (by rw [Dw];exact hz) s.toks
 by_cases z:0<=k
 .let hk:k.toNat=j:=by
   rw [seqIndex_of z w] at e;exact nL e
  exact W.ki_setAt f z `a (by rw [BJ,<-g];exact w) (by rw [hk];exact {_,x,q})
 .let hk:(k+(d.toArray.size:Int)).toNat=j:=by
   rw [seqIndex_neg `a m] at e;rw [BJ,<-g];exact nL e
  exact W.ki_setBack f `a (by rw [BJ,<-g];exact m) `a (by rw [hk];exact {_,x,q})
def Us (lo c:Option Int) (n:Nat):(sliceBounds lo c none n).1=((HT.sIx n 0 lo:Nat):Int)/\(sliceBounds lo c none n).2.1=((HT.sIx n n c:Nat):Int)/\(sliceBounds lo c none n).2.2=1:=by
 refine {?_,?_,2}
 .cases lo with
  | none=>simp [sliceBounds,HT.sIx]
  | some i=>
    simp only [sliceBounds,HT.sIx,Option.getD_none,show (1:Int) > 0 by decide,if_true];by_cases h:i<0
    .simp only [h,if_true] <;> omega
    .simp only [h,if_false] <;> omega
 .cases c with
  | none=>simp [sliceBounds,HT.sIx]
  | some i=>
    simp only [sliceBounds,HT.sIx,Option.getD_none,show (1:Int) > 0 by decide,if_true];by_cases h:i<0
    .simp only [h,if_true] <;> omega
    .simp only [h,if_false] <;> omega
def Ut (its:cZ) (lo c:Option Int):slicePick its.toArray lo c none=((its.drop (HT.sIx ↑its 0 lo)).take (HT.sIx ↑its ↑its c - HT.sIx ↑its 0 lo)).toArray:=by
 let {d,e,f}:=Us lo c its.toArray.size;unfold slicePick;rw [d,e,f];simp only [sliceRange_one,pick_run,BJ] <;> rfl
def Uu (K:W.Frag):V->Option Int->Option Int->Hp->VK->Prop:=λx lo d H Q=>∃ a c,x=.ref a/\SqL K H a c/\∀ p,H p=none->Q (.ref p) (upd H p (.lst (CD c lo d)))
def N8:cx X (Uu X.K):=by
 intro f s u H x v w y lo e z Q I i j k m h;let {a,c,rfl,n,q}:=h;cases i;let {p,r,g,hz}:=I.list n;let d:=@r;refine {"list", _,slot_list_getitem.lookup,g.isList.typeIs,?_};refine wpAny_getItem_list_slice g.isList j k m .none (by simp) ?_ (by rw [BJ] <;> omega);rw [Ut,<-d];refine {.ref ⇑s,_,I.laid (t':=s.toks) (o:=.lst (CD c lo e)) (λb A q=>Heap.get?_push_of_some _ q) (AT _) ?_,2,q _ (I.hok.fresh (AT _))};exact {BW (Uk c lo e) hz,_,0,(r.drop (HT.sIx @c 0 lo)).take (HT.sIx @c @c e - HT.sIx @c 0 lo),Heap.get?_push_size _ rfl}
def N9:CW X (.builtin "len") (λj H Q=>∃ p d,j=[.ref p]/\(SqL X.K H p d\/SqT X.K H p d)/\Q (.int @d) H):=by
 intro k s n H j o Q I r h;let {p,d,rfl,e,q}:=h;let {u,rfl,m}:=DW r;cases m;let v:=Gn;rcases e with e | e
 .let {f,g,i,hz}:=I.list e;let c:=@g;exact Calls.call_len_list i.isList (by simp only [BJ] <;> omega) {.int @d,H,I.tok _,{s.toks+1,by rw [BJ,c]},q}
 .let {f,g,i,hz}:=I.tuple e;let c:=@g;exact len_tuple i (by simp only [BJ] <;> omega) {.int @d,H,I.tok _,{s.toks+1,by rw [BJ,c]},q}
def Uv:CW X (.type "list") (λA H Q=>∃ p f,A=[.ref p]/\(SqL X.K H p f\/SqT X.K H p f)/\∀ l,H l=none->Q (.ref l) (upd H l (.lst f))):=by
 intro j s D H A F Q I r h;let {p,f,rfl,k,q}:=h;let {u,rfl,E}:=DW r;cases E
 let m:∀ (c:cZ),Vals f c->@f<=sizeLine->∀ (d:Heap) (g:Nat),(∀ b B,s.heap.get? b=some B->d.get? b=some B)->
   d.get? ⇑s=some { cls:=.type "list", dict:=none,data:=.seq c.toArray g,slots:=#[] }->EP X j D Q (.ref ⇑s) { s with heap:=d }:=λc i hz d g kp e=>
  {.ref ⇑s,_,I.laid (t':=s.toks) kp (AT _) (show ObjOk X.prog X.w _ d _ (.lst f) from ⟨hz,c,g,i,e⟩),2,q _ (I.hok.fresh (AT _))}
 rcases k with k | k
 .let {c,i,w,hz}:=I.list k;let v:=@i;let {o,x,y,n,z}:=w.isList;exact call_list_seq p (.inl rfl) x y z (λd g kp e=>m c i hz d g kp e) (by simp only [BJ] <;> omega)
 .let {c,i,w,hz}:=I.tuple k;let v:=@i;let {o,x,y,n,z}:=w;exact call_list_seq p (.inr rfl) x y z (λd g kp e=>m c i hz d g kp e) (by simp only [BJ] <;> omega)
def Uw:CW X (.type "tuple") (λn H Q=>∃ p f,n=[.ref p]/\((SqL X.K H p f/\∀ l,H l=none->Q (.ref l) (upd H l (.tup f)))\/(SqT X.K H p f/\Q (.ref p) H))):=by
 intro c s v H n C Q I r h;let {p,f,rfl,h}:=h;let {u,rfl,z}:=DW r;cases z;rcases h with ⟨j,q⟩ | ⟨j,q⟩
 .let {d,k,m,hz}:=I.list j;let w:=@k;refine call_tuple_list m.isList (λi kp=>?_) (by simp only [BJ] <;> omega);let x:Inv X c v H { s with heap:=i }:=I.kept (t':=s.toks) kp
  let A:Inv X c v (upd H i.objs.size (.tup f)) { s with heap:=i.push { cls:=.type "tuple", data:=.seq d.toArray } }:=
   x.laid (t':=s.toks) (λb o e=>Heap.get?_push_of_some _ e) (AT _) (show ObjOk X.prog X.w _ _ _ (.tup f) from {hz,d,k,IsTup.new _ _})
  exact {.ref i.objs.size,_,A,2,q _ (x.hok.fresh (AT _))}
 .let {d,k,m,hz}:=I.tuple j;exact call_tuple_same m {.ref p,H,I,2,q}
def bI (K:W.Frag) (T:String) (x:V) (H:Hp):Prop:=match x with
 | .str _=>T = "str"
 | .int _=>T = "int"
 | .ref p=>(T = "list" /\ ∃ d,SqL K H p d)\/(T = "tuple" /\ ∃ o,K.lookup p=some o/\o.cls=.type "tuple" /\ o.dict=none)\/
   (T = "dict" /\ ((∃ c,H p=some (.dK c))\/∃ c,H p=some (.dT c)))\/(T = "set" /\ ∃ S n,H p=some (.set S n))
 | _=>False
theorem OA {f:d6} {u:St} {H:Hp} {s:Shared} {T:String} {x:V} {v:Value} (I:Inv X f u H s) (r:RelV x v) (g:bI X.K T x H) :
  s.TypeIs v T/\∀ a,v=.ref a->∃ m,s.heap.get? a=some m/\m.dict=none:=by
 cases x with
 | str z=>
   let {t,rfl}:=r;cases (show T = "str" from g);exact {typeIs_str s z t,λ_ e=>nomatch e}
 | int i=>
   let {t,rfl}:=r;cases (show T = "int" from g);exact {typeIs_int s i t,λ_ e=>nomatch e}
 | ref p=>
   cases r;rcases g with ⟨rfl,B,w⟩ | ⟨rfl,o,hk,y,h⟩ | ⟨rfl,hk⟩ | ⟨rfl,S,n,hk⟩
   .let {A,_,q,_}:=I.list w;refine {q.isList.typeIs,λa e=>?_};cases e;let {o,n,e,c,h,_}:=q;exact ⟨o,e,h⟩
   .refine {{o,I.kIn p o hk,y},λa e=>?_};cases e;exact {o,I.kIn _ o hk,h}
   .let z:∃ o,s.heap.get? p=some o/\o.ExactDict:=by
     rcases hk with ⟨j,hk⟩ | ⟨j,hk⟩
     .let {_,_,_,_,o,_,_,e,d,_}:=I.hok p _ hk;exact ⟨o,e,d⟩
     .let {_,_,_,_,o,_,_,e,d,_}:=I.hok p _ hk;exact ⟨o,e,d⟩
    let {o,e,d}:=z;refine {⟨o,e,d.1⟩,λa k=>?_};cases k;exact ⟨o,e,d.2.1⟩
   .let {o,_,_,_,e,d,_}:=I.hok p _ hk;refine {⟨o,e,d.1⟩,λa k=>?_};cases k;exact ⟨o,e,d.2.1⟩
 | _=>exact False.elim g
def JO (K:W.Frag) (T:String) (r:V->cW->Hp->VK->Prop) (d:TE):TE:=λe H Q=>d e H λx c=>bI K T x c/\r x [] c Q
def ay (K:W.Frag) (T:String) (r:V->cW->Hp->VK->Prop) (e:TE) (t:TA):TE:=λc H Q=>e c H λx d=>bI K T x d/\t c d λf g=>r x f g Q
variable {o e:Expr} {es:dc} {to:TE} {t:TA} {name:Str} {apos cpos:Pos} {T id:String} {r:V->cW->Hp->VK->Prop}
def Kv (n:PlainAttrs T) (g:Slot T name id) (i:typeOf (.builtin id)=pure (.type "method_descriptor")) (p:MtR X id r) (q:PE X o to)
  (d:attributeBase o name X.env (eval o X.env)=eval o X.env:=by rfl) (f:(apos.endLine == cpos.line)=true:=by rfl):PE X (.Call (.Attribute o name apos) [] [] cpos) (JO X.K T r to):=by
 intro c s j H Q I h;refine wpAny_Call_method0_late d f (F_ (q c s j H _ I h) λv u ⟨x,w,k,m,y,z⟩=>?_);let {A,B}:=OA k m y;exact {T,id,n,g,i,A,B,Calls.callWith_builtin rfl (PySem.evalArgs_none (p c u j w x [] v [] Q k m .nil z))}
def E8 (u:PlainAttrs T) (i:Slot T name id) (k:typeOf (.builtin id)=pure (.type "method_descriptor")) (w:MtR X id r) (y:PE X o to) (z:PA X (e::es) t)
  (f:attributeBase o name X.env (eval o X.env)=eval o X.env:=by rfl)
  (j:((backTo cpos (starEach (e::es) X.env)).all (λx=>!x.1) && (backToKw cpos (keywordEach [] X.env)).all (λx=>x.1.isSome)
   && decide ((e::es).length+([]:List Keyword).length+(if ([]:List Keyword).isEmpty then 0 else 1)<30))=true:=by rfl)
  (g:(apos.endLine == cpos.line)=true:=by rfl) (A:starEach (e::es) X.env=(false,eval e X.env)::starEach es X.env:=by rfl) (d:(backTo cpos (starEach es X.env)).any (·.1)=false:=by rfl) :
  PE X (.Call (.Attribute o name apos) (e::es) [] cpos) (ay X.K T r to t):=by
 intro c s m H Q I h;refine wpAny_Call_method_late f j g rfl (F_ (y c s m H _ I h) λv B ⟨x,C,n,p,D,E⟩=>?_);let {F,G}:=OA n p D;refine {T,id,u,i,k,F,G,?_};let q:=z cpos c B m C _ n E;rw [A] at q ⊢;refine Calls.callWith_builtin (by show (false || (backTo cpos (starEach es X.env)).any (·.1))=false;rw [d] <;> rfl) (Calls.evalArgs_plain ?_);exact F_ q λJ K ⟨L,M,N,O,P⟩=>w c K m M x L v J Q N p O P
end
def MtM (X:Cx) (id:String) (r:V->cW->Hp->VK->Prop):Prop:=
 ∀ (a:d6) (s:Shared) (b:St) (H:Hp) (x:V) (c:cW) (v:Value) (d:cZ) (Q:VK),Inv X a b H s->RelV x v->Vals c d->r x c H Q->
   wpAny (model X.prog X.w) X.A (call (.builtin id) (v::d)) (EP X a b Q) X.xe s
def Vals.zero {a:cZ} (h:Vals [] a):a=[]:=by cases h;rfl
def Vals.inv {x:V} {xs:cW} {a:cZ} (h:Vals (x::xs) a):∃ u t,a=u::t/\RelV x u/\Vals xs t:=by cases h with | cons r t=>exact {6,r,t}
def Vals.one {x:V} {a:cZ} (h:Vals [x] a):∃ u,a=[u]/\RelV x u:=by let {u,t,rfl,r,h}:=h.inv;exact {u,by rw [h.zero],r}
def Vals.two {x y:V} {a:cZ} (h:Vals [x,y] a):∃ u v,a=[u,v]/\RelV x u/\RelV y v:=by let {u,t,rfl,r,h}:=h.inv;let {v,rfl,q}:=h.one;exact ⟨u,v,rfl,r,q⟩
theorem Vals.dropLast {xs:cW} {a:cZ} (h:Vals xs a):Vals xs.dropLast a.dropLast:=by
 induction h with
 | nil=>exact .nil
 | cons r t b=>
   cases t with
   | nil=>exact .nil
   | cons q c=>exact .cons r b
theorem Vals.rep {xs:cW} {a:cZ} (h:Vals xs a):∀ k:Nat,Vals (List.replicate k xs).flatten (List.replicate k a).flatten
 | 0=>.nil
 | k+1=>by
   rw [List.replicate_succ,List.replicate_succ,List.flatten_cons,List.flatten_cons];exact Vals.append h (Vals.rep h k)
theorem Ux {c:Type} (l:List c):l.eraseIdx (@l - 1)=l.dropLast:=by
 induction l with
 | nil=>rfl
 | cons a r d=>
   cases r with
   | nil=>rfl
   | cons b r=>
     let e:(a::b::r).length - 1=((b::r).length - 1)+1:=by
      let f:(a::b::r).length=@r+2:=rfl;let g:(b::r).length=@r+1:=rfl;omega
     rw [e,List.eraseIdx_cons_succ,d]
     all_goals rfl
theorem OB (its:cZ):∀ (k:Nat) (a:cZ),
  List.foldl (λb c=>b++c) a.toArray (List.replicate k its.toArray)=(a++(List.replicate k its).flatten).toArray
 | 0,a=>by simp
 | k+1,a=>by
   let e:a.toArray++its.toArray=(a++its).toArray:=by simp
   let d:(a++its)++(List.replicate k its).flatten=a++(List.replicate (k+1) its).flatten:=by
    rw [List.replicate_succ,List.flatten_cons,List.append_assoc]
   rw [<-d,<-OB its k (a++its),<-e,List.replicate_succ,List.foldl_cons]
section
variable {X:Cx} {pins:d6} {σ:St} {H:Hp} {s:Shared} {l b:Addr} {xs ys zs:cW}
def Inv.lset {its its':cZ} {n:Nat} {f:Array Value->Array Value} {t':Nat} (I:Inv X pins σ H s) (d:H l^^^xs)
  (e:s.heap.get? l=some { cls:=.type "list", data:=.seq its.toArray n }) (g:f its.toArray=its'.toArray) (h:Vals ys its') (hz:@ys<=sizeLine) :
  Inv X pins σ (upd H l (.lst ys)) { s with heap:=s.heap.update l (Obj.mapSeq f),toks:=t' }:=by
 let q:=PySem.IsL.update e f;rw [g] at q;refine I.write (x:=l) (e:=l) (by rw [d];exact trivial) (.inl rfl) (λk u i j=>(Heap.get?_update_other s.heap (Obj.mapSeq f) (Ne.symm i)).trans j) {_,q} ?_;exact {hz,its',_,h,q}
def Inv.lnew {its:cZ} {t':Nat} (I:Inv X pins σ H s) (e:Vals ys its) (hz:@ys<=sizeLine) :
  Inv X pins σ (upd H ⇑s (.lst ys)) { s with heap:=s.heap.push { cls:=.type "list", data:=.seq its.toArray },toks:=t' }:=
 I.laid (λ_ _ q=>Heap.get?_push_of_some _ q) (AT _) {hz,its,0,e,Heap.get?_push_size _ rfl}
def Inv.fresh (I:Inv X pins σ H s):H ⇑s=none:=I.hok.fresh (AT _)
def Inv.lstM (I:Inv X pins σ H s) (a:H l^^^xs):@xs<=sizeLine/\∃ (its:cZ) (n:Nat),Vals xs its/\@xs=↑its/\s.heap.get? l=some { cls:=.type "list", data:=.seq its.toArray n }:=by
 let {z,its,n,r,e}:=I.hok l _ a;exact {z,its,n,r,@r,e}
def OC {n:Nat} (h:n<=sizeLine):Builtin.List.listTooLong n=false:=by
 unfold Builtin.List.listTooLong;exact nG `a
end
section
variable {X:Cx}
inductive ED(x:V)(b:cW)(H:Hp)(Q:VK):Prop
 |mk(l a y):x=.ref l->b=[y]->H l^^^a->@a<sizeLine->Q .non (upd H l (.lst (a++[y])))->ED x b H Q
def F6:MtM X "list.append" ED:=by
 intro b s i H x j v k Q I d f h;let {l,m,y,rfl,rfl,c,hz,q}:=h;cases d;let {u,rfl,g}:=f.one;let {z,a,n,r,o,e}:=I.lstM c;refine call_meets F.slot_list_append {_,e,2} F.entry_list_append (F.args_list_append_2 _ _) (PySem.list_append l a.toArray n u (by rw [BJ];omega)) {e,?_};refine {.non,_,I.lset (its':=a++[u]) c e (by simp) (r.append (.cons g .nil)) ?_,2,q};rw [Bf,List.length_singleton];omega
inductive Kw(x:V)(d:cW)(H:Hp)(Q:VK):Prop
 |mk(l b a c):x=.ref l->d=[.ref b]->H l^^^a->H b^^^c->@a+@c<=sizeLine->Q .non (upd H l (.lst (a++c)))->Kw x d H Q
def OD:MtM X "list.extend" Kw:=by
 intro g s B H x C v D Q I j k h;let {l,b,E,G,rfl,rfl,i,m,hz,q}:=h;cases j;let {u,rfl,o}:=k.one;cases o;let {z,c,n,r,J,e}:=I.lstM i;let {K,a,p,w,y,A}:=I.lstM m;let f:c.toArray.size+a.toArray.size<=sizeLine:=by rw [BJ,BJ];omega
 let d:¬ (!c.toArray.isEmpty && Builtin.List.listTooLong (c.toArray.size+a.toArray.size))=true:=by
  rw [OC f,Bool.and_false];exact C1
 refine call_meets F.slot_list_extend {_,e,2} F.entry_list_extend (F.args_list_extend_2 _ _)
  (AutoSeq1.list_extend_list_list_0 l c.toArray n b a.toArray p d (by rw [BJ];omega) `a) {e,A,?_}
 refine {.non,_,I.lset (its':=c++a) i e (by simp) (r.append w) ?_,2,q};rw [Bf];omega
inductive OE(x:V)(b:cW)(H:Hp)(Q:VK):Prop
 |mk(l a y):x=.ref l->b=[]->H l^^^a->a[@a - 1]?=some y->Q y (upd H l (.lst a.dropLast))->OE x b H Q
def Uy:MtM X "list.pop" OE:=by
 intro d s p H x w v A Q I g i h;let {l,B,y,rfl,rfl,f,j,q}:=h;cases g;let b:=i.zero;subst b;let {z,a,n,r,k,e}:=I.lstM f;let {u,m,o}:=r.get j
 let c:a.toArray[a.toArray.size - 1]?=some u:=by
  show a.toArray[@a - 1]?=some u;rw [<-Array.getElem?_toList,<-k];exact m
 refine call_meets F.slot_list_pop {_,e,2} F.entry_list_pop (F.args_list_pop_1 _) (MeetsSeq.list_pop_last l a.toArray n u c (by rw [BJ];omega)) {e,?_};refine {y,_,I.lset (its':=a.dropLast) f e ?_ r.dropLast ?_,o,q}
 .show a.toArray.eraseIdxIfInBounds (a.toArray.size - 1)=a.dropLast.toArray;rw [BJ,List.eraseIdxIfInBounds_toArray,Ux]
 .rw [List.length_dropLast];omega
inductive Go(x y:V)(H:Hp)(Q:VK):Prop
 |mk(l b a c):x=.ref l->y=.ref b->H l^^^a->H b^^^c->@a+@c<=sizeLine->(∀ p,H p=none->Q (.ref p) (upd H p (.lst (a++c))))->Go x y H Q
def JP:OpR X (binaryOp .Add) Go:=by
 intro d s w H x y v u Q I f g h;let {l,b,A,B,rfl,rfl,i,j,hz,q}:=h;cases f;cases g;let {z,c,n,r,C,e}:=I.lstM i;let {D,a,E,k,m,o}:=I.lstM j;refine PySem.P.add_list e o ?_ (by rw [BJ,BJ];omega);let p:c.toArray++a.toArray=(c++a).toArray:=by simp
 rw [p];exact {.ref _,_,I.lnew (t':=s.toks) (r.append k) (by rw [Bf];omega),2,q _ I.fresh}
inductive E9(x y:V)(H:Hp)(Q:VK):Prop
 |mk(l k a):x=.ref l->y=.int k->H l^^^a->-(2 ^ 63)<=k->k<2 ^ 63->@a*k.toNat<=sizeLine->(∀ p,H p=none->Q (.ref p) (upd H p (.lst (List.replicate k.toNat a).flatten)))->E9 x y H Q
theorem Uz {a:Type} (xs:List a) (k:Nat):(List.replicate k xs).flatten.length=k*@xs:=by
 induction k with
 | zero=>simp
 | succ k b=>rw [List.replicate_succ,List.flatten_cons,Bf,b,Nat.succ_mul,Nat.add_comm]
def FW:OpR X (binaryOp .Mult) E9:=by
 intro p s K H x y v u Q I w A h;let {l,k,L,rfl,rfl,B,C,D,hz,q}:=h;cases w;let {t,rfl}:=A;let {z,b,n,r,E,e}:=I.lstM B;let d:b.toArray.size*k.toNat<=sizeLine:=by rw [BJ,<-E];exact hz
 let f:¬ b.toArray.size*k.toNat > (2 ^ 63 - 1) / 8:=by
  have:(sizeLine:Nat)<=(2 ^ 63 - 1) / 8:=by decide
  omega
 let g:¬ (!Builtin.List.listFitsIndex k)=true:=by
  rw [fitsIndex_both C D];exact C1
 let c:¬ Builtin.List.listTooLong (b.toArray.size*k.toNat)=true:=by
  rw [OC d];exact C1
 let i:List.foldl (λj o=>j++o) #[] (List.replicate (if b.toArray.isEmpty=true then 0 else k.toNat) b.toArray)=(List.replicate k.toNat b).flatten.toArray:=by
  let G:∀ m:Nat,List.foldl (λj o=>j++o) #[] (List.replicate m b.toArray)=(List.replicate m b).flatten.toArray:=λm=>by
   have:=OB b m [];rw [List.nil_append] at this;exact this
  rw [G];cases b with
  | nil=>simp
  | cons a M=>rw [nB (by simp)]
 refine wpAny_binaryOp_repeat_ref (T := "list") (U := "int") `b {_,e,2} (λJ=>typeIs_int J k t) noFill_list_mul F.fills_int_mul F.slot_int_rmul repeat_list F.slot_int_index.lookup
  (call_meets F.slot_int_rmul (typeIs_int s k t) F.entry_int_rmul (F.args_int_rmul_2 _ _) (int___rmul___int_list k t l b.toArray n)
   {e,2,{_,e,2},call_meets F.slot_list_mul {_,e,2} F.entry_list_mul (F.args_list_mul_2 _ _) (AutoListH.list___mul___list_int_3 l b.toArray n k t g f c) {e,?_}})
 rw [i];exact {.ref _,_,I.lnew (t':=s.toks) (r.rep k.toNat) (by rw [Uz,Cq];exact hz),2,q _ I.fresh}
end
end L2
namespace Att
open PySem PySem.W PySem.Calls PyProof.Rows
theorem U0 {P:Params} {h:Heap}:∀ (ns:cY) (c:cZ),WellAll P h c (ns.map WData.int)->IntsAre c ns:=by
 intro ns
 induction ns with
 | nil=>
   intro c w;rw [List.map_nil] at w;cases w;exact .nil
 | cons n ns d=>
   intro c w;rw [List.map_cons] at w;cases w with
   | cons a b=>
     cases a;exact .cons _ _ (d _ b)
theorem U1 {l:OpenLaw} {n:Nat} (v:l.most=some n) {P:Params} {h:Heap} {b:List WData} {e:cZ}
  (f:l.row.toRowW.claim.pre b=true) (m:WellAll P h e b) :
  ∃ a p c,e=[Value.ref a]/\b=[WData.list (c.map WData.int)]/\h.get? a=some { cls:=.type "list", data:=.seq p.toArray }/\IntsAre p c/\@c<=n:=by
 let o:WShape.hasAll [] b [.list .int]=true:=(pre_splitW f).1;let u:l.pre.holds [] { args:=b }=true:=(pre_splitW f).2;let {d,r,rfl,w,x}:=hasAllW_cons o;obtain rfl:=hasAllW_nil x;let {D,rfl,y}:=hasW_list w;let {c,rfl}:=items_int y
 let g:@c<=n:=by
  unfold OpenLaw.pre at u
  let j:(WTm.not (.lt (.lit (.int (n:Int))) (.len (.arg 0)))).holds [] { args:=[.list (c.map .int)] }=true:=by
   let j:=(holds_andW u).1;rw [v] at j;exact j
  let k:=condW_of j (w_not (w_lt w_lit (w_len_list (w_arg rfl))));rw [AI] at k;refine Nat.le_of_not_lt λq=>?_;let z:(n:Int)<((@c:Nat):Int):=by omega
  first
   | (rw [nE z] at k;exact absurd k `b)
   | (simp at k;omega)
 cases m with
 | cons A B=>
   cases B;cases A with
   | list C i=>exact {9,c,7,C,U0 c _ i,g}
def U2 (l:OpenLaw) (a:List WData):l.row.toRowW.claim.post a (.bool true) a=true:=
 postW_of (r:=l.row.toRowW) (X:=(true == true))
  (show WShape.has [] (.bool true) .bool=true by first | rfl | decide | simp [WShape.has,WShape.arms,WShape.armsAll])
  (show (WTm.eq .res (.lit (.bool true))).value [] { args:=a,res:=some (.bool true),after:=a }=some (.bool (true == true)) from w_eq_bool (w_res rfl) w_lit) rfl
def attach_call {l:OpenLaw} {n:Nat} {q:Program} {loose:dd} {XP:(d8)->Heap->Prop} {YP:World->Heap->Prop} {d:DefRec}
  (F:l.most=some n) (v:d.params.defaults=[])
  (call:∀ (w:World) (b s₁:Shared) (m x:d8) (h:Addr) (o:Obj) (pm p c:Value) (a:Addr) (g:cZ) (ns:cY),
   Ground q loose [] XP w b m x s₁.heap->YP w s₁.heap->
   s₁.heap.get? h=some o->o.data=.func (docDef d.name d.params d.body d.scope pm p c)->s₁.heap.CodeRec p d.name->m d.name=↥h->
   s₁.heap.get? a=some { cls:=.type "list", data:=.seq g.toArray }->IntsAre g ns->@ns<=n->s₁.gens=#[]->
   codeAny (model l.prog w) callerA (.call (.ref h) ⟨[.ref a],[]⟩) (λr u=>r=.ok (.ret (.bool true))/\OldK s₁.heap u.heap/\u.os=s₁.os/\AllBare u.gens) s₁) :
  WalkO q loose XP YP l.row.toRowW d [] (λf g=>PySem.call f g):=by
 intro w b s₁ m x G Y h o pm p c H kV I J y B z K C D as i E L A M;obtain rfl:H=.none:=Dflts.none B v;obtain rfl:kV=.none:=Dflts.noKw B;let {a,g,ns,rfl,rfl,j,e,k}:=U1 F i A;refine enter_call (codeAny_mono (call w b s₁ m x h o pm p c a g ns G Y I (fd_plain J) y z j e k K) λr u N=>?_);let {rfl,O,P,Q}:=N;exact {.inl {.bool true,.bool true,[],2,λ_=>rfl,.bool true,U2 l _,λ_=>{List.Pairwise.nil,λ_ R=>(nomatch R)}},O,P,Q}
end Att
namespace L2
open PySem PySem.Spec PyProof.Rows
theorem Kx:∀ {a:cZ} {ns:cY},IntsAre a ns->Vals (~~~ns) a
 | _,_,.nil=>.nil
 | _,_,.cons n t h=>.cons ⟨t,rfl⟩ (Kx h)
def b7 (H:Hp):Prop:=∀ b,H b=none\/∃ o a,H b=some (.frz o (.lst a))
theorem U3 {P:Program} {w:World} {K:W.Frag} {E Z:d8} {CX:aE} {k:Nat} {fa a:Addr} {fd:FuncData} {x:Str} {sp:Sp} {s₁:Shared} {A:cZ} {ns:cY}
  (KX:K.In s₁.heap) (G:s₁.heap.Ns mainGlobals E) (i:s₁.heap.Ns builtinsNs Z) (a0:∀ x:Str,x ≠ "__name__" -> Z x=bootBuiltins x) (I:s₁.heap.NoLimit) (f:s₁.heap.NoSeer) (B:(model P w).prog.given.tree=none) (hg:s₁.gens=#[])
  (J:s₁.heap.get? a=some { cls:=.type "list", data:=.seq A.toArray }) (hi:IntsAre A ns) (hl:@ns<=sizeLine) (hr:Room k callerA)
  (F:∀ j:Heap,K.In j->j.Ns mainGlobals E->FnOk P w K E j CX k fa fd [x] sp) (C:∀ (s:Shared) (u:Value),BindsTo s fd ⟨[u],[]⟩ [(x,u)])
  (a3:∀ H:Hp,b7 H->SqL K H a (~~~ns)->sp [.ref a] H (λv _=>v=.bl true) λ_ _ _=>False)
  (a4:∀ H e p,CX [] H s₁ (λ_ _ _=>False) e p->False) :
  codeAny (model P w) callerA (.call (.ref fa) ⟨[.ref a],[]⟩) (λr p=>r=.ok (.ret (.bool true))/\OldK s₁.heap p.heap/\p.os=s₁.os/\AllBare p.gens) s₁:=by
 let rv:=Kx hi;let L:=@hi
 let y:∀ H:Hp,b7 H->SqL K H a (~~~ns)->HOk P w H s₁.heap->(∀ b,H b≠none->b=a)->(H a≠none->K.lookup a=none)->
   codeAny (model P w) callerA (.call (.ref fa) ⟨[.ref a],[]⟩) (λr p=>r=.ok (.ret (.bool true))/\OldK s₁.heap p.heap/\p.os=s₁.os/\AllBare p.gens) s₁:=by
  intro H hO hS M hA hK;let c:∀ {b:Addr} {o:Obj},s₁.heap.get? b=some o->H b=none->(El s₁.heap H).get? b=some o:=λe n=>UE e n
  let a5:∀ {b:Addr} {o:Obj} {N:Array DictEntry} {O:Nat},s₁.heap.get? b=some o->o.data=.dict N O->H b=none:=λ{b o N O} e d=>by
   cases q:H b with
   | none=>rfl
   | some u=>
     let Q:b=a:=hA b (by rw [q];simp);subst Q;rw [J] at e;cases e;let X:Data.seq A.toArray _=Data.dict N O:=d;cases X
  let g:∀ {b:Addr} {m:d8},s₁.heap.Ns b m->(El s₁.heap H).Ns b m:=λ{b m} ⟨o,N,O,e,d,r⟩=>{o,N,O,c e (a5 e d),d,r}
  let R:K.In (El s₁.heap H):=λb o e=>c (KX b o e) (by
   cases q:H b with
   | none=>rfl
   | some u=>
     let Q:b=a:=hA b (by rw [q];simp);subst Q;rw [hK (by rw [q];simp)] at e;cases e)
  let hM:Mod K E (El s₁.heap H):={R,g G,{Z,g i,a0},let ⟨D,h1,h2⟩:=I;⟨D,g h1,h2⟩}
  let a6:(El s₁.heap H).NoSeer:={let ⟨D,a,b⟩:=f.statics;⟨D,g a,b⟩,let ⟨D,a,b⟩:=f.mods;⟨D,g a,b⟩,let ⟨D,a,b⟩:=f.imp;⟨D,g a,b⟩,
   let ⟨a7,Y,ob,a',b',c',X,Q⟩:=f.main;⟨a7,Y,ob,g a',b',c c' (by
    cases q:H Y with
    | none=>rfl
    | some u=>
      let z:Y=a:=hA Y (by rw [q];simp);subst z;rw [J] at c';cases c';simp at X),X,Q⟩}
  let e0:Env0 P w K E (El s₁.heap H) callerA [] s₁ H:={2,hM,λb o e=>UF e,Nat.le_of_eq (UD _ _),trivial,λb i=>absurd (show b∈([]:de) from i) (by simp),M,.of_eq hg,a6,B};refine codeAny_mono ((F _ R (g G)).run callerA [] s₁ H {[.ref a],[]} [.ref a] [.ref a] _ _ hr e0 (C s₁ (.ref a)) (.cons rfl .nil) (a3 H hO hS)) λr p h=>?_;cases r with
  | error e=>exact (a4 H e p h).elim
  | ok fl=>
    cases fl with
    | next=>exact False.elim h
    | brk=>exact False.elim h
    | cont=>exact False.elim h
    | ret u=>
      let {v,H',os,S,un,T,r',q}:=h;let q':v=.bl true:=q;subst q';obtain rfl:u=Value.bool true:=r';refine {2,OldK.of_keep λb o e=>?_,os,S};cases q:H b with
      | none=>exact un.keep b o e q (by intro z;exact absurd (show b∈([]:de) from z) (by simp)) (by simp)
      | some u=>
        rcases hO b with z | ⟨ob,xs,z⟩
        .rw [q] at z;cases z
        .let z2:=un.frzs b ob _ z;let {e1,_}:=M b _ z;let {e2,_}:=T b _ z2;rw [e] at e1;cases e1;exact e2
 cases hk:K.lookup a with
 | some o=>
   let e:=KX a o hk;rw [J] at e;cases e;refine y (λ_=>none) (λ_=>.inl rfl) (.inr {_,A.toArray,_,hk,7,2,by rw [BJ,L];exact hl,by simpa using rv}) (λb u z=>by let U:(none:Option HO)=some u:=z;cases U) (λb z=>absurd rfl z) λz=>absurd rfl z
 | none=>
   refine y (λb=>if b=a then some (.frz { cls:=.type "list", data:=.seq A.toArray } (.lst (~~~ns))) else none) (λb=>?_) (.inl (.inr {{ cls:=.type "list", data:=.seq A.toArray },nC rfl})) (λb u z=>?_) (λb z=>?_) λ_=>hk
   .by_cases i:b=a
    .exact .inr {9,nC i}
    .exact .inl (nB i)
   .by_cases i:b=a
    .let U:=(nC i).symm.trans z;cases U;subst i;exact {J,by rw [AI];exact hl,A,_,rv,J}
    .let U:=(nB i).symm.trans z;cases U
   .by_cases i:b=a
    .exact i
    .exact absurd (nB i) z
def walk_of {l:W.OpenLaw} {n k:Nat} {q:Program} {loose:dd} {XP:(d8)->Heap->Prop} {YP:World->Heap->Prop} {d:DefRec} {K:Params->W.Frag} {CX:World->aE} {sp:World->Sp} {x:Str}
  (L:l.most=some n) (y:n<=sizeLine) (z:d.params.defaults=[]) (M:importsNone q=true) (g:∀ w,(model l.prog w).prog.given.tree=none) (N:Room k callerA)
  (O:∀ (w:World) (h:Heap),YP w h->(K w.params).In h)
  (F:∀ (w:World) (j:d8) (r:Addr) (h:Heap),(K w.params).In h->h.Ns mainGlobals j->j d.name=↥r->
   ∃ A:FuncData,(∀ (s:Shared) (u:Value),BindsTo s A ⟨[u],[]⟩ [(x,u)])/\
     ∀ b:Heap,(K w.params).In b->b.Ns mainGlobals j->FnOk l.prog w (K w.params) j b (CX w) k r A [x] (sp w))
  (B:∀ (w:World) (H:Hp) (a:Addr) (ns:cY),@ns<=n->b7 H->SqL (K w.params) H a (~~~ns)->sp w [.ref a] H (λv _=>v=.bl true) λ_ _ _=>False)
  (C:∀ (w:World) (H:Hp) (s:Shared) (e:Value) (s':Shared),CX w [] H s (λ_ _ _=>False) e s'->False) :
  W.WalkO q loose XP YP l.row.toRowW d [] (λf E=>PySem.call f E):=by
 refine Att.attach_call L z λw I m j Z r o pm cd P a E ns G Y ho hd Q D p i c R=>?_;let J:=O w _ Y;let {A,S,T}:=F w j r _ J G.T.g D;exact U3 J G.T.g G.T.b G.T.builtins G.T.nolimit (G.T.seer M) (g w) R p i (BW c y) N T S (λH U X=>B w H a ns c U X) λH e s'=>C w H m e s'
noncomputable def En (s:Stmt):Arguments:=match s with
 | .FunctionDef _ a _ _ _ _ _ _ _ _=>a
 | _=>{ posonlyargs:=[],args:=[],vararg:=none,kwonlyargs:=[],kw_defaults:=[],kwarg:=none,defaults:=[] }
noncomputable def EE (s:Stmt):List Stmt:=match s with
 | .FunctionDef _ _ b _ _ _ _ _ _ _=>b
 | _=>[]
noncomputable def C6 (s:Stmt):Scope:=match s with
 | .FunctionDef _ _ _ _ _ _ a _ _ _=>a
 | _=>{ kind:=.function,names:=[],isGenerator:=false,isCoroutine:=false }
abbrev aF:aE:=λ_ _ _ _ _ _=>False
abbrev E0:XK:=λ_ _ _=>False
def U4 {X:Cx}:ah aF X E0:=λ_ _ _ _ _ _ _ h=>h.elim
structure Fun (K:W.Frag) (x qual:Str) (st:Stmt) (f:Addr) (fd:FuncData):Prop where
 ex:∃ (oc:Value) (od:Option Addr) (kV doc pm:Value) (an:Option Addr) (cdv ct:Value) (osl:Array (Option Value)),
  fd=W.fnOf x qual (En st) (EE st) (C6 st) .none kV doc pm an cdv ct/\K.lookup f=some ⟨oc,od,.func fd,osl⟩/\W.codeIn K cdv qual=true
 kp:W.keepIn K (.ref f)=true
section
variable {P:Program} {w:World} {K:W.Frag} {mg:d8} {base:Heap}
def Fun.ok {x b:Str} {st:Stmt} {f:Addr} {j:FuncData} {N ps:dd} {k:Nat} {sp:Sp} (F:Fun K x b st f j) (S:FnScope N ps (C6 st)) (len:∀ d H Q E,sp d H Q E->@d=@ps)
  (e:∀ (c:Value) (A:Around) (a:List Env) (s:Shared) (H:Hp) (d:cW) (Q:VK) (E:XK),Room k (A.deeper (envOfC b (C6 st) ⇑s f c))->sp d H Q E->
   ∃ t,PSs (F5 aF P w K mg base N b (C6 st) f c A a s H E).nox (EE st) t/\t { nx:=λ_ m=>Q .non m,rt:=Q } (start N d) H):FnOk P w K mg base aF (k+1) f j ps sp:=by
 let {u,v,kV,n,y,z,c,B,o,rfl,p,g}:=F.ex;refine Uj p g S len λA a s H d Q E r i=>?_;let {t,h,q}:=e c A a s H d Q E r i;exact ⟨t,h.nox,q⟩
def Fun.binds {x a:Str} {st:Stmt} {f:Addr} {i:FuncData} {ps:dd} (F:Fun K x a st f i)
  (h:∀ (kV b pm:Value) (d:Option Addr) (c e:Value) (g:cZ),@g=@ps->bindArgs (W.fnOf x a (En st) (EE st) (C6 st) .none kV b pm d c e) ⟨g,[]⟩=pure (ps.zip g)):Binds K i ps []:=by
 let {m,n,kV,b,pm,d,c,e,j,rfl,o,k}:=F.ex;exact .all (h kV b pm d c e)
def U5 {x a:Str} {st:Stmt} {f:Addr} {i:Value} {j g:Option Addr} {e:Array (Option Value)} {kV d pm b h:Value} (l:K.lookup f=some ⟨i,j,.func (W.fnOf x a (En st) (EE st) (C6 st) .none kV d pm g b h),e⟩)
  (c:W.codeIn K b a=true) (k:W.keepIn K (.ref f)=true):Fun K x a st f (W.fnOf x a (En st) (EE st) (C6 st) .none kV d pm g b h):={⟨i,j,kV,d,pm,g,b,h,e,rfl,l,c⟩,k}
end
section
variable {X:Cx}
def pv (i:Nat) {x:Str} {a:Pos} (c:X.N[i]?=some x:=by rfl) (d:bV X.env.scope x:=by first | exact Or.inl rfl | exact Or.inr (Or.inl rfl) | exact Or.inr (Or.inr rfl)) (e:(x == ("__debug__" : Str))=false:=by decide)
  (b:(x == ("__classdict__" : Str))=false:=by decide):PE X (.Name x a) (AA i):=UH c d e b
end
def Ab {c A B:Prop} [Decidable c] (a:c->A) (b:¬ c->B):if c then A else B:=by
 by_cases h:c
 .rw [nC h];exact a h
 .rw [nB h];exact b h
def Same (H a:Hp):Prop:=∀ b o,H b=some o->a b=some o
def Same.refl (H:Hp):Same H H:=λ_ _ h=>h
def Same.trans {H d e:Hp} (a:Same H d) (b:Same d e):Same H e:=λc o h=>b c o (a c o h)
theorem Same.free {H a:Hp} (e:Same H a) {l:Addr} (h:a l=Option.none):H l=Option.none:=by
 cases q:H l with
 | none=>rfl
 | some o=>
   rw [e l o q] at h;cases h
def Same.seq {K:W.Frag} {H b:Hp} {a:Addr} {xs:cW} (e:Same H b) (h:SqL K H a xs):SqL K b a xs:=by
 rcases h with (h | ⟨o,h⟩) | h
 .exact .inl (.inl (e _ _ h))
 .exact .inl (.inr {o,e _ _ h})
 .exact .inr h
end L2
local macro_rules | `(tactic| omega)=>`(tactic| lia)
namespace Bs.Hd
open PySem PySem.Spec PyProof.Rows L2
set_option maxRecDepth 100000
noncomputable def top (i:Nat):Stmt:=PySem.Challenge.pw_backslope_k19_factors_that_meet.main.body.getD i (.Pass ⟨0,0,0,0⟩)
abbrev U6:Stmt:=top 2
abbrev U7:Stmt:=top 3
abbrev U8:Stmt:=top 4
abbrev U9:Stmt:=top 5
abbrev VA:Stmt:=top 6
abbrev VB:Stmt:=top 7
abbrev VC:Stmt:=top 8
abbrev VD:Stmt:=top 9
abbrev VE:Stmt:=top 10
abbrev VF:Stmt:=top 11
abbrev VG:Stmt:=top 12
abbrev VH:Stmt:=top 13
abbrev VI:Stmt:=top 14
abbrev VJ:Stmt:=top 15
abbrev VL:Stmt:=top 16
abbrev VM:Stmt:=top 17
abbrev VN:Stmt:=top 18
abbrev VO:Stmt:=top 19
abbrev VP:Stmt:=top 20
abbrev VQ:Stmt:=top 21
abbrev VR:Stmt:=top 22
abbrev VS:Stmt:=top 23
abbrev VT:Stmt:=top 24
abbrev VU:Stmt:=top 25
abbrev VV:Stmt:=top 26
abbrev VW:Stmt:=top 27
abbrev VX:Stmt:=top 28
abbrev VY:Stmt:=top 29
abbrev VZ:Stmt:=top 30
abbrev Va:Stmt:=top 31
abbrev Vb:Stmt:=top 32
abbrev Vc:Stmt:=top 33
abbrev Vd:Stmt:=top 34
abbrev Ve:Stmt:=top 36
abbrev Vf:Stmt:=top 38
abbrev Vg:Stmt:=top 39
abbrev Vh:Stmt:=top 40
abbrev Vi:Stmt:=top 42
abbrev Vj:Stmt:=top 43
abbrev Vk:Stmt:=top 44
abbrev Vl:Stmt:=top 45
abbrev Vm:Stmt:=top 46
abbrev Vn:Stmt:=top 47
abbrev Vo:Stmt:=top 48
abbrev Vp:Stmt:=top 50
abbrev Vq:Stmt:=top 51
abbrev Vr:Stmt:=top 52
abbrev Vs:Stmt:=top 53
abbrev Vt:Stmt:=top 54
abbrev Vu:Stmt:=top 55
abbrev Vv:Stmt:=top 56
abbrev Vw:Stmt:=top 57
abbrev Vx:Stmt:=top 58
abbrev Vy:Stmt:=top 59
abbrev Vz:Stmt:=top 60
abbrev V0:Stmt:=top 61
abbrev V1:Stmt:=top 62
abbrev JQ:Stmt:=top 63
abbrev N:Value:=.none
abbrev S (x:Str) (t:Tok):Value:=.str x t
abbrev I (i:Int):Value:=.int i 0
abbrev R (a:Addr):Value:=.ref a
noncomputable def G_ (P:Params) (k:Str) (t:Tok) (v:Value):DictEntry:={PyData.keyHash P k,.str k t,v}
noncomputable def J_ (n:Str) (t:Tok) (l c u:Int) (a:Addr) (b g d e f:Value) (x:Int) (y:Tok):Obj:={.type "code", none,.fields #[S n t,S n (t+1),S "/claim/cut.py" (t+2),I l,I c,I 0,I 0,I u,R a,.bool true,I 181,b,g,d,e,f,I x,I l,S "/claim/cut.py" y],#[]}
noncomputable def H_ (n:Str) (s:Stmt) (pm:Value) (c:Addr):Obj:={.type "function", none,.func (W.fnOf n n (En s) (EE s) (C6 s) .none .none .none pm none (.ref c) .none),#[]}
abbrev G':Value:=S "backslope.wholes" 187
abbrev mo1:Value:=S "backslope.polys" 487
abbrev bJ:Value:=S "backslope.linear" 495
abbrev aw:Value:=S "backslope.parts" 516
abbrev Sr:Value:=S "law_backslope_k19_factors_that_meet" 582
noncomputable def hp (P:Params):W.Frag:=[
 (3,{.type "dict", none,.dict #[G_ P "__name__" 165 (S "law_backslope_k19_factors_that_meet" 582),G_ P "__doc__" 166 N,G_ P "__package__" 167 N,G_ P "__loader__" 168 (.builtin "__main__.__loader__#opaque"),G_ P "__spec__" 169 N,G_ P "__annotations__" 170 (R 6),G_ P "__builtins__" 171 (R 4),G_ P "__file__" 173 (S "/claim/cut.py" 172),G_ P "__cached__" 174 N,G_ P "EXPONENTS" 197 (R 15),G_ P "common_divisor" 206 (R 22),G_ P "raised" 216 (R 29),G_ P "is_prime" 224 (R 36),G_ P "prime_after" 232 (R 43),G_ P "content" 238 (R 48),G_ P "row_trimmed" 246 (R 55),G_ P "row_parted" 252 (R 60),G_ P "row_times" 265 (R 67),G_ P "row_slope" 271 (R 72),G_ P "row_over" 285 (R 79),G_ P "root_exponent" 295 (R 86),G_ P "row_less" 301 (R 91),G_ P "row_moved" 312 (R 98),G_ P "strand_rest" 318 (R 103),G_ P "strand_shortened" 324 (R 108),G_ P "row_shortened" 331 (R 115),G_ P "strand_euclid" 340 (R 122),G_ P "inverse_modulo" 354 (R 129),G_ P "rests_modulo" 360 (R 134),G_ P "row_modulo" 368 (R 141),G_ P "monic_modulo" 374 (R 146),G_ P "split_modulo" 389 (R 153),G_ P "rest_modulo" 398 (R 160),G_ P "euclid_modulo" 408 (R 167),G_ P "inverse_rest" 414 (R 172),G_ P "lifted" 431 (R 179),G_ P "reduced_modulo" 437 (R 184),G_ P "swapped" 447 (R 191),G_ P "row_cleared" 453 (R 196),G_ P "nearest" 462 (R 203),G_ P "common_by_prime" 468 (R 208),G_ P "row_common" 480 (R 215),G_ P "simple_row" 486 (R 220),G_ P "cleared" 494 (R 225),G_ P "width_of" 503 (R 232),G_ P "crossed" 509 (R 237),G_ P "picked_column" 515 (R 242),G_ P "meets" 523 (R 247),G_ P "likely_meets" 529 (R 252),G_ P "stays_simple" 537 (R 259),G_ P "factors_modulo" 550 (R 266),G_ P "seeds_modulo" 556 (R 271),G_ P "seed_at" 568 (R 278),G_ P "pieces_modulo" 581 (R 285),G_ P "_law_hand" 591 (R 292),G_ P "_law_draw" 603 (R 299),G_ P "_law_lowest" 613 (R 306),G_ P "_law_row_times" 626 (R 313),G_ P "_law_poly_of" 632 (R 318),G_ P "_law_rootless" 642 (R 325),G_ P "_law_scale" 649 (R 332),G_ P "_law_monic_of" 655 (R 337),G_ P "_law_moved" 666 (R 344),G_ P "_law_factor" 676 (R 351),G_ P "_law_product" 686 (R 358),G_ P "_law_shift" 704 (R 365),G_ P "_law_lists" 710 (R 370),G_ P "law" 716 (R 375)] 68,#[]}),
 (15,{.type "tuple", none,.seq #[(.int 61 189),(.int 127 190),(.int 521 191),(.int 1279 192),(.int 4423 193),(.int 9941 194),(.int 21701 195),(.int 44497 196)] 0,#[]}),
 (21,J_ "common_divisor" 198 3 2 3 16 (R 17) N (R 18) (R 19) (R 20) 204 205),
 (22,H_ "common_divisor" (top 2) G' 21),
 (28,J_ "raised" 207 9 2 3 23 (R 24) N (R 25) (R 26) (R 27) 214 215),
 (29,H_ "raised" (top 3) G' 28),
 (35,J_ "is_prime" 217 19 1 3 30 (R 31) N (R 32) (R 33) (R 34) 222 223),
 (36,H_ "is_prime" (top 4) G' 35),
 (42,J_ "prime_after" 225 26 1 3 37 (R 38) N (R 39) (R 40) (R 41) 230 231),
 (43,H_ "prime_after" (top 5) G' 42),
 (47,J_ "content" 233 31 2 3 44 (R 45) N N N (R 46) 236 237),
 (48,H_ "content" (top 6) G' 47),
 (54,J_ "row_trimmed" 239 38 1 3 49 (R 50) N (R 51) (R 52) (R 53) 244 245),
 (55,H_ "row_trimmed" (top 7) G' 54),
 (59,J_ "row_parted" 247 43 2 3 56 (R 57) N N N (R 58) 250 251),
 (60,H_ "row_parted" (top 8) G' 59),
 (66,J_ "row_times" 253 45 2 3 61 (R 62) N (R 63) (R 64) (R 65) 263 264),
 (67,H_ "row_times" (top 9) G' 66),
 (71,J_ "row_slope" 266 54 1 3 68 (R 69) N N N (R 70) 269 270),
 (72,H_ "row_slope" (top 10) G' 71),
 (78,J_ "row_over" 272 56 2 3 73 (R 74) N (R 75) (R 76) (R 77) 283 284),
 (79,H_ "row_over" (top 11) G' 78),
 (85,J_ "root_exponent" 286 69 1 3 80 (R 81) N (R 82) (R 83) (R 84) 293 294),
 (86,H_ "root_exponent" (top 12) G' 85),
 (90,J_ "row_less" 296 76 5 3 87 (R 88) N N N (R 89) 299 300),
 (91,H_ "row_less" (top 13) G' 90),
 (97,J_ "row_moved" 302 82 2 3 92 (R 93) N (R 94) (R 95) (R 96) 310 311),
 (98,H_ "row_moved" (top 14) G' 97),
 (102,J_ "strand_rest" 313 88 2 3 99 (R 100) N N N (R 101) 316 317),
 (103,H_ "strand_rest" (top 15) G' 102),
 (107,J_ "strand_shortened" 319 98 1 3 104 (R 105) N N N (R 106) 322 323),
 (108,H_ "strand_shortened" (top 16) G' 107),
 (114,J_ "row_shortened" 325 103 1 3 109 (R 110) N (R 111) (R 112) (R 113) 329 330),
 (115,H_ "row_shortened" (top 17) G' 114),
 (121,J_ "strand_euclid" 332 105 2 3 116 (R 117) N (R 118) (R 119) (R 120) 338 339),
 (122,H_ "strand_euclid" (top 18) G' 121),
 (128,J_ "inverse_modulo" 341 113 2 3 123 (R 124) N (R 125) (R 126) (R 127) 352 353),
 (129,H_ "inverse_modulo" (top 19) G' 128),
 (133,J_ "rests_modulo" 355 127 2 3 130 (R 131) N N N (R 132) 358 359),
 (134,H_ "rests_modulo" (top 20) G' 133),
 (140,J_ "row_modulo" 361 129 2 3 135 (R 136) N (R 137) (R 138) (R 139) 366 367),
 (141,H_ "row_modulo" (top 21) G' 140),
 (145,J_ "monic_modulo" 369 131 2 3 142 (R 143) N N N (R 144) 372 373),
 (146,H_ "monic_modulo" (top 22) G' 145),
 (152,J_ "split_modulo" 375 136 3 3 147 (R 148) N (R 149) (R 150) (R 151) 387 388),
 (153,H_ "split_modulo" (top 23) G' 152),
 (159,J_ "rest_modulo" 390 147 3 3 154 (R 155) N (R 156) (R 157) (R 158) 396 397),
 (160,H_ "rest_modulo" (top 24) G' 159),
 (166,J_ "euclid_modulo" 399 149 3 3 161 (R 162) N (R 163) (R 164) (R 165) 406 407),
 (167,H_ "euclid_modulo" (top 25) G' 166),
 (171,J_ "inverse_rest" 409 157 3 3 168 (R 169) N N N (R 170) 412 413),
 (172,H_ "inverse_rest" (top 26) G' 171),
 (178,J_ "lifted" 415 174 4 3 173 (R 174) N (R 175) (R 176) (R 177) 429 430),
 (179,H_ "lifted" (top 27) G' 178),
 (183,J_ "reduced_modulo" 432 188 2 3 180 (R 181) N N N (R 182) 435 436),
 (184,H_ "reduced_modulo" (top 28) G' 183),
 (190,J_ "swapped" 438 204 3 3 185 (R 186) N (R 187) (R 188) (R 189) 445 446),
 (191,H_ "swapped" (top 29) G' 190),
 (195,J_ "row_cleared" 448 209 4 3 192 (R 193) N N N (R 194) 451 452),
 (196,H_ "row_cleared" (top 30) G' 195),
 (202,J_ "nearest" 454 214 2 3 197 (R 198) N (R 199) (R 200) (R 201) 460 461),
 (203,H_ "nearest" (top 31) G' 202),
 (207,J_ "common_by_prime" 463 217 3 3 204 (R 205) N N N (R 206) 466 467),
 (208,H_ "common_by_prime" (top 32) G' 207),
 (214,J_ "row_common" 469 226 2 3 209 (R 210) N (R 211) (R 212) (R 213) 478 479),
 (215,H_ "row_common" (top 33) G' 214),
 (219,J_ "simple_row" 481 235 1 3 216 (R 217) N N N (R 218) 484 485),
 (220,H_ "simple_row" (top 34) G' 219),
 (224,J_ "cleared" 489 240 1 3 221 (R 222) N N N (R 223) 492 493),
 (225,H_ "cleared" (top 36) mo1 224),
 (231,J_ "width_of" 497 246 1 3 226 (R 227) N (R 228) (R 229) (R 230) 501 502),
 (232,H_ "width_of" (top 38) bJ 231),
 (236,J_ "crossed" 504 248 1 3 233 (R 234) N N N (R 235) 507 508),
 (237,H_ "crossed" (top 39) bJ 236),
 (241,J_ "picked_column" 510 250 2 3 238 (R 239) N N N (R 240) 513 514),
 (242,H_ "picked_column" (top 40) bJ 241),
 (246,J_ "meets" 518 253 2 3 243 (R 244) N N N (R 245) 521 522),
 (247,H_ "meets" (top 42) aw 246),
 (251,J_ "likely_meets" 524 259 2 3 248 (R 249) N N N (R 250) 527 528),
 (252,H_ "likely_meets" (top 43) aw 251),
 (258,J_ "stays_simple" 530 275 2 3 253 (R 254) N (R 255) (R 256) (R 257) 535 536),
 (259,H_ "stays_simple" (top 44) aw 258),
 (265,J_ "factors_modulo" 538 277 2 3 260 (R 261) N (R 262) (R 263) (R 264) 548 549),
 (266,H_ "factors_modulo" (top 45) aw 265),
 (270,J_ "seeds_modulo" 551 287 2 3 267 (R 268) N N N (R 269) 554 555),
 (271,H_ "seeds_modulo" (top 46) aw 270),
 (277,J_ "seed_at" 557 299 3 3 272 (R 273) N (R 274) (R 275) (R 276) 566 567),
 (278,H_ "seed_at" (top 47) aw 277),
 (284,J_ "pieces_modulo" 569 305 3 3 279 (R 280) N (R 281) (R 282) (R 283) 579 580),
 (285,H_ "pieces_modulo" (top 48) aw 284),
 (291,J_ "_law_hand" 584 317 1 3 286 (R 287) N (R 288) (R 289) (R 290) 589 590),
 (292,H_ "_law_hand" (top 50) Sr 291),
 (298,J_ "_law_draw" 592 320 2 3 293 (R 294) N (R 295) (R 296) (R 297) 601 602),
 (299,H_ "_law_draw" (top 51) Sr 298),
 (305,J_ "_law_lowest" 604 333 2 3 300 (R 301) N (R 302) (R 303) (R 304) 611 612),
 (306,H_ "_law_lowest" (top 52) Sr 305),
 (312,J_ "_law_row_times" 614 340 2 3 307 (R 308) N (R 309) (R 310) (R 311) 624 625),
 (313,H_ "_law_row_times" (top 53) Sr 312),
 (317,J_ "_law_poly_of" 627 346 2 3 314 (R 315) N N N (R 316) 630 631),
 (318,H_ "_law_poly_of" (top 54) Sr 317),
 (324,J_ "_law_rootless" 633 348 2 3 319 (R 320) N (R 321) (R 322) (R 323) 640 641),
 (325,H_ "_law_rootless" (top 55) Sr 324),
 (331,J_ "_law_scale" 643 353 1 3 326 (R 327) N (R 328) (R 329) (R 330) 647 648),
 (332,H_ "_law_scale" (top 56) Sr 331),
 (336,J_ "_law_monic_of" 650 355 1 3 333 (R 334) N N N (R 335) 653 654),
 (337,H_ "_law_monic_of" (top 57) Sr 336),
 (343,J_ "_law_moved" 656 357 2 3 338 (R 339) N (R 340) (R 341) (R 342) 664 665),
 (344,H_ "_law_moved" (top 58) Sr 343),
 (350,J_ "_law_factor" 667 364 3 3 345 (R 346) N (R 347) (R 348) (R 349) 674 675),
 (351,H_ "_law_factor" (top 59) Sr 350),
 (357,J_ "_law_product" 677 373 2 3 352 (R 353) N (R 354) (R 355) (R 356) 684 685),
 (358,H_ "_law_product" (top 60) Sr 357),
 (364,J_ "_law_shift" 687 378 2 3 359 (R 360) N (R 361) (R 362) (R 363) 702 703),
 (365,H_ "_law_shift" (top 61) Sr 364),
 (369,J_ "_law_lists" 705 393 1 3 366 (R 367) N N N (R 368) 708 709),
 (370,H_ "_law_lists" (top 62) Sr 369),
 (374,J_ "law" 711 413 1 3 371 (R 372) N N N (R 373) 714 715),
 (375,H_ "law" (top 63) Sr 374)]
noncomputable def as:de:=[3,15,21,22,28,29,35,36,42,43,47,48,54,55,59,60,66,67,71,72,78,79,85,86,90,91,97,98,102,103,107,108,114,115,121,122,128,129,133,134,140,141,145,146,152,153,159,160,166,167,171,172,178,179,183,184,190,191,195,196,202,203,207,208,214,215,219,220,224,225,231,232,236,237,241,242,246,247,251,252,258,259,265,266,270,271,277,278,284,285,291,292,298,299,305,306,312,313,317,318,324,325,331,332,336,337,343,344,350,351,357,358,364,365,369,370,374,375]
noncomputable def vw:Program:=W.view PySem.Challenge.pw_backslope_k19_factors_that_meet [63]
noncomputable def lo:dd:=(["EXPONENTS","common_divisor","raised","is_prime","prime_after","content","row_trimmed","row_parted","row_times","row_slope","row_over","root_exponent","row_less","row_moved","strand_rest","strand_shortened","row_shortened","strand_euclid","inverse_modulo","rests_modulo","row_modulo","monic_modulo","split_modulo","rest_modulo","euclid_modulo"]:dd)++(["inverse_rest","lifted","reduced_modulo","swapped","row_cleared","nearest","common_by_prime","row_common","simple_row","cleared","width_of","crossed","picked_column","meets","likely_meets","stays_simple","factors_modulo","seeds_modulo","seed_at","pieces_modulo","_law_hand","_law_draw","_law_lowest","_law_row_times","_law_poly_of"]:dd)++(["_law_rootless","_law_scale","_law_monic_of","_law_moved","_law_factor","_law_product","_law_shift","_law_lists"]:dd)
noncomputable def hk:W.Hook:=W.kHook hp as (λ_=>by kernel_rfl)
def left:W.LeftO PySem.Challenge.pw_backslope_k19_factors_that_meet vw lo (λs=>W.xlAt vw [] s && W.recOk (W.RowW.records (W.OpenRow.toRowW (W.OpenLaw.row PySem.Challenge.rw_backslope_k19_factors_that_meet))) s) hk.obs hk.val 3734:=λw=>by kernel_rfl
def sd:PySem.Challenge.rw_backslope_k19_factors_that_meet.wellSaid=true:=by decide +kernel
end Bs.Hd
namespace Bs
def Bd (n:Nat) (x:Int):Prop:=x.natAbs<2 ^ n
def Bd.mono {m n:Nat} {x:Int} (h:Bd m x) (a:m<=n):Bd n x:=BZ h (C2 `b a)
def Bd.le {n:Nat} {x y:Int} (h:Bd n x) (a:y.natAbs<=x.natAbs):Bd n y:=Cr a h
def Bd.neg {n:Nat} {x:Int} (h:Bd n x):Bd n (-x):=by unfold Bd at *;rw [Int.natAbs_neg];exact h
def Bd.add {n:Nat} {x y:Int} (h:Bd n x) (h':Bd n y):Bd (n+1) (x+y):=by
 unfold Bd at *;have:=Int.natAbs_add_le x y;rw [Cg];omega
def Bd.sub {n:Nat} {x y:Int} (h:Bd n x) (h':Bd n y):Bd (n+1) (x - y):=by
 rw [Int.sub_eq_add_neg];exact h.add h'.neg
def Bd.mul {m n:Nat} {x y:Int} (h:Bd m x) (h':Bd n y):Bd (m+n) (x*y):=by
 unfold Bd at *;rw [BK,Nat.pow_add];exact Nat.mul_lt_mul'' h h'
def V2 {x:Int} (a:-18446744073709551616<x) (b:x<18446744073709551616):Bd 64 x:=by
 unfold Bd;have:(2:Nat) ^ 64=18446744073709551616:=by decide
 rw [this];omega
def Bd.log2 {n:Nat} {x:Int} (h:Bd n x) (a:0<n):x.natAbs.log2<n:=by
 unfold Bd at h;rcases Dx x.natAbs with b | hp
 .rw [b];simpa using a
 .exact (Nat.log2_lt (Nat.ne_of_gt hp)).mpr h
structure Low (t d:Int):Prop where
 pos:0<d
 one:Int.gcd t d=1
def OF (a b:Int):Int.gcd b (a.fmod b)=Int.gcd a b:=by
 let e:a.fmod b=a - b*a.fdiv b:=Int.fmod_def a b;rw [e];apply Nat.dvd_antisymm
 .apply Int.dvd_gcd
  .let f:=E4 b (a - b*a.fdiv b);let g:=EK b (a - b*a.fdiv b);let d:=DC g (Fv (c:=a.fdiv b) f);rw [Int.sub_add_cancel] at d;exact d
  .exact E4 b _
 .apply Int.dvd_gcd
  .exact EK a b
  .exact Int.dvd_sub (E4 a b) (Fv (EK a b))
def Ky (a:Int) {b:Int} (h:0<=b):Int.gcd b (a % b)=Int.gcd a b:=by
 rw [<-Int.fmod_eq_emod_of_nonneg a h,OF]
def V3 (a:Int) {b:Int} (h:b≠0):(a.fmod b).natAbs<b.natAbs:=by
 rcases Int.lt_or_gt_of_ne h with d | d
 .rw [Int.fmod_eq_emod];let e:=B3 a h;let f:=Int.emod_lt a h;split
  .rename_i c;rcases c with c | c
   .omega
   .have:a % b=0:=Fw c;omega
  .rename_i c;have:a % b≠0:=λz=>c (.inr (FP z));omega
 .rw [Int.fmod_eq_emod_of_nonneg a (DQ d)];let e:=B3 a h;let f:=CM a d;omega
def Kz {a b s:Int} (m:b≠0) (j:s=if b<0 then -((Int.gcd a b:Nat):Int) else ((Int.gcd a b:Nat):Int)) :
  s≠0/\s.natAbs<=b.natAbs/\Low (a.fdiv s) (b.fdiv s)/\a.fdiv s*b=a*b.fdiv s/\(a.fdiv s).natAbs<=a.natAbs/\(b.fdiv s).natAbs<=b.natAbs:=by
 let w:0<Int.gcd a b:=Int.gcd_pos_of_ne_zero_right a m;let e:s.natAbs=Int.gcd a b:=by rw [j];split <;> simp
 let k:s≠0:=by intro z;rw [z] at e;simp at e;omega
 let p:s∣a:=by
  rw [<-Int.natAbs_dvd,e];exact E4 a b
 let q:s∣b:=by
  rw [<-Int.natAbs_dvd,e];exact EK a b
 let {t,rfl}:=p;let {d,rfl}:=q;rw [Int.mul_fdiv_cancel_left _ k,Int.mul_fdiv_cancel_left _ k];let n:d≠0:=by rintro rfl;simp at m
 let o:1<=s.natAbs:=by omega
 let r:Int.gcd t d=1:=by
  rw [Int.gcd_mul_left] at e;let u:s.natAbs*Int.gcd t d=s.natAbs*1:=by omega
  exact Nat.eq_of_mul_eq_mul_left o u
 let v:0<d:=by
  by_cases h:s*d<0
  .rw [nC h] at j;let f:s<0:=by omega
   rcases Int.lt_or_gt_of_ne n with c | c
   .have:=Int.mul_pos_of_neg_of_neg f c;omega
   .exact c
  .rw [nB h] at j;let g:0<s:=by omega
   rcases Int.lt_or_gt_of_ne n with c | c
   .have:=Int.mul_neg_of_pos_of_neg g c;omega
   .exact c
 let i:∀ y:Int,y.natAbs<=(s*y).natAbs:=λy=>by
  rw [BK];exact Gb _ o
 refine {k,?_,⟨v,r⟩,?_,i t,i d}
 .rw [BK];exact Gc _ `a
 .ext
def K1 {a b:Int} (f:0<b):Low (a / ((Int.gcd a b:Nat):Int)) (b / ((Int.gcd a b:Nat):Int))/\(a / ((Int.gcd a b:Nat):Int)).natAbs<=a.natAbs/\(b / ((Int.gcd a b:Nat):Int)).natAbs<=b.natAbs/\0<((Int.gcd a b:Nat):Int)/\((Int.gcd a b:Nat):Int)<=b:=by
 let g:0<Int.gcd a b:=Int.gcd_pos_of_ne_zero_right a `a;let {_,h,c,i,d,e}:=Kz (a:=a) (b:=b) (s:=((Int.gcd a b:Nat):Int)) `a (by rw [nB `a]);rw [Ei _ `a,Ei _ `a] at c;rw [Ei _ `a] at d e;exact {c,d,e,`a,`a}
end Bs
namespace Bs
open PySem L2
def K2 (_ j:Int):Prop:=0<j/\Bd 9000 j
abbrev A8:R2:=Z_ λi j=>.int (i+j)
abbrev Ax:R2:=Z_ λi j=>.int (i - j)
abbrev A7:R2:=rI IntMulOk λi j=>.int (i*j)
abbrev Gp:R2:=rI K2 λi j=>.int (i / j)
abbrev CZ:R2:=rI (λ_ j=>0<j) λi j=>.int (i % j)
abbrev OG:R2:=rI (λ_ j=>j≠0) λi j=>.int (i.fmod j)
abbrev bK:R2:=Z_ λi j=>.bl (decide (i<j))
abbrev iLe:R2:=Z_ λi j=>.bl (decide (i<=j))
abbrev az:R2:=Z_ λi j=>.bl (decide (j<i))
abbrev iGe:R2:=Z_ λi j=>.bl (decide (j<=i))
abbrev Bz:V->Hp->VK->Prop:=rU λi=>.int (-i)
inductive gT(x y:V)(H:Hp)(Q:VK):Prop
 |mk(p i a v):x=.ref p->y=.int i->H p&&&a->M' a i=some v->Q v H->gT x y H Q
def pS {x:V} {y:V} {H:Hp} {Q:VK}:gT x y H Q=∃ p i h v,x=.ref p/\y=.int i/\H p&&&h/\M' h i=some v/\Q v H:=propext {λ⟨a,a1,a2,b,c,d,e,f,g⟩=>⟨a,a1,a2,b,c,d,e,f,g⟩,λ⟨a,a1,a2,b,c,d,e,f,g⟩=>⟨a,a1,a2,b,c,d,e,f,g⟩}
inductive gL(x y:V)(H:Hp)(Q:VK):Prop
 |mk(p i a v):x=.ref p->y=.int i->H p^^^a->M' a i=some v->Q v H->gL x y H Q
def pU {x:V} {y:V} {H:Hp} {Q:VK}:gL x y H Q=∃ p i h v,x=.ref p/\y=.int i/\H p^^^h/\M' h i=some v/\Q v H:=propext {λ⟨a,a1,a2,b,c,d,e,f,g⟩=>⟨a,a1,a2,b,c,d,e,f,g⟩,λ⟨a,a1,a2,b,c,d,e,f,g⟩=>⟨a,a1,a2,b,c,d,e,f,g⟩}
def FX:cW->Hp->VK->Prop:=λa H Q=>∃ i,a=[.int i]/\Q (.int (if i<0 then -i else i)) H
def F7:cW->Hp->VK->Prop:=λa H Q=>∃ i j,a=[.int i,.int j]/\Q (.int (if j > i then j else i)) H
def K3:cW->Hp->VK->Prop:=λa H Q=>∃ k,a=[.bl k]/\Q (.int (if k=true then 1 else 0)) H
inductive JR(xs:cW)(H:Hp)(Q:VK):Prop
 |mk(p a):xs=[.ref p]->H p&&&a->Q (.int @a) H->JR xs H Q
inductive Ao(xs:cW)(H:Hp)(Q:VK):Prop
 |mk(p a):xs=[.ref p]->H p^^^a->Q (.int @a) H->Ao xs H Q
def pV {xs:cW} {H:Hp} {Q:VK}:Ao xs H Q=∃ p d,xs=[.ref p]/\H p^^^d/\Q (.int @d) H:=propext {λ⟨a,a1,a2,b,c⟩=>⟨a,a1,a2,b,c⟩,λ⟨a,a1,a2,b,c⟩=>⟨a,a1,a2,b,c⟩}
noncomputable def Hk:Option HO->String->Option Bool
 | some (.tup _),n=>if n = "tuple" then some true else if n = "bool" \/ n = "int" \/ n = "list" then some false else none
 | some (.lst _),n=>if n = "list" then some true else if n = "bool" \/ n = "int" \/ n = "tuple" then some false else none
 | _,_=>none
noncomputable def FY (H:Hp):V->String->Option Bool
 | .int _,n=>if n = "int" then some true else if n = "bool" \/ n = "tuple" \/ n = "list" then some false else none
 | .bl _,n=>if n = "int" \/ n = "bool" then some true else if n = "tuple" \/ n = "list" then some false else none
 | .ref p,n=>Hk (H p) n
 | _,_=>none
inductive OH(xs:cW)(H:Hp)(Q:VK):Prop
 |mk(x n b):xs=[x,.ty n]->FY H x n=some b->Q (.bl b) H->OH xs H Q
def pW (H:Hp) (i:Int):FY H (.int i) "int" = some true:=rfl
def pX (H:Hp) (i:Int):FY H (.int i) "bool" = some false:=rfl
def pY (H:Hp) (b:Bool):FY H (.bl b) "bool" = some true:=rfl
def ForR (lo:Int) (n:Nat) (g:TG) (f:TS) (D:Ends) (a:St) (H:Hp):Prop:=∃ W:Nat->Nat->St->Hp->Prop,(∃ m,W 0 m a H)/\∀ i m a H,W i m a H->
 ((Y' lo n).stop i H/\D.nx a H)\/((Y' lo n).go i H/\∃ N:St->Hp->Prop,(∀ b c,N b c->∃ e,e<m/\W (i+1) e b c)/\∀ x c,(Y' lo n).yld i H x c->g x a c λd h=>f { D with nx:=N,ct:=N,bk:=D.nx } d h)
def pZ {b:TA} {g:TG} {c:TS} {D:Ends} {a:St} {H:Hp}:A4 (DG b) g c D a H=b a H (λd e=>∃ j:Int,d=[.int j]/\-(2 ^ 62)<=j/\j<2 ^ 62/\ForR 0 j.toNat g c D a e):=rfl
def oA {b:TA} {g:TG} {c:TS} {D:Ends} {a:St} {H:Hp}:A4 (F4 b) g c D a H=b a H (λd e=>∃ i j:Int,d=[.int i,.int j]/\(-(2 ^ 62)<=i/\i<2 ^ 62/\-(2 ^ 62)<=j/\j<2 ^ 62)/\ForR i (j - i).toNat g c D a e):=rfl
def ForR.by {lo:Int} {n:Nat} {g:TG} {c:TS} {D:Ends} {a:St} {H:Hp} (Pv:Nat->St->Hp->Prop) (d:Pv 0 a H)
  (e:∀ i a H,i<n->Pv i a H->g (.int (lo+i)) a H λb f=>c { D with nx:=Pv (i+1),ct:=Pv (i+1),bk:=D.nx } b f) (h:∀ a H,Pv n a H->D.nx a H):ForR lo n g c D a H:=UR Pv d e h
def ForT (K:W.Frag) (a:Addr) (g:TG) (h:TS) (D:Ends) (b:St) (H:Hp):Prop:=∃ W:Nat->Nat->St->Hp->Prop,(∃ m,W 0 m b H)/\∀ i m b H,W i m b H->
 ((aK K a).stop i H/\D.nx b H)\/((aK K a).go i H/\∃ N:St->Hp->Prop,(∀ c d,N c d->∃ f,f<m/\W (i+1) f c d)/\∀ x d,(aK K a).yld i H x d->g x b d λe j=>h { D with nx:=N,ct:=N,bk:=D.nx } e j)
def ForL (K:W.Frag) (a:Addr) (g:TG) (h:TS) (D:Ends) (b:St) (H:Hp):Prop:=∃ W:Nat->Nat->St->Hp->Prop,(∃ m,W 0 m b H)/\∀ i m b H,W i m b H->
 ((ag K a).stop i H/\D.nx b H)\/((ag K a).go i H/\∃ N:St->Hp->Prop,(∀ c d,N c d->∃ f,f<m/\W (i+1) f c d)/\∀ x d,(ag K a).yld i H x d->g x b d λe j=>h { D with nx:=N,ct:=N,bk:=D.nx } e j)
def oB {K:W.Frag} {c:TE} {g:TG} {d:TS} {D:Ends} {b:St} {H:Hp}:A4 (Gk K c) g d D b H=c b H (λx e=>∃ a,x=.ref a/\(∃ f,SqT K e a f)/\ForT K a g d D b e):=rfl
def oC {K:W.Frag} {c:TE} {g:TG} {d:TS} {D:Ends} {b:St} {H:Hp}:A4 (A5 K c) g d D b H=c b H (λx e=>∃ a,x=.ref a/\(∃ f,SqL K e a f)/\ForL K a g d D b e):=rfl
def ForT.by {K:W.Frag} {a:Addr} {xs:cW} {g:TG} {d:TS} {D:Ends} {b:St} {H:Hp} (Pv:Nat->St->Hp->Prop) (e:Pv 0 b H) (f:∀ i b H,i<=@xs->Pv i b H->H a&&&xs)
  (j:∀ i x b H,xs[i]?=some x->Pv i b H->g x b H λc k=>d { D with nx:=Pv (i+1),ct:=Pv (i+1),bk:=D.nx } c k) (m:∀ b H,Pv @xs b H->D.nx b H):ForT K a g d D b H:=
 Nj Pv e (λi b H h p=>SqT.of (f i b H h p)) j m
def ForL.by {K:W.Frag} {a:Addr} {xs:cW} {g:TG} {d:TS} {D:Ends} {b:St} {H:Hp} (Pv:Nat->St->Hp->Prop) (e:Pv 0 b H) (f:∀ i b H,i<=@xs->Pv i b H->SqL K H a xs)
  (h:∀ i x b H,xs[i]?=some x->Pv i b H->g x b H λc j=>d { D with nx:=Pv (i+1),ct:=Pv (i+1),bk:=D.nx } c j) (k:∀ b H,Pv @xs b H->D.nx b H):ForL K a g d D b H:=
 UQ Pv e f h k
def while_by {c:TT} {e:TS} {D:Ends} {a:St} {H:Hp} (W:Nat->St->Hp->Prop) (m:Nat) (i:W m a H)
  (j:∀ m a H,W m a H->c a H λb f=>if b=true then ∃ N:St->Hp->Prop,(∀ d g,N d g->∃ h,h<m/\W h d g)/\e { D with nx:=N,ct:=N,bk:=D.nx } a f else D.nx a f):Cu c e D a H:={W,⟨m,i⟩,j}
def V4 {t u:TS} {D:Ends} {a:St} {H:Hp} (h:t { D with nx:=u D } a H):AF t u D a H:=h
def Kp (p:Addr) (H a:Hp):Prop:=∀ b o,b≠p->H b=some o->a b=some o
def Kp.trans {p:Addr} {H d e:Hp} (a:Kp p H d) (b:Kp p d e):Kp p H e:=λc o n h=>b c o n (a c o n h)
def Kp.same {p:Addr} {H d e:Hp} (a:Kp p H d) (b:Same d e):Kp p H e:=λc o n h=>b c o (a c o n h)
def Kp.of_same {p:Addr} {H a:Hp} (b:Same H a):Kp p H a:=λc o _ h=>b c o h
def Kp.upd {p:Addr} {H:Hp} {o:HO}:Kp p H (upd H p o):=λb u n h=>by rw [Ai n];exact h
def AO {H:Hp} {p:Addr} (h:H p=none) (o:HO):Same H (upd H p o):=λb u q=>by rw [Ai (Aq q h)];exact q
def sz {n:Nat} (h:n<=1000000):n<=sizeLine:=by rw [sizeLine_eq];omega
def oD {c:Type} (a b:c):M' [a,b] 0=some a:=rfl
def oE {c:Type} (a b:c):M' [a,b] 1=some b:=rfl
def oF {d:Type} (a b c:d):M' [a,b,c] 0=some a:=rfl
def oG {d:Type} (a b c:d):M' [a,b,c] 1=some b:=rfl
def oH {d:Type} (a b c:d):M' [a,b,c] 2=some c:=rfl
def oI (a b:Int):scal (.int a) (.int b)=true:=rfl
def oJ (a b:Bool):scal (.bl a) (.bl b)=true:=rfl
def oK:aa 3 0=some 0:=rfl
def oM:aa 3 2=some 2:=rfl
end Bs
namespace Bs
open PySem PySem.Spec PyProof.Rows L2
def F8:bootBuiltins "abs" = some (.builtin "abs"):=by decide +kernel
def Au:bootBuiltins "len" = some (.builtin "len"):=by decide +kernel
def F9:bootBuiltins "max" = some (.builtin "max"):=by decide +kernel
def V5:bootBuiltins "min" = some (.builtin "min"):=by decide +kernel
def OI:bootBuiltins "isinstance" = some (.builtin "isinstance"):=by decide +kernel
def V6:bootBuiltins "all" = some (.builtin "all"):=by decide +kernel
def JS:bootBuiltins "sum" = some (.builtin "sum"):=by decide +kernel
def K4:bootBuiltins "int" = some (.type "int"):=by decide +kernel
def OJ:bootBuiltins "tuple" = some (.type "tuple"):=by decide +kernel
def GA:bootBuiltins "list" = some (.type "list"):=by decide +kernel
def V7:bootBuiltins "enumerate" = some (.type "enumerate"):=by decide +kernel
def V8:bootBuiltins "zip" = some (.type "zip"):=by decide +kernel
def V9:bootBuiltins "reversed" = some (.type "reversed"):=by decide +kernel
section
variable {X:Cx}
def OK {n:Nat} {x:Int} (h:Bd n x):Builtin.Int.intBits x<=n:=by
 unfold Builtin.Int.intBits;split
 .exact AV _
 .rename_i a
  let b:x.natAbs≠0:=λz=>a (by let e:x=0:=by omega
                              subst e;rfl)
  have:=(Nat.log2_lt b).mpr h;omega
def BF:OpR X (binaryOp .Mult) A7:=b6 λ_ _ _ _ _ _ _ a q=>mul_int q a
def JT:OpR X (inplaceOp .Mult) A7:=b6 λ_ _ _ _ _ _ _ a q=>imul_int q a
def K5:OpR X (binaryOp .FloorDiv) Gp:=b6 λi j _ _ _ _ _ a q=>by
 refine floordiv_int (BL a.1) ?_ (.inl (PyProof.noPylong_of_log2 (a.2.log2 `b)));rw [Ei i (DQ a.1)];exact q
def CF:bH X gT:=by
 intro a b c s d H x y v u Q I e f h g;let {p,i,j,w,k,m,hp,n,q}:=h;exact Uq a b c s d H x y v u Q I e f {p,j,i,w,k,m,SqT.of hp,n,q} g
def Ag:bH X gL:=by
 intro a b c s d H x y v u Q I e f h g;let {p,i,j,w,k,m,hp,n,q}:=h;exact Up a b c s d H x y v u Q I e f {p,j,i,w,k,m,SqL.of hp,n,q} g
def GB:CW X (.builtin "abs") FX:=UY
def Gr (a:X.calm=true):CW X (.builtin "max") F7:=UZ a
def OL:CW X (.type "int") K3:=λa s b H c d Q I r h=>Ua a s b H c d Q I r (.inr h)
def K6:CW X (.builtin "len") JR:=λa s b H c d Q I r h=>by
 let {p,f,e,hp,q}:=h;exact N9 a s b H c d Q I r {p,f,e,.inr (SqT.of hp),q}
def Av:CW X (.builtin "len") Ao:=λa s b H c d Q I r h=>by
 let {p,f,e,hp,q}:=h;exact N9 a s b H c d Q I r {p,f,e,.inl (SqL.of hp),q}
def WA (K:W.Frag):W.kitOne K (.type "int") (.type "bool")=some false:=by kernel_rfl
def WB (K:W.Frag):W.kitOne K (.type "int") (.type "tuple")=some false:=by kernel_rfl
def WC (K:W.Frag):W.kitOne K (.type "int") (.type "list")=some false:=by kernel_rfl
def WD (K:W.Frag):W.kitOne K (.type "bool") (.type "int")=some true:=by kernel_rfl
def WE (K:W.Frag):W.kitOne K (.type "bool") (.type "tuple")=some false:=by kernel_rfl
def WF (K:W.Frag):W.kitOne K (.type "bool") (.type "list")=some false:=by kernel_rfl
def WG (K:W.Frag):W.kitOne K (.type "tuple") (.type "bool")=some false:=by kernel_rfl
def WH (K:W.Frag):W.kitOne K (.type "tuple") (.type "int")=some false:=by kernel_rfl
def WI (K:W.Frag):W.kitOne K (.type "tuple") (.type "list")=some false:=by kernel_rfl
def WJ (K:W.Frag):W.kitOne K (.type "list") (.type "bool")=some false:=by kernel_rfl
def WK (K:W.Frag):W.kitOne K (.type "list") (.type "int")=some false:=by kernel_rfl
def WL (K:W.Frag):W.kitOne K (.type "list") (.type "tuple")=some false:=by kernel_rfl
def JU (K:W.Frag) (n:String):W.kitOne K (.type n) (.type n)=some true:=by
 unfold W.kitOne;rw [nC (beq_self_eq_true _)]
theorem WM {H:Hp} {x:V} {n:String} {b:Bool} (K:W.Frag) (h:FY H x n=some b):∃ t,TyOf K H x t/\W.kitOne K t (.type n)=some b:=by
 cases x with
 | int i=>
   refine {_,.int i,?_};unfold FY at h;dsimp only at h;split at h
   .rename_i e;cases h;subst e;exact JU K _
   .split at h
    .rename_i e;cases h;rcases e with rfl | rfl | rfl
     .exact WA K
     .exact WB K
     .exact WC K
    .cases h
 | bl i=>
   refine {_,.bl i,?_};unfold FY at h;dsimp only at h;split at h
   .rename_i e;cases h;rcases e with rfl | rfl
    .exact WD K
    .exact JU K _
   .split at h
    .rename_i e;cases h;rcases e with rfl | rfl
     .exact WE K
     .exact WF K
    .cases h
 | ref p=>
   let a:Hk (H p) n=some b:=h;cases e:H p with
   | none=>rw [e] at a;cases a
   | some o=>
     rw [e] at a;cases o with
     | tup c=>
       refine {_,.tup e,?_};unfold Hk at a;dsimp only at a;split at a
       .rename_i e;cases a;subst e;exact JU K _
       .split at a
        .rename_i e;cases a;rcases e with rfl | rfl | rfl
         .exact WG K
         .exact WH K
         .exact WI K
        .cases a
     | lst c=>
       refine {_,.lst e,?_};unfold Hk at a;dsimp only at a;split at a
       .rename_i e;cases a;subst e;exact JU K _
       .split at a
        .rename_i e;cases a;rcases e with rfl | rfl | rfl
         .exact WJ K
         .exact WK K
         .exact WL K
        .cases a
     | _=>cases a
 | _=>cases h
def WN:CW X (.builtin "isinstance") OH:=λc s j H m o Q I r h=>by
 let {x,n,b,rfl,e,q}:=h;let {u,d,rfl,f,rn}:=vals2 r;let a:d=Value.type n:=rn;subst a;let {t,g,k}:=WM X.K e;exact Ud I f g k λi=>{.bl b,H,I.tok i,2,q}
end
structure Cal (P:Program) (w:World) (K:W.Frag) (mg:d8) (base:Heap) (n:Nat) (x:Str) (ps:dd) (sp:Sp):Prop where
 ex:∃ (f:Addr) (fd:FuncData),FnOk P w K mg base aF n f fd ps sp/\Binds K fd ps []/\W.keepIn K (.ref f)=true/\mg x=↥f
def Cal.pe {X:Cx} {n m:Nat} {x:Str} {ps:dd} {sp:Sp} {e:Expr} {a:dc} {t:TA} {p c:Pos} (C:Cal X.prog X.w X.K X.mg X.base n x ps sp) (h:Room m X.A) (i:n<=m) (j:Gl X x) (o:PA X (e::a) t)
  (d:(x == ("__debug__" : Str))=false:=by decide) (q:starEach (e::a) X.env=(false,eval e X.env)::starEach a X.env:=by rfl) (g:(backTo c (starEach a X.env)).any (·.1)=false:=by rfl) :
  PE X (.Call (.Name x p) (e::a) [] c) (AL sp [] E0 t):=by
 let {f,r,F,b,k,m}:=C.ex;exact Uf F (h.mono i) j m k b .nil U4 o d q g
end Bs
namespace Bs
open PySem L2
noncomputable def Ca (capt:List (Option Nat)) (a:L2.St):L2.St:=capt.map λo=>o.bind λj=>(a[j]?).join
def A9 (e:TI) (capt:List (Option Nat)) (g:TG) (f:TE):TE:=λc H Q=>e c H λJ h=>∃ (n:Nat) (W:Nat->cW->Hp->Prop),W 0 [] h/\∀ i a H,W i a H->i<=n/\@a<=sizeLine/\
 ((J.stop i H/\∀ p,H p=none->Q (.ref p) (upd H p (.lst a)))\/(i<n/\J.go i H/\∀ x d,J.yld i H x d->g x (Ca capt c) d λb j=>f b j λy k=>W (i+1) (a++[y]) k))
def CompJ (J:It) (capt:List (Option Nat)) (g:TG) (d:TE) (e:L2.St) (Q:VK) (f:Hp):Prop:=∃ (n:Nat) (W:Nat->cW->Hp->Prop),W 0 [] f/\∀ i a H,W i a H->i<=n/\@a<=sizeLine/\
 ((J.stop i H/\∀ p,H p=none->Q (.ref p) (upd H p (.lst a)))\/(i<n/\J.go i H/\∀ x c,J.yld i H x c->g x (Ca capt e) c λb h=>d b h λy j=>W (i+1) (a++[y]) j))
section
variable {K:W.Frag} {ta:TA} {tl:TE} {capt:List (Option Nat)} {g:TG} {te:TE} {σ:L2.St} {H:Hp} {Q:VK}
def oN:A9 (DG ta) capt g te σ H Q=ta σ H (λa b=>∃ j:Int,a=[.int j]/\-(2 ^ 62)<=j/\j<2 ^ 62/\CompJ (Y' 0 j.toNat) capt g te σ Q b):=rfl
def oO:A9 (F4 ta) capt g te σ H Q=ta σ H (λa b=>∃ i j:Int,a=[.int i,.int j]/\(-(2 ^ 62)<=i/\i<2 ^ 62/\-(2 ^ 62)<=j/\j<2 ^ 62)/\CompJ (Y' i (j - i).toNat) capt g te σ Q b):=rfl
def oP:A9 (Gk K tl) capt g te σ H Q=tl σ H (λx b=>∃ a,x=.ref a/\(∃ c,SqT K b a c)/\CompJ (aK K a) capt g te σ Q b):=rfl
def oQ:A9 (A5 K tl) capt g te σ H Q=tl σ H (λx b=>∃ a,x=.ref a/\(∃ c,SqL K b a c)/\CompJ (ag K a) capt g te σ Q b):=rfl
def CompJ.range {lo:Int} {n:Nat} (W:Nat->cW->Hp->Prop) (d:W 0 [] H) (b:∀ i a H,W i a H->i<=n/\@a<=sizeLine)
  (f:∀ i a H,i<n->W i a H->g (.int (lo+i)) (Ca capt σ) H λc j=>te c j λy k=>W (i+1) (a++[y]) k) (m:∀ a H,W n a H->∀ p,H p=none->Q (.ref p) (upd H p (.lst a))):CompJ (Y' lo n) capt g te σ Q H:=by
 refine {n,W,d,λi a H w=>{(b i a H w).1,(b i a H w).2,?_}};by_cases h:i<n
 .refine .inr {h,h,λx o y=>?_};let {e,y}:=y;subst e y;exact f i a _ h w
 .let e:i=n:=Nat.le_antisymm (b i a H w).1 (Nat.not_lt.mp h);subst e;exact .inl {AT _,m a H w}
def CompJ.tup {a:Addr} {xs:cW} (W:Nat->cW->Hp->Prop) (f:W 0 [] H) (c:∀ i b H,W i b H->i<=@xs/\@b<=sizeLine/\H a&&&xs)
  (j:∀ i x b H,xs[i]?=some x->W i b H->g x (Ca capt σ) H λd k=>te d k λy m=>W (i+1) (b++[y]) m) (n:∀ b H,W @xs b H->∀ p,H p=none->Q (.ref p) (upd H p (.lst b))):CompJ (aK K a) capt g te σ Q H:=by
 refine {@xs,W,f,λi b H w=>{(c i b H w).1,(c i b H w).2.1,?_}};let q:SqT K H a xs:=SqT.of (c i b H w).2.2;by_cases h:i<@xs
 .refine .inr {h,{xs,xs[i],q,by simp [h]},λx o y=>?_};let {e,y}:=y;subst e;exact j i x b _ (y xs q) w
 .let e:i=@xs:=Nat.le_antisymm (c i b H w).1 (Nat.not_lt.mp h);subst e;exact .inl {{xs,q,AT _},n b H w}
def CompJ.lst {a:Addr} {xs:cW} (W:Nat->cW->Hp->Prop) (f:W 0 [] H) (c:∀ i b H,W i b H->i<=@xs/\@b<=sizeLine/\SqL K H a xs)
  (j:∀ i x b H,xs[i]?=some x->W i b H->g x (Ca capt σ) H λd k=>te d k λy m=>W (i+1) (b++[y]) m) (n:∀ b H,W @xs b H->∀ p,H p=none->Q (.ref p) (upd H p (.lst b))):CompJ (ag K a) capt g te σ Q H:=by
 refine {@xs,W,f,λi b H w=>{(c i b H w).1,(c i b H w).2.1,?_}};let q:SqL K H a xs:=(c i b H w).2.2;by_cases h:i<@xs
 .refine .inr {h,{xs,xs[i],q,by simp [h]},λx o y=>?_};let {e,y}:=y;subst e;exact j i x b _ (y xs q) w
 .let e:i=@xs:=Nat.le_antisymm (c i b H w).1 (Nat.not_lt.mp h);subst e;exact .inl {{xs,q,AT _},n b H w}
end
noncomputable def Hl (K:W.Frag) (a:Addr):It:=
 {λi H=>∃ b x,SqL K H a b/\b[i]?=some x,λi H v c=>∃ p x,H p=none/\v=.ref p/\c=upd H p (.tup [.int i,x])/\∀ b,SqL K H a b->b[i]?=some x,λi H=>∃ b,SqL K H a b/\@b<=i}
def FZ (K:W.Frag) (c:TA):TI:=λd H R=>c d H λe b=>∃ a,e=[.ref a]/\(∃ f,SqL K b a f)/\R (Hl K a) b
def ForJ (J:It) (g:TG) (f:TS) (D:Ends) (a:L2.St) (H:Hp):Prop:=∃ W:Nat->Nat->L2.St->Hp->Prop,(∃ m,W 0 m a H)/\∀ i m a H,W i m a H->
 (J.stop i H/\D.nx a H)\/(J.go i H/\∃ N:L2.St->Hp->Prop,(∀ b c,N b c->∃ e,e<m/\W (i+1) e b c)/\∀ x c,J.yld i H x c->g x a c λd h=>f { D with nx:=N,ct:=N,bk:=D.nx } d h)
section
variable {K:W.Frag} {ta:TA} {g:TG} {tb:TS} {D:Ends} {σ:L2.St} {H:Hp} {a:Addr} {xs:cW}
def oR:A4 (FZ K ta) g tb D σ H=ta σ H (λc b=>∃ a,c=[.ref a]/\(∃ xs,SqL K b a xs)/\ForJ (Hl K a) g tb D σ b):=rfl
def oS {capt:List (Option Nat)} {b:TE} {Q:VK}:A9 (FZ K ta) capt g b σ H Q=ta σ H (λd c=>∃ a,d=[.ref a]/\(∃ xs,SqL K c a xs)/\CompJ (Hl K a) capt g b σ Q c):=rfl
def ForJ.enumL (Pv:Nat->L2.St->Hp->Prop) (d:Pv 0 σ H) (f:∀ i σ H,i<=@xs->Pv i σ H->SqL K H a xs)
  (h:∀ i x p σ H,xs[i]?=some x->Pv i σ H->H p=none->g (.ref p) σ (upd H p (.tup [.int i,x])) λb j=>tb { D with nx:=Pv (i+1),ct:=Pv (i+1),bk:=D.nx } b j) (k:∀ σ H,Pv @xs σ H->D.nx σ H):ForJ (Hl K a) g tb D σ H:=by
 refine {λi m σ H=>m=@xs - i/\i<=@xs/\Pv i σ H,{@xs,by simp,AV _,d},?_};rintro i m σ H ⟨rfl,n,pv⟩;let q:=f i σ H n pv;by_cases c:i<@xs
 .refine .inr {{xs,xs[i],q,by simp [c]},Pv (i+1),λo r u=>{@xs - (i+1),`a,2,c,u},λx r y=>?_};let {p,v,hp,rfl,rfl,y}:=y;exact h i v p σ _ (y xs q) pv hp
 .let e:i=@xs:=by omega
  subst e;exact .inl {{xs,q,AT _},k σ H pv}
end
end Bs
namespace Bs
open PySem PySem.Spec PyProof.Rows L2
section
variable {X:Cx} {pins:d6} {σ:L2.St} {H:Hp} {s:Shared} {N:dd} {capt:List (Option Nat)} {scope:Scope} {cl:List (Str×Addr)} {C:Addr} {fp:de}
theorem JV {a b:Type} [BEq a] [LawfulBEq a]:∀ {l:List (a×b)} {y:a} {c:b},l.lookup y=some c->(y,c)∈l
 | (k,v)::l,y,c,h=>by
   rw [List.lookup_cons] at h;cases e:y == k with
   | true=>
     rw [e] at h;cases h;rw [eq_of_beq e];exact BX ..
   | false=>
     rw [e] at h;exact Br _ (JV h)
end
open PySem.AutoSeq1 (wpAny_loadPart')
section
variable {X:Cx} {pins:d6} {σ:L2.St} {H:Hp} {s:Shared}
def WO {e f:Addr} {g:Heap} {tk:Nat} {xs:cW} {its:cZ} (I:Inv X pins σ H s) (i:Dl X pins H e) (j:Dl X pins H f) (k:∀ b o,b≠e->b≠f->s.heap.get? b=some o->g.get? b=some o)
  (hz:@xs<=sizeLine) (x:Vals xs its) (A:g.get? ⇑s=some { cls:=.type "tuple", data:=.seq its.toArray }):Inv X pins σ (upd H ⇑s (.tup xs)) { s with heap:=g,toks:=tk }:=by
 let B:H ⇑s=none:=I.hok.fresh (AT _);let p:∀ b o,s.heap.get? b=some o->b≠⇑s:=λb o q=>BQ (nO q);let tr:∀ b u,H b=some u->b≠⇑s/\b≠e/\b≠f:=λb u q=>{Aq q B,Aq q i.1,Aq q j.1};let a:∀ b,b∉[e,f]->b≠e/\b≠f:=λb h=>{λz=>h (by simp [z]),λz=>h (by simp [z])}
 refine I.step (g':=s.gens) (d':=s.drawn) (ch:=[e,f]) (λb h=>?_) (λb o _ _ d q _=>k b o (a b d).1 (a b d).2 q) (λb o _ _ d q _=>{o.slots,k b o (a b d).1 (a b d).2 q}) (λb o _ q n=>?_) (λb o d q=>{o,k b o (a b d).1 (a b d).2 q})
  (λb C q=>?_) (λb o u q=>?_) (λb ps q=>{#[],?_}) (λm D=>?_) (λb u q=>?_) I.bare
 .let z:b=e\/b=f:=by simpa using h
  rcases z with rfl | rfl
  .exact ⟨i.2.2.2.1,i.2.1,i.2.2.2.2.1,i.2.2.2.2.2⟩
  .exact ⟨j.2.2.2.1,j.2.1,j.2.2.2.2.1,j.2.2.2.2.2⟩
 .rw [Ai (p b o q)];exact n
 .rw [Ai (tr b _ q).1];exact q
 .rw [Ai (tr b _ q).1];exact q
 .rw [Ai (tr b _ q).1,q];simp
 .let ⟨o,E,F,G,J⟩:=D;exact {o,E,F,k _ o i.2.1.symm j.2.1.symm G,J}
 .by_cases h:b=⇑s
  .subst h;rw [upd_same] at q;cases q;exact {hz,its,x,{_,A,2,1}}
  .rw [Ai h] at q;refine (I.hok b u q).stay (λc v d z=>?_) (λc z=>by rw [Ai (tr c _ z).1];exact z) λc C z=>by rw [Ai (tr c _ z).1];exact z
   rcases d with y | y
   .subst y;exact k _ v (tr _ u q).2.1 (tr _ u q).2.2 z
   .exact k c v (tr c _ y).2.1 (tr c _ y).2.2 z
end
def WP {P:Program} {w:World} {K:W.Frag} {y:dc} {k:Nat} {F:Pos} (a e m:Addr) (T:e≠m):Turn P w K (.Tuple y k F) (Hl K a) [e,m] e (λi h=>(∃ f,IsEnum h e m i f)/\h.IsListIter m a i) where
 mem:=by simp
 obj:=λi h n b r=>by
  let {{f,j},o,G,c,d}:=n
  let z:b=e\/b=m:=by simpa using r
  rcases z with rfl | rfl
  .exact {_,j,λv z=>nomatch z}
  .exact {o,G,λv z=>by rw [d] at z;cases z}
 keep:=λi h h' n U=>{let ⟨f,j⟩:=n.1;⟨f,U e (by simp) _ j⟩,n.2.at λo q=>U m (by simp) o q}
 item:=by
  intro X J L M Y i A s σ H E I B n N
  subst J L M
  let {Z,x,D,O}:=N
  let {{f,j},si}:=n
  let {C,Q,p,hz}:=I.list D
  let {u,hu,ru}:=Q.get O
  refine wpAny_pyNext_enum_item j si p.isList (x:=u) (by simpa using hu) T λg eo gi gt _ gk=>?_
  refine {1,wpAny_letOwnedTupleGo_enum eo λg' R S=>?_}
  let I1:=WO (g:=g') (tk:=s.toks+1) (xs:=[.int i,x]) (its:=[.int i s.toks,u]) I (B e (by simp)) (B m (by simp)) (λb o h1 h2 q=>S.extBut b o h1 (gk b o h1 h2 q)) (sz (by simp)) (.cons {1} (.cons ru .nil)) (S.extBut _ _ (Nat.ne_of_gt (nO j)) gt)
  refine {.ref ⇑s,_,I1,2,{_,x,I.hok.fresh (AT _),7,λys hy=>by rw [I.list_inj hy D];exact O},{{_,by simpa using R},gi.at λo q=>S.extBut m o T.symm q},λb r=>?_}
  rw [Ai]
  .exact (B b r).1
  .let z:b=e\/b=m:=by simpa using r
   rcases z with rfl | rfl
   .exact BQ (nO j)
   .let {o,G,_}:=si;exact BQ (nO G)
 done:=by
  intro X J L M Y i A s σ H E I B n N
  subst J L M
  let {Z,D,O}:=N
  let {{f,j},si}:=n
  let {C,Q,p,hz}:=I.list D
  let {f0,f1,f2,f3,f4,f5}:=B m (by simp)
  let hl:=@Q
  exact wpAny_pyNext_enum_end (I.ok.hd Y) j si p.isList (by simp;omega) λg eb=>{2,I.turned (t':=s.toks) (λb o r q=>eb b o r q) f0 f1 f3 f4 f5}
 self:=λ_ _ _ _ _ n h=>let ⟨_,j⟩:=n.1;wpAny_pyIter_enum j h
section
variable {X:Cx} {elts:dc} {k:Nat} {tpos:Pos} {a:Expr} {ta:TA} {p pos:Pos}
def Hn (o:Gl X "enumerate") (r:X.mg "enumerate" = none) (v:PA X [a] ta) (w:starEach [a] X.env=[(false,eval a X.env)]:=by rfl):PI X (.Tuple elts k tpos) (.Call (.Name "enumerate" p) [a] [] pos) (FZ X.K ta):=by
 intro d s i H R I h;refine Call_ (Dj I o r V7 (PyProof.Rows.callWith_type1 (F_ (v pos d s i H _ I h) λJ e ⟨K,j,f,x,y⟩=>?_) w rfl));let {b,rfl,{L,A},q}:=y;let {u,rfl,B}:=DW x;cases B;let {C,M,D,hz}:=f.list A;refine call_enumerate_list D.isList λg m si _ E=>?_;let F:Inv X d i j { e with heap:=g }:=f.kept (t':=e.toks) E;refine wpAny_pyIter_enum m {_,[⇑e+1,⇑e],9,j,2,F,WP b _ _ (Nat.succ_ne_self _),{{_,m},si},λc G=>?_,q};let z:c=⇑e+1\/c=⇑e:=by simpa using G
 rcases z with rfl | rfl
 .exact f.fpOk (Dd _) (f.hok.fresh (Dd _))
 .exact f.fpOk (AT _) (f.hok.fresh (AT _))
end
end Bs
namespace Bs
open PySem L2
mutual
inductive RepD (H:Hp):V->W.Dat->Prop
 | non:RepD H .non .none
 | int (i:Int):RepD H (.int i) (.int i)
 | tup {p:Addr} {xs:cW} {ds:List W.Dat} (h:H p&&&xs) (r:RepA H xs ds):RepD H (.ref p) (.tuple ds)
 | lst {p:Addr} {xs:cW} {ds:List W.Dat} (h:H p^^^xs) (r:RepA H xs ds):RepD H (.ref p) (.list ds)
inductive RepA (H:Hp):cW->List W.Dat->Prop
 | nil:RepA H [] []
 | cons {x:V} {xs:cW} {d:W.Dat} {ds:List W.Dat} (h:RepD H x d) (r:RepA H xs ds):RepA H (x::xs) (d::ds)
end
def eqD:R2:=λx y H Q=>∃ (d e:W.Dat) (b:Bool),RepD H x d/\RepD H y e/\W.kqdOk 8 d=true/\W.kqdOk 8 e=true/\(b=true↔d=e)/\Q (.bl b) H
def cy:R2:=λx y H Q=>∃ (d e:W.Dat) (b:Bool),RepD H x d/\RepD H y e/\W.kqdOk 8 d=true/\W.kqdOk 8 e=true/\(b=true↔d=e)/\Q (.bl (!b)) H
def D3 (c:TE):TT:=λd H Q=>c d H λx a=>∃ p b,x=.ref p/\a p^^^b/\Q (!b.isEmpty) a
inductive sL(x:V)(lo c:Option Int)(H:Hp)(Q:VK):Prop
 |mk(a b):x=.ref a->H a^^^b->(∀ p,H p=none->Q (.ref p) (upd H p (.lst (CD b lo c))))->sL x lo c H Q
def oT {x:V} {lo:Option Int} {e:Option Int} {H:Hp} {Q:VK}:sL x lo e H Q=∃ a f,x=.ref a/\H a^^^f/\∀ p,H p=none->Q (.ref p) (upd H p (.lst (CD f lo e))):=propext {λ⟨b,a1,a2,c,d⟩=>⟨b,a1,a2,c,d⟩,λ⟨b,a1,a2,c,d⟩=>⟨b,a1,a2,c,d⟩}
inductive JW(xs:cW)(H:Hp)(Q:VK):Prop
 |mk(p a):xs=[.ref p]->H p^^^a->(∀ l,H l=none->Q (.ref l) (upd H l (.tup a)))->JW xs H Q
def oU {xs:cW} {H:Hp} {Q:VK}:JW xs H Q=∃ p d,xs=[.ref p]/\H p^^^d/\∀ l,H l=none->Q (.ref l) (upd H l (.tup d)):=propext {λ⟨a,a1,a2,b,c⟩=>⟨a,a1,a2,b,c⟩,λ⟨a,a1,a2,b,c⟩=>⟨a,a1,a2,b,c⟩}
inductive GC(xs:cW)(H:Hp)(Q:VK):Prop
 |mk(p a):xs=[.ref p]->H p^^^a->(∀ l,H l=none->Q (.ref l) (upd H l (.lst a)))->GC xs H Q
def oV {xs:cW} {H:Hp} {Q:VK}:GC xs H Q=∃ p d,xs=[.ref p]/\H p^^^d/\∀ l,H l=none->Q (.ref l) (upd H l (.lst d)):=propext {λ⟨a,a1,a2,b,c⟩=>⟨a,a1,a2,b,c⟩,λ⟨a,a1,a2,b,c⟩=>⟨a,a1,a2,b,c⟩}
def OM:cW->Hp->VK->Prop:=λb H Q=>∃ (p:Addr) (a:List Bool),b=[.ref p]/\H p^^^(a.map V.bl)/\Q (.bl (a.all id)) H
end Bs
namespace Bs
open PySem PySem.Spec PyProof.Rows L2
section
variable {X:Cx} {pins:d6} {σ:L2.St} {H:Hp} {s:Shared}
mutual
theorem Gs (I:Inv X pins σ H s):∀ {x:V} {d:W.Dat} {u:Value},RepD H x d->RelV x u->∃ as,Reads s.heap u (W.kqdP d) as
 | _,_,_,.non,e=>by cases e;rw [W.kqdP];exact {_,Reads.none}
 | _,_,_,.int i,⟨t,e⟩=>by subst e;rw [W.kqdP];exact {_,Reads.int i t}
 | _,_,_,.tup h r,e=>by
   cases e;let {a,b,p,_}:=I.tuple (SqT.of h);let {as,q}:=JX I r b;let {o,c,f,n,g}:=p;rw [W.kqdP];exact {as,reads_tuple_at c f g (by simpa using q)}
 | _,_,_,.lst h r,e=>by
   cases e;let {a,b,p,_}:=I.list (SqL.of h);let {as,q}:=JX I r b;let {o,n,c,f,_,g}:=p;rw [W.kqdP];exact {_,reads_list_at c f g (by simpa using q)}
theorem JX (I:Inv X pins σ H s):∀ {xs:cW} {a:List W.Dat} {b:cZ},RepA H xs a->Vals xs b->∃ as,ReadsAll s.heap b (W.kqdPs a) as
 | _,_,_,.nil,.nil=>by rw [W.kqdPs];exact {_,ReadsAll.nil}
 | _,_,_,.cons h r,.cons e c=>by
   let {as,q}:=Gs I h e;let {f,d}:=JX I r c;rw [W.kqdPs];exact {_,ReadsAll.cons q d}
end
def JY {d:W.Dat} (h:W.kqdOk 8 d=true):SeqAt.shaped (W.kqdP d)=true:=by
 let z:=W.kqd_lay 8 d h;unfold SeqAt.shaped;rw [z.1,Bool.true_and];exact nE (BW z.2 `b)
def ON {d e:W.Dat} {b:Bool} (a:W.kqdOk 8 d=true) (c:W.kqdOk 8 e=true) (f:b=true↔d=e):PyData.eqv (W.kqdP d) (W.kqdP e)=b:=by
 rw [E2,f];exact W.kqd_eqv 8 d e 8 a c
def OO (f:X.A.units+64<cLine):OpR X (compareOp .Eq) eqD:=by
 intro pins s σ H x y v u Q I g i h;let {d,e,b,j,k,a,c,m,q}:=h;let {as,n}:=Gs I j g;let {p,o}:=Gs I k i;exact eq_dataH n o (JY a) (JY c) f (by rw [ON a c m];exact {.bl b,H,I,2,q})
def K7 (f:X.A.units+64<cLine):OpR X (compareOp .NotEq) cy:=by
 intro pins s σ H x y v u Q I g i h;let {d,e,b,j,k,a,c,m,q}:=h;let {as,n}:=Gs I j g;let {p,o}:=Gs I k i;exact ne_dataH n o (JY a) (JY c) f (by rw [ON a c m];exact {.bl (!b),H,I,2,q})
def Eo {a:Expr} {c:TE} (d:PE X a c) (f:∀ b,isTrue a X.env b=(do let v <-b;standAt a.pos;holding [v] (truthy v))):PT X a (D3 c):=λpins s σ H Q I h=>
 isTrue_plain (F_ (d pins s σ H _ I h) λv g ⟨x,i,j,k,m⟩=>by
  let {p,n,e,hp,q}:=m;subst e;exact UX pins g σ i _ v Q j k {_,.inl {n,SqL.of hp,2},q}) (f _)
def Ep:cx X sL:=by
 intro pins s σ H x v b c lo d f Q I g i j k h;let {a,m,e,n,q}:=h;exact N8 pins s σ H x v b c lo d f Q I g i j k {a,m,e,SqL.of n,q}
def OP:CW X (.type "tuple") JW:=λpins s σ H a b Q I r h=>by
 let {p,c,e,hp,q}:=h;exact Uw pins s σ H a b Q I r {p,c,e,.inl {SqL.of hp,q}}
def Ho:CW X (.type "list") GC:=λpins s σ H a b Q I r h=>by
 let {p,c,e,hp,q}:=h;exact Uv pins s σ H a b Q I r {p,c,e,.inl (SqL.of hp),q}
theorem OQ:∀ {a:List Bool} {c:cZ},Vals (a.map V.bl) c->c=a.map Value.bool
 | [],_,.nil=>rfl
 | b::a,_,.cons e r=>by rw [show _=Value.bool b from e,OQ r];rfl
def WQ (j:X.calm=true):CW X (.builtin "all") OM:=λpins s σ H G J Q I r h=>by
 let {p,a,rfl,hp,q}:=h;let {u,rfl,k}:=DW r;cases k;let {m,n,f,hz}:=I.list (SqL.of hp);let y:=OQ n;subst y;refine call_all_walk (wpAny_pyIter_list f.isList {⇑s,[⇑s,p],[⇑s],(a.map Value.bool).toArray.size,9,λi=>a.getD i false,2,Walks.list (A:=X.A.in1) (show X.A.in1.handled=none from I.ok.hd j) ⇑s p (BQ f.lt) _,{{_,Heap.get?_push_size _ rfl,7},f.isList.push _},?_,λg K B=>?_})
 .intro i v L M N C D
  let e:v=Value.bool (a.getD i false):=by
   let z:(a.map Value.bool)[i]?=some v:=by simpa using C
   rw [Ah] at z;cases w:a[i]? with
   | none=>rw [w] at z;cases z
   | some c=>
     rw [w] at z;rw [AN,w];exact (nL z).symm
  subst e;exact wpAny_truthy_bool D
 .let E:∀ b o,s.heap.get? b=some o->g.get? b=some o:=λb o e=>B b o (λz=>absurd (nO e) (by rw [Ap.mp z];exact Cz _)) (Heap.get?_push_of_some _ e);refine {.bl (a.all id),H,I.kept E,?_,q};show Value.bool _=Value.bool _;congr 1;rw [E2];simp only [FQ,DB,BJ,AI,id];constructor
  .intro h x F;let {i,d,e}:=C3 F;let z:=h i d;rw [AN,AR d] at z;rw [<-e];exact z
  .intro h i d;rw [AN,AR d];exact h _ (CN d)
def Hr:b_ X gL:=by
 intro pins s σ H o i A B Q I ro m h;let {p,k,C,v,rfl,rfl,hp,n,q}:=h;cases ro;let {t,rfl}:=m;let {c,r,e,hz}:=I.list (SqL.of hp);let {j,b,u,D,x,y}:=Ku n;let {w,f,rw'}:=r.get u;let z:=@r;let E:=Gn;let a:EP X pins σ Q w s:=⟨v,H,I,rw',q⟩;by_cases g:0<=k
 .let d:k.toNat=j:=by
   rw [seqIndex_of g y] at b;exact nL b
  exact wpAny_getItem_list e.isList g `a (by rw [d];simpa using f) a
 .let d:(k+(c.toArray.size:Int)).toNat=j:=by
   rw [seqIndex_neg `a x] at b;rw [BJ,<-z];exact nL b
  exact wpAny_getItem_list_neg e.isList `a (by rw [BJ] <;> omega) `a (by rw [d];simpa using f) a
def FA {K:W.Frag} {p:Addr} {xs:cW} (h:H p^^^xs):bI K "list" (.ref p) H:=.inl {2,xs,SqL.of h}
end
end Bs
namespace Bs
open PySem L2
inductive D4(n:Nat)(t:aW)(v:V)(c:L2.St)(H:Hp)(Q:L2.St->Hp->Prop):Prop
 |mk(a b):v=.ref a->H a&&&b->@b=n->t b c H Q->D4 n t v c H Q
end Bs
namespace Bs
open PySem PySem.Spec PyProof.Rows L2
def EW {X:Cx} {c:dc} {k:Nat} {d:Pos} {t:aW} {n:Nat} (g:X.calm=true) (h:bX X c t)
  (i:(assignEach c X.env).length=n:=by rfl) (f:(assignEach c X.env).findIdx? (·.1)=none:=by rfl):PG X (.Tuple c k d) (D4 n t):=λb s j H v u Q I r q=>by
 let {a,m,e,o,p,q}:=q;exact UL g h i f b s j H v u Q I r {a,m,e,SqT.of o,p,q}
def WR {X:Cx}:OpR X (inplaceOp .FloorDiv) Gp:=b6 λi j _ _ _ _ _ a q=>by
 refine ifloordiv_int (BL a.1) ?_ (.inl (PyProof.noPylong_of_log2 (a.2.log2 `b)));rw [Ei i (DQ a.1)];exact q
end Bs
namespace Bs
open PySem L2
noncomputable def c6 (lo:Int) (n:Nat):It:={λi _=>i<n,λi H x a=>a=H/\x=.int (lo - i),λi _=>n<=i}
noncomputable def bL (K:W.Frag) (a:Addr) (n:Nat):It:={λi H=>i<n/\∃ b,SqL K H a b/\@b=n,λi H x c=>c=H/\∀ b,SqL K H a b->b[n - 1 - i]?=some x,λi _=>n=i}
def Gu (a:TA):TI:=λb H R=>a b H λc d=>∃ i j:Int,c=[.int i,.int j,.int (-1)]/\(-(2 ^ 62)<=i/\i<2 ^ 62/\-(2 ^ 62)<=j/\j<2 ^ 62)/\R (c6 i (i - j).toNat) d
def Gv (K:W.Frag) (d:TA):TI:=λe H R=>d e H λf b=>∃ a c,f=[.ref a]/\SqL K b a c/\R (bL K a @c) b
section
variable {K:W.Frag} {ta:TA} {g:TG} {tb:TS} {D:Ends} {σ:L2.St} {H:Hp} {a:Addr} {xs:cW}
def oW:A4 (Gu ta) g tb D σ H=ta σ H (λb c=>∃ i j:Int,b=[.int i,.int j,.int (-1)]/\(-(2 ^ 62)<=i/\i<2 ^ 62/\-(2 ^ 62)<=j/\j<2 ^ 62)/\ForJ (c6 i (i - j).toNat) g tb D σ c):=rfl
def oX:A4 (Gv K ta) g tb D σ H=ta σ H (λc b=>∃ a xs,c=[.ref a]/\SqL K b a xs/\ForJ (bL K a @xs) g tb D σ b):=rfl
def ForJ.down {lo:Int} {n:Nat} (Pv:Nat->L2.St->Hp->Prop) (d:Pv 0 σ H)
  (f:∀ i σ H,i<n->Pv i σ H->g (.int (lo - i)) σ H λb h=>tb { D with nx:=Pv (i+1),ct:=Pv (i+1),bk:=D.nx } b h) (j:∀ σ H,Pv n σ H->D.nx σ H):ForJ (c6 lo n) g tb D σ H:=by
 refine {λi m σ H=>m=n - i/\i<=n/\Pv i σ H,{n,by simp,AV _,d},?_};rintro i m σ H ⟨rfl,v,pv⟩;by_cases c:i<n
 .refine .inr {c,Pv (i+1),λk o p=>{n - (i+1),`a,2,c,p},λx o y=>?_};let {e,y}:=y;subst e y;exact f i σ _ c pv
 .let e:i=n:=by omega
  subst e;exact .inl {AT _,j σ H pv}
def ForJ.rev (Pv:Nat->L2.St->Hp->Prop) (d:Pv 0 σ H) (f:∀ i σ H,i<=@xs->Pv i σ H->SqL K H a xs)
  (h:∀ i x σ H,i<@xs->xs[@xs - 1 - i]?=some x->Pv i σ H->g x σ H λb j=>tb { D with nx:=Pv (i+1),ct:=Pv (i+1),bk:=D.nx } b j) (k:∀ σ H,Pv @xs σ H->D.nx σ H):ForJ (bL K a @xs) g tb D σ H:=by
 refine {λi m σ H=>m=@xs - i/\i<=@xs/\Pv i σ H,{@xs,by simp,AV _,d},?_};rintro i m σ H ⟨rfl,n,pv⟩;let q:=f i σ H n pv;by_cases c:i<@xs
 .refine .inr {⟨c,xs,q,rfl⟩,Pv (i+1),λo p r=>{@xs - (i+1),`a,2,c,r},λx p y=>?_};let {e,y}:=y;subst e;exact h i x σ _ c (y xs q) pv
 .let e:i=@xs:=by omega
  subst e;exact .inl {2,k σ H pv}
end
end Bs
namespace Bs
open PySem PySem.Spec PyProof.Rows L2
def WS {P:Program} {w:World} {K:W.Frag} {M:Expr} (c:Addr) (lo:Int) (n:Nat):Turn P w K M (c6 lo n) [c] c (λi h=>IsRangeIter h c (lo+(i:Nat)*(-1)) ((n:Int) - (i:Nat)) (-1)) where
 mem:=by simp
 obj:=λi h a b f=>by
  let e:b=c:=by simpa using f
  subst e
  exact {_,a,λv z=>by
   let N:Data.fields _=Data.cell v:=z
   cases N}
 keep:=λi h p a k=>k c (by simp) _ a
 item:=by
  intro X r u x y i d s J H E I q a A
  subst r u x
  let {B,C,O,D,F,G}:=q c (by simp)
  let W:=Walks.range (prog:=X.prog) (w:=X.w) (I.ok.hd y) c lo (-1) n
  refine W.item i s _ _ A a λv p L Q g R=>?_
  let {t,rfl}:=Q
  let S:Inv X d J H { s with heap:=p,toks:=L }:=I.turned (λb o f e=>R b o (by simpa using f) e) B C D F G
  refine {1,Hh (s:={ s with heap:=p,toks:=L }) (n := "range_iterator") g rfl rfl `b {.int (lo - i),H,S,{t,?_},⟨rfl,rfl⟩,g,λb f=>(q b f).1}}
  rw [show lo+(i:Int)*(-1)=lo - i by omega]
 done:=by
  intro X r u x y i d s J H E I q a A
  subst r u x
  let {B,C,O,D,F,G}:=q c (by simp)
  exact wpAny_pyNext_range_end (I.ok.hd y) a (by have:n<=i:=A;omega) λp T=>{2,I.turned (t':=s.toks) (λb o f e=>T b o f e) B C D F G}
 self:=λ_ _ _ _ _ a h=>wpAny_pyIter_rangeiter a h
def OR (a b:Int):Builtin.Range.rangeSize a b (-1)=if b<a then a - b else 0:=by
 unfold Builtin.Range.rangeSize;simp only [show ¬ ((-1:Int) > 0) by decide,if_false,Int.neg_neg,Int.ediv_one];split <;> omega
def WT {a b:Int} (e:-(2 ^ 62)<=a) (c:a<2 ^ 62) (f:-(2 ^ 62)<=b) (d:b<2 ^ 62):Builtin.Range.small a b (-1)=true:=by
 unfold Builtin.Range.small;rw [OR];simp only [Builtin.Range.rangeFitsLong,Bool.and_eq_true,Bool.or_eq_true,decide_eq_true_eq,beq_iff_eq,show ¬ ((-1:Int) > 0) by decide,if_false];split <;> omega
theorem K8 {X:Cx} {E:Expr} {a b c:Expr} {z:TA} {p n:Pos} (F:Gl X "range") (G:X.mg "range" = none) (J:PA X [a,b,c] z) (K:starEach [a,b,c] X.env=[(false,eval a X.env),(false,eval b X.env),(false,eval c X.env)]:=by rfl) (u:starEach [b,c] X.env=[(false,eval b X.env),(false,eval c X.env)]:=by rfl) :
  PI X E (.Call (.Name "range" p) [a,b,c] [] n) (Gu z):=by
 intro g s A H R I h;refine Call_ (Dj I F G boot_range (PyProof.Rows.callWith_type1 (F_ (J n g s A H _ I h) λW k ⟨Y,B,L,M,w⟩=>?_) (by rw [K,u]) (by rw [u];rfl)));let {i,j,e,{w,N,O,P},q}:=w;subst e;cases M with
 | cons r v=>
   cases v with
   | cons Q v=>
     cases v with
     | cons x v=>
       cases v;let {t,rfl}:=r;let {t',rfl}:=Q;let {f,rfl}:=x;refine call_range_3 `b ?_ (.inl (PyProof.noPylong_small `b));refine wpAny_pyIter_range (IsRange.new ..) (WT w N O P) ?_;let y:Inv X g A B { k with heap:=k.heap.push { cls:=.type "range", data:=.fields #[.int i t,.int j t',.int (-1) f] },toks:=k.toks }:=L.kept λb o e=>Heap.get?_push_of_some _ e
       refine {(k.heap.push { cls:=.type "range", data:=.fields #[.int i t,.int j t',.int (-1) f] }).objs.size,[(k.heap.push { cls:=.type "range", data:=.fields #[.int i t,.int j t',.int (-1) f] }).objs.size],_,_,B,rfl,
        y.kept (t':=k.toks) λb o e=>Heap.get?_push_of_some _ e,WS _ i (i - j).toNat,?_,λb S=>?_,q}
       .let T:i+((0:Nat):Int)*(-1)=i:=by simp
        let U:(((i - j).toNat:Nat):Int) - ((0:Nat):Int)=Builtin.Range.rangeSize i j (-1):=by rw [OR];split <;> omega
        show IsRangeIter _ _ (i+((0:Nat):Int)*(-1)) ((((i - j).toNat:Nat):Int) - ((0:Nat):Int)) (-1);rw [T,U];exact Heap.get?_push_size _ rfl
       .let e:b=(k.heap.push { cls:=.type "range", data:=.fields #[.int i t,.int j t',.int (-1) f] }).objs.size:=by simpa using S
        subst e;exact y.fpOk (AT _) (y.hok.fresh (AT _))
def WU {P:Program} {w:World} {K:W.Frag} {tg:Expr} (a f:Addr) (n:Nat):Turn P w K tg (bL K a n) [f] f (λi h=>h.IsRevIter f a ((n:Int) - 1 - (i:Int))) where
 mem:=by simp
 obj:=λi h g b m=>by
  let e:b=f:=by simpa using m
  subst e
  let {o,e,c,d}:=g
  exact {o,e,λv z=>by rw [d] at z;cases z}
 keep:=λi h r g k=>g.at λo e=>k f (by simp) o e
 item:=by
  intro X C D F S i j s T H E I B g G
  subst C D F
  let {hi,U,Y,hn}:=G
  let {a0,rv,p,hz}:=I.list Y
  let Z:U[n - 1 - i]?=some (U[n - 1 - i]'`a):=AR `a
  let {u,hu,ru}:=rv.get Z
  let {J,L,f2,M,N,O}:=B f (by simp)
  let q:s.heap.IsRevIter f a ((n - 1 - i:Nat):Int):=by rw [show ((n - 1 - i:Nat):Int)=(n:Int) - 1 - (i:Int) by omega];exact g
  refine wpAny_pyNext_rev_item q p.isList (x:=u) (by simpa using hu) λr y sb=>?_
  let I1:Inv X j T H { s with heap:=r }:=I.turned (t':=s.toks) (λb o m e=>(sb.2 b m).trans e) J L M N O
  let {o,e,c,d}:=id y
  let Q:r.IsRevIter f a ((n:Int) - 1 - ((i+1:Nat):Int)):=by rw [show (n:Int) - 1 - ((i+1:Nat):Int)=((n - 1 - i:Nat):Int) - 1 by omega];exact y
  exact {u,2,Hh (s:={ s with heap:=r }) e c d `b {_,H,I1,ru,{2,λys hy=>by rw [I.list_inj hy Y];exact Z},Q,λb m=>(B b m).1}}
 done:=by
  intro X C D F S i j s T H E I B g G
  subst C D F
  let R:n=i:=G
  subst R
  let {J,L,f2,M,N,O}:=B f (by simp)
  let q:s.heap.IsRevIter f a (-1):=by rw [show (-1:Int)=(n:Int) - 1 - (n:Int) by omega];exact g
  exact wpAny_pyNext_rev_end (I.ok.hd S) q λr eb=>{2,I.turned (t':=s.toks) (λb o m e=>eb b o m e) J L M N O}
 self:=λ_ _ _ _ _ g h=>wpAny_pyIter_revIter g h
def OS {X:Cx} {w:Expr} {a:Expr} {m:TA} {p i:Pos} (x:Gl X "reversed") (y:X.mg "reversed" = none) (A:PA X [a] m) (B:starEach [a] X.env=[(false,eval a X.env)]:=by rfl):PI X w (.Call (.Name "reversed" p) [a] [] i) (Gv X.K m):=by
 intro d s n H R I h;refine Call_ (Dj I x y V9 (PyProof.Rows.callWith_type1 (F_ (A i d s n H _ I h) λM f ⟨N,r,j,C,D⟩=>?_) B rfl));let {b,k,rfl,E,q}:=D;let {u,rfl,F}:=DW C;cases F;let {g,G,J,hz}:=j.list E;refine call_reversed_list J.isList ?_;let K:Inv X d n r { f with heap:=f.heap.push (revObj b ((g.toArray.size:Int) - 1)) }:=j.kept (t':=f.toks) λb o e=>Heap.get?_push_of_some _ e;let O:=@G
 let si:(f.heap.push (revObj b ((g.toArray.size:Int) - 1))).IsRevIter ⇑f b ((@k:Int) - 1 - ((0:Nat):Int)):=by
  rw [show (@k:Int) - 1 - ((0:Nat):Int)=(g.toArray.size:Int) - 1 by rw [BJ];omega];exact {_,Heap.get?_push_size _ rfl,7}
 refine wpAny_pyIter_revIter si {_,[⇑f],9,r,2,K,WU b _ @k,si,λc L=>?_,q};let z:c=⇑f:=by simpa using L
 subst z;exact j.fpOk (AT _) (j.hok.fresh (AT _))
end Bs
namespace Bs
open PySem L2
def OT:R2:=λx y H Q=>y=.non/\Q (.bl (decide (x=.non))) H
def OU:R2:=λx y H Q=>y=.non/\Q (.bl (!decide (x=.non))) H
def OV (_ j:Int):Prop:=0<j
def K9 (_ j:Int):Prop:=j≠0
abbrev Gw:R2:=rI OV λi j=>.int (i / j)
abbrev GD:R2:=rI K9 λi j=>.int (i.fdiv j)
noncomputable def b8 (K:W.Frag) (a b:Addr):It:=
 {λi H=>∃ c d x y,SqL K H a c/\SqL K H b d/\c[i]?=some x/\d[i]?=some y,λi H v e=>∃ p x y,H p=none/\v=.ref p/\e=upd H p (.tup [x,y])/\(∀ c,SqL K H a c->c[i]?=some x)/\∀ d,SqL K H b d->d[i]?=some y,λi H=>∃ c d,SqL K H a c/\SqL K H b d/\@c<=i}
def GE (K:W.Frag) (d:TA):TI:=λe H R=>d e H λf c=>∃ a b,f=[.ref a,.ref b]/\(∃ g,SqL K c a g)/\(∃ h,SqL K c b h)/\R (b8 K a b) c
def DX (h:TI) (capt:List (Option Nat)) (g:TG) (tc:TT) (j:TE):TE:=λd H Q=>h d H λJ k=>∃ (n:Nat) (W:Nat->cW->Hp->Prop),W 0 [] k/\∀ i a H,W i a H->i<=n/\@a<=sizeLine/\
 ((J.stop i H/\∀ p,H p=none->Q (.ref p) (upd H p (.lst a)))\/(i<n/\J.go i H/\∀ x e,J.yld i H x e->g x (Ca capt d) e λc m=>tc c m λb f=>if b=true then j c f λy o=>W (i+1) (a++[y]) o else W (i+1) a f))
def CompF (J:It) (capt:List (Option Nat)) (g:TG) (tc:TT) (f:TE) (h:L2.St) (Q:VK) (j:Hp):Prop:=∃ (n:Nat) (W:Nat->cW->Hp->Prop),W 0 [] j/\∀ i a H,W i a H->i<=n/\@a<=sizeLine/\
 ((J.stop i H/\∀ p,H p=none->Q (.ref p) (upd H p (.lst a)))\/(i<n/\J.go i H/\∀ x d,J.yld i H x d->g x (Ca capt h) d λc k=>tc c k λb e=>if b=true then f c e λy m=>W (i+1) (a++[y]) m else W (i+1) a e))
section
variable {K:W.Frag} {ta:TA} {tl:TE} {capt:List (Option Nat)} {g:TG} {tc:TT} {te:TE} {tb:TS} {D:Ends} {σ:L2.St} {H:Hp} {Q:VK} {a b:Addr} {xs ys:cW}
def oY:DX (A5 K tl) capt g tc te σ H Q=tl σ H (λx c=>∃ a,x=.ref a/\(∃ xs,SqL K c a xs)/\CompF (ag K a) capt g tc te σ Q c):=rfl
def oZ:A9 (GE K ta) capt g te σ H Q=ta σ H (λd c=>∃ a b,d=[.ref a,.ref b]/\(∃ xs,SqL K c a xs)/\(∃ ys,SqL K c b ys)/\CompJ (b8 K a b) capt g te σ Q c):=rfl
def CompF.lst (W:Nat->cW->Hp->Prop) (j:W 0 [] H) (d:∀ i ys H,W i ys H->i<=@xs/\@ys<=sizeLine/\SqL K H a xs)
  (k:∀ i x ys H,xs[i]?=some x->W i ys H->g x (Ca capt σ) H λc m=>tc c m λb f=>if b=true then te c f λy n=>W (i+1) (ys++[y]) n else W (i+1) ys f) (o:∀ ys H,W @xs ys H->∀ p,H p=none->Q (.ref p) (upd H p (.lst ys))):CompF (ag K a) capt g tc te σ Q H:=by
 refine {@xs,W,j,λi ys H w=>{(d i ys H w).1,(d i ys H w).2.1,?_}};let q:SqL K H a xs:=(d i ys H w).2.2;by_cases h:i<@xs
 .refine .inr {h,{xs,xs[i],q,by simp [h]},λx r y=>?_};let {e,y}:=y;subst e;exact k i x ys _ (y xs q) w
 .let e:i=@xs:=Nat.le_antisymm (d i ys H w).1 (Nat.not_lt.mp h);subst e;exact .inl {{xs,q,AT _},o ys H w}
def CompJ.zip (k:@xs=@ys) (W:Nat->cW->Hp->Prop) (m:W 0 [] H) (d:∀ i c H,W i c H->i<=@xs/\@c<=sizeLine/\SqL K H a xs/\SqL K H b ys)
  (n:∀ i x y c H p,xs[i]?=some x->ys[i]?=some y->W i c H->H p=none->g (.ref p) (Ca capt σ) (upd H p (.tup [x,y])) λf o=>te f o λz r=>W (i+1) (c++[z]) r) (u:∀ c H,W @xs c H->∀ p,H p=none->Q (.ref p) (upd H p (.lst c))):CompJ (b8 K a b) capt g te σ Q H:=by
 refine {@xs,W,m,λi c H w=>{(d i c H w).1,(d i c H w).2.1,?_}};let {_,_,q,j}:=d i c H w;by_cases h:i<@xs
 .refine .inr {h,{xs,ys,xs[i],ys[i],q,j,by simp [h],by simp [k ▸ h]},λv F y=>?_};let {p,x,y,hp,A,B,C,E}:=y;subst A B;exact n i x y c _ p (C xs q) (E ys j) w hp
 .let e:i=@xs:=Nat.le_antisymm (d i c H w).1 (Nat.not_lt.mp h);subst e;exact .inl {{xs,ys,q,j,AT _},u c H w}
end
def WV:V->Hp->VK->Prop:=λx H Q=>∃ (p:Addr) (a:cY),x=.ref p/\H p^^^(~~~a)/\∀ m:Int,(a=[]/\m=0\/m∈a)->Q (.int m) H
def OW (a:TE):TE:=λb H Q=>a b H λx c=>WV x c Q
def OX:cW->Hp->VK->Prop:=λb H Q=>∃ (p:Addr) (a:cY),b=[.ref p]/\H p^^^(~~~a)/\Q (.bl (a.any λz=>!decide (z=0))) H
end Bs
namespace Bs
open PySem PySem.Spec PyProof.Rows L2
section
variable {X:Cx} {pins:d6} {σ:L2.St} {H:Hp} {s:Shared}
def GF:OpR X (binaryOp .FloorDiv) GD:=by
 intro pins s σ H x y v u Q I a b ⟨i,j,c,d,e,q⟩;subst c d;let {t,rfl}:=a;let {f,rfl}:=b;exact floordiv_int e {.int (i.fdiv j),H,I.tok _,{1},q} (Or.inr (I.ok.plr s I.bk))
def Hs:OpR X (binaryOp .FloorDiv) Gw:=by
 intro pins s σ H x y v u Q I b c ⟨i,j,d,e,f,q⟩;let a:0<j:=f;replace q:Q (.int (i / j)) H:=q;rw [<-Ei i (DQ a)] at q;exact GF pins s σ H x y v u Q I b c {i,j,d,e,BL a,q}
def WW {f:de} {g:Heap} {tk:Nat} (I:Inv X pins σ H s) (e:∀ b∈f,Dl X pins H b) (k:∀ b o,b∉f->s.heap.get? b=some o->g.get? b=some o):Inv X pins σ H { s with heap:=g,toks:=tk }:=by
 let tr:∀ b u,H b=some u->b∉f:=λb u q a=>by rw [(e b a).1] at q;cases q
 refine I.step (g':=s.gens) (d':=s.drawn) (ch:=f) (λb a=>{(e b a).2.2.2.1,(e b a).2.1,(e b a).2.2.2.2.1,(e b a).2.2.2.2.2}) (λb o _ _ d q _=>k b o d q) (λb o _ _ d q _=>{o.slots,k b o d q}) (λ_ _ _ _ n=>n)
  (λb o d q=>{o,k b o d q}) (λ_ _ q=>q) (λ_ _ _ q=>q) (λb ps q=>{#[],by rw [q];simp}) (λm j=>?_) (λb u q=>?_) I.bare
 .let {o,p,r,w,x}:=j;exact {o,p,r,k _ o (λa=>(e _ a).2.1 rfl) w,x}
 .refine (I.hok b u q).stay (λc v d z=>?_) (λ_ z=>z) λ_ _ z=>z;rcases d with y | y
  .subst y;exact k _ v (tr _ u q) z
  .exact k c v (tr c _ y) z
def WX {h:de} {g:Heap} {tk:Nat} {xs:cW} {its:cZ} (I:Inv X pins σ H s) (e:∀ b∈h,Dl X pins H b) (k:∀ b o,b∉h->s.heap.get? b=some o->g.get? b=some o)
  (hz:@xs<=sizeLine) (p:Vals xs its) (r:g.get? ⇑s=some { cls:=.type "tuple", data:=.seq its.toArray }):Inv X pins σ (upd H ⇑s (.tup xs)) { s with heap:=g,toks:=tk }:=by
 let w:H ⇑s=none:=I.hok.fresh (AT _);let f:∀ b u,H b=some u->b≠⇑s:=λb u q=>Aq q w;let tr:∀ b u,H b=some u->b∉h:=λb u q a=>by rw [(e b a).1] at q;cases q
 refine I.step (g':=s.gens) (d':=s.drawn) (ch:=h) (λb a=>{(e b a).2.2.2.1,(e b a).2.1,(e b a).2.2.2.2.1,(e b a).2.2.2.2.2}) (λb o _ _ d q _=>k b o d q) (λb o _ _ d q _=>{o.slots,k b o d q}) (λb o _ q n=>?_)
  (λb o d q=>{o,k b o d q}) (λb x q=>?_) (λb o u q=>?_) (λb ps q=>{#[],?_}) (λm A=>?_) (λb u q=>?_) I.bare
 .rw [Ai (BQ (nO q))];exact n
 .rw [Ai (f b _ q)];exact q
 .rw [Ai (f b _ q)];exact q
 .rw [Ai (f b _ q),q];simp
 .let ⟨o,B,C,D,E⟩:=A;exact {o,B,C,k _ o (λa=>(e _ a).2.1 rfl) D,E}
 .by_cases a:b=⇑s
  .subst a;rw [upd_same] at q;cases q;exact {hz,its,p,{_,r,2,1}}
  .rw [Ai a] at q;refine (I.hok b u q).stay (λc v d z=>?_) (λc z=>by rw [Ai (f c _ z)];exact z) λc x z=>by rw [Ai (f c _ z)];exact z
   rcases d with y | y
   .subst y;exact k _ v (tr _ u q) z
   .exact k c v (tr c _ y) z
end
def WY (a b z c d e f:Addr) (i:Nat) (h:Heap):Prop:=IsZip h z c d .none/\IsPair h c (.ref e) (.ref f)/\(∃ u v,IsPair h d u v)/\h.IsListIter e a i/\h.IsListIter f b i
def WZ {P:Program} {w:World} {K:W.Frag} {M:dc} {k:Nat} {Y:Pos} {a b z p r m n:Addr} (D:ZipApart z p r m n a b):Turn P w K (.Tuple M k Y) (b8 K a b) [z,p,r,m,n] z (WY a b z p r m n) where
 mem:=by simp
 obj:=λi h f c j=>by
  let {G,F,{u,v,J},{o4,B,_,d4},{o5,C,_,d5}}:=f
  let d:c=z\/c=p\/c=r\/c=m\/c=n:=by simpa using j
  rcases d with rfl | rfl | rfl | rfl | rfl
  .exact {_,G,λv q=>nomatch q}
  .exact {_,F,λv q=>nomatch q}
  .exact {_,J,λv q=>nomatch q}
  .exact {_,B,λv q=>by rw [d4] at q;cases q}
  .exact {_,C,λv q=>by rw [d5] at q;cases q}
 keep:=λi h h' f N=>{N z (by simp) _ f.1,N p (by simp) _ f.2.1,let ⟨u,v,q⟩:=f.2.2.1;⟨u,v,N r (by simp) _ q⟩,f.2.2.2.1.at λo q=>N m (by simp) o q,f.2.2.2.2.at λo q=>N n (by simp) o q}
 item:=by
  intro X Z hw hK j i O s σ H E I S f hg
  subst Z hw hK
  let {xs,ys,x,y,T,A,hx,hy}:=hg
  let {G,F,{u0,v0,J},B,C}:=f
  let {Q,rv,p1,_}:=I.list T
  let {a0,rw',p2,_}:=I.list A
  let {u,hu,ru}:=rv.get hx
  let {v,hv,a3}:=rw'.get hy
  refine wpAny_pyNext_zip_item D G F J B C p1.isList p2.isList (x:=u) (y:=v) (by simpa using hu) (by simpa using hv) λg g1 g2 g3 g4 g5 _ U=>?_
  refine {1,wpAny_letOwnedTupleGo_zip g1 λg' z1 L=>?_}
  let lz:z<⇑s:=nO G
  let R:∀ c o,c∉[z,p,r,m,n]->s.heap.get? c=some o->g'.get? c=some o:=λc o j q=>by
   let d:¬ (c=z\/c=p\/c=r\/c=m\/c=n):=by simpa using j
   exact L.extBut c o (λe=>d (.inl e)) (U c o (λe=>d (.inl e)) (λe=>d (.inr (.inr (.inl e)))) (λe=>d (.inr (.inr (.inr (.inl e))))) (λe=>d (.inr (.inr (.inr (.inr e))))) q)
  let I1:=WX (g:=g') (tk:=s.toks) (xs:=[x,y]) (its:=[u,v]) I S R (sz (by simp)) (.cons ru (.cons a3 .nil)) (L.extBut _ _ (Nat.ne_of_gt lz) g5)
  refine {.ref ⇑s,_,I1,2,{_,x,y,I.hok.fresh (AT _),7,λzs hz=>by rw [I.list_inj hz T];exact hx,λzs hz=>by rw [I.list_inj hz A];exact hy},{z1,?_,{u,v,L.extBut _ _ D.TOz g2},g3.at λo q=>L.extBut m o D.i1z q,g4.at λo q=>L.extBut n o D.i2z q},λc j=>?_}
  .exact L.extBut _ _ D.TIz (U _ _ D.TIz D.TITO D.TIi1 D.TIi2 F)
  .rw [Ai]
   .exact (S c j).1
   .let d:c=z\/c=p\/c=r\/c=m\/c=n:=by simpa using j
    let {o4,B,_}:=B
    let {o5,C,_}:=C
    rcases d with rfl | rfl | rfl | rfl | rfl
    .exact BQ lz
    .exact BQ (nO F)
    .exact BQ (nO J)
    .exact BQ (nO B)
    .exact BQ (nO C)
 done:=by
  intro X Z hw hK j i O s σ H E I S f hg
  subst Z hw hK
  let {xs,ys,T,A,hx}:=hg
  let {G,F,{u0,v0,J},B,C}:=f
  let {Q,rv,p1,_}:=I.list T
  let {a0,_,p2,_}:=I.list A
  let hl:=@rv
  refine wpAny_pyNext_zip_end (I.ok.hd j) D G F J B C p1.isList p2.isList (.inl (by simp;omega)) λg U=>{2,WW (tk:=s.toks) I S λc o j q=>?_}
  let d:¬ (c=z\/c=p\/c=r\/c=m\/c=n):=by simpa using j
  exact U c o (λe=>d (.inl e)) (λe=>d (.inr (.inr (.inl e)))) (λe=>d (.inr (.inr (.inr (.inl e))))) (λe=>d (.inr (.inr (.inr (.inr e))))) q
 self:=λ_ _ _ _ _ f h=>wpAny_pyIter_zip f.1 h
section
variable {X:Cx} {elts:dc} {k:Nat} {tpos:Pos} {a b:Expr} {ta:TA} {p pos:Pos}
def vals2 {x y:V} {c:cZ} (r:Vals [x,y] c):∃ u v,c=[u,v]/\RelV x u/\RelV y v:=r.two
def LA (C:Gl X "zip") (E:X.mg "zip" = none) (F:PA X [a,b] ta) (G:starEach [a,b] X.env=(false,eval a X.env)::starEach [b] X.env:=by rfl) (j:(backTo pos (starEach [b] X.env)).any (·.1)=false:=by rfl):PI X (.Tuple elts k tpos) (.Call (.Name "zip" p) [a,b] [] pos) (GE X.K ta):=by
 intro e s n H R I h;refine Call_ (Dj I C E V8 (PyProof.Rows.callWith_type1 (F_ (F pos e s n H _ I h) λus d ⟨vs,o,f,J,K⟩=>?_) G j));let {r,w,rfl,{xs,L},{ys,m},q}:=K;let {u,v,rfl,M,N}:=vals2 J;cases M;cases N;let {O,_,x,_}:=f.list L;let {P,_,y,_}:=f.list m;refine call_zip_2 x.isList y.isList λg A Q S T U _ W=>?_;let Y:Inv X e n o { d with heap:=g }:=f.kept (t':=d.toks) W;let n1:@LT.lt Nat _ r ⇑d:=x.lt;let n2:@LT.lt Nat _ w ⇑d:=y.lt
 let D:ZipApart (⇑d+4) (⇑d+2) (⇑d+3) ⇑d (⇑d+1) r w:=by
  constructor <;> (show (_:Nat)≠_;omega)
 refine wpAny_pyIter_zip A {_,[⇑d+4,⇑d+2,⇑d+3,⇑d,⇑d+1],9,o,2,Y,WZ D,{A,Q,{9,S},T,U},λc Z=>?_,q}
 let i:⇑d<=c:=by
  let z:c=⇑d+4\/c=⇑d+2\/c=⇑d+3\/c=⇑d\/c=⇑d+1:=by simpa using Z
  rcases z with z | z | z | z | z <;> rw [z] <;> first | exact Nat.le_add_right _ _ | exact AT _
 exact f.fpOk i (f.hok.fresh i)
end
def Wa:bootBuiltins "any" = some (.builtin "any"):=by decide +kernel
theorem Ht:∀ {ns:cY} {a:cZ} {i:Nat} {u:Value},Vals (~~~ns) a->a[i]?=some u->∃ n t,ns[i]?=some n/\u=Value.int n t
 | [],_,_,_,.nil,e=>by simp at e
 | n::ns,_,0,_,.cons r _,e=>by
   simp at e;subst e;let {t,rfl}:=r;exact ⟨n,t,rfl,rfl⟩
 | _::ns,_,i+1,u,.cons _ r,e=>by
   let {n,t,b,c}:=Ht (i:=i) (u:=u) r (by simpa using e);exact {n,t,by simpa using b,c}
section
variable {X:Cx}
def Wb (y:X.calm=true):CW X (.builtin "any") OX:=λk s M H N O Q I r ⟨p,c,e,hp,q⟩=>by
 subst e;let {u,rfl,B}:=DW r;cases B;let {a,m,j,hz}:=I.list (SqL.of hp);let P:@c=@a:=by have:=@m;simpa using this
 refine call_any_walk (wpAny_pyIter_list j.isList {⇑s,[⇑s,p],[⇑s],a.toArray.size,9,λi=>!decide (c.getD i 0=0),2,Walks.list (A:=X.A.in1) (show X.A.in1.handled=none from I.ok.hd y) ⇑s p (BQ j.lt) _,{{_,Heap.get?_push_size _ rfl,7},j.isList.push _},?_,λg R C=>?_})
 .intro i v D E S F f;let {n,t,G,rfl}:=Ht m (show a[i]?=some v by simpa using F);let e:c.getD i 0=n:=by rw [AN,G];rfl
  replace f:E (!decide (c.getD i 0=0)) D:=f;rw [e] at f;refine PySem.P.truthy_int ?_;let J:(n != 0)=!decide (n=0):=by rw [E2];simp
  rw [J];exact f
 .let K:∀ b o,s.heap.get? b=some o->g.get? b=some o:=λb o e=>C b o (λz=>absurd (nO e) (by rw [Ap.mp z];exact Cz _)) (Heap.get?_push_of_some _ e);refine {_,H,I.kept K,?_,q};show Value.bool _=Value.bool _;congr 1;rw [E2];simp only [List.any_eq_true,DB,BJ];constructor
  .rintro ⟨i,w,h⟩;let d:i<@c:=by omega
   rw [AN,AR d] at h;exact {c[i],CN d,h}
  .rintro ⟨x,L,h⟩;let {i,w,rfl}:=C3 L;refine {i,`a,?_};rw [AN,AR w];exact h
end
def Wc (a v:Value):argsOk "min" ⟨[a],[("default", v)]⟩:=by unfold argsOk;kernel_rfl
end Bs
namespace Bs
open PySem L2
def sS (K:W.Frag):V->Option Int->Option Int->Hp->VK->Prop:=λx lo c H Q=>∃ a b,x=.ref a/\SqL K H a b/\∀ p,H p=none->Q (.ref p) (upd H p (.lst (CD b lo c)))
inductive GG(xs:cW)(H:Hp)(Q:VK):Prop
 |mk(p:Addr)(a:cY):xs=[.ref p]->H p^^^(~~~a)->Q (.int a.sum) H->GG xs H Q
def nA {xs:cW} {H:Hp} {Q:VK}:GG xs H Q=∃ (p:Addr) (ns:cY),xs=[.ref p]/\H p^^^(~~~ns)/\Q (.int ns.sum) H:=propext {λ⟨a,a1,a2,b,c⟩=>⟨a,a1,a2,b,c⟩,λ⟨a,a1,a2,b,c⟩=>⟨a,a1,a2,b,c⟩}
end Bs
namespace Bs
open PySem PySem.Spec PyProof.Rows L2
section
variable {X:Cx}
def OY:cx X (sS X.K):=N8
theorem OZ (ns:cY):∀ k,k<=@ns->preSum (λi=>ns.getD i 0) k=(ns.take k).sum
 | 0,_=>rfl
 | k+1,h=>by
   let e:ns.take (k+1)=ns.take k++[ns.getD k 0]:=by
    rw [C4,AN,AR `a];rfl
   show preSum _ k+_=_;rw [e,OZ ns k `a,List.sum_append];simp
def JZ (j:X.calm=true):CW X (.builtin "sum") GG:=λf s E H F G Q I r ⟨p,a,e,hp,q⟩=>by
 subst e;let {u,rfl,k}:=DW r;cases k;let {c,h,d,hz}:=I.list (SqL.of hp);let m:@a=@c:=by have:=@h;simpa using this
 refine call_sum_walkG (wpAny_pyIter_list d.isList {⇑s,[⇑s,p],[⇑s],c.toArray.size,9,λi=>a.getD i 0,2,Walks.list (A:=X.A.in1) (show X.A.in1.handled=none from I.ok.hd j) ⇑s p (BQ d.lt) _,{{_,Heap.get?_push_size _ rfl,7},d.isList.push _},?_,?_,λg J t w=>?_})
 .intro b x;let z:b=⇑s\/b=p:=by simpa using x
  rcases z with z | z
  .rw [z];exact nO (Heap.get?_push_size _ rfl)
  .let {o,_,y,_}:=d;rw [z];exact nO (Heap.get?_push_of_some _ y)
 .intro i v B;let {n,t,C,rfl}:=Ht h (show c[i]?=some v by simpa using B);let e:a.getD i 0=n:=by rw [AN,C];rfl
  exact {t,by show Value.int n t=Value.int (a.getD i 0) t;rw [e]}
 .let D:∀ b o,s.heap.get? b=some o->g.get? b=some o:=λb o e=>w b o (λz=>absurd (nO e) (by rw [Ap.mp z];exact Cz _)) (Heap.get?_push_of_some _ e);refine {.int a.sum,H,I.kept D,{t,?_},q};let e:=OZ a @a (AT _);rw [B4] at e;rw [BJ,<-m,e]
end
def Wd {m n:Nat} {a b:Int} (c:Bd m a) (d:Bd n b) (h:m+n<=134217728):IntMulOk a b:=IntMulOk.of_le (OK c) (OK d) h
end Bs
namespace Bs
open PySem L2
def inD (neg:Bool):R2:=λx y H Q=>∃ (p:Addr) (c:cW) (d:W.Dat) (a:List W.Dat) (b:Bool),y=.ref p/\H p^^^c/\RepD H x d/\RepA H c a/\W.kqdOk 8 d=true/\(∀ e∈a,W.kqdOk 8 e=true)/\(b=true↔d∈a)/\Q (.bl (if neg=true then !b else b)) H
end Bs
namespace Bs
open PySem PySem.Spec PyProof.Rows L2
def We {d:W.Dat} {a:List W.Dat} {b:Bool} (c:W.kqdOk 8 d=true) (f:∀ e∈a,W.kqdOk 8 e=true) (g:b=true↔d∈a):((W.kqdPs a).any λy=>PyData.eqv y (W.kqdP d))=b:=by
 rw [E2,g];exact W.kqd_any a d f c
def Wf {X:Cx} (G:X.A.units+64<cLine):OpR X (compareOp .NotIn) (inD true):=by
 intro a s J H x y v u Q I g i h;let {p,K,d,j,b,e,hp,k,m,c,f,r,q}:=h;subst e;let {as,w}:=Gs I k g;cases i;let {z,A,B,_}:=I.list (SqL.of hp);let {L,C}:=JX I m A;let {o,n,D,E,_,F}:=B;let l:=W.kqd_layL f;let ld:=W.kqd_lay 8 d c;let M:=ld.2;refine SeqAt.notIn_list_reads (reads_list_at D E F (by simpa using C)) w l.1 ld.1 ?_ (by rw [We c f r];exact {.bl (!b),H,I,2,q});have:=Nat.min_le_right (PyData.depthAll (W.kqdPs j)) (W.kqdP d).depth;omega
end Bs
namespace Bs
open PySem L2
noncomputable def Fa (kvs:List (N_×V)) (k:N_) (v:V):List (N_×V):=
 if kvs.any (λa=>a.1=k) then kvs.map (λa=>if a.1=k then (a.1,v) else a) else kvs++[(k,v)]
end Bs
namespace Bs
open PySem PySem.Spec PySem.Calls PyProof.Rows L2
theorem Oa {k:N_}:∀ {kvs:List (N_×V)} {d:List (N_×Value)},KV kvs d->kvs.any (λc=>c.1=k)=d.any (λc=>c.1=k)
 | _,_,.nil=>rfl
 | _,_,.cons (a:=⟨f,i⟩) (b:=⟨g,j⟩) ⟨e,r⟩ t=>by
   let h:f=g:=e;subst h;rw [List.any_cons,List.any_cons,Oa t]
theorem Ob {k:N_} {v:V} {u:Value} (g:RelV v u):∀ {kvs:List (N_×V)} {h:List (N_×Value)},KV kvs h->KV (kvs.map (λd=>if d.1=k then (d.1,v) else d)) (h.map (λd=>if d.1=k then (d.1,u) else d))
 | _,_,.nil=>.nil
 | _,_,.cons (a:=⟨f,i⟩) (b:=⟨m,j⟩) ⟨e,r⟩ t=>by
   let n:f=m:=e;subst n;rw [List.map_cons,List.map_cons];refine .cons ?_ (Ob g t);by_cases c:f=k
   .rw [nC (show (f,i).1=k from c),nC (show (f,j).1=k from c)];exact ⟨rfl,g⟩
   .rw [nB (show ¬ (f,i).1=k from c),nB (show ¬ (f,j).1=k from c)];exact ⟨rfl,r⟩
theorem Oc {k:N_} {v:V} {u:Value} (a:RelV v u):∀ {kvs:List (N_×V)} {b:List (N_×Value)},KV kvs b->KV (kvs++[(k,v)]) (b++[(k,u)])
 | _,_,.nil=>.cons ⟨rfl,a⟩ .nil
 | _,_,.cons p t=>.cons p (Oc a t)
def Wg {k:N_} {v:V} {u:Value} {kvs:List (N_×V)} {a:List (N_×Value)} (h:KV kvs a) (b:RelV v u):KV (Fa kvs k v) (stored a k u):=by
 unfold Fa stored;rw [Oa h];by_cases c:a.any (λd=>d.1=k)=true
 .rw [nC c,nC c];exact Ob b h
 .rw [nB c,nB c];exact Oc b h
def Wh {k:N_} {v:V} {kvs:List (N_×V)}:(Fa kvs k v).length<=↑kvs+1:=by
 unfold Fa;split
 .rw [AI];omega
 .rw [Bf];exact AT _
section
variable {X:Cx}
def Inv.dK {a:d6} {c:L2.St} {H:Hp} {s:Shared} {p:Addr} {kvs:List (N_×V)} (I:Inv X a c H s) (h:H p=some (.dK kvs)) :
  ↑kvs<=sizeLine/\(p == sysModules)=false/\∃ b,KV kvs b/\s.heap.DictOf (Gh X.prog X.w) p b:=I.hok p _ h
end
end Bs
namespace Bs
open PySem L2
noncomputable def blN (i:Int):Nat:=if i=0 then 0 else i.natAbs.log2+1
def Ja:R2:=rI (λi j=>0<=j/\(blN i:Int)+j<=134217728) λi j=>.int (i*2 ^ j.toNat)
inductive LB(x:V)(xs:cW)(H:Hp)(Q:VK):Prop
 |mk(i:Int):x=.int i->xs=[]->Q (.int (blN i)) H->LB x xs H Q
def Od (c:TE):TE:=λd H Q=>c d H λx b=>∃ (p:Addr) (a:cY),x=.ref p/\b p^^^(~~~a)/\∀ M:Int,(a=[]/\M=0\/M∈a/\∀ z∈a,z<=M)->Q (.int M) b
end Bs
namespace Bs
open PySem PySem.Spec PyProof.Rows L2
section
variable {X:Cx}
def Oe:bootBuiltins "sorted" = some (.builtin "sorted"):=by decide +kernel
def Of (i:Int):Builtin.Int.intBits i=blN i:=by unfold Builtin.Int.intBits blN;by_cases h:i=0 <;> simp [h]
def LD:OpR X (binaryOp .LShift) Ja:=b6 λ_ _ _ _ _ _ _ a q=>lshift_int a.1 (by rw [Of];exact a.2) q
def Og:MtR X "int.bit_length" LB:=by
 intro a s d H x e v f Q I b c h;let {i,rfl,rfl,q}:=h;let {t,rfl}:=b;cases c;exact call_int_bit_length {.int (blN i),H,I.tok _,{_,by rw [Of]},q}
theorem Wi:∀ {a:cZ} {ns:cY},Vals (~~~ns) a->IntsAre a ns:=by
 intro a ns
 induction ns generalizing a with
 | nil=>intro h;cases h;exact .nil
 | cons n ns b=>intro h;cases h with | cons r t=>let ⟨k,rfl⟩:=r;exact .cons n k (b t)
end
def Wj (a v:Value):argsOk "max" ⟨[a],[("default", v)]⟩:=by unfold argsOk;kernel_rfl
end Bs
namespace Bs
open PySem L2
def Oh:cW->Hp->VK->Prop:=λa H Q=>∃ (i:Int) (n:String) (b:Bool),a=[.int i,.ty n]/\(n = "int" /\ b=true\/n = "bool" /\ b=false)/\Q (.bl b) H
end Bs
namespace Bs
open PySem PySem.Spec PyProof.Rows L2
def Wk {X:Cx}:CW X (.builtin "isinstance") Oh:=λc s h H j k Q I r ⟨i,n,b,e,d,q⟩=>by
 subst e;let {u,f,rfl,g,rn}:=vals2 r;let {t,rfl}:=g;let a:f=Value.type n:=rn;subst a;rcases d with ⟨rfl,rfl⟩ | ⟨rfl,rfl⟩
 .exact PySem.IsiPair.int_int {.bl true,H,I,2,q}
 .exact PySem.IsiPair.int_bool {.bl false,H,I.tok _,2,q}
end Bs
namespace Bs
open PySem L2
def tMM (C:cY->Int->Prop) (c:TE):TE:=λd H Q=>c d H λx a=>∃ (p:Addr) (b:cY),x=.ref p/\a p^^^(~~~b)/\∀ M:Int,C b M->Q (.int M) a
end Bs
namespace Bs
open PySem PySem.Spec PyProof.Rows L2
section
variable {prog:Program} {w:World} {A:Around} {R:Result->Shared->Prop} {I:Addr} {fp wr:de} {n:Nat} {P:Nat->Value->Prop} {St:Nat->Heap->Prop} {d:Value} {m:Bool}
def mmE {m:Bool}:entryFor table (cond m "max.loop" "min.loop")=some (cond m Builtin.«max.loop» Builtin.«min.loop»):=by
 cases m
 .exact F.entry_min_loop
 .exact F.entry_max_loop
def mmP {m:Bool}:plainId (cond m "max.loop" "min.loop")=true:=by
 cases m
 .exact F.plain_min_loop
 .exact F.plain_max_loop
def cA:(toString "max" ++ toString ".loop" : String) = "max.loop" := by decide
def cB:(toString "min" ++ toString ".loop" : String) = "min.loop" := by decide
theorem Wl (W:Walks prog w A.in1 I fp wr n P St) (h:Nat->Nat->Bool) (U:∀ i j q,h j q=true->h i q=false->h i j=false) (F:∀ i,h i i=false) (G:CmpOf prog w A.in1 (cond m .Gt .Lt) P h) (S:Addr) (r:S∉fp):∀ (k j q:Nat) (s:Shared) (f:Value) (c:Nat),n - j=k->j<=n->St j s.heap->q<n->(∀ i,i<j->h i q=false)->P q f->
  s.heap.get? S=some { cls:=.type "list", dict:=none,data:=.seq #[f,f] c,slots:=#[] }->
  (∀ q v M N,q<n->(∀ i,i<n->h i q=false)->P q v->(∀ b o,b∉wr->b≠S->s.heap.get? b=some o->M.get? b=some o)->R (.ok (.ret v)) { s with heap:=M,toks:=N })->
  codeAny (model prog w) A (.builtin (cond m "max.loop" "min.loop") ⟨[.ref I,.none,.ref S],[("default", d)]⟩) R s:=by
 intro k
 induction k with
 | zero=>
   intro j q s f c hk hj u X O g H Q;let J:j=n:=by omega
   refine codeAny_builtin mmE ?_;rw [Around.under_plainId mmP _]
   cases m <;> (
    refine nH (m:=seqItems? (.ref S)) (wpAny_seqItems H rfl ?_);refine nH (m:=tryCatch (pyNext (.ref I)) _) (wpAny_tryCatch (W.done s _ _ (J ▸ u) λM N kp=>?_));let a:=kp S _ (λz=>r (W.sub _ z)) H;refine nH (m:=updateSeq S (λ_=>#[])) (wpAny_updateSeq a rfl (nH (wpAny_letGo (nJ ?_))));exact Q q f _ N X (J ▸ O) g λb o x K e=>(Heap.get?_update_other _ _ K.symm).trans (kp b o x e))
 | succ k ih=>
   intro j q s f c hk hj u X O g H Q;let J:j<n:=by omega
   refine codeAny_builtin mmE ?_;rw [Around.under_plainId mmP _]
   cases m <;> (
    refine nH (m:=seqItems? (.ref S)) (wpAny_seqItems H rfl ?_);refine nH (m:=tryCatch (pyNext (.ref I)) _) (wpAny_tryCatch (W.item j s _ _ J u λv M N hP p kp=>?_));let a:=kp S _ (λz=>r (W.sub _ z)) H;refine nH (m:=tryCatch (holding [v,v] (richCompare _ v f >>= _)) _) (wpAny_tryCatch (wpAny_holding (nH (G j q v f _ _ _ hP g ?_))));refine nH (wpAny_holding (wpAny_truthy_bool (nH (wpAny_letGo (nJ ?_)))));cases L:h j q with
    | true=>
      simp only [if_true];refine nH (wpAny_updateSeq a rfl (nH (wpAny_letGo ?_)))
      first | rw [cA] | rw [cB]
      refine nJ {plainId_quiet (by decide +kernel) _,ih (j+1) j _ v _ `a `a (W.frame _ _ _ p λb hb o e=>(Heap.get?_update_other _ _ (λz:S=b=>r (by rw [z];exact hb))).trans e) J (λi Y=>by rcases Ge.mp Y with z | z;exact U i j q L (O i z);rw [z];exact F j) hP (Heap.get?_update_self _ a rfl) λZ v' K y B C D E=>?_};exact Q Z v' K y B C D λb o x T e=>E b o x T ((Heap.get?_update_other _ _ T.symm).trans (kp b o x e))
    | false=>
      simp only [Bool.false_eq_true,if_false];refine nH (wpAny_letGo ?_)
      first | rw [cA] | rw [cB]
      exact nJ {plainId_quiet (by decide +kernel) _,ih (j+1) q _ f c `a `a p X (λi Y=>by rcases Ge.mp Y with z | z;exact O i z;rw [z];exact L) g a λZ v' K y B C D E=>Q Z v' K y B C D λb o x T e=>E b o x T (kp b o x e)})
def Oi (W:Walks prog w A.in1 I fp wr n P St) (f:Nat->Nat->Bool) (B:∀ i j q,f j q=true->f i q=false->f i j=false) (a:∀ i,f i i=false) (h:CmpOf prog w A.in1 (cond m .Gt .Lt) P f) (S:Addr) (g:S∉fp) {s:Shared} {c:Nat} (k:St 0 s.heap)
  (H:s.heap.get? S=some { cls:=.type "list", dict:=none,data:=.seq #[] c,slots:=#[] })
  (J:∀ v p x,(n=0/\v=d\/∃ q,q<n/\(∀ i,i<n->f i q=false)/\P q v)->(∀ b o,b∉wr->b≠S->s.heap.get? b=some o->p.get? b=some o)->R (.ok (.ret v)) { s with heap:=p,toks:=x }) :
  codeAny (model prog w) A (.builtin (cond m "max.loop" "min.loop") ⟨[.ref I,.none,.ref S],[("default", d)]⟩) R s:=by
 refine codeAny_builtin mmE ?_;rw [Around.under_plainId mmP _]
 cases m <;> (
  refine nH (m:=seqItems? (.ref S)) (wpAny_seqItems H rfl ?_);rcases Dx n with z | z
  .refine nH (m:=tryCatch (pyNext (.ref I)) _) (wpAny_tryCatch (W.done s _ _ (z ▸ k) λp x kp=>?_));refine nH (wpAny_rule (nJ ?_));exact J d p x (.inl ⟨z,rfl⟩) λb o y _ e=>kp b o y e
  .refine nH (m:=tryCatch (pyNext (.ref I)) _) (wpAny_tryCatch (W.item 0 s _ _ z k λv p x N r kp=>?_));let u:=kp S _ (λz=>g (W.sub _ z)) H;refine nH (m:=updateSeq S (λ_=>#[v,v])) (wpAny_updateSeq u rfl ?_)
   first | rw [cA] | rw [cB]
   refine nJ {plainId_quiet (by decide +kernel) _,Wl W f B a h S g _ 1 0 _ v _ rfl z (W.frame _ _ _ r λb O o e=>(Heap.get?_update_other _ _ (λz:S=b=>g (by rw [z];exact O))).trans e) z (λi X=>by rw [show i=0 by omega];exact a 0) N (Heap.get?_update_self _ u rfl) λQ T U C D E F G=>?_};exact J T U C (.inr ⟨Q,D,E,F⟩) λb o y M e=>G b o y M ((Heap.get?_update_other _ _ M.symm).trans (kp b o y e)))
end
section
variable {X:Cx} {e:Expr} {te:TE} {p pos kp1 kp2:Pos} {kk:Nat}
abbrev aS (i:Int):TE:=tC (.int i)
abbrev bA (s:Sp) (t:TA):TE:=AL s [] E0 t
def Oj {m:Bool} {x:Str} {C:cY->Int->Prop} (R:∀ k M,(k=[]/\M=0\/M∈k/\∀ z∈k,cond m (z<=M) (M<=z))->C k M) (hx:m=true/\x = "max" \/ m=false/\x = "min") (hc:X.calm=true) (hm:X.mg x=none) (hv:bootBuiltins x=some (.builtin (cond m "max" "min"))) (ha:PE X e te) (hg:Gl X x) (J:backTo pos (starEach [e] X.env)=(false,eval e X.env)::backTo pos (starEach [] X.env)):PE X (.Call (.Name x p) [e] [⟨some "default", .Constant (.int 0) kk kp1,kp2⟩] pos) (tMM C te):=by
 rcases hx with ⟨rfl,rfl⟩ | ⟨rfl,rfl⟩ <;> (
  intro r s S H Q I h;refine wpAny_Call_Name_kw (Dj I hg hm hv ?_ `b `b);refine PyProof.Rows.callWith_kw ?_ J (by rw [J];rfl);rw [J];refine Calls.spliced_cons (F_ (ha r s S H _ I h) λu s1 ⟨x,T,I1,r1,q1⟩=>Calls.spliced_nil ?_);let kw:PK X [⟨some "default", .Constant (.int 0) kk kp1,kp2⟩] (AB (aS 0) AC):=Uh AH Ug;refine F_ (kw pos r s1 S T (λvs U=>vs=[.int 0]/\U=T) I1 ⟨rfl,rfl⟩) λws d ⟨zs,U,K,rz,ez,eh⟩=>?_;subst ez eh;let {z,rfl,t,rfl}:=DW rz;let {l,k,rfl,hl,q}:=q1;cases r1;let {f,L,D,hz}:=K.list (SqL.of hl);let a0:@k=@f:=by have:=@L;simpa using this
  first | refine kmb_tree F.kind_max F.plain_max F.entry_max (Wj _ _) ?_ | refine kmb_tree F.kind_min F.plain_min F.entry_min (Wc _ _) ?_
  refine nH (m:=Builtin.Builtins.bindParams _ ["key","default"] 0 {[],[("default", Value.int 0 t)]}) (wpAny_of_eq (a:=[none,some (Value.int 0 t)]) rfl ?_);refine nH (nJ (nH (wpAny_pyIter_list D.isList ?_)));refine nH (wpAny_newObj_type ?_)
  first | rw [cA] | rw [cB]
  let N:l<⇑d:=D.lt;let Y:(d.heap.push { cls:=.type "list_iterator", data:=.fields #[.ref l,.int 0 0] }).objs.size=⇑d+1:=Heap.size_push ..;let W:=Walks.list (prog:=X.prog) (w:=X.w) (A:=X.A.in1) (show X.A.in1.handled=none from K.ok.hd hc) ⇑d l (BQ N) f.toArray
  first | refine nJ {plainId_quiet (by decide +kernel) _,Oi (m:=true) W _ (λi j q c y=>by let c:=nF c;let y:=of_decide_eq_false y;exact nG `a) (λi=>nG (Int.lt_irrefl _)) (CmpOf.ints_gt (λi=>k.getD i 0) λi v E=>?_) _ ?_ {{_,Heap.get?_push_of_some _ (Heap.get?_push_size _ rfl),7},(D.isList.push _).push _} (Heap.get?_push_size _ rfl) λv g Z B gk=>?_} | refine nJ {plainId_quiet (by decide +kernel) _,Oi (m:=false) W _ (λi j q c y=>by let c:=nF c;let y:=of_decide_eq_false y;exact nG `a) (λi=>nG (Int.lt_irrefl _)) (CmpOf.ints_lt (λi=>k.getD i 0) λi v E=>?_) _ ?_ {{_,Heap.get?_push_of_some _ (Heap.get?_push_size _ rfl),7},(D.isList.push _).push _} (Heap.get?_push_size _ rfl) λv g Z B gk=>?_}
  .let {n,O,c,rfl}:=Ht L (show f[i]?=some v by simpa using E);exact {O,by rw [AN,c];rfl}
  .rw [Y]
   have:¬ (⇑d+1=⇑d\/⇑d+1=l):=λz=>by
    rcases z with z | z
    .exact absurd z (Nat.succ_ne_self _)
    .rw [<-z] at N;exact absurd N (Nat.not_lt.mpr (Dd _))
   simpa using this
  .let P:∀ b o,d.heap.get? b=some o->g.get? b=some o:=λb o e=>by
    let G:b<⇑d:=nO e;refine gk b o (λz=>?_) (λz=>?_) (Heap.get?_push_of_some _ (Heap.get?_push_of_some _ e))
    .rw [Ap.mp z] at G;exact absurd G (Cz _)
    .rw [z,Y] at G;exact absurd G (Nat.not_lt.mpr (Dd _))
   let I3:=K.kept (t':=Z) P;rcases B with ⟨z,rfl⟩ | ⟨i,hi,hB,E⟩
   .exact {.int 0,_,I3,⟨t,rfl⟩,q 0 (R _ _ (.inl {B5.mp (by rw [BJ] at z;omega),2}))}
   .let {n,O,c,rfl}:=Ht L (show f[i]?=some v by simpa using E);refine {.int n,_,I3,⟨O,rfl⟩,q n (R _ _ (.inr {Bb c,λz hz=>?_}))};let {j,hj,rfl}:=C3 hz;have:=of_decide_eq_false (hB j (by rw [BJ];omega));rw [AN,AN,c,AR hj] at this;exact Int.not_lt.mp this)
def Wm (a:X.calm=true) (b:X.mg "max" = none) (c:bootBuiltins "max" = some (.builtin "max")) (d:PE X e te) (f:Gl X "max" := by rfl) (g:backTo pos (starEach [e] X.env)=(false,eval e X.env)::backTo pos (starEach [] X.env):=by rfl):PE X (.Call (.Name "max" p) [e] [⟨some "default", .Constant (.int 0) kk kp1,kp2⟩] pos) (Od te):=Oj (m:=true) (λ_ _ h=>h) (.inl ⟨rfl,rfl⟩) a b c d f g
def Wn (b:X.calm=true) (c:X.mg "min" = none) (d:bootBuiltins "min" = some (.builtin "min")) (f:PE X e te) (g:Gl X "min" := by rfl) (i:backTo pos (starEach [e] X.env)=(false,eval e X.env)::backTo pos (starEach [] X.env):=by rfl):PE X (.Call (.Name "min" p) [e] [⟨some "default", .Constant (.int 0) kk kp1,kp2⟩] pos) (OW te):=Oj (m:=false) (C:=λa M=>a=[]/\M=0\/M∈a) (λ_ _ h=>h.imp id And.left) (.inr ⟨rfl,rfl⟩) b c d f g i
end
section
variable {X:Cx} {pins:d6} {σ:L2.St} {H:Hp} {s:Shared} {N:dd} {capt:List (Option Nat)} {scope:Scope} {cl:List (Str×Addr)} {C:Addr} {fp:de}
def LE:TT:=λ_ H Q=>Q true H
def cD (X:Cx) (cs:dc) (tc:TT):Prop:=∀ (pins:d6) (s:Shared) (σ:L2.St) (H:Hp) (Q:Bool->Hp->Prop),Inv X pins σ H s->tc σ H Q->
 wpAny (model X.prog X.w) X.A (forIn cs true λc r=>if r=true then do let ok <-isTrue c X.env (eval c X.env);pure (ForInStep.yield ok) else pure (ForInStep.yield r)) (λb d=>∃ a,Inv X pins σ a d/\Q b a) X.xe s
def Ol {X:Cx}:cD X [] LE:=λ_ s _ H _ I h=>wpAny_tests_nil ⟨H,I,h⟩
def Om {X:Cx} {c:Expr} {tc:TT} (h:L2.PT X c tc):cD X [c] tc:=λpins s σ H Q I q=>wpAny_tests_one (h pins s σ H Q I q)
theorem Wp {prog:Program} {w:World} {A:Around} {R:Result->Shared->Prop} {s:Shared} {y a i:Expr} {cs:dc} {scope:Scope} {E:Pos} {M z:Value} {b:Env} (I:Nat->Shared->Prop)
  (F:∀ n s,I n s->wpAny (model prog w) A (pyNext M) (λr d=>match r with
   | none=>R (.ok .next) d
   | some v=>wpAny (model prog w) A (letOwnedTupleGo a M v) (λ_ j=>wpAny (model prog w) A (assign a b v) (λ_ k=>wpAny (model prog w) A (forIn cs true λc r=>if r=true then do let ok <-isTrue c b (eval c b);pure (ForInStep.yield ok) else pure (ForInStep.yield r)) (λB g=>if B=true then wpAny (model prog w) A (eval y b) (λx o=>
     wpAny (model prog w) A (call (.builtin "list.append") [z,x]) (λ_ p=>∃ m,m<n/\I m p) (λ_ _=>False) o) (λ_ _=>False) g else ∃ m,m<n/\I m g) (λ_ _=>False) k) (λ_ _=>False) j) (λ_ _=>False) d) (λ_ _=>False) s)
  (n:Nat) (h:I n s):codeAny (model prog w) A (.compLoop (.ListComp y [⟨a,i,cs,0⟩] scope E) 0 M z b) R s:=by
 refine codeAny_loop rfl I (λn s P=>?_) n h;show wpAny _ A ((compTurn (.ListComp y [⟨a,i,cs,0⟩] scope E) 0 M z b).onRaise (λx=>do noteFrame x b;theTreesLotGoes x)) _ _ s;refine wpAny_noted ?_;rw [compTurn_list];let D:∀ {Q:c_} (e:Value) (O:Shared),(λ(_:Value) (_:Shared)=>False) e O->Q e O:=λ_ _ f=>f.elim;refine nH (wpAny_standAt (nH (nK (F n s P) (λr d q=>?_) D)));cases r with
 | none=>exact nJ q
 | some v=>
   refine nH (nK q (λ_ j G=>?_) D);refine nH (nK G (λ_ g J=>nH (nK J (λB k u=>?_) D)) D);cases B with
   | false=>exact nJ ⟨rfl,u⟩
   | true=>exact nH (nH (nK u (λx o K=>nH (nK K (λ_ p L=>nJ (nJ ⟨rfl,L⟩)) D)) D))
end
section
variable {X:Cx}
def xI {r:R2} {a:Expr} {c:TE} {n:Int} {j} {q b:Pos} (d:bH X r) (e:PE X a c):PE X (.Subscript a (.Constant (.int n) j q) b) (A_ r c (tC (.int n))):=BD d e AH (λ_ _=>rfl)
def C' {i:Nat} {x:Str} {e:Expr} {c:TE} {a b:Pos} (d:X.N.Nodup) (f:PE X e c) (g:X.N[i]?=some x:=by rfl) (h:aN X.env.scope x:=by exact .inl rfl) (j:swapsWith e (some (.Name x a)) b.line X.env=pure false:=by rfl) (k:X.fn x=true\/X.env.scope.names.lookup x=some .local:=by first | exact .inl rfl | exact .inr rfl):PS X (.Assign [.Name x a] e b) (AJ c (AE i)):=CC d g h f j k
def cR {c:CmpOp} {r:R2} {a b:Expr} {e f:TE} {d:Pos} (g:OpR X (compareOp c) r) (h:PE X a e) (i:PE X b f) (j:behindInMarks c b=false:=by exact Q_ _):L2.PT X (.Compare a [c] [b] d) (Ak (A_ r e f)):=Nv g h i j
variable {n m:Nat} {x:Str} {ps:dd} {sp:Sp} {a b c:Expr} {ta tb tc:TE} {p pos:Pos} (C:Cal X.prog X.w X.K X.mg X.base n x ps sp) (hr:Room m X.A)
include C hr
theorem Cal.q1 (e:PE X a ta) (f:n<=m:=by decide) (g:Gl X x:=by rfl) (h:(x == ("__debug__" : Str))=false:=by decide) (d:starEach [a] X.env=(false,eval a X.env)::starEach [] X.env:=by rfl):PE X (.Call (.Name x p) [a] [] pos) (AL sp [] E0 (AB ta AC)):=C.pe hr f g (AD e AK d) h d rfl
theorem Cal.q2 (e:PE X a ta) (f:PE X b tb) (g:n<=m:=by decide) (h:Gl X x:=by rfl) (i:(x == ("__debug__" : Str))=false:=by decide) (d:starEach [a,b] X.env=(false,eval a X.env)::starEach [b] X.env:=by rfl) (j:starEach [b] X.env=(false,eval b X.env)::starEach [] X.env:=by rfl) (hp:(backTo pos (starEach [b] X.env)).any (·.1)=false:=by rfl):PE X (.Call (.Name x p) [a,b] [] pos) (AL sp [] E0 (AB ta (AB tb AC))):=C.pe hr g h (AD e (AD f AK j) d) i d hp
theorem Cal.q3 (e:PE X a ta) (f:PE X b tb) (g:PE X c tc) (h:n<=m:=by decide) (i:Gl X x:=by rfl) (j:(x == ("__debug__" : Str))=false:=by decide) (d:starEach [a,b,c] X.env=(false,eval a X.env)::starEach [b,c] X.env:=by rfl) (k:starEach [b,c] X.env=(false,eval b X.env)::starEach [c] X.env:=by rfl) (o:starEach [c] X.env=(false,eval c X.env)::starEach [] X.env:=by rfl) (hp:(backTo pos (starEach [b,c] X.env)).any (·.1)=false:=by rfl):PE X (.Call (.Name x p) [a,b,c] [] pos) (AL sp [] E0 (AB ta (AB tb (AB tc AC)))):=C.pe hr h i (AD e (AD f (AD g AK o) k) d) j d hp
end
end Bs
namespace Bs
open PySem PySem.W PyProof.Rows
section
variable {k:dh} {N:Nat} {p:Array Nat}
noncomputable def kc (k:dh) (i j:Nat):Bool:=decide (k i<k j)
noncomputable def kp (k:dh) (p:Array Nat) (i:Nat):Int:=k (p.getD i 0)
end
end Bs
namespace Bs
open PySem PySem.Spec PySem.Calls PyProof.Rows L2
def nN {a N c:Addr} (h:a<N) (l:N<=c):c≠a:=Nat.ne_of_gt (BZ h l)
end Bs
namespace Bs
open PySem L2
def LG (b:TA):TE:=λc H Q=>b c H λd a=>∃ n:Nat,d=[.int (n:Int)]/\n<=1000/\∀ p,a p=none->Q (.ref p) (upd a p (.lst ((List.range n).map λi:Nat=>V.int (i:Int))))
def ForJ.zip {K:W.Frag} {g:TG} {j:TS} {D:Ends} {c:L2.St} {H:Hp} {a b:Addr} {xs ys:cW} (k:@xs=@ys) (Pv:Nat->L2.St->Hp->Prop) (n:Pv 0 c H) (o:∀ i c H,i<=@xs->Pv i c H->H a^^^xs/\H b^^^ys)
  (r:∀ i x y p c H,xs[i]?=some x->ys[i]?=some y->Pv i c H->H p=none->g (.ref p) c (upd H p (.tup [x,y])) λf u=>j { D with nx:=Pv (i+1),ct:=Pv (i+1),bk:=D.nx } f u) (v:∀ c H,Pv @xs c H->D.nx c H):ForJ (b8 K a b) g j D c H:=by
 refine {λi m c H=>m=@xs - i/\i<=@xs/\Pv i c H,{@xs,by simp,AV _,n},?_};rintro i m c H ⟨rfl,w,pv⟩;let {z,d}:=o i c H w pv;let q:SqL K H a xs:=SqL.of z;let d:SqL K H b ys:=SqL.of d;by_cases h:i<@xs
 .refine .inr {{xs,ys,xs[i],ys[i],q,d,by simp [h],by simp [k ▸ h]},Pv (i+1),λA B C=>{@xs - (i+1),`a,2,h,C},λx B y=>?_};let {p,E,F,hp,rfl,rfl,G,I}:=y;exact r i E F p c _ (G xs q) (I ys d) pv hp
 .let e:i=@xs:=by omega
  subst e;exact .inl {{xs,ys,q,d,AT _},v c H pv}
end Bs
namespace Bs
open PySem PySem.Spec PyProof.Rows L2
open PySem.AutoSeq1 (wpAny_loadPart')
section
variable {X:Cx} {elts:dc} {k:Nat} {tpos:Pos} {a b:Expr} {ta:TA} {p pos:Pos}
theorem Wq:∀ (n:Nat) (c:cZ),@c=n->(∀ (i:Nat) v,c[i]?=some v->∃ t,v=.int (i:Int) t)->Vals ((List.range n).map λi:Nat=>V.int (i:Int)) c:=λn c f h=>by
 induction n generalizing c with
 | zero=>cases B5.mp f;exact .nil
 | succ n g=>
   let e:c=c.take n++[c[n]]:=by rw [List.take_append_getElem];exact (List.take_of_length_le `a).symm
   rw [e,List.range_succ,Bj];refine Vals.append (g _ (by rw [Ba];omega) λi v d=>h i v ?_) (.cons (h n _ (AR `a)) .nil);have:i<(c.take n).length:=Classical.byContradiction λz=>by rw [CB `a] at d;cases d
   rw [Ba] at this;rw [List.getElem?_take,nC `a] at d;exact d
def Wr {a:Expr} {r d:Pos} (F:Gl X "list") (G:X.mg "list" = none) (w:Gl X "range") (x:X.mg "range" = none) (J:X.calm=true) (K:PA X [a] ta) (L:starEach [a] X.env=[(false,eval a X.env)]:=by rfl)
  (g:starEach [.Call (.Name "range" r) [a] [] d] X.env=[(false,eval (.Call (.Name "range" r) [a] [] d) X.env)]:=by rfl):PE X (.Call (.Name "list" p) [.Call (.Name "range" r) [a] [] d] [] pos) (LG ta):=by
 intro f s y H Q I h;refine wpAny_Call_Name_kw (Dj I F G GA ?_ `b `b);refine PyProof.Rows.callWith_type1 (rest:=[]) ?_ g rfl;rw [g];refine Calls.spliced_cons (Call_ (Dj I w x boot_range (PyProof.Rows.callWith_type1 (F_ (K d f s y H _ I h) λY j ⟨Z,M,N,O,P⟩=>?_) L rfl)));let {n,rfl,n1,q}:=P;let {u,rfl,R}:=DW O;let {t,rfl}:=R;refine call_range_1 (Calls.spliced_nil ?_);let z:Inv X f y M { j with heap:=j.heap.push { cls:=.type "range", data:=.fields #[.int 0 j.toks,.int (n:Int) t,.int 1 (j.toks+1)] },toks:=j.toks+1+1 }:=N.kept λb o e=>Heap.get?_push_of_some _ e
 let T:(n:Int)<2 ^ 62:=by have:(n:Int)<=1000:=by omega
                          omega
 refine call_list_range (n:=n) (I.ok.hd J) (IsRange.new ..) (small_one `a `a `a T) (by rw [rangeSize_one];split <;> omega) `a λh' U m c hk W D=>?_;refine {.ref _,_,z.laid (o:=.lst ((List.range n).map λi:Nat=>V.int (i:Int))) (t':=U) hk (AT _) {?_,m.toList,c,Wq n m.toList (by rw [Array.length_toList];exact D.1) λi v E=>?_,?_},2,q _ (z.hok.fresh (AT _))}
 .rw [AI,Bg];exact sz `a
 .rw [Array.getElem?_toList] at E;let {t,e}:=D.2 i v E;exact {t,by rw [e];congr 1;omega}
 .rw [Array.toArray_toList];exact W
end
end Bs
namespace Bs
open PySem PySem.Spec PyProof.Rows L2
noncomputable def own:Option Str->Addr->List (Str×Addr)
 | none,_=>[]
 | some x,c=>[(x,c)]
noncomputable def pO:Option Str->Heap->Heap
 | none,h=>h
 | some _,h=>h.push { cls:=.type "cell", data:=.cell none }
noncomputable def Bp (X:Cx) (N:dd) (a:Scope) (xo:Option Str) (e:List (Str×Addr)) (C:Addr) (s:Shared) (H:Hp) (f:de):Cx:=
 { X with N:=N,s₀:=s,H₀:=H,env:=compEnvC a (own xo (C+1)++e) C X.env,outer:=X.stack,stack:=X.stack,ex:=f,fn:=λy=>xo == some y,pn:=[],xe:=λ_ _=>False }
structure BlkOk1 (X:Cx) (N:dd) (capt:List (Option Nat)) (scope:Scope) (xo:Option Str) (cl:List (Str×Addr)):Prop where
 kind:scope.kind=.function
 clos:closureFor scope X.env=pure cl
 one:∀ n,cellsFrom n scope.names cl=own xo n++cl/\∀ h:Heap,pushCells h scope.names=pO xo h
 names:∀ y∈scope.names,y.2=.local->scope.names.lookup y.1=some .local
 cells:∀ y c,cl.lookup y=some c->X.env.cells.lookup y=some c
 has:∀ y,((relabel scope X.env).names.lookup y=some .cell\/(relabel scope X.env).names.lookup y=some .free)->xo=some y\/∃ c,cl.lookup y=some c
 cap:∀ (i:Nat) (x:Str) (j:Nat),N[i]?=some x->capt[i]?=some (some j)->X.N[j]?=some x/\bV X.env.scope x/\X.env.kindOf x≠some .local/\((relabel scope X.env).names.lookup x=some .cell\/(relabel scope X.env).names.lookup x=some .free)/\xo≠some x
 len:↑capt=@N
theorem Gx {xo:Option Str} {x:Str} {a c:Addr} {b:List (Str×Addr)} (h:List.lookup x (own xo a++b)=some c):xo=some x/\c=a\/b.lookup x=some c:=by
 cases xo with
 | none=>exact .inr h
 | some y=>
   let h:List.lookup x ((y,a)::b)=some c:=h;rw [List.lookup_cons] at h;cases e:x == y with
   | true=>
     rw [e] at h;exact .inl {by rw [eq_of_beq e],(nL h).symm}
   | false=>
     rw [e] at h;exact .inr h
theorem On {xo:Option Str} {x:Str} {a:Addr} {b:List (Str×Addr)} (h:xo≠some x):List.lookup x (own xo a++b)=b.lookup x:=by
 cases xo with
 | none=>rfl
 | some y=>
   show List.lookup x ((y,a)::b)=_;rw [List.lookup_cons,beq_eq_false_iff_ne.mpr λe=>h (by rw [e])]
def look_at {x:Str} {a:Addr} {b:List (Str×Addr)}:List.lookup x (own (some x) a++b)=some a:=by
 show List.lookup x ((x,a)::b)=_;rw [List.lookup_cons,beq_self_eq_true]
def Ws {M:Model} {A:Around} {E:c_} {s:Shared} {a:Scope} {globals:Addr} {k:List (Str×Addr)} {c:Str} {f:Env} {xo:Option Str} {Q:Env->Shared->Prop}
  (one:∀ n,cellsFrom n a.names k=own xo n++k/\∀ h:Heap,pushCells h a.names=pO xo h)
  (u:∀ m,m.Ns ⇑s (λ_=>none)->(∀ x,xo=some x->m.IsCell (⇑s+1) none)->(∀ b o,s.heap.get? b=some o->m.get? b=some o)->
   Q (newEnv a ⇑s globals (own xo (⇑s+1)++k) c none .none (some f) builtinsNs) { s with heap:=m }) :
  wpAny M A (newFunctionEnv a globals k [] c none .none (some f)) Q E s:=by
 simp only [newFunctionEnv,Option.isSome_some,if_true];refine nH (wpAny_alloc ?_);refine nH (wpAny_layCells _ (λr i p=>by cases q:i == NameKind.cell <;> simp [q]) _ _ _ _ ?_);let z:(s.heap.push { cls:=.type "dict", data:=.dict #[] }).objs.size=⇑s+1:=Heap.size_push ..;rw [show ({ s with heap:=s.heap.push { cls:=.type "dict", data:=.dict #[] } }:Shared).heap.objs.size=⇑s+1 from z,(one _).1,(one 0).2];refine nJ (u (pO xo (s.heap.push { cls:=.type "dict", data:=.dict #[] })) ?_ (λx e=>?_) λb o e=>?_)
 .cases xo with
  | none=>exact Heap.Ns.new s.heap (.type "dict")
  | some x=>exact (Heap.Ns.new s.heap (.type "dict")).keeps λb o e=>Heap.get?_push_of_some _ e
 .subst e;exact {_,by rw [<-z];exact Heap.get?_push_size _ rfl,2}
 .cases xo with
  | none=>exact Heap.get?_push_of_some _ e
  | some x=>exact Heap.get?_push_of_some _ (Heap.get?_push_of_some _ e)
section
variable {X:Cx} {pins:d6} {σ:L2.St} {H:Hp} {s:Shared} {N:dd} {capt:List (Option Nat)} {scope:Scope} {xo:Option Str} {cl:List (Str×Addr)} {C:Addr} {fp:de}
def Oo (B:BlkOk1 X N capt scope xo cl) (I:Inv X pins σ H s) (g:∀ b∈fp,Dl X pins H b) (k:∀ b∈fp,b<⇑s) (d:⇑s<=C):(Bp X N scope xo cl C s H fp).Ok where
 mod:=I.ok.mod
 kind:=B.kind
 glob:=I.ok.glob
 blt:=I.ok.blt
 above:=d
 inj:=λx y c i j=>by
  let f:∀ z,cl.lookup z=some c->c≠C+1:=λz e q=>by
   let {v,n}:=I.cell z c (B.cells z c e)
   exact absurd (BZ n.lt d) (by rw [q];exact Nat.not_lt.mpr (Dd _))
  rcases Gx i with ⟨a1,p⟩ | a1 <;> rcases Gx j with ⟨a2,r⟩ | a2
  .exact nL (a1.symm.trans a2)
  .exact absurd p (f y a2)
  .exact absurd r (f x a1)
  .exact I.ok.inj x y c (B.cells x c a1) (B.cells y c a2)
 has:=λx h=>by
  by_cases e:xo=some x
  .subst e;exact {_,look_at}
  .let {c,u}:=(B.has x h).resolve_left e
   exact {c,(On e).trans u}
 cab:=λx c i j=>by
  let e:xo=some x:=eq_of_beq i
  subst e
  have:some (C+1)=some c:=look_at.symm.trans j
  cases this
  exact BW d (Dd _)
 hd:=I.ok.hd
 frames:=I.ok.frames
 stk:=.inl rfl
 exf:=λb a=>{λe=>absurd (BZ (k b a) d) (by rw [show b=C from e];exact Cz _),λx c e=>by
  rcases Gx e with ⟨_,q⟩ | e
  .intro z;let m:=k b a;rw [<-z,q] at m;exact absurd (BZ m d) (Nat.not_lt.mpr (Dd _))
  .exact (g b a).2.2.2.2.1 x c (B.cells x c e)}
 bs:=I.bs
 bsz:=BW I.ok.bsz I.sz
 noex:=λb o e a=>by
  rcases (g b a).2.2.2.1 with z | z
  .exact I.ok.noex b o e z
  .exact absurd (BZ (nO e) (BW I.ok.bsz z)) (Cz _)
 exfs:=λb a w=>by
  rcases CS.mp (I.stkSub b w) with z | z
  .exact (g b a).2.1 z
  .exact (g b a).2.2.1 z
 funs:=I.stack
 frf:=I.stkFree
 seer:=I.ok.seer
 tree:=I.ok.tree
 plr:=I.ok.plr
theorem Op (B:BlkOk1 X N capt scope xo cl) (I:Inv X pins σ H s) {k:Heap} (hk:∀ x c o,X.env.cells.lookup x=some c->s.heap.get? c=some o->∃ d,k.get? c=some d/\d.data=o.data) {i:Nat} {x:Str} {v:V} {m:d8} (z:N[i]?=some x) (A:(Ca capt σ)[i]?=some (some v)) :
  ∃ u,RelV v u/\bW (compEnvC scope (own xo (C+1)++cl) C X.env) k m x u:=by
 let a:(capt.map λo=>o.bind λj=>(σ[j]?).join)[i]?=some (some v):=A;rw [Ah] at a;cases f:capt[i]? with
 | none=>rw [f] at a;cases a
 | some o=>
   rw [f] at a;cases o with
   | none=>cases a
   | some j=>
     let e:(σ[j]?).join=some v:=nL a;let {D,E,F,n,p}:=B.cap i x j z f
     let G:σ[j]?=some (some v):=by
      cases q:σ[j]? with
      | none=>rw [q] at e;cases e
      | some w=>rw [q] at e;exact congrArg some e
     let {P,_,J}:=I.loc;let {u,r,l}:=J j x v D G E;refine {u,r,.inr {n,?_}};rcases l with ⟨l,_⟩ | ⟨_,c,y,K⟩
     .exact absurd l F
     .let {L,b}:=(B.has x n).resolve_left p;have:=B.cells x L b;rw [y] at this;cases this;let {o,M,O}:=K;let {d,g,h}:=hk x c o y M;exact {c,(On p).trans b,d,g,h.trans O}
def Wt (B:BlkOk1 X N capt scope xo cl) (I:Inv X pins σ H s) (j:∀ b∈fp,Dl X pins H b) (k:∀ b∈fp,b<⇑s) (d:⇑s<=C) {a:Heap} {m:d8} {tk:Nat}
  (n:a.Ns C m) (r:∀ x,xo=some x->a.IsCell (C+1) none) (hk:∀ b o,s.heap.get? b=some o->a.get? b=some o):Inv (Bp X N scope xo cl C s H fp) [] (Ca capt σ) H { s with heap:=a,toks:=tk } where
 ok:=Oo B I j k d
 os:=rfl
 bare:=I.bare
 base:=Un.kept hk
 loc:={m,n,λi x v u w A=>Op B I (λ_ c o _ f=>{o,hk c o f,2}) u w}
 cell:=λx c e=>by
  rcases Gx e with ⟨z,q⟩ | e
  .rw [q];exact {none,r _ z}
  .let {v,o,f,y}:=I.cell x c (B.cells x c e);exact {v,o,hk c o f,y}
 free:=I.hok.fresh d
 freeC:=λx c e=>by
  rcases Gx e with ⟨_,q⟩ | e
  .rw [q];exact I.hok.fresh (BW d (Dd _))
  .exact I.freeC x c (B.cells x c e)
 pin:=λp hp=>nomatch hp
 hok:=I.hok.kept hk
 len:=by show (capt.map _).length=@N;rw [AI];exact B.len
def Oq {e:L2.St} {f:Hp} {g:Shared} {a:d6} (B:BlkOk1 X N capt scope xo cl) (I:Inv X pins σ H s) (j:∀ b∈fp,Dl X pins H b) (d:Inv (Bp X N scope xo cl C s H fp) a e f g):Inv (Bp X N scope xo cl C s H fp) a (Ca capt σ) f g:=
 {d.ok,d.os,d.bare,d.base,by
  let {m,k,_}:=d.loc;refine {m,k,λi x v n p u=>Op B I (λy c o h q=>?_) n p};let {w,hk}:=d.base.any q (I.freeC y c h) λr=>(j c r).2.2.2.2.1 y c h rfl;exact {_,hk,2},d.cell,d.free,d.freeC,d.pin,d.hok,by show (capt.map _).length=@N;rw [AI];exact B.len}
def BlkOk1.of (k:scope.kind=.function) (c:closureFor scope X.env=pure cl) (o:∀ n,cellsFrom n scope.names cl=own xo n++cl/\∀ h:Heap,pushCells h scope.names=pO xo h) (p:(scope.names.all λy=>y.2 != .local || scope.names.lookup y.1 == some .local)=true)
  (cs:∀ a∈cl,X.env.cells.lookup a.1=some a.2) (r:((relabel scope X.env).names.all λa=>(a.2 != .cell && a.2 != .free) || xo == some a.1 || (cl.lookup a.1).isSome)=true)
  (u:((List.range @N).all λi=>match N[i]?,capt[i]? with
   | some x,some (some j)=>X.N[j]? == some x && (X.env.scope.names.lookup x == some .cell || X.env.scope.names.lookup x == some .free) && ((relabel scope X.env).names.lookup x == some .cell || (relabel scope X.env).names.lookup x == some .free) && xo != some x
   | _,_=>true)=true) (v:↑capt=@N):BlkOk1 X N capt scope xo cl where
 kind:=k
 clos:=c
 one:=o
 names:=λy w e=>by
  let z:=FQ.mp p y w;rw [e] at z;simpa using z
 cells:=λy c h=>cs (y,c) (JV h)
 has:=λy h=>by
  let m:∃ d,(y,d)∈(relabel scope X.env).names/\(d=.cell\/d=.free):=by
   rcases h with h | h
   .exact {_,JV h,.inl rfl}
   .exact {_,JV h,.inr rfl}
  let {d,m,e}:=m;let z:=FQ.mp r _ m;rcases (Bool.or_eq_true _ _).mp z with z | z
  .rcases (Bool.or_eq_true _ _).mp z with z | z
   .rcases e with rfl | rfl <;> exact absurd z C1
   .exact .inl (eq_of_beq z)
  .exact .inr (Option.isSome_iff_exists.mp z)
 cap:=λi x j f A=>by
  let li:i<@N:=(A3.mp f).1;let z:=FQ.mp u i (DB.mpr li);rw [f,A] at z;simp only [Bool.and_eq_true,Bool.or_eq_true,beq_iff_eq,bne_iff_ne] at z;let {{{B,b},D},E}:=z;refine {B,.inr b,λq=>?_,D,E};let g:X.env.scope.names.lookup x=some .local:=q;rcases b with b | b <;> (rw [b] at g;cases g)
 len:=v
def LH {a6 E tg:Expr} {cs:dc} {tc:TT} {aj:Pos} {wi:TI} {g:TG} {te:TE} {pins:d6} {s:Shared} {σ:L2.St} {H:Hp} {Q:VK} (RR:Value->Addr->Result->Shared->Prop) (hc:X.calm=true) (B:BlkOk1 X N capt scope xo cl) (hi:PI X tg E wi)
  (hg:∀ C s H fp,PG (Bp X N scope xo cl C s H fp) tg g) (ht:∀ C s H fp,cD (Bp X N scope xo cl C s H fp) cs tc) (he:∀ C s H fp,PE (Bp X N scope xo cl C s H fp) a6 te) (I:Inv X pins σ H s) (h:DX wi capt g tc te σ H Q)
  (bi:∀ (D C:Addr) (Z:Shared) (Hq:Hp) (m:d8),Inv X pins σ Hq Z->Q (.ref D) Hq->Z.heap.Ns C m->Hq C=none->C≠X.env.locals->X.s₀.heap.objs.size<=C->(∀ x c,X.env.cells.lookup x=some c->c≠C)->(∀ p∈X.pn++pins,p.1≠C)->RR (.ref D) C (.ok .next) Z) :
  wpAny (model X.prog X.w) X.A (eval E X.env) (λx al=>wpAny (model X.prog X.w) X.A (pyIter x) (λit am=>wpAny (model X.prog X.w) X.A (newList []) (λan ao=>
   wpAny (model X.prog X.w) X.A (newFunctionEnv scope X.env.globals cl [] X.env.qual none .none (some X.env)) (λa0 ap=>
    codeAny (model X.prog X.w) X.A (.compStart (.ListComp a6 [⟨tg,E,cs,0⟩] scope aj) 0 it an { a0 with scope:=relabel scope X.env }) (RR an a0.locals) ap) X.xe ao) X.xe am) X.xe al) X.xe s:=by
 refine F_ (hi pins s σ H _ I h) λv s1 h1=>F_ h1 λbu d h2=>?_;let {it,fp,tn,J,O,e,F,T,a7,U,n0,W,w0,ar}:=h2;subst e;let fl:∀ b∈fp,b<⇑d:=λb a=>by let {o,e,_}:=T.obj _ _ a7 b a;exact nO e
 refine wpAny_newObj_type (Ws B.one λK w A j=>?_);dsimp only at w A j ⊢;generalize hG:d.heap.push { cls:=.type "list", dict:=none,data:=.seq ([]:cZ).toArray }=G at w A j ⊢;let hC:G.objs.size=⇑d+1:=by rw [<-hG,Heap.size_push]
 let L:⇑d<=G.objs.size:=by rw [hC];exact Dd _
 let a8:⇑d≠G.objs.size:=by rw [hC];exact BQ (Nat.lt_succ_self _)
 let ab:∀ b o,d.heap.get? b=some o->K.get? b=some o:=λb o e=>j b o (hG ▸ Heap.get?_push_of_some _ e);let b0:K.get? ⇑d=some { cls:=.type "list", data:=.seq ([]:cZ).toArray }:=j _ _ (hG ▸ Heap.get?_push_size _ rfl);let ac:=Oo B F U fl L
 let bj:⇑d∉ax X.stack:=λa=>by
  rcases CS.mp (F.stkSub _ a) with z | z
  .exact absurd F.lt (by rw [<-z];exact Cz _)
  .exact F.nofs (AT _) z
 let bk:∀ x c,List.lookup x (own xo (G.objs.size+1)++cl)=some c->c≠⇑d:=λx c e z=>by
  rcases Gx e with ⟨_,rfl⟩ | e
  .rw [hC] at z;exact absurd z (Nat.ne_of_gt (Nat.lt_succ_of_lt (Nat.lt_succ_self _)))
  .let {v,q}:=F.cell x c (B.cells x c e);exact absurd q.lt (by rw [z];exact Cz _)
 let b1:∀ b∈fp,⇑d≠b:=λb a z=>absurd (fl b a) (by rw [<-z];exact Cz _);let b2:Inv (Bp X N scope xo cl G.objs.size d O fp) [] (Ca capt σ) O { d with heap:=K,toks:=d.toks }:=Wt B F U fl L w A ab
 let a5:codeAny (model X.prog X.w) X.A (.compLoop (.ListComp a6 [⟨tg,E,cs,0⟩] scope aj) 0 (.ref it) (.ref ⇑d) (compEnvC scope (own xo (G.objs.size+1)++cl) G.objs.size X.env))
   (RR (.ref ⇑d) G.objs.size) { d with heap:=K,toks:=d.toks }:=by
  refine Wp (λn s'=>∃ (i:Nat) (Y:cW) (f:cZ) (k:Nat) (P:Hp),Inv (Bp X N scope xo cl G.objs.size d O fp) [] (Ca capt σ) P s'/\s'.heap.get? ⇑d=some { cls:=.type "list", data:=.seq f.toArray k }/\Vals Y f/\
   P ⇑d=none/\tn i s'.heap/\(∀ b∈fp,P b=none)/\W i Y P/\n=n0 - i) ?_ n0 {0,[],[],0,O,b2,b0,.nil,F.hok.fresh (AT _),T.keep _ _ _ a7 (λb _ o e=>ab b o e),λb a=>(U b a).1,w0,2}
  rintro n s3 ⟨i,Y,f,k,P,I3,hD,hv,nD,b3,b4,w3,en⟩;let {_,hl,b5}:=ar i Y P w3;let hz:f.toArray.size<=sizeLine:=by rw [BJ,<-@hv];exact hl
  let b9:Inv (Bp X N scope xo cl G.objs.size d O fp) [(⇑d,{ cls:=.type "list", data:=.seq f.toArray k })] (Ca capt σ) P s3:=I3.pins_of λp hp=>by
   rw [Ap] at hp;subst hp;exact {hD,nD,a8,bj,λv z=>nomatch z}
  let af:∀ {Hx:Hp} (_:∀ b∈fp,Hx b=none),∀ b∈fp,Dl (Bp X N scope xo cl G.objs.size d O fp) [(⇑d,{ cls:=.type "list", data:=.seq f.toArray k })] Hx b:=λhx b a=>
   {hx b a,(ac.exf b a).1,ac.exfs b a,.inl a,(ac.exf b a).2,λp hp=>by
    let ba:p∈[((⇑d,{ cls:=.type "list", data:=.seq f.toArray k }):Addr×Obj)]:=hp;rw [Ap] at ba;subst ba;exact b1 b a}
  rcases b5 with ⟨bb,q⟩ | ⟨bv,go,bl⟩
  .refine F_ (T.done (Bp X N scope xo cl G.objs.size d O fp) rfl rfl rfl hc i _ s3 _ P _ b9 (af b4) b3 bb) λr Z ⟨hr,I4⟩=>?_;subst hr;let bm:=(I4.pin (⇑d,{ cls:=.type "list", data:=.seq f.toArray k }) (Cp _ (Ap.mpr rfl))).1;let {m,hn,_}:=I4.loc;let R:∀ b u,P b=some u->b≠⇑d:=λb u e z=>by rw [z,nD] at e;cases e
   let bc:∀ b o,d.heap.get? b=some o->b≠⇑d:=λb o e=>BQ (nO e);let ub:Un (ax X.stack) fp O P d.heap Z.heap:=I4.base;let cC:∀ b,b<⇑d->b≠G.objs.size:=λb a z=>absurd (BZ a L) (by rw [z];exact Cz _)
   refine bi _ G.objs.size Z (upd P ⇑d (.lst Y)) m ?_ (q _ nD) hn (by rw [Ai (λz=>a8 z.symm)];exact I4.free) (λz=>cC _ F.lt z.symm) (BW F.sz L)
    (λx c e=>by let {v,q}:=F.cell x c e;exact cC _ q.lt) λp hp=>cC _ (nO (F.pin p hp).1)
   refine F.call' (ch:=fp) (s':=Z) I4.os ?_ ?_ I4.bare λb a=>{(U b a).2.2.2.1,(U b a).2.1,(U b a).2.2.2.2.1,(U b a).2.2.2.2.2}
   .refine {ub.keep,ub.slot,λb o e n hx=>?_,ub.there,λb xs e=>?_,λb o u e=>?_,λb ps e=>?_}
    .rw [Ai (bc b o e)];exact ub.free b o e n hx
    .let z:=ub.tups b xs e;rw [Ai (R b _ z)];exact z
    .let z:=ub.frzs b o u e;rw [Ai (R b _ z)];exact z
    .let {bd,z}:=ub.tbls b ps e;exact {bd,by rw [Ai (R b _ z)];exact z}
   .intro b u e;by_cases a:b=⇑d
    .subst a;rw [upd_same] at e;cases e;exact ⟨hl,f,k,hv,bm⟩
    .rw [Ai a] at e;exact (I4.hok b u e).stay (λc v _ q=>q) (λc q=>by rw [Ai (R c _ q)];exact q) λc xs q=>by rw [Ai (R c _ q)];exact q
  .refine F_ (T.item (Bp X N scope xo cl G.objs.size d O fp) rfl rfl rfl hc i _ s3 _ P _ b9 (af b4) b3 go) λr Z ⟨u,hr,h4⟩=>?_;subst hr;refine F_ h4 λ_ s5 ⟨x,H5,I5,r5,y5,S,bn⟩=>?_;let bp:=I5.pinned (af bn) (T.obj _ _ S);refine F_ (hg _ _ _ _ _ s5 _ H5 x u _ bp r5 (bl x H5 y5)) λ_ s6 ⟨M,H6,I6,q6⟩=>?_;refine F_ (ht _ _ _ _ _ s6 M H6 _ I6 q6) λbq s9 ⟨H9,I9,q9⟩=>?_
   let bf:∀ b∈fp,∀ o,s5.heap.get? b=some o->s9.heap.get? b=some o/\H9 b=none:=λb a o e=>by
    let z:=I9.pin (b,o) (Cp _ (Cp _ (JK a e)));exact ⟨z.1,z.2.1⟩
   cases bq with
   | false=>
     let w9:W (i+1) Y H9:=q9;let bg:=I9.pin (⇑d,{ cls:=.type "list", data:=.seq f.toArray k }) (Cp _ (FO _ (Ap.mpr rfl)));let br:Inv (Bp X N scope xo cl G.objs.size d O fp) [] M H9 s9:=I9.pins_of λp hp=>nomatch hp
     exact {n0 - (i+1),`a,i+1,Y,f,k,H9,Oq B F U br,bg.1,hv,bg.2.1,T.keep _ _ _ S (λb a o e=>(bf b a o e).1),(λb a=>by
      let {o,e,_}:=T.obj _ _ S b a;exact (bf b a o e).2),w9,rfl}
   | true=>
   replace q9:te M H9 λy H4=>W (i+1) (Y++[y]) H4:=q9;refine F_ (he _ _ _ _ _ s9 M H9 _ I9 q9) λuy s7 ⟨y,H7,I7,r7,w7⟩=>?_;let pD:=I7.pin (⇑d,{ cls:=.type "list", data:=.seq f.toArray k }) (Cp _ (FO _ (Ap.mpr rfl)))
   let pF:∀ b∈fp,∀ o,s5.heap.get? b=some o->s7.heap.get? b=some o/\H7 b=none:=λb a o e=>by
    let z:=I7.pin (b,o) (Cp _ (Cp _ (JK a e)));exact ⟨z.1,z.2.1⟩
   refine append_at (hsz:=hz) pD.1 λh8 bh bs=>?_;let bt:Inv (Bp X N scope xo cl G.objs.size d O fp) [] M H7 s7:=I7.pins_of λp hp=>nomatch hp;let I8:Inv (Bp X N scope xo cl G.objs.size d O fp) [] M H7 { s7 with heap:=h8,toks:=s7.toks }:=bt.turned (λb o a e=>bh.extBut b o a e) pD.2.1 a8 (.inr (AT _)) bk (λp hp=>nomatch hp);refine {n0 - (i+1),`a,i+1,Y++[y],f++[uy],k+1,H7,Oq B F U I8,?_,Paired.snoc hv r7,pD.2.1,T.keep _ _ _ S (λb a o e=>bh.extBut b o (b1 b a).symm (pF b a o e).1),λb a=>?_,w7,2}
   .show h8.get? _=_;rw [bs,List.push_toArray]
   .let {o,e,_}:=T.obj _ _ S b a;exact (pF b a o e).2
 exact codeAny_compStart_list a5 (T.self X.A 0 _ _ _ (T.keep _ _ _ a7 (λb _ o e=>ab b o e)) a5)
def CG {c a d:Expr} {f:Pos} {i:TI} {g:TG} {j:TE} (n:X.calm=true) (B:BlkOk1 X N capt scope xo cl) (p:PI X d a i)
  (r:∀ C s H fp,PG (Bp X N scope xo cl C s H fp) d g) (u:∀ C s H fp,PE (Bp X N scope xo cl C s H fp) c j)
  (v:∀ x,foldedSetIterable a X.env x=pure x:=by intro _;rfl):PE X (.ListComp c [⟨d,a,[],0⟩] scope f) (A9 i capt g j):=by
 intro pins s σ H Q I h;rw [eval_ListComp];refine wpAny_comprehension_free (use:=none) rfl v B.clos B.kind B.names (LH (cs:=[]) (tc:=LE) (λk C=>compPost (model X.prog X.w) X.A X.xe none (EP X pins σ Q) k C) n B p r (λ_ _ _ _=>Ol) u I (show DX i capt g LE j σ H _ from h) λD C M w m y q z A E F G J=>?_);exact {m,z,λO K=>{.ref D,w,y.turned (λb o L e=>K.extBut b o L e) A E (.inr F) G J,2,q}}
def Os {i:Nat} {x:Str} {c j:Pos} {f d n:Expr} {cs:dc} {tc:TT} {k:Pos} {E:TI} {g:TG} {F:TE} (K:X.N.Nodup) (r:X.N[i]?=some x) (L:aN X.env.scope x) (M:X.calm=true) (B:BlkOk1 X N capt scope xo cl) (O:PI X n d E)
  (P:∀ C s H fp,PG (Bp X N scope xo cl C s H fp) n g) (R:∀ C s H fp,cD (Bp X N scope xo cl C s H fp) cs tc) (S:∀ C s H fp,PE (Bp X N scope xo cl C s H fp) f F)
  (u:swapsWith (.ListComp f [⟨n,d,cs,0⟩] scope k) (some (.Name x c)) j.line X.env=pure true)
  (T:∀ x,foldedSetIterable d X.env x=pure x) (U:X.fn x=true\/X.env.scope.names.lookup x=some .local) :
  PS X (.Assign [.Name x c] (.ListComp f [⟨n,d,cs,0⟩] scope k) j) (AJ (DX E capt g tc F) (AE i)):=by
 intro pins s σ H D I h;rw [exec_Assign_Name_used _ _ _ _ u];refine nH (wpAny_standAt (nH ?_));show wpAny _ X.A (do let _ <-comprehension (.ListComp f [⟨n,d,cs,0⟩] scope k) scope X.env _ (newList []) false (eval d X.env) (some (assign (.Name x c) X.env))) _ _ s
 refine nH (nK (wpAny_comprehension_free (use:=some (assign (.Name x c) X.env)) (Q:=λ_ p=>SP X pins D .next p) rfl T B.clos B.kind B.names
  (LH (λw C=>compPost (model X.prog X.w) X.A X.xe (some (assign (.Name x c) X.env)) (λ_ p=>SP X pins D .next p) w C) M B O P R S I h λDa C s4 Hq m W q Y y G Z J h4=>?_)) (λ_ p hq=>nJ (nJ hq)) λ_ _ e=>e)
 show wpAny _ X.A (assign (.Name x c) X.env (.ref Da)) _ _ _;refine wpAny_assign_Name (Nc W K r L (v:=.ref Da) rfl (λs5 I5 ⟨a,A,ha⟩=>{m,Y.sameBut A ?_,λh' sb=>{9,I5.turned (λb o hb e=>sb.extBut b o hb e) y G (.inr Z) J h4,q}}) U);rcases ha with z | z
 .rw [z];exact G
 .exact λe=>J x a z e.symm
def Hu {i:Nat} {x:Str} {b c:Pos} {d a f:Expr} {e:Pos} {k:TI} {g:TG} {m:TE} (n:X.N.Nodup) (h:X.N[i]?=some x) (o:aN X.env.scope x) (p:X.calm=true) (B:BlkOk1 X N capt scope xo cl) (q:PI X f a k)
  (r:∀ C s H fp,PG (Bp X N scope xo cl C s H fp) f g) (u:∀ C s H fp,PE (Bp X N scope xo cl C s H fp) d m)
  (j:swapsWith (.ListComp d [⟨f,a,[],0⟩] scope e) (some (.Name x b)) c.line X.env=pure true:=by rfl)
  (v:∀ x,foldedSetIterable a X.env x=pure x:=by intro _;rfl) (w:X.fn x=true\/X.env.scope.names.lookup x=some .local:=by first | exact .inl rfl | exact .inr rfl | assumption) :
  PS X (.Assign [.Name x b] (.ListComp d [⟨f,a,[],0⟩] scope e) c) (AJ (A9 k capt g m) (AE i)):=
 Os n h o p B q r (λC s H fp=>Ol) u j v w
def Ot {i:Nat} {x:Str} {b d:Pos} {e a h c:Expr} {tc:TT} {f:Pos} {m:TI} {g:TG} {n:TE} (o:X.N.Nodup) (j:X.N[i]?=some x) (p:aN X.env.scope x) (q:X.calm=true) (B:BlkOk1 X N capt scope xo cl) (r:PI X h a m)
  (u:∀ C s H fp,PG (Bp X N scope xo cl C s H fp) h g) (v:∀ C s H fp,L2.PT (Bp X N scope xo cl C s H fp) c tc) (w:∀ C s H fp,PE (Bp X N scope xo cl C s H fp) e n)
  (k:swapsWith (.ListComp e [⟨h,a,[c],0⟩] scope f) (some (.Name x b)) d.line X.env=pure true:=by rfl)
  (y:∀ x,foldedSetIterable a X.env x=pure x:=by intro _;rfl) (z:X.fn x=true\/X.env.scope.names.lookup x=some .local:=by first | exact .inl rfl | exact .inr rfl | assumption) :
  PS X (.Assign [.Name x b] (.ListComp e [⟨h,a,[c],0⟩] scope f) d) (AJ (DX m capt g tc n) (AE i)):=
 Os o j p q B r u (λC s H fp=>Om (v C s H fp)) w k y z
def Jb {d a f c:Expr} {tc:TT} {i:Pos} {k:TI} {g:TG} {n:TE} (p:X.calm=true) (B:BlkOk1 X N capt scope xo cl) (r:PI X f a k)
  (u:∀ C s H fp,PG (Bp X N scope xo cl C s H fp) f g) (v:∀ C s H fp,L2.PT (Bp X N scope xo cl C s H fp) c tc) (w:∀ C s H fp,PE (Bp X N scope xo cl C s H fp) d n)
  (y:∀ x,foldedSetIterable a X.env x=pure x:=by intro _;rfl):PE X (.ListComp d [⟨f,a,[c],0⟩] scope i) (DX k capt g tc n):=by
 intro pins s σ H Q I h;rw [eval_ListComp];refine wpAny_comprehension_free (use:=none) rfl y B.clos B.kind B.names (LH (λj C=>compPost (model X.prog X.w) X.A X.xe none (EP X pins σ Q) j C) p B r u (λC s H fp=>Om (v C s H fp)) w I h λD C P z m A q E F G J K L=>?_);exact {m,E,λR M=>{.ref D,z,A.turned (λb o O e=>M.extBut b o O e) F G (.inr J) K L,2,q}}
end
end Bs
namespace Bs
open PySem L2
def LJ:TE:=λ_ H Q=>∀ p,H p=none->Q (.ref p) (upd H p (.dK []))
inductive Ou(o i v:V)(H:Hp)(Q:Hp->Prop):Prop
 |mk(p k a):o=.ref p->i=.int k->H p=some (.dK a)->@a<sizeLine->Q (upd H p (.dK (Fa a (.inl k) v)))->Ou o i v H Q
def Ow:cW->Hp->VK->Prop:=λd H Q=>∃ (p:Addr) (a:List (N_×V)) (b:cY),d=[.ref p]/\H p=some (.dK a)/\a.map (·.1)=b.map Sum.inl/\@b<64/\∀ r (c:cY),H r=none->c.Perm b->c.Pairwise (·<=·)->Q (.ref r) (upd H r (.lst (~~~c)))
def LK (d:TA):TE:=λe H Q=>d e H λf b=>∃ (p:Addr) (c:cY),f=[.ref p]/\b p^^^(~~~c)/\@c<64/\∀ r (a:cY),b r=none->a.Nodup->(∀ z,z∈a↔z∈c)->a.Pairwise (·<=·)->Q (.ref r) (upd b r (.lst (~~~a)))
end Bs
namespace Bs
open PySem
structure Tb (ld:Bool) (t:SetTable):Prop where
 up:t.place.toList.Pairwise (·<·)
 dm:t.dummies=#[]
 le:t.led=ld
def Jc {xs:Array Nat} (h:xs.toList.Pairwise (·<·)) {i j:Nat} {a b:Nat} (c:xs[i]?=some a) (d:xs[j]?=some b) (q:i<j):a<b:=by
 rw [<-Array.getElem?_toList] at c d;let {e,rfl}:=A3.mp c;let {f,rfl}:=A3.mp d;exact List.pairwise_iff_getElem.mp h i j e f q
theorem LN {xs:Array Nat} (h:xs.toList.Pairwise (·<·)) (j:Nat):∀ f lo b,lo<=b->b<=xs.size->b - lo<=f->(∀ k a,k<lo->xs[k]?=some a->a<j)->(∀ k a,b<=k->xs[k]?=some a->j<=a)->
  SetTable.below.go xs j f lo b<=xs.size/\(∀ k a,k<SetTable.below.go xs j f lo b->xs[k]?=some a->a<j)/\∀ k a,SetTable.below.go xs j f lo b<=k->xs[k]?=some a->j<=a
 | 0,lo,b,i,c,m,d,g=>by
   have:lo=b:=by omega
   subst this;exact ⟨c,d,g⟩
 | f+1,lo,b,i,c,m,d,g=>by
   unfold SetTable.below.go;by_cases q:lo<b
   .rw [nC q];let n:(lo+b) / 2<xs.size:=by omega
    let em:xs[(lo+b) / 2]?=some (xs.getD ((lo+b) / 2) j):=by simp [Array.getD,n]
    show (if xs.getD ((lo+b) / 2) j<j then _ else _)<=_/\_;by_cases z:xs.getD ((lo+b) / 2) j<j
    .simp only [z,if_true];refine LN h j f _ _ `a c `a (λk a hk e=>?_) g;by_cases y:k=(lo+b) / 2
     .subst y;rw [em] at e;cases e;exact z
     .exact Nat.lt_trans (Jc h e em `a) z
    .simp only [z,if_false];refine LN h j f _ _ `a `a `a d λk a hk e=>?_;by_cases y:k=(lo+b) / 2
     .subst y;rw [em] at e;cases e;omega
     .have:=Jc h em e `a;omega
   .rw [nB q];have:lo=b:=by omega
    subst this;exact ⟨c,d,g⟩
def LO {xs:Array Nat} (h:xs.toList.Pairwise (·<·)) (j:Nat):SetTable.below xs j<=xs.size/\(∀ k a,k<SetTable.below xs j->xs[k]?=some a->a<j)/\∀ k a,SetTable.below xs j<=k->xs[k]?=some a->j<=a:=
 LN h j _ _ _ (AV _) (AT _) (AT _) (λk _ hk=>absurd hk (Bk _)) λk a hk e=>by
  rw [Array.getElem?_eq_none hk] at e;cases e
def Wu {xs:Array Nat} (h:xs.toList.Pairwise (·<·)) {i a:Nat} (e:xs[i]?=some a):SetTable.below xs (a+1)=i+1:=by
 let {g,c,d}:=LO h (a+1)
 let j:i<xs.size:=by
  rcases BE i xs.size with q | q
  .exact q
  .rw [Array.getElem?_eq_none q] at e;cases e
 rcases Nat.lt_trichotomy (SetTable.below xs (a+1)) (i+1) with q | q | q
 .have:=d i a `a e;omega
 .exact q
 .let f:i+1<xs.size:=by omega
  let b:xs[i+1]?=some xs[i+1]:=Array.getElem?_eq_getElem f;have:=c (i+1) _ q b;have:=Jc h e b `a;omega
def Wv {xs:Array Nat} (h:xs.toList.Pairwise (·<·)):SetTable.below xs 0=0:=by
 let {c,a,d}:=LO h 0;rcases Dx (SetTable.below xs 0) with q | q
 .exact q
 .let b:xs[0]?=some (xs[0]'`a):=Array.getElem?_eq_getElem `a;exact absurd (a 0 _ q b) (Bk _)
def Ww (xs:Array Nat) (p x:Nat):(SetTable.insertAt xs p x).toList=xs.toList.take p++x::xs.toList.drop p:=by
 unfold SetTable.insertAt;simp [Array.toList_extract];exact List.take_of_length_le (by simp)
def Wx {xs:Array Nat} (h:xs.toList.Pairwise (·<·)) {j:Nat} (n:xs[SetTable.below xs j]?≠some j):(SetTable.insertAt xs (SetTable.below xs j) j).toList.Pairwise (·<·):=by
 let {r,f,d}:=LO h j
 let i:∀ k,xs[k]?≠some j:=λk e=>by
  rcases Nat.lt_trichotomy k (SetTable.below xs j) with q | q | q
  .exact absurd (f k j q e) (Cz _)
  .exact n (q ▸ e)
  .let c:SetTable.below xs j<xs.size:=by
    rcases BE k xs.size with z | z
    .omega
    .rw [Array.getElem?_eq_none z] at e;cases e
   let g:xs[SetTable.below xs j]?=some xs[SetTable.below xs j]:=Array.getElem?_eq_getElem c;have:=d _ _ (AT _) g;have:=Jc h g e q;omega
 rw [Ww,List.pairwise_append,List.pairwise_cons];refine {h.take,{λb c=>?_,h.drop},λa m b c=>?_}
 .let {k,hk}:=List.mem_iff_getElem?.mp c;rw [List.getElem?_drop,Array.getElem?_toList] at hk;have:=d _ b (Nat.le_add_right _ _) hk;have:b≠j:=λz=>i _ (z ▸ hk);omega
 .let o:a<j:=by
   let {k,hk}:=List.mem_iff_getElem?.mp m;rw [List.getElem?_take] at hk;split at hk
   .rename_i p;rw [Array.getElem?_toList] at hk;exact f k a p hk
   .cases hk
  rcases CS.mp c with rfl | c
  .exact o
  .let {k,hk}:=List.mem_iff_getElem?.mp c;rw [List.getElem?_drop,Array.getElem?_toList] at hk;have:=d _ b (Nat.le_add_right _ _) hk;omega
def Tb.slot {ld:Bool} {t:SetTable} (h:Tb ld t) (j:Nat):t.slot j≠.dummy/\(t.slot j=.empty->t.place[SetTable.below t.place j]?≠some j):=by
 unfold SetTable.slot SetTable.has;rw [h.dm];dsimp only;by_cases q:t.place[SetTable.below t.place j]?=some j
 .simp [q]
 .have:(t.place[SetTable.below t.place j]? == some j)=false:=by simpa using q
  simp [this,q]
theorem Tb.probe {ld:Bool} {t:SetTable} (h:Tb ld t) (f:dh) (x:Int):∀ n (p:SetTable.Probe) j d,p.dummy=none->SetTable.probe.go t f x n p=some (.empty j d)->d=none/\t.slot j=.empty
 | 0,p,j,d,_,e=>by cases e
 | n+1,p,j,d,hp,e=>by
   unfold SetTable.probe.go at e;split at e
   .rename_i a;cases e;exact ⟨hp,a⟩
   .rename_i a;exact absurd a (h.slot _).1
   .split at e
    .cases e
    .refine Tb.probe h f x n _ j d ?_ e;unfold SetTable.advance;split
     .exact hp
     .exact hp
def Tb.free {ld:Bool} {t:SetTable} (h:Tb ld t) {x:Int} {j:Nat} {d:Bool} (e:t.freeSlot x=some (j,d)):t.place[SetTable.below t.place j]?≠some j:=by
 unfold SetTable.freeSlot at e;split at e
 .rename_i i c a;let {z,b}:=h.probe _ _ _ _ _ _ rfl a;subst z;cases e;exact (h.slot _).2 b
 .cases e
def Wy (n:Nat):(Array.range n).toList.Pairwise (·<·):=by
 rw [Array.toList_range];exact List.pairwise_lt_range
def Tb.stand {ld:Bool} {t:SetTable} (h:Tb ld t) (n:Nat):Tb ld (t.standIn n):={Wy n,2,h.le}
def Tb.lay {ld:Bool} {t:SetTable} (h:Tb ld t) (a:Array (Int×Value)) (x:Int) (v:Value):Tb ld (layNew t a x v).2.1:=by
 unfold layNew;split
 .rename_i j d e;let n:=h.free e;let p:Tb ld (t.put j).1:={Wx h.up n,by unfold SetTable.put;rw [h.dm];rfl,h.le};dsimp only;unfold SetTable.orStandIn;split
  .exact p
  .exact p.stand _
 .exact h.stand _
def Tb.relay {ld:Bool} {t:SetTable} (h:Tb ld t) (c:Array (Int×Value)) (n:Nat):Tb ld (relayAll t c n).2.1:=by
 unfold relayAll;split
 .rename_i j o e;dsimp only;split
  .unfold SetTable.relaid SetTable.laid at e;cases d:SetTable.layClean (SetTable.sizeAbove n - 1) (c.map (·.1)) with
   | none=>rw [d] at e;cases e
   | some k=>
     rw [d] at e;cases e;refine {?_,2,h.le};show List.Pairwise _ (List.map _ _);rw [List.pairwise_map];refine List.Pairwise.filterMap _ (λa b f x g y i=>?_) List.pairwise_lt_range;let {u,_,rfl}:=Option.map_eq_some_iff.mp g;let {u,_,rfl}:=Option.map_eq_some_iff.mp i;exact f
  .exact h.stand _
 .exact h.stand _
def Tb.plain {ld:Bool} {t:SetTable} (h:Tb ld t):Tb ld { t with plain:=false }:=⟨h.up,h.dm,h.le⟩
def Tb.fresh (ld:Bool) (a b:Nat):Tb ld (.fresh a b ld):={.nil,7}
end Bs
namespace Bs
open PySem PySem.Spec PyProof.Rows
section
variable {prog:Program} {w:World} {A:Around} {E:c_} {s:Shared}
abbrev Gy (w:World):Bool:=!w.params.followText "set-order"
abbrev kf (a:Array (Int×Value)):cY:=a.toList.map λe=>numOf e.2
structure SetT (prog:Program) (w:World) (h:Heap) (a:Addr) (o:Obj) (es:Array (Int×Value)) (ep:Nat) (t:SetTable):Prop where
 ho:h.get? a=some o
 ex:o.ExactSet
 da:o.data=.set es ep t
 el:ElemsOf (intKind prog w) es.toList
 fi:t.fits es.size=true
 tb:Tb (Gy w) t
def Ox {k:Int} {v:Value} (h:(intKind prog w).is k v=true):numOf v=k:=by
 let {t,rfl}:=Value.isInt_shape h;rfl
def SetT.keep {h h':Heap} {a:Addr} {o:Obj} {b:Array (Int×Value)} {ep:Nat} {t:SetTable} (S:SetT prog w h a o b ep t) (k:∀ o,h.get? a=some o->h'.get? a=some o):SetT prog w h' a o b ep t:={k _ S.ho,S.ex,S.da,S.el,S.fi,S.tb}
def SetT.store {h:Heap} {a:Addr} {o:Obj} {d b:Array (Int×Value)} {ep:Nat} {t t':SetTable} (S:SetT prog w h a o d ep t) (e:ElemsOf (intKind prog w) b.toList) (f:t'.fits b.size=true) (g:Tb (Gy w) t') :
  SetT prog w (h.update a (Obj.putSet b t')) a { o with data:=.set b (ep+1) t' } b (ep+1) t':=by
 refine {?_,S.ex,2,e,f,g};have:=Heap.get?_update_self (Obj.putSet b t') S.ho (by rw [putSet_of b t' S.da];rfl);rw [putSet_of b t' S.da] at this;exact this
def Wz {b a:Array (Int×Value)} (h:a.toList.Perm b.toList):(kf a).Perm (kf b):=h.map _
def Hv {n:Nat} (h:n<4096):n<=sizeLine:=by rw [sizeLine_eq];omega
theorem SetT.add {a:Addr} {o:Obj} {d:Array (Int×Value)} {ep:Nat} {t:SetTable} {k:Int} {tk:Tok} {Q:Bool->Shared->Prop} (S:SetT prog w s.heap a o d ep t) (hr:d.size+1<4096)
  (h:∀ b F Y u G Z,Heap.SameBut a s.heap F->SetT prog w F a Y u G Z->(kf u).Perm (if k∈kf d then kf d else k::kf d)->Q b { s with heap:=F }) :
  wpAny (model prog w) A (setAddHashed a (.int k tk) ((intKind prog w).hash k)) Q E s:=by
 let g:(intKind prog w).is k (.int k tk)=true:=intKind_is prog w k tk;let i:(Value.int k tk).scannable=true:=rfl;unfold setAddHashed setAddHashedIn;refine wpAny_holding (nH (wpAny_setState_of S.ho S.da S.fi ?_));dsimp only;rw [byScan_of i (by show d.size<4096;omega) S.el];simp only [↓reduceIte];unfold setAddByScan;refine nH (nH (wpAny_rule (nH (wpAny_setScan_of g S.ho S.da S.fi S.el ?_))));cases O:List.findIdx? (λe=>(intKind prog w).is k e.2) d.toList with
 | some j=>
   let {hj,hp,_}:=List.findIdx?_eq_some_iff_getElem.mp O;let C:k∈kf d:=Am.mpr {_,CN hj,Ox hp};let q:=h false s.heap o d ep t (Heap.SameBut.refl a s.heap) S (by rw [nC C]);exact nJ (nJ q)
 | none=>
   let C:k∉kf d:=λz=>by
    let {e,P,hk}:=Am.mp z;let {{k',q,_},_}:=S.el e P;rw [Ox q] at hk;subst hk;have:=List.findIdx?_eq_none_iff.mp O e P;rw [q] at this;cases this
   let p:=layNew_perm t d ((intKind prog w).hash k) (.int k tk);let v:=layNew_fits t d ((intKind prog w).hash k) (.int k tk);let x:=S.tb.lay d ((intKind prog w).hash k) (.int k tk);dsimp only;generalize layNew t d ((intKind prog w).hash k) (.int k tk)=L at p v x ⊢;let {c,t1,wd,gv}:=L;dsimp only at p v x ⊢;rw [Array.toList_push] at p;let y:ElemsOf (intKind prog w) c.toList:=(S.el.push g i).perm p;let z1:c.size=d.size+1:=by rw [<-Array.length_toList,p.length_eq,Bf,Array.length_toList];rfl
   let R:(kf c).Perm (k::kf d):=by
    refine (p.map λe=>numOf e.2).trans ?_;rw [Bj];exact List.perm_append_comm
   let T:∀ (b:Bool) (H:Shared) (I:Unit->Shared->Prop),I Unit.unit H->wpAny (model prog w) A (match b with | true=>rule "set.scan.the-table-gave-way" | false=>pure Unit.unit) I E H:=λb H I U=>by
    cases b
    .exact nJ U
    .exact wpAny_rule U
   let m:∀ (f:SetTable),f.fits c.size=true->Tb (Gy w) f->wpAny (model prog w) A (do
     storeSet a c f
     if (!wd && f.tooFull)=true then do
         (match (relayAll f c (SetTable.grown c.size)).2.2 with | true=>rule "set.scan.the-table-gave-way" | false=>pure Unit.unit)
         storeSet a (relayAll f c (SetTable.grown c.size)).1 (relayAll f c (SetTable.grown c.size)).2.1
         pure (some true)
      else pure (some true)) (λr s'=>wpAny (model prog w) A (match r with | some n=>pure n | none=>setAddHashedIn a (.int k tk) ((intKind prog w).hash k) 99999) Q E s') E s:=λf f2 W=>by
    let D:=S.store y f2 W;let X:=Heap.SameBut.update s.heap a (Obj.putSet c f);refine nH (wpAny_storeSet_of S.ho S.da ?_ (Hv `a));split
    .let B:=relayAll_perm f c (SetTable.grown c.size);let J:=relayAll_fits f c (SetTable.grown c.size);let K:=W.relay c (SetTable.grown c.size);generalize relayAll f c (SetTable.grown c.size)=L at B J K ⊢;let {M,t3,g2}:=L;dsimp only at B J K ⊢;let z2:M.size=c.size:=by rw [<-Array.length_toList,B.length_eq,Array.length_toList]
     refine nH (T _ _ _ (nH (wpAny_storeSet_of D.ho D.da ?_ (Hv `a))));exact nJ (nJ (h true _ _ _ _ _ (X.trans (Heap.SameBut.update _ a _)) (D.store (y.perm B) J K) (by rw [nB C];exact (Wz B).trans R)))
    .exact nJ (nJ (h true _ _ _ _ _ X D (by rw [nB C];exact R)))
   refine nH (T _ _ _ ?_);split
   .refine nH ?_;rw [hashByValue_scannable 8 i];refine nJ ?_;split
    .exact m _ v x
    .exact m _ (SetTable.fits_plain_off v) x.plain
   .refine nH (nJ ?_);simp only [↓reduceIte];exact m _ v x
end
section
variable {prog:Program} {w:World} {A:Around} {R:Result->Shared->Prop} {I:Addr} {fp wr:de} {G:Array GenState->Array GenState->Prop} {n:Nat} {P:Nat->Value->Prop} {St:Nat->Shared->Prop}
theorem Oy (W:WalksS prog w A.in1 I fp wr G n P St) (S:Addr) (c:S∉fp) (ns:cY) (Q:@ns=n) (g:∀ i v,P i v->∃ t,v=.int (ns.getD i 0) t) (d:n+1<4096):∀ (k i:Nat) (s:Shared) (o:Obj) (a:Array (Int×Value)) (ep:Nat) (t:SetTable),n - i=k->i<=n->St i s->
  SetT prog w s.heap S o a ep t->(kf a).Nodup->(∀ z,z∈kf a↔z∈ns.take i)->a.size<=i->
  (∀ f o a ep t,Moved (S::wr) G s f->SetT prog w f.heap S o a ep t->(kf a).Nodup->(∀ z,z∈kf a↔z∈ns)->a.size<=n->R (.ok (.ret .none)) f)->
  codeAny (model prog w) A (.builtin "set.update.loop" ⟨[.ref S,.ref I],[]⟩) R s
 | 0,i,s,o,a,ep,t,hk,Y,j,E,D,H,sz,J=>by
   let e:i=n:=by omega
   subst e;refine codeAny_builtin F.entry_set_update_loop ?_;rw [Around.under_plainId F.plain_set_update_loop _];refine nH (m:=pyNext (.ref I)) (W.done s _ _ j λf p=>nJ (J f o a ep t (p.mono λb d=>Br _ d) (E.keep λo e=>p.heap S o (λz=>c (W.sub _ z)) e) D (λz=>(H z).trans (by rw [<-Q,B4])) sz))
 | k+1,i,s,o,a,ep,t,hk,Y,j,E,D,H,sz,J=>by
   let r:i<n:=by omega
   let u:∀ b∈wr,b∈S::wr:=λb d=>Br _ d;refine codeAny_builtin F.entry_set_update_loop ?_;rw [Around.under_plainId F.plain_set_update_loop _];refine nH (m:=pyNext (.ref I)) (W.item i s _ _ r j λv f Z y p=>?_);let {T,rfl}:=g i v Z;let K:=E.keep λo e=>p.heap S o (λz=>c (W.sub _ z)) e;refine nH (m:=holding [Value.int (ns.getD i 0) T] (setAdd S (.int (ns.getD i 0) T))) (wpAny_holding ?_);unfold setAdd;refine wpAny_holding (nH ((intKind prog w).pyHash (k:=ns.getD i 0) (intKind_is _ _ _ _) ?_));refine SetT.add (s:={ f with toks:=f.toks+1 }) K `a λb h' o' B L t' X M N=>?_
   let z2:B.size<=i+1:=by
    have:=N.length_eq;unfold kf at this;rw [AI,Array.length_toList] at this;split at this <;> simp at this <;> omega
   let ti:ns.take (i+1)=ns.take i++[ns.getD i 0]:=by
    rw [List.take_succ,AR `a];simp [AR (show i<ns.length by omega)]
   refine nJ {plainId_quiet F.plain_set_update_loop _,Oy W S c ns Q g d k (i+1) _ o' B L t' `a r (W.frame _ f _ _ y (Dd _) λb d o e=>?_) M (N.nodup_iff.mpr ?_) (λz=>?_) z2 λO o a ep t C q1 q2 q3 q4=>?_}
   .rw [X.2 b (λh:b=S=>c (by rw [<-h];exact d))];exact e
   .split
    .exact D
    .rename_i q;exact List.nodup_cons.mpr ⟨q,D⟩
   .rw [N.mem_iff,ti,BR,Ap,<-H];split
    .rename_i q;exact {.inl,λx=>x.elim id λe=>e ▸ q}
    .rw [CS];exact {λx=>x.elim .inr .inl,λx=>x.elim .inr .inl}
   .refine J O o a ep t (Moved.trans W.gtrans ((p.mono u).then_heap (Dd _) λb o d e=>?_) C) q1 q2 q3 q4;rw [X.2 b (λh:b=S=>d (by rw [h];exact BX))];exact e
end
section
variable {prog:Program} {w:World} {A:Around} {E:c_} {s:Shared}
abbrev Er (w:World):Obj:={ cls:=.type "set", dict:=none,data:=.set #[] 0 (.fresh 0 0 (Gy w)) }
def W0 (a:Value) {Q:c_} (h:Q (.ref ⇑s) { s with heap:=s.heap.push (Er w) }) :
  codeAny (model prog w) A (.call (.builtin "set.__new__") ⟨[.type "set", a],[]⟩) (wants Q E) s:=by
 refine codeAny_of_tree ?_;refine nH (m:=checkBuiltinCall "set.__new__" {[.type "set", a],[]}) (wpAny_of_eq (F.newCall_set_1 a) (nJ {plainId_quiet F.plain_set_new _,codeAny_builtin F.entry_set_new ?_}));rw [Around.under_plainId F.plain_set_new _];unfold Builtin.«set.__new__» Builtin.Frozenset.newClass;let q:=sub_set_self;let {hp,g,d,c,os}:=s;dsimp only
 wp_walk
 refine wpAny_askSetting (nJ ?_);dsimp only;simp only [newObj];refine nH (wpAny_alloc (nJ ?_));exact nJ h
theorem W3 {l:Addr} {items:Array Value} {ns:cY} {Q:c_} (Y:A.handled=none) (Z:s.heap.IsList l items) (O:IntsAre items.toList ns) (hb:items.size+1<4096)
  (h:∀ f y o a k t,SetT prog w f ⇑s o a k t->(kf a).Nodup->(∀ z,z∈kf a↔z∈ns)->a.size<=items.size->(∀ b o,s.heap.get? b=some o->f.get? b=some o)->Q (.ref ⇑s) { s with heap:=f,toks:=y }) :
  wpAny (model prog w) A (call (.type "set") [.ref l]) Q E s:=by
 let {c,tl,e0}:=F.called_set.mro;let e1:=F.called_set.made;let e2:=F.called_set.sub;let C:@ns=items.size:=by have:=@O;simpa using this.symm
 refine wpAny_call (codeAny_of_tree (show wpAny _ _ (callAny (.type "set") _) _ _ _ from nJ {Code.quiet_builtin _ (by decide +kernel),codeAny_builtin F.entry_type_call ?_}));rw [Around.under_plain (weight_type_call_type "set" [.ref l] []) rfl];let e3:=F.called_set.notType;let e4:=F.called_set.canCreate;let e5:=F.typeCall_set_1 (.ref l)
 repeat (any_goals (first | assumption | wp_step))
 refine codeAny_mono (W0 (.ref l) (E:=E) (Q:=λv P=>v=.ref ⇑s/\P={ s with heap:=s.heap.push (Er w) }) ⟨rfl,rfl⟩) λr P D=>?_;cases r with
 | error e=>exact D
 | ok fl=>
   cases fl with
   | ret v=>
     let {rfl,rfl}:=D;let S:(s.heap.push (Er w)).get? ⇑s=some (Er w):=Heap.get?_push_size _ rfl;let ty:Shared.TypeIs { s with heap:=s.heap.push (Er w) } (.ref ⇑s) "set" := {_,S,2};let e6:=F.called_set.init.lookup;let e7:=F.called_set.init.bind (.ref ⇑s)
     repeat (any_goals (first | assumption | wp_step))
     refine codeAny_mono (codeAny_call_builtin (R:=wants (λr T=>r=.none/\∃ f y o a k t,T={ s with heap:=f,toks:=y }/\SetT prog w f ⇑s o a k t/\(kf a).Nodup/\(∀ z,z∈kf a↔z∈ns)/\a.size<=items.size/\(∀ b o,s.heap.get? b=some o->f.get? b=some o)) E) F.called_set.init.plain F.entry_set_init (check_set_init_1 ty ?_)) λr2 T g=>?_
     .let {ol,n,p,U,q}:=Z;let {oc,od,a0,os}:=ol;simp only at p q;subst p;subst q;let u:(s.heap.push (Er w)).get? l=some { cls:=.type "list", dict:=od,data:=.seq items U,slots:=os }:=Heap.get?_push_of_some _ n;let f1:=F.sub_list_set;let f2:=F.sub_list_frozenset;let f3:(Value.type "list" == Value.type "dict")=false:=by decide
      let x:(s.heap.push (Er w)).IsList l items:={_,u,2,U,2};unfold Builtin.«set.__init__» noKeywords Builtin.Frozenset.updateFrom;generalize G:pyIter=PI
      wp_walk
      subst G;refine wpAny_pyIter_list x (nH (wpAny_runValue ?_));let W:@LT.lt Nat _ l ⇑s:=nO n;let h3:A.in1.in1.in1.handled=none:=by simp [Y]
      let j:(s.heap.push (Er w)).objs.size=⇑s+1:=Heap.size_push _ _;let ne:l≠(s.heap.push (Er w)).objs.size:=by rw [j];exact BQ (Nat.lt_succ_of_lt W)
      refine Oy ((Walks.list h3 _ l ne items).toS) ⇑s (by
        rw [j];simp only [CS,List.not_mem_nil,or_false,not_or];exact {BQ (Nat.lt_succ_self _),Nat.ne_of_gt W}) ns C (λi v hv=>IntsAre.int_at O i v (by rw [Array.getElem?_toList];exact hv)) hb (items.size - 0) 0 _ (Er w) #[] 0 (.fresh 0 0 (Gy w)) rfl (AV _) {{_,Heap.get?_push_size _ rfl,7},x.push _}
       {Heap.get?_push_of_some _ S,⟨rfl,rfl,rfl⟩,2,(λe he=>by simp at he),2,Tb.fresh _ 0 0} List.nodup_nil (λz=>by simp [kf]) (AT _) λs' o a k t B H I J K=>?_
      let {f,g',d',L,M}:=s';let eg:g'=s.gens:=B.gens;let ed:d'=s.drawn:=B.drawn;let eo:M=s.os:=B.os;subst eg;subst ed;subst eo;refine nJ ?_;refine (show wpAny _ _ (ret Value.none) _ _ _ from nJ {2,f,L,o,a,k,t,2,H,I,J,K,λb o e=>?_});let X:@LT.lt Nat _ b ⇑s:=nO e
      exact B.heap b o (by
       rw [j];simp only [CS,List.not_mem_nil,or_false,not_or];exact {BQ X,BQ (Nat.lt_succ_of_lt X)}) (Heap.get?_push_of_some _ (Heap.get?_push_of_some _ e))
     .cases r2 with
      | error e=>exact g
      | ok N=>
        cases N with
        | ret r=>
          let {rfl,f,y,o,a,k,t,rfl,H,I,J,K,q5}:=g
          repeat (any_goals (first | assumption | wp_step))
          exact h _ _ _ _ _ _ H I J K q5
        | _=>exact g.elim
   | _=>exact D.elim
end
def si_slot:Slot "set_iterator" "__next__" "set_iterator.__next__" := .of (owner := "set_iterator") (n := "__next__") (by rw [typeLookup_type,builtinLookup_eq_fast];kernel_rfl) (by decide +kernel) (by decide +kernel) (by decide +kernel) (by first | exact .inl (by decide +kernel) | exact .inr (by decide +kernel)) (by rw [isSubtype_type];kernel_rfl)
def Oz:entryFor table "set_iterator.__next__" = some Builtin.«set_iterator.__next__»:=entryFor_of_tree (by kernel_rfl)
def O0 (a:Value):argsOk "set_iterator.__next__" ⟨[a],[]⟩:=by unfold argsOk;kernel_rfl
def W4:entryFor table "set.__iter__" = some Builtin.«frozenset.__iter__»:=entryFor_alias (id' := "frozenset.__iter__") (by kernel_rfl) rfl (by decide +kernel) (by kernel_rfl)
def IsSI (h:Heap) (I:Addr) (f:Value) (i:Nat) (a:Addr) (n ep:Nat):Prop:=∃ o,h.get? I=some o/\o.cls=.type "set_iterator" /\ o.data=.fields #[f,.int i 0,.ref a,.int n 0,.int ep 0]
section
variable {prog:Program} {w:World} {A:Around} {E:c_} {s:Shared} {I a:Addr} {f:Value} {i n ep:Nat} {o:Obj} {es:Array (Int×Value)} {t:SetTable}
def IsSI.keep {h h':Heap} (x:IsSI h I f i a n ep) (k:∀ o,h.get? I=some o->h'.get? I=some o):IsSI h' I f i a n ep:=let ⟨o,e,r⟩:=x;⟨o,k o e,r⟩
def IsSI.ty (x:IsSI s.heap I f i a n ep):s.TypeIs (.ref I) "set_iterator" := let ⟨o,e,r,_⟩:=x;⟨o,e,r⟩
def IsSI.put {f':Value} {h:Heap} (x:IsSI h I f i a n ep):IsSI (h.update I (Obj.mapFields (·.setIfInBounds 0 f'))) I f' i a n ep:=by
 let {o,c,d,b}:=x;refine {_,Heap.get?_update_self _ c (Obj.isFreed_of_fields (Obj.data_mapFields b _)),(Obj.cls_mapFields ..).trans d,?_};rw [Obj.data_mapFields b];simp
def IsSI.up {h:Heap} (x:IsSI h I f i a n ep):IsSI (h.update I (Obj.mapFields (·.setIfInBounds 1 (rawInt ((i:Int)+1))))) I f (i+1) a n ep:=by
 let {o,c,d,b}:=x;refine {_,Heap.get?_update_self _ c (Obj.isFreed_of_fields (Obj.data_mapFields b _)),(Obj.cls_mapFields ..).trans d,?_};rw [Obj.data_mapFields b];simp [rawInt]
def O3 {Q:Option Value->Shared->Prop} {R:c_} (d:A.handled=none) (h:∀ v c,Heap.ExtBut I s.heap c->Shared.TypeIs { s with heap:=c } v "StopIteration" -> R v { s with heap:=c }) :
  wpAny (model prog w) A (do raiseNew (<-newExc (.type "StopIteration") []):Sem Fin) (λ_ _=>False) R s:=by
 simp only [newExc,newTuple];refine nH (nH (wpAny_newObj_type ?_ (by size_fits)));refine nH (m:=firstArgMember _ _) (wpAny_of_eq (a:=Value.none) (by first | rfl | (simp only [firstArgMember];rfl)) (wpAny_newObj_type ?_ (by size_fits)));simp only [raiseNew];refine nH (wpAny_handled ?_);rw [d];refine nH (nJ (wpAny_throw ?_));exact h _ _ (((Heap.ExtBut.refl _ _).push _).push _) {_,Heap.get?_push_size _ rfl,2}
end
section
variable {prog:Program} {w:World} {A:Around} {E:c_} {s:Shared} {I a:Addr} {f:Value} {i ep:Nat} {o:Obj} {es:Array (Int×Value)} {t:SetTable}
def a9 (prog:Program) (w:World) (a:Addr) (o:Obj) (es:Array (Int×Value)) (ep:Nat) (t:SetTable) (c:Array Value) (b:Nat->Nat):Prop:=
 ∀ (A:Around) (E:c_) (s:Shared) (i:Nat) (Q:Option (Value×Nat)->Shared->Prop),SetT prog w s.heap a o es ep t->i<=es.size->Q (c[i]?.map λv=>(v,b (i+1))) s->wpAny (model prog w) A (setNext a (b i) i ep) Q E s
theorem O4 {h:Array Value} {g:Nat->Nat} {Q:Option Value->Shared->Prop} (T:a9 prog w a o es ep t h g) (u:A.handled=none) (F:a≠I) (y:i<=es.size) (x:IsSI s.heap I (.int (g i) 0) i a es.size ep) (S:SetT prog w s.heap a o es ep t)
  (q:∀ v d,h[i]?=some v->IsSI d I (.int (g (i+1)) 0) (i+1) a es.size ep->Heap.SameBut I s.heap d->Q (some v) { s with heap:=d }) (q2:h[i]?=none->∀ d,Heap.ExtBut I s.heap d->Q none { s with heap:=d }):wpAny (model prog w) A (pyNext (.ref I)) Q E s:=by
 let {G,j,H,m}:=id x;unfold pyNext;refine nH (wpAny_attempt (wpAny_callSpecial?_slot x.ty si_slot (wpAny_call_entry si_slot x.ty Oz ?_ (O0 _))));unfold Builtin.«set_iterator.__next__»;refine nH (nJ (nH (wpAny_fieldsOf j m ?_)));dsimp only;refine nH (wpAny_setEntries_of S.ho S.da S.fi ?_);rw [nB (by simp)];refine nH (T _ _ _ _ _ S y ?_);cases n:h[i]? with
 | some v=>
   dsimp only [Option.map];refine nH (wpAny_setField j m (by simp) ?_);let p:=x.put (f':=rawInt (g (i+1)));let {J,B,K,C}:=id p;refine nH (wpAny_setField (s:={ s with heap:=s.heap.update I (Obj.mapFields (·.setIfInBounds 0 (rawInt (g (i+1))))) }) B C (by simp) ?_);refine nJ {1,nJ ?_};exact q v _ n p.up ((Heap.SameBut.update ..).trans (Heap.SameBut.update ..))
 | none=>
   dsimp only [Option.map];refine nH (wpAny_setField j m (by simp) ?_);refine nK (O3 (I:=I) (s:={ s with heap:=s.heap.update I (Obj.mapFields (·.setIfInBounds 2 Value.none)) }) (Q:=Q) (by show A.in1.handled=none;exact u) (R:=λe L=>wpAny (model prog w) A _ _ _ _) λv d k D=>?_) (λ_ _ z=>z.elim) λ_ _ z=>z;refine nH (wpAny_isInstance (T := "StopIteration") (b:=true) D isSubtype_stop (nJ ?_));exact q2 n _ λb o r e=>k b o r (((Heap.SameBut.update ..).extBut) b o r e)
def O5:Slot "set_iterator" "__iter__" "set_iterator.__iter__" := .of (owner := "set_iterator") (n := "__iter__") (by rw [typeLookup_type,builtinLookup_eq_fast];kernel_rfl) (by decide +kernel) (by decide +kernel) (by decide +kernel) (by first | exact .inl (by decide +kernel) | exact .inr (by decide +kernel)) (by rw [isSubtype_type];kernel_rfl)
def W5:entryFor table "set_iterator.__iter__" = some Builtin.«dict_keyiterator.__iter__»:=entryFor_alias (id' := "dict_keyiterator.__iter__") (by kernel_rfl) rfl (by decide +kernel) (by kernel_rfl)
def W6 (a:Value):argsOk "set_iterator.__iter__" ⟨[a],[]⟩:=by unfold argsOk;kernel_rfl
def O6 {n:Nat} {Q:c_} (x:IsSI s.heap I f i a n ep) (q:Q (.ref I) s):wpAny (model prog w) A (pyIter (.ref I)) Q E s:=by
 refine wpAny_pyIter_slot x.ty O5 (wpAny_call_entry O5 x.ty W5 ?_ (W6 _));show wpAny _ _ (ret (.ref I)) _ _ s;exact nJ {1, "set_iterator", _,x.ty,si_slot.lookup,q}
def W7 {j:Array Value} {n:Nat->Nat} (T:a9 prog w a o es ep t j n) (y:j.size=es.size) (p:A.handled=none) (m:a≠I) :
  Walks prog w A I [I,a] [I] es.size (λi v=>j[i]?=some v) (λi h=>i<=es.size/\IsSI h I (.int (n i) 0) i a es.size ep/\SetT prog w h a o es ep t) where
 sub:=λb d=>by rw [Ap.mp d];exact BX ..
 frame:=λ_ _ _ c k=>{c.1,c.2.1.keep (k I (BX ..)),c.2.2.keep (k a (Br _ (Ap.mpr rfl)))}
 item:=λi s Q E u c q=>O4 T p m c.1 c.2.1 c.2.2 (λv g e x r=>q v g s.toks e {u,x,c.2.2.keep λo e=>(r.2 a m).trans e} λb o d e=>(r.2 b λz=>d (Ap.mpr z)).trans e) λe=>by
  rw [Array.getElem?_eq_getElem `a] at e;cases e
 done:=λs Q E c q=>O4 T p m c.1 c.2.1 c.2.2 (λv g e=>by
  rw [Array.getElem?_eq_none `a] at e;cases e) λe g x=>q g s.toks λb o d e=>x b o (λz=>d (Ap.mpr z)) e
 self:=λi s Q E c q=>O6 c.2.1 q
noncomputable def cE (p:Array Nat):Nat->Nat
 | 0=>0
 | i+1=>p.getD i 0+1
def W8 (h:w.params.followText "set-order" = false) (d:(!t.plain && decide (es.size > 1))=false):a9 prog w a o es ep t (es.map (·.2)) (cE t.place):=λA E s i Q S k q=>by
 let B:=S.tb;let c:=S.fi;unfold setNext;refine nH (wpAny_setState_of S.ho S.da S.fi ?_);dsimp only;refine nH ?_;unfold setsByText;refine nH (wpAny_askSetting (nJ ?_));show wpAny _ _ (if w.params.followText "set-order" = true then _ else _) _ _ _;rw [h];rw [nB `b];refine wpAny_ite_split (λz=>absurd (d.symm.trans z) `b) λ_=>?_;refine nH ?_;refine wpAny_ite_split (λz=>absurd z ?_) λ_=>nJ ?_
 .have:=B.le;rw [Gy,h] at this;rw [this];simp
 let sz:t.place.size=es.size:=by
  unfold SetTable.fits at c;simp at c;exact c.1
 let g:SetTable.below t.place (cE t.place i)=i:=by
  cases i with
  | zero=>exact Wv B.up
  | succ i=>
    exact Wu B.up (by rw [Array.getElem?_eq_getElem (show i<t.place.size by omega)];simp [Array.getD,show i<t.place.size by omega])
 refine nJ ?_;rw [g];rcases BE i es.size with b | b
 .rw [Array.getElem?_eq_getElem b,Array.getElem?_eq_getElem (show i<t.place.size by omega)];have:(es.map λe=>e.2)[i]?=some es[i].2:=by simp [b]
  rw [this] at q;simpa [cE,Array.getD,show i<t.place.size by omega] using q
 .let j:es[i]?=none:=Array.getElem?_eq_none b;have:(es.map λe=>e.2)[i]?=none:=by simp [b]
  rw [this] at q;rw [j];exact q
theorem LQ {b:Type}:∀ {l:List b} {i:Nat} (h:i<@l),(l[i]::l.eraseIdx i).Perm l
 | x::l,0,_=>.rfl
 | x::l,i+1,h=>(List.Perm.swap ..).trans ((LQ (Nat.lt_of_succ_lt_succ h)).cons x)
theorem O7 {e:Type} (c:Nat->Nat):∀ (b k:Nat) (left:List e) (out:Array e),↑left=b->(pickOrder.go c b k left out).toList.Perm (out.toList++left)
 | 0,k,left,out,h=>by
   rw [B5.mp h,List.append_nil];exact .rfl
 | b+1,k,left,out,h=>by
   let d:c k % ↑left<↑left:=Nat.mod_lt _ `a;unfold pickOrder.go;rw [AR d];refine (O7 c b (k+1) _ _ (by rw [List.length_eraseIdx_of_lt d];omega)).trans ?_;rw [Array.toList_push,List.append_assoc];exact List.Perm.append_left _ (LQ d)
def W9 {c:Type} (b:Nat->Nat) (xs:Array c):(pickOrder b xs).toList.Perm xs.toList:=by
 have:=O7 b xs.size 0 xs.toList #[] (by simp);exact this
def XA (h:w.params.followText "set-order" = true):a9 prog w a o es ep t ((pickOrder (w.params.setOrder a ep) es).map (·.2)) (λ_=>0):=λA E s i Q S b q=>by
 unfold setNext;refine nH (wpAny_setState_of S.ho S.da S.fi ?_);dsimp only;refine nH ?_;unfold setsByText;refine nH (wpAny_askSetting (nJ ?_));show wpAny _ _ (if w.params.followText "set-order" = true then _ else _) _ _ _;rw [nC h];refine wpAny_ite_split (λz=>absurd z (by simp)) λ_=>?_;unfold setWalk;refine nH (nH (wpAny_setState_of S.ho S.da S.fi ?_));dsimp only;refine nH ?_;unfold setsByText;refine nH (wpAny_askSetting (nJ ?_));show wpAny _ _ (if w.params.followText "set-order" = true then _ else _) _ _ _;rw [nC h];refine nH (wpAny_askSetting (nJ (nJ ?_)));rw [Array.getElem?_map] at q;rw [Option.map_map] at q;exact q
theorem XB {g:Type} {Q:List g->Shared->Prop} (n:Nat):∀ (xs:List g) (s:Shared),@xs=n->(∀ b d,b.Perm xs->Q b { s with drawn:=d })->wpAny (model prog w) A (drawOrder n xs) Q E s:=by
 induction n generalizing Q with
 | zero=>
   intro xs s h q;rw [B5.mp h] at q ⊢;exact nJ (q [] s.drawn .rfl)
 | succ n j=>
   intro xs s h q;cases xs with
   | nil=>cases h
   | cons x xs=>
     intro m p c;refine (Sem.wp_choose (n:=(x::xs).length) (k:=λi=>_) ..).mpr {by simp,?_};generalize r:(model prog w).w.draws .order (s.drawn.get .order) % (x::xs).length=i;let e:i<(x::xs).length:=by rw [<-r];exact Nat.mod_lt _ (by simp)
     show Sem.wp _ _ (match (x::xs)[i]? with | some y=>_ | none=>_) _ _ _ _;rw [AR e]
     exact (show wpAny (model prog w) A (drawOrder n ((x::xs).eraseIdx i) >>= λb=>pure ((x::xs)[i]::b)) Q E { s with drawn:=s.drawn.bump .order } from
      nH (j _ _ (by rw [List.length_eraseIdx_of_lt e,h];rfl) λb d u=>nJ (q _ d ((u.cons _).trans (LQ e))))) m p c
theorem O8 {T:Addr} {h:List Nat} {c:Nat} {Q:Option Value->Shared->Prop} (y:A.handled=none) (m:∀ j∈h,j<es.size) (x:IsSI s.heap I (.ref T) i a es.size ep) (S:SetT prog w s.heap a o es ep t) (B:s.heap.get? T=some { cls:=.type "tuple", data:=.seq (h.map λj:Nat=>rawInt j).toArray c })
  (q:∀ j g,h[i]?=some j->IsSI g I (.ref T) (i+1) a es.size ep->Heap.SameBut I s.heap g->Q (some (es.getD j (0,.none)).2) { s with heap:=g }) (q2:h[i]?=none->∀ g,Heap.ExtBut I s.heap g->Q none { s with heap:=g }):wpAny (model prog w) A (pyNext (.ref I)) Q E s:=by
 let {H,n,J,p}:=id x;unfold pyNext;refine nH (wpAny_attempt (wpAny_callSpecial?_slot x.ty si_slot (wpAny_call_entry si_slot x.ty Oz ?_ (O0 _))));unfold Builtin.«set_iterator.__next__»;refine nH (nJ (nH (wpAny_fieldsOf n p ?_)));dsimp only;refine nH (wpAny_setEntries_of S.ho S.da S.fi ?_);rw [nB (by simp)];refine nH (wpAny_seqItems B rfl ?_);dsimp only;rw [Ch,List.getElem?_toArray,Ah];cases r:h[i]? with
 | some j=>
   let u:j<es.size:=m j (Bb r);dsimp only [Option.map,rawInt];unfold setNextDrawn;refine nH (nH (wpAny_setState_of S.ho S.da S.fi ?_));dsimp only;refine wpAny_ite_split (λz=>absurd z (by simp)) λ_=>?_;rw [Ch,Array.getElem?_eq_getElem u];refine nJ (nH (wpAny_setField n p (by simp) (nJ {1,nJ ?_})));have:=q j _ r x.up (Heap.SameBut.update ..);rw [show es.getD j (0,.none)=es[j] by simp [Array.getD,u]] at this;exact this
 | none=>
   dsimp only [Option.map];refine nH (wpAny_setField n p (by simp) ?_);let C:=x.put (f':=rawInt 0);let {K,D,L,F}:=id C;refine nH (wpAny_setField (s:={ s with heap:=s.heap.update I (Obj.mapFields (·.setIfInBounds 0 (rawInt 0))) }) D F (by simp) ?_);refine nK (O3 (I:=I) (s:={ s with heap:=(s.heap.update I (Obj.mapFields (·.setIfInBounds 0 (rawInt 0)))).update I (Obj.mapFields (·.setIfInBounds 2 Value.none)) }) (Q:=Q) (by show A.in1.handled=none;exact y) (R:=λe M=>wpAny (model prog w) A _ _ _ _) λv g k G=>?_) (λ_ _ z=>z.elim) λ_ _ z=>z;refine nH (wpAny_isInstance (T := "StopIteration") (b:=true) G isSubtype_stop (nJ ?_));exact q2 r _ λb o m e=>k b o m ((((Heap.SameBut.update ..).trans (Heap.SameBut.update ..)).extBut) b o m e)
def XC {T:Addr} {m:List Nat} {c:Nat} (g:∀ j∈m,j<es.size) (C:@m=es.size) (r:A.handled=none) (u:a≠I) (y:T≠I) :
  Walks prog w A I [I,a,T] [I] es.size (λi v=>(m.map λj=>(es.getD j (0,.none)).2)[i]?=some v) (λi h=>i<=es.size/\IsSI h I (.ref T) i a es.size ep/\SetT prog w h a o es ep t/\h.get? T=some { cls:=.type "tuple", data:=.seq (m.map λj:Nat=>rawInt j).toArray c }) where
 sub:=λb g=>by rw [Ap.mp g];exact BX ..
 frame:=λ_ _ _ d k=>{d.1,d.2.1.keep (k I (by simp)),d.2.2.1.keep (k a (by simp)),k T (by simp) _ d.2.2.2}
 item:=λi s Q E B d q=>O8 r g d.2.1 d.2.2.1 d.2.2.2 (λj n e x p=>q _ n s.toks (by rw [Ah,e];rfl) {B,x,d.2.2.1.keep λo e=>(p.2 a u).trans e,(p.2 T y).trans d.2.2.2} λb o g e=>(p.2 b λz=>g (Ap.mpr z)).trans e) λe=>by
  rw [AR `a] at e;cases e
 done:=λs Q E d q=>O8 r g d.2.1 d.2.2.1 d.2.2.2 (λv n e=>by
  rw [CB `a] at e;cases e) λe n x=>q n s.toks λb o g e=>x b o (λz=>g (Ap.mpr z)) e
 self:=λi s Q E d q=>O6 d.2.1 q
end
section
variable {prog:Program} {w:World} {A:Around} {E:c_} {s:Shared} {I a:Addr} {f:Value} {i ep:Nat} {o:Obj} {es:Array (Int×Value)} {t:SetTable}
def SetT.ty (S:SetT prog w s.heap a o es ep t):s.TypeIs (.ref a) "set" := ⟨o,S.ho,S.ex.1⟩
def XD {Q:c_} (G:A.handled=none) (S:SetT prog w s.heap a o es ep t) (z:es.size<4096)
  (q:∀ (J:Addr) C O fp (m:cZ) St,(∀ b o,s.heap.get? b=some o->C.get? b=some o)->Walks prog w A J fp [J] es.size (λi v=>m[i]?=some v) St->St 0 C->m.Perm (es.toList.map (·.2))->⇑s<=J->(∀ b∈fp,b=a\/⇑s<=b)->Q (.ref J) { s with heap:=C,drawn:=O }) :
  wpAny (model prog w) A (pyIter (.ref a)) Q E s:=by
 let H:@LT.lt Nat _ a ⇑s:=nO S.ho;refine wpAny_pyIter_slot S.ty F.slot_set_iter (wpAny_call_entry F.slot_set_iter S.ty W4 ?_ (F.args_set_iter_1 _));unfold Builtin.«frozenset.__iter__» Builtin.Frozenset.slot0 slotArgs;simp only [List.isEmpty_nil,Bool.not_true,Bool.false_eq_true,↓reduceIte,bind_assoc,List.length_nil,bne_self_eq_false];unfold Builtin.Frozenset.addrOf Builtin.Frozenset.sizeOf;refine nH (nJ ?_)
 try dsimp only
 refine nH (nJ ?_);refine nH (nH (wpAny_setEntries_of S.ho S.da S.fi (nJ ?_)));unfold setDrawn;refine nH (nH (wpAny_setState_of S.ho S.da S.fi ?_));dsimp only;unfold setsByText;refine nH (nH (wpAny_askSetting (nJ (nJ ?_))))
 let K:∀ (m:cZ) (D:Nat->Nat),D 0=0->a9 prog w a o es ep t m.toArray D->m.Perm (es.toList.map (·.2))->wpAny (model prog w) A.in1 (do
   let e <-setEpoch a;let v <-newFields "set_iterator" [rawInt 0,rawInt 0,.ref a,rawInt es.size,rawInt e]
   ret v) (λr L=>∃ v,r=.done (.ret v)/\∃ M P,L.TypeIs v M/\typeLookup (.type M) "__next__" = pure (some P)/\Q v L) E s:=λm D R T p=>by
  unfold setEpoch;refine nH (nH (wpAny_setState_of S.ho S.da S.fi (nJ (nH (wpAny_newObj_type (nJ {1, "set_iterator", _,{_,Heap.get?_push_size _ rfl,2},si_slot.lookup,?_}) (by size_fits))))));have:=W7 (A:=A) (I:=⇑s) T (by simpa using p.length_eq) G (BQ H);simp only [List.getElem?_toArray] at this;refine q ⇑s _ s.drawn _ m _ (λb o e=>Heap.get?_push_of_some _ e) this {AV _,{_,Heap.get?_push_size _ rfl,2,by rw [R];rfl},S.keep λo e=>Heap.get?_push_of_some _ e} p (AT _) λb h=>?_;simp at h;rcases h with rfl | rfl
  .exact .inr (AT _)
  .exact .inl rfl
 show wpAny _ _ (if (!w.params.followText "set-order" && (!t.plain && decide (es.size > 1)))=true then _ else _) _ _ _;by_cases n:w.params.followText "set-order" = true
 .rw [nB (by rw [n];simp)];refine nH (nJ ?_);exact K ((pickOrder (w.params.setOrder a ep) es).map (·.2)).toList (λ_=>0) rfl (by rw [Array.toArray_toList];exact XA n) (by rw [Array.toList_map];exact (W9 _ es).map _)
 .let n:w.params.followText "set-order" = false:=by simpa using n
  by_cases hp:(!t.plain && decide (es.size > 1))=true
  .rw [nC (by rw [n,hp];rfl)];refine nH (XB es.size (List.range es.size) s (Bg) λu d p=>?_);let N:@u=es.size:=by rw [p.length_eq,Bg]
   let h:∀ j∈u,j<es.size:=λj U=>DB.mp (p.mem_iff.mp U);refine nH (wpAny_newTuple ?_ (by rw [AI,N];exact Hv z));unfold setEpoch;let B:SetT prog w (s.heap.push { cls:=.type "tuple", data:=.seq (u.map λj:Nat=>rawInt j).toArray }) a o es ep t:=S.keep λo e=>Heap.get?_push_of_some _ e;refine nH (nH (wpAny_setState_of (s:={ s with heap:=_,drawn:=d }) B.ho B.da B.fi (nJ (nH (wpAny_newObj_type (nJ {1, "set_iterator", _,{_,Heap.get?_push_size _ rfl,2},si_slot.lookup,?_}) (by size_fits))))));let g:(s.heap.push { cls:=.type "tuple", data:=.seq (u.map λj:Nat=>rawInt j).toArray }).objs.size=⇑s+1:=Heap.size_push _ _;let W:=XC (prog:=prog) (w:=w) (A:=A) (I:=(s.heap.push { cls:=.type "tuple", data:=.seq (u.map λj:Nat=>rawInt j).toArray }).objs.size) (a:=a) (o:=o) (t:=t) (ep:=ep) (T:=⇑s) (c:=0) h N G (by rw [g];exact BQ (Nat.lt_succ_of_lt H)) (by rw [g];exact BQ (Nat.lt_succ_self _));refine q _ _ d _ (u.map λj=>(es.getD j (0,.none)).2) _ (λb o e=>Heap.get?_push_of_some _ (Heap.get?_push_of_some _ e)) W {AV _,{_,Heap.get?_push_size _ rfl,7},B.keep λo e=>Heap.get?_push_of_some _ e,Heap.get?_push_of_some _ (Heap.get?_push_size _ rfl)} ?_ (by rw [g];exact Dd _) λb h=>?_
   .refine (p.map _).trans ?_
    have:(List.range es.size).map (λj=>(es.getD j (0,.none)).2)=es.toList.map (·.2):=by
     apply EL;intro k;simp only [Ah,Array.getElem?_toList];rcases BE k es.size with y | y
     .simp [y,Array.getD]
     .simp [y]
    rw [this]
   .rw [g] at h;simp at h;rcases h with rfl | rfl | rfl
    .exact .inr (Dd _)
    .exact .inl rfl
    .exact .inr (AT _)
  .rw [nB (by rw [n];simpa using hp)];refine nH (nJ ?_);exact K (es.map (·.2)).toList (cE t.place) rfl (by rw [Array.toArray_toList];exact W8 n (by simpa using hp)) (by rw [Array.toList_map])
def XE {Q:Bool->Shared->Prop} (e:s.TypeIs (.ref a) "set") (h:Q false s):wpAny (model prog w) A (Builtin.List.listLengthHint (.ref a)) Q E s:=by
 unfold Builtin.List.listLengthHint;refine nH (wpAny_specialOf e PySem.F.slot_set_len.lookup ?_);generalize d:("set.__len__" : String)=g
 wp_delta
 rw [show splitId g=some ("set","__len__") from by subst d;decide +kernel];subst d;refine nH (wpAny_isInstance (T := "set") (b:=true) e (by rw [isSubtype_type];kernel_rfl) ?_);refine wpAny_ite_split (λc=>absurd c `b) (λ_=>?_);refine wpAny_ite_split (λ_=>?_) (λc=>absurd (by decide +kernel) c);exact nH (wpAny_typeOf e (nJ h))
def XF {R:cZ->Shared->Prop} (Q:A.handled=none) (S:SetT prog w s.heap a o es ep t) (z:es.size<4096)
  (h:∀ g U d (p:cZ),(∀ b o,s.heap.get? b=some o->g.get? b=some o)->p.Perm (es.toList.map (·.2))->R p { s with heap:=g,toks:=U,drawn:=d }):wpAny (model prog w) A (collect (.ref a)) R E s:=by
 let C:@LT.lt Nat _ a ⇑s:=nO S.ho;unfold collect;refine nH (wpAny_runValue (codeAny_builtin entry_proto_collect' ?_));rw [Around.under_plainId PySem.F.plain_proto_collect _];refine nH (m:=newList []) (wpAny_newObj_type (nJ {plainId_quiet PySem.F.plain_list_iadd _,codeAny_builtin entry_list_iadd' ?_}));rw [Around.under_plainId PySem.F.plain_list_iadd _];let q:SetT prog w (s.heap.push { cls:=.type "list", data:=.seq ([]:cZ).toArray }) a o es ep t:=S.keep λo e=>Heap.get?_push_of_some _ e;let X:(s.heap.push { cls:=.type "list", data:=.seq ([]:cZ).toArray }).get? ⇑s=some { cls:=.type "list", data:=.seq #[] }:=Heap.get?_push_size _ rfl;let r:(s.heap.push { cls:=.type "list", data:=.seq ([]:cZ).toArray }).objs.size=⇑s+1:=Heap.size_push _ _;show wpAny _ A.in1 (Builtin.List.listExtendWith (.ref ⇑s) (.ref a) (.ref ⇑s)) _ _ _;unfold Builtin.List.listExtendWith;refine nH (wpAny_typeOf (T := "set") (SetT.ty (s:={ s with heap:=_ }) q) ?_);let Y:Builtin.List.listSameRef (.ref ⇑s) (.ref a)=false:=by simp [Builtin.List.listSameRef,Nat.ne_of_gt C]
 let Z:(Value.type "set" == Value.type "list")=false:=by decide
 let n3:(Value.type "set" == Value.type "tuple")=false:=by decide
 simp only [Y,Z,n3,Bool.or_false,Bool.false_eq_true,if_false];refine nH (XD (A:=A.in1) (s:={ s with heap:=_ }) (by simpa using Q) q z λJ g u fp p St kp W st D F G=>?_);rw [r] at F G;let S2:SetT prog w g a o es ep t:=q.keep λo e=>kp _ _ e;refine nH (wpAny_holding (XE (s:={ s with heap:=g,drawn:=u }) (SetT.ty (s:={ s with heap:=g,drawn:=u }) S2) ?_))
 let H:⇑s∉fp:=λm=>by
  rcases G _ m with e | e
  .exact absurd e (Nat.ne_of_gt C)
  .exact absurd e (Nat.not_succ_le_self _)
 refine wpAny_ite_split (λ_=>?_) λy=>absurd `b y;refine nH (wpAny_rule (nH ?_));show wpAny _ _ (updateSeq ⇑s (·.push .none) >>= λ_=>updateSeq ⇑s (·.pop)) _ _ _;let K:=kp _ _ X;refine nH (wpAny_updateSeq K rfl ?_);let L:=Heap.get?_update_self (Obj.mapSeq (·.push Value.none)) K rfl;refine wpAny_updateSeq (hz:=by seq_fits) L rfl ?_;let e3:=Heap.get?_update_self (Obj.mapSeq (·.pop)) L rfl;let M:∀ b o,b≠⇑s->g.get? b=some o->((g.update ⇑s (Obj.mapSeq (·.push Value.none))).update ⇑s (Obj.mapSeq (·.pop))).get? b=some o:=λb o N e=>(Heap.get?_update_other _ _ N.symm).trans ((Heap.get?_update_other _ _ N.symm).trans e);refine nJ {plainId_quiet PySem.F.plain_extend_loop _,?_};refine codeAny_extend_loopS W.toS (Hv z) ⇑s H (.ref ⇑s) es.size 0 _ #[] _ rfl (AV _) (W.frame 0 _ _ st λb hb o e=>M b o (λy=>H (y ▸ hb)) e) e3 (ItemsOf.nil _) λO j c' P v n=>?_;rw [Moved.eq_with P];refine nH (m:=load ⇑s) (wpAny_load v ?_)
 let ea:j.toList=p:=by
  apply EL;intro k;rw [Array.getElem?_toList];rcases BE k j.size with y | y
  .have:=n.2 k _ (Array.getElem?_eq_getElem y);rw [Array.getElem?_eq_getElem y,this]
  .have:@p=es.size:=by rw [D.length_eq];simp
   rw [Array.getElem?_eq_none y,CB (by have:=n.1;omega)]
 have:=h O.heap O.toks u p (λb o e=>P.heap b o (λy=>?_) (M b o (BQ (nO e)) (kp b o (Heap.get?_push_of_some _ e)))) D
 .rw [ea.symm] at this;exact nJ this
 .let x:@LT.lt Nat _ b ⇑s:=nO e;rcases CS.mp y with e' | y
  .exact absurd e' (BQ x)
  .rw [Ap.mp y] at x;exact absurd (BZ x (Nat.le_of_succ_le F)) (Cz _)
def O9 {R:c_} {d:cZ} {ns:cY} (p:IntsAre d ns) (j:@d<64)
  (q:∀ k (out:cZ) c g,(∀ b o,s.heap.get? b=some o->k.get? b=some o)->k.get? ⇑s=some (seqObj "list" out.toArray c)->IntsAre out g->g.Perm ns->g.Pairwise (·<=·)->R (.ref ⇑s) { s with heap:=k }) :
  wpAny (model prog w) A (do
   let l <-newList d;let _ <-holding [l] (call (.builtin "list.sort") [l])
   ret l) (λm u=>∃ r,m=.done (.ret r)/\R r u) E s:=by
 refine nH (wpAny_newList ?_ (Hv `a));let n:(s.heap.push (seqObj "list" d.toArray 0)).get? ⇑s=some (seqObj "list" d.toArray 0):=Heap.get?_push_size _ rfl;refine nH (wpAny_holding (wpAny_call_entry slot_list_sort (s:={ s with heap:=_ }) {_,n,2} entry_list_sort (list_sort_tree n p j λout g a1 a2 v=>{1,nJ {1,?_}}) (args_list_sort _)));let {c,x}:=sortedHeap_at (out:=out) n;exact q _ out.toList c g (λb o e=>(sortedHeap_old (BQ (nO e)) (by rw [Heap.size_push];exact Nat.lt_succ_of_lt (nO e))).trans (Heap.get?_push_of_some _ e)) x a1 a2 v
end
end Bs
namespace Bs
open PySem PySem.Spec PySem.Calls PyProof.Rows L2
section
variable {X:Cx}
def XG {a:Pos}:PE X (.Dict [] [] a) LJ:=by
 intro c s g H Q I h;let d:H ⇑s=none:=I.hok.fresh (AT _);let {m,F}:=I.fr;let f:(⇑s == sysModules)=false:=F.notModules (modules_low I.ok.mod.nolimit);exact wpAny_Dict_empty {.ref ⇑s,_,I.laid (o:=.dK []) (t':=s.toks) (λb u e=>Heap.get?_push_of_some _ e) (AT _) {AV _,f,[],.nil,Heap.DictOf.new _},2,h _ d}
def XH:aO X Ou:=by
 intro c s A H o i v B C u Q I ro f g h;let {p,k,a,rfl,rfl,hp,j,q}:=h;cases ro;let {t,rfl}:=f;let {hz,n,w,r,m}:=Inv.dK I hp;let D:@a=@w:=Paired.length r;refine wpAny_setItem_pairs (hsz:=by omega) (UB X.prog X.w k t) m λE d y=>{_,I.write (x:=p) (e:=p) (o:=.dK (Fa a (.inl k) v)) (by rw [hp];trivial) (.inl rfl) (λb u z e=>(y.2 b z).trans e) ?_ ?_,q}
 .let {o,_,_,e,_}:=d;exact ⟨o,e⟩
 .exact {by have:=Wh (k:=.inl k) (v:=v) (kvs:=a);omega,n,_,Wg r g,d}
theorem XI {P:Program} {w:World} {H:Hp} {h:Heap} {a:Addr} {o:HO} (x:ObjOk P w H h a o):∃ u,h.get? a=some u:=by
 cases o with
 | lst c=>let ⟨_,_,_,_,e⟩:=x;exact {_,e}
 | tup c=>let ⟨_,_,_,_,e,_⟩:=x;exact {_,e}
 | dK b=>let ⟨_,_,_,_,o,_,_,e,_⟩:=x;exact {_,e}
 | dT b=>let ⟨_,_,_,_,o,_,_,e,_⟩:=x;exact {_,e}
 | set S n=>let ⟨o,_,_,_,e,_⟩:=x;exact {_,e}
 | ins C g d=>let ⟨_,_,_,e,_⟩:=x;exact {_,e}
 | own y=>let ⟨_,e⟩:=x;exact {_,e}
 | xd d=>let ⟨_,⟨_,_,_,e,_⟩,_⟩:=x;exact {_,e}
 | rng lo i=>let ⟨_,_,_,e⟩:=x;exact {_,e}
 | frz j u=>let ⟨e,_⟩:=x;exact {_,e}
 | tbl ps=>exact {_,x}
 | met f y=>exact {_,x}
 | ext k=>let ⟨_,e,_⟩:=x;exact e
def PB {a:d6} {s:Shared} {j:L2.St} {H:Hp} {Q:VK} {h':Heap} {D:Addr} {tk:Nat} {d:Drawn} {out:cZ} {c:Nat} {i:cY} (I:Inv X a j H s) (k:∀ b o,s.heap.get? b=some o->h'.get? b=some o) (p:s.heap.get? D=none) (e:h'.get? D=some (seqObj "list" out.toArray c)) (C:IntsAre out i) (L:@i<64)
  (q:H D=none->Q (.ref D) (upd H D (.lst (~~~i)))):EP X a j Q (.ref D) { s with heap:=h',toks:=tk,drawn:=d }:=by
 let g:H D=none:=by
  cases y:H D with
  | none=>rfl
  | some u=>
    let {v,A}:=XI (I.hok D u y);rw [p] at A;cases A
 let {m,M,_}:=id I.loc;refine {.ref _,_,?_,2,q g};refine I.step (g':=s.gens) (d':=d) (t':=tk) (ch:=[]) (λ_ z=>nomatch z) (λb o n _ _ e _=>k b o e) (λb o n _ _ e _=>{o.slots,k b o e}) (λb o _ e n=>?_) (λb o _ e=>{o,k b o e}) (λb E e=>?_) (λb o u e=>?_) (λb ps e=>{#[],?_}) (λN F=>?_) (λb o h=>?_) I.bare
 .rw [Ai (λy=>by rw [y,p] at e;cases e)];exact n
 .rw [Ai (Aq e g)];exact e
 .rw [Ai (Aq e g)];exact e
 .rw [Ai (Aq e g),e];simp
 .let ⟨o,G,J,K,r⟩:=id F;exact {o,G,J,k _ _ K,r}
 .by_cases B:b=D
  .subst B;rw [upd_same] at h;cases h;exact {by rw [AI,sizeLine_eq];omega,out,c,Kx C,e}
  .rw [Ai B] at h;refine (I.hok b o h).stay (λc u O f=>k c u f) (λc f=>?_) λc E f=>?_
   .rw [Ai (Aq f g)];exact f
   .rw [Ai (Aq f g)];exact f
theorem PC:∀ {a:cZ} {ns:cY},@a=@ns->(∀ (j:Nat) v,a[j]?=some v->∃ t,v=.int (ns.getD j 0) t)->IntsAre a ns
 | [],[],_,_=>.nil
 | v::a,n::ns,h,k=>by
   let {t,rfl}:=k 0 v rfl;exact .cons n t (PC (Nat.succ.inj h) λj v e=>k (j+1) v e)
theorem PD {b a:Type} {F:b->a->Prop}:∀ {l:List b} {m:List a} {j:Nat} {y:a},Paired F l m->m[j]?=some y->∃ x,l[j]?=some x/\F x y
 | _,_,0,_,.cons h _,e=>by cases e;exact {1,h}
 | _,_,j+1,_,.cons _ t,e=>PD (j:=j) t e
theorem PH {h h':Heap} (k:∀ b o,h.get? b=some o->h'.get? b=some o):h.get? h'.objs.size=none:=by
 cases y:h.get? h'.objs.size with
 | none=>rfl
 | some u=>exact absurd (nO (k _ _ y)) (Cz _)
def XJ (S:X.calm=true):CW X (.builtin "sorted") Ow:=λg s T H xs us Q I r ⟨p,y,n,e,hp,hk,J,q⟩=>by
 subst e;let {u,rfl,U}:=DW r;cases U;let {hz,Y,z,K,m}:=Inv.dK I hp;let {L,B}:=m.dictAt;let C:@z=@n:=by rw [<-Paired.length K,<-AI (f:=(·.1)),hk,AI]
 let Z:∀ (j:Nat) (k:N_) (x:Value),z[j]?=some (k,x)->k=.inl (n.getD j 0):=λj k x M=>by
  let N:j<@n:=by have:=(A3.mp M).1;omega
  let {kv,D,h}:=PD K M;have:=congrArg (λl=>l[j]?) hk;simp only [Ah,D,Option.map] at this;rw [AR N] at this;simp at this;let h3:kv.1=k:=h.1;rw [<-h3,this];simp [N]
 refine call_function_entry kind_sorted plain_sorted entry_sorted (args_sorted1 _) ?_;unfold Builtin.«sorted»;refine nH (m:=checkCount "sorted" 1 1 _) (nJ ?_);refine nH (W.kdu_collect (A:=X.A.in1) (W.kdl_dict (knd:=Gh X.prog X.w) (kvs:=z) (ep:=L) Y) (by simpa using I.ok.hd S) B (by rw [C,sizeLine_eq];omega) λh' F G i a=>?_)
 let hI:IntsAre G.toList n:=PC (by rw [Array.length_toList,a.1,C]) λj v e=>by
  let {k,x,D,h}:=a.2 j v (by rw [<-Array.getElem?_toList];exact e);rw [Z j k x D] at h;exact Value.isInt_shape h
 exact O9 (prog:=X.prog) (w:=X.w) (A:=X.A.in1) (E:=X.xe) (s:={ s with heap:=h',toks:=F }) (R:=λv s'=>EP X g T Q v s') hI (by rw [Array.length_toList,a.1,C];exact J) λh a0 c ms k2 e2 a1 a2 a3=>PB (s:=s) (tk:=F) (d:=s.drawn) I (λb o e=>k2 b o (i b o e)) (PH i) e2 a1 (by rw [a2.length_eq];exact J) λfr=>q _ ms fr a2 a3
def XM:bootBuiltins "set" = some (.type "set"):=by decide +kernel
def XN {e:Expr} {U:TA} {p C D a:Pos} (hg:Gl X "sorted") (hm:X.mg "sorted" = none) (F:Gl X "set") (G:X.mg "set" = none) (W:X.calm=true) (ha:PA X [e] U)
  (hs:starEach [e] X.env=(false,eval e X.env)::starEach [] X.env:=by rfl) (J:(backTo a (starEach [] X.env)).any (·.1)=false:=by rfl)
  (K:starEach [.Call (.Name "set" D) [e] [] a] X.env=[(false,eval (.Call (.Name "set" D) [e] [] a) X.env)]:=by rfl) :
  PE X (.Call (.Name "sorted" p) [.Call (.Name "set" D) [e] [] a] [] C) (LK U):=by
 intro f s Y H Q I h;refine wpAny_Call_Name_kw (Dj I hg hm Oe ?_ `b `b);rw [K];refine Calls.callWith_builtin rfl (Calls.evalArgs_plain (Calls.spliced_cons (Call_ (Dj I F G XM (PyProof.Rows.callWith_type1 (F_ (ha a f s Y H _ I h) λus r ⟨y,H1,B,r1,q1⟩=>?_) hs J)))));let {l,L,rfl,hp,a0,q}:=q1;let {u,rfl,ru}:=DW r1;cases ru;let {M,Z,pl,_}:=B.list (SqL.of hp);let hI:=Wi Z;let a4:@L=@M:=by have:=@Z;simpa using this
 refine W3 (B.ok.hd W) pl.isList (ns:=L) (by simpa using hI) (by simp;omega) λh' tk o N ep t S nd me sz kp=>Calls.spliced_nil ?_;let se:N.size<64:=by simp at sz;omega
 refine call_function_entry kind_sorted plain_sorted entry_sorted (args_sorted1 _) ?_;unfold Builtin.«sorted»;refine nH (m:=checkCount "sorted" 1 1 _) (nJ ?_);refine nH (XF (A:=X.A.in1) (s:={ r with heap:=h',toks:=tk }) (by simpa using B.ok.hd W) S `a λh2 j d y k2 O=>?_)
 let ik:∀ v∈y,∃ k t,v=Value.int k t:=λv P=>by
  let {x,hx,rfl}:=Am.mp (O.mem_iff.mp P);let {{k,hk,_},_}:=S.el x hx;let {t,e}:=Value.isInt_shape hk;exact ⟨k,t,e⟩
 let n:∀ b o,r.heap.get? b=some o->h2.get? b=some o:=λb o e=>k2 b o (kp b o e);let lv:@y=N.size:=by rw [O.length_eq];simp
 refine O9 (prog:=X.prog) (w:=X.w) (A:=X.A.in1) (E:=X.xe) (s:={ r with heap:=h2,toks:=j,drawn:=d }) (R:=λv s'=>EP X f Y Q v s') (intsAre_map y λv P=>by let {k,t,e}:=ik v P;exact ⟨k,t,e⟩) `a λh3 a5 c ms k3 e3 a1 a2 a3=>?_
 let T:ms.Perm (kf N):=by
  refine a2.trans ?_;have:=O.map numOf;rw [Dy] at this;exact this
 exact PB (s:=r) (tk:=j) (d:=d) B (λb o e=>k3 b o (n b o e)) (PH n) e3 a1 (by rw [T.length_eq];simpa [kf] using se) λfr=>q _ ms fr (T.nodup_iff.mpr nd) (λz=>(T.mem_iff).trans (me z)) a3
end
end Bs
namespace Bs
def Bd.one:Bd 1 1:=by unfold Bd;decide
theorem Bd.pow {b:Nat} {x:Int} (h:Bd b x) (k:Nat):Bd (b*k+1) (x ^ k):=by
 induction k with
 | zero=>rw [Int.pow_zero,Nat.mul_zero];exact Bd.one
 | succ k a=>
   let e:b*(k+1)+1=(b*k+1)+b:=by rw [Nat.mul_add,Nat.mul_one];omega
   rw [Int.pow_succ,e];exact a.mul h
abbrev Nu:=Int×Int
abbrev cU:=List Nu
noncomputable def aP (n m:Int):Nu:=(n / ((Int.gcd n m:Nat):Int),m / ((Int.gcd n m:Nat):Int))
def Wo (q:Nu) (n m:Int):Prop:=q.1*m=n*q.2
def Hw {n m:Int} (b:0<m):Low (aP n m).1 (aP n m).2:=(K1 (a:=n) b).1
def LR {n m:Int} (c:0<m):Wo (aP n m) n m:=by
 let h:=(Kz (a:=n) (b:=m) (s:=((Int.gcd n m:Nat):Int)) `a (by rw [nB `a])).2.2.2.1;rw [Ei _ `a,Ei _ `a] at h;exact h
def LU {a b d:Int} (h:Low a b) (e:b∣a*d):b∣d:=by
 let c:Nat.Coprime b.natAbs a.natAbs:=by
  have:Nat.Coprime a.natAbs b.natAbs:=h.one;exact this.symm
 let z:=Ci.mpr e;rw [BK] at z;exact Ci.mp (c.dvd_of_dvd_mul_left z)
def PJ {a b c d:Int} (f:Low a b) (g:Low c d) (h:a*d=c*b):a=c/\b=d:=by
 let i:b∣d:=LU f {c,by rw [h,Cs]};let j:d∣b:=LU g {a,by rw [<-h,Cs]};let e:b=d:=Int.dvd_antisymm (DQ f.pos) (DQ g.pos) i j;subst e;exact {Int.eq_of_mul_eq_mul_right (BL f.pos) h,2}
def XO {q r:Nu} {n m:Int} (c:Low q.1 q.2) (d:Low r.1 r.2) (f:m≠0) (g:Wo q n m) (h:Wo r n m):q=r:=by
 unfold Wo at g h
 let e:q.1*r.2=r.1*q.2:=by
  let z:m*(q.1*r.2)=m*(r.1*q.2):=by ext
  exact Int.eq_of_mul_eq_mul_left f z
 let {a,b}:=PJ c d e;exact Prod.ext a b
def XQ {q:Nu} {n m:Int} (c:Low q.1 q.2) (b:0<m) (w:Wo q n m):q.1.natAbs<=n.natAbs/\q.2.natAbs<=m.natAbs:=by
 let e:q=aP n m:=XO c (Hw b) (BL b) w (LR b);subst e;exact {(K1 (a:=n) b).2.1,(K1 (a:=n) b).2.2.1}
def Nz (l:cU):Prop:=∀ q,l.getLast?=some q->q.1≠0
def D5 (l:cU):Prop:=∀ q∈l,Low q.1 q.2
def XR (n:Nat) (l:cU):Prop:=∀ q∈l,Bd n q.1/\Bd n q.2
noncomputable def Dp (l:cU) (i:Nat):Nu:=l.getD i (0,1)
def XS:Low 0 1:={`b,`b}
theorem PL {l:cU} (h:D5 l) (i:Nat):Low (Dp l i).1 (Dp l i).2:=by
 unfold Dp;rw [AN];cases e:l[i]? with
 | none=>exact XS
 | some q=>exact h q (Bb e)
noncomputable def DM (l:cU):Int:=l.foldl (λB q=>B*(q.2 / ((Int.gcd B q.2:Nat):Int))) 1
noncomputable def BI (l:cU):cY:=l.map λq=>q.1*(DM l / q.2)
def LV {B d:Int} (b:0<B) (c:0<d):0<B*(d / ((Int.gcd B d:Nat):Int))/\B∣B*(d / ((Int.gcd B d:Nat):Int))/\d∣B*(d / ((Int.gcd B d:Nat):Int))/\(d / ((Int.gcd B d:Nat):Int)).natAbs<=d.natAbs/\0<((Int.gcd B d:Nat):Int)/\((Int.gcd B d:Nat):Int)<=d:=by
 let f:0<Int.gcd B d:=Int.gcd_pos_of_ne_zero_right B `a;let {k,hk}:((Int.gcd B d:Nat):Int)∣d:=EK B d;let {m,g}:((Int.gcd B d:Nat):Int)∣B:=E4 B d;let a:(0:Int)<((Int.gcd B d:Nat):Int):=by omega
 let e:d / ((Int.gcd B d:Nat):Int)=k:=by
  let z:d / ((Int.gcd B d:Nat):Int)=(((Int.gcd B d:Nat):Int)*k) / ((Int.gcd B d:Nat):Int):=by rw [<-hk]
  rw [z,Gf _ (BL a)]
 let kp:0<k:=by
  rcases Int.lt_or_le 0 k with h | h
  .exact h
  .exfalso;have:=Int.mul_nonneg (DQ a) (show 0<=-k by omega);rw [Int.mul_neg] at this;omega
 let i:((Int.gcd B d:Nat):Int)<=d:=Ej c (EK B d);refine {by rw [e];exact Int.mul_pos b kp,Int.dvd_mul_right ..,?_,?_,a,i}
 .rw [e];refine {m,?_};let z:d*m=((Int.gcd B d:Nat):Int)*k*m:=by rw [<-hk]
  let j:B*k=((Int.gcd B d:Nat):Int)*m*k:=by rw [<-g]
  rw [z,j];ext
 .rw [e]
  let z:d.natAbs=(Int.gcd B d)*k.natAbs:=by
   have:d.natAbs=(((Int.gcd B d:Nat):Int)*k).natAbs:=by rw [<-hk]
   rw [this,BK];simp
  rw [z];exact Gb _ f
theorem PM {b:Nat}:∀ (l:cU) (B:Int) (c:Nat),(∀ q∈l,0<q.2/\Bd b q.2)->0<B->Bd c B->
  0<l.foldl (λB q=>B*(q.2 / ((Int.gcd B q.2:Nat):Int))) B/\B∣l.foldl (λB q=>B*(q.2 / ((Int.gcd B q.2:Nat):Int))) B/\(∀ q∈l,q.2∣l.foldl (λB q=>B*(q.2 / ((Int.gcd B q.2:Nat):Int))) B)/\Bd (c+b*@l) (l.foldl (λB q=>B*(q.2 / ((Int.gcd B q.2:Nat):Int))) B)
 | [],B,c,_,d,e=>{d,Int.dvd_refl B,(λ_ h=>nomatch h),by simpa using e}
 | q::l,B,c,h,d,e=>by
   let {g,i}:=h q (BX ..);let {j,k,m,n,_,_}:=LV d g;let {o,f,p,u}:=PM l (B*(q.2 / ((Int.gcd B q.2:Nat):Int))) (c+b) (λr a=>h r (Br _ a)) j (e.mul (i.le n));rw [List.foldl_cons];refine {o,CO k f,λr a=>?_,u.mono (by rw [Cj,Nat.mul_add,Nat.mul_one];omega)};rcases CS.mp a with rfl | a
   .exact CO m f
   .exact p r a
def XT {b:Nat} {l:cU} (c:D5 l) (d:XR b l):0<DM l/\(∀ q∈l,q.2∣DM l)/\Bd (1+b*@l) (DM l):=by
 let {e,_,f,g}:=PM (b:=b) l 1 1 (λq a=>{(c q a).pos,(d q a).2}) `b Bd.one;exact ⟨e,f,g⟩
def XU {B d:Int} (a:0<B) (b:0<d):(B / d).natAbs<=B.natAbs:=by
 let c:0<=B / d:=Int.ediv_nonneg (DQ a) (DQ b);let e:B / d<=B:=Int.ediv_le_self d (DQ a);omega
noncomputable def ps (ns a:cY):Nat->dh
 | 0,_=>0
 | i+1,k=>ps ns a i k+(if i<=k/\k - i<@a then ns.getD i 0*a.getD (k - i) 0 else 0)
noncomputable def aX (ns a:cY) (i j k:Nat):Int:=ps ns a i k+(if i<=k/\k - i<j then ns.getD i 0*a.getD (k - i) 0 else 0)
def PN (ns a:cY) (i k:Nat):aX ns a i 0 k=ps ns a i k:=by
 unfold aX;rw [nB `a];omega
def Jd (ns a:cY) (i j k:Nat):aX ns a i (j+1) k=if k=i+j then aX ns a i j k+ns.getD i 0*a.getD j 0 else aX ns a i j k:=by
 unfold aX;by_cases h:k=i+j
 .subst h;rw [nC rfl,nC {`a,`a},nB `a,show i+j - i=j by omega];omega
 .rw [nB h];congr 1;by_cases b:i<=k/\k - i<j
  .rw [nC b,nC {b.1,`a}]
  .rw [nB b,nB `a]
theorem Hy {c:Nat} {ns:cY} (h:∀ z∈ns,Bd c z) (i:Nat):Bd c (ns.getD i 0):=by
 rw [AN];cases e:ns[i]? with
 | none=>exact DD `b
 | some z=>exact h z (Bb e)
def EX (c:Nat):Bd c 0:=DD `b
theorem LW {c d:Nat} {ns a:cY} (b:∀ z∈ns,Bd c z) (e:∀ z∈a,Bd d z):∀ i k,Bd (c+d+i) (ps ns a i k)
 | 0,_=>EX _
 | i+1,k=>by
   unfold ps;refine (LW b e i k).add ?_;split
   .exact ((Hy b i).mul (Hy e (k - i))).mono `a
   .exact EX _
theorem LX {ns a:cY}:∀ i k,i+@a<=k+1->ps ns a i k=0
 | 0,_,_=>rfl
 | i+1,k,h=>by
   unfold ps;rw [LX i k `a,nB `a];rfl
noncomputable def val (q:Nu):Rat:=(q.1:Rat) / (q.2:Rat)
def be (x:Rat):0 / x=0:=by rw [Rat.div_def,Rat.zero_mul]
def D6 {z:Int} (h:z≠0):(z:Rat)≠0:=by exact_mod_cast h
def PP {q:Nu} {n m:Int} (a:q.2≠0) (b:m≠0) (w:Wo q n m):val q=(n:Rat) / (m:Rat):=by
 let c:=D6 a;let d:=D6 b;let e:(q.1:Rat)*m=n*q.2:=by unfold Wo at w;exact_mod_cast w
 unfold val;ext
def PQ {q r:Nu} (c:Low q.1 q.2) (d:Low r.1 r.2) (h:val q=val r):q=r:=by
 let a:=D6 (BL c.pos);let b:=D6 (BL d.pos);unfold val at h;let z:(q.1:Rat)*r.2=r.1*q.2:=by ext
 let e:q.1*r.2=r.1*q.2:=by exact_mod_cast z
 let {x,y}:=PJ c d e;exact Prod.ext x y
def PR {n m:Int} (a:0<m):val (aP n m)=(n:Rat) / (m:Rat):=PP (BL (Hw a).pos) (BL a) (LR a)
noncomputable def AW (n m:Int):Nu:=if m<0 then aP (-n) (-m) else aP n m
def EY {n m:Int} (a:m≠0):Low (AW n m).1 (AW n m).2:=by
 unfold AW;split
 .exact Hw `a
 .exact Hw `a
def Gz {n m:Int} (a:m≠0):val (AW n m)=(n:Rat) / (m:Rat):=by
 unfold AW;split
 .rw [PR `a];have:=D6 a;push_cast;ext
 .exact PR `a
def PU {c d:Nat} {n m:Int} (g:m≠0) (b:Bd c n) (e:Bd d m):Bd c (AW n m).1/\Bd d (AW n m).2:=by
 let a:∀ {n m:Int},0<m->Bd c n->Bd d m->Bd c (aP n m).1/\Bd d (aP n m).2:=λ{n m} f b e=>by
  let w:=XQ (Hw f) f (LR (n:=n) f);exact {b.le w.1,e.le w.2}
 unfold AW;split
 .exact a `a b.neg e.neg
 .exact a `a b e
noncomputable def bN (l:cU) (k:Nat):Rat:=val (Dp l k)
noncomputable def cv (f g:Nat->Rat):Nat->Nat->Rat
 | 0,_=>0
 | n+1,k=>cv f g n k+(if n<=k then f n*g (k - n) else 0)
noncomputable def aY (l:cU) (M:Int):cY:=l.map λq=>q.1*(M / q.2)
def Ov (l:cU) (M:Int):Prop:=0<M/\∀ q∈l,q.2∣M
theorem XV {l:cU} {M:Int} (i:Nat):(aY l M).getD i 0=(Dp l i).1*(M / (Dp l i).2):=by
 unfold aY Dp;rw [AN,AN,Ah];cases l[i]? with
 | none=>simp
 | some q=>rfl
def lcm_dvd {B d M:Int} (c:0<B) (f:0<d) (a:B∣M) (b:d∣M):B*(d / ((Int.gcd B d:Nat):Int))∣M:=by
 let z:((Nat.lcm B.natAbs d.natAbs:Nat):Int)∣M:=Ci.mp (by rw [Ck];exact Nat.lcm_dvd (Ci.mpr a) (Ci.mpr b))
 let e:((Nat.lcm B.natAbs d.natAbs:Nat):Int)=B*(d / ((Int.gcd B d:Nat):Int)):=by
  unfold Nat.lcm;rw [Nat.mul_div_assoc _ (Nat.gcd_dvd_right _ _)];push_cast;rw [show ((B.natAbs:Nat):Int)=B by omega,show ((d.natAbs:Nat):Int)=d by omega];rfl
 rw [<-e];exact z
theorem LY {M:Int}:∀ (l:cU) (B:Int),(∀ q∈l,0<q.2/\q.2∣M)->0<B->B∣M->0<l.foldl (λB q=>B*(q.2 / ((Int.gcd B q.2:Nat):Int))) B/\l.foldl (λB q=>B*(q.2 / ((Int.gcd B q.2:Nat):Int))) B∣M
 | [],B,_,a,h=>⟨a,h⟩
 | q::l,B,b,a,h=>by
   let {c,d}:=b q (BX ..);let {e,_}:=LV a c;exact LY l _ (λr f=>b r (Br _ f)) e (lcm_dvd a c h d)
def Je {n:Nat} {a b:Int} (d:b≠0) (h:a∣b) (c:Bd n b):Bd n a:=c.le (Dz `a (Ci.mpr h))
def G0 {l:cU} (e:D5 l):Ov l (DM l):=by
 let {a,b,_}:=XT (b:=(l.foldl (λn q=>n+q.1.natAbs+q.2.natAbs) 1)) e (λq c=>by
  let d:∀ (l:cU) (n:Nat),n<=l.foldl (λn q=>n+q.1.natAbs+q.2.natAbs) n/\∀ q∈l,q.1.natAbs+q.2.natAbs<=l.foldl (λn q=>n+q.1.natAbs+q.2.natAbs) n:=by
   intro l
   induction l with
   | nil=>intro n;exact {AT _,λ_ h=>nomatch h}
   | cons r l f=>
     intro n;let {i,g}:=f (n+r.1.natAbs+r.2.natAbs);rw [List.foldl_cons];refine {`a,λq c=>?_};rcases CS.mp c with rfl | c
     .omega
     .exact g q c
  let z:=(d l 1).2 q c;exact {Cr `a (Nat.lt_two_pow_self),Cr `a (Nat.lt_two_pow_self)})
 exact ⟨a,b⟩
def PV {l:cU} {M:Int} (b:D5 l) (h:Ov l M):DM l∣M:=(LY l 1 (λq a=>{(b q a).pos,h.2 q a}) `b (Int.one_dvd M)).2
def XW (l:cU):BI l=aY l (DM l):=rfl
section
variable {α:Type} [Lean.Grind.CommRing α]
noncomputable def cvL:List α->(Nat->α)->Nat->α
 | [],_,_=>0
 | x::a,b,k=>x*b k+(match k with | 0=>0 | k+1=>cvL a b k)
def Bh (b:Nat->α) (k:Nat):cvL [] b k=0:=rfl
def BO (x:α) (a:List α) (b:Nat->α):cvL (x::a) b 0=x*b 0+0:=rfl
def BG (x:α) (a:List α) (b:Nat->α) (k:Nat):cvL (x::a) b (k+1)=x*b (k+1)+cvL a b k:=rfl
theorem Be {b c:Nat->α} (h:∀ k,b k=c k):∀ (a:List α) (k:Nat),cvL a b k=cvL a c k
 | [],_=>rfl
 | x::a,0=>by rw [BO,BO,h 0]
 | x::a,k+1=>by rw [BG,BG,h (k+1),Be h a k]
theorem Hz (b c:Nat->α):∀ (a:List α) (k:Nat),cvL a (λk=>b k+c k) k=cvL a b k+cvL a c k
 | [],_=>by rw [Bh,Bh,Bh];ext
 | x::a,0=>by rw [BO,BO,BO];ext
 | x::a,k+1=>by rw [BG,BG,BG,Hz b c a k];ext
theorem EF (s:α) (b:Nat->α):∀ (a:List α) (k:Nat),cvL a (λk=>s*b k) k=s*cvL a b k
 | [],_=>by rw [Bh,Bh];ext
 | x::a,0=>by rw [BO,BO];ext
 | x::a,k+1=>by rw [BG,BG,EF s b a k];ext
noncomputable def Dq (b:Nat->α):Nat->α
 | 0=>0
 | k+1=>b k
theorem LZ (b:Nat->α):∀ (a:List α) (k:Nat),cvL a (Dq b) k=Dq (cvL a b) k
 | [],0=>rfl
 | [],k+1=>rfl
 | x::a,0=>by rw [BO];show x*0+0=0;ext
 | x::a,1=>by
   rw [BG];let h:=LZ b a 0;rw [h];show x*b 0+0=cvL (x::a) b 0;rw [BO]
 | x::a,k+2=>by
   rw [BG,LZ b a (k+1)];show x*b (k+1)+cvL a b k=cvL (x::a) b (k+1);rw [BG]
theorem GH (x:α) (a:List α) (b:Nat->α) (k:Nat):cvL (x::a) b k=x*b k+Dq (cvL a b) k:=by
 cases k with
 | zero=>exact BO x a b
 | succ k=>exact BG x a b k
theorem Jf (c:Nat->α):∀ (a b:List α) (k:Nat),cvL a (cvL b c) k=cvL b (cvL a c) k
 | [],b,k=>by
   rw [Bh];let e:cvL b (cvL [] c) k=cvL b (λk=>0*c k) k:=Be (λk=>by rw [Bh];ext) b k;rw [e,EF];ext
 | x::a,b,k=>by
   rw [GH];let e:cvL b (cvL (x::a) c) k=cvL b (λk=>x*c k+Dq (cvL a c) k) k:=Be (λk=>GH x a c k) b k;rw [e,Hz,EF,LZ]
   let d:Dq (cvL a (cvL b c)) k=Dq (cvL b (cvL a c)) k:=by
    cases k with
    | zero=>rfl
    | succ k=>exact Jf c a b k
   rw [d]
noncomputable def EZ:Nat->α
 | 0=>1
 | _+1=>0
theorem PX:∀ (a:List α) (k:Nat),cvL a EZ k=a.getD k 0
 | [],k=>by rw [Bh];simp
 | x::a,0=>by rw [BO];show x*1+0=x;ext
 | x::a,k+1=>by
   rw [BG,PX a k];show x*0+a.getD k 0=(x::a).getD (k+1) 0;rw [List.getD_cons_succ];ext
end
def XX {n k:Nat}:k∣2 ^ n↔∃ a,a<=n/\k=2 ^ a:=by
 constructor
 .induction n generalizing k with
  | zero=>intro h;exact {0,AT 0,by simpa using h}
  | succ n d=>
    intro h;by_cases f:2∣k
    .let {j,rfl}:=f;rw [Cg,Cq (2 ^ n) 2] at h;let {a,b,e}:=d (Nat.dvd_of_mul_dvd_mul_left `b h);exact {a+1,`a,by rw [e,Cg,Cq]}
    .let c:Nat.Coprime k 2:=by
      have:Nat.gcd k 2∣2:=Nat.gcd_dvd_right k 2;let g:=Dz `b this;let i:Nat.gcd k 2≠2:=λz=>f (by rw [<-z];exact Nat.gcd_dvd_left k 2);let m:Nat.gcd k 2≠0:=λz=>by have:=Nat.eq_zero_of_gcd_eq_zero_right z;omega
      show Nat.gcd k 2=1;omega
     rw [Cg] at h;let {a,b,e}:=d (c.dvd_of_dvd_mul_right h);exact {a,`a,e}
 .rintro ⟨a,b,rfl⟩;exact Nat.pow_dvd_pow 2 b
structure Pr (p:Nat):Prop where
 two:2<=p
 div:∀ d,d∣p->d=1\/d=p
def Pr.cop {p:Nat} (h:Pr p) {a:Nat} (b:¬ p∣a):Nat.gcd a p=1:=by
 rcases h.div _ (Nat.gcd_dvd_right a p) with e | e
 .exact e
 .exact absurd (e ▸ Nat.gcd_dvd_left a p) b
def Pr.mul {p:Nat} (h:Pr p) {a b:Nat} (d:p∣a*b):p∣a\/p∣b:=by
 by_cases c:p∣a
 .exact .inl c
 .refine .inr (Nat.Coprime.dvd_of_dvd_mul_left (k:=p) (m:=a) ?_ d);have:=h.cop c;rw [Nat.gcd_comm] at this;exact this
def Pr.mulI {p:Nat} (h:Pr p) {a b:Int} (c:(p:Int)∣a*b):(p:Int)∣a\/(p:Int)∣b:=by
 let z:=Ci.mpr c;rw [BK,Ck] at z;rcases h.mul z with e | e
 .exact .inl (Ci.mp (by rw [Ck];exact e))
 .exact .inr (Ci.mp (by rw [Ck];exact e))
def PY {m:Nat} (v:2<=m):∃ q,Pr q/\q∣m/\(q=m\/q*q<=m):=by
 let c:∀ n d,2<=d->(∀ e,2<=e->e<d->¬ e∣m)->m=d+n->∃ q,2<=q/\q∣m/\∀ e,2<=e->e<q->¬ e∣m:=by
  intro n
  induction n with
  | zero=>intro d a h e;exact {d,a,by rw [e];exact Nat.dvd_refl _,h}
  | succ n o=>
    intro d a h e;by_cases b:d∣m
    .exact ⟨d,a,b,h⟩
    .refine o (d+1) `a (λx p r=>?_) `a;by_cases f:x=d
     .rw [f];exact b
     .exact h x p `a
 let {q,u,g,j}:=c (m - 2) 2 (AT 2) (λe w i=>absurd i `a) `a;refine {q,{u,λd a=>?_},g,?_}
 .by_cases i:2<=d
  .right;rcases BE d q with h | h
   .exact absurd (Nat.dvd_trans a g) (j d i h)
   .exact Nat.le_antisymm (Dz `a a) h
  .left;have:d≠0:=λz=>by rw [z] at a;have:=Nat.eq_zero_of_zero_dvd a;omega
   omega
 .let {k,hk}:=g;by_cases y:k<=1
  .left
   have:k=1:=by
    rcases Dx k with z | z
    .rw [z] at hk;omega
    .omega
   rw [hk,this,Nat.mul_one]
  .right;rcases BE k q with h | h
   .exact absurd {q,by rw [hk,Cq]} (j k `a h)
   .rw [hk];exact De q h
theorem aG:∀ (n m:Nat) (f:Nat->Nat),(∀ i,i<m->f i<n)->(∀ i j,i<m->j<m->f i=f j->i=j)->m<=n
 | 0,m,f,h,_=>by
   rcases Dx m with z | z
   .omega
   .exact absurd (h 0 z) `a
 | n+1,0,_,_,_=>by omega
 | n+1,m+1,f,h,a=>by
   have:=aG n m (λi=>if f i=n then f m else f i) (λi d=>by
    show (if f i=n then f m else f i)<n;by_cases e:f i=n
    .rw [nC e];let g:=h m (Nat.lt_succ_self m);have:f m≠n:=λz=>absurd (a i m `a `a (by rw [e,z])) `a;omega
    .rw [nB e];let g:=h i `a;omega) (λi j d k e=>by
    let e:(if f i=n then f m else f i)=(if f j=n then f m else f j):=e;by_cases c:f i=n
    .rw [nC c] at e;by_cases b:f j=n
     .exact a i j `a `a (by rw [c,b])
     .rw [nB b] at e;exact absurd (a m j `a `a e) `a
    .rw [nB c] at e;by_cases b:f j=n
     .rw [nC b] at e;exact absurd (a i m `a `a e) `a
     .rw [nB b] at e;exact a i j `a `a e)
   omega
abbrev Rt:=Int×Int
noncomputable def N' (q:Int) (x y:Rt):Rt:=((x.1*y.1+3*(x.2*y.2)) % q,(x.1*y.2+x.2*y.1) % q)
noncomputable def B_ (q:Int):Nat->Rt
 | 0=>(1 % q,0 % q)
 | n+1=>N' q (2,1) (B_ q n)
def Fb {q a b c:Int} (h:a - b=q*c):a % q=b % q:=by
 have:a=b+q*c:=by omega
 rw [this,Int.add_mul_emod_self_left]
def em {a q:Int}:∃ c,a % q=a - q*c:={a / q,by have:=FR a q;omega}
def G1 (q:Int) (x y z:Rt):N' q (N' q x y) z=N' q x (N' q y z):=by
 let {a,b}:=x;let {c,d}:=y;let {e,f}:=z;let {g,h}:=em (a:=a*c+3*(b*d)) (q:=q);let {i,j}:=em (a:=a*d+b*c) (q:=q);let {k,m}:=em (a:=c*e+3*(d*f)) (q:=q);let {n,o}:=em (a:=c*f+d*e) (q:=q);refine Prod.ext ?_ ?_
 .show ((a*c+3*(b*d)) % q*e+3*((a*d+b*c) % q*f)) % q=(a*((c*e+3*(d*f)) % q)+3*(b*((c*f+d*e) % q))) % q;rw [h,j,m,o];exact Fb (c:=a*k+3*b*n - g*e - 3*i*f) ()
 .show ((a*c+3*(b*d)) % q*f+((a*d+b*c) % q*e)) % q=(a*((c*f+d*e) % q)+(b*((c*e+3*(d*f)) % q))) % q;rw [h,j,m,o];exact Fb (c:=a*n+b*k - g*f - i*e) ()
def XY (q:Int) (x y:Rt):N' q x y=N' q y x:=by
 refine Prod.ext ?_ ?_
 .show (x.1*y.1+3*(x.2*y.2)) % q=(y.1*x.1+3*(y.2*x.2)) % q;congr 1;ext
 .show (x.1*y.2+x.2*y.1) % q=(y.1*x.2+y.2*x.1) % q;congr 1;ext
def rn (q:Int) (x:Rt):Prop:=x.1 % q=x.1/\x.2 % q=x.2
def XZ (q:Int) (x y:Rt):rn q (N' q x y):={Int.emod_emod ..,Int.emod_emod ..}
theorem GI (q:Int):∀ n,rn q (B_ q n)
 | 0=>{Int.emod_emod ..,Int.emod_emod ..}
 | _+1=>XZ q _ _
def aA (q:Int) {x:Rt} (h:rn q x):N' q (B_ q 0) x=x:=by
 let {d,e}:=em (a:=1) (q:=q);let {f,g}:=em (a:=0) (q:=q);refine Prod.ext ?_ ?_
 .show (1 % q*x.1+3*(0 % q*x.2)) % q=x.1;rw [e,g,<-h.1];rw [Fb (b:=x.1 % q) (c:=- d*(x.1 % q) - 3*f*x.2) (),Int.emod_emod]
 .show (1 % q*x.2+0 % q*x.1) % q=x.2;rw [e,g,<-h.2];rw [Fb (b:=x.2 % q) (c:=- d*(x.2 % q) - f*x.1) (),Int.emod_emod]
theorem GJ (q:Int):∀ m n,B_ q (m+n)=N' q (B_ q m) (B_ q n)
 | 0,n=>by rw [Nat.zero_add,aA q (GI q n)]
 | m+1,n=>by
   rw [Nat.succ_add];show N' q (2,1) (B_ q (m+n))=N' q (N' q (2,1) (B_ q m)) (B_ q n);rw [GJ q m n,G1]
noncomputable def aB (q:Int):Nat->Rt
 | 0=>(1 % q,0 % q)
 | n+1=>N' q (2,-1) (aB q n)
def r21 (q:Int):N' q (2,-1) (2,1)=B_ q 0:=by
 refine Prod.ext ?_ ?_
 .show (2*2+3*(-1*1)) % q=1 % q;rfl
 .show (2*1 + -1*2) % q=0 % q;rfl
theorem PZ (q:Int):∀ n,N' q (aB q n) (B_ q n)=B_ q 0
 | 0=>aA q (GI q 0)
 | n+1=>by
   show N' q (N' q (2,-1) (aB q n)) (N' q (2,1) (B_ q n))=_;rw [G1,<-G1 q (aB q n),XY q (aB q n) (2,1),G1 q (2,1),PZ q n,<-G1,r21,aA q (GI q 0)]
theorem La (q:Int) {m:Nat} (h:B_ q m=B_ q 0):∀ k,B_ q (m*k)=B_ q 0
 | 0=>rfl
 | k+1=>by rw [Nat.mul_succ,GJ,La q h k,h,aA q (GI q 0)]
theorem rord (q:Int) {n:Nat} (c:B_ q (2 ^ (n+1))=B_ q 0) (f:B_ q (2 ^ n)≠B_ q 0):∀ d,0<d->d<2 ^ (n+1)->B_ q d≠B_ q 0:=by
 intro d
 induction d using Nat.strongRecOn with
 | _ d g=>
 intro i u e;let j:=Nat.mod_lt (2 ^ (n+1)) i
 let m:B_ q (2 ^ (n+1) % d)=B_ q 0:=by
  let o:=Nat.div_add_mod (2 ^ (n+1)) d;rw [<-o,GJ,La q e,aA q (GI q _)] at c;exact c
 rcases Dx (2 ^ (n+1) % d) with z | z
 .let {k,hk}:=Nat.dvd_of_mod_eq_zero z;let {a,v,b}:=(XX (n:=n+1) (k:=d)).mp ⟨k,hk⟩
  let p:a<=n:=by
   rcases BE n a with h | h
   .exfalso;have:a=n+1:=by omega
    rw [this] at b;omega
   .exact h
  apply f;let r:2 ^ n=d*2 ^ (n - a):=by rw [b,<-Nat.pow_add];congr 1;omega
  rw [r];exact La q e _
 .exact g _ j z `a m
theorem aH (q:Int):∀ n,∃ c,(B_ q n).1*(B_ q n).1 - 3*((B_ q n).2*(B_ q n).2) - 1=q*c
 | 0=>by
   let {d,f}:=em (a:=1) (q:=q);let {e,g}:=em (a:=0) (q:=q);refine {-2*d+q*d*d - 3*q*e*e,?_};show (1 % q)*(1 % q) - 3*((0 % q)*(0 % q)) - 1=_;rw [f,g];ext
 | n+1=>by
   let {c,j}:=aH q n;let {d,f}:=em (a:=2*(B_ q n).1+3*(1*(B_ q n).2)) (q:=q);let {e,g}:=em (a:=2*(B_ q n).2+1*(B_ q n).1) (q:=q);let h:(B_ q (n+1)).1=2*(B_ q n).1+3*(1*(B_ q n).2) - q*d:=f;let i:(B_ q (n+1)).2=2*(B_ q n).2+1*(B_ q n).1 - q*e:=g;rw [h,i];generalize (B_ q n).1=a at *;generalize (B_ q n).2=b at *;exact {c - 2*d*(2*a+3*b)+q*d*d+6*e*(2*b+a) - 3*q*e*e,()}
def Xa (q:Int) (n:Nat):∃ c,2*(B_ q (n+n)).1=(2*(B_ q n).1)*(2*(B_ q n).1) - 2+q*c:=by
 let {c,e}:=aH q n;rw [GJ];let {b,d}:=em (a:=(B_ q n).1*(B_ q n).1+3*((B_ q n).2*(B_ q n).2)) (q:=q);refine {-2*b - 2*c,?_};show 2*(((B_ q n).1*(B_ q n).1+3*((B_ q n).2*(B_ q n).2)) % q)=_;rw [d];ext
noncomputable def ll (M:Nat):Nat->Nat->Nat
 | 0,s=>s
 | k+1,s=>ll M k ((s*s+(M - 2)) % M)
theorem Pa {q:Int} {M:Nat} (f:2<=M) (g:q∣(M:Int)):∀ (k t s:Nat),q∣2*(B_ q (2 ^ t)).1 - (s:Int)->q∣2*(B_ q (2 ^ (t+k))).1 - (ll M k s:Int)
 | 0,t,s,h=>h
 | k+1,t,s,h=>by
   have:=Pa f g k (t+1) ((s*s+(M - 2)) % M) (by
    let {c,i}:=Xa q (2 ^ t);let {d,j}:=h;let {m,n}:=g;let e:(2:Nat) ^ (t+1)=2 ^ t+2 ^ t:=by rw [Cg];omega
    rw [e,i]
    let z:(((s*s+(M - 2)) % M:Nat):Int)=(s:Int)*s+(M - 2) - M*(((s*s+(M - 2)) / M:Nat):Int):=by
     have:=Nat.mod_add_div (s*s+(M - 2)) M
     let o:(((s*s+(M - 2)) % M:Nat):Int)+(M:Int)*(((s*s+(M - 2)) / M:Nat):Int)=(s:Int)*s+(M - 2):=by
      have:=congrArg (λx:Nat=>(x:Int)) this;simp only [Int.natCast_add,Int.natCast_mul] at this;rw [this,Int.natCast_sub f];rfl
     omega
    rw [z];generalize (((s*s+(M - 2)) / M:Nat):Int)=w;generalize (B_ q (2 ^ t)).1=a at j;let b:2*a=s+q*d:=by omega
    rw [b,n];exact {2*s*d+q*d*d+c - m+m*w,()})
   rw [show t+(k+1)=t+1+k by omega];exact this
def Xb {n:Nat} (h:ll (2 ^ (n+2) - 1) n 4 % (2 ^ (n+2) - 1)=0):Pr (2 ^ (n+2) - 1):=by
 let K:4<=2 ^ (n+2):=by rw [Nat.pow_add];have:=Nat.one_le_two_pow (n:=n);omega
 generalize hM:2 ^ (n+2) - 1=M at h ⊢;let {q,o,p,y}:=PY (m:=M) `a;rcases y with e | y
 .rw [<-e];exact o
 exfalso;let L:(q:Int)∣(M:Int):=FS.mpr p;let q2:=o.two
 let N:q≠2:=λz=>by
  rw [z] at p;have:2 ^ (n+2)=2*2 ^ (n+1):=by rw [Cg 2 (n+1)];omega
  omega
 let O:(q:Int)∣2*(B_ q (2 ^ (0+n))).1 - (ll M n 4:Int):=Pa `a L n 0 4 (by
  show (q:Int)∣2*(N' q (2,1) (B_ q 0)).1 - 4;let {f,r}:=em (a:=1) (q:=(q:Int));let {g,u}:=em (a:=0) (q:=(q:Int));show (q:Int)∣2*((2*(1 % (q:Int))+3*(1*(0 % (q:Int)))) % (q:Int)) - 4;let {P,Q}:=em (a:=2*(1 % (q:Int))+3*(1*(0 % (q:Int)))) (q:=(q:Int));rw [Q,r,u];exact {-4*f - 6*g - 2*P,()})
 let R:(q:Int)∣(ll M n 4:Int):=FS.mpr (Nat.dvd_trans p (Nat.dvd_of_mod_eq_zero h))
 let S:(q:Int)∣2*(B_ q (2 ^ n)).1:=by
  have:=DC O R;rw [Nat.zero_add] at this;rw [Int.sub_add_cancel] at this;exact this
 let T:(q:Int)∣(B_ q (2 ^ n)).1:=by
  rcases o.mulI S with z | z
  .exfalso;let v:=FS.mp (show (q:Int)∣((2:Nat):Int) from z);have:=Dz `b v;omega
  .exact z
 let k:(q:Int)≠0:=by omega
 let m1:B_ q (2 ^ (n+1))=((-1) % (q:Int),0 % (q:Int)):=by
  let e:(2:Nat) ^ (n+1)=2 ^ n+2 ^ n:=by rw [Cg];omega
  rw [e,GJ];let {c,U}:=aH q (2 ^ n);let {d,w}:=T;refine Prod.ext ?_ ?_
  .show ((B_ q (2 ^ n)).1*(B_ q (2 ^ n)).1+3*((B_ q (2 ^ n)).2*(B_ q (2 ^ n)).2)) % (q:Int)=(-1) % (q:Int);refine Fb (c:=2*q*d*d - c) ?_;generalize (B_ q (2 ^ n)).2=b at *;rw [w] at U ⊢;ext
  .show ((B_ q (2 ^ n)).1*(B_ q (2 ^ n)).2+(B_ q (2 ^ n)).2*(B_ q (2 ^ n)).1) % (q:Int)=0 % (q:Int);refine Fb (c:=2*d*(B_ q (2 ^ n)).2) ?_;rw [w];ext
 let u:B_ q (2 ^ (n+1))≠B_ q 0:=λz=>by
  rw [m1] at z;let W:(-1) % (q:Int)=1 % (q:Int):=congrArg Prod.fst z;let v:(q:Int)∣-1 - 1:=FP ((Int.emod_eq_emod_iff_emod_sub_eq_zero).mp W);let X:=Ci.mpr v;have:=Dz `b X;rw [Ck] at this;have:(-1 - 1:Int).natAbs=2:=by decide
  omega
 let r:B_ q (2 ^ (n+1+1))=B_ q 0:=by
  let e:(2:Nat) ^ (n+1+1)=2 ^ (n+1)+2 ^ (n+1):=by rw [Cg 2 (n+1)];omega
  rw [e,GJ,m1];let {f,A}:=em (a:=-1) (q:=(q:Int));let {g,B}:=em (a:=0) (q:=(q:Int));refine Prod.ext ?_ ?_
  .show ((-1) % (q:Int)*((-1) % (q:Int))+3*(0 % (q:Int)*(0 % (q:Int)))) % (q:Int)=1 % (q:Int);refine Fb (c:=2*f+q*f*f+3*q*g*g) ?_;rw [A,B];ext
  .show ((-1) % (q:Int)*(0 % (q:Int))+0 % (q:Int)*((-1) % (q:Int))) % (q:Int)=0 % (q:Int);refine Fb (c:=2*g+2*q*f*g) ?_;rw [A,B];ext
 let ord:=rord (q:Int) r u
 let C:∀ i d,0<d->i+d<2 ^ (n+2)->B_ q i≠B_ q (i+d):=λi d Y w z=>by
  let e:B_ q d=B_ q 0:=by
   let a:=PZ (q:Int) i
   let b:N' q (aB q i) (B_ q (i+d))=B_ q d:=by
    rw [GJ,<-G1,a,aA _ (GI _ _)]
   rw [<-b,<-z,a]
  exact ord d Y (by have:(2:Nat) ^ (n+1+1)=2 ^ (n+2):=rfl;omega) e
 let x:∀ i,0<=(B_ q i).1/\(B_ q i).1<q/\0<=(B_ q i).2/\(B_ q i).2<q:=λi=>by
  let {a,b}:=GI (q:Int) i;let D:(0:Int)<q:=by omega
  let E:=B3 (B_ q i).1 k;let F:=CM (B_ q i).1 D;let G:=B3 (B_ q i).2 k;let H:=CM (B_ q i).2 D;rw [a] at E F;rw [b] at G H;exact ⟨E,F,G,H⟩
 let pg:=aG (q*q) (2 ^ (n+2)) (λi=>(B_ q i).1.toNat*q+(B_ q i).2.toNat) (λi _=>by
  let {a,b,c,d}:=x i;let I:(B_ q i).1.toNat+1<=q:=by omega
  let Z:(B_ q i).2.toNat<q:=by omega
  have:=Ct q I;rw [Nat.add_mul,Nat.one_mul] at this;show (B_ q i).1.toNat*q+(B_ q i).2.toNat<q*q;omega) (λi j hi hj e=>by
  let e:(B_ q i).1.toNat*q+(B_ q i).2.toNat=(B_ q j).1.toNat*q+(B_ q j).2.toNat:=e;let {a,b,c,d}:=x i;let {I,b',c',Z}:=x j;let m1:=congrArg (·% q) e;let m2:=congrArg (·/ q) e;simp only [Cq _ q,Nat.mul_add_mod,Nat.mul_add_div (show 0<q by omega)] at m1 m2;rw [Nat.mod_eq_of_lt `a,Nat.mod_eq_of_lt `a] at m1;rw [Nat.div_eq_of_lt `a,Nat.div_eq_of_lt `a] at m2;let J:B_ q i=B_ q j:=Prod.ext `a `a;rcases Nat.lt_trichotomy i j with h | h | h
  .exact absurd J (by have:=C i (j - i) `a `a;rw [show i+(j - i)=j by omega] at this;exact this)
  .exact h
  .exact absurd J.symm (by have:=C j (i - j) `a `a;rw [show j+(i - j)=i by omega] at this;exact this))
 omega
noncomputable def cF (M k s:Nat):Nat:=Nat.rec (motive:=λ_=>Nat->Nat) (λs=>s) (λ_ a s=>a ((s*s+(M - 2)) % M)) k s
noncomputable def cG (x:Nat) (f:Nat->Nat):Nat:=Nat.rec (motive:=λ_=>Nat) (f 0) (λn _=>f (n+1)) x
noncomputable def llo (M k j s:Nat):Nat:=Nat.rec (motive:=λ_=>Nat->Nat) (λs=>s) (λ_ a s=>cG (cF M k s) a) j s
theorem Lb (M:Nat):∀ k s,cF M k s=ll M k s
 | 0,_=>rfl
 | k+1,s=>Lb M k _
def Pb (x:Nat) (f:Nat->Nat):cG x f=f x:=by cases x <;> rfl
theorem Lc (M:Nat):∀ a b s,ll M (a+b) s=ll M b (ll M a s)
 | 0,b,s=>by rw [Nat.zero_add];rfl
 | a+1,b,s=>by rw [Nat.succ_add];exact Lc M a b _
theorem Pc (M k:Nat):∀ j s,llo M k j s=ll M (k*j) s
 | 0,_=>rfl
 | j+1,s=>by
   show cG (cF M k s) (llo M k j)=_;rw [Pb,Lb,Pc M k j,<-Lc];congr 1;rw [Nat.mul_succ,Nat.add_comm]
noncomputable def mers (e:Nat):Nat:=2 ^ e - 1
def Fd {n r k j:Nat} (e:n=k*j+r) (h:Nat.beq (cG (llo (mers (n+2)) k j 4) (λs=>cF (mers (n+2)) r s % mers (n+2))) 0=true):Pr (mers (n+2)):=by
 refine Xb ?_;replace h:=Nat.eq_of_beq_eq_true h;rw [Pb,Pc,Lb,<-Lc,<-e] at h;exact h
def Xc:Pr (mers 61):=Fd (n:=59) (r:=9) (k:=10) (j:=5) rfl (by decide +kernel)
def Xd:Pr (mers 127):=Fd (n:=125) (r:=5) (k:=20) (j:=6) rfl (by decide +kernel)
def Xe:Pr (mers 521):=Fd (n:=519) (r:=19) (k:=50) (j:=10) rfl (by decide +kernel)
def Xf:Pr (mers 1279):=Fd (n:=1277) (r:=77) (k:=100) (j:=12) rfl (by decide +kernel)
def Xg:Pr (mers 4423):=Fd (n:=4421) (r:=21) (k:=100) (j:=44) rfl (by decide +kernel)
def Xh:Pr (mers 9941):=Fd (n:=9939) (r:=39) (k:=100) (j:=99) rfl (by decide +kernel)
def Xi:Pr (mers 21701):=Fd (n:=21699) (r:=99) (k:=150) (j:=144) rfl (by decide +kernel)
def Xj:Pr (mers 44497):=Fd (n:=44495) (r:=95) (k:=200) (j:=222) rfl (by decide +kernel)
noncomputable def co (ns:cY) (k:Nat):Int:=ns.getD k 0
section
variable {α:Type} [Lean.Grind.CommRing α]
noncomputable def Ay:List α->List α->List α
 | [],b=>b
 | a,[]=>a
 | x::a,y::b=>(x+y)::Ay a b
def Ld (a:List α):Ay a []=a:=by cases a <;> rfl
theorem Bw (g:Nat->α):∀ (a b:List α) (k:Nat),cvL (Ay a b) g k=cvL a g k+cvL b g k
 | [],b,k=>by show cvL b g k=0+cvL b g k;ext
 | x::a,[],k=>by rw [Ld,Bh];ext
 | x::a,y::b,0=>by show cvL ((x+y)::Ay a b) g 0=_;rw [BO,BO,BO];ext
 | x::a,y::b,k+1=>by show cvL ((x+y)::Ay a b) g (k+1)=_;rw [BG,BG,BG,Bw g a b k];ext
theorem BS (c:α) (g:Nat->α):∀ (a:List α) (k:Nat),cvL (a.map (c*·)) g k=c*cvL a g k
 | [],k=>by show (0:α)=c*0;ext
 | x::a,0=>by rw [List.map_cons,BO,BO];ext
 | x::a,k+1=>by rw [List.map_cons,BG,BG,BS c g a k];ext
noncomputable def Aw (s:Nat) (f:Nat->α) (k:Nat):α:=if s<=k then f (k - s) else 0
theorem IA (g:Nat->α):∀ (s:Nat) (a:List α) (k:Nat),cvL (List.replicate s 0++a) g k=Aw s (cvL a g) k
 | 0,a,k=>by unfold Aw;rw [nC (AV k)];rfl
 | s+1,a,0=>by unfold Aw;rw [nB `a];show cvL (0::(List.replicate s 0++a)) g 0=0;rw [BO];ext
 | s+1,a,k+1=>by
   show cvL (0::(List.replicate s 0++a)) g (k+1)=_;rw [BG,IA g s a k];unfold Aw;by_cases h:s<=k
   .rw [nC h,nC `a,show k+1 - (s+1)=k - s by omega];ext
   .rw [nB h,nB `a];ext
noncomputable def CH:List α->List α->List α
 | [],_=>[]
 | x::a,b=>Ay (b.map (x*·)) (0::CH a b)
theorem Cw (g:Nat->α):∀ (a b:List α) (k:Nat),cvL (CH a b) g k=cvL a (cvL b g) k
 | [],b,k=>rfl
 | x::a,b,k=>by
   show cvL (Ay (b.map (x*·)) (0::CH a b)) g k=_;rw [Bw,BS,GH,GH]
   let e:Dq (cvL (CH a b) g) k=Dq (cvL a (cvL b g)) k:=by
    cases k with
    | zero=>rfl
    | succ k=>exact Cw g a b k
   rw [e];ext
theorem Es (g:Nat->α) (s:α):∀ (a:List α) (k:Nat),cvL (a++[s]) g k=cvL a g k+s*Aw @a g k
 | [],0=>by show cvL [s] g 0=0+s*g 0;rw [BO];ext
 | [],k+1=>by show cvL [s] g (k+1)=0+s*g (k+1);rw [BG,Bh];ext
 | x::a,0=>by show cvL (x::(a++[s])) g 0=_;rw [BO,BO];unfold Aw;rw [nB (by simp)];ext
 | x::a,k+1=>by
   show cvL (x::(a++[s])) g (k+1)=_;rw [BG,BG,Es g s a k]
   let e:Aw (x::a).length g (k+1)=Aw @a g k:=by
    unfold Aw;rw [Cj];by_cases h:@a<=k
    .rw [nC h,nC `a,show k+1 - (@a+1)=k - @a by omega]
    .rw [nB h,nB `a]
   rw [e];ext
def Fe (a:List α) {g:Nat->α} (h:∀ k,g k=0) (k:Nat):cvL a g k=0:=by
 rw [Be (c:=λk=>0*g k) (λj=>by rw [h j];ext) a k,EF];ext
end
def CP (a:cY) (k:Nat):co a k=cvL a EZ k:=(PX a k).symm
def B2 (a b:cY) (k:Nat):cvL a (co b) k=cvL b (co a) k:=by
 rw [Be (CP b) a k,Jf,Be (λj=>(CP a j).symm) b k]
def AX {a:cY} {k:Nat} (h:@a<=k):co a k=0:=by
 unfold co;rw [AN,CB h];rfl
theorem Dr {g:dh} {n:Nat} (h:∀ i,n<=i->g i=0):∀ (a:cY) (k:Nat),@a+n<=k+1->cvL a g k=0
 | [],_,_=>rfl
 | x::a,0,hk=>by
   rw [Cj] at hk;rw [BO,h 0 `a];omega
 | x::a,k+1,hk=>by
   rw [Cj] at hk;rw [BG,h (k+1) `a,Dr h a k `a];omega
theorem Le {p:Int} {g:dh} {n:Nat} (h:∀ i,n<i->p∣g i):∀ (a:cY) (k:Nat),@a+n<=k->p∣cvL a g k
 | [],_,_=>DR p
 | x::a,0,hk=>absurd hk (by rw [Cj];omega)
 | x::a,k+1,hk=>by
   rw [Cj] at hk;rw [BG];exact DC (Fx (h (k+1) `a)) (Le h a k `a)
theorem Jg {p:Nat} (hp:Pr p) {g:dh} {n:Nat} (q:¬ (p:Int)∣g n) (h:∀ i,n<i->(p:Int)∣g i) (S:cY) :
  (∀ k,n<=k->(p:Int)∣cvL S g k)->∀ s∈S,(p:Int)∣s:=by
 induction hl:@S generalizing S with
 | zero=>intro _ s d;rw [B5.mp hl] at d;exact nomatch d
 | succ m r=>
   intro hk;let j:S≠[]:=λz=>by rw [z] at hl;simp at hl
   let {T,t,rfl}:∃ T t,S=T++[t]:={S.dropLast,S.getLast j,(List.dropLast_concat_getLast j).symm};let u:@T=m:=by simpa using hl
   let o:(p:Int)∣t:=by
    let a:=hk (@T+n) `a;rw [Es] at a;let b:=Le h T (@T+n) (AT _)
    let c:(p:Int)∣t*Aw @T g (@T+n):=by
     have:=Int.dvd_sub a b;rwa [show ∀ x y:Int,x+y - x=y by intro x y;omega] at this
    unfold Aw at c;rw [nC `a,show @T+n - @T=n by omega] at c;rcases hp.mulI c with z | z
    .exact z
    .exact absurd z q
   let e:=r T u (λk f=>by
    let a:=hk k f;rw [Es] at a;have:=Int.dvd_sub a (Fv (c:=Aw @T g k) o);rwa [show ∀ x y:Int,x+y - y=x by intro x y;omega] at this)
   intro s d;rcases BR.mp d with h | h
   .exact e s h
   .rw [Ap.mp h];exact o
def Lz (g:cY):Prop:=0<@g/\co g (@g - 1)≠0
def QI (r o f:dh):Prop:=∃ d:Int,d≠0/\∃ U V:cY,∀ k,d*f k=cvL U r k+cvL V o k
def MQ (g f:dh):Prop:=∃ c:Int,c≠0/\∃ A:cY,∀ k,c*f k=cvL A g k
def QI.congr {r o f h:dh} (q:QI r o f) (e:∀ k,h k=f k):QI r o h:=by
 let {d,a,U,V,b}:=q;exact {d,a,U,V,λk=>by rw [e k];exact b k}
theorem QI.left (r o:dh):QI r o r:=⟨1,`b,[1],[],λk=>by
 rw [Bh];cases k with
 | zero=>rw [BO];omega
 | succ k=>rw [BG,Bh];omega⟩
theorem QI.right (r o:dh):QI r o o:=⟨1,`b,[],[1],λk=>by
 rw [Bh];cases k with
 | zero=>rw [BO];omega
 | succ k=>rw [BG,Bh];omega⟩
def QI.less {r o f h:dh} (q:QI r o f) (i:QI r o h) (a w:Int) (s:Nat):QI r o (λk=>a*f k - w*Aw s h k):=by
 let {d,j,U,V,m}:=q;let {c,e,n,p,g}:=i;refine {d*c,Bo j e,Ay (U.map (c*a*·)) (List.replicate s 0++n.map (-(d*w)*·)),Ay (V.map (c*a*·)) (List.replicate s 0++p.map (-(d*w)*·)),λk=>?_};show d*c*(a*f k - w*Aw s h k)=_;rw [Bw,Bw,BS,BS,IA,IA];unfold Aw;let u:=m k;by_cases b:s<=k
 .rw [nC b,nC b,nC b,BS,BS];let v:=g (k - s);ext
 .rw [nB b,nB b,nB b];ext
def QI.scal {r o f:dh} {c:Int} (a:c≠0) (q:QI r o (λk=>c*f k)):QI r o f:=by
 let {d,b,U,V,e}:=q;exact {d*c,Bo b a,U,V,λk=>by rw [<-e k];ext}
theorem MQ.refl (g:dh):MQ g g:=⟨1,`b,[1],λk=>by
 cases k with
 | zero=>rw [BO];omega
 | succ k=>rw [BG,Bh];omega⟩
def MQ.zero (g:dh) {f:dh} (h:∀ k,f k=0):MQ g f:=⟨1,`b,[],λk=>by rw [Bh,h k];rfl⟩
def MQ.congr {g f h:dh} (m:MQ g f) (e:∀ k,h k=f k):MQ g h:=by
 let {c,a,A,b}:=m;exact {c,a,A,λk=>by rw [e k];exact b k}
def MQ.less {g f h:dh} (m:MQ g f) (j:MQ g h) (a w:Int) (s:Nat):MQ g (λk=>a*f k - w*Aw s h k):=by
 let {d,n,U,o}:=m;let {c,e,p,i}:=j;refine {d*c,Bo n e,Ay (U.map (c*a*·)) (List.replicate s 0++p.map (-(d*w)*·)),λk=>?_};show d*c*(a*f k - w*Aw s h k)=_;rw [Bw,BS,IA];unfold Aw;let q:=o k;by_cases b:s<=k
 .rw [nC b,nC b,BS];let r:=i (k - s);ext
 .rw [nB b,nB b];ext
def MQ.scal {g f:dh} {c:Int} (a:c≠0) (m:MQ g (λk=>c*f k)):MQ g f:=by
 let {d,b,A,e}:=m;exact {d*c,Bo b a,A,λk=>by rw [<-e k];ext}
def MQ.trans {g f h:dh} (m:MQ g f) (a:MQ f h):MQ g h:=by
 let {c,b,A,i}:=m;let {d,j,B,n}:=a;refine {c*d,Bo b j,CH B A,λk=>?_};rw [Cw];let e:c*cvL B f k=cvL B (cvL A g) k:=by rw [<-EF];exact Be i B k
 rw [<-e,<-n k];ext
def MQ.of_QI {r o f g:dh} (m1:MQ g r) (m2:MQ g o) (q:QI r o f):MQ g f:=by
 let {d,a,U,V,b}:=q;let {c,h,A,i}:=m1;let {e,j,B,m}:=m2;refine {c*e*d,Bo (Bo h j) a,Ay ((CH U A).map (e*·)) ((CH V B).map (c*·)),λk=>?_};rw [Bw,BS,BS,Cw,Cw];let n:c*cvL U r k=cvL U (cvL A g) k:=by rw [<-EF];exact Be i U k
 let p:e*cvL V o k=cvL V (cvL B g) k:=by rw [<-EF];exact Be m V k
 let u:=b k;ext
def QI.of_MQ {r o f h:dh} (q:QI r o f) (m:MQ f h):QI r o h:=by
 let {c,a,A,b}:=m;let {d,g,U,V,i}:=q;refine {d*c,Bo g a,CH A U,CH A V,λk=>?_};rw [Cw,Cw];let e:d*cvL A f k=cvL A (cvL U r) k+cvL A (cvL V o) k:=by rw [<-EF,<-Hz];exact Be i A k
 rw [<-e,<-b k];ext
def Lg {f:cY} (h:co f (@f - 1)=0) (k:Nat):co f.dropLast k=co f k:=by
 unfold co at *;rw [AN,AN];rw [List.getElem?_dropLast];by_cases hk:k<@f - 1
 .rw [nC hk]
 .rw [nB hk];by_cases e:k=@f - 1
  .subst e;rw [AN] at h;rw [h];rfl
  .rw [CB `a]
theorem Et (f:cY):(∀ k,co f k=0)\/∃ g,Lz g/\@g<=@f/\∀ k,co g k=co f k:=by
 induction hn:@f generalizing f with
 | zero=>exact .inl λk=>AX `a
 | succ n a=>
   by_cases h:co f (@f - 1)=0
   .rcases a f.dropLast (by rw [List.length_dropLast];omega) with z | ⟨g,b,d,c⟩
    .exact .inl λk=>by rw [<-Lg h];exact z k
    .exact .inr {g,b,`a,λk=>by rw [c,Lg h]}
   .exact .inr {f,{`a,h},`a,λ_=>rfl}
def G2 (n:Nat) (F:dh) (k:Nat):co ((List.range n).map F) k=if k<n then F k else 0:=by
 unfold co;rw [AN,Ah];by_cases h:k<n
 .rw [nC h,DS h];rfl
 .rw [nB h,CB (by rw [Bg];omega)];rfl
structure Gen (r o:dh) (g:cY):Prop where
 lz:Lz g
 qi:QI r o (co g)
 len:∀ h,Lz h->QI r o (co h)->@g<=@h
 last:∀ h,Lz h->QI r o (co h)->@h=@g->(co g (@g - 1)).natAbs<=(co h (@h - 1)).natAbs
def Xk {r o:dh} {f:cY} (lf:Lz f) (q:QI r o (co f)):∃ g,Gen r o g:=by
 let L:∀ n,(∃ f,@f=n/\Lz f/\QI r o (co f))->∃ m,(∃ f,@f=m/\Lz f/\QI r o (co f))/\∀ h,Lz h->QI r o (co h)->m<=@h:=by
  intro n
  induction n using Nat.strongRecOn with
  | _ n d=>
    intro i;by_cases a:∃ m,m<n/\∃ f,@f=m/\Lz f/\QI r o (co f)
    .let {m,e,a}:=a;exact d m e a
    .refine {n,i,λh b c=>?_};rcases BE @h n with z | z
     .exact absurd {@h,z,h,2,b,c} a
     .exact z
 let {m,{k,p,u,v},e}:=L @f ⟨f,rfl,lf,q⟩
 let M:∀ n,(∃ f,@f=m/\Lz f/\QI r o (co f)/\(co f (@f - 1)).natAbs=n)->∃ g,Gen r o g:=by
  intro n
  induction n using Nat.strongRecOn with
  | _ n d=>
    rintro ⟨f,w,lf,x,A⟩;by_cases a:∃ j,j<n/\∃ f,@f=m/\Lz f/\QI r o (co f)/\(co f (@f - 1)).natAbs=j
    .let {j,y,a}:=a;exact d j y a
    .refine {f,lf,x,λh b c=>by rw [w];exact e h b c,λh b c B=>?_};rcases BE (co h (@h - 1)).natAbs (co f (@f - 1)).natAbs with z | z
     .exact absurd {_,`a,h,`a,b,c,2} a
     .exact z
 exact M _ ⟨k,p,u,v,rfl⟩
theorem Gen.mq {r o:dh} {g:cY} (G:Gen r o g):∀ (n:Nat) (f:cY),@f<=n->QI r o (co f)->MQ (co g) (co f)
 | 0,f,h,_=>MQ.zero _ λk=>AX `a
 | n+1,f,h,q=>by
   rcases Et f with z | ⟨b,u,x,i⟩
   .exact MQ.zero _ z
   let j:QI r o (co b):=q.congr i;let A:=G.len b u j;refine MQ.congr (f:=co b) ?_ λk=>(i k).symm;generalize B:@b - @g=s;let C:=G.lz.1
   letI F:cY:=(List.range (@b - 1)).map λk=>co g (@g - 1)*co b k - co b (@b - 1)*Aw s (co g) k
   let p:∀ k,co F k=co g (@g - 1)*co b k - co b (@b - 1)*Aw s (co g) k:=λk=>by
    rw [G2];by_cases hk:k<@b - 1
    .rw [nC hk]
    .rw [nB hk];unfold Aw;by_cases e:k=@b - 1
     .rw [nC `a,e,show @b - 1 - s=@g - 1 by omega];ext
     .rw [AX (a:=b) `a];by_cases d:s<=k
      .rw [nC d,AX (a:=g) (k:=k - s) `a];omega
      .rw [nB d];omega
   let v:QI r o (co F):=QI.congr (j.less G.qi (co g (@g - 1)) (co b (@b - 1)) s) p
   let w:@F<=n:=by
    have:@F=@b - 1:=by show ((List.range (@b - 1)).map _).length=_;rw [AI,Bg]
    omega
   let m:=Gen.mq G n F w v;let m2:=MQ.less (MQ.congr m λk=>(p k).symm) (MQ.refl (co g)) 1 (-(co b (@b - 1))) s;refine MQ.scal (c:=co g (@g - 1)) G.lz.2 (MQ.congr m2 λk=>?_);show _=1*_ - _*Aw s (co g) k;generalize Aw s (co g) k=y;ext
def Gen.prim {r o:dh} {g:cY} (G:Gen r o g) {p:Nat} (hp:2<=p):∃ n,¬ (p:Int)∣co g n/\∀ i,n<i->(p:Int)∣co g i:=by
 let a:∀ n,(∀ i,n<=i->(p:Int)∣co g i)->(∀ i,(p:Int)∣co g i)\/∃ n,¬ (p:Int)∣co g n/\∀ i,n<i->(p:Int)∣co g i:=by
  intro n
  induction n with
  | zero=>intro h;exact .inl λi=>h i (AV i)
  | succ n u=>
    intro h;by_cases j:(p:Int)∣co g n
    .exact u λi b=>by
      by_cases e:i=n
      .rw [e];exact j
      .exact h i `a
    .exact .inr {n,j,λi b=>h i `a}
 rcases a @g (λi b=>by rw [AX b];exact DR _) with h | h
 .exfalso
  letI h1:cY:=g.map (·/ (p:Int))
  let d:∀ k,(p:Int)*co h1 k=co g k:=λk=>by
   have:co h1 k=co g k / (p:Int):=by
    show (g.map (·/ (p:Int))).getD k 0=g.getD k 0 / (p:Int);rw [AN,AN,Ah];cases g[k]? with
    | none=>exact (Int.zero_ediv _).symm
    | some z=>rfl
   rw [this,FT (h k)]
  let v:(p:Int)≠0:=by omega
  let Bi:@h1=@g:=AI ..;let m:co h1 (@h1 - 1)≠0:=λz=>G.lz.2 (by rw [<-d,<-Bi,z];omega);let w:Lz h1:={by rw [Bi];exact G.lz.1,m};let x:QI r o (co h1):=QI.scal (c:=(p:Int)) v (QI.congr G.qi d);let q:=G.last h1 w x Bi;let f:=d (@g - 1);rw [<-Bi] at f;rw [Bi] at f q;rw [<-f,BK,Ck] at q;rw [Bi] at m;let y:0<(co h1 (@g - 1)).natAbs:=by omega
  have:=Ct (co h1 (@g - 1)).natAbs hp;omega
 .exact h
def Gen.loc {r o:dh} {g:cY} (G:Gen r o g) {p:Nat} (hp:Pr p) {f:dh} (m:MQ (co g) f) :
  ∃ (c:Int) (A:cY),¬ (p:Int)∣c/\∀ k,c*f k=cvL A (co g) k:=by
 let {n,v,w}:=G.prim hp.two;let {c,x,A,b}:=m
 let i:∀ (m:Nat) (c:Int) (A:cY),c.natAbs<=m->c≠0->(∀ k,c*f k=cvL A (co g) k)->∃ (c:Int) (A:cY),¬ (p:Int)∣c/\∀ k,c*f k=cvL A (co g) k:=by
  intro m
  induction m with
  | zero=>intro c A h u;omega
  | succ m y=>
    intro c A h u b;by_cases j:(p:Int)∣c
    .let B:∀ a∈A,(p:Int)∣a:=Jg hp v w A λk _=>by rw [<-b k];exact Fv j
     let {d,rfl}:=j;let C:=hp.two;let q:d≠0:=λz=>u (by rw [z];omega)
     let D:A=(A.map (·/ (p:Int))).map ((p:Int)*·):=by
      rw [Dy]
      conv=>lhs;rw [<-List.map_id A]
      refine D7 λa E=>?_;show a=(p:Int)*(a / (p:Int));rw [FT (B a E)]
     refine y d (A.map (·/ (p:Int))) ?_ q λk=>?_
     .rw [BK,Ck] at h;let F:0<d.natAbs:=by omega
      have:=Ct d.natAbs C;omega
     .let e:=b k;rw [D,BS,Int.mul_assoc] at e;exact Int.eq_of_mul_eq_mul_left `a e
    .exact ⟨c,A,j,b⟩
 exact i _ c A (AT _) x b
theorem Xl (a b:Nat):∃ x y:Int,x*a+y*b=(Nat.gcd a b:Int):=by
 induction a,b using Nat.gcd.induction with
 | H0 n=>exact ⟨0,1,by simp⟩
 | H1 m n d c=>
   let {x,y,h}:=c;refine {y - x*((n / m:Nat):Int),x,?_};rw [Nat.gcd_rec,<-h]
   let e:(n:Int)=(m:Int)*((n / m:Nat):Int)+((n % m:Nat):Int):=by
    have:=Nat.div_add_mod n m;exact_mod_cast this.symm
   generalize ((n / m:Nat):Int)=q at *;generalize ((n % m:Nat):Int)=w at *;rw [e];ext
def Xm (a b:Int):∃ x y:Int,x*a+y*b=(Int.gcd a b:Int):=by
 let {x,y,h}:=Xl a.natAbs b.natAbs
 let s:∀ z:Int,∃ e:Int,(z.natAbs:Int)=e*z:=λz=>by
  rcases Int.natAbs_eq z with h | h
  .exact ⟨1,`a⟩
  .exact {-1,`a}
 let {e,c}:=s a;let {f,d}:=s b;refine {x*e,y*f,?_};show _=((Nat.gcd a.natAbs b.natAbs:Nat):Int);rw [<-h,c,d];ext
def Dm (p:Int) (g f:dh):Prop:=∃ S:cY,∀ k,p∣f k - cvL S g k
def Gen.dm {r o:dh} {g:cY} (G:Gen r o g) {p:Nat} (hp:Pr p) {f:dh} (m:MQ (co g) f):Dm (p:Int) (co g) f:=by
 let {c,A,d,e}:=G.loc hp m
 let b:Int.gcd c (p:Int)=1:=by
  have:=hp.cop (a:=c.natAbs) λz=>d (Ci.mp (by rw [Ck];exact z));exact this
 let {x,y,i}:∃ x y:Int,x*c+y*(p:Int)=1:=by
  let {x,y,h}:=Xm c (p:Int);exact {x,y,by rw [h,b];rfl}
 refine {A.map (x*·),λk=>{f k*y,?_}};rw [BS,<-e k];ext
def Dm.less {p:Int} {g f h:dh} (m:Dm p g f) (d:Dm p g h) (a w:Int) (s:Nat):Dm p g (λk=>a*f k - w*Aw s h k):=by
 let {S,e}:=m;let {i,c}:=d;refine {Ay (S.map (a*·)) (List.replicate s 0++i.map (-w*·)),λk=>?_};show p∣a*f k - w*Aw s h k - _;rw [Bw,BS,IA];unfold Aw;let {x,j}:=e k;by_cases b:s<=k
 .rw [nC b,nC b,BS];let {y,n}:=c (k - s);exact {a*x - w*y,()}
 .rw [nB b,nB b];exact {a*x,()}
def Dm.congr {p:Int} {g f h:dh} (m:Dm p g f) (e:∀ k,p∣h k - f k):Dm p g h:=by
 let {S,a}:=m;exact {S,λk=>by have:=DC (e k) (a k);rwa [show ∀ x y z:Int,x - y+(y - z)=x - z by intro x y z;omega] at this}
def Dm.zero (p:Int) (g:dh) {f:dh} (h:∀ k,p∣f k):Dm p g f:={[],λk=>by rw [Bh];simpa using h k}
def Gen.lead {r o:dh} {g R:cY} (G:Gen r o g) {p:Nat} (hp:Pr p) (D:Lz R) (m:MQ (co g) (co R)) (h:¬ (p:Int)∣co R (@R - 1)):¬ (p:Int)∣co g (@g - 1):=by
 intro E;let {n,b,F}:=G.prim hp.two;let {c,A,d,f}:=G.loc hp m
 let M:n+1<@g:=by
  rcases BE n @g with z | z
  .rcases BE (n+1) @g with y | y
   .exact y
   .exact absurd E (by rw [show @g - 1=n by omega];exact b)
  .exact absurd (by rw [AX z];exact DR _) b
 rcases Et A with z | ⟨B,q,_,H⟩
 .have:c*co R (@R - 1)=0:=by
   rw [f,B2,Fe g z]
  rcases Int.mul_eq_zero.mp this with e | e
  .exact d (by rw [e];exact DR _)
  .exact D.2 e
 .let u:∀ k,c*co R k=cvL B (co g) k:=λk=>by rw [f,B2,Be (λj=>(H j).symm) g k,<-B2]
  let N:@B+@g<=@R+1:=by
   rcases BE (@R+1) (@B+@g) with z | z
   .exfalso;let v:=q.1;let O:=G.lz.1;let e:=u (@B - 1+(@g - 1));rw [AX `a] at e;let w:B≠[]:=λz=>by rw [z] at v;simp at v
    let {T,t,a}:∃ T t,B=T++[t]:={B.dropLast,B.getLast w,(List.dropLast_concat_getLast w).symm};let I:@T=@B - 1:=by rw [a];simp
    let J:co B (@B - 1)=t:=by rw [<-I,a];unfold co;simp [AN]
    rw [a,Es,<-a,Dr (n:=@g) (λi K=>AX K) T _ `a] at e;unfold Aw at e;rw [nC `a,show @B - 1+(@g - 1) - @T=@g - 1 by omega] at e;let L:t*co g (@g - 1)=0:=by omega
    rcases Int.mul_eq_zero.mp L with x | x
    .exact q.2 (J.trans x)
    .exact G.lz.2 x
   .exact z
  let C:=Le F B (@R - 1) `a;rw [<-u] at C;rcases hp.mulI C with x | x
  .exact d x
  .exact h x
def Dm.len {p:Nat} (hp:Pr p) {g f:cY} (o:0<@g) (b:¬ (p:Int)∣co g (@g - 1)) (d:Dm (p:Int) (co g) (co f)) (j:∃ k,¬ (p:Int)∣co f k):@g<=@f:=by
 rcases BE @f @g with z | z
 .exfalso;let {S,a}:=d
  let sS:=Jg hp b (λi q=>by rw [AX `a];exact DR _) S λk hk=>by
   have:=a k;rw [AX `a] at this;let e:=Int.dvd_neg.mpr this;rwa [show ∀ x:Int,-(0 - x)=x by intro x;omega] at e
  let {k,hk}:=j;apply hk
  let c:∀ (S:cY),(∀ s∈S,(p:Int)∣s)->∀ k,(p:Int)∣cvL S (co g) k:=by
   intro S
   induction S with
   | nil=>intro _ k;exact DR _
   | cons x S m=>
     intro h k;rw [GH];refine DC (Fv (h x (BX ..))) ?_;cases k with
     | zero=>exact DR _
     | succ k=>exact m (λs n=>h s (Br _ n)) k
  have:=DC (a k) (c S sS k);rwa [Int.sub_add_cancel] at this
 .exact z
structure RC (r o:dh) (g:cY):Prop where
 lz:Lz g
 left:MQ (co g) r
 right:MQ (co g) o
 qi:QI r o (co g)
def Gen.rc {R O g:cY} (G:Gen (co R) (co O) g):RC (co R) (co O) g:=
 {G.lz,G.mq _ R (AT _) (QI.left _ _),G.mq _ O (AT _) (QI.right _ _),G.qi}
def Xn {r o:dh} {g h:cY} (G:RC r o g) (b:Lz h) (m1:MQ (co h) r) (m2:MQ (co h) o) (H:@g<=@h):RC r o h:=by
 refine {b,m1,m2,G.qi.of_MQ ?_};let {d,v,T,f}:=MQ.of_QI m1 m2 G.qi;rcases Et T with z | ⟨B,c,_,w⟩
 .exfalso;have:d*co g (@g - 1)=0:=by rw [f,B2,Fe h z]
  rcases Int.mul_eq_zero.mp this with e | e
  .exact v e
  .exact G.lz.2 e
 .let m:∀ k,d*co g k=cvL B (co h) k:=λk=>by rw [f,B2,Be (λj=>(w j).symm) h k,<-B2]
  let p:=c.1;let I:=b.1;let q:B≠[]:=λz=>by rw [z] at p;simp at p
  let {X,t,a}:∃ X t,B=X++[t]:={B.dropLast,B.getLast q,(List.dropLast_concat_getLast q).symm};let A:@X=@B - 1:=by rw [a];simp
  let u:co B (@B - 1)=t:=by rw [<-A,a];unfold co;simp [AN]
  let one:@B=1:=by
   rcases BE 1 @B with y | y
   .exfalso;let e:=m (@B - 1+(@h - 1));rw [AX `a,a,Es,<-a,Dr (n:=@h) (λi C=>AX C) X _ `a] at e;unfold Aw at e;rw [nC `a,show @B - 1+(@h - 1) - @X=@h - 1 by omega] at e;let D:t*co h (@h - 1)=0:=by omega
    rcases Int.mul_eq_zero.mp D with x | x
    .exact c.2 (u.trans x)
    .exact b.2 x
   .omega
  let E:X=[]:=B5.mp `a;let F:t≠0:=λz=>c.2 (u.trans z);refine {t,F,[d],λk=>?_};let e:=m k;rw [a,E] at e;cases k with
  | zero=>rw [BO];rw [show ([]++[t]:cY)=[t] from rfl,BO] at e;omega
  | succ k=>rw [BG,Bh];rw [show ([]++[t]:cY)=[t] from rfl,BG,Bh] at e;omega
def Prim (g:cY):Prop:=∀ c:Int,(∀ k,c∣co g k)->c.natAbs=1
def Prim.top {g:cY} (P:Prim g) {p:Nat} (hp:2<=p):∃ n,¬ (p:Int)∣co g n/\∀ i,n<i->(p:Int)∣co g i:=by
 let a:∀ n,(∀ i,n<=i->(p:Int)∣co g i)->(∀ i,(p:Int)∣co g i)\/∃ n,¬ (p:Int)∣co g n/\∀ i,n<i->(p:Int)∣co g i:=by
  intro n
  induction n with
  | zero=>intro h;exact .inl λi=>h i (AV i)
  | succ n d=>
    intro h;by_cases c:(p:Int)∣co g n
    .exact d λi b=>by
      by_cases e:i=n
      .rw [e];exact c
      .exact h i `a
    .exact .inr {n,c,λi b=>h i `a}
 rcases a @g (λi b=>by rw [AX b];exact DR _) with h | h
 .have:=P (p:Int) h;omega
 .exact h
def X_ {g:cY} (P:Prim g) {f:dh} (m:MQ (co g) f):∃ A:cY,∀ k,f k=cvL A (co g) k:=by
 let {c,u,A,b}:=m
 let i:∀ (m:Nat) (c:Int) (A:cY),c.natAbs<=m->c≠0->(∀ k,c*f k=cvL A (co g) k)->∃ A:cY,∀ k,f k=cvL A (co g) k:=by
  intro m
  induction m with
  | zero=>intro c A h o;omega
  | succ m v=>
    intro c A h o b;by_cases q:c.natAbs=1
    .rcases Int.natAbs_eq c with e | e
     .exact {A,λk=>by rw [<-b k,e,q];omega}
     .exact {A.map (-1*·),λk=>by rw [BS,<-b k,e,q];omega}
    .let {p,hp,pd,_}:=PY (m:=c.natAbs) `a;let r:(p:Int)∣c:=Ci.mp (by rw [Ck];exact pd);let {n,w,x}:=P.top hp.two;let y:∀ a∈A,(p:Int)∣a:=Jg hp w x A λk _=>by rw [<-b k];exact Fv r
     let {d,rfl}:=r;let B:=hp.two;let j:d≠0:=λz=>o (by rw [z];omega)
     let C:A=(A.map (·/ (p:Int))).map ((p:Int)*·):=by
      rw [Dy]
      conv=>lhs;rw [<-List.map_id A]
      refine D7 λa D=>?_;show a=(p:Int)*(a / (p:Int));rw [FT (y a D)]
     refine v d (A.map (·/ (p:Int))) ?_ j λk=>?_
     .rw [BK,Ck] at h;let E:0<d.natAbs:=by omega
      have:=Ct d.natAbs B;omega
     .let e:=b k;rw [C,BS,Int.mul_assoc] at e;exact Int.eq_of_mul_eq_mul_left `a e
 exact i _ c A (AT _) u b
noncomputable def evI:cY->Int->Int
 | [],_=>0
 | a::l,x=>a+x*evI l x
theorem Jh:∀ (l:cY) (x:Int),(∀ k,co l k=0)->evI l x=0
 | [],_,_=>rfl
 | a::l,x,h=>by
   let b:a=0:=h 0;show a+x*evI l x=0;rw [b,Jh l x λk=>h (k+1)];omega
theorem Lh:∀ (a b:cY) (x:Int),(∀ k,co a k=co b k)->evI a x=evI b x
 | [],b,x,h=>(Jh b x λk=>(h k).symm).symm
 | a::l,[],x,h=>Jh (a::l) x h
 | a::l,b::m,x,h=>by
   let c:a=b:=h 0;show a+x*evI l x=b+x*evI m x;rw [c,Lh l m x λk=>h (k+1)]
theorem Pd:∀ (a b:cY) (x:Int),evI (Ay a b) x=evI a x+evI b x
 | [],b,x=>by show evI b x=0+evI b x;omega
 | a::l,[],x=>by rw [Ld];show _=_+0;omega
 | a::l,b::m,x=>by
   show (a+b)+x*evI (Ay l m) x=a+x*evI l x+(b+x*evI m x);rw [Pd l m x];ext
theorem Pe (c:Int):∀ (a:cY) (x:Int),evI (a.map (c*·)) x=c*evI a x
 | [],x=>by show (0:Int)=c*0;omega
 | a::l,x=>by
   show c*a+x*evI (l.map (c*·)) x=c*(a+x*evI l x);rw [Pe c l x];ext
theorem Pf:∀ (a b:cY) (x:Int),evI (CH a b) x=evI a x*evI b x
 | [],b,x=>by show (0:Int)=0*_;omega
 | a::l,b,x=>by
   show evI (Ay (b.map (a*·)) (0::CH l b)) x=(a+x*evI l x)*evI b x;rw [Pd,Pe];show a*evI b x+(0+x*evI (CH l b) x)=_;rw [Pf l b x];ext
def Xo (a b:cY) (k:Nat):co (CH a b) k=cvL a (co b) k:=by
 rw [CP,Cw];exact Be (λj=>(CP b j).symm) a k
def Xp {r a g:cY} (h:∀ k,co r k=cvL a (co g) k) (x:Int):evI r x=evI a x*evI g x:=by
 rw [<-Pf];exact Lh r (CH a g) x λk=>by rw [Xo];exact h k
theorem Ph {b c:Nat} {x:Int} (d:Bd c x):∀ (l:cY),(∀ z∈l,Bd b z)->Bd (b+@l*(c+1)) (evI l x)
 | [],_=>EX _
 | a::l,f=>by
   show Bd _ (a+x*evI l x);let g:=f a (BX ..);let h:=d.mul (Ph d l λz hz=>f z (Br _ hz));let e:(@l+1)*(c+1)=@l*(c+1)+(c+1):=by rw [Nat.add_mul,Nat.one_mul]
   refine ((g.mono (n:=c+(b+@l*(c+1))) `a).add h).mono ?_;rw [Cj,e];omega
noncomputable def W':cY->Int->cY
 | [],_=>[]
 | _::l,t=>evI l t::W' l t
theorem Ji:∀ (l:cY) (t:Int),(W' l t).length=@l
 | [],_=>rfl
 | _::l,t=>congrArg (·+1) (Ji l t)
theorem Li:∀ (l:cY) (t x:Int),evI l x - evI l t=(x - t)*evI (W' l t) x
 | [],t,x=>by show (0:Int) - 0=_*0;omega
 | a::l,t,x=>by
   show a+x*evI l x - (a+t*evI l t)=(x - t)*(evI l t+x*evI (W' l t) x);have:=Li l t x;ext
theorem Jj:∀ (l:cY) (t:Int) (k:Nat),co l k=(if k=0 then evI l t else co (W' l t) (k - 1)) - t*co (W' l t) k
 | [],t,k=>by
   rw [show co (W' [] t) k=0 from AX (AV _),show co (W' [] t) (k - 1)=0 from AX (AV _),AX (AV _)];show 0=(if k=0 then 0 else 0) - _;split <;> omega
 | a::l,t,0=>by
   show a=a+t*evI l t - t*evI l t;omega
 | a::l,t,k+1=>by
   have:=Jj l t k;show co l k=(if k+1=0 then _ else co (evI l t::W' l t) (k+1 - 1)) - t*co (W' l t) k;rw [nB `a,this];cases k with
   | zero=>rfl
   | succ k=>rw [nB `a];rfl
theorem Xq (l:cY) (t:Int):co (W' l t) (@l - 1)=0:=by
 induction l with
 | nil=>exact AX (AV _)
 | cons a l b=>
   show co (evI l t::W' l t) @l=0;cases h:@l with
   | zero=>rw [B5.mp h];rfl
   | succ m=>rw [h] at b;exact b
theorem aI {c:Nat}:∀ (d:Nat) (l:cY) (y:Nat) (x:dh),(∀ k,d<k->co l k=0)->(∀ i,i<=d->Bd c (x i))->(∀ i j,i<=d->j<=d->i≠j->x i≠x j)->(∀ i,i<=d->Bd y (evI l (x i)))->∀ k,Bd (y+d*(c+3)) (co l k)
 | 0,l,y,x,m,_,_,f,k=>by
   cases k with
   | zero=>
     let e:evI l (x 0)=co l 0:=by
      cases l with
      | nil=>rfl
      | cons a l=>
        show a+x 0*evI l (x 0)=a;rw [Jh l (x 0) λk=>m (k+1) `a];omega
     have:=f 0 (AT 0);rw [e] at this;exact this.mono `a
   | succ k=>rw [m (k+1) `a];exact EX _
 | d+1,l,y,x,m,q,r,f,k=>by
   let v:∀ j,d<j->co (W' l (x (d+1))) j=0:=by
    let g:∀ n,∀ j,d<j->@l<=j+n->co (W' l (x (d+1))) j=0:=by
     intro n
     induction n with
     | zero=>intro j _ h;exact AX (by rw [Ji];omega)
     | succ n o=>
       intro j p h;let e:=Jj l (x (d+1)) (j+1);rw [m (j+1) `a,nB `a,o (j+1) `a `a] at e;rw [show j+1 - 1=j by omega] at e;omega
    intro j p;exact g @l j p `a
   let o:=aI d (W' l (x (d+1))) (y+1) x v (λi u=>q i `a) (λi j u p=>r i j `a `a) (λi u=>by
    let e:=Li l (x (d+1)) (x i);let C:x i - x (d+1)≠0:=λz=>r i (d+1) `a `a `a `a;let b:=(f i `a).sub (f (d+1) `a);rw [e] at b;refine b.le ?_;rw [BK];exact Gb _ `a)
   let e:=Jj l (x (d+1)) k;rw [e];let w:=q (d+1) (AT _);let A:=w.mul (o k);let em:(d+1)*(c+3)=d*(c+3)+(c+3):=by rw [Nat.add_mul,Nat.one_mul]
   let B:Bd (c+(y+1+d*(c+3))) (if k=0 then evI l (x (d+1)) else co (W' l (x (d+1))) (k - 1)):=by
    split
    .exact (f (d+1) (AT _)).mono `a
    .exact (o (k - 1)).mono `a
   exact (B.sub A).mono `a
end Bs
namespace Bs
open PySem L2
def isN (H:Hp) (v:V) (q:Nu):Prop:=∃ p,v=.ref p/\H p&&&[.int q.1,.int q.2]
noncomputable def Nums (H:Hp):cW->cU->Prop
 | [],[]=>True
 | x::a,q::l=>isN H x q/\Nums H a l
 | _,_=>False
def Tp (H c:Hp):Prop:=∀ b a,H b&&&a->c b&&&a
def aZ {H a:Hp} (s:Same H a):Tp H a:=λb c h=>s b _ h
def Kp.tp {p:Addr} {H a:Hp} {xs:cW} (k:Kp p H a) (h:H p^^^xs):Tp H a:=λb c q=>k b _ (UC q h (by intro z;cases z)) q
def Tp.updL {p:Addr} {H:Hp} {xs ys:cW} (h:H p^^^xs):Tp H (upd H p (.lst ys)):=Kp.tp Kp.upd h
def isN.tp {H a:Hp} {v:V} {q:Nu} (h:isN H v q) (t:Tp H a):isN a v q:=let ⟨p,e,z⟩:=h;⟨p,e,t _ _ z⟩
theorem Nums.tp {H a:Hp} (t:Tp H a):∀ {xs:cW} {l:cU},Nums H xs l->Nums a xs l
 | [],[],_=>trivial
 | _::_,_::_,h=>{h.1.tp t,Nums.tp t h.2}
 | [],_::_,h=>h.elim
 | _::_,[],h=>h.elim
theorem Nums.length {H:Hp}:∀ {xs:cW} {l:cU},Nums H xs l->@xs=@l
 | [],[],_=>rfl
 | _::_,_::_,h=>congrArg (·+1) (Nums.length h.2)
 | [],_::_,h=>h.elim
 | _::_,[],h=>h.elim
theorem Nums.get {H:Hp}:∀ {xs:cW} {l:cU} {i:Nat} {v:V},Nums H xs l->xs[i]?=some v->∃ q,l[i]?=some q/\isN H v q
 | [],[],_,_,_,e=>by simp at e
 | _::_,q::_,0,_,h,e=>by simp at e;subst e;exact ⟨q,rfl,h.1⟩
 | _::_,_::_,i+1,_,h,e=>by
   let {q,a,b}:=Nums.get (i:=i) h.2 (by simpa using e);exact {q,by simpa using a,b}
 | [],_::_,_,_,h,_=>h.elim
 | _::_,[],_,_,h,_=>h.elim
def Nums.at {H:Hp} {xs:cW} {l:cU} {i:Nat} (h:Nums H xs l) (b:i<@l) (d:Nu):∃ v,xs[i]?=some v/\isN H v (l.getD i d):=by
 let a:i<@xs:=by rw [@h];exact b
 let {q,c,e}:=h.get (AR a);refine {_,AR a,?_};rw [AN,c];exact e
theorem Nums.append {H:Hp}:∀ {xs ys:cW} {l m:cU},Nums H xs l->Nums H ys m->Nums H (xs++ys) (l++m)
 | [],_,[],_,_,h=>h
 | _::_,_,_::_,_,h,a=>{h.1,Nums.append h.2 a}
 | [],_,_::_,_,h,_=>h.elim
 | _::_,_,[],_,h,_=>h.elim
def Nums.one {H:Hp} {v:V} {q:Nu} (h:isN H v q):Nums H [v] [q]:=⟨h,trivial⟩
theorem G3 {a:Type} (v:a):∀ n:Nat,(List.replicate n [v]).flatten=List.replicate n v
 | 0=>rfl
 | n+1=>by rw [List.replicate_succ,List.flatten_cons,G3 v n];rfl
def DH {a:Type} {xs:List a} {i:Int} {j:Nat} {v:a} (e:i=(j:Int)) (h:xs[j]?=some v):M' xs i=some v:=by subst e;exact DL h
def Pi {H:Hp} {p:Addr} {q:Nu}:isN (upd H p (.tup [.int q.1,.int q.2])) (.ref p) q:=⟨p,rfl,upd_same⟩
def IB {xs:cW} {m:Nat} (h:m<=@xs):CD xs none (some (m:Int))=xs.take m:=by
 unfold CD HT.sIx;simp only [List.drop_zero,D1,Ch];rw [nB `a,Nat.min_eq_left h]
def Pj (H:Hp) (Q:VK) (l:cU):Prop:=∀ (r:Addr) (b:cW) (a:Hp),Same H a->a r&&&b->Nums a b l->Q (.ref r) a
noncomputable def Eu (q:Nu):W.Dat:=.tuple [.int q.1,.int q.2]
noncomputable def Ff (l:cU):W.Dat:=.tuple (l.map Eu)
def Xr {H:Hp} {v:V} {q:Nu} (h:isN H v q):RepD H v (Eu q):=by
 let {p,rfl,hp}:=h;exact .tup hp (.cons (.int _) (.cons (.int _) .nil))
theorem Pk {H:Hp}:∀ {xs:cW} {l:cU},Nums H xs l->RepA H xs (l.map Eu)
 | [],[],_=>.nil
 | _::_,_::_,h=>.cons (Xr h.1) (Pk h.2)
 | [],_::_,h=>h.elim
 | _::_,[],h=>h.elim
def Pl {H:Hp} {p:Addr} {xs:cW} {l:cU} (hp:H p&&&xs) (h:Nums H xs l):RepD H (.ref p) (Ff l):=.tup hp (Pk h)
def okN (q:Nu) (n:Nat):W.kqdOk (n+1) (Eu q)=true:=by simp [Eu,W.kqdOk]
def okP (l:cU) (n:Nat):W.kqdOk (n+2) (Ff l)=true:=by
 simp only [Ff,W.kqdOk,List.all_map,FQ,Function.comp];intro q _;exact okN q n
section
variable {σ:L2.St} {H:Hp} {Q:VK} {D:Ends} {rest:TS} {sp:Sp} {E:XK}
def AS {i:Nat} {v:V} (a:σ[i]?=some (some v)) (h:Q v H):AA i σ H Q:=⟨v,a,h⟩
def GK {i:Nat} {k:Int} {a:Addr} {xs:cW} {v:V} (b:σ[i]?=some (↥a)) (c:H a&&&xs) (d:M' xs k=some v) (h:Q v H):A_ gT (AA i) (tC (.int k)) σ H Q:={_,b,a,k,xs,v,7,c,d,h}
def Xs {i:Nat} {k:Int} {a:Addr} {xs:cW} {v:V} (b:σ[i]?=some (↥a)) (c:H a^^^xs) (d:M' xs k=some v) (h:Q v H):A_ gL (AA i) (tC (.int k)) σ H Q:={_,b,a,k,xs,v,7,c,d,h}
def Xu {a:TE} {k:Nat} (h:a σ H λx b=>sp [x] b (λv c=>rest D (σ.set k (some v)) c) E):AF (AJ (AL sp [] E (AB a AC)) (AE k)) rest D σ H:=h
def Lj {a b:TE} {k:Nat} (h:a σ H λx c=>b σ c λy d=>sp [x,y] d (λv e=>rest D (σ.set k (some v)) e) E):AF (AJ (AL sp [] E (AB a (AB b AC))) (AE k)) rest D σ H:=h
def G4 {a b tc:TE} {k:Nat} (h:a σ H λx c=>b σ c λy d=>tc σ d λz e=>sp [x,y,z] e (λv f=>rest D (σ.set k (some v)) f) E):AF (AJ (AL sp [] E (AB a (AB b (AB tc AC)))) (AE k)) rest D σ H:=h
def B7 {a:TE} (h:a σ H λx b=>sp [x] b Q E):AL sp [] E (AB a AC) σ H Q:=h
def Ae {a b:TE} (h:a σ H λx c=>b σ c λy d=>sp [x,y] d Q E):AL sp [] E (AB a (AB b AC)) σ H Q:=h
def C7 {a b tc:TE} (h:a σ H λx c=>b σ c λy d=>tc σ d λz e=>sp [x,y,z] e Q E):AL sp [] E (AB a (AB b (AB tc AC))) σ H Q:=h
def AY {a:TE} {k:Nat} (h:a σ H λx b=>rest D (σ.set k (some x)) b):AF (AJ a (AE k)) rest D σ H:=h
def BT {a:TE} (h:a σ H D.rt):Aa a D σ H:=h
def IC {a b:TE} (h:a σ H λx d=>b σ d λy c=>[x,y].length<=sizeLine/\∀ p,c p=none->Q (.ref p) (upd c p (.tup [x,y]))):EV (AB a (AB b AC)) σ H Q:=h
def Xv {a b tc:TE} (h:a σ H λx d=>b σ d λy e=>tc σ e λz c=>[x,y,z].length<=sizeLine/\∀ p,c p=none->Q (.ref p) (upd c p (.tup [x,y,z]))):EV (AB a (AB b (AB tc AC))) σ H Q:=h
def Cb {a:TE} (h:a σ H λx b=>[x].length<=sizeLine/\∀ p,b p=none->Q (.ref p) (upd b p (.lst [x]))):As (AB a AC) σ H Q:=h
def ID {a b:TE} (h:a σ H λx d=>b σ d λy c=>[x,y].length<=sizeLine/\∀ p,c p=none->Q (.ref p) (upd c p (.lst [x,y]))):As (AB a (AB b AC)) σ H Q:=h
def I_ {v:V} (h:Q v H):tC v σ H Q:=h
def AZ {r:R2} {a b:TE} (h:a σ H λx c=>b σ c λy d=>r x y d Q):A_ r a b σ H Q:=h
def EG {k:Int} {a:Addr} {xs:cW} {v:V} (b:H a^^^xs) (c:M' xs k=some v) (h:Q v H):gL (.ref a) (.int k) H Q:=⟨a,k,xs,v,rfl,rfl,b,c,h⟩
def G5 {a:TE} (h:a σ H λx b=>Ao [x] b Q):D' Ao (AB a AC) σ H Q:=h
def IE {a:Addr} {xs:cW} (b:H a^^^xs) (h:Q (.int @xs) H):Ao [.ref a] H Q:=⟨a,xs,rfl,b,h⟩
def Ds {b:cW->Hp->VK->Prop} {a:TE} (h:a σ H λx c=>b [x] c Q):D' b (AB a AC) σ H Q:=h
def Pm {a:TA} {g:TG} {b:TS} (h:a σ H (λc d=>∃ i j:Int,c=[.int i,.int j,.int (-1)]/\(-(2 ^ 62)<=i/\i<2 ^ 62/\-(2 ^ 62)<=j/\j<2 ^ 62)/\ForJ (c6 i (i - j).toNat) g b { D with nx:=rest D } σ d)):AF (A4 (Gu a) g b) rest D σ H:=h
def G6 {a:TE} {g:TG} (h:a σ H λx b=>g x σ b (rest D)):AF (AJ a g) rest D σ H:=h
def Lk {b c tc d:TE} (h:b σ H λx e=>c σ e λy f=>tc σ f λz g=>d σ g λa i=>sp [x,y,z,a] i Q E):AL sp [] E (AB b (AB c (AB tc (AB d AC)))) σ H Q:=h
def IF {b:cW->Hp->VK->Prop} {a c:TE} (h:a σ H λx d=>c σ d λy e=>b [x,y] e Q):D' b (AB a (AB c AC)) σ H Q:=h
def IG {c d tc e f:TE} (h:c σ H λx g=>d σ g λy i=>tc σ i λz j=>e σ j λa k=>f σ k λb m=>sp [x,y,z,a,b] m Q E):AL sp [] E (AB c (AB d (AB tc (AB e (AB f AC))))) σ H Q:=h
def EH {i:Nat} {v:V} {σ:L2.St} {H:Hp} {Q:L2.St->Hp->Prop} (h:Q (σ.set i (some v)) H):AE i v σ H Q:=h
def DY {K:W.Frag} {b:TE} {capt:List (Option Nat)} {g:TG} {c:TE} {σ:L2.St} {H:Hp} {Q:VK} (h:b σ H (λx d=>∃ a,x=.ref a/\(∃ e,SqL K d a e)/\CompJ (ag K a) capt g c σ Q d)):A9 (A5 K b) capt g c σ H Q:=h
def G7 {a:TE} {k:Nat} {D:Ends} {σ:L2.St} {H:Hp} (h:a σ H λx b=>D.nx (σ.set k (some x)) b):AJ a (AE k) D σ H:=h
def DN {c:TT} {t u:TS} (h:c σ H λb a=>if b=true then t { D with nx:=rest D } σ a else u { D with nx:=rest D } σ a):AF (BC c t u) rest D σ H:=h
def Xw {c:TT} {t:TS} (h:c σ H λb a=>if b=true then t { D with nx:=rest D } σ a else rest D σ a):AF (BC c t BA) rest D σ H:=h
def B8 {a:TE} {Q:Bool->Hp->Prop} (h:a σ H λx b=>∃ k,x=.bl k/\Q k b):Ak a σ H Q:=h
def Bi {x:V}:[x].length<=sizeLine:=by show 1<=_;exact sz `b
def Ev {x y:V}:[x,y].length<=sizeLine:=by show 2<=_;exact sz `b
def Xx {x y z:V}:[x,y,z].length<=sizeLine:=by show 3<=_;exact sz `b
theorem Pn {H:Hp} {a x y:Addr} {A X Y:HO} {P:Hp->Prop} (g:H a=none) (i:upd H a A x=none) (d:upd (upd H a A) x X y=none) (k:∀ b,b a=some A->b y=some Y->Same H b->a≠y->H y=none->P b):P (upd (upd (upd H a A) x X) y Y):=by
 let f:=AO g A;let c:=AO i X;let sy:=AO d Y;refine k _ (sy _ _ (c _ _ upd_same)) upd_same (λz o h=>sy z o (c z o (f z o h))) (Aq (c _ _ upd_same) d) ?_;cases e:H y with
 | none=>rfl
 | some o=>have:=c _ _ (f _ _ e);rw [d] at this;cases this
end
end Bs
namespace Bs
open PySem L2
noncomputable def tr (n:Nat) (f:Nat->Rat):List Rat:=(List.range n).map f
end Bs
namespace Bs
theorem cH:∀ (m n:Nat) (f:Nat->Nat),(∀ i,i<n->f i<m)->m<n->∃ i j,i<j/\j<n/\f i=f j
 | 0,n,f,h,d=>absurd (h 0 d) (Bk _)
 | m+1,n,f,h,d=>by
   let {n,rfl}:∃ k,n=k+1:={n - 1,`a};by_cases c:∃ i,i<n/\f i=f n
   .let {i,a,e}:=c;exact {i,n,a,`a,e}
   .let c:∀ i,i<n->f i≠f n:=λi a e=>c ⟨i,a,e⟩;let o:=h n `a
    let {i,j,b,g,e}:=cH m n (λi=>if f n<f i then f i - 1 else f i) (λi a=>by
     let p:=h i `a;let q:=c i a;show (if f n<f i then f i - 1 else f i)<m;split <;> omega) `a
    refine {i,j,b,`a,?_};let r:=c i `a;let u:=c j g;let e:(if f n<f i then f i - 1 else f i)=(if f n<f j then f j - 1 else f j):=e;split at e <;> split at e <;> omega
noncomputable def aM (M:Nat):Nat->(Nat->Nat)->Nat
 | 0,_=>0
 | N+1,e=>e 0+M*aM M N (λk=>e (k+1))
theorem Ll {M:Nat}:∀ (N:Nat) (e:Nat->Nat),(∀ k,k<N->e k<M)->aM M N e<M ^ N
 | 0,_,_=>Nat.one_pos
 | N+1,e,h=>by
   let a:=Ll N (λk=>e (k+1)) (λk hk=>h (k+1) `a);let c:=h 0 `a;show e 0+M*aM M N (λk=>e (k+1))<M ^ (N+1);let b:M*(aM M N (λk=>e (k+1))+1)<=M*M ^ N:=De M a;rw [Cg,Cq (M ^ N)];rw [Nat.mul_add,Nat.mul_one] at b;omega
def Lm {M a b x y:Nat} (c:a<M) (d:b<M) (h:a+M*x=b+M*y):a=b/\x=y:=by
 let f:(a+M*x) % M=a:=by rw [Nat.add_mul_mod_self_left,Nat.mod_eq_of_lt c]
 let g:(b+M*y) % M=b:=by rw [Nat.add_mul_mod_self_left,Nat.mod_eq_of_lt d]
 let e:a=b:=by rw [<-f,h,g]
 subst e;exact {2,Nat.eq_of_mul_eq_mul_left `a (Nat.add_left_cancel h)}
theorem Ln {M:Nat}:∀ (N:Nat) (e a:Nat->Nat),(∀ k,k<N->e k<M)->(∀ k,k<N->a k<M)->aM M N e=aM M N a->∀ k,k<N->e k=a k
 | 0,_,_,_,_,_,k,hk=>absurd hk (Bk _)
 | N+1,e,a,h,b,q,k,hk=>by
   let {c,d}:=Lm (h 0 `a) (b 0 `a) q;cases k with
   | zero=>exact c
   | succ k=>exact Ln N _ _ (λk hk=>h (k+1) `a) (λk hk=>b (k+1) `a) d k `a
noncomputable def P_ (p:Nat):Nat->Nat->cY
 | 0,_=>[]
 | N+1,t=>((t % p:Nat):Int)::P_ p N (t / p)
theorem IH (p:Nat):∀ (N t:Nat),(P_ p N t).length=N
 | 0,_=>rfl
 | N+1,t=>by show (P_ p N (t / p)).length+1=N+1;rw [IH p N]
theorem II {p:Nat} (a:0<p):∀ (N t:Nat),∀ z∈P_ p N t,0<=z/\z<(p:Int)
 | 0,_,z,h=>by cases h
 | N+1,t,z,h=>by
   rcases CS.mp h with rfl | h
   .have:=Nat.mod_lt t a;omega
   .exact II a N _ z h
theorem Lo {p:Nat} (e:0<p):∀ (N t s:Nat),t<p ^ N->s<p ^ N->P_ p N t=P_ p N s->t=s
 | 0,t,s,c,d,_=>by rw [Nat.pow_zero] at c d;omega
 | N+1,t,s,c,d,h=>by
   injection h with a b;rw [Cg,Cq] at c d;have:=Lo e N (t / p) (s / p) (Nat.div_lt_of_lt_mul c) (Nat.div_lt_of_lt_mul d) b;let f:=Nat.div_add_mod t p;let g:=Nat.div_add_mod s p;let a:t % p=s % p:=by exact_mod_cast a
   rw [<-f,<-g,this,a]
section
variable {R:Type} [Lean.Grind.CommRing R]
noncomputable def su:Nat->(Nat->R)->R
 | 0,_=>0
 | n+1,f=>su n f+f n
theorem Aj {f g:Nat->R}:∀ n,(∀ i,i<n->f i=g i)->su n f=su n g
 | 0,_=>rfl
 | n+1,h=>by
   show su n f+f n=su n g+g n;rw [Aj n λi a=>h i `a,h n `a]
theorem Cm:∀ {n:Nat} {f:Nat->R},(∀ i,i<n->f i=0)->su n f=0
 | 0,_,_=>rfl
 | n+1,f,h=>by
   show su n f+f n=0;rw [Cm λi a=>h i `a,h n `a];ext
theorem Ew (f g:Nat->R):∀ n,su n (λi=>f i+g i)=su n f+su n g
 | 0=>by show (0:R)=0+0;ext
 | n+1=>by
   show su n _+(f n+g n)=su n f+f n+(su n g+g n);rw [Ew f g n];ext
theorem CU (c:R) (f:Nat->R):∀ n,su n (λi=>c*f i)=c*su n f
 | 0=>by show (0:R)=c*0;ext
 | n+1=>by
   show su n _+c*f n=c*(su n f+f n);rw [CU c f n];ext
def FB (f g:Nat->R) (n:Nat):su n (λi=>f i - g i)=su n f - su n g:=by
 let h:=Ew (λi=>f i - g i) g n;rw [Aj (f:=λi=>f i - g i+g i) (g:=f) n λi _=>by grind] at h;ext
def Ea (c:R) (f:Nat->R) (n:Nat):su n (λi=>f i*c)=su n f*c:=by
 rw [Aj (g:=λi=>c*f i) n λi _=>by ext,CU];ext
theorem G8 (f:Nat->Nat->R) (m:Nat):∀ n,su n (λi=>su m (f i))=su m λj=>su n λi=>f i j
 | 0=>(Cm λ_ _=>rfl).symm
 | n+1=>by
   show su n (λi=>su m (f i))+su m (f n)=su m λj=>su n (λi=>f i j)+f n j;rw [Ew,G8 f m n]
noncomputable def dl (i j:Nat):R:=if i=j then 1 else 0
theorem Fg (f:Nat->R) (k:Nat):∀ n,su n (λi=>f i*dl i k)=if k<n then f k else 0
 | 0=>rfl
 | n+1=>by
   show su n _+f n*dl n k=_;rw [Fg f k n];unfold dl;by_cases h:n=k
   .rw [nC h,nB `a,nC `a,h];ext
   .rw [nB h];by_cases q:k<n
    .rw [nC q,nC `a];ext
    .rw [nB q,nB `a];ext
def V_ (f:Nat->R) {k n:Nat} (h:k<n):su n (λi=>dl i k*f i)=f k:=by
 rw [Aj (g:=λi=>f i*dl i k) n λi _=>by ext,Fg,nC h]
def Xy (i j:Nat):(dl i j:R)=dl j i:=by
 unfold dl;by_cases q:i=j
 .rw [nC q,nC q.symm]
 .rw [nB q,nB (λz=>q z.symm)]
def Lp (f:Nat->R) {k n:Nat} (h:k<n):su n (λi=>dl k i*f i)=f k:=by
 rw [Aj (g:=λi=>dl i k*f i) n λi _=>by rw [Xy],V_ f h]
def swp {k l M:Nat} (h:k<M):(if (if k=l then M else k)=M then l else (if k=l then M else k))=k:=by
 by_cases q:k=l
 .rw [nC q,nC rfl,q]
 .rw [nB q,nB `a]
def Xz (f:Nat->R) {l m:Nat} (h:l<=m):su (m+1) f=su m (λi=>f (if i=l then m else i))+f l:=by
 let e:su m (λi=>f (if i=l then m else i))=su m f+(if l<m then f m - f l else 0):=by
  rw [Aj (g:=λi=>f i+(λ_=>f m - f l) i*dl i l) m λi _=>by
   unfold dl;by_cases q:i=l
   .rw [nC q,nC q,q];ext
   .rw [nB q,nB q];ext,Ew,Fg]
 rw [e];show su m f+f m=_;by_cases q:l<m
 .rw [nC q];ext
 .rw [nB q,show l=m by omega];ext
structure Dom (R:Type) [Lean.Grind.CommRing R]:Prop where
 one:(1:R)≠0
 mul:∀ {a b:R},a*b=0->a=0\/b=0
theorem cJ (D:Dom R):∀ (n m:Nat) (a:Nat->Nat->R),n<m->∃ c:Nat->R,(∃ i,i<m/\c i≠0)/\∀ j,j<n->su m (λi=>c i*a i j)=0
 | 0,m,a,h=>{λ_=>1,⟨0,h,D.one⟩,λj d=>absurd d (Bk j)}
 | n+1,m,a,h=>by
   by_cases z:∀ i,i<m->a i n=0
   .let {c,o,e}:=cJ D n m a `a;refine {c,o,λj d=>?_};by_cases q:j=n
    .rw [q];exact Cm λi b=>by rw [z i b];ext
    .exact e j `a
   .let {l,v,p}:∃ l,l<m/\a l n≠0:=Classical.byContradiction λx=>z λi b=>Classical.byContradiction λy=>x ⟨i,b,y⟩;let {M,rfl}:∃ M,m=M+1:={m - 1,`a};let {c,{k,hk,r},e}:=cJ D n M (λi j=>a l n*a (if i=l then M else i) j - a (if i=l then M else i) n*a l j) `a
    let {C,f,u}:∃ C:Nat->R,(∀ k,k<M->C (if k=l then M else k)=a l n*c k)/\C l = - su M (λk=>c k*a (if k=l then M else k) n):=
     {λi=>if i=l then - su M (λk=>c k*a (if k=l then M else k) n) else a l n*c (if i=M then l else i),λk hk=>by
      let e:=swp (l:=l) hk;show (if (if k=l then M else k)=l then _ else a l n*c (if (if k=l then M else k)=M then l else (if k=l then M else k)))=_;rw [nB (by split <;> omega),e],by show (if l=l then _ else _)=_;rw [nC rfl]}
    refine {C,{if k=l then M else k,by split <;> omega,?_},λj d=>?_}
    .rw [f k hk];exact λy=>(D.mul y).elim p r
    .rw [Xz _ (by omega:l<=M),u]
     rw [Aj (g:=λi=>a l n*(c i*a (if i=l then M else i) j)) M λi b=>by
      rw [f i b];ext,CU]
     let w:su M (λi=>c i*(a l n*a (if i=l then M else i) j - a (if i=l then M else i) n*a l j))=a l n*su M (λi=>c i*a (if i=l then M else i) j) - su M (λk=>c k*a (if k=l then M else k) n)*a l j:=by
      rw [<-CU,<-Ea,<-FB];exact Aj M λi _=>by ext
     by_cases q:j=n
     .rw [q];ext
     .have:=e j `a;ext
def ker (D:Dom R) {k:Nat} {W M:Nat->Nat->R} (h:∀ i,i<k->∀ j,j<k->su k (λt=>W i t*M t j)=dl i j) {v:Nat->R} (o:∀ j,j<k->su k (λt=>v t*M t j)=0):∀ t,t<k->v t=0:=by
 let {c,{l,w,m},e}:=cJ D k (k+1) (λi t=>if i=k then v t else W i t) `a
 let n:∀ j,j<k->c j=0:=λj b=>by
  let a:su k (λt=>su (k+1) (λi=>c i*(if i=k then v t else W i t))*M t j)=0:=Cm λt d=>by rw [e t d];ext
  rw [Aj (g:=λt=>su (k+1) (λi=>c i*((if i=k then v t else W i t)*M t j))) k λt _=>by rw [<-Ea];exact Aj _ λi _=>by ext,G8] at a;rw [Aj (g:=λi=>c i*su k (λt=>(if i=k then v t else W i t)*M t j)) (k+1) λi _=>by rw [CU]] at a
  let p:su k (λi=>c i*su k (λt=>(if i=k then v t else W i t)*M t j))=c j:=by
   rw [Aj (g:=λi=>c i*dl i j) k λi f=>by
    rw [Aj (g:=λt=>W i t*M t j) k λt _=>by rw [nB `a],h i f j b],Fg,nC b]
  let q:su k (λt=>(if k=k then v t else W k t)*M t j)=0:=by
   rw [Aj (g:=λt=>v t*M t j) k λt _=>by rw [nC rfl],o j b]
  let a:su k (λi=>c i*su k (λt=>(if i=k then v t else W i t)*M t j))+c k*su k (λt=>(if k=k then v t else W k t)*M t j)=0:=a;rw [p,q] at a;ext
 let r:l=k:=Classical.byContradiction λz=>m (n l `a);intro t d;have:=e t d;let u:su k (λi=>c i*(if i=k then v t else W i t))=0:=Cm λi f=>by rw [n i f];ext
 let this:su k (λi=>c i*(if i=k then v t else W i t))+c k*(if k=k then v t else W k t)=0:=this;rw [u,nC rfl] at this;exact (D.mul (show c k*v t=0 by ext)).elim (λz=>absurd z (r ▸ m)) id
def X1 (D:Dom R) {k:Nat} {W M:Nat->Nat->R} (h:∀ i,i<k->∀ j,j<k->su k (λt=>W i t*M t j)=dl i j):∀ i,i<k->∀ j,j<k->su k (λt=>M i t*W t j)=dl i j:=λi b j c=>by
 have:=ker D h (v:=λj=>su k (λt=>M i t*W t j) - dl i j) (λs a=>by
  let d:∀ j,(su k (λt=>M i t*W t j) - dl i j)*M j s=su k (λt=>M i t*(W t j*M j s)) - dl i j*M j s:=λj=>by
   have:su k (λt=>M i t*(W t j*M j s))=su k (λt=>M i t*W t j)*M j s:=by
    rw [<-Ea];exact Aj k λx _=>by ext
   clear h;ext
  rw [Aj k λj _=>d j,FB,G8,Lp _ b];rw [Aj (g:=λt=>M i t*dl t s) k λt e=>by rw [CU,h t e s a],Fg,nC a];ext) j c
 ext
end
noncomputable def aQ (q:Int):Setoid Int:={λa b=>q∣a - b,λa=>{0,`a},λ{a b} h=>by let {c,h}:=h;exact {-c,by rw [Int.mul_neg,<-h];omega},λ{a b c} h g=>by let {x,h}:=h;let {y,g}:=g;exact {x+y,by rw [Int.mul_add,<-h,<-g];omega}}
noncomputable def Zm (q:Int):Type:=Quotient (aQ q)
namespace Zm
variable {q:Int}
noncomputable def of (q a:Int):Zm q:=Quotient.mk (aQ q) a
def of_eq {a b:Int}:of q a=of q b↔q∣a - b:={λh=>Quotient.exact (s:=aQ q) h,λh=>Quotient.sound (s:=aQ q) h}
def sur (x:Zm q):∃ a,of q a=x:=Quotient.exists_rep (s:=aQ q) x
noncomputable def add (x y:Zm q):Zm q:=Quotient.lift₂ (s₁:=aQ q) (s₂:=aQ q) (λa b=>of q (a+b)) (λa b c d h g=>of_eq.mpr (by let {x,h}:=h;let {y,g}:=g;exact {x+y,by rw [Int.mul_add,<-h,<-g];omega})) x y
def mulc {a b c d:Int} (h:q∣a - c) (g:q∣b - d):q∣a*b - c*d:=by
 let {x,h}:=h;let {y,g}:=g;refine {x*b+c*y,?_};let e:a=q*x+c:=by omega
 let f:b=q*y+d:=by omega
 ext
noncomputable def mul (x y:Zm q):Zm q:=Quotient.lift₂ (s₁:=aQ q) (s₂:=aQ q) (λa b=>of q (a*b)) (λa b c d h g=>of_eq.mpr (mulc h g)) x y
noncomputable def npow (x:Zm q):Nat->Zm q
 | 0=>of q 1
 | n+1=>mul (npow x n) x
noncomputable instance:Add (Zm q):=⟨add⟩
noncomputable instance:Mul (Zm q):=⟨mul⟩
noncomputable instance:Neg (Zm q):={λx=>mul (of q (-1)) x}
noncomputable instance:Sub (Zm q):={λx y=>add x (mul (of q (-1)) y)}
noncomputable instance:NatCast (Zm q):={λn=>of q n}
noncomputable instance:IntCast (Zm q):={λn=>of q n}
noncomputable instance (n:Nat):OfNat (Zm q) n:={of q n}
noncomputable instance:Pow (Zm q) Nat:=⟨npow⟩
noncomputable instance:SMul Nat (Zm q):={λn f=>mul (of q n) f}
noncomputable instance:SMul Int (Zm q):={λn f=>mul (of q n) f}
def of_add (a b:Int):of q (a+b)=of q a+of q b:=rfl
def of_mul (a b:Int):of q (a*b)=of q a*of q b:=rfl
def a1 (x y:Zm q):add x y=add y x:=by
 let {a,rfl}:=sur x;let {b,rfl}:=sur y;exact congrArg (of q) (Int.add_comm a b)
def a2 (x y z:Zm q):add (add x y) z=add x (add y z):=by
 let {a,rfl}:=sur x;let {b,rfl}:=sur y;let {c,rfl}:=sur z;exact congrArg (of q) (Int.add_assoc a b c)
def m1 (x y:Zm q):mul x y=mul y x:=by
 let {a,rfl}:=sur x;let {b,rfl}:=sur y;exact congrArg (of q) (Cs a b)
def m2 (x y z:Zm q):mul (mul x y) z=mul x (mul y z):=by
 let {a,rfl}:=sur x;let {b,rfl}:=sur y;let {c,rfl}:=sur z;exact congrArg (of q) (Int.mul_assoc a b c)
def m3 (x y z:Zm q):mul x (add y z)=add (mul x y) (mul x z):=by
 let {a,rfl}:=sur x;let {b,rfl}:=sur y;let {c,rfl}:=sur z;exact congrArg (of q) (Int.mul_add a b c)
def m4 (x:Zm q):mul (of q 1) x=x:=by
 let {a,rfl}:=sur x;exact congrArg (of q) (Int.one_mul a)
def m5 (x:Zm q):mul (of q 0) x=of q 0:=by
 let {a,rfl}:=sur x;exact congrArg (of q) (Int.zero_mul a)
noncomputable instance:Lean.Grind.CommRing (Zm q) where
 add_zero x:=by
  let {a,rfl}:=sur x
  exact congrArg (of q) (Int.add_zero a)
 add_comm:=a1
 add_assoc:=a2
 mul_assoc:=m2
 mul_comm:=m1
 mul_one x:=(m1 _ _).trans (m4 x)
 one_mul:=m4
 left_distrib:=m3
 right_distrib x y z:=by show mul (add x y) z=add (mul x z) (mul y z);rw [m1,m3,m1 z x,m1 z y]
 zero_mul:=m5
 mul_zero x:=(m1 _ _).trans (m5 x)
 pow_zero _:=rfl
 pow_succ _ _:=rfl
 ofNat_succ n:=congrArg (of q) (by show ((n+1:Nat):Int)=(n:Int)+1;omega)
 neg_add_cancel x:=by
  let {a,rfl}:=sur x
  exact congrArg (of q) (show -1*a+a=((0:Nat):Int) by omega)
 sub_eq_add_neg _ _:=rfl
 neg_zsmul n x:=by
  let {a,rfl}:=sur x
  exact congrArg (of q) (show -n*a = -1*(n*a) by rw [Int.neg_mul,Int.neg_mul,Int.one_mul])
 zsmul_natCast_eq_nsmul _ _:=rfl
 intCast_neg n:=congrArg (of q) (show -n = -1*n by omega)
def of_neg (a:Int):of q (-a) = - of q a:=congrArg (of q) (show -a = -1*a by omega)
def of_sub (a b:Int):of q (a - b)=of q a - of q b:=congrArg (of q) (show a - b=a + -1*b by omega)
def of_zero {a:Int}:of q a=0↔q∣a:=by
 let h:of q a=of q 0↔q∣a - 0:=of_eq;rw [Int.sub_zero] at h;exact h
def of_mod (a:Int):of q (a % q)=of q a:=of_eq.mpr {-(a / q),by have:=Int.emod_def a q;rw [Int.mul_neg,this];omega}
def dom {p:Nat} (c:p≠1) (h:∀ a b:Int,(p:Int)∣a*b->(p:Int)∣a\/(p:Int)∣b):Dom (Zm (p:Int)):={λz=>c (by
  have:=of_zero.mp (show of (p:Int) 1=0 from z);have:=FS.mp (show (p:Int)∣((1:Nat):Int) from this);exact Nat.dvd_one.mp this),λ{a b} e=>by
 let {x,rfl}:=sur a;let {y,rfl}:=sur b;rw [<-of_mul,of_zero] at e;exact (h x y e).imp of_zero.mpr of_zero.mpr}
end Zm
section
variable {R:Type} [Lean.Grind.CommRing R]
structure RE (n w:Nat) (a:Nat->Nat->R) (col d:Nat) (o c:Nat->Nat) (u l:Nat->Nat->R):Prop where
 dn:d<=n
 on:∀ i,i<n->o i<n
 inj:∀ i j,i<n->j<n->o i=o j->i=j
 cl:∀ s,s<d->c s<col
 cr:∀ s t,s<t->t<d->c s<c t
 row:∀ i,i<d->∀ j,j<w->l i j=su d λt=>u i t*a (o t) j
 row2:∀ i,d<=i->i<n->∀ j,j<w->l i j=a (o i) j+su d λt=>u i t*a (o t) j
 piv:∀ s,s<d->∀ i,i<n->l i (c s)=dl i s
 zer:∀ i,d<=i->i<n->∀ j,j<col->l i j=0
 ech:∀ i,i<d->∀ j,j<c i->l i j=0
variable {n w col d:Nat} {a u l:Nat->Nat->R} {o c:Nat->Nat}
def RE.skip (I:RE n w a col d o c u l) (h:∀ i,d<=i->i<n->l i col=0):RE n w a (col+1) d o c u l:=
 {I.dn,I.on,I.inj,λs f=>Nat.lt_succ_of_lt (I.cl s f),I.cr,I.row,I.row2,I.piv,λi b e j g=>by
  rcases Ge.mp g with q | q
  .exact I.zer i b e j q
  .rw [q];exact h i b e,I.ech}
noncomputable def tw (x y i:Nat):Nat:=if i=x then y else if i=y then x else i
def Lq (x y:Nat):tw x y x=y:=by unfold tw;rw [nC rfl]
def IJ {x y i n:Nat} (b:x<n) (e:y<n) (f:i<n):tw x y i<n:=by unfold tw;split;exact e;split;exact b;exact f
def X2 {x y i:Nat} (h:i<x) (b:i<y):tw x y i=i:=by unfold tw;rw [nB `a,nB `a]
def X3 {x y i j:Nat} (h:tw x y i=tw x y j):i=j:=by unfold tw at h;split at h <;> split at h <;> (try split at h) <;> (try split at h) <;> omega
def Lu {x y i:Nat} (h:x<i) (b:x<=y):x<=tw x y i/\tw x y i≠y:=by unfold tw;rw [nB `a];split <;> omega
def Pp (f b:Nat->R) (z:R) (d:Nat):su (d+1) (λt=>(if t=d then z else f t)*b t)=su d (λt=>f t*b t)+z*b d:=by
 show su d (λt=>(if t=d then z else f t)*b t)+(if d=d then z else f d)*b d=_;rw [nC rfl,Aj (f:=λt=>(if t=d then z else f t)*b t) d λt e=>by rw [nB `a]]
def RE.step (I:RE n w a col d o c u l) {k:Nat} {y:R} {m N:Nat->Nat} {O:Nat->Nat->R} (U:col<w) (A:d<=k) (B:k<n) (P:l k col*y=1)
  (C:∀ i,i<n->m i=o (tw d k i)) (G:∀ s,s<d->N s=c s) (x:N d=col) (J:∀ j,j<w->O d j=l k j*y)
  (D:∀ i,i<n->i≠d->∀ j,j<w->O i j=l (tw d k i) j - l (tw d k i) col*(l k j*y)):∃ Z,RE n w a (col+1) (d+1) m N Z O:=by
 let Q:d<n:=by omega
 let E:∀ i,i<n->tw d k i<n:=λi b=>IJ Q B b;let K:∀ i,i<d->tw d k i=i:=λi b=>X2 b `a;let W:∀ t,t<d->m t=o t:=λt F=>by rw [C t `a,K t F]
 let S:m d=o k:=by rw [C d Q,Lq]
 let kc:∀ s,s<d->l k (c s)=0:=λs T=>by rw [I.piv s T k B];unfold dl;rw [nB `a]
 let L:∀ s,s<d->c s<col:=I.cl
 let v:∀ j,j<w->l k j*y=su (d+1) λt=>(if t=d then y else y*u k t)*a (m t) j:=λj h=>by
  rw [Pp,S,I.row2 k A B j h,Aj (f:=λt=>y*u k t*a (m t) j) (g:=λt=>y*(u k t*a (o t) j)) d λt F=>by rw [W t F,Lean.Grind.Semiring.mul_assoc],CU,Lean.Grind.Semiring.right_distrib,Lean.Grind.CommSemiring.mul_comm y,Lean.Grind.CommSemiring.mul_comm y,Lean.Grind.Semiring.add_comm]
 let H:∀ f:Nat->R,∀ j,su d (λt=>f t*a (o t) j)=su (d+1) (λt=>(if t=d then 0 else f t)*a (m t) j):=λf j=>by
  rw [Pp,Aj (f:=λt=>f t*a (m t) j) d λt F=>by rw [W t F],Lean.Grind.Semiring.zero_mul,Lean.Grind.Semiring.add_zero]
 refine {λi t=>if i=d then (if t=d then y else y*u k t) else (if t=d then 0 else u (tw d k i) t) - l (tw d k i) col*(if t=d then y else y*u k t),Q,λi b=>?_,λi j b h e=>?_,λs T=>?_,λs t st F=>?_,λi b j h=>?_,λi di b j h=>?_,λs T i b=>?_,λi di b j h=>?_,λi b j h=>?_}
 .rw [C i b];exact I.on _ (E i b)
 .rw [C i b,C j h] at e;exact X3 (I.inj _ _ (E i b) (E j h) e)
 .by_cases q:s=d
  .rw [q,x];omega
  .rw [G s `a];have:=L s `a;omega
 .rw [G s `a];by_cases q:t=d
  .rw [q,x];exact L s `a
  .rw [G t `a];exact I.cr s t st `a
 .by_cases q:i=d
  .rw [q,J j h,v j h];exact Aj _ λt _=>by rw [nC rfl]
  .let id:i<d:=by omega
   rw [D i `a q j h,K i id,v j h,I.row i id j h,<-CU];rw [H (u i),<-FB];exact Aj _ λt _=>by rw [nB q];ext
 .let q:i≠d:=by omega
  let {M,X}:=Lu (y:=k) (show d<i by omega) A;rw [D i b q j h,v j h,I.row2 _ M (E i b) j h,C i b,<-CU];rw [H (u (tw d k i))]
  let e2:su (d+1) (λt=>(if i=d then (if t=d then y else y*u k t) else (if t=d then 0 else u (tw d k i) t) - l (tw d k i) col*(if t=d then y else y*u k t))*a (m t) j)=su (d+1) (λt=>(if t=d then 0 else u (tw d k i) t)*a (m t) j) - su (d+1) (λt=>l (tw d k i) col*((if t=d then y else y*u k t)*a (m t) j)):=by
   rw [<-FB];exact Aj _ λt _=>by rw [nB q];ext
  rw [e2];ext
 .by_cases q:s=d
  .rw [q,x];by_cases p:i=d
   .rw [p,J _ U,P];unfold dl;rw [nC rfl]
   .rw [D i b p col U,P];unfold dl;rw [nB p];ext
  .let sd:s<d:=by omega
   let Y:c s<w:=by have:=L s sd;omega
   rw [G s sd];by_cases p:i=d
   .rw [p,J _ Y,kc s sd];unfold dl;rw [nB `a];ext
   .rw [D i b p (c s) Y,kc s sd,I.piv s sd _ (E i b)];by_cases r:i<d
    .rw [K i r];ext
    .let {M,X}:=Lu (y:=k) (show d<i by omega) A;unfold dl;rw [nB `a,nB `a];ext
 .let q:i≠d:=by omega
  let {M,X}:=Lu (y:=k) (show d<i by omega) A;rw [D i b q j `a];rcases Ge.mp h with z | z
  .rw [I.zer _ M (E i b) j z,I.zer k A B j z];ext
  .rw [z,P];ext
 .by_cases q:i=d
  .rw [q,x] at h;rw [q,J j `a,I.zer k A B j h];ext
  .let id:i<d:=by omega
   rw [G i id] at h;have:=L i id;rw [D i `a q j `a,K i id,I.ech i id j h,I.zer k A B j `a];ext
end
def onto {n:Nat} {o:Nat->Nat} (b:∀ i,i<n->o i<n) (a:∀ i j,i<n->j<n->o i=o j->i=j) {r:Nat} (c:r<n):∃ i,i<n/\o i=r:=by
 let {i,j,d,f,e}:=cH n (n+1) (λi=>if i=n then r else o i) (λi g=>by
  show (if i=n then r else o i)<n;by_cases q:i=n
  .rw [nC q];exact c
  .rw [nB q];exact b i `a) `a
 let e:(if i=n then r else o i)=(if j=n then r else o j):=e;rw [nB `a] at e;by_cases q:j=n
 .rw [nC q] at e;exact {i,`a,e}
 .rw [nB q] at e;have:=a i j `a `a e;omega
section
variable {R:Type} [Lean.Grind.CommRing R]
variable {n w d:Nat} {a u l:Nat->Nat->R} {o c:Nat->Nat}
def RE.span (I:RE n w a w d o c u l) {r:Nat} (h:r<n):∃ z:Nat->R,∀ j,j<w->a r j=su d λt=>z t*a (o t) j:=by
 let {i,b,rfl}:=onto I.on I.inj h;by_cases q:i<d
 .exact {λt=>dl i t,λj _=>(Lp (λt=>a (o t) j) q).symm}
 .refine {λt=>- u i t,λj f=>?_};let e:=I.row2 i `a b j f;rw [I.zer i `a b j f] at e;rw [Aj (g:=λt=>(-1)*(u i t*a (o t) j)) d λt _=>by ext,CU];ext
end
structure Po (R:Type) [Lean.Grind.CommRing R] where
 c:Nat->R
 fin:∃ n,∀ k,n<=k->c k=0
section
variable {R:Type} [Lean.Grind.CommRing R]
theorem FC (f:Nat->R):∀ n,su (n+1) f=f 0+su n λi=>f (i+1)
 | 0=>by show (0:R)+f 0=f 0+0;ext
 | n+1=>by
   show su (n+1) f+f (n+1)=f 0+(su n (λi=>f (i+1))+f (n+1));rw [FC f n];ext
theorem Pq (f:Nat->R):∀ n,su n f=su n λi=>f (n - 1 - i)
 | 0=>rfl
 | n+1=>by
   rw [FC (λi=>f (n+1 - 1 - i)) n,Aj (g:=λi=>f (n - 1 - i)) n λi a=>by rw [show n+1 - 1 - (i+1)=n - 1 - i by omega],<-Pq f n];show su n f+f n=f n+su n f;ext
theorem Ps (F:Nat->Nat->R):∀ k,su k (λi=>su (i+1) λj=>F j (i - j))=su k λj=>su (k - j) λi=>F j i
 | 0=>rfl
 | k+1=>by
   show su k _+su (k+1) (λj=>F j (k - j))=su k (λj=>su (k+1 - j) λi=>F j i)+su (k+1 - k) λi=>F k i;rw [Ps F k,Aj (f:=λj=>su (k+1 - j) λi=>F j i) (g:=λj=>(su (k - j) λi=>F j i)+F j (k - j)) k λj a=>by rw [show k+1 - j=k - j+1 by omega];rfl,Ew,show k+1 - k=0+1 by omega];show _+(su k (λj=>F j (k - j))+F k (k - k))=_+(0+F k 0);rw [DT];ext
theorem Jk (f:Nat->R) {n:Nat}:∀ m,n<=m->(∀ i,n<=i->i<m->f i=0)->su m f=su n f
 | 0,h,_=>by rw [show n=0 by omega]
 | m+1,h,z=>by
   by_cases q:n=m+1
   .rw [q]
   .show su m f+f m=_;rw [Jk f m `a λi a b=>z i a `a,z m `a `a];ext
namespace Po
abbrev nR (n:Nat):R:=@Nat.cast R Lean.Grind.Semiring.natCast n
abbrev iR (n:Int):R:=@Int.cast R Lean.Grind.Ring.intCast n
def C_ {f g:Po R} (h:∀ k,f.c k=g.c k):f=g:=by
 have:=funext h;cases f;cases g;congr
noncomputable def num (x:R):Po R:=⟨λk=>if k=0 then x else 0,1,λk hk=>by rw [nB `a]⟩
noncomputable def add (f g:Po R):Po R:={λk=>f.c k+g.c k,by
 let {n,a}:=f.fin;let {m,b}:=g.fin;exact {n+m,λk hk=>by rw [a k `a,b k `a];ext}}
noncomputable def neg (f:Po R):Po R:={λk=>- f.c k,by
 let {n,a}:=f.fin;exact {n,λk hk=>by rw [a k hk];ext}}
noncomputable def cv (f g:Nat->R) (k:Nat):R:=su (k+1) λi=>f i*g (k - i)
def Pt {f g:Nat->R} {n m:Nat} (a:∀ k,n<=k->f k=0) (b:∀ k,m<=k->g k=0) (k:Nat) (h:n+m<=k+1):cv f g k=0:=Cm λi c=>by
 by_cases q:n<=i
 .rw [a i q];ext
 .rw [b (k - i) `a];ext
noncomputable def mul (f g:Po R):Po R:={cv f.c g.c,by
 let {n,a}:=f.fin;let {m,b}:=g.fin;exact {n+m,λk hk=>Pt a b k `a}}
def mul_comm (f g:Po R):mul f g=mul g f:=C_ λk=>by
 show su (k+1) _=su (k+1) _;rw [Pq];exact Aj _ λi a=>by rw [show k+1 - 1 - i=k - i by omega,show k - (k - i)=i by omega];ext
def mul_assoc (f g h:Po R):mul (mul f g) h=mul f (mul g h):=C_ λk=>by
 show su (k+1) (λi=>su (i+1) (λj=>f.c j*g.c (i - j))*h.c (k - i))=su (k+1) λj=>f.c j*su (k - j+1) λi=>g.c i*h.c (k - j - i);let e:=Ps (λj t=>f.c j*g.c t*h.c (k - (j+t))) (k+1)
 rw [Aj (g:=λi=>su (i+1) λj=>f.c j*g.c (i - j)*h.c (k - (j+(i - j)))) (k+1) λi a=>by
  rw [<-Ea];exact Aj _ λj b=>by rw [show j+(i - j)=i by omega],e]
 exact Aj _ λj b=>by
  rw [<-CU,show k+1 - j=k - j+1 by omega];exact Aj _ λi a=>by rw [show k - (j+i)=k - j - i by omega];ext
def mul_add (f g h:Po R):mul f (add g h)=add (mul f g) (mul f h):=C_ λk=>by
 show su (k+1) (λi=>f.c i*(g.c (k - i)+h.c (k - i)))=su (k+1) _+su (k+1) _;rw [<-Ew];exact Aj _ λi _=>by ext
def G9 (x:R) (f:Po R) (k:Nat):(mul (num x) f).c k=x*f.c k:=by
 show su (k+1) (λi=>(if i=0 then x else 0)*f.c (k - i))=_;rw [FC,Cm λi a=>by rw [nB `a];ext,nC rfl,D1];ext
def one_mul (f:Po R):mul (num 1) f=f:=C_ λk=>by rw [G9];ext
noncomputable def npow (f:Po R):Nat->Po R
 | 0=>num 1
 | n+1=>mul (npow f n) f
noncomputable instance:Add (Po R):=⟨add⟩
noncomputable instance:Mul (Po R):=⟨mul⟩
noncomputable instance:Neg (Po R):=⟨neg⟩
noncomputable instance:Sub (Po R):={λf g=>add f (neg g)}
noncomputable instance:NatCast (Po R):={λn=>num (nR n)}
noncomputable instance:IntCast (Po R):={λn=>num (iR n)}
noncomputable instance (n:Nat):OfNat (Po R) n:={num (nR n)}
noncomputable instance:Pow (Po R) Nat:=⟨npow⟩
noncomputable instance:SMul Nat (Po R):={λn f=>mul (num (nR n)) f}
noncomputable instance:SMul Int (Po R):={λn f=>mul (num (iR n)) f}
def cI (n:Nat):iR (n:Int)=(nR n:R):=Lean.Grind.Ring.intCast_natCast n
def zc (k:Nat):(num (nR 0:R)).c k=0:=by
 show (if k=0 then (nR 0:R) else 0)=0;split <;> ext
def one1':num (nR 1:R)=num 1:=congrArg num ()
noncomputable instance:Lean.Grind.CommRing (Po R) where
 add_zero f:=C_ λk=>by show f.c k+(num (nR 0:R)).c k=f.c k;rw [zc];ext
 add_comm f g:=C_ λk=>by show f.c k+g.c k=g.c k+f.c k;ext
 add_assoc f g h:=C_ λk=>by show f.c k+g.c k+h.c k=f.c k+(g.c k+h.c k);ext
 mul_assoc:=mul_assoc
 mul_comm:=mul_comm
 mul_one f:=(mul_comm _ _).trans ((congrArg (λz=>mul z f) one1').trans (one_mul f))
 one_mul f:=(congrArg (λz=>mul z f) one1').trans (one_mul f)
 left_distrib:=mul_add
 right_distrib f g h:=by show mul (add f g) h=add (mul f h) (mul g h);rw [mul_comm,mul_add,mul_comm h f,mul_comm h g]
 zero_mul f:=C_ λk=>by show (mul (num (nR 0:R)) f).c k=(num (nR 0:R)).c k;rw [G9,zc];ext
 mul_zero f:=C_ λk=>by show (mul f (num (nR 0:R))).c k=(num (nR 0:R)).c k;rw [mul_comm,G9,zc];ext
 pow_zero f:=one1'.symm
 pow_succ f n:=rfl
 ofNat_succ n:=C_ λk=>by
  show (if k=0 then (nR (n+1):R) else 0)=(if k=0 then (nR n:R) else 0)+(if k=0 then (nR 1:R) else 0)
  split <;> ext
 ofNat_eq_natCast n:=rfl
 nsmul_eq_natCast_mul n f:=rfl
 sub_eq_add_neg f g:=rfl
 neg_add_cancel f:=C_ λk=>by show -f.c k+f.c k=(num (nR 0:R)).c k;rw [zc];ext
 intCast_neg n:=C_ λk=>by
  show (if k=0 then (iR (-n):R) else 0) = -(if k=0 then (iR n:R) else 0)
  split <;> ext
 intCast_ofNat n:=congrArg num (by show iR ((n:Nat):Int)=(nR n:R);exact cI n)
 neg_zsmul n f:=C_ λk=>by
  show (mul (num (iR (-n):R)) f).c k = -(mul (num (iR n:R)) f).c k
  rw [G9,G9];ext
 zsmul_natCast_eq_nsmul n f:=congrArg (λz=>mul z f) (congrArg num (cI n))
def C8 (f g:Po R) (k:Nat):(f+g).c k=f.c k+g.c k:=rfl
def Ec (f g:Po R) (k:Nat):(f - g).c k=f.c k - g.c k:=by show f.c k + -g.c k=_;ext
def Fh (f g:Po R) (k:Nat):(f*g).c k=su (k+1) λi=>f.c i*g.c (k - i):=rfl
def D_ (x:R) (f:Po R) (k:Nat):(num x*f).c k=x*f.c k:=G9 x f k
def CI (k:Nat):(0:Po R).c k=0:=zc k
def one_eq:(1:Po R)=num 1:=one1'
def Jl (x y:R):num (x+y)=num x+num y:=C_ λk=>by
 show (if k=0 then x+y else 0)=(if k=0 then x else 0)+(if k=0 then y else 0);split <;> ext
def BV (x y:R):num (x*y)=num x*num y:=C_ λk=>by
 rw [D_];show (if k=0 then x*y else 0)=x*(if k=0 then y else 0);split <;> ext
def Fi:num (0:R)=0:=C_ λk=>by rw [CI];show (if k=0 then (0:R) else 0)=0;split <;> rfl
def Bn (f:Po R) (n:Nat):Prop:=∀ k,n<=k->f.c k=0
structure Mn (f:Po R) (n:Nat):Prop where
 top:f.c n=1
 bn:Bn f (n+1)
def Bn.mono {f:Po R} {n m:Nat} (h:Bn f n) (q:n<=m):Bn f m:=λk hk=>h k `a
def Bn.add {f g:Po R} {n:Nat} (h:Bn f n) (h':Bn g n):Bn (f+g) n:=λk hk=>by rw [C8,h k hk,h' k hk];ext
def Bn.sub {f g:Po R} {n:Nat} (h:Bn f n) (h':Bn g n):Bn (f - g) n:=λk hk=>by rw [Ec,h k hk,h' k hk];ext
def Bn.mul {f g:Po R} {n m:Nat} (h:Bn f n) (h':Bn g m) {k:Nat} (q:n+m<=k+1):Bn (f*g) k:=λi a=>Pt h h' i `a
def Bn.zero {f:Po R} (h:Bn f 0):f=0:=C_ λk=>by rw [h k (AV _),CI]
def GL (x:R):Bn (num x) 1:=λk hk=>by show (if k=0 then x else 0)=0;rw [nB `a]
def Bn.num {f:Po R} (h:Bn f 1):f=Po.num (f.c 0):=C_ λk=>by
 show f.c k=if k=0 then f.c 0 else 0
 by_cases q:k=0
 .rw [nC q,q]
 .rw [nB q,h k `a]
def GM {f g:Po R} {n m:Nat} (h:Bn f (n+1)) (h':Bn g (m+1)):(f*g).c (n+m)=f.c n*g.c m:=by
 rw [Fh,Aj (g:=λi=>(f.c n*g.c m)*dl i n) _ λi a=>by
  unfold dl;by_cases q:i=n
  .rw [nC q,q,show n+m - n=m by omega];ext
  .rw [nB q];by_cases z:n<i
   .rw [h i z];ext
   .rw [h' (n+m - i) `a];grind]
 rw [Fg (λ_=>f.c n*g.c m),nC `a]
def Mn.mul {f g:Po R} {n m:Nat} (h:Mn f n) (h':Mn g m):Mn (f*g) (n+m):={by rw [GM h.bn h'.bn,h.top,h'.top];ext,h.bn.mul h'.bn `a}
def Mn.uniq {W:Po R} {n:Nat} (h:Mn W n) {q:Po R} (z:Bn (q*W) n):q=0:=by
 let {m,a}:=q.fin
 have:∀ m,Bn q m->q=0:=λm=>by
  induction m with
  | zero=>exact λh=>h.zero
  | succ m b=>
    intro a;refine b λk hk=>?_;rcases Nat.eq_or_lt_of_le hk with e | e
    .have:=GM a h.bn;rw [z (m+n) `a,h.top] at this;rw [<-e];ext
    .exact a k e
 exact this m a
noncomputable def X:Po R:=⟨λk=>if k=1 then 1 else 0,2,λk hk=>by rw [nB `a]⟩
def FD (f:Po R):(X*f).c 0=0:=by
 rw [Fh];show (0:R)+(if 0=1 then 1 else 0)*f.c 0=0;rw [nB `a];ext
def Ed (f:Po R) (k:Nat):(X*f).c (k+1)=f.c k:=by
 rw [Fh];exact V_ (λi=>f.c (k+1 - i)) (show 1<k+1+1 by omega)
theorem IK:∀ (n:Nat) (f:Po R) (k:Nat),(X ^ n*f).c k=if k<n then 0 else f.c (k - n)
 | 0,f,k=>by rw [nB `a,show X ^ 0*f=f by grind];rfl
 | n+1,f,k=>by
   rw [show X ^ (n+1)*f=X*(X ^ n*f) by grind];cases k with
   | zero=>rw [FD,nC `a]
   | succ k=>
     rw [Ed,IK n f k];by_cases q:k<n
     .rw [nC q,nC `a]
     .rw [nB q,nB `a,show k+1 - (n+1)=k - n by omega]
def Mn.div {W:Po R} {n:Nat} (h:Mn W n) (f:Po R):∃ q r,f=q*W+r/\Bn r n:=by
 have:∀ m,∀ f:Po R,Bn f (n+m)->∃ q r,f=q*W+r/\Bn r n:=λm=>by
  induction m with
  | zero=>exact λf a=>{0,f,(),a}
  | succ m b=>
    intro f a
    let {q,r,e,c}:=b (f - num (f.c (n+m))*(X ^ m*W)) λk hk=>by
     rw [Ec,D_,IK,nB `a];rcases Nat.eq_or_lt_of_le hk with z | z
     .rw [<-z,show n+m - m=n by omega,h.top];ext
     .rw [a k `a,h.bn (k - m) `a];ext
    exact {q+num (f.c (n+m))*X ^ m,r,(),c}
 let {m,d}:=f.fin;exact this m f λk hk=>d k `a
def bO {P:Po R->Prop} (c:P 0) (h:∀ a f,P f->P (num a+X*f)) (f:Po R):P f:=by
 have:∀ n,∀ f,Bn f n->P f:=λn=>by
  induction n with
  | zero=>exact λf b=>b.zero ▸ c
  | succ n d=>
    intro f b
    let e:f=num (f.c 0)+X*⟨λk=>f.c (k+1),n,λk hk=>b _ `a⟩:=C_ λk=>by
     rw [C8];cases k with
     | zero=>rw [FD];show f.c 0=(if 0=0 then f.c 0 else 0)+0;rw [nC rfl];ext
     | succ k=>rw [Ed];show f.c (k+1)=(if k+1=0 then f.c 0 else 0)+f.c (k+1);rw [nB `a];ext
    rw [e];exact h _ _ (d _ λk hk=>b _ `a)
 let {n,g}:=f.fin;exact this n f g
end Po
end
section
variable {R:Type} [Lean.Grind.CommRing R]
noncomputable def O_:Nat->Nat->Nat
 | _,0=>1
 | 0,_+1=>0
 | n+1,k+1=>O_ n k+O_ n (k+1)
theorem HH:∀ n k,n<k->O_ n k=0
 | 0,_+1,_=>rfl
 | n+1,k+1,h=>by show O_ n k+O_ n (k+1)=0;rw [HH n k `a,HH n (k+1) `a]
theorem Pu:∀ n,O_ n n=1
 | 0=>rfl
 | n+1=>by show O_ n n+O_ n (n+1)=1;rw [Pu n,HH n (n+1) `a]
def IL (n:Nat):O_ n 0=1:=by cases n <;> rfl
theorem Jm:∀ n k,(k+1)*O_ (n+1) (k+1)=(n+1)*O_ n k
 | 0,0=>rfl
 | 0,k+1=>by show (k+1+1)*(O_ 0 (k+1)+O_ 0 (k+1+1))=(0+1)*0;rw [HH 0 (k+1) `a,HH 0 (k+1+1) `a];omega
 | n+1,0=>by
   have:=Jm n 0;show (0+1)*(O_ (n+1) 0+O_ (n+1) (0+1))=(n+1+1)*O_ (n+1) 0;rw [IL] at this ⊢;omega
 | n+1,k+1=>by
   let a:=Jm n k;let b:=Jm n (k+1);show (k+1+1)*(O_ (n+1) (k+1)+O_ (n+1) (k+1+1))=(n+1+1)*O_ (n+1) (k+1);let c:O_ (n+1) (k+1)=O_ n k+O_ n (k+1):=rfl;rw [Nat.mul_add,b,Nat.add_mul (k+1) 1,a];let d:(n+1)*O_ n k+(n+1)*O_ n (k+1)=(n+1)*O_ (n+1) (k+1):=by rw [c,Nat.mul_add]
   rw [Nat.add_mul (n+1) 1];omega
open Po (nR)
theorem Pw (x y:R):∀ n,(x+y) ^ n=su (n+1) λk=>nR (O_ n k)*(x ^ k*y ^ (n - k))
 | 0=>by
   show (x+y) ^ 0=0+nR (O_ 0 0)*(x ^ 0*y ^ (0 - 0));rw [IL];ext
 | n+1=>by
   rw [show (x+y) ^ (n+1)=x*(x+y) ^ n+y*(x+y) ^ n by ext,Pw x y n,FC _ (n+1),<-CU,<-CU]
   rw [Aj (f:=λk=>nR (O_ (n+1) (k+1))*(x ^ (k+1)*y ^ (n+1 - (k+1)))) (g:=λk=>x*(nR (O_ n k)*(x ^ k*y ^ (n - k)))+nR (O_ n (k+1))*(x ^ (k+1)*y ^ (n - k))) (n+1) λk hk=>by
    rw [show n+1 - (k+1)=n - k by omega,show O_ (n+1) (k+1)=O_ n k+O_ n (k+1) from rfl];ext,Ew]
   rw [FC (λi=>y*(nR (O_ n i)*(x ^ i*y ^ (n - i)))) n];show _+_=_+(_+(su n _+nR (O_ n (n+1))*(x ^ (n+1)*y ^ (n - n))));rw [HH n (n+1) `a,IL,IL]
   rw [Aj (f:=λi=>y*(nR (O_ n (i+1))*(x ^ (i+1)*y ^ (n - (i+1))))) (g:=λi=>nR (O_ n (i+1))*(x ^ (i+1)*y ^ (n - i))) n λi a=>by
    rw [show n - i=n - (i+1)+1 by omega];grind]
   rw [show n+1 - 0=n+1 from rfl,show n - 0=n from rfl];ext
def X4 {p:Nat} (hp:Pr p) {k:Nat} (a:0<k) (h:k<p):p∣O_ p k:=by
 let {q,rfl}:∃ q,p=q+1:={p - 1,`a};let {j,rfl}:∃ j,k=j+1:={k - 1,`a};let e:=Jm q j;rcases hp.mul (show q+1∣(j+1)*O_ (q+1) (j+1) from {_,e}) with z | z
 .have:=Dz `a z;omega
 .exact z
def X5 {p n:Nat} (hz:(nR p:R)=0) (h:p∣n):(nR n:R)=0:=by
 let {m,rfl}:=h;have:(nR (p*m):R)=nR p*nR m:=by ext
 rw [this,hz];ext
def c7 {p:Nat} (hp:Pr p) (hz:(nR p:R)=0) (x y:R):(x+y) ^ p=x ^ p+y ^ p:=by
 let a:=hp.two;let {q,rfl}:∃ q,p=q+1:={p - 1,`a};rw [Pw,FC];show _+(su q _+nR (O_ (q+1) (q+1))*(x ^ (q+1)*y ^ (q+1 - (q+1))))=_;rw [Cm λi b=>by rw [X5 hz (X4 hp `a `a)];ext,IL,Pu];rw [show q+1 - (q+1)=0 by omega,show q+1 - 0=q+1 from rfl];ext
theorem Lv:∀ n:Nat,(1:R) ^ n=1
 | 0=>by ext
 | n+1=>by rw [show (1:R) ^ (n+1)=1 ^ n*1 by ext,Lv n];ext
theorem Px {p:Nat} (hp:Pr p) (hz:(nR p:R)=0) (f:Nat->R):∀ n,(su n f) ^ p=su n λi=>f i ^ p
 | 0=>by
   let a:=hp.two;let {q,rfl}:∃ q,p=q+1:={p - 1,`a};show (0:R) ^ (q+1)=0;ext
 | n+1=>by
   show (su n f+f n) ^ p=su n (λi=>f i ^ p)+f n ^ p;rw [c7 hp hz,Px hp hz f n]
theorem aJ {p:Nat} (hp:Pr p) (hz:(nR p:R)=0):∀ n:Nat,(nR n:R) ^ p=nR n
 | 0=>by
   let a:=hp.two;let {q,rfl}:∃ q,p=q+1:={p - 1,`a};show (nR 0:R) ^ (q+1)=nR 0;ext
 | n+1=>by
   let e:(nR (n+1):R)=nR n+1:=by ext
   rw [e,c7 hp hz,aJ hp hz n,Lv]
end
end Bs
namespace Bs
structure Hm {R A:Type} [Lean.Grind.CommRing R] [Lean.Grind.CommRing A] (φ:R->A):Prop where
 add:∀ a b,φ (a+b)=φ a+φ b
 mul:∀ a b,φ (a*b)=φ a*φ b
 one:φ 1=1
section
variable {R A:Type} [Lean.Grind.CommRing R] [Lean.Grind.CommRing A] {φ:R->A}
open Po
def Hm.zero (h:Hm φ):φ 0=0:=by
 have:=h.add 0 0;rw [show (0:R)+0=0 by grind] at this;ext
def Hm.neg (h:Hm φ) (a:R):φ (-a) = - φ a:=by
 have:=h.add (-a) a;rw [show -a+a=(0:R) by ext,h.zero] at this;ext
def Hm.sub (h:Hm φ) (a b:R):φ (a - b)=φ a - φ b:=by
 rw [show a - b=a + -b by ext,h.add,h.neg];ext
theorem Hm.pow (h:Hm φ) (a:R):∀ n:Nat,φ (a ^ n)=φ a ^ n
 | 0=>by rw [show a ^ 0=(1:R) by ext,h.one];ext
 | n+1=>by rw [show a ^ (n+1)=a ^ n*a by ext,h.mul,h.pow a n];ext
theorem Hm.su (h:Hm φ) (f:Nat->R):∀ n,φ (su n f)=Bs.su n λi=>φ (f i)
 | 0=>h.zero
 | n+1=>by show φ (Bs.su n f+f n)=Bs.su n (λi=>φ (f i))+φ (f n);rw [h.add,h.su f n]
theorem Hm.nat (h:Hm φ):∀ n:Nat,φ (nR n)=nR n
 | 0=>by have:=h.zero;let e:(nR 0:R)=0:=by ext
         let a:(nR 0:A)=0:=by ext
         rw [e,a,this]
 | n+1=>by
   let e:(nR (n+1):R)=nR n+1:=by ext
   let a:(nR (n+1):A)=nR n+1:=by ext
   rw [e,a,h.add,h.nat n,h.one]
def hm_num:Hm (num:R->Po R):=⟨Jl,BV,one_eq.symm⟩
def Cc:Hm (λa:R=>a):={λ_ _=>rfl,λ_ _=>rfl,2}
namespace Po
noncomputable def ev (φ:R->A) (y:A) (f:Po R):A:=su (Classical.choose f.fin) λi=>φ (f.c i)*y ^ i
def Ee (h:Hm φ) (y:A) {f:Po R} {n:Nat} (d:Bn f n):ev φ y f=su n λi=>φ (f.c i)*y ^ i:=by
 let z:=Classical.choose_spec f.fin;unfold ev;generalize Classical.choose f.fin=m at z;let a:=Jk (λi=>φ (f.c i)*y ^ i) (m+n) (Nat.le_add_right m n) λi c _=>by show φ (f.c i)*y ^ i=0;rw [z i c,h.zero];ext
 let b:=Jk (λi=>φ (f.c i)*y ^ i) (m+n) (Nat.le_add_left n m) λi c _=>by show φ (f.c i)*y ^ i=0;rw [d i c,h.zero];ext
 rw [<-a,b]
def Py (h:Hm φ) (y:A):ev φ y 0=0:=Ee h y (n:=0) λk _=>CI k
def Lw (h:Hm φ) (y:A) (f g:Po R):ev φ y (f+g)=ev φ y f+ev φ y g:=by
 let {n,c}:=f.fin;let {m,d}:=g.fin;let a:Bn f (n+m):=λk hk=>c k `a;let b:Bn g (n+m):=λk hk=>d k `a;rw [Ee h y a,Ee h y b,Ee h y (a.add b),<-Ew];exact Aj _ λi _=>by rw [C8,h.add];ext
def X6 (h:Hm φ) (y:A) (a:R) (f:Po R):ev φ y (num a*f)=φ a*ev φ y f:=by
 let {n,c}:=f.fin;let b:Bn f n:=c;rw [Ee h y b,Ee h y (f:=num a*f) (n:=n) λk hk=>by rw [D_,b k hk];ext,<-CU];exact Aj _ λi _=>by rw [D_,h.mul];ext
def CQ (h:Hm φ) (y:A) (a:R):ev φ y (num a)=φ a:=by
 rw [Ee h y (GL a)];show 0+φ (if 0=0 then a else 0)*y ^ 0=φ a;rw [nC rfl];ext
def Lx (h:Hm φ) (y:A) (f:Po R):ev φ y (X*f)=y*ev φ y f:=by
 let {n,b}:=f.fin;let a:Bn f n:=b
 rw [Ee h y a,Ee h y (f:=X*f) (n:=n+1) λk hk=>by
  cases k with
  | zero=>omega
  | succ k=>rw [Ed,a k `a],FC,FD,h.zero,<-CU]
 rw [Aj (g:=λi=>y*(φ (f.c i)*y ^ i)) n λi _=>by rw [Ed];grind];ext
def Dt (h:Hm φ) (y:A):Hm (ev φ y):={Lw h y,λf g=>by
 refine bO (P:=λf=>ev φ y (f*g)=ev φ y f*ev φ y g) ?_ (λa f b=>?_) f
 .show ev φ y (0*g)=ev φ y 0*ev φ y g;rw [show 0*g=0 by ext,Py h];ext
 .show ev φ y ((num a+X*f)*g)=ev φ y (num a+X*f)*ev φ y g;rw [show (num a+X*f)*g=num a*g+X*(f*g) by ext,Lw h,Lw h,X6 h,Lx h,Lx h,CQ h,b];ext,by
 rw [one_eq,CQ h,h.one]}
def DZ (h:Hm φ) (y:A):ev φ y X=y:=by
 have:=Lx h y 1;rw [show X*1=(X:Po R) by ext,(Dt h y).one] at this;rw [this];ext
noncomputable def mp (h:Hm φ) (f:Po R):Po A:={λk=>φ (f.c k),by
 let {n,a}:=f.fin;exact {n,λk hk=>by rw [a k hk,h.zero]}}
def Fj (h:Hm φ) (f:Po R) (k:Nat):(mp h f).c k=φ (f.c k):=rfl
def Ly (h:Hm φ):Hm (mp h):={λf g=>C_ λk=>by rw [Fj,C8,h.add];rfl,λf g=>C_ λk=>by
 rw [Fj,Fh,h.su];exact Aj _ λi _=>h.mul _ _,C_ λk=>by
 rw [Fj,one_eq,one_eq];show φ (if k=0 then 1 else 0)=if k=0 then 1 else 0
 split
 .exact h.one
 .exact h.zero}
def Jn (h:Hm φ) (a:R):mp h (num a)=num (φ a):=C_ λk=>by
 rw [Fj];show φ (if k=0 then a else 0)=if k=0 then φ a else 0
 split
 .rfl
 .exact h.zero
def Jo (h:Hm φ):mp h X=X:=C_ λk=>by
 rw [Fj];show φ (if k=1 then 1 else 0)=if k=1 then 1 else 0
 split
 .exact h.one
 .exact h.zero
def Mn.map (h:Hm φ) {f:Po R} {n:Nat} (m:Mn f n):Mn (mp h f) n:={by rw [Fj,m.top,h.one],λk hk=>by rw [Fj,m.bn k hk,h.zero]}
def Bn.map (h:Hm φ) {f:Po R} {n:Nat} (m:Bn f n):Bn (mp h f) n:=λk hk=>by rw [Fj,m k hk,h.zero]
def L1 (a:R):Mn (X - num a) 1:={by
 rw [Ec];show (if 1=1 then (1:R) else 0) - (if 1=0 then a else 0)=1;rw [nC rfl,nB `a];ext,λk hk=>by
 rw [Ec];show (if k=1 then (1:R) else 0) - (if k=0 then a else 0)=0;rw [nB `a,nB `a];ext}
abbrev at' (f:Po R) (a:R):R:=ev (λx=>x) a f
def X7 {f:Po R} {a:R} (h:at' f a=0):∃ g,f=g*(X - num a):=by
 let {q,r,e,b}:=(L1 a).div f;let E:=Dt (Cc (R:=R)) a;let w:=h;rw [e,b.num] at w;let w:at' (q*(X - num a)+num (r.c 0)) a=0:=w;unfold at' at w;rw [E.add,E.mul,E.sub,DZ Cc,CQ Cc,CQ Cc] at w;let z:r.c 0=0:=by ext
 refine {q,?_};rw [e,b.num,z,Fi];ext
noncomputable def R_ (y:Po R) (s:Nat->R):Nat->Po R
 | 0=>1
 | n+1=>R_ y s n*(y - num (s n))
theorem L3 (s:Nat->R):∀ n,Mn (R_ X s n) n
 | 0=>{by show (1:Po R).c 0=1;rw [one_eq];rfl,by show Bn (1:Po R) 1;rw [one_eq];exact GL 1}
 | n+1=>(L3 s n).mul (L1 _)
theorem L4 (D:Dom R) {f:Po R} {s:Nat->R}:∀ n,(∀ i,i<n->at' f (s i)=0)->(∀ i j,i<j->j<n->s i≠s j)->∃ g,f=g*R_ X s n
 | 0,_,_=>{f,by show f=f*1;ext}
 | n+1,h,d=>by
   let {g,e}:=L4 D n (λi p=>h i `a) λi j a b=>d i j a `a;let E:=Dt (Cc (R:=R)) (s n);let w:=h n `a;unfold at' at w;rw [e,E.mul] at w
   let c:∀ m,m<=n->at' (R_ X s m) (s n)≠0:=λm=>by
    unfold at'
    induction m with
    | zero=>intro _;show ev _ (s n) 1≠0;rw [E.one];exact D.one
    | succ m k=>
      intro r;show ev _ (s n) (R_ X s m*(X - num (s m)))≠0;rw [E.mul,E.sub,DZ Cc,CQ Cc];intro z;rcases D.mul z with z | z
      .exact k `a z
      .exact d m n `a `a ()
   let {q,o}:=X7 ((D.mul w).resolve_right (c n (AT _)));exact {q,by show f=q*(R_ X s n*(X - num (s n)));rw [e,o];ext}
end Po
end
end Bs
namespace Bs
open Po
def Zm.nat {q:Int} (n:Nat):(nR n:Zm q)=Zm.of q (n:Int):=rfl
def zp {p:Nat}:(nR p:Zm (p:Int))=0:=by rw [Zm.nat];exact Zm.of_zero.mpr ⟨1,`a⟩
def zpP {p:Nat}:(nR p:Po (Zm (p:Int)))=0:=by
 show num (nR p)=0;rw [zp,Fi]
def X8 {p:Nat} (h:0<p) (x:Zm (p:Int)):∃ n:Nat,n<p/\x=nR n:=by
 let {a,rfl}:=Zm.sur x;let b:=B3 a (show (p:Int)≠0 by omega);let c:=CM a (show (0:Int)<p by omega);exact {(a % p).toNat,`a,by rw [Zm.nat,Int.toNat_of_nonneg b,Zm.of_mod]}
def L8 {p:Nat} (hp:Pr p) (x:Zm (p:Int)):x ^ p=x:=by
 let {n,_,rfl}:=X8 (by have:=hp.two;omega) x;exact aJ hp zp n
def cK {R:Type} [Lean.Grind.CommRing R] (n:Nat):Mn (X ^ n:Po R) n:=by
 let e:(X ^ n:Po R)=X ^ n*1:=by ext
 rw [e];refine {by rw [IK,nB `a,DT,one_eq];rfl,λk hk=>?_};rw [IK,nB `a,one_eq];exact GL 1 _ `a
theorem Pz {R:Type} [Lean.Grind.CommRing R] (y:Po R) (s:Nat->R):∀ n,ev num y (R_ X s n)=R_ y s n
 | 0=>(Dt hm_num y).one
 | n+1=>by
   let E:=Dt (hm_num (R:=R)) y;show ev num y (R_ X s n*(X - num (s n)))=R_ y s n*(y - num (s n));rw [E.mul,E.sub,Pz y s n,DZ hm_num,CQ hm_num]
def X9 {p:Nat} (hp:Pr p) (D:Dom (Zm (p:Int))) (y:Po (Zm (p:Int))):y ^ p - y=R_ y (λi=>nR i) p:=by
 let m:=hp.two;let E:=Dt (hm_num (R:=Zm (p:Int))) y
 let d:(X ^ p - X:Po (Zm (p:Int)))=R_ X (λi=>nR i) p:=by
  let {g,e}:=L4 (f:=X ^ p - X) (s:=λi=>(nR i:Zm (p:Int))) D p (λi _=>by
   let F:=Dt (Cc (R:=Zm (p:Int))) (nR i);unfold at';rw [F.sub,F.pow,DZ Cc,L8 hp];ext) (λi j a b z=>by
   let z:Zm.of (p:Int) (i:Int)=Zm.of (p:Int) (j:Int):=z;let {c,n}:=Zm.of_eq.mp z;have:(p:Int)∣(j:Int) - i:={-c,by rw [Int.mul_neg];omega};have:=Ej `a this;omega)
  let L:=L3 (λi=>(nR i:Zm (p:Int))) p
  let z:g - 1=0:=L.uniq (q:=g - 1) (by
   rw [show (g - 1)*R_ X (λi=>nR i) p=(X ^ p - X) - R_ X (λi=>nR i) p by rw [e];grind];intro k hk;rw [Ec,Ec];let h:(X:Po (Zm (p:Int))).c k=0:=by show (if k=1 then (1:Zm (p:Int)) else 0)=0;rw [nB `a]
   rw [h];rcases Nat.eq_or_lt_of_le hk with q | q
   .rw [<-q,(cK p).top,L.top];ext
   .rw [(cK p).bn k q,L.bn k q];ext)
  rw [e,show g=1 by grind];ext
 have:=congrArg (ev num y) d;rw [E.sub,E.pow,DZ hm_num,Pz] at this;exact this
def P0 {R:Type} [Lean.Grind.CommRing R] (f:Po R):ev num X f=f:=by
 let E:=Dt (hm_num (R:=R)) X;refine bO (P:=λf=>ev num X f=f) E.zero (λa f b=>?_) f;show ev num X (num a+X*f)=num a+X*f;rw [E.add,E.mul,CQ hm_num,DZ hm_num,b]
def L9 {R:Type} [Lean.Grind.CommRing R] {f:Po R} {n:Nat} (h:Bn f n):f=su n λi=>num (f.c i)*X ^ i:=by
 have:=Ee hm_num X h;rw [P0] at this;exact this
def YA {p:Nat} (hp:Pr p) {v:Po (Zm (p:Int))} {n:Nat} (h:Bn v n):v ^ p=su n λi=>num (v.c i)*(X ^ i) ^ p:=by
 let e:=congrArg (·^ p) (L9 h);let e:v ^ p=(su n λi=>num (v.c i)*X ^ i) ^ p:=e;rw [e,Px hp zpP];refine Aj _ λi _=>?_
 have:(num (v.c i)*X ^ i) ^ p=num (v.c i) ^ p*(X ^ i) ^ p:=by
  generalize num (v.c i)=a;generalize (X:Po (Zm (p:Int))) ^ i=b;exact Lean.Grind.CommSemiring.mul_pow a b p
 rw [this,<-hm_num.pow,L8 hp]
end Bs
namespace Bs
namespace Po
section
variable {R:Type} [Lean.Grind.CommRing R]
def Dv (f g:Po R):Prop:=∃ q,g=f*q
def Dv.add {f g h:Po R} (a:Dv f g) (b:Dv f h):Dv f (g+h):=by
 let {x,rfl}:=a;let {y,rfl}:=b;exact {x+y,()}
def Dv.sub {f g h:Po R} (a:Dv f g) (b:Dv f h):Dv f (g - h):=by
 let {x,rfl}:=a;let {y,rfl}:=b;exact {x - y,()}
def Dv.mulL {f g:Po R} (a:Dv f g) (h:Po R):Dv f (h*g):=by let {x,rfl}:=a;exact {h*x,()}
def Dv.mulR {f g:Po R} (a:Dv f g) (h:Po R):Dv f (g*h):=by let {x,rfl}:=a;exact {x*h,()}
def Dv.tr {f g h:Po R} (a:Dv f g) (b:Dv g h):Dv f h:=by let {x,rfl}:=a;let {y,rfl}:=b;exact {x*y,()}
def Dv.rf (f:Po R):Dv f f:=⟨1,()⟩
theorem Jp {f:Po R} {F:Nat->Po R}:∀ n,(∀ i,i<n->Dv f (F i))->Dv f (su n F)
 | 0,_=>{0,by show 0=f*0;ext}
 | n+1,h=>(Jp n λi a=>h i `a).add (h n `a)
def Co (f g:Po R):Prop:=∃ u v,u*f+v*g=1
def Co.dv {f g h:Po R} (c:Co f g) (d:Dv f (g*h)):Dv f h:=by
 let {u,v,e}:=c;let {q,a}:=d
 exact {u*h+v*q,by
  have:h=(u*f+v*g)*h:=by rw [e];ext
  rw [this,show (u*f+v*g)*h=u*f*h+v*(g*h) by ext,a];ext}
def Co.symm {f g:Po R} (c:Co f g):Co g f:=by let {u,v,e}:=c;exact {v,u,()}
theorem IM {f:Po R}:∀ n,Bn f n->f=0\/∃ m,m<n/\f.c m≠0/\Bn f (m+1)
 | 0,h=>.inl h.zero
 | n+1,h=>by
   by_cases z:f.c n=0
   .rcases IM n (λk hk=>by rcases Nat.eq_or_lt_of_le hk with e | e;exact e ▸ z;exact h k e) with q | ⟨m,m1,m2,m3⟩
    .exact .inl q
    .exact .inr {m,`a,m2,m3}
   .exact .inr {n,`a,z,h}
def Mn.quo (h:(1:R)≠0) {f d q:Po R} {n k:Nat} (a:Mn f n) (g:Mn d k) (e:f=d*q):∃ j,n=k+j/\Mn q j:=by
 let {m,o}:=q.fin;rcases IM m o with z | ⟨j,_,c,b⟩
 .have:f.c n=0:=by rw [e,z,show d*0=0 by ext,CI]
  rw [a.top] at this;exact absurd this h
 .let t:=GM g.bn b;rw [<-e,g.top] at t
  let p:k+j<=n:=Classical.byContradiction λz=>c (by
   have:=a.bn (k+j) `a;rw [this] at t;ext)
  let r:n<=k+j:=Classical.byContradiction λz=>h (by
   have:=(g.bn.mul b (k:=n) `a) n (AT _);rw [<-e,a.top] at this;exact this)
  let i:n=k+j:=by omega
  refine {j,i,?_,b};rw [<-i,a.top] at t;ext
def Mn.zero {f:Po R} (h:Mn f 0):f=1:=by rw [h.bn.num,h.top,one_eq]
def FE {g:Po R} {n:Nat} (h:Mn g n) (b:0<n) {a:R} (d:Dv g (num a)):a=0:=by
 let {q,e}:=d;have:=h.uniq (q:=q) (by rw [show q*g=num a by rw [e];grind];exact (GL a).mono b);rw [this] at e;have:=congrArg (λf=>Po.c f 0) e;let this:a=(g*0:Po R).c 0:=by let t:(num a).c 0=(g*0:Po R).c 0:=this;exact t
 rw [show g*0=0 by ext,CI] at this;exact this
def Mn.same {f g:Po R} {n:Nat} (a:Mn f n) (b:Mn g n) (d:Dv f g):f=g:=by
 let {q,e}:=d
 have:=a.uniq (q:=q - 1) (by
  rw [show (q - 1)*f=g - f by rw [e];grind];intro k hk;rw [Ec];rcases Nat.eq_or_lt_of_le hk with z | z
  .rw [<-z,a.top,b.top];ext
  .rw [a.bn k z,b.bn k z];ext)
 rw [e,show q=1 by grind];ext
structure Fl (R:Type) [Lean.Grind.CommRing R]:Prop where
 dom:Dom R
 inv:∀ a:R,a≠0->∃ b,b*a=1
theorem gcd_ex (F:Fl R):∀ n,∀ f g:Po R,Mn f n->∃ d k u v,Mn d k/\Dv d f/\Dv d g/\d=u*f+v*g:=by
 intro n
 induction n using Nat.strongRecOn with
 | _ n o=>
   intro f g a;let {q,r,e,p}:=a.div g;rcases IM n p with z | ⟨m,w,c,b⟩
   .exact ⟨f,n,1,0,a,Dv.rf f,{q,by rw [e,z];ext},()⟩
   .let {i,h}:=F.inv _ c;let x:Mn (num i*r) m:={by rw [D_,h],λk hk=>by rw [D_,b k hk];ext};let {d,k,u,v,y,A,j,B}:=o m w _ f x;refine {d,k,v - u*num i*q,u*num i,y,j,?_,by rw [B,e];ext}
    have:r=num (r.c m)*(num i*r):=by
     rw [show num (r.c m)*(num i*r)=(num i*num (r.c m))*r by ext,<-BV,h,<-one_eq];ext
    rw [e];exact (j.mulL q).add (this ▸ A.mulL _)
structure At (f:Po R):Prop where
 mn:∃ n,0<n/\Mn f n
 at':∀ a b i j,Mn a i->Mn b j->f=a*b->i=0\/j=0
def At.or (F:Fl R) {f:Po R} (h:At f) (g:Po R):Dv f g\/Co f g:=by
 let {n,o,e}:=h.mn;let {d,k,u,v,a,{q,b},m,i}:=gcd_ex F n f g e;let {j,_,c}:=e.quo F.dom.one a b;rcases h.at' d q k j a c b with z | z
 .rw [z] at a;rw [a.zero] at i;exact .inr ⟨u,v,i.symm⟩
 .rw [z] at c;rw [c.zero] at b;have:f=d:=by rw [b];ext
  exact .inl (this ▸ m)
noncomputable def pd:List (Po R)->Po R
 | []=>1
 | f::l=>f*pd l
theorem Fk:∀ l m:List (Po R),pd (l++m)=pd l*pd m
 | [],m=>by show pd m=1*pd m;ext
 | f::l,m=>by show f*pd (l++m)=f*pd l*pd m;rw [Fk l m];ext
theorem IN:∀ {l:List (Po R)} {f:Po R},f∈l->Dv f (pd l)
 | g::l,f,h=>by
   rcases CS.mp h with rfl | h
   .exact {pd l,2}
   .exact (IN h).mulL g
theorem P1:∀ (l:List (Po R)) (i:Nat) (h:i<@l),pd l=l[i]*pd (l.eraseIdx i)
 | f::l,0,_=>rfl
 | f::l,i+1,h=>by
   let a:i<@l:=Nat.lt_of_succ_lt_succ h;show f*pd l=l[i]*(f*pd (l.eraseIdx i));rw [P1 l i a];ext
theorem c9 {W e:Po R} (h:Dv W (e*e - e)):∀ n:Nat,0<n->Dv W (e ^ n - e)
 | 1,_=>{0,()}
 | n+2,_=>by
   have:=((c9 h (n+1) `a).mulL e).add h;rw [show e ^ (n+2) - e=e*(e ^ (n+1) - e)+(e*e - e) by grind];exact this
structure Sd (p:Nat) (W:Po R) (n m:Nat) (s:Nat->Po R):Prop where
 mn:Mn W n
 cop:∀ a b,W=a*b->Co a b
 dv:∀ j,j<m->Dv W (s j ^ p - s j)
 span:∀ v,Bn v n->Dv W (v ^ p - v)->∃ c:Nat->R,v=su m λj=>num (c j)*s j
def Sd.part {p n m:Nat} {W:Po R} {s:Nat->Po R} (S:Sd p W n m s) (f:0<p) {a b:Po R} (e:W=a*b):∃ c:Nat->R,Dv a (su m (λj=>num (c j)*s j) - 1)/\Dv b (su m λj=>num (c j)*s j):=by
 let {u,v,h}:=S.cop a b e;let {q,r,w,g}:=S.mn.div (v*b)
 let i:Dv W (r*r - r):=by
  let k:r=v*b - q*W:=by ext
  let o:v*b*(v*b) - v*b=W*(- (u*v)):=by
   have:v*b=1 - u*a:=by ext
   rw [e]
   let t:v*b*(v*b) - v*b = - (u*a)*(v*b):=by
    have:v*b*(v*b) - v*b=v*b*(v*b - 1):=by ext
    rw [this,show v*b - 1 = - (u*a) by grind];ext
   rw [t];ext
  exact {- (u*v) - q*(v*b) - q*(v*b)+q*q*W+q,by
   rw [k,show (v*b - q*W)*(v*b - q*W) - (v*b - q*W)=(v*b*(v*b) - v*b)+W*(- q*(v*b) - q*(v*b)+q*q*W+q) by ext,o];ext}
 let {c,d}:=S.span r g (c9 i p f);refine {c,?_,?_}
 .rw [<-d];exact {- u - q*b,by rw [show r=v*b - q*W by ext,e];ext}
 .rw [<-d];exact {v - q*a,by rw [show r=v*b - q*W by ext,e];ext}
def YB {g:Po R} (d:Nat->R) (F:Nat->Po R) {i k:Nat} (a:i<k) (h:∀ t,t<k->Dv g (F t - dl t i)):Dv g (su k (λt=>num (d t)*F t) - num (d i)):=by
 let e:num (d i)=su k λt=>num (d t)*dl t i:=by rw [Fg (λt=>num (d t)),nC a]
 rw [e,<-FB]
 exact Jp k λt b=>by
  rw [show num (d t)*F t - num (d t)*dl t i=num (d t)*(F t - dl t i) by grind];exact (h t b).mulL _
def Sd.count {p n m:Nat} {W:Po R} {s:Nat->Po R} (S:Sd p W n m s) (D:Dom R) (u:0<p) {l:List (Po R)} (e:pd l=W) (h:∀ f∈l,∃ k,0<k/\Mn f k):@l<=m:=by
 refine Classical.byContradiction λz=>?_
 let v:∀ i,∃ c:Nat->R,i<@l->∀ t (a:t<@l),Dv l[t] ((su m λj=>num (c j)*s j) - dl i t):=λi=>by
  by_cases q:i<@l
  .let {c,w,y}:=S.part u (e.symm.trans (P1 l i q));refine {c,λ_ t a=>?_};unfold dl;by_cases b:i=t
   .subst b;rw [nC rfl];exact w
   .rw [nB b];have:l[t]∈l.eraseIdx i:=List.mem_eraseIdx_iff_getElem.mpr {t,a,λz=>b z.symm,2};have:=(IN this).tr y;let {x,o}:=this;exact {x,by rw [<-o];ext}
  .exact {λ_=>0,λz=>absurd z q}
 let {C,A}:=Classical.axiomOfChoice v;let {d,{i,r,B},E}:=cJ D m @l C `a
 let F:su @l (λt=>num (d t)*su m λj=>num (C t j)*s j)=0:=by
  rw [Aj (g:=λt=>su m λj=>num (d t*C t j)*s j) @l λt _=>by
   rw [<-CU];exact Aj m λj _=>by rw [BV];ext,G8]
  exact Cm λj G=>by
   rw [Ea,<-hm_num.su,E j G,Fi];ext
 have:=YB d (λt=>su m λj=>num (C t j)*s j) r λt a=>A t a i r;rw [F] at this;let {k,H,hk}:=h l[i] (CN r);let {x,o}:=this;exact B (FE hk H {- x,by rw [show num (d i) = - (0 - num (d i)) by ext,o];ext})
def Sd.atoms {p n m:Nat} {W:Po R} {s:Nat->Po R} (S:Sd p W n m s) (D:Dom R) (E:0<p) {l:List (Po R)} (e:pd l=W) (h:∀ f∈l,∃ k,0<k/\Mn f k) (o:(∀ f∈l,∀ j,j<m->∃ a,Dv f (s j - num a))\/m<=@l):∀ f∈l,At f:=λf C=>{h f C,λa b i j F G w=>by
 refine Classical.byContradiction λz=>?_;let {d,u,v}:=List.append_of_mem C;let H:0<i:=by omega
 let I:0<j:=by omega
 rcases o with o | o
 .let K:W=a*(b*(pd d*pd u)):=by
   rw [<-e,v,Fk];show pd d*(f*pd u)=_;rw [w];ext
  let {c,J,y}:=S.part E K
  let {A,L}:=Classical.axiomOfChoice (show ∀ j,∃ x,j<m->Dv f (s j - num x) from λj=>by
   by_cases q:j<m
   .let {x,M}:=o f C j q;exact {x,λ_=>M}
   .exact {0,λz=>absurd z q})
  let B:Dv f ((su m λj=>num (c j)*s j) - num (su m λj=>c j*A j)):=by
   rw [hm_num.su,<-FB]
   exact Jp m λj N=>by
    rw [BV,show num (c j)*s j - num (c j)*num (A j)=num (c j)*(s j - num (A j)) by grind];exact (L j N).mulL _
  generalize su m (λj=>num (c j)*s j)=r at J y B;generalize su m (λj=>c j*A j)=x at B;let O:Dv a f:=⟨b,w⟩;let P:Dv b f:={a,by rw [w];ext}
  let T:x - 1=0:=FE F H (by
   have:=J.sub (O.tr B);rw [show r - 1 - (r - num x)=num (x - 1) by rw [hm_num.sub,hm_num.one];grind] at this;exact this)
  let U:x=0:=FE G I (by
   let y:Dv b r:=Dv.tr {pd d*pd u,2} y;have:=y.sub (P.tr B);rw [show r - (r - num x)=num x by grind] at this;exact this)
  exact D.one ()
 .have:=S.count D E (l:=d++a::b::u) (by
   rw [<-e,v,Fk,Fk];show pd d*(a*(b*pd u))=pd d*(f*pd u);rw [w];ext) (λg Q=>by
   rcases BR.mp Q with q | q
   .exact h g (by rw [v];exact FO _ q)
   .rcases CS.mp q with rfl | q
    .exact ⟨i,H,F⟩
    .rcases CS.mp q with rfl | q
     .exact ⟨j,I,G⟩
     .exact h g (by rw [v];exact Cp _ (Br _ q)))
  rw [v] at o;simp at this o;omega}
end
end Po
end Bs
namespace Bs
open Po
def hz (q:Int):Hm (Zm.of q):=⟨Zm.of_add,Zm.of_mul,rfl⟩
noncomputable def md (q:Int) (f:Po Int):Po (Zm q):=mp (hz q) f
def CJ (q:Int):Hm (md q):=Ly (hz q)
def YC (q:Int) (f:Po Int) (k:Nat):(md q f).c k=Zm.of q (f.c k):=rfl
def Cd {q:Int} {f g:Po Int} (c:q≠0):md q f=md q g↔∃ h,f=g+num q*h:=by
 constructor
 .intro e;let d:∀ k,q∣f.c k - g.c k:=λk=>Zm.of_eq.mp (congrArg (λf=>Po.c f k) e);let {n,a}:=f.fin;let {m,b}:=g.fin;refine {{λk=>(f.c k - g.c k) / q,n+m,λk hk=>by rw [a k `a,b k `a];exact Int.zero_ediv q},C_ λk=>?_};rw [C8,D_];show f.c k=g.c k+q*((f.c k - g.c k) / q);rw [FT (d k)];omega
 .rintro ⟨h,rfl⟩;refine C_ λk=>Zm.of_eq.mpr ?_;rw [C8,D_];exact {h.c k,`a}
def HI {q:Int} (g:Po (Zm q)):∃ f,md q f=g:=by
 let {c,a}:=Classical.axiomOfChoice λk=>Zm.sur (g.c k);let {n,b}:=g.fin;refine {{λk=>if k<n then c k else 0,n,λk hk=>nB `a},C_ λk=>?_};show Zm.of q (if k<n then c k else 0)=g.c k;by_cases z:k<n
 .rw [nC z,a]
 .rw [nB z,b k `a];rfl
theorem geo {R:Type} [Lean.Grind.CommRing R] (t:R):∀ j:Nat,∃ s,1 - t ^ j=(1 - t)*s
 | 0=>{0,()}
 | j+1=>by
   let {s,h}:=geo t j;exact {s+t ^ j,by rw [show 1 - t ^ (j+1)=(1 - t ^ j)+(1 - t)*t ^ j by ext,h];ext}
def P7 {p:Int} (a:p≠0) (j:Nat) {w B:Po Int} (h:Co (md p w) (md p B)):Co (md (p ^ j) w) (md (p ^ j) B):=by
 let {u,v,e}:=h;let {u,rfl}:=HI u;let {v,rfl}:=HI v;let P:=CJ p;let M:=CJ (p ^ j);rw [<-P.mul,<-P.mul,<-P.add,<-P.one] at e;let {h,e}:=(Cd a).mp e;let {s,b}:=geo (- (num p*h)) j
 let z:md (p ^ j) ((- (num p*h)) ^ j)=0:=by
  have:(- (num p*h)) ^ j=num (p ^ j)*(- h) ^ j:=by
   rw [show - (num p*h)=num p*(- h) by ext,Lean.Grind.CommSemiring.mul_pow,hm_num.pow]
  rw [this];refine C_ λk=>?_;rw [YC,D_,CI];exact Zm.of_zero.mpr {1}
 refine {md (p ^ j) (s*u),md (p ^ j) (s*v),?_};rw [<-M.mul,<-M.mul,<-M.add,show s*u*w+s*v*B=(u*w+v*B)*s by ext,e,show (1+num p*h)*s=(1 - - (num p*h))*s by ext,<-b,M.sub,z,M.one];ext
section
variable {R:Type} [Lean.Grind.CommRing R]
noncomputable def E_ (a:R) (f:Po R):Po R:=ev num (X+num a) f
def BU (a:R):Hm (E_ a):=Dt hm_num _
def IO (a:R) (f:Po R):E_ a (E_ (-a) f)=f:=by
 refine bO (P:=λf=>E_ a (E_ (-a) f)=f) ?_ (λx f b=>?_) f
 .show E_ a (E_ (-a) 0)=0;rw [(BU (-a)).zero,(BU a).zero]
 .show E_ a (E_ (-a) (num x+X*f))=num x+X*f;rw [(BU (-a)).add,(BU (-a)).mul,(BU a).add,(BU a).mul,b];unfold E_;rw [CQ hm_num,CQ hm_num,DZ hm_num,(Dt hm_num _).add,DZ hm_num,CQ hm_num,hm_num.neg];ext
def YD (a:R):Mn (X+num a) 1:=by
 have:=L1 (-a);rw [hm_num.neg] at this;rw [show X+num a=X - - num a by grind];exact this
theorem ai (a:R):∀ i,Mn ((X+num a) ^ i) i/\∀ j,j+1=i->((X+num a) ^ i).c j=nR i*a
 | 0=>{by rw [show (X+num a) ^ 0=(1:Po R) by ext,one_eq];exact {2,GL 1},λj h=>by omega}
 | i+1=>by
   let {m,h}:=ai a i;let e:(X+num a) ^ (i+1)=(X+num a) ^ i*(X+num a):=by ext
   refine {by rw [e];exact m.mul (YD a),λj c=>?_};rw [show j=i by omega,show (X+num a) ^ (i+1)=X*(X+num a) ^ i+num a*(X+num a) ^ i by ext,C8,D_,m.top];let b:(nR (i+1):R)=nR i+1:=by ext
   cases i with
   | zero=>rw [FD,b,show (nR 0:R)=0 by grind];ext
   | succ i=>rw [Ed,h i rfl,b];ext
def HJ (a:R) {f:Po R} {n:Nat} (h:Bn f n):E_ a f=su n λi=>num (f.c i)*(X+num a) ^ i:=Ee hm_num _ h
theorem Fm (F:Nat->Po R) (k:Nat):∀ n,(su n F).c k=su n λi=>(F i).c k
 | 0=>CI k
 | n+1=>by show (su n F).c k+(F n).c k=su n (λi=>(F i).c k)+(F n).c k;rw [Fm F k n]
def MA (a:R) {f:Po R} {n:Nat} (h:Bn f n):Bn (E_ a f) n:=λk hk=>by
 rw [HJ a h,Fm];exact Cm λi b=>by rw [D_,(ai a i).1.bn k `a];ext
def IP (a:R) {f:Po R} {n:Nat} (h:Bn f (n+1)):(E_ a f).c n=f.c n:=by
 rw [HJ a h,Fm];show su n (λi=>(num (f.c i)*(X+num a) ^ i).c n)+(num (f.c n)*(X+num a) ^ n).c n=f.c n;rw [Cm λi b=>by rw [D_,(ai a i).1.bn n `a];ext,D_,(ai a n).1.top];ext
def FF (a:R) {f:Po R} {n:Nat} (h:Mn f n):Mn (E_ a f) n:={by rw [IP a h.bn,h.top],MA a h.bn}
def P8 (a:R) {f:Po R} {n:Nat} (h:Mn f (n+1)):(E_ a f).c n=f.c n+nR (n+1)*a:=by
 rw [HJ a h.bn,Fm];show su n (λi=>(num (f.c i)*(X+num a) ^ i).c n)+(num (f.c n)*(X+num a) ^ n).c n+(num (f.c (n+1))*(X+num a) ^ (n+1)).c n=_;rw [Cm λi b=>by rw [D_,(ai a i).1.bn n `a];ext,D_,(ai a n).1.top,D_,(ai a (n+1)).2 n rfl,h.top];ext
def Po.At.mv {f:Po R} (h:At f) (a:R):At (E_ a f):=by
 let {n,c,m}:=h.mn;refine {{n,c,FF a m},λx y i j d g e=>?_};refine h.at' (E_ (-a) x) (E_ (-a) y) i j (FF _ d) (FF _ g) ?_;let b:=IO (-a) f;rw [show - -a=a by ext,e,(BU (-a)).mul] at b;exact b.symm
end
def P9 {R A:Type} [Lean.Grind.CommRing R] [Lean.Grind.CommRing A] {b:R->A} (h:Hm b) (a:R) (f:Po R):mp h (E_ a f)=E_ (b a) (mp h f):=by
 let P:=Ly h;refine bO (P:=λf=>mp h (E_ a f)=E_ (b a) (mp h f)) ?_ (λx f c=>?_) f
 .show mp h (E_ a 0)=E_ (b a) (mp h 0);rw [(BU a).zero,P.zero,(BU _).zero]
 .show mp h (E_ a (num x+X*f))=E_ (b a) (mp h (num x+X*f));rw [(BU a).add,(BU a).mul,P.add,P.mul,P.add,P.mul,(BU _).add,(BU _).mul,c];unfold E_;rw [CQ hm_num,DZ hm_num,P.add,Jn,Jo,Jn,CQ hm_num,DZ hm_num]
def Jq (q a:Int) (f:Po Int):md q (E_ a f)=E_ (Zm.of q a) (md q f):=P9 (hz q) a f
section
variable {R:Type} [Lean.Grind.CommRing R]
def Po.Co.mulP {f g h:Po R} (a:Co f h) (b:Co g h):Co (f*g) h:=by
 let {u,v,e}:=a;let {x,y,c}:=b
 exact {u*x,u*f*y+v*(x*g+y*h),by
  have:(u*f+v*h)*(x*g+y*h)=1:=by rw [e,c];ext
  ext}
theorem QB {h:Po R}:∀ {l:List (Po R)},(∀ f∈l,Co f h)->Co (pd l) h
 | [],_=>⟨1,0,by show 1*1+0*h=1;ext⟩
 | f::l,q=>(q f BX).mulP (QB λg a=>q g (Br _ a))
def Jr (F:Fl R) {l:List (Po R)} (b:∀ f∈l,At f) {g:Po R} {n:Nat} (h:0<n) (i:Mn g n) (d:Dv g (pd l)):∃ f∈l,Dv f g:=by
 refine Classical.byContradiction λz=>?_;let c:Co (pd l) g:=QB λf a=>((b f a).or F g).resolve_left λw=>z ⟨f,a,w⟩;let {u,v,e}:=c;have:Dv g (num 1):=by rw [<-one_eq,<-e];exact (d.mulL u).add ((Dv.rf g).mulL v)
 exact F.dom.one (FE i h this)
def Po.At.same (F:Fl R) {f g:Po R} (c:At f) (b:At g) (d:Dv f g):f=g:=by
 let {n,k,m}:=c.mn;let {o,h,i}:=b.mn;let {q,e}:=d;let {j,_,a}:=i.quo F.dom.one m e;rcases b.at' f q n j m a e with z | z
 .omega
 .rw [z] at a;rw [e,a.zero];ext
end
structure Lf (p M:Int) (A:Po Int) (f:Po (Zm p)) (d:Nat) (u:Po Int):Prop where
 mn:Mn u d
 over:md p u=f
 dv:Dv (md M u) (md M A)
def YE {p:Nat} {j:Nat} (F:Fl (Zm (p:Int))) (S:0<p) (j0:0<j) {A B G K r:Po Int} {h:Int} (v:A=G*K) (C:B=E_ (-h) G*r)
  (D:∀ a b,md p A=a*b->Co a b) (E:∀ a b,md p B=a*b->Co a b) {f f':Po (Zm (p:Int))} (T:At f) (H:Dv f (md p G)) (I:f'=E_ (Zm.of p (-h)) f)
  {d:Nat} {u g:Po Int} (n:Lf p ((p:Int) ^ j) A f (d+1) u) (k:Lf p ((p:Int) ^ j) B f' (d+1) g):(p:Int) ^ j∣(u.c d - g.c d) - ((d+1:Nat):Int)*h:=by
 let o:(p:Int)≠0:=by omega
 let J:(p:Int) ^ j≠0:=Int.pow_ne_zero o;let P:=CJ (p:Int);let M:=CJ ((p:Int) ^ j)
 let L:Dv (md ((p:Int) ^ j) u) (md ((p:Int) ^ j) G):=by
  let c:Co (md (p:Int) u) (md p K):=by
   rw [n.over];let {q,m}:=H;let {x,y,e}:=D f (q*md p K) (by rw [v,P.mul,m];ext);exact {x,y*q,by rw [<-e];ext}
  let d:=n.dv;rw [v,M.mul,show md ((p:Int) ^ j) G*md ((p:Int) ^ j) K=md ((p:Int) ^ j) K*md ((p:Int) ^ j) G by grind] at d;exact (P7 o j c).dv d
 let w:Dv (md ((p:Int) ^ j) (E_ (-h) u)) (md ((p:Int) ^ j) B):=by
  let {q,m}:=L;refine {E_ (Zm.of _ (-h)) q*md _ r,?_};rw [C,M.mul,Jq,m,(BU _).mul,Jq];ext
 let {q,m}:=k.dv;let {Q,rfl}:=HI q;let N:md p (E_ (-h) u)=f':=by rw [Jq,n.over,I]
 let O:md p B=f'*md p Q:=by
  rw [<-M.mul] at m;let {z,hz}:=(Cd J).mp m;rw [<-k.over,<-P.mul];refine (Cd o).mpr {num ((p:Int) ^ (j - 1))*z,?_}
  rw [hz,show (p:Int) ^ j=p*(p:Int) ^ (j - 1) by
   let {i,rfl}:∃ i,j=i+1:={j - 1,`a};rw [Nat.add_sub_cancel,Int.pow_succ,Cs],BV];ext
 let R:Dv (md ((p:Int) ^ j) (E_ (-h) u)) (md ((p:Int) ^ j) g):=by
  let c:Co (md p (E_ (-h) u)) (md p Q):=by rw [N];exact E _ _ O
  rw [m,show md ((p:Int) ^ j) g*md ((p:Int) ^ j) Q=md ((p:Int) ^ j) Q*md ((p:Int) ^ j) g by grind] at w;exact (P7 o j c).dv w
 let e:=Mn.same ((FF (-h) n.mn).map (hz _)) (k.mn.map (hz _)) R;have:=Zm.of_eq.mp (congrArg (λf=>Po.c f d) e);let this:(p:Int) ^ j∣(E_ (-h) u).c d - g.c d:=this;rw [P8 (-h) n.mn] at this;let en:(nR (d+1):Int)=((d+1:Nat):Int):=rfl;rw [en,Int.mul_neg] at this;rw [show u.c d - g.c d - ((d+1:Nat):Int)*h=u.c d + -(((d+1:Nat):Int)*h) - g.c d by omega];exact this
noncomputable def aq (x:Rat):Rat:=if 0<=x then x else -x
def aq0 (x:Rat):0<=aq x:=by unfold aq;split <;> ext
def QC {x:Rat} (h:x≠0):0<aq x:=by unfold aq;split <;> ext
def FG {x:Rat} (h:0<=x):aq x=x:=by unfold aq;rw [nC h]
def QD (x y:Rat):aq (x+y)<=aq x+aq y:=by unfold aq;split <;> split <;> split <;> ext
def IQ (x:Rat):aq (-x)=aq x:=by unfold aq;split <;> split <;> ext
def GN (x y:Rat):aq (x*y)=aq x*aq y:=by
 let b:∀ x y:Rat,0<=x->aq (x*y)=aq x*aq y:=λx y a=>by
  by_cases c:0<=y
  .rw [FG a,FG c,FG (Rat.mul_nonneg a c)]
  .let d:0<=x * -y:=Rat.mul_nonneg a ();rw [show x*y = -(x * -y) by ext,IQ,FG d,FG a,show aq y = -y by unfold aq;rw [nB c]]
 by_cases a:0<=x
 .exact b x y a
 .have:=b (-x) y ();rw [show -x*y = -(x*y) by ext,IQ,IQ] at this;exact this
theorem QE {f g:Nat->Rat}:∀ n,(∀ i,i<n->f i<=g i)->su n f<=su n g
 | 0,_=>by show (0:Rat)<=0;ext
 | n+1,h=>by
   let a:=QE n λi c=>h i `a;let b:=h n `a;show su n f+f n<=su n g+g n;ext
theorem QF (f:Nat->Rat):∀ n,aq (su n f)<=su n λi=>aq (f i)
 | 0=>by show aq (0:Rat)<=0;unfold aq;split <;> ext
 | n+1=>by
   let a:=QF f n;let b:=QD (su n f) (f n);show aq (su n f+f n)<=su n (λi=>aq (f i))+aq (f n);ext
theorem QG:∀ n:Nat,su n (λi=>(2:Rat) ^ i)=2 ^ n - 1
 | 0=>by show (0:Rat)=2 ^ 0 - 1;ext
 | n+1=>by show su n (λi=>(2:Rat) ^ i)+2 ^ n=2 ^ (n+1) - 1;rw [QG n];ext
theorem Js:∀ n:Nat,(0:Rat)<2 ^ n
 | 0=>by ext
 | n+1=>by have:=Js n;rw [show (2:Rat) ^ (n+1)=2 ^ n*2 by grind];ext
theorem GO {r:Rat} (h:0<=r):∀ n:Nat,0<=r ^ n
 | 0=>by ext
 | n+1=>by rw [show r ^ (n+1)=r ^ n*r by grind];exact Rat.mul_nonneg (GO h n) h
def QH {n:Nat} {A z:Nat->Rat} {C r:Rat} (v:0<=r) (k:A n≠0) (m:∀ i,i<n->2 ^ (n - i)*aq (A i)<=aq (A n)*r ^ (n - i)) (e:su (n+1) (λi=>A i*z i)=0) (o:0<C) (hz:∀ i,i<n->aq (z i)*r ^ (n - i)<=C):aq (z n)<C:=by
 let a:=QC k;let e:su n (λi=>A i*z i)+A n*z n=0:=e
 let p:aq (A n)*aq (z n)<=su n λi=>aq (A i*z i):=by
  rw [<-GN,show A n*z n = -(su n λi=>A i*z i) by ext,IQ];exact QF _ n
 let h:su n (λi=>2 ^ n*aq (A i*z i))<=su n λi=>aq (A n)*C*2 ^ i:=QE n λi j=>by
  let b:=Rat.mul_le_mul_of_nonneg_left (hz i j) (aq0 (A n));let c:=Rat.mul_le_mul_of_nonneg_right (m i j) (aq0 (z i))
  let d:2 ^ (n - i)*aq (A i)*aq (z i)<=aq (A n)*C:=by
   rw [show aq (A n)*r ^ (n - i)*aq (z i)=aq (A n)*(aq (z i)*r ^ (n - i)) by grind] at c;exact Rat.le_trans c b
  let f:=Rat.mul_le_mul_of_nonneg_left d (Rat.le_of_lt (Js i))
  let g:(2:Rat) ^ n=2 ^ i*2 ^ (n - i):=by
   have:n=i+(n - i):=by omega
   rw [<-Lean.Grind.Semiring.pow_add,<-this]
  rw [GN,g];ext
 rw [CU,CU,QG] at h;let q:=Rat.mul_le_mul_of_nonneg_left p (Rat.le_of_lt (Js n));let w:2 ^ n*(aq (A n)*aq (z n))<=aq (A n)*C*(2 ^ n - 1):=Rat.le_trans q h;let x:0<aq (A n)*C:=Rat.mul_pos a o;let u:(2 ^ n*aq (A n))*aq (z n)<(2 ^ n*aq (A n))*C:=by ext
 exact Rat.lt_of_mul_lt_mul_left u (Rat.le_of_lt (Rat.mul_pos (Js n) a))
theorem MB (F:Nat->Rat):∀ n,0<n->∃ i,i<n/\∀ j,j<n->F j<=F i
 | 1,_=>{0,`a,λj a=>by rw [show j=0 by omega];ext}
 | n+2,_=>by
   let {i,b,h}:=MB F (n+1) `a;by_cases q:F (n+1)<=F i
   .refine {i,`a,λj a=>?_};by_cases z:j=n+1
    .rw [z];exact q
    .exact h j `a
   .refine {n+1,`a,λj a=>?_};by_cases z:j=n+1
    .rw [z];ext
    .have:=h j `a;ext
def near {n m:Nat} {A B:Nat->Rat} {r t h:Rat} (E:0<r) (K:0<t) (O:A n≠0) (P:B m≠0)
  (Q:∀ i,i<n->2 ^ (n - i)*aq (A i)<=aq (A n)*r ^ (n - i)) (R:∀ i,i<m->2 ^ (m - i)*aq (B i)<=aq (B m)*t ^ (m - i))
  {z:Nat->Nat->Rat} (S:∀ j,su (n+1) (λk=>A k*z k j)=0) (T:∀ i,su (m+1) (λk=>B k*z i k)=0) (U:∀ i j,z i (j+1)=z (i+1) j+h*z i j)
  {i0 j0:Nat} (F:i0<n) (G:j0<m) (W:z i0 j0≠0):aq h<r+t:=by
 let D:=Rat.le_of_lt E;let o:=Rat.le_of_lt K;let {w,c}:∃ w:Nat->Nat->Rat,∀ i j,w i j=aq (z i j)*(r ^ (n - i)*t ^ (m - j)):={_,λ_ _=>rfl};let {J,p}:=Classical.axiomOfChoice λi=>MB (w i) m `a;let {a,ha,X}:=MB (λi=>w i (J i)) n `a;let {C,L}:∃ C,C=w a (J a):={1}
 let u:∀ i j,i<n->j<m->w i j<=C:=λi j b f=>by
  let x:=(p i).2 j f;let y:=X i b;rw [L];exact Rat.le_trans x y
 let M:∀ {x:Rat},0<x->∀ k:Nat,0<x ^ k:=λ{x} Y k=>by
  induction k with
  | zero=>ext
  | succ k H=>rw [show x ^ (k+1)=x ^ k*x by grind];exact Rat.mul_pos H Y
 let I:0<C:=by
  let x:=u i0 j0 F G;let y:0<w i0 j0:=by rw [c];exact Rat.mul_pos (QC W) (Rat.mul_pos (M E _) (M K _))
  ext
 let Z:∀ j,j<m->w n j<C:=λj f=>by
  have:=QH (z:=λi=>z i j*t ^ (m - j)) D O Q (by
   rw [Aj (g:=λi=>A i*z i j*t ^ (m - j)) _ λi _=>by ext,Ea,S];ext) I λi b=>by
   have:=u i j b f;rw [c] at this;rw [GN,FG (GO o _)];ext
  rw [GN,FG (GO o _)] at this;rw [c,DT];ext
 let lB:∀ i,i<n->w i m<C:=λi b=>by
  have:=QH (z:=λj=>z i j*r ^ (n - i)) o P R (by
   rw [Aj (g:=λj=>B j*z i j*r ^ (n - i)) _ λi _=>by ext,Ea,T];ext) I λj f=>by
   have:=u i j b f;rw [c] at this;rw [GN,FG (GO D _)];ext
  rw [GN,FG (GO D _)] at this;rw [c,DT];ext
 refine Classical.byContradiction λv=>?_;let v:r+t<=aq h:=by ext
 let d:∀ i j,i<n->j<m->w i j=C->C<=w (i+1) j:=λi j b f e=>by
  let x1:aq h*aq (z i j)<=aq (z i (j+1))+aq (z (i+1) j):=by
   have:=QD (z i (j+1)) (-(z (i+1) j));rw [IQ,show z i (j+1) + -z (i+1) j=h*z i j by rw [U];ext,GN] at this;exact this
  let k0:0<=r ^ (n - i)*t ^ (m - j):=Rat.mul_nonneg (GO D _) (GO o _);let N:=Rat.mul_le_mul_of_nonneg_right x1 k0
  let x3:aq h*C<=t*w i (j+1)+r*w (i+1) j:=by
   rw [<-e,c,c,c];let e1:t ^ (m - j)=t*t ^ (m - (j+1)):=by rw [show m - j=m - (j+1)+1 by omega];ext
   let e2:r ^ (n - i)=r*r ^ (n - (i+1)):=by rw [show n - i=n - (i+1)+1 by omega];ext
   rw [Rat.add_mul] at N;let y1:aq (z i (j+1))*(r ^ (n - i)*t ^ (m - j))=t*(aq (z i (j+1))*(r ^ (n - i)*t ^ (m - (j+1)))):=by rw [e1];ext
   let y2:aq (z (i+1) j)*(r ^ (n - i)*t ^ (m - j))=r*(aq (z (i+1) j)*(r ^ (n - (i+1))*t ^ (m - j))):=by rw [e2];ext
   rw [y1,y2] at N;ext
  let x4:=Rat.mul_le_mul_of_nonneg_right v (Rat.le_of_lt I)
  let x5:w i (j+1)<=C:=by
   by_cases q:j+1<m
   .exact u i _ b q
   .rw [show j+1=m by omega];exact Rat.le_of_lt (lB i b)
  let x6:=Rat.mul_le_mul_of_nonneg_left x5 o;let x7:r*C<=r*w (i+1) j:=by ext
  exact Rat.le_of_mul_le_mul_left x7 E
 let up:∀ k i,i+k+1=n->w i (J a)=C->False:=λk=>by
  induction k with
  | zero=>
    intro i b e;let x:=d i (J a) `a (p a).1 e;let y:=Z (J a) (p a).1;rw [show i+1=n by omega] at x;ext
  | succ k H=>
    intro i b e;let x:=d i (J a) `a (p a).1 e;let y:=u (i+1) (J a) `a (p a).1;exact H (i+1) `a ()
 exact up (n - a - 1) a `a L.symm
def fl_rat:Fl Rat:={{`b,λ{a b} e=>by
 by_cases z:a=0
 .exact .inl z
 .refine .inr ?_;have:b=a⁻¹*(a*b):=by rw [<-Rat.mul_assoc,DI a z];ext
  rw [this,e];ext},λa h=>{a⁻¹,DI a h}}
def tell {R:Type} [Lean.Grind.CommRing R] {G:Po R} {d:Nat} (h:Mn G (d+1)):∃ i:Po R->R,(∀ f g,i (f+g)=i f+i g)/\(∀ a f,i (num a*f)=a*i f)/\(∀ f,Dv G f->i f=0)/\i (X ^ d)=1:=by
 let {r,c}:=Classical.axiomOfChoice (show ∀ f:Po R,∃ r,Bn r (d+1)/\Dv G (f - r) from λf=>by
  let {q,r,e,b}:=h.div f;exact {r,b,q,by rw [e];ext})
 let j:∀ {r:Po R},Bn r (d+1)->Dv G r->r=0:=λ{r} b ⟨q,e⟩=>by
  have:=h.uniq (q:=q) (by rw [show q*G=r by rw [e];grind];exact b);rw [e,this];ext
 refine {λf=>(r f).c d,λf g=>?_,λa f=>?_,λf n=>?_,?_}
 .have:=j (r:=r (f+g) - (r f+r g)) ((c _).1.sub ((c f).1.add (c g).1)) (by
   have:=((c f).2.add (c g).2).sub (c (f+g)).2;rw [show f - r f+(g - r g) - (f+g - r (f+g))=r (f+g) - (r f+r g) by grind] at this;exact this)
  show (r (f+g)).c d=(r f).c d+(r g).c d;rw [<-C8,show r (f+g)=r f+r g by grind]
 .have:=j (r:=r (num a*f) - num a*r f) ((c _).1.sub (λk hk=>by rw [D_,(c f).1 k hk];ext)) (by
   have:=((c f).2.mulL (num a)).sub (c (num a*f)).2;rw [show num a*(f - r f) - (num a*f - r (num a*f))=r (num a*f) - num a*r f by grind] at this;exact this)
  show (r (num a*f)).c d=a*(r f).c d;rw [<-D_,show r (num a*f)=num a*r f by grind]
 .have:=j (r:=r f) (c f).1 (by
   have:=n.sub (c f).2;rw [show f - (f - r f)=r f by grind] at this;exact this)
  show (r f).c d=0;rw [this,CI]
 .let m:=cK (R:=R) d;have:=j (r:=X ^ d - r (X ^ d)) (m.bn.sub (c _).1) (c _).2;show (r (X ^ d)).c d=1;rw [show r (X ^ d)=X ^ d by ext,m.top]
theorem MC {R:Type} [Lean.Grind.CommRing R] {b:Po R->R} (a:∀ f g,b (f+g)=b f+b g) (c:∀ a f,b (num a*f)=a*b f) (x:Nat->R) (F:Nat->Po R):∀ n,b (su n λi=>num (x i)*F i)=su n λi=>x i*b (F i)
 | 0=>by
   have:=c 0 0;rw [show num (0:R)*0=0 by grind] at this;show b 0=0;rw [this];ext
 | n+1=>by
   show b (su n _+num (x n)*F n)=su n _+x n*b (F n);rw [a,c,MC a c x F n]
def hmQ:Hm (λn:Int=>(n:Rat)):={λa b=>Rat.intCast_add a b,λa b=>Rat.intCast_mul a b,2}
noncomputable def AU (f:Po Int):Po Rat:=mp hmQ f
def toQP_hm:Hm AU:=Ly hmQ
def MD (z:Int):aq (z:Rat)=((z.natAbs:Int):Rat):=by
 unfold aq;by_cases h:0<=z
 .rw [nC (Rat.intCast_nonneg.mpr h),Int.natAbs_of_nonneg h]
 .rw [nB (λw=>h (Rat.intCast_nonneg.mp w)),show ((z.natAbs:Nat):Int) = -z by omega,Rat.intCast_neg]
def QJ {a b:Int} {r k:Nat} (h:2 ^ k*a.natAbs<=b.natAbs*r ^ k):(2:Rat) ^ k*aq (a:Rat)<=aq (b:Rat)*((r:Int):Rat) ^ k:=by
 rw [MD,MD]
 let e:((2:Int) ^ k*(a.natAbs:Int))<=(b.natAbs:Int)*(r:Int) ^ k:=by
  have:=Int.ofNat_le.mpr h;push_cast at this;exact this
 have:=Rat.intCast_le_intCast.mpr e;let c:=hmQ.pow 2 k;let d:=hmQ.pow (r:Int) k;rw [hmQ.mul,hmQ.mul] at this;let c:(((2:Int) ^ k:Int):Rat)=((2:Int):Rat) ^ k:=c;let d:(((r:Int) ^ k:Int):Rat)=((r:Int):Rat) ^ k:=d;rw [c,d] at this;exact this
def YF {A B:Po Int} {n m r t d:Nat} {h:Int} (E:Bn A (n+1)) (v:Bn B (m+1)) (F:A.c n≠0) (H:B.c m≠0) (Q:0<r) (R:0<t)
  (L:∀ i,i<n->2 ^ (n - i)*(A.c i).natAbs<=(A.c n).natAbs*r ^ (n - i)) (M:∀ i,i<m->2 ^ (m - i)*(B.c i).natAbs<=(B.c m).natAbs*t ^ (m - i))
  {G:Po Rat} (x:Mn G (d+1)) (I:Dv G (AU A)) (J:Dv G (E_ (h:Rat) (AU B))):h.natAbs<r+t:=by
 let {a,y,C,K,N}:=tell x;let c:∀ {f:Po Int} {k:Nat},Bn f k->Bn (AU f) k:=λh=>h.map hmQ;let p:∀ {z:Int},z≠0->(z:Rat)≠0:=λhz w=>hz (Df.mp w)
 let O:d<n:=by
  let {q,e}:=I;refine Classical.byContradiction λz=>?_
  let u:=x.uniq (q:=q) (by
   rw [show q*G=AU A by rw [e];grind];exact (c E).mono `a)
  have:(AU A).c n=0:=by rw [e,u,show G*0=0 by ext,CI]
  exact p F this
 let P:0<m:=by
  refine Classical.byContradiction λz=>?_;let {q,e}:=J;let b:=MA (h:Rat) (c v)
  let u:=x.uniq (q:=q) (by
   rw [show q*G=E_ (h:Rat) (AU B) by rw [e];grind];exact b.mono `a)
  have:(E_ (h:Rat) (AU B)).c m=0:=by rw [e,u,show G*0=0 by ext,CI]
  rw [IP (h:Rat) (c v)] at this;exact p H this
 let o:=near (n:=n) (m:=m) (A:=λi=>((A.c i:Int):Rat)) (B:=λi=>((B.c i:Int):Rat)) (r:=((r:Int):Rat)) (t:=((t:Int):Rat)) (h:=(h:Rat))
  (Rat.intCast_pos.mpr `a) (Rat.intCast_pos.mpr `a) (p F) (p H) (λi D=>QJ (L i D)) (λi D=>QJ (M i D))
  (z:=λi j=>a (X ^ i*(X+num (h:Rat)) ^ j)) (λj=>by
   rw [<-MC y C (λk=>((A.c k:Int):Rat)) (λk=>X ^ k*(X+num (h:Rat)) ^ j)];refine K _ ?_
   rw [Aj (g:=λk=>num ((AU A).c k)*X ^ k*(X+num (h:Rat)) ^ j) (n+1) λk _=>by
    show num ((AU A).c k)*_=_;ext,Ea,<-L9 (c E)]
   exact I.mulR _) (λi=>by
   rw [<-MC y C (λk=>((B.c k:Int):Rat)) (λk=>X ^ i*(X+num (h:Rat)) ^ k)];refine K _ ?_
   rw [Aj (g:=λk=>num ((AU B).c k)*(X+num (h:Rat)) ^ k*X ^ i) (m+1) λk _=>by
    show num ((AU B).c k)*_=_;ext,Ea,<-HJ (h:Rat) (c v)]
   exact J.mulR _) (λi j=>by
   show a (X ^ i*(X+num (h:Rat)) ^ (j+1))=a (X ^ (i+1)*(X+num (h:Rat)) ^ j)+(h:Rat)*a (X ^ i*(X+num (h:Rat)) ^ j);rw [<-C,<-y];exact congrArg a ()) (i0:=d) (j0:=0) O P (by
   show a (X ^ d*(X+num (h:Rat)) ^ 0)≠0;rw [show X ^ d*(X+num (h:Rat)) ^ 0=X ^ d by ext,N];decide)
 rw [MD,<-Rat.intCast_add] at o;have:=Rat.intCast_lt_intCast.mp o;omega
end Bs
namespace Bs
open PySem
noncomputable def GP (K:W.Frag):Addr:=match W.nsIn K PySem.mainGlobals "EXPONENTS" with | some (↥a)=>a | _=>0
end Bs
namespace Bs
open PySem L2
abbrev eC (Q:VK):Ends:={ nx:=λ_ h=>Q .non h,rt:=Q }
noncomputable def ae (f:Nat->Rat) (n:Nat) (x:Rat):Nat->Rat
 | 0=>0
 | d+1=>f (n - 1 - d)+x*ae f n x d
noncomputable def sy (c:Int) (R:dh) (n:Nat):dh
 | 0=>R (n - 1)
 | d+1=>R (n - 1 - (d+1))+c*sy c R n d
noncomputable def rnd (c:Int) (R:dh) (n first:Nat) (j:Nat):Int:=if j<first then R j else sy c R n (n - 1 - j)
noncomputable def Y_ (R:dh) (k:Nat):Rat:=(R k:Rat)
theorem QK {c:Int} {R:dh} {n first:Nat} {y:Rat}:∀ d,d+1+first<=n->ae (Y_ R) n y (d+1)=(sy c R n d:Rat)+(y - c)*ae (Y_ (rnd c R n first)) n y d
 | 0,_=>by show (R (n - 1 - 0):Rat)+y*0=(R (n - 1):Rat)+(y - c)*0;rw [D1];ext
 | d+1,h=>by
   show (R (n - 1 - (d+1)):Rat)+y*ae (Y_ R) n y (d+1)=((R (n - 1 - (d+1))+c*sy c R n d:Int):Rat)+(y - c)*((rnd c R n first (n - 1 - d):Rat)+y*ae (Y_ (rnd c R n first)) n y d);rw [QK (c:=c) (first:=first) d `a]
   let e:rnd c R n first (n - 1 - d)=sy c R n d:=by
    unfold rnd;rw [nB `a,show n - 1 - (n - 1 - d)=d by omega]
   rw [e];push_cast;ext
noncomputable def mx (R:dh) (n:Nat) (y c:Rat):Nat->Nat->Rat
 | 0,lo=>ae (Y_ R) n y (n - lo)
 | t+1,lo=>(R lo:Rat)+(y - c)*mx R n y c t (lo+1)
theorem QL {c:Int} {R:dh} {n first:Nat} {y:Rat} (a:first+1<=n):∀ t lo,lo+t=first->mx R n y c t lo=mx (rnd c R n first) n y c (t+1) lo
 | 0,lo,h=>by
   show ae (Y_ R) n y (n - lo)=(rnd c R n first lo:Rat)+(y - c)*ae (Y_ (rnd c R n first)) n y (n - (lo+1));let e:rnd c R n first lo=sy c R n (n - 1 - lo):=by unfold rnd;rw [nB `a]
   rw [e,show n - lo=(n - 1 - lo)+1 by omega,show n - (lo+1)=n - 1 - lo by omega];exact QK _ `a
 | t+1,lo,h=>by
   show (R lo:Rat)+(y - c)*mx R n y c t (lo+1)=(rnd c R n first lo:Rat)+(y - c)*mx (rnd c R n first) n y c (t+1) (lo+1);let e:rnd c R n first lo=R lo:=by unfold rnd;rw [nC `a]
   rw [e,QL a t (lo+1) `a]
theorem QM {R:dh} {n:Nat} {y c:Rat}:∀ t lo,lo+t+1=n->mx R n y c t lo=ae (Y_ R) n (y - c) (n - lo)
 | 0,lo,h=>by
   show ae (Y_ R) n y (n - lo)=_;rw [show n - lo=0+1 by omega];show Y_ R (n - 1 - 0)+y*0=Y_ R (n - 1 - 0)+(y - c)*0;ext
 | t+1,lo,h=>by
   show (R lo:Rat)+(y - c)*mx R n y c t (lo+1)=_;rw [QM t (lo+1) `a,show n - lo=(n - (lo+1))+1 by omega];show _=Y_ R (n - 1 - (n - (lo+1)))+_;rw [show n - 1 - (n - (lo+1))=lo by omega];rfl
noncomputable def U_ (c:Int) (R:dh) (n:Nat):Nat->dh
 | 0=>R
 | i+1=>rnd c (U_ c R n i) n i
theorem QN {c:Int} {R:dh} {n:Nat} {y:Rat}:∀ i,i+1<=n->mx (U_ c R n i) n y c i 0=ae (Y_ R) n y n
 | 0,_=>rfl
 | i+1,h=>by
   rw [<-QN i `a];exact (QL `a i 0 `a).symm
def YG {c:Int} {R:dh} {n:Nat} {y:Rat} (a:1<=n):ae (Y_ (U_ c R n (n - 1))) n y n=ae (Y_ R) n (y+c) n:=by
 let h:=QN (c:=c) (R:=R) (n:=n) (y:=y+c) (n - 1) `a;rw [QM (n - 1) 0 `a] at h;rw [<-h,D1];congr 1;ext
abbrev Nm (H:Hp) (p:Addr) (t d:Int):Prop:=H p&&&[.int t,.int d]
def GQ (_:W.Frag):Sp:=λc H Q _=>∃ a b:Int,c=[.int a,.int b]/\Q (.int ((Int.gcd a b:Nat):Int)) H
def Jt (K:W.Frag):Sp:=λc H Q _=>∃ (a:Addr) (b:cY),c=[.ref a]/\SqL K H a (~~~b)/\@b<=63/\∀ d,Q (.bl true) d
inductive ME(K:W.Frag)(a:cW)(H:Hp)(Q:VK)(E:XK):Prop
 |mk(x n:Int)(b:Nat):a=[.int x,.int n]->0<=n->Bd b x->b*n.toNat+1<=200000->Q (.int (x ^ n.toNat)) H->ME K a H Q E
noncomputable def Al (n:Nat) (f:dh):cW:=((List.range n).map f).map V.int
noncomputable def DO (ns:cY):Nat->Nat
 | 0=>0
 | m+1=>if ns.getD m 1=0 then DO ns m else m+1
noncomputable def C9 (ns:cY):cY:=ns.take (DO ns @ns)
inductive HK(K:W.Frag)(b:cW)(H:Hp)(Q:VK)(E:XK):Prop
 |mk(p:Addr)(a:cY):b=[.ref p]->H p^^^(~~~a)->(∀ r,H r=none->Q (.ref r) (upd H r (.lst ((C9 a).map V.int))))->HK K b H Q E
def Tz (ns:cY):Prop:=ns=[]\/co ns (@ns - 1)≠0
noncomputable def SDs (H:Hp):cW->List (cY)->Prop
 | [],[]=>True
 | x::a,r::b=>(∃ p,x=.ref p/\H p^^^(~~~r))/\SDs H a b
 | _,_=>False
def SD (H:Hp) (p:Addr) (b:List (cY)):Prop:=∃ a,H p^^^a/\SDs H a b
def MG (_:W.Frag):Sp:=λe H Q _=>∃ (p:Addr) (a:cY) (b:Int),e=[.ref p,.int b]/\H p^^^(~~~a)/\@a<=1000/\∀ (g:Int) (c:Hp),Same H c->0<=g->g∣b->(∀ z∈a,g∣z)->(∀ d:Int,d∣b->(∀ z∈a,d∣z)->d∣g)->Q (.int g) c
def MH (_:W.Frag):Sp:=λb H Q _=>∃ (p:Addr) (a:cY) (g:Int),b=[.ref p,.int g]/\H p^^^(~~~a)/\(0<g\/a=[])/\@a<=1000/\∀ r,H r=none->Q (.ref r) (upd H r (.lst ((a.map (·/ g)).map V.int)))
inductive Fn(K:W.Frag)(e:cW)(H:Hp)(Q:VK)(E:XK):Prop
 |mk(p q:Addr)(a b:cY)(f w:Int)(s:Nat):e=[.ref p,.int f,.ref q,.int w,.int (s:Int)]->H p^^^(~~~a)->H q^^^(~~~b)->@a<=1000->s+@b<=1000->Bd 60000000 f->Bd 60000000 w->(∀ z∈a,Bd 60000000 z)->(∀ z∈b,Bd 60000000 z)->(∀ (r:Addr) (c:cY) (d:Hp),Same H d->d r^^^(~~~c)->Tz c->(∀ k,co c k=f*co a k - w*Aw s (co b) k)->Q (.ref r) d)->Fn K e H Q E
inductive IR(K:W.Frag)(g:cW)(H:Hp)(Q:VK)(E:XK):Prop
 |mk(p q:Addr)(a c:cY)(b d:Nat):g=[.ref p,.ref q]->H p^^^(~~~a)->H q^^^(~~~c)->Lz c->(∀ z∈a,Bd b z)->(∀ z∈c,Bd d z)->b+@a*(d+1)<=60000000->d<=60000000->@a<=1000->@c<=1000->((¬ ∃ A:cY,∀ k,co a k=cvL A (co c) k)->∀ e,Same H e->Q .non e)->(∀ (r:Addr) (f:cY) (e:Hp),Same H e->e r^^^(~~~f)->@f=@a+1 - @c->(∀ k,co a k=cvL f (co c) k)->Q (.ref r) e)->IR K g H Q E
def Sh (b a:List (cY)):Prop:=∃ g:Int,0<g/\b=a.map (·.map (g*·))
def YH (a:List (cY)):Prop:=(∀ r∈a,r=[])\/∀ d:Int,(∀ r∈a,∀ z∈r,d∣z)->d.natAbs=1
def Ju (_:W.Frag):Sp:=λd H Q _=>∃ (p:Addr) (b:List (cY)),d=[.ref p]/\SD H p b/\@b<=1000/\(∀ r∈b,@r<=1000/\Tz r)/\
 ∀ (t:Addr) (a:List (cY)) (c:Hp),Same H c->SD c t a->Sh b a->YH a->Q (.ref t) c
inductive HL(K:W.Frag)(d:cW)(H:Hp)(Q:VK)(E:XK):Prop
 |mk(p:Addr)(a:cY):d=[.ref p]->H p^^^(~~~a)->@a<=1000->Tz a->(∀ (t:Addr) (b:cY) (g:Int) (c:Hp),Same H c->c t^^^(~~~b)->0<g->a=b.map (g*·)->(a=[]\/Prim b)->Q (.ref t) c)->HL K d H Q E
inductive MI(K:W.Frag)(b:cW)(H:Hp)(Q:VK)(E:XK):Prop
 |mk(p q:Addr)(o:cY):b=[.ref p,.ref q]->SD H p [[]]->SD H q [o]->0<@o->(∀ (t:Addr) (a:Hp),Same H a->SD a t [[]]->Q (.ref t) a)->MI K b H Q E
inductive Jv(K:W.Frag)(b:cW)(H:Hp)(Q:VK)(E:XK):Prop
 |mk(p q:Addr)(s o:cY):b=[.ref p,.ref q]->SD H p [s]->SD H q [o]->(s=[]\/o=[])->(∀ (t:Addr) (a:Hp),Same H a->SD a t [if o=[] then s else o]->Q (.ref t) a)->Jv K b H Q E
inductive HM(K:W.Frag)(b:cW)(H:Hp)(Q:VK)(E:XK):Prop
 |mk(a p:Int):b=[.int a,.int p]->2<=p->Bd 45000 p->(∀ r:Int,0<=r->r<p->(Int.gcd a p=1->p∣r*a - 1)->Q (.int r) H)->HM K b H Q E
inductive Jw(K:W.Frag)(b:cW)(H:Hp)(Q:VK)(E:XK):Prop
 |mk(p:Addr)(a:cY)(m:Int):b=[.ref p,.int m]->H p^^^(~~~a)->0<m->@a<=1000->(∀ r,H r=none->Q (.ref r) (upd H r (.lst ((a.map (·% m)).map V.int))))->Jw K b H Q E
def Md (m:Int) (a:cY) (f:dh):Prop:=(∀ z∈a,0<=z/\z<m)/\∀ k,m∣co a k - f k
inductive FH(K:W.Frag)(d:cW)(H:Hp)(Q:VK)(E:XK):Prop
 |mk(p:Addr)(a:cY)(m:Int):d=[.ref p,.int m]->H p^^^(~~~a)->0<m->@a<=1000->(∀ (r:Addr) (b:cY) (c:Hp),Same H c->c r^^^(~~~b)->Tz b->@b<=@a->Md m b (co a)->Q (.ref r) c)->FH K d H Q E
inductive Fo(K:W.Frag)(d:cW)(H:Hp)(Q:VK)(E:XK):Prop
 |mk(q:Addr)(a:cY)(p:Nat):d=[.ref q,.int (p:Int)]->H q^^^(~~~a)->2<=p->Bd 45000 (p:Int)->@a<=1000->(∀ z∈a,Bd 60000000 z)->(a≠[]->Int.gcd (co a (@a - 1)) (p:Int)=1)->(∀ (r:Addr) (b:cY) (f:Int) (c:Hp),Same H c->c r^^^(~~~b)->@b=@a->(a≠[]->co b (@b - 1)=1)->Md (p:Int) b (λk=>f*co a k)->Q (.ref r) c)->Fo K d H Q E
inductive GR(K:W.Frag)(g:cW)(H:Hp)(Q:VK)(E:XK):Prop
 |mk(p q:Addr)(f a:cY)(m:Int)(b:Nat):g=[.ref p,.ref q,.int m]->H p^^^(~~~f)->H q^^^(~~~a)->0<@a->co a (@a - 1)=1->0<m->Bd b m->(∀ z∈a,Bd b z)->b<=60000000->@f<=5000->@a<=1000->(∀ (t r s:Addr) (d e:cY) (c:Hp),Same H c->c t&&&[.ref r,.ref s]->c r^^^(~~~d)->c s^^^(~~~e)->Tz d->Tz e->@e<@a->Md m e (λk=>co f k - cvL d (co a) k)->(∀ z∈d,0<=z/\z<m)->Q (.ref t) c)->GR K g H Q E
inductive Ex(K:W.Frag)(f:cW)(H:Hp)(Q:VK)(E:XK):Prop
 |mk(p q:Addr)(d a:cY)(m:Int)(b:Nat):f=[.ref p,.ref q,.int m]->H p^^^(~~~d)->H q^^^(~~~a)->0<@a->co a (@a - 1)=1->0<m->Bd b m->(∀ z∈a,Bd b z)->b<=60000000->@d<=5000->@a<=1000->(∀ (s:Addr) (g c:cY) (e:Hp),Same H e->e s^^^(~~~c)->Tz c->@c<@a->Md m c (λk=>co d k - cvL g (co a) k)->Q (.ref s) e)->Ex K f H Q E
inductive IS(K:W.Frag)(h:cW)(H:Hp)(Q:VK)(E:XK):Prop
 |mk(a b:Addr)(d e:cY)(p:Nat):h=[.ref a,.ref b,.int (p:Int)]->H a^^^(~~~d)->H b^^^(~~~e)->Pr p->Bd 45000 (p:Int)->@d<=1000->@e<=1000->((∃ k,¬ (p:Int)∣co d k)\/∃ k,¬ (p:Int)∣co e k)->(∀ (s:Addr) (c:cY) (f:Hp),Same H f->f s^^^(~~~c)->0<@c->@c<=1000->co c (@c - 1)=1->(∀ z∈c,0<=z/\z<(p:Int))->(∀ g:dh,Dm (p:Int) g (co d)->Dm (p:Int) g (co e)->Dm (p:Int) g (co c))->Dm (p:Int) (co c) (co d)->Dm (p:Int) (co c) (co e)->Q (.ref s) f)->IS K h H Q E
inductive Jx(K:W.Frag)(a:cW)(H:Hp)(Q:VK)(E:XK):Prop
 |mk(w p:Int):a=[.int w,.int p]->0<p->(∀ r:Int,p∣r - w->2*r.natAbs<=p.natAbs->Q (.int r) H)->Jx K a H Q E
def QO (d n c p:Nat):Prop:=2 ^ ((d+n*(2*c+4)+c+2)*(2*(n - 1)))<p
inductive MJ(K:W.Frag)(i:cW)(H:Hp)(Q:VK)(E:XK):Prop
 |mk(a b:Addr)(e f:cY)(p d n c:Nat):i=[.ref a,.ref b,.int (p:Int)]->H a^^^(~~~e)->H b^^^(~~~f)->Pr p->Bd 45000 (p:Int)->Lz e->Lz f->(∀ z∈e,Bd d z)->(∀ z∈f,Bd d z)->d+@e*45001<=1000000->d+@f*45001<=1000000->@e<=n->@f<=n->n<2 ^ c->2<=n->(¬ QO d n c p->∀ g,Same H g->Q .non g)->(∀ (s:Addr) (h:cY) (g:Hp),Same H g->g s^^^(~~~h)->RC (co e) (co f) h->Prim h->Q (.ref s) g)->MJ K i H Q E
inductive Jy(K:W.Frag)(i:cW)(H:Hp)(Q:VK)(E:XK):Prop
 |mk(a b:Addr)(e f:cY)(d n c:Nat):i=[.ref a,.ref b]->H a^^^(~~~e)->H b^^^(~~~f)->Tz e->Tz f->(∀ z∈e,Bd d z)->(∀ z∈f,Bd d z)->@e<=n->@f<=n->n<=20->2<=n->n<2 ^ c->(d+n*(2*c+4)+c+2)*(2*(n - 1))<=44490->((e=[]\/f=[])->2*3 ^ (@e+@f)*(d+1)<=60000000)->(∀ (s:Addr) (g:cY) (h:Hp),Same H h->h s^^^(~~~g)->((e≠[]\/f≠[])->RC (co e) (co f) g/\Prim g)->(e=[]->f=[]->g=[])->Q (.ref s) h)->Jy K i H Q E
structure Gq (b c:Nat) (l:cU):Prop where
 low:D5 l
 nz:Nz l
 ov:∃ M,Ov l M/\Bd c M/\∀ z∈aY l M,Bd b z
noncomputable def S_ (g:cY):cU:=g.map λn=>AW n (co g (@g - 1))
def YI (_:W.Frag):Sp:=λc H Q _=>∃ a b:Int,c=[.int a,.int b]/\b≠0/\∀ (p:Addr),H p=none->Q (.ref p) (upd H p (.tup [.int (AW a b).1,.int (AW a b).2]))
def Jz (_:W.Frag):Sp:=λd H Q _=>∃ (p:Addr) (c:cW) (l:cU) (M:Int),d=[.ref p]/\H p&&&c/\Nums H c l/\D5 l/\Ov l M/\Bd 400000 M/\(∀ q∈l,Bd 60000000 q.1)/\@l<=1000/\
 ∀ (r a:Addr) (b:Hp),Same H b->b r&&&[.ref a,.int (DM l)]->b a^^^((BI l).map V.int)->Q (.ref r) b
inductive GS(K:W.Frag)(f:cW)(H:Hp)(Q:VK)(E:XK):Prop
 |mk(p q:Addr)(a c:cY)(b d:Nat):f=[.ref p,.ref q]->H p^^^(~~~a)->H q^^^(~~~c)->(∀ z∈a,Bd b z)->(∀ z∈c,Bd d z)->b<=900000->d<=900000->@a<=100->@c<=100->(∀ (r:Addr) (e:Hp),Same H e->e r^^^((if @a=0\/@c=0 then [] else (List.range (@a+@c - 1)).map λk=>ps a c @a k).map V.int)->Q (.ref r) e)->GS K f H Q E
noncomputable def rw' (l:cU):List Rat:=(List.range @l).map (bN l)
def Hand (H:Hp) (p a:Addr) (n:Int):Prop:=∃ (b:cY) (x y z:Int),H p^^^[.ref a,.int x,.int y,.int z]/\H a^^^(~~~b)/\@b<=1000/\a≠p/\0<=x/\x<=n/\0<=y
def MK (K:W.Frag):Sp:=λd H Q _=>∃ (s:Addr) (c:cY),d=[.ref s]/\SqL K H s (~~~c)/\@c<=63/\∀ (p a:Addr) (b:Hp),H p=none->Kp p H b->Hand b p a 0->Q (.ref p) b
inductive Bv(K:W.Frag)(c:cW)(H:Hp)(Q:VK)(E:XK):Prop
 |mk(p a:Addr)(m n:Int):c=[.ref p,.int m]->Hand H p a n->n<=100000->0<m->m<=200000->(∀ (d:Int) (b:Hp),0<=d->d<m->Hand b p a (n+2)->Kp p H b->Q (.int d) b)->Bv K c H Q E
abbrev IT:=YI
inductive J0(K:W.Frag)(e:cW)(H:Hp)(Q:VK)(E:XK):Prop
 |mk(p q:Addr)(a b:cY)(n m:Nat):e=[.ref p,.ref q]->H p^^^(~~~a)->H q^^^(~~~b)->0<@a->0<@b->@a<=20->@b<=20->(∀ z∈a,Bd n z)->(∀ z∈b,Bd m z)->n<=1000->m<=1000->(∀ (r:Addr) (c:cY) (d:Hp),Same H d->H r=none->d r^^^(~~~c)->@c=@a+@b - 1->(Lz a->Lz b->Lz c)->(∀ k,co c k=ps a b @a k)->Q (.ref r) d)->J0 K e H Q E
def J1 (_:W.Frag):Sp:=λb H Q _=>∃ (p q:Addr) (a:cY) (t d:Int),b=[.ref p,.ref q]/\H p^^^(~~~a)/\Nm H q t d/\d≠0/\Bd 1000 t/\(∀ z∈a,Bd 1000 z)/\@a<=1000/\Pj H Q (a.map λn=>AW (n*t) d)
def J2 (_:W.Frag):Sp:=λc H Q _=>∃ (p a:Addr) (n:Int),c=[.ref p]/\Hand H p a n/\n<=90000/\
 ∀ (r:Addr) (t d:Int) (b:Hp),Nm b r t d->Low t d->t≠0->t.natAbs<=9->Bd 4 d->Hand b p a (n+6)->Kp p H b->Q (.ref r) b
noncomputable def dI (ns:cY):cY:=(List.range (@ns - 1)).map λk=>((k+1:Nat):Int)*co ns (k+1)
def J3 (_:W.Frag):Sp:=λd H Q _=>∃ (p:Addr) (a:cY) (b:Nat),d=[.ref p]/\H p^^^(~~~a)/\@a<=100/\(∀ z∈a,Bd b z)/\b<=100000/\∀ (r:Addr) (c:Hp),Same H c->c r^^^((dI a).map V.int)->Q (.ref r) c
def IU (_:W.Frag):Sp:=λb H Q _=>∃ (p:Addr) (a:cY),b=[.ref p]/\H p^^^(~~~a)/\Lz a/\@a<=1000/\Pj H Q (S_ a)
noncomputable def lst' (l:cY):Int:=co l (@l - 1)
inductive ML(K:W.Frag)(a:cW)(H:Hp)(Q:VK)(E:XK):Prop
 |mk(n:Nat):a=[.int (n:Int)]->n<=1000000->(∀ b:Bool,(b=true↔Pr n)->Q (.bl b) H)->ML K a H Q E
inductive IV(K:W.Frag)(a:cW)(H:Hp)(Q:VK)(E:XK):Prop
 |mk(n g:Nat):a=[.int (n:Int)]->Pr g->n<g->g<=4000->(∀ r:Nat,Pr r->n<r->r<=g->Q (.int (r:Int)) H)->IV K a H Q E
inductive J4(K:W.Frag)(d:cW)(H:Hp)(Q:VK)(E:XK):Prop
 |mk(a:Addr)(b:cY):d=[.ref a]->H a^^^(~~~b)->Lz b->@b<=9->(∀ z∈b,Bd 148 z)->0<lst' b->(∀ (e:Int) (c:Hp),Same H c->e<=200->(∀ i,i+1<@b->2 ^ (@b - 1 - i)*(co b i).natAbs<=(lst' b).natAbs*2 ^ ((@b - 1 - i)*e.toNat))->Q (.int e) c)->J4 K d H Q E
noncomputable def en (L:List (cY)) (i j:Nat):Int:=co (L.getD i []) j
def Rect (L:List (cY)) (n w:Nat):Prop:=@L=n/\∀ r∈L,@r=w
noncomputable def iN (os:List Nat):cW:=os.map λi:Nat=>V.int (i:Int)
noncomputable def nth (os:List Nat) (i:Nat):Nat:=os.getD i 0
def a_ (p:Int) (L:List (cY)):Prop:=∀ r∈L,∀ z∈r,0<=z/\z<p
inductive J5(K:W.Frag)(d:cW)(H:Hp)(Q:VK)(E:XK):Prop
 |mk(a:Addr)(b:cW)(i j:Nat):d=[.ref a,.int (i:Int),.int (j:Int)]->H a^^^b->i<@b->j<@b->@b<=1000->(∀ (r:Addr) (c:cW),H r=none->@c=@b->(∀ k,k<@b->c[k]?=b[tw i j k]?)->Q (.ref r) (upd H r (.lst c)))->J5 K d H Q E
inductive J6(K:W.Frag)(h:cW)(H:Hp)(Q:VK)(E:XK):Prop
 |mk(a b:Addr)(d e:cY)(n c:Nat)(p:Int):h=[.ref a,.ref b,.int (c:Int),.int p]->H a^^^(~~~d)->H b^^^(~~~e)->@d=n->@e=n->n<=1000->c<n->0<p->Bd 45000 p->(∀ z∈d,0<=z/\z<p)->(∀ z∈e,0<=z/\z<p)->(∀ (r:Addr) (f:cY) (g:Hp),Same H g->(r=a\/H r=none)->g r^^^(~~~f)->@f=n->(∀ z∈f,0<=z/\z<p)->(∀ j,j<n->Zm.of p (co f j)=Zm.of p (co d j) - Zm.of p (co d c)*Zm.of p (co e j))->Q (.ref r) g)->J6 K h H Q E
structure Rdc (p:Int) (L:List (cY)) (n w:Nat) (LL:List (cY)) (os cs:List Nat):Prop where
 rc:Rect LL @os w
 lc:@cs=@os
 ip:a_ p LL
 ri:∃ (o c:Nat->Nat) (u l:Nat->Nat->Zm p),RE n w (λi j=>Zm.of p (en L i j)) w @os o c u l/\(∀ i,i<@os->nth os i=o i)/\(∀ i,i<@os->nth cs i=c i)/\∀ i,i<@os->∀ j,j<w->l i j=Zm.of p (en LL i j)
inductive MM(K:W.Frag)(e:cW)(H:Hp)(Q:VK)(E:XK):Prop
 |mk(a:Addr)(L:List (cY))(n w p:Nat):e=[.ref a,.int (p:Int)]->SD H a L->Rect L n w->n<=100->w<=100->Pr p->Bd 45000 (p:Int)->(∀ (r x y z:Addr) (c:List (cY)) (os d:List Nat) (b:Hp),Same H b->b r&&&[.ref x,.ref y,.ref z]->SD b x c->b y^^^(iN os)->b z^^^(iN d)->Rdc (p:Int) L n w c os d->Q (.ref r) b)->MM K e H Q E
inductive MN(K:W.Frag)(b:cW)(H:Hp)(Q:VK)(E:XK):Prop
 |mk(a:Addr)(L:List (cY))(n w:Nat):b=[.ref a]->SD H a L->Rect L n w->(n=0->w=0)->Q (.int (w:Int)) H->MN K b H Q E
inductive MO(K:W.Frag)(b:cW)(H:Hp)(Q:VK)(E:XK):Prop
 |mk(a:Addr)(L:List (cY))(n w j:Nat):b=[.ref a,.int (j:Int)]->SD H a L->Rect L n w->n<=1000->j<w->(∀ r,H r=none->Q (.ref r) (upd H r (.lst ((L.map λl=>co l j).map V.int))))->MO K b H Q E
inductive MP(K:W.Frag)(d:cW)(H:Hp)(Q:VK)(E:XK):Prop
 |mk(a:Addr)(L:List (cY))(n w:Nat):d=[.ref a]->SD H a L->Rect L n w->(n=0->w=0)->n<=1000->w<=1000->(∀ (r:Addr) (b:List (cY)) (c:Hp),Same H c->SD c r b->Rect b w n->(∀ i,i<n->∀ j,j<w->en b j i=en L i j)->(∀ P:Int->Prop,(∀ l∈L,∀ z∈l,P z)->∀ l∈b,∀ z∈l,P z)->Q (.ref r) c)->MP K d H Q E
noncomputable def aR:cY->Rat->Rat
 | [],_=>0
 | a::l,x=>(a:Rat)+x*aR l x
inductive MR(K:W.Frag)(g:cW)(H:Hp)(Q:VK)(E:XK):Prop
 |mk(p:Addr)(a:cY)(c:Int)(b:Nat):g=[.ref p,.int c]->H p^^^(~~~a)->@a<=20->(Bd 60 c\/(∀ z∈a,Bd b z)/\b<=20000/\Bd 1000 c)->(∀ (r:Addr) (d:cY) (e:Hp),Same H e->H r=none->e r^^^(~~~d)->@d=@a->(∀ y:Rat,aR d y=aR a (y+(c:Rat)))->(∀ f,(∀ z∈a,Bd f z)->Bd 1000 c->∀ z∈d,Bd (f+1001*@a*@a) z)->Q (.ref r) e)->MR K g H Q E
section
open Po
noncomputable def ro (l:cY):Po Int:={co l,@l,λ_ hk=>AX hk}
noncomputable def mr (m:Int) (l:cY):Po (Zm m):=md m (ro l)
structure Mp (p:Int) (l:cY):Prop where
 pos:0<@l
 top:co l (@l - 1)=1
 rg:∀ z∈l,0<=z/\z<p
noncomputable def dP {R:Type} [Lean.Grind.CommRing R] (f:Po R):Po R:={λk=>nR (k+1)*f.c (k+1),by
 let {n,a}:=f.fin;exact {n,λk hk=>by rw [a (k+1) `a];ext}}
def Sqf {R:Type} [Lean.Grind.CommRing R] (W:Po R):Prop:=∀ a b,W=a*b->Co a b
def Sm (p:Int) (ns:cY):Prop:=¬ p∣lst' ns/\Co (mr p ns) (mr p (dI ns))
noncomputable def ak (p:Int) (L:List (cY)) (j:Nat):Po (Zm p):=mr p (L.getD j [])
def FLp (p:Int) (L:List (cY)) (W:Po (Zm p)):Prop:=pd (L.map (mr p))=W/\∀ l∈L,Mp p l/\2<=@l/\@l<=9
def JF (p:Nat) (F:Int) (j:Nat):Prop:=F<((p ^ j:Nat):Int)/\∃ i,j=2 ^ i/\∀ a,a<i->((p ^ 2 ^ a:Nat):Int)<=F
def Mt (ns a:cY) (h:Int):Prop:=∃ (G:Po Rat) (d:Nat),Mn G (d+1)/\Dv G (AU (ro ns))/\Dv G (E_ (h:Rat) (AU (ro a)))
def bP (ns:cY):Prop:=QI (co ns) (co (dI ns)) EZ
def Rd (ns a:cY):Prop:=(∃ S,AU (ro ns)=S*AU (ro a))/\(∃ (n:Nat) (T:Po Rat),AU (ro a) ^ n=T*AU (ro ns))/\Co (AU (ro a)) (dP (AU (ro a)))
inductive J7(K:W.Frag)(d:cW)(H:Hp)(Q:VK)(E:XK):Prop
 |mk(p:Addr)(a:cY):d=[.ref p]->H p^^^(~~~a)->Lz a->(∀ z∈a,Bd 40 z)->@a<=9->(∀ (r:Addr) (b:cY) (c:Hp),Same H c->c r^^^(~~~b)->Lz b->@b<=@a->(∀ z∈b,Bd 148 z)->Rd a b->0<lst' b->Q (.ref r) c)->J7 K d H Q E
inductive J8(K:W.Frag)(e:cW)(H:Hp)(Q:VK)(E:XK):Prop
 |mk(a:Addr)(c:cY)(p:Nat):e=[.ref a,.int (p:Int)]->H a^^^(~~~c)->Pr p->p<=4000->Lz c->@c<=9->(∀ z∈c,Bd 1000 z)->(∀ (b:Bool) (d:Hp),Same H d->(b=true↔Sm p c)->Q (.bl b) d)->J8 K e H Q E
inductive MS(K:W.Frag)(g:cW)(H:Hp)(Q:VK)(E:XK):Prop
 |mk(a b:Addr)(d c:cY)(p:Nat):g=[.ref a,.ref b,.int (p:Int)]->H a^^^(~~~d)->H b^^^(~~~c)->Pr p->p<=4000->Mp p c->2<=@c->@c<=9->@d<=20->Co (mr p d) (mr p c)->(∀ (r:Addr) (e:cY) (f:Hp),Same H f->f r^^^(~~~e)->@e<=9->(∀ z∈e,0<=z/\z<(p:Int))->Dv (mr p c) (mr p e*mr p d - 1)->Q (.ref r) f)->MS K g H Q E
inductive J9(K:W.Frag)(g:cW)(H:Hp)(Q:VK)(E:XK):Prop
 |mk(a b:Addr)(c d:cY)(F:Int)(p:Nat):g=[.ref a,.ref b,.int (p:Int),.int F]->H a^^^(~~~c)->H b^^^(~~~d)->Pr p->p<=4000->Lz c->@c<=9->(∀ z∈c,Bd 148 z)->¬ (p:Int)∣lst' c->Mp p d->2<=@d->@d<=9->Dv (mr p d) (mr p c)->Sqf (mr p c)->0<F->Bd 400 F->(∀ (t u:Addr) (e:cY) (j:Nat) (f:Hp),Same H f->f t&&&[.ref u,.int ((p ^ j:Nat):Int)]->f u^^^(~~~e)->JF p F j->Bd 850 ((p ^ j:Nat):Int)->@e=@d->Mp ((p ^ j:Nat):Int) e->Lf p ((p:Int) ^ j) (ro c) (mr p d) (@d - 1) (ro e)->Q (.ref t) f)->J9 K g H Q E
inductive MT(K:W.Frag)(f:cW)(H:Hp)(Q:VK)(E:XK):Prop
 |mk(c w p:Nat)(r x y z:Addr)(d:List (cY))(a:List Nat):f=[.int (c:Int),.ref r,.int (w:Int)]->H r&&&[.ref x,.ref y,.ref z]->SD H x d->H z^^^(iN a)->Rect d @a w->a_ (p:Int) d->c<w->w<=100->p<=4000->(∀ i,i<@a->nth a i<w)->(∀ i,i<@a->nth a i≠c)->(∀ i j,i<j->j<@a->nth a i<nth a j)->(∀ (s:Addr) (b:cY) (e:Hp),Same H e->e s^^^(~~~b)->@b<=w->(∀ z∈b,Bd 20 z)->co b c=1->(∀ i,i<@a->co b (nth a i) = - en d i c)->(∀ k,k≠c->(∀ i,i<@a->nth a i≠k)->co b k=0)->Q (.ref s) e)->MT K f H Q E
inductive MU(K:W.Frag)(e:cW)(H:Hp)(Q:VK)(E:XK):Prop
 |mk(a:Addr)(b:cY)(p:Nat):e=[.ref a,.int (p:Int)]->H a^^^(~~~b)->Pr p->p<=4000->Mp p b->2<=@b->@b<=9->(∀ (r:Addr) (L:List (cY)) (d:Hp),Same H d->SD d r L->@L<=8->(∀ l∈L,@l<=8/\∀ z∈l,Bd 20 z)->(∀ j,j<@L->Dv (mr p b) (ak p L j ^ p - ak p L j))->(∀ v,Bn v (@b - 1)->Dv (mr p b) (v ^ p - v)->∃ c:Nat->Zm (p:Int),v=su @L λj=>num (c j)*ak p L j)->Q (.ref r) d)->MU K e H Q E
inductive MV(K:W.Frag)(f:cW)(H:Hp)(Q:VK)(E:XK):Prop
 |mk(a b:Addr)(c d:cY)(p:Nat):f=[.ref a,.ref b,.int (p:Int)]->H a^^^(~~~c)->H b^^^(~~~d)->Pr p->p<=4000->Mp p c->2<=@c->@c<=9->@d<=8->(∀ z∈d,Bd 20 z)->Dv (mr p c) (mr p d ^ p - mr p d)->Sqf (mr p c)->(∀ (r:Addr) (L:List (cY)) (e:Hp),Same H e->H r=none->SD e r L->FLp p L (mr p c)->(∀ l∈L,∃ a,Dv (mr p l) (mr p d - num a))->Q (.ref r) e)->MV K f H Q E
inductive KA(K:W.Frag)(d:cW)(H:Hp)(Q:VK)(E:XK):Prop
 |mk(a:Addr)(b:cY)(p:Nat):d=[.ref a,.int (p:Int)]->H a^^^(~~~b)->Pr p->p<=4000->Lz b->2<=@b->@b<=9->(∀ z∈b,Bd 1000 z)->Sm p b->(∀ (r:Addr) (L:List (cY)) (c:Hp),Same H c->SD c r L->(∃ f,Mn (num f*mr p b) (@b - 1)/\FLp p L (num f*mr p b))->(∀ l∈L,At (mr p l))->Q (.ref r) c)->KA K d H Q E
inductive MW(K:W.Frag)(g:cW)(H:Hp)(Q:VK)(E:XK):Prop
 |mk(a b:Addr)(c d:cY):g=[.ref a,.ref b]->H a^^^(~~~c)->H b^^^(~~~d)->Lz c->Lz d->2<=@c->2<=@d->@c<=8->@d<=8->(∀ z∈c,Bd 148 z)->(∀ z∈d,Bd 148 z)->0<lst' c->0<lst' d->bP c->bP d->(∀ (r:Addr) (e:cY) (f:Hp),Same H f->f r^^^(~~~e)->e.Pairwise (·<·)->(∀ h∈e,Bd 202 h)->@e<=1000->(∀ h,Mt c d h->h∈e)->Q (.ref r) f)->MW K g H Q E
def Pk9 (H:Hp) (a:Addr) (l:cU):Prop:=∃ b,H a&&&b/\Nums H b l/\D5 l/\@l<=8/\Bd 40 (DM l)/\(∀ q∈l,Bd 40 q.1)/\(∀ z∈BI l,Bd 40 z)/\Lz (BI l)
inductive IW(K:W.Frag)(e:cW)(H:Hp)(Q:VK)(E:XK):Prop
 |mk(a b:Addr)(l m:cU):e=[.ref a,.ref b]->Pk9 H a l->Pk9 H b m->(∀ (r:Addr) (c:cY) (d:Hp),Same H d->H r=none->d r^^^(~~~c)->c.Pairwise (·<·)->@c<=1000->(∀ h,h∈c↔Mt (BI l) (BI m) h)->Q (.ref r) d)->IW K e H Q E
end
section
open Po
noncomputable def nI (n:Nat) (f:Po Int):Int:=su n λk=>((f.c k).natAbs:Int)
noncomputable def O' (f:cY):Po Rat:=num ((lst' f:Int):Rat)⁻¹*AU (ro f)
structure Fc (f:cY):Prop where
 lz:Lz f
 l2:2<=@f
 l4:@f<=4
 irr:At (O' f)
def F0 (f:cY):Prop:=Fc f/\(∀ z∈f,z.natAbs<=14)/\(lst' f).natAbs<=6
def F1 (f:cY):Prop:=Fc f/\nI @f (ro f)<=200*58 ^ (@f - 2)
def F2 (f:cY):Prop:=Fc f/\@f=2/\nI @f (ro f)<=100002
noncomputable def dS (L:List (cY)):Nat:=L.foldr (λf n=>(@f - 1)+n) 0
noncomputable def pN (L:List (cY)):Int:=L.foldr (λf x=>nI @f (ro f)*x) 1
structure Ls (L:List (cY)):Prop where
 fc:∀ f∈L,Fc f
 le:@L<=7
 ds:dS L<=7
 pn:pN L<=120000000000
 nb:∀ f∈L,nI @f (ro f)<=120000000000
def bo (f g:cY) (h:Int):Prop:=@f=@g/\∃ c:Rat,c≠0/\AU (ro f)=num c*E_ (h:Rat) (AU (ro g))
inductive KC(K:W.Frag)(d:cW)(H:Hp)(Q:VK)(E:XK):Prop
 |mk(p a:Addr)(m n:Int):d=[.ref p,.int m]->Hand H p a n->n<=90000->2<=m->m<=3->(∀ (r:Addr) (b:cY) (c:Hp),c r^^^(~~~b)->(@b:Int)=m+1->Fc b->(∀ z∈b,z.natAbs<=14)->(lst' b).natAbs<=3->r≠p->H r=none->Hand c p a (n+20)->Kp p H c->Q (.ref r) c)->KC K d H Q E
inductive IX(K:W.Frag)(b:cW)(H:Hp)(Q:VK)(E:XK):Prop
 |mk(r:Addr)(f:cY)(h:Int):b=[.ref r,.int h]->H r^^^(~~~f)->@f<=4->(∀ z∈f,Bd 100 z)->Bd 200 h->(∀ (s:Addr) (g:cY) (a:Hp),Same H a->H s=none->a s^^^(~~~g)->@g=@f->ro g=E_ h (ro f)->Q (.ref s) a)->IX K b H Q E
inductive KD(K:W.Frag)(c:cW)(H:Hp)(Q:VK)(E:XK):Prop
 |mk(p a q:Addr)(L:List (cY))(g:Bool)(n:Int):c=[.ref p,.ref q,.bl g]->Hand H p a n->n<=80000->SD H q L->@L<=3->(g=false->∀ f∈L,F0 f)->(∀ (r:Addr) (f:cY) (b:Hp),b r^^^(~~~f)->r≠p->H r=none->Hand b p a (n+40)->Kp p H b->(g=true->F2 f)->(g=false->F1 f/\(L=[]->F0 f))->Q (.ref r) b)->KD K c H Q E
inductive KE(K:W.Frag)(c:cW)(H:Hp)(Q:VK)(E:XK):Prop
 |mk(p a q:Addr)(L:List (cY))(n:Int):c=[.ref p,.ref q]->Hand H p a n->n<=80000->SD H q L->Ls L->(∀ (r:Addr) (l:cU) (b:Hp),Pk9 b r l->Hand b p a (n+10)->Kp p H b->(∃ x:Rat,x≠0/\AU (ro (BI l))=num x*AU (pd (L.map ro)))->Q (.ref r) b)->KE K c H Q E
inductive MX(K:W.Frag)(b:cW)(H:Hp)(Q:VK)(E:XK):Prop
 |mk(r s:Addr)(f g:cY):b=[.ref r,.ref s]->H r^^^(~~~f)->H s^^^(~~~g)->Fc f->Fc g->(∀ z∈f,Bd 40 z)->(∀ z∈g,Bd 40 z)->(∀ (v:V) (a:Hp),Same H a->(v=.non\/∃ h,v=.int h)->(∀ h,bo f g h↔v=.int h)->Q v a)->MX K b H Q E
inductive MY(K:W.Frag)(c:cW)(H:Hp)(Q:VK)(E:XK):Prop
 |mk(p a:Addr)(n:Int):c=[.ref p]->Hand H p a n->n<=1000->(∀ (t r s:Addr) (L M:List (cY)) (b:Hp),Kp p H b->Hand b p a (n+1000)->b t&&&[.ref r,.ref s]->SD b r L->SD b s M->Ls L->Ls M->Q (.ref t) b)->MY K c H Q E
end
section
variable (K:W.Frag)
set_option linter.unusedVariables false
def QP (_:W.Frag):TS:=
 (AF (Cu (Ak (A_ av (AA 1) (aS 0))) (AF (AJ (A_ OG (AA 0) (AA 1)) (AE 2))
  (AF (AJ (AA 1) (AE 0))
  (AJ (AA 2) (AE 1)))))
  (Aa (D' FX (AB (AA 0) AC))))
def QQ (_:W.Frag):TS:=
 (AF (AJ (aS 1) (AE 2))
  (AF (AJ (AA 0) (AE 3))
  (AF (Cu (Ak (A_ az (AA 1) (aS 0))) (AF (BC (Ak (A_ W_ (A_ CZ (AA 1) (aS 2)) (aS 1))) (ET 2 (AA 3) A7) BA)
  (AF (ET 1 (aS 2) Gp)
  (BC (Ak (A_ az (AA 1) (aS 0))) (ET 3 (AA 3) A7) BA))))
  (Aa (AA 2)))))
def YJ (_:W.Frag):TS:=
 (AF (AJ (aS 2) (AE 1))
  (AF (Cu (Ak (A_ iLe (A_ A7 (AA 1) (AA 1)) (AA 0))) (AF (BC (Ak (A_ W_ (A_ CZ (AA 0) (AA 1)) (aS 0))) (Aa (tC (.bl false))) BA)
  (ET 1 (aS 1) A8)))
  (Aa (A_ az (AA 0) (aS 1)))))
def YK:TS:=
 (AF (AJ (A_ A8 (AA 0) (aS 1)) (AE 1))
  (AF (Cu (ER (tB (bA (ML K) (AB (AA 1) AC)))) (ET 1 (aS 1) A8))
  (Aa (AA 1))))
def QR:TS:=
 (AF (AJ (bA (GQ K) (AB (OW (DX (A5 K (AA 0)) [none] (AE 0) (Ak (A_ av (AA 0) (aS 0))) (D' FX (AB (AA 0) AC)))) (AB (AA 1) AC))) (AE 2))
  (AF (A4 (A5 K (AA 0)) (AE 3) (AF (BC (Ak (A_ W_ (AA 2) (aS 1))) (Aa (aS 1)) BA)
  (AJ (bA (GQ K) (AB (AA 3) (AB (AA 2) AC))) (AE 2))))
  (Aa (AA 2))))
def QS (_:W.Frag):TS:=
 (AF (AJ (D' Ao (AB (AA 0) AC)) (AE 1))
  (AF (Cu (EQ (Ak (A_ az (AA 1) (aS 0))) (Ak (A_ W_ (A_ gL (AA 0) (A_ Ax (AA 1) (aS 1))) (aS 0)))) (ET 1 (aS 1) Ax))
  (Aa (Z' sL (AA 0) Dn (Do (AA 1))))))
def QT:TS:=
 (Aa (A9 (A5 K (AA 0)) [none,some 1] (AE 0) (A_ Gw (AA 0) (AA 1))))
def QU:TS:=
 (AF (BC (aC (ER (D3 (AA 0))) (ER (D3 (AA 1)))) (Aa (As AC)) BA)
  (AF (AJ (A_ E9 (As (AB (aS 0) AC)) (A_ Ax (A_ A8 (D' Ao (AB (AA 0) AC)) (D' Ao (AB (AA 1) AC))) (aS 1))) (AE 2))
  (AF (A4 (FZ K (AB (AA 0) AC)) (D4 2 (B6 (AE 3) (B6 (AE 4) D2))) (BC (Ak (A_ av (AA 4) (aS 0))) (A4 (FZ K (AB (AA 1) AC)) (D4 2 (B6 (AE 5) (B6 (AE 6) D2))) (Gj (AA 2) (A_ A8 (AA 3) (AA 5)) (A_ A7 (AA 4) (AA 6)) gL A8 Cv)) BA))
  (Aa (AA 2)))))
def QV (_:W.Frag):TS:=
 (Aa (A9 (F4 (AB (aS 1) (AB (D' Ao (AB (AA 0) AC)) AC))) [none,some 0] (AE 0) (A_ A7 (AA 0) (A_ gL (AA 1) (AA 0)))))
def QW (_:W.Frag):TS:=
 (BC (Ak (A_ av (AA 6) (aS 0))) (A4 (DG (AB (AA 3) AC)) (AE 7) (Gj (AA 2) (A_ A8 (AA 5) (AA 7)) (A_ A7 (AA 6) (A_ gL (AA 1) (AA 7))) gL Ax Cv)) BA)
def YL:TS:=
 (AF (AJ (AA 6) (DU (AA 4) (AA 5) Cv))
  (QW K))
def QX:TS:=
 (AF (BC (Ak (A_ av (A_ A7 (AA 6) (A_ gL (AA 1) (T_ Bz (aS 1)))) (A_ gL (AA 2) (A_ A8 (AA 5) (AA 3))))) (Aa (tC .non)) BA)
  (YL K))
def YM:TS:=
 (AF (AJ (A_ GD (A_ gL (AA 2) (A_ A8 (AA 5) (AA 3))) (A_ gL (AA 1) (T_ Bz (aS 1)))) (AE 6))
  (QX K))
def YN (_:W.Frag):TS:=
 (Aa (aV (tB (D' OX (AB (Z' sL (AA 2) Dn (Do (AA 3))) AC))) (tC .non) (AA 4)))
def YO:TS:=
 (AF (A4 (Gu (AB (A_ Ax (A_ Ax (D' Ao (AB (AA 0) AC)) (AA 3)) (aS 1)) (AB (T_ Bz (aS 1)) (AB (T_ Bz (aS 1)) AC)))) (AE 5) (YM K))
  (YN K))
def QY:TS:=
 (AF (AJ (A_ E9 (As (AB (aS 0) AC)) (D' F7 (AB (A_ Ax (D' Ao (AB (AA 0) AC)) (AA 3)) (AB (aS 0) AC)))) (AE 4))
  (YO K))
def YQ:TS:=
 (AF (AJ (A_ Ax (D' Ao (AB (AA 1) AC)) (aS 1)) (AE 3))
  (QY K))
def YR:TS:=
 (AF (AJ (D' GC (AB (AA 0) AC)) (AE 2))
  (YQ K))
def YS:TS:=
 (AF (AJ (As AC) (AE 1))
  (AF (A4 (F4 (AB (aS 1) (AB (D' Ao (AB (AA 0) AC)) AC))) (AE 2) (AF (AJ (A_ gL (AA 0) (A_ Ax (A_ Ax (D' Ao (AB (AA 0) AC)) (aS 1)) (AA 2))) (AE 3))
  (BC (Ak (A_ av (AA 3) (aS 0))) (DK (ay K "list" ED (AA 1) (AB (T_ Bz (A_ Gw (A_ Ax (A_ Ax (JO K "int" LB (A_ gL (AA 0) (T_ Bz (aS 1)))) (JO K "int" LB (AA 3))) (aS 1)) (AA 2))) AC))) BA)))
  (Aa (A_ A8 (aS 1) (Od (AA 1))))))
def QZ:TS:=
 (AF (AJ (A9 (A5 K (AA 0)) [none,some 1] (AE 0) (A_ A7 (AA 1) (AA 0))) (AE 5))
  (AF (DK (ay K "list" Kw (AA 5) (AB (A_ E9 (As (AB (aS 0) AC)) (A_ Ax (A_ A8 (D' Ao (AB (AA 2) AC)) (AA 4)) (D' Ao (AB (AA 0) AC)))) AC)))
  (AF (A4 (FZ K (AB (AA 2) AC)) (D4 2 (B6 (AE 6) (B6 (AE 7) D2))) (Gj (AA 5) (A_ A8 (AA 6) (AA 4)) (A_ A7 (AA 3) (AA 7)) gL Ax Cv))
  (Aa (bA (HK K) (AB (AA 5) AC))))))
def Qa (_:W.Frag):TS:=
 (AF (AJ (D' GC (AB (AA 0) AC)) (AE 2))
  (AF (A4 (DG (AB (A_ Ax (D' Ao (AB (AA 0) AC)) (aS 1)) AC)) (AE 3) (A4 (Gu (AB (A_ Ax (D' Ao (AB (AA 0) AC)) (aS 2)) (AB (A_ Ax (AA 3) (aS 1)) (AB (T_ Bz (aS 1)) AC)))) (AE 4) (Gj (AA 2) (AA 4) (A_ A7 (AA 1) (A_ gL (AA 2) (A_ A8 (AA 4) (aS 1)))) gL A8 Cv)))
  (Aa (AA 2))))
def YT:TS:=
 (AJ (A9 (GE K (AB (AA 0) (AB (AA 1) AC))) [none,none,some 6,some 7,some 2] (D4 2 (B6 (AE 0) (B6 (AE 1) D2))) (bA (Fn K) (AB (AA 0) (AB (AA 2) (AB (AA 1) (AB (AA 3) (AB (AA 4) AC))))))) (AE 0))
def YU:TS:=
 (AF (AJ (A_ GD (AA 3) (AA 5)) (AE 7))
  (YT K))
def YV:TS:=
 (AF (AJ (A_ GD (AA 4) (AA 5)) (AE 6))
  (YU K))
def YW:TS:=
 (AF (AJ (bA (GQ K) (AB (AA 3) (AB (AA 4) AC))) (AE 5))
  (YV K))
def YX:TS:=
 (AF (AJ (A_ gL (A_ gL (AA 1) (aS 0)) (T_ Bz (aS 1))) (AE 4))
  (YW K))
def YY:TS:=
 (AF (AJ (A_ gL (A_ gL (AA 0) (aS 0)) (T_ Bz (aS 1))) (AE 3))
  (YX K))
def YZ:TS:=
 (AF (AJ (A_ Ax (D' Ao (AB (A_ gL (AA 0) (aS 0)) AC)) (D' Ao (AB (A_ gL (AA 1) (aS 0)) AC))) (AE 2))
  (YY K))
def Qb:TS:=
 (Aa (bA (Ju K) (AB (AA 0) AC)))
def Qc:TS:=
 (AF (Cu (Ak (A_ iGe (D' Ao (AB (A_ gL (AA 0) (aS 0)) AC)) (D' Ao (AB (A_ gL (AA 1) (aS 0)) AC)))) (YZ K))
  (Qb K))
def Qd:TS:=
 (AF (AJ (aS 0) (AE 1))
  (AF (A4 (A5 K (AA 0)) (AE 2) (AJ (bA (MG K) (AB (AA 2) (AB (AA 1) AC))) (AE 1)))
  (Aa (A9 (A5 K (AA 0)) [none,some 1] (AE 0) (bA (MH K) (AB (AA 0) (AB (AA 1) AC)))))))
def Qe:TS:=
 (Aa (A_ gL (bA (Ju K) (AB (As (AB (AA 0) AC)) AC)) (aS 0)))
def Qf:TS:=
 (AF (Cu (D3 (A_ gL (AA 1) (aS 0))) (AF (BC (Ak (A_ W_ (D' Ao (AB (A_ gL (AA 1) (aS 0)) AC)) (aS 1))) (Aa (AA 1)) BA)
  (AF (AJ (bA (MI K) (AB (AA 0) (AB (AA 1) AC))) (AE 2))
  (AF (AJ (AA 1) (AE 0))
  (AJ (AA 2) (AE 1))))))
  (Aa (AA 0)))
def Yb (_:W.Frag):TS:=
 (AJ (AA 7) (AE 5))
def Yc:TS:=
 (AF (AJ (AA 5) (AE 4))
  (Yb K))
def Yd:TS:=
 (AF (AJ (A_ Ax (AA 4) (A_ A7 (AA 6) (AA 5))) (AE 7))
  (Yc K))
def Ye:TS:=
 (AF (AJ (AA 7) (AE 3))
  (Yd K))
def Yg:TS:=
 (AF (AJ (AA 3) (AE 2))
  (Ye K))
def Yh:TS:=
 (AF (AJ (A_ Ax (AA 2) (A_ A7 (AA 6) (AA 3))) (AE 7))
  (Yg K))
def Yi:TS:=
 (AF (AJ (A_ Gw (AA 2) (AA 3)) (AE 6))
  (Yh K))
def Yj (_:W.Frag):TS:=
 (Aa (A_ CZ (AA 4) (AA 1)))
def Qg:TS:=
 (AF (Cu (Ak (A_ av (AA 3) (aS 0))) (Yi K))
  (Yj K))
def Yk:TS:=
 (AF (AJ (aS 1) (AE 5))
  (Qg K))
def Yl:TS:=
 (AF (AJ (aS 0) (AE 4))
  (Yk K))
def Ym:TS:=
 (AF (AJ (A_ CZ (AA 0) (AA 1)) (AE 3))
  (Yl K))
def Yn:TS:=
 (AF (AJ (AA 1) (AE 2))
  (Ym K))
def Qh:TS:=
 (Aa (A9 (A5 K (AA 0)) [none,some 1] (AE 0) (A_ CZ (AA 0) (AA 1))))
def Yo:TS:=
 (Aa (bA (HK K) (AB (bA (Jw K) (AB (AA 0) (AB (AA 1) AC))) AC)))
def Yp:TS:=
 (AF (BC (ER (D3 (AA 0))) (Aa (As AC)) BA)
  (AF (AJ (bA (HM K) (AB (A_ gL (AA 0) (T_ Bz (aS 1))) (AB (AA 1) AC))) (AE 2))
  (Aa (A9 (A5 K (AA 0)) [none,some 1,some 2] (AE 0) (A_ CZ (A_ A7 (AA 0) (AA 2)) (AA 1))))))
def Qi (_:W.Frag):TS:=
 (BC (Ak (A_ av (AA 7) (aS 0))) (A4 (DG (AB (AA 4) AC)) (AE 8) (Gj (AA 3) (A_ A8 (AA 6) (AA 8)) (A_ A7 (AA 7) (A_ gL (AA 1) (AA 8))) gL Ax Cv)) BA)
def Qj:TS:=
 (AF (AJ (AA 7) (DU (AA 5) (AA 6) Cv))
  (Qi K))
def Yq:TS:=
 (AF (AJ (A_ CZ (A_ gL (AA 3) (A_ A8 (AA 6) (AA 4))) (AA 2)) (AE 7))
  (Qj K))
def Qk:TS:=
 (Aa (EV (AB (bA (HK K) (AB (AA 5) AC)) (AB (bA (FH K) (AB (Z' sL (AA 3) Dn (Do (AA 4))) (AB (AA 2) AC))) AC))))
def Yr:TS:=
 (AF (A4 (Gu (AB (A_ Ax (A_ Ax (D' Ao (AB (AA 0) AC)) (AA 4)) (aS 1)) (AB (T_ Bz (aS 1)) (AB (T_ Bz (aS 1)) AC)))) (AE 6) (Yq K))
  (Qk K))
def Ql:TS:=
 (AF (AJ (A_ E9 (As (AB (aS 0) AC)) (D' F7 (AB (A_ Ax (D' Ao (AB (AA 0) AC)) (AA 4)) (AB (aS 0) AC)))) (AE 5))
  (Yr K))
def Ys:TS:=
 (AF (AJ (A_ Ax (D' Ao (AB (AA 1) AC)) (aS 1)) (AE 4))
  (Ql K))
def Yt:TS:=
 (AF (AJ (D' GC (AB (AA 0) AC)) (AE 3))
  (Ys K))
def Yu:TS:=
 (Aa (A_ gT (bA (GR K) (AB (AA 0) (AB (AA 1) (AB (AA 2) AC)))) (aS 1)))
def Qm:TS:=
 (AF (AJ (bA (Fo K) (AB (bA (FH K) (AB (AA 0) (AB (AA 2) AC))) (AB (AA 2) AC))) (AE 0))
  (AF (AJ (bA (Fo K) (AB (bA (FH K) (AB (AA 1) (AB (AA 2) AC))) (AB (AA 2) AC))) (AE 1))
  (AF (Cu (D3 (AA 1)) (AF (AJ (bA (Ex K) (AB (AA 0) (AB (AA 1) (AB (AA 2) AC)))) (AE 3))
  (AF (AJ (AA 1) (AE 0))
  (AJ (bA (Fo K) (AB (AA 3) (AB (AA 2) AC))) (AE 1)))))
  (Aa (AA 0)))))
def Yv (_:W.Frag):TS:=
 (AJ (AA 9) (AE 6))
def Yw:TS:=
 (AF (AJ (AA 6) (AE 5))
  (Yv K))
def Yx:TS:=
 (AF (AJ (A_ gT (AA 8) (aS 1)) (AE 4))
  (Yw K))
def Yy:TS:=
 (AF (AJ (AA 4) (AE 3))
  (Yx K))
def Yz:TS:=
 (AF (AJ (bA (FH K) (AB (bA (Fn K) (AB (AA 5) (AB (aS 1) (AB (bA (GS K) (AB (A_ gT (AA 8) (aS 0)) (AB (AA 6) AC))) (AB (aS 1) (AB (aS 0) AC)))))) (AB (AA 2) AC))) (AE 9))
  (Yy K))
def Qn:TS:=
 (AF (AJ (bA (GR K) (AB (AA 3) (AB (AA 4) (AB (AA 2) AC)))) (AE 8))
  (Yz K))
def Y0:TS:=
 (AF (BC (Ak (A_ W_ (D' Ao (AB (AA 4) AC)) (aS 1))) (Aa (AA 6)) BA)
  (Qn K))
def Y1:TS:=
 (AF (AJ (bA (FH K) (AB (A9 (A5 K (AA 6)) [none,some 7] (AE 0) (A_ A7 (AA 0) (AA 1))) (AB (AA 2) AC))) (AE 6))
  (Y0 K))
def Y2:TS:=
 (AF (AJ (bA (FH K) (AB (A9 (A5 K (AA 4)) [none,some 7] (AE 0) (A_ A7 (AA 0) (AA 1))) (AB (AA 2) AC))) (AE 4))
  (Y1 K))
def Y3:TS:=
 (AF (AJ (bA (HM K) (AB (A_ gL (AA 4) (T_ Bz (aS 1))) (AB (AA 2) AC))) (AE 7))
  (Y2 K))
def Y4:TS:=
 (Cu (tB (tC (.bl true))) (Y3 K))
def Y5:TS:=
 (AF (AJ (As (AB (aS 1) AC)) (AE 6))
  (Y4 K))
def Y6:TS:=
 (AF (AJ (As AC) (AE 5))
  (Y5 K))
def Qo:TS:=
 (AF (AJ (bA (Ex K) (AB (AA 0) (AB (AA 1) (AB (AA 2) AC)))) (AE 4))
  (Y6 K))
def Y7:TS:=
 (AF (AJ (AA 1) (AE 3))
  (Qo K))
def Y8:TS:=
 (AJ (bA (Ex K) (AB (bA (GS K) (AB (AA 6) (AB (AA 10) AC))) (AB (AA 1) (AB (AA 4) AC)))) (AE 6))
def Y9:TS:=
 (AF (AJ (bA (Fn K) (AB (As (AB (aS 2) AC)) (AB (aS 1) (AB (bA (Ex K) (AB (bA (GS K) (AB (AA 5) (AB (AA 6) AC))) (AB (AA 1) (AB (AA 4) AC)))) (AB (aS 1) (AB (aS 0) AC)))))) (AE 10))
  (Y8 K))
def ZA:TS:=
 (AF (AJ (A_ gT (bA (GR K) (AB (AA 7) (AB (AA 1) (AB (AA 4) AC)))) (aS 0)) (AE 5))
  (Y9 K))
def ZB:TS:=
 (AF (AJ (bA (FH K) (AB (bA (Fn K) (AB (AA 1) (AB (aS 1) (AB (AA 9) (AB (T_ Bz (aS 1)) (AB (aS 0) AC)))))) (AB (AA 4) AC))) (AE 1))
  (ZA K))
def ZC:TS:=
 (AF (AJ (bA (Ex K) (AB (bA (GS K) (AB (AA 8) (AB (AA 6) AC))) (AB (AA 1) (AB (AA 4) AC)))) (AE 9))
  (ZB K))
def ZD:TS:=
 (AF (AJ (bA (Ex K) (AB (AA 7) (AB (AA 1) (AB (AA 4) AC)))) (AE 8))
  (ZC K))
def Qp:TS:=
 (AF (AJ (bA (Fo K) (AB (AA 0) (AB (AA 4) AC))) (AE 7))
  (ZD K))
def ZE:TS:=
 (AF (ET 4 (AA 4) A7)
  (Qp K))
def Qq (_:W.Frag):TS:=
 (Aa (EV (AB (AA 1) (AB (AA 4) AC))))
def ZF:TS:=
 (AF (Cu (Ak (A_ iLe (AA 4) (AA 3))) (ZE K))
  (Qq K))
def ZG:TS:=
 (AF (AJ (bA (MS K) (AB (AA 5) (AB (AA 1) (AB (AA 2) AC)))) (AE 6))
  (ZF K))
def Qr:TS:=
 (AF (AJ (A_ gT (bA (GR K) (AB (bA (Fo K) (AB (AA 0) (AB (AA 2) AC))) (AB (AA 1) (AB (AA 2) AC)))) (aS 0)) (AE 5))
  (ZG K))
def ZH:TS:=
 (AF (AJ (AA 2) (AE 4))
  (Qr K))
def Qs:TS:=
 (DK (ay K "list" ED (AA 4) (AB (AA 5) AC)))
def Qt:TS:=
 (AF (AJ (AA 9) (DU (AA 2) (AA 6) Cv))
  (Qs K))
def Qu:TS:=
 (AF (AJ (A9 (A5 K (AA 2)) [none,some 9,some 5,some 1] (AE 0) (bA (J6 K) (AB (AA 0) (AB (AA 1) (AB (AA 2) (AB (AA 3) AC)))))) (AE 2))
  (Qt K))
def Qv:TS:=
 (AF (AJ (A9 (A5 K (A_ gL (AA 2) (AA 6))) [none,some 1,some 8] (AE 0) (A_ CZ (A_ A7 (AA 0) (AA 2)) (AA 1))) (AE 9))
  (Qu K))
def Qw:TS:=
 (AF (AJ (bA (HM K) (AB (A_ gL (A_ gL (AA 2) (AA 6)) (AA 5)) (AB (AA 1) AC))) (AE 8))
  (Qv K))
def Qx:TS:=
 (AF (AJ (bA (J5 K) (AB (AA 3) (AB (AA 6) (AB (A_ gL (AA 7) (aS 0)) AC)))) (AE 3))
  (Qw K))
def ZI:TS:=
 (AF (AJ (bA (J5 K) (AB (AA 2) (AB (AA 6) (AB (A_ gL (AA 7) (aS 0)) AC)))) (AE 2))
  (Qx K))
def Qy:TS:=
 (BC (D3 (AA 7)) (ZI K) BA)
def Qz:TS:=
 (AF (AJ (DX (F4 (AB (AA 6) (AB (D' Ao (AB (AA 2) AC)) AC))) [none,some 5,some 2] (AE 0) (Ak (A_ av (A_ gL (A_ gL (AA 2) (AA 0)) (AA 1)) (aS 0))) (AA 0)) (AE 7))
  (Qy K))
def Q0:TS:=
 (AF (AJ (D' Ao (AB (AA 4) AC)) (AE 6))
  (Qz K))
def Q3 (_:W.Frag):TS:=
 (Aa (EV (AB (Z' sL (AA 2) Dn (Do (D' Ao (AB (AA 4) AC)))) (AB (Z' sL (AA 3) Dn (Do (D' Ao (AB (AA 4) AC)))) (AB (AA 4) AC)))))
def Q4:TS:=
 (AF (A4 (DG (AB (aV (D3 (AA 0)) (D' Ao (AB (A_ gL (AA 0) (aS 0)) AC)) (aS 0)) AC)) (AE 5) (Q0 K))
  (Q3 K))
def Q7:TS:=
 (AF (AJ (As AC) (AE 4))
  (Q4 K))
def Q8:TS:=
 (AF (AJ (LG (AB (D' Ao (AB (AA 0) AC)) AC)) (AE 3))
  (Q7 K))
def ZJ:TS:=
 (AF (AJ (A9 (A5 K (AA 0)) [none,some 1] (AE 0) (bA (Jw K) (AB (AA 0) (AB (AA 1) AC)))) (AE 2))
  (Q8 K))
def ZK (_:W.Frag):TS:=
 (AF (AJ (D' GC (AB (AA 0) AC)) (AE 3))
  (AF (AJ (A_ gL (AA 0) (AA 2)) (DU (AA 3) (AA 1) Cv))
  (AF (AJ (A_ gL (AA 0) (AA 1)) (DU (AA 3) (AA 2) Cv))
  (Aa (AA 3)))))
def ZL:TS:=
 (AF (AJ (A_ gL (AA 0) (AA 2)) (AE 4))
  (AF (BC (Ak (A_ W_ (AA 4) (aS 0))) (Aa (AA 0)) BA)
  (Aa (A9 (GE K (AB (AA 0) (AB (AA 1) AC))) [none,none,some 3,some 4] (D4 2 (B6 (AE 0) (B6 (AE 1) D2))) (A_ CZ (A_ Ax (AA 0) (A_ A7 (AA 3) (AA 1))) (AA 2))))))
def Q9 (_:W.Frag):TS:=
 (AF (AJ (A_ CZ (AA 0) (AA 1)) (AE 2))
  (Aa (aV (Ak (A_ az (A_ A7 (aS 2) (AA 2)) (AA 1))) (A_ Ax (AA 2) (AA 1)) (AA 2))))
def RA:TS:=
 (AF (AJ (bA (GQ K) (AB (A_ gL (AA 0) (T_ Bz (aS 1))) (AB (A_ gL (AA 1) (T_ Bz (aS 1))) AC))) (AE 3))
  (AF (BC (Ak (A_ W_ (A_ CZ (AA 3) (AA 2)) (aS 0))) (Aa (tC .non)) BA)
  (AF (AJ (bA (IS K) (AB (AA 0) (AB (AA 1) (AB (AA 2) AC)))) (AE 4))
  (AF (AJ (bA (HL K) (AB (A9 (A5 K (AA 4)) [none,some 2,some 3] (AE 0) (bA (Jx K) (AB (A_ A7 (AA 2) (AA 0)) (AB (AA 1) AC)))) AC)) (AE 5))
  (AF (BC (aC (Ak (A_ OT (bA (IR K) (AB (AA 0) (AB (AA 5) AC))) (tC .non))) (Ak (A_ OT (bA (IR K) (AB (AA 1) (AB (AA 5) AC))) (tC .non)))) (Aa (tC .non)) BA)
  (Aa (AA 5)))))))
def RB:TS:=
 (AF (AJ (bA (HL K) (AB (AA 0) AC)) (AE 2))
  (AF (AJ (bA (HL K) (AB (AA 1) AC)) (AE 3))
  (AF (BC (EQ (D3 (AA 0)) (D3 (AA 1))) (A4 (Gk K (tC (.ref (GP K)))) (AE 4) (AF (AJ (bA (MJ K) (AB (AA 2) (AB (AA 3) (AB (A_ Ax (bA (ME K) (AB (aS 2) (AB (AA 4) AC))) (aS 1)) AC)))) (AE 5))
  (BC (Ak (A_ OU (AA 5) (tC .non))) (Aa (AA 5)) BA))) BA)
  (Aa (A_ gL (bA (Jv K) (AB (As (AB (AA 2) AC)) (AB (As (AB (AA 3) AC)) AC))) (aS 0))))))
def RD:TS:=
 (Aa (aV (Ak (A_ az (A_ gL (AA 2) (T_ Bz (aS 1))) (aS 0))) (AA 2) (A9 (A5 K (AA 2)) [none] (AE 0) (T_ Bz (AA 0)))))
def RF:TS:=
 (AF (AJ (bA (IR K) (AB (AA 1) (AB (bA (Jy K) (AB (AA 1) (AB (bA (J3 K) (AB (AA 1) AC)) AC))) AC))) (AE 2))
  (RD K))
def ZM:TS:=
 (AF (AJ (bA (HL K) (AB (AA 0) AC)) (AE 1))
  (RF K))
def RG:TS:=
 (AF (AJ (tC (.int 1)) (AE 1))
  (AF (A4 (Gk K (AA 0)) (AE 2) (ET 1 (A_ Gw (A_ gT (AA 2) (tC (.int 1))) (AL (GQ K) [] E0 (AB (AA 1) (AB (A_ gT (AA 2) (tC (.int 1))) AC)))) A7))
  (Aa (EV (AB (A9 (Gk K (AA 0)) [none,some 1] (AE 0) (A_ A7 (A_ gT (AA 0) (tC (.int 0))) (A_ Gw (AA 1) (A_ gT (AA 0) (tC (.int 1)))))) (AB (AA 1) AC))))))
def ZN (_:W.Frag):TS:=
 (Aa (aV (D3 (AA 0)) (D' Ao (AB (A_ gL (AA 0) (aS 0)) AC)) (aS 0)))
def ZO:TS:=
 (Aa (A9 (DG (AB (bA (MN K) (AB (AA 0) AC)) AC)) [none,some 0] (AE 0) (bA (MO K) (AB (AA 1) (AB (AA 0) AC)))))
def ZP:TS:=
 (Aa (A9 (A5 K (AA 0)) [none,some 1] (AE 0) (A_ gL (AA 0) (AA 1))))
def RH:TS:=
 (Aa (DX (A5 K (bA (MW K) (AB (AA 2) (AB (AA 3) AC)))) [none,some 2,some 3] (AE 0) (Ak (A_ az (D' Ao (AB (bA (Jy K) (AB (AA 1) (AB (bA (MR K) (AB (AA 2) (AB (AA 0) AC))) AC))) AC)) (aS 1))) (AA 0)))
def RI:TS:=
 (AF (BC (aC (Ak (A_ W_ (D' Ao (AB (AA 2) AC)) (aS 1))) (Ak (A_ W_ (D' Ao (AB (AA 3) AC)) (aS 1)))) (Aa (As AC)) BA)
  (RH K))
def RJ:TS:=
 (AF (AJ (bA (J7 K) (AB (A_ gT (bA (Jz K) (AB (AA 1) AC)) (aS 0)) AC)) (AE 3))
  (RI K))
def ZQ:TS:=
 (AF (AJ (bA (J7 K) (AB (A_ gT (bA (Jz K) (AB (AA 0) AC)) (aS 0)) AC)) (AE 2))
  (RJ K))
def ZR (_:W.Frag):TS:=
 (BC (Ak (A_ bK (D' FX (AB (AA 11) AC)) (AA 3))) (AJ (tC (.bl true)) (DU (AA 6) (AA 11) Ou)) BA)
def ZS:TS:=
 (AF (AJ (bA (Jx K) (AB (A_ A7 (A_ Ax (A_ gL (A_ gT (AA 8) (aS 0)) (T_ Bz (aS 2))) (A_ gL (AA 10) (T_ Bz (aS 2)))) (AA 9)) (AB (A_ gT (AA 8) (aS 1)) AC))) (AE 11))
  (ZR K))
def ZT:TS:=
 (A4 (A5 K (DX (A5 K (AA 5)) [none,some 7] (AE 0) (Ak (A_ W_ (D' Ao (AB (A_ gT (AA 0) (aS 0)) AC)) (D' Ao (AB (AA 1) AC)))) (A_ gT (AA 0) (aS 0)))) (AE 10) (ZS K))
def ZU:TS:=
 (AF (AJ (bA (HM K) (AB (A_ Ax (D' Ao (AB (AA 7) AC)) (aS 1)) (AB (A_ gT (AA 8) (aS 1)) AC))) (AE 9))
  (ZT K))
def ZV:TS:=
 (AF (AJ (bA (J9 K) (AB (AA 0) (AB (AA 7) (AB (AA 2) (AB (AA 4) AC))))) (AE 8))
  (ZU K))
def ZW (_:W.Frag):TS:=
 (Aa (D' Ow (AB (AA 6) AC)))
def ZX:TS:=
 (AF (A4 (A5 K (bA (KA K) (AB (AA 0) (AB (AA 2) AC)))) (AE 7) (ZV K))
  (ZW K))
def ZY:TS:=
 (AF (AJ LJ (AE 6))
  (ZX K))
def RK:TS:=
 (AF (AJ (A9 (A5 K (bA (KA K) (AB (AA 1) (AB (AA 2) AC)))) [none,some 1,some 2,some 4] (AE 0) (bA (J9 K) (AB (AA 1) (AB (AA 0) (AB (AA 2) (AB (AA 3) AC)))))) (AE 5))
  (ZY K))
def RM:TS:=
 (AF (AJ (A_ Ja (AA 3) (aS 64)) (AE 4))
  (RK K))
def MZ:TS:=
 (AF (AJ (A_ A8 (A_ Ja (aS 1) (D' F7 (AB (bA (J4 K) (AB (AA 0) AC)) (AB (aS 0) AC)))) (A_ Ja (aS 1) (D' F7 (AB (bA (J4 K) (AB (AA 1) AC)) (AB (aS 0) AC))))) (AE 3))
  (RM K))
def ZZ:TS:=
 (AF (Cu (ER (EQ (tB (bA (J8 K) (AB (AA 0) (AB (AA 2) AC)))) (tB (bA (J8 K) (AB (AA 1) (AB (AA 2) AC)))))) (AJ (bA (IV K) (AB (AA 2) AC)) (AE 2)))
  (MZ K))
def Za:TS:=
 (AF (AJ (bA (IV K) (AB (D' F7 (AB (D' Ao (AB (AA 0) AC)) (AB (D' Ao (AB (AA 1) AC)) AC))) AC)) (AE 2))
  (ZZ K))
def Zb:TS:=
 (Aa (JH (A_ av (A_ CZ (A_ gL (AA 0) (T_ Bz (aS 1))) (AA 1)) (aS 0)) (A_ W_ (D' Ao (AB (bA (IS K) (AB (AA 0) (AB (bA (J3 K) (AB (AA 0) AC)) (AB (AA 1) AC)))) AC)) (aS 1))))
def Zc (_:W.Frag):TS:=
 (AJ (AA 5) (AE 2))
def Zd:TS:=
 (AF (A4 (A5 K (AA 2)) (AE 6) (DK (ay K "list" Kw (AA 5) (AB (bA (MV K) (AB (AA 6) (AB (AA 4) (AB (AA 1) AC)))) AC))))
  (Zc K))
def Ze:TS:=
 (AF (AJ (As AC) (AE 5))
  (Zd K))
def Zf (_:W.Frag):TS:=
 (Aa (AA 2))
def Zg:TS:=
 (AF (A4 (A5 K (AA 3)) (AE 4) (BC (Ak (A_ bK (D' Ao (AB (AA 2) AC)) (D' Ao (AB (AA 3) AC)))) (Ze K) BA))
  (Zf K))
def Zh:TS:=
 (AF (AJ (bA (MU K) (AB (A_ gL (AA 2) (aS 0)) (AB (AA 1) AC))) (AE 3))
  (Zg K))
def Zi:TS:=
 (AF (AJ (As (AB (bA (Fo K) (AB (AA 0) (AB (AA 1) AC))) AC)) (AE 2))
  (Zh K))
def RN:TS:=
 (AJ (bA (Ex K) (AB (bA (GS K) (AB (AA 4) (AB (AA 3) AC))) (AB (AA 0) (AB (AA 1) AC)))) (AE 4))
def Zj:TS:=
 (AF (DK (ay K "list" ED (AA 5) (AB (A_ Go (AA 7) (A_ E9 (As (AB (aS 0) AC)) (A_ Ax (AA 2) (D' Ao (AB (AA 7) AC))))) AC)))
  (RN K))
def Zk:TS:=
 (AF (AJ (bA (Fn K) (AB (AA 4) (AB (aS 1) (AB (As (AB (aS 1) AC)) (AB (aS 1) (AB (AA 6) AC)))))) (AE 7))
  (Zj K))
def Zl:TS:=
 (Aa (A9 (A5 K (AA 9)) [none,some 8,some 2] (AE 0) (bA (MT K) (AB (AA 0) (AB (AA 1) (AB (AA 2) AC))))))
def Zn:TS:=
 (AF (AJ (DX (DG (AB (AA 2) AC)) [none,some 8] (AE 0) (Ak (A_ (inD true) (AA 0) (A_ gT (AA 1) (aS 2)))) (AA 0)) (AE 9))
  (Zl K))
def Zo:TS:=
 (AF (AJ (bA (MM K) (AB (bA (MP K) (AB (AA 5) AC)) (AB (AA 1) AC))) (AE 8))
  (Zn K))
def Zp:TS:=
 (AF (A4 (DG (AB (AA 2) AC)) (AE 6) (Zk K))
  (Zo K))
def Zq:TS:=
 (AF (AJ (As AC) (AE 5))
  (Zp K))
def Zr:TS:=
 (AF (AJ (As (AB (aS 1) AC)) (AE 4))
  (Zq K))
def RO:TS:=
 (AF (AJ (bA (Ex K) (AB (A_ Go (A_ E9 (As (AB (aS 0) AC)) (AA 1)) (As (AB (aS 1) AC))) (AB (AA 0) (AB (AA 1) AC)))) (AE 3))
  (Zr K))
def Zs:TS:=
 (AF (AJ (A_ Ax (D' Ao (AB (AA 0) AC)) (aS 1)) (AE 2))
  (RO K))
def Zt:TS:=
 (Aa (bA (HK K) (AB (AA 3) AC)))
def RP:TS:=
 (AF (A4 (GE K (AB (A_ gT (AA 1) (aS 2)) (AB (A_ gT (AA 1) (aS 0)) AC))) (D4 2 (B6 (AE 4) (B6 (AE 5) D2))) (AJ (T_ Bz (A_ gL (AA 5) (AA 0))) (DU (AA 3) (AA 4) Cv)))
  (Zt K))
def Zu:TS:=
 (AF (AJ (aS 1) (DU (AA 3) (AA 0) Cv))
  (RP K))
def Zv:TS:=
 (AF (AJ (A_ E9 (As (AB (aS 0) AC)) (AA 2)) (AE 3))
  (Zu K))
def RQ:TS:=
 (AJ (A_ gT (bA (GR K) (AB (AA 4) (AB (AA 6) (AB (AA 2) AC)))) (aS 0)) (AE 4))
def Zw:TS:=
 (AF (DK (ay K "list" ED (AA 3) (AB (AA 6) AC)))
  (RQ K))
def Zx (_:W.Frag):TS:=
 (ET 5 (aS 1) A8)
def Zy:TS:=
 (AF (BC (Ak (A_ az (D' Ao (AB (AA 6) AC)) (aS 1))) (Zw K) BA)
  (Zx K))
def Zz:TS:=
 (AF (AJ (bA (IS K) (AB (AA 4) (AB (bA (Fn K) (AB (AA 1) (AB (aS 1) (AB (As (AB (AA 5) AC)) (AB (aS 1) (AB (aS 0) AC)))))) (AB (AA 2) AC)))) (AE 6))
  (Zy K))
def Z0 (_:W.Frag):TS:=
 (Aa (AA 3))
def Z1:TS:=
 (AF (Cu (Ak (A_ az (D' Ao (AB (AA 4) AC)) (aS 1))) (Zz K))
  (Z0 K))
def Z2:TS:=
 (AF (AJ (aS 0) (AE 5))
  (Z1 K))
def Z3:TS:=
 (AF (AJ (AA 0) (AE 4))
  (Z2 K))
def Z4:TS:=
 (AF (AJ (As AC) (AE 3))
  (Z3 K))
def RT:TS:=
 (AF (AJ (D' GG (AB (Z' (sS K) (AA 0) Dn (Do (aS 1))) AC)) (AE 1))
  (Aa (As (AB (D' GC (AB (Z' (sS K) (AA 0) Dn (Do (aS 63))) AC)) (AB (aS 0) (AB (A_ Gp (D' FX (AB (AA 1) AC)) (aS 2)) (AB (A_ CZ (AA 1) (aS 2)) AC)))))))
def RU (_:W.Frag):TS:=
 (AJ (D' FX (AB (A_ gL (A_ gL (AA 0) (aS 0)) (A_ gL (AA 0) (aS 1))) AC)) (DU (AA 0) (aS 2) Cv))
def Z5:TS:=
 (AF (AJ (A_ A8 (A_ gL (AA 0) (aS 1)) (aS 1)) (DU (AA 0) (aS 1) Cv))
  (RU K))
def Z6 (_:W.Frag):TS:=
 (Aa (AA 2))
def Z7:TS:=
 (AF (AJ (A_ Gp (A_ gL (AA 0) (aS 2)) (AA 1)) (DU (AA 0) (aS 2) Cv))
  (Z6 K))
def Z8:TS:=
 (AF (AJ (A_ CZ (A_ gL (AA 0) (aS 2)) (AA 1)) (AE 2))
  (Z7 K))
def RV (_:W.Frag):TS:=
 (Aa (A_ CZ (A_ Gp (AA 5) (aS 7)) (AA 1)))
def RW:TS:=
 (AF (AJ (A_ CZ (A_ A8 (A_ A7 (AA 4) (A_ A8 (A_ CZ (AA 4) (aS 39373)) (A_ gL (AA 0) (aS 1)))) (A_ A7 (aS 31) (A_ gL (AA 0) (aS 1)))) (aS 1999999973)) (AE 5))
  (RV K))
def RX:TS:=
 (AF (AJ (A_ CZ (A_ A7 (A_ A8 (A_ A8 (A_ CZ (AA 3) (aS 2147483629)) (A_ A7 (aS 7919) (A_ gL (AA 0) (aS 1)))) (aS 11)) (A_ A8 (aS 48271) (A_ A7 (aS 2) (A_ gL (AA 0) (aS 1))))) (aS 2147483647)) (AE 4))
  (RW K))
def RY:TS:=
 (AF (AJ (D' GG (AB (Z' sL (Z' sL (A_ gL (AA 0) (aS 0)) (Do (A_ CZ (A_ gL (AA 0) (aS 1)) (D' F7 (AB (aS 1) (AB (D' Ao (AB (A_ gL (AA 0) (aS 0)) AC)) AC))))) Dn) Dn (Do (aS 1))) AC)) (AE 3))
  (RX K))
def RZ:TS:=
 (AF (AJ (A_ A8 (A_ gL (AA 0) (aS 1)) (aS 1)) (DU (AA 0) (aS 1) Cv))
  (RY K))
def Ra:TS:=
 (AF (BC (EQ (Ak (A_ W_ (A_ gL (AA 0) (aS 3)) (aS 1))) (Ak (A_ az (A_ gL (AA 0) (aS 2)) (aS 0)))) (Z8 K) BA)
  (RZ K))
def Z9:TS:=
 (AF (BC (EQ (Ak (A_ W_ (A_ gL (AA 0) (aS 3)) (aS 1))) (EQ (Ak (A_ W_ (A_ gL (AA 0) (aS 2)) (aS 0))) (Ak (A_ bK (A_ A8 (A_ gL (AA 0) (aS 1)) (aS 1)) (D' Ao (AB (A_ gL (AA 0) (aS 0)) AC)))))) (Z5 K) BA)
  (Ra K))
def zA (_:W.Frag):TS:=
 (AF (F3 2 3 (AB (D' FX (AB (AA 0) AC)) (AB (D' FX (AB (AA 1) AC)) AC)))
  (AF (Cu (Ak (A_ az (AA 3) (aS 0))) (F3 2 3 (AB (AA 3) (AB (A_ CZ (AA 2) (AA 3)) AC))))
  (AF (BC (Ak (A_ bK (AA 1) (aS 0))) (AJ (T_ Bz (AA 2)) (AE 2)) BA)
  (Aa (EV (AB (A_ GD (AA 0) (AA 2)) (AB (A_ GD (AA 1) (AA 2)) AC)))))))
def Rb:TS:=
 (AF (AJ (A_ E9 (As (AB (aS 0) AC)) (A_ Ax (A_ A8 (D' Ao (AB (AA 0) AC)) (D' Ao (AB (AA 1) AC))) (aS 1))) (AE 2))
  (AF (A4 (FZ K (AB (AA 0) AC)) (D4 2 (B6 (AE 3) (B6 (AE 4) D2))) (A4 (FZ K (AB (AA 1) AC)) (D4 2 (B6 (AE 5) (B6 (AE 6) D2))) (AJ (A_ A8 (A_ gL (AA 2) (A_ A8 (AA 3) (AA 5))) (A_ A7 (AA 4) (AA 6))) (DU (AA 2) (A_ A8 (AA 3) (AA 5)) Cv))))
  (Aa (AA 2))))
def Rc:TS:=
 (Aa (D' JW (AB (A9 (A5 K (AA 0)) [none,some 1] (AE 0) (bA (IT K) (AB (A_ A7 (AA 0) (A_ gT (AA 1) (aS 0))) (AB (A_ gT (AA 1) (aS 1)) AC)))) AC)))
def zB:TS:=
 (Aa (A_ Go (AA 2) (As (AB (A_ A8 (aS 1) (A_ A7 (aS 2) (bA (Bv K) (AB (AA 0) (AB (aS 2) AC))))) AC))))
def zC:TS:=
 (AF (A4 (DG (AB (A_ Ax (AA 1) (aS 1)) AC)) (AE 3) (DK (ay K "list" ED (AA 2) (AB (A_ A7 (aS 2) (A_ Ax (bA (Bv K) (AB (AA 0) (AB (aS 7) AC))) (aS 3))) AC))))
  (zB K))
def zD:TS:=
 (AF (AJ (As (AB (A_ A7 (aS 2) (A_ Ax (A_ A7 (aS 2) (bA (Bv K) (AB (AA 0) (AB (aS 7) AC)))) (aS 7))) AC)) (AE 2))
  (zC K))
def zE:TS:=
 (Aa (bA (IT K) (AB (A_ A7 (A_ gL (As (AB (aS 1) (AB (T_ Bz (aS 1)) AC))) (bA (Bv K) (AB (AA 0) (AB (aS 2) AC)))) (A_ A8 (aS 1) (bA (Bv K) (AB (AA 0) (AB (aS 9) AC))))) (AB (A_ A8 (aS 1) (bA (Bv K) (AB (AA 0) (AB (aS 9) AC)))) AC))))
def Re:TS:=
 (Aa (D' JW (AB (A9 (A5 K (AA 0)) [none,some 0] (AE 0) (bA (IT K) (AB (AA 0) (AB (A_ gL (AA 1) (T_ Bz (aS 1))) AC)))) AC)))
def zF:TS:=
 (AF (AJ (As (AB (aS 0) AC)) (AE 2))
  (AF (A4 (Gv K (AB (AA 0) AC)) (AE 3) (AF (AJ (bA (J0 K) (AB (AA 2) (AB (As (AB (AA 1) (AB (aS 1) AC))) AC))) (AE 4))
  (AF (AJ (A_ A8 (A_ gL (AA 4) (aS 0)) (AA 3)) (DU (AA 4) (aS 0) Cv))
  (AJ (AA 4) (AE 2)))))
  (Aa (Z' sL (AA 2) Dn (Do (D' Ao (AB (AA 0) AC)))))))
def Rf:TS:=
 (Aa (As (AB (A_ Ax (bA (Bv K) (AB (AA 0) (AB (aS 19) AC))) (aS 9)) (AB (A_ A8 (aS 1) (bA (Bv K) (AB (AA 0) (AB (aS 6) AC)))) AC))))
def Rg:TS:=
 (AF (BC (EQ (Ak (A_ W_ (AA 3) (aS 1))) (Ak (A_ cy (AA 1) (As AC)))) (Aa (bA (IX K) (AB (A_ gL (AA 1) (bA (Bv K) (AB (AA 0) (AB (D' Ao (AB (AA 1) AC)) AC)))) (AB (A_ Ax (bA (Bv K) (AB (AA 0) (AB (aS 61) AC))) (aS 30)) AC)))) BA)
  (Rf K))
def Rh:TS:=
 (AF (BC (Ak (A_ W_ (AA 3) (aS 0))) (Aa (bA (KC K) (AB (AA 0) (AB (A_ A8 (aS 2) (bA (Bv K) (AB (AA 0) (AB (aS 2) AC)))) AC)))) BA)
  (Rg K))
def zG:TS:=
 (AF (BC (tB (AA 2)) (Aa (As (AB (A_ Ax (bA (Bv K) (AB (AA 0) (AB (aS 199999) AC))) (aS 99999)) (AB (A_ A8 (aS 1) (bA (Bv K) (AB (AA 0) (AB (aS 3) AC)))) AC)))) BA)
  (Rh K))
def zH:TS:=
 (AF (AJ (bA (Bv K) (AB (AA 0) (AB (aS 4) AC))) (AE 3))
  (zG K))
def zI:TS:=
 (AF (AJ (As (AB (aS 1) AC)) (AE 2))
  (AF (A4 (A5 K (AA 1)) (AE 3) (AJ (bA (J0 K) (AB (AA 2) (AB (AA 3) AC))) (AE 2)))
  (Aa (bA (J1 K) (AB (AA 2) (AB (bA (J2 K) (AB (AA 0) AC)) AC))))))
def Ri (_:W.Frag):TS:=
 (Aa (AA 11))
def Rj:TS:=
 (AF (BC (Ak (A_ cy (bA (IU K) (AB (bA (IX K) (AB (AA 1) (AB (AA 11) AC))) AC)) (AA 2))) (Aa (tC .non)) BA)
  (Ri K))
def Rk:TS:=
 (AF (AJ (A_ GD (AA 9) (AA 10)) (AE 11))
  (Rj K))
def Rl:TS:=
 (AF (BC (Ak (A_ av (A_ OG (AA 9) (AA 10)) (aS 0))) (Aa (tC .non)) BA)
  (Rk K))
def zJ:TS:=
 (AF (AJ (A_ A7 (A_ A7 (AA 6) (AA 8)) (AA 4)) (AE 10))
  (Rl K))
def zK:TS:=
 (AF (AJ (A_ Ax (A_ A7 (AA 5) (AA 8)) (A_ A7 (AA 7) (AA 6))) (AE 9))
  (zJ K))
def Rm:TS:=
 (AF (AJ (A_ gT (AA 3) (A_ Ax (AA 4) (aS 1))) (D4 2 (B6 (AE 7) (B6 (AE 8) D2))))
  (zK K))
def Ro:TS:=
 (AF (AJ (A_ gT (AA 2) (A_ Ax (AA 4) (aS 1))) (D4 2 (B6 (AE 5) (B6 (AE 6) D2))))
  (Rm K))
def Rp:TS:=
 (AF (BC (Ak (A_ av (D' JR (AB (AA 3) AC)) (D' JR (AB (AA 2) AC)))) (Aa (tC .non)) BA)
  (Ro K))
def Rq:TS:=
 (AF (AJ (A_ Ax (D' JR (AB (AA 2) AC)) (aS 1)) (AE 4))
  (Rp K))
def zL:TS:=
 (AF (F3 2 3 (AB (bA (IU K) (AB (AA 0) AC)) (AB (bA (IU K) (AB (AA 1) AC)) AC)))
  (Rq K))
def zM:TS:=
 (Aa (EV (AB (As (AB (AA 3) AC)) (AB (As (AB (bA (IX K) (AB (AA 3) (AB (A_ Ax (bA (Bv K) (AB (AA 0) (AB (A_ A8 (A_ A7 (aS 2) (AA 2)) (aS 1)) AC))) (AA 2)) AC))) AC)) AC))))
def zN:TS:=
 (AF (AJ (bA (KC K) (AB (AA 0) (AB (AA 1) AC))) (AE 3))
  (zM K))
def zO:TS:=
 (AF (AJ (A_ gL (As (AB (aS 99999) (AB (aS 3000) AC))) (A_ Ax (AA 1) (aS 2))) (AE 2))
  (zN K))
def Rr:TS:=
 (AF (AJ (A_ A8 (aS 2) (bA (Bv K) (AB (AA 0) (AB (aS 2) AC)))) (AE 1))
  (zO K))
def zP (_:W.Frag):TS:=
 (Aa (EV (AB (Z' sL (AA 5) Dn (Do (AA 4))) (AB (Z' sL (AA 5) (Do (AA 4)) Dn) AC))))
def Rs:TS:=
 (AF (AJ (A9 (DG (AB (A_ A7 (aS 2) (AA 4)) AC)) [none,some 0] (AE 0) (As (AB (A_ Ax (bA (Bv K) (AB (AA 1) (AB (aS 19) AC))) (aS 9)) (AB (A_ A8 (aS 1) (bA (Bv K) (AB (AA 1) (AB (aS 2) AC)))) AC)))) (AE 5))
  (zP K))
def Ru:TS:=
 (AF (AJ (A_ A8 (aS 6) (bA (Bv K) (AB (AA 0) (AB (aS 2) AC)))) (AE 4))
  (Rs K))
def zQ:TS:=
 (BC (Ak (A_ bK (A_ A8 (D' GG (AB (A9 (A5 K (AA 8)) [none] (AE 0) (A_ Ax (D' Ao (AB (AA 0) AC)) (aS 1))) AC)) (D' Ao (AB (AA 10) AC))) (aS 7))) (DK (ay K "list" ED (AA 8) (AB (AA 10) AC))) BA)
def zR:TS:=
 (AF (AJ (bA (KD K) (AB (AA 0) (AB (AA 7) (AB (AA 6) AC)))) (AE 10))
  (zQ K))
def Rv (_:W.Frag):TS:=
 (Aa (EV (AB (AA 7) (AB (AA 8) AC))))
def zS:TS:=
 (AF (A4 (DG (AB (bA (Bv K) (AB (AA 0) (AB (A_ Ax (aS 4) (D' K3 (AB (AA 6) AC))) AC))) AC)) (AE 9) (zR K))
  (Rv K))
def zT:TS:=
 (AF (AJ (As AC) (AE 8))
  (zS K))
def zU:TS:=
 (AF (Cu (Ak (A_ az (D' GG (AB (A9 (A5 K (AA 7)) [none] (AE 0) (A_ Ax (D' Ao (AB (AA 0) AC)) (aS 1))) AC)) (aS 5))) (DK (JO K "list" OE (AA 7))))
  (zT K))
def zV:TS:=
 (AF (AJ (A9 (DG (AB (bA (Bv K) (AB (AA 0) (AB (A_ Ax (aS 4) (D' K3 (AB (AA 6) AC))) AC))) AC)) [none,some 0,some 6] (AE 0) (bA (KD K) (AB (AA 1) (AB (As AC) (AB (AA 2) AC))))) (AE 7))
  (zU K))
def Rw:TS:=
 (AF (AJ (A_ W_ (bA (Bv K) (AB (AA 0) (AB (aS 3) AC))) (aS 0)) (AE 6))
  (zV K))
def Rx:TS:=
 (AF (BC (Ak (A_ W_ (bA (Bv K) (AB (AA 0) (AB (aS 8) AC))) (aS 0))) (Ru K) BA)
  (Rw K))
def zW:TS:=
 (AF (BC (Ak (A_ W_ (bA (Bv K) (AB (AA 0) (AB (aS 8) AC))) (aS 0))) (Rr K) BA)
  (Rx K))
def zX:TS:=
 (Aa (JH (A_ eqD (bA (IW K) (AB (AA 4) (AB (AA 5) AC))) (AA 8)) (A_ eqD (bA (IW K) (AB (AA 5) (AB (AA 4) AC))) (A9 (Gv K (AB (AA 8) AC)) [none] (AE 0) (T_ Bz (AA 0))))))
def zY:TS:=
 (AF (DK (ay K "list" ED (AA 9) (AB (aS 0) AC)))
  (zX K))
def zZ:TS:=
 (AF (BC (aC (ER (tB (D' OH (AB (AA 9) (AB (tC (.ty "list")) AC))))) (aC (Ak (A_ cy (AA 9) (AA 8))) (ER (tB (D' OM (AB (A9 (A5 K (AA 9)) [none] (AE 0) (D' Oh (AB (AA 0) (AB (tC (.ty "int")) AC)))) AC)))))) (Aa (tC (.bl false))) BA)
  (zY K))
def yA:TS:=
 (AF (AJ (bA (IW K) (AB (AA 4) (AB (AA 5) AC))) (AE 9))
  (zZ K))
def Ry:TS:=
 (AF (AJ (LK (AB (DX (A5 K (AA 6)) [none] (AE 0) (Ak (A_ OU (AA 0) (tC .non))) (AA 0)) AC)) (AE 8))
  (yA K))
def yB:TS:=
 (AF (A4 (A5 K (AA 2)) (AE 7) (AJ (A_ Go (AA 6) (A9 (A5 K (AA 3)) [none,some 7] (AE 0) (bA (MX K) (AB (AA 1) (AB (AA 0) AC))))) (AE 6)))
  (Ry K))
def yC:TS:=
 (AF (AJ (As AC) (AE 6))
  (yB K))
def yD:TS:=
 (AF (F3 4 5 (AB (bA (KE K) (AB (AA 1) (AB (AA 2) AC))) (AB (bA (KE K) (AB (AA 1) (AB (AA 3) AC))) AC)))
  (yC K))
def yE:TS:=
 (AF (AJ (bA (MY K) (AB (AA 1) AC)) (D4 2 (B6 (AE 2) (B6 (AE 3) D2))))
  (yD K))
def yF:TS:=
 (AF (AJ (bA (MK K) (AB (AA 0) AC)) (AE 1))
  (yE K))
end
variable {K:W.Frag} {vs:cW} {H:Hp} {Q:VK} {E:XK}
local macro_rules | `(tactic| rwa [$[$t:term],*]) => do
 let l : Array Lean.Term := (("AF AJ AL AB pK AC AE DU L2.start BC aV Ak L2.tB A_ pQ pM L2.tC T_ pR BA Aa EV As F3 pL DK D' EQ aC ER JH W_ av A8 Ax A7 Gp CZ OG bK iLe az iGe Bz pS pU FX F7 K3 pV pW pX pY pZ oA oB oC List.map_cons List.map_nil List.length_cons List.length_nil List.replicate List.cons_append List.nil_append List.append_nil List.getElem?_cons_zero List.getElem?_cons_succ Option.some.injEq exists_eq_left' exists_eq_left V.int.injEq V.bl.injEq V.ref.injEq V.ty.injEq HO.tup.injEq HO.lst.injEq List.cons.injEq and_true true_and and_assoc exists_and_left List.set_cons_zero List.set_cons_succ decide_eq_true_eq decide_eq_false_iff_not Bool.not_eq_true' Bool.true_eq_false Bool.false_eq_true Bool.not_true Bool.not_false if_true if_false ite_true ite_false oI oJ oD oE oF oG oH oK oM Nat.zero_add Nat.reduceAdd Nat.reduceSub upd_same Int.cast_ofNat_Int decide_true decide_false eq_self not_true_eq_false not_false_eq_true Int.natCast_add Int.natCast_zero reduceCtorEq Nm D2 Gj Z' Dn Do oT oU oV D3 ay JO oN oO oP oQ oS oZ oY oR oW oX OW WV OX OT OU Gw GD OV K9 Ca Option.bind_some Option.bind_none Option.bind Option.join id_eq sS nA GQ MG MH Ju YI Jz J3 MK J1 J2".splitOn " ").map λs => (⟨(Lean.mkIdent s.toName).raw⟩ : Lean.Term)).toArray
 `(tactic| simp only [$[$(l ++ t):term],*])
def Ma {x:Int} (a:-1099511627776<x) (b:x<1099511627776):Bd 40 x:=by
 show x.natAbs<1099511627776;omega
def IY {a b:Int} (c:Bd 60000000 a) (d:Bd 60000000 b):IntMulOk a b:=Wd c d `b
def mulR {a b:Int} (c:-18446744073709551616<b) (d:b<18446744073709551616):IntMulOk a b:=IntMulOk.of_right (intBits_le_64 `a `a)
def mulL {a b:Int} (c:-18446744073709551616<a) (d:a<18446744073709551616):IntMulOk a b:=IntMulOk.of_left (intBits_le_64 `a `a)
def yG (h:GQ K vs H Q E):QP K { nx:=λ_ d=>Q .non d,rt:=Q } (L2.start ["one","other","rest"] vs) H:=by
 let {a,b,rfl,q}:=h;unfold QP;rwa [];refine while_by (λm f d=>∃ (x y:Int) (r:cX),f=[some (.int x),some (.int y),r]/\d=H/\Int.gcd x y=Int.gcd a b/\m=y.natAbs) b.natAbs ⟨a,b,none,rfl,rfl,rfl,rfl⟩ ?_;rintro m f d ⟨x,y,r,rfl,rfl,g,rfl⟩;rwa [];refine Ab (λc=>?_) (λc=>?_)
 .refine {λi j=>∃ k,k<y.natAbs/\_,λ_ _ h=>h,?_};refine {c,_,V3 x c,y,x.fmod y,1,2,?_,2};rw [OF];exact g
 .let n:y=0:=Decidable.not_not.mp c;subst n
  let e:(if x<0 then -x else x)=((Int.gcd a b:Nat):Int):=by
   rw [<-g,Int.gcd_zero_right];split <;> omega
  rw [e];exact q
def yH {ns:cY} {k:Int} (b:0<=k) (h:k<(@ns:Int)):∃ v:Int,M' (~~~ns) k=some (.int v):=by
 let hk:k.toNat<@ns:=by omega
 let a:k=((k.toNat:Nat):Int):=by omega
 let q:M' (~~~ns) ((k.toNat:Nat):Int)=some (.int ns[k.toNat]):=DL (by rw [Ah,AR hk] <;> rfl);rw [<-a] at q;exact {_,q}
def yI (h:ME K vs H Q E):QQ K { nx:=λ_ f=>Q .non f,rt:=Q } (L2.start ["whole","n","result","square"] vs) H:=by
 let {x,n,b,rfl,I,B,J,q}:=h;unfold QQ;rwa []
 let p:∀ k:Nat,k<=n.toNat->Bd 60000000 (x ^ k):=λk hk=>(B.pow k).mono (by
  have:=De b hk;omega)
 refine while_by (λm A f=>∃ r s:Nat,A=[some (.int x),some (.int (m:Int)),some (.int (x ^ r)),some (.int (x ^ s))]/\f=H/\r+s*m=n.toNat) n.toNat ⟨0,1,?_,rfl,`a⟩ ?_
 .let e:((n.toNat:Nat):Int)=n:=by omega
  rw [e,Int.pow_zero,show x ^ 1=x by rw [Int.pow_succ,Int.pow_zero,Int.one_mul]]
 rintro m A f ⟨r,s,rfl,rfl,L⟩;rwa [];refine Ab (λc=>?_) (λc=>?_)
 .let m1:1<=m:=by omega
  let M:s<=s*m:=Gc s m1;let C:K2 (m:Int) 2:={`b,(V2 `b `b).mono `b}
  let i:s*m=(s+s)*(m / 2)+s*(m % 2):=by
   let e:m=2*(m / 2)+m % 2:=(Nat.div_add_mod m 2).symm;generalize m / 2=u at e ⊢;generalize m % 2=v at e ⊢;subst e;rw [Nat.mul_add];congr 1;rw [<-Nat.mul_assoc,Cq s 2];congr 1;omega
  let D:((m:Int) / 2)=((m / 2:Nat):Int):=by omega
  rw [D];refine {λF G=>∃ d,d<m/\_,λ_ _ h=>h,?_}
  let j:∀ g:Nat,g+(s+s)*(m / 2)=n.toNat->K2 (m:Int) 2/\if 0<((m / 2:Nat):Int) then IntMulOk (x ^ s) (x ^ s)/\∃ d,d<m/\∃ r a,[some (V.int x),some (V.int ((m / 2:Nat):Int)),some (V.int (x ^ g)),some (V.int (x ^ s*x ^ s))]=[some (V.int x),some (V.int (d:Int)),some (V.int (x ^ r)),some (V.int (x ^ a))]/\f=f/\r+a*d=n.toNat
    else ∃ d,d<m/\∃ r a,[some (V.int x),some (V.int ((m / 2:Nat):Int)),some (V.int (x ^ g)),some (V.int (x ^ s))]=[some (V.int x),some (V.int (d:Int)),some (V.int (x ^ r)),some (V.int (x ^ a))]/\f=f/\r+a*d=n.toNat:=λg o=>by
   refine {C,Ab (λw=>?_) (λw=>?_)}
   .exact {IY (p s `a) (p s `a),m / 2,`a,g,s+s,by rw [Int.pow_add],2,o}
   .let z:m / 2=0:=by omega
    rw [z] at o ⊢;exact {0,`a,g,s,7,`a}
  refine {`b,Ab (λw=>{IY (p r `a) (p s `a),?_}) (λw=>?_)}
  .rw [<-Int.pow_add];let y:m % 2=1:=by omega
   rw [y] at i;exact j (r+s) `a
  .let y:m % 2=0:=by omega
   rw [y] at i;exact j r `a
 .let z:m=0:=by omega
  subst z;let e:r=n.toNat:=by omega
  subst e;exact q
def yJ {l:cU} {i:Nat} {q:Nu} (h:l[i]?=some q):(l.take (i+1)).foldl (λB q=>B*(q.2 / ((Int.gcd B q.2:Nat):Int))) 1=(l.take i).foldl (λB q=>B*(q.2 / ((Int.gcd B q.2:Nat):Int))) 1*(q.2 / ((Int.gcd ((l.take i).foldl (λB q=>B*(q.2 / ((Int.gcd B q.2:Nat):Int))) 1) q.2:Nat):Int)):=by
 rw [C4,h,List.foldl_append];rfl
def HN {a b:Type} {l:List a} {i:Nat} {q:a} (f:a->b) (h:l[i]?=some q):(l.take (i+1)).map f=(l.take i).map f++[f q]:=by
 rw [C4,h,Bj];rfl
def DP (n:Nat) (f:dh):(Al n f).length=n:=by unfold Al;rw [AI,AI,Bg]
def Cy {n k:Nat} (f:dh) (h:k<n):(Al n f)[k]?=some (.int (f k)):=by
 unfold Al;rw [Ah,Ah,DS h];rfl
def Fp {n k:Nat} {f g:dh} {z:Int} (h:k<n) (b:g k=z) (c:∀ i,i<n->i≠k->g i=f i):(Al n f).set k (.int z)=Al n g:=by
 apply EL;intro i;by_cases a:i<n
 .by_cases e:i=k
  .subst e;rw [List.getElem?_set_self (by rw [DP];exact a),Cy g a,b]
  .rw [List.getElem?_set_ne (λz=>e z.symm),Cy f a,Cy g a,c i a e]
 .rw [CB (by rw [Dw,DP];omega),CB (by rw [DP];omega)]
def FI {n:Nat} {f g:dh} (h:∀ i,i<n->g i=f i):Al n f=Al n g:=by
 apply EL;intro i;by_cases a:i<n
 .rw [Cy f a,Cy g a,h i a]
 .rw [CB (by rw [DP];omega),CB (by rw [DP];omega)]
def KF (n:Nat):(List.replicate n [V.int 0]).flatten=Al n λ_=>0:=by
 rw [G3];apply EL;intro i;by_cases a:i<n
 .rw [Cy _ a,E3,nC a]
 .rw [E3,nB a,CB (by rw [DP];omega)]
def Fq {n k:Nat} {i:Int} (e:i=(k:Int)) (h:k<n):aa n i=some k:=by
 subst e;unfold aa;rw [nC `a,nC `a];simp
def Mb {m n:Nat} {x y:Int} (a:Bd m x) (b:Bd n y) (c:m<=60000000:=by decide) (d:n<=60000000:=by decide):IntMulOk x y:=IY (a.mono c) (b.mono d)
def IZ (ns:cY) (m:Nat):DO ns (m+1)=if ns.getD m 1=0 then DO ns m else m+1:=rfl
def yK (h:HK K vs H Q E):QS K { nx:=λ_ d=>Q .non d,rt:=Q } (L2.start ["row","many"] vs) H:=by
 let {p,a,rfl,hp,q}:=h;unfold QS;rwa [hp]
 let b:∀ m:Nat,m<=@a->DO a m=DO a @a->DO a m=m->∀ r,H r=none->Q (V.ref r) (upd H r (.lst (CD (~~~a) none (some (m:Int))))):=λm j n o r u=>by
  rw [IB (by rw [AI];exact j),<-List.map_take,<-o,n];exact q r u
 refine while_by (λm g d=>g=[↥p,some (.int (m:Int))]/\d=H/\DO a m=DO a @a/\m<=@a) @a {by rw [AI],7,AT _} ?_;rintro m g d ⟨rfl,rfl,e,i⟩;rwa [hp];refine Ab (λc=>?_) (λc=>?_)
 .let {k,rfl}:∃ k,m=k+1:={m - 1,`a}
  let v:(~~~a)[k]?=some (V.int (a.getD k 1)):=by
   rw [Ah,AR `a,AN,AR `a];rfl
  refine {_,DH `a v,2,Ab (λf=>?_) (λf=>?_)}
  .let z:a.getD k 1=0:=by injection f
   rw [IZ,nC z] at e;exact {λw x=>∃ y,y<k+1/\_,λ_ _ h=>h,k,`a,by rw [show ((k+1:Nat):Int) - 1=(k:Int) by omega],2,e,`a}
  .let z:a.getD k 1≠0:=λz=>f (by rw [z]);exact b (k+1) i e (by rw [IZ,nB z])
 .let z:m=0:=by omega
  subst z;exact b 0 i e rfl
theorem Mc (ns:cY):∀ m,DO ns m<=m
 | 0=>AT 0
 | m+1=>by
   rw [IZ];split
   .exact Nat.le_succ_of_le (Mc ns m)
   .exact AT _
def Me {ns:cY}:(C9 ns).length=DO ns @ns:=by
 unfold C9;rw [Ba,Nat.min_eq_left (Mc ns @ns)]
def Rz {ns:cY} (k:Nat):(C9 ns).getD k 0=ns.getD k 0:=by
 let g:∀ (m:Nat),m<=@ns->(∀ j,m<=j->j<@ns->ns.getD j 0=0)->∀ j,DO ns m<=j->j<@ns->ns.getD j 0=0:=by
  intro m
  induction m with
  | zero=>intro _ h j i c;exact h j `a c
  | succ m n=>
    intro o h j d f;rw [IZ] at d;split at d
    .rename_i z;refine n `a (λj i c=>?_) j d f;by_cases e:j=m
     .subst e;rw [AN,AR c] at z ⊢;exact z
     .exact h j `a c
    .exact h j d f
 by_cases d:k<DO ns @ns
 .unfold C9;rw [AN,AN,List.getElem?_take_of_lt d]
 .let e:(C9 ns).getD k 0=0:=by
   rw [AN,CB (by rw [Me];omega)];rfl
  rw [e];by_cases f:k<@ns
  .exact (g @ns (AT _) (λj a b=>absurd b `a) k `a f).symm
  .rw [AN,CB `a];rfl
theorem yL {ns:cY} {g:Int} (h:∀ z∈ns,g∣z) (k:Nat):g∣ns.getD k 0:=by
 rw [AN];cases e:ns[k]? with
 | none=>exact DR g
 | some z=>exact h z (Bb e)
def yM {m:cU} (b:D5 m) (f:Nz m) (h:1<=@m):(BI m).getD (@m - 1) 0≠0:=by
 rw [XW,XV];let a:@m - 1<@m:=by omega
 let q:=f m[@m - 1] (by rw [List.getLast?_eq_getElem?];exact AR a);let e:Dp m (@m - 1)=m[@m - 1]:=by unfold Dp;rw [AN,AR a];rfl
 rw [e];refine Bo q ?_;let o:=G0 b;let d:=o.2 m[@m - 1] (CN a);let {y,c}:=d;let g:=(b m[@m - 1] (CN a)).pos;rw [c,Gf _ (BL g)];intro z;rw [z,Dg] at c;have:=o.1;omega
def yN {xs:cW} {v:V} (h:1<=@xs) (e:xs[@xs - 1]?=some v):M' xs (-1)=some v:=by
 unfold M' aa;rw [nB `b,nC `a,show (-1+(@xs:Int)).toNat=@xs - 1 by omega];exact e
def yO (h:Jz K vs H Q E):RG K { nx:=λ_ d=>Q .non d,rt:=Q } (L2.start ["P","bottom","number"] vs) H:=by
 let {p,f,l,M,rfl,hp,v,j,g,w,J,hl,q}:=h;unfold RG;rwa [hp];let C:=@v;let L:=(G0 j).1;let N:=Je (BL g.1) (PV j g) w;let D:∀ q∈l,Bd 400000 q.2:=λq k=>Je (BL g.1) (g.2 q k) w;refine {{_,SqT.of hp},ForT.by (xs:=f) (λi m d=>∃ x,m=[↥p,some (.int ((l.take i).foldl (λB q=>B*(q.2 / ((Int.gcd B q.2:Nat):Int))) 1)),x]/\d=H) ⟨none,rfl,rfl⟩ ?_ ?_ ?_}
 .rintro i m d _ ⟨x,rfl,rfl⟩;exact hp
 .rintro i x m d n ⟨y,rfl,rfl⟩;let {z,hz,F,rfl,b}:=v.get n;let o:=j z (Bb hz);let G:=D z (Bb hz);let {O,P}:=LY (M:=M) (l.take i) 1 (λq k=>{(j q (Ek k)).pos,g.2 q (Ek k)}) `b (Int.one_dvd M);let R:=Je (BL g.1) P w;let {s1,_,_,S,T,s6}:=LV O o.pos;refine {4,5,b,2,4,5,b,2,6,3,T,3,Mb R (G.le S),↥F,?_,2};rw [yJ hz];try rfl
 .rintro m d ⟨x,rfl,rfl⟩;rw [C,B4];rwa [hp];refine {{_,SqT.of hp},CompJ.tup (xs:=f) (λi u c=>i<=@f/\u=((BI l).take i).map V.int/\c=d) {AV _,7} ?_ ?_ ?_}
  .rintro i u c ⟨I,rfl,rfl⟩;refine {I,sz ?_,hp};rw [AI,Ba];omega
  .rintro i x u c n ⟨I,rfl,rfl⟩;let {z,hz,F,rfl,b}:=v.get n;let o:=j z (Bb hz);let G:=D z (Bb hz);let U:=J z (Bb hz);let W:i<@f:=(A3.mp n).1;rwa [b];let X:l.foldl (λB q=>B*(q.2 / ((Int.gcd B q.2:Nat):Int))) 1=DM l:=rfl;rw [X];let Y:(BI l)[i]?=some (z.1*(DM l / z.2)):=by unfold BI;rw [Ah,hz];rfl
   refine {o.pos,Mb U (N.le (XU L o.pos)),`a,?_};rw [HN V.int Y]
  .rintro u c ⟨_,rfl,rfl⟩ a Z;refine {sz `b,λr A=>?_}
   let e:(BI l).take @f=BI l:=by
    rw [C,show @l=(BI l).length by unfold BI;rw [AI],B4]
   rw [e] at A ⊢;let s:=(AO Z (.lst ((BI l).map V.int))).trans (AO A (.tup [.ref a,.int (DM l)]));exact q r a _ s upd_same (AO A _ _ _ upd_same)
def yP {b:Nat} {l:cU} {M:Int} (d:D5 l) (h:Ov l M) (e:∀ z∈aY l M,Bd b z):∀ q∈l,Bd b q.1:=λq a=>by
 refine (e (q.1*(M / q.2)) (Am.mpr ⟨q,a,rfl⟩)).le ?_;rw [BK];let {y,c}:=h.2 q a;let f:=(d q a).pos;let i:=h.1;have:M / q.2=y:=by rw [c,Gf _ (BL f)]
 rw [this];refine Gc _ ?_;rcases Dx y.natAbs with z | z
 .let g:y=0:=by omega
  rw [g] at c;omega
 .exact z
def KG {g f:cY} (b:Lz g) (lf:Lz f) (o:MQ (co g) (co f)):@g<=@f:=by
 let {c,p,A,d}:=o;rcases BE @f @g with y | y
 .exfalso;rcases Et A with z | ⟨B,h,_,q⟩
  .have:c*co f (@f - 1)=0:=by rw [d,B2,Fe g z]
   rcases Int.mul_eq_zero.mp this with e | e
   .exact p e
   .exact lf.2 e
  .let r:∀ k,c*co f k=cvL B (co g) k:=λk=>by rw [d,B2,Be (λj=>(q j).symm) g k,<-B2]
   let u:=h.1;let F:=b.1;let m:B≠[]:=DE.mp u;let {X,t,a}:∃ X t,B=X++[t]:={B.dropLast,B.getLast m,(List.dropLast_concat_getLast m).symm};let v:@X=@B - 1:=by rw [a];simp
   let w:co B (@B - 1)=t:=by rw [<-v,a];unfold co;simp [AN]
   let e:=r (@B - 1+(@g - 1));rw [AX `a,a,Es,<-a,Dr (n:=@g) (λi C=>AX C) X _ `a] at e;unfold Aw at e;rw [nC `a,show @B - 1+(@g - 1) - @X=@g - 1 by omega] at e;let D:t*co g (@g - 1)=0:=by omega
   rcases Int.mul_eq_zero.mp D with x | x
   .exact h.2 (w.trans x)
   .exact b.2 x
 .exact y
theorem Ia {g:dh} {h q:Nat} (c:∀ k,(g k).natAbs<=h):∀ (a:cY),(∀ z∈a,z.natAbs<=q)->∀ k,(cvL a g k).natAbs<=@a*(q*h)
 | [],_,k=>by show (0:Int).natAbs<=_;simp
 | x::a,b,0=>by
   rw [BO];let d:(x*g 0).natAbs<=q*h:=by rw [BK];exact EM (b x (BX ..)) (c 0)
   have:(x::a).length*(q*h)=@a*(q*h)+q*h:=by rw [Cj,Nat.add_mul,Nat.one_mul]
   omega
 | x::a,b,k+1=>by
   rw [BG];let d:(x*g (k+1)).natAbs<=q*h:=by rw [BK];exact EM (b x (BX ..)) (c (k+1))
   let e:=Ia c a (λz hz=>b z (Br _ hz)) k;have:(x::a).length*(q*h)=@a*(q*h)+q*h:=by rw [Cj,Nat.add_mul,Nat.one_mul]
   omega
def R1 {A B u v:cY} (i:Lz A) (c:Lz B) (q:QI (co A) (co B) EZ) (g:@u<@B) (j:@v<@A) (h:∀ k,cvL u (co A) k+cvL v (co B) k=0):(∀ k,co u k=0)/\∀ k,co v k=0:=by
 let {d,m,U,V,b}:=q
 let a:∀ {A B u v U V:cY},Lz B->(∀ k,d*EZ k=cvL U (co A) k+cvL V (co B) k)->@u<@B->(∀ k,cvL u (co A) k+cvL v (co B) k=0)->∀ k,co u k=0:=λ{A B u v U V} c b g h=>by
  rcases Et u with z | ⟨f,n,r,o⟩
  .exact z
  .exfalso
   let p:MQ (co B) (co f):=by
    refine {d,m,Ay (CH V u) ((CH U v).map ((-1)*·)),λk=>?_};rw [Bw,BS,Cw,Cw,o k,CP u k,<-EF,Be b,Hz,Jf (co A) u U,Jf (co B) u V]
    let e:cvL U (cvL u (co A)) k = - cvL U (cvL v (co B)) k:=by
     have:cvL U (cvL u (co A)) k+cvL U (cvL v (co B)) k=0:=by rw [<-Hz];exact Fe U h k
     omega
    rw [e];omega
   have:=KG c n p;omega
 exact {a c b g h,a (A:=B) (B:=A) (u:=v) (v:=u) (U:=V) (V:=U) i (λk=>by rw [b k];omega) j (λk=>by have:=h k;omega)}
def FJ {a b:Int} (h:a=b):a∣b:=by rw [h];exact Int.dvd_refl b
theorem bU {p:Int} {f g:dh} {S:cY} (h:∀ k,p∣f k - cvL S g k):∀ (a:cY) (k:Nat),p∣cvL a f k - cvL a (cvL S g) k
 | [],k=>by show p∣(0:Int) - 0;simp
 | x::a,0=>by
   rw [BO,BO];have:=CO (h 0) (Int.dvd_mul_left x _);rw [Int.mul_sub] at this;refine CO this (FJ ?_);omega
 | x::a,k+1=>by
   rw [BG,BG];let b:=CO (h (k+1)) (Int.dvd_mul_left x _);let c:=bU h a k;rw [Int.mul_sub] at b;have:=DC b c;refine CO this (FJ ?_);omega
theorem Mg:∀ (a b:cY),(Ay a b).length=max @a @b
 | [],b=>by show @b=max 0 @b;omega
 | a,[]=>by rw [Ld];show @a=max @a 0;omega
 | x::a,y::b=>by
   show (Ay a b).length+1=max (@a+1) (@b+1);rw [Mg a b];omega
def KH {a b:cY} (c:@a=@b) (h:∀ k,co a k=co b k):a=b:=by
 refine List.ext_getElem c λi d e=>?_;have:=h i;unfold co at this;rwa [AN,AN,AR d,AR e] at this
def ca {A B G:cY} {p b:Nat} (hp:Pr p) (lA:Lz A) (lB:Lz B) (q:QI (co A) (co B) EZ) (hA:∀ k,Bd b (co A k)) (hB:∀ k,Bd b (co B k)) (n1:2<=@A) (m1:2<=@B) (g2:2<=@G) (g1:¬ (p:Int)∣co G (@G - 1)) (dA:Dm (p:Int) (co G) (co A)) (dB:Dm (p:Int) (co G) (co B))
  (j:(2*((@A+@B)*2 ^ b)) ^ (@A+@B - 2)<p):False:=by
 let p2:=hp.two;let R:0<p:=by omega
 generalize hn:@A - 1=n at *;generalize hm:@B - 1=m at *;generalize hE:(@A+@B)*2 ^ b=E at *;let N1:@A+@B - 2=n+m:=by omega
 rw [N1] at j;let X:∀ k,(co A k).natAbs<=2 ^ b:=λk=>Dc (hA k);let Y:∀ k,(co B k).natAbs<=2 ^ b:=λk=>Dc (hB k);let E0:0<E:=by rw [<-hE];exact Nat.mul_pos `a (DD `b)
 let {u,S}:∃ u:Nat->cY,∀ t,u t=(P_ p (m+n) t).take m:={_,λ_=>rfl};let {v,T}:∃ v:Nat->cY,∀ t,v t=(P_ p (m+n) t).drop m:={_,λ_=>rfl};let {f,U}:∃ f:Nat->dh,∀ t k,f t k=cvL (u t) (co A) k+cvL (v t) (co B) k:={_,λ_ _=>rfl};let I:∀ t,(u t).length=m:=λt=>by rw [S,Ba,IH];omega
 let J:∀ t,(v t).length=n:=λt=>by rw [T,List.length_drop,IH];omega
 let uz:∀ t,∀ z∈u t,0<=z/\z<(p:Int):=λt z hz=>II R _ t z (Ek (S t ▸ hz));let vz:∀ t,∀ z∈v t,0<=z/\z<(p:Int):=λt z hz=>II R _ t z (List.mem_of_mem_drop (T t ▸ hz))
 let fb:∀ t k,(f t k).natAbs<E*p:=λt k=>by
  let d:=Ia (q:=p - 1) X (u t) (λz hz=>by have:=uz t z hz;omega) k;let g:=Ia (q:=p - 1) Y (v t) (λz hz=>by have:=vz t z hz;omega) k;rw [I] at d;rw [J] at g
  let h3:(f t k).natAbs<=(m+n)*((p - 1)*2 ^ b):=by
   rw [Nat.add_mul,U];omega
  refine Cr h3 ?_;rw [<-hE];let e:(m+n)*((p - 1)*2 ^ b)=((m+n)*2 ^ b)*(p - 1):=by rw [Cq (p - 1),Nat.mul_assoc]
  rw [e];exact BZ (Nat.mul_lt_mul_of_pos_left `a (Nat.mul_pos `a (DD `b))) (Ct p (Ct _ `a))
 let {W,o}:∃ W:Nat->Nat,∀ t,W t=(f t 0 / (p:Int)+(E:Int)).toNat:={_,λ_=>rfl};let {L,r}:∃ L:Nat->Nat->Nat,∀ t k,L t k=(f t (k+1)+((E*p:Nat):Int)).toNat:={_,λ_ _=>rfl}
 let w:∀ t,0<=f t 0 / (p:Int)+(E:Int)/\f t 0 / (p:Int)+(E:Int)<2*(E:Int):=λt=>by
  let h:=fb t 0
  let d:-((E:Int)*(p:Int))<=f t 0:=by have:((E*p:Nat):Int)=(E:Int)*(p:Int):=by push_cast;rfl
                                      omega
  let g:f t 0<(E:Int)*(p:Int):=by have:((E*p:Nat):Int)=(E:Int)*(p:Int):=by push_cast;rfl
                                  omega
  let q1:-(E:Int)<=f t 0 / (p:Int):=by
   refine (Int.le_ediv_iff_mul_le `a).mpr ?_;rw [Int.neg_mul];exact d
  let q2:f t 0 / (p:Int)<(E:Int):=Int.ediv_lt_of_lt_mul `a g;omega
 let C:∀ t k,0<=f t (k+1)+((E*p:Nat):Int)/\f t (k+1)+((E*p:Nat):Int)<2*((E*p:Nat):Int):=λt k=>by
  let h:=fb t (k+1);omega
 let D:∀ t,W t<2*E:=λt=>by have:=w t;rw [o];omega
 let F:∀ t k,L t k<2*(E*p):=λt k=>by have:=C t k;rw [r];omega
 let cl:∀ t,W t+2*E*aM (2*(E*p)) (m+n - 1) (L t)<2*E*(2*(E*p)) ^ (m+n - 1):=λt=>by
  let d:=Ll (M:=2*(E*p)) (m+n - 1) (L t) (λk _=>F t k);let g:2*E*(aM (2*(E*p)) (m+n - 1) (L t)+1)<=2*E*(2*(E*p)) ^ (m+n - 1):=De _ d;let h3:=D t;rw [Nat.mul_add,Nat.mul_one] at g;omega
 let P:2*E*(2*(E*p)) ^ (m+n - 1)<p ^ (m+n):=by
  let {N,hN}:∃ N,m+n=N+1:={m+n - 1,`a};rw [hN,Nat.add_sub_cancel];rw [Nat.add_comm n m,hN] at j
  let e:2*E*(2*(E*p)) ^ N=(2*E) ^ (N+1)*p ^ N:=by
   rw [<-Nat.mul_assoc 2 E p,Nat.mul_pow (2*E) p N,Cg,Cq ((2*E) ^ N) (2*E),Nat.mul_assoc (2*E)]
  rw [e,Cg p,Cq (p ^ N) p];exact Nat.mul_lt_mul_of_pos_right j (DD R)
 let {s,t,st,ht,e}:=cH _ _ _ (λi _=>cl i) P;let {Z,q1}:=Lm (D s) (D t) e;let qk:=Ln (m+n - 1) _ _ (λk _=>F s k) (λk _=>F t k) q1;let w0:∀ k,(co (u s) k - co (u t) k)=co (Ay (u s) ((u t).map ((-1)*·))) k:=λk=>by rw [CP,CP,CP,Bw,BS];omega
 let df:∀ k,f s k - f t k=cvL (Ay (u s) ((u t).map ((-1)*·))) (co A) k+cvL (Ay (v s) ((v t).map ((-1)*·))) (co B) k:=λk=>by
  rw [Bw,Bw,BS,BS,U,U];omega
 let O:∀ k,0<k->f s k - f t k=0:=λk hk=>by
  rcases BE k (m+n) with c | c
  .have:=qk (k - 1) `a;let r1:=C s (k - 1);let r2:=C t (k - 1);rw [r,r,show k - 1+1=k by omega] at this;rw [show k - 1+1=k by omega] at r1 r2;omega
  .let z:∀ t,f t k=0:=λt=>by
    rw [U,Dr (n:=@A) (λi O=>AX O) (u t) k (by rw [I];omega),Dr (n:=@B) (λi O=>AX O) (v t) k (by rw [J];omega)];rfl
   rw [z,z];rfl
 let d0:(f s 0 - f t 0).natAbs<p:=by
  let r1:=w s;let r2:=w t;rw [o,o] at Z;let Z:f s 0 / (p:Int)=f t 0 / (p:Int):=by omega
  let m1:=FR (f s 0) p;let m2:=FR (f t 0) p;let b1:=B3 (f s 0) (show (p:Int)≠0 by omega);let b2:=CM (f s 0) (show (0:Int)<p by omega);let b3:=B3 (f t 0) (show (p:Int)≠0 by omega);let b4:=CM (f t 0) (show (0:Int)<p by omega);rw [Z] at m1;omega
 let dm:Dm (p:Int) (co G) (co [f s 0 - f t 0]):=by
  let {SA,a0}:=dA;let {SB,a3}:=dB;refine {Ay (CH (Ay (u s) ((u t).map ((-1)*·))) SA) (CH (Ay (v s) ((v t).map ((-1)*·))) SB),λk=>?_}
  let e:co [f s 0 - f t 0] k=f s k - f t k:=by
   cases k with
   | zero=>rfl
   | succ k=>rw [O (k+1) `a];exact AX (by simp)
  rw [e,df,Bw (co G),Cw,Cw];let d:=bU (p:=(p:Int)) a0 (Ay (u s) ((u t).map ((-1)*·))) k;let g:=bU (p:=(p:Int)) a3 (Ay (v s) ((v t).map ((-1)*·))) k;have:=DC d g;refine CO this (FJ ?_);omega
 let z0:f s 0 - f t 0=0:=by
  by_cases c:(p:Int)∣f s 0 - f t 0
  .let {y,hy}:=c;rcases Int.lt_trichotomy y 0 with z | z | z
   .have:(p:Int)*y<=(p:Int)*(-1):=EN `a `a;omega
   .rw [hy,z];omega
   .have:(p:Int)*1<=(p:Int)*y:=EN `a `a;omega
  .exfalso;have:=Dm.len hp `a g1 dm ⟨0,c⟩;simp at this;omega
 let all:∀ k,cvL (Ay (u s) ((u t).map ((-1)*·))) (co A) k+cvL (Ay (v s) ((v t).map ((-1)*·))) (co B) k=0:=λk=>by
  rw [<-df];cases k with
  | zero=>exact z0
  | succ k=>exact O (k+1) `a
 let ll:∀ {a c:cY} {x:Nat},@a=x->@c=x->(Ay a (c.map ((-1)*·))).length=x:=λ{a c x} d g=>by
  rw [Mg,AI,d,g];omega
 let {c1,c2}:=R1 lA lB q (by rw [ll (I s) (I t)];omega) (by rw [ll (J s) (J t)];omega) all;let eu:u s=u t:=KH (by rw [I,I]) λk=>by have:=c1 k;rw [<-w0] at this;omega
 let ev:v s=v t:=KH (by rw [J,J]) λk=>by
  have:=c2 k;rw [CP,Bw,BS,<-CP,<-CP] at this;omega
 have:P_ p (m+n) s=P_ p (m+n) t:=by
  rw [<-List.take_append_drop m (P_ p (m+n) s),<-List.take_append_drop m (P_ p (m+n) t)];rw [<-S,<-T,<-S,<-T,eu,ev]
 have:=Lo R _ _ _ `a `a this;omega
theorem R3:∀ (a l:cY),a.Nodup->(∀ t∈a,evI l t=0)->@l<=@a->∀ k,co l k=0
 | [],l,_,_,h,k=>AX (by have:@l=0:=by simpa using h
                        omega)
 | t::a,l,i,d,j,k=>by
   let b:=List.nodup_cons.mp i;let e:=d t (BX ..);let sd:co (W' l t) ((W' l t).length - 1)=0:=by rw [Ji];exact Xq l t
   let f:=Lg sd
   let z:∀ k,co (W' l t) k=0:=λk=>by
    rw [<-f k];refine R3 a (W' l t).dropLast b.2 (λx g=>?_) (by rw [List.length_dropLast,Ji];simp at j;omega) k;rw [Lh _ _ x f];let c:=Li l t x;rw [d x (Br _ g),e] at c
    let m:x - t≠0:=λq=>b.1 (by have:x=t:=by omega
                               rw [<-this];exact g)
    let c:(x - t)*evI (W' l t) x=0:=by omega
    rcases Int.mul_eq_zero.mp c with q | q
    .exact absurd q m
    .exact q
   rw [Jj l t k,z k];split
   .rw [e];omega
   .rw [z (k - 1)];omega
def yQ (n:Nat):((List.range (2*n+1)).map λi:Nat=>(i:Int) - (n:Int)).Nodup:=by
 unfold List.Nodup;rw [List.pairwise_map];exact (List.nodup_range (n:=2*n+1)).imp λh q=>h `a
theorem R4 (f:Int->Bool):∀ P:cY,(P.filter f).length+(P.filter λx=>!f x).length=@P
 | []=>rfl
 | x::P=>by
   have:=R4 f P;rw [List.filter_cons,List.filter_cons,Cj];cases f x
   .simp;omega
   .simp;omega
def yR {r:cY} {n:Nat} (u:∃ k,co r k≠0) (B:@r<=n):∃ x:dh,(∀ i,i<=n->evI r (x i)≠0/\(x i).natAbs<=n)/\∀ i j,i<=n->j<=n->i≠j->x i≠x j:=by
 letI P:cY:=(List.range (2*n+1)).map λi:Nat=>(i:Int) - (n:Int)
 let C:@P=2*n+1:=by show ((List.range (2*n+1)).map λi:Nat=>(i:Int) - (n:Int)).length=_;rw [AI,Bg]
 let o:P.Nodup:=yQ n
 let v:∀ x∈P,x.natAbs<=n:=λx w=>by
  let {i,b,rfl}:=Am.mp w;have:=DB.mp b;omega
 let d:(P.filter λx=>decide (evI r x=0)).length+(P.filter λx=>!decide (evI r x=0)).length=@P:=by
  exact R4 _ P
 let y:(P.filter λx=>decide (evI r x=0)).length<@r:=by
  rcases BE (P.filter λx=>decide (evI r x=0)).length @r with c | c
  .exact c
  .exfalso;let {k,hk}:=u;exact hk (R3 _ r (o.filter _) (λt z=>by simpa using (List.mem_filter.mp z).2) c k)
 letI Gd:=P.filter λx=>!decide (evI r x=0)
 let D:n+1<=@Gd:=by
  show n+1<=(P.filter λx=>!decide (evI r x=0)).length;omega
 let A:Gd.Nodup:=o.filter _;refine {λi=>Gd.getD i 0,λi b=>?_,λi j b F f e=>?_}
 .let a:i<@Gd:=by omega
  let e:Gd.getD i 0=Gd[i]:=by rw [AN,AR a];rfl
  show evI r (Gd.getD i 0)≠0/\(Gd.getD i 0).natAbs<=n;rw [e];let m:=List.mem_filter.mp (CN a);exact {by simpa using m.2,v _ m.1}
 .let g:i<@Gd:=by omega
  let h:j<@Gd:=by omega
  let e:Gd.getD i 0=Gd.getD j 0:=e;rw [AN,AN,AR g,AR h] at e;let e:Gd[i]=Gd[j]:=e;let p:=List.pairwise_iff_getElem.mp A;rcases Nat.lt_or_gt_of_ne f with q | q
  .exact p i j g h q e
  .exact p j i h g q e.symm
def Mh {b n c:Nat} {r g A:cY} (o:∀ z∈r,Bd b z) (p:∃ k,co r k≠0) (f:@r<=n) (B:@g<=n) (C:n<2 ^ c) (q:∀ k,co r k=cvL A (co g) k):∀ k,Bd (b+n*(2*c+4)) (co g k):=by
 by_cases D:@g=0
 .intro k;rw [AX `a];exact EX _
 let {x,h,u}:=yR p f
 let m:∀ i,i<=n->Bd c (x i):=λi a=>by
  show (x i).natAbs<2 ^ c;have:=(h i a).2;omega
 intro k
 have:=aI (c:=c) (@g - 1) g (b+n*(c+1)) x (λk hk=>AX `a) (λi a=>m i `a) (λi j a F d=>u i j `a `a d) (λi a=>by
  let v:=(h i `a).1;let e:=Xp q (x i);let w:=Ph (m i `a) r o
  let y:(evI g (x i)).natAbs<=(evI r (x i)).natAbs:=by
   rw [e,BK];refine Gb _ ?_;rcases Dx (evI A (x i)).natAbs with z | z
   .exact absurd (by rw [e,Int.natAbs_eq_zero.mp z];omega) v
   .exact z
  refine (w.le y).mono ?_;have:=Ct (c+1) f;omega) k
 refine this.mono ?_;let G:(@g - 1)*(c+3)<=n*(c+3):=Ct (c+3) `a;let I:n*(2*c+4)=n*(c+1)+n*(c+3):=by rw [<-Nat.mul_add];congr 1;omega
 omega
def Ib {a g:cY} (b:Lz a) (c:Lz g):cvL a (co g) (@a - 1+(@g - 1))=co a (@a - 1)*co g (@g - 1):=by
 let {i,s,rfl}:∃ i s,a=i++[s]:={a.dropLast,a.getLast (DE.mp b.1),(List.dropLast_concat_getLast _).symm};let e:(i++[s]).length - 1=@i:=by rw [Bf];simp
 let d:co (i++[s]) @i=s:=by
  unfold co;rw [AN,EI (AT _),DT];rfl
 rw [e,d,Es,Dr (n:=@g) (λi f=>AX f) i _ (by have:=c.1;omega)];unfold Aw;rw [nC `a,show @i+(@g - 1) - @i=@g - 1 by omega];omega
def Mi {X a:cY} (b:Lz a) {T:Nat} (h:∀ k,T+(@a - 1)<=k->cvL X (co a) k=0):(∀ j,T<=j->co X j=0)/\∀ s,T=s+1->cvL X (co a) (s+(@a - 1))=co X s*co a (@a - 1):=by
 rcases Et X with z | ⟨Y,d,_,e⟩
 .refine {λj _=>z j,λs _=>?_};rw [B2,Fe a z,z s];omega
 .let f:∀ k,cvL X (co a) k=cvL Y (co a) k:=λk=>by rw [B2,Be (λj=>(e j).symm) a k,<-B2]
  let g:=Ib d b
  let o:@Y<=T:=by
   rcases BE T @Y with c | c
   .exfalso;have:=h (@Y - 1+(@a - 1)) `a;rw [f,g] at this;exact Bo d.2 b.2 this
   .exact c
  refine {λj p=>by rw [<-e];exact AX `a,λs q=>?_};rw [f,<-e];let r:=d.1;rcases BE @Y T with c | c
  .rw [AX `a,Dr (n:=@a) (λi m=>AX m) Y _ (by have:=b.1;omega)];omega
  .rw [show s=@Y - 1 by omega];exact g
def CK {m n:Nat} {x y:Int} (a:Bd m x) (b:Bd n y) (c:m<=60000000:=by omega) (d:n<=60000000:=by omega):IntMulOk x y:=IY (a.mono c) (b.mono d)
def yS {ns:cY} {m:Int} (a:cY) (b:a=(ns.filter (λz=>!decide (z=0))).map λz=>if z<0 then -z else z) (h:a=[]/\m=0\/m∈a) (d:Int):(∀ z∈ns,d∣z)->d∣m:=by
 intro c;rcases h with ⟨_,e⟩ | h
 .rw [e];exact DR d
 .rw [b] at h;let {z,hz,rfl}:=Am.mp h;have:=c z (List.mem_filter.mp hz).1;show d∣if z<0 then -z else z
  split
  .exact Int.dvd_neg.mpr this
  .exact this
def yT (h:MG K vs H Q E):QR K { nx:=λ_ j=>Q .non j,rt:=Q } (L2.start ["row","start","found","whole"] vs) H:=by
 let {p,b,r,rfl,hp,W,k}:=h;unfold QR;rwa [];refine {{_,SqL.of hp},CompF.lst (xs:=b.map V.int) (λi u j=>i<=@b/\j=H/\u=(((b.take i).filter (λz=>!decide (z=0))).map λz=>if z<0 then -z else z).map V.int) {AV _,7} ?_ ?_ ?_}
 .rintro i u j ⟨q,rfl,rfl⟩;refine {by rw [AI];exact q,sz ?_,SqL.of hp};rw [AI,AI];exact BW (List.length_filter_le _ _) (by rw [Ba];omega)
 .rintro i x u j f ⟨q,rfl,rfl⟩;rw [Ah] at f;cases e:b[i]? with
  | none=>rw [e] at f;cases f
  | some n=>
    rw [e] at f;obtain rfl:V.int n=x:=nL f;let M:i<@b:=(A3.mp e).1;let J:b.take (i+1)=b.take i++[n]:=by rw [C4,e];rfl
    rwa [];refine Ab (λc=>?_) (λc=>?_)
    .refine {`a,?_};let F:¬ n=0:=by simpa using c
     simp [J,List.filter_append,F]
    .refine {`a,?_};let F:n=0:=by simpa using c
     simp [J,List.filter_append,F]
 .rintro u j ⟨_,rfl,rfl⟩ a N;rw [AI,B4];let v:=AO N (.lst (((b.filter (λz=>!decide (z=0))).map λz=>if z<0 then -z else z).map V.int));let o:=v _ _ hp;refine {1,_,upd_same,λm O=>?_};let P:=yS _ rfl O;generalize R:upd j a (.lst (((b.filter (λz=>!decide (z=0))).map λz=>if z<0 then -z else z).map V.int))=S at v o ⊢;refine {{_,SqL.of o},ForL.by (xs:=b.map V.int) (λi w A=>∃ (g:Int) (x:cX),w=[↥p,some (.int r),some (.int g),x]/\A=S/\0<=g/\g∣r/\(∀ z∈b.take i,g∣z)/\(∀ d:Int,d∣r->(∀ z∈b,d∣z)->d∣g)) {_,none,7,`a,EK m r,λz hz=>(by simp at hz),λd q B=>Int.dvd_coe_gcd (P d B) q} ?_ ?_ ?_}
  .rintro i w A _ ⟨g,x,rfl,rfl,_⟩;exact SqL.of o
  .rintro i x w A f ⟨g,y,rfl,rfl,L,G,C,D⟩;rw [Ah] at f;cases e:b[i]? with
   | none=>rw [e] at f;cases f
   | some n=>
     rw [e] at f;obtain rfl:V.int n=x:=nL f;rwa [];refine Ab (λc=>?_) (λc=>?_)
     .let T:g=1:=by simpa using c
      subst T;exact k 1 _ v `b (Int.one_dvd _) (λz _=>Int.one_dvd z) D
     .refine {`a,CO (EK n g) G,λz hz=>?_,λd q B=>Int.dvd_coe_gcd (B n (Bb e)) (D d q B)};rw [C4,e] at hz;rcases BR.mp hz with I | I
      .exact CO (EK n g) (C z I)
      .let U:z=n:=by simpa using I
       rw [U];exact E4 n g
  .rintro w A ⟨g,x,rfl,rfl,L,G,C,D⟩;rw [AI,B4] at C;rwa [];exact k g _ v L G C D
def yU (h:MH K vs H Q E):QT K { nx:=λ_ c=>Q .non c,rt:=Q } (L2.start ["row","divisor"] vs) H:=by
 let {p,b,g,rfl,hp,m,u,q}:=h;unfold QT;rwa [];refine {{_,SqL.of hp},CompJ.lst (xs:=b.map V.int) (λi j c=>i<=@b/\c=H/\j=((b.map (·/ g)).take i).map V.int) {AV _,7} ?_ ?_ ?_}
 .rintro i j c ⟨k,rfl,rfl⟩;refine {by rw [AI];exact k,sz ?_,SqL.of hp};rw [AI,Ba];omega
 .rintro i x j c d ⟨k,rfl,rfl⟩;rw [Ah] at d;cases e:b[i]? with
  | none=>rw [e] at d;cases d
  | some n=>
    rw [e] at d;obtain rfl:V.int n=x:=nL d;let f:i<@b:=(A3.mp e).1
    let o:0<g:=by
     rcases m with h | h
     .exact h
     .rw [h] at f;exact absurd f (by simp)
    rwa [];refine {o,`a,?_};rw [HN V.int (q:=n / g) (by rw [Ah,e];rfl)]
 .rintro j c ⟨_,rfl,rfl⟩ a r;let e:(b.map (·/ g)).take (~~~b).length=b.map (·/ g):=by rw [AI,show @b=(b.map (·/ g)).length by rw [AI],B4]
  rw [e];exact q a r
def R7 {ns:cY} {k:Nat}:co ns k=ns.getD k 0:=rfl
def Mj (ns:cY):Tz (C9 ns):=by
 let a:∀ m,m<=@ns->DO ns m=0\/co ns (DO ns m - 1)≠0:=by
  intro m
  induction m with
  | zero=>intro _;exact .inl rfl
  | succ m c=>
    intro d;rw [IZ];split
    .exact c `a
    .rename_i z;right;rw [show m+1 - 1=m by omega,R7];rw [AN,AR `a] at z ⊢;exact z
 let b:(C9 ns).length=DO ns @ns:=Me;rcases a @ns (AT _) with h | h
 .left;exact B5.mp (b.trans h)
 .right;rw [b];show (C9 ns).getD _ 0≠0;rw [Rz];exact h
def GT (ns:cY) (k:Nat):co (C9 ns) k=co ns k:=Rz k
def Ic (n:Nat) (F:dh):Al n F=((List.range n).map F).map V.int:=rfl
def yV (ns:cY) (f:Int) (n:Nat) (h:@ns<=n):List.map V.int (ns.map (f*·))++List.replicate (n - @ns) (V.int 0)=Al n λk=>f*co ns k:=by
 rw [Ic];apply EL;intro i;by_cases a:i<@ns
 .rw [Eh (by rw [AI,AI];exact a),Ah,Ah,Ah,Ah,DS `a,AR a];show _=some (V.int (f*ns.getD i 0));rw [AN,AR a];rfl
 .rw [EI (by rw [AI,AI];omega),AI,AI,Ah,Ah];by_cases b:i<n
  .rw [E3,nC `a,DS b];show _=some (V.int (f*co ns i));rw [AX `a,Dg]
  .rw [E3,nB `a,CB (by rw [Bg];omega)];rfl
def yW (h:Fn K vs H Q E):QZ K (eC Q) (L2.start ["row","factor","other","weight","shift","result","place","whole"] vs) H:=by
 let {p,q,d,g,f,w,s,rfl,hp,O,hl,a0,bf,bw,bn,bm,k}:=h;unfold QZ;refine AY (DY (AS rfl {p,2,{_,SqL.of hp},CompJ.lst (xs:=d.map V.int) (λi I m=>i<=@d/\m=H/\I=((d.map (f*·)).take i).map V.int) {AV _,7} ?_ ?_ ?_}))
 .rintro i I m ⟨W,rfl,rfl⟩;refine {by rw [AI];exact W,sz ?_,SqL.of hp};rw [AI,Ba];omega
 .rintro i x I m z ⟨W,rfl,rfl⟩;rw [Ah] at z;cases e:d[i]? with
  | none=>rw [e] at z;cases z
  | some n=>
    rw [e] at z;obtain rfl:V.int n=x:=nL z;let a3:i<@d:=(A3.mp e).1;refine {4,3,CK bf (bn n (Bb e)),`a,2,?_};rw [HN V.int (q:=f*n) (by rw [Ah,e];rfl)]
 .rintro I m ⟨_,rfl,rfl⟩ a P;let e:(d.map (f*·)).take (~~~d).length=d.map (f*·):=by rw [AI,show @d=(d.map (f*·)).length by rw [AI],B4]
  rw [e];generalize hL:max @d (s+@g)=L;let J:=AO P (.lst (List.map V.int (d.map (f*·))));let A:upd m a (.lst (List.map V.int (d.map (f*·)))) a=some (HO.lst (List.map V.int (d.map (f*·)))):=upd_same;generalize upd m a (.lst (List.map V.int (d.map (f*·))))=R at J A ⊢;refine {1,FA A,Bi,λb hb=>?_};let M:=AO hb (.lst [.int 0]);let e0:(((~~~g).length:Int)+(s:Int) - ((~~~d).length:Int))=(@g:Int)+(s:Int) - (@d:Int):=by rw [AI,AI]
  let X:((@g:Int)+(s:Int) - (@d:Int)).toNat=L - @d:=by omega
  refine {1,6,M _ _ (J _ _ O),8,1,6,M _ _ (J _ _ hp),3,9,1,congrArg V.int e0,upd_same,`a,`a,sz (by rw [X];simp;omega),λc hc=>?_};rw [X,G3];let Y:=AO hc (.lst (List.replicate (L - @d) (V.int 0)));refine {5,Y _ _ (M _ _ A),upd_same,sz (by simp;omega),?_};rw [yV d f L `a];let Z:Same R (upd (upd R b (.lst [.int 0])) c (.lst (List.replicate (L - @d) (V.int 0)))):=M.trans Y;generalize upd (upd R b (.lst [.int 0])) c (.lst (List.replicate (L - @d) (V.int 0)))=S at Z ⊢;let sd:Same m (upd S a (.lst (Al L λk=>f*co d k))):=λx o h=>Kp.upd x o (Aq h P) (Z x o (J x o h));let B:(upd S a (.lst (Al L λk=>f*co d k))) a=_:=upd_same;generalize upd S a (.lst (Al L λk=>f*co d k))=Hd at sd B ⊢;refine {4,{_,SqL.of (sd _ _ O)},ForJ.enumL (xs:=g.map V.int) (λj N C=>∃ x y:cX,N=[↥p,some (.int f),↥q,some (.int w),some (.int (s:Int)),↥a,x,y]/\Same m C/\C a^^^(Al L λk=>f*co d k - (if s<=k/\k - s<j then w*co g (k - s) else 0))) {none,none,2,sd,?_} ?_ ?_ ?_}
  .rw [B];exact congrArg (λl=>some (HO.lst l)) (FI λk _=>by rw [nB `a];omega)
  .rintro j N C _ ⟨_,_,_,D,_⟩;exact SqL.of (D _ _ O)
  .rintro j y pq N C F ⟨y3,y4,rfl,D,v⟩ T;rw [Ah] at F;cases em:g[j]? with
   | none=>rw [em] at F;cases F
   | some u=>
     rw [em] at F;obtain rfl:V.int u=y:=nL F;let jl:j<@g:=(A3.mp em).1;let ud:co g j=u:=by rw [R7,AN,em];rfl
     let sq:=AO T (.tup [.int (j:Int),.int u]);let G:=sq _ _ v;let U:s+j<L:=by omega
     refine {6,upd_same,2,6,3,4,8,5,G,DH `a (Cy _ U),4,3,CK bw (bm u (Bb em)),3,9,_,s+j,7,G,?_,6,λb o h=>Kp.upd b o (Aq h P) (sq b o (D b o h)),upd_same.trans (congrArg (λl=>some (HO.lst l)) ?_)}
     .rw [DP];exact Fq `a U
     .refine Fp U ?_ λk _ hk=>?_
      .rw [nC `a,nB `a,show s+j - s=j by omega,ud];omega
      .by_cases h:s<=k/\k - s<j
       .rw [nC h,nC `a]
       .rw [nB h,nB `a]
  .rintro N C ⟨y3,y4,rfl,D,v⟩;rw [AI,Ic] at v;refine {1,6,v,λr hr=>k r _ _ (D.trans (AO hr _)) upd_same (Mj _) λi=>?_};rw [GT,G2];unfold Aw;by_cases z:i<L
   .rw [nC z];by_cases h:s<=i
    .rw [nC h];by_cases h2:i - s<@g
     .rw [nC ⟨h,h2⟩]
     .rw [nB `a,AX (a:=g) `a];omega
    .rw [nB h,nB `a];omega
   .rw [nB z,AX (a:=d) `a];by_cases h:s<=i
    .rw [nC h,AX (a:=g) `a];omega
    .rw [nB h];omega
def yX (a b:Int):(a.fdiv b).natAbs<=a.natAbs:=by
 rw [Int.fdiv_eq_ediv];split
 .rw [Int.sub_zero];exact Int.natAbs_ediv_le_natAbs a b
 .rename_i h;let d:b<0:=by omega
  let f:¬ b∣a:=λz=>h (.inr z);let e:=Int.mul_ediv_add_emod a b;let i:=B3 a (show b≠0 by omega);let j:=Int.emod_lt_of_neg a d;let rn:a % b≠0:=λz=>f (FP z);generalize a / b=q at *;generalize a % b=r at *;rcases Int.lt_or_le q 1 with g | g
  .let c:(-b)*(-q) ≥ 2*(-q):=Gg `a `a;rw [Int.neg_mul_neg] at c;omega
  .let c:(-b)*(q - 1) ≥ 1*(q - 1):=Gg `a `a;rw [Int.neg_mul,Int.mul_sub] at c;omega
def Mk {n m:Nat} {F:dh}:CD (Al n F) none (some (m:Int))=((List.range (min m n)).map F).map V.int:=by
 unfold CD HT.sIx;simp only [List.drop_zero,D1,Ch];rw [nB `a,DP];unfold Al;rw [<-List.map_take,<-List.map_take,List.take_range];congr 3;omega
def yY {n:Nat} {F:dh} (h:((List.range n).map F).any (λz=>!decide (z=0))=false):∀ k,k<n->F k=0:=by
 intro k hk;have:=List.any_eq_false.mp h (F k) (Am.mpr {k,DB.mpr hk,2});simpa using this
def R8 {n s:Nat} {F:dh} {w:Int} (a:s<n) (b:F s=0) (g:dh) (k:Nat) :
  cvL ((List.range n).map λj=>if j=s then w else F j) g k=cvL ((List.range n).map F) g k+w*Aw s g k:=by
 let e:∀ m,m<=n->cvL ((List.range m).map λj=>if j=s then w else F j) g k=cvL ((List.range m).map F) g k+(if s<m then w*Aw s g k else 0):=by
  intro m
  induction m with
  | zero=>intro _;rw [nB `a];rfl
  | succ m c=>
    intro d;rw [List.range_succ,Bj,Bj,List.map_singleton,List.map_singleton,Es,Es,c `a,AI,AI,Bg];by_cases e:m=s
    .subst e;rw [nC rfl,nB `a,nC `a,b];omega
    .rw [nB e];by_cases h:s<m
     .rw [nC h,nC `a];omega
     .rw [nB h,nB `a];omega
 rw [e n (AT n),nC a]
def Ce {b:Nat} {ns:cY} (h:∀ z∈ns,Bd b z) (k:Nat):Bd b (co ns k):=Hy h k
def KI {n:Nat} {g:dh} (k:Nat):cvL ((List.range n).map λ_=>(0:Int)) g k=0:=by
 let e:((List.range n).map λ_=>(0:Int))=(List.replicate n (1:Int)).map (0*·):=by
  apply EL;intro i;rw [Ah,Ah];by_cases h:i<n
  .rw [DS h,E3,nC h];rfl
  .rw [CB (by rw [Bg];omega),E3,nB h];rfl
 rw [e,BS];omega
def Id (ns:cY):List.map V.int ns=Al @ns (co ns):=by
 rw [Ic];congr 1;apply EL;intro i;rw [Ah];by_cases h:i<@ns
 .rw [DS h,AR h];show _=some (ns.getD i 0);rw [AN,AR h];rfl
 .rw [CB `a,CB (by rw [Bg];omega)];rfl
def FK {a:cY} (h:0<@a):M' (~~~a) (-1)=some (V.int (co a (@a - 1))):=by
 refine yN (by rw [AI];omega) ?_;rw [AI,Ah,AR `a];show _=some (V.int (a.getD (@a - 1) 0));rw [AN,AR `a];rfl
def yZ (h:IR K vs H Q E):YR K (eC Q) (L2.start ["row","divisor","rest","last","quotient","shift","weight","place"] vs) H:=by
 let {p,q,f,g,b,d,rfl,hp,hq,lm,bn,bm,bb,bd1,hn,hm,kN,kR}:=h;let m0:=lm.1;let P:=lm.2;let {L,hL}:∃ L,@g=L+1:={@g - 1,`a};let R:@g - 1=L:=by omega
 rw [R] at P;generalize n:co g L=r at P;let aL:=FK m0;rw [R,n] at aL;generalize hc:@f - L=c;refine AY (Ds (AS rfl {6,hp,λa ha=>?_}));let sa:=AO ha (.lst (~~~f));let af:=sa _ _ hp;let al:=sa _ _ hq;let am:((List.map V.int g).length:Int) - 1=(L:Int):=by rw [AI];omega
 refine {1,6,al,3,?_};show QY K _ [↥p,↥q,↥a,some (.int (((List.map V.int g).length:Int) - 1)),none,none,none,none] _;rw [am];refine AY (AZ (Cb (I_ {Bi,λx hx=>?_})));let sx:=AO hx (.lst [.int 0]);let an:=sx _ _ af
 let a3:(if (0:Int) > ((List.map V.int f).length:Int) - (L:Int) then (0:Int) else ((List.map V.int f).length:Int) - (L:Int))=(c:Int):=by
  rw [AI];split <;> omega
 refine {1,6,an,8,6,?_};refine {_,(c:Int),1,congrArg V.int a3,upd_same,`a,`a,sz (by simp;omega),λy hy=>?_};refine Pn ha hx hy λH1 a4 a5 sH a6 ao=>?_;rw [Id f] at a4;rw [Ch,KF] at a5;let ap:=sH _ _ hp;let ar:((List.map V.int f).length:Int) - (L:Int) - 1=(@f:Int) - (L:Int) - 1:=by rw [AI]
 let b0:((@f:Int) - (L:Int) - 1 - -1).toNat=c:=by omega
 refine Pm ?_;refine {1,6,ap,8,3,4,(@f:Int) - (L:Int) - 1,_,by rw [<-ar],{`a,`a,`b,`b},?_};rw [b0]
 letI Iv:Nat->L2.St->Hp->Prop:=λi S D=>i<=c/\∃ (F G:dh) (u v w:cX),S=[↥p,↥q,↥a,some (.int (L:Int)),↥y,u,v,w]/\Same H D/\D a^^^(Al @f F)/\D y^^^(Al c G)/\
  (∀ j,j<c - i->G j=0)/\(∀ k,k<@f - i->F k=co f k - cvL ((List.range c).map G) (co g) k)/\(∀ k,@f - i<=k->co f k=cvL ((List.range c).map G) (co g) k)/\(∀ k,k<@f->Bd (b+i*(d+1)) (F k))
 refine ForJ.down Iv {AV _,co f,λ_=>0,none,none,none,2,sH,a4,a5,λ_ _=>rfl,λk _=>by rw [KI];omega,λk hk=>by rw [KI,AX `a],λk _=>(Ce bn k).mono `a} ?_ ?_
 .rintro i S D hi ⟨_,F,G,u,v,w,rfl,s2,I,U,hG,hF,J,bF⟩;let a7:=s2 _ _ hq;let ic:i<c:=hi;let b1:((@f:Int) - (L:Int) - 1 - (i:Int))=((c - 1 - i:Nat):Int):=by omega
  rw [b1];generalize hs:c - 1 - i=s;let ba:s+L=@f - 1 - i:=by omega
  let aT:M' (Al @f F) ((s:Int)+(L:Int))=some (V.int (F (s+L))):=DH (j:=s+L) `a (Cy F `a);refine {4,8,5,I,aT,4,5,a7,aL,3,P,?_};show QX K _ [↥p,↥q,↥a,some (.int (L:Int)),↥y,some (.int (s:Int)),some (.int ((F (s+L)).fdiv r)),w] D;generalize hw:(F (s+L)).fdiv r=m;let b2:=bF (s+L) `a;let W:Bd (b+i*(d+1)) m:=b2.le (by rw [<-hw];exact yX _ _)
  let bi:b+i*(d+1)<=60000000:=by
   have:=Ct (d+1) (show i<=@f by omega);omega
  let bc:b+(i+1)*(d+1)<=60000000:=by
   have:=Ct (d+1) (show i+1<=@f by omega);omega
  let b3:Bd d r:=by rw [<-n];exact Ce bm L
  refine {4,1,5,a7,aL,3,CK W b3,4,8,5,I,aT,2,1,Ab (λY=>?_) (λY=>?_)}
  .refine kN (λ⟨A,hA⟩=>?_) _ s2;let M:m*r≠F (s+L):=by simpa using Y
   let hX:∀ k,cvL (Ay A (((List.range c).map G).map ((-1)*·))) (co g) k=co f k - cvL ((List.range c).map G) (co g) k:=λk=>by rw [Bw,BS,<-hA];omega
   let q:=(Mi lm (X:=Ay A (((List.range c).map G).map ((-1)*·))) (T:=s+1) (λk hk=>by rw [hX,J k `a];omega)).2 s rfl;rw [hX,R,n,<-hF (s+L) `a] at q;exact M (by rw [<-hw,q,Int.mul_fdiv_cancel _ P])
  let ex:m*r=F (s+L):=by simpa using Y
  refine {4,1,9,_,s,7,U,by rw [DP];exact Fq rfl `a,?_};show QW K _ [↥p,↥q,↥a,some (.int (L:Int)),↥y,some (.int (s:Int)),some (.int m),w] (upd D y (.lst ((Al c G).set s (V.int m))));let b4:(Al c G).set s (V.int m)=Al c (λj=>if j=s then m else G j):=Fp `a (nC rfl) λj _ hj=>nB hj;rw [b4];let s3:Same H (upd D y (.lst (Al c λj=>if j=s then m else G j))):=λz o h=>Kp.upd z o (Aq h ao) (s2 z o h);let Z:(upd D y (.lst (Al c λj=>if j=s then m else G j))) a=_:=(Ai a6).trans I;let B:(upd D y (.lst (Al c λj=>if j=s then m else G j))) y=_:=upd_same;generalize (upd D y (.lst (Al c λj=>if j=s then m else G j)))=H3 at s3 Z B ⊢;let a8:∀ k,cvL ((List.range c).map λj=>if j=s then m else G j) (co g) k=cvL ((List.range c).map G) (co g) k+m*Aw s (co g) k:=λk=>R8 `a (hG s `a) _ k
  let ab:∀ (F':dh) (u v w:cX) (N:Hp),Same H N->N a^^^(Al @f F')->N y^^^(Al c λj=>if j=s then m else G j)->(∀ k,k<@f->F' k=F k - (if s<=k/\k - s<L then m*co g (k - s) else 0))->
    Iv (i+1) [↥p,↥q,↥a,some (.int (L:Int)),↥y,u,v,w] N:=λF' u v w N s4 C O eF=>by
   refine {`a,F',_,u,v,w,2,s4,C,O,λj hj=>?_,λk hk=>?_,λk hk=>?_,λk hk=>?_}
   .show (if j=s then m else G j)=0;rw [nB `a];exact hG j `a
   .rw [eF k `a,a8,hF k `a];unfold Aw;by_cases h:s<=k
    .rw [nC h,nC {h,`a}];omega
    .rw [nB h,nB `a];omega
   .rw [a8];by_cases ek:k=s+L
    .let hf:=hF k `a;rw [ek] at hf ⊢;unfold Aw;rw [nC `a,show s+L - s=L by omega,n,ex];omega
    .let h2:=J k `a;rw [h2];unfold Aw;by_cases h:s<=k
     .rw [nC h,AX (a:=g) `a];omega
     .rw [nB h];omega
   .rw [eF k hk];let e2:b+(i+1)*(d+1)=b+i*(d+1)+d+1:=by rw [Nat.add_mul];omega
    rw [e2];refine Bd.sub ((bF k hk).mono `a) ?_;split
    .exact W.mul (Ce bm _)
    .exact EX _
  refine {1,2,1,Ab (λcw=>?_) (λcw=>?_)}
  .refine {4,`a,`a,?_};rw [Ch];refine ForR.by (λj S N=>∃ (u:cX),S=[↥p,↥q,↥a,some (.int (L:Int)),↥y,some (.int (s:Int)),some (.int m),u]/\Same H N/\N a^^^(Al @f λk=>F k - (if s<=k/\k - s<j then m*co g (k - s) else 0))/\N y^^^(Al c λj=>if j=s then m else G j)) {w,2,s3,?_,B} ?_ ?_
   .rw [Z];exact congrArg (λl=>some (HO.lst l)) (FI λk _=>by rw [nB `a];omega)
   .rintro j S N hj ⟨u',rfl,s4,C,O⟩;let b5:=s4 _ _ hq;let aj:M' (~~~g) (0+(j:Int))=some (V.int (co g j)):=DH (j:=j) `a (by rw [Id];exact Cy _ `a);refine {4,8,5,C,DH (j:=s+j) `a (Cy _ `a),4,1,5,b5,aj,3,CK W (Ce bm j),3,9,_,s+j,7,C,by rw [DP];exact Fq `a `a,?_};refine {1,?_,?_,?_}
    .intro z o h;exact Kp.upd z o (Aq h ha) (s4 z o h)
    .refine upd_same.trans (congrArg (λl=>some (HO.lst l)) (Fp `a ?_ λk _ hk=>?_))
     .rw [nC `a,nB `a,show s+j - s=j by omega];omega
     .by_cases h:s<=k/\k - s<j
      .rw [nC h,nC `a]
      .rw [nB h,nB `a]
    .rw [Ai (Ne.symm a6)];exact O
   .rintro S N ⟨u',rfl,s4,C,O⟩;exact ab _ _ _ _ _ s4 C O λk _=>rfl
  .let w0:m=0:=by simpa using cw
   exact ab F _ _ _ _ s3 Z B λk _=>by rw [w0];split <;> omega
 .rintro S D ⟨_,F,G,u,v,w,rfl,s2,I,U,hG,hF,J,bF⟩;refine {4,1,6,I,λz hz=>?_};let a0:=AO hz (.lst (((List.range (min L @f)).map F).map V.int));refine {z,(List.range (min L @f)).map F,2,by rw [Mk];exact upd_same,?_};rw [Mk];refine {1,Ab (λY=>?_) (λY=>?_)}
  .refine kN (λ⟨A,hA⟩=>?_) _ (s2.trans a0);let hX:∀ k,cvL (Ay A (((List.range c).map G).map ((-1)*·))) (co g) k=co f k - cvL ((List.range c).map G) (co g) k:=λk=>by rw [Bw,BS,<-hA];omega
   let q:=(Mi lm (X:=Ay A (((List.range c).map G).map ((-1)*·))) (T:=0) (λk hk=>by rw [hX,J k `a];omega)).1;let M:((List.range (min L @f)).map F).any (λz=>!decide (z=0))=true:=by simpa using Y
   let {z,b9,ac}:=List.any_eq_true.mp M;let {k,hk,rfl}:=Am.mp b9;let hk:=DB.mp hk;let e:=hX k;rw [B2,Fe g (λj=>q j (AV j)),<-hF k `a] at e;rw [<-e] at ac;simp at ac
  .let M:((List.range (min L @f)).map F).any (λz=>!decide (z=0))=false:=by simpa using Y
   let B:=a0 _ _ U;rw [Ic] at B;refine AS rfl (kR y _ _ (s2.trans a0) B (by rw [AI,Bg];omega) λk=>?_);by_cases hk:@f - c<=k
   .exact J k hk
   .have:=hF k `a;rw [yY M k `a] at this;omega
def Ie {K:W.Frag} {a:Addr} {capt:List (Option Nat)} {f:TE} {g:L2.St} {Q:VK} {H:Hp} {ns:cY} (F:Int->Int) (hp:H a^^^(~~~ns)) (r:@ns<=1000)
  (k:∀ n,n∈ns->∀ P:VK,P (.int (F n)) H->f ((Ca capt g).set 0 (some (.int n))) H P) (m:∀ p,H p=none->Q (.ref p) (upd H p (.lst ((ns.map F).map V.int)))):CompJ (ag K a) capt (AE 0) f g Q H:=by
 refine CompJ.lst (xs:=ns.map V.int) (λi d b=>i<=@ns/\b=H/\d=((ns.map F).take i).map V.int) {AV _,7} ?_ ?_ ?_
 .rintro i d b ⟨j,rfl,rfl⟩;refine {by rw [AI];exact j,sz ?_,SqL.of hp};rw [AI,Ba];omega
 .rintro i x d b c ⟨j,rfl,rfl⟩;rw [Ah] at c;cases e:ns[i]? with
  | none=>rw [e] at c;cases c
  | some n=>
    rw [e] at c;obtain rfl:V.int n=x:=nL c;let o:i<@ns:=(A3.mp e).1;show f ((Ca capt g).set 0 (some (.int n))) b _;refine k n (Bb e) _ {`a,2,?_};rw [HN V.int (q:=F n) (by rw [Ah,e];rfl)]
 .rintro d b ⟨_,rfl,rfl⟩ p h;let e:(ns.map F).take (~~~ns).length=ns.map F:=by rw [AI,show @ns=(ns.map F).length by rw [AI],B4]
  rw [e];exact m p h
def xA (h:Jw K vs H Q E):Qh K { nx:=λ_ a=>Q .non a,rt:=Q } (L2.start ["row","prime"] vs) H:=by
 let {p,e,m,rfl,hp,b,c,q}:=h;unfold Qh;rwa [];refine {{_,SqL.of hp},Ie (·% m) hp c (λn _ P d=>?_) q};rwa [];exact ⟨b,d⟩
theorem KJ {F:Int->Int} (a:F 0=0) (ns:cY) (k:Nat):co (ns.map F) k=F (co ns k):=by
 unfold co;rw [AN,AN,Ah];cases ns[k]? with
 | none=>exact a.symm
 | some z=>rfl
def R9 {ns:cY} {z:Int} (h:z∈C9 ns):z∈ns:=Ek h
def SC (ns:cY):(C9 ns).length<=@ns:=by rw [Me];exact Mc _ _
def HP (a m:Int):m∣a % m - a:={-(a / m),by have:=FR a m;rw [Int.mul_neg];omega}
def xB (h:FH K vs H Q E):Yo K (eC Q) (L2.start ["row","prime"] vs) H:=by
 let {p,c,m,rfl,hp,a,d,q}:=h;refine BT (B7 (Ae {4,p,c,m,2,hp,a,d,λr e=>{r,1,upd_same,λt f=>?_}}));refine q t _ _ ((AO e _).trans (AO f _)) upd_same (Mj _) (BW (SC _) (by rw [AI];exact AT _)) {λz hz=>?_,λk=>?_}
 .let {y,_,rfl}:=Am.mp (R9 hz);exact {B3 _ `a,CM _ a}
 .rw [GT,KJ (Int.zero_emod m)];exact HP _ _
def xC (h:HM K vs H Q E):Yn K (eC Q) (L2.start ["whole","prime","one","other","one_weight","other_weight","quotient","rest"] vs) H:=by
 let {a,p,rfl,p2,I,q}:=h;refine {4,8,show 0<p by omega,?_};show Qg K _ [_,_,_,_,_,_,_,_] _;let J:=B3 a (show p≠0 by omega);let a1:=CM a (show 0<p by omega)
 refine while_by (λn m d=>∃ (x y s t:Int) (u v:cX),m=[some (.int a),some (.int p),some (.int x),some (.int y),some (.int s),some (.int t),u,v]/\d=H/\n=y.toNat/\0<=y/\y<x/\x<=p/\
  Int.gcd x y=Int.gcd a p/\p∣x - s*a/\p∣y - t*a/\(t.natAbs:Int)*x+(s.natAbs:Int)*y<=p/\(s.natAbs:Int)<=p) (a % p).toNat ⟨p,a % p,0,1,none,none,rfl,rfl,rfl,J,a1,DJ _,?_,⟨1,`a⟩,?_,by simp,by simp;omega⟩ ?_
 .rw [Ky a `a]
 .rw [show a % p - 1*a=a % p - a by omega];exact HP a p
 .rintro n m d ⟨x,y,s,t,u,v,rfl,rfl,rfl,e,yx,xp,f,o,r,hb,L⟩;let tx:(t.natAbs:Int)*1<=(t.natAbs:Int)*x:=EN `a `a;let sy:0<=(s.natAbs:Int)*y:=Int.mul_nonneg `a e;let M:(t.natAbs:Int)<=p:=by omega
  refine {1,2,1,Ab (λc=>?_) (λc=>?_)}
  .let w:0<y:=by
    have:y≠0:=by simpa using c
    omega
   let q0:=Int.ediv_nonneg (show 0<=x by omega) e;let q1:x / y<=x:=Int.ediv_le_self y `a;let r0:=B3 x (show y≠0 by omega);let r1:=CM x w;let g:x - x / y*y=x % y:=by have:=FR x y;rw [Cs] at this;omega
   let B:∀ {z:Int},z.natAbs<=p.natAbs->Bd 60000000 z:=λh=>(I.le h).mono `b;refine {λN O=>∃ P,P<y.toNat/\_,λ_ _ h=>h,?_};refine {4,3,w,4,8,CK (B `a) (B `a),3,4,4,8,CK (B `a) (B `a),3,4,?_};refine {(x - x / y*y).toNat,`a,9,5,2,`a,`a,`a,?_,r,?_,?_,M}
   .rw [g,Ky x e];exact f
   .let {b,i}:=o;let {A,R}:=r
    exact {b - x / y*A,by
     generalize x / y=j at *;let k:x=s*a+p*b:=by omega
     let C:y=t*a+p*A:=by omega
     rw [k,C];ext}
   .let S:((s - x / y*t).natAbs:Int)<=(s.natAbs:Int)+x / y*(t.natAbs:Int):=by
     let T:=Int.natAbs_sub_le s (x / y*t);rw [BK] at T;let U:((x / y).natAbs:Int)=x / y:=by omega
     let h3:(((x / y).natAbs*t.natAbs:Nat):Int)=x / y*(t.natAbs:Int):=by rw [Int.natCast_mul,U]
     omega
    let n2:=Gg S e;rw [g];let W:(t.natAbs:Int)*(x % y)=(t.natAbs:Int)*x - (t.natAbs:Int)*(x / y*y):=by rw [<-g,Int.mul_sub]
    rw [W];generalize (t.natAbs:Int)=D at *;generalize (s.natAbs:Int)=F at *;generalize x / y=j at *;let n4:(F+j*D)*y=F*y+D*(j*y):=by ext
    omega
  .let X:y=0:=by simpa using c
   refine {4,3,show 0<p by omega,q _ (B3 _ `a) (CM _ `a) λY=>?_}
   let x1:x=1:=by
    rw [X] at f;rw [Int.gcd_zero_right,Y] at f;omega
   let {b,i}:=o;let {G,Z}:=HP s p;refine {G*a - b,?_};let k:s % p=s+p*G:=by omega
   rw [k];let C:s*a=1 - p*b:=by omega
   ext
def mbd {p:Nat} {ns:cY} (a:Bd 45000 (p:Int)) (h:∀ z∈ns,0<=z/\z<(p:Int)):∀ z∈ns,Bd 60000000 z:=λz hz=>(a.le (by have:=h z hz;omega)).mono `b
def bC {p:Nat} {ns:cY} (b:Pr p) (c:Tz ns) (h:∀ z∈ns,0<=z/\z<(p:Int)) (a:ns≠[]):Int.gcd (co ns (@ns - 1)) (p:Int)=1:=by
 let e:0<@ns:=DE.mpr a;let d:co ns (@ns - 1)≠0:=c.resolve_left a
 let f:0<=co ns (@ns - 1)/\co ns (@ns - 1)<(p:Int):=h _ (by
  unfold co;rw [AN,AR `a];exact CN _)
 exact b.cop λz=>by
  have:=Dz `a z;omega
def xD (h:Fo K vs H Q E):Yp K (eC Q) (L2.start ["row","prime","factor"] vs) H:=by
 let {q,a,p,rfl,g,w,o,x,A,d,k}:=h;let C:(2:Int)<=(p:Int):=by omega
 refine Xw (show ER _ _ _ _ from {1,6,g,?_});by_cases b:a=[]
 .subst b;refine Ab (λ_=>?_) (λc=>absurd rfl c);refine {sz `b,λr j=>k r [] 0 _ (AO j _) upd_same rfl (λz=>absurd rfl z) {λz hz=>(by cases hz),λi=>?_}};show (p:Int)∣co [] i - 0*co [] i;rw [AX (AV _)];exact {0,`a}
 let D:0<@a:=DE.mpr b;refine Ab (λc=>absurd c (by simpa using b)) (λ_=>?_);let G:=FK D;refine AY (Ae {4,5,g,G,1,6,C,o,λf I J m=>?_});let L:=d b;let m:=m L;let B:∀ {z:Int},0<=z->z<(p:Int)->Bd 60000000 z:=λN O=>(o.le `a).mono `b;refine BT ?_;refine DY (AS rfl {1,{_,SqL.of g},Ie (λn=>n*f % (p:Int)) g x (λn b P M=>?_) λr j=>?_})
 .exact {4,3,CK (A n b) (B I J),8,show (0:Int)<(p:Int) by omega,M}
 .let u:∀ i,co (a.map λn=>n*f % (p:Int)) i=co a i*f % (p:Int):=λi=>KJ (F:=λn=>n*f % (p:Int)) (by simp) a i;refine k r _ f _ (AO j _) upd_same (AI ..) (λ_=>?_) {λz hz=>?_,λi=>?_}
  .rw [AI,u];let {c,R}:=m;let e:co a (@a - 1)*f=1+(p:Int)*c:=by rw [Cs];omega
   rw [e,Int.add_mul_emod_self_left];exact Int.emod_eq_of_lt `b `a
  .let {y,_,rfl}:=Am.mp hz;exact {B3 _ `a,CM _ `a}
  .rw [u];show (p:Int)∣co a i*f % (p:Int) - f*co a i;rw [Cs f];exact HP _ _
def xE (h:Jx K vs H Q E):Q9 K { nx:=λ_ d=>Q .non d,rt:=Q } (L2.start ["whole","prime","rest"] vs) H:=by
 let {w,p,rfl,a,k}:=h;unfold Q9;rwa [];let g:=B3 w (show p≠0 by omega);let i:=CM w a;let b:=HP w p;refine {a,IntMulOk.of_left (intBits_le_64 `a `a),Ab (λc=>?_) (λc=>?_)}
 .refine k _ ?_ `a;let {e,f}:=b;exact {e - 1,by rw [Int.mul_sub];omega}
 .exact k _ b `a
def xF (h:Ex K vs H Q E):Yu K (eC Q) (L2.start ["row","divisor","modulus"] vs) H:=by
 let {p,q,d,e,m,b,rfl,hp,f,g,i,mp,j,c,n,o,u,k}:=h;exact BT (AZ (C7 {4,1,p,q,d,e,m,b,2,hp,f,g,i,mp,j,c,n,o,u,λt r s v w a x y B z C tr A md _=>{5,y,2,k s v w a x z tr A md}}))
def xG (h:IS K vs H Q E):Qm K (eC Q) (L2.start ["row","other","prime","rest"] vs) H:=by
 let {a,b,ns,ms,p,rfl,ha,hb,R,N,hn,hm,h0,k}:=h;let p2:(2:Int)<=(p:Int):=by have:=R.two;omega
 unfold Qm;refine AY (Ae (Ae {4,a,ns,p,2,ha,`a,hn,λc r1 H1 s1 hc a4 l1 v=>{1,c,r1,p,2,hc,R.two,N,`a,mbd N v.1,bC R a4 v.1,λd n f H2 s2 hd l2 o2 S=>?_}}));let a5:=s2 _ _ (s1 _ _ hb);refine AY (Ae (Ae {4,b,ms,p,2,a5,`a,hm,λc' r3 H3 s3 a6 a7 l3 G=>{1,c',r3,p,2,a6,R.two,N,`a,mbd N G.1,bC R a7 G.1,λd' r4 f' H4 s4 a8 l4 o4 T=>?_}}));let ab:Same H H4:=((s1.trans s2).trans s3).trans s4;let ac:=(s3.trans s4) _ _ hd
 let I:∀ {g h:dh} {q:cY} {f:Int},Dm (p:Int) g h->Md (p:Int) q (λk=>f*h k)->Dm (p:Int) g (co q):=λ{g h q f} d md=>by
  refine Dm.congr (Dm.less d d f 0 0) λk=>?_;have:=md.2 k;show (p:Int)∣co q k - (f*h k - 0*_);rw [Int.zero_mul,Int.sub_zero];exact this
 let nz:∀ {i q L:cY} {f:Int},(∃ k,¬ (p:Int)∣co i k)->Md (p:Int) q (co i)->@L=@q->0<@L:=λ{i q L f} ⟨k,hk⟩ md e=>by
  rcases Dx @L with z | z
  .exfalso;have:=md.2 k;rw [AX `a] at this;let t2:=Int.dvd_neg.mpr this;rw [show ∀ x:Int,-(0 - x)=x by intro x;omega] at t2;exact hk t2
  .exact z
 let M1:∀ {i q:cY},Md (p:Int) q (co i)->∀ {g:dh},Dm (p:Int) g (co i)->Dm (p:Int) g (co q):=λmd g d=>Dm.congr d md.2
 let J:∀ {g:dh} {r n:cY} {f:Int},Md (p:Int) n (λk=>f*co r k)->@n=@r->(r≠[]->co n (@n - 1)=1)->Dm (p:Int) g (co n)->Dm (p:Int) g (co r):=λ{g r n f} md l o d=>by
  by_cases r0:r=[]
  .exact Dm.zero _ _ λk=>by rw [r0,AX (AV _)];exact DR _
  .refine Dm.congr (Dm.less d d (co r (@r - 1)) 0 0) λk=>?_;show (p:Int)∣co r k - (co r (@r - 1)*co n k - 0*_);rw [Int.zero_mul,Int.sub_zero];let Y:=md.2 k;let U:=md.2 (@n - 1);rw [o r0,l] at U;let q1:(p:Int)∣co r (@r - 1)*(co n k - f*co r k):=Fx Y;let q2:(p:Int)∣co r k*(1 - f*co r (@r - 1)):=Fx U;refine CO (Int.dvd_sub q2 q1) (FJ ?_);ext
 let O:∀ {g:dh} {i r n:cY} {f:Int},Md (p:Int) r (co i)->Md (p:Int) n (λk=>f*co r k)->@n=@r->(r≠[]->co n (@n - 1)=1)->Dm (p:Int) g (co n)->Dm (p:Int) g (co i):=λ{g i r n f} v md l o d=>Dm.congr (J md l o d) λk=>by
  have:=Int.dvd_neg.mpr (v.2 k);refine CO this (FJ ?_);omega
 refine while_by (λm σ P=>∃ (x y:Addr) (i j:cY) (u:cX),σ=[↥x,↥y,some (.int (p:Int)),u]/\Same H P/\P x^^^(~~~i)/\P y^^^(~~~j)/\m=@j/\@i<=1000/\@j<=1000/\(0<@i\/0<@j)/\(i≠[]->co i (@i - 1)=1)/\(j≠[]->co j (@j - 1)=1)/\(∀ z∈i,0<=z/\z<(p:Int))/\(∀ z∈j,0<=z/\z<(p:Int))/\
  (∀ g:dh,Dm (p:Int) g (co ns)->Dm (p:Int) g (co ms)->Dm (p:Int) g (co i)/\Dm (p:Int) g (co j))/\(∀ g:dh,Dm (p:Int) g (co i)->Dm (p:Int) g (co j)->Dm (p:Int) g (co ns)/\Dm (p:Int) g (co ms))) @r4 {d,d',n,r4,none,2,ab,ac,a8,2,`a,`a,?_,?_,?_,S.1,T.1,λg w D=>{I (M1 v w) S,I (M1 G D) T},λg w D=>{O v S l2 o2 w,O G T l4 o4 D}} ?_
 .rcases h0 with h | h
  .exact .inl (nz (f:=f) h v l2)
  .exact .inr (nz (f:=f) h G l4)
 .intro z;exact o2 λe=>z (B5.mp (by rw [l2,e];rfl))
 .intro z;exact o4 λe=>z (B5.mp (by rw [l4,e];rfl))
 .rintro m σ P ⟨x,y,i,j,u,rfl,sH,hx,hy,rfl,xl,yl,ne,ox,oy,bx,bY,hD,hE⟩;refine {1,6,hy,?_};by_cases M:j=[]
  .subst M;refine Ab (λc=>absurd c (by simp)) (λ_=>?_);let x0:0<@i:=by simpa using ne
   let Z:Dm (p:Int) (co i) (co i):={[1],λk=>by
    let e:cvL [1] (co i) k=co i k:=by
     cases k with
     | zero=>rw [BO];omega
     | succ k=>rw [BG,Bh];omega
    rw [e,Int.sub_self];exact DR _}
   let zz:Dm (p:Int) (co i) (co []):=Dm.zero _ _ λk=>by rw [AX (AV _)];exact DR _
   refine {1,?_};exact k x i P sH hx x0 xl (ox (DE.mp x0)) bx (λg w D=>(hD g w D).1) (hE _ Z zz).1 (hE _ Z zz).2
  .let y0:0<@j:=DE.mpr M;refine Ab (λ_=>?_) (λc=>absurd M (by simpa using c));refine {λal am=>∃ m',m'<@j/\_,λ_ _ h=>h,?_};let B:∀ z:Int,0<=z->z<(p:Int)->Bd 45000 z:=λz Y U=>N.le `a;refine AY (C7 {4,1,x,y,i,j,p,45000,2,hx,hy,y0,oy M,`a,N,λz hz=>B z (bY z hz).1 (bY z hz).2,`b,BW xl `b,yl,λs F q H2 a0 hs af an md=>?_})
   let W:∀ g:dh,Dm (p:Int) g (co j)->Dm (p:Int) g (co q)->Dm (p:Int) g (co i):=λg w D=>by
    let {S1,Y}:=w;let {C,U}:=D;refine {Ay C (CH F S1),λk=>?_};rw [Bw,Cw];let e1:=bU Y F k;let m2:(p:Int)∣co q k - (co i k - cvL F (co j) k):=md.2 k;have:=DC (Int.dvd_sub (U k) m2) e1;refine CO this (FJ ?_);omega
   refine AY (AS rfl (G7 (Ae {4,s,q,p,2,hs,R.two,N,`a,mbd N md.1,bC R af md.1,λt ts f H3 a3 ht lt ot X=>?_})));refine {@ts,`a,y,t,j,ts,1,(sH.trans a0).trans a3,(a0.trans a3) _ _ hy,ht,2,yl,`a,.inl y0,oy,λz=>ot λe=>z (B5.mp (by rw [lt,e];rfl)),bY,X.1,λg w D=>{(hD g w D).2,?_},λg w D=>hE g (W g w (J X lt ot D)) w};let {dx,dy}:=hD g w D
   let dr:Dm (p:Int) g (co q):=by
    let {S1,Y}:=dx;let {C,U}:=dy;refine Dm.congr (f:=λk=>co i k - cvL F (co j) k) {Ay S1 ((CH F C).map (-1*·)),λk=>?_} md.2;rw [Bw,BS,Cw]
    let e:(p:Int)∣cvL F (co j) k - cvL F (cvL C g) k:=by
     let aj:∀ (A:cY) (k:Nat),(p:Int)∣cvL A (co j) k - cvL A (cvL C g) k:=by
      intro A
      induction A with
      | nil=>intro k;rw [Bh,Bh];exact {0,`a}
      | cons a A ih=>
        intro k;rw [GH,GH]
        let i2:(p:Int)∣Dq (cvL A (co j)) k - Dq (cvL A (cvL C g)) k:=by
         cases k with
         | zero=>exact {0,by show (0:Int) - 0=_;omega}
         | succ k=>exact ih k
        let i1:(p:Int)∣a*(co j k - cvL C g k):=Fx (U k);have:=DC i1 i2;rw [show a*(co j k - cvL C g k)+(Dq (cvL A (co j)) k - Dq (cvL A (cvL C g)) k)=a*co j k+Dq (cvL A (co j)) k - (a*cvL C g k+Dq (cvL A (cvL C g)) k) by rw [Int.mul_sub];omega] at this;exact this
     exact aj F k
    have:=Int.dvd_sub (Y k) e;rw [show co i k - cvL S1 g k - (cvL F (co j) k - cvL F (cvL C g) k)=co i k - cvL F (co j) k - (cvL S1 g k + -1*cvL F (cvL C g) k) by omega] at this;exact this
   exact I dr X
def xH (h:GR K vs H Q E):Yt K (eC Q) (L2.start ["row","divisor","modulus","rest","last","quotient","shift","weight","place"] vs) H:=by
 let {p,q,d,g,m,b,rfl,hp,hq,m0,ml,mp,bm,a4,bb,hn,hm,kR}:=h;let {L,hL}:∃ L,@g=L+1:={@g - 1,`a};let a5:@g - 1=L:=by omega
 rw [a5] at ml;generalize hc:@d - L=c;refine AY (Ds (AS rfl {6,hp,λa ha=>?_}));let sa:=AO ha (.lst (~~~d));let a6:=sa _ _ hp;let a7:=sa _ _ hq;let a8:((List.map V.int g).length:Int) - 1=(L:Int):=by rw [AI];omega
 refine {1,6,a7,3,?_};show Ql K _ [↥p,↥q,some (.int m),↥a,some (.int (((List.map V.int g).length:Int) - 1)),none,none,none,none] _;rw [a8];refine AY (AZ (Cb (I_ {Bi,λx hx=>?_})));let ab:=AO hx (.lst [.int 0]) _ _ a6
 let T:(if (0:Int) > ((List.map V.int d).length:Int) - (L:Int) then (0:Int) else ((List.map V.int d).length:Int) - (L:Int))=(c:Int):=by
  rw [AI];split <;> omega
 refine {1,6,ab,8,6,?_};refine {_,(c:Int),1,congrArg V.int T,upd_same,`a,`a,sz (by simp;omega),λy hy=>?_};refine Pn ha hx hy λH1 U W sH X ac=>?_;rw [Id d] at U;rw [Ch,KF] at W;let af:=sH _ _ hp;let al:((List.map V.int d).length:Int) - (L:Int) - 1=(@d:Int) - (L:Int) - 1:=by rw [AI]
 let am:((@d:Int) - (L:Int) - 1 - -1).toNat=c:=by omega
 refine Pm ?_;refine {1,6,af,8,3,4,(@d:Int) - (L:Int) - 1,_,by rw [<-al],{`a,`a,`b,`b},?_};rw [am]
 letI Iv:Nat->L2.St->Hp->Prop:=λi O n=>i<=c/\∃ (F G:dh) (u v w:cX),O=[↥p,↥q,some (.int m),↥a,some (.int (L:Int)),↥y,u,v,w]/\Same H n/\n a^^^(Al @d F)/\n y^^^(Al c G)/\
  (∀ j,j<c - i->G j=0)/\(∀ k,k<@d - i->m∣F k - (co d k - cvL ((List.range c).map G) (co g) k))/\(∀ k,@d - i<=k->m∣co d k - cvL ((List.range c).map G) (co g) k)/\(∀ j,j<c->0<=G j/\G j<m)
 refine ForJ.down Iv {AV _,co d,λ_=>0,none,none,none,2,sH,U,W,λ_ _=>rfl,λk _=>by rw [KI];exact {0,`a},λk hk=>by rw [KI,AX `a];exact {0,`a},λk _=>{DJ 0,mp}} ?_ ?_
 .rintro i O n hi ⟨_,F,G,u,v,w,rfl,s2,I,J,hG,hF,P,bG⟩;let b1:=s2 _ _ hq;let ic:i<c:=hi;let an:((@d:Int) - (L:Int) - 1 - (i:Int))=((c - 1 - i:Nat):Int):=by omega
  rw [an];generalize hs:c - 1 - i=s;let b2:s+L=@d - 1 - i:=by omega
  let aT:M' (Al @d F) ((s:Int)+(L:Int))=some (V.int (F (s+L))):=DH (j:=s+L) `a (Cy F `a);refine {4,8,5,I,aT,8,mp,?_};show Qj K _ [↥p,↥q,some (.int m),↥a,some (.int (L:Int)),↥y,some (.int (s:Int)),some (.int (F (s+L) % m)),w] n;let w0:=B3 (F (s+L)) (show m≠0 by omega);let w1:=CM (F (s+L)) mp;let wd:=HP (F (s+L)) m;generalize hw:F (s+L) % m=f at w0 w1 wd ⊢;let ao:Bd b f:=bm.le `a;refine {4,1,9,_,s,7,J,by rw [DP];exact Fq rfl `a,?_};show Qi K _ [↥p,↥q,some (.int m),↥a,some (.int (L:Int)),↥y,some (.int (s:Int)),some (.int f),w] (upd n y (.lst ((Al c G).set s (V.int f))));rw [show (Al c G).set s (V.int f)=Al c (λj=>if j=s then f else G j) from Fp `a (nC rfl) λj _ R=>nB R];let s3:Same H (upd n y (.lst (Al c λj=>if j=s then f else G j))):=λz o h=>Kp.upd z o (Aq h ac) (s2 z o h);let A:(upd n y (.lst (Al c λj=>if j=s then f else G j))) a=_:=(Ai X).trans I;let S:(upd n y (.lst (Al c λj=>if j=s then f else G j))) y=_:=upd_same;generalize (upd n y (.lst (Al c λj=>if j=s then f else G j)))=H3 at s3 A S ⊢;let Y:∀ k,cvL ((List.range c).map λj=>if j=s then f else G j) (co g) k=cvL ((List.range c).map G) (co g) k+f*Aw s (co g) k:=λk=>R8 `a (hG s `a) _ k
  let Z:∀ (F':dh) (u v w:cX) (C:Hp),Same H C->C a^^^(Al @d F')->C y^^^(Al c λj=>if j=s then f else G j)->(∀ k,k<@d->F' k=F k - (if s<=k/\k - s<L then f*co g (k - s) else 0))->
    Iv (i+1) [↥p,↥q,some (.int m),↥a,some (.int (L:Int)),↥y,u,v,w] C:=λF' u v w C M B D eF=>by
   refine {`a,F',_,u,v,w,2,M,B,D,λj R=>?_,λk hk=>?_,λk hk=>?_,λj R=>?_}
   .show (if j=s then f else G j)=0;rw [nB `a];exact hG j `a
   .let hf:=hF k `a;rw [eF k `a,Y];unfold Aw;by_cases h:s<=k
    .rw [nC h,nC {h,`a}];rw [show ∀ x y z w:Int,x - y - (z - (w+y))=x - (z - w) by intro x y z w;omega];exact hf
    .rw [nB h,nB `a];rw [show ∀ x z w:Int,x - 0 - (z - (w+f*0))=x - (z - w) by intro x z w;omega];exact hf
   .rw [Y];by_cases ek:k=s+L
    .let hf:=hF k `a;rw [ek] at hf ⊢;unfold Aw;rw [nC `a,show s+L - s=L by omega,ml];let {α,b3}:=hf;let {β,b4}:=wd;exact {-α - β,by rw [Int.mul_sub,Int.mul_neg];omega}
    .let N:=P k `a;unfold Aw;by_cases h:s<=k
     .rw [nC h,AX (a:=g) `a,Dg,Int.add_zero];exact N
     .rw [nB h,Dg,Int.add_zero];exact N
   .show 0<=(if j=s then f else G j)/\(if j=s then f else G j)<m;split
    .exact ⟨w0,w1⟩
    .exact bG j R
  refine {1,2,1,Ab (λcw=>?_) (λcw=>?_)}
  .refine {4,`a,`a,?_};rw [Ch];refine ForR.by (λj O C=>∃ (u:cX),O=[↥p,↥q,some (.int m),↥a,some (.int (L:Int)),↥y,some (.int (s:Int)),some (.int f),u]/\Same H C/\C a^^^(Al @d λk=>F k - (if s<=k/\k - s<j then f*co g (k - s) else 0))/\C y^^^(Al c λj=>if j=s then f else G j)) {w,2,s3,?_,S} ?_ ?_
   .rw [A];exact congrArg (λl=>some (HO.lst l)) (FI λk _=>by rw [nB `a];omega)
   .rintro j O C R ⟨u',rfl,M,B,D⟩;let ap:=M _ _ hq;let aj:M' (~~~g) (0+(j:Int))=some (V.int (co g j)):=DH (j:=j) `a (by rw [Id];exact Cy _ `a);refine {4,8,5,B,DH (j:=s+j) `a (Cy _ `a),4,1,5,ap,aj,3,CK ao (Ce a4 j),3,9,_,s+j,7,B,by rw [DP];exact Fq `a `a,?_};refine {1,?_,?_,?_}
    .intro z o h;exact Kp.upd z o (Aq h ha) (M z o h)
    .refine upd_same.trans (congrArg (λl=>some (HO.lst l)) (Fp `a ?_ λk _ hk=>?_))
     .rw [nC `a,nB `a,show s+j - s=j by omega];omega
     .by_cases h:s<=k/\k - s<j
      .rw [nC h,nC `a]
      .rw [nB h,nB `a]
    .rw [Ai (Ne.symm X)];exact D
   .rintro O C ⟨u',rfl,M,B,D⟩;exact Z _ _ _ _ _ M B D λk _=>rfl
  .let ar:f=0:=by simpa using cw
   exact Z F _ _ _ _ s3 A S λk _=>by rw [ar];split <;> omega
 .rintro O n ⟨_,F,G,u,v,w,rfl,s2,I,J,hG,hF,P,bG⟩;rw [Ic] at J;show Qk K _ _ _;refine BT (IC (B7 {1,6,J,λt ht=>?_}));let st:=AO ht (.lst (List.map V.int (C9 (List.map G (List.range c)))));let A:=st _ _ I;let a0:upd n t (.lst (List.map V.int (C9 (List.map G (List.range c))))) t=_:=upd_same;generalize upd n t (.lst (List.map V.int (C9 (List.map G (List.range c)))))=H3 at st A a0 ⊢;refine Ae {4,1,6,A,λz hz=>{1,z,(List.range (min L @d)).map F,m,2,by rw [Mk];exact upd_same,mp,by rw [AI,Bg];omega,λr rs C M b0 tr lr md=>?_}};let a3:=(AO hz _).trans M;rw [AI,Bg] at lr;refine {Ev,λe he=>?_};let se:=AO he (.tup [.ref t,.ref r])
  let cq:∀ k,cvL (C9 ((List.range c).map G)) (co g) k=cvL ((List.range c).map G) (co g) k:=λk=>by
   rw [B2,Be (λj=>GT _ j) g k,<-B2]
  refine kR e t r _ rs _ ((s2.trans st).trans (a3.trans se)) upd_same (se _ _ (a3 _ _ a0)) (se _ _ b0) (Mj _) tr `a {md.1,λk=>?_} λz hz=>?_
  .have:=md.2 k;rw [G2] at this;show m∣co rs k - (co d k - cvL (C9 ((List.range c).map G)) (co g) k);rw [cq];by_cases hk:k<min L @d
   .rw [nC hk] at this;let N:=DC this (hF k `a);rw [show ∀ x y z:Int,x - y+(y - z)=x - z by intro x y z;omega] at N;exact N
   .rw [nB hk] at this;let N:=Int.dvd_sub this (P k `a);rw [show ∀ x y:Int,x - 0 - y=x - y by intro x y;omega] at N;exact N
  .let {j,R,rfl}:=Am.mp (R9 hz);exact bG j (DB.mp R)
theorem SDs.tp {H a:Hp} (s:Same H a):∀ {xs:cW} {b:List (cY)},SDs H xs b->SDs a xs b
 | [],[],_=>trivial
 | _::_,_::_,h=>{let ⟨p,e,q⟩:=h.1;⟨p,e,s _ _ q⟩,SDs.tp s h.2}
 | [],_::_,h=>h.elim
 | _::_,[],h=>h.elim
def SD.tp {H a:Hp} (s:Same H a) {p:Addr} {b:List (cY)} (h:SD H p b):SD a p b:=let ⟨c,e,q⟩:=h;⟨c,s _ _ e,q.tp s⟩
theorem SDs.length {H:Hp}:∀ {xs:cW} {a:List (cY)},SDs H xs a->@xs=@a
 | [],[],_=>rfl
 | _::_,_::_,h=>congrArg (·+1) (SDs.length h.2)
 | [],_::_,h=>h.elim
 | _::_,[],h=>h.elim
theorem SDs.get {H:Hp}:∀ {xs:cW} {a:List (cY)} {i:Nat} {v:V},SDs H xs a->xs[i]?=some v->∃ p r,v=.ref p/\a[i]?=some r/\H p^^^(~~~r)
 | [],[],_,_,_,e=>by simp at e
 | _::_,r::_,0,_,h,e=>by
   simp at e;subst e;let {p,e,q}:=h.1;exact ⟨p,r,e,rfl,q⟩
 | _::_,_::_,i+1,_,h,e=>by
   let {p,r,b,c,d}:=SDs.get (i:=i) h.2 (by simpa using e);exact {p,r,b,by simpa using c,d}
 | [],_::_,_,_,h,_=>h.elim
 | _::_,[],_,_,h,_=>h.elim
theorem SDs.snoc {H:Hp} {p:Addr} {r:cY} (hp:H p^^^(~~~r)):∀ {xs:cW} {a:List (cY)},SDs H xs a->SDs H (xs++[.ref p]) (a++[r])
 | [],[],_=>{⟨p,rfl,hp⟩,trivial}
 | _::_,_::_,h=>{h.1,SDs.snoc hp h.2}
 | [],_::_,h=>h.elim
 | _::_,[],h=>h.elim
theorem SD.head {H:Hp} {p:Addr} {r:cY} {c:List (cY)} (h:SD H p (r::c)):∃ a b,H p^^^(.ref a::b)/\H a^^^(~~~r)/\SDs H (.ref a::b) (r::c):=by
 let {b,e,q}:=h
 match b,q with
 | [],q=>exact q.elim
 | x::b,q=>
   let {a,d,f}:=q.1;subst d;exact ⟨a,b,e,f,q⟩
def HQ {a:Type} (x:a) (xs:List a):M' (x::xs) 0=some x:=by
 unfold M' aa;rw [nC `b,nC (by rw [Cj];omega)];rfl
def xJ (h:Ju K vs H Q E):Qd K { nx:=λ_ y=>Q .non y,rt:=Q } (L2.start ["strand","shared","row"] vs) H:=by
 let {p,b,rfl,{G,hp,O},hl,C,k}:=h;let Z:=@O;unfold Qd;rwa [];refine {{_,SqL.of hp},ForL.by (xs:=G) (λi I y=>∃ (g:Int) (u:cX),I=[↥p,some (.int g),u]/\Same H y/\0<=g/\(∀ r∈b.take i,∀ z∈r,g∣z)/\(∀ d:Int,(∀ r∈b.take i,∀ z∈r,d∣z)->d∣g)) {0,none,2,Same.refl H,DJ 0,λr C=>(by simp at C),λd _=>DR d} ?_ ?_ ?_}
 .rintro i I y _ ⟨g,u,rfl,s,_⟩;exact SqL.of (s _ _ hp)
 .rintro i x I y P ⟨g,u,rfl,s,g0,A,J⟩;let {a,r,rfl,j,R}:=O.get P;let q:=s _ _ R;let v:=C r (Bb j);rwa [q];refine {r,2,v.1,λg' B m S d1 d2 d3=>?_};let D:b.take (i+1)=b.take i++[r]:=by rw [C4,j];rfl
  refine {s.trans m,S,λT n z hz=>?_,λd L=>d3 d ?_ λz hz=>?_}
  .rw [D] at n;rcases BR.mp n with h | h
   .exact CO d1 (A T h z hz)
   .rw [Ap.mp h] at hz;exact d2 z hz
  .exact J d λT n z hz=>L T (by rw [D];exact FO _ n) z hz
  .exact L r (by rw [D];exact Cp _ (Ap.mpr rfl)) z hz
 .rintro I y ⟨g,u,rfl,s,g0,A,J⟩;rw [Z,B4] at A J;let U:=s _ _ hp
  let gz:∀ r∈b,0<g\/r=[]:=λr f=>by
   rcases Int.lt_or_le 0 g with h | h
   .exact .inl h
   .right;let F:g=0:=by omega
    rcases (C r f).2 with h | h
    .exact h
    .exfalso;by_cases a0:@r=0
     .rw [AX `a] at h;exact h rfl
     .have:=A r f (co r (@r - 1)) (by
       unfold co;rw [AN,AR `a];exact CN _)
      rw [F] at this;exact h (Int.zero_dvd.mp this)
  rwa [];refine {{_,SqL.of U},CompJ.lst (xs:=G) (λi w B=>i<=@b/\Same H B/\SDs B w ((b.take i).map λr=>r.map (·/ g))) {AV _,s,trivial} ?_ ?_ ?_}
  .rintro i w B ⟨W,m,o⟩;refine {`a,sz ?_,SqL.of (m _ _ hp)};rw [@o,AI,Ba];omega
  .rintro i x w B P ⟨W,m,o⟩;let {a,r,rfl,j,R}:=O.get P;let q:=m _ _ R;let v:=C r (Bb j);let a3:i<@b:=(A3.mp j).1;rwa [q];refine {r,2,gz r (Bb j),v.1,λt M=>?_};refine {`a,m.trans (AO M _),?_};let D:(b.take (i+1)).map (λr=>r.map (·/ g))=(b.take i).map (λr=>r.map (·/ g))++[r.map (·/ g)]:=by rw [C4,j];simp
   rw [D];exact SDs.snoc upd_same (o.tp (AO M _))
  .rintro w B ⟨_,m,o⟩ t M;rw [Z,B4] at o;let N:=AO M (.lst w);by_cases gp:0<g
   .refine k t _ _ (m.trans N) {w,upd_same,o.tp N} {g,gp,?_} (.inr λd L=>?_)
    .rw [Dy]
     conv=>lhs;rw [<-List.map_id b]
     refine D7 λr f=>?_;show r=(r.map (·/ g)).map (g*·);rw [Dy]
     conv=>lhs;rw [<-List.map_id r]
     refine D7 λz hz=>?_;show z=g*(z / g);rw [FT (A r f z hz)]
    .let X:d*g∣g:=J (d*g) λr f z hz=>by
      let W:=L (r.map (·/ g)) (Am.mpr ⟨r,f,rfl⟩) (z / g) (Am.mpr ⟨z,hz,rfl⟩);let {c,Y}:=W;refine {c,?_};have:=FT (A r f z hz);rw [<-this,Y];ext
     let {c,Y}:=X
     let e:g*(d*c)=g*1:=by rw [Int.mul_one];conv=>rhs;rw [Y]
                           ext
     let e1:=Int.eq_of_mul_eq_mul_left `a e;have:d.natAbs*c.natAbs=1:=by rw [<-BK,e1];rfl
     exact Nat.eq_one_of_mul_eq_one_right this
   .let F:∀ r∈b,r=[]:=λr f=>by
     rcases gz r f with h | h
     .exact absurd h gp
     .exact h
    let em:b.map (λr=>r.map (·/ g))=b:=by
     conv=>rhs;rw [<-List.map_id b]
     refine D7 λr f=>?_;rw [F r f];rfl
    rw [em] at o;refine k t b _ (m.trans N) {w,upd_same,o.tp N} ⟨1,`b,?_⟩ (.inl F)
    conv=>lhs;rw [<-List.map_id b]
    refine D7 λr f=>?_;rw [F r f];rfl
def xK {r:cY} (h:∀ d:Int,(∀ z∈r,d∣z)->d.natAbs=1):Prim r:=λc a=>h c λz hz=>by
 let {i,b,rfl}:=C3 hz;have:=a i;unfold co at this;rw [AN,AR b] at this;exact this
theorem xL (h:HL K vs H Q E):Qe K { nx:=λ_ j=>Q .non j,rt:=Q } (L2.start ["row"] vs) H:=by
 let {p,u,rfl,hp,w,x,k}:=h;unfold Qe;rwa [];refine {sz `b,λa y=>?_};let v:=AO y (.lst [.ref p]);refine {[u],{[V.ref p],upd_same,{{p,2,v _ _ hp},trivial}},by simp,?_,λt c j A e m n=>?_}
 .intro r o;rw [Ap.mp o];exact ⟨w,x⟩
 let {g,B,f}:=m
 match c,f,e,n with
 | [q],f,e,n=>
   let {b,G,C,D,_}:=e.head;let i:u=q.map (g*·):=by simpa using f
   refine {_,C,_,HQ _ _,k b q g j (v.trans A) D B i ?_};rcases n with h | h
   .left;rw [i,h q (Ap.mpr rfl)];rfl
   .right;exact xK λd F=>h d λr o z hz=>by rw [Ap.mp o] at hz;exact F z hz
 | [],f,_,_=>simp at f
 | _::_::_,f,_,_=>simp at f
def Ig {n:Nat} {a:cY} (h:∀ k,Bd n (co a k)):∀ z∈a,Bd n z:=λz hz=>by
 let {i,b,rfl}:=C3 hz;have:=h i;unfold co at this;rw [AN,AR b] at this;exact this
def KK (g:Int) (a:cY) (k:Nat):co (a.map (g*·)) k=g*co a k:=KJ (F:=(g*·)) `a a k
def Mm {g:Int} (b:g≠0) {a:cY} (h:Tz (a.map (g*·))):Tz a:=by
 rcases h with h | h
 .left;exact List.map_eq_nil_iff.mp h
 .right;rw [KK,AI] at h;exact λz=>h (by rw [z];omega)
def Mr {n:Nat} {g:Int} (b:0<g) {a:cY} (h:∀ z∈a.map (g*·),Bd n z):∀ z∈a,Bd n z:=λz hz=>(h (g*z) (Am.mpr ⟨z,hz,rfl⟩)).le (by
 rw [BK];exact Gb _ `a)
def xM {a b:Int} (c:b≠0) (h:a∣b):a.natAbs<=b.natAbs:=Dz `a (Ci.mpr h)
def xN (h:MI K vs H Q E):Qc K (eC Q) (L2.start ["strand","other","shift","top","lead","shared","factor","weight"] vs) H:=by
 let {p,q,o,rfl,j,w,J,k}:=h;let {m,x,hp,f,_}:=j.head;let {u,y,z,i,_}:=w.head;let A:M' (V.ref m::x) 0=some (V.ref m):=HQ _ _;let B:M' (V.ref u::y) 0=some (V.ref u):=HQ _ _;unfold Qc;refine while_by (λn v d=>v=[↥p,↥q,none,none,none,none,none,none]/\d=H/\n=0) 0 ⟨rfl,rfl,rfl⟩ ?_;rintro n v d ⟨rfl,rfl,rfl⟩;refine {1,5,hp,A,6,f,1,5,z,B,6,i,3,1,Ab (λc=>by let c:=nF c;rw [AI,AI] at c;have:([]:cY).length=0:=rfl;exfalso;omega) (λ_=>?_)};show Qb K _ _ _;refine {1,p,[[]],2,j,`b,(λr C=>by rw [Ap.mp C];exact {`b,.inl rfl}),λt a D F b G _=>k t D F ?_};let {g,_,e}:=G;let I:@a=1:=by have:=congrArg List.length e;simpa using this.symm
 let {r,rfl}:∃ r,a=[r]:=List.length_eq_one_iff.mp I;let e:[]=r.map (g*·):=List.head_eq_of_cons_eq e;rw [List.map_eq_nil_iff.mp e.symm] at b;exact b
def HR {a:cY} (h:Tz a) (b:a≠[]):Lz a:=by
 refine {DE.mpr b,?_};rcases h with e | e
 .exact absurd e b
 .exact e
def xO (h:Jv K vs H Q E):Qf K (eC Q) (L2.start ["strand","other","rest"] vs) H:=by
 let {p,q,s,o,rfl,m,e,em,k}:=h;unfold Qf;refine while_by (λn g b=>(g=[↥p,↥q,none]/\b=H/\n=1)\/∃ (t:Addr) (u:cX),g=[↥q,↥t,u]/\Same H b/\SD b t [[]]/\o≠[]/\n=0) 1 (.inl ⟨rfl,rfl,rfl⟩) ?_;rintro n g b (⟨rfl,rfl,rfl⟩ | ⟨t,u,rfl,r,i,x,rfl⟩)
 .let {v,y,w,d,_}:=e.head;let f:M' (V.ref v::y) 0=some (V.ref v):=HQ _ _;refine {1,5,w,f,6,d,?_};by_cases a:o=[]
  .refine Ab (λc=>absurd a (by simpa using c)) (λ_=>?_);rw [nC a] at k;exact {1,k p _ (Same.refl _) m}
  .refine Ab (λ_=>?_) (λc=>absurd (by simpa using c) a)
   let A:s=[]:=by
    rcases em with z | z
    .exact z
    .exact absurd z a
   rw [nB a] at k;refine {λB C=>∃ D,D<1/\_,λ_ _ h=>h,?_};refine DN (show Ak _ _ _ _ from {1,5,w,f,6,d,2,1,Ab (λ_=>{1,k q _ (Same.refl _) e}) (λ_=>?_)});delta BA;refine AY (Ae {4,p,q,o,2,by rw [<-A];exact m,e,DE.mpr a,λt J F i=>?_});exact {4,0,`b,.inr {t,1,F,i,a,2}}
 .let {at',G,I,j,_}:=i.head;let f:M' (V.ref at'::G) 0=some (V.ref at'):=HQ _ _;refine {1,5,I,f,6,j,Ab (λc=>absurd c (by simp)) (λ_=>?_)};rw [nB x] at k;exact {1,k q _ r (e.tp r)}
def SE {b n c:Nat} {r a g:cY} (o:∀ z∈r,Bd b z) (f:@r<=n) (p:n<2 ^ c) (i:Lz g) (h:∀ k,co r k=cvL a (co g) k):∀ k,Bd (b+n*(2*c+4)) (co a k):=by
 rcases Et a with z | ⟨d,e,_,j⟩
 .intro k;rw [z k];exact EX _
 let m:∀ k,co r k=cvL g (co d) k:=λk=>by rw [h k,B2,Be (λk=>(j k).symm) g k]
 let t:co r (@d - 1+(@g - 1))≠0:=by rw [m,B2,Ib e i];exact Bo e.2 i.2
 let q:@d<=@r:=by
  rcases BE (@d - 1+(@g - 1)) @r with c | c
  .have:=e.1;omega
  .exact absurd (AX c) t
 intro k;rw [<-j k];exact Mh o {_,t} f (BW q f) p m k
def xP {G S:cY} (a:Lz G) (h:∀ k,cvL S (co G) k=0) (k:Nat):co S k=0:=(Mi a (T:=0) λk _=>h k).1 k (AV k)
def Gen.Prim {r o:dh} {g:cY} (G:Gen r o g):Prim g:=λc a=>by
 rcases BE c.natAbs 2 with h | h
 .rcases Dx c.natAbs with z | z
  .exfalso;let b:c=0:=by omega
   have:=a (@g - 1);rw [b] at this;exact G.lz.2 (Int.zero_dvd.mp this)
  .omega
 .exfalso;let {n,d,_}:=G.prim h;exact d (Int.natAbs_dvd.mpr (a n))
def xQ {R O A B G:cY} (a:Lz G) (b:∀ k,co R k=cvL A (co G) k) (c:∀ k,co O k=cvL B (co G) k) (q:QI (co R) (co O) (co G)):QI (co A) (co B) EZ:=by
 let {d,f,U,V,h}:=q;refine {d,f,U,V,λk=>?_}
 let z:=xP (S:=Ay (Ay (CH U A) (CH V B)) [-d]) a (λk=>by
  rw [Bw,Bw,Cw,Cw,<-Be b,<-Be c];have:=h k
  let e:cvL [-d] (co G) k = -d*co G k:=by
   cases k with
   | zero=>rw [BO];omega
   | succ k=>rw [BG,Bh];omega
  rw [e,Int.neg_mul,this];omega) k
 rw [CP,Bw,Bw,Cw,Cw,<-Be (CP A),<-Be (CP B)] at z
 let e:cvL [-d] EZ k = -d*EZ k:=by
  cases k with
  | zero=>rw [BO];omega
  | succ k=>rw [BG,Bh];omega
 rw [e,Int.neg_mul] at z;omega
def xR (p:Nat) (e:0<p) (S:cY):(∀ k,(p:Int)∣co S k)\/∃ T,Lz T/\(∀ k,(p:Int)∣co S k - co T k)/\¬ (p:Int)∣co T (@T - 1):=by
 let a:∀ k,co (S.map (·% (p:Int))) k=co S k % (p:Int):=λk=>KJ (F:=(·% (p:Int))) (Int.zero_emod _) S k;rcases Et (S.map (·% (p:Int))) with z | ⟨T,b,_,c⟩
 .exact .inl λk=>FP (by rw [<-a k];exact z k)
 .refine .inr {T,b,λk=>?_,λh=>?_}
  .rw [c,a];exact {co S k / p,by have:=FR (co S k) p;omega}
  .let d:=c (@T - 1);rw [a] at d;let f:=B3 (co S (@T - 1)) (show (p:Int)≠0 by omega);let g:=CM (co S (@T - 1)) (show (0:Int)<p by omega);have:=b.2;let l:=Ej `a h;omega
def cvT {p:Int} {S T:cY} {g:dh} {n:Nat} (a:∀ i,n<=i->g i=0) (h:∀ k,p∣co S k - co T k) (k:Nat):p∣cvL S g k - cvL T g k:=by
 let e:∀ k,g k=co ((List.range n).map g) k:=λk=>by
  rw [G2];split
  .rfl
  .exact a k `a
 rw [Be e,Be e,B2,B2 T]
 have:=bU (S:=[1]) (f:=co S) (g:=co T) (λk=>by
  let d:cvL [1] (co T) k=co T k:=by
   cases k with
   | zero=>rw [BO];omega
   | succ k=>rw [BG,Bh];omega
  rw [d];exact h k) ((List.range n).map g) k
 rwa [Be (b:=cvL [1] (co T)) (c:=co T) (λk=>by
  cases k with
  | zero=>rw [BO];omega
  | succ k=>rw [BG,Bh];omega)] at this
def SF {p:Nat} (hp:Pr p) {R A G a T:cY} (b:∀ k,co R k=cvL A (co G) k) (m:Lz G) (c:¬ (p:Int)∣co G (@G - 1)) (f:∀ k,(p:Int)∣co a k - cvL T (co G) k) (d:Dm (p:Int) (co a) (co R)):Dm (p:Int) (co T) (co A):=by
 let {X,g}:=d;refine {X,λk=>?_}
 let z:=Jg hp c (λi n=>by rw [AX `a];exact DR _) (Ay A ((CH X T).map ((-1)*·))) (λk _=>by
  rw [Bw,BS,Cw,<-b];let h:=g k;let j:=bU f X k;have:=DC h j;refine CO this (FJ ?_);omega)
 let e:co A k - cvL X (co T) k=co (Ay A ((CH X T).map ((-1)*·))) k:=by
  rw [CP (Ay A _),Bw,BS,Cw,<-CP,<-Be (CP T)];omega
 rw [e];exact yL z k
def xS {x e c n p N:Nat} (b:x<2 ^ (c+1)) (d:N<=2*(n - 1)) (a:2 ^ ((e+c+2)*(2*(n - 1)))<p):(2*(x*2 ^ e)) ^ N<p:=by
 let f:2*(x*2 ^ e)<=2 ^ (e+c+2):=by
  have:x*2 ^ e<=2 ^ (c+1)*2 ^ e:=Ct _ (Dc b);let g:2 ^ (e+c+2)=2*(2 ^ (c+1)*2 ^ e):=by rw [<-Nat.pow_add,show e+c+2=(c+1+e)+1 by omega,Cg];omega
  omega
 refine Cr ?_ a;rw [Nat.pow_mul];exact BW (Nat.pow_le_pow_left f N) (C2 (DD `b) d)
def xT {ns C b m G:cY} {p d n c e:Nat} {lead:Int} (hp:Pr p) (I:Lz ns) (lm:Lz C) (bn:∀ z∈ns,Bd d z) (bm:∀ z∈C,Bd d z) (nn:@ns<=n) (mn:@C<=n) (hc:n<2 ^ c) (n2:2<=n) (he:e=d+n*(2*c+4)) (X:2 ^ ((e+c+2)*(2*(n - 1)))<p)
  (J:((Int.gcd (co ns (@ns - 1)) (co C (@C - 1)):Nat):Int)=lead) (O:Gen (co ns) (co C) G) (r0:0<@b) (one:co b (@b - 1)=1) (ac:@G<=@b) (pG:¬ (p:Int)∣co G (@G - 1)) (dG:Dm (p:Int) (co G) (co b)) (dn:Dm (p:Int) (co b) (co ns)) (dm:Dm (p:Int) (co b) (co C))
  (gl:@m=@b) (hg:∀ k,k<@b->(p:Int)∣co m k - lead*co b k) (hb:∀ z∈m,2*z.natAbs<=p):MQ (co m) (co ns)/\MQ (co m) (co C):=by
 let p2:=hp.two;let P:=O.Prim;let o:=O.lz;let {A,L}:=X_ P O.rc.left;let {B,U}:=X_ P O.rc.right;let W:=SE bn nn hc o L;let bB:=SE bm mn hc o U
 let bG:∀ k,Bd e (co G k):=by
  rw [he];exact Mh bn {_,I.2} nn (BW (KG o I O.rc.left) nn) hc L
 rw [<-he] at W bB;let n0:1<=n:=by have:=I.1;omega
 let a6:=xQ o L U O.qi;let {S,hS}:=dG;let p0:0<p:=by omega
 let D:¬ (p:Int)∣(1:Int):=λz=>by have:=Ej `b z;omega
 rcases xR p p0 S with z | ⟨T,lT,hT,pT⟩
 .exfalso;let r:=hS (@b - 1);let u:=cvT (p:=(p:Int)) (S:=S) (T:=[]) (g:=co G) (n:=@G) (λi M=>AX M) (λk=>by rw [AX (a:=[]) (AV _),Int.sub_zero];exact z k) (@b - 1);rw [one] at r;rw [Bh,Int.sub_zero] at u;have:=DC r u;rw [Int.sub_add_cancel] at this;exact D this
 let v:∀ k,(p:Int)∣co b k - cvL T (co G) k:=λk=>by
  have:=DC (hS k) (cvT (λi M=>AX M) hT k (g:=co G) (n:=@G));refine CO this (FJ ?_);omega
 let t0:=lT.1;let g0:=o.1
 let tl:@T+@G=@b+1:=by
  let tp:=Ib lT o
  let np:¬ (p:Int)∣co T (@T - 1)*co G (@G - 1):=λz=>by
   rcases hp.mulI z with q | q
   .exact pT q
   .exact pG q
  let r:=v (@T - 1+(@G - 1));rw [tp] at r
  let c1:@T - 1+(@G - 1)<@b:=by
   rcases BE (@T - 1+(@G - 1)) @b with c | c
   .exact c
   .exfalso;rw [AX c,Int.zero_sub] at r;exact np (Int.dvd_neg.mp r)
  let u:=v (@b - 1);rw [one] at u;rcases BE (@T - 1+(@G - 1)) (@b - 1) with c | c
  .exfalso;rw [Dr (n:=@G) (λi M=>AX M) T _ `a,Int.sub_zero] at u;exact D u
  .omega
 let Y:=SF hp L o pG v dn;let Z:=SF hp U o pG v dm
 let f:∀ {R A:cY},Lz R->@R<=n->(∀ k,co R k=cvL A (co G) k)->(∀ k,Bd e (co A k))->∃ j,Lz j/\@j<=n/\co j=co A:=λ{R A} lR Rn h _=>by
  rcases Et A with z | ⟨j,F,_,ea⟩
  .exact absurd (by rw [h,B2,Fe G z]) lR.2
  .refine {j,F,?_,funext ea}
   let t:co R (@j - 1+(@G - 1))≠0:=by
    rw [h,B2,Be (λk=>(ea k).symm) G,<-B2,Ib F o];exact Bo F.2 o.2
   rcases BE (@j - 1+(@G - 1)) @R with c | c
   .have:=F.1;omega
   .exact absurd (AX c) t
 let {j,lA,An,eA}:=f I nn L W;let {B',lB,Bn,eB}:=f lm mn U bB
 let af:2 ^ e<p:=Cr (C2 `b (by
  have:(e+c+2)*1<=(e+c+2)*(2*(n - 1)):=De _ `a;omega)) X
 let T1:@T=1:=by
  rcases BE @T 2 with cT | cT
  .omega
  .exfalso
   let w:∀ {A:cY},Lz A->(∀ k,Bd e (co A k))->Dm (p:Int) (co T) (co A)->2<=@A:=λ{A} lA W dA=>by
    have:=Dm.len hp t0 pT dA {@A - 1,λz=>by
     let r:=W (@A - 1);let u:=Ci.mpr z;let h3:=Dz (by have:=lA.2;omega) u;rw [Ck] at h3;have:(co A (@A - 1)).natAbs<2 ^ e:=r;omega}
    omega
   let a2:=w lA (λk=>by rw [eA];exact W k) (by rw [eA];exact Y);let b2:=w lB (λk=>by rw [eB];exact bB k) (by rw [eB];exact Z);refine ca hp lA lB (by rw [eA,eB];exact a6) (λk=>by rw [eA];exact W k) (λk=>by rw [eB];exact bB k) a2 b2 cT pT (by rw [eA];exact Y) (by rw [eB];exact Z) (xS (x:=@j+@B') (c:=c) (n:=n) ?_ `a X);rw [Cg];omega
 let {s,rfl}:∃ s,T=[s]:=by
  match T,T1 with
  | [s],_=>exact ⟨s,rfl⟩
 let a3:∀ k,(p:Int)∣co b k - s*co G k:=λk=>by
  have:=v k
  let e1:cvL [s] (co G) k=s*co G k:=by
   cases k with
   | zero=>rw [BO];omega
   | succ k=>rw [BG,Bh];omega
  rwa [e1] at this
 let lr:@G=@b:=by simp at tl;omega
 let a4:∀ {R A:cY},(∀ k,co R k=cvL A (co G) k)->Lz R->co G (@G - 1)∣co R (@R - 1):=λ{R A} h lR=>by
  rcases Et A with z | ⟨j,F,_,ea⟩
  .exact absurd (by rw [h,B2,Fe G z]) lR.2
  .let hh:∀ k,co R k=cvL j (co G) k:=λk=>by rw [h,B2,Be (λk=>(ea k).symm) G,<-B2]
   let tp:=Ib F o;let a0:=F.1
   let rl:@R - 1=@j - 1+(@G - 1):=by
    rcases Nat.lt_trichotomy (@R - 1) (@j - 1+(@G - 1)) with c | c | c
    .exfalso;have:=hh (@j - 1+(@G - 1));rw [AX (by have:=lR.1;omega),tp] at this;exact Bo F.2 o.2 this.symm
    .exact c
    .exfalso;have:=hh (@R - 1);rw [Dr (n:=@G) (λi M=>AX M) j _ `a] at this;exact lR.2 this
   rw [rl,hh,tp];exact Int.dvd_mul_left _ _
 let {t,ht}:co G (@G - 1)∣lead:=by rw [<-J];exact Int.dvd_coe_gcd (a4 L I) (a4 U lm)
 let N:lead≠0:=λz=>by
  rw [<-J] at z;have:Int.gcd (co ns (@ns - 1)) (co C (@C - 1))=0:=by omega
  exact I.2 (Int.gcd_eq_zero_iff.mp this).1
 let a7:t≠0:=λz=>N (by rw [ht,z,Dg])
 let bt:t.natAbs<2 ^ d:=by
  let r:lead∣co ns (@ns - 1):=by rw [<-J];exact E4 ..
  let u:=CO (show t∣lead from {co G (@G - 1),by rw [ht,Cs]}) r;let h3:=Dz (by have:=I.2;omega) (Ci.mpr u);let h4:(co ns (@ns - 1)).natAbs<2 ^ d:=Ce bn _;omega
 let a8:∀ k,co m k=t*co G k:=λk=>by
  rcases BE k @b with ck | ck
  .let r:=hg k ck;let u:=a3 k;let h3:=a3 (@b - 1);rw [one,<-lr] at h3
   let dv:(p:Int)∣co m k - t*co G k:=by
    let q1:(p:Int)∣lead*(co b k - s*co G k):=Fx u;let q2:(p:Int)∣(t*co G k)*(1 - s*co G (@G - 1)):=Fx h3;have:=Int.dvd_sub (DC r q1) q2;refine CO this (FJ ?_);rw [ht];ext
   let b1:2*(co m k).natAbs<=p:=by
    have:co m k∈m:=by
     unfold co;rw [AN,AR `a];exact CN _
    exact hb _ this
   let b2:2*(t*co G k).natAbs<p:=by
    rw [BK];let h5:t.natAbs*(co G k).natAbs<=2 ^ d*2 ^ e:=EM (Dc bt) (Dc (bG k))
    let h6:2*(2 ^ d*2 ^ e)<=2 ^ ((e+c+2)*(2*(n - 1))):=by
     rw [<-Nat.pow_add,show 2*2 ^ (d+e)=2 ^ (d+e+1) by rw [Cg];omega];refine C2 `b ?_;have:(e+c+2)*2<=(e+c+2)*(2*(n - 1)):=De _ `a;omega
    omega
   let {y,hy}:=dv;let ab:(co m k - t*co G k).natAbs<p:=by omega
   rcases Int.lt_trichotomy y 0 with z | z | z
   .have:(p:Int)*y<=(p:Int)*(-1):=EN `a `a;omega
   .rw [z] at hy;omega
   .have:(p:Int)*1<=(p:Int)*y:=EN `a `a;omega
  .rw [AX `a,AX (a:=G) `a];omega
 let a5:∀ {R A:cY},(∀ k,co R k=cvL A (co G) k)->MQ (co m) (co R):=λ{R A} h=>{t,a7,A,λk=>by rw [Be a8,EF,h k]};exact {a5 L,a5 U}
def SG {g f:cY} {A:cY} (h:∀ k,co f k=cvL A (co g) k):MQ (co g) (co f):=⟨1,`b,A,λk=>by rw [<-h k];omega⟩
def xU (h:MJ K vs H Q E):RA K (eC Q) (L2.start ["row","other","prime","lead","found","guess"] vs) H:=by
 let {a,b,m,q,p,d,N,F,rfl,ha,hb,O,bp,S,lm,bn,bm,dn,dm,a8,ab,nc,ac,kN,kR}:=h;let p2:(2:Int)<=(p:Int):=by have:=O.two;omega
 unfold RA;let an:=FK S.1;let am:=FK lm.1;refine AY (Ae {4,5,ha,an,4,5,hb,am,6,?_});generalize I:((Int.gcd (co m (@m - 1)) (co q (@q - 1)):Nat):Int)=f;let af:f∣co m (@m - 1):=by rw [<-I];exact E4 ..
 let bl:Bd d f:=(Ce bn (@m - 1)).le (xM S.2 af);refine {4,3,`a,2,1,Ab (λc=>?_) (λc=>?_)}
 .refine kN (λv=>?_) _ (Same.refl H);let b3:f.natAbs<2 ^ d:=bl;let z:=FP (show f % (p:Int)=0 by simpa using c)
  let l0:f≠0:=λz=>by
   rw [<-I] at z;have:Int.gcd (co m (@m - 1)) (co q (@q - 1))=0:=by omega
   exact S.2 (Int.gcd_eq_zero_iff.mp this).1
  let h3:=Dz `a (Ci.mpr z);rw [Ck] at h3
  have:2 ^ d<=2 ^ ((d+N*(2*F+4)+F+2)*(2*(N - 1))):=by
   refine C2 `b ?_;have:(d+N*(2*F+4)+F+2)*1<=(d+N*(2*F+4)+F+2)*(2*(N - 1)):=De _ `a;omega
  let v:2 ^ ((d+N*(2*F+4)+F+2)*(2*(N - 1)))<p:=v;omega
 let pl:¬ (p:Int)∣f:=λz=>c (by rw [Fw z];rfl)
 let U:¬ (p:Int)∣co m (@m - 1)\/¬ (p:Int)∣co q (@q - 1):=by
  by_cases W:(p:Int)∣co m (@m - 1)
  .right;intro h2;exact pl (by rw [<-I];exact Int.dvd_coe_gcd W h2)
  .exact .inl W
 refine AY (C7 {4,1,a,b,m,q,p,2,ha,hb,O,bp,`a,`a,?_,λs J H1 s1 hs r0 rl one br hD aj al=>?_})
 .rcases U with h | h
  .exact .inl {_,h}
  .exact .inr {_,h}
 refine AY (B7 (DY (AS rfl {s,2,{_,SqL.of hs},CompJ.lst (xs:=J.map V.int) (λi ys M=>i<=@J/\M=H1/\∃ j:cY,ys=j.map V.int/\@j=i/\(∀ k,k<i->(p:Int)∣co j k - f*co J k)/\∀ z∈j,Bd 45000 z/\2*z.natAbs<=p) {AV _,2,[],7,λk hk=>absurd hk `a,λz hz=>nomatch hz} ?_ ?_ ?_})))
 .rintro i ys M ⟨W,rfl,j,rfl,X,_⟩;exact {by rw [AI];exact W,sz (by rw [AI];omega),SqL.of hs}
 .rintro i x ys M Y ⟨W,rfl,j,rfl,X,Z,v⟩;rw [Ah] at Y;cases e:J[i]? with
  | none=>rw [e] at Y;cases Y
  | some n=>
    rw [e] at Y;obtain rfl:V.int n=x:=nL Y;let b4:i<@J:=(A3.mp e).1;let b5:=br n (Bb e);let cn:co J i=n:=by unfold co;rw [AN,e];rfl
    refine (show AL _ _ _ _ _ _ _ from Ae {4,3,CK bl (bp.le (x:=(p:Int)) (y:=n) `a),1,6,`a,λr ao P=>?_});refine {`a,2,j++[r],by simp,by simp;omega,λk hk=>?_,λz hz=>?_}
    .by_cases ek:k=i
     .subst ek;have:co (j++[r]) k=r:=by unfold co;rw [AN,<-X];simp
      rw [this,cn];exact ao
     .have:co (j++[r]) k=co j k:=by unfold co;rw [AN,AN,Eh `a]
      rw [this];exact Z k `a
    .rcases BR.mp hz with z1 | z1
     .exact v z z1
     .rw [Ap.mp z1];exact {bp.le `a,by rw [Ck] at P;exact P}
 .rintro ys M ⟨_,rfl,j,rfl,X,Z,v⟩ t ht;rw [AI] at X Z;let st:=AO ht (.lst (~~~j));let a0:upd M t (.lst (~~~j)) t=_:=upd_same;generalize upd M t (.lst (~~~j))=H2 at st a0 ⊢;let a3:0<@j:=by omega
  let w:co j (@j - 1)≠0:=λz=>by
   have:=Z (@j - 1) `a;rw [z,show @j - 1=@J - 1 by omega,one] at this;exact pl (by let t2:=Int.dvd_neg.mpr this;rw [show -(0 - f*1)=f by omega] at t2;exact t2)
  refine {t,j,2,a0,`a,.inr w,λu o g H3 s3 hu g0 eg hp=>?_}
  let Pg:Prim o:=by
   rcases hp with h | h
   .rw [h] at a3;simp at a3
   .exact h
  let a4:@o=@j:=by rw [eg,AI]
  let R:Lz o:=HR (Mm (BL g0) (by rw [<-eg];exact .inr w)) (λz=>by rw [z] at a4;simp at a4;omega);let a5:∀ z∈o,Bd 45000 z:=Mr g0 (by rw [<-eg];exact λz hz=>(v z hz).1);let B:Same H H3:=(s1.trans st).trans s3;let ap:=B _ _ ha;let ar:=B _ _ hb;let {G,L}:=Xk S (QI.left (co m) (co q));let mn:=L.mq _ m (AT _) (QI.left _ _);let mm:=L.mq _ q (AT _) (QI.right _ _)
  let C:¬ (p:Int)∣co G (@G - 1):=by
   rcases U with h | h
   .exact L.lead O S mn h
   .exact L.lead O lm mm h
  let dG:=hD (co G) (L.dm O mn) (L.dm O mm)
  let a6:@G<=@J:=Dm.len O L.lz.1 C dG {@J - 1,by
   rw [one];intro z;have:=Ej `b z;omega}
  let D:QO d N F p->(∃ A:cY,∀ k,co m k=cvL A (co o) k)/\∃ A:cY,∀ k,co q k=cvL A (co o) k:=λb0=>by
   let {q1,q2}:=xT O S lm bn bm a8 ab nc ac rfl b0 I L r0 one a6 C dG aj al X Z (λz hz=>(v z hz).2);let sc:∀ k,co j k=g*co o k:=λk=>by rw [eg,KK]
   let mg:MQ (co o) (co j):=⟨1,`b,[g],λk=>by
    let e:cvL [g] (co o) k=g*co o k:=by
     cases k with
     | zero=>rw [BO];omega
     | succ k=>rw [BG,Bh];omega
    rw [e,sc];omega⟩
   exact {X_ Pg (mg.trans q1),X_ Pg (mg.trans q2)}
  refine (show Ak _ _ _ _ from B8 (AZ (Ae {4,a,u,m,o,d,45000,2,ap,hu,R,bn,a5,`a,`b,`a,`a,λno H4 T=>I_ {2,1,kN (λv=>no (D v).1) H4 (B.trans T)},λr qs H4 T hr _ hq=>I_ {2,1,?_}})));let b1:=T _ _ ar;let a7:=T _ _ hu;refine (show Ak _ _ _ _ from B8 (AZ (Ae {4,b,u,q,o,d,45000,2,b1,a7,R,bm,a5,`a,`b,`a,`a,λno H5 s5=>I_ {2,1,kN (λv=>no (D v).2) H5 ((B.trans T).trans s5)},λr2 b9 H5 s5 P _ b2=>I_ {2,1,?_}})));refine {1,?_};exact kR u o H5 ((B.trans T).trans s5) (s5 _ _ a7) (Xn L.rc R (SG hq) (SG b2) `a) Pg
noncomputable def exps:List Nat:=[61,127,521,1279,4423,9941,21701,44497]
def xV (K:W.Frag):Prop:=∀ H:Hp,SqT K H (GP K) (exps.map λe:Nat=>V.int (e:Int))
def xW:∀ e∈exps,Pr (mers e)/\e<=44497:=by
 intro e a;let h:e=61\/e=127\/e=521\/e=1279\/e=4423\/e=9941\/e=21701\/e=44497:=by simpa [exps] using a
 rcases h with h | h | h | h | h | h | h | h <;> rw [h]
 .exact {Xc,`b}
 .exact {Xd,`b}
 .exact {Xe,`b}
 .exact {Xf,`b}
 .exact {Xg,`b}
 .exact {Xh,`b}
 .exact {Xi,`b}
 .exact {Xj,`b}
def xX (e:Nat):(2:Int) ^ (e:Int).toNat - 1=((mers e:Nat):Int):=by
 unfold mers;have:=Nat.one_le_two_pow (n:=e);rw [Int.natCast_sub this,Ch,Int.natCast_pow];rfl
def xY {e:Nat} (h:e<=44497):Bd 45000 ((mers e:Nat):Int):=by
 unfold Bd mers;rw [Ck];let a:=Nat.one_le_two_pow (n:=e);let b:=C2 (n:=2) `b (show e<=45000 by omega);omega
def Ms {ns b one a i:cY} {g h:Int} (n:g≠0) (o:h≠0) (p:ns=one.map (g*·)) (q:b=a.map (h*·)) (R:RC (co one) (co a) i):RC (co ns) (co b) i:=by
 let j:∀ k,co ns k=g*co one k:=λk=>by rw [p,KK]
 let m:∀ k,co b k=h*co a k:=λk=>by rw [q,KK]
 refine {R.lz,?_,?_,?_}
 .let {c,e,A,f}:=R.left;exact {c,e,A.map (g*·),λk=>by rw [BS,<-f k,j k];ext}
 .let {c,e,A,f}:=R.right;exact {c,e,A.map (h*·),λk=>by rw [BS,<-f k,m k];ext}
 .let {d,r,U,W,u}:=R.qi;refine {g*h*d,Bo (Bo n o) r,U.map (h*·),W.map (g*·),λk=>?_};rw [BS,BS,Be j U k,Be m W k,EF,EF];have:=u k;ext
def xZ {K:W.Frag} (hK:xV K) {vs:cW} {H:Hp} {Q:VK} {E:XK} (h:Jy K vs H Q E):RB K { nx:=λ_ j=>Q .non j,rt:=Q } (L2.start ["row","other","one","two","exponent","found"] vs) H:=by
 let {a,b,C,J,d,o,m,rfl,ha,hb,tn,tm,bn,bm,nN,mN,aj,Z,nc,sm,af,k}:=h
 let d9:d<=44490:=by
  have:(d+o*(2*m+4)+m+2)*1<=(d+o*(2*m+4)+m+2)*(2*(o - 1)):=De _ `a;omega
 unfold RB;refine AY (B7 {1,a,C,2,ha,`a,tn,λa1 one g1 H1 s1 p f D p1=>?_});let a0:=s1 _ _ hb;refine AY (B7 {1,b,J,2,a0,`a,tm,λa2 c g2 F s2 r g G p2=>?_});let n:=s1.trans s2;let a3:=n _ _ ha;let a4:=n _ _ hb;let L:=s2 _ _ p;let l1:@C=↑one:=by rw [D,AI]
 let l2:@J=@c:=by rw [G,AI]
 let t1:Tz one:=Mm (BL f) (by rw [<-D];exact tn);let t2:Tz c:=Mm (BL g) (by rw [<-G];exact tm);let b1:∀ z∈one,Bd d z:=Mr f (by rw [<-D];exact bn);let b2:∀ z∈c,Bd d z:=Mr g (by rw [<-G];exact bm);let M:one=[]↔C=[]:=by rw [<-B5,<-B5,l1]
 let I:c=[]↔J=[]:=by rw [<-B5,<-B5,l2]
 let N:(C=[]\/J=[])->∀ (S:Hp) (u v:cX),Same F S->(Aa (A_ gL (bA (Jv K) (AB (As (AB (AA 2) AC)) (AB (As (AB (AA 3) AC)) AC))) (aS 0))) { nx:=λ_ j=>Q .non j,rt:=Q } [↥a,↥b,↥a1,↥a2,u,v] S:=λem S u v q=>by
  let w:=q _ _ L;let A:=q _ _ r;refine BT (AZ (Ae (Cb (AS rfl {Bi,λx hx=>?_}))));let sx:=AO hx (.lst [.ref a1]);refine Cb (AS rfl {Bi,λy hy=>?_});let sy:=AO hy (.lst [.ref a2]);let a5:=sy _ _ (show upd S x (.lst [.ref a1]) x=_ from upd_same);refine {x,y,one,c,2,{[V.ref a1],a5,{{a1,2,sy _ _ (sx _ _ w)},trivial}},{[V.ref a2],upd_same,{{a2,2,sy _ _ (sx _ _ A)},trivial}},em.imp (λz=>M.mpr z) (λz=>I.mpr z),λt T O a6=>?_};let {ar,xr,ht,a7,_}:=a6.head;refine {5,ht,HQ _ _,?_};refine k ar _ T (n.trans (q.trans ((sx.trans sy).trans O))) a7 (λa8=>?_) λp r=>by rw [nC (I.mpr r)];exact M.mpr p
  let z0:∀ {x:cY},x=[]->∀ k,co x k=0:=λe k=>by rw [e];exact AX (AV _)
  by_cases B:c=[]
  .rw [nC B]
   let U:C≠[]:=by
    rcases a8 with h | h
    .exact h
    .exact absurd (I.mp B) h
   let ab:Lz one:=HR t1 λz=>U (M.mp z);exact {Ms (BL f) (BL g) D G {ab,MQ.refl _,MQ.zero _ (z0 B),QI.left _ _},p1.resolve_left U}
  .rw [nB B];let U:one=[]:=M.mpr (em.resolve_right λz=>B (I.mpr z));exact {Ms (BL f) (BL g) D G {HR t2 B,MQ.zero _ (z0 U),MQ.refl _,QI.right _ _},p2.resolve_left λz=>B (I.mpr z)}
 let l0:=λem=>N em F none none (Same.refl F);let ac:C≠[]->J≠[]->Lz one/\Lz c:=λp r=>{HR t1 λz=>p (M.mp z),HR t2 λz=>r (I.mp z)};refine DN (show EQ _ _ _ _ _ from {1,6,a3,Ab (λX=>{1,6,a4,Ab (λc2=>{1,{_,hK F},?_}) (λc2=>l0 (.inr (by simpa using c2)))}) (λX=>Ab (λz=>nomatch z) λ_=>l0 (.inl (by simpa using X)))});let {z1,z2}:=ac (by simpa using X) (by simpa using c2);refine Nj (xs:=exps.map λe:Nat=>V.int (e:Int)) (λi Y j=>i<8/\∃ u v,Y=[↥a,↥b,↥a1,↥a2,u,v]/\Same F j) {`b,none,none,2,Same.refl F} (λi Y j _ _=>hK j) ?_ ?_
 .rintro i x Y j P ⟨i8,u,v,rfl,q⟩;rw [Ah] at P;cases e:exps[i]? with
  | none=>rw [e] at P;cases P
  | some R=>
    rw [e] at P;obtain rfl:V.int (R:Int)=x:=nL P;let {pe,pl}:=xW R (Bb e);let w:=q _ _ L;let A:=q _ _ r;show AF (AJ _ _) _ _ [_,_,_,_,_,_] _;refine AY (C7 {4,AZ (Ae (I_ ⟨_,rfl,_,_,2,rfl,`a,by unfold Bd;decide,`a,_,_,rfl,rfl,a1,a2,one,c,mers R,d,o,m,congrArg (λz=>[V.ref a1,V.ref a2,V.int z]) (xX R),w,A,pe,xY pl,z1,z2,b1,b2,`a,`a,`a,`a,nc,Z,λnb T O=>{1,2,1,Ab (λz=>absurd z (by simp)) λ_=>{?_,6,q.trans O}},λt rs T O ht rc pr=>{1,2,1,Ab (λ_=>{1,?_}) λz=>absurd rfl z}⟩))})
    .rcases BE (i+1) 8 with c8 | c8
     .exact c8
     .exfalso;let i7:i=7:=by omega
      rw [i7] at e;obtain rfl:44497=R:=nL e;refine nb ?_;show 2 ^ ((d+o*(2*m+4)+m+2)*(2*(o - 1)))<mers 44497;let p:2 ^ ((d+o*(2*m+4)+m+2)*(2*(o - 1)))<=2 ^ 44490:=C2 `b sm
      let r:2 ^ 44490<mers 44497:=by
       unfold mers;let e7:2 ^ 44497=2 ^ 44490*2 ^ 7:=by rw [<-Nat.pow_add]
       rw [e7];have:1<=2 ^ 44490:=Nat.one_le_two_pow;omega
      omega
    exact k t rs T (n.trans (q.trans O)) ht (λ_=>{Ms (BL f) (BL g) D G rc,pr}) λp _=>absurd p (by simpa using X)
 .rintro Y j ⟨i8,_⟩;exact absurd i8 (by simp [exps])
def SH (l:cU):(BI l).length=@l:=by unfold BI;rw [AI]
def wA {l:cU} (a:D5 l) (b:Nz l):Tz (BI l):=by
 by_cases h:l=[]
 .left;rw [h];rfl
 .right;rw [SH];exact yM a b (DE.mpr h)
def wB {l:cU} {M N:Int} (f:D5 l) (g:Ov l M) (i:Ov l N) (h:M∣N) {b:Nat} (j:∀ z∈aY l N,Bd b z):∀ z∈aY l M,Bd b z:=λz hz=>by
 let {q,a,rfl}:=Am.mp hz;refine (j (q.1*(N / q.2)) (Am.mpr ⟨q,a,rfl⟩)).le ?_;rw [BK,BK];refine De _ ?_;let c:=(f q a).pos;let {x,d}:=g.2 q a;let {y,e}:=h;let k:M / q.2=x:=by rw [d,Gf _ (BL c)]
 let m:N / q.2=x*y:=by rw [e,d,Int.mul_assoc,Gf _ (BL c)]
 rw [k,m,BK];refine Gc _ ?_;rcases Dx y.natAbs with z | z
 .let n:y=0:=by omega
  have:=i.1;rw [e,n] at this;omega
 .exact z
def Gq.clr {b c:Nat} {l:cU} (G:Gq b c l):(∀ z∈BI l,Bd b z)/\Bd c (DM l)/\(∀ q∈l,Bd b q.1):=by
 let {M,a,e,hz}:=G.ov;let d:=PV G.low a;exact {wB G.low (G0 G.low) a d hz,Je (BL a.1) d e,yP G.low a hz}
def GU (g:cY):(S_ g).length=@g:=by unfold S_;rw [AI]
def SI {g:cY} (a:Lz g):D5 (S_ g):=λq b=>by
 let {z,_,rfl}:=Am.mp b;exact EY a.2
theorem wC {g:cY} (a:Lz g) (k:Nat):bN (S_ g) k=(co g k:Rat) / (co g (@g - 1):Rat):=by
 unfold bN Dp S_;rw [AN,Ah];unfold co;rw [AN (l:=g) (i:=k)];cases e:g[k]? with
 | none=>
   show val (0,1)=((0:Int):Rat) / _;unfold val;show ((0:Int):Rat) / _=_;rw [show ((0:Int):Rat)=0 from rfl,be,be]
 | some z=>exact Gz a.2
def wD {q:Nu} {n M:Int} (c:q.2≠0) (d:M≠0) (h:val q=(n:Rat) / (M:Rat)):Wo q n M:=by
 unfold Wo;unfold val at h;let a:=D6 c;let b:=D6 d;let e:(q.1:Rat)*(M:Rat)=(n:Rat)*(q.2:Rat):=by ext
 exact_mod_cast e
def wE {q:Nu} {n M:Int} (a:Low q.1 q.2) (h:Wo q n M):q.2∣M/\q.1*(M / q.2)=n:=by
 unfold Wo at h;let d:q.2∣M:=LU a {n,by rw [h,Cs]};refine {d,?_};let b:=a.pos
 let e:q.2*(q.1*(M / q.2))=q.2*n:=by
  have:=FT d
  calc q.2*(q.1*(M / q.2))=q.1*(q.2*(M / q.2)):=by ext
   _=q.1*M:=by rw [this]
   _=q.2*n:=by rw [h,Cs]
 exact Int.eq_of_mul_eq_mul_left (BL b) e
def wF {lead:Int} (c:lead≠0) {B:Nat} {ns:cY} (f:∀ z∈ns,Bd B z):Ov (ns.map λn=>AW n lead) (lead.natAbs:Int)/\∀ z∈aY (ns.map λn=>AW n lead) (lead.natAbs:Int),Bd B z:=by
 let g:(0:Int)<(lead.natAbs:Int):=by omega
 let b:∀ n∈ns,(AW n lead).2∣(lead.natAbs:Int)/\Bd B ((AW n lead).1*((lead.natAbs:Int) / (AW n lead).2)):=λn a=>by
  let h:=EY (n:=n) c;let p:=D6 c
  have:∃ s:Int,val (AW n lead)=(s:Rat) / (((lead.natAbs:Int):Int):Rat)/\Bd B s:=by
   rw [Gz c];rcases Int.natAbs_eq lead with e | e
   .exact {n,by rw [<-e],f n a}
   .refine {-n,?_,(f n a).neg};let i:(lead.natAbs:Int) = -lead:=by omega
    rw [i];push_cast;ext
  let {s,j,k}:=this;let {m,o}:=wE h (wD (BL h.pos) (BL g) j);exact {m,by rw [o];exact k}
 refine {{g,λq d=>?_},λz hz=>?_}
 .let {n,a,rfl}:=Am.mp d;exact (b n a).1
 .let {q,d,rfl}:=Am.mp hz;let {n,a,rfl}:=Am.mp d;exact (b n a).2
def wG (ns:cY) (f:Int):List.map V.int (ns.map (f*·))=Al @ns λk=>f*ns.getD k 0:=by
 unfold Al;congr 1;apply EL;intro i;rw [Ah,Ah];by_cases h:i<@ns
 .rw [DS h,AR h];show _=some (f*ns.getD i 0);rw [AN,AR h];rfl
 .rw [CB `a,CB (by rw [Bg];omega)];rfl
def wH (m:Nat) (f:dh):Al (m+1) f=Al m f++[V.int (f m)]:=by
 unfold Al;rw [List.range_succ,Bj,Bj];rfl
def SJ (ns:cY):ns.map V.int=Al @ns λk=>ns.getD k 0:=by
 let h:=wG ns 1
 let e:ns.map (1*·)=ns:=by
  let a:(λx:Int=>1*x)=id:=funext λx=>Int.one_mul x;rw [a,List.map_id]
 rw [e] at h;rw [h];exact FI λi _=>by rw [Int.one_mul]
def KL (ns:cY) (lo b:Option Int):∃ a:cY,CD (~~~ns) lo b=a.map V.int/\@a<=@ns:=by
 unfold CD;rw [<-List.map_drop,<-List.map_take];exact {1,by rw [Ba,List.length_drop];omega}
def wI (h:MK K vs H Q E):RT K { nx:=λ_ f=>Q .non f,rt:=Q } (L2.start ["_law_script","_law_first"] vs) H:=by
 let {s,a,rfl,c,g,k}:=h;unfold RT;rwa [];let {i,j,_}:=KL a none (some 1);let {m,n,A}:=KL a none (some 63);refine {_,c,λp hp=>{i,j,_,Same.seq (AO hp _) c,λB q l u=>{{`b,(Ma `b `b).mono `b},`b,sz `b,λr b=>?_}}};let v:=AO hp (.lst (CD (~~~a) none (some 1)));let w:=AO q (.lst (CD (~~~a) none (some 63)));let x:=AO u (.lst (CD (~~~a) none (some 63)));let d:=(v.trans w).trans x
 let y:H r=none:=by
  cases e:H r with
  | none=>rfl
  | some o=>let z:=d _ _ e;rw [b] at z;cases z
 refine k r l _ y (Kp.of_same (d.trans (AO b _))) {m,0,9,upd_same,?_,`a,?_,`b,`b,?_}
 .rw [<-n];exact (AO b _) _ _ upd_same
 .exact Aq upd_same b
 .refine Int.ediv_nonneg ?_ `b;split <;> omega
def wJ (h:Bv K vs H Q E):Z9 K (eC Q) (L2.start ["_law_hand_here","_law_many","_law_found","_law_cell","_law_once","_law_twice"] vs) H:=by
 let {p,a,m,n,rfl,{g,x,y,z,hp,q,P,F,G,Y,D},n9,u,m9,k}:=h;let i:∀ {d:Hp} {o:HO},d a^^^(~~~g)->(upd d p o) a^^^(~~~g):=λh=>by rw [Ai F];exact h
 let S:∀ (x y:Int) (d:Hp),d p^^^[V.ref a,V.int x,V.int y,V.int z]->d a^^^(~~~g)->0<=x->x<=n+1->0<=y->Kp p H d->Ra K { nx:=λx r=>Q V.non r,rt:=Q } [some (V.ref p),some (V.int m),none,none,none,none] d:=λx y d hp q G Y D T=>by
  let w:RZ K { nx:=λx r=>Q V.non r,rt:=Q } [some (V.ref p),some (V.int m),none,none,none,none] d:=by
   refine ⟨_,rfl,_,_,_,_,rfl,rfl,hp,rfl,_,_,rfl,rfl,_,rfl,_,_,_,1,rfl,rfl,hp,rfl,?_⟩;let A:=T.trans (Kp.upd (H:=d) (p:=p) (o:=HO.lst [V.ref a,V.int (x+1),V.int y,V.int z]));let b:upd d p (.lst [.ref a,.int (x+1),.int y,.int z]) p=_:=upd_same;let c:upd d p (.lst [.ref a,.int (x+1),.int y,.int z]) a=_:=i q;show RY K _ _ (upd d p (.lst [.ref a,.int (x+1),.int y,.int z]));generalize upd d p (.lst [.ref a,.int (x+1),.int y,.int z])=U at A b c ⊢;let {W,Z,_}:=KL g (some ((x+1) % if ((~~~g).length:Int) > 1 then ((~~~g).length:Int) else 1)) none;let {I,e2,_}:=KL W none (some 1);refine {1,5,b,2,1,5,b,2,1,5,b,2,6,c,6,3,by split <;> omega,1,6,c,λq1 J=>?_};rw [Z];refine {1,6,upd_same,λq2 M=>?_};rw [e2];refine {_,I,2,upd_same,?_};let N:=(AO J (.lst (~~~W))).trans (AO M (.lst (~~~I)));let f:=N _ _ b;let X:=A.same N;let B:=N _ _ c;show RX K _ [_,_,_,_,_,_] _;generalize upd (upd U q1 _) q2 _=H3 at f B X ⊢;generalize I.sum=C;let L:∀ {x y:Int},0<=x->x<4611686018427387904->IntMulOk x y:=λJ M=>mulL `a `a;let R:∀ {x y:Int},0<=y->y<4611686018427387904->IntMulOk x y:=λJ M=>mulR `a `a;refine {8,show (0:Int)<2147483629 by decide,1,5,f,2,3,L `b `b,3,3,1,5,f,2,3,L `b `b,3,3,R `a `a,3,(by decide:(0:Int)<2147483647),?_};show RW K _ [_,_,_,_,some (.int _),_] _;generalize (C % 2147483629+7919*(x+1)+11)*(48271+2*(x+1)) % 2147483647=e;let z:=B3 e (show (39373:Int)≠0 by decide);let z2:=CM e (show (0:Int)<39373 by decide);refine {4,3,(by decide:(0:Int)<39373),1,5,f,2,3,3,R `a `a,1,5,f,2,3,L `b `b,3,3,(by decide:(0:Int)<1999999973),?_};show RV K _ [_,_,_,_,_,some (.int _)] _;generalize (e*(e % 39373+(x+1))+31*(x+1)) % 1999999973=twice;exact {8,{`b,(Ma `b `b).mono `b},8,u,k _ _ (B3 _ `a) (CM _ u) {g,x+1,y,_,f,B,P,F,`a,`a,D} X}
  refine {1,5,hp,7,1,Ab (λ_=>?_) (λ_=>w)};refine {1,5,hp,2,3,1,Ab (λ_=>?_) (λ_=>w)};refine {1,5,hp,2,8,u,?_};refine ⟨_,rfl,_,_,_,_,rfl,rfl,hp,rfl,_,rfl,_,_,rfl,rfl,{u,(Ma `a `a).mono `b},_,rfl,_,_,_,2,rfl,rfl,hp,rfl,?_⟩;exact {1,k _ _ (B3 _ `a) (CM _ u) {g,x,y / m,z,upd_same,i q,P,F,G,`a,Int.ediv_nonneg D `a} (T.trans Kp.upd)}
 let j:=S x y H hp q G `a D (Kp.of_same (Same.refl H));refine {1,5,hp,7,1,Ab (λ_=>?_) (λ_=>j)};refine {1,5,hp,7,1,Ab (λ_=>?_) (λ_=>j)};refine {1,5,hp,2,3,1,5,hp,2,6,q,3,1,Ab (λO=>?_) (λ_=>j)};refine ⟨_,rfl,_,_,_,_,rfl,rfl,hp,rfl,_,_,rfl,rfl,_,rfl,_,_,_,1,rfl,rfl,hp,rfl,?_⟩;let b:upd H p (.lst [.ref a,.int (x+1),.int y,.int z]) p=_:=upd_same;let c:upd H p (.lst [.ref a,.int (x+1),.int y,.int z]) a=_:=i q;let A:Kp p H (upd H p (.lst [.ref a,.int (x+1),.int y,.int z])):=Kp.upd;show RU K _ [_,_,_,_,_,_] (upd H p (.lst [.ref a,.int (x+1),.int y,.int z]));generalize upd H p (.lst [.ref a,.int (x+1),.int y,.int z])=U at A b c ⊢;let O:=nF O;rw [AI] at O;let {v,hv}:=yH (ns:=g) (k:=x+1) `a `a;exact ⟨_,rfl,_,_,_,_,rfl,rfl,b,rfl,_,rfl,_,_,_,_,rfl,rfl,b,rfl,_,_,_,_,rfl,rfl,c,hv,v,rfl,_,rfl,_,_,_,2,rfl,rfl,b,rfl,S (x+1) _ _ upd_same (i c) `a `a (by split <;> omega) (A.trans Kp.upd)⟩
def wK (h:IT K vs H Q E):zA K (eC Q) (L2.start ["_law_top","_law_bottom","_law_one","_law_other"] vs) H:=by
 let {a,b,rfl,f,q}:=h
 let n:∀ s:Int,(s=if b<0 then -((Int.gcd a b:Nat):Int) else ((Int.gcd a b:Nat):Int))->K9 a s/\K9 b s/\2<=sizeLine/\∀ (p:Addr),H p=none->Q (V.ref p) (upd H p (.tup [.int (a.fdiv s),.int (b.fdiv s)])):=λs B=>by
  let {o,J,r,C,L,M}:=Kz f B
  let e:AW a b=(a.fdiv s,b.fdiv s):=by
   refine PQ (EY f) r ?_;rw [Gz f,PP (q:=(a.fdiv s,b.fdiv s)) (BL r.pos) f C]
  rw [e] at q;exact {o,o,sz `b,q}
 refine {4,4,6,?_};show AF (Cu _ _) _ _ [_,_,_,_] _;refine while_by (λm u d=>∃ x y:Int,u=[some (.int a),some (.int b),some (.int x),some (.int y)]/\d=H/\0<=x/\0<=y/\Int.gcd x y=Int.gcd a b/\m=y.natAbs) b.natAbs {3,by split <;> omega,by split <;> omega,?_,by split <;> omega} ?_
 .split <;> split <;> simp [Int.neg_gcd,Int.gcd_neg]
 rintro m u d ⟨x,y,rfl,rfl,N,v,w,rfl⟩;refine {8,1,Ab (λc=>?_) (λc=>?_)}
 .let c:y > 0:=nF c;refine {λD F=>∃ G,G<y.natAbs/\_,λ_ _ h=>h,?_};let I:=B3 x (show y≠0 by omega);let O:=CM x c;refine {4,8,c,6,(x % y).natAbs,`a,y,x % y,7,v,I,?_,2};rw [Ky x v];exact w
 .let c:¬ y > 0:=λz=>c (nE z);let e:y=0:=by omega
  subst e;let A:x=((Int.gcd a b:Nat):Int):=by rw [<-w,Int.gcd_zero_right];omega
  refine {8,1,Ab (λg=>?_) (λg=>?_)}
  .let {i,j,k}:=n (-x) (by rw [nC (nF g),A]);exact {4,4,3,i,4,3,j,k}
  .let {i,j,k}:=n x (by rw [nB (λz=>g (nE z)),A]);exact {4,3,i,4,3,j,k}
def wL (h:J1 K vs H Q E):Rc K { nx:=λ_ c=>Q .non c,rt:=Q } (L2.start ["_law_row","_law_scale_here"] vs) H:=by
 let {p,q,b,t,d,rfl,hp,v,A,B,C,I,k}:=h;unfold Rc;rwa [hp,v];refine {{_,SqL.of hp},CompJ.lst (xs:=b.map V.int) (λi f c=>i<=@b/\Same H c/\Nums c f ((b.map λn=>AW (n*t) d).take i)) {AV _,Same.refl H,trivial} ?_ ?_ ?_}
 .rintro i f c ⟨w,g,j⟩;refine {by rw [AI];exact w,sz ?_,SqL.of (g _ _ hp)};rw [@j,Ba];omega
 .rintro i x f c m ⟨w,g,j⟩;rw [Ah] at m;cases e:b[i]? with
  | none=>rw [e] at m;cases m
  | some z=>
    rw [e] at m;obtain rfl:=nL m;let u:=g _ _ v;let D:i<@b:=(A3.mp e).1;rwa [u];refine {CK (C z (Bb e)) B,A,λr o=>{`a,g.trans (AO o _),?_}};let F:(b.map λn=>AW (n*t) d)[i]?=some (AW (z*t) d):=by rw [Ah,e];rfl
    rw [C4,F];exact (j.tp (aZ (AO o _))).append (Nums.one Pi)
 .rintro f c ⟨_,g,j⟩ a G;let e:(b.map λn=>AW (n*t) d).take (~~~b).length=b.map λn=>AW (n*t) d:=by rw [AI,show @b=(b.map λn=>AW (n*t) d).length by rw [AI],B4]
  rw [e] at j;rwa [];intro r o;let y:=(AO G (.lst f)).trans (AO o (.tup f));exact k r f _ (g.trans y) upd_same (j.tp (aZ y))
def wM (h:IU K vs H Q E):Re K { nx:=λ_ c=>Q .non c,rt:=Q } (L2.start ["_law_row"] vs) H:=by
 let {p,b,rfl,hp,o,B,k}:=h;unfold Re;rwa [hp];let v:=FK o.1;refine {{_,SqL.of hp},CompJ.lst (xs:=b.map V.int) (λi d c=>i<=@b/\Same H c/\Nums c d ((S_ b).take i)) {AV _,Same.refl H,trivial} ?_ ?_ ?_}
 .rintro i d c ⟨q,f,g⟩;refine {by rw [AI];exact q,sz ?_,SqL.of (f _ _ hp)};rw [@g,Ba];omega
 .rintro i x d c j ⟨q,f,g⟩;rw [Ah] at j;cases e:b[i]? with
  | none=>rw [e] at j;cases j
  | some z=>
    rw [e] at j;obtain rfl:=nL j;let n:=f _ _ hp;let w:i<@b:=(A3.mp e).1;rwa [n,v];refine {o.2,λr m=>{`a,f.trans (AO m _),?_}};let y:(S_ b)[i]?=some (AW z (co b (@b - 1))):=by unfold S_;rw [Ah,e];rfl
    rw [C4,y];exact (g.tp (aZ (AO m _))).append (Nums.one Pi)
 .rintro d c ⟨_,f,g⟩ a A;let e:(S_ b).take (~~~b).length=S_ b:=by rw [AI,show @b=(S_ b).length by rw [GU],B4]
  rw [e] at g;rwa [];intro r m;let u:=(AO A (.lst d)).trans (AO m (.tup d));exact k r d _ (f.trans u) upd_same (g.tp (aZ u))
def wO {a b:cY} (d:0<@a) (e:0<@b):ps a b @a (@a+@b - 1 - 1)=co a (@a - 1)*co b (@b - 1):=by
 let {i,c}:∃ i,@a=i+1:={@a - 1,`a};rw [c];show ps a b i _+_=_;rw [LX i _ `a,nC {`a,`a},show i+1+@b - 1 - 1 - i=@b - 1 by omega];show 0+co a i*co b (@b - 1)=_;rw [Nat.add_sub_cancel];omega
def wP (h:J0 K vs H Q E):Rb K (eC Q) (L2.start ["_law_one","_law_other","_law_made","_law_k","_law_a","_law_j","_law_b"] vs) H:=by
 let {p,q,c,d,n,m,rfl,hp,N,O,P,a3,a4,ba,bb,n9,m9,k}:=h;let R:=O;let S:=P;unfold Rb;refine AY (AZ (Cb (I_ {Bi,λa ha=>?_})));let M:=AO ha (.lst [.int 0]);let D:=M _ _ hp;let T:=M _ _ N;let eL:((List.map V.int c).length:Int)+((List.map V.int d).length:Int) - 1=((@c+@d - 1:Nat):Int):=by rw [AI,AI];omega
 refine {1,6,D,1,6,T,3,3,9,1,congrArg V.int eL,upd_same,`a,`a,sz (by simp;omega),λw U=>?_};rw [Ch,KF];generalize W:@c+@d - 1=L at U ⊢;let sw:=AO U (.lst (Al L λ_=>0))
 let w0:H w=none:=by
  cases e:H w with
  | none=>rfl
  | some o=>let z:=M _ _ e;rw [U] at z;cases z
 refine {_,rfl,_,rfl,{_,SqL.of (sw _ _ D)},ForJ.enumL (xs:=c.map V.int) (λi g f=>∃ X Y A B:cX,g=[↥p,↥q,↥w,X,Y,A,B]/\Same H f/\f w^^^(Al L λk=>ps c d i k))
  {none,none,none,none,2,M.trans sw,upd_same} ?_ ?_ ?_}
 .rintro i g f _ ⟨_,_,_,_,_,C,_⟩;exact SqL.of (C _ _ hp)
 .rintro i x pp g H1 F ⟨X,Y,A,B,rfl,C,r⟩ Z;rw [Ah] at F;cases en:c[i]? with
  | none=>rw [en] at F;cases F
  | some z=>
    rw [en] at F;obtain rfl:V.int z=x:=nL F;let il:i<@c:=(A3.mp en).1;let zd:c.getD i 0=z:=by rw [AN,en];rfl
    let sp:=AO Z (.tup [.int (i:Int),.int z])
    refine {_,_,rfl,upd_same,rfl,_,_,rfl,_,_,rfl,rfl,_,rfl,_,rfl,{_,SqL.of (sp _ _ (C _ _ N))},ForJ.enumL (xs:=d.map V.int) (λj g f=>∃ A B:cX,g=[↥p,↥q,↥w,some (.int (i:Int)),some (.int z),A,B]/\Same H f/\f w^^^(Al L λk=>aX c d i j k))
      {A,B,2,C.trans sp,by rw [sp _ _ r];exact congrArg (λl=>some (HO.lst l)) (FI λk _=>(PN c d i k))} ?_ ?_ ?_}
    .rintro j g f _ ⟨_,_,_,G,_⟩;exact SqL.of (G _ _ N)
    .rintro j y pq g H2 I ⟨y3,y4,rfl,G,v⟩ a0;rw [Ah] at I;cases em:d[j]? with
     | none=>rw [em] at I;cases I
     | some u=>
       rw [em] at I;obtain rfl:V.int u=y:=nL I;let jl:j<@d:=(A3.mp em).1;let ud:d.getD j 0=u:=by rw [AN,em];rfl
       let sq:=AO a0 (.tup [.int (j:Int),.int u]);let J:=sq _ _ v;let kl:i+j<L:=by omega
       refine {6,upd_same,2,6,3,4,8,5,J,DH `a (Cy _ kl),4,3,CK (ba z (Bb en)) (bb u (Bb em)),3,4,8,9,_,i+j,7,J,?_,6,λb o h=>Kp.upd b o (Aq h w0) (sq b o (G b o h)),upd_same.trans (congrArg (λl=>some (HO.lst l)) ?_)}
       .rw [DP];exact Fq `a kl
       .refine Fp kl ?_ λk _ hk=>?_
        .rw [Jd,nC rfl,zd,ud]
        .rw [Jd,nB hk]
    .rintro g H2 ⟨y3,y4,rfl,G,v⟩;rw [AI] at v;exact {9,6,G,v}
 .rintro g H1 ⟨X,Y,A,B,rfl,C,r⟩;rw [AI] at r
  let ck:∀ k,co ((List.range L).map λk=>ps c d @c k) k=ps c d @c k:=λk=>by
   unfold co;rw [AN,Ah];by_cases hk:k<L
   .rw [DS hk];rfl
   .rw [CB (by rw [Bg];omega),LX _ _ `a];rfl
  let cl:((List.range L).map λk=>ps c d @c k).length=L:=by rw [AI,Bg]
  refine {1,k w _ H1 C w0 r (by rw [cl];omega) (λO P=>{by rw [cl];omega,?_}) ck};rw [ck,cl,<-W,wO R S];exact Bo O.2 P.2
def Hand.same {H b:Hp} {p a:Addr} {n:Int} (h:Hand H p a n) (s:Same H b):Hand b p a n:=by
 let {c,x,y,z,d,e,r}:=h;exact {c,x,y,z,s _ _ d,s _ _ e,r}
def Hand.mono {H:Hp} {p a:Addr} {n b:Int} (h:Hand H p a n) (e:n<=b):Hand H p a b:=by
 let {c,x,y,z,d,f,g,i,j,m,k}:=h;exact {c,x,y,z,d,f,g,i,j,`a,k}
def Hand.ne {H:Hp} {p a q:Addr} {n:Int} (h:Hand H p a n) (e:H q=none):q≠p:=by
 let {c,x,y,z,b,_}:=h;exact λw=>by rw [w,b] at e;cases e
def Hand.ne2 {H:Hp} {p a q:Addr} {n:Int} (h:Hand H p a n) (e:H q=none):q≠a:=by
 let {c,x,y,z,_,b,_}:=h;exact λw=>by rw [w,b] at e;cases e
def Hand.upd {H:Hp} {p a q:Addr} {n:Int} {o:HO} (h:Hand H p a n) (e:q≠p) (b:q≠a):Hand (upd H q o) p a n:=by
 let {c,x,y,z,d,f,r}:=h;exact {c,x,y,z,by rw [Ai e.symm];exact d,by rw [Ai b.symm];exact f,r}
def wQ {d:Int} (a:0<=d) (b:d<2):∃ s:Int,M' [V.int 1,V.int (-1)] d=some (V.int s)/\s≠0/\-1<=s/\s<=1:=by
 rcases (show d=0\/d=1 by omega) with e | e <;> subst e
 .exact ⟨1,rfl,`b,`b,`b⟩
 .exact {-1,2,`b,`b,`b}
def SK {n m:Int} (c:m≠0) (d:n≠0):(AW n m).1≠0:=λz=>by
 let v:=Gz (n:=n) c;unfold val at v;rw [z,show ((0:Int):Rat)=0 from rfl,be] at v;let a:=D6 c;let b:=D6 d;ext
def wR {s d:Int} (a:s≠0) (b:-1<=s) (c:s<=1):(s*d).natAbs=d.natAbs:=by
 rw [BK];have:s.natAbs=1:=by omega
 rw [this,Nat.one_mul]
def KM (ns:cY) (k:Nat):co (dI ns) k=((k+1:Nat):Int)*co ns (k+1):=by
 by_cases h:k<@ns - 1
 .unfold dI;show ((List.range (@ns - 1)).map _).getD k 0=_;rw [AN,Ah,DS h];rfl
 .rw [AX (by unfold dI;rw [AI,Bg];omega),AX (k:=k+1) `a,Dg]
def Ih (ns:cY):(dI ns).length=@ns - 1:=by unfold dI;rw [AI,Bg]
def DvI (a g:cY):Prop:=∃ A:cY,∀ k,co a k=cvL A (co g) k
def DvI.len {a g:cY} (h:DvI a g) (b:Lz a) (c:Lz g):@g<=@a:=KG c b (by
 let {A,d}:=h;exact ⟨1,`b,A,λk=>by rw [Int.one_mul];exact d k⟩)
def DvI.bd {a g:cY} (h:DvI a g) (b:Lz a) (d:∀ z∈a,Bd 40 z) (e:@a<=9) (f:Lz g):∀ z∈g,Bd 148 z:=by
 let j:=h.len b f;let {A,i}:=h;exact Ig (Mh (n:=9) (c:=4) d {_,b.2} e `a `b i)
def Mw {a:cY} (h:Lz a):Tz a:=.inr h.2
def wS {ns:cY} (h:Lz ns):Tz (dI ns):=by
 by_cases c:2<=@ns
 .refine Mw {by rw [Ih];omega,?_};rw [Ih,KM,show @ns - 1 - 1+1=@ns - 1 by omega];exact Bo `a h.2
 .let e:dI ns=[]:=B5.mp (by rw [Ih];omega);exact .inl e
def wT {ns:cY} (h:∀ z∈ns,Bd 40 z) (c:@ns<=9):∀ z∈dI ns,Bd 148 z:=λz hz=>by
 unfold dI at hz;let {k,hk,rfl}:=Am.mp hz;let a:=DB.mp hk
 let b:Bd 4 ((k+1:Nat):Int):=by
  show ((k+1:Nat):Int).natAbs<2 ^ 4;omega
 exact (b.mul (Ce h (k+1))).mono `b
def wU (h:J3 K vs H Q E):QV K { nx:=λ_ c=>Q .non c,rt:=Q } (L2.start ["row"] vs) H:=by
 let {p,d,b,rfl,hp,q,r,u,k}:=h;unfold QV;rwa [hp];rw [AI];refine {`b,`b,`a,`a,CompJ.range (λi f c=>i<=@d - 1/\Same H c/\f=Al i λk=>((k+1:Nat):Int)*co d (k+1)) {AV _,Same.refl H,2} ?_ ?_ ?_}
 .rintro i f c ⟨m,e,rfl⟩;exact {`a,sz (by rw [DP];omega)}
 .rintro i f c v ⟨m,e,rfl⟩;let g:=e _ _ hp
  let n:M' (~~~d) (1+(i:Int))=some (V.int (co d (i+1))):=by
   refine DH (j:=i+1) `a ?_;rw [SJ];exact Cy _ `a
  rwa [g,n];refine {mulL `a `a,`a,e,?_};rw [wH i,show (1+(i:Int))=((i+1:Nat):Int) by omega];rfl
 .rintro f c ⟨_,e,rfl⟩ a o;refine k a _ (e.trans (AO o _)) ?_;rw [upd_same,show ((@d:Int) - 1).toNat=@d - 1 by omega];rfl
def em9 {ns a:cY} (b:@ns<=9) (c:@a<=9) (h:ns=[]\/a=[]):2*3 ^ (@ns+@a)*(148+1)<=60000000:=by
 have:@ns+@a<=9:=by rcases h with rfl | rfl <;> simp <;> omega
 let p:=C2 (show 0<3 by decide) this;have:3 ^ 9=19683:=by decide
 omega
def wV {ns:cY} {t d:Int} (f:Lz ns) (g:∀ z∈ns,Bd 40 (z*t)) (l:Low t d) (h:t≠0) (i:Bd 4 d):Gq 40 40 (ns.map λn=>AW (n*t) d):=by
 let c:d≠0:=BL l.pos;let e:(ns.map λn=>AW (n*t) d)=(ns.map (·*t)).map λn=>AW n d:=by rw [Dy];rfl
 let b:∀ z∈ns.map (·*t),Bd 40 z:=λz hz=>by let {y,j,rfl}:=Am.mp hz;exact g y j
 let r:=wF c b;rw [<-e] at r;refine {λq a=>?_,λq a=>?_,_,r.1,(i.le `a).mono `b,r.2}
 .let {z,_,rfl}:=Am.mp a;exact EY c
 .rw [List.getLast?_map] at a;let m:=f.1
  let k:ns.getLast?=some (co ns (@ns - 1)):=by
   rw [List.getLast?_eq_getElem?];unfold co;rw [AN,AR `a];rfl
  rw [k] at a;obtain rfl:=nL a;exact SK c (Bo f.2 h)
theorem KN {H:Hp} {p a q:Addr} {n:Int} {ns:cY} (h:Hand H p a n) (b:H q^^^(~~~ns)):q≠p:=λz=>by
 let {_,_,_,_,e,_}:=h;subst z;rw [e] at b;injection b with b;injection b with b;cases ns with
 | nil=>simp at b
 | cons x ns=>rw [List.map_cons] at b;injection b with c _;cases c
def wW (h:GS K vs H Q E):QU K (eC Q) (L2.start ["row","other","result","place","whole","step","factor"] vs) H:=by
 let {p,q,f,g,b,d,rfl,hp,R,bn,bm,b9,d9,ln,lm,k}:=h;unfold QU;let v:∀ {D:cY},((!!(List.map V.int D).isEmpty)=true)↔@D=0:=λ{D}=>by cases D <;> simp
 refine DN (show aC _ _ _ _ _ from {1,6,hp,Ab (λc=>Ab (λ_=>?_) (λz=>absurd rfl z)) (λc=>{1,6,R,Ab (λS=>?_) (λS=>?_)})})
 .exact {sz `b,λr U=>k r _ (AO U _) (by rw [nC (.inl (v.mp c))];exact upd_same)}
 .exact {sz `b,λr U=>k r _ (AO U _) (by rw [nC (.inr (v.mp S))];exact upd_same)}
 let c:@f≠0:=λz=>c (v.mpr z);let S:@g≠0:=λz=>S (v.mpr z);rw [nB `a] at k;delta BA;refine AY (AZ (Cb (I_ {Bi,λa ha=>?_})));let T:=AO ha (.lst [.int 0]);let I:=T _ _ hp;let W:=T _ _ R;let eL:((List.map V.int f).length:Int)+((List.map V.int g).length:Int) - 1=((@f+@g - 1:Nat):Int):=by rw [AI,AI];omega
 refine {1,6,I,1,6,W,3,3,9,1,congrArg V.int eL,upd_same,`a,`a,sz (by simp;omega),λw X=>?_};rw [Ch,KF];generalize Y:@f+@g - 1=L at X ⊢;let sw:=AO X (.lst (Al L λ_=>0))
 let w0:H w=none:=by
  cases e:H w with
  | none=>rfl
  | some o=>let z:=T _ _ e;rw [X] at z;cases z
 refine {_,rfl,_,rfl,{_,SqL.of (sw _ _ I)},ForJ.enumL (xs:=f.map V.int) (λi A n=>∃ Z x2 F G:cX,A=[↥p,↥q,↥w,Z,x2,F,G]/\Same H n/\n w^^^(Al L λk=>ps f g i k))
  {none,none,none,none,2,T.trans sw,upd_same} ?_ ?_ ?_}
 .rintro i A n _ ⟨_,_,_,_,_,C,_⟩;exact SqL.of (C _ _ hp)
 .rintro i x pp A H1 J ⟨Z,x2,F,G,rfl,C,m⟩ a0;rw [Ah] at J;cases en:f[i]? with
  | none=>rw [en] at J;cases J
  | some z=>
    rw [en] at J;obtain rfl:V.int z=x:=nL J;let il:i<@f:=(A3.mp en).1;let zd:f.getD i 0=z:=by rw [AN,en];rfl
    let M:=AO a0 (.tup [.int (i:Int),.int z]);refine {6,upd_same,2,6,3,1,2,1,Ab (λc3=>?_) (λc3=>?_)}
    .refine {_,rfl,_,rfl,{_,SqL.of (M _ _ (C _ _ R))},ForJ.enumL (xs:=g.map V.int) (λj A n=>∃ F G:cX,A=[↥p,↥q,↥w,some (.int (i:Int)),some (.int z),F,G]/\Same H n/\n w^^^(Al L λk=>aX f g i j k))
      {F,G,2,C.trans M,by rw [M _ _ m];exact congrArg (λl=>some (HO.lst l)) (FI λk _=>(PN f g i k))} ?_ ?_ ?_}
     .rintro j A n _ ⟨_,_,_,N,_⟩;exact SqL.of (N _ _ R)
     .rintro j y pq A H2 O ⟨y3,y4,rfl,N,B⟩ a3;rw [Ah] at O;cases em:g[j]? with
      | none=>rw [em] at O;cases O
      | some u=>
        rw [em] at O;obtain rfl:V.int u=y:=nL O;let jl:j<@g:=(A3.mp em).1;let ud:g.getD j 0=u:=by rw [AN,em];rfl
        let sq:=AO a3 (.tup [.int (j:Int),.int u]);let P:=sq _ _ B;let kl:i+j<L:=by omega
        refine {6,upd_same,2,6,3,4,8,5,P,DH `a (Cy _ kl),4,3,IY ((bn z (Bb en)).mono `a) ((bm u (Bb em)).mono `a),3,9,_,i+j,7,P,?_,6,λb o h=>Kp.upd b o (Aq h w0) (sq b o (N b o h)),upd_same.trans (congrArg (λl=>some (HO.lst l)) ?_)}
        .rw [DP];exact Fq `a kl
        .refine Fp kl ?_ λk _ hk=>?_
         .rw [Jd,nC rfl,zd,ud]
         .rw [Jd,nB hk]
     .rintro A H2 ⟨y3,y4,rfl,N,B⟩;rw [AI] at B;exact {9,6,N,B}
    .refine {9,6,C.trans M,?_};rw [M _ _ m];refine congrArg (λl=>some (HO.lst l)) (FI λk _=>?_);let z0:z=0:=by simpa using c3
     show ps f g i k+_=ps f g i k;rw [zd,z0];simp
 .rintro A H1 ⟨Z,x2,F,G,rfl,C,m⟩;rw [AI] at m;subst Y;exact {1,k w H1 C m}
theorem Mx {b:Nat} {c:Int} {R:dh} {n:Nat} (a:Bd 1000 c) (h:∀ j,Bd b (R j)):∀ d,Bd (b+1001*d) (sy c R n d)
 | 0=>h _
 | d+1=>by
   let a1:=(a.mul (Mx (n:=n) a h d)).mono (show 1000+(b+1001*d)<=b+1001*d+1000 by omega);exact (((h (n - 1 - (d+1))).mono (show b<=b+1001*d+1000 by omega)).add a1).mono `a
def wX {c:Int} {R:dh} {n p:Nat} (h:p+1<n):sy c R n (n - 1 - p)=R p+c*sy c R n (n - 1 - (p+1)):=by
 rw [show n - 1 - p=(n - 1 - (p+1))+1 by omega];show R (n - 1 - (n - 1 - (p+1)+1))+_=_;rw [show n - 1 - (n - 1 - (p+1)+1)=p by omega]
theorem KO {b m:Nat} {c:Int} {R:dh} {n:Nat} (a:Bd 1000 c) (h:∀ j,Bd b (R j)) (d:n<=m):∀ i j,Bd (b+1001*m*i) (U_ c R n i j)
 | 0,j=>h j
 | i+1,j=>by
   show Bd _ (rnd c (U_ c R n i) n i j);let e:1001*m*(i+1)=1001*m*i+1001*m:=by rw [Nat.mul_add,Nat.mul_one]
   unfold rnd;split
   .exact (KO a h d i j).mono `a
   .exact (Mx a (KO a h d i) _).mono `a
def bD {A B:cY} {T b:Nat} (lA:Lz A) (lB:Lz B) (q:QI (co A) (co B) EZ) (hA:∀ k,Bd b (co A k)) (hB:∀ k,Bd b (co B k)) (n1:2<=@A) (m1:2<=@B) (O:0<T)
  (g:(2*((@A+@B)*2 ^ b)) ^ (@A+@B - 2)<T):∃ (U V:cY) (d:Int),d≠0/\d.natAbs<T/\∀ k,cvL U (co A) k+cvL V (co B) k=co [d] k:=by
 generalize hn:@A - 1=n at *;generalize hm:@B - 1=m at *;generalize hE:(@A+@B)*2 ^ b=E at *;let N1:@A+@B - 2=n+m:=by omega
 rw [N1] at g;let X:∀ k,(co A k).natAbs<=2 ^ b:=λk=>Dc (hA k);let Y:∀ k,(co B k).natAbs<=2 ^ b:=λk=>Dc (hB k);let E0:0<E:=by rw [<-hE];exact Nat.mul_pos `a (DD `b)
 let {u,P}:∃ u:Nat->cY,∀ t,u t=(P_ T (m+n) t).take m:={_,λ_=>rfl};let {v,R}:∃ v:Nat->cY,∀ t,v t=(P_ T (m+n) t).drop m:={_,λ_=>rfl};let {f,S}:∃ f:Nat->dh,∀ t k,f t k=cvL (u t) (co A) k+cvL (v t) (co B) k:={_,λ_ _=>rfl};let F:∀ t,(u t).length=m:=λt=>by rw [P,Ba,IH];omega
 let G:∀ t,(v t).length=n:=λt=>by rw [R,List.length_drop,IH];omega
 let uz:∀ t,∀ z∈u t,0<=z/\z<(T:Int):=λt z hz=>II O _ t z (Ek (P t ▸ hz));let vz:∀ t,∀ z∈v t,0<=z/\z<(T:Int):=λt z hz=>II O _ t z (List.mem_of_mem_drop (R t ▸ hz))
 let fb:∀ t k,(f t k).natAbs<E*T:=λt k=>by
  let j:=Ia (q:=T - 1) X (u t) (λz hz=>by have:=uz t z hz;omega) k;let o:=Ia (q:=T - 1) Y (v t) (λz hz=>by have:=vz t z hz;omega) k;rw [F] at j;rw [G] at o
  let h3:(f t k).natAbs<=(m+n)*((T - 1)*2 ^ b):=by
   rw [Nat.add_mul,S];omega
  refine Cr h3 ?_;rw [<-hE];let e:(m+n)*((T - 1)*2 ^ b)=((m+n)*2 ^ b)*(T - 1):=by rw [Cq (T - 1),Nat.mul_assoc]
  rw [e];exact BZ (Nat.mul_lt_mul_of_pos_left `a (Nat.mul_pos `a (DD `b))) (Ct T (Ct _ `a))
 let {W,p}:∃ W:Nat->Nat,∀ t,W t=(f t 0 / (T:Int)+(E:Int)).toNat:={_,λ_=>rfl};let {I,r}:∃ I:Nat->Nat->Nat,∀ t k,I t k=(f t (k+1)+((E*T:Nat):Int)).toNat:={_,λ_ _=>rfl}
 let w:∀ t,0<=f t 0 / (T:Int)+(E:Int)/\f t 0 / (T:Int)+(E:Int)<2*(E:Int):=λt=>by
  let h:=fb t 0
  let j:-((E:Int)*(T:Int))<=f t 0:=by have:((E*T:Nat):Int)=(E:Int)*(T:Int):=by push_cast;rfl
                                      omega
  let o:f t 0<(E:Int)*(T:Int):=by have:((E*T:Nat):Int)=(E:Int)*(T:Int):=by push_cast;rfl
                                  omega
  let q1:-(E:Int)<=f t 0 / (T:Int):=by
   refine (Int.le_ediv_iff_mul_le `a).mpr ?_;rw [Int.neg_mul];exact j
  let q2:f t 0 / (T:Int)<(E:Int):=Int.ediv_lt_of_lt_mul `a o;omega
 let y:∀ t k,0<=f t (k+1)+((E*T:Nat):Int)/\f t (k+1)+((E*T:Nat):Int)<2*((E*T:Nat):Int):=λt k=>by
  let h:=fb t (k+1);omega
 let C:∀ t,W t<2*E:=λt=>by have:=w t;rw [p];omega
 let D:∀ t k,I t k<2*(E*T):=λt k=>by have:=y t k;rw [r];omega
 let cl:∀ t,W t+2*E*aM (2*(E*T)) (m+n - 1) (I t)<2*E*(2*(E*T)) ^ (m+n - 1):=λt=>by
  let j:=Ll (M:=2*(E*T)) (m+n - 1) (I t) (λk _=>D t k);let o:2*E*(aM (2*(E*T)) (m+n - 1) (I t)+1)<=2*E*(2*(E*T)) ^ (m+n - 1):=De _ j;let h3:=C t;rw [Nat.mul_add,Nat.mul_one] at o;omega
 let L:2*E*(2*(E*T)) ^ (m+n - 1)<T ^ (m+n):=by
  let {N,hN}:∃ N,m+n=N+1:={m+n - 1,`a};rw [hN,Nat.add_sub_cancel];rw [Nat.add_comm n m,hN] at g
  let e:2*E*(2*(E*T)) ^ N=(2*E) ^ (N+1)*T ^ N:=by
   rw [<-Nat.mul_assoc 2 E T,Nat.mul_pow (2*E) T N,Cg,Cq ((2*E) ^ N) (2*E),Nat.mul_assoc (2*E)]
  rw [e,Cg T,Cq (T ^ N) T];exact Nat.mul_lt_mul_of_pos_right g (DD O)
 let {s,t,st,ht,e}:=cH _ _ _ (λi _=>cl i) L;let {Z,q1}:=Lm (C s) (C t) e;let qk:=Ln (m+n - 1) _ _ (λk _=>D s k) (λk _=>D t k) q1;let w0:∀ k,(co (u s) k - co (u t) k)=co (Ay (u s) ((u t).map ((-1)*·))) k:=λk=>by rw [CP,CP,CP,Bw,BS];omega
 let df:∀ k,f s k - f t k=cvL (Ay (u s) ((u t).map ((-1)*·))) (co A) k+cvL (Ay (v s) ((v t).map ((-1)*·))) (co B) k:=λk=>by
  rw [Bw,Bw,BS,BS,S,S];omega
 let J:∀ k,0<k->f s k - f t k=0:=λk hk=>by
  rcases BE k (m+n) with c | c
  .have:=qk (k - 1) `a;let r1:=y s (k - 1);let r2:=y t (k - 1);rw [r,r,show k - 1+1=k by omega] at this;rw [show k - 1+1=k by omega] at r1 r2;omega
  .let z:∀ t,f t k=0:=λt=>by
    rw [S,Dr (n:=@A) (λi J=>AX J) (u t) k (by rw [F];omega),Dr (n:=@B) (λi J=>AX J) (v t) k (by rw [G];omega)];rfl
   rw [z,z];rfl
 let d0:(f s 0 - f t 0).natAbs<T:=by
  let r1:=w s;let r2:=w t;rw [p,p] at Z;let Z:f s 0 / (T:Int)=f t 0 / (T:Int):=by omega
  let m1:=FR (f s 0) T;let m2:=FR (f t 0) T;let b1:=B3 (f s 0) (show (T:Int)≠0 by omega);let b2:=CM (f s 0) (show (0:Int)<T by omega);let b3:=B3 (f t 0) (show (T:Int)≠0 by omega);let b4:=CM (f t 0) (show (0:Int)<T by omega);rw [Z] at m1;omega
 refine {Ay (u s) ((u t).map ((-1)*·)),Ay (v s) ((v t).map ((-1)*·)),f s 0 - f t 0,λz0=>?_,d0,λk=>?_}
 .let all:∀ k,cvL (Ay (u s) ((u t).map ((-1)*·))) (co A) k+cvL (Ay (v s) ((v t).map ((-1)*·))) (co B) k=0:=λk=>by
   rw [<-df];cases k with
   | zero=>exact z0
   | succ k=>exact J (k+1) `a
  let ll:∀ {a c:cY} {x:Nat},@a=x->@c=x->(Ay a (c.map ((-1)*·))).length=x:=λ{a c x} j o=>by
   rw [Mg,AI,j,o];omega
  let {c1,c2}:=R1 lA lB q (by rw [ll (F s) (F t)];omega) (by rw [ll (G s) (G t)];omega) all;let eu:u s=u t:=KH (by rw [F,F]) λk=>by have:=c1 k;rw [<-w0] at this;omega
  let ev:v s=v t:=KH (by rw [G,G]) λk=>by
   have:=c2 k;rw [CP,Bw,BS,<-CP,<-CP] at this;omega
  have:P_ T (m+n) s=P_ T (m+n) t:=by
   rw [<-List.take_append_drop m (P_ T (m+n) s),<-List.take_append_drop m (P_ T (m+n) t)];rw [<-P,<-R,<-P,<-R,eu,ev]
  have:=Lo O _ _ _ `a `a this;omega
 .rw [<-df];cases k with
  | zero=>rfl
  | succ k=>rw [J (k+1) `a];exact (AX (by simp)).symm
def KP {p:Nat} (hp:Pr p) {a:Int} (h:¬ (p:Int)∣a):Int.gcd (p:Int) a=1:=by
 rcases hp.div _ (Int.gcd_dvd_natAbs_left (p:Int) a) with z | z
 .exact z
 .exact absurd (z ▸ EK (p:Int) a) h
def SL {a b c:Int} (h:a∣b*c) (g:Int.gcd a c=1):a∣b:=by
 let d:Nat.Coprime a.natAbs c.natAbs:=g;refine Ci.mp (d.dvd_of_dvd_mul_right ?_);rw [<-BK];exact Ci.mpr h
def My {p:Nat} (hp:Pr p) {a:Int} (h:¬ (p:Int)∣a) (j:Nat):Int.gcd ((p ^ j:Nat):Int) a=1:=by
 let b:Nat.Coprime p a.natAbs:=KP hp h;exact Nat.Coprime.pow_left j b
def wY {p:Nat} (hp:Pr p) {a h:Int} (n:¬ (p:Int)∣a) (j:Nat) (d:((p ^ j:Nat):Int)∣h*a):((p ^ j:Nat):Int)∣h:=SL d (My hp n j)
def M3 {p:Nat} (hp:Pr p) {a b:Int} (h:(p:Int)∣a*b):(p:Int)∣a\/(p:Int)∣b:=by
 by_cases c:(p:Int)∣b
 .exact .inr c
 .have:=wY hp c 1 (h:=a) (by rw [Nat.pow_one];exact h);rw [Nat.pow_one] at this;exact .inl this
theorem SM:∀ A:List Rat,∃ (N:Int) (Z:cY),N≠0/\A.map ((N:Rat)*·)=Z.map λz:Int=>(z:Rat)
 | []=>⟨1,[],`b,rfl⟩
 | a::A=>by
   let {N,Z,b,h}:=SM A;refine {(a.den:Int)*N,(a.num*N)::Z.map ((a.den:Int)*·),Bo (by have:=a.den_nz;omega) b,?_};rw [List.map_cons,List.map_cons];congr 1
   .let h:=Rat.num_divInt_den a;rw [Rat.divInt_eq_div] at h;let d:((a.den:Int):Rat)≠0:=by have:=a.den_nz;exact_mod_cast this
    let e:((a.den:Int):Rat)=(a.den:Rat):=by push_cast;rfl
    push_cast;ext
   .rw [Dy]
    let e:A.map (λx=>(((a.den:Int)*N:Int):Rat)*x)=(A.map ((N:Rat)*·)).map ((a.den:Rat)*·):=by
     rw [Dy];refine D7 λx _=>?_;show _=(a.den:Rat)*((N:Rat)*x);push_cast;ext
    rw [e,h,Dy];refine D7 λz _=>?_;show (a.den:Rat)*(z:Rat)=(((a.den:Int)*z:Int):Rat);push_cast;rfl
noncomputable def isP (p:Nat):Bool:=decide (2<=p) && (List.range 64).all λd=>decide (d<2) || decide (p<=d) || decide (p % d≠0)
def SN {p:Nat} (h:isP p=true) (l:p<4096):Pr p:=by
 unfold isP at h;rw [Bool.and_eq_true] at h;let {b,k}:=h;let b:=nF b
 let i:∀ d,2<=d->d<64->d<p->¬ d∣p:=λd o c j f=>by
  have:=FQ.mp k d (DB.mpr c);rw [Bool.or_eq_true,Bool.or_eq_true] at this;rcases this with (z | z) | z
  .have:=nF z;omega
  .have:=nF z;omega
  .exact nF z (Nat.mod_eq_zero_of_dvd f)
 refine {b,λd f=>?_};let {e,a}:=f;by_cases m:d=1
 .exact .inl m
 by_cases j:d=p
 .exact .inr j
 exfalso;let r:d≠0:=λz=>by rw [z] at a;omega
 let u:e≠0:=λz=>by rw [z] at a;omega
 let v:e≠1:=λz=>by rw [z] at a;omega
 rcases BE d 64 with q | q
 .let dl:d<p:=by
   have:d*2<=d*e:=De d `a;omega
  exact i d `a q dl ⟨e,a⟩
 .rcases BE e 64 with g | g
  .let n:e<p:=by
    have:2*e<=d*e:=Ct e `a;omega
   exact i e `a g n {d,by rw [a,Cq]}
  .have:=EM q g;omega
theorem SO {N:Int}:∀ l:List Nat,l.Nodup->(∀ p∈l,Pr p/\(p:Int)∣N)->((l.foldr (·*·) 1:Nat):Int)∣N
 | [],_,_=>Int.one_dvd _
 | p::l,d,h=>by
   rw [List.nodup_cons] at d;let {c,f}:=SO l d.2 λq a=>h q (Br _ a);let {hp,b}:=h p (BX ..)
   let g:∀ m:List Nat,(∀ q∈m,Pr q/\q≠p)->¬ (p:Int)∣((m.foldr (·*·) 1:Nat):Int):=by
    intro m
    induction m with
    | nil=>
      intro _ z;have:=Ej `b z;have:=hp.two;have:((([]:List Nat).foldr (·*·) 1:Nat):Int)=1:=rfl;omega
    | cons q m i=>
      intro a z;let z:(p:Int)∣((q*m.foldr (·*·) 1:Nat):Int):=z;rw [Int.natCast_mul] at z;rcases M3 hp z with y | y
      .let {j,k}:=a q (BX ..);rcases j.div p (FS.mp y) with w | w
       .have:=hp.two;omega
       .exact k w.symm
      .exact i (λr n=>a r (Br _ n)) y
   let y:(p:Int)∣c:=by
    rw [f] at b;rcases M3 hp b with z | z
    .exact absurd z (g l λq a=>{(h q (Br _ a)).1,λz=>d.1 (z ▸ a)})
    .exact z
   let {e,o}:=y;refine {e,?_};show N=((p*l.foldr (·*·) 1:Nat):Int)*e;rw [Int.natCast_mul,f,o];ext
def SQ:([]:cW).length<=sizeLine:=AV _
def wZ (h:ML K vs H Q E):YJ K (eC Q) (L2.start ["whole","divisor"] vs) H:=by
 let {n,rfl,B,k}:=h;refine while_by (λm p g=>∃ d:Nat,p=[some (.int (n:Int)),some (.int (d:Int))]/\g=H/\2<=d/\m=n+2 - d/\d<=n+2/\∀ e,2<=e->e<d->¬ e∣n) n ⟨2,rfl,rfl,`a,`a,`a,λe C D=>by omega⟩ ?_;rintro m p g ⟨d,rfl,rfl,r,rfl,F,i⟩
 let q:Bd 30 (d:Int):=by unfold Bd;rw [Ck];have:(2:Nat) ^ 30=1073741824:=by decide
                         omega
 refine {4,3,CK q q,8,1,Ab (λc=>?_) (λc=>?_)}
 .let c:=nF c;let u:d*d<=n:=by exact_mod_cast c
  let dl:d<n:=by
   have:d*2<=d*d:=De d r;omega
  refine {_,λ_ _ h=>h,?_};refine {4,3,`a,2,1,Ab (λz=>?_) (λz=>?_)}
  .refine k false {(λz=>by cases z),λhp=>?_};let z:(n:Int) % (d:Int)=0:=by simpa using z
   let v:d∣n:=FS.mp (FP z);rcases hp.div d v with y | y <;> omega
  .let z:¬ (n:Int) % (d:Int)=0:=by simpa using z
   refine {8,?_};refine {n+2 - (d+1),`a,d+1,7,`a,2,`a,λe w x a=>?_};rcases Ge.mp x with y | y
   .exact i e w y a
   .rw [y] at a;exact z (Fw (FS.mpr a))
 .let c:¬ (d:Int)*(d:Int)<=(n:Int):=λy=>c (nE y)
  let u:n<d*d:=by have:(n:Int)<((d*d:Nat):Int):=by push_cast;omega
                  omega
  refine {8,k _ ?_};constructor
  .intro y;let G:1<(n:Int):=nF y;refine {`a,λe a=>?_};let {f,b}:=a;by_cases A:e=1
   .exact .inl A
   by_cases en:e=n
   .exact .inr en
   exfalso;let I:e≠0:=λz=>by rw [z] at b;omega
   let J:f≠0:=λz=>by rw [z] at b;omega
   let L:f≠1:=λz=>by rw [z] at b;omega
   rcases BE e d with j | j
   .exact i e `a j ⟨f,b⟩
   .rcases BE f d with o | o
    .exact i f `a o {e,by rw [b,Cq]}
    .have:=EM j o;omega
  .intro y;have:=y.two;exact nE `a
theorem vA (h:IV K vs H Q E):YK K (eC Q) (L2.start ["whole","found"] vs) H:=by
 let {n,g,rfl,i,p,q,k}:=h;refine {8,?_};refine while_by (λm e a=>∃ d:Nat,e=[some (.int (n:Int)),some (.int (d:Int))]/\a=H/\n<d/\d<=g/\m=g - d) (g - (n+1)) {n+1,7,`a,`a,2} ?_;rintro m e a ⟨d,rfl,rfl,j,o,rfl⟩;refine B7 {1,d,2,`a,λb f=>{1,?_}};cases b with
 | true=>
   show (if (!true)=true then _ else _);refine Ab (λc=>by cases c) (λ_=>?_);exact {1,k d (f.mp rfl) j o}
 | false=>
   refine Ab (λ_=>?_) (λc=>absurd rfl c);let r:d≠g:=λz=>by have:=f.mpr (z ▸ i);cases this
   refine {_,λ_ _ h=>h,?_};exact {8,g - (d+1),`a,d+1,7,`a,`a,2}
def KQ {ns:cY} {i:Nat} {x:V} (a:i<@ns) (h:(~~~ns)[i]?=some x):x=.int (co ns i):=by
 rw [Ah,AR a] at h;unfold co;rw [AN,AR a];exact (nL h).symm
def vB (i:Int):i.natAbs<2 ^ blN i:=by
 unfold blN;split
 .rename_i h;rw [h];decide
 .exact Nat.lt_log2_self
def SR {i:Int} (h:i≠0):2 ^ (blN i - 1)<=i.natAbs/\1<=blN i:=by
 unfold blN;rw [nB h,Nat.add_sub_cancel];exact {Nat.log2_self_le `a,`a}
def Ii {b:Nat} {i:Int} (h:Bd b i):blN i<=b:=by
 by_cases z:i=0
 .unfold blN;rw [nC z];exact AV _
 .let c:=(SR z).1;let d:i.natAbs<2 ^ b:=h;have:=(Nat.pow_lt_pow_iff_right (a:=2) `b).mp (Cr c d);omega
def vC {w lead:Int} {st E:Nat} (c:0<lead) (d:0<st) (h:-(((blN lead:Int) - (blN w:Int) - 1) / (st:Int))<=(E:Int) - 1):2 ^ st*w.natAbs<=lead.natAbs*2 ^ (st*E):=by
 let q:((blN lead:Int) - (blN w:Int) - 1) / (st:Int)*(st:Int)<=(blN lead:Int) - (blN w:Int) - 1:=Int.ediv_mul_le _ `a;let e:(1 - (E:Int))*(st:Int)<=((blN lead:Int) - (blN w:Int) - 1) / (st:Int)*(st:Int):=Gg `a `a
 let f:(blN w:Int)+(st:Int)<=(st:Int)*(E:Int)+(blN lead:Int) - 1:=by
  have:(1 - (E:Int))*(st:Int)=(st:Int) - (st:Int)*(E:Int):=by ext
  omega
 let {b,g}:=SR (show lead≠0 by omega)
 let i:blN w+st<=st*E+(blN lead - 1):=by
  have:((st*E:Nat):Int)=(st:Int)*(E:Int):=by push_cast;rfl
  omega
 let a:2 ^ st*w.natAbs<=2 ^ st*2 ^ blN w:=De _ (Dc (vB w));rw [<-Nat.pow_add] at a;refine BW a (BW (C2 `b (show st+blN w<=(blN lead - 1)+st*E by omega)) ?_);rw [Nat.pow_add];exact Ct _ b
def vD (h:J4 K vs H Q E):YS K (eC Q) (L2.start ["row","sizes","step","whole"] vs) H:=by
 let {a,b,rfl,R,lz,l9,S,l0,k}:=h;let aL:M' (~~~b) (-1)=some (V.int (lst' b)):=FK lz.1;refine AY {SQ,λe I=>?_};let J:=AO I (.lst []);let A:upd H e (.lst []) e=_:=upd_same;let y:=J _ _ R;let ne:a≠e:=Aq R I;generalize upd H e (.lst [])=H1 at J A y ⊢;let ll:((~~~b).length:Int)=(@b:Int):=by rw [AI]
 refine {1,6,y,6,{`a,`a,`a,`a},?_};refine ForR.by (λi L r=>∃ (p:cY) (u v:cX),L=[↥a,↥e,u,v]/\Same H r/\r a^^^(~~~b)/\r e^^^(~~~p)/\i<=@b - 1/\@p<=i/\(∀ z∈p,z<=160)/\∀ d,1<=d->d<=i->co b (@b - 1 - d)≠0->-(((blN (lst' b):Int) - (blN (co b (@b - 1 - d)):Int) - 1) / (d:Int))∈p) {[],none,none,2,J,y,A,AV _,AT _,(λz h=>nomatch h),λd C T=>by omega} ?_ ?_
 .rintro i L r U ⟨p,u,v,rfl,D,g,m,il,W,f,n⟩;rw [ll] at U;let B:i+1<=@b - 1:=by omega
  let N:(1:Int)+(i:Int)=((i+1:Nat):Int):=by omega
  rw [N];let aT:M' (~~~b) (((~~~b).length:Int) - 1 - ((i+1:Nat):Int))=some (V.int (co b (@b - 1 - (i+1)))):=DH (j:=@b - 1 - (i+1)) `a (by rw [Id];exact Cy _ `a);refine {4,6,g,3,8,5,g,aT,?_};generalize O:co b (@b - 1 - (i+1))=w;let bw:blN w<=148:=by rw [<-O];exact Ii (Ce S _)
  let bl:blN (lst' b)<=148:=Ii (Ce S _);refine {1,2,1,Ab (λc=>?_) (λc=>?_)}
  .let c:¬ w=0:=by simpa using c
   refine {1,FA m,4,5,g,aL,2,1,2,1,2,1,2,3,3,8,by unfold OV;omega,1,_,3,m,sz (by rw [AI];omega),?_};refine {p++[-(((blN (lst' b):Int) - (blN w:Int) - 1) / ((i+1:Nat):Int))],6,λx o X=>Kp.upd x o (Aq X I) (D x o X),(Ai ne).trans g,by rw [Bj];exact upd_same,B,by rw [Bf];exact Nat.succ_le_succ W,λz hz=>?_,λd C T F=>?_}
   .rcases BR.mp hz with q | q
    .exact f z q
    .rw [Ap.mp q]
     have:-(150:Int)<=((blN (lst' b):Int) - (blN w:Int) - 1) / ((i+1:Nat):Int):=(Int.le_ediv_iff_mul_le `a).mpr (by
      have:-(150:Int)*((i+1:Nat):Int)<=-(150:Int)*1:=by omega
      omega)
     omega
   .rcases BE d (i+1) with q | q
    .exact FO _ (n d C `a F)
    .have:d=i+1:=by omega
     subst this;rw [O];exact Cp _ (List.mem_singleton_self _)
  .let c:w=0:=by simpa using c
   refine {p,6,D,g,m,B,`a,f,λd C T F=>?_};rcases BE d (i+1) with q | q
   .exact n d C `a F
   .have:d=i+1:=by omega
    subst this;exact absurd (O.trans c) F
 .rintro L r ⟨p,u,v,rfl,D,g,m,il,W,f,n⟩;let N:((((~~~b).length:Int)) - 1).toNat=@b - 1:=by omega
  rw [N] at n;refine {1,e,p,2,m,λM Y=>{3,?_}};refine k (1+M) r D ?_ λi U=>?_
  .rcases Y with ⟨_,z⟩ | ⟨z,_⟩
   .omega
   .have:=f M z;omega
  .by_cases Z:co b i=0
   .rw [Z];exact AV _
   .let G:=n (@b - 1 - i) `a `a (by rw [show @b - 1 - (@b - 1 - i)=i by omega];exact Z);rw [show @b - 1 - (@b - 1 - i)=i by omega] at G
    let P:-(((blN (lst' b):Int) - (blN (co b i):Int) - 1) / ((@b - 1 - i:Nat):Int))<=M:=by
     rcases Y with ⟨z,_⟩ | ⟨_,z⟩
     .rw [z] at G;cases G
     .exact z _ G
    exact vC l0 `a (Dh P `a)
def Ij {K:W.Frag} {c:TE} {g:TG} {d rest:TS} {D:Ends} {b:L2.St} {H:Hp} (h:c b H (λx e=>∃ a,x=.ref a/\(∃ f,SqL K e a f)/\ForL K a g d { D with nx:=rest D } b e)):AF (A4 (A5 K c) g d) rest D b H:=h
def SS {R:dh} {n:Nat} {x:Rat}:ae (Y_ R) n x n=aR ((List.range n).map R) x:=by
 let a:∀ d,d<=n->ae (Y_ R) n x d=aR (((List.range n).map R).drop (n - d)) x:=λd=>by
  induction d with
  | zero=>
    intro _;rw [D1,List.drop_eq_nil_of_le (by rw [AI,Bg];exact AT _)];rfl
  | succ d b=>
    intro c;show Y_ R (n - 1 - d)+x*ae (Y_ R) n x d=_;rw [b `a];let l:n - (d+1)<((List.range n).map R).length:=by rw [AI,Bg];omega
    rw [List.drop_eq_getElem_cons l,show n - (d+1)+1=n - d by omega];show _=(((List.range n).map R)[n - (d+1)]:Rat)+x*_;rw [List.getElem_map,List.getElem_range,show n - (d+1)=n - 1 - d by omega];rfl
 rw [a n (AT _),DT,List.drop_zero]
def vE (h:MR K vs H Q E):Qa K (eC Q) (L2.start ["row","whole","result","first","place"] vs) H:=by
 let {p,a,c,b,rfl,hp,M,ok,k}:=h;unfold Qa;refine {1,6,hp,λw A=>?_};rw [SJ];let G:=AO A (.lst (Al @a λk=>a.getD k 0));let B:=G _ _ hp;refine {1,6,B,3,(@a:Int) - 1,by rw [AI],`a,`a,ForR.by (λi r g=>∃ C v:cX,r=[↥p,some (.int c),↥w,C,v]/\Same H g/\g w^^^(Al @a (U_ c (λk=>a.getD k 0) @a i))) ⟨none,none,rfl,G,upd_same⟩ ?_ ?_}
 .rintro i r I hi ⟨C,v,rfl,x,f⟩;let D:=x _ _ hp;refine {1,6,D,3,8,1,(@a:Int) - 2,0+(i:Int) - 1,by rw [AI],{`a,`a,`a,`a},?_};let en:((@a:Int) - 2 - (0+(i:Int) - 1)).toNat=@a - 1 - i:=by omega
  rw [en];refine ForJ.down (λj r g=>∃ v:cX,r=[↥p,some (.int c),↥w,some (.int (0+(i:Int))),v]/\Same H g/\g w^^^(Al @a λq=>if q+j+1<@a then U_ c (λk=>a.getD k 0) @a i q else sy c (U_ c (λk=>a.getD k 0) @a i) @a (@a - 1 - q))) {1,x,?_} ?_ ?_
  .rw [f];refine congrArg (λl=>some (HO.lst l)) (FI λq J=>?_);by_cases h:q+0+1<@a
   .rw [nC h]
   .rw [nB h,show @a - 1 - q=0 by omega,show q=@a - 1 by omega];rfl
  .rintro j r N O ⟨y,rfl,F,d⟩;let P:((@a:Int) - 2 - (j:Int))=((@a - 2 - j:Nat):Int):=by omega
   rw [P]
   let L:∀ q,IntMulOk c (sy c (U_ c (λk=>a.getD k 0) @a i) @a (@a - 1 - q)):=λq=>by
    rcases ok with u | ⟨S,b2,u⟩
    .let u:c.natAbs<1152921504606846976:=u;exact mulL `a `a
    .let T:∀ i j,Bd (b+1001*20*i) (U_ c (λk=>a.getD k 0) @a i j):=KO u (λj=>Hy S j) `a;exact Mb u ((Mx (n:=@a) u (T i) (@a - 1 - q)).mono (show _<=60000000 by omega))
   generalize U_ c (λk=>a.getD k 0) @a i=R at d L ⊢
   let U:M' (Al @a λq=>if q+j+1<@a then R q else sy c R @a (@a - 1 - q)) ((@a - 2 - j:Nat):Int)=some (V.int (R (@a - 2 - j))):=by
    rw [DL (Cy _ `a),nC `a]
   let W:M' (Al @a λq=>if q+j+1<@a then R q else sy c R @a (@a - 1 - q)) (((@a - 2 - j:Nat):Int)+1)=some (V.int (sy c R @a (@a - 1 - (@a - 2 - j+1)))):=by
    rw [DH (j:=@a - 2 - j+1) `a (Cy _ `a),nB `a]
   refine {4,5,d,U,4,8,5,d,W,3,L _,3,9,_,@a - 2 - j,7,d,?_,1,λb o h=>Kp.upd b o (Aq h A) (F b o h),upd_same.trans (congrArg (λl=>some (HO.lst l)) ?_)}
   .rw [DP];exact Fq rfl `a
   .refine Fp `a ?_ λq J X=>?_
    .rw [nB `a];exact wX `a
    .by_cases h:q+j+1<@a
     .rw [nC h,nC `a]
     .rw [nB h,nB `a]
  .rintro r N ⟨y,rfl,F,d⟩;refine {6,F,?_};rw [d];refine congrArg (λl=>some (HO.lst l)) (FI λq J=>?_);show rnd c (U_ c (λk=>a.getD k 0) @a i) @a i q=_;unfold rnd;by_cases h:q<i
   .rw [nC h,nC `a]
   .rw [nB h,nB `a]
 .rintro r I ⟨C,v,rfl,x,f⟩;let en:((@a:Int) - 1).toNat=@a - 1:=by omega
  rw [en] at f;refine {1,k w ((List.range @a).map (U_ c (λk=>a.getD k 0) @a (@a - 1))) I x A f (by rw [AI,Bg]) (λy=>?_) λb' Y Z z hz=>?_}
  rotate_left
  .let {j,O,rfl}:=Am.mp hz;refine (KO (m:=@a) Z (λj=>Hy Y j) (AT _) (@a - 1) j).mono ?_;exact Nat.add_le_add_left (De _ (Nat.sub_le _ _)) _
  rcases Dx @a with z | z
  .have:a=[]:=B5.mp z;subst this;rfl
  .let h:=YG (c:=c) (R:=λk=>a.getD k 0) (n:=@a) (y:=y) z;rw [SS,SS] at h
   let e:(List.range @a).map (λk=>a.getD k 0)=a:=by
    refine EL λi=>?_;rw [Ah];rcases BE i @a with q | q
    .rw [DS q,AR q];show some (a.getD i 0)=_;rw [AN,AR q];rfl
    .rw [CB (by rw [Bg];exact q),CB q];rfl
   rw [e] at h;exact h
def M4 {W n:Int} (o:0<n):∃ k:Int,k≠0/\W=(AW W n).1*k/\n=(AW W n).2*k:=by
 let a:=EY (n:=W) (m:=n) `a;let b:=Gz (n:=W) (m:=n) `a
 let e:(AW W n).1*n=W*(AW W n).2:=by
  unfold val at b;let f:((AW W n).2:Rat)≠0:=D6 (by have:=a.pos;omega);let g:(n:Rat)≠0:=D6 `a;let h:((AW W n).1:Rat) / ((AW W n).2:Rat)*((AW W n).2:Rat)=((AW W n).1:Rat):=Rat.div_mul_cancel f;let i:(W:Rat) / (n:Rat)*n=W:=Rat.div_mul_cancel g;have:((AW W n).1:Rat)*n=W*((AW W n).2:Rat):=by rw [<-h,<-i,b];ext
  exact_mod_cast this
 let p:=a.pos;let j:(AW W n).2∣n:=SL (c:=(AW W n).1) {W,by rw [Cs,e,Cs]} (by rw [Int.gcd_comm];exact a.one);let {k,hk}:=j;generalize (AW W n).1=t at *;generalize (AW W n).2=d at *;refine {k,λz=>by rw [z] at hk;omega,?_,hk};have:W*d=t*k*d:=by rw [<-e,hk];ext
 exact Int.eq_of_mul_eq_mul_right `a this
def vF {W n:Int} (a:0<n):(AW W n).1.natAbs<=W.natAbs:=by
 let {k,b,e,_}:=M4 (W:=W) a;generalize (AW W n).1=t at e;rw [e,BK];exact Gc _ `a
def vG {W n:Int} (a:0<n):(AW W n).2.natAbs<=n.natAbs:=by
 let {k,b,_,e}:=M4 (W:=W) a;generalize (AW W n).2=t at e;rw [e,BK];exact Gc _ `a
theorem M5 (a b:cY) (k:Nat):∀ n,n<=@a->ps a b n k=cvL (a.take n) (co b) k
 | 0,_=>by rw [List.take_zero,Bh];rfl
 | n+1,h=>by
   let e:a.take (n+1)=a.take n++[co a n]:=by
    rw [C4,AR `a];unfold co;rw [AN,AR `a];rfl
   rw [e,Es,<-M5 a b k n `a,Ba,Nat.min_eq_left `a];show ps a b n k+(if n<=k/\k - n<@b then co a n*co b (k - n) else 0)=_;unfold Aw;by_cases c:n<=k
   .rw [nC c];by_cases d:k - n<@b
    .rw [nC ⟨c,d⟩]
    .rw [nB (λz=>d z.2),AX (a:=b) `a];omega
   .rw [nB c,nB (λz=>c z.1)];omega
noncomputable def rT (a b:cY):cY:=if @a=0\/@b=0 then [] else (List.range (@a+@b - 1)).map λk=>ps a b @a k
def ST (a b:cY) (k:Nat):co (rT a b) k=cvL a (co b) k:=by
 unfold rT;by_cases c:@a=0\/@b=0
 .rw [nC c];rcases c with z | z
  .rw [B5.mp z];rfl
  .rw [B5.mp z,B2];rfl
 .rw [nB c,G2];by_cases d:k<@a+@b - 1
  .rw [nC d,M5 a b k @a (AT _),B4]
  .rw [nB d,Dr (n:=@b) (λi e=>AX e) a k `a]
def Ik (a b:cY):(rT a b).length<=@a+@b:=by
 unfold rT;split
 .exact AV _
 .rw [AI,Bg];omega
def HS {a:cY} (b:Tz a) (n:Nat) (h:∀ k,n<=k->co a k=0):@a<=n:=by
 rcases BE n @a with z | z
 .rcases b with e | e
  .rw [e] at z;simp at z
  .exact absurd (h _ `a) e
 .exact z
def B9 {m:Int} {a:cY} {b:Nat} (c:Bd b m) (h:∀ z∈a,0<=z/\z<m):∀ z∈a,Bd b z:=λz hz=>c.le (by have:=h z hz;omega)
def M6 {m:Int} (b:0<m) {a:cY} (h:∀ z∈a,0<=z/\z<m) (k:Nat):0<=co a k/\co a k<m:=by
 by_cases c:k<@a
 .refine h _ ?_;unfold co;rw [AN,AR c];exact CN _
 .rw [AX `a];omega
def SU {a b c:cY} (d:∀ k,co c k=ps a b @a k):∀ k,co c k=cvL a (co b) k:=λk=>by rw [d k,M5 _ _ _ _ (AT _),B4]
def bd1 (b:Nat) (h:1<=b):Bd b 1:=(show Bd 1 1 by unfold Bd;decide).mono h
def M8 {m a b:Int} (h:m∣a - b):m∣b - a:=by let {u,c}:=h;exact {-u,by rw [Int.mul_neg];omega}
def vH {m a b c:Int} (h:m∣a - b) (h':m∣b - c):m∣a - c:=by let {u,d}:=h;let {v,e}:=h';exact {u+v,by rw [Int.mul_add];omega}
def M9 {a H:Hp} {p:Addr} (s:Same a H) (h:H p=none) (o:HO):Same a (L2.upd H p o):=s.trans (AO h o)
def vI {K:W.Frag} {capt:List (Option Nat)} {f:TE} {g:L2.St} {H:Hp} {Q:VK} {a b:Addr} {ns d:cY} (F:Int->Int->Int) (o:H a^^^(~~~ns)) (q:H b^^^(~~~d)) (r:@ns=@d) (A:@ns<=1000)
  (u:∀ x y,x∈ns->y∈d->∀ (c:Hp) (P:VK),Same H c->P (.int (F x y)) c->f (((Ca capt g).set 0 (some (.int x))).set 1 (some (.int y))) c P) (v:∀ (p:Addr) (c:Hp),Same H c->c p=none->Q (.ref p) (upd c p (.lst ((List.zipWith F ns d).map V.int)))) :
  CompJ (b8 K a b) capt (D4 2 (B6 (AE 0) (B6 (AE 1) D2))) f g Q H:=by
 let w:(List.zipWith F ns d).length=@ns:=by rw [List.length_zipWith];omega
 refine CompJ.zip (xs:=ns.map V.int) (ys:=d.map V.int) (by rw [AI,AI,r]) (λi e c=>i<=@ns/\Same H c/\e=((List.zipWith F ns d).take i).map V.int) {AV _,Same.refl H,2} ?_ ?_ ?_
 .rintro i e c ⟨h,s,rfl⟩;refine {by rw [AI];exact h,sz ?_,SqL.of (s _ _ o),SqL.of (s _ _ q)};rw [AI,Ba];omega
 .rintro i x y e c p j k ⟨h,s,rfl⟩ hp;rw [Ah] at j k;let {m,em,rfl}:=Option.map_eq_some_iff.mp j;let {n,en,rfl}:=Option.map_eq_some_iff.mp k;let z:(List.zipWith F ns d)[i]?=some (F m n):=by rw [List.getElem?_zipWith,em,en]
  refine {p,1,upd_same,2,6,3,?_};refine u m n (Bb em) (Bb en) _ _ (M9 s hp _) ?_;refine {?_,M9 s hp _,?_}
  .have:=(A3.mp em).1;omega
  .rw [HN V.int z]
 .rintro e c ⟨_,s,rfl⟩ p hp;rw [AI,<-w,B4];exact v p c s hp
def vJ {K:W.Frag} {e:TA} {capt:List (Option Nat)} {g:TG} {f:TE} {c:L2.St} {H:Hp} {Q:VK} (h:e c H (λvs d=>∃ a b,vs=[.ref a,.ref b]/\(∃ i,SqL K d a i)/\(∃ j,SqL K d b j)/\CompJ (b8 K a b) capt g f c Q d)):A9 (GE K e) capt g f c H Q:=h
def vK {F:Int->Int->Int} {ns a:cY} {i:Nat} (b:i<@ns) (c:i<@a):co (List.zipWith F ns a) i=F (co ns i) (co a i):=by
 unfold co;rw [AN,List.getElem?_zipWith,AR b,AR c,AN,AR b,AN,AR c];rfl
def vL {a:Type} {xs:List a} {i j k:Nat} {x y:a} (d:xs[j]?=some x) (b:xs[i]?=some y) (e:i<@xs) (c:j<@xs) (hk:k<@xs):((xs.set i x).set j y)[k]?=xs[tw i j k]?:=by
 rw [List.getElem?_set,Dw,List.getElem?_set];unfold tw;by_cases q:k=j
 .by_cases r:k=i
  .rw [nC q.symm,nC c,nC r,<-q,r,b]
  .rw [nC q.symm,nC c,nB r,nC q,b]
 .rw [nB (λz=>q z.symm)];by_cases r:k=i
  .rw [nC r.symm,nC e,nC r,d]
  .rw [nB (λz=>r z.symm),nB r,nB q]
def HU {n i:Nat} (h:i<n):aa n (i:Int)=some i:=by
 unfold aa;rw [nC `a,nC `a];simp
def vM (h:J5 K vs H Q E):ZK K (eC Q) (L2.start ["row","one","other","result"] vs) H:=by
 let {a,b,i,j,rfl,c,d,e,p,k}:=h;refine AY (Ds (AS rfl {a,b,2,c,λr f=>?_}));let g:a≠r:=Aq c f;let {x,m}:∃ x,b[j]?=some x:={_,AR e};let {y,n}:∃ y,b[i]?=some y:={_,AR d};refine G6 (AZ (AS rfl (AS rfl (EG (by rw [Ai g];exact c) (DL m) ?_))));refine {4,r,b,_,i,7,upd_same,HU d,?_};rw [Na];refine G6 (AZ (AS rfl (AS rfl (EG (by rw [Ai g];exact c) (DL n) ?_))));refine {4,r,9,j,7,upd_same,HU (by rw [Dw];exact e),?_};rw [Na];exact BT (AS rfl (k r _ f (by rw [Dw,Dw]) λk hk=>vL m n d e hk))
def vN {D:Ends} {t:TS} {a:L2.St} {H:Hp} (h:t D a H):BA { D with nx:=t D } a H:=h
def vO (h:J6 K vs H Q E):ZL K (eC Q) (L2.start ["row","lead","column","prime","weight"] vs) H:=by
 let {a,b,d,F,n,c,p,rfl,e,g,u,G,I,J,m,v,rn,rm,k}:=h
 let w:(~~~d)[c]?=some (.int (co d c)):=by
  rw [Ah,AR `a];unfold co;rw [AN,AR `a];rfl
 let A:co d c∈d:=by
  unfold co;rw [AN,AR `a];exact CN _
 refine AY (AZ (AS rfl (AS rfl (EG e (DL w) ?_))));refine DN (B8 (AZ (AS rfl (I_ {2,1,Ab (λz=>?_) (λ_=>?_)}))))
 .let z:co d c=0:=by simpa using z
  refine BT (AS rfl (k a d H (Same.refl H) (.inl rfl) e u rn λj C=>?_));rw [z,show Zm.of p 0=0 from rfl];ext
 .refine vN (BT (vJ {4,a,b,2,{_,SqL.of e},{_,SqL.of g},vI (λx y=>(x - co d c*y) % p) e g `a `a (λx y L D f P s q=>?_) λr f s o=>?_}))
  .let B:∀ z,0<=z/\z<p->Bd 45000 z:=λz hz=>v.le `a;exact {4,8,CK (B _ (rn _ A)) (B _ (rm y D)),3,8,m,q}
  .refine k r _ _ (M9 s o _) (.inr (s.free o)) upd_same (by rw [List.length_zipWith];omega) (λz hz=>?_) λj C=>?_
   .let {i,M,rfl}:=List.mem_iff_getElem.mp hz;rw [List.getElem_zipWith];exact {B3 _ `a,CM _ m}
   .rw [vK `a `a,Zm.of_mod,Zm.of_sub,Zm.of_mul]
noncomputable def rm (H:Hp) (c:Addr):Hp:=λb=>if b=c then none else H b
def Bq {H:Hp} {c:Addr}:Same (rm H c) H:=λb o h=>by
 unfold rm at h;by_cases q:b=c
 .rw [nC q] at h;cases h
 .rwa [nB q] at h
def CA {H:Hp} {b c:Addr} {o:HO} (n:b≠c) (h:H b=some o):rm H c b=some o:=by unfold rm;rw [nB n];exact h
def Cf {H a:Hp} (c:Addr) (s:Same H a):Same (rm H c) (rm a c):=λb o h=>by
 unfold rm at h ⊢;by_cases q:b=c
 .rw [nC q] at h;cases h
 .rw [nB q] at h ⊢;exact s b o h
def FM {H:Hp} {c:Addr} {o:HO}:Same (rm H c) (rm (upd H c o) c):=λb u h=>by
 unfold rm at h ⊢;by_cases q:b=c
 .rw [nC q] at h;cases h
 .rw [nB q] at h ⊢;rw [Ai q];exact h
theorem SDs.mk {H:Hp}:∀ {xs:cW} {b:List (cY)},@xs=@b->(∀ (i:Nat) r,b[i]?=some r->∃ a,xs[i]?=↥a/\H a^^^(~~~r))->SDs H xs b
 | [],[],_,_=>trivial
 | x::xs,r::b,h,k=>by
   let {a,e,q}:=k 0 r rfl;cases nL e;exact {⟨a,rfl,q⟩,SDs.mk (Nat.succ.inj h) λi r c=>k (i+1) r (by simpa using c)}
 | [],_::_,h,_=>nomatch h
 | _::_,[],h,_=>nomatch h
def SDs.at {H:Hp} {xs:cW} {b:List (cY)} (h:SDs H xs b) {i:Nat} (d:i<@b):∃ a,xs[i]?=↥a/\H a^^^((b.getD i []).map V.int):=by
 let c:i<@xs:=by rw [@h];exact d
 let {a,r,e,f,g}:=h.get (AR c);refine {a,by rw [AR c,e],?_};rw [AN,f];exact g
def Rect.row {L:List (cY)} {n w i:Nat} (R:Rect L n w) (h:i<n):L.getD i []∈L/\(L.getD i []).length=w:=by
 let a:i<@L:=by rw [R.1];exact h
 let m:L.getD i []∈L:=by rw [AN,AR a];exact CN a
 exact {m,R.2 _ m}
def Fs {ns:cY} {i:Nat} (h:i<@ns):co ns i∈ns:=by
 unfold co;rw [AN,AR h];exact CN h
def GV {ns:cY} {i:Nat} (h:i<@ns):(~~~ns)[i]?=some (.int (co ns i)):=by
 rw [Ah,AR h];unfold co;rw [AN,AR h];rfl
def KR {os:List Nat} {i:Nat} (h:i<@os):(iN os)[i]?=some (.int (nth os i:Int)):=by
 unfold iN nth;rw [Ah,AR h,AN,AR h];rfl
def DA (os:List Nat):(iN os).length=@os:=by unfold iN;rw [AI]
def KS {a:Type} (f:Nat->a) (d:a) {n i:Nat} (h:i<n):((List.range n).map f).getD i d=f i:=by
 rw [AN,Ah,DS h];rfl
def KT {os:List Nat} {i:Nat} (h:i<@os):nth os i∈os:=by
 unfold nth;rw [AN,AR h];exact CN h
def vP {p:Nat} (a:Pr p) {x f:Int} (c:0<=x) (e:x<(p:Int)) (i:x≠0) (b:Int.gcd x (p:Int)=1->(p:Int)∣f*x - 1):Zm.of (p:Int) x*Zm.of (p:Int) f=1:=by
 let g:Int.gcd x (p:Int)=1:=by
  rcases a.div _ (FS.mp (EK x (p:Int))) with q | q
  .exact q
  .let d:=E4 x (p:Int);rw [q] at d;have:=Ej `a d;omega
 let h:=b g;rw [<-Zm.of_mul,show (1:Zm (p:Int))=Zm.of (p:Int) 1 from rfl,Zm.of_eq,Cs];exact h
structure RS (H H':Hp) (L:List (cY)) (n w p i:Nat) (lf od cm:Addr) (LL:List (cY)) (ob cb:List Nat):Prop where
 s:Same H H'
 cn:H cm=none
 hl:SD (rm H' cm) lf LL
 ho:rm H' cm od^^^(iN ob)
 hc:H' cm^^^(iN cb)
 rc:Rect LL n w
 lo:@ob=n
 ip:a_ (p:Int) LL
 re:∃ u,RE n w (λi j=>Zm.of (p:Int) (en L i j)) i @cb (nth ob) (nth cb) u (λi j=>Zm.of (p:Int) (en LL i j))
def vQ {K:W.Frag} {H:Hp} {Q:VK} {f:L2.St} {lf cm ld:Addr} {LL:List (cY)} {ls:cY} {n w p c:Nat} (F:f[2]?=some (↥lf)) (u:f[9]?=some (↥ld)) (v:f[5]?=some (some (.int (c:Int)))) (y:f[1]?=some (some (.int (p:Int))))
  (hl:SD (rm H cm) lf LL) (hc:∃ o,H cm=some o) (hd:H ld^^^(~~~ls)) (R:Rect LL n w) (n1:n<=100) (w1:w<=100) (lw:@ls=w) (cw:c<w) (p0:0<p) (bp:Bd 45000 (p:Int)) (ip:a_ (p:Int) LL) (il:∀ z∈ls,0<=z/\z<(p:Int))
  (k:∀ (r:Addr) (ys:cW) (b:List (cY)) (d:Hp),Same H d->d r=none->SDs (rm d cm) ys b->Rect b n w->a_ (p:Int) b->(∀ t,t<n->∀ j,j<w->Zm.of (p:Int) (en b t j)=Zm.of (p:Int) (en LL t j) - Zm.of (p:Int) (en LL t c)*Zm.of (p:Int) (co ls j))->Q (.ref r) (upd d r (.lst ys))) :
  A9 (A5 K (AA 2)) [none,some 9,some 5,some 1] (AE 0) (bA (J6 K) (AB (AA 0) (AB (AA 1) (AB (AA 2) (AB (AA 3) AC))))) f H Q:=by
 let {C,G,X}:=hl;let a0:=@X;let m:=Bq _ _ G;let {oc,I}:=hc;refine DY (AS F {lf,2,{_,SqL.of m},CompJ.lst (xs:=C) (λi ys d=>i<=@C/\Same H d/\∃ b:List (cY),SDs (rm d cm) ys b/\@b=i/\(∀ r∈b,@r=w)/\a_ (p:Int) b/\∀ t,t<i->∀ j,j<w->Zm.of (p:Int) (en b t j)=Zm.of (p:Int) (en LL t j) - Zm.of (p:Int) (en LL t c)*Zm.of (p:Int) (co ls j)) {AV _,Same.refl H,[],trivial,2,(λ_ h=>nomatch h),(λ_ h=>nomatch h),λt h=>absurd h (Bk t)} ?_ ?_ ?_})
 .rintro i ys d ⟨Y,s,b,A,B,_⟩;refine {Y,sz ?_,SqL.of (s _ _ m)};rw [@A,B,<-R.1.symm.symm] at *;have:=R.1;omega
 .rintro i x ys d Z ⟨Y,s,b,A,B,rw',iR,J⟩;let L:i<@C:=(A3.mp Z).1;let M:i<n:=by have:=R.1;omega
  let {a,r,rfl,er,D}:=X.get Z;let eg:LL.getD i []=r:=by rw [AN,er];rfl
  let g:=R.row M;rw [eg] at g
  let N:a≠cm:=λz=>by
   unfold rm at D;rw [nC z] at D;cases D
  let b5:(Ca [none,some 9,some 5,some 1] f)=[none,↥ld,some (.int (c:Int)),some (.int (p:Int))]:=by
   show [none,(f[9]?).join,(f[5]?).join,(f[1]?).join]=_;rw [u,v,y];rfl
  rw [b5];refine EH (Lk (AS rfl (AS rfl (AS rfl (AS rfl {a,ld,r,ls,w,c,1,s _ _ (Bq _ _ D),s _ _ hd,g.2,lw,`a,cw,`a,bp,ip r g.1,il,λq rs H2 s2 hq O P S T=>?_})))))
  let U:q≠cm:=by
   rcases hq with z | z
   .rw [z];exact N
   .exact (Aq (s _ _ I) z).symm
  refine {L,s.trans s2,b++[rs],(A.tp (Cf cm s2)).snoc (CA U O),by rw [Bf,B];rfl,λr g=>?_,λr g=>?_,λt ht j hj=>?_}
  .rcases BR.mp g with z | z
   .exact rw' r z
   .rw [Ap.mp z];exact P
  .rcases BR.mp g with z | z
   .exact iR r z
   .rw [Ap.mp z];exact S
  .unfold en;by_cases z:t<i
   .rw [AN,Eh `a,<-AN];exact J t z j hj
   .let e:t=i:=by omega
    subst e;rw [AN,EI `a,B,DT];show Zm.of _ (co rs j)=_;rw [eg];exact T j hj
 .rintro ys d ⟨_,s,b,A,B,rw',iR,J⟩ r g;let e:@C=n:=by have:=R.1;omega
  exact k r ys b d s g A {`a,rw'} iR λt ht=>J t `a
def CompF.range {capt:List (Option Nat)} {g:TG} {tc:TT} {f:TE} {j:L2.St} {H:Hp} {Q:VK} {lo:Int} {n:Nat} (W:Nat->cW->Hp->Prop) (m:W 0 [] H) (d:∀ i a H,W i a H->i<=n/\@a<=sizeLine)
  (o:∀ i a H,i<n->W i a H->g (.int (lo+i)) (Ca capt j) H λc q=>tc c q λb k=>if b=true then f c k λy r=>W (i+1) (a++[y]) r else W (i+1) a k) (u:∀ a H,W n a H->∀ p,H p=none->Q (.ref p) (upd H p (.lst a))):CompF (Y' lo n) capt g tc f j Q H:=by
 refine {n,W,m,λi a H w=>{(d i a H w).1,(d i a H w).2,?_}};by_cases h:i<n
 .refine .inr {h,h,λx v y=>?_};let {e,y}:=y;subst e y;exact o i a _ h w
 .let e:i=n:=Nat.le_antisymm (d i a H w).1 (Nat.not_lt.mp h);subst e;exact .inl {AT _,u a H w}
def vR {b:TA} {capt:List (Option Nat)} {g:TG} {tc:TT} {c:TE} {a:L2.St} {H:Hp} {Q:VK} (h:b a H (λvs d=>∃ i j:Int,vs=[.int i,.int j]/\(-(2 ^ 62)<=i/\i<2 ^ 62/\-(2 ^ 62)<=j/\j<2 ^ 62)/\CompF (Y' i (j - i).toNat) capt g tc c a Q d)):DX (F4 b) capt g tc c a H Q:=h
def KU {c:TT} {t u:TS} {D:Ends} {a:L2.St} {H:Hp} (h:c a H λb d=>if b=true then t D a d else u D a d):BC c t u D a H:=h
def SV {a:TE} {b:L2.St} {H:Hp} {Q:Bool->Hp->Prop} (h:a b H λx c=>∃ p d,x=.ref p/\c p^^^d/\Q (!d.isEmpty) c):D3 a b H Q:=h
def SW (F:Int->Int) {ns:cY} {j:Nat} (h:j<@ns):co (ns.map F) j=F (co ns j):=by
 unfold co;rw [AN,Ah,AR h,AN,AR h];rfl
def RS.step {K:W.Frag} {H H':Hp} {L:List (cY)} {n w p i:Nat} {a lf od cm:Addr} {LL:List (cY)} {ob C:List Nat} {x6 x7 x8 x9:cX} {D:Ends} (I:RS H H' L n w p i lf od cm LL ob C) (iw:i<w) (n1:n<=100) (w1:w<=100) (pp:Pr p) (bp:Bd 45000 (p:Int))
  (nx:∀ U lf od LL ob C x6 x7 x8 x9,RS H U L n w p (i+1) lf od cm LL ob C->D.nx [↥a,some (.int (p:Int)),↥lf,↥od,↥cm,some (.int (i:Int)),x6,x7,x8,x9] U) :
  Q0 K D [↥a,some (.int (p:Int)),↥lf,↥od,↥cm,some (.int (i:Int)),x6,x7,x8,x9] H':=by
 let p2:=pp.two;let {s,cn,{ws,ac,hS},ho,X,R,lo,ip,u,re}:=I;let bj:=@hS;let wn:@ws=n:=by rw [bj,R.1]
 let M:=Bq _ _ ac;let bk:=Bq _ _ ho;let dn:=re.dn;let di:@C<=100:=by omega
 let {d,hd}:∃ d,d=@C:={1};rw [<-hd] at re dn;refine AY (G5 (AS rfl (IE X ?_)));rw [DA,<-hd];show Qz K _ _ _;refine AY (vR {4,lf,ws,2,M,6,by rw [wn];omega,?_});rw [wn,show ((n:Int) - (d:Int)).toNat=n - d by omega];refine CompF.range (λk S U=>k<=n - d/\U=H'/\∃ A:List Nat,S=iN A/\@A<=k/\(∀ z∈A,d<=z/\z<n/\en LL z i≠0)/\(A=[]->∀ z,d<=z->z<d+k->en LL z i=0)) {AV _,2,[],2,AT _,(λ_ h=>nomatch h),λ_ z h1 h2=>by omega} ?_ ?_ ?_
 .rintro k S U ⟨hk,rfl,A,rfl,ld,_⟩;exact {hk,sz (by rw [DA];omega)}
 .rintro k S U hk ⟨_,rfl,A,rfl,ld,h1,h2⟩;let {ra,bl,bm}:=hS.at (i:=d+k) (by rw [R.1];omega);let g:=R.row (i:=d+k) `a;let ec:(((LL.getD (d+k) []).map V.int))[i]?=some (.int (en LL (d+k) i)):=GV (by rw [g.2];exact iw);refine EH (B8 (AZ (AZ (AZ (AS rfl (AS rfl (EG M (DH (j:=d+k) `a bl) (AS rfl (EG (Bq _ _ bm) (DL ec) (I_ {2,1,Ab (λz=>?_) (λz=>?_)}))))))))))
  .let z:en LL (d+k) i≠0:=by simpa using z
   refine {1,`a,2,A++[d+k],?_,by rw [Bf];exact Nat.succ_le_succ ld,λy hy=>?_,λe=>by simp at e}
   .unfold iN;rw [Bj];show _++[V.int ((d:Int)+(k:Int))]=_++[V.int ((d+k:Nat):Int)];rw [Int.natCast_add]
   .rcases BR.mp hy with q | q
    .exact h1 y q
    .rw [Ap.mp q];exact {`a,`a,z}
  .let z:en LL (d+k) i=0:=by simpa using z
   refine {`a,2,A,2,`a,h1,λe y y1 y2=>?_};by_cases q:y=d+k
   .rw [q];exact z
   .exact h2 e y y1 `a
 rintro S U ⟨_,rfl,A,rfl,ld,h1,h2⟩ ch af;let c3:ch≠cm:=(Aq X af).symm;let T:=AO af (.lst (iN A));show Qy K _ _ _;refine KU (SV (AS rfl {ch,1,upd_same,Ab (λc=>?_) (λc=>?_)}))
 ·-- a pivot
  let {k,m,rfl}:∃ k m,A=k::m:=by
   cases A with
   | nil=>cases c
   | cons k m=>exact ⟨k,m,rfl⟩
  let {dk,kn,bn}:=h1 k (BX ..);clear c h2;let aj:(iN (k::m))[0]?=some (.int (k:Int)):=rfl;generalize bq:upd U ch (.lst (iN (k::m)))=H3 at *;let a0:H3 ch^^^(iN (k::m)):=by rw [<-bq];exact upd_same
  refine G4 (AS rfl (AS rfl (AZ (AS rfl (I_ (EG a0 (DH (j:=0) rfl aj) {lf,ws,d,k,2,T _ _ M,`a,`a,`a,λl2 S al ly ey=>?_}))))));let s2:=AO al (.lst S);let am:l2≠cm:=(Aq (T _ _ X) al).symm;generalize br:upd H3 l2 (.lst S)=H4 at *;let N:H4 l2^^^S:=by rw [<-br];exact upd_same
  show Qx K _ _ _;refine G4 (AS rfl (AS rfl (AZ (AS rfl (I_ (EG (s2 _ _ a0) (DH (j:=0) rfl aj) {od,iN ob,d,k,2,s2 _ _ (T _ _ bk),by rw [DA];omega,by rw [DA];omega,by rw [DA];omega,λo2 zs an lz ez=>?_}))))));let s3:=AO an (.lst zs);let ao:o2≠cm:=(Aq (s2 _ _ (T _ _ X)) an).symm;generalize bs:upd H4 o2 (.lst zs)=H5 at *;let a3:H5 o2^^^zs:=by rw [<-bs];exact upd_same
  let a5:=(T.trans s2).trans s3;rw [DA] at lz ez
  let bt:zs=iN ((List.range n).map λt=>nth ob (tw d k t)):=by
   refine EL λt=>?_;rcases BE t n with q | q
   .rw [ez t `a,KR (by rw [lo];exact IJ `a `a q),KR (by simpa using q)];unfold nth;rw [KS _ _ q]
   .rw [CB `a,CB (by rw [DA];simpa using q)]
  let ap:SDs (rm H5 cm) S ((List.range n).map λt=>LL.getD (tw d k t) []):=SDs.mk (by rw [ly,wn];simp) λt r g=>by
   let q:t<n:=by
    have:=(A3.mp g).1;simpa using this
   rw [Ah,DS q] at g;let {b,eb,F}:=hS.at (i:=tw d k t) (by rw [R.1];exact IJ `a kn q);refine {b,by rw [ey t `a,eb],?_};cases g;exact Cf cm a5 _ _ F
  let e5:∀ t,t<n->∀ j,en ((List.range n).map λt=>LL.getD (tw d k t) []) t j=en LL (tw d k t) j:=λt B j=>by
   unfold en;rw [KS _ _ B]
  let R5:Rect ((List.range n).map λt=>LL.getD (tw d k t) []) n w:={by simp,λr g=>by
   let {t,B,rfl}:=Am.mp g;exact (R.row (IJ `a kn (DB.mp B))).2}
  let a6:a_ (p:Int) ((List.range n).map λt=>LL.getD (tw d k t) []):=λr g=>by
   let {t,B,rfl}:=Am.mp g;exact ip _ (R.row (IJ `a kn (DB.mp B))).1
  generalize c4:((List.range n).map λt=>LL.getD (tw d k t) [])=L5 at *;show Qw K _ _ _;let {rd,ar,a7}:=ap.at (i:=d) (by rw [R5.1];omega);let x:=R5.row (i:=d) `a;let ec:(((L5.getD d []).map V.int))[i]?=some (.int (en L5 d i)):=GV (by rw [x.2];exact iw);let b0:en L5 d i=en LL k i:=by rw [e5 d `a,Lq]
  let zi:=a6 _ x.1 _ (Fs (i:=i) (by rw [x.2];exact iw));refine Lj (AZ (AZ (AS rfl (AS rfl (EG (s3 _ _ N) (DL ar) (AS rfl (EG (Bq _ _ a7) (DL ec) (AS rfl {6,`a,bp,λf f0 f1 hf=>?_}))))))))
  let b1:Zm.of (p:Int) (en LL k i)*Zm.of (p:Int) f=1:=by
   rw [<-b0];exact vP pp zi.1 zi.2 (by show en L5 d i≠0;rw [b0];exact bn) hf
  show Qv K _ _ _;refine AY (DY (AZ (AS rfl (AS rfl (EG (s3 _ _ N) (DL ar) {rd,2,{_,SqL.of (Bq _ _ a7)},Ie (λz=>z*f % (p:Int)) (Bq _ _ a7) (by rw [x.2];omega) (λz hz P hP=>?_) λld b2=>?_})))))
  .let zb:=a6 _ x.1 z hz;exact {4,3,CK (bp.le `a) (bp.le `a),8,`a,hP}
  let s4:=AO b2 (.lst (((L5.getD d []).map λz=>z*f % (p:Int)).map V.int));let bu:ld≠cm:=(Aq (a5 _ _ X) b2).symm;let {v,Y}:∃ v,v=(L5.getD d []).map λz=>z*f % (p:Int):={1};rw [<-Y] at s4 ⊢;let b3:@v=w:=by rw [Y,AI];exact x.2
  let b4:∀ j,j<w->Zm.of (p:Int) (co v j)=Zm.of (p:Int) (en LL k j)*Zm.of (p:Int) f:=λj hj=>by
   let e:co v j=en L5 d j*f % (p:Int):=by
    rw [Y];exact SW _ (by rw [x.2];exact hj)
   rw [e,Zm.of_mod,Zm.of_mul,e5 d `a,Lq]
  let b5:∀ z∈v,0<=z/\z<(p:Int):=λz hz=>by
   rw [Y] at hz;let {y,_,rfl}:=Am.mp hz;exact {B3 _ `a,CM _ `a}
  generalize bv:upd H5 ld (.lst (~~~v))=H6 at *;let O:H6 ld^^^(~~~v):=by rw [<-bv];exact upd_same
  let b9:=a5.trans s4;show Qu K _ _ _;refine AY (vQ (lf:=l2) (cm:=cm) (ld:=ld) (LL:=L5) (ls:=v) (n:=n) (w:=w) (p:=p) (c:=i) rfl rfl rfl rfl {S,CA am (s4 _ _ (s3 _ _ N)),ap.tp (Cf cm s4)} {_,b9 _ _ X} O R5 n1 w1 b3 iw `a bp a6 b5 λl3 G L6 H7 s5 J ba R6 bw e6=>?_);let Z:=b9.trans s5;let a4:l3≠cm:=(Aq (Z _ _ X) J).symm;let s6:=AO J (.lst G);generalize bx:upd H7 l3 (.lst G)=H8 at *;let bb:H8 l3^^^G:=by rw [<-bx];exact upd_same
  let bc:ld≠l3:=Aq (s5 _ _ O) J;show Qt K _ _ _;let a8:=@ba;refine G6 (AS rfl {4,l3,G,_,d,7,bb,HU (by rw [a8,R6.1];omega),?_});show Qs K _ _ _;let bd:H8 ld^^^(~~~v):=s6 _ _ (s5 _ _ O);let bz:H8 cm^^^(iN C):=s6 _ _ (Z _ _ X);generalize ab:upd H8 l3 (.lst (G.set d (.ref ld)))=H9 at *;let bf:H9 cm^^^(iN C):=by rw [<-ab,Ai a4.symm];exact bz
  refine {1,.inl {2,_,SqL.of bf},1,cm,3,bf,sz (by rw [DA];omega),?_};let k9:Kp l3 H8 H9:=by rw [<-ab];exact Kp.upd
  refine nx _ l3 o2 (L6.set d v) ((List.range n).map λt=>nth ob (tw d k t)) (C++[i]) _ _ _ _ ?_
  let c0:Same U H9:=by
   intro b o F;exact k9 b o (Aq (Z b o F) J) (s6 _ _ (Z b o F))
  let bg:iN C++[V.int (i:Int)]=iN (C++[i]):=by unfold iN;rw [Bj];rfl
  rw [bg]
  let bh:∀ t,t<n->∀ j,en (L6.set d v) t j=if t=d then co v j else en L6 t j:=λt B j=>by
   unfold en;rw [AN,List.getElem?_set];by_cases q:t=d
   .rw [nC q.symm,nC (by rw [R6.1];omega),nC q];rfl
   .rw [nB (λz=>q z.symm),nB q,<-AN]
  refine {λb o F=>?_,cn,{G.set d (.ref ld),?_,?_},?_,upd_same,{by rw [Dw];exact R6.1,λr g=>?_},by simp,λr g=>?_,?_}
  .rw [Ai (Aq F cn)];exact c0 _ _ (s _ _ F)
  .refine FM _ _ (CA a4 ?_);rw [<-ab];exact upd_same
  .refine SDs.mk (by rw [Dw,Dw];exact a8) λt r g=>?_
   let tn:t<n:=by
    have:=(A3.mp g).1;rw [Dw,R6.1] at this;exact this
   rw [List.getElem?_set] at g ⊢;by_cases q:d=t
   .rw [nC q,nC (by rw [R6.1];omega)] at g;rw [nC q,nC (by rw [a8,R6.1];omega)];cases g;exact {ld,2,FM _ _ (CA bu (k9 _ _ bc bd))}
   .rw [nB q] at g ⊢;let {b,eb,F}:=ba.at (i:=t) (by rw [R6.1];exact tn);refine {b,eb,?_};rw [AN,g] at F
    let c1:b≠cm:=λz=>by
     unfold rm at F;rw [nC z] at F;cases F
    let bi:=Bq _ _ F;exact FM _ _ (CA c1 (k9 _ _ (Aq bi J) (s6 _ _ bi)))
  .have:=s6 _ _ (s5 _ _ (s4 _ _ a3));rw [bt] at this;exact FM _ _ (CA ao (k9 _ _ (Aq (s5 _ _ (s4 _ _ a3)) J) this))
  .rcases List.mem_or_eq_of_mem_set g with q | q
   .exact R6.2 r q
   .rw [q];exact b3
  .rcases List.mem_or_eq_of_mem_set g with q | q
   .exact bw r q
   .rw [q];exact b5
  .rw [Bf,<-hd]
   let c2:∀ t,t<d->nth (C++[i]) t=nth C t:=λt B=>by
    unfold nth;rw [AN,Eh `a,<-AN]
   refine re.step (k:=k) (y:=Zm.of (p:Int) f) iw dk kn b1 (λt B=>?_) c2 ?_ (λj hj=>?_) (λt B q j hj=>?_)
   .unfold nth;rw [KS _ _ B]
   .unfold nth;rw [AN,EI `a,<-hd,DT];rfl
   .show Zm.of _ (en (L6.set d v) d j)=_;rw [bh d `a,nC rfl];exact b4 j hj
   .show Zm.of _ (en (L6.set d v) t j)=_;rw [bh t B,nB q,e6 t B j hj,e5 t B,e5 t B,b4 j hj]
 .let e:A=[]:=by
   cases A with
   | nil=>rfl
   | cons k m=>exact absurd rfl c
  refine nx _ lf od LL ob C _ _ _ _ {s.trans T,cn,{ws,Cf cm T _ _ ac,hS.tp (Cf cm T)},Cf cm T _ _ ho,T _ _ X,R,lo,ip,u,?_};rw [<-hd];refine re.skip λt dt tn=>?_;rw [h2 e t dt `a];rfl
def KW {H:Hp} {c:Addr} {o:HO} (h:H c=none):Same H (rm (upd H c o) c):=λb u a=>CA (Aq a h) (AO h o b u a)
def Rect.nil {n w:Nat} {L:List (cY)} (R:Rect L n w) (h:n=0):L=[]:=B5.mp (R.1.trans h)
def SX {a:Addr} {L:List (cY)} {n w:Nat} {f:L2.St} {H:Hp} {Q:VK} (d:f[0]?=some (↥a)) (h:SD H a L) (R:Rect L n w) (o:n=0->Q (.int 0) H) (p:n≠0->Q (.int (w:Int)) H):aV (D3 (AA 0)) (D' Ao (AB (A_ gL (AA 0) (aS 0)) AC)) (aS 0) f H Q:=by
 let {g,k,m}:=h;let e:=@m;refine SV (AS d {a,g,2,k,Ab (λc=>?_) (λc=>?_)})
 .let q:n≠0:=λz=>by
   rw [R.nil z] at e;rw [B5.mp e] at c;cases c
  let {b,r,u}:=m.at (i:=0) (by rw [R.1];omega);refine G5 (AZ (AS d (I_ (EG k (DH (j:=0) rfl r) (IE u ?_)))));rw [AI,(R.row (i:=0) `a).2];exact p q
 .refine o (Classical.byContradiction λz=>c ?_);cases g with
  | nil=>have:0=@L:=e;have:=R.1;omega
  | cons=>rfl
def RE.none {R:Type} [Lean.Grind.CommRing R] {w d:Nat} {a u l:Nat->Nat->R} {o c:Nat->Nat} (I:RE 0 w a 0 d o c u l):RE 0 w a w d o c u l:=by
 have:d=0:=by have:=I.dn;omega
 subst this;exact {AT _,I.on,I.inj,λs h=>absurd h (Bk s),I.cr,I.row,λi _ h=>absurd h (Bk i),λs h=>absurd h (Bk s),λi _ h=>absurd h (Bk i),I.ech}
theorem SDs.take {H:Hp}:∀ {xs:cW} {a:List (cY)} (n:Nat),SDs H xs a->SDs H (xs.take n) (a.take n)
 | [],[],n,_=>by simp [SDs]
 | _::_,_::_,0,_=>trivial
 | _::_,_::_,n+1,h=>{h.1,SDs.take n h.2}
 | [],_::_,_,h=>h.elim
 | _::_,[],_,h=>h.elim
def vS {os:List Nat} {d i:Nat} (h:i<d):nth (os.take d) i=nth os i:=by
 unfold nth;rw [AN,List.getElem?_take,nC h,<-AN]
def vT {L:List (cY)} {d i j:Nat} (h:i<d):en (L.take d) i j=en L i j:=by
 unfold en;rw [AN,List.getElem?_take,nC h,<-AN]
def vU (h:MM K vs H Q E):ZJ K { nx:=λ_ c=>Q .non c,rt:=Q } (L2.start ["rows","prime","left","order","columns","column","done","chosen","factor","lead"] vs) H:=by
 let {a,L,n,w,p,rfl,hL,R,n1,w1,pp,bp,k}:=h;let p2:=pp.two;let {D,ha,hS}:=hL;let F:=@hS;let wn:@D=n:=by rw [F,R.1]
 let {g,B}:∃ g:List (cY),g=L.map λr=>r.map (·% (p:Int)):={1};refine AY (DY (AS rfl {a,2,{_,SqL.of ha},CompJ.lst (xs:=D) (λi N c=>i<=@D/\Same H c/\SDs c N (g.take i)) {AV _,Same.refl H,trivial} ?_ ?_ ?_}))
 .rintro i N c ⟨d,s,hR⟩;refine {d,sz ?_,SqL.of (s _ _ ha)};rw [@hR,Ba];omega
 .rintro i x N c hx ⟨d,s,hR⟩;let af:i<@D:=(A3.mp hx).1;let {b,r,rfl,er,hb}:=hS.get hx;let C:r∈L:=Bb er;refine EH (Ae (AS rfl (AS rfl {b,r,1,s _ _ hb,`a,by rw [R.2 r C];omega,λq hq=>?_})));let G:=AO hq (.lst ((r.map (·% (p:Int))).map V.int));refine {af,s.trans G,?_};let e0:g[i]?=some (r.map (·% (p:Int))):=by rw [B,Ah,er];rfl
  let et:g.take (i+1)=g.take i++[r.map (·% (p:Int))]:=by rw [C4,e0];rfl
  rw [et];exact (hR.tp G).snoc upd_same
 rintro N H1 ⟨_,s1,hR⟩ m W;let e0:g.take @D=g:=by rw [F,show @L=@g by rw [B,AI],B4]
 rw [e0] at hR;let G:=AO W (.lst N);generalize aj:upd H1 m (.lst N)=H2 at *;let a0:H2 m^^^N:=by rw [<-aj];exact upd_same
 let a3:=s1.trans G;show Q8 K _ _ _;refine AY (show LG _ _ _ _ from G5 (AS rfl (IE (a3 _ _ ha) {n,by rw [wn],`a,λo al=>?_})));let s3:=AO al (.lst ((List.range n).map λi:Nat=>V.int (i:Int)));generalize am:upd H2 o (.lst ((List.range n).map λi:Nat=>V.int (i:Int)))=H3 at *;let a4:H3 o^^^(iN (List.range n)):=by rw [<-am];exact upd_same
 show Q7 K _ _ _;refine AY (show As AC _ _ _ from {AV _,λA X=>?_});let s4:=AO X (.lst []);let a5:=a3.trans s3;let Y:=a5.trans s4;let cn:H A=none:=a5.free X;let r4:Same H3 (rm (upd H3 A (.lst [])) A):=KW X;generalize an:upd H3 A (.lst [])=H4 at *;let O:H4 A^^^(iN []):=by rw [<-an];exact upd_same
 let R0:Rect g n w:={by rw [B,AI];exact R.1,λr C=>by
  rw [B] at C;let {r',h',rfl}:=Am.mp C;rw [AI];exact R.2 r' h'}
 let a6:a_ (p:Int) g:=λr C z hz=>by
  rw [B] at C;let {r',h',rfl}:=Am.mp C;let {y,_,rfl}:=Am.mp hz;exact {B3 _ `a,CM _ `a}
 let ez:∀ i,i<n->∀ j,j<w->Zm.of (p:Int) (en g i j)=Zm.of (p:Int) (en L i j):=λi d j hj=>by
  let e:en g i j=en L i j % (p:Int):=by
   let a7:i<@L:=by rw [R.1];exact d
   let e1:g.getD i []=(L.getD i []).map (·% (p:Int)):=by
    rw [B,AN,Ah,AR a7,AN,AR a7];rfl
   show co (g.getD i []) j=co (L.getD i []) j % _;rw [e1];exact SW _ (by rw [(R.row d).2];exact hj)
  rw [e,Zm.of_mod]
 let a8:∃ u,RE n w (λi j=>Zm.of (p:Int) (en L i j)) 0 0 (nth (List.range n)) (nth []) u (λi j=>Zm.of (p:Int) (en g i j)):=by
  let nr:∀ i,i<n->nth (List.range n) i=i:=λi d=>by
   unfold nth;rw [AN,DS d];rfl
  refine {λ_ _=>0,AV _,λi d=>by rw [nr i d];exact d,λi j d hj e=>by rw [nr i d,nr j hj] at e;exact e,λs h=>absurd h (Bk s),λs t _ h=>absurd h (Bk t),λi h=>absurd h (Bk i),λi _ d j hj=>?_,λs h=>absurd h (Bk s),λ_ _ _ j h=>absurd h (Bk j),λi h=>absurd h (Bk i)};show Zm.of _ (en g i j)=Zm.of _ (en L (nth (List.range n) i) j)+0;rw [nr i d,ez i d j hj];ext
 let I0:RS H H4 L n w p 0 m o A g (List.range n) []:={Y,cn,{N,r4 _ _ (s3 _ _ a0),(hR.tp (G.trans s3)).tp r4},r4 _ _ a4,O,R0,Bg,a6,a8}
 let ab:∀ c m o M v f x5 P S T U,RS H c L n w p w m o A M v f->Q3 K { nx:=λ_ c=>Q .non c,rt:=Q } [↥a,some (.int (p:Int)),↥m,↥o,↥A,x5,P,S,T,U] c:=by
  rintro c m o M v f x5 P S T U ⟨s,cn,⟨D,W,hS⟩,ho,hc,R',lo,ip,u,re⟩;let F:=@hS;let dn:=re.dn;let ac:=Bq _ _ W;let ao:=Bq _ _ ho;let ap:=hS.tp Bq;refine BT (Xv (AS rfl (G5 (AS rfl (IE hc {1,m,D,2,ac,λl2 ar=>?_})))));rw [DA,IB (by rw [F,R'.1];exact dn)];let G:=AO ar (.lst (D.take @f));refine AS rfl (G5 (AS rfl (IE (G _ _ hc) {1,o,1,G _ _ ao,λo2 b0=>?_})));rw [DA,IB (by rw [DA,lo];exact dn)];let s3:=AO b0 (.lst ((iN v).take @f));refine AS rfl {Xx,λr C=>?_};let s4:=AO C (.tup [.ref l2,.ref o2,.ref A]);let st:Same c (upd (upd (upd c l2 (.lst (D.take @f))) o2 (.lst ((iN v).take @f))) r (.tup [.ref l2,.ref o2,.ref A])):=(G.trans s3).trans s4;let ol:(v.take @f).length=@f:=by rw [Ba];omega
  refine k r l2 o2 A (M.take @f) (v.take @f) f _ (s.trans st) upd_same {D.take @f,s4 _ _ (s3 _ _ upd_same),((ap.take _).tp st)} ?_ (st _ _ hc) {{?_,λr C=>R'.2 r (Ek C)},ol.symm,λr C=>ip r (Ek C),?_}
  .have:iN (v.take @f)=(iN v).take @f:=by unfold iN;rw [List.map_take]
   rw [this];exact s4 _ _ upd_same
  .rw [ol,Ba,R'.1];omega
  .rw [ol];exact {nth v,nth f,u,_,re,λi d=>vS d,λi _=>rfl,λi d j hj=>by rw [vT d]}
 show Q4 K _ _ _;refine (show A4 _ _ _ _ _ _ from SX rfl ({D,Y _ _ ha,hS.tp Y}:SD H4 a L) R (λn0=>{0,2,`b,`b,?_}) (λn0=>{(w:Int),2,`a,`a,?_}))
 .refine ForR.by (λi Z c=>i=0/\Z=[↥a,some (.int (p:Int)),↥m,↥o,↥A,none,none,none,none,none]/\c=H4) ⟨rfl,rfl,rfl⟩ (λi Z c d=>absurd d (Bk i)) ?_;rintro Z c ⟨_,rfl,rfl⟩;let {u,re}:=a8;refine ab _ _ _ _ _ _ _ _ _ _ _ {I0.s,cn,I0.hl,I0.ho,O,R0,Bg,a6,u,?_};subst n0;exact re.none
 .refine ForR.by (λi Z c=>∃ m o M v f x5 P S T U,Z=[↥a,some (.int (p:Int)),↥m,↥o,↥A,x5,P,S,T,U]/\RS H c L n w p i m o A M v f) {m,o,g,9,none,none,none,none,none,2,I0} ?_ ?_
  .rintro i Z c d ⟨m,o,M,v,f,x5,P,S,T,U,rfl,I⟩;let iw:i<w:=by omega
   refine EH ?_;rw [show ((0:Int)+(i:Int))=(i:Int) by omega];exact I.step iw n1 w1 pp bp λH2 m o M v f P S T U J=>{m,o,M,v,f,_,P,S,T,U,2,J}
  .rintro Z c ⟨m,o,M,v,f,x5,P,S,T,U,rfl,I⟩;exact ab _ _ _ _ _ _ _ _ _ _ _ I
def FN {a:cY} {i j:Nat} {z:Int} (h:i<@a):co (a.set i z) j=if j=i then z else co a j:=by
 unfold co;rw [AN,List.getElem?_set];by_cases q:j=i
 .rw [nC q.symm,nC h,nC q];rfl
 .rw [nB (λz=>q z.symm),nB q,AN]
def vV {ps:List Nat} (h:ps.Nodup) {i j:Nat} (a:i<@ps) (b:j<@ps) (e:nth ps i=nth ps j):i=j:=by
 unfold nth at e;rw [AN,AR a,AN,AR b] at e;exact (List.getElem_inj h).mp e
def SY (w j:Nat):co (List.replicate w (0:Int)) j=0:=by
 unfold co;rw [AN,E3];split <;> rfl
def vW (h:MN K vs H Q E):ZN K (eC Q) (L2.start ["sides"] vs) H:=by
 let {a,L,n,w,rfl,c,R,z,k}:=h;refine BT (SX rfl c R (λd=>?_) (λ_=>k));have:=z d;subst this;exact k
def vY (h:MO K vs H Q E):ZP K (eC Q) (L2.start ["rows","place"] vs) H:=by
 let {a,L,n,w,j,rfl,{d,m,o},R,B,v,k}:=h;let y:=@o;let C:=R.1;refine BT (DY (AS rfl {a,2,{_,SqL.of m},CompJ.lst (xs:=d) (λi f c=>i<=@d/\c=H/\f=((L.map λl=>co l j).take i).map V.int) {AV _,7} ?_ ?_ ?_}))
 .rintro i f c ⟨p,rfl,rfl⟩;refine {p,sz ?_,SqL.of m};rw [AI,Ba];omega
 .rintro i x f c q ⟨p,rfl,rfl⟩;let g:i<@d:=(A3.mp q).1;let {b,r,rfl,u,z}:=o.get q;refine EH (AZ (AS rfl (AS rfl (EG z (DL (GV (by rw [R.2 r (Bb u)];exact v))) {g,2,?_}))));rw [HN V.int (show (L.map λl=>co l j)[i]?=some (co r j) by rw [Ah,u];rfl)]
 .rintro f c ⟨_,rfl,rfl⟩ r A;let e:(L.map λl=>co l j).take @d=L.map λl=>co l j:=by rw [y,show @L=(L.map λl=>co l j).length by rw [AI],B4]
  rw [e];exact k r A
def NA {b:TA} {capt:List (Option Nat)} {g:TG} {c:TE} {a:L2.St} {H:Hp} {Q:VK} (h:b a H (λvs d=>∃ j:Int,vs=[.int j]/\-(2 ^ 62)<=j/\j<2 ^ 62/\CompJ (Y' 0 j.toNat) capt g c a Q d)):A9 (DG b) capt g c a H Q:=h
def vZ (h:MP K vs H Q E):ZO K (eC Q) (L2.start ["rows"] vs) H:=by
 let {a,L,n,w,rfl,A,R,z,B,G,k}:=h;let {b,c}:∃ b:List (cY),b=(List.range w).map λj=>L.map λl=>co l j:={1};let p:@b=w:=by rw [c,AI,Bg]
 refine BT (NA (B7 (AS rfl {a,L,n,w,2,A,R,z,(w:Int),2,`a,`a,?_})));rw [Ch];refine CompJ.range (λi g d=>i<=w/\Same H d/\SDs d g (b.take i)) {AV _,Same.refl H,trivial} ?_ ?_ ?_
 .rintro i g d ⟨f,s,m⟩;refine {f,sz ?_};rw [@m,Ba];omega
 .rintro i g d f ⟨_,s,m⟩;rw [show ((0:Int)+(i:Int))=(i:Int) by omega];refine EH (Ae (AS rfl (AS rfl {a,L,n,w,i,2,A.tp s,R,B,f,λr o=>?_})));let q:=AO o (.lst ((L.map λl=>co l i).map V.int));refine {f,s.trans q,?_};let e:b[i]?=some (L.map λl=>co l i):=by rw [c,Ah,DS f];rfl
  let C:b.take (i+1)=b.take i++[L.map λl=>co l i]:=by rw [C4,e];rfl
  rw [C];exact (m.tp q).snoc upd_same
 .rintro g d ⟨_,s,m⟩ r o;rw [show b.take w=b by rw [<-p,B4]] at m;let q:=AO o (.lst g);refine k r b _ (s.trans q) {g,upd_same,m.tp q} {p,λl u=>?_} (λi f j x=>?_) λP D l u y F=>?_
  .rw [c] at u;let {j,_,rfl}:=Am.mp u;rw [AI];exact R.1
  .let v:i<@L:=by rw [R.1];exact f
   show co (b.getD j []) i=co (L.getD i []) j;rw [c,KS _ _ x];unfold co;rw [AN,Ah,AR v,AN (l:=L),AR v];rfl
  .rw [c] at u;let {j,x,rfl}:=Am.mp u;let {r,o,rfl}:=Am.mp F;exact D r o _ (Fs (by rw [R.2 r o];exact DB.mp x))
section
open Po
def uA {R:Type} [Lean.Grind.CommRing R] (D:Dom R) {a:R} {q:Nat} (e:a ^ (q+2)=a) (c:a≠0):∃ b,b*a=1:=by
 let z:a*(a ^ q*a - 1)=0:=by
  rw [show a*(a ^ q*a - 1)=a ^ (q+2) - a by ext,e];ext
 rcases D.mul z with z | z
 .exact absurd z c
 .exact {a ^ q,()}
def Ey {p:Nat} (hp:Pr p):Fl (Zm (p:Int)):=by
 let D:Dom (Zm (p:Int)):=Zm.dom (by have:=hp.two;omega) λa b h=>M3 hp h;refine {D,λa c=>uA (q:=p - 2) D ?_ c};rw [Nat.sub_add_cancel hp.two];exact L8 hp a
def Cn (l:cY):Bn (ro l) @l:=λk hk=>AX hk
def HV (m:Int) (l:cY):Bn (mr m l) @l:=(Cn l).map (hz m)
theorem HW (x:Int) (l:cY):ro (x::l)=num x+X*ro l:=C_ λk=>by
 rw [C8];cases k with
 | zero=>rw [FD];show x=(if 0=0 then x else 0)+0;rw [nC rfl];omega
 | succ k=>rw [Ed];show co l k=(if k+1=0 then x else 0)+co l k;rw [nB `a];omega
def Ft:ro []=0:=C_ λk=>by rw [CI];rfl
theorem CV (b:cY):∀ (a:cY) (k:Nat),cvL a (co b) k=(ro a*ro b).c k
 | [],k=>by rw [Ft,show 0*ro b=0 by ext,CI];rfl
 | x::a,k=>by
   rw [HW,show (num x+X*ro a)*ro b=num x*ro b+X*(ro a*ro b) by ext,C8,D_];cases k with
   | zero=>rw [FD];rfl
   | succ k=>rw [Ed,<-CV b a k];rfl
def SZ (f:Po Int):∃ l,ro l=f:=by
 let {n,a}:=f.fin;refine {(List.range n).map f.c,C_ λk=>?_};show co _ k=_;rw [G2];split
 .rfl
 .rw [a k `a]
def Md.mr {m:Int} {a:cY} {f:dh} (h:Md m a f) {g:Po Int} (e:∀ k,g.c k=f k):mr m a=md m g:=C_ λk=>Zm.of_eq.mpr (by rw [e k];exact h.2 k)
def Ef {m:Int} {ns a b c:cY} (h:Md m c λk=>co ns k - cvL a (co b) k):mr m ns=mr m a*mr m b+mr m c:=by
 let e:=h.mr (g:=ro ns - ro a*ro b) λk=>by rw [Ec,CV];rfl
 rw [e,(CJ m).sub,(CJ m).mul];show mr m ns=mr m a*mr m b+(mr m ns - mr m a*mr m b);ext
def GW (m a:Int):md m (num a)=num (Zm.of m a):=Jn (hz m) a
def KY {m f:Int} {ns a:cY} (h:Md m a λk=>f*co ns k):mr m a=num (Zm.of m f)*mr m ns:=by
 let e:=h.mr (g:=num f*ro ns) λk=>by rw [D_];rfl
 rw [e,(CJ m).mul,GW];rfl
def Sa {m:Int} {ns a:cY} (h:Md m a (co ns)):mr m a=mr m ns:=h.mr (g:=ro ns) λk=>rfl
def Sb {l:cY} (h:0<@l) (t:co l (@l - 1)=1):Mn (ro l) (@l - 1):={t,(Cn l).mono `a}
def Mp.mn {m:Int} {l:cY} (h:Mp m l):Mn (mr m l) (@l - 1):=(Sb h.pos h.top).map (hz m)
def Mp.nmn {m:Int} {l:cY} (h:Mp m l):Mn (ro l) (@l - 1):=Sb h.pos h.top
def Eg (a:Int):ro [a]=num a:=by rw [HW,Ft];ext
def uB (m a:Int):mr m [a]=num (Zm.of m a):=by unfold mr;rw [Eg,GW]
def Il (a b:cY):ro (rT a b)=ro a*ro b:=C_ λk=>by rw [<-CV];exact ST a b k
def uC (m:Int) (a b:cY):mr m (rT a b)=mr m a*mr m b:=by unfold mr;rw [Il,(CJ m).mul]
def Im {p:Int} {g f:cY} (h:Dm p (co g) (co f)):Dv (mr p g) (mr p f):=by
 let {S,h}:=h;refine {mr p S,?_};unfold mr;rw [<-(CJ p).mul]
 exact C_ λk=>Zm.of_eq.mpr (by
  rw [show ro g*ro S=ro S*ro g by ext,<-CV];exact h k)
def Sc {p:Int} {g f:cY} (h:Dv (mr p g) (mr p f)):Dm p (co g) (co f):=by
 let {q,h}:=h;let {Q,rfl}:=HI q;let {S,rfl}:=SZ Q;refine {S,λk=>?_};rw [CV,show ro S*ro g=ro g*ro S by grind];unfold mr at h;rw [<-(CJ p).mul] at h;exact Zm.of_eq.mp (congrArg (λf=>Po.c f k) h)
def Se {p:Nat} (F:Fl (Zm (p:Int))) {ns a c:cY} {n:Nat} {i:Zm (p:Int)} (e:Mn (num i*mr p ns) n) (h:∀ g:dh,Dm (p:Int) g (co ns)->Dm (p:Int) g (co a)->Dm (p:Int) g (co c)):∃ u v,mr p c=u*mr p ns+v*mr p a:=by
 let {d,k,u,v,w,f,j,b}:=gcd_ex F n _ (mr p a) e;let {D,rfl}:=HI d;let {D,rfl}:=SZ D
 let m:num i*num ((mr p ns).c n)=(1:Po (Zm (p:Int))):=by
  have:=e.top;rw [D_] at this;rw [<-BV,this,one_eq]
 let o:Dv (mr p D) (mr p ns):=by
  have:=f.mulL (num ((mr p ns).c n));rw [show num ((mr p ns).c n)*(num i*mr p ns)=(num i*num ((mr p ns).c n))*mr p ns by ext,m] at this;rw [show mr p ns=1*mr p ns by grind];exact this
 let {q,r}:=Im (h (co D) (Sc o) (Sc j));let b:mr p D=u*(num i*mr p ns)+v*mr p a:=b;exact {q*u*num i,q*v,by rw [r,b];ext}
section
variable {R:Type} [Lean.Grind.CommRing R]
def Sf (f g:Po R):dP (f+g)=dP f+dP g:=C_ λk=>by
 show nR (k+1)*(f.c (k+1)+g.c (k+1))=nR (k+1)*f.c (k+1)+nR (k+1)*g.c (k+1);ext
def Io (a:R) (f:Po R):dP (num a*f)=num a*dP f:=C_ λk=>by
 rw [D_];show nR (k+1)*(num a*f).c (k+1)=a*(nR (k+1)*f.c (k+1));rw [D_];ext
theorem Sg (f:Po R):dP (X*f)=f+X*dP f:=C_ λk=>by
 rw [C8];show nR (k+1)*(X*f).c (k+1)=_;rw [Ed];cases k with
 | zero=>rw [FD,show (nR (0+1):R)=1 by grind];ext
 | succ k=>rw [Ed];show _=f.c (k+1)+nR (k+1)*f.c (k+1);rw [show (nR (k+1+1):R)=nR (k+1)+1 by grind];ext
def uD:dP (0:Po R)=0:=C_ λk=>by rw [CI];show nR (k+1)*(0:Po R).c (k+1)=0;rw [CI];ext
def Si (a:R):dP (num a)=0:=C_ λk=>by
 rw [CI];show nR (k+1)*(if k+1=0 then a else 0)=0;rw [nB `a];ext
def GX (f g:Po R):dP (f*g)=dP f*g+f*dP g:=by
 refine bO (P:=λf=>dP (f*g)=dP f*g+f*dP g) ?_ (λa f b=>?_) f
 .show dP (0*g)=dP 0*g+0*dP g;rw [show 0*g=0 by ext,uD];ext
 .show dP ((num a+X*f)*g)=dP (num a+X*f)*g+(num a+X*f)*dP g;rw [show (num a+X*f)*g=num a*g+X*(f*g) by ext,Sf,Sf,Io,Sg,Sg,Si,b];ext
def uE {f:Po R} (h:Co f (dP f)):Sqf f:=λa b e=>by
 let {u,v,h}:=h;rw [e,GX] at h;exact {u*b+v*dP b,v*dP a,by rw [<-h];ext}
def Sqf.dv {f g:Po R} (h:Sqf f) (d:Dv g f):Sqf g:=λa b e=>by
 let {q,c}:=d;let {u,v,w}:=h a (b*q) (by rw [c,e];ext);exact {u,v*q,by rw [<-w];ext}
def Sqf.num {f:Po R} (h:Sqf f) {i c:R} (e:i*c=1):Sqf (Po.num i*f):=h.dv {Po.num c,by
 rw [show Po.num i*f*Po.num c=(Po.num i*Po.num c)*f by ext,<-BV,e,<-one_eq];ext}
end
def KZ (ns:cY):ro (dI ns)=dP (ro ns):=C_ λk=>by
 show co (dI ns) k=nR (k+1)*co ns (k+1);exact KM ns k
def uF (m:Int) (f:Po Int):md m (dP f)=dP (md m f):=C_ λk=>by
 show Zm.of m (nR (k+1)*f.c (k+1))=nR (k+1)*Zm.of m (f.c (k+1));rw [Zm.of_mul];have:Zm.of m (nR (k+1))=nR (k+1):=(hz m).nat (k+1);rw [this]
def uG (m:Int) (ns:cY):mr m (dI ns)=dP (mr m ns):=by unfold mr;rw [KZ,uF]
def Sm.sqf {p:Int} {ns:cY} (h:Sm p ns):Sqf (mr p ns):=uE (by have:=h.2;rw [uG] at this;exact this)
def NB {p:Nat} (hp:Pr p) {ns:cY} (h:¬ (p:Int)∣lst' ns) (l:0<@ns):∃ i c:Zm (p:Int),i*c=1/\c=Zm.of p (lst' ns)/\Mn (num i*mr p ns) (@ns - 1):=by
 let {i,a}:=(Ey hp).inv (Zm.of p (lst' ns)) λz=>h (Zm.of_zero.mp z);exact {i,_,a,2,by rw [D_];exact a,λk hk=>by rw [D_,HV _ _ k `a];ext}
end
section
open Po
def GY {p:Nat} (h:p<=4000):Bd 12 (p:Int):=by
 unfold Bd;rw [Ck];have:(2:Nat) ^ 12=4096:=by decide
 omega
theorem Ka {a:cY} (h:@a=1) (t:co a (@a - 1)=1):a=[1]:=by
 match a,h with
 | [v],_=>rw [show v=1 from t]
def Sj {p:Nat} (F:Fl (Zm (p:Int))) {a:cY} (M:Mp (p:Int) a) {f g:Po (Zm (p:Int))} (b:Dv (mr p a) f) (d:Dv (mr p a) g) (c:Co f g):@a=1:=by
 refine Classical.byContradiction λz=>?_;have:=M.pos;let {u,v,e}:=c;have:Dv (mr p a) (num 1):=by rw [<-one_eq,<-e];exact (b.mulL u).add (d.mulL v)
 exact F.dom.one (FE M.mn `a this)
def HX (p:Int):mr p [1]=1:=by rw [uB,one_eq];rfl
def uH (h:J8 K vs H Q E):Zb K (eC Q) (L2.start ["row","prime"] vs) H:=by
 let {a,b,p,rfl,f,hp,y,m,S,A,k}:=h;let T:=hp.two;let F:=Ey hp;let B:M' (~~~b) (-1)=some (V.int (lst' b)):=FK m.1;refine BT {4,5,f,B,8,`a,2,1,Ab (λc=>?_) (λc=>?_)}
 .let c:(!decide (V.int (lst' b % (p:Int))=V.int 0))=true:=c
  let g:¬ (p:Int)∣lst' b:=λz=>by
   rw [Fw z] at c;cases c
  let {i,U,W,_,C}:=NB hp g m.1;let j:¬ (p:Int)∣co b (@b - 1):=g;refine AZ (Ds (C7 {1,B7 {1,a,b,1000,2,f,`a,A,`b,λr X n D=>{1,a,r,b,dI b,p,2,n _ _ f,D,hp,(GY y).mono `b,`a,by unfold dI;rw [AI,Bg];omega,.inl ⟨_,j⟩,λs o G I J L _ d N O P R=>?_}}}));refine {s,1,J,2,k _ G (n.trans I) ?_};rw [AI];let M:Mp (p:Int) o:=⟨L,d,N⟩;constructor
  .intro e
   let e:@o=1:=by
    have:=nF e;injection this with this;omega
   let {u,v,w}:=Se F C O;rw [Ka e d,HX] at w;exact ⟨g,u,v,w.symm⟩
  .rintro ⟨_,c⟩;rw [Sj F M (Im P) (Im R) c];rfl
 .refine k false H (Same.refl H) {(by intro z;cases z),λz=>?_};refine absurd (FP ?_) z.1
  exact Classical.byContradiction λw=>c (by
   show (!decide (V.int (lst' b % (p:Int))=V.int 0))=true;rw [nG λq=>w (by injection q)];rfl)
end
section
open Po
def au {m:Int} {ns e d f:cY} (h:Md m f λk=>co ns k - cvL d (co e) k) (m1:0<@e) (mt:co e (@e - 1)=1) (o:@f<@e) (i:Tz d) (g:∀ z∈d,0<=z/\z<m):d=[]\/@d+@e<=@ns+1:=by
 rcases i with z | z
 .exact .inl z
 .refine .inr (Classical.byContradiction λc=>z ?_);let j:0<@d:=Nat.pos_of_ne_zero λw=>z (by rw [B5.mp w];rfl);let w:m∣co f (@d - 1+(@e - 1)) - (co ns (@d - 1+(@e - 1)) - cvL d (co e) (@d - 1+(@e - 1))):=h.2 (@d - 1+(@e - 1));rw [AX (a:=f) `a,AX (a:=ns) `a,CV,GM ((Cn d).mono `a) ((Cn e).mono `a)] at w;let w:m∣0 - (0 - co d (@d - 1)*co e (@e - 1)):=w;rw [mt,Int.mul_one,Int.zero_sub,Int.zero_sub,Int.neg_neg] at w;let n:0<m:=by have:=g _ (CN (show 0<@d from j));omega
  let b:=M6 n g (@d - 1);have:=Fw w;rw [Int.emod_eq_of_lt b.1 b.2] at this;exact this
def Sk {m:Int} {ns:cY} (h:∀ z∈ns,0<=z/\z<m) (a:0<m) {k:Nat} (n:co ns k≠0):¬ m∣co ns k:=λw=>by
 let b:=M6 a h k;have:=Fw w;rw [Int.emod_eq_of_lt b.1 b.2] at this;exact n this
def NC {m:Int} {ns:cY} (h:∀ z∈ns,0<=z/\z<m) (m2:1<m) {k:Nat} (n:m∣co ns k - 1):co ns k=1:=by
 let b:=M6 `a h k;let {x,a}:=n;let e:co ns k=1+m*x:=by omega
 have:co ns k % m=1 % m:=by rw [e,Int.add_mul_emod_self_left]
 rw [Int.emod_eq_of_lt b.1 b.2,Int.emod_eq_of_lt `b `a] at this;exact this
def uI {ns:cY} (h:Tz ns) (n:ns≠[]):co ns (@ns - 1)≠0:=h.resolve_left n
def ND {ns:cY} {k:Nat} (h:co ns k≠0):k<@ns:=Classical.byContradiction λc=>h (AX `a)
theorem Ip (f:Int->Int) (h:f 0=0) (ns:cY) (k:Nat):co (ns.map f) k=f (co ns k):=by
 unfold co;rw [AN,AN,Ah];cases ns[k]? with
 | none=>exact h.symm
 | some v=>rfl
def Sl {m f:Int} {ns a:cY} (h:Md m a (co (ns.map (·*f)))):mr m a=num (Zm.of m f)*mr m ns:=KY (f:=f) {h.1,λk=>by
 have:=h.2 k;rw [Ip (·*f) (by simp)] at this;show m∣co a k - f*co ns k;rw [Cs f];exact this}
def NE {ns a b:cY} (e:∀ k,co b k=1*co ns k - 1*Aw 0 (co a) k):ro b=ro ns - ro a:=C_ λk=>by
 rw [Ec];show co b k=co ns k - co a k;rw [e k];unfold Aw;rw [nC (AV _),D1];omega
def uJ (h:MS K vs H Q E):Y7 K (eC Q) (L2.start ["row","divisor","prime","one","other","one_weight","other_weight","factor","parted","weight"] vs) H:=by
 let {a,b,R,T,p,rfl,ha,hb,hp,p4,M,d2,d9,bu,cc,k}:=h;let pp:=hp.two;let F:=Ey hp;let C:=GY p4;let p0:(0:Int)<p:=by omega
 refine {1,?_};show Qo K _ _ _;refine G4 {4,1,a,b,R,T,(p:Int),12,2,ha,hb,M.pos,M.top,p0,C,B9 C M.rg,`b,`a,`a,λd us rs H1 s1 hd tz rl md=>?_};let e1:=Ef md;refine AY {SQ,λe he=>?_};let s2:=AO he (.lst []);let a4:=s2 _ _ hd;let a5:upd H1 e (.lst []) e=some (HO.lst (([]:cY).map V.int)):=upd_same;generalize upd H1 e (.lst [])=H2 at s2 a4 a5 ⊢;refine AY (Cb (I_ {Bi,λg hg=>?_}));let s3:=AO hg (.lst [.int 1]);let a6:=s3 _ _ a4;let a7:=s3 _ _ a5;let a8:upd H2 g (.lst [.int 1]) g=some (HO.lst ([(1:Int)].map V.int)):=upd_same;let U:=(s1.trans s2).trans s3;generalize upd H2 g (.lst [.int 1])=H3 at s3 a6 a8 U a7 ⊢;refine while_by (λm σ N=>∃ (o1 o2 w1 w2:Addr) (D j O I:cY) (x7 x8 x9:cX),σ=[↥a,↥b,some (.int (p:Int)),↥o1,↥o2,↥w1,↥w2,x7,x8,x9]/\Same H N/\N o1^^^(~~~D)/\N o2^^^(~~~j)/\N w1^^^(~~~O)/\N w2^^^(~~~I)/\Mp p D/\2<=@D/\@D<=9/\Tz j/\(∀ z∈j,0<=z/\z<(p:Int))/\@j<@D/\(∀ z∈O,0<=z/\z<(p:Int))/\(∀ z∈I,0<=z/\z<(p:Int))/\@I+@D<=@T+1/\@O+@j<=@T+1/\Co (mr p D) (mr p j)/\Dv (mr p T) (mr p O*mr p R - mr p D)/\Dv (mr p T) (mr p I*mr p R - mr p j)/\m=@j) _ {b,d,e,g,T,rs,[],[1],9,1,U,U _ _ hb,a6,a7,a8,M,d2,d9,tz,md.1,rl,(λ_ z=>nomatch z),?_,by show 1+_<=_;omega,by show 0+_<=_;omega,?_,?_,?_,2} ?_
 .intro z hz;rw [Ap.mp hz];omega
 .let {u,v,w}:=cc;exact {v+u*mr p us,u,by rw [<-w,e1];ext}
 .refine {-1,?_};have:mr p []=0:=by unfold mr;rw [Ft,(CJ _).zero]
  rw [this];ext
 .exact {mr p us,by rw [HX,e1];ext}
 rintro m σ N ⟨o1,o2,w1,w2,D,j,O,I,x7,x8,x9,rfl,s4,h1,h2,h3,h4,M1,l1,bv,t2,r2,l2,b5,b9,n1,n2,c,ba,bb,rfl⟩
 let ab:j≠[]:=λz=>by
  let e0:mr p j=0:=by rw [z];unfold mr;rw [Ft,(CJ _).zero]
  let {u,v,w}:=c;rw [e0] at w;have:Dv (mr p D) (num 1):={u,by rw [<-one_eq,<-w];ext};exact F.dom.one (FE M1.mn `a this)
 let l0:0<@j:=DE.mpr ab;let t0:=uI t2 ab;refine {1,Ab (λ_=>?_) (λz=>absurd rfl z)};refine {_,λ_ _ h=>h,?_};refine Lj {4,5,h2,FK l0,1,_,(p:Int),2,`a,C.mono `b,λf f0 fp hf=>?_};let hf:=hf (by rw [Int.gcd_comm];exact KP hp (Sk r2 p0 t0));let bf:Bd 12 f:=C.le `a;let b2:=B9 C r2;let bc:=B9 C b9;refine AY (Ae (DY {1,o2,2,{_,SqL.of h2},Ie (·*f) h2 `a (λn hn P hP=>{4,3,CK (b2 n hn) bf,hP}) λr hr=>?_}));let s5:=AO hr (.lst ((j.map (·*f)).map V.int));let ac:upd N r (.lst ((j.map (·*f)).map V.int)) r=_:=upd_same;let af:=s5 _ _ h1;let aj:=s5 _ _ h3;let al:=s5 _ _ h4;generalize upd N r (.lst ((j.map (·*f)).map V.int))=H5 at s5 ac af aj al ⊢;refine {1,r,j.map (·*f),(p:Int),2,ac,p0,by rw [AI];omega,λo os H6 s6 ho bw lo S=>?_};rw [AI] at lo;let eo:=Sl S
 let ot:co os (@j - 1)=1:=NC S.1 `a (by
  have:=S.2 (@j - 1);rw [Ip (·*f) (by simp)] at this;rw [Cs f] at hf;exact vH this hf)
 let ol:@os=@j:=by
  have:=ND (k:=@j - 1) (ns:=os) (by rw [ot];decide);omega
 let W:Mp p os:={`a,by rw [ol];exact ot,S.1};let bd:=s6 _ _ af;let bg:=s6 _ _ aj;let am:=s6 _ _ al;refine AY (Ae (DY {1,w2,2,{_,SqL.of am},Ie (·*f) am `a (λn hn P hP=>{4,3,CK (bc n hn) bf,hP}) λr' bh=>?_}));let s7:=AO bh (.lst ((I.map (·*f)).map V.int));let an:upd H6 r' (.lst ((I.map (·*f)).map V.int)) r'=_:=upd_same;let ao:=s7 _ _ bd;let ap:=s7 _ _ bg;let ar:=s7 _ _ ho;generalize upd H6 r' (.lst ((I.map (·*f)).map V.int))=H7 at s7 an ao ap ar ⊢;refine {1,r',I.map (·*f),(p:Int),2,an,p0,by rw [AI];omega,λw G H8 s8 hw bx lw J=>?_};rw [AI] at lw;let ew:=Sl J;let bi:=s8 _ _ ao;let bj:=s8 _ _ ap;let X:=s8 _ _ ar;let S8:=(((s4.trans s5).trans s6).trans s7).trans s8
 let B:Dv (mr p T) (mr p G*mr p R - mr p os):=by
  have:=bb.mulL (num (Zm.of p f));rw [show num (Zm.of p f)*(mr p I*mr p R - mr p j)=num (Zm.of p f)*mr p I*mr p R - num (Zm.of p f)*mr p j by ext,<-ew,<-eo] at this;exact this
 refine DN (B8 {1,6,X,2,1,Ab (λz=>?_) (λz=>?_)})
 .let z:=nF z;injection z with z;rw [AI] at z;let e1:os=[1]:=Ka `a W.top;rw [e1,HX] at B;exact {1,k w G H8 S8 hw `a J.1 B}
 let z1:@os≠1:=λq=>z (by rw [AI,q];rfl);show Qn K _ _ _;refine G4 {4,1,o1,o,D,os,(p:Int),12,2,bi,X,W.pos,W.top,p0,C,B9 C W.rg,`b,`a,`a,λt x y A Y H9 s9 ht hx hy tx ty b0 Z rx=>?_};let e2:=Ef Z;let ql:=au Z W.pos W.top b0 tx rx
 let ql:@A+@os<=@D+1:=by
  rcases ql with q | q
  .rw [q];show 0+_<=_;omega
  .exact q
 let bk:=s9 _ _ bj;let b1:=s9 _ _ hw;let bl:=s9 _ _ X;refine AY (Ae (IG {1,Ae (GK rfl ht rfl {1,x,w,A,G,12,12,2,hx,b1,B9 C rx,B9 C J.1,`b,`b,`a,`a,λq bm b3 hq=>?_})}));let bn:bm q^^^((rT A G).map V.int):=hq
 let bT:∀ z∈rT A G,Bd 60000000 z:=by
  unfold rT;split
  .exact λ_ z=>nomatch z
  .intro z hz;let {i,_,rfl}:=Am.mp hz;exact (LW (B9 C rx) (B9 C J.1) @A i).mono `a
 let lT:=Ik A G;refine ⟨w1,q,O,rT A G,1,1,0,rfl,b3 _ _ bk,bn,`a,`a,bd1 _ `b,bd1 _ `b,λz hz=>(B9 C b5 z hz).mono `b,bT,λy2 a0 bz bq br bs e3=>?_⟩;let er:=NE e3
 let nn:∀ k,@T+1 - @os<=k->co a0 k=0:=λk hk=>by
  have:co a0 k=co O k - co (rT A G) k:=by
   rw [e3 k];unfold Aw;rw [nC (AV _),D1];omega
  rw [this,AX (a:=O) `a,ST,Dr (n:=@G) (λi hi=>AX hi) A k `a];rfl
 let l3:=HS bs _ nn;refine {1,y2,a0,(p:Int),2,br,p0,`a,λv a3 c0 bt hv c1 lv b4=>?_};let ev:=Sa b4
 let ev:mr p a3=mr p O - mr p A*mr p G:=by
  rw [ev];unfold mr;rw [er,(CJ _).sub,Il,(CJ _).mul]
 let L:=(b3.trans bq).trans bt;refine {1,?_};refine AY (GK rfl (L _ _ ht) rfl ?_);refine {4,@Y,`a,o,y,w,v,os,Y,G,a3,9,1,(S8.trans s9).trans L,L _ _ bl,L _ _ hy,L _ _ b1,hv,W,`a,`a,ty,Z.1,b0,J.1,b4.1,`a,`a,?_,B,?_,2}
 .let {u,v,w}:=c
  let {i,hi}:=F.inv (Zm.of p f) λz=>by
   let z:=Zm.of_zero.mp z
   have:(p:Int)∣1:=by
    let {x,hx}:=hf;let {y,hy}:=z;exact {y*co j (@j - 1) - x,by rw [Int.mul_sub,<-hx,<-Int.mul_assoc,<-hy];omega}
   have:=Ej `b this;omega
  let e5:mr p j=num i*mr p os:=by
   rw [eo,show num i*(num (Zm.of p f)*mr p j)=(num i*num (Zm.of p f))*mr p j by ext,<-BV,hi,<-one_eq];ext
  exact {u*mr p A+v*num i,u,by rw [<-w,e5,e2];ext}
 .have:=ba.sub (B.mulL (mr p A));rw [show mr p O*mr p R - mr p D - mr p A*(mr p G*mr p R - mr p os)=mr p a3*mr p R - mr p Y by rw [ev,e2];grind] at this;exact this
end
section
open Po
section
variable {R:Type} [Lean.Grind.CommRing R]
def hens {c f Q w x y W a i m b d g h f' j:R} (r:w*Q=1+f*x+c*y) (k:a=Q+c*i) (n:W=a*f+c*b+c*c*m)
  (u:c*b*w=c*d*f+c*g+c*c*h) (o:f'=f+c*g+c*c*j) :
  ∃ e,W=(a - c*b*x+c*d*a)*f'+c*c*e:=by
 refine {m - a*j - b*(y+i*w)+h*a+(g+c*j)*(b*x - d*a),?_};let p:w*a=1+f*x+c*(y+i*w):=by rw [k];ext
 let q:c*g*a=c*b*(w*a) - c*d*f*a - c*c*h*a:=by
  have:c*g=c*b*w - c*d*f - c*c*h:=by ext
  rw [this];ext
 rw [p] at q;rw [n,o];ext
def uK {c f' d w x y s a f w' b e:R} (h:w*d=1+f'*x+c*y) (o:d*w=a*f'+s+c*c*f) (i:w*(2 - s)=b*f'+w'+c*c*e) :
  ∃ j k,w'*d=1+f'*j+c*c*k:=by
 let m:s=1+f'*x+c*y - a*f' - c*c*f:=by ext
 let n:w'=w*(2 - s) - b*f' - c*c*e:=by ext
 let g:w'*d=(w*d)*(2 - s) - b*f'*d - c*c*e*d:=by rw [n];ext
 rw [h,m] at g;refine {- x*(f'*x+c*y) - x*c*y+a*(1+f'*x+c*y) - b*d,f*(1+f'*x+c*y) - e*d - y*y,?_};rw [g];ext
def rg1 {W a f' q2 c t E:R} (b:W=a*f'+c*c*E) (d:q2=a+c*c*t):W=q2*f'+c*c*(E - t*f'):=by rw [b,d];ext
def rg2 {A W q2 f' c E a lead T:R} (b:lead*W=A+c*c*(T*A+lead*a)) (d:W=q2*f'+c*c*E):A=lead*q2*f'+c*c*(lead*E - lead*a - T*A):=by
 rw [d] at b;ext
end
def Iq {m:Int} {f a b r:Po (Zm m)} {d:Nat} (c:Mn f d) (e:a*f=b*f+r) (g:Bn r d):a=b/\r=0:=by
 let z:=c.uniq (q:=a - b) (by rw [show (a - b)*f=r by grind];exact g);let h:a=b:=by ext
 exact {h,by rw [h] at e;ext}
def NF {M N:Int} (h:M∣N) (a:M≠0) (b:N≠0) {f g:Po Int} (e:md N f=md N g):md M f=md M g:=by
 let {x,d}:=(Cd b).mp e;let {c,rfl}:=h;exact (Cd a).mpr {num c*x,by rw [d,BV];ext}
def LI (M lead:Int) (A f w:Po Int):Prop:=∃ Q x y e:Po Int,A=num lead*Q*f+num M*e/\w*Q=1+f*x+num M*y
def uL {M lead U:Int} (M2:2<=M) {A f w W q1 r z m f' q2 r2 a s b w':Po Int} {d:Nat} (I:LI M lead A f w) (hf:Mn f d)
  (hU:M*M∣U*lead - 1) (hW:md (M*M) W=num (Zm.of (M*M) U)*md (M*M) A) (hr:md (M*M) W=md (M*M) q1*md (M*M) f+md (M*M) r) (br:Bn r d)
  (hm:md (M*M) (r*w)=md (M*M) z*md (M*M) f+md (M*M) m) (bm:Bn m d) (S:md (M*M) f'=md (M*M) (f+m)) (T:Mn f' d)
  (hq:md (M*M) W=md (M*M) q2*md (M*M) f'+md (M*M) r2) (X:Bn r2 d) (hs:md (M*M) (q2*w)=md (M*M) a*md (M*M) f'+md (M*M) s)
  (Y:md (M*M) (w*(2 - s))=md (M*M) b*md (M*M) f'+md (M*M) w'):LI (M*M) lead A f' w'/\md M f'=md M f:=by
 let {Q,x,y,e,hA,hw}:=I;let c:M≠0:=by omega
 let g:M*M≠0:=Bo c c;let dN:M∣M*M:=⟨M,rfl⟩;let P:=CJ M;let N:=CJ (M*M);let h:num (M*M)=num M*num M:=BV M M;let W1:md (M*M) W=md (M*M) (num U*A):=by rw [hW,N.mul,GW]
 let {u,n}:=(Cd g).mp W1;let {t,ht}:=hU
 let W2:md M W=md M Q*md M f:=by
  rw [<-P.mul];refine (Cd c).mpr {num M*u+num U*e+num (M*t)*Q*f,?_}
  let o:num U*num lead=1+num M*num (M*t):=by
   rw [<-BV,<-BV,one_eq,<-Jl];congr 1;rw [<-Int.mul_assoc];omega
  rw [n,hA,h,show num U*(num lead*Q*f+num M*e)=(num U*num lead)*Q*f+num U*num M*e by ext,o];ext
 let v:=hf.map (hz M)
 let r1:md M W=md M q1*md M f+md M r:=by
  rw [<-P.mul,<-P.add];exact NF dN c g (by rw [hr,N.add,N.mul])
 let {a1,a2}:=Iq v (W2.symm.trans r1) (br.map (hz M));let {B,C}:=(Cd c).mp a1.symm;let a2:md M r=md M 0:=by rw [P.zero];exact a2
 let {D,i}:=(Cd c).mp a2;let i:r=num M*D:=by rw [i];ext
 let m1:md M 0*md M f=md M z*md M f+md M m:=by
  have:=NF dN c g (show md (M*M) (r*w)=md (M*M) (z*f+m) by rw [hm,N.add,N.mul]);rw [P.mul,a2,P.add,P.mul] at this;rw [<-this,P.zero];ext
 let {b1,Z}:=Iq v m1 (bm.map (hz M));let {F,p}:=(Cd c).mp b1.symm;let p:z=num M*F:=by rw [p];ext
 let Z:md M m=md M 0:=by rw [P.zero];exact Z
 let {m',j}:=(Cd c).mp Z;let j:m=num M*m':=by rw [j];ext
 let {e1,G}:=(Cd g).mp (show md (M*M) W=md (M*M) (q1*f+r) by rw [hr,N.add,N.mul]);let {e2,J}:=(Cd g).mp (show md (M*M) (r*w)=md (M*M) (z*f+m) by rw [hm,N.add,N.mul]);let {e3,k}:=(Cd g).mp S;rw [h,i] at G;rw [h,i,p,j] at J;rw [h,j] at k;let {E,hE}:=hens hw C G J k
 let of:md M f'=md M f:=by
  refine (Cd c).mpr {m'+num M*e3,?_};rw [k];ext
 generalize a0:q1 - num M*D*x+num M*F*q1=Q2 at hE
 let w2:md (M*M) W=md (M*M) Q2*md (M*M) f':=by
  rw [<-N.mul];exact (Cd g).mpr {E,by rw [h];exact hE}
 let {c1,c2}:=Iq (T.map (hz _)) (w2.symm.trans hq) (X.map (hz _));let {L,q}:=(Cd g).mp c1.symm;rw [h] at q;let {e4,O}:=(Cd g).mp (show md (M*M) (q2*w)=md (M*M) (a*f'+s) by rw [hs,N.add,N.mul]);let {e5,R}:=(Cd g).mp (show md (M*M) (w*(2 - s))=md (M*M) (b*f'+w') by rw [Y,N.add,N.mul]);rw [h] at O R
 let a3:w*q2=1+f'*x+num M*(y+B*w - w*D*x+w*F*q1+w*num M*L - m'*x - num M*e3*x):=by
  rw [q,<-a0,C,show w*(Q+num M*B - num M*D*x+num M*F*(Q+num M*B)+num M*num M*L)=w*Q+num M*(B*w - w*D*x+w*F*(Q+num M*B)+w*num M*L) by ext,hw,k];ext
 let {x',y',hx}:=uK a3 O R;refine {{q2,x',y',?_},of};let a4:W=q2*f'+num M*num M*(E - L*f'):=rg1 hE q
 let o:num U*num lead=1+num M*num M*num t:=by
  rw [<-BV,<-BV,<-BV,one_eq,<-Jl];congr 1;omega
 refine {num lead*(E - L*f') - num lead*u - num t*A,?_,by rw [h];exact hx};rw [h] at n ⊢
 let h5:num lead*W=A+num M*num M*(num t*A+num lead*u):=by
  rw [n,show num lead*(num U*A+num M*num M*u)=(num U*num lead)*A+num lead*(num M*num M*u) by ext,o];ext
 exact rg2 h5 a4
end
section
open Po
def Sn (p j:Nat):((p ^ j:Nat):Int)=(p:Int) ^ j:=Int.natCast_pow p j
def So {l:cY} {n:Nat} (h:@l<=n):Bn (ro l) n:=(Cn l).mono h
def Lf.of {p:Nat} {j:Nat} {lead:Int} {A w:Po Int} {b a:cY} (I:LI ((p ^ j:Nat):Int) lead A (ro a) w) (M:Mp ((p ^ j:Nat):Int) a) (e:md p (ro a)=mr p b) (l:@a=@b):Lf p ((p:Int) ^ j) A (mr p b) (@b - 1) (ro a):=by
 rw [<-Sn];refine {by rw [<-l];exact M.nmn,e,?_};let {Q,x,y,e,c,_}:=I;let N:=CJ ((p ^ j:Nat):Int);refine {md _ (num lead*Q),?_}
 let z:md ((p ^ j:Nat):Int) (num ((p ^ j:Nat):Int))=0:=by
  rw [GW,Zm.of_zero.mpr ⟨1,`a⟩,Fi]
 rw [c,N.add,N.mul (num _) e,z,N.mul];ext
def uM (h:J9 K vs H Q E):ZH K (eC Q) (L2.start ["row","factor","prime","floor","modulus","quotient","weight","whole","rest","more","spare"] vs) H:=by
 let {a,b,B,J,F,p,rfl,ha,hb,hp,p4,lz,l9,bn,nl,Mf,f2,f9,ao,bt,F0,bF,k}:=h;let pp:=hp.two;let p0:(0:Int)<p:=by omega
 let ap:B≠[]:=DE.mp lz.1;let ar:∀ z∈B,Bd 60000000 z:=λz hz=>(bn z hz).mono `b;let bp:=GY p4;generalize af:lst' B=n at nl;let Y:co B (@B - 1)=n:=af;refine {1,?_};show Qr K _ _ _;refine AY (AZ (C7 (Ae {4,a,B,p,2,ha,pp,bp.mono `b,`a,ar,λ_=>by rw [Y,Int.gcd_comm];exact KP hp nl,λr1 ms f H1 s1 h1 l1 o1 O=>?_})));let o1:=o1 ap
 let hf:(p:Int)∣f*n - 1:=by
  let this:(p:Int)∣co ms (@ms - 1) - f*co B (@ms - 1):=O.2 _;rw [o1,l1,Y] at this;exact M8 this
 let em:=KY O;let b0:=s1 _ _ hb;refine {4,r1,b,ms,J,(p:Int),12,2,h1,b0,Mf.pos,Mf.top,p0,bp,B9 bp Mf.rg,`b,`a,`a,λt r d L rs H2 s2 ht hr hd tq tr rl Z hq=>?_};let e2:=Ef Z
 let ql:@L+@J<=@B+1:=by
  rcases au Z Mf.pos Mf.top rl tq hq with q | q
  .rw [q];show 0+_<=_;have:=Classical.byContradiction λc:¬ @J<=@B+1=>(by
    let {x,hx}:=ao;let u:=Mf.mn.uniq (q:=x) (by rw [show x*mr p J=mr p B by rw [hx];grind];exact (HV _ B).mono `a);let z:(mr p B).c (@B - 1)=0:=by rw [hx,u,show mr p J*0=0 by ext,CI]
    let z:Zm.of (p:Int) (co B (@B - 1))=0:=z;rw [Y] at z;exact nl (Zm.of_zero.mp z):False)
   omega
  .omega
 let e3:mr p ms=mr p L*mr p J:=by
  let {x,hx}:=ao;have:=Iq (a:=num (Zm.of p f)*x) (b:=mr p L) Mf.mn (r:=mr p rs) (by rw [<-e2,em,hx];ext) ((HV _ rs).mono `a);rw [e2,this.2];ext
 let bx:Zm.of p n*Zm.of p f=1:=by
  rw [<-Zm.of_mul];exact Zm.of_eq.mpr (by rw [Cs];exact hf)
 let e4:mr p B=num (Zm.of p n)*mr p L*mr p J:=by
  have:num (Zm.of p n)*mr p ms=mr p B:=by
   rw [em,show num (Zm.of p n)*(num (Zm.of p f)*mr p B)=(num (Zm.of p n)*num (Zm.of p f))*mr p B by ext,<-BV,bx,<-one_eq];ext
  rw [<-this,e3];ext
 refine {5,ht,2,?_};let a0:=s2 _ _ b0;refine G4 {4,1,r,b,L,J,p,2,hr,a0,hp,p4,Mf,f2,f9,`a,?_,λg C H3 s3 hg wl wr hw=>?_}
 .let {u,v,w}:=bt _ _ e4;exact {u*num (Zm.of p n),v,by rw [<-w];ext}
 let bz:=(s1.trans s2).trans s3;let c0:=s3 _ _ a0;let ep:(p:Int)=((p ^ 1:Nat):Int):=by rw [Nat.pow_one]
 let c1:Bd 800 (F*F):=bF.mul bF;let pz:(p:Int)≠0:=by omega
 let I0:LI (p:Int) n (ro B) (ro J) (ro C):=by
  let P:=CJ (p:Int);let {x,hx}:=hw;let {x,rfl}:=HI x;let {e,he}:=(Cd pz).mp (show md p (ro B)=md p (num n*ro L*ro J) by rw [P.mul,P.mul,GW];exact e4)
  let {y,hy}:=(Cd pz).mp (show md p (ro C*ro L)=md p (1+ro J*x) by
   rw [P.mul,P.add,P.mul,P.one];let hx:mr p C*mr p L - 1=mr p J*md p x:=hx;have:mr p C*mr p L=1+mr p J*md p x:=by ext
   exact this)
  exact {ro L,x,y,e,he,hy}
 refine while_by (λm σ H'=>∃ (b' g:Addr) (D C:cY) (j i:Nat) (o5 o7 o8 o9 aj:cX),σ=[↥a,↥b',some (.int (p:Int)),some (.int F),some (.int ((p ^ j:Nat):Int)),o5,↥g,o7,o8,o9,aj]/\Same H H'/\H' b'^^^(~~~D)/\H' g^^^(~~~C)/\@D=@J/\Mp ((p ^ j:Nat):Int) D/\@C<=9/\(∀ z∈C,Bd 850 z)/\j=2 ^ i/\(∀ i',i'<i->((p ^ 2 ^ i':Nat):Int)<=F)/\md p (ro D)=mr p J/\LI ((p ^ j:Nat):Int) n (ro B) (ro D) (ro C)/\Bd 850 ((p ^ j:Nat):Int)/\m=(F+1 - ((p ^ j:Nat):Int)).toNat) _ ⟨b,g,J,C,1,0,_,_,_,_,_,by rw [<-ep];rfl,bz,c0,hg,rfl,by rw [<-ep];exact Mf,wl,λz hz=>(B9 bp wr z hz).mono `b,rfl,(λi' z=>absurd z (Bk _)),rfl,by rw [<-ep];exact I0,by rw [<-ep];exact bp.mono `b,rfl⟩ ?_;rintro m σ H' ⟨b',g,D,C,j,i,o5,o7,o8,o9,aj,rfl,s4,b1,c2,ul,Mu,wl,bw,ji,jF,ov,I,bM,rfl⟩;let j1:1<=j:=by rw [ji];exact Nat.one_le_two_pow
 let M2:2<=p ^ j:=BW pp (by
  have:=C2 (show 0<p by omega) j1;rw [Nat.pow_one] at this;exact this)
 let bu:=B9 bM Mu.rg
 let dp:(p:Int)∣((p ^ j:Nat):Int):=by
  let {i,hi}:∃ i,j=i+1:={j - 1,`a};rw [hi,Cg];push_cast;exact Int.dvd_mul_left ..
 refine {4,3,1,Ab (λcc=>?_) (λcc=>?_)}
 .let cc:((p ^ j:Nat):Int)<=F:=nF cc;refine {_,λ_ _ h=>h,?_};let T:((p ^ j:Nat):Int)*((p ^ j:Nat):Int)=((p ^ (j+j):Nat):Int):=by rw [Nat.pow_add];push_cast;rfl
  let o:Bd 850 ((p ^ (j+j):Nat):Int):=by
   rw [<-T];refine (c1.mono `b).le ?_;rw [BK,BK];exact EM `a `a
  refine {4,3,CK bM bM,?_};show Qp K _ [↥a,↥b',some (.int (p:Int)),some (.int F),some (.int (((p ^ j:Nat):Int)*((p ^ j:Nat):Int))),o5,↥g,o7,o8,o9,aj] H';let c4:2<=p ^ (j+j):=BW M2 (C2 `a `a);rw [T];refine Lj {4,a,B,p ^ (j+j),2,s4 _ _ ha,c4,o.mono `b,`a,ar,λ_=>by rw [Y,Int.gcd_comm];exact My hp nl (j+j),λr1 wh U H1 s1 al l1 o1 O=>?_};let o1:=o1 ap
  let hU:((p ^ (j+j):Nat):Int)∣U*n - 1:=by
   let this:((p ^ (j+j):Nat):Int)∣co wh (@wh - 1) - U*co B (@wh - 1):=O.2 _;rw [o1,l1,Y] at this;exact M8 this
  let M0:(0:Int)<((p ^ (j+j):Nat):Int):=by omega
  let gM:(2:Int)<=((p ^ j:Nat):Int):=by omega
  let N2:(1:Int)<((p ^ (j+j):Nat):Int):=by omega
  generalize a3:((p ^ (j+j):Nat):Int)=N at o hU M0 O T N2 ⊢;let ew:=KY O;let b3:=s1 _ _ b1;let b4:=s1 _ _ c2;refine G4 {4,1,r1,b',wh,D,N,850,2,al,b3,Mu.pos,Mu.top,M0,o,bu,`b,`a,`a,λd c5 a6 H2 s2 hd dj c8 Z=>?_};let er:=Ef Z;let cb:=s2 _ _ b3;let cd:=s2 _ _ b4;let dk:=s2 _ _ al;let b9:=B9 o Z.1;refine AY (C7 (Ae {4,d,g,a6,C,850,850,2,hd,cd,b9,bw,`b,`b,`a,`a,λx H3 s3 hx=>?_}));let ba:=s3 _ _ cb;refine {4,x,b',rT a6 C,D,N,850,2,hx,ba,Mu.pos,Mu.top,M0,o,bu,`b,by have:=Ik a6 C;omega,`a,λd2 ce R H4 bb cf dm ch bc=>?_};let ci:=Ef bc;let cj:=bb _ _ ba;let bd:=B9 o bc.1;refine AY (Ae (IG ⟨_,rfl,_,rfl,_,rfl,b',d2,D,R,1,-1,0,rfl,cj,cf,`a,`a,bd1 _ `b,by unfold Bd;exact Nat.one_lt_two_pow `b,λz hz=>(bu z hz).mono `b,λz hz=>(bd z hz).mono `b,λy a7 H5 s5 hy ck e3=>?_⟩))
  let c3:∀ k,co a7 k=co D k+co R k:=λk=>by
   rw [e3 k];unfold Aw;rw [nC (AV _),D1];omega
  let cl:ro a7=ro D+ro R:=C_ λk=>c3 k;let l3:@a7<=@D:=HS ck _ λk hk=>by rw [c3 k,AX (a:=D) hk,AX (a:=R) `a];rfl
  refine {1,y,a7,N,2,hy,M0,`a,λb2 vs H6 s6 a0 dn lf a8=>?_}
  let f1:co vs (@D - 1)=1:=NC a8.1 N2 (by
   let q:=a8.2 (@D - 1);rw [c3,AX (a:=R) `a,Mu.top] at q;exact q)
  let vl:@vs=@D:=by
   have:=ND (k:=@D - 1) (ns:=vs) (by rw [f1];decide);have:=Mu.pos;omega
  let X:Mp N vs:={by have:=Mu.pos;omega,by rw [vl];exact f1,a8.1};let ef:=Sa a8;let bv:=B9 o X.rg;let am:=((s2.trans s3).trans bb).trans (s5.trans s6);let cm:=am _ _ al;let cn:=am _ _ b4;refine AY (AZ (C7 {4,1,r1,b2,wh,vs,N,850,2,cm,a0,X.pos,X.top,M0,o,bv,`b,`a,`a,λt r d3 L rs H7 s7 ht hr dq tq tr rl bf hq=>{5,ht,2,?_}}));let cp:=Ef bf
  let ql:@L<=9:=by
   rcases au bf X.pos X.top rl tq hq with q | q
   .rw [q];exact AV _
   .have:=X.pos;omega
  let bg:=s7 _ _ a0;let bh:=s7 _ _ cn;refine AY (IG (Cb (I_ {Bi,λy2 cq=>?_})));let s8:=AO cq (.lst [.int 2]);let bi:upd H7 y2 (.lst [.int 2]) y2=some (HO.lst ([(2:Int)].map V.int)):=upd_same;let a4:=s8 _ _ bg;let a5:=s8 _ _ bh;let ab:=s8 _ _ hr;generalize upd H7 y2 (.lst [.int 2])=H8 at s8 bi a4 a5 ab ⊢;let bq:=B9 o hq;refine I_ (C7 (Ae {4,r,g,L,C,850,850,2,ab,a5,bq,bw,`b,`b,`a,`a,λx2 H9 s9 cr=>?_}));let bj:=s9 _ _ a4;refine {4,x2,b2,rT L C,vs,N,850,2,cr,bj,X.pos,X.top,M0,o,bv,`b,by have:=Ik L C;omega,`a,λd4 cs S HA sA ct dr ds bk=>?_};let es:=Ef bk;let ac:=B9 o bk.1;refine I_ (I_ ⟨y2,d4,[2],S,1,1,0,rfl,(s9.trans sA) _ _ bi,ct,by show 1<=1000;decide,`a,bd1 _ `b,bd1 _ `b,λz hz=>by rw [Ap.mp hz];unfold Bd;exact BZ (show (2:Int).natAbs<2 ^ 2 by decide) (C2 `b `b),λz hz=>(ac z hz).mono `b,λy3 G HB sB cw cz e5=>?_⟩);let d0:ro G=2 - ro S:=by rw [NE e5,Eg];rfl
  let l5:@G<=9:=HS cz 9 λk hk=>by
   have:co G k=co [2] k - co S k:=by rw [e5 k];unfold Aw;rw [nC (AV _),D1];omega
   rw [this,AX (a:=[2]) (by show 1<=k;omega),AX (a:=S) `a];rfl
  let b5:∀ z∈G,Bd 860 z:=λz hz=>by
   let {i,hi,rfl}:=C3 hz
   have:G[i]=co [2] i - co S i:=by
    let h:=e5 i;unfold Aw at h;rw [nC (AV _),D1] at h;let g:co G i=G[i]:=by unfold co;rw [AN,AR hi];rfl
    rw [<-g,h];omega
   rw [this]
   let h2:Bd 850 (co [2] i):=by
    cases i with
    | zero=>unfold Bd;exact BZ (show (2:Int).natAbs<2 ^ 2 by decide) (C2 `b `b)
    | succ i=>exact EX _
   exact (Bd.sub h2 (Ce ac i)).mono `b
  let an:=(s9.trans sA).trans sB;let d1:=an _ _ a5;let d5:=an _ _ a4;refine G7 (C7 (Ae {4,g,y3,C,G,850,860,2,d1,cw,bw,b5,`b,`b,`a,`a,λx3 HC sC d7=>?_}));let bl:=sC _ _ d5;refine {4,x3,b2,rT C G,vs,N,850,2,d7,bl,X.pos,X.top,M0,o,bv,`b,by have:=Ik C G;omega,`a,λg2 d9 bm HD sD da dt du br=>?_};let db:=Ef br;let df:=sD _ _ bl;let bs:∀ {l:cY},@l<@D->Bn (ro l) (@D - 1):=λh=>So `a;let st:=uL (M:=((p ^ j:Nat):Int)) (lead:=n) (U:=U) gM (A:=ro B) (f:=ro D) (w:=ro C) (W:=ro wh) (q1:=ro c5) (r:=ro a6) (z:=ro ce) (m:=ro R) (f':=ro vs) (q2:=ro L) (r2:=ro rs) (a:=ro cs) (s:=ro S) (b:=ro d9) (w':=ro bm) I Mu.nmn (by rw [T];exact hU) (by rw [T];exact ew) (by rw [T];exact er) (bs c8) (by rw [T,<-Il];exact ci) (bs ch) (by rw [T,<-cl];exact ef) (by rw [<-vl];exact X.nmn) (by rw [T];exact cp) (by rw [<-vl];exact So `a) (by rw [T,<-Il];exact es) (by rw [T,<-d0,<-Il];exact db);rw [T] at st
  let dg:md p (ro vs)=mr p J:=by
   rw [<-ov];exact NF dp pz `a st.2
  refine {(F+1 - N).toNat,?_,b2,g2,vs,bm,j+j,i+1,9,9,_,by rw [a3];rfl,((((s4.trans s1).trans am).trans (s7.trans s8)).trans an).trans (sC.trans sD),df,da,`a,by rw [a3];exact X,`a,B9 o br.1,by rw [ji,Cg];omega,λi' di=>?_,dg,by rw [a3];exact st.1,by rw [a3];exact o,by rw [a3]}
  .have:((p ^ j:Nat):Int)*2<=((p ^ j:Nat):Int)*((p ^ j:Nat):Int):=EN `a `a;omega
  .rcases Ge.mp di with q | q
   .exact jF i' q
   .rw [q,<-ji];exact cc
 .let cc:¬ ((p ^ j:Nat):Int)<=F:=λz=>cc (nE z);show Qq K _ _ _;refine BT (IC {4,Ev,λt ht=>?_});let st:=AO ht (.tup [.ref b',.int ((p ^ j:Nat):Int)]);exact k t b' D j _ (s4.trans st) upd_same (st _ _ b1) {`a,i,ji,jF} bM ul Mu (Lf.of I Mu ov ul)
end
section
open Po
section
variable {R:Type} [Lean.Grind.CommRing R] {n w d:Nat} {a u l:Nat->Nat->R} {o c:Nat->Nat}
def Kb (x:Nat->R) (b:Nat->Nat->R) (v:Nat->R) (w d:Nat):su w (λj=>(su d λt=>x t*b t j)*v j)=su d λt=>x t*su w λj=>b t j*v j:=by
 rw [Aj (g:=λj=>su d λt=>x t*(b t j*v j)) w λj _=>by rw [<-Ea];exact Aj d λt _=>by ext,G8];exact Aj d λt _=>CU _ _ w
def uN (D:Dom R) (I:RE n w a w d o c u l) {v:Nat->R}:(∀ i,i<d->su w (λj=>l i j*v j)=0)↔∀ r,r<n->su w (λj=>a r j*v j)=0:=by
 let y:=I.dn;constructor
 .intro h r q
  let m:=X1 D (k:=d) (W:=u) (M:=λt s=>a (o t) (c s)) λi e j b=>by
   rw [<-I.row i e (c j) (I.cl j b),I.piv j b i `a]
  let x:∀ i,i<d->su w (λj=>a (o i) j*v j)=0:=λi e=>by
   rw [Aj (g:=λj=>(su d λs=>a (o i) (c s)*l s j)*v j) w λj b=>by
    congr 1
    rw [Aj (g:=λs=>su d λt=>a (o i) (c s)*(u s t*a (o t) j)) d λs p=>by rw [I.row s p j b,<-CU],G8,Aj (g:=λt=>dl i t*a (o t) j) d λt f=>by
     rw [<-m i e t f,<-Ea];exact Aj d λs _=>by grind]
    exact (Lp (λt=>a (o t) j) e).symm,Kb]
   exact Cm λs p=>by rw [h s p];ext
  let {z,hz}:=I.span q;rw [Aj (g:=λj=>(su d λt=>z t*a (o t) j)*v j) w λj b=>by rw [hz j b],Kb];exact Cm λt f=>by rw [x t f];ext
 .intro h i e;rw [Aj (g:=λj=>(su d λt=>u i t*a (o t) j)*v j) w λj b=>by rw [I.row i e j b],Kb];exact Cm λt f=>by rw [h (o t) (I.on t `a)];ext
def Sq (I:RE n w a w d o c u l) {k:Nat} (p:k<w) (kc:∀ i,i<d->c i≠k) {v:Nat->R} (r:v k=1) (x:∀ i,i<d->v (c i) = - l i k) (y:∀ j,j<w->j≠k->(∀ i,i<d->c i≠j)->v j=0):∀ i,i<d->su w (λj=>l i j*v j)=0:=λi b=>by
 let B:=I.dn
 rw [Aj (g:=λj=>dl j k*l i j+dl j (c i)*v j) w λj A=>by
  unfold dl;by_cases q:j=k
  .rw [nC q,nB (λz=>kc i b (by rw [<-z,q])),q,r];ext
  .rw [nB q];by_cases f:j=c i
   .rw [nC f,f,I.piv i b i `a];unfold dl;rw [nC rfl];ext
   .rw [nB f];by_cases m:∃ s,s<d/\c s=j
    .let {s,h,e}:=m;rw [<-e,I.piv s h i `a];unfold dl;rw [nB λz=>f (by rw [<-e,z])];ext
    .rw [y j A q λs h e=>m ⟨s,h,e⟩];ext,Ew,V_ (l i) p,V_ v (I.cl i b),x i b]
 ext
def uO (I:RE n w a w d o c u l) {v:Nat->R} (h:∀ i,i<d->su w (λj=>l i j*v j)=0) (f:∀ k,k<w->(∀ i,i<d->c i≠k)->v k=0):∀ k,k<w->v k=0:=λk hk=>by
 let y:=I.dn;by_cases q:∃ s,s<d/\c s=k
 .let {i,p,e}:=q;have:=h i p
  rw [Aj (g:=λj=>dl j (c i)*v j) w λj x=>by
   unfold dl;by_cases m:j=c i
   .rw [nC m,m,I.piv i p i `a];unfold dl;rw [nC rfl]
   .rw [nB m];by_cases r:∃ s,s<d/\c s=j
    .let {s,b,e}:=r;rw [<-e,I.piv s b i `a];unfold dl;rw [nB λz=>m (by rw [<-e,z])]
    .rw [f j x λs b e=>r ⟨s,b,e⟩];ext,V_ v (I.cl i p)] at this
  rw [<-e];exact this
 .exact f k hk λs b e=>q ⟨s,b,e⟩
end
def uP {p:Nat} (hp:Pr p) {W:Po (Zm (p:Int))} {w:Nat} (j:Mn W w) {S:Nat->Po (Zm (p:Int))} (k:∀ i,i<w->Bn (S i) w) (dS:∀ i,i<w->Dv W ((X ^ i) ^ p - S i)) {v:Po (Zm (p:Int))} (e:Bn v w):Dv W (v ^ p - v)↔∀ r,r<w->su w (λi=>(S i - X ^ i).c r*v.c i)=0:=by
 let m:=YA hp e;let n:=L9 e
 let a:Dv W (v ^ p - v - su w λi=>num (v.c i)*(S i - X ^ i)):=by
  have:v ^ p - v - (su w λi=>num (v.c i)*(S i - X ^ i))=su w λi=>num (v.c i)*((X ^ i) ^ p - S i):=by
   rw [m];let o:(su w λi=>num (v.c i)*(X ^ i) ^ p) - v=(su w λi=>num (v.c i)*(X ^ i) ^ p) - su w λi=>num (v.c i)*X ^ i:=by rw [<-n]
   rw [o,<-FB,<-FB];exact Aj w λi _=>by ext
  rw [this];exact Jp w λi b=>(dS i b).mulL _
 let c:∀ r,(su w λi=>num (v.c i)*(S i - X ^ i)).c r=su w λi=>(S i - X ^ i).c r*v.c i:=λr=>by
  rw [Fm];exact Aj w λi _=>by rw [D_];ext
 let d:Bn (su w λi=>num (v.c i)*(S i - X ^ i)) w:=λr u=>by
  rw [Fm];exact Cm λi b=>by rw [D_,Ec,k i b r u,(cK (R:=Zm (p:Int)) i).bn r `a];ext
 generalize (su w λi=>num (v.c i)*(S i - X ^ i))=T at a c d;constructor
 .intro h r _;let f:=h.sub a;rw [show v ^ p - v - (v ^ p - v - T)=T by grind] at f;let {q,g}:=f;let x:=j.uniq (q:=q) (by rw [show q*W=T by rw [g];grind];exact d);rw [<-c r,g,x,show W*0=0 by ext,CI]
 .intro h
  let z:T=0:=C_ λr=>by
   rw [CI];by_cases q:r<w
   .rw [c r,h r q]
   .exact d r `a
  rw [z,show v ^ p - v - 0=v ^ p - v by grind] at a;exact a
def uQ (h:MT K vs H Q E):Zv K (eC Q) (L2.start ["column","reduced","width","row","lead","equation"] vs) H:=by
 let {c,w,p,r,x,y,z,v,g,rfl,hr,{W,hx,hS},hz,X,ip,F,w1,p4,cc,nc,cr,k}:=h;let bp:=GY p4;refine AY (AZ (Cb (I_ {Bi,λt Y=>AS rfl {t,3,upd_same,`a,`a,?_,λd I=>?_}})))
 .rw [Ch,show [V.int 0].length=1 from rfl,Nat.one_mul];exact sz `a
 rw [Ch,G3];let s1:=AO Y (.lst [.int 0]);let s2:=AO I (.lst (List.replicate w (V.int 0)));let J:=s1.trans s2;let rn:H d=none:=s1.free I;let L:upd (upd H t (.lst [.int 0])) d (.lst (List.replicate w (V.int 0))) d^^^((List.replicate w (0:Int)).map V.int):=by rw [List.map_replicate];exact upd_same
 generalize upd (upd H t (.lst [.int 0])) d (.lst (List.replicate w (V.int 0)))=Z at J L ⊢;refine (show AF _ _ _ _ _ from {4,d,9,c,7,L,HU (by rw [AI,EJ];exact F),?_});let G:Same H (upd Z d (.lst (((List.replicate w (0:Int)).map V.int).set c (V.int 1)))):=λb o n=>by rw [Ai (Aq n rn)];exact J b o n
 let M:upd Z d (.lst (((List.replicate w (0:Int)).map V.int).set c (V.int 1))) d^^^(((List.replicate w (0:Int)).set c 1).map V.int):=by rw [List.map_set];exact upd_same
 generalize upd Z d (.lst (((List.replicate w (0:Int)).map V.int).set c (V.int 1)))=H3 at G M ⊢;let lz:(iN g).length=@W:=by rw [DA,@hS,X.1]
 show RP K _ _ _
 refine (show AF (A4 (GE K _) _ _) _ _ _ _ from {_,rfl,_,_,_,_,rfl,rfl,G _ _ hr,rfl,_,rfl,_,_,_,_,rfl,rfl,G _ _ hr,rfl,z,x,rfl,{_,SqL.of (G _ _ hz)},{_,SqL.of (G _ _ hx)},ForJ.zip (xs:=iN g) (ys:=W) lz (λi P A=>i<=@g/\∃ (f:cY) (R S:cX),P=[some (.int (c:Int)),↥r,some (.int (w:Int)),↥d,R,S]/\Same H A/\A d^^^(~~~f)/\@f=w/\co f c=1/\(∀ t,t<i->co f (nth g t) = - en v t c)/\(∀ j,j≠c->(∀ t,t<i->nth g t≠j)->co f j=0)/\∀ j,Bd 20 (co f j))
  {AV _,(List.replicate w 0).set c 1,none,none,2,G,M,by rw [Dw,EJ],by rw [FN (by rw [EJ];exact F),nC rfl],(λt h=>absurd h (Bk t)),(λj N _=>by rw [FN (by rw [EJ];exact F),nB N,SY]),λj=>?_} ?_ ?_ ?_})
 .rw [FN (by rw [EJ];exact F)];split
  .exact bd1 _ `b
  .rw [SY];exact EX _
 .rintro i P A _ ⟨_,f,R,S,rfl,s,_⟩;exact {s _ _ hz,s _ _ hx}
 .rintro i x' y' q P A B O ⟨_,f,R,S,rfl,s,C,lr,h0,T,U,n⟩ hq;let a:i<@g:=by have:=(A3.mp B).1;rw [DA] at this;exact this
  rw [KR a] at B;let {e,he,a0}:=hS.at (show i<@v by rw [X.1];exact a);rw [he] at O;cases B;cases O;let D:=X.row a;let s4:=AO hq (.tup [V.int (nth g i:Int),.ref e]);let hn:nth g i<w:=cc i a;let ec:((v.getD i []).map V.int)[c]?=some (.int (en v i c)):=GV (by rw [D.2];exact F);refine {q,1,upd_same,2,6,3,?_};refine {4,5,s4 _ _ (s _ _ a0),DL ec,4,1,d,9,nth g i,7,s4 _ _ C,HU (by rw [AI,lr];exact hn),?_};refine {a,f.set (nth g i) (- en v i c),6,?_,by rw [List.map_set];exact upd_same,by rw [Dw];exact lr,?_,λt Y=>?_,λj N u=>?_,λj=>?_}
  .exact λb o n=>by rw [Ai (Aq n rn)];exact s4 _ _ (s b o n)
  .rw [FN `a,nB λz=>nc i a z.symm];exact h0
  .rw [FN `a];by_cases e:t=i
   .rw [e,nC rfl]
   .have:=cr t i `a a;rw [nB `a];exact T t `a
  .rw [FN `a,nB λz=>u i `a z.symm];exact U j N λt Y=>u t `a
  .rw [FN `a];split
   .let m:=ip _ D.1 _ (Fs (show c<(v.getD i []).length by rw [D.2];exact F));let m:0<=en v i c/\en v i c<p:=m;exact (bp.le `a).mono `b
   .exact n j
 .rintro P A ⟨_,f,R,S,rfl,s,C,lr,h0,T,U,n⟩;rw [DA] at T U;refine BT (B7 (AS rfl {d,f,2,C,λq hq=>?_}));refine k q (C9 f) _ (s.trans (AO hq _)) upd_same (BW (SC f) `a) (Ig λj=>by rw [GT];exact n j) (by rw [GT];exact h0) (λi hi=>by rw [GT];exact T i hi) λj N u=>by rw [GT];exact U j N u
end
section
open Po
section
variable {R:Type} [Lean.Grind.CommRing R] {n w d:Nat} {a u l:Nat->Nat->R} {o c:Nat->Nat}
def uR (I:RE n w a w d o c u l) {m:Nat} {cols:Nat->Nat} (x:∀ t,t<m->cols t<w/\∀ i,i<d->c i≠cols t) (p:∀ t r,t<m->r<m->cols t=cols r->t=r) (all:∀ k,k<w->(∀ i,i<d->c i≠k)->∃ t,t<m/\cols t=k)
  {s:Nat->Nat->R} (y:∀ t,t<m->s t (cols t)=1) (D:∀ t,t<m->∀ i,i<d->s t (c i) = - l i (cols t)) (A:∀ t,t<m->∀ j,j<w->j≠cols t->(∀ i,i<d->c i≠j)->s t j=0)
  {v:Nat->R} (h:∀ i,i<d->su w (λj=>l i j*v j)=0):∀ k,k<w->v k=su m λt=>v (cols t)*s t k:=λk hk=>by
 have:=uO I (v:=λk=>v k - su m λt=>v (cols t)*s t k) (λi B=>by
  rw [Aj (g:=λj=>l i j*v j - (su m λt=>v (cols t)*s t j)*l i j) w λj _=>by ext,FB,h i B,Kb]
  rw [Cm (n:=m) λt b=>by
   rw [Aj (g:=λj=>l i j*s t j) w λj _=>by ext,Sq I (x t b).1 (x t b).2 (y t b) (D t b) (A t b) i B];grind]
  ext) (λk hk C=>by
  let {f,e,rfl}:=all k hk C;show v (cols f) - su m (λt=>v (cols t)*s t (cols f))=0
  rw [Aj (g:=λt=>v (cols t)*dl t f) m λt b=>by
   unfold dl;by_cases q:t=f
   .rw [nC q,q,y f e]
   .rw [nB q,A t b _ hk (λz=>q (p t f b e z.symm)) C],Fg (λt=>v (cols t)),nC e]
  ext) k hk
 let this:v k - su m (λt=>v (cols t)*s t k)=0:=this;ext
end
theorem uS (n:Nat):ro (List.replicate n 0++[1])=X ^ n:=by
 induction n with
 | zero=>show ro [1]=X ^ 0;rw [Eg];exact one_eq.symm.trans ()
 | succ n a=>
   show ro (0::(List.replicate n 0++[1]))=X ^ (n+1);rw [HW,a,Fi];ext
def uT {ns b:cY} {s:Nat} (e:∀ k,co b k=1*co ns k - 1*Aw s (co [1]) k):ro b=ro ns - X ^ s:=C_ λk=>by
 rw [Ec,show (X ^ s:Po Int)=X ^ s*1 by ext,IK,one_eq];show co b k=co ns k - if k<s then 0 else (if k - s=0 then 1 else 0)
 rw [e k];unfold Aw;by_cases q:k<s
 .rw [nC q,nB `a];omega
 .rw [nB q,nC `a];by_cases z:k - s=0
  .rw [nC z,z];show 1*co ns k - 1*1=_;omega
  .rw [nB z,AX (a:=[1]) (by show 1<=_;omega)];omega
def uU (ns:cY) (n:Nat):ro (ns++List.replicate n 0)=ro ns:=C_ λk=>by
 show co (ns++List.replicate n 0) k=co ns k;by_cases q:k<@ns
 .unfold co;rw [AN,AN,Eh q]
 .rw [AX (a:=ns) `a];unfold co;rw [AN,EI `a,E3];split <;> rfl
structure Sdr (w:Nat) (LL:List (cY)) (cs:List Nat) (us:cY) (c:Nat):Prop where
 le:@us<=w
 bd:∀ z∈us,Bd 20 z
 one:co us c=1
 cl:∀ i,i<@cs->co us (nth cs i) = - en LL i c
 nul:∀ k,k≠c->(∀ i,i<@cs->nth cs i≠k)->co us k=0
noncomputable def M_ (w:Nat) (cs:List Nat):List Nat:=(List.range w).filter λk=>!cs.contains k
def uV (w:Nat) (cs:List Nat):(M_ w cs).Nodup:=List.nodup_range.filter _
def frC_mem {w:Nat} {cs:List Nat} {k:Nat}:k∈M_ w cs↔k<w/\k∉cs:=by
 unfold M_;rw [List.mem_filter,DB];simp
def Ss {os:List Nat} {k:Nat} (h:k∈os):∃ i,i<@os/\nth os i=k:=by
 let {i,a,e}:=C3 h;exact {i,a,by unfold nth;rw [AN,AR a];exact e}
def uW {p:Nat} (hp:Pr p) {W:Po (Zm (p:Int))} {w:Nat} (P:Mn W w) {L A LL Ls:List (cY)} {os cs:List Nat} (R:Rect L w w)
  (T:∀ j,j<w->∃ S,Bn S w/\Dv W ((X ^ j) ^ p - S)/\mr p (L.getD j [])=S - X ^ j) (U:∀ i,i<w->∀ j,j<w->en A j i=en L i j) (C:Rdc (p:Int) A w w LL os cs)
  (lS:@Ls=(M_ w cs).length) (g:∀ t,t<@Ls->Sdr w LL cs (Ls.getD t []) (nth (M_ w cs) t)) :
  (∀ j,j<@Ls->Dv W (ak p Ls j ^ p - ak p Ls j))/\∀ v,Bn v w->Dv W (v ^ p - v)->∃ c:Nat->Zm (p:Int),v=su @Ls λj=>num (c j)*ak p Ls j:=by
 let D:=(Ey hp).dom;let {o,c,u,l,I,_,n,Y}:=C.ri;let lc:=C.lc
 let {S,d}:=Classical.axiomOfChoice (show ∀ j,∃ S,j<w->Bn S w/\Dv W ((X ^ j) ^ p - S)/\mr p (L.getD j [])=S - X ^ j from λj=>by
  by_cases q:j<w
  .let {S,h}:=T j q;exact {S,λ_=>h}
  .exact {0,λz=>absurd z q})
 let F:∀ r,r<w->∀ v:Nat->Zm (p:Int),su w (λi=>(S i - X ^ i).c r*v i)=su w λi=>Zm.of p (en A r i)*v i:=λr f v=>Aj w λi b=>by
  rw [<-(d i b).2.2,U i b r f];rfl
 let G:∀ {v:Po (Zm (p:Int))},Bn v w->(Dv W (v ^ p - v)↔∀ i,i<@os->su w (λj=>l i j*v.c j)=0):=λ{v} x=>by
  rw [uP hp P (S:=S) (λi b=>(d i b).1) (λi b=>(d i b).2.1) x,uN D I];exact {λh r f=>(F r f _).symm.trans (h r f),λh r f=>(F r f _).trans (h r f)}
 let y:∀ t,t<@Ls->nth (M_ w cs) t<w/\∀ i,i<@os->c i≠nth (M_ w cs) t:=λt a=>by
  let m:=frC_mem.mp (KT (show t<(M_ w cs).length by omega));exact {m.1,λi b e=>m.2 (by rw [<-e,<-n i b];exact KT `a)}
 let Z:∀ {j:Nat},(∀ i,i<@os->c i≠j)->∀ i,i<@cs->nth cs i≠j:=λ{j} h i b=>by rw [n i `a];exact h i `a
 let B:∀ t j,(ak p Ls t).c j=Zm.of p (co (Ls.getD t []) j):=λt j=>rfl;let J:∀ t,t<@Ls->(ak p Ls t).c (nth (M_ w cs) t)=1:=λt a=>by rw [B,(g t a).one];rfl
 let M:∀ t,t<@Ls->∀ i,i<@os->(ak p Ls t).c (c i) = - l i (nth (M_ w cs) t):=λt a i b=>by
  rw [B,<-n i b,(g t a).cl i `a,Y i b _ (y t a).1,Zm.of_neg]
 let N:∀ t,t<@Ls->∀ j,j<w->j≠nth (M_ w cs) t->(∀ i,i<@os->c i≠j)->(ak p Ls t).c j=0:=λt a j _ hj h=>by
  rw [B,(g t a).nul j hj (Z h)];rfl
 let O:∀ t,t<@Ls->Bn (ak p Ls t) w:=λt a=>(HV _ _).mono (g t a).le;refine {λt a=>(G (O t a)).mpr (Sq I (y t a).1 (y t a).2 (J t a) (M t a) (N t a)),λv x dv=>{λt=>v.c (nth (M_ w cs) t),C_ λk=>?_}};rw [Fm];by_cases q:k<w
 .have:=uR I (m:=@Ls) (cols:=nth (M_ w cs)) y (λt t' a a0 e=>vV (uV w cs) `a `a e) (λk hk hf=>by
   let {t,a,e}:=Ss ((frC_mem (cs:=cs)).mpr {hk,λz=>by
    let {i,b,e}:=Ss z;exact hf i `a (by rw [<-n i `a];exact e)})
   exact {t,`a,e}) (s:=λt=>(ak p Ls t).c) J M N (v:=v.c) ((G x).mp dv) k q
  rw [this];exact Aj _ λt _=>(D_ _ _ _).symm
 .rw [x k `a];exact (Cm λt a=>by rw [D_,O t a k `a];ext).symm
end
section
open Po
structure PwS (p:Nat) (W:Po (Zm (p:Int))) (w i:Nat) (L:List (cY)) (ps:cY):Prop where
 lL:@L=i
 rL:∀ r∈L,@r=w
 hL:∀ j,j<i->∃ S,Bn S w/\Dv W ((X ^ j) ^ p - S)/\mr p (L.getD j [])=S - X ^ j
 lp:@ps<=w
 rg:∀ z∈ps,0<=z/\z<(p:Int)
 dv:Dv W ((X ^ i) ^ p - mr p ps)
def uX {R:Type} [Lean.Grind.CommRing R] (x:R) (i p:Nat):(x ^ (i+1)) ^ p=(x ^ i) ^ p*x ^ p:=by
 rw [show x ^ (i+1)=x ^ i*x by ext,Lean.Grind.CommSemiring.mul_pow]
def PwS.step {p:Nat} {W:Po (Zm (p:Int))} {w i:Nat} {L:List (cY)} {ps rw' st a:cY} (I:PwS p W w i L ps) (f:ro rw'=ro ps - X ^ i) (g:↑rw'=w) (b:Dv W (X ^ p - mr p st)) {q:Po (Zm (p:Int))} (e:mr p ps*mr p st=q*W+mr p a) (ls:@a<=w) (k:∀ z∈a,0<=z/\z<(p:Int)):PwS p W w (i+1) (L++[rw']) a:=by
 let d:=I.lL;refine {by rw [Bf,d];rfl,λr c=>?_,λj o=>?_,ls,k,?_}
 .rcases BR.mp c with z | z
  .exact I.rL r z
  .rw [Ap.mp z];exact g
 .by_cases q:j<i
  .let {S,h}:=I.hL j q;refine {S,h.1,h.2.1,?_};rw [AN,Eh `a,<-AN];exact h.2.2
  .let e:j=i:=by omega
   subst e;refine {mr p ps,(HV _ _).mono I.lp,I.dv,?_};rw [AN,EI `a,d,DT];show mr p rw'=_;unfold mr;rw [f,(CJ _).sub,(CJ _).pow];unfold md;rw [Jo]
 .let m:=I.dv.mulR (mr p st);let n:=b.mulL ((X ^ i) ^ p);have:=m.add n;rw [show ((X ^ i) ^ p - mr p ps)*mr p st+(X ^ i) ^ p*(X ^ p - mr p st)=(X ^ i) ^ p*X ^ p - mr p ps*mr p st by ext,<-uX,e] at this;have:=this.add ((Dv.rf W).mulL q);rw [show (X ^ (i+1)) ^ p - (q*W+mr p a)+q*W=(X ^ (i+1)) ^ p - mr p a by grind] at this;exact this
theorem Su {H:Hp}:∀ a:List Nat,RepA H (iN a) (a.map λi:Nat=>W.Dat.int (i:Int))
 | []=>.nil
 | _::a=>.cons (.int _) (Su a)
def uY {b:TA} {capt:List (Option Nat)} {g:TG} {tc:TT} {c:TE} {a:L2.St} {H:Hp} {Q:VK} (h:b a H (λvs d=>∃ j:Int,vs=[.int j]/\-(2 ^ 62)<=j/\j<2 ^ 62/\CompF (Y' 0 j.toNat) capt g tc c a Q d)):DX (DG b) capt g tc c a H Q:=h
def uZ (h:MU K vs H Q E):Zs K (eC Q) (L2.start ["divisor","prime","width","step","power","less","place","row","reduced","columns"] vs) H:=by
 let {a,U,p,rfl,ha,hp,p4,M,d2,d9,k}:=h;let pp:=hp.two;let W:=GY p4;let p0:(0:Int)<p:=by omega
 let {w,hw}:∃ w,w=@U - 1:={1};let w1:1<=w:=by omega
 let w8:w<=8:=by omega
 let mW:=M.mn;rw [<-hw] at mW k;let ew:((~~~U).length:Int) - 1=(w:Int):=by rw [AI];omega
 refine AY {1,6,ha,3,?_};show RO K _ [↥a,some (.int (p:Int)),some (.int (((~~~U).length:Int) - 1)),none,none,none,none,none,none,none] H;rw [ew];refine AY (C7 (AZ (AZ (Cb (I_ {Bi,λt ht=>AS rfl {t,3,upd_same,`a,`a,?_,λy hy=>?_}})))))
 .rw [Ch,show [V.int 0].length=1 from rfl,Nat.one_mul];exact BW p4 (sz (n:=4000) `b)
 rw [Ch,G3];let s1:=(AO ht (.lst [.int 0])).trans (AO hy (.lst (List.replicate p (V.int 0))));let ab:upd (upd H t (.lst [.int 0])) y (.lst (List.replicate p (V.int 0))) y^^^(List.replicate p (V.int 0)):=upd_same;generalize upd (upd H t (.lst [.int 0])) y (.lst (List.replicate p (V.int 0)))=H1 at s1 ab ⊢;refine Cb (I_ {Bi,λo ho=>?_});let s2:=AO ho (.lst [.int 1]);let ac:=s2 _ _ ab;let af:upd H1 o (.lst [.int 1]) o^^^[.int 1]:=upd_same;let aj:=s1.trans s2;generalize upd H1 o (.lst [.int 1])=H2 at s2 ac af aj ⊢;refine {y,o,3,ac,af,?_,λv P=>?_}
 .rw [EJ];exact BW (show p+1<=4001 by omega) (sz (n:=4001) `b)
 let ev:List.replicate p (V.int 0)++[V.int 1]=(List.replicate p (0:Int)++[1]).map V.int:=by rw [Bj,List.map_replicate];rfl
 rw [ev];let s3:=AO P (.lst ((List.replicate p (0:Int)++[1]).map V.int));let al:upd H2 v (.lst ((List.replicate p (0:Int)++[1]).map V.int)) v^^^((List.replicate p (0:Int)++[1]).map V.int):=upd_same;let Y:=aj.trans s3;generalize upd H2 v (.lst ((List.replicate p (0:Int)++[1]).map V.int))=H3 at s3 al Y ⊢;refine {4,v,a,_,U,(p:Int),12,2,al,Y _ _ ha,M.pos,M.top,p0,W,B9 W M.rg,`b,by rw [Bf,EJ];show p+1<=5000;omega,`a,λst qs ss H4 s4 bk tz c1 md=>?_};let e1:=Ef md
 let hS:Dv (mr p U) (X ^ p - mr p ss):=by
  have:mr p (List.replicate p (0:Int)++[1])=X ^ p:=by
   unfold mr;rw [uS,(CJ _).pow];unfold Bs.md;rw [Jo]
  rw [this] at e1;exact {mr p qs,by rw [e1];ext}
 let bl:=Y.trans s4;refine AY (Cb (I_ {Bi,λq hq=>?_}));let sq:=AO hq (.lst [.int 1]);let Z:upd H4 q (.lst [.int 1]) q=some (HO.lst (([1]:cY).map V.int)):=upd_same;let R:=sq _ _ bk;let a0:=bl.trans sq;generalize upd H4 q (.lst [.int 1])=H5 at sq Z R a0 ⊢;refine AY (show As AC _ _ _ from {AV _,λf hX=>?_});let sX:=AO hX (.lst []);let B:upd H5 f (.lst []) f=some (HO.lst []):=upd_same;let am:=sX _ _ Z;let bm:H5 f=none:=hX;let qX:q≠f:=Aq Z hX;generalize upd H5 f (.lst [])=H6 at sX B am ⊢;refine (show AF (A4 _ _ _) _ _ _ _ from {1,(w:Int),2,`a,`a,?_});rw [Ch]
 refine ForR.by (λi σ g=>∃ (q:Addr) (ps:cY) (A:cW) (L:List (cY)) (x6 x7:cX),σ=[↥a,some (.int (p:Int)),some (.int (w:Int)),↥st,↥q,↥f,x6,x7,none,none]/\Same H5 g/\g f^^^A/\SDs (rm g f) A L/\q≠f/\g q^^^(~~~ps)/\PwS p (mr p U) w i L ps)
  {q,[1],[],[],none,none,2,sX,B,trivial,qX,am,2,(λr hr=>nomatch hr),(λj N=>absurd N (Bk j)),w1,(λz hz=>?_),?_} ?_ ?_
 .rw [Ap.mp hz];omega
 .refine {0,?_};rw [HX,show (X ^ 0:Po (Zm (p:Int)))=1 by ext,Lv];ext
 .rintro i σ H7 hi ⟨q,ps,A,L,x6,x7,rfl,s7,a3,hL,qX,a4,S⟩;let lx:=@hL;let lL:=S.lL;let lp:=S.lp;let ez:(0:Int)+(i:Int)=(i:Int):=Int.zero_add _;let an:=B9 W S.rg;rw [ez];refine AY (IG (AS rfl (I_ (Cb (I_ {Bi,λo1 bn=>I_ (AS rfl ?_)})))));let so:=AO bn (.lst [.int 1]);let ao:upd H7 o1 (.lst [.int 1]) o1=some (HO.lst (([1]:cY).map V.int)):=upd_same;let a5:=so _ _ a4;let ap:=so _ _ a3;generalize upd H7 o1 (.lst [.int 1])=H8 at so ao a5 ap ⊢;refine ⟨q,o1,ps,[1],1,1,i,rfl,a5,ao,`a,by show i+1<=1000;omega,bd1 _ `b,bd1 _ `b,λz hz=>(an z hz).mono `b,λz hz=>by rw [Ap.mp hz];exact bd1 _ `b,λar d H9 s9 bq br er=>?_⟩;let eX:=uT er
  let lr:@d<=w:=HS br w λk hk=>by
   rw [er k,AX (a:=ps) `a];unfold Aw;rw [nC `a,AX (a:=[1]) (by show 1<=_;omega)];rfl
  let b0:=s9 _ _ ap;let c2:=s9 _ _ a5;let t9:=so.trans s9;refine (show AF (DK _) _ _ _ _ from {1,FA b0,?_});refine {1,Bi,λz hz=>?_};let O:=AO hz (.lst [.int 0]);let b1:upd H9 z (.lst [.int 0]) z=some (HO.lst [V.int 0]):=upd_same;let C:=O _ _ bq;let b2:=O _ _ b0;let bs:((w:Int) - ((~~~d).length:Int))=((w - @d:Nat):Int):=by rw [AI];omega
  generalize upd H9 z (.lst [.int 0])=HA at O b1 C b2 ⊢;refine {4,6,C,3,?_};refine {_,((w - @d:Nat):Int),1,congrArg V.int bs,b1,`a,`a,sz (by rw [List.length_singleton];omega),λy hy=>?_};rw [Ch,G3];let sy:=AO hy (.lst (List.replicate (w - @d) (V.int 0)));let b3:upd HA y (.lst (List.replicate (w - @d) (V.int 0))) y=some (HO.lst (List.replicate (w - @d) (V.int 0))):=upd_same;let T:=sy _ _ C;let a6:=sy _ _ b2;generalize upd HA y (.lst (List.replicate (w - @d) (V.int 0)))=HB at sy b3 T a6 ⊢;refine {ar,y,3,T,b3,sz (by rw [AI,EJ];omega),λv P=>?_};let ev:d.map V.int++List.replicate (w - @d) (V.int 0)=(d++List.replicate (w - @d) (0:Int)).map V.int:=by rw [Bj,List.map_replicate]
  rw [ev];let sv:=AO P (.lst ((d++List.replicate (w - @d) (0:Int)).map V.int));let b4:upd HB v (.lst ((d++List.replicate (w - @d) (0:Int)).map V.int)) v=some (HO.lst ((d++List.replicate (w - @d) (0:Int)).map V.int)):=upd_same;let B:=sv _ _ a6;let vX:v≠f:=(Aq a6 P).symm;let t6:=((t9.trans O).trans sy).trans sv;let b5:=t6 _ _ a4;generalize upd HB v (.lst ((d++List.replicate (w - @d) (0:Int)).map V.int))=HC at sv b4 B t6 b5 ⊢;refine {f,A,.ref v,7,B,by rw [lx,lL];exact BZ (show i<1000 by omega) (sz `b),?_};let S6:SDs (rm (upd HC f (.lst (A++[V.ref v]))) f) (A++[.ref v]) (L++[d++List.replicate (w - @d) 0]):=((hL.tp (Cf f t6)).tp FM).snoc (CA vX (Kp.upd _ _ vX b4));let sD:Same H5 (upd HC f (.lst (A++[V.ref v]))):=λc o h=>Kp.upd c o (Aq h bm) (t6 c o (s7 c o h));let b9:upd HC f (.lst (A++[V.ref v])) q^^^(~~~ps):=Kp.upd _ _ qX b5;let a7:upd HC f (.lst (A++[V.ref v])) f^^^(A++[V.ref v]):=upd_same;generalize upd HC f (.lst (A++[V.ref v]))=HD at S6 sD b9 a7 ⊢;show RN K _ _ _;refine (show AJ _ _ _ _ _ from C7 (Ae (AS rfl (AS rfl {q,st,ps,ss,12,12,2,b9,sD _ _ R,an,B9 W md.1,`b,`b,`a,`a,λr HE sE hr=>AS rfl (AS rfl ?_)}))));let hr:HE r^^^((rT ps ss).map V.int):=hr;let c3:=Ik ps ss;refine {r,a,rT ps ss,U,(p:Int),12,2,hr,sE _ _ (sD _ _ (a0 _ _ ha)),M.pos,M.top,p0,W,B9 W M.rg,`b,`a,`a,λs c4 ba HF sF hs c5 c8 bb=>?_};let e2:=Ef bb;rw [uC] at e2;let tF:=sE.trans sF;refine {s,ba,9,6,sD.trans tF,tF _ _ a7,S6.tp (Cf f tF),?_,hs,S.step ((uU d _).trans eX) (by rw [Bf,EJ];omega) hS e2 `a bb.1};intro z;have:=tF _ _ a7;rw [<-z,hs] at this;injection this with this;injection this with this;let m:V.ref v∈ba.map V.int:=by rw [this];exact Cp _ BX
  let {_,_,h}:=Am.mp m;cases h
 .rintro σ H7 ⟨q,ps,A,L,x6,x7,rfl,s7,a3,hL,qX,a4,S⟩;let bt:SD H7 f L:={A,a3,hL.tp Bq};let RL:Rect L w w:=⟨S.lL,S.rL⟩;refine AY (Ae (B7 (AS rfl {f,L,w,w,2,bt,RL,id,`a,`a,λr LC H8 s8 hr RC hC _=>AS rfl {r,LC,w,w,p,2,hr,RC,`a,`a,hp,W.mono `b,λr' x y z LL os b H9 s9 bc hx hy hz hR=>?_}})));let {o,c,u,l,I,ho,hc,hl}:=hR.ri;let lc:=hR.lc;let cw:∀ i,i<@b->nth b i<w:=λi hi=>by rw [hc i `a];exact I.cl i `a
  let cr:∀ i j,i<j->j<@b->nth b i<nth b j:=λi j h1 h2=>by rw [hc i `a,hc j `a];exact I.cr i j h1 `a
  let bd:∀ i,M_ (i+1) b=M_ i b++if i∈b then [] else [i]:=λi=>by
   unfold M_;rw [List.range_succ,List.filter_append];by_cases q:i∈b
   .rw [nC q];simp [q]
   .rw [nB q];simp [q]
  let a8:∀ i,(M_ i b).length<=i:=λi=>BW (List.length_filter_le ..) (by rw [Bg];omega);refine AY (uY {1,(w:Int),2,`a,`a,?_});rw [Ch];refine CompF.range (λi D g=>i<=w/\g=H9/\D=iN (M_ i b)) {AV _,7} ?_ ?_ ?_
  .rintro i D g ⟨h1,rfl,rfl⟩;exact {h1,sz (by rw [DA];have:=a8 i;omega)}
  .rintro i D g hi ⟨h1,rfl,rfl⟩;let ez:(0:Int)+(i:Int)=(i:Int):=Int.zero_add _;rw [ez];show Ak _ [some (.int (i:Int)),↥r'] g _;refine B8 {4,5,bc,2,z,_,.int (i:Int),_,decide (i∈b),2,hz,.int _,Su b,2,?_,?_,1,?_}
   .intro e he;let {_,_,rfl}:=Am.mp he;rfl
   .constructor
    .intro h;exact Am.mpr {i,nF h,2}
    .intro h;let {j,N,e}:=Am.mp h;injection e with e;have:j=i:=by omega
     exact nE (this ▸ N)
   .by_cases q:i∈b
    .rw [nE q];exact {`a,2,by rw [bd,nC q,List.append_nil]}
    .rw [nG q];exact {1,`a,2,by rw [bd,nB q];unfold iN;rw [Bj];rfl}
  .rintro D g ⟨_,rfl,rfl⟩ cl bu;let sc:=AO bu (.lst (iN (M_ w b)));let F:upd g cl (.lst (iN (M_ w b))) cl=_:=upd_same;let bf:=sc _ _ bc;let bg:=sc _ _ hz;let bh:=hx.tp sc;let s2:=(((a0.trans s7).trans s8).trans s9).trans sc;generalize upd g cl (.lst (iN (M_ w b)))=HG at sc F bf bg bh s2 ⊢;refine BT (DY (AS rfl {cl,2,{_,SqL.of F},?_}));refine CompJ.lst (xs:=iN (M_ w b)) (λi D g=>i<=(M_ w b).length/\Same HG g/\∃ Ls,SDs g D Ls/\@Ls=i/\∀ j,j<i->Sdr w LL b (Ls.getD j []) (nth (M_ w b) j)) {AV _,Same.refl _,[],trivial,2,λj N=>absurd N (Bk j)} ?_ ?_ ?_
   .rintro i D H2 ⟨h1,s,Ls,G,rfl,_⟩;have:=a8 w;exact {by rw [DA];exact h1,sz (by rw [@G];omega),SqL.of (s _ _ F)}
   .rintro i v D H2 P ⟨h1,s,Ls,G,ll,J⟩;let hi:i<(M_ w b).length:=by have:=(A3.mp P).1;rw [DA] at this;exact this
    rw [KR hi] at P;cases P;let m:=frC_mem.mp (KT hi);show AL _ _ _ _ [some (.int (nth (M_ w b) i:Int)),↥r',some (.int (w:Int))] H2 _;refine C7 (AS rfl (AS rfl (AS rfl {nth (M_ w b) i,w,p,r',x,y,z,LL,b,2,s _ _ bf,bh.tp s,s _ _ bg,by rw [lc];exact hR.rc,hR.ip,m.1,`a,p4,cw,λj N e=>m.2 (e ▸ KT N),cr,λsd us H3 s3 bi bv bw one bx bz=>?_})));refine {hi,s.trans s3,Ls++[us],(G.tp s3).snoc bi,by rw [Bf,ll];rfl,λj N=>?_};by_cases q:j<i
    .rw [AN,Eh `a,<-AN];exact J j q
    .let e:j=i:=by omega
     subst e;rw [AN,EI `a,ll,DT];exact ⟨bv,bw,one,bx,bz⟩
   .rintro D H2 ⟨_,s,Ls,G,ll,J⟩ rr c0;rw [DA] at ll J;let sr:=AO c0 (.lst D);let lw:=a8 w;let bj:=uW hp mW RL S.hL hC hR ll (λt ht=>J t `a);refine k rr Ls _ ((s2.trans s).trans sr) {D,upd_same,G.tp sr} `a (λl hl=>?_) bj.1 bj.2;let {j,N,rfl}:=C3 hl;have:=J j `a;rw [AN,AR N] at this;exact {BW this.le w8,this.bd}
end
section
open Po
def tD {p:Nat} (f:2<=p) {a:cY} {j:Nat} (m:Mn (mr p a) j) (e:Tz a) (b:∀ z∈a,0<=z/\z<(p:Int)):Mp p a/\@a=j+1:=by
 let d:co a j=1:=NC b `a (Zm.of_eq.mp (show Zm.of (p:Int) (co a j)=Zm.of p 1 from m.top));let g:=ND (k:=j) (ns:=a) (by rw [d];decide);let z:∀ k,j+1<=k->co a k=0:=λk hk=>Classical.byContradiction λc=>Sk b `a c (Zm.of_zero.mp (m.bn k hk));let h:=HS e _ z;let l:@a=j+1:=by omega
 exact {{`a,by rw [l];exact d,b},l}
section
variable {R:Type} [Lean.Grind.CommRing R]
def Co.dvL {f g h:Po R} (c:Co f h) (d:Dv g f):Co g h:=by
 let {u,v,e}:=c;let {q,a}:=d;exact {u*q,v,by rw [<-e,a];ext}
theorem Sv {f y:Po R} {s:Nat->R}:∀ n,(∀ i,i<n->Co f (y - num (s i)))->Co f (R_ y s n)
 | 0,_=>⟨0,1,by show 0*f+1*1=1;ext⟩
 | n+1,h=>((Sv n λi a=>h i `a).symm.mulP (h n `a).symm).symm
end
def tE (p t:Nat):(num (Zm.of (p:Int) (t:Int)):Po (Zm (p:Int)))=num (nR t):=rfl
def tG (h:MV K vs H Q E):Z4 K (eC Q) (L2.start ["factor","seed","prime","pieces","left","whole","piece"] vs) H:=by
 let {a,b,fs,Z,p,rfl,ha,hb,hp,p4,M,f2,f9,s8,bs,ac,sq,k}:=h;let pp:=hp.two;let F:=Ey hp;let bp:=GY p4;let p0:(0:Int)<p:=by omega
 refine AY (show As AC _ _ _ from {AV _,λP hP=>?_});let s1:=AO hP (.lst []);let a0:upd H P (.lst []) P=some (HO.lst []):=upd_same;generalize upd H P (.lst [])=H1 at s1 a0 ⊢;refine {1,?_};refine AY (I_ ?_);refine V4 (while_by (λm σ C=>∃ (I:Addr) (x6:cX) (d:cY) (t:Nat) (f:cW) (L:List (cY)),σ=[↥a,↥b,some (.int (p:Int)),↥P,↥I,some (.int (t:Int)),x6]/\t<=p/\Same H C/\C P^^^f/\SDs (rm C P) f L/\I≠P/\C I^^^(~~~d)/\Mp p d/\@d<=9/\mr p fs=pd (L.map (mr p))*mr p d/\(∀ l∈L,Mp p l/\2<=@l/\@l<=9)/\(∀ l∈L,∃ a,Dv (mr p l) (mr p Z - num a))/\@L+@d<=@fs/\(∀ i,i<t->Co (mr p d) (mr p Z - num (nR i)))/\m=p - t) _ {a,none,fs,0,[],[],2,AV _,s1,a0,trivial,Aq ha hP,s1 _ _ ha,M,f9,by show _=1*_;ext,(λ_ z=>nomatch z),(λ_ z=>nomatch z),by show 0+_<=_;omega,(λi z=>absurd z (Bk i)),2} ?_);rintro m σ C ⟨I,x6,d,t,f,L,rfl,tp,s2,a3,hL,nP,a4,T,l9,e,hl,hn,ll,co,rfl⟩;let dF:Dv (mr p d) (mr p fs):={pd (L.map (mr p)),by rw [e];ext};refine {1,6,a4,3,1,Ab (λc=>?_) (λc=>?_)}
 .let c:((~~~d).length:Int) > 1:=nF c;rw [AI] at c
  let a5:t<p:=by
   refine Nat.lt_of_le_of_ne tp λz=>?_;rw [z] at co;let c1:=Sv p co;rw [<-X9 hp F.dom] at c1;have:=Sj F T (Dv.rf _) (dF.tr ac) c1;omega
  refine {_,λ_ _ h=>h,?_};refine AY (C7 (AS rfl (IG (AS rfl (I_ (Cb (AS rfl {Bi,λo ho=>I_ (I_ ?_)})))))));let s3:=AO ho (.lst [.int (t:Int)]);let a6:upd C o (.lst [.int (t:Int)]) o=some (HO.lst ([(t:Int)].map V.int)):=upd_same;let J:=s3 _ _ a4;let a7:=s3 _ _ a3;generalize upd C o (.lst [.int (t:Int)])=H3 at s3 a6 J a7 ⊢;refine ⟨b,o,Z,[(t:Int)],1,1,0,rfl,s3 _ _ (s2 _ _ hb),a6,`a,by show 0+1<=1000;decide,bd1 _ `b,bd1 _ `b,λz hz=>(bs z hz).mono `b,λz hz=>by rw [Ap.mp hz];exact (bp.le `a).mono `b,λr rs H4 s4 hr af er=>?_⟩
  let eR:mr p rs=mr p Z - num (nR t):=by
   unfold mr;rw [NE er,(CJ _).sub,Eg,GW,tE]
  let lr:@rs<=8:=HS af 8 λk hk=>by
   rw [er k,AX (a:=Z) `a];unfold Aw;rw [nC `a,AX (a:=[(t:Int)]) (by show 1<=_;omega)];rfl
  let N:=s4 _ _ J;let aj:=s4 _ _ a7
  let t1:¬ (p:Int)∣Bs.co d (@d - 1):=by
   rw [T.top];intro z;have:=Ej `b z;omega
  refine AS rfl {I,r,d,rs,p,2,N,hr,hp,bp.mono `b,`a,`a,.inl {_,t1},λg ps Y s5 A l0 _ top rg g1 d1 d2=>?_};let B:Mp p ps:=⟨l0,top,rg⟩;let O:=s5 _ _ N;let D:=s5 _ _ aj;let t5:=(s3.trans s4).trans s5;let d1:=Im d1;let d2:=Im d2;let {u,v,w}:=Se F (i:=1) (n:=@d - 1) (by rw [<-one_eq,show 1*mr p d=mr p d by grind];exact T.mn) g1;refine DN (B8 {1,6,A,3,1,Ab (λU=>?_) (λU=>?_)})
  .let U:((~~~ps).length:Int) > 1:=nF U;rw [AI] at U;refine (show AF (DK _) _ _ _ _ from {1,FA D,?_});let lx:=@hL;refine {1,P,f,.ref g,7,D,by rw [lx];exact BZ (show @L<1000 by omega) (sz `b),?_}
   let pP:g≠P:=λz=>by
    rw [z,D] at A;injection A with q;injection q with q;let m0:V.int (Bs.co ps (@ps - 1))∈f:=by rw [q];exact Am.mpr {_,Fs `a,2}
    let {i,hi,ei}:=C3 m0;let {y,hy,_}:=hL.at (show i<@L by omega);rw [AR hi,ei] at hy;cases hy
   let S6:SDs (rm (upd Y P (.lst (f++[V.ref g]))) P) (f++[.ref g]) (L++[ps]):=((hL.tp (Cf P t5)).tp FM).snoc (CA pP (Kp.upd _ _ pP A));let s6:Same H (upd Y P (.lst (f++[V.ref g]))):=λc o h=>Kp.upd c o (Aq h hP) (t5 c o (s2 c o h));let R:upd Y P (.lst (f++[V.ref g])) I^^^(~~~d):=Kp.upd _ _ nP O;let S:upd Y P (.lst (f++[V.ref g])) g^^^(~~~ps):=Kp.upd _ _ pP A;let W:upd Y P (.lst (f++[V.ref g])) P^^^(f++[V.ref g]):=upd_same;generalize upd Y P (.lst (f++[V.ref g]))=H6 at S6 s6 R S W ⊢;show RQ K _ _ _;refine G7 (AZ (C7 {4,1,I,g,d,ps,(p:Int),12,2,R,S,B.pos,B.top,p0,bp,B9 bp rg,`b,`a,`a,λtt x y G a8 H7 s7 ht hx hy tx ty rl md hq=>{5,ht,2,?_}}));let e2:=Ef md;let {x1,ab}:=d1;let e3:=Iq (a:=x1) (b:=mr p G) B.mn (r:=mr p a8) (by rw [<-e2,ab];ext) ((HV _ a8).mono `a);let e4:mr p d=mr p ps*mr p G:=by rw [ab,e3.1]
   let {j,hj,mq}:=T.mn.quo F.dom.one B.mn e4;let {Mq,lq}:=tD pp mq tx hq;let dq:Dv (mr p G) (mr p d):={mr p ps,by rw [e4];ext};refine {8,p - (t+1),`a,x,_,G,t+1,f++[.ref g],L++[ps],2,a5,s6.trans s7,s7 _ _ W,S6.tp (Cf P s7),?_,hx,Mq,`a,?_,?_,?_,by rw [Bf];show @L+1+_<=_;omega,?_,2}
   .intro z;have:=s7 _ _ W;rw [<-z,hx] at this;injection this with this;injection this with this;let m:V.ref g∈G.map V.int:=by rw [this];exact Cp _ BX
    let {_,_,h}:=Am.mp m;cases h
   .rw [Bj,Fk,e,e4];show pd (L.map (mr p))*(mr p ps*mr p G)=pd (L.map (mr p))*(mr p ps*1)*mr p G;ext
   .intro l X;rcases BR.mp X with z | z
    .exact hl l z
    .rw [Ap.mp z];exact {B,`a,`a}
   .intro l X;rcases BR.mp X with z | z
    .exact hn l z
    .rw [Ap.mp z];exact {nR t,by rw [<-eR];exact d2}
   .intro i hi;by_cases q:i<t
    .exact Co.dvL (co i q) dq
    .rw [show i=t by omega,<-eR];let {x2,y2,h2}:=(sq.dv dF) (mr p ps) (mr p G) e4;refine {y2+x2*u*mr p ps,x2*v,?_};rw [<-h2];have:x2*mr p ps=x2*(u*(mr p ps*mr p G)+v*mr p rs):=by rw [<-e4];exact congrArg (x2*·) w
     rw [this];ext
  .let U:¬ ((~~~ps).length:Int) > 1:=λz=>U (nE z);rw [AI] at U;rw [Ka `a top,HX,eR] at w;let al:=hL.tp (Cf P t5);refine {8,p - (t+1),`a,I,_,d,t+1,f,L,2,a5,s2.trans t5,D,al,nP,O,T,l9,e,hl,hn,ll,λi hi=>?_,2};by_cases q:i<t
   .exact co i q
   .rw [show i=t by omega];exact ⟨u,v,w.symm⟩
 .let c:¬ ((~~~d).length:Int) > 1:=λz=>c (nE z);rw [AI] at c;have:=T.pos;let e1:d=[1]:=Ka `a T.top;rw [e1,HX] at e;exact {1,k P L C s2 hP {f,a3,hL.tp Bq} {by rw [e];ext,hl} hn}
end
section
open Po
theorem SDs.app {H:Hp}:∀ {xs ys:cW} {L M:List (cY)},SDs H xs L->SDs H ys M->SDs H (xs++ys) (L++M)
 | [],_,[],_,_,h=>h
 | _::_,_,_::_,_,⟨h,a⟩,b=>{h,SDs.app a b}
 | [],_,_::_,_,h,_=>h.elim
 | _::_,_,[],_,h,_=>h.elim
def SDs.rm {H j:Hp} {P:Addr} {xs ys:cW} {L M:List (cY)} (h:SDs H xs L) (k:H P^^^ys) (f:SDs j ys M) (n:∀ l∈L,0<@l):SDs (rm H P) xs L:=SDs.mk @h λi r d=>by
 let m:=(A3.mp d).1;let {a,o,c}:=h.at m;let e:L.getD i []=r:=by rw [AN,d];rfl
 rw [e] at c;refine {a,o,CA (λz=>?_) c};rw [z,k] at c;injection c with q;injection q with q;let p:=n r (Bb d);let u:=@f;have:@ys=@r:=by rw [q,AI]
 let {b,g,_}:=f.at (i:=0) `a;rw [q,Ah,AR p] at g;cases g
theorem Sw {R:Type} [Lean.Grind.CommRing R]:∀ {l:List (Po R)},(∀ f∈l,∃ k,0<k/\Mn f k)->∃ n,@l<=n/\Mn (pd l) n
 | [],_=>{0,AT _,by show Mn (1:Po R) 0;rw [one_eq];exact {2,GL 1}}
 | f::l,h=>by
   let {k,c,hk}:=h f BX;let {n,d,a}:=Sw λg b=>h g (Br _ b);exact {k+n,by show @l+1<=_;omega,hk.mul a}
def Ir {R:Type} [Lean.Grind.CommRing R] (a:(1:R)≠0) {f:Po R} {n m:Nat} (h:Mn f n) (h':Mn f m):n=m:=by
 rcases Nat.lt_trichotomy n m with q | q | q
 .have:=h.bn m q;rw [h'.top] at this;exact absurd this a
 .exact q
 .have:=h'.bn n q;rw [h.top] at this;exact absurd this a
def FLp.each {p:Int} {L:List (cY)} {W:Po (Zm p)} (h:FLp p L W):∀ f∈L.map (mr p),∃ k,0<k/\Mn f k:=λf b=>by
 let {l,a,rfl}:=Am.mp b;exact {@l - 1,by have:=(h.2 l a).2.1;omega,(h.2 l a).1.mn}
def FLp.len {p:Nat} (hp:Pr p) {L:List (cY)} {W:Po (Zm (p:Int))} {n:Nat} (h:FLp p L W) (m:Mn W n):@L<=n:=by
 let {k,hk,a}:=Sw h.each;rw [h.1] at a;rw [Ir (Ey hp).dom.one m a];rw [AI] at hk;exact hk
def FLp.dv {p:Int} {L:List (cY)} {W:Po (Zm p)} (h:FLp p L W) {l:cY} (a:l∈L):Dv (mr p l) W:=h.1 ▸ IN (Am.mpr ⟨l,a,rfl⟩)
def tH (h:KA K vs H Q E):Zi K (eC Q) (L2.start ["row","prime","factors","seeds","seed","pieces","factor"] vs) H:=by
 let {a,ns,p,rfl,ha,hp,p4,lz,l2,l9,bn,sm,k}:=h;let pp:=hp.two;let F:=Ey hp;let bp:=GY p4;let a8:ns≠[]:=DE.mp lz.1;refine AY (Cb (Ae {4,a,ns,p,2,ha,pp,bp.mono `b,`a,λz hz=>(bn z hz).mono `b,λ_=>by rw [Int.gcd_comm];exact KP hp sm.1,λO A f H1 s1 hm lm top md=>{Bi,λg ab=>?_}}));let top:=top a8;let em:=KY md;let M:Mp p A:={`a,top,md.1};let mW:=M.mn;rw [lm] at mW
 let sq:Sqf (mr p A):=by
  rw [em];refine sm.sqf.num (c:=Zm.of p (lst' ns)) ?_;rw [<-Zm.of_mul];have:(p:Int)∣Bs.co A (@A - 1) - f*Bs.co ns (@A - 1):=md.2 _;rw [top,lm] at this;exact Zm.of_eq.mpr (M8 this)
 let s2:=AO ab (.lst [.ref O]);let w:upd H1 g (.lst [.ref O]) g=some (HO.lst [V.ref O]):=upd_same;let R:=s2 _ _ hm;generalize upd H1 g (.lst [.ref O])=H2 at s2 w R ⊢;refine AY (Ae (Xs rfl w rfl {1,O,A,p,2,R,hp,p4,M,`a,`a,λsd Ls H3 s3 ac b0 bS dS sS=>?_}));rw [lm] at sS;let S:Sd p (mr p A) (@ns - 1) @Ls (ak p Ls):=⟨mW,sq,dS,sS⟩;let {ts,T,a0}:=ac;let af:=(s1.trans s2).trans s3;let tl:=@a0;refine Ij (AS rfl {sd,2,{_,SqL.of T},ForL.by (xs:=ts) (λi D v=>∃ (g:Addr) (x4 x5 B:cX) (n:cW) (L:List (cY)),D=[↥a,some (.int (p:Int)),↥g,↥sd,x4,x5,B]/\Same H3 v/\v g^^^n/\SDs v n L/\FLp p L (mr p A)/\((∀ l∈L,∀ j,j<i->∃ a,Dv (mr p l) (ak p Ls j - num a))\/@Ls<=@L)) {g,9,_,[.ref O],[A],2,Same.refl _,s3 _ _ w,{{O,2,s3 _ _ R},trivial},{by show mr p A*1=_;ext,λl m=>by rw [Ap.mp m];exact {M,`a,`a}},.inl λl _ j U=>absurd U (Bk j)} ?_ ?_ ?_})
 .rintro i D v _ ⟨g,x4,x5,B,n,L,rfl,s,_⟩;exact SqL.of (s _ _ T)
 .rintro i x D X W ⟨g,x4,x5,B,n,L,rfl,Y,b,Z,G,I⟩;let hi:i<@Ls:=by have:=(A3.mp W).1;omega
  let {sr,aj,a3}:=a0.at hi;rw [aj] at W;cases W;let lL:=G.len hp mW;let xl:=@Z;show BC _ _ _ _ [↥a,some (.int (p:Int)),↥g,↥sd,↥sr,x5,B] X;refine KU (B8 {1,6,b,1,6,Y _ _ T,3,1,Ab (λc=>?_) (λc=>?_)})
  .let c:(@n:Int)<(@ts:Int):=nF c;let I:=I.resolve_right `a;let am:Ls.getD i []∈Ls:=by rw [AN,AR hi];exact CN _
   let a4:=bS _ am;refine AY (show As AC _ _ _ from {AV _,λP hP=>?_});let s5:=AO hP (.lst []);let a5:upd X P (.lst []) P=some (HO.lst []):=upd_same;let fP:g≠P:=Aq b hP;let an:=Z.tp s5;generalize upd X P (.lst [])=H5 at s5 a5 an ⊢;refine Ij (AS rfl {g,2,{_,SqL.of (s5 _ _ b)},ForL.by (xs:=n) (λj D v=>∃ (B:cX) (C:cW) (u:List (cY)),D=[↥a,some (.int (p:Int)),↥g,↥sd,↥sr,↥P,B]/\Same X v/\v P^^^C/\SDs (rm v P) C u/\pd (u.map (mr p))=pd ((L.take j).map (mr p))/\(∀ l∈u,Mp p l/\2<=@l/\@l<=9)/\(∀ l∈u,∃ f∈L,Dv (mr p l) (mr p f))/\(∀ l∈u,∃ a,Dv (mr p l) (ak p Ls i - num a))/\@u<=8*j) {_,[],[],2,s5,a5,trivial,2,(λ_ z=>nomatch z),(λ_ z=>nomatch z),(λ_ z=>nomatch z),AV _} ?_ ?_ ?_})
   .rintro j D v _ ⟨B,C,u,rfl,s,_⟩;exact SqL.of (s _ _ b)
   .rintro j x D H6 W ⟨B,C,u,rfl,s6,J,y,ep,fp,dp,np,lp⟩;let U:j<@L:=by have:=(A3.mp W).1;omega
    let {f1,ao,ap}:=Z.at U;rw [ao] at W;cases W;let fm:L.getD j []∈L:=by rw [AN,AR U];exact CN _
    let N:=G.2 _ fm;let dW:=G.dv fm;show DK _ _ [↥a,some (.int (p:Int)),↥g,↥sd,↥sr,↥P,↥f1] H6;refine {1,FA J,C7 (AS rfl (AS rfl (AS rfl {f1,sr,L.getD j [],Ls.getD i [],p,2,s6 _ _ ap,s6 _ _ (Y _ _ a3),hp,p4,N.1,N.2.1,N.2.2,a4.1,a4.2,dW.tr (dS i hi),sq.dv dW,λr Lr H7 s7 rn hr fr nr=>?_})))};let {zs,ar,a6}:=hr;let a7:=s7 _ _ J;let lr:=fr.len hp N.1.mn;let zl:=@a6;let yl:=@y;refine {P,r,C,zs,7,a7,ar,sz `a,?_};let r1:=a6.rm a7 y λl m=>by have:=(fr.2 l m).2.1;omega
    let S8:SDs (rm (upd H7 P (.lst (C++zs))) P) (C++zs) (u++Lr):=((y.tp (Cf P s7)).app r1).tp FM;refine {_,C++zs,u++Lr,2,λc o h=>Kp.upd c o (Aq h hP) (s7 c o (s6 c o h)),upd_same,S8,?_,?_,?_,?_,by rw [Bf];omega}
    .rw [Bj,Fk,ep,fr.1]
     let e:L.take (j+1)=L.take j++[L.getD j []]:=by
      rw [C4,AN,AR U];rfl
     rw [e,Bj,Fk];show _=_*(mr p (L.getD j [])*1);ext
    .intro l m;rcases BR.mp m with z | z
     .exact fp l z
     .exact fr.2 l z
    .intro l m;rcases BR.mp m with z | z
     .exact dp l z
     .exact {_,fm,fr.dv z}
    .intro l m;rcases BR.mp m with z | z
     .exact np l z
     .exact nr l z
   .rintro D H6 ⟨B,C,u,rfl,s6,J,y,ep,fp,dp,np,lp⟩;refine {1,P,9,_,C,u,2,Y.trans s6,J,y.tp Bq,{?_,fp},.inl λl m j U=>?_}
    .rw [ep,xl,B4,G.1]
    .by_cases q:j<i
     .let {f,hf,d}:=dp l m;let {a,ha}:=I f hf j q;exact {a,d.tr ha}
     .rw [show j=i by omega];exact np l m
  .let c:¬ (@n:Int)<(@ts:Int):=λz=>c (nE z);exact {g,9,_,n,L,2,Y,b,Z,G,.inr `a}
 .rintro D X ⟨g,x4,x5,B,n,L,rfl,Y,b,Z,G,I⟩;refine {1,k g L X (af.trans Y) ⟨n,b,Z⟩ {Zm.of p f,by rw [<-em];exact mW,by rw [<-em];exact G} ?_}
  have:=S.atoms F.dom `a G.1 G.each (by
   rcases I with I | I
   .left;intro f hf j U;let {l,m,rfl}:=Am.mp hf;exact I l m j `a
   .right;rw [AI];exact I)
  exact λl m=>this _ (Am.mpr ⟨l,m,rfl⟩)
end
theorem tI:∀ (n:Nat) (D:cY),Lz D->(co D (@D - 1)).natAbs<=n->∃ (g:Int) (P:cY),g≠0/\D=P.map (g*·)/\Prim P/\Lz P/\@P=@D:=by
 intro n
 induction n with
 | zero=>intro D l h;exact absurd (Int.natAbs_eq_zero.mp `a) l.2
 | succ n p=>
   intro D l h;by_cases d:Prim D
   .exact ⟨1,D,`b,by simp,d,l,rfl⟩
   .let {c,f}:=Classical.not_forall.mp d;let a:∀ k,c∣co D k:=Classical.byContradiction λz=>f λy=>absurd y z;let q:c.natAbs≠1:=λz=>f λ_=>z;let j:c≠0:=λz=>l.2 (by have:=a (@D - 1);rw [z] at this;exact Int.zero_dvd.mp this)
    let e:D=(D.map (·/ c)).map (c*·):=by
     rw [Dy];refine (List.map_id D).symm.trans (D7 λz hz=>?_);let {i,r,rfl}:=C3 hz;have:=a i;unfold co at this;rw [AN,AR r] at this;exact (FT this).symm
    let b:(D.map (·/ c)).length=@D:=AI ..
    let m:∀ k,co D k=c*co (D.map (·/ c)) k:=λk=>by
     conv=>lhs;rw [e]
     exact Ip (c*·) (by simp) _ k
    let o:Lz (D.map (·/ c)):={by rw [b];exact l.1,λz=>l.2 (by rw [b] at z;rw [m,z,Dg])}
    let u:(co (D.map (·/ c)) ((D.map (·/ c)).length - 1)).natAbs<=n:=by
     let v:=m (@D - 1);rw [b];rw [v,BK] at h;let F:(co (D.map (·/ c)) (@D - 1)).natAbs≠0:=λz=>o.2 (by rw [b];exact Int.natAbs_eq_zero.mp z);let w:2<=c.natAbs:=by have:=Int.natAbs_pos.mpr j;omega
     have:=Ct (co (D.map (·/ c)) (@D - 1)).natAbs w;omega
    let {g,P,x,A,B,C,ll}:=p _ o u;refine {c*g,P,Bo j x,?_,B,C,`a};rw [e,A,Dy];refine D7 λz _=>?_;show c*(g*z)=c*g*z;ext
section
open Po
def NG {f g:Po Int} (h:AU f=AU g):f=g:=C_ λk=>by
 have:((f.c k:Int):Rat)=((g.c k:Int):Rat):=congrArg (λf=>Po.c f k) h;exact_mod_cast this
def Du (a:Int):AU (num a)=num (a:Rat):=Jn hmQ a
def Iu (a:Int) (f:Po Int):AU (E_ a f)=E_ (a:Rat) (AU f):=P9 hmQ a f
def Kc {q:Po Rat} {n:Nat} (a:Bn q n):∃ (N:Int) (Z:cY),N≠0/\@Z=n/\num (N:Rat)*q=AU (ro Z):=by
 let {N,Z,b,h}:=SM ((List.range n).map q.c);let d:@Z=n:=by have:=congrArg List.length h;simp at this;omega
 refine {N,Z,b,d,C_ λk=>?_};rw [D_];show (N:Rat)*q.c k=((co Z k:Int):Rat);by_cases c:k<n
 .have:=congrArg (λl=>l[k]?) h;let g:Z[k]?=some (co Z k):=by unfold co;rw [AN,AR `a];rfl
  simp only [Ah,DS c,g,Option.map_some] at this;injection this
 .rw [a k `a,AX `a];ext
def Iw (g:Int) (P:cY):ro (P.map (g*·))=num g*ro P:=C_ λk=>by
 rw [D_];exact Ip (g*·) (by simp) P k
def Sx {G:Po Rat} {d:Nat} (h:Mn G d):∃ (P:cY) (x:Rat),x≠0/\Prim P/\Lz P/\@P=d+1/\AU (ro P)=num x*G:=by
 let {N,Z,b,c,e}:=Kc h.bn;let a:(N:Rat)≠0:=λw=>b (Df.mp w)
 let L:Lz Z:={`a,λw=>by
  have:=congrArg (λf=>Po.c f d) e;rw [c,Nat.add_sub_cancel] at w;let this:(num (N:Rat)*G).c d=((co Z d:Int):Rat):=this;rw [D_,h.top,w] at this;exact a ()}
 let {g,P,j,k,m,n,ll}:=tI _ Z L (AT _);let o:(g:Rat)≠0:=λw=>j (Df.mp w);let i:=DI _ o;let p:=DI _ a;refine {P,(g:Rat)⁻¹*N,λw=>?_,m,n,`a,?_}
 .have:(1:Rat)=0:=by
   have:(g:Rat)*((g:Rat)⁻¹*N)*(N:Rat)⁻¹=0:=by rw [w];ext
   ext
  exact absurd this `b
 .rw [k,Iw,toQP_hm.mul,Du] at e;rw [BV,show num (g:Rat)⁻¹*num (N:Rat)*G=num (g:Rat)⁻¹*(num (N:Rat)*G) by ext,e,show num (g:Rat)⁻¹*(num (g:Rat)*AU (ro P))=num (g:Rat)⁻¹*num (g:Rat)*AU (ro P) by ext,<-BV,i,<-one_eq];ext
def NH {G:Po Rat} {P:cY} {x:Rat} (b:x≠0) (c:Prim P) (e:AU (ro P)=num x*G) {f:Po Int} (d:Dv G (AU f)):∃ K,f=ro P*K:=by
 let {q,a}:=d;let i:=DI _ b
 let a:AU f=AU (ro P)*(num x⁻¹*q):=by
  rw [a,e,show num x*G*(num x⁻¹*q)=num x⁻¹*num x*(G*q) by ext,<-BV,i,<-one_eq];ext
 generalize num x⁻¹*q=q at a;let {n,g}:=q.fin;let {N,Z,h,_,j}:=Kc (q:=q) g
 let m:num N*f=ro Z*ro P:=NG (by
  rw [toQP_hm.mul,toQP_hm.mul,Du,a,<-j];ext)
 let {A,o}:=X_ c (f:=f.c) {N,h,Z,λk=>by rw [CV,<-m,D_]};exact {ro A,C_ λk=>by rw [o k,CV,show ro P*ro A=ro A*ro P by grind]}
def tJ {ns a:cY} {h:Int} (m:Mt ns a h):∃ (P:cY) (K c:Po Int),2<=@P/\Lz P/\ro ns=ro P*K/\ro a=E_ (-h) (ro P)*c:=by
 let {G,d,k,n,g}:=m;let {P,x,i,j,o,ll,e}:=Sx k;let {K,p}:=NH i j e n;rw [<-Iu] at g;let {c,f}:=NH i j e g;refine {P,K,E_ (-h) c,`a,o,p,?_};let b:=IO (-h) (ro a);rw [show - -h=h by omega,f,(BU _).mul] at b;exact b.symm
def Sy {ns P:cY} {K:Po Int} (a:Lz ns) (d:Lz P) (e:ro ns=ro P*K):lst' P∣lst' ns:=by
 let {n,h}:=K.fin;rcases IM n h with z | ⟨m,_,c,b⟩
 .exfalso;rw [z,show ro P*0=0 by grind] at e;have:=congrArg (λf=>Po.c f (@ns - 1)) e
  exact a.2 (by let t:co ns (@ns - 1)=(0:Po Int).c (@ns - 1):=this
                rw [t,CI])
 .let j:=d.1;let g:Bn (ro P) (@P - 1+1):=(Cn P).mono `a;let t:=GM g b;rw [<-e] at t;let t:co ns (@P - 1+m)=lst' P*K.c m:=t;let i:lst' P*K.c m≠0:=Bo d.2 c;let o:@P - 1+m<@ns:=Classical.byContradiction λz=>i (by rw [<-t,AX `a])
  let p:@ns - 1<=@P - 1+m:=Classical.byContradiction λz=>a.2 (by
   have:=(g.mul b (k:=@P - 1+m+1) `a) (@ns - 1) `a;rw [<-e] at this;exact this)
  refine {K.c m,?_};rw [<-t,show @P - 1+m=@ns - 1 by omega];rfl
def Tl (p:Nat) (ns c l a:cY) (h:Int):Prop:=@a=@l/\∀ j u b,0<j->Lf p ((p:Int) ^ j) (ro ns) (mr p l) (@l - 1) u->Lf p ((p:Int) ^ j) (ro c) (mr p a) (@a - 1) b->(p:Int) ^ j∣(u.c (@l - 2) - b.c (@l - 2)) - ((@l - 1:Nat):Int)*h
def found {p:Nat} (hp:Pr p) {ns r:cY} (O:Sm p ns) (sm:Sm p r) (lz:Lz ns) {L B:List (cY)} {c c':Zm (p:Int)} (R:FLp p L (num c*mr p ns)) (w:FLp p B (num c'*mr p r)) (S:∀ l∈L,At (mr p l)) (x:∀ l∈B,At (mr p l)) {h:Int} (m:Mt ns r h):∃ l∈L,∃ v∈B,Tl p ns r l v h:=by
 let F:=Ey hp;let pp:=hp.two;let {P,K,T,p2,U,D,W}:=tJ m;let X:=CJ (p:Int);let {i,C,hi,_,Y}:=NB hp (λz=>O.1 (CO z (Sy lz U D))) U.1
 let G:mr p P=num C*(num i*mr p P):=by
  rw [show num C*(num i*mr p P)=num i*num C*mr p P by ext,<-BV,hi,<-one_eq];ext
 let m1:mr p ns=mr p P*md p K:=by unfold mr;rw [D,X.mul]
 let m2:mr p r=E_ (Zm.of p (-h)) (mr p P)*md p T:=by unfold mr;rw [W,X.mul,Jq]
 generalize hg:num i*mr p P=g at Y G
 let dg:Dv g (pd (L.map (mr p))):=by
  rw [R.1,m1,G];exact {num c*num C*md p K,()}
 let {f,y,df}:=Jr F (l:=L.map (mr p)) (λf y=>by
  let {l,k,rfl}:=Am.mp y;exact S l k) `a Y dg
 let {l,k,rfl}:=Am.mp y;let Z:=S l k;let dP:Dv (mr p l) (mr p P):=by rw [G];exact df.mulL _
 let I:=Z.mv (Zm.of p (-h))
 let J:Dv (E_ (Zm.of p (-h)) (mr p l)) (mr p r):=by
  let {q,hq}:=dP;rw [m2,hq,(BU _).mul];exact {E_ (Zm.of p (-h)) q*md p T,()}
 let {Ml,l2,l9}:=R.2 l k;let A:=FF (Zm.of p (-h)) Ml.mn
 let {f2,M,d2}:=Jr F (l:=B.map (mr p)) (λf y=>by
  let {l,k,rfl}:=Am.mp y;exact x l k) `a A (by rw [w.1];exact J.mulL _)
 let {v,n,rfl}:=Am.mp M;let same:=(x v n).same F I d2;let {N,a0,_}:=w.2 v n;let el:@v - 1=@l - 1:=Ir F.dom.one N.mn (by rw [same];exact A);refine {l,k,v,n,`a,λj u u' j0 lu o=>?_};let {d,hd}:∃ d,@l=d+2:={@l - 2,`a};rw [el] at o;rw [hd] at lu o ⊢;exact YE F `a j0 D W (λa b e=>O.sqf a b e) (λa b e=>sm.sqf a b e) Z dP same lu o
def tK {M r h w room:Int} (a:M∣w - h) (b:M∣r - w) (r2:2*r.natAbs<=M.natAbs) (e:(h.natAbs:Int)<room) (c:2*room<M):r=h:=by
 let d:M∣r - h:=by
  have:=DC b a;rw [show r - w+(w - h)=r - h by omega] at this;exact this
 refine Classical.byContradiction λz=>?_;have:=Dz (show 0<(r - h).natAbs by omega) (Ci.mpr d);omega
def JF.uniq {p:Nat} {F:Int} {j c:Nat} (a:JF p F j) (b:JF p F c):j=c:=by
 let {a1,i,rfl,a2}:=a;let {f,d,rfl,e}:=b;rcases Nat.lt_trichotomy i d with q | q | q
 .have:=e i q;omega
 .rw [q]
 .have:=a2 d q;omega
noncomputable def plist4:List Nat:=(List.range 4001).filter λp=>decide (8<p) && isP p
def tL:2 ^ 4400<plist4.foldr (·*·) 1:=by decide +kernel
def tM {N:Int} (h:N≠0) (b:N.natAbs<2 ^ 4400):∃ g,Pr g/\8<g/\g<=4000/\¬ (g:Int)∣N:=by
 have:∃ g∈plist4,¬ (g:Int)∣N:=by
  refine Classical.byContradiction λe=>?_
  let a:∀ p∈plist4,Pr p/\(p:Int)∣N:=λp hp=>by
   let c:=List.mem_filter.mp hp;exact {SN (Bool.and_eq_true_iff.mp c.2).2 (by have:=DB.mp c.1;omega),Classical.byContradiction λz=>e ⟨p,hp,z⟩}
  let d:=SO plist4 (List.nodup_range.filter _) a;have:=Dz `a (Ci.mpr d);let i:=tL;rw [Ck] at this;omega
 let {g,f,n}:=this;let c:=List.mem_filter.mp f;have:=DB.mp c.1;let q:=Bool.and_eq_true_iff.mp c.2;exact {g,SN q.2 `a,nF q.1,`a,n}
def Sz {f:cY} (p:Lz f) (v:2<=@f) (F:@f<=8) (b:∀ z∈f,Bd 148 z) (q:bP f):∃ D:Int,D≠0/\D.natAbs<2 ^ 2200/\∀ g:Nat,Pr g->¬ (g:Int)∣D->Sm g f:=by
 let h:(dI f).length=@f - 1:=by unfold dI;rw [AI,Bg]
 let r:(lst' f).natAbs<2 ^ 148:=Ce b _;let j:lst' f≠0:=p.2
 let w:∀ k,Bd 152 (co (dI f) k):=λk=>by
  rw [KM];by_cases hk:k+1<@f
  .let e:Bd 4 ((k+1:Nat):Int):=by unfold Bd;rw [Ck];have:(2:Nat) ^ 4=16:=by decide
                                  omega
   exact (e.mul (Ce b (k+1))).mono `a
  .rw [AX `a,Dg];exact EX _
 let m:∃ (U V:cY) (d:Int),d≠0/\d.natAbs<2 ^ 2048/\ro U*ro f+ro V*ro (dI f)=num d:=by
  by_cases c:@f=2
  .refine {[],[1],lst' f,j,BZ r (C2 `b `b),?_}
   match f,c with
   | [a,e],_=>
     let z:dI [a,e]=[e]:=by show [((0+1:Nat):Int)*e]=[e];rw [show ((0+1:Nat):Int)*e=e by omega]
     rw [z,Ft,Eg,Eg];show 0*ro [a,e]+num 1*num e=num e;rw [<-one_eq];ext
  .let x:Lz (dI f):=by
    refine {`a,?_};rw [KM,h,show @f - 1 - 1+1=@f - 1 by omega];exact Bo `a j
   let {U,V,d,n,o,y}:=bD (T:=2 ^ 2048) p x q (λk=>(Ce b k).mono `b) w v `a (DD `b) (by
    let A:2*((@f+(dI f).length)*2 ^ 152)<=2 ^ 157:=by
     have:(@f+(dI f).length)*2 ^ 152<=15*2 ^ 152:=Ct _ `a;let e:15*2 ^ 152*2<=2 ^ 157:=by decide +kernel
     omega
    refine Cr (Nat.pow_le_pow_left A _) (Cr (C2 (DD `b) (show @f+(dI f).length - 2<=13 by omega)) ?_);decide +kernel)
   refine {U,V,d,n,o,C_ λk=>?_};rw [C8,<-CV,<-CV,y k,<-Eg];rfl
 let {U,V,d,n,o,e}:=m;refine {d*lst' f,Bo n j,?_,λg B u=>{λz=>u (CO z (Int.dvd_mul_left ..)),?_}}
 .rw [BK];have:d.natAbs*(lst' f).natAbs<=2 ^ 2048*2 ^ 148:=EM (Dc o) (Dc r);rw [<-Nat.pow_add] at this;exact Cr this (Nat.pow_lt_pow_right `b `b)
 .let M:=CJ (g:Int);let e:=congrArg (md (g:Int)) e;rw [M.add,M.mul,M.mul,GW] at e;let {i,C}:=(Ey B).inv (Zm.of g d) λz=>u (CO (Zm.of_zero.mp z) (Int.dvd_mul_right ..));refine {num i*md g (ro U),num i*md g (ro V),?_}
  have:num i*(md g (ro U)*mr g f+md g (ro V)*mr g (dI f))=1:=by
   show num i*(md g (ro U)*md g (ro f)+md g (ro V)*md g (ro (dI f)))=1;rw [e,<-BV,C,one_eq]
  rw [<-this];ext
def tO {a c:cY} (f:Lz a) (d:Lz c) (h:2<=@a) (i:@a<=8) (m2:2<=@c) (j:@c<=8) (b:∀ z∈a,Bd 148 z) (k:∀ z∈c,Bd 148 z) (q:bP a) (m:bP c):∃ g:Nat,Pr g/\8<g/\g<=4000/\Sm g a/\Sm g c:=by
 let {D,o,p,r}:=Sz f h i b q;let {E,E0,u,v}:=Sz d m2 j k m
 let {g,e,w,x,n}:=tM (N:=D*E) (Bo o E0) (by
  rw [BK,show 4400=2200+2200 from rfl,Nat.pow_add];exact Nat.mul_lt_mul'' p u)
 exact {g,e,w,x,r g e λz=>n (CO z (Int.dvd_mul_right ..)),v g e λz=>n (CO z (Int.dvd_mul_left ..))}
end
section
open Po
def Kd {a:cY} (b:Lz a):∃ x y:Rat,y*x=1/\Mn (num x*AU (ro a)) (@a - 1):=by
 let c:((co a (@a - 1):Int):Rat)≠0:=λw=>b.2 (Df.mp w);let i:=DI _ c;refine {_,((co a (@a - 1):Int):Rat),by rw [Rat.mul_comm];exact i,by rw [D_];exact i,λk hk=>?_};rw [D_];have:=b.1;have:(AU (ro a)).c k=0:=((Cn a).map hmQ) k `a;rw [this];ext
def Ez {x y:Rat} (e:y*x=1) (f:Po Rat):f=num y*(num x*f):=by
 rw [show num y*(num x*f)=num y*num x*f by ext,<-BV,e,<-one_eq];ext
def Po.Mn.cancel {R:Type} [Lean.Grind.CommRing R] {g a b:Po R} {n:Nat} (h:Mn g n) (e:g*a=g*b):a=b:=by
 have:=h.uniq (q:=a - b) (by rw [show (a - b)*g=0 by grind];exact λk _=>CI k);ext
theorem Po.Mn.pow {R:Type} [Lean.Grind.CommRing R] {g:Po R} {n:Nat} (h:Mn g n):∀ j:Nat,Mn (g ^ j) (n*j)
 | 0=>by rw [show g ^ 0=(1:Po R) by ext,one_eq];exact {2,GL 1}
 | j+1=>by rw [show g ^ (j+1)=g ^ j*g by grind];exact (h.pow j).mul h
def NI (f:Po Int):AU (dP f)=dP (AU f):=C_ λk=>by
 show ((nR (k+1)*f.c (k+1):Int):Rat)=nR (k+1)*((f.c (k+1):Int):Rat);rw [Rat.intCast_mul];rfl
theorem tP:∀ (n:Nat) {g L c:Po Rat},Mn g n->dP g*L=c*g->∃ (m:Nat) (a:Po Rat),L ^ m=a*g:=by
 intro n
 induction n using Nat.strongRecOn with
 | _ n x=>
   intro g L c h e;cases n with
   | zero=>exact ⟨0,1,by rw [h.zero];ext⟩
   | succ m=>
     let {d,k,u,v,i,{r,w},{f,o},C}:=Po.gcd_ex fl_rat _ g (dP g) h;let one:u*r+v*f=1:=i.cancel ();let D:f*L=c*r:=i.cancel ()
     let p:L=r*(u*L+v*c):=by
      have:(u*r+v*f)*L=L:=by rw [one];ext
      ext
     let dS:dP d*r=d*(f - dP r):=by
      have:=GX d r;rw [<-w,o] at this;ext
     let y:k<m+1:=Classical.byContradiction λz=>by
      let b:Bn (dP g) (m+1):=λj F=>by
       show nR (j+1)*g.c (j+1)=0;rw [h.bn (j+1) `a];ext
      have:=i.uniq (q:=f) (by rw [show f*d=dP g by rw [o];grind];exact b.mono `a);let t:(dP g).c m=nR (m+1)*g.c (m+1):=rfl;rw [o,this,show d*0=0 by ext,CI,h.top] at t;let A:(nR (m+1):Rat)=((m+1:Nat):Rat):=rfl;rw [A] at t;have:((m+1:Nat):Rat)=0:=by ext
      have:m+1=0:=by exact_mod_cast this
      omega
     generalize u*L+v*c=t at p
     let {M,a,B}:=x k y (g:=d) (L:=L) (c:=(f - dP r)*t) i (by
      have:dP d*L=dP d*r*t:=by rw [p];ext
      rw [this,dS];ext)
     refine {M+1,a*t,?_};rw [show L ^ (M+1)=L ^ M*L by ext,B,w];have:a*d*L=a*d*(r*t):=by rw [<-p]
     rw [this];ext
theorem S0 {R:Type} [Lean.Grind.CommRing R] (d:Po R):∀ j:Nat,d*dP (d ^ j)=num (nR j)*d ^ j*dP d
 | 0=>by
   rw [show d ^ 0=(1:Po R) by ext,one_eq,Si];have:(nR 0:R)=0:=by ext
   rw [this,Fi];ext
 | j+1=>by
   let h:=S0 d j;let e:(nR (j+1):R)=nR j+1:=by ext
   rw [show d ^ (j+1)=d ^ j*d by ext,GX,e,Jl,<-one_eq];ext
theorem tQ {n l:Nat} {g L M:Po Rat} (p:Mn g n) (w:Mn L l) (e:dP (g*L)=g*M) (c:Co L M):Co L (dP L):=by
 let {d,k,u,v,f,{r,h},{a,i},m}:=Po.gcd_ex fl_rat _ L (dP L) w;cases k with
 | zero=>
   rw [f.zero] at m;exact ⟨u,v,m.symm⟩
 | succ k=>
   exfalso;let {U,W,o}:=c;let x:dP g*L=g*(M - dP L):=by rw [GX] at e;ext
   let y:dP d*r=d*(a - dP r):=by
    have:=GX d r;rw [<-h,i] at this;ext
   let z:∀ j:Nat,∃ q,g=d ^ j*q:=λj=>by
    induction j with
    | zero=>exact {g,()}
    | succ j A=>
      let {q,b}:=A
      let a1:d*dP g=d ^ j*(num (nR j)*dP d*q+d*dP q):=by
       rw [b,GX];have:=S0 d j;ext
      let B:(num (nR j)*dP d*q+d*dP q)*r=q*(M - dP L):=(f.pow j).cancel (by
       have:d*dP g*r=g*(M - dP L):=by rw [<-x,h];ext
       rw [a1,b] at this;ext)
      let D:q*M=d*(num (nR j)*q*(a - dP r)+dP q*r+q*a):=by
       rw [i] at B;have:num (nR j)*dP d*q*r=num (nR j)*q*(d*(a - dP r)):=by rw [<-y];ext
       ext
      refine {q*U*r+W*(num (nR j)*q*(a - dP r)+dP q*r+q*a),?_}
      let F:q=d*(q*U*r+W*(num (nR j)*q*(a - dP r)+dP q*r+q*a)):=by
       rw [h] at o;have:q=q*(U*(d*r)+W*M):=by rw [o];ext
       ext
      rw [b,show d ^ (j+1)=d ^ j*d by grind];ext
   let {q,b}:=z (n+1);let {j,C,_}:=p.quo fl_rat.dom.one (f.pow (n+1)) b;rw [Nat.succ_mul] at C;omega
def Rd.sc {b c ns d:cY} (h:Rd b c) {g s:Int} (m:g≠0) (o:s≠0) (e:ro ns=num g*ro b) (a:ro d=num s*ro c):Rd ns d:=by
 let f:∀ {z:Int},z≠0->(z:Rat)⁻¹*(z:Rat)=1:=λhz=>DI _ λw=>hz (Df.mp w);let i:=f m;let j:=f o;let e:=congrArg AU e;let a:=congrArg AU a;rw [toQP_hm.mul,Du] at e a;let {{S,p},{n,T,q},u,v,r}:=h;let k:=Ez j (AU (ro c));rw [<-a] at k;refine {{num (g:Rat)*S*num (s:Rat)⁻¹,by rw [e,p,k];ext},{n,num (s:Rat) ^ n*T*num (g:Rat)⁻¹,?_},u*num (s:Rat)⁻¹,v*num (s:Rat)⁻¹,?_}
 .rw [a,Lean.Grind.CommSemiring.mul_pow,q,e,Ez i (AU (ro b))];have:=BV (g:Rat)⁻¹ (g:Rat);rw [i,<-one_eq] at this;ext
 .rw [a,Io,<-r];have:=BV (s:Rat)⁻¹ (s:Rat);rw [j,<-one_eq] at this;ext
theorem Rd.sqr {ns a:cY} (h:Rd ns a):bP a:=by
 let {_,_,u,v,e}:=h;let {n,c}:=u.fin;let {m,d}:=v.fin;let {N,Z,f,_,g}:=Kc (q:=u) c;let {M,Y,i,_,j}:=Kc (q:=v) d
 let b:num (N*M)=ro (Z.map (M*·))*ro a+ro (Y.map (N*·))*ro (dI a):=NG (by
  rw [toQP_hm.add,toQP_hm.mul,toQP_hm.mul,Iw,Iw,toQP_hm.mul,toQP_hm.mul,Du,Du,Du,<-g,<-j,KZ,NI,Rat.intCast_mul,BV];have:num (N:Rat)*num (M:Rat)*(u*AU (ro a)+v*dP (AU (ro a)))=num (N:Rat)*num (M:Rat):=by rw [e];ext
  rw [<-this];ext)
 refine {N*M,Bo f i,Z.map (M*·),Y.map (N*·),λk=>?_};rw [CV,CV,<-C8,<-b];show N*M*EZ k=if k=0 then N*M else 0
 cases k with
 | zero=>rw [nC rfl];exact Int.mul_one _
 | succ k=>rw [nB `a];exact Dg _
def tR {ns a b:cY} (c:Lz ns) (d:Lz b) (f:@a=@ns+1 - @b) (h:ro ns=ro a*ro b):Lz a/\@a+@b=@ns+1:=by
 let g:=c.1;let i:=d.1;let top:co ns (@ns - 1)=(ro a*ro b).c (@ns - 1):=by rw [<-h];rfl
 let e:0<@a:=by
  rcases Dx @a with z | z
  .rw [B5.mp z,Ft,show 0*ro b=0 by ext,CI] at top;exact absurd top c.2
  .exact z
 refine {{e,λz=>c.2 ?_},`a};rw [top,show @ns - 1=@a - 1+(@b - 1) by omega,GM ((Cn a).mono `a) ((Cn b).mono `a)];show co a _*_=0;rw [z,Int.zero_mul]
def tS {g i v:cY} (P:Lz i) (S:Lz v) (R:RC (co g) (co (dI g)) i) (h:ro g=ro v*ro i):Rd g v:=by
 unfold Rd;let e:=congrArg AU h;rw [toQP_hm.mul] at e;let J:∀ {z:Int},z≠0->(z:Rat)⁻¹*(z:Rat)=1:=λhz=>DI _ λw=>hz (Df.mp w);let {x,y,T,C}:=Kd P;let {f,j,n,X}:=Kd S;let {c,Y,A,Z}:=R.right;let {d,d0,U,W,hU}:=R.qi;let B:num c*ro (dI g)=ro A*ro i:=C_ λk=>by rw [D_,<-CV];exact Z k
 let o:num d*ro i=ro U*ro g+ro W*ro (dI g):=C_ λk=>by rw [D_,C8,<-CV,<-CV];exact hU k
 let B:=congrArg AU B;let o:=congrArg AU o;rw [toQP_hm.mul,toQP_hm.mul,Du,KZ,NI] at B;rw [toQP_hm.add,toQP_hm.mul,toQP_hm.mul,toQP_hm.mul,Du,KZ,NI] at o;let r:=Ez (J Y) (dP (AU (ro g)));rw [B] at r;generalize AU (ro g)=F at *;generalize AU (ro v)=L at *;generalize AU (ro i)=G at *;generalize AU (ro A)=a at *;generalize AU (ro U)=u at *;generalize AU (ro W)=w at *;let nx:num y*num x=(1:Po Rat):=by rw [<-BV,T,one_eq]
 let D:num j*num f=(1:Po Rat):=by rw [<-BV,n,one_eq]
 let nd:num (d:Rat)⁻¹*num (d:Rat)=(1:Po Rat):=by rw [<-BV,J d0,one_eq]
 let {M,hM}:∃ M,M=num (c:Rat)⁻¹*a:={1};let r:dP F=G*M:=by rw [r,hM];ext
 let k1:num (d:Rat)=u*L+w*M:=C.cancel (by
  rw [e,<-e,r,e] at o;have:num x*(num (d:Rat)*G)=num x*(u*(L*G)+w*(G*M)):=by rw [o]
  ext)
 let cM:Co (num f*L) (num f*M):={num (d:Rat)⁻¹*u*num j,num (d:Rat)⁻¹*w*num j,by
  have:num (d:Rat)⁻¹*(u*L+w*M)*(num j*num f)=1:=by rw [<-k1,nd,D];ext
  rw [<-this];ext}
 let N:dP (num x*G*(num f*L))=num x*G*(num f*M):=by
  rw [show num x*G*(num f*L)=num x*(num f*F) by rw [e];ext,Io,Io,r];ext
 let {p,q,O}:=tQ C X N cM;rw [Io] at O;let I:=N;rw [GX] at I;let {m,b,h4}:=tP _ C (L:=num f*L) (c:=num f*M - dP (num f*L)) ();refine {{G,by rw [e];ext},{m+1,num j ^ (m+1)*b*num x*num f,?_},p*num f,q*num f,by rw [<-O];ext};rw [Ez n L,Lean.Grind.CommSemiring.mul_pow,show (num f*L) ^ (m+1)=(num f*L) ^ m*(num f*L) by ext,h4,e];ext
def tT {ns a:cY} {g:Int} (f:0<g) (e:ns=a.map (g*·)) (c:Lz ns) (d:∀ z∈ns,Bd 40 z):Lz a/\(∀ z∈a,Bd 40 z)/\@a=@ns:=by
 let l:@a=@ns:=by rw [e,AI]
 refine {{by have:=c.1;omega,λz=>c.2 ?_},λz hz=>?_,l}
 .rw [<-l,e,Ip (g*·) (by simp),z];exact Dg _
 .let b:=d (g*z) (by rw [e];exact Am.mpr ⟨z,hz,rfl⟩);refine Bd.le b ?_;rw [BK];exact Gb _ `a
def tU (h:J7 K vs H Q E):ZM K (eC Q) (L2.start ["row","short","simple"] vs) H:=by
 let {p,I,rfl,hp,J,bn,n9,k}:=h;refine AY (B7 {1,p,I,2,hp,`a,Mw J,λt j g H1 s1 S g0 T pr=>?_});let {n,u,ml}:=tT g0 T J bn;let v:@j<=9:=by omega
 let ne:I≠[]:=DE.mp J.1;let L:j≠[]:=DE.mp n.1;let pm:Prim j:=pr.resolve_left ne;show RF K _ [_,_,_] _;refine AY (Ae (AS rfl (Ae (AS rfl (B7 {1,t,j,40,2,S,`a,u,`b,λa H2 U ha=>?_})))));let w:=U _ _ S;refine ⟨t,a,j,dI j,148,9,4,rfl,w,ha,Mw n,wS n,λz hz=>(u z hz).mono `b,wT u v,v,by rw [Ih];omega,`b,`b,`b,`b,em9 v (by rw [Ih];omega),λb m H3 W hb rc _=>?_⟩;let {R,Pr}:=rc (.inl L);let M:=W _ _ w;let X:∃ A:cY,∀ k,co j k=cvL A (co m) k:=X_ Pr R.left;let a0:@m<=9:=by have:=KG R.lz n R.left;omega
 let N:∀ z∈m,Bd 148 z:=DvI.bd X n u v R.lz;refine {t,b,j,m,40,148,2,M,hb,R.lz,u,N,`a,`b,`a,`a,λno=>absurd X no,λr d O s4 F hl B=>?_};let B:=C_ (f:=ro j) (g:=ro d*ro m) λk=>(B k).trans (CV ..);let {o,le}:=tR n R.lz hl B;let Y:=tS R.lz o R B;let r0:=R.lz.1;let Z:∀ z∈d,Bd 148 z:=DvI.bd {m,λk=>by rw [CV,show ro m*ro d=ro d*ro m by ext,<-B];rfl} n u v o;let S4:=((s1.trans U).trans W).trans s4;let al:=FK o.1;let en:ro I=num g*ro j:=by rw [T];exact Iw g j
 show RD K _ [_,_,_] _;refine {4,5,F,al,3,1,Ab (λc=>?_) (λc=>?_)}
 .let c:=nF c;refine {1,?_};exact k r d O S4 F o `a Z (Y.sc (s:=1) `a `b en (by rw [<-one_eq];ext)) (show 0<co d (@d - 1) by omega)
 .let c:¬ co d (@d - 1) > 0:=λz=>c (nE z);refine DY (AS rfl {1,{_,SqL.of F},CompJ.lst (xs:=d.map V.int) (λi G q=>i<=@d/\Same O q/\G=((d.map λz=>-z).take i).map V.int) {AV _,Same.refl O,2} ?_ ?_ ?_})
  .rintro i G q ⟨h1,C,rfl⟩;exact {by rw [AI];exact h1,sz (by rw [AI,Ba];omega),SqL.of (C _ _ F)}
  .rintro i x G q D ⟨h1,C,rfl⟩;rw [Ah] at D;cases e:d[i]? with
   | none=>rw [e] at D;cases D
   | some z=>
     rw [e] at D;obtain rfl:=nL D;let a3:i<@d:=(A3.mp e).1;refine {4,`a,C,?_};rw [C4,Ah,e,Bj];rfl
  .rintro G q ⟨_,C,rfl⟩ a5 P
   let e:(d.map λz=>-z).take (~~~d).length=d.map λz=>-z:=by
    rw [AI];exact List.take_of_length_le (by rw [AI];exact AT _)
   rw [e]
   let cn:∀ k,co (d.map λz=>-z) k = - co d k:=λk=>by
    unfold co;rw [AN,AN,Ah];cases d[k]? <;> simp
   let er:ro (d.map λz=>-z)=num (-1)*ro d:=by
    rw [<-Iw];congr 1;exact D7 λz _=>by omega
   refine k a5 (d.map λz=>-z) _ ((S4.trans C).trans (AO P _)) upd_same {by rw [AI];exact o.1,?_} (by rw [AI];omega) ?_ (Y.sc (s:=-1) `a `b en er) ?_
   .rw [AI,cn];have:=o.2;omega
   .intro z hz;let {y,hy,rfl}:=Am.mp hz;exact (Z y hy).neg
   .show 0<co _ _;rw [AI,cn];have:=o.2;omega
end
section
open Po
def aU {K:W.Frag} {c:TE} {g:TG} {d:TS} {D:Ends} {b:L2.St} {H:Hp} (h:c b H (λx e=>∃ a,x=.ref a/\(∃ f,SqL K e a f)/\ForL K a g d D b e)):A4 (A5 K c) g d D b H:=h
def NJ {K:W.Frag} {c:TE} {capt:List (Option Nat)} {g:TG} {tc:TT} {d:TE} {b:L2.St} {H:Hp} {Q:VK} (h:c b H (λx e=>∃ a,x=.ref a/\(∃ f,SqL K e a f)/\CompF (ag K a) capt g tc d b Q e)):DX (A5 K c) capt g tc d b H Q:=h
def tV {a:TE} {b:L2.St} {H:Hp} {Q:Bool->Hp->Prop} (h:a b H λx d=>∃ c,x=.bl c/\Q c d):tB a b H Q:=h
def tW {o a:cW} {x:Option HO} (h:x^^^o) (h':x^^^a):o=a:=by rw [h] at h';injection h' with h';injection h'
theorem S3:∀ {l m:cY},l.map V.int=m.map V.int->l=m
 | [],[],_=>rfl
 | a::l,b::m,h=>by
   injection h with c d;injection c with c;rw [c,S3 d]
 | [],_::_,h=>nomatch h
 | _::_,[],h=>nomatch h
def at2 {ns:cY} (h:2<=@ns):M' (~~~ns) (-2)=some (V.int (co ns (@ns - 2))):=by
 unfold M' aa;rw [AI,nB `a,nC `a];show (~~~ns)[(-2+(@ns:Int)).toNat]?=_;rw [show (-2+(@ns:Int)).toNat=@ns - 2 by omega];exact GV `a
def tX {kvs:List (N_×V)} {g:cY} (e:kvs.map (·.1)=g.map Sum.inl) (k:g.Nodup) (h:Int) (v:V):∃ d:cY,(Fa kvs (.inl h) v).map (·.1)=d.map Sum.inl/\d.Nodup/\(∀ z,z∈d↔z=h\/z∈g)/\@d<=@g+1:=by
 unfold Fa;split
 .rename_i c;let {f,hk,i}:=List.any_eq_true.mp c;let i:f.1=Sum.inl h:=nF i;let m:(Sum.inl h:N_)∈g.map Sum.inl:=by rw [<-e,<-i];exact Am.mpr ⟨f,hk,rfl⟩
  let {z,hz,j}:=Am.mp m;injection j with j;subst j;refine {g,?_,k,λy=>{.inr,λy=>y.elim (λy=>y ▸ hz) id},Dd _};rw [<-e,Dy];exact D7 λf _=>by show (if f.1=Sum.inl z then (f.1,v) else f).1=f.1;split <;> rfl
 .rename_i c
  let n:h∉g:=λz=>c (List.any_eq_true.mpr (by
   let m:(Sum.inl h:N_)∈kvs.map (·.1):=by rw [e];exact Am.mpr ⟨h,z,rfl⟩
   let {f,hk,i}:=Am.mp m;exact {f,hk,nE i}))
  refine {g++[h],by rw [Bj,Bj,e];rfl,List.nodup_append.mpr ⟨k,by simp,λa o b p z=>n (by rw [Ap.mp p] at z;rwa [z] at o)⟩,λz=>?_,by rw [Bf];exact AT _};rw [BR,Ap];exact {λy=>y.symm,λy=>y.symm}
def Ke {H:Hp} {b c:Addr} {o:HO} (h:rm H c b=some o):b≠c:=λe=>by
 unfold rm at h;rw [nC e] at h;cases h
theorem NK:∀ {l:cY},l.Pairwise (·<=·)->l.Nodup->l.Pairwise (·<·)
 | [],_,_=>.nil
 | a::l,h,n=>by
   rw [List.pairwise_cons] at h;rw [List.nodup_cons] at n;refine List.pairwise_cons.mpr {λb c=>?_,NK h.2 n.2};have:=h.1 b c;have:a≠b:=λz=>n.1 (z ▸ c);omega
def RwE (p j:Nat) (b:cY) (H:Hp) (l:cY) (y:V):Prop:=∃ (u:Addr) (a:cY),y=.ref u/\H u^^^(~~~a)/\@a=@l/\Mp ((p ^ j:Nat):Int) a/\Lf p ((p:Int) ^ j) (ro b) (mr p l) (@l - 1) (ro a)
def MvE (p j:Nat) (a:cY) (H:Hp) (l:cY) (x:V):Prop:=∃ (t:Addr) (y:V),x=.ref t/\H t&&&[y,.int ((p ^ j:Nat):Int)]/\RwE p j a H l y
def RwE.tp {p j:Nat} {d l:cY} {H e:Hp} {y:V} (s:Same H e):RwE p j d H l y->RwE p j d e l y:=λ⟨u,f,a,b,c⟩=>{u,f,a,s _ _ b,c}
def MvE.tp {p j:Nat} {d l:cY} {H e:Hp} {y:V} (s:Same H e):MvE p j d H l y->MvE p j d e l y:=λ⟨u,f,a,b,c⟩=>{u,f,a,s _ _ b,c.tp s}
def FLp.le {p:Nat} (hp:Pr p) {L:List (cY)} {W:Po (Zm (p:Int))} {n:Nat} (h:FLp p L W) (m:Mn W n) {l:cY} (a:l∈L):@l<=n+1:=by
 let {q,e}:=h.dv a;let {j,b,_}:=m.quo (Ey hp).dom.one (h.2 l a).1.mn e;omega
def tY {ns a:cY} (c:Lz ns) (b:Lz a) {e f:Int} (g:∀ i,i+1<@ns->2 ^ (@ns - 1 - i)*(co ns i).natAbs<=(lst' ns).natAbs*2 ^ ((@ns - 1 - i)*e.toNat)) (j:∀ i,i+1<@a->2 ^ (@a - 1 - i)*(co a i).natAbs<=(lst' a).natAbs*2 ^ ((@a - 1 - i)*f.toNat)) {h:Int} (m:Mt ns a h):(h.natAbs:Int)<2 ^ e.toNat+2 ^ f.toNat:=by
 let {G,d,k,o,p}:=m;let u:=c.1;let v:=b.1
 have:=YF (A:=ro ns) (B:=ro a) (n:=@ns - 1) (m:=@a - 1) (r:=2 ^ e.toNat) (t:=2 ^ f.toNat) (h:=h) ((Cn ns).mono `a) ((Cn a).mono `a) c.2 b.2 (DD `b) (DD `b) (λi q=>by
   rw [<-Nat.pow_mul,Cq e.toNat];exact g i `a) (λi q=>by
   rw [<-Nat.pow_mul,Cq f.toNat];exact j i `a) k o p
 have:=Int.ofNat_lt.mpr this;push_cast at this;exact this
def tZ (h:MW K vs H Q E):Za K { nx:=λ_ B=>Q .non B,rt:=Q } (L2.start ["one","other","prime","room","floor","moved","likely","factor","found","part","row","h"] vs) H:=by
 let {a,b,ns,D,rfl,ha,Y,lz,a4,n2,m2,n8,m8,bn,bm,ds,c8,sq,dt,k}:=h;let {g,hg,g8,g4,gn,gm}:=tO lz a4 n2 n8 m2 m8 bn bm sq dt;let cb:∀ z∈ns,Bd 1000 z:=λz hz=>(bn z hz).mono `b;let cd:∀ z∈D,Bd 1000 z:=λz hz=>(bm z hz).mono `b
 let {w,hw,nw,mw,w8}:∃ w:Nat,(if ((~~~D).length:Int) > ((~~~ns).length:Int) then ((~~~D).length:Int) else ((~~~ns).length:Int))=(w:Int)/\@ns<=w/\@D<=w/\w<=8:=by
  rw [AI,AI];by_cases c:(@D:Int) > @ns
  .exact {@D,nC c,`a,`a,`a}
  .exact {@ns,nB c,`a,`a,`a}
 refine AY (B7 (IF {1,6,ha,1,6,Y,6,w,g,by rw [hw],hg,`a,g4,λp0 du T M=>?_}));refine while_by (λm σ B=>∃ p:Nat,σ=[↥a,↥b,some (.int (p:Int)),none,none,none,none,none,none,none,none,none]/\Same H B/\Pr p/\w<p/\p<=g/\m=g - p) _ {p0,2,Same.refl H,du,T,M,2} ?_;rintro m σ H1 ⟨p,rfl,s1,hp,wp,pg,rfl⟩;let ce:=s1 _ _ ha;let cf:=s1 _ _ Y
 let next:∀ H2,Same H1 H2->p≠g->∃ N:L2.St->Hp->Prop,(∀ ch B,N ch B->∃ m',m'<g - p/\∃ p:Nat,ch=[↥a,↥b,some (.int (p:Int)),none,none,none,none,none,none,none,none,none]/\Same H B/\Pr p/\w<p/\p<=g/\m'=g - p)/\AJ (bA (IV K) (AB (AA 2) AC)) (AE 2) { nx:=N,ct:=N,bk:=λσ H=>MZ K { nx:=λ_ B=>Q .non B,rt:=Q } σ H,rt:=Q } [↥a,↥b,some (.int (p:Int)),none,none,none,none,none,none,none,none,none] H2:=λH2 s2 ne=>by
  refine {_,λ_ _ h=>h,?_};refine G7 (B7 {1,p,g,2,hg,`a,g4,λp' dv T M=>?_});exact {g - p',`a,p',2,s1.trans s2,dv,`a,M,2}
 refine (show ER (EQ (tB _) (tB _)) _ _ _ from Ae {4,a,ns,p,2,ce,hp,`a,lz,`a,cb,λb1 H2 s2 a8=>{b1,2,Ab (λc1=>?_) (λc1=>?_)}})
 case refine_2=>
  refine Ab (λ_=>next H2 s2 λz=>c1 (a8.mpr (by rw [z];exact gn))) (λc=>absurd rfl c)
 let sn:=a8.mp c1;let ci:=s2 _ _ cf;refine (show tB _ _ _ _ from tV (Ae {4,b,D,p,2,ci,hp,`a,a4,`a,cd,λb2 H3 s3 ab=>{b2,2,Ab (λc2=>?_) (λc2=>?_)}}))
 .refine next H3 (s2.trans s3) λz=>?_;have:=ab.mpr (by rw [z];exact gm);rw [this] at c2;cases c2
 let sm:=ab.mp (by cases b2 with | false=>exact absurd rfl c2 | true=>rfl);let bw:=(s1.trans s2).trans s3;clear next a8 ab s1 s2 s3 ce cf ci;let pp:=hp.two;let p4:p<=4000:=by omega
 let dw:=bw _ _ ha;let dx:=bw _ _ Y;show MZ K _ _ _;refine AY (AZ (AZ (I_ (IF (B7 {1,a,ns,2,dw,lz,`a,bn,ds,λe H4 s4 eo he=>I_ {6,3,{?_,?_},?_}})))))
 .split <;> omega
 .let b1:=Ii Bd.one;split <;> omega
 let ee:(1:Int)*2 ^ (if (0:Int) > e then (0:Int) else e).toNat=2 ^ e.toNat:=by
  rw [Int.one_mul];by_cases c:(0:Int) > e
  .rw [nC c,show e.toNat=0 by omega];rfl
  .rw [nB c]
 let dy:=s4 _ _ dx;refine AZ (I_ (IF (B7 {1,b,D,2,dy,a4,`a,bm,c8,λf H5 s5 ep hf=>I_ {6,3,{?_,?_},?_}})))
 .split <;> omega
 .let b1:=Ii Bd.one;split <;> omega
 let ff:(1:Int)*2 ^ (if (0:Int) > f then (0:Int) else f).toNat=2 ^ f.toNat:=by
  rw [Int.one_mul];by_cases c:(0:Int) > f
  .rw [nC c,show f.toNat=0 by omega];rfl
  .rw [nB c]
 let near:∀ h,Mt ns D h->(h.natAbs:Int)<2 ^ e.toNat+2 ^ f.toNat:=λh m=>tY lz a4 he hf m;let {v,ac}:∃ v:Int,v=1*2 ^ (if (0:Int) > e then (0:Int) else e).toNat+1*2 ^ (if (0:Int) > f then (0:Int) else f).toNat:={1};let b3:v=2 ^ e.toNat+2 ^ f.toNat:=by rw [ac,ee,ff]
 let {r0,br}:0<v/\Bd 202 v:=by
  let cj:∀ n:Nat,((2:Int) ^ n)=((2 ^ n:Nat):Int):=λn=>by push_cast;rfl
  let T:=C2 (show 0<2 by decide) (show e.toNat<=200 by omega);let M:=C2 (show 0<2 by decide) (show f.toNat<=200 by omega);let h3:0<2 ^ e.toNat:=DD `b;unfold Bd;rw [b3,cj,cj];let h4:(2:Nat) ^ 202=2 ^ 200*4:=by decide
  let h5:0<(2:Nat) ^ 200:=DD `b;generalize (2:Nat) ^ 200=x at *;generalize (2:Nat) ^ e.toNat=y at *;generalize (2:Nat) ^ f.toNat=z at *;omega
 refine {3,?_};show RM K _ [↥a,↥b,some (.int (p:Int)),some (.int (1*2 ^ (if (0:Int) > e then (0:Int) else e).toNat+1*2 ^ (if (0:Int) > f then (0:Int) else f).toNat)),none,none,none,none,none,none,none,none] H5;rw [<-ac];rw [<-b3] at near;let dz:=s4.trans s5;refine AY (AZ {8,{`a,?_},?_})
 .let b1:=Ii br;omega
 let {F,hF,eu,F0,bF}:∃ F:Int,F=v*2 ^ (64:Int).toNat/\2*v<F/\0<F/\Bd 400 F:=by
  let ck:(64:Int).toNat=64:=rfl;let q:(2:Int) ^ 64=18446744073709551616:=by decide
  refine {1,by rw [ck,q];omega,by rw [ck,q];omega,?_};exact (br.mul (show Bd 65 ((2:Int) ^ 64) by unfold Bd;decide)).mono `b
 let b4:=bw.trans dz;let cl:=b4 _ _ ha;let cm:=b4 _ _ Y;generalize eq:w=w at *;show RK K _ [↥a,↥b,some (.int (p:Int)),some (.int v),some (.int (v*2 ^ (64:Int).toNat)),none,none,none,none,none,none,none] H5;rw [<-hF];refine AY (DY (Ae {4,b,D,p,2,cm,hp,p4,a4,m2,`a,cd,sm,λr2 O H6 s6 b3 ⟨c',cn,b5⟩ cp=>?_}));let {ts,cq,cr}:=b3;let ew:@O<=7:=by have:=b5.len hp cn;omega
 let tl:=@cr;let {i0,ex,ey,_,_}:=NB hp sm.1 a4.1;let bl:∀ {L:List (cY)} {i:Nat},i<@L->L.getD i []∈L:=λ{L i} hi=>by rw [AN,AR hi];exact CN _
 let bp:∀ {c:Zm (p:Int)} {Z:cY} {L:List (cY)},Sm p Z->Mn (num c*mr p Z) (@Z - 1)->FLp p L (num c*mr p Z)->∀ l∈L,Dv (mr p l) (mr p Z):=λ{c Z L} sr mc fl l hl=>by
  let {q,hq}:=fl.dv hl;let t:=mc.top;rw [D_] at t;refine {num ((mr p Z).c (@Z - 1))*q,?_}
  have:num ((mr p Z).c (@Z - 1))*(num c*mr p Z)=mr p Z:=by
   rw [show num ((mr p Z).c (@Z - 1))*(num c*mr p Z)=num c*num ((mr p Z).c (@Z - 1))*mr p Z by ext,<-BV,t,<-one_eq];ext
  rw [<-this,hq];ext
 refine {r2,2,{_,SqL.of cq},CompJ.lst (xs:=ts) (λi ys B=>Same H6 B/\@ys=i/\i<=@ts/\∀ t,t<i->∃ x j,ys[t]?=some x/\JF p F j/\MvE p j D B (O.getD t []) x) {Same.refl _,2,AV _,λt G=>absurd G (Bk t)} ?_ ?_ ?_}
 .rintro i ys B ⟨s,yl,il,_⟩;exact {il,by rw [yl];exact sz `a,SqL.of (s _ _ cq)}
 .rintro i x ys H7 U ⟨s7,yl,il,hy⟩;let hi:i<@O:=by have:=(A3.mp U).1;omega
  let {fa,bx,cs}:=cr.at hi;rw [bx] at U;cases U;let fm:=bl hi;let fi:=b5.2 _ fm;refine (show AL _ _ _ _ _ _ _ from Lk {4,4,b,fa,D,O.getD i [],F,p,2,s7 _ _ (s6 _ _ cm),s7 _ _ cs,hp,p4,a4,`a,bm,sm.1,fi.1,fi.2.1,fi.2.2,bp sm cn b5 _ fm,sm.sqf,F0,bF,λt u us j H8 s8 G hu hj bj ul Mu lf=>?_});refine {s7.trans s8,by rw [Bf,yl];rfl,`a,λt' cw=>?_};by_cases q:t'<i
  .let {x,j',U,T,M}:=hy t' q;exact {x,j',by rw [Eh `a];exact U,T,M.tp s8}
  .let e:t'=i:=by omega
   subst e;exact {_,j,by rw [EI `a,yl,DT];rfl,hj,t,1,G,u,us,2,hu,ul,Mu,lf}
 rintro ys H7 ⟨s7,yl,_,hy⟩ mv e0;rw [tl] at yl hy;let sv:=AO e0 (.lst ys);let af:upd H7 mv (.lst ys) mv=some (HO.lst ys):=upd_same
 let cz:∀ t,t<@O->∃ x j,ys[t]?=some x/\JF p F j/\MvE p j D (upd H7 mv (.lst ys)) (O.getD t []) x:=λt G=>by
  let {x,j,T,M,h3}:=hy t G;exact {x,j,T,M,h3.tp sv}
 let aj:=(s6.trans s7).trans sv;generalize upd H7 mv (.lst ys)=H8 at sv af cz aj ⊢;refine AY (show LJ _ _ _ from λy al=>?_);let sy:=AO al (HO.dK []);let d0:upd H8 y (HO.dK []) y=some (HO.dK []):=upd_same;let d3:mv≠y:=Aq af al;let bz:=sy _ _ (aj _ _ cl);let bq:=sy _ _ af;let d4:=aj.trans sy;let na:a≠y:=Aq (aj _ _ cl) al;let nM:∀ {t:Nat},t<@O->∀ {x:V} {j:Nat},MvE p j D H8 (O.getD t []) x->MvE p j D (rm (upd H8 y (HO.dK [])) y) (O.getD t []) x:=λ{t} G {x j} h=>h.tp (KW al)
 let d5:∀ t,t<@O->∃ x j,ys[t]?=some x/\JF p F j/\MvE p j D (rm (upd H8 y (HO.dK [])) y) (O.getD t []) x:=λt G=>by
  let {x,j,T,M,h3}:=cz t G;exact {x,j,T,M,nM G h3}
 let d7:∀ b o,H8 b=some o->b≠y:=λb o Y=>Aq Y al;generalize ez:upd H8 y (HO.dK [])=HA at sy d0 bz bq d4 d5 ⊢;refine Ij (Ae {4,a,ns,p,2,bz,hp,p4,lz,n2,`a,cb,sn,λr1 L HB sB e2 ⟨c,mc,fl⟩ e3=>?_});let {us,b9,d9}:=e2;let ln:@L<=7:=by have:=fl.len hp mc;omega
 let ul:=@d9;let am:=sB _ _ d0;let e4:r1≠y:=λz=>by rw [z,am] at b9;cases b9
 let bs:=sB _ _ bq;let e5:=sB _ _ bz
 let e6:∀ t,t<@O->∃ x j,ys[t]?=some x/\JF p F j/\MvE p j D (rm HB y) (O.getD t []) x:=λt G=>by
  let {x,j,T,M,h3}:=d5 t G;exact {x,j,T,M,h3.tp (Cf y sB)}
 let da:∀ i,i<@L->∃ a,us[i]?=↥a/\rm HB y a^^^((L.getD i []).map V.int):=λi hi=>by
  let {fa,T,M}:=d9.at hi;exact {fa,T,CA (λz=>by rw [z,am] at M;cases M) M}
 let c0:∀ B,Same (rm HB y) B->Same H B:=λB s b o Y=>s b o (CA (d7 b o (aj _ _ (b4 _ _ Y))) (sB _ _ (d4 _ _ (b4 _ _ Y))));refine {r1,2,{_,SqL.of b9},ForL.by (xs:=us) (λi σ B=>∃ (x7 x8 x9 P R:cX) (A:List (N_×V)) (hs:cY),σ=[↥a,↥b,some (.int (p:Int)),some (.int v),some (.int F),↥mv,↥y,x7,x8,x9,P,R]/\Same (rm HB y) B/\B y=some (.dK A)/\A.map (·.1)=hs.map Sum.inl/\hs.Nodup/\@hs<=7*i/\(∀ h∈hs,(h.natAbs:Int)<v)/\∀ S,S<i->∀ t,t<@O->∀ h,(h.natAbs:Int)<v->Tl p ns D (L.getD S []) (O.getD t []) h->h∈hs) {none,none,none,none,none,[],[],2,Bq,am,2,List.nodup_nil,AT _,(λh z=>nomatch z),λS z=>absurd z (Bk S)} ?_ ?_ ?_}
 .rintro i σ B _ ⟨x7,x8,x9,P,R,A,hs,rfl,s,_⟩;exact SqL.of (s _ _ (CA e4 b9))
 .rintro i x σ HC U ⟨x7,x8,x9,P,R,A,hs,rfl,sC,c3,ek,nd,hl,a0,an⟩;let hi:i<@L:=by have:=(A3.mp U).1;omega
  let {fa,bx,ao}:=da i hi;rw [bx] at U;cases U;let fm:=bl hi;let fi:=fl.2 _ fm;let e7:=fl.le hp mc fm;generalize e8:L.getD i []=l at ao fm fi e7;refine AY (Lk {4,4,a,fa,ns,l,F,p,2,sC _ _ (CA na e5),sC _ _ ao,hp,p4,lz,`a,bn,sn.1,fi.1,fi.2.1,fi.2.2,bp sn mc fl _ fm,sn.sqf,F0,bF,λt u vs j HD sD G hu hj bj vl Mu lf=>?_});let bt:=sD _ _ (sC _ _ ao);let db:=sD _ _ c3;let M0:(2:Int)*v<((p ^ j:Nat):Int):=by have:=hj.1;omega
  refine AY (Ae (AZ {1,6,bt,3,?_}));refine GK rfl G rfl {6,`a,bj.mono `b,λpart q0 q1 W=>?_};let df:((~~~l).length:Int) - 1=((@l - 1:Nat):Int):=by rw [AI];have:=fi.2.1;omega
  let W:=W (by
   rw [df,Int.gcd_comm];refine My hp (λz=>?_) j;have:=Ej (by have:=fi.2.1;omega) z;omega)
  rw [df] at W;let c4:Bd 850 part:=bj.le `a;let ap:Same (rm HB y) HD:=sC.trans sD;refine aU (NJ (AS rfl {mv,2,{_,SqL.of (ap _ _ (CA d3 bs))},CompF.lst (xs:=ys) (λS zs B=>B=HD/\S<=@ys/\@zs<=S/\(∀ z∈zs,∃ l',@l'=@l/\RwE p j D (rm HD y) l' z)/\∀ t,t<S->(O.getD t []).length=@l->∃ z∈zs,RwE p j D (rm HD y) (O.getD t []) z) {2,AV _,AT _,(λz h=>nomatch h),λt G=>absurd G (Bk t)} ?_ ?_ ?_}))
  .rintro S zs B ⟨rfl,il,zl,_⟩;exact {il,sz `a,SqL.of (ap _ _ (CA d3 bs))}
  .rintro S x zs B U ⟨rfl,il,zl,hz,ar⟩;let dg:S<@O:=by have:=(A3.mp U).1;omega
   let {x',j',e9,ea,t',y',rfl,cw,hR}:=e6 S dg;rw [e9] at U;cases U;let ej:=ea.uniq hj;subst ej;let hR:=hR.tp (show Same (rm HB y) (rm B y) from λb o Y=>CA (Ke Y) (ap b o Y));let {u',J,rfl,a7,ba,bb,di}:=hR;let eb:B u'^^^(~~~J):=Bq _ _ a7;let dj:=ap _ _ cw;refine (show Ak _ _ _ _ from B8 (AZ (Ds (GK rfl dj rfl {6,eb,Ds (AS rfl {6,bt,2,1,Ab (λcc=>?_) (λcc=>?_)})}))))
   .refine GK rfl dj rfl {2,`a,by rw [Bf];show @zs+1<=_;omega,λz C=>?_,λt G a3=>?_}
    .rcases BR.mp C with q | q
     .exact hz z q
     rw [Ap.mp q];let e:=nF cc;injection e with e;rw [AI,AI] at e;exact {O.getD S [],`a,u',J,2,a7,ba,bb,di}
    .by_cases q:t<S
     .let {z,T,M}:=ar t q a3;exact {z,FO _ T,M}
     .rw [show t=S by omega];exact {_,Cp _ BX,u',J,2,a7,ba,bb,di}
   .refine {2,`a,`a,hz,λt G a3=>?_};by_cases q:t<S
    .exact ar t q a3
    .exfalso;rw [show t=S by omega] at a3;exact cc (nE (by rw [AI,AI];congr 1;omega))
  rintro zs B ⟨rfl,_,zl,hz,ar⟩ q hq;rw [yl] at zl ar;let a5:=AO hq (.lst zs);let c5:upd B q (.lst zs) q=some (HO.lst zs):=upd_same;let nq:q≠y:=λz=>by rw [z,db] at hq;cases hq
  let bc:=a5 _ _ G;let bd:=a5 _ _ hu;let bf:=a5 _ _ db;let dk:=ap.trans a5
  let dm:∀ z∈zs,∃ l',@l'=@l/\RwE p j D (rm (upd B q (.lst zs)) y) l' z:=λz C=>by
   let {l',T,M}:=hz z C;exact {l',T,M.tp (Cf y a5)}
  let bu:∀ t,t<@O->(O.getD t []).length=@l->∃ z∈zs,RwE p j D (rm (upd B q (.lst zs)) y) (O.getD t []) z:=λt G a3=>by
   let {z,T,M}:=ar t G a3;exact {z,T,M.tp (Cf y a5)}
  generalize upd B q (.lst zs)=H9 at a5 c5 bc bd bf dk dm bu ⊢;let nt:t≠y:=λz=>by rw [z,bf] at bc;cases bc
  let nu:u≠y:=λz=>by rw [z,bf] at bd;cases bd
  refine {q,2,{_,SqL.of c5},ForL.by (xs:=zs) (λn σ B=>∃ (P R:cX) (A:List (N_×V)) (I:cY),σ=[↥a,↥b,some (.int (p:Int)),some (.int v),some (.int F),↥mv,↥y,↥fa,↥t,some (.int part),P,R]/\Same (rm H9 y) B/\B y=some (.dK A)/\A.map (·.1)=I.map Sum.inl/\I.Nodup/\@I<=7*i+n/\(∀ h∈I,(h.natAbs:Int)<v)/\(∀ h∈hs,h∈I)/\∀ n',n'<n->∀ z,zs[n']?=some z->∀ l',RwE p j D (rm H9 y) l' z->∀ h,(h.natAbs:Int)<v->Tl p ns D l l' h->h∈I) {P,R,A,hs,2,Bq,bf,ek,nd,`a,a0,(λh z=>z),λn' z=>absurd z (Bk n')} ?_ ?_ ?_}
  .rintro n σ B _ ⟨P,R,A,I,rfl,s,_⟩;exact SqL.of (s _ _ (CA nq c5))
  .rintro n z σ HG bg ⟨P,R,A,I,rfl,sG,bh,ek,nd,hl,a0,a6,hn⟩;let {l',ec,u',J,rfl,a7,ba,bb,_}:=dm z (Bb bg);let l2:=fi.2.1;let dn:=sG _ _ (CA nt bc);let ed:=sG _ _ (CA nu bd);let bd1:Bd 851 (Bs.co vs (@vs - 2) - Bs.co J (@J - 2)):=Bd.sub (Ce (B9 bj Mu.rg) _) (Ce (B9 bj bb.rg) _);let dp:=sG _ _ a7;refine AY (Ae (AZ (AZ (AZ (GK rfl dn rfl {1,5,ed,at2 `a,4,5,dp,at2 `a,3,8,CK bd1 c4,GK rfl dn rfl {6,`a,λh0 d1 d2=>?_}})))))
   let dq:∀ X,RwE p j D (rm H9 y) X (.ref u')->∀ h,(h.natAbs:Int)<v->Tl p ns D l X h->h=h0:=by
    rintro X ⟨f0,er,e,ef,es,et,bv⟩ h hh ⟨t1,t2⟩;injection e with e;subst e;let e:=S3 (tW ef a7);rw [e] at bv;let {_,i1,rfl,_}:=hj;let d:=t2 _ (ro vs) (ro J) (DD `b) lf bv;rw [<-Sn] at d;refine (tK (room:=v) (w:=(Bs.co vs (@vs - 2) - Bs.co J (@J - 2))*part) ?_ d1 d2 hh M0).symm;let {x,U}:=d;let {z,hz}:=W;let U:(Bs.co vs (@l - 2) - Bs.co J (@l - 2)) - ((@l - 1:Nat):Int)*h=_:=U;rw [vl,ba,ec];generalize Bs.co vs (@l - 2) - Bs.co J (@l - 2)=w at U ⊢;generalize ((@l - 1:Nat):Int)=d at U hz
    exact {x*part+z*h,by
     let e1:w*part - h=(w - d*h)*part+(part*d - 1)*h:=by ext
     rw [e1,U,hz];ext}
   refine KU (B8 (AZ (Ds (AS rfl {4,3,1,Ab (λcc=>?_) (λcc=>?_)}))))
   .let cc:=nF cc;let {eg,eh,ei,b0,f1}:=tX ek nd h0 (.bl true);let kl:@A=@I:=by have:=congrArg List.length ek;rwa [AI,AI] at this
    let f2:=(A3.mp bg).1;refine (show AJ _ _ _ _ _ from {4,y,h0,A,7,bh,BZ (show @A<1000 by omega) (sz `b),?_});refine {9,_,eg,2,λb o Y=>by rw [Ai (Ke Y)];exact sG b o Y,upd_same,eh,ei,`a,λh hm=>?_,λh hm=>(b0 h).mpr (.inr (a6 h hm)),λn' bi z C X hR h hh tl=>(b0 h).mpr ?_}
    .rcases (b0 h).mp hm with rfl | hm
     .split at cc <;> omega
     .exact a0 h hm
    .by_cases q:n'<n
     .exact .inr (hn n' q z C X hR h hh tl)
     .rw [show n'=n by omega,bg] at C;injection C with C;exact .inl (dq X (by rw [C];exact hR) h hh tl)
   .let cc:¬ (if h0<0 then -h0 else h0)<v:=λz=>cc (nE z);refine {9,A,I,2,sG,bh,ek,nd,`a,a0,a6,λn' bi z C X hR h hh tl=>?_};by_cases q:n'<n
    .exact hn n' q z C X hR h hh tl
    .exfalso;rw [show n'=n by omega,bg] at C;injection C with C;have:=dq X (by rw [C];exact hR) h hh tl;subst this;split at cc <;> omega
  .rintro σ HG ⟨P,R,A,I,rfl,sG,bh,ek,nd,hl,a0,a6,hn⟩;refine {9,9,_,A,I,2,λb o Y=>sG b o (CA (Ke Y) (dk b o Y)),bh,ek,nd,`a,a0,λS dg t G h hh tl=>?_};by_cases q:S<i
   .exact a6 h (an S q t G h hh tl)
   .rw [show S=i by omega,e8] at tl;let {z,el,hR}:=bu t G tl.1;let {n',bi,e}:=C3 el;exact hn n' bi z (by rw [AR bi,e]) _ hR h hh tl
 .rintro σ HC ⟨x7,x8,x9,P,R,A,hs,rfl,sC,c3,ek,nd,hl,a0,an⟩;refine BT (Ds (AS rfl {y,A,hs,2,c3,ek,`a,λr os hr pm pw=>?_}));refine k r os _ ((c0 HC sC).trans (AO hr _)) upd_same (NK pw (pm.nodup_iff.mpr nd)) (λh hm=>?_) (by rw [pm.length_eq];omega) λh hm=>pm.mem_iff.mpr ?_
  .have:=a0 h (pm.mem_iff.mp hm);exact br.le `a
  .let {l,a3,l',dr,tl}:=found hp sn sm lz fl b5 e3 cp hm;let {i,hi,rfl}:=C3 a3;let {t,G,rfl}:=C3 dr;refine an i `a t G h (near h hm) ?_;rw [AN,AR hi,AN,AR G];exact tl
end
section
open Po
theorem NL {f h:Po Rat} (c:Co f h):∀ n:Nat,Co (f ^ n) h
 | 0=>⟨1,0,()⟩
 | n+1=>by rw [show f ^ (n+1)=f ^ n*f by grind];exact (NL c n).mulP c
def NM {x y:Rat} (e:y*x=1) {g f:Po Rat} (d:Dv g (num x*f)):Dv g f:=by rw [Ez e f];exact d.mulL _
def sI {A B a b:cY} (p:Lz a) (q:Rd A a) (r:Rd B b) (h:Int):Mt A B h↔Mt a b h:=by
 let {{S,w},{n,T,z},_}:=q;let {{N,C},{D,O,F},_}:=r;constructor
 .rintro ⟨G,d,f,i,j⟩;let {x,y,I,J}:=Kd p;let {g,k,u,v,m,L,M,o}:=Po.gcd_ex fl_rat _ _ (E_ (h:Rat) (AU (ro b))) J;cases k with
  | succ k=>exact {g,k,m,NM I L,M}
  | zero=>
    exfalso;rw [m.zero] at o;let c:Co (AU (ro a)) (E_ (h:Rat) (AU (ro b))):={u*num x,v,by rw [o];ext};let c:=(NL (NL c n).symm D).symm;rw [<-(BU (h:Rat)).pow,z,F,(BU _).mul] at c;let {u,v,e}:=c;have:Dv G (num (1:Rat)):=by rw [<-one_eq,<-e];exact ((i.mulL T).mulL u).add ((j.mulL _).mulL v)
    exact absurd (FE f `a this) `b
 .rintro ⟨G,d,f,i,j⟩;refine {G,d,f,by rw [w];exact i.mulL _,?_};rw [C,(BU _).mul];exact j.mulL _
def sJ {c f:cY} {h:Int} (m:Lz c) (ls:Lz f) (o:@c=1\/@f=1):¬ Mt c f h:=by
 let a:∀ {b:cY},Lz b->@b=1->∃ x:Rat,x≠0/\AU (ro b)=num x:=λ{b} l e=>by
  match b,e,l with
  | [v],_,l=>
    exact {(v:Rat),λw=>l.2 (Df.mp w),by rw [Eg,Du]}
 rintro ⟨G,d,j,k,g⟩;rcases o with o | o
 .let {x,i,e}:=a m o;rw [e] at k;exact i (FE j `a k)
 .let {x,i,e}:=a ls o;rw [e] at g;have:E_ (h:Rat) (num x)=num x:=CQ hm_num _ x;rw [this] at g;exact i (FE j `a g)
theorem NN:∀ (l:cY) (y:Rat),aR l y=at' (AU (ro l)) y
 | [],y=>by
   rw [Ft];let z:AU 0=0:=toQP_hm.zero;rw [z];exact (Py Cc y).symm
 | a::l,y=>by
   let E:=Dt (Cc (R:=Rat)) y;show (a:Rat)+y*aR l y=ev _ y (AU (ro (a::l)));rw [HW,toQP_hm.add,toQP_hm.mul,Du,E.add,E.mul,CQ Cc,NN l y];let x:AU X=X:=Jo hmQ;rw [x,DZ Cc]
def sK (c y:Rat) (f:Po Rat):at' (E_ c f) y=at' f (y+c):=by
 let E:=Dt (Cc (R:=Rat)) y;let b:=Dt (Cc (R:=Rat)) (y+c);unfold at';refine bO (P:=λf=>ev _ y (E_ c f)=ev _ (y+c) f) ?_ (λa f d=>?_) f
 .show ev _ y (E_ c 0)=ev _ (y+c) 0;rw [(BU c).zero,E.zero,b.zero]
 .show ev _ y (E_ c (num a+X*f))=ev _ (y+c) (num a+X*f);rw [(BU c).add,(BU c).mul,E.add,E.mul,b.add,b.mul,d];unfold E_;rw [CQ hm_num,DZ hm_num,CQ Cc,E.add,DZ Cc,CQ Cc,CQ Cc,DZ Cc]
def sM {f g:Po Rat} (h:∀ y,at' f y=at' g y):f=g:=by
 let {n,c}:=f.fin;let {m,d}:=g.fin;let b:Bn (f - g) (n+m):=(Bn.mono c `a).sub (Bn.mono d `a)
 let {q,e}:=L4 fl_rat.dom (f:=f - g) (s:=λi=>(i:Rat)) (n+m) (λi _=>by
  let E:=Dt (Cc (R:=Rat)) (i:Rat);have:=h (i:Rat);unfold at' at *;rw [E.sub,this];ext) (λi j a _ z=>by
  have:i=j:=by exact_mod_cast z
  omega)
 have:=(L3 (λi:Nat=>(i:Rat)) (n+m)).uniq (q:=q) (by rw [<-e];exact b);rw [this] at e;have:f - g=0:=by rw [e];ext
 ext
def sN {ns a:cY} {c:Int} (h:∀ y:Rat,aR a y=aR ns (y+(c:Rat))):ro a=E_ c (ro ns):=NG (by
 rw [Iu];exact sM λy=>by rw [sK,<-NN,<-NN];exact h y)
theorem S5 {M:Nat} {f:dh}:∀ n,(∀ i,i<n->(f i).natAbs<=M)->(su n f).natAbs<=n*M
 | 0,_=>by show (0:Int).natAbs<=_;simp
 | n+1,h=>by
   let a:=S5 n λi c=>h i `a;let b:=h n `a;have:=Int.natAbs_add_le (su n f) (f n);show (su n f+f n).natAbs<=_;rw [Nat.succ_mul];omega
theorem S7 (h:Int):∀ i k,(((X+num h) ^ i:Po Int).c k).natAbs<=(h.natAbs+1) ^ i
 | 0,k=>by
   rw [show (X+num h) ^ 0=(1:Po Int) by ext,one_eq];show (if k=0 then (1:Int) else 0).natAbs<=_;split <;> simp
 | i+1,k=>by
   let a:=S7 h i;rw [show (X+num h) ^ (i+1)=X*(X+num h) ^ i+num h*(X+num h) ^ i by ext,C8,D_,Cg,Nat.mul_add,Nat.mul_one];let m:(h*((X+num h) ^ i:Po Int).c k).natAbs<=(h.natAbs+1) ^ i*h.natAbs:=by rw [BK,Cq];exact Ct _ (a k)
   let x:((X*(X+num h) ^ i:Po Int).c k).natAbs<=(h.natAbs+1) ^ i:=by
    cases k with
    | zero=>rw [FD];simp
    | succ k=>rw [Ed];exact a k
   have:=Int.natAbs_add_le ((X*(X+num h) ^ i:Po Int).c k) (h*((X+num h) ^ i:Po Int).c k);omega
def sO {ns a:cY} {h:Int} (b:@ns<=8) (c:∀ z∈ns,Bd 148 z) (d:Bd 202 h) (e:ro a=E_ h (ro ns)):∀ k,Bd 1567 (co a k):=λk=>by
 let t:co a k=su @ns λi=>co ns i*((X+num h) ^ i:Po Int).c k:=by
  show (ro a).c k=_;rw [e,HJ h (Cn ns),Fm];exact Aj _ λi _=>by rw [D_];rfl
 rw [t]
 have:=S5 (M:=2 ^ 148*(2 ^ 202) ^ 7) (f:=λi=>co ns i*((X+num h) ^ i:Po Int).c k) @ns λi g=>by
  rw [BK];refine EM (Dc (Ce c i)) (BW (S7 h i k) (BW (Nat.pow_le_pow_left (show h.natAbs+1<=2 ^ 202 from d) i) (C2 (DD `b) `a)))
 unfold Bd;let m:@ns*(2 ^ 148*(2 ^ 202) ^ 7)<=8*(2 ^ 148*(2 ^ 202) ^ 7):=Ct _ b;let q:8*(2 ^ 148*(2 ^ 202) ^ 7)<2 ^ 1567:=by decide +kernel
 exact Cr (BW this m) q
def S9 {m n b g:cY} {h:Int} (B:ro b=E_ h (ro n)) (R:RC (co m) (co b) g):1<@g↔Mt m n h:=by
 let a:AU (ro b)=E_ (h:Rat) (AU (ro n)):=by rw [B,Iu]
 let {x,y,r,u}:=Kd R.lz
 let v:∀ {f:cY},MQ (co g) (co f)->Dv (num x*AU (ro g)) (AU (ro f)):=λ{f} ⟨c,o,A,C⟩=>by
  let p:(c:Rat)≠0:=λw=>o (Df.mp w);let i:=DI _ p;let e:num c*ro f=ro A*ro g:=C_ λk=>by rw [D_,<-CV];exact C k
  let e:=congrArg AU e;rw [toQP_hm.mul,toQP_hm.mul,Du] at e;rw [Ez i (AU (ro f)),e,Ez r (AU (ro g))];refine {num (c:Rat)⁻¹*AU (ro A)*num y,?_};rw [show num x*(num y*(num x*AU (ro g)))=num y*num x*(num x*AU (ro g)) by ext,<-BV,r,<-one_eq];ext
 constructor
 .intro l;refine {_,@g - 2,by rw [show @g - 2+1=@g - 1 by omega];exact u,v R.left,by rw [<-a];exact v R.right}
 .rintro ⟨G,d,D,F,z⟩;rw [<-a] at z;let {c,o,U,W,I}:=R.qi;let p:(c:Rat)≠0:=λw=>o (Df.mp w);let i:=DI _ p;let e:num c*ro g=ro U*ro m+ro W*ro b:=C_ λk=>by rw [D_,C8,<-CV,<-CV];exact I k
  let e:=congrArg AU e;rw [toQP_hm.mul,toQP_hm.add,toQP_hm.mul,toQP_hm.mul,Du] at e
  let J:Dv G (num x*AU (ro g)):=by
   rw [Ez i (AU (ro g)),e];exact (((F.mulL _).add (z.mulL _)).mulL _).mulL _
  let {q,L}:=J;let {j,M,_}:=u.quo fl_rat.dom.one D L;omega
end
section
open Po
def sP (h:IW K vs H Q E):ZQ K (eC Q) (L2.start ["P","Q","one","other"] vs) H:=by
 let {a,b,l,m,rfl,{xs,ha,hN,A,l8,bB,b1,bZ,a4},{ys,hb,a5,g,m8,a6,a7,a8,ab},k}:=h;let cl:(BI l).length=@l:=by unfold BI;rw [AI]
 let cm:(BI m).length=@m:=by unfold BI;rw [AI]
 refine AY (B7 (AZ (B7 {1,a,xs,l,DM l,2,ha,hN,A,G0 A,bB.mono `b,λq P=>(b1 q P).mono `b,`a,λr0 a0 H1 s1 I J=>{5,I,2,a0,BI l,2,J,a4,bZ,`a,λr B H2 s2 S T rl C U ac=>?_}})));let L:=s1.trans s2;show RJ K _ _ _;refine AY (B7 (AZ (B7 {1,b,ys,m,DM m,2,L _ _ hb,a5.tp (aZ L),g,G0 g,a6.mono `b,λq P=>(a7 q P).mono `b,`a,λr0 a0 H3 s3 I J=>{5,I,2,a0,BI m,2,J,ab,a8,`a,λs j H4 s4 hs n sl f D W=>?_}})));let X:=s3.trans s4;let S:=X _ _ S;let M:=L.trans X;let Y:∀ h,Mt (BI l) (BI m) h↔Mt B j h:=λh=>sI T U D h;let sq:=U.sqr;let af:=D.sqr
 let no:(@B=1\/@j=1)->∀ Z,H4 Z=none->Q (.ref Z) (upd H4 Z (.lst [])):=λo Z a3=>
  k Z [] _ (M.trans (AO a3 _)) (M.free a3) upd_same .nil (AV _) λh=>by
    rw [Y];exact {λz=>(nomatch z),λz=>absurd z (sJ T n o)}
 show RI K _ _ _;refine DN (show aC _ _ _ _ _ from B8 {1,6,S,2,1,Ab (λc=>Ab (λ_=>?_) (λz=>absurd rfl z)) (λc=>B8 {1,6,hs,2,1,Ab (λc'=>?_) (λc'=>?_)})})
 .let c:=nF c;injection c with c;rw [AI] at c;exact BT {AV _,no (.inl `a)}
 .let c:=nF c';injection c with c;rw [AI] at c;exact BT {AV _,no (.inr `a)}
 let n1:@B≠1:=λz=>c (nE (by rw [AI,z];rfl));let m1:@j≠1:=λz=>c' (nE (by rw [AI,z];rfl));let n0:=T.1;let m0:=n.1;show RH K _ _ _;refine BT (NJ (Ae {4,r,s,B,j,2,S,hs,T,n,`a,`a,`a,`a,C,f,ac,W,sq,af,λq d H5 s5 P pw bh hl hm=>{q,2,{_,SqL.of P},CompF.lst (xs:=d.map V.int) (λi zs H'=>Same H5 H'/\∃ v:cY,zs=v.map V.int/\i<=@d/\v.Sublist (d.take i)/\∀ z,z∈v↔z∈d.take i/\Mt B j z) {Same.refl _,[],2,AV _,List.nil_sublist _,λz=>{λy=>(nomatch y),λy=>by rw [List.take_zero] at y;cases y.1}} ?_ ?_ ?_}}))
 .rintro i zs H' ⟨F,v,rfl,il,G,_⟩;have:=G.length_le;rw [Ba] at this;exact {by rw [AI];exact il,by rw [AI];exact sz `a,SqL.of (F _ _ P)}
 .rintro i x zs H6 hx ⟨F,v,rfl,il,G,hk⟩;let R:i<@d:=by have:=(A3.mp hx).1;rw [AI] at this;exact this
  let hx:=KQ R hx;subst hx;let aj:=Fs R
  let tk:d.take (i+1)=d.take i++[Bs.co d i]:=by
   rw [C4,AR R];unfold Bs.co;rw [AN,AR R];rfl
  let bz:=bh _ aj;generalize Bs.co d i=z at tk bz ⊢;let al:=F _ _ (s5 _ _ S);let am:=F _ _ (s5 _ _ hs);refine (show Ak _ _ _ _ from B8 (AZ (Ds (Ae {1,Ae {4,s,j,z,148,2,am,`a,.inr {f,`b,bz.mono `b},λt N H7 s7 tn ht tl ev _=>?_}}))));let ez:=sN ev;let bt:=sO `a f bz ez
  let tt:Bs.co N (@N - 1)≠0:=by
   have:Bs.co N (@N - 1)=Bs.co j (@j - 1):=by
    show (ro N).c _=_;rw [ez,tl];exact IP z ((Cn j).mono `a)
   rw [this];exact n.2
  let O:B≠[]:=DE.mp n0;let an:N≠[]:=DE.mp `a;refine ⟨r,t,B,N,1567,8,4,rfl,s7 _ _ al,ht,.inr T.2,.inr tt,λz hz=>(C z hz).mono `b,Ig bt,`a,`a,`b,`b,`b,`b,λe=>absurd e (by rintro (z | z);exact O z;exact an z),λu gs H8 s8 hu h1 _=>{6,hu,3,1,Ab (λc=>?_) (λc=>?_)}⟩
  .let c:=nF c;rw [AI] at c;let mt:=(S9 ez (h1 (.inl O)).1).mp `a;refine {1,F.trans (s7.trans s8),v++[z],by rw [Bj];rfl,R,by rw [tk];exact G.append (List.Sublist.refl _),λy=>?_};rw [tk,BR,BR,hk,Ap];constructor
   .rintro (y | rfl)
    .exact {.inl y.1,y.2}
    .exact {.inr rfl,mt}
   .rintro ⟨y | y,w⟩
    .exact .inl ⟨y,w⟩
    .exact .inr y
  .let c:¬ ((~~~gs).length:Int) > 1:=λz=>c (nE z);rw [AI] at c;let mt:¬ Mt B j z:=λy=>c (by have:=(S9 ez (h1 (.inl O)).1).mpr y;omega);refine {F.trans (s7.trans s8),v,2,R,by rw [tk];exact G.trans (List.sublist_append_left _ _),λy=>?_};rw [tk,BR,hk,Ap];constructor
   .exact λy=>{.inl y.1,y.2}
   .rintro ⟨y | y,w⟩
    .exact ⟨y,w⟩
    .exact absurd w (by rw [y];exact mt)
 .rintro zs H6 ⟨F,v,rfl,il,G,hk⟩ p hp;rw [AI,B4] at G hk;let sp:=(M.trans s5).trans F;refine k p v _ (sp.trans (AO hp _)) (sp.free hp) upd_same (pw.sublist G) (BW G.length_le hl) λh=>?_;rw [Y,hk];exact {λy=>y.2,λy=>{hm h y,y}}
end
section
open Po
theorem TB {f:dh}:∀ n,(∀ i,0<=f i)->0<=su n f
 | 0,_=>DJ 0
 | n+1,h=>Int.add_nonneg (TB n h) (h n)
theorem Kf {f g:dh}:∀ n,(∀ i,i<n->f i<=g i)->su n f<=su n g
 | 0,_=>DJ 0
 | n+1,h=>Int.add_le_add (Kf n λi a=>h i `a) (h n `a)
def TC (n:Nat) (f:Po Int):0<=nI n f:=TB n λi=>by omega
def TD (n:Nat) (f g:Po Int):nI n (f+g)<=nI n f+nI n g:=by
 unfold nI;rw [<-Ew]
 exact Kf n λi _=>by
  rw [C8];have:=Int.natAbs_add_le (f.c i) (g.c i);omega
def TF (n:Nat) (a:Int) (f:Po Int):nI n (num a*f)=(a.natAbs:Int)*nI n f:=by
 unfold nI;rw [<-CU];exact Aj n λi _=>by rw [D_,BK];push_cast;rfl
theorem sQ (f:Po Int):∀ n,nI n (X*f)<=nI n f
 | 0=>DJ 0
 | n+1=>by
   let e:nI (n+1) (X*f)=0+nI n f:=by
    unfold nI;rw [FC,FD];exact congrArg (((0:Int).natAbs:Int)+·) (Aj n λi _=>by rw [Ed])
   let a:nI (n+1) f=nI n f+((f.c n).natAbs:Int):=rfl;omega
theorem TH (h:Int) (n:Nat):∀ i:Nat,nI n ((X+num h) ^ i)<=((h.natAbs:Int)+1) ^ i
 | 0=>by
   let z:∀ n,nI n (1:Po Int)<=1:=λn=>by
    cases n with
    | zero=>exact (by decide:(0:Int)<=1)
    | succ n=>
      unfold nI;rw [FC,Cm λi e=>by rw [one_eq];show (((if i+1=0 then (1:Int) else 0)).natAbs:Int)=0;rw [nB `a];rfl,one_eq];exact DJ 1
   rw [show (X+num h) ^ 0=(1:Po Int) by grind];exact z n
 | i+1=>by
   rw [show (X+num h) ^ (i+1)=X*(X+num h) ^ i+num h*(X+num h) ^ i by grind];let a:=TD n (X*(X+num h) ^ i) (num h*(X+num h) ^ i);let b:=sQ ((X+num h) ^ i) n;rw [TF] at a;let c:=TH h n i;let d:=EN c (show (0:Int)<=(h.natAbs:Int)+1 by omega);rw [show ((h.natAbs:Int)+1) ^ (i+1)=((h.natAbs:Int)+1)*((h.natAbs:Int)+1) ^ i by rw [Int.pow_succ,Cs]];refine Dh ?_ d;rw [Int.add_mul,Int.one_mul];omega
theorem TJ (n:Nat) (F:Nat->Po Int):∀ m,nI n (su m F)<=su m λi=>nI n (F i)
 | 0=>by
   show nI n 0<=0;unfold nI;rw [Cm λi _=>by rw [CI];rfl];exact DJ 0
 | m+1=>Dh (TD n _ _) (Int.add_le_add_right (TJ n F m) _)
def sT {f:Po Int} {m:Nat} (a:Bn f m) (h:Int) (n:Nat):nI n (E_ h f)<=su m λi=>((f.c i).natAbs:Int)*((h.natAbs:Int)+1) ^ i:=by
 rw [HJ h a];refine Dh (TJ n _ m) (Kf m λi _=>?_);rw [TF];exact EN (TH h n i) `a
theorem Kg {f:Po Int}:∀ {n k:Nat},k<n->((f.c k).natAbs:Int)<=nI n f
 | n+1,k,h=>by
   let e:nI (n+1) f=nI n f+((f.c n).natAbs:Int):=rfl;by_cases q:k<n
   .have:=Kg (f:=f) q;omega
   .have:=TC n f;rw [show k=n by omega];omega
theorem TK (f:Po Int):∀ {n m:Nat},n<=m->nI n f<=nI m f
 | n,0,h=>by rw [show n=0 by omega];exact DJ _
 | n,m+1,h=>by
   let e:nI (m+1) f=nI m f+((f.c m).natAbs:Int):=rfl;by_cases q:n=m+1
   .rw [q];exact DJ _
   .have:=TK f (show n<=m by omega);omega
def sU {f g:Po Int} {n:Nat} (h:Bn f n) {M:Int} (j:0<=M) (o:∀ k,((g.c k).natAbs:Int)<=M) (k:Nat):(((f*g).c k).natAbs:Int)<=nI n f*M:=by
 let d:∀ m,((su m λi=>f.c i*g.c (k - i)).natAbs:Int)<=nI m f*M:=λm=>by
  induction m with
  | zero=>show ((0:Int).natAbs:Int)<=0*M;rw [Int.zero_mul];exact DJ 0
  | succ m r=>
    let a:=Int.natAbs_add_le (su m λi=>f.c i*g.c (k - i)) (f.c m*g.c (k - m));let b:=EN (o (k - m)) (show (0:Int)<=((f.c m).natAbs:Int) by omega);let e:nI (m+1) f*M=nI m f*M+((f.c m).natAbs:Int)*M:=Int.add_mul ..;rw [BK] at a;let c:(((f.c m).natAbs*(g.c (k - m)).natAbs:Nat):Int)=((f.c m).natAbs:Int)*((g.c (k - m)).natAbs:Int):=by push_cast;rfl
    show ((su m (λi=>f.c i*g.c (k - i))+f.c m*g.c (k - m)).natAbs:Int)<=_;omega
 rw [Fh];by_cases q:k+1<=n
 .exact Dh (d (k+1)) (Gg (TK f q) j)
 .rw [Jk (λi=>f.c i*g.c (k - i)) (k+1) (show n<=k+1 by omega) λi p _=>by rw [h i p];exact Int.zero_mul _];exact d n
def E1 {f:cY} (a:Lz f):Mn (O' f) (@f - 1):=by
 let b:((lst' f:Int):Rat)≠0:=λw=>a.2 (Df.mp w);refine {by unfold O';rw [D_];exact DI _ b,λk hk=>?_};unfold O';rw [D_];have:=a.1;have:(AU (ro f)).c k=0:=((Cn f).map hmQ) k `a;rw [this];ext
def Kh {f:cY} (a:Lz f):AU (ro f)=num ((lst' f:Int):Rat)*O' f:=by
 let b:((lst' f:Int):Rat)≠0:=λw=>a.2 (Df.mp w);exact Ez (by rw [Rat.mul_comm];exact DI _ b) _
def sV {f:cY} (c:Lz f) (d:@f=2):At (O' f):={⟨1,`b,by have:=E1 c;rw [d] at this;exact this⟩,λa b i j g h e=>by
 let m:=E1 c;rw [d,e] at m;have:=Ir fl_rat.dom.one (g.mul h) m;omega}
theorem NO {f:dh}:∀ n,(∀ i,i<n->(2:Int)∣f i)->(2:Int)∣su n f
 | 0,_=>⟨0,rfl⟩
 | n+1,h=>DC (NO n λi a=>h i `a) (h n `a)
def sW {a b:Int} (h:(2:Int)∣a*b) (n:¬ (2:Int)∣b):(2:Int)∣a:=by
 rcases Int.emod_two_eq a with q | q
 .exact FP q
 .exfalso;let c:b % 2=1:=by omega
  let e:=Fw h;rw [Int.mul_emod,q,c] at e;exact absurd e `b
theorem TL {A B:Po Int} {n:Nat} (h:∀ k,k<n->(2:Int)∣(A*B).c k) (b:¬ (2:Int)∣B.c 0):∀ k,k<n->(2:Int)∣A.c k:=by
 intro k
 induction k using Nat.strongRecOn with
 | _ k a=>
   intro hk;let e:=h k hk;let c:(A*B).c k=su k (λi=>A.c i*B.c (k - i))+A.c k*B.c (k - k):=Fh A B k;rw [c,DT] at e;let s:=NO k (f:=λi=>A.c i*B.c (k - i)) λi d=>Fv (a i d `a);exact sW ((Int.dvd_add_right s).mp e) b
structure Eis (f:cY):Prop where
 l2:2<=@f
 e0:co f 0 % 4=2
 ev:∀ k,k+1<@f->(2:Int)∣co f k
 od:¬ (2:Int)∣lst' f
def Eis.irr {f:cY} (E:Eis f):Lz f/\At (O' f):=by
 let L:=E.l2;let d:Lz f:={`a,λz=>E.od (by show (2:Int)∣co f (@f - 1);rw [z];exact ⟨0,rfl⟩)};refine {d,{_,`a,E1 d},λa b i j o r e=>?_};refine Classical.byContradiction λz=>?_;let M:=Ir fl_rat.dom.one (o.mul r) (e ▸ E1 d);let {P,x,u,v,p,ll,C}:=Sx o;let {K,g}:=NH u v C (f:=ro f) (by rw [Kh d,e];exact {num ((lst' f:Int):Rat)*b,()});let ev:∀ k,k<@f - 1->(2:Int)∣(ro P*K).c k:=λk hk=>by rw [<-g];exact E.ev k `a
 by_cases q:(2:Int)∣K.c 0
 .let D:(ro P*K).c 0=co P 0*K.c 0:=by rw [Fh];show 0+co P 0*K.c 0=_;rw [Int.zero_add]
  let F:¬ (2:Int)∣(ro P).c 0:=λw=>by
   let t:co f 0=co P 0*K.c 0:=by rw [<-D,<-g];rfl
   let {x,G}:=q;let {y,h}:=w;let h:co P 0=2*y:=h;have:=E.e0;rw [t,G,h,show 2*y*(2*x)=4*(y*x) by grind] at this;omega
  let all:=TL (A:=K) (B:=ro P) (n:=@f - 1) (λk hk=>by rw [show K*ro P=ro P*K by grind];exact ev k hk) F
  let I:K.c (@f - 1)=0:=by
   let {n,J}:=K.fin;rcases IM n J with w | ⟨m,_,c,b⟩
   .rw [w,CI]
   .refine b _ ?_;let t:=GM (((Cn P).mono (show @P<=@P - 1+1 by omega))) b;rw [<-g] at t;let t:co f (@P - 1+m)=lst' P*K.c m:=t
    have:=Classical.byContradiction λw:¬ @P - 1+m<@f=>(by
     rw [AX `a] at t;exact Bo p.2 c t.symm:False)
    omega
  refine E.od ?_;show (2:Int)∣(ro f).c (@f - 1);rw [g,Fh];refine NO _ λs N=>?_;cases s with
  | zero=>rw [D1,I];exact {0,by rw [Dg,Dg]}
  | succ s=>exact Fx (all _ `a)
 .have:=TL ev q (@P - 1) `a;exact E.od (CO this (Sy d p g))
def sY {f g:cY} {h:Int} (b:Lz f) (e:ro g=E_ h (ro f)) (l:@g=@f) (a:At (O' f)):Lz g/\At (O' g):=by
 let d:=b.1
 let t:lst' g=lst' f:=by
  show (ro g).c _=_;rw [e,l];exact IP h ((Cn f).mono `a)
 let c:O' g=E_ (h:Rat) (O' f):=by
  unfold O';rw [t,e,Iu,(BU _).mul];congr 1;exact (CQ hm_num _ _).symm
 exact {{`a,by show lst' g≠0;rw [t];exact b.2},by rw [c];exact a.mv _}
theorem sZ {b x:Int} {a:cY} (e:b % 4=2) (f:∀ z∈a,(2:Int)∣z) (g:x % 2=1):Eis (b::(a++[x])):=by
 let ll:(b::(a++[x])).length=@a+2:=by rw [Cj,Bf];rfl
 let d:lst' (b::(a++[x]))=x:=by
  unfold lst' co;rw [ll,show @a+2 - 1=(b::a).length by rw [Cj];omega,<-List.cons_append,AN,EI (AT _),DT];rfl
 refine {`a,e,λk hk=>?_,by rw [d];omega};cases k with
 | zero=>exact {b / 2,by show b=_;omega}
 | succ k=>
   let c:k<@a:=by omega
   have:co (b::(a++[x])) (k+1)=a[k]:=by
    unfold co;rw [AN,List.getElem?_cons_succ,Eh c,AR c];rfl
   rw [this];exact f _ (CN c)
end
section
open Po
def TM {K:W.Frag} {i:Nat} {w:Addr} {b:TE} {D:Ends} {a:L2.St} {H:Hp} (c:a[i]?=some (↥w)) (d:bI K "list" (.ref w) H) (h:b a H λy e=>ED (.ref w) [y] e λ_ f=>D.nx a f):DK (ay K "list" ED (AA i) (AB b AC)) D a H:={_,c,d,h}
theorem Kp.free {p q:Addr} {H a:Hp} (k:Kp p H a) (n:q≠p) (h:a q=none):H q=none:=by
 cases e:H q with
 | none=>rfl
 | some o=>have:=k _ _ n e;rw [h] at this;cases this
def rA (h:KC K vs H Q E):zD K (eC Q) (L2.start ["_law_hand_here","_law_size","_law_row","_law_k"] vs) H:=by
 let {p,a,m,n,rfl,hH,n9,m2,m4,k}:=h;refine AY (Cb (AZ (I_ (AZ (AZ (I_ (Ae {1,p,a,6,hH,`a,`b,`b,λd M d0 d7 N U=>{3,mulL `b `b,3,3,mulL `b `b,Bi,λw f=>?_}})))))));let G:w≠p:=N.ne f;let wa:w≠a:=N.ne2 f;let W:=AO f (.lst [.int (2*(2*d - 7))]);let q:upd M w (.lst [.int (2*(2*d - 7))]) w^^^([2*(2*d - 7)].map V.int):=upd_same;let u:=U.same W;let v:=N.same W
 let wN:H w=none:=by
  cases e:H w with
  | none=>rfl
  | some o=>have:=U _ _ G e;rw [f] at this;cases this
 let X:(2*(2*d - 7)) % 4=2:=by omega
 let D:(2*(2*d - 7)).natAbs<=14:=by omega
 show AF _ _ _ [↥p,some (.int m),↥w,none] (upd M w (.lst [.int (2*(2*d - 7))]));generalize 2*(2*d - 7)=c at q X D u v ⊢;generalize upd M w (.lst [.int c])=H2 at q u v ⊢;let e1:(m - 1).toNat=(m - 1).toNat:=rfl
 refine {_,rfl,_,_,rfl,rfl,_,rfl,`a,`a,ForR.by (λi O C=>i<=(m - 1).toNat/\∃ (b:cY) (o:cX),O=[↥p,some (.int m),↥w,o]/\Kp p H C/\Hand C p a (n+2+2*i)/\C w^^^((c::b).map V.int)/\@b=i/\∀ z∈b,(2:Int)∣z/\z.natAbs<=6)
  {AV _,[],none,2,u,v.mono `a,q,2,λ_ h=>nomatch h} ?_ ?_}
 .rintro i O H3 hi ⟨_,b,o,rfl,I,P,g,Y,J⟩;refine TM rfl (FA g) (AZ (I_ (AZ (Ae {1,p,a,6,P,`a,`b,`b,λe Z e0 e7 R B=>{3,3,mulL `b `b,?_}}))));let A:=B _ _ G g;refine {_,3,A,sz (by rw [AI,Cj];omega),`a,b++[2*(e - 3)],1,λx y j L=>?_,(R.mono `a).upd G wa,?_,by rw [Bf,Y];rfl,λz hz=>?_}
  .exact Kp.upd x y (Aq L wN) (B _ _ j (I _ _ j L))
  .rw [upd_same,<-List.cons_append,Bj];rfl
  .rcases BR.mp hz with h | h
   .exact J z h
   .rw [Ap.mp h];exact {{e - 3,2},`a}
 .rintro O H3 ⟨_,b,o,rfl,I,P,g,Y,J⟩;show Aa (A_ Go (AA 2) _) _ _ _;refine BT (AZ {1,?_});refine Cb (AZ (I_ (AZ (I_ (Ae {1,p,a,6,P,`a,`b,`b,λe Z e0 e2 R B=>{3,mulL `b `b,3,Bi,λy L=>?_}})))));let sy:=AO L (.lst [.int (1+2*e)]);let A:=sy _ _ (B _ _ G g);refine {5,A,upd_same,sz (by rw [AI,Cj];show @b+1+1<=_;omega),λr S=>?_};let sr:=AO S (.lst ((c::b).map V.int++[V.int (1+2*e)]));let em:(c::b).map V.int++[V.int (1+2*e)]=(c::(b++[1+2*e])).map V.int:=by rw [<-List.cons_append,Bj];rfl
  let h5:=(R.same sy);let ll:(c::(b++[1+2*e])).length=@b+2:=by rw [Cj,Bf];rfl
  let E:=sZ (x:=1+2*e) X (λz hz=>(J z hz).1) `a
  let F:lst' (c::(b++[1+2*e]))=1+2*e:=by
   unfold lst' co;rw [ll,show @b+2 - 1=(c::b).length by rw [Cj];omega,<-List.cons_append,AN,EI (AT _),DT];rfl
  let kk:Kp p H (upd (upd Z y (.lst [.int (1+2*e)])) r (.lst ((c::b).map V.int++[V.int (1+2*e)]))):=λx o j T=>sr _ _ (sy _ _ (B _ _ j (I _ _ j T)));let rp:=h5.ne S;refine k r (c::(b++[1+2*e])) _ (by rw [<-em];exact upd_same) (by rw [ll];omega) {E.irr.1,by rw [ll];omega,by rw [ll];omega,E.irr.2} (λz hz=>?_) (by rw [F];omega) rp (Kp.free (λx o j T=>sy _ _ (B _ _ j (I _ _ j T))) rp S) ((h5.same sr).mono `a) kk;rcases CS.mp hz with rfl | hz
  .exact D
  .rcases BR.mp hz with h | h
   .have:=(J z h).2;omega
   .rw [Ap.mp h];omega
def rB (h:J2 K vs H Q E):zE K (eC Q) (L2.start ["_law_hand_here"] vs) H:=by
 let {p,ad,n,rfl,c,J,k}:=h;refine BT (Ae (AZ (AZ (ID {1,Ev,λq a=>?_}))));refine Ae ⟨_,rfl,p,ad,2,n,rfl,c.same (AO a _),`a,`b,`b,λd o u v w g=>?_⟩;let {s,x,i,y,z}:=wQ u v;let b:Kp p H o:=(Kp.of_same (AO a _)).trans g;refine {5,g _ _ (c.ne a) upd_same,x,?_};refine AZ (I_ (Ae ⟨_,rfl,p,ad,9,n+2,rfl,w,`a,`b,`b,λe L M N A B=>{3,3,mulR `a `a,?_}⟩));refine AZ (I_ (Ae ⟨_,rfl,p,ad,9,n+2+2,rfl,A,`a,`b,`b,λf O P R C D=>{3,s*(1+e),1+f,2,`a,λr F=>?_}⟩));let sr:=AO F (.tup [.int (AW (s*(1+e)) (1+f)).1,.int (AW (s*(1+e)) (1+f)).2]);let j:1+f≠0:=by omega
 let G:=wR (d:=1+e) i y z;let I:=vF (W:=s*(1+e)) (n:=1+f) `a;let S:=vG (W:=s*(1+e)) (n:=1+f) `a;exact k r _ _ _ upd_same (EY j) (SK j (Bo i `a)) (by rw [G] at I;omega) (by unfold Bd;omega) ((C.same sr).mono `a) (((b.trans B).trans D).same sr)
def rC {c:cY} {x:Int} (h:0<@c):ro (c.set 0 (Bs.co c 0+x))=ro c+num x:=C_ λk=>by
 rw [C8];show Bs.co (c.set 0 (Bs.co c 0+x)) k=Bs.co c k+if k=0 then x else 0
 rw [FN h];by_cases q:k=0
 .rw [nC q,nC q,q]
 .rw [nB q,nB q];omega
def rD {a:cY} {n:Nat} (b:Bn (ro a) n):ro (a.take n)=ro a:=C_ λk=>by
 show Bs.co (a.take n) k=Bs.co a k;by_cases q:k<n
 .unfold Bs.co;rw [AN,AN,List.getElem?_take,nC q]
 .have:=b k `a;have:Bs.co a k=0:=this;rw [this];exact AX (by rw [Ba];omega)
def rE (h x:Int) (l:cY):E_ h (ro (x::l))=E_ h (ro l)*(num h+X)+num x:=by
 rw [HW,(BU h).add,(BU h).mul];unfold E_;rw [CQ hm_num,DZ hm_num];ext
def rF (h:IX K vs H Q E):zF K (eC Q) (L2.start ["_law_row","_law_h","_law_made","_law_one","_law_grown"] vs) H:=by
 let {r,f,h,rfl,N,l4,bf,bh,k}:=h;refine AY (Cb (I_ {Bi,λB m=>?_}));let O:=AO m (.lst [.int 0]);let n:upd H B (.lst [.int 0]) B=some (HO.lst (([0]:cY).map V.int)):=upd_same;generalize upd H B (.lst [.int 0])=H1 at O n ⊢;let P:(~~~f).length=@f:=AI ..
 refine (show AF (A4 (Gv K _) _ _) _ _ _ _ from {_,rfl,r,f.map V.int,rfl,SqL.of (O _ _ N),ForJ.rev (λi C g=>∃ (d:Addr) (a:cY) (D p:cX),C=[↥r,some (.int h),↥d,D,p]/\Same H g/\H d=none/\g d^^^(~~~a)/\@a=i+1/\(∀ z∈a,Bd (100+220*i) z)/\ro a=E_ h (ro (f.drop (@f - i)))/\i<=@f)
  {B,[0],none,none,2,O,m,n,2,λz hz=>by rw [Ap.mp hz];exact EX _,?_,AV _} ?_ ?_ ?_})
 .rw [D1,List.drop_length,Ft,(BU h).zero,Eg,Fi]
 .rintro i C g _ ⟨d,a,D,p,rfl,s,_⟩;exact SqL.of (s _ _ N)
 .rintro i x C F hi G ⟨d,a,D,p,rfl,u,hn,R,I,S,e,il⟩;rw [P] at hi G;let G:=KQ (show @f - 1 - i<@f by omega) G;subst G;let U:=bf _ (Fs (show @f - 1 - i<@f by omega))
  let W:f.drop (@f - (i+1))=Bs.co f (@f - 1 - i)::f.drop (@f - i):=by
   rw [show @f - (i+1)=@f - 1 - i by omega,List.drop_eq_getElem_cons (show @f - 1 - i<@f by omega),show @f - 1 - i+1=@f - i by omega];congr 1;unfold Bs.co;rw [AN,AR `a];rfl
  generalize Bs.co f (@f - 1 - i)=x at U W ⊢;refine (show AF _ _ _ [↥r,some (.int h),↥d,some (.int x),p] F from AY (Ae {1,?_}));refine ID {1,Ev,λy hy=>?_};let sy:=AO hy (.lst [.int h,.int 1]);let v:upd F y (.lst [.int h,.int 1]) y^^^(([h,1]:cY).map V.int):=upd_same;let w:=sy _ _ R;let T:=u.trans sy;generalize upd F y (.lst [.int h,.int 1])=H3 at sy v w T ⊢
  let A:∀ z∈[h,1],Bd 200 z:=λz hz=>by
   rcases CS.mp hz with rfl | hz
   .exact bh
   .rw [Ap.mp hz];exact Bd.one.mono `b
  refine {d,y,a,[h,1],100+220*i,200,2,w,v,`a,by show 0<2;decide,`a,by show 2<=20;decide,S,A,`a,`b,λq c J s4 L Y M _ Z=>?_};let M:@c=i+2:=by rw [M,I];rfl
  let ec:ro c=ro a*(num h+X):=by
   have:ro [h,1]=num h+X:=by rw [HW,Eg,<-one_eq];ext
   rw [<-this];exact C_ λk=>by rw [<-CV,<-SU Z];rfl
  let bc:∀ k,Bd (100+220*i+200+(i+1)) (Bs.co c k):=λk=>by rw [Z k,<-I];exact LW S A @a k
  let a0:M' (~~~c) 0=some (.int (Bs.co c 0)):=DL (j:=0) (GV `a);let qn:H q=none:=T.free L;refine (show AF _ _ _ [↥r,some (.int h),↥d,some (.int x),↥q] J from {1,5,Y,a0,8,1,q,9,0,7,Y,HU (i:=0) (by rw [AI,M];omega),?_});let sw:Same H (upd J q (.lst ((~~~c).set 0 (V.int (Bs.co c 0+x))))):=λb o hb=>by rw [Ai (Aq hb qn)];exact s4 _ _ (T _ _ hb)
  let hw:upd J q (.lst ((~~~c).set 0 (V.int (Bs.co c 0+x)))) q^^^((c.set 0 (Bs.co c 0+x)).map V.int):=by rw [List.map_set];exact upd_same
  generalize upd J q (.lst ((~~~c).set 0 (V.int (Bs.co c 0+x))))=H5 at sw hw ⊢;refine {1,q,c.set 0 (Bs.co c 0+x),6,sw,qn,hw,by rw [Dw,M],Ig λk=>?_,?_,`a}
  .rw [FN `a];split
   .exact ((bc 0).add (U.mono (show 100<=100+220*i+200+(i+1) by omega))).mono `a
   .exact (bc k).mono `a
  .rw [rC `a,ec,e,W,rE]
 .rintro C F ⟨d,a,D,p,rfl,u,hn,R,I,S,e,il⟩;rw [P] at I e;rw [DT,List.drop_zero] at e;show Aa (Z' sL (AA 2) Dn (Do (D' Ao (AB (AA 0) AC)))) _ _ _;refine BT {4,6,u _ _ N,1,d,1,R,λq L=>?_};rw [P,IB (by rw [AI];omega),<-List.map_take];refine k q (a.take @f) _ (u.trans (AO L _)) (u.free L) upd_same (by rw [Ba];omega) ?_;rw [rD (by rw [e];exact MA h (Cn f)),e]
end
section
open Po
def rG {f:cY} (a:Lz f):1<=nI @f (ro f):=by
 let b:=a.1;let h:=Kg (f:=ro f) (show @f - 1<@f by omega);let n:(ro f).c (@f - 1)≠0:=a.2;omega
def NP {u v:Int} (h:v≠0):Fc [u,v]:={{by show 0<2;decide,h},by show 2<=2;decide,by show 2<=4;decide,sV ⟨by show 0<2;decide,h⟩ rfl}
def TN (u v:Int):nI [u,v].length (ro [u,v])=(u.natAbs:Int)+v.natAbs:=by
 show 0+(u.natAbs:Int)+v.natAbs=_;omega
def NQ {f g:cY} {h y:Int} {t:Nat} (a:Fc f) (c:∀ z∈f,z.natAbs<=14) (r:(lst' f).natAbs<=t) (e:ro g=E_ h (ro f)) (l:@g=@f) (m:(h.natAbs:Int)+1<=y):Fc g/\nI @g (ro g)<=14*(su (@f - 1) λi=>y ^ i)+t*y ^ (@f - 1):=by
 let {o,p}:=sY a.lz e l a.irr;let u:=a.l2;let v:=a.l4;refine {{o,`a,`a,p},?_};rw [e,l];refine Dh (sT (Cn f) h @f) ?_;let {n,d}:∃ n,@f=n+1:={@f - 1,`a}
 let b:(((ro f).c n).natAbs:Int)<=t:=by
  have:(ro f).c n=lst' f:=by unfold lst';rw [d];rfl
  rw [this];omega
 rw [d,Nat.add_sub_cancel,<-CU]
 let j:∀ i,((h.natAbs:Int)+1) ^ i<=y ^ i:=λi=>by
  induction i with
  | zero=>rw [Int.pow_zero,Int.pow_zero];exact DJ 1
  | succ i q=>rw [Int.pow_succ,Int.pow_succ];exact Int.mul_le_mul q m `a (Int.pow_nonneg `a)
 let k:∀ i,0<=((h.natAbs:Int)+1) ^ i:=λi=>Int.pow_nonneg `a;refine Int.add_le_add (Kf n λi w=>Int.mul_le_mul ?_ (j i) (k i) `b) (Int.mul_le_mul b (j n) (k n) `a);have:=c _ (Fs (show i<@f by omega));show ((Bs.co f i).natAbs:Int)<=14;omega
def F0.moved {f g:cY} {h:Int} (F:F0 f) (c:h.natAbs<=30) (e:ro g=E_ h (ro f)) (l:@g=@f):F1 g:=by
 let {a,b}:=NQ (y:=31) F.1 F.2.1 F.2.2 e l `a;let d:=F.1.l2;let i:=F.1.l4;refine {a,Dh b ?_};rw [l];rcases (show @f=2\/@f=3\/@f=4 by omega) with z | z | z <;> rw [z] <;> decide
def mv0 (f:cY):ro f=E_ 0 (ro f):=by
 unfold E_;rw [show (X+num 0:Po Int)=X by rw [Fi];grind];exact (P0 (ro f)).symm
def F0.f1 {f:cY} (F:F0 f):F1 f:=F.moved (h:=0) `b (mv0 f) rfl
theorem SDs.kp {H b:Hp} {p a:Addr} {n:Int} (h:Hand H p a n) (k:Kp p H b):∀ {xs:cW} {L:List (cY)},SDs H xs L->SDs b xs L
 | [],[],_=>trivial
 | _::_,_::_,⟨⟨q,e,c⟩,r⟩=>{{q,e,k _ _ (KN h c) c},SDs.kp h k r}
 | [],_::_,h=>h.elim
 | _::_,[],h=>h.elim
theorem SD.ne {H:Hp} {p a q:Addr} {n:Int} {L:List (cY)} (h:Hand H p a n) (s:SD H q L):q≠p:=λz=>by
 let {d,x,y,w,hp,_}:=h;let {f,b,c}:=s;rw [z,hp] at b;injection b with b;injection b with b;subst b
 match L,c with
 | _::_::_,⟨_,⟨_,e,_⟩,_⟩=>cases e
def SD.kp {H b:Hp} {p a q:Addr} {n:Int} {L:List (cY)} (h:Hand H p a n) (k:Kp p H b) (s:SD H q L):SD b q L:=by
 let c:=s.ne h;let {d,e,f}:=s;exact {d,k _ _ c e,f.kp h k}
theorem NR {H:Hp}:∀ f:cY,RepA H (~~~f) (f.map λi=>W.Dat.int i)
 | []=>.nil
 | _::f=>.cons (.int _) (NR f)
theorem TQ {H:Hp}:∀ {xs:cW} {L:List (cY)},SDs H xs L->RepA H xs (L.map λf=>W.Dat.list (f.map λi=>W.Dat.int i))
 | [],[],_=>.nil
 | _::_,f::_,⟨⟨q,e,a⟩,r⟩=>e ▸ .cons (.lst a (NR f)) (TQ r)
 | [],_::_,h=>h.elim
 | _::_,[],h=>h.elim
def GZ (n:Nat) (f:cY):W.kqdOk (n+1) (.list (f.map λi=>W.Dat.int i))=true:=by simp [W.kqdOk]
def rH (L:List (cY)):W.kqdOk 8 (.list (L.map λf=>W.Dat.list (f.map λi=>W.Dat.int i)))=true:=by
 show (L.map _).all (W.kqdOk 7)=true;rw [FQ];intro x a;let {f,_,rfl}:=Am.mp a;exact GZ 6 f
def rJ {t u:TT} {a:L2.St} {H:Hp} {Q:Bool->Hp->Prop} (h:t a H λc b=>if c=true then u a b Q else Q false b):EQ t u a H Q:=h
def rK (h:KD K vs H Q E):zH K { nx:=λ_ P=>Q .non P,rt:=Q } (L2.start ["_law_hand_here","_law_firsts","_law_great","_law_kind"] vs) H:=by
 let {p,a,q,L,g,n,rfl,hh,n8,hS,l3,hL,k}:=h;refine AY (Ae ⟨_,rfl,p,a,4,n,rfl,hh,`a,`b,`b,λkd H1 _ _ h1 R=>?_⟩);let a3:=SD.kp hh R hS
 let G:∀ {b:Hp} {m:Int} {A B C:Int} {σ:L2.St},Hand b p a m->m<=n+10->Kp p H b->0<A->A<=200000->0<B->B<=1000->σ[0]?=some (↥p)->(∀ u v,0<=u->u<A->0<=v->v<B->((g=true->F2 [u - C,1+v])/\(g=false->F1 [u - C,1+v]/\(L=[]->F0 [u - C,1+v]))))->Aa (As (AB (A_ Ax (bA (Bv K) (AB (AA 0) (AB (tC (.int A)) AC))) (tC (.int C))) (AB (A_ A8 (aS 1) (bA (Bv K) (AB (AA 0) (AB (tC (.int B)) AC)))) AC))) { nx:=λ_ P=>Q .non P,rt:=Q } σ b:=λ{b m A B C σ} d mn y A0 A1 B0 B1 S hF=>by
  refine BT (ID (AZ (Ae (AS S {p,a,A,m,2,d,`a,A0,A1,λu H3 u0 u1 O M=>{3,?_}}))));refine AZ (I_ (Ae (AS S {p,a,B,m+2,2,O,`a,B0,`a,λv H4 v0 v1 T k4=>{3,Ev,λr N=>?_}})));let sr:=AO N (.lst [.int (u - C),.int (1+v)]);let I:=T.ne N;let J:=(y.trans M).trans k4;let {f2,f1}:=hF u v u0 u1 v0 v1;exact k r [u - C,1+v] _ upd_same I (J.free I N) ((T.same sr).mono `a) (J.same sr) f2 f1
 refine DN {1,g,2,Ab (λhg=>?_) (λhg=>?_)}
 .exact G h1 `a R `b `b `b `b rfl λu v u0 u1 v0 v1=>{λ_=>{NP `a,2,by rw [TN];omega},λz=>by rw [z] at hg;cases hg}
 let gf:g=false:=by cases g with | false=>rfl | true=>exact absurd rfl hg
 let o:∀ {b:Hp} {m:Int},Hand b p a m->m<=n+10->Kp p H b->Rf K { nx:=λ_ P=>Q .non P,rt:=Q } [↥p,↥q,some (.bl g),some (.int kd)] b:=λ{b m} d mn y=>
  G d mn y `b `b `b `b rfl λu v u0 u1 v0 v1=>by
   let U:F0 [u - 9,1+v]:={NP `a,λz hz=>by
    rcases CS.mp hz with rfl | hz
    .omega
    .rw [Ap.mp hz];omega,by show (1+v).natAbs<=6;omega}
   exact {λz=>(by rw [gf] at z;cases z),λ_=>{U.f1,λ_=>U}}
 show Rh K _ _ _;refine DN (B8 {1,2,1,Ab (λ_=>?_) (λ_=>?_)})
 .refine BT (Ae {1,AZ (I_ (Ae ⟨_,rfl,p,a,2,n+2,rfl,h1,`a,`b,`b,λs b s0 s1 d y=>{3,?_}⟩))});refine {p,a,2+s,n+2+2,2,d,`a,`a,`a,λr f H3 N lf fc a4 b3 I rn O M=>?_};let J:=R.trans y;let U:F0 f:={fc,a4,`a};exact k r f H3 N I (J.free I rn) (O.mono `a) (J.trans M) (λz=>by rw [gf] at z;cases z) λ_=>{U.f1,λ_=>U}
 show Rg K _ _ _;refine DN (rJ (B8 {1,2,1,Ab (λ_=>?_) (λ_=>?_)}))
 case refine_2=>exact Ab (λz=>nomatch z) (λ_=>o h1 `a R)
 refine B8 {1,AV _,λe he=>?_};let X:=AO he (.lst []);let Y:upd H1 e (.lst []) e=some (HO.lst []):=upd_same;let d:=h1.same X;let y:=R.same X;let {xs,hq,hs}:=a3;let x:=X _ _ hq;let D:=hs.tp X;generalize upd H1 e (.lst [])=b at X Y d y x D ⊢;let xl:=@hs;refine {.list (L.map λf=>W.Dat.list (f.map λi=>W.Dat.int i)),.list [],decide (L=[]),.lst x (TQ D),.lst Y .nil,rH L,2,{λz=>by rw [nF z];rfl,λz=>nE (by injection z with z;exact List.map_eq_nil_iff.mp z)},1,Ab (λc=>?_) (λc=>o d `a y)};let ne:L≠[]:=λz=>by rw [nE z] at c;cases c
 let l0:0<@L:=DE.mpr ne;refine BT (Ae (AZ {1,Ae {1,G5 {1,6,x,p,a,_,n+2,2,d,`a,`a,`a,λi H3 i0 i1 O M=>?_}}}));let a5:=D.kp d M;let a6:SD b q L:=⟨xs,x,D⟩;let a7:=M _ _ (a6.ne d) x;let {j,rfl}:∃ j:Nat,i=(j:Int):={i.toNat,`a};let {f,hf,Z}:=a5.at (i:=j) `a;refine {5,a7,DL hf,?_};let F:F0 (L.getD j []):=hL gf _ (by rw [AN,AR (show j<@L by omega)];exact CN _);refine AZ (Ae {1,p,a,61,n+2+2,2,O,`a,`b,`b,λw H4 w0 w1 T k4=>{3,?_}});let a0:=k4 _ _ (KN O Z) Z;generalize L.getD j []=fr at F a0;refine {f,fr,w - 30,2,a0,F.1.l4,λz hz=>?_,?_,λr gr H5 s5 rn N lg eg=>?_}
 .have:=F.2.1 z hz;exact Cr this `b
 .exact Cr (show (w - 30).natAbs<=30 by omega) `b
 let J:=(y.trans M).trans k4;let I:=T.ne rn;exact k r gr H5 N I (J.free I rn) ((T.same s5).mono `a) (J.same s5) (λz=>by rw [gf] at z;cases z) λ_=>{F.moved `a eg lg,λz=>absurd z ne}
end
section
open Po
theorem Ix (M:List (cY)):∀ L:List (cY),dS (L++M)=dS L+dS M
 | []=>by show dS M=0+dS M;omega
 | f::L=>by show (@f - 1)+dS (L++M)=(@f - 1)+dS L+dS M;rw [Ix M L];omega
theorem Ki (M:List (cY)):∀ L:List (cY),pN (L++M)=pN L*pN M
 | []=>by show pN M=1*pN M;rw [Int.one_mul]
 | f::L=>by show nI @f (ro f)*pN (L++M)=nI @f (ro f)*pN L*pN M;rw [Ki M L,Int.mul_assoc]
theorem Kj:∀ L:List (cY),(∀ f∈L,Lz f)->1<=pN L
 | [],_=>DJ 1
 | f::L,h=>by
   let a:=rG (h f BX);let b:=Kj L λg c=>h g (Br _ c);show 1<=nI @f (ro f)*pN L;have:=Int.mul_le_mul a b `b `a;omega
def TR {L:List (cY)} {i:Nat} (h:i<@L):L.take (i+1)=L.take i++[L.getD i []]:=by
 rw [C4,AN,AR h];rfl
def rM {row:cY} {t d:Int} (f:0<d):∃ B:Int,B≠0/\num d*ro (BI (row.map λn=>AW (n*t) d))=num (t*B)*ro row:=by
 let g:D5 (row.map λn=>AW (n*t) d):=λq h=>by
  let {n,_,rfl}:=Am.mp h;exact EY `a
 let a:=G0 g;unfold BI;generalize DM (row.map λn=>AW (n*t) d)=B at a ⊢;refine {B,by have:=a.1;omega,C_ λk=>?_};rw [D_,D_,Dy];show d*Bs.co (row.map _) k=t*B*Bs.co row k;by_cases c:k<↑row
 .let b:=Fs c
  let e:Bs.co (row.map ((λq:Nu=>q.1*(B / q.2)) ∘ λn=>AW (n*t) d)) k=(AW (Bs.co row k*t) d).1*(B / (AW (Bs.co row k*t) d).2):=by
   have:=GV c;unfold Bs.co at *;rw [AN,Ah,AR c,AN,AR c];rfl
  rw [e];generalize Bs.co row k=n at b ⊢;let {k,r,i,j}:=M4 (W:=n*t) f;let {c,o}:=a.2 _ (Am.mpr ⟨n,b,rfl⟩);let p:=(EY (n:=n*t) (m:=d) `a).pos;generalize (AW (n*t) d).1=x at *;generalize (AW (n*t) d).2=y at *;rw [o,Gf _ `a,show t*(y*c)*n=n*t*(y*c) by ext,i,j];ext
 .rw [AX (by rw [AI];omega),AX `a,Dg,Dg]
def rN (h:KE K vs H Q E):zI K (eC Q) (L2.start ["_law_hand_here","_law_factors","_law_row","_law_factor_here"] vs) H:=by
 let {p,a,q,L,n,rfl,hh,n8,hS,y,k}:=h;refine AY (Cb (I_ {Bi,λD U=>?_}));let W:=AO U (.lst [.int 1]);let F:upd H D (.lst [.int 1]) D=some (HO.lst (([1]:cY).map V.int)):=upd_same;generalize upd H D (.lst [.int 1])=H1 at W F ⊢;let {X,hq,hs}:=hS;let xl:=@hs
 let u:∀ i,1<=pN (L.take i)/\pN (L.take i)<=120000000000/\dS (L.take i)<=7:=λi=>by
  let e:=congrArg pN (List.take_append_drop i L);rw [Ki] at e;let e2:=congrArg dS (List.take_append_drop i L);rw [Ix] at e2;let a:=Kj (L.take i) λf A=>(y.fc f (Ek A)).lz;let b:=Kj (L.drop i) λf A=>(y.fc f (List.mem_of_mem_drop A)).lz;let c:=y.pn;let d:=y.ds;let m:=EN b (show 0<=pN (L.take i) by omega);omega
 let Y:∀ {z:Int} {i:Nat},(z.natAbs:Int)<=pN (L.take i)->Bd 37 z:=λ{z i} h=>by
  have:=(u i).2.1;unfold Bd;let e:(2:Nat) ^ 37=137438953472:=by decide
  omega
 refine (show AF (A4 (A5 K (AA 1)) _ _) _ _ [↥p,↥q,↥D,none] H1 from Ij (AS rfl {q,rfl,{_,SqL.of (W _ _ hq)},ForL.by (xs:=X) (λi N C=>∃ (v:Addr) (g:cY) (I:cX),N=[↥p,↥q,↥v,I]/\Same H C/\C v^^^(~~~g)/\@g=dS (L.take i)+1/\Lz g/\(∀ k,((Bs.co g k).natAbs:Int)<=pN (L.take i))/\ro g=pd ((L.take i).map ro))
  {D,[1],none,2,W,F,2,{by show 0<1;decide,by show (1:Int)≠0;decide},λk=>?_,?_} ?_ ?_ ?_}))
 .cases k with
  | zero=>exact DJ 1
  | succ k=>rw [AX (by show 1<=k+1;omega)];exact (by decide:(0:Int)<=1)
 .rw [Eg,<-one_eq];rfl
 .rintro i N C _ ⟨v,g,I,rfl,s,_⟩;exact SqL.of (s _ _ hq)
 .rintro i x N Z hx ⟨v,g,I,rfl,J,O,gl,o,P,R⟩;let hi:i<@L:=by have:=(A3.mp hx).1;omega
  let {fa,a0,A}:=hs.at hi;rw [a0] at hx;cases hx;let fm:L.getD i []∈L:=by rw [AN,AR hi];exact CN _
  let S:=y.fc _ fm;let nb:=y.nb _ fm;let M:=TR hi;let ps:=u (i+1);rw [M,Ki,Ix] at ps;generalize L.getD i []=f at A S nb M ps;let eP:pN [f]=nI @f (ro f):=by show nI @f (ro f)*1=_;rw [Int.mul_one]
  let eD:dS [f]=@f - 1:=by show @f - 1+0=_;omega
  let l2:=S.l2
  let bf:∀ z∈f,Bd 37 z:=λz hz=>by
   let {j,T,rfl}:=C3 hz;have:=Kg (f:=ro f) T;let e:(ro f).c j=f[j]:=by show Bs.co f j=_;unfold Bs.co;rw [AN,AR T];rfl
   rw [e] at this;unfold Bd;let e:(2:Nat) ^ 37=137438953472:=by decide
   omega
  refine (show AJ _ _ _ [↥p,↥q,↥v,↥fa] Z from G7 (Ae {4,v,fa,g,f,37,37,2,O,J _ _ A,o.1,`a,`a,by have:=S.l4;omega,Ig λk=>Y (P k),bf,`b,`b,λr c H3 s3 rn hc cl lc ck=>?_}));let ec:ro c=ro g*ro f:=C_ λk=>by rw [<-CV];exact SU ck k
  refine {r,c,1,J.trans s3,hc,by rw [M,Ix,eD];omega,lc o S.lz,λk=>?_,by rw [M,Bj,Fk,ec,R];show _=_*(ro f*1);ext};rw [M,Ki,eP,Cs];show (((ro c).c k).natAbs:Int)<=_;rw [ec,show ro g*ro f=ro f*ro g by grind];exact sU (Cn f) (by have:=(u i).1;omega) P k
 .rintro N Z ⟨v,g,I,rfl,J,O,gl,o,P,R⟩;rw [xl,B4] at gl R;let d7:=y.ds;let h2:=hh.same J;refine (show Aa (bA (J1 K) (AB (AA 2) (AB (bA (J2 K) (AB (AA 0) AC)) AC))) _ [↥p,↥q,↥v,I] Z from BT (Ae {1,B7 {1,p,a,n,2,h2,`a,λr t d H3 hr lt t0 bt bd h3 k3=>?_}}));let a3:=k3 _ _ (KN h2 O) O;let d0:d≠0:=BL lt.pos
  let bz:∀ z∈g,(z.natAbs:Int)<=120000000000:=λz hz=>by
   let {j,T,rfl}:=C3 hz;have:=P j;let p1:=(u @X).2.1;let e:Bs.co g j=g[j]:=by unfold Bs.co;rw [AN,AR T];rfl
   rw [e] at this;omega
  let G:=wV o (λz hz=>by
   let h1:=bz z hz;let h2:(z*t).natAbs<=120000000000*9:=by rw [BK];exact EM `a bt
   unfold Bd;let e:(2:Nat) ^ 40=1099511627776:=by decide
   omega) lt t0 bd
  let {bZ,bB,b1}:=G.clr;refine {v,r,g,t,d,2,a3,hr,d0,Cr bt `b,λz hz=>?_,`a,λr4 zs H4 s4 h4 n4=>?_}
  .exact Cr (show z.natAbs<=120000000000 by have:=bz z hz;omega) (by decide +kernel)
  let ln:(g.map λn=>AW (n*t) d).length=@g:=AI ..;let a4:(g.map λn=>AW (n*t) d)≠[]:=λz=>by let z2:=congrArg List.length z;rw [AI] at z2;have:=o.1;simp at z2;rw [z2] at this;simp at this
  let a5:=HR (wA G.low G.nz) λz=>a4 (by have:=congrArg List.length z;rw [SH] at this;exact B5.mp this);let {B,B0,eB}:=rM (row:=g) (t:=t) lt.pos;refine k r4 _ H4 {zs,h4,n4,G.low,`a,bB,b1,bZ,a5} ((h3.same s4).mono `a) (((Kp.of_same J).trans k3).same s4) ?_;let d1:(d:Rat)≠0:=λw=>d0 (Df.mp w);let tB:((t*B:Int):Rat)≠0:=λw=>Bo t0 B0 (Df.mp w);let i:=DI _ d1;let e:=congrArg AU eB;rw [toQP_hm.mul,toQP_hm.mul,Du,Du,R] at e;refine {(d:Rat)⁻¹*((t*B:Int):Rat),λw=>?_,?_}
  .rcases Rat.mul_eq_zero.mp w with w | w
   .exact absurd i (by rw [w];simp)
   .exact tB w
  .rw [Ez i (AU (ro (BI _))),e,BV];ext
end
section
open Po
def rO {q c:Nu} (h:Eu q=Eu c):q=c:=by
 unfold Eu at h;injection h with h;injection h with a h;injection h with b h;injection a with a;injection b with b;exact Prod.ext a b
def rP {l m:cU} (h:Ff l=Ff m):l=m:=by
 unfold Ff at h;injection h with h
 let a:∀ {l m:cU},l.map Eu=m.map Eu->l=m:=λ{l}=>by
  induction l with
  | nil=>intro m h;cases m with | nil=>rfl | cons=>cases h
  | cons x l b=>
    intro m h;cases m with
    | nil=>cases h
    | cons y m=>
      injection h with c d;rw [rO c,b d]
 exact a h
def rQ {f g:cY} {h:Int} (a:Lz f) (e:ro g=E_ h (ro f)) (l:@g=@f):Lz g/\O' g=E_ (h:Rat) (O' f):=by
 let b:=a.1
 let t:lst' g=lst' f:=by
  show (ro g).c _=_;rw [e,l];exact IP h ((Cn f).mono `a)
 refine {{`a,by show lst' g≠0;rw [t];exact a.2},?_};unfold O';rw [t,e,Iu,(BU _).mul];congr 1;exact (CQ hm_num _ _).symm
def NS {f:cY} (b:Lz f):((lst' f:Int):Rat)≠0/\((lst' f:Int):Rat)⁻¹*((lst' f:Int):Rat)=1:=by
 let a:((lst' f:Int):Rat)≠0:=λw=>b.2 (Df.mp w);exact {a,DI _ a}
def Iy {f g:cY} {h:Int} (b:Lz f) (a:Lz g):bo f g h↔@f=@g/\O' f=E_ (h:Rat) (O' g):=by
 let {d,i}:=NS b;let {k,j}:=NS a;constructor
 .rintro ⟨l,c,m,e⟩;refine {l,(Mn.same (FF (h:Rat) (E1 a)) (by rw [<-l];exact E1 b) ?_).symm};rw [Kh a,(BU _).mul] at e;unfold O' at *;rw [e];exact ((Dv.rf _).mulL _).mulL _ |>.mulL _
 .rintro ⟨l,e⟩;refine {l,((lst' f:Int):Rat)*((lst' g:Int):Rat)⁻¹,λw=>?_,?_}
  .rcases Rat.mul_eq_zero.mp w with w | w
   .exact d w
   .rw [w] at j;exact absurd j (by simp)
  .rw [Kh b,e];unfold O';rw [(BU _).mul,BV];have:E_ (h:Rat) (num ((lst' g:Int):Rat)⁻¹)=num ((lst' g:Int):Rat)⁻¹:=CQ hm_num _ _;rw [this];ext
def TU {n m:Int} (a:m≠0):((AW n m).1:Rat)=((m:Rat)⁻¹*n)*((AW n m).2:Rat):=by
 let v:=Gz (n:=n) a;let b:((AW n m).2:Rat)≠0:=D6 (by have:=(EY (n:=n) a).pos;omega);unfold val at v;let c:((AW n m).1:Rat) / ((AW n m).2:Rat)*((AW n m).2:Rat)=((AW n m).1:Rat):=Rat.div_mul_cancel b;rw [<-c,v,Rat.div_def];ext
def TV {f g:cY} (b:Lz f) (a:Lz g) (l:@f=@g):S_ f=S_ g↔O' f=O' g:=by
 let c:∀ {f:cY},Lz f->∀ k,(O' f).c k=bN (S_ f) k:=λ{f} b k=>by
  rw [wC b];unfold O';rw [D_];show ((lst' f:Int):Rat)⁻¹*((Bs.co f k:Int):Rat)=_;rw [Rat.div_def];unfold lst';ext
 constructor
 .intro e;exact C_ λk=>by rw [c b,c a,e]
 .intro e;refine List.ext_getElem (by rw [GU,GU,l]) λk d h=>?_;let w:bN (S_ f) k=bN (S_ g) k:=by rw [<-c b,<-c a,e]
  let i:Dp (S_ f) k=(S_ f)[k]:=by unfold Dp;rw [AN,AR d];rfl
  let j:Dp (S_ g) k=(S_ g)[k]:=by unfold Dp;rw [AN,AR h];rfl
  rw [<-i,<-j];exact PQ (PL (SI b) _) (PL (SI a) _) w
def rR {f g:cY} {h:Int} {n:Nat} (j:Lz f) (a:Lz g) (lf:@f=n+2) (S:bo f g h):(AW (Bs.co f n) (lst' f)).1*(AW (Bs.co g n) (lst' g)).2 - (AW (Bs.co g n) (lst' g)).1*(AW (Bs.co f n) (lst' f)).2=h*((AW (Bs.co f n) (lst' f)).2*(AW (Bs.co g n) (lst' g)).2*((n+1:Nat):Int)):=by
 let {l,e}:=(Iy j a).mp S;let m:=E1 a;rw [<-l,lf] at m;let e:=congrArg (λf=>Po.c f n) e;let e:(O' f).c n=(E_ (h:Rat) (O' g)).c n:=e;rw [P8 (h:Rat) m] at e;let c:∀ f:cY,(O' f).c n=((lst' f:Int):Rat)⁻¹*((Bs.co f n:Int):Rat):=λf=>by unfold O';rw [D_];rfl
 rw [c,c] at e;let b:=TU (n:=Bs.co f n) j.2;let i:=TU (n:=Bs.co g n) a.2;let b:((AW (Bs.co f n) (lst' f)).1:Rat)=(((lst' f:Int):Rat)⁻¹*((Bs.co f n:Int):Rat))*((AW (Bs.co f n) (lst' f)).2:Rat):=b;let i:((AW (Bs.co g n) (lst' g)).1:Rat)=(((lst' g:Int):Rat)⁻¹*((Bs.co g n:Int):Rat))*((AW (Bs.co g n) (lst' g)).2:Rat):=i;rw [e] at b;generalize ((lst' g:Int):Rat)⁻¹*((Bs.co g n:Int):Rat)=x at b i;generalize (AW (Bs.co f n) (lst' f)).1=a1 at *;generalize (AW (Bs.co f n) (lst' f)).2=k at *;generalize (AW (Bs.co g n) (lst' g)).1=a2 at *;generalize (AW (Bs.co g n) (lst' g)).2=o at *;let p:(nR (n+1):Rat)=(((n+1:Nat):Int):Rat):=rfl;rw [p] at b;generalize ((n+1:Nat):Int)=d at b ⊢
 have:((a1*o - a2*k:Int):Rat)=((h*(k*o*d):Int):Rat):=by
  push_cast;rw [b,i];ext
 exact_mod_cast this
def rS (h:MX K vs H Q E):zL K (eC Q) (L2.start ["_law_one","_law_other","_law_first","_law_second","_law_size","_law_one_top","_law_one_bottom","_law_two_top","_law_two_bottom","_law_top","_law_bottom","_law_h"] vs) H:=by
 let {r,s,f,g,rfl,hr,Z,p,q,bf,R,k}:=h;let l2:=p.l2;let l4:=p.l4;let m2:=q.l2;let m4:=q.l4;refine (show F3 _ _ _ _ _ _ from B7 (AS rfl {r,f,2,hr,p.lz,`a,λT C H1 s1 F G=>B7 (AS rfl {s,g,2,s1 _ _ Z,q.lz,`a,λU W X Y h2 N2=>{6,?_}})}));let F:=Y _ _ F;let G:=G.tp (aZ Y);let o:=s1.trans Y;let e1:@C=@f:=by rw [@G,GU]
 let e2:@W=@g:=by rw [@N2,GU]
 let {n,hn}:∃ n,@f=n+2:={@f - 2,`a};show Rq K _ _ _;refine AY (AZ {1,6,F,3,?_});let es:(@C:Int) - 1=((n+1:Nat):Int):=by omega
 show Rp K _ [↥r,↥s,↥T,↥U,some (.int ((@C:Int) - 1)),none,none,none,none,none,none,none] X;rw [es];refine DN (B8 {1,6,h2,1,6,F,2,1,Ab (λc=>?_) (λc=>?_)})
 .refine BT (I_ (k _ _ o (.inl rfl) λh=>{λS=>?_,λz=>nomatch z}));rw [e1,e2,S.1] at c;simp at c
 let le:@f=@g:=Classical.byContradiction λz=>c (by
  rw [e1,e2,Bool.not_eq_true',decide_eq_false_iff_not];intro w;injection w with w;omega)
 let {v1,a1,q1,rfl,I}:=G.at (i:=n) (by rw [GU];omega) (0,1);let {v2,a2,q2,rfl,J}:=N2.at (i:=n) (by rw [GU];omega) (0,1)
 let gm:∀ {f:cY},n<@f->(S_ f).getD n (0,1)=AW (Bs.co f n) (lst' f):=λ{f} hf=>by
  let e:f.getD n 0=f[n]:=by rw [AN,AR hf];rfl
  unfold S_ Bs.co lst';rw [e,AN,Ah,AR hf];rfl
 rw [gm `a] at I J;let Sh:=λh=>rR (h:=h) p.lz q.lz hn;let p1:=(EY (n:=Bs.co f n) (m:=lst' f) p.lz.2).pos;let p2:=(EY (n:=Bs.co g n) (m:=lst' g) q.lz.2).pos;let {v,d}:=PU (n:=Bs.co f n) p.lz.2 (Ce bf n) (Ce bf (@f - 1));let {x,j}:=PU (n:=Bs.co g n) q.lz.2 (Ce R n) (Ce R (@g - 1));let d:Bd 40 (AW (Bs.co f n) (lst' f)).2:=d;let j:Bd 40 (AW (Bs.co g n) (lst' g)).2:=j;let v:Bd 40 (AW (Bs.co f n) (lst' f)).1:=v;let x:Bd 40 (AW (Bs.co g n) (lst' g)).1:=x;let ei:((n+1:Nat):Int) - 1=(n:Int):=by omega
 show Ro K _ _ _;refine G6 (AZ {4,3,5,F,by rw [ei];exact DL a1,q1,1,I,2,6,3,?_});show Rm K _ _ _;refine G6 (AZ {4,3,5,h2,by rw [ei];exact DL a2,q2,1,J,2,6,3,?_});generalize (AW (Bs.co f n) (lst' f)).1=L at *;generalize (AW (Bs.co f n) (lst' f)).2=y at *;generalize (AW (Bs.co g n) (lst' g)).1=M at *;generalize (AW (Bs.co g n) (lst' g)).2=A at *
 let bn:Bd 3 ((n+1:Nat):Int):=by unfold Bd;rw [Ck];have:(2:Nat) ^ 3=8:=by decide
                                 omega
 refine AY (AZ {4,3,CK v j,4,3,CK x d,3,?_});refine AY (AZ {4,3,CK d j,8,CK (d.mul j) bn,?_});show Rl K _ [↥r,↥s,↥T,↥U,some (.int ((n+1:Nat):Int)),some (.int L),some (.int y),some (.int M),some (.int A),some (.int (L*A - M*y)),some (.int (y*A*((n+1:Nat):Int))),none] X;let a:0<y*A*((n+1:Nat):Int):=Int.mul_pos (Int.mul_pos p1 p2) `a;let bT:Bd 81 (L*A - M*y):=Bd.sub (v.mul j) (x.mul d);generalize y*A*((n+1:Nat):Int)=b at *;generalize L*A - M*y=top at *;refine DN (B8 {4,3,BL a,2,1,Ab (λc=>?_) (λc=>?_)})
 .refine BT (I_ (k _ _ o (.inl rfl) λh=>{λS=>?_,λz=>nomatch z}));let e:=Sh h S;let c:(!decide (V.int (top.fmod b)=V.int 0))=true:=c;rw [Int.fmod_eq_emod_of_nonneg _ (DQ a),e,Int.mul_emod_left] at c;simp at c
 let em:top % b=0:=Classical.byContradiction λz=>c (by
  show (!decide (V.int (top.fmod b)=V.int 0))=true;rw [Bool.not_eq_true',decide_eq_false_iff_not];intro w;injection w with w;rw [Int.fmod_eq_emod_of_nonneg _ (DQ a)] at w;exact z w)
 let et:top=top.fdiv b*b:=by
  rw [Ei _ (DQ a)];have:=Int.ediv_mul_add_emod top b;omega
 let bh:Bd 200 (top.fdiv b):=by
  refine (bT.mono `b).le ?_;rw [Ei _ (DQ a)];exact Int.natAbs_ediv_le_natAbs top b
 show Rk K _ _ _;refine AY (AZ {4,3,BL a,?_});show Rj K _ [↥r,↥s,↥T,↥U,some (.int ((n+1:Nat):Int)),some (.int L),some (.int y),some (.int M),some (.int A),some (.int top),some (.int b),some (.int (top.fdiv b))] X;generalize top.fdiv b=h at et bh ⊢;let Sh:∀ B,bo f g B->B=h:=λB S=>Int.eq_of_mul_eq_mul_right (BL a) ((Sh B S).symm.trans et);refine DN (B8 (AZ (B7 (Ae {4,s,g,h,2,o _ _ Z,m4,λz hz=>(R z hz).mono `b,bh,λu N H3 O _ hu lu eu=>?_}))));let {D,ea}:=rQ q.lz eu lu;refine {u,N,2,hu,D,`a,λt3 a0 H4 P h4 N4=>{1,Ff (S_ N),Ff (S_ f),decide (S_ N=S_ f),Pl h4 N4,Pl (P _ _ (O _ _ F)) (G.tp (aZ (O.trans P))),okP _ 6,okP _ 6,{λz=>by rw [nF z],λz=>nE (rP z)},1,Ab (λc=>?_) (λc=>?_)}}
 .refine BT (I_ (k _ _ (o.trans (O.trans P)) (.inl rfl) λB=>{λS=>?_,λz=>nomatch z}));let e:=Sh B S;subst e;let m:=(Iy p.lz q.lz).mp S;rw [(TV D p.lz `a).mpr (by rw [ea,m.2])] at c;simp at c
 .let me:S_ N=S_ f:=Classical.byContradiction λz=>c (by rw [nG z];rfl);let am:=(TV D p.lz `a).mp me;show Ri K _ _ _;refine BT {1,k _ _ (o.trans (O.trans P)) (.inr ⟨h,rfl⟩) λB=>{λS=>by rw [Sh B S],λz=>?_}};injection z with z;rw [<-z];exact (Iy p.lz q.lz).mpr {le,by rw [<-ea,am]}
end
section
open Po
theorem TW:∀ {L:List (cY)},(∀ f∈L,1<=@f)->(L.map λf=>(@f:Int) - 1).sum=(dS L:Int)
 | [],_=>rfl
 | f::L,h=>by
   let a:=h f BX;let b:=TW λg c=>h g (Br _ c);rw [List.map_cons,List.sum_cons,b];show (@f:Int) - 1+(dS L:Int)=((@f - 1+dS L:Nat):Int);omega
def TX {K:W.Frag} {i:Nat} {q:Addr} {xs:cW} {L:List (cY)} {h:L2.St} {H:Hp} {Q:VK} (c:h[i]?=some (↥q)) (j:H q^^^xs) (m:SDs H xs L) (l:@L<=10) (n:∀ f∈L,1<=@f) (k:∀ a,Same H a->Q (.int (dS L:Int)) a):D' GG (AB (A9 (A5 K (AA i)) [none] (AE 0) (A_ Ax (D' Ao (AB (AA 0) AC)) (aS 1))) AC) h H Q:=by
 let o:=@m;refine Ds (DY (AS c {q,2,{_,SqL.of j},CompJ.lst (xs:=xs) (λi b a=>a=H/\i<=@L/\b=((L.take i).map λf=>(@f:Int) - 1).map V.int) {2,AV _,2} ?_ ?_ ?_}))
 .rintro i b a ⟨rfl,p,rfl⟩;exact {`a,by rw [AI,AI,Ba];exact sz `a,SqL.of j}
 .rintro i x b a d ⟨rfl,p,rfl⟩;let e:i<@L:=by have:=(A3.mp d).1;omega
  let {w,g,u}:=m.at e;rw [g] at d;cases d;refine {1,6,u,3,2,e,?_};rw [TR e,Bj,Bj,AI];rfl
 .rintro b a ⟨rfl,_,rfl⟩ r v;refine {r,L.map λf=>(@f:Int) - 1,2,?_,by rw [TW n];exact k _ (AO v _)};rw [upd_same,o,B4]
def rV {M:List (cY)} (h:∀ f∈M,Fc f):0<=pN M:=by
 have:=Kj M λf a=>(h f a).lz;omega
theorem TY:∀ {M:List (cY)},(∀ f∈M,F1 f)->@M<=dS M/\pN M<=200 ^ @M*58 ^ (dS M - @M)
 | [],_=>{AT 0,DJ 1}
 | f::M,h=>by
   let {e,b}:=h f BX;let c:=λg a=>h g (Br f a);let {l,i}:=TY c;let j:=e.l2;let d:dS (f::M)=@f - 1+dS M:=rfl;refine {by rw [d,Cj];omega,?_};rw [d,Cj,show @f - 1+dS M - (@M+1)=(@f - 2)+(dS M - @M) by omega];show nI @f (ro f)*pN M<=_;let m:=Int.mul_le_mul b i (rV λg a=>(c g a).1) (Int.mul_nonneg `b (DQ (Int.pow_pos `b)));refine Dh m (Int.le_of_eq ?_);rw [Int.pow_succ,Int.pow_add];ext
def Ls.of1 {M:List (cY)} (h:∀ f∈M,F1 f) (l:@M<=3) (d:dS M<=5):Ls M:=by
 let {a,b}:=TY h;let e:∀ m,m<4->∀ d,d<6->(200:Int) ^ m*58 ^ (d - m)<=120000000000:=by decide
 let g:∀ m,m<3->(200:Int)*58 ^ m<=120000000000:=by decide
 refine {λf c=>(h f c).1,`a,`a,Dh b (e _ `a _ `a),λf c=>Dh (h f c).2 (g _ ?_)};have:=(h f c).1.l4;omega
theorem TZ {B:Int} (c:0<=B):∀ {M:List (cY)},(∀ f∈M,nI @f (ro f)<=B)->pN M<=B ^ @M
 | [],_=>by show (1:Int)<=B ^ 0;rw [Int.pow_zero];exact DJ 1
 | f::M,h=>by
   let d:=TZ c λg e=>h g (Br f e);rw [Cj,Int.pow_succ,Cs];show nI @f (ro f)*pN M<=_;let i:=TC @f (ro f);let a:=EN d i;let j:0<=B ^ @M:=Int.pow_nonneg c;let b:=Gg (h f BX) j;omega
theorem Ta:∀ {M:List (cY)},(∀ f∈M,@f=2)->dS M=@M
 | [],_=>rfl
 | f::M,h=>by
   have:=Ta λg a=>h g (Br f a);show @f - 1+dS M=@M+1;rw [h f BX,this];omega
def Ls.lines {B:Int} {n:Nat} {M:List (cY)} (h:∀ f∈M,Fc f/\@f=2/\nI @f (ro f)<=B) (b:0<=B) (l:@M<=n) (g:n<=7) (c:∀ m,m<n+1->B ^ m<=120000000000) (e:B<=120000000000):Ls M:=by
 let d:=Ta λf a=>(h f a).2.1;exact {λf a=>(h f a).1,`a,`a,Dh (TZ b λf a=>(h f a).2.2) (c _ `a),λf a=>Dh (h f a).2.2 e}
def Ls.of2 {M:List (cY)} (h:∀ f∈M,F2 f) (l:@M<=2):Ls M:=Ls.lines (B:=100002) (n:=2) h `b l `b `b `b
def Ls.one {f:cY} (c:Fc f) (b:nI @f (ro f)<=120000000000):Ls [f]:=by
 let d:=c.l4;refine {λg a=>by rw [Ap.mp a];exact c,by show 1<=7;decide,?_,?_,λg a=>by rw [Ap.mp a];exact b}
 .show @f - 1+0<=7;omega
 .show nI @f (ro f)*1<=_;omega
def Tc {f g:cY} {h:Int} (i:Fc f) (a:∀ z∈f,z.natAbs<=14) (j:(lst' f).natAbs<=3) (e:ro g=E_ h (ro f)) (l:@g=@f) (c:@f=3/\h.natAbs<=99999\/@f=4/\h.natAbs<=3000):Fc g/\nI @g (ro g)<=120000000000:=by
 rcases c with ⟨c,k⟩ | ⟨c,k⟩
 .let {d,b}:=NQ (y:=100000) i a j e l `a;exact {d,Dh b (by rw [c];decide)}
 .let {d,b}:=NQ (y:=3001) i a j e l `a;exact {d,Dh b (by rw [c];decide)}
theorem SDs.kpr {H c:Hp} {p a s:Addr} {n:Int} (h:Hand H p a n) (k:Kp p H c):∀ {xs:cW} {L:List (cY)},SDs (Bs.rm H s) xs L->SDs (Bs.rm c s) xs L
 | [],[],_=>trivial
 | _::_,_::_,⟨⟨q,e,b⟩,r⟩=>{{q,e,CA (Ke b) (k _ _ (KN h (Bq _ _ b)) (Bq _ _ b))},SDs.kpr h k r}
 | [],_::_,h=>h.elim
 | _::_,[],h=>h.elim
theorem SDs.drop {H:Hp}:∀ {xs:cW} {L:List (cY)} (n:Nat),SDs H xs L->SDs H (xs.drop n) (L.drop n)
 | [],[],_,_=>by rw [List.drop_nil,List.drop_nil];exact trivial
 | _::_,_::_,0,h=>h
 | _::_,_::_,n+1,⟨_,r⟩=>SDs.drop n r
 | [],_::_,_,h=>h.elim
 | _::_,[],_,h=>h.elim
end
section
open Po
def Kk {a:TE} {b:L2.St} {H:Hp} {R:cW->Hp->Prop} (h:a b H λx c=>R [x] c):AB a AC b H R:=h
def rW {b:TA} {g:TG} {c rest:TS} {D:Ends} {a:L2.St} {H:Hp} (h:b a H (λvs d=>∃ j:Int,vs=[.int j]/\-(2 ^ 62)<=j/\j<2 ^ 62/\ForR 0 j.toNat g c { D with nx:=rest D } a d)):AF (A4 (DG b) g c) rest D a H:=h
def rX {xs:cW} {m:Nat} (h:m<=@xs):CD xs (some (m:Int)) none=xs.drop m:=by
 unfold CD HT.sIx;simp only [Ch];rw [nB `a,Nat.min_eq_left h];exact List.take_of_length_le (by rw [List.length_drop];omega)
def PF (g:Bool) (f:cY):Prop:=(g=true->F2 f)/\(g=false->F1 f)
theorem PF.fc {g:Bool} {f:cY} (h:PF g f):Fc f:=by
 cases g with
 | true=>exact (h.1 rfl).1
 | false=>exact (h.2 rfl).1
theorem PF.ls {g:Bool} {L:List (cY)} (h:∀ f∈L,PF g f) (l:(@L:Int)<4 - (if g=true then 1 else 0)) (d:dS L<=5):Ls L:=by
 cases g with
 | true=>
   rw [nC rfl] at l;exact Ls.of2 (λf a=>(h f a).1 rfl) `a
 | false=>
   rw [nB `b] at l;exact Ls.of1 (λf a=>(h f a).2 rfl) `a d
def rY (h:MY K vs H Q E):zW K (eC Q) (L2.start ["_law_hand_here","_law_size","_law_most","_law_first","_law_many","_law_rows","_law_great","_law_firsts","_law_seconds","_law_k","_law_factor_here"] vs) H:=by
 let {p,a,n,rfl,hh,n1,k}:=h;refine DN (B8 (AZ (Ae ⟨_,rfl,p,a,8,n,rfl,hh,`a,`b,`b,λd H1 _ _ h1 k1=>{2,1,Ab (λ_=>?_) (λ_=>?_)}⟩)))
 .show Rr K _ _ _;refine AY (AZ (I_ (Ae ⟨_,rfl,p,a,2,n+2,rfl,h1,`a,`b,`b,λs H2 s0 s1 h2 k2=>{3,?_}⟩)))
  let {A,bg,hm}:∃ A:Int,M' [V.int 99999,V.int 3000] (2+s - 2)=some (V.int A)/\(s=0/\A=99999\/s=1/\A=3000):=by
   rcases (show s=0\/s=1 by omega) with z | z
   .exact {99999,by rw [z];rfl,.inl ⟨z,rfl⟩}
   .exact {3000,by rw [z];rfl,.inr ⟨z,rfl⟩}
  refine AY (AZ (ID (I_ (I_ {Ev,λw bh=>{8,5,upd_same,bg,?_}}))));let sw:=AO bh (.lst [.int 99999,.int 3000]);let h3:=h2.same sw;let k3:=(k1.trans k2).same sw;generalize upd H2 w (.lst [.int 99999,.int 3000])=H3 at h3 k3 ⊢;refine AY (Ae {4,p,a,2+s,n+2+2,2,h3,`a,`a,`a,λr f H4 hr lf fc a7 b3 rp rn h4 k4=>?_});refine BT (IC (Cb {1,Bi,λS a8=>?_}));let a0:=AO a8 (.lst [.ref r]);let D:upd H4 S (.lst [.ref r]) S^^^[V.ref r]:=upd_same;let ao:=a0 _ _ hr;let N:=h4.same a0;let O:=(k3.trans k4).same a0;generalize upd H4 S (.lst [.ref r])=H5 at a0 D ao N O ⊢
  let bm:Bd 20 A:=by
   have:(2:Nat) ^ 20=1048576:=by decide
   unfold Bd;omega
  let m2:IntMulOk 2 A:=CK (show Bd 2 2 by unfold Bd;decide) bm;refine Cb (Ae {1,AZ (Ae {1,AZ (AZ (I_ {8,m2,3,p,a,6,N,`a,`a,`a,λe H6 e0 e1 h6 T=>{8,?_}}))})});let ap:=T _ _ rp ao;refine {r,f,e - A,2,ap,fc.l4,λz hz=>Cr (a7 z hz) `b,?_,λu g H7 s7 _ hu lg eg=>{Bi,λw2 ab=>{Ev,λt ht=>?_}}}
  .exact Cr (show (e - A).natAbs<=99999 by omega) `b
  let {fg,ng}:=Tc fc a7 b3 eg lg `a;let nf:=(Tc (h:=0) fc a7 b3 (mv0 f) rfl `a).2;let s2:=AO ab (.lst [.ref u]);let G:=AO ht (.tup [.ref S,.ref w2])
  let ar:S≠p:=λz=>by
   let {ns,x,y,w',hp,_}:=N;rw [z,hp] at D;cases D
  refine k t S w2 [f] [g] _ ((((O.trans T).same s7).same s2).same G) ((((h6.same s7).same s2).same G).mono `a) upd_same {_,G _ _ (s2 _ _ (s7 _ _ (T _ _ ar D))),{{r,2,G _ _ (s2 _ _ (s7 _ _ ap))},trivial}} {_,G _ _ upd_same,{{u,2,G _ _ (s2 _ _ hu)},trivial}} (Ls.one fc nf) (Ls.one fg ng)
 show Rx K _ _ _;refine DN (B8 (AZ (Ae ⟨_,rfl,p,a,8,n+2,rfl,h1,`a,`b,`b,λd2 H2 _ _ h2 k2=>{2,1,Ab (λ_=>?_) (λ_=>?_)}⟩)))
 .show Ru K _ _ _;refine AY (AZ (I_ (Ae ⟨_,rfl,p,a,2,n+2+2,rfl,h2,`a,`b,`b,λs H3 s0 s1 h3 k3=>{3,?_}⟩)));let k3:=(k1.trans k2).trans k3;let {c,hc}:∃ c:Nat,6+s=(c:Int):={(6+s).toNat,`a};show Rs K _ [↥p,none,none,none,some (.int (6+s)),none,none,none,none,none,none] H3;rw [hc]
  let bc:Bd 3 (c:Int):=by
   unfold Bd;rw [Ck];have:(2:Nat) ^ 3=8:=by decide
   omega
  let mc:IntMulOk 2 (c:Int):=CK (show Bd 2 2 by unfold Bd;decide) bc;let tN:(2*(c:Int)).toNat=2*c:=by omega
  refine AY (NA (Kk (AZ (I_ {8,mc,1,`a,`a,CompJ.range (λi j C=>i<=2*c/\Kp p H C/\Hand C p a (n+2+2+2+4*i)/\∃ L,SDs C j L/\@L=i/\∀ f∈L,Fc f/\@f=2/\nI @f (ro f)<=11) {AV _,k3,h3.mono `a,[],trivial,2,λf F=>nomatch F} ?_ ?_ ?_}))))
  .rintro i j C ⟨hi,_,_,L,U,ll,_⟩;exact {by rw [tN];exact hi,by rw [@U,ll];exact sz `a}
  .rintro i j H4 hi ⟨_,k4,h4,L,U,ll,P⟩;rw [tN] at hi;refine EH (ID (AZ (Ae {1,p,a,19,1,h4,`a,`b,`b,λu H5 u0 u1 N O=>{3,?_}})));refine AZ (I_ (Ae ⟨_,rfl,p,a,2,_,rfl,N,`a,`b,`b,λv H6 v0 v1 h6 T=>{3,Ev,λr hr=>?_}⟩));let sr:=AO hr (.lst [.int (u - 9),.int (1+v)]);refine {hi,((k4.trans O).trans T).same sr,(h6.same sr).mono `a,L++[[u - 9,1+v]],(((U.kp h4 O).kp N T).tp sr).snoc (r:=[u - 9,1+v]) (show _^^^([u - 9,1+v].map V.int) from upd_same),by rw [Bf,ll];rfl,λf F=>?_};rcases BR.mp F with q | q
   .exact P f q
   .rw [Ap.mp q];exact {NP `a,2,by rw [TN];omega}
  .rintro j H4 ⟨_,k4,h4,L,U,ll,P⟩ q hq;rw [tN] at ll;let sq:=AO hq (.lst j);let ac:upd H4 q (.lst j) q^^^j:=upd_same;let af:=U.tp sq;let O:=k4.same sq;let N:=h4.same sq;let yl:=@U;generalize upd H4 q (.lst j)=H5 at sq ac af O N ⊢;refine BT (IC (show Z' sL _ _ _ _ _ _ from {4,1,q,j,2,ac,λS a8=>?_}));let R:=AO a8 (.lst (CD j none (some (c:Int))));let D:upd H5 S (.lst (CD j none (some (c:Int)))) S^^^(j.take c):=by rw [upd_same,IB `a]
   let W:=R _ _ ac;generalize upd H5 S (.lst (CD j none (some (c:Int))))=H6 at R D W ⊢;refine (show Z' sL _ _ _ _ _ _ from {4,1,q,j,2,W,λw2 ab=>{Ev,λt ht=>?_}});let X:=AO ab (.lst (CD j (some (c:Int)) none));let b0:upd H6 w2 (.lst (CD j (some (c:Int)) none)) w2^^^(j.drop c):=by rw [upd_same,rX `a]
   let G:=AO ht (.tup [.ref S,.ref w2]);let kk:∀ m,m<7+1->(11:Int) ^ m<=120000000000:=by decide
   refine k t S w2 (L.take c) (L.drop c) _ (((O.same R).same X).same G) ((((N.same R).same X).same G).mono `a) upd_same {_,G _ _ (X _ _ D),(((af.tp R).tp X).tp G).take c} {_,G _ _ b0,(((af.tp R).tp X).tp G).drop c} (Ls.lines (B:=11) (n:=7) (λf F=>P f (Ek F)) `b (by rw [Ba];omega) `b kk `b) (Ls.lines (B:=11) (n:=7) (λf F=>P f (List.mem_of_mem_drop F)) `b (by rw [List.length_drop];omega) `b kk `b)
 show Rw K _ _ _;refine AY (AZ (Ae ⟨_,rfl,p,a,3,n+2+2,rfl,h2,`a,`b,`b,λd3 H3 _ _ h3 k3=>{2,?_}⟩));let k3:=(k1.trans k2).trans k3;clear k1 k2 h1 h2;generalize decide (V.int d3=V.int 0)=g;let hm:∃ m:Int,(4:Int) - (if g=true then 1 else 0)=m/\3<=m/\m<=4:={1,by split <;> omega,by split <;> omega};let {m,em,m3,m4}:=hm;refine AY (NA (Kk (Ae {1,AZ (I_ (Ds (AS rfl {g,2,3,?_})))})));refine {p,a,4 - (if g=true then 1 else 0),1,h3,`a,`a,`a,λc H4 c0 c1 h4 k4=>{c,2,`a,`a,?_}};rw [em] at c1;let k4:=k3.trans k4;refine CompJ.range (λi j C=>i<=c.toNat/\Kp p H C/\Hand C p a (n+2+2+2+2+40*i)/\∃ L,SDs C j L/\@L=i/\∀ f∈L,PF g f/\(g=false->F0 f)) {AV _,k4,h4.mono `a,[],trivial,2,λf F=>nomatch F} ?_ ?_ ?_
 .rintro i j C ⟨hi,_,_,L,U,ll,_⟩;exact {hi,by rw [@U,ll];exact sz `a}
 .rintro i j H5 hi ⟨_,O,N,L,U,ll,P⟩;refine EH (C7 {1,AV _,λe he=>{1,?_}});let se:=AO he (.lst []);refine {p,a,e,[],g,1,N.same se,`a,{[],upd_same,trivial},AV _,(λ_ f F=>nomatch F),λr f H6 hr rp rn h6 T f2 f1=>?_};refine {hi,(O.same se).trans T,h6.mono `a,L++[f],((U.tp se).kp (N.same se) T).snoc hr,by rw [Bf,ll];rfl,λx hx=>?_};rcases BR.mp hx with q | q
  .exact P x q
  .rw [Ap.mp q];exact {{f2,λz=>(f1 z).1},λz=>(f1 z).2 rfl}
 rintro j H5 ⟨_,O,N,L,U,ll,P⟩ q hq;let sq:=AO hq (.lst j);let W:upd H5 q (.lst j) q^^^j:=upd_same;let b1:SDs (Bs.rm (upd H5 q (.lst j)) q) j L:=U.tp (KW hq);let T:=O.same sq;let h6:=N.same sq;let qp:=N.ne hq;let qa:=N.ne2 hq;let qn:=O.free qp hq;generalize upd H5 q (.lst j)=H6 at sq W b1 T h6 ⊢;let lc:(@L:Int)<m:=by omega
 refine while_by (λw σ C=>∃ (I:cW) (L:List (cY)),σ=[↥p,none,none,none,none,none,some (.bl g),↥q,none,none,none]/\Kp p H C/\Hand C p a (n+130)/\C q^^^I/\SDs (Bs.rm C q) I L/\(@L:Int)<m/\(∀ f∈L,PF g f/\(g=false->F0 f))/\w=@L) _ {j,L,2,T,h6.mono `a,W,b1,lc,P,2} ?_;rintro w σ H7 ⟨I,L,rfl,k7,h7,aj,a3,lc,P,rfl⟩;let xl:=@a3;refine B8 (AZ (TX rfl aj (a3.tp Bq) `a (λf F=>by have:=(P f F).1.fc.l2;omega) λH8 s8=>{3,1,Ab (λcc=>?_) (λcc=>?_)}))
 .let cc:(dS L:Int) > 5:=nF cc
  let l0:0<@L:=by
   match L,cc with
   | [],cc=>exact absurd cc `b
   | _::_,_=>exact Nat.zero_lt_succ _
  let Y:=s8 _ _ aj;refine {_,λ_ _ h=>h,?_};let b2:I[@I - 1]?=some (I[@I - 1]'`a):=AR `a;refine {1,FA Y,q,I,1,2,Y,b2,?_};let ed:∀ {α:Type} (l:List α),l.dropLast=l.take (@l - 1):=λl=>List.dropLast_eq_take;refine {@L - 1,`a,I.dropLast,L.take (@L - 1),2,?_,(h7.same s8).upd qp qa,upd_same,?_,by rw [Ba];omega,λf F=>P f (Ek F),by rw [Ba];omega}
  .exact λb o hb hx=>by rw [Ai (Aq hx qn)];exact s8 _ _ (k7 b o hb hx)
  .rw [ed,xl];exact (SDs.take _ (a3.tp (Cf q s8))).tp FM
 let cc:¬ (dS L:Int) > 5:=λz=>cc (nE z);let k8:=k7.same s8;let h8:=h7.same s8;let Y:=s8 _ _ aj;let bi:=a3.tp (Cf q s8);refine AY (show As AC _ _ _ from {AV _,λs hs=>?_});let ss:=AO hs (.lst []);let b4:upd H8 s (.lst []) s^^^[]:=upd_same;let sp:=h8.ne hs;let sa:=h8.ne2 hs;let sn:=k8.free sp hs;let qs:q≠s:=Aq Y hs;let h9:=h8.same ss;let k9:=k8.same ss;let b5:Bs.rm (upd H8 s (.lst [])) s q^^^I:=CA qs (ss _ _ Y);let b9:SDs (Bs.rm (upd H8 s (.lst [])) s) I L:=(bi.tp Bq).tp (KW hs);generalize upd H8 s (.lst [])=H9 at ss b4 h9 k9 b5 b9 ⊢;refine rW (Kk (Ae {1,AZ (I_ (Ds (AS rfl {g,2,3,?_})))}));refine {p,a,4 - (if g=true then 1 else 0),1,h9,`a,`a,`a,λc2 HA bk bj hA kA=>{c2,2,`a,`a,?_}};rw [em] at bj;let ba:∀ {J J':Hp} {n':Int},Hand J p a n'->Kp p J J'->Bs.rm J s q^^^I->Bs.rm J' s q^^^I:=λ{J J' n'} _ kk hh=>CA qs (kk _ _ qp (Bq _ _ hh));refine ForR.by (λi σ C=>∃ (o9 al:cX) (j:cW) (M:List (cY)),σ=[↥p,none,none,none,none,none,some (.bl g),↥q,↥s,o9,al]/\Kp p H C/\Hand C p a (n+140+40*i)/\C s^^^j/\SDs (Bs.rm C s) j M/\Bs.rm C s q^^^I/\SDs (Bs.rm C s) I L/\@M<=i/\(∀ f∈M,PF g f)/\dS M<=5) {none,none,[],[],2,k9.trans kA,hA.mono `a,kA _ _ sp b4,trivial,ba h9 kA b5,b9.kpr h9 kA,AT _,(λf F=>nomatch F),AV _} ?_ ?_
 .rintro i σ HB hi ⟨o9,al,zs,M,rfl,kB,hB,a4,hM,a5,a6,lM,hP,dM⟩;let zl:=@hM;refine AY (C7 {4,1,p,a,q,L,g,1,hB,`a,{I,Bq _ _ a5,a6.tp Bq},`a,λz f F=>(P f F).2 z,λr f HC hr rp rn hC kC f2 f1=>?_});let rs:r≠s:=λz=>by rw [z,a4] at rn;cases rn
  let am:=kC _ _ sp a4;let an:=hM.kpr hB kC;let bb:=ba hB kC a5;let bd:=a6.kpr hB kC;let pf:PF g f:={f2,λz=>(f1 z).1};refine KU (B8 (AZ (AZ (TX rfl am (an.tp Bq) `a (λf F=>by have:=(hP f F).fc.l2;omega) λHD Z=>Ds (AS rfl {6,Z _ _ hr,3,3,1,Ab (λc=>?_) (λc=>?_)})))))
  .let c:(dS M:Int)+((~~~f).length:Int)<7:=nF c;rw [AI] at c;let fl:=pf.fc.l2;let bf:=Z _ _ am;refine TM rfl (FA bf) {1,s,zs,.ref r,7,bf,BZ (show @zs<1000 by omega) (sz `b),?_};let su:Same (Bs.rm HC s) (Bs.rm (upd HD s (.lst (zs++[V.ref r]))) s):=(Cf s Z).trans FM;refine {9,zs++[.ref r],M++[f],2,λb o hb hx=>by rw [Ai (Aq hx sn)];exact Z _ _ (kC _ _ hb (kB b o hb hx)),((hC.same Z).upd sp sa).mono `a,upd_same,(an.tp su).snoc (su _ _ (CA rs hr)),su _ _ bb,bd.tp su,by rw [Bf];show @M+1<=_;omega,λx hx=>?_,?_}
   .rcases BR.mp hx with z | z
    .exact hP x z
    .rw [Ap.mp z];exact pf
   .rw [Ix];show dS M+(@f - 1+0)<=5;omega
  .exact {9,zs,M,2,(kB.trans kC).same Z,(hC.same Z).mono `a,Z _ _ am,an.tp (Cf s Z),Cf s Z _ _ bb,bd.tp (Cf s Z),`a,hP,dM}
 .rintro σ HB ⟨o9,al,zs,M,rfl,kB,hB,a4,hM,a5,a6,lM,hP,dM⟩;show Rv K _ _ _;refine BT (IC {4,Ev,λt ht=>?_});let G:=AO ht (.tup [.ref q,.ref s]);exact k t q s L M _ (kB.same G) ((hB.same G).mono `a) upd_same {I,G _ _ (Bq _ _ a5),(a6.tp Bq).tp G} {zs,G _ _ a4,(hM.tp Bq).tp G} (PF.ls (g:=g) (λf F=>(P f F).1) `a `a) (PF.ls (g:=g) hP `a dM)
end
section
open Po
def Td {A B:cY} {h:Int} (m:Mt A B h):Mt B A (-h):=by
 let {G,d,c,f,g}:=m;let e:((-h:Int):Rat) = -(h:Rat):=Rat.intCast_neg h;refine {E_ ((-h:Int):Rat) G,d,FF _ c,?_,?_}
 .let {q,a}:=g;let b:=IO (-(h:Rat)) (AU (ro B));rw [show - -(h:Rat)=h by ext,a,(BU _).mul] at b;rw [e,<-b];exact {1}
 .let {q,a}:=f;rw [a,(BU _).mul];exact {1}
theorem Te:∀ {L:List (cY)},(∀ f∈L,Fc f)->∃ c:Rat,c≠0/\AU (pd (L.map ro))=num c*pd (L.map O')
 | [],_=>⟨1,`b,by
   show AU 1=num 1*1;rw [toQP_hm.one,<-one_eq];ext⟩
 | f::L,h=>by
   let {c,b,e}:=Te λg d=>h g (Br f d);let a:=(h f BX).lz;refine {((lst' f:Int):Rat)*c,λw=>?_,?_}
   .rcases Rat.mul_eq_zero.mp w with w | w
    .exact (NS a).1 w
    .exact b w
   .show AU (ro f*pd (L.map ro))=num (((lst' f:Int):Rat)*c)*(O' f*pd (L.map O'));rw [toQP_hm.mul,e,Kh a,BV];ext
def rZ {A B:cY} {L M:List (cY)} (i:∀ f∈L,Fc f) (o:∀ f∈M,Fc f) (P:∃ x:Rat,x≠0/\AU (ro A)=num x*AU (pd (L.map ro))) (R:∃ x:Rat,x≠0/\AU (ro B)=num x*AU (pd (M.map ro))) (h:Int):Mt A B h↔∃ f∈L,∃ g∈M,bo f g h:=by
 let J:∀ {A:cY} {L:List (cY)},(∀ f∈L,Fc f)->(∃ x:Rat,x≠0/\AU (ro A)=num x*AU (pd (L.map ro)))->∃ x:Rat,x≠0/\AU (ro A)=num x*pd (L.map O'):=λ{A L} i ⟨x,z,e⟩=>by
  let {c,T,U}:=Te i;refine {x*c,λw=>?_,by rw [e,U,BV];ext};rcases Rat.mul_eq_zero.mp w with w | w
  .exact z w
  .exact T w
 let {x,z,N}:=J i P;let {y,W,O}:=J o R
 let n:∀ {L:List (cY)},(∀ f∈L,Fc f)->∀ f∈L.map O',At f:=λ{L} i f k=>by
  let {g,m,rfl}:=Am.mp k;exact (i g m).irr
 let C:∀ (a b:Rat),E_ a (num b)=num b:=λa b=>CQ hm_num _ b;constructor
 .rintro ⟨G,d,X,p,r⟩;rw [N] at p;rw [O,(BU _).mul,C] at r;let p:=NM (DI _ z) p;let r:=NM (DI _ W) r;let {f',D,Y}:=Jr fl_rat (n i) `a X p;let {f,k,rfl}:=Am.mp D;let j:=i f k;let {q,F}:=Y.tr r;let b:=IO (-(h:Rat)) (pd (M.map O'));rw [show - -(h:Rat)=h by ext,F,(BU _).mul] at b;let u:=E1 j.lz;let Z:=j.l2;let {g',I,dg}:=Jr fl_rat (n o) `a (FF (-(h:Rat)) u) {_,b.symm};let {g,m,rfl}:=Am.mp I;let v:=o g m;let same:=v.irr.same fl_rat (j.irr.mv (-(h:Rat))) dg
  let e:O' f=E_ (h:Rat) (O' g):=by
   let b:=IO (h:Rat) (O' f);rw [<-same] at b;exact b.symm
  let m2:=v.l2;have:=Ir fl_rat.dom.one u (by rw [e];exact FF _ (E1 v.lz));exact {f,k,g,m,(Iy j.lz v.lz).mpr {`a,e}}
 .rintro ⟨f,k,g,m,S⟩;let j:=i f k;let Z:=j.l2;let {_,e}:=(Iy j.lz (o g m).lz).mp S;let u:=E1 j.lz;refine {O' f,@f - 2,by rw [show @f - 2+1=@f - 1 by omega];exact u,?_,?_}
  .rw [N];exact (IN (Am.mpr ⟨f,k,rfl⟩)).mulL _
  .rw [O,(BU _).mul];refine Dv.mulL ?_ _;let {q,F}:=IN (Am.mpr ⟨g,m,rfl⟩:O' g∈M.map O');rw [F,(BU _).mul,<-e];exact {1}
theorem Kl:∀ {l m:cY},l.Pairwise (·<·)->m.Pairwise (·<·)->(∀ z,z∈l↔z∈m)->l=m
 | [],[],_,_,_=>rfl
 | [],b::m,_,_,h=>by have:=(h b).mpr BX;cases this
 | a::l,[],_,_,h=>by have:=(h a).mp BX;cases this
 | a::l,b::m,c,d,h=>by
   rw [List.pairwise_cons] at c d
   let e:a=b:=by
    rcases CS.mp ((h a).mp BX) with q | q
    .exact q
    .rcases CS.mp ((h b).mpr BX) with w | w
     .exact w.symm
     .have:=d.1 a q;have:=c.1 b w;omega
   subst e;rw [Kl c.2 d.2 λz=>?_];constructor
   .intro hz;rcases CS.mp ((h z).mp (Br _ hz)) with q | q
    .have:=c.1 z hz;omega
    .exact q
   .intro hz;rcases CS.mp ((h z).mpr (Br _ hz)) with q | q
    .have:=d.1 z hz;omega
    .exact q
def qA {H:Hp} {p:Addr} {xs:cW} (h:H p^^^xs):FY H (.ref p) "list" = some true:=by
 show Hk (H p) "list" = _;rw [h];rfl
def CompJ.rev {K:W.Frag} {capt:List (Option Nat)} {g:TG} {f:TE} {j:L2.St} {H:Hp} {Q:VK} {a:Addr} {xs:cW} (W:Nat->cW->Hp->Prop) (k:W 0 [] H) (c:∀ i b H,W i b H->i<=@xs/\@b<=sizeLine/\SqL K H a xs)
  (m:∀ i x b H,i<@xs->xs[@xs - 1 - i]?=some x->W i b H->g x (Ca capt j) H λd n=>f d n λy o=>W (i+1) (b++[y]) o) (r:∀ b H,W @xs b H->∀ p,H p=none->Q (.ref p) (upd H p (.lst b))):CompJ (bL K a @xs) capt g f j Q H:=by
 refine {@xs,W,k,λi b H w=>{(c i b H w).1,(c i b H w).2.1,?_}};let q:SqL K H a xs:=(c i b H w).2.2;by_cases h:i<@xs
 .refine .inr {h,⟨h,xs,q,rfl⟩,λx u y=>?_};let {e,y}:=y;subst e;exact m i x b _ h (y xs q) w
 .let e:i=@xs:=Nat.le_antisymm (c i b H w).1 (Nat.not_lt.mp h);subst e;exact .inl {2,r b H w}
def qB {K:W.Frag} {c:TA} {capt:List (Option Nat)} {g:TG} {d:TE} {b:L2.St} {H:Hp} {Q:VK} (h:c b H (λvs e=>∃ a f,vs=[.ref a]/\SqL K e a f/\CompJ (bL K a @f) capt g d b Q e)):A9 (Gv K c) capt g d b H Q:=h
def Pk9.kp {H b:Hp} {p a u:Addr} {n:Int} {l:cU} (h:Hand H p a n) (k:Kp p H b) (P:Pk9 H u l):Pk9 b u l:=by
 let {_,_,_,_,e,_}:=h;let t:Tp H b:=k.tp e;let {c,d,f,r}:=P;exact {c,t _ _ d,f.tp t,r}
def Pk9.same {H a:Hp} {u:Addr} {l:cU} (s:Same H a) (P:Pk9 H u l):Pk9 a u l:=by
 let {b,c,d,r}:=P;exact {b,s _ _ c,d.tp (aZ s),r}
def qC {K:W.Frag} {i:Nat} {w:Addr} {b:TE} {rest:TS} {D:Ends} {a:L2.St} {H:Hp} (c:a[i]?=some (↥w)) (d:bI K "list" (.ref w) H) (h:b a H λy e=>ED (.ref w) [y] e λ_ f=>rest D a f):AF (DK (ay K "list" ED (AA i) (AB b AC))) rest D a H:={_,c,d,h}
def Ls.bd {L:List (cY)} (h:Ls L) {f:cY} (b:f∈L):∀ z∈f,Bd 40 z:=λz hz=>by
 let c:=h.nb f b;let {j,a,rfl}:=C3 hz;have:=Kg (f:=ro f) a;let e:(ro f).c j=f[j]:=by show Bs.co f j=_;unfold Bs.co;rw [AN,AR a];rfl
 rw [e] at this;unfold Bd;let e:(2:Nat) ^ 40=1099511627776:=by decide
 omega
def qD (h:Jt K vs H Q E):yF K (eC Q) (L2.start ["_law_script","_law_hand_here","_law_firsts","_law_seconds","_law_kp","_law_kq","_law_shifts","_law_one","_law_due","_law_found"] vs) H:=by
 let {s,sc,rfl,G,ap,k}:=h;refine Xu {1,s,sc,2,G,ap,λp ad H1 hp k1 h1=>?_};refine G6 (B7 {1,p,ad,0,2,h1,`b,λt r o L M H2 k2 h2 X hL hM LL LM=>{t,1,X,2,6,3,?_}});refine (show F3 _ _ _ _ _ _ from Ae (AS rfl (AS rfl {p,ad,r,L,1,h2,`a,hL,LL,λu l H3 P3 h3 k3 eL=>Ae (AS rfl (AS rfl {p,ad,o,M,1,h3,`a,hM.kp h2 k3,LM,λv m H4 P4 h4 k4 eM=>{6,?_}}))})));let ar:=(hL.kp h2 k3).kp h3 k4;let b0:=(hM.kp h2 k3).kp h3 k4;let P3:=P3.kp h3 k4;let b1:=rZ (A:=BI l) (B:=BI m) LL.fc LM.fc eL eM;let {P,hr,a5}:=ar;let {ys,ho,a6}:=b0;let xl:=@a5;let yl:=@a6;let L7:=LL.le;let M7:=LM.le;refine AY (show As AC _ _ _ from {AV _,λw b2=>?_});let sw:=AO b2 (.lst []);let a7:upd H4 w (.lst []) w^^^[]:=upd_same;generalize upd H4 w (.lst [])=H5 at sw a7 ⊢;let mL:∀ {L:List (cY)} {i:Nat},i<@L->L.getD i []∈L:=λ{L i} F=>by rw [AN,AR F];exact CN _
 refine Ij (AS rfl {r,2,{_,SqL.of (sw _ _ hr)},ForL.by (xs:=P) (λi σ n=>∃ (w:Addr) (o7:cX) (I:cW),σ=[↥s,↥p,↥r,↥o,↥u,↥v,↥w,o7,none,none]/\Same H4 n/\n w^^^I/\@I=i*@M/\i<=@P/\(∀ z∈I,z=.non\/∃ h,z=.int h)/\∀ h,V.int h∈I↔∃ Y,Y<i/\∃ g∈M,bo (L.getD Y []) g h) {w,none,[],2,sw,a7,by simp,AV _,(λz hz=>nomatch hz),λh=>{λz=>(nomatch z),λ⟨i,F,_⟩=>absurd F (Bk i)}} ?_ ?_ ?_})
 .rintro i σ n _ ⟨w,o7,I,rfl,s',_⟩;exact SqL.of (s' _ _ hr)
 .rintro i x σ H6 D ⟨w,o7,I,rfl,Z,R,zl,_,hz,hh⟩;let F:i<@L:=by have:=(A3.mp D).1;omega
  let {fa,b3,hf}:=a5.at F;rw [b3] at D;cases D;let ff:=LL.fc _ (mL F);let bf:=LL.bd (mL F);let a8:i*@M<=7*7:=EM `a M7;show AJ _ _ _ [↥s,↥p,↥r,↥o,↥u,↥v,↥w,↥fa,none,none] H6;refine G7 (AZ (AS rfl (DY (AS rfl {o,2,{_,SqL.of (Z _ _ ho)},CompJ.lst (xs:=ys) (λj C n=>Same H6 n/\@C=j/\j<=@ys/\(∀ z∈C,z=.non\/∃ h,z=.int h)/\∀ h,V.int h∈C↔∃ t,t<j/\bo (L.getD i []) (M.getD t []) h) {Same.refl _,2,AV _,(λz hz=>nomatch hz),λh=>{λz=>(nomatch z),λ⟨i,F,_⟩=>absurd F (Bk i)}} ?_ ?_ ?_}))))
  .rintro j C n ⟨s7,ql,jl,_⟩;exact {jl,by rw [ql];exact sz `a,SqL.of (s7 _ _ (Z _ _ ho))}
  .rintro j x C H7 D ⟨s7,ql,jl,hq,T⟩;let hj:j<@M:=by have:=(A3.mp D).1;omega
   let {ga,b5,hg}:=a6.at hj;rw [b5] at D;cases D;refine EH (Ae {4,fa,ga,6,s7 _ _ (Z _ _ hf),s7 _ _ (Z _ _ hg),ff,LM.fc _ (mL hj),bf,LM.bd (mL hj),λy H8 s8 hy hS=>{s7.trans s8,by rw [Bf,ql];rfl,`a,λz a0=>?_,λh=>?_}})
   .rcases BR.mp a0 with q | q
    .exact hq z q
    .rw [Ap.mp q];exact hy
   .rw [BR,T,Ap];constructor
    .rintro (⟨t,X,S⟩ | e)
     .exact {t,`a,S}
     .exact {j,`a,(hS h).mpr e.symm}
    .rintro ⟨t,X,S⟩;by_cases q:t<j
     .exact .inl ⟨t,q,S⟩
     .rw [show t=j by omega] at S;exact .inr ((hS h).mp S).symm
  .rintro C H7 ⟨s7,ql,_,hq,T⟩ q b9;let sq:=AO b9 (.lst C);rw [yl] at ql T;let ba:=sq _ _ (s7 _ _ R);refine {w,q,I,C,7,ba,upd_same,sz `a,λw2 bb=>?_};let s2:=AO bb (.lst (I++C));refine {w2,_,I++C,2,((Z.trans s7).trans sq).trans s2,upd_same,by rw [Bf,zl,ql,Nat.add_mul,Nat.one_mul],`a,λz a0=>?_,λh=>?_}
   .rcases BR.mp a0 with q | q
    .exact hz z q
    .exact hq z q
   .rw [BR,hh,T];constructor
    .rintro (⟨Y,bc,S⟩ | ⟨t,X,S⟩)
     .exact {Y,`a,S}
     .exact {i,`a,_,mL X,S}
    .rintro ⟨Y,bc,g,hg,S⟩;by_cases q:Y<i
     .exact .inl ⟨Y,q,g,hg,S⟩
     .rw [show Y=i by omega] at S;let {t,X,rfl}:=C3 hg;let e:M.getD t []=M[t]:=by rw [AN,AR X];rfl
      exact .inr {t,X,by rw [e];exact S}
 rintro σ H6 ⟨w,o7,I,rfl,Z,R,zl,_,hz,hh⟩;let a8:@P*@M<=7*7:=EM `a M7
 let hh:∀ h,V.int h∈I↔Mt (BI l) (BI m) h:=λh=>by
  rw [hh,b1];constructor
  .rintro ⟨i,F,g,hg,S⟩;exact {_,mL `a,g,hg,S}
  .rintro ⟨f,hf,g,hg,S⟩;let {i,F,rfl}:=C3 hf;let e:L.getD i []=L[i]:=by rw [AN,AR F];rfl
   exact {i,`a,g,hg,by rw [e];exact S}
 let P6:=P3.same Z;let Q6:=P4.same Z;show Ry K _ _ _;refine AY (show LK _ _ _ _ from Kk (NJ (AS rfl {w,2,{_,SqL.of R},CompF.lst (xs:=I) (λi C n=>n=H6/\i<=@I/\∃ N:cY,C=N.map V.int/\@N<=i/\∀ z,z∈N↔V.int z∈I.take i) {2,AV _,[],2,AT _,λz=>by simp} ?_ ?_ ?_})))
 .rintro i C n ⟨rfl,il,N,rfl,kl,_⟩;exact {il,by rw [AI];exact sz `a,SqL.of R}
 .rintro i x C n D ⟨rfl,il,N,rfl,kl,hk⟩;let F:=(A3.mp D).1;let tk:I.take (i+1)=I.take i++[x]:=by rw [C4,D];rfl
  let bd:=hz x (Bb D);refine EH (B8 {1,2,1,Ab (λc=>?_) (λc=>?_)})
  .let xn:x≠.non:=λz=>by rw [z] at c;simp at c
   let {h,rfl}:=bd.resolve_left xn;refine {1,2,`a,N++[h],by rw [Bj];rfl,by rw [Bf];show @N+1<=_;omega,λz=>?_};rw [tk,BR,BR,hk,Ap,Ap];constructor
   .rintro (q | q)
    .exact .inl q
    .exact .inr (by rw [q])
   .rintro (q | q)
    .exact .inl q
    .injection q with q;exact .inr q
  .let xn:x=.non:=Classical.byContradiction λz=>c (by rw [nG z];rfl);refine {2,`a,N,2,`a,λz=>?_};rw [tk,BR,hk,Ap];exact {.inl,λq=>q.elim id λq=>by rw [xn] at q;cases q}
 rintro C n ⟨rfl,_,N,rfl,kl,hk⟩ q hq;rw [B4] at hk;refine {q,N,2,upd_same,`a,λe ds he nd hd pw=>?_};let s1:=(AO hq (.lst (~~~N))).trans (AO he (.lst (~~~ds)));let a3:upd (upd n q (.lst (~~~N))) e (.lst (~~~ds)) e^^^(~~~ds):=upd_same;let PA:=P6.same s1;let QA:=Q6.same s1;let pw:=NK pw nd;let hd:∀ z,z∈ds↔Mt (BI l) (BI m) z:=λz=>by rw [hd,hk,hh]
 generalize upd (upd n q (.lst (~~~N))) e (.lst (~~~ds))=HA at a3 PA QA ⊢;refine AY (Ae {4,u,v,l,m,2,PA,QA,λa G HB sB an ha pa al hm=>?_});let eh:G=ds:=Kl pa pw λz=>by rw [hm,hd]
 subst eh;let ab:=sB _ _ a3;let ea:e≠a:=Aq a3 an;let O:∀ {J:Hp} {a:Addr} {f:cY},J a^^^(~~~f)->RepD J (.ref a) (.list (f.map λi=>W.Dat.int i)):=λ{J a f} h=>.lst h (NR f);refine DN (show aC _ _ _ _ _ from IF (AS rfl (I_ {9,1,qA ha,1,Ab (λz=>nomatch z) (λ_=>?_)})));refine (show aC _ _ _ _ _ from B8 {4,9,true,O ha,O ab,GZ 7 _,GZ 7 _,{λ_=>rfl,λ_=>rfl},1,Ab (λz=>nomatch z) (λ_=>?_)});refine (show ER (tB _) _ _ _ from Ds (DY (AS rfl {a,2,{_,SqL.of ha},CompJ.lst (xs:=G.map V.int) (λi C n=>n=HB/\i<=@G/\C=(List.replicate i true).map V.bl) {2,AV _,2} ?_ ?_ ?_})))
 .rintro i C n ⟨rfl,il,rfl⟩;exact {by rw [AI];exact il,by rw [AI,EJ];exact sz `a,SqL.of ha}
 .rintro i x C n D ⟨rfl,il,rfl⟩;let F:i<@G:=by have:=(A3.mp D).1;rw [AI] at this;exact this
  let D:=KQ F D;subst D;refine EH (IF (AS rfl (I_ {9,true,2,.inl ⟨rfl,rfl⟩,2,F,?_})));rw [List.replicate_succ',Bj];rfl
 rintro C n ⟨rfl,_,rfl⟩ b hb;let sb:=AO hb (.lst ((List.replicate (~~~G).length true).map V.bl));refine {b,List.replicate (~~~G).length true,2,upd_same,true,?_,Ab (λz=>nomatch z) (λ_=>?_)}
 .congr 1;rw [FQ];intro x D;exact (List.mem_replicate.mp D).2
 let U:=sb _ _ ha;let ac:=sb _ _ ab;let P2:=(PA.same sB).same sb;let Q2:=(QA.same sB).same sb;generalize upd n b (.lst ((List.replicate (~~~G).length true).map V.bl))=HC at U ac P2 Q2 ⊢;refine qC rfl (FA U) (I_ {a,3,U,Cr (show (~~~G).length<=1000 by rw [AI];exact al) (BZ (show 1000<2000 by decide) (sz `b)),?_});let af:upd HC a (.lst (G.map V.int++[V.int 0])) e^^^(~~~G):=(Ai ea).trans ac;let tp:Tp HC (upd HC a (.lst (G.map V.int++[V.int 0]))):=Tp.updL U
 let P5:Pk9 (upd HC a (.lst (G.map V.int++[V.int 0]))) u l:=by
  let {P,hu,hN,r}:=P2;exact {P,tp _ _ hu,hN.tp tp,r}
 let Q5:Pk9 (upd HC a (.lst (G.map V.int++[V.int 0]))) v m:=by
  let {P,hu,hN,r}:=Q2;exact {P,tp _ _ hu,hN.tp tp,r}
 generalize upd HC a (.lst (G.map V.int++[V.int 0]))=HD at af P5 Q5 ⊢;refine BT (show JH _ _ _ _ _ from AZ (Ae {4,u,v,l,m,2,P5,Q5,λa2 d HE sE bq bg bh br bi=>?_}));let bj:d=G:=Kl bh pw λz=>by rw [bi,hd]
 subst bj;let aj:=sE _ _ af;refine {1,9,true,O bg,O aj,GZ 7 _,GZ 7 _,{λ_=>rfl,λ_=>rfl},true,2,Ab (λ_=>?_) (λz=>absurd rfl z)};refine AZ (Ae {4,v,u,m,l,2,Q5.same sE,P5.same sE,λa4 am HF sF bs bk bl bt bm=>?_});let ao:=sF _ _ aj;refine qB ({1,e,d.map V.int,2,SqL.of ao,CompJ.rev (λi C n=>n=HF/\i<=@d/\C=((d.reverse.take i).map λz=>-z).map V.int) {2,AV _,2} ?_ ?_ ?_})
 .rintro i C n ⟨rfl,il,rfl⟩;exact {by rw [AI];exact il,by rw [AI,AI,Ba,List.length_reverse];exact sz `a,SqL.of ao}
 .rintro i x C n F D ⟨rfl,il,rfl⟩;rw [AI] at F D;let D:=KQ (show @d - 1 - i<@d by omega) D;subst D;refine EH {4,2,F,?_}
  let tk:d.reverse.take (i+1)=d.reverse.take i++[Bs.co d (@d - 1 - i)]:=by
   rw [C4,List.getElem?_reverse F];unfold Bs.co;rw [AN,AR `a];rfl
  rw [tk,Bj,Bj];rfl
 rintro C n ⟨rfl,_,rfl⟩ b4 bn;let s4:=AO bn (.lst (((d.reverse.take (~~~d).length).map λz=>-z).map V.int))
 let eN:am=d.reverse.map λz=>-z:=Kl bl (by
  rw [List.pairwise_map,List.pairwise_reverse];exact pw.imp λh=>by omega) λz=>by
  rw [bm,Am];constructor
  .intro q;exact {-z,List.mem_reverse.mpr ((hd _).mpr (Td q)),`a}
  .rintro ⟨y,hy,rfl⟩;exact Td ((hd _).mp (List.mem_reverse.mp hy))
 let bp:upd n b4 (.lst (((d.reverse.take (~~~d).length).map λz=>-z).map V.int)) b4^^^(~~~am):=by
  rw [upd_same,eN,AI,<-List.length_reverse,B4]
 exact {9,true,O (s4 _ _ bk),O bp,GZ 7 _,GZ 7 _,{λ_=>rfl,λ_=>rfl},k _}
end
end Bs
namespace Bs
open PySem PySem.Spec PyProof.Rows L2
open Hd
structure Bl (K:W.Frag) (mg:d8):Prop where
 abs:mg "abs" = none
 min:mg "min" = none
 len:mg "len" = none
 enumerate:mg "enumerate" = none
 range:mg "range" = none
 list:mg "list" = none
 max:mg "max" = none
 any:mg "any" = none
 zip:mg "zip" = none
 EXPONENTS:mg "EXPONENTS" = some (.ref (GP K))
 sorted:mg "sorted" = none
 sum:mg "sum" = none
 tuple:mg "tuple" = none
 reversed:mg "reversed" = none
 int:mg "int" = none
 set:mg "set" = none
 isinstance:mg "isinstance" = none
 all:mg "all" = none
 xEXPONENTS:∀ H:Hp,SqT K H (GP K) (exps.map λe:Nat=>V.int (e:Int))
section
variable {P:Program} {w:World} {K:W.Frag} {mg:d8} {base:Heap} {f:Addr} {fd:FuncData}
def K_ {n:Str} {st:Stmt} {N ps:dd} {k:Nat} {sp:Sp} {t:TS} (F:Fun K n n st f fd) (v:∀ {c:cW} {H:Hp} {Q:VK} {E:XK},sp c H Q E->t (eC Q) (start N c) H) (d:∀ {a:Value} {A:Around} {b:List Env} {s:Shared} {H:Hp} {E:XK} (e:Room k (A.deeper (envOfC n (C6 st) ⇑s f a))) (j:N.Nodup) (m:(A.deeper (envOfC n (C6 st) ⇑s f a)).units<cLine) (g:(A.deeper (envOfC n (C6 st) ⇑s f a)).units+64<cLine),PSs (F5 aF P w K mg base N n (C6 st) f a A b s H E).nox (EE st) t) (S:FnScope N ps (C6 st):=by exact {7,2,by decide +kernel,2,by decide +kernel,by decide +kernel}) (len:∀ c H Q E,sp c H Q E->@c=@ps:=by intro c H Q E h;first | (cases h;subst_vars;rfl) | repeat (first | (let ⟨rfl,_⟩:=h;rfl) | let {_,h}:=h)):FnOk P w K mg base aF (k+1) f fd ps sp:=F.ok S len λa A b s H c Q E e h=>{t,d e S.nd e.units0 e.units,v h}
def li {a:Prop} {b:Type} {x:b}:x=x\/a:=Or.inl rfl
end
open Hd
def NT {K:W.Frag} {st:Stmt} {f c:Addr} {n:Str} {pm:Value} (l:K.lookup f=some (H_ n st pm c)) (e:W.codeIn K (.ref c) n=true) (k:W.keepIn K (.ref f)=true):Fun K n n st f (W.fnOf n n (En st) (EE st) (C6 st) .none .none .none pm none (.ref c) .none):=U5 (st:=st) l e k
def qE {P:Program} {K:W.Frag} {w:World} {h c:Heap} {d:d8} {k:Nat} {f:Addr} {g:FuncData} {n:Str} {ps:dd} {sp:Sp} (X:K.In h) (G:h.Ns mainGlobals d) (ok:FnOk P w K d c aF k f g ps sp) (b:Binds K g ps []) (e:W.keepIn K (.ref f)=true) (a:W.nsIn K mainGlobals n=some (↥f)):Cal P w K d c k n ps sp:={f,g,ok,b,e,W.mg_of X G a}
def Iz {a:cZ} {n:Nat} (h:@a=n+1):∃ x t,a=x::t/\@t=n:=by cases a with | nil=>cases h | cons x t=>exact {x,t,2,Nat.succ.inj h}
def Tf (a:cZ) (h:@a=1):∃ b,a=[b]:=by let {x,t,rfl,q}:=Iz h;exact {x,by rw [B5.mp q]}
def Tg (b:cZ) (h:@b=2):∃ c a,b=[c,a]:=by let {x,t,rfl,q}:=Iz h;let {a,rfl}:=Tf t q;exact ⟨x,a,rfl⟩
def Th (c:cZ) (h:@c=3):∃ d a b,c=[d,a,b]:=by let {x,t,rfl,q}:=Iz h;let {a,b,rfl}:=Tg t q;exact ⟨x,a,b,rfl⟩
def Ti (d:cZ) (h:@d=4):∃ e a b c,d=[e,a,b,c]:=by let {x,t,rfl,q}:=Iz h;let {a,b,c,rfl}:=Th t q;exact ⟨x,a,b,c,rfl⟩
def qG (e:cZ) (h:@e=5):∃ f a b c d,e=[f,a,b,c,d]:=by let {x,t,rfl,q}:=Iz h;let {a,b,c,d,rfl}:=Ti t q;exact ⟨x,a,b,c,d,rfl⟩
def Ar {P:Program} {K:W.Frag} {w:World} {h i:Heap} {j:d8} {k:Nat} {f c:Addr} {n:Str} {ps:dd} {sp:Sp} {st:Stmt} {pm:Value} (X:K.In h) (G:h.Ns mainGlobals j) (ok:Fun K n n st f (W.fnOf n n (En st) (EE st) (C6 st) .none .none .none pm none (.ref c) .none)->FnOk P w K j i aF k f (W.fnOf n n (En st) (EE st) (C6 st) .none .none .none pm none (.ref c) .none) ps sp) (l:K.lookup f=some (H_ n st pm c):=by kernel_rfl) (e:W.codeIn K (.ref c) n=true:=by kernel_rfl) (q:W.keepIn K (.ref f)=true:=by kernel_rfl) (a:W.nsIn K mainGlobals n=some (↥f):=by kernel_rfl) (b:∀ (kV m pm:Value) (p:Option Addr) (o r:Value) (d:cZ),@d=@ps->bindArgs (W.fnOf n n (En st) (EE st) (C6 st) .none kV m pm p o r) ⟨d,[]⟩=pure (ps.zip d):=by first | exact λ_ _ _ _ _ _ d g=>by let {_,rfl}:=Tf d g;rfl | exact λ_ _ _ _ _ _ d g=>by let {_,_,rfl}:=Tg d g;rfl | exact λ_ _ _ _ _ _ d g=>by let {_,_,_,rfl}:=Th d g;rfl | exact λ_ _ _ _ _ _ d g=>by let {_,_,_,_,rfl}:=Ti d g;rfl | exact λ_ _ _ _ _ _ d g=>by let {_,_,_,_,_,rfl}:=qG d g;rfl):Cal P w K j i k n ps sp:=qE X G (ok (NT l e q)) ((NT l e q).binds b) q a
abbrev L_ (P:Program) (w:World) (b:d8) (a:Heap) (k:Nat) (n:Str) (ps:dd) (sp:W.Frag->Sp):Prop:=Cal P w (hp w.params) b a k n ps (sp (hp w.params))
section
variable {P:Program} {w:World} {mg:d8} {base h:Heap} (X:(hp w.params).In h) (G:h.Ns mainGlobals mg) (B:Bl (hp w.params) mg)
include X G B
theorem JA:L_ P w mg base 1 "common_divisor" ["one","other"] GQ:=Ar (f:=22) (c:=21) (pm:=G') (st:=U6) X G λF=>K_ F (yG ) λb a d e=>(AG (DV PassesOwn.never (cR D8 (pv 1) AH) (AG (C' a (AM Nk (pv 0) (pv 1))) (AG (C' a (pv 1)) (AQ (C' a (pv 2)))))) (AQ (Ac (Ad GB rfl B.abs F8 (AD (pv 0) AK)))))
theorem qH:L_ P w mg base 1 "raised" ["whole","n"] ME:=Ar (f:=29) (c:=28) (pm:=G') (st:=U7) X G λF=>K_ F (yI ) λb a d e=>(AG (C' a AH) (AG (C' a (pv 0)) (AG (DV PassesOwn.never (cR D9 (pv 1) AH) (AG (BN (cR Cl (AM CY (pv 1) AH) AH) (AQ (E6 (i:=2) a rfl li (pv 3) JT)) BM) (AG (E6 (i:=1) a rfl li AH WR) (AQ (BN (cR D9 (pv 1) AH) (AQ (E6 (i:=3) a rfl li (pv 3) JT)) BM))))) (AQ (Ac (pv 2))))))
theorem qJ:L_ P w mg base 1 "is_prime" ["whole"] ML:=Ar (f:=36) (c:=35) (pm:=G') (st:=U8) X G λF=>K_ F (wZ ) λb a d e=>(AG (C' a AH) (AG (DV PassesOwn.never (cR Nq (AM BF (pv 1) (pv 1)) (pv 0)) (AG (BN (cR Cl (AM CY (pv 0) (pv 1)) AH) (AQ (Ac JE)) BM) (AQ (E6 (i:=1) a rfl li AH Hi)))) (AQ (Ac (Gm D9 (pv 0) AH (Q_ _))))))
theorem Km:L_ P w mg base 1 "row_trimmed" ["row"] HK:=Ar (f:=55) (c:=54) (pm:=G') (st:=VB) X G λF=>K_ F (yK ) λb a d e=>(AG (C' a (Ad Av rfl B.len Au (AD (pv 0) AK))) (AG (DV PassesOwn.never (PW.pt (Fy (cR D9 (pv 1) AH) (Gi (cR Cl (BD Ag (pv 0) (AM Az (pv 1) AH) (λ_ _=>rfl)) AH)))) (AQ (E6 (i:=1) a rfl li AH JN))) (AQ (Ac (EC Ep (pv 0) EA (EB (pv 1)))))))
theorem qK:L_ P w mg base 1 "row_parted" ["row","divisor"] MH:=Ar (f:=60) (c:=59) (pm:=G') (st:=VC) X G λF=>K_ F (yU ) λa b d e=>(AQ (Ac (CG (N:=["whole","divisor"]) (capt:=[none,some 1]) (xo:=none) rfl (BlkOk1.of rfl rfl (λ_=>{2,λ_=>rfl}) rfl (Bt.mpr rfl) rfl rfl rfl) (BY (pv 0)) (λ_ _ _ _=>(Af (i:=0) (show (["whole","divisor"]:dd).Nodup by decide +kernel) rfl li)) (λ_ _ _ _=>(AM Hs (pv 0) (pv 1))))))
theorem JB:L_ P w mg base 1 "row_times" ["row","other"] GS:=Ar (f:=67) (c:=66) (pm:=G') (st:=VD) X G λF=>K_ F (wW ) λb a d e=>(AG (BN (PW.pt (He (Fz (Eo (pv 0) (λ_=>rfl))) (JG (Fz (Eo (pv 1) (λ_=>rfl)))))) (AQ (Ac (A6 AK))) BM) (AG (C' a (AM FW (A6 (AD AH AK)) (AM Az (AM BH (Ad Av rfl B.len Au (AD (pv 0) AK)) (Ad Av rfl B.len Au (AD (pv 1) AK))) AH))) (AG (Bu PassesOwn.never rfl (Hn rfl B.enumerate (AD (pv 0) AK)) (EW rfl (CT (Af (i:=3) a rfl li) (CT (Af (i:=4) a rfl li) ES))) (AQ (BN (cR D8 (pv 4) AH) (AQ (Bu PassesOwn.never rfl (Hn rfl B.enumerate (AD (pv 1) AK)) (EW rfl (CT (Af (i:=5) a rfl li) (CT (Af (i:=6) a rfl li) ES))) (AQ (Hg (pv 2) (AM BH (pv 3) (pv 5)) Hr (AM BF (pv 4) (pv 6)) Hi C5)))) BM))) (AQ (Ac (pv 2))))))
theorem Tj:L_ P w mg base 1 "row_slope" ["row"] J3:=Ar (f:=72) (c:=71) (pm:=G') (st:=VE) X G λF=>K_ F (wU ) λa b d e=>(AQ (Ac (CG (N:=["place","row"]) (capt:=[none,some 0]) (xo:=none) rfl (BlkOk1.of rfl rfl (λ_=>{2,λ_=>rfl}) rfl (Bt.mpr rfl) rfl rfl rfl) (Ks rfl B.range (AD AH (AD (Ad Av rfl B.len Au (AD (pv 0) AK)) AK))) (λ_ _ _ _=>(Af (i:=0) (show (["place","row"]:dd).Nodup by decide +kernel) rfl li)) (λ_ _ _ _=>(AM BF (pv 0) (BD Ag (pv 1) (pv 0) (λ_ _=>rfl)))))))
theorem NU:L_ P w mg base 1 "row_over" ["row","divisor"] IR:=Ar (f:=79) (c:=78) (pm:=G') (st:=VF) X G λF=>K_ F (yZ ) λb a d e=>(AG (C' a (E7 Ho rfl B.list GA (AD (pv 0) AK))) (AG (C' a (AM Az (Ad Av rfl B.len Au (AD (pv 1) AK)) AH)) (AG (C' a (AM FW (A6 (AD AH AK)) (Ad (Gr rfl) rfl B.max F9 (AD (AM Az (Ad Av rfl B.len Au (AD (pv 0) AK)) (pv 3)) (AD AH AK))))) (AG (Bu PassesOwn.never rfl (K8 rfl B.range (AD (AM Az (AM Az (Ad Av rfl B.len Au (AD (pv 0) AK)) (pv 3)) AH) (AD (Bx By AH) (AD (Bx By AH) AK)))) (Af (i:=5) a rfl li) (AG (C' a (AM GF (BD Ag (pv 2) (AM BH (pv 5) (pv 3)) (λ_ _=>rfl)) (BD Ag (pv 1) (Bx By AH) (λ_ _=>rfl)))) (AG (BN (cR D8 (AM BF (pv 6) (BD Ag (pv 1) (Bx By AH) (λ_ _=>rfl))) (BD Ag (pv 2) (AM BH (pv 5) (pv 3)) (λ_ _=>rfl))) (AQ (Ac EO)) BM) (AG (DF (pv 6) (Dk (pv 4) (pv 5) C5)) (AQ (BN (cR D8 (pv 6) AH) (AQ (Bu PassesOwn.never rfl (EU rfl B.range (AD (pv 3) AK)) (Af (i:=7) a rfl li) (AQ (Hg (pv 2) (AM BH (pv 5) (pv 7)) Hr (AM BF (pv 6) (BD Ag (pv 1) (pv 7) (λ_ _=>rfl))) JN C5)))) BM)))))) (AQ (Ac (Hf (FU (Ad (Wb rfl) rfl B.any Wa (AD (EC Ep (pv 2) EA (EB (pv 3))) AK))) EO (pv 4))))))))
theorem Tk:L_ P w mg base 1 "root_exponent" ["row"] J4:=Ar (f:=86) (c:=85) (pm:=G') (st:=VG) X G λF=>K_ F (vD ) λb a d e=>(AG (C' a (A6 AK)) (AG (Bu PassesOwn.never rfl (Ks rfl B.range (AD AH (AD (Ad Av rfl B.len Au (AD (pv 0) AK)) AK))) (Af (i:=2) a rfl li) (AG (C' a (BD Ag (pv 0) (AM Az (AM Az (Ad Av rfl B.len Au (AD (pv 0) AK)) AH) (pv 2)) (λ_ _=>rfl))) (AQ (BN (cR D8 (pv 3) AH) (AQ (Em (E8 bQ bR cL F6 (pv 1) (AD (Bx By (AM Hs (AM Az (AM Az (Kv PySem.F.plainAttrs_int PySem.F.slot_int_bit_length PyProof.Rows.type_int_bit_length Og (BD Ag (pv 0) (Bx By AH) (λ_ _=>rfl))) (Kv PySem.F.plainAttrs_int PySem.F.slot_int_bit_length PyProof.Rows.type_int_bit_length Og (pv 3))) AH) (pv 2))) AK)))) BM)))) (AQ (Ac (AM BH AH (Wm rfl B.max F9 (pv 1)))))))
theorem qL:L_ P w mg base 1 "row_moved" ["row","whole"] MR:=Ar (f:=98) (c:=97) (pm:=G') (st:=VI) X G λF=>K_ F (vE ) λb a d e=>(AG (C' a (E7 Ho rfl B.list GA (AD (pv 0) AK))) (AG (Bu PassesOwn.never rfl (EU rfl B.range (AD (AM Az (Ad Av rfl B.len Au (AD (pv 0) AK)) AH) AK)) (Af (i:=3) a rfl li) (AQ (Bu PassesOwn.never rfl (K8 rfl B.range (AD (AM Az (Ad Av rfl B.len Au (AD (pv 0) AK)) AH) (AD (AM Az (pv 3) AH) (AD (Bx By AH) AK)))) (Af (i:=4) a rfl li) (AQ (Hg (pv 2) (pv 4) Hr (AM BF (pv 1) (BD Ag (pv 2) (AM BH (pv 4) AH) (λ_ _=>rfl))) Hi C5))))) (AQ (Ac (pv 2)))))
theorem Kn:L_ P w mg base 1 "inverse_modulo" ["whole","prime"] HM:=Ar (f:=129) (c:=128) (pm:=G') (st:=VO) X G λF=>K_ F (xC ) λb a d e=>(AG (C' a (pv 1)) (AG (C' a (AM CY (pv 0) (pv 1))) (AG (C' a AH) (AG (C' a AH) (AG (DV PassesOwn.never (cR D8 (pv 3) AH) (AG (C' a (AM Hs (pv 2) (pv 3))) (AG (C' a (AM Az (pv 2) (AM BF (pv 6) (pv 3)))) (AG (C' a (pv 3)) (AG (C' a (pv 7)) (AG (C' a (AM Az (pv 4) (AM BF (pv 6) (pv 5)))) (AG (C' a (pv 5)) (AQ (C' a (pv 7)))))))))) (AQ (Ac (AM CY (pv 4) (pv 1)))))))))
theorem Tm:L_ P w mg base 1 "rests_modulo" ["row","prime"] Jw:=Ar (f:=134) (c:=133) (pm:=G') (st:=VP) X G λF=>K_ F (xA ) λa b d e=>(AQ (Ac (CG (N:=["whole","prime"]) (capt:=[none,some 1]) (xo:=none) rfl (BlkOk1.of rfl rfl (λ_=>{2,λ_=>rfl}) rfl (Bt.mpr rfl) rfl rfl rfl) (BY (pv 0)) (λ_ _ _ _=>(Af (i:=0) (show (["whole","prime"]:dd).Nodup by decide +kernel) rfl li)) (λ_ _ _ _=>(AM CY (pv 0) (pv 1))))))
theorem Tn:L_ P w mg base 1 "swapped" ["row","one","other"] J5:=Ar (f:=191) (c:=190) (pm:=G') (st:=VY) X G λF=>K_ F (vM ) λb a d e=>(AG (C' a (E7 Ho rfl B.list GA (AD (pv 0) AK))) (AG (DF (BD Ag (pv 0) (pv 2) (λ_ _=>rfl)) (Dk (pv 3) (pv 1) C5)) (AG (DF (BD Ag (pv 0) (pv 1) (λ_ _=>rfl)) (Dk (pv 3) (pv 2) C5)) (AQ (Ac (pv 3))))))
theorem qN:L_ P w mg base 1 "row_cleared" ["row","lead","column","prime"] J6:=Ar (f:=196) (c:=195) (pm:=G') (st:=VZ) X G λF=>K_ F (vO ) λb a d e=>(AG (CC (i:=4) a rfl (Or.inr rfl) (BD Ag (pv 0) (pv 2) (λ_ _=>rfl))) (AG (BN (cR Cl (pv 4) AH) (AQ (Ac (pv 0))) BM) (AQ (Ac (CG (N:=["whole","other","prime","weight"]) (capt:=[none,none,some 3,some 4]) (xo:=none) rfl (BlkOk1.of rfl rfl (λ_=>{2,λ_=>rfl}) rfl (Di.mpr {2,(Bt.mpr rfl)}) rfl rfl rfl) (LA rfl B.zip (AD (pv 0) (AD (pv 1) AK))) (λ_ _ _ _=>(EW rfl (CT (Af (i:=0) (show (["whole","other","prime","weight"]:dd).Nodup by decide +kernel) rfl li) (CT (Af (i:=1) (show (["whole","other","prime","weight"]:dd).Nodup by decide +kernel) rfl li) ES)))) (λ_ _ _ _=>(AM CY (AM Az (pv 0) (AM BF (pv 3) (pv 1))) (pv 2))))))))
theorem To:L_ P w mg base 1 "nearest" ["whole","prime"] Jx:=Ar (f:=203) (c:=202) (pm:=G') (st:=Va) X G λF=>K_ F (xE ) λb a d e=>(AG (C' a (AM CY (pv 0) (pv 1))) (AQ (Ac (Hf (cR D9 (AM BF AH (pv 2)) (pv 1)) (AM Az (pv 2) (pv 1)) (pv 2)))))
theorem qO:L_ P w mg base 1 "width_of" ["sides"] MN:=Ar (f:=232) (c:=231) (pm:=bJ) (st:=Vf) X G λF=>K_ F (vW ) λa b d e=>(AQ (Ac (Hf (Eo (pv 0) (λ_=>rfl)) (Ad Av rfl B.len Au (AD (xI Ag (pv 0)) AK)) AH)))
theorem qP:L_ P w mg base 1 "picked_column" ["rows","place"] MO:=Ar (f:=242) (c:=241) (pm:=bJ) (st:=Vh) X G λF=>K_ F (vY ) λa b d e=>(AQ (Ac (CG (N:=["row","place"]) (capt:=[none,some 1]) (xo:=none) rfl (BlkOk1.of rfl rfl (λ_=>{2,λ_=>rfl}) rfl (Bt.mpr rfl) rfl rfl rfl) (BY (pv 0)) (λ_ _ _ _=>(Af (i:=0) (show (["row","place"]:dd).Nodup by decide +kernel) rfl li)) (λ_ _ _ _=>(BD Ag (pv 0) (pv 1) (λ_ _=>rfl))))))
theorem qQ:L_ P w mg base 1 "_law_hand" ["_law_script"] MK:=Ar (f:=292) (c:=291) (pm:=Sr) (st:=Vp) X G λF=>K_ F (wI ) λb a d e=>(AG (C' a (Ad (JZ rfl) rfl B.sum JS (AD (EC OY (pv 0) EA (EB AH)) AK))) (AQ (Ac (A6 (AD (E7 Ho rfl B.list GA (AD (EC OY (pv 0) EA (EB AH)) AK)) (AD AH (AD (AM K5 (Ad GB rfl B.abs F8 (AD (pv 1) AK)) AH) (AD (AM CY (pv 1) AH) AK))))))))
theorem CL:L_ P w mg base 1 "_law_draw" ["_law_hand_here","_law_many"] Bv:=Ar (f:=299) (c:=298) (pm:=Sr) (st:=Vq) X G λF=>K_ F (wJ ) λb a d e=>(AG (BN (PW.pt (Fy (cR Cl (xI Ag (pv 0)) AH) (Fy (cR Cl (xI Ag (pv 0)) AH) (Gi (cR Hj (AM BH (xI Ag (pv 0)) AH) (Ad Av rfl B.len Au (AD (xI Ag (pv 0)) AK))))))) (AG (DF (AM BH (xI Ag (pv 0)) AH) (Dk (pv 0) AH C5)) (AQ (DF (Ad GB rfl B.abs F8 (AD (BD Ag (xI Ag (pv 0)) (xI Ag (pv 0)) (λ_ _=>rfl)) AK)) (Dk (pv 0) AH C5)))) BM) (AG (BN (PW.pt (Fy (cR Cl (xI Ag (pv 0)) AH) (Gi (cR D9 (xI Ag (pv 0)) AH)))) (AG (C' a (AM CY (xI Ag (pv 0)) (pv 1))) (AG (DF (AM K5 (xI Ag (pv 0)) (pv 1)) (Dk (pv 0) AH C5)) (AQ (Ac (pv 2))))) BM) (AG (DF (AM BH (xI Ag (pv 0)) AH) (Dk (pv 0) AH C5)) (AG (C' a (Ad (JZ rfl) rfl B.sum JS (AD (EC Ep (EC Ep (xI Ag (pv 0)) (EB (AM CY (xI Ag (pv 0)) (Ad (Gr rfl) rfl B.max F9 (AD AH (AD (Ad Av rfl B.len Au (AD (xI Ag (pv 0)) AK)) AK))))) EA) EA (EB AH)) AK))) (AG (C' a (AM CY (AM BF (AM BH (AM BH (AM CY (pv 3) AH) (AM BF AH (xI Ag (pv 0)))) AH) (AM BH AH (AM BF AH (xI Ag (pv 0))))) AH)) (AG (C' a (AM CY (AM BH (AM BF (pv 4) (AM BH (AM CY (pv 4) AH) (xI Ag (pv 0)))) (AM BF AH (xI Ag (pv 0)))) AH)) (AQ (Ac (AM CY (AM K5 (pv 5) AH) (pv 1))))))))))
theorem NV:L_ P w mg base 1 "_law_lowest" ["_law_top","_law_bottom"] IT:=Ar (f:=306) (c:=305) (pm:=Sr) (st:=Vr) X G λF=>K_ F (wK ) λb a d e=>(AG (JI (i:=2) (j:=3) rfl a rfl rfl `b rfl rfl (AD (Ad GB rfl B.abs F8 (AD (pv 0) AK)) (AD (Ad GB rfl B.abs F8 (AD (pv 1) AK)) AK)) rfl) (AG (DV PassesOwn.never (cR D9 (pv 3) AH) (AQ (JI (i:=2) (j:=3) rfl a rfl rfl `b rfl rfl (AD (pv 3) (AD (AM CY (pv 2) (pv 3)) AK)) rfl))) (AG (BN (cR Hj (pv 1) AH) (AQ (C' a (Bx By (pv 2)))) BM) (AQ (Ac (FV (AD (AM GF (pv 0) (pv 2)) (AD (AM GF (pv 1) (pv 2)) AK))))))))
theorem Tq:L_ P w mg base 1 "_law_row_times" ["_law_one","_law_other"] J0:=Ar (f:=313) (c:=312) (pm:=Sr) (st:=Vs) X G λF=>K_ F (wP ) λb a d e=>(AG (C' a (AM FW (A6 (AD AH AK)) (AM Az (AM BH (Ad Av rfl B.len Au (AD (pv 0) AK)) (Ad Av rfl B.len Au (AD (pv 1) AK))) AH))) (AG (Bu PassesOwn.never rfl (Hn rfl B.enumerate (AD (pv 0) AK)) (EW rfl (CT (Af (i:=3) a rfl li) (CT (Af (i:=4) a rfl li) ES))) (AQ (Bu PassesOwn.never rfl (Hn rfl B.enumerate (AD (pv 1) AK)) (EW rfl (CT (Af (i:=5) a rfl li) (CT (Af (i:=6) a rfl li) ES))) (AQ (DF (AM BH (BD Ag (pv 2) (AM BH (pv 3) (pv 5)) (λ_ _=>rfl)) (AM BF (pv 4) (pv 6))) (Dk (pv 2) (AM BH (pv 3) (pv 5)) C5)))))) (AQ (Ac (pv 2)))))
theorem Tr:L_ P w mg base 2 "prime_after" ["whole"] IV:=Ar (f:=43) (c:=42) (pm:=G') (st:=U9) X G λF=>K_ F (vA ) λb a d e=>(AG (C' a (AM BH (pv 0) AH)) (AG (DV PassesOwn.never (Fz (FU ((qJ X G B).q1 b (pv 1)))) (AQ (E6 (i:=1) a rfl li AH Hi))) (AQ (Ac (pv 1)))))
theorem qR:L_ P w mg base 2 "content" ["row","start"] MG:=Ar (f:=48) (c:=47) (pm:=G') (st:=VA) X G λF=>K_ F (yT ) λb a d e=>(AG (C' a ((JA X G B).q2 b (Wn rfl B.min V5 (Jb (N:=["whole"]) (capt:=[none]) (xo:=none) rfl (BlkOk1.of rfl rfl (λ_=>{2,λ_=>rfl}) rfl (λ_ h=>nomatch h) rfl rfl rfl) (BY (pv 0)) (λ_ _ _ _=>(Af (i:=0) (show (["whole"]:dd).Nodup by decide +kernel) rfl li)) (λ_ _ _ _=>(cR D8 (pv 0) AH)) (λ_ _ _ _=>(Ad GB rfl B.abs F8 (AD (pv 0) AK))))) (pv 1))) (AG (Bu PassesOwn.never rfl (BY (pv 0)) (Af (i:=3) a rfl li) (AG (BN (cR Cl (pv 2) AH) (AQ (Ac AH)) BM) (AQ (C' a ((JA X G B).q2 b (pv 3) (pv 2)))))) (AQ (Ac (pv 2)))))
theorem HY:L_ P w mg base 2 "row_less" ["row","factor","other","weight","shift"] Fn:=Ar (f:=91) (c:=90) (pm:=G') (st:=VH) X G λF=>K_ F (yW ) λb a d e=>(AG (Hu (i:=5) (N:=["whole","factor"]) (capt:=[none,some 1]) (xo:=none) a rfl li rfl (BlkOk1.of rfl rfl (λ_=>{2,λ_=>rfl}) rfl (Bt.mpr rfl) rfl rfl rfl) (BY (pv 0)) (λ_ _ _ _=>(Af (i:=0) (show (["whole","factor"]:dd).Nodup by decide +kernel) rfl li)) (λ_ _ _ _=>(AM BF (pv 1) (pv 0)))) (AG (Em (E8 bQ PySem.F.slot_list_extend PySem.F.type_list_extend OD (pv 5) (AD (AM FW (A6 (AD AH AK)) (AM Az (AM BH (Ad Av rfl B.len Au (AD (pv 2) AK)) (pv 4)) (Ad Av rfl B.len Au (AD (pv 0) AK)))) AK))) (AG (Bu PassesOwn.never rfl (Hn rfl B.enumerate (AD (pv 2) AK)) (EW rfl (CT (Af (i:=6) a rfl li) (CT (Af (i:=7) a rfl li) ES))) (AQ (Hg (pv 5) (AM BH (pv 6) (pv 4)) Hr (AM BF (pv 3) (pv 7)) JN C5))) (AQ (Ac ((Km X G B).q1 b (pv 5)))))))
theorem Ga:L_ P w mg base 2 "row_modulo" ["row","prime"] FH:=Ar (f:=141) (c:=140) (pm:=G') (st:=VQ) X G λF=>K_ F (xB ) λa b d e=>(AQ (Ac ((Km X G B).q1 a ((Tm X G B).q2 a (pv 0) (pv 1)))))
theorem HZ:L_ P w mg base 2 "monic_modulo" ["row","prime"] Fo:=Ar (f:=146) (c:=145) (pm:=G') (st:=VR) X G λF=>K_ F (xD ) λa b d e=>(AG (BN (Fz (Eo (pv 0) (λ_=>rfl))) (AQ (Ac (A6 AK))) BM) (AG (CC (i:=2) b rfl (Or.inr rfl) ((Kn X G B).q2 a (BD Ag (pv 0) (Bx By AH) (λ_ _=>rfl)) (pv 1))) (AQ (Ac (CG (N:=["whole","prime","factor"]) (capt:=[none,some 1,some 2]) (xo:=none) rfl (BlkOk1.of rfl rfl (λ_=>{2,λ_=>rfl}) rfl (Di.mpr {2,(Bt.mpr rfl)}) rfl rfl rfl) (BY (pv 0)) (λ_ _ _ _=>(Af (i:=0) (show (["whole","prime","factor"]:dd).Nodup by decide +kernel) rfl li)) (λ_ _ _ _=>(AM CY (AM BF (pv 0) (pv 2)) (pv 1))))))))
theorem qS:L_ P w mg base 2 "reduced_modulo" ["rows","prime"] MM:=Ar (f:=184) (c:=183) (pm:=G') (st:=VX) X G λF=>K_ F (vU ) λb a d e=>(AG (CC (i:=2) a rfl (Or.inr rfl) (CG (N:=["row","prime"]) (capt:=[none,some 1]) (xo:=none) rfl (BlkOk1.of rfl rfl (λ_=>{2,λ_=>rfl}) rfl (Bt.mpr rfl) rfl rfl rfl) (BY (pv 0)) (λ_ _ _ _=>(Af (i:=0) (show (["row","prime"]:dd).Nodup by decide +kernel) rfl li)) (λ_ _ _ _=>((Tm X G B).q2 b (pv 0) (pv 1))))) (AG (C' a (Wr rfl B.list rfl B.range rfl (AD (Ad Av rfl B.len Au (AD (pv 0) AK)) AK))) (AG (C' a (A6 AK)) (AG (Bu PassesOwn.never rfl (EU rfl B.range (AD (Hf (Eo (pv 0) (λ_=>rfl)) (Ad Av rfl B.len Au (AD (xI Ag (pv 0)) AK)) AH) AK)) (Af (i:=5) a rfl (Or.inr rfl)) (AG (C' a (Ad Av rfl B.len Au (AD (pv 4) AK))) (AG (Ot (i:=7) (N:=["place","column","left"]) (capt:=[none,some 5,some 2]) (xo:=none) a rfl li rfl (BlkOk1.of rfl rfl (λ_=>{2,λ_=>rfl}) rfl (Di.mpr {2,(Bt.mpr rfl)}) rfl rfl rfl) (Ks rfl B.range (AD (pv 6) (AD (Ad Av rfl B.len Au (AD (pv 2) AK)) AK))) (λ_ _ _ _=>(Af (i:=0) (show (["place","column","left"]:dd).Nodup by decide +kernel) rfl li)) (λ_ _ _ _=>(cR D8 (BD Ag (BD Ag (pv 2) (pv 0) (λ_ _=>rfl)) (pv 1) (λ_ _=>rfl)) AH)) (λ_ _ _ _=>(pv 0))) (AQ (BN (Eo (pv 7) (λ_=>rfl)) (AG (CC (i:=2) a rfl (Or.inr rfl) ((Tn X G B).q3 b (pv 2) (pv 6) (xI Ag (pv 7)))) (AG (C' a ((Tn X G B).q3 b (pv 3) (pv 6) (xI Ag (pv 7)))) (AG (CC (i:=8) a rfl (Or.inr rfl) ((Kn X G B).q2 b (BD Ag (BD Ag (pv 2) (pv 6) (λ_ _=>rfl)) (pv 5) (λ_ _=>rfl)) (pv 1))) (AG (CC (i:=9) a rfl (Or.inr rfl) (CG (N:=["whole","prime","factor"]) (capt:=[none,some 1,some 8]) (xo:=none) rfl (BlkOk1.of rfl rfl (λ_=>{2,λ_=>rfl}) rfl (Di.mpr {2,(Bt.mpr rfl)}) rfl rfl rfl) (BY (BD Ag (pv 2) (pv 6) (λ_ _=>rfl))) (λ_ _ _ _=>(Af (i:=0) (show (["whole","prime","factor"]:dd).Nodup by decide +kernel) rfl li)) (λ_ _ _ _=>(AM CY (AM BF (pv 0) (pv 2)) (pv 1))))) (AG (CC (i:=2) a rfl (Or.inr rfl) (CG (N:=["row","lead","column","prime"]) (capt:=[none,some 9,some 5,some 1]) (xo:=none) rfl (BlkOk1.of rfl rfl (λ_=>{2,λ_=>rfl}) rfl (Di.mpr {2,(Di.mpr {2,(Bt.mpr rfl)})}) rfl rfl rfl) (BY (pv 2)) (λ_ _ _ _=>(Af (i:=0) (show (["row","lead","column","prime"]:dd).Nodup by decide +kernel) rfl li)) (λ_ _ _ _=>((qN X G B).pe b `b rfl (AD (pv 0) (AD (pv 1) (AD (pv 2) (AD (pv 3) AK)))))))) (AG (DF (pv 9) (Dk (pv 2) (pv 6) C5)) (AQ (Em (E8 bQ bR cL F6 (pv 4) (AD (pv 5) AK)))))))))) BM))))) (AQ (Ac (FV (AD (EC Ep (pv 2) EA (EB (Ad Av rfl B.len Au (AD (pv 4) AK)))) (AD (EC Ep (pv 3) EA (EB (Ad Av rfl B.len Au (AD (pv 4) AK)))) (AD (pv 4) AK))))))))))
theorem Ts:L_ P w mg base 2 "cleared" ["P"] Jz:=Ar (f:=225) (c:=224) (pm:=mo1) (st:=Ve) X G λF=>K_ F (yO ) λb a d e=>(AG (CC (i:=1) a rfl (Or.inr rfl) AH) (AG (Bu PassesOwn.never rfl (Kr (pv 0)) (Af (i:=2) a rfl li) (AQ (E6 (i:=1) a rfl (Or.inr rfl) (AM Hs (xI CF (pv 2)) ((JA X G B).q2 b (pv 1) (xI CF (pv 2)))) JT))) (AQ (Ac (FV (AD (CG (N:=["number","bottom"]) (capt:=[none,some 1]) (xo:=none) rfl (BlkOk1.of rfl rfl (λ_=>{2,λ_=>rfl}) rfl (Bt.mpr rfl) rfl rfl rfl) (Kr (pv 0)) (λ_ _ _ _=>(Af (i:=0) (show (["number","bottom"]:dd).Nodup by decide +kernel) rfl li)) (λ_ _ _ _=>(AM BF (xI CF (pv 0)) (AM Hs (pv 1) (xI CF (pv 0)))))) (AD (pv 1) AK)))))))
theorem qT:L_ P w mg base 2 "crossed" ["rows"] MP:=Ar (f:=237) (c:=236) (pm:=bJ) (st:=Vg) X G λF=>K_ F (vZ ) λa b d e=>(AQ (Ac (CG (N:=["place","rows"]) (capt:=[none,some 0]) (xo:=none) rfl (BlkOk1.of rfl rfl (λ_=>{2,λ_=>rfl}) rfl (Bt.mpr rfl) rfl rfl rfl) (EU rfl B.range (AD ((qO X G B).q1 a (pv 0)) AK)) (λ_ _ _ _=>(Af (i:=0) (show (["place","rows"]:dd).Nodup by decide +kernel) rfl li)) (λ_ _ _ _=>((qP X G B).q2 a (pv 1) (pv 0))))))
theorem qU:L_ P w mg base 2 "seed_at" ["column","reduced","width"] MT:=Ar (f:=278) (c:=277) (pm:=aw) (st:=Vn) X G λF=>K_ F (uQ ) λb a d e=>(AG (C' a (AM FW (A6 (AD AH AK)) (pv 2))) (AG (DF AH (Dk (pv 3) (pv 0) C5)) (AG (Bu PassesOwn.never rfl (LA rfl B.zip (AD (xI CF (pv 1)) (AD (xI CF (pv 1)) AK))) (EW rfl (CT (Af (i:=4) a rfl li) (CT (Af (i:=5) a rfl li) ES))) (AQ (DF (Bx By (BD Ag (pv 5) (pv 0) (λ_ _=>rfl))) (Dk (pv 3) (pv 4) C5)))) (AQ (Ac ((Km X G B).q1 b (pv 3)))))))
theorem qV:L_ P w mg base 2 "_law_poly_of" ["_law_row","_law_scale_here"] J1:=Ar (f:=318) (c:=317) (pm:=Sr) (st:=Vt) X G λF=>K_ F (wL ) λa b d e=>(AQ (Ac (E7 OP rfl B.tuple OJ (AD (CG (N:=["_law_one","_law_scale_here"]) (capt:=[none,some 1]) (xo:=none) rfl (BlkOk1.of rfl rfl (λ_=>{2,λ_=>rfl}) rfl (Bt.mpr rfl) rfl rfl rfl) (BY (pv 0)) (λ_ _ _ _=>(Af (i:=0) (show (["_law_one","_law_scale_here"]:dd).Nodup by decide +kernel) rfl li)) (λ_ _ _ _=>((NV X G B).q2 a (AM BF (pv 0) (xI CF (pv 1))) (xI CF (pv 1))))) AK))))
theorem Tt:L_ P w mg base 2 "_law_rootless" ["_law_hand_here","_law_size"] KC:=Ar (f:=325) (c:=324) (pm:=Sr) (st:=Vu) X G λF=>K_ F (rA ) λa b d e=>(AG (C' b (A6 (AD (AM BF AH (AM Az (AM BF AH ((CL X G B).q2 a (pv 0) AH)) AH)) AK))) (AG (Bu PassesOwn.never rfl (EU rfl B.range (AD (AM Az (pv 1) AH) AK)) (Af (i:=3) b rfl li) (AQ (Em (E8 bQ bR cL F6 (pv 2) (AD (AM BF AH (AM Az ((CL X G B).q2 a (pv 0) AH) AH)) AK))))) (AQ (Ac (AM JP (pv 2) (A6 (AD (AM BH AH (AM BF AH ((CL X G B).q2 a (pv 0) AH))) AK)))))))
theorem qW:L_ P w mg base 2 "_law_scale" ["_law_hand_here"] J2:=Ar (f:=332) (c:=331) (pm:=Sr) (st:=Vv) X G λF=>K_ F (rB ) λa b d e=>(AQ (Ac ((NV X G B).q2 a (AM BF (BD Ag (A6 (AD AH (AD (Bx By AH) AK))) ((CL X G B).q2 a (pv 0) AH) (λ_ _=>rfl)) (AM BH AH ((CL X G B).q2 a (pv 0) AH))) (AM BH AH ((CL X G B).q2 a (pv 0) AH)))))
theorem NW:L_ P w mg base 2 "_law_monic_of" ["_law_row"] IU:=Ar (f:=337) (c:=336) (pm:=Sr) (st:=Vw) X G λF=>K_ F (wM ) λa b d e=>(AQ (Ac (E7 OP rfl B.tuple OJ (AD (CG (N:=["_law_one","_law_row"]) (capt:=[none,some 0]) (xo:=none) rfl (BlkOk1.of rfl rfl (λ_=>{2,λ_=>rfl}) rfl (Bt.mpr rfl) rfl rfl rfl) (BY (pv 0)) (λ_ _ _ _=>(Af (i:=0) (show (["_law_one","_law_row"]:dd).Nodup by decide +kernel) rfl li)) (λ_ _ _ _=>((NV X G B).q2 a (pv 0) (BD Ag (pv 1) (Bx By AH) (λ_ _=>rfl))))) AK))))
theorem NX:L_ P w mg base 2 "_law_moved" ["_law_row","_law_h"] IX:=Ar (f:=344) (c:=343) (pm:=Sr) (st:=Vx) X G λF=>K_ F (rF ) λb a d e=>(AG (C' a (A6 (AD AH AK))) (AG (Bu PassesOwn.never rfl (OS rfl B.reversed (AD (pv 0) AK)) (Af (i:=3) a rfl li) (AG (C' a ((Tq X G B).q2 b (pv 2) (A6 (AD (pv 1) (AD AH AK))))) (AG (DF (AM BH (xI Ag (pv 4)) (pv 3)) (Dk (pv 4) AH C5)) (AQ (C' a (pv 4)))))) (AQ (Ac (EC Ep (pv 2) EA (EB (Ad Av rfl B.len Au (AD (pv 0) AK))))))))
theorem Tu:L_ P w mg base 3 "strand_shortened" ["strand"] Ju:=Ar (f:=108) (c:=107) (pm:=G') (st:=VL) X G λF=>K_ F (xJ ) λb a d e=>(AG (CC (i:=1) a rfl (Or.inr rfl) AH) (AG (Bu PassesOwn.never rfl (BY (pv 0)) (Af (i:=2) a rfl li) (AQ (CC (i:=1) a rfl (Or.inr rfl) ((qR X G B).q2 b (pv 2) (pv 1))))) (AQ (Ac (CG (N:=["row","shared"]) (capt:=[none,some 1]) (xo:=none) rfl (BlkOk1.of rfl rfl (λ_=>{2,λ_=>rfl}) rfl (Bt.mpr rfl) rfl rfl rfl) (BY (pv 0)) (λ_ _ _ _=>(Af (i:=0) (show (["row","shared"]:dd).Nodup by decide +kernel) rfl li)) (λ_ _ _ _=>((qK X G B).q2 b (pv 0) (pv 1))))))))
theorem JC:L_ P w mg base 3 "split_modulo" ["row","divisor","modulus"] GR:=Ar (f:=153) (c:=152) (pm:=G') (st:=VS) X G λF=>K_ F (xH ) λb a d e=>(AG (C' a (E7 Ho rfl B.list GA (AD (pv 0) AK))) (AG (C' a (AM Az (Ad Av rfl B.len Au (AD (pv 1) AK)) AH)) (AG (C' a (AM FW (A6 (AD AH AK)) (Ad (Gr rfl) rfl B.max F9 (AD (AM Az (Ad Av rfl B.len Au (AD (pv 0) AK)) (pv 4)) (AD AH AK))))) (AG (Bu PassesOwn.never rfl (K8 rfl B.range (AD (AM Az (AM Az (Ad Av rfl B.len Au (AD (pv 0) AK)) (pv 4)) AH) (AD (Bx By AH) (AD (Bx By AH) AK)))) (Af (i:=6) a rfl li) (AG (C' a (AM CY (BD Ag (pv 3) (AM BH (pv 6) (pv 4)) (λ_ _=>rfl)) (pv 2))) (AG (DF (pv 7) (Dk (pv 5) (pv 6) C5)) (AQ (BN (cR D8 (pv 7) AH) (AQ (Bu PassesOwn.never rfl (EU rfl B.range (AD (pv 4) AK)) (Af (i:=8) a rfl li) (AQ (Hg (pv 3) (AM BH (pv 6) (pv 8)) Hr (AM BF (pv 7) (BD Ag (pv 1) (pv 8) (λ_ _=>rfl))) JN C5)))) BM))))) (AQ (Ac (FV (AD ((Km X G B).q1 b (pv 5)) (AD ((Ga X G B).q2 b (EC Ep (pv 3) EA (EB (pv 4))) (pv 2)) AK)))))))))
theorem Tv:L_ P w mg base 3 "_law_factor" ["_law_hand_here","_law_firsts","_law_great"] KD:=Ar (f:=351) (c:=350) (pm:=Sr) (st:=Vy) X G λF=>K_ F (rK ) λa b e d=>(AG (C' b ((CL X G B).q2 a (pv 0) AH)) (AG (BN (FU (pv 2)) (AQ (Ac (A6 (AD (AM Az ((CL X G B).q2 a (pv 0) AH) AH) (AD (AM BH AH ((CL X G B).q2 a (pv 0) AH)) AK))))) BM) (AG (BN (cR Cl (pv 3) AH) (AQ (Ac ((Tt X G B).q2 a (pv 0) (AM BH AH ((CL X G B).q2 a (pv 0) AH))))) BM) (AG (BN (PW.pt (Fy (cR Cl (pv 3) AH) (Gi (cR (K7 d) (pv 1) (A6 AK))))) (AQ (Ac ((NX X G B).q2 a (BD Ag (pv 1) ((CL X G B).q2 a (pv 0) (Ad Av rfl B.len Au (AD (pv 1) AK))) (λ_ _=>rfl)) (AM Az ((CL X G B).q2 a (pv 0) AH) AH)))) BM) (AQ (Ac (A6 (AD (AM Az ((CL X G B).q2 a (pv 0) AH) AH) (AD (AM BH AH ((CL X G B).q2 a (pv 0) AH)) AK)))))))))
theorem Tw:L_ P w mg base 3 "_law_product" ["_law_hand_here","_law_factors"] KE:=Ar (f:=358) (c:=357) (pm:=Sr) (st:=Vz) X G λF=>K_ F (rN ) λa b d e=>(AG (C' b (A6 (AD AH AK))) (AG (Bu PassesOwn.never rfl (BY (pv 1)) (Af (i:=3) b rfl li) (AQ (C' b ((Tq X G B).q2 a (pv 2) (pv 3))))) (AQ (Ac ((qV X G B).q2 a (pv 2) ((qW X G B).q1 a (pv 0)))))))
theorem qY:L_ P w mg base 3 "_law_shift" ["_law_one","_law_other"] MX:=Ar (f:=365) (c:=364) (pm:=Sr) (st:=V0) X G λF=>K_ F (rS ) λb a e d=>(AG (JI (i:=2) (j:=3) rfl a rfl rfl `b rfl rfl (AD ((NW X G B).q1 b (pv 0)) (AD ((NW X G B).q1 b (pv 1)) AK)) rfl) (AG (C' a (AM Az (Ad K6 rfl B.len Au (AD (pv 2) AK)) AH)) (AG (BN (cR D8 (Ad K6 rfl B.len Au (AD (pv 3) AK)) (Ad K6 rfl B.len Au (AD (pv 2) AK))) (AQ (Ac EO)) BM) (AG (DF (BD CF (pv 2) (AM Az (pv 4) AH) (λ_ _=>rfl)) (EW rfl (CT (Af (i:=5) a rfl li) (CT (Af (i:=6) a rfl li) ES)))) (AG (DF (BD CF (pv 3) (AM Az (pv 4) AH) (λ_ _=>rfl)) (EW rfl (CT (Af (i:=7) a rfl li) (CT (Af (i:=8) a rfl li) ES)))) (AG (C' a (AM Az (AM BF (pv 5) (pv 8)) (AM BF (pv 7) (pv 6)))) (AG (C' a (AM BF (AM BF (pv 6) (pv 8)) (pv 4))) (AG (BN (cR D8 (AM Nk (pv 9) (pv 10)) AH) (AQ (Ac EO)) BM) (AG (C' a (AM GF (pv 9) (pv 10))) (AG (BN (cR (K7 d) ((NW X G B).q1 b ((NX X G B).q2 b (pv 1) (pv 11))) (pv 2)) (AQ (Ac EO)) BM) (AQ (Ac (pv 11)))))))))))))
theorem qZ:L_ P w mg base 4 "strand_rest" ["strand","other"] MI:=Ar (f:=103) (c:=102) (pm:=G') (st:=VJ) X G λF=>K_ F (xN ) λb a d e=>(AG (DV PassesOwn.never (cR UU (Ad Av rfl B.len Au (AD (xI Ag (pv 0)) AK)) (Ad Av rfl B.len Au (AD (xI Ag (pv 1)) AK))) (AG (CC (i:=2) a rfl (Or.inr rfl) (AM Az (Ad Av rfl B.len Au (AD (xI Ag (pv 0)) AK)) (Ad Av rfl B.len Au (AD (xI Ag (pv 1)) AK)))) (AG (C' a (BD Ag (xI Ag (pv 0)) (Bx By AH) (λ_ _=>rfl))) (AG (C' a (BD Ag (xI Ag (pv 1)) (Bx By AH) (λ_ _=>rfl))) (AG (C' a ((JA X G B).q2 b (pv 3) (pv 4))) (AG (CC (i:=6) a rfl (Or.inr rfl) (AM GF (pv 4) (pv 5))) (AG (CC (i:=7) a rfl (Or.inr rfl) (AM GF (pv 3) (pv 5))) (AQ (Hu (i:=0) (N:=["row","follower","factor","weight","shift"]) (capt:=[none,none,some 6,some 7,some 2]) (xo:=none) a rfl li rfl (BlkOk1.of rfl rfl (λ_=>{2,λ_=>rfl}) rfl (Di.mpr {2,(Di.mpr {2,(Bt.mpr rfl)})}) rfl rfl rfl) (LA rfl B.zip (AD (pv 0) (AD (pv 1) AK))) (λ_ _ _ _=>(EW rfl (CT (Af (i:=0) (show (["row","follower","factor","weight","shift"]:dd).Nodup by decide +kernel) rfl li) (CT (Af (i:=1) (show (["row","follower","factor","weight","shift"]:dd).Nodup by decide +kernel) rfl li) ES)))) (λ_ _ _ _=>((HY X G B).pe b `b rfl (AD (pv 0) (AD (pv 2) (AD (pv 1) (AD (pv 3) (AD (pv 4) AK)))))))))))))))) (AQ (Ac ((Tu X G B).q1 b (pv 0)))))
theorem Ko:L_ P w mg base 4 "row_shortened" ["row"] HL:=Ar (f:=115) (c:=114) (pm:=G') (st:=VM) X G λF=>K_ F (xL ) λa b d e=>(AQ (Ac (xI Ag ((Tu X G B).q1 a (A6 (AD (pv 0) AK))))))
theorem Fu:L_ P w mg base 4 "rest_modulo" ["row","divisor","modulus"] Ex:=Ar (f:=160) (c:=159) (pm:=G') (st:=VT) X G λF=>K_ F (xF ) λa b d e=>(AQ (Ac (xI CF ((JC X G B).q3 a (pv 0) (pv 1) (pv 2)))))
theorem pA:L_ P w mg base 4 "_law_lists" ["_law_hand_here"] MY:=Ar (f:=370) (c:=369) (pm:=Sr) (st:=V1) X G λF=>K_ F (rY ) λa b d e=>(AG (BN (cR Cl ((CL X G B).q2 a (pv 0) AH) AH) (AG (C' b (AM BH AH ((CL X G B).q2 a (pv 0) AH))) (AG (C' b (BD Ag (A6 (AD AH (AD AH AK))) (AM Az (pv 1) AH) (λ_ _=>rfl))) (AG (C' b ((Tt X G B).q2 a (pv 0) (pv 1))) (AQ (Ac (FV (AD (A6 (AD (pv 3) AK)) (AD (A6 (AD ((NX X G B).q2 a (pv 3) (AM Az ((CL X G B).q2 a (pv 0) (AM BH (AM BF AH (pv 2)) AH)) (pv 2))) AK)) AK)))))))) BM) (AG (BN (cR Cl ((CL X G B).q2 a (pv 0) AH) AH) (AG (C' b (AM BH AH ((CL X G B).q2 a (pv 0) AH))) (AG (Hu (i:=5) (N:=["_law_k","_law_hand_here"]) (capt:=[none,some 0]) (xo:=none) b rfl li rfl (BlkOk1.of rfl rfl (λ_=>{2,λ_=>rfl}) rfl (Bt.mpr rfl) rfl rfl rfl) (EU rfl B.range (AD (AM BF AH (pv 4)) AK)) (λ_ _ _ _=>(Af (i:=0) (show (["_law_k","_law_hand_here"]:dd).Nodup by decide +kernel) rfl li)) (λ_ _ _ _=>(A6 (AD (AM Az ((CL X G B).q2 a (pv 1) AH) AH) (AD (AM BH AH ((CL X G B).q2 a (pv 1) AH)) AK))))) (AQ (Ac (FV (AD (EC Ep (pv 5) EA (EB (pv 4))) (AD (EC Ep (pv 5) (EB (pv 4)) EA) AK))))))) BM) (AG (CC (i:=6) b rfl (Or.inr rfl) (Gm Cl ((CL X G B).q2 a (pv 0) AH) AH (Q_ _))) (AG (Hu (i:=7) (N:=["_law_k","_law_hand_here","_law_great"]) (capt:=[none,some 0,some 6]) (xo:=none) b rfl li rfl (BlkOk1.of rfl rfl (λ_=>{2,λ_=>rfl}) rfl (Di.mpr {2,(Bt.mpr rfl)}) rfl rfl rfl) (EU rfl B.range (AD ((CL X G B).q2 a (pv 0) (AM Az AH (E7 OL rfl B.int K4 (AD (pv 6) AK)))) AK)) (λ_ _ _ _=>(Af (i:=0) (show (["_law_k","_law_hand_here","_law_great"]:dd).Nodup by decide +kernel) rfl li)) (λ_ _ _ _=>((Tv X G B).q3 a (pv 1) (A6 AK) (pv 2)))) (AG (DV PassesOwn.never (cR D9 (Ad (JZ rfl) rfl B.sum JS (AD (CG (N:=["_law_other"]) (capt:=[none]) (xo:=none) rfl (BlkOk1.of rfl rfl (λ_=>{2,λ_=>rfl}) rfl (λ_ h=>nomatch h) rfl rfl rfl) (BY (pv 7)) (λ_ _ _ _=>(Af (i:=0) (show (["_law_other"]:dd).Nodup by decide +kernel) rfl li)) (λ_ _ _ _=>(AM Az (Ad Av rfl B.len Au (AD (pv 0) AK)) AH))) AK)) AH) (AQ (Em (Kv bQ PySem.F.slot_list_pop PySem.F.type_list_pop Uy (pv 7))))) (AG (C' b (A6 AK)) (AG (Bu PassesOwn.never rfl (EU rfl B.range (AD ((CL X G B).q2 a (pv 0) (AM Az AH (E7 OL rfl B.int K4 (AD (pv 6) AK)))) AK)) (Af (i:=9) b rfl li) (AG (C' b ((Tv X G B).q3 a (pv 0) (pv 7) (pv 6))) (AQ (BN (cR Hj (AM BH (Ad (JZ rfl) rfl B.sum JS (AD (CG (N:=["_law_other"]) (capt:=[none]) (xo:=none) rfl (BlkOk1.of rfl rfl (λ_=>{2,λ_=>rfl}) rfl (λ_ h=>nomatch h) rfl rfl rfl) (BY (pv 8)) (λ_ _ _ _=>(Af (i:=0) (show (["_law_other"]:dd).Nodup by decide +kernel) rfl li)) (λ_ _ _ _=>(AM Az (Ad Av rfl B.len Au (AD (pv 0) AK)) AH))) AK)) (Ad Av rfl B.len Au (AD (pv 10) AK))) AH) (AQ (Em (E8 bQ bR cL F6 (pv 8) (AD (pv 10) AK)))) BM)))) (AQ (Ac (FV (AD (pv 7) (AD (pv 8) AK))))))))))))
theorem pB:L_ P w mg base 5 "strand_euclid" ["strand","other"] Jv:=Ar (f:=122) (c:=121) (pm:=G') (st:=VN) X G λF=>K_ F (xO ) λb a d e=>(AG (DV PassesOwn.never (Eo (xI Ag (pv 1)) (λ_=>rfl)) (AG (BN (cR Cl (Ad Av rfl B.len Au (AD (xI Ag (pv 1)) AK)) AH) (AQ (Ac (pv 1))) BM) (AG (C' a ((qZ X G B).q2 b (pv 0) (pv 1))) (AG (C' a (pv 1)) (AQ (C' a (pv 2))))))) (AQ (Ac (pv 0))))
theorem NY:L_ P w mg base 5 "euclid_modulo" ["row","other","prime"] IS:=Ar (f:=167) (c:=166) (pm:=G') (st:=VU) X G λF=>K_ F (xG ) λa b d e=>(AG (C' b ((HZ X G B).q2 a ((Ga X G B).q2 a (pv 0) (pv 2)) (pv 2))) (AG (C' b ((HZ X G B).q2 a ((Ga X G B).q2 a (pv 1) (pv 2)) (pv 2))) (AG (DV PassesOwn.never (Eo (pv 1) (λ_=>rfl)) (AG (C' b ((Fu X G B).q3 a (pv 0) (pv 1) (pv 2))) (AG (C' b (pv 1)) (AQ (C' b ((HZ X G B).q2 a (pv 3) (pv 2))))))) (AQ (Ac (pv 0))))))
theorem pC:L_ P w mg base 5 "inverse_rest" ["row","divisor","prime"] MS:=Ar (f:=172) (c:=171) (pm:=G') (st:=VV) X G λF=>K_ F (uJ ) λb a d e=>(AG (C' a (pv 1)) (AG (C' a ((Fu X G B).q3 b (pv 0) (pv 1) (pv 2))) (AG (C' a (A6 AK)) (AG (C' a (A6 (AD AH AK))) (AQ (DV PassesOwn.never (FU JE) (AG (CC (i:=7) a rfl (Or.inr rfl) ((Kn X G B).q2 b (BD Ag (pv 4) (Bx By AH) (λ_ _=>rfl)) (pv 2))) (AG (C' a ((Ga X G B).q2 b (CG (N:=["whole","factor"]) (capt:=[none,some 7]) (xo:=none) rfl (BlkOk1.of rfl rfl (λ_=>{2,λ_=>rfl}) rfl (Bt.mpr rfl) rfl rfl rfl) (BY (pv 4)) (λ_ _ _ _=>(Af (i:=0) (show (["whole","factor"]:dd).Nodup by decide +kernel) rfl li)) (λ_ _ _ _=>(AM BF (pv 0) (pv 1)))) (pv 2))) (AG (C' a ((Ga X G B).q2 b (CG (N:=["whole","factor"]) (capt:=[none,some 7]) (xo:=none) rfl (BlkOk1.of rfl rfl (λ_=>{2,λ_=>rfl}) rfl (Bt.mpr rfl) rfl rfl rfl) (BY (pv 6)) (λ_ _ _ _=>(Af (i:=0) (show (["whole","factor"]:dd).Nodup by decide +kernel) rfl li)) (λ_ _ _ _=>(AM BF (pv 0) (pv 1)))) (pv 2))) (AG (BN (cR Cl (Ad Av rfl B.len Au (AD (pv 4) AK)) AH) (AQ (Ac (pv 6))) BM) (AG (C' a ((JC X G B).q3 b (pv 3) (pv 4) (pv 2))) (AG (C' a ((Ga X G B).q2 b ((HY X G B).pe b `b rfl (AD (pv 5) (AD AH (AD ((JB X G B).q2 b (xI CF (pv 8)) (pv 6)) (AD AH (AD AH AK)))))) (pv 2))) (AG (C' a (pv 4)) (AG (C' a (xI CF (pv 8))) (AG (C' a (pv 6)) (AQ (C' a (pv 9))))))))))))))))))
theorem pE:L_ P w mg base 5 "seeds_modulo" ["divisor","prime"] MU:=Ar (f:=271) (c:=270) (pm:=aw) (st:=Vm) X G λF=>K_ F (uZ ) λb a e d=>(AG (CC (i:=2) a rfl (Or.inr rfl) (AM Az (Ad Av rfl B.len Au (AD (pv 0) AK)) AH)) (AG (C' a ((Fu X G B).q3 b (AM JP (AM FW (A6 (AD AH AK)) (pv 1)) (A6 (AD AH AK))) (pv 0) (pv 1))) (AG (C' a (A6 (AD AH AK))) (AG (C' a (A6 AK)) (AG (Bu PassesOwn.never rfl (EU rfl B.range (AD (pv 2) AK)) (Af (i:=6) a rfl li) (AG (C' a ((HY X G B).pe b `b rfl (AD (pv 4) (AD AH (AD (A6 (AD AH AK)) (AD AH (AD (pv 6) AK))))))) (AG (Em (E8 bQ bR cL F6 (pv 5) (AD (AM JP (pv 7) (AM FW (A6 (AD AH AK)) (AM Az (pv 2) (Ad Av rfl B.len Au (AD (pv 7) AK))))) AK))) (AQ (C' a ((Fu X G B).q3 b ((JB X G B).q2 b (pv 4) (pv 3)) (pv 0) (pv 1))))))) (AG (CC (i:=8) a rfl (Or.inr rfl) ((qS X G B).q2 b ((qT X G B).q1 b (pv 5)) (pv 1))) (AG (Ot (i:=9) (N:=["column","reduced"]) (capt:=[none,some 8]) (xo:=none) a rfl li rfl (BlkOk1.of rfl rfl (λ_=>{2,λ_=>rfl}) rfl (Bt.mpr rfl) rfl rfl rfl) (EU rfl B.range (AD (pv 2) AK)) (λ_ _ _ _=>(Af (i:=0) (show (["column","reduced"]:dd).Nodup by decide +kernel) rfl li)) (λ_ _ _ _=>(Nv (Wf d) (pv 0) (xI CF (pv 1)) rfl)) (λ_ _ _ _=>(pv 0))) (AQ (Ac (CG (N:=["column","reduced","width"]) (capt:=[none,some 8,some 2]) (xo:=none) rfl (BlkOk1.of rfl rfl (λ_=>{2,λ_=>rfl}) rfl (Di.mpr {2,(Bt.mpr rfl)}) rfl rfl rfl) (BY (pv 9)) (λ_ _ _ _=>(Af (i:=0) (show (["column","reduced","width"]:dd).Nodup by decide +kernel) rfl li)) (λ_ _ _ _=>((qU X G B).q3 b (pv 0) (pv 1) (pv 2)))))))))))))
theorem Tx:L_ P w mg base 6 "lifted" ["row","factor","prime","floor"] J9:=Ar (f:=179) (c:=178) (pm:=G') (st:=VW) X G λF=>K_ F (uM ) λa b d e=>(AG (C' b (pv 2)) (AG (C' b (xI CF ((JC X G B).q3 a ((HZ X G B).q2 a (pv 0) (pv 2)) (pv 1) (pv 2)))) (AG (C' b ((pC X G B).q3 a (pv 5) (pv 1) (pv 2))) (AG (DV PassesOwn.never (cR Nq (pv 4) (pv 3)) (AG (E6 (i:=4) b rfl li (pv 4) JT) (AG (C' b ((HZ X G B).q2 a (pv 0) (pv 4))) (AG (C' b ((Fu X G B).q3 a (pv 7) (pv 1) (pv 4))) (AG (C' b ((Fu X G B).q3 a ((JB X G B).q2 a (pv 8) (pv 6)) (pv 1) (pv 4))) (AG (C' b ((Ga X G B).q2 a ((HY X G B).pe a `b rfl (AD (pv 1) (AD AH (AD (pv 9) (AD (Bx By AH) (AD AH AK)))))) (pv 4))) (AG (C' b (xI CF ((JC X G B).q3 a (pv 7) (pv 1) (pv 4)))) (AG (C' b ((HY X G B).pe a `b rfl (AD (A6 (AD AH AK)) (AD AH (AD ((Fu X G B).q3 a ((JB X G B).q2 a (pv 5) (pv 6)) (pv 1) (pv 4)) (AD AH (AD AH AK))))))) (AQ (C' b ((Fu X G B).q3 a ((JB X G B).q2 a (pv 6) (pv 10)) (pv 1) (pv 4)))))))))))) (AQ (Ac (FV (AD (pv 1) (AD (pv 4) AK)))))))))
theorem pH:L_ P w mg base 6 "common_by_prime" ["row","other","prime"] MJ:=Ar (f:=208) (c:=207) (pm:=G') (st:=Vb) X G λF=>K_ F (xU ) λa b d e=>(AG (CC (i:=3) b rfl (Or.inr rfl) ((JA X G B).q2 a (BD Ag (pv 0) (Bx By AH) (λ_ _=>rfl)) (BD Ag (pv 1) (Bx By AH) (λ_ _=>rfl)))) (AG (BN (cR Cl (AM CY (pv 3) (pv 2)) AH) (AQ (Ac EO)) BM) (AG (C' b ((NY X G B).q3 a (pv 0) (pv 1) (pv 2))) (AG (C' b ((Ko X G B).q1 a (CG (N:=["whole","prime","lead"]) (capt:=[none,some 2,some 3]) (xo:=none) rfl (BlkOk1.of rfl rfl (λ_=>{2,λ_=>rfl}) rfl (Di.mpr {2,(Bt.mpr rfl)}) rfl rfl rfl) (BY (pv 4)) (λ_ _ _ _=>(Af (i:=0) (show (["whole","prime","lead"]:dd).Nodup by decide +kernel) rfl li)) (λ_ _ _ _=>((To X G B).q2 a (AM BF (pv 2) (pv 0)) (pv 1)))))) (AG (BN (PW.pt (He (cR Nr ((NU X G B).q2 a (pv 0) (pv 5)) EO) (JG (cR Nr ((NU X G B).q2 a (pv 1) (pv 5)) EO)))) (AQ (Ac EO)) BM) (AQ (Ac (pv 5))))))))
theorem Ty:L_ P w mg base 6 "stays_simple" ["row","prime"] J8:=Ar (f:=259) (c:=258) (pm:=aw) (st:=Vk) X G λF=>K_ F (uH ) λa b d e=>(AQ (Ac (Nh (Gm D8 (AM CY (BD Ag (pv 0) (Bx By AH) (λ_ _=>rfl)) (pv 1)) AH (Q_ _)) (Ng (Gm Cl (Ad Av rfl B.len Au (AD ((NY X G B).q3 a (pv 0) ((Tj X G B).q1 a (pv 0)) (pv 1)) AK)) AH (Q_ _))))))
theorem pI:L_ P w mg base 6 "pieces_modulo" ["factor","seed","prime"] MV:=Ar (f:=285) (c:=284) (pm:=aw) (st:=Vo) X G λF=>K_ F (tG ) λb a d e=>(AG (C' a (A6 AK)) (AG (C' a (pv 0)) (AG (C' a AH) (AG (DV PassesOwn.never (cR D9 (Ad Av rfl B.len Au (AD (pv 4) AK)) AH) (AG (C' a ((NY X G B).q3 b (pv 4) ((HY X G B).pe b `b rfl (AD (pv 1) (AD AH (AD (A6 (AD (pv 5) AK)) (AD AH (AD AH AK)))))) (pv 2))) (AG (BN (cR D9 (Ad Av rfl B.len Au (AD (pv 6) AK)) AH) (AG (Em (E8 bQ bR cL F6 (pv 3) (AD (pv 6) AK))) (AQ (C' a (xI CF ((JC X G B).q3 b (pv 4) (pv 6) (pv 2)))))) BM) (AQ (E6 (i:=5) a rfl li AH Hi))))) (AQ (Ac (pv 3)))))))
theorem T2:L_ P w mg base 7 "row_common" ["row","other"] Jy:=Ar (f:=215) (c:=214) (pm:=G') (st:=Vc) X G λF=>K_ F (xZ B.xEXPONENTS ) λa b d e=>(AG (C' b ((Ko X G B).q1 a (pv 0))) (AG (C' b ((Ko X G B).q1 a (pv 1))) (AG (BN (PW.pt (Fy (Eo (pv 0) (λ_=>rfl)) (Gi (Eo (pv 1) (λ_=>rfl))))) (AQ (Bu PassesOwn.never rfl (Kr (UI rfl B.EXPONENTS rfl)) (Af (i:=4) b rfl li) (AG (C' b ((pH X G B).q3 a (pv 2) (pv 3) (AM Az ((qH X G B).q2 a AH (pv 4)) AH))) (AQ (BN (cR Nt (pv 5) EO) (AQ (Ac (pv 5))) BM))))) BM) (AQ (Ac (xI Ag ((pB X G B).q2 a (A6 (AD (pv 2) AK)) (A6 (AD (pv 3) AK)))))))))
theorem T3:L_ P w mg base 7 "factors_modulo" ["row","prime"] KA:=Ar (f:=266) (c:=265) (pm:=aw) (st:=Vl) X G λF=>K_ F (tH ) λb a d e=>(AG (C' a (A6 (AD ((HZ X G B).q2 b (pv 0) (pv 1)) AK))) (AG (C' a ((pE X G B).q2 b (xI Ag (pv 2)) (pv 1))) (AG (Bu PassesOwn.never rfl (BY (pv 3)) (Af (i:=4) a rfl li) (AQ (BN (cR Hj (Ad Av rfl B.len Au (AD (pv 2) AK)) (Ad Av rfl B.len Au (AD (pv 3) AK))) (AG (C' a (A6 AK)) (AG (Bu PassesOwn.never rfl (BY (pv 2)) (Af (i:=6) a rfl li) (AQ (Em (E8 bQ PySem.F.slot_list_extend PySem.F.type_list_extend OD (pv 5) (AD ((pI X G B).q3 b (pv 6) (pv 4) (pv 1)) AK))))) (AQ (C' a (pv 5))))) BM))) (AQ (Ac (pv 2))))))
theorem T4:L_ P w mg base 8 "simple_row" ["row"] J7:=Ar (f:=220) (c:=219) (pm:=G') (st:=Vd) X G λF=>K_ F (tU ) λa b d e=>(AG (C' b ((Ko X G B).q1 a (pv 0))) (AG (C' b ((NU X G B).q2 a (pv 1) ((T2 X G B).q2 a (pv 1) ((Tj X G B).q1 a (pv 1))))) (AQ (Ac (Hf (cR D9 (BD Ag (pv 2) (Bx By AH) (λ_ _=>rfl)) AH) (pv 2) (CG (N:=["whole"]) (capt:=[none]) (xo:=none) rfl (BlkOk1.of rfl rfl (λ_=>{2,λ_=>rfl}) rfl (λ_ h=>nomatch h) rfl rfl rfl) (BY (pv 2)) (λ_ _ _ _=>(Af (i:=0) (show (["whole"]:dd).Nodup by decide +kernel) rfl li)) (λ_ _ _ _=>(Bx By (pv 0)))))))))
theorem pJ:L_ P w mg base 8 "likely_meets" ["one","other"] MW:=Ar (f:=252) (c:=251) (pm:=aw) (st:=Vj) X G λF=>K_ F (tZ ) λa b d e=>(AG (CC (i:=2) b rfl (Or.inr rfl) ((Tr X G B).q1 a (Ad (Gr rfl) rfl B.max F9 (AD (Ad Av rfl B.len Au (AD (pv 0) AK)) (AD (Ad Av rfl B.len Au (AD (pv 1) AK)) AK))))) (AG (DV PassesOwn.never (Fz (PW.pt (Fy (FU ((Ty X G B).q2 a (pv 0) (pv 2))) (Gi (FU ((Ty X G B).q2 a (pv 1) (pv 2))))))) (AQ (CC (i:=2) b rfl (Or.inr rfl) ((Tr X G B).q1 a (pv 2))))) (AG (C' b (AM BH (AM LD AH (Ad (Gr rfl) rfl B.max F9 (AD ((Tk X G B).q1 a (pv 0)) (AD AH AK)))) (AM LD AH (Ad (Gr rfl) rfl B.max F9 (AD ((Tk X G B).q1 a (pv 1)) (AD AH AK)))))) (AG (CC (i:=4) b rfl (Or.inr rfl) (AM LD (pv 3) AH)) (AG (Hu (i:=5) (N:=["factor","other","prime","floor"]) (capt:=[none,some 1,some 2,some 4]) (xo:=none) b rfl li rfl (BlkOk1.of rfl rfl (λ_=>{2,λ_=>rfl}) rfl (Di.mpr {2,(Di.mpr {2,(Bt.mpr rfl)})}) rfl rfl rfl) (BY ((T3 X G B).q2 a (pv 1) (pv 2))) (λ_ _ _ _=>(Af (i:=0) (show (["factor","other","prime","floor"]:dd).Nodup by decide +kernel) rfl li)) (λ_ _ _ _=>((Tx X G B).pe a `b rfl (AD (pv 1) (AD (pv 0) (AD (pv 2) (AD (pv 3) AK))))))) (AG (C' b XG) (AG (Bu PassesOwn.never rfl (BY ((T3 X G B).q2 a (pv 0) (pv 2))) (Af (i:=7) b rfl (Or.inr rfl)) (AG (C' b ((Tx X G B).pe a `b rfl (AD (pv 0) (AD (pv 7) (AD (pv 2) (AD (pv 4) AK)))))) (AG (C' b ((Kn X G B).q2 a (AM Az (Ad Av rfl B.len Au (AD (pv 7) AK)) AH) (xI CF (pv 8)))) (AQ (Bu PassesOwn.never rfl (BY (Jb (N:=["pair","factor"]) (capt:=[none,some 7]) (xo:=none) rfl (BlkOk1.of rfl rfl (λ_=>{2,λ_=>rfl}) rfl (Bt.mpr rfl) rfl rfl rfl) (BY (pv 5)) (λ_ _ _ _=>(Af (i:=0) (show (["pair","factor"]:dd).Nodup by decide +kernel) rfl li)) (λ_ _ _ _=>(cR Cl (Ad Av rfl B.len Au (AD (xI CF (pv 0)) AK)) (Ad Av rfl B.len Au (AD (pv 1) AK)))) (λ_ _ _ _=>(xI CF (pv 0))))) (Af (i:=10) b rfl li) (AG (C' b ((To X G B).q2 a (AM BF (AM Az (BD Ag (xI CF (pv 8)) (Bx By AH) (λ_ _=>rfl)) (BD Ag (pv 10) (Bx By AH) (λ_ _=>rfl))) (pv 9)) (xI CF (pv 8)))) (AQ (BN (cR Hj (Ad GB rfl B.abs F8 (AD (pv 11) AK)) (pv 3)) (AQ (DF JE (Dk (pv 6) (pv 11) XH))) BM)))))))) (AQ (Ac (Ad (XJ rfl) rfl B.sorted Oe (AD (pv 6) AK)))))))))))
theorem NZ:L_ P w mg base 9 "meets" ["P","Q"] IW:=Ar (f:=247) (c:=246) (pm:=aw) (st:=Vi) X G λF=>K_ F (sP ) λa b d e=>(AG (CC (i:=2) b rfl (Or.inr rfl) ((T4 X G B).q1 a (xI CF ((Ts X G B).q1 a (pv 0))))) (AG (CC (i:=3) b rfl (Or.inr rfl) ((T4 X G B).q1 a (xI CF ((Ts X G B).q1 a (pv 1))))) (AG (BN (PW.pt (He (cR Cl (Ad Av rfl B.len Au (AD (pv 2) AK)) AH) (JG (cR Cl (Ad Av rfl B.len Au (AD (pv 3) AK)) AH)))) (AQ (Ac (A6 AK))) BM) (AQ (Ac (Jb (N:=["h","one","other"]) (capt:=[none,some 2,some 3]) (xo:=none) rfl (BlkOk1.of rfl rfl (λ_=>{2,λ_=>rfl}) rfl (Di.mpr {2,(Bt.mpr rfl)}) rfl rfl rfl) (BY ((pJ X G B).q2 a (pv 2) (pv 3))) (λ_ _ _ _=>(Af (i:=0) (show (["h","one","other"]:dd).Nodup by decide +kernel) rfl li)) (λ_ _ _ _=>(cR D9 (Ad Av rfl B.len Au (AD ((T2 X G B).q2 a (pv 1) ((qL X G B).q2 a (pv 2) (pv 0))) AK)) AH)) (λ_ _ _ _=>(pv 0))))))))
end
def all_mk {l:W.OpenLaw} {w:World} {h:Heap} {m:d8} {q:Addr} (X:(hp w.params).In h) (G:h.Ns mainGlobals m) (o:m "law" = ↥q)
  : ∃ r:FuncData,(∀ (s:Shared) (v:Value),BindsTo s r ⟨[v],[]⟩ [("_law_script", v)])/\∀ d:Heap,(hp w.params).In d->d.Ns mainGlobals m->FnOk l.prog w (hp w.params) m d aF 10 q r ["_law_script"] (Jt (hp w.params)):=by
 let e:=o.symm.trans (W.mg_of X G (n := "law") (v:=.ref 375) (by kernel_rfl));cases e;let a:GP (hp w.params)=15:=by kernel_rfl
 let b:∀ H:Hp,SqT (hp w.params) H (GP (hp w.params)) (exps.map λe:Nat=>V.int (e:Int)):=λH=>.inr {9,_,(show (hp w.params).lookup (GP (hp w.params))=some {.type "tuple", none,.seq #[(.int 61 189),(.int 127 190),(.int 521 191),(.int 1279 192),(.int 4423 193),(.int 9941 194),(.int 21701 195),(.int 44497 196)] 0,#[]} by rw [a];kernel_rfl),7,by show 8<=sizeLine;rw [sizeLine_eq];decide,.cons ⟨_,rfl⟩ (.cons ⟨_,rfl⟩ (.cons ⟨_,rfl⟩ (.cons ⟨_,rfl⟩ (.cons ⟨_,rfl⟩ (.cons ⟨_,rfl⟩ (.cons ⟨_,rfl⟩ (.cons ⟨_,rfl⟩ (.nil))))))))};let B:Bl (hp w.params) m:={W.mg_none_of X G (by kernel_rfl),W.mg_none_of X G (by kernel_rfl),W.mg_none_of X G (by kernel_rfl),W.mg_none_of X G (by kernel_rfl),W.mg_none_of X G (by kernel_rfl),W.mg_none_of X G (by kernel_rfl),W.mg_none_of X G (by kernel_rfl),W.mg_none_of X G (by kernel_rfl),W.mg_none_of X G (by kernel_rfl),by rw [a];exact W.mg_of X G (by kernel_rfl),W.mg_none_of X G (by kernel_rfl),W.mg_none_of X G (by kernel_rfl),W.mg_none_of X G (by kernel_rfl),W.mg_none_of X G (by kernel_rfl),W.mg_none_of X G (by kernel_rfl),W.mg_none_of X G (by kernel_rfl),W.mg_none_of X G (by kernel_rfl),W.mg_none_of X G (by kernel_rfl),b};let u:=NT (K:=hp w.params) (st:=JQ) (f:=375) (c:=374) (n := "law") (pm:=Sr) (by kernel_rfl) (by kernel_rfl) (by kernel_rfl);refine {W.fnOf "law" "law" (En JQ) (EE JQ) (C6 JQ) .none .none .none Sr none (.ref 374) .none,λs v=>.of_eq rfl,λd KB _=>?_};exact K_ u (qD ) λk g x p=>(AG (C' g ((qQ X G B).q1 k (pv 0))) (AG (DF ((pA X G B).q1 k (pv 1)) (EW rfl (CT (Af (i:=2) g rfl li) (CT (Af (i:=3) g rfl li) ES)))) (AG (JI (i:=4) (j:=5) rfl g rfl rfl `b rfl rfl (AD ((Tw X G B).q2 k (pv 1) (pv 2)) (AD ((Tw X G B).q2 k (pv 1) (pv 3)) AK)) rfl) (AG (C' g (A6 AK)) (AG (Bu PassesOwn.never rfl (BY (pv 2)) (Af (i:=7) g rfl (Or.inr rfl)) (AQ (C' g (AM JP (pv 6) (CG (N:=["_law_other","_law_one"]) (capt:=[none,some 7]) (xo:=none) rfl (BlkOk1.of rfl rfl (λ_=>{2,λ_=>rfl}) rfl (Bt.mpr rfl) rfl rfl rfl) (BY (pv 3)) (λ_ _ _ _=>(Af (i:=0) (show (["_law_other","_law_one"]:dd).Nodup by decide +kernel) rfl li)) (λ_ _ _ _=>((qY X G B).q2 k (pv 1) (pv 0)))))))) (AG (C' g (XN rfl B.sorted rfl B.set rfl (AD (Jb (N:=["_law_h"]) (capt:=[none]) (xo:=none) rfl (BlkOk1.of rfl rfl (λ_=>{2,λ_=>rfl}) rfl (λ_ h=>nomatch h) rfl rfl rfl) (BY (pv 6)) (λ_ _ _ _=>(Af (i:=0) (show (["_law_h"]:dd).Nodup by decide +kernel) rfl li)) (λ_ _ _ _=>(cR Nt (pv 0) EO)) (λ_ _ _ _=>(pv 0))) AK))) (AG (C' g ((NZ X G B).q2 k (pv 4) (pv 5))) (AG (BN (PW.pt (He (Fz (FU (Ad WN rfl B.isinstance OI (AD (pv 9) (AD (Nf rfl B.list GA rfl) AK))))) (He (cR (K7 p) (pv 9) (pv 8)) (JG (Fz (FU (Ad (WQ rfl) rfl B.all V6 (AD (CG (N:=["_law_h"]) (capt:=[none]) (xo:=none) rfl (BlkOk1.of rfl rfl (λ_=>{2,λ_=>rfl}) rfl (λ_ h=>nomatch h) rfl rfl rfl) (BY (pv 9)) (λ_ _ _ _=>(Af (i:=0) (show (["_law_h"]:dd).Nodup by decide +kernel) rfl li)) (λ_ _ _ _=>(Ad Wk rfl B.isinstance OI (AD (pv 0) (AD (Nf rfl B.int K4 rfl) AK))))) AK)))))))) (AQ (Ac JE)) BM) (AG (Em (E8 bQ bR cL F6 (pv 9) (AD AH AK))) (AQ (Ac (Nh (Gm (OO p) ((NZ X G B).q2 k (pv 4) (pv 5)) (pv 8) (Q_ _)) (Ng (Gm (OO p) ((NZ X G B).q2 k (pv 5) (pv 4)) (CG (N:=["_law_h"]) (capt:=[none]) (xo:=none) rfl (BlkOk1.of rfl rfl (λ_=>{2,λ_=>rfl}) rfl (λ_ h=>nomatch h) rfl rfl rfl) (OS rfl B.reversed (AD (pv 8) AK)) (λ_ _ _ _=>(Af (i:=0) (show (["_law_h"]:dd).Nodup by decide +kernel) rfl li)) (λ_ _ _ _=>(Bx By (pv 0)))) (Q_ _)))))))))))))))
def row_said {l:W.OpenLaw} (h:l.wellSaid=true):l.row.wellSaid=true:=by
 unfold W.OpenLaw.wellSaid at h;simp only [Bool.and_eq_true] at h;exact h.1.1.1.1.1.1.1.1.1.1.1.1.1.1.1.1.1.1
def walk {l:W.OpenLaw} {q:Program} {loose:dd} {XP:(d8)->Heap->Prop} {YP:World->Heap->Prop} {d:DefRec} {K:Params->W.Frag} (j:l.most=some 63) (e:d.params.defaults=[]) (m:importsNone q=true) (o:∀ w,(model l.prog w).prog.given.tree=none)
  (p:∀ (w:World) (h:Heap),YP w h->(K w.params).In h)
  (F:∀ (w:World) (c:d8) (g:Addr) (h:Heap),(K w.params).In h->h.Ns mainGlobals c->c d.name=↥g->
   ∃ i:FuncData,(∀ (s:Shared) (u:Value),BindsTo s i ⟨[u],[]⟩ [("_law_script", u)])/\∀ b:Heap,(K w.params).In b->b.Ns mainGlobals c->FnOk l.prog w (K w.params) c b aF 10 g i ["_law_script"] (Jt (K w.params))) :
  W.WalkO q loose XP YP l.row.toRowW d [] (λf r=>PySem.call f r):=
 L2.walk_of (n:=63) (k:=10) (x := "_law_script") (CX:=λ_=>aF) (sp:=λw=>Jt (K w.params)) j `b e m o {2,`b,`b} p F (λ_ _ a v y _ A=>{a,v,2,A,y,λ_=>rfl}) λ_ _ _ _ _ z=>z
end Bs
open PySem PySem.W PyProof.Rows
set_option maxRecDepth 100000 in
set_option maxHeartbeats 0 in
theorem PySem.Challenge.cw_backslope_k19_factors_that_meet_holds : PySem.Challenge.rw_backslope_k19_factors_that_meet.Holds := by
  let a : PySem.Challenge.rw_backslope_k19_factors_that_meet.wellSaid = true := Bs.Hd.sd;refine {a, ?_};refine W.holds_open (q := Bs.Hd.vw) (loose := Bs.Hd.lo) (Xt := fun s => W.xlAt Bs.Hd.vw [] s && W.recOk (W.RowW.records (W.OpenRow.toRowW (W.OpenLaw.row PySem.Challenge.rw_backslope_k19_factors_that_meet))) s) (XP := W.XL Bs.Hd.vw []) (Yf := Bs.Hd.hk.obs) (Ya := Bs.Hd.hk.val) (YP := Bs.Hd.hk.says) (N := 3734) Bs.Hd.left Bs.Hd.hk.of Bs.Hd.hk.keeps (fun s e => W.xl_of s (Bool.and_eq_true_iff.mp e).1) W.XL.keeps (by rfl) (by rfl) (by rfl) (fun s e => W.recFacts_of (Bool.and_eq_true_iff.mp e).2) (by rfl) (Bs.row_said a) (by decide +kernel) {7,7,2, by decide +kernel} ?hw ?hc
  case hw => w_witness2
  case hc => exact Bs.walk (l := PySem.Challenge.rw_backslope_k19_factors_that_meet) (K := Bs.Hd.hp) rfl rfl (by decide +kernel) (fun _ => rfl) (fun w h Y => Y) (fun w d f h c G b => Bs.all_mk c G b)
#print axioms PySem.Challenge.cw_backslope_k19_factors_that_meet_holds


