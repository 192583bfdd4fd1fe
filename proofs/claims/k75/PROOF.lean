import PyProof.Rows.All
import Wide.All
import OpenK.AllK
import Wide.FinOn
import Lean
import PyProof.EqAt
import PyProof.EqKinds
import PyProof.TupleCall
import PySem.Challenge.RW_backslope_k75_worth_at_a_place
local macro_rules | `(()) => `(by grind)
local macro_rules | `(tactic| ext) => `(tactic| grind)
local macro_rules | `(⋯) => `(by omega)
local macro_rules | `(`a) => `(by omega)
local macro_rules | `(∅) => `(by decide)
local macro_rules | `(`b) => `(by decide)
local macro_rules | `(↑$x) => `(($x).length)
local macro_rules | `($x ^^^ $y) => `($x = some (.lst $y))
local macro_rules | `($x &&& $y) => `($x = some (.tup $y))
local macro_rules (kind := «term{_}») | s => do
  let mut o : Array (Lean.TSyntax `term) := #[]
  for e in (⟨s[1].getArgs⟩ : Lean.Syntax.TSepArray `term ",").getElems do
    match e.raw.isNatLit?.bind fun n => ["","_r","r","__rr","_r_r","____rr","__r","rr","_r__rr","__"][n]? with
    | some "" | none => o := o.push e
    | some w => for c in w.toList do o := o.push (<-if c == '_' then `(_) else `(rfl))
  `(⟨$[$o],*⟩)
local macro_rules | `(↥$x) => `(some (.ref $x))
local macro_rules | `(⇑$x) => `(($x).heap.objs.size)
local macro_rules | `(~~~$x) => `(($x).map $(Lean.mkIdent `L2.V.int))
def rP:Nat->Lean.Syntax->Lean.MacroM (Lean.TSyntax `rcasesPat)
 | 0,_=>Lean.Macro.throwUnsupported
 | n+1,s=>do
  let s:=if s.isOfKind Lean.choiceKind then (s.getArgs.find? (·.isOfKind `«term{_}»)).getD s else s
  if s.isOfKind `«term{_}» then
   let l<-(⟨s[1].getArgs⟩:Lean.Syntax.TSepArray `term ",").getElems.mapM (rP n ·)
   return (<-`(rcasesPat| ⟨$[$l:rcasesPat],*⟩))
  match s with
  | `(⟨$xs,*⟩)=>do
    let l<-xs.getElems.mapM (rP n ·)
    `(rcasesPat| ⟨$[$l:rcasesPat],*⟩)
  | `(_)=>`(rcasesPat| _)
  | `($i:ident)=>`(rcasesPat| $i:ident)
  | _=>Lean.Macro.throwUnsupported
local macro_rules
| `(tactic| let $x:ident := $e)=>`(tactic| have $x:ident := $e)
| `(tactic| let $x:ident : $t := $e)=>`(tactic| have $x:ident : $t := $e)
| `(tactic| let $p:term := $e)=>do `(tactic| obtain $(<-rP 9 p):rcasesPat := $e)
| `(tactic| let $p:term : $t := $e)=>do `(tactic| obtain $(<-rP 9 p):rcasesPat : $t := $e)
local macro_rules | `(@$x:ident) => do
  match x.getId with
  | .str .anonymous s => if s.length ≤ 2 && !(["dK","dT"] : List String).contains s then `(($x).length) else Lean.Macro.throwUnsupported
  | _ => Lean.Macro.throwUnsupported
set_option Elab.async false
noncomputable section
set_option maxHeartbeats 4000000
set_option linter.all false
set_option maxRecDepth 100000
def bA:type_of% @PySem.F.plainAttrs_list:=@PySem.F.plainAttrs_list
def bT:type_of% @PySem.F.slot_list_append:=@PySem.F.slot_list_append
def cJ:type_of% @PySem.F.type_list_append:=@PySem.F.type_list_append
def jD:type_of% @if_neg:=@if_neg
def jE:type_of% @if_pos:=@if_pos
def jF:type_of% @decide_eq_true:=@decide_eq_true
def jG:type_of% @of_decide_eq_true:=@of_decide_eq_true
def jH:type_of% @decide_eq_false:=@decide_eq_false
def jI:type_of% @PySem.wpAny_bind:=@PySem.wpAny_bind
def jJ:type_of% @PySem.wpAny_pure:=@PySem.wpAny_pure
def jK:type_of% @PySem.wpAny_mono:=@PySem.wpAny_mono
def jL:type_of% @Option.some.inj:=@Option.some.inj
def jM:type_of% @PySem.Heap.lt_size:=@PySem.Heap.lt_size
def jN:type_of% @congrFun:=@congrFun
def AI:type_of% @List.length_map:=@List.length_map
def AR:type_of% @Int.ne_of_gt:=@Int.ne_of_gt
def AT:type_of% @Nat.le_refl:=@Nat.le_refl
def AU:type_of% @List.getD_eq_getElem?_getD:=@List.getD_eq_getElem?_getD
def Ae:type_of% @List.getElem?_map:=@List.getElem?_map
def Ah:type_of% @Nat.zero_le:=@Nat.zero_le
def Ak:type_of% @List.getElem?_eq_getElem:=@List.getElem?_eq_getElem
def Au:type_of% @List.mem_map:=@List.mem_map
def A6:type_of% @List.mem_cons_of_mem:=@List.mem_cons_of_mem
def A7:type_of% @List.getElem?_eq_some_iff:=@List.getElem?_eq_some_iff
def BC:type_of% @List.mem_cons_self:=@List.mem_cons_self
def BE:type_of% @Int.dvd_trans:=@Int.dvd_trans
def BI:type_of% @List.size_toArray:=@List.size_toArray
def BK:type_of% @Nat.le_trans:=@Nat.le_trans
def BM:type_of% @List.mem_singleton:=@List.mem_singleton
def BT:type_of% @List.mem_of_getElem?:=@List.mem_of_getElem?
def BY:type_of% @Nat.lt_or_ge:=@Nat.lt_or_ge
def BZ:type_of% @List.length_range:=@List.length_range
def Bf:type_of% @List.length_append:=@List.length_append
def Bh:type_of% @List.take_length:=@List.take_length
def Bp:type_of% @Int.natAbs_mul:=@Int.natAbs_mul
def Br:type_of% @List.length_take:=@List.length_take
def Bt:type_of% @Int.mul_pos:=@Int.mul_pos
def By:type_of% @Nat.ne_of_lt:=@Nat.ne_of_lt
def B8:type_of% @List.getElem?_eq_none:=@List.getElem?_eq_none
def B9:type_of% @List.map_append:=@List.map_append
def CA:type_of% @Int.mul_ne_zero:=@Int.mul_ne_zero
def CJ:type_of% @Nat.pow_succ:=@Nat.pow_succ
def CK:type_of% @Int.mul_comm:=@Int.mul_comm
def CM:type_of% @Nat.lt_of_lt_of_le:=@Nat.lt_of_lt_of_le
def CN:type_of% @List.length_pos_iff:=@List.length_pos_iff
def CP:type_of% @List.mem_cons:=@List.mem_cons
def CU:type_of% @List.length_eq_zero_iff:=@List.length_eq_zero_iff
def CV:type_of% @Nat.mul_le_mul_right:=@Nat.mul_le_mul_right
def CZ:type_of% @List.map_cons:=@List.map_cons
def Ca:type_of% @Int.emod_nonneg:=@Int.emod_nonneg
def Cc:type_of% @Int.le_of_lt:=@Int.le_of_lt
def Cd:type_of% @Int.natAbs_dvd_natAbs:=@Int.natAbs_dvd_natAbs
def Cg:type_of% @Bool.false_ne_true:=@Bool.false_ne_true
def Ch:type_of% @List.mem_append_right:=@List.mem_append_right
def Ci:type_of% @Int.emod_lt_of_pos:=@Int.emod_lt_of_pos
def Cj:type_of% @List.length_cons:=@List.length_cons
def Ck:type_of% @Rat.intCast_mul:=@Rat.intCast_mul
def Cu:type_of% @List.getElem_mem:=@List.getElem_mem
def C5:type_of% @List.mem_append:=@List.mem_append
def C6:type_of% @Nat.mul_comm:=@Nat.mul_comm
def C7:type_of% @Int.dvd_add:=@Int.dvd_add
def C8:type_of% @Int.natAbs_natCast:=@Int.natAbs_natCast
def C9:type_of% @Nat.le_of_dvd:=@Nat.le_of_dvd
def DA:type_of% @Int.dvd_zero:=@Int.dvd_zero
def DB:type_of% @Nat.mul_le_mul:=@Nat.mul_le_mul
def DC:type_of% @Int.one_pos:=@Int.one_pos
def DK:type_of% @Int.pow_succ:=@Int.pow_succ
def DL:type_of% @List.forall_mem_singleton:=@List.forall_mem_singleton
def DV:type_of% @Nat.lt_irrefl:=@Nat.lt_irrefl
def DW:type_of% @List.map_map:=@List.map_map
def Dj:type_of% @Int.gcd_dvd_right:=@Int.gcd_dvd_right
def Dk:type_of% @List.getElem?_range:=@List.getElem?_range
def Dv:type_of% @Nat.lt_succ_self:=@Nat.lt_succ_self
def D5:type_of% @List.mem_filter:=@List.mem_filter
def D7:type_of% @List.mem_range:=@List.mem_range
def D8:type_of% @List.pairwise_map:=@List.pairwise_map
def EA:type_of% @Int.natCast_dvd_natCast:=@Int.natCast_dvd_natCast
def EB:type_of% @Int.toNat_natCast:=@Int.toNat_natCast
def EC:type_of% @Int.mul_zero:=@Int.mul_zero
def ED:type_of% @Int.mul_le_mul_of_nonneg_left:=@Int.mul_le_mul_of_nonneg_left
def EN:type_of% @Nat.le_of_lt:=@Nat.le_of_lt
def EO:type_of% @Option.map_eq_some_iff:=@Option.map_eq_some_iff
def EQ:type_of% @Nat.pow_le_pow_right:=@Nat.pow_le_pow_right
def ER:type_of% @Int.gcd_dvd_left:=@Int.gcd_dvd_left
def ES:type_of% @Int.fdiv_eq_ediv_of_nonneg:=@Int.fdiv_eq_ediv_of_nonneg
def ET:type_of% @List.getElem_of_mem:=@List.getElem_of_mem
def EU:type_of% @List.take_add_one:=@List.take_add_one
def EV:type_of% @List.take_zero:=@List.take_zero
def Ei:type_of% @List.mem_append_left:=@List.mem_append_left
def Ej:type_of% @Bool.eq_iff_iff:=@Bool.eq_iff_iff
def Ek:type_of% @Nat.lt_of_le_of_lt:=@Nat.lt_of_le_of_lt
def El:type_of% @Nat.eq_zero_or_pos:=@Nat.eq_zero_or_pos
def Em:type_of% @Nat.mul_le_mul_left:=@Nat.mul_le_mul_left
def En:type_of% @Int.mul_eq_zero:=@Int.mul_eq_zero
def Eo:type_of% @Int.dvd_mul_left:=@Int.dvd_mul_left
def FC:type_of% @List.ext_getElem?:=@List.ext_getElem?
def FD:type_of% @List.zip_cons_cons:=@List.zip_cons_cons
def FE:type_of% @List.map_congr_left:=@List.map_congr_left
def FG:type_of% @Int.mul_ediv_cancel':=@Int.mul_ediv_cancel'
def Fg:type_of% @List.getElem?_replicate:=@List.getElem?_replicate
def Fh:type_of% @List.all_eq_true:=@List.all_eq_true
def Fj:type_of% @List.mem_of_mem_take:=@List.mem_of_mem_take
def Fk:type_of% @Int.dvd_mul_right:=@Int.dvd_mul_right
def Fl:type_of% @Int.dvd_mul_of_dvd_right:=@Int.dvd_mul_of_dvd_right
def GN:type_of% @Int.dvd_mul_of_dvd_left:=@Int.dvd_mul_of_dvd_left
def GO:type_of% @Nat.le_mul_of_pos_left:=@Nat.le_mul_of_pos_left
def GP:type_of% @List.getLast?_eq_getElem?:=@List.getLast?_eq_getElem?
def GS:type_of% @Int.mul_ediv_cancel_left:=@Int.mul_ediv_cancel_left
def GT:type_of% @List.dropLast_concat_getLast:=@List.dropLast_concat_getLast
def HH:type_of% @List.getElem?_append_left:=@List.getElem?_append_left
def HI:type_of% @Int.dvd_of_emod_eq_zero:=@Int.dvd_of_emod_eq_zero
abbrev d6:=List Int
abbrev d7:=List PySem.Value
abbrev d8:=PySem.Value->PySem.Shared->Prop
abbrev dc:=List (PySem.Addr×PySem.Obj)
abbrev de:=PySem.Str->Option PySem.Value
abbrev dh:=List PySem.Expr
abbrev di:=List PySem.Str
abbrev dj:=List PySem.Addr
abbrev dq:=Nat->Int
abbrev dt:=Nat->Rat
namespace L2
open PySem PySem.Spec PyProof.Rows
abbrev P':=Sum Int Str
noncomputable def JW:P'->Value->Bool
 | .inl k,v=>Value.isInt k v
 | .inr x,v=>Value.isStrOf x v
noncomputable def Uz (w:World):P'->Int
 | .inl k=>hashInt k
 | .inr x=>hashStr w x
theorem FH:∀ {k:P'} {v:Value},JW k v=true->(∃ i t,k=Sum.inl i/\v=Value.int i t)\/(∃ x t,k=Sum.inr x/\v=Value.str x t)
 | .inl i,v,h=>by
   let {t,e}:=Value.isInt_shape (k:=i) (v:=v) h;exact .inl ⟨i,t,rfl,e⟩
 | .inr x,v,h=>by
   let {t,e}:=Value.isStrOf_shape (x:=x) (v:=v) h;exact .inr ⟨x,t,rfl,e⟩
def U0 (i:Int) (t:Tok):JW (.inl i) (.int i t)=true:=by simp [JW,Value.isInt]
def U1 (a b:Int):decide ((Sum.inl a:P')=Sum.inl b)=(a == b):=by
 by_cases e:a=b
 .subst e;simp
 .let h:¬ (Sum.inl a:P')=Sum.inl b:=λq=>e (Sum.inl.inj q);rw [jH h];exact (beq_eq_false_iff_ne.mpr e).symm
def U2 (a b:Str):decide ((Sum.inr a:P')=Sum.inr b)=decide (a=b):=by
 by_cases e:a=b
 .subst e;simp
 .let h:¬ (Sum.inr a:P')=Sum.inr b:=λq=>e (Sum.inr.inj q);rw [jH h,jH e]
def U3 (a:Int) (b:Str):decide ((Sum.inl a:P')=Sum.inr b)=false:=jH (λq=>nomatch q)
def U4 (a:Str) (b:Int):decide ((Sum.inr a:P')=Sum.inl b)=false:=jH (λq=>nomatch q)
noncomputable def Ep (prog:Program) (w:World):PySem.KeyKind prog w P' where
 is:=JW
 hash:=Uz w
 inj:=λv a b g f=>by
  rcases FH g with ⟨i,t,rfl,rfl⟩ | ⟨x,t,rfl,rfl⟩
  .rcases FH f with ⟨j,u,rfl,e⟩ | ⟨y,u,rfl,e⟩
   .injection e with c _;rw [c]
   .exact nomatch e
  .rcases FH f with ⟨j,u,rfl,e⟩ | ⟨y,u,rfl,e⟩
   .exact nomatch e
   .injection e with c _;rw [c]
 byValue:=λk v h=>by
  rcases FH h with ⟨i,t,rfl,rfl⟩ | ⟨x,t,rfl,rfl⟩ <;> rfl
 pyHash:=λd h=>by
  rcases FH d with ⟨i,t,rfl,rfl⟩ | ⟨x,t,rfl,rfl⟩
  .exact wpAny_pyHash_int h
  .exact wpAny_pyHash_str h
 eqBool:=λm d h=>by
  rcases FH m with ⟨i,t,rfl,rfl⟩ | ⟨x,t,rfl,rfl⟩
  .rcases FH d with ⟨j,u,rfl,rfl⟩ | ⟨y,u,rfl,rfl⟩
   .rw [U1] at h;exact wpAny_eqBool_int h
   .rw [U3] at h;exact SeqAt.EqAt.int_str i t y u _ _ _ _ h
  .rcases FH d with ⟨j,u,rfl,rfl⟩ | ⟨y,u,rfl,rfl⟩
   .rw [U4] at h;exact SeqAt.EqAt.str_int x t j u _ _ _ _ h
   .rw [U2] at h;exact wpAny_eqBool_str h
 «strs»:=λk x t v h=>by
  rcases FH h with ⟨i,u,rfl,e⟩ | ⟨y,u,rfl,e⟩
  .exact nomatch e
  .injection e with c _
   subst c
   cases v <;> rfl
def NR (prog:Program) (w:World) (i:Int) (t:Tok):(Ep prog w).is (.inl i) (.int i t)=true:=U0 i t
inductive V where
 | non | bl (b:Bool) | int (i:Int) | str (x:Str) | byt (b:Array UInt8) | flt (b:UInt64) | ref (a:Addr) | ty (n:String)
 deriving DecidableEq
noncomputable def RelV:V->Value->Prop
 | .non,u=>u=Value.none
 | .bl b,u=>u=Value.bool b
 | .int i,u=>∃ t,u=Value.int i t
 | .str x,u=>∃ t,u=Value.str x t
 | .byt b,u=>∃ t,u=Value.bytes b t
 | .flt b,u=>∃ t,u=Value.float b t
 | .ref a,u=>u=Value.ref a
 | .ty n,u=>u=Value.type n
abbrev Vals:List V->d7->Prop:=Paired RelV
def Vals.length {xs:List V} {a:d7} (r:Vals xs a):@xs=@a:=Paired.length r
theorem Vals.get:∀ {xs:List V} {a:d7} {i:Nat} {x:V},Vals xs a->xs[i]?=some x->∃ u,a[i]?=some u/\RelV x u
 | _,_,_,_,.nil,e=>by simp at e
 | _,_,0,_,.cons r _,e=>by simp at e;subst e;exact {1,r}
 | _,_,i+1,x,.cons _ t,e=>by
   let {u,b,c}:=Vals.get (i:=i) (x:=x) t (by simpa using e);exact {u,by simpa using b,c}
theorem Vals.set {x:V} {u:Value} (r:RelV x u):∀ {xs:List V} {a:d7} (i:Nat),Vals xs a->Vals (xs.set i x) (a.set i u)
 | _,_,_,.nil=>.nil
 | _,_,0,.cons _ t=>.cons r t
 | _,_,i+1,.cons q t=>.cons q (Vals.set r i t)
theorem Vals.append:∀ {xs ys:List V} {a b:d7},Vals xs a->Vals ys b->Vals (xs++ys) (a++b)
 | _,_,_,_,.nil,s=>s
 | _,_,_,_,.cons r t,s=>.cons r (Vals.append t s)
theorem Vals.take:∀ {xs:List V} {a:d7} (n:Nat),Vals xs a->Vals (xs.take n) (a.take n)
 | _,_,0,_=>.nil
 | _,_,_+1,.nil=>.nil
 | _,_,n+1,.cons r t=>.cons r (Vals.take n t)
theorem Vals.drop:∀ {xs:List V} {a:d7} (n:Nat),Vals xs a->Vals (xs.drop n) (a.drop n)
 | _,_,0,r=>r
 | _,_,_+1,.nil=>.nil
 | _,_,n+1,.cons _ t=>Vals.drop n t
noncomputable def K4:Option V->Option Value->Prop
 | some v,some u=>RelV v u
 | none,none=>True
 | _,_=>False
def KV {a:Type}:List (a×V)->List (a×Value)->Prop:=Paired λ(p:a×V) (q:a×Value)=>p.1=q.1/\RelV p.2 q.2
noncomputable def kV:P'->V
 | .inl i=>.int i
 | .inr x=>.str x
inductive HO where

 | lst (xs:List V)

 | tup (xs:List V)

 | dK (kvs:List (P'×V)) | dT (kvs:List (List P'×V))

 | set (S:Int->Bool) (n:Nat)

 | ins (C dx:Addr) (fs:List (Str×V))

 | own (x:Addr)

 | xd (fs:List (Str×V))

 | met (f x:Addr)

 | rng (lo hi:Int)

 | frz (o:Obj) (u:HO)

 | tbl (ps:Array Value)

 | ext (φ:Heap->Prop)
abbrev Hp:=Addr->Option HO
abbrev c_:=Option V
abbrev cZ:=List V
noncomputable def upd (H:Hp) (a:Addr) (o:HO):Hp:=λb=>if b=a then some o else H b
def upd_same {H:Hp} {a:Addr} {o:HO}:upd H a o a=some o:=by unfold upd;rw [jE rfl]
def AX {H:Hp} {a b:Addr} {o:HO} (h:b≠a):upd H a o b=H b:=by unfold upd;rw [jD h]
def FI {H:Hp} {a b:Addr} {o u:HO} (h:H a=some o) (h':H b=some u) (d:o≠u):a≠b:=by
 intro e;subst e;rw [h] at h';exact d (jL h')
def A3 {H:Hp} {a b:Addr} {o:HO} (h:H a=some o) (h':H b=none):a≠b:=by
 intro e;subst e;rw [h] at h';cases h'
section
variable (P:Program) (w:World)
noncomputable def ObjOk (H:Hp) (h:Heap) (a:Addr):HO->Prop
 | .lst c=>@c<=sizeLine/\∃ (its:d7) (n:Nat),Vals c its/\h.get? a=some { cls:=.type "list", data:=.seq its.toArray n }
 | .tup c=>@c<=sizeLine/\∃ its:d7,Vals c its/\IsTup h a its.toArray
 | .dK b=>@b<=sizeLine/\(a == sysModules)=false/\∃ j,KV b j/\h.DictOf (Ep P w) a j
 | .dT b=>@b<=sizeLine/\(a == sysModules)=false/\∃ c:List (List P'×Addr×Value),
   Paired (λ(p:List P'×V) (q:List P'×Addr×Value)=>p.1=q.1/\H q.2.1&&&(p.1.map kV)/\RelV p.2 q.2.2) b c/\
   ∃ o k y,h.get? a=some o/\o.ExactDict/\o.data=.dict k y/\k.toList=c.map (entryOfKey (tupleKind (Ep P w)))/\(c.map (·.1)).Nodup
 | .set S n=>h.SetOf (intKind P w) a S n
 | .ins C g e=>H g=some (.own a)/\@e<=1000/\g≠a/\h.get? a=some (W.instObj C g)/\
   ∃ d,h.Ns1 g d/\(∀ f,K4 (e.lookup f) (d f))/\PySem.Within d (e.map (·.1))
 | .own _=>∃ o,h.get? a=some o
 | .xd e=>∃ d,h.Ns1 a d/\∀ f,K4 (e.lookup f) (d f)
 | .rng lo z=>∃ t u v,h.get? a=some { cls:=.type "range", data:=.fields #[.int lo t,.int z u,.int 1 v] }
 | .frz o u=>h.get? a=some o/\ObjOk H h a u
 | .tbl ps=>h.get? a=some { cls:=.none,data:=.fields ps }
 | .met f x=>h.get? a=some (W.methodObj (.ref f) (.ref x))
 | .ext i=>i h/\(∃ o,h.get? a=some o)/\∀ m r:Heap,i m->(∀ o,m.get? a=some o->r.get? a=some o)->i r
def HOk (H:Hp) (h:Heap):Prop:=∀ a o,H a=some o->ObjOk P w H h a o
end
section
variable {P:Program} {w:World} {H H':Hp} {h h':Heap} {a:Addr} {o:HO}
theorem ObjOk.lt (x:ObjOk P w H h a o):a<h.objs.size:=by
 cases o with
 | lst c=>let ⟨_,_,_,_,e⟩:=x;exact jM e
 | tup c=>let ⟨_,_,_,p⟩:=x;exact p.lt
 | dK b=>let ⟨_,_,_,_,o,_,_,e,_⟩:=x;exact jM e
 | dT b=>let ⟨_,_,_,_,o,_,_,e,_⟩:=x;exact jM e
 | set S n=>let ⟨o,_,_,_,e,_⟩:=x;exact jM e
 | ins C g d=>let ⟨_,_,_,e,_⟩:=x;exact jM e
 | own y=>let ⟨_,e⟩:=x;exact jM e
 | xd d=>let ⟨_,⟨_,_,_,e,_⟩,_⟩:=x;exact jM e
 | rng lo i=>let ⟨_,_,_,e⟩:=x;exact jM e
 | frz j u=>let ⟨e,_⟩:=x;exact jM e
 | tbl ps=>exact jM (show h.get? a=some _ from x)
 | met f y=>exact jM (show h.get? a=some _ from x)
 | ext k=>let ⟨_,⟨_,e⟩,_⟩:=x;exact jM e
theorem Paired.mapP {e g:Type} {F G:e->g->Prop}:∀ {c:List e} {d:List g},Paired F c d->(∀ a b,F a b->G a b)->Paired G c d
 | _,_,.nil,_=>.nil
 | _,_,.cons r t,f=>.cons (f _ _ r) (Paired.mapP t f)
theorem ObjOk.stay (x:ObjOk P w H h a o) (k:∀ b u,(b=a\/H b=some (.own a))->h.get? b=some u->h'.get? b=some u)
  (G:∀ b,H b=some (.own a)->H' b=some (.own a)) (I:∀ b A,H b&&&A->H' b&&&A):ObjOk P w H' h' a o:=by
 induction o with
 | lst A=>let ⟨z,m,n,r,e⟩:=x;exact {z,m,n,r,k _ _ (.inl rfl) e}
 | tup A=>let ⟨z,m,r,g,e,c⟩:=x;exact {z,m,r,g,k _ _ (.inl rfl) e,c}
 | dK B=>let ⟨z,y,J,r,g,i,j,e,c⟩:=x;exact {z,y,J,r,g,i,j,k _ _ (.inl rfl) e,c}
 | dT B=>
   let {z,y,A,r,g,i,j,e,c}:=x;exact {z,y,A,Paired.mapP r λp q z=>{z.1,I _ _ z.2.1,z.2.2},g,i,j,k _ _ (.inl rfl) e,c}
 | set S n=>let ⟨g,i,j,t,e,c⟩:=x;exact {g,i,j,t,k _ _ (.inl rfl) e,c}
 | ins C O K=>
   let {d,z,L,e,D,{E,i,j,M,c},r}:=x;exact {G _ d,z,L,k _ _ (.inl rfl) e,D,{E,i,j,k _ _ (.inr d) M,c},r}
 | own y=>let ⟨g,e⟩:=x;exact {g,k _ _ (.inl rfl) e}
 | xd K=>let ⟨D,⟨E,i,j,e,c⟩,r⟩:=x;exact {D,{E,i,j,k _ _ (.inl rfl) e,c},r}
 | rng lo Q=>let ⟨t,u,v,e⟩:=x;exact {t,u,v,k _ _ (.inl rfl) e}
 | frz g u N=>let ⟨e,q⟩:=x;exact {k _ _ (.inl rfl) e,N q}
 | tbl ps=>
   let e:h.get? a=some { cls:=.none,data:=.fields ps }:=x;show h'.get? a=some { cls:=.none,data:=.fields ps };exact k a _ (.inl rfl) e
 | met f y=>
   let e:h.get? a=some (W.methodObj (.ref f) (.ref y)):=x;show h'.get? a=some (W.methodObj (.ref f) (.ref y));exact k a _ (.inl rfl) e
 | ext R=>let ⟨p,⟨o,e⟩,F⟩:=x;exact {F _ _ p λo q=>k _ _ (.inl rfl) q,{o,k _ _ (.inl rfl) e},F}
def HOk.lt (x:HOk P w H h) (e:H a=some o):a<h.objs.size:=(x a o e).lt
theorem HOk.fresh (x:HOk P w H h) (e:h.objs.size<=a):H a=none:=by
 cases q:H a with
 | none=>rfl
 | some u=>exact absurd (CM (x.lt q) e) (DV _)
def HOk.kept (x:HOk P w H h) (k:∀ b u,h.get? b=some u->h'.get? b=some u):HOk P w H h':=λa o e=>
 (x a o e).stay (λb u _ q=>k b u q) (λ_ q=>q) λ_ _ q=>q
def HOk.laid (x:HOk P w H h) (k:∀ b u,h.get? b=some u->h'.get? b=some u) (hp:h.objs.size<=a) (d:ObjOk P w (upd H a o) h' a o):HOk P w (upd H a o) h':=λb u e=>by
 let f:=x.fresh hp;by_cases g:b=a
 .subst g;rw [upd_same] at e;cases e;exact d
 .rw [AX g] at e;exact (x b u e).stay (λc v _ q=>k c v q) (λc q=>by rw [AX (A3 q f)];exact q) λc i q=>by rw [AX (A3 q f)];exact q
end
def Rd (H:Hp) (a:Addr) (u:HO):Prop:=H a=some u\/∃ o,H a=some (.frz o u)
def Rd.ok {P:Program} {w:World} {H:Hp} {h:Heap} {a:Addr} {u:HO} (r:Rd H a u) (x:HOk P w H h):ObjOk P w H h a u:=by
 rcases r with r | ⟨o,r⟩
 .exact x a u r
 .let {_,q}:=x a _ r;exact q
noncomputable def ci:Option HO->Prop
 | some (.lst _)=>True
 | some (.dK _)=>True
 | some (.dT _)=>True
 | some (.set _ _)=>True
 | some (.ins _ _ _)=>True
 | some (.ext _)=>True
 | _=>False
section
variable {P:Program} {w:World} {H:Hp} {h h':Heap} {x e:Addr} {o':HO}
def HOk.write (ok:HOk P w H h) (g:ci (H x)) (p:e=x\/H e=some (.own x)) (k:∀ b u,b≠e->h.get? b=some u->h'.get? b=some u) (n:∃ u,h'.get? e=some u)
  (o:ObjOk P w (upd H x o') h' x o'):HOk P w (upd H x o') h':=λb u q=>by
 let d:∀ c y,H c=some (.own y)->c≠x:=λc y r z=>by subst z;rw [r] at g;exact g
 let f:∀ c i,H c&&&i->c≠x:=λc i r z=>by subst z;rw [r] at g;exact g
 by_cases j:b=x
 .subst j;rw [upd_same] at q;cases q;exact o
 .rw [AX j] at q;by_cases a:b=e
  .let A:H b=some (.own x):=by
    rcases p with z | z
    .exact absurd (a.trans z) j
    .rw [a];exact z
   rw [q] at A;cases A;let {v,B}:=n;exact {v,by rw [a];exact B}
  .refine (ok b u q).stay (λc v m r=>k c v ?_ r) (λc r=>by rw [AX (d c b r)];exact r) λc i r=>by rw [AX (f c i r)];exact r
   rcases m with rfl | m
   .exact a
   .rintro rfl;rcases p with z | z
    .exact d c b m z
    .rw [m] at z;cases z;exact j rfl
end
structure Un (fs ex:dj) (H H':Hp) (h h':Heap):Prop where
 keep:∀ b o,h.get? b=some o->H b=none->b∉fs->b∉ex->h'.get? b=some o
 slot:∀ b o,h.get? b=some o->H b=none->b∈fs->b∉ex->∃ sl,h'.get? b=some { o with slots:=sl }
 free:∀ b o,h.get? b=some o->H b=none->b∉ex->H' b=none
 there:∀ b o,h.get? b=some o->b∉ex->∃ o',h'.get? b=some o'
 tups:∀ b xs,H b&&&xs->H' b&&&xs
 frzs:∀ b o u,H b=some (.frz o u)->H' b=some (.frz o u)
 tbls:∀ b ps,H b=some (.tbl ps)->∃ more,H' b=some (.tbl (ps++more))
section
variable {fs fs' ex ex':dj} {H H1 H2:Hp} {h h1 h2 h':Heap} {a x e:Addr} {o:HO}
def Un.any (u:Un fs ex H H1 h h1) {b:Addr} {c:Obj} (q:h.get? b=some c) (n:H b=none) (f:b∉ex):∃ i,h1.get? b=some { c with slots:=i }:=by
 by_cases g:b∈fs
 .exact u.slot b c q n g f
 .exact {c.slots,u.keep b c q n g f}
def Un.kept (k:∀ b u,h.get? b=some u->h'.get? b=some u):Un fs ex H H h h':=
 {λb c q _ _ _=>k b c q,λb c q _ _ _=>{c.slots,k b c q},λ_ _ _ n _=>n,λb c q _=>{c,k b c q},λ_ _ q=>q,λ_ _ _ q=>q,λ_ ps q=>{#[],by rw [q];simp}}
def Un.refl:Un fs ex H H h h:=Un.kept λ_ _ q=>q
def Un.laid (k:∀ b u,h.get? b=some u->h'.get? b=some u) (hp:h.objs.size<=a) (c:H a=none):Un fs ex H (upd H a o) h h' where
 keep:=λb u q _ _ _=>k b u q
 slot:=λb u q _ _ _=>{u.slots,k b u q}
 free:=λb u q n _=>by rw [AX (By (CM (jM q) hp))];exact n
 there:=λb u q _=>{u,k b u q}
 tups:=λb d q=>by rw [AX (A3 q c)];exact q
 frzs:=λb u d q=>by rw [AX (A3 q c)];exact q
 tbls:=λb ps q=>{#[],by rw [AX (A3 q c),q];simp}
def Un.write (d:ci (H x)) (m:e=x\/H e=some (.own x)) (k:∀ b u,b≠e->h.get? b=some u->h'.get? b=some u) (f:∃ u,h'.get? e=some u):Un fs ex H (upd H x o) h h':=by
 let i:∀ b,H b=none->b≠x:=λb n z=>by subst z;rw [n] at d;exact d
 let j:∀ b,H b=none->b≠e:=λb n z=>by
  subst z;rcases m with r | r
  .exact i b n r
  .rw [n] at r;cases r
 let g:∀ b u,H b=some u->¬ ci (some u)->b≠x:=λb u q p z=>by subst z;rw [q] at d;exact p d
 refine {λb u q n _ _=>k b u (j b n) q,λb u q n _ _=>{u.slots,k b u (j b n) q},λb u q n _=>by rw [AX (i b n)];exact n,λb u q _=>?_,
  λb v q=>by rw [AX (g b _ q λz=>z)];exact q,λb u v q=>by rw [AX (g b _ q λz=>z)];exact q,λb ps q=>{#[],by rw [AX (g b _ q λz=>z),q];simp}}
 by_cases c:b=e
 .subst c;exact f
 .exact {u,k b u c q}
end
noncomputable def cj (h:Heap) (H:Hp):dj:=(List.range h.objs.size).filter λa=>(H a).isSome
noncomputable def Er (h:Heap) (H:Hp):Heap:=W.hideAll h (cj h H)
def U5 (h:Heap) (H:Hp):(Er h H).objs.size=h.objs.size:=W.hideAll_size _ _
def U6 {h:Heap} {H:Hp} {b:Addr} {o:Obj} (e:h.get? b=some o) (n:H b=none):(Er h H).get? b=some o:=
 W.hideAll_get _ e λa=>by
  let q:(H b).isSome=true:=(D5.mp a).2;rw [n] at q;simp at q
theorem U7 {h:Heap} {H:Hp} {b:Addr} {o:Obj} (e:(Er h H).get? b=some o):h.get? b=some o/\H b=none:=by
 let a:h.get? b=some o:=W.of_hideAll (cj h H) e;refine {a,?_};cases q:H b with
 | none=>rfl
 | some x=>
   let c:b∈cj h H:=D5.mpr {D7.mpr (jM a),by simp [q]};let z:(Er h H).get? b=none:=W.hideAll_none (cj h H) c;rw [z] at e;cases e
noncomputable def U8 (g h:Heap) (L:Addr):dc:=(List.range h.objs.size).filterMap λa=>if a=L\/(g.get? a).isSome=true then none else (h.get? a).map λo=>(a,o)
noncomputable def rest (g h:Heap) (L d:Addr):dc:=(U8 g h L).filter λp=>decide (p.1≠d)
structure Mod (K:W.Frag) (mg:de) (base:Heap):Prop where
 kin:K.In base
 glob:base.Ns mainGlobals mg
 blt:∃ mb,base.Ns builtinsNs mb/\∀ x:Str,x ≠ "__name__" -> mb x=bootBuiltins x
 nolimit:base.NoLimit
structure Cx where
 prog:Program
 w:World
 K:W.Frag
 mg:de
 base:Heap
 A:Around
 N:di
 s₀:Shared
 H₀:Hp
 env:Env
 outer:List Env
 stack:List Env
 ex:dj
 fn:Str->Bool
 calm:Bool
 pn:dc
 xe:d8
noncomputable def aA (l:List Env):dj:=l.filterMap (·.frame)
abbrev Cx.fs (X:Cx):dj:=aA X.outer
def bU (a:Scope) (x:Str):Prop:=a.names.lookup x=some .local\/a.names.lookup x=some .cell\/a.names.lookup x=some .free
def aY (a:Scope) (x:Str):Prop:=a.names.lookup x=some .local\/a.names.lookup x=some .cell
def bV (a:Env) (h:Heap) (m:de) (x:Str) (u:Value):Prop:=
 (a.kindOf x=some .local/\m x=some u)\/((a.kindOf x=some .cell\/a.kindOf x=some .free)/\∃ c,a.cells.lookup x=some c/\h.IsCell c (some u))
structure Cx.Ok (X:Cx):Prop where
 mod:Mod X.K X.mg X.base
 kind:X.env.scope.kind=.function
 glob:X.env.globals=mainGlobals
 blt:X.env.builtins=builtinsNs
 above:X.s₀.heap.objs.size<=X.env.locals
 inj:∀ x y c,X.env.cells.lookup x=some c->X.env.cells.lookup y=some c->x=y
 has:∀ x,(X.env.kindOf x=some .cell\/X.env.kindOf x=some .free)->∃ c,X.env.cells.lookup x=some c
 cab:∀ x c,X.fn x=true->X.env.cells.lookup x=some c->X.s₀.heap.objs.size<=c
 hd:X.calm=true->X.A.handled=none
 frames:X.A.frames=some X.stack
 stk:X.stack=X.outer\/(X.stack=X.env::X.outer/\X.env.frame=some X.env.locals)
 exf:∀ b∈X.ex,b≠X.env.locals/\∀ x c,X.env.cells.lookup x=some c->c≠b
 bs:∀ b o,X.base.get? b=some o->X.s₀.heap.get? b=some o/\X.H₀ b=none
 bsz:X.base.objs.size<=X.s₀.heap.objs.size
 noex:∀ b o,X.base.get? b=some o->b∉X.ex
 exfs:∀ b∈X.ex,b∉X.fs
 funs:X.s₀.heap.FunFrames X.base X.outer
 frf:∀ b∈X.fs,X.H₀ b=none
 seer:X.base.NoSeer
 tree:(model X.prog X.w).prog.given.tree=none
 plr:∀ s:Shared,(∀ b o,X.base.get? b=some o->s.heap.get? b=some o)->PySem.PylongRoom (model X.prog X.w) X.A s
structure Inv (X:Cx) (pins:dc) (σ:List (c_)) (H:Hp) (s:Shared):Prop where
 ok:X.Ok
 os:s.os=X.s₀.os
 bare:AllBare s.gens
 base:Un X.fs X.ex X.H₀ H X.s₀.heap s.heap
 loc:∃ m,s.heap.Ns X.env.locals m/\∀ (i:Nat) (x:Str) (v:V),X.N[i]?=some x->σ[i]?=some (some v)->bU X.env.scope x->∃ u,RelV v u/\bV X.env s.heap m x u
 cell:∀ x c,X.env.cells.lookup x=some c->∃ v,s.heap.IsCell c v
 free:H X.env.locals=none
 freeC:∀ x c,X.env.cells.lookup x=some c->H c=none
 pin:∀ p∈X.pn++pins,s.heap.get? p.1=some p.2/\H p.1=none/\p.1≠X.env.locals/\p.1∉X.fs/\∀ v,p.2.data≠.cell v
 hok:HOk X.prog X.w H s.heap
 len:@σ=↑X.N
section
variable {X:Cx} {pins:dc} {σ:List (c_)} {H H':Hp} {s:Shared} {h':Heap}
def Cx.Ok.nofr (ok:X.Ok) {b:Addr} {o:Obj} (e:X.base.get? b=some o):b∉X.fs:=λa=>by
 have:=(ok.funs.mem a).1;rw [e] at this;cases this
def Inv.bs (I:Inv X pins σ H s):∀ b o,X.base.get? b=some o->s.heap.get? b=some o/\H b=none:=λb o e=>
 {I.base.keep b o (I.ok.bs b o e).1 (I.ok.bs b o e).2 (I.ok.nofr e) (I.ok.noex b o e),I.base.free b o (I.ok.bs b o e).1 (I.ok.bs b o e).2 (I.ok.noex b o e)}
def Inv.bk (I:Inv X pins σ H s):∀ b o,X.base.get? b=some o->s.heap.get? b=some o:=λb o e=>(I.bs b o e).1
def Inv.mod (I:Inv X pins σ H s):Mod X.K X.mg X.base:=I.ok.mod
def Inv.kIn (I:Inv X pins σ H s):X.K.In s.heap:=I.ok.mod.kin.keeps I.bk
def Inv.fr (I:Inv X pins σ H s):∃ m,Fr X.base X.env.locals s.heap m:=
 let ⟨m,a,_⟩:=I.loc
 {m,a,I.bk,BK I.ok.bsz I.ok.above}
def Inv.lt (I:Inv X pins σ H s):X.env.locals<⇑s:=let ⟨_,a,_⟩:=I.loc;a.lt
def Inv.sz (I:Inv X pins σ H s):X.s₀.heap.objs.size<=⇑s:=BK I.ok.above (EN I.lt)
def Inv.nofs (I:Inv X pins σ H s) {a:Addr} (h:⇑s<=a):a∉X.fs:=λb=>by
 let {_,o,c,_}:=I.ok.funs.mem b;exact absurd (CM (jM c) (BK I.sz h)) (DV _)
def Inv.cne (I:Inv X pins σ H s):∀ x c,X.env.cells.lookup x=some c->c≠X.env.locals:=λx c e z=>by
 let {v,o,d,f}:=I.cell x c e;let {m,{g,h,i,a,b,_},_}:=I.loc;rw [z,a] at d;cases d;rw [b] at f;cases f
def Inv.funs (I:Inv X pins σ H s):s.heap.FunFrames X.base X.outer:=by
 let all:∀ (l:List Env),(∀ b∈aA l,b∈X.fs)->X.s₀.heap.FunFrames X.base l->s.heap.FunFrames X.base l:=by
  intro l
  induction l with
  | nil=>intro _ _;trivial
  | cons g r h=>
    intro f i;let {hk,{L,o,a,j,k,m},n}:=i;let c:L∈X.fs:=f L (by unfold aA;rw [List.filterMap_cons,a];exact BC);let {p,e}:=I.base.slot L o k (I.ok.frf L c) c λz=>I.ok.exfs L z c;exact {hk,{L,_,a,j,e,m},h (λb d=>f b (by unfold aA;rw [List.filterMap_cons,a];exact A6 _ d)) n}
 exact all X.outer (λ_ d=>d) I.ok.funs
def Inv.stack (I:Inv X pins σ H s):s.heap.FunFrames X.base X.stack:=by
 rcases I.ok.stk with e | ⟨e,a⟩
 .rw [e];exact I.funs
 .rw [e];let {m,b,_}:=I.loc;refine .cons (by rw [I.ok.kind];decide) a b ?_ I.funs;exact Heap.get?_none_of_le (BK I.ok.bsz I.ok.above)
def Inv.stkSub (I:Inv X pins σ H s):∀ b∈aA X.stack,b∈X.env.locals::X.fs:=λb a=>by
 rcases I.ok.stk with e | ⟨e,c⟩
 .rw [e] at a;exact A6 _ a
 .rw [e] at a;unfold aA at a;rw [List.filterMap_cons,c] at a;exact a
def Inv.stkFree (I:Inv X pins σ H s):∀ b∈aA X.stack,H b=none:=λb a=>by
 rcases CP.mp (I.stkSub b a) with e | a
 .rw [e];exact I.free
 .let {_,o,c,_}:=I.ok.funs.mem a;exact I.base.free b o c (I.ok.frf b a) λz=>I.ok.exfs b z a
def Inv.step {g':Array GenState} {t':Nat} {d':Drawn} {ch:dj} (I:Inv X pins σ H s)
  (g:∀ b∈ch,(b∈X.ex\/X.s₀.heap.objs.size<=b)/\b≠X.env.locals/\(∀ x c,X.env.cells.lookup x=some c->c≠b)/\∀ p∈X.pn++pins,p.1≠b)
  (h:∀ b o,b≠X.env.locals->b∉X.fs->b∉ch->s.heap.get? b=some o->H b=none->h'.get? b=some o)
  (B:∀ b o,b≠X.env.locals->b∈X.fs->b∉ch->s.heap.get? b=some o->H b=none->∃ P,h'.get? b=some { o with slots:=P }) (f:∀ b o,b∉ch->s.heap.get? b=some o->H b=none->H' b=none)
  (D:∀ b o,b∉ch->s.heap.get? b=some o->∃ G,h'.get? b=some G)
  (J:∀ b C,H b&&&C->H' b&&&C) (K:∀ b o u,H b=some (.frz o u)->H' b=some (.frz o u)) (L:∀ b ps,H b=some (.tbl ps)->∃ M,H' b=some (.tbl (ps++M)))
  (ns:∀ m,s.heap.Ns X.env.locals m->h'.Ns X.env.locals m) (R:HOk X.prog X.w H' h') (hg:AllBare g') :
  Inv X pins σ H' { s with heap:=h',gens:=g',drawn:=d',toks:=t' }:=by
 let N:∀ b o,X.s₀.heap.get? b=some o->b≠X.env.locals:=λb o e=>By (CM (jM e) I.ok.above)
 let y:∀ b o,X.s₀.heap.get? b=some o->b∉X.ex->b∉ch:=λb o e a E=>by
  rcases (g b E).1 with z | z
  .exact a z
  .exact absurd (CM (jM e) z) (DV _)
 let j:∀ x c,X.env.cells.lookup x=some c->∀ v,s.heap.IsCell c v->h'.IsCell c v:=λx c e v ⟨o,F,S⟩=>by
  let w:c∉ch:=λz=>(g c z).2.2.1 x c e rfl;by_cases Z:c∈X.fs
  .let {P,q}:=B c o (I.cne x c e) Z w F (I.freeC x c e);exact {_,q,S}
  .exact {o,h c o (I.cne x c e) Z w F (I.freeC x c e),S}
 refine {I.ok,I.os,hg,{λb o e n E a=>?_,λb o e n E a=>?_,λb o e n a=>?_,λb o e a=>?_,λb C e=>J b C (I.base.tups b C e),λb o C e=>K b o C (I.base.frzs b o C e),λb ps e=>?_},?_,λx c e=>?_,?_,λx c e=>?_,λp hp=>?_,R,I.len}
 .exact h b o (N b o e) E (y b o e a) (I.base.keep b o e n E a) (I.base.free b o e n a)
 .let {P,A}:=I.base.slot b o e n E a;let {T,O}:=B b _ (N b o e) E (y b o e a) A (I.base.free b o e n a);exact ⟨T,O⟩
 .let {G,A}:=I.base.there b o e a;exact f b G (y b o e a) A (I.base.free b o e n a)
 .let {G,A}:=I.base.there b o e a;exact D b G (y b o e a) A
 .let {m1,A}:=I.base.tbls b ps e;let {m2,O}:=L b _ A;exact {m1++m2,by rw [O,Array.append_assoc]}
 .let {m,hn,hl}:=I.loc;refine {m,ns m hn,λi x v A O e3=>?_};let {u,r,l}:=hl i x v A O e3;refine {u,r,?_};rcases l with l | ⟨k,c,e,z⟩
  .exact .inl l
  .exact .inr {k,c,e,j x c e _ z}
 .let {v,z}:=I.cell x c e;exact {v,j x c e v z}
 .let {m,{o,_,_,F,_},_}:=I.loc;exact f _ o (λz=>(g _ z).2.1 rfl) F I.free
 .let {v,o,F,S}:=I.cell x c e;exact f c o (λz=>(g c z).2.2.1 x c e rfl) F (I.freeC x c e)
 .let {e,n,ne,nf,d}:=I.pin p hp;let w:p.1∉ch:=λz=>(g p.1 z).2.2.2 p hp rfl;exact {h p.1 p.2 ne nf w e n,f p.1 p.2 w e n,ne,nf,d}
def Inv.un {t':Nat} (I:Inv X pins σ H s) (u:Un X.fs [] H H' s.heap h') (c:HOk X.prog X.w H' h'):Inv X pins σ H' { s with heap:=h',toks:=t' }:=by
 let {m,{o,v,w,j,r},_}:=id I.loc;let {x,k}:=u.any j I.free (by simp)
 exact I.step (g':=s.gens) (d':=s.drawn) (ch:=[]) (λ_ z=>nomatch z) (λb o _ d _ e n=>u.keep b o e n d (by simp)) (λb o _ d _ e n=>u.slot b o e n d (by simp)) (λb o _ e n=>u.free b o e n (by simp)) (λb o _ e=>u.there b o e (by simp)) u.tups u.frzs u.tbls (λy p=>by
  let {A,f,g,a,q}:=p;rw [j] at a;cases a;exact {_,f,g,k,q}) c I.bare
def Inv.call {g':Array GenState} {t':Nat} {d':Drawn} {ch:dj} (I:Inv X pins σ H s) (u:Un (aA X.stack) ch H H' s.heap h') (g:HOk X.prog X.w H' h') (y:AllBare g')
  (d:∀ b∈ch,(b∈X.ex\/X.s₀.heap.objs.size<=b)/\b≠X.env.locals/\(∀ x c,X.env.cells.lookup x=some c->c≠b)/\∀ p∈X.pn++pins,p.1≠b) :
  Inv X pins σ H' { s with heap:=h',gens:=g',drawn:=d',toks:=t' }:=by
 let {m,{o,D,E,w,r},_}:=id I.loc;let {F,h}:=u.any w I.free λz=>(d _ z).2.1 rfl
 exact I.step (ch:=ch) d (λb o h A a e n=>u.keep b o e n (λz=>(CP.mp (I.stkSub b z)).elim h A) a) (λb o _ _ a e n=>u.any e n a) (λb o a e n=>u.free b o e n a) (λb o a e=>u.there b o e a) u.tups u.frzs u.tbls (λG B=>by
  let {J,i,j,f,C}:=B;rw [w] at f;cases f;exact {_,i,j,h,C}) g y
def Inv.turned {t':Nat} {a:Addr} (I:Inv X pins σ H s) (k:∀ b o,b≠a->s.heap.get? b=some o->h'.get? b=some o) (j:H a=none) (g:a≠X.env.locals)
  (w:a∈X.ex\/X.s₀.heap.objs.size<=a) (y:∀ x c,X.env.cells.lookup x=some c->c≠a) (A:∀ p∈X.pn++pins,p.1≠a):Inv X pins σ H { s with heap:=h',toks:=t' }:=by
 let f:∀ b u,H b=some u->b≠a:=λb u e z=>by rw [z,j] at e;cases e
 refine I.step (g':=s.gens) (d':=s.drawn) (ch:=[a]) (λb B=>?_) (λb o _ _ d e _=>k b o (λz=>d (by simp [z])) e) (λb o _ _ d e _=>{o.slots,k b o (λz=>d (by simp [z])) e}) (λ_ _ _ _ n=>n)
  (λb o d e=>{o,k b o (λz=>d (by simp [z])) e}) (λ_ _ e=>e) (λ_ _ _ e=>e) (λb ps e=>{#[],by rw [e];simp}) (λm C=>?_) (λb u e=>?_) I.bare
 .let e:b=a:=by simpa using B
  subst e;exact ⟨w,g,y,A⟩
 .let {o,D,E,F,r}:=C;exact {o,D,E,k _ o (Ne.symm g) F,r}
 .refine (I.hok b u e).stay (λc v d q=>k c v ?_ q) (λ_ q=>q) λ_ _ q=>q;rcases d with z | z
  .rw [z];exact f b u e
  .exact f c _ z
def Inv.tok (I:Inv X pins σ H s) (t:Nat):Inv X pins σ H { s with toks:=t }:=I.un (h':=s.heap) (t':=t) Un.refl I.hok
def Inv.kept {t':Nat} (I:Inv X pins σ H s) (k:∀ b u,s.heap.get? b=some u->h'.get? b=some u):Inv X pins σ H { s with heap:=h',toks:=t' }:=I.un (Un.kept k) (I.hok.kept k)
def Inv.laid {a:Addr} {o:HO} {t':Nat} (I:Inv X pins σ H s) (k:∀ b u,s.heap.get? b=some u->h'.get? b=some u) (hp:⇑s<=a) (c:ObjOk X.prog X.w (upd H a o) h' a o) :
  Inv X pins σ (upd H a o) { s with heap:=h',toks:=t' }:=I.un (Un.laid k hp (I.hok.fresh hp)) (I.hok.laid k hp c)
def Inv.write {x e:Addr} {o:HO} {t':Nat} (I:Inv X pins σ H s) (d:ci (H x)) (f:e=x\/H e=some (.own x)) (k:∀ b u,b≠e->s.heap.get? b=some u->h'.get? b=some u) (a:∃ u,h'.get? e=some u)
  (c:ObjOk X.prog X.w (upd H x o) h' x o):Inv X pins σ (upd H x o) { s with heap:=h',toks:=t' }:=I.un (Un.write d f k a) (I.hok.write d f k a c)
def Inv.pins_of {a:dc} (I:Inv X pins σ H s) (h:∀ p∈a,s.heap.get? p.1=some p.2/\H p.1=none/\p.1≠X.env.locals/\p.1∉X.fs/\∀ v,p.2.data≠.cell v):Inv X a σ H s:=
 {I.ok,I.os,I.bare,I.base,I.loc,I.cell,I.free,I.freeC,λp hp=>(C5.mp hp).elim (λz=>I.pin p (Ei _ z)) (h p),I.hok,I.len}
def NS {N:di} (c:N.Nodup) {i j:Nat} {x:Str} (a:N[i]?=some x) (b:N[j]?=some x):i=j:=by
 let {f,d}:=A7.mp a;let {g,e}:=A7.mp b;exact (List.getElem_inj c).mp (d.trans e.symm)
def NT {M:Model} {A:Around} {E:d8} {i:Nat} {x:Str} {v:V} {u:Value} {Q:Unit->Shared->Prop} (I:Inv X pins σ H s) (hN:X.N.Nodup) (O:X.N[i]?=some x) (C:aY X.env.scope x) (r:RelV v u)
  (h:∀ s',Inv X pins (σ.set i (some v)) H s'->(∃ a,Heap.SameBut a s.heap s'.heap/\(a=X.env.locals\/X.env.cells.lookup x=some a))->Q Unit.unit s') (hf:X.fn x=true\/X.env.scope.names.lookup x=some .local:=by first | exact .inl rfl | exact .inr rfl | assumption):wpAny M A (storeName X.env x u) Q E s:=by
 let {m,hn,hl}:=id I.loc;let P:(X.env.scope.kind == .class || (X.env.scope.kind == .module && X.env.locals != X.env.globals))=false:=by rw [I.ok.kind];rfl
 let G:i<@σ:=by rw [I.len];exact (A7.mp O).1
 let J:=I.cne
 let g:∀ {a:Addr} {h':Heap},(∃ o,s.heap.get? a=some o/\H a=none)->Heap.SameBut a s.heap h'->HOk X.prog X.w H h':=λ{a h'} ha f b ob e=>by
  let {_,_,D}:=ha;refine (I.hok b ob e).stay (λc W B q=>(f.2 c ?_).trans q) (λ_ q=>q) λ_ _ q=>q;rintro rfl;rcases B with rfl | B
  .rw [D] at e;cases e
  .rw [D] at B;cases B
 rcases C with hk | hk
 .refine wpAny_storeName_local hk hn (λh' a0 f=>?_) P;let {oL,_,_,a1,_}:=id hn;refine h _ {I.ok,I.os,I.bare,{λb o e n K C=>?_,λb o e n K C=>?_,I.base.free,λb o e C=>?_,I.base.tups,I.base.frzs,I.base.tbls},{_,a0,λj y v' w F e3=>?_},λy c e=>?_,I.free,I.freeC,λp hp=>?_,g ⟨oL,a1,I.free⟩ f,by simpa using I.len} {_,f,.inl rfl}
  .exact (f.2 b (By (CM (jM e) I.ok.above))).trans (I.base.keep b o e n K C)
  .let {sl,w}:=I.base.slot b o e n K C;exact {sl,(f.2 b (By (CM (jM e) I.ok.above))).trans w}
  .let {o',w}:=I.base.there b o e C;exact {o',(f.2 b (By (CM (jM e) I.ok.above))).trans w}
  .by_cases L:j=i
   .subst L;rw [O] at w;cases w;rw [List.getElem?_set_self G] at F;cases F;exact {u,r,.inl {hk,by simp}}
   .rw [List.getElem?_set_ne (Ne.symm L)] at F;let {u',r',q}:=hl j y v' w F e3;refine {u',r',?_};rcases q with ⟨k,e⟩ | ⟨k,c,e,z⟩
    .refine .inl {k,?_};have:y≠x:=λe=>L (NS hN w (e ▸ O));simp [this,e]
    .exact .inr {k,c,e,z.sameBut f (J y c e)}
  .let {W,z}:=I.cell y c e;exact {W,z.sameBut f (J y c e)}
  .let {e,n,Y,nf,d}:=I.pin p hp;exact {(f.2 p.1 Y).trans e,n,Y,nf,d}
 .let N:X.fn x=true:=by
   rcases hf with z | z
   .exact z
   .rw [z] at hk;cases hk
  let {c,B}:=I.ok.has x (.inl hk);let {W,z}:=I.cell x c B;refine wpAny_storeName_cell I.ok.kind hk B z (λh' R f=>?_);let {oc,S,T}:=id z;refine h { s with heap:=h' } {I.ok,I.os,I.bare,{λb o e n K C=>?_,λb o e n K C=>?_,I.base.free,λb o e C=>?_,I.base.tups,I.base.frzs,I.base.tbls},{m,hn.sameBut f (Ne.symm (J x c B)),λj y v' w F e3=>?_},λy Z e=>?_,I.free,I.freeC,λp hp=>?_,g {oc,S,I.freeC x c B} f,by simpa using I.len} {c,f,.inr B}
  .exact (f.2 b (By (CM (jM e) (I.ok.cab x c N B)))).trans (I.base.keep b o e n K C)
  .let {sl,w}:=I.base.slot b o e n K C;exact {sl,(f.2 b (By (CM (jM e) (I.ok.cab x c N B)))).trans w}
  .let {o',w}:=I.base.there b o e C;exact {o',(f.2 b (By (CM (jM e) (I.ok.cab x c N B)))).trans w}
  .by_cases L:j=i
   .subst L;rw [O] at w;cases w;rw [List.getElem?_set_self G] at F;cases F;exact {u,r,.inr {.inl hk,c,B,R}}
   .rw [List.getElem?_set_ne (Ne.symm L)] at F;let {u',r',q}:=hl j y v' w F e3;refine {u',r',?_};rcases q with q | ⟨k,Z,e,z'⟩
    .exact .inl q
    .refine .inr {k,Z,e,z'.sameBut f ?_};rintro rfl;exact L (NS hN w (I.ok.inj _ _ _ e B ▸ O))
  .by_cases U:Z=c
   .subst U;exact {_,R}
   .let {w2,z2}:=I.cell y Z e;exact {w2,z2.sameBut f U}
  .let {e,n,Y,nf,d}:=I.pin p hp;refine {(f.2 p.1 ?_).trans e,n,Y,nf,d};intro q;rw [q,S] at e;let q':oc=p.2:=jL e;exact d W (by rw [<-q'];exact T)
def IH {M:Model} {A:Around} {E:d8} {i:Nat} {x:Str} {v:V} {u:Value} {Q:Unit->Shared->Prop} (I:Inv X pins σ H s) (b:X.N.Nodup) (c:X.N[i]?=some x) (d:aY X.env.scope x) (r:RelV v u)
  (h:∀ a,Inv X pins (σ.set i (some v)) H a->Q Unit.unit a) (e:X.fn x=true\/X.env.scope.names.lookup x=some .local:=by first | exact .inl rfl | exact .inr rfl | assumption):wpAny M A (storeName X.env x u) Q E s:=
 NT I b c d r (λa f _=>h a f) e
def Inv.call' {s':Shared} {ch:dj} (I:Inv X pins σ H s) (f:s'.os=s.os) (u:Un (aA X.stack) ch H H' s.heap s'.heap) (a:HOk X.prog X.w H' s'.heap) (g:AllBare s'.gens)
  (d:∀ b∈ch,(b∈X.ex\/X.s₀.heap.objs.size<=b)/\b≠X.env.locals/\(∀ x c,X.env.cells.lookup x=some c->c≠b)/\∀ p∈X.pn++pins,p.1≠b):Inv X pins σ H' s':=by
 let {h',g',d',t',h}:=s';let e:h=s.os:=f;subst e;exact I.call (g':=g') (t':=t') (d':=d') u a g d
end
abbrev XK:=Value->Option Addr->Hp->Prop
abbrev St:=List (c_)
abbrev VK:=V->Hp->Prop
abbrev TE:=St->Hp->VK->Prop
abbrev TT:=St->Hp->(Bool->Hp->Prop)->Prop
abbrev TA:=St->Hp->(cZ->Hp->Prop)->Prop
structure Ends where
 nx:St->Hp->Prop
 rt:VK
 bk:St->Hp->Prop:=λ_ _=>False
 ct:St->Hp->Prop:=λ_ _=>False
abbrev TS:=Ends->St->Hp->Prop
def EP (X:Cx) (a:dc) (c:St) (Q:VK) (u:Value) (s':Shared):Prop:=∃ v b,Inv X a c b s'/\RelV v u/\Q v b
def TP (X:Cx) (a:dc) (d:St) (Q:Bool->Hp->Prop) (b:Bool) (s':Shared):Prop:=∃ c,Inv X a d c s'/\Q b c
def AP (X:Cx) (a:dc) (d:St) (Q:cZ->Hp->Prop) (e:d7) (s':Shared):Prop:=∃ b c,Inv X a d c s'/\Vals b e/\Q b c
def SP (X:Cx) (b:dc) (D:Ends) (f:Flow) (s':Shared):Prop:=
 match f with
 | .next=>∃ a c,Inv X b a c s'/\D.nx a c
 | .brk=>∃ a c,Inv X b a c s'/\D.bk a c
 | .cont=>∃ a c,Inv X b a c s'/\D.ct a c
 | .ret u=>∃ v a c,Inv X b a c s'/\RelV v u/\D.rt v c
def PE (X:Cx) (e:Expr) (t:TE):Prop:=
 ∀ (a:dc) (s:Shared) (b:St) (H:Hp) (Q:VK),Inv X a b H s->t b H Q->wpAny (model X.prog X.w) X.A (eval e X.env) (EP X a b Q) X.xe s
def PT (X:Cx) (e:Expr) (t:TT):Prop:=
 ∀ (a:dc) (s:Shared) (b:St) (H:Hp) (Q:Bool->Hp->Prop),Inv X a b H s->t b H Q->wpAny (model X.prog X.w) X.A (isTrue e X.env (eval e X.env)) (TP X a b Q) X.xe s
def PW (X:Cx) (e:Expr) (t:TT):Prop:=
 ∀ (b:Sem Value) (a:dc) (s:Shared) (c:St) (H:Hp) (Q:Bool->Hp->Prop),Inv X a c H s->t c H Q->wpAny (model X.prog X.w) X.A (isTrue e X.env b) (TP X a c Q) X.xe s
def PW.pt {X:Cx} {e:Expr} {t:TT} (h:PW X e t):PT X e t:=h _
def PA (X:Cx) (d:dh) (t:TA):Prop:=
 ∀ (b:Pos) (a:dc) (s:Shared) (c:St) (H:Hp) (Q:cZ->Hp->Prop),Inv X a c H s->t c H Q->wpAny (model X.prog X.w) X.A (spliced (backTo b (starEach d X.env))) (AP X a c Q) X.xe s
def PS (X:Cx) (st:Stmt) (t:TS):Prop:=
 ∀ (a:dc) (s:Shared) (b:St) (H:Hp) (D:Ends),Inv X a b H s->t D b H->wpAny (model X.prog X.w) X.A (exec st X.env) (SP X a D) X.xe s
def PSs (X:Cx) (st:List Stmt) (t:TS):Prop:=
 ∀ (a:dc) (s:Shared) (b:St) (H:Hp) (D:Ends),Inv X a b H s->t D b H->wpAny (model X.prog X.w) X.A (execs st X.env) (SP X a D) X.xe s
def G_ {b:Type} {t:Sem b} {Q c:b->Shared->Prop} {M:Model} {A:Around} {E:d8} {s:Shared} (h:wpAny M A t Q E s) (d:∀ a s,Q a s->c a s):wpAny M A t c E s:=jK h d λ_ _ x=>x
section
variable {X:Cx}
inductive AA(i:Nat)(a:L2.St)(H:Hp)(Q:VK):Prop
 |mk(v):a[i]?=some (some v)->Q v H->AA i a H Q
def U9 {i:Nat} {d:L2.St} {H:Hp} {Q:VK}:AA i d H Q=∃ v,d[i]?=some (some v)/\Q v H:=propext {λ⟨a,b,c⟩=>⟨a,b,c⟩,λ⟨a,b,c⟩=>⟨a,b,c⟩}
def tC (v:V):TE:=λ_ H Q=>Q v H
def VA {i:Nat} {x:Str} {f:Pos} (n:X.N[i]?=some x) (o:bU X.env.scope x) (g:(x == ("__debug__" : Str))=false:=by decide) (j:(x == ("__classdict__" : Str))=false:=by decide):PE X (.Name x f) (AA i):=by
 intro d s p H Q I h;let {v,e,h}:=h;let {m,q,w}:=I.loc;let {u,r,l}:=w i x v n e o;let b:EP X d p Q u s:=⟨v,H,I,r,h⟩;rcases l with ⟨hk,y⟩ | ⟨hk,c,k,a⟩
 .exact wpAny_Name (wpAny_loadName_local I.ok.kind hk q y b) g
 .rcases hk with hk | hk
  .exact wpAny_Name (wpAny_loadName_cell I.ok.kind hk k a b) g
  .exact wpAny_Name (wpAny_loadName_free I.ok.kind hk k a b j) g
def AG {i j pos}:PE X (.Constant (.int i) j pos) (tC (.int i)):=λ_ _ _ H _ I h=>wpAny_Constant_int {.int i,H,I.tok _,{1},h}
def EE {b j pos}:PE X (.Constant (.bool b) j pos) (tC (.bl b)):=λ_ _ _ H _ I h=>Constant_bool {.bl b,H,I,2,h}
def EW {j pos}:PE X (.Constant .none j pos) (tC .non):=λ_ _ _ H _ I h=>Constant_none {.non,H,I,2,h}
def Gl (X:Cx) (x:Str):Prop:=X.env.kindOf x=some .globalImplicit
def NU {E:d8} {a:dc} {s:Shared} {c:St} {H:Hp} {x:Str} {u:Value} {b:Pos} {Q:d8} (I:Inv X a c H s) (d:Gl X x) (e:X.mg x=some u) (h:Q u s)
  (f:(x == ("__debug__" : Str))=false:=by decide):wpAny (model X.prog X.w) X.A (eval (.Name x b) X.env) Q E s:=
 Calls.Name_function_global I.ok.kind d (Calls.loadGlobal_global (by rw [I.ok.glob];exact I.mod.glob.keeps I.bk) e h) f
def Es {E:d8} {a:dc} {s:Shared} {c:St} {H:Hp} {x:Str} {u:Value} {b:Pos} {Q:d8} (I:Inv X a c H s) (d:Gl X x) (e:X.mg x=none) (f:bootBuiltins x=some u) (h:Q u s)
  (g:x ≠ "__name__" := by decide) (i:(x == ("__debug__" : Str))=false:=by decide):wpAny (model X.prog X.w) X.A (eval (.Name x b) X.env) Q E s:=by
 let {m,j,k}:=I.mod.blt;exact Calls.Name_function_global I.ok.kind d (Calls.loadGlobal_builtin (by rw [I.ok.glob];exact I.mod.glob.keeps I.bk) e (by rw [I.ok.blt];exact j.keeps I.bk) ((k x g).trans f) h) i
def VB {x:Str} {v:V} {u:Value} {a:Pos} (b:Gl X x) (c:X.mg x=some u) (r:RelV v u) (d:(x == ("__debug__" : Str))=false:=by decide):PE X (.Name x a) (tC v):=
 λ_ _ _ H _ I h=>NU I b c ⟨v,H,I,r,h⟩ d
def HJ {x:Str} {v:V} {u:Value} {a:Pos} (b:Gl X x) (c:X.mg x=none) (d:bootBuiltins x=some u) (r:RelV v u) (e:x ≠ "__name__" := by decide) (f:(x == ("__debug__" : Str))=false:=by decide):PE X (.Name x a) (tC v):=
 λ_ _ _ H _ I h=>Es I b c d ⟨v,H,I,r,h⟩ e f
variable {a b:Expr} {ta tb:TE} {pos:Pos}
def tB (t:TE):TT:=λd H Q=>t d H λx e=>∃ c,x=.bl c/\Q c e
def Dl {e:Expr} {t:TE} (h:PE X e t) (g:∀ c,isTrue e X.env c=(do let v <-c;standAt e.pos;holding [v] (truthy v)):=by intro _;rfl):PT X e (tB t):=by
 intro f s i H Q I j;refine isTrue_plain (G_ (h f s i H _ I j) λv p ⟨x,k,m,n,o⟩=>?_) (g _);let {d,rfl,q}:=o;cases n;exact wpAny_truthy_bool ⟨k,m,q⟩
variable {tA tB':TT} {rest:dh}
def Fm (t u:TT):TT:=λd H Q=>t d H λc e=>if c=true then u d e Q else Q false e
def ad (t u:TT):TT:=λd H Q=>t d H λc e=>if c=true then Q true e else u d e Q
def DY (t:TT):TT:=λd H Q=>t d H λc e=>Q (!c) e
theorem HK (f:PT X a tA):PW X (.BoolOp .And [a] pos) tA:=by
 intro i d s g H Q I h;refine isTrue_and (G_ (f d s g H Q I h) λc j e=>?_);cases c with
 | true=>exact isTrue_and_nil e
 | false=>exact e
theorem Et (f:PT X a tA):PW X (.BoolOp .Or [a] pos) tA:=by
 intro i d s g H Q I h;refine isTrue_or (G_ (f d s g H Q I h) λc j e=>?_);cases c with
 | false=>exact isTrue_or_nil e
 | true=>exact e
theorem HL (j:PT X a tA) (k:PW X (.BoolOp .And (b::rest) pos) tB'):PW X (.BoolOp .And (a::b::rest) pos) (Fm tA tB'):=by
 intro m d s e H Q I h;refine isTrue_and (G_ (j d s e H _ I h) λc n ⟨f,g,i⟩=>?_);cases c with
 | true=>exact k m d n e f Q g i
 | false=>exact ⟨f,g,i⟩
theorem DZ (j:PT X a tA) (k:PW X (.BoolOp .Or (b::rest) pos) tB'):PW X (.BoolOp .Or (a::b::rest) pos) (ad tA tB'):=by
 intro m d s e H Q I h;refine isTrue_or (G_ (j d s e H _ I h) λc n ⟨f,g,i⟩=>?_);cases c with
 | true=>exact ⟨f,g,i⟩
 | false=>exact k m d n e f Q g i
def Dw (e:PT X a tA):PT X (.UnaryOp .Not a pos) (DY tA):=by
 intro d s f H Q I h;exact isTrue_not (e d s f H (λc g=>Q (!c) g) I h)
def K5 (ta tb:TE):TE:=λd H Q=>ta d H λx e=>∃ c,x=.bl c/\if c=true then tb d e Q else Q (.bl false) e
def VC (ta tb:TE):TE:=λd H Q=>ta d H λx e=>∃ c,x=.bl c/\if c=true then Q (.bl true) e else tb d e Q
def VD (ta:TE):TE:=λd H Q=>ta d H λx e=>∃ c,x=.bl c/\Q (.bl (!c)) e
def VE {op} {t:TE} (h:PE X a t):PE X (.BoolOp op [a] pos) t:=λc s d H Q I e=>BoolOp_one (h c s d H Q I e)
theorem VF (j:PE X a ta) (k:PE X (.BoolOp .And (b::rest) pos) tb):PE X (.BoolOp .And (a::b::rest) pos) (K5 ta tb):=by
 intro d s f H Q I h;refine BoolOp_and (G_ (j d s f H _ I h) λv m ⟨x,g,i,n,e⟩=>?_);let {c,rfl,e}:=e;cases n;refine wpAny_truthy_bool ?_;cases c with
 | true=>exact k d m f g Q i e
 | false=>exact {.bl false,g,i,2,e}
def a_ (t:TT) (ta tb:TE):TE:=λd H Q=>t d H λc e=>if c=true then ta d e Q else tb d e Q
theorem II {c:Expr} (m:PT X c tA) (n:PE X a ta) (o:PE X b tb):PE X (.IfExp c a b pos) (a_ tA ta tb):=by
 intro e s f H Q I h;refine wpAny_IfExp (G_ (m e s f H _ I h) λd g ⟨i,j,k⟩=>?_);cases d with
 | true=>exact n e g f i Q j k
 | false=>exact o e g f i Q j k
end
def SqL (K:W.Frag) (H:Hp) (a:Addr) (xs:cZ):Prop:=
 Rd H a (.lst xs)\/
  ∃ (o:Obj) (b:Array Value) (n:Nat),K.lookup a=some o/\o.cls=.type "list" /\ o.dict=none/\o.data=.seq b n/\b.size<=sizeLine/\Vals xs b.toList
def SqT (K:W.Frag) (H:Hp) (a:Addr) (xs:cZ):Prop:=
 Rd H a (.tup xs)\/
  ∃ (o:Obj) (b:Array Value) (n:Nat),K.lookup a=some o/\o.cls=.type "tuple" /\ o.data=.seq b n/\b.size<=sizeLine/\Vals xs b.toList
noncomputable def VG:Value->c_
 | .none=>some .non
 | .bool b=>some (.bl b)
 | .int i _=>some (.int i)
 | .str x _=>some (.str x)
 | .bytes b _=>some (.byt b)
 | .float b _=>some (.flt b)
 | .ref a=>↥a
 | .type n=>some (.ty n)
 | _=>none
theorem RelV.abs {x:V} {u:Value} (r:RelV x u):VG u=some x:=by
 cases x with
 | non=>cases r;rfl
 | bl _=>cases r;rfl
 | int _=>let ⟨t,rfl⟩:=r;rfl
 | str _=>let ⟨t,rfl⟩:=r;rfl
 | byt _=>let ⟨t,rfl⟩:=r;rfl
 | flt _=>let ⟨t,rfl⟩:=r;rfl
 | ref _=>cases r;rfl
 | ty _=>cases r;rfl
def RelV.inj {x y:V} {u:Value} (r:RelV x u) (q:RelV y u):x=y:=jL (r.abs.symm.trans q.abs)
theorem Vals.inj:∀ {xs ys:cZ} {a:d7},Vals xs a->Vals ys a->xs=ys
 | _,_,_,.nil,.nil=>rfl
 | _,_,_,.cons r t,.cons b c=>by rw [r.inj b,Vals.inj t c]
section
variable {X:Cx} {pins:dc} {σ:St} {H:Hp} {s:Shared} {a:Addr} {xs ys:cZ}
def SqL.of {K:W.Frag} (h:H a^^^xs):SqL K H a xs:=.inl (.inl h)
def SqT.of {K:W.Frag} (h:H a&&&xs):SqT K H a xs:=.inl (.inl h)
def Inv.list (I:Inv X pins σ H s) (h:SqL X.K H a xs):∃ b:d7,Vals xs b/\PlainL s.heap a b.toArray/\@xs<=sizeLine:=by
 rcases h with h | ⟨o,b,n,hk,c,d,f,g,r⟩
 .let {z,b,n,r,e}:=h.ok I.hok;exact {b,r,{_,n,e,7,2},z}
 .refine {b.toList,r,{o,n,I.kIn a o hk,c,d,by simpa using f},?_};let e:=@r;simp only [Array.length_toList] at e;omega
def Inv.tuple (I:Inv X pins σ H s) (h:SqT X.K H a xs):∃ b:d7,Vals xs b/\IsTup s.heap a b.toArray/\@xs<=sizeLine:=by
 rcases h with h | ⟨o,b,n,hk,c,d,f,r⟩
 .let {z,b,r,p}:=h.ok I.hok;exact ⟨b,r,p,z⟩
 .refine {b.toList,r,{o,I.kIn a o hk,c,n,by simpa using d},?_};let e:=@r;simp only [Array.length_toList] at e;omega
def Inv.list_inj (I:Inv X pins σ H s) (h:SqL X.K H a xs) (h':SqL X.K H a ys):xs=ys:=by
 let {c,r,{o,n,e,_,_,d},_}:=I.list h;let {b,i,{k,m,f,_,_,g},_}:=I.list h';rw [e] at f;cases f;rw [d] at g;injection g with j _;have:c=b:=by simpa using congrArg Array.toList j
 subst this;exact r.inj i
def Inv.tuple_inj (I:Inv X pins σ H s) (h:SqT X.K H a xs) (h':SqT X.K H a ys):xs=ys:=by
 let {c,r,{o,e,_,n,d},_}:=I.tuple h;let {b,i,{k,f,_,m,g},_}:=I.tuple h';rw [e] at f;cases f;rw [d] at g;injection g with j _;have:c=b:=by simpa using congrArg Array.toList j
 subst this;exact r.inj i
end
abbrev Cx.wish (X:Cx) (E:d8):Cx:={ X with xe:=E }
abbrev Cx.nox (X:Cx):Cx:=X.wish λ_ _=>False
def Cx.Ok.wish {X:Cx} (ok:X.Ok) (E:d8):(X.wish E).Ok:=
 ⟨ok.mod,ok.kind,ok.glob,ok.blt,ok.above,ok.inj,ok.has,ok.cab,ok.hd,ok.frames,ok.stk,ok.exf,ok.bs,ok.bsz,ok.noex,ok.exfs,ok.funs,ok.frf,ok.seer,ok.tree,ok.plr⟩
def Cx.Ok.unwish {X:Cx} {E:d8} (ok:(X.wish E).Ok):X.Ok:=
 ⟨ok.mod,ok.kind,ok.glob,ok.blt,ok.above,ok.inj,ok.has,ok.cab,ok.hd,ok.frames,ok.stk,ok.exf,ok.bs,ok.bsz,ok.noex,ok.exfs,ok.funs,ok.frf,ok.seer,ok.tree,ok.plr⟩
section
variable {X:Cx} {pins:dc} {σ:St} {H:Hp} {s:Shared} {E:d8}
def Inv.wish (I:Inv X pins σ H s) (E:d8):Inv (X.wish E) pins σ H s:={I.ok.wish E,I.os,I.bare,I.base,I.loc,I.cell,I.free,I.freeC,I.pin,I.hok,I.len}
def Inv.unwish (I:Inv (X.wish E) pins σ H s):Inv X pins σ H s:=⟨I.ok.unwish,I.os,I.bare,I.base,I.loc,I.cell,I.free,I.freeC,I.pin,I.hok,I.len⟩
theorem SP.unwish {D:Ends} {f:Flow} {s':Shared} (h:SP (X.wish E) pins D f s'):SP X pins D f s':=by
 cases f with
 | next=>let ⟨a,b,I,q⟩:=h;exact ⟨a,b,I.unwish,q⟩
 | brk=>let ⟨a,b,I,q⟩:=h;exact ⟨a,b,I.unwish,q⟩
 | cont=>let ⟨a,b,I,q⟩:=h;exact ⟨a,b,I.unwish,q⟩
 | ret u=>let ⟨v,a,b,I,r,q⟩:=h;exact ⟨v,a,b,I.unwish,r,q⟩
def PSs.nox {st:List Stmt} {t:TS} (h:PSs X.nox st t):PSs X st t:=λpins s σ H D I a=>
 jK (h pins s σ H D (I.wish _) a) (λ_ _ q=>q.unwish) λ_ _ z=>False.elim z
end
section
variable {X:Cx} {st:Stmt} {rest:List Stmt} {t u:TS} {e:Expr} {te:TE} {pos:Pos}
def BV:TS:=λD a H=>D.nx a H
def AH (t u:TS):TS:=λD a H=>t { D with nx:=u D } a H
def Bq:PSs X [] BV:=λ_ _ a H _ I h=>wpAny_execs_nil ⟨a,H,I,h⟩
theorem AJ (c:PS X st t) (d:PSs X rest u):PSs X (st::rest) (AH t u):=by
 intro a s g H D I h;refine wpAny_execs_cons (G_ (c a s g H { D with nx:=u D } I h) λf i q=>?_);cases f with
 | next=>
   let {b,j,k,q}:=q;exact d a i b j D k q
 | ret v=>exact q
 | brk=>exact q
 | cont=>exact q
theorem AO (b:PS X st t):PSs X [st] t:=by
 intro a s c H D I h;refine wpAny_execs_cons (G_ (b a s c H D I h) λf d q=>?_);cases f with
 | next=>exact wpAny_execs_nil q
 | ret v=>exact q
 | brk=>exact q
 | cont=>exact q
def Inv.quiet {a:dc} {b:St} {H:Hp} {s:Shared} (I:Inv X a b H s):interactive X.env=false:=by simp [interactive,I.ok.kind]
def Db (te:TE):TS:=λD a H=>te a H λ_ b=>D.nx a b
def EF (c:PE X e te) (d:swapsWith e none pos.line X.env=pure false:=by rfl):PS X (.Expr e pos) (Db te):=by
 intro a s b H D I h;exact wpAny_Expr_any (G_ (c a s b H _ I h) λv j ⟨x,f,g,k,i⟩=>⟨b,f,g,i⟩) I.quiet d
def AY (te:TE):TS:=λD a H=>te a H D.rt
def AZ (c:PE X e te):PS X (.Return (some e) pos) (AY te):=by
 intro a s b H D I h;exact wpAny_Return_some (G_ (c a s b H _ I h) λv j ⟨x,d,f,g,i⟩=>⟨x,b,d,f,g,i⟩)
def BU (c:TT) (t u:TS):TS:=λD a H=>c a H λb d=>if b=true then t D a d else u D a d
theorem Bg {c:Expr} {a b:List Stmt} {tc:TT} (n:PT X c tc) (o:PSs X a t) (p:PSs X b u):PS X (.If c a b pos) (BU tc t u):=by
 intro f s g H D I h;refine wpAny_If (G_ (n f s g H _ I h) λd i ⟨j,k,m⟩=>?_);cases d with
 | true=>exact o f i g j D k m
 | false=>exact p f i g j D k m
end
abbrev TG:=V->St->Hp->(St->Hp->Prop)->Prop
abbrev aI:=cZ->St->Hp->(St->Hp->Prop)->Prop
def PG (X:Cx) (a:Expr) (t:TG):Prop:=
 ∀ (b:dc) (s:Shared) (d:St) (H:Hp) (v:V) (u:Value) (Q:St->Hp->Prop),Inv X b d H s->RelV v u->t v d H Q->
   wpAny (model X.prog X.w) X.A (assign a X.env u) (λ_ f=>∃ c e,Inv X b c e f/\Q c e) X.xe s
def bW (X:Cx) (g:dh) (t:aI):Prop:=
 ∀ (a:dc) (s:Shared) (c:St) (H:Hp) (d:cZ) (e:d7) (Q:St->Hp->Prop),Inv X a c H s->Vals d e->t d c H Q->
   wpAny (model X.prog X.w) X.A (assignInOrder ((assignEach g X.env).map (·.2)) e) (λ_ h=>∃ b f,Inv X a b f h/\Q b f) X.xe s
abbrev aJ:=V->V->V->Hp->(Hp->Prop)->Prop
def aZ (X:Cx) (t:aJ):Prop:=
 ∀ (a:dc) (s:Shared) (b:St) (H:Hp) (o i v:V) (c d u:Value) (Q:Hp->Prop),Inv X a b H s->RelV o c->RelV i d->RelV v u->t o i v H Q->
   wpAny (model X.prog X.w) X.A (setItem c d u) (λ_ f=>∃ e,Inv X a b e f/\Q e) X.xe s
abbrev bu:=V->V->Hp->VK->Prop
def PIp (X:Cx) (c:Operator) (t:bu):Prop:=
 ∀ (a:dc) (s:Shared) (b:St) (H:Hp) (x y:V) (v u:Value) (Q:VK),Inv X a b H s->RelV x v->RelV y u->t x y H Q->
   wpAny (model X.prog X.w) X.A (inplaceOp c v u) (EP X a b Q) X.xe s
section
variable {X:Cx} {pos:Pos}
def AE (i:Nat):TG:=λv a H Q=>Q (a.set i (some v)) H
def Ab {i:Nat} {x:Str} (b:X.N.Nodup) (c:X.N[i]?=some x) (d:aY X.env.scope x) (e:X.fn x=true\/X.env.scope.names.lookup x=some .local:=by first | exact .inl rfl | exact .inr rfl | assumption):PG X (.Name x pos) (AE i):=by
 intro a s g H v u Q I r h;exact wpAny_assign_Name (IH I b c d r (λj f=>{_,H,f,h}) e)
noncomputable def CW:aI:=λa b H Q=>a=[]/\Q b H
inductive BG(t:TG)(u:aI)(vs:cZ)(b:L2.St)(H:Hp)(Q:L2.St->Hp->Prop):Prop
 |mk(v r):vs=v::r->(t v b H λa c=>u r a c Q)->BG t u vs b H Q
def VH {t:TG} {u:aI} {vs:cZ} {f:L2.St} {H:Hp} {Q:L2.St->Hp->Prop}:BG t u vs f H Q=∃ v r,vs=v::r/\t v f H λa g=>u r a g Q:=propext {λ⟨b,c,d,e⟩=>⟨b,c,d,e⟩,λ⟨b,c,d,e⟩=>⟨b,c,d,e⟩}
def Ce:bW X [] CW:=by
 intro a s b H c d Q I r h;let {e,h}:=h;subst e;cases r;exact assignInOrder_nil ⟨b,H,I,h⟩
theorem BL {e:Expr} {b:dh} {t:TG} {u:aI} (d:PG X e t) (f:bW X b u)
  (g:(assignEach (e::b) X.env).map (·.2)=assign e X.env::(assignEach b X.env).map (·.2):=by rfl):bW X (e::b) (BG t u):=by
 intro a s i H q w Q I r h;let {v,x,j,h}:=h;subst j;cases r with
 | cons r k=>
   rw [g];refine assignInOrder_cons (G_ (d a s i H _ _ _ I r h) λ_ m ⟨c,n,o,p⟩=>?_);exact f a m c n _ _ Q o k p
inductive VI(K:W.Frag)(n:Nat)(t:aI)(v:V)(c:L2.St)(H:Hp)(Q:L2.St->Hp->Prop):Prop
 |mk(a b):v=.ref a->SqT K H a b->@b=n->t b c H Q->VI K n t v c H Q
def VJ {d:dh} {k:Nat} {t:aI} {n:Nat} (p:X.calm=true) (h:bW X d t)
  (q:(assignEach d X.env).length=n:=by rfl) (f:(assignEach d X.env).findIdx? (·.1)=none:=by rfl):PG X (.Tuple d k pos) (VI X.K n t):=by
 intro c s i H v u Q I r g;let {a,w,x,y,z,g}:=g;subst x;cases r;let {A,j,B,F}:=I.tuple y;refine assign_Tuple_tuple (I.ok.hd p) B (by simp [q,<-z,j.length]) f λC D=>?_;let E:Inv X c i H { s with heap:=C }:=I.kept (t':=s.toks) λb o e=>D b o (By (jM e)) e;exact h c _ i H w _ Q E (by simpa using j) g
def Fn (b c:TE) (t:aJ):TG:=λv a H Q=>b a H λo d=>c a d λi e=>t o i v e λf=>Q a f
def IJ {o i:Expr} {e f:TE} {t:aJ} (g:PE X o e) (j:PE X i f) (k:aZ X t)
  (m:∀ v,assign (.Subscript o i pos) X.env v=(do
   let b <-holding [v] (eval o X.env);let c <-holding [v,b] (eval i X.env)
   standAt pos
   holding [v,b,c] (setItem b c v)
   release [v,b,c] []):=by intro _;rfl):PG X (.Subscript o i pos) (Fn e f t):=by
 intro a s d H v u Q I r h;rw [m];refine jI (wpAny_holding (G_ (g a s d H _ I h) λb n ⟨x,p,q,w,z⟩=>?_));refine jI (wpAny_holding (G_ (j a n d p _ q z) λc A ⟨y,B,C,D,E⟩=>?_));refine jI (wpAny_standAt (jI (wpAny_holding (G_ (k a A d B x y v b c u _ C w D r E) λ_ K ⟨F,G,J⟩=>?_))));exact wpAny_release ⟨d,F,G,J⟩
def AN (b:TE) (g:TG):TS:=λD a H=>b a H λx c=>g x a c D.nx
def GU {b e:Expr} {c:TE} {g:TG} (f:PE X e c) (i:PG X b g) (j:swapsWithSole [b] e pos.line X.env=pure false:=by rfl) (k:swappedStores [b] e X.env=pure none:=by rfl)
  (m:(assignEach [b] X.env).map (·.2)=[assign b X.env]:=by rfl):PS X (.Assign [b] e pos) (AN c g):=by
 intro a s d H D I h;refine wpAny_Assign_stores (G_ (f a s d H _ I h) λv n ⟨x,o,p,r,u⟩=>?_) j k;rw [m];exact G_ (i a n d o x v _ p r u) λ_ w q=>q
def EX {i:Nat} {x:Str} {e:Expr} {c:TE} {a:Pos} (d:X.N.Nodup) (f:X.N[i]?=some x) (g:aY X.env.scope x) (j:PE X e c) (k:swapsWith e (some (.Name x a)) pos.line X.env=pure false:=by rfl) (m:X.fn x=true\/X.env.scope.names.lookup x=some .local:=by first | exact .inl rfl | exact .inr rfl | assumption) :
  PS X (.Assign [.Name x a] e pos) (AN c (AE i)):=by
 intro b s n H D I h;refine wpAny_Assign_Name (G_ (j b s n H _ I h) λv w ⟨y,o,p,q,r⟩=>?_) k;exact IH p d f g q (λz u=>{_,o,u,r}) m
def HM (i j:Nat) (b:TA):TS:=λD a H=>b a H λc d=>∃ v w,c=[v,w]/\D.nx ((a.set i (some v)).set j (some w)) d
def JX {i j:Nat} {x y:Str} {a b:Expr} {B:TA} {m n r:Pos} {kt k2 pt2} (N:X.calm=true) (C:X.N.Nodup) (O:X.N[i]?=some x) (P:X.N[j]?=some y) (u:i≠j)
  (E:X.env.scope.names.lookup x=some .local) (F:X.env.scope.names.lookup y=some .local) (Q:PA X [a,b] B)
  (R:swappedStores [.Tuple [.Name x m,.Name y n] kt r] (.Tuple [a,b] k2 pt2) X.env=pure (some [x,y]))
  (S:swapsWithSole [.Tuple [.Name x m,.Name y n] kt r] (.Tuple [a,b] k2 pt2) pos.line X.env=pure false:=by rfl) :
  PS X (.Assign [.Tuple [.Name x m,.Name y n] kt r] (.Tuple [a,b] k2 pt2) pos) (HM i j B):=by
 intro d s G H D I h;rw [exec_Assign_arm];refine jI (wpAny_standAt ?_);rw [S];refine jI (jJ ?_);rw [jD `b];refine jI (Tuple_ (G_ (Q _ d s G H _ I h) λT f ⟨vs,J,U,W,z⟩=>?_));let {v,w,Y,z}:=z;subst Y
 let {g,k,rfl,Z,rw'}:∃ g k,T=[g,k]/\RelV v g/\RelV w k:=by
  cases W with
  | cons p q=>
    cases q with
    | cons p' q'=>
      cases q';exact {6,p,p'}
 refine wpAny_newObj_type ?_ (by show 2<=sizeLine;decide);let I2:Inv X d G J { f with heap:=f.heap.push { cls:=.type "tuple", data:=.seq [g,k].toArray } }:=U.kept (t':=f.toks) λb o e=>Heap.get?_push_of_some _ e;rw [R];refine jI (jJ ?_);show wpAny (model X.prog X.w) X.A (do rule "assign.swapped-stores"; let c <-unpackItems (.ref ⇑f) 2 none;assignInOrder [λv=>bindName X.env y v,λv=>bindName X.env x v] c.reverse;pure Flow.next) _ _ _;refine jI (wpAny_rule (jI (unpackItems_tuple (items:=#[g,k]) (I.ok.hd N) (IsTup.new f.heap _) λh' A=>?_)));let I3:=I2.kept (h':=h') (t':=f.toks) λb o e=>A b o (By (jM e)) e;show wpAny _ _ (assignInOrder [λv=>bindName X.env y v,λv=>bindName X.env x v] [k,g] >>= λ_=>pure Flow.next) _ _ _;refine jI (assignInOrder_cons (wpAny_bindName (IH I3 C P (.inl F) rw' (λs2 I4=>?_) (.inr F))));refine assignInOrder_cons (wpAny_bindName (IH I4 C O (.inl E) Z (λs3 M=>assignInOrder_nil (jJ ?_)) (.inr E)));rw [List.set_comm _ _ (Ne.symm u)] at M;exact {_,J,M,z}
inductive EY(i:Nat)(b:TE)(c:bu)(D:Ends)(a:L2.St)(H:Hp):Prop
 |mk(x):a[i]?=some (some x)->(b a H λy d=>c x y d λz e=>D.nx (a.set i (some z)) e)->EY i b c D a H
def VL {i:Nat} {e:TE} {f:bu} {D:Ends} {a:L2.St} {H:Hp}:EY i e f D a H=∃ x,a[i]?=some (some x)/\e a H λy g=>f x y g λz h=>D.nx (a.set i (some z)) h:=propext {λ⟨b,c,d⟩=>⟨b,c,d⟩,λ⟨b,c,d⟩=>⟨b,c,d⟩}
def FJ {i:Nat} {x:Str} {e:Expr} {p:TE} {j:Operator} {q:bu} {d:Pos} (E:X.N.Nodup) (A:X.N[i]?=some x) (n:aY X.env.scope x) (F:PE X e p) (G:PIp X j q) (J:X.fn x=true\/X.env.scope.names.lookup x=some .local:=by first | exact .inl rfl | exact .inr rfl | assumption) :
  PS X (.AugAssign (.Name x d) j e pos) (EY i p q):=by
 intro a s B H D I h;let {v,K,h}:=h;let {m,L,M}:=I.loc;let o:bU X.env.scope x:=by rcases n with k | k;exact .inl k;exact .inr (.inl k)
 let {u,r,l}:=M i x v A K o;refine wpAny_AugAssign_Name ?_
 let C:wpAny (model X.prog X.w) X.A (eval e X.env) (λw f=>wpAny (model X.prog X.w) X.A (inplaceOp j u w) (λr g=>wpAny (model X.prog X.w) X.A (storeName X.env x r) (λ_=>SP X a D .next) X.xe g) X.xe f) X.xe s:=by
  refine G_ (F a s B H _ I h) λw N ⟨y,O,P,Q,R⟩=>?_;refine G_ (G a N B O v y u w _ P r Q R) λz s2 ⟨zv,S,T,U,W⟩=>?_;exact IH T E A n U (λs3 Y=>{_,S,Y,W}) J
 rcases l with ⟨hk,Z⟩ | ⟨hk,c,hc,b⟩
 .exact wpAny_loadName_local I.ok.kind hk L Z C
 .rcases hk with hk | hk
  .exact wpAny_loadName_cell I.ok.kind hk hc b C
  .rcases n with k | k
   .have:X.env.scope.names.lookup x=some .free:=hk;rw [k] at this;cases this
   .have:X.env.scope.names.lookup x=some .free:=hk;rw [k] at this;cases this
def HN (e f g:TE) (a:V->V->Hp->VK->Prop) (d:bu) (b:aJ):TS:=λD c H=>e c H λo h=>f c h λi j=>a o i j λx k=>g c k λy m=>d x y m λz n=>b o i z n λp=>D.nx c p
def bX (X:Cx) (t:V->V->Hp->VK->Prop):Prop:=
 ∀ (a:dc) (s:Shared) (b:St) (H:Hp) (o i:V) (c d:Value) (Q:VK),Inv X a b H s->RelV o c->RelV i d->t o i H Q->
   wpAny (model X.prog X.w) X.A (getItem c d) (EP X a b Q) X.xe s
def JY {o i e:Expr} {p q r:TE} {c:V->V->Hp->VK->Prop} {k:bu} {d:aJ} {u:Operator} {m:Pos} (A:PE X o p) (B:PE X i q) (C:bX X c) (E:PE X e r) (hp:PIp X u k) (F:aZ X d)
  (G:∀ f g b,augStore i f g b=(do holding [b,f,g] (setItem f g b);release [b,f,g] [];pure .next):=by intros;rfl):PS X (.AugAssign (.Subscript o i m) u e pos) (HN p q r c k d):=by
 intro a s j H D I h;refine wpAny_AugAssign_SubscriptAny (G_ (A a s j H _ I h) λf J ⟨w,K,L,x,M⟩=>?_) G;refine G_ (B a J j K _ L M) λg N ⟨y,O,P,z,Q⟩=>?_;refine G_ (C a N j O w y f g _ P x z Q) λn R ⟨S,T,U,W,Y⟩=>?_;refine G_ (E a R j T _ U Y) λv Z ⟨x4,H4,I4,r4,q4⟩=>?_;refine G_ (hp a Z j H4 S x4 n v _ I4 W r4 q4) λb s5 ⟨x5,H5,I5,r5,q5⟩=>?_;exact G_ (F a s5 j H5 w y x5 f g b _ I5 x z r5 q5) λ_ s6 ⟨H6,I6,q6⟩=>⟨j,H6,I6,q6⟩
end
section
variable {X:Cx} {pos:Pos}
def Cv (c:TT) (h:TS):TS:=λD a H=>∃ W:Nat->St->Hp->Prop,(∃ m,W m a H)/\∀ m a H,W m a H->
 c a H λb e=>if b=true then ∃ N:St->Hp->Prop,(∀ d f,N d f->∃ g,g<m/\W g d f)/\h { D with nx:=N,ct:=N,bk:=D.nx } a e else D.nx a e
theorem Dc {c:Expr} {g:List Stmt} {tc:TT} {x:TS} (hp:PassesOwn (model X.prog X.w) X.A X.env X.xe) (E:PT X c tc) (F:PSs X g x):PS X (.While c g [] pos) (Cv tc x):=by
 intro a s G H D I h;let {W,{J,K},i}:=h;refine wpAny_While (codeAny_whileLoop (λn L=>∃ j y,Inv X a j y L/\W n j y) ?_ J ⟨G,H,I,K⟩);rintro n M ⟨e,z,O,P⟩;refine wpAny_passesOwn hp (G_ (E a M e z _ O (i n e z P)) λb Q ⟨A,B,m⟩=>?_);cases b with
 | true=>
   let {N,C,m}:=m;rw [jE rfl];refine wpAny_passesOwn hp (G_ (F a Q e A _ B m) λf R o=>?_);cases f with
   | next=>
     let {d,k,p,q}:=o;let {r,u,w}:=C d k q;exact ⟨r,u,d,k,p,w⟩
   | cont=>
     let {d,k,p,q}:=o;let {r,u,w}:=C d k q;exact ⟨r,u,d,k,p,w⟩
   | brk=>exact o
   | ret v=>exact o
 | false=>
   rw [jD Cg];exact wpAny_execs_nil ⟨e,A,B,m⟩
end
structure It where
 go:Nat->Hp->Prop
 yld:Nat->Hp->V->Hp->Prop
 stop:Nat->Hp->Prop
def Df (X:Cx) (a:dc) (H:Hp) (b:Addr):Prop:=
 H b=none/\b≠X.env.locals/\b∉X.fs/\(b∈X.ex\/X.s₀.heap.objs.size<=b)/\(∀ x c,X.env.cells.lookup x=some c->c≠b)/\∀ p∈X.pn++a,p.1≠b
def Inv.fpOk {X:Cx} {a:dc} {g:St} {H f:Hp} {s:Shared} {b:Addr} (I:Inv X a g H s) (d:⇑s<=b) (h:f b=none):Df X a f b:=by
 refine {h,Nat.ne_of_gt (CM I.lt d),I.nofs d,.inr (BK I.sz d),λx c e z=>?_,λp hp z=>?_}
 .let {v,q}:=I.cell x c e;exact absurd (CM q.lt (by rw [z];exact d)) (DV _)
 .exact absurd (CM (jM (I.pin p hp).1) (by rw [z];exact d)) (DV _)
structure Turn (P:Program) (w:World) (K:W.Frag) (tg:Expr) (J:It) (fp:dj) (it:Addr) (tn:Nat->Heap->Prop):Prop where
 mem:it∈fp
 obj:∀ i h,tn i h->∀ b∈fp,∃ o,h.get? b=some o/\∀ v,o.data≠.cell v
 keep:∀ i h h',tn i h->(∀ b∈fp,∀ o,h.get? b=some o->h'.get? b=some o)->tn i h'
 item:∀ (X:Cx),X.prog=P->X.w=w->X.K=K->X.calm=true->∀ (i:Nat) (pins:dc) (s:Shared) (σ:St) (H:Hp) (E:d8),Inv X pins σ H s->(∀ b∈fp,Df X pins H b)->tn i s.heap->J.go i H->
  wpAny (model P w) X.A (pyNext (.ref it)) (λr s1=>∃ u,r=some u/\
   wpAny (model P w) X.A (letOwnedTupleGo tg (.ref it) u) (λ_ s2=>∃ x H',Inv X pins σ H' s2/\RelV x u/\J.yld i H x H'/\tn (i+1) s2.heap/\∀ b∈fp,H' b=none) E s1) E s
 done:∀ (X:Cx),X.prog=P->X.w=w->X.K=K->X.calm=true->∀ (i:Nat) (pins:dc) (s:Shared) (σ:St) (H:Hp) (E:d8),Inv X pins σ H s->(∀ b∈fp,Df X pins H b)->tn i s.heap->J.stop i H->
  wpAny (model P w) X.A (pyNext (.ref it)) (λr s1=>r=none/\Inv X pins σ H s1) E s
 self:∀ (A:Around) (i:Nat) (s:Shared) (Q:d8) (E:d8),tn i s.heap->Q (.ref it) s->wpAny (model P w) A (pyIter (.ref it)) Q E s
abbrev TI:=St->Hp->(It->Hp->Prop)->Prop
def PIE (X:Cx) (a:dc) (i:St) (j:Expr) (R:It->Hp->Prop) (c:Value) (e:Shared):Prop:=
 ∃ (f:Addr) (g:dj) (h:Nat->Heap->Prop) (J:It) (d:Hp),c=.ref f/\Inv X a i d e/\Turn X.prog X.w X.K j J g f h/\h 0 e.heap/\(∀ b∈g,Df X a d b)/\R J d
def PI (X:Cx) (d b:Expr) (e:TI):Prop:=
 ∀ (a:dc) (s:Shared) (c:St) (H:Hp) (R:It->Hp->Prop),Inv X a c H s->e c H R->
   wpAny (model X.prog X.w) X.A (eval b X.env) (λv f=>wpAny (model X.prog X.w) X.A (pyIter v) (PIE X a c d R) X.xe f) X.xe s
def IK {M:Model} {A:Around} {E:d8} {s:Shared} {b:Expr} {c:Addr} {u:Value} {o:Obj} {n:String} {vs:Array Value} {Q:Unit->Shared->Prop} (d:s.heap.get? c=some o) (e:o.cls=.type n) (f:o.data=.fields vs)
  (g:["enumerate","zip","dict_itemiterator","dict_reverseitemiterator","odict_iterator","itertools.zip_longest","itertools.pairwise"].contains n=false) (a:Q Unit.unit s):wpAny M A (letOwnedTupleGo b (.ref c) u) Q E s:=by
 unfold letOwnedTupleGo
 cases b <;> first
  | exact jJ a
  | (cases u <;> first
    | exact jJ a
    | (refine jI (wpAny_load d ?_)
       rw [e,f];show wpAny M A (if (["enumerate","zip","dict_itemiterator","dict_reverseitemiterator","odict_iterator","itertools.zip_longest","itertools.pairwise"].contains n && vs[0]? == some (rawInt _))=true then _ else _) Q E s;rw [jD (by intro h;rw [g,Bool.false_and] at h;cases h)];exact jJ a))
noncomputable def ai (K:W.Frag) (a:Addr):It:=
 {λi H=>∃ b x,SqL K H a b/\b[i]?=some x,λi H x c=>c=H/\∀ b,SqL K H a b->b[i]?=some x,λi H=>∃ b,SqL K H a b/\@b<=i}
noncomputable def aE (K:W.Frag) (a:Addr):It:=
 {λi H=>∃ b x,SqT K H a b/\b[i]?=some x,λi H x c=>c=H/\∀ b,SqT K H a b->b[i]?=some x,λi H=>∃ b,SqT K H a b/\@b<=i}
noncomputable def aF (lo:Int) (n:Nat):It:={λi _=>i<n,λi H x a=>a=H/\x=.int (lo+i),λi _=>n<=i}
def NV {P:Program} {w:World} {K:W.Frag} {U:Expr} (a j:Addr):Turn P w K U (ai K a) [j] j (λi h=>h.IsListIter j a i) where
 mem:=by simp
 obj:=λi h f b m=>by
  let e:b=j:=by simpa using m
  subst e
  let {o,e,c,d}:=f
  exact {o,e,λv z=>by rw [d] at z;cases z}
 keep:=λi h r f k=>f.at λo e=>k j (by simp) o e
 item:=by
  intro X B C D S i g s T H E I y f F
  subst B C D
  let {Y,x,A,G}:=F
  let {J,L,p,Z}:=I.list A
  let {u,hu,ru}:=L.get G
  let {M,N,f2,O,Q,R}:=y j (by simp)
  refine wpAny_pyNext_list_item f p.isList (x:=u) (by simpa using hu) λr n sb=>?_
  let I1:Inv X g T H { s with heap:=r }:=I.turned (t':=s.toks) (λb o m e=>(sb.2 b m).trans e) M N O Q R
  let {o,e,c,d}:=id n
  exact {u,2,IK (s:={ s with heap:=r }) e c d `b {x,H,I1,ru,{2,λys hy=>by rw [I.list_inj hy A];exact G},n,λb m=>(y b m).1}}
 done:=by
  intro X B C D S i g s T H E I y f F
  subst B C D
  let {Y,A,G}:=F
  let {J,L,p,Z}:=I.list A
  let {M,N,f2,O,Q,R}:=y j (by simp)
  let hl:=@L
  exact wpAny_pyNext_list_end (I.ok.hd S) f p.isList (by simp;omega) λr eb=>{2,I.turned (t':=s.toks) (λb o m e=>eb b o m e) M N O Q R}
 self:=λ_ _ _ _ _ f h=>wpAny_pyIter_listiter f h
def NW {P:Program} {w:World} {K:W.Frag} {U:Expr} (a j:Addr):Turn P w K U (aE K a) [j] j (λi h=>h.IsTupleIter j a i) where
 mem:=by simp
 obj:=λi h f b m=>by
  let e:b=j:=by simpa using m
  subst e
  let {o,e,c,d}:=f
  exact {o,e,λv z=>by rw [d] at z;cases z}
 keep:=λi h y f k=>f.at λo e=>k j (by simp) o e
 item:=by
  intro X C D F S i g s T H E I A f G
  subst C D F
  let {Y,x,B,J}:=G
  let {n,L,p,Z}:=I.tuple B
  let {u,hu,ru}:=L.get J
  let {M,N,f2,O,Q,R}:=A j (by simp)
  refine wpAny_pyNext_tuple_item f (show s.heap.IsTuple a n.toArray from p) (x:=u) (by simpa using hu) λy q sb=>?_
  let I1:Inv X g T H { s with heap:=y }:=I.turned (t':=s.toks) (λb o m e=>(sb.2 b m).trans e) M N O Q R
  let {o,e,c,d}:=id q
  exact {u,2,IK (s:={ s with heap:=y }) e c d `b {x,H,I1,ru,{2,λys hy=>by rw [I.tuple_inj hy B];exact J},q,λb m=>(A b m).1}}
 done:=by
  intro X C D F S i g s T H E I A f G
  subst C D F
  let {Y,B,J}:=G
  let {n,L,p,Z}:=I.tuple B
  let {M,N,f2,O,Q,R}:=A j (by simp)
  let hl:=@L
  exact wpAny_pyNext_tuple_end (I.ok.hd S) f (show s.heap.IsTuple a n.toArray from p) (by simp;omega) λy eb=>{2,I.turned (t':=s.toks) (λb o m e=>eb b o m e) M N O Q R}
 self:=λ_ _ _ _ _ f h=>wpAny_pyIter_tupleiter f h
def VM {P:Program} {w:World} {K:W.Frag} {M:Expr} (c:Addr) (lo:Int) (n:Nat):Turn P w K M (aF lo n) [c] c (λi h=>IsRangeIter h c (lo+(i:Nat)*1) ((n:Int) - (i:Nat)) 1) where
 mem:=by simp
 obj:=λi h a b f=>by
  let e:b=c:=by simpa using f
  subst e
  exact {_,a,λv z=>by
   let N:Data.fields _=Data.cell v:=z
   cases N}
 keep:=λi h p a k=>k c (by simp) _ a
 item:=by
  intro X r u x y i d s J H E I q a A
  subst r u x
  let {B,C,O,D,F,G}:=q c (by simp)
  let W:=Walks.range (prog:=X.prog) (w:=X.w) (I.ok.hd y) c lo 1 n
  refine W.item i s _ _ A a λv p L Q g R=>?_
  let {t,rfl}:=Q
  let S:Inv X d J H { s with heap:=p,toks:=L }:=I.turned (λb o f e=>R b o (by simpa using f) e) B C D F G
  refine {1,IK (s:={ s with heap:=p,toks:=L }) (n := "range_iterator") g rfl rfl `b {.int (lo+i),H,S,{t,?_},⟨rfl,rfl⟩,g,λb f=>(q b f).1}}
  rw [Int.mul_one]
 done:=by
  intro X r u x y i d s J H E I q a A
  subst r u x
  let {B,C,O,D,F,G}:=q c (by simp)
  exact wpAny_pyNext_range_end (I.ok.hd y) a (by have:n<=i:=A;omega) λp T=>{2,I.turned (t':=s.toks) (λb o f e=>T b o f e) B C D F G}
 self:=λ_ _ _ _ _ a h=>wpAny_pyIter_rangeiter a h
section
variable {X:Cx} {tg:Expr}
def BW (K:W.Frag) (c:TE):TI:=λd H R=>c d H λx b=>∃ a,x=.ref a/\(∃ e,SqL K b a e)/\R (ai K a) b
def Eu (K:W.Frag) (c:TE):TI:=λd H R=>c d H λx b=>∃ a,x=.ref a/\(∃ e,SqT K b a e)/\R (aE K a) b
def Bz {l:Expr} {g:TE} (i:PE X l g):PI X tg l (BW X.K g):=by
 intro c s j H R I h;refine G_ (i c s j H _ I h) λv d ⟨x,k,f,m,n⟩=>?_;let {a,e,{y,r},q}:=n;subst e;cases m;let {u,z,p,A}:=f.list r;refine wpAny_pyIter_list p.isList ?_;refine {⇑d,[⇑d],9,k,2,f.kept (t':=d.toks) λb o e=>Heap.get?_push_of_some _ e,NV a _,{_,Heap.get?_push_size _ rfl,7},λb w=>?_,q};let e:b=⇑d:=by simpa using w
 subst e;exact f.fpOk (AT _) (f.hok.fresh (AT _))
def IL {l:Expr} {i:TE} (j:PE X l i):PI X tg l (Eu X.K i):=by
 intro c s k H R I h;refine G_ (j c s k H _ I h) λv d ⟨x,m,f,n,r⟩=>?_;let {a,e,{y,u},q}:=r;subst e;cases n;let {g,z,p,A}:=f.tuple u;refine wpAny_pyIter_tuple (show d.heap.IsTuple a g.toArray from p) ?_;refine {⇑d,[⇑d],9,m,2,f.kept (t':=d.toks) λb o e=>Heap.get?_push_of_some _ e,NW a _,{_,Heap.get?_push_size _ rfl,7},λb w=>?_,q};let e:b=⇑d:=by simpa using w
 subst e;exact f.fpOk (AT _) (f.hok.fresh (AT _))
def VN {d:dc} {i:St} {H:Hp} {s:Shared} {R:It->Hp->Prop} {E:d8} {lo c:Int} {t u v:Tok} {tk:Nat} (I:Inv X d i H s) (k:-(2 ^ 62)<=lo) (m:lo<2 ^ 62) (n:-(2 ^ 62)<=c) (p:c<2 ^ 62)
  (q:R (aF lo (c - lo).toNat) H):wpAny (model X.prog X.w) X.A (pyIter (.ref ⇑s)) (PIE X d i tg R) E { s with heap:=s.heap.push { cls:=.type "range", data:=.fields #[.int lo t,.int c u,.int 1 v] },toks:=tk }:=by
 refine wpAny_pyIter_range (IsRange.new ..) (small_one k m n p) ?_;let j:Inv X d i H { s with heap:=s.heap.push { cls:=.type "range", data:=.fields #[.int lo t,.int c u,.int 1 v] },toks:=tk }:=I.kept λb o e=>Heap.get?_push_of_some _ e
 refine {(s.heap.push { cls:=.type "range", data:=.fields #[.int lo t,.int c u,.int 1 v] }).objs.size,[(s.heap.push { cls:=.type "range", data:=.fields #[.int lo t,.int c u,.int 1 v] }).objs.size],_,_,H,rfl,
  j.kept (t':=tk) λb o e=>Heap.get?_push_of_some _ e,VM _ lo (c - lo).toNat,?_,λb r=>?_,q}
 .let w:lo+((0:Nat):Int)*1=lo:=by simp
  let x:(((c - lo).toNat:Nat):Int) - ((0:Nat):Int)=Builtin.Range.rangeSize lo c 1:=by rw [rangeSize_one];split <;> omega
  show IsRangeIter _ _ (lo+((0:Nat):Int)*1) ((((c - lo).toNat:Nat):Int) - ((0:Nat):Int)) 1;rw [w,x];exact Heap.get?_push_size _ rfl
 .let e:b=(s.heap.push { cls:=.type "range", data:=.fields #[.int lo t,.int c u,.int 1 v] }).objs.size:=by simpa using r
  subst e;exact j.fpOk (AT _) (j.hok.fresh (AT _))
def DM (a:TA):TI:=λb H R=>a b H λc d=>∃ j:Int,c=[.int j]/\-(2 ^ 62)<=j/\j<2 ^ 62/\R (aF 0 j.toNat) d
theorem Ev {a:Expr} {f:TA} {p b:Pos} (g:Gl X "range") (i:X.mg "range" = none) (k:PA X [a] f) (m:starEach [a] X.env=[(false,eval a X.env)]:=by rfl):PI X tg (.Call (.Name "range" p) [a] [] b) (DM f):=by
 intro c s n H R I h;refine Call_ (Es I g i boot_range (PyProof.Rows.callWith_type1 (G_ (k b c s n H _ I h) λx y ⟨z,A,o,u,d⟩=>?_) m rfl));let {j,e,d,v,q}:=d;subst e;cases u with
 | cons r w=>
   cases w;let {t,rfl}:=r;exact call_range_1 (VN o `a `a d v (by simpa using q))
def BH (f:TI) (g:TG) (h:TS):TS:=λD a H=>f a H λJ j=>∃ W:Nat->Nat->St->Hp->Prop,(∃ m,W 0 m a j)/\∀ i m a H,W i m a H->
 (J.stop i H/\D.nx a H)\/(J.go i H/\∃ N:St->Hp->Prop,(∀ b c,N b c->∃ e,e<m/\W (i+1) e b c)/\∀ x c,J.yld i H x c->g x a c λd k=>h { D with nx:=N,ct:=N,bk:=D.nx } d k)
noncomputable def JZ (a:dj) (h:Heap):dc:=a.filterMap λb=>(h.get? b).map λo=>(b,o)
def Ja {a:dj} {h:Heap} {b:Addr} {o:Obj} (c:b∈a) (e:h.get? b=some o):(b,o)∈JZ a h:=List.mem_filterMap.mpr {b,c,by rw [e];rfl}
theorem VO {a:dj} {h:Heap} {p:Addr×Obj} (hp:p∈JZ a h):p.1∈a/\h.get? p.1=some p.2:=by
 let {b,c,e}:=List.mem_filterMap.mp hp;cases q:h.get? b with
 | none=>rw [q] at e;cases e
 | some o=>
   rw [q] at e;let d:(b,o)=p:=jL e;subst d;exact ⟨c,q⟩
def Inv.pinned {a:dc} {f:St} {H:Hp} {s:Shared} {c:dj} (I:Inv X a f H s) (i:∀ b∈c,Df X a H b) (j:∀ b∈c,∃ o,s.heap.get? b=some o/\∀ v,o.data≠.cell v):Inv X (a++JZ c s.heap) f H s:=
 I.pins_of λp hp=>(C5.mp hp).elim (λz=>I.pin p (Ch _ z)) λz=>by
  let {g,e}:=VO z;let {k,m,n,_}:=i p.1 g;let {o,h,d}:=j p.1 g;rw [e] at h;cases h;exact ⟨e,k,m,n,d⟩
def Inv.unpinned {a c:dc} {b:St} {H:Hp} {s:Shared} (I:Inv X (a++c) b H s):Inv X a b H s:=I.pins_of λp hp=>I.pin p (Ch _ (Ei _ hp))
def Bu {j:Expr} {C:List Stmt} {wi:TI} {g:TG} {tb:TS} {S:Pos} (hp:PassesOwn (model X.prog X.w) X.A X.env X.xe) (hc:X.calm=true) (hi:PI X tg j wi) (hg:PG X tg g) (k:PSs X C tb)
  (hs:∀ x,foldedSetIterable j X.env x=pure x:=by intro _;rfl):PS X (.For tg j C [] S) (BH wi g tb):=by
 intro a s σ H D I h;refine wpAny_For (G_ (hi a s σ H _ I h) λv s1 h1=>G_ h1 λa2 s2 h2=>?_) hs;let {it,G,tn,J,H2,e,I2,T,U,f2,W,{m0,w0},K}:=h2;subst e;let p:∀ {B:Hp},(∀ b∈G,B b=none)->∀ b∈G,Df X a B b:=λhn b k=>{hn b k,(f2 b k).2};refine codeAny_forLoop_any (λn s'=>∃ i q B,Inv X a q B s'/\tn i s'.heap/\(∀ b∈G,B b=none)/\W i n q B) ?_ m0 {0,σ,H2,I2,U,λb k=>(f2 b k).1,w0};rintro n s3 ⟨i,w,R,I3,L,M,w3⟩;rcases K i n w R w3 with ⟨O,qn⟩ | ⟨go,N,hN,P⟩
 .refine wpAny_passesOwn hp (G_ (T.done X rfl rfl rfl hc i a s3 w R X.xe I3 (p M) L O) λr s4 ⟨Y,I4⟩=>?_);subst Y;exact wpAny_execs_nil ⟨w,R,I4,qn⟩
 .refine wpAny_passesOwn hp (G_ (T.item X rfl rfl rfl hc i a s3 w R X.xe I3 (p M) L go) λr s4 ⟨u,Y,h4⟩=>?_);subst Y;refine wpAny_passesOwn hp (G_ h4 λ_ s5 ⟨x,H5,I5,r5,y5,F,Z⟩=>?_);let a0:=I5.pinned (p Z) (T.obj _ _ F);refine wpAny_passesOwn hp (G_ (hg _ s5 w H5 x u _ a0 r5 (P x H5 y5)) λ_ s6 ⟨a1,H6,I6,q6⟩=>?_);refine wpAny_passesOwn hp (G_ (k _ s6 a1 H6 _ I6 q6) λf s7 E=>?_)
  let y:∀ {c:St} {z:Hp},Inv X (a++JZ G s5.heap) c z s7->N c z->∃ m,m<n/\∃ i q B,Inv X a q B s7/\tn i s7.heap/\(∀ b∈G,B b=none)/\W i m q B:=λ{c z} A Q=>by
   let {m',hm,w7}:=hN c z Q;refine {m',hm,i+1,c,z,A.unpinned,T.keep _ _ _ F λb k o e=>(A.pin (b,o) (Ch _ (Ch _ (Ja k e)))).1,λb k=>?_,w7};let {o,e,d}:=T.obj _ _ F b k;exact (A.pin (b,o) (Ch _ (Ch _ (Ja k e)))).2.1
  cases f with
  | next=>let ⟨c,z,A,Q⟩:=E;exact y A Q
  | cont=>let ⟨c,z,A,Q⟩:=E;exact y A Q
  | brk=>let ⟨c,z,A,E⟩:=E;exact ⟨c,z,A.unpinned,E⟩
  | ret v=>let ⟨x7,c,z,A,r7,E⟩:=E;exact ⟨x7,c,z,A.unpinned,r7,E⟩
end
def VP {K:W.Frag} {a:Addr} {xs:cZ} {g:TG} {k:TS} {D:Ends} {b:St} {H:Hp} (Pv:Nat->St->Hp->Prop) (o:Pv 0 b H) (r:∀ i b H,i<=@xs->Pv i b H->SqL K H a xs)
  (u:∀ i x b H,xs[i]?=some x->Pv i b H->g x b H λc j=>k { D with nx:=Pv (i+1),ct:=Pv (i+1),bk:=D.nx } c j) (A:∀ b H,Pv @xs b H->D.nx b H) :
  ∃ W:Nat->Nat->St->Hp->Prop,(∃ m,W 0 m b H)/\∀ i m b H,W i m b H->
    ((ai K a).stop i H/\D.nx b H)\/((ai K a).go i H/\∃ N:St->Hp->Prop,(∀ d f,N d f->∃ n,n<m/\W (i+1) n d f)/\∀ x f,(ai K a).yld i H x f->g x b f λc j=>k { D with nx:=N,ct:=N,bk:=D.nx } c j):=by
 refine {λi m b H=>m=@xs - i/\i<=@xs/\Pv i b H,{@xs,by simp,Ah _,o},?_};rintro i m b H ⟨rfl,B,p⟩;let q:=r i b H B p;by_cases h:i<@xs
 .refine .inr {{xs,xs[i],q,by simp [h]},Pv (i+1),λd f C=>{@xs - (i+1),`a,2,h,C},λx f y=>?_};let {e,y}:=y;subst e;exact u i x b _ (y xs q) p
 .let e:i=@xs:=by omega
  subst e;exact .inl {{xs,q,AT _},A b H p}
def NX {K:W.Frag} {a:Addr} {xs:cZ} {g:TG} {k:TS} {D:Ends} {b:St} {H:Hp} (Pv:Nat->St->Hp->Prop) (o:Pv 0 b H) (r:∀ i b H,i<=@xs->Pv i b H->SqT K H a xs)
  (u:∀ i x b H,xs[i]?=some x->Pv i b H->g x b H λc j=>k { D with nx:=Pv (i+1),ct:=Pv (i+1),bk:=D.nx } c j) (A:∀ b H,Pv @xs b H->D.nx b H) :
  ∃ W:Nat->Nat->St->Hp->Prop,(∃ m,W 0 m b H)/\∀ i m b H,W i m b H->
    ((aE K a).stop i H/\D.nx b H)\/((aE K a).go i H/\∃ N:St->Hp->Prop,(∀ d f,N d f->∃ n,n<m/\W (i+1) n d f)/\∀ x f,(aE K a).yld i H x f->g x b f λc j=>k { D with nx:=N,ct:=N,bk:=D.nx } c j):=by
 refine {λi m b H=>m=@xs - i/\i<=@xs/\Pv i b H,{@xs,by simp,Ah _,o},?_};rintro i m b H ⟨rfl,B,p⟩;let q:=r i b H B p;by_cases h:i<@xs
 .refine .inr {{xs,xs[i],q,by simp [h]},Pv (i+1),λd f C=>{@xs - (i+1),`a,2,h,C},λx f y=>?_};let {e,y}:=y;subst e;exact u i x b _ (y xs q) p
 .let e:i=@xs:=by omega
  subst e;exact .inl {{xs,q,AT _},A b H p}
def VQ {lo:Int} {n:Nat} {g:TG} {j:TS} {D:Ends} {a:St} {H:Hp} (Pv:Nat->St->Hp->Prop) (o:Pv 0 a H)
  (q:∀ i a H,i<n->Pv i a H->g (.int (lo+i)) a H λb h=>j { D with nx:=Pv (i+1),ct:=Pv (i+1),bk:=D.nx } b h) (w:∀ a H,Pv n a H->D.nx a H) :
  ∃ W:Nat->Nat->St->Hp->Prop,(∃ m,W 0 m a H)/\∀ i m a H,W i m a H->
    ((aF lo n).stop i H/\D.nx a H)\/((aF lo n).go i H/\∃ N:St->Hp->Prop,(∀ c d,N c d->∃ k,k<m/\W (i+1) k c d)/\∀ x d,(aF lo n).yld i H x d->g x a d λb h=>j { D with nx:=N,ct:=N,bk:=D.nx } b h):=by
 refine {λi m a H=>m=n - i/\i<=n/\Pv i a H,{n,by simp,Ah _,o},?_};rintro i m a H ⟨rfl,A,p⟩;by_cases f:i<n
 .refine .inr {f,Pv (i+1),λc d z=>{n - (i+1),`a,2,f,z},λx d y=>?_};let {e,y}:=y;subst e y;exact q i a _ f p
 .let e:i=n:=by omega
  subst e;exact .inl {AT _,w a H p}
abbrev R2:=V->V->Hp->VK->Prop
def OpR (X:Cx) (f:Value->Value->Sem Value) (r:R2):Prop:=
 ∀ (a:dc) (s:Shared) (b:St) (H:Hp) (x y:V) (v u:Value) (Q:VK),Inv X a b H s->RelV x v->RelV y u->r x y H Q->
   wpAny (model X.prog X.w) X.A (f v u) (EP X a b Q) X.xe s
def UnR (X:Cx) (f:Value->Sem Value) (r:V->Hp->VK->Prop):Prop:=
 ∀ (a:dc) (s:Shared) (b:St) (H:Hp) (x:V) (v:Value) (Q:VK),Inv X a b H s->RelV x v->r x H Q->
   wpAny (model X.prog X.w) X.A (f v) (EP X a b Q) X.xe s
def Cl (X:Cx) (f:Value) (r:cZ->Hp->VK->Prop):Prop:=
 ∀ (a:dc) (s:Shared) (b:St) (H:Hp) (c:cZ) (d:d7) (Q:VK),Inv X a b H s->Vals c d->r c H Q->
   wpAny (model X.prog X.w) X.A (call f d) (EP X a b Q) X.xe s
def VR (X:Cx) (r:V->Hp->(Bool->Hp->Prop)->Prop):Prop:=
 ∀ (a:dc) (s:Shared) (b:St) (H:Hp) (x:V) (v:Value) (Q:Bool->Hp->Prop),Inv X a b H s->RelV x v->r x H Q->
   wpAny (model X.prog X.w) X.A (truthy v) (TP X a b Q) X.xe s
def A_ (r:R2) (b c:TE):TE:=λa H Q=>b a H λx d=>c a d λy e=>r x y e Q
def T_ (r:V->Hp->VK->Prop) (a:TE):TE:=λb H Q=>a b H λx c=>r x c Q
inductive rI(C:Int->Int->Prop)(g:Int->Int->V)(x y:V)(H:Hp)(Q:VK):Prop
 |mk(i j):x=.int i->y=.int j->C i j->Q (g i j) H->rI C g x y H Q
def VS {C:Int->Int->Prop} {g:Int->Int->V} {x:V} {y:V} {H:Hp} {Q:VK}:rI C g x y H Q=∃ i j,x=.int i/\y=.int j/\C i j/\Q (g i j) H:=propext {λ⟨a,b,c,d,e,f⟩=>⟨a,b,c,d,e,f⟩,λ⟨a,b,c,d,e,f⟩=>⟨a,b,c,d,e,f⟩}
inductive ag(g:Int->Int->V)(x y:V)(H:Hp)(Q:VK):Prop
 |mk(i j):x=.int i->y=.int j->Q (g i j) H->ag g x y H Q
def VT {g:Int->Int->V} {x:V} {y:V} {H:Hp} {Q:VK}:ag g x y H Q=∃ i j,x=.int i/\y=.int j/\Q (g i j) H:=propext {λ⟨a,b,c,d,e⟩=>⟨a,b,c,d,e⟩,λ⟨a,b,c,d,e⟩=>⟨a,b,c,d,e⟩}
inductive rU(g:Int->V)(x:V)(H:Hp)(Q:VK):Prop
 |mk(i):x=.int i->Q (g i) H->rU g x H Q
def VU {g:Int->V} {x:V} {H:Hp} {Q:VK}:rU g x H Q=∃ i,x=.int i/\Q (g i) H:=propext {λ⟨a,b,c⟩=>⟨a,b,c⟩,λ⟨a,b,c⟩=>⟨a,b,c⟩}
section
variable {X:Cx} {a b c:Expr} {ta tb tc:TE} {pos:Pos}
def K6 (n:PE X a ta) (o:PE X b tb) {d:dc} {s:Shared} {e:St} {H:Hp} {R:V->V->Hp->Prop} (I:Inv X d e H s)
  (h:ta e H λx m=>tb e m λy g=>R x y g) {Q:d8} {f:Value->Value->Sem Value}
  (p:∀ v u k x y g,Inv X d e g k->RelV x v->RelV y u->R x y g->wpAny (model X.prog X.w) X.A (f v u) Q X.xe k) :
  wpAny (model X.prog X.w) X.A (eval a X.env) (λv i=>wpAny (model X.prog X.w) X.A (eval b X.env) (λu j=>wpAny (model X.prog X.w) X.A (f v u) Q X.xe j) X.xe i) X.xe s:=by
 refine G_ (n d s e H _ I h) λv q ⟨x,m,r,w,z⟩=>?_;refine G_ (o d q e m _ r z) λu k ⟨y,g,A,B,C⟩=>?_;exact p v u k x y g A w B C
def AQ {e:Operator} {r:R2} (f:OpR X (binaryOp e) r) (g:PE X a ta) (i:PE X b tb):PE X (.BinOp a e b pos) (A_ r ta tb):=by
 intro d s j H Q I h;exact wpAny_BinOp (K6 g i I h λv u k x y m n o p q=>f d k j m x y v u Q n o p q)
def B2 {e:UnaryOp} {r:V->Hp->VK->Prop} (g:UnR X (unaryOp e) r) (i:PE X a ta):PE X (.UnaryOp e a pos) (T_ r ta):=by
 intro d s f H Q I h;exact UnaryOp_ (G_ (i d s f H _ I h) λv j ⟨x,k,m,n,o⟩=>g d j f k x v Q m n o)
def b5 {f:Value->Value->Sem Value} {C:Int->Int->Prop} {g:Int->Int->Int}
  (rule:∀ (i j:Int) (t u:Tok) (s:Shared) (Q:d8) (E:d8),C i j->Q (.int (g i j) s.toks) { s with toks:=s.toks+1 }->wpAny (model X.prog X.w) X.A (f (.int i t) (.int j u)) Q E s) :
  OpR X f (rI C λi j=>.int (g i j)):=by
 intro e s p H x y v u Q I k m h;let {i,j,rfl,rfl,n,q}:=h;let {t,rfl}:=k;let {o,rfl}:=m;exact rule i j t o s _ _ n {.int (g i j),H,I.tok _,{1},q}
def Jb {f:Value->Value->Sem Value} {g:Int->Int->Int}
  (rule:∀ (i j:Int) (t u:Tok) (s:Shared) (Q:d8) (E:d8),Q (.int (g i j) s.toks) { s with toks:=s.toks+1 }->wpAny (model X.prog X.w) X.A (f (.int i t) (.int j u)) Q E s) :
  OpR X f (ag λi j=>.int (g i j)):=by
 intro e s o H x y v u Q I k m h;let {i,j,rfl,rfl,q}:=h;let {t,rfl}:=k;let {n,rfl}:=m;exact rule i j t n s _ _ {.int (g i j),H,I.tok _,{1},q}
def Jc {f:Value->Value->Sem Value} {g:Int->Int->Bool}
  (rule:∀ (i j:Int) (t u:Tok) (s:Shared) (Q:d8) (E:d8),Q (.bool (g i j)) s->wpAny (model X.prog X.w) X.A (f (.int i t) (.int j u)) Q E s) :
  OpR X f (ag λi j=>.bl (g i j)):=by
 intro d s n H x y v u Q I e k h;let {i,j,rfl,rfl,q}:=h;let {t,rfl}:=e;let {m,rfl}:=k;exact rule i j t m s _ _ {.bl (g i j),H,I,2,q}
def Ba:OpR X (binaryOp .Add) (ag λi j=>.int (i+j)):=Jb λ_ _ _ _ _ _ _ q=>add_int q
def CQ:OpR X (binaryOp .Sub) (ag λi j=>.int (i - j)):=Jb λ_ _ _ _ _ _ _ q=>sub_int q
def Cw:OpR X (binaryOp .Mod) (rI (λ_ j=>0<j) λi j=>.int (i % j)):=b5 λi j _ _ _ _ _ d q=>by
 let e:(0:Int)<j:=d;exact mod_int' `a (by rw [Int.fmod_eq_emod_of_nonneg i `a];exact q)
def VV:OpR X (binaryOp .Mod) (rI (λ_ j=>j≠0) λi j=>.int (i.fmod j)):=b5 λ_ _ _ _ _ _ _ d q=>mod_int' d q
def VW:OpR X (inplaceOp .Add) (ag λi j=>.int (i+j)):=Jb λ_ _ _ _ _ _ _ q=>iadd_int q
def IM:OpR X (inplaceOp .Sub) (ag λi j=>.int (i - j)):=Jb λ_ _ _ _ _ _ _ q=>isub_int q
def VX {f:Value->Sem Value} {g:Int->Int}
  (rule:∀ (i:Int) (t:Tok) (s:Shared) (Q:d8) (E:d8),Q (.int (g i) s.toks) { s with toks:=s.toks+1 }->wpAny (model X.prog X.w) X.A (f (.int i t)) Q E s) :
  UnR X f (rU λi=>.int (g i)):=by
 intro e s k H x v Q I j h;let {i,rfl,q}:=h;let {t,rfl}:=j;exact rule i t s _ _ {.int (g i),H,I.tok _,{1},q}
def B3:UnR X (unaryOp .USub) (rU λi=>.int (-i)):=VX λ_ _ _ _ _ q=>neg_int q
end
noncomputable def scal:V->V->Bool
 | .non,.non=>true | .non,.int _=>true | .int _,.non=>true | .non,.bl _=>true | .bl _,.non=>true | .non,.str _=>true | .str _,.non=>true
 | .int _,.int _=>true | .bl _,.bl _=>true | .str _,.str _=>true | .byt _,.byt _=>true
 | .int _,.str _=>true | .str _,.int _=>true | .bl _,.str _=>true | .str _,.bl _=>true
 | _,_=>false
def aG:R2:=λx y H Q=>scal x y=true/\Q (.bl (decide (x=y))) H
def ak:R2:=λx y H Q=>scal x y=true/\Q (.bl (!decide (x=y))) H
def NY {i j:Int}:decide (V.int i=V.int j)=(i == j):=by
 rw [Ej];simp
def NZ {i j:Bool}:decide (V.bl i=V.bl j)=(i == j):=by
 rw [Ej];simp
def Na {i j:Str}:decide (V.str i=V.str j)=(i == j):=by
 rw [Ej];simp
def Nc {i j:Array UInt8}:decide (V.byt i=V.byt j)=(i.toList == j.toList):=by
 rw [Ej];cases i;cases j;simp
section
variable {X:Cx} {a b c:Expr} {ta tb tc:TE} {pos:Pos}
def Bv {d:dc} {f:St} {H:Hp} {s:Shared} {Q:VK} {k g:Bool} (I:Inv X d f H s) (q:Q (.bl k) H) (e:k=g):EP X d f Q (.bool g) s:=by
 subst e;exact {.bl k,H,I,2,q}
theorem FK:OpR X (compareOp .Eq) aG:=by
 intro k s m H x y v u Q I g d h;let {f,q}:=h;cases x with
 | non=>
   cases g;cases y with
   | non=>cases d;exact PySem.EqNone.eq_none_none (Bv I q (by simp))
   | bl j=>cases d;exact PySem.EqNone.eq_none_bool (Bv I q (by simp))
   | int j=>let ⟨e,rfl⟩:=d;exact PySem.EqNone.eq_none_int (Bv I q (by simp))
   | str j=>let ⟨e,rfl⟩:=d;exact PySem.EqNone.eq_none_str (Bv I q (by simp))
   | _=>exact absurd (show false=true from f) Cg
 | bl i=>
   cases g;cases y with
   | non=>cases d;exact PySem.EqNone.eq_bool_none (Bv I q (by simp))
   | bl j=>cases d;exact eq_bool (Bv I q NZ)
   | str j=>let ⟨e,rfl⟩:=d;exact PySem.EqMixed.eq_bool_str (Bv I q (by simp))
   | _=>exact absurd (show false=true from f) Cg
 | int i=>
   let {t,rfl}:=g;cases y with
   | non=>cases d;exact PySem.EqNone.eq_int_none (Bv I q (by simp))
   | int j=>let ⟨e,rfl⟩:=d;exact eq_int (Bv I q NY)
   | str j=>let ⟨e,rfl⟩:=d;exact PySem.EqMixed.eq_int_str (Bv I q (by simp))
   | _=>exact absurd (show false=true from f) Cg
 | str i=>
   let {t,rfl}:=g;cases y with
   | non=>cases d;exact PySem.EqNone.eq_str_none (Bv I q (by simp))
   | bl j=>cases d;exact PySem.EqMixed.eq_str_bool (Bv I q (by simp))
   | int j=>let ⟨e,rfl⟩:=d;exact PySem.EqMixed.eq_str_int (Bv I q (by simp))
   | str j=>let ⟨e,rfl⟩:=d;exact eq_str (Bv I q Na)
   | _=>exact absurd (show false=true from f) Cg
 | byt i=>
   let {t,rfl}:=g;cases y with
   | byt j=>let ⟨e,rfl⟩:=d;exact W.eq_bytes (Bv I q Nc)
   | _=>exact absurd (show false=true from f) Cg
 | _=>cases y <;> exact absurd (show false=true from f) Cg
theorem Dx:OpR X (compareOp .NotEq) ak:=by
 intro k s m H x y v u Q I g d h;let {f,q}:=h;cases x with
 | non=>
   cases g;cases y with
   | non=>cases d;exact PySem.EqNone.ne_none_none (Bv I q (by simp))
   | bl j=>cases d;exact PySem.EqNone.ne_none_bool (Bv I q (by simp))
   | int j=>let ⟨e,rfl⟩:=d;exact PySem.EqNone.ne_none_int (Bv I q (by simp))
   | str j=>let ⟨e,rfl⟩:=d;exact PySem.EqNone.ne_none_str (Bv I q (by simp))
   | _=>exact absurd (show false=true from f) Cg
 | bl i=>
   cases g;cases y with
   | non=>cases d;exact PySem.EqNone.ne_bool_none (Bv I q (by simp))
   | bl j=>cases d;exact ne_bool (Bv I q (congrArg not NZ))
   | str j=>let ⟨e,rfl⟩:=d;exact PySem.EqMixed.ne_bool_str (Bv I q (by simp))
   | _=>exact absurd (show false=true from f) Cg
 | int i=>
   let {t,rfl}:=g;cases y with
   | non=>cases d;exact PySem.EqNone.ne_int_none (Bv I q (by simp))
   | int j=>let ⟨e,rfl⟩:=d;exact ne_int (Bv I q (congrArg not NY))
   | str j=>let ⟨e,rfl⟩:=d;exact PySem.EqMixed.ne_int_str (Bv I q (by simp))
   | _=>exact absurd (show false=true from f) Cg
 | str i=>
   let {t,rfl}:=g;cases y with
   | non=>cases d;exact PySem.EqNone.ne_str_none (Bv I q (by simp))
   | bl j=>cases d;exact PySem.EqMixed.ne_str_bool (Bv I q (by simp))
   | int j=>let ⟨e,rfl⟩:=d;exact PySem.EqMixed.ne_str_int (Bv I q (by simp))
   | str j=>let ⟨e,rfl⟩:=d;exact ne_str (Bv I q (congrArg not Na))
   | _=>exact absurd (show false=true from f) Cg
 | byt i=>
   let {t,rfl}:=g;cases y with
   | byt j=>let ⟨e,rfl⟩:=d;exact W.ne_bytes (Bv I q (congrArg not Nc))
   | _=>exact absurd (show false=true from f) Cg
 | _=>cases y <;> exact absurd (show false=true from f) Cg
def Fq:OpR X (compareOp .Lt) (ag λi j=>.bl (decide (i<j))):=Jc λ_ _ _ _ _ _ _ q=>lt_int q
def VY:OpR X (compareOp .LtE) (ag λi j=>.bl (decide (i<=j))):=Jc λ_ _ _ _ _ _ _ q=>le_int q
def Dn:OpR X (compareOp .Gt) (ag λi j=>.bl (decide (j<i))):=Jc λ_ _ _ _ _ _ _ q=>gt_int q
def Nd:OpR X (compareOp .GtE) (ag λi j=>.bl (decide (j<=i))):=Jc λ_ _ _ _ _ _ _ q=>ge_int q
def K7:OpR X (compareOp .Is) (λx y H Q=>y=.non/\Q (.bl (decide (x=.non))) H):=by
 intro d s g H x y v u Q I e f h;let {rfl,q}:=h;cases f;refine is_none_gen (Bv I q ?_)
 cases x <;> first
  | (cases e;rfl)
  | (let ⟨t,rfl⟩:=e;rfl)
def Nf:OpR X (compareOp .IsNot) (λx y H Q=>y=.non/\Q (.bl (!decide (x=.non))) H):=by
 intro d s g H x y v u Q I e f h;let {rfl,q}:=h;cases f;refine isnot_none_gen (Bv I q ?_)
 cases x <;> first
  | (cases e;rfl)
  | (let ⟨t,rfl⟩:=e;rfl)
def X_ (b:Expr) {d:CmpOp} (h:d≠.In:=by decide) (e:d≠.NotIn:=by decide):behindInMarks d b=false:=by
 let f:(d == CmpOp.In)=false:=by cases d <;> first | rfl | exact absurd rfl h
 let g:(d == CmpOp.NotIn)=false:=by cases d <;> first | rfl | exact absurd rfl e
 cases b <;> simp [behindInMarks,f,g]
def IN {e:CmpOp} {r:R2} (f:OpR X (compareOp e) r) (g:PE X a ta) (i:PE X b tb) (j:behindInMarks e b=false):PE X (.Compare a [e] [b] pos) (A_ r ta tb):=by
 intro d s k H Q I h;exact wpAny_Compare1 (K6 g i I h λv u m x y n o p w q=>f d m k n x y v u Q o p w q) j
def Ap (t:TE):TT:=λd H Q=>t d H λx e=>∃ k,x=.bl k/\Q k e
def VZ {f:CmpOp} {r:R2} (i:OpR X (compareOp f) r) (j:PE X a ta) (m:PE X b tb) (n:behindInMarks f b=false):PT X (.Compare a [f] [b] pos) (Ap (A_ r ta tb)):=by
 intro d s g H Q I h
 refine wpAny_isTrue_Compare1 (G_ (j d s g H _ I h) λv o ⟨x,p,q,w,A⟩=>G_ (m d o g p _ q A) λu B ⟨y,C,D,E,F⟩=>
  G_ (i d B g C x y v u _ D w E F) λc M ⟨z,G,J,K,k,e,L⟩=>?_) n
 subst e;cases K;exact wpAny_truthy_bool ⟨G,J,L⟩
def Jd (r f:R2) (ta tb tc:TE):TE:=λd H Q=>ta d H λx g=>tb d g λy h=>r x y h λz e=>∃ k,z=.bl k/\
 (if k=true then tc d e λi j=>f y i j Q else Q (.bl false) e)
theorem Ng {j g:CmpOp} {r n:R2} (A:OpR X (compareOp j) r) (m:OpR X (compareOp g) n) (B:PE X a ta) (C:PE X b tb) (D:PE X c tc)
  (E:lastMarks [j,g] [b,c]=false:=by with_unfolding_all rfl):PT X (.Compare a [j,g] [b,c] pos) (Ap (Jd r n ta tb tc)):=by
 intro f s i H Q I h
 refine isTrue_chain (G_ (B f s i H _ I h) λv F ⟨x,G,J,K,L⟩=>test_link (G_ (C f F i G _ J L) λu M ⟨y,N,O,o,P⟩=>
  G_ (A f M i N x y v u _ O K o P) λd R ⟨z,p,q,S,k,e,w⟩=>?_)) E
 subst e;cases S;refine wpAny_truthy_bool ?_;cases k with
 | false=>
   let {k',T,U}:=w;cases T;exact ite_ff ⟨p,q,U⟩
 | true=>
   refine ite_tt (test_last (G_ (D f R i p _ q w) λW Y ⟨Z,H4,I4,r4,q4⟩=>G_ (m f Y i H4 y Z u W _ I4 o r4 q4) λd' s5 ⟨z2,H5,I5,r5,k2,e2,q5⟩=>?_));subst e2;cases r5;exact wpAny_truthy_bool ⟨H5,I5,q5⟩
def Va (K:W.Frag) (x:V) (H:Hp) (k:Bool):Prop:=
 match x with
 | .non=>k=false
 | .bl b=>k=b
 | .int i=>k=(i != 0)
 | .str y=>@y<=sizeLine/\k=((@y:Int) != 0)
 | .byt y=>y.size<=sizeLine/\k=((y.size:Int) != 0)
 | .ref p=>(∃ d,SqL K H p d/\k=!d.isEmpty)\/(∃ d,SqT K H p d/\k=!d.isEmpty)\/∃ e,H p=some (.dK e)/\k=!e.isEmpty
 | _=>False
def Vb {d:Type} {kvs:List (d×V)} {vs:List (d×Value)} (r:KV kvs vs):(!vs.isEmpty)=!kvs.isEmpty:=by
 cases r <;> rfl
def Ni {xs:cZ} {its:d7} (r:Vals xs its):(!its.toArray.isEmpty)=!xs.isEmpty:=by
 cases r <;> simp
def HP:(sizeLine:Nat)<2 ^ 63:=by rw [sizeLine_eq];decide
theorem Vc:VR X (λx H Q=>∃ k,Va X.K x H k/\Q k H):=by
 intro A s E H x v Q I n h;let {k,e,q}:=h;let F:=HP;let G:sizeLine=16777216:=sizeLine_eq;cases x with
 | non=>
   cases n;let d:k=false:=e;subst d;exact truthy_none ⟨H,I,q⟩
 | bl b=>
   cases n;let d:k=b:=e;subst d;exact wpAny_truthy_bool ⟨H,I,q⟩
 | int i=>
   let {t,rfl}:=n;let d:k=(i != 0):=e;subst d;exact PySem.P.truthy_int ⟨H,I,q⟩
 | str y=>
   let {t,rfl}:=n;let {C,d}:@y<=sizeLine/\k=((@y:Int) != 0):=e;subst d;exact PySem.P.truthy_str `a {H,I.tok _,q}
 | byt y=>
   let {t,rfl}:=n;let {C,d}:y.size<=sizeLine/\k=((y.size:Int) != 0):=e;subst d;exact W.truthy_bytes `a {H,I.tok _,q}
 | ref p=>
   cases n;let d:(∃ j,SqL X.K H p j/\k=!j.isEmpty)\/(∃ j,SqT X.K H p j/\k=!j.isEmpty)\/∃ f,H p=some (.dK f)/\k=!f.isEmpty:=e;rcases d with ⟨j,o,d⟩ | ⟨j,o,d⟩ | ⟨f,o,d⟩
   .subst d;let {w,r,z,B}:=I.list o;let g:=@r;exact wpAny_truthy_list z.isList (by simp only [BI];omega) {H,I.tok _,by rw [Ni r];exact q}
   .subst d;let {w,r,z,B}:=I.tuple o;let g:=@r;exact truthy_tuple z (by simp only [BI];omega) {H,I.tok _,by rw [Ni r];exact q}
   .subst d;let {B,D,u,r,m}:@f<=sizeLine/\(p == sysModules)=false/\∃ u,KV f u/\s.heap.DictOf (Ep X.prog X.w) p u:=I.hok p _ o;let g:@f=@u:=Paired.length r;exact wpAny_truthy_dict D m `a {H,I.tok _,by rw [Vb r];exact q}
 | _=>exact (show False from e).elim
theorem EZ {x:V} {d:d7} (r:Vals [x] d):∃ u,d=[u]/\RelV x u:=by
 cases r with
 | cons e f=>cases f;exact {1,e}
theorem vals2 {x y:V} {d:d7} (r:Vals [x,y] d):∃ u e,d=[u,e]/\RelV x u/\RelV y e:=by
 cases r with
 | cons f g=>
   cases g with
   | cons h i=>cases i;exact {6,f,h}
def Vd:Cl X (.builtin "abs") (λd H Q=>∃ i,d=[.int i]/\Q (.int (if i<0 then -i else i)) H):=by
 intro e s f H d g Q I r h;let {i,rfl,q}:=h;let {u,rfl,t,rfl}:=EZ r;exact call_abs_int λu j=>{.int (if i<0 then -i else i),H,I.tok _,{1},q}
def Ve (g:X.calm=true):Cl X (.builtin "max") (λe H Q=>∃ i j,e=[.int i,.int j]/\Q (.int (if j > i then j else i)) H):=by
 intro f s m H e n Q I r h;let {i,j,rfl,q}:=h;let {u,o,rfl,{t,rfl},{p,rfl}}:=vals2 r;refine max_two_ints (I.ok.hd g) λv w k=>{_,H,I.kept k,?_,q};by_cases d:j > i
 .rw [jE d,jE d];exact {1}
 .rw [jD d,jD d];exact {1}
end
structure ObjM (h:Heap) (x dx C:Addr) (mA:de):Prop where
 obj:h.get? x=some (W.instObj C dx)
 ns:h.Ns1 dx mA
 ne:dx≠x
def Vf {h:Heap} {d:Addr} {f:de} (n:h.Ns1 d f):∃ g,h.get? d=some g/\∀ b,W.lookIn b g=some (f b):=by
 let {o,i,u,j,k,hk,_,m}:=n;refine {o,j,λb=>?_};let e:=m b;unfold nsFind findBy at e;rw [<-Array.find?_toList] at e;unfold W.lookIn;rw [k];dsimp only;split
 .rename_i y q;rw [q] at e;exact congrArg some e
 .rename_i q;rw [q] at e
  let a:i.toList.any (·.refKey)=false:=by
   rw [List.any_eq_false];intro y p;let {z,t,c}:=hk y (Array.mem_toList_iff.mp p);simp [DictEntry.refKey,c]
  let r:¬ i.toList.any (·.refKey)=true:=by rw [a];exact Cg
  rw [jD r];exact congrArg some e
def ObjM.look {h:Heap} {x c C:Addr} {d:de} (I:ObjM h x c C d):∃ b,W.InstAt h x (W.instObj C c) C (some b)/\∀ a,W.lookIn a b=some (d a):=
 let ⟨b,e,f⟩:=Vf I.ns
 {b,⟨I.obj,rfl,rfl,e⟩,f}
section
variable {P:Program} {w:World} {H H':Hp} {h h':Heap} {a C dx:Addr} {fs fs':List (Str×V)}
def Vg (c:HOk P w H h) (e:H a=some (.ins C dx fs)):∃ b,ObjM h a dx C b/\(∀ f,K4 (fs.lookup f) (b f))/\PySem.Within b (fs.map (·.1))/\@fs<=1000/\H dx=some (.own a):=by
 let {d,z,g,i,b,n,r,q}:=(show ObjOk P w H h a (.ins C dx fs) from c a _ e);exact {b,⟨i,n,g⟩,r,q,z,d}
end
structure Cls (K:W.Frag) (C:Addr):Prop where
 pg:W.plainGet K C Str.empty=true
 hd:W.hasDictIn K C=true
 po:W.plainOver K C=true
 sa:W.findIn K (.ref C) "__setattr__" = some (some (.builtin "object.__setattr__"))
def Cls.get {K:W.Frag} {C:Addr} (c:Cls K C) (f:Str):W.plainGet K C f=true:=c.pg
section
variable {X:Cx} {pins:dc} {σ:St} {H:Hp} {s:Shared} {A:Around} {E:d8} {Q:d8} {c:Value} {b:Bool}
inductive TyOf (K:W.Frag) (H:Hp):V->Value->Prop where
 | non:TyOf K H .non (.type "NoneType")
 | bl (x:Bool):TyOf K H (.bl x) (.type "bool")
 | int (i:Int):TyOf K H (.int i) (.type "int")
 | str (x:Str):TyOf K H (.str x) (.type "str")
 | flt (x:UInt64):TyOf K H (.flt x) (.type "float")
 | lst {a:Addr} {xs:cZ} (e:H a^^^xs):TyOf K H (.ref a) (.type "list")
 | frz {a:Addr} {o:Obj} {xs:cZ} (e:H a=some (.frz o (.lst xs))):TyOf K H (.ref a) (.type "list")
 | tup {a:Addr} {xs:cZ} (e:H a&&&xs):TyOf K H (.ref a) (.type "tuple")
 | dK {a:Addr} {kvs:List (P'×V)} (e:H a=some (.dK kvs)):TyOf K H (.ref a) (.type "dict")
 | dT {a:Addr} {kvs:List (List P'×V)} (e:H a=some (.dT kvs)):TyOf K H (.ref a) (.type "dict")
 | ins {a C dx:Addr} {fs:List (Str×V)} (e:H a=some (.ins C dx fs)) (cl:Cls K C) (ha:W.findIn K (.ref C) "__class__" = some (some (.builtin "object.__class__")))
   (hn:W.specialIn K (.builtin "object.__class__") "__get__" = some (some (.builtin "getset_descriptor.__get__"))) (htk:W.takesIn K (.builtin "object.__class__")=some true)
   (hm:W.mroIn K C (.type "object")=some true):TyOf K H (.ref a) (.ref C)
theorem Vh {x:V} {u t:Value} (I:Inv X pins σ H s) (d:RelV x u) (B:TyOf X.K H x t) (e:W.kitOne X.K t c=some b) (h:∀ D,Q (.bool b) { s with toks:=D }) :
  wpAny (model X.prog X.w) A (call (.builtin "isinstance") [u,c]) Q E s:=by
 cases B with
 | non=>cases (show u=Value.none from d);exact W.kia_one W.kitx_none I.kIn True.intro e (λz=>nomatch z) h
 | bl y=>cases (show u=Value.bool y from d);exact W.kia_one W.kitx_bool I.kIn True.intro e (λz=>nomatch z) h
 | int i=>let ⟨t,q⟩:=(show ∃ t,u=Value.int i t from d);cases q;exact W.kia_one W.kitx_int I.kIn True.intro e (λz=>nomatch z) h
 | str y=>let ⟨t,q⟩:=(show ∃ t,u=Value.str y t from d);cases q;exact W.kia_one W.kitx_str I.kIn True.intro e (λz=>nomatch z) h
 | flt y=>let ⟨t,q⟩:=(show ∃ t,u=Value.float y t from d);cases q;exact W.kia_one W.kitx_float I.kIn True.intro e (λz=>nomatch z) h
 | @lst a k f=>
   cases (show u=Value.ref a from d);let {_,_,n,_,g}:=(show ObjOk X.prog X.w H s.heap a (.lst k) from I.hok a _ f);exact W.kia_one W.kitx_list I.kIn {_,g,2} e (λz=>nomatch z) h
 | @frz a F k f=>
   cases (show u=Value.ref a from d);let {_,_,_,n,_,g}:=(show ObjOk X.prog X.w H s.heap a (.frz F (.lst k)) from I.hok a _ f);exact W.kia_one W.kitx_list I.kIn {_,g,2} e (λz=>nomatch z) h
 | @tup a k f=>
   cases (show u=Value.ref a from d);let {_,_,_,p}:=(show ObjOk X.prog X.w H s.heap a (.tup k) from I.hok a _ f);let {o,g,m,_}:=p;exact W.kia_one W.kitx_tuple I.kIn ⟨o,g,m⟩ e (λz=>nomatch z) h
 | @dK a j f=>
   cases (show u=Value.ref a from d);let {_,_,P,_,p}:=(show ObjOk X.prog X.w H s.heap a (.dK j) from I.hok a _ f);let {o,G,K,g,m,_}:=p;exact W.kia_one W.kitx_dict I.kIn ⟨o,g,m.1⟩ e (λz=>nomatch z) h
 | @dT a j f=>
   cases (show u=Value.ref a from d);let {_,_,k,_,o,G,K,g,m,_}:=(show ObjOk X.prog X.w H s.heap a (.dT j) from I.hok a _ f);exact W.kia_one W.kitx_dict I.kIn ⟨o,g,m.1⟩ e (λz=>nomatch z) h
 | @ins a C R S f w L M r N=>
   cases (show u=Value.ref a from d);let {T,O,_}:=Vg I.hok f;let {U,J,_}:=O.look;exact W.kia_one (W.kitx_own (w.get _) w.hd L M r N) I.kIn J e (λz=>nomatch z) h
end
structure Room (k:Nat) (A:Around):Prop where
 hd:A.handled=none
 dp:A.depth+3*k+105<recursionLimit
 un:A.units+16*k+200<cLine
def Room.mono {j k:Nat} {A:Around} (r:Room k A) (h:j<=k):Room j A:={r.hd,by have:=r.dp;omega,by have:=r.un;omega}
def Room.deeper {k:Nat} {A:Around} (r:Room (k+1) A) (a:Env):Room k (A.deeper a):=
 {r.hd,by have:=r.dp;show A.depth+1+3*k+105<_;omega,by have:=r.un;show A.units+3+16*k+200<_;omega}
def Room.depth {k:Nat} {A:Around} (r:Room k A):A.depth<recursionLimit:=by have:=r.dp;omega
def Room.units {k:Nat} {A:Around} (r:Room k A):A.units+64<cLine:=by have:=r.un;omega
def Room.units0 {k:Nat} {A:Around} (r:Room k A):A.units<cLine:=by have:=r.un;omega
def AC:TA:=λ_ H Q=>Q [] H
def AB (b:TE) (tr:TA):TA:=λa H Q=>b a H λx c=>tr a c λd e=>Q (x::d) e
section
variable {X:Cx} {e:Expr} {es:dh} {te:TE} {t:TA} {pos:Pos}
def AK:PA X [] AC:=λ_ _ _ _ H Q I h=>Calls.spliced_nil {[],H,I,.nil,h}
def AD (c:PE X e te) (d:PA X es t) (f:starEach (e::es) X.env=(false,eval e X.env)::starEach es X.env:=by rfl):PA X (e::es) (AB te t):=by
 intro pos a s b H Q I h;rw [f];show wpAny _ _ (spliced ((false,eval e X.env)::backTo pos (starEach es X.env))) _ _ s;refine Calls.spliced_cons (G_ (c a s b H _ I h) λu g ⟨x,i,j,k,m⟩=>?_);exact G_ (d pos a g b i _ j m) λv w ⟨n,o,p,q,r⟩=>{x::n,o,p,.cons k q,r}
def Ai (t:TA):TE:=λc H Q=>t c H λa b=>@a<=sizeLine/\∀ p,b p=none->Q (.ref p) (upd b p (.tup a))
def Bi (t:TA):TE:=λc H Q=>t c H λa b=>@a<=sizeLine/\∀ p,b p=none->Q (.ref p) (upd b p (.lst a))
def Ar {x1} (h:PA X es t):PE X (.Tuple es x1 pos) (Ai t):=by
 intro a s g H Q I i;refine wpAny_Tuple_spliced (G_ (h pos a s g H _ I i) λj c ⟨k,d,f,r,z,q⟩=>{by rw [<-@r];exact z,?_});let m:d ⇑c=none:=f.hok.fresh (AT _);refine {.ref ⇑c,upd d ⇑c (.tup k),f.laid (t':=c.toks) (λb u e=>Heap.get?_push_of_some _ e) (AT _) ?_,2,q _ m};exact {z,j,r,{_,Heap.get?_push_size _ rfl,2,1}}
def CG (h:PA X es t):PE X (.List es pos) (Bi t):=by
 intro a s g H Q I i;refine wpAny_List_spliced (G_ (h pos a s g H _ I i) λj c ⟨k,d,f,r,z,q⟩=>{by rw [<-@r];exact z,?_});let m:d ⇑c=none:=f.hok.fresh (AT _);refine {.ref ⇑c,upd d ⇑c (.lst k),f.laid (t':=c.toks) (λb u e=>Heap.get?_push_of_some _ e) (AT _) ?_,2,q _ m};exact {z,j,0,r,Heap.get?_push_size _ rfl}
end
abbrev Sp:=cZ->Hp->VK->XK->Prop
abbrev aK:=List Env->Hp->Shared->XK->d8
structure Env0 (P:Program) (w:World) (K:W.Frag) (mg:de) (base:Heap) (A:Around) (outer:List Env) (s:Shared) (H:Hp):Prop where
 frames:A.frames=some outer
 mod:Mod K mg base
 bs:∀ b o,base.get? b=some o->s.heap.get? b=some o/\H b=none
 bsz:base.objs.size<=⇑s
 funs:s.heap.FunFrames base outer
 frf:∀ b∈aA outer,H b=none
 hok:HOk P w H s.heap
 bare:AllBare s.gens
 seer:base.NoSeer
 tree:(model P w).prog.given.tree=none
def CE (a:List Env) (P:Program) (w:World) (H:Hp) (s:Shared) (Q:VK) (u:Value) (s':Shared):Prop:=
 ∃ v b,s'.os=s.os/\AllBare s'.gens/\Un (aA a) [] H b s.heap s'.heap/\HOk P w b s'.heap/\RelV v u/\Q v b
def CR (CX:aK) (a:List Env) (P:Program) (w:World) (H:Hp) (s:Shared) (Q:VK) (E:XK) (r:Result) (s':Shared):Prop:=
 match r with
 | .ok (.ret u)=>CE a P w H s Q u s'
 | .ok _=>False
 | .error e=>CX a H s E e s'
structure FnOk (P:Program) (w:World) (K:W.Frag) (mg:de) (base:Heap) (CX:aK) (k:Nat) (f:Addr) (fd:FuncData) (ps:di) (sp:Sp):Prop where
 len:∀ vs H Q E,sp vs H Q E->@vs=@ps
 run:∀ (A:Around) (outer:List Env) (s:Shared) (H:Hp) (args:Args) (us:d7) (vs:cZ) (Q:VK) (E:XK),Room k A->Env0 P w K mg base A outer s H->BindsTo s fd args (ps.zip us)->Vals vs us->sp vs H Q E->
  codeAny (model P w) A (.call (.ref f) args) (CR CX outer P w H s Q E) s
section
variable {X:Cx} {pins:dc} {σ:St} {H:Hp} {s s':Shared}
def Inv.env0 (I:Inv X pins σ H s):Env0 X.prog X.w X.K X.mg X.base X.A X.stack s H:=
 {I.ok.frames,I.ok.mod,I.bs,BK I.ok.bsz I.sz,I.stack,I.stkFree,I.hok,I.bare,I.ok.seer,I.ok.tree}
def Inv.after {Q:VK} {u:Value} (I:Inv X pins σ H s) (h:CE X.stack X.prog X.w H s Q u s'):EP X pins σ Q u s':=by
 let {v,f,os,a,i,c,r,q}:=h;let {j,g,d,t,e}:=s';obtain rfl:e=s.os:=os;exact {v,f,I.call (h':=j) (g':=g) (d':=d) (t':=t) (ch:=[]) i c a (λb z=>absurd z (by simp)),r,q}
end
def AL (sp:Sp) (a:cZ) (E:XK) (t:TA):TE:=λb H Q=>t b H λc d=>sp (c++a) d Q E
def Binds (K:W.Frag) (c:FuncData) (ps:di) (b:d7):Prop:=
 ∀ (s:Shared) (a:d7),K.In s.heap->(a++b).length=@ps->BindsTo s c {a,[]} (ps.zip (a++b))
def Binds.all {K:W.Frag} {b:FuncData} {ps:di} (h:∀ a:d7,@a=@ps->bindArgs b ⟨a,[]⟩=pure (ps.zip a)):Binds K b ps []:=λs a _ c=>by
 rw [List.append_nil] at c ⊢;exact .of_eq (h a c)
def av (CX:aK) (X:Cx) (E:XK):Prop:=∀ (a:dc) (c:St) (H:Hp) (s:Shared) (e:Value) (b:Shared),Inv X a c H s->CX X.stack H s E e b->X.xe e b
section
variable {X:Cx} {CX:aK} {k:Nat} {f C:Addr} {fd:FuncData} {ps:di} {sp:Sp} {dvs:cZ} {ds:d7} {E:XK} {x m:Str} {p pos apos:Pos} {e o:Expr} {es:dh} {ta:TE} {t:TA}
theorem Vi {a:dc} {d:St} {H:Hp} {s:Shared} {Q:VK} {b:d7} {vs:cZ} (F:FnOk X.prog X.w X.K X.mg X.base CX k f fd ps sp) (i:Room k X.A) (j:Binds X.K fd ps ds) (n:Vals dvs ds) (q:av CX X E)
  (I:Inv X a d H s) (r:Vals vs b) (h:sp (vs++dvs) H Q E):wpAny (model X.prog X.w) X.A (call (.ref f) b) (EP X a d Q) X.xe s:=by
 let g:Vals (vs++dvs) (b++ds):=r.append n;let v:(b++ds).length=@ps:=by rw [<-@g];exact F.len _ _ _ _ h
 refine wpAny_call (codeAny_mono (F.run X.A X.stack s H {b,[]} (b++ds) (vs++dvs) Q E i I.env0 (j s b I.kIn v) g h) λr w c=>?_);cases r with
 | error e=>exact q a d H s e w I c
 | ok y=>
   cases y with
   | ret u=>exact I.after c
   | next=>exact False.elim c
   | brk=>exact False.elim c
   | cont=>exact False.elim c
def Vj (F:FnOk X.prog X.w X.K X.mg X.base CX k f fd ps sp) (g:Room k X.A) (i:Gl X x) (j:X.mg x=↥f) (hk:W.keepIn X.K (.ref f)=true) (n:Binds X.K fd ps ds) (u:Vals dvs ds) (v:av CX X E)
  (w:PA X (e::es) t) (b:(x == ("__debug__" : Str))=false:=by decide) (y:starEach (e::es) X.env=(false,eval e X.env)::starEach es X.env:=by rfl) (c:(backTo pos (starEach es X.env)).any (·.1)=false:=by rfl) :
  PE X (.Call (.Name x p) (e::es) [] pos) (AL sp dvs E t):=by
 intro a s z H Q I h;refine wpAny_Call_Name_kw (NU I i j ?_ b);refine W.callWith_K (h₀:=X.base) I.ok.mod.kin hk (G_ (w pos a s z H _ I h) λA B ⟨D,G,d,r,q⟩=>{d.kIn,?_}) y c;exact Vi F g n u v d r q
end
def PK (X:Cx) (b:List Keyword) (t:TA):Prop:=
 ∀ (c:Pos) (a:dc) (s:Shared) (d:St) (H:Hp) (Q:cZ->Hp->Prop),Inv X a d H s->t d H Q->wpAny (model X.prog X.w) X.A (evalAll ((backToKw c (keywordEach b X.env)).map (·.2))) (AP X a d Q) X.xe s
section
variable {X:Cx} {CX:aK} {k:Nat} {f C:Addr} {fd:FuncData} {ps ks:di} {sp:Sp} {E:XK} {x m:Str} {p pos apos kpos:Pos} {e o:Expr} {es:dh} {kws:List Keyword} {te ta:TE} {t tk:TA} {nm:Option Str}
def Vk:PK X [] AC:=λ_ _ _ _ H Q I h=>wpAny_evalAll_nil {[],H,I,.nil,h}
def Vl (c:PE X e te) (d:PK X kws t):PK X (⟨nm,e,kpos⟩::kws) (AB te t):=by
 intro pos a s b H Q I h;show wpAny _ _ (evalAll ((do let v <-eval e X.env;standAt pos;pure v)::(backToKw pos (keywordEach kws X.env)).map (·.2))) _ _ s;refine wpAny_evalAll_cons (jI (G_ (c a s b H _ I h) λu g ⟨x,i,j,n,q⟩=>jI (wpAny_standAt (jJ ?_))));exact G_ (d pos a g b i _ j q) λB D ⟨r,w,y,z,A⟩=>{x::r,w,y,.cons n z,A}
variable {g:d7->d7->d7} {gV:cZ->cZ->cZ}
end
structure FnScope (N P:di) (sc:Scope):Prop where
 kind:sc.kind=.function
 co:sc.isCoroutine=false
 gen:sc.isGenerator=false
 nd:N.Nodup
 pre:N.take @P=P
 par:∀ x∈P,sc.names.lookup x=some .local\/sc.names.lookup x=some .cell
 nofree:∀ y∈sc.names,y.2≠.free
theorem Nj {kindOf:Str->Option NameKind} {x:Str}:∀ {a:List (Str×Value)} {m:de},(∀ v,(x,v)∉a)->bindL kindOf a m x=m x
 | [],_,_=>rfl
 | (n,v)::r,m,h=>by
   unfold bindL;rw [Nj λw b=>h w (A6 _ b)];split
   .have:x≠n:=by rintro rfl;exact h v BC
    simp [this]
   .rfl
theorem Nk {kindOf:Str->Option NameKind} {x:Str}:∀ {a:List (Str×Value)} {m:de},(∀ v,(x,v)∉a)->bindC kindOf a m x=m x
 | [],_,_=>rfl
 | (n,v)::r,m,h=>by
   unfold bindC;rw [Nk λw b=>h w (A6 _ b)];split
   .rfl
   .have:x≠n:=by rintro rfl;exact h v BC
    simp [this]
theorem Nl {kindOf:Str->Option NameKind} {x:Str} {v:Value}:∀ {P:di} {vs:d7} {i:Nat} {m:de},P.Nodup->P[i]?=some x->vs[i]?=some v->kindOf x=some .local->
  bindL kindOf (P.zip vs) m x=some v
 | [],_,_,_,_,h,_,_=>by simp at h
 | _::_,[],_,_,_,_,h,_=>by simp at h
 | p::P,w::vs,0,m,c,a,b,hk=>by
   simp at a b;subst a;subst b;show bindL kindOf ((p,w)::P.zip vs) m p=_;unfold bindL;rw [Nj λv d=>(List.nodup_cons.mp c).1 (List.of_mem_zip d).1,jE hk];simp
 | p::P,w::vs,i+1,m,c,a,b,hk=>by
   show bindL kindOf ((p,w)::P.zip vs) m x=_;unfold bindL;exact Nl (i:=i) (List.nodup_cons.mp c).2 (by simpa using a) (by simpa using b) hk
theorem No {kindOf:Str->Option NameKind} {x:Str} {v:Value}:∀ {P:di} {vs:d7} {i:Nat} {m:de},P.Nodup->P[i]?=some x->vs[i]?=some v->kindOf x≠some .local->
  bindC kindOf (P.zip vs) m x=some v
 | [],_,_,_,_,h,_,_=>by simp at h
 | _::_,[],_,_,_,_,h,_=>by simp at h
 | p::P,w::vs,0,m,c,a,b,hk=>by
   simp at a b;subst a;subst b;show bindC kindOf ((p,w)::P.zip vs) m p=_;unfold bindC;rw [Nk λv d=>(List.nodup_cons.mp c).1 (List.of_mem_zip d).1,jD hk];simp
 | p::P,w::vs,i+1,m,c,a,b,hk=>by
   show bindC kindOf ((p,w)::P.zip vs) m x=_;unfold bindC;exact No (i:=i) (List.nodup_cons.mp c).2 (by simpa using a) (by simpa using b) hk
noncomputable def start (N:di) (vs:cZ):St:=vs.map some++List.replicate (@N - @vs) none
noncomputable def FM (CX:aK) (P:Program) (w:World) (K:W.Frag) (mg:de) (d:Heap) (N:di) (c:Str) (a:Scope) (f:Addr) (h:Value) (A:Around) (b:List Env) (s:Shared) (H:Hp) (E:XK):Cx where
 prog:=P
 w:=w
 K:=K
 mg:=mg
 base:=d
 A:=A.deeper (envOfC c a ⇑s f h)
 N:=N
 s₀:=s
 H₀:=H
 env:=envOfC c a ⇑s f h
 outer:=b
 stack:=envOfC c a ⇑s f h::b
 ex:=[]
 calm:=true
 fn:=λ_=>true
 pn:=[]
 xe:=λe i=>wpAny (model P w) (A.deeper (envOfC c a ⇑s f h)) (leaving (envOfC c a ⇑s f h) e) (λ_ g=>CX b H s E e g) (λj g=>CX b H s E j g) i
def Np {a:Scope} {n:Nat} {x:Str} (h:a.names.lookup x=some .cell):∃ c,(cellsFrom n a.names []).lookup x=some c:=by
 let q:=W.cellsFrom_some a.names n [] (.inl h);exact Option.isSome_iff_exists.mp q
def Vm {CX:aK} {P:Program} {w:World} {K:W.Frag} {mg:de} {B:Heap} {N ps:di} {g:Str} {d:Scope} {f:Addr} {F:Value} {A:Around} {m:List Env} {s Q:Shared} {H:Hp} {E:XK} {M:d7} {vs:cZ}
  (S:FnScope N ps d) (T:A.handled=none) (O:(A.deeper (envOfC g d ⇑s f F)).depth+Builtin.pylongFrames<recursionLimit) (j:Env0 P w K mg B A m s H) (Z:@vs=@ps) (r:Vals vs M)
  (x:InCallC s ⇑s (bindL (envOfC g d ⇑s f F).kindOf (ps.zip M) λ_=>none) (cellsFrom (⇑s+1) d.names []) (bindC (envOfC g d ⇑s f F).kindOf (ps.zip M) λ_=>none) Q) :
  Inv (FM CX P w K mg B N g d f F A m s H E) [] (start N vs) H Q:=by
 let U:@ps<=@N:=by have:=congrArg List.length S.pre;rw [Br] at this;omega
 let {J,tk,rfl,hk}:=x.done;let C:∀ b:Addr,b∉(FM CX P w K mg B N g d f F A m s H E).ex:=λb z=>absurd (show b∈([]:dj) from z) (by simp)
 refine {{j.mod,S.kind,7,AT _,λy z c J o=>?_,λy D=>?_,λy c _ h=>?_,λ_=>T,Around.frames_deeper j.frames,.inr ⟨rfl,rfl⟩,λb z=>absurd z (C b),j.bs,j.bsz,λb _ _=>C b,λb z=>absurd z (C b),j.funs,j.frf,j.seer,j.tree,λs' G=>PySem.PylongRoom.of (j.mod.nolimit.keeps G) O (PySem.SeerAt.of (j.seer.keeps G) j.tree (Around.frames_deeper j.frames) S.gen S.co rfl rfl)},
  rfl,j.bare,Un.kept hk,{_,x.toInCall.ns,λi y v J o h3=>?_},λy c h=>{_,x.cell y c h},j.hok.fresh (AT _),λy c h=>?_,λp hp=>absurd (show p∈([]:dc) from hp) (by simp),j.hok.kept hk,?_}
 .exact name_of_addr x.apart (PySem.mem_of_lookup J) (PySem.mem_of_lookup o)
 .let D:d.names.lookup y=some .cell\/d.names.lookup y=some .free:=D;rcases D with D | D
  .exact Np D
  .exact absurd rfl (S.nofree _ (PySem.mem_of_lookup D))
 .exact EN (x.above y c (PySem.mem_of_lookup h))
 .let L:i<@vs:=by
   unfold start at o;by_cases L:i<@vs
   .exact L
   .rw [List.getElem?_append_right (by simpa using L)] at o;rw [Fg] at o;split at o <;> cases o
  let X:vs[i]?=some v:=by
   unfold start at o;rw [HH (by simpa using L),Ae] at o;cases e:vs[i]? with
   | none=>rw [e] at o;cases o
   | some a=>rw [e] at o;cases o;rfl
  let {u,R,Y}:=r.get X
  let hp:ps[i]?=some y:=by
   rw [<-S.pre,List.getElem?_take_of_lt `a];exact J
  let I:ps.Nodup:=by rw [<-S.pre];exact S.nd.sublist (List.take_sublist _ _)
  refine {u,Y,?_};rcases S.par y (BT hp) with k | k
  .exact .inl {k,Nl I hp R k}
  .let {c,e}:=Np (n:=⇑s+1) k;refine .inr {.inl k,c,e,?_};let q:=x.cell y c e;rw [No I hp R (by show d.names.lookup y≠_;rw [k];decide)] at q;exact q
 .exact j.hok.fresh (EN (x.above y c (PySem.mem_of_lookup h)))
 .unfold start;show _=@N;rw [Bf,AI,List.length_replicate];omega
theorem Nr {CX:aK} {P:Program} {w:World} {K:W.Frag} {mg:de} {h:Heap} {k:Nat} {f:Addr} {p d:Str} {i:Arguments} {j:List Stmt} {a:Scope} {Z kV F pm g ct oc:Value} {an od:Option Addr}
  {R:Array (Option Value)} {N ps:di} {sp:Sp} (lk:K.lookup f=some ⟨oc,od,.func (W.fnOf p d i j a Z kV F pm an g ct),R⟩) (T:W.codeIn K g d=true) (S:FnScope N ps a)
  (len:∀ vs H Q E,sp vs H Q E->@vs=@ps)
  (B:∀ (A:Around) (c:List Env) (s:Shared) (H:Hp) (vs:cZ) (Q:VK) (E:XK),Room k (A.deeper (envOfC d a ⇑s f g))->sp vs H Q E->
   ∃ t,PSs (FM CX P w K mg h N d a f g A c s H E) j t/\t { nx:=λ_ z=>Q .non z,rt:=Q } (start N vs) H) :
  FnOk P w K mg h CX (k+1) f (W.fnOf p d i j a Z kV F pm an g ct) ps sp:=by
 refine {len,λA c s H a0 us vs Q E O G hb r L=>?_};let hl:=len _ _ _ _ L;let KX:K.In s.heap:=G.mod.kin.keeps λb o e=>(G.bs b o e).1;let U:s.heap.NoLimit:=G.mod.nolimit.keeps λb o e=>(G.bs b o e).1
 let C:∀ y∈ps.zip us,a.names.lookup y.1=some .local\/(a.names.lookup y.1=some .cell/\((cellsFrom (⇑s+1) a.names []).lookup y.1).isSome=true):=λ⟨n,v⟩ hy=>by
  rcases S.par n (List.of_mem_zip hy).1 with q | q
  .exact .inl q
  .exact .inr {q,W.cellsFrom_some _ _ _ (.inl q)}
 refine codeAny_call_function O.depth (KX _ _ lk) rfl S.co S.gen rfl (W.codeRec_of KX T) (hb _ _ _ _ ?_);refine wpAny_newFunctionEnv_cells S.kind C λa1 he s1 x=>?_;subst he;refine {U.keeps x.toInCall.keep,codeAny_func ?_};let {t,ht,hq}:=B A c s H vs Q E (O.deeper _) L;let I:Inv (FM CX P w K mg h N d a f g A c s H E) [] (start N vs) H s1:=Vm S O.hd (by have:=(O.deeper (envOfC d a ⇑s f g)).dp;show _+100<_;omega) G hl r x;refine jK (ht [] s1 (start N vs) H _ I hq) (λfl X D=>?_) λe X D=>D
 let M:∀ {m:St} {z:Hp} {v:V} {u:Value},Inv (FM CX P w K mg h N d a f g A c s H E) [] m z X->RelV v u->Q v z->CE c P w H s Q u X:=
  λ{m z v u} J Y q=>⟨v,z,J.os,J.bare,J.base,J.hok,Y,q⟩
 cases fl with
 | ret u=>
   let {v,m,z,J,Y,q}:=D;exact M J Y q
 | next=>
   let {m,z,J,q}:=D;exact M (v:=V.non) (u:=Value.none) J rfl q
 | brk=>
   let {_,_,_,q}:=D;exact False.elim q
 | cont=>
   let {_,_,_,q}:=D;exact False.elim q
section
variable {X:Cx} {x:Str} {p pos:Pos} {e:Expr} {es:dh} {t:TA} {id T:String} {r:cZ->Hp->VK->Prop}
def L_ (r:cZ->Hp->VK->Prop) (t:TA):TE:=λa H Q=>t a H λb c=>r b c Q
def A4 (f:Cl X (.builtin id) r) (g:Gl X x) (i:X.mg x=none) (j:bootBuiltins x=some (.builtin id)) (k:PA X (e::es) t) (m:x ≠ "__name__" := by decide) (b:(x == ("__debug__" : Str))=false:=by decide)
  (n:starEach (e::es) X.env=(false,eval e X.env)::starEach es X.env:=by rfl) (c:(backTo pos (starEach es X.env)).any (·.1)=false:=by rfl):PE X (.Call (.Name x p) (e::es) [] pos) (L_ r t):=by
 intro a s d H Q I h;refine wpAny_Call_Name_kw (Es I g i j ?_ m b);exact PyProof.Rows.callWith_builtin1 (G_ (k pos a s d H _ I h) λo q ⟨u,v,w,y,z⟩=>f a q d v u o Q w y z) n c
def FN (f:Cl X (.type T) r) (g:Gl X x) (i:X.mg x=none) (j:bootBuiltins x=some (.type T)) (k:PA X (e::es) t) (m:x ≠ "__name__" := by decide) (b:(x == ("__debug__" : Str))=false:=by decide)
  (n:starEach (e::es) X.env=(false,eval e X.env)::starEach es X.env:=by rfl) (c:(backTo pos (starEach es X.env)).any (·.1)=false:=by rfl):PE X (.Call (.Name x p) (e::es) [] pos) (L_ r t):=by
 intro a s d H Q I h;refine wpAny_Call_Name_kw (Es I g i j ?_ m b);exact PyProof.Rows.callWith_type1 (G_ (k pos a s d H _ I h) λo q ⟨u,v,w,y,z⟩=>f a q d v u o Q w y z) n c
end
end L2
namespace HT
open PySem PyProof.Rows
section
variable {prog:Program} {w:World} {A:Around} {E:d8} {s:Shared}
noncomputable def sIx (n d:Nat):Option Int->Nat
 | none=>d
 | some v=>if v<0 then (v+(n:Int)).toNat else min v.toNat n
end
end HT
namespace L2
open PySem PySem.Spec PyProof.Rows
abbrev TO:=St->Hp->(Option Int->Hp->Prop)->Prop
def PO (X:Cx) (e:Option Expr) (t:TO):Prop:=
 ∀ (a:dc) (s:Shared) (b:St) (H:Hp) (Q:Option Int->Hp->Prop),Inv X a b H s->t b H Q->
   wpAny (model X.prog X.w) X.A (evalPart e X.env) (λu d=>∃ o c,Inv X a b c d/\IsPart u o/\Q o c) X.xe s
noncomputable def GV:TO:=λ_ H Q=>Q none H
noncomputable def Ea (t:TE):TO:=λa H Q=>t a H λx b=>∃ i,x=.int i/\Q (some i) b
section
variable {X:Cx} {e:Expr} {te:TE} {lo hi:Option Expr} {tl th:TO} {pos p2:Pos}
def IO:PO X none GV:=by
 intro a s b H Q I h;rw [evalPart_none];exact jJ {none,H,I,.none,h}
def FO (h:PE X e te):PO X (some e) (Ea te):=by
 intro a s b H Q I c;rw [evalPart_some];refine G_ (h a s b H _ I c) λu k ⟨x,d,f,g,j⟩=>?_;let {i,rfl,q}:=j;let {t,rfl}:=g;exact {some i,d,f,.int i t,q}
def cr (X:Cx) (r:V->Option Int->Option Int->Hp->VK->Prop):Prop:=
 ∀ (a:dc) (s:Shared) (b:St) (H:Hp) (x:V) (v c d:Value) (lo hi:Option Int) (f:Addr) (Q:VK),Inv X a b H s->RelV x v->s.heap.IsSliceOf f c d .none->IsPart c lo->IsPart d hi->r x lo hi H Q->
   ∃ T id,typeLookup (.type T) "__getitem__" = pure (some (.builtin id))/\s.TypeIs v T/\wpAny (model X.prog X.w) X.A (getItem v (.ref f)) (EP X a b Q) X.xe s
def aR (r:V->Option Int->Option Int->Hp->VK->Prop) (te:TE) (tl th:TO):TE:=λa H Q=>te a H λx b=>tl a b λl c=>th a c λu d=>r x l u d Q
def GW {r:V->Option Int->Option Int->Hp->VK->Prop} (n:cr X r) (o:PE X e te) (p:PO X lo tl) (w:PO X hi th):PE X (.Subscript e (.Slice lo hi none p2) pos) (aR r te tl th):=by
 intro a s g H Q I h;refine Subscript_ (G_ (o a s g H _ I h) λv y ⟨x,z,A,B,C⟩=>?_);refine wpAny_Slice (G_ (p a y g z _ A C) λj D ⟨l,E,F,G,J⟩=>G_ (w a D g E _ F J) λk c ⟨u,m,K,L,M⟩=>?_);rw [evalPart_none];refine jJ ?_;let N:Inv X a g m { c with heap:=c.heap.push { cls:=.type "slice", data:=.fields #[j,k,.none] } }:=K.kept (t':=c.toks) λb S q=>Heap.get?_push_of_some _ q;let {T,id,O,P,R}:=n a { c with heap:=c.heap.push { cls:=.type "slice", data:=.fields #[j,k,.none] } } g m x v j k l u ⇑c Q N B (Heap.IsSliceOf.new ..) G L M;show wpAny (model X.prog X.w) X.A (subscriptTail e (.Slice lo hi none p2) v (.ref ⇑c)) (EP X a g Q) X.xe { c with heap:=c.heap.push { cls:=.type "slice", data:=.fields #[j,k,.none] } };exact tail_any (ops:=[.ref ⇑c,v]) P O R (by with_unfolding_all rfl)
noncomputable def CH (xs:cZ) (lo hi:Option Int):cZ:=(xs.drop (HT.sIx @xs 0 lo)).take (HT.sIx @xs @xs hi - HT.sIx @xs 0 lo)
def Vn (xs:cZ) (lo hi:Option Int):(CH xs lo hi).length<=@xs:=by
 unfold CH;rw [Br,List.length_drop];omega
end
noncomputable def ap (n:Nat) (i:Int):Option Nat:=if 0<=i then (if i<n then some i.toNat else none) else if -(n:Int)<=i then some (i+n).toNat else none
noncomputable def R_ {a:Type} (xs:List a) (i:Int):Option a:=(ap @xs i).bind λj=>xs[j]?
def Nt {n:Nat} {i:Int} {j:Nat} (h:ap n i=some j):seqIndex? i n=some j/\j<n/\-(n:Int)<=i/\i<n:=by
 unfold ap at h;by_cases b:0<=i
 .rw [jE b] at h;by_cases a:i<n
  .rw [jE a] at h;let e:i.toNat=j:=jL h;exact {by rw [seqIndex_of b a,e],`a,`a,a}
  .rw [jD a] at h;cases h
 .rw [jD b] at h;by_cases a:-(n:Int)<=i
  .rw [jE a] at h;let e:(i+n).toNat=j:=jL h;exact {by rw [seqIndex_neg `a a,e],`a,a,`a}
  .rw [jD a] at h;cases h
theorem K8 {a:Type} {xs:List a} {i:Int} {v:a} (h:R_ xs i=some v):∃ j,seqIndex? i @xs=some j/\xs[j]?=some v/\j<@xs/\-(@xs:Int)<=i/\i<@xs:=by
 unfold R_ at h;cases e:ap @xs i with
 | none=>rw [e] at h;cases h
 | some j=>
   rw [e] at h;let {b,c,d,f}:=Nt e;exact ⟨j,b,h,c,d,f⟩
def Nv {a:Type} {xs:List a} {j:Nat} {v:a} (h:xs[j]?=some v):R_ xs (j:Int)=some v:=by
 let b:j<@xs:=(A7.mp h).1
 let e:ap @xs (j:Int)=some j:=by
  unfold ap;rw [jE `a,jE `a];simp
 unfold R_;rw [e];exact h
def Vo (b:Expr):Prop:=∀ o i,subscripted b false o i=operate [o,i] (getItem o i)
def bo (X:Cx) (r:R2):Prop:=
 ∀ (c a:Expr) (b:dc) (s:Shared) (d:St) (H:Hp) (x y:V) (v u:Value) (Q:VK),Inv X b d H s->RelV x v->RelV y u->r x y H Q->
   subscripted a false v u=operate [v,u] (getItem v u)->wpAny (model X.prog X.w) X.A (subscriptTail c a v u) (EP X b d Q) X.xe s
def MtR (X:Cx) (id:String) (r:V->cZ->Hp->VK->Prop):Prop:=
 ∀ (a:dc) (s:Shared) (b:St) (H:Hp) (x:V) (c:cZ) (v:Value) (d:d7) (Q:VK),Inv X a b H s->RelV x v->Vals c d->r x c H Q->
   wpAny (model X.prog X.w) X.A (call (.builtin id) (v::d)) (EP X a b Q) X.xe s
section
variable {X:Cx} {a b:Expr} {ta tb:TE} {pos:Pos}
def Bw {r:R2} (d:bo X r) (e:PE X a ta) (f:PE X b tb) (g:Vo b):PE X (.Subscript a b pos) (A_ r ta tb):=by
 intro c s i H Q I h;exact Subscript_ (K6 e f I h λv u j x y k m n o q=>d a b c j i k x y v u Q m n o q (g _ _))
inductive Vp(K:W.Frag)(x y:V)(H:Hp)(Q:VK):Prop
 |mk(p c i v):x=.ref p->y=.int i->SqL K H p c->R_ c i=some v->Q v H->Vp K x y H Q
inductive Vq(K:W.Frag)(x y:V)(H:Hp)(Q:VK):Prop
 |mk(p c i v):x=.ref p->y=.int i->SqT K H p c->R_ c i=some v->Q v H->Vq K x y H Q
def Nw:bo X (Vp X.K):=by
 intro f g c s o H x y v u Q I D E h A;let {p,O,i,z,rfl,rfl,F,G,q}:=h;cases D;let {t,rfl}:=E;let {k,r,m,P}:=I.list F;let {j,e,J,R,K,L}:=K8 G;let {w,B,rw'}:=r.get J;let M:=@r;let S:=HP;let d:EP X c o Q w s:=⟨z,H,I,rw',q⟩;by_cases C:0<=i
 .let n:i.toNat=j:=by
   rw [seqIndex_of C L] at e;exact jL e
  exact item_listR m.isList C `a (by rw [n];simpa using B) d A
 .let n:(i+(k.toArray.size:Int)).toNat=j:=by
   rw [seqIndex_neg `a K] at e;rw [BI,<-M];exact jL e
  exact subscriptTail_builtinR (x:=w) m.isList.typeIs slot_list_getitem.lookup
   (wpAny_getItem_list_neg (Q:=λr N=>r=w/\EP X c o Q r N) m.isList `a (by rw [BI] <;> omega) `a (by rw [n];simpa using B) ⟨rfl,d⟩) A
def Vr:bo X (Vq X.K):=by
 intro d e c s g H x y v u Q I m n h o;let {p,K,i,z,rfl,rfl,A,B,q}:=h;cases m;let {t,rfl}:=n;let {C,r,k,L}:=I.tuple A;let {j,D,E,M,N,O}:=K8 B;let {w,F,rw'}:=r.get E;let G:=@r;let P:=HP;let f:EP X c g Q w s:=⟨z,H,I,rw',q⟩
 exact subscriptTail_builtinR (x:=w) k.typeIs slot_tuple_getitem.lookup
  (getItem_tuple (j:=j) (Q:=λr J=>r=w/\EP X c g Q r J) k `a `a (by rw [BI,<-G];exact D) (by simpa using F) ⟨rfl,f⟩) o
def Vs (its:d7) (n j:Nat) (u:Value):Obj.mapSeq (·.setIfInBounds j u) { cls:=.type "list", data:=.seq its.toArray n }={ cls:=.type "list", data:=.seq (its.set j u).toArray n }:=by
 simp [Obj.mapSeq]
def Inv.lst {c:dc} {d:St} {H:Hp} {s:Shared} {p:Addr} {xs:cZ} (I:Inv X c d H s) (h:H p^^^xs) :
  ∃ (its:d7) (n:Nat),Vals xs its/\s.heap.get? p=some { cls:=.type "list", data:=.seq its.toArray n }/\@xs<=sizeLine:=by
 let {z,its,n,r,e}:=I.hok p _ h;exact ⟨its,n,r,e,z⟩
def Inv.lstUpd {c:dc} {g:St} {H:Hp} {s:Shared} {p:Addr} {xs ys:cZ} {its its':d7} {n d:Nat} {f:Obj->Obj} (I:Inv X c g H s) (h:H p^^^xs)
  (m:s.heap.get? p=some { cls:=.type "list", data:=.seq its.toArray n }) (i:f { cls:=.type "list", data:=.seq its.toArray n }={ cls:=.type "list", data:=.seq its'.toArray d }) (r:Vals ys its') (hz:@ys<=sizeLine) (t:Nat) :
  Inv X c g (upd H p (.lst ys)) { s with heap:=s.heap.update p f,toks:=t }:=by
 let e:(s.heap.update p f).get? p=some { cls:=.type "list", data:=.seq its'.toArray d }:=by
  rw [Heap.get?_update_self f m (by rw [i] <;> rfl),i]
 refine I.write (x:=p) (e:=p) (by rw [h];trivial) (.inl rfl) (λb u o q=>(Heap.get?_update_other _ _ (Ne.symm o)).trans q) {_,e} ?_;exact ⟨hz,its',d,r,e⟩
inductive Ew(o i v:V)(H:Hp)(Q:Hp->Prop):Prop
 |mk(p c k j):o=.ref p->i=.int k->H p^^^c->ap @c k=some j->Q (upd H p (.lst (c.set j v)))->Ew o i v H Q
def Vt {o:V} {i:V} {v:V} {H:Hp} {Q:Hp->Prop}:Ew o i v H Q=∃ p c k j,o=.ref p/\i=.int k/\H p^^^c/\ap @c k=some j/\Q (upd H p (.lst (c.set j v))):=propext {λ⟨d,e,f,g,h,m,n,q,r⟩=>⟨d,e,f,g,h,m,n,q,r⟩,λ⟨d,e,f,g,h,m,n,q,r⟩=>⟨d,e,f,g,h,m,n,q,r⟩}
def Fs:aZ X Ew:=by
 intro c s A H o i v J K u Q I B C D h;let {p,E,k,j,rfl,rfl,hp,F,q}:=h;cases B;let {t,rfl}:=C;let {d,n,r,f,G}:=I.lst hp;let {e,L,m,w}:=Nt F;let g:=@r;let M:=HP
 let x:Inv X c A (upd H p (.lst (E.set j v))) { s with heap:=s.heap.update p (Obj.mapSeq (·.setIfInBounds j u)) }:=
  I.lstUpd hp f (Vs d n j u) (r.set D j) (by rw [List.length_set];exact G) s.toks
 by_cases z:0<=k
 .let hk:k.toNat=j:=by
   rw [seqIndex_of z w] at e;exact jL e
  exact W.ki_setAt f z `a (by rw [BI,<-g];exact w) (by rw [hk];exact {_,x,q})
 .let hk:(k+(d.toArray.size:Int)).toNat=j:=by
   rw [seqIndex_neg `a m] at e;rw [BI,<-g];exact jL e
  exact W.ki_setBack f `a (by rw [BI,<-g];exact m) `a (by rw [hk];exact {_,x,q})
def Vu (lo c:Option Int) (n:Nat):(sliceBounds lo c none n).1=((HT.sIx n 0 lo:Nat):Int)/\(sliceBounds lo c none n).2.1=((HT.sIx n n c:Nat):Int)/\(sliceBounds lo c none n).2.2=1:=by
 refine {?_,?_,2}
 .cases lo with
  | none=>simp [sliceBounds,HT.sIx]
  | some i=>
    simp only [sliceBounds,HT.sIx,Option.getD_none,show (1:Int) > 0 by decide,if_true];by_cases h:i<0
    .simp only [h,if_true] <;> omega
    .simp only [h,if_false] <;> omega
 .cases c with
  | none=>simp [sliceBounds,HT.sIx]
  | some i=>
    simp only [sliceBounds,HT.sIx,Option.getD_none,show (1:Int) > 0 by decide,if_true];by_cases h:i<0
    .simp only [h,if_true] <;> omega
    .simp only [h,if_false] <;> omega
def Vv (its:d7) (lo c:Option Int):slicePick its.toArray lo c none=((its.drop (HT.sIx ↑its 0 lo)).take (HT.sIx ↑its ↑its c - HT.sIx ↑its 0 lo)).toArray:=by
 let {d,e,f}:=Vu lo c its.toArray.size;unfold slicePick;rw [d,e,f];simp only [sliceRange_one,pick_run,BI] <;> rfl
def Vw (K:W.Frag):V->Option Int->Option Int->Hp->VK->Prop:=λx lo d H Q=>∃ a c,x=.ref a/\SqL K H a c/\∀ p,H p=none->Q (.ref p) (upd H p (.lst (CH c lo d)))
def Nx:cr X (Vw X.K):=by
 intro f s w H x v y z lo e A Q I i j k m h;let {a,c,rfl,n,q}:=h;cases i;let {p,r,g,u}:=I.list n;let d:=@r;refine {"list", _,slot_list_getitem.lookup,g.isList.typeIs,?_};refine wpAny_getItem_list_slice g.isList j k m .none (by simp) ?_ (by rw [BI] <;> omega);rw [Vv,<-d];refine {.ref ⇑s,_,I.laid (t':=s.toks) (o:=.lst (CH c lo e)) (λb B q=>Heap.get?_push_of_some _ q) (AT _) ?_,2,q _ (I.hok.fresh (AT _))};exact {BK (Vn c lo e) u,_,0,(r.drop (HT.sIx @c 0 lo)).take (HT.sIx @c @c e - HT.sIx @c 0 lo),Heap.get?_push_size _ rfl}
def K9:Cl X (.builtin "len") (λj H Q=>∃ p d,j=[.ref p]/\(SqL X.K H p d\/SqT X.K H p d)/\Q (.int @d) H):=by
 intro k s o H j v Q I r h;let {p,d,rfl,e,q}:=h;let {u,rfl,m}:=EZ r;cases m;let w:=HP;rcases e with e | e
 .let {f,g,i,n}:=I.list e;let c:=@g;exact Calls.call_len_list i.isList (by simp only [BI] <;> omega) {.int @d,H,I.tok _,{s.toks+1,by rw [BI,c]},q}
 .let {f,g,i,n}:=I.tuple e;let c:=@g;exact len_tuple i (by simp only [BI] <;> omega) {.int @d,H,I.tok _,{s.toks+1,by rw [BI,c]},q}
def Vx:Cl X (.type "list") (λB H Q=>∃ p f,B=[.ref p]/\(SqL X.K H p f\/SqT X.K H p f)/\∀ l,H l=none->Q (.ref l) (upd H l (.lst f))):=by
 intro j s E H B G Q I r h;let {p,f,rfl,k,q}:=h;let {u,rfl,F}:=EZ r;cases F
 let m:∀ (c:d7),Vals f c->@f<=sizeLine->∀ (d:Heap) (g:Nat),(∀ b C,s.heap.get? b=some C->d.get? b=some C)->
   d.get? ⇑s=some { cls:=.type "list", dict:=none,data:=.seq c.toArray g,slots:=#[] }->EP X j E Q (.ref ⇑s) { s with heap:=d }:=λc i v d g kp e=>
  {.ref ⇑s,_,I.laid (t':=s.toks) kp (AT _) (show ObjOk X.prog X.w _ d _ (.lst f) from ⟨v,c,g,i,e⟩),2,q _ (I.hok.fresh (AT _))}
 rcases k with k | k
 .let {c,i,x,v}:=I.list k;let w:=@i;let {o,y,z,n,A}:=x.isList;exact call_list_seq p (.inl rfl) y z A (λd g kp e=>m c i v d g kp e) (by simp only [BI] <;> omega)
 .let {c,i,x,v}:=I.tuple k;let w:=@i;let {o,y,z,n,A}:=x;exact call_list_seq p (.inr rfl) y z A (λd g kp e=>m c i v d g kp e) (by simp only [BI] <;> omega)
def Vy:Cl X (.type "tuple") (λn H Q=>∃ p f,n=[.ref p]/\((SqL X.K H p f/\∀ l,H l=none->Q (.ref l) (upd H l (.tup f)))\/(SqT X.K H p f/\Q (.ref p) H))):=by
 intro c s v H n D Q I r h;let {p,f,rfl,h}:=h;let {u,rfl,A}:=EZ r;cases A;rcases h with ⟨j,q⟩ | ⟨j,q⟩
 .let {d,k,m,w}:=I.list j;let x:=@k;refine call_tuple_list m.isList (λi kp=>?_) (by simp only [BI] <;> omega);let y:Inv X c v H { s with heap:=i }:=I.kept (t':=s.toks) kp
  let B:Inv X c v (upd H i.objs.size (.tup f)) { s with heap:=i.push { cls:=.type "tuple", data:=.seq d.toArray } }:=
   y.laid (t':=s.toks) (λb o e=>Heap.get?_push_of_some _ e) (AT _) (show ObjOk X.prog X.w _ _ _ (.tup f) from {w,d,k,IsTup.new _ _})
  exact {.ref i.objs.size,_,B,2,q _ (y.hok.fresh (AT _))}
 .let {d,k,m,w}:=I.tuple j;exact call_tuple_same m {.ref p,H,I,2,q}
def bZ (K:W.Frag) (T:String) (x:V) (H:Hp):Prop:=match x with
 | .str _=>T = "str"
 | .int _=>T = "int"
 | .ref p=>(T = "list" /\ ∃ d,SqL K H p d)\/(T = "tuple" /\ ∃ o,K.lookup p=some o/\o.cls=.type "tuple" /\ o.dict=none)\/
   (T = "dict" /\ ((∃ c,H p=some (.dK c))\/∃ c,H p=some (.dT c)))\/(T = "set" /\ ∃ S n,H p=some (.set S n))
 | _=>False
theorem Ny {f:dc} {u:St} {H:Hp} {s:Shared} {T:String} {x:V} {v:Value} (I:Inv X f u H s) (r:RelV x v) (g:bZ X.K T x H) :
  s.TypeIs v T/\∀ a,v=.ref a->∃ m,s.heap.get? a=some m/\m.dict=none:=by
 cases x with
 | str z=>
   let {t,rfl}:=r;cases (show T = "str" from g);exact {typeIs_str s z t,λ_ e=>nomatch e}
 | int i=>
   let {t,rfl}:=r;cases (show T = "int" from g);exact {typeIs_int s i t,λ_ e=>nomatch e}
 | ref p=>
   cases r;rcases g with ⟨rfl,B,w⟩ | ⟨rfl,o,hk,y,h⟩ | ⟨rfl,hk⟩ | ⟨rfl,S,n,hk⟩
   .let {A,_,q,_}:=I.list w;refine {q.isList.typeIs,λa e=>?_};cases e;let {o,n,e,c,h,_}:=q;exact ⟨o,e,h⟩
   .refine {{o,I.kIn p o hk,y},λa e=>?_};cases e;exact {o,I.kIn _ o hk,h}
   .let z:∃ o,s.heap.get? p=some o/\o.ExactDict:=by
     rcases hk with ⟨j,hk⟩ | ⟨j,hk⟩
     .let {_,_,_,_,o,_,_,e,d,_}:=I.hok p _ hk;exact ⟨o,e,d⟩
     .let {_,_,_,_,o,_,_,e,d,_}:=I.hok p _ hk;exact ⟨o,e,d⟩
    let {o,e,d}:=z;refine {⟨o,e,d.1⟩,λa k=>?_};cases k;exact ⟨o,e,d.2.1⟩
   .let {o,_,_,_,e,d,_}:=I.hok p _ hk;refine {⟨o,e,d.1⟩,λa k=>?_};cases k;exact ⟨o,e,d.2.1⟩
 | _=>exact False.elim g
def Je (K:W.Frag) (T:String) (r:V->cZ->Hp->VK->Prop) (d:TE):TE:=λe H Q=>d e H λx c=>bZ K T x c/\r x [] c Q
def ax (K:W.Frag) (T:String) (r:V->cZ->Hp->VK->Prop) (e:TE) (t:TA):TE:=λc H Q=>e c H λx d=>bZ K T x d/\t c d λf g=>r x f g Q
variable {o e:Expr} {es:dh} {to:TE} {t:TA} {name:Str} {apos cpos:Pos} {T id:String} {r:V->cZ->Hp->VK->Prop}
def N3 (n:PlainAttrs T) (g:Slot T name id) (i:typeOf (.builtin id)=pure (.type "method_descriptor")) (p:MtR X id r) (q:PE X o to)
  (d:attributeBase o name X.env (eval o X.env)=eval o X.env:=by rfl) (f:(apos.endLine == cpos.line)=true:=by rfl):PE X (.Call (.Attribute o name apos) [] [] cpos) (Je X.K T r to):=by
 intro c s j H Q I h;refine wpAny_Call_method0_late d f (G_ (q c s j H _ I h) λv u ⟨x,w,k,m,y,z⟩=>?_);let {A,B}:=Ny k m y;exact {T,id,n,g,i,A,B,Calls.callWith_builtin rfl (PySem.evalArgs_none (p c u j w x [] v [] Q k m .nil z))}
def Ex (u:PlainAttrs T) (i:Slot T name id) (k:typeOf (.builtin id)=pure (.type "method_descriptor")) (w:MtR X id r) (y:PE X o to) (z:PA X (e::es) t)
  (f:attributeBase o name X.env (eval o X.env)=eval o X.env:=by rfl)
  (j:((backTo cpos (starEach (e::es) X.env)).all (λx=>!x.1) && (backToKw cpos (keywordEach [] X.env)).all (λx=>x.1.isSome)
   && decide ((e::es).length+([]:List Keyword).length+(if ([]:List Keyword).isEmpty then 0 else 1)<30))=true:=by rfl)
  (g:(apos.endLine == cpos.line)=true:=by rfl) (A:starEach (e::es) X.env=(false,eval e X.env)::starEach es X.env:=by rfl) (d:(backTo cpos (starEach es X.env)).any (·.1)=false:=by rfl) :
  PE X (.Call (.Attribute o name apos) (e::es) [] cpos) (ax X.K T r to t):=by
 intro c s m H Q I h;refine wpAny_Call_method_late f j g rfl (G_ (y c s m H _ I h) λv B ⟨x,C,n,p,D,E⟩=>?_);let {F,G}:=Ny n p D;refine {T,id,u,i,k,F,G,?_};let q:=z cpos c B m C _ n E;rw [A] at q ⊢;refine Calls.callWith_builtin (by show (false || (backTo cpos (starEach es X.env)).any (·.1))=false;rw [d] <;> rfl) (Calls.evalArgs_plain ?_);exact G_ q λJ K ⟨L,M,N,O,P⟩=>w c K m M x L v J Q N p O P
end
def b_ (X:Cx) (id:String) (r:V->cZ->Hp->VK->Prop):Prop:=
 ∀ (a:dc) (s:Shared) (b:St) (H:Hp) (x:V) (c:cZ) (v:Value) (d:d7) (Q:VK),Inv X a b H s->RelV x v->Vals c d->r x c H Q->
   wpAny (model X.prog X.w) X.A (call (.builtin id) (v::d)) (EP X a b Q) X.xe s
def Vals.zero {a:d7} (h:Vals [] a):a=[]:=by cases h;rfl
def Vals.inv {x:V} {xs:cZ} {a:d7} (h:Vals (x::xs) a):∃ u t,a=u::t/\RelV x u/\Vals xs t:=by cases h with | cons r t=>exact {6,r,t}
def Vals.one {x:V} {a:d7} (h:Vals [x] a):∃ u,a=[u]/\RelV x u:=by let {u,t,rfl,r,h}:=h.inv;exact {u,by rw [h.zero],r}
def Vals.two {x y:V} {a:d7} (h:Vals [x,y] a):∃ u v,a=[u,v]/\RelV x u/\RelV y v:=by let {u,t,rfl,r,h}:=h.inv;let {v,rfl,q}:=h.one;exact ⟨u,v,rfl,r,q⟩
theorem Vals.dropLast {xs:cZ} {a:d7} (h:Vals xs a):Vals xs.dropLast a.dropLast:=by
 induction h with
 | nil=>exact .nil
 | cons r t b=>
   cases t with
   | nil=>exact .nil
   | cons q c=>exact .cons r b
theorem Vals.rep {xs:cZ} {a:d7} (h:Vals xs a):∀ k:Nat,Vals (List.replicate k xs).flatten (List.replicate k a).flatten
 | 0=>.nil
 | k+1=>by
   rw [List.replicate_succ,List.replicate_succ,List.flatten_cons,List.flatten_cons];exact Vals.append h (Vals.rep h k)
theorem V0 {c:Type} (l:List c):l.eraseIdx (@l - 1)=l.dropLast:=by
 induction l with
 | nil=>rfl
 | cons a r d=>
   cases r with
   | nil=>rfl
   | cons b r=>
     let e:(a::b::r).length - 1=((b::r).length - 1)+1:=by
      let f:(a::b::r).length=@r+2:=rfl;let g:(b::r).length=@r+1:=rfl;omega
     rw [e,List.eraseIdx_cons_succ,d]
     all_goals rfl
theorem N5 (its:d7):∀ (k:Nat) (a:d7),
  List.foldl (λb c=>b++c) a.toArray (List.replicate k its.toArray)=(a++(List.replicate k its).flatten).toArray
 | 0,a=>by simp
 | k+1,a=>by
   let e:a.toArray++its.toArray=(a++its).toArray:=by simp
   let d:(a++its)++(List.replicate k its).flatten=a++(List.replicate (k+1) its).flatten:=by
    rw [List.replicate_succ,List.flatten_cons,List.append_assoc]
   rw [<-d,<-N5 its k (a++its),<-e,List.replicate_succ,List.foldl_cons]
section
variable {X:Cx} {pins:dc} {σ:St} {H:Hp} {s:Shared} {l b:Addr} {xs ys zs:cZ}
def Inv.lset {its its':d7} {n:Nat} {f:Array Value->Array Value} {t':Nat} (I:Inv X pins σ H s) (d:H l^^^xs)
  (e:s.heap.get? l=some { cls:=.type "list", data:=.seq its.toArray n }) (g:f its.toArray=its'.toArray) (h:Vals ys its') (hz:@ys<=sizeLine) :
  Inv X pins σ (upd H l (.lst ys)) { s with heap:=s.heap.update l (Obj.mapSeq f),toks:=t' }:=by
 let q:=PySem.IsL.update e f;rw [g] at q;refine I.write (x:=l) (e:=l) (by rw [d];exact trivial) (.inl rfl) (λk u i j=>(Heap.get?_update_other s.heap (Obj.mapSeq f) (Ne.symm i)).trans j) {_,q} ?_;exact {hz,its',_,h,q}
def Inv.lnew {its:d7} {t':Nat} (I:Inv X pins σ H s) (e:Vals ys its) (hz:@ys<=sizeLine) :
  Inv X pins σ (upd H ⇑s (.lst ys)) { s with heap:=s.heap.push { cls:=.type "list", data:=.seq its.toArray },toks:=t' }:=
 I.laid (λ_ _ q=>Heap.get?_push_of_some _ q) (AT _) {hz,its,0,e,Heap.get?_push_size _ rfl}
def Inv.fresh (I:Inv X pins σ H s):H ⇑s=none:=I.hok.fresh (AT _)
def Inv.lstM (I:Inv X pins σ H s) (a:H l^^^xs):@xs<=sizeLine/\∃ (its:d7) (n:Nat),Vals xs its/\@xs=↑its/\s.heap.get? l=some { cls:=.type "list", data:=.seq its.toArray n }:=by
 let {z,its,n,r,e}:=I.hok l _ a;exact {z,its,n,r,@r,e}
def N6 {n:Nat} (h:n<=sizeLine):Builtin.List.listTooLong n=false:=by
 unfold Builtin.List.listTooLong;exact jH `a
end
section
variable {X:Cx}
inductive Ft(x:V)(vs:cZ)(H:Hp)(Q:VK):Prop
 |mk(l a y):x=.ref l->vs=[y]->H l^^^a->@a<sizeLine->Q .non (upd H l (.lst (a++[y])))->Ft x vs H Q
def V1 {x:V} {vs:cZ} {H:Hp} {Q:VK}:Ft x vs H Q=∃ l a y,x=.ref l/\vs=[y]/\H l^^^a/\@a<sizeLine/\Q .non (upd H l (.lst (a++[y]))):=propext {λ⟨b,c,d,e,f,g,h,i⟩=>⟨b,c,d,e,f,g,h,i⟩,λ⟨b,c,d,e,f,g,h,i⟩=>⟨b,c,d,e,f,g,h,i⟩}
def HQ:b_ X "list.append" Ft:=by
 intro b s i H x j v k Q I d f h;let {l,m,y,rfl,rfl,c,o,q}:=h;cases d;let {u,rfl,g}:=f.one;let {z,a,n,r,p,e}:=I.lstM c;refine call_meets F.slot_list_append {_,e,2} F.entry_list_append (F.args_list_append_2 _ _) (PySem.list_append l a.toArray n u (by rw [BI];omega)) {e,?_};refine {.non,_,I.lset (its':=a++[u]) c e (by simp) (r.append (.cons g .nil)) ?_,2,q};rw [Bf,List.length_singleton];omega
inductive Jf(x:V)(vs:cZ)(H:Hp)(Q:VK):Prop
 |mk(l b a c):x=.ref l->vs=[.ref b]->H l^^^a->H b^^^c->@a+@c<=sizeLine->Q .non (upd H l (.lst (a++c)))->Jf x vs H Q
def V2 {x:V} {vs:cZ} {H:Hp} {Q:VK}:Jf x vs H Q=∃ l b a c,x=.ref l/\vs=[.ref b]/\H l^^^a/\H b^^^c/\@a+@c<=sizeLine/\Q .non (upd H l (.lst (a++c))):=propext {λ⟨d,e,f,g,h,i,j,k,m,n⟩=>⟨d,e,f,g,h,i,j,k,m,n⟩,λ⟨d,e,f,g,h,i,j,k,m,n⟩=>⟨d,e,f,g,h,i,j,k,m,n⟩}
def N7:b_ X "list.extend" Jf:=by
 intro g s B H x C v D Q I j k h;let {l,b,E,G,rfl,rfl,i,m,J,q}:=h;cases j;let {u,rfl,o}:=k.one;cases o;let {z,c,n,r,K,e}:=I.lstM i;let {L,a,p,w,y,A}:=I.lstM m;let f:c.toArray.size+a.toArray.size<=sizeLine:=by rw [BI,BI];omega
 let d:¬ (!c.toArray.isEmpty && Builtin.List.listTooLong (c.toArray.size+a.toArray.size))=true:=by
  rw [N6 f,Bool.and_false];exact Cg
 refine call_meets F.slot_list_extend {_,e,2} F.entry_list_extend (F.args_list_extend_2 _ _)
  (AutoSeq1.list_extend_list_list_0 l c.toArray n b a.toArray p d (by rw [BI];omega) `a) {e,A,?_}
 refine {.non,_,I.lset (its':=c++a) i e (by simp) (r.append w) ?_,2,q};rw [Bf];omega
inductive Jg(x:V)(vs:cZ)(H:Hp)(Q:VK):Prop
 |mk(l a y):x=.ref l->vs=[]->H l^^^a->a[@a - 1]?=some y->Q y (upd H l (.lst a.dropLast))->Jg x vs H Q
def V3 {x:V} {vs:cZ} {H:Hp} {Q:VK}:Jg x vs H Q=∃ l a y,x=.ref l/\vs=[]/\H l^^^a/\a[@a - 1]?=some y/\Q y (upd H l (.lst a.dropLast)):=propext {λ⟨b,c,d,e,f,g,h,i⟩=>⟨b,c,d,e,f,g,h,i⟩,λ⟨b,c,d,e,f,g,h,i⟩=>⟨b,c,d,e,f,g,h,i⟩}
def N8:b_ X "list.pop" Jg:=by
 intro d s p H x w v A Q I g i h;let {l,B,y,rfl,rfl,f,j,q}:=h;cases g;let b:=i.zero;subst b;let {z,a,n,r,k,e}:=I.lstM f;let {u,m,o}:=r.get j
 let c:a.toArray[a.toArray.size - 1]?=some u:=by
  show a.toArray[@a - 1]?=some u;rw [<-Array.getElem?_toList,<-k];exact m
 refine call_meets F.slot_list_pop {_,e,2} F.entry_list_pop (F.args_list_pop_1 _) (MeetsSeq.list_pop_last l a.toArray n u c (by rw [BI];omega)) {e,?_};refine {y,_,I.lset (its':=a.dropLast) f e ?_ r.dropLast ?_,o,q}
 .show a.toArray.eraseIdxIfInBounds (a.toArray.size - 1)=a.dropLast.toArray;rw [BI,List.eraseIdxIfInBounds_toArray,V0]
 .rw [List.length_dropLast];omega
inductive Fu(x y:V)(H:Hp)(Q:VK):Prop
 |mk(l b a c):x=.ref l->y=.ref b->H l^^^a->H b^^^c->@a+@c<=sizeLine->(∀ p,H p=none->Q (.ref p) (upd H p (.lst (a++c))))->Fu x y H Q
def V4 {x:V} {y:V} {H:Hp} {Q:VK}:Fu x y H Q=∃ l b a c,x=.ref l/\y=.ref b/\H l^^^a/\H b^^^c/\@a+@c<=sizeLine/\∀ p,H p=none->Q (.ref p) (upd H p (.lst (a++c))):=propext {λ⟨d,e,f,g,h,i,j,k,m,n⟩=>⟨d,e,f,g,h,i,j,k,m,n⟩,λ⟨d,e,f,g,h,i,j,k,m,n⟩=>⟨d,e,f,g,h,i,j,k,m,n⟩}
def Jh:OpR X (binaryOp .Add) Fu:=by
 intro d s w H x y v u Q I f g h;let {l,b,A,B,rfl,rfl,i,j,C,q}:=h;cases f;cases g;let {z,c,n,r,D,e}:=I.lstM i;let {E,a,F,k,m,o}:=I.lstM j;refine PySem.P.add_list e o ?_ (by rw [BI,BI];omega);let p:c.toArray++a.toArray=(c++a).toArray:=by simp
 rw [p];exact {.ref _,_,I.lnew (t':=s.toks) (r.append k) (by rw [Bf];omega),2,q _ I.fresh}
inductive FP(x y:V)(H:Hp)(Q:VK):Prop
 |mk(l k a):x=.ref l->y=.int k->H l^^^a->-(2 ^ 63)<=k->k<2 ^ 63->@a*k.toNat<=sizeLine->(∀ p,H p=none->Q (.ref p) (upd H p (.lst (List.replicate k.toNat a).flatten)))->FP x y H Q
def V5 {x:V} {y:V} {H:Hp} {Q:VK}:FP x y H Q=∃ l k a,x=.ref l/\y=.int k/\H l^^^a/\-(2 ^ 63)<=k/\k<2 ^ 63/\@a*k.toNat<=sizeLine/\
 ∀ p,H p=none->Q (.ref p) (upd H p (.lst (List.replicate k.toNat a).flatten)):=propext {λ⟨b,c,d,e,f,g,h,i,j,m⟩=>⟨b,c,d,e,f,g,h,i,j,m⟩,λ⟨b,c,d,e,f,g,h,i,j,m⟩=>⟨b,c,d,e,f,g,h,i,j,m⟩}
theorem V6 {a:Type} (xs:List a) (k:Nat):(List.replicate k xs).flatten.length=k*@xs:=by
 induction k with
 | zero=>simp
 | succ k b=>rw [List.replicate_succ,List.flatten_cons,Bf,b,Nat.succ_mul,Nat.add_comm]
def GX:OpR X (binaryOp .Mult) FP:=by
 intro p s L H x y v u Q I A B h;let {l,k,M,rfl,rfl,C,D,E,w,q}:=h;cases A;let {t,rfl}:=B;let {z,b,n,r,G,e}:=I.lstM C;let d:b.toArray.size*k.toNat<=sizeLine:=by rw [BI,<-G];exact w
 let f:¬ b.toArray.size*k.toNat > (2 ^ 63 - 1) / 8:=by
  have:(sizeLine:Nat)<=(2 ^ 63 - 1) / 8:=by decide
  omega
 let g:¬ (!Builtin.List.listFitsIndex k)=true:=by
  rw [fitsIndex_both D E];exact Cg
 let c:¬ Builtin.List.listTooLong (b.toArray.size*k.toNat)=true:=by
  rw [N6 d];exact Cg
 let i:List.foldl (λj o=>j++o) #[] (List.replicate (if b.toArray.isEmpty=true then 0 else k.toNat) b.toArray)=(List.replicate k.toNat b).flatten.toArray:=by
  let J:∀ m:Nat,List.foldl (λj o=>j++o) #[] (List.replicate m b.toArray)=(List.replicate m b).flatten.toArray:=λm=>by
   have:=N5 b m [];rw [List.nil_append] at this;exact this
  rw [J];cases b with
  | nil=>simp
  | cons a N=>rw [jD (by simp)]
 refine wpAny_binaryOp_repeat_ref (T := "list") (U := "int") `b {_,e,2} (λK=>typeIs_int K k t) noFill_list_mul F.fills_int_mul F.slot_int_rmul repeat_list F.slot_int_index.lookup
  (call_meets F.slot_int_rmul (typeIs_int s k t) F.entry_int_rmul (F.args_int_rmul_2 _ _) (int___rmul___int_list k t l b.toArray n)
   {e,2,{_,e,2},call_meets F.slot_list_mul {_,e,2} F.entry_list_mul (F.args_list_mul_2 _ _) (AutoListH.list___mul___list_int_3 l b.toArray n k t g f c) {e,?_}})
 rw [i];exact {.ref _,_,I.lnew (t':=s.toks) (r.rep k.toNat) (by rw [V6,C6];exact w),2,q _ I.fresh}
end
end L2
namespace Att
open PySem PySem.W PySem.Calls PyProof.Rows
theorem V7 {P:Params} {h:Heap}:∀ (ns:d6) (vs:d7),WellAll P h vs (ns.map WData.int)->IntsAre vs ns:=by
 intro ns
 induction ns with
 | nil=>
   intro vs w;rw [List.map_nil] at w;cases w;exact .nil
 | cons n ns c=>
   intro vs w;rw [CZ] at w;cases w with
   | cons a b=>
     cases a;exact .cons _ _ (c _ b)
theorem V8 {l:OpenLaw} {n:Nat} (v:l.most=some n) {P:Params} {h:Heap} {b:List WData} {e:d7}
  (f:l.row.toRowW.claim.pre b=true) (m:WellAll P h e b) :
  ∃ a p c,e=[Value.ref a]/\b=[WData.list (c.map WData.int)]/\h.get? a=some { cls:=.type "list", data:=.seq p.toArray }/\IntsAre p c/\@c<=n:=by
 let o:WShape.hasAll [] b [.list .int]=true:=(pre_splitW f).1;let u:l.pre.holds [] { args:=b }=true:=(pre_splitW f).2;let {d,r,rfl,w,x}:=hasAllW_cons o;obtain rfl:=hasAllW_nil x;let {D,rfl,y}:=hasW_list w;let {c,rfl}:=items_int y
 let g:@c<=n:=by
  unfold OpenLaw.pre at u
  let j:(WTm.not (.lt (.lit (.int (n:Int))) (.len (.arg 0)))).holds [] { args:=[.list (c.map .int)] }=true:=by
   let j:=(holds_andW u).1;rw [v] at j;exact j
  let k:=condW_of j (w_not (w_lt w_lit (w_len_list (w_arg rfl))));rw [AI] at k;refine Nat.le_of_not_lt λq=>?_;let z:(n:Int)<((@c:Nat):Int):=by omega
  first
   | (rw [jF z] at k;exact absurd k `b)
   | (simp at k;omega)
 cases m with
 | cons A B=>
   cases B;cases A with
   | list C i=>exact {9,c,7,C,V7 c _ i,g}
def V9 (l:OpenLaw) (a:List WData):l.row.toRowW.claim.post a (.bool true) a=true:=
 postW_of (r:=l.row.toRowW) (X:=(true == true))
  (show WShape.has [] (.bool true) .bool=true by first | rfl | decide | simp [WShape.has,WShape.arms,WShape.armsAll])
  (show (WTm.eq .res (.lit (.bool true))).value [] { args:=a,res:=some (.bool true),after:=a }=some (.bool (true == true)) from w_eq_bool (w_res rfl) w_lit) rfl
def attach_call {l:OpenLaw} {n:Nat} {q:Program} {loose:di} {XP:(de)->Heap->Prop} {YP:World->Heap->Prop} {d:DefRec}
  (E:l.most=some n) (u:d.params.defaults=[])
  (call:∀ (w:World) (c b:Shared) (mg v:de) (h:Addr) (o:Obj) (pm m e:Value) (a:Addr) (vs:d7) (ns:d6),
   Ground q loose [] XP w c mg v b.heap->YP w b.heap->
   b.heap.get? h=some o->o.data=.func (docDef d.name d.params d.body d.scope pm m e)->b.heap.CodeRec m d.name->mg d.name=↥h->
   b.heap.get? a=some { cls:=.type "list", data:=.seq vs.toArray }->IntsAre vs ns->@ns<=n->b.gens=#[]->
   codeAny (model l.prog w) callerA (.call (.ref h) ⟨[.ref a],[]⟩) (λr p=>r=.ok (.ret (.bool true))/\OldK b.heap p.heap/\p.os=b.os/\AllBare p.gens) b) :
  WalkO q loose XP YP l.row.toRowW d [] (λf vs=>PySem.call f vs):=by
 intro w c b mg v G Y h o pm m e F kV H I x A y J B C as i D K z L;obtain rfl:F=.none:=Dflts.none A u;obtain rfl:kV=.none:=Dflts.noKw A;let {a,vs,ns,rfl,rfl,j,g,k}:=V8 E i z;refine enter_call (codeAny_mono (call w c b mg v h o pm m e a vs ns G Y H (fd_plain I) x y j g k J) λr p M=>?_);let {rfl,N,O,P}:=M;exact {.inl {.bool true,.bool true,[],2,λ_=>rfl,.bool true,V9 l _,λ_=>{List.Pairwise.nil,λ_ Q=>(nomatch Q)}},N,O,P}
section
variable {prog:Program} {w:World} {A:Around} {E:d8} {s:Shared} {K:Frag}
noncomputable def noObjs (h:Heap):Heap:={ h with objs:=#[] }
theorem noObjs_get (h:Heap) (b:Addr):(noObjs h).get? b=none:=by
 cases e:(noObjs h).get? b with
 | none=>rfl
 | some o=>exact absurd (jM e) (Nat.not_lt_zero _)
noncomputable def ledger (h:Heap) (L d:Addr):dc:=(List.range h.objs.size).filterMap λa=>if a=L\/a=d then none else (h.get? a).map λo=>(a,o)
def mem_ledger {h:Heap} {L d a:Addr} {o:Obj}:(a,o)∈ledger h L d↔a≠L/\a≠d/\h.get? a=some o:=by
 unfold ledger;rw [List.mem_filterMap];constructor
 .rintro ⟨b,_,e⟩;split at e
  .cases e
  .rename_i f;let {k,c,g}:=EO.mp e;cases g;exact {λq=>f (.inl q),λq=>f (.inr q),c}
 .rintro ⟨i,j,c⟩;refine {a,D7.mpr (jM c),?_};rw [jD (show ¬ (a=L\/a=d) from λq=>q.elim i j),c] <;> rfl
def fr_all {h:Heap} {L:Addr} {m:de} (n:h.Ns L m):Fr (noObjs h) L h m:=
 {n,λb o e=>(by rw [noObjs_get] at e;cases e),Ah _}
end
end Att
namespace L2
open PySem PySem.Spec PyProof.Rows
theorem LA:∀ {vs:d7} {ns:d6},IntsAre vs ns->Vals (~~~ns) vs
 | _,_,.nil=>.nil
 | _,_,.cons n t h=>.cons ⟨t,rfl⟩ (LA h)
noncomputable def EG (s:Stmt):Arguments:=match s with
 | .FunctionDef _ a _ _ _ _ _ _ _ _=>a
 | _=>{ posonlyargs:=[],args:=[],vararg:=none,kwonlyargs:=[],kw_defaults:=[],kwarg:=none,defaults:=[] }
noncomputable def Dg (s:Stmt):List Stmt:=match s with
 | .FunctionDef _ _ b _ _ _ _ _ _ _=>b
 | _=>[]
noncomputable def CI (s:Stmt):Scope:=match s with
 | .FunctionDef _ _ _ _ _ _ a _ _ _=>a
 | _=>{ kind:=.function,names:=[],isGenerator:=false,isCoroutine:=false }
abbrev ay:aK:=λ_ _ _ _ _ _=>False
abbrev E0:XK:=λ_ _ _=>False
def WA {X:Cx}:av ay X E0:=λ_ _ _ _ _ _ _ h=>h.elim
structure Fun (K:W.Frag) (x qual:Str) (st:Stmt) (f:Addr) (fd:FuncData):Prop where
 ex:∃ (oc:Value) (od:Option Addr) (kV doc pm:Value) (an:Option Addr) (cdv ct:Value) (osl:Array (Option Value)),
  fd=W.fnOf x qual (EG st) (Dg st) (CI st) .none kV doc pm an cdv ct/\K.lookup f=some ⟨oc,od,.func fd,osl⟩/\W.codeIn K cdv qual=true
 kp:W.keepIn K (.ref f)=true
section
variable {P:Program} {w:World} {K:W.Frag} {mg:de} {base:Heap}
def Fun.ok {x b:Str} {st:Stmt} {f:Addr} {i:FuncData} {N ps:di} {k:Nat} {sp:Sp} (F:Fun K x b st f i) (S:FnScope N ps (CI st)) (len:∀ vs H Q E,sp vs H Q E->@vs=@ps)
  (d:∀ (c:Value) (A:Around) (a:List Env) (s:Shared) (H:Hp) (vs:cZ) (Q:VK) (E:XK),Room k (A.deeper (envOfC b (CI st) ⇑s f c))->sp vs H Q E->
   ∃ t,PSs (FM ay P w K mg base N b (CI st) f c A a s H E).nox (Dg st) t/\t { nx:=λ_ j=>Q .non j,rt:=Q } (start N vs) H):FnOk P w K mg base ay (k+1) f i ps sp:=by
 let {r,u,kV,m,v,y,c,z,n,rfl,o,e}:=F.ex;refine Nr o e S len λA a s H vs Q E p g=>?_;let {t,h,q}:=d c A a s H vs Q E p g;exact ⟨t,h.nox,q⟩
def Fun.binds {x a:Str} {st:Stmt} {f:Addr} {i:FuncData} {ps:di} (F:Fun K x a st f i)
  (h:∀ (kV b pm:Value) (d:Option Addr) (c e:Value) (g:d7),@g=@ps->bindArgs (W.fnOf x a (EG st) (Dg st) (CI st) .none kV b pm d c e) ⟨g,[]⟩=pure (ps.zip g)):Binds K i ps []:=by
 let {m,n,kV,b,pm,d,c,e,j,rfl,o,k}:=F.ex;exact .all (h kV b pm d c e)
def WB {x a:Str} {st:Stmt} {f:Addr} {i:Value} {j g:Option Addr} {e:Array (Option Value)} {kV d pm b h:Value} (l:K.lookup f=some ⟨i,j,.func (W.fnOf x a (EG st) (Dg st) (CI st) .none kV d pm g b h),e⟩)
  (c:W.codeIn K b a=true) (k:W.keepIn K (.ref f)=true):Fun K x a st f (W.fnOf x a (EG st) (Dg st) (CI st) .none kV d pm g b h):={⟨i,j,kV,d,pm,g,b,h,e,rfl,l,c⟩,k}
end
section
variable {X:Cx}
def pv (i:Nat) {x:Str} {a:Pos} (c:X.N[i]?=some x:=by rfl) (d:bU X.env.scope x:=by first | exact Or.inl rfl | exact Or.inr (Or.inl rfl) | exact Or.inr (Or.inr rfl)) (e:(x == ("__debug__" : Str))=false:=by decide)
  (b:(x == ("__classdict__" : Str))=false:=by decide):PE X (.Name x a) (AA i):=VA c d e b
end
def Aa {c A B:Prop} [Decidable c] (a:c->A) (b:¬ c->B):if c then A else B:=by
 by_cases h:c
 .rw [jE h];exact a h
 .rw [jD h];exact b h
def Same (H a:Hp):Prop:=∀ b o,H b=some o->a b=some o
def Same.refl (H:Hp):Same H H:=λ_ _ h=>h
def Same.trans {H d e:Hp} (a:Same H d) (b:Same d e):Same H e:=λc o h=>b c o (a c o h)
def Same.seq {K:W.Frag} {H b:Hp} {a:Addr} {xs:cZ} (e:Same H b) (h:SqL K H a xs):SqL K b a xs:=by
 rcases h with (h | ⟨o,h⟩) | h
 .exact .inl (.inl (e _ _ h))
 .exact .inl (.inr {o,e _ _ h})
 .exact .inr h
end L2
local macro_rules | `(tactic| omega)=>`(tactic| lia)
namespace Bs.Hd
open PySem PySem.Spec PyProof.Rows L2
set_option maxRecDepth 100000
noncomputable def top (i:Nat):Stmt:=PySem.Challenge.pw_backslope_k75_worth_at_a_place.main.body.getD i (.Pass ⟨0,0,0,0⟩)
abbrev WC:Stmt:=top 2
abbrev WD:Stmt:=top 3
abbrev WE:Stmt:=top 4
abbrev WF:Stmt:=top 5
abbrev WG:Stmt:=top 6
abbrev WH:Stmt:=top 7
abbrev WI:Stmt:=top 8
abbrev WJ:Stmt:=top 9
abbrev WK:Stmt:=top 10
abbrev WM:Stmt:=top 11
abbrev WN:Stmt:=top 12
abbrev WO:Stmt:=top 13
abbrev WQ:Stmt:=top 14
abbrev WS:Stmt:=top 15
abbrev WT:Stmt:=top 16
abbrev WU:Stmt:=top 17
abbrev WV:Stmt:=top 18
abbrev WW:Stmt:=top 19
abbrev WX:Stmt:=top 20
abbrev WY:Stmt:=top 21
abbrev WZ:Stmt:=top 22
abbrev Wa:Stmt:=top 23
abbrev Wb:Stmt:=top 25
abbrev We:Stmt:=top 26
abbrev Wf:Stmt:=top 27
abbrev Wg:Stmt:=top 28
abbrev Wh:Stmt:=top 29
abbrev Wi:Stmt:=top 31
abbrev Wj:Stmt:=top 32
abbrev Wk:Stmt:=top 33
abbrev Wm:Stmt:=top 34
abbrev Wn:Stmt:=top 35
abbrev Wq:Stmt:=top 36
abbrev Ws:Stmt:=top 37
abbrev Wu:Stmt:=top 38
abbrev Wv:Stmt:=top 39
abbrev Ww:Stmt:=top 40
abbrev Wx:Stmt:=top 42
abbrev Wy:Stmt:=top 43
abbrev Wz:Stmt:=top 44
abbrev W1:Stmt:=top 45
abbrev W2:Stmt:=top 46
abbrev N9:Stmt:=top 48
abbrev W3:Stmt:=top 49
abbrev W4:Stmt:=top 50
abbrev W5:Stmt:=top 52
abbrev W6:Stmt:=top 54
abbrev W7:Stmt:=top 55
abbrev W8:Stmt:=top 56
abbrev W9:Stmt:=top 57
abbrev XA:Stmt:=top 58
abbrev XC:Stmt:=top 60
abbrev XD:Stmt:=top 61
abbrev XE:Stmt:=top 62
abbrev XF:Stmt:=top 63
abbrev XG:Stmt:=top 64
abbrev XH:Stmt:=top 65
abbrev XI:Stmt:=top 66
abbrev XJ:Stmt:=top 67
abbrev XM:Stmt:=top 68
abbrev XN:Stmt:=top 69
abbrev XO:Stmt:=top 70
abbrev XQ:Stmt:=top 71
abbrev XR:Stmt:=top 72
abbrev XS:Stmt:=top 73
abbrev XT:Stmt:=top 74
abbrev XU:Stmt:=top 75
abbrev XV:Stmt:=top 76
abbrev XW:Stmt:=top 77
abbrev XX:Stmt:=top 78
abbrev XY:Stmt:=top 79
abbrev Ji:Stmt:=top 80
abbrev N:Value:=.none
abbrev S (x:Str) (t:Tok):Value:=.str x t
abbrev I (i:Int):Value:=.int i 0
abbrev R (a:Addr):Value:=.ref a
noncomputable def H_ (P:Params) (k:Str) (t:Tok) (v:Value):DictEntry:={PyData.keyHash P k,.str k t,v}
noncomputable def J' (n:Str) (t:Tok) (l c u:Int) (a:Addr) (b g d e f:Value) (x:Int) (y:Tok):Obj:={.type "code", none,.fields #[S n t,S n (t+1),S "/claim/cut.py" (t+2),I l,I c,I 0,I 0,I u,R a,.bool true,I 181,b,g,d,e,f,I x,I l,S "/claim/cut.py" y],#[]}
noncomputable def J_ (n:Str) (s:Stmt) (pm:Value) (c:Addr):Obj:={.type "function", none,.func (W.fnOf n n (EG s) (Dg s) (CI s) .none .none .none pm none (.ref c) .none),#[]}
abbrev P_:Value:=S "backslope.wholes" 187
abbrev aS:Value:=S "backslope.numbers" 393
abbrev Z_:Value:=S "backslope.polys" 435
abbrev aU:Value:=S "backslope.fractions" 525
abbrev bH:Value:=S "backslope.lognumbers" 574
abbrev mo5:Value:=S "backslope.limits" 597
abbrev M_:Value:=S "law_backslope_k75_worth_at_a_place" 605
noncomputable def hp (P:Params):W.Frag:=[
 (3,{.type "dict", none,.dict #[H_ P "__name__" 165 (S "law_backslope_k75_worth_at_a_place" 605),H_ P "__doc__" 166 N,H_ P "__package__" 167 N,H_ P "__loader__" 168 (.builtin "__main__.__loader__#opaque"),H_ P "__spec__" 169 N,H_ P "__annotations__" 170 (R 6),H_ P "__builtins__" 171 (R 4),H_ P "__file__" 173 (S "/claim/cut.py" 172),H_ P "__cached__" 174 N,H_ P "EXPONENTS" 197 (R 15),H_ P "common_divisor" 206 (R 22),H_ P "raised" 216 (R 29),H_ P "content" 222 (R 34),H_ P "row_trimmed" 230 (R 41),H_ P "row_parted" 236 (R 46),H_ P "row_times" 249 (R 53),H_ P "row_over" 263 (R 60),H_ P "row_less" 269 (R 65),H_ P "strand_rest" 275 (R 70),H_ P "strand_shortened" 281 (R 75),H_ P "row_shortened" 288 (R 82),H_ P "strand_euclid" 297 (R 89),H_ P "inverse_modulo" 311 (R 96),H_ P "rests_modulo" 317 (R 101),H_ P "row_modulo" 325 (R 108),H_ P "monic_modulo" 331 (R 113),H_ P "split_modulo" 346 (R 120),H_ P "rest_modulo" 355 (R 127),H_ P "euclid_modulo" 365 (R 134),H_ P "nearest" 374 (R 141),H_ P "common_by_prime" 380 (R 146),H_ P "row_common" 392 (R 153),H_ P "ratio" 403 (R 160),H_ P "plus" 411 (R 167),H_ P "times" 419 (R 174),H_ P "over" 427 (R 181),H_ P "size_of" 434 (R 188),H_ P "poly" 444 (R 195),H_ P "cleared" 450 (R 200),H_ P "uncleared" 456 (R 205),H_ P "number_of" 464 (R 212),H_ P "p_plus" 470 (R 217),H_ P "p_times" 480 (R 224),H_ P "p_scaled" 486 (R 229),H_ P "p_split" 503 (R 236),H_ P "common" 512 (R 243),H_ P "p_at" 524 (R 250),H_ P "fraction" 535 (R 257),H_ P "evened" 544 (R 264),H_ P "quotient" 552 (R 271),H_ P "f_plus" 564 (R 278),H_ P "f_at" 573 (R 285),H_ P "settled_number" 581 (R 290),H_ P "without_common" 587 (R 295),H_ P "pieces_of_two" 596 (R 302),H_ P "value_at" 604 (R 307),H_ P "_law_at" 614 (R 314),H_ P "_law_draw" 624 (R 321),H_ P "_law_number" 634 (R 328),H_ P "_law_plus" 642 (R 335),H_ P "_law_times" 650 (R 342),H_ P "_law_not_above" 658 (R 349),H_ P "_law_is_number" 666 (R 356),H_ P "_law_times_polys" 677 (R 363),H_ P "_law_poly" 683 (R 368),H_ P "_law_tops" 690 (R 375),H_ P "_law_groups" 696 (R 380),H_ P "_law_parts" 702 (R 385),H_ P "_law_drawn" 708 (R 390),H_ P "_law_v" 719 (R 397),H_ P "_law_form" 725 (R 402),H_ P "_law_size" 732 (R 409),H_ P "_law_power" 742 (R 416),H_ P "_law_less" 750 (R 423),H_ P "_law_turn" 757 (R 430),H_ P "_law_part_at" 771 (R 437),H_ P "_law_log_rows" 785 (R 444),H_ P "_law_add_whole" 795 (R 451),H_ P "_law_weights_of" 801 (R 456),H_ P "_law_no_common" 813 (R 463),H_ P "_law_is_worth" 824 (R 470),H_ P "_law_has" 830 (R 475),H_ P "law" 842 (R 482)] 83,#[]}),
 (15,{.type "tuple", none,.seq #[(.int 61 189),(.int 127 190),(.int 521 191),(.int 1279 192),(.int 4423 193),(.int 9941 194),(.int 21701 195),(.int 44497 196)] 0,#[]}),
 (21,J' "common_divisor" 198 3 2 3 16 (R 17) N (R 18) (R 19) (R 20) 204 205),
 (22,J_ "common_divisor" (top 2) P_ 21),
 (28,J' "raised" 207 9 2 3 23 (R 24) N (R 25) (R 26) (R 27) 214 215),
 (29,J_ "raised" (top 3) P_ 28),
 (33,J' "content" 217 19 2 3 30 (R 31) N N N (R 32) 220 221),
 (34,J_ "content" (top 4) P_ 33),
 (40,J' "row_trimmed" 223 26 1 3 35 (R 36) N (R 37) (R 38) (R 39) 228 229),
 (41,J_ "row_trimmed" (top 5) P_ 40),
 (45,J' "row_parted" 231 31 2 3 42 (R 43) N N N (R 44) 234 235),
 (46,J_ "row_parted" (top 6) P_ 45),
 (52,J' "row_times" 237 33 2 3 47 (R 48) N (R 49) (R 50) (R 51) 247 248),
 (53,J_ "row_times" (top 7) P_ 52),
 (59,J' "row_over" 250 42 2 3 54 (R 55) N (R 56) (R 57) (R 58) 261 262),
 (60,J_ "row_over" (top 8) P_ 59),
 (64,J' "row_less" 264 55 5 3 61 (R 62) N N N (R 63) 267 268),
 (65,J_ "row_less" (top 9) P_ 64),
 (69,J' "strand_rest" 270 61 2 3 66 (R 67) N N N (R 68) 273 274),
 (70,J_ "strand_rest" (top 10) P_ 69),
 (74,J' "strand_shortened" 276 71 1 3 71 (R 72) N N N (R 73) 279 280),
 (75,J_ "strand_shortened" (top 11) P_ 74),
 (81,J' "row_shortened" 282 76 1 3 76 (R 77) N (R 78) (R 79) (R 80) 286 287),
 (82,J_ "row_shortened" (top 12) P_ 81),
 (88,J' "strand_euclid" 289 78 2 3 83 (R 84) N (R 85) (R 86) (R 87) 295 296),
 (89,J_ "strand_euclid" (top 13) P_ 88),
 (95,J' "inverse_modulo" 298 86 2 3 90 (R 91) N (R 92) (R 93) (R 94) 309 310),
 (96,J_ "inverse_modulo" (top 14) P_ 95),
 (100,J' "rests_modulo" 312 100 2 3 97 (R 98) N N N (R 99) 315 316),
 (101,J_ "rests_modulo" (top 15) P_ 100),
 (107,J' "row_modulo" 318 102 2 3 102 (R 103) N (R 104) (R 105) (R 106) 323 324),
 (108,J_ "row_modulo" (top 16) P_ 107),
 (112,J' "monic_modulo" 326 104 2 3 109 (R 110) N N N (R 111) 329 330),
 (113,J_ "monic_modulo" (top 17) P_ 112),
 (119,J' "split_modulo" 332 109 3 3 114 (R 115) N (R 116) (R 117) (R 118) 344 345),
 (120,J_ "split_modulo" (top 18) P_ 119),
 (126,J' "rest_modulo" 347 120 3 3 121 (R 122) N (R 123) (R 124) (R 125) 353 354),
 (127,J_ "rest_modulo" (top 19) P_ 126),
 (133,J' "euclid_modulo" 356 122 3 3 128 (R 129) N (R 130) (R 131) (R 132) 363 364),
 (134,J_ "euclid_modulo" (top 20) P_ 133),
 (140,J' "nearest" 366 130 2 3 135 (R 136) N (R 137) (R 138) (R 139) 372 373),
 (141,J_ "nearest" (top 21) P_ 140),
 (145,J' "common_by_prime" 375 133 3 3 142 (R 143) N N N (R 144) 378 379),
 (146,J_ "common_by_prime" (top 22) P_ 145),
 (152,J' "row_common" 381 142 2 3 147 (R 148) N (R 149) (R 150) (R 151) 390 391),
 (153,J_ "row_common" (top 23) P_ 152),
 (159,J' "ratio" 395 152 2 3 154 (R 155) N (R 156) (R 157) (R 158) 401 402),
 (160,J_ "ratio" (top 25) aS 159),
 (166,J' "plus" 404 157 2 3 161 (R 162) N (R 163) (R 164) (R 165) 409 410),
 (167,J_ "plus" (top 26) aS 166),
 (173,J' "times" 412 159 2 3 168 (R 169) N (R 170) (R 171) (R 172) 417 418),
 (174,J_ "times" (top 27) aS 173),
 (180,J' "over" 420 161 2 3 175 (R 176) N (R 177) (R 178) (R 179) 425 426),
 (181,J_ "over" (top 28) aS 180),
 (187,J' "size_of" 428 163 1 3 182 (R 183) N (R 184) (R 185) (R 186) 432 433),
 (188,J_ "size_of" (top 29) aS 187),
 (194,J' "poly" 437 166 1 3 189 (R 190) N (R 191) (R 192) (R 193) 442 443),
 (195,J_ "poly" (top 31) Z_ 194),
 (199,J' "cleared" 445 171 1 3 196 (R 197) N N N (R 198) 448 449),
 (200,J_ "cleared" (top 32) Z_ 199),
 (204,J' "uncleared" 451 176 2 3 201 (R 202) N N N (R 203) 454 455),
 (205,J_ "uncleared" (top 33) Z_ 204),
 (211,J' "number_of" 457 178 2 3 206 (R 207) N (R 208) (R 209) (R 210) 462 463),
 (212,J_ "number_of" (top 34) Z_ 211),
 (216,J' "p_plus" 465 180 2 3 213 (R 214) N N N (R 215) 468 469),
 (217,J_ "p_plus" (top 35) Z_ 216),
 (223,J' "p_times" 471 182 2 3 218 (R 219) N (R 220) (R 221) (R 222) 478 479),
 (224,J_ "p_times" (top 36) Z_ 223),
 (228,J' "p_scaled" 481 186 2 3 225 (R 226) N N N (R 227) 484 485),
 (229,J_ "p_scaled" (top 37) Z_ 228),
 (235,J' "p_split" 487 188 2 3 230 (R 231) N (R 232) (R 233) (R 234) 501 502),
 (236,J_ "p_split" (top 38) Z_ 235),
 (242,J' "common" 504 205 2 3 237 (R 238) N (R 239) (R 240) (R 241) 510 511),
 (243,J_ "common" (top 39) Z_ 242),
 (249,J' "p_at" 513 208 2 3 244 (R 245) N (R 246) (R 247) (R 248) 522 523),
 (250,J_ "p_at" (top 40) Z_ 249),
 (256,J' "fraction" 527 217 2 3 251 (R 252) N (R 253) (R 254) (R 255) 533 534),
 (257,J_ "fraction" (top 42) aU 256),
 (263,J' "evened" 536 220 2 3 258 (R 259) N (R 260) (R 261) (R 262) 542 543),
 (264,J_ "evened" (top 43) aU 263),
 (270,J' "quotient" 545 223 2 3 265 (R 266) N (R 267) (R 268) (R 269) 550 551),
 (271,J_ "quotient" (top 44) aU 270),
 (277,J' "f_plus" 553 225 2 3 272 (R 273) N (R 274) (R 275) (R 276) 562 563),
 (278,J_ "f_plus" (top 45) aU 277),
 (284,J' "f_at" 565 231 2 3 279 (R 280) N (R 281) (R 282) (R 283) 571 572),
 (285,J_ "f_at" (top 46) aU 284),
 (289,J' "settled_number" 576 235 2 3 286 (R 287) N N N (R 288) 579 580),
 (290,J_ "settled_number" (top 48) bH 289),
 (294,J' "without_common" 582 239 1 3 291 (R 292) N N N (R 293) 585 586),
 (295,J_ "without_common" (top 49) bH 294),
 (301,J' "pieces_of_two" 588 252 2 3 296 (R 297) N (R 298) (R 299) (R 300) 594 595),
 (302,J_ "pieces_of_two" (top 50) bH 301),
 (306,J' "value_at" 599 256 2 3 303 (R 304) N N N (R 305) 602 603),
 (307,J_ "value_at" (top 52) mo5 306),
 (313,J' "_law_at" 607 263 2 3 308 (R 309) N (R 310) (R 311) (R 312) 612 613),
 (314,J_ "_law_at" (top 54) M_ 313),
 (320,J' "_law_draw" 615 267 3 3 315 (R 316) N (R 317) (R 318) (R 319) 622 623),
 (321,J_ "_law_draw" (top 55) M_ 320),
 (327,J' "_law_number" 625 272 2 3 322 (R 323) N (R 324) (R 325) (R 326) 632 633),
 (328,J_ "_law_number" (top 56) M_ 327),
 (334,J' "_law_plus" 635 279 2 3 329 (R 330) N (R 331) (R 332) (R 333) 640 641),
 (335,J_ "_law_plus" (top 57) M_ 334),
 (341,J' "_law_times" 643 281 2 3 336 (R 337) N (R 338) (R 339) (R 340) 648 649),
 (342,J_ "_law_times" (top 58) M_ 341),
 (355,J' "_law_is_number" 659 285 1 3 350 (R 351) N (R 352) (R 353) (R 354) 664 665),
 (356,J_ "_law_is_number" (top 60) M_ 355),
 (362,J' "_law_times_polys" 667 292 2 3 357 (R 358) N (R 359) (R 360) (R 361) 675 676),
 (363,J_ "_law_times_polys" (top 61) M_ 362),
 (367,J' "_law_poly" 678 298 1 3 364 (R 365) N N N (R 366) 681 682),
 (368,J_ "_law_poly" (top 62) M_ 367),
 (374,J' "_law_tops" 684 300 1 3 369 (R 370) N (R 371) (R 372) (R 373) 688 689),
 (375,J_ "_law_tops" (top 63) M_ 374),
 (379,J' "_law_groups" 691 302 2 3 376 (R 377) N N N (R 378) 694 695),
 (380,J_ "_law_groups" (top 64) M_ 379),
 (384,J' "_law_parts" 697 316 2 3 381 (R 382) N N N (R 383) 700 701),
 (385,J_ "_law_parts" (top 65) M_ 384),
 (389,J' "_law_drawn" 703 324 1 3 386 (R 387) N N N (R 388) 706 707),
 (390,J_ "_law_drawn" (top 66) M_ 389),
 (396,J' "_law_v" 709 328 2 3 391 (R 392) N (R 393) (R 394) (R 395) 717 718),
 (397,J_ "_law_v" (top 67) M_ 396),
 (401,J' "_law_form" 720 335 1 3 398 (R 399) N N N (R 400) 723 724),
 (402,J_ "_law_form" (top 68) M_ 401),
 (408,J' "_law_size" 726 344 1 3 403 (R 404) N (R 405) (R 406) (R 407) 730 731),
 (409,J_ "_law_size" (top 69) M_ 408),
 (415,J' "_law_power" 733 346 2 3 410 (R 411) N (R 412) (R 413) (R 414) 740 741),
 (416,J_ "_law_power" (top 70) M_ 415),
 (422,J' "_law_less" 743 351 2 3 417 (R 418) N (R 419) (R 420) (R 421) 748 749),
 (423,J_ "_law_less" (top 71) M_ 422),
 (429,J' "_law_turn" 751 353 1 3 424 (R 425) N (R 426) (R 427) (R 428) 755 756),
 (430,J_ "_law_turn" (top 72) M_ 429),
 (436,J' "_law_part_at" 758 355 2 3 431 (R 432) N (R 433) (R 434) (R 435) 769 770),
 (437,J_ "_law_part_at" (top 73) M_ 436),
 (443,J' "_law_log_rows" 772 362 2 3 438 (R 439) N (R 440) (R 441) (R 442) 783 784),
 (444,J_ "_law_log_rows" (top 74) M_ 443),
 (450,J' "_law_add_whole" 786 371 3 3 445 (R 446) N (R 447) (R 448) (R 449) 793 794),
 (451,J_ "_law_add_whole" (top 75) M_ 450),
 (455,J' "_law_weights_of" 796 380 1 3 452 (R 453) N N N (R 454) 799 800),
 (456,J_ "_law_weights_of" (top 76) M_ 455),
 (462,J' "_law_no_common" 802 386 1 3 457 (R 458) N (R 459) (R 460) (R 461) 811 812),
 (463,J_ "_law_no_common" (top 77) M_ 462),
 (469,J' "_law_is_worth" 814 395 3 3 464 (R 465) N (R 466) (R 467) (R 468) 822 823),
 (470,J_ "_law_is_worth" (top 78) M_ 469),
 (474,J' "_law_has" 825 410 2 3 471 (R 472) N N N (R 473) 828 829),
 (475,J_ "_law_has" (top 79) M_ 474),
 (481,J' "law" 831 416 1 3 476 (R 477) N (R 478) (R 479) (R 480) 840 841),
 (482,J_ "law" (top 80) M_ 481),
 (4,{.type "module", some builtinsNs,.plain,#[]})]
noncomputable def as:dj:=[3,15,21,22,28,29,33,34,40,41,45,46,52,53,59,60,64,65,69,70,74,75,81,82,88,89,95,96,100,101,107,108,112,113,119,120,126,127,133,134,140,141,145,146,152,153,159,160,166,167,173,174,180,181,187,188,194,195,199,200,204,205,211,212,216,217,223,224,228,229,235,236,242,243,249,250,256,257,263,264,270,271,277,278,284,285,289,290,294,295,301,302,306,307,313,314,320,321,327,328,334,335,341,342,355,356,362,363,367,368,374,375,379,380,384,385,389,390,396,397,401,402,408,409,415,416,422,423,429,430,436,437,443,444,450,451,455,456,462,463,469,470,474,475,481,482,4]
noncomputable def vw:Program:=W.view PySem.Challenge.pw_backslope_k75_worth_at_a_place [80]
noncomputable def lo:di:=(["EXPONENTS","common_divisor","raised","content","row_trimmed","row_parted","row_times","row_over","row_less","strand_rest","strand_shortened","row_shortened","strand_euclid","inverse_modulo","rests_modulo","row_modulo","monic_modulo","split_modulo","rest_modulo","euclid_modulo","nearest","common_by_prime","row_common","ratio","plus"]:di)++(["times","over","size_of","poly","cleared","uncleared","number_of","p_plus","p_times","p_scaled","p_split","common","p_at","fraction","evened","quotient","f_plus","f_at","settled_number","without_common","pieces_of_two","value_at","_law_at","_law_draw","_law_number"]:di)++(["_law_plus","_law_times","_law_not_above","_law_is_number","_law_times_polys","_law_poly","_law_tops","_law_groups","_law_parts","_law_drawn","_law_v","_law_form","_law_size","_law_power","_law_less","_law_turn","_law_part_at","_law_log_rows","_law_add_whole","_law_weights_of","_law_no_common","_law_is_worth","_law_has"]:di)
noncomputable def hk:W.Hook:=W.kmHook hp as (λ_=>by kernel_rfl) [287]
def left:W.LeftO PySem.Challenge.pw_backslope_k75_worth_at_a_place vw lo (λs=>W.xlAt vw [] s && W.recOk (W.RowW.records (W.OpenRow.toRowW (W.OpenLaw.row PySem.Challenge.rw_backslope_k75_worth_at_a_place))) s) hk.obs hk.val 4678:=λw=>by kernel_rfl
def sd:PySem.Challenge.rw_backslope_k75_worth_at_a_place.wellSaid=true:=by decide +kernel
end Bs.Hd
namespace Bs
def Bd (n:Nat) (x:Int):Prop:=x.natAbs<2 ^ n
def Bd.mono {m n:Nat} {x:Int} (h:Bd m x) (a:m<=n):Bd n x:=CM h (EQ `b a)
def Bd.le {n:Nat} {x y:Int} (h:Bd n x) (a:y.natAbs<=x.natAbs):Bd n y:=Ek a h
def Bd.neg {n:Nat} {x:Int} (h:Bd n x):Bd n (-x):=by unfold Bd at *;rw [Int.natAbs_neg];exact h
def Bd.add {n:Nat} {x y:Int} (h:Bd n x) (h':Bd n y):Bd (n+1) (x+y):=by
 unfold Bd at *;have:=Int.natAbs_add_le x y;rw [CJ];omega
def Bd.sub {n:Nat} {x y:Int} (h:Bd n x) (h':Bd n y):Bd (n+1) (x - y):=by
 rw [Int.sub_eq_add_neg];exact h.add h'.neg
def Bd.mul {m n:Nat} {x y:Int} (h:Bd m x) (h':Bd n y):Bd (m+n) (x*y):=by
 unfold Bd at *;rw [Bp,Nat.pow_add];exact Nat.mul_lt_mul'' h h'
def XZ {x:Int} (a:-18446744073709551616<x) (b:x<18446744073709551616):Bd 64 x:=by
 unfold Bd;have:(2:Nat) ^ 64=18446744073709551616:=by decide
 rw [this];omega
def Bd.log2 {n:Nat} {x:Int} (h:Bd n x) (a:0<n):x.natAbs.log2<n:=by
 unfold Bd at h;rcases El x.natAbs with b | hp
 .rw [b];simpa using a
 .exact (Nat.log2_lt (Nat.ne_of_gt hp)).mpr h
structure Low (t d:Int):Prop where
 pos:0<d
 one:Int.gcd t d=1
def OA (a b:Int):Int.gcd b (a.fmod b)=Int.gcd a b:=by
 let e:a.fmod b=a - b*a.fdiv b:=Int.fmod_def a b;rw [e];apply Nat.dvd_antisymm
 .apply Int.dvd_gcd
  .let f:=ER b (a - b*a.fdiv b);let g:=Dj b (a - b*a.fdiv b);let d:=C7 g (GN (c:=a.fdiv b) f);rw [Int.sub_add_cancel] at d;exact d
  .exact ER b _
 .apply Int.dvd_gcd
  .exact Dj a b
  .exact Int.dvd_sub (ER a b) (GN (Dj a b))
def Jj (a:Int) {b:Int} (h:0<=b):Int.gcd b (a % b)=Int.gcd a b:=by
 rw [<-Int.fmod_eq_emod_of_nonneg a h,OA]
def Xa (a:Int) {b:Int} (h:b≠0):(a.fmod b).natAbs<b.natAbs:=by
 rcases Int.lt_or_gt_of_ne h with d | d
 .rw [Int.fmod_eq_emod];let e:=Ca a h;let f:=Int.emod_lt a h;split
  .rename_i c;rcases c with c | c
   .omega
   .have:a % b=0:=Int.emod_eq_zero_of_dvd c;omega
  .rename_i c;have:a % b≠0:=λz=>c (.inr (HI z));omega
 .rw [Int.fmod_eq_emod_of_nonneg a (Cc d)];let e:=Ca a h;let f:=Ci a d;omega
def Jk {a b s:Int} (m:b≠0) (j:s=if b<0 then -((Int.gcd a b:Nat):Int) else ((Int.gcd a b:Nat):Int)) :
  s≠0/\s.natAbs<=b.natAbs/\Low (a.fdiv s) (b.fdiv s)/\a.fdiv s*b=a*b.fdiv s/\(a.fdiv s).natAbs<=a.natAbs/\(b.fdiv s).natAbs<=b.natAbs:=by
 let w:0<Int.gcd a b:=Int.gcd_pos_of_ne_zero_right a m;let e:s.natAbs=Int.gcd a b:=by rw [j];split <;> simp
 let k:s≠0:=by intro z;rw [z] at e;simp at e;omega
 let p:s∣a:=by
  rw [<-Int.natAbs_dvd,e];exact ER a b
 let q:s∣b:=by
  rw [<-Int.natAbs_dvd,e];exact Dj a b
 let {t,rfl}:=p;let {d,rfl}:=q;rw [Int.mul_fdiv_cancel_left _ k,Int.mul_fdiv_cancel_left _ k];let n:d≠0:=by rintro rfl;simp at m
 let o:1<=s.natAbs:=by omega
 let r:Int.gcd t d=1:=by
  rw [Int.gcd_mul_left] at e;let u:s.natAbs*Int.gcd t d=s.natAbs*1:=by omega
  exact Nat.eq_of_mul_eq_mul_left o u
 let v:0<d:=by
  by_cases h:s*d<0
  .rw [jE h] at j;let f:s<0:=by omega
   rcases Int.lt_or_gt_of_ne n with c | c
   .have:=Int.mul_pos_of_neg_of_neg f c;omega
   .exact c
  .rw [jD h] at j;let g:0<s:=by omega
   rcases Int.lt_or_gt_of_ne n with c | c
   .have:=Int.mul_neg_of_pos_of_neg g c;omega
   .exact c
 let i:∀ y:Int,y.natAbs<=(s*y).natAbs:=λy=>by
  rw [Bp];exact GO _ o
 refine {k,?_,⟨v,r⟩,?_,i t,i d}
 .rw [Bp];exact Nat.le_mul_of_pos_right _ `a
 .ext
def LB {a b:Int} (f:0<b):Low (a / ((Int.gcd a b:Nat):Int)) (b / ((Int.gcd a b:Nat):Int))/\(a / ((Int.gcd a b:Nat):Int)).natAbs<=a.natAbs/\(b / ((Int.gcd a b:Nat):Int)).natAbs<=b.natAbs/\0<((Int.gcd a b:Nat):Int)/\((Int.gcd a b:Nat):Int)<=b:=by
 let g:0<Int.gcd a b:=Int.gcd_pos_of_ne_zero_right a `a;let {_,h,c,i,d,e}:=Jk (a:=a) (b:=b) (s:=((Int.gcd a b:Nat):Int)) `a (by rw [jD `a]);rw [ES _ `a,ES _ `a] at c;rw [ES _ `a] at d e;exact {c,d,e,`a,`a}
end Bs
namespace Bs
open PySem L2
def LC (_ j:Int):Prop:=0<j/\Bd 9000 j
def Xb (_ j:Int):Prop:=j≠0/\Bd 9000 j
def Xc (i j:Int):Prop:=0<=j/\j<=1000000/\i.natAbs<2 ^ 64
abbrev BX:R2:=ag λi j=>.int (i+j)
abbrev B5:R2:=ag λi j=>.int (i - j)
abbrev BD:R2:=rI IntMulOk λi j=>.int (i*j)
abbrev IP:R2:=rI LC λi j=>.int (i / j)
abbrev Xd:R2:=rI Xb λi j=>.int (i.fdiv j)
abbrev Cm:R2:=rI (λ_ j=>0<j) λi j=>.int (i % j)
abbrev OB:R2:=rI (λ_ j=>j≠0) λi j=>.int (i.fmod j)
abbrev Jl:R2:=rI Xc λi j=>.int (i ^ j.toNat)
abbrev aV:R2:=ag λi j=>.bl (decide (i<j))
abbrev iLe:R2:=ag λi j=>.bl (decide (i<=j))
abbrev aq:R2:=ag λi j=>.bl (decide (j<i))
abbrev cu:R2:=ag λi j=>.bl (decide (j<=i))
abbrev Bx:V->Hp->VK->Prop:=rU λi=>.int (-i)
inductive gT(x y:V)(H:Hp)(Q:VK):Prop
 |mk(p i a v):x=.ref p->y=.int i->H p&&&a->R_ a i=some v->Q v H->gT x y H Q
def Xe {x:V} {y:V} {H:Hp} {Q:VK}:gT x y H Q=∃ p i k v,x=.ref p/\y=.int i/\H p&&&k/\R_ k i=some v/\Q v H:=propext {λ⟨a,b,c,d,e,f,g,h,j⟩=>⟨a,b,c,d,e,f,g,h,j⟩,λ⟨a,b,c,d,e,f,g,h,j⟩=>⟨a,b,c,d,e,f,g,h,j⟩}
inductive gL(x y:V)(H:Hp)(Q:VK):Prop
 |mk(p i a v):x=.ref p->y=.int i->H p^^^a->R_ a i=some v->Q v H->gL x y H Q
def Xf {x:V} {y:V} {H:Hp} {Q:VK}:gL x y H Q=∃ p i k v,x=.ref p/\y=.int i/\H p^^^k/\R_ k i=some v/\Q v H:=propext {λ⟨a,b,c,d,e,f,g,h,j⟩=>⟨a,b,c,d,e,f,g,h,j⟩,λ⟨a,b,c,d,e,f,g,h,j⟩=>⟨a,b,c,d,e,f,g,h,j⟩}
inductive gS(K:W.Frag)(x y:V)(H:Hp)(Q:VK):Prop
 |mk(p i a v):x=.ref p->y=.int i->SqL K H p a->R_ a i=some v->Q v H->gS K x y H Q
def Xg {K:W.Frag} {x:V} {y:V} {H:Hp} {Q:VK}:gS K x y H Q=∃ p i k v,x=.ref p/\y=.int i/\SqL K H p k/\R_ k i=some v/\Q v H:=propext {λ⟨a,b,c,d,e,f,g,h,j⟩=>⟨a,b,c,d,e,f,g,h,j⟩,λ⟨a,b,c,d,e,f,g,h,j⟩=>⟨a,b,c,d,e,f,g,h,j⟩}
def Fv:cZ->Hp->VK->Prop:=λa H Q=>∃ i,a=[.int i]/\Q (.int (if i<0 then -i else i)) H
def HR:cZ->Hp->VK->Prop:=λa H Q=>∃ i j,a=[.int i,.int j]/\Q (.int (if j > i then j else i)) H
def Xh:cZ->Hp->VK->Prop:=λa H Q=>∃ i j,a=[.int i,.int j]/\Q (.int (if j<i then j else i)) H
def Xi:cZ->Hp->VK->Prop:=λa H Q=>∃ k,a=[.bl k]/\Q (.int (if k=true then 1 else 0)) H
inductive EH(xs:cZ)(H:Hp)(Q:VK):Prop
 |mk(p a):xs=[.ref p]->H p&&&a->Q (.int @a) H->EH xs H Q
def Xj {xs:cZ} {H:Hp} {Q:VK}:EH xs H Q=∃ p f,xs=[.ref p]/\H p&&&f/\Q (.int @f) H:=propext {λ⟨a,b,c,d,e⟩=>⟨a,b,c,d,e⟩,λ⟨a,b,c,d,e⟩=>⟨a,b,c,d,e⟩}
inductive CL(xs:cZ)(H:Hp)(Q:VK):Prop
 |mk(p a):xs=[.ref p]->H p^^^a->Q (.int @a) H->CL xs H Q
def Xk {xs:cZ} {H:Hp} {Q:VK}:CL xs H Q=∃ p f,xs=[.ref p]/\H p^^^f/\Q (.int @f) H:=propext {λ⟨a,b,c,d,e⟩=>⟨a,b,c,d,e⟩,λ⟨a,b,c,d,e⟩=>⟨a,b,c,d,e⟩}
inductive LD(K:W.Frag)(xs:cZ)(H:Hp)(Q:VK):Prop
 |mk(p a):xs=[.ref p]->SqL K H p a->Q (.int @a) H->LD K xs H Q
def Xl {K:W.Frag} {xs:cZ} {H:Hp} {Q:VK}:LD K xs H Q=∃ p f,xs=[.ref p]/\SqL K H p f/\Q (.int @f) H:=propext {λ⟨a,b,c,d,e⟩=>⟨a,b,c,d,e⟩,λ⟨a,b,c,d,e⟩=>⟨a,b,c,d,e⟩}
noncomputable def IQ:Option HO->String->Option Bool
 | some (.tup _),n=>if n = "tuple" then some true else if n = "bool" \/ n = "int" \/ n = "list" then some false else none
 | some (.lst _),n=>if n = "list" then some true else if n = "bool" \/ n = "int" \/ n = "tuple" then some false else none
 | _,_=>none
noncomputable def FQ (H:Hp):V->String->Option Bool
 | .int _,n=>if n = "int" then some true else if n = "bool" \/ n = "tuple" \/ n = "list" then some false else none
 | .bl _,n=>if n = "int" \/ n = "bool" then some true else if n = "tuple" \/ n = "list" then some false else none
 | .ref p,n=>IQ (H p) n
 | _,_=>none
inductive Fw(xs:cZ)(H:Hp)(Q:VK):Prop
 |mk(x n b):xs=[x,.ty n]->FQ H x n=some b->Q (.bl b) H->Fw xs H Q
def Xm {xs:cZ} {H:Hp} {Q:VK}:Fw xs H Q=∃ x n b,xs=[x,.ty n]/\FQ H x n=some b/\Q (.bl b) H:=propext {λ⟨a,c,d,e,f,g⟩=>⟨a,c,d,e,f,g⟩,λ⟨a,c,d,e,f,g⟩=>⟨a,c,d,e,f,g⟩}
def Xn (H:Hp) (i:Int):FQ H (.int i) "int" = some true:=rfl
def Xo (H:Hp) (i:Int):FQ H (.int i) "bool" = some false:=rfl
def Xp (H:Hp) (b:Bool):FQ H (.bl b) "bool" = some true:=rfl
def Jm {H:Hp} {p:Addr} {xs:cZ} (h:H p&&&xs):FQ H (.ref p) "tuple" = some true:=by
 show IQ (H p) "tuple" = _;rw [h];rfl
noncomputable def GY:V->Bool
 | .int _=>true
 | _=>false
noncomputable def bI (xs ys:cZ) (j:Nat):Bool:=match xs[j]?,ys[j]? with
 | some (.int a),some (.int b)=>a == b
 | _,_=>false
theorem IR {xs:cZ} {j:Nat} (h:xs.all GY=true) (b:j<@xs):∃ a,xs[j]?=some (.int a):=by
 let m:=Fh.mp h xs[j] (Cu b);rw [Ak b];generalize xs[j]=v at m;cases v with
 | int a=>exact ⟨a,rfl⟩
 | _=>exact absurd m Cg
def Xq {xs ys:cZ} (d:xs.all GY=true) (g:ys.all GY=true):((List.range (min @xs @ys)).all (bI xs ys) && @xs == @ys)=decide (xs=ys):=by
 rw [Ej];simp only [Bool.and_eq_true,Fh,D7,beq_iff_eq,decide_eq_true_eq];constructor
 .rintro ⟨i,k⟩;apply FC;intro j;by_cases e:j<@xs
  .let {a,c}:=IR d e;let {b,f}:=IR g (by omega:j<@ys);let h:=i j `a;unfold bI at h;rw [c,f] at h;rw [c,f,eq_of_beq h]
  .rw [B8 `a,B8 `a]
 .rintro rfl;refine {λj e=>?_,2};let {a,c}:=IR d (by omega:j<@xs);unfold bI;rw [c];exact beq_self_eq_true a
inductive cB(x y:V)(H:Hp)(Q:VK):Prop
 |mk(a b c d):x=.ref a->y=.ref b->H a&&&c->H b&&&d->c.all GY=true->d.all GY=true->Q (.bl (decide (c=d))) H->cB x y H Q
def Xr {x:V} {y:V} {H:Hp} {Q:VK}:cB x y H Q=∃ a b d e,x=.ref a/\y=.ref b/\H a&&&d/\H b&&&e/\d.all GY=true/\e.all GY=true/\Q (.bl (decide (d=e))) H:=propext {λ⟨f,g,h,i,j,k,m,n,o,p,c⟩=>⟨f,g,h,i,j,k,m,n,o,p,c⟩,λ⟨f,g,h,i,j,k,m,n,o,p,c⟩=>⟨f,g,h,i,j,k,m,n,o,p,c⟩}
def ForR (lo:Int) (n:Nat) (g:TG) (f:TS) (D:Ends) (a:St) (H:Hp):Prop:=∃ W:Nat->Nat->St->Hp->Prop,(∃ m,W 0 m a H)/\∀ i m a H,W i m a H->
 ((aF lo n).stop i H/\D.nx a H)\/((aF lo n).go i H/\∃ N:St->Hp->Prop,(∀ b c,N b c->∃ e,e<m/\W (i+1) e b c)/\∀ x c,(aF lo n).yld i H x c->g x a c λd h=>f { D with nx:=N,ct:=N,bk:=D.nx } d h)
def Xs {b:TA} {g:TG} {c:TS} {D:Ends} {a:St} {H:Hp}:BH (DM b) g c D a H=b a H (λd e=>∃ j:Int,d=[.int j]/\-(2 ^ 62)<=j/\j<2 ^ 62/\ForR 0 j.toNat g c D a e):=rfl
def ForR.by {lo:Int} {n:Nat} {g:TG} {c:TS} {D:Ends} {a:St} {H:Hp} (Pv:Nat->St->Hp->Prop) (d:Pv 0 a H)
  (e:∀ i a H,i<n->Pv i a H->g (.int (lo+i)) a H λb f=>c { D with nx:=Pv (i+1),ct:=Pv (i+1),bk:=D.nx } b f) (h:∀ a H,Pv n a H->D.nx a H):ForR lo n g c D a H:=VQ Pv d e h
def ForT (K:W.Frag) (a:Addr) (g:TG) (h:TS) (D:Ends) (b:St) (H:Hp):Prop:=∃ W:Nat->Nat->St->Hp->Prop,(∃ m,W 0 m b H)/\∀ i m b H,W i m b H->
 ((aE K a).stop i H/\D.nx b H)\/((aE K a).go i H/\∃ N:St->Hp->Prop,(∀ c d,N c d->∃ f,f<m/\W (i+1) f c d)/\∀ x d,(aE K a).yld i H x d->g x b d λe j=>h { D with nx:=N,ct:=N,bk:=D.nx } e j)
def ForL (K:W.Frag) (a:Addr) (g:TG) (h:TS) (D:Ends) (b:St) (H:Hp):Prop:=∃ W:Nat->Nat->St->Hp->Prop,(∃ m,W 0 m b H)/\∀ i m b H,W i m b H->
 ((ai K a).stop i H/\D.nx b H)\/((ai K a).go i H/\∃ N:St->Hp->Prop,(∀ c d,N c d->∃ f,f<m/\W (i+1) f c d)/\∀ x d,(ai K a).yld i H x d->g x b d λe j=>h { D with nx:=N,ct:=N,bk:=D.nx } e j)
def Xu {K:W.Frag} {c:TE} {g:TG} {d:TS} {D:Ends} {b:St} {H:Hp}:BH (Eu K c) g d D b H=c b H (λx e=>∃ a,x=.ref a/\(∃ f,SqT K e a f)/\ForT K a g d D b e):=rfl
def Xv {K:W.Frag} {c:TE} {g:TG} {d:TS} {D:Ends} {b:St} {H:Hp}:BH (BW K c) g d D b H=c b H (λx e=>∃ a,x=.ref a/\(∃ f,SqL K e a f)/\ForL K a g d D b e):=rfl
def ForT.by {K:W.Frag} {a:Addr} {xs:cZ} {g:TG} {d:TS} {D:Ends} {b:St} {H:Hp} (Pv:Nat->St->Hp->Prop) (e:Pv 0 b H) (f:∀ i b H,i<=@xs->Pv i b H->H a&&&xs)
  (j:∀ i x b H,xs[i]?=some x->Pv i b H->g x b H λc k=>d { D with nx:=Pv (i+1),ct:=Pv (i+1),bk:=D.nx } c k) (m:∀ b H,Pv @xs b H->D.nx b H):ForT K a g d D b H:=
 NX Pv e (λi b H h p=>SqT.of (f i b H h p)) j m
def ForL.by {K:W.Frag} {a:Addr} {xs:cZ} {g:TG} {d:TS} {D:Ends} {b:St} {H:Hp} (Pv:Nat->St->Hp->Prop) (e:Pv 0 b H) (f:∀ i b H,i<=@xs->Pv i b H->SqL K H a xs)
  (h:∀ i x b H,xs[i]?=some x->Pv i b H->g x b H λc j=>d { D with nx:=Pv (i+1),ct:=Pv (i+1),bk:=D.nx } c j) (k:∀ b H,Pv @xs b H->D.nx b H):ForL K a g d D b H:=
 VP Pv e f h k
def Dh {c:TT} {e:TS} {D:Ends} {a:St} {H:Hp} (W:Nat->St->Hp->Prop) (m:Nat) (i:W m a H)
  (j:∀ m a H,W m a H->c a H λb f=>if b=true then ∃ N:St->Hp->Prop,(∀ d g,N d g->∃ h,h<m/\W h d g)/\e { D with nx:=N,ct:=N,bk:=D.nx } a f else D.nx a f):Cv c e D a H:={W,⟨m,i⟩,j}
def Ey {t u:TS} {D:Ends} {a:St} {H:Hp} (h:t { D with nx:=u D } a H):AH t u D a H:=h
def Kp (p:Addr) (H a:Hp):Prop:=∀ b o,b≠p->H b=some o->a b=some o
def Kp.upd {p:Addr} {H:Hp} {o:HO}:Kp p H (upd H p o):=λb u n h=>by rw [AX n];exact h
def AM {H:Hp} {p:Addr} (h:H p=none) (o:HO):Same H (upd H p o):=λb u q=>by rw [AX (A3 q h)];exact q
def sz {n:Nat} (h:n<=1000000):n<=sizeLine:=by rw [sizeLine_eq];omega
def Xw {c:Type} (a b:c):R_ [a,b] 0=some a:=rfl
def Xx {c:Type} (a b:c):R_ [a,b] 1=some b:=rfl
def Xy {d:Type} (a b c:d):R_ [a,b,c] 0=some a:=rfl
def Xz {d:Type} (a b c:d):R_ [a,b,c] 1=some b:=rfl
def X3 {d:Type} (a b c:d):R_ [a,b,c] 2=some c:=rfl
def X4 (a b:Int):scal (.int a) (.int b)=true:=rfl
def X5 (a b:Bool):scal (.bl a) (.bl b)=true:=rfl
def X6:ap 3 0=some 0:=rfl
def X7:ap 3 2=some 2:=rfl
end Bs
namespace Bs
open PySem PySem.Spec PyProof.Rows L2
def HS:bootBuiltins "abs" = some (.builtin "abs"):=by decide +kernel
def Bj:bootBuiltins "len" = some (.builtin "len"):=by decide +kernel
def Jn:bootBuiltins "max" = some (.builtin "max"):=by decide +kernel
def X8:bootBuiltins "min" = some (.builtin "min"):=by decide +kernel
def HU:bootBuiltins "isinstance" = some (.builtin "isinstance"):=by decide +kernel
def X9:bootBuiltins "int" = some (.type "int"):=by decide +kernel
def YA:bootBuiltins "bool" = some (.type "bool"):=by decide +kernel
def FR:bootBuiltins "tuple" = some (.type "tuple"):=by decide +kernel
def Jo:bootBuiltins "list" = some (.type "list"):=by decide +kernel
def YB:bootBuiltins "enumerate" = some (.type "enumerate"):=by decide +kernel
def YC:bootBuiltins "zip" = some (.type "zip"):=by decide +kernel
def YD:bootBuiltins "reversed" = some (.type "reversed"):=by decide +kernel
section
variable {X:Cx}
def OC {n:Nat} {x:Int} (h:Bd n x):Builtin.Int.intBits x<=n:=by
 unfold Builtin.Int.intBits;split
 .exact Ah _
 .rename_i a
  let b:x.natAbs≠0:=λz=>a (by let e:x=0:=by omega
                              subst e;rfl)
  have:=(Nat.log2_lt b).mpr h;omega
def BQ:OpR X (binaryOp .Mult) BD:=b5 λ_ _ _ _ _ _ _ a q=>mul_int q a
def IS:OpR X (inplaceOp .Mult) BD:=b5 λ_ _ _ _ _ _ _ a q=>imul_int q a
def YE:OpR X (binaryOp .FloorDiv) IP:=b5 λi j _ _ _ _ _ a q=>by
 refine floordiv_int (AR a.1) ?_ (.inl (PyProof.noPylong_of_log2 (a.2.log2 `b)));rw [ES i (Cc a.1)];exact q
def OD:OpR X (binaryOp .Pow) Jl:=b5 λ_ _ _ _ _ _ _ a q=>pow_int_small a.1 a.2.1 a.2.2 q
def AW:bo X gT:=by
 intro a b c s d H x y v u Q I e f h g;let {p,i,j,w,k,m,hp,n,q}:=h;exact Vr a b c s d H x y v u Q I e f {p,j,i,w,k,m,SqT.of hp,n,q} g
def Bb:bo X gL:=by
 intro a b c s d H x y v u Q I e f h g;let {p,i,j,w,k,m,hp,n,q}:=h;exact Nw a b c s d H x y v u Q I e f {p,j,i,w,k,m,SqL.of hp,n,q} g
def YF:bo X (gS X.K):=by
 intro a b c s d H x y v u Q I e f h g;let {p,i,j,w,k,m,hp,n,q}:=h;exact Nw a b c s d H x y v u Q I e f ⟨p,j,i,w,k,m,hp,n,q⟩ g
def HV:Cl X (.builtin "abs") Fv:=Vd
def Jp (a:X.calm=true):Cl X (.builtin "max") HR:=Ve a
def Ez:Cl X (.builtin "len") EH:=λa s b H c d Q I r h=>by
 let {p,f,e,hp,q}:=h;exact K9 a s b H c d Q I r {p,f,e,.inr (SqT.of hp),q}
def CS:Cl X (.builtin "len") CL:=λa s b H c d Q I r h=>by
 let {p,f,e,hp,q}:=h;exact K9 a s b H c d Q I r {p,f,e,.inl (SqL.of hp),q}
def YG:Cl X (.builtin "len") (LD X.K):=λa s b H c d Q I r h=>by
 let {p,f,e,hp,q}:=h;exact K9 a s b H c d Q I r {p,f,e,.inl hp,q}
def YH (K:W.Frag):W.kitOne K (.type "int") (.type "bool")=some false:=by kernel_rfl
def YI (K:W.Frag):W.kitOne K (.type "int") (.type "tuple")=some false:=by kernel_rfl
def YJ (K:W.Frag):W.kitOne K (.type "int") (.type "list")=some false:=by kernel_rfl
def YK (K:W.Frag):W.kitOne K (.type "bool") (.type "int")=some true:=by kernel_rfl
def YL (K:W.Frag):W.kitOne K (.type "bool") (.type "tuple")=some false:=by kernel_rfl
def YM (K:W.Frag):W.kitOne K (.type "bool") (.type "list")=some false:=by kernel_rfl
def YN (K:W.Frag):W.kitOne K (.type "tuple") (.type "bool")=some false:=by kernel_rfl
def YO (K:W.Frag):W.kitOne K (.type "tuple") (.type "int")=some false:=by kernel_rfl
def YQ (K:W.Frag):W.kitOne K (.type "tuple") (.type "list")=some false:=by kernel_rfl
def YR (K:W.Frag):W.kitOne K (.type "list") (.type "bool")=some false:=by kernel_rfl
def YS (K:W.Frag):W.kitOne K (.type "list") (.type "int")=some false:=by kernel_rfl
def YT (K:W.Frag):W.kitOne K (.type "list") (.type "tuple")=some false:=by kernel_rfl
def Jq (K:W.Frag) (n:String):W.kitOne K (.type n) (.type n)=some true:=by
 unfold W.kitOne;rw [jE (beq_self_eq_true _)]
theorem YU {H:Hp} {x:V} {n:String} {b:Bool} (K:W.Frag) (h:FQ H x n=some b):∃ t,TyOf K H x t/\W.kitOne K t (.type n)=some b:=by
 cases x with
 | int i=>
   refine {_,.int i,?_};unfold FQ at h;dsimp only at h;split at h
   .rename_i e;cases h;subst e;exact Jq K _
   .split at h
    .rename_i e;cases h;rcases e with rfl | rfl | rfl
     .exact YH K
     .exact YI K
     .exact YJ K
    .cases h
 | bl i=>
   refine {_,.bl i,?_};unfold FQ at h;dsimp only at h;split at h
   .rename_i e;cases h;rcases e with rfl | rfl
    .exact YK K
    .exact Jq K _
   .split at h
    .rename_i e;cases h;rcases e with rfl | rfl
     .exact YL K
     .exact YM K
    .cases h
 | ref p=>
   let a:IQ (H p) n=some b:=h;cases e:H p with
   | none=>rw [e] at a;cases a
   | some o=>
     rw [e] at a;cases o with
     | tup c=>
       refine {_,.tup e,?_};unfold IQ at a;dsimp only at a;split at a
       .rename_i e;cases a;subst e;exact Jq K _
       .split at a
        .rename_i e;cases a;rcases e with rfl | rfl | rfl
         .exact YN K
         .exact YO K
         .exact YQ K
        .cases a
     | lst c=>
       refine {_,.lst e,?_};unfold IQ at a;dsimp only at a;split at a
       .rename_i e;cases a;subst e;exact Jq K _
       .split at a
        .rename_i e;cases a;rcases e with rfl | rfl | rfl
         .exact YR K
         .exact YS K
         .exact YT K
        .cases a
     | _=>cases a
 | _=>cases h
def HW:Cl X (.builtin "isinstance") Fw:=λc s j H m o Q I r h=>by
 let {x,n,b,rfl,e,q}:=h;let {u,d,rfl,f,rn}:=vals2 r;let a:d=Value.type n:=rn;subst a;let {t,g,k}:=YU X.K e;exact Vh I f g k λi=>{.bl b,H,I.tok i,2,q}
def OF (J:X.A.units<cLine):OpR X (compareOp .Eq) cB:=by
 intro m s Z H x y v u Q I K L h;let {a,b,f,g,rfl,rfl,M,N,n,o,q}:=h;cases K;cases L;let {d,p,O,_}:=I.tuple (SqT.of M);let {c,r,P,_}:=I.tuple (SqT.of N);let w:d.toArray.size=@f:=by rw [BI];exact p.length.symm
 let A:c.toArray.size=@g:=by rw [BI];exact r.length.symm
 refine SeqAt.eq_tupleAt (e:=bI f g) O P J (λj B C=>?_) ?_
 .rw [w] at B;rw [A] at C;let {i,D}:=IR n B;let {k,E}:=IR o C;let {u1,R,{F,S}}:=p.get D;let {u2,T,{G,U}}:=r.get E
  let W:d.toArray[j]=.int i F:=by
   let z:=(A7.mp R).2;simpa [S] using z
  let Y:c.toArray[j]=.int k G:=by
   let z:=(A7.mp T).2;simpa [U] using z
  let e:bI f g j=(i == k):=by unfold bI;rw [D,E]
  rw [W,Y,e];exact SeqAt.EqAt.int_int i F k G
 .rw [w,A,Xq n o];exact {.bl (decide (f=g)),H,I,2,q}
end
structure Cal (P:Program) (w:World) (K:W.Frag) (mg:de) (base:Heap) (n:Nat) (x:Str) (ps:di) (sp:Sp):Prop where
 ex:∃ (f:Addr) (fd:FuncData),FnOk P w K mg base ay n f fd ps sp/\Binds K fd ps []/\W.keepIn K (.ref f)=true/\mg x=↥f
def Cal.pe {X:Cx} {n m:Nat} {x:Str} {ps:di} {sp:Sp} {e:Expr} {a:dh} {t:TA} {p c:Pos} (C:Cal X.prog X.w X.K X.mg X.base n x ps sp) (h:Room m X.A) (i:n<=m) (j:Gl X x) (o:PA X (e::a) t)
  (d:(x == ("__debug__" : Str))=false:=by decide) (q:starEach (e::a) X.env=(false,eval e X.env)::starEach a X.env:=by rfl) (g:(backTo c (starEach a X.env)).any (·.1)=false:=by rfl) :
  PE X (.Call (.Name x p) (e::a) [] c) (AL sp [] E0 t):=by
 let {f,r,F,b,k,m}:=C.ex;exact Vj F (h.mono i) j m k b .nil WA o d q g
end Bs
namespace Bs
open PySem L2
noncomputable def Cy (capt:List (Option Nat)) (a:L2.St):L2.St:=capt.map λo=>o.bind λj=>(a[j]?).join
def Bk (e:TI) (capt:List (Option Nat)) (g:TG) (f:TE):TE:=λc H Q=>e c H λJ h=>∃ (n:Nat) (W:Nat->cZ->Hp->Prop),W 0 [] h/\∀ i a H,W i a H->i<=n/\@a<=sizeLine/\
 ((J.stop i H/\∀ p,H p=none->Q (.ref p) (upd H p (.lst a)))\/(i<n/\J.go i H/\∀ x d,J.yld i H x d->g x (Cy capt c) d λb j=>f b j λy k=>W (i+1) (a++[y]) k))
def CompJ (J:It) (capt:List (Option Nat)) (g:TG) (d:TE) (e:L2.St) (Q:VK) (f:Hp):Prop:=∃ (n:Nat) (W:Nat->cZ->Hp->Prop),W 0 [] f/\∀ i a H,W i a H->i<=n/\@a<=sizeLine/\
 ((J.stop i H/\∀ p,H p=none->Q (.ref p) (upd H p (.lst a)))\/(i<n/\J.go i H/\∀ x c,J.yld i H x c->g x (Cy capt e) c λb h=>d b h λy j=>W (i+1) (a++[y]) j))
section
variable {K:W.Frag} {ta:TA} {tl:TE} {capt:List (Option Nat)} {g:TG} {te:TE} {σ:L2.St} {H:Hp} {Q:VK}
def YV:Bk (DM ta) capt g te σ H Q=ta σ H (λa b=>∃ j:Int,a=[.int j]/\-(2 ^ 62)<=j/\j<2 ^ 62/\CompJ (aF 0 j.toNat) capt g te σ Q b):=rfl
def YW:Bk (Eu K tl) capt g te σ H Q=tl σ H (λx b=>∃ a,x=.ref a/\(∃ c,SqT K b a c)/\CompJ (aE K a) capt g te σ Q b):=rfl
def YX:Bk (BW K tl) capt g te σ H Q=tl σ H (λx b=>∃ a,x=.ref a/\(∃ c,SqL K b a c)/\CompJ (ai K a) capt g te σ Q b):=rfl
def CompJ.range {lo:Int} {n:Nat} (W:Nat->cZ->Hp->Prop) (d:W 0 [] H) (b:∀ i a H,W i a H->i<=n/\@a<=sizeLine)
  (f:∀ i a H,i<n->W i a H->g (.int (lo+i)) (Cy capt σ) H λc j=>te c j λy k=>W (i+1) (a++[y]) k) (m:∀ a H,W n a H->∀ p,H p=none->Q (.ref p) (upd H p (.lst a))):CompJ (aF lo n) capt g te σ Q H:=by
 refine {n,W,d,λi a H w=>{(b i a H w).1,(b i a H w).2,?_}};by_cases h:i<n
 .refine .inr {h,h,λx o y=>?_};let {e,y}:=y;subst e y;exact f i a _ h w
 .let e:i=n:=Nat.le_antisymm (b i a H w).1 (Nat.not_lt.mp h);subst e;exact .inl {AT _,m a H w}
def CompJ.tup {a:Addr} {xs:cZ} (W:Nat->cZ->Hp->Prop) (f:W 0 [] H) (c:∀ i b H,W i b H->i<=@xs/\@b<=sizeLine/\H a&&&xs)
  (j:∀ i x b H,xs[i]?=some x->W i b H->g x (Cy capt σ) H λd k=>te d k λy m=>W (i+1) (b++[y]) m) (n:∀ b H,W @xs b H->∀ p,H p=none->Q (.ref p) (upd H p (.lst b))):CompJ (aE K a) capt g te σ Q H:=by
 refine {@xs,W,f,λi b H w=>{(c i b H w).1,(c i b H w).2.1,?_}};let q:SqT K H a xs:=SqT.of (c i b H w).2.2;by_cases h:i<@xs
 .refine .inr {h,{xs,xs[i],q,by simp [h]},λx o y=>?_};let {e,y}:=y;subst e;exact j i x b _ (y xs q) w
 .let e:i=@xs:=Nat.le_antisymm (c i b H w).1 (Nat.not_lt.mp h);subst e;exact .inl {{xs,q,AT _},n b H w}
def CompJ.lst {a:Addr} {xs:cZ} (W:Nat->cZ->Hp->Prop) (f:W 0 [] H) (c:∀ i b H,W i b H->i<=@xs/\@b<=sizeLine/\SqL K H a xs)
  (j:∀ i x b H,xs[i]?=some x->W i b H->g x (Cy capt σ) H λd k=>te d k λy m=>W (i+1) (b++[y]) m) (n:∀ b H,W @xs b H->∀ p,H p=none->Q (.ref p) (upd H p (.lst b))):CompJ (ai K a) capt g te σ Q H:=by
 refine {@xs,W,f,λi b H w=>{(c i b H w).1,(c i b H w).2.1,?_}};let q:SqL K H a xs:=(c i b H w).2.2;by_cases h:i<@xs
 .refine .inr {h,{xs,xs[i],q,by simp [h]},λx o y=>?_};let {e,y}:=y;subst e;exact j i x b _ (y xs q) w
 .let e:i=@xs:=Nat.le_antisymm (c i b H w).1 (Nat.not_lt.mp h);subst e;exact .inl {{xs,q,AT _},n b H w}
end
noncomputable def IT (K:W.Frag) (a:Addr):It:=
 {λi H=>∃ b x,SqL K H a b/\b[i]?=some x,λi H v c=>∃ p x,H p=none/\v=.ref p/\c=upd H p (.tup [.int i,x])/\∀ b,SqL K H a b->b[i]?=some x,λi H=>∃ b,SqL K H a b/\@b<=i}
def Fy (K:W.Frag) (c:TA):TI:=λd H R=>c d H λe b=>∃ a,e=[.ref a]/\(∃ f,SqL K b a f)/\R (IT K a) b
def ForJ (J:It) (g:TG) (f:TS) (D:Ends) (a:L2.St) (H:Hp):Prop:=∃ W:Nat->Nat->L2.St->Hp->Prop,(∃ m,W 0 m a H)/\∀ i m a H,W i m a H->
 (J.stop i H/\D.nx a H)\/(J.go i H/\∃ N:L2.St->Hp->Prop,(∀ b c,N b c->∃ e,e<m/\W (i+1) e b c)/\∀ x c,J.yld i H x c->g x a c λd h=>f { D with nx:=N,ct:=N,bk:=D.nx } d h)
section
variable {K:W.Frag} {ta:TA} {g:TG} {tb:TS} {D:Ends} {σ:L2.St} {H:Hp} {a:Addr} {xs:cZ}
def YY:BH (Fy K ta) g tb D σ H=ta σ H (λc b=>∃ a,c=[.ref a]/\(∃ xs,SqL K b a xs)/\ForJ (IT K a) g tb D σ b):=rfl
def YZ {capt:List (Option Nat)} {b:TE} {Q:VK}:Bk (Fy K ta) capt g b σ H Q=ta σ H (λd c=>∃ a,d=[.ref a]/\(∃ xs,SqL K c a xs)/\CompJ (IT K a) capt g b σ Q c):=rfl
def ForJ.enumL (Pv:Nat->L2.St->Hp->Prop) (d:Pv 0 σ H) (f:∀ i σ H,i<=@xs->Pv i σ H->SqL K H a xs)
  (h:∀ i x p σ H,xs[i]?=some x->Pv i σ H->H p=none->g (.ref p) σ (upd H p (.tup [.int i,x])) λb j=>tb { D with nx:=Pv (i+1),ct:=Pv (i+1),bk:=D.nx } b j) (k:∀ σ H,Pv @xs σ H->D.nx σ H):ForJ (IT K a) g tb D σ H:=by
 refine {λi m σ H=>m=@xs - i/\i<=@xs/\Pv i σ H,{@xs,by simp,Ah _,d},?_};rintro i m σ H ⟨rfl,n,pv⟩;let q:=f i σ H n pv;by_cases c:i<@xs
 .refine .inr {{xs,xs[i],q,by simp [c]},Pv (i+1),λo r u=>{@xs - (i+1),`a,2,c,u},λx r y=>?_};let {p,v,hp,rfl,rfl,y}:=y;exact h i v p σ _ (y xs q) pv hp
 .let e:i=@xs:=by omega
  subst e;exact .inl {{xs,q,AT _},k σ H pv}
end
end Bs
namespace Bs
open PySem PySem.Spec PyProof.Rows L2
section
variable {X:Cx} {pins:dc} {σ:L2.St} {H:Hp} {s:Shared} {N:di} {capt:List (Option Nat)} {scope:Scope} {cl:List (Str×Addr)} {C:Addr} {fp:dj}
theorem Jr {a b:Type} [BEq a] [LawfulBEq a]:∀ {l:List (a×b)} {y:a} {c:b},l.lookup y=some c->(y,c)∈l
 | (k,v)::l,y,c,h=>by
   rw [List.lookup_cons] at h;cases e:y == k with
   | true=>
     rw [e] at h;cases h;rw [eq_of_beq e];exact BC ..
   | false=>
     rw [e] at h;exact A6 _ (Jr h)
end
open PySem.AutoSeq1 (wpAny_loadPart')
section
variable {X:Cx} {pins:dc} {σ:L2.St} {H:Hp} {s:Shared}
def OG {e f:Addr} {g:Heap} {tk:Nat} {xs:cZ} {its:d7} (I:Inv X pins σ H s) (i:Df X pins H e) (j:Df X pins H f) (k:∀ b o,b≠e->b≠f->s.heap.get? b=some o->g.get? b=some o)
  (hz:@xs<=sizeLine) (x:Vals xs its) (A:g.get? ⇑s=some { cls:=.type "tuple", data:=.seq its.toArray }):Inv X pins σ (upd H ⇑s (.tup xs)) { s with heap:=g,toks:=tk }:=by
 let B:H ⇑s=none:=I.hok.fresh (AT _);let p:∀ b o,s.heap.get? b=some o->b≠⇑s:=λb o q=>By (jM q);let tr:∀ b u,H b=some u->b≠⇑s/\b≠e/\b≠f:=λb u q=>{A3 q B,A3 q i.1,A3 q j.1};let a:∀ b,b∉[e,f]->b≠e/\b≠f:=λb h=>{λz=>h (by simp [z]),λz=>h (by simp [z])}
 refine I.step (g':=s.gens) (d':=s.drawn) (ch:=[e,f]) (λb h=>?_) (λb o _ _ d q _=>k b o (a b d).1 (a b d).2 q) (λb o _ _ d q _=>{o.slots,k b o (a b d).1 (a b d).2 q}) (λb o _ q n=>?_) (λb o d q=>{o,k b o (a b d).1 (a b d).2 q})
  (λb C q=>?_) (λb o u q=>?_) (λb ps q=>{#[],?_}) (λm D=>?_) (λb u q=>?_) I.bare
 .let z:b=e\/b=f:=by simpa using h
  rcases z with rfl | rfl
  .exact ⟨i.2.2.2.1,i.2.1,i.2.2.2.2.1,i.2.2.2.2.2⟩
  .exact ⟨j.2.2.2.1,j.2.1,j.2.2.2.2.1,j.2.2.2.2.2⟩
 .rw [AX (p b o q)];exact n
 .rw [AX (tr b _ q).1];exact q
 .rw [AX (tr b _ q).1];exact q
 .rw [AX (tr b _ q).1,q];simp
 .let ⟨o,E,F,G,J⟩:=D;exact {o,E,F,k _ o i.2.1.symm j.2.1.symm G,J}
 .by_cases h:b=⇑s
  .subst h;rw [upd_same] at q;cases q;exact {hz,its,x,{_,A,2,1}}
  .rw [AX h] at q;refine (I.hok b u q).stay (λc v d z=>?_) (λc z=>by rw [AX (tr c _ z).1];exact z) λc C z=>by rw [AX (tr c _ z).1];exact z
   rcases d with y | y
   .subst y;exact k _ v (tr _ u q).2.1 (tr _ u q).2.2 z
   .exact k c v (tr c _ y).2.1 (tr c _ y).2.2 z
end
def Yb {P:Program} {w:World} {K:W.Frag} {y:dh} {k:Nat} {F:Pos} (a e m:Addr) (T:e≠m):Turn P w K (.Tuple y k F) (IT K a) [e,m] e (λi h=>(∃ f,IsEnum h e m i f)/\h.IsListIter m a i) where
 mem:=by simp
 obj:=λi h n b r=>by
  let {{f,j},o,G,c,d}:=n
  let z:b=e\/b=m:=by simpa using r
  rcases z with rfl | rfl
  .exact {_,j,λv z=>nomatch z}
  .exact {o,G,λv z=>by rw [d] at z;cases z}
 keep:=λi h h' n U=>{let ⟨f,j⟩:=n.1;⟨f,U e (by simp) _ j⟩,n.2.at λo q=>U m (by simp) o q}
 item:=by
  intro X J L M Y i A s σ H E I B n N
  subst J L M
  let {Z,x,D,O}:=N
  let {{f,j},si}:=n
  let {C,Q,p,hz}:=I.list D
  let {u,hu,ru}:=Q.get O
  refine wpAny_pyNext_enum_item j si p.isList (x:=u) (by simpa using hu) T λg eo gi gt _ gk=>?_
  refine {1,wpAny_letOwnedTupleGo_enum eo λg' R S=>?_}
  let I1:=OG (g:=g') (tk:=s.toks+1) (xs:=[.int i,x]) (its:=[.int i s.toks,u]) I (B e (by simp)) (B m (by simp)) (λb o h1 h2 q=>S.extBut b o h1 (gk b o h1 h2 q)) (sz (by simp)) (.cons {1} (.cons ru .nil)) (S.extBut _ _ (Nat.ne_of_gt (jM j)) gt)
  refine {.ref ⇑s,_,I1,2,{_,x,I.hok.fresh (AT _),7,λys hy=>by rw [I.list_inj hy D];exact O},{{_,by simpa using R},gi.at λo q=>S.extBut m o T.symm q},λb r=>?_}
  rw [AX]
  .exact (B b r).1
  .let z:b=e\/b=m:=by simpa using r
   rcases z with rfl | rfl
   .exact By (jM j)
   .let {o,G,_}:=si;exact By (jM G)
 done:=by
  intro X J L M Y i A s σ H E I B n N
  subst J L M
  let {Z,D,O}:=N
  let {{f,j},si}:=n
  let {C,Q,p,hz}:=I.list D
  let {f0,f1,f2,f3,f4,f5}:=B m (by simp)
  let hl:=@Q
  exact wpAny_pyNext_enum_end (I.ok.hd Y) j si p.isList (by simp;omega) λg eb=>{2,I.turned (t':=s.toks) (λb o r q=>eb b o r q) f0 f1 f3 f4 f5}
 self:=λ_ _ _ _ _ n h=>let ⟨_,j⟩:=n.1;wpAny_pyIter_enum j h
section
variable {X:Cx} {elts:dh} {k:Nat} {tpos:Pos} {a:Expr} {ta:TA} {p pos:Pos}
def IU (o:Gl X "enumerate") (r:X.mg "enumerate" = none) (v:PA X [a] ta) (w:starEach [a] X.env=[(false,eval a X.env)]:=by rfl):PI X (.Tuple elts k tpos) (.Call (.Name "enumerate" p) [a] [] pos) (Fy X.K ta):=by
 intro d s i H R I h;refine Call_ (Es I o r YB (PyProof.Rows.callWith_type1 (G_ (v pos d s i H _ I h) λJ e ⟨K,j,f,x,y⟩=>?_) w rfl));let {b,rfl,{L,A},q}:=y;let {u,rfl,B}:=EZ x;cases B;let {C,M,D,N}:=f.list A;refine call_enumerate_list D.isList λg m si _ E=>?_;let F:Inv X d i j { e with heap:=g }:=f.kept (t':=e.toks) E;refine wpAny_pyIter_enum m {_,[⇑e+1,⇑e],9,j,2,F,Yb b _ _ (Nat.succ_ne_self _),{{_,m},si},λc G=>?_,q};let z:c=⇑e+1\/c=⇑e:=by simpa using G
 rcases z with rfl | rfl
 .exact f.fpOk (Nat.le_succ _) (f.hok.fresh (Nat.le_succ _))
 .exact f.fpOk (AT _) (f.hok.fresh (AT _))
end
end Bs
namespace Bs
open PySem L2
mutual
inductive RepD (H:Hp):V->W.Dat->Prop
 | non:RepD H .non .none
 | int (i:Int):RepD H (.int i) (.int i)
 | tup {p:Addr} {xs:cZ} {ds:List W.Dat} (h:H p&&&xs) (r:RepA H xs ds):RepD H (.ref p) (.tuple ds)
 | lst {p:Addr} {xs:cZ} {ds:List W.Dat} (h:H p^^^xs) (r:RepA H xs ds):RepD H (.ref p) (.list ds)
inductive RepA (H:Hp):cZ->List W.Dat->Prop
 | nil:RepA H [] []
 | cons {x:V} {xs:cZ} {d:W.Dat} {ds:List W.Dat} (h:RepD H x d) (r:RepA H xs ds):RepA H (x::xs) (d::ds)
end
def cD:R2:=λx y H Q=>∃ (d e:W.Dat) (b:Bool),RepD H x d/\RepD H y e/\W.kqdOk 8 d=true/\W.kqdOk 8 e=true/\(b=true↔d=e)/\Q (.bl b) H
def b7:R2:=λx y H Q=>∃ (d e:W.Dat) (b:Bool),RepD H x d/\RepD H y e/\W.kqdOk 8 d=true/\W.kqdOk 8 e=true/\(b=true↔d=e)/\Q (.bl (!b)) H
def EI (c:TE):TT:=λd H Q=>c d H λx a=>∃ p b,x=.ref p/\a p^^^b/\Q (!b.isEmpty) a
def Yc (c:TE):TT:=λd H Q=>c d H λx a=>∃ p b,x=.ref p/\a p&&&b/\Q (!b.isEmpty) a
inductive sL(x:V)(lo c:Option Int)(H:Hp)(Q:VK):Prop
 |mk(a b):x=.ref a->H a^^^b->(∀ p,H p=none->Q (.ref p) (upd H p (.lst (CH b lo c))))->sL x lo c H Q
def Yd {x:V} {lo:Option Int} {g:Option Int} {H:Hp} {Q:VK}:sL x lo g H Q=∃ a h,x=.ref a/\H a^^^h/\∀ p,H p=none->Q (.ref p) (upd H p (.lst (CH h lo g))):=propext {λ⟨b,c,d,e,f⟩=>⟨b,c,d,e,f⟩,λ⟨b,c,d,e,f⟩=>⟨b,c,d,e,f⟩}
inductive GZ(xs:cZ)(H:Hp)(Q:VK):Prop
 |mk(p a):xs=[.ref p]->H p^^^a->(∀ l,H l=none->Q (.ref l) (upd H l (.tup a)))->GZ xs H Q
def Ye {xs:cZ} {H:Hp} {Q:VK}:GZ xs H Q=∃ p f,xs=[.ref p]/\H p^^^f/\∀ l,H l=none->Q (.ref l) (upd H l (.tup f)):=propext {λ⟨a,b,c,d,e⟩=>⟨a,b,c,d,e⟩,λ⟨a,b,c,d,e⟩=>⟨a,b,c,d,e⟩}
inductive HX(xs:cZ)(H:Hp)(Q:VK):Prop
 |mk(p a):xs=[.ref p]->H p^^^a->(∀ l,H l=none->Q (.ref l) (upd H l (.lst a)))->HX xs H Q
def Yg {xs:cZ} {H:Hp} {Q:VK}:HX xs H Q=∃ p f,xs=[.ref p]/\H p^^^f/\∀ l,H l=none->Q (.ref l) (upd H l (.lst f)):=propext {λ⟨a,b,c,d,e⟩=>⟨a,b,c,d,e⟩,λ⟨a,b,c,d,e⟩=>⟨a,b,c,d,e⟩}
end Bs
namespace Bs
open PySem PySem.Spec PyProof.Rows L2
section
variable {X:Cx} {pins:dc} {σ:L2.St} {H:Hp} {s:Shared}
mutual
theorem Ga (I:Inv X pins σ H s):∀ {x:V} {d:W.Dat} {u:Value},RepD H x d->RelV x u->∃ as,Reads s.heap u (W.kqdP d) as
 | _,_,_,.non,e=>by cases e;rw [W.kqdP];exact {_,Reads.none}
 | _,_,_,.int i,⟨t,e⟩=>by subst e;rw [W.kqdP];exact {_,Reads.int i t}
 | _,_,_,.tup h r,e=>by
   cases e;let {a,b,p,_}:=I.tuple (SqT.of h);let {as,q}:=IV I r b;let {o,c,f,n,g}:=p;rw [W.kqdP];exact {as,reads_tuple_at c f g (by simpa using q)}
 | _,_,_,.lst h r,e=>by
   cases e;let {a,b,p,_}:=I.list (SqL.of h);let {as,q}:=IV I r b;let {o,n,c,f,_,g}:=p;rw [W.kqdP];exact {_,reads_list_at c f g (by simpa using q)}
theorem IV (I:Inv X pins σ H s):∀ {xs:cZ} {a:List W.Dat} {b:d7},RepA H xs a->Vals xs b->∃ as,ReadsAll s.heap b (W.kqdPs a) as
 | _,_,_,.nil,.nil=>by rw [W.kqdPs];exact {_,ReadsAll.nil}
 | _,_,_,.cons h r,.cons e c=>by
   let {as,q}:=Ga I h e;let {f,d}:=IV I r c;rw [W.kqdPs];exact {_,ReadsAll.cons q d}
end
def Js {d:W.Dat} (h:W.kqdOk 8 d=true):SeqAt.shaped (W.kqdP d)=true:=by
 let z:=W.kqd_lay 8 d h;unfold SeqAt.shaped;rw [z.1,Bool.true_and];exact jF (BK z.2 `b)
def OH {d e:W.Dat} {b:Bool} (a:W.kqdOk 8 d=true) (c:W.kqdOk 8 e=true) (f:b=true↔d=e):PyData.eqv (W.kqdP d) (W.kqdP e)=b:=by
 rw [Ej,f];exact W.kqd_eqv 8 d e 8 a c
def LE (f:X.A.units+64<cLine):OpR X (compareOp .Eq) cD:=by
 intro pins s σ H x y v u Q I g i h;let {d,e,b,j,k,a,c,m,q}:=h;let {as,n}:=Ga I j g;let {p,o}:=Ga I k i;exact eq_dataH n o (Js a) (Js c) f (by rw [OH a c m];exact {.bl b,H,I,2,q})
def IW (f:X.A.units+64<cLine):OpR X (compareOp .NotEq) b7:=by
 intro pins s σ H x y v u Q I g i h;let {d,e,b,j,k,a,c,m,q}:=h;let {as,n}:=Ga I j g;let {p,o}:=Ga I k i;exact ne_dataH n o (Js a) (Js c) f (by rw [OH a c m];exact {.bl (!b),H,I,2,q})
def E1 {a:Expr} {c:TE} (d:PE X a c) (f:∀ b,isTrue a X.env b=(do let v <-b;standAt a.pos;holding [v] (truthy v))):PT X a (EI c):=λpins s σ H Q I h=>
 isTrue_plain (G_ (d pins s σ H _ I h) λv g ⟨x,i,j,k,m⟩=>by
  let {p,n,e,hp,q}:=m;subst e;exact Vc pins g σ i _ v Q j k {_,.inl {n,SqL.of hp,2},q}) (f _)
def HY:cr X sL:=by
 intro pins s σ H x v b c lo d f Q I g i j k h;let {a,m,e,n,q}:=h;exact Nx pins s σ H x v b c lo d f Q I g i j k {a,m,e,SqL.of n,q}
def IX:Cl X (.type "tuple") GZ:=λpins s σ H a b Q I r h=>by
 let {p,c,e,hp,q}:=h;exact Vy pins s σ H a b Q I r {p,c,e,.inl {SqL.of hp,q}}
def Jt:Cl X (.type "list") HX:=λpins s σ H a b Q I r h=>by
 let {p,c,e,hp,q}:=h;exact Vx pins s σ H a b Q I r {p,c,e,.inl (SqL.of hp),q}
theorem OI:∀ {a:List Bool} {c:d7},Vals (a.map V.bl) c->c=a.map Value.bool
 | [],_,.nil=>rfl
 | b::a,_,.cons e r=>by rw [show _=Value.bool b from e,OI r];rfl
def Ju:bX X gL:=by
 intro pins s σ H o i B C Q I m n h;let {p,k,D,v,rfl,rfl,hp,u,q}:=h;cases m;let {t,rfl}:=n;let {c,r,e,E}:=I.list (SqL.of hp);let {j,b,x,F,y,z}:=K8 u;let {w,f,rw'}:=r.get x;let A:=@r;let G:=HP;let a:EP X pins σ Q w s:=⟨v,H,I,rw',q⟩;by_cases g:0<=k
 .let d:k.toNat=j:=by
   rw [seqIndex_of g z] at b;exact jL b
  exact wpAny_getItem_list e.isList g `a (by rw [d];simpa using f) a
 .let d:(k+(c.toArray.size:Int)).toNat=j:=by
   rw [seqIndex_neg `a y] at b;rw [BI,<-A];exact jL b
  exact wpAny_getItem_list_neg e.isList `a (by rw [BI] <;> omega) `a (by rw [d];simpa using f) a
def Eb {K:W.Frag} {p:Addr} {xs:cZ} (h:H p^^^xs):bZ K "list" (.ref p) H:=.inl {2,xs,SqL.of h}
end
end Bs
namespace Bs
open PySem L2
inductive CY(n:Nat)(t:aI)(v:V)(c:L2.St)(H:Hp)(Q:L2.St->Hp->Prop):Prop
 |mk(a b):v=.ref a->H a&&&b->@b=n->t b c H Q->CY n t v c H Q
def Yh {n:Nat} {t:aI} {v:V} {i:L2.St} {H:Hp} {Q:L2.St->Hp->Prop}:CY n t v i H Q=∃ a b,v=.ref a/\H a&&&b/\@b=n/\t b i H Q:=propext {λ⟨c,d,e,f,g,h⟩=>⟨c,d,e,f,g,h⟩,λ⟨c,d,e,f,g,h⟩=>⟨c,d,e,f,g,h⟩}
end Bs
namespace Bs
open PySem PySem.Spec PyProof.Rows L2
def Cf {X:Cx} {c:dh} {k:Nat} {d:Pos} {t:aI} {n:Nat} (g:X.calm=true) (h:bW X c t)
  (i:(assignEach c X.env).length=n:=by rfl) (f:(assignEach c X.env).findIdx? (·.1)=none:=by rfl):PG X (.Tuple c k d) (CY n t):=λb s j H v u Q I r q=>by
 let {a,m,e,o,p,q}:=q;exact VJ g h i f b s j H v u Q I r {a,m,e,SqT.of o,p,q}
def Yi {X:Cx}:OpR X (inplaceOp .FloorDiv) IP:=b5 λi j _ _ _ _ _ a q=>by
 refine ifloordiv_int (AR a.1) ?_ (.inl (PyProof.noPylong_of_log2 (a.2.log2 `b)));rw [ES i (Cc a.1)];exact q
end Bs
namespace Bs
open PySem L2
inductive sT(x:V)(lo d:Option Int)(H:Hp)(Q:VK):Prop
 |mk(a b):x=.ref a->H a&&&b->(∀ p c,(c=H/\p=a/\CH b lo d=b)\/(H p=none/\c=upd H p (.tup (CH b lo d)))->Q (.ref p) c)->sT x lo d H Q
def Yj {x:V} {lo:Option Int} {c:Option Int} {H:Hp} {Q:VK}:sT x lo c H Q=∃ a b,x=.ref a/\H a&&&b/\∀ p d,(d=H/\p=a/\CH b lo c=b)\/(H p=none/\d=upd H p (.tup (CH b lo c)))->Q (.ref p) d:=propext {λ⟨e,f,g,h,i⟩=>⟨e,f,g,h,i⟩,λ⟨e,f,g,h,i⟩=>⟨e,f,g,h,i⟩}
noncomputable def c6 (lo:Int) (n:Nat):It:={λi _=>i<n,λi H x a=>a=H/\x=.int (lo - i),λi _=>n<=i}
noncomputable def Itv (K:W.Frag) (a:Addr) (n:Nat):It:={λi H=>i<n/\∃ b,SqL K H a b/\@b=n,λi H x c=>c=H/\∀ b,SqL K H a b->b[n - 1 - i]?=some x,λi _=>n=i}
def IY (a:TA):TI:=λb H R=>a b H λc d=>∃ i j:Int,c=[.int i,.int j,.int (-1)]/\(-(2 ^ 62)<=i/\i<2 ^ 62/\-(2 ^ 62)<=j/\j<2 ^ 62)/\R (c6 i (i - j).toNat) d
def OJ (K:W.Frag) (d:TA):TI:=λe H R=>d e H λf b=>∃ a c,f=[.ref a]/\SqL K b a c/\R (Itv K a @c) b
section
variable {K:W.Frag} {ta:TA} {g:TG} {tb:TS} {D:Ends} {σ:L2.St} {H:Hp} {a:Addr} {xs:cZ}
def Yk:BH (IY ta) g tb D σ H=ta σ H (λb c=>∃ i j:Int,b=[.int i,.int j,.int (-1)]/\(-(2 ^ 62)<=i/\i<2 ^ 62/\-(2 ^ 62)<=j/\j<2 ^ 62)/\ForJ (c6 i (i - j).toNat) g tb D σ c):=rfl
def ForJ.down {lo:Int} {n:Nat} (Pv:Nat->L2.St->Hp->Prop) (d:Pv 0 σ H)
  (f:∀ i σ H,i<n->Pv i σ H->g (.int (lo - i)) σ H λb h=>tb { D with nx:=Pv (i+1),ct:=Pv (i+1),bk:=D.nx } b h) (j:∀ σ H,Pv n σ H->D.nx σ H):ForJ (c6 lo n) g tb D σ H:=by
 refine {λi m σ H=>m=n - i/\i<=n/\Pv i σ H,{n,by simp,Ah _,d},?_};rintro i m σ H ⟨rfl,v,pv⟩;by_cases c:i<n
 .refine .inr {c,Pv (i+1),λk o p=>{n - (i+1),`a,2,c,p},λx o y=>?_};let {e,y}:=y;subst e y;exact f i σ _ c pv
 .let e:i=n:=by omega
  subst e;exact .inl {AT _,j σ H pv}
def ForJ.rev (Pv:Nat->L2.St->Hp->Prop) (d:Pv 0 σ H) (f:∀ i σ H,i<=@xs->Pv i σ H->SqL K H a xs)
  (h:∀ i x σ H,i<@xs->xs[@xs - 1 - i]?=some x->Pv i σ H->g x σ H λb j=>tb { D with nx:=Pv (i+1),ct:=Pv (i+1),bk:=D.nx } b j) (k:∀ σ H,Pv @xs σ H->D.nx σ H):ForJ (Itv K a @xs) g tb D σ H:=by
 refine {λi m σ H=>m=@xs - i/\i<=@xs/\Pv i σ H,{@xs,by simp,Ah _,d},?_};rintro i m σ H ⟨rfl,n,pv⟩;let q:=f i σ H n pv;by_cases c:i<@xs
 .refine .inr {⟨c,xs,q,rfl⟩,Pv (i+1),λo p r=>{@xs - (i+1),`a,2,c,r},λx p y=>?_};let {e,y}:=y;subst e;exact h i x σ _ c (y xs q) pv
 .let e:i=@xs:=by omega
  subst e;exact .inl {2,k σ H pv}
end
end Bs
namespace Bs
open PySem PySem.Spec PyProof.Rows L2
def Yl {P:Program} {w:World} {K:W.Frag} {M:Expr} (c:Addr) (lo:Int) (n:Nat):Turn P w K M (c6 lo n) [c] c (λi h=>IsRangeIter h c (lo+(i:Nat)*(-1)) ((n:Int) - (i:Nat)) (-1)) where
 mem:=by simp
 obj:=λi h a b f=>by
  let e:b=c:=by simpa using f
  subst e
  exact {_,a,λv z=>by
   let N:Data.fields _=Data.cell v:=z
   cases N}
 keep:=λi h p a k=>k c (by simp) _ a
 item:=by
  intro X r u x y i d s J H E I q a A
  subst r u x
  let {B,C,O,D,F,G}:=q c (by simp)
  let W:=Walks.range (prog:=X.prog) (w:=X.w) (I.ok.hd y) c lo (-1) n
  refine W.item i s _ _ A a λv p L Q g R=>?_
  let {t,rfl}:=Q
  let S:Inv X d J H { s with heap:=p,toks:=L }:=I.turned (λb o f e=>R b o (by simpa using f) e) B C D F G
  refine {1,IK (s:={ s with heap:=p,toks:=L }) (n := "range_iterator") g rfl rfl `b {.int (lo - i),H,S,{t,?_},⟨rfl,rfl⟩,g,λb f=>(q b f).1}}
  rw [show lo+(i:Int)*(-1)=lo - i by omega]
 done:=by
  intro X r u x y i d s J H E I q a A
  subst r u x
  let {B,C,O,D,F,G}:=q c (by simp)
  exact wpAny_pyNext_range_end (I.ok.hd y) a (by have:n<=i:=A;omega) λp T=>{2,I.turned (t':=s.toks) (λb o f e=>T b o f e) B C D F G}
 self:=λ_ _ _ _ _ a h=>wpAny_pyIter_rangeiter a h
def OK (a b:Int):Builtin.Range.rangeSize a b (-1)=if b<a then a - b else 0:=by
 unfold Builtin.Range.rangeSize;simp only [show ¬ ((-1:Int) > 0) by decide,if_false,Int.neg_neg,Int.ediv_one];split <;> omega
def Ym {a b:Int} (e:-(2 ^ 62)<=a) (c:a<2 ^ 62) (f:-(2 ^ 62)<=b) (d:b<2 ^ 62):Builtin.Range.small a b (-1)=true:=by
 unfold Builtin.Range.small;rw [OK];simp only [Builtin.Range.rangeFitsLong,Bool.and_eq_true,Bool.or_eq_true,decide_eq_true_eq,beq_iff_eq,show ¬ ((-1:Int) > 0) by decide,if_false];split <;> omega
theorem OM {X:Cx} {E:Expr} {a b c:Expr} {z:TA} {p n:Pos} (F:Gl X "range") (G:X.mg "range" = none) (J:PA X [a,b,c] z) (K:starEach [a,b,c] X.env=[(false,eval a X.env),(false,eval b X.env),(false,eval c X.env)]:=by rfl) (u:starEach [b,c] X.env=[(false,eval b X.env),(false,eval c X.env)]:=by rfl) :
  PI X E (.Call (.Name "range" p) [a,b,c] [] n) (IY z):=by
 intro g s A H R I h;refine Call_ (Es I F G boot_range (PyProof.Rows.callWith_type1 (G_ (J n g s A H _ I h) λW k ⟨Y,B,L,M,w⟩=>?_) (by rw [K,u]) (by rw [u];rfl)));let {i,j,e,{w,N,O,P},q}:=w;subst e;cases M with
 | cons r v=>
   cases v with
   | cons Q v=>
     cases v with
     | cons x v=>
       cases v;let {t,rfl}:=r;let {t',rfl}:=Q;let {f,rfl}:=x;refine call_range_3 `b ?_ (.inl (PyProof.noPylong_small `b));refine wpAny_pyIter_range (IsRange.new ..) (Ym w N O P) ?_;let y:Inv X g A B { k with heap:=k.heap.push { cls:=.type "range", data:=.fields #[.int i t,.int j t',.int (-1) f] },toks:=k.toks }:=L.kept λb o e=>Heap.get?_push_of_some _ e
       refine {(k.heap.push { cls:=.type "range", data:=.fields #[.int i t,.int j t',.int (-1) f] }).objs.size,[(k.heap.push { cls:=.type "range", data:=.fields #[.int i t,.int j t',.int (-1) f] }).objs.size],_,_,B,rfl,
        y.kept (t':=k.toks) λb o e=>Heap.get?_push_of_some _ e,Yl _ i (i - j).toNat,?_,λb S=>?_,q}
       .let T:i+((0:Nat):Int)*(-1)=i:=by simp
        let U:(((i - j).toNat:Nat):Int) - ((0:Nat):Int)=Builtin.Range.rangeSize i j (-1):=by rw [OK];split <;> omega
        show IsRangeIter _ _ (i+((0:Nat):Int)*(-1)) ((((i - j).toNat:Nat):Int) - ((0:Nat):Int)) (-1);rw [T,U];exact Heap.get?_push_size _ rfl
       .let e:b=(k.heap.push { cls:=.type "range", data:=.fields #[.int i t,.int j t',.int (-1) f] }).objs.size:=by simpa using S
        subst e;exact y.fpOk (AT _) (y.hok.fresh (AT _))
def Yn {P:Program} {w:World} {K:W.Frag} {tg:Expr} (a f:Addr) (n:Nat):Turn P w K tg (Itv K a n) [f] f (λi h=>h.IsRevIter f a ((n:Int) - 1 - (i:Int))) where
 mem:=by simp
 obj:=λi h g b m=>by
  let e:b=f:=by simpa using m
  subst e
  let {o,e,c,d}:=g
  exact {o,e,λv z=>by rw [d] at z;cases z}
 keep:=λi h r g k=>g.at λo e=>k f (by simp) o e
 item:=by
  intro X C D F S i j s T H E I B g G
  subst C D F
  let {hi,U,Y,hn}:=G
  let {a0,rv,p,hz}:=I.list Y
  let Z:U[n - 1 - i]?=some (U[n - 1 - i]'`a):=Ak `a
  let {u,hu,ru}:=rv.get Z
  let {J,L,f2,M,N,O}:=B f (by simp)
  let q:s.heap.IsRevIter f a ((n - 1 - i:Nat):Int):=by rw [show ((n - 1 - i:Nat):Int)=(n:Int) - 1 - (i:Int) by omega];exact g
  refine wpAny_pyNext_rev_item q p.isList (x:=u) (by simpa using hu) λr y sb=>?_
  let I1:Inv X j T H { s with heap:=r }:=I.turned (t':=s.toks) (λb o m e=>(sb.2 b m).trans e) J L M N O
  let {o,e,c,d}:=id y
  let Q:r.IsRevIter f a ((n:Int) - 1 - ((i+1:Nat):Int)):=by rw [show (n:Int) - 1 - ((i+1:Nat):Int)=((n - 1 - i:Nat):Int) - 1 by omega];exact y
  exact {u,2,IK (s:={ s with heap:=r }) e c d `b {_,H,I1,ru,{2,λys hy=>by rw [I.list_inj hy Y];exact Z},Q,λb m=>(B b m).1}}
 done:=by
  intro X C D F S i j s T H E I B g G
  subst C D F
  let R:n=i:=G
  subst R
  let {J,L,f2,M,N,O}:=B f (by simp)
  let q:s.heap.IsRevIter f a (-1):=by rw [show (-1:Int)=(n:Int) - 1 - (n:Int) by omega];exact g
  exact wpAny_pyNext_rev_end (I.ok.hd S) q λr eb=>{2,I.turned (t':=s.toks) (λb o m e=>eb b o m e) J L M N O}
 self:=λ_ _ _ _ _ g h=>wpAny_pyIter_revIter g h
def Yo {X:Cx} {w:Expr} {a:Expr} {m:TA} {p i:Pos} (x:Gl X "reversed") (y:X.mg "reversed" = none) (A:PA X [a] m) (B:starEach [a] X.env=[(false,eval a X.env)]:=by rfl):PI X w (.Call (.Name "reversed" p) [a] [] i) (OJ X.K m):=by
 intro d s n H R I h;refine Call_ (Es I x y YD (PyProof.Rows.callWith_type1 (G_ (A i d s n H _ I h) λM f ⟨N,r,j,C,D⟩=>?_) B rfl));let {b,k,rfl,E,q}:=D;let {u,rfl,F}:=EZ C;cases F;let {g,G,J,O}:=j.list E;refine call_reversed_list J.isList ?_;let K:Inv X d n r { f with heap:=f.heap.push (revObj b ((g.toArray.size:Int) - 1)) }:=j.kept (t':=f.toks) λb o e=>Heap.get?_push_of_some _ e;let P:=@G
 let si:(f.heap.push (revObj b ((g.toArray.size:Int) - 1))).IsRevIter ⇑f b ((@k:Int) - 1 - ((0:Nat):Int)):=by
  rw [show (@k:Int) - 1 - ((0:Nat):Int)=(g.toArray.size:Int) - 1 by rw [BI];omega];exact {_,Heap.get?_push_size _ rfl,7}
 refine wpAny_pyIter_revIter si {_,[⇑f],9,r,2,K,Yn b _ @k,si,λc L=>?_,q};let z:c=⇑f:=by simpa using L
 subst z;exact j.fpOk (AT _) (j.hok.fresh (AT _))
end Bs
namespace Bs
open PySem L2
def Jv:R2:=λx y H Q=>y=.non/\Q (.bl (decide (x=.non))) H
def LF:R2:=λx y H Q=>y=.non/\Q (.bl (!decide (x=.non))) H
def ON (_ j:Int):Prop:=0<j
def HZ (_ j:Int):Prop:=j≠0
abbrev Ec:R2:=rI ON λi j=>.int (i / j)
abbrev Dy:R2:=rI HZ λi j=>.int (i.fdiv j)
noncomputable def Itz (K:W.Frag) (a b:Addr):It:=
 {λi H=>∃ c d x y,SqL K H a c/\SqL K H b d/\c[i]?=some x/\d[i]?=some y,λi H v e=>∃ p x y,H p=none/\v=.ref p/\e=upd H p (.tup [x,y])/\(∀ c,SqL K H a c->c[i]?=some x)/\∀ d,SqL K H b d->d[i]?=some y,λi H=>∃ c d,SqL K H a c/\SqL K H b d/\@c<=i}
def LH (K:W.Frag) (d:TA):TI:=λe H R=>d e H λf c=>∃ a b,f=[.ref a,.ref b]/\(∃ g,SqL K c a g)/\(∃ h,SqL K c b h)/\R (Itz K a b) c
def Ed (h:TI) (capt:List (Option Nat)) (g:TG) (tc:TT) (j:TE):TE:=λd H Q=>h d H λJ k=>∃ (n:Nat) (W:Nat->cZ->Hp->Prop),W 0 [] k/\∀ i a H,W i a H->i<=n/\@a<=sizeLine/\
 ((J.stop i H/\∀ p,H p=none->Q (.ref p) (upd H p (.lst a)))\/(i<n/\J.go i H/\∀ x e,J.yld i H x e->g x (Cy capt d) e λc m=>tc c m λb f=>if b=true then j c f λy o=>W (i+1) (a++[y]) o else W (i+1) a f))
def CompF (J:It) (capt:List (Option Nat)) (g:TG) (tc:TT) (f:TE) (h:L2.St) (Q:VK) (j:Hp):Prop:=∃ (n:Nat) (W:Nat->cZ->Hp->Prop),W 0 [] j/\∀ i a H,W i a H->i<=n/\@a<=sizeLine/\
 ((J.stop i H/\∀ p,H p=none->Q (.ref p) (upd H p (.lst a)))\/(i<n/\J.go i H/\∀ x d,J.yld i H x d->g x (Cy capt h) d λc k=>tc c k λb e=>if b=true then f c e λy m=>W (i+1) (a++[y]) m else W (i+1) a e))
section
variable {K:W.Frag} {ta:TA} {tl:TE} {capt:List (Option Nat)} {g:TG} {tc:TT} {te:TE} {tb:TS} {D:Ends} {σ:L2.St} {H:Hp} {Q:VK} {a b:Addr} {xs ys:cZ}
def Yp:Ed (BW K tl) capt g tc te σ H Q=tl σ H (λx c=>∃ a,x=.ref a/\(∃ xs,SqL K c a xs)/\CompF (ai K a) capt g tc te σ Q c):=rfl
def Yq:Bk (LH K ta) capt g te σ H Q=ta σ H (λd c=>∃ a b,d=[.ref a,.ref b]/\(∃ xs,SqL K c a xs)/\(∃ ys,SqL K c b ys)/\CompJ (Itz K a b) capt g te σ Q c):=rfl
def CompF.lst (W:Nat->cZ->Hp->Prop) (j:W 0 [] H) (d:∀ i ys H,W i ys H->i<=@xs/\@ys<=sizeLine/\SqL K H a xs)
  (k:∀ i x ys H,xs[i]?=some x->W i ys H->g x (Cy capt σ) H λc m=>tc c m λb f=>if b=true then te c f λy n=>W (i+1) (ys++[y]) n else W (i+1) ys f) (o:∀ ys H,W @xs ys H->∀ p,H p=none->Q (.ref p) (upd H p (.lst ys))):CompF (ai K a) capt g tc te σ Q H:=by
 refine {@xs,W,j,λi ys H w=>{(d i ys H w).1,(d i ys H w).2.1,?_}};let q:SqL K H a xs:=(d i ys H w).2.2;by_cases h:i<@xs
 .refine .inr {h,{xs,xs[i],q,by simp [h]},λx r y=>?_};let {e,y}:=y;subst e;exact k i x ys _ (y xs q) w
 .let e:i=@xs:=Nat.le_antisymm (d i ys H w).1 (Nat.not_lt.mp h);subst e;exact .inl {{xs,q,AT _},o ys H w}
end
def OO:V->Hp->VK->Prop:=λx H Q=>∃ (p:Addr) (a:d6),x=.ref p/\H p^^^(~~~a)/\∀ m:Int,(a=[]/\m=0\/m∈a)->Q (.int m) H
def LI (a:TE):TE:=λb H Q=>a b H λx c=>OO x c Q
def LJ:cZ->Hp->VK->Prop:=λb H Q=>∃ (p:Addr) (a:d6),b=[.ref p]/\H p^^^(~~~a)/\Q (.bl (a.any λz=>!decide (z=0))) H
end Bs
namespace Bs
open PySem PySem.Spec PyProof.Rows L2
section
variable {X:Cx} {pins:dc} {σ:L2.St} {H:Hp} {s:Shared}
def Ee:OpR X (binaryOp .FloorDiv) Dy:=by
 intro pins s σ H x y v u Q I a b ⟨i,j,c,d,e,q⟩;subst c d;let {t,rfl}:=a;let {f,rfl}:=b;exact floordiv_int e {.int (i.fdiv j),H,I.tok _,{1},q} (Or.inr (I.ok.plr s I.bk))
def Gb:OpR X (binaryOp .FloorDiv) Ec:=by
 intro pins s σ H x y v u Q I b c ⟨i,j,d,e,f,q⟩;let a:0<j:=f;replace q:Q (.int (i / j)) H:=q;rw [<-ES i (Cc a)] at q;exact Ee pins s σ H x y v u Q I b c {i,j,d,e,AR a,q}
def Yr {f:dj} {g:Heap} {tk:Nat} (I:Inv X pins σ H s) (e:∀ b∈f,Df X pins H b) (k:∀ b o,b∉f->s.heap.get? b=some o->g.get? b=some o):Inv X pins σ H { s with heap:=g,toks:=tk }:=by
 let tr:∀ b u,H b=some u->b∉f:=λb u q a=>by rw [(e b a).1] at q;cases q
 refine I.step (g':=s.gens) (d':=s.drawn) (ch:=f) (λb a=>{(e b a).2.2.2.1,(e b a).2.1,(e b a).2.2.2.2.1,(e b a).2.2.2.2.2}) (λb o _ _ d q _=>k b o d q) (λb o _ _ d q _=>{o.slots,k b o d q}) (λ_ _ _ _ n=>n)
  (λb o d q=>{o,k b o d q}) (λ_ _ q=>q) (λ_ _ _ q=>q) (λb ps q=>{#[],by rw [q];simp}) (λm j=>?_) (λb u q=>?_) I.bare
 .let {o,p,r,w,x}:=j;exact {o,p,r,k _ o (λa=>(e _ a).2.1 rfl) w,x}
 .refine (I.hok b u q).stay (λc v d z=>?_) (λ_ z=>z) λ_ _ z=>z;rcases d with y | y
  .subst y;exact k _ v (tr _ u q) z
  .exact k c v (tr c _ y) z
def Ys {h:dj} {g:Heap} {tk:Nat} {xs:cZ} {its:d7} (I:Inv X pins σ H s) (e:∀ b∈h,Df X pins H b) (k:∀ b o,b∉h->s.heap.get? b=some o->g.get? b=some o)
  (hz:@xs<=sizeLine) (p:Vals xs its) (r:g.get? ⇑s=some { cls:=.type "tuple", data:=.seq its.toArray }):Inv X pins σ (upd H ⇑s (.tup xs)) { s with heap:=g,toks:=tk }:=by
 let w:H ⇑s=none:=I.hok.fresh (AT _);let f:∀ b u,H b=some u->b≠⇑s:=λb u q=>A3 q w;let tr:∀ b u,H b=some u->b∉h:=λb u q a=>by rw [(e b a).1] at q;cases q
 refine I.step (g':=s.gens) (d':=s.drawn) (ch:=h) (λb a=>{(e b a).2.2.2.1,(e b a).2.1,(e b a).2.2.2.2.1,(e b a).2.2.2.2.2}) (λb o _ _ d q _=>k b o d q) (λb o _ _ d q _=>{o.slots,k b o d q}) (λb o _ q n=>?_)
  (λb o d q=>{o,k b o d q}) (λb x q=>?_) (λb o u q=>?_) (λb ps q=>{#[],?_}) (λm A=>?_) (λb u q=>?_) I.bare
 .rw [AX (By (jM q))];exact n
 .rw [AX (f b _ q)];exact q
 .rw [AX (f b _ q)];exact q
 .rw [AX (f b _ q),q];simp
 .let ⟨o,B,C,D,E⟩:=A;exact {o,B,C,k _ o (λa=>(e _ a).2.1 rfl) D,E}
 .by_cases a:b=⇑s
  .subst a;rw [upd_same] at q;cases q;exact {hz,its,p,{_,r,2,1}}
  .rw [AX a] at q;refine (I.hok b u q).stay (λc v d z=>?_) (λc z=>by rw [AX (f c _ z)];exact z) λc x z=>by rw [AX (f c _ z)];exact z
   rcases d with y | y
   .subst y;exact k _ v (tr _ u q) z
   .exact k c v (tr c _ y) z
end
def Yt (a b z c d e f:Addr) (i:Nat) (h:Heap):Prop:=IsZip h z c d .none/\IsPair h c (.ref e) (.ref f)/\(∃ u v,IsPair h d u v)/\h.IsListIter e a i/\h.IsListIter f b i
def Yu {P:Program} {w:World} {K:W.Frag} {M:dh} {k:Nat} {Y:Pos} {a b z p r m n:Addr} (D:ZipApart z p r m n a b):Turn P w K (.Tuple M k Y) (Itz K a b) [z,p,r,m,n] z (Yt a b z p r m n) where
 mem:=by simp
 obj:=λi h f c j=>by
  let {G,F,{u,v,J},{o4,B,_,d4},{o5,C,_,d5}}:=f
  let d:c=z\/c=p\/c=r\/c=m\/c=n:=by simpa using j
  rcases d with rfl | rfl | rfl | rfl | rfl
  .exact {_,G,λv q=>nomatch q}
  .exact {_,F,λv q=>nomatch q}
  .exact {_,J,λv q=>nomatch q}
  .exact {_,B,λv q=>by rw [d4] at q;cases q}
  .exact {_,C,λv q=>by rw [d5] at q;cases q}
 keep:=λi h h' f N=>{N z (by simp) _ f.1,N p (by simp) _ f.2.1,let ⟨u,v,q⟩:=f.2.2.1;⟨u,v,N r (by simp) _ q⟩,f.2.2.2.1.at λo q=>N m (by simp) o q,f.2.2.2.2.at λo q=>N n (by simp) o q}
 item:=by
  intro X Z hw hK j i O s σ H E I S f hg
  subst Z hw hK
  let {xs,ys,x,y,T,A,hx,hy}:=hg
  let {G,F,{u0,v0,J},B,C}:=f
  let {Q,rv,p1,_}:=I.list T
  let {a0,rw',p2,_}:=I.list A
  let {u,hu,ru}:=rv.get hx
  let {v,hv,a1}:=rw'.get hy
  refine wpAny_pyNext_zip_item D G F J B C p1.isList p2.isList (x:=u) (y:=v) (by simpa using hu) (by simpa using hv) λg g1 g2 g3 g4 g5 _ U=>?_
  refine {1,wpAny_letOwnedTupleGo_zip g1 λg' z1 L=>?_}
  let lz:z<⇑s:=jM G
  let R:∀ c o,c∉[z,p,r,m,n]->s.heap.get? c=some o->g'.get? c=some o:=λc o j q=>by
   let d:¬ (c=z\/c=p\/c=r\/c=m\/c=n):=by simpa using j
   exact L.extBut c o (λe=>d (.inl e)) (U c o (λe=>d (.inl e)) (λe=>d (.inr (.inr (.inl e)))) (λe=>d (.inr (.inr (.inr (.inl e))))) (λe=>d (.inr (.inr (.inr (.inr e))))) q)
  let I1:=Ys (g:=g') (tk:=s.toks) (xs:=[x,y]) (its:=[u,v]) I S R (sz (by simp)) (.cons ru (.cons a1 .nil)) (L.extBut _ _ (Nat.ne_of_gt lz) g5)
  refine {.ref ⇑s,_,I1,2,{_,x,y,I.hok.fresh (AT _),7,λzs hz=>by rw [I.list_inj hz T];exact hx,λzs hz=>by rw [I.list_inj hz A];exact hy},{z1,?_,{u,v,L.extBut _ _ D.TOz g2},g3.at λo q=>L.extBut m o D.i1z q,g4.at λo q=>L.extBut n o D.i2z q},λc j=>?_}
  .exact L.extBut _ _ D.TIz (U _ _ D.TIz D.TITO D.TIi1 D.TIi2 F)
  .rw [AX]
   .exact (S c j).1
   .let d:c=z\/c=p\/c=r\/c=m\/c=n:=by simpa using j
    let {o4,B,_}:=B
    let {o5,C,_}:=C
    rcases d with rfl | rfl | rfl | rfl | rfl
    .exact By lz
    .exact By (jM F)
    .exact By (jM J)
    .exact By (jM B)
    .exact By (jM C)
 done:=by
  intro X Z hw hK j i O s σ H E I S f hg
  subst Z hw hK
  let {xs,ys,T,A,hx}:=hg
  let {G,F,{u0,v0,J},B,C}:=f
  let {Q,rv,p1,_}:=I.list T
  let {a0,_,p2,_}:=I.list A
  let hl:=@rv
  refine wpAny_pyNext_zip_end (I.ok.hd j) D G F J B C p1.isList p2.isList (.inl (by simp;omega)) λg U=>{2,Yr (tk:=s.toks) I S λc o j q=>?_}
  let d:¬ (c=z\/c=p\/c=r\/c=m\/c=n):=by simpa using j
  exact U c o (λe=>d (.inl e)) (λe=>d (.inr (.inr (.inl e)))) (λe=>d (.inr (.inr (.inr (.inl e))))) (λe=>d (.inr (.inr (.inr (.inr e))))) q
 self:=λ_ _ _ _ _ f h=>wpAny_pyIter_zip f.1 h
section
variable {X:Cx} {elts:dh} {k:Nat} {tpos:Pos} {a b:Expr} {ta:TA} {p pos:Pos}
def vals2 {x y:V} {c:d7} (r:Vals [x,y] c):∃ u v,c=[u,v]/\RelV x u/\RelV y v:=r.two
def Yv (C:Gl X "zip") (E:X.mg "zip" = none) (F:PA X [a,b] ta) (G:starEach [a,b] X.env=(false,eval a X.env)::starEach [b] X.env:=by rfl) (j:(backTo pos (starEach [b] X.env)).any (·.1)=false:=by rfl):PI X (.Tuple elts k tpos) (.Call (.Name "zip" p) [a,b] [] pos) (LH X.K ta):=by
 intro e s n H R I h;refine Call_ (Es I C E YC (PyProof.Rows.callWith_type1 (G_ (F pos e s n H _ I h) λus d ⟨vs,o,f,J,K⟩=>?_) G j));let {r,w,rfl,{xs,L},{ys,m},q}:=K;let {u,v,rfl,M,N}:=vals2 J;cases M;cases N;let {O,_,x,_}:=f.list L;let {P,_,y,_}:=f.list m;refine call_zip_2 x.isList y.isList λg A Q S T U _ W=>?_;let Y:Inv X e n o { d with heap:=g }:=f.kept (t':=d.toks) W;let n1:@LT.lt Nat _ r ⇑d:=x.lt;let n2:@LT.lt Nat _ w ⇑d:=y.lt
 let D:ZipApart (⇑d+4) (⇑d+2) (⇑d+3) ⇑d (⇑d+1) r w:=by
  constructor <;> (show (_:Nat)≠_;omega)
 refine wpAny_pyIter_zip A {_,[⇑d+4,⇑d+2,⇑d+3,⇑d,⇑d+1],9,o,2,Y,Yu D,{A,Q,{9,S},T,U},λc Z=>?_,q}
 let i:⇑d<=c:=by
  let z:c=⇑d+4\/c=⇑d+2\/c=⇑d+3\/c=⇑d\/c=⇑d+1:=by simpa using Z
  rcases z with z | z | z | z | z <;> rw [z] <;> first | exact Nat.le_add_right _ _ | exact AT _
 exact f.fpOk i (f.hok.fresh i)
end
def OP:bootBuiltins "any" = some (.builtin "any"):=by decide +kernel
theorem Jw:∀ {ns:d6} {a:d7} {i:Nat} {u:Value},Vals (~~~ns) a->a[i]?=some u->∃ n t,ns[i]?=some n/\u=Value.int n t
 | [],_,_,_,.nil,e=>by simp at e
 | n::ns,_,0,_,.cons r _,e=>by
   simp at e;subst e;let {t,rfl}:=r;exact ⟨n,t,rfl,rfl⟩
 | _::ns,_,i+1,u,.cons _ r,e=>by
   let {n,t,b,c}:=Jw (i:=i) (u:=u) r (by simpa using e);exact {n,t,by simpa using b,c}
section
variable {X:Cx}
def Yw (y:X.calm=true):Cl X (.builtin "any") LJ:=λk s M H N O Q I r ⟨p,c,e,hp,q⟩=>by
 subst e;let {u,rfl,B}:=EZ r;cases B;let {a,m,j,P}:=I.list (SqL.of hp);let R:@c=@a:=by have:=@m;simpa using this
 refine call_any_walk (wpAny_pyIter_list j.isList {⇑s,[⇑s,p],[⇑s],a.toArray.size,9,λi=>!decide (c.getD i 0=0),2,Walks.list (A:=X.A.in1) (show X.A.in1.handled=none from I.ok.hd y) ⇑s p (By j.lt) _,{{_,Heap.get?_push_size _ rfl,7},j.isList.push _},?_,λg S C=>?_})
 .intro i v D E T F f;let {n,t,G,rfl}:=Jw m (show a[i]?=some v by simpa using F);let e:c.getD i 0=n:=by rw [AU,G];rfl
  replace f:E (!decide (c.getD i 0=0)) D:=f;rw [e] at f;refine PySem.P.truthy_int ?_;let J:(n != 0)=!decide (n=0):=by rw [Ej];simp
  rw [J];exact f
 .let K:∀ b o,s.heap.get? b=some o->g.get? b=some o:=λb o e=>C b o (λz=>absurd (jM e) (by rw [BM.mp z];exact DV _)) (Heap.get?_push_of_some _ e);refine {_,H,I.kept K,?_,q};show Value.bool _=Value.bool _;congr 1;rw [Ej];simp only [List.any_eq_true,D7,BI];constructor
  .rintro ⟨i,w,h⟩;let d:i<@c:=by omega
   rw [AU,Ak d] at h;exact {c[i],Cu d,h}
  .rintro ⟨x,L,h⟩;let {i,w,rfl}:=ET L;refine {i,`a,?_};rw [AU,Ak w];exact h
end
def Yx (a v:Value):argsOk "min" ⟨[a],[("default", v)]⟩:=by unfold argsOk;kernel_rfl
end Bs
namespace Bs
open PySem L2
def sS (K:W.Frag):V->Option Int->Option Int->Hp->VK->Prop:=λx lo c H Q=>∃ a b,x=.ref a/\SqL K H a b/\∀ p,H p=none->Q (.ref p) (upd H p (.lst (CH b lo c)))
end Bs
namespace Bs
open PySem PySem.Spec PyProof.Rows L2
section
variable {X:Cx}
def Yy:OpR X (inplaceOp .FloorDiv) Dy:=by
 intro a s g H x y v u Q I b c ⟨i,j,d,e,f,q⟩;subst d e;let {t,rfl}:=b;let {h,rfl}:=c;exact ifloordiv_int f {.int (i.fdiv j),H,I.tok _,{1},q} (Or.inr (I.ok.plr s I.bk))
def Yz:OpR X (inplaceOp .FloorDiv) Ec:=by
 intro a s c H x y v u Q I d e ⟨i,j,f,g,h,q⟩;let b:0<j:=h;replace q:Q (.int (i / j)) H:=q;rw [<-ES i (Cc b)] at q;exact Yy a s c H x y v u Q I d e {i,j,f,g,AR b,q}
def Y3:cr X (sS X.K):=Nx
end
end Bs
namespace Bs
open PySem L2
def Y4 (n:Nat) (t:aI):TG:=λv c H Q=>∃ a b,v=.ref a/\H a^^^b/\@b=n/\t b c H Q
end Bs
namespace Bs
open PySem PySem.Spec PyProof.Rows L2
def Y5 {m n:Nat} {a b:Int} (c:Bd m a) (d:Bd n b) (h:m+n<=134217728):IntMulOk a b:=IntMulOk.of_le (OC c) (OC d) h
end Bs
namespace Bs
open PySem L2
def Y6 (i j k:Nat) (b:TA):TS:=λD a H=>b a H λc d=>∃ u v w,c=[u,v,w]/\D.nx (((a.set i (some u)).set j (some v)).set k (some w)) d
def inD (neg:Bool):R2:=λx y H Q=>∃ (p:Addr) (c:cZ) (d:W.Dat) (a:List W.Dat) (b:Bool),y=.ref p/\H p^^^c/\RepD H x d/\RepA H c a/\W.kqdOk 8 d=true/\(∀ e∈a,W.kqdOk 8 e=true)/\(b=true↔d∈a)/\Q (.bl (if neg=true then !b else b)) H
end Bs
namespace Bs
open PySem PySem.Spec PyProof.Rows L2
def Y7 {d:W.Dat} {a:List W.Dat} {b:Bool} (c:W.kqdOk 8 d=true) (f:∀ e∈a,W.kqdOk 8 e=true) (g:b=true↔d∈a):((W.kqdPs a).any λy=>PyData.eqv y (W.kqdP d))=b:=by
 rw [Ej,g];exact W.kqd_any a d f c
def Y8 {X:Cx} (G:X.A.units+64<cLine):OpR X (compareOp .In) (inD false):=by
 intro a s J H x y v u Q I g i h;let {p,K,d,j,b,e,hp,k,m,c,f,r,q}:=h;subst e;let {as,w}:=Ga I k g;cases i;let {z,A,B,_}:=I.list (SqL.of hp);let {L,C}:=IV I m A;let {o,n,D,E,_,F}:=B;let l:=W.kqd_layL f;let ld:=W.kqd_lay 8 d c;let M:=ld.2;refine SeqAt.in_list_reads (reads_list_at D E F (by simpa using C)) w l.1 ld.1 ?_ (by rw [Y7 c f r];exact {.bl b,H,I,2,q});have:=Nat.min_le_right (PyData.depthAll (W.kqdPs j)) (W.kqdP d).depth;omega
end Bs
namespace Bs
open PySem L2
noncomputable def Fz (kvs:List (P'×V)) (k:P'):c_:=(kvs.find? λa=>a.1=k).map (·.2)
noncomputable def F0 (kvs:List (P'×V)) (k:P') (v:V):List (P'×V):=
 if kvs.any (λa=>a.1=k) then kvs.map (λa=>if a.1=k then (a.1,v) else a) else kvs++[(k,v)]
end Bs
namespace Bs
open PySem PySem.Spec PySem.Calls PyProof.Rows L2
theorem OQ {k:P'}:∀ {kvs:List (P'×V)} {vs:List (P'×Value)},KV kvs vs->kvs.any (λc=>c.1=k)=vs.any (λc=>c.1=k)
 | _,_,.nil=>rfl
 | _,_,.cons (a:=⟨d,h⟩) (b:=⟨f,i⟩) ⟨e,r⟩ t=>by
   let g:d=f:=e;subst g;rw [List.any_cons,List.any_cons,OQ t]
theorem OR {k:P'} {v:V} {u:Value} (g:RelV v u):∀ {kvs:List (P'×V)} {vs:List (P'×Value)},KV kvs vs->KV (kvs.map (λd=>if d.1=k then (d.1,v) else d)) (vs.map (λd=>if d.1=k then (d.1,u) else d))
 | _,_,.nil=>.nil
 | _,_,.cons (a:=⟨f,h⟩) (b:=⟨j,i⟩) ⟨e,r⟩ t=>by
   let m:f=j:=e;subst m;rw [CZ,CZ];refine .cons ?_ (OR g t);by_cases c:f=k
   .rw [jE (show (f,h).1=k from c),jE (show (f,i).1=k from c)];exact ⟨rfl,g⟩
   .rw [jD (show ¬ (f,h).1=k from c),jD (show ¬ (f,i).1=k from c)];exact ⟨rfl,r⟩
theorem OS {k:P'} {v:V} {u:Value} (a:RelV v u):∀ {kvs:List (P'×V)} {vs:List (P'×Value)},KV kvs vs->KV (kvs++[(k,v)]) (vs++[(k,u)])
 | _,_,.nil=>.cons ⟨rfl,a⟩ .nil
 | _,_,.cons p t=>.cons p (OS a t)
def Y9 {k:P'} {v:V} {u:Value} {kvs:List (P'×V)} {vs:List (P'×Value)} (h:KV kvs vs) (a:RelV v u):KV (F0 kvs k v) (stored vs k u):=by
 unfold F0 stored;rw [OQ h];by_cases c:vs.any (λb=>b.1=k)=true
 .rw [jE c,jE c];exact OR a h
 .rw [jD c,jD c];exact OS a h
def ZA {k:P'} {v:V} {kvs:List (P'×V)}:(F0 kvs k v).length<=↑kvs+1:=by
 unfold F0;split
 .rw [AI];omega
 .rw [Bf];exact AT _
section
variable {X:Cx}
def Inv.dK {a:dc} {c:L2.St} {H:Hp} {s:Shared} {p:Addr} {kvs:List (P'×V)} (I:Inv X a c H s) (h:H p=some (.dK kvs)) :
  ↑kvs<=sizeLine/\(p == sysModules)=false/\∃ b,KV kvs b/\s.heap.DictOf (Ep X.prog X.w) p b:=I.hok p _ h
end
end Bs
namespace Bs
open PySem L2
inductive OT(xs:cZ)(H:Hp)(Q:VK):Prop
 |mk(p:Addr)(a:d6):xs=[.ref p]->H p^^^(~~~a)->@a<64->(∀ (r:Addr) (b:d6),H r=none->b.Perm a->b.Pairwise (·<=·)->Q (.ref r) (upd H r (.lst (~~~b))))->OT xs H Q
end Bs
namespace Bs
open PySem PySem.Spec PyProof.Rows L2
section
variable {X:Cx}
def LK:bootBuiltins "sorted" = some (.builtin "sorted"):=by decide +kernel
theorem ZB:∀ {vs:d7} {ns:d6},Vals (~~~ns) vs->IntsAre vs ns:=by
 intro vs ns
 induction ns generalizing vs with
 | nil=>intro h;cases h;exact .nil
 | cons n ns a=>intro h;cases h with | cons r t=>let ⟨k,rfl⟩:=r;exact .cons n k (a t)
def ZC:Cl X (.builtin "sorted") OT:=λj s U H k W Q I r ⟨p,B,e,hp,Y,q⟩=>by
 subst e;let {u,rfl,C}:=EZ r;cases C;let {i,v,D,E}:=I.list (SqL.of hp);let G:@B=@i:=by have:=@v;simpa using this
 let {m,w,_}:=id I.loc;refine sorted_N (h₀:=Att.noObjs s.heap) (L:=X.env.locals) (m:=m) (news:=Att.ledger s.heap X.env.locals X.env.locals) (Att.fr_all w) (λp hp=>?_) D.isList (ZB v) `a λy f J c F N K A sr=>?_
 .let {M,_,e}:=Att.mem_ledger.mp hp;exact {e,M,Att.noObjs_get _ _}
 let h:∀ b o,b≠X.env.locals->s.heap.get? b=some o->y.get? b=some o:=λb o n e=>(N (b,o) (A6 _ (Att.mem_ledger.mpr ⟨n,n,e⟩))).1;let O:y.get? (⇑s+1)=some (seqObj "list" f.toArray c):=(N _ (BC ..)).1;let d:H (⇑s+1)=none:=I.hok.fresh (Nat.le_succ _);refine {.ref _,_,?_,2,q (⇑s+1) J d A sr};let Z:=A.length_eq;refine I.step (g':=s.gens) (d':=s.drawn) (t':=s.toks) (ch:=[]) (λ_ z=>nomatch z) (λb o n _ _ e _=>h b o n e) (λb o n _ _ e _=>{o.slots,h b o n e}) (λb o _ e n=>?_) (λb o _ e=>?_) (λb k e=>?_) (λb o u e=>?_) (λb ps e=>{#[],?_}) (λP R=>?_) (λb o e=>?_) I.bare
 .rw [AX (By (Nat.lt_succ_of_lt (jM e)))];exact n
 .by_cases g:b=X.env.locals
  .let {S,_,_,a,_}:=F.ns;exact {S,by rw [g];exact a}
  .exact {o,h b o g e}
 .rw [AX (A3 e d)];exact e
 .rw [AX (A3 e d)];exact e
 .rw [AX (A3 e d),e];simp
 .rw [show P=m from funext λx=>R.agree w x];exact F.ns
 .by_cases g:b=⇑s+1
  .subst g;rw [upd_same] at e;cases e;exact {by rw [AI];rw [AI] at E;omega,f,c,LA K,O}
  .rw [AX g] at e;refine (I.hok b o e).stay (λc u T a=>h c u ?_ a) (λc a=>?_) λc k a=>?_
   .rintro rfl;rcases T with z | z
    .rw [<-z,I.free] at e;cases e
    .rw [I.free] at z;cases z
   .rw [AX (A3 a d)];exact a
   .rw [AX (A3 a d)];exact a
end
def ZD (a v:Value):argsOk "max" ⟨[a],[("default", v)]⟩:=by unfold argsOk;kernel_rfl
end Bs
namespace Bs
open PySem L2
def OU (H:Hp) (b:cZ) (kz:d6):Prop:=@kz=@b/\∀ (i:Nat) (u:V) (k:Int),b[i]?=some u->kz[i]?=some k->∃ a y,u=.ref a/\H a&&&[y,.int k]
theorem OV {c j:Type} {g:c->j}:∀ {ps l:List j},ps.Perm l->∀ T:List c,l=T.map g->∃ b:List c,b.Perm T/\ps=b.map g:=by
 intro ps l h
 induction h with
 | nil=>intro T e;exact {T,.refl _,e}
 | cons x _ k=>
   intro T e;cases T with
   | nil=>cases e
   | cons t T=>
     injection e with d a;let {b,p,q}:=k T a;exact {t::b,p.cons t,by rw [CZ,d,q]}
 | swap x y l=>
   intro T e
   match T,e with
   | t::u::T,e=>
     injection e with d a;injection a with a m;exact {u::t::T,.swap t u T,by rw [CZ,CZ,d,a,m]}
 | trans _ _ f i=>
   intro T e;let {n,o,r}:=i T e;let {v,w,z}:=f n r;exact {v,w.trans o,z}
end Bs
namespace Bs
open PySem PySem.Spec PyProof.Rows L2
section
variable {prog:Program} {w:World} {A:Around} {E:d8} {s:Shared}
def ZE {R:d8} {f c' a:Addr} {i g x:Str} {d:Arguments} {c:Scope} {pm p:Value} {its:d7} {k:Int} {t:Tok} {G H ps:Pos} {I:Nat} (q:A.depth<recursionLimit)
  (O:s.heap.get? f=some (W.kla_obj i g d (.Subscript (.Name x G) (.Constant (.int 1) I H) ps) c [] pm c' p)) (B:s.heap.CodeRec (.ref c') g) (P:s.heap.NoLimit)
  (u:bindArgs (W.kla_fn i g d (.Subscript (.Name x G) (.Constant (.int 1) I H) ps) c [] pm (.ref c') p) ⟨[.ref a],[]⟩=pure [(x,.ref a)])
  (n:c.names.lookup x=some .local) (J:c.isCoroutine=false) (C:c.isGenerator=false) (hk:c.kind=.function) (z:∀ x∈c.names,x.2≠.cell) (Q:(x == ("__debug__" : Str))=false)
  (S:IsTup s.heap a its.toArray) (T:↑its=2) (U:its[1]?=some (.int k t))
  (h:∀ L X,(∀ b o,s.heap.get? b=some o->L.get? b=some o)->R (.int k t) { s with heap:=L,toks:=X }):wpAny (model prog w) A (call (.ref f) [.ref a]) R E s:=by
 refine wpAny_call (W.kla_callFunE q O rfl J C rfl B ?_);show wpAny _ _ (bindArgs (W.kla_fn i g d (.Subscript (.Name x G) (.Constant (.int 1) I H) ps) c [] pm (.ref c') p) {[.ref a],[]}) _ _ _;rw [u];refine jJ (wpAny_newFunctionEnv z (λy Y=>by rw [BM.mp Y];exact n) (λm K D=>{P.fresh _ D,?_}) hk);let kp:∀ b o,s.heap.get? b=some o->m.get? b=some o:=λb o e=>D.extBut b o (By (jM e)) (Heap.get?_push_of_some _ e)
 let F:IsTup m a its.toArray:=by
  let {o,e,r}:=S;exact {o,kp _ _ e,r}
 refine W.kla_codeExpr ?_;refine Subscript_ (wpAny_Name (wpAny_loadName_local hk ?_ K (v:=.ref a) ?_ ?_) Q)
 .exact n
 .show [(x,Value.ref a)].reverse.lookup x=_;simp
 .refine wpAny_Constant_int ?_;refine subscriptTail_builtinR (x:=.int k t) F.typeIs slot_tuple_getitem.lookup (getItem_tuple (j:=1) F `b `b (by rw [BI,T];rfl) (by simpa using U) {2,h m _ kp}) rfl
end
theorem ZF {T:List (Int×V×Value)} (h:∀ t∈T,RelV t.2.1 t.2.2):Vals (T.map λt=>t.2.1) (T.map λt=>t.2.2):=by
 induction T with
 | nil=>exact .nil
 | cons t T a=>exact .cons (h t (BC ..)) (a λu b=>h u (A6 _ b))
theorem ZG {e:cZ} {its:d7} (r:Vals e its):∀ d:d6,(∀ t∈d.zip (e.zip its),RelV t.2.1 t.2.2)/\d.zip its=(d.zip (e.zip its)).map (λt=>(t.1,t.2.2))/\d.zip e=(d.zip (e.zip its)).map λt=>(t.1,t.2.1):=by
 induction r with
 | nil=>intro d;cases d <;> exact {(λ_ h=>nomatch h),7}
 | cons h t g=>
   intro d;cases d with
   | nil=>exact {(λ_ h=>nomatch h),7}
   | cons k d=>
     let {a,b,c}:=g d;refine {λt f=>?_,?_,?_}
     .rcases CP.mp f with rfl | f
      .exact h
      .exact a t f
     .rw [FD,FD,FD,CZ,b]
     .rw [FD,FD,FD,CZ,c]
end Bs
namespace Bs
open PySem L2
inductive OW(x:V)(vs:cZ)(H:Hp)(Q:VK):Prop
 |mk(l:Addr)(b:cZ)(y:V)(d:W.Dat)(a:List W.Dat)(j:Nat):x=.ref l->vs=[y]->H l^^^b->RepD H y d->RepA H b a->W.kqdOk 8 d=true->(∀ e∈a,W.kqdOk 8 e=true)->a[j]?=some d->(∀ i e,i<j->a[i]?=some e->e≠d)->Q .non (upd H l (.lst (b.eraseIdx j)))->OW x vs H Q
abbrev OX:R2:=rI (λ_ j=>0<=j) λi j=>.int (i.fdiv (2 ^ j.toNat))
end Bs
namespace Bs
open PySem PySem.Spec PySem.Calls PySem.SeqAt PyProof.Rows L2
open AutoSeq1 (wpAny_loadPart')
theorem ZH (l:Addr) (items:Array Value) (n:Nat) (x:Value) (e:Value->Bool) (j:Nat) (B:j<items.size) (r:e items[j]=true) (k:Nat) (o:items.size<=sizeLine) :
  ∀ i:Nat,j - i=k->i<=j->(∀ m (C:m<items.size),i<=m->m<j->e items[m]=false)->Meets (Builtin.«list.remove.loop» ⟨[.ref l,x,rawInt i],[]⟩)
    (λA R s=>s.heap.get? l=some { cls:=.type "list", dict:=none,data:=.seq items n,slots:=#[] }/\(∀ y,y∈items->EqAt A.in1 s y x (e y))/\R (.ok (.ret .none)) { s with heap:=s.heap.update l (Obj.mapSeq λE=>E.eraseIdxIfInBounds j) }):=by
 induction k with
 | zero=>
   intro i hk u b a w A R s h;let {hp,g,d,F,os}:=s;let {f,q,h}:=h;let p:i=j:=by omega
   subst p
   wp_walk using wpAny_loadPart' f
   let v:items[((i:Nat):Int).toNat]?=some items[i]:=by simp [B]
   rw [v];refine jI (q _ (Array.getElem_mem B) a w _ _ ?_);rw [r];let z:(items.eraseIdxIfInBounds i).size<=sizeLine+1:=BK (MeetsSeq.size_erased items _) (Nat.le_succ_of_le o)
   wp_walk using (wpAny_updateSeq f rfl (hz:=o) (_hz':=z)),wpAny_loadPart' f
   simpa using h
 | succ k G=>
   intro i hk u b a w A R s h;let {hp,g,d,F,os}:=s;let {f,q,h}:=h;let c:i<items.size:=by omega
   wp_walk using wpAny_loadPart' f
   let v:items[((i:Nat):Int).toNat]?=some items[i]:=by simp [c]
   let H:((i:Int)+1)=((i+1:Nat):Int):=by push_cast;rfl
   rw [v];refine jI (q _ (Array.getElem_mem c) a w _ _ ?_);rw [b i c (AT _) `a]
   wp_walk
   rw [H]
   exact {plainId_quiet MeetsSeq.plain_remove_loop _,codeAny_builtin MeetsSeq.entry_remove_loop (by
    rw [Around.under_plainId MeetsSeq.plain_remove_loop _];exact G (i+1) `a `a (λm C J I=>b m C `a I) a w A R _ ⟨f,q,h⟩)}
def ZI (l:Addr) (items:Array Value) (n:Nat) (x:Value) (e:Value->Bool) (j:Nat) (p:j<items.size) (b:e items[j]=true) (c:∀ m (i:m<items.size),m<j->e items[m]=false) (f:items.size<=sizeLine) :
  Meets (Builtin.«list.remove» ⟨[.ref l,x],[]⟩)
   (λA R s=>s.heap.get? l=some { cls:=.type "list", dict:=none,data:=.seq items n,slots:=#[] }/\(∀ y,y∈items->EqAt A.in1 s y x (e y))/\R (.ok (.ret .none)) { s with heap:=s.heap.update l (Obj.mapSeq λq=>q.eraseIdxIfInBounds j) }):=by
 intro a w A R s h;let {hp,g,d,v,os}:=s;let {o,r,h}:=h
 wp_walk using wpAny_loadPart' o
 exact {plainId_quiet MeetsSeq.plain_remove_loop _,codeAny_builtin MeetsSeq.entry_remove_loop (by
  rw [Around.under_plainId MeetsSeq.plain_remove_loop _];exact ZH l items n x e j p b _ f 0 rfl (Ah _) (λm i _ u=>c m i u) a w A R _ ⟨o,r,h⟩)}
theorem OY:∀ a:List W.Dat,W.kqdPs a=a.map W.kqdP:=by
 intro a
 induction a with
 | nil=>rfl
 | cons d a b=>rw [W.kqdPs,b];rfl
theorem OZ:∀ {xs:cZ} {vs:d7},Vals xs vs->∀ j:Nat,Vals (xs.eraseIdx j) (vs.eraseIdx j)
 | _,_,.nil,_=>.nil
 | _,_,.cons _ t,0=>t
 | _,_,.cons h t,j+1=>.cons h (OZ t j)
def ZJ {X:Cx} (hu:X.A.units+64<cLine):b_ X "list.remove" OW:=by
 intro o s σ H x vs v us Q I J K h;let {l,xs,y,d,b,j,rfl,rfl,p,L,N,w,B,C,O,q}:=h;cases J;let {u,rfl,P}:=K.one;let {as,R}:=Ga I L P;let {z,a,n,r,S,e}:=I.lstM p;let {bs,D}:=IV I N r;let E:=W.kqd_layL B;let ld:=W.kqd_lay 8 d w;let l2:=ld.2;let T:a.toArray.size<=sizeLine:=by rw [BI,<-S];exact z
 let G:a.map (readOf s.heap)=b.map W.kqdP:=by rw [<-OY];exact readsAll_map _ _ _ E.1 D
 let ln:@a=@b:=by have:=congrArg List.length G;simpa using this
 let c:∀ m (g:m<@a),readOf s.heap a[m]=W.kqdP (b[m]'`a):=λm g=>by
  have:=congrArg (λt=>t[m]?) G;simp only [Ae] at this;rw [Ak g,Ak `a] at this;exact jL this
 let one:∀ f,f∈b->(PyData.eqv (W.kqdP f) (W.kqdP d)=true↔f=d):=λf U=>by
  have:=W.kqd_any [f] d (λe Y=>by rw [BM.mp Y];exact B f U) w;rw [OY] at this;simp only [CZ,List.map_nil,List.any_cons,List.any_nil,Bool.or_false,BM] at this;rw [this];exact eq_comm
 let jl:j<@b:=(A7.mp C).1;let Z:b[j]=d:=(A7.mp C).2;let jz:j<a.toArray.size:=by rw [BI];omega
 let M:=ZI l a.toArray n u (λy=>PyData.eqv (readOf s.heap y) (W.kqdP d)) j jz (by
  show PyData.eqv (readOf s.heap a.toArray[j]) _=true;have:a.toArray[j]=a[j]'`a:=by simp
  rw [this,c j `a,one _ (Cu _)];exact Z) (λm g i=>by
  show PyData.eqv (readOf s.heap a.toArray[m]) _=false;let k:m<@a:=by rw [BI] at g;exact g
  have:a.toArray[m]=a[m]:=by simp
  rw [this,c m k,Bool.eq_false_iff];intro z;rw [one _ (Cu _)] at z;exact O m _ i (Ak `a) z) T
 refine call_meets F.slot_list_remove {_,e,2} F.entry_list_remove (F.args_list_remove_2 _ _) M {e,items_eqAt (A:=X.A) (by simpa using D) R E.1 ld.1 ?_,?_}
 .have:=Nat.min_le_right (PyData.depthAll (W.kqdPs b)) (W.kqdP d).depth;omega
 .refine {.non,_,I.lset (its':=a.eraseIdx j) p e ?_ ?_ ?_,2,q}
  .apply Array.ext';simp [Array.toList_eraseIdxIfInBounds]
  .exact OZ r j
  .exact BK (List.length_eraseIdx_le ..) z
def ZK {X:Cx}:OpR X (binaryOp .RShift) OX:=b5 λ_ _ _ _ _ _ _ a q=>rshift_int a q
end Bs
namespace L2
open PySem PySem.Spec PyProof.Rows
theorem ZL {T:Addr} {P:Program} {w:World} {K:W.Frag} {mg mb:de} {CX:aK} {k:Nat} {fa a:Addr} {fd:FuncData} {x:Str} {sp:Sp} {c:Shared} {vs:d7} {ns:d6}
  (KX:K.In c.heap) (Q:c.heap.Ns mainGlobals mg) (g:c.heap.Ns builtinsNs mb) (a4:∀ x:Str,x ≠ "__name__" -> mb x=bootBuiltins x) (R:c.heap.NoLimit) (i:c.heap.NoSeer) (I:(model P w).prog.given.tree=none) (hg:c.gens=#[])
  (J:c.heap.get? a=some { cls:=.type "list", data:=.seq vs.toArray }) (hi:IntsAre vs ns) (hl:@ns<=sizeLine) (hr:Room k callerA)
  (F:∀ A:Heap,K.In A->A.Ns mainGlobals mg->FnOk P w K mg A CX k fa fd [x] sp) (L:∀ (s:Shared) (u:Value),BindsTo s fd ⟨[u],[]⟩ [(x,u)])
  (a5:K.lookup T=none) (O:c.heap.get? T=some { cls:=.none,data:=.fields #[] }) (a6:isCodeTable c.heap T) (a7:∀ H:Hp,H T=some (.tbl #[])->SqL K H a (~~~ns)->sp [.ref a] H (λv _=>v=.bl true) λ_ _ _=>False)
  (a8:∀ H e p,CX [] H c (λ_ _ _=>False) e p->False) :
  codeAny (model P w) callerA (.call (.ref fa) ⟨[.ref a],[]⟩) (λr p=>r=.ok (.ret (.bool true))/\OldK c.heap p.heap/\p.os=c.os/\AllBare p.gens) c:=by
 let rv:=LA hi;let S:=@hi;let aT:a≠T:=λz=>by rw [z,O] at J;cases J
 let D:∀ H:Hp,(∀ b,b≠T->H b=none\/∃ o xs,H b=some (.frz o (.lst xs)))->H T=some (.tbl #[])->SqL K H a (~~~ns)->HOk P w H c.heap->(∀ b,H b≠none->b=a\/b=T)->(H a≠none->K.lookup a=none)->
   codeAny (model P w) callerA (.call (.ref fa) ⟨[.ref a],[]⟩) (λr p=>r=.ok (.ret (.bool true))/\OldK c.heap p.heap/\p.os=c.os/\AllBare p.gens) c:=by
  intro H hO U hS X hA hK;let f:∀ {b:Addr} {o:Obj},c.heap.get? b=some o->H b=none->(Er c.heap H).get? b=some o:=λe n=>U6 e n
  let a9:∀ {b:Addr} {o:Obj} {Y:Array DictEntry} {Z:Nat},c.heap.get? b=some o->o.data=.dict Y Z->H b=none:=λ{b o Y Z} e d=>by
   cases q:H b with
   | none=>rfl
   | some u=>
     rcases hA b (by rw [q];simp) with C | C
     .subst C;rw [J] at e;cases e;let d':Data.seq vs.toArray _=Data.dict Y Z:=d;cases d'
     .subst C;rw [O] at e;cases e;cases d
  let j:∀ {b:Addr} {m:de},c.heap.Ns b m->(Er c.heap H).Ns b m:=λ{b m} ⟨o,Y,Z,e,d,r⟩=>{o,Y,Z,f e (a9 e d),d,r}
  let a0:K.In (Er c.heap H):=λb o e=>f (KX b o e) (by
   cases q:H b with
   | none=>rfl
   | some u=>
     rcases hA b (by rw [q];simp) with C | C
     .subst C;rw [hK (by rw [q];simp)] at e;cases e
     .subst C;rw [a5] at e;cases e)
  let hM:Mod K mg (Er c.heap H):={a0,j Q,{mb,j g,a4},let ⟨M,h1,h2⟩:=R;⟨M,j h1,h2⟩}
  let aa:(Er c.heap H).NoSeer:={let ⟨M,a,b⟩:=i.statics;⟨M,j a,b⟩,let ⟨M,a,b⟩:=i.mods;⟨M,j a,b⟩,let ⟨M,a,b⟩:=i.imp;⟨M,j a,b⟩,
   let ⟨ab,bm,ob,a',b',c',d',C⟩:=i.main;⟨ab,bm,ob,j a',b',f c' (by
    cases q:H bm with
    | none=>rfl
    | some u=>
      rcases hA bm (by rw [q];simp) with z | z
      .subst z;rw [J] at c';cases c';simp at d'
      .subst z;rw [O] at c';cases c';simp at d'),d',C⟩}
  let e0:Env0 P w K mg (Er c.heap H) callerA [] c H:={2,hM,λb o e=>U7 e,Nat.le_of_eq (U5 _ _),trivial,λb g=>absurd (show b∈([]:dj) from g) (by simp),X,.of_eq hg,aa,I};refine codeAny_mono ((F _ a0 (j Q)).run callerA [] c H {[.ref a],[]} [.ref a] [.ref a] _ _ hr e0 (L c (.ref a)) (.cons rfl .nil) (a7 H U hS)) λr p h=>?_;cases r with
  | error e=>exact (a8 H e p h).elim
  | ok fl=>
    cases fl with
    | next=>exact False.elim h
    | brk=>exact False.elim h
    | cont=>exact False.elim h
    | ret u=>
      let {v,H',os,a1,un,E,r',q}:=h;let q':v=.bl true:=q;subst q';obtain rfl:u=Value.bool true:=r'
      let a2:∀ b o,b≠T->c.heap.get? b=some o->p.heap.get? b=some o:=λb o B e=>by
       cases q:H b with
       | none=>exact un.keep b o e q (by intro z;exact absurd (show b∈([]:dj) from z) (by simp)) (by simp)
       | some u=>
         rcases hO b B with z | ⟨ob,xs,z⟩
         .rw [q] at z;cases z
         .let z2:=un.frzs b ob _ z;let {e1,_}:=X b _ z;let {e2,_}:=E b _ z2;rw [e] at e1;cases e1;exact e2
      let {G,N}:=un.tbls T _ U;let a3:p.heap.get? T=some { cls:=.none,data:=.fields (#[]++G) }:=E T _ N;refine {2,{λb o e=>?_,λb o e=>?_},os,a1}
      .by_cases B:b=T
       .subst B;rw [O] at e;cases e;exact .inr (.inl {a6,2,#[],G,2,a3})
       .exact .inl (a2 b o B e)
      .by_cases B:b=T
       .exact {_,by rw [B];exact a3}
       .exact {o,a2 b o B e}
 cases hk:K.lookup a with
 | some o=>
   let e:=KX a o hk;rw [J] at e;cases e;refine D (λb=>if b=T then some (.tbl #[]) else none) (λb B=>.inl (jD B)) (jE rfl) (.inr {_,vs.toArray,_,hk,7,2,by rw [BI,S];exact hl,by simpa using rv}) (λb u z=>?_) (λb z=>?_) λz=>absurd (jD aT) z
   .by_cases g:b=T
    .let z':=(jE g).symm.trans z;cases z';rw [g];exact O
    .let z':=(jD g).symm.trans z;cases z'
   .by_cases g:b=T
    .exact .inr g
    .exact absurd (jD g) z
 | none=>
   let ac:(λb=>if b=T then some (HO.tbl #[]) else if b=a then some (.frz { cls:=.type "list", data:=.seq vs.toArray } (.lst (~~~ns))) else none) a=some (.frz { cls:=.type "list", data:=.seq vs.toArray } (.lst (~~~ns))):=by
    show (if a=T then _ else _)=_;rw [jD aT,jE rfl]
   refine D (λb=>if b=T then some (.tbl #[]) else if b=a then some (.frz { cls:=.type "list", data:=.seq vs.toArray } (.lst (~~~ns))) else none) (λb B=>?_) (jE rfl) (.inl (.inr {{ cls:=.type "list", data:=.seq vs.toArray },ac})) (λb u z=>?_) (λb z=>?_) λ_=>hk
   .show (if b=T then _ else _)=none\/∃ o xs,(if b=T then _ else _)=some _;rw [jD B];by_cases g:b=a
    .exact .inr {9,jE g}
    .exact .inl (jD g)
   .let z:(if b=T then some (HO.tbl #[]) else if b=a then some (.frz { cls:=.type "list", data:=.seq vs.toArray } (.lst (~~~ns))) else none)=some u:=z;by_cases y:b=T
    .rw [jE y] at z;cases z;rw [y];exact O
    .rw [jD y] at z;by_cases g:b=a
     .rw [jE g] at z;cases z;subst g;exact {J,by rw [AI];exact hl,vs,_,rv,J}
     .rw [jD g] at z;cases z
   .by_cases y:b=T
    .exact .inr y
    .by_cases g:b=a
     .exact .inl g
     .exact absurd ((jD y).trans (jD g)) z
def walk_ofT {T:Addr} {l:W.OpenLaw} {n k:Nat} {q:Program} {loose:di} {XP:(de)->Heap->Prop} {YP:World->Heap->Prop} {d:DefRec} {K:Params->W.Frag} {CX:World->aK} {sp:World->Sp} {x:Str}
  (M:l.most=some n) (r:n<=sizeLine) (y:d.params.defaults=[]) (N:importsNone q=true) (g:∀ w,(model l.prog w).prog.given.tree=none) (O:Room k callerA)
  (P:∀ (w:World) (h:Heap),YP w h->(K w.params).In h)
  (F:∀ (w:World) (mg:de) (p:Addr) (h:Heap),(K w.params).In h->h.Ns mainGlobals mg->mg d.name=↥p->
   ∃ z:FuncData,(∀ (s:Shared) (u:Value),BindsTo s z ⟨[u],[]⟩ [(x,u)])/\
     ∀ b:Heap,(K w.params).In b->b.Ns mainGlobals mg->FnOk l.prog w (K w.params) mg b (CX w) k p z [x] (sp w))
  (A:∀ w:World,(K w.params).lookup T=none) (E:∀ (w:World) (h:Heap),YP w h->h.get? T=some { cls:=.none,data:=.fields #[] }/\isCodeTable h T) (B:∀ (w:World) (H:Hp) (a:Addr) (ns:d6),@ns<=n->H T=some (.tbl #[])->SqL (K w.params) H a (~~~ns)->sp w [.ref a] H (λv _=>v=.bl true) λ_ _ _=>False)
  (C:∀ (w:World) (H:Hp) (s:Shared) (e:Value) (s':Shared),CX w [] H s (λ_ _ _=>False) e s'->False) :
  W.WalkO q loose XP YP l.row.toRowW d [] (λf I=>PySem.call f I):=by
 refine Att.attach_call M y λw J j mg mb p o pm cd Q a I ns G Y ho hd R D m i c S=>?_;let L:=P w _ Y;let {z,U,X}:=F w mg p _ L G.T.g D;exact ZL (T:=T) L G.T.g G.T.b G.T.builtins G.T.nolimit (G.T.seer N) (g w) S m i (BK c r) O X U (A w) (E w _ Y).1 (E w _ Y).2 (λH Z hS=>B w H a ns c Z hS) λH e s'=>C w H j e s'
end L2
namespace Bs
open PySem L2
def TabOk (a:Array Value->Addr->Prop) (code:Addr->Heap->Prop) (P:Addr) (H:Hp):Prop:=∃ ps,H P=some (.tbl ps)/\(ps=#[]\/∃ c,a ps c/\H c=some (.ext (code c)))
def Jx (a:Array Value->Addr->Prop) (code:Addr->Heap->Prop) (P:Addr) (g:TE):TE:=λh H Q=>g h H λx b=>∃ (l:Addr) (c:cZ) (f:d6),x=.ref l/\b l^^^c/\@c<64/\OU b c f/\TabOk a code P b/\
 ∀ (r:Addr) (e:List (Int×V)) (d:Hp),b r=none->e.Perm (f.zip c)->e.Pairwise (λp q=>p.1<=q.1)->Kp P b d->TabOk a code P d->d r^^^(e.map (·.2))->Q (.ref r) d
def TabOk.keep {d:Array Value->Addr->Prop} {code:Addr->Heap->Prop} {P:Addr} {H g:Hp} (h:TabOk d code P H) (k:∀ b o,(∀ f,o≠.lst f)->H b=some o->g b=some o):TabOk d code P g:=by
 let {ps,e,r}:=h;refine {ps,k _ _ (λf z=>by cases z) e,r.imp id λ⟨c,a,b⟩=>{c,a,k _ _ (λf z=>by cases z) b}}
def TabOk.same {a:Array Value->Addr->Prop} {code:Addr->Heap->Prop} {P:Addr} {H c:Hp} (h:TabOk a code P H) (s:Same H c):TabOk a code P c:=h.keep λb o _ e=>s b o e
def TabOk.ne {a:Array Value->Addr->Prop} {code:Addr->Heap->Prop} {P b:Addr} {H:Hp} {xs:cZ} (h:TabOk a code P H) (e:H b&&&xs\/H b^^^xs):b≠P:=by
 let {ps,q,_}:=h;rcases e with e | e
 .exact FI e q (by intro z;cases z)
 .exact FI e q (by intro z;cases z)
end Bs
namespace Bs
open PySem PySem.Spec PyProof.Rows L2
section
variable {X:Cx} {c P:Addr} {lp:Pos} {params:Arguments} {body:Expr} {scope:Scope}
def LL {h h':Heap} {c':Addr} {q:Str} (r:h.CodeRec (.ref c') q) (k:∀ o,h.get? c'=some o->h'.get? c'=some o):h'.CodeRec (.ref c') q:=by
 let {g,o,a,t,b,d,e,f}:=r;cases b;exact {_,o,a,t,2,k _ d,e,f}
def ZM {prog:Program} {w:World} {H:Hp} {h:Heap} {c':Addr} {q:Str} (r:h.CodeRec (.ref c') q):ObjOk prog w H h c' (.ext λh=>h.CodeRec (.ref c') q):={r,by
 let {e,o,f,t,a,b,_}:=r;cases a;exact ⟨o,b⟩,λg i d k=>LL d k}
def ZN {j:dc} {s:Shared} {S:L2.St} {H:Hp} {Q:d8} {E:d8} {ps:Array Value} (I:Inv X j S H s) (q:X.env.code=.ref c) (Y:W.CodeHd X.base c P) (J:X.base.BuiltinsAt X.mg P)
  (K:closureFor scope X.env=pure []) (x:defaultsOf params X.env=([],[])) (a:H P=some (.tbl ps)) (Z:TriplesOk ps.toList) (L:codeAmong lp ps.toList=none)
  (k:∀ (f c':Addr) (r:Value) (h':Heap) (tk:Nat),H c'=none->Inv X j S (upd (upd H P (.tbl (ps++#[rawInt lp.line,rawInt lp.col,.ref c']))) c' (.ext λh=>h.CodeRec (.ref c') (X.env.qual ++ "<lambda>"))) { s with heap:=h',toks:=tk }->h'.get? f=some (W.kla_obj "<lambda>" (X.env.qual ++ "<lambda>") params body scope [] ((X.mg "__name__").getD .none) c' r)->h'.CodeRec (.ref c') (X.env.qual ++ "<lambda>")->⇑s<=f->h'.objs.size=f+1->Q (.ref f) { s with heap:=h',toks:=tk }) :
  wpAny (model X.prog X.w) X.A (eval (.Lambda params body scope lp) X.env) Q E s:=by
 refine W.kla_eval x ?_;let M:s.heap.get? P=some (W.tabObj ps):=I.hok P _ a
 let gP:mainGlobals≠P:=λz=>by
  let {o,es,ep,e,_}:=I.mod.glob;have:=(I.bs _ o e).2;rw [z,a] at this;cases this
 refine W.kla_makeFunction (mg:=X.mg) K I.ok.glob (I.mod.glob.keeps I.bk) q (Y.keeps I.bk) M Z L gP (J.keeps I.bk) λc' r h' tk T v N B O=>?_;let R:H c'=none:=I.hok.fresh v;let G:∀ (p:Obj) b o,b≠P->s.heap.get? b=some o->(h'.push p).get? b=some o:=λp b o n e=>Heap.get?_push_of_some _ (T b o n e);let C:∀ p,(h'.push p).get? P=some (W.tabObj (ps++#[rawInt lp.line,rawInt lp.col,.ref c'])):=λp=>Heap.get?_push_of_some _ O;let LP:X.env.locals≠P:=λz=>by have:=I.free;rw [z,a] at this;cases this
 let D:∀ p,(h'.push p).CodeRec (.ref c') (X.env.qual ++ "<lambda>"):=λp=>LL B λo e=>Heap.get?_push_of_some _ e
 let g:∀ {b:Addr} {o:HO},b≠P->H b=some o->upd (upd H P (.tbl (ps++#[rawInt lp.line,rawInt lp.col,.ref c']))) c' (.ext λh=>h.CodeRec (.ref c') (X.env.qual ++ "<lambda>")) b=some o:=λn e=>by
  rw [AX (A3 e R),AX n];exact e
 refine k h'.objs.size c' r _ tk R ?_ (Heap.get?_push_size _ rfl) (D _) (EN (Ek v N)) (Heap.size_push ..);refine I.step (g':=s.gens) (d':=s.drawn) (t':=tk) (ch:=[]) (λ_ z=>nomatch z) (λb o n _ _ e F=>G _ b o (λz=>by rw [z,a] at F;cases F) e) (λb o n _ _ e F=>{o.slots,G _ b o (λz=>by rw [z,a] at F;cases F) e}) (λb o _ e n=>?_) (λb o _ e=>?_) (λb xs e=>g (FI e a (by intro z;cases z)) e) (λb o u e=>g (FI e a (by intro z;cases z)) e) (λb qs e=>?_) (λm hm=>(hm.extBut T LP).push _) (λb o e=>?_) I.bare
 .rw [AX (By (CM (jM e) v)),AX (λz=>by rw [z,a] at n;cases n)];exact n
 .by_cases i:b=P
  .exact {_,by rw [i];exact C _}
  .exact {o,G _ b o i e}
 .by_cases i:b=P
  .subst i;rw [a] at e;cases e;exact {_,by rw [AX (A3 a R),upd_same]}
  .exact {#[],by rw [g i e];simp}
 .by_cases U:b=c'
  .subst U;rw [upd_same] at e;cases e;exact ZM (D _)
  .rw [AX U] at e;by_cases i:b=P
   .subst i;rw [upd_same] at e;cases e;exact C _
   .rw [AX i] at e;refine (I.hok b o e).stay (λd u hd w=>G _ d u ?_ w) (λd w=>g (FI w a (by intro z;cases z)) w) λd xs w=>g (FI w a (by intro z;cases z)) w;rintro rfl;rcases hd with z | z
    .exact i z.symm
    .rw [a] at z;cases z
def ZO {a:dc} {s:Shared} {C:L2.St} {H:Hp} {Q:d8} {E:d8} {ps:Array Value} {c':Addr} (I:Inv X a C H s) (g:X.env.code=.ref c) (F:W.CodeHd X.base c P) (w:X.base.BuiltinsAt X.mg P)
  (x:closureFor scope X.env=pure []) (p:defaultsOf params X.env=([],[])) (G:H P=some (.tbl ps)) (J:TriplesOk ps.toList) (K:codeAmong lp ps.toList=↥c') (y:H c'=some (.ext λh=>h.CodeRec (.ref c') (X.env.qual ++ "<lambda>")))
  (k:∀ (f:Addr) (i:Value) (h':Heap) (tk:Nat),Inv X a C H { s with heap:=h',toks:=tk }->h'.get? f=some (W.kla_obj "<lambda>" (X.env.qual ++ "<lambda>") params body scope [] ((X.mg "__name__").getD .none) c' i)->h'.CodeRec (.ref c') (X.env.qual ++ "<lambda>")->⇑s<=f->h'.objs.size=f+1->Q (.ref f) { s with heap:=h',toks:=tk }) :
  wpAny (model X.prog X.w) X.A (eval (.Lambda params body scope lp) X.env) Q E s:=by
 refine W.kla_eval p ?_;let A:s.heap.get? P=some (W.tabObj ps):=I.hok P _ G;refine W.kla_makeFunctionHit (mg:=X.mg) x I.ok.glob (I.mod.glob.keeps I.bk) g (F.keeps I.bk) A J K (w.keeps I.bk) λi h' tk L B=>?_;let j:∀ (D:Obj) b o,s.heap.get? b=some o->(h'.push D).get? b=some o:=λD b o e=>Heap.get?_push_of_some _ (L b o e);refine k h'.objs.size i _ tk ?_ (Heap.get?_push_size _ rfl) (LL (I.hok c' _ y).1 λo e=>j _ _ _ e) B (Heap.size_push ..);exact I.step (g':=s.gens) (d':=s.drawn) (t':=tk) (ch:=[]) (λ_ z=>nomatch z) (λb o n _ _ e M=>j _ b o e) (λb o n _ _ e M=>{o.slots,j _ b o e}) (λb o _ e n=>n) (λb o _ e=>{o,j _ b o e}) (λb N e=>e) (λb o u e=>e) (λb R e=>{#[],by rw [e];simp}) (λm O=>O.keeps (j _)) (λb o e=>(I.hok b o e).stay (λd u S v=>j _ d u v) (λd v=>v) λd N v=>v) I.bare
end
section
variable {X:Cx} {c P:Addr} {e:Expr} {te:TE} {p pos kp lp px pk ps:Pos} {params:Arguments} {scope:Scope} {x:Str} {kk:Nat}
def Oa {A:dc} {S:Shared} {σ:L2.St} {T:Hp} {Q:VK} {f c' l:Addr} {G pm:Value} {h':Heap} {tk:Nat} {j:cZ} {kz:d6} {d:Str} (H:X.A.in1.in1.depth<recursionLimit)
  (g:Inv X A σ T { S with heap:=h',toks:=tk }) (hf:h'.get? f=some (W.kla_obj "<lambda>" d params (.Subscript (.Name x px) (.Constant (.int 1) kk pk) ps) scope [] pm c' G)) (U:h'.CodeRec (.ref c') d) (fL:f≠X.env.locals) (a5:h'.objs.size=f+1)
  (a6:T l^^^j) (an:@j<64) (kl:@kz=@j) (a7:∀ (i:Nat) (u:V) (k:Int),j[i]?=some u->kz[i]?=some k->∃ a y,u=.ref a/\T a&&&[y,.int k])
  (I:∀ (d:Str) (pm:Value) (c' a:Addr) (G:Value),bindArgs (W.kla_fn "<lambda>" d params (.Subscript (.Name x px) (.Constant (.int 1) kk pk) ps) scope [] pm (.ref c') G) ⟨[.ref a],[]⟩=pure [(x,.ref a)])
  (Y:scope.names.lookup x=some .local) (a8:scope.isCoroutine=false) (Z:scope.isGenerator=false) (hk:scope.kind=.function) (J:∀ x∈scope.names,x.2≠.cell) (hd:(x == ("__debug__" : Str))=false)
  (q:∀ (r:Addr) (qs:List (Int×V)),T r=none->qs.Perm (kz.zip j)->qs.Pairwise (λp q=>p.1<=q.1)->Q (.ref r) (upd T r (.lst (qs.map (·.2))))) :
  wpAny (model X.prog X.w) X.A (call (.builtin "sorted") [.ref l] [(Str.ofString "key", .ref f)]) (EP X A σ Q) X.xe { S with heap:=h',toks:=tk }:=by
 let {a9,rv,pl,hz}:=g.list (SqL.of a6);let aa:@j=@a9:=@rv;let {m,hn,_}:=id g.loc;refine ksk_sorted (h₀:=Att.noObjs h') (L:=X.env.locals) (m:=m) (news:=Att.ledger h' X.env.locals X.env.locals) (b:=false) (kz:=kz) (f:=.ref f) (Att.fr_all hn) (λp hp=>?_) pl.isList `a `a (ksk_s1 _ _) (λ_=>ksk_l1 _ _) (λx=>ksk_t1 _ _) (λi v k hv ab h2 ac own F N=>?_) λD h3 af K cc F N lt ko=>?_
 .let {n1,_,e}:=Att.mem_ledger.mp hp;exact {e,n1,Att.noObjs_get _ _}
 .let kb:∀ b o,b≠X.env.locals->h'.get? b=some o->h2.get? b=some o:=λb o n e=>(N (b,o) (Ei _ (Att.mem_ledger.mpr ⟨n,n,e⟩))).1;let {iu,a0}:∃ u,j[i]?=some u:={j[i]'(by have:=(A7.mp hv).1;omega),Ak _};let {a,y,rfl,E}:=a7 i iu k a0 ab;let {v',a1,aj}:=rv.get a0;rw [hv] at a1;cases a1;cases aj;let {ao,ra,pa,_}:=g.tuple (SqT.of E);let {v0,v1,rfl,_,t1,rfl}:=vals2 ra;let aL:a≠X.env.locals:=λz=>by have:=g.free;rw [<-z,E] at this;cases this
  let al:IsTup h2 a [v0,Value.int k t1].toArray:=by
   let {o,e,r}:=pa;exact {o,kb _ _ aL e,r}
  let {c2,oc,vc,tc,ec,M,d1,d2}:=U;cases ec
  let cL:c'≠X.env.locals:=λz=>by
   let {o,es,ep,eo,ed,_}:=hn;rw [z,eo] at M;cases M;rw [ed] at d1;cases d1
  let O:∀ b o,X.base.get? b=some o->h2.get? b=some o:=λb o e=>kb b o (By (CM (jM e) (BK g.ok.bsz g.ok.above))) (g.bk b o e);refine ZE (s:={ S with heap:=h2,toks:=ac }) H (kb _ _ fL hf) {_,oc,vc,tc,2,kb _ _ cL M,d1,d2} (g.mod.nolimit.keeps O) (I _ _ _ _ _) Y a8 Z hk J hd al rfl rfl λh4 ar a2=>?_;exact KskEnd.intro (F.kept a2) (N.grown a2) λ_ hp=>hp
 .let k3:∀ b o,b≠X.env.locals->h'.get? b=some o->h3.get? b=some o:=λb o n e=>(N (b,o) (A6 _ (Att.mem_ledger.mpr ⟨n,n,e⟩))).1;let hD:h3.get? D=some (seqObj "list" K cc):=(N _ (BC ..)).1;let a3:h'.objs.size<=D:=by have:=lt (f,_) (Att.mem_ledger.mpr ⟨fL,fL,hf⟩);rw [a5];exact this
  let R:=g.hok.fresh a3;let {aw,pm,eo,a4}:=ko;let {am,z1,z2}:=ZG rv kz;let {T',pT,eT}:=OV pm _ z1
  let q:=q D (T'.map λt=>(t.1,t.2.1)) R (by rw [z2];exact pT.map _) (by
   rw [D8];rw [eT,D8] at a4;exact a4.imp λh=>by simpa using h)
  refine {.ref _,_,?_,2,q}
  let ov:Vals ((T'.map λt=>(t.1,t.2.1)).map (·.2)) K.toList:=by
   rw [eo,eT,DW,DW];exact ZF λt ht=>am t (pT.mem_iff.mp ht)
  let on:((T'.map λt=>(t.1,t.2.1)).map (·.2)).length=@j:=by
   rw [AI,AI,pT.length_eq,List.length_zip,List.length_zip,<-aa,kl,Nat.min_self,Nat.min_self]
  refine g.step (g':=S.gens) (d':=S.drawn) (t':=af) (ch:=[]) (λ_ z=>nomatch z) (λb o n _ _ e _=>k3 b o n e) (λb o n _ _ e _=>{o.slots,k3 b o n e}) (λb o _ e n=>?_) (λb o _ e=>?_) (λb xs e=>?_) (λb o u e=>?_) (λb ps e=>{#[],?_}) (λm' hm=>?_) (λb o e=>?_) g.bare
  .rw [AX (By (CM (jM e) a3))];exact n
  .by_cases hb:b=X.env.locals
   .let {o',_,_,w,_}:=F.ns;exact {o',by rw [hb];exact w}
   .exact {o,k3 b o hb e}
  .rw [AX (A3 e R)];exact e
  .rw [AX (A3 e R)];exact e
  .rw [AX (A3 e R),e];simp
  .rw [show m'=m from funext λx=>hm.agree hn x];exact F.ns
  .by_cases hb:b=D
   .subst hb;rw [upd_same] at e;cases e;exact {by rw [on];exact hz,K.toList,cc,ov,by simpa using hD}
   .rw [AX hb] at e;refine (g.hok b o e).stay (λc u hc w=>k3 c u ?_ w) (λc w=>?_) λc xs w=>?_
    .rintro rfl;rcases hc with z | z
     .rw [<-z,g.free] at e;cases e
     .rw [g.free] at z;cases z
    .rw [AX (A3 w R)];exact w
    .rw [AX (A3 w R)];exact w
def ZP (g:X.env.code=.ref c) (hC:W.CodeHd X.base c P) (M:X.base.BuiltinsAt X.mg P) (j:X.A.in1.in1.depth<recursionLimit) (hm:X.mg "sorted" = none) (ha:PE X e te)
  (N:closureFor scope X.env=pure []:=by rfl) (C:defaultsOf params X.env=([],[]):=by rfl)
  (m:∀ (O:Str) (pm:Value) (c' a:Addr) (F:Value),bindArgs (W.kla_fn "<lambda>" O params (.Subscript (.Name x px) (.Constant (.int 1) kk pk) ps) scope [] pm (.ref c') F) ⟨[.ref a],[]⟩=pure [(x,.ref a)]:=by intros;rfl)
  (D:scope.names.lookup x=some .local:=by rfl) (R:scope.isCoroutine=false:=by rfl) (E:scope.isGenerator=false:=by rfl) (hk:scope.kind=.function:=by rfl) (w:∀ x∈scope.names,x.2≠.cell:=by decide) (hd:(x == ("__debug__" : Str))=false:=by decide)
  (hg:Gl X "sorted" := by rfl) (hs:starEach [e] X.env=(false,eval e X.env)::starEach [] X.env:=by rfl) (Z:backTo pos (starEach [e] X.env)=(false,eval e X.env)::backTo pos (starEach [] X.env):=by rfl) :
  PE X (.Call (.Name "sorted" p) [e] [⟨some "key", .Lambda params (.Subscript (.Name x px) (.Constant (.int 1) kk pk) ps) scope lp,kp⟩] pos) (Jx (λps c'=>TriplesOk ps.toList/\codeAmong lp ps.toList=↥c') (λc' h=>h.CodeRec (.ref c') (X.env.qual ++ "<lambda>")) P te):=by
 intro S s σ H Q I h;refine wpAny_Call_Name_kw (Es I hg hm LK ?_ `b `b);refine PyProof.Rows.callWith_kw ?_ Z (by rw [Z];rfl);rw [Z];refine Calls.spliced_cons (G_ (ha S s σ H _ I h) λu s1 ⟨y,H1,I1,r1,q1⟩=>Calls.spliced_nil ?_);let {l,us,kz,rfl,hl,T,{kl,U},{tp,G,cs},q}:=q1;cases r1
 let fL:∀ f,⇑s1<=f->f≠X.env.locals:=λf A z=>by
  let {m1,a0,_}:=I1.loc;have:=a0.lt;rw [<-z] at this;exact absurd A (Nat.not_le.mpr this)
 show wpAny _ _ (evalAll ((do let v <-eval (.Lambda params (.Subscript (.Name x px) (.Constant (.int 1) kk pk) ps) scope lp) X.env;standAt pos;pure v)::[])) _ _ s1;rcases cs with rfl | ⟨c',⟨ht,Y⟩,J⟩
 .refine wpAny_evalAll_cons (jI (ZN I1 g hC M N C G trivial rfl λf c' F h' tk fr I2 hf B A K=>jI (wpAny_standAt (jJ (wpAny_evalAll_nil ?_)))))
  let L:∀ {b:Addr} {o:HO},b≠P->H1 b=some o->upd (upd H1 P (.tbl (#[]++#[rawInt lp.line,rawInt lp.col,.ref c']))) c' (.ext λh=>h.CodeRec (.ref c') (X.env.qual ++ "<lambda>")) b=some o:=λn e=>by
   rw [AX (A3 e fr),AX n];exact e
  show wpAny _ _ (call (.builtin "sorted") [.ref l] [(Str.ofString "key", .ref f)]) _ _ _;refine Oa j I2 hf B (fL f A) K (L (FI hl G (by intro z;cases z)) hl) T kl (λi u k hu hk=>?_) m D R E hk w hd λr qs d pm so=>?_
  .let {a,y,e1,e2}:=U i u k hu hk;exact {a,y,e1,L (FI e2 G (by intro z;cases z)) e2}
  .let rc:r≠c':=λz=>by rw [z,upd_same] at d;cases d
   rw [AX rc] at d;let rP:r≠P:=λz=>by rw [z,upd_same] at d;cases d
   rw [AX rP] at d;refine q r qs _ d pm so (λb o n e=>?_) {#[]++#[rawInt lp.line,rawInt lp.col,.ref c'],?_,.inr {c',{TriplesOk_snoc lp.line lp.col (.ref c') [] trivial,?_},?_}} upd_same
   .rw [AX (A3 e d)];exact L n e
   .rw [AX rP.symm,AX (A3 G fr),upd_same]
   .exact codeAmong_snoc [] trivial rfl
   .rw [AX rc.symm,upd_same]
 .refine wpAny_evalAll_cons (jI (ZO I1 g hC M N C G ht Y J λf F h' tk I2 hf B A K=>jI (wpAny_standAt (jJ (wpAny_evalAll_nil ?_)))));show wpAny _ _ (call (.builtin "sorted") [.ref l] [(Str.ofString "key", .ref f)]) _ _ _;refine Oa j I2 hf B (fL f A) K hl T kl U m D R E hk w hd λr qs d pm so=>?_;exact q r qs _ d pm so (λb o n e=>by rw [AX (A3 e d)];exact e) {tp,by rw [AX (A3 G d)];exact G,.inr {c',⟨ht,Y⟩,by rw [AX (A3 J d)];exact J}} upd_same
end
end Bs
namespace Bs
open PySem L2
def Ob:cZ->Hp->VK->Prop:=λb H Q=>∃ (p:Addr) (a:List Bool),b=[.ref p]/\H p^^^(a.map V.bl)/\Q (.bl (a.any id)) H
end Bs
namespace Bs
open PySem PySem.Spec PyProof.Rows L2
def ZQ {X:Cx} (k:X.calm=true):Cl X (.builtin "any") Ob:=λj s J H K L Q I r h=>by
 let {p,a,rfl,hp,q}:=h;let {u,rfl,m}:=EZ r;cases m;let {n,y,f,M}:=I.list (SqL.of hp);let B:=OI y;subst B;refine call_any_walk (wpAny_pyIter_list f.isList {⇑s,[⇑s,p],[⇑s],(a.map Value.bool).toArray.size,9,λi=>a.getD i false,2,Walks.list (A:=X.A.in1) (show X.A.in1.handled=none from I.ok.hd k) ⇑s p (By f.lt) _,{{_,Heap.get?_push_size _ rfl,7},f.isList.push _},?_,λg N C=>?_})
 .intro i v O P R D E
  let e:v=Value.bool (a.getD i false):=by
   let z:(a.map Value.bool)[i]?=some v:=by simpa using D
   rw [Ae] at z;cases w:a[i]? with
   | none=>rw [w] at z;cases z
   | some c=>
     rw [w] at z;rw [AU,w];exact (jL z).symm
  subst e;exact wpAny_truthy_bool E
 .let F:∀ b o,s.heap.get? b=some o->g.get? b=some o:=λb o e=>C b o (λz=>absurd (jM e) (by rw [BM.mp z];exact DV _)) (Heap.get?_push_of_some _ e);refine {.bl (a.any id),H,I.kept F,?_,q};show Value.bool _=Value.bool _;congr 1;rw [Ej];simp only [List.any_eq_true,D7,BI,AI,id];constructor
  .rintro ⟨i,d,h⟩;rw [AU,Ak d] at h;exact {a[i],Cu d,h}
  .rintro ⟨x,G,h⟩;let {i,d,rfl}:=ET G;refine {i,d,?_};rw [AU,Ak d];exact h
end Bs
namespace Bs
open PySem L2
def tMM (C:d6->Int->Prop) (c:TE):TE:=λd H Q=>c d H λx a=>∃ (p:Addr) (b:d6),x=.ref p/\a p^^^(~~~b)/\∀ M:Int,C b M->Q (.int M) a
end Bs
namespace Bs
open PySem PySem.Spec PyProof.Rows L2
section
variable {prog:Program} {w:World} {A:Around} {R:Result->Shared->Prop} {I:Addr} {fp wr:dj} {n:Nat} {P:Nat->Value->Prop} {St:Nat->Heap->Prop} {d:Value} {m:Bool}
def mmE {m:Bool}:entryFor table (cond m "max.loop" "min.loop")=some (cond m Builtin.«max.loop» Builtin.«min.loop»):=by
 cases m
 .exact F.entry_min_loop
 .exact F.entry_max_loop
def mmP {m:Bool}:plainId (cond m "max.loop" "min.loop")=true:=by
 cases m
 .exact F.plain_min_loop
 .exact F.plain_max_loop
def cE:(toString "max" ++ toString ".loop" : String) = "max.loop" := by decide
def cF:(toString "min" ++ toString ".loop" : String) = "min.loop" := by decide
theorem ZR (W:Walks prog w A.in1 I fp wr n P St) (h:Nat->Nat->Bool) (U:∀ i j q,h j q=true->h i q=false->h i j=false) (F:∀ i,h i i=false) (G:CmpOf prog w A.in1 (cond m .Gt .Lt) P h) (S:Addr) (r:S∉fp):∀ (k j q:Nat) (s:Shared) (f:Value) (c:Nat),n - j=k->j<=n->St j s.heap->q<n->(∀ i,i<j->h i q=false)->P q f->
  s.heap.get? S=some { cls:=.type "list", dict:=none,data:=.seq #[f,f] c,slots:=#[] }->
  (∀ q v M N,q<n->(∀ i,i<n->h i q=false)->P q v->(∀ b o,b∉wr->b≠S->s.heap.get? b=some o->M.get? b=some o)->R (.ok (.ret v)) { s with heap:=M,toks:=N })->
  codeAny (model prog w) A (.builtin (cond m "max.loop" "min.loop") ⟨[.ref I,.none,.ref S],[("default", d)]⟩) R s:=by
 intro k
 induction k with
 | zero=>
   intro j q s f c hk hj u X O g H Q;let J:j=n:=by omega
   refine codeAny_builtin mmE ?_;rw [Around.under_plainId mmP _]
   cases m <;> (
    refine jI (m:=seqItems? (.ref S)) (wpAny_seqItems H rfl ?_);refine jI (m:=tryCatch (pyNext (.ref I)) _) (wpAny_tryCatch (W.done s _ _ (J ▸ u) λM N kp=>?_));let a:=kp S _ (λz=>r (W.sub _ z)) H;refine jI (m:=updateSeq S (λ_=>#[])) (wpAny_updateSeq a rfl (jI (wpAny_letGo (jJ ?_))));exact Q q f _ N X (J ▸ O) g λb o x K e=>(Heap.get?_update_other _ _ K.symm).trans (kp b o x e))
 | succ k ih=>
   intro j q s f c hk hj u X O g H Q;let J:j<n:=by omega
   refine codeAny_builtin mmE ?_;rw [Around.under_plainId mmP _]
   cases m <;> (
    refine jI (m:=seqItems? (.ref S)) (wpAny_seqItems H rfl ?_);refine jI (m:=tryCatch (pyNext (.ref I)) _) (wpAny_tryCatch (W.item j s _ _ J u λv M N hP p kp=>?_));let a:=kp S _ (λz=>r (W.sub _ z)) H;refine jI (m:=tryCatch (holding [v,v] (richCompare _ v f >>= _)) _) (wpAny_tryCatch (wpAny_holding (jI (G j q v f _ _ _ hP g ?_))));refine jI (wpAny_holding (wpAny_truthy_bool (jI (wpAny_letGo (jJ ?_)))));cases L:h j q with
    | true=>
      simp only [if_true];refine jI (wpAny_updateSeq a rfl (jI (wpAny_letGo ?_)))
      first | rw [cE] | rw [cF]
      refine jJ {plainId_quiet (by decide +kernel) _,ih (j+1) j _ v _ `a `a (W.frame _ _ _ p λb hb o e=>(Heap.get?_update_other _ _ (λz:S=b=>r (by rw [z];exact hb))).trans e) J (λi Y=>by rcases Nat.lt_succ_iff_lt_or_eq.mp Y with z | z;exact U i j q L (O i z);rw [z];exact F j) hP (Heap.get?_update_self _ a rfl) λZ v' K y B C D E=>?_};exact Q Z v' K y B C D λb o x T e=>E b o x T ((Heap.get?_update_other _ _ T.symm).trans (kp b o x e))
    | false=>
      simp only [Bool.false_eq_true,if_false];refine jI (wpAny_letGo ?_)
      first | rw [cE] | rw [cF]
      exact jJ {plainId_quiet (by decide +kernel) _,ih (j+1) q _ f c `a `a p X (λi Y=>by rcases Nat.lt_succ_iff_lt_or_eq.mp Y with z | z;exact O i z;rw [z];exact L) g a λZ v' K y B C D E=>Q Z v' K y B C D λb o x T e=>E b o x T (kp b o x e)})
def Oc (W:Walks prog w A.in1 I fp wr n P St) (f:Nat->Nat->Bool) (B:∀ i j q,f j q=true->f i q=false->f i j=false) (a:∀ i,f i i=false) (h:CmpOf prog w A.in1 (cond m .Gt .Lt) P f) (S:Addr) (g:S∉fp) {s:Shared} {c:Nat} (k:St 0 s.heap)
  (H:s.heap.get? S=some { cls:=.type "list", dict:=none,data:=.seq #[] c,slots:=#[] })
  (J:∀ v p x,(n=0/\v=d\/∃ q,q<n/\(∀ i,i<n->f i q=false)/\P q v)->(∀ b o,b∉wr->b≠S->s.heap.get? b=some o->p.get? b=some o)->R (.ok (.ret v)) { s with heap:=p,toks:=x }) :
  codeAny (model prog w) A (.builtin (cond m "max.loop" "min.loop") ⟨[.ref I,.none,.ref S],[("default", d)]⟩) R s:=by
 refine codeAny_builtin mmE ?_;rw [Around.under_plainId mmP _]
 cases m <;> (
  refine jI (m:=seqItems? (.ref S)) (wpAny_seqItems H rfl ?_);rcases El n with z | z
  .refine jI (m:=tryCatch (pyNext (.ref I)) _) (wpAny_tryCatch (W.done s _ _ (z ▸ k) λp x kp=>?_));refine jI (wpAny_rule (jJ ?_));exact J d p x (.inl ⟨z,rfl⟩) λb o y _ e=>kp b o y e
  .refine jI (m:=tryCatch (pyNext (.ref I)) _) (wpAny_tryCatch (W.item 0 s _ _ z k λv p x N r kp=>?_));let u:=kp S _ (λz=>g (W.sub _ z)) H;refine jI (m:=updateSeq S (λ_=>#[v,v])) (wpAny_updateSeq u rfl ?_)
   first | rw [cE] | rw [cF]
   refine jJ {plainId_quiet (by decide +kernel) _,ZR W f B a h S g _ 1 0 _ v _ rfl z (W.frame _ _ _ r λb O o e=>(Heap.get?_update_other _ _ (λz:S=b=>g (by rw [z];exact O))).trans e) z (λi X=>by rw [show i=0 by omega];exact a 0) N (Heap.get?_update_self _ u rfl) λQ T U C D E F G=>?_};exact J T U C (.inr ⟨Q,D,E,F⟩) λb o y M e=>G b o y M ((Heap.get?_update_other _ _ M.symm).trans (kp b o y e)))
end
section
variable {X:Cx} {e:Expr} {te:TE} {p pos kp1 kp2:Pos} {kk:Nat}
abbrev aD (i:Int):TE:=tC (.int i)
abbrev aN (s:Sp) (t:TA):TE:=AL s [] E0 t
def ZS {m:Bool} {x:Str} {C:d6->Int->Prop} (R:∀ k M,(k=[]/\M=0\/M∈k/\∀ z∈k,cond m (z<=M) (M<=z))->C k M) (hx:m=true/\x = "max" \/ m=false/\x = "min") (hc:X.calm=true) (hm:X.mg x=none) (hv:bootBuiltins x=some (.builtin (cond m "max" "min"))) (ha:PE X e te) (hg:Gl X x) (J:backTo pos (starEach [e] X.env)=(false,eval e X.env)::backTo pos (starEach [] X.env)):PE X (.Call (.Name x p) [e] [⟨some "default", .Constant (.int 0) kk kp1,kp2⟩] pos) (tMM C te):=by
 rcases hx with ⟨rfl,rfl⟩ | ⟨rfl,rfl⟩ <;> (
  intro r s S H Q I h;refine wpAny_Call_Name_kw (Es I hg hm hv ?_ `b `b);refine PyProof.Rows.callWith_kw ?_ J (by rw [J];rfl);rw [J];refine Calls.spliced_cons (G_ (ha r s S H _ I h) λu s1 ⟨x,T,I1,r1,q1⟩=>Calls.spliced_nil ?_);let kw:PK X [⟨some "default", .Constant (.int 0) kk kp1,kp2⟩] (AB (aD 0) AC):=Vl AG Vk;refine G_ (kw pos r s1 S T (λvs U=>vs=[.int 0]/\U=T) I1 ⟨rfl,rfl⟩) λws d ⟨zs,U,K,rz,ez,eh⟩=>?_;subst ez eh;let {z,rfl,t,rfl}:=EZ rz;let {l,k,rfl,hl,q}:=q1;cases r1;let {f,L,D,Y}:=K.list (SqL.of hl);let a0:@k=@f:=by have:=@L;simpa using this
  first | refine kmb_tree F.kind_max F.plain_max F.entry_max (ZD _ _) ?_ | refine kmb_tree F.kind_min F.plain_min F.entry_min (Yx _ _) ?_
  refine jI (m:=Builtin.Builtins.bindParams _ ["key","default"] 0 {[],[("default", Value.int 0 t)]}) (wpAny_of_eq (a:=[none,some (Value.int 0 t)]) rfl ?_);refine jI (jJ (jI (wpAny_pyIter_list D.isList ?_)));refine jI (wpAny_newObj_type ?_)
  first | rw [cE] | rw [cF]
  let N:l<⇑d:=D.lt;let nS:(d.heap.push { cls:=.type "list_iterator", data:=.fields #[.ref l,.int 0 0] }).objs.size=⇑d+1:=Heap.size_push ..;let W:=Walks.list (prog:=X.prog) (w:=X.w) (A:=X.A.in1) (show X.A.in1.handled=none from K.ok.hd hc) ⇑d l (By N) f.toArray
  first | refine jJ {plainId_quiet (by decide +kernel) _,Oc (m:=true) W _ (λi j q c y=>by let c:=jG c;let y:=of_decide_eq_false y;exact jH `a) (λi=>jH (Int.lt_irrefl _)) (CmpOf.ints_gt (λi=>k.getD i 0) λi v E=>?_) _ ?_ {{_,Heap.get?_push_of_some _ (Heap.get?_push_size _ rfl),7},(D.isList.push _).push _} (Heap.get?_push_size _ rfl) λv g Z B gk=>?_} | refine jJ {plainId_quiet (by decide +kernel) _,Oc (m:=false) W _ (λi j q c y=>by let c:=jG c;let y:=of_decide_eq_false y;exact jH `a) (λi=>jH (Int.lt_irrefl _)) (CmpOf.ints_lt (λi=>k.getD i 0) λi v E=>?_) _ ?_ {{_,Heap.get?_push_of_some _ (Heap.get?_push_size _ rfl),7},(D.isList.push _).push _} (Heap.get?_push_size _ rfl) λv g Z B gk=>?_}
  .let {n,O,c,rfl}:=Jw L (show f[i]?=some v by simpa using E);exact {O,by rw [AU,c];rfl}
  .rw [nS]
   have:¬ (⇑d+1=⇑d\/⇑d+1=l):=λz=>by
    rcases z with z | z
    .exact absurd z (Nat.succ_ne_self _)
    .rw [<-z] at N;exact absurd N (Nat.not_lt.mpr (Nat.le_succ _))
   simpa using this
  .let P:∀ b o,d.heap.get? b=some o->g.get? b=some o:=λb o e=>by
    let G:b<⇑d:=jM e;refine gk b o (λz=>?_) (λz=>?_) (Heap.get?_push_of_some _ (Heap.get?_push_of_some _ e))
    .rw [BM.mp z] at G;exact absurd G (DV _)
    .rw [z,nS] at G;exact absurd G (Nat.not_lt.mpr (Nat.le_succ _))
   let I3:=K.kept (t':=Z) P;rcases B with ⟨z,rfl⟩ | ⟨i,hi,hB,E⟩
   .exact {.int 0,_,I3,⟨t,rfl⟩,q 0 (R _ _ (.inl {CU.mp (by rw [BI] at z;omega),2}))}
   .let {n,O,c,rfl}:=Jw L (show f[i]?=some v by simpa using E);refine {.int n,_,I3,⟨O,rfl⟩,q n (R _ _ (.inr {BT c,λz Y=>?_}))};let {j,hj,rfl}:=ET Y;have:=of_decide_eq_false (hB j (by rw [BI];omega));rw [AU,AU,c,Ak hj] at this;exact Int.not_lt.mp this)
def ZT (b:X.calm=true) (c:X.mg "min" = none) (d:bootBuiltins "min" = some (.builtin "min")) (f:PE X e te) (g:Gl X "min" := by rfl) (i:backTo pos (starEach [e] X.env)=(false,eval e X.env)::backTo pos (starEach [] X.env):=by rfl):PE X (.Call (.Name "min" p) [e] [⟨some "default", .Constant (.int 0) kk kp1,kp2⟩] pos) (LI te):=ZS (m:=false) (C:=λa M=>a=[]/\M=0\/M∈a) (λ_ _ h=>h.imp id And.left) (.inr ⟨rfl,rfl⟩) b c d f g i
end
section
variable {X:Cx} {pins:dc} {σ:L2.St} {H:Hp} {s:Shared} {N:di} {capt:List (Option Nat)} {scope:Scope} {cl:List (Str×Addr)} {C:Addr} {fp:dj}
def LM:TT:=λ_ H Q=>Q true H
def cG (X:Cx) (cs:dh) (tc:TT):Prop:=∀ (pins:dc) (s:Shared) (σ:L2.St) (H:Hp) (Q:Bool->Hp->Prop),Inv X pins σ H s->tc σ H Q->
 wpAny (model X.prog X.w) X.A (forIn cs true λc r=>if r=true then do let ok <-isTrue c X.env (eval c X.env);pure (ForInStep.yield ok) else pure (ForInStep.yield r)) (λb d=>∃ a,Inv X pins σ a d/\Q b a) X.xe s
def Od {X:Cx}:cG X [] LM:=λ_ s _ H _ I h=>wpAny_tests_nil ⟨H,I,h⟩
def Oe {X:Cx} {c:Expr} {tc:TT} (h:L2.PT X c tc):cG X [c] tc:=λpins s σ H Q I q=>wpAny_tests_one (h pins s σ H Q I q)
theorem ZU {prog:Program} {w:World} {A:Around} {R:Result->Shared->Prop} {s:Shared} {y a i:Expr} {cs:dh} {scope:Scope} {E:Pos} {M z:Value} {b:Env} (I:Nat->Shared->Prop)
  (F:∀ n s,I n s->wpAny (model prog w) A (pyNext M) (λr d=>match r with
   | none=>R (.ok .next) d
   | some v=>wpAny (model prog w) A (letOwnedTupleGo a M v) (λ_ j=>wpAny (model prog w) A (assign a b v) (λ_ k=>wpAny (model prog w) A (forIn cs true λc r=>if r=true then do let ok <-isTrue c b (eval c b);pure (ForInStep.yield ok) else pure (ForInStep.yield r)) (λB g=>if B=true then wpAny (model prog w) A (eval y b) (λx o=>
     wpAny (model prog w) A (call (.builtin "list.append") [z,x]) (λ_ p=>∃ m,m<n/\I m p) (λ_ _=>False) o) (λ_ _=>False) g else ∃ m,m<n/\I m g) (λ_ _=>False) k) (λ_ _=>False) j) (λ_ _=>False) d) (λ_ _=>False) s)
  (n:Nat) (h:I n s):codeAny (model prog w) A (.compLoop (.ListComp y [⟨a,i,cs,0⟩] scope E) 0 M z b) R s:=by
 refine codeAny_loop rfl I (λn s P=>?_) n h;show wpAny _ A ((compTurn (.ListComp y [⟨a,i,cs,0⟩] scope E) 0 M z b).onRaise (λx=>do noteFrame x b;theTreesLotGoes x)) _ _ s;refine wpAny_noted ?_;rw [compTurn_list];let D:∀ {Q:d8} (e:Value) (O:Shared),(λ(_:Value) (_:Shared)=>False) e O->Q e O:=λ_ _ f=>f.elim;refine jI (wpAny_standAt (jI (jK (F n s P) (λr d q=>?_) D)));cases r with
 | none=>exact jJ q
 | some v=>
   refine jI (jK q (λ_ j G=>?_) D);refine jI (jK G (λ_ g J=>jI (jK J (λB k u=>?_) D)) D);cases B with
   | false=>exact jJ ⟨rfl,u⟩
   | true=>exact jI (jI (jK u (λx o K=>jI (jK K (λ_ p L=>jJ (jJ ⟨rfl,L⟩)) D)) D))
end
section
variable {X:Cx}
def xI {r:R2} {a:Expr} {c:TE} {n:Int} {j} {q b:Pos} (d:bo X r) (e:PE X a c):PE X (.Subscript a (.Constant (.int n) j q) b) (A_ r c (tC (.int n))):=Bw d e AG (λ_ _=>rfl)
def E_ {i:Nat} {x:Str} {e:Expr} {c:TE} {a b:Pos} (d:X.N.Nodup) (f:PE X e c) (g:X.N[i]?=some x:=by rfl) (h:aY X.env.scope x:=by exact .inl rfl) (j:swapsWith e (some (.Name x a)) b.line X.env=pure false:=by rfl) (k:X.fn x=true\/X.env.scope.names.lookup x=some .local:=by first | exact .inl rfl | exact .inr rfl):PS X (.Assign [.Name x a] e b) (AN c (AE i)):=EX d g h f j k
def cR {c:CmpOp} {r:R2} {a b:Expr} {e f:TE} {d:Pos} (g:OpR X (compareOp c) r) (h:PE X a e) (i:PE X b f) (j:behindInMarks c b=false:=by exact X_ _):L2.PT X (.Compare a [c] [b] d) (Ap (A_ r e f)):=VZ g h i j
variable {n m:Nat} {x:Str} {ps:di} {sp:Sp} {a b c:Expr} {ta tb tc:TE} {p pos:Pos} (C:Cal X.prog X.w X.K X.mg X.base n x ps sp) (hr:Room m X.A)
include C hr
theorem Cal.q1 (e:PE X a ta) (f:n<=m:=by decide) (g:Gl X x:=by rfl) (h:(x == ("__debug__" : Str))=false:=by decide) (d:starEach [a] X.env=(false,eval a X.env)::starEach [] X.env:=by rfl):PE X (.Call (.Name x p) [a] [] pos) (AL sp [] E0 (AB ta AC)):=C.pe hr f g (AD e AK d) h d rfl
theorem Cal.q2 (e:PE X a ta) (f:PE X b tb) (g:n<=m:=by decide) (h:Gl X x:=by rfl) (i:(x == ("__debug__" : Str))=false:=by decide) (d:starEach [a,b] X.env=(false,eval a X.env)::starEach [b] X.env:=by rfl) (j:starEach [b] X.env=(false,eval b X.env)::starEach [] X.env:=by rfl) (hp:(backTo pos (starEach [b] X.env)).any (·.1)=false:=by rfl):PE X (.Call (.Name x p) [a,b] [] pos) (AL sp [] E0 (AB ta (AB tb AC))):=C.pe hr g h (AD e (AD f AK j) d) i d hp
theorem Cal.q3 (e:PE X a ta) (f:PE X b tb) (g:PE X c tc) (h:n<=m:=by decide) (i:Gl X x:=by rfl) (j:(x == ("__debug__" : Str))=false:=by decide) (d:starEach [a,b,c] X.env=(false,eval a X.env)::starEach [b,c] X.env:=by rfl) (k:starEach [b,c] X.env=(false,eval b X.env)::starEach [c] X.env:=by rfl) (o:starEach [c] X.env=(false,eval c X.env)::starEach [] X.env:=by rfl) (hp:(backTo pos (starEach [b,c] X.env)).any (·.1)=false:=by rfl):PE X (.Call (.Name x p) [a,b,c] [] pos) (AL sp [] E0 (AB ta (AB tb (AB tc AC)))):=C.pe hr h i (AD e (AD f (AD g AK o) k) d) j d hp
end
end Bs
namespace Bs
open PySem PySem.W PyProof.Rows
noncomputable def Tw {b:Type} (c:Nat->Nat->Bool) (N:Nat) (Q:b->Prop):KasT b->Prop
 | .ret a=>Q a
 | .ask i j f=>i<N/\j<N/\i≠j/\Tw c N Q (f (c i j))
theorem Tw.bind {b d:Type} {c:Nat->Nat->Bool} {N:Nat} {Q:d->Prop} {R:b->Prop} {f:b->KasT d} (e:∀ a,R a->Tw c N Q (f a)):∀ (t:KasT b),Tw c N R t->Tw c N Q (t.bind f)
 | .ret a,h=>e a h
 | .ask i j g,h=>{h.1,h.2.1,h.2.2.1,Tw.bind e (g (c i j)) h.2.2.2}
theorem Tw.wp {e:Type} {c:Nat->Nat->Bool} {N:Nat} {Q:e->Prop} {G:e->Shared->Prop} {I:Shared->Prop} {b:Nat->Nat->(Bool->Shared->Prop)->Shared->Prop} (f:∀ i j C s,i<N->j<N->i≠j->I s->(∀ d,I d->C (c i j) d)->b i j C s) (k:∀ a s,Q a->I s->G a s):∀ (t:KasT e) (s:Shared),Tw c N Q t->I s->t.kasWp b G s
 | .ret a,s,h,i=>k a s h i
 | .ask i j g,s,h,m=>f i j _ s h.1 h.2.1 h.2.2.1 m λd n=>Tw.wp f k (g (c i j)) d h.2.2.2 n
theorem LN {b:Type} {c:Nat->Nat->Bool} {N:Nat} {Q R:b->Prop} (h:∀ a,R a->Q a):∀ (t:KasT b),Tw c N R t->Tw c N Q t
 | .ret a,x=>h a x
 | .ask i j g,x=>{x.1,x.2.1,x.2.2.1,LN h (g (c i j)) x.2.2.2}
section
variable {k:dq} {N:Nat} {p:Array Nat}
noncomputable def kc (k:dq) (i j:Nat):Bool:=decide (k i<k j)
noncomputable def kp (k:dq) (p:Array Nat) (i:Nat):Int:=k (p.getD i 0)
def So (k:dq) (p:Array Nat) (m:Nat):Prop:=∀ i j,i<j->j<m->kp k p i<kp k p j
def De (k:dq) (p:Array Nat) (m:Nat):Prop:=∀ i j,i<j->j<m->kp k p j<kp k p i
def Pm (N:Nat) (p:Array Nat):Prop:=p.Perm (List.range N).toArray
def Pm.size (h:Pm N p):p.size=N:=by rw [Array.Perm.size_eq h,BI,BZ]
def Pm.lst (h:Pm N p):p.toList.Perm (List.range N):=by have:=Array.Perm.toList h;simpa using this
def IZ {p:Array Nat} {i:Nat} (h:i<p.size):p.getD i 0=p.toList[i]'(by simpa using h):=by simp [Array.getD,h]
def Pm.lt (h:Pm N p) {i:Nat} (a:i<N):p.getD i 0<N:=by
 rw [IZ (by rw [h.size];exact a)];exact D7.mp (h.lst.mem_iff.mp (Cu _))
def Pm.ne (h:Pm N p) {i j:Nat} (a:i<N) (b:j<N) (n:i≠j):p.getD i 0≠p.getD j 0:=by
 rw [IZ (by rw [h.size];exact a),IZ (by rw [h.size];exact b)];intro e;exact n ((List.getElem_inj (h.lst.nodup_iff.mpr List.nodup_range)).mp e)
def LO (h:Pm N p) (a:∀ i j,i<N->j<N->i≠j->k i≠k j) {i j:Nat} (b:i<N) (d:j<N) (n:i≠j) (c:¬ kp k p i<kp k p j):kp k p j<kp k p i:=by
 have:=a _ _ (h.lt b) (h.lt d) (h.ne b d n);unfold kp at *;omega
def So.succ {m:Nat} (h:So k p m) (l:0<m->kp k p (m - 1)<kp k p m):So k p (m+1):=λi j a b=>by
 by_cases c:j<m
 .exact h i j a c
 .let e:j=m:=by omega
  subst e;by_cases d:i=j - 1
  .rw [d];exact l `a
  .exact Int.lt_trans (h i (j - 1) `a `a) (l `a)
def De.succ {m:Nat} (h:De k p m) (l:0<m->kp k p m<kp k p (m - 1)):De k p (m+1):=λi j a b=>by
 by_cases c:j<m
 .exact h i j a c
 .let e:j=m:=by omega
  subst e;by_cases d:i=j - 1
  .rw [d];exact l `a
  .exact Int.lt_trans (l `a) (h i (j - 1) `a `a)
theorem LQ (P:Pm N p) (e:∀ i j,i<N->j<N->i≠j->k i≠k j):∀ (f n:Nat),1<=n->n+f<=N->So k p n->Tw (kc k) N (λm=>n<=m/\m<=n+f/\So k p m/\(m=n+f\/kp k p m<kp k p (m - 1))) (kas_asc p f n)
 | 0,n,_,_,h=>{AT _,AT _,h,.inl rfl}
 | f+1,n,g,o,h=>by
   refine {P.lt `a,P.lt `a,P.ne `a `a `a,?_};show Tw _ _ _ (if kc k _ _=true then _ else _);by_cases c:kp k p n<kp k p (n - 1)
   .rw [jE (show kc k _ _=true from jF c)];exact {AT _,`a,h,.inr c}
   .rw [jD (by unfold kc;rw [decide_eq_true_eq];exact c)];have:=LQ P e f (n+1) `a `a (h.succ λ_=>LO P e `a `a `a c);exact LN (λm ⟨a,b,c,d⟩=>{`a,`a,c,by rcases d with d | d;exact .inl `a;exact .inr d}) _ this
def Jy {p q:Array Nat} {i j:Nat} (h:p[i]?=q[j]?):kp k p i=kp k q j:=by
 unfold kp;rw [Array.getD_eq_getD_getElem?,Array.getD_eq_getD_getElem?,h]
theorem Of (P:Pm N p) (g:∀ i j,i<N->j<N->i≠j->k i≠k j):∀ (f n:Nat),1<=n->n+f<=N->De k p n->Tw (kc k) N (λr=>r.1=p/\r.2.2=0/\n<=r.2.1/\r.2.1<=n+f/\De k p r.2.1) (kas_desc f p n 0)
 | 0,n,_,_,h=>{7,AT _,AT _,h}
 | f+1,n,o,q,h=>by
   refine {P.lt `a,P.lt `a,P.ne `a `a `a,?_};show Tw _ _ _ (if kc k _ _=true then _ else _);by_cases c:kp k p n<kp k p (n - 1)
   .rw [jE (show kc k _ _=true from jF c),jD `b];exact LN (λm ⟨a,b,c,d,e⟩=>{a,b,`a,`a,e}) _ (Of P g f (n+1) `a `a (h.succ λ_=>c))
   .rw [jD (by unfold kc;rw [decide_eq_true_eq];exact c)];refine {P.lt `a,P.lt `a,P.ne `a `a `a,?_};show Tw _ _ _ (if kc k _ _=true then _ else _);rw [jE (show kc k _ _=true from jF (LO P g `a `a `a c))];exact {7,AT _,by show n<=n+(f+1);omega,h}
def Og (P:Pm N p) (n:Nat):Pm N (kas_rev p 0 n):=(mirror_perm _ _ _ _).trans P
def ZV (P:Pm N p) {n:Nat} (a:n<=N) (h:De k p n):So k (kas_rev p 0 n) n:=λi j b c=>by
 let e:∀ i,i<n->kp k (kas_rev p 0 n) i=kp k p (n - 1 - i):=λi d=>Jy (by
  unfold kas_rev;rw [getElem?_mirror_all (by rw [P.size];exact a),jE {Ah _,d},Nat.zero_add])
 rw [e i `a,e j c];exact h _ _ `a `a
def Ct (k:dq) (N:Nat) (r:Nat×Array Nat):Prop:=Pm N r.2/\So k r.2 r.1/\1<=r.1/\r.1<=N
def ZW (P:Pm N p) (d:∀ i j,i<N->j<N->i≠j->k i≠k j) {n:Nat} (e:1<=n) (f:n<=N) (h:De k p n):Tw (kc k) N (Ct k N) (kas_tail3 n N p):=
 Tw.bind (λm ⟨a,b,c,_⟩=>{Og P n,c,`a,`a}) _ (LQ (Og P n) d (N - n) n e `a (ZV P f h))
def ZX (P:Pm N p) (f:∀ i j,i<N->j<N->i≠j->k i≠k j) (h:2<=N):Tw (kc k) N (Ct k N) (kas_count N p):=by
 refine Tw.bind (λm ⟨a,b,c,d⟩=>?_) _ (LQ P f (N - 1) 1 (AT _) `a λi j n h=>by omega);by_cases e:m=N
 .rw [jE (by simpa using e)];exact {P,c,a,`a}
 .rw [jD (by simpa using e)];let o:kp k p m<kp k p (m - 1):=by rcases d with d | d;exact absurd `a e;exact d
  by_cases g:m > 1
  .rw [jE g];refine {P.lt `a,P.lt `a,P.ne `a `a `a,?_};show Tw _ _ _ (if kc k _ _=true then _ else _);rw [jE (show kc k _ _=true from jF (c 0 (m - 1) `a `a))];exact {P,c,a,`a}
  .rw [jD g];let q:m=1:=by omega
   subst q;refine Tw.bind (λr ⟨u,w,x,y,v⟩=>?_) _ (Of P f (N - (1+1)) (1+1) `a `a (De.succ (λi j n h=>by omega) λ_=>o));rw [jD `a,u];exact ZW P f `a `a v
theorem LS (P:Pm N p) (g:∀ i j,i<N->j<N->i≠j->k i≠k j) {q:Nat} (u:q<N) (S:So k p q):∀ (f l r:Nat),l<=r->r<=q->r - l<=f->(∀ i,i<l->kp k p i<kp k p q)->(∀ i,r<=i->i<q->kp k p q<kp k p i)->Tw (kc k) N (λz=>z<=q/\(∀ i,i<z->kp k p i<kp k p q)/\(∀ i,z<=i->i<q->kp k p q<kp k p i)) (kas_place p q f l r)
 | 0,l,r,w,h,x,n,o=>by
   have:l=r:=by omega
   subst this;exact ⟨h,n,o⟩
 | f+1,l,r,w,h,x,n,o=>by
   show Tw _ _ _ (if l ≥ r then _ else _);by_cases c:l ≥ r
   .have:l=r:=by omega
    subst this;rw [jE c];exact ⟨h,n,o⟩
   .rw [jD c];generalize y:(l+r) / 2=m;refine {P.lt `a,P.lt `a,P.ne `a `a `a,?_};show Tw _ _ _ (if kc k _ _=true then _ else _);by_cases d:kp k p q<kp k p m
    .rw [jE (show kc k _ _=true from jF d)];refine LS P g u S f l m `a `a `a n λi a b=>?_;by_cases e:i=m
     .rw [e];exact d
     .exact Int.lt_trans d (S m i `a b)
    .rw [jD (by unfold kc;rw [decide_eq_true_eq];exact d)];let v:=LO P g u `a `a d;refine LS P g u S f (m+1) r `a h `a (λi a=>?_) o;by_cases e:i=m
     .rw [e];exact v
     .exact Int.lt_trans (S i m `a `a) v
theorem Oh (d:∀ i j,i<N->j<N->i≠j->k i≠k j):∀ (f:Nat) (p:Array Nat) (q:Nat),Pm N p->So k p q->q+f=N->Tw (kc k) N (λr=>Pm N r/\So k r N) (kas_bin f p q)
 | 0,p,q,P,S,e=>{P,by rw [<-e];exact S}
 | f+1,p,q,P,S,e=>by
   refine Tw.bind (λz ⟨u,m,n⟩=>?_) _ (LS P d `a S q 0 q (Ah _) (AT _) `a (λi h=>by omega) λi a b=>by omega);refine Oh d f _ (q+1) ((bubble_perm _ _ _).trans P) (λi j o v=>?_) `a
   let g:∀ i,kp k (bubble p q (q - z)) i=if i=z then kp k p q else if z<i/\i<=q then kp k p (i - 1) else kp k p i:=λi=>by
    let b:=getElem?_bubble (xs:=p) (src:=q) (by rw [P.size];omega) (q - z) `a i;rw [show q - (q - z)=z by omega] at b;split at b
    .rw [jE (by assumption)];exact Jy b
    .rw [jD (by assumption)];split at b
     .rw [jE (by assumption)];exact Jy b
     .rw [jD (by assumption)];exact Jy b
   rw [g i,g j];by_cases a:i=z
   .rw [jE a,jD `a,jE `a];exact n _ `a `a
   .rw [jD a];by_cases b:j=z
    .rw [jE b,jD `a];exact m _ `a
    .rw [jD b];split
     .rw [jE `a];exact S _ _ `a `a
     .split
      .by_cases c:i=j - 1
       .omega
       .exact S _ _ `a `a
      .exact S _ _ `a `a
def ZY (a:∀ i j,i<N->j<N->i≠j->k i≠k j) (b:2<=N):Tw (kc k) N (λr=>Pm N r/\So k r N) (kas_sort N):=by
 refine Tw.bind (λr ⟨P,S,d,f⟩=>?_) _ (ZX (Array.Perm.refl _) a b);rw [show max r.1 1=r.1 by omega];by_cases c:r.1<N
 .rw [jE c];exact Oh a _ _ _ P S `a
 .rw [jD c];let e:r.1=N:=by omega
  rw [e] at S;exact ⟨P,S⟩
end
end Bs
namespace Bs
open PySem PySem.Spec PySem.Calls PySem.W PyProof.Rows L2
section
variable {prog:Program} {w:World} {A:Around} {E:d8} {s:Shared}
def ZZ {a:Addr} {e:Nat} {vs:d7} {P:PySem.Fin->Shared->Prop} (j:s.heap.get? a=some (seqObj "list" vs.toArray e)) (p:@vs<2)
  (h:∀ k c,(∀ b o,b≠a->s.heap.get? b=some o->k.get? b=some o)->k.get? a=some (seqObj "list" vs.toArray c)->P (.done (.ret .none)) { s with heap:=k }) :
  wpAny (model prog w) A (Builtin.«list.sort» ⟨[.ref a],[]⟩) P E s:=by
 rw [list_sort_plain];let v:a<⇑s:=jM j;refine jI (listItems_at j rfl ?_);refine jI (listUpdate_at j rfl ?_ (by rw [BI,sizeLine_eq];omega) (Ah _));let {m,g}:∃ m,(s.heap.update a (Obj.mapSeq λ_=>#[])).get? a=some (seqObj "list" #[] m):={_,get?_update_seq j (λ_=>#[])};refine jI (seqEpoch_at g rfl ?_);refine jI (wpAny_newTuple ?_ (by show @vs<=_;rw [sizeLine_eq];omega));refine jI (wpAny_newList ?_ (Ah _));refine wpAny_holding ?_;let d:(((s.heap.update a (Obj.mapSeq λ_=>#[])).push (seqObj "tuple" vs.toArray 0)).push (seqObj "list" #[] 0)).get? a=some (seqObj "list" #[] m):=Heap.get?_push_of_some _ (Heap.get?_push_of_some _ g);show wpAny (model prog w) A _ P E { s with heap:=((s.heap.update a (Obj.mapSeq λ_=>#[])).push (seqObj "tuple" vs.toArray 0)).push (seqObj "list" #[] 0) };dsimp only;let i:vs.toArray.size<2:=by rw [BI];exact p
 rw [jE i,jE i];refine jI (jJ ?_);rw [StateT.run_pure];refine jI (jJ ?_);dsimp only
 let r:(arrOf (SortSt.mk' general' (vs.toArray.zip vs.toArray) #[] 7 none)).map (·.2)=vs.toArray:=by
  show (vs.toArray.zip vs.toArray).map (·.2)=vs.toArray;apply Array.toList_inj.mp;simp [List.map_snd_zip]
 refine jI (seqEpoch_at d rfl ?_);rw [r];refine jI (listUpdate_at d rfl ?_ (Ah _) (by show vs.toArray.size<=_;rw [BI,sizeLine_eq];omega));simp only [bne_self_eq_false,Bool.false_eq_true,if_false];let {c,u}:∃ c,((((s.heap.update a (Obj.mapSeq λ_=>#[])).push (seqObj "tuple" vs.toArray 0)).push (seqObj "list" #[] 0)).update a (Obj.mapSeq λ_=>vs.toArray)).get? a=some (seqObj "list" vs.toArray c):={_,get?_update_seq d (λ_=>vs.toArray)};exact jJ (h _ c (λb o n q=>(Heap.get?_update_other _ _ (Ne.symm n)).trans (Heap.get?_push_of_some _ (Heap.get?_push_of_some _ ((Heap.get?_update_other _ _ (Ne.symm n)).trans q)))) u)
def Zb (as:dj):((List.range @as).toArray.toList.map λi=>(as.map Value.ref).getD i Value.none)=as.map Value.ref:=by
 apply FC;intro i;simp only [Ae,List.getD];rcases BY i @as with h | h
 .simp [h]
 .simp [h]
end
theorem Oi:∀ l:dj,Vals (l.map V.ref) (l.map Value.ref)
 | []=>.nil
 | _::l=>.cons rfl (Oi l)
end Bs
namespace Bs
open PySem L2
def Gc (K:W.Frag) (d:TE):TI:=λe H R=>d e H λx b=>∃ a,x=.ref a/\((∃ c,SqL K b a c)/\R (ai K a) b\/(∃ c,SqT K b a c)/\R (aE K a) b)
def Zc {K:W.Frag} {a:Addr} {i:Nat} {xs:cZ} {g:TG} {f rest:TS} {D:Ends} {b:L2.St} {H:Hp} (c:H a&&&xs\/H a^^^xs) (o:b[i]?=some (↥a)) (Pv:Nat->L2.St->Hp->Prop) (h:Pv 0 b H) (j:∀ i b d,Pv i b d->d a=H a)
  (k:∀ i x b H,xs[i]?=some x->Pv i b H->g x b H λe q=>f { D with nx:=Pv (i+1),ct:=Pv (i+1),bk:=rest D } e q) (n:∀ b H,Pv @xs b H->rest D b H):AH (BH (Gc K (AA i)) g f) rest D b H:=by
 refine {_,o,a,2,?_};rcases c with c | c
 .exact .inr {{_,SqT.of c},ForT.by (D:={ D with nx:=rest D }) Pv h (λi b d _ p=>(j i b d p).trans c) k n}
 .exact .inl {{_,SqL.of c},ForL.by (D:={ D with nx:=rest D }) Pv h (λi b d _ p=>SqL.of ((j i b d p).trans c)) k n}
def Zd {K:W.Frag} {a:Addr} {i:Nat} {xs:cZ} {capt:List (Option Nat)} {g:TG} {j:TE} {f:L2.St} {H:Hp} {Q:VK} (d:H a&&&xs\/H a^^^xs) (o:f[i]?=some (↥a)) (W:Nat->cZ->Hp->Prop) (k:W 0 [] H) (e:∀ i b c,W i b c->i<=@xs/\@b<=sizeLine/\c a=H a)
  (m:∀ i x b H,xs[i]?=some x->W i b H->g x (Cy capt f) H λh q=>j h q λy r=>W (i+1) (b++[y]) r) (n:∀ b H,W @xs b H->∀ p,H p=none->Q (.ref p) (upd H p (.lst b))):Bk (Gc K (AA i)) capt g j f H Q:=by
 refine {_,o,a,2,?_};rcases d with d | d
 .exact .inr {{_,SqT.of d},CompJ.tup W k (λi b c p=>{(e i b c p).1,(e i b c p).2.1,(e i b c p).2.2.trans d}) m n}
 .exact .inl {{_,SqL.of d},CompJ.lst W k (λi b c p=>{(e i b c p).1,(e i b c p).2.1,SqL.of ((e i b c p).2.2.trans d)}) m n}
end Bs
namespace Bs
open PySem PySem.Spec PyProof.Rows L2
def LU {X:Cx} {r:Expr} {l:Expr} {m:TE} (u:PE X l m):PI X r l (Gc X.K m):=by
 intro c s w H R I h;refine G_ (u c s w H _ I h) λv d ⟨x,i,f,y,j⟩=>?_;let {a,e,j}:=j;subst e;cases y
 let n:∀ b,b∈[⇑d]->Df X c i b:=λb z=>by
  rw [BM.mp z];exact f.fpOk (AT _) (f.hok.fresh (AT _))
 rcases j with ⟨⟨A,k⟩,q⟩ | ⟨⟨A,k⟩,q⟩
 .let {g,B,p,C}:=f.list k;refine wpAny_pyIter_list p.isList ?_;exact {⇑d,[⇑d],9,i,2,f.kept (t':=d.toks) λb o e=>Heap.get?_push_of_some _ e,NV a _,{_,Heap.get?_push_size _ rfl,7},n,q}
 .let {g,B,p,C}:=f.tuple k;refine wpAny_pyIter_tuple (show d.heap.IsTuple a g.toArray from p) ?_;exact {⇑d,[⇑d],9,i,2,f.kept (t':=d.toks) λb o e=>Heap.get?_push_of_some _ e,NW a _,{_,Heap.get?_push_size _ rfl,7},n,q}
noncomputable def own:Option Str->Addr->List (Str×Addr)
 | none,_=>[]
 | some x,c=>[(x,c)]
noncomputable def pO:Option Str->Heap->Heap
 | none,h=>h
 | some _,h=>h.push { cls:=.type "cell", data:=.cell none }
noncomputable def B6 (X:Cx) (N:di) (a:Scope) (xo:Option Str) (e:List (Str×Addr)) (C:Addr) (s:Shared) (H:Hp) (f:dj):Cx:=
 { X with N:=N,s₀:=s,H₀:=H,env:=compEnvC a (own xo (C+1)++e) C X.env,outer:=X.stack,stack:=X.stack,ex:=f,fn:=λy=>xo == some y,pn:=[],xe:=λ_ _=>False }
structure BlkOk1 (X:Cx) (N:di) (capt:List (Option Nat)) (scope:Scope) (xo:Option Str) (cl:List (Str×Addr)):Prop where
 kind:scope.kind=.function
 clos:closureFor scope X.env=pure cl
 one:∀ n,cellsFrom n scope.names cl=own xo n++cl/\∀ h:Heap,pushCells h scope.names=pO xo h
 names:∀ y∈scope.names,y.2=.local->scope.names.lookup y.1=some .local
 cells:∀ y c,cl.lookup y=some c->X.env.cells.lookup y=some c
 has:∀ y,((relabel scope X.env).names.lookup y=some .cell\/(relabel scope X.env).names.lookup y=some .free)->xo=some y\/∃ c,cl.lookup y=some c
 cap:∀ (i:Nat) (x:Str) (j:Nat),N[i]?=some x->capt[i]?=some (some j)->X.N[j]?=some x/\bU X.env.scope x/\X.env.kindOf x≠some .local/\((relabel scope X.env).names.lookup x=some .cell\/(relabel scope X.env).names.lookup x=some .free)/\xo≠some x
 len:↑capt=@N
theorem Hb {xo:Option Str} {x:Str} {a c:Addr} {b:List (Str×Addr)} (h:List.lookup x (own xo a++b)=some c):xo=some x/\c=a\/b.lookup x=some c:=by
 cases xo with
 | none=>exact .inr h
 | some y=>
   let h:List.lookup x ((y,a)::b)=some c:=h;rw [List.lookup_cons] at h;cases e:x == y with
   | true=>
     rw [e] at h;exact .inl {by rw [eq_of_beq e],(jL h).symm}
   | false=>
     rw [e] at h;exact .inr h
theorem Oj {xo:Option Str} {x:Str} {a:Addr} {b:List (Str×Addr)} (h:xo≠some x):List.lookup x (own xo a++b)=b.lookup x:=by
 cases xo with
 | none=>rfl
 | some y=>
   show List.lookup x ((y,a)::b)=_;rw [List.lookup_cons,beq_eq_false_iff_ne.mpr λe=>h (by rw [e])]
def look_at {x:Str} {a:Addr} {b:List (Str×Addr)}:List.lookup x (own (some x) a++b)=some a:=by
 show List.lookup x ((x,a)::b)=_;rw [List.lookup_cons,beq_self_eq_true]
def Ze {M:Model} {A:Around} {E:d8} {s:Shared} {a:Scope} {globals:Addr} {k:List (Str×Addr)} {c:Str} {f:Env} {xo:Option Str} {Q:Env->Shared->Prop}
  (one:∀ n,cellsFrom n a.names k=own xo n++k/\∀ h:Heap,pushCells h a.names=pO xo h)
  (u:∀ m,m.Ns ⇑s (λ_=>none)->(∀ x,xo=some x->m.IsCell (⇑s+1) none)->(∀ b o,s.heap.get? b=some o->m.get? b=some o)->
   Q (newEnv a ⇑s globals (own xo (⇑s+1)++k) c none .none (some f) builtinsNs) { s with heap:=m }) :
  wpAny M A (newFunctionEnv a globals k [] c none .none (some f)) Q E s:=by
 simp only [newFunctionEnv,Option.isSome_some,if_true];refine jI (wpAny_alloc ?_);refine jI (wpAny_layCells _ (λr i p=>by cases q:i == NameKind.cell <;> simp [q]) _ _ _ _ ?_);let z:(s.heap.push { cls:=.type "dict", data:=.dict #[] }).objs.size=⇑s+1:=Heap.size_push ..;rw [show ({ s with heap:=s.heap.push { cls:=.type "dict", data:=.dict #[] } }:Shared).heap.objs.size=⇑s+1 from z,(one _).1,(one 0).2];refine jJ (u (pO xo (s.heap.push { cls:=.type "dict", data:=.dict #[] })) ?_ (λx e=>?_) λb o e=>?_)
 .cases xo with
  | none=>exact Heap.Ns.new s.heap (.type "dict")
  | some x=>exact (Heap.Ns.new s.heap (.type "dict")).keeps λb o e=>Heap.get?_push_of_some _ e
 .subst e;exact {_,by rw [<-z];exact Heap.get?_push_size _ rfl,2}
 .cases xo with
  | none=>exact Heap.get?_push_of_some _ e
  | some x=>exact Heap.get?_push_of_some _ (Heap.get?_push_of_some _ e)
section
variable {X:Cx} {pins:dc} {σ:L2.St} {H:Hp} {s:Shared} {N:di} {capt:List (Option Nat)} {scope:Scope} {xo:Option Str} {cl:List (Str×Addr)} {C:Addr} {fp:dj}
def Ol (B:BlkOk1 X N capt scope xo cl) (I:Inv X pins σ H s) (g:∀ b∈fp,Df X pins H b) (n:∀ b∈fp,b<⇑s) (d:⇑s<=C):(B6 X N scope xo cl C s H fp).Ok where
 mod:=I.ok.mod
 kind:=B.kind
 glob:=I.ok.glob
 blt:=I.ok.blt
 above:=d
 inj:=λx y c k m=>by
  let f:∀ z,cl.lookup z=some c->c≠C+1:=λz e q=>by
   let {v,r}:=I.cell z c (B.cells z c e)
   exact absurd (CM r.lt d) (by rw [q];exact Nat.not_lt.mpr (Nat.le_succ _))
  rcases Hb k with ⟨i,u⟩ | i <;> rcases Hb m with ⟨j,w⟩ | j
  .exact jL (i.symm.trans j)
  .exact absurd u (f y j)
  .exact absurd w (f x i)
  .exact I.ok.inj x y c (B.cells x c i) (B.cells y c j)
 has:=λx h=>by
  by_cases e:xo=some x
  .subst e;exact {_,look_at}
  .let {c,A}:=(B.has x h).resolve_left e
   exact {c,(Oj e).trans A}
 cab:=λx c k m=>by
  let e:xo=some x:=eq_of_beq k
  subst e
  have:some (C+1)=some c:=look_at.symm.trans m
  cases this
  exact BK d (Nat.le_succ _)
 hd:=I.ok.hd
 frames:=I.ok.frames
 stk:=.inl rfl
 exf:=λb a=>{λe=>absurd (CM (n b a) d) (by rw [show b=C from e];exact DV _),λx c e=>by
  rcases Hb e with ⟨_,q⟩ | e
  .intro z;let p:=n b a;rw [<-z,q] at p;exact absurd (CM p d) (Nat.not_lt.mpr (Nat.le_succ _))
  .exact (g b a).2.2.2.2.1 x c (B.cells x c e)}
 bs:=I.bs
 bsz:=BK I.ok.bsz I.sz
 noex:=λb o e a=>by
  rcases (g b a).2.2.2.1 with z | z
  .exact I.ok.noex b o e z
  .exact absurd (CM (jM e) (BK I.ok.bsz z)) (DV _)
 exfs:=λb a D=>by
  rcases CP.mp (I.stkSub b D) with z | z
  .exact (g b a).2.1 z
  .exact (g b a).2.2.1 z
 funs:=I.stack
 frf:=I.stkFree
 seer:=I.ok.seer
 tree:=I.ok.tree
 plr:=I.ok.plr
theorem On (B:BlkOk1 X N capt scope xo cl) (I:Inv X pins σ H s) {k:Heap} (hk:∀ x c o,X.env.cells.lookup x=some c->s.heap.get? c=some o->∃ d,k.get? c=some d/\d.data=o.data) {i:Nat} {x:Str} {v:V} {m:de} (z:N[i]?=some x) (A:(Cy capt σ)[i]?=some (some v)) :
  ∃ u,RelV v u/\bV (compEnvC scope (own xo (C+1)++cl) C X.env) k m x u:=by
 let a:(capt.map λo=>o.bind λj=>(σ[j]?).join)[i]?=some (some v):=A;rw [Ae] at a;cases f:capt[i]? with
 | none=>rw [f] at a;cases a
 | some o=>
   rw [f] at a;cases o with
   | none=>cases a
   | some j=>
     let e:(σ[j]?).join=some v:=jL a;let {c1,D,E,n,p}:=B.cap i x j z f
     let F:σ[j]?=some (some v):=by
      cases q:σ[j]? with
      | none=>rw [q] at e;cases e
      | some w=>rw [q] at e;exact congrArg some e
     let {O,_,G}:=I.loc;let {u,r,l}:=G j x v c1 F D;refine {u,r,.inr {n,?_}};rcases l with ⟨l,_⟩ | ⟨_,c,y,J⟩
     .exact absurd l E
     .let {K,b}:=(B.has x n).resolve_left p;have:=B.cells x K b;rw [y] at this;cases this;let {o,L,M}:=J;let {d,g,h}:=hk x c o y L;exact {c,(Oj p).trans b,d,g,h.trans M}
def Zf (B:BlkOk1 X N capt scope xo cl) (I:Inv X pins σ H s) (j:∀ b∈fp,Df X pins H b) (k:∀ b∈fp,b<⇑s) (d:⇑s<=C) {a:Heap} {m:de} {tk:Nat}
  (n:a.Ns C m) (r:∀ x,xo=some x->a.IsCell (C+1) none) (hk:∀ b o,s.heap.get? b=some o->a.get? b=some o):Inv (B6 X N scope xo cl C s H fp) [] (Cy capt σ) H { s with heap:=a,toks:=tk } where
 ok:=Ol B I j k d
 os:=rfl
 bare:=I.bare
 base:=Un.kept hk
 loc:={m,n,λi x v u w A=>On B I (λ_ c o _ f=>{o,hk c o f,2}) u w}
 cell:=λx c e=>by
  rcases Hb e with ⟨z,q⟩ | e
  .rw [q];exact {none,r _ z}
  .let {v,o,f,y}:=I.cell x c (B.cells x c e);exact {v,o,hk c o f,y}
 free:=I.hok.fresh d
 freeC:=λx c e=>by
  rcases Hb e with ⟨_,q⟩ | e
  .rw [q];exact I.hok.fresh (BK d (Nat.le_succ _))
  .exact I.freeC x c (B.cells x c e)
 pin:=λp hp=>nomatch hp
 hok:=I.hok.kept hk
 len:=by show (capt.map _).length=@N;rw [AI];exact B.len
def Oo {e:L2.St} {f:Hp} {g:Shared} {a:dc} (B:BlkOk1 X N capt scope xo cl) (I:Inv X pins σ H s) (j:∀ b∈fp,Df X pins H b) (d:Inv (B6 X N scope xo cl C s H fp) a e f g):Inv (B6 X N scope xo cl C s H fp) a (Cy capt σ) f g:=
 {d.ok,d.os,d.bare,d.base,by
  let {m,k,_}:=d.loc;refine {m,k,λi x v n p u=>On B I (λy c o h q=>?_) n p};let {w,hk}:=d.base.any q (I.freeC y c h) λr=>(j c r).2.2.2.2.1 y c h rfl;exact {_,hk,2},d.cell,d.free,d.freeC,d.pin,d.hok,by show (capt.map _).length=@N;rw [AI];exact B.len}
def BlkOk1.of (k:scope.kind=.function) (c:closureFor scope X.env=pure cl) (o:∀ n,cellsFrom n scope.names cl=own xo n++cl/\∀ h:Heap,pushCells h scope.names=pO xo h) (p:(scope.names.all λy=>y.2 != .local || scope.names.lookup y.1 == some .local)=true)
  (cs:∀ a∈cl,X.env.cells.lookup a.1=some a.2) (r:((relabel scope X.env).names.all λa=>(a.2 != .cell && a.2 != .free) || xo == some a.1 || (cl.lookup a.1).isSome)=true)
  (u:((List.range @N).all λi=>match N[i]?,capt[i]? with
   | some x,some (some j)=>X.N[j]? == some x && (X.env.scope.names.lookup x == some .cell || X.env.scope.names.lookup x == some .free) && ((relabel scope X.env).names.lookup x == some .cell || (relabel scope X.env).names.lookup x == some .free) && xo != some x
   | _,_=>true)=true) (v:↑capt=@N):BlkOk1 X N capt scope xo cl where
 kind:=k
 clos:=c
 one:=o
 names:=λy w e=>by
  let z:=Fh.mp p y w;rw [e] at z;simpa using z
 cells:=λy c h=>cs (y,c) (Jr h)
 has:=λy h=>by
  let m:∃ d,(y,d)∈(relabel scope X.env).names/\(d=.cell\/d=.free):=by
   rcases h with h | h
   .exact {_,Jr h,.inl rfl}
   .exact {_,Jr h,.inr rfl}
  let {d,m,e}:=m;let z:=Fh.mp r _ m;rcases (Bool.or_eq_true _ _).mp z with z | z
  .rcases (Bool.or_eq_true _ _).mp z with z | z
   .rcases e with rfl | rfl <;> exact absurd z Cg
   .exact .inl (eq_of_beq z)
  .exact .inr (Option.isSome_iff_exists.mp z)
 cap:=λi x j f A=>by
  let li:i<@N:=(A7.mp f).1;let z:=Fh.mp u i (D7.mpr li);rw [f,A] at z;simp only [Bool.and_eq_true,Bool.or_eq_true,beq_iff_eq,bne_iff_ne] at z;let {{{B,b},D},E}:=z;refine {B,.inr b,λq=>?_,D,E};let g:X.env.scope.names.lookup x=some .local:=q;rcases b with b | b <;> (rw [b] at g;cases g)
 len:=v
def LV {a4 E tg:Expr} {cs:dh} {tc:TT} {aa:Pos} {wi:TI} {g:TG} {te:TE} {pins:dc} {s:Shared} {σ:L2.St} {H:Hp} {Q:VK} (RR:Value->Addr->Result->Shared->Prop) (hc:X.calm=true) (B:BlkOk1 X N capt scope xo cl) (hi:PI X tg E wi)
  (hg:∀ C s H fp,PG (B6 X N scope xo cl C s H fp) tg g) (ht:∀ C s H fp,cG (B6 X N scope xo cl C s H fp) cs tc) (he:∀ C s H fp,PE (B6 X N scope xo cl C s H fp) a4 te) (I:Inv X pins σ H s) (h:Ed wi capt g tc te σ H Q)
  (bc:∀ (D C:Addr) (Z:Shared) (Hq:Hp) (m:de),Inv X pins σ Hq Z->Q (.ref D) Hq->Z.heap.Ns C m->Hq C=none->C≠X.env.locals->X.s₀.heap.objs.size<=C->(∀ x c,X.env.cells.lookup x=some c->c≠C)->(∀ p∈X.pn++pins,p.1≠C)->RR (.ref D) C (.ok .next) Z) :
  wpAny (model X.prog X.w) X.A (eval E X.env) (λx ab=>wpAny (model X.prog X.w) X.A (pyIter x) (λit ac=>wpAny (model X.prog X.w) X.A (newList []) (λaf aj=>
   wpAny (model X.prog X.w) X.A (newFunctionEnv scope X.env.globals cl [] X.env.qual none .none (some X.env)) (λa0 al=>
    codeAny (model X.prog X.w) X.A (.compStart (.ListComp a4 [⟨tg,E,cs,0⟩] scope aa) 0 it af { a0 with scope:=relabel scope X.env }) (RR af a0.locals) al) X.xe aj) X.xe ac) X.xe ab) X.xe s:=by
 refine G_ (hi pins s σ H _ I h) λv s1 h1=>G_ h1 λbr d h2=>?_;let {it,fp,tn,J,O,e,F,T,a5,U,n0,W,w0,am}:=h2;subst e;let fl:∀ b∈fp,b<⇑d:=λb a=>by let {o,e,_}:=T.obj _ _ a5 b a;exact jM e
 refine wpAny_newObj_type (Ze B.one λK w A j=>?_);dsimp only at w A j ⊢;generalize hG:d.heap.push { cls:=.type "list", dict:=none,data:=.seq ([]:d7).toArray }=G at w A j ⊢;let hC:G.objs.size=⇑d+1:=by rw [<-hG,Heap.size_push]
 let L:⇑d<=G.objs.size:=by rw [hC];exact Nat.le_succ _
 let a6:⇑d≠G.objs.size:=by rw [hC];exact By (Dv _)
 let a7:∀ b o,d.heap.get? b=some o->K.get? b=some o:=λb o e=>j b o (hG ▸ Heap.get?_push_of_some _ e);let an:K.get? ⇑d=some { cls:=.type "list", data:=.seq ([]:d7).toArray }:=j _ _ (hG ▸ Heap.get?_push_size _ rfl);let a8:=Ol B F U fl L
 let bd:⇑d∉aA X.stack:=λa=>by
  rcases CP.mp (F.stkSub _ a) with z | z
  .exact absurd F.lt (by rw [<-z];exact DV _)
  .exact F.nofs (AT _) z
 let bf:∀ x c,List.lookup x (own xo (G.objs.size+1)++cl)=some c->c≠⇑d:=λx c e z=>by
  rcases Hb e with ⟨_,rfl⟩ | e
  .rw [hC] at z;exact absurd z (Nat.ne_of_gt (Nat.lt_succ_of_lt (Dv _)))
  .let {v,q}:=F.cell x c (B.cells x c e);exact absurd q.lt (by rw [z];exact DV _)
 let ao:∀ b∈fp,⇑d≠b:=λb a z=>absurd (fl b a) (by rw [<-z];exact DV _);let ar:Inv (B6 X N scope xo cl G.objs.size d O fp) [] (Cy capt σ) O { d with heap:=K,toks:=d.toks }:=Zf B F U fl L w A a7
 let a3:codeAny (model X.prog X.w) X.A (.compLoop (.ListComp a4 [⟨tg,E,cs,0⟩] scope aa) 0 (.ref it) (.ref ⇑d) (compEnvC scope (own xo (G.objs.size+1)++cl) G.objs.size X.env))
   (RR (.ref ⇑d) G.objs.size) { d with heap:=K,toks:=d.toks }:=by
  refine ZU (λn s'=>∃ (i:Nat) (Y:cZ) (f:d7) (k:Nat) (P:Hp),Inv (B6 X N scope xo cl G.objs.size d O fp) [] (Cy capt σ) P s'/\s'.heap.get? ⇑d=some { cls:=.type "list", data:=.seq f.toArray k }/\Vals Y f/\
   P ⇑d=none/\tn i s'.heap/\(∀ b∈fp,P b=none)/\W i Y P/\n=n0 - i) ?_ n0 {0,[],[],0,O,ar,an,.nil,F.hok.fresh (AT _),T.keep _ _ _ a5 (λb _ o e=>a7 b o e),λb a=>(U b a).1,w0,2}
  rintro n s3 ⟨i,Y,f,k,P,I3,hD,hv,nD,aw,b0,w3,en⟩;let {_,hl,b1}:=am i Y P w3;let hz:f.toArray.size<=sizeLine:=by rw [BI,<-@hv];exact hl
  let b2:Inv (B6 X N scope xo cl G.objs.size d O fp) [(⇑d,{ cls:=.type "list", data:=.seq f.toArray k })] (Cy capt σ) P s3:=I3.pins_of λp hp=>by
   rw [BM] at hp;subst hp;exact {hD,nD,a6,bd,λv z=>nomatch z}
  let a9:∀ {Hx:Hp} (_:∀ b∈fp,Hx b=none),∀ b∈fp,Df (B6 X N scope xo cl G.objs.size d O fp) [(⇑d,{ cls:=.type "list", data:=.seq f.toArray k })] Hx b:=λhx b a=>
   {hx b a,(a8.exf b a).1,a8.exfs b a,.inl a,(a8.exf b a).2,λp hp=>by
    let b3:p∈[((⇑d,{ cls:=.type "list", data:=.seq f.toArray k }):Addr×Obj)]:=hp;rw [BM] at b3;subst b3;exact ao b a}
  rcases b1 with ⟨b4,q⟩ | ⟨bs,go,bg⟩
  .refine G_ (T.done (B6 X N scope xo cl G.objs.size d O fp) rfl rfl rfl hc i _ s3 _ P _ b2 (a9 b0) aw b4) λr Z ⟨hr,I4⟩=>?_;subst hr;let bi:=(I4.pin (⇑d,{ cls:=.type "list", data:=.seq f.toArray k }) (Ch _ (BM.mpr rfl))).1;let {m,hn,_}:=I4.loc;let R:∀ b u,P b=some u->b≠⇑d:=λb u e z=>by rw [z,nD] at e;cases e
   let b6:∀ b o,d.heap.get? b=some o->b≠⇑d:=λb o e=>By (jM e);let ub:Un (aA X.stack) fp O P d.heap Z.heap:=I4.base;let cC:∀ b,b<⇑d->b≠G.objs.size:=λb a z=>absurd (CM a L) (by rw [z];exact DV _)
   refine bc _ G.objs.size Z (upd P ⇑d (.lst Y)) m ?_ (q _ nD) hn (by rw [AX (λz=>a6 z.symm)];exact I4.free) (λz=>cC _ F.lt z.symm) (BK F.sz L)
    (λx c e=>by let {v,q}:=F.cell x c e;exact cC _ q.lt) λp hp=>cC _ (jM (F.pin p hp).1)
   refine F.call' (ch:=fp) (s':=Z) I4.os ?_ ?_ I4.bare λb a=>{(U b a).2.2.2.1,(U b a).2.1,(U b a).2.2.2.2.1,(U b a).2.2.2.2.2}
   .refine {ub.keep,ub.slot,λb o e n hx=>?_,ub.there,λb xs e=>?_,λb o u e=>?_,λb ps e=>?_}
    .rw [AX (b6 b o e)];exact ub.free b o e n hx
    .let z:=ub.tups b xs e;rw [AX (R b _ z)];exact z
    .let z:=ub.frzs b o u e;rw [AX (R b _ z)];exact z
    .let {b8,z}:=ub.tbls b ps e;exact {b8,by rw [AX (R b _ z)];exact z}
   .intro b u e;by_cases a:b=⇑d
    .subst a;rw [upd_same] at e;cases e;exact ⟨hl,f,k,hv,bi⟩
    .rw [AX a] at e;exact (I4.hok b u e).stay (λc v _ q=>q) (λc q=>by rw [AX (R c _ q)];exact q) λc xs q=>by rw [AX (R c _ q)];exact q
  .refine G_ (T.item (B6 X N scope xo cl G.objs.size d O fp) rfl rfl rfl hc i _ s3 _ P _ b2 (a9 b0) aw go) λr Z ⟨u,hr,h4⟩=>?_;subst hr;refine G_ h4 λ_ s5 ⟨x,H5,I5,r5,y5,S,bk⟩=>?_;let bl:=I5.pinned (a9 bk) (T.obj _ _ S);refine G_ (hg _ _ _ _ _ s5 _ H5 x u _ bl r5 (bg x H5 y5)) λ_ s6 ⟨M,H6,I6,q6⟩=>?_;refine G_ (ht _ _ _ _ _ s6 M H6 _ I6 q6) λbm s9 ⟨H9,I9,q9⟩=>?_
   let b9:∀ b∈fp,∀ o,s5.heap.get? b=some o->s9.heap.get? b=some o/\H9 b=none:=λb a o e=>by
    let z:=I9.pin (b,o) (Ch _ (Ch _ (Ja a e)));exact ⟨z.1,z.2.1⟩
   cases bm with
   | false=>
     let w9:W (i+1) Y H9:=q9;let ba:=I9.pin (⇑d,{ cls:=.type "list", data:=.seq f.toArray k }) (Ch _ (Ei _ (BM.mpr rfl)));let bn:Inv (B6 X N scope xo cl G.objs.size d O fp) [] M H9 s9:=I9.pins_of λp hp=>nomatch hp
     exact {n0 - (i+1),`a,i+1,Y,f,k,H9,Oo B F U bn,ba.1,hv,ba.2.1,T.keep _ _ _ S (λb a o e=>(b9 b a o e).1),(λb a=>by
      let {o,e,_}:=T.obj _ _ S b a;exact (b9 b a o e).2),w9,rfl}
   | true=>
   replace q9:te M H9 λy H4=>W (i+1) (Y++[y]) H4:=q9;refine G_ (he _ _ _ _ _ s9 M H9 _ I9 q9) λuy s7 ⟨y,H7,I7,r7,w7⟩=>?_;let pD:=I7.pin (⇑d,{ cls:=.type "list", data:=.seq f.toArray k }) (Ch _ (Ei _ (BM.mpr rfl)))
   let pF:∀ b∈fp,∀ o,s5.heap.get? b=some o->s7.heap.get? b=some o/\H7 b=none:=λb a o e=>by
    let z:=I7.pin (b,o) (Ch _ (Ch _ (Ja a e)));exact ⟨z.1,z.2.1⟩
   refine append_at (hsz:=hz) pD.1 λh8 bb bp=>?_;let bq:Inv (B6 X N scope xo cl G.objs.size d O fp) [] M H7 s7:=I7.pins_of λp hp=>nomatch hp;let I8:Inv (B6 X N scope xo cl G.objs.size d O fp) [] M H7 { s7 with heap:=h8,toks:=s7.toks }:=bq.turned (λb o a e=>bb.extBut b o a e) pD.2.1 a6 (.inr (AT _)) bf (λp hp=>nomatch hp);refine {n0 - (i+1),`a,i+1,Y++[y],f++[uy],k+1,H7,Oo B F U I8,?_,Paired.snoc hv r7,pD.2.1,T.keep _ _ _ S (λb a o e=>bb.extBut b o (ao b a).symm (pF b a o e).1),λb a=>?_,w7,2}
   .show h8.get? _=_;rw [bp,List.push_toArray]
   .let {o,e,_}:=T.obj _ _ S b a;exact (pF b a o e).2
 exact codeAny_compStart_list a3 (T.self X.A 0 _ _ _ (T.keep _ _ _ a5 (λb _ o e=>a7 b o e)) a3)
def DE {c a d:Expr} {f:Pos} {i:TI} {g:TG} {j:TE} (n:X.calm=true) (B:BlkOk1 X N capt scope xo cl) (p:PI X d a i)
  (r:∀ C s H fp,PG (B6 X N scope xo cl C s H fp) d g) (u:∀ C s H fp,PE (B6 X N scope xo cl C s H fp) c j)
  (v:∀ x,foldedSetIterable a X.env x=pure x:=by intro _;rfl):PE X (.ListComp c [⟨d,a,[],0⟩] scope f) (Bk i capt g j):=by
 intro pins s σ H Q I h;rw [eval_ListComp];refine wpAny_comprehension_free (use:=none) rfl v B.clos B.kind B.names (LV (cs:=[]) (tc:=LM) (λk C=>compPost (model X.prog X.w) X.A X.xe none (EP X pins σ Q) k C) n B p r (λ_ _ _ _=>Od) u I (show Ed i capt g LM j σ H _ from h) λD C M w m y q z A E F G J=>?_);exact {m,z,λO K=>{.ref D,w,y.turned (λb o L e=>K.extBut b o L e) A E (.inr F) G J,2,q}}
def Op {i:Nat} {x:Str} {c j:Pos} {f d n:Expr} {cs:dh} {tc:TT} {k:Pos} {E:TI} {g:TG} {F:TE} (K:X.N.Nodup) (r:X.N[i]?=some x) (L:aY X.env.scope x) (M:X.calm=true) (B:BlkOk1 X N capt scope xo cl) (O:PI X n d E)
  (P:∀ C s H fp,PG (B6 X N scope xo cl C s H fp) n g) (R:∀ C s H fp,cG (B6 X N scope xo cl C s H fp) cs tc) (S:∀ C s H fp,PE (B6 X N scope xo cl C s H fp) f F)
  (u:swapsWith (.ListComp f [⟨n,d,cs,0⟩] scope k) (some (.Name x c)) j.line X.env=pure true)
  (T:∀ x,foldedSetIterable d X.env x=pure x) (U:X.fn x=true\/X.env.scope.names.lookup x=some .local) :
  PS X (.Assign [.Name x c] (.ListComp f [⟨n,d,cs,0⟩] scope k) j) (AN (Ed E capt g tc F) (AE i)):=by
 intro pins s σ H D I h;rw [exec_Assign_Name_used _ _ _ _ u];refine jI (wpAny_standAt (jI ?_));show wpAny _ X.A (do let _ <-comprehension (.ListComp f [⟨n,d,cs,0⟩] scope k) scope X.env _ (newList []) false (eval d X.env) (some (assign (.Name x c) X.env))) _ _ s
 refine jI (jK (wpAny_comprehension_free (use:=some (assign (.Name x c) X.env)) (Q:=λ_ p=>SP X pins D .next p) rfl T B.clos B.kind B.names
  (LV (λw C=>compPost (model X.prog X.w) X.A X.xe (some (assign (.Name x c) X.env)) (λ_ p=>SP X pins D .next p) w C) M B O P R S I h λDa C s4 Hq m W q Y y G Z J h4=>?_)) (λ_ p hq=>jJ (jJ hq)) λ_ _ e=>e)
 show wpAny _ X.A (assign (.Name x c) X.env (.ref Da)) _ _ _;refine wpAny_assign_Name (NT W K r L (v:=.ref Da) rfl (λs5 I5 ⟨a,A,ha⟩=>{m,Y.sameBut A ?_,λh' sb=>{9,I5.turned (λb o hb e=>sb.extBut b o hb e) y G (.inr Z) J h4,q}}) U);rcases ha with z | z
 .rw [z];exact G
 .exact λe=>J x a z e.symm
def Ia {i:Nat} {x:Str} {b c:Pos} {d a f:Expr} {e:Pos} {k:TI} {g:TG} {m:TE} (n:X.N.Nodup) (h:X.N[i]?=some x) (o:aY X.env.scope x) (p:X.calm=true) (B:BlkOk1 X N capt scope xo cl) (q:PI X f a k)
  (r:∀ C s H fp,PG (B6 X N scope xo cl C s H fp) f g) (u:∀ C s H fp,PE (B6 X N scope xo cl C s H fp) d m)
  (j:swapsWith (.ListComp d [⟨f,a,[],0⟩] scope e) (some (.Name x b)) c.line X.env=pure true:=by rfl)
  (v:∀ x,foldedSetIterable a X.env x=pure x:=by intro _;rfl) (w:X.fn x=true\/X.env.scope.names.lookup x=some .local:=by first | exact .inl rfl | exact .inr rfl | assumption) :
  PS X (.Assign [.Name x b] (.ListComp d [⟨f,a,[],0⟩] scope e) c) (AN (Bk k capt g m) (AE i)):=
 Op n h o p B q r (λC s H fp=>Od) u j v w
def Oq {i:Nat} {x:Str} {b d:Pos} {e a h c:Expr} {tc:TT} {f:Pos} {m:TI} {g:TG} {n:TE} (o:X.N.Nodup) (j:X.N[i]?=some x) (p:aY X.env.scope x) (q:X.calm=true) (B:BlkOk1 X N capt scope xo cl) (r:PI X h a m)
  (u:∀ C s H fp,PG (B6 X N scope xo cl C s H fp) h g) (v:∀ C s H fp,L2.PT (B6 X N scope xo cl C s H fp) c tc) (w:∀ C s H fp,PE (B6 X N scope xo cl C s H fp) e n)
  (k:swapsWith (.ListComp e [⟨h,a,[c],0⟩] scope f) (some (.Name x b)) d.line X.env=pure true:=by rfl)
  (y:∀ x,foldedSetIterable a X.env x=pure x:=by intro _;rfl) (z:X.fn x=true\/X.env.scope.names.lookup x=some .local:=by first | exact .inl rfl | exact .inr rfl | assumption) :
  PS X (.Assign [.Name x b] (.ListComp e [⟨h,a,[c],0⟩] scope f) d) (AN (Ed m capt g tc n) (AE i)):=
 Op o j p q B r u (λC s H fp=>Oe (v C s H fp)) w k y z
def Os {d a f c:Expr} {tc:TT} {i:Pos} {k:TI} {g:TG} {n:TE} (p:X.calm=true) (B:BlkOk1 X N capt scope xo cl) (r:PI X f a k)
  (u:∀ C s H fp,PG (B6 X N scope xo cl C s H fp) f g) (v:∀ C s H fp,L2.PT (B6 X N scope xo cl C s H fp) c tc) (w:∀ C s H fp,PE (B6 X N scope xo cl C s H fp) d n)
  (y:∀ x,foldedSetIterable a X.env x=pure x:=by intro _;rfl):PE X (.ListComp d [⟨f,a,[c],0⟩] scope i) (Ed k capt g tc n):=by
 intro pins s σ H Q I h;rw [eval_ListComp];refine wpAny_comprehension_free (use:=none) rfl y B.clos B.kind B.names (LV (λj C=>compPost (model X.prog X.w) X.A X.xe none (EP X pins σ Q) j C) p B r u (λC s H fp=>Oe (v C s H fp)) w I h λD C P z m A q E F G J K L=>?_);exact {m,E,λR M=>{.ref D,z,A.turned (λb o O e=>M.extBut b o O e) F G (.inr J) K L,2,q}}
end
end Bs
namespace Bs
open PySem L2
def Ot:TE:=λ_ H Q=>∀ p,H p=none->Q (.ref p) (upd H p (.dK []))
inductive Ou(o i v:V)(H:Hp)(Q:Hp->Prop):Prop
 |mk(p k a):o=.ref p->i=.int k->H p=some (.dK a)->@a<sizeLine->Q (upd H p (.dK (F0 a (.inl k) v)))->Ou o i v H Q
end Bs
namespace Bs
open PySem PySem.Spec PySem.Calls PyProof.Rows L2
section
variable {X:Cx}
def Zg {a:Pos}:PE X (.Dict [] [] a) Ot:=by
 intro c s g H Q I h;let d:H ⇑s=none:=I.hok.fresh (AT _);let {m,F}:=I.fr;let f:(⇑s == sysModules)=false:=F.notModules (modules_low I.ok.mod.nolimit);exact wpAny_Dict_empty {.ref ⇑s,_,I.laid (o:=.dK []) (t':=s.toks) (λb u e=>Heap.get?_push_of_some _ e) (AT _) {Ah _,f,[],.nil,Heap.DictOf.new _},2,h _ d}
def Zh:aZ X Ou:=by
 intro c s B H o i v C D u Q I f g j h;let {p,k,a,rfl,rfl,hp,n,q}:=h;cases f;let {t,rfl}:=g;let {E,w,y,r,m}:=Inv.dK I hp;let F:@a=@y:=Paired.length r;refine wpAny_setItem_pairs (hsz:=by omega) (NR X.prog X.w k t) m λG d z=>{_,I.write (x:=p) (e:=p) (o:=.dK (F0 a (.inl k) v)) (by rw [hp];trivial) (.inl rfl) (λb u A e=>(z.2 b A).trans e) ?_ ?_,q}
 .let {o,_,_,e,_}:=d;exact ⟨o,e⟩
 .exact {by have:=ZA (k:=.inl k) (v:=v) (kvs:=a);omega,w,_,Y9 r j,d}
theorem Zi {P:Program} {w:World} {H:Hp} {h:Heap} {a:Addr} {o:HO} (x:ObjOk P w H h a o):∃ u,h.get? a=some u:=by
 cases o with
 | lst c=>let ⟨_,_,_,_,e⟩:=x;exact {_,e}
 | tup c=>let ⟨_,_,_,_,e,_⟩:=x;exact {_,e}
 | dK b=>let ⟨_,_,_,_,o,_,_,e,_⟩:=x;exact {_,e}
 | dT b=>let ⟨_,_,_,_,o,_,_,e,_⟩:=x;exact {_,e}
 | set S n=>let ⟨o,_,_,_,e,_⟩:=x;exact {_,e}
 | ins C g d=>let ⟨_,_,_,e,_⟩:=x;exact {_,e}
 | own y=>let ⟨_,e⟩:=x;exact {_,e}
 | xd d=>let ⟨_,⟨_,_,_,e,_⟩,_⟩:=x;exact {_,e}
 | rng lo i=>let ⟨_,_,_,e⟩:=x;exact {_,e}
 | frz j u=>let ⟨e,_⟩:=x;exact {_,e}
 | tbl ps=>exact {_,x}
 | met f y=>exact {_,x}
 | ext k=>let ⟨_,e,_⟩:=x;exact e
theorem Zj {h h':Heap} (k:∀ b o,h.get? b=some o->h'.get? b=some o):h.get? h'.objs.size=none:=by
 cases y:h.get? h'.objs.size with
 | none=>rfl
 | some u=>exact absurd (jM (k _ _ y)) (DV _)
end
end Bs
namespace Bs
open PySem L2
def Ow:V->cZ->Hp->VK->Prop:=λx b H Q=>∃ p k a v,x=.ref p/\b=[.int k,v]/\H p=some (.dK a)/\Q ((Fz a (.inl k)).getD v) H
end Bs
namespace Bs
open PySem PySem.Spec PySem.Calls PyProof.Rows L2
theorem Ox {k:P'}:∀ {kvs:List (P'×V)} {vs:List (P'×Value)},KV kvs vs->(Fz kvs k=none/\valueAt vs k=none)\/∃ v u,Fz kvs k=some v/\valueAt vs k=some u/\RelV v u
 | _,_,.nil=>.inl ⟨rfl,rfl⟩
 | _,_,.cons (a:=⟨d,f⟩) (b:=⟨g,i⟩) ⟨e,r⟩ t=>by
   let h:d=g:=e;subst h;unfold Fz valueAt;rw [List.find?_cons,List.find?_cons];by_cases c:d=k
   .rw [jF (show (d,f).1=k from c)];exact .inr {3,r}
   .rw [jH (show ¬ (d,f).1=k from c)];exact Ox t
section
variable {X:Cx}
def Zk:b_ X "dict.get" Ow:=by
 intro d s o H x w v y Q I e a h;let {p,k,f,z,rfl,rfl,hp,q}:=h;cases e;let {u,g,rfl,i,j}:=a.two;let {t,rfl}:=i;let {A,n,B,r,m}:=Inv.dK I hp;refine call_meetsIn PySem.F.slot_dict_get m.typeIs PySem.F.entry_dict_get (PySem.F.args_dict_get_3 _ _ _) (meets_dict_get_default (Ep X.prog X.w) p (NR X.prog X.w k t) n g) {_,m.mapOf,?_};rcases Ox (k:=.inl k) r with ⟨b,c⟩ | ⟨v,u,b,c,a⟩
 .rw [b] at q;rw [c];exact {z,H,I.tok _,j,q}
 .rw [b] at q;rw [c];exact {v,H,I.tok _,a,q}
end
end Bs
namespace Bs
open PySem L2
noncomputable def aW (nvs:List (Int×V)):HO:=.dK (nvs.map λq=>(.inl q.1,q.2))
noncomputable def ItI (a:Addr) (nvs:List (Int×V)) (b:Obj):It:=
 {λi H=>H a=some (.frz b (aW nvs))/\i<↑nvs,λi H v c=>∃ p k x,H p=none/\v=.ref p/\c=upd H p (.tup [.int k,x])/\nvs[i]?=some (k,x),λi H=>H a=some (.frz b (aW nvs))/\↑nvs<=i}
def Oy (e:TE):TI:=λf H R=>e f H λx c=>∃ (a:Addr) (b:List (Int×V)),x=.ref a/\c a=some (aW b)/\∀ d,R (ItI a b d) (upd c a (.frz d (aW b)))
end Bs
namespace Bs
open PySem PySem.Spec PySem.Calls PyProof.Rows L2
theorem Oz {a b:Type} {F:a->b->Prop}:∀ {l:List a} {m:List b} {j:Nat} {x:a},Paired F l m->l[j]?=some x->∃ y,m[j]?=some y/\F x y
 | _,_,0,_,.cons h _,e=>by cases e;exact {1,h}
 | _,_,j+1,_,.cons _ t,e=>Oz (j:=j) t e
section
variable {X:Cx} {pins:dc} {σ:L2.St} {H:Hp} {s:Shared}
def Zl {a:Addr} {d:Obj} {kvs:List (P'×V)} (I:Inv X pins σ H s) (h:H a=some (.dK kvs)) (e:s.heap.get? a=some d):Inv X pins σ (upd H a (.frz d (.dK kvs))) s:=by
 refine I.step (g':=s.gens) (t':=s.toks) (d':=s.drawn) (ch:=[]) (λ_ z=>nomatch z) (λb o _ _ _ q _=>q) (λb o _ _ _ q _=>⟨o.slots,q⟩) (λb o _ q n=>?_) (λb o _ q=>⟨o,q⟩) (λb j q=>?_) (λb o u q=>?_) (λb ps q=>{#[],?_}) (λm i=>i) (λb u q=>?_) I.bare
 .rw [AX (λz=>by rw [z,h] at n;cases n)];exact n
 .rw [AX (λz=>by rw [z,h] at q;cases q)];exact q
 .rw [AX (λz=>by rw [z,h] at q;cases q)];exact q
 .rw [AX (λz=>by rw [z,h] at q;cases q),q];simp
 .let f:∀ b u,H b=some u->ObjOk X.prog X.w (upd H a (.frz d (.dK kvs))) s.heap b u:=λb u q=>by
   refine (I.hok b u q).stay (λc v k z=>z) (λc z=>?_) λc p z=>?_
   .rw [AX (λy=>by rw [y,h] at z;cases z)];exact z
   .rw [AX (λy=>by rw [y,h] at z;cases z)];exact z
  by_cases g:b=a
  .subst g;rw [upd_same] at q;cases q;exact {e,f _ _ h}
  .rw [AX g] at q;exact f b u q
end
def Zm:entryFor table "dict_itemiterator.__iter__" = some Builtin.«dict_keyiterator.__iter__»:=entryFor_alias (id' := "dict_keyiterator.__iter__") (by kernel_rfl) rfl (by decide +kernel) (by kernel_rfl)
def Zn {P:Program} {w:World} {K:W.Frag} {n:dh} {k:Nat} {M:Pos} (a e:Addr) (nvs:List (Int×V)) (ob:Obj) (ep:Nat) (he:∃ N,ob.data=.dict N ep):Turn P w K (.Tuple n k M) (ItI a nvs ob) [e] e (λi h=>∃ ok m,IsItemIter h e a i ↑nvs ep ok m) where
 mem:=by simp
 obj:=λi h ⟨ok,m,c⟩ b p=>by
  rw [BM.mp p]
  exact {_,c,λv z=>nomatch z}
 keep:=λi h h' ⟨ok,m,c⟩ kk=>{ok,m,kk e (by simp) _ c}
 item:=by
  intro X O R S hc i r s σ H E I y ⟨ok,m,c⟩ T
  subst O R S
  let {U,B}:=T
  let {C,hz,hS,Y,G,o,N,Z,f,h2,D,h4}:=I.hok a _ U
  rw [C] at f
  obtain rfl:=jL f
  let {a0,d}:=he
  rw [d] at D
  cases D
  let J:@Y=↑nvs:=by rw [<-Paired.length G,AI]
  let {{ky,u},hy,F,L}:=Oz (j:=i) (x:=(Sum.inl nvs[i].1,nvs[i].2)) G (by rw [Ae,Ak B];rfl)
  replace F:Sum.inl nvs[i].1=ky:=F
  subst F
  replace L:RelV nvs[i].2 u:=L
  rw [<-J] at c
  refine wpAny_pyNext_items_item (knd:=Ep X.prog X.w) c {9,C,h2,d,h4} hy λa1 g hk io gt gz gk=>?_
  let {t,rfl}:=Value.isInt_shape hk
  refine {1,wpAny_letOwnedTupleGo_items io λg' ii sb=>?_}
  let I1:=OG (g:=g') (tk:=s.toks) (xs:=[.int nvs[i].1,nvs[i].2]) (its:=[.int nvs[i].1 t,u]) I (y e (by simp)) (y e (by simp)) (λb o f _ q=>sb.extBut b o f (gk b o f q)) (sz (by simp)) (.cons {1} (.cons L .nil)) (sb.extBut _ _ (Nat.ne_of_gt (jM c)) gt)
  refine {.ref ⇑s,_,I1,2,{9,_,I.hok.fresh (AT _),7,Ak B},{9,by rw [<-J];exact ii},λb p=>?_}
  rw [BM.mp p,AX (By (jM c))]
  exact (y e (by simp)).1
 done:=by
  intro X O R S hc i r s σ H E I y ⟨ok,m,c⟩ T
  subst O R S
  let {U,B}:=T
  let {C,hz,hS,Y,G,o,N,Z,f,h2,D,h4}:=I.hok a _ U
  rw [C] at f
  obtain rfl:=jL f
  let {a0,d}:=he
  rw [d] at D
  cases D
  let J:@Y=↑nvs:=by rw [<-Paired.length G,AI]
  let {f0,F,L,f3,f4,f5}:=y e (by simp)
  rw [<-J] at c B
  exact wpAny_pyNext_items_end (knd:=Ep X.prog X.w) (I.ok.hd hc) c {9,C,h2,d,h4} (B8 B) λg eb=>{2,I.turned (t':=s.toks) (λb o p q=>eb b o p q) f0 F f3 f4 f5}
 self:=λA i s Q E ⟨ok,m,c⟩ h=>by
  let ty:s.TypeIs (.ref e) "dict_itemiterator" := {_,c,2}
  refine wpAny_pyIter_slot ty PySem.F.slot_dict_itemiterator_iter (wpAny_call_entry PySem.F.slot_dict_itemiterator_iter ty Zm ?_ (PySem.F.args_dict_itemiterator_iter_1 _))
  show wpAny _ _ (ret (.ref e)) _ _ s
  exact jJ {1, "dict_itemiterator", _,ty,PySem.F.slot_dict_itemiterator_next.lookup,h}
section
variable {X:Cx} {elts:dh} {k:Nat} {tpos:Pos} {o:Expr} {te:TE} {apos cpos:Pos}
def Zo (r:PE X o te) (f:attributeBase o "items" X.env (eval o X.env)=eval o X.env:=by rfl) (g:(apos.endLine == cpos.line)=true:=by rfl):PI X (.Tuple elts k tpos) (.Call (.Attribute o "items" apos) [] [] cpos) (Oy te):=by
 intro i s G H R I h;refine wpAny_Call_method0_late f g (G_ (r i s G H _ I h) λv n ⟨x,Q,B,J,a,j,w,hp,q⟩=>?_);subst w;cases J;let {S,K,C,L,m}:=Inv.dK B hp;refine {"dict","dict.items", PySem.F.plainAttrs_dict,PySem.F.slot_dict_items,PySem.F.type_dict_items,m.typeIs,λb e=>?_,Calls.callWith_builtin rfl (PySem.evalArgs_none ?_)}
 .cases e;let {o,y,p,r,w,_}:=m;exact ⟨o,r,w.2.1⟩
 refine call_meetsIn PySem.F.slot_dict_items m.typeIs PySem.F.entry_dict_items (PySem.F.args_dict_items_1 _) (meets_dict_items (Ep X.prog X.w) a K) {{_,m},?_};let {z,y,p,D,M,E,N}:=m;show wpAny _ _ (pyIter (.ref ⇑n)) _ _ _;refine wpAny_pyIter_items (knd:=Ep X.prog X.w) (d:=a) (kvs:=C) (ep:=p) {_,Heap.get?_push_size _ rfl,7} {z,y,Heap.get?_push_of_some _ D,M,E,N} ?_;let O:@C=@j:=by rw [<-Paired.length L,AI]
 let A:=Zl B hp D;refine {_,[_],9,1,A.kept (t':=n.toks) (λb u e=>Heap.get?_push_of_some _ (Heap.get?_push_of_some _ e)),Zn a _ j z p ⟨y,E⟩,{9,by rw [<-O];exact Heap.get?_push_size _ rfl},λc P=>?_,q z};rw [BM.mp P];let F:⇑n<=(n.heap.push { cls:=.type "dict_items", data:=.fields #[.ref a] }).objs.size:=by rw [Heap.size_push];exact Nat.le_succ _
 exact A.fpOk F (A.hok.fresh F)
end
end Bs
namespace Bs
open PySem L2
def O0:cZ->Hp->VK->Prop:=λe H Q=>∃ (p:Addr) (as:dj) (b:List (Int×V)),e=[.ref p]/\H p^^^(as.map V.ref)/\@as=@b/\(∀ (j:Nat) a m,as[j]?=some a->b[j]?=some m->H a&&&[.int m.1,m.2])/\@as<64/\(b.map (·.1)).Nodup/\
 ∀ (r:Addr) (d:dj) (c:List (Int×V)),H r=none->@d=@c->(∀ (j:Nat) a m,d[j]?=some a->c[j]?=some m->H a&&&[.int m.1,m.2])->c.Perm b->c.Pairwise (λx y=>x.1<y.1)->Q (.ref r) (upd H r (.lst (d.map V.ref)))
end Bs
namespace Bs
open PySem PySem.Spec PySem.Calls PySem.W PyProof.Rows L2
def Jz (h:Heap) (b:Addr) (x y:Value):Prop:=∃ o n,h.get? b=some o/\o.cls=.type "tuple" /\ o.data=.seq #[x,y] n
section
variable {prog:Program} {w:World} {A:Around} {E:d8} {s:Shared}
theorem O3 {h:Heap}:∀ (as:dj),(∀ b∈as,∃ n t y,Jz h b (.int n t) y)->∃ f,KatTups h (as.map Value.ref) f/\(∀ v∈f,∃ n t,v=.int n t)/\@f=@as
 | [],_=>{[],trivial,(λ_ h=>nomatch h),2}
 | a::as,hp=>by
   let {n,t,y,o,z,e,c,d}:=hp a (BC ..);let {f,k,q,l}:=O3 as λb g=>hp b (A6 _ g);refine {.int n t::f,KatTups.cons e c d rfl k,λv i=>?_,by rw [Cj,Cj,l]};rcases CP.mp i with z | z
   .exact ⟨n,t,z⟩
   .exact q v z
def Zp {L a:Addr} {m:de} {e:Nat} {as:dj} {ks:dq} {P:PySem.Fin->Shared->Prop} (Z:s.heap.Ns L m) (ho:s.heap.get? a=some (seqObj "list" (as.map Value.ref).toArray e)) (K:a≠L) (h2:2<=@as) (a0:@as<64)
  (hp:∀ (j:Nat) (b:Addr),as[j]?=some b->b≠a/\b≠L/\∃ t y,Jz s.heap b (.int (ks j) t) y) (D:∀ i j,i<@as->j<@as->i≠j->ks i≠ks j)
  (h:∀ p d c,Pm @as p->So ks p @as->d.Ns L m->(∀ b o,b≠a->b≠L->s.heap.get? b=some o->d.get? b=some o)->d.get? a=some (seqObj "list" (p.toList.map λi=>(as.map Value.ref).getD i Value.none).toArray c)->P (.done (.ret .none)) { s with heap:=d }) :
  wpAny (model prog w) A (Builtin.«list.sort» ⟨[.ref a],[]⟩) P E s:=by
 let ll:(as.map Value.ref).length=@as:=AI ..;refine kat_list_sort (h₀:=Att.noObjs s.heap) (L:=L) (m:=m) (news:=(Att.ledger s.heap L L).filter λp=>decide (p.1≠a)) (vs:=as.map Value.ref) (Att.fr_all Z) (λp hp=>?_) ho K (Att.noObjs_get _ _) (λp hp=>jG (D5.mp hp).2) `a `a λe1 d F' W=>?_
 .let {J,_,e}:=Att.mem_ledger.mp (D5.mp hp).1;exact {e,J,Att.noObjs_get _ _}
 let kk:∀ b o,b≠a->b≠L->s.heap.get? b=some o->d.get? b=some o:=λb o M F q=>(W (b,o) (A6 _ (D5.mpr {Att.mem_ledger.mpr ⟨F,F,q⟩,jF M}))).1
 let k:∀ (j:Nat) (b:Addr),as[j]?=some b->∃ t y,Jz d b (.int (ks j) t) y:=λj b q=>by
  let {J,X,t,y,o,n,i,c}:=hp j b q;exact {t,y,o,n,kk _ _ J X i,c}
 let {fs,kt,fi,fl}:=O3 as λb hb=>by
  let {j,G}:=List.getElem?_of_mem hb;let {t,y,i}:=k j b G;exact {_,t,y,i}
 refine kat_kind (s:={ s with heap:=d }) (T:=Value.type "int") kt `a (λv hv=>by let {n,t,rfl}:=fi v hv;exact .now) `b ?_;rw [ll];refine Tw.wp (c:=kc ks) (N:=@as) (Q:=λr=>Pm @as r/\So ks r @as) (I:=λx=>x={ s with heap:=d }) (λi j C x B G O R hC=>?_) (λp x Y R=>?_) _ _ (ZY D h2) rfl
 .subst R;let {t,y,o1,J,p1,_,d1}:=k i _ (Ak B);let {u,z,o2,X,p2,_,d2}:=k j _ (Ak G);let g:∀ i (B:i<@as),(as.map Value.ref).getD i Value.none=.ref as[i]:=λi B=>by simp [List.getD,B]
  show wpAny _ _ (keyLt' _ ((as.map Value.ref).getD i Value.none) ((as.map Value.ref).getD j Value.none)) _ _ _;rw [g i B,g j G];refine kat_lt p1 d1 p2 d2 (kat_cons (wpAny_eqBool_int ?_));rw [show (ks i == ks j)=false from beq_eq_false_iff_ne.mpr (D i j B G O)];exact kat_no (oneLt_int (hC _ rfl))
 .subst R;refine KasFin.intro F' W (.head λp hp=>jG (D5.mp hp).2) λS c U H=>?_;exact h p S c Y.1 Y.2 U.ns (λb o M F q=>(H (b,o) (A6 _ (D5.mpr {Att.mem_ledger.mpr ⟨F,F,q⟩,jF M}))).1) (H _ (BC ..)).1
def Zq {l L:Addr} {m:de} {as:dj} {ks:dq} {Q:d8} (P:s.heap.IsList l (as.map Value.ref).toArray) (z:@as<64) (J:s.heap.Ns L m)
  (hp:∀ (j:Nat) (b:Addr),as[j]?=some b->b≠L/\∃ t y,Jz s.heap b (.int (ks j) t) y) (B:∀ i j,i<@as->j<@as->i≠j->ks i≠ks j)
  (K:∀ p h C c,Pm @as p->So ks p @as->h.Ns L m->(∀ b o,b≠L->s.heap.get? b=some o->h.get? b=some o)->s.heap.get? C=none->h.get? C=some (seqObj "list" (p.toList.map λi=>(as.map Value.ref).getD i Value.none).toArray c)->Q (.ref C) { s with heap:=h }) :
  wpAny (model prog w) A (call (.builtin "sorted") [.ref l]) Q E s:=by
 refine Calls.call_function_entry kind_sorted plain_sorted entry_sorted (args_sorted1 _) ?_;unfold Builtin.«sorted»;refine jI (m:=checkCount "sorted" 1 1 _) (jJ ?_);let {o,u,D,n,R}:=P;refine jI (wpAny_collect_seq (A:=A.in1) l (.inl rfl) u D R (λg M=>?_) (by rw [BI,AI,sizeLine_eq];omega));rw [List.toList_toArray];refine jI (wpAny_newList ?_ (by rw [AI,sizeLine_eq];omega));let k:(g.push (seqObj "list" (as.map Value.ref).toArray 0)).get? g.objs.size=some (seqObj "list" (as.map Value.ref).toArray 0):=Heap.get?_push_size _ rfl;let F:s.heap.get? g.objs.size=none:=Zj M;let f:∀ b o,s.heap.get? b=some o->b≠g.objs.size:=λb o q e=>by rw [e,F] at q;cases q
 let v:∀ b o,s.heap.get? b=some o->(g.push (seqObj "list" (as.map Value.ref).toArray 0)).get? b=some o:=λb o q=>Heap.get?_push_of_some _ (M b o q);let N:g.objs.size≠L:=by let {_,_,_,e,_}:=id J;exact (f _ _ e).symm
 let O:(g.push (seqObj "list" (as.map Value.ref).toArray 0)).Ns L m:=by
  let {o,G,H,I,r}:=id J;exact {o,G,H,v _ _ I,r}
 show wpAny _ _ _ _ _ { s with heap:=g.push (seqObj "list" (as.map Value.ref).toArray 0) };refine jI (wpAny_holding (wpAny_call_entry slot_list_sort {_,k,2} entry_list_sort ?body (args_list_sort _)));by_cases S:2<=@as
 .refine Zp (s:={ s with heap:=g.push (seqObj "list" (as.map Value.ref).toArray 0) }) (ks:=ks) O k N S z (λj b T=>?_) B λp h c U W X x e=>{1,jJ {1,K p h _ c U W X (λb o Y q=>x b o (f b o q) Y (v b o q)) F e}};let {l,t,y,o,n,u,D}:=hp j b T;exact {f _ _ u,l,t,y,o,n,v _ _ u,D}
 .refine ZZ (s:={ s with heap:=g.push (seqObj "list" (as.map Value.ref).toArray 0) }) k (by rw [AI];omega) λh c x e=>{1,jJ {1,K (List.range @as).toArray h _ c (Array.Perm.refl _) (λi j a b=>by omega) ?_ (λb o _ q=>x b o (f b o q) (v b o q)) F (by rw [Zb];exact e)}};let {o,G,H,I,r}:=id O;exact {o,G,H,x _ _ (Ne.symm N) I,r}
end
section
variable {X:Cx}
def Zs:Cl X (.builtin "sorted") O0:=λW s σ H Y us Q I r ⟨p,as,d,e,hp,hl,N,C,Z,q⟩=>by
 subst e;let {u,rfl,O}:=EZ r;cases O;let {w,P,pl,hz}:=I.list (SqL.of hp)
 let ei:w=as.map Value.ref:=by
  clear hp hl N C Z q pl hz
  induction as generalizing w with
  | nil=>cases P;rfl
  | cons a as ih=>cases P with | cons r t=>cases r;rw [ih _ t,CZ]
 subst ei;let {m,hn,_}:=id I.loc
 let kj:∀ i j,i<@as->j<@as->i≠j->(d.getD i (0,.non)).1≠(d.getD j (0,.non)).1:=λi j g h n e=>by
  let E:i<@d:=by omega
  let F:j<@d:=by omega
  refine n ((List.getElem_inj Z (h₀:=by rw [AI];exact E) (h₁:=by rw [AI];exact F)).mp ?_);simpa [E,F] using e
 refine Zq (L:=X.env.locals) (ks:=λj=>(d.getD j (0,.non)).1) pl.isList C hn (λj b k=>?_) kj λA h' D c R so G M fD hD=>?_
 .let h:j<@d:=by have:=(A7.mp k).1;omega
  let S:=N j b _ k (show d[j]?=some (d.getD j (0,.non)) by simp [h]);let {w,rt,{o,h1,h2,n,h3},_}:=I.tuple (SqT.of S);let {u,v,rfl,O,P}:=rt.two;let {t,rfl}:=O;exact {(λz=>by rw [z,I.free] at S;cases S),t,v,o,n,h1,h2,h3}
 let T:↑A.toList=@as:=by rw [Array.length_toList,R.size]
 let pi:∀ i∈A.toList,i<@as:=λi g=>D7.mp (R.lst.mem_iff.mp g)
 let B:H D=none:=by
  cases y:H D with
  | none=>rfl
  | some u=>
    let {v,hv}:=Zi (I.hok D u y);rw [fD] at hv;cases hv
 let ev:(A.toList.map λi=>(as.map Value.ref).getD i Value.none)=(A.toList.map λi=>as.getD i 0).map Value.ref:=by
  rw [DW];refine FE λi g=>?_;have:=pi i g;simp [this]
 rw [ev] at hD;refine {.ref _,_,?_,2,q D (A.toList.map λi=>as.getD i 0) (A.toList.map λi=>d.getD i (0,.non)) B (by rw [AI,AI]) (λj a m' J K=>?_) ?_ ?_}
 .refine I.step (g':=s.gens) (d':=s.drawn) (t':=s.toks) (ch:=[]) (λ_ z=>nomatch z) (λb o n _ _ e _=>M b o n e) (λb o n _ _ e _=>{o.slots,M b o n e}) (λb o _ e n=>?_) (λb o _ e=>?_) (λb Y e=>?_) (λb o u e=>?_) (λb ps e=>{#[],?_}) (λm' K=>?_) (λb o e=>?_) I.bare
  .rw [AX (λy=>by rw [y,fD] at e;cases e)];exact n
  .by_cases k:b=X.env.locals
   .let {o',_,_,f,_}:=G;exact {o',by rw [k];exact f}
   .exact {o,M b o k e}
  .rw [AX (A3 e B)];exact e
  .rw [AX (A3 e B)];exact e
  .rw [AX (A3 e B),e];simp
  .rw [show m'=m from funext λx=>K.agree hn x];exact G
  .by_cases k:b=D
   .subst k;rw [upd_same] at e;cases e;exact {by rw [AI,AI,T,sizeLine_eq];omega,_,c,Oi _,hD}
   .rw [AX k] at e;refine (I.hok b o e).stay (λc u hc f=>M c u ?_ f) (λc f=>?_) λc Y f=>?_
    .rintro rfl;rcases hc with z | z
     .rw [<-z,I.free] at e;cases e
     .rw [I.free] at z;cases z
    .rw [AX (A3 f B)];exact f
    .rw [AX (A3 f B)];exact f
 .rw [Ae] at J K;cases h:A.toList[j]? with
  | none=>rw [h] at J;cases J
  | some i=>
    rw [h] at J K;let g:=pi i (BT h);cases J;cases K;exact N i _ _ (show as[i]?=some (as.getD i 0) by simp [g]) (show d[i]?=some (d.getD i (0,.non)) by simp [show i<d.length by omega])
 .have:d=(List.range @as).map λi=>d.getD i (0,.non):=by
   refine FC λi=>?_;rw [Ae];rcases BY i @d with c | c
   .rw [Dk `a];simp [c]
   .rw [B8 c,B8 (by rw [BZ];omega)];rfl
  conv=>rhs;rw [this]
  exact R.lst.map _
 .rw [D8,List.pairwise_iff_getElem];intro i j g h U;have:=so i j U `a;unfold kp at this;rw [IZ (by simpa using g),IZ (by simpa using h)] at this;exact this
end
end Bs
namespace Bs
def Bd.one:Bd 1 1:=by unfold Bd;decide
theorem Bd.pow {b:Nat} {x:Int} (h:Bd b x) (k:Nat):Bd (b*k+1) (x ^ k):=by
 induction k with
 | zero=>rw [Int.pow_zero,Nat.mul_zero];exact Bd.one
 | succ k a=>
   let e:b*(k+1)+1=(b*k+1)+b:=by rw [Nat.mul_add,Nat.mul_one];omega
   rw [DK,e];exact a.mul h
abbrev Nu:=Int×Int
abbrev cQ:=List Nu
noncomputable def Y_ (n m:Int):Nu:=(n / ((Int.gcd n m:Nat):Int),m / ((Int.gcd n m:Nat):Int))
noncomputable def C' (q r:Nu):Nu:=Y_ (q.1*r.2+r.1*q.2) (q.2*r.2)
noncomputable def D_ (q r:Nu):Nu:=Y_ (q.1*r.1) (q.2*r.2)
def Wo (q:Nu) (n m:Int):Prop:=q.1*m=n*q.2
def FS {n m:Int} (b:0<m):Low (Y_ n m).1 (Y_ n m).2:=(LB (a:=n) b).1
def J0 {n m:Int} (c:0<m):Wo (Y_ n m) n m:=by
 let h:=(Jk (a:=n) (b:=m) (s:=((Int.gcd n m:Nat):Int)) `a (by rw [jD `a])).2.2.2.1;rw [ES _ `a,ES _ `a] at h;exact h
def LW {a b d:Int} (h:Low a b) (e:b∣a*d):b∣d:=by
 let c:Nat.Coprime b.natAbs a.natAbs:=by
  have:Nat.Coprime a.natAbs b.natAbs:=h.one;exact this.symm
 let z:=Cd.mpr e;rw [Bp] at z;exact Cd.mp (c.dvd_of_dvd_mul_left z)
def O4 {a b c d:Int} (f:Low a b) (g:Low c d) (h:a*d=c*b):a=c/\b=d:=by
 let i:b∣d:=LW f {c,by rw [h,CK]};let j:d∣b:=LW g {a,by rw [<-h,CK]};let e:b=d:=Int.dvd_antisymm (Cc f.pos) (Cc g.pos) i j;subst e;exact {Int.eq_of_mul_eq_mul_right (AR f.pos) h,2}
def O5 {q r:Nu} {n m:Int} (c:Low q.1 q.2) (d:Low r.1 r.2) (f:m≠0) (g:Wo q n m) (h:Wo r n m):q=r:=by
 unfold Wo at g h
 let e:q.1*r.2=r.1*q.2:=by
  let z:m*(q.1*r.2)=m*(r.1*q.2):=by ext
  exact Int.eq_of_mul_eq_mul_left f z
 let {a,b}:=O4 c d e;exact Prod.ext a b
def Zu {q:Nu} {n m:Int} (c:Low q.1 q.2) (b:0<m) (w:Wo q n m):q.1.natAbs<=n.natAbs/\q.2.natAbs<=m.natAbs:=by
 let e:q=Y_ n m:=O5 c (FS b) (AR b) w (J0 b);subst e;exact {(LB (a:=n) b).2.1,(LB (a:=n) b).2.2.1}
def FT {q r:Nu} (a:0<q.2) (b:0<r.2):Low (C' q r).1 (C' q r).2:=FS (Bt a b)
def F1 {q r:Nu} (a:0<q.2) (b:0<r.2):Low (D_ q r).1 (D_ q r).2:=FS (Bt a b)
def O6 {m:Int} (a:0<m):Y_ 0 m=(0,1):=O5 (FS a) {`b,`b} (AR a) (J0 a) (by unfold Wo;omega)
noncomputable def CB (l:cQ):Nat->Nat
 | 0=>0
 | m+1=>if (l.getD m (1,1)).1=0 then CB l m else m+1
noncomputable def trim (l:cQ):cQ:=l.take (CB l @l)
theorem LX (l:cQ):∀ m,CB l m<=m
 | 0=>AT 0
 | m+1=>by
   unfold CB;split
   .exact Nat.le_succ_of_le (LX l m)
   .exact AT _
theorem O7 (l:cQ):∀ m,CB l m=0\/(l.getD (CB l m - 1) (1,1)).1≠0
 | 0=>.inl rfl
 | m+1=>by
   unfold CB;split
   .exact O7 l m
   .rename_i h;exact .inr h
def Nz (l:cQ):Prop:=∀ q,l.getLast?=some q->q.1≠0
def Zv {l:cQ} (h:Nz l):trim l=l:=by
 unfold trim
 let e:CB l @l=@l:=by
  cases b:@l with
  | zero=>rfl
  | succ m=>
    unfold CB;let a:m<@l:=by omega
    let z:(l.getD m (1,1)).1≠0:=by
     let q:=h l[m] (by rw [GP,b];simp [a]);rw [AU,Ak a];exact q
    rw [jD z]
 rw [e,Bh]
def He (l:cQ):Nz (trim l):=by
 intro q a;unfold trim at a;let b:=LX l @l;rw [GP,Br,Nat.min_eq_left b] at a;rcases O7 l @l with z | z
 .rw [z] at a;simp at a
 .by_cases c:CB l @l=0
  .rw [c] at a;simp at a
  .rw [List.getElem?_take_of_lt `a] at a;rw [AU,a] at z;exact z
def F2 {l:cQ} {q:Nu} (h:q∈trim l):q∈l:=Fj h
def Ge (l:cQ):(trim l).length<=@l:=by
 unfold trim;rw [Br];omega
def Af (l:cQ):Prop:=∀ q∈l,Low q.1 q.2
def Zw (n:Nat) (l:cQ):Prop:=∀ q∈l,Bd n q.1/\Bd n q.2
noncomputable def Ad (l:cQ) (i:Nat):Nu:=l.getD i (0,1)
noncomputable def FU (f:Nu->Nu->Nu) (l m:cQ):cQ:=(List.range (max @l @m)).map λi=>f (Ad l i) (Ad m i)
def Hf:Low 0 1:={`b,`b}
theorem DN {l:cQ} (h:Af l) (i:Nat):Low (Ad l i).1 (Ad l i).2:=by
 unfold Ad;rw [AU];cases e:l[i]? with
 | none=>exact Hf
 | some q=>exact h q (BT e)
noncomputable def Ag (l:cQ):Int:=l.foldl (λB q=>B*(q.2 / ((Int.gcd B q.2:Nat):Int))) 1
noncomputable def AV (l:cQ):d6:=l.map λq=>q.1*(Ag l / q.2)
def LY {B d:Int} (b:0<B) (c:0<d):0<B*(d / ((Int.gcd B d:Nat):Int))/\B∣B*(d / ((Int.gcd B d:Nat):Int))/\d∣B*(d / ((Int.gcd B d:Nat):Int))/\(d / ((Int.gcd B d:Nat):Int)).natAbs<=d.natAbs/\0<((Int.gcd B d:Nat):Int)/\((Int.gcd B d:Nat):Int)<=d:=by
 let f:0<Int.gcd B d:=Int.gcd_pos_of_ne_zero_right B `a;let {k,hk}:((Int.gcd B d:Nat):Int)∣d:=Dj B d;let {m,g}:((Int.gcd B d:Nat):Int)∣B:=ER B d;let a:(0:Int)<((Int.gcd B d:Nat):Int):=by omega
 let e:d / ((Int.gcd B d:Nat):Int)=k:=by
  let z:d / ((Int.gcd B d:Nat):Int)=(((Int.gcd B d:Nat):Int)*k) / ((Int.gcd B d:Nat):Int):=by rw [<-hk]
  rw [z,GS _ (AR a)]
 let kp:0<k:=by
  rcases Int.lt_or_le 0 k with h | h
  .exact h
  .exfalso;have:=Int.mul_nonneg (Cc a) (show 0<=-k by omega);rw [Int.mul_neg] at this;omega
 let i:((Int.gcd B d:Nat):Int)<=d:=Int.le_of_dvd c (Dj B d);refine {by rw [e];exact Bt b kp,Fk ..,?_,?_,a,i}
 .rw [e];refine {m,?_};let z:d*m=((Int.gcd B d:Nat):Int)*k*m:=by rw [<-hk]
  let j:B*k=((Int.gcd B d:Nat):Int)*m*k:=by rw [<-g]
  rw [z,j];ext
 .rw [e]
  let z:d.natAbs=(Int.gcd B d)*k.natAbs:=by
   have:d.natAbs=(((Int.gcd B d:Nat):Int)*k).natAbs:=by rw [<-hk]
   rw [this,Bp];simp
  rw [z];exact GO _ f
theorem O8 {b:Nat}:∀ (l:cQ) (B:Int) (c:Nat),(∀ q∈l,0<q.2/\Bd b q.2)->0<B->Bd c B->
  0<l.foldl (λB q=>B*(q.2 / ((Int.gcd B q.2:Nat):Int))) B/\B∣l.foldl (λB q=>B*(q.2 / ((Int.gcd B q.2:Nat):Int))) B/\(∀ q∈l,q.2∣l.foldl (λB q=>B*(q.2 / ((Int.gcd B q.2:Nat):Int))) B)/\Bd (c+b*@l) (l.foldl (λB q=>B*(q.2 / ((Int.gcd B q.2:Nat):Int))) B)
 | [],B,c,_,d,e=>{d,Int.dvd_refl B,(λ_ h=>nomatch h),by simpa using e}
 | q::l,B,c,h,d,e=>by
   let {g,i}:=h q (BC ..);let {j,k,m,n,_,_}:=LY d g;let {o,f,p,u}:=O8 l (B*(q.2 / ((Int.gcd B q.2:Nat):Int))) (c+b) (λr a=>h r (A6 _ a)) j (e.mul (i.le n));rw [List.foldl_cons];refine {o,BE k f,λr a=>?_,u.mono (by rw [Cj,Nat.mul_add,Nat.mul_one];omega)};rcases CP.mp a with rfl | a
   .exact BE m f
   .exact p r a
def Zx {b:Nat} {l:cQ} (c:Af l) (d:Zw b l):0<Ag l/\(∀ q∈l,q.2∣Ag l)/\Bd (1+b*@l) (Ag l):=by
 let {e,_,f,g}:=O8 (b:=b) l 1 1 (λq a=>{(c q a).pos,(d q a).2}) `b Bd.one;exact ⟨e,f,g⟩
def O9 {B d:Int} (a:0<B) (b:0<d):(B / d).natAbs<=B.natAbs:=by
 let c:0<=B / d:=Int.ediv_nonneg (Cc a) (Cc b);let e:B / d<=B:=Int.ediv_le_self d (Cc a);omega
def Zy {q:Nu} {B:Int} (a:q.2∣B):Wo q (q.1*(B / q.2)) B:=by
 unfold Wo;rw [Int.mul_assoc,Int.ediv_mul_cancel a]
noncomputable def ps (ns a:d6):Nat->dq
 | 0,_=>0
 | i+1,k=>ps ns a i k+(if i<=k/\k - i<@a then ns.getD i 0*a.getD (k - i) 0 else 0)
noncomputable def be (ns a:d6) (i j k:Nat):Int:=ps ns a i k+(if i<=k/\k - i<j then ns.getD i 0*a.getD (k - i) 0 else 0)
def PB (ns a:d6) (i k:Nat):be ns a i 0 k=ps ns a i k:=by
 unfold be;rw [jD `a];omega
def J1 (ns a:d6) (i j k:Nat):be ns a i (j+1) k=if k=i+j then be ns a i j k+ns.getD i 0*a.getD j 0 else be ns a i j k:=by
 unfold be;by_cases h:k=i+j
 .subst h;rw [jE rfl,jE {`a,`a},jD `a,show i+j - i=j by omega];omega
 .rw [jD h];congr 1;by_cases b:i<=k/\k - i<j
  .rw [jE b,jE {b.1,`a}]
  .rw [jD b,jD `a]
theorem E2 {c:Nat} {ns:d6} (h:∀ z∈ns,Bd c z) (i:Nat):Bd c (ns.getD i 0):=by
 rw [AU];cases e:ns[i]? with
 | none=>exact Nat.pow_pos `b
 | some z=>exact h z (BT e)
def DF (c:Nat):Bd c 0:=Nat.pow_pos `b
theorem LZ {c d:Nat} {ns a:d6} (b:∀ z∈ns,Bd c z) (e:∀ z∈a,Bd d z):∀ i k,Bd (c+d+i) (ps ns a i k)
 | 0,_=>DF _
 | i+1,k=>by
   unfold ps;refine (LZ b e i k).add ?_;split
   .exact ((E2 b i).mul (E2 e (k - i))).mono `a
   .exact DF _
theorem J2 {ns a:d6}:∀ i k,i+@a<=k+1->ps ns a i k=0
 | 0,_,_=>rfl
 | i+1,k,h=>by
   unfold ps;rw [J2 i k `a,jD `a];rfl
noncomputable def F3 (l m:cQ) (n:Nat):cQ:=(List.range n).map λk=>Y_ (ps (AV l) (AV m) @l k) (Ag l*Ag m)
theorem PC {l m:cQ}:∀ {n:Nat},(∀ i,i<n->l.getD i (1,1)=m.getD i (1,1))->CB l n=CB m n
 | 0,_=>rfl
 | n+1,h=>by
   unfold CB;rw [h n (Dv n),PC λi a=>h i (Nat.lt_succ_of_lt a)]
def PD (l:cQ):trim (l++[(0,1)])=trim l:=by
 unfold trim;rw [Bf,List.length_singleton]
 let e:CB (l++[(0,1)]) (@l+1)=CB l @l:=by
  rw [show CB (l++[(0,1)]) (@l+1)=if ((l++[((0,1):Nu)]).getD @l (1,1)).1=0 then CB (l++[(0,1)]) @l else @l+1 from rfl];rw [jE (by simp [AU])];exact PC λi a=>by rw [AU,AU,HH a]
 rw [e,List.take_append_of_le_length (LX l @l)]
def PF (l m:cQ) (n:Nat):F3 l m (n+1)=F3 l m n++[Y_ (ps (AV l) (AV m) @l n) (Ag l*Ag m)]:=by
 unfold F3;rw [List.range_succ,B9];rfl
theorem La (l m:cQ) (a:0<Ag l*Ag m):∀ n,(∀ k,k<n->ps (AV l) (AV m) @l k=0)->trim (F3 l m n)=[]
 | 0,_=>rfl
 | n+1,h=>by
   rw [PF,h n (Dv n),O6 a,PD];exact La l m a n λk hk=>h k (Nat.lt_succ_of_lt hk)
theorem PH {ns a:d6} (h:@a=0):∀ i k,ps ns a i k=0
 | 0,_=>rfl
 | i+1,k=>by unfold ps;rw [PH h i k,jD `a];rfl
def Zz {l m:cQ} (a:0<Ag l*Ag m) (b:(AV m).length=@m) :
  trim (F3 l m (@l+@m))=trim (List.map (λn=>Y_ n (Ag l*Ag m)) (if @l=0\/@m=0 then [] else List.map (λk=>ps (AV l) (AV m) @l k) (List.range (@l+@m - 1)))):=by
 by_cases c:@l=0
 .rw [jE (.inl c)];refine La l m a _ λk _=>?_;rw [c];rfl
 .by_cases d:@m=0
  .rw [jE (.inr d)];exact La l m a _ λk _=>PH (by rw [b];exact d) _ _
  .rw [jD `a];let {n,e}:∃ n,@l+@m=n+1:={@l+@m - 1,`a};rw [e,PF,J2 @l n (by rw [b];omega),O6 a,PD,Nat.add_sub_cancel,DW];rfl
noncomputable def val (q:Nu):Rat:=(q.1:Rat) / (q.2:Rat)
def O' (x:Rat):0 / x=0:=by rw [Rat.div_def,Rat.zero_mul]
def Am {z:Int} (h:z≠0):(z:Rat)≠0:=by exact_mod_cast h
def J3 {q:Nu} {n m:Int} (a:q.2≠0) (b:m≠0) (w:Wo q n m):val q=(n:Rat) / (m:Rat):=by
 let c:=Am a;let d:=Am b;let e:(q.1:Rat)*m=n*q.2:=by unfold Wo at w;exact_mod_cast w
 unfold val;ext
def Do {q r:Nu} (c:Low q.1 q.2) (d:Low r.1 r.2) (h:val q=val r):q=r:=by
 let a:=Am (AR c.pos);let b:=Am (AR d.pos);unfold val at h;let z:(q.1:Rat)*r.2=r.1*q.2:=by ext
 let e:q.1*r.2=r.1*q.2:=by exact_mod_cast z
 let {x,y}:=O4 c d e;exact Prod.ext x y
def Ib {n m:Int} (a:0<m):val (Y_ n m)=(n:Rat) / (m:Rat):=J3 (AR (FS a).pos) (AR a) (J0 a)
def F4 {q r:Nu} (c:0<q.2) (d:0<r.2):val (C' q r)=val q+val r:=by
 unfold C';rw [Ib (Bt c d)];let a:=Am (AR c);let b:=Am (AR d);unfold val;push_cast;ext
def Hg {q r:Nu} (c:0<q.2) (d:0<r.2):val (D_ q r)=val q*val r:=by
 unfold D_;rw [Ib (Bt c d)];let a:=Am (AR c);let b:=Am (AR d);unfold val;push_cast;ext
noncomputable def Aq (n m:Int):Nu:=if m<0 then Y_ (-n) (-m) else Y_ n m
def DO {n m:Int} (a:m≠0):Low (Aq n m).1 (Aq n m).2:=by
 unfold Aq;split
 .exact FS `a
 .exact FS `a
def Dp {n m:Int} (a:m≠0):val (Aq n m)=(n:Rat) / (m:Rat):=by
 unfold Aq;split
 .rw [Ib `a];have:=Am a;push_cast;ext
 .exact Ib `a
def Z1 {n m N:Int} (b:m≠0) (h:m∣N):(Aq n m).2∣N:=by
 let a:∀ {n m:Int},0<m->(Y_ n m).2∣m:=λ{n m} c=>by
  unfold Y_;exact Int.ediv_dvd_of_dvd (Dj n m)
 unfold Aq;split
 .exact BE (a `a) (BE (Int.neg_dvd.mpr (Int.dvd_refl m)) h)
 .exact BE (a `a) h
def F5 {c d:Nat} {n m:Int} (g:m≠0) (b:Bd c n) (e:Bd d m):Bd c (Aq n m).1/\Bd d (Aq n m).2:=by
 let a:∀ {n m:Int},0<m->Bd c n->Bd d m->Bd c (Y_ n m).1/\Bd d (Y_ n m).2:=λ{n m} f b e=>by
  let w:=Zu (FS f) f (J0 (n:=n) f);exact {b.le w.1,e.le w.2}
 unfold Aq;split
 .exact a `a b.neg e.neg
 .exact a `a b e
noncomputable def C_ (l:cQ) (k:Nat):Rat:=val (Ad l k)
def Z2 {q:Nu} (h:Low q.1 q.2) (z:q.1=0):q=(0,1):=Do h Hf (by unfold val;rw [z];show ((0:Int):Rat) / _=((0:Int):Rat) / _;rw [show ((0:Int):Rat)=0 from rfl,O',O'])
def Z3 {l:cQ} (n:Af l) (k:Nat):Ad (trim l) k=Ad l k:=by
 let g:∀ (m:Nat),m<=@l->(∀ j,m<=j->j<@l->(Ad l j).1=0)->∀ j,CB l m<=j->j<@l->(Ad l j).1=0:=by
  intro m
  induction m with
  | zero=>intro _ h j i c;exact h j `a c
  | succ m o=>
    intro p h j d f;rw [show CB l (m+1)=if (l.getD m (1,1)).1=0 then CB l m else m+1 from rfl] at d;split at d
    .rename_i z;refine o `a (λj i c=>?_) j d f;by_cases e:j=m
     .subst e;unfold Ad;rw [AU,Ak c] at z ⊢;exact z
     .exact h j `a c
    .exact h j d f
 unfold trim;by_cases d:k<CB l @l
 .unfold Ad;rw [AU,AU,List.getElem?_take_of_lt d]
 .let e:Ad (l.take (CB l @l)) k=(0,1):=by
   unfold Ad;rw [AU,B8 (by rw [Br];omega)];rfl
  rw [e];by_cases f:k<@l
  .exact (Z2 (DN n k) (g @l (AT _) (λj a b=>absurd b `a) k `a f)).symm
  .unfold Ad;rw [AU,B8 `a];rfl
def Hh {l:cQ} (a:Af l) (k:Nat):C_ (trim l) k=C_ l k:=by unfold C_;rw [Z3 a]
def Lb {l:cQ} {k:Nat} (h:@l<=k):Ad l k=(0,1):=by
 unfold Ad;rw [AU,B8 h];rfl
def DG {l:cQ} {k:Nat} (h:@l<=k):C_ l k=0:=by
 unfold C_;rw [Lb h];exact O' _
def PJ {a b:cQ} (f:Nz b) (h:∀ k,Ad a k=Ad b k):@b<=@a:=by
 rcases BY @a @b with g | c
 .exfalso;let d:@b - 1<@b:=by omega
  let q:=f b[@b - 1] (by rw [GP];exact Ak d);let e:=h (@b - 1);rw [Lb `a] at e;unfold Ad at e;rw [AU,Ak d] at e;let i:((0,1):Nu)=b[@b - 1]:=e;rw [<-i] at q;exact q rfl
 .exact c
def Z4 {a b:cQ} (c:Af a) (d:Af b) (f:Nz a) (j:Nz b) (h:∀ k,C_ a k=C_ b k):a=b:=by
 let g:∀ k,Ad a k=Ad b k:=λk=>Do (DN c k) (DN d k) (h k);let e:@a=@b:=Nat.le_antisymm (PJ f λk=>(g k).symm) (PJ j g);refine List.ext_getElem e λi m n=>?_;let z:=g i;unfold Ad at z;rw [AU,AU,Ak m,Ak n] at z;exact z
noncomputable def cv (f g:dt):Nat->dt
 | 0,_=>0
 | n+1,k=>cv f g n k+(if n<=k then f n*g (k - n) else 0)
theorem PL {f f' g:dt} {s:Nat} {x:Rat} (a:f s=0) (b:f' s=x) (c:∀ i,i≠s->f' i=f i):∀ n k,cv f' g n k=cv f g n k+(if s<n/\s<=k then x*g (k - s) else 0)
 | 0,k=>by unfold cv;rw [jD `a];exact (Rat.add_zero 0).symm
 | n+1,k=>by
   unfold cv;rw [PL a b c n k];by_cases e:n=s
   .subst e;rw [a,b];by_cases hk:n<=k
    .rw [jE hk,jE hk,jD `a,jE {`a,hk}];ext
    .rw [jD hk,jD hk,jD `a,jD `a]
   .rw [c n e];let d:(s<n+1/\s<=k)↔(s<n/\s<=k):=by omega
    simp only [d];ext
theorem PM {f g:dt}:∀ n k,(∀ i,i<n->f i=0)->cv f g n k=0
 | 0,_,_=>rfl
 | n+1,k,h=>by
   unfold cv;rw [PM n k λi a=>h i `a,h n `a];split <;> ext
theorem PN {f g:dt} {n:Nat} (h:∀ i,n<=i->f i=0):∀ d k,cv f g (n+d) k=cv f g n k
 | 0,_=>rfl
 | d+1,k=>by
   show cv f g (n+d) k+(if n+d<=k then f (n+d)*g (k - (n+d)) else 0)=_;rw [PN h d k,h (n+d) `a];split <;> ext
theorem PP {f f' g:dt} (h:∀ i,f i=f' i):∀ n k,cv f g n k=cv f' g n k
 | 0,_=>rfl
 | n+1,k=>by unfold cv;rw [PP h n k,h n]
noncomputable def S_ (l:cQ) (M:Int):d6:=l.map λq=>q.1*(M / q.2)
def Ov (l:cQ) (M:Int):Prop:=0<M/\∀ q∈l,q.2∣M
theorem PQ {l:cQ} {M:Int} (i:Nat):(S_ l M).getD i 0=(Ad l i).1*(M / (Ad l i).2):=by
 unfold S_ Ad;rw [AU,AU,Ae];cases l[i]? with
 | none=>simp
 | some q=>rfl
theorem Ov.get {l:cQ} {M:Int} (h:Ov l M) (i:Nat):(Ad l i).2∣M:=by
 unfold Ad;rw [AU];cases e:l[i]? with
 | none=>exact Int.one_dvd M
 | some q=>exact h.2 q (BT e)
def Z5 {l:cQ} {M:Int} (h:Ov l M) (i:Nat):Wo (Ad l i) ((S_ l M).getD i 0) M:=by
 rw [PQ];exact Zy (h.get i)
def F6 {l:cQ} {M:Int} (a:Af l) (h:Ov l M) (i:Nat):C_ l i=((S_ l M).getD i 0:Rat) / (M:Rat):=J3 (AR (DN a i).pos) (AR h.1) (Z5 h i)
noncomputable def Ic (l m:cQ) (a b:Int) (n:Nat):cQ:=(List.range n).map λk=>Y_ (ps (S_ l a) (S_ m b) @l k) (a*b)
theorem Lc {l m:cQ} {d c:Int} (g:Af l) (h:Af m) (e:Ov l d) (f:Ov m c):∀ n k,(ps (S_ l d) (S_ m c) n k:Rat) / ((d*c:Int):Rat)=cv (C_ l) (C_ m) n k
 | 0,k=>O' _
 | n+1,k=>by
   let a:=Am (AR e.1);let b:=Am (AR f.1);let i:=Lc g h e f n k;unfold ps cv;rw [<-i];by_cases hk:n<=k
   .rw [jE hk,F6 g e,F6 h f];by_cases j:k - n<(S_ m c).length
    .rw [jE ⟨hk,j⟩];push_cast;ext
    .rw [jD `a,show (S_ m c).getD (k - n) 0=0 by rw [AU,B8 `a];rfl];push_cast;ext
   .rw [jD hk,jD `a];push_cast;ext
def Z6 {l m:cQ} {a b:Int} {n:Nat} (c:Ov l a) (d:Ov m b):Af (Ic l m a b n):=by
 intro q e;let {k,_,rfl}:=Au.mp e;exact FS (Bt c.1 d.1)
def Z7 {l m:cQ} {a b:Int} (f:Af l) (g:Af m) (c:Ov l a) (d:Ov m b) (k:Nat):C_ (Ic l m a b (@l+@m)) k=cv (C_ l) (C_ m) @l k:=by
 rw [<-Lc f g c d];let i:=Bt c.1 d.1;by_cases h:k<@l+@m
 .let e:Ad (Ic l m a b (@l+@m)) k=Y_ (ps (S_ l a) (S_ m b) @l k) (a*b):=by
   unfold Ic Ad;rw [AU,Ae,Dk h];rfl
  unfold C_;rw [e,Ib i]
 .rw [DG (by unfold Ic;rw [AI,BZ];omega),J2 @l k (by unfold S_;rw [AI];omega)];exact (O' _).symm
def lcm_dvd {B d M:Int} (c:0<B) (f:0<d) (a:B∣M) (b:d∣M):B*(d / ((Int.gcd B d:Nat):Int))∣M:=by
 let z:((Nat.lcm B.natAbs d.natAbs:Nat):Int)∣M:=Cd.mp (by rw [C8];exact Nat.lcm_dvd (Cd.mpr a) (Cd.mpr b))
 let e:((Nat.lcm B.natAbs d.natAbs:Nat):Int)=B*(d / ((Int.gcd B d:Nat):Int)):=by
  unfold Nat.lcm;rw [Nat.mul_div_assoc _ (Nat.gcd_dvd_right _ _)];push_cast;rw [show ((B.natAbs:Nat):Int)=B by omega,show ((d.natAbs:Nat):Int)=d by omega];rfl
 rw [<-e];exact z
theorem Ld {M:Int}:∀ (l:cQ) (B:Int),(∀ q∈l,0<q.2/\q.2∣M)->0<B->B∣M->0<l.foldl (λB q=>B*(q.2 / ((Int.gcd B q.2:Nat):Int))) B/\l.foldl (λB q=>B*(q.2 / ((Int.gcd B q.2:Nat):Int))) B∣M
 | [],B,_,a,h=>⟨a,h⟩
 | q::l,B,b,a,h=>by
   let {c,d}:=b q (BC ..);let {e,_}:=LY a c;exact Ld l _ (λr f=>b r (A6 _ f)) e (lcm_dvd a c h d)
def Dz {n:Nat} {a b:Int} (d:b≠0) (h:a∣b) (c:Bd n b):Bd n a:=c.le (C9 `a (Cd.mpr h))
def Cb {l:cQ} (e:Af l):Ov l (Ag l):=by
 let {a,b,_}:=Zx (b:=(l.foldl (λn q=>n+q.1.natAbs+q.2.natAbs) 1)) e (λq c=>by
  let d:∀ (l:cQ) (n:Nat),n<=l.foldl (λn q=>n+q.1.natAbs+q.2.natAbs) n/\∀ q∈l,q.1.natAbs+q.2.natAbs<=l.foldl (λn q=>n+q.1.natAbs+q.2.natAbs) n:=by
   intro l
   induction l with
   | nil=>intro n;exact {AT _,λ_ h=>nomatch h}
   | cons r l f=>
     intro n;let {i,g}:=f (n+r.1.natAbs+r.2.natAbs);rw [List.foldl_cons];refine {`a,λq c=>?_};rcases CP.mp c with rfl | c
     .omega
     .exact g q c
  let z:=(d l 1).2 q c;exact {Ek `a (Nat.lt_two_pow_self),Ek `a (Nat.lt_two_pow_self)})
 exact ⟨a,b⟩
def PR {l:cQ} {M:Int} (b:Af l) (h:Ov l M):Ag l∣M:=(Ld l 1 (λq a=>{(b q a).pos,h.2 q a}) `b (Int.one_dvd M)).2
def J4 (l:cQ):AV l=S_ l (Ag l):=rfl
section
variable {α:Type} [Lean.Grind.CommRing α]
noncomputable def cvL:List α->(Nat->α)->Nat->α
 | [],_,_=>0
 | x::a,b,k=>x*b k+(match k with | 0=>0 | k+1=>cvL a b k)
def BN (b:Nat->α) (k:Nat):cvL [] b k=0:=rfl
def BA (x:α) (a:List α) (b:Nat->α):cvL (x::a) b 0=x*b 0+0:=rfl
def As (x:α) (a:List α) (b:Nat->α) (k:Nat):cvL (x::a) b (k+1)=x*b (k+1)+cvL a b k:=rfl
theorem BR {b c:Nat->α} (h:∀ k,b k=c k):∀ (a:List α) (k:Nat),cvL a b k=cvL a c k
 | [],_=>rfl
 | x::a,0=>by rw [BA,BA,h 0]
 | x::a,k+1=>by rw [As,As,h (k+1),BR h a k]
theorem Hi (b c:Nat->α):∀ (a:List α) (k:Nat),cvL a (λk=>b k+c k) k=cvL a b k+cvL a c k
 | [],_=>by rw [BN,BN,BN];ext
 | x::a,0=>by rw [BA,BA,BA];ext
 | x::a,k+1=>by rw [As,As,As,Hi b c a k];ext
theorem DP (s:α) (b:Nat->α):∀ (a:List α) (k:Nat),cvL a (λk=>s*b k) k=s*cvL a b k
 | [],_=>by rw [BN,BN];ext
 | x::a,0=>by rw [BA,BA];ext
 | x::a,k+1=>by rw [As,As,DP s b a k];ext
noncomputable def Dq (b:Nat->α):Nat->α
 | 0=>0
 | k+1=>b k
theorem Le (b:Nat->α):∀ (a:List α) (k:Nat),cvL a (Dq b) k=Dq (cvL a b) k
 | [],0=>rfl
 | [],k+1=>rfl
 | x::a,0=>by rw [BA];show x*0+0=0;ext
 | x::a,1=>by
   rw [As];let h:=Le b a 0;rw [h];show x*b 0+0=cvL (x::a) b 0;rw [BA]
 | x::a,k+2=>by
   rw [As,Le b a (k+1)];show x*b (k+1)+cvL a b k=cvL (x::a) b (k+1);rw [As]
theorem F7 (x:α) (a:List α) (b:Nat->α) (k:Nat):cvL (x::a) b k=x*b k+Dq (cvL a b) k:=by
 cases k with
 | zero=>exact BA x a b
 | succ k=>exact As x a b k
theorem Hj (c:Nat->α):∀ (a b:List α) (k:Nat),cvL a (cvL b c) k=cvL b (cvL a c) k
 | [],b,k=>by
   rw [BN];let e:cvL b (cvL [] c) k=cvL b (λk=>0*c k) k:=BR (λk=>by rw [BN];ext) b k;rw [e,DP];ext
 | x::a,b,k=>by
   rw [F7];let e:cvL b (cvL (x::a) c) k=cvL b (λk=>x*c k+Dq (cvL a c) k) k:=BR (λk=>F7 x a c k) b k;rw [e,Hi,DP,Le]
   let d:Dq (cvL a (cvL b c)) k=Dq (cvL b (cvL a c)) k:=by
    cases k with
    | zero=>rfl
    | succ k=>exact Hj c a b k
   rw [d]
noncomputable def Ay:Nat->α
 | 0=>1
 | _+1=>0
theorem DH:∀ (a:List α) (k:Nat),cvL a Ay k=a.getD k 0
 | [],k=>by rw [BN];simp
 | x::a,0=>by rw [BA];show x*1+0=x;ext
 | x::a,k+1=>by
   rw [As,DH a k];show x*0+a.getD k 0=(x::a).getD (k+1) 0;rw [List.getD_cons_succ];ext
end
def Z8 {n k:Nat}:k∣2 ^ n↔∃ a,a<=n/\k=2 ^ a:=by
 constructor
 .induction n generalizing k with
  | zero=>intro h;exact {0,AT 0,by simpa using h}
  | succ n d=>
    intro h;by_cases f:2∣k
    .let {j,rfl}:=f;rw [CJ,C6 (2 ^ n) 2] at h;let {a,b,e}:=d (Nat.dvd_of_mul_dvd_mul_left `b h);exact {a+1,`a,by rw [e,CJ,C6]}
    .let c:Nat.Coprime k 2:=by
      have:Nat.gcd k 2∣2:=Nat.gcd_dvd_right k 2;let g:=C9 `b this;let i:Nat.gcd k 2≠2:=λz=>f (by rw [<-z];exact Nat.gcd_dvd_left k 2);let m:Nat.gcd k 2≠0:=λz=>by have:=Nat.eq_zero_of_gcd_eq_zero_right z;omega
      show Nat.gcd k 2=1;omega
     rw [CJ] at h;let {a,b,e}:=d (c.dvd_of_dvd_mul_right h);exact {a,`a,e}
 .rintro ⟨a,b,rfl⟩;exact Nat.pow_dvd_pow 2 b
structure Pr (p:Nat):Prop where
 two:2<=p
 div:∀ d,d∣p->d=1\/d=p
def Pr.cop {p:Nat} (h:Pr p) {a:Nat} (b:¬ p∣a):Nat.gcd a p=1:=by
 rcases h.div _ (Nat.gcd_dvd_right a p) with e | e
 .exact e
 .exact absurd (e ▸ Nat.gcd_dvd_left a p) b
def Pr.mul {p:Nat} (h:Pr p) {a b:Nat} (d:p∣a*b):p∣a\/p∣b:=by
 by_cases c:p∣a
 .exact .inl c
 .refine .inr (Nat.Coprime.dvd_of_dvd_mul_left (k:=p) (m:=a) ?_ d);have:=h.cop c;rw [Nat.gcd_comm] at this;exact this
def Pr.mulI {p:Nat} (h:Pr p) {a b:Int} (c:(p:Int)∣a*b):(p:Int)∣a\/(p:Int)∣b:=by
 let z:=Cd.mpr c;rw [Bp,C8] at z;rcases h.mul z with e | e
 .exact .inl (Cd.mp (by rw [C8];exact e))
 .exact .inr (Cd.mp (by rw [C8];exact e))
def J5 {m:Nat} (v:2<=m):∃ q,Pr q/\q∣m/\(q=m\/q*q<=m):=by
 let c:∀ n d,2<=d->(∀ e,2<=e->e<d->¬ e∣m)->m=d+n->∃ q,2<=q/\q∣m/\∀ e,2<=e->e<q->¬ e∣m:=by
  intro n
  induction n with
  | zero=>intro d a h e;exact {d,a,by rw [e];exact Nat.dvd_refl _,h}
  | succ n o=>
    intro d a h e;by_cases b:d∣m
    .exact ⟨d,a,b,h⟩
    .refine o (d+1) `a (λx p r=>?_) `a;by_cases f:x=d
     .rw [f];exact b
     .exact h x p `a
 let {q,u,g,j}:=c (m - 2) 2 (AT 2) (λe w i=>absurd i `a) `a;refine {q,{u,λd a=>?_},g,?_}
 .by_cases i:2<=d
  .right;rcases BY d q with h | h
   .exact absurd (Nat.dvd_trans a g) (j d i h)
   .exact Nat.le_antisymm (C9 `a a) h
  .left;have:d≠0:=λz=>by rw [z] at a;have:=Nat.eq_zero_of_zero_dvd a;omega
   omega
 .let {k,hk}:=g;by_cases y:k<=1
  .left
   have:k=1:=by
    rcases El k with z | z
    .rw [z] at hk;omega
    .omega
   rw [hk,this,Nat.mul_one]
  .right;rcases BY k q with h | h
   .exact absurd {q,by rw [hk,C6]} (j k `a h)
   .rw [hk];exact Em q h
theorem aM:∀ (n m:Nat) (f:Nat->Nat),(∀ i,i<m->f i<n)->(∀ i j,i<m->j<m->f i=f j->i=j)->m<=n
 | 0,m,f,h,_=>by
   rcases El m with z | z
   .omega
   .exact absurd (h 0 z) `a
 | n+1,0,_,_,_=>by omega
 | n+1,m+1,f,h,a=>by
   have:=aM n m (λi=>if f i=n then f m else f i) (λi d=>by
    show (if f i=n then f m else f i)<n;by_cases e:f i=n
    .rw [jE e];let g:=h m (Dv m);have:f m≠n:=λz=>absurd (a i m `a `a (by rw [e,z])) `a;omega
    .rw [jD e];let g:=h i `a;omega) (λi j d k e=>by
    let e:(if f i=n then f m else f i)=(if f j=n then f m else f j):=e;by_cases c:f i=n
    .rw [jE c] at e;by_cases b:f j=n
     .exact a i j `a `a (by rw [c,b])
     .rw [jD b] at e;exact absurd (a m j `a `a e) `a
    .rw [jD c] at e;by_cases b:f j=n
     .rw [jE b] at e;exact absurd (a i m `a `a e) `a
     .rw [jD b] at e;exact a i j `a `a e)
   omega
abbrev Rt:=Int×Int
noncomputable def Q_ (q:Int) (x y:Rt):Rt:=((x.1*y.1+3*(x.2*y.2)) % q,(x.1*y.2+x.2*y.1) % q)
noncomputable def B_ (q:Int):Nat->Rt
 | 0=>(1 % q,0 % q)
 | n+1=>Q_ q (2,1) (B_ q n)
def F8 {q a b c:Int} (h:a - b=q*c):a % q=b % q:=by
 have:a=b+q*c:=by omega
 rw [this,Int.add_mul_emod_self_left]
def em {a q:Int}:∃ c,a % q=a - q*c:={a / q,by have:=Int.emod_add_mul_ediv a q;omega}
def Hk (q:Int) (x y z:Rt):Q_ q (Q_ q x y) z=Q_ q x (Q_ q y z):=by
 let {a,b}:=x;let {c,d}:=y;let {e,f}:=z;let {c1,g}:=em (a:=a*c+3*(b*d)) (q:=q);let {h,i}:=em (a:=a*d+b*c) (q:=q);let {j,k}:=em (a:=c*e+3*(d*f)) (q:=q);let {m,n}:=em (a:=c*f+d*e) (q:=q);refine Prod.ext ?_ ?_
 .show ((a*c+3*(b*d)) % q*e+3*((a*d+b*c) % q*f)) % q=(a*((c*e+3*(d*f)) % q)+3*(b*((c*f+d*e) % q))) % q;rw [g,i,k,n];exact F8 (c:=a*j+3*b*m - c1*e - 3*h*f) ()
 .show ((a*c+3*(b*d)) % q*f+((a*d+b*c) % q*e)) % q=(a*((c*f+d*e) % q)+(b*((c*e+3*(d*f)) % q))) % q;rw [g,i,k,n];exact F8 (c:=a*m+b*j - c1*f - h*e) ()
def Z9 (q:Int) (x y:Rt):Q_ q x y=Q_ q y x:=by
 refine Prod.ext ?_ ?_
 .show (x.1*y.1+3*(x.2*y.2)) % q=(y.1*x.1+3*(y.2*x.2)) % q;congr 1;ext
 .show (x.1*y.2+x.2*y.1) % q=(y.1*x.2+y.2*x.1) % q;congr 1;ext
def rn (q:Int) (x:Rt):Prop:=x.1 % q=x.1/\x.2 % q=x.2
def zA (q:Int) (x y:Rt):rn q (Q_ q x y):={Int.emod_emod ..,Int.emod_emod ..}
theorem Gf (q:Int):∀ n,rn q (B_ q n)
 | 0=>{Int.emod_emod ..,Int.emod_emod ..}
 | _+1=>zA q _ _
def aB (q:Int) {x:Rt} (h:rn q x):Q_ q (B_ q 0) x=x:=by
 let {c1,d}:=em (a:=1) (q:=q);let {e,f}:=em (a:=0) (q:=q);refine Prod.ext ?_ ?_
 .show (1 % q*x.1+3*(0 % q*x.2)) % q=x.1;rw [d,f,<-h.1];rw [F8 (b:=x.1 % q) (c:=- c1*(x.1 % q) - 3*e*x.2) (),Int.emod_emod]
 .show (1 % q*x.2+0 % q*x.1) % q=x.2;rw [d,f,<-h.2];rw [F8 (b:=x.2 % q) (c:=- c1*(x.2 % q) - e*x.1) (),Int.emod_emod]
theorem Gi (q:Int):∀ m n,B_ q (m+n)=Q_ q (B_ q m) (B_ q n)
 | 0,n=>by rw [Nat.zero_add,aB q (Gf q n)]
 | m+1,n=>by
   rw [Nat.succ_add];show Q_ q (2,1) (B_ q (m+n))=Q_ q (Q_ q (2,1) (B_ q m)) (B_ q n);rw [Gi q m n,Hk]
noncomputable def aC (q:Int):Nat->Rt
 | 0=>(1 % q,0 % q)
 | n+1=>Q_ q (2,-1) (aC q n)
def r21 (q:Int):Q_ q (2,-1) (2,1)=B_ q 0:=by
 refine Prod.ext ?_ ?_
 .show (2*2+3*(-1*1)) % q=1 % q;rfl
 .show (2*1 + -1*2) % q=0 % q;rfl
theorem PU (q:Int):∀ n,Q_ q (aC q n) (B_ q n)=B_ q 0
 | 0=>aB q (Gf q 0)
 | n+1=>by
   show Q_ q (Q_ q (2,-1) (aC q n)) (Q_ q (2,1) (B_ q n))=_;rw [Hk,<-Hk q (aC q n),Z9 q (aC q n) (2,1),Hk q (2,1),PU q n,<-Hk,r21,aB q (Gf q 0)]
theorem Lf (q:Int) {m:Nat} (h:B_ q m=B_ q 0):∀ k,B_ q (m*k)=B_ q 0
 | 0=>rfl
 | k+1=>by rw [Nat.mul_succ,Gi,Lf q h k,h,aB q (Gf q 0)]
theorem rord (q:Int) {n:Nat} (c:B_ q (2 ^ (n+1))=B_ q 0) (f:B_ q (2 ^ n)≠B_ q 0):∀ d,0<d->d<2 ^ (n+1)->B_ q d≠B_ q 0:=by
 intro d
 induction d using Nat.strongRecOn with
 | _ d g=>
 intro i u e;let j:=Nat.mod_lt (2 ^ (n+1)) i
 let m:B_ q (2 ^ (n+1) % d)=B_ q 0:=by
  let o:=Nat.div_add_mod (2 ^ (n+1)) d;rw [<-o,Gi,Lf q e,aB q (Gf q _)] at c;exact c
 rcases El (2 ^ (n+1) % d) with z | z
 .let {k,hk}:=Nat.dvd_of_mod_eq_zero z;let {a,v,b}:=(Z8 (n:=n+1) (k:=d)).mp ⟨k,hk⟩
  let p:a<=n:=by
   rcases BY n a with h | h
   .exfalso;have:a=n+1:=by omega
    rw [this] at b;omega
   .exact h
  apply f;let r:2 ^ n=d*2 ^ (n - a):=by rw [b,<-Nat.pow_add];congr 1;omega
  rw [r];exact Lf q e _
 .exact g _ j z `a m
theorem aO (q:Int):∀ n,∃ c,(B_ q n).1*(B_ q n).1 - 3*((B_ q n).2*(B_ q n).2) - 1=q*c
 | 0=>by
   let {c1,e}:=em (a:=1) (q:=q);let {d,f}:=em (a:=0) (q:=q);refine {-2*c1+q*c1*c1 - 3*q*d*d,?_};show (1 % q)*(1 % q) - 3*((0 % q)*(0 % q)) - 1=_;rw [e,f];ext
 | n+1=>by
   let {c,i}:=aO q n;let {c1,e}:=em (a:=2*(B_ q n).1+3*(1*(B_ q n).2)) (q:=q);let {d,f}:=em (a:=2*(B_ q n).2+1*(B_ q n).1) (q:=q);let g:(B_ q (n+1)).1=2*(B_ q n).1+3*(1*(B_ q n).2) - q*c1:=e;let h:(B_ q (n+1)).2=2*(B_ q n).2+1*(B_ q n).1 - q*d:=f;rw [g,h];generalize (B_ q n).1=a at *;generalize (B_ q n).2=b at *;exact {c - 2*c1*(2*a+3*b)+q*c1*c1+6*d*(2*b+a) - 3*q*d*d,()}
def zB (q:Int) (n:Nat):∃ c,2*(B_ q (n+n)).1=(2*(B_ q n).1)*(2*(B_ q n).1) - 2+q*c:=by
 let {c,d}:=aO q n;rw [Gi];let {c1,b}:=em (a:=(B_ q n).1*(B_ q n).1+3*((B_ q n).2*(B_ q n).2)) (q:=q);refine {-2*c1 - 2*c,?_};show 2*(((B_ q n).1*(B_ q n).1+3*((B_ q n).2*(B_ q n).2)) % q)=_;rw [b];ext
noncomputable def ll (M:Nat):Nat->Nat->Nat
 | 0,s=>s
 | k+1,s=>ll M k ((s*s+(M - 2)) % M)
theorem PV {q:Int} {M:Nat} (f:2<=M) (g:q∣(M:Int)):∀ (k t s:Nat),q∣2*(B_ q (2 ^ t)).1 - (s:Int)->q∣2*(B_ q (2 ^ (t+k))).1 - (ll M k s:Int)
 | 0,t,s,h=>h
 | k+1,t,s,h=>by
   have:=PV f g k (t+1) ((s*s+(M - 2)) % M) (by
    let {c,i}:=zB q (2 ^ t);let {d,j}:=h;let {m,n}:=g;let e:(2:Nat) ^ (t+1)=2 ^ t+2 ^ t:=by rw [CJ];omega
    rw [e,i]
    let z:(((s*s+(M - 2)) % M:Nat):Int)=(s:Int)*s+(M - 2) - M*(((s*s+(M - 2)) / M:Nat):Int):=by
     have:=Nat.mod_add_div (s*s+(M - 2)) M
     let o:(((s*s+(M - 2)) % M:Nat):Int)+(M:Int)*(((s*s+(M - 2)) / M:Nat):Int)=(s:Int)*s+(M - 2):=by
      have:=congrArg (λx:Nat=>(x:Int)) this;simp only [Int.natCast_add,Int.natCast_mul] at this;rw [this,Int.natCast_sub f];rfl
     omega
    rw [z];generalize (((s*s+(M - 2)) / M:Nat):Int)=w;generalize (B_ q (2 ^ t)).1=a at j;let b:2*a=s+q*d:=by omega
    rw [b,n];exact {2*s*d+q*d*d+c - m+m*w,()})
   rw [show t+(k+1)=t+1+k by omega];exact this
def zC {n:Nat} (h:ll (2 ^ (n+2) - 1) n 4 % (2 ^ (n+2) - 1)=0):Pr (2 ^ (n+2) - 1):=by
 let L:4<=2 ^ (n+2):=by rw [Nat.pow_add];have:=Nat.one_le_two_pow (n:=n);omega
 generalize hM:2 ^ (n+2) - 1=M at h ⊢;let {q,o,p,y}:=J5 (m:=M) `a;rcases y with e | y
 .rw [<-e];exact o
 exfalso;let N:(q:Int)∣(M:Int):=EA.mpr p;let q2:=o.two
 let O:q≠2:=λz=>by
  rw [z] at p;have:2 ^ (n+2)=2*2 ^ (n+1):=by rw [CJ 2 (n+1)];omega
  omega
 let P:(q:Int)∣2*(B_ q (2 ^ (0+n))).1 - (ll M n 4:Int):=PV `a N n 0 4 (by
  show (q:Int)∣2*(Q_ q (2,1) (B_ q 0)).1 - 4;let {c1,r}:=em (a:=1) (q:=(q:Int));let {f,u}:=em (a:=0) (q:=(q:Int));show (q:Int)∣2*((2*(1 % (q:Int))+3*(1*(0 % (q:Int)))) % (q:Int)) - 4;let {Q,R}:=em (a:=2*(1 % (q:Int))+3*(1*(0 % (q:Int)))) (q:=(q:Int));rw [R,r,u];exact {-4*c1 - 6*f - 2*Q,()})
 let S:(q:Int)∣(ll M n 4:Int):=EA.mpr (Nat.dvd_trans p (Nat.dvd_of_mod_eq_zero h))
 let T:(q:Int)∣2*(B_ q (2 ^ n)).1:=by
  have:=C7 P S;rw [Nat.zero_add] at this;rw [Int.sub_add_cancel] at this;exact this
 let U:(q:Int)∣(B_ q (2 ^ n)).1:=by
  rcases o.mulI T with z | z
  .exfalso;let v:=EA.mp (show (q:Int)∣((2:Nat):Int) from z);have:=C9 `b v;omega
  .exact z
 let g:(q:Int)≠0:=by omega
 let k:B_ q (2 ^ (n+1))=((-1) % (q:Int),0 % (q:Int)):=by
  let e:(2:Nat) ^ (n+1)=2 ^ n+2 ^ n:=by rw [CJ];omega
  rw [e,Gi];let {c,W}:=aO q (2 ^ n);let {d,w}:=U;refine Prod.ext ?_ ?_
  .show ((B_ q (2 ^ n)).1*(B_ q (2 ^ n)).1+3*((B_ q (2 ^ n)).2*(B_ q (2 ^ n)).2)) % (q:Int)=(-1) % (q:Int);refine F8 (c:=2*q*d*d - c) ?_;generalize (B_ q (2 ^ n)).2=b at *;rw [w] at W ⊢;ext
  .show ((B_ q (2 ^ n)).1*(B_ q (2 ^ n)).2+(B_ q (2 ^ n)).2*(B_ q (2 ^ n)).1) % (q:Int)=0 % (q:Int);refine F8 (c:=2*d*(B_ q (2 ^ n)).2) ?_;rw [w];ext
 let u:B_ q (2 ^ (n+1))≠B_ q 0:=λz=>by
  rw [k] at z;let X:(-1) % (q:Int)=1 % (q:Int):=congrArg Prod.fst z;let v:(q:Int)∣-1 - 1:=HI ((Int.emod_eq_emod_iff_emod_sub_eq_zero).mp X);let Y:=Cd.mpr v;have:=C9 `b Y;rw [C8] at this;have:(-1 - 1:Int).natAbs=2:=by decide
  omega
 let r:B_ q (2 ^ (n+1+1))=B_ q 0:=by
  let e:(2:Nat) ^ (n+1+1)=2 ^ (n+1)+2 ^ (n+1):=by rw [CJ 2 (n+1)];omega
  rw [e,Gi,k];let {c1,A}:=em (a:=-1) (q:=(q:Int));let {f,B}:=em (a:=0) (q:=(q:Int));refine Prod.ext ?_ ?_
  .show ((-1) % (q:Int)*((-1) % (q:Int))+3*(0 % (q:Int)*(0 % (q:Int)))) % (q:Int)=1 % (q:Int);refine F8 (c:=2*c1+q*c1*c1+3*q*f*f) ?_;rw [A,B];ext
  .show ((-1) % (q:Int)*(0 % (q:Int))+0 % (q:Int)*((-1) % (q:Int))) % (q:Int)=0 % (q:Int);refine F8 (c:=2*f+2*q*c1*f) ?_;rw [A,B];ext
 let ord:=rord (q:Int) r u
 let C:∀ i d,0<d->i+d<2 ^ (n+2)->B_ q i≠B_ q (i+d):=λi d Z w z=>by
  let e:B_ q d=B_ q 0:=by
   let a:=PU (q:Int) i
   let b:Q_ q (aC q i) (B_ q (i+d))=B_ q d:=by
    rw [Gi,<-Hk,a,aB _ (Gf _ _)]
   rw [<-b,<-z,a]
  exact ord d Z (by have:(2:Nat) ^ (n+1+1)=2 ^ (n+2):=rfl;omega) e
 let x:∀ i,0<=(B_ q i).1/\(B_ q i).1<q/\0<=(B_ q i).2/\(B_ q i).2<q:=λi=>by
  let {a,b}:=Gf (q:Int) i;let D:(0:Int)<q:=by omega
  let E:=Ca (B_ q i).1 g;let F:=Ci (B_ q i).1 D;let G:=Ca (B_ q i).2 g;let H:=Ci (B_ q i).2 D;rw [a] at E F;rw [b] at G H;exact ⟨E,F,G,H⟩
 let pg:=aM (q*q) (2 ^ (n+2)) (λi=>(B_ q i).1.toNat*q+(B_ q i).2.toNat) (λi _=>by
  let {a,b,c,d}:=x i;let I:(B_ q i).1.toNat+1<=q:=by omega
  let d':(B_ q i).2.toNat<q:=by omega
  have:=CV q I;rw [Nat.add_mul,Nat.one_mul] at this;show (B_ q i).1.toNat*q+(B_ q i).2.toNat<q*q;omega) (λi j hi hj e=>by
  let e:(B_ q i).1.toNat*q+(B_ q i).2.toNat=(B_ q j).1.toNat*q+(B_ q j).2.toNat:=e;let {a,b,c,d}:=x i;let {I,b',c',d'}:=x j;let k:=congrArg (·% q) e;let J:=congrArg (·/ q) e;simp only [C6 _ q,Nat.mul_add_mod,Nat.mul_add_div (show 0<q by omega)] at k J;rw [Nat.mod_eq_of_lt `a,Nat.mod_eq_of_lt `a] at k;rw [Nat.div_eq_of_lt `a,Nat.div_eq_of_lt `a] at J;let K:B_ q i=B_ q j:=Prod.ext `a `a;rcases Nat.lt_trichotomy i j with h | h | h
  .exact absurd K (by have:=C i (j - i) `a `a;rw [show i+(j - i)=j by omega] at this;exact this)
  .exact h
  .exact absurd K.symm (by have:=C j (i - j) `a `a;rw [show j+(i - j)=i by omega] at this;exact this))
 omega
noncomputable def cH (M k s:Nat):Nat:=Nat.rec (motive:=λ_=>Nat->Nat) (λs=>s) (λ_ a s=>a ((s*s+(M - 2)) % M)) k s
noncomputable def cI (x:Nat) (f:Nat->Nat):Nat:=Nat.rec (motive:=λ_=>Nat) (f 0) (λn _=>f (n+1)) x
noncomputable def llo (M k j s:Nat):Nat:=Nat.rec (motive:=λ_=>Nat->Nat) (λs=>s) (λ_ a s=>cI (cH M k s) a) j s
theorem Lg (M:Nat):∀ k s,cH M k s=ll M k s
 | 0,_=>rfl
 | k+1,s=>Lg M k _
def PZ (x:Nat) (f:Nat->Nat):cI x f=f x:=by cases x <;> rfl
theorem Lh (M:Nat):∀ a b s,ll M (a+b) s=ll M b (ll M a s)
 | 0,b,s=>by rw [Nat.zero_add];rfl
 | a+1,b,s=>by rw [Nat.succ_add];exact Lh M a b _
theorem Pa (M k:Nat):∀ j s,llo M k j s=ll M (k*j) s
 | 0,_=>rfl
 | j+1,s=>by
   show cI (cH M k s) (llo M k j)=_;rw [PZ,Lg,Pa M k j,<-Lh];congr 1;rw [Nat.mul_succ,Nat.add_comm]
noncomputable def mers (e:Nat):Nat:=2 ^ e - 1
def F9 {n r k j:Nat} (e:n=k*j+r) (h:Nat.beq (cI (llo (mers (n+2)) k j 4) (λs=>cH (mers (n+2)) r s % mers (n+2))) 0=true):Pr (mers (n+2)):=by
 refine zC ?_;replace h:=Nat.eq_of_beq_eq_true h;rw [PZ,Pa,Lg,<-Lh,<-e] at h;exact h
def zD:Pr (mers 61):=F9 (n:=59) (r:=9) (k:=10) (j:=5) rfl (by decide +kernel)
def zE:Pr (mers 127):=F9 (n:=125) (r:=5) (k:=20) (j:=6) rfl (by decide +kernel)
def zF:Pr (mers 521):=F9 (n:=519) (r:=19) (k:=50) (j:=10) rfl (by decide +kernel)
def zG:Pr (mers 1279):=F9 (n:=1277) (r:=77) (k:=100) (j:=12) rfl (by decide +kernel)
def zH:Pr (mers 4423):=F9 (n:=4421) (r:=21) (k:=100) (j:=44) rfl (by decide +kernel)
def zI:Pr (mers 9941):=F9 (n:=9939) (r:=39) (k:=100) (j:=99) rfl (by decide +kernel)
def zJ:Pr (mers 21701):=F9 (n:=21699) (r:=99) (k:=150) (j:=144) rfl (by decide +kernel)
def zK:Pr (mers 44497):=F9 (n:=44495) (r:=95) (k:=200) (j:=222) rfl (by decide +kernel)
noncomputable def co (ns:d6) (k:Nat):Int:=ns.getD k 0
section
variable {α:Type} [Lean.Grind.CommRing α]
noncomputable def BF:List α->List α->List α
 | [],b=>b
 | a,[]=>a
 | x::a,y::b=>(x+y)::BF a b
def J6 (a:List α):BF a []=a:=by cases a <;> rfl
theorem B4 (g:Nat->α):∀ (a b:List α) (k:Nat),cvL (BF a b) g k=cvL a g k+cvL b g k
 | [],b,k=>by show cvL b g k=0+cvL b g k;ext
 | x::a,[],k=>by rw [J6,BN];ext
 | x::a,y::b,0=>by show cvL ((x+y)::BF a b) g 0=_;rw [BA,BA,BA];ext
 | x::a,y::b,k+1=>by show cvL ((x+y)::BF a b) g (k+1)=_;rw [As,As,As,B4 g a b k];ext
theorem BO (c:α) (g:Nat->α):∀ (a:List α) (k:Nat),cvL (a.map (c*·)) g k=c*cvL a g k
 | [],k=>by show (0:α)=c*0;ext
 | x::a,0=>by rw [CZ,BA,BA];ext
 | x::a,k+1=>by rw [CZ,As,As,BO c g a k];ext
noncomputable def A9 (s:Nat) (f:Nat->α) (k:Nat):α:=if s<=k then f (k - s) else 0
theorem Id (g:Nat->α):∀ (s:Nat) (a:List α) (k:Nat),cvL (List.replicate s 0++a) g k=A9 s (cvL a g) k
 | 0,a,k=>by unfold A9;rw [jE (Ah k)];rfl
 | s+1,a,0=>by unfold A9;rw [jD `a];show cvL (0::(List.replicate s 0++a)) g 0=0;rw [BA];ext
 | s+1,a,k+1=>by
   show cvL (0::(List.replicate s 0++a)) g (k+1)=_;rw [As,Id g s a k];unfold A9;by_cases h:s<=k
   .rw [jE h,jE `a,show k+1 - (s+1)=k - s by omega];ext
   .rw [jD h,jD `a];ext
noncomputable def Bm:List α->List α->List α
 | [],_=>[]
 | x::a,b=>BF (b.map (x*·)) (0::Bm a b)
theorem CC (g:Nat->α):∀ (a b:List α) (k:Nat),cvL (Bm a b) g k=cvL a (cvL b g) k
 | [],b,k=>rfl
 | x::a,b,k=>by
   show cvL (BF (b.map (x*·)) (0::Bm a b)) g k=_;rw [B4,BO,F7,F7]
   let e:Dq (cvL (Bm a b) g) k=Dq (cvL a (cvL b g)) k:=by
    cases k with
    | zero=>rfl
    | succ k=>exact CC g a b k
   rw [e];ext
theorem Dr (g:Nat->α) (s:α):∀ (a:List α) (k:Nat),cvL (a++[s]) g k=cvL a g k+s*A9 @a g k
 | [],0=>by show cvL [s] g 0=0+s*g 0;rw [BA];ext
 | [],k+1=>by show cvL [s] g (k+1)=0+s*g (k+1);rw [As,BN];ext
 | x::a,0=>by show cvL (x::(a++[s])) g 0=_;rw [BA,BA];unfold A9;rw [jD (by simp)];ext
 | x::a,k+1=>by
   show cvL (x::(a++[s])) g (k+1)=_;rw [As,As,Dr g s a k]
   let e:A9 (x::a).length g (k+1)=A9 @a g k:=by
    unfold A9;rw [Cj];by_cases h:@a<=k
    .rw [jE h,jE `a,show k+1 - (@a+1)=k - @a by omega]
    .rw [jD h,jD `a]
   rw [e];ext
def GA (a:List α) {g:Nat->α} (h:∀ k,g k=0) (k:Nat):cvL a g k=0:=by
 rw [BR (c:=λk=>0*g k) (λj=>by rw [h j];ext) a k,DP];ext
end
def DI (a:d6) (k:Nat):co a k=cvL a Ay k:=(DH a k).symm
def CD (a b:d6) (k:Nat):cvL a (co b) k=cvL b (co a) k:=by
 rw [BR (DI b) a k,Hj,BR (λj=>(DI a j).symm) b k]
def Ao {a:d6} {k:Nat} (h:@a<=k):co a k=0:=by
 unfold co;rw [AU,B8 h];rfl
theorem Ef {g:dq} {n:Nat} (h:∀ i,n<=i->g i=0):∀ (a:d6) (k:Nat),@a+n<=k+1->cvL a g k=0
 | [],_,_=>rfl
 | x::a,0,hk=>by
   rw [Cj] at hk;rw [BA,h 0 `a];omega
 | x::a,k+1,hk=>by
   rw [Cj] at hk;rw [As,h (k+1) `a,Ef h a k `a];omega
theorem Li {p:Int} {g:dq} {n:Nat} (h:∀ i,n<i->p∣g i):∀ (a:d6) (k:Nat),@a+n<=k->p∣cvL a g k
 | [],_,_=>DA p
 | x::a,0,hk=>absurd hk (by rw [Cj];omega)
 | x::a,k+1,hk=>by
   rw [Cj] at hk;rw [As];exact C7 (Fl (h (k+1) `a)) (Li h a k `a)
theorem J7 {p:Nat} (hp:Pr p) {g:dq} {n:Nat} (q:¬ (p:Int)∣g n) (h:∀ i,n<i->(p:Int)∣g i) (S:d6) :
  (∀ k,n<=k->(p:Int)∣cvL S g k)->∀ s∈S,(p:Int)∣s:=by
 induction hl:@S generalizing S with
 | zero=>intro _ s d;rw [CU.mp hl] at d;exact nomatch d
 | succ m r=>
   intro hk;let j:S≠[]:=λz=>by rw [z] at hl;simp at hl
   let {T,t,rfl}:∃ T t,S=T++[t]:={S.dropLast,S.getLast j,(GT j).symm};let u:@T=m:=by simpa using hl
   let o:(p:Int)∣t:=by
    let a:=hk (@T+n) `a;rw [Dr] at a;let b:=Li h T (@T+n) (AT _)
    let c:(p:Int)∣t*A9 @T g (@T+n):=by
     have:=Int.dvd_sub a b;rwa [show ∀ x y:Int,x+y - x=y by intro x y;omega] at this
    unfold A9 at c;rw [jE `a,show @T+n - @T=n by omega] at c;rcases hp.mulI c with z | z
    .exact z
    .exact absurd z q
   let e:=r T u (λk f=>by
    let a:=hk k f;rw [Dr] at a;have:=Int.dvd_sub a (GN (c:=A9 @T g k) o);rwa [show ∀ x y:Int,x+y - y=x by intro x y;omega] at this)
   intro s d;rcases C5.mp d with h | h
   .exact e s h
   .rw [BM.mp h];exact o
def Lz (g:d6):Prop:=0<@g/\co g (@g - 1)≠0
def QI (r o f:dq):Prop:=∃ d:Int,d≠0/\∃ U V:d6,∀ k,d*f k=cvL U r k+cvL V o k
def MQ (g f:dq):Prop:=∃ c:Int,c≠0/\∃ A:d6,∀ k,c*f k=cvL A g k
def QI.congr {r o f h:dq} (q:QI r o f) (e:∀ k,h k=f k):QI r o h:=by
 let {d,a,U,V,b}:=q;exact {d,a,U,V,λk=>by rw [e k];exact b k}
theorem QI.left (r o:dq):QI r o r:=⟨1,`b,[1],[],λk=>by
 rw [BN];cases k with
 | zero=>rw [BA];omega
 | succ k=>rw [As,BN];omega⟩
theorem QI.right (r o:dq):QI r o o:=⟨1,`b,[],[1],λk=>by
 rw [BN];cases k with
 | zero=>rw [BA];omega
 | succ k=>rw [As,BN];omega⟩
def QI.less {r o f h:dq} (q:QI r o f) (i:QI r o h) (a w:Int) (s:Nat):QI r o (λk=>a*f k - w*A9 s h k):=by
 let {d,j,U,V,m}:=q;let {c,e,n,p,g}:=i;refine {d*c,CA j e,BF (U.map (c*a*·)) (List.replicate s 0++n.map (-(d*w)*·)),BF (V.map (c*a*·)) (List.replicate s 0++p.map (-(d*w)*·)),λk=>?_};show d*c*(a*f k - w*A9 s h k)=_;rw [B4,B4,BO,BO,Id,Id];unfold A9;let u:=m k;by_cases b:s<=k
 .rw [jE b,jE b,jE b,BO,BO];let v:=g (k - s);ext
 .rw [jD b,jD b,jD b];ext
def QI.scal {r o f:dq} {c:Int} (a:c≠0) (q:QI r o (λk=>c*f k)):QI r o f:=by
 let {d,b,U,V,e}:=q;exact {d*c,CA b a,U,V,λk=>by rw [<-e k];ext}
theorem MQ.refl (g:dq):MQ g g:=⟨1,`b,[1],λk=>by
 cases k with
 | zero=>rw [BA];omega
 | succ k=>rw [As,BN];omega⟩
def MQ.zero (g:dq) {f:dq} (h:∀ k,f k=0):MQ g f:=⟨1,`b,[],λk=>by rw [BN,h k];rfl⟩
def MQ.congr {g f h:dq} (m:MQ g f) (e:∀ k,h k=f k):MQ g h:=by
 let {c,a,A,b}:=m;exact {c,a,A,λk=>by rw [e k];exact b k}
def MQ.less {g f h:dq} (m:MQ g f) (j:MQ g h) (a w:Int) (s:Nat):MQ g (λk=>a*f k - w*A9 s h k):=by
 let {d,n,U,o}:=m;let {c,e,p,i}:=j;refine {d*c,CA n e,BF (U.map (c*a*·)) (List.replicate s 0++p.map (-(d*w)*·)),λk=>?_};show d*c*(a*f k - w*A9 s h k)=_;rw [B4,BO,Id];unfold A9;let q:=o k;by_cases b:s<=k
 .rw [jE b,jE b,BO];let r:=i (k - s);ext
 .rw [jD b,jD b];ext
def MQ.scal {g f:dq} {c:Int} (a:c≠0) (m:MQ g (λk=>c*f k)):MQ g f:=by
 let {d,b,A,e}:=m;exact {d*c,CA b a,A,λk=>by rw [<-e k];ext}
def MQ.trans {g f h:dq} (m:MQ g f) (a:MQ f h):MQ g h:=by
 let {c,b,A,i}:=m;let {d,j,B,n}:=a;refine {c*d,CA b j,Bm B A,λk=>?_};rw [CC];let e:c*cvL B f k=cvL B (cvL A g) k:=by rw [<-DP];exact BR i B k
 rw [<-e,<-n k];ext
def MQ.of_QI {r o f g:dq} (a:MQ g r) (b:MQ g o) (q:QI r o f):MQ g f:=by
 let {d,h,U,V,i}:=q;let {c,j,A,m}:=a;let {e,n,B,p}:=b;refine {c*e*d,CA (CA j n) h,BF ((Bm U A).map (e*·)) ((Bm V B).map (c*·)),λk=>?_};rw [B4,BO,BO,CC,CC];let u:c*cvL U r k=cvL U (cvL A g) k:=by rw [<-DP];exact BR m U k
 let v:e*cvL V o k=cvL V (cvL B g) k:=by rw [<-DP];exact BR p V k
 let w:=i k;ext
def QI.of_MQ {r o f h:dq} (q:QI r o f) (m:MQ f h):QI r o h:=by
 let {c,a,A,b}:=m;let {d,g,U,V,i}:=q;refine {d*c,CA g a,Bm A U,Bm A V,λk=>?_};rw [CC,CC];let e:d*cvL A f k=cvL A (cvL U r) k+cvL A (cvL V o) k:=by rw [<-DP,<-Hi];exact BR i A k
 rw [<-e,<-b k];ext
def Lj {f:d6} (h:co f (@f - 1)=0) (k:Nat):co f.dropLast k=co f k:=by
 unfold co at *;rw [AU,AU];rw [List.getElem?_dropLast];by_cases hk:k<@f - 1
 .rw [jE hk]
 .rw [jD hk];by_cases e:k=@f - 1
  .subst e;rw [AU] at h;rw [h];rfl
  .rw [B8 `a]
theorem EJ (f:d6):(∀ k,co f k=0)\/∃ g,Lz g/\@g<=@f/\∀ k,co g k=co f k:=by
 induction hn:@f generalizing f with
 | zero=>exact .inl λk=>Ao `a
 | succ n a=>
   by_cases h:co f (@f - 1)=0
   .rcases a f.dropLast (by rw [List.length_dropLast];omega) with z | ⟨g,b,d,c⟩
    .exact .inl λk=>by rw [<-Lj h];exact z k
    .exact .inr {g,b,`a,λk=>by rw [c,Lj h]}
   .exact .inr {f,{`a,h},`a,λ_=>rfl}
def J8 (n:Nat) (F:dq) (k:Nat):co ((List.range n).map F) k=if k<n then F k else 0:=by
 unfold co;rw [AU,Ae];by_cases h:k<n
 .rw [jE h,Dk h];rfl
 .rw [jD h,B8 (by rw [BZ];omega)];rfl
structure Gen (r o:dq) (g:d6):Prop where
 lz:Lz g
 qi:QI r o (co g)
 len:∀ h,Lz h->QI r o (co h)->@g<=@h
 last:∀ h,Lz h->QI r o (co h)->@h=@g->(co g (@g - 1)).natAbs<=(co h (@h - 1)).natAbs
def zL {r o:dq} {f:d6} (d:Lz f) (q:QI r o (co f)):∃ g,Gen r o g:=by
 let L:∀ n,(∃ f,@f=n/\Lz f/\QI r o (co f))->∃ m,(∃ f,@f=m/\Lz f/\QI r o (co f))/\∀ h,Lz h->QI r o (co h)->m<=@h:=by
  intro n
  induction n using Nat.strongRecOn with
  | _ n e=>
    intro k;by_cases a:∃ m,m<n/\∃ f,@f=m/\Lz f/\QI r o (co f)
    .let {m,i,a}:=a;exact e m i a
    .refine {n,k,λh b c=>?_};rcases BY @h n with z | z
     .exact absurd {@h,z,h,2,b,c} a
     .exact z
 let {m,{p,u,v,w},i}:=L @f ⟨f,rfl,d,q⟩
 let M:∀ n,(∃ f,@f=m/\Lz f/\QI r o (co f)/\(co f (@f - 1)).natAbs=n)->∃ g,Gen r o g:=by
  intro n
  induction n using Nat.strongRecOn with
  | _ n e=>
    rintro ⟨f,x,d,y,B⟩;by_cases a:∃ j,j<n/\∃ f,@f=m/\Lz f/\QI r o (co f)/\(co f (@f - 1)).natAbs=j
    .let {j,A,a}:=a;exact e j A a
    .refine {f,d,y,λh b c=>by rw [x];exact i h b c,λh b c C=>?_};rcases BY (co h (@h - 1)).natAbs (co f (@f - 1)).natAbs with z | z
     .exact absurd {_,`a,h,`a,b,c,2} a
     .exact z
 exact M _ ⟨p,u,v,w,rfl⟩
theorem Gen.mq {r o:dq} {g:d6} (G:Gen r o g):∀ (n:Nat) (f:d6),@f<=n->QI r o (co f)->MQ (co g) (co f)
 | 0,f,h,_=>MQ.zero _ λk=>Ao `a
 | n+1,f,h,q=>by
   rcases EJ f with z | ⟨b,u,A,i⟩
   .exact MQ.zero _ z
   let j:QI r o (co b):=q.congr i;let B:=G.len b u j;refine MQ.congr (f:=co b) ?_ λk=>(i k).symm;generalize C:@b - @g=s;let D:=G.lz.1
   letI F:d6:=(List.range (@b - 1)).map λk=>co g (@g - 1)*co b k - co b (@b - 1)*A9 s (co g) k
   let p:∀ k,co F k=co g (@g - 1)*co b k - co b (@b - 1)*A9 s (co g) k:=λk=>by
    rw [J8];by_cases hk:k<@b - 1
    .rw [jE hk]
    .rw [jD hk];unfold A9;by_cases e:k=@b - 1
     .rw [jE `a,e,show @b - 1 - s=@g - 1 by omega];ext
     .rw [Ao (a:=b) `a];by_cases d:s<=k
      .rw [jE d,Ao (a:=g) (k:=k - s) `a];omega
      .rw [jD d];omega
   let v:QI r o (co F):=QI.congr (j.less G.qi (co g (@g - 1)) (co b (@b - 1)) s) p
   let w:@F<=n:=by
    have:@F=@b - 1:=by show ((List.range (@b - 1)).map _).length=_;rw [AI,BZ]
    omega
   let m:=Gen.mq G n F w v;let x:=MQ.less (MQ.congr m λk=>(p k).symm) (MQ.refl (co g)) 1 (-(co b (@b - 1))) s;refine MQ.scal (c:=co g (@g - 1)) G.lz.2 (MQ.congr x λk=>?_);show _=1*_ - _*A9 s (co g) k;generalize A9 s (co g) k=y;ext
def Gen.prim {r o:dq} {g:d6} (G:Gen r o g) {p:Nat} (hp:2<=p):∃ n,¬ (p:Int)∣co g n/\∀ i,n<i->(p:Int)∣co g i:=by
 let a:∀ n,(∀ i,n<=i->(p:Int)∣co g i)->(∀ i,(p:Int)∣co g i)\/∃ n,¬ (p:Int)∣co g n/\∀ i,n<i->(p:Int)∣co g i:=by
  intro n
  induction n with
  | zero=>intro h;exact .inl λi=>h i (Ah i)
  | succ n u=>
    intro h;by_cases j:(p:Int)∣co g n
    .exact u λi b=>by
      by_cases e:i=n
      .rw [e];exact j
      .exact h i `a
    .exact .inr {n,j,λi b=>h i `a}
 rcases a @g (λi b=>by rw [Ao b];exact DA _) with h | h
 .exfalso
  letI h1:d6:=g.map (·/ (p:Int))
  let d:∀ k,(p:Int)*co h1 k=co g k:=λk=>by
   have:co h1 k=co g k / (p:Int):=by
    show (g.map (·/ (p:Int))).getD k 0=g.getD k 0 / (p:Int);rw [AU,AU,Ae];cases g[k]? with
    | none=>exact (Int.zero_ediv _).symm
    | some z=>rfl
   rw [this,FG (h k)]
  let v:(p:Int)≠0:=by omega
  let Cn:@h1=@g:=AI ..;let m:co h1 (@h1 - 1)≠0:=λz=>G.lz.2 (by rw [<-d,<-Cn,z];omega);let w:Lz h1:={by rw [Cn];exact G.lz.1,m};let x:QI r o (co h1):=QI.scal (c:=(p:Int)) v (QI.congr G.qi d);let q:=G.last h1 w x Cn;let f:=d (@g - 1);rw [<-Cn] at f;rw [Cn] at f q;rw [<-f,Bp,C8] at q;rw [Cn] at m;let y:0<(co h1 (@g - 1)).natAbs:=by omega
  have:=CV (co h1 (@g - 1)).natAbs hp;omega
 .exact h
def Gen.loc {r o:dq} {g:d6} (G:Gen r o g) {p:Nat} (hp:Pr p) {f:dq} (m:MQ (co g) f) :
  ∃ (c:Int) (A:d6),¬ (p:Int)∣c/\∀ k,c*f k=cvL A (co g) k:=by
 let {n,v,w}:=G.prim hp.two;let {c,x,A,b}:=m
 let i:∀ (m:Nat) (c:Int) (A:d6),c.natAbs<=m->c≠0->(∀ k,c*f k=cvL A (co g) k)->∃ (c:Int) (A:d6),¬ (p:Int)∣c/\∀ k,c*f k=cvL A (co g) k:=by
  intro m
  induction m with
  | zero=>intro c A h u;omega
  | succ m y=>
    intro c A h u b;by_cases j:(p:Int)∣c
    .let B:∀ a∈A,(p:Int)∣a:=J7 hp v w A λk _=>by rw [<-b k];exact GN j
     let {d,rfl}:=j;let C:=hp.two;let q:d≠0:=λz=>u (by rw [z];omega)
     let D:A=(A.map (·/ (p:Int))).map ((p:Int)*·):=by
      rw [DW]
      conv=>lhs;rw [<-List.map_id A]
      refine FE λa E=>?_;show a=(p:Int)*(a / (p:Int));rw [FG (B a E)]
     refine y d (A.map (·/ (p:Int))) ?_ q λk=>?_
     .rw [Bp,C8] at h;let F:0<d.natAbs:=by omega
      have:=CV d.natAbs C;omega
     .let e:=b k;rw [D,BO,Int.mul_assoc] at e;exact Int.eq_of_mul_eq_mul_left `a e
    .exact ⟨c,A,j,b⟩
 exact i _ c A (AT _) x b
theorem zM (a b:Nat):∃ x y:Int,x*a+y*b=(Nat.gcd a b:Int):=by
 induction a,b using Nat.gcd.induction with
 | H0 n=>exact ⟨0,1,by simp⟩
 | H1 m n d c=>
   let {x,y,h}:=c;refine {y - x*((n / m:Nat):Int),x,?_};rw [Nat.gcd_rec,<-h]
   let e:(n:Int)=(m:Int)*((n / m:Nat):Int)+((n % m:Nat):Int):=by
    have:=Nat.div_add_mod n m;exact_mod_cast this.symm
   generalize ((n / m:Nat):Int)=q at *;generalize ((n % m:Nat):Int)=w at *;rw [e];ext
def zN (a b:Int):∃ x y:Int,x*a+y*b=(Int.gcd a b:Int):=by
 let {x,y,h}:=zM a.natAbs b.natAbs
 let s:∀ z:Int,∃ e:Int,(z.natAbs:Int)=e*z:=λz=>by
  rcases Int.natAbs_eq z with h | h
  .exact ⟨1,`a⟩
  .exact {-1,`a}
 let {e,c}:=s a;let {f,d}:=s b;refine {x*e,y*f,?_};show _=((Nat.gcd a.natAbs b.natAbs:Nat):Int);rw [<-h,c,d];ext
def Dm (p:Int) (g f:dq):Prop:=∃ S:d6,∀ k,p∣f k - cvL S g k
def Gen.dm {r o:dq} {g:d6} (G:Gen r o g) {p:Nat} (hp:Pr p) {f:dq} (m:MQ (co g) f):Dm (p:Int) (co g) f:=by
 let {c,A,d,e}:=G.loc hp m
 let b:Int.gcd c (p:Int)=1:=by
  have:=hp.cop (a:=c.natAbs) λz=>d (Cd.mp (by rw [C8];exact z));exact this
 let {x,y,i}:∃ x y:Int,x*c+y*(p:Int)=1:=by
  let {x,y,h}:=zN c (p:Int);exact {x,y,by rw [h,b];rfl}
 refine {A.map (x*·),λk=>{f k*y,?_}};rw [BO,<-e k];ext
def Dm.less {p:Int} {g f h:dq} (m:Dm p g f) (d:Dm p g h) (a w:Int) (s:Nat):Dm p g (λk=>a*f k - w*A9 s h k):=by
 let {S,e}:=m;let {i,c}:=d;refine {BF (S.map (a*·)) (List.replicate s 0++i.map (-w*·)),λk=>?_};show p∣a*f k - w*A9 s h k - _;rw [B4,BO,Id];unfold A9;let {x,j}:=e k;by_cases b:s<=k
 .rw [jE b,jE b,BO];let {y,n}:=c (k - s);exact {a*x - w*y,()}
 .rw [jD b,jD b];exact {a*x,()}
def Dm.congr {p:Int} {g f h:dq} (m:Dm p g f) (e:∀ k,p∣h k - f k):Dm p g h:=by
 let {S,a}:=m;exact {S,λk=>by have:=C7 (e k) (a k);rwa [show ∀ x y z:Int,x - y+(y - z)=x - z by intro x y z;omega] at this}
def Dm.zero (p:Int) (g:dq) {f:dq} (h:∀ k,p∣f k):Dm p g f:={[],λk=>by rw [BN];simpa using h k}
def Gen.lead {r o:dq} {g R:d6} (G:Gen r o g) {p:Nat} (hp:Pr p) (D:Lz R) (m:MQ (co g) (co R)) (h:¬ (p:Int)∣co R (@R - 1)):¬ (p:Int)∣co g (@g - 1):=by
 intro E;let {n,b,F}:=G.prim hp.two;let {c,A,d,f}:=G.loc hp m
 let M:n+1<@g:=by
  rcases BY n @g with z | z
  .rcases BY (n+1) @g with y | y
   .exact y
   .exact absurd E (by rw [show @g - 1=n by omega];exact b)
  .exact absurd (by rw [Ao z];exact DA _) b
 rcases EJ A with z | ⟨B,q,_,H⟩
 .have:c*co R (@R - 1)=0:=by
   rw [f,CD,GA g z]
  rcases En.mp this with e | e
  .exact d (by rw [e];exact DA _)
  .exact D.2 e
 .let u:∀ k,c*co R k=cvL B (co g) k:=λk=>by rw [f,CD,BR (λj=>(H j).symm) g k,<-CD]
  let N:@B+@g<=@R+1:=by
   rcases BY (@R+1) (@B+@g) with z | z
   .exfalso;let v:=q.1;let O:=G.lz.1;let e:=u (@B - 1+(@g - 1));rw [Ao `a] at e;let w:B≠[]:=λz=>by rw [z] at v;simp at v
    let {T,t,a}:∃ T t,B=T++[t]:={B.dropLast,B.getLast w,(GT w).symm};let I:@T=@B - 1:=by rw [a];simp
    let J:co B (@B - 1)=t:=by rw [<-I,a];unfold co;simp [AU]
    rw [a,Dr,<-a,Ef (n:=@g) (λi K=>Ao K) T _ `a] at e;unfold A9 at e;rw [jE `a,show @B - 1+(@g - 1) - @T=@g - 1 by omega] at e;let L:t*co g (@g - 1)=0:=by omega
    rcases En.mp L with x | x
    .exact q.2 (J.trans x)
    .exact G.lz.2 x
   .exact z
  let C:=Li F B (@R - 1) `a;rw [<-u] at C;rcases hp.mulI C with x | x
  .exact d x
  .exact h x
def Dm.len {p:Nat} (hp:Pr p) {g f:d6} (o:0<@g) (b:¬ (p:Int)∣co g (@g - 1)) (d:Dm (p:Int) (co g) (co f)) (j:∃ k,¬ (p:Int)∣co f k):@g<=@f:=by
 rcases BY @f @g with z | z
 .exfalso;let {S,a}:=d
  let sS:=J7 hp b (λi q=>by rw [Ao `a];exact DA _) S λk hk=>by
   have:=a k;rw [Ao `a] at this;let e:=Int.dvd_neg.mpr this;rwa [show ∀ x:Int,-(0 - x)=x by intro x;omega] at e
  let {k,hk}:=j;apply hk
  let c:∀ (S:d6),(∀ s∈S,(p:Int)∣s)->∀ k,(p:Int)∣cvL S (co g) k:=by
   intro S
   induction S with
   | nil=>intro _ k;exact DA _
   | cons x S m=>
     intro h k;rw [F7];refine C7 (GN (h x (BC ..))) ?_;cases k with
     | zero=>exact DA _
     | succ k=>exact m (λs n=>h s (A6 _ n)) k
  have:=C7 (a k) (c S sS k);rwa [Int.sub_add_cancel] at this
 .exact z
structure RC (r o:dq) (g:d6):Prop where
 lz:Lz g
 left:MQ (co g) r
 right:MQ (co g) o
 qi:QI r o (co g)
def Gen.rc {R O g:d6} (G:Gen (co R) (co O) g):RC (co R) (co O) g:=
 {G.lz,G.mq _ R (AT _) (QI.left _ _),G.mq _ O (AT _) (QI.right _ _),G.qi}
def zO {r o:dq} {g h:d6} (G:RC r o g) (b:Lz h) (f:MQ (co h) r) (m:MQ (co h) o) (J:@g<=@h):RC r o h:=by
 refine {b,f,m,G.qi.of_MQ ?_};let {d,A,T,p}:=MQ.of_QI f m G.qi;rcases EJ T with z | ⟨B,c,_,C⟩
 .exfalso;have:d*co g (@g - 1)=0:=by rw [p,CD,GA h z]
  rcases En.mp this with e | e
  .exact A e
  .exact G.lz.2 e
 .let q:∀ k,d*co g k=cvL B (co h) k:=λk=>by rw [p,CD,BR (λj=>(C j).symm) h k,<-CD]
  let u:=c.1;let K:=b.1;let v:B≠[]:=λz=>by rw [z] at u;simp at u
  let {X,t,a}:∃ X t,B=X++[t]:={B.dropLast,B.getLast v,(GT v).symm};let D:@X=@B - 1:=by rw [a];simp
  let w:co B (@B - 1)=t:=by rw [<-D,a];unfold co;simp [AU]
  let one:@B=1:=by
   rcases BY 1 @B with y | y
   .exfalso;let e:=q (@B - 1+(@h - 1));rw [Ao `a,a,Dr,<-a,Ef (n:=@h) (λi E=>Ao E) X _ `a] at e;unfold A9 at e;rw [jE `a,show @B - 1+(@h - 1) - @X=@h - 1 by omega] at e;let F:t*co h (@h - 1)=0:=by omega
    rcases En.mp F with x | x
    .exact c.2 (w.trans x)
    .exact b.2 x
   .omega
  let H:X=[]:=CU.mp `a;let I:t≠0:=λz=>c.2 (w.trans z);refine {t,I,[d],λk=>?_};let e:=q k;rw [a,H] at e;cases k with
  | zero=>rw [BA];rw [show ([]++[t]:d6)=[t] from rfl,BA] at e;omega
  | succ k=>rw [As,BN];rw [show ([]++[t]:d6)=[t] from rfl,As,BN] at e;omega
def Prim (g:d6):Prop:=∀ c:Int,(∀ k,c∣co g k)->c.natAbs=1
def Prim.top {g:d6} (P:Prim g) {p:Nat} (hp:2<=p):∃ n,¬ (p:Int)∣co g n/\∀ i,n<i->(p:Int)∣co g i:=by
 let a:∀ n,(∀ i,n<=i->(p:Int)∣co g i)->(∀ i,(p:Int)∣co g i)\/∃ n,¬ (p:Int)∣co g n/\∀ i,n<i->(p:Int)∣co g i:=by
  intro n
  induction n with
  | zero=>intro h;exact .inl λi=>h i (Ah i)
  | succ n d=>
    intro h;by_cases c:(p:Int)∣co g n
    .exact d λi b=>by
      by_cases e:i=n
      .rw [e];exact c
      .exact h i `a
    .exact .inr {n,c,λi b=>h i `a}
 rcases a @g (λi b=>by rw [Ao b];exact DA _) with h | h
 .have:=P (p:Int) h;omega
 .exact h
def U_ {g:d6} (P:Prim g) {f:dq} (m:MQ (co g) f):∃ A:d6,∀ k,f k=cvL A (co g) k:=by
 let {c,u,A,b}:=m
 let i:∀ (m:Nat) (c:Int) (A:d6),c.natAbs<=m->c≠0->(∀ k,c*f k=cvL A (co g) k)->∃ A:d6,∀ k,f k=cvL A (co g) k:=by
  intro m
  induction m with
  | zero=>intro c A h o;omega
  | succ m v=>
    intro c A h o b;by_cases q:c.natAbs=1
    .rcases Int.natAbs_eq c with e | e
     .exact {A,λk=>by rw [<-b k,e,q];omega}
     .exact {A.map (-1*·),λk=>by rw [BO,<-b k,e,q];omega}
    .let {p,hp,w,_}:=J5 (m:=c.natAbs) `a;let r:(p:Int)∣c:=Cd.mp (by rw [C8];exact w);let {n,x,y}:=P.top hp.two;let B:∀ a∈A,(p:Int)∣a:=J7 hp x y A λk _=>by rw [<-b k];exact GN r
     let {d,rfl}:=r;let C:=hp.two;let j:d≠0:=λz=>o (by rw [z];omega)
     let D:A=(A.map (·/ (p:Int))).map ((p:Int)*·):=by
      rw [DW]
      conv=>lhs;rw [<-List.map_id A]
      refine FE λa E=>?_;show a=(p:Int)*(a / (p:Int));rw [FG (B a E)]
     refine v d (A.map (·/ (p:Int))) ?_ j λk=>?_
     .rw [Bp,C8] at h;let F:0<d.natAbs:=by omega
      have:=CV d.natAbs C;omega
     .let e:=b k;rw [D,BO,Int.mul_assoc] at e;exact Int.eq_of_mul_eq_mul_left `a e
 exact i _ c A (AT _) u b
noncomputable def evI:d6->Int->Int
 | [],_=>0
 | a::l,x=>a+x*evI l x
theorem J9:∀ (l:d6) (x:Int),(∀ k,co l k=0)->evI l x=0
 | [],_,_=>rfl
 | a::l,x,h=>by
   let b:a=0:=h 0;show a+x*evI l x=0;rw [b,J9 l x λk=>h (k+1)];omega
theorem Lk:∀ (a b:d6) (x:Int),(∀ k,co a k=co b k)->evI a x=evI b x
 | [],b,x,h=>(J9 b x λk=>(h k).symm).symm
 | a::l,[],x,h=>J9 (a::l) x h
 | a::l,b::m,x,h=>by
   let c:a=b:=h 0;show a+x*evI l x=b+x*evI m x;rw [c,Lk l m x λk=>h (k+1)]
theorem Pe:∀ (a b:d6) (x:Int),evI (BF a b) x=evI a x+evI b x
 | [],b,x=>by show evI b x=0+evI b x;omega
 | a::l,[],x=>by rw [J6];show _=_+0;omega
 | a::l,b::m,x=>by
   show (a+b)+x*evI (BF l m) x=a+x*evI l x+(b+x*evI m x);rw [Pe l m x];ext
theorem Pf (c:Int):∀ (a:d6) (x:Int),evI (a.map (c*·)) x=c*evI a x
 | [],x=>by show (0:Int)=c*0;omega
 | a::l,x=>by
   show c*a+x*evI (l.map (c*·)) x=c*(a+x*evI l x);rw [Pf c l x];ext
theorem Pi:∀ (a b:d6) (x:Int),evI (Bm a b) x=evI a x*evI b x
 | [],b,x=>by show (0:Int)=0*_;omega
 | a::l,b,x=>by
   show evI (BF (b.map (a*·)) (0::Bm l b)) x=(a+x*evI l x)*evI b x;rw [Pe,Pf];show a*evI b x+(0+x*evI (Bm l b) x)=_;rw [Pi l b x];ext
def Ie (a b:d6) (k:Nat):co (Bm a b) k=cvL a (co b) k:=by
 rw [DI,CC];exact BR (λj=>(DI b j).symm) a k
def zP {r a g:d6} (h:∀ k,co r k=cvL a (co g) k) (x:Int):evI r x=evI a x*evI g x:=by
 rw [<-Pi];exact Lk r (Bm a g) x λk=>by rw [Ie];exact h k
theorem Pj {b c:Nat} {x:Int} (d:Bd c x):∀ (l:d6),(∀ z∈l,Bd b z)->Bd (b+@l*(c+1)) (evI l x)
 | [],_=>DF _
 | a::l,f=>by
   show Bd _ (a+x*evI l x);let g:=f a (BC ..);let h:=d.mul (Pj d l λz i=>f z (A6 _ i));let e:(@l+1)*(c+1)=@l*(c+1)+(c+1):=by rw [Nat.add_mul,Nat.one_mul]
   refine ((g.mono (n:=c+(b+@l*(c+1))) `a).add h).mono ?_;rw [Cj,e];omega
noncomputable def Y':d6->Int->d6
 | [],_=>[]
 | _::l,t=>evI l t::Y' l t
theorem KA:∀ (l:d6) (t:Int),(Y' l t).length=@l
 | [],_=>rfl
 | _::l,t=>congrArg (·+1) (KA l t)
theorem Ll:∀ (l:d6) (t x:Int),evI l x - evI l t=(x - t)*evI (Y' l t) x
 | [],t,x=>by show (0:Int) - 0=_*0;omega
 | a::l,t,x=>by
   show a+x*evI l x - (a+t*evI l t)=(x - t)*(evI l t+x*evI (Y' l t) x);have:=Ll l t x;ext
theorem KC:∀ (l:d6) (t:Int) (k:Nat),co l k=(if k=0 then evI l t else co (Y' l t) (k - 1)) - t*co (Y' l t) k
 | [],t,k=>by
   rw [show co (Y' [] t) k=0 from Ao (Ah _),show co (Y' [] t) (k - 1)=0 from Ao (Ah _),Ao (Ah _)];show 0=(if k=0 then 0 else 0) - _;split <;> omega
 | a::l,t,0=>by
   show a=a+t*evI l t - t*evI l t;omega
 | a::l,t,k+1=>by
   have:=KC l t k;show co l k=(if k+1=0 then _ else co (evI l t::Y' l t) (k+1 - 1)) - t*co (Y' l t) k;rw [jD `a,this];cases k with
   | zero=>rfl
   | succ k=>rw [jD `a];rfl
theorem zQ (l:d6) (t:Int):co (Y' l t) (@l - 1)=0:=by
 induction l with
 | nil=>exact Ao (Ah _)
 | cons a l b=>
   show co (evI l t::Y' l t) @l=0;cases h:@l with
   | zero=>rw [CU.mp h];rfl
   | succ m=>rw [h] at b;exact b
theorem aP {c:Nat}:∀ (d:Nat) (l:d6) (y:Nat) (x:dq),(∀ k,d<k->co l k=0)->(∀ i,i<=d->Bd c (x i))->(∀ i j,i<=d->j<=d->i≠j->x i≠x j)->(∀ i,i<=d->Bd y (evI l (x i)))->∀ k,Bd (y+d*(c+3)) (co l k)
 | 0,l,y,x,m,_,_,f,k=>by
   cases k with
   | zero=>
     let e:evI l (x 0)=co l 0:=by
      cases l with
      | nil=>rfl
      | cons a l=>
        show a+x 0*evI l (x 0)=a;rw [J9 l (x 0) λk=>m (k+1) `a];omega
     have:=f 0 (AT 0);rw [e] at this;exact this.mono `a
   | succ k=>rw [m (k+1) `a];exact DF _
 | d+1,l,y,x,m,q,r,f,k=>by
   let v:∀ j,d<j->co (Y' l (x (d+1))) j=0:=by
    let g:∀ n,∀ j,d<j->@l<=j+n->co (Y' l (x (d+1))) j=0:=by
     intro n
     induction n with
     | zero=>intro j _ h;exact Ao (by rw [KA];omega)
     | succ n o=>
       intro j p h;let e:=KC l (x (d+1)) (j+1);rw [m (j+1) `a,jD `a,o (j+1) `a `a] at e;rw [show j+1 - 1=j by omega] at e;omega
    intro j p;exact g @l j p `a
   let o:=aP d (Y' l (x (d+1))) (y+1) x v (λi u=>q i `a) (λi j u p=>r i j `a `a) (λi u=>by
    let e:=Ll l (x (d+1)) (x i);let C:x i - x (d+1)≠0:=λz=>r i (d+1) `a `a `a `a;let b:=(f i `a).sub (f (d+1) `a);rw [e] at b;refine b.le ?_;rw [Bp];exact GO _ `a)
   let e:=KC l (x (d+1)) k;rw [e];let w:=q (d+1) (AT _);let A:=w.mul (o k);let em:(d+1)*(c+3)=d*(c+3)+(c+3):=by rw [Nat.add_mul,Nat.one_mul]
   let B:Bd (c+(y+1+d*(c+3))) (if k=0 then evI l (x (d+1)) else co (Y' l (x (d+1))) (k - 1)):=by
    split
    .exact (f (d+1) (AT _)).mono `a
    .exact (o (k - 1)).mono `a
   exact (B.sub A).mono `a
end Bs
namespace Bs
open PySem L2
def isN (H:Hp) (v:V) (q:Nu):Prop:=∃ p,v=.ref p/\H p&&&[.int q.1,.int q.2]
noncomputable def Nums (H:Hp):cZ->cQ->Prop
 | [],[]=>True
 | x::a,q::l=>isN H x q/\Nums H a l
 | _,_=>False
def Tp (H c:Hp):Prop:=∀ b a,H b&&&a->c b&&&a
def F_ {H a:Hp} (s:Same H a):Tp H a:=λb c h=>s b _ h
def Tp.trans {H d e:Hp} (a:Tp H d) (b:Tp d e):Tp H e:=λc f h=>b c f (a c f h)
def Kp.tp {p:Addr} {H a:Hp} {xs:cZ} (k:Kp p H a) (h:H p^^^xs):Tp H a:=λb c q=>k b _ (FI q h (by intro z;cases z)) q
def Tp.updL {p:Addr} {H:Hp} {xs ys:cZ} (h:H p^^^xs):Tp H (upd H p (.lst ys)):=Kp.tp Kp.upd h
def isN.tp {H a:Hp} {v:V} {q:Nu} (h:isN H v q) (t:Tp H a):isN a v q:=let ⟨p,e,z⟩:=h;⟨p,e,t _ _ z⟩
theorem Nums.tp {H a:Hp} (t:Tp H a):∀ {xs:cZ} {l:cQ},Nums H xs l->Nums a xs l
 | [],[],_=>trivial
 | _::_,_::_,h=>{h.1.tp t,Nums.tp t h.2}
 | [],_::_,h=>h.elim
 | _::_,[],h=>h.elim
theorem Nums.length {H:Hp}:∀ {xs:cZ} {l:cQ},Nums H xs l->@xs=@l
 | [],[],_=>rfl
 | _::_,_::_,h=>congrArg (·+1) (Nums.length h.2)
 | [],_::_,h=>h.elim
 | _::_,[],h=>h.elim
theorem Nums.get {H:Hp}:∀ {xs:cZ} {l:cQ} {i:Nat} {v:V},Nums H xs l->xs[i]?=some v->∃ q,l[i]?=some q/\isN H v q
 | [],[],_,_,_,e=>by simp at e
 | _::_,q::_,0,_,h,e=>by simp at e;subst e;exact ⟨q,rfl,h.1⟩
 | _::_,_::_,i+1,_,h,e=>by
   let {q,a,b}:=Nums.get (i:=i) h.2 (by simpa using e);exact {q,by simpa using a,b}
 | [],_::_,_,_,h,_=>h.elim
 | _::_,[],_,_,h,_=>h.elim
def Nums.at {H:Hp} {xs:cZ} {l:cQ} {i:Nat} (h:Nums H xs l) (b:i<@l) (d:Nu):∃ v,xs[i]?=some v/\isN H v (l.getD i d):=by
 let a:i<@xs:=by rw [@h];exact b
 let {q,c,e}:=h.get (Ak a);refine {_,Ak a,?_};rw [AU,c];exact e
theorem Nums.append {H:Hp}:∀ {xs ys:cZ} {l m:cQ},Nums H xs l->Nums H ys m->Nums H (xs++ys) (l++m)
 | [],_,[],_,_,h=>h
 | _::_,_,_::_,_,h,a=>{h.1,Nums.append h.2 a}
 | [],_,_::_,_,h,_=>h.elim
 | _::_,_,[],_,h,_=>h.elim
def Nums.one {H:Hp} {v:V} {q:Nu} (h:isN H v q):Nums H [v] [q]:=⟨h,trivial⟩
theorem Nums.take {H:Hp}:∀ {xs:cZ} {l:cQ} (n:Nat),Nums H xs l->Nums H (xs.take n) (l.take n)
 | [],[],n,_=>by simp [Nums]
 | _::_,_::_,0,_=>trivial
 | _::_,_::_,n+1,h=>{h.1,Nums.take n h.2}
 | [],_::_,_,h=>h.elim
 | _::_,[],_,h=>h.elim
theorem Nums.set {H:Hp} {v:V} {q:Nu} (a:isN H v q):∀ {xs:cZ} {l:cQ} (i:Nat),Nums H xs l->Nums H (xs.set i v) (l.set i q)
 | [],[],_,_=>trivial
 | _::_,_::_,0,h=>⟨a,h.2⟩
 | _::_,_::_,i+1,h=>{h.1,Nums.set a i h.2}
 | [],_::_,_,h=>h.elim
 | _::_,[],_,h=>h.elim
theorem Nums.rep {H:Hp} {v:V} {q:Nu} (a:isN H v q):∀ n:Nat,Nums H (List.replicate n v) (List.replicate n q)
 | 0=>trivial
 | n+1=>{a,Nums.rep a n}
theorem Ig {a:Type} (v:a):∀ n:Nat,(List.replicate n [v]).flatten=List.replicate n v
 | 0=>rfl
 | n+1=>by rw [List.replicate_succ,List.flatten_cons,Ig v n];rfl
def DQ {a:Type} {xs:List a} {i:Int} {j:Nat} {v:a} (e:i=(j:Int)) (h:xs[j]?=some v):R_ xs i=some v:=by subst e;exact Nv h
def Hl {H:Hp} {p:Addr} {q:Nu}:isN (upd H p (.tup [.int q.1,.int q.2])) (.ref p) q:=⟨p,rfl,upd_same⟩
def KD {xs:cZ} {m:Nat} (h:m<=@xs):CH xs none (some (m:Int))=xs.take m:=by
 unfold CH HT.sIx;simp only [List.drop_zero,Nat.sub_zero,EB];rw [jD `a,Nat.min_eq_left h]
def GC (H:Hp) (Q:VK) (l:cQ):Prop:=∀ (r:Addr) (b:cZ) (a:Hp),Same H a->a r&&&b->Nums a b l->Q (.ref r) a
noncomputable def CO (q:Nu):W.Dat:=.tuple [.int q.1,.int q.2]
def DR {H:Hp} {v:V} {q:Nu} (h:isN H v q):RepD H v (CO q):=by
 let {p,rfl,hp}:=h;exact .tup hp (.cons (.int _) (.cons (.int _) .nil))
theorem Pk {H:Hp}:∀ {xs:cZ} {l:cQ},Nums H xs l->RepA H xs (l.map CO)
 | [],[],_=>.nil
 | _::_,_::_,h=>.cons (DR h.1) (Pk h.2)
 | [],_::_,h=>h.elim
 | _::_,[],h=>h.elim
def az (q:Nu) (n:Nat):W.kqdOk (n+1) (CO q)=true:=by simp [CO,W.kqdOk]
section
variable {σ:L2.St} {H:Hp} {Q:VK} {D:Ends} {rest:TS} {sp:Sp} {E:XK}
def AS {i:Nat} {v:V} (a:σ[i]?=some (some v)) (h:Q v H):AA i σ H Q:=⟨v,a,h⟩
def Bc {i:Nat} {k:Int} {a:Addr} {xs:cZ} {v:V} (b:σ[i]?=some (↥a)) (c:H a&&&xs) (d:R_ xs k=some v) (h:Q v H):A_ gT (AA i) (tC (.int k)) σ H Q:={_,b,a,k,xs,v,7,c,d,h}
def Pn {a:TE} {k:Nat} (h:a σ H λx b=>sp [x] b (λv c=>rest D (σ.set k (some v)) c) E):AH (AN (AL sp [] E (AB a AC)) (AE k)) rest D σ H:=h
def GD {a b:TE} {k:Nat} (h:a σ H λx c=>b σ c λy d=>sp [x,y] d (λv e=>rest D (σ.set k (some v)) e) E):AH (AN (AL sp [] E (AB a (AB b AC))) (AE k)) rest D σ H:=h
def DS {a:TE} (h:a σ H λx b=>sp [x] b Q E):AL sp [] E (AB a AC) σ H Q:=h
def Av {a b:TE} (h:a σ H λx c=>b σ c λy d=>sp [x,y] d Q E):AL sp [] E (AB a (AB b AC)) σ H Q:=h
def Co {a b tc:TE} (h:a σ H λx c=>b σ c λy d=>tc σ d λz e=>sp [x,y,z] e Q E):AL sp [] E (AB a (AB b (AB tc AC))) σ H Q:=h
def A8 {a:TE} {k:Nat} (h:a σ H λx b=>rest D (σ.set k (some x)) b):AH (AN a (AE k)) rest D σ H:=h
def B7 {a:TE} (h:a σ H D.rt):AY a D σ H:=h
def Po {a:TE} (h:a σ H λx b=>[x].length<=sizeLine/\∀ p,b p=none->Q (.ref p) (upd b p (.tup [x]))):Ai (AB a AC) σ H Q:=h
def Be {a b:TE} (h:a σ H λx d=>b σ d λy c=>[x,y].length<=sizeLine/\∀ p,c p=none->Q (.ref p) (upd c p (.tup [x,y]))):Ai (AB a (AB b AC)) σ H Q:=h
def Pq {a b tc:TE} (h:a σ H λx d=>b σ d λy e=>tc σ e λz c=>[x,y,z].length<=sizeLine/\∀ p,c p=none->Q (.ref p) (upd c p (.tup [x,y,z]))):Ai (AB a (AB b (AB tc AC))) σ H Q:=h
def FV {a:TE} (h:a σ H λx b=>[x].length<=sizeLine/\∀ p,b p=none->Q (.ref p) (upd b p (.lst [x]))):Bi (AB a AC) σ H Q:=h
def zR {a b:TE} (h:a σ H λx d=>b σ d λy c=>[x,y].length<=sizeLine/\∀ p,c p=none->Q (.ref p) (upd c p (.lst [x,y]))):Bi (AB a (AB b AC)) σ H Q:=h
def I_ {v:V} (h:Q v H):tC v σ H Q:=h
def Ax {r:R2} {a b:TE} (h:a σ H λx c=>b σ c λy d=>r x y d Q):A_ r a b σ H Q:=h
def EK {b:cZ->Hp->VK->Prop} {a:TE} (h:a σ H λx c=>b [x] c Q):L_ b (AB a AC) σ H Q:=h
def Pt {a:TA} {g:TG} {b:TS} (h:a σ H (λc d=>∃ i j:Int,c=[.int i,.int j,.int (-1)]/\(-(2 ^ 62)<=i/\i<2 ^ 62/\-(2 ^ 62)<=j/\j<2 ^ 62)/\ForJ (c6 i (i - j).toNat) g b { D with nx:=rest D } σ d)):AH (BH (IY a) g b) rest D σ H:=h
def zS {a:TE} {g:TG} (h:a σ H λx b=>g x σ b (rest D)):AH (AN a g) rest D σ H:=h
def zT {c d tc e f:TE} (h:c σ H λx g=>d σ g λy i=>tc σ i λz j=>e σ j λa k=>f σ k λb m=>sp [x,y,z,a,b] m Q E):AL sp [] E (AB c (AB d (AB tc (AB e (AB f AC))))) σ H Q:=h
def Ds {i:Nat} {v:V} {σ:L2.St} {H:Hp} {Q:L2.St->Hp->Prop} (h:Q (σ.set i (some v)) H):AE i v σ H Q:=h
def zU {K:W.Frag} {b:TE} {capt:List (Option Nat)} {g:TG} {c:TE} {σ:L2.St} {H:Hp} {Q:VK} (h:b σ H (λx d=>∃ a,x=.ref a/\(∃ e,SqT K d a e)/\CompJ (aE K a) capt g c σ Q d)):Bk (Eu K b) capt g c σ H Q:=h
def FW {K:W.Frag} {b:TE} {capt:List (Option Nat)} {g:TG} {c:TE} {σ:L2.St} {H:Hp} {Q:VK} (h:b σ H (λx d=>∃ a,x=.ref a/\(∃ e,SqL K d a e)/\CompJ (ai K a) capt g c σ Q d)):Bk (BW K b) capt g c σ H Q:=h
def Eg {a:TE} {k:Nat} {D:Ends} {σ:L2.St} {H:Hp} (h:a σ H λx b=>D.nx (σ.set k (some x)) b):AN a (AE k) D σ H:=h
def E3 {c:TT} {t u:TS} (h:c σ H λb a=>if b=true then t { D with nx:=rest D } σ a else u { D with nx:=rest D } σ a):AH (BU c t u) rest D σ H:=h
def Lm {c:TT} {t:TS} (h:c σ H λb a=>if b=true then t { D with nx:=rest D } σ a else rest D σ a):AH (BU c t BV) rest D σ H:=h
def Cn {x:V}:[x].length<=sizeLine:=by show 1<=_;exact sz `b
def BJ {x y:V}:[x,y].length<=sizeLine:=by show 2<=_;exact sz `b
def E4 {x y z:V}:[x,y,z].length<=sizeLine:=by show 3<=_;exact sz `b
theorem Ln {H:Hp} {a x y:Addr} {A X Y:HO} {P:Hp->Prop} (i:H a=none) (j:upd H a A x=none) (d:upd (upd H a A) x X y=none) (k:∀ b,b a=some A->b y=some Y->Same H b->a≠y->H y=none->P b):P (upd (upd (upd H a A) x X) y Y):=by
 let f:=AM i A;let c:=AM j X;let g:=AM d Y;refine k _ (g _ _ (c _ _ upd_same)) upd_same (λz o h=>g z o (c z o (f z o h))) (A3 (c _ _ upd_same) d) ?_;cases e:H y with
 | none=>rfl
 | some o=>have:=c _ _ (f _ _ e);rw [d] at this;cases this
def zV {e H:Hp} {t w:Addr} {X:HO} {i ys:cZ} {P:Hp->Prop} (f:H t=none) (g:H w^^^i) (j:e w=none) (s:Same e H) (k:∀ a,Same e a->a w^^^ys->a t=some X->Tp H a->(∀ c o,c≠w->H c=some o->a c=some o)->P a):P (upd (upd H t X) w (.lst ys)):=by
 let d:=AM f X;exact k _ (λb o h=>Kp.upd b o (A3 h j) (d b o (s b o h))) upd_same (Kp.upd _ _ (A3 g f).symm upd_same) (λb o h=>Tp.updL (d _ _ g) b o (d _ _ h)) λc o n h=>Kp.upd c o n (d _ _ h)
end
end Bs
namespace Bs
open PySem L2
theorem KE {g:dt} {n:Nat} (h:∀ i,n<i->g i=0):∀ (a:List Rat) (k:Nat),@a+n<=k->cvL a g k=0
 | [],_,_=>rfl
 | x::a,0,hk=>absurd hk (by rw [Cj];omega)
 | x::a,k+1,hk=>by
   rw [Cj] at hk;rw [As,h (k+1) `a,KE h a k `a];ext
theorem Pw {g:dt} {n:Nat} (j:g n≠0) (h:∀ i,n<i->g i=0) (S:List Rat):(∀ k,n<=k->cvL S g k=0)->∀ s∈S,s=0:=by
 induction hl:@S generalizing S with
 | zero=>intro _ s b;rw [CU.mp hl] at b;exact nomatch b
 | succ m o=>
   intro hk;let e:S≠[]:=λz=>by rw [z] at hl;simp at hl
   let {T,t,rfl}:∃ T t,S=T++[t]:={S.dropLast,S.getLast e,(GT e).symm}
   let f:t=0:=by
    let a:=hk (@T+n) `a;rw [Dr,KE h T _ (AT _)] at a;unfold A9 at a;rw [jE `a,show @T+n - @T=n by omega] at a;let p:t*g n=0:=by ext
    rcases Rat.mul_eq_zero.mp p with z | z
    .exact z
    .exact absurd z j
   let c:=o T (by simpa using hl) (λk d=>by
    let a:=hk k d;rw [Dr,f] at a;ext)
   intro s b;rcases C5.mp b with h | h
   .exact c s h
   .rw [BM.mp h];exact f
theorem Lo {g:dt}:∀ (S:List Rat),(∀ s∈S,s=0)->∀ k,cvL S g k=0
 | [],_,_=>rfl
 | x::S,h,0=>by rw [BA,h x (BC ..)];ext
 | x::S,h,k+1=>by rw [As,h x (BC ..),Lo S (λs a=>h s (A6 _ a)) k];ext
def Lp {G:dt} {n:Nat} (a:G n≠0) (b:∀ i,n<i->G i=0) {A B:List Rat} (h:∀ k,cvL A G k=cvL B G k) (g:dt) (k:Nat):cvL A g k=cvL B g k:=by
 let z:=Lo (g:=g) (BF A (B.map ((-1:Rat)*·))) (Pw a b _ λk _=>by rw [B4,BO,h k];ext) k;rw [B4,BO] at z;ext
structure Sr where
 c:dt
def Sr.ext' {f g:Sr} (h:∀ k,f.c k=g.c k):f=g:=by
 cases f;cases g;congr;exact funext h
noncomputable def tr (n:Nat) (f:dt):List Rat:=(List.range n).map f
def Gj (n:Nat) (f:dt) (k:Nat):(tr n f).getD k 0=if k<n then f k else 0:=by
 unfold tr;rw [AU,Ae];by_cases h:k<n
 .rw [Dk h,jE h];rfl
 .rw [jD h,B8 (by rw [BZ];omega)];rfl
theorem Ih:∀ (a b:List Rat) (g h:dt) (k:Nat),(∀ i,i<=k->a.getD i 0=b.getD i 0)->(∀ i,i<=k->g i=h i)->cvL a g k=cvL b h k:=by
 intro a
 induction a with
 | nil=>
   intro b
   induction b with
   | nil=>intro g h k _ _;rfl
   | cons y b j=>
     intro g h k c e;let m:=c 0 (Ah _);simp at m;cases k with
     | zero=>rw [BN,BA,<-m];ext
     | succ k=>
       rw [BN,As,<-m];have:=j g h k (λi f=>by have:=c (i+1) `a;simpa using this) (λi f=>e i `a);rw [BN] at this;ext
 | cons x a j=>
   intro b g h k c e;cases b with
   | nil=>
     let d:=c 0 (Ah _);simp at d;cases k with
     | zero=>rw [BN,BA,d];ext
     | succ k=>
       rw [BN,As,d];have:=j [] g h k (λi f=>by have:=c (i+1) `a;simpa using this) (λi f=>e i `a);rw [BN] at this;ext
   | cons y b=>
     let d:=c 0 (Ah _);simp at d;cases k with
     | zero=>rw [BA,BA,d,e 0 (AT _)]
     | succ k=>
       rw [As,As,d,e _ (AT _),j b g h k (λi f=>by have:=c (i+1) `a;simpa using this) (λi f=>e i `a)]
namespace Sr
noncomputable def zero:Sr:={λ_=>0}
noncomputable def one:Sr:=⟨Ay⟩
noncomputable def add (f g:Sr):Sr:={λk=>f.c k+g.c k}
noncomputable def neg (f:Sr):Sr:={λk=>- f.c k}
noncomputable def mul (f g:Sr):Sr:={λk=>cvL (tr (k+1) f.c) g.c k}
noncomputable def num (x:Rat):Sr:={λk=>x*Ay k}
def KF (f g:Sr) {n k:Nat} (h:k<n):(mul f g).c k=cvL (tr n f.c) g.c k:=by
 refine Ih _ _ _ _ _ (λi a=>?_) (λ_ _=>rfl);rw [Gj,Gj,jE `a,jE `a]
def Lq (f g:Sr) {n m k:Nat} (h:k<n) (h':k<m):(mul f g).c k=cvL (tr n f.c) (cvL (tr m g.c) Ay) k:=by
 rw [KF f g h];refine Ih _ _ _ _ _ (λ_ _=>rfl) (λi a=>?_);rw [DH,Gj,jE `a]
def mul_comm (f g:Sr):mul f g=mul g f:=ext' λk=>by
 rw [Lq f g (Dv k) (Dv k),Lq g f (Dv k) (Dv k),Hj]
def mul_assoc (f g h:Sr):mul (mul f g) h=mul f (mul g h):=ext' λk=>by
 rw [KF (mul f g) h (Dv k),KF f (mul g h) (Dv k)]
 let a:cvL (tr (k+1) (mul f g).c) h.c k=cvL (Bm (tr (k+1) f.c) (tr (k+1) g.c)) h.c k:=by
  refine Ih _ _ _ _ _ (λi b=>?_) (λ_ _=>rfl);rw [Gj,jE `a,<-DH,CC,Lq f g (n:=k+1) (m:=k+1) `a `a]
 rw [a,CC];exact Ih _ _ _ _ _ (λ_ _=>rfl) (λi b=>(KF g h `a).symm)
def mul_add (f g h:Sr):mul f (add g h)=add (mul f g) (mul f h):=ext' λk=>by
 show cvL (tr (k+1) f.c) (λk=>g.c k+h.c k) k=_;rw [Hi];rfl
def mul_one (f:Sr):mul f one=f:=ext' λk=>by
 show cvL (tr (k+1) f.c) Ay k=_;rw [DH,Gj,jE (Dv k)]
def mul_zero (f:Sr):mul f zero=zero:=ext' λk=>by
 show cvL (tr (k+1) f.c) (λ_=>0) k=0;have:=DP (0:Rat) (λ_=>0) (tr (k+1) f.c) k;rw [show (λk:Nat=>(0:Rat)*(λ_=>(0:Rat)) k)=λ_=>0 from funext λ_=>by grind] at this;rw [this];ext
noncomputable def c7 (f:Sr):Nat->Sr
 | 0=>one
 | n+1=>mul (c7 f n) f
noncomputable instance:Add Sr:=⟨add⟩
noncomputable instance:Mul Sr:=⟨mul⟩
noncomputable instance:Neg Sr:=⟨neg⟩
noncomputable instance:Sub Sr:={λf g=>add f (neg g)}
noncomputable instance:NatCast Sr:={λn=>num (n:Rat)}
noncomputable instance:IntCast Sr:={λn=>num (n:Rat)}
noncomputable instance (n:Nat):OfNat Sr n:={num (n:Rat)}
noncomputable instance:Pow Sr Nat:=⟨c7⟩
noncomputable instance:SMul Nat Sr:={λn f=>mul (num (n:Rat)) f}
noncomputable instance:SMul Int Sr:={λn f=>mul (num (n:Rat)) f}
def num0:num 0=zero:=ext' λk=>by show 0*Ay k=(0:Rat);ext
def num1:num 1=one:=ext' λk=>by show 1*Ay k=(Ay k:Rat);ext
def zW (x y:Rat):num (x+y)=add (num x) (num y):=ext' λk=>by show (x+y)*Ay k=x*Ay k+y*Ay k;ext
def Lr (x:Rat):num (-x)=neg (num x):=ext' λk=>by show (-x)*Ay k = -(x*Ay k);ext
def add_comm (f g:Sr):add f g=add g f:=ext' λk=>by show f.c k+g.c k=g.c k+f.c k;ext
def add_assoc (f g h:Sr):add (add f g) h=add f (add g h):=ext' λk=>by show f.c k+g.c k+h.c k=f.c k+(g.c k+h.c k);ext
def add_zero (f:Sr):add f zero=f:=ext' λk=>by show f.c k+0=f.c k;ext
def Ls (f:Sr):add (neg f) f=zero:=ext' λk=>by show -f.c k+f.c k=0;ext
def add_mul (f g h:Sr):mul (add f g) h=add (mul f h) (mul g h):=by rw [mul_comm,mul_add,mul_comm h f,mul_comm h g]
def neg_mul (f g:Sr):mul (neg f) g=neg (mul f g):=by
 let h:add (mul (neg f) g) (mul f g)=zero:=by rw [<-add_mul,Ls,mul_comm,mul_zero]
 let c:add (neg (mul f g)) (mul f g)=zero:=Ls _;refine ext' λk=>?_;let a:=jN (congrArg Sr.c h) k;let b:=jN (congrArg Sr.c c) k;let a:(mul (neg f) g).c k+(mul f g).c k=0:=a;let b:(neg (mul f g)).c k+(mul f g).c k=0:=b;ext
noncomputable instance:Lean.Grind.CommRing Sr where
 add_zero f:=(congrArg (add f) num0).trans (add_zero f)
 add_comm:=add_comm
 add_assoc:=add_assoc
 mul_assoc:=mul_assoc
 mul_comm:=mul_comm
 mul_one f:=(congrArg (mul f) num1).trans (mul_one f)
 one_mul f:=(congrArg (λz=>mul z f) num1).trans ((mul_comm _ _).trans (mul_one f))
 left_distrib:=mul_add
 right_distrib:=add_mul
 zero_mul f:=by show mul (num 0) f=num 0;rw [num0,mul_comm,mul_zero]
 mul_zero f:=by show mul f (num 0)=num 0;rw [num0,mul_zero]
 pow_zero f:=num1.symm
 pow_succ f n:=rfl
 ofNat_succ n:=by
  show num ((n+1:Nat):Rat)=add (num (n:Rat)) (num 1)
  rw [<-zW];push_cast;rfl
 ofNat_eq_natCast n:=rfl
 nsmul_eq_natCast_mul n f:=rfl
 sub_eq_add_neg f g:=rfl
 neg_add_cancel f:=(Ls f).trans num0.symm
 intCast_neg n:=by show num ((-n:Int):Rat)=neg (num (n:Rat));rw [<-Lr];push_cast;rfl
 intCast_ofNat n:=rfl
 neg_zsmul n f:=by show mul (num ((-n:Int):Rat)) f=neg (mul (num (n:Rat)) f);rw [show ((-n:Int):Rat) = -(n:Rat) by push_cast;rfl,Lr,neg_mul]
 zsmul_natCast_eq_nsmul n f:=rfl
noncomputable def L (a:List Rat):Sr:={cvL a Ay}
def L_mul (a:List Rat) (g:Sr):L a*g=⟨cvL a g.c⟩:=ext' λk=>by
 refine Ih _ _ _ _ _ (λi b=>?_) (λ_ _=>rfl);rw [Gj,jE `a];exact DH a i
def Bn (f:Sr) (n:Nat):Prop:=∀ k,n<=k->f.c k=0
def Bn.row {f:Sr} {n:Nat} (h:Bn f n):L (tr n f.c)=f:=ext' λk=>by
 show cvL (tr n f.c) Ay k=f.c k;rw [DH,Gj];by_cases hk:k<n
 .rw [jE hk]
 .rw [jD hk,h k `a]
def Pol (f:Sr):Prop:=∃ a,f=L a
def Pol.L (a:List Rat):Pol (L a):=⟨a,rfl⟩
def zX (a:List Rat):Bn (Sr.L a) @a:=λk hk=>by
 show cvL a Ay k=0;rw [DH,AU,B8 hk];rfl
def Pol.bn {f:Sr} (h:Pol f):∃ n,Bn f n:=let ⟨a,e⟩:=h;⟨@a,e ▸ zX a⟩
def Pol.add {f g:Sr} (h:Pol f) (h':Pol g):Pol (f+g):=by
 let {a,rfl}:=h;let {b,rfl}:=h';exact {BF a b,ext' λk=>(B4 Ay a b k).symm}
def Pol.mul {f g:Sr} (h:Pol f) (h':Pol g):Pol (f*g):=by
 let {a,rfl}:=h;let {b,rfl}:=h';exact {Bm a b,by rw [L_mul];exact ext' λk=>(CC Ay a b k).symm}
theorem Pol.num (x:Rat):Pol (num x):={[x],ext' λk=>by
 show x*Ay k=cvL [x] Ay k;cases k with
 | zero=>rw [BA];ext
 | succ k=>rw [As,BN];ext}
def Pol.nat (n:Nat):Pol (OfNat.ofNat n:Sr):=Pol.num (n:Rat)
def Pol.neg {f:Sr} (h:Pol f):Pol (-f):=by
 let e:-f=Sr.num (-1)*f:=by
  have:Sr.num (-1)=(-1:Sr):=Lr 1;rw [this];ext
 rw [e];exact (Pol.num _).mul h
def Pol.sub {f g:Sr} (h:Pol f) (h':Pol g):Pol (f - g):=by
 let e:f - g=f + -g:=by ext
 rw [e];exact h.add h'.neg
theorem top_ex {f:Sr}:∀ n,Bn f n->f=0\/∃ m,m<n/\f.c m≠0/\Bn f (m+1)
 | 0,h=>.inl (ext' λk=>by rw [h k (Ah _)];show 0=((0:Nat):Rat)*Ay k;push_cast;ext)
 | n+1,h=>by
   by_cases z:f.c n=0
   .rcases top_ex n (λk hk=>by rcases Nat.eq_or_lt_of_le hk with e | e;exact e ▸ z;exact h k e) with q | ⟨m,c,a,b⟩
    .exact .inl q
    .exact .inr {m,`a,a,b}
   .exact .inr {n,`a,z,h}
def zero_c (k:Nat):(0:Sr).c k=0:=by show ((0:Nat):Rat)*Ay k=0;push_cast;ext
def cancel {f g h:Sr} (c:Pol f) (d:Pol g) (j:Pol h) (o:h≠0) (e:f*h=g*h):f=g:=by
 let {a,rfl}:=c;let {b,rfl}:=d;let {n,p}:=j.bn;rcases top_ex n p with z | ⟨m,_,q,r⟩
 .exact absurd z o
 rw [L_mul,L_mul] at e;exact ext' λk=>Lp q (λi u=>r i u) (λk=>jN (congrArg Sr.c e) k) Ay k
def ne_mul {f g:Sr} (a:Pol f) (b:Pol g) (c:f≠0) (d:g≠0):f*g≠0:=λe=>c (cancel a (Pol.nat 0) b d (by rw [e];ext))
noncomputable def X (n:Nat):Sr:=L (List.replicate n 0++[1])
theorem num_mul (x:Rat) (g:Sr) (k:Nat):(num x*g).c k=x*g.c k:=by
 have:num x=L [x]:=ext' λk=>by
  show x*Ay k=cvL [x] Ay k;cases k with
  | zero=>rw [BA];ext
  | succ k=>rw [As,BN];ext
 rw [this,L_mul];show cvL [x] g.c k=_;cases k with
 | zero=>rw [BA];ext
 | succ k=>rw [As,BN];ext
noncomputable def D (f:Sr):Sr:={λk=>((k:Rat)+1)*f.c (k+1)}
def L_nil:L []=0:=ext' λk=>by rw [zero_c];rfl
def Cs (f g:Sr):Prop:=∃ U W,Pol U/\Pol W/\U*f+W*g=1
def Cs.comm {f g:Sr} (h:Cs f g):Cs g f:=let ⟨U,W,a,b,e⟩:=h;⟨W,U,b,a,()⟩
def Cs.mul {f g h:Sr} (p:Pol f) (j:Pol g) (k:Cs f g) (m:Cs f h):Cs f (g*h):=by
 let {U,W,n,i,e}:=k;let {a,b,c,d,o}:=m;refine {U+W*a*g,W*b,n.add ((i.mul c).mul j),i.mul d,?_};have:(U+W*a*g)*f+W*b*(g*h)=U*f+W*g*(a*f+b*h):=by ext
 rw [this,o,<-e];ext
def Cs.dvd {f w g a:Sr} (h:Cs f w) (b:Pol a) (e:w=a*g):Cs f g:=by
 let {U,W,c,d,q}:=h;exact {U,W*a,c,d.mul b,by rw [e] at q;ext}
def Cs.add {f g z c:Sr} (h:Cs f g) (b:Pol c) (e:z=f+c*g):Cs z g:=by
 let {U,W,a,d,q}:=h;exact {U,W - U*c,a,d.sub (a.mul b),by rw [e];ext}
def one_ne:(1:Sr)≠0:=λh=>by
 have:=jN (congrArg Sr.c h) 0;rw [zero_c] at this;let this:((1:Nat):Rat)*Ay 0=0:=this;let e:(Ay 0:Rat)=1:=rfl;rw [e] at this;push_cast at this;ext
theorem Px {b:dt} {d:Nat} (h:∀ k,d<k->b k=0):∀ (a:List Rat) (k:Nat),d+@a<=k->cvL a b k=0
 | [],_,_=>rfl
 | x::a,0,hk=>by simp at hk
 | x::a,k+1,hk=>by
   rw [As,Px h a k (by simp at hk;omega),h (k+1) (by simp at hk;omega)];ext
def top_mul {f g:Sr} {m n:Nat} (b:Bn f (m+1)) (h:Bn g (n+1)):(f*g).c (m+n)=f.c m*g.c n/\Bn (f*g) (m+n+1):=by
 let c:∀ (a:List Rat) (k:Nat),n+@a<=k->cvL a g.c k=0:=Px λk hk=>h k hk;rw [<-b.row,L_mul];refine {?_,λk hk=>c _ k (by unfold tr;rw [AI,BZ];omega)};show cvL (tr (m+1) f.c) g.c (m+n)=_;let e:tr (m+1) f.c=tr m f.c++[f.c m]:=by unfold tr;rw [List.range_succ,B9];rfl
 let d:(tr m f.c).length=m:=by unfold tr;rw [AI,BZ]
 rw [e,Dr,c (tr m f.c) _ (by rw [d];omega),d];unfold A9;rw [jE `a,show m+n - m=n by omega]
 let z:(L (tr m f.c++[f.c m])).c m=f.c m:=by
  rw [<-e];exact jN (congrArg Sr.c b.row) m
 rw [z];ext
def Cs.of_unit {f g d U W:Sr} {x:Rat} (a:x≠0) (e:d=num x) (b:Pol U) (c:Pol W) (h:U*f+W*g=d):Cs f g:=by
 refine {num (x⁻¹)*U,num (x⁻¹)*W,(Pol.num _).mul b,(Pol.num _).mul c,?_}
 let i:num (x⁻¹)*num x=1:=ext' λk=>by
  rw [num_mul];show x⁻¹*(x*Ay k)=_;have:x⁻¹*x=1:=Rat.inv_mul_cancel _ a;show _=((1:Nat):Rat)*Ay k;push_cast;ext
 rw [e] at h;ext
noncomputable def ev:List Rat->Rat->Rat
 | [],_=>0
 | a::l,x=>a+x*ev l x
theorem Lu:∀ (l:List Rat) (x:Rat),(∀ k,l.getD k 0=0)->ev l x=0
 | [],_,_=>rfl
 | a::l,x,h=>by
   let b:a=0:=h 0;show a+x*ev l x=0;rw [b,Lu l x λk=>by have:=h (k+1);rw [List.getD_cons_succ] at this;exact this];ext
theorem Z':∀ (a b:List Rat) (x:Rat),(∀ k,a.getD k 0=b.getD k 0)->ev a x=ev b x
 | [],b,x,h=>(Lu b x λk=>(h k).symm.trans (by simp)).symm
 | a::l,[],x,h=>Lu (a::l) x λk=>(h k).trans (by simp)
 | a::l,b::m,x,h=>by
   let c:a=b:=h 0;show a+x*ev l x=b+x*ev m x;rw [c,Z' l m x λk=>by have:=h (k+1);rw [List.getD_cons_succ,List.getD_cons_succ] at this;exact this]
def zY {a b:List Rat} (h:L a=L b) (x:Rat):ev a x=ev b x:=Z' a b x λk=>by rw [<-DH,<-DH];exact jN (congrArg Sr.c h) k
theorem Lv:∀ (a b:List Rat) (x:Rat),ev (BF a b) x=ev a x+ev b x
 | [],b,x=>by show ev b x=0+ev b x;ext
 | a::l,[],x=>by rw [J6];show _=_+0;ext
 | a::l,b::m,x=>by
   show (a+b)+x*ev (BF l m) x=a+x*ev l x+(b+x*ev m x);rw [Lv l m x];ext
theorem Py (c:Rat):∀ (a:List Rat) (x:Rat),ev (a.map (c*·)) x=c*ev a x
 | [],x=>by show (0:Rat)=c*0;ext
 | a::l,x=>by
   show c*a+x*ev (l.map (c*·)) x=c*(a+x*ev l x);rw [Py c l x];ext
theorem P3:∀ (a b:List Rat) (x:Rat),ev (Bm a b) x=ev a x*ev b x
 | [],b,x=>by show (0:Rat)=0*_;ext
 | a::l,b,x=>by
   show ev (BF (b.map (a*·)) (0::Bm l b)) x=(a+x*ev l x)*ev b x;rw [Lv,Py];show a*ev b x+(0+x*ev (Bm l b) x)=_;rw [P3 l b x];ext
def zZ (a b:List Rat):L (BF a b)=L a+L b:=ext' λk=>B4 Ay a b k
def yA (a b:List Rat):L (Bm a b)=L a*L b:=by rw [L_mul];exact ext' λk=>CC Ay a b k
theorem yB (x:Rat):num x=L [x]:=ext' λk=>by
 show x*Ay k=cvL [x] Ay k;cases k with
 | zero=>rw [BA];ext
 | succ k=>rw [As,BN];ext
open Classical in
noncomputable def at' (f:Sr) (x:Rat):Rat:=if h:∃ a,L a=f then ev h.choose x else 0
def at_L (a:List Rat) (x:Rat):at' (L a) x=ev a x:=by
 let h:∃ b,L b=L a:=⟨a,rfl⟩;unfold at';rw [dif_pos h];exact zY h.choose_spec x
def at_add {f g:Sr} (c:Pol f) (d:Pol g) (x:Rat):at' (f+g) x=at' f x+at' g x:=by
 let {a,rfl}:=c;let {b,rfl}:=d;rw [<-zZ,at_L,at_L,at_L,Lv]
def at_mul {f g:Sr} (c:Pol f) (d:Pol g) (x:Rat):at' (f*g) x=at' f x*at' g x:=by
 let {a,rfl}:=c;let {b,rfl}:=d;rw [<-yA,at_L,at_L,at_L,P3]
def yC (c x:Rat):at' (num c) x=c:=by
 rw [yB,at_L];show c+x*0=c;ext
def at_one (x:Rat):at' 1 x=1:=by show at' (num ((1:Nat):Rat)) x=1;rw [yC];rfl
end Sr
end Bs
namespace Bs
open PySem
noncomputable def Gk (K:W.Frag):Addr:=match W.nsIn K PySem.mainGlobals "EXPONENTS" with | some (↥a)=>a | _=>0
end Bs
namespace Bs
open PySem L2
abbrev Nm (H:Hp) (p:Addr) (t d:Int):Prop:=H p&&&[.int t,.int d]
def EL (_:W.Frag):Sp:=λc H Q _=>∃ a b:Int,c=[.int a,.int b]/\Q (.int ((Int.gcd a b:Nat):Int)) H
def KG (_:W.Frag):Sp:=λa H Q _=>∃ (x n:Int) (b:Nat),a=[.int x,.int n]/\0<=n/\Bd b x/\b*n.toNat+1<=200000/\Q (.int (x ^ n.toNat)) H
noncomputable def A5 (n:Nat) (f:dq):cZ:=((List.range n).map f).map V.int
noncomputable def DT (ns:d6):Nat->Nat
 | 0=>0
 | m+1=>if ns.getD m 1=0 then DT ns m else m+1
noncomputable def DJ (ns:d6):d6:=ns.take (DT ns @ns)
def Pl (H:Hp) (r:Addr) (L:cQ):Prop:=∃ a,H r&&&a/\Nums H a L
def Hm (_:W.Frag):Sp:=λb H Q _=>∃ (p:Addr) (a:d6),b=[.ref p]/\H p^^^(~~~a)/\∀ r,H r=none->Q (.ref r) (upd H r (.lst ((DJ a).map V.int)))
def Tz (ns:d6):Prop:=ns=[]\/co ns (@ns - 1)≠0
noncomputable def SDs (H:Hp):cZ->List (d6)->Prop
 | [],[]=>True
 | x::a,r::b=>(∃ p,x=.ref p/\H p^^^(~~~r))/\SDs H a b
 | _,_=>False
def SD (H:Hp) (p:Addr) (b:List (d6)):Prop:=∃ a,H p^^^a/\SDs H a b
def Ii (_:W.Frag):Sp:=λe H Q _=>∃ (p:Addr) (a:d6) (b:Int),e=[.ref p,.int b]/\H p^^^(~~~a)/\@a<=1000/\∀ (g:Int) (c:Hp),Same H c->0<=g->g∣b->(∀ z∈a,g∣z)->(∀ d:Int,d∣b->(∀ z∈a,d∣z)->d∣g)->Q (.int g) c
def Ij (_:W.Frag):Sp:=λb H Q _=>∃ (p:Addr) (a:d6) (g:Int),b=[.ref p,.int g]/\H p^^^(~~~a)/\(0<g\/a=[])/\@a<=1000/\∀ r,H r=none->Q (.ref r) (upd H r (.lst ((a.map (·/ g)).map V.int)))
def Ik (_:W.Frag):Sp:=λe H Q _=>∃ (p q:Addr) (a b:d6) (f w:Int) (s:Nat),e=[.ref p,.int f,.ref q,.int w,.int (s:Int)]/\H p^^^(~~~a)/\H q^^^(~~~b)/\@a<=1000/\s+@b<=1000/\Bd 60000000 f/\Bd 60000000 w/\(∀ z∈a,Bd 60000000 z)/\(∀ z∈b,Bd 60000000 z)/\
 ∀ (r:Addr) (c:d6) (d:Hp),Same H d->d r^^^(~~~c)->Tz c->(∀ k,co c k=f*co a k - w*A9 s (co b) k)->Q (.ref r) d
def Il (_:W.Frag):Sp:=λg H Q _=>∃ (p q:Addr) (a c:d6) (b d:Nat),g=[.ref p,.ref q]/\H p^^^(~~~a)/\H q^^^(~~~c)/\Lz c/\(∀ z∈a,Bd b z)/\(∀ z∈c,Bd d z)/\b+@a*(d+1)<=60000000/\d<=60000000/\@a<=1000/\@c<=1000/\((¬ ∃ A:d6,∀ k,co a k=cvL A (co c) k)->∀ e,Same H e->Q .non e)/\
 ∀ (r:Addr) (f:d6) (e:Hp),Same H e->e r^^^(~~~f)->(∀ k,co a k=cvL f (co c) k)->Q (.ref r) e
def Sh (b a:List (d6)):Prop:=∃ g:Int,0<g/\b=a.map (·.map (g*·))
def yD (a:List (d6)):Prop:=(∀ r∈a,r=[])\/∀ d:Int,(∀ r∈a,∀ z∈r,d∣z)->d.natAbs=1
def Im (_:W.Frag):Sp:=λd H Q _=>∃ (p:Addr) (b:List (d6)),d=[.ref p]/\SD H p b/\@b<=1000/\(∀ r∈b,@r<=1000/\Tz r)/\
 ∀ (t:Addr) (a:List (d6)) (c:Hp),Same H c->SD c t a->Sh b a->yD a->Q (.ref t) c
def Hn (_:W.Frag):Sp:=λd H Q _=>∃ (p:Addr) (a:d6),d=[.ref p]/\H p^^^(~~~a)/\@a<=1000/\Tz a/\
 ∀ (t:Addr) (b:d6) (g:Int) (c:Hp),Same H c->c t^^^(~~~b)->0<g->a=b.map (g*·)->(a=[]\/Prim b)->Q (.ref t) c
def KH (_:W.Frag):Sp:=λb H Q _=>∃ (p q:Addr) (o:d6),b=[.ref p,.ref q]/\SD H p [[]]/\SD H q [o]/\0<@o/\∀ (t:Addr) (a:Hp),Same H a->SD a t [[]]->Q (.ref t) a
def Io (_:W.Frag):Sp:=λb H Q _=>∃ (p q:Addr) (s o:d6),b=[.ref p,.ref q]/\SD H p [s]/\SD H q [o]/\(s=[]\/o=[])/\∀ (t:Addr) (a:Hp),Same H a->SD a t [if o=[] then s else o]->Q (.ref t) a
def KI (_:W.Frag):Sp:=λb H Q _=>∃ a p:Int,b=[.int a,.int p]/\2<=p/\Bd 45000 p/\∀ r:Int,0<=r->r<p->(Int.gcd a p=1->p∣r*a - 1)->Q (.int r) H
def KJ (_:W.Frag):Sp:=λb H Q _=>∃ (p:Addr) (a:d6) (m:Int),b=[.ref p,.int m]/\H p^^^(~~~a)/\0<m/\@a<=1000/\∀ r,H r=none->Q (.ref r) (upd H r (.lst ((a.map (·% m)).map V.int)))
def Md (m:Int) (a:d6) (f:dq):Prop:=(∀ z∈a,0<=z/\z<m)/\∀ k,m∣co a k - f k
def Ho (_:W.Frag):Sp:=λd H Q _=>∃ (p:Addr) (a:d6) (m:Int),d=[.ref p,.int m]/\H p^^^(~~~a)/\0<m/\@a<=1000/\∀ (r:Addr) (b:d6) (c:Hp),Same H c->c r^^^(~~~b)->Tz b->@b<=@a->Md m b (co a)->Q (.ref r) c
def Hr (_:W.Frag):Sp:=λd H Q _=>∃ (q:Addr) (a:d6) (p:Nat),d=[.ref q,.int (p:Int)]/\H q^^^(~~~a)/\Pr p/\Bd 45000 (p:Int)/\@a<=1000/\Tz a/\(∀ z∈a,0<=z/\z<(p:Int))/\
 ∀ (r:Addr) (b:d6) (f:Int) (c:Hp),Same H c->c r^^^(~~~b)->@b=@a->(a≠[]->co b (@b - 1)=1)->Md (p:Int) b (λk=>f*co a k)->Q (.ref r) c
def KK (_:W.Frag):Sp:=λg H Q _=>∃ (p q:Addr) (f a:d6) (m:Int) (b:Nat),g=[.ref p,.ref q,.int m]/\H p^^^(~~~f)/\H q^^^(~~~a)/\0<@a/\co a (@a - 1)=1/\0<m/\Bd b m/\(∀ z∈a,Bd b z)/\b<=60000000/\@f<=1000/\@a<=1000/\
 ∀ (t r s:Addr) (d e:d6) (c:Hp),Same H c->c t&&&[.ref r,.ref s]->c r^^^(~~~d)->c s^^^(~~~e)->Tz d->Tz e->@e<@a->Md m e (λk=>co f k - cvL d (co a) k)->(∀ z∈d,0<=z/\z<m)->Q (.ref t) c
def KL (_:W.Frag):Sp:=λf H Q _=>∃ (p q:Addr) (d a:d6) (m:Int) (b:Nat),f=[.ref p,.ref q,.int m]/\H p^^^(~~~d)/\H q^^^(~~~a)/\0<@a/\co a (@a - 1)=1/\0<m/\Bd b m/\(∀ z∈a,Bd b z)/\b<=60000000/\@d<=1000/\@a<=1000/\
 ∀ (s:Addr) (g c:d6) (e:Hp),Same H e->e s^^^(~~~c)->Tz c->@c<@a->Md m c (λk=>co d k - cvL g (co a) k)->Q (.ref s) e
def KM (_:W.Frag):Sp:=λh H Q _=>∃ (a b:Addr) (d e:d6) (p:Nat),h=[.ref a,.ref b,.int (p:Int)]/\H a^^^(~~~d)/\H b^^^(~~~e)/\Pr p/\Bd 45000 (p:Int)/\@d<=1000/\@e<=1000/\((∃ k,¬ (p:Int)∣co d k)\/∃ k,¬ (p:Int)∣co e k)/\
 ∀ (s:Addr) (c:d6) (f:Hp),Same H f->f s^^^(~~~c)->0<@c->@c<=1000->co c (@c - 1)=1->(∀ z∈c,0<=z/\z<(p:Int))->(∀ g:dq,Dm (p:Int) g (co d)->Dm (p:Int) g (co e)->Dm (p:Int) g (co c))->Dm (p:Int) (co c) (co d)->Dm (p:Int) (co c) (co e)->Q (.ref s) f
def KN (_:W.Frag):Sp:=λa H Q _=>∃ w p:Int,a=[.int w,.int p]/\0<p/\∀ r:Int,p∣r - w->2*r.natAbs<=p.natAbs->Q (.int r) H
def Fi (e:Nat) (ns:d6):Prop:=∀ A g:d6,(∀ k,co ns k=cvL A (co g) k)->∀ k,Bd e (co g k)
def Fp (e:Nat) (ns:d6):Prop:=∀ g:d6,Lz g->Prim g->MQ (co g) (co ns)->∀ k,Bd e (co g k)
def P4 (e c N p:Nat):Prop:=2 ^ ((e+c+2)*N)<p
def KO (_:W.Frag):Sp:=λj H Q _=>∃ (a b:Addr) (f g:d6) (p d e c N:Nat),j=[.ref a,.ref b,.int (p:Int)]/\H a^^^(~~~f)/\H b^^^(~~~g)/\Pr p/\Bd 45000 (p:Int)/\Lz f/\Lz g/\(∀ z∈f,Bd d z)/\(∀ z∈g,Bd d z)/\d+@f*45001<=3000000/\d+@g*45001<=3000000/\Fi e f/\Fi e g/\@f+@g<2 ^ (c+1)/\@f+@g<=N+2/\2<=N/\(¬ P4 e c N p->∀ h,Same H h->Q .non h)/\
 ∀ (s:Addr) (i:d6) (h:Hp),Same H h->h s^^^(~~~i)->RC (co f) (co g) i->Prim i->Q (.ref s) h
def KP (_:W.Frag):Sp:=λj H Q _=>∃ (a b:Addr) (f g:d6) (d e c N:Nat),j=[.ref a,.ref b]/\H a^^^(~~~f)/\H b^^^(~~~g)/\Tz f/\Tz g/\(∀ z∈f,Bd d z)/\(∀ z∈g,Bd d z)/\d<=200000/\@f<=60/\@g<=60/\(f≠[]->g≠[]->Fp e f/\Fp e g)/\@f+@g<2 ^ (c+1)/\@f+@g<=N+2/\2<=N/\(e+c+2)*N<=44490/\
 ∀ (s:Addr) (h:d6) (i:Hp),Same H i->i s^^^(~~~h)->((f≠[]\/g≠[])->RC (co f) (co g) h/\Prim h)->(f=[]->g=[]->h=[])->Q (.ref s) i
structure Gq (b c:Nat) (l:cQ):Prop where
 low:Af l
 nz:Nz l
 ov:∃ M,Ov l M/\Bd c M/\∀ z∈S_ l M,Bd b z
noncomputable def L' (g:d6):cQ:=g.map λn=>Aq n (co g (@g - 1))
def MR (g f:dt):Prop:=∃ A:List Rat,∀ k,f k=cvL A g k
def E5 (_:W.Frag):Sp:=λc H Q _=>∃ a b:Int,c=[.int a,.int b]/\b≠0/\∀ (p:Addr),H p=none->Q (.ref p) (upd H p (.tup [.int (Aq a b).1,.int (Aq a b).2]))
def Gn (_:W.Frag):Sp:=λb H Q _=>∃ (p:Addr) (a:cZ) (l:cQ),b=[.ref p]/\H p^^^a/\Nums H a l/\@l<=1000/\GC H Q (trim l)
def E6 (_:W.Frag):Sp:=λd H Q _=>∃ (p:Addr) (c:cZ) (l:cQ) (M:Int),d=[.ref p]/\(H p&&&c\/H p^^^c)/\Nums H c l/\Af l/\Ov l M/\Bd 400000 M/\(∀ q∈l,Bd 60000000 q.1)/\@l<=1000/\
 ∀ (r a:Addr) (b:Hp),Same H b->b r&&&[.ref a,.int (Ag l)]->b a^^^((AV l).map V.int)->Q (.ref r) b
def Hs (_:W.Frag):Sp:=λb H Q _=>∃ (p:Addr) (a:d6) (B:Int),b=[.ref p,.int B]/\H p^^^(~~~a)/\B≠0/\@a<=1000/\GC H Q (trim (a.map λn=>Aq n B))
def Gs (_:W.Frag):Sp:=λh H Q _=>∃ (p q:Addr) (a f:cZ) (l m:cQ) (b c e d N:Nat),h=[.ref p,.ref q]/\H p&&&a/\H q&&&f/\Nums H a l/\Nums H f m/\Gq b c l/\Gq b c m/\b<=200000/\c<=200000/\@l<=60/\@m<=60/\(l≠[]->m≠[]->Fp e (AV l)/\Fp e (AV m))/\@l+@m<2 ^ (d+1)/\@l+@m<=N+2/\2<=N/\(e+d+2)*N<=44490/\
 (l=[]->m=[]->GC H Q [])/\((l≠[]\/m≠[])->∀ g,RC (co (AV l)) (co (AV m)) g->Prim g->GC H Q (L' g))
def Ht (f:Nu->Nu->Nu) (_:W.Frag):Sp:=λe H Q _=>∃ (p q:Addr) (a b c d:Int),e=[.ref p,.ref q]/\Nm H p a b/\Nm H q c d/\0<b/\0<d/\Bd 60000000 a/\Bd 60000000 b/\Bd 60000000 c/\Bd 60000000 d/\
 ∀ (r:Addr),H r=none->Q (.ref r) (upd H r (.tup [.int (f (a,b) (c,d)).1,.int (f (a,b) (c,d)).2]))
def KQ (_:W.Frag):Sp:=λj H Q _=>∃ (p q:Addr) (h i:cZ) (l m:cQ) (b c d e:Nat),j=[.ref p,.ref q]/\H p&&&h/\H q&&&i/\Nums H h l/\Nums H i m/\Gq b c l/\Gq d e m/\m≠[]/\@l<=100/\@m<=100/\
 c+(@l+1 - @m)*d<=400000/\b+(@l+1 - @m)*(d+1)+e<=900000/\e<=400000/\d<=400000/\
 ∀ (t u v:Addr) (f:Hp) (a g:cQ),Same H f->f t&&&[.ref u,.ref v]->Pl f u a->Pl f v g->Af a->Nz a->@a<=@l+1 - @m->Gq (b+(@l+1 - @m)*(d+1)) (c+(@l+1 - @m)*d) g->@g<@m->
   (∀ k,C_ l k=cv (C_ a) (C_ m) @a k+C_ g k)->Q (.ref t) f
def Cop (T B:dt):Prop:=∃ U W:List Rat,∀ k,(Ay k:Rat)=cvL U T k+cvL W B k
abbrev KR:=Ht D_
def Ip (_:W.Frag):Sp:=λe H Q _=>∃ (p q:Addr) (a b c d:Int),e=[.ref p,.ref q]/\Nm H p a b/\Nm H q c d/\0<b/\c≠0/\Bd 60000000 a/\Bd 60000000 b/\Bd 60000000 c/\Bd 60000000 d/\
 ∀ (r:Addr),H r=none->Q (.ref r) (upd H r (.tup [.int (Aq (a*d) (b*c)).1,.int (Aq (a*d) (b*c)).2]))
def KS (_:W.Frag):Sp:=λf H Q _=>∃ (p q:Addr) (a c:d6) (b d:Nat),f=[.ref p,.ref q]/\H p^^^(~~~a)/\H q^^^(~~~c)/\(∀ z∈a,Bd b z)/\(∀ z∈c,Bd d z)/\b<=900000/\d<=900000/\@a<=100/\@c<=100/\
 ∀ (r:Addr) (e:Hp),Same H e->e r^^^((if @a=0\/@c=0 then [] else (List.range (@a+@c - 1)).map λk=>ps a c @a k).map V.int)->Q (.ref r) e
def Gu (_:W.Frag):Sp:=λh H Q _=>∃ (p q:Addr) (f g:cZ) (l m:cQ) (b c d e:Nat),h=[.ref p,.ref q]/\H p&&&f/\H q&&&g/\Nums H f l/\Nums H g m/\Gq b c l/\Gq d e m/\@l<=100/\@m<=100/\b<=300000/\c<=300000/\d<=300000/\e<=300000/\
 ∀ (r:Addr) (R:cQ) (a:Hp),Same H a->Pl a r R->Gq (b+d+@l) (c+e) R->@R<=@l+@m - 1->(∀ k,C_ R k=cv (C_ l) (C_ m) @l k)->Q (.ref r) a
def Iq (_:W.Frag):Sp:=λe H Q _=>∃ (p c:Addr) (d:cZ) (l:cQ) (a b:Int),e=[.ref p,.ref c]/\H p&&&d/\Nm H c a b/\Nums H d l/\Af l/\0<b/\Bd 60000000 a/\Bd 60000000 b/\(∀ q∈l,Bd 60000000 q.1/\Bd 60000000 q.2)/\@l<=1000/\GC H Q (trim (l.map λq=>D_ q (a,b)))
def E7 (_:W.Frag):Sp:=λh H Q _=>∃ (p q:Addr) (f g:cZ) (l m:cQ) (b c d e:Nat),h=[.ref p,.ref q]/\H p&&&f/\H q&&&g/\Nums H f l/\Nums H g m/\Gq b c l/\Gq d e m/\m≠[]/\@l<=100/\@m<=100/\
 c+(@l+1 - @m)*d<=400000/\b+(@l+1 - @m)*(d+1)+e<=900000/\e<=400000/\d<=400000/\MR (C_ m) (C_ l)/\
 ∀ (r:Addr) (R:cQ) (a:Hp),Same H a->Pl a r R->Af R->Nz R->@R<=@l+1 - @m->(∀ k,C_ l k=cv (C_ R) (C_ m) @R k)->Q (.ref r) a
abbrev KT:=Ht C'
def Ir (_:W.Frag):Sp:=λc H Q _=>∃ (p:Addr) (b:cZ) (l:cQ) (i:Nat),c=[.ref p,.int (i:Int)]/\H p&&&b/\Nums H b l/\∀ (v:V) (a:Hp),Same H a->isN a v (Ad l i)->Q v a
def Lx (f:Nu->Nu->Nu) (s:Rat) (_:W.Frag):Sp:=λg H Q _=>∃ (p q:Addr) (d e:cZ) (l m:cQ) (M:Int) (b c:Nat),g=[.ref p,.ref q]/\H p&&&d/\H q&&&e/\Nums H d l/\Nums H e m/\Af l/\Af m/\Ov l M/\Ov m M/\Bd c M/\(∀ z∈S_ l M,Bd b z)/\(∀ z∈S_ m M,Bd b z)/\b<=300000/\c<=300000/\@l<=100/\@m<=100/\
 ∀ (r:Addr) (R:cQ) (a:Hp),Same H a->Pl a r R->Gq (b+1) c R->@R<=max @l @m->(∀ k,C_ R k=C_ l k+s*C_ m k)->Q (.ref r) a
abbrev Ly:=Lx C' 1
def KU (_:W.Frag):Sp:=λc H Q _=>∃ (p q:Addr) (l m:cQ),c=[.ref p,.ref q]/\Pl H p l/\Pl H q m/\Af l/\Af m/\Nz m/\m≠[]/\(∀ q∈l,Bd 1000000 q.1/\Bd 1000000 q.2)/\(∀ q∈m,Bd 1000000 q.1/\Bd 1000000 q.2)/\@l<=1000/\@m<=1000/\
 ∀ a:Nu,Low a.1 a.2->val a*val (Ad m (@m - 1))=1->∀ (t u v:Addr) (b:Hp),Same H b->b t&&&[.ref u,.ref v]->Pl b u (trim (l.map λq=>D_ q (a.1,a.2)))->Pl b v (trim (m.map λq=>D_ q (a.1,a.2)))->Q (.ref t) b
noncomputable def rw' (l:cQ):List Rat:=(List.range @l).map (C_ l)
def FF (H:Hp) (p:Addr) (T B:cQ):Prop:=∃ u v,H p&&&[.ref u,.ref v]/\Pl H u T/\Pl H v B
noncomputable def dv (f:dt) (k:Nat):Rat:=((k:Rat)+1)*f (k+1)
def yE (_:W.Frag):Sp:=λe H Q _=>∃ (p:Addr) (d:cZ) (l:cQ) (b c:Nat),e=[.ref p]/\H p&&&d/\Nums H d l/\Gq b c l/\@l<=31/\b<=200000/\c<=200000/\
 ∀ (r:Addr) (R:cQ) (a:Hp),Same H a->Pl a r R->Gq (b+5) c R->@R=@l - 1->(∀ k,C_ R k=dv (C_ l) k)->Q (.ref r) a
noncomputable def sr (l:cQ):Sr:={C_ l}
noncomputable def si (ns:d6):Sr:={λk=>(co ns k:Rat)}
structure Lw (T B:cQ):Prop where
 lt:Af T
 lb:Af B
 nt:Nz T
 nb:Nz B
 ne:B≠[]
 one:Ad B (@B - 1)=(1,1)
 cs:Sr.Cs (sr T) (sr B)
structure Rp (b n m:Nat) (T B:cQ):Prop where
 lw:Lw T B
 rp:∃ N D:d6,Lz D/\Tz N/\(∀ z∈N,Bd b z)/\(∀ z∈D,Bd b z)/\@N<=n/\@D<=m/\sr T*si D=si N*sr B
structure C0 (x n m e:Nat):Prop where
 n1:1<=n
 m1:1<=m
 n60:n<=60
 m60:m<=60
 ne:n<2 ^ e
 me:m<2 ^ e
 e6:e<=6
 lu:(x+e+2)*(n+m)<=44490
abbrev C1 (b n m e:Nat):Prop:=C0 (b+max n m*(2*e+4)) n m e
structure C2 (b n m e:Nat):Prop where
 a:C1 b m m e
 t:C1 (2*b+e+1) (n+m - 1) m e
 b9:b<=5000
 m50:m<=50
def Hu (_:W.Frag):Sp:=λc H Q _=>∃ (p q:Addr) (l m:cQ) (b x n k e:Nat),c=[.ref p,.ref q]/\Pl H p l/\Pl H q m/\Gq b b l/\Gq b b m/\m≠[]/\@l<=n/\@m<=k/\(l≠[]->Fp x (AV l))/\Fp x (AV m)/\C0 x n k e/\b<=100000/\
 ∀ (t:Addr) (a:Hp) (T B:cQ),Same H a->FF a t T B->Lw T B->sr T*sr m=sr l*sr B->Q (.ref t) a
def P5 (s:Rat) (_:W.Frag):Sp:=λf H Q _=>∃ (p q:Addr) (T B c a:cQ) (b n m e:Nat),f=[.ref p,.ref q]/\FF H p T B/\FF H q c a/\Rp b n m T B/\Rp b n m c a/\C2 b n m e/\
 ∀ (t:Addr) (d:Hp) (X Y:cQ),Same H d->FF d t X Y->Lw X Y->sr X*(sr B*sr a)=(sr T*sr a+Sr.num s*sr c*sr B)*sr Y->Q (.ref t) d
abbrev KW:=P5 1
noncomputable def au (f:dt) (n:Nat) (x:Rat):dt
 | 0=>0
 | d+1=>f (n - 1 - d)+x*au f n x d
noncomputable def ah (l:cQ) (x:Rat):Rat:=au (C_ l) @l x @l
def Iu (_:W.Frag):Sp:=λf H Q _=>∃ (p q:Addr) (e:cZ) (l:cQ) (a d:Int) (b:Nat),f=[.ref p,.ref q]/\H p&&&e/\Nm H q a d/\Nums H e l/\Gq b b l/\b<=8000/\Low a d/\Bd 100 a/\Bd 100 d/\@l<=20/\
 ∀ (r:Addr) (c:Hp) (z:Nu),Same H c->isN c (.ref r) z->Low z.1 z.2->Bd 100000 z.1->Bd 100000 z.2->val z=ah l (val (a,d))->Q (.ref r) c
def At (H:Hp) (v:V) (T B:cQ) (x:Rat):Prop:=(ah B x=0/\v=.non)\/(ah B x≠0/\∃ z:Nu,isN H v z/\Low z.1 z.2/\Bd 400000 z.1/\Bd 400000 z.2/\val z*ah B x=ah T x)
def L0 (_:W.Frag):Sp:=λe H Q _=>∃ (p q:Addr) (T B:cQ) (a d:Int) (b:Nat),e=[.ref p,.ref q]/\FF H p T B/\Nm H q a d/\Gq b b T/\Gq b b B/\b<=8000/\@T<=20/\@B<=20/\Low a d/\Bd 100 a/\Bd 100 d/\∀ (v:V) (c:Hp),Same H c->At c v T B (val (a,d))->Q v c
end Bs
namespace Bs
open PySem PySem.Spec PyProof.Rows L2
noncomputable def E8:Addr:=287
def L1 (ps:Array Value) (c:Addr):Prop:=TriplesOk ps.toList/\codeAmong ⟨237,47,237,69⟩ ps.toList=some (PySem.Value.ref c)
def L3 (c:Addr) (h:Heap):Prop:=h.CodeRec (.ref c) (("settled_number" : Str) ++ ".<locals>." ++ "<lambda>")
def aX (H:Hp):Prop:=TabOk L1 L3 E8 H
end Bs
namespace Bs
open PySem L2
abbrev eC (Q:VK):Ends:={ nx:=λ_ h=>Q .non h,rt:=Q }
noncomputable def Lal {a:Type} (R:V->a->Prop):cZ->List a->Prop
 | [],[]=>True
 | u::b,x::c=>R u x/\Lal R b c
 | _,_=>False
def Cz (t:Nat) (q:Nu):Prop:=Low q.1 q.2/\∃ k:Int,val q=(k:Rat) / 60/\Bd t k
abbrev O_:=Nu×Int
def Pc (H:Hp) (u:V) (x:O_):Prop:=∃ a b,u=.ref a/\H a&&&[.ref b,.int x.2]/\Nm H b x.1.1 x.1.2
def Rw (H:Hp) (u:V) (x:Nu×Nu):Prop:=∃ a b d,u=.ref a/\H a&&&[.ref b,.ref d]/\Nm H b x.1.1 x.1.2/\Nm H d x.2.1 x.2.2
noncomputable def vp (p:Nat):Nat->Nat->Nat
 | 0,_=>0
 | n+1,w=>if p∣w then vp p n (w / p)+1 else 0
noncomputable def Ac (p:Nat) (w:Int):Nat:=vp p w.natAbs w.natAbs
noncomputable def WP (p:Nat):List O_->Rat
 | []=>0
 | x::a=>val x.1*(Ac p x.2:Rat)+WP p a
def Om (M:Int):Prop:=0<M/\M<(2:Int) ^ 200
def Sm (M:Int) (w:Int):Prop:=0<w/\w<(2:Int) ^ 262/\w∣M
def Cp (x y:O_):Prop:=Int.gcd x.2 y.2=1
def L4 (_:W.Frag):Sp:=λc H Q _=>∃ (u v:V) (x y:O_) (t:Nat),c=[u,v]/\Pc H u x/\Pc H v y/\Cz t x.1/\Cz t y.1/\t<=400000/\0<x.2/\0<y.2/\
 ∀ (r:Addr) (b:cZ) (a:Hp),Same H a->H r=none->a r^^^b->Lal (Pc a) b [(x.1,x.2 / (Int.gcd x.2 y.2:Nat)),(y.1,y.2 / (Int.gcd x.2 y.2:Nat)),(C' x.1 y.1,((Int.gcd x.2 y.2:Nat):Int))]->Q (.ref r) a
def L5 (_:W.Frag):Sp:=λg H Q _=>∃ (a:Addr) (e:cZ) (b:List O_) (M:Int),g=[.ref a]/\H a^^^e/\Lal (Pc H) e b/\Om M/\(∀ x∈b,Cz 81 x.1/\Sm M x.2)/\@b<=48/\
 ∀ (r:Addr) (f:cZ) (c:List O_) (d:Hp),Same H d->d r^^^f->Lal (Pc d) f c->(∀ y∈c,Cz 200000 y.1/\y.1.1≠0/\1<y.2/\Sm M y.2)->c.Pairwise Cp->(∀ p,Pr p->WP p c=WP p b)->Q (.ref r) d
noncomputable def WR (p:Nat):List (Nu×Nu)->Rat
 | []=>0
 | x::a=>val x.1*((Ac p x.2.1:Rat) - (Ac p x.2.2:Rat))+WR p a
def Rz (M:Int) (t:Nat) (x:Nu×Nu):Prop:=Cz t x.1/\Sm M x.2.1/\Sm M x.2.2
noncomputable def Iw (y:O_):Nu×Nu:=(y.1,(y.2,1))
def L6 (_:W.Frag):Sp:=λh H Q _=>∃ (v:V) (a:Addr) (f:cZ) (e:List (Nu×Nu)) (M:Int),h=[v,.ref a]/\H a^^^f/\Lal (Rw H) f e/\Om M/\(∀ x∈e,Cz 80 x.1/\Sm M x.2.1/\Sm M x.2.2)/\@e<=24/\aX H/\
 ∀ (r b:Addr) (g:cZ) (c:List O_) (d:Hp),Kp E8 H d->aX d->d r&&&[v,.ref b]->d b&&&g->Lal (Rw d) g (c.map λy=>(y.1,(y.2,1)))->(∀ y∈c,Cz 200000 y.1/\y.1.1≠0/\1<y.2/\Sm M y.2)->c.Pairwise Cp->c.Pairwise (λx y=>x.2<=y.2)->@c<=60->(∀ p,Pr p->WP p c=WR p e)->Q (.ref r) d
abbrev Gp:=Nu×d6×d6
abbrev Pp:=Int×Int×Nat
def Gh (H:Hp) (u:V) (g:Gp):Prop:=∃ a b c d,u=.ref a/\H a&&&[.ref b,.ref c,.ref d]/\Nm H b g.1.1 g.1.2/\H c^^^(g.2.1.map V.int)/\H d^^^(g.2.2.map V.int)
def Ph (H:Hp) (u:V) (p:Pp):Prop:=∃ a,u=.ref a/\H a&&&[.int p.1,.int p.2.1,.int (p.2.2:Int)]
structure Gz (g:Gp):Prop where
 c:Cz 10 g.1
 l2:↑g.2.1<=2
 a6:∀ a∈g.2.1,a.natAbs<=6
 l1:↑g.2.2<=1
 m18:∀ m∈g.2.2,0<m/\m<=18
structure Pz (p:Pp):Prop where
 n0:p.1≠0
 n5:p.1.natAbs<=5
 a6:p.2.1.natAbs<=6
 k1:1<=p.2.2
 k3:p.2.2<=3
structure Rz4 (row:cQ):Prop where
 r4:↑row<=4
 rz:∃ b:Int,0<b/\b<=3/\∀ q∈row,Low q.1 q.2/\q.2∣b/\q.1.natAbs<=5
structure Pz2 (ps:List Pp):Prop where
 p2:@ps<=2
 pz:∀ p∈ps,Pz p
 pu:ps.Pairwise λp q=>p.2.1≠q.2.1
structure Gz6 (gs:List Gp):Prop where
 g6:@gs<=6
 gz:∀ g∈gs,Gz g
def Gd (H:Hp) (g:Addr) (gs:List Gp):Prop:=∃ a,H g^^^a/\Lal (Gh H) a gs
def Pd (H:Hp) (p:Addr) (row:cQ) (ps:List Pp):Prop:=∃ w q a b,H p&&&[.ref w,.ref q]/\H w^^^a/\Nums H a row/\H q^^^b/\Lal (Ph H) b ps
def Dd (H:Hp) (r:Addr) (gs:List Gp) (row:cQ) (ps:List Pp):Prop:=∃ g p,H r&&&[.ref g,.ref p]/\Gd H g gs/\Pd H p row ps
def Tq (H a:Hp):Prop:=Tp H a/\∀ b c,H b^^^c->a b^^^c
noncomputable def vA (x:Rat):d6->Rat
 | []=>1
 | a::l=>(x - (a:Rat))*vA x l
noncomputable def vS (x:Rat):d6->Rat
 | []=>1
 | m::l=>(x*x+(m:Rat))*vS x l
noncomputable def vW (g:Gp) (x:Rat):Rat:=vA x g.2.1*vS x g.2.2
noncomputable def eR (x:Rat):cQ->Rat
 | []=>0
 | q::l=>val q+x*eR x l
noncomputable def aQ (x:Rat):List Pp->Rat->Rat
 | [],t=>t
 | p::l,t=>aQ x l (t+(p.1:Rat)*((x - (p.2.1:Rat)) ^ p.2.2)⁻¹)
noncomputable def nA (t b:Int):d6->Int
 | []=>1
 | a::l=>(t - a*b)*nA t b l
noncomputable def nS (t b:Int):d6->Int
 | []=>1
 | m::l=>(t*t+m*(b*b))*nS t b l
noncomputable def gN (t b:Int) (g:Gp):Int:=nA t b g.2.1*nS t b g.2.2
noncomputable def gQ (b:Int) (g:Gp):Int:=b ^ (↑g.2.1+2*↑g.2.2)
noncomputable def Mg (t b:Int):List Gp->Int
 | []=>1
 | g::a=>((gN t b g).natAbs:Int)*gQ b g*Mg t b a
noncomputable def WL (p:Nat) (t b:Int):List Gp->Rat
 | []=>0
 | g::a=>val g.1*((Ac p (gN t b g):Rat) - (Ac p (gQ b g):Rat))+WL p t b a
def bh (gs:List Gp) (ps:List Pp) (x:Rat):Prop:=(∃ g∈gs,∃ a∈g.2.1,x=(a:Rat))\/∃ p∈ps,x=(p.2.1:Rat)
structure Cq (t b:Int):Prop where
 lo:Low t b
 t18:t.natAbs<=18
 b3:b<=3
def Fr (H:Hp) (u:V) (g:Gp):Prop:=∃ a b c l,u=.ref a/\H a&&&[.ref b,.ref c]/\Nm H b g.1.1 g.1.2/\Pl H c l/\Gq 500 500 l/\@l<=10/\∀ x,ah l x=vW g x
def Fo (H:Hp) (f:Addr) (T B:cQ) (gs:List Gp):Prop:=∃ a s b,H f&&&[.ref a,.ref s]/\FF H a T B/\H s&&&b/\Lal (Fr H) b gs
structure Kr (T B:cQ) (row:cQ) (ps:List Pp):Prop where
 gT:Gq 4000 4000 T
 gB:Gq 4000 4000 B
 lT:@T<=20
 lB:@B<=20
 no:∀ x,(∃ p∈ps,x=(p.2.1:Rat))->ah B x=0
 at':∀ x,¬ (∃ p∈ps,x=(p.2.1:Rat))->ah B x≠0/\ah T x=aQ x ps (eR x row)*ah B x
def Ps (M:Int):Prop:=∀ p:Nat,Pr p->(p:Int)∣M->p<=1000
structure St5 (M:Int) (ys:List O_):Prop where
 sz:∀ y∈ys,Cz 200000 y.1/\y.1.1≠0/\1<y.2/\Sm M y.2
 cp:ys.Pairwise Cp
 so:ys.Pairwise λx y=>x.2<=y.2
 l60:@ys<=60
structure Wd (M:Int) (t:Nat) (H:Hp) (nvs:List (Int×V)) (f:dt):Prop where
 nd:(nvs.map (·.1)).Nodup
 ok:∀ kv∈nvs,∃ (p:Nat) (a:Addr) (q:Nu),kv.1=(p:Int)/\Pr p/\(p:Int)∣M/\kv.2=.ref a/\Nm H a q.1 q.2/\Cz t q/\val q=f p
 no:∀ p,Pr p->(∀ kv∈nvs,kv.1≠(p:Int))->f p=0
abbrev Wp:=Nat×Nu
def Wr (H:Hp) (u:V) (x:Wp):Prop:=∃ a b,u=.ref a/\H a&&&[.int (x.1:Int),.ref b]/\Nm H b x.2.1 x.2.2
structure Wl (F:dt) (ls:List Wp):Prop where
 so:ls.Pairwise λx y=>x.1<y.1
 ok:∀ x∈ls,Pr x.1/\Low x.2.1 x.2.2/\val x.2=F x.1/\F x.1≠0
 all:∀ p,Pr p->F p≠0->∃ x∈ls,x.1=p
abbrev FX:=E5
abbrev Gv:=Ht C'
abbrev Gw:=Ht D_
def L7 (K:W.Frag):Sp:=λb H Q _=>∃ (a:Addr) (c:d6) (k:Int),b=[.ref a,.int k]/\SqL K H a (~~~c)/\0<=k/\∀ n:Int,Q (.int n) H
noncomputable def X' (c k m:Int):Int:=(if decide ((2:Int) ^ (60:Int).toNat<c)=true then (if decide (m<200)=true then c.fdiv (2 ^ (8*k).toNat) % 256 else (c % 2147483629+k*k*7919+11)*48271 % 2147483647*((c % 2147483629+k*k*7919+11)*48271 % 2147483647) % 1999999973 / 7) else (c % 2147483629+k*k*7919+11)*48271 % 2147483647*((c % 2147483629+k*k*7919+11)*48271 % 2147483647) % 1999999973 / 7) % m
def C3 (_:W.Frag):Sp:=λa H Q _=>∃ c k m:Int,a=[.int c,.int k,.int m]/\0<=k/\k<=100/\0<m/\(0<=X' c k m->X' c k m<m->Q (.int (X' c k m)) H)
def Ix (_:W.Frag):Sp:=λb H Q _=>∃ (p:Addr) (t d:Int),b=[.ref p]/\Nm H p t d/\Low t d/\∀ a,Same H a->Q (.bl true) a
def L8 (_:W.Frag):Sp:=λd H Q _=>∃ (a:Addr) (b:d6),d=[.ref a]/\H a^^^(~~~b)/\@b<=60/\(∀ n∈b,0<n)/\b.Pairwise (λx y=>Int.gcd x y=1)/\∀ c,Same H c->Q (.bl true) c
def KY (_:W.Frag):Sp:=λc H Q _=>∃ (p:Addr) (a b:Int),c=[.ref p]/\Nm H p a b/\∀ r,H r=none->Q (.ref r) (upd H r (.tup [.int (a.natAbs:Int),.int b]))
abbrev L9:=KY
def Iy (_:W.Frag):Sp:=λd H Q _=>∃ (q:Addr) (t b a:Int),d=[.ref q,.int a]/\Nm H q t b/\0<b/\Bd 100 t/\Bd 100 b/\Bd 100 a/\∀ (r:Addr) (c:Hp),Same H c->Nm c r (C' (t,b) (-a,1)).1 (C' (t,b) (-a,1)).2->Q (.ref r) c
def KZ (_:W.Frag):Sp:=λb H Q _=>∃ (q:Addr) (z:Nu) (k:Nat),b=[.ref q,.int (k:Int)]/\Nm H q z.1 z.2/\0<z.2/\Bd 100 z.1/\Bd 100 z.2/\k<=10/\∀ (r:Addr) (y:Nu) (a:Hp),Same H a->Nm a r y.1 y.2->Low y.1 y.2->Bd 1001 y.1->Bd 1001 y.2->val y=val z ^ k->Q (.ref r) a
def MA (_:W.Frag):Sp:=λa H Q _=>∃ (q:Addr) (t b:Int),a=[.ref q]/\Nm H q t b/\t≠0/\∀ r,H r=none->Q (.ref r) (upd H r (.tup [.int (Aq b t).1,.int (Aq b t).2]))
def MC (_:W.Frag):Sp:=λd H Q _=>∃ (p q:Addr) (a:cQ) (ps:List Pp) (t b:Int),d=[.ref p,.ref q]/\Pd H p a ps/\Rz4 a/\Pz2 ps/\Nm H q t b/\Cq t b/\¬ (∃ p∈ps,val (t,b)=(p.2.1:Rat))/\∀ (r:Addr) (z:Nu) (c:Hp),Same H c->Nm c r z.1 z.2->Low z.1 z.2->val z=aQ (val (t,b)) ps (eR (val (t,b)) a)->Q (.ref r) c
def MD (_:W.Frag):Sp:=λh H Q _=>∃ (g q:Addr) (c:List Gp) (t b:Int),h=[.ref g,.ref q]/\Gd H g c/\Gz6 c/\Nm H q t b/\Cq t b/\¬ (∃ g∈c,∃ a∈g.2.1,val (t,b)=(a:Rat))/\∀ (r:Addr) (f:cZ) (d:List (Nu×Nu)) (e:Hp),Same H e->e r^^^f->Lal (Rw e) f d->@d<=24->(∀ x∈d,Rz (Mg t b c) 10 x)->(∀ p,Pr p->WR p d=WL p t b c)->Q (.ref r) e
def ME (_:W.Frag):Sp:=λj H Q _=>∃ (f q:Addr) (T B:cQ) (d:List Gp) (e:cQ) (ps:List Pp) (t b:Int),j=[.ref f,.ref q]/\Fo H f T B d/\Kr T B e ps/\Gz6 d/\Nm H q t b/\Cq t b/\aX H/\
 (bh d ps (val (t,b))->∀ a,Same H a->Q .non a)/\
 (¬ bh d ps (val (t,b))->∀ (r h c:Addr) (i:cZ) (g:List O_) (z:Nu) (a:Hp),Kp E8 H a->aX a->a r&&&[.ref h,.ref c]->Nm a h z.1 z.2->Low z.1 z.2->val z=aQ (val (t,b)) ps (eR (val (t,b)) e)->a c&&&i->Lal (Rw a) i (g.map Iw)->St5 (Mg t b d) g->(∀ p,Pr p->WP p g=WL p t b d)->Q (.ref r) a)
def MF (_:W.Frag):Sp:=λe H Q _=>∃ (r q:Addr) (c:List Gp) (d:cQ) (ps:List Pp) (t b:Int),e=[.ref r,.ref q]/\Dd H r c d ps/\Gz6 c/\Pz2 ps/\Nm H q t b/\Cq t b/\(bh c ps (val (t,b))->∀ a,Same H a->Q (.bl true) a)/\(¬ bh c ps (val (t,b))->∀ a,Same H a->Q (.bl false) a)
def Iz (_:W.Frag):Sp:=λg H Q _=>∃ (d q:Addr) (w:Int) (c:Nu) (M:Int) (t:Nat) (b:List (Int×V)) (f:dt),g=[.ref d,.int w,.ref q]/\H d=some (aW b)/\Wd M t H b f/\Nm H q c.1 c.2/\Cz 200000 c/\200000<=t/\t<=900000/\Om M/\Ps M/\Sm M w/\
 ∀ (a:List (Int×V)) (e:Hp),Kp d H e->e d=some (aW a)->Wd M (t+262) e a (λp=>f p+val c*(Ac p w:Rat))->Q .non e
def Ka (K:W.Frag):Sp:=λg H Q _=>∃ (a:Addr) (d:cZ) (b:List (Nu×Nu)) (M:Int),g=[.ref a]/\(H a^^^d\/H a&&&d)/\Lal (Rw H) d b/\Om M/\Ps M/\(∀ x∈b,Rz M 200000 x)/\@b<=60/\
 ∀ (r:Addr) (e:cZ) (f:List Wp) (c:Hp),Same H c->c r^^^e->Lal (Wr c) e f->Wl (λp=>WR p b) f->Q (.ref r) c
def MG (_:W.Frag):Sp:=λh H Q _=>∃ (r d c q l:Addr) (z:Nu) (e f:cZ) (b:List O_) (a:List (Nu×Nu)) (M:Int),h=[.ref r,.ref q,.ref l]/\H r&&&[.ref d,.ref c]/\Nm H d z.1 z.2/\Nm H q z.1 z.2/\Low z.1 z.2/\H c&&&e/\Lal (Rw H) e (b.map Iw)/\St5 M b/\H l^^^f/\Lal (Rw H) f a/\@a<=24/\(∀ x∈a,Rz M 10 x)/\Om M/\Ps M/\(∀ p,Pr p->WP p b=WR p a)/\∀ g,Same H g->Q (.bl true) g
def Kb (_:W.Frag):Sp:=λe H Q _=>∃ (u v:Addr) (a b:d6),e=[.ref u,.ref v]/\H u^^^(~~~a)/\H v^^^(~~~b)/\0<@a/\0<@b/\@a<=20/\@b<=20/\(∀ z∈a,Bd 1000 z)/\(∀ z∈b,Bd 1000 z)/\∀ (r:Addr) (c:d6) (d:Hp),Same H d->d r^^^(~~~c)->@c=@a+@b - 1->(∀ k,co c k=cvL a (co b) k)->Q (.ref r) d
structure Vz (as ms:d6) (ns:d6):Prop where
 len:@ns=1+@as+2*@ms
 bd:∀ z∈ns,Bd (1+8*(@as+@ms)) z
 lz:co ns (@ns - 1)=1
 ev:∀ x,Sr.at' (si ns) x=vA x as*vS x ms
def Kc (_:W.Frag):Sp:=λe H Q _=>∃ (u v:Addr) (as b:d6),e=[.ref u,.ref v]/\H u^^^(~~~as)/\H v^^^(~~~b)/\@as<=3/\@b<=1/\(∀ a∈as,a.natAbs<=6)/\(∀ m∈b,0<m/\m<=18)/\∀ (r:Addr) (d:d6) (c:Hp),Same H c->c r^^^(~~~d)->Vz as b d->Q (.ref r) c
def Kd (_:W.Frag):Sp:=λc H Q _=>∃ (u:Addr) (a:d6),c=[.ref u]/\H u^^^(~~~a)/\@a<=100/\∀ (r:Addr) (b:Hp),Same H b->Pl b r (a.map λn=>(n,1))->Q (.ref r) b
def MH (_:W.Frag):Sp:=λb H Q _=>∃ g:Int,b=[.int g]/\0<=g/\g<6/\∀ (r:Addr) (x y z:Int) (a:Hp),Same H a->a r&&&[.int x,.int y,.int z]->x.natAbs<=15->y.natAbs<=15->z.natAbs<=15->Q (.ref r) a
structure Az (as:d6):Prop where
 len:@as=13
 a6:∀ a∈as,a.natAbs<=6
 ne:∀ d:Nat,d<=5->as.getD d 0≠as.getD (5+d) 0
def MI (_:W.Frag):Sp:=λe H Q _=>∃ (c:Int) (a:Addr) (as:d6),e=[.int c,.ref a]/\H a^^^(~~~as)/\Az as/\∀ (r:Addr) (d:List Gp) (b:Hp),Same H b->Gd b r d->Gz6 d->Q (.ref r) b
def MJ (_:W.Frag):Sp:=λe H Q _=>∃ (c:Int) (a:Addr) (as:d6),e=[.int c,.ref a]/\H a^^^(~~~as)/\Az as/\∀ (r:Addr) (b:cQ) (ps:List Pp) (d:Hp),Same H d->Pd d r b ps->Rz4 b->Pz2 ps->Q (.ref r) d
def MK (_:W.Frag):Sp:=λe H Q _=>∃ c:Int,e=[.int c]/\∀ (r:Addr) (d:List Gp) (a:cQ) (ps:List Pp) (b:Hp),Same H b->Dd b r d a ps->Gz6 d->Rz4 a->Pz2 ps->Q (.ref r) b
def ML (_:W.Frag):Sp:=λd H Q _=>∃ (r:Addr) (b:List Gp) (a:cQ) (ps:List Pp),d=[.ref r]/\Dd H r b a ps/\Gz6 b/\Rz4 a/\Pz2 ps/\∀ (f:Addr) (T B:cQ) (c:Hp),Same H c->Fo c f T B b->Kr T B a ps->Q (.ref f) c
def Ke (K:W.Frag):Sp:=λc H Q _=>∃ (a:Addr) (b:d6),c=[.ref a]/\SqL K H a (~~~b)/\@b<=63/\H E8=some (.tbl #[])/\∀ d,Q (.bl true) d
section
variable (K:W.Frag)
set_option linter.unusedVariables false
def P6 (_:W.Frag):TS:=
 (AH (Cv (Ap (A_ ak (AA 1) (aD 0))) (AH (AN (A_ OB (AA 0) (AA 1)) (AE 2))
  (AH (AN (AA 1) (AE 0))
  (AN (AA 2) (AE 1)))))
  (AY (L_ Fv (AB (AA 0) AC))))
def P7 (_:W.Frag):TS:=
 (AH (AN (aD 1) (AE 2))
  (AH (AN (AA 0) (AE 3))
  (AH (Cv (Ap (A_ aq (AA 1) (aD 0))) (AH (BU (Ap (A_ aG (A_ Cm (AA 1) (aD 2)) (aD 1))) (EY 2 (AA 3) BD) BV)
  (AH (EY 1 (aD 2) IP)
  (BU (Ap (A_ aq (AA 1) (aD 0))) (EY 3 (AA 3) BD) BV))))
  (AY (AA 2)))))
def P8:TS:=
 (AH (AN (aN (EL K) (AB (LI (Ed (BW K (AA 0)) [none] (AE 0) (Ap (A_ ak (AA 0) (aD 0))) (L_ Fv (AB (AA 0) AC)))) (AB (AA 1) AC))) (AE 2))
  (AH (BH (BW K (AA 0)) (AE 3) (AH (BU (Ap (A_ aG (AA 2) (aD 1))) (AY (aD 1)) BV)
  (AN (aN (EL K) (AB (AA 3) (AB (AA 2) AC))) (AE 2))))
  (AY (AA 2))))
def P9 (_:W.Frag):TS:=
 (AH (AN (L_ CL (AB (AA 0) AC)) (AE 1))
  (AH (Cv (Fm (Ap (A_ aq (AA 1) (aD 0))) (Ap (A_ aG (A_ gL (AA 0) (A_ B5 (AA 1) (aD 1))) (aD 0)))) (EY 1 (aD 1) B5))
  (AY (aR sL (AA 0) GV (Ea (AA 1))))))
def QA:TS:=
 (AY (Bk (BW K (AA 0)) [none,some 1] (AE 0) (A_ Ec (AA 0) (AA 1))))
def QB:TS:=
 (AH (BU (ad (DY (EI (AA 0))) (DY (EI (AA 1)))) (AY (Bi AC)) BV)
  (AH (AN (A_ FP (Bi (AB (aD 0) AC)) (A_ B5 (A_ BX (L_ CL (AB (AA 0) AC)) (L_ CL (AB (AA 1) AC))) (aD 1))) (AE 2))
  (AH (BH (Fy K (AB (AA 0) AC)) (CY 2 (BG (AE 3) (BG (AE 4) CW))) (BU (Ap (A_ ak (AA 4) (aD 0))) (BH (Fy K (AB (AA 1) AC)) (CY 2 (BG (AE 5) (BG (AE 6) CW))) (HN (AA 2) (A_ BX (AA 3) (AA 5)) (A_ BD (AA 4) (AA 6)) gL BX Ew)) BV))
  (AY (AA 2)))))
def QC (_:W.Frag):TS:=
 (BU (Ap (A_ ak (AA 6) (aD 0))) (BH (DM (AB (AA 3) AC)) (AE 7) (HN (AA 2) (A_ BX (AA 5) (AA 7)) (A_ BD (AA 6) (A_ gL (AA 1) (AA 7))) gL B5 Ew)) BV)
def yF:TS:=
 (AH (AN (AA 6) (Fn (AA 4) (AA 5) Ew))
  (QC K))
def QD:TS:=
 (AH (BU (Ap (A_ ak (A_ BD (AA 6) (A_ gL (AA 1) (T_ Bx (aD 1)))) (A_ gL (AA 2) (A_ BX (AA 5) (AA 3))))) (AY (tC .non)) BV)
  (yF K))
def yG:TS:=
 (AH (AN (A_ Dy (A_ gL (AA 2) (A_ BX (AA 5) (AA 3))) (A_ gL (AA 1) (T_ Bx (aD 1)))) (AE 6))
  (QD K))
def yH (_:W.Frag):TS:=
 (AY (a_ (tB (L_ LJ (AB (aR sL (AA 2) GV (Ea (AA 3))) AC))) (tC .non) (AA 4)))
def yI:TS:=
 (AH (BH (IY (AB (A_ B5 (A_ B5 (L_ CL (AB (AA 0) AC)) (AA 3)) (aD 1)) (AB (T_ Bx (aD 1)) (AB (T_ Bx (aD 1)) AC)))) (AE 5) (yG K))
  (yH K))
def QE:TS:=
 (AH (AN (A_ FP (Bi (AB (aD 0) AC)) (L_ HR (AB (A_ B5 (L_ CL (AB (AA 0) AC)) (AA 3)) (AB (aD 0) AC)))) (AE 4))
  (yI K))
def yJ:TS:=
 (AH (AN (A_ B5 (L_ CL (AB (AA 1) AC)) (aD 1)) (AE 3))
  (QE K))
def yK:TS:=
 (AH (AN (L_ HX (AB (AA 0) AC)) (AE 2))
  (yJ K))
def QF:TS:=
 (AH (AN (Bk (BW K (AA 0)) [none,some 1] (AE 0) (A_ BD (AA 1) (AA 0))) (AE 5))
  (AH (Db (ax K "list" Jf (AA 5) (AB (A_ FP (Bi (AB (aD 0) AC)) (A_ B5 (A_ BX (L_ CL (AB (AA 2) AC)) (AA 4)) (L_ CL (AB (AA 0) AC)))) AC)))
  (AH (BH (Fy K (AB (AA 2) AC)) (CY 2 (BG (AE 6) (BG (AE 7) CW))) (HN (AA 5) (A_ BX (AA 6) (AA 4)) (A_ BD (AA 3) (AA 7)) gL B5 Ew))
  (AY (aN (Hm K) (AB (AA 5) AC))))))
def yL:TS:=
 (AN (Bk (LH K (AB (AA 0) (AB (AA 1) AC))) [none,none,some 6,some 7,some 2] (CY 2 (BG (AE 0) (BG (AE 1) CW))) (aN (Ik K) (AB (AA 0) (AB (AA 2) (AB (AA 1) (AB (AA 3) (AB (AA 4) AC))))))) (AE 0))
def yM:TS:=
 (AH (AN (A_ Dy (AA 3) (AA 5)) (AE 7))
  (yL K))
def yN:TS:=
 (AH (AN (A_ Dy (AA 4) (AA 5)) (AE 6))
  (yM K))
def yO:TS:=
 (AH (AN (aN (EL K) (AB (AA 3) (AB (AA 4) AC))) (AE 5))
  (yN K))
def yP:TS:=
 (AH (AN (A_ gL (A_ gL (AA 1) (aD 0)) (T_ Bx (aD 1))) (AE 4))
  (yO K))
def yQ:TS:=
 (AH (AN (A_ gL (A_ gL (AA 0) (aD 0)) (T_ Bx (aD 1))) (AE 3))
  (yP K))
def yR:TS:=
 (AH (AN (A_ B5 (L_ CL (AB (A_ gL (AA 0) (aD 0)) AC)) (L_ CL (AB (A_ gL (AA 1) (aD 0)) AC))) (AE 2))
  (yQ K))
def QG:TS:=
 (AY (aN (Im K) (AB (AA 0) AC)))
def QH:TS:=
 (AH (Cv (Ap (A_ cu (L_ CL (AB (A_ gL (AA 0) (aD 0)) AC)) (L_ CL (AB (A_ gL (AA 1) (aD 0)) AC)))) (yR K))
  (QG K))
def QJ:TS:=
 (AH (AN (aD 0) (AE 1))
  (AH (BH (BW K (AA 0)) (AE 2) (AN (aN (Ii K) (AB (AA 2) (AB (AA 1) AC))) (AE 1)))
  (AY (Bk (BW K (AA 0)) [none,some 1] (AE 0) (aN (Ij K) (AB (AA 0) (AB (AA 1) AC)))))))
def QK:TS:=
 (AY (A_ gL (aN (Im K) (AB (Bi (AB (AA 0) AC)) AC)) (aD 0)))
def QL:TS:=
 (AH (Cv (EI (A_ gL (AA 1) (aD 0))) (AH (BU (Ap (A_ aG (L_ CL (AB (A_ gL (AA 1) (aD 0)) AC)) (aD 1))) (AY (AA 1)) BV)
  (AH (AN (aN (KH K) (AB (AA 0) (AB (AA 1) AC))) (AE 2))
  (AH (AN (AA 1) (AE 0))
  (AN (AA 2) (AE 1))))))
  (AY (AA 0)))
def yS (_:W.Frag):TS:=
 (AN (AA 7) (AE 5))
def yT:TS:=
 (AH (AN (AA 5) (AE 4))
  (yS K))
def yU:TS:=
 (AH (AN (A_ B5 (AA 4) (A_ BD (AA 6) (AA 5))) (AE 7))
  (yT K))
def yV:TS:=
 (AH (AN (AA 7) (AE 3))
  (yU K))
def yW:TS:=
 (AH (AN (AA 3) (AE 2))
  (yV K))
def yX:TS:=
 (AH (AN (A_ B5 (AA 2) (A_ BD (AA 6) (AA 3))) (AE 7))
  (yW K))
def yY:TS:=
 (AH (AN (A_ Ec (AA 2) (AA 3)) (AE 6))
  (yX K))
def yZ (_:W.Frag):TS:=
 (AY (A_ Cm (AA 4) (AA 1)))
def QM:TS:=
 (AH (Cv (Ap (A_ ak (AA 3) (aD 0))) (yY K))
  (yZ K))
def xA:TS:=
 (AH (AN (aD 1) (AE 5))
  (QM K))
def xB:TS:=
 (AH (AN (aD 0) (AE 4))
  (xA K))
def xC:TS:=
 (AH (AN (A_ Cm (AA 0) (AA 1)) (AE 3))
  (xB K))
def xD:TS:=
 (AH (AN (AA 1) (AE 2))
  (xC K))
def QN:TS:=
 (AY (Bk (BW K (AA 0)) [none,some 1] (AE 0) (A_ Cm (AA 0) (AA 1))))
def xE:TS:=
 (AY (aN (Hm K) (AB (aN (KJ K) (AB (AA 0) (AB (AA 1) AC))) AC)))
def QO:TS:=
 (AH (BU (DY (EI (AA 0))) (AY (Bi AC)) BV)
  (AH (AN (aN (KI K) (AB (A_ gL (AA 0) (T_ Bx (aD 1))) (AB (AA 1) AC))) (AE 2))
  (AY (Bk (BW K (AA 0)) [none,some 1,some 2] (AE 0) (A_ Cm (A_ BD (AA 0) (AA 2)) (AA 1))))))
def QP (_:W.Frag):TS:=
 (BU (Ap (A_ ak (AA 7) (aD 0))) (BH (DM (AB (AA 4) AC)) (AE 8) (HN (AA 3) (A_ BX (AA 6) (AA 8)) (A_ BD (AA 7) (A_ gL (AA 1) (AA 8))) gL B5 Ew)) BV)
def QQ:TS:=
 (AH (AN (AA 7) (Fn (AA 5) (AA 6) Ew))
  (QP K))
def xF:TS:=
 (AH (AN (A_ Cm (A_ gL (AA 3) (A_ BX (AA 6) (AA 4))) (AA 2)) (AE 7))
  (QQ K))
def QR:TS:=
 (AY (Ai (AB (aN (Hm K) (AB (AA 5) AC)) (AB (aN (Ho K) (AB (aR sL (AA 3) GV (Ea (AA 4))) (AB (AA 2) AC))) AC))))
def xG:TS:=
 (AH (BH (IY (AB (A_ B5 (A_ B5 (L_ CL (AB (AA 0) AC)) (AA 4)) (aD 1)) (AB (T_ Bx (aD 1)) (AB (T_ Bx (aD 1)) AC)))) (AE 6) (xF K))
  (QR K))
def QS:TS:=
 (AH (AN (A_ FP (Bi (AB (aD 0) AC)) (L_ HR (AB (A_ B5 (L_ CL (AB (AA 0) AC)) (AA 4)) (AB (aD 0) AC)))) (AE 5))
  (xG K))
def xH:TS:=
 (AH (AN (A_ B5 (L_ CL (AB (AA 1) AC)) (aD 1)) (AE 4))
  (QS K))
def xJ:TS:=
 (AH (AN (L_ HX (AB (AA 0) AC)) (AE 3))
  (xH K))
def xK:TS:=
 (AY (A_ gT (aN (KK K) (AB (AA 0) (AB (AA 1) (AB (AA 2) AC)))) (aD 1)))
def QT:TS:=
 (AH (AN (aN (Hr K) (AB (aN (Ho K) (AB (AA 0) (AB (AA 2) AC))) (AB (AA 2) AC))) (AE 0))
  (AH (AN (aN (Hr K) (AB (aN (Ho K) (AB (AA 1) (AB (AA 2) AC))) (AB (AA 2) AC))) (AE 1))
  (AH (Cv (EI (AA 1)) (AH (AN (aN (KL K) (AB (AA 0) (AB (AA 1) (AB (AA 2) AC)))) (AE 3))
  (AH (AN (AA 1) (AE 0))
  (AN (aN (Hr K) (AB (AA 3) (AB (AA 2) AC))) (AE 1)))))
  (AY (AA 0)))))
def QU (_:W.Frag):TS:=
 (AH (AN (A_ Cm (AA 0) (AA 1)) (AE 2))
  (AY (a_ (Ap (A_ aq (A_ BD (aD 2) (AA 2)) (AA 1))) (A_ B5 (AA 2) (AA 1)) (AA 2))))
def QV:TS:=
 (AH (AN (aN (EL K) (AB (A_ gL (AA 0) (T_ Bx (aD 1))) (AB (A_ gL (AA 1) (T_ Bx (aD 1))) AC))) (AE 3))
  (AH (BU (Ap (A_ aG (A_ Cm (AA 3) (AA 2)) (aD 0))) (AY (tC .non)) BV)
  (AH (AN (aN (KM K) (AB (AA 0) (AB (AA 1) (AB (AA 2) AC)))) (AE 4))
  (AH (AN (aN (Hn K) (AB (Bk (BW K (AA 4)) [none,some 2,some 3] (AE 0) (aN (KN K) (AB (A_ BD (AA 2) (AA 0)) (AB (AA 1) AC)))) AC)) (AE 5))
  (AH (BU (ad (Ap (A_ Jv (aN (Il K) (AB (AA 0) (AB (AA 5) AC))) (tC .non))) (Ap (A_ Jv (aN (Il K) (AB (AA 1) (AB (AA 5) AC))) (tC .non)))) (AY (tC .non)) BV)
  (AY (AA 5)))))))
def QW:TS:=
 (AH (AN (aN (Hn K) (AB (AA 0) AC)) (AE 2))
  (AH (AN (aN (Hn K) (AB (AA 1) AC)) (AE 3))
  (AH (BU (Fm (EI (AA 0)) (EI (AA 1))) (BH (Eu K (tC (.ref (Gk K)))) (AE 4) (AH (AN (aN (KO K) (AB (AA 2) (AB (AA 3) (AB (A_ B5 (aN (KG K) (AB (aD 2) (AB (AA 4) AC))) (aD 1)) AC)))) (AE 5))
  (BU (Ap (A_ LF (AA 5) (tC .non))) (AY (AA 5)) BV))) BV)
  (AY (A_ gL (aN (Io K) (AB (Bi (AB (AA 2) AC)) (AB (Bi (AB (AA 3) AC)) AC))) (aD 0))))))
def QX:TS:=
 (AH (AN (aN (EL K) (AB (AA 0) (AB (AA 1) AC))) (AE 2))
  (AH (BU (Ap (A_ aV (AA 1) (aD 0))) (AN (T_ Bx (AA 2)) (AE 2)) BV)
  (AY (Ai (AB (A_ Dy (AA 0) (AA 2)) (AB (A_ Dy (AA 1) (AA 2)) AC))))))
def QY:TS:=
 (AY (aN (E5 K) (AB (A_ BX (A_ BD (A_ gT (AA 0) (aD 0)) (A_ gT (AA 1) (aD 1))) (A_ BD (A_ gT (AA 1) (aD 0)) (A_ gT (AA 0) (aD 1)))) (AB (A_ BD (A_ gT (AA 0) (aD 1)) (A_ gT (AA 1) (aD 1))) AC))))
def QZ:TS:=
 (AY (aN (E5 K) (AB (A_ BD (A_ gT (AA 0) (aD 0)) (A_ gT (AA 1) (aD 0))) (AB (A_ BD (A_ gT (AA 0) (aD 1)) (A_ gT (AA 1) (aD 1))) AC))))
def Qa:TS:=
 (AY (aN (E5 K) (AB (A_ BD (A_ gT (AA 0) (aD 0)) (A_ gT (AA 1) (aD 1))) (AB (A_ BD (A_ gT (AA 0) (aD 1)) (A_ gT (AA 1) (aD 0))) AC))))
def xL (_:W.Frag):TS:=
 (AY (Ai (AB (L_ Fv (AB (A_ gT (AA 0) (aD 0)) AC)) (AB (A_ gT (AA 0) (aD 1)) AC))))
def Qb (_:W.Frag):TS:=
 (AH (AN (L_ CL (AB (AA 0) AC)) (AE 1))
  (AH (Cv (Fm (Ap (A_ aq (AA 1) (aD 0))) (Ap (A_ aG (A_ gT (A_ gL (AA 0) (A_ B5 (AA 1) (aD 1))) (aD 0)) (aD 0)))) (EY 1 (aD 1) B5))
  (AY (L_ GZ (AB (aR sL (AA 0) GV (Ea (AA 1))) AC)))))
def xM:TS:=
 (AH (AN (tC (.int 1)) (AE 1))
  (AH (BH (Gc K (AA 0)) (AE 2) (EY 1 (A_ Ec (A_ gT (AA 2) (tC (.int 1))) (AL (EL K) [] E0 (AB (AA 1) (AB (A_ gT (AA 2) (tC (.int 1))) AC)))) BD))
  (AY (Ai (AB (Bk (Gc K (AA 0)) [none,some 1] (AE 0) (A_ BD (A_ gT (AA 0) (tC (.int 0))) (A_ Ec (AA 1) (A_ gT (AA 0) (tC (.int 1)))))) (AB (AA 1) AC))))))
def Qc:TS:=
 (AY (aN (Gn K) (AB (Bk (BW K (AA 0)) [none,some 1] (AE 0) (aN (E5 K) (AB (AA 0) (AB (AA 1) AC)))) AC)))
def Qe (_:W.Frag):TS:=
 (AY (a_ (Ap (A_ aV (AA 1) (L_ EH (AB (AA 0) AC)))) (A_ gT (AA 0) (AA 1)) (Ai (AB (aD 0) (AB (aD 1) AC)))))
def Qf:TS:=
 (AY (aN (Gn K) (AB (Bk (DM (AB (L_ HR (AB (L_ EH (AB (AA 0) AC)) (AB (L_ EH (AB (AA 1) AC)) AC))) AC)) [none,some 0,some 1] (AE 0) (aN (KT K) (AB (aN (Ir K) (AB (AA 1) (AB (AA 0) AC))) (AB (aN (Ir K) (AB (AA 2) (AB (AA 0) AC))) AC)))) AC)))
def Qg:TS:=
 (AH (AN (aN (E6 K) (AB (AA 0) AC)) (AE 2))
  (AH (AN (aN (E6 K) (AB (AA 1) AC)) (AE 3))
  (AY (aN (Hs K) (AB (aN (KS K) (AB (A_ gT (AA 2) (aD 0)) (AB (A_ gT (AA 3) (aD 0)) AC))) (AB (A_ BD (A_ gT (AA 2) (aD 1)) (A_ gT (AA 3) (aD 1))) AC))))))
def Qh:TS:=
 (AY (aN (Gn K) (AB (Bk (Eu K (AA 0)) [none,some 1] (AE 0) (aN (KR K) (AB (AA 0) (AB (AA 1) AC)))) AC)))
def xN (_:W.Frag):TS:=
 (EY 5 (AA 10) Ec)
def xO:TS:=
 (AH (AN (aN (Ij K) (AB (AA 4) (AB (AA 10) AC))) (AE 4))
  (xN K))
def Qi:TS:=
 (AH (AN (aN (Ii K) (AB (AA 4) (AB (AA 5) AC))) (AE 10))
  (xO K))
def xP:TS:=
 (AH (EY 5 (A_ Dy (AA 6) (AA 9)) BD)
  (Qi K))
def Qj:TS:=
 (AH (AN (aN (Ik K) (AB (AA 4) (AB (A_ Dy (AA 6) (AA 9)) (AB (A_ gT (AA 3) (aD 0)) (AB (A_ Dy (A_ gL (AA 4) (T_ Bx (aD 1))) (AA 9)) (AB (AA 8) AC)))))) (AE 4))
  (xP K))
def xQ:TS:=
 (AH (AN (aN (EL K) (AB (A_ gL (AA 4) (T_ Bx (aD 1))) (AB (AA 6) AC))) (AE 9))
  (Qj K))
def Qk:TS:=
 (AH (AN (aN (E5 K) (AB (A_ BD (A_ gL (AA 4) (T_ Bx (aD 1))) (A_ gT (AA 3) (aD 1))) (AB (A_ BD (AA 5) (AA 6)) AC))) (Fn (AA 7) (AA 8) Ew))
  (xQ K))
def xR:TS:=
 (AH (AN (A_ B5 (L_ CL (AB (AA 4) AC)) (L_ EH (AB (AA 1) AC))) (AE 8))
  (Qk K))
def Ql:TS:=
 (AY (Ai (AB (aN (Gn K) (AB (AA 7) AC)) (AB (aN (Hs K) (AB (AA 4) (AB (AA 5) AC))) AC))))
def xS:TS:=
 (AH (Cv (Ap (A_ cu (L_ CL (AB (AA 4) AC)) (L_ EH (AB (AA 1) AC)))) (xR K))
  (Ql K))
def xT:TS:=
 (AH (AN (A_ FP (Bi (AB (Ai (AB (aD 0) (AB (aD 1) AC))) AC)) (L_ HR (AB (A_ BX (A_ B5 (L_ EH (AB (AA 0) AC)) (L_ EH (AB (AA 1) AC))) (aD 1)) (AB (aD 0) AC)))) (AE 7))
  (xS K))
def xU:TS:=
 (AH (AN (A_ gL (A_ gT (AA 3) (aD 0)) (T_ Bx (aD 1))) (AE 6))
  (xT K))
def xV:TS:=
 (AH (AN (A_ gT (AA 2) (aD 1)) (AE 5))
  (xU K))
def xW:TS:=
 (AH (AN (A_ gT (AA 2) (aD 0)) (AE 4))
  (xV K))
def xX:TS:=
 (AH (AN (aN (E6 K) (AB (AA 1) AC)) (AE 3))
  (xW K))
def xY:TS:=
 (AH (AN (aN (E6 K) (AB (AA 0) AC)) (AE 2))
  (xX K))
def Qm:TS:=
 (AH (AN (aN (KP K) (AB (A_ gT (aN (E6 K) (AB (AA 0) AC)) (aD 0)) (AB (A_ gT (aN (E6 K) (AB (AA 1) AC)) (aD 0)) AC))) (AE 2))
  (AY (a_ (EI (AA 2)) (aN (Hs K) (AB (AA 2) (AB (A_ gL (AA 2) (T_ Bx (aD 1))) AC))) (Ai AC))))
def xZ:TS:=
 (AH (AN (aN (E6 K) (AB (AA 0) AC)) (AE 2))
  (AH (AN (aD 0) (AE 3))
  (AH (AN (aD 1) (AE 4))
  (AH (BH (OJ K (AB (A_ gT (AA 2) (aD 0)) AC)) (AE 5) (AH (AN (A_ BX (A_ BD (AA 3) (A_ gT (AA 1) (aD 0))) (A_ BD (AA 5) (AA 4))) (AE 3))
  (EY 4 (A_ gT (AA 1) (aD 1)) BD)))
  (AY (aN (E5 K) (AB (A_ BD (AA 3) (A_ gT (AA 1) (aD 1))) (AB (A_ BD (A_ gT (AA 2) (aD 1)) (AA 4)) AC))))))))
def Qn:TS:=
 (AH (AN (aN (Gs K) (AB (AA 0) (AB (AA 1) AC))) (AE 2))
  (AY (aN (KU K) (AB (aN (E7 K) (AB (AA 0) (AB (AA 2) AC))) (AB (aN (E7 K) (AB (AA 1) (AB (AA 2) AC))) AC)))))
def Qo:TS:=
 (AH (AN (aN (Ip K) (AB (Ai (AB (aD 1) (AB (aD 1) AC))) (AB (A_ gT (AA 1) (T_ Bx (aD 1))) AC))) (AE 2))
  (AY (Ai (AB (aN (Iq K) (AB (AA 0) (AB (AA 2) AC))) (AB (aN (Iq K) (AB (AA 1) (AB (AA 2) AC))) AC)))))
def Qp:TS:=
 (AY (A_ gT (aN (KQ K) (AB (AA 0) (AB (AA 1) AC))) (aD 0)))
def wA:TS:=
 (AY (Ai (AB (aN (E7 K) (AB (AA 4) (AB (AA 5) AC))) (AB (aN (E7 K) (AB (aN (Gu K) (AB (A_ gT (AA 0) (aD 1)) (AB (AA 3) AC))) (AB (AA 5) AC))) AC))))
def wB:TS:=
 (AH (AN (aN (Gs K) (AB (AA 4) (AB (AA 2) AC))) (AE 5))
  (wA K))
def wC:TS:=
 (AH (AN (aN (Ly K) (AB (aN (Gu K) (AB (A_ gT (AA 0) (aD 0)) (AB (AA 3) AC))) (AB (aN (Gu K) (AB (A_ gT (AA 1) (aD 0)) (AB (aN (E7 K) (AB (A_ gT (AA 0) (aD 1)) (AB (AA 2) AC))) AC))) AC))) (AE 4))
  (wB K))
def wD:TS:=
 (AH (AN (aN (E7 K) (AB (A_ gT (AA 1) (aD 1)) (AB (AA 2) AC))) (AE 3))
  (wC K))
def wE:TS:=
 (AH (AN (aN (Gs K) (AB (A_ gT (AA 0) (aD 1)) (AB (A_ gT (AA 1) (aD 1)) AC))) (AE 2))
  (wD K))
def wF:TS:=
 (AH (AN (aN (Iu K) (AB (A_ gT (AA 0) (aD 1)) (AB (AA 1) AC))) (AE 2))
  (AY (a_ (Ap (A_ cD (AA 2) (Ai (AB (aD 0) (AB (aD 1) AC))))) (tC .non) (aN (Ip K) (AB (aN (Iu K) (AB (A_ gT (AA 0) (aD 0)) (AB (AA 1) AC))) (AB (AA 2) AC))))))
def Qq:TS:=
 (AY (Ai (AB (AA 0) (AB (L_ GZ (AB (Bk (BW K (AA 3)) [none,none] (CY 2 (BG (AE 0) (BG (AE 1) CW))) (Ai (AB (AA 0) (AB (Ai (AB (AA 1) (AB (aD 1) AC))) AC)))) AC)) AC))))
def Qs:TS:=
 (AH (AN (Jx L1 L3 E8 (aN (L5 K) (AB (AA 2) AC))) (AE 3))
  (Qq K))
def wG:TS:=
 (AH (AN (A_ Fu (Bk (BW K (AA 1)) [none,none] (CY 2 (BG (AE 0) (BG (AE 1) CW))) (Ai (AB (AA 0) (AB (A_ gT (AA 1) (aD 0)) AC)))) (Bk (BW K (AA 1)) [none,none] (CY 2 (BG (AE 0) (BG (AE 1) CW))) (Ai (AB (aN (KR K) (AB (AA 0) (AB (Ai (AB (T_ Bx (aD 1)) (AB (aD 1) AC))) AC))) (AB (A_ gT (AA 1) (aD 1)) AC))))) (AE 2))
  (Qs K))
def Qt:TS:=
 (Db (ax K "list" Jf (AA 1) (AB (aN (L4 K) (AB (AA 3) (AB (A_ gL (AA 4) (aD 0)) AC))) AC)))
def Qu:TS:=
 (AH (Db (ax K "list" OW (AA 2) (AB (A_ gL (AA 4) (aD 0)) AC)))
  (Qt K))
def Qv:TS:=
 (BU (EI (AA 4)) (Qu K) (Db (ax K "list" Ft (AA 2) (AB (AA 3) AC))))
def Qw:TS:=
 (AH (AN (Ed (BW K (AA 2)) [none,some 3] (AE 0) (Ap (A_ aq (aN (EL K) (AB (A_ gT (AA 1) (aD 1)) (AB (A_ gT (AA 0) (aD 1)) AC))) (aD 1))) (AA 0)) (AE 4))
  (Qv K))
def Qx:TS:=
 (BU (Fm (Ap (A_ ak (A_ gT (A_ gT (AA 3) (aD 0)) (aD 0)) (aD 0))) (Ap (A_ aq (A_ gT (AA 3) (aD 1)) (aD 1)))) (Qw K) BV)
def Qy:TS:=
 (AH (AN (Je K "list" Jg (AA 1)) (AE 3))
  (Qx K))
def wH (_:W.Frag):TS:=
 (AY (AA 2))
def Qz:TS:=
 (AH (Cv (EI (AA 1)) (Qy K))
  (wH K))
def Q0:TS:=
 (AH (AN (Bi AC) (AE 2))
  (Qz K))
def wI:TS:=
 (AH (AN (L_ HX (AB (AA 0) AC)) (AE 1))
  (Q0 K))
def wJ:TS:=
 (AH (AN (aN (EL K) (AB (A_ gT (AA 0) (aD 1)) (AB (A_ gT (AA 1) (aD 1)) AC))) (AE 2))
  (AY (Bi (AB (Ai (AB (A_ gT (AA 0) (aD 0)) (AB (A_ Ec (A_ gT (AA 0) (aD 1)) (AA 2)) AC))) (AB (Ai (AB (A_ gT (AA 1) (aD 0)) (AB (A_ Ec (A_ gT (AA 1) (aD 1)) (AA 2)) AC))) (AB (Ai (AB (aN (KT K) (AB (A_ gT (AA 0) (aD 0)) (AB (A_ gT (AA 1) (aD 0)) AC))) (AB (AA 2) AC))) AC))))))
def wK:TS:=
 (AY (aN (L6 K) (AB (AA 2) (AB (AA 3) AC))))
def Q1:TS:=
 (AH (BU (ad (Ap (A_ Jv (AA 2) (tC .non))) (tB (L_ Ob (AB (Bk (BW K (AA 3)) [none,none] (CY 2 (BG (AE 0) (BG (AE 1) CW))) (A_ aG (A_ gT (AA 1) (aD 0)) (aD 0))) AC)))) (AY (tC .non)) BV)
  (wK K))
def Q2:TS:=
 (AH (AN (Bk (Eu K (A_ gT (AA 0) (aD 1))) [none,none,some 1] (CY 2 (BG (AE 0) (BG (AE 1) CW))) (Ai (AB (AA 0) (AB (aN (KY K) (AB (aN (Iu K) (AB (AA 1) (AB (AA 2) AC))) AC)) AC)))) (AE 3))
  (Q1 K))
def wL:TS:=
 (AH (AN (aN (L0 K) (AB (A_ gT (AA 0) (aD 0)) (AB (AA 1) AC))) (AE 2))
  (Q2 K))
def wN:TS:=
 (AH (BU (Ap (Jd iLe aV (aD 0) (AA 1) (L_ (LD K) (AB (AA 0) AC)))) (AY (A_ (gS K) (AA 0) (AA 1))) BV)
  (AY (aD 0)))
def Q3 (_:W.Frag):TS:=
 (AY (A_ Cm (A_ IP (A_ Cm (A_ BD (AA 3) (AA 3)) (aD 1999999973)) (aD 7)) (AA 2)))
def Q4:TS:=
 (AH (AN (A_ Cm (A_ BD (A_ BX (A_ BX (A_ Cm (AA 0) (aD 2147483629)) (A_ BD (A_ BD (AA 1) (AA 1)) (aD 7919))) (aD 11)) (aD 48271)) (aD 2147483647)) (AE 3))
  (Q3 K))
def wO:TS:=
 (AH (BU (Fm (Ap (A_ aq (AA 0) (A_ Jl (aD 2) (aD 60)))) (Ap (A_ aV (AA 2) (aD 200)))) (AY (A_ Cm (A_ Cm (A_ OX (AA 0) (A_ BD (aD 8) (AA 1))) (aD 256)) (AA 2))) BV)
  (Q4 K))
def wP (_:W.Frag):TS:=
 (AH (HM 2 3 (AB (L_ Fv (AB (AA 0) AC)) (AB (L_ Fv (AB (AA 1) AC)) AC)))
  (AH (Cv (Ap (A_ aq (AA 3) (aD 0))) (HM 2 3 (AB (AA 3) (AB (A_ Cm (AA 2) (AA 3)) AC))))
  (AH (BU (Ap (A_ aV (AA 1) (aD 0))) (AN (T_ Bx (AA 2)) (AE 2)) BV)
  (AY (Ai (AB (A_ Dy (AA 0) (AA 2)) (AB (A_ Dy (AA 1) (AA 2)) AC)))))))
def wQ:TS:=
 (AY (aN (FX K) (AB (A_ BX (A_ BD (A_ gT (AA 0) (aD 0)) (A_ gT (AA 1) (aD 1))) (A_ BD (A_ gT (AA 1) (aD 0)) (A_ gT (AA 0) (aD 1)))) (AB (A_ BD (A_ gT (AA 0) (aD 1)) (A_ gT (AA 1) (aD 1))) AC))))
def wR:TS:=
 (AY (aN (FX K) (AB (A_ BD (A_ gT (AA 0) (aD 0)) (A_ gT (AA 1) (aD 0))) (AB (A_ BD (A_ gT (AA 0) (aD 1)) (A_ gT (AA 1) (aD 1))) AC))))
def Q5:TS:=
 (AH (BU (ad (DY (tB (L_ Fw (AB (AA 0) (AB (tC (.ty "tuple")) AC))))) (Ap (A_ ak (L_ EH (AB (AA 0) AC)) (aD 2)))) (AY (tC (.bl false))) BV)
  (AH (BH (Eu K (AA 0)) (AE 1) (BU (ad (DY (tB (L_ Fw (AB (AA 1) (AB (tC (.ty "int")) AC))))) (tB (L_ Fw (AB (AA 1) (AB (tC (.ty "bool")) AC))))) (AY (tC (.bl false))) BV))
  (AY (K5 (A_ aq (A_ gT (AA 0) (aD 1)) (aD 0)) (A_ cB (AA 0) (aN (FX K) (AB (A_ gT (AA 0) (aD 0)) (AB (A_ gT (AA 0) (aD 1)) AC))))))))
def wS (_:W.Frag):TS:=
 (AY (AA 2))
def Q6:TS:=
 (AH (BH (DM (AB (L_ CL (AB (AA 0) AC)) AC)) (AE 3) (BH (DM (AB (L_ CL (AB (AA 1) AC)) AC)) (AE 4) (AN (A_ BX (A_ gL (AA 2) (A_ BX (AA 3) (AA 4))) (A_ BD (A_ gL (AA 0) (AA 3)) (A_ gL (AA 1) (AA 4)))) (Fn (AA 2) (A_ BX (AA 3) (AA 4)) Ew))))
  (wS K))
def Q7:TS:=
 (AH (AN (A_ FP (Bi (AB (aD 0) AC)) (A_ B5 (A_ BX (L_ CL (AB (AA 0) AC)) (L_ CL (AB (AA 1) AC))) (aD 1))) (AE 2))
  (Q6 K))
def wT:TS:=
 (AY (L_ GZ (AB (Bk (BW K (AA 0)) [none] (AE 0) (Ai (AB (AA 0) (AB (aD 1) AC)))) AC)))
def wU (_:W.Frag):TS:=
 (AY (A_ gT (Ai (AB (Ai (AB (T_ Bx (aD 5)) (AB (T_ Bx (aD 4)) (AB (T_ Bx (aD 3)) AC)))) (AB (Ai (AB (T_ Bx (aD 1)) (AB (aD 1) (AB (aD 2) AC)))) (AB (Ai (AB (aD 4) (AB (aD 5) (AB (aD 6) AC)))) (AB (Ai (AB (aD 7) (AB (aD 8) (AB (aD 9) AC)))) (AB (Ai (AB (aD 10) (AB (aD 11) (AB (aD 12) AC)))) (AB (Ai (AB (aD 13) (AB (aD 14) (AB (aD 15) AC)))) AC))))))) (AA 0)))
def Q8 (_:W.Frag):TS:=
 (AN (A_ BX (AA 3) (AA 7)) (AE 3))
def Q9:TS:=
 (AH (Db (ax K "list" Ft (AA 2) (AB (Ai (AB (AA 9) (AB (aR sL (AA 1) (Ea (AA 3)) (Ea (A_ BX (AA 3) (AA 7)))) (AB (AA 8) AC)))) AC)))
  (Q8 K))
def RA:TS:=
 (AH (AN (aN (FX K) (AB (A_ gT (aN (MH K) (AB (AA 6) AC)) (aN (C3 K) (AB (AA 0) (AB (A_ BX (aD 9) (AA 6)) (AB (aD 3) AC))))) (AB (AA 4) AC))) (AE 9))
  (Q9 K))
def RD:TS:=
 (AH (AN (Ed (BW K (Bi (AB (aN (C3 K) (AB (AA 0) (AB (A_ BX (aD 6) (AA 6)) (AB (aD 9) AC)))) AC))) [none,some 6] (AE 0) (Ap (Jd aV aV (aD 0) (AA 0) (aD 4))) (A_ BX (A_ BD (aD 3) (AA 1)) (AA 0))) (AE 8))
  (RA K))
def RE:TS:=
 (AH (AN (A_ BX (aD 1) (aN (C3 K) (AB (AA 0) (AB (A_ BX (aD 3) (AA 6)) (AB (aD 2) AC))))) (AE 7))
  (RD K))
def wV (_:W.Frag):TS:=
 (AY (AA 2))
def RF:TS:=
 (AH (BH (DM (AB (AA 5) AC)) (AE 6) (RE K))
  (wV K))
def RG:TS:=
 (AH (BU (Ap (A_ aG (aN (C3 K) (AB (AA 0) (AB (aD 25) (AB (aD 8) AC)))) (aD 0))) (AN (aD 6) (AE 5)) BV)
  (RF K))
def RH:TS:=
 (AH (AN (aN (C3 K) (AB (AA 0) (AB (aD 1) (AB (aD 3) AC)))) (AE 5))
  (RG K))
def wW:TS:=
 (AH (AN (A_ BX (aD 1) (aN (C3 K) (AB (AA 0) (AB (aD 2) (AB (aD 3) AC))))) (AE 4))
  (RH K))
def RI:TS:=
 (AH (AN (aD 0) (AE 3))
  (wW K))
def RJ:TS:=
 (AH (AN (Bi AC) (AE 2))
  (RI K))
def RK:TS:=
 (Db (ax K "list" Ft (AA 4) (AB (Ai (AB (AA 6) (AB (A_ gL (AA 1) (A_ BX (A_ BD (aD 5) (AA 5)) (aN (C3 K) (AB (AA 0) (AB (aD 21) (AB (aD 6) AC)))))) (AB (A_ BX (aD 1) (aN (C3 K) (AB (AA 0) (AB (A_ BX (aD 22) (AA 5)) (AB (aD 3) AC))))) AC)))) AC)))
def RL:TS:=
 (AH (AN (A_ gT (Ai (AB (T_ Bx (aD 3)) (AB (T_ Bx (aD 1)) (AB (aD 2) (AB (aD 5) AC))))) (aN (C3 K) (AB (AA 0) (AB (A_ BX (aD 19) (AA 5)) (AB (aD 4) AC))))) (AE 6))
  (RK K))
def RM (_:W.Frag):TS:=
 (AY (Ai (AB (AA 3) (AB (AA 4) AC))))
def RN:TS:=
 (AH (BH (DM (AB (aN (C3 K) (AB (AA 0) (AB (aD 18) (AB (aD 3) AC)))) AC)) (AE 5) (RL K))
  (RM K))
def RP:TS:=
 (AH (AN (Bi AC) (AE 4))
  (RN K))
def RQ:TS:=
 (AH (AN (Bk (DM (AB (AA 2) AC)) [none,some 0] (AE 0) (aN (FX K) (AB (A_ B5 (aN (C3 K) (AB (AA 1) (AB (A_ BX (aD 13) (AA 0)) (AB (aD 11) AC)))) (aD 5)) (AB (A_ BX (aD 1) (aN (C3 K) (AB (AA 1) (AB (aD 17) (AB (aD 3) AC))))) AC)))) (AE 3))
  (RP K))
def RS:TS:=
 (AH (AN (aN (C3 K) (AB (AA 0) (AB (aD 12) (AB (aD 5) AC)))) (AE 2))
  (RQ K))
def RT:TS:=
 (AY (Ai (AB (aN (MI K) (AB (AA 0) (AB (AA 2) AC))) (AB (aN (MJ K) (AB (AA 0) (AB (AA 2) AC))) AC))))
def RU:TS:=
 (AH (AN (Bk (DM (AB (aD 13) AC)) [none,some 1] (AE 0) (A_ B5 (A_ Cm (A_ BX (AA 1) (A_ BD (aD 5) (AA 0))) (aD 13)) (aD 6))) (AE 2))
  (RT K))
def RV:TS:=
 (AH (AN (aN (C3 K) (AB (AA 0) (AB (aD 0) (AB (aD 13) AC)))) (AE 1))
  (RU K))
def wX (_:W.Frag):TS:=
 (AY (AA 2))
def RW:TS:=
 (AH (BH (BW K (AA 1)) (AE 4) (AN (aN (Kb K) (AB (AA 2) (AB (Bi (AB (AA 4) (AB (aD 0) (AB (aD 1) AC)))) AC))) (AE 2)))
  (wX K))
def RX:TS:=
 (AH (BH (BW K (AA 0)) (AE 3) (AN (aN (Kb K) (AB (AA 2) (AB (Bi (AB (T_ Bx (AA 3)) (AB (aD 1) AC))) AC))) (AE 2)))
  (RW K))
def RY:TS:=
 (AH (AN (Bi (AB (aD 1) AC)) (AE 2))
  (RX K))
def RZ:TS:=
 (AY (Ai (AB (AA 4) (AB (L_ GZ (AB (Bk (BW K (AA 1)) [none,none,none] (CY 3 (BG (AE 0) (BG (AE 1) (BG (AE 2) CW)))) (Ai (AB (AA 0) (AB (aN (Kd K) (AB (aN (Kc K) (AB (AA 1) (AB (AA 2) AC))) AC)) AC)))) AC)) AC))))
def Ra:TS:=
 (AH (BH (BW K (A_ gT (AA 2) (aD 1))) (CY 3 (BG (AE 5) (BG (AE 6) (BG (AE 7) CW)))) (AN (aN (KW K) (AB (AA 4) (AB (aN (Hu K) (AB (Ai (AB (Ai (AB (AA 5) (AB (aD 1) AC))) AC)) (AB (aN (Kd K) (AB (aN (Kc K) (AB (A_ FP (Bi (AB (AA 6) AC)) (AA 7)) (AB (Bi AC) AC))) AC)) AC))) AC))) (AE 4)))
  (RZ K))
def Rb:TS:=
 (AH (AN (aN (Hu K) (AB (L_ GZ (AB (AA 3) AC)) (AB (Ai (AB (Ai (AB (aD 1) (AB (aD 1) AC))) AC)) AC))) (AE 4))
  (Ra K))
def Rc:TS:=
 (AH (Cv (Fm (Ap (A_ b7 (AA 3) (Bi AC))) (Ap (A_ cD (A_ gL (AA 3) (T_ Bx (aD 1))) (Ai (AB (aD 0) (AB (aD 1) AC)))))) (Db (Je K "list" Jg (AA 3))))
  (Rb K))
def Re:TS:=
 (AH (AN (L_ HX (AB (A_ gT (AA 2) (aD 0)) AC)) (AE 3))
  (Rc K))
def Rf:TS:=
 (AH (AN (AA 0) (CY 2 (BG (AE 1) (BG (AE 2) CW))))
  (Re K))
def wY (_:W.Frag):TS:=
 (AY (Ai (AB (L_ Fv (AB (A_ gT (AA 0) (aD 0)) AC)) (AB (A_ gT (AA 0) (aD 1)) AC))))
def wZ:TS:=
 (AH (AN (Ai (AB (aD 1) (AB (aD 1) AC))) (AE 2))
  (AH (BH (DM (AB (AA 1) AC)) (AE 3) (AN (aN (Gw K) (AB (AA 2) (AB (AA 0) AC))) (AE 2)))
  (AY (AA 2))))
def vB:TS:=
 (AY (aN (Gv K) (AB (AA 0) (AB (Ai (AB (T_ Bx (AA 1)) (AB (aD 1) AC))) AC))))
def vC:TS:=
 (AY (aN (FX K) (AB (A_ gT (AA 0) (aD 1)) (AB (A_ gT (AA 0) (aD 0)) AC))))
def vD (_:W.Frag):TS:=
 (AY (AA 2))
def Rg:TS:=
 (AH (BH (BW K (A_ gT (AA 0) (aD 1))) (CY 3 (BG (AE 5) (BG (AE 6) (BG (AE 7) CW)))) (AN (aN (Gv K) (AB (AA 2) (AB (aN (Gw K) (AB (Ai (AB (AA 5) (AB (aD 1) AC))) (AB (aN (MA K) (AB (aN (KZ K) (AB (aN (Iy K) (AB (AA 1) (AB (AA 6) AC))) (AB (AA 7) AC))) AC)) AC))) AC))) (AE 2)))
  (vD K))
def Rh:TS:=
 (AH (BH (Fy K (AB (A_ gT (AA 0) (aD 0)) AC)) (CY 2 (BG (AE 3) (BG (AE 4) CW))) (AN (aN (Gv K) (AB (AA 2) (AB (aN (Gw K) (AB (AA 4) (AB (aN (KZ K) (AB (AA 1) (AB (AA 3) AC))) AC))) AC))) (AE 2)))
  (Rg K))
def vE:TS:=
 (AH (AN (Ai (AB (aD 0) (AB (aD 1) AC))) (AE 2))
  (Rh K))
def vF:TS:=
 (BH (BW K (AA 5)) (AE 7) (Db (ax K "list" Ft (AA 2) (AB (Ai (AB (AA 3) (AB (aN (Gv K) (AB (aN (Gw K) (AB (AA 1) (AB (AA 1) AC))) (AB (Ai (AB (AA 7) (AB (aD 1) AC))) AC))) AC))) AC))))
def vG:TS:=
 (AH (BH (BW K (AA 4)) (AE 6) (BU (Ap (A_ b7 (aN (Iy K) (AB (AA 1) (AB (AA 6) AC))) (Ai (AB (aD 0) (AB (aD 1) AC))))) (Db (ax K "list" Ft (AA 2) (AB (Ai (AB (AA 3) (AB (aN (L9 K) (AB (aN (Iy K) (AB (AA 1) (AB (AA 6) AC))) AC)) AC))) AC))) BV))
  (vF K))
def vH (_:W.Frag):TS:=
 (AY (AA 2))
def Ri:TS:=
 (AH (BH (BW K (AA 0)) (CY 3 (BG (AE 3) (BG (AE 4) (BG (AE 5) CW)))) (vG K))
  (vH K))
def vI:TS:=
 (AH (AN (Bi AC) (AE 2))
  (Ri K))
def Rj:TS:=
 (AN (aN (Gv K) (AB (ax K "dict" Ow (AA 0) (AB (AA 3) (AB (Ai (AB (aD 0) (AB (aD 1) AC))) AC))) (AB (AA 2) AC))) (Fn (AA 0) (AA 3) Ou))
def vJ:TS:=
 (AH (AN (A_ Ec (AA 1) (AA 3)) (AE 1))
  (Rj K))
def vK (_:W.Frag):TS:=
 (AN (A_ BX (AA 3) (aD 1)) (AE 3))
def Rk:TS:=
 (AH (Cv (Ap (A_ aG (A_ Cm (AA 1) (AA 3)) (aD 0))) (vJ K))
  (vK K))
def vL:TS:=
 (AH (BU (ad (Ap (A_ aq (AA 3) (A_ Jl (aD 10) (aD 5)))) (Ap (A_ aq (A_ BD (AA 3) (AA 3)) (AA 1)))) (AN (AA 1) (AE 3)) BV)
  (Rk K))
def Rm:TS:=
 (Cv (Ap (A_ aq (AA 1) (aD 1))) (vL K))
def vM:TS:=
 (AH (AN (aD 2) (AE 3))
  (Rm K))
def vN:TS:=
 (Db (aN (Iz K) (AB (AA 1) (AB (A_ gT (AA 3) (aD 1)) (AB (aN (Gw K) (AB (AA 2) (AB (Ai (AB (T_ Bx (aD 1)) (AB (aD 1) AC))) AC))) AC)))))
def Rn:TS:=
 (AH (Db (aN (Iz K) (AB (AA 1) (AB (A_ gT (AA 3) (aD 0)) (AB (AA 2) AC)))))
  (vN K))
def Ro (_:W.Frag):TS:=
 (AY (L_ O0 (AB (Ed (Oy (AA 1)) [none,none] (CY 2 (BG (AE 0) (BG (AE 1) CW))) (Ap (A_ b7 (AA 1) (Ai (AB (aD 0) (AB (aD 1) AC))))) (Ai (AB (AA 0) (AB (AA 1) AC)))) AC)))
def Rq:TS:=
 (AH (BH (Gc K (AA 0)) (CY 2 (BG (AE 2) (BG (AE 3) CW))) (Rn K))
  (Ro K))
def vO:TS:=
 (AH (AN Ot (AE 1))
  (Rq K))
def Rs (_:W.Frag):TS:=
 (BU (Ap (A_ ak (AA 4) (aD 1))) (AY (tC (.bl false))) BV)
def Ru:TS:=
 (AH (Cv (Ap (A_ aq (AA 5) (aD 0))) (HM 4 5 (AB (AA 5) (AB (A_ Cm (AA 4) (AA 5)) AC))))
  (Rs K))
def vP:TS:=
 (AH (HM 4 5 (AB (AA 2) (AB (AA 3) AC)))
  (Ru K))
def vQ (_:W.Frag):TS:=
 (AY (tC (.bl true)))
def vR:TS:=
 (AH (BH (Fy K (AB (AA 0) AC)) (CY 2 (BG (AE 1) (BG (AE 2) CW))) (BH (BW K (aR sL (AA 0) GV (Ea (AA 1)))) (AE 3) (vP K)))
  (vQ K))
def Rv:TS:=
 (Db (ax K "list" Ft (AA 3) (AB (A_ gT (A_ gT (AA 4) (aD 1)) (aD 0)) AC)))
def Rx:TS:=
 (AH (BU (ad (DY (tB (aN (Ix K) (AB (A_ gT (AA 4) (aD 1)) AC)))) (ad (Ap (A_ ak (A_ gT (A_ gT (AA 4) (aD 1)) (aD 1)) (aD 1))) (Ap (A_ aV (A_ gT (A_ gT (AA 4) (aD 1)) (aD 0)) (aD 2))))) (AY (tC (.bl false))) BV)
  (Rv K))
def Ry:TS:=
 (AH (BU (ad (DY (tB (L_ Fw (AB (AA 4) (AB (tC (.ty "tuple")) AC))))) (ad (Ap (A_ ak (L_ EH (AB (AA 4) AC)) (aD 2))) (ad (DY (tB (aN (Ix K) (AB (A_ gT (AA 4) (aD 0)) AC)))) (Ap (A_ cB (A_ gT (AA 4) (aD 0)) (Ai (AB (aD 0) (AB (aD 1) AC)))))))) (AY (tC (.bl false))) BV)
  (Rx K))
def R3:TS:=
 (AY (A_ cD (aN (Ka K) (AB (A_ gT (AA 0) (aD 1)) AC)) (aN (Ka K) (AB (AA 2) AC))))
def R4:TS:=
 (AH (BU (ad (Ap (A_ b7 (AA 3) (L_ OT (AB (AA 3) AC)))) (DY (tB (aN (L8 K) (AB (AA 3) AC))))) (AY (tC (.bl false))) BV)
  (R3 K))
def R5:TS:=
 (AH (BH (Eu K (A_ gT (AA 0) (aD 1))) (AE 4) (Ry K))
  (R4 K))
def R6:TS:=
 (AH (AN (Bi AC) (AE 3))
  (R5 K))
def R7:TS:=
 (AH (BU (DY (tB (L_ Fw (AB (A_ gT (AA 0) (aD 1)) (AB (tC (.ty "tuple")) AC))))) (AY (tC (.bl false))) BV)
  (R6 K))
def vT:TS:=
 (AH (BU (ad (DY (tB (L_ Fw (AB (AA 0) (AB (tC (.ty "tuple")) AC))))) (ad (Ap (A_ ak (L_ EH (AB (AA 0) AC)) (aD 2))) (ad (DY (tB (aN (Ix K) (AB (A_ gT (AA 0) (aD 0)) AC)))) (Ap (A_ b7 (A_ gT (AA 0) (aD 0)) (AA 1)))))) (AY (tC (.bl false))) BV)
  (R7 K))
def R8:TS:=
 (AY (A_ (inD false) (AA 1) (Bk (BW K (A_ Fu (AA 4) (Bk (BW K (A_ gT (AA 3) (aD 1))) [none] (AE 0) (A_ gT (AA 0) (aD 1))))) [none] (AE 0) (Ai (AB (AA 0) (AB (aD 1) AC))))))
def R9:TS:=
 (AH (BH (BW K (AA 2)) (CY 3 (BG (AE 5) (BG (AE 6) (BG (AE 7) CW)))) (AN (A_ Fu (AA 4) (AA 6)) (AE 4)))
  (R8 K))
def SC:TS:=
 (AH (AN (Bi AC) (AE 4))
  (R9 K))
def SE:TS:=
 (AH (AN (AA 0) (CY 2 (BG (AE 2) (BG (AE 3) CW))))
  (SC K))
def MM:TS:=
 (BU (tB (aN (MF K) (AB (AA 1) (AB (AA 4) AC)))) (BU (Ap (A_ LF (AA 5) (tC .non))) (AY (tC (.bl false))) BV) (BU (DY (tB (aN (MG K) (AB (AA 5) (AB (aN (MC K) (AB (A_ gT (AA 1) (aD 1)) (AB (AA 4) AC))) (AB (aN (MD K) (AB (A_ gT (AA 1) (aD 0)) (AB (AA 4) AC))) AC)))))) (AY (tC (.bl false))) BV))
def SF:TS:=
 (AH (AN (aN (ME K) (AB (AA 2) (AB (AA 4) AC))) (AE 5))
  (MM K))
def SG:TS:=
 (AH (AN (aN (FX K) (AB (A_ B5 (aN (C3 K) (AB (AA 3) (AB (aD 0) (AB (aD 37) AC)))) (aD 18)) (AB (A_ BX (aD 1) (aN (C3 K) (AB (AA 3) (AB (aD 1) (AB (aD 3) AC))))) AC))) (AE 4))
  (SF K))
def vU (_:W.Frag):TS:=
 (AY (tC (.bl true)))
def SH:TS:=
 (AH (BH (BW K (A_ Fu (aR (sS K) (AA 0) (Ea (aD 1)) (Ea (aD 13))) (Bi (AB (aD 0) AC)))) (AE 3) (SG K))
  (vU K))
def SI:TS:=
 (AH (AN (aN (ML K) (AB (AA 1) AC)) (AE 2))
  (SH K))
def SJ:TS:=
 (AH (AN (aN (MK K) (AB (aN (L7 K) (AB (AA 0) (AB (aD 0) AC))) AC)) (AE 1))
  (SI K))
end
def SK {K:W.Frag} {H:Hp} {Q:VK} {E:XK} {p:Addr} {q:Addr} {xs:cZ} {ys:cZ} {l:cQ} {m:cQ} {b:Nat} {c:Nat} {e:Nat} {d:Nat} {N:Nat} (r:H p&&&xs) (u:H q&&&ys) (v:Nums H xs l) (w:Nums H ys m) (x:Gq b c l) (y:Gq b c m) (z:b<=200000) (A:c<=200000) (B:@l<=60) (a:@m<=60) (f:(l≠[]->m≠[]->Fp e (AV l)/\Fp e (AV m))) (h:@l+@m<2 ^ (d+1)) (i:@l+@m<=N+2) (j:2<=N) (k:(e+d+2)*N<=44490) (n:(l=[]->m=[]->GC H Q [])) (o:((l≠[]\/m≠[])->∀ g,RC (co (AV l)) (co (AV m)) g->Prim g->GC H Q (L' g))):Gs K [.ref p,.ref q] H Q E:=⟨p,q,xs,ys,l,m,b,c,e,d,N,rfl,r,u,v,w,x,y,z,A,B,a,f,h,i,j,k,n,o⟩
def MN {K:W.Frag} {H:Hp} {Q:VK} {E:XK} {p:Addr} {q:Addr} {xs:cZ} {ys:cZ} {l:cQ} {m:cQ} {b:Nat} {c:Nat} {d:Nat} {e:Nat} (j:H p&&&xs) (n:H q&&&ys) (o:Nums H xs l) (u:Nums H ys m) (v:Gq b c l) (w:Gq d e m) (x:@l<=100) (y:@m<=100) (z:b<=300000) (a:c<=300000) (f:d<=300000) (g:e<=300000) (h:∀ (r:Addr) (R:cQ) (i:Hp),Same H i->Pl i r R->Gq (b+d+@l) (c+e) R->@R<=@l+@m - 1->(∀ k,C_ R k=cv (C_ l) (C_ m) @l k)->Q (.ref r) i):Gu K [.ref p,.ref q] H Q E:=⟨p,q,xs,ys,l,m,b,c,d,e,rfl,j,n,o,u,v,w,x,y,z,a,f,g,h⟩
def Kf {K:W.Frag} {H:Hp} {Q:VK} {E:XK} {p:Addr} {q:Addr} {xs:cZ} {ys:cZ} {l:cQ} {m:cQ} {b:Nat} {c:Nat} {d:Nat} {e:Nat} (o:H p&&&xs) (u:H q&&&ys) (v:Nums H xs l) (w:Nums H ys m) (x:Gq b c l) (y:Gq d e m) (z:m≠[]) (A:@l<=100) (B:@m<=100) (a:c+(@l+1 - @m)*d<=400000) (f:b+(@l+1 - @m)*(d+1)+e<=900000) (g:e<=400000) (h:d<=400000) (i:MR (C_ m) (C_ l)) (j:∀ (r:Addr) (R:cQ) (n:Hp),Same H n->Pl n r R->Af R->Nz R->@R<=@l+1 - @m->(∀ k,C_ l k=cv (C_ R) (C_ m) @R k)->Q (.ref r) n):E7 K [.ref p,.ref q] H Q E:=⟨p,q,xs,ys,l,m,b,c,d,e,rfl,o,u,v,w,x,y,z,A,B,a,f,g,h,i,j⟩
def vV {f:Nu->Nu->Nu} {s:Rat} {K:W.Frag} {H:Hp} {Q:VK} {E:XK} {p:Addr} {q:Addr} {xs:cZ} {ys:cZ} {l:cQ} {m:cQ} {M:Int} {b:Nat} {c:Nat} (o:H p&&&xs) (u:H q&&&ys) (v:Nums H xs l) (w:Nums H ys m) (x:Af l) (y:Af m) (A:Ov l M) (B:Ov m M) (C:Bd c M) (a:(∀ z∈S_ l M,Bd b z)) (d:(∀ z∈S_ m M,Bd b z)) (e:b<=300000) (g:c<=300000) (h:@l<=100) (i:@m<=100) (j:∀ (r:Addr) (R:cQ) (n:Hp),Same H n->Pl n r R->Gq (b+1) c R->@R<=max @l @m->(∀ k,C_ R k=C_ l k+s*C_ m k)->Q (.ref r) n):Lx f s K [.ref p,.ref q] H Q E:=⟨p,q,xs,ys,l,m,M,b,c,rfl,o,u,v,w,x,y,A,B,C,a,d,e,g,h,i,j⟩
variable {K:W.Frag} {vs:cZ} {H:Hp} {Q:VK} {E:XK}
local macro_rules | `(tactic| rwa [$[$t:term],*]) => do
 let l : Array Lean.Term := (("AH AN AL AB U9 AC AE Fn L2.start BU a_ Ap L2.tB A_ VT VS L2.tC T_ VU BV AY Ai Bi HM VL Db L_ Jd Fm ad DY K5 VC VD aG ak Vt BX B5 BD IP Xd Cm OB Jl aV iLe aq cu Bx Xe Xf Xg Fv HR Xh Xi Xj Xk Xl Xm Xn Xo Xp Xr Xs Xu Xv List.map_cons List.map_nil List.length_cons List.length_nil List.replicate List.cons_append List.nil_append List.append_nil List.getElem?_cons_zero List.getElem?_cons_succ Option.some.injEq exists_eq_left' exists_eq_left V.int.injEq V.bl.injEq V.ref.injEq V.ty.injEq HO.tup.injEq HO.lst.injEq List.cons.injEq and_true true_and and_assoc exists_and_left List.set_cons_zero List.set_cons_succ decide_eq_true_eq decide_eq_false_iff_not Bool.not_eq_true' Bool.true_eq_false Bool.false_eq_true Bool.not_true Bool.not_false if_true if_false ite_true ite_false X4 X5 Xw Xx Xy Xz X3 X6 X7 Nat.zero_add Nat.reduceAdd Nat.reduceSub upd_same Int.cast_ofNat_Int decide_true decide_false eq_self not_true_eq_false not_false_eq_true Int.natCast_add Int.natCast_zero reduceCtorEq Nm Yh VH CW HN aR GV Ea Yd Yj Ye Yg EI Yc V5 V4 V1 V2 V3 ax Je YV YW YX YZ Yq Yp YY Yk LI OO LJ Jv LF Ec Dy ON HZ Cy Option.bind_some Option.bind_none Option.bind Option.join id_eq sS Y4 Y6 EL KG Hm Ii Ij Ik Il Im Hn KH Io KI KJ Ho Hr KK KL KM KN KO KP E5 Gn Hs Gs Ht KQ Ip KS Gu Iq E7 Ir Lx KU yE Hu".splitOn " ").map λs => (⟨(Lean.mkIdent s.toName).raw⟩ : Lean.Term)).toArray
 `(tactic| simp only [$[$(l ++ t):term],*])
def C4 {a b:Int} (c:Bd 60000000 a) (d:Bd 60000000 b):IntMulOk a b:=Y5 c d `b
def vX (h:EL K vs H Q E):P6 K { nx:=λ_ d=>Q .non d,rt:=Q } (L2.start ["one","other","rest"] vs) H:=by
 let {a,b,rfl,q}:=h;unfold P6;rwa [];refine Dh (λm f d=>∃ (x y:Int) (r:c_),f=[some (.int x),some (.int y),r]/\d=H/\Int.gcd x y=Int.gcd a b/\m=y.natAbs) b.natAbs ⟨a,b,none,rfl,rfl,rfl,rfl⟩ ?_;rintro m f d ⟨x,y,r,rfl,rfl,g,rfl⟩;rwa [];refine Aa (λc=>?_) (λc=>?_)
 .refine {λi j=>∃ k,k<y.natAbs/\_,λ_ _ h=>h,?_};refine {c,_,Xa x c,y,x.fmod y,1,2,?_,2};rw [OA];exact g
 .let n:y=0:=Decidable.not_not.mp c;subst n
  let e:(if x<0 then -x else x)=((Int.gcd a b:Nat):Int):=by
   rw [<-g,Int.gcd_zero_right];split <;> omega
  rw [e];exact q
def vY (h:KG K vs H Q E):P7 K { nx:=λ_ f=>Q .non f,rt:=Q } (L2.start ["whole","n","result","square"] vs) H:=by
 let {x,n,b,rfl,J,B,L,q}:=h;unfold P7;rwa []
 let p:∀ k:Nat,k<=n.toNat->Bd 60000000 (x ^ k):=λk hk=>(B.pow k).mono (by
  have:=Em b hk;omega)
 refine Dh (λm A f=>∃ r s:Nat,A=[some (.int x),some (.int (m:Int)),some (.int (x ^ r)),some (.int (x ^ s))]/\f=H/\r+s*m=n.toNat) n.toNat ⟨0,1,?_,rfl,`a⟩ ?_
 .let e:((n.toNat:Nat):Int)=n:=by omega
  rw [e,Int.pow_zero,show x ^ 1=x by rw [DK,Int.pow_zero,Int.one_mul]]
 rintro m A f ⟨r,s,rfl,rfl,M⟩;rwa [];refine Aa (λc=>?_) (λc=>?_)
 .let C:1<=m:=by omega
  let N:s<=s*m:=Nat.le_mul_of_pos_right s C;let D:LC (m:Int) 2:={`b,(XZ `b `b).mono `b}
  let i:s*m=(s+s)*(m / 2)+s*(m % 2):=by
   let e:m=2*(m / 2)+m % 2:=(Nat.div_add_mod m 2).symm;generalize m / 2=u at e ⊢;generalize m % 2=v at e ⊢;subst e;rw [Nat.mul_add];congr 1;rw [<-Nat.mul_assoc,C6 s 2];congr 1;omega
  let F:((m:Int) / 2)=((m / 2:Nat):Int):=by omega
  rw [F];refine {λG I=>∃ d,d<m/\_,λ_ _ h=>h,?_}
  let j:∀ g:Nat,g+(s+s)*(m / 2)=n.toNat->LC (m:Int) 2/\if 0<((m / 2:Nat):Int) then IntMulOk (x ^ s) (x ^ s)/\∃ d,d<m/\∃ r a,[some (V.int x),some (V.int ((m / 2:Nat):Int)),some (V.int (x ^ g)),some (V.int (x ^ s*x ^ s))]=[some (V.int x),some (V.int (d:Int)),some (V.int (x ^ r)),some (V.int (x ^ a))]/\f=f/\r+a*d=n.toNat
    else ∃ d,d<m/\∃ r a,[some (V.int x),some (V.int ((m / 2:Nat):Int)),some (V.int (x ^ g)),some (V.int (x ^ s))]=[some (V.int x),some (V.int (d:Int)),some (V.int (x ^ r)),some (V.int (x ^ a))]/\f=f/\r+a*d=n.toNat:=λg o=>by
   refine {D,Aa (λw=>?_) (λw=>?_)}
   .exact {C4 (p s `a) (p s `a),m / 2,`a,g,s+s,by rw [Int.pow_add],2,o}
   .let z:m / 2=0:=by omega
    rw [z] at o ⊢;exact {0,`a,g,s,7,`a}
  refine {`b,Aa (λw=>{C4 (p r `a) (p s `a),?_}) (λw=>?_)}
  .rw [<-Int.pow_add];let y:m % 2=1:=by omega
   rw [y] at i;exact j (r+s) `a
  .let y:m % 2=0:=by omega
   rw [y] at i;exact j r `a
 .let z:m=0:=by omega
  subst z;let e:r=n.toNat:=by omega
  subst e;exact q
def SL {H:Hp} {Q:VK} {xs:cZ} {l:cQ} {m:Nat} (a:Nums H xs l) (b:m<=@l) (e:CB l @l=m) (q:GC H Q (trim l)) :
  ∀ (p:Addr),H p=none->∀ (r:Addr),upd H p (.lst (CH xs none (some (m:Int)))) r=none->Q (V.ref r) (upd (upd H p (.lst (CH xs none (some (m:Int))))) r (.tup (CH xs none (some (m:Int))))):=λp hp r c=>by
 let s:=(AM hp (.lst (CH xs none (some (m:Int))))).trans (AM c (.tup (CH xs none (some (m:Int)))));refine q r _ _ s upd_same ?_;rw [KD (by rw [@a];exact b)];rw [KD (by rw [@a];exact b)] at s;unfold trim;rw [e];exact (a.take m).tp (F_ s)
def vZ (l:cQ) (m:Nat):CB l (m+1)=if (l.getD m (1,1)).1=0 then CB l m else m+1:=rfl
def uA (h:Gn K vs H Q E):Qb K { nx:=λ_ b=>Q .non b,rt:=Q } (L2.start ["row","many"] vs) H:=by
 let {p,n,l,rfl,hp,d,A,q}:=h;unfold Qb;rwa [hp];let o:=@d;refine Dh (λm g b=>g=[↥p,some (.int (m:Int))]/\b=H/\CB l m=CB l @l/\m<=@l) @n {7,by rw [o],`a} ?_;rintro m g b ⟨rfl,rfl,a,j⟩;rwa [hp];refine Aa (λc=>?_) (λc=>?_)
 .let {k,rfl}:∃ k,m=k+1:={m - 1,`a};let {v,r,u,rfl,e}:=d.at (i:=k) `a (1,1);rw [vZ] at a;refine {_,DQ `a r,u,2,_,e,1,2,Aa (λf=>?_) (λf=>?_)}
  .let z:(l.getD k (1,1)).1=0:=by injection f
   rw [jE z] at a;exact {λw x=>∃ y,y<k+1/\_,λ_ _ h=>h,k,`a,by rw [show ((k+1:Nat):Int) - 1=(k:Int) by omega],2,a,`a}
  .let z:(l.getD k (1,1)).1≠0:=λz=>f (by rw [z]);rw [jD z] at a;exact SL d j a.symm q
 .let z:m=0:=by omega
  subst z;exact SL d j a.symm q
def uB {l:cQ} {i:Nat} {q:Nu} (h:l[i]?=some q):(l.take (i+1)).foldl (λB q=>B*(q.2 / ((Int.gcd B q.2:Nat):Int))) 1=(l.take i).foldl (λB q=>B*(q.2 / ((Int.gcd B q.2:Nat):Int))) 1*(q.2 / ((Int.gcd ((l.take i).foldl (λB q=>B*(q.2 / ((Int.gcd B q.2:Nat):Int))) 1) q.2:Nat):Int)):=by
 rw [EU,h,List.foldl_append];rfl
def Hv {a b:Type} {l:List a} {i:Nat} {q:a} (f:a->b) (h:l[i]?=some q):(l.take (i+1)).map f=(l.take i).map f++[f q]:=by
 rw [EU,h,B9];rfl
def uC (a b:Nat):(if (b:Int) > (a:Int) then (b:Int) else (a:Int)).toNat=max a b:=by split <;> omega
def uD {a:Type} (f:Nat->a) (i:Nat):(List.range (i+1)).map f=(List.range i).map f++[f i]:=by rw [List.range_succ,B9];rfl
def Dt (n:Nat) (f:dq):(A5 n f).length=n:=by unfold A5;rw [AI,AI,BZ]
def Di {n k:Nat} (f:dq) (h:k<n):(A5 n f)[k]?=some (.int (f k)):=by
 unfold A5;rw [Ae,Ae,Dk h];rfl
def Gy {n k:Nat} {f g:dq} {z:Int} (h:k<n) (b:g k=z) (c:∀ i,i<n->i≠k->g i=f i):(A5 n f).set k (.int z)=A5 n g:=by
 apply FC;intro i;by_cases a:i<n
 .by_cases e:i=k
  .subst e;rw [List.getElem?_set_self (by rw [Dt];exact a),Di g a,b]
  .rw [List.getElem?_set_ne (λz=>e z.symm),Di f a,Di g a,c i a e]
 .rw [B8 (by rw [List.length_set,Dt];omega),B8 (by rw [Dt];omega)]
def Hw {n:Nat} {f g:dq} (h:∀ i,i<n->g i=f i):A5 n f=A5 n g:=by
 apply FC;intro i;by_cases a:i<n
 .rw [Di f a,Di g a,h i a]
 .rw [B8 (by rw [Dt];omega),B8 (by rw [Dt];omega)]
def Kg (n:Nat):(List.replicate n [V.int 0]).flatten=A5 n λ_=>0:=by
 rw [Ig];apply FC;intro i;by_cases a:i<n
 .rw [Di _ a,Fg,jE a]
 .rw [Fg,jD a,B8 (by rw [Dt];omega)]
def GE {n k:Nat} {i:Int} (e:i=(k:Int)) (h:k<n):ap n i=some k:=by
 subst e;unfold ap;rw [jE `a,jE `a];simp
def Pl.same {H c:Hp} {r:Addr} {L:cQ} (h:Pl H r L) (s:Same H c):Pl c r L:=let ⟨d,a,b⟩:=h;⟨d,s _ _ a,b.tp (F_ s)⟩
def GF {m n:Nat} {x y:Int} (a:Bd m x) (b:Bd n y) (c:m<=60000000:=by decide) (d:n<=60000000:=by decide):IntMulOk x y:=C4 (a.mono c) (b.mono d)
def I0 (ns:d6) (m:Nat):DT ns (m+1)=if ns.getD m 1=0 then DT ns m else m+1:=rfl
def uE (h:Hm K vs H Q E):P9 K { nx:=λ_ d=>Q .non d,rt:=Q } (L2.start ["row","many"] vs) H:=by
 let {p,a,rfl,hp,q}:=h;unfold P9;rwa [hp]
 let b:∀ m:Nat,m<=@a->DT a m=DT a @a->DT a m=m->∀ r,H r=none->Q (V.ref r) (upd H r (.lst (CH (~~~a) none (some (m:Int))))):=λm j n o r u=>by
  rw [KD (by rw [AI];exact j),<-List.map_take,<-o,n];exact q r u
 refine Dh (λm g d=>g=[↥p,some (.int (m:Int))]/\d=H/\DT a m=DT a @a/\m<=@a) @a {by rw [AI],7,AT _} ?_;rintro m g d ⟨rfl,rfl,e,i⟩;rwa [hp];refine Aa (λc=>?_) (λc=>?_)
 .let {k,rfl}:∃ k,m=k+1:={m - 1,`a}
  let v:(~~~a)[k]?=some (V.int (a.getD k 1)):=by
   rw [Ae,Ak `a,AU,Ak `a];rfl
  refine {_,DQ `a v,2,Aa (λf=>?_) (λf=>?_)}
  .let z:a.getD k 1=0:=by injection f
   rw [I0,jE z] at e;exact {λw x=>∃ y,y<k+1/\_,λ_ _ h=>h,k,`a,by rw [show ((k+1:Nat):Int) - 1=(k:Int) by omega],2,e,`a}
  .let z:a.getD k 1≠0:=λz=>f (by rw [z]);exact b (k+1) i e (by rw [I0,jD z])
 .let z:m=0:=by omega
  subst z;exact b 0 i e rfl
theorem MO (ns:d6):∀ m,DT ns m<=m
 | 0=>AT 0
 | m+1=>by
   rw [I0];split
   .exact Nat.le_succ_of_le (MO ns m)
   .exact AT _
def MP {ns:d6}:(DJ ns).length=DT ns @ns:=by
 unfold DJ;rw [Br,Nat.min_eq_left (MO ns @ns)]
def SM {ns:d6} (k:Nat):(DJ ns).getD k 0=ns.getD k 0:=by
 let g:∀ (m:Nat),m<=@ns->(∀ j,m<=j->j<@ns->ns.getD j 0=0)->∀ j,DT ns m<=j->j<@ns->ns.getD j 0=0:=by
  intro m
  induction m with
  | zero=>intro _ h j i c;exact h j `a c
  | succ m n=>
    intro o h j d f;rw [I0] at d;split at d
    .rename_i z;refine n `a (λj i c=>?_) j d f;by_cases e:j=m
     .subst e;rw [AU,Ak c] at z ⊢;exact z
     .exact h j `a c
    .exact h j d f
 by_cases d:k<DT ns @ns
 .unfold DJ;rw [AU,AU,List.getElem?_take_of_lt d]
 .let e:(DJ ns).getD k 0=0:=by
   rw [AU,B8 (by rw [MP];omega)];rfl
  rw [e];by_cases f:k<@ns
  .exact (g @ns (AT _) (λj a b=>absurd b `a) k `a f).symm
  .rw [AU,B8 `a];rfl
def MS {n:Nat} {z g:Int} (h:g∣z) (b:Bd n z):Bd n (z / g):=by
 by_cases a:z=0
 .rw [a,Int.zero_ediv];exact DF n
 .exact Dz a (Int.ediv_dvd_of_dvd h) b
def SN {z g:Int} (a:g≠0) (h:g∣z):((z / g:Int):Rat)=(z:Rat) / (g:Rat):=by
 let {y,rfl}:=h;rw [GS _ a];have:=Am a;push_cast;ext
theorem SO {ns:d6} {g:Int} (h:∀ z∈ns,g∣z) (k:Nat):g∣ns.getD k 0:=by
 rw [AU];cases e:ns[k]? with
 | none=>exact DA g
 | some z=>exact h z (BT e)
def MT {m:cQ} (b:Af m) (f:Nz m) (h:1<=@m):(AV m).getD (@m - 1) 0≠0:=by
 rw [J4,PQ];let a:@m - 1<@m:=by omega
 let q:=f m[@m - 1] (by rw [GP];exact Ak a);let e:Ad m (@m - 1)=m[@m - 1]:=by unfold Ad;rw [AU,Ak a];rfl
 rw [e];refine CA q ?_;let o:=Cb b;let d:=o.2 m[@m - 1] (Cu a);let {y,c}:=d;let g:=(b m[@m - 1] (Cu a)).pos;rw [c,GS _ (AR g)];intro z;rw [z,EC] at c;have:=o.1;omega
def SQ {xs:cZ} {v:V} (h:1<=@xs) (e:xs[@xs - 1]?=some v):R_ xs (-1)=some v:=by
 unfold R_ ap;rw [jD `b,jE `a,show (-1+(@xs:Int)).toNat=@xs - 1 by omega];exact e
def G4 {n m:Int} (h:0<m):Aq n m=Y_ n m:=by unfold Aq;rw [jD `a]
def uF (h:E5 K vs H Q E):QX K { nx:=λ_ j=>Q .non j,rt:=Q } (L2.start ["top","bottom","shared"] vs) H:=by
 let {a,b,rfl,d,q}:=h;unfold QX;rwa []
 let f:∀ s:Int,(s=if b<0 then -((Int.gcd a b:Nat):Int) else ((Int.gcd a b:Nat):Int))->HZ a s/\HZ b s/\2<=sizeLine/\∀ (p:Addr),H p=none->Q (V.ref p) (upd H p (.tup [.int (a.fdiv s),.int (b.fdiv s)])):=λs k=>by
  let {g,n,i,m,o,r}:=Jk d k
  let e:Aq a b=(a.fdiv s,b.fdiv s):=by
   refine Do (DO d) i ?_;rw [Dp d,J3 (q:=(a.fdiv s,b.fdiv s)) (AR i.pos) d m]
  rw [e] at q;exact {g,g,sz `b,q}
 refine Aa (λc=>?_) (λc=>?_)
 .exact f _ (by rw [jE c])
 .exact f _ (by rw [jD c])
def bJ {K:W.Frag} {p:Addr} {xs:cZ} {H:Hp} {Q:VK} {E:XK} (hp:H p&&&xs) (h:∃ l,Nums H xs l/\Af l/\∃ M,Ov l M/\Bd 400000 M/\(∀ q∈l,Bd 60000000 q.1)/\@l<=1000/\∀ (r a:Addr) (d:Hp),Same H d->d r&&&[.ref a,.int (Ag l)]->d a^^^((AV l).map V.int)->Q (.ref r) d):E6 K [.ref p] H Q E:=let ⟨l,a,b,M,c⟩:=h;⟨p,xs,l,M,rfl,.inl hp,a,b,c⟩
def uG (h:E6 K vs H Q E):xM K { nx:=λ_ f=>Q .non f,rt:=Q } (L2.start ["P","bottom","number"] vs) H:=by
 let {p,g,l,M,rfl,hp,w,k,j,A,L,hl,q}:=h;let D:=@w;let N:=(Cb k).1;let O:=Dz (AR j.1) (PR k j) A;let F:∀ q∈l,Bd 400000 q.2:=λq m=>Dz (AR j.1) (j.2 q m) A;refine A8 (I_ (Zc (xs:=g) hp rfl (λi n f=>∃ x,n=[↥p,some (.int ((l.take i).foldl (λB q=>B*(q.2 / ((Int.gcd B q.2:Nat):Int))) 1)),x]/\f=H) ⟨none,rfl,rfl⟩ ?_ ?_ ?_))
 .rintro i n f ⟨x,rfl,rfl⟩;rfl
 .rintro i x n f o ⟨y,rfl,rfl⟩;let {z,d,G,rfl,b}:=w.get o;let u:=k z (BT d);let I:=F z (BT d);let {P,R}:=Ld (M:=M) (l.take i) 1 (λq m=>{(k q (Fj m)).pos,j.2 q (Fj m)}) `b (Int.one_dvd M);let S:=Dz (AR j.1) R A;let {s1,_,_,T,U,s6}:=LY P u.pos;refine {4,5,b,2,4,5,b,2,6,3,U,3,GF S (I.le T),↥G,?_,2};rw [uB d];try rfl
 .rintro n f ⟨x,rfl,rfl⟩;rw [D,Bh];refine B7 (Be (Zd (xs:=g) hp rfl (λi v c=>i<=@g/\v=((AV l).take i).map V.int/\c=f) {Ah _,7} ?_ ?_ ?_))
  .rintro i v c ⟨J,rfl,rfl⟩;refine {J,sz ?_,2};rw [AI,Br];omega
  .rintro i x v c o ⟨J,rfl,rfl⟩;let {z,d,G,rfl,b}:=w.get o;let u:=k z (BT d);let I:=F z (BT d);let W:=L z (BT d);let X:i<@g:=(A7.mp o).1;rwa [b];let Y:l.foldl (λB q=>B*(q.2 / ((Int.gcd B q.2:Nat):Int))) 1=Ag l:=rfl;rw [Y];let Z:(AV l)[i]?=some (z.1*(Ag l / z.2)):=by unfold AV;rw [Ae,d];rfl
   refine {u.pos,GF W (O.le (O9 N u.pos)),`a,?_};rw [Hv V.int Z]
  .rintro v c ⟨_,rfl,rfl⟩ a ha;refine AS rfl {BJ,λr C=>?_}
   let e:(AV l).take @g=AV l:=by
    rw [D,show @l=(AV l).length by unfold AV;rw [AI],Bh]
   rw [e] at C ⊢;let s:=(AM ha (.lst ((AV l).map V.int))).trans (AM C (.tup [.ref a,.int (Ag l)]));exact q r a _ s upd_same (AM C _ _ _ upd_same)
def uH (h:Hs K vs H Q E):Qc K { nx:=λ_ b=>Q .non b,rt:=Q } (L2.start ["row","bottom"] vs) H:=by
 let {p,d,B,rfl,hp,v,w,q}:=h;unfold Qc;rwa [hp];refine {{_,SqL.of hp},CompJ.lst (xs:=d.map V.int) (λi f b=>i<=@d/\Same H b/\Nums b f ((d.take i).map λn=>Aq n B)) {Ah _,Same.refl H,trivial} ?_ ?_ ?_}
 .rintro i f b ⟨o,g,c⟩;refine {by rw [AI];exact o,sz ?_,SqL.of (g _ _ hp)};rw [@c,AI,Br];omega
 .rintro i x f b j ⟨o,g,c⟩;rw [Ae] at j;cases e:d[i]? with
  | none=>rw [e] at j;cases j
  | some n=>
    rw [e] at j;obtain rfl:V.int n=x:=jL j;let y:i<@d:=(A7.mp e).1;rwa [];refine {v,λr k=>{`a,g.trans (AM k _),?_}};rw [Hv _ e];exact (c.tp (F_ (AM k _))).append (Nums.one Hl)
 .rintro f b ⟨_,g,c⟩ a z;rw [AI,Bh] at c;let u:=AM z (.lst f);rwa [];refine {_,c.tp (F_ u),by rw [AI];exact w,λr A m C k D=>q r A m ((g.trans u).trans C) k D}
def SR {b:Nat} {l:cQ} {M:Int} (d:Af l) (h:Ov l M) (e:∀ z∈S_ l M,Bd b z):∀ q∈l,Bd b q.1:=λq a=>by
 refine (e (q.1*(M / q.2)) (Au.mpr ⟨q,a,rfl⟩)).le ?_;rw [Bp];let {y,c}:=h.2 q a;let f:=(d q a).pos;let i:=h.1;have:M / q.2=y:=by rw [c,GS _ (AR f)]
 rw [this];refine Nat.le_mul_of_pos_right _ ?_;rcases El y.natAbs with z | z
 .let g:y=0:=by omega
  rw [g] at c;omega
 .exact z
def G7 {g f:d6} (b:Lz g) (o:Lz f) (p:MQ (co g) (co f)):@g<=@f:=by
 let {c,q,A,d}:=p;rcases BY @f @g with y | y
 .exfalso;rcases EJ A with z | ⟨B,h,_,r⟩
  .have:c*co f (@f - 1)=0:=by rw [d,CD,GA g z]
   rcases En.mp this with e | e
   .exact q e
   .exact o.2 e
  .let u:∀ k,c*co f k=cvL B (co g) k:=λk=>by rw [d,CD,BR (λj=>(r j).symm) g k,<-CD]
   let v:=h.1;let G:=b.1;let m:B≠[]:=CN.mp v;let {X,t,a}:∃ X t,B=X++[t]:={B.dropLast,B.getLast m,(GT m).symm};let w:@X=@B - 1:=by rw [a];simp
   let C:co B (@B - 1)=t:=by rw [<-w,a];unfold co;simp [AU]
   let e:=u (@B - 1+(@g - 1));rw [Ao `a,a,Dr,<-a,Ef (n:=@g) (λi D=>Ao D) X _ `a] at e;unfold A9 at e;rw [jE `a,show @B - 1+(@g - 1) - @X=@g - 1 by omega] at e;let F:t*co g (@g - 1)=0:=by omega
   rcases En.mp F with x | x
   .exact h.2 (C.trans x)
   .exact b.2 x
 .exact y
theorem php:∀ (m n:Nat) (f:Nat->Nat),(∀ i,i<n->f i<m)->m<n->∃ i j,i<j/\j<n/\f i=f j
 | 0,n,f,h,d=>absurd (h 0 d) (Nat.not_lt_zero _)
 | m+1,n,f,h,d=>by
   let {n,rfl}:∃ k,n=k+1:={n - 1,`a};by_cases c:∃ i,i<n/\f i=f n
   .let {i,a,e}:=c;exact {i,n,a,`a,e}
   .let c:∀ i,i<n->f i≠f n:=λi a e=>c ⟨i,a,e⟩;let o:=h n `a
    let {i,j,b,g,e}:=php m n (λi=>if f n<f i then f i - 1 else f i) (λi a=>by
     let p:=h i `a;let q:=c i a;show (if f n<f i then f i - 1 else f i)<m;split <;> omega) `a
    refine {i,j,b,`a,?_};let c1:=c i `a;let r:=c j g;let e:(if f n<f i then f i - 1 else f i)=(if f n<f j then f j - 1 else f j):=e;split at e <;> split at e <;> omega
noncomputable def bj (M:Nat):Nat->(Nat->Nat)->Nat
 | 0,_=>0
 | N+1,e=>e 0+M*bj M N (λk=>e (k+1))
theorem SS {M:Nat}:∀ (N:Nat) (e:Nat->Nat),(∀ k,k<N->e k<M)->bj M N e<M ^ N
 | 0,_,_=>Nat.one_pos
 | N+1,e,h=>by
   let a:=SS N (λk=>e (k+1)) (λk hk=>h (k+1) `a);let c:=h 0 `a;show e 0+M*bj M N (λk=>e (k+1))<M ^ (N+1);let b:M*(bj M N (λk=>e (k+1))+1)<=M*M ^ N:=Em M a;rw [CJ,C6 (M ^ N)];rw [Nat.mul_add,Nat.mul_one] at b;omega
def ST {M a b x y:Nat} (c:a<M) (d:b<M) (h:a+M*x=b+M*y):a=b/\x=y:=by
 let f:(a+M*x) % M=a:=by rw [Nat.add_mul_mod_self_left,Nat.mod_eq_of_lt c]
 let g:(b+M*y) % M=b:=by rw [Nat.add_mul_mod_self_left,Nat.mod_eq_of_lt d]
 let e:a=b:=by rw [<-f,h,g]
 subst e;exact {2,Nat.eq_of_mul_eq_mul_left `a (Nat.add_left_cancel h)}
theorem SU {M:Nat}:∀ (N:Nat) (e a:Nat->Nat),(∀ k,k<N->e k<M)->(∀ k,k<N->a k<M)->bj M N e=bj M N a->∀ k,k<N->e k=a k
 | 0,_,_,_,_,_,k,hk=>absurd hk (Nat.not_lt_zero _)
 | N+1,e,a,h,b,q,k,hk=>by
   let {c,d}:=ST (h 0 `a) (b 0 `a) q;cases k with
   | zero=>exact c
   | succ k=>exact SU N _ _ (λk hk=>h (k+1) `a) (λk hk=>b (k+1) `a) d k `a
noncomputable def V_ (p:Nat):Nat->Nat->d6
 | 0,_=>[]
 | N+1,t=>((t % p:Nat):Int)::V_ p N (t / p)
theorem MU (p:Nat):∀ (N t:Nat),(V_ p N t).length=N
 | 0,_=>rfl
 | N+1,t=>by show (V_ p N (t / p)).length+1=N+1;rw [MU p N]
theorem MV {p:Nat} (a:0<p):∀ (N t:Nat),∀ z∈V_ p N t,0<=z/\z<(p:Int)
 | 0,_,z,h=>by cases h
 | N+1,t,z,h=>by
   rcases CP.mp h with rfl | h
   .have:=Nat.mod_lt t a;omega
   .exact MV a N _ z h
theorem SV {p:Nat} (e:0<p):∀ (N t s:Nat),t<p ^ N->s<p ^ N->V_ p N t=V_ p N s->t=s
 | 0,t,s,c,d,_=>by rw [Nat.pow_zero] at c d;omega
 | N+1,t,s,c,d,h=>by
   injection h with a b;rw [CJ,C6] at c d;have:=SV e N (t / p) (s / p) (Nat.div_lt_of_lt_mul c) (Nat.div_lt_of_lt_mul d) b;let f:=Nat.div_add_mod t p;let g:=Nat.div_add_mod s p;let a:t % p=s % p:=by exact_mod_cast a
   rw [<-f,<-g,this,a]
theorem Kh {g:dq} {h q:Nat} (c:∀ k,(g k).natAbs<=h):∀ (a:d6),(∀ z∈a,z.natAbs<=q)->∀ k,(cvL a g k).natAbs<=@a*(q*h)
 | [],_,k=>by show (0:Int).natAbs<=_;simp
 | x::a,b,0=>by
   rw [BA];let d:(x*g 0).natAbs<=q*h:=by rw [Bp];exact DB (b x (BC ..)) (c 0)
   have:(x::a).length*(q*h)=@a*(q*h)+q*h:=by rw [Cj,Nat.add_mul,Nat.one_mul]
   omega
 | x::a,b,k+1=>by
   rw [As];let d:(x*g (k+1)).natAbs<=q*h:=by rw [Bp];exact DB (b x (BC ..)) (c (k+1))
   let f:=Kh c a (λz e=>b z (A6 _ e)) k;have:(x::a).length*(q*h)=@a*(q*h)+q*h:=by rw [Cj,Nat.add_mul,Nat.one_mul]
   omega
def uI {A B u v:d6} (i:Lz A) (c:Lz B) (q:QI (co A) (co B) Ay) (g:@u<@B) (j:@v<@A) (h:∀ k,cvL u (co A) k+cvL v (co B) k=0):(∀ k,co u k=0)/\∀ k,co v k=0:=by
 let {d,m,U,V,b}:=q
 let a:∀ {A B u v U V:d6},Lz B->(∀ k,d*Ay k=cvL U (co A) k+cvL V (co B) k)->@u<@B->(∀ k,cvL u (co A) k+cvL v (co B) k=0)->∀ k,co u k=0:=λ{A B u v U V} c b g h=>by
  rcases EJ u with z | ⟨f,n,r,o⟩
  .exact z
  .exfalso
   let p:MQ (co B) (co f):=by
    refine {d,m,BF (Bm V u) ((Bm U v).map ((-1)*·)),λk=>?_};rw [B4,BO,CC,CC,o k,DI u k,<-DP,BR b,Hi,Hj (co A) u U,Hj (co B) u V]
    let e:cvL U (cvL u (co A)) k = - cvL U (cvL v (co B)) k:=by
     have:cvL U (cvL u (co A)) k+cvL U (cvL v (co B)) k=0:=by rw [<-Hi];exact GA U h k
     omega
    rw [e];omega
   have:=G7 c n p;omega
 exact {a c b g h,a (A:=B) (B:=A) (u:=v) (v:=u) (U:=V) (V:=U) i (λk=>by rw [b k];omega) j (λk=>by have:=h k;omega)}
def FY {a b:Int} (h:a=b):a∣b:=by rw [h];exact Int.dvd_refl b
theorem bK {p:Int} {f g:dq} {S:d6} (h:∀ k,p∣f k - cvL S g k):∀ (a:d6) (k:Nat),p∣cvL a f k - cvL a (cvL S g) k
 | [],k=>by show p∣(0:Int) - 0;simp
 | x::a,0=>by
   rw [BA,BA];have:=BE (h 0) (Eo x _);rw [Int.mul_sub] at this;refine BE this (FY ?_);omega
 | x::a,k+1=>by
   rw [As,As];let b:=BE (h (k+1)) (Eo x _);let c:=bK h a k;rw [Int.mul_sub] at b;have:=C7 b c;refine BE this (FY ?_);omega
theorem SW:∀ (a b:d6),(BF a b).length=max @a @b
 | [],b=>by show @b=max 0 @b;omega
 | a,[]=>by rw [J6];show @a=max @a 0;omega
 | x::a,y::b=>by
   show (BF a b).length+1=max (@a+1) (@b+1);rw [SW a b];omega
def SX {a b:d6} (c:@a=@b) (h:∀ k,co a k=co b k):a=b:=by
 refine List.ext_getElem c λi d e=>?_;have:=h i;unfold co at this;rwa [AU,AU,Ak d,Ak e] at this
def ca {A B G:d6} {p b:Nat} (hp:Pr p) (lA:Lz A) (lB:Lz B) (q:QI (co A) (co B) Ay) (hA:∀ k,Bd b (co A k)) (hB:∀ k,Bd b (co B k)) (n1:2<=@A) (m1:2<=@B) (g2:2<=@G) (g1:¬ (p:Int)∣co G (@G - 1)) (dA:Dm (p:Int) (co G) (co A)) (dB:Dm (p:Int) (co G) (co B))
  (j:(2*((@A+@B)*2 ^ b)) ^ (@A+@B - 2)<p):False:=by
 let p2:=hp.two;let S:0<p:=by omega
 generalize hn:@A - 1=n at *;generalize hm:@B - 1=m at *;generalize hE:(@A+@B)*2 ^ b=E at *;let N1:@A+@B - 2=n+m:=by omega
 rw [N1] at j;let Y:∀ k,(co A k).natAbs<=2 ^ b:=λk=>EN (hA k);let Z:∀ k,(co B k).natAbs<=2 ^ b:=λk=>EN (hB k);let E0:0<E:=by rw [<-hE];exact Nat.mul_pos `a (Nat.pow_pos `b)
 let {u,T}:∃ u:Nat->d6,∀ t,u t=(V_ p (m+n) t).take m:={_,λ_=>rfl};let {v,U}:∃ v:Nat->d6,∀ t,v t=(V_ p (m+n) t).drop m:={_,λ_=>rfl};let {f,W}:∃ f:Nat->dq,∀ t k,f t k=cvL (u t) (co A) k+cvL (v t) (co B) k:={_,λ_ _=>rfl};let J:∀ t,(u t).length=m:=λt=>by rw [T,Br,MU];omega
 let L:∀ t,(v t).length=n:=λt=>by rw [U,List.length_drop,MU];omega
 let uz:∀ t,∀ z∈u t,0<=z/\z<(p:Int):=λt z o=>MV S _ t z (Fj (T t ▸ o));let vz:∀ t,∀ z∈v t,0<=z/\z<(p:Int):=λt z o=>MV S _ t z (List.mem_of_mem_drop (U t ▸ o))
 let fb:∀ t k,(f t k).natAbs<E*p:=λt k=>by
  let d:=Kh (q:=p - 1) Y (u t) (λz o=>by have:=uz t z o;omega) k;let g:=Kh (q:=p - 1) Z (v t) (λz o=>by have:=vz t z o;omega) k;rw [J] at d;rw [L] at g
  let h3:(f t k).natAbs<=(m+n)*((p - 1)*2 ^ b):=by
   rw [Nat.add_mul,W];omega
  refine Ek h3 ?_;rw [<-hE];let e:(m+n)*((p - 1)*2 ^ b)=((m+n)*2 ^ b)*(p - 1):=by rw [C6 (p - 1),Nat.mul_assoc]
  rw [e];exact CM (Nat.mul_lt_mul_of_pos_left `a (Nat.mul_pos `a (Nat.pow_pos `b))) (CV p (CV _ `a))
 let {X,r}:∃ X:Nat->Nat,∀ t,X t=(f t 0 / (p:Int)+(E:Int)).toNat:={_,λ_=>rfl};let {O,w}:∃ O:Nat->Nat->Nat,∀ t k,O t k=(f t (k+1)+((E*p:Nat):Int)).toNat:={_,λ_ _=>rfl}
 let C:∀ t,0<=f t 0 / (p:Int)+(E:Int)/\f t 0 / (p:Int)+(E:Int)<2*(E:Int):=λt=>by
  let h:=fb t 0
  let d:-((E:Int)*(p:Int))<=f t 0:=by have:((E*p:Nat):Int)=(E:Int)*(p:Int):=by push_cast;rfl
                                      omega
  let g:f t 0<(E:Int)*(p:Int):=by have:((E*p:Nat):Int)=(E:Int)*(p:Int):=by push_cast;rfl
                                  omega
  let q1:-(E:Int)<=f t 0 / (p:Int):=by
   refine (Int.le_ediv_iff_mul_le `a).mpr ?_;rw [Int.neg_mul];exact d
  let q2:f t 0 / (p:Int)<(E:Int):=Int.ediv_lt_of_lt_mul `a g;omega
 let D:∀ t k,0<=f t (k+1)+((E*p:Nat):Int)/\f t (k+1)+((E*p:Nat):Int)<2*((E*p:Nat):Int):=λt k=>by
  let h:=fb t (k+1);omega
 let F:∀ t,X t<2*E:=λt=>by have:=C t;rw [r];omega
 let I:∀ t k,O t k<2*(E*p):=λt k=>by have:=D t k;rw [w];omega
 let cl:∀ t,X t+2*E*bj (2*(E*p)) (m+n - 1) (O t)<2*E*(2*(E*p)) ^ (m+n - 1):=λt=>by
  let d:=SS (M:=2*(E*p)) (m+n - 1) (O t) (λk _=>I t k);let g:2*E*(bj (2*(E*p)) (m+n - 1) (O t)+1)<=2*E*(2*(E*p)) ^ (m+n - 1):=Em _ d;let h3:=F t;rw [Nat.mul_add,Nat.mul_one] at g;omega
 let R:2*E*(2*(E*p)) ^ (m+n - 1)<p ^ (m+n):=by
  let {N,hN}:∃ N,m+n=N+1:={m+n - 1,`a};rw [hN,Nat.add_sub_cancel];rw [Nat.add_comm n m,hN] at j
  let e:2*E*(2*(E*p)) ^ N=(2*E) ^ (N+1)*p ^ N:=by
   rw [<-Nat.mul_assoc 2 E p,Nat.mul_pow (2*E) p N,CJ,C6 ((2*E) ^ N) (2*E),Nat.mul_assoc (2*E)]
  rw [e,CJ p,C6 (p ^ N) p];exact Nat.mul_lt_mul_of_pos_right j (Nat.pow_pos S)
 let {s,t,st,ht,e}:=php _ _ _ (λi _=>cl i) R;let {q0,q1}:=ST (F s) (F t) e;let qk:=SU (m+n - 1) _ _ (λk _=>I s k) (λk _=>I t k) q1;let w0:∀ k,(co (u s) k - co (u t) k)=co (BF (u s) ((u t).map ((-1)*·))) k:=λk=>by rw [DI,DI,DI,B4,BO];omega
 let df:∀ k,f s k - f t k=cvL (BF (u s) ((u t).map ((-1)*·))) (co A) k+cvL (BF (v s) ((v t).map ((-1)*·))) (co B) k:=λk=>by
  rw [B4,B4,BO,BO,W,W];omega
 let P:∀ k,0<k->f s k - f t k=0:=λk hk=>by
  rcases BY k (m+n) with c | c
  .have:=qk (k - 1) `a;let r1:=D s (k - 1);let r2:=D t (k - 1);rw [w,w,show k - 1+1=k by omega] at this;rw [show k - 1+1=k by omega] at r1 r2;omega
  .let z:∀ t,f t k=0:=λt=>by
    rw [W,Ef (n:=@A) (λi P=>Ao P) (u t) k (by rw [J];omega),Ef (n:=@B) (λi P=>Ao P) (v t) k (by rw [L];omega)];rfl
   rw [z,z];rfl
 let d0:(f s 0 - f t 0).natAbs<p:=by
  let r1:=C s;let r2:=C t;rw [r,r] at q0;let q0:f s 0 / (p:Int)=f t 0 / (p:Int):=by omega
  let m1:=Int.emod_add_mul_ediv (f s 0) p;let m2:=Int.emod_add_mul_ediv (f t 0) p;let b1:=Ca (f s 0) (show (p:Int)≠0 by omega);let b2:=Ci (f s 0) (show (0:Int)<p by omega);let b3:=Ca (f t 0) (show (p:Int)≠0 by omega);let b4:=Ci (f t 0) (show (0:Int)<p by omega);rw [q0] at m1;omega
 let dm:Dm (p:Int) (co G) (co [f s 0 - f t 0]):=by
  let {SA,a0}:=dA;let {SB,a1}:=dB;refine {BF (Bm (BF (u s) ((u t).map ((-1)*·))) SA) (Bm (BF (v s) ((v t).map ((-1)*·))) SB),λk=>?_}
  let e:co [f s 0 - f t 0] k=f s k - f t k:=by
   cases k with
   | zero=>rfl
   | succ k=>rw [P (k+1) `a];exact Ao (by simp)
  rw [e,df,B4 (co G),CC,CC];let d:=bK (p:=(p:Int)) a0 (BF (u s) ((u t).map ((-1)*·))) k;let g:=bK (p:=(p:Int)) a1 (BF (v s) ((v t).map ((-1)*·))) k;have:=C7 d g;refine BE this (FY ?_);omega
 let z0:f s 0 - f t 0=0:=by
  by_cases c:(p:Int)∣f s 0 - f t 0
  .let {y,hy}:=c;rcases Int.lt_trichotomy y 0 with z | z | z
   .have:(p:Int)*y<=(p:Int)*(-1):=ED `a `a;omega
   .rw [hy,z];omega
   .have:(p:Int)*1<=(p:Int)*y:=ED `a `a;omega
  .exfalso;have:=Dm.len hp `a g1 dm ⟨0,c⟩;simp at this;omega
 let all:∀ k,cvL (BF (u s) ((u t).map ((-1)*·))) (co A) k+cvL (BF (v s) ((v t).map ((-1)*·))) (co B) k=0:=λk=>by
  rw [<-df];cases k with
  | zero=>exact z0
  | succ k=>exact P (k+1) `a
 let ll:∀ {a c:d6} {x:Nat},@a=x->@c=x->(BF a (c.map ((-1)*·))).length=x:=λ{a c x} d g=>by
  rw [SW,AI,d,g];omega
 let {c1,c2}:=uI lA lB q (by rw [ll (J s) (J t)];omega) (by rw [ll (L s) (L t)];omega) all;let eu:u s=u t:=SX (by rw [J,J]) λk=>by have:=c1 k;rw [<-w0] at this;omega
 let ev:v s=v t:=SX (by rw [L,L]) λk=>by
  have:=c2 k;rw [DI,B4,BO,<-DI,<-DI] at this;omega
 have:V_ p (m+n) s=V_ p (m+n) t:=by
  rw [<-List.take_append_drop m (V_ p (m+n) s),<-List.take_append_drop m (V_ p (m+n) t)];rw [<-T,<-U,<-T,<-U,eu,ev]
 have:=SV S _ _ _ `a `a this;omega
theorem SY:∀ (a l:d6),a.Nodup->(∀ t∈a,evI l t=0)->@l<=@a->∀ k,co l k=0
 | [],l,_,_,h,k=>Ao (by have:@l=0:=by simpa using h
                        omega)
 | t::a,l,i,d,j,k=>by
   let b:=List.nodup_cons.mp i;let e:=d t (BC ..);let sd:co (Y' l t) ((Y' l t).length - 1)=0:=by rw [KA];exact zQ l t
   let f:=Lj sd
   let z:∀ k,co (Y' l t) k=0:=λk=>by
    rw [<-f k];refine SY a (Y' l t).dropLast b.2 (λx g=>?_) (by rw [List.length_dropLast,KA];simp at j;omega) k;rw [Lk _ _ x f];let c:=Ll l t x;rw [d x (A6 _ g),e] at c
    let m:x - t≠0:=λq=>b.1 (by have:x=t:=by omega
                               rw [<-this];exact g)
    let c:(x - t)*evI (Y' l t) x=0:=by omega
    rcases En.mp c with q | q
    .exact absurd q m
    .exact q
   rw [KC l t k,z k];split
   .rw [e];omega
   .rw [z (k - 1)];omega
def uJ (n:Nat):((List.range (2*n+1)).map λi:Nat=>(i:Int) - (n:Int)).Nodup:=by
 unfold List.Nodup;rw [D8];exact (List.nodup_range (n:=2*n+1)).imp λh q=>h `a
theorem SZ (f:Int->Bool):∀ P:d6,(P.filter f).length+(P.filter λx=>!f x).length=@P
 | []=>rfl
 | x::P=>by
   have:=SZ f P;rw [List.filter_cons,List.filter_cons,Cj];cases f x
   .simp;omega
   .simp;omega
def uK {r:d6} {n:Nat} (u:∃ k,co r k≠0) (A:@r<=n):∃ x:dq,(∀ i,i<=n->evI r (x i)≠0/\(x i).natAbs<=n)/\∀ i j,i<=n->j<=n->i≠j->x i≠x j:=by
 letI P:d6:=(List.range (2*n+1)).map λi:Nat=>(i:Int) - (n:Int)
 let B:@P=2*n+1:=by show ((List.range (2*n+1)).map λi:Nat=>(i:Int) - (n:Int)).length=_;rw [AI,BZ]
 let o:P.Nodup:=uJ n
 let v:∀ x∈P,x.natAbs<=n:=λx w=>by
  let {i,b,rfl}:=Au.mp w;have:=D7.mp b;omega
 let d:(P.filter λx=>decide (evI r x=0)).length+(P.filter λx=>!decide (evI r x=0)).length=@P:=by
  exact SZ _ P
 let few:(P.filter λx=>decide (evI r x=0)).length<@r:=by
  rcases BY (P.filter λx=>decide (evI r x=0)).length @r with c | c
  .exact c
  .exfalso;let {k,hk}:=u;exact hk (SY _ r (o.filter _) (λt y=>by simpa using (D5.mp y).2) c k)
 letI Gd:=P.filter λx=>!decide (evI r x=0)
 let C:n+1<=@Gd:=by
  show n+1<=(P.filter λx=>!decide (evI r x=0)).length;omega
 let z:Gd.Nodup:=o.filter _;refine {λi=>Gd.getD i 0,λi b=>?_,λi j b D f e=>?_}
 .let a:i<@Gd:=by omega
  let e:Gd.getD i 0=Gd[i]:=by rw [AU,Ak a];rfl
  show evI r (Gd.getD i 0)≠0/\(Gd.getD i 0).natAbs<=n;rw [e];let m:=D5.mp (Cu a);exact {by simpa using m.2,v _ m.1}
 .let g:i<@Gd:=by omega
  let h:j<@Gd:=by omega
  let e:Gd.getD i 0=Gd.getD j 0:=e;rw [AU,AU,Ak g,Ak h] at e;let e:Gd[i]=Gd[j]:=e;let p:=List.pairwise_iff_getElem.mp z;rcases Nat.lt_or_gt_of_ne f with q | q
  .exact p i j g h q e
  .exact p j i h g q e.symm
def JA {b n c:Nat} {r g A:d6} (o:∀ z∈r,Bd b z) (p:∃ k,co r k≠0) (f:@r<=n) (B:@g<=n) (C:n<2 ^ c) (q:∀ k,co r k=cvL A (co g) k):∀ k,Bd (b+n*(2*c+4)) (co g k):=by
 by_cases D:@g=0
 .intro k;rw [Ao `a];exact DF _
 let {x,h,u}:=uK p f
 let m:∀ i,i<=n->Bd c (x i):=λi a=>by
  show (x i).natAbs<2 ^ c;have:=(h i a).2;omega
 intro k
 have:=aP (c:=c) (@g - 1) g (b+n*(c+1)) x (λk hk=>Ao `a) (λi a=>m i `a) (λi j a F d=>u i j `a `a d) (λi a=>by
  let v:=(h i `a).1;let e:=zP q (x i);let w:=Pj (m i `a) r o
  let y:(evI g (x i)).natAbs<=(evI r (x i)).natAbs:=by
   rw [e,Bp];refine GO _ ?_;rcases El (evI A (x i)).natAbs with z | z
   .exact absurd (by rw [e,Int.natAbs_eq_zero.mp z];omega) v
   .exact z
  refine (w.le y).mono ?_;have:=CV (c+1) f;omega) k
 refine this.mono ?_;let G:(@g - 1)*(c+3)<=n*(c+3):=CV (c+3) `a;let I:n*(2*c+4)=n*(c+1)+n*(c+3):=by rw [<-Nat.mul_add];congr 1;omega
 omega
def JB {a g:d6} (b:Lz a) (c:Lz g):cvL a (co g) (@a - 1+(@g - 1))=co a (@a - 1)*co g (@g - 1):=by
 let {i,s,rfl}:∃ i s,a=i++[s]:={a.dropLast,a.getLast (CN.mp b.1),(GT _).symm};let e:(i++[s]).length - 1=@i:=by rw [Bf];simp
 let d:co (i++[s]) @i=s:=by
  unfold co;rw [AU,List.getElem?_append_right (AT _),Nat.sub_self];rfl
 rw [e,d,Dr,Ef (n:=@g) (λi f=>Ao f) i _ (by have:=c.1;omega)];unfold A9;rw [jE `a,show @i+(@g - 1) - @i=@g - 1 by omega];omega
def MW {X a:d6} (b:Lz a) {T:Nat} (h:∀ k,T+(@a - 1)<=k->cvL X (co a) k=0):(∀ j,T<=j->co X j=0)/\∀ s,T=s+1->cvL X (co a) (s+(@a - 1))=co X s*co a (@a - 1):=by
 rcases EJ X with z | ⟨Y,d,_,e⟩
 .refine {λj _=>z j,λs _=>?_};rw [CD,GA a z,z s];omega
 .let f:∀ k,cvL X (co a) k=cvL Y (co a) k:=λk=>by rw [CD,BR (λj=>(e j).symm) a k,<-CD]
  let g:=JB d b
  let o:@Y<=T:=by
   rcases BY T @Y with c | c
   .exfalso;have:=h (@Y - 1+(@a - 1)) `a;rw [f,g] at this;exact CA d.2 b.2 this
   .exact c
  refine {λj p=>by rw [<-e];exact Ao `a,λs q=>?_};rw [f,<-e];let r:=d.1;rcases BY @Y T with c | c
  .rw [Ao `a,Ef (n:=@a) (λi m=>Ao m) Y _ (by have:=b.1;omega)];omega
  .rw [show s=@Y - 1 by omega];exact g
def EM {m n:Nat} {x y:Int} (a:Bd m x) (b:Bd n y) (c:m<=60000000:=by omega) (d:n<=60000000:=by omega):IntMulOk x y:=C4 (a.mono c) (b.mono d)
def uL {ns:d6} {m:Int} (a:d6) (b:a=(ns.filter (λz=>!decide (z=0))).map λz=>if z<0 then -z else z) (h:a=[]/\m=0\/m∈a) (d:Int):(∀ z∈ns,d∣z)->d∣m:=by
 intro c;rcases h with ⟨_,e⟩ | h
 .rw [e];exact DA d
 .rw [b] at h;let {z,f,rfl}:=Au.mp h;have:=c z (D5.mp f).1;show d∣if z<0 then -z else z
  split
  .exact Int.dvd_neg.mpr this
  .exact this
def uM (h:Ii K vs H Q E):P8 K { nx:=λ_ j=>Q .non j,rt:=Q } (L2.start ["row","start","found","whole"] vs) H:=by
 let {p,b,r,rfl,hp,W,k}:=h;unfold P8;rwa [];refine {{_,SqL.of hp},CompF.lst (xs:=b.map V.int) (λi u j=>i<=@b/\j=H/\u=(((b.take i).filter (λz=>!decide (z=0))).map λz=>if z<0 then -z else z).map V.int) {Ah _,7} ?_ ?_ ?_}
 .rintro i u j ⟨q,rfl,rfl⟩;refine {by rw [AI];exact q,sz ?_,SqL.of hp};rw [AI,AI];exact BK (List.length_filter_le _ _) (by rw [Br];omega)
 .rintro i x u j f ⟨q,rfl,rfl⟩;rw [Ae] at f;cases e:b[i]? with
  | none=>rw [e] at f;cases f
  | some n=>
    rw [e] at f;obtain rfl:V.int n=x:=jL f;let N:i<@b:=(A7.mp e).1;let L:b.take (i+1)=b.take i++[n]:=by rw [EU,e];rfl
    rwa [];refine Aa (λc=>?_) (λc=>?_)
    .refine {`a,?_};let G:¬ n=0:=by simpa using c
     simp [L,List.filter_append,G]
    .refine {`a,?_};let G:n=0:=by simpa using c
     simp [L,List.filter_append,G]
 .rintro u j ⟨_,rfl,rfl⟩ a O;rw [AI,Bh];let v:=AM O (.lst (((b.filter (λz=>!decide (z=0))).map λz=>if z<0 then -z else z).map V.int));let o:=v _ _ hp;refine {1,_,upd_same,λm P=>?_};let R:=uL _ rfl P;generalize S:upd j a (.lst (((b.filter (λz=>!decide (z=0))).map λz=>if z<0 then -z else z).map V.int))=T at v o ⊢;refine {{_,SqL.of o},ForL.by (xs:=b.map V.int) (λi w A=>∃ (g:Int) (x:c_),w=[↥p,some (.int r),some (.int g),x]/\A=T/\0<=g/\g∣r/\(∀ z∈b.take i,g∣z)/\(∀ d:Int,d∣r->(∀ z∈b,d∣z)->d∣g)) {_,none,7,`a,Dj m r,λz B=>(by simp at B),λd q C=>Int.dvd_coe_gcd (R d C) q} ?_ ?_ ?_}
  .rintro i w A _ ⟨g,x,rfl,rfl,_⟩;exact SqL.of o
  .rintro i x w A f ⟨g,y,rfl,rfl,M,I,D,F⟩;rw [Ae] at f;cases e:b[i]? with
   | none=>rw [e] at f;cases f
   | some n=>
     rw [e] at f;obtain rfl:V.int n=x:=jL f;rwa [];refine Aa (λc=>?_) (λc=>?_)
     .let c1:g=1:=by simpa using c
      subst c1;exact k 1 _ v `b (Int.one_dvd _) (λz _=>Int.one_dvd z) F
     .refine {`a,BE (Dj n g) I,λz B=>?_,λd q C=>Int.dvd_coe_gcd (C n (BT e)) (F d q C)};rw [EU,e] at B;rcases C5.mp B with J | J
      .exact BE (Dj n g) (D z J)
      .let U:z=n:=by simpa using J
       rw [U];exact ER n g
  .rintro w A ⟨g,x,rfl,rfl,M,I,D,F⟩;rw [AI,Bh] at D;rwa [];exact k g _ v M I D F
def uN (h:Ij K vs H Q E):QA K { nx:=λ_ c=>Q .non c,rt:=Q } (L2.start ["row","divisor"] vs) H:=by
 let {p,b,g,rfl,hp,m,u,q}:=h;unfold QA;rwa [];refine {{_,SqL.of hp},CompJ.lst (xs:=b.map V.int) (λi j c=>i<=@b/\c=H/\j=((b.map (·/ g)).take i).map V.int) {Ah _,7} ?_ ?_ ?_}
 .rintro i j c ⟨k,rfl,rfl⟩;refine {by rw [AI];exact k,sz ?_,SqL.of hp};rw [AI,Br];omega
 .rintro i x j c d ⟨k,rfl,rfl⟩;rw [Ae] at d;cases e:b[i]? with
  | none=>rw [e] at d;cases d
  | some n=>
    rw [e] at d;obtain rfl:V.int n=x:=jL d;let f:i<@b:=(A7.mp e).1
    let o:0<g:=by
     rcases m with h | h
     .exact h
     .rw [h] at f;exact absurd f (by simp)
    rwa [];refine {o,`a,?_};rw [Hv V.int (q:=n / g) (by rw [Ae,e];rfl)]
 .rintro j c ⟨_,rfl,rfl⟩ a r;let e:(b.map (·/ g)).take (~~~b).length=b.map (·/ g):=by rw [AI,show @b=(b.map (·/ g)).length by rw [AI],Bh]
  rw [e];exact q a r
def Sa {ns:d6} {k:Nat}:co ns k=ns.getD k 0:=rfl
def MX (ns:d6):Tz (DJ ns):=by
 let a:∀ m,m<=@ns->DT ns m=0\/co ns (DT ns m - 1)≠0:=by
  intro m
  induction m with
  | zero=>intro _;exact .inl rfl
  | succ m c=>
    intro d;rw [I0];split
    .exact c `a
    .rename_i z;right;rw [show m+1 - 1=m by omega,Sa];rw [AU,Ak `a] at z ⊢;exact z
 let b:(DJ ns).length=DT ns @ns:=MP;rcases a @ns (AT _) with h | h
 .left;exact CU.mp (b.trans h)
 .right;rw [b];show (DJ ns).getD _ 0≠0;rw [SM];exact h
def MY (ns:d6) (k:Nat):co (DJ ns) k=co ns k:=SM k
def JC (n:Nat) (F:dq):A5 n F=((List.range n).map F).map V.int:=rfl
def uO (ns:d6) (f:Int) (n:Nat) (h:@ns<=n):List.map V.int (ns.map (f*·))++List.replicate (n - @ns) (V.int 0)=A5 n λk=>f*co ns k:=by
 rw [JC];apply FC;intro i;by_cases a:i<@ns
 .rw [HH (by rw [AI,AI];exact a),Ae,Ae,Ae,Ae,Dk `a,Ak a];show _=some (V.int (f*ns.getD i 0));rw [AU,Ak a];rfl
 .rw [List.getElem?_append_right (by rw [AI,AI];omega),AI,AI,Ae,Ae];by_cases b:i<n
  .rw [Fg,jE `a,Dk b];show _=some (V.int (f*co ns i));rw [Ao `a,EC]
  .rw [Fg,jD `a,B8 (by rw [BZ];omega)];rfl
def uP (h:Ik K vs H Q E):QF K (eC Q) (L2.start ["row","factor","other","weight","shift","result","place","whole"] vs) H:=by
 let {p,q,d,g,f,w,s,rfl,hp,O,hl,a0,bf,bw,bn,bm,k}:=h;unfold QF;refine A8 (FW (AS rfl {p,2,{_,SqL.of hp},CompJ.lst (xs:=d.map V.int) (λi I m=>i<=@d/\m=H/\I=((d.map (f*·)).take i).map V.int) {Ah _,7} ?_ ?_ ?_}))
 .rintro i I m ⟨W,rfl,rfl⟩;refine {by rw [AI];exact W,sz ?_,SqL.of hp};rw [AI,Br];omega
 .rintro i x I m z ⟨W,rfl,rfl⟩;rw [Ae] at z;cases e:d[i]? with
  | none=>rw [e] at z;cases z
  | some n=>
    rw [e] at z;obtain rfl:V.int n=x:=jL z;let a1:i<@d:=(A7.mp e).1;refine {4,3,EM bf (bn n (BT e)),`a,2,?_};rw [Hv V.int (q:=f*n) (by rw [Ae,e];rfl)]
 .rintro I m ⟨_,rfl,rfl⟩ a P;let e:(d.map (f*·)).take (~~~d).length=d.map (f*·):=by rw [AI,show @d=(d.map (f*·)).length by rw [AI],Bh]
  rw [e];generalize hL:max @d (s+@g)=L;let J:=AM P (.lst (List.map V.int (d.map (f*·))));let A:upd m a (.lst (List.map V.int (d.map (f*·)))) a=some (HO.lst (List.map V.int (d.map (f*·)))):=upd_same;generalize upd m a (.lst (List.map V.int (d.map (f*·))))=R at J A ⊢;refine {1,Eb A,Cn,λb hb=>?_};let M:=AM hb (.lst [.int 0]);let e0:(((~~~g).length:Int)+(s:Int) - ((~~~d).length:Int))=(@g:Int)+(s:Int) - (@d:Int):=by rw [AI,AI]
  let X:((@g:Int)+(s:Int) - (@d:Int)).toNat=L - @d:=by omega
  refine {1,6,M _ _ (J _ _ O),8,1,6,M _ _ (J _ _ hp),3,9,1,congrArg V.int e0,upd_same,`a,`a,sz (by rw [X];simp;omega),λc hc=>?_};rw [X,Ig];let Y:=AM hc (.lst (List.replicate (L - @d) (V.int 0)));refine {5,Y _ _ (M _ _ A),upd_same,sz (by simp;omega),?_};rw [uO d f L `a];let Z:Same R (upd (upd R b (.lst [.int 0])) c (.lst (List.replicate (L - @d) (V.int 0)))):=M.trans Y;generalize upd (upd R b (.lst [.int 0])) c (.lst (List.replicate (L - @d) (V.int 0)))=S at Z ⊢;let sd:Same m (upd S a (.lst (A5 L λk=>f*co d k))):=λx o h=>Kp.upd x o (A3 h P) (Z x o (J x o h));let B:(upd S a (.lst (A5 L λk=>f*co d k))) a=_:=upd_same;generalize upd S a (.lst (A5 L λk=>f*co d k))=Hd at sd B ⊢;refine {4,{_,SqL.of (sd _ _ O)},ForJ.enumL (xs:=g.map V.int) (λj N C=>∃ x y:c_,N=[↥p,some (.int f),↥q,some (.int w),some (.int (s:Int)),↥a,x,y]/\Same m C/\C a^^^(A5 L λk=>f*co d k - (if s<=k/\k - s<j then w*co g (k - s) else 0))) {none,none,2,sd,?_} ?_ ?_ ?_}
  .rw [B];exact congrArg (λl=>some (HO.lst l)) (Hw λk _=>by rw [jD `a];omega)
  .rintro j N C _ ⟨_,_,_,D,_⟩;exact SqL.of (D _ _ O)
  .rintro j y pq N C F ⟨y3,y4,rfl,D,v⟩ T;rw [Ae] at F;cases em:g[j]? with
   | none=>rw [em] at F;cases F
   | some u=>
     rw [em] at F;obtain rfl:V.int u=y:=jL F;let jl:j<@g:=(A7.mp em).1;let ud:co g j=u:=by rw [Sa,AU,em];rfl
     let sq:=AM T (.tup [.int (j:Int),.int u]);let G:=sq _ _ v;let U:s+j<L:=by omega
     refine {6,upd_same,2,6,3,4,8,5,G,DQ `a (Di _ U),4,3,EM bw (bm u (BT em)),3,9,_,s+j,7,G,?_,6,λb o h=>Kp.upd b o (A3 h P) (sq b o (D b o h)),upd_same.trans (congrArg (λl=>some (HO.lst l)) ?_)}
     .rw [Dt];exact GE `a U
     .refine Gy U ?_ λk _ hk=>?_
      .rw [jE `a,jD `a,show s+j - s=j by omega,ud];omega
      .by_cases h:s<=k/\k - s<j
       .rw [jE h,jE `a]
       .rw [jD h,jD `a]
  .rintro N C ⟨y3,y4,rfl,D,v⟩;rw [AI,JC] at v;refine {1,6,v,λr hr=>k r _ _ (D.trans (AM hr _)) upd_same (MX _) λi=>?_};rw [MY,J8];unfold A9;by_cases z:i<L
   .rw [jE z];by_cases h:s<=i
    .rw [jE h];by_cases h2:i - s<@g
     .rw [jE ⟨h,h2⟩]
     .rw [jD `a,Ao (a:=g) `a];omega
    .rw [jD h,jD `a];omega
   .rw [jD z,Ao (a:=d) `a];by_cases h:s<=i
    .rw [jE h,Ao (a:=g) `a];omega
    .rw [jD h];omega
def uQ (a b:Int):(a.fdiv b).natAbs<=a.natAbs:=by
 rw [Int.fdiv_eq_ediv];split
 .rw [Int.sub_zero];exact Int.natAbs_ediv_le_natAbs a b
 .rename_i h;let d:b<0:=by omega
  let f:¬ b∣a:=λz=>h (.inr z);let e:=Int.mul_ediv_add_emod a b;let i:=Ca a (show b≠0 by omega);let j:=Int.emod_lt_of_neg a d;let rn:a % b≠0:=λz=>f (HI z);generalize a / b=q at *;generalize a % b=r at *;rcases Int.lt_or_le q 1 with g | g
  .let c:(-b)*(-q) ≥ 2*(-q):=Int.mul_le_mul_of_nonneg_right `a `a;rw [Int.neg_mul_neg] at c;omega
  .let c:(-b)*(q - 1) ≥ 1*(q - 1):=Int.mul_le_mul_of_nonneg_right `a `a;rw [Int.neg_mul,Int.mul_sub] at c;omega
def MZ {n m:Nat} {F:dq}:CH (A5 n F) none (some (m:Int))=((List.range (min m n)).map F).map V.int:=by
 unfold CH HT.sIx;simp only [List.drop_zero,Nat.sub_zero,EB];rw [jD `a,Dt];unfold A5;rw [<-List.map_take,<-List.map_take,List.take_range];congr 3;omega
def uR {n:Nat} {F:dq} (h:((List.range n).map F).any (λz=>!decide (z=0))=false):∀ k,k<n->F k=0:=by
 intro k hk;have:=List.any_eq_false.mp h (F k) (Au.mpr {k,D7.mpr hk,2});simpa using this
def Sb {n s:Nat} {F:dq} {w:Int} (a:s<n) (b:F s=0) (g:dq) (k:Nat) :
  cvL ((List.range n).map λj=>if j=s then w else F j) g k=cvL ((List.range n).map F) g k+w*A9 s g k:=by
 let e:∀ m,m<=n->cvL ((List.range m).map λj=>if j=s then w else F j) g k=cvL ((List.range m).map F) g k+(if s<m then w*A9 s g k else 0):=by
  intro m
  induction m with
  | zero=>intro _;rw [jD `a];rfl
  | succ m c=>
    intro d;rw [List.range_succ,B9,B9,List.map_singleton,List.map_singleton,Dr,Dr,c `a,AI,AI,BZ];by_cases e:m=s
    .subst e;rw [jE rfl,jD `a,jE `a,b];omega
    .rw [jD e];by_cases h:s<m
     .rw [jE h,jE `a];omega
     .rw [jD h,jD `a];omega
 rw [e n (AT n),jE a]
def D1 {b:Nat} {ns:d6} (h:∀ z∈ns,Bd b z) (k:Nat):Bd b (co ns k):=E2 h k
def Ki {n:Nat} {g:dq} (k:Nat):cvL ((List.range n).map λ_=>(0:Int)) g k=0:=by
 let e:((List.range n).map λ_=>(0:Int))=(List.replicate n (1:Int)).map (0*·):=by
  apply FC;intro i;rw [Ae,Ae];by_cases h:i<n
  .rw [Dk h,Fg,jE h];rfl
  .rw [B8 (by rw [BZ];omega),Fg,jD h];rfl
 rw [e,BO];omega
def Kj (ns:d6):List.map V.int ns=A5 @ns (co ns):=by
 rw [JC];congr 1;apply FC;intro i;rw [Ae];by_cases h:i<@ns
 .rw [Dk h,Ak h];show _=some (ns.getD i 0);rw [AU,Ak h];rfl
 .rw [B8 `a,B8 (by rw [BZ];omega)];rfl
def JD {a:d6} (h:0<@a):R_ (~~~a) (-1)=some (V.int (co a (@a - 1))):=by
 refine SQ (by rw [AI];omega) ?_;rw [AI,Ae,Ak `a];show _=some (V.int (a.getD (@a - 1) 0));rw [AU,Ak `a];rfl
def uS (h:Il K vs H Q E):yK K (eC Q) (L2.start ["row","divisor","rest","last","quotient","shift","weight","place"] vs) H:=by
 let {p,q,f,g,b,d,rfl,hp,hq,lm,bn,bm,bb,b3,hn,hm,kN,kR}:=h;let m0:=lm.1;let P:=lm.2;let {L,hL}:∃ L,@g=L+1:={@g - 1,`a};let R:@g - 1=L:=by omega
 rw [R] at P;generalize n:co g L=r at P;let aL:=JD m0;rw [R,n] at aL;generalize hc:@f - L=c;refine A8 (EK (AS rfl {6,hp,λa ha=>?_}));let sa:=AM ha (.lst (~~~f));let a9:=sa _ _ hp;let aa:=sa _ _ hq;let ab:((List.map V.int g).length:Int) - 1=(L:Int):=by rw [AI];omega
 refine {1,6,aa,3,?_};show QE K _ [↥p,↥q,↥a,some (.int (((List.map V.int g).length:Int) - 1)),none,none,none,none] _;rw [ab];refine A8 (Ax (FV (I_ {Cn,λx hx=>?_})));let sx:=AM hx (.lst [.int 0]);let ac:=sx _ _ a9
 let a1:(if (0:Int) > ((List.map V.int f).length:Int) - (L:Int) then (0:Int) else ((List.map V.int f).length:Int) - (L:Int))=(c:Int):=by
  rw [AI];split <;> omega
 refine {1,6,ac,8,6,?_};refine {_,(c:Int),1,congrArg V.int a1,upd_same,`a,`a,sz (by simp;omega),λy hy=>?_};refine Ln ha hx hy λH1 a2 a3 sH a4 af=>?_;rw [Kj f] at a2;rw [EB,Kg] at a3;let al:=sH _ _ hp;let am:((List.map V.int f).length:Int) - (L:Int) - 1=(@f:Int) - (L:Int) - 1:=by rw [AI]
 let an:((@f:Int) - (L:Int) - 1 - -1).toNat=c:=by omega
 refine Pt ?_;refine {1,6,al,8,3,4,(@f:Int) - (L:Int) - 1,_,by rw [<-am],{`a,`a,`b,`b},?_};rw [an]
 letI Iv:Nat->L2.St->Hp->Prop:=λi S D=>i<=c/\∃ (F G:dq) (u v w:c_),S=[↥p,↥q,↥a,some (.int (L:Int)),↥y,u,v,w]/\Same H D/\D a^^^(A5 @f F)/\D y^^^(A5 c G)/\
  (∀ j,j<c - i->G j=0)/\(∀ k,k<@f - i->F k=co f k - cvL ((List.range c).map G) (co g) k)/\(∀ k,@f - i<=k->co f k=cvL ((List.range c).map G) (co g) k)/\(∀ k,k<@f->Bd (b+i*(d+1)) (F k))
 refine ForJ.down Iv {Ah _,co f,λ_=>0,none,none,none,2,sH,a2,a3,λ_ _=>rfl,λk _=>by rw [Ki];omega,λk hk=>by rw [Ki,Ao `a],λk _=>(D1 bn k).mono `a} ?_ ?_
 .rintro i S D hi ⟨_,F,G,u,v,w,rfl,s2,I,U,hG,hF,J,bF⟩;let a5:=s2 _ _ hq;let ic:i<c:=hi;let ao:((@f:Int) - (L:Int) - 1 - (i:Int))=((c - 1 - i:Nat):Int):=by omega
  rw [ao];generalize hs:c - 1 - i=s;let b4:s+L=@f - 1 - i:=by omega
  let aT:R_ (A5 @f F) ((s:Int)+(L:Int))=some (V.int (F (s+L))):=DQ (j:=s+L) `a (Di F `a);refine {4,8,5,I,aT,4,5,a5,aL,3,P,?_};show QD K _ [↥p,↥q,↥a,some (.int (L:Int)),↥y,some (.int (s:Int)),some (.int ((F (s+L)).fdiv r)),w] D;generalize hw:(F (s+L)).fdiv r=m;let ar:=bF (s+L) `a;let W:Bd (b+i*(d+1)) m:=ar.le (by rw [<-hw];exact uQ _ _)
  let bi:b+i*(d+1)<=60000000:=by
   have:=CV (d+1) (show i<=@f by omega);omega
  let b6:b+(i+1)*(d+1)<=60000000:=by
   have:=CV (d+1) (show i+1<=@f by omega);omega
  let aw:Bd d r:=by rw [<-n];exact D1 bm L
  refine {4,1,5,a5,aL,3,EM W aw,4,8,5,I,aT,2,1,Aa (λY=>?_) (λY=>?_)}
  .refine kN (λ⟨A,hA⟩=>?_) _ s2;let M:m*r≠F (s+L):=by simpa using Y
   let hX:∀ k,cvL (BF A (((List.range c).map G).map ((-1)*·))) (co g) k=co f k - cvL ((List.range c).map G) (co g) k:=λk=>by rw [B4,BO,<-hA];omega
   let q:=(MW lm (X:=BF A (((List.range c).map G).map ((-1)*·))) (T:=s+1) (λk hk=>by rw [hX,J k `a];omega)).2 s rfl;rw [hX,R,n,<-hF (s+L) `a] at q;exact M (by rw [<-hw,q,Int.mul_fdiv_cancel _ P])
  let ex:m*r=F (s+L):=by simpa using Y
  refine {4,1,9,_,s,7,U,by rw [Dt];exact GE rfl `a,?_};show QC K _ [↥p,↥q,↥a,some (.int (L:Int)),↥y,some (.int (s:Int)),some (.int m),w] (upd D y (.lst ((A5 c G).set s (V.int m))));let b0:(A5 c G).set s (V.int m)=A5 c (λj=>if j=s then m else G j):=Gy `a (jE rfl) λj _ hj=>jD hj;rw [b0];let s3:Same H (upd D y (.lst (A5 c λj=>if j=s then m else G j))):=λz o h=>Kp.upd z o (A3 h af) (s2 z o h);let Z:(upd D y (.lst (A5 c λj=>if j=s then m else G j))) a=_:=(AX a4).trans I;let B:(upd D y (.lst (A5 c λj=>if j=s then m else G j))) y=_:=upd_same;generalize (upd D y (.lst (A5 c λj=>if j=s then m else G j)))=H3 at s3 Z B ⊢;let a6:∀ k,cvL ((List.range c).map λj=>if j=s then m else G j) (co g) k=cvL ((List.range c).map G) (co g) k+m*A9 s (co g) k:=λk=>Sb `a (hG s `a) _ k
  let a7:∀ (F':dq) (u v w:c_) (N:Hp),Same H N->N a^^^(A5 @f F')->N y^^^(A5 c λj=>if j=s then m else G j)->(∀ k,k<@f->F' k=F k - (if s<=k/\k - s<L then m*co g (k - s) else 0))->
    Iv (i+1) [↥p,↥q,↥a,some (.int (L:Int)),↥y,u,v,w] N:=λF' u v w N s4 C O eF=>by
   refine {`a,F',_,u,v,w,2,s4,C,O,λj hj=>?_,λk hk=>?_,λk hk=>?_,λk hk=>?_}
   .show (if j=s then m else G j)=0;rw [jD `a];exact hG j `a
   .rw [eF k `a,a6,hF k `a];unfold A9;by_cases h:s<=k
    .rw [jE h,jE {h,`a}];omega
    .rw [jD h,jD `a];omega
   .rw [a6];by_cases ek:k=s+L
    .let hf:=hF k `a;rw [ek] at hf ⊢;unfold A9;rw [jE `a,show s+L - s=L by omega,n,ex];omega
    .let h2:=J k `a;rw [h2];unfold A9;by_cases h:s<=k
     .rw [jE h,Ao (a:=g) `a];omega
     .rw [jD h];omega
   .rw [eF k hk];let e2:b+(i+1)*(d+1)=b+i*(d+1)+d+1:=by rw [Nat.add_mul];omega
    rw [e2];refine Bd.sub ((bF k hk).mono `a) ?_;split
    .exact W.mul (D1 bm _)
    .exact DF _
  refine {1,2,1,Aa (λcw=>?_) (λcw=>?_)}
  .refine {4,`a,`a,?_};rw [EB];refine ForR.by (λj S N=>∃ (u:c_),S=[↥p,↥q,↥a,some (.int (L:Int)),↥y,some (.int (s:Int)),some (.int m),u]/\Same H N/\N a^^^(A5 @f λk=>F k - (if s<=k/\k - s<j then m*co g (k - s) else 0))/\N y^^^(A5 c λj=>if j=s then m else G j)) {w,2,s3,?_,B} ?_ ?_
   .rw [Z];exact congrArg (λl=>some (HO.lst l)) (Hw λk _=>by rw [jD `a];omega)
   .rintro j S N hj ⟨u',rfl,s4,C,O⟩;let b1:=s4 _ _ hq;let aj:R_ (~~~g) (0+(j:Int))=some (V.int (co g j)):=DQ (j:=j) `a (by rw [Kj];exact Di _ `a);refine {4,8,5,C,DQ (j:=s+j) `a (Di _ `a),4,1,5,b1,aj,3,EM W (D1 bm j),3,9,_,s+j,7,C,by rw [Dt];exact GE `a `a,?_};refine {1,?_,?_,?_}
    .intro z o h;exact Kp.upd z o (A3 h ha) (s4 z o h)
    .refine upd_same.trans (congrArg (λl=>some (HO.lst l)) (Gy `a ?_ λk _ hk=>?_))
     .rw [jE `a,jD `a,show s+j - s=j by omega];omega
     .by_cases h:s<=k/\k - s<j
      .rw [jE h,jE `a]
      .rw [jD h,jD `a]
    .rw [AX (Ne.symm a4)];exact O
   .rintro S N ⟨u',rfl,s4,C,O⟩;exact a7 _ _ _ _ _ s4 C O λk _=>rfl
  .let w0:m=0:=by simpa using cw
   exact a7 F _ _ _ _ s3 Z B λk _=>by rw [w0];split <;> omega
 .rintro S D ⟨_,F,G,u,v,w,rfl,s2,I,U,hG,hF,J,bF⟩;refine {4,1,6,I,λz hz=>?_};let a0:=AM hz (.lst (((List.range (min L @f)).map F).map V.int));refine {z,(List.range (min L @f)).map F,2,by rw [MZ];exact upd_same,?_};rw [MZ];refine {1,Aa (λY=>?_) (λY=>?_)}
  .refine kN (λ⟨A,hA⟩=>?_) _ (s2.trans a0);let hX:∀ k,cvL (BF A (((List.range c).map G).map ((-1)*·))) (co g) k=co f k - cvL ((List.range c).map G) (co g) k:=λk=>by rw [B4,BO,<-hA];omega
   let q:=(MW lm (X:=BF A (((List.range c).map G).map ((-1)*·))) (T:=0) (λk hk=>by rw [hX,J k `a];omega)).1;let M:((List.range (min L @f)).map F).any (λz=>!decide (z=0))=true:=by simpa using Y
   let {z,b2,a8}:=List.any_eq_true.mp M;let {k,hk,rfl}:=Au.mp b2;let hk:=D7.mp hk;let e:=hX k;rw [CD,GA g (λj=>q j (Ah j)),<-hF k `a] at e;rw [<-e] at a8;simp at a8
  .let M:((List.range (min L @f)).map F).any (λz=>!decide (z=0))=false:=by simpa using Y
   let B:=a0 _ _ U;rw [JC] at B;refine AS rfl (kR y _ _ (s2.trans a0) B λk=>?_);by_cases hk:@f - c<=k
   .exact J k hk
   .have:=hF k `a;rw [uR M k `a] at this;omega
def Sc {K:W.Frag} {a:Addr} {capt:List (Option Nat)} {f:TE} {g:L2.St} {Q:VK} {H:Hp} {ns:d6} (F:Int->Int) (hp:H a^^^(~~~ns)) (r:@ns<=1000)
  (k:∀ n,n∈ns->∀ P:VK,P (.int (F n)) H->f ((Cy capt g).set 0 (some (.int n))) H P) (m:∀ p,H p=none->Q (.ref p) (upd H p (.lst ((ns.map F).map V.int)))):CompJ (ai K a) capt (AE 0) f g Q H:=by
 refine CompJ.lst (xs:=ns.map V.int) (λi d b=>i<=@ns/\b=H/\d=((ns.map F).take i).map V.int) {Ah _,7} ?_ ?_ ?_
 .rintro i d b ⟨j,rfl,rfl⟩;refine {by rw [AI];exact j,sz ?_,SqL.of hp};rw [AI,Br];omega
 .rintro i x d b c ⟨j,rfl,rfl⟩;rw [Ae] at c;cases e:ns[i]? with
  | none=>rw [e] at c;cases c
  | some n=>
    rw [e] at c;obtain rfl:V.int n=x:=jL c;let o:i<@ns:=(A7.mp e).1;show f ((Cy capt g).set 0 (some (.int n))) b _;refine k n (BT e) _ {`a,2,?_};rw [Hv V.int (q:=F n) (by rw [Ae,e];rfl)]
 .rintro d b ⟨_,rfl,rfl⟩ p h;let e:(ns.map F).take (~~~ns).length=ns.map F:=by rw [AI,show @ns=(ns.map F).length by rw [AI],Bh]
  rw [e];exact m p h
def uT (h:KJ K vs H Q E):QN K { nx:=λ_ a=>Q .non a,rt:=Q } (L2.start ["row","prime"] vs) H:=by
 let {p,e,m,rfl,hp,b,c,q}:=h;unfold QN;rwa [];refine {{_,SqL.of hp},Sc (·% m) hp c (λn _ P d=>?_) q};rwa [];exact ⟨b,d⟩
theorem JE {F:Int->Int} (a:F 0=0) (ns:d6) (k:Nat):co (ns.map F) k=F (co ns k):=by
 unfold co;rw [AU,AU,Ae];cases ns[k]? with
 | none=>exact a.symm
 | some z=>rfl
def Sd {ns:d6} {z:Int} (h:z∈DJ ns):z∈ns:=Fj h
def uU (ns:d6):(DJ ns).length<=@ns:=by rw [MP];exact MO _ _
def Hy (a m:Int):m∣a % m - a:={-(a / m),by have:=Int.emod_add_mul_ediv a m;rw [Int.mul_neg];omega}
def uV (h:Ho K vs H Q E):xE K (eC Q) (L2.start ["row","prime"] vs) H:=by
 let {p,c,m,rfl,hp,a,d,q}:=h;refine B7 (DS (Av {4,p,c,m,2,hp,a,d,λr e=>{r,1,upd_same,λt f=>?_}}));refine q t _ _ ((AM e _).trans (AM f _)) upd_same (MX _) (BK (uU _) (by rw [AI];exact AT _)) {λz g=>?_,λk=>?_}
 .let {y,_,rfl}:=Au.mp (Sd g);exact {Ca _ `a,Ci _ a}
 .rw [MY,JE (Int.zero_emod m)];exact Hy _ _
def uW (h:KI K vs H Q E):xD K (eC Q) (L2.start ["whole","prime","one","other","one_weight","other_weight","quotient","rest"] vs) H:=by
 let {a,p,rfl,p2,I,q}:=h;refine {4,8,show 0<p by omega,?_};show QM K _ [_,_,_,_,_,_,_,_] _;let J:=Ca a (show p≠0 by omega);let L:=Ci a (show 0<p by omega)
 refine Dh (λn m d=>∃ (x y s t:Int) (u v:c_),m=[some (.int a),some (.int p),some (.int x),some (.int y),some (.int s),some (.int t),u,v]/\d=H/\n=y.toNat/\0<=y/\y<x/\x<=p/\
  Int.gcd x y=Int.gcd a p/\p∣x - s*a/\p∣y - t*a/\(t.natAbs:Int)*x+(s.natAbs:Int)*y<=p/\(s.natAbs:Int)<=p) (a % p).toNat ⟨p,a % p,0,1,none,none,rfl,rfl,rfl,J,L,Int.le_refl _,?_,⟨1,`a⟩,?_,by simp,by simp;omega⟩ ?_
 .rw [Jj a `a]
 .rw [show a % p - 1*a=a % p - a by omega];exact Hy a p
 .rintro n m d ⟨x,y,s,t,u,v,rfl,rfl,rfl,e,yx,xp,f,o,r,hb,M⟩;let tx:(t.natAbs:Int)*1<=(t.natAbs:Int)*x:=ED `a `a;let sy:0<=(s.natAbs:Int)*y:=Int.mul_nonneg `a e;let N:(t.natAbs:Int)<=p:=by omega
  refine {1,2,1,Aa (λc=>?_) (λc=>?_)}
  .let w:0<y:=by
    have:y≠0:=by simpa using c
    omega
   let q0:=Int.ediv_nonneg (show 0<=x by omega) e;let q1:x / y<=x:=Int.ediv_le_self y `a;let r0:=Ca x (show y≠0 by omega);let r1:=Ci x w;let g:x - x / y*y=x % y:=by have:=Int.emod_add_mul_ediv x y;rw [CK] at this;omega
   let B:∀ {z:Int},z.natAbs<=p.natAbs->Bd 60000000 z:=λh=>(I.le h).mono `b;refine {λO P=>∃ R,R<y.toNat/\_,λ_ _ h=>h,?_};refine {4,3,w,4,8,EM (B `a) (B `a),3,4,4,8,EM (B `a) (B `a),3,4,?_};refine {(x - x / y*y).toNat,`a,9,5,2,`a,`a,`a,?_,r,?_,?_,N}
   .rw [g,Jj x e];exact f
   .let {b,i}:=o;let {A,S}:=r
    exact {b - x / y*A,by
     generalize x / y=j at *;let k:x=s*a+p*b:=by omega
     let C:y=t*a+p*A:=by omega
     rw [k,C];ext}
   .let T:((s - x / y*t).natAbs:Int)<=(s.natAbs:Int)+x / y*(t.natAbs:Int):=by
     let U:=Int.natAbs_sub_le s (x / y*t);rw [Bp] at U;let W:((x / y).natAbs:Int)=x / y:=by omega
     let h3:(((x / y).natAbs*t.natAbs:Nat):Int)=x / y*(t.natAbs:Int):=by rw [Int.natCast_mul,W]
     omega
    let n2:=Int.mul_le_mul_of_nonneg_right T e;rw [g];let X:(t.natAbs:Int)*(x % y)=(t.natAbs:Int)*x - (t.natAbs:Int)*(x / y*y):=by rw [<-g,Int.mul_sub]
    rw [X];generalize (t.natAbs:Int)=D at *;generalize (s.natAbs:Int)=F at *;generalize x / y=j at *;let n4:(F+j*D)*y=F*y+D*(j*y):=by ext
    omega
  .let Y:y=0:=by simpa using c
   refine {4,3,show 0<p by omega,q _ (Ca _ `a) (Ci _ `a) λZ=>?_}
   let x1:x=1:=by
    rw [Y] at f;rw [Int.gcd_zero_right,Z] at f;omega
   let {b,i}:=o;let {G,a2}:=Hy s p;refine {G*a - b,?_};let k:s % p=s+p*G:=by omega
   rw [k];let C:s*a=1 - p*b:=by omega
   ext
def uX (h:Hr K vs H Q E):QO K { nx:=λ_ w=>Q .non w,rt:=Q } (L2.start ["row","prime","factor"] vs) H:=by
 let {q,a,p,rfl,g,o,u,x,A,b,k}:=h;let C:(2:Int)<=(p:Int):=by have:=o.two;omega
 unfold QO;rwa [g];by_cases d:a=[]
 .subst d;refine Aa (λ_=>?_) (λc=>absurd rfl c);refine {sz `b,λr j=>k r [] 0 _ (AM j _) upd_same rfl (λz=>absurd rfl z) {λz b=>(by cases b),λi=>?_}};show (p:Int)∣co [] i - 0*co [] i;rw [Ao (Ah _)];exact {0,`a}
 let D:0<@a:=CN.mpr d;refine Aa (λc=>absurd c (by simpa using d)) (λ_=>?_);let G:=JD D;rwa [G];refine {C,u,λf I J m=>?_}
 let L:co a (@a - 1)≠0:=by
  rcases A with h | h
  .exact absurd h d
  .exact h
 let O:0<=co a (@a - 1)/\co a (@a - 1)<(p:Int):=b _ (by
  unfold co;rw [AU,Ak `a];exact Cu _)
 let M:Int.gcd (co a (@a - 1)) (p:Int)=1:=o.cop λz=>by
  have:=C9 `a z;omega
 let m:=m M;let B:∀ {z:Int},0<=z->z<(p:Int)->Bd 60000000 z:=λR S=>(u.le `a).mono `b;refine {{_,SqL.of g},Sc (λn=>n*f % (p:Int)) g x (λn d P N=>?_) λr j=>?_}
 .rwa [];exact {EM (B (b n d).1 (b n d).2) (B I J),`a,N}
 .let v:∀ i,co (a.map λn=>n*f % (p:Int)) i=co a i*f % (p:Int):=λi=>JE (F:=λn=>n*f % (p:Int)) (by simp) a i;refine k r _ f _ (AM j _) upd_same (AI ..) (λ_=>?_) {λz b=>?_,λi=>?_}
  .rw [AI,v];let {c,T}:=m;let e:co a (@a - 1)*f=1+(p:Int)*c:=by rw [CK];omega
   rw [e,Int.add_mul_emod_self_left];exact Int.emod_eq_of_lt `b `a
  .let {y,_,rfl}:=Au.mp b;exact {Ca _ `a,Ci _ `a}
  .rw [v];show (p:Int)∣co a i*f % (p:Int) - f*co a i;rw [CK f];exact Hy _ _
def uY (h:KN K vs H Q E):QU K { nx:=λ_ d=>Q .non d,rt:=Q } (L2.start ["whole","prime","rest"] vs) H:=by
 let {w,p,rfl,a,k}:=h;unfold QU;rwa [];let g:=Ca w (show p≠0 by omega);let i:=Ci w a;let b:=Hy w p;refine {a,IntMulOk.of_left (intBits_le_64 `a `a),Aa (λc=>?_) (λc=>?_)}
 .refine k _ ?_ `a;let {e,f}:=b;exact {e - 1,by rw [Int.mul_sub];omega}
 .exact k _ b `a
def uZ (h:KL K vs H Q E):xK K (eC Q) (L2.start ["row","divisor","modulus"] vs) H:=by
 let {p,q,d,e,m,b,rfl,hp,f,g,i,j,n,c,o,u,v,k}:=h;exact B7 (Ax (Co {4,1,p,q,d,e,m,b,2,hp,f,g,i,j,n,c,o,u,v,λt r s w x a y z D A F tr B C _=>{5,z,2,k s w x a y A tr B C}}))
def tE (h:KM K vs H Q E):QT K { nx:=λ_ P=>Q .non P,rt:=Q } (L2.start ["row","other","prime","rest"] vs) H:=by
 let {a,b,ns,ms,p,rfl,ha,hb,pp,Y,hn,hm,h0,k}:=h;let p2:(2:Int)<=(p:Int):=by have:=pp.two;omega
 unfold QT;rwa [ha];refine {ns,2,`a,hn,λc r1 H1 s1 hc a2 l1 w=>?_};refine {r1,p,2,hc,pp,Y,`a,a2,w.1,λd n f H2 s2 hd l2 o2 R=>?_};let a3:=s2 _ _ (s1 _ _ hb);rwa [a3];refine {ms,2,`a,hm,λc' r3 H3 s3 a4 a5 l3 L=>?_};refine {r3,p,2,a4,pp,Y,`a,a5,L.1,λd' r4 f' H4 s4 a6 l4 o4 S=>?_};let a7:Same H H4:=((s1.trans s2).trans s3).trans s4;let a8:=(s3.trans s4) _ _ hd
 let I:∀ {g h:dq} {q:d6} {f:Int},Dm (p:Int) g h->Md (p:Int) q (λk=>f*h k)->Dm (p:Int) g (co q):=λ{g h q f} d v=>by
  refine Dm.congr (Dm.less d d f 0 0) λk=>?_;have:=v.2 k;show (p:Int)∣co q k - (f*h k - 0*_);rw [Int.zero_mul,Int.sub_zero];exact this
 let nz:∀ {i q M:d6} {f:Int},(∃ k,¬ (p:Int)∣co i k)->Md (p:Int) q (co i)->@M=@q->0<@M:=λ{i q M f} ⟨k,hk⟩ v e=>by
  rcases El @M with z | z
  .exfalso;have:=v.2 k;rw [Ao `a] at this;let t2:=Int.dvd_neg.mpr this;rw [show ∀ x:Int,-(0 - x)=x by intro x;omega] at t2;exact hk t2
  .exact z
 let M1:∀ {i q:d6},Md (p:Int) q (co i)->∀ {g:dq},Dm (p:Int) g (co i)->Dm (p:Int) g (co q):=λv g d=>Dm.congr d v.2
 let J:∀ {g:dq} {r n:d6} {f:Int},Md (p:Int) n (λk=>f*co r k)->@n=@r->(r≠[]->co n (@n - 1)=1)->Dm (p:Int) g (co n)->Dm (p:Int) g (co r):=λ{g r n f} v l o d=>by
  by_cases r0:r=[]
  .exact Dm.zero _ _ λk=>by rw [r0,Ao (Ah _)];exact DA _
  .refine Dm.congr (Dm.less d d (co r (@r - 1)) 0 0) λk=>?_;show (p:Int)∣co r k - (co r (@r - 1)*co n k - 0*_);rw [Int.zero_mul,Int.sub_zero];let X:=v.2 k;let T:=v.2 (@n - 1);rw [o r0,l] at T;let q1:(p:Int)∣co r (@r - 1)*(co n k - f*co r k):=Fl X;let q2:(p:Int)∣co r k*(1 - f*co r (@r - 1)):=Fl T;refine BE (Int.dvd_sub q2 q1) (FY ?_);ext
 let O:∀ {g:dq} {i r n:d6} {f:Int},Md (p:Int) r (co i)->Md (p:Int) n (λk=>f*co r k)->@n=@r->(r≠[]->co n (@n - 1)=1)->Dm (p:Int) g (co n)->Dm (p:Int) g (co i):=λ{g i r n f} w v l o d=>Dm.congr (J v l o d) λk=>by
  have:=Int.dvd_neg.mpr (w.2 k);refine BE this (FY ?_);omega
 refine Dh (λm σ P=>∃ (x y:Addr) (i j:d6) (u:c_),σ=[↥x,↥y,some (.int (p:Int)),u]/\Same H P/\P x^^^(~~~i)/\P y^^^(~~~j)/\m=@j/\@i<=1000/\@j<=1000/\(0<@i\/0<@j)/\(i≠[]->co i (@i - 1)=1)/\(j≠[]->co j (@j - 1)=1)/\(∀ z∈i,0<=z/\z<(p:Int))/\(∀ z∈j,0<=z/\z<(p:Int))/\
  (∀ g:dq,Dm (p:Int) g (co ns)->Dm (p:Int) g (co ms)->Dm (p:Int) g (co i)/\Dm (p:Int) g (co j))/\(∀ g:dq,Dm (p:Int) g (co i)->Dm (p:Int) g (co j)->Dm (p:Int) g (co ns)/\Dm (p:Int) g (co ms))) @r4 {d,d',n,r4,none,2,a7,a8,a6,2,`a,`a,?_,?_,?_,R.1,S.1,λg C F=>{I (M1 w C) R,I (M1 L F) S},λg C F=>{O w R l2 o2 C,O L S l4 o4 F}} ?_
 .rcases h0 with h | h
  .exact .inl (nz (f:=f) h w l2)
  .exact .inr (nz (f:=f) h L l4)
 .intro z;exact o2 λe=>z (CU.mp (by rw [l2,e];rfl))
 .intro z;exact o4 λe=>z (CU.mp (by rw [l4,e];rfl))
 .rintro m σ P ⟨x,y,i,j,u,rfl,sH,hx,hy,rfl,xl,yl,ne,ox,oy,bx,bY,hD,hE⟩;rwa [hy];by_cases N:j=[]
  .subst N;refine Aa (λc=>absurd c (by simp)) (λ_=>?_);let x0:0<@i:=by simpa using ne
   let Z:Dm (p:Int) (co i) (co i):={[1],λk=>by
    let e:cvL [1] (co i) k=co i k:=by
     cases k with
     | zero=>rw [BA];omega
     | succ k=>rw [As,BN];omega
    rw [e,Int.sub_self];exact DA _}
   let zz:Dm (p:Int) (co i) (co []):=Dm.zero _ _ λk=>by rw [Ao (Ah _)];exact DA _
   exact k x i P sH hx x0 xl (ox (CN.mp x0)) bx (λg C F=>(hD g C F).1) (hE _ Z zz).1 (hE _ Z zz).2
  .let y0:0<@j:=CN.mpr N;refine Aa (λ_=>?_) (λc=>absurd N (by simpa using c));refine {λab ac=>∃ m',m'<@j/\_,λ_ _ h=>h,?_};rwa [hx,hy];let B:∀ z:Int,0<=z->z<(p:Int)->Bd 45000 z:=λz X T=>Y.le `a;refine {i,2,j,2,y0,oy N,`a,45000,Y,λz hz=>B z (bY z hz).1 (bY z hz).2,`b,xl,yl,λs G q H2 a0 hs a9 af v=>?_}
   let U:∀ g:dq,Dm (p:Int) g (co j)->Dm (p:Int) g (co q)->Dm (p:Int) g (co i):=λg C F=>by
    let {S1,X}:=C;let {D,T}:=F;refine {BF D (Bm G S1),λk=>?_};rw [B4,CC];let e1:=bK X G k;let m2:(p:Int)∣co q k - (co i k - cvL G (co j) k):=v.2 k;have:=C7 (Int.dvd_sub (T k) m2) e1;refine BE this (FY ?_);omega
   refine {q,p,2,hs,pp,Y,`a,a9,v.1,λt ts f H3 a1 ht lt ot W=>?_};refine {@ts,`a,(sH.trans a0).trans a1,j,(a0.trans a1) _ _ hy,ts,ht,2,yl,`a,.inl y0,oy,λz=>ot λe=>z (CU.mp (by rw [lt,e];rfl)),bY,W.1,λg C F=>{(hD g C F).2,?_},λg C F=>hE g (U g C (J W lt ot F)) C};let {dx,dy}:=hD g C F
   let dr:Dm (p:Int) g (co q):=by
    let {S1,X}:=dx;let {D,T}:=dy;refine Dm.congr (f:=λk=>co i k - cvL G (co j) k) {BF S1 ((Bm G D).map (-1*·)),λk=>?_} v.2;rw [B4,BO,CC]
    let e:(p:Int)∣cvL G (co j) k - cvL G (cvL D g) k:=by
     let aa:∀ (A:d6) (k:Nat),(p:Int)∣cvL A (co j) k - cvL A (cvL D g) k:=by
      intro A
      induction A with
      | nil=>intro k;rw [BN,BN];exact {0,`a}
      | cons a A ih=>
        intro k;rw [F7,F7]
        let i2:(p:Int)∣Dq (cvL A (co j)) k - Dq (cvL A (cvL D g)) k:=by
         cases k with
         | zero=>exact {0,by show (0:Int) - 0=_;omega}
         | succ k=>exact ih k
        let i1:(p:Int)∣a*(co j k - cvL D g k):=Fl (T k);have:=C7 i1 i2;rw [show a*(co j k - cvL D g k)+(Dq (cvL A (co j)) k - Dq (cvL A (cvL D g)) k)=a*co j k+Dq (cvL A (co j)) k - (a*cvL D g k+Dq (cvL A (cvL D g)) k) by rw [Int.mul_sub];omega] at this;exact this
     exact aa G k
    have:=Int.dvd_sub (X k) e;rw [show co i k - cvL S1 g k - (cvL G (co j) k - cvL G (cvL D g) k)=co i k - cvL G (co j) k - (cvL S1 g k + -1*cvL G (cvL D g) k) by omega] at this;exact this
   exact I dr W
def tF (h:KK K vs H Q E):xJ K (eC Q) (L2.start ["row","divisor","modulus","rest","last","quotient","shift","weight","place"] vs) H:=by
 let {p,q,d,g,m,b,rfl,hp,hq,m0,ml,mp,bm,a2,bb,hn,hm,kR}:=h;let {L,hL}:∃ L,@g=L+1:={@g - 1,`a};let a3:@g - 1=L:=by omega
 rw [a3] at ml;generalize hc:@d - L=c;refine A8 (EK (AS rfl {6,hp,λa ha=>?_}));let sa:=AM ha (.lst (~~~d));let a4:=sa _ _ hp;let a5:=sa _ _ hq;let a6:((List.map V.int g).length:Int) - 1=(L:Int):=by rw [AI];omega
 refine {1,6,a5,3,?_};show QS K _ [↥p,↥q,some (.int m),↥a,some (.int (((List.map V.int g).length:Int) - 1)),none,none,none,none] _;rw [a6];refine A8 (Ax (FV (I_ {Cn,λx hx=>?_})));let a7:=AM hx (.lst [.int 0]) _ _ a4
 let T:(if (0:Int) > ((List.map V.int d).length:Int) - (L:Int) then (0:Int) else ((List.map V.int d).length:Int) - (L:Int))=(c:Int):=by
  rw [AI];split <;> omega
 refine {1,6,a7,8,6,?_};refine {_,(c:Int),1,congrArg V.int T,upd_same,`a,`a,sz (by simp;omega),λy hy=>?_};refine Ln ha hx hy λH1 U W sH X a8=>?_;rw [Kj d] at U;rw [EB,Kg] at W;let a9:=sH _ _ hp;let aa:((List.map V.int d).length:Int) - (L:Int) - 1=(@d:Int) - (L:Int) - 1:=by rw [AI]
 let ab:((@d:Int) - (L:Int) - 1 - -1).toNat=c:=by omega
 refine Pt ?_;refine {1,6,a9,8,3,4,(@d:Int) - (L:Int) - 1,_,by rw [<-aa],{`a,`a,`b,`b},?_};rw [ab]
 letI Iv:Nat->L2.St->Hp->Prop:=λi O n=>i<=c/\∃ (F G:dq) (u v w:c_),O=[↥p,↥q,some (.int m),↥a,some (.int (L:Int)),↥y,u,v,w]/\Same H n/\n a^^^(A5 @d F)/\n y^^^(A5 c G)/\
  (∀ j,j<c - i->G j=0)/\(∀ k,k<@d - i->m∣F k - (co d k - cvL ((List.range c).map G) (co g) k))/\(∀ k,@d - i<=k->m∣co d k - cvL ((List.range c).map G) (co g) k)/\(∀ j,j<c->0<=G j/\G j<m)
 refine ForJ.down Iv {Ah _,co d,λ_=>0,none,none,none,2,sH,U,W,λ_ _=>rfl,λk _=>by rw [Ki];exact {0,`a},λk hk=>by rw [Ki,Ao `a];exact {0,`a},λk _=>{Int.le_refl 0,mp}} ?_ ?_
 .rintro i O n hi ⟨_,F,G,u,v,w,rfl,s2,I,J,hG,hF,P,bG⟩;let ao:=s2 _ _ hq;let ic:i<c:=hi;let ac:((@d:Int) - (L:Int) - 1 - (i:Int))=((c - 1 - i:Nat):Int):=by omega
  rw [ac];generalize hs:c - 1 - i=s;let ar:s+L=@d - 1 - i:=by omega
  let aT:R_ (A5 @d F) ((s:Int)+(L:Int))=some (V.int (F (s+L))):=DQ (j:=s+L) `a (Di F `a);refine {4,8,5,I,aT,8,mp,?_};show QQ K _ [↥p,↥q,some (.int m),↥a,some (.int (L:Int)),↥y,some (.int (s:Int)),some (.int (F (s+L) % m)),w] n;let w0:=Ca (F (s+L)) (show m≠0 by omega);let w1:=Ci (F (s+L)) mp;let wd:=Hy (F (s+L)) m;generalize hw:F (s+L) % m=f at w0 w1 wd ⊢;let af:Bd b f:=bm.le `a;refine {4,1,9,_,s,7,J,by rw [Dt];exact GE rfl `a,?_};show QP K _ [↥p,↥q,some (.int m),↥a,some (.int (L:Int)),↥y,some (.int (s:Int)),some (.int f),w] (upd n y (.lst ((A5 c G).set s (V.int f))));rw [show (A5 c G).set s (V.int f)=A5 c (λj=>if j=s then f else G j) from Gy `a (jE rfl) λj _ R=>jD R];let s3:Same H (upd n y (.lst (A5 c λj=>if j=s then f else G j))):=λz o h=>Kp.upd z o (A3 h a8) (s2 z o h);let A:(upd n y (.lst (A5 c λj=>if j=s then f else G j))) a=_:=(AX X).trans I;let S:(upd n y (.lst (A5 c λj=>if j=s then f else G j))) y=_:=upd_same;generalize (upd n y (.lst (A5 c λj=>if j=s then f else G j)))=H3 at s3 A S ⊢;let Y:∀ k,cvL ((List.range c).map λj=>if j=s then f else G j) (co g) k=cvL ((List.range c).map G) (co g) k+f*A9 s (co g) k:=λk=>Sb `a (hG s `a) _ k
  let Z:∀ (F':dq) (u v w:c_) (C:Hp),Same H C->C a^^^(A5 @d F')->C y^^^(A5 c λj=>if j=s then f else G j)->(∀ k,k<@d->F' k=F k - (if s<=k/\k - s<L then f*co g (k - s) else 0))->
    Iv (i+1) [↥p,↥q,some (.int m),↥a,some (.int (L:Int)),↥y,u,v,w] C:=λF' u v w C M B D eF=>by
   refine {`a,F',_,u,v,w,2,M,B,D,λj R=>?_,λk hk=>?_,λk hk=>?_,λj R=>?_}
   .show (if j=s then f else G j)=0;rw [jD `a];exact hG j `a
   .let hf:=hF k `a;rw [eF k `a,Y];unfold A9;by_cases h:s<=k
    .rw [jE h,jE {h,`a}];rw [show ∀ x y z w:Int,x - y - (z - (w+y))=x - (z - w) by intro x y z w;omega];exact hf
    .rw [jD h,jD `a];rw [show ∀ x z w:Int,x - 0 - (z - (w+f*0))=x - (z - w) by intro x z w;omega];exact hf
   .rw [Y];by_cases ek:k=s+L
    .let hf:=hF k `a;rw [ek] at hf ⊢;unfold A9;rw [jE `a,show s+L - s=L by omega,ml];let {α,aw}:=hf;let {β,b0}:=wd;exact {-α - β,by rw [Int.mul_sub,Int.mul_neg];omega}
    .let N:=P k `a;unfold A9;by_cases h:s<=k
     .rw [jE h,Ao (a:=g) `a,EC,Int.add_zero];exact N
     .rw [jD h,EC,Int.add_zero];exact N
   .show 0<=(if j=s then f else G j)/\(if j=s then f else G j)<m;split
    .exact ⟨w0,w1⟩
    .exact bG j R
  refine {1,2,1,Aa (λcw=>?_) (λcw=>?_)}
  .refine {4,`a,`a,?_};rw [EB];refine ForR.by (λj O C=>∃ (u:c_),O=[↥p,↥q,some (.int m),↥a,some (.int (L:Int)),↥y,some (.int (s:Int)),some (.int f),u]/\Same H C/\C a^^^(A5 @d λk=>F k - (if s<=k/\k - s<j then f*co g (k - s) else 0))/\C y^^^(A5 c λj=>if j=s then f else G j)) {w,2,s3,?_,S} ?_ ?_
   .rw [A];exact congrArg (λl=>some (HO.lst l)) (Hw λk _=>by rw [jD `a];omega)
   .rintro j O C R ⟨u',rfl,M,B,D⟩;let al:=M _ _ hq;let aj:R_ (~~~g) (0+(j:Int))=some (V.int (co g j)):=DQ (j:=j) `a (by rw [Kj];exact Di _ `a);refine {4,8,5,B,DQ (j:=s+j) `a (Di _ `a),4,1,5,al,aj,3,EM af (D1 a2 j),3,9,_,s+j,7,B,by rw [Dt];exact GE `a `a,?_};refine {1,?_,?_,?_}
    .intro z o h;exact Kp.upd z o (A3 h ha) (M z o h)
    .refine upd_same.trans (congrArg (λl=>some (HO.lst l)) (Gy `a ?_ λk _ hk=>?_))
     .rw [jE `a,jD `a,show s+j - s=j by omega];omega
     .by_cases h:s<=k/\k - s<j
      .rw [jE h,jE `a]
      .rw [jD h,jD `a]
    .rw [AX (Ne.symm X)];exact D
   .rintro O C ⟨u',rfl,M,B,D⟩;exact Z _ _ _ _ _ M B D λk _=>rfl
  .let am:f=0:=by simpa using cw
   exact Z F _ _ _ _ s3 A S λk _=>by rw [am];split <;> omega
 .rintro O n ⟨_,F,G,u,v,w,rfl,s2,I,J,hG,hF,P,bG⟩;rw [JC] at J;show QR K _ _ _;refine B7 (Be (DS {1,6,J,λt ht=>?_}));let st:=AM ht (.lst (List.map V.int (DJ (List.map G (List.range c)))));let A:=st _ _ I;let a0:upd n t (.lst (List.map V.int (DJ (List.map G (List.range c))))) t=_:=upd_same;generalize upd n t (.lst (List.map V.int (DJ (List.map G (List.range c)))))=H3 at st A a0 ⊢;refine Av {4,1,6,A,λz hz=>{1,z,(List.range (min L @d)).map F,m,2,by rw [MZ];exact upd_same,mp,by rw [AI,BZ];omega,λr rs C M an tr lr md=>?_}};let a1:=(AM hz _).trans M;rw [AI,BZ] at lr;refine {BJ,λe he=>?_};let se:=AM he (.tup [.ref t,.ref r])
  let cq:∀ k,cvL (DJ ((List.range c).map G)) (co g) k=cvL ((List.range c).map G) (co g) k:=λk=>by
   rw [CD,BR (λj=>MY _ j) g k,<-CD]
  refine kR e t r _ rs _ ((s2.trans st).trans (a1.trans se)) upd_same (se _ _ (a1 _ _ a0)) (se _ _ an) (MX _) tr `a {md.1,λk=>?_} λz hz=>?_
  .have:=md.2 k;rw [J8] at this;show m∣co rs k - (co d k - cvL (DJ ((List.range c).map G)) (co g) k);rw [cq];by_cases hk:k<min L @d
   .rw [jE hk] at this;let N:=C7 this (hF k `a);rw [show ∀ x y z:Int,x - y+(y - z)=x - z by intro x y z;omega] at N;exact N
   .rw [jD hk] at this;let N:=Int.dvd_sub this (P k `a);rw [show ∀ x y:Int,x - 0 - y=x - y by intro x y;omega] at N;exact N
  .let {j,R,rfl}:=Au.mp (Sd hz);exact bG j (D7.mp R)
theorem SDs.tp {H a:Hp} (s:Same H a):∀ {xs:cZ} {b:List (d6)},SDs H xs b->SDs a xs b
 | [],[],_=>trivial
 | _::_,_::_,h=>{let ⟨p,e,q⟩:=h.1;⟨p,e,s _ _ q⟩,SDs.tp s h.2}
 | [],_::_,h=>h.elim
 | _::_,[],h=>h.elim
def SD.tp {H a:Hp} (s:Same H a) {p:Addr} {b:List (d6)} (h:SD H p b):SD a p b:=let ⟨c,e,q⟩:=h;⟨c,s _ _ e,q.tp s⟩
theorem SDs.length {H:Hp}:∀ {xs:cZ} {a:List (d6)},SDs H xs a->@xs=@a
 | [],[],_=>rfl
 | _::_,_::_,h=>congrArg (·+1) (SDs.length h.2)
 | [],_::_,h=>h.elim
 | _::_,[],h=>h.elim
theorem SDs.get {H:Hp}:∀ {xs:cZ} {a:List (d6)} {i:Nat} {v:V},SDs H xs a->xs[i]?=some v->∃ p r,v=.ref p/\a[i]?=some r/\H p^^^(~~~r)
 | [],[],_,_,_,e=>by simp at e
 | _::_,r::_,0,_,h,e=>by
   simp at e;subst e;let {p,e,q}:=h.1;exact ⟨p,r,e,rfl,q⟩
 | _::_,_::_,i+1,_,h,e=>by
   let {p,r,b,c,d}:=SDs.get (i:=i) h.2 (by simpa using e);exact {p,r,b,by simpa using c,d}
 | [],_::_,_,_,h,_=>h.elim
 | _::_,[],_,_,h,_=>h.elim
theorem SDs.snoc {H:Hp} {p:Addr} {r:d6} (hp:H p^^^(~~~r)):∀ {xs:cZ} {a:List (d6)},SDs H xs a->SDs H (xs++[.ref p]) (a++[r])
 | [],[],_=>{⟨p,rfl,hp⟩,trivial}
 | _::_,_::_,h=>{h.1,SDs.snoc hp h.2}
 | [],_::_,h=>h.elim
 | _::_,[],h=>h.elim
theorem SD.head {H:Hp} {p:Addr} {r:d6} {c:List (d6)} (h:SD H p (r::c)):∃ a b,H p^^^(.ref a::b)/\H a^^^(~~~r)/\SDs H (.ref a::b) (r::c):=by
 let {b,e,q}:=h
 match b,q with
 | [],q=>exact q.elim
 | x::b,q=>
   let {a,d,f}:=q.1;subst d;exact ⟨a,b,e,f,q⟩
def Hz {a:Type} (x:a) (xs:List a):R_ (x::xs) 0=some x:=by
 unfold R_ ap;rw [jE `b,jE (by rw [Cj];omega)];rfl
def tG (h:Im K vs H Q E):QJ K { nx:=λ_ A=>Q .non A,rt:=Q } (L2.start ["strand","shared","row"] vs) H:=by
 let {p,b,rfl,{I,hp,P},hl,D,k}:=h;let lx:=@P;unfold QJ;rwa [];refine {{_,SqL.of hp},ForL.by (xs:=I) (λi J A=>∃ (g:Int) (u:c_),J=[↥p,some (.int g),u]/\Same H A/\0<=g/\(∀ r∈b.take i,∀ z∈r,g∣z)/\(∀ d:Int,(∀ r∈b.take i,∀ z∈r,d∣z)->d∣g)) {0,none,2,Same.refl H,Int.le_refl 0,λr D=>(by simp at D),λd _=>DA d} ?_ ?_ ?_}
 .rintro i J A _ ⟨g,u,rfl,s,_⟩;exact SqL.of (s _ _ hp)
 .rintro i x J A R ⟨g,u,rfl,s,g0,B,L⟩;let {a,r,rfl,j,S}:=P.get R;let v:=s _ _ S;let w:=D r (BT j);rwa [v];refine {r,2,w.1,λg' C n T d1 d2 d3=>?_};let F:b.take (i+1)=b.take i++[r]:=by rw [EU,j];rfl
  refine {s.trans n,T,λU o z m=>?_,λd M=>d3 d ?_ λz m=>?_}
  .rw [F] at o;rcases C5.mp o with h | h
   .exact BE d1 (B U h z m)
   .rw [BM.mp h] at m;exact d2 z m
  .exact L d λU o z m=>M U (by rw [F];exact Ei _ o) z m
  .exact M r (by rw [F];exact Ch _ (BM.mpr rfl)) z m
 .rintro J A ⟨g,u,rfl,s,g0,B,L⟩;rw [lx,Bh] at B L;let W:=s _ _ hp
  let gz:∀ r∈b,0<g\/r=[]:=λr f=>by
   rcases Int.lt_or_le 0 g with h | h
   .exact .inl h
   .right;let G:g=0:=by omega
    rcases (D r f).2 with h | h
    .exact h
    .exfalso;by_cases a0:@r=0
     .rw [Ao `a] at h;exact h rfl
     .have:=B r f (co r (@r - 1)) (by
       unfold co;rw [AU,Ak `a];exact Cu _)
      rw [G] at this;exact h (Int.zero_dvd.mp this)
  rwa [];refine {{_,SqL.of W},CompJ.lst (xs:=I) (λi y C=>i<=@b/\Same H C/\SDs C y ((b.take i).map λr=>r.map (·/ g))) {Ah _,s,trivial} ?_ ?_ ?_}
  .rintro i y C ⟨X,n,q⟩;refine {`a,sz ?_,SqL.of (n _ _ hp)};rw [@q,AI,Br];omega
  .rintro i x y C R ⟨X,n,q⟩;let {a,r,rfl,j,S}:=P.get R;let v:=n _ _ S;let w:=D r (BT j);let a1:i<@b:=(A7.mp j).1;rwa [v];refine {r,2,gz r (BT j),w.1,λt N=>?_};refine {`a,n.trans (AM N _),?_};let F:(b.take (i+1)).map (λr=>r.map (·/ g))=(b.take i).map (λr=>r.map (·/ g))++[r.map (·/ g)]:=by rw [EU,j];simp
   rw [F];exact SDs.snoc upd_same (q.tp (AM N _))
  .rintro y C ⟨_,n,q⟩ t N;rw [lx,Bh] at q;let O:=AM N (.lst y);by_cases gp:0<g
   .refine k t _ _ (n.trans O) {y,upd_same,q.tp O} {g,gp,?_} (.inr λd M=>?_)
    .rw [DW]
     conv=>lhs;rw [<-List.map_id b]
     refine FE λr f=>?_;show r=(r.map (·/ g)).map (g*·);rw [DW]
     conv=>lhs;rw [<-List.map_id r]
     refine FE λz m=>?_;show z=g*(z / g);rw [FG (B r f z m)]
    .let Y:d*g∣g:=L (d*g) λr f z m=>by
      let X:=M (r.map (·/ g)) (Au.mpr ⟨r,f,rfl⟩) (z / g) (Au.mpr ⟨z,m,rfl⟩);let {c,Z}:=X;refine {c,?_};have:=FG (B r f z m);rw [<-this,Z];ext
     let {c,Z}:=Y
     let e:g*(d*c)=g*1:=by rw [Int.mul_one];conv=>rhs;rw [Z]
                           ext
     let e1:=Int.eq_of_mul_eq_mul_left `a e;have:d.natAbs*c.natAbs=1:=by rw [<-Bp,e1];rfl
     exact Nat.eq_one_of_mul_eq_one_right this
   .let G:∀ r∈b,r=[]:=λr f=>by
     rcases gz r f with h | h
     .exact absurd h gp
     .exact h
    let em:b.map (λr=>r.map (·/ g))=b:=by
     conv=>rhs;rw [<-List.map_id b]
     refine FE λr f=>?_;rw [G r f];rfl
    rw [em] at q;refine k t b _ (n.trans O) {y,upd_same,q.tp O} ⟨1,`b,?_⟩ (.inl G)
    conv=>lhs;rw [<-List.map_id b]
    refine FE λr f=>?_;rw [G r f];rfl
def tH {r:d6} (h:∀ d:Int,(∀ z∈r,d∣z)->d.natAbs=1):Prim r:=λc a=>h c λz b=>by
 let {i,e,rfl}:=ET b;have:=a i;unfold co at this;rw [AU,Ak e] at this;exact this
theorem tI (h:Hn K vs H Q E):QK K { nx:=λ_ j=>Q .non j,rt:=Q } (L2.start ["row"] vs) H:=by
 let {p,u,rfl,hp,x,y,k}:=h;unfold QK;rwa [];refine {sz `b,λa A=>?_};let v:=AM A (.lst [.ref p]);refine {[u],{[V.ref p],upd_same,{{p,2,v _ _ hp},trivial}},by simp,?_,λt c j B e m n=>?_}
 .intro r o;rw [BM.mp o];exact ⟨x,y⟩
 let {g,C,f}:=m
 match c,f,e,n with
 | [q],f,e,n=>
   let {b,I,D,F,_}:=e.head;let i:u=q.map (g*·):=by simpa using f
   refine {_,D,_,Hz _ _,k b q g j (v.trans B) F C i ?_};rcases n with h | h
   .left;rw [i,h q (BM.mpr rfl)];rfl
   .right;exact tH λd G=>h d λr o z w=>by rw [BM.mp o] at w;exact G z w
 | [],f,_,_=>simp at f
 | _::_::_,f,_,_=>simp at f
def Se {a b:d6} (c:Tz a) (n:Nat) (h:∀ k,n<=k->co a k=0):@a<=n:=by
 rcases BY n @a with z | z
 .rcases c with e | e
  .rw [e] at z;simp at z
  .exact absurd (h _ `a) e
 .exact z
def JF {n:Nat} {a:d6} (h:∀ k,Bd n (co a k)):∀ z∈a,Bd n z:=λz b=>by
 let {i,c,rfl}:=ET b;have:=h i;unfold co at this;rw [AU,Ak c] at this;exact this
def G8 (g:Int) (a:d6) (k:Nat):co (a.map (g*·)) k=g*co a k:=JE (F:=(g*·)) `a a k
def Ma {g:Int} (b:g≠0) {a:d6} (h:Tz (a.map (g*·))):Tz a:=by
 rcases h with h | h
 .left;exact List.map_eq_nil_iff.mp h
 .right;rw [G8,AI] at h;exact λz=>h (by rw [z];omega)
def Mb {n:Nat} {g:Int} (c:0<g) {a:d6} (h:∀ z∈a.map (g*·),Bd n z):∀ z∈a,Bd n z:=λz b=>(h (g*z) (Au.mpr ⟨z,b,rfl⟩)).le (by
 rw [Bp];exact GO _ `a)
def Sf {a b:Int} (c:b≠0) (h:a∣b):a.natAbs<=b.natAbs:=C9 `a (Cd.mpr h)
def tJ (h:KH K vs H Q E):QH K (eC Q) (L2.start ["strand","other","shift","top","lead","shared","factor","weight"] vs) H:=by
 let {p,q,o,rfl,j,w,J,k}:=h;let {m,x,hp,f,_}:=j.head;let {u,y,z,i,_}:=w.head;let A:R_ (V.ref m::x) 0=some (V.ref m):=Hz _ _;let B:R_ (V.ref u::y) 0=some (V.ref u):=Hz _ _;unfold QH;refine Dh (λn v d=>v=[↥p,↥q,none,none,none,none,none,none]/\d=H/\n=0) 0 ⟨rfl,rfl,rfl⟩ ?_;rintro n v d ⟨rfl,rfl,rfl⟩;refine {1,5,hp,A,6,f,1,5,z,B,6,i,3,1,Aa (λc=>by let c:=jG c;rw [AI,AI] at c;have:([]:d6).length=0:=rfl;exfalso;omega) (λ_=>?_)};show QG K _ _ _;refine {1,p,[[]],2,j,`b,(λr C=>by rw [BM.mp C];exact {`b,.inl rfl}),λt a D F b G _=>k t D F ?_};let {g,_,e}:=G;let I:@a=1:=by have:=congrArg List.length e;simpa using this.symm
 let {r,rfl}:∃ r,a=[r]:=List.length_eq_one_iff.mp I;let e:[]=r.map (g*·):=List.head_eq_of_cons_eq e;rw [List.map_eq_nil_iff.mp e.symm] at b;exact b
def Du {a:d6} (h:Tz a) (b:a≠[]):Lz a:=by
 refine {CN.mpr b,?_};rcases h with e | e
 .exact absurd e b
 .exact e
def tK (h:Io K vs H Q E):QL K (eC Q) (L2.start ["strand","other","rest"] vs) H:=by
 let {p,q,s,o,rfl,m,e,em,k}:=h;unfold QL;refine Dh (λn g b=>(g=[↥p,↥q,none]/\b=H/\n=1)\/∃ (t:Addr) (u:c_),g=[↥q,↥t,u]/\Same H b/\SD b t [[]]/\o≠[]/\n=0) 1 (.inl ⟨rfl,rfl,rfl⟩) ?_;rintro n g b (⟨rfl,rfl,rfl⟩ | ⟨t,u,rfl,r,i,x,rfl⟩)
 .let {v,y,w,d,_}:=e.head;let f:R_ (V.ref v::y) 0=some (V.ref v):=Hz _ _;refine {1,5,w,f,6,d,?_};by_cases a:o=[]
  .refine Aa (λc=>absurd a (by simpa using c)) (λ_=>?_);rw [jE a] at k;exact {1,k p _ (Same.refl _) m}
  .refine Aa (λ_=>?_) (λc=>absurd (by simpa using c) a)
   let A:s=[]:=by
    rcases em with z | z
    .exact z
    .exact absurd z a
   rw [jD a] at k;refine {λB C=>∃ D,D<1/\_,λ_ _ h=>h,?_};refine E3 (show Ap _ _ _ _ from {1,5,w,f,6,d,2,1,Aa (λ_=>{1,k q _ (Same.refl _) e}) (λ_=>?_)});delta BV;refine A8 (Av {4,p,q,o,2,by rw [<-A];exact m,e,CN.mpr a,λt J F i=>?_});exact {4,0,`b,.inr {t,1,F,i,a,2}}
 .let {at',G,I,j,_}:=i.head;let f:R_ (V.ref at'::G) 0=some (V.ref at'):=Hz _ _;refine {1,5,I,f,6,j,Aa (λc=>absurd c (by simp)) (λ_=>?_)};rw [jD x] at k;exact {1,k q _ r (e.tp r)}
def tL {b n c:Nat} {r a g:d6} (o:∀ z∈r,Bd b z) (f:@r<=n) (p:n<2 ^ c) (i:Lz g) (h:∀ k,co r k=cvL a (co g) k):∀ k,Bd (b+n*(2*c+4)) (co a k):=by
 rcases EJ a with z | ⟨d,e,_,j⟩
 .intro k;rw [z k];exact DF _
 let m:∀ k,co r k=cvL g (co d) k:=λk=>by rw [h k,CD,BR (λk=>(j k).symm) g k]
 let t:co r (@d - 1+(@g - 1))≠0:=by rw [m,CD,JB e i];exact CA e.2 i.2
 let q:@d<=@r:=by
  rcases BY (@d - 1+(@g - 1)) @r with c | c
  .have:=e.1;omega
  .exact absurd (Ao c) t
 intro k;rw [<-j k];exact JA o {_,t} f (BK q f) p m k
def tM {G S:d6} (a:Lz G) (h:∀ k,cvL S (co G) k=0) (k:Nat):co S k=0:=(MW a (T:=0) λk _=>h k).1 k (Ah k)
def Gen.Prim {r o:dq} {g:d6} (G:Gen r o g):Prim g:=λc a=>by
 rcases BY c.natAbs 2 with h | h
 .rcases El c.natAbs with z | z
  .exfalso;let b:c=0:=by omega
   have:=a (@g - 1);rw [b] at this;exact G.lz.2 (Int.zero_dvd.mp this)
  .omega
 .exfalso;let {n,d,_}:=G.prim h;exact d (Int.natAbs_dvd.mpr (a n))
def tO {R O A B G:d6} (a:Lz G) (b:∀ k,co R k=cvL A (co G) k) (c:∀ k,co O k=cvL B (co G) k) (q:QI (co R) (co O) (co G)):QI (co A) (co B) Ay:=by
 let {d,f,U,V,h}:=q;refine {d,f,U,V,λk=>?_}
 let z:=tM (S:=BF (BF (Bm U A) (Bm V B)) [-d]) a (λk=>by
  rw [B4,B4,CC,CC,<-BR b,<-BR c];have:=h k
  let e:cvL [-d] (co G) k = -d*co G k:=by
   cases k with
   | zero=>rw [BA];omega
   | succ k=>rw [As,BN];omega
  rw [e,Int.neg_mul,this];omega) k
 rw [DI,B4,B4,CC,CC,<-BR (DI A),<-BR (DI B)] at z
 let e:cvL [-d] Ay k = -d*Ay k:=by
  cases k with
  | zero=>rw [BA];omega
  | succ k=>rw [As,BN];omega
 rw [e,Int.neg_mul] at z;omega
def tP (p:Nat) (e:0<p) (S:d6):(∀ k,(p:Int)∣co S k)\/∃ T,Lz T/\(∀ k,(p:Int)∣co S k - co T k)/\¬ (p:Int)∣co T (@T - 1):=by
 let a:∀ k,co (S.map (·% (p:Int))) k=co S k % (p:Int):=λk=>JE (F:=(·% (p:Int))) (Int.zero_emod _) S k;rcases EJ (S.map (·% (p:Int))) with z | ⟨T,b,_,c⟩
 .exact .inl λk=>HI (by rw [<-a k];exact z k)
 .refine .inr {T,b,λk=>?_,λh=>?_}
  .rw [c,a];exact {co S k / p,by have:=Int.emod_add_mul_ediv (co S k) p;omega}
  .let d:=c (@T - 1);rw [a] at d;let f:=Ca (co S (@T - 1)) (show (p:Int)≠0 by omega);let g:=Ci (co S (@T - 1)) (show (0:Int)<p by omega);have:=b.2;let l:=Int.le_of_dvd `a h;omega
def cvT {p:Int} {S T:d6} {g:dq} {n:Nat} (a:∀ i,n<=i->g i=0) (h:∀ k,p∣co S k - co T k) (k:Nat):p∣cvL S g k - cvL T g k:=by
 let e:∀ k,g k=co ((List.range n).map g) k:=λk=>by
  rw [J8];split
  .rfl
  .exact a k `a
 rw [BR e,BR e,CD,CD T]
 have:=bK (S:=[1]) (f:=co S) (g:=co T) (λk=>by
  let d:cvL [1] (co T) k=co T k:=by
   cases k with
   | zero=>rw [BA];omega
   | succ k=>rw [As,BN];omega
  rw [d];exact h k) ((List.range n).map g) k
 rwa [BR (b:=cvL [1] (co T)) (c:=co T) (λk=>by
  cases k with
  | zero=>rw [BA];omega
  | succ k=>rw [As,BN];omega)] at this
def Sg {p:Nat} (hp:Pr p) {R A G a T:d6} (b:∀ k,co R k=cvL A (co G) k) (m:Lz G) (c:¬ (p:Int)∣co G (@G - 1)) (f:∀ k,(p:Int)∣co a k - cvL T (co G) k) (d:Dm (p:Int) (co a) (co R)):Dm (p:Int) (co T) (co A):=by
 let {X,g}:=d;refine {X,λk=>?_}
 let z:=J7 hp c (λi n=>by rw [Ao `a];exact DA _) (BF A ((Bm X T).map ((-1)*·))) (λk _=>by
  rw [B4,BO,CC,<-b];let h:=g k;let j:=bK f X k;have:=C7 h j;refine BE this (FY ?_);omega)
 let e:co A k - cvL X (co T) k=co (BF A ((Bm X T).map ((-1)*·))) k:=by
  rw [DI (BF A _),B4,BO,CC,<-DI,<-BR (DI T)];omega
 rw [e];exact SO z k
def tQ {x e c M p N:Nat} (b:x<2 ^ (c+1)) (d:N<=M) (a:2 ^ ((e+c+2)*M)<p):(2*(x*2 ^ e)) ^ N<p:=by
 let f:2*(x*2 ^ e)<=2 ^ (e+c+2):=by
  have:x*2 ^ e<=2 ^ (c+1)*2 ^ e:=CV _ (EN b);let g:2 ^ (e+c+2)=2*(2 ^ (c+1)*2 ^ e):=by rw [<-Nat.pow_add,show e+c+2=(c+1+e)+1 by omega,CJ];omega
  omega
 refine Ek ?_ a;rw [Nat.pow_mul];exact BK (Nat.pow_le_pow_left f N) (EQ (Nat.pow_pos `b) d)
theorem Si (g:dq):∀ k,cvL [1] g k=g k
 | 0=>by rw [BA];omega
 | k+1=>by rw [As,BN];omega
def tR {ns r b gs G:d6} {p c e N:Nat} {d:Int} (hp:Pr p) (ln:Lz ns) (lm:Lz r) (fn:Fi e ns) (fm:Fi e r) (hc:@ns+@r<2 ^ (c+1)) (hN:@ns+@r<=N+2) (n2:2<=N) (U:2 ^ ((e+c+2)*N)<p)
  (F:((Int.gcd (co ns (@ns - 1)) (co r (@r - 1)):Nat):Int)=d) (W:Gen (co ns) (co r) G) (r0:0<@b) (one:co b (@b - 1)=1) (a9:@G<=@b) (pG:¬ (p:Int)∣co G (@G - 1)) (dG:Dm (p:Int) (co G) (co b)) (dn:Dm (p:Int) (co b) (co ns)) (dm:Dm (p:Int) (co b) (co r))
  (gl:@gs=@b) (hg:∀ k,k<@b->(p:Int)∣co gs k - d*co b k) (hb:∀ z∈gs,2*z.natAbs<=p):MQ (co gs) (co ns)/\MQ (co gs) (co r):=by
 let p2:=hp.two;let P:=W.Prim;let w:=W.lz;let {A,I}:=U_ P W.rc.left;let {B,O}:=U_ P W.rc.right;let X:=fn G A (λk=>by rw [I k,CD]);let bB:=fm G B (λk=>by rw [O k,CD]);let bG:=fn A G I;let a5:=fn [1] ns (λk=>(Si _ k).symm);let a6:=tO w I O W.qi;let {S,hS}:=dG;let p0:0<p:=by omega
 let C:¬ (p:Int)∣(1:Int):=λz=>by have:=Int.le_of_dvd `b z;omega
 rcases tP p p0 S with z | ⟨T,lT,hT,pT⟩
 .exfalso;let m:=hS (@b - 1);let o:=cvT (p:=(p:Int)) (S:=S) (T:=[]) (g:=co G) (n:=@G) (λi J=>Ao J) (λk=>by rw [Ao (a:=[]) (Ah _),Int.sub_zero];exact z k) (@b - 1);rw [one] at m;rw [BN,Int.sub_zero] at o;have:=C7 m o;rw [Int.sub_add_cancel] at this;exact C this
 let u:∀ k,(p:Int)∣co b k - cvL T (co G) k:=λk=>by
  have:=C7 (hS k) (cvT (λi J=>Ao J) hT k (g:=co G) (n:=@G));refine BE this (FY ?_);omega
 let t0:=lT.1;let g0:=w.1
 let tl:@T+@G=@b+1:=by
  let tp:=JB lT w
  let np:¬ (p:Int)∣co T (@T - 1)*co G (@G - 1):=λz=>by
   rcases hp.mulI z with q | q
   .exact pT q
   .exact pG q
  let m:=u (@T - 1+(@G - 1));rw [tp] at m
  let c1:@T - 1+(@G - 1)<@b:=by
   rcases BY (@T - 1+(@G - 1)) @b with c | c
   .exact c
   .exfalso;rw [Ao c,Int.zero_sub] at m;exact np (Int.dvd_neg.mp m)
  let o:=u (@b - 1);rw [one] at o;rcases BY (@T - 1+(@G - 1)) (@b - 1) with c | c
  .exfalso;rw [Ef (n:=@G) (λi J=>Ao J) T _ `a,Int.sub_zero] at o;exact C o
  .omega
 let Y:=Sg hp I w pG u dn;let Z:=Sg hp O w pG u dm
 let f:∀ {R A:d6},Lz R->(∀ k,co R k=cvL A (co G) k)->(∀ k,Bd e (co A k))->∃ j,Lz j/\@j<=@R/\co j=co A:=λ{R A} lR h _=>by
  rcases EJ A with z | ⟨j,D,_,ea⟩
  .exact absurd (by rw [h,CD,GA G z]) lR.2
  .refine {j,D,?_,funext ea}
   let t:co R (@j - 1+(@G - 1))≠0:=by
    rw [h,CD,BR (λk=>(ea k).symm) G,<-CD,JB D w];exact CA D.2 w.2
   rcases BY (@j - 1+(@G - 1)) @R with c | c
   .have:=D.1;omega
   .exact absurd (Ao c) t
 let {j,lA,An,eA}:=f ln I X;let {B',lB,Bn,eB}:=f lm O bB
 let aa:2 ^ e<p:=Ek (EQ `b (by
  have:(e+c+2)*1<=(e+c+2)*N:=Em _ `a;omega)) U
 let T1:@T=1:=by
  rcases BY @T 2 with cT | cT
  .omega
  .exfalso
   let v:∀ {A:d6},Lz A->(∀ k,Bd e (co A k))->Dm (p:Int) (co T) (co A)->2<=@A:=λ{A} lA X dA=>by
    have:=Dm.len hp t0 pT dA {@A - 1,λz=>by
     let m:=X (@A - 1);let o:=Cd.mpr z;let h3:=C9 (by have:=lA.2;omega) o;rw [C8] at h3;have:(co A (@A - 1)).natAbs<2 ^ e:=m;omega}
    omega
   let a2:=v lA (λk=>by rw [eA];exact X k) (by rw [eA];exact Y);let b2:=v lB (λk=>by rw [eB];exact bB k) (by rw [eB];exact Z);refine ca hp lA lB (by rw [eA,eB];exact a6) (λk=>by rw [eA];exact X k) (λk=>by rw [eB];exact bB k) a2 b2 cT pT (by rw [eA];exact Y) (by rw [eB];exact Z) (tQ (x:=@j+@B') (c:=c) (M:=N) `a `a U)
 let {s,rfl}:∃ s,T=[s]:=by
  match T,T1 with
  | [s],_=>exact ⟨s,rfl⟩
 let a1:∀ k,(p:Int)∣co b k - s*co G k:=λk=>by
  have:=u k
  let e1:cvL [s] (co G) k=s*co G k:=by
   cases k with
   | zero=>rw [BA];omega
   | succ k=>rw [As,BN];omega
  rwa [e1] at this
 let lr:@G=@b:=by simp at tl;omega
 let a3:∀ {R A:d6},(∀ k,co R k=cvL A (co G) k)->Lz R->co G (@G - 1)∣co R (@R - 1):=λ{R A} h lR=>by
  rcases EJ A with z | ⟨j,D,_,ea⟩
  .exact absurd (by rw [h,CD,GA G z]) lR.2
  .let hh:∀ k,co R k=cvL j (co G) k:=λk=>by rw [h,CD,BR (λk=>(ea k).symm) G,<-CD]
   let tp:=JB D w;let a0:=D.1
   let rl:@R - 1=@j - 1+(@G - 1):=by
    rcases Nat.lt_trichotomy (@R - 1) (@j - 1+(@G - 1)) with c | c | c
    .exfalso;have:=hh (@j - 1+(@G - 1));rw [Ao (by have:=lR.1;omega),tp] at this;exact CA D.2 w.2 this.symm
    .exact c
    .exfalso;have:=hh (@R - 1);rw [Ef (n:=@G) (λi J=>Ao J) j _ `a] at this;exact lR.2 this
   rw [rl,hh,tp];exact Eo _ _
 let {t,ht}:co G (@G - 1)∣d:=by rw [<-F];exact Int.dvd_coe_gcd (a3 I ln) (a3 O lm)
 let L:d≠0:=λz=>by
  rw [<-F] at z;have:Int.gcd (co ns (@ns - 1)) (co r (@r - 1))=0:=by omega
  exact ln.2 (Int.gcd_eq_zero_iff.mp this).1
 let a7:t≠0:=λz=>L (by rw [ht,z,EC])
 let bt:t.natAbs<2 ^ e:=by
  let m:d∣co ns (@ns - 1):=by rw [<-F];exact ER ..
  let o:=BE (show t∣d from {co G (@G - 1),by rw [ht,CK]}) m;let h3:=C9 (by have:=ln.2;omega) (Cd.mpr o);let h4:(co ns (@ns - 1)).natAbs<2 ^ e:=a5 _;omega
 let a8:∀ k,co gs k=t*co G k:=λk=>by
  rcases BY k @b with ck | ck
  .let m:=hg k ck;let o:=a1 k;let h3:=a1 (@b - 1);rw [one,<-lr] at h3
   let dv:(p:Int)∣co gs k - t*co G k:=by
    let q1:(p:Int)∣d*(co b k - s*co G k):=Fl o;let q2:(p:Int)∣(t*co G k)*(1 - s*co G (@G - 1)):=Fl h3;have:=Int.dvd_sub (C7 m q1) q2;refine BE this (FY ?_);rw [ht];ext
   let b1:2*(co gs k).natAbs<=p:=by
    have:co gs k∈gs:=by
     unfold co;rw [AU,Ak `a];exact Cu _
    exact hb _ this
   let b2:2*(t*co G k).natAbs<p:=by
    rw [Bp];let h5:t.natAbs*(co G k).natAbs<=2 ^ e*2 ^ e:=DB (EN bt) (EN (bG k))
    let h6:2*(2 ^ e*2 ^ e)<=2 ^ ((e+c+2)*N):=by
     rw [<-Nat.pow_add,show 2*2 ^ (e+e)=2 ^ (e+e+1) by rw [CJ];omega];refine EQ `b ?_;have:(e+c+2)*2<=(e+c+2)*N:=Em _ `a;omega
    omega
   let {y,hy}:=dv;let ab:(co gs k - t*co G k).natAbs<p:=by omega
   rcases Int.lt_trichotomy y 0 with z | z | z
   .have:(p:Int)*y<=(p:Int)*(-1):=ED `a `a;omega
   .rw [z] at hy;omega
   .have:(p:Int)*1<=(p:Int)*y:=ED `a `a;omega
  .rw [Ao `a,Ao (a:=G) `a];omega
 let a4:∀ {R A:d6},(∀ k,co R k=cvL A (co G) k)->MQ (co gs) (co R):=λ{R A} h=>{t,a7,A,λk=>by rw [BR a8,DP,h k]};exact {a4 I,a4 O}
def Sj {g f:d6} {A:d6} (h:∀ k,co f k=cvL A (co g) k):MQ (co g) (co f):=⟨1,`b,A,λk=>by rw [<-h k];omega⟩
def tS (h:KO K vs H Q E):QV K { nx:=λ_ M=>Q .non M,rt:=Q } (L2.start ["row","other","prime","lead","found","guess"] vs) H:=by
 let {a,b,o,v,p,d,O,W,NN,rfl,ha,hb,N,bp,P,lm,bn,bm,dn,dm,fn,fm,nc,hN,a6,kN,kR}:=h;let p2:(2:Int)<=(p:Int):=by have:=N.two;omega
 unfold QV;let an:=JD P.1;let am:=JD lm.1;rwa [ha,hb,an,am];generalize I:((Int.gcd (co o (@o - 1)) (co v (@v - 1)):Nat):Int)=j;let X:j∣co o (@o - 1):=by rw [<-I];exact ER ..
 let bl:Bd d j:=(D1 bn (@o - 1)).le (Sf P.2 X);refine {`a,Aa (λc=>?_) (λc=>?_)}
 .refine kN (λw=>?_) _ (Same.refl H);let al:j.natAbs<2 ^ O:=(fn [1] o (λk=>(Si _ k).symm) (@o - 1)).le (Sf P.2 X);let z:=HI (show j % (p:Int)=0 by simpa using c)
  let l0:j≠0:=λz=>by
   rw [<-I] at z;have:Int.gcd (co o (@o - 1)) (co v (@v - 1))=0:=by omega
   exact P.2 (Int.gcd_eq_zero_iff.mp this).1
  let h3:=C9 `a (Cd.mpr z);rw [C8] at h3
  have:2 ^ O<=2 ^ ((O+W+2)*NN):=by
   refine EQ `b ?_;have:(O+W+2)*1<=(O+W+2)*NN:=Em _ `a;omega
  let w:2 ^ ((O+W+2)*NN)<p:=w;omega
 let pl:¬ (p:Int)∣j:=λz=>c (by rw [Int.emod_eq_zero_of_dvd z])
 let Y:¬ (p:Int)∣co o (@o - 1)\/¬ (p:Int)∣co v (@v - 1):=by
  by_cases Z:(p:Int)∣co o (@o - 1)
  .right;intro h2;exact pl (by rw [<-I];exact Int.dvd_coe_gcd Z h2)
  .exact .inl Z
 refine {o,v,p,7,2,N,bp,`a,`a,?_,λs J H1 s1 hs r0 rl one br hD a7 a8=>?_}
 .rcases Y with h | h
  .exact .inl {_,h}
  .exact .inr {_,h}
 refine {{_,SqL.of hs},CompJ.lst (xs:=J.map V.int) (λi ys M=>i<=@J/\M=H1/\∃ m:d6,ys=m.map V.int/\@m=i/\(∀ k,k<i->(p:Int)∣co m k - j*co J k)/\∀ z∈m,Bd 45000 z/\2*z.natAbs<=p) {Ah _,2,[],7,λk hk=>absurd hk `a,λz R=>nomatch R} ?_ ?_ ?_}
 .rintro i ys M ⟨Z,rfl,m,rfl,gl,_⟩;exact {by rw [AI];exact Z,sz (by rw [AI];omega),SqL.of hs}
 .rintro i x ys M hi ⟨Z,rfl,m,rfl,gl,hg,w⟩;rw [Ae] at hi;cases e:J[i]? with
  | none=>rw [e] at hi;cases hi
  | some n=>
    rw [e] at hi;obtain rfl:V.int n=x:=jL hi;let ao:i<@J:=(A7.mp e).1;let ar:=br n (BT e);let cn:co J i=n:=by unfold co;rw [AU,e];rfl
    rwa [];refine {EM bl (bp.le (x:=(p:Int)) (y:=n) `a),`a,λr a9 S=>{`a,m++[r],by simp,by simp;omega,λk hk=>?_,λz R=>?_}}
    .by_cases ek:k=i
     .subst ek;have:co (m++[r]) k=r:=by unfold co;rw [AU,<-gl];simp
      rw [this,cn];exact a9
     .have:co (m++[r]) k=co m k:=by unfold co;rw [AU,AU,HH `a]
      rw [this];exact hg k `a
    .rcases C5.mp R with z1 | z1
     .exact w z z1
     .rw [BM.mp z1];exact {bp.le `a,by rw [C8] at S;exact S}
 .rintro ys M ⟨_,rfl,m,rfl,gl,hg,w⟩ t ht;rw [AI] at gl hg;let st:=AM ht (.lst (~~~m));let a0:upd M t (.lst (~~~m)) t=_:=upd_same;generalize upd M t (.lst (~~~m))=H2 at st a0 ⊢;let a1:0<@m:=by omega
  let B:co m (@m - 1)≠0:=λz=>by
   have:=hg (@m - 1) `a;rw [z,show @m - 1=@J - 1 by omega,one] at this;exact pl (by let t2:=Int.dvd_neg.mpr this;rw [show -(0 - j*1)=j by omega] at t2;exact t2)
  rwa [a0];refine {m,2,`a,.inr B,λu q g H3 s3 hu g0 eg hp=>?_}
  let Pg:Prim q:=by
   rcases hp with h | h
   .rw [h] at a1;simp at a1
   .exact h
  let a2:@q=@m:=by rw [eg,AI]
  let T:Lz q:=Du (Ma (AR g0) (by rw [<-eg];exact .inr B)) (λz=>by rw [z] at a2;simp at a2;omega);let a3:∀ z∈q,Bd 45000 z:=Mb g0 (by rw [<-eg];exact λz R=>(w z R).1);let C:Same H H3:=(s1.trans st).trans s3;let aa:=C _ _ ha;let ab:=C _ _ hb;let {G,L}:=zL P (QI.left (co o) (co v));let mn:=L.mq _ o (AT _) (QI.left _ _);let mm:=L.mq _ v (AT _) (QI.right _ _)
  let D:¬ (p:Int)∣co G (@G - 1):=by
   rcases Y with h | h
   .exact L.lead N P mn h
   .exact L.lead N lm mm h
  let dG:=hD (co G) (L.dm N mn) (L.dm N mm)
  let a4:@G<=@J:=Dm.len N L.lz.1 D dG {@J - 1,by
   rw [one];intro z;have:=Int.le_of_dvd `b z;omega}
  let F:P4 O W NN p->(∃ A:d6,∀ k,co o k=cvL A (co q) k)/\∃ A:d6,∀ k,co v k=cvL A (co q) k:=λac=>by
   let {q1,q2}:=tR N P lm fn fm nc hN a6 ac I L r0 one a4 D dG a7 a8 gl hg (λz R=>(w z R).2);let sc:∀ k,co m k=g*co q k:=λk=>by rw [eg,G8]
   let mg:MQ (co q) (co m):=⟨1,`b,[g],λk=>by
    let e:cvL [g] (co q) k=g*co q k:=by
     cases k with
     | zero=>rw [BA];omega
     | succ k=>rw [As,BN];omega
    rw [e,sc];omega⟩
   exact {U_ Pg (mg.trans q1),U_ Pg (mg.trans q2)}
  rwa [aa,hu];refine {o,2,q,2,T,d,bn,45000,a3,`a,`b,`a,`a,λno=>kN (λw=>no (F w).1) |> λf H4 U=>f H4 (C.trans U),λr qs H4 U hr hq=>?_};let af:=U _ _ ab;let a5:=U _ _ hu;rwa [af,a5];refine {v,2,q,2,T,d,bm,45000,a3,`a,`b,`a,`a,λno=>kN (λw=>no (F w).2) |> λf H5 s5=>f H5 ((C.trans U).trans s5),λr2 aw H5 s5 S aj=>?_};exact kR u q H5 ((C.trans U).trans s5) (s5 _ _ a5) (zO L.rc T (Sj hq) (Sj aj) `a) Pg
noncomputable def exps:List Nat:=[61,127,521,1279,4423,9941,21701,44497]
def tT (K:W.Frag):Prop:=∀ H:Hp,SqT K H (Gk K) (exps.map λe:Nat=>V.int (e:Int))
def tU:∀ e∈exps,Pr (mers e)/\e<=44497:=by
 intro e a;let h:e=61\/e=127\/e=521\/e=1279\/e=4423\/e=9941\/e=21701\/e=44497:=by simpa [exps] using a
 rcases h with h | h | h | h | h | h | h | h <;> rw [h]
 .exact {zD,`b}
 .exact {zE,`b}
 .exact {zF,`b}
 .exact {zG,`b}
 .exact {zH,`b}
 .exact {zI,`b}
 .exact {zJ,`b}
 .exact {zK,`b}
def tV (e:Nat):(2:Int) ^ (e:Int).toNat - 1=((mers e:Nat):Int):=by
 unfold mers;have:=Nat.one_le_two_pow (n:=e);rw [Int.natCast_sub this,EB,Int.natCast_pow];rfl
def tW {e:Nat} (h:e<=44497):Bd 45000 ((mers e:Nat):Int):=by
 unfold Bd mers;rw [C8];let a:=Nat.one_le_two_pow (n:=e);let b:=EQ (n:=2) `b (show e<=45000 by omega);omega
def Mc {ns b one a i:d6} {g h:Int} (m:g≠0) (n:h≠0) (o:ns=one.map (g*·)) (p:b=a.map (h*·)) (R:RC (co one) (co a) i):RC (co ns) (co b) i:=by
 let c1:∀ k,co ns k=g*co one k:=λk=>by rw [o,G8]
 let j:∀ k,co b k=h*co a k:=λk=>by rw [p,G8]
 refine {R.lz,?_,?_,?_}
 .let {c,e,A,f}:=R.left;exact {c,e,A.map (g*·),λk=>by rw [BO,<-f k,c1 k];ext}
 .let {c,e,A,f}:=R.right;exact {c,e,A.map (h*·),λk=>by rw [BO,<-f k,j k];ext}
 .let {d,q,U,W,r}:=R.qi;refine {g*h*d,CA (CA m n) q,U.map (h*·),W.map (g*·),λk=>?_};rw [BO,BO,BR c1 U k,BR j W k,DP,DP];have:=r k;ext
def Sk {e:Nat} {a:Int} {one ns:d6} (m:a≠0) (b:ns=one.map (a*·)) (h:Fp e ns):Fp e one:=λg d f ⟨c,i,A,j⟩=>h g d f {c,i,A.map (a*·),λk=>by
 rw [BO,<-j k,b,G8];ext}
theorem Sl {c:Int} {g:dq} (h:∀ k,c∣g k):∀ (A:d6) (k:Nat),c∣cvL A g k
 | [],_=>by rw [BN];exact DA c
 | x::A,0=>by rw [BA];exact C7 (Fl (h 0)) (DA c)
 | x::A,k+1=>by rw [As];exact C7 (Fl (h _)) (Sl h A k)
def Sn {e:Nat} {one:d6} (p:Prim one) (h:Fp e one):Fi e one:=λA g b k=>by
 rcases EJ g with z | ⟨d,f,_,a⟩
 .rw [z k];exact DF _
 .rw [<-a k];refine h d f (λc i=>p c λk=>?_) ⟨1,`b,A,λk=>by rw [Int.one_mul,b k];exact BR (λk=>(a k).symm) A k⟩ k;rw [b k];exact Sl (λk=>by rw [<-a k];exact i k) A k
def tX {K:W.Frag} (hK:tT K) {vs:cZ} {H:Hp} {Q:VK} {E:XK} (h:KP K vs H Q E):QW K { nx:=λ_ j=>Q .non j,rt:=Q } (L2.start ["row","other","one","two","exponent","found"] vs) H:=by
 let {a,b,p,D,d,J,cc,NN,rfl,ha,hb,tn,tm,bn,bm,d9,nN,mN,L,nc,hN,a0,sm,k}:=h;unfold QW;rwa [ha];refine {p,2,`a,tn,λF one g1 H1 s1 n f q p1=>?_};let a3:=s1 _ _ hb;rwa [a3];refine {D,2,`a,tm,λM c g2 G s2 r g w p2=>?_};let m:=s1.trans s2;let a4:=m _ _ ha;let a5:=m _ _ hb;let N:=s2 _ _ n;let l1:@p=↑one:=by rw [q,AI]
 let l2:@D=@c:=by rw [w,AI]
 let t1:Tz one:=Ma (AR f) (by rw [<-q];exact tn);let t2:Tz c:=Ma (AR g) (by rw [<-w];exact tm);let b1:∀ z∈one,Bd d z:=Mb f (by rw [<-q];exact bn);let b2:∀ z∈c,Bd d z:=Mb g (by rw [<-w];exact bm);let O:one=[]↔p=[]:=by rw [<-CU,<-CU,l1]
 let I:c=[]↔D=[]:=by rw [<-CU,<-CU,l2]
 let P:(p=[]\/D=[])->∀ (U:Hp) (u v:c_),Same G U->(AY (A_ gL (aN (Io K) (AB (Bi (AB (AA 2) AC)) (AB (Bi (AB (AA 3) AC)) AC))) (aD 0))) { nx:=λ_ j=>Q .non j,rt:=Q } [↥a,↥b,↥F,↥M,u,v] U:=λem U u v o=>by
  let A:=o _ _ N;let B:=o _ _ r;rwa [];refine {sz `b,λx hx=>?_};let sx:=AM hx (.lst [.ref F]);refine {sz `b,λy hy=>?_};let X:=AM hy (.lst [.ref M]);let a6:=X _ _ (show upd U x (.lst [.ref F]) x=_ from upd_same);refine {one,{[V.ref F],a6,{{F,2,X _ _ (sx _ _ A)},trivial}},c,{[V.ref M],upd_same,{{M,2,X _ _ (sx _ _ B)},trivial}},em.imp (λz=>O.mpr z) (λz=>I.mpr z),λt Y R a7=>?_};let {ar,xr,ht,a8,_}:=a7.head;refine {_,ht,_,Hz _ _,?_};refine k ar _ Y (m.trans (o.trans ((sx.trans X).trans R))) a8 (λa9=>?_) λn r=>by rw [jE (I.mpr r)];exact O.mpr n
  let z0:∀ {x:d6},x=[]->∀ k,co x k=0:=λe k=>by rw [e];exact Ao (Ah _)
  by_cases C:c=[]
  .rw [jE C]
   let Z:p≠[]:=by
    rcases a9 with h | h
    .exact h
    .exact absurd (I.mp C) h
   let aa:Lz one:=Du t1 λz=>Z (O.mp z);exact {Mc (AR f) (AR g) q w {aa,MQ.refl _,MQ.zero _ (z0 C),QI.left _ _},p1.resolve_left Z}
  .rw [jD C];let Z:one=[]:=O.mpr (em.resolve_right λz=>C (I.mpr z));exact {Mc (AR f) (AR g) q w {Du t2 C,MQ.zero _ (z0 Z),MQ.refl _,QI.right _ _},p2.resolve_left λz=>C (I.mpr z)}
 let l0:=λem=>P em G none none (Same.refl G);simp only [AH,AN,AL,AB,U9,AC,AE,Fn,L2.start,BU,a_,Ap,tB,A_,VT,VS,tC,T_,VU,BV,AY,Ai,Bi,HM,VL,Db,L_,Jd,Fm,ad,DY,K5,VC,VD,aG,ak,Vt,BX,B5,BD,IP,Xd,Cm,OB,Jl,aV,iLe,aq,cu,Bx,Xe,Xf,Xg,Fv,HR,Xh,Xi,Xj,Xk,Xl,Xm,Xn,Xo,Xp,Xr,Xs,Xu,Xv,CZ,List.map_nil,Cj,List.length_nil,List.replicate,List.cons_append,List.nil_append,List.append_nil,List.getElem?_cons_zero,List.getElem?_cons_succ,Option.some.injEq,exists_eq_left',exists_eq_left,V.int.injEq,V.bl.injEq,V.ref.injEq,V.ty.injEq,HO.tup.injEq,HO.lst.injEq,List.cons.injEq,and_true,true_and,and_assoc,exists_and_left,List.set_cons_zero,List.set_cons_succ,decide_eq_true_eq,decide_eq_false_iff_not,Bool.not_eq_true',Bool.true_eq_false,Bool.false_eq_true,Bool.not_true,Bool.not_false,if_true,if_false,ite_true,ite_false,X4,X5,Xw,Xx,Xy,Xz,X3,X6,X7,Nat.zero_add,Nat.reduceAdd,Nat.reduceSub,upd_same,Int.cast_ofNat_Int,decide_true,decide_false,eq_self,not_true_eq_false,not_false_eq_true,Int.natCast_add,Int.natCast_zero,reduceCtorEq,Nm,Yh,VH,CW,HN,aR,GV,Ea,Yd,Yj,Ye,Yg,EI,Yc,V5,V4,V1,V2,V3,ax,Je,YV,YW,YX,YZ,Yq,Yp,YY,Yk,LI,OO,LJ,Jv,LF,Ec,Dy,ON,HZ,Cy,Option.bind_some,Option.bind_none,Option.bind,Option.join,id_eq,sS,Y4,Y6,EL,KG,Hm,Ii,Ij,Ik,Il,Im,Hn,KH,Io,KI,KJ,Ho,Hr,KK,KL,KM,KN,KO,KP,E5,Gn,Hs,Gs,Ht,KQ,Ip,KS,Gu,Iq,E7,Ir,Lx,KU,yE,Hu] at l0;let ab:p≠[]->D≠[]->Lz one/\Lz c:=λn r=>{Du t1 λz=>n (O.mp z),Du t2 λz=>r (I.mp z)};refine {_,a4,Aa (λc1=>{_,a5,Aa (λc2=>{{_,hK G},?_}) (λc2=>l0 (.inr (by simpa using c2)))}) (λc1=>l0 (.inl (by simpa using c1)))};let y1:p≠[]:=by simpa using c1
 let y2:D≠[]:=by simpa using c2
 let {z1,z2}:=ab y1 y2;let ac:Fi J one:=Sn (p1.resolve_left y1) (Sk (AR f) q (L y1 y2).1);let af:Fi J c:=Sn (p2.resolve_left y2) (Sk (AR g) w (L y1 y2).2);refine NX (xs:=exps.map λe:Nat=>V.int (e:Int)) (λi σ j=>i<8/\∃ u v,σ=[↥a,↥b,↥F,↥M,u,v]/\Same G j) {`b,none,none,2,Same.refl G} (λi σ j _ _=>hK j) ?_ ?_
 .rintro i x σ j S ⟨i8,u,v,rfl,o⟩;rw [Ae] at S;cases e:exps[i]? with
  | none=>rw [e] at S;cases S
  | some T=>
    rw [e] at S;obtain rfl:V.int (T:Int)=x:=jL S;let {pe,pl}:=tU T (BT e);let A:=o _ _ N;let B:=o _ _ r;rwa [A,B];refine ⟨`a,2,by unfold Bd;decide,`a,one,c,mers T,tV T,rfl,rfl,pe,tW pl,z1,z2,d,b1,b2,`a,`a,J,ac,af,cc,`a,NN,`a,a0,λnb Y R=>{?_,o.trans R},λt rs Y R ht rc pr=>?_⟩
    .rcases BY (i+1) 8 with c8 | c8
     .exact c8
     .exfalso;let i7:i=7:=by omega
      rw [i7] at e;obtain rfl:44497=T:=jL e;refine nb ?_;show 2 ^ ((J+cc+2)*NN)<mers 44497;let n:2 ^ ((J+cc+2)*NN)<=2 ^ 44490:=EQ `b sm
      let r:2 ^ 44490<mers 44497:=by
       unfold mers;let e7:2 ^ 44497=2 ^ 44490*2 ^ 7:=by rw [<-Nat.pow_add]
       rw [e7];have:1<=2 ^ 44490:=Nat.one_le_two_pow;omega
      omega
    exact k t rs Y (m.trans (o.trans R)) ht (λ_=>{Mc (AR f) (AR g) q w rc,pr}) λn _=>absurd n (by simpa using c1)
 .rintro σ j ⟨i8,_⟩;exact absurd i8 (by simp [exps])
def CT (l:cQ):(AV l).length=@l:=by unfold AV;rw [AI]
def FZ {l:cQ} (a:Af l) (b:Nz l):Tz (AV l):=by
 by_cases h:l=[]
 .left;rw [h];rfl
 .right;rw [CT];exact MT a b (CN.mpr h)
def tY {l:cQ} {M N:Int} (f:Af l) (g:Ov l M) (i:Ov l N) (h:M∣N) {b:Nat} (j:∀ z∈S_ l N,Bd b z):∀ z∈S_ l M,Bd b z:=λz k=>by
 let {q,a,rfl}:=Au.mp k;refine (j (q.1*(N / q.2)) (Au.mpr ⟨q,a,rfl⟩)).le ?_;rw [Bp,Bp];refine Em _ ?_;let c:=(f q a).pos;let {x,d}:=g.2 q a;let {y,e}:=h;let m:M / q.2=x:=by rw [d,GS _ (AR c)]
 let n:N / q.2=x*y:=by rw [e,d,Int.mul_assoc,GS _ (AR c)]
 rw [m,n,Bp];refine Nat.le_mul_of_pos_right _ ?_;rcases El y.natAbs with z | z
 .let o:y=0:=by omega
  have:=i.1;rw [e,o] at this;omega
 .exact z
def Gq.clr {b c:Nat} {l:cQ} (G:Gq b c l):(∀ z∈AV l,Bd b z)/\Bd c (Ag l)/\(∀ q∈l,Bd b q.1):=by
 let {M,a,f,d}:=G.ov;let e:=PR G.low a;exact {tY G.low (Cb G.low) a e d,Dz (AR a.1) e f,SR G.low a d}
def Eh (g:d6):(L' g).length=@g:=by unfold L';rw [AI]
def IA {g:d6} (a:Lz g):Af (L' g):=λq b=>by
 let {z,_,rfl}:=Au.mp b;exact DO a.2
theorem Kk {g:d6} (a:Lz g) (k:Nat):C_ (L' g) k=(co g k:Rat) / (co g (@g - 1):Rat):=by
 unfold C_ Ad L';rw [AU,Ae];unfold co;rw [AU (l:=g) (i:=k)];cases e:g[k]? with
 | none=>
   show val (0,1)=((0:Int):Rat) / _;unfold val;show ((0:Int):Rat) / _=_;rw [show ((0:Int):Rat)=0 from rfl,O',O']
 | some z=>exact Dp a.2
def Sq {g:d6} (a:Lz g):Ad (L' g) (@g - 1)=(1,1):=Do (DN (IA a) _) {`b,`b} (by
 let h:=Kk a (@g - 1);unfold C_ at h;rw [h];have:=Am a.2;let b:val (1,1)=1:=by unfold val;show ((1:Int):Rat) / ((1:Int):Rat)=1;ext
 rw [b];ext)
def JG {g:d6} (b:Lz g):Nz (L' g):=λq a=>by
 let h:=Sq b;rw [GP,Eh] at a;unfold Ad at h;rw [AU,a] at h;let c:q=(1,1):=h;rw [c];decide
def tZ (h:Gs K vs H Q E):Qm K { nx:=λ_ H'=>Q .non H',rt:=Q } (L2.start ["P","Q","row"] vs) H:=by
 let {p,q,xs,ys,l,m,b,c,ee,dd,NN,rfl,hp,j,hN,hM,f,g,b9,c9,lN,mN,A,B,C,D,sm,k0,k1}:=h;let {F,a0,G}:=f.clr;let {I,a1,J}:=g.clr;let {M1,O1,L,_}:=f.ov;let {M2,O2,M,_}:=g.ov;unfold Qm;rwa [hp];refine bJ hp {l,hN,f.low,M1,O1,L.mono `a,λq j=>(G q j).mono `a,`a,λr a H1 N hr ha=>?_};let k:=N _ _ j;rwa [hr,k];refine bJ k {m,hM.tp (F_ N),g.low,M2,O2,M.mono `a,λq j=>(J q j).mono `a,`a,λr2 a2 H2 Y O S=>?_};let T:=Y _ _ ha;rwa [O,T,S];let w:AV l=[]↔l=[]:=by rw [<-CU,<-CU,CT]
 let x:AV m=[]↔m=[]:=by rw [<-CU,<-CU,CT]
 refine {AV l,2,AV m,2,FZ f.low f.nz,FZ g.low g.nz,b,F,I,b9,by rw [CT];exact lN,by rw [CT];exact mN,ee,λy U=>A (λz=>y (w.mpr z)) (λz=>U (x.mpr z)),dd,by rw [CT,CT];exact B,NN,by rw [CT,CT];exact C,D,sm,λs d H3 s3 Z rc r0=>?_};let o:=(N.trans Y).trans s3;rwa [Z];by_cases u:l=[]/\m=[]
 .let e:=r0 (w.mpr u.1) (x.mpr u.2);subst e;refine Aa (λz=>absurd z (by simp)) (λ_=>?_);exact {sz `b,λt W=>k0 u.1 u.2 t [] _ (o.trans (AM W _)) upd_same trivial}
 .let i:l≠[]\/m≠[]:=by
   by_cases y:l=[]
   .exact .inr λU=>u ⟨y,U⟩
   .exact .inl y
  let {R,P}:=rc (i.imp (λh z=>h (w.mp z)) (λh z=>h (x.mp z)));let X:d≠[]:=CN.mp R.lz.1;refine Aa (λ_=>?_) (λz=>absurd X (by simpa using z));let al:=JD R.lz.1
  let rl:@d<=1000:=by
   rcases i with h | h
   .have:=G7 R.lz (Du (FZ f.low f.nz) λz=>h (w.mp z)) R.left;rw [CT] at this;omega
   .have:=G7 R.lz (Du (FZ g.low g.nz) λz=>h (x.mp z)) R.right;rw [CT] at this;omega
  rwa [Z,al];refine {d,2,R.lz.2,rl,λt zs H4 s4 W v=>?_};let e:trim (d.map λn=>Aq n (co d (@d - 1)))=L' d:=Zv (JG R.lz);rw [e] at v;exact k1 i d R P t zs H4 (o.trans s4) W v
def MR.short {g f:dt} {n:Nat} (b:g n≠0) (h:∀ i,n<i->g i=0) (m:MR g f) (c:∀ k,n<=k->f k=0) (k:Nat):f k=0:=by
 let {A,a}:=m;rw [a k];exact Lo A (Pw b h A λk hk=>by rw [<-a k];exact c k hk) k
def Ss {q:Nu} {n M:Int} (c:q.2≠0) (d:M≠0) (h:val q=(n:Rat) / (M:Rat)):Wo q n M:=by
 unfold Wo;unfold val at h;let a:=Am c;let b:=Am d;let e:(q.1:Rat)*(M:Rat)=(n:Rat)*(q.2:Rat):=by ext
 exact_mod_cast e
def Su {q:Nu} {n M:Int} (a:Low q.1 q.2) (h:Wo q n M):q.2∣M/\q.1*(M / q.2)=n:=by
 unfold Wo at h;let d:q.2∣M:=LW a {n,by rw [h,CK]};refine {d,?_};let b:=a.pos
 let e:q.2*(q.1*(M / q.2))=q.2*n:=by
  have:=FG d
  calc q.2*(q.1*(M / q.2))=q.1*(q.2*(M / q.2)):=by ext
   _=q.1*M:=by rw [this]
   _=q.2*n:=by rw [h,CK]
 exact Int.eq_of_mul_eq_mul_left (AR b) e
def Sv {m:cQ} (b:Nz m) (c:m≠[]):(Ad m (@m - 1)).1≠0:=by
 let a:@m - 1<@m:=by have:=CN.mpr c;omega
 let q:=b m[@m - 1] (by rw [GP];exact Ak a);let e:Ad m (@m - 1)=m[@m - 1]:=by unfold Ad;rw [AU,Ak a];rfl
 rw [e];exact q
def E9 {m:cQ} (c:Af m) (d:Nz m) (e:m≠[]):C_ m (@m - 1)≠0:=by
 let a:=Am (Sv d e);let b:=Am (AR (DN c (@m - 1)).pos);unfold C_ val;ext
theorem Sw (f:dq):∀ (A:d6) (k:Nat),cvL (A.map λz:Int=>(z:Rat)) (λk=>(f k:Rat)) k=((cvL A f k:Int):Rat)
 | [],_=>rfl
 | x::A,0=>by rw [CZ,BA,BA];push_cast;ext
 | x::A,k+1=>by rw [CZ,As,As,Sw f A k];push_cast;ext
def Kl {f:dq} {G:dt} {a:Rat} (b:a≠0) (c:∀ k,G k=a*(f k:Rat)) (A:d6) (k:Nat):((cvL A f k:Int):Rat)=a⁻¹*cvL (A.map λz:Int=>(z:Rat)) G k:=by
 rw [BR c,DP,Sw];ext
def MR.of {f g:dq} {F G:dt} {d a:Rat} (b:a≠0) (h:∀ k,F k=d*(f k:Rat)) (i:∀ k,G k=a*(g k:Rat)) (m:MQ g f):MR G F:=by
 let {c,j,A,n}:=m;let c1:=Am j;refine {(A.map λz:Int=>(z:Rat)).map (d*(c:Rat)⁻¹*a⁻¹*·),λk=>?_};let e:(c:Rat)*(f k:Rat)=((cvL A g k:Int):Rat):=by exact_mod_cast n k
 rw [BO,h k];rw [Kl b i] at e;ext
def Fa {l:cQ} (a:Af l) (k:Nat):C_ l k=((Ag l:Rat))⁻¹*(co (AV l) k:Rat):=by
 rw [F6 a (Cb a),<-J4];show (co (AV l) k:Rat) / _=_;ext
def Sx {l:cQ} (a:Af l):((Ag l:Rat))⁻¹≠0:=by
 have:=Am (AR (Cb a).1);ext
def Fb {g:d6} (a:Lz g) (k:Nat):C_ (L' g) k=((co g (@g - 1):Rat))⁻¹*(co g k:Rat):=by
 rw [Kk a];ext
def IB {g:d6} (a:Lz g):((co g (@g - 1):Rat))⁻¹≠0:=by
 have:=Am a.2;ext
def JH {a:Int} (d:a≠0) {B:Nat} {ns:d6} (g:∀ z∈ns,Bd B z):Ov (ns.map λn=>Aq n a) (a.natAbs:Int)/\∀ z∈S_ (ns.map λn=>Aq n a) (a.natAbs:Int),Bd B z:=by
 let h:(0:Int)<(a.natAbs:Int):=by omega
 let c:∀ n∈ns,(Aq n a).2∣(a.natAbs:Int)/\Bd B ((Aq n a).1*((a.natAbs:Int) / (Aq n a).2)):=λn b=>by
  let i:=DO (n:=n) d;let u:=Am d
  have:∃ s:Int,val (Aq n a)=(s:Rat) / (((a.natAbs:Int):Int):Rat)/\Bd B s:=by
   rw [Dp d];rcases Int.natAbs_eq a with e | e
   .exact {n,by rw [<-e],g n b}
   .refine {-n,?_,(g n b).neg};let j:(a.natAbs:Int) = -a:=by omega
    rw [j];push_cast;ext
  let {s,k,m}:=this;let {o,p}:=Su i (Ss (AR i.pos) (AR h) k);exact {o,by rw [p];exact m}
 refine {{h,λq f=>?_},λz r=>?_}
 .let {n,b,rfl}:=Au.mp f;exact (c n b).1
 .let {q,f,rfl}:=Au.mp r;let {n,b,rfl}:=Au.mp f;exact (c n b).2
def sF {l:cQ} {M:Int} {B:Nat} (h:Ov l M) (b:∀ z∈S_ l M,Bd B z):Ov (trim l) M/\∀ z∈S_ (trim l) M,Bd B z:=by
 refine {{h.1,λq a=>h.2 q (F2 a)},λz c=>?_};let {q,a,rfl}:=Au.mp c;exact b _ (Au.mpr {q,F2 a,2})
theorem sG {F G:dt} {P:dt} (n:Nat) (h:∀ k,P k=cv F G n k):MR G P:=by
 refine {(List.range n).map F,λk=>?_};rw [h k];clear h
 induction n with
 | zero=>rfl
 | succ n a=>
   show cv F G n k+(if n<=k then F n*G (k - n) else 0)=_;rw [a,List.range_succ,B9,List.map_singleton,Dr,AI,BZ];unfold A9;by_cases hk:n<=k
   .rw [jE hk,jE hk]
   .rw [jD hk,jD hk];ext
structure PS (l m:cQ) (b c d e nq:Nat) (r:d6) (B:Int) (qs:cQ):Prop where
 len:@r<=@l
 tz:Tz r
 B0:B≠0
 N:∃ N,0<N/\B∣N/\Bd (c+(nq - (@r+1 - @m))*d) N/\∀ q∈qs,q.2∣N
 low:Af qs
 qb:∀ q∈qs,Bd (b+nq*(d+1)+e) q.1
 rb:∀ z∈r,Bd (b+(nq - (@r+1 - @m))*(d+1)) z
 ql:@qs=nq
 zer:∀ j,j+@m<=@r->Ad qs j=(0,1)
 idn:∀ k,C_ l k=cv (C_ qs) (C_ m) nq k+(co r k:Rat) / (B:Rat)
def Sy {ns:d6} {g:Int} (k:Nat):co (ns.map (·/ g)) k=co ns k / g:=JE (F:=(·/ g)) (Int.zero_ediv g) ns k
def Sz {ns:d6} {g:Int} (h:∀ z∈ns,g∣z) (k:Nat):g∣co ns k:=SO h k
def PS.step {l m:cQ} {b c d e u:Nat} {r:d6} {B:Int} {D:cQ} (S:PS l m b c d e u r B D) (U:Af m) (nm:Nz m) (m1:1<=@m) (bC:∀ z∈AV m,Bd d z) (bE:Bd e (Ag m)) (M:u=@l+1 - @m) (hr:@m<=@r)
  {o top I f w g:Int} (v:o=co (AV m) (@m - 1)) (J:top=co r (@r - 1)) (X:0<I) (O:f*I=o) (W:w*I=top) {A:d6} (t1:Tz A) (F:∀ k,co A k=f*co r k - w*A9 (@r - @m) (co (AV m)) k) (Y:0<g) (Z:g∣B*f) (gr:∀ z∈A,g∣z) :
  PS l m b c d e u (A.map (·/ g)) (B*f / g) (D.set (@r - @m) (Aq (top*Ag m) (B*o)))/\@A<@r:=by
 let G:o≠0:=by rw [v];exact MT U nm m1
 let cl:(AV m).length=@m:=CT m;let P:f≠0:=λz=>G (by rw [<-O,z,Int.zero_mul])
 let a0:@A<@r:=by
  have:@A<=@r - 1:=Se (b:=[]) t1 _ λk hk=>by
   rw [F k];unfold A9;rw [jE `a];by_cases ek:k=@r - 1
   .rw [ek,<-J,show @r - 1 - (@r - @m)=@m - 1 by omega,<-v,<-W,<-O];ext
   .rw [Ao (a:=r) `a,Ao (a:=AV m) (k:=k - (@r - @m)) `a];omega
  omega
 let BJ:(A.map (·/ g)).length=@A:=AI ..;let {N,N0,NB,Nb,Nq}:=S.N;let a2:=S.len;let bl:Bd d o:=by rw [v];exact D1 bC _
 let bt:Bd (b+(u - (@r+1 - @m))*(d+1)) top:=by rw [J];exact D1 S.rb _
 let bf:Bd d f:=Dz G {I,by rw [O]} bl
 let bw:Bd (b+(u - (@r+1 - @m))*(d+1)) w:=by
  by_cases z:top=0
  .let w0:w=0:=by
    rcases En.mp (W.trans z) with h | h
    .exact h
    .omega
   rw [w0];exact DF _
  .exact Dz z {I,by rw [W]} bt
 let R:@r - @m<u:=by omega
 let bne:B*o≠0:=CA S.B0 G;let T:=DO (n:=top*Ag m) bne;let p:∀ {q:Nu},q∈D.set (@r - @m) (Aq (top*Ag m) (B*o))->q∈D\/q=Aq (top*Ag m) (B*o):=λ{q} h=>List.mem_or_eq_of_mem_set h
 let C:∀ j,Ad (D.set (@r - @m) (Aq (top*Ag m) (B*o))) j=if j=@r - @m then Aq (top*Ag m) (B*o) else Ad D j:=λj=>by
  unfold Ad;rw [AU,AU];by_cases e:j=@r - @m
  .rw [jE e,e,List.getElem?_set_self (by rw [S.ql];exact R)];rfl
  .rw [jD e,List.getElem?_set_ne (λz=>e z.symm)]
 let L:∀ x:Nat,(u - (@r+1 - @m))*x+x<=(u - (@A+1 - @m))*x:=λx=>by
  have:=CV x (show u - (@r+1 - @m)+1<=u - (@A+1 - @m) by omega);rw [Nat.add_mul,Nat.one_mul] at this;exact this
 refine {{`a,?_,?_,{N*(o.natAbs:Int),?_,?_,?_,?_},?_,?_,?_,?_,?_,?_},a0}
 .rcases t1 with h | h
  .left;rw [h];rfl
  .right;rw [BJ,Sy];intro z;have:=Int.ediv_mul_cancel (Sz gr (@A - 1));rw [z,Int.zero_mul] at this;exact h this.symm
 .intro z;let d:=Int.ediv_mul_cancel Z;rw [z,Int.zero_mul] at d;exact CA S.B0 P d.symm
 .exact Bt N0 `a
 .refine BE (Int.ediv_dvd_of_dvd Z) (Int.mul_dvd_mul NB ?_);exact Int.dvd_natAbs.mpr {I,by rw [O]}
 .let a1:Bd d (o.natAbs:Int):=bl.le (by rw [C8];exact AT _);refine (Nb.mul a1).mono ?_;rw [BJ];have:=L d;omega
 .intro q M;rcases p M with h | h
  .exact BE (Nq q h) (Fk ..)
  .rw [h];exact Z1 bne (Int.mul_dvd_mul NB (Int.dvd_natAbs.mpr (Int.dvd_refl _)))
 .intro q M;rcases p M with h | h
  .exact S.low q h
  .rw [h];exact T
 .intro q M;rcases p M with h | h
  .exact S.qb q h
  .rw [h];refine (F5 bne (bt.mul bE) (Nat.lt_two_pow_self:Bd _ (B*o))).1.mono ?_;have:=CV (d+1) (show u - (@r+1 - @m)<=u by omega);omega
 .intro z hz;let {y,hy,rfl}:=Au.mp hz;refine MS (gr y hy) ?_;refine JF (n:=b+(u - ((A.map (·/ g)).length+1 - @m))*(d+1)) (λk=>?_) y hy;rw [F k,BJ];let gw:=L (d+1);refine Bd.mono (m:=(b+(u - (@r+1 - @m))*(d+1)+d)+1) (Bd.sub ((bf.mul (D1 S.rb k)).mono `a) ?_) `a;unfold A9;split
  .exact bw.mul (D1 bC _)
  .rw [EC];exact DF _
 .rw [List.length_set];exact S.ql
 .intro j hj;rw [BJ] at hj;rw [C,jD `a];exact S.zer j `a
 .intro k;let hB:=Am S.B0;let hL:=Am G;let hg:=Am (AR Y);let hF:=Am P;let hE:=Am (AR (Cb U).1)
  let c1:=PL (f:=C_ D) (f':=C_ (D.set (@r - @m) (Aq (top*Ag m) (B*o)))) (g:=C_ m) (s:=@r - @m) (x:=val (Aq (top*Ag m) (B*o)))
   (by unfold C_;rw [S.zer _ `a];exact O' _) (by unfold C_;rw [C,jE rfl]) (λi hi=>by unfold C_;rw [C,jD hi]) u k
  let gd:g∣f*co r k - w*A9 (@r - @m) (co (AV m)) k:=by rw [<-F k];exact Sz gr k
  rw [c1,S.idn k,Sy,F k,SN (AR Y) gd,SN (AR Y) Z,Dp bne];let a3:(f:Rat)*I=o:=by exact_mod_cast O
  let a4:(w:Rat)*I=top:=by exact_mod_cast W
  let hS:=Am (AR X);unfold A9;by_cases hk:@r - @m<=k
  .rw [jE hk,jE ⟨R,hk⟩,F6 U (Cb U),<-J4];show _+(co r k:Rat) / _=_+_*((co (AV m) (k - (@r - @m)):Rat) / _)+_;push_cast;generalize (co (AV m) (k - (@r - @m)):Rat)=dk;generalize cv (C_ D) (C_ m) u k=c;generalize (co r k:Rat)=x;ext
  .rw [jD hk,jD `a];push_cast;generalize cv (C_ D) (C_ m) u k=c;generalize (co r k:Rat)=x;ext
def sI {a b:Nu} (h:CO a=CO b):a=b:=by
 unfold CO at h;injection h with h;injection h with d c;injection c with c _;injection d with d;injection c with c;exact Prod.ext d c
def sJ (h:KQ K vs H Q E):xY K (eC Q) (L2.start ["P","Q","row","divisor","rest","bottom","lead","quotient","shift","shared","spare"] vs) H:=by
 let {p,q,xs,ys,l,m,b0,c0,d0,e0,rfl,hp,v,hN,hM,GL,GM,m0,c3,m6,hc,hb,he,hd,k}:=h;let {b4,b6,b8}:=GL.clr;let {U,ba,bb}:=GM.clr;let {M,hO,bM,c4}:=GL.ov;let {M',c5,c8,_}:=GM.ov;let hl:=GL.low;let hm:=GM.low;let nm:=GM.nz;let m1:1<=@m:=CN.mpr m0;let b9:b0<=900000:=by omega
 let c9:c0<=400000:=by omega
 let lx:=@hN;let ly:=@hM;let bc:∀ q∈m,Bd 60000000 q.1:=λq v=>(bb q v).mono `a;let bE:Bd e0 (Ag m):=ba;let OE:=Cb hm;let OL:=Cb hl;let bL:Bd c0 (Ag l):=b6;let cl:(AV m).length=@m:=by unfold AV;rw [AI]
 let bd:(AV l).length=@l:=by unfold AV;rw [AI]
 refine Pn (AS rfl (bJ hp {l,hN,hl,M,hO,bM.mono `a,λq v=>(b8 q v).mono `a,`a,λra a H1 s1 F G=>?_}));let bf:=s1 _ _ v;refine Pn (AS rfl (bJ bf {m,hM.tp (F_ s1),hm,Ag m,OE,bE.mono `a,bc,`a,λrb b H2 s2 W X=>?_}));let F:=s2 _ _ F;let G:=s2 _ _ G;let Y:=s1.trans s2;let bg:=Y _ _ hp;let a7:=Y _ _ v
 let A:∀ {r:d6},1<=@r->R_ (~~~r) (-1)=some (V.int (r.getD (@r - 1) 0)):=λ{r} h=>by
  unfold R_ ap;rw [jD `b,jE (by rw [AI];omega),AI,show (-1+(@r:Int)).toNat=@r - 1 by omega];show (~~~r)[@r - 1]?=_;rw [Ae,AU,Ak `a];rfl
 let el:=A (r:=AV m) `a;rw [cl] at el;generalize x:(AV m).getD (@m - 1) 0=e at el;let Z:e≠0:=by rw [<-x];exact MT hm nm m1
 let a8:Bd d0 e:=by rw [<-x];exact E2 U _
 refine A8 (Bc rfl F rfl (A8 (Bc rfl F rfl (A8 (Ax (Bc rfl W rfl {1,5,X,el,?_}))))));refine A8 (Ax (FV (Be (I_ (I_ {BJ,λe1 a9=>{Cn,λe2 aa=>?_}})))));let u:=(AM a9 (.tup [.int 0,.int 1])).trans (AM aa (.lst [.ref e1]));let en:(if (0:Int) > (@xs:Int) - (@ys:Int)+1 then 0 else (@xs:Int) - (@ys:Int)+1)=((@l+1 - @m:Nat):Int):=by split <;> omega
 refine {1,6,u _ _ bg,1,6,u _ _ a7,3,3,6,?_};refine {_,((@l+1 - @m:Nat):Int),1,congrArg V.int en,upd_same,`a,`a,sz (by simp;omega),λw hw=>?_};refine Ln a9 aa hw λH3 h1 ab u _ w2=>?_;rw [EB,Ig] at ab;let N0:Nums H3 (List.replicate (@l+1 - @m) (V.ref e1)) (List.replicate (@l+1 - @m) (0,1)):=Nums.rep ⟨e1,rfl,h1⟩ _
 let gz:∀ n j:Nat,Ad (List.replicate n ((0,1):Nu)) j=(0,1):=λn j=>by
  unfold Ad;rw [AU,Fg];split <;> rfl
 refine Dh (λn σ H'=>∃ (c:Addr) (r:d6) (B:Int) (zs:cZ) (I:cQ) (x8 x9 J:c_),σ=[↥p,↥q,↥ra,↥rb,↥c,some (.int B),some (.int e),↥w,x8,x9,J]/\Same H2 H'/\H' c^^^(~~~r)/\c≠w/\H' w^^^zs/\Nums H' zs I/\PS l m b0 c0 d0 e0 (@l+1 - @m) r B I/\n=@r) @l
  {a,AV l,Ag l,9,none,none,none,2,u,u _ _ G,A3 G w2,ab,N0,{`a,FZ hl GL.nz,AR OL.1,{Ag l,OL.1,Int.dvd_refl _,bL.mono `a,λq v=>?_},λq v=>?_,λq v=>?_,λz hz=>?_,List.length_replicate ..,λj _=>gz _ j,λk=>?_},bd.symm} ?_
 .rw [(List.mem_replicate.mp v).2];exact Int.one_dvd _
 .rw [(List.mem_replicate.mp v).2];exact Hf
 .rw [(List.mem_replicate.mp v).2];exact DF _
 .exact (b4 z hz).mono `a
 .rw [PM _ _ (λi _=>by unfold C_;rw [gz];exact O' _),F6 hl OL,J4];exact (Rat.zero_add _).symm
 rintro n σ H4 ⟨c,r,B,zs,I,x8,x9,J,rfl,s4,C,cw,a0,N4,o,rfl⟩;let ac:=s4 _ _ a7;refine {1,6,C,1,6,ac,3,1,Aa (λcc=>?_) (λcc=>?_)}
 .let af:@m<=@r:=by let cc:=jG cc;rw [AI] at cc;omega
  refine {_,λ_ _ h=>h,?_};let es:((~~~r).length:Int) - (@ys:Int)=((@r - @m:Nat):Int):=by rw [AI];omega
  let lt:=A (r:=r) `a;generalize R:r.getD (@r - 1) 0=top at lt;let aj:=s4 _ _ W;let bv:=s4 _ _ X;let {N,L,NB,Nb,Nq}:=o.N;let a1:Bd 400000 B:=(Dz (AR L) NB Nb).mono (BK (Nat.add_le_add_left (CV _ (Nat.sub_le _ _)) _) hc)
  let bi:b0+(@l+1 - @m - (@r+1 - @m))*(d0+1)<=900000:=by
   have:=CV (d0+1) (Nat.sub_le (@l+1 - @m) (@r+1 - @m));omega
  let S:Bd 900000 top:=by rw [<-R];exact (E2 o.rb _).mono bi
  let bk:∀ z∈r,Bd 60000000 z:=λz hz=>(o.rb z hz).mono `a;refine {1,6,C,1,6,ac,3,?_};show Qk K _ [↥p,↥q,↥ra,↥rb,↥c,some (.int B),some (.int e),↥w,some (.int (((~~~r).length:Int) - (@ys:Int))),x9,J] _;rw [es];let bne:B*e≠0:=CA o.B0 Z;refine zS (Av {4,5,C,lt,1,5,aj,2,3,EM S bE,4,3,EM a1 a8,6,bne,λt1 al=>?_});let cd:@zs=@l+1 - @m:=by rw [@N4,o.ql]
  let bw:=o.len;refine {4,_,zs,_,@r - @m,7,AM al _ _ _ a0,GE rfl `a,?_};refine zV al a0 w2 s4 λH5 s5 am h5 bl k5=>?_;let hn:=Nums.set (q:=Aq (top*Ag m) (B*e)) ⟨t1,rfl,h5⟩ (@r - @m) (N4.tp bl);let D:=k5 _ _ cw C;let an:=s5 _ _ W;let ao:=s5 _ _ X;refine GD {4,5,D,lt,1,6,?_};show Qj K _ [↥p,↥q,↥ra,↥rb,↥c,some (.int B),some (.int e),↥w,some (.int ((@r - @m:Nat):Int)),some (.int ((Int.gcd top e:Nat):Int)),J] _;let y:(0:Int)<((Int.gcd top e:Nat):Int):=by have:=Int.gcd_pos_of_ne_zero_right top Z;omega
  let a2:((Int.gcd top e:Nat):Int)∣e:=Dj top e;let a3:((Int.gcd top e:Nat):Int)∣top:=ER top e;let hf:=Int.ediv_mul_cancel a2;let a4:=Int.ediv_mul_cancel a3;generalize bx:((Int.gcd top e:Nat):Int)=sh at y a2 a3 hf a4 ⊢;let a5:=MS a2 a8;let ar:=MS a3 S;let O:e.fdiv sh=e / sh:=ES e (Cc y);let aw:top.fdiv sh=top / sh:=ES top (Cc y);generalize ce:e / sh=f at hf a5 O ⊢;generalize top / sh=wt at a4 ar aw ⊢;refine A8 (zT {4,8,AR y,1,5,an,2,4,5,D,lt,8,AR y,1,?_});refine {9,r,AV m,f,wt,@r - @m,by rw [<-O,<-aw],D,ao,`a,`a,a5.mono `a,ar.mono `b,bk,λz hz=>(U z hz).mono `a,λc1 P H6 s6 b1 t6 e6=>?_};let bm:f≠0:=λz=>Z (by rw [<-hf,z,Int.zero_mul])
  let l6:@P<=1000:=by
   have:@P<=1000:=Se (b:=[]) t6 1000 λk hk=>by
    rw [e6 k,Ao (a:=r) `a];unfold A9;split
    .rw [Ao (a:=AV m) `a];omega
    .omega
   exact this
  refine {4,8,AR y,3,show IntMulOk _ _ by rw [O];exact EM a1 a5,?_};rw [O];show Qi K _ _ _;refine GD {4,_,P,1,b1,l6,λg H7 s7 gn gB gr _=>?_}
  let g0:0<g:=by
   rcases Int.lt_or_eq_of_le gn with z | z
   .exact z
   .exact absurd (Int.zero_dvd.mp (z ▸ gB)) (CA o.B0 bm)
  let bn:=s7 _ _ b1;let {S5,bp}:=o.step hm nm m1 U bE rfl af x.symm R.symm y hf a4 t6 e6 g0 gB gr;let bq:(P.map (·/ g)).length=@P:=AI ..;refine GD {4,_,P,1,bn,.inl g0,`a,λc2 b2=>{4,3,g0,?_}};let br:=AM b2 (.lst ((P.map (·/ g)).map V.int));let b3:=s6.trans s7;let a6:=b3.trans br;exact {@P,bp,_,P.map (·/ g),9,9,6,s5.trans a6,upd_same,(A3 (b3 _ _ am) b2).symm,a6 _ _ am,hn.tp (F_ a6),S5,bq.symm}
 .let af:@r<@m:=by let cc:=of_decide_eq_false (Bool.eq_false_iff.mpr cc);rw [AI] at cc;omega
  let {N,L,NB,Nb,Nq}:=o.N;let a1:Bd 400000 B:=(Dz (AR L) NB Nb).mono (BK (Nat.add_le_add_left (CV _ (Nat.sub_le _ _)) _) hc);let bz:=o.ql;show Ql K _ _ _;refine B7 (Be (DS {1,9,I,2,a0,N4,`a,λt1 z1 H5 s5 h5 n5=>?_}));let D:=s5 _ _ C;let bs:=o.len;refine Av {4,_,r,1,D,o.B0,`a,λt2 z2 H6 s6 h6 n6=>{BJ,λt ht=>?_}};let st:=AM ht (.tup [.ref t1,.ref t2]);let T:Af (r.map λn=>Aq n B):=λq v=>by let {n,_,rfl}:=Au.mp v;exact DO o.B0
  let bt:∀ k,C_ (r.map λn=>Aq n B) k=(r.getD k 0:Rat) / (B:Rat):=λk=>by
   unfold C_ Ad;rw [AU,AU,Ae];cases r[k]? with
   | none=>exact (O' _).trans (O' _).symm
   | some z=>exact Dp o.B0
  let Bo:=o.rb;let r0:@r+1 - @m=0:=by omega
  rw [r0,Nat.sub_zero] at Bo Nb;let bB:Bd (c0+(@l+1 - @m)*d0) B:=Dz (AR L) NB Nb;let {RO,RB}:=JH o.B0 Bo;let {TO,TB}:=sF RO RB;refine k t t1 t2 _ (trim I) (trim (r.map λn=>Aq n B)) ((((Y.trans s4).trans s5).trans s6).trans st) upd_same (Pl.same ⟨z1,h5,n5⟩ (s6.trans st)) (Pl.same ⟨z2,h6,n6⟩ st) (λq v=>o.low q (F2 v)) (He _) ?_ {λq v=>T q (F2 v),He _,_,TO,bB.le `a,TB} ?_ λk=>?_
  .have:=Ge I;omega
  .have:=Ge (r.map λn=>Aq n B);rw [AI] at this;omega
  .let {d,hd}:∃ d,@l+1 - @m=(trim I).length+d:={@l+1 - @m - (trim I).length,by have:=Ge I;omega};rw [Hh T,bt,o.idn k,PP (λi=>(Hh o.low i).symm),hd,PN (λi hi=>DG hi)];rfl
def MR.add {n F G L:dt} (a:MR n F) (b:MR n G) (h:∀ k,L k=F k+G k):MR n L:=by
 let {A,c}:=a;let {B,d}:=b;exact {BF A B,λk=>by rw [B4,<-c k,<-d k,h k]}
def MR.smul {n F L:dt} (a:MR n F) (c:Rat) (h:∀ k,L k=c*F k):MR n L:=by
 let {A,b}:=a;exact {A.map (c*·),λk=>by rw [BO,<-b k,h k]}
def MR.sub {n F G L:dt} (a:MR n F) (b:MR n G) (h:∀ k,L k=F k - G k):MR n L:=
 a.add (b.smul (-1) (L:=λk=>-1*G k) λ_=>rfl) λk=>by rw [h k];ext
theorem Km (F G:dt) (k:Nat):∀ n,cv F G n k=cvL ((List.range n).map F) G k
 | 0=>rfl
 | n+1=>by
   show cv F G n k+(if n<=k then F n*G (k - n) else 0)=_;rw [Km F G k n,List.range_succ,B9,List.map_singleton,Dr,AI,BZ];unfold A9;by_cases hk:n<=k
   .rw [jE hk,jE hk]
   .rw [jD hk,jD hk];ext
def sK {F:dt} {n:Nat} (h:∀ i,n<=i->F i=0) (k:Nat):F k=cvL ((List.range n).map F) Ay k:=by
 rw [DH,AU,Ae];by_cases hk:k<n
 .rw [Dk hk];rfl
 .rw [B8 (by rw [BZ];omega),h k `a];rfl
def Gq.mono {b c b' c':Nat} {l:cQ} (G:Gq b c l) (a:b<=b') (d:c<=c'):Gq b' c' l:=by
 let {x,y,M,O,e,f}:=G;exact {x,y,M,O,e.mono d,λz g=>(f z g).mono a}
def HA {T:cQ} {b c:Nat} (g:Af T) (n:Nz T) {M:Int} (j:0<M) (o:Bd c M) {N:dq} (h:∀ k,C_ T k=(N k:Rat) / (M:Rat)) (p:∀ k,Bd b (N k)):Gq b c T:=by
 let f:∀ q∈T,∃ k,q.2∣M/\q.1*(M / q.2)=N k:=λq d=>by
  let {i,r,rfl}:=ET d;let e:Ad T i=T[i]:=by unfold Ad;rw [AU,Ak r];rfl
  let m:=g _ d;let v:=h i;unfold C_ at v;rw [e] at v;exact {i,Su m (Ss (AR m.pos) (AR j) v)}
 refine {g,n,M,{j,λq d=>?_},o,λz u=>?_}
 .let {k,a,_}:=f q d;exact a
 .let {q,d,rfl}:=Au.mp u;let {k,_,a}:=f q d;rw [a];exact p k
def sN (h:KR K vs H Q E):QZ K { nx:=λ_ g=>Q .non g,rt:=Q } (L2.start ["one","other"] vs) H:=by
 let {p,q,a,b,c,d,rfl,hp,i,e,f,j,m,n,o,k}:=h;unfold QZ;rwa [hp,i];exact {C4 j n,C4 m o,AR (Bt e f),λr u=>by rw [G4 (Bt e f)];exact k r u}
def sO (h:Ip K vs H Q E):Qa K { nx:=λ_ e=>Q .non e,rt:=Q } (L2.start ["one","other"] vs) H:=by
 let {p,q,a,b,c,d,rfl,hp,f,g,i,j,m,n,o,k}:=h;unfold Qa;rwa [hp,f];exact {C4 j o,C4 m n,CA (AR g) i,k}
def sP (h:KS K vs H Q E):QB K (eC Q) (L2.start ["row","other","result","place","whole","step","factor"] vs) H:=by
 let {p,q,f,g,b,d,rfl,hp,S,bn,bm,b9,d9,ln,lm,k}:=h;unfold QB;let v:∀ {D:d6},((!!(List.map V.int D).isEmpty)=true)↔@D=0:=λ{D}=>by cases D <;> simp
 refine E3 (show ad _ _ _ _ _ from {1,6,hp,Aa (λc=>Aa (λ_=>?_) (λz=>absurd rfl z)) (λc=>{1,6,S,Aa (λT=>?_) (λT=>?_)})})
 .exact {sz `b,λr W=>k r _ (AM W _) (by rw [jE (.inl (v.mp c))];exact upd_same)}
 .exact {sz `b,λr W=>k r _ (AM W _) (by rw [jE (.inr (v.mp T))];exact upd_same)}
 let c:@f≠0:=λz=>c (v.mpr z);let T:@g≠0:=λz=>T (v.mpr z);rw [jD `a] at k;delta BV;refine A8 (Ax (FV (I_ {Cn,λa ha=>?_})));let U:=AM ha (.lst [.int 0]);let I:=U _ _ hp;let X:=U _ _ S;let eL:((List.map V.int f).length:Int)+((List.map V.int g).length:Int) - 1=((@f+@g - 1:Nat):Int):=by rw [AI,AI];omega
 refine {1,6,I,1,6,X,3,3,9,1,congrArg V.int eL,upd_same,`a,`a,sz (by simp;omega),λw Y=>?_};rw [EB,Kg];generalize Z:@f+@g - 1=L at Y ⊢;let sw:=AM Y (.lst (A5 L λ_=>0))
 let w0:H w=none:=by
  cases e:H w with
  | none=>rfl
  | some o=>let z:=U _ _ e;rw [Y] at z;cases z
 refine {_,rfl,_,rfl,{_,SqL.of (sw _ _ I)},ForJ.enumL (xs:=f.map V.int) (λi A n=>∃ x1 x2 F G:c_,A=[↥p,↥q,↥w,x1,x2,F,G]/\Same H n/\n w^^^(A5 L λk=>ps f g i k))
  {none,none,none,none,2,U.trans sw,upd_same} ?_ ?_ ?_}
 .rintro i A n _ ⟨_,_,_,_,_,C,_⟩;exact SqL.of (C _ _ hp)
 .rintro i x pp A H1 J ⟨x1,x2,F,G,rfl,C,m⟩ a0;rw [Ae] at J;cases M:f[i]? with
  | none=>rw [M] at J;cases J
  | some z=>
    rw [M] at J;obtain rfl:V.int z=x:=jL J;let il:i<@f:=(A7.mp M).1;let zd:f.getD i 0=z:=by rw [AU,M];rfl
    let N:=AM a0 (.tup [.int (i:Int),.int z]);refine {6,upd_same,2,6,3,1,2,1,Aa (λc3=>?_) (λc3=>?_)}
    .refine {_,rfl,_,rfl,{_,SqL.of (N _ _ (C _ _ S))},ForJ.enumL (xs:=g.map V.int) (λj A n=>∃ F G:c_,A=[↥p,↥q,↥w,some (.int (i:Int)),some (.int z),F,G]/\Same H n/\n w^^^(A5 L λk=>be f g i j k))
      {F,G,2,C.trans N,by rw [N _ _ m];exact congrArg (λl=>some (HO.lst l)) (Hw λk _=>(PB f g i k))} ?_ ?_ ?_}
     .rintro j A n _ ⟨_,_,_,O,_⟩;exact SqL.of (O _ _ S)
     .rintro j y pq A H2 P ⟨y3,y4,rfl,O,B⟩ a1;rw [Ae] at P;cases em:g[j]? with
      | none=>rw [em] at P;cases P
      | some u=>
        rw [em] at P;obtain rfl:V.int u=y:=jL P;let jl:j<@g:=(A7.mp em).1;let ud:g.getD j 0=u:=by rw [AU,em];rfl
        let sq:=AM a1 (.tup [.int (j:Int),.int u]);let R:=sq _ _ B;let kl:i+j<L:=by omega
        refine {6,upd_same,2,6,3,4,8,5,R,DQ `a (Di _ kl),4,3,C4 ((bn z (BT M)).mono `a) ((bm u (BT em)).mono `a),3,9,_,i+j,7,R,?_,6,λb o h=>Kp.upd b o (A3 h w0) (sq b o (O b o h)),upd_same.trans (congrArg (λl=>some (HO.lst l)) ?_)}
        .rw [Dt];exact GE `a kl
        .refine Gy kl ?_ λk _ hk=>?_
         .rw [J1,jE rfl,zd,ud]
         .rw [J1,jD hk]
     .rintro A H2 ⟨y3,y4,rfl,O,B⟩;rw [AI] at B;exact {9,6,O,B}
    .refine {9,6,C.trans N,?_};rw [N _ _ m];refine congrArg (λl=>some (HO.lst l)) (Hw λk _=>?_);let z0:z=0:=by simpa using c3
     show ps f g i k+_=ps f g i k;rw [zd,z0];simp
 .rintro A H1 ⟨x1,x2,F,G,rfl,C,m⟩;rw [AI] at m;subst Z;exact {1,k w H1 C m}
def sQ (h:Gu K vs H Q E):Qg K { nx:=λ_ R=>Q .non R,rt:=Q } (L2.start ["P","Q","one","other"] vs) H:=by
 let {p,q,xs,ys,l,m,b,c,d,e,rfl,hp,f,S,T,Gl,j,ll,lm,b9,c9,d9,e9,k}:=h;unfold Qg;let {J,g,U}:=Gl.clr;let {L,i,W}:=j.clr;let o:=Cb Gl.low;let u:=Cb j.low;rwa [hp,f];refine bJ hp {l,S,Gl.low,Ag l,o,g.mono `a,λq f=>(U q f).mono `a,`a,λr a H1 B X Y=>?_};let v:=B _ _ f;rwa [v];refine bJ v {m,T.tp (F_ B),j.low,Ag m,u,i.mono `a,λq f=>(W q f).mono `a,`a,λr2 a2 H2 C x D=>?_};let y:=C _ _ X;let F:=C _ _ Y;rwa [y,x];let Z:(AV l).length=@l:=by unfold AV;rw [AI]
 let M:(AV m).length=@m:=by unfold AV;rw [AI]
 refine {AV l,F,AV m,D,b,J,d,L,`a,`a,`a,`a,λw H3 G hw=>?_};let I:=G _ _ y;let z:=G _ _ x;rwa [I,z];let A:0<Ag l*Ag m:=Bt o.1 u.1;refine {C4 (g.mono `a) (i.mono `a),_,hw,AR A,?_,λr4 zs H4 s4 h4 O=>?_}
 .split
  .exact Ah _
  .rw [AI,BZ];omega
 let P:trim (F3 l m (@l+@m))=trim (List.map (λn=>Aq n (Ag l*Ag m)) (if (AV l).length=0\/(AV m).length=0 then [] else List.map (λk=>ps (AV l) (AV m) (AV l).length k) (List.range ((AV l).length+(AV m).length - 1)))):=by
  rw [Z,M,show (λn=>Aq n (Ag l*Ag m))=λn=>Y_ n (Ag l*Ag m) from funext λn=>G4 A];exact Zz A M
 let lo:Af (F3 l m (@l+@m)):=Z6 o u
 let pv:∀ k,C_ (trim (F3 l m (@l+@m))) k=cv (C_ l) (C_ m) @l k:=λk=>by
  rw [Hh lo];exact Z7 Gl.low j.low o u k
 rw [<-P] at O;refine k r4 _ H4 (((B.trans C).trans G).trans s4) ⟨zs,h4,O⟩ ?_ ?_ pv
 .refine HA (λq f=>lo q (F2 f)) (He _) A (g.mul i) (N:=λk=>ps (AV l) (AV m) @l k) (λk=>?_) λk=>LZ J L _ _;rw [pv];exact (Lc Gl.low j.low o u _ _).symm
 .rw [P];refine BK (Ge _) ?_;rw [AI];split
  .exact Ah _
  .rw [AI,BZ];omega
def sR (h:Iq K vs H Q E):Qh K { nx:=λ_ d=>Q .non d,rt:=Q } (L2.start ["P","c"] vs) H:=by
 let {p,c,m,l,a,b,rfl,hp,F,y,G,I,J,L,M,ll,k}:=h;unfold Qh;rwa [hp];let N:=@y;refine {{_,SqT.of hp},CompJ.tup (xs:=m) (λi g d=>i<=@m/\Same H d/\Nums d g ((l.take i).map λq=>D_ q (a,b))) {Ah _,Same.refl H,trivial} ?_ ?_ ?_}
 .rintro i g d ⟨A,e,f⟩;exact {A,sz (by rw [@f,AI,Br];omega),e _ _ hp}
 .rintro i x g d B ⟨A,e,f⟩;let {z,o,X,rfl,u}:=y.get B;let O:i<@m:=(A7.mp B).1;let j:=e _ _ u;let v:=e _ _ F;let P:=G z (BT o);let C:=M z (BT o);rwa [j,v];refine {P.pos,I,C.1,C.2,J,L,λr n=>{`a,e.trans (AM n _),?_}};rw [Hv _ o];exact (f.tp (F_ (AM n _))).append (Nums.one Hl)
 .rintro g d ⟨_,e,f⟩ w R;let D:=AM R (.lst g);rw [N,Bh] at f;rwa [];exact {_,f.tp (F_ D),by rw [AI];omega,λr S T U n W=>k r S T ((e.trans D).trans U) n W}
def sU (h:E7 K vs H Q E):Qp K { nx:=λ_ r=>Q .non r,rt:=Q } (L2.start ["P","Q"] vs) H:=by
 let {p,q,S,T,l,m,b,c,d,e,rfl,hp,w,x,y,Gl,f,n,ll,z,A,B,C,D,F,k}:=h;unfold Qp;rwa [hp,w];refine {l,x,m,y,b,c,Gl,d,e,f,n,ll,z,A,B,C,D,λt u v G a g I J L U M N O W X o=>?_}
 let R:∀ k,C_ g k=0:=by
  let j:MR (C_ m) (C_ g):=F.sub (sG (P:=λk=>cv (C_ a) (C_ m) @a k) @a (λk=>rfl)) λk=>by have:=o k;show C_ g k=C_ l k - cv (C_ a) (C_ m) @a k;ext
  refine λk=>MR.short (E9 f.low f.nz n) (λi Y=>DG `a) j (λk hk=>DG `a) k
 rwa [J];exact k u a G I L M N O λk=>by rw [o k,R k];ext
def Kn (l:cQ) (k:Nat):cvL (rw' l) Ay k=C_ l k:=(sK (λi a=>DG a) k).symm
def Ko (l:cQ) (g:dt) (k:Nat):cv (C_ l) g @l k=cvL (rw' l) g k:=Km _ _ k _
theorem sV {L M G T B:dt} {t b U W:List Rat} {n:Nat} (a:∀ k,cvL t Ay k=T k) (c:∀ k,cvL b Ay k=B k) (d:G n≠0) (f:∀ i,n<i->G i=0)
  (g:∀ k,L k=cvL t G k) (h:∀ k,M k=cvL b G k) (e:∀ k,G k=cvL U L k+cvL W M k):Cop T B:=by
 refine {U,W,λk=>?_}
 let z:=Lp d f (A:=[1]) (B:=BF (Bm U t) (Bm W b)) (λk=>by
  rw [B4,CC,CC,<-BR g,<-BR h,<-e k];cases k with
  | zero=>rw [BA];ext
  | succ k=>rw [As,BN];ext) Ay k
 rw [B4,CC,CC,BR a,BR c] at z;rw [<-z,DH];cases k with
 | zero=>rfl
 | succ k=>rfl
def Cop.scal {T B a b:dt} {s:Rat} (c:s≠0) (h:Cop T B) (d:∀ k,a k=s*T k) (f:∀ k,b k=s*B k):Cop a b:=by
 let {U,W,e}:=h;refine {U.map (s⁻¹*·),W.map (s⁻¹*·),λk=>?_};rw [BO,BO,BR d,BR f,DP,DP,e k];have:s⁻¹*s=1:=Rat.inv_mul_cancel s c;ext
def sW {l m:cQ} {g:d6} (a:Af l) (b:Af m) (R:RC (co (AV l)) (co (AV m)) g):∃ U W:List Rat,∀ k,C_ (L' g) k=cvL U (C_ l) k+cvL W (C_ m) k:=by
 let {d,c,U,W,f}:=R.qi;let h:=Am c;let j:=Sx a;let n:=Sx b;refine {(U.map λz:Int=>(z:Rat)).map (((co g (@g - 1):Rat))⁻¹*(d:Rat)⁻¹*(((Ag l:Rat))⁻¹)⁻¹*·),(W.map λz:Int=>(z:Rat)).map (((co g (@g - 1):Rat))⁻¹*(d:Rat)⁻¹*(((Ag m:Rat))⁻¹)⁻¹*·),λk=>?_};let e:(d:Rat)*(co g k:Rat)=((cvL U (co (AV l)) k:Int):Rat)+((cvL W (co (AV m)) k:Int):Rat):=by exact_mod_cast f k
 rw [Kl j (Fa a),Kl n (Fa b)] at e;rw [BO,BO,Fb R.lz];generalize cvL (U.map λz:Int=>(z:Rat)) (C_ l) k=x at e ⊢;generalize cvL (W.map λz:Int=>(z:Rat)) (C_ m) k=y at e ⊢;generalize ((Ag l:Rat)⁻¹)⁻¹=u at e ⊢;generalize ((Ag m:Rat)⁻¹)⁻¹=v at e ⊢;let i:(d:Rat)⁻¹*(d:Rat)=1:=Rat.inv_mul_cancel _ h;have:(co g k:Rat)=(d:Rat)⁻¹*(u*x+v*y):=by rw [<-e];ext
 rw [this];ext
theorem Me {l a:cQ} {g:d6} {b n c:Nat} (j:Af l) (r:Af a) (o:∀ z∈AV l,Bd b z) (p:@l<=n) (q:n<2 ^ c) (d:Lz g) (P:Prim g) (m:MQ (co g) (co (AV l))) (e:∀ k,C_ l k=cv (C_ a) (C_ (L' g)) @a k) :
  ∃ A:d6,(∀ k,Bd (b+n*(2*c+4)) (co A k))/\∀ k,C_ a k=((co g (@g - 1):Rat))*(co A k:Rat)*((Ag l:Rat))⁻¹:=by
 let {A,f}:=U_ P m;refine {A,tL o (by rw [CT];exact p) q d f,λk=>?_};let u:=Am d.2;let top:C_ (L' g) (@g - 1)≠0:=by rw [Fb d];ext
 let h:∀ i,@g - 1<i->C_ (L' g) i=0:=λi h=>DG (by rw [Eh];omega)
 let z:=Lp top h (A:=rw' a) (B:=(A.map λz:Int=>(z:Rat)).map ((co g (@g - 1):Rat)*((Ag l:Rat))⁻¹*·)) (λk=>by
  rw [<-Ko,<-e k,BO,Fa j,f k,Kl (IB d) (Fb d)];ext) Ay k
 rw [Kn,BO,DH,AU,Ae] at z;rw [z];unfold co;rw [AU (l:=A)];cases A[k]? with
 | none=>show _*(0:Rat)=_*((0:Int):Rat)*_;ext
 | some v=>show _*(v:Rat)=_*(v:Rat)*_;ext
theorem S3 {l:cQ} {a b:Int} (c:Af l) (d:0<b) (k:Nat):C_ (l.map λq=>D_ q (a,b)) k=val (a,b)*C_ l k:=by
 unfold C_ Ad;rw [AU,AU,Ae];cases e:l[k]? with
 | none=>
   show val (0,1)=_*val (0,1);have:val (0,1)=0:=by unfold val;exact O' _
   rw [this];ext
 | some q=>
   show val (D_ q (a,b))=_*val q;rw [Hg (c q (BT e)).pos d];ext
def S6 {l:cQ} {a b:Int} (c:Af l) (d:0<b):Af (l.map λq=>D_ q (a,b)):=λq e=>by
 let {z,f,rfl}:=Au.mp e;exact F1 (c z f).pos d
def Mf:Low 1 1:={`b,`b}
def bdc {n:Nat} {x:Int} (h:x.natAbs<2 ^ n):Bd n x:=h
def sY (h:KU K vs H Q E):Qo K { nx:=λ_ Y=>Q .non Y,rt:=Q } (L2.start ["P","Q","factor"] vs) H:=by
 let {p,q,l,m,rfl,{xs,hp,Z},{ys,c,C},ll,N,nm,O,P,G,l9,m9,k}:=h;let p1:0<@m:=CN.mpr O;let {v,I,pv,rfl,b}:=C.at (i:=@m - 1) `a (0,1);let J:R_ ys (-1)=some (V.ref pv):=SQ (by rw [@C];exact p1) (by rw [@C];exact I);let R:Low (Ad m (@m - 1)).1 (Ad m (@m - 1)).2:=DN N _;let o:=Sv nm O
 let mL:Ad m (@m - 1)∈m:=by
  unfold Ad;rw [AU,Ak `a];exact Cu _
 let x:=G _ mL;let b:H pv=some (HO.tup [V.int (Ad m (@m - 1)).1,V.int (Ad m (@m - 1)).2]):=b;generalize a0:Ad m (@m - 1)=r at b R o x k;unfold Qo;rwa [];refine {sz `b,λw hw=>?_};let D:=AM hw (.tup [.int 1,.int 1]);let y:=D _ _ c;let d:=D _ _ b;let z:upd H w (.tup [.int 1,.int 1]) w=some (HO.tup [V.int 1,V.int 1]):=upd_same;generalize upd H w (.tup [.int 1,.int 1])=S at D y d z ⊢;refine {_,y,_,J,1,?_};rwa [d,z];let T:Bd 60000000 1:=(bdc (n:=1) `b).mono `b;refine {`b,o,T,T,x.1.mono `b,x.2.mono `b,λf hf=>?_};rw [Int.one_mul,Int.one_mul];let F:=DO (n:=r.2) o;let A:=F5 o x.2 x.1
 let U:val (Aq r.2 r.1)*val r=1:=by
  let z1:=Am o;let z2:=Am (AR R.pos);rw [Dp o];unfold val;ext
 generalize Aq r.2 r.1=a at F A U ⊢;let W:=AM hf (.tup [.int a.1,.int a.2]);let e:upd S f (.tup [.int a.1,.int a.2]) f=some (HO.tup [V.int a.1,V.int a.2]):=upd_same;generalize upd S f (.tup [.int a.1,.int a.2])=H4 at W e ⊢;let g:=D.trans W;let L:=g _ _ hp;rwa [L,e];refine {l,Z.tp (F_ g),ll,F.pos,A.1.mono `b,A.2.mono `b,λq c=>{(P q c).1.mono `b,(P q c).2.mono `b},`a,λu us H6 X hu nu=>?_};let j:=g.trans X;refine {_,j _ _ c,m,a.1,a.2,X _ _ e,C.tp (F_ j),N,F.pos,A.1.mono `b,A.2.mono `b,λq c=>{(G q c).1.mono `b,(G q c).2.mono `b},`a,λv vs H7 M I nv=>{sz `b,λt ht=>?_}};let B:=AM ht (.tup [.ref u,.ref v]);exact k a F U t u v _ ((j.trans M).trans B) upd_same {us,B _ _ (M _ _ hu),(nu.tp (F_ M)).tp (F_ B)} {vs,B _ _ I,nv.tp (F_ B)}
def sZ {f:Nu->Nu->Nu} {s:Int} (j:∀ q r:Nu,0<q.2->0<r.2->Low (f q r).1 (f q r).2/\val (f q r)=val q+(s:Rat)*val r) (u:s=1\/s = -1) {l m:cQ} {M:Int} {b c:Nat} (d:Af l) (g:Af m) (n:Ov l M) (v:Ov m M) (w:Bd c M) (x:∀ z∈S_ l M,Bd b z) (y:∀ z∈S_ m M,Bd b z) :
  Gq (b+1) c (trim (FU f l m))/\(trim (FU f l m)).length<=max @l @m/\∀ k,C_ (trim (FU f l m)) k=C_ l k+(s:Rat)*C_ m k:=by
 let a:Af (FU f l m):=λq h=>by
  let {i,_,rfl}:=Au.mp h;exact (j _ _ (DN d i).pos (DN g i).pos).1
 let pv:∀ k,C_ (trim (FU f l m)) k=C_ l k+(s:Rat)*C_ m k:=λk=>by
  rw [Hh a];rcases BY k (max @l @m) with c | c
  .let e:Ad (FU f l m) k=f (Ad l k) (Ad m k):=by
    unfold FU Ad;rw [AU,Ae,Dk c];rfl
   unfold C_;rw [e,(j _ _ (DN d k).pos (DN g k).pos).2]
  .rw [DG (by unfold FU;rw [AI,BZ];exact c),DG (l:=l) `a,DG (l:=m) `a];ext
 refine {HA (λq h=>a q (F2 h)) (He _) n.1 w (N:=λk=>(S_ l M).getD k 0+s*(S_ m M).getD k 0) (λk=>?_) λk=>?_,?_,pv}
 .rw [pv,F6 d n,F6 g v];push_cast;ext
 .let o:=E2 x k;let p:=E2 y k;rcases u with z | z
  .rw [z,Int.one_mul];exact o.add p
  .rw [z,show (S_ l M).getD k 0 + -1*(S_ m M).getD k 0=(S_ l M).getD k 0 - (S_ m M).getD k 0 by omega];exact o.sub p
 .refine BK (Ge _) ?_;unfold FU;rw [AI,BZ];exact AT _
def rB (h:KT K vs H Q E):QY K { nx:=λ_ j=>Q .non j,rt:=Q } (L2.start ["one","other"] vs) H:=by
 let {p,q,a,b,c,d,rfl,hp,m,e,f,n,g,o,i,k}:=h;unfold QY;rwa [hp,m];exact {C4 n i,C4 o g,C4 g i,AR (Bt e f),λr u=>by rw [G4 (Bt e f)];exact k r u}
def rC (h:Ir K vs H Q E):Qe K { nx:=λ_ b=>Q .non b,rt:=Q } (L2.start ["P","place"] vs) H:=by
 let {p,g,l,i,rfl,hp,a,q}:=h;unfold Qe;rwa [hp];let j:=@a;refine Aa (λc=>?_) (λc=>{sz `b,λr d=>q _ _ (AM d _) ?_})
 .let {v,e,f}:=a.at (i:=i) `a (0,1);exact {v,Nv e,q v H (Same.refl H) f}
 .rw [Lb `a];exact Hl (q:=(0,1))
theorem S7 {l:cQ} {M:Int} {b c:Nat} (a:Af l) (O:Ov l M) (d:Bd c M) (f:∀ z∈S_ l M,Bd b z) (i:Nat):Bd (b+1) (Ad l i).1/\Bd (c+1) (Ad l i).2:=by
 unfold Ad;rw [AU];cases e:l[i]? with
 | none=>exact {DF _,(bdc (n:=1) `b).mono `a}
 | some q=>
   let m:=BT e;exact {(SR a O f q m).mono `a,(Dz (AR O.1) (O.2 q m) d).mono `a}
def Mh {P A C:cQ} (f:Af P) (g:Nz P) (j:Af A) (nA:Nz A) (b:A≠[]) (m:Af C) (o:Nz C) (C0:C≠[]) (h:∀ k,C_ P k=cv (C_ A) (C_ C) @A k) :
  @P+1=@A+@C/\C_ P (@P - 1)=C_ A (@A - 1)*C_ C (@C - 1)/\P≠[]:=by
 let u:0<@A:=CN.mpr b;let v:0<@C:=CN.mpr C0
 let a:∀ k,@A+@C - 1<=k->C_ P k=0:=λk hk=>by
  rw [h,Km];exact KE (n:=@C - 1) (λi a=>DG `a) _ _ (by rw [AI,BZ];omega)
 let top:C_ P (@A - 1+(@C - 1))=C_ A (@A - 1)*C_ C (@C - 1):=by
  rw [h];let {n,e}:∃ n,@A=n+1:={@A - 1,`a};rw [e];show cv (C_ A) (C_ C) n (n+1 - 1+(@C - 1))+_=_
  let z:cv (C_ A) (C_ C) n (n+(@C - 1))=0:=by
   rw [Km];exact KE (n:=@C - 1) (λi a=>DG `a) _ _ (by rw [AI,BZ];omega)
  rw [Nat.add_sub_cancel,z,jE `a,show n+(@C - 1) - n=@C - 1 by omega,Rat.zero_add]
 let p:C_ P (@A - 1+(@C - 1))≠0:=by
  rw [top];intro z;rcases Rat.mul_eq_zero.mp z with q | q
  .exact E9 j nA b q
  .exact E9 m o C0 q
 let w:@A - 1+(@C - 1)<@P:=by
  rcases BY (@A - 1+(@C - 1)) @P with c | c
  .exact c
  .exact absurd (DG c) p
 let d:P≠[]:=CN.mp `a
 let r:@P=@A - 1+(@C - 1)+1:=by
  rcases BY (@A - 1+(@C - 1)+1) @P with c | c
  .exact absurd (a (@P - 1) `a) (E9 f g d)
  .omega
 exact {`a,by rw [r,Nat.add_sub_cancel];exact top,d}
def rD {B:cQ} (a:Af B) (h:C_ B (@B - 1)=1):Ad B (@B - 1)=(1,1):=by
 refine Do (DN a _) Mf ?_;have:val ((1:Int),(1:Int))=1:=by unfold val;show ((1:Int):Rat) / ((1:Int):Rat)=1;rw [show ((1:Int):Rat)=1 from rfl];ext
 rw [this];exact h
def JI {B:cQ} (h:Ad B (@B - 1)=(1,1)):C_ B (@B - 1)=1:=by
 unfold C_;rw [h];unfold val;show ((1:Int):Rat) / ((1:Int):Rat)=1;rw [show ((1:Int):Rat)=1 from rfl];ext
def FF.same {H d:Hp} {p:Addr} {T B:cQ} (h:FF H p T B) (s:Same H d):FF d p T B:=let ⟨u,v,a,b,c⟩:=h;⟨u,v,s _ _ a,b.same s,c.same s⟩
def S8 {l a:cQ} {g:d6} {b c n e d:Nat} (Gl:Gq b c l) (f:Af a) (h:Nz a) (i:@l<=n) (j:n<2 ^ e) (o:Lz g) (P:Prim g) (p:Bd d (co g (@g - 1))) (m:MQ (co g) (co (AV l))) (q:∀ k,C_ l k=cv (C_ a) (C_ (L' g)) @a k):Gq (d+(b+n*(2*e+4))) c a:=by
 let {A,r,u}:=Me Gl.low f Gl.clr.1 i j o P m q;exact HA f h (Cb Gl.low).1 Gl.clr.2.1 (N:=λk=>co g (@g - 1)*co A k) (λk=>by rw [u,Rat.div_def];push_cast;rfl) λk=>Bd.mul p (r k)
def rE {b c:Nat} {l m:cQ} (g:Gq b c l) (h:Gq b c m):∃ M,Ov l M/\Ov m M/\Bd (c+c) M/\(∀ z∈S_ l M,Bd (b+c) z)/\∀ z∈S_ m M,Bd (b+c) z:=by
 let a:∀ {l:cQ} {M N:Int},Af l->Ov l M->(∀ z∈S_ l M,Bd b z)->0<N->Bd c N->Ov l (M*N)/\∀ z∈S_ l (M*N),Bd (b+c) z:=λ{l M N} A O p r d=>by
  refine {{Bt O.1 r,λq f=>GN (O.2 q f)},λz u=>?_};let {q,f,rfl}:=Au.mp u;let e:M*N / q.2=M / q.2*N:=Int.mul_ediv_assoc' N (O.2 q f);rw [e,<-Int.mul_assoc];exact (p _ (Au.mpr ⟨q,f,rfl⟩)).mul d
 let {M,i,j,v}:=g.ov;let {N,k,d,w}:=h.ov;let {x,y}:=a g.low i v k.1 d;let {n,o}:=a h.low k w i.1 j;rw [CK N M] at n o;exact {M*N,x,n,j.mul d,y,o}
def Kq (l:cQ):sr l=Sr.L (rw' l):=Sr.ext' λk=>(Kn l k).symm
def BS (l:cQ):Sr.Pol (sr l):={_,Kq l}
def rF (l:cQ) (g:dt):(⟨cvL (rw' l) g⟩:Sr)=sr l*⟨g⟩:=by rw [Kq,Sr.L_mul]
def Fc {P A C:cQ} (h:∀ k,C_ P k=cv (C_ A) (C_ C) @A k):sr P=sr A*sr C:=by
 refine Eq.trans ?_ (rF A (C_ C));exact Sr.ext' λk=>(h k).trans (Ko _ _ _)
def Fd {l:cQ} (a:Af l) (b:Nz l) (c:l≠[]):sr l≠0:=λz=>E9 a b c (by
 have:=jN (congrArg Sr.c z) (@l - 1);rw [Sr.zero_c] at this;exact this)
def rG {l m:cQ} (a:Af l) (b:Af m) (c:Nz l) (d:Nz m) (h:sr l=sr m):l=m:=Z4 a b c d λk=>jN (congrArg Sr.c h) k
def Mi (k:Nat):(1:Sr).c k=Ay k:=by show ((1:Nat):Rat)*Ay k=_;push_cast;ext
def sr_cop {T B:cQ}:Cop (C_ T) (C_ B)↔Sr.Cs (sr T) (sr B):=by
 constructor
 .rintro ⟨U,W,e⟩;refine {Sr.L U,Sr.L W,Sr.Pol.L _,Sr.Pol.L _,?_};rw [Sr.L_mul,Sr.L_mul];exact Sr.ext' λk=>by rw [Mi,e k];rfl
 .rintro ⟨_,_,⟨U,rfl⟩,⟨W,rfl⟩,e⟩;refine {U,W,λk=>?_};rw [Sr.L_mul,Sr.L_mul] at e;have:=jN (congrArg Sr.c e) k;rw [Mi] at this;exact this.symm
def rH (h:Ly K vs H Q E):Qf K { nx:=λ_ e=>Q .non e,rt:=Q } (L2.start ["P","Q"] vs) H:=by
 let {p,q,U,W,l,m,M,b,c,rfl,hp,J,L,N,B,C,O,P,D,n,o,b9,c9,ll,lm,k}:=h;unfold Qf;rwa [hp,J];let X:=@L;let Y:=@N;rw [uC,X,Y];refine {`a,`a,CompJ.range (λi w e=>i<=max @l @m/\Same H e/\Nums e w ((List.range i).map λi=>C' (Ad l i) (Ad m i))) {Ah _,Same.refl H,trivial} ?_ ?_ ?_}
 .rintro i w e ⟨x,d,y⟩;exact {x,sz (by rw [@y,AI,BZ];omega)}
 .rintro i w e hi ⟨x,d,y⟩;rwa [];rw [show (0:Int)+(i:Int)=(i:Int) by omega];refine {U,l,i,2,d _ _ hp,L.tp (F_ d),λv H1 g Z=>{W,m,i,2,g _ _ (d _ _ J),N.tp (F_ (d.trans g)),λu H2 z hu=>?_}};let {pv,rfl,F}:=Z.tp (F_ z);let {pu,rfl,G}:=hu;let R:=S7 B O D n i;let S:=S7 C P D o i;refine {pv,2,pu,2,9,F,9,G,(DN B i).pos,(DN C i).pos,R.1.mono `a,R.2.mono `a,S.1.mono `a,S.2.mono `a,λr A=>{`a,((d.trans g).trans z).trans (AM A _),?_}};rw [uD];exact (y.tp (F_ ((g.trans z).trans (AM A _)))).append (Nums.one Hl)
 .rintro w e ⟨_,d,y⟩ a ha;rwa [];let g:=AM ha (.lst w);let j:=sZ (f:=C') (s:=1) (λq r x T=>{FT x T,by rw [F4 x T];ext}) (.inl rfl) B C O P D n o;refine {_,y.tp (F_ g),by rw [AI,BZ];omega,λr os I z A hz=>?_};exact k r _ I ((d.trans g).trans z) ⟨os,A,hz⟩ j.1 j.2.1 λk=>by have:=j.2.2 k;exact this
theorem JJ (p:dq):∀ (w:d6) (k:Nat),((cvL w p k:Int):Rat)=cvL (w.map λz:Int=>(z:Rat)) (λk=>(p k:Rat)) k
 | [],_=>rfl
 | x::w,0=>by rw [BA];show _=(x:Rat)*(p 0:Rat)+0;push_cast;rfl
 | x::w,k+1=>by rw [As];show _=(x:Rat)*(p (k+1):Rat)+cvL (w.map λz:Int=>(z:Rat)) (λk=>(p k:Rat)) k;rw [<-JJ p w k];push_cast;rfl
def D3 (ns:d6):si ns=Sr.L (ns.map λz:Int=>(z:Rat)):=Sr.ext' λk=>by
 show ((co ns k:Int):Rat)=cvL _ Ay k;rw [DH];unfold co;rw [AU,AU,Ae];cases ns[k]? <;> rfl
def CF (ns:d6):Sr.Pol (si ns):={_,D3 ns}
def IC {ns a b:d6} (h:∀ k,co ns k=cvL a (co b) k):si ns=si a*si b:=by
 rw [D3 a,Sr.L_mul];refine Sr.ext' λk=>?_;show ((co ns k:Int):Rat)=cvL _ (λk=>((co b k:Int):Rat)) k;rw [h k,JJ]
def Fe {ns:d6} (h:Lz ns):si ns≠0:=λz=>h.2 (by
 have:=jN (congrArg Sr.c z) (@ns - 1);rw [Sr.zero_c] at this;let this:((co ns (@ns - 1):Int):Rat)=0:=this;exact_mod_cast this)
def rJ (ns:d6):Sr.Bn (si ns) @ns:=λk hk=>by
 show ((co ns k:Int):Rat)=0;rw [Ao hk];rfl
def JK {g:Int} (a:d6):si (a.map (g*·))=Sr.num (g:Rat)*si a:=Sr.ext' λk=>by
 rw [Sr.num_mul];show ((co (a.map (g*·)) k:Int):Rat)=(g:Rat)*((co a k:Int):Rat)
 let e:co (a.map (g*·)) k=g*co a k:=by
  unfold co;rw [AU,AU,Ae];cases a[k]? with
  | none=>simp
  | some z=>rfl
 rw [e];push_cast;rfl
namespace Sr
def num_num (x y:Rat):num x*num y=num (x*y):=ext' λk=>by
 rw [num_mul];show x*(y*Ay k)=x*y*Ay k;ext
def num_one:num 1=1:=congrArg num (show (1:Rat)=((1:Nat):Rat) by push_cast;rfl)
def num_inv {x:Rat} (h:x≠0):num x⁻¹*num x=1:=by
 rw [num_num,Rat.inv_mul_cancel _ h];exact num_one
end Sr
def rK {x:Rat} (h:x≠0):x⁻¹≠0:=λz=>by
 have:=Rat.inv_mul_cancel _ h;rw [z] at this;ext
def S9 {g f:d6} (m:MQ (co g) (co f)):∃ B,Sr.Pol B/\si f=B*si g:=by
 let {c,a,A,h}:=m;let c1:=Am a;refine {Sr.num ((c:Rat)⁻¹)*si A,(Sr.Pol.num _).mul (CF A),?_}
 let e:Sr.num (c:Rat)*si f=si A*si g:=by
  rw [<-JK];refine IC λk=>?_;rw [<-h k];unfold co;rw [AU,AU,Ae];cases f[k]? with
  | none=>simp
  | some z=>rfl
 let i:=Sr.num_inv c1;have:si f=Sr.num ((c:Rat)⁻¹)*Sr.num (c:Rat)*si f:=by rw [i];ext
 rw [this,show Sr.num ((c:Rat)⁻¹)*Sr.num (c:Rat)*si f=Sr.num ((c:Rat)⁻¹)*(Sr.num (c:Rat)*si f) by ext,e];ext
def rL {r o g:d6} (R:RC (co r) (co o) g) {A B:Sr} (a:Sr.Pol A) (b:Sr.Pol B) (c:si r=A*si g) (f:si o=B*si g):Sr.Cs A B:=by
 let {d,i,U,W,h}:=R.qi
 let e:Sr.num (d:Rat)*si g=si U*si r+si W*si o:=by
  rw [D3 U,D3 W,Sr.L_mul,Sr.L_mul];refine Sr.ext' λk=>?_;rw [Sr.num_mul];show (d:Rat)*((co g k:Int):Rat)=cvL _ (λk=>((co r k:Int):Rat)) k+cvL _ (λk=>((co o k:Int):Rat)) k;rw [<-JJ,<-JJ];exact_mod_cast h k
 let j:Sr.num (d:Rat)=si U*A+si W*B:=Sr.cancel (Sr.Pol.num _) (((CF U).mul a).add ((CF W).mul b)) (CF g) (Fe R.lz) (by rw [e,c,f];ext);exact Sr.Cs.of_unit (Am i) rfl (CF U) (CF W) j.symm
def DvI (a g:d6):Prop:=∃ A:d6,∀ k,co a k=cvL A (co g) k
def DvI.len {a g:d6} (h:DvI a g) (b:Lz a) (c:Lz g):@g<=@a:=G7 c b (by
 let {A,d}:=h;exact ⟨1,`b,A,λk=>by rw [Int.one_mul];exact d k⟩)
def Mj {ns:d6} (h:Lz ns):sr (L' ns)=Sr.num ((co ns (@ns - 1):Rat))⁻¹*si ns:=Sr.ext' λk=>by
 rw [Sr.num_mul];exact Fb h k
def GG {l:cQ} (h:Af l):sr l=Sr.num ((Ag l:Rat))⁻¹*si (AV l):=Sr.ext' λk=>by
 rw [Sr.num_mul];exact Fa h k
def W_ {x y:Rat} (a:x≠0) (b:y≠0):x*y≠0:=λz=>by
 rcases Rat.mul_eq_zero.mp z with z | z
 .exact a z
 .exact b z
def rM (l:cQ):Sr.Bn (sr l) @l:=λk hk=>DG hk
structure Mon (b:Nat) (R:cQ):Prop where
 gq:Gq b b R
 ne:R≠[]
 one:Ad R (@R - 1)=(1,1)
def Mon.top {b:Nat} {R:cQ} (h:Mon b R):(sr R).c (@R - 1)=1/\Sr.Bn (sr R) (@R - 1+1):=by
 have:=CN.mpr h.ne;exact {JI h.one,by rw [Nat.sub_add_cancel this];exact rM R}
def rO {R:cQ} {Y:Sr} {n:Nat} (f:Af R) (g:Nz R) (e:sr R=Y) (i:Y.c n≠0) (j:Sr.Bn Y (n+1)):R≠[]/\@R=n+1/\C_ R (@R - 1)=Y.c n:=by
 let a:C_ R n=Y.c n:=jN (congrArg Sr.c e) n
 let b:n<@R:=by
  rcases BY n @R with h | h
  .exact h
  .exact absurd (a.symm.trans (DG h)) i
 let c:R≠[]:=λz=>by rw [z] at b;simp at b
 let d:@R=n+1:=by
  rcases BY (n+1) @R with h | h
  .let z:=E9 f g c;exact absurd ((jN (congrArg Sr.c e) (@R - 1)).trans (j _ `a)) z
  .omega
 exact {c,d,by rw [d];exact a}
theorem rQ:∀ (n:Nat) (D:d6),Lz D->(co D (@D - 1)).natAbs<=n->∃ (g:Int) (P:d6),g≠0/\D=P.map (g*·)/\Prim P/\Lz P/\@P=@D:=by
 intro n
 induction n with
 | zero=>intro D l h;exact absurd (Int.natAbs_eq_zero.mp `a) l.2
 | succ n p=>
   intro D l h;by_cases d:Prim D
   .exact ⟨1,D,`b,by simp,d,l,rfl⟩
   .let {c,f}:=Classical.not_forall.mp d;let a:∀ k,c∣co D k:=Classical.byContradiction λz=>f λy=>absurd y z;let q:c.natAbs≠1:=λz=>f λ_=>z;let j:c≠0:=λz=>l.2 (by have:=a (@D - 1);rw [z] at this;exact Int.zero_dvd.mp this)
    let e:D=(D.map (·/ c)).map (c*·):=by
     rw [DW];refine (List.map_id D).symm.trans (FE λz r=>?_);let {i,u,rfl}:=ET r;have:=a i;unfold co at this;rw [AU,Ak u] at this;exact (FG this).symm
    let b:(D.map (·/ c)).length=@D:=AI ..
    let m:∀ k,co D k=c*co (D.map (·/ c)) k:=λk=>by
     have:=jN (congrArg Sr.c (JK (g:=c) (D.map (·/ c)))) k;rw [<-e,Sr.num_mul] at this;let this:((co D k:Int):Rat)=(c:Rat)*((co (D.map (·/ c)) k:Int):Rat):=this;exact_mod_cast this
    let o:Lz (D.map (·/ c)):={by rw [b];exact l.1,λz=>l.2 (by rw [b] at z;rw [m,z,EC])}
    let v:(co (D.map (·/ c)) ((D.map (·/ c)).length - 1)).natAbs<=n:=by
     let w:=m (@D - 1);rw [b];rw [w,Bp] at h;let G:(co (D.map (·/ c)) (@D - 1)).natAbs≠0:=λz=>o.2 (by rw [b];exact Int.natAbs_eq_zero.mp z);let x:2<=c.natAbs:=by have:=Int.natAbs_pos.mpr j;omega
     have:=CV (co (D.map (·/ c)) (@D - 1)).natAbs x;omega
    let {g,P,A,B,C,F,ll}:=p _ o v;refine {c*g,P,CA j A,?_,C,F,`a};rw [e,B,DW];refine FE λz _=>?_;show c*(g*z)=c*g*z;ext
theorem TC:∀ a:List Rat,∃ c:Int,c≠0/\∃ A:d6,∀ k,(c:Rat)*a.getD k 0=((A.getD k 0:Int):Rat)
 | []=>⟨1,`b,[],λk=>by simp⟩
 | x::a=>by
   let {c,d,A,h}:=TC a;let b:((x.den:Int))≠0:=by have:=x.den_pos;omega
   let f:(x.den:Rat)*x=(x.num:Rat):=by
    let g:(x.num:Rat) / ((x.den:Int):Rat)=x:=(Rat.divInt_eq_div x.num (x.den:Int)).symm.trans (Rat.num_divInt_den x);let i:=Am b;let j:((x.den:Int):Rat)=(x.den:Rat):=rfl;rw [j] at g i;ext
   refine {c*x.den,CA d b,(c*x.num)::A.map (λz=>(x.den:Int)*z),λk=>?_};cases k with
   | zero=>
     show ((c*x.den:Int):Rat)*x=((c*x.num:Int):Rat);push_cast;rw [Rat.mul_assoc,f]
   | succ k=>
     show ((c*x.den:Int):Rat)*a.getD k 0=(((A.map λz=>(x.den:Int)*z).getD k 0:Int):Rat)
     let e:(A.map λz=>(x.den:Int)*z).getD k 0=(x.den:Int)*A.getD k 0:=by
      rw [AU,AU,Ae];cases A[k]? <;> simp
     rw [e];have:=h k;push_cast at this ⊢;ext
def Ks {f g:d6} {Y:Sr} (d:Sr.Pol Y) (e:si f=Y*si g):MQ (co g) (co f):=by
 let {a,rfl}:=d;let {c,i,A,h}:=TC a;refine {c,i,A,λk=>?_}
 let m:si A=Sr.num (c:Rat)*Sr.L a:=Sr.ext' λj=>by
  rw [Sr.num_mul];show ((A.getD j 0:Int):Rat)=(c:Rat)*cvL a Ay j;rw [DH];exact (h j).symm
 let b:Sr.num (c:Rat)*si f=si A*si g:=by rw [e,m];ext
 rw [D3 A,Sr.L_mul] at b;have:=jN (congrArg Sr.c b) k;rw [Sr.num_mul] at this;let this:(c:Rat)*((co f k:Int):Rat)=cvL (A.map λz:Int=>(z:Rat)) (λk=>((co g k:Int):Rat)) k:=this;rw [<-JJ] at this;exact_mod_cast this
def TD {l:cQ} (a:Af l) (b:Nz l) (c:l≠[]):∃ (x:Rat) (P:d6),x≠0/\sr l=Sr.num x*si P/\Prim P/\Lz P/\@P=@l:=by
 let d:Lz (AV l):=Du (FZ a b) (λz=>c (CU.mp (by rw [<-CT,z];rfl)));let {g,P,f,e,h,i,j}:=rQ _ _ d (AT _);refine {((Ag l:Rat))⁻¹*(g:Rat),P,W_ (rK (Am (AR (Cb a).1))) (Am f),?_,h,i,by rw [j,CT]};rw [GG a,e,JK,<-Sr.num_num];ext
def TF {P:d6} {d:Nat} (b:Lz P) (e:∀ k,Bd d (co P k)):Mon d (L' P):=by
 let a:=b.2;refine {HA (IA b) (JG b) (M:=((co P (@P - 1)).natAbs:Int)) `a ?_ (N:=λk=>if 0<co P (@P - 1) then co P k else - co P k) (λk=>?_) (λk=>?_),?_,?_}
 .show ((co P (@P - 1)).natAbs:Int).natAbs<2 ^ d;rw [C8];exact e _
 .rw [Kk b];by_cases c:0<co P (@P - 1)
  .rw [jE c,Int.natAbs_of_nonneg `a]
  .rw [jD c,show ((co P (@P - 1)).natAbs:Int) = - co P (@P - 1) by omega];let c1:=Am a;push_cast;ext
 .split
  .exact e k
  .exact (e k).neg
 .intro z;let f:(L' P).length=0:=by rw [z];rfl
  rw [Eh] at f;have:=b.1;omega
 .refine Do (DN (IA b) _) {`b,`b} ?_;show C_ (L' P) _=_;rw [Eh,Kk b];let c1:=Am a;unfold val;show _=((1:Int):Rat) / ((1:Int):Rat);push_cast;ext
def rR {c:Nat} {p q:cQ} {x:Rat} (d:Af p) (f:Nz p) (m:p≠[]) (g:Ad p (@p - 1)=(1,1)) (b:Mon c q) (h:x≠0) (e:sr p=Sr.num x*sr q):p=q:=by
 let t:(Sr.num x*sr q).c (@q - 1)=x:=by rw [Sr.num_mul,b.top.1];ext
 let i:Sr.Bn (Sr.num x*sr q) (@q - 1+1):=λk hk=>by rw [Sr.num_mul,b.top.2 k hk];ext
 let {_,len,a}:=rO d f e (by rw [t];exact h) i;let j:x=1:=by rw [<-t,<-a,JI g]
 rw [j,Sr.num_one] at e;exact rG d b.gq.low f b.gq.nz (by rw [e];ext)
def TH {R:d6} {Y:Sr} {n:Nat} (l:Lz R) (e:si R=Y) (c:Y.c n≠0) (d:Sr.Bn Y (n+1)):@R=n+1/\((co R (@R - 1):Int):Rat)=Y.c n:=by
 let a:((co R n:Int):Rat)=Y.c n:=jN (congrArg Sr.c e) n
 let f:n<@R:=by
  rcases BY n @R with h | h
  .exact h
  .rw [Ao h] at a;exact absurd a.symm c
 let b:@R=n+1:=by
  rcases BY (n+1) @R with h | h
  .let z:((co R (@R - 1):Int):Rat)=0:=(jN (congrArg Sr.c e) (@R - 1)).trans (d _ `a);exact absurd (by exact_mod_cast z) l.2
  .omega
 exact {b,by rw [b];exact a}
def rS {T B:cQ} {N D:d6} {b n e:Nat} (h:Lw T B) (g:Lz D) (tN:Tz N) (R:∀ z∈N,Bd b z) (S:∀ z∈D,Bd b z) (n1:@N<=n) (n2:@D<=n) (X:n<2 ^ e) (Z:sr T*si D=si N*sr B) :
  Gq (b+(b+n*(2*e+4))) (b+(b+n*(2*e+4))) T/\Gq (b+n*(2*e+4)) (b+n*(2*e+4)) B/\@T<=@N/\@B<=@D:=by
 let {U,W,pU,pW,h1}:=h.cs
 let o:si D=(U*si N+W*si D)*sr B:=by
  have:si D=(U*sr T+W*sr B)*si D:=by rw [h1];ext
  calc si D=(U*sr T+W*sr B)*si D:=this
   _=U*(sr T*si D)+W*sr B*si D:=by ext
   _=_:=by rw [Z];ext
 generalize hY:U*si N+W*si D=Y at o;let p:Sr.Pol Y:=by rw [<-hY];exact (pU.mul (CF N)).add (pW.mul (CF D))
 let {x,P,x0,eB,pP,i,pl}:=TD h.lb h.nb h.ne;let {A,hA}:=U_ pP (Ks (p.mul (Sr.Pol.num x)) (show si D=Y*Sr.num x*si P by rw [o,eB];ext));let gl:@P<=@D:=DvI.len ⟨A,hA⟩ g i;let bP:∀ k,Bd (b+n*(2*e+4)) (co P k):=JA S {_,g.2} n2 `a X hA
 let hB:B=L' P:=by
  let mB:Mon (b+n*(2*e+4)) (L' P):=TF i bP;let x1:x*(co P (@P - 1):Rat)≠0:=W_ x0 (Am i.2);refine rR h.lb h.nb h.ne h.one mB x1 ?_;rw [eB,Mj i,<-Sr.num_num]
  let iP:Sr.num (co P (@P - 1):Rat)*Sr.num ((co P (@P - 1):Rat))⁻¹=1:=by
   have:=Sr.num_inv (Am i.2);ext
  ext
 let C:Gq (b+n*(2*e+4)) (b+n*(2*e+4)) B:=by rw [hB];exact (TF i bP).gq
 let lB:@B<=@D:=by rw [hB,Eh];exact gl
 let B0:=Fd h.lb h.nb h.ne
 let F:si N=Y*sr T:=by
  refine Sr.cancel (CF N) (p.mul (BS T)) (BS B) B0 ?_;rw [<-Z,show sr T*si D=sr T*(Y*sr B) from congrArg _ o];ext
 by_cases G:T=[]
 .subst G;refine {⟨h.lt,h.nt,1,{`b,(λ_ h=>nomatch h)},bdc (by show 1<2 ^ _;exact Nat.one_lt_two_pow (by have:=g.1;have:0<n*(2*e+4):=Nat.mul_pos `a `a;omega)),(λ_ h=>nomatch h)⟩,C,Ah _,lB}
 let D0:=Fe g;let Y0:Y≠0:=λz=>D0 (by rw [o,z];ext);let TT:=Fd h.lt h.nt G;let N0:si N≠0:=by rw [F];exact Sr.ne_mul p (BS T) Y0 TT
 let Nn:N≠[]:=λz=>N0 (by rw [z,D3 []];exact Sr.L_nil);let I:Lz N:=Du tN Nn;let {y,a,y0,J,pQ,v,ql}:=TD h.lt h.nt G;let {A2,u}:=U_ pQ (Ks (p.mul (Sr.Pol.num y)) (show si N=Y*Sr.num y*si a by rw [F,J];ext));let a0:@a<=@N:=DvI.len ⟨A2,u⟩ I v;let bQ:∀ k,Bd (b+n*(2*e+4)) (co a k):=JA R {_,I.2} n1 `a X u;let {m,hm}:=p.bn;rcases Sr.top_ex m hm with z | ⟨j,_,j0,jb⟩
 .exact absurd z Y0
 let MB:Mon (b+n*(2*e+4)) B:=⟨C,h.ne,h.one⟩;let w:=Sr.top_mul jb MB.top.2;rw [MB.top.1] at w;let {_,dD}:=TH g o (n:=j+(@B - 1)) (by rw [w.1];intro z;exact j0 ()) w.2;rw [w.1] at dD;let L:Sr.Bn (si a) (@a - 1+1):=by rw [Nat.sub_add_cancel v.1];exact rJ a
 let d:=Sr.top_mul (f:=Y*Sr.num y) (m:=j) (λk hk=>by rw [show Y*Sr.num y=Sr.num y*Y by ext,Sr.num_mul,jb k hk];ext) L;let cY:(Y*Sr.num y).c j=y*Y.c j:=by rw [show Y*Sr.num y=Sr.num y*Y by ext,Sr.num_mul]
 rw [cY] at d;let O:(si a).c (@a - 1)=(co a (@a - 1):Rat):=rfl;rw [O] at d;let q1:=Am v.2;let {_,dN}:=TH I (show si N=Y*Sr.num y*si a by rw [F,J];ext) (n:=j+(@a - 1)) (by rw [d.1];exact W_ (W_ y0 j0) q1) d.2;rw [d.1] at dN;let d1:=Am g.2;let mz:co D (@D - 1)*co a (@a - 1)≠0:=CA g.2 v.2;let bm:Bd (b+(b+n*(2*e+4))) (co D (@D - 1)*co a (@a - 1)):=Bd.mul (D1 S _) (bQ _);let bt:∀ k,Bd (b+(b+n*(2*e+4))) (co N (@N - 1)*co a k):=λk=>Bd.mul (D1 R _) (bQ k)
 let pT:∀ k,C_ T k=((co N (@N - 1)*co a k:Int):Rat) / ((co D (@D - 1)*co a (@a - 1):Int):Rat):=λk=>by
  let e1:C_ T k=y*((co a k:Int):Rat):=by
   have:=jN (congrArg Sr.c J) k;rw [Sr.num_mul] at this;exact this
  rw [e1];push_cast;rw [dN,dD];generalize ((co a (@a - 1):Int):Rat)=q at *;generalize ((co a k:Int):Rat)=r at *;ext
 refine {HA h.lt h.nt (M:=((co D (@D - 1)*co a (@a - 1)).natAbs:Int)) `a ?_ (N:=λk=>if 0<co D (@D - 1)*co a (@a - 1) then co N (@N - 1)*co a k else - (co N (@N - 1)*co a k)) (λk=>?_) (λk=>?_),C,`a,lB}
 .show ((co D (@D - 1)*co a (@a - 1)).natAbs:Int).natAbs<2 ^ _;rw [C8];exact bm
 .rw [pT k];generalize co D (@D - 1)*co a (@a - 1)=M at *;generalize co N (@N - 1)*co a k=r at *;by_cases c:0<M
  .rw [jE c,Int.natAbs_of_nonneg `a]
  .rw [jD c,show (M.natAbs:Int) = - M by omega];let c1:=Am mz;push_cast;ext
 .split
  .exact bt k
  .exact (bt k).neg
def Kt {T B:cQ} {N D:Sr} (h:Lw T B) (a:Sr.Pol N) (b:Sr.Pol D) (c:sr T*D=N*sr B):∃ Y,Sr.Pol Y/\D=Y*sr B/\N=Y*sr T:=by
 let {U,W,d,e,g}:=h.cs
 let f:D=(U*N+W*D)*sr B:=by
  have:D=(U*sr T+W*sr B)*D:=by rw [g];ext
  calc D=(U*sr T+W*sr B)*D:=this
   _=U*(sr T*D)+W*sr B*D:=by ext
   _=_:=by rw [c];ext
 refine {U*N+W*D,(d.mul a).add (e.mul b),f,?_};refine Sr.cancel a (((d.mul a).add (e.mul b)).mul (BS T)) (BS B) (Fd h.lb h.nb h.ne) ?_;rw [<-c,show sr T*D=sr T*((U*N+W*D)*sr B) from congrArg _ f];ext
def Mk {l:cQ} {N:d6} {Y:Sr} {b n e:Nat} (f:Af l) (c:Lz N) (h:∀ z∈N,Bd b z) (i:@N<=n) (j:n<2 ^ e) (k:Sr.Pol Y) (m:si N=Y*sr l):Fp (b+n*(2*e+4)) (AV l):=λg o p q=>by
 let {r,a,u}:=S9 q;let {A,d}:=U_ p (Ks ((k.mul (Sr.Pol.num _)).mul a) (show si N=Y*Sr.num ((Ag l:Rat))⁻¹*r*si g by rw [m,GG f,u];ext));let v:@g<=@N:=DvI.len ⟨A,d⟩ c o;exact JA h {_,c.2} i `a j d
def Fp.mono {x y:Nat} {ns:d6} (h:Fp x ns) (e:x<=y):Fp y ns:=λg a b c k=>(h g a b c k).mono e
def Ml {l:cQ} (a:Af l) (b:Nz l) (c:l≠[]):Lz (AV l):=Du (FZ a b) λz=>c (CU.mp (by rw [<-CT,z];rfl))
def TJ {b c n e:Nat} {l:cQ} (G:Gq b c l) (f:l≠[]) (h:@l<=n) (i:n<2 ^ e):Fp (b+n*(2*e+4)) (AV l):=λg j k a=>by
 let d:=Ml G.low G.nz f;let {A,m}:=U_ k a;let o:@g<=@l:=by have:=G7 j d a;rw [CT] at this;exact this
 exact JA G.clr.1 {_,d.2} (by rw [CT];exact h) `a i m
def rT {x:Nat} {l m:cQ} {Y:Sr} (c:Af l) (b:Af m) (d:Sr.Pol Y) (e:sr m=Y*sr l) (h:Fp x (AV m)):Fp x (AV l):=λg f j k=>by
 let {q,a,n}:=S9 k;refine h g f j (Ks (((Sr.Pol.num (Ag m:Rat)).mul d).mul ((Sr.Pol.num ((Ag l:Rat))⁻¹).mul a)) ?_);let i:=Sr.num_inv (Am (AR (Cb b).1));let o:=GG b;let p:si (AV m)=Sr.num (Ag m:Rat)*sr m:=by rw [o];ext
 rw [p,e,GG c,n];ext
def Rp.facts {b n m e:Nat} {T B:cQ} (h:Rp b n m T B) (o:n<2 ^ e) (p:m<2 ^ e) :
  Gq (b+(b+max n m*(2*e+4))) (b+(b+max n m*(2*e+4))) T/\Gq (b+max n m*(2*e+4)) (b+max n m*(2*e+4)) B/\@T<=n/\@B<=m/\(T≠[]->Fp (b+n*(2*e+4)) (AV T))/\Fp (b+m*(2*e+4)) (AV B):=by
 let {N,D,a,d,f,g,nN,q,i}:=h.rp;let {r,u,x,y}:=rS h.lw a d f g (show @N<=max n m by omega) (show @D<=max n m by omega) (show max n m<2 ^ e by omega) i;let {Y,c,j,k}:=Kt h.lw (CF N) (CF D) i;refine {r,u,`a,`a,λv=>?_,Mk h.lw.lb a g q p c j};refine Mk h.lw.lt (Du d λz=>?_) f nN o c k;let w:Y≠0:=λz=>Fe a (by rw [j,z];ext);have:=Sr.ne_mul c (BS T) w (Fd h.lw.lt h.lw.nt v);exact this (by rw [<-k,z,D3 []];exact Sr.L_nil)
def C0.dd {x n m e:Nat} (h:C0 x n m e):x*2<=44490/\∀ y,y<=n+m->y*(x+1)<=44490/\y*x<=44490:=by
 let c:=h.lu;let d:=h.n1;let f:=h.m1
 let k:∀ y,y<=n+m->y*(x+1)<=44490/\y*x<=44490:=λy a=>by
  let b:y*(x+1)<=(n+m)*(x+e+2):=DB a `a;let g:y*x<=y*(x+1):=Em _ `a;rw [C6 (n+m)] at b;omega
 exact {by have:=(k 2 `a).2;omega,k}
def C0.ml {x n m e:Nat} (h:C0 x n m e):max n m<2 ^ e/\max n m*(2*e+4)<=960:=by
 have:=h.ne;have:=h.me;have:=h.n60;have:=h.m60;have:=h.e6;have:max n m*(2*e+4)<=60*16:=DB `a `a;exact {`a,this}
def TK {m:cQ} {g:d6} {x:Nat} (e:Af m) (f:Nz m) (h:m≠[]) (F:Fp x (AV m)) (a:Lz g) (c:MQ (co g) (co (AV m))) (P:Prim g) :
  Gq x x (L' g)/\L' g≠[]/\(L' g).length<=@m/\MR (C_ (L' g)) (C_ m)/\(∀ k,Bd x (co g k))/\C_ (L' g) ((L' g).length - 1)=1:=by
 let d:=Ml e f h;let i:@g<=@m:=by have:=G7 a d c;rw [CT] at this;exact this
 let b:=F g a P c;refine {{IA a,JG a,_,(JH a.2 (JF b)).1,(b (@g - 1)).le `a,(JH a.2 (JF b)).2},CN.mp (by rw [Eh];exact a.1),by rw [Eh];exact i,MR.of (IB a) (Fa e) (Fb a) c,b,JI ?_};rw [Eh];exact Sq a
def rV (h:Hu K vs H Q E):Qn K { nx:=λ_ H'=>Q .non H',rt:=Q } (L2.start ["P","Q","shared"] vs) H:=by
 let {p,q,l,m,b,D,n,I,e,rfl,{xs,hp,hN},{ys,f,hM},Gl,w,m0,ln,mn,a7,X,Z,b9,k}:=h;let {D9,zz}:=Z.dd;let {Y,b2}:=Z.ml;let b3:=Z.n60;let b4:=Z.m60;let b6:=Z.n1;let b8:=Z.m1;let ba:=Z.ne;let bb:=Z.me;unfold Qn;rwa [hp,f];refine {l,hN,m,hM,b,b,Gl,w,`a,`a,`a,`a,D,λl0 _=>{a7 l0,X},e,by rw [CJ];omega,n+I,`a,`a,Z.lu,λ_ z=>absurd z m0,λ_ g R P r zs H1 s1 hr hz=>?_};let j:=R.lz;let a8:Lz (AV m):=Du (FZ w.low w.nz) λz=>m0 (CU.mp (by rw [<-CT,z];rfl));let gl:@g<=@m:=by have:=G7 j a8 R.right;rwa [CT] at this
 let bg:=X g j P R.right;let Gg:Gq D D (L' g):={IA j,JG j,_,(JH j.2 (JF bg)).1,(bg (@g - 1)).le `a,(JH j.2 (JF bg)).2};let g0:L' g≠[]:=CN.mp (by rw [Eh];exact j.1);let M1:MR (C_ (L' g)) (C_ l):=MR.of (IB j) (Fa Gl.low) (Fb j) R.left;let M2:MR (C_ (L' g)) (C_ m):=MR.of (IB j) (Fa w.low) (Fb j) R.right;let a9:=s1 _ _ hp;rwa [hr,a9];let bc:0<(L' g).length:=CN.mpr g0;let e1:=(zz (@l+1 - (L' g).length) `a).1;let e2:=(zz (@l+1 - (L' g).length) `a).2;refine {l,hN.tp (F_ s1),L' g,hz,b,b,Gl,D,D,Gg,g0,`a,by rw [Eh];omega,`a,`a,`a,`a,M1,λr0 o H2 s2 ⟨aa,h0,n0⟩ x ab J L=>?_};let {A0,ac,af}:=Me Gl.low x Gl.clr.1 (show @l<=max n I by omega) Y j P R.left L;let G0:Gq (D+(b+max n I*(2*e+4))) b o:=HA x ab (Cb Gl.low).1 Gl.clr.2.1 (N:=λk=>co g (@g - 1)*co A0 k) (λk=>by rw [af,Rat.div_def];push_cast;rfl) λk=>Bd.mul (bg _) (ac k)
 let C:∀ q∈o,Bd (D+(b+max n I*(2*e+4))) q.1/\Bd b q.2:=λq f=>{G0.clr.2.2 q f,by
  let {M,O,bM,_}:=G0.ov;exact Dz (AR O.1) (O.2 q f) bM}
 let S:=s1.trans s2;let aj:=S _ _ f;let al:=s2 _ _ hr;rwa [aj,al];let e1:=(zz (@m+1 - (L' g).length) `a).1;let e2:=(zz (@m+1 - (L' g).length) `a).2;refine {m,hM.tp (F_ S),L' g,hz.tp (F_ s2),b,b,w,D,D,Gg,g0,`a,by rw [Eh];omega,`a,`a,`a,`a,M2,λr1 d H3 s3 ⟨am,h1,n1⟩ y a0 an A=>?_};let {A1,ao,ar}:=Me w.low y w.clr.1 (show @m<=max n I by omega) Y j P R.right A
 let a1:d≠[]:=λz=>by
  have:=A (@m - 1);rw [z] at this;exact E9 w.low w.nz m0 this
 let G1:Gq (D+(b+max n I*(2*e+4))) b d:=HA y a0 (Cb w.low).1 w.clr.2.1 (N:=λk=>co g (@g - 1)*co A1 k) (λk=>by rw [ar,Rat.div_def];push_cast;rfl) λk=>Bd.mul (bg _) (ao k);let p1:0<@d:=CN.mpr a1
 let a2:∀ q∈d,Bd (D+(b+max n I*(2*e+4))) q.1/\Bd b q.2:=λq f=>{G1.clr.2.2 q f,by
  let {M,O,bM,_}:=G1.ov;exact Dz (AR O.1) (O.2 q f) bM}
 let l0:=J;refine {o,{aa,s3 _ _ h0,n0.tp (F_ s3)},d,⟨am,h1,n1⟩,x,y,a0,a1,λq f=>{(C q f).1.mono `a,(C q f).2.mono `a},λq f=>{(a2 q f).1.mono `a,(a2 q f).2.mono `a},`a,`a,λc fl fv t u v H4 s4 ht ⟨us,hu,nu⟩ ⟨vs,hv,nv⟩=>?_};generalize aw:Ad d (@d - 1)=la at fv;let F:=S6 (a:=c.1) x fl.pos;let G:=S6 (a:=c.1) y fl.pos;let eT:∀ k,C_ (trim (o.map λq=>D_ q (c.1,c.2))) k=val c*C_ o k:=λk=>(Hh F k).trans (S3 x fl.pos k);let eB:∀ k,C_ (trim (d.map λq=>D_ q (c.1,c.2))) k=val c*C_ d k:=λk=>(Hh G k).trans (S3 y fl.pos k);let a3:(trim (o.map λq=>D_ q (c.1,c.2))).length<=@o:=BK (Ge _) (by rw [AI];exact AT _);let a4:(trim (d.map λq=>D_ q (c.1,c.2))).length<=@d:=BK (Ge _) (by rw [AI];exact AT _);let lT:Af (trim (o.map λq=>D_ q (c.1,c.2))):=λq f=>F q (F2 f);let lB:Af (trim (d.map λq=>D_ q (c.1,c.2))):=λq f=>G q (F2 f);let nT:=He (o.map λq=>D_ q (c.1,c.2));let nB:=He (d.map λq=>D_ q (c.1,c.2));generalize trim (o.map λq=>D_ q (c.1,c.2))=T at nu eT a3 lT nT;generalize trim (d.map λq=>D_ q (c.1,c.2))=B at nv eB a4 lB nB;let s0:val c≠0:=λz=>by rw [z] at fv;ext
 let b0:C_ d (@d - 1)=val la:=by unfold C_;rw [aw]
 let tB:C_ B (@d - 1)=1:=by rw [eB,b0];exact fv
 let a5:@B=@d:=by
  rcases BY (@d - 1) @B with z | z
  .omega
  .rw [DG z] at tB;exact absurd tB `b
 let {U,W,eU}:=sW Gl.low w.low R;let a6:C_ (L' g) ((L' g).length - 1)≠0:=E9 (IA j) (JG j) g0;let c0:∀ k,C_ l k=cvL (rw' o) (C_ (L' g)) k:=λk=>(L k).trans (Ko _ _ _);let c1:∀ k,C_ m k=cvL (rw' d) (C_ (L' g)) k:=λk=>(A k).trans (Ko _ _ _);let b1:=(S.trans s3).trans s4;refine k t H4 T B b1 {u,v,ht,⟨us,hu,nu⟩,⟨vs,hv,nv⟩} {lT,lB,nT,nB,CN.mp `a,?_,sr_cop.mp ?_} ?_
 .refine Do (DN lB _) Mf ?_;have:val ((1:Int),(1:Int))=1:=by unfold val;show ((1:Int):Rat) / ((1:Int):Rat)=1;rw [show ((1:Int):Rat)=1 from rfl];ext
  rw [this,a5];exact tB
 .exact (sV (t:=rw' o) (b:=rw' d) (Kn o) (Kn d) a6 (λi hi=>DG `a) c0 c1 eU).scal s0 eT eB
 .let e1:sr T=Sr.num (val c)*sr o:=Sr.ext' λk=>by rw [Sr.num_mul];exact eT k
  let e2:sr B=Sr.num (val c)*sr d:=Sr.ext' λk=>by rw [Sr.num_mul];exact eB k
  rw [e1,e2,Fc L,Fc A];ext
structure Al (b n m e:Nat) (T B:cQ):Prop where
 lw:Lw T B
 gt:Gq (2*b+960) (2*b+960) T
 gb:Gq (2*b+960) (2*b+960) B
 tn:@T<=n
 bm:@B<=m
 ft:T≠[]->Fp (b+n*(2*e+4)) (AV T)
 fb:Fp (b+m*(2*e+4)) (AV B)
def Rp.all {b n m e:Nat} {T B:cQ} (h:Rp b n m T B) (a:n<2 ^ e) (c:m<2 ^ e) (d:n<=60) (f:m<=60) (q:e<=6):Al b n m e T B:=by
 let {g,i,j,k,o,p}:=h.facts a c;have:max n m*(2*e+4)<=60*16:=DB `a `a;exact {h.lw,g.mono `a `a,i.mono `a `a,j,k,o,p}
def rW (b n m e:Nat):b+n*(2*e+4)<=b+max n m*(2*e+4):=Nat.add_le_add_left (CV _ `a) _
def rX (b n m e:Nat):b+m*(2*e+4)<=b+max n m*(2*e+4):=Nat.add_le_add_left (CV _ `a) _
def TL {F:dq} {w x:Nat} (hz:∀ k,w<=k->F k=0) (e:∀ k,Bd x (F k)):∃ Z:d6,Tz Z/\(∀ k,co Z k=F k)/\(∀ z∈Z,Bd x z)/\@Z<=w:=by
 let a:∀ k,co ((List.range w).map F) k=F k:=λk=>by
  unfold co;rw [AU,Ae];rcases BY k w with c | c
  .rw [Dk c];rfl
  .rw [B8 (by rw [BZ];exact c)];exact (hz k c).symm
 rcases EJ ((List.range w).map F) with z | ⟨g,f,b,d⟩
 .exact {[],.inl rfl,λk=>by rw [<-a,z];exact Ao (Ah _),(λ_ h=>nomatch h),Ah _}
 .refine {g,.inr f.2,λk=>(d k).trans (a k),λz hz=>?_,by rw [AI,BZ] at b;exact b};let {i,j,rfl}:=ET hz;have:co g i=g[i]:=by unfold co;rw [AU,Ak j];rfl
  rw [<-this,d,a];exact e i
def Mm {N D:d6} {b d n e:Nat} (a:∀ z∈N,Bd b z) (c:∀ z∈D,Bd d z) (i:@N<=n) (j:n<2 ^ e) (k:Nat):Bd (b+d+e) (cvL N (co D) k):=by
 let h:=Kh (h:=2 ^ d) (q:=2 ^ b) (λk=>EN (D1 c k)) N (λz f=>EN (a z f)) k;let g:0<2 ^ b*2 ^ d:=Nat.mul_pos (Nat.pow_pos `b) (Nat.pow_pos `b);let m:@N*(2 ^ b*2 ^ d)<2 ^ e*(2 ^ b*2 ^ d):=Nat.mul_lt_mul_of_pos_right `a g;unfold Bd;rw [Nat.pow_add,Nat.pow_add,C6 (2 ^ b*2 ^ d)];omega
def Mn {N D:d6} {n m k:Nat} (b:@N<=n) (dl:@D<=m) (h:n+m<=k+1):cvL N (co D) k=0:=Ef (n:=@D) (λi a=>Ao a) N k `a
def rY {N D:d6} {b d n m e:Nat} (c:∀ z∈N,Bd b z) (f:∀ z∈D,Bd d z) (a:@N<=n) (dl:@D<=m) (g:n<2 ^ e):∃ Z:d6,Tz Z/\si Z=si N*si D/\(∀ z∈Z,Bd (b+d+e) z)/\@Z<=n+m - 1:=by
 let {Z,t,h,i,l}:=TL (F:=cvL N (co D)) (w:=n+m - 1) (x:=b+d+e) (λk hk=>Mn a dl `a) (Mm c f a g);exact {Z,t,IC h,i,l}
def TM {N D a c:d6} {b b' n m d j e w:Nat} {s:Int} (r:s=1\/s = -1) (u:∀ z∈N,Bd b z) (v:∀ z∈D,Bd b z) (f:∀ z∈a,Bd b' z) (g:∀ z∈c,Bd b' z) (o:@N<=n) (y:@D<=m) (p:@a<=d) (A:@c<=j) (B:n<2 ^ e) (i:d<2 ^ e) (J:n+j<=w+1) (L:d+m<=w+1) :
  ∃ Z:d6,Tz Z/\si Z=si N*si c+Sr.num (s:Rat)*si a*si D/\(∀ z∈Z,Bd (b+b'+e+1) z)/\@Z<=w:=by
 let {Z,t,h,C,l}:=TL (F:=λk=>cvL N (co c) k+s*cvL a (co D) k) (w:=w) (x:=b+b'+e+1) (λk hk=>by rw [Mn o A `a,Mn p y `a];omega) (λk=>by
  let c1:=Mm u g o B k;let q:=(Mm f v p i k).mono (show b'+b+e<=b+b'+e by omega);rcases r with z | z
  .rw [z,Int.one_mul];exact c1.add q
  .rw [z,show cvL N (co c) k + -1*cvL a (co D) k=cvL N (co c) k - cvL a (co D) k by omega];exact c1.sub q)
 refine {Z,t,Sr.ext' λk=>?_,C,l};let G:(si N*si c).c k=((cvL N (co c) k:Int):Rat):=by rw [<-IC (Ie N c)];show ((co (Bm N c) k:Int):Rat)=_;rw [Ie]
 let I:(Sr.num (s:Rat)*si a*si D).c k=(s:Rat)*((cvL a (co D) k:Int):Rat):=by
  rw [show Sr.num (s:Rat)*si a*si D=Sr.num (s:Rat)*(si a*si D) by ext,Sr.num_mul,<-IC (Ie a D)];show (s:Rat)*((co (Bm a D) k:Int):Rat)=_;rw [Ie]
 show ((co Z k:Int):Rat)=(si N*si c).c k+(Sr.num (s:Rat)*si a*si D).c k;rw [G,I,h k];push_cast;rfl
def TN {l m:cQ} {g:d6} {A B:Sr} (a:Af l) (b:Af m) (R:RC (co (AV l)) (co (AV m)) g) (c:Sr.Pol A) (d:Sr.Pol B) (e:sr l=A*sr (L' g)) (f:sr m=B*sr (L' g)):Sr.Cs A B:=by
 let k:=Sr.num_inv (Am (AR (Cb a).1));let n:=Sr.num_inv (Am (AR (Cb b).1));let h:si (AV l)=Sr.num (Ag l:Rat)*sr l:=by rw [GG a];ext
 let i:si (AV m)=Sr.num (Ag m:Rat)*sr m:=by rw [GG b];ext
 let c1:si (AV l)=(Sr.num (Ag l:Rat)*Sr.num ((co g (@g - 1):Rat))⁻¹*A)*si g:=by rw [h,e,Mj R.lz];ext
 let j:si (AV m)=(Sr.num (Ag m:Rat)*Sr.num ((co g (@g - 1):Rat))⁻¹*B)*si g:=by rw [i,f,Mj R.lz];ext
 have:=rL R (((Sr.Pol.num _).mul (Sr.Pol.num _)).mul c) (((Sr.Pol.num _).mul (Sr.Pol.num _)).mul d) c1 j;exact ((this.dvd ((Sr.Pol.num _).mul (Sr.Pol.num _)) rfl).comm.dvd ((Sr.Pol.num _).mul (Sr.Pol.num _)) rfl).comm
def rZ {T B b k G a R c S X g:Sr} {s:Rat} (v:s≠0) (m:Sr.Pol T) (d:Sr.Pol b) (h:Sr.Pol a) (n:Sr.Pol R) (o:Sr.Pol G) (p:Sr.Pol S) (q:Sr.Pol X) (w:Sr.Pol g) (x:B=a*G) (j:k=R*G) (f:Sr.Cs a R) (c1:Sr.Cs T B) (y:Sr.Cs b k) (r:c=T*R+Sr.num s*(b*a)) (u:c=X*S) (Y:G=g*S) (z:Sr.Cs X g):Sr.Cs X (a*R*g):=by
 let A:Sr.Cs T a:=c1.dvd o (by rw [x];ext);let C:Sr.Cs b R:=y.dvd o (by rw [j];ext);let D:Sr.Cs (T*R) a:=(A.comm.mul h m f).comm;let F:Sr.Cs c a:=D.add ((Sr.Pol.num s).mul d) (by rw [r];ext);let I:Sr.Cs (b*a) R:=(C.comm.mul n d f.comm).comm
 let J:Sr.Cs (Sr.num s*(b*a)) R:=by
  let {U,W,L,M,e}:=I;let i:=Sr.num_inv v;exact {U*Sr.num s⁻¹,W,L.mul (Sr.Pol.num _),M,()}
 let N:Sr.Cs c R:=J.add m (by rw [r];ext);let O:Sr.Cs X a:=(F.comm.dvd p (show c=S*X by rw [u];ext)).comm;let P:Sr.Cs X R:=(N.comm.dvd p (show c=S*X by rw [u];ext)).comm;exact (O.mul q h P).mul q (h.mul n) z
def qA {l m:cQ} {Y:Sr} (a:Sr.Pol Y) (h:sr m=Y*sr l):MR (C_ l) (C_ m):=by
 let {A,rfl}:=a;refine {A,λk=>?_};have:=jN (congrArg Sr.c h) k;rw [Sr.L_mul] at this;exact this
def qB {l m:cQ} (h:MR (C_ l) (C_ m)):∃ Y,Sr.Pol Y/\sr m=Y*sr l:=by
 let {A,a}:=h;refine {Sr.L A,Sr.Pol.L A,?_};rw [Sr.L_mul];exact Sr.ext' a
def qC (h:KW K vs H Q E):wE K (eC Q) (L2.start ["F","G","shared","rest","top","spare"] vs) H:=by
 let {p,q,T,B,T',B',b,n,m,e,rfl,{u,v,hp,Pu,Pv},{u',v',hq,ar,aw},g,R2,Z,k}:=h;let j:=Z.a;let O:=Z.t;let n1:=O.n1;let cz:=O.n60;let U:=j.m60;let d0:=Z.m50;let m1:=j.m1;let nt:n<2 ^ e:=by have:=O.ne;omega
 let o:=g.all nt j.me `a U j.e6;let P:=R2.all nt j.me `a U j.e6;let b9:=Z.b9;let {zv,hv,nv}:=Pv;let {d1,a3,a4}:=aw;have:=o.tn;have:=o.bm;have:=P.tn;have:=P.bm;let mm:max m m=m:=Nat.max_self m;let W:=j.lu;rw [mm] at W;refine GD (Bc rfl hp rfl (Bc rfl hq rfl (SK hv a3 nv a4 o.gb P.gb `a `a `a `a (λ_ _=>⟨o.fb,P.fb⟩) (d:=e) (by rw [CJ];have:=j.me;omega) (N:=m+m) `a `a W (λz _=>absurd z g.lw.ne) λ_ A C P1 r1 z1 H1 s1 h1 a0=>?_)));let {a,f,d2,M1,a1,o1}:=TK g.lw.lb g.lw.nb g.lw.ne o.fb C.lz C.left P1;let b0:MR (C_ (L' A)) (C_ B'):=MR.of (IB C.lz) (Fa R2.lw.lb) (Fb C.lz) C.right;let cn:0<(L' A).length:=CN.mpr f;let {D,eD}:∃ D,D=b+m*(2*e+4):={1};rw [<-eD] at a a1 W;let cp:m*(2*e+4)<=960:=BK (DB U (show 2*e+4<=16 by have:=j.e6;omega)) `b;let D9:D<=5960:=by omega
 let b1:=s1 _ _ hq;let a5:=s1 _ _ a3;let DX:D<=2*b+e+1+max (n+m - 1) m*(2*e+4):=by have:=rX (2*b+e+1) (n+m - 1) m e;omega
 let mD:∀ x,x<=n+m - 1+m->x*D<=44490/\x*(D+1)<=44490:=λx hx=>by
  let h1:x*(D+1)<=(n+m - 1+m)*(2*b+e+1+max (n+m - 1) m*(2*e+4)+e+2):=DB hx `a;let h2:x*D<=x*(D+1):=Em _ `a;let h3:=O.lu;rw [C6] at h3;omega
 let mB:=mD (@B+1 - (L' A).length) `a;let d3:=mD (@B'+1 - (L' A).length) `a;refine GD (Bc rfl b1 rfl (AS rfl (Kf a5 h1 (a4.tp (F_ s1)) a0 P.gb a f `a `a `a `a `a `a b0 λr2 R H2 s2 ⟨z2,h2,a6⟩ lR nR cq eR=>?_)));let GR:=(S8 P.gb lR nR P.bm j.me C.lz P1 (a1 _) C.right eR).mono (b':=20000) (c':=11000) `a `a;let a2:=s1.trans s2;let b2:=a2 _ _ hp;let {d4,b3,b4}:=Pu.same a2;refine GD (Av (Bc rfl b2 rfl (AS rfl (MN b3 h2 b4 a6 o.gt GR `a `a `a `a `a `a λr3 X1 H3 s3 ⟨z3,h3,n3⟩ G3 l3 e3=>?_))));let r:=a2.trans s3;let b6:=r _ _ hp;let b8:=r _ _ hq;let ba:=r _ _ hv;let bb:=(s2.trans s3) _ _ h1;refine Av (Bc rfl b8 rfl (Av (Bc rfl b6 rfl (AS rfl (Kf ba bb (nv.tp (F_ r)) (a0.tp (F_ (s2.trans s3))) o.gb a f `a `a `a `a `a `a M1 λr4 Qd H4 s4 ⟨z4,h4,n4⟩ lQ nQ ct eQ=>?_)))));let GQ:=(S8 o.gb lQ nQ o.bm j.me C.lz P1 (a1 _) C.left eQ).mono (b':=20000) (c':=11000) `a `a;let a7:=r.trans s4;let {d5,bc,bd}:=ar.same a7;refine MN bc h4 bd n4 P.gt GQ `a `a `a `a `a `a λr5 X2 H5 s5 ⟨z5,h5,n5⟩ G5 l5 e5=>?_;let bf:=(s4.trans s5) _ _ h3;let bg:=G3.mono (b':=32000) (c':=22000) `a `a;let bi:=G5.mono (b':=32000) (c':=22000) `a `a;let {M,bk,bl,bM,q1,q2}:=rE bg bi;refine vV bf h5 (n3.tp (F_ (s4.trans s5))) n5 G3.low G5.low bk bl bM q1 q2 `a `a `a `a λr6 F H6 s6 ⟨z6,h6,n6⟩ G6 l6 e6=>?_;let d9:@F<=n+m - 1:=by omega
 let a8:=((((s2.trans s3).trans s4).trans s5).trans s6);let bm:=a8 _ _ h1;let S:=Fc eQ;let oR:=Fc eR
 let ot:sr F=sr T*sr R+Sr.num 1*(sr T'*sr Qd):=by
  rw [<-Fc e3,<-Fc e5];exact Sr.ext' λk=>by show C_ F k=(sr X1).c k+(Sr.num 1*sr X2).c k;rw [Sr.num_mul];exact e6 k
 let {N,DD,lD,tN,bN,bD,nN,nD,bn}:=g.rp;let {N',bp,bq,da,br,bs,bt,bv,a9}:=R2.rp;let {Y1,G,aa,bw}:=Kt g.lw (CF N) (CF DD) bn;let {Y2,I,ab,bx}:=Kt R2.lw (CF N') (CF bp) a9;let c0:Y1≠0:=λz=>Fe lD (by rw [aa,z];ext);let c2:Y2≠0:=λz=>Fe bq (by rw [ab,z];ext);let G0:=Fd a.low a.nz f
 let c3:F≠[]->Fp (2*b+e+1+max (n+m - 1) m*(2*e+4)) (AV F):=λt0=>by
  let {Zr,tz,ez,bz,lz}:=TM (s:=1) (.inl rfl) bN bD br bs nN nD bt bv nt nt (w:=n+m - 1) `a `a;let eZ:si Zr=(Y1*Y2*sr (L' A))*sr F:=by rw [ez,bw,ab,bx,aa,ot,S,oR,show ((1:Int):Rat)=1 from rfl];ext
  let Z0:si Zr≠0:=by rw [eZ];exact Sr.ne_mul ((G.mul I).mul (BS _)) (BS F) (Sr.ne_mul (G.mul I) (BS _) (Sr.ne_mul G I c0 c2) G0) (Fd G6.low G6.nz t0)
  let c4:Lz Zr:=Du tz λz=>Z0 (by rw [z,D3 []];exact Sr.L_nil);have:=Mk G6.low c4 bz lz O.ne ((G.mul I).mul (BS _)) eZ;exact this.mono (by have:=rW (2*b+e+1) (n+m - 1) m e;omega)
 let ac:Fp D (AV (L' A)):=rT a.low g.lw.lb (BS Qd) S (by rw [eD];exact o.fb);refine GD (AS rfl (AS rfl (SK (b:=60000) (c:=60000) h6 bm n6 (a0.tp (F_ a8)) (G6.mono `a `a) (a.mono `a `a) `a `a `a `a (λt0 _=>{c3 t0,ac.mono DX}) (d:=e) (by rw [CJ];have:=O.ne;have:=O.me;omega) (N:=n+m - 1+m) `a `a O.lu (λ_ z=>absurd z f) λ_ g2 Rr P2 r7 z7 H7 s7 h7 n7=>?_)));let {i,y,db,M2,dd,o2}:=TK a.low a.nz f ac Rr.lz Rr.right P2;let cw:0<(L' g2).length:=CN.mpr y;let c5:MR (C_ (L' g2)) (C_ F):=MR.of (IB Rr.lz) (Fa G6.low) (Fb Rr.lz) Rr.left;let c8:=s7 _ _ h6;let m3:=mD (@F+1 - (L' g2).length) `a;refine B7 (Be (Av (AS rfl (AS rfl (Kf c8 h7 (n6.tp (F_ s7)) n7 G6 i y `a `a `a `a `a `a c5 λr8 X H8 s8 PX lX nX cx eX=>?_)))));let J:=(((a7.trans s5).trans s6).trans s7).trans s8;let af:=((((s3.trans s4).trans s5).trans s6).trans s7).trans s8;let c9:=J _ _ hp;let cc:=J _ _ hv;let cd:=af _ _ h2;let ce:=s8 _ _ h7;refine Av (Av (Bc rfl c9 rfl (AS rfl (MN cc cd (nv.tp (F_ J)) (a6.tp (F_ af)) o.gb GR `a `a `a `a `a `a λr9 Pb H9 s9 ⟨z9,h9,n9⟩ G9 l9 e9=>AS rfl ?_))));let ch:=s9 _ _ ce;let m4:=mD (@Pb+1 - (L' g2).length) `a;let oX:=Fc eX;let o9:=Fc e9;let {G',L,oG}:=qB M2;let M3:MR (C_ (L' g2)) (C_ Pb):=qA (Y:=sr Qd*G'*sr R) (((BS _).mul L).mul (BS _)) (by rw [o9,S,oG];ext);refine Kf h9 ch n9 (n7.tp (F_ (s8.trans s9))) G9 i y `a `a `a `a `a `a M3 λaj Y df al PY lY nY cy eY=>{BJ,λwt ck=>?_};let st:=AM ck (.tup [.ref r8,.ref aj]);let oY:=Fc eY;let S0:=Fd i.low i.nz y;let cl:=TN g.lw.lb R2.lw.lb C (BS Qd) (BS R) S oR;let cm:=TN G6.low a.low Rr (BS X) L oX oG
 let am:sr Y=sr Qd*sr R*G':=by
  refine Sr.cancel (BS Y) (((BS _).mul (BS _)).mul L) (BS (L' g2)) S0 ?_;rw [<-oY,o9,S,oG];ext
 let cs:=rZ (s:=1) `b (BS T) (BS T') (BS Qd) (BS R) (BS (L' A)) (BS (L' g2)) (BS X) L S oR cl g.lw.cs R2.lw.cs ot oX oG cm;rw [<-am] at cs
 let R0:R≠[]:=λz=>by
  have:=eR (@B' - 1);rw [z] at this;exact E9 R2.lw.lb R2.lw.nb R2.lw.ne this
 let lr:=Mh R2.lw.lb R2.lw.nb lR nR R0 a.low a.nz f eR;let lp:=Mh G9.low G9.nz g.lw.lb g.lw.nb g.lw.ne lR nR R0 e9
 let Y0:Y≠[]:=λz=>by
  have:=eY (@Pb - 1);rw [z] at this;exact E9 G9.low G9.nz lp.2.2 this
 let ly:=Mh G9.low G9.nz lY nY Y0 i.low i.nz y eY
 let an:C_ R (@R - 1)=1:=by
  have:=lr.2.1;rw [JI R2.lw.one,o1] at this;ext
 let ao:C_ Y (@Y - 1)=1:=by
  let h1:=ly.2.1;let h2:=lp.2.1;rw [JI g.lw.one,an] at h2;rw [o2,h2] at h1;ext
 refine k wt _ X Y (((J.trans s9).trans al).trans st) {r8,aj,upd_same,((PX.same s9).same al).same st,PY.same st} {lX,lY,nX,nY,Y0,rD lY ao,cs} ?_;let w1:sr X*(sr B*sr B')=sr Qd*sr R*sr (L' A)*(sr X*sr (L' A)):=by rw [S,oR];ext
 let w2:sr X*sr (L' A)=sr F*G':=by rw [oX,oG];ext
 rw [w1,w2,am,ot,S,oR];ext
def Rp.mono {b n m b' c d:Nat} {T B:cQ} (h:Rp b n m T B) (e:b<=b') (o:n<=c) (p:m<=d):Rp b' c d T B:=by
 let {N,D,f,g,i,j,nN,q,k}:=h.rp;exact {h.lw,N,D,f,g,λz a=>(i z a).mono e,λz a=>(j z a).mono e,`a,`a,k}
def qD {Z:d6} (t:Tz Z) (h:si Z≠0):Lz Z:=Du t λz=>h (by rw [z,D3 []];exact Sr.L_nil)
def Rp.open {b n m:Nat} {T B:cQ} (h:Rp b n m T B):∃ (N D:d6) (Y:Sr),Lz D/\(∀ z∈N,Bd b z)/\(∀ z∈D,Bd b z)/\@N<=n/\@D<=m/\Sr.Pol Y/\Y≠0/\si D=Y*sr B/\si N=Y*sr T:=by
 let {N,D,a,k,d,e,nN,f,g}:=h.rp;let {Y,i,c,j}:=Kt h.lw (CF N) (CF D) g;exact {N,D,Y,a,d,e,nN,f,i,λz=>Fe a (by rw [c,z];ext),c,j}
def Rp.sum {b n m b' f g e w:Nat} {s:Int} (C:s=1\/s = -1) {T B r a X Y:cQ} (h:Rp b n m T B) (h':Rp b' f g r a) (l:Lw X Y) (F:sr X*(sr B*sr a)=(sr T*sr a+Sr.num (s:Rat)*sr r*sr B)*sr Y) (G:n<2 ^ e) (i:f<2 ^ e) (I:m<2 ^ e) (J:n+g<=w+1) (L:f+m<=w+1):Rp (b+b'+e+1) w (m+g - 1) X Y:=by
 let {N,D,u,M,O,v,nN,x,P,R,S,U}:=h.open;let {N',D',y,j,k,c,o,d,a0,a1,p,q}:=h'.open;let {Z,tz,ez,bz,lz}:=TM C O v k c nN x o d G i J L;let {W,tw,A,bw,lw}:=rY v c x d I;let W0:si W≠0:=by rw [A];exact Sr.ne_mul (CF D) (CF D') (Fe M) (Fe j)
 refine {l,Z,W,qD tw W0,tz,bz,λz hz=>(bw z hz).mono `a,lz,lw,?_};rw [ez,A,S,p,U,q];have:sr X*(u*sr B*(y*sr a))=u*y*(sr X*(sr B*sr a)):=by ext
 rw [this,F];ext
def Rp.of {b c b' c' n k x:Nat} {l m T B:cQ} (L:Lw T B) (Gl:Gq b c l) (a:Gq b' c' m) (p:m≠[]) (q:@l<=n) (r:@m<=k) (w:sr T*sr m=sr l*sr B) (A:b+c'<=x) (C:b'+c<=x):Rp x n k T B:=by
 let f:=Gl.clr;let g:=a.clr;let i:=Ml a.low a.nz p;let j:=(Cb Gl.low).1;let o:=(Cb a.low).1;let D:=Sr.num_inv (Am (AR j));let F:=Sr.num_inv (Am (AR o));let u:si (AV l)=Sr.num (Ag l:Rat)*sr l:=by rw [GG Gl.low];ext
 let v:si (AV m)=Sr.num (Ag m:Rat)*sr m:=by rw [GG a.low];ext
 refine {L,(AV l).map (Ag m*·),(AV m).map (Ag l*·),{by rw [AI];exact i.1,by rw [AI,G8];exact CA (AR j) i.2},?_,λz d=>?_,λz d=>?_,by rw [AI,CT];exact q,by rw [AI,CT];exact r,by rw [JK,JK,u,v];ext}
 .rcases FZ Gl.low Gl.nz with h | h
  .left;rw [h];rfl
  .right;rw [AI,G8];exact CA (AR o) h
 .let {y,e,rfl}:=Au.mp d;exact ((g.2.1).mul (f.1 y e)).mono `a
 .let {y,e,rfl}:=Au.mp d;exact ((f.2.1).mul (g.1 y e)).mono `a
structure Wt (X Y:cQ) (N D:Sr):Prop where
 pN:Sr.Pol N
 pD:Sr.Pol D
 D0:D≠0
 eq:sr X*D=N*sr Y
def Fx (H:Hp) (p:Addr) (b n m:Nat) (N D:Sr):Prop:=∃ T B,FF H p T B/\Rp b n m T B/\Wt T B N D
def Fx.same {H a:Hp} {p:Addr} {b n m:Nat} {N D:Sr} (h:Fx H p b n m N D) (s:Same H a):Fx a p b n m N D:=let ⟨T,B,f,r⟩:=h;⟨T,B,f.same s,r⟩
noncomputable instance (x n m e:Nat):Decidable (C0 x n m e):=decidable_of_iff (1<=n/\1<=m/\n<=60/\m<=60/\n<2 ^ e/\m<2 ^ e/\e<=6/\(x+e+2)*(n+m)<=44490) {λ⟨a,b,c,d,e,f,g,h⟩=>⟨a,b,c,d,e,f,g,h⟩,λ⟨a,b,c,d,e,f,g,h⟩=>⟨a,b,c,d,e,f,g,h⟩}
noncomputable instance (b n m e:Nat):Decidable (C2 b n m e):=decidable_of_iff (C1 b m m e/\C1 (2*b+e+1) (n+m - 1) m e/\b<=5000/\m<=50) {λ⟨a,b,c,d⟩=>⟨a,b,c,d⟩,λ⟨a,b,c,d⟩=>⟨a,b,c,d⟩}
def qE {K:W.Frag} {H:Hp} {Q:VK} {E:XK} {p q:Addr} {s:Int} {b n m b' h i:Nat} {N D u c:Sr} (w:s=1\/s = -1) (f:Fx H p b n m N D) (g:Fx H q b' h i u c) (e:Nat) (Z:C2 (max b b') (max n h) (max m i) e/\n<2 ^ e/\h<2 ^ e/\m<2 ^ e)
  (k:∀ t j,Same H j->Fx j t (b+b'+e+1) (max (n+i - 1) (h+m - 1)) (m+i - 1) (N*c+Sr.num (s:Rat)*u*D) (D*c)->Q (.ref t) j):P5 (s:Rat) K [.ref p,.ref q] H Q E:=by
 let {T,B,F,R,W}:=f;let {r,d,x,o,a}:=g;refine {p,q,T,B,r,d,max b b',max n h,max m i,e,2,F,x,R.mono `a `a `a,o.mono `a `a `a,Z.1,λt j X Y y z A v=>k t j y {X,Y,z,R.sum w o A v Z.2.1 Z.2.2.1 Z.2.2.2 `a `a,?_}};refine {(W.pN.mul a.pD).add (((Sr.Pol.num _).mul a.pN).mul W.pD),W.pD.mul a.pD,Sr.ne_mul W.pD a.pD W.D0 a.D0,?_};refine Sr.cancel ((BS X).mul (W.pD.mul a.pD)) (((W.pN.mul a.pD).add (((Sr.Pol.num _).mul a.pN).mul W.pD)).mul (BS Y)) ((BS B).mul (BS d)) (Sr.ne_mul (BS B) (BS d) (Fd R.lw.lb R.lw.nb R.lw.ne) (Fd o.lw.lb o.lw.nb o.lw.ne)) ?_;let C:sr X*(D*c)*(sr B*sr d)=sr X*(sr B*sr d)*(D*c):=by ext
 let G:=W.eq;let I:=a.eq;let J:(sr T*sr d+Sr.num (s:Rat)*sr r*sr B)*sr Y*(D*c)=(sr T*D*(sr d*c)+Sr.num (s:Rat)*(sr r*c)*(sr B*D))*sr Y:=by ext
 rw [C,v,J,G,I];ext
def TQ {K:W.Frag} {H:Hp} {Q:VK} {E:XK} {p q:Addr} {b n m b' c d:Nat} {N D i j:Sr} (f:Fx H p b n m N D) (g:Fx H q b' c d i j) (e:Nat) (Z:C2 (max b b') (max n c) (max m d) e/\n<2 ^ e/\c<2 ^ e/\m<2 ^ e)
  (k:∀ t a,Same H a->Fx a t (b+b'+e+1) (max (n+d - 1) (c+m - 1)) (m+d - 1) (N*j+i*D) (D*j)->Q (.ref t) a):KW K [.ref p,.ref q] H Q E:=
 qE (s:=1) (.inl rfl) f g e Z λt a o h=>k t a o (by
  rw [show Sr.num ((1:Int):Rat)=1 from Sr.num_one,show (1:Sr)*i*D=i*D by grind] at h;exact h)
theorem qG:sr [(1,1)]=1:=Sr.ext' λk=>by
 rw [Mi];cases k with
 | zero=>show val (1,1)=_;unfold val;show ((1:Int):Rat) / ((1:Int):Rat)=1;rw [show ((1:Int):Rat)=1 from rfl];ext
 | succ k=>show C_ [(1,1)] (k+1)=0;exact DG (by simp)
def Mo {a b c:Int} (h:a∣b*c) (g:Int.gcd a c=1):a∣b:=by
 let d:Nat.Coprime a.natAbs c.natAbs:=g;refine Cd.mp (d.dvd_of_dvd_mul_right ?_);rw [<-Bp];exact Cd.mpr h
def TR {p:Nat} (hp:Pr p) {a:Int} (h:¬ (p:Int)∣a):Int.gcd (p:Int) a=1:=by
 rcases hp.div _ (Int.gcd_dvd_natAbs_left (p:Int) a) with z | z
 .exact z
 .exact absurd (z ▸ Dj (p:Int) a) h
def qH {p:Nat} (hp:Pr p) {a:Int} (h:¬ (p:Int)∣a) (j:Nat):Int.gcd ((p ^ j:Nat):Int) a=1:=by
 let b:Nat.Coprime p a.natAbs:=TR hp h;exact Nat.Coprime.pow_left j b
def qJ {p:Nat} (hp:Pr p) {a h:Int} (n:¬ (p:Int)∣a) (j:Nat) (d:((p ^ j:Nat):Int)∣h*a):((p ^ j:Nat):Int)∣h:=Mo d (qH hp n j)
def HB {p:Nat} (hp:Pr p) {a b:Int} (h:(p:Int)∣a*b):(p:Int)∣a\/(p:Int)∣b:=by
 by_cases c:(p:Int)∣b
 .exact .inr c
 .have:=qJ hp c 1 (h:=a) (by rw [Nat.pow_one];exact h);rw [Nat.pow_one] at this;exact .inl this
theorem TU {p:Nat} (hp:Pr p) {a:Int}:∀ n:Nat,(p:Int)∣a ^ n->(p:Int)∣a
 | 0,h=>by
   rw [Int.pow_zero] at h;have:=Int.le_of_dvd `b h;have:=hp.two;omega
 | n+1,h=>by
   rw [DK] at h;rcases HB hp h with z | z
   .exact TU hp n z
   .exact z
end Bs
namespace Bs
open PySem L2
def GH:([]:cZ).length<=sizeLine:=Ah _
def TV {a:L2.St} {H:Hp} {Q:VK} {b c tc:TE} (h:b a H λx e=>c a e λy f=>tc a f λz d=>[x,y,z].length<=sizeLine/\∀ p,d p=none->Q (.ref p) (upd d p (.lst [x,y,z]))):Bi (AB b (AB c (AB tc AC))) a H Q:=h
theorem Lal.ind {c:Type} {R:V->c->Prop} {M:cZ->List c->Prop} (d:M [] []) (e:∀ u x b xs,R u x->Lal R b xs->M b xs->M (u::b) (x::xs)):∀ {b:cZ} {xs:List c},Lal R b xs->M b xs:=by
 intro b
 induction b with
 | nil=>intro xs a;cases xs with
   | nil=>exact d
   | cons _ _=>exact a.elim
 | cons u b f=>intro xs a;cases xs with
   | nil=>exact a.elim
   | cons x xs=>exact e u x b xs a.1 a.2 (f a.2)
def Lal.mono {d:Type} {R c:V->d->Prop} (h:∀ u x,R u x->c u x) {b:cZ} {xs:List d} (a:Lal R b xs):Lal c b xs:=
 Lal.ind (M:=λb xs=>Lal c b xs) trivial (λu x _ _ r _ e=>{h u x r,e}) a
def Lal.length {c:Type} {R:V->c->Prop} {b:cZ} {xs:List c} (a:Lal R b xs):@b=@xs:=
 Lal.ind (M:=λ(b:cZ) (xs:List c)=>@b=@xs) rfl (λ_ _ b xs _ _ (d:@b=@xs)=>show @b+1=@xs+1 by rw [d]) a
def Lal.get {c:Type} {R:V->c->Prop} {b:cZ} {xs:List c} (a:Lal R b xs):∀ {i:Nat} {u:V},b[i]?=some u->∃ x,xs[i]?=some x/\R u x:=
 Lal.ind (M:=λb xs=>∀ {i:Nat} {u:V},b[i]?=some u->∃ x,xs[i]?=some x/\R u x) (λe=>by cases e) (λv x _ _ r _ d=>λ{i u} e=>by
  cases i with
  | zero=>cases e;exact ⟨x,rfl,r⟩
  | succ i=>exact d e) a
def Lal.append {d:Type} {R:V->d->Prop} {c:cZ} {xs:List d} {vs:cZ} {ys:List d} (a:Lal R c xs) (b:Lal R vs ys):Lal R (c++vs) (xs++ys):=
 Lal.ind (M:=λc xs=>Lal R (c++vs) (xs++ys)) (by exact b) (λu x c xs r _ e=>show Lal R (u::(c++vs)) (x::(xs++ys)) from ⟨r,e⟩) a
def Lal.erase {c:Type} {R:V->c->Prop} {b:cZ} {xs:List c} (a:Lal R b xs):∀ j:Nat,Lal R (b.eraseIdx j) (xs.eraseIdx j):=
 Lal.ind (M:=λb xs=>∀ j:Nat,Lal R (b.eraseIdx j) (xs.eraseIdx j)) (λ_=>trivial) (λ_ _ _ _ r t d j=>by
  cases j with
  | zero=>exact t
  | succ j=>exact {r,d j}) a
def Lal.take {c:Type} {R:V->c->Prop} {b:cZ} {xs:List c} (a:Lal R b xs):∀ j:Nat,Lal R (b.take j) (xs.take j):=
 Lal.ind (M:=λb xs=>∀ j:Nat,Lal R (b.take j) (xs.take j)) (λj=>by rw [List.take_nil,List.take_nil];trivial) (λ_ _ _ _ r t d j=>by
  cases j with
  | zero=>trivial
  | succ j=>exact {r,d j}) a
def Lal.dropLast {b:Type} {R:V->b->Prop} {c:cZ} {xs:List b} (a:Lal R c xs):Lal R c.dropLast xs.dropLast:=by
 rw [List.dropLast_eq_take,List.dropLast_eq_take,@a];exact a.take _
def Lal.snoc {b:Type} {R:V->b->Prop} {c:cZ} {xs:List b} {u:V} {x:b} (a:Lal R c xs) (h:R u x):Lal R (c++[u]) (xs++[x]):=a.append ⟨h,trivial⟩
def Pc.tp {H c:Hp} {u:V} {x:O_} (t:Tp H c) (h:Pc H u x):Pc c u x:=by
 let {a,b,rfl,d,e}:=h;exact {a,b,2,t _ _ d,t _ _ e}
def Rw.tp {H c:Hp} {u:V} {x:Nu×Nu} (t:Tp H c) (h:Rw H u x):Rw c u x:=by
 let {a,b,d,rfl,e,f,g}:=h;exact {a,b,d,2,t _ _ e,t _ _ f,t _ _ g}
def Cz.mono {s t:Nat} {q:Nu} (h:Cz s q) (l:s<=t):Cz t q:=by
 let {lo,k,e,b}:=h;exact {lo,k,e,b.mono l}
def Cz.bd {t:Nat} {q:Nu} (h:Cz t q):Bd t q.1/\Bd 6 q.2:=by
 let {lo,k,e,b}:=h;let p:=lo.pos
 let e:q.1*60=k*q.2:=by
  unfold val at e;let f:(q.2:Rat)≠0:=Am `a;let g:(q.1:Rat) / (q.2:Rat)*(q.2:Rat)=q.1:=Rat.div_mul_cancel f;have:(q.1:Rat)*60=k*q.2:=by rw [<-g,e];ext
  exact_mod_cast this
 let a:q.2∣60:=Mo (c:=q.1) {k,by rw [CK 60,e,CK]} (by rw [Int.gcd_comm];exact lo.one);let {m,d}:=a
 let j:0<m:=by
  rcases Int.lt_trichotomy m 0 with y | y | y
  .have:q.2*m<=q.2*(-1):=ED `a `a;omega
  .rw [y] at d;omega
  .exact y
 let i:q.1*m=k:=by
  have:(q.1*m)*q.2=k*q.2:=by rw [<-e,d];ext
  exact Int.eq_of_mul_eq_mul_right `a this
 constructor
 .refine b.le ?_;rw [<-i,Bp];exact Nat.le_mul_of_pos_right _ `a
 .have:q.2<=60:=Int.le_of_dvd `b ⟨m,d⟩;show q.2.natAbs<64;omega
def Cz.add {t:Nat} {q r:Nu} (h:Cz t q) (h':Cz t r):Cz (t+1) (C' q r):=by
 let {lo,k,e,b}:=h;let {a,c,d,f}:=h';exact {FT lo.pos a.pos,k+c,by rw [F4 lo.pos a.pos,e,d];push_cast;ext,b.add f}
def Cz.neg {t:Nat} {q:Nu} (h:Cz t q):Cz t (D_ q (-1,1))/\val (D_ q (-1,1)) = - val q:=by
 let {lo,k,e,b}:=h
 let v:val (D_ q (-1,1)) = - val q:=by
  rw [Hg lo.pos `b];have:val (-1,1) = -1:=by show ((-1:Int):Rat) / ((1:Int):Rat) = -1;push_cast;ext
  rw [this];ext
 exact {{F1 lo.pos `b,-k,by rw [v,e];push_cast;ext,b.neg},v}
theorem qK {K:W.Frag} {vs:cZ} {H:Hp} {Q:VK} {E:XK} (h:L4 K vs H Q E):wJ K (eC Q) (L2.start ["one","other","shared"] vs) H:=by
 let {u,v,x,y,t,rfl,hx,hy,X,Y,t4,x0,y0,k}:=h;let {a,b,rfl,G,Z}:=hx;let {c,d,rfl,hc,hd}:=hy;let J:(0:Int)<((Int.gcd x.2 y.2:Nat):Int):=by have:=Int.gcd_pos_of_ne_zero_left y.2 (show x.2≠0 by omega);omega
 refine GD {1,5,G,2,1,5,hc,2,x.2,y.2,2,?_};generalize ((Int.gcd x.2 y.2:Nat):Int)=g at J k ⊢;refine B7 (TV (Be {1,5,G,2,1,5,G,2,8,J,BJ,λn L=>?_}));let I:=AM L (.tup [.ref b,.int (x.2 / g)]);let p:upd H n (.tup [.ref b,.int (x.2 / g)]) n=_:=upd_same;let q:=I _ _ G;let i:=I _ _ hc;show Ai _ _ _ _;generalize upd H n (.tup [.ref b,.int (x.2 / g)])=H1 at I p q i ⊢;refine Be {1,5,i,2,1,5,i,2,8,J,BJ,λw M=>?_};let z:=AM M (.tup [.ref d,.int (y.2 / g)]);let A:upd H1 w (.tup [.ref d,.int (y.2 / g)]) w=_:=upd_same;let B:=z _ _ q;let C:=z _ _ i;let f:=I.trans z;show Ai _ _ _ _;generalize upd H1 w (.tup [.ref d,.int (y.2 / g)])=H2 at z A B C f ⊢;let {bx,N}:=X.bd;let {O,P}:=Y.bd;refine Be (Av {1,5,B,2,1,5,C,2,b,d,x.1.1,x.1.2,y.1.1,y.1.2,2,f _ _ Z,f _ _ hd,X.1.pos,Y.1.pos,bx.mono `a,N.mono `b,O.mono `a,P.mono `b,λr hr=>?_});let R:=AM hr (.tup [.int (C' (x.1.1,x.1.2) (y.1.1,y.1.2)).1,.int (C' (x.1.1,x.1.2) (y.1.1,y.1.2)).2]);let D:upd H2 r (.tup [.int (C' (x.1.1,x.1.2) (y.1.1,y.1.2)).1,.int (C' (x.1.1,x.1.2) (y.1.1,y.1.2)).2]) r=_:=upd_same;show AA _ _ _ _;generalize upd H2 r (.tup [.int (C' (x.1.1,x.1.2) (y.1.1,y.1.2)).1,.int (C' (x.1.1,x.1.2) (y.1.1,y.1.2)).2])=H3 at R D ⊢;refine {1,BJ,λp3 S=>{E4,λp4 F=>?_}};let T:=AM S (.tup [.ref r,.int g]);let U:=AM F (.lst [.ref n,.ref w,.ref p3]);let j:=R.trans (T.trans U);let m:=f.trans j;refine k p4 _ _ m ?_ upd_same {{n,b,2,(z.trans j) _ _ p,m _ _ Z},{w,d,2,j _ _ A,m _ _ hd},{p3,r,2,U _ _ upd_same,(T.trans U) _ _ D},trivial};cases e:H p4 with
 | none=>rfl
 | some o=>have:=(f.trans (R.trans T)) _ _ e;rw [F] at this;cases this
theorem Ku {p:Nat} (hp:Pr p):∀ n w:Nat,w<=n->0<w->∃ u,w=p ^ vp p n w*u/\¬ p∣u:=by
 intro n
 induction n with
 | zero=>intro w h i;omega
 | succ n a=>
   intro w j b;let d:=hp.two;show ∃ u,w=p ^ (if p∣w then vp p n (w / p)+1 else 0)*u/\¬ p∣u;by_cases c:p∣w
   .rw [jE c];let {v,rfl}:=c;let f:0<v:=Nat.pos_of_mul_pos_left b;rw [Nat.mul_div_cancel_left _ `a]
    let k:v<p*v:=by
     have:2*v<=p*v:=CV _ d;omega
    let {u,e,g}:=a v `a f;refine {u,?_,g};rw [CJ];have:p ^ vp p n v*p*u=p*(p ^ vp p n v*u):=by ext
    rw [this,<-e]
   .rw [jD c];exact {w,by rw [Nat.pow_zero,Nat.one_mul],c}
def prN {p:Nat} (hp:Pr p) {a b:Nat} (h:p∣a*b):p∣a\/p∣b:=by
 let h:(p:Int)∣(a:Int)*(b:Int):=by rw [<-Int.natCast_mul];exact EA.mpr h
 rcases HB hp h with y | y
 .exact .inl (EA.mp y)
 .exact .inr (EA.mp y)
theorem TW {p:Nat} (hp:Pr p):∀ a b u v:Nat,p ^ a*u=p ^ b*v->¬ p∣u->¬ p∣v->a=b:=by
 let g:=hp.two;intro a
 induction a with
 | zero=>
   intro b u v e c d;cases b with
   | zero=>rfl
   | succ b=>
     rw [Nat.pow_zero,Nat.one_mul] at e;exact absurd {p ^ b*v,by rw [e,CJ];ext} c
 | succ a f=>
   intro b u v e c d;cases b with
   | zero=>
     rw [Nat.pow_zero,Nat.one_mul] at e;exact absurd {p ^ a*u,by rw [<-e,CJ];ext} d
   | succ b=>
     refine congrArg (·+1) (f b u v ?_ c d);rw [CJ,CJ] at e;have:p*(p ^ a*u)=p*(p ^ b*v):=by ext
     exact Nat.eq_of_mul_eq_mul_left `a this
def Kw {p:Nat} (hp:Pr p) {w u:Int} (a:0<w) (b:0<u):Ac p (w*u)=Ac p w+Ac p u:=by
 let {x,c,d}:=Ku hp w.natAbs w.natAbs (AT _) `a;let {y,e,f}:=Ku hp u.natAbs u.natAbs (AT _) `a;let j:0<w*u:=Bt a b;let {z,g,i}:=Ku hp (w*u).natAbs (w*u).natAbs (AT _) `a;refine TW hp _ _ z (x*y) ?_ i λh=>(prN hp h).elim d f;show p ^ vp p (w*u).natAbs (w*u).natAbs*z=p ^ (vp p w.natAbs w.natAbs+vp p u.natAbs u.natAbs)*(x*y);rw [<-g,Bp,Nat.pow_add];have:p ^ vp p w.natAbs w.natAbs*p ^ vp p u.natAbs u.natAbs*(x*y)=(p ^ vp p w.natAbs w.natAbs*x)*(p ^ vp p u.natAbs u.natAbs*y):=by ext
 rw [this,<-c,<-e]
theorem Kx (p:Nat) (xs ys:List O_):WP p (xs++ys)=WP p xs+WP p ys:=by
 induction xs with
 | nil=>show WP p ys=0+WP p ys;ext
 | cons x xs a=>show val x.1*(Ac p x.2:Rat)+WP p (xs++ys)=(val x.1*(Ac p x.2:Rat)+WP p xs)+WP p ys;rw [a];ext
theorem TX (p:Nat) {xs ys:List O_} (h:xs.Perm ys):WP p xs=WP p ys:=by
 induction h with
 | nil=>rfl
 | cons x _ c=>show _+_=_+_;rw [c]
 | swap x y l=>show _+(_+_)=_+(_+_);ext
 | trans _ _ a b=>exact a.trans b
noncomputable def aH (x:O_):Nat:=Nat.log2 x.2.natAbs
noncomputable def LG:List O_->Nat
 | []=>0
 | x::a=>aH x+LG a
theorem JL (xs ys:List O_):LG (xs++ys)=LG xs+LG ys:=by
 induction xs with
 | nil=>show LG ys=0+LG ys;omega
 | cons x xs a=>show aH x+LG (xs++ys)=(aH x+LG xs)+LG ys;rw [a];omega
theorem qL {xs ys:List O_} (h:xs.Perm ys):LG xs=LG ys:=by
 induction h with
 | nil=>rfl
 | cons x _ c=>show _+_=_+_;rw [c]
 | swap x y l=>show _+(_+_)=_+(_+_);omega
 | trans _ _ a b=>exact a.trans b
theorem qN {xs:List O_} {j:Nat} {x:O_} (h:xs[j]?=some x):xs.Perm (x::xs.eraseIdx j):=by
 induction xs generalizing j with
 | nil=>cases h
 | cons y xs a=>
   cases j with
   | zero=>cases h;exact .refl _
   | succ j=>exact (List.Perm.cons y (a h)).trans (.swap x y _)
def TY {a b:Nat} (c:0<a) (d:0<b):a.log2+b.log2<=(a*b).log2:=by
 let e:a*b≠0:=by have:=Nat.mul_pos c d;omega
 rw [Nat.le_log2 e,Nat.pow_add];exact DB ((Nat.le_log2 `a).mp (AT _)) ((Nat.le_log2 `a).mp (AT _))
def TZ {a:Nat} (h:2<=a):1<=a.log2:=(Nat.le_log2 `a).mpr h
def Sm.bd {M w:Int} (h:Sm M w):w.natAbs.log2<=261:=by
 let {a,l,_}:=h;rw [<-Nat.lt_succ_iff];refine (Nat.log2_lt `a).mpr ?_;let e:((2 ^ 262:Nat):Int)=(2:Int) ^ 262:=by decide +kernel
 have:((w.natAbs:Nat):Int)<((2 ^ 262:Nat):Int):=by
  rw [e];omega
 exact_mod_cast this
def Sm.gcd {M:Int} {x y:Int} (a:Sm M x) (j:Sm M y) {g:Int} (e:((Int.gcd x y:Nat):Int)=g):Sm M (x / g)/\Sm M (y / g)/\Sm M g:=by
 let b:0<g:=by have:=Int.gcd_pos_of_ne_zero_left y (show x≠0 by have:=a.1;omega);omega
 let dv:∀ {z:Int},Sm M z->g∣z->Sm M (z / g)/\g<=z:=λ{z} h d=>by
  let {c,rfl}:=d;rw [GS _ (AR b)];let {q,k,m}:=h
  let n:0<c:=by
   rcases Int.lt_or_le 0 c with h | h
   .exact h
   .have:=ED h (Cc b);rw [EC] at this;omega
  let f:c*1<=c*g:=ED `a `a;let r:g*1<=g*c:=ED `a `a;rw [CK c g] at f;exact {{n,`a,BE (Eo ..) m},`a}
 let i:g∣x:=e ▸ ER x y;let o:g∣y:=e ▸ Dj x y;let {p,f}:=dv a i;let k:=a.2.1;exact {p,(dv j o).1,b,`a,BE i a.2.2}
def qO {M:Int} {x y:O_} (f:Sm M x.2) (k:Sm M y.2) (m:Low x.1.1 x.1.2) (n:Low y.1.1 y.1.2) (g:Int) (c:((Int.gcd x.2 y.2:Nat):Int)=g) :
  Sm M (x.2 / g)/\Sm M (y.2 / g)/\Sm M g/\(∀ p,Pr p->WP p [(x.1,x.2 / g),(y.1,y.2 / g),(C' x.1 y.1,g)]=WP p [x,y])/\(1<g->LG [(x.1,x.2 / g),(y.1,y.2 / g),(C' x.1 y.1,g)]+1<=LG [x,y]):=by
 let h:0<g:=by have:=Int.gcd_pos_of_ne_zero_left y.2 (show x.2≠0 by have:=f.1;omega);omega
 let o:g∣x.2:=c ▸ ER x.2 y.2;let q:g∣y.2:=c ▸ Dj x.2 y.2;let {d,e,r}:=Sm.gcd f k c;let i:x.2=g*(x.2 / g):=(FG o).symm;let j:y.2=g*(y.2 / g):=(FG q).symm;refine {d,e,r,λp hp=>?_,λw=>?_}
 .let u:Ac p x.2=Ac p g+Ac p (x.2 / g):=by rw [<-Kw hp h d.1,<-i]
  let v:Ac p y.2=Ac p g+Ac p (y.2 / g):=by rw [<-Kw hp h e.1,<-j]
  show val x.1*(Ac p (x.2 / g):Rat)+(val y.1*(Ac p (y.2 / g):Rat)+(val (C' x.1 y.1)*(Ac p g:Rat)+0))=val x.1*(Ac p x.2:Rat)+(val y.1*(Ac p y.2:Rat)+0);rw [F4 m.pos n.pos,u,v];push_cast;ext
 .let z:(g.natAbs).log2+((x.2 / g).natAbs).log2<=(x.2.natAbs).log2:=by
   have:=TY (a:=g.natAbs) (b:=(x.2 / g).natAbs) `a (by have:=d.1;omega);rw [<-Bp,<-i] at this;exact this
  let A:(g.natAbs).log2+((y.2 / g).natAbs).log2<=(y.2.natAbs).log2:=by
   have:=TY (a:=g.natAbs) (b:=(y.2 / g).natAbs) `a (by have:=e.1;omega);rw [<-Bp,<-j] at this;exact this
  let B:=TZ (a:=g.natAbs) `a;show ((x.2 / g).natAbs).log2+(((y.2 / g).natAbs).log2+((g.natAbs).log2+0))+1<=(x.2.natAbs).log2+((y.2.natAbs).log2+0);omega
noncomputable def cb:List O_->Nat
 | []=>1
 | y::a=>y.2.natAbs*cb a
theorem Ta:∀ {ys:List O_} {x:O_},(∀ y∈ys,Cp x y)->Nat.Coprime x.2.natAbs (cb ys)
 | [],_,_=>Nat.coprime_one_right _
 | y::ys,x,h=>Nat.Coprime.mul_right (h y (BC ..)) (Ta λz a=>h z (A6 _ a))
theorem Tb {m:Nat}:∀ {ys:List O_},(∀ y∈ys,y.2.natAbs∣m)->ys.Pairwise Cp->cb ys∣m
 | [],_,_=>Nat.one_dvd _
 | y::ys,h,c=>by
   let {c1,a}:=List.pairwise_cons.mp c;exact Nat.Coprime.mul_dvd_of_dvd_of_dvd (Ta c1) (h y (BC ..)) (Tb (λz b=>h z (A6 _ b)) a)
noncomputable def few:List O_->Nat
 | []=>0
 | y::a=>(if y.2.natAbs<16 then 1 else 0)+few a
theorem Tc:∀ {ys:List O_},(∀ y∈ys,1<y.2)->16 ^ (@ys - few ys)<=cb ys/\few ys<=@ys
 | [],_=>{AT _,AT _}
 | y::ys,h=>by
   let {a,b}:=Tc (ys:=ys) λz d=>h z (A6 _ d);let e:=h y (BC ..);show 16 ^ (@ys+1 - ((if y.2.natAbs<16 then 1 else 0)+few ys))<=y.2.natAbs*cb ys/\_<=@ys+1;by_cases c:y.2.natAbs<16
   .rw [jE c];refine {?_,by show (if y.2.natAbs<16 then 1 else 0)+few ys<=_;rw [jE c];omega};rw [show @ys+1 - (1+few ys)=@ys - few ys by omega];exact BK a (GO _ `a)
   .rw [jD c];refine {?_,by show (if y.2.natAbs<16 then 1 else 0)+few ys<=_;rw [jD c];omega};rw [show @ys+1 - (0+few ys)=@ys - few ys+1 by omega,CJ,C6];exact DB `a a
noncomputable def smp:List Nat:=[2,3,5,7,11,13]
def qP:∀ n:Nat,n<16->1<n->∃ p∈smp,p∣n:=by decide
theorem Mp:∀ (ys:List O_) (ps:List Nat),(∀ y∈ys,1<y.2)->ys.Pairwise Cp->ps.Nodup->(∀ p∈ps,1<p)->(∀ y∈ys,y.2.natAbs<16->∃ p∈ps,p∣y.2.natAbs)->few ys<=@ps
 | [],_,_,_,_,_,_=>Ah _
 | y::ys,ps,h,c,i,b,hp=>by
   let {c1,j}:=List.pairwise_cons.mp c;show (if y.2.natAbs<16 then 1 else 0)+few ys<=_;by_cases q:y.2.natAbs<16
   .rw [jE q];let {p,f,m}:=hp y (BC ..) q
    let n:=Mp ys (ps.erase p) (λz a=>h z (A6 _ a)) j (i.erase p) (λr o=>b r (List.mem_of_mem_erase o)) λz a u=>by
     let {r,v,k}:=hp z (A6 _ a) u;refine {r,(List.mem_erase_of_ne λe=>?_).mpr v,k};let g:Nat.gcd y.2.natAbs z.2.natAbs=1:=c1 z a;let d:p∣Nat.gcd y.2.natAbs z.2.natAbs:=Nat.dvd_gcd m (e ▸ k);rw [g] at d;have:=C9 `b d;have:=b p f;omega
    rw [List.length_erase_of_mem f] at n;have:=List.length_pos_of_mem f;omega
   .rw [jD q];have:=Mp ys ps (λz a=>h z (A6 _ a)) j i b λz a=>hp z (A6 _ a);omega
def Td {M:Int} (i:Om M) {ys:List O_} (h:∀ y∈ys,1<y.2/\Sm M y.2) (c:ys.Pairwise Cp):@ys<=60:=by
 let {k,n}:=i;let {a,b}:=Tc (ys:=ys) λy g=>(h y g).1;let f:=Mp ys smp (λy g=>(h y g).1) c `b `b λy g q=>qP _ q (by have:=(h y g).1;omega);let o:few ys<=6:=f;let d:=Tb (m:=M.natAbs) (λy g=>Cd.mpr (h y g).2.2.2) c;let l:=C9 `a d;let e:((2 ^ 200:Nat):Int)=(2:Int) ^ 200:=by decide +kernel
 let j:M.natAbs<2 ^ 200:=by
  have:((M.natAbs:Nat):Int)<((2 ^ 200:Nat):Int):=by rw [e];omega
  exact_mod_cast this
 let p:2 ^ (4*(@ys - few ys))<2 ^ 200:=by
  rw [Nat.pow_mul];exact Ek (BK a l) j
 have:=(Nat.pow_lt_pow_iff_right `b).mp p;omega
def Te {K:W.Frag} {c:TE} {capt:List (Option Nat)} {g:TG} {tc:TT} {d:TE} {b:L2.St} {H:Hp} {Q:VK} (h:c b H (λx e=>∃ a,x=.ref a/\(∃ f,SqL K e a f)/\CompF (ai K a) capt g tc d b Q e)):Ed (BW K c) capt g tc d b H Q:=h
def JM {K:W.Frag} {r:V->cZ->Hp->VK->Prop} {i:Nat} {w:Addr} {b:TE} {D:Ends} {a:L2.St} {H:Hp} (c:a[i]?=some (↥w)) (d:bZ K "list" (.ref w) H) (h:b a H λy e=>r (.ref w) [y] e λ_ f=>D.nx a f):Db (ax K "list" r (AA i) (AB b AC)) D a H:={_,c,d,h}
noncomputable def FA (x:O_):W.Dat:=.tuple [CO x.1,.int x.2]
def Tf {H:Hp} {u:V} {x:O_} (h:Pc H u x):RepD H u (FA x):=by
 let {a,b,rfl,c,d}:=h;exact .tup c (.cons (DR ⟨b,rfl,d⟩) (.cons (.int _) .nil))
def qQ {H:Hp} {a:cZ} {xs:List O_} (h:Lal (Pc H) a xs):RepA H a (xs.map FA):=
 Lal.ind (M:=λa xs=>RepA H a (xs.map FA)) .nil (λ_ _ _ _ r _ b=>.cons (Tf r) b) h
def Tg (x:O_):W.kqdOk 8 (FA x)=true:=by simp [FA,CO,W.kqdOk]
def qR {x y:O_} (h:FA x=FA y):x.2=y.2:=by
 unfold FA at h;injection h with h;injection h with _ h;injection h with h _;injection h
def Mq {p:Nat} (hp:Pr p):Ac p 1=0:=by
 let a:=hp.two;show (if p∣1 then vp p 0 (1 / p)+1 else 0)=0;rw [jD λh=>by have:=C9 `b h;omega]
def Th {a:Type} {l:List a} {x:a} (h:l[@l - 1]?=some x):l=l.dropLast++[x]:=by
 let b:l≠[]:=λz=>by rw [z] at h;cases h
 let e:=GT b
 have:l.getLast b=x:=by
  rw [List.getLast_eq_getElem];exact (A7.mp h).2
 rw [this] at e;exact e.symm
structure Wc (M:Int) (H0 H:Hp) (w f:Addr) (xs:List O_) (wu:cZ) (wx:List O_) (fu:cZ) (fx:List O_) (t m:Nat):Prop where
 same:Same H0 H
 hw:H w^^^wu
 aw:Lal (Pc H) wu wx
 hf:H f^^^fu
 af:Lal (Pc H) fu fx
 pw:∀ x∈wx,Cz t x.1/\Sm M x.2
 pf:∀ x∈fx,Cz t x.1/\x.1.1≠0/\1<x.2/\Sm M x.2
 cop:fx.Pairwise Cp
 wt:∀ p,Pr p->WP p wx+WP p fx=WP p xs
 ms:m=4*(LG wx+LG fx)+@wx
 tm:t+m<=200000
theorem Ti {b:List O_} (h:∀ x∈b,1<x.2):@b<=LG b:=by
 induction b with
 | nil=>exact AT _
 | cons x b c=>
   let e:=TZ (a:=x.2.natAbs) (by have:=h x (BC ..);omega);let f:=c λy d=>h y (A6 _ d);show @b+1<=(x.2.natAbs).log2+LG b;omega
theorem qS {M:Int} {xs:List O_} (h:∀ x∈xs,Sm M x.2):LG xs<=262*@xs:=by
 induction xs with
 | nil=>exact AT _
 | cons x xs a=>
   let c:=(h x (BC ..)).bd;let d:=a λy b=>h y (A6 _ b);show (x.2.natAbs).log2+LG xs<=262*(@xs+1);omega
def qT {K:W.Frag} {vs:cZ} {H:Hp} {Q:VK} {E:XK} (h:L5 K vs H Q E):wI K (eC Q) (L2.start ["pieces","waiting","found","piece","met"] vs) H:=by
 let {a,us,X,M,rfl,ha,hA,ao,hx,bp,k}:=h;refine A8 (EK {1,a,us,2,ha,λw a5=>?_});let s1:=AM a5 (.lst us);let F:upd H w (.lst us) w^^^us:=upd_same;show Q0 K _ [↥a,↥w,none,none,none] _;generalize upd H w (.lst us)=H1 at s1 F ⊢;refine A8 {GH,λf a6=>?_};let s2:=AM a6 (.lst []);let aw:upd H1 f (.lst []) f^^^[]:=upd_same;let wf:w≠f:=A3 F a6;let F:=s2 _ _ F
 let fN:H f=none:=by
  cases e:H f with
  | none=>rfl
  | some o=>have:=s1 _ _ e;rw [a6] at this;cases this
 let a7:=s1.trans s2;show Qz K _ [↥a,↥w,↥f,none,none] _;generalize upd H1 f (.lst [])=H2 at s2 aw F a7 ⊢
 let m0:4*(LG X+LG [])+@X<=100000:=by
  have:=qS λx h=>(hx x h).2;show 4*(LG X+0)+@X<=_;omega
 refine Dh (λm σ S=>∃ (d:cZ) (A:List O_) (B:cZ) (C:List O_) (t:Nat) (o3 o4:c_),σ=[↥a,↥w,↥f,o3,o4]/\Wc M H S w f X d A B C t m) _
  {us,X,[],[],81,none,none,2,a7,F,hA.mono λ_ _ h=>h.tp (F_ a7),aw,trivial,λx h=>hx x h,(λ_ h=>nomatch h),.nil,λp _=>by show WP p X+0=_;ext,2,`a} ?_
 rintro m σ H3 ⟨d,A,B,C,t,o3,o4,rfl,W⟩;refine {1,w,d,2,W.hw,Aa (λc=>?_) (λc=>?_)}
 ·-- one more
  let wl:=↑W.aw
  let ne:0<@d:=by
   cases d with
   | nil=>cases c
   | cons _ _=>exact Nat.succ_pos _
  let hu:d[@d - 1]?=some (d[@d - 1]'`a):=Ak `a;generalize d[@d - 1]'`a=u at hu;let {x,b0,pu}:=W.aw.get hu;rw [wl] at b0;let ew:=Th b0;let xm:x∈A:=by rw [ew];exact Ch _ (List.mem_singleton_self _)
  let {cx,sx}:=W.pw x xm;refine {_,λ_ _ h=>h,?_};show Qy K _ _ _;refine A8 {1,Eb W.hw,w,d,u,7,W.hw,hu,?_};let Y:Tp H3 (upd H3 w (.lst d.dropLast)):=Tp.updL W.hw;let a8:upd H3 w (.lst d.dropLast) w^^^d.dropLast:=upd_same;let G:upd H3 w (.lst d.dropLast) f=_:=(AX wf.symm).trans W.hf;let a9:Same H (upd H3 w (.lst d.dropLast)):=λb o J=>Kp.upd b o (A3 J a5) (W.same b o J);let Z:=W.aw.dropLast.mono λ_ _ h=>h.tp Y;let L:=W.af.mono λ_ _ h=>h.tp Y;let aa:=pu.tp Y;let lw1:@A=↑A.dropLast+1:=by rw [List.length_dropLast];omega
  let bq:LG A=LG A.dropLast+aH x:=by
   have:=congrArg LG ew;rw [JL] at this;rw [this];show _+(aH x+0)=_;omega
  let ab:∀ p,Pr p->WP p A=WP p A.dropLast+val x.1*(Ac p x.2:Rat):=λp _=>by
   have:=congrArg (WP p) ew;rw [Kx] at this;rw [this];show _+(_+0)=_;ext
  let a0:∀ y∈A.dropLast,Cz t y.1/\Sm M y.2:=λy hy=>W.pw y (by rw [ew];exact Ei _ hy);show Qx K _ [↥a,↥w,↥f,some u,o4] _;generalize upd H3 w (.lst d.dropLast)=H4 at Y a8 G a9 Z L aa ⊢;let {pa,pb,rfl,ac,bg}:=id aa
  let a4:(∀ p,Pr p->val x.1*(Ac p x.2:Rat)=0)->∃ m',m'<m/\∃ (d:cZ) (A:List O_) (B:cZ) (C:List O_) (t:Nat) (p3 p4:c_),[↥a,↥w,↥f,↥pa,o4]=[↥a,↥w,↥f,p3,p4]/\Wc M H H4 w f X d A B C t m':=λz=>by
   let ms:=W.ms;let tm:=W.tm;refine {4*(LG A.dropLast+LG C)+↑A.dropLast,`a,d.dropLast,A.dropLast,B,C,t,6,a9,a8,Z,G,L,a0,W.pf,W.cop,λp hp=>?_,2,`a};rw [<-W.wt p hp,ab p hp,z p hp];ext
  refine {1,5,ac,2,5,bg,7,1,Aa (λc1=>?_) (λc1=>?_)}
  .let c1:x.1.1≠0:=λz=>by
    let c1:(!decide (V.int x.1.1=V.int 0))=true:=c1;rw [z] at c1;simp at c1
   refine {1,5,ac,2,3,1,Aa (λc2=>?_) (λc2=>?_)}
   .let c2:x.2 > 1:=jG c2;show Qw K _ _ _;let fl:=@L;refine A8 (Te {1,f,2,{_,SqL.of G},CompF.lst (xs:=B) (λi I S=>i<=@B/\S=H4/\@I<=i/\((I=[]/\∀ n y,n<i->C[n]?=some y->Int.gcd x.2 y.2=1)\/∃ (j:Nat) (v:V) (y:O_),j<i/\I[0]?=some v/\B[j]?=some v/\C[j]?=some y/\1<Int.gcd x.2 y.2/\∀ n z,n<j->C[n]?=some z->Int.gcd x.2 z.2=1)) {Ah _,2,AT _,.inl {2,λn y h=>by omega}} ?_ ?_ ?_})
    .rintro i I S ⟨hi,rfl,yl,_⟩;let bi:=Ti λy h=>(W.pf y h).2.2.1;let ms:=W.ms;let tm:=W.tm;exact {hi,sz `a,SqL.of G}
    .rintro i v I S hv ⟨hi,rfl,yl,st⟩;let {y,hy,pv}:=L.get hv;let {va,vb,rfl,bk,br}:=id pv;let il:=(A7.mp hv).1;refine Av {1,5,ac,2,1,5,bk,2,x.2,y.2,2,3,1,Aa (λT=>?_) (λT=>?_)}
     .let T:((Int.gcd x.2 y.2:Nat):Int) > 1:=jG T;refine {1,il,2,by rw [Bf];exact Nat.succ_le_succ yl,.inr ?_};rcases st with ⟨rfl,no⟩ | ⟨j,v',y',h1,U,h3⟩
      .exact {i,_,y,Dv _,2,hv,hy,`a,no}
      .refine {j,v',y',`a,?_,h3};rw [HH (A7.mp U).1];exact U
     .let T:¬ ((Int.gcd x.2 y.2:Nat):Int) > 1:=λz=>T (jF z)
      let g1:Int.gcd x.2 y.2=1:=by
       have:=Int.gcd_pos_of_ne_zero_left y.2 (show x.2≠0 by omega);omega
      refine {il,2,`a,?_};rcases st with ⟨rfl,no⟩ | ⟨j,v',y',h1,U⟩
      .refine .inl {2,λn z hn N=>?_};rcases Nat.lt_succ_iff_lt_or_eq.mp hn with hn | hn
       .exact no n z hn N
       .rw [hn,hy] at N;cases N;exact g1
      .exact .inr {j,v',y',`a,U}
    .rintro I S ⟨_,rfl,yl,st⟩ q hq;let sq:=AM hq (.lst I);let a1:upd S q (.lst I) q^^^I:=upd_same;let af:=sq _ _ a8;let D:=sq _ _ G;let aj:=a9.trans sq;let al:=Z.mono λ_ _ h=>h.tp (F_ sq);let O:=L.mono λ_ _ h=>h.tp (F_ sq);let am:=aa.tp (F_ sq);let qf:q≠f:=(A3 G hq).symm;let ms:=W.ms;let tm:=W.tm;let bi:=Ti λy h=>(W.pf y h).2.2.1;let bs:↑d.dropLast=↑A.dropLast:=@Z;show Qv K _ [↥a,↥w,↥f,↥pa,↥q] _;generalize upd S q (.lst I)=H5 at sq a1 af D aj al O am ⊢;refine {1,q,I,2,a1,Aa (λT=>?_) (λT=>?_)}
     .let {j,v,y,jl,y0,fj,xj,g1,first}:=st.resolve_left λz=>by rw [z.1] at T;cases T
      let {y',b1,pv}:=O.get fj;rw [xj] at b1;cases b1;let ym:y∈C:=by let {z,e}:=A7.mp xj;exact e ▸ Cu z
      let {cy,yn,y1,sy}:=W.pf y ym;show Qu K _ _ _;refine {1,Eb D,1,9,_,v,7,a1,DQ (j:=0) rfl y0,f,B,v,FA y,C.map FA,j,7,D,Tf pv,qQ O,Tg y,λe he=>?_,by rw [Ae,xj];rfl,λi e hi he z=>?_,?_}
      .let {z,_,rfl}:=Au.mp he;exact Tg z
      .rw [Ae] at he;cases e2:C[i]? with
       | none=>rw [e2] at he;cases he
       | some z2=>
         rw [e2] at he;cases he;have:=first i z2 hi e2
         rw [qR z] at this;omega
      let P:Tp H5 (upd H5 f (.lst (B.eraseIdx j))):=Tp.updL D;let b2:upd H5 f (.lst (B.eraseIdx j)) f^^^(B.eraseIdx j):=upd_same;let a2:upd H5 f (.lst (B.eraseIdx j)) w=_:=(AX wf).trans af;let b3:upd H5 f (.lst (B.eraseIdx j)) q=_:=(AX qf).trans a1;let b4:Same H (upd H5 f (.lst (B.eraseIdx j))):=λb o J=>Kp.upd b o (A3 J fN) (aj b o J);let b6:=al.mono λ_ _ h=>h.tp P;let b8:=(O.erase j).mono λ_ _ h=>h.tp P;let b9:=am.tp P;let ba:=pv.tp P;show Qt K _ _ _;generalize upd H5 f (.lst (B.eraseIdx j))=H6 at P b2 a2 b3 b4 b6 b8 b9 ba ⊢;let {bb,bc,bd,bf,an}:=qO sx sy cx.1 cy.1 _ rfl;let an:=an `a;refine JM rfl (Eb a2) (Av {4,9,_,v,7,b3,DQ (j:=0) rfl y0,.ref pa,v,x,y,t,2,b9,ba,cx,cy,`a,sx.1,sy.1,λr ar H7 s7 rN bl a3=>?_});let l3:=@a3;let l3:@ar=3:=l3;refine {w,r,_,ar,7,s7 _ _ a2,bl,sz `a,?_};let bm:=s7 _ _ a2;let R:Tp H7 (upd H7 w (.lst (d.dropLast++ar))):=Tp.updL bm;let pe:=qN xj;let bt:LG C=aH y+LG (C.eraseIdx j):=qL pe;generalize ((Int.gcd x.2 y.2:Nat):Int)=g at bb bc bd bf an a3;let bv:LG [x,y]=aH x+aH y:=by show aH x+(aH y+0)=_;omega
      refine {4*(LG (A.dropLast++[(x.1,x.2 / g),(y.1,y.2 / g),(C' x.1 y.1,g)])+LG (C.eraseIdx j))+(A.dropLast++[(x.1,x.2 / g),(y.1,y.2 / g),(C' x.1 y.1,g)]).length,?_,9,B.eraseIdx j,C.eraseIdx j,t+1,6,λb o J=>Kp.upd b o (A3 J a5) (s7 b o (b4 b o J)),upd_same,((b6.mono λ_ _ h=>h.tp (F_ s7)).append a3).mono λ_ _ h=>h.tp R,(AX wf.symm).trans (s7 _ _ b2),(b8.mono λ_ _ h=>h.tp (F_ s7)).mono λ_ _ h=>h.tp R,λz N=>?_,λz N=>?_,?_,λp hp=>?_,2,?_}
      .rw [JL,Bf];show 4*_+(_+3)<m;omega
      .rcases C5.mp N with h | h
       .exact {(a0 z h).1.mono `a,(a0 z h).2}
       .rcases CP.mp h with rfl | h
        .exact {cx.mono `a,bb}
        .rcases CP.mp h with rfl | h
         .exact {cy.mono `a,bc}
         .rw [BM.mp h];exact {cx.add cy,bd}
      .let {h1,U}:=W.pf z (pe.mem_iff.mpr (A6 _ N));exact {h1.mono `a,U}
      .exact W.cop.sublist (List.eraseIdx_sublist ..)
      .rw [<-W.wt p hp,ab p hp,Kx,bf p hp,TX p pe];show WP p A.dropLast+(val x.1*(Ac p x.2:Rat)+(val y.1*(Ac p y.2:Rat)+0))+WP p (C.eraseIdx j)=WP p A.dropLast+val x.1*(Ac p x.2:Rat)+(val y.1*(Ac p y.2:Rat)+WP p (C.eraseIdx j));ext
      .rw [JL,Bf];show t+1+(4*_+(_+3))<=_;omega
     .let no:∀ n y,n<@B->C[n]?=some y->Int.gcd x.2 y.2=1:=by
       rcases st with ⟨_,no⟩ | ⟨j,v,y,h1,U,_⟩
       .exact no
       .cases I with
        | nil=>cases U
        | cons _ _=>exact absurd rfl T
      refine {1,Eb D,1,f,B,1,2,D,sz `a,?_};let R:Tp H5 (upd H5 f (.lst (B++[V.ref pa]))):=Tp.updL D;refine {4*(LG A.dropLast+LG (C++[x]))+↑A.dropLast,?_,d.dropLast,A.dropLast,B++[.ref pa],C++[x],t,6,λb o J=>Kp.upd b o (A3 J fN) (aj b o J),(AX wf).trans af,al.mono λ_ _ h=>h.tp R,upd_same,(O.snoc am).mono λ_ _ h=>h.tp R,a0,λz N=>?_,?_,λp hp=>?_,2,?_}
      .rw [JL];show 4*(_+(_+(aH x+0)))+_<m;omega
      .rcases C5.mp N with h | h
       .exact W.pf z h
       .rw [BM.mp h];exact ⟨cx,c1,c2,sx⟩
      .refine List.pairwise_append.mpr {W.cop,List.pairwise_singleton ..,λy hy z N=>?_};rw [BM.mp N];let {i,hi,e}:=ET hy;show Int.gcd y.2 x.2=1;rw [Int.gcd_comm];exact no i y `a (by rw [Ak hi,e])
      .rw [<-W.wt p hp,ab p hp,Kx];show _+(_+(val x.1*(Ac p x.2:Rat)+0))=_;ext
      .rw [JL];show t+(4*(_+(_+(aH x+0)))+_)<=_;omega
   .exact a4 λp hp=>by
     let c2:¬ x.2 > 1:=λz=>c2 (jF z);have:=sx.1;rw [show x.2=1 by omega,Mq hp];push_cast;ext
  .exact a4 λp hp=>by
    let z:x.1.1=0:=by
     by_cases z:x.1.1=0
     .exact z
     .exact absurd (show (!decide (V.int x.1.1=V.int 0))=true by simp [z]) c1
    have:val x.1=0:=by unfold val;rw [z,show ((0:Int):Rat)=0 from rfl];ext
    rw [this];ext
 .let wn:d=[]:=by
   cases d with
   | nil=>rfl
   | cons _ _=>exact absurd rfl c
  let bn:A=[]:=CU.mp (by rw [<-↑W.aw,wn];rfl);let tm:=W.tm;refine {1,k f B C H3 W.same W.hf W.af (λy hy=>?_) W.cop λp hp=>?_}
  .let {h1,U}:=W.pf y hy;exact {h1.mono `a,U}
  .rw [<-W.wt p hp,bn];show _=0+_;ext
theorem qU {T:List (O_×V)} {R:V->O_->Prop} (h:∀ t∈T,R t.2 t.1):Lal R (T.map (·.2)) (T.map (·.1)):=by
 induction T with
 | nil=>trivial
 | cons t T a=>exact {h t (BC ..),a λu b=>h u (A6 _ b)}
def qV {R:V->O_->Prop} {b:cZ} {xs:List O_} (a:Lal R b xs):(∀ t∈xs.zip b,R t.2 t.1)/\(xs.map (·.2)).zip b=(xs.zip b).map (λt=>(t.1.2,t.2))/\(xs.zip b).map (·.1)=xs:=
 Lal.ind (M:=λb xs=>(∀ t∈xs.zip b,R t.2 t.1)/\(xs.map (·.2)).zip b=(xs.zip b).map (λt=>(t.1.2,t.2))/\(xs.zip b).map (·.1)=xs) {(λ_ h=>nomatch h),7} (λu x b xs r _ ⟨d,e,f⟩=>by
  refine {λt c=>?_,?_,?_}
  .rcases CP.mp c with rfl | c
   .exact r
   .exact d t c
  .rw [CZ,FD,FD,CZ,e]
  .rw [FD,CZ,f]) a
theorem qW {p:Nat} {xs:List (Nu×Nu)} (h:∀ x∈xs,Cz 80 x.1):WP p ((xs.map λx=>(x.1,x.2.1))++xs.map λx=>(D_ x.1 (-1,1),x.2.2))=WR p xs:=by
 rw [Kx]
 induction xs with
 | nil=>show (0:Rat)+0=0;ext
 | cons x xs a=>
   let a:=a λy b=>h y (A6 _ b);let v:=(h x (BC ..)).neg.2;show (val x.1*(Ac p x.2.1:Rat)+WP p (xs.map λx=>(x.1,x.2.1)))+(val (D_ x.1 (-1,1))*(Ac p x.2.2:Rat)+WP p (xs.map λx=>(D_ x.1 (-1,1),x.2.2)))=val x.1*((Ac p x.2.1:Rat) - (Ac p x.2.2:Rat))+WR p xs;rw [v,<-a];ext
def qX {a:Array Value->Addr->Prop} {code:Addr->Heap->Prop} {P:Addr} {f:TE} {g:L2.St} {H:Hp} {Q:VK} (h:f g H λx b=>∃ (l:Addr) (c:cZ) (kz:d6),x=.ref l/\b l^^^c/\@c<64/\OU b c kz/\TabOk a code P b/\∀ (r:Addr) (e:List (Int×V)) (d:Hp),b r=none->e.Perm (kz.zip c)->e.Pairwise (λp q=>p.1<=q.1)->Kp P b d->TabOk a code P d->d r^^^(e.map (·.2))->Q (.ref r) d):Jx a code P f g H Q:=h
def qY {K:W.Frag} {vs:cZ} {H:Hp} {Q:VK} {E:XK} (h:L6 K vs H Q E):wG K (eC Q) (L2.start ["q","rows","pieces","found"] vs) H:=by
 let {v,a,us,C,M,rfl,ha,hA,ao,hx,b8,hT,k}:=h;let lu:=@hA;refine A8 (Ax (FW {1,a,2,{_,SqL.of ha},CompJ.lst (xs:=us) (λi A f=>i<=@us/\Same H f/\@A=i/\Lal (Pc f) A ((C.take i).map λx=>(x.1,x.2.1))) {Ah _,Same.refl H,2,by rw [EV];trivial} ?_ ?_ ?_}))
 .rintro i A f ⟨N,O,yl,_⟩;exact {N,sz `a,SqL.of (O _ _ ha)}
 .rintro i u A f G ⟨N,O,yl,al⟩;let {x,w,b,c,d,rfl,R,h2,h3}:=hA.get G;let il:=(A7.mp G).1;let tk:C.take (i+1)=C.take i++[x]:=by rw [EU,w];rfl
  refine {b,1,O _ _ R,2,6,3,?_};show Ai _ [↥c,↥d] _ _;refine Be {4,5,O _ _ h3,2,BJ,λp hp=>?_};let I:=AM hp (.tup [.ref c,.int x.2.1]);refine {il,O.trans I,by rw [Bf,yl];rfl,?_};rw [tk,B9];exact (al.mono λ_ _ h=>h.tp (F_ I)).snoc {p,c,2,upd_same,I _ _ (O _ _ h2)}
 rintro g H1 ⟨_,O,b9,m⟩ p1 aj;rw [lu,Bh] at m;let S:=AM aj (.lst g);let a1:upd H1 p1 (.lst g) p1^^^g:=upd_same;let D:=O.trans S;let m:=m.mono λ_ _ h=>h.tp (F_ S);show Bk _ _ _ _ _ _ _;generalize upd H1 p1 (.lst g)=H2 at S a1 D m ⊢;refine FW {1,a,2,{_,SqL.of (D _ _ ha)},CompJ.lst (xs:=us) (λi A f=>i<=@us/\Same H2 f/\@A=i/\Lal (Pc f) A ((C.take i).map λx=>(D_ x.1 (-1,1),x.2.2))) {Ah _,Same.refl _,2,by rw [EV];trivial} ?_ ?_ ?_}
 .rintro i A f ⟨N,s2,yl,_⟩;exact {N,sz `a,SqL.of (s2 _ _ (D _ _ ha))}
 .rintro i u A f G ⟨N,s2,yl,al⟩;let {x,w,b,c,d,rfl,R,h2,h3}:=hA.get G;let il:=(A7.mp G).1;let xm:x∈C:=by let {z,e}:=A7.mp w;exact e ▸ Cu z
  let cx:=(hx x xm).1;let {b1,b2}:=cx.bd;let tk:C.take (i+1)=C.take i++[x]:=by rw [EU,w];rfl
  let a2:=D.trans s2;refine {b,1,a2 _ _ R,2,6,3,?_};show Ai _ [↥c,↥d] _ _;refine Be (Av {1,Be {1,BJ,λp hp=>?_}});let I:=AM hp (.tup [.int (-1),.int 1]);let J:upd f p (.tup [.int (-1),.int 1]) p=_:=upd_same;let T:=a2.trans I;show Ht D_ K _ _ _ _;generalize upd f p (.tup [.int (-1),.int 1])=H3 at I J T ⊢;refine ⟨c,p,x.1.1,x.1.2,-1,1,rfl,T _ _ h2,J,cx.1.pos,`b,b1.mono `b,b2.mono `b,(show Bd 1 (-1) by unfold Bd;decide).mono `b,(show Bd 1 1 by unfold Bd;decide).mono `b,λr hr=>?_⟩;let sr:=AM hr (.tup [.int (D_ (x.1.1,x.1.2) (-1,1)).1,.int (D_ (x.1.1,x.1.2) (-1,1)).2]);let a3:upd H3 r (.tup [.int (D_ (x.1.1,x.1.2) (-1,1)).1,.int (D_ (x.1.1,x.1.2) (-1,1)).2]) r=_:=upd_same;show A_ _ _ _ _ _ _;generalize upd H3 r (.tup [.int (D_ (x.1.1,x.1.2) (-1,1)).1,.int (D_ (x.1.1,x.1.2) (-1,1)).2])=H4 at sr a3 ⊢;refine {1,5,(T.trans sr) _ _ h3,2,BJ,λq hq=>?_};let sq:=AM hq (.tup [.ref r,.int x.2.2]);let sa:=I.trans (sr.trans sq);refine {il,s2.trans sa,by rw [Bf,yl];rfl,?_};rw [tk,B9];exact (al.mono λ_ _ h=>h.tp (F_ sa)).snoc {q,r,2,upd_same,sq _ _ a3}
 rintro j H3 ⟨_,s2,ba,F⟩ p2 am;rw [lu,Bh] at F;let U:=AM am (.lst j);let a4:upd H3 p2 (.lst j) p2^^^j:=upd_same;let L:=s2.trans U;let F:=F.mono λ_ _ h=>h.tp (F_ U);let m:=m.mono λ_ _ h=>h.tp (F_ L);show Fu _ _ _ _;generalize upd H3 p2 (.lst j)=H4 at U a4 L m F ⊢;refine {p1,p2,g,j,7,L _ _ a1,a4,sz `a,λp3 an=>?_};let X:=AM an (.lst (g++j));let a5:upd H4 p3 (.lst (g++j)) p3^^^(g++j):=upd_same;let a6:=(D.trans L).trans X;let a8:=(m.append F).mono λ_ _ h=>h.tp (F_ X);let wr:=λp=>qW (p:=p) λx w=>(hx x w).1;show Qs K _ _ _;generalize upd H4 p3 (.lst (g++j))=H5 at X a5 a6 a8 ⊢;show AH (AN (Jx L1 L3 E8 _) _) _ _ _ _;refine A8 (qX (DS {1,p3,9,M,2,a5,a8,ao,λx h=>?_,?_,λr ws A H6 s6 hr aw py a9 wt=>?_}))
 .rcases C5.mp h with h | h
  .let {z,hz,rfl}:=Au.mp h;exact {(hx z hz).1.mono `b,(hx z hz).2.1}
  .let {z,hz,rfl}:=Au.mp h;exact {(hx z hz).1.neg.1.mono `b,(hx z hz).2.2}
 .rw [Bf,AI,AI];omega
 let l8:=Td ao (λy h=>(py y h).2.2) a9;let wl:=@aw;let Y:=a6.trans s6;let {z1,z2,z3}:=qV aw;refine {r,ws,A.map (·.2),2,hr,`a,{by rw [AI];exact wl.symm,λi u n G hn=>?_},TabOk.same hT Y,λr7 qs H7 bb pm aa k7 t7 Z=>?_}
 .let {y,hy,a',b',rfl,R,_}:=aw.get G;rw [Ae,hy] at hn;cases hn;exact {a',1,R}
 let {T',pT,eT}:=OV pm _ z2;let ar:Tp H6 H7:=λb C e=>k7 b _ ((TabOk.same hT Y).ne (.inl e)) e;let b0:Kp E8 H H7:=λb o hb e=>k7 b o hb (Y b o e);show Qq K _ _ _;let b3:qs.map (·.2)=T'.map (·.2):=by rw [eT,DW];rfl
 let a7:Lal (Pc H7) (qs.map (·.2)) (T'.map (·.1)):=by
  rw [b3];exact qU λt ht=>(z1 t (pT.mem_iff.mp ht)).tp ar
 let pY:(T'.map (·.1)).Perm A:=by
  have:=pT.map (λt:O_×V=>t.1);rw [z3] at this;exact this
 let P:(T'.map (·.1)).Pairwise (λx y=>x.2<=y.2):=by
  rw [eT,D8] at aa;rw [D8];exact aa
 generalize T'.map (·.1)=zs at a7 pY P;generalize qs.map (·.2)=ab at Z a7;let lz:=@a7;let lp:=pY.length_eq;refine B7 (Be {1,EK (FW {1,r7,2,{_,SqL.of Z},CompJ.lst (xs:=ab) (λi B f=>i<=@ab/\Same H7 f/\@B=i/\Lal (Rw f) B ((zs.take i).map λy=>(y.1,(y.2,1)))) {Ah _,Same.refl _,2,by rw [EV];trivial} ?_ ?_ ?_})})
 .rintro i B f ⟨N,s8,tl,_⟩;exact {N,sz `a,SqL.of (s8 _ _ Z)}
 .rintro i u B f G ⟨N,s8,tl,al⟩;let {y,hy,b,c,rfl,R,h2}:=a7.get G;let il:=(A7.mp G).1;let tk:zs.take (i+1)=zs.take i++[y]:=by rw [EU,hy];rfl
  refine {b,1,s8 _ _ R,2,6,3,?_};show Ai _ [↥c,some (.int y.2)] _ _;refine Be {1,Be {1,BJ,λp hp=>?_}};let I:=AM hp (.tup [.int y.2,.int 1]);let J:upd f p (.tup [.int y.2,.int 1]) p=_:=upd_same;refine {BJ,λq hq=>?_};let sq:=AM hq (.tup [.ref c,.ref p]);let sa:=I.trans sq;refine {il,s8.trans sa,by rw [Bf,tl];rfl,?_};rw [tk,B9];exact (al.mono λ_ _ h=>h.tp (F_ sa)).snoc {q,c,p,2,upd_same,(s8.trans sa) _ _ h2,sq _ _ J}
 .rintro B H8 ⟨_,s8,tl,ac⟩ p8 b4;rw [lz,Bh] at ac;let a0:=AM b4 (.lst B);let af:upd H8 p8 (.lst B) p8^^^B:=upd_same;generalize upd H8 p8 (.lst B)=H9 at a0 af ⊢;refine {p8,B,2,af,λb hb=>{BJ,λr9 b6=>?_}};let sb:=AM hb (.tup B);let s9:=AM b6 (.tup [v,.ref b]);let sX:=(s8.trans a0).trans (sb.trans s9);refine k r9 b B zs _ (λc o hc e=>sX _ _ (b0 c o hc e)) (TabOk.same t7 sX) upd_same (s9 _ _ upd_same) (ac.mono λ_ _ h=>h.tp (F_ (a0.trans (sb.trans s9)))) (λy hy=>py y (pY.mem_iff.mp hy)) ?_ P `a λp hp=>?_
  .exact (pY.symm.pairwise_iff (λh=>by show Int.gcd _ _=1;rw [Int.gcd_comm];exact h)).mp a9
  .rw [TX p pY,wt p hp,wr p]
theorem Tj {f g:dt} {n:Nat} {x:Rat}:∀ d,d<=n->(∀ i,n - d<=i->i<n->f i=g i)->au f n x d=au g n x d
 | 0,_,_=>rfl
 | d+1,b,h=>by
   show f (n - 1 - d)+x*au f n x d=g (n - 1 - d)+x*au g n x d;rw [Tj d `a (λi c a=>h i `a a),h (n - 1 - d) `a `a]
theorem Tk {f:dt} {n:Nat} {x B:Rat}:∀ d,au (λi=>f i / B) n x d=au f n x d / B
 | 0=>(O' B).symm
 | d+1=>by
   show f (n - 1 - d) / B+x*au (λi=>f i / B) n x d=(f (n - 1 - d)+x*au f n x d) / B;rw [Tk d];ext
def Tl (f:dt) (n:Nat) (x:Rat) (d:Nat):au f n x (d+1)=f (n - 1 - d)+x*au f n x d:=rfl
def qZ {K:W.Frag} {vs:cZ} {H:Hp} {Q:VK} {E:XK} (h:Iu K vs H Q E):xZ K (eC Q) (L2.start ["P","c","row","value","scale","whole"] vs) H:=by
 let {p,q,P,l,a,b,bq,rfl,hp,z,R,G,S,lo,I,n,l9,k}:=h;let D:=G.low;let {T,U,X}:=G.clr;let A:=Cb D;let B:Bd 8000 (Ag l):=U.mono `a;let u:(AV l).length=@l:=by unfold AV;rw [AI]
 let J:0<b:=lo.pos;unfold Nm at z;refine A8 (DS (AS rfl {_,P,l,Ag l,2,(.inl hp),R,D,A,B.mono `b,λq z=>(X q z).mono `a,`a,λr c Y L M N=>?_}));let f:=L _ _ z;refine {1,5,M,2,6,SqL.of N,ForJ.rev (λi C m=>∃ (v:Int) (Z:c_),C=[↥p,↥q,↥r,some (.int v),some (.int (b ^ i)),Z]/\m=Y/\Bd (11000+2000*i) v/\(v:Rat)*b=((b ^ i:Int):Rat)*au (λj=>((AV l).getD j 0:Rat)) @l (val (a,b)) i) {0,none,by (rw [Int.pow_zero];rfl),2,DF _,?_} ?_ ?_ ?_}
 .show ((0:Int):Rat)*b=_*0;push_cast;ext
 .rintro i C m _ ⟨_,_,_,rfl,_⟩;exact SqL.of N
 .rintro i x C m hi F ⟨v,y,rfl,rfl,o,id⟩;rw [AI,u] at hi F;rw [Ae,Ak `a] at F;let ew:(AV l).getD (@l - 1 - i) 0=(AV l)[@l - 1 - i]'`a:=by rw [AU,Ak `a];rfl
  obtain rfl:V.int _=x:=jL F;rw [<-ew];let O:Bd 8000 ((AV l).getD (@l - 1 - i) 0):=(E2 T _).mono `a;let g:Bd 2001 (b ^ i):=(n.pow i).mono `a;refine {4,5,f,2,3,GF (o.mono (show _<=60000 by omega)) I,4,3,GF O g,3,4,5,f,2,3,GF g n,v*a+(AV l).getD (@l - 1 - i) 0*b ^ i,some (.int ((AV l).getD (@l - 1 - i) 0)),by rw [DK];rfl,2,?_,?_}
  .exact (((o.mul I).mono (show _<=11100+2000*i by omega)).add ((O.mul g).mono `a)).mono `a
  .rw [Tl];let hb:=Am (AR J);let hv:val (a,b)=(a:Rat) / b:=rfl;rw [DK];push_cast at id ⊢;ext
 .rintro C m ⟨v,y,rfl,rfl,o,id⟩;rw [AI,u] at *;let g:Bd 2001 (b ^ @l):=(n.pow @l).mono `a;let d:0<b ^ @l:=Int.pow_pos J;let w:=Bt A.1 d;refine {4,5,f,2,3,GF (o.mono (show _<=60000 by omega)) n,1,5,M,2,8,GF B g,6,AR w,λt ht=>?_};refine k t _ (Aq (v*b) (Ag l*b ^ @l)) (L.trans (AM ht _)) Hl (DO (AR w)) ((F5 (AR w) ((o.mul n).mono (show _<=60000 by omega)) (B.mul g)).1.mono `b) ((F5 (AR w) ((o.mul n).mono (show _<=60000 by omega)) (B.mul g)).2.mono `b) ?_;unfold ah;rw [Dp (AR w)]
  let e:au (C_ l) @l (val (a,b)) @l=au (λj=>((AV l).getD j 0:Rat)) @l (val (a,b)) @l / (Ag l:Rat):=by
   rw [<-Tk];exact Tj _ (AT _) λi _ _=>F6 D A i
  rw [e];let h1:=Am (AR A.1);let h2:=Am (AR d);push_cast at *;ext
def datN_eq {q r:Nu}:CO q=CO r↔q=r:={λh=>sI h,λh=>by rw [h]}
def Mr {z:Nu} (h:Low z.1 z.2):val z=0↔z=(0,1):=by
 constructor
 .intro e;refine Do h Hf ?_;rw [e];exact (O' _).symm
 .intro e;rw [e];exact O' _
def pC {K:W.Frag} {vs:cZ} {H:Hp} {Q:VK} {E:XK} (h:L0 K vs H Q E):wF K (eC Q) (L2.start ["F","c","bottom"] vs) H:=by
 let {p,q,T,B,a,d,b,rfl,{u,v,hp,{zu,hu,nu},{zv,hv,nv}},C,G1,G2,U,D,F,lo,X,Y,k}:=h;unfold Nm at C;refine A8 (Av {1,5,hp,2,1,v,q,zv,B,a,d,b,2,hv,C,nv,G2,U,lo,X,Y,F,λr1 H1 z i hz Z b1 b2 G=>?_});let {_,I,j}:=hz;injection I with I;subst I;let J:=i _ _ hp;let L:=i _ _ C;let M:=i _ _ hu;refine {1,BJ,λw hw=>?_};let f:=AM hw (.tup [.int 0,.int 1]);refine {9,decide (z=(0,1)),DR {r1,2,f _ _ j},DR (q:=(0,1)) ⟨w,rfl,upd_same⟩,az _ 7,az _ 7,by rw [datN_eq];simp,1,Aa (λc=>?_) (λc=>?_)}
 .let c:z=(0,1):=by simpa using c
  exact k .non _ (i.trans f) (.inl {by rw [<-G,c];exact O' _,2})
 let c:z≠(0,1):=by simpa using c
 let z0:val z≠0:=λe=>c ((Mr Z).mp e);let m:=f _ _ J;let n:=f _ _ L;let o:=f _ _ M;let r:=f _ _ j;let g:=i.trans f;generalize upd H1 w (.tup [.int 0,.int 1])=H2 at m n o r g ⊢;refine Av (Av {1,5,m,2,1,u,q,zu,T,a,d,b,2,o,n,nu.tp (F_ g),G1,U,lo,X,Y,D,λr3 H3 y s3 hy N b3 b4 ey=>?_});let {_,O,P}:=hy;injection O with O;subst O;let x:=s3 _ _ r;let R:z.1≠0:=λe=>z0 (by unfold val;rw [e];show ((0:Int):Rat) / _=0;rw [show ((0:Int):Rat)=0 from rfl];ext);refine {1,9,y.1,y.2,z.1,z.2,2,P,x,N.pos,R,b3.mono `b,b4.mono `b,b1.mono `b,b2.mono `b,λt ht=>?_};let S:y.2*z.1≠0:=CA (AR N.pos) R;let A:=F5 S (b3.mul b2) (b4.mul b1);refine k (.ref t) _ ((g.trans s3).trans (AM ht _)) (.inr {by rw [<-G];exact z0,Aq (y.1*z.2) (y.2*z.1),Hl,DO S,A.1.mono `b,A.2.mono `b,?_});rw [Dp S,<-G,<-ey];let c1:=Am (AR N.pos);let c2:=Am (AR Z.pos);let c3:=Am R;unfold val;push_cast;ext
def Tm {a b:Int} (c:-18446744073709551616<b) (d:b<18446744073709551616):IntMulOk a b:=IntMulOk.of_right (intBits_le_64 `a `a)
def HC {a b:Int} (c:-18446744073709551616<a) (d:a<18446744073709551616):IntMulOk a b:=IntMulOk.of_left (intBits_le_64 `a `a)
def Tq.of {H a:Hp} (s:Same H a):Tq H a:={F_ s,λb c h=>s b _ h}
def Tq.trans {H d e:Hp} (a:Tq H d) (b:Tq d e):Tq H e:={λc f h=>b.1 _ _ (a.1 _ _ h),λc f h=>b.2 _ _ (a.2 _ _ h)}
def Tq.tab {H a:Hp} (T:aX H) (k:Kp E8 H a):Tq H a:=by
 let {ps,e,_}:=T;exact {λb c h=>k b _ (λz=>by rw [z,e] at h;cases h) h,λb c h=>k b _ (λz=>by rw [z,e] at h;cases h) h}
def Gh.tq {H f:Hp} {u:V} {g:Gp} (t:Tq H f) (h:Gh H u g):Gh f u g:=by
 let {a,b,c,d,e,i,j,k,m}:=h;exact {a,b,c,d,e,t.1 _ _ i,t.1 _ _ j,t.2 _ _ k,t.2 _ _ m}
def Ph.tp {H b:Hp} {u:V} {p:Pp} (t:Tp H b) (h:Ph H u p):Ph b u p:=by
 let {a,e,c}:=h;exact {a,e,t _ _ c}
def Gd.tq {H a:Hp} {g:Addr} {gs:List Gp} (t:Tq H a) (h:Gd H g gs):Gd a g gs:=by
 let {b,c,d}:=h;exact {b,t.2 _ _ c,d.mono λu x r=>r.tq t}
def Pd.tq {H a:Hp} {p:Addr} {row:cQ} {ps:List Pp} (t:Tq H a) (h:Pd H p row ps):Pd a p row ps:=by
 let {w,q,b,c,d,e,f,g,i}:=h;exact {w,q,b,c,t.1 _ _ d,t.2 _ _ e,f.tp t.1,t.2 _ _ g,i.mono λu x r=>r.tp t.1}
def Dd.tq {H a:Hp} {r:Addr} {gs:List Gp} {row:cQ} {ps:List Pp} (t:Tq H a) (h:Dd H r gs row ps):Dd a r gs row ps:=by
 let {g,p,b,c,d}:=h;exact {g,p,t.1 _ _ b,c.tq t,d.tq t}
def FF.tq {H a:Hp} {p:Addr} {T B:cQ} (t:Tq H a) (h:FF H p T B):FF a p T B:=by
 let {u,v,b,{c,d,e},{f,g,i}}:=h;exact {u,v,t.1 _ _ b,{c,t.1 _ _ d,e.tp t.1},{f,t.1 _ _ g,i.tp t.1}}
def Fr.tq {H d:Hp} {u:V} {g:Gp} (t:Tq H d) (h:Fr H u g):Fr d u g:=by
 let {a,b,c,l,e,f,i,{j,k,m},n}:=h;exact {a,b,c,l,e,t.1 _ _ f,t.1 _ _ i,{j,t.1 _ _ k,m.tp t.1},n}
def Fo.tq {H b:Hp} {f:Addr} {T B:cQ} {gs:List Gp} (t:Tq H b) (h:Fo H f T B gs):Fo b f T B gs:=by
 let {a,s,c,d,e,g,i}:=h;exact {a,s,c,t.1 _ _ d,e.tq t,t.1 _ _ g,i.mono λu x r=>r.tq t}
def Wr.tp {H c:Hp} {u:V} {x:Wp} (t:Tp H c) (h:Wr H u x):Wr c u x:=by
 let {a,b,e,d,f}:=h;exact {a,b,e,t _ _ d,t _ _ f}
def Ky {y z:Nu} {b c:Nat} (a:0<y.2) (d:0<z.2) (e:Bd b y.1) (f:Bd b y.2) (g:Bd c z.1) (h:Bd c z.2):Bd (b+c) (D_ y z).1/\Bd (b+c) (D_ y z).2:=by
 have:=F5 (AR (Bt a d)) (e.mul g) (f.mul h);rw [G4 (Bt a d)] at this;exact this
def Ms {y z:Nu} {b c:Nat} (a:0<y.2) (d:0<z.2) (g:Bd b y.1) (e:Bd b y.2) (h:Bd c z.1) (f:Bd c z.2):Bd (b+c+1) (C' y z).1/\Bd (b+c+1) (C' y z).2:=by
 have:=F5 (AR (Bt a d)) ((g.mul f).add ((h.mul e).mono (show c+b<=b+c by omega))) ((e.mul f).mono (show b+c<=b+c+1 by omega));rw [G4 (Bt a d)] at this;exact this
def pE {K:W.Frag} {vs:cZ} {H:Hp} {Q:VK} {E:XK} (h:Gv K vs H Q E):wQ K (eC Q) (L2.start ["_law_one","_law_other"] vs) H:=by
 let {p,q,a,b,c,d,rfl,hp,e,f,g,n,i,o,j,k}:=h;exact B7 (Av (Ax (Ax (Bc rfl hp rfl (Bc rfl e rfl {3,C4 n j,Ax (Bc rfl e rfl (Bc rfl hp rfl {3,C4 o i,{3,Ax (Bc rfl hp rfl (Bc rfl e rfl {3,C4 i j,{6,AR (Bt f g),λr u=>by rw [G4 (Bt f g)];exact k r u}}))}}))})))))
def pH {K:W.Frag} {vs:cZ} {H:Hp} {Q:VK} {E:XK} (h:Gw K vs H Q E):wR K (eC Q) (L2.start ["_law_one","_law_other"] vs) H:=by
 let {p,q,a,b,c,d,rfl,hp,e,f,g,j,m,n,o,k}:=h;exact B7 (Av (Ax (Bc rfl hp rfl (Bc rfl e rfl {3,C4 j n,Ax (Bc rfl hp rfl (Bc rfl e rfl {3,C4 m o,{6,AR (Bt f g),λr u=>by rw [G4 (Bt f g)];exact k r u}}))}))))
def pI {K:W.Frag} {vs:cZ} {H:Hp} {Q:VK} {E:XK} (h:FX K vs H Q E):wP K (eC Q) (L2.start ["_law_top","_law_bottom","_law_one","_law_other"] vs) H:=by
 let {a,b,rfl,f,q}:=h
 let n:∀ s:Int,(s=if b<0 then -((Int.gcd a b:Nat):Int) else ((Int.gcd a b:Nat):Int))->HZ a s/\HZ b s/\2<=sizeLine/\∀ (p:Addr),H p=none->Q (V.ref p) (upd H p (.tup [.int (a.fdiv s),.int (b.fdiv s)])):=λs B=>by
  let {o,J,r,C,L,M}:=Jk f B
  let e:Aq a b=(a.fdiv s,b.fdiv s):=by
   refine Do (DO f) r ?_;rw [Dp f,J3 (q:=(a.fdiv s,b.fdiv s)) (AR r.pos) f C]
  rw [e] at q;exact {o,o,sz `b,q}
 refine {4,4,6,?_};show AH (Cv _ _) _ _ [_,_,_,_] _;refine Dh (λm u d=>∃ x y:Int,u=[some (.int a),some (.int b),some (.int x),some (.int y)]/\d=H/\0<=x/\0<=y/\Int.gcd x y=Int.gcd a b/\m=y.natAbs) b.natAbs {3,by split <;> omega,by split <;> omega,?_,by split <;> omega} ?_
 .split <;> split <;> simp [Int.neg_gcd,Int.gcd_neg]
 rintro m u d ⟨x,y,rfl,rfl,N,v,w,rfl⟩;refine {8,1,Aa (λc=>?_) (λc=>?_)}
 .let c:y > 0:=jG c;refine {λD F=>∃ G,G<y.natAbs/\_,λ_ _ h=>h,?_};let I:=Ca x (show y≠0 by omega);let O:=Ci x c;refine {4,8,c,6,(x % y).natAbs,`a,y,x % y,7,v,I,?_,2};rw [Jj x v];exact w
 .let c:¬ y > 0:=λz=>c (jF z);let e:y=0:=by omega
  subst e;let A:x=((Int.gcd a b:Nat):Int):=by rw [<-w,Int.gcd_zero_right];omega
  refine {8,1,Aa (λg=>?_) (λg=>?_)}
  .let {i,j,k}:=n (-x) (by rw [jE (jG g),A]);exact {4,4,3,i,4,3,j,k}
  .let {i,j,k}:=n x (by rw [jD (λz=>g (jF z)),A]);exact {4,3,i,4,3,j,k}
def pJ {K:W.Frag} {vs:cZ} {H:Hp} {Q:VK} {E:XK} (h:L7 K vs H Q E):wN K (eC Q) (L2.start ["_law_script","_law_k"] vs) H:=by
 let {a,b,k,rfl,d,i,q}:=h;refine E3 {8,1,Aa (λ_=>?_) (λ_=>?_)}
 .refine {1,a,1,d,3,1,Aa (λc=>?_) (λ_=>q 0)};let c:k<(((~~~b).length:Nat):Int):=jG c;let f:k.toNat<(~~~b).length:=by omega
  let e:R_ (~~~b) k=some (V.int (b.getD k.toNat 0)):=by
   refine DQ (j:=k.toNat) `a ?_;rw [AI] at f;rw [Ae,AU,Ak f];rfl
  exact {4,5,d,e,q _}
 .exact {1,Aa (λc=>by cases c) (λ_=>q 0)}
def pK {K:W.Frag} {vs:cZ} {H:Hp} {Q:VK} {E:XK} (h:C3 K vs H Q E):wO K (eC Q) (L2.start ["_law_cell","_law_k","_law_many","_law_m"] vs) H:=by
 let {c,k,m,rfl,b,f,d,q}:=h;let q:=q (Ca _ `a) (Ci _ d);unfold X' at q
 let rest:Q (.int ((c % 2147483629+k*k*7919+11)*48271 % 2147483647*((c % 2147483629+k*k*7919+11)*48271 % 2147483647) % 1999999973 / 7 % m)) H->Q4 K { nx:=λ_ a=>Q V.non a,rt:=Q } [some (.int c),some (.int k),some (.int m),none] H:=λq=>by
  let g:=Ca c (show (2147483629:Int)≠0 by decide);let i:=Ci c (show (0:Int)<2147483629 by decide)
  let j:0<=k*k/\k*k<=10000:=by
   constructor
   .exact Int.mul_nonneg b b
   .exact Int.le_trans (Int.mul_le_mul f f b `b) `b
  refine A8 {8,(show (0:Int)<2147483629 by decide),4,3,HC `a `a,3,Tm `b `b,3,3,3,Tm `b `b,3,(show (0:Int)<2147483647 by decide),?_};show Q3 K _ _ _;let n:=Ca ((c % 2147483629+k*k*7919+11)*48271) (show (2147483647:Int)≠0 by decide);let o:=Ci ((c % 2147483629+k*k*7919+11)*48271) (show (0:Int)<2147483647 by decide);exact {4,3,HC `a `a,3,(show (0:Int)<1999999973 by decide),3,{(show (0:Int)<7 by decide),(show Bd 3 7 by unfold Bd;decide).mono `b},8,d,q}
 refine E3 {8,{`b,`b,`b},3,1,Aa (λc1=>?_) (λc1=>?_)}
 .rw [jE c1] at q;refine {8,1,Aa (λe=>?_) (λe=>rest (by rw [jD e] at q;exact q))};rw [jE e] at q;exact {4,3,HC `b `b,3,(by show (0:Int)<=8*k;omega),3,(show (0:Int)<256 by decide),8,d,q}
 .exact Aa (λc=>by cases c) (λ_=>rest (by rw [jD c1] at q;exact q))
def pL {t d:Int} (h:Low t d):Aq t d=(t,d):=Do (DO (by have:=h.pos;omega)) h (by rw [Dp (by have:=h.pos;omega)];rfl)
def pM {K:W.Frag} {vs:cZ} {H:Hp} {Q:VK} {E:XK} (h:Ix K vs H Q E):Q5 K (eC Q) (L2.start ["_law_found","_law_part"] vs) H:=by
 let {p,t,d,rfl,hp,f,k}:=h;unfold Q5;refine E3 {1,9,true,2,Jm hp,true,2,Aa (λc=>by cases c) λ_=>{1,p,1,hp,2,1,Aa (λc=>by cases c) λ_=>?_}};refine Ey {1,p,2,{_,SqT.of hp},ForT.by (xs:=[.int t,.int d]) (λi e a=>∃ v,e=[↥p,v]/\a=H) ⟨none,rfl,rfl⟩ ?_ ?_ ?_}
 .rintro i e a _ ⟨v,rfl,rfl⟩;exact hp
 .rintro i x e a b ⟨v,rfl,rfl⟩
  let {z,rfl}:∃ z,x=V.int z:=by
   match i,b with
   | 0,b=>exact {_,(jL b).symm}
   | 1,b=>exact {_,(jL b).symm}
  exact {1,9,true,7,true,2,Aa (λc=>by cases c) λ_=>{1,9,false,7,false,2,Aa (λc=>by cases c) λ_=>{1,2}}}
 .rintro e a ⟨v,rfl,rfl⟩;refine {1,5,hp,2,3,1,Aa (λ_=>?_) (λc=>absurd (jF (show d > 0 from f.pos)) c)};refine Ax {1,Av {1,5,hp,2,1,5,hp,2,t,d,2,by have:=f.pos;omega,λr g=>?_}};rw [pL f];let sr:=AM g (.tup [.int t,.int d]);refine {p,r,3,sr _ _ hp,upd_same,7,?_};rw [jF rfl];exact k _ sr
def pZ {K:W.Frag} {vs:cZ} {H:Hp} {Q:VK} {E:XK} (h:KY K vs H Q E):xL K (eC Q) (L2.start ["one"] vs) H:=by
 let {p,a,b,rfl,hp,k}:=h;let e:(if a<0 then -a else a)=(a.natAbs:Int):=by split <;> omega
 rw [<-e] at k;exact B7 (Be (EK (Bc rfl hp rfl {1,Bc rfl hp rfl ⟨BJ,k⟩})))
def oA {K:W.Frag} {vs:cZ} {H:Hp} {Q:VK} {E:XK} (h:L9 K vs H Q E):wY K (eC Q) (L2.start ["_law_c"] vs) H:=by
 let {p,a,b,rfl,hp,k}:=h;let e:(if a<0 then -a else a)=(a.natAbs:Int):=by split <;> omega
 rw [<-e] at k;exact B7 (Be (EK (Bc rfl hp rfl {1,Bc rfl hp rfl ⟨BJ,k⟩})))
def oB {K:W.Frag} {vs:cZ} {H:Hp} {Q:VK} {E:XK} (h:Iy K vs H Q E):vB K (eC Q) (L2.start ["_law_c","_law_a"] vs) H:=by
 let {q,t,b,a,rfl,d,e,f,g,i,k}:=h;refine B7 (Av (AS rfl (Be {4,BJ,λp hp=>?_})));let s:=AM hp (.tup [.int (-a),.int 1]);exact ⟨q,p,t,b,-a,1,rfl,s _ _ d,upd_same,e,`b,f.mono `b,g.mono `b,i.neg.mono `b,Bd.one.mono `b,λr j=>k r _ (s.trans (AM j _)) upd_same⟩
def oC {K:W.Frag} {vs:cZ} {H:Hp} {Q:VK} {E:XK} (h:MA K vs H Q E):vC K (eC Q) (L2.start ["_law_c"] vs) H:=by
 let {q,t,b,rfl,a,d,k}:=h;exact B7 (Av (Bc rfl a rfl (Bc rfl a rfl {6,d,k})))
def oD {K:W.Frag} {vs:cZ} {H:Hp} {Q:VK} {E:XK} (h:KZ K vs H Q E):wZ K (eC Q) (L2.start ["_law_c","_law_many","_law_found","_law_turn_here"] vs) H:=by
 let {q,z,n,rfl,m,f,u,v,A,k}:=h;unfold Nm at m;refine A8 (Be (I_ (I_ {BJ,λp hp=>?_})));let B:=AM hp (.tup [.int 1,.int 1]);refine Ey {1,(n:Int),2,`a,`a,ForR.by (λi g b=>∃ (a:Addr) (y:Nu) (o:c_),g=[↥q,some (.int (n:Int)),↥a,o]/\Same H b/\Nm b a y.1 y.2/\Low y.1 y.2/\Bd (100*i+1) y.1/\Bd (100*i+1) y.2/\val y=val z ^ i) {p,(1,1),none,2,B,upd_same,Mf,Bd.one.mono `a,Bd.one.mono `a,?_} ?_ ?_}
 .rw [Rat.pow_zero];show ((1:Int):Rat) / ((1:Int):Rat)=1;rw [show ((1:Int):Rat)=1 from rfl];ext
 .rintro i g b w ⟨a,y,o,rfl,s,j,c,c1,d,e⟩;let w:i<n:=w;refine Eg (Av (AS rfl (AS rfl {a,q,y.1,y.2,z.1,z.2,2,j,s _ _ m,c.pos,f,c1.mono `a,d.mono `a,u.mono `b,v.mono `b,λr C=>?_})));let x:=Ky c.pos f c1 d u v;refine {r,D_ y z,1,s.trans (AM C _),upd_same,F1 c.pos f,x.1.mono `a,x.2.mono `a,?_};rw [Hg c.pos f,e,Rat.pow_succ]
 .rintro g b ⟨a,y,o,rfl,s,j,c,c1,d,e⟩;let D:(n:Int).toNat=n:=rfl;rw [D] at c1 d e;exact B7 (AS rfl (k a y b s j c (c1.mono `a) (d.mono `a) e))
def GI {K:W.Frag} {c:TE} {g:TG} {d rest:TS} {D:Ends} {b:L2.St} {H:Hp} (h:c b H (λx e=>∃ a,x=.ref a/\(∃ f,SqL K e a f)/\ForL K a g d { D with nx:=rest D } b e)):AH (BH (BW K c) g d) rest D b H:=h
def Tn {K:W.Frag} {c:TE} {g:TG} {d:TS} {D:Ends} {b:L2.St} {H:Hp} (h:c b H (λx e=>∃ a,x=.ref a/\(∃ f,SqL K e a f)/\ForL K a g d D b e)):BH (BW K c) g d D b H:=h
def Cq.bd {t b:Int} (C:Cq t b):Bd 5 t/\Bd 2 b:=by
 have:=C.t18;have:=C.b3;have:=C.lo.pos;unfold Bd;omega
def HD (n:Int):val (n,1)=(n:Rat):=by
 show (n:Rat) / ((1:Int):Rat)=n;rw [show ((1:Int):Rat)=1 from rfl];ext
def To {t b:Int} (c:0<b) (a:Int):val (C' (t,b) (-a,1))=val (t,b) - (a:Rat):=by
 rw [F4 (q:=(t,b)) (r:=(-a,1)) c DC,HD];push_cast;ext
def oE {t b a:Int} (C:Cq t b) (f:a.natAbs<=6):Bd 10 (C' (t,b) (-a,1)).1/\Bd 10 (C' (t,b) (-a,1)).2:=by
 let {d,e}:=C.bd;let h:=Ms (y:=(t,b)) (z:=(-a,1)) (b:=5) (c:=3) C.lo.pos DC d (e.mono `b) (by show (-a).natAbs<8;omega) (by show (1:Int).natAbs<8;decide);exact {h.1.mono `b,h.2.mono `b}
def D4 {a:Int} {n:Nat} (b:a.natAbs<=n) (h:n<2 ^ 10:=by decide):Bd 10 a:=Ek b h
theorem Mt (x:Rat) (q:Nu):∀ l:cQ,eR x (l++[q])=eR x l+val q*x ^ @l
 | []=>by show val q+x*0=0+val q*x ^ 0;rw [Rat.pow_zero];ext
 | y::l=>by
   show val y+x*eR x (l++[q])=val y+x*eR x l+val q*x ^ (@l+1);rw [Mt x q l,Rat.pow_succ];ext
theorem Mu (x:Rat) (p:Pp):∀ (l:List Pp) (s:Rat),aQ x (l++[p]) s=aQ x l s+(p.1:Rat)*((x - (p.2.1:Rat)) ^ p.2.2)⁻¹
 | [],_=>rfl
 | _::l,_=>Mu x p l _
def Cr {a:Type} {l:List a} {i:Nat} {x:a} (h:l[i]?=some x):l.take (i+1)=l.take i++[x]:=by rw [EU,h];rfl
theorem Mv {x:Rat} (h:x≠0):∀ n:Nat,x ^ n≠0
 | 0=>by rw [Rat.pow_zero];decide
 | n+1=>by rw [Rat.pow_succ];exact λe=>(Rat.mul_eq_zero.mp e).elim (Mv h n) h
def oF {y:Nu} (h:val y≠0):y.1≠0:=λe=>h (by unfold val;rw [e];exact O' _)
def oH {K:W.Frag} {vs:cZ} {H:Hp} {Q:VK} {E:XK} (h:MC K vs H Q E):vE K (eC Q) (L2.start ["_law_parts_here","_law_c","_law_total","_law_j","_law_number_here","_law_size_here","_law_a","_law_k"] vs) H:=by
 let {p,q,G,ps,t,b,rfl,{w,v,xs,vs,hp,hw,nx,hv,lp},R,P,hq,C,np,k}:=h;let {bt,bb}:=C.bd;let b0:=C.lo.pos;let {M,M0,M3,hR}:=R.rz;let r4:=R.r4;let p2:=P.p2;unfold Nm at hq;refine A8 (Be (I_ (I_ {BJ,λO a2=>?_})));let D:=AM a2 (.tup [.int 0,.int 1]);let h0:upd H O (.tup [.int 0,.int 1]) O=_:=upd_same;show Rh K _ [↥p,↥q,↥O,none,none,none,none,none] _;generalize upd H O (.tup [.int 0,.int 1])=H1 at D h0 ⊢;refine Ey {1,5,D _ _ hp,2,w,2,{_,SqL.of (D _ _ hw)},ForJ.enumL (xs:=xs) (λi A g=>∃ (a:Addr) (z:Nu) (S T:c_),A=[↥p,↥q,↥a,S,T,none,none,none]/\Same H g/\Nm g a z.1 z.2/\Low z.1 z.2/\Bd (2000*i+1) z.1/\Bd (2000*i+1) z.2/\val z=eR (val (t,b)) (G.take i)) {O,(0,1),none,none,2,D,h0,Hf,DF _,Bd.one.mono `a,O' _} ?_ ?_ ?_}
 .rintro i A g _ ⟨_,_,_,_,_,s,_⟩;exact SqL.of (s _ _ hw)
 .rintro i x e A g hx ⟨a,z,S,T,rfl,s,I,j,c1,B,o⟩ he;let {n,hn,u,rfl,hu}:=nx.get hx;let a3:i<@G:=(A7.mp hn).1;let se:=AM he (.tup [.int (i:Int),.ref u]);let {ln,dn,tn}:=hR n (BT hn);let n3:n.2<=3:=Int.le_trans (Int.le_of_dvd M0 dn) M3;let n0:=ln.pos;refine {e,1,upd_same,2,6,3,?_};refine Eg (Av (AS rfl (Av (AS rfl (Av (AS rfl (AS rfl {q,(t,b),i,2,se _ _ (s _ _ hq),b0,bt.mono `b,bb.mono `b,`a,λN y H2 U h1 ly d1 d2 ey=>?_})))))));let X:=(s.trans se).trans U;refine {u,N,n.1,n.2,y.1,y.2,2,X _ _ hu,h1,n0,ly.pos,(D4 tn).mono `b,(D4 (n:=3) `a).mono `b,d1.mono `b,d2.mono `b,λr2 h2=>?_};let Y:=AM h2 (.tup [.int (D_ n y).1,.int (D_ n y).2]);let m:=Ky n0 ly.pos (D4 tn) (D4 (n:=3) `a) d1 d2;let lm:=F1 n0 ly.pos;refine {a,r2,z.1,z.2,(D_ n y).1,(D_ n y).2,2,Y _ _ (U _ _ (se _ _ I)),upd_same,j.pos,lm.pos,c1.mono `a,B.mono `a,m.1.mono `b,m.2.mono `b,λr3 h3=>?_};let d:=Ms j.pos lm.pos c1 B m.1 m.2;refine {r3,C' z (D_ n y),6,(X.trans Y).trans (AM h3 _),upd_same,FT j.pos lm.pos,d.1.mono `a,d.2.mono `a,?_};rw [F4 j.pos lm.pos,Hg n0 ly.pos,o,ey,Cr hn,Mt,Br,Nat.min_eq_left `a]
 .rintro A H1 ⟨a,z,S,T,rfl,s,I,j,c1,B,o⟩;let lx:=@nx;rw [lx] at c1 B o;rw [Bh] at o;show Rg K _ [↥p,↥q,↥a,S,T,none,none,none] H1;refine GI {1,5,s _ _ hp,2,v,2,{_,SqL.of (s _ _ hv)},ForL.by (xs:=vs) (λi A g=>∃ (a:Addr) (z:Nu) (o5 o6 o7:c_),A=[↥p,↥q,↥a,S,T,o5,o6,o7]/\Same H g/\Nm g a z.1 z.2/\Low z.1 z.2/\Bd (8001+2000*i) z.1/\Bd (8001+2000*i) z.2/\val z=aQ (val (t,b)) (ps.take i) (eR (val (t,b)) G)) {a,z,none,none,none,2,s,I,j,c1.mono `a,B.mono `a,o} ?_ ?_ ?_}
  .rintro i A g _ ⟨_,_,_,_,_,_,s,_⟩;exact SqL.of (s _ _ hv)
  .rintro i x A g hx ⟨a,z,o5,o6,o7,rfl,s,I,j,c1,B,o⟩;let {f,J,c,rfl,hc}:=lp.get hx;let il:i<@ps:=(A7.mp J).1;let mp:=BT J;let pz:=P.pz f mp;let n5:=pz.n5;let k3:=pz.k3;refine {c,1,s _ _ hc,2,6,6,3,?_};refine Eg (Av (AS rfl (Av (Be (AS rfl (I_ {BJ,λN h1=>?_}))))));let D:=AM h1 (.tup [.int f.1,.int 1]);let Z:upd g N (.tup [.int f.1,.int 1]) N=_:=upd_same;let L:=s.trans D;let a0:=D _ _ I;generalize upd g N (.tup [.int f.1,.int 1])=H1 at D Z L a0 ⊢;refine DS (Av (Av (AS rfl (AS rfl {q,t,b,f.2.1,2,L _ _ hq,b0,bt.mono `b,bb.mono `b,(D4 pz.a6).mono `b,λr2 H2 U h2=>?_}))));let lb:=oE C pz.a6;let e2:=To (t:=t) b0 f.2.1;let l2:Low (C' (t,b) (-f.2.1,1)).1 (C' (t,b) (-f.2.1,1)).2:=FT (q:=(t,b)) (r:=(-f.2.1,1)) b0 DC;generalize C' (t,b) (-f.2.1,1)=y at h2 lb e2 l2;refine AS rfl {r2,y,f.2.2,2,h2,l2.pos,lb.1.mono `b,lb.2.mono `b,`a,λr3 F H3 Y h3 l3 d1 d2 e3=>?_};let x0:val (t,b) - (f.2.1:Rat)≠0:=λe=>np {f,mp,()};let w0:F.1≠0:=oF (by rw [e3,e2];exact Mv x0 _);refine {r3,F.1,F.2,2,h3,w0,λr4 h4=>?_};let l4:=DO (n:=F.2) w0;let b4:=F5 w0 d2 d1
   let e4:val (Aq F.2 F.1)=((val (t,b) - (f.2.1:Rat)) ^ f.2.2)⁻¹:=by
    rw [Dp w0,<-e2,<-e3];unfold val;let z1:=Am w0;let z2:=Am (AR l3.pos);ext
   generalize Aq F.2 F.1=y4 at l4 b4 e4 h4 ⊢;let s4:=AM h4 (.tup [.int y4.1,.int y4.2]);refine ⟨N,r4,f.1,1,y4.1,y4.2,rfl,s4 _ _ (Y _ _ (U _ _ Z)),upd_same,`b,l4.pos,(D4 n5).mono `b,Bd.one.mono `b,b4.1.mono `b,b4.2.mono `b,λr5 h5=>?_⟩;let m:=Ky (y:=(f.1,1)) DC l4.pos (D4 n5) (Bd.one.mono `b) b4.1 b4.2;let l5:=F1 (q:=(f.1,1)) DC l4.pos;let e5:=Hg (q:=(f.1,1)) DC l4.pos;rw [HD,e4] at e5;generalize D_ (f.1,1) y4=y5 at m l5 e5 h5 ⊢;let s5:=AM h5 (.tup [.int y5.1,.int y5.2]);let a1:=((U.trans Y).trans s4).trans s5;refine {a,r5,z.1,z.2,y5.1,y5.2,2,a1 _ _ a0,upd_same,j.pos,l5.pos,c1.mono `a,B.mono `a,m.1.mono `b,m.2.mono `b,λr6 h6=>?_};let d:=Ms j.pos l5.pos c1 B m.1 m.2;refine {r6,C' z y5,9,1,(L.trans a1).trans (AM h6 _),upd_same,FT j.pos l5.pos,d.1.mono `a,d.2.mono `a,?_};rw [F4 j.pos l5.pos,o,e5,Cr J,Mu]
  .rintro A g ⟨a,z,o5,o6,o7,rfl,s,I,j,c1,B,o⟩;rw [@lp,Bh] at o;exact B7 (AS rfl (k a z g s I j o))
def N_ {p:Nat} (hp:Pr p) {w u:Int} (a:w≠0) (b:u≠0):Ac p (w*u)=Ac p w+Ac p u:=by
 let h:=Kw hp (w:=(w.natAbs:Int)) (u:=(u.natAbs:Int)) `a `a;rw [<-Int.natCast_mul,<-Bp] at h;exact h
def Tr {g x:Int} (h:0<x*g) (a:0<x):0<g:=by
 rcases Int.lt_trichotomy g 0 with y | y | y
 .have:=ED (show g<=-1 by omega) (Cc a);omega
 .rw [y] at h;omega
 .exact y
def GJ {z:Nu} {n d:Int} (l:Low z.1 z.2) (h:0<d) (e:val z=(n:Rat) / (d:Rat)):∃ g,0<g/\n=g*z.1/\d=g*z.2:=by
 let f:=l.pos
 let i:z.1*d=n*z.2:=by
  let j:=Am (AR f);let k:=Am (AR h)
  have:(z.1:Rat)*d=n*z.2:=by
   unfold val at e;let a:(z.1:Rat) / (z.2:Rat)*(z.2:Rat)=z.1:=Rat.div_mul_cancel j;let b:(n:Rat) / (d:Rat)*(d:Rat)=n:=Rat.div_mul_cancel k;rw [<-a,e,<-b];ext
  exact_mod_cast this
 let {g,rfl}:z.2∣d:=Mo (c:=z.1) {n,by rw [CK d,i,CK]} (by rw [Int.gcd_comm];exact l.one);refine {g,Tr h f,?_,CK _ _};refine Int.eq_of_mul_eq_mul_right (AR f) ?_;rw [<-i];ext
def Mw {p:Nat} (hp:Pr p) {z:Nu} {n d:Int} (l:Low z.1 z.2) (b:0<d) (c:n≠0) (e:val z=(n:Rat) / (d:Rat)):(Ac p (z.1.natAbs:Int):Rat) - (Ac p z.2:Rat)=(Ac p n:Rat) - (Ac p d:Rat):=by
 let {g,a,rfl,rfl}:=GJ l b e;let f:z.1≠0:=λh=>c (by rw [h,EC]);show (Ac p z.1:Rat) - _=_;rw [N_ hp (AR a) f,N_ hp (AR a) (AR l.pos)];push_cast;ext
def ID {p:Nat} {w:Int} {n:Nat} (a:w≠0) (h:w.natAbs<=n) (d:(p:Int)∣w):p<=n:=by
 have:p∣w.natAbs:=by have:=Cd.mpr d;exact this
 exact BK (C9 `a this) h
def GK {M w:Int} (O:Om M) (a:0<w) (h:w∣M):Sm M w:=
 {a,Int.lt_of_le_of_lt (Int.le_of_dvd O.1 h) (Int.lt_of_lt_of_le O.2 `b),h}
def Cq.b {t b:Int} (C:Cq t b):b=1\/b=2\/b=3:=by
 have:=C.lo.pos;have:=C.b3;omega
def Ts {t b a:Int} (C:Cq t b) (h:a.natAbs<=6):(t - a*b).natAbs<=36:=by
 have:=C.t18;rcases C.b with e | e | e <;> rw [e] <;> omega
def IE {t b m:Int} (C:Cq t b) (h:0<m/\m<=18):0<t*t+m*(b*b)/\(t*t+m*(b*b)).natAbs<=486:=by
 let a:t*t=((t.natAbs*t.natAbs:Nat):Int):=by rw [Int.natAbs_mul_self]
 let c:t.natAbs*t.natAbs<=18*18:=DB C.t18 C.t18;rw [a];rcases C.b with e | e | e <;> rw [e] <;> omega
theorem JN {t b:Int}:∀ {l:d6},(∀ a∈l,t - a*b≠0)->nA t b l≠0
 | [],_=>show (1:Int)≠0 by decide
 | a::l,h=>CA (h a (BC ..)) (JN λx c=>h x (A6 _ c))
theorem JO {t b:Int} (C:Cq t b):∀ {l:d6},(∀ m∈l,0<m/\m<=18)->0<nS t b l
 | [],_=>DC
 | m::l,h=>Bt (IE C (h m (BC ..))).1 (JO C λx a=>h x (A6 _ a))
theorem Tt {t b:Int} (C:Cq t b):∀ {l:d6},(∀ a∈l,a.natAbs<=6)->(nA t b l).natAbs<=36 ^ @l
 | [],_=>show (1:Int).natAbs<=1 by decide
 | a::l,h=>by
   show ((t - a*b)*nA t b l).natAbs<=36 ^ (@l+1);rw [Bp,CJ,C6];exact DB (Tt C λx c=>h x (A6 _ c)) (Ts C (h a (BC ..)))
theorem Tu {t b:Int} (C:Cq t b):∀ {l:d6},(∀ m∈l,0<m/\m<=18)->(nS t b l).natAbs<=486 ^ @l
 | [],_=>show (1:Int).natAbs<=1 by decide
 | m::l,h=>by
   show ((t*t+m*(b*b))*nS t b l).natAbs<=486 ^ (@l+1);rw [Bp,CJ,C6];exact DB (Tu C λx a=>h x (A6 _ a)) (IE C (h m (BC ..))).2
def oI {t b:Int} (C:Cq t b) (g:Gp) (h:Gz g):0<gQ b g/\(gQ b g).natAbs<=81:=by
 refine {Int.pow_pos C.lo.pos,?_};have:=h.l2;have:=h.l1;show (b ^ _).natAbs<=81;rw [Int.natAbs_pow];exact BK (Nat.pow_le_pow_left (show b.natAbs<=3 by have:=C.b3;have:=C.lo.pos;omega) _) (BK (EQ `b (show _<=4 by omega)) `b)
def Nh (t b:Int) (g:Gp):Prop:=∀ a∈g.2.1,t - a*b≠0
def Mx {t b:Int} (C:Cq t b) {gs:List Gp} (h:¬ ∃ g∈gs,∃ a∈g.2.1,val (t,b)=(a:Rat)):∀ g∈gs,Nh t b g:=λg c a d e=>h {g,c,a,d,by
 let f:=Am (AR C.lo.pos);let e:t=a*b:=by omega
 show (t:Rat) / (b:Rat)=a;rw [e];push_cast;exact Rat.mul_div_cancel f}
def My {t b:Int} (C:Cq t b) {g:Gp} (h:Gz g) (n:Nh t b g):gN t b g≠0:=CA (JN n) (AR (JO C h.m18))
def oJ {t b:Int} (C:Cq t b) {g:Gp} (h:Gz g):(gN t b g).natAbs<=629856:=by
 show (nA t b g.2.1*nS t b g.2.2).natAbs<=_;rw [Bp];let a:=BK (Tt C h.a6) (EQ `b h.l2);let c:=BK (Tu C h.m18) (EQ `b h.l1);exact BK (DB a c) `b
theorem Tv {t b:Int} (C:Cq t b):∀ {gs:List Gp},(∀ g∈gs,Gz g)->(∀ g∈gs,Nh t b g)->0<Mg t b gs/\Mg t b gs<=(134217728:Int) ^ @gs
 | [],_,_=>{DC,show (1:Int)<=(134217728:Int) ^ 0 by decide}
 | g::gs,h,n=>by
   let {e,f}:=Tv C (gs:=gs) (λx a=>h x (A6 _ a)) λx a=>n x (A6 _ a);let c:=h g (BC ..);let q:=oI C g c;let i:=My C c (n g (BC ..));let j:=oJ C c;let d:0<((gN t b g).natAbs:Int):=by omega
   refine {Bt (Bt d q.1) e,?_};show ((gN t b g).natAbs:Int)*gQ b g*Mg t b gs<=(134217728:Int) ^ (@gs+1);rw [DK,CK];refine Int.mul_le_mul f ?_ (Cc (Bt d q.1)) (Cc (Int.pow_pos `b));exact Int.le_trans (Int.mul_le_mul (show _<=(629856:Int) by omega) (show _<=(81:Int) by omega) (Cc q.1) `b) `b
def Tx (a:Nat) (h:0<a) {i j:Nat} (l:i<=j):(a:Int) ^ i<=(a:Int) ^ j:=by
 rw [<-Int.natCast_pow,<-Int.natCast_pow];exact Int.ofNat_le.mpr (EQ h l)
def Kz {t b:Int} (C:Cq t b) {gs:List Gp} (G:Gz6 gs) (n:∀ g∈gs,Nh t b g):Om (Mg t b gs):=by
 let {a,c}:=Tv C G.gz n;refine {a,Int.lt_of_le_of_lt c (Int.lt_of_le_of_lt (b:=(134217728:Int) ^ 6) ?_ `b)};exact Tx 134217728 `b G.g6
theorem Ty {p:Nat} (hp:Pr p) {t b:Int} (C:Cq t b):∀ {l:d6},(∀ a∈l,a.natAbs<=6)->(∀ a∈l,t - a*b≠0)->(p:Int)∣nA t b l->p<=1000
 | [],_,_,d=>ID (w:=1) `b `b d
 | a::l,h,n,d=>(HB hp d).elim (λd=>BK (ID (n a (BC ..)) (Ts C (h a (BC ..))) d) `b) (Ty hp C (λx c=>h x (A6 _ c)) λx c=>n x (A6 _ c))
theorem T3 {p:Nat} (hp:Pr p) {t b:Int} (C:Cq t b):∀ {l:d6},(∀ m∈l,0<m/\m<=18)->(p:Int)∣nS t b l->p<=1000
 | [],_,d=>ID (w:=1) `b `b d
 | m::l,h,d=>(HB hp d).elim (λd=>BK (ID (AR (IE C (h m (BC ..))).1) (IE C (h m (BC ..))).2 d) `b) (T3 hp C λx a=>h x (A6 _ a))
theorem T4 {t b:Int} (C:Cq t b):∀ {gs:List Gp},(∀ g∈gs,Gz g)->(∀ g∈gs,Nh t b g)->Ps (Mg t b gs)
 | [],_,_,p,_,d=>ID (w:=1) `b `b d
 | g::gs,h,n,p,hp,d=>by
   let c:=h g (BC ..);rcases HB hp d with d | d
   .rcases HB hp d with d | d
    .rcases HB hp (Int.dvd_natAbs.mp d) with d | d
     .exact Ty hp C c.a6 (n g (BC ..)) d
     .exact T3 hp C c.m18 d
    .have:=C.b3;have:=C.lo.pos;exact ID (w:=b) `a `a (TU hp _ d)
   .exact T4 C (λx a=>h x (A6 _ a)) (λx a=>n x (A6 _ a)) p hp d
theorem K0 {t b:Int}:∀ {gs:List Gp} {g:Gp},g∈gs->gN t b g∣Mg t b gs/\gQ b g∣Mg t b gs
 | a::gs,g,h=>by
   rcases CP.mp h with rfl | h
   .exact {BE (Int.dvd_natAbs.mpr (Int.dvd_refl _)) (BE (Fk ..) (Fk ..)),BE (Eo ..) (Fk ..)}
   .exact {BE (K0 h).1 (Eo ..),BE (K0 h).2 (Eo ..)}
theorem T9 {t b:Int} (c:0<b):∀ l:d6,vA (val (t,b)) l*((b ^ @l:Int):Rat)=(nA t b l:Rat)
 | []=>by show (1:Rat)*((b ^ 0:Int):Rat)=((1:Int):Rat);rw [Int.pow_zero,show ((1:Int):Rat)=1 from rfl];ext
 | a::l=>by
   let d:=T9 (t:=t) c l;let e:val (t,b)*(b:Rat)=t:=Rat.div_mul_cancel (Am (AR c));show (val (t,b) - (a:Rat))*vA (val (t,b)) l*((b ^ (@l+1):Int):Rat)=(((t - a*b)*nA t b l:Int):Rat);rw [DK,Ck,Ck,Rat.intCast_sub,Ck];ext
theorem UA {t b:Int} (a:0<b):∀ l:d6,vS (val (t,b)) l*((b ^ (2*@l):Int):Rat)=(nS t b l:Rat)
 | []=>by show (1:Rat)*((b ^ (2*0):Int):Rat)=((1:Int):Rat);rw [Nat.mul_zero,Int.pow_zero,show ((1:Int):Rat)=1 from rfl];ext
 | m::l=>by
   let c:=UA (t:=t) a l;let e:val (t,b)*(b:Rat)=t:=Rat.div_mul_cancel (Am (AR a));show (val (t,b)*val (t,b)+(m:Rat))*vS (val (t,b)) l*((b ^ (2*@l+1+1):Int):Rat)=(((t*t+m*(b*b))*nS t b l:Int):Rat);rw [DK,DK,Ck,Ck,Ck,Rat.intCast_add,Ck,Ck,Ck];ext
def UB (b:Int) (g:Gp):gQ b g=b ^ ↑g.2.1*b ^ (2*↑g.2.2):=Int.pow_add ..
def oK {t b:Int} (a:0<b) (g:Gp):vW g (val (t,b))=(gN t b g:Rat) / (gQ b g:Rat):=by
 let c:=T9 (t:=t) a g.2.1;let d:=UA (t:=t) a g.2.2;let q:(gQ b g:Rat)≠0:=Am (AR (Int.pow_pos a))
 let e:vW g (val (t,b))*(gQ b g:Rat)=(gN t b g:Rat):=by
  show vA _ _*vS _ _*_=((nA t b g.2.1*nS t b g.2.2:Int):Rat);rw [UB,Ck,Ck,<-c,<-d];ext
 rw [<-e];exact (Rat.mul_div_cancel q).symm
noncomputable def bO (t b:Int) (e:Nu) (a:Int):Nu×Nu:=(e,(((C' (t,b) (-a,1)).1.natAbs:Int),(C' (t,b) (-a,1)).2))
noncomputable def cf (t b:Int) (e:Nu) (m:Int):Nu×Nu:=(e,C' (D_ (t,b) (t,b)) (m,1))
noncomputable def bR (t b:Int) (g:Gp):List (Nu×Nu):=g.2.1.map (bO t b g.1)++g.2.2.map (cf t b g.1)
noncomputable def LR (t b:Int) (gs:List Gp):List (Nu×Nu):=gs.flatMap (bR t b)
theorem Mz (p:Nat) (xs ys:List (Nu×Nu)):WR p (xs++ys)=WR p xs+WR p ys:=by
 induction xs with
 | nil=>show WR p ys=0+WR p ys;ext
 | cons x xs a=>show val x.1*((Ac p x.2.1:Rat) - (Ac p x.2.2:Rat))+WR p (xs++ys)=(val x.1*((Ac p x.2.1:Rat) - (Ac p x.2.2:Rat))+WR p xs)+WR p ys;rw [a];ext
def M4 {t b:Int} (c:0<b) (a:Int):val (C' (t,b) (-a,1))=((t - a*b:Int):Rat) / (b:Rat):=by
 rw [To c];let h:=Am (AR c);show (t:Rat) / (b:Rat) - a=_;rw [Rat.intCast_sub,Ck];ext
def M5 {t b:Int} (a:0<b) (m:Int):val (C' (D_ (t,b) (t,b)) (m,1))=((t*t+m*(b*b):Int):Rat) / ((b*b:Int):Rat):=by
 let l:=F1 (q:=(t,b)) (r:=(t,b)) a a;rw [F4 l.pos DC,Hg (q:=(t,b)) (r:=(t,b)) a a,HD];let h:=Am (AR a);show (t:Rat) / (b:Rat)*((t:Rat) / (b:Rat))+m=_;rw [Rat.intCast_add,Ck,Ck,Ck];ext
theorem UC {p:Nat} (hp:Pr p) {t b:Int} (c:0<b) (e:Nu):∀ {l:d6},(∀ a∈l,t - a*b≠0)->WR p (l.map (bO t b e))=val e*((Ac p (nA t b l):Rat) - (Ac p (b ^ @l):Rat))
 | [],_=>by show (0:Rat)=val e*((Ac p 1:Rat) - (Ac p (b ^ 0):Rat));rw [Int.pow_zero];ext
 | a::l,h=>by
   let f:=UC hp c e λx d=>h x (A6 _ d);let g:Low (C' (t,b) (-a,1)).1 (C' (t,b) (-a,1)).2:=FT (q:=(t,b)) (r:=(-a,1)) c DC;let v:=Mw hp g c (h a (BC ..)) (M4 c a);show val e*((Ac p ((C' (t,b) (-a,1)).1.natAbs:Int):Rat) - (Ac p (C' (t,b) (-a,1)).2:Rat))+WR p (l.map (bO t b e))=val e*((Ac p ((t - a*b)*nA t b l):Rat) - (Ac p (b ^ (@l+1)):Rat));rw [f,v,N_ hp (h a (BC ..)) (JN λx d=>h x (A6 _ d)),DK,N_ hp (AR (Int.pow_pos c)) (AR c)];push_cast;ext
def UD {t b:Int} (C:Cq t b) {m:Int} (h:0<m/\m<=18):Low (C' (D_ (t,b) (t,b)) (m,1)).1 (C' (D_ (t,b) (t,b)) (m,1)).2/\0<(C' (D_ (t,b) (t,b)) (m,1)).1:=by
 let a:=C.lo.pos;let l:=F1 (q:=(t,b)) (r:=(t,b)) a a;let c:=FT (r:=(m,1)) l.pos DC;let {g,d,e,_}:=GJ c (Bt a a) (M5 a m);have:=(IE C h).1;rw [e] at this;exact {c,Tr this d}
theorem UE {p:Nat} (hp:Pr p) {t b:Int} (C:Cq t b) (e:Nu):∀ {l:d6},(∀ m∈l,0<m/\m<=18)->WR p (l.map (cf t b e))=val e*((Ac p (nS t b l):Rat) - (Ac p (b ^ (2*@l)):Rat))
 | [],_=>by show (0:Rat)=val e*((Ac p 1:Rat) - (Ac p (b ^ (2*0)):Rat));rw [Nat.mul_zero,Int.pow_zero];ext
 | m::l,h=>by
   let a:=C.lo.pos;let f:=UE hp C e λx c=>h x (A6 _ c);let {g,i}:=UD C (h m (BC ..));let d:=(IE C (h m (BC ..))).1;let v:=Mw hp g (Bt a a) (AR d) (M5 a m);show val e*((Ac p (C' (D_ (t,b) (t,b)) (m,1)).1:Rat) - (Ac p (C' (D_ (t,b) (t,b)) (m,1)).2:Rat))+WR p (l.map (cf t b e))=val e*((Ac p ((t*t+m*(b*b))*nS t b l):Rat) - (Ac p (b ^ (2*@l+1+1)):Rat));rw [show Ac p (C' (D_ (t,b) (t,b)) (m,1)).1=Ac p ((C' (D_ (t,b) (t,b)) (m,1)).1.natAbs:Int) from rfl,f,v,N_ hp (AR d) (AR (JO C λx c=>h x (A6 _ c))),DK,DK,Int.mul_assoc,N_ hp (AR (Int.pow_pos a)) (AR (Bt a a))];push_cast;ext
theorem UF {p:Nat} (hp:Pr p) {t b:Int} (C:Cq t b):∀ {gs:List Gp},(∀ g∈gs,Gz g)->(∀ g∈gs,Nh t b g)->WR p (LR t b gs)=WL p t b gs
 | [],_,_=>rfl
 | g::gs,h,n=>by
   let f:=UF hp C (λx a=>h x (A6 _ a)) λx a=>n x (A6 _ a);let d:=h g (BC ..);let e:=n g (BC ..);let c:=C.lo.pos;show WR p (bR t b g++LR t b gs)=val g.1*((Ac p (nA t b g.2.1*nS t b g.2.2):Rat) - (Ac p (gQ b g):Rat))+WL p t b gs;unfold bR;rw [Mz,Mz,f,UC hp c g.1 e,UE hp C g.1 d.m18,N_ hp (JN e) (AR (JO C d.m18)),UB,N_ hp (AR (Int.pow_pos c)) (AR (Int.pow_pos c))];push_cast;ext
theorem M6 {t b:Int}:∀ {l:d6} {a:Int},a∈l->t - a*b∣nA t b l
 | x::l,a,h=>by
   rcases CP.mp h with rfl | h
   .exact Fk ..
   .exact BE (M6 h) (Eo ..)
theorem UG {t b:Int}:∀ {l:d6} {m:Int},m∈l->t*t+m*(b*b)∣nS t b l
 | x::l,a,h=>by
   rcases CP.mp h with rfl | h
   .exact Fk ..
   .exact BE (UG h) (Eo ..)
def oM {t b:Int} (C:Cq t b) {gs:List Gp} (G:Gz6 gs) (n:∀ g∈gs,Nh t b g):∀ x∈LR t b gs,Rz (Mg t b gs) 10 x:=by
 intro x c;let O:=Kz C G n;let d:=C.lo.pos;let {g,p,c}:=List.mem_flatMap.mp c;let u:=G.gz g p;let {w,z}:=K0 (t:=t) (b:=b) p;rcases C5.mp c with c | c
 .let {a,i,rfl}:=Au.mp c;let e:Low (C' (t,b) (-a,1)).1 (C' (t,b) (-a,1)).2:=FT (q:=(t,b)) (r:=(-a,1)) d DC;let {k,B,j,v}:=GJ e d (M4 d a);let A:(C' (t,b) (-a,1)).1≠0:=λh=>n g p a i (by rw [j,h,EC]);refine {u.c,GK O (show (0:Int)<((C' (t,b) (-a,1)).1.natAbs:Int) by omega) (Int.natAbs_dvd.mpr (BE (BE {k,j.trans (CK _ _)} (M6 i)) (BE (Fk ..) w))),GK O e.pos (BE (BE {k,v.trans (CK _ _)} ?_) z)};cases f:g.2.1 with
  | nil=>rw [f] at i;cases i
  | cons y l=>unfold gQ;rw [f];exact {b ^ (@l+2*↑g.2.2),by rw [show (y::l).length+2*↑g.2.2=(@l+2*↑g.2.2)+1 by rw [Cj];omega,DK,CK]}
 .let {m,o,rfl}:=Au.mp c;let {e,A}:=UD C (u.m18 m o);let {k,B,j,v}:=GJ e (Bt d d) (M5 d m);refine {u.c,GK O A (BE (BE {k,j.trans (CK _ _)} (UG o)) (BE (Eo ..) w)),GK O e.pos (BE (BE {k,v.trans (CK _ _)} ?_) z)};cases f:g.2.2 with
  | nil=>rw [f] at o;cases o
  | cons y l=>unfold gQ;rw [f];exact {b ^ (↑g.2.1+2*@l),by rw [show ↑g.2.1+2*(y::l).length=(↑g.2.1+2*@l)+1+1 by rw [Cj];omega,DK,DK,Int.mul_assoc,CK]}
theorem M7 {t b:Int}:∀ {gs:List Gp},(∀ g∈gs,Gz g)->(LR t b gs).length<=3*@gs
 | [],_=>AT _
 | g::gs,h=>by
   let d:=M7 (t:=t) (b:=b) λx c=>h x (A6 _ c);let a:=h g (BC ..);have:=a.l2;have:=a.l1;show (bR t b g++LR t b gs).length<=3*(@gs+1);unfold bR;rw [Bf,Bf,AI,AI];omega
def oN {t b:Int} {gs:List Gp} {g:Gp} {i:Nat} (h:gs[i]?=some g):LR t b (gs.take (i+1))=LR t b (gs.take i)++(g.2.1.map (bO t b g.1)++g.2.2.map (cf t b g.1)):=by
 unfold LR;rw [Cr h,List.flatMap_append];show _++(bR t b g++[])=_;rw [List.append_nil];rfl
def Kp.over {a H c:Hp} {p:Addr} (s:Same a H) (k:Kp p H c) (n:a p=none):Same a c:=λb o h=>k b o (A3 h n) (s b o h)
def JP {c:TT} {t u:TS} {D:Ends} {a:L2.St} {H:Hp} (h:c a H λb d=>if b=true then t D a d else u D a d):BU c t u D a H:=h
def HE {t:TE} {a:L2.St} {H:Hp} {Q:Bool->Hp->Prop} (h:t a H λx b=>∃ k,x=.bl k/\Q k b):Ap t a H Q:=h
def oO {H:Hp} {u v:V} {q r:Nu} {Q:VK} (a:isN H u q) (b:isN H v r) (n:q≠r) (k:Q (.bl true) H):b7 u v H Q:={9,false,DR a,DR b,az _ 7,az _ 7,{λh=>(nomatch h),λh=>absurd (datN_eq.mp h) n},k}
def oP {K:W.Frag} {vs:cZ} {H:Hp} {Q:VK} {E:XK} (h:MD K vs H Q E):vI K (eC Q) (L2.start ["_law_groups_here","_law_c","_law_rows","_law_e","_law_places","_law_squares","_law_a","_law_m"] vs) H:=by
 let {ga,q,Z,t,b,rfl,{us,hg,lg},G,hq,C,no,k}:=h;let {bt,bb}:=C.bd;let L:=C.lo.pos;let nh:=Mx C no;let g6:=G.g6;unfold Nm at hq;refine A8 {GH,λr hr=>?_};let s1:=AM hr (.lst []);let h0:upd H r (.lst []) r=_:=upd_same;show Ri K _ [↥ga,↥q,↥r,none,none,none,none,none] _;generalize upd H r (.lst [])=H1 at s1 h0 ⊢;refine GI {1,ga,2,{_,SqL.of (s1 _ _ hg)},ForL.by (xs:=us) (λi B f=>∃ (o3 o4 o5 D F:c_) (o:cZ),B=[↥ga,↥q,↥r,o3,o4,o5,D,F]/\Same H f/\f r^^^o/\Lal (Rw f) o (LR t b (Z.take i))) {none,none,none,none,none,[],2,s1,h0,trivial} ?_ ?_ ?_}
 .rintro i B f _ ⟨_,_,_,_,_,_,_,s,_⟩;exact SqL.of (s _ _ hg)
 .rintro i x B f O ⟨o3,o4,o5,D,F,o,rfl,s,I,v⟩;let {g,T,a,e,c,d,rfl,ha,he,hc,hd}:=lg.get O;let mg:=BT T;let gz:=G.gz g mg;let l2:=gz.l2;let l1:=gz.l1;let il:i<@Z:=(A7.mp T).1;let ll:=M7 (t:=t) (b:=b) (gs:=Z.take i) λx O=>G.gz x (Fj O);rw [Br] at ll;unfold Nm at he;refine {a,1,s _ _ ha,2,6,6,3,?_};refine GI {1,c,2,{_,SqL.of (s _ _ hc)},ForL.by (xs:=g.2.1.map V.int) (λj B f=>∃ (D F:c_) (o:cZ),B=[↥ga,↥q,↥r,↥e,↥c,↥d,D,F]/\Same H f/\f r^^^o/\Lal (Rw f) o (LR t b (Z.take i)++(g.2.1.take j).map (bO t b g.1))) {D,F,o,2,s,I,by rw [EV,List.map_nil,List.append_nil];exact v} ?_ ?_ ?_}
  .rintro j B f _ ⟨_,_,_,_,s,_⟩;exact SqL.of (s _ _ hc)
  .rintro j x B f O ⟨D,F,o,rfl,s,I,v⟩;rw [Ae] at O;let {u,U,rfl}:=EO.mp O;let mp:=BT U;let jl:j<↑g.2.1:=(A7.mp U).1;let a6:=gz.a6 u mp;let wl:=@v;rw [Bf,AI,Br] at wl;let hl:Low (C' (t,b) (-u,1)).1 (C' (t,b) (-u,1)).2:=FT (q:=(t,b)) (r:=(-u,1)) L DC;let {g0,_,e1,_}:=GJ hl L (M4 L u);let z0:C' (t,b) (-u,1)≠(0,1):=λh=>nh g mg u mp (by rw [e1,h];exact EC _);refine JP (HE (Ax (Av (AS rfl (AS rfl {q,t,b,u,2,s _ _ hq,L,bt.mono `b,bb.mono `b,(D4 a6).mono `b,λr1 H2 s2 h2=>Be (I_ (I_ {BJ,λw a0=>?_}))})))));let sw:=AM a0 (.tup [.int 0,.int 1]);refine oO (q:=C' (t,b) (-u,1)) (r:=(0,1)) {r1,2,sw _ _ h2} ⟨w,rfl,upd_same⟩ z0 {1,Aa (λ_=>?_) (λc=>absurd rfl c)};let P:=s2.trans sw;generalize upd H2 w (.tup [.int 0,.int 1])=H3 at P ⊢;refine JM rfl (Eb (P _ _ I)) (Be (AS rfl (DS (Av (AS rfl (AS rfl {q,t,b,u,2,P _ _ (s _ _ hq),L,bt.mono `b,bb.mono `b,(D4 a6).mono `b,λR H4 s4 h3=>{R,6,h3,λX h4=>{BJ,λJ h5=>?_}}}))))));let sA:=AM h4 (.tup [.int ((C' (t,b) (-u,1)).1.natAbs:Int),.int (C' (t,b) (-u,1)).2]);let hA:upd H4 X (.tup [.int ((C' (t,b) (-u,1)).1.natAbs:Int),.int (C' (t,b) (-u,1)).2]) X=_:=upd_same;generalize upd H4 X (.tup [.int ((C' (t,b) (-u,1)).1.natAbs:Int),.int (C' (t,b) (-u,1)).2])=H5 at sA hA h5 ⊢;let Y:=AM h5 (.tup [.ref e,.ref X]);let hB:upd H5 J (.tup [.ref e,.ref X]) J=_:=upd_same;generalize upd H5 J (.tup [.ref e,.ref X])=H6 at Y hB ⊢;let A:=P.trans (s4.trans (sA.trans Y));let M:=s.trans A;let N:=A _ _ I;let S:=Tp.updL (ys:=o++[V.ref J]) N;refine {r,o,1,2,N,sz `a,some (.int u),F,o++[.ref J],2,Kp.over M Kp.upd hr,upd_same,?_};rw [Cr U,B9,<-List.append_assoc];exact (v.mono λ_ _ h=>(h.tp (F_ A)).tp S).snoc {J,e,X,2,S _ _ hB,S _ _ (M _ _ he),S _ _ (Y _ _ hA)}
  rintro B f ⟨D,F,o,rfl,s,I,v⟩;rw [AI,Bh] at v;refine Tn {1,d,2,{_,SqL.of (s _ _ hd)},ForL.by (xs:=g.2.2.map V.int) (λj B f=>∃ (D F:c_) (o:cZ),B=[↥ga,↥q,↥r,↥e,↥c,↥d,D,F]/\Same H f/\f r^^^o/\Lal (Rw f) o (LR t b (Z.take i)++g.2.1.map (bO t b g.1)++(g.2.2.take j).map (cf t b g.1))) {D,F,o,2,s,I,by rw [EV,List.map_nil,List.append_nil];exact v} ?_ ?_ ?_}
  .rintro j B f _ ⟨_,_,_,_,s,_⟩;exact SqL.of (s _ _ hd)
  .rintro j x B f O ⟨D,F,o,rfl,s,I,v⟩;rw [Ae] at O;let {m,hm,rfl}:=EO.mp O;let jl:j<↑g.2.2:=(A7.mp hm).1;let a1:=gz.m18 m (BT hm);let wl:=@v;rw [Bf,Bf,AI,AI,Br] at wl;let mb:=Ky (y:=(t,b)) (z:=(t,b)) L L bt (bb.mono (show 2<=5 by decide)) bt (bb.mono (show 2<=5 by decide));let lm:=F1 (q:=(t,b)) (r:=(t,b)) L L;refine JM rfl (Eb I) (Be (AS rfl (Av (Av (AS rfl (AS rfl {q,q,t,b,t,b,2,s _ _ hq,s _ _ hq,L,L,bt.mono `b,bb.mono `b,bt.mono `b,bb.mono `b,λr1 h1=>?_}))))));let sA:=AM h1 (.tup [.int (D_ (t,b) (t,b)).1,.int (D_ (t,b) (t,b)).2]);let hA:upd f r1 (.tup [.int (D_ (t,b) (t,b)).1,.int (D_ (t,b) (t,b)).2]) r1=_:=upd_same;generalize upd f r1 (.tup [.int (D_ (t,b) (t,b)).1,.int (D_ (t,b) (t,b)).2])=H2 at sA hA ⊢;refine Be (AS rfl (I_ {BJ,λr2 h2=>?_}));let Y:=AM h2 (.tup [.int m,.int 1]);let hB:upd H2 r2 (.tup [.int m,.int 1]) r2=_:=upd_same;generalize upd H2 r2 (.tup [.int m,.int 1])=H3 at Y hB ⊢;refine ⟨r1,r2,(D_ (t,b) (t,b)).1,(D_ (t,b) (t,b)).2,m,1,rfl,Y _ _ hA,hB,lm.pos,DC,mb.1.mono `b,mb.2.mono `b,(D4 (n:=18) `a).mono `b,Bd.one.mono `b,λR h3=>?_⟩;let sC:=AM h3 (.tup [.int (C' (D_ (t,b) (t,b)) (m,1)).1,.int (C' (D_ (t,b) (t,b)) (m,1)).2]);let hC:upd H3 R (.tup [.int (C' (D_ (t,b) (t,b)) (m,1)).1,.int (C' (D_ (t,b) (t,b)) (m,1)).2]) R=_:=upd_same;refine {BJ,λJ h5=>?_};generalize upd H3 R (.tup [.int (C' (D_ (t,b) (t,b)) (m,1)).1,.int (C' (D_ (t,b) (t,b)) (m,1)).2])=H5 at sC hC h5 ⊢;let sD:=AM h5 (.tup [.ref e,.ref R]);let hD:upd H5 J (.tup [.ref e,.ref R]) J=_:=upd_same;generalize upd H5 J (.tup [.ref e,.ref R])=H6 at sD hD ⊢;let A:=sA.trans (Y.trans (sC.trans sD));let M:=s.trans A;let N:=A _ _ I;let S:=Tp.updL (ys:=o++[V.ref J]) N;refine {r,o,1,2,N,sz `a,D,some (.int m),o++[.ref J],2,Kp.over M Kp.upd hr,upd_same,?_};rw [Cr hm,B9,<-List.append_assoc];exact (v.mono λ_ _ h=>(h.tp (F_ A)).tp S).snoc {J,e,R,2,S _ _ hD,S _ _ (M _ _ he),S _ _ (sD _ _ hC)}
  rintro B f ⟨D,F,o,rfl,s,I,v⟩;rw [AI,Bh,List.append_assoc,<-oN T] at v;exact {9,9,_,o,2,s,I,v}
 .rintro B f ⟨o3,o4,o5,D,F,o,rfl,s,I,v⟩;rw [@lg,Bh] at v;have:=M7 (t:=t) (b:=b) G.gz;exact B7 (AS rfl (k r o _ f s I v `a (oM C G nh) λp hp=>UF hp C G.gz nh))
noncomputable def ae (t b:Int) (g:Gp):Nu:=Aq (gN t b g) (gQ b g)
noncomputable def cg (t b:Int) (g:Gp):Nu×Nu:=(g.1,(((ae t b g).1.natAbs:Int),(ae t b g).2))
def JQ {t b:Int} (C:Cq t b) (g:Gp):0<gQ b g:=Int.pow_pos C.lo.pos
def JR {t b:Int} (C:Cq t b) (g:Gp):Low (ae t b g).1 (ae t b g).2:=DO (AR (JQ C g))
def K1 {t b:Int} (C:Cq t b) (g:Gp):val (ae t b g)=(gN t b g:Rat) / (gQ b g:Rat):=Dp (AR (JQ C g))
def UH {t b:Int} (C:Cq t b) (g:Gp):(ae t b g).1=0↔gN t b g=0:=by
 let {k,c,a,d}:=GJ (JR C g) (JQ C g) (K1 C g);constructor
 .intro h;rw [a,h,EC]
 .intro h;rw [a] at h;exact (En.mp h).resolve_left (AR c)
def UI {t b:Int} (C:Cq t b) {a:Int}:val (t,b)=(a:Rat)↔t - a*b=0:=by
 let c:=Am (AR C.lo.pos);constructor
 .intro e;let e:(t:Rat) / (b:Rat)=a:=e;have:(t:Rat)=a*b:=by rw [<-e];exact (Rat.div_mul_cancel c).symm
  have:t=a*b:=by exact_mod_cast this
  omega
 .intro e;let e:t=a*b:=by omega
  show (t:Rat) / (b:Rat)=a;rw [e,Ck];exact Rat.mul_div_cancel c
def oS {t b:Int} (C:Cq t b) {g:Gp} (h:Gz g):gN t b g=0↔∃ a∈g.2.1,val (t,b)=(a:Rat):=by
 constructor
 .intro e;let e:=(En.mp e).resolve_right (AR (JO C h.m18));have:¬ ∀ a∈g.2.1,t - a*b≠0:=λz=>JN z e;by_cases z:∃ a∈g.2.1,val (t,b)=(a:Rat)
  .exact z
  .exact absurd (λa c e=>z {a,c,(UI C).mpr e}) this
 .rintro ⟨a,c,e⟩;let d:=M6 (t:=t) (b:=b) c;rw [(UI C).mp e] at d;show nA t b g.2.1*_=0;rw [Int.zero_dvd.mp d,Int.zero_mul]
theorem UJ {p:Nat} (hp:Pr p) {t b:Int} (C:Cq t b):∀ {gs:List Gp},(∀ g∈gs,Gz g)->(∀ g∈gs,Nh t b g)->WR p (gs.map (cg t b))=WL p t b gs
 | [],_,_=>rfl
 | g::gs,h,n=>by
   let c:=UJ hp C (λx a=>h x (A6 _ a)) λx a=>n x (A6 _ a);let v:=Mw hp (JR C g) (JQ C g) (My C (h g (BC ..)) (n g (BC ..))) (K1 C g);show val g.1*((Ac p ((ae t b g).1.natAbs:Int):Rat) - (Ac p (ae t b g).2:Rat))+WR p (gs.map (cg t b))=val g.1*((Ac p (gN t b g):Rat) - (Ac p (gQ b g):Rat))+WL p t b gs;rw [c,v]
def oT {t b:Int} (C:Cq t b) {gs:List Gp} (G:Gz6 gs) (n:∀ g∈gs,Nh t b g) {g:Gp} (a:g∈gs):Rz (Mg t b gs) 10 (cg t b g):=by
 let O:=Kz C G n;let c:=G.gz g a;let {d,e}:=K0 (t:=t) (b:=b) a;let {k,j,f,i}:=GJ (JR C g) (JQ C g) (K1 C g);let m:(ae t b g).1≠0:=λh=>My C c (n g a) ((UH C g).mp h);exact {c.c,GK O (show (0:Int)<((ae t b g).1.natAbs:Int) by omega) (Int.natAbs_dvd.mpr (BE {k,f.trans (CK _ _)} d)),GK O (JR C g).pos (BE {k,i.trans (CK _ _)} e)}
noncomputable def bS (t b:Int) (g:Gp):Bool:=decide (V.int ((ae t b g).1.natAbs:Int)=V.int 0)
def UK {t b:Int} (C:Cq t b) {gs:List Gp} (G:Gz6 gs):(gs.map (bS t b)).any id=true↔∃ g∈gs,∃ a∈g.2.1,val (t,b)=(a:Rat):=by
 rw [List.any_map,List.any_eq_true]
 let d:∀ g∈gs,bS t b g=true↔∃ a∈g.2.1,val (t,b)=(a:Rat):=λg c=>by
  rw [<-oS C (G.gz g c),<-UH C g];constructor
  .intro h;have:V.int ((ae t b g).1.natAbs:Int)=V.int 0:=jG h;injection this with this;omega
  .intro h;refine jF ?_;rw [h];rfl
 exact {λ⟨g,c,h⟩=>{g,c,(d g c).mp h},λ⟨g,c,h⟩=>{g,c,(d g c).mpr h}}
def UL {a b c:Rat} (n:c≠0) (h:a*c=b*c):a=b:=by
 rw [<-Rat.mul_div_cancel (a:=a) n,h,Rat.mul_div_cancel n]
def oU {K:W.Frag} {vs:cZ} {H:Hp} {Q:VK} {E:XK} (h:ME K vs H Q E):wL K (eC Q) (L2.start ["form","c","q","rows"] vs) H:=by
 let {f,q,T,B,n,a6,ps,t,b,rfl,{a,s,us,hf,ff,hs,lf},R,G,hq,C,hT,kN,kY}:=h;let {bt,bb}:=C.bd;let b0:=C.lo.pos;let g6:=G.g6;let lu:=@lf;unfold Nm at hq;refine A8 (Av (Bc rfl hf rfl (AS rfl {a,q,T,B,t,b,4000,2,ff,hq,R.gT,R.gB,`b,R.lT,R.lB,C.lo,bt.mono `b,bb.mono `b,λv H1 O I=>?_})));show Q2 K _ [↥f,↥q,some v,none] _;refine A8 (zU {1,5,O _ _ hf,2,s,2,{_,SqT.of (O _ _ hs)},CompJ.tup (xs:=us) (λi d m=>i<=@us/\Same H1 m/\@d=i/\Lal (Rw m) d ((n.take i).map (cg t b))) {Ah _,Same.refl _,2,by rw [EV];trivial} ?_ ?_ ?_})
 .rintro i d m ⟨P,N,yl,_⟩;exact {P,sz `a,N _ _ (O _ _ hs)}
 .rintro i u d m S ⟨P,N,yl,A⟩;let {g,J,c,e,w,l,rfl,hc,he,{zs,hw,Z},gl,a7,ev}:=lf.get S;let il:=(A7.mp S).1;let j:=O.trans N;unfold Nm at he;refine {c,1,j _ _ hc,2,6,3,?_};show Ai _ [↥e,↥w,↥q] _ _;refine Be (AS rfl (DS (Av (AS rfl (AS rfl {w,q,zs,l,t,b,500,2,j _ _ hw,j _ _ hq,Z.tp (F_ j),gl,`b,C.lo,bt.mono `b,bb.mono `b,`a,λr1 H3 z s3 hz lz _ _ ez=>?_})))));let {_,e1,hz}:=hz;injection e1 with e1;subst e1;let a0:z=ae t b g:=Do lz (JR C g) (by rw [K1 C g,<-oK b0,ez,ev]);subst a0;refine {r1,6,hz,λU h2=>{BJ,λr3 h3=>?_}};let sA:=AM h2 (.tup [.int ((ae t b g).1.natAbs:Int),.int (ae t b g).2]);let hA:upd H3 U (.tup [.int ((ae t b g).1.natAbs:Int),.int (ae t b g).2]) U=_:=upd_same;generalize upd H3 U (.tup [.int ((ae t b g).1.natAbs:Int),.int (ae t b g).2])=H4 at sA hA h3 ⊢;let sB:=AM h3 (.tup [.ref e,.ref U]);let sX:=s3.trans (sA.trans sB);refine {il,N.trans sX,by rw [Bf,yl];rfl,?_};rw [Cr J,B9];exact (A.mono λ_ _ h=>h.tp (F_ sX)).snoc {r3,e,U,2,upd_same,(j.trans sX) _ _ he,sB _ _ hA}
 rintro d H2 ⟨_,N,yl,A⟩ r hr;rw [lu,Bh] at A;let sr:=AM hr (.lst d);let D:upd H2 r (.lst d) r^^^d:=upd_same;let L:=N.trans sr;let A:=A.mono λ_ _ h=>h.tp (F_ sr);show Q1 K _ [↥f,↥q,some v,↥r] _;generalize upd H2 r (.lst d)=H3 at sr D L A ⊢;let ly:=@A;rw [AI] at ly;let X:=O.trans L;refine Lm {v,7,1,Aa (λc=>?_) (λc=>?_)}
 .let c:v=.non:=jG c;rw [c] at I;rcases I with ⟨z,_⟩ | ⟨_,z,⟨_,e,_⟩,_⟩
  .refine Aa (λ_=>kN ?_ _ X) (λc=>absurd rfl c);by_cases y:∃ p∈ps,val (t,b)=(p.2.1:Rat)
   .exact .inr y
   .exact absurd z (R.at' _ y).1
  .cases e
 let c:v≠.non:=λe=>c (jF e);let {Z,z,{qa,rfl,a1},lz,_,_,ez}:=I.resolve_left λh=>c h.2;let np:¬ ∃ p∈ps,val (t,b)=(p.2.1:Rat):=λh=>Z (R.no _ h);refine EK (FW {1,r,2,{_,SqL.of D},CompJ.lst (xs:=d) (λi bs m=>i<=@d/\Same H3 m/\bs=((n.take i).map (bS t b)).map V.bl) {Ah _,Same.refl _,by rw [EV];rfl} ?_ ?_ ?_})
 .rintro i bs m ⟨P,M,e⟩;refine {P,sz ?_,SqL.of (M _ _ D)};rw [e,AI,AI,Br];omega
 .rintro i u bs m S ⟨P,M,e⟩;let {x,hx,c1,e1,d1,rfl,h1,h2,h3}:=A.get S;let il:=(A7.mp S).1;rw [Ae] at hx;let {g,J,rfl}:=EO.mp hx;refine {c1,1,M _ _ h1,2,6,3,?_};refine Ax (Bc rfl (M _ _ h3) rfl {2,il,M,?_});rw [Cr J,B9,B9,e];rfl
 rintro bs H4 ⟨_,M,e⟩ r4 a2;rw [ly,Bh] at e;subst e;let s5:=AM a2 (.lst ((n.map (bS t b)).map V.bl));let Y:upd H4 r4 (.lst ((n.map (bS t b)).map V.bl)) r4=_:=upd_same;let k:=M.trans s5;generalize upd H4 r4 (.lst ((n.map (bS t b)).map V.bl))=H5 at k Y ⊢;let F:=X.trans k;refine {r4,1,Y,1,Aa (λc=>?_) (λc=>?_)}
 .exact kN (.inl ((UK C G).mp c)) _ F
 let ng:¬ ∃ g∈n,∃ a∈g.2.1,val (t,b)=(a:Rat):=λh=>c ((UK C G).mpr h);let nh:=Mx C ng;let nH:¬ bh n ps (val (t,b)):=λh=>h.elim ng np;refine B7 (Av (AS rfl (AS rfl {_,r,d,n.map (cg t b),Mg t b n,2,k _ _ D,A.mono λ_ _ h=>h.tp (F_ k),Kz C G nh,λx hx=>?_,by rw [AI];omega,TabOk.same hT F,λr6 b6 ws zs H6 k6 t6 h6 a3 aw pz a4 so a5 wt=>?_})))
 .let {g,hg,rfl}:=Au.mp hx;let {z1,z2,z3}:=oT C G nh hg;exact {z1.mono `b,z2,z3}
 let tq:=Tq.tab (TabOk.same hT F) k6;refine kY nH r6 qa b6 ws zs z H6 (λc o hc e=>k6 _ _ hc (F _ _ e)) t6 h6 (tq.1 _ _ (k _ _ (L _ _ a1))) lz ?_ a3 aw ⟨pz,a4,so,a5⟩ λp hp=>?_
 .have:=(R.at' _ np).2;rw [this] at ez;exact UL Z ez
 .rw [wt p hp,UJ hp C G.gz nh]
theorem UM (k:Int):∀ a:List (Int×V),(Fz (a.map λq=>(.inl q.1,q.2)) (.inl k)=none/\∀ b∈a,b.1≠k)\/∃ v,Fz (a.map λq=>(.inl q.1,q.2)) (.inl k)=some v/\(k,v)∈a
 | []=>.inl {2,λ_ h=>by cases h}
 | b::a=>by
   unfold Fz;rw [CZ];by_cases e:b.1=k
   .rw [List.find?_cons_of_pos (by simp [e])];exact .inr {b.2,2,by rw [<-e];exact BC ..}
   .rw [List.find?_cons_of_neg (by simp [e])];rcases UM k a with ⟨c,d⟩ | ⟨v,c,d⟩
    .exact .inl {c,λx f=>(CP.mp f).elim (λz=>z ▸ e) (d x)}
    .exact .inr {v,c,A6 _ d}
noncomputable def FB (nvs:List (Int×V)) (k:Int) (v:V):List (Int×V):=if nvs.any (λa=>a.1=k) then nvs.map (λa=>if a.1=k then (a.1,v) else a) else nvs++[(k,v)]
def oV (nvs:List (Int×V)) (k:Int) (v:V):F0 (nvs.map λq=>(.inl q.1,q.2)) (.inl k) v=(FB nvs k v).map λq=>(.inl q.1,q.2):=by
 unfold F0 FB
 let e:(nvs.map λq:Int×V=>((.inl q.1,q.2):P'×V)).any (λa=>a.1=.inl k)=nvs.any λa=>a.1=k:=by
  rw [List.any_map];congr 1;funext q;simp
 rw [e];by_cases c:(nvs.any λa=>a.1=k)=true
 .rw [jE c,jE c,DW,DW];congr 1;funext q;by_cases z:q.1=k <;> simp [z]
 .rw [jD c,jD c,B9];rfl
def oW {nvs:List (Int×V)} {k:Int} {v:V}:(∀ d∈FB nvs k v,d=(k,v)\/(d∈nvs/\d.1≠k))/\(∀ d∈nvs,∃ x∈FB nvs k v,x.1=d.1)/\(k,v)∈FB nvs k v/\((nvs.map (·.1)).Nodup->((FB nvs k v).map (·.1)).Nodup):=by
 unfold FB;by_cases c:(nvs.any λd=>d.1=k)=true
 .rw [jE c];refine {λd h=>?_,λd h=>{_,Au.mpr ⟨d,h,rfl⟩,?_},?_,λg=>?_}
  .let {x,f,e}:=Au.mp h;by_cases z:x.1=k
   .rw [jE z,z] at e;exact .inl e.symm
   .rw [jD z] at e;exact .inr {e ▸ f,e ▸ z}
  .by_cases z:d.1=k
   .rw [jE z]
   .rw [jD z]
  .let {x,f,e}:=List.any_eq_true.mp c;let e:x.1=k:=jG e;exact Au.mpr {x,f,by rw [jE e,e]}
  .rw [DW]
   have:(nvs.map ((λx:Int×V=>x.1) ∘ λd=>if d.1=k then (d.1,v) else d))=nvs.map (·.1):=by
    congr 1;funext q;show (if q.1=k then (q.1,v) else q).1=q.1;by_cases z:q.1=k
    .rw [jE z]
    .rw [jD z]
   rw [this];exact g
 .rw [jD c];let i:∀ d∈nvs,d.1≠k:=λd h e=>c (List.any_eq_true.mpr {d,h,jF e});refine {λd h=>?_,λd h=>{d,Ei _ h,2},Ch _ (BM.mpr rfl),λg=>?_}
  .rcases C5.mp h with h | h
   .exact .inr {h,i d h}
   .exact .inl (BM.mp h)
  .rw [B9];refine List.nodup_append.mpr {g,List.pairwise_singleton ..,λa j b m e=>?_};let {x,f,rfl}:=Au.mp j;exact i x f (e.trans (BM.mp m))
def Wd.tp {M:Int} {t:Nat} {H b:Hp} {nvs:List (Int×V)} {f:dt} (w:Wd M t H nvs f) (c:Tp H b):Wd M t b nvs f:=
 {w.nd,λd h=>by
  let {p,a,q,e,g,i,j,k,m}:=w.ok d h;exact {p,a,q,e,g,i,j,c _ _ k,m},w.no}
def Wd.congr {M:Int} {t:Nat} {H:Hp} {nvs:List (Int×V)} {f g:dt} (w:Wd M t H nvs f) (e:∀ p,Pr p->f p=g p):Wd M t H nvs g:=
 {w.nd,λc h=>by
  let {p,a,q,d,b,i,j,k,m,n}:=w.ok c h;exact {p,a,q,d,b,i,j,k,m,n.trans (e p b)},λp hp h=>(e p hp).symm.trans (w.no p hp h)}
def Wd.mono {M:Int} {t s:Nat} {H:Hp} {nvs:List (Int×V)} {f:dt} (w:Wd M t H nvs f) (l:t<=s):Wd M s H nvs f:=
 {w.nd,λb h=>by
  let {p,a,q,c,d,e,g,i,j,k}:=w.ok b h;exact {p,a,q,c,d,e,g,i,j.mono l,k},w.no}
def oZ {p q:Nat} (hp:Pr p) (a:Pr q) (n:p≠q):Int.gcd (p:Int) (q:Int)=1:=TR hp λd=>by
 rcases a.div p (EA.mp d) with e | e
 .have:=hp.two;omega
 .exact n e
def Wd.len {M:Int} {t:Nat} {H:Hp} {nvs:List (Int×V)} {f:dt} (w:Wd M t H nvs f) (O:Om M):↑nvs<=60:=by
 let h:=Td O (ys:=nvs.map λb=>((1,1),b.1)) (λy d=>?_) ?_
 .rwa [AI] at h
 .let {b,hk,rfl}:=Au.mp d;let {p,a,q,g,i,c,_}:=w.ok b hk;have:=i.two;rw [<-g] at c;exact {by show (1:Int)<b.1;omega,GK O (by show (0:Int)<b.1;omega) c}
 .rw [D8];refine (D8.mp w.nd).imp_of_mem λ{x y} j d n=>?_;let {p,_,_,g,i,_}:=w.ok x j;let {q,_,_,c,k,_}:=w.ok y d;show Int.gcd x.1 y.1=1;rw [g,c] at n ⊢;exact oZ i k λe=>n (by rw [e])
def Wd.get {M:Int} {t:Nat} {H:Hp} {nvs:List (Int×V)} {f:dt} (w:Wd M t H nvs f) {p:Nat} (hp:Pr p) {z:Addr} (hz:Nm H z 0 1):∃ (a:Addr) (y:Nu),(Fz (nvs.map λq=>(.inl q.1,q.2)) (.inl (p:Int))).getD (.ref z)=.ref a/\Nm H a y.1 y.2/\Cz t y/\val y=f p:=by
 rcases UM (p:Int) nvs with ⟨b,c⟩ | ⟨v,b,c⟩
 .exact {z,(0,1),by rw [b];rfl,hz,⟨Hf,0,by show val (0,1)=_;rw [show val (0,1)=0 from O' _,show ((0:Int):Rat)=0 from rfl];ext,DF _⟩,by rw [w.no p hp c];exact O' _}
 .let {q,a,y,g,k,m,d,h,i,j}:=w.ok _ c;let g:(p:Int)=q:=g;let e:p=q:=by omega
  subst e;let d:v=.ref a:=d;exact {a,y,by rw [b,d];rfl,h,i,j}
def M8 {p q:Nat} (hp:Pr p) (a:Pr q):Ac p (q:Int)=if p=q then 1 else 0:=by
 let {u,e,b}:=Ku hp q q (AT _) (by have:=a.two;omega);refine TW hp _ _ u (if p=q then 1 else q) ?_ b ?_
 .show p ^ vp p q q*u=_;rw [<-e];by_cases c:p=q
  .rw [jE c,jE c,c,Nat.pow_one,Nat.mul_one]
  .rw [jD c,jD c,Nat.pow_zero,Nat.one_mul]
 .by_cases c:p=q
  .rw [jE c];intro d;have:=C9 `b d;have:=hp.two;omega
  .rw [jD c];intro d;have:=hp.two;exact (a.div p d).elim (λz=>by omega) c
def Wd.put {M:Int} {t:Nat} {H:Hp} {nvs:List (Int×V)} {f:dt} (w:Wd M t H nvs f) {p:Nat} (hp:Pr p) (d:(p:Int)∣M) {a:Addr} {y:Nu} (o:Nm H a y.1 y.2) {c:Rat} (r:Cz (t+1) y) (e:val y=f p+c):Wd M (t+1) H (FB nvs (p:Int) (.ref a)) λq=>f q+c*(Ac q (p:Int):Rat):=by
 let {u,A,B,C}:=oW (nvs:=nvs) (k:=(p:Int)) (v:=V.ref a);refine {C w.nd,λg h=>?_,λq i h=>?_}
 .rcases u g h with rfl | ⟨D,E⟩
  .refine {p,a,y,2,hp,d,2,o,r,?_};rw [M8 hp hp,jE rfl,e];show _=f p+c*((1:Nat):Rat);rw [show ((1:Nat):Rat)=1 from rfl];ext
  .let {q,b,z,j,m,F,G,I,J,K}:=w.ok g D;refine {q,b,z,j,m,F,G,I,J.mono `a,?_};rw [M8 m hp,jD (λe=>E (by rw [j,e])),K];show _=f q+c*((0:Nat):Rat);rw [show ((0:Nat):Rat)=0 from rfl];ext
 .let n:q≠p:=λz=>h _ B (by rw [z]);rw [M8 i hp,jD n,w.no q i λg hk=>?_]
  .rw [show (((0:Nat)):Rat)=0 from rfl];ext
  .let {x,L,e}:=A g hk;rw [<-e];exact h x L
structure Aw (M:Int) (d:Addr) (w:Int) (c:Nu) (t:Nat) (f:dt) (H0:Hp) (e:Nat) (H:Hp):Prop where
 e0:0<e
 dv:(e:Int)∣w
 kp:Kp d H0 H
 ex:∃ (k:Nat) (nvs:List (Int×V)),H d=some (aW nvs)/\Wd M (t+k) H nvs (λp=>f p+val c*((Ac p w:Rat) - (Ac p (e:Int):Rat)))/\(2:Int) ^ k*e<=w
def UN {k:Nat} {e w:Int} (h:(2:Int) ^ k*e<=w) (d:0<e) (f:w<(2:Int) ^ 262):k<=262:=by
 by_cases c:k<=262
 .exact c
 .let a:=Tx 2 `b (show 262<=k by omega);let b:(2:Int) ^ k*1<=(2:Int) ^ k*e:=ED `a (Cc (Int.pow_pos `b));let a:(2:Int) ^ 262<=(2:Int) ^ k:=a;rw [Int.mul_one] at b;generalize (2:Int) ^ 262=X at *;omega
def nE {K:W.Frag} {vs:cZ} {H:Hp} {Q:VK} {E:XK} (h:Iz K vs H Q E):vM K (eC Q) (L2.start ["_law_weights","_law_entire","_law_c","_law_prime"] vs) H:=by
 let {d,q,w,c,M,t,T,f,rfl,hd,wd,hq,cc,t2,t9,O,P,sw,k}:=h;let {w0,L,wM}:=sw;unfold Nm at hq;let qd:q≠d:=λz=>by rw [z,hd] at hq;cases hq
 let {a7,a8}:=cc.bd;refine A8 (I_ ?_);show Rm K _ [↥d,some (.int w),↥q,some (.int 2)] H;let {W,rfl}:∃ W:Nat,w=(W:Int):={w.toNat,`a};refine Dh (λm U N=>∃ e n:Nat,U=[↥d,some (.int (e:Int)),↥q,some (.int (n:Int))]/\Aw M d W c t f H e N/\2<=n/\(∀ p,Pr p->p<n->¬ p∣e)/\m=if e<=1 then 0 else 1002 - n) (if W<=1 then 0 else 1002 - 2) ⟨W,2,rfl,{`a,Int.dvd_refl _,λ_ _ _ h=>h,0,T,hd,wd.congr λp _=>by ext,by rw [Int.pow_zero];omega},AT _,λp hp l=>absurd hp.two `a,rfl⟩ ?_;rintro m U H1 ⟨e,n,rfl,A,n2,ln,rfl⟩;refine HE {8,1,Aa (λc1=>?_) (λc1=>?_)}
 case refine_2=>
  let c1:¬ ((1:Int)<(e:Int)):=λz=>c1 (jF z);let {e0,dv,kp,i,v,X,Y,R}:=A;let e1:e=1:=by omega
  subst e1;let Z:=UN R `a L;exact k v H1 kp X ((Y.mono `a).congr λp hp=>by rw [show Ac p ((1:Nat):Int)=0 from Mq hp];show _+_*(_ - ((0:Nat):Rat))=_;rw [show ((0:Nat):Rat)=0 from rfl];ext)
 let c1:(1:Int)<(e:Int):=jG c1;let {g,gp,ge,gl}:=J5 (m:=e) `a;let eM:(e:Int)∣M:=BE A.dv wM;let gM:(g:Int)∣M:=BE (EA.mpr ge) eM;let a9:=P g gp gM
 let ng:n<=g:=by
  by_cases z:n<=g
  .exact z
  .exact absurd ge (ln g gp `a)
 refine {λC D=>∃ G,G<(if e<=1 then 0 else 1002 - n)/\_,λ_ _ h=>h,?_};rw [jD (show ¬ e<=1 by omega)]
 let go:∀ s:Nat,2<=s->s<=1000->(∀ x,x∣e->s∣x->Pr s)->(∀ x,0<x->x∣e->¬ s∣x->(∀ p,Pr p->p<s+1->¬ p∣x)/\(if x<=1 then 0 else 1002 - (s+1))<1002 - n)->
   Rk K { nx:=λC D=>∃ G,G<1002 - n/\∃ e n:Nat,C=[↥d,some (.int (e:Int)),↥q,some (.int (n:Int))]/\Aw M d W c t f H e D/\2<=n/\(∀ p,Pr p->p<n->¬ p∣e)/\G=if e<=1 then 0 else 1002 - n,rt:=Q,bk:=λ_ N=>Q .non N,ct:=λC D=>∃ G,G<1002 - n/\∃ e n:Nat,C=[↥d,some (.int (e:Int)),↥q,some (.int (n:Int))]/\Aw M d W c t f H e D/\2<=n/\(∀ p,Pr p->p<n->¬ p∣e)/\G=if e<=1 then 0 else 1002 - n } [↥d,some (.int (e:Int)),↥q,some (.int (s:Int))] H1:=by
  intro s s2 aa sp af;refine Ey (Dh (λm U N=>∃ x:Nat,U=[↥d,some (.int (x:Int)),↥q,some (.int (s:Int))]/\Aw M d W c t f H x N/\x∣e/\m=x) e {e,2,A,Nat.dvd_refl _,2} ?_);rintro x U H2 ⟨_,rfl,B,I,rfl⟩;refine HE (Ax (Ax {4,3,show (0:Int)<(s:Int) by omega,2,1,Aa (λj=>?_) (λj=>?_)}))
  case refine_2=>
   let j:¬ s∣x:=λz=>j (jF (congrArg V.int (Int.emod_eq_zero_of_dvd (EA.mpr z))));let {a1,a2}:=af x B.e0 I j;exact Eg (Ax {8,_,a2,x,s+1,2,B,`a,a1,2})
  let j:s∣x:=by
   let j:V.int ((x:Int) % (s:Int))=V.int 0:=jG j;injection j with j;exact EA.mp (HI j)
  let hs:=sp x I j;let {y,rfl}:=j;let {e0,dv,kp,i,v,X,Y,R}:=B;let y0:0<y:=Nat.pos_of_mul_pos_left e0;refine {λC D=>∃ G,G<s*y/\_,λ_ _ h=>h,?_};refine A8 (Ax {4,3,show (0:Int)<(s:Int) by omega,?_});let a0:((s*y:Nat):Int) / (s:Int)=(y:Int):=by rw [<-Int.natCast_ediv,Nat.mul_div_cancel_left _ `a]
  rw [a0];show Rj K _ [↥d,some (.int (y:Int)),↥q,some (.int (s:Int))] H2;let sM:(s:Int)∣M:=BE (BE (EA.mpr (Nat.dvd_mul_right s y)) dv) wM;let ao:=Y.len O;let Z:=UN R `a L;let ar:Tp H H2:=λb xs h=>kp b _ (λz=>by rw [z,hd] at h;cases h) h;refine {1,.inr (.inr (.inl {2,.inl {_,X}})),1,BJ,λz hz=>{d,(s:Int),3,(AM hz _) _ _ X,?_}};let u:=AM hz (.tup [.int 0,.int 1]);let {a,F,e1,ha,cy,ey}:=(Y.tp (F_ u)).get hs (z:=z) upd_same;let J:=u _ _ X;let a3:=Y.tp (F_ u);let a4:=u _ _ (kp _ _ qd hq);generalize upd H2 z (.tup [.int 0,.int 1])=H3 at u ha J a3 a4 ⊢;rw [e1];let {ab,ac}:=cy.bd;refine {1,a,q,F.1,F.2,c.1,c.2,2,ha,a4,cy.1.pos,cc.1.pos,ab.mono `a,ac.mono `b,a7.mono `b,a8.mono `b,λr hr=>?_};let sr:=AM hr (.tup [.int (C' F c).1,.int (C' F c).2]);let a5:upd H3 r (.tup [.int (C' F c).1,.int (C' F c).2]) r=_:=upd_same;let rd:r≠d:=λz=>by rw [z,J] at hr;cases hr
  show Fn _ _ _ _ _ (upd H3 r (.tup [.int (C' F c).1,.int (C' F c).2])) _;generalize upd H3 r (.tup [.int (C' F c).1,.int (C' F c).2])=H4 at sr a5 ⊢;refine {4,d,(s:Int),1,2,sr _ _ J,by rw [AI];exact sz `a,?_};let a6:=oV v (s:Int) (.ref r);rw [a6];let aj:=(a3.tp (F_ sr)).put hs sM (a:=r) (y:=C' F c) (c:=val c) a5 (cy.add (cc.mono `a)) (by rw [F4 cy.1.pos cc.1.pos,ey])
  let al:Tp H4 (upd H4 d (.dK ((FB v (s:Int) (.ref r)).map λq=>(.inl q.1,q.2)))):=λb xs h=>by
   rw [AX λz=>by rw [z,sr _ _ J] at h;cases h];exact h
  refine {y,?_,y,2,{y0,?_,?_,i+1,FB v (s:Int) (.ref r),upd_same,?_,?_},?_,2}
  .have:2*y<=s*y:=CV _ s2;omega
  .exact BE (EA.mpr (Nat.dvd_mul_left y s)) dv
  .exact λb o n h=>by rw [AX n];exact sr _ _ (u _ _ (kp b o n h))
  .refine ((aj.tp al).mono `a).congr λp hp=>?_;rw [Int.natCast_mul,Kw hp `a `a];push_cast;ext
  .let R:(2:Int) ^ i*(((s*y:Nat)):Int)<=W:=R;rw [DK,Int.mul_assoc];refine Int.le_trans (ED ?_ (Cc (Int.pow_pos `b))) R;have:2*y<=s*y:=CV _ s2;omega
  .exact Nat.dvd_trans (Nat.dvd_mul_left y s) I
 let am:=go n n2 `a (λx I sx=>by
  let {r,rp,rn,_}:=J5 n2;by_cases z:r=n
  .exact z ▸ rp
  .have:=C9 `a rn;exact absurd (Nat.dvd_trans rn (Nat.dvd_trans sx I)) (ln r rp `a)) (λx x0 I S=>{λp hp l d=>by
  by_cases z:p=n
  .exact S (z ▸ d)
  .exact ln p hp `a (Nat.dvd_trans d I),by split <;> omega})
 refine Lm {8,{`b,`b,`b},3,1,Aa (λj=>?_) (λ_=>?_)}
 .let j:(10:Int) ^ (5:Int).toNat<(n:Int):=jG j;rw [show (10:Int) ^ (5:Int).toNat=100000 by decide] at j;omega
 let an:n<=1000:=by omega
 refine {4,3,HC `a `a,8,1,Aa (λj=>?_) (λ_=>am)};let j:(e:Int)<(n:Int)*(n:Int):=jG j;rw [<-Int.natCast_mul] at j
 let eg:g=e:=gl.resolve_right λz=>by
  have:=DB ng ng;omega
 subst eg
 exact Eg {_,rfl,go g gp.two `a (λ_ _ _=>gp) λx x0 I S=>by
  rcases gp.div x I with z | z
  .subst z;exact {λp hp _ d=>by have:=C9 `b d;have:=hp.two;omega,by rw [jE (AT _)];omega}
  .exact absurd (z ▸ Nat.dvd_refl _) S}
def nF {K:W.Frag} {f:TE} {g:TG} {d rest:TS} {D:Ends} {b:L2.St} {H:Hp} (h:f b H (λx c=>∃ a,x=.ref a/\((∃ e,SqL K c a e)/\ForL K a g d { D with nx:=rest D } b c\/(∃ e,SqT K c a e)/\ForT K a g d { D with nx:=rest D } b c))):AH (BH (Gc K f) g d) rest D b H:=h
def ForS.by {K:W.Frag} {e:Hp} {a:Addr} {xs:cZ} {g:TG} {f:TS} {D:Ends} {b:L2.St} {H:Hp} (q:e a^^^xs\/e a&&&xs) (Pv:Nat->L2.St->Hp->Prop) (c:Pv 0 b H) (d:∀ i b H,Pv i b H->Same e H)
  (n:∀ i x b H,xs[i]?=some x->Pv i b H->g x b H λj r=>f { D with nx:=Pv (i+1),ct:=Pv (i+1),bk:=D.nx } j r) (o:∀ b H,Pv @xs b H->D.nx b H):(∃ k,SqL K H a k)/\ForL K a g f D b H\/(∃ k,SqT K H a k)/\ForT K a g f D b H:=by
 rcases q with h | h
 .exact .inl {{_,SqL.of (d _ _ _ c _ _ h)},ForL.by Pv c (λi b m _ p=>SqL.of (d i b m p _ _ h)) n o}
 .exact .inr {{_,SqT.of (d _ _ _ c _ _ h)},ForT.by Pv c (λi b m _ p=>d i b m p _ _ h) n o}
def Kv (H:Hp) (u:V) (m:Int×V):Prop:=∃ a,u=.ref a/\H a&&&[.int m.1,m.2]
def Kv.tp {H b:Hp} {u:V} {m:Int×V} (t:Tp H b) (h:Kv H u m):Kv b u m:=by
 let {a,e,c}:=h;exact {a,e,t _ _ c}
def Kv.refs {H:Hp} {d:cZ} {c:List (Int×V)} (a:Lal (Kv H) d c):∃ as:dj,d=as.map V.ref/\@as=@c/\∀ (j:Nat) a m,as[j]?=some a->c[j]?=some m->H a&&&[.int m.1,m.2]:=
 Lal.ind (M:=λ(d:cZ) (c:List (Int×V))=>∃ as:dj,d=as.map V.ref/\@as=@c/\∀ (j:Nat) a m,as[j]?=some a->c[j]?=some m->H a&&&[.int m.1,m.2]) {[],7,(λj a m e=>nomatch e)} (λu m d c ⟨a,e,h⟩ _ ⟨as,i,k,o⟩=>{a::as,by rw [e,i];rfl,congrArg (·+1) k,λj b n f g=>by
  cases j with
  | zero=>cases f;cases g;exact h
  | succ j=>exact o j b n f g}) a
theorem Kv.of_refs {H:Hp}:∀ {as:dj} {c:List (Int×V)},@as=@c->(∀ (j:Nat) a m,as[j]?=some a->c[j]?=some m->H a&&&[.int m.1,m.2])->Lal (Kv H) (as.map V.ref) c
 | [],[],_,_=>trivial
 | a::as,m::c,e,h=>{{a,2,h 0 a m rfl rfl},Kv.of_refs (Nat.succ.inj e) λj b n d f=>h (j+1) b n d f}
def Wr.list {H:Hp} {P:Wp->Prop} {f:cZ} {d:List (Int×V)} (a:Lal (Kv H) f d):(∀ m∈d,∃ (x:Wp) (b:Addr),m.1=(x.1:Int)/\m.2=.ref b/\Nm H b x.2.1 x.2.2/\P x)->∃ c:List Wp,Lal (Wr H) f c/\(c.map λx=>(x.1:Int))=d.map (·.1)/\∀ x∈c,P x:=
 Lal.ind (M:=λ(f:cZ) (d:List (Int×V))=>(∀ m∈d,∃ (x:Wp) (b:Addr),m.1=(x.1:Int)/\m.2=.ref b/\Nm H b x.2.1 x.2.2/\P x)->∃ c:List Wp,Lal (Wr H) f c/\(c.map λx=>(x.1:Int))=d.map (·.1)/\∀ x∈c,P x) (λ_=>{[],trivial,2,(λ_ h=>nomatch h)}) (λu m f d ⟨a,e,h⟩ _ k i=>by
  let {c,o,p,q}:=k λn r=>i n (A6 _ r);let {x,b,j,v,w,z}:=i m (BC ..);refine {x::c,{{a,b,e,by rw [h,j,v],w},o},by rw [CZ,CZ,p,j],λy g=>?_};rcases CP.mp g with rfl | g
  .exact z
  .exact q y g) a
def nG {K:W.Frag} {vs:cZ} {H:Hp} {Q:VK} {E:XK} (h:Ka K vs H Q E):vO K (eC Q) (L2.start ["_law_rows","_law_weights","_law_c","_law_r"] vs) H:=by
 let {a,us,v,M,rfl,ha,aw,O,P,rz,a6,k}:=h;let lu:=@aw;refine A8 (λd hd=>?_);let s1:=AM hd (HO.dK []);let h0:upd H d (HO.dK []) d=some (aW []):=upd_same;show Rq K _ [↥a,↥d,none,none] _;generalize upd H d (HO.dK [])=H1 at s1 h0 ⊢;refine nF {1,a,2,ForS.by ha (λi σ C=>i<=@us/\∃ (o2 o3:c_) (f:List (Int×V)),σ=[↥a,↥d,o2,o3]/\Same H C/\C d=some (aW f)/\Wd M (200000+524*i) C f (λp=>WR p (v.take i))) {Ah _,none,none,[],2,s1,h0,{List.Pairwise.nil,(λ_ h=>nomatch h),λ_ _ _=>rfl}} (λi σ C ⟨_,_,_,_,_,s,_⟩=>s) ?_ ?_}
 .rintro i u σ H2 hu ⟨_,o2,o3,f,rfl,s,h2,D⟩;let {x,hx,b,e,r,rfl,R,he,G}:=aw.get hu;let il:i<@us:=(A7.mp hu).1;let rx:=rz x (BT hx);let {cx,sx,sy}:=rx;unfold Nm at he G;refine {b,1,s _ _ R,2,6,3,?_};show Rn K _ [↥a,↥d,↥e,↥r] H2;refine Ey (Co (AS rfl (Bc rfl (s _ _ G) rfl (AS rfl {d,e,x.2.1,x.1,M,200000+524*i,f,1,h2,D,s _ _ he,cx,`a,`a,O,P,sx,λS I k3 L w3=>?_}))));let J:=Kp.over s k3 hd;refine Co (AS rfl (Bc rfl (J _ _ G) rfl (Av (AS rfl (Be {1,BJ,λp hp=>?_})))));let B:=AM hp (.tup [.int (-1),.int 1]);let o:upd I p (.tup [.int (-1),.int 1]) p=_:=upd_same;generalize upd I p (.tup [.int (-1),.int 1])=F at B o ⊢;let {b1,b2}:=cx.bd;refine ⟨e,p,x.1.1,x.1.2,-1,1,rfl,B _ _ (J _ _ he),o,cx.1.pos,`b,b1.mono `b,b2.mono `b,(show Bd 1 (-1) by unfold Bd;decide).mono `b,(show Bd 1 1 by unfold Bd;decide).mono `b,λq hq=>?_⟩;let sq:=AM hq (.tup [.int (D_ x.1 (-1,1)).1,.int (D_ x.1 (-1,1)).2]);let T:upd F q (.tup [.int (D_ x.1 (-1,1)).1,.int (D_ x.1 (-1,1)).2]) q=_:=upd_same;show Iz K _ (upd F q (.tup [.int (D_ x.1 (-1,1)).1,.int (D_ x.1 (-1,1)).2])) _ _;generalize upd F q (.tup [.int (D_ x.1 (-1,1)).1,.int (D_ x.1 (-1,1)).2])=H5 at sq T ⊢;let g:=B.trans sq;let {cn,vn}:=cx.neg;refine {d,q,x.2.2,D_ x.1 (-1,1),M,200000+524*i+262,S,1,g _ _ L,w3.tp (F_ g),T,cn,`a,`a,O,P,sy,λU H6 k6 h6 w6=>{il,↥e,↥r,U,2,Kp.over (J.trans g) k6 hd,h6,(w6.mono `a).congr λp hp=>?_}};rw [vn,Cr hx,Mz];show _=_+(val x.1*_+0);ext
 rintro σ H2 ⟨_,o2,o3,f,rfl,s,h2,D⟩;rw [lu,Bh] at D;let a5:=D.len O;show Ro K _ [↥a,↥d,o2,o3] H2;refine B7 (EK {1,d,f,2,h2,λob=>{@f,λi X C=>i<=@f/\Same H C/\Tp H2 C/\C d=some (.frz ob (aW f))/\Lal (Kv C) X ((f.take i).filter λA=>decide (WR A.1.toNat v≠0)),{Ah _,Kp.over s Kp.upd hd,λb v h=>?_,upd_same,by rw [EV];trivial},?_}})
 .rw [AX λz=>by rw [z,h2] at h;cases h];exact h
 rintro i X I ⟨hi,J,t3,L,Y⟩;let ll:=@Y;let lf:=List.length_filter_le (λA:Int×V=>decide (WR A.1.toNat v≠0)) (f.take i);rw [Br] at lf;refine {hi,sz `a,?_};by_cases c:i<@f
 .refine .inr {c,⟨L,c⟩,?_};rintro u F ⟨p,j,x,hp,rfl,rfl,hj⟩;let B:=AM hp (.tup [.int j,x]);let o:upd I p (.tup [.int j,x]) p=_:=upd_same;generalize upd I p (.tup [.int j,x])=F at B o ⊢;let {n,b,q,N,hn,nM,Z,R,cq,vq}:=D.ok _ (BT hj);let N:j=(n:Int):=N;let Z:x=.ref b:=Z;subst N Z;let a3:=B _ _ (t3 _ _ R);refine {p,1,o,2,6,3,?_};show Ap _ [some (.int (n:Int)),↥b] _ _;refine HE (Ax (AS rfl (Be (I_ (I_ {BJ,λw hw=>?_})))));let sw:=AM hw (.tup [.int 0,.int 1]);let a0:upd F w (.tup [.int 0,.int 1]) w=_:=upd_same;generalize upd F w (.tup [.int 0,.int 1])=H5 at sw a0 ⊢;let g:=B.trans sw;let a1:q=(0,1)↔WR n v=0:=by rw [<-Mr cq.1,vq]
  let fl:(f.take (i+1)).filter (λA=>decide (WR A.1.toNat v≠0))=(f.take i).filter (λA=>decide (WR A.1.toNat v≠0))++if WR n v≠0 then [((n:Int),.ref b)] else []:=by
   rw [Cr hj,List.filter_append,List.filter_cons,List.filter_nil];congr 1;show (if decide (WR n v≠0)=true then _ else _)=_;by_cases z:WR n v≠0
   .rw [jE (jF z),jE z]
   .rw [jD (λy=>z (jG y)),jD z]
  refine {9,decide (q=(0,1)),DR {b,2,sw _ _ a3},DR (q:=(0,1)) ⟨w,rfl,a0⟩,az _ 7,az _ 7,by rw [datN_eq];simp,1,Aa (λc2=>?_) (λc2=>?_)}
  .let z:WR n v≠0:=λz=>by rw [jF (a1.mpr z)] at c2;cases c2
   rw [jE z] at fl;refine Be (AS rfl (AS rfl {BJ,λr G=>?_}));let sr:=AM G (.tup [.int (n:Int),.ref b]);let sX:=g.trans sr;refine {c,J.trans sX,t3.trans (F_ sX),sX _ _ L,?_};rw [fl];exact (Y.mono λ_ _ h=>h.tp (F_ sX)).snoc ⟨r,rfl,upd_same⟩
  .let z:¬ WR n v≠0:=λz=>c2 (by rw [jH (λy=>z (a1.mp y))];rfl);rw [jD z,List.append_nil] at fl;refine {c,J.trans g,t3.trans (F_ g),g _ _ L,?_};rw [fl];exact Y.mono λ_ _ h=>h.tp (F_ g)
 refine .inl {{L,`a},λp hp=>?_};rw [show i=@f by omega,Bh] at Y;let B:=AM hp (.lst X);let o:upd I p (.lst X) p=_:=upd_same;generalize upd I p (.lst X)=F at B o ⊢;let {as,rfl,la,ga}:=Kv.refs (Y.mono λ_ _ h=>h.tp (F_ B));let nd:(((f.filter λA=>decide (WR A.1.toNat v≠0)).map (·.1))).Nodup:=D.nd.sublist (List.Sublist.map _ List.filter_sublist);rw [AI] at ll;refine {p,as,1,o,la,ga,`a,nd,λr bs ns G lb gb pm so=>?_};let sr:=AM G (.lst (bs.map V.ref));let t4:=(t3.trans (F_ B)).trans (F_ sr)
 let {ls,h1,a2,a4}:=Wr.list (P:=λx=>Pr x.1/\Low x.2.1 x.2.2/\val x.2=WR x.1 v/\WR x.1 v≠0) ((Kv.of_refs lb gb).mono λ_ _ h=>h.tp (F_ sr)) λm hm=>by
  let hm:=pm.mem_iff.mp hm;let {hm,c}:=D5.mp hm;let c:=jG c;let {n,b,q,N,hn,nM,Z,R,cq,vq}:=D.ok _ hm;rw [N] at c;exact {(n,q),b,N,Z,t4 _ _ R,hn,cq.1,vq,c}
 refine k r _ ls _ ((J.trans B).trans sr) upd_same h1 {?_,a4,λp hp n=>?_}
 .have:(ls.map λx=>(x.1:Int)).Pairwise (·<·):=by rw [a2];exact D8.mpr so
  exact (D8.mp this).imp λh=>by omega
 .by_cases z:∃ A∈f,A.1=(p:Int)
  .let {A,hk,e}:=z
   have:(p:Int)∈ls.map λx=>(x.1:Int):=by
    rw [a2];refine Au.mpr {A,pm.mem_iff.mpr (D5.mpr {hk,jF ?_}),e};rw [e];exact n
   let {x,hx,e}:=Au.mp this;exact {x,hx,`a}
  .exact absurd (D.no p hp λA h e=>z ⟨A,h,e⟩) n
def nI {K:W.Frag} {c:TE} {g:TG} {d rest:TS} {D:Ends} {b:L2.St} {H:Hp} (h:c b H (λx e=>∃ a,x=.ref a/\(∃ f,SqT K e a f)/\ForT K a g d { D with nx:=rest D } b e)):AH (BH (Eu K c) g d) rest D b H:=h
theorem M9 {H:Hp}:∀ (ns:d6),RepA H (~~~ns) (ns.map W.Dat.int)
 | []=>.nil
 | n::ns=>.cons (.int n) (M9 ns)
def okI (l:d6):W.kqdOk 8 (.list (l.map W.Dat.int))=true:=by
 show (l.map W.Dat.int).all (W.kqdOk 7)=true;rw [Fh];intro x a;let {p,_,rfl}:=Au.mp a;rfl
def nJ {K:W.Frag} {vs:cZ} {H:Hp} {Q:VK} {E:XK} (h:L8 K vs H Q E):vR K (eC Q) (L2.start ["_law_wholes","_law_k","_law_entire","_law_other","_law_one","_law_rest"] vs) H:=by
 let {a,b,rfl,D,l8,u,F,k}:=h;refine Ey {1,a,2,{_,SqL.of D},ForJ.enumL (xs:=b.map V.int) (λi d e=>∃ B C f g j:c_,d=[↥a,B,C,f,g,j]/\Same H e) {none,none,none,none,none,2,Same.refl H} ?_ ?_ ?_}
 .rintro i d e _ ⟨B,C,f,g,j,rfl,s⟩;exact SqL.of (s _ _ D)
 .rintro i x p d L G ⟨B,C,f,g,j,rfl,T⟩ hp;let M:=AM hp (.tup [.int (i:Int),x]);let v:upd L p (.tup [.int (i:Int),x]) p=_:=upd_same;let o:=T.trans M;generalize upd L p (.tup [.int (i:Int),x])=N at M v o ⊢;let I:i<@b:=by have:=(A7.mp G).1;rw [AI] at this;exact this
  rw [Ae,Ak I] at G;obtain rfl:=jL G;refine {p,1,v,2,6,3,?_};refine Tn {4,1,a,1,o _ _ D,λq U=>?_};rw [KD (by rw [AI];omega)];let O:=AM U (.lst ((~~~b).take i));let r:upd N q (.lst ((~~~b).take i)) q=_:=upd_same;let w:=o.trans O;generalize upd N q (.lst ((~~~b).take i))=X at O r w ⊢;refine {q,2,{_,SqL.of r},ForL.by (xs:=(~~~b).take i) (λn d e=>∃ f g j:c_,d=[↥a,some (.int (i:Int)),some (.int b[i]),f,g,j]/\e=X) ⟨f,g,j,rfl,rfl⟩ ?_ ?_ ?_}
  .rintro n d e _ ⟨f,g,j,rfl,rfl⟩;exact SqL.of r
  .rintro n y d e J ⟨f,g,j,rfl,rfl⟩;let P:n<i:=by have:=(A7.mp J).1;rw [Br] at this;omega
   rw [List.getElem?_take_of_lt P,Ae,Ak `a] at J;obtain rfl:=jL J;let Y:Int.gcd b[i] b[n]=1:=by rw [Int.gcd_comm];exact List.pairwise_iff_getElem.mp F n i `a I P
   let p1:=u b[i] (Cu I);let p2:=u b[n] (Cu `a);refine {4,6,?_};show Ru K _ [↥a,some (.int (i:Int)),some (.int b[i]),some (.int b[n]),some (.int b[i]),some (.int b[n])] _;refine Dh (λm d A=>∃ x y:Int,d=[↥a,some (.int (i:Int)),some (.int b[i]),some (.int b[n]),some (.int x),some (.int y)]/\A=e/\0<=x/\0<=y/\Int.gcd x y=1/\m=y.natAbs) _ {3,`a,`a,Y,2} ?_;rintro m d A ⟨x,y,rfl,rfl,x0,R,S,rfl⟩;refine {8,1,Aa (λc=>?_) (λc=>?_)}
   .let c:y > 0:=jG c;let Z:=Ca x (show y≠0 by omega);let z2:=Ci x c;refine {_,λ_ _ h=>h,4,8,c,6,(x % y).natAbs,`a,y,x % y,7,R,Z,?_,2};rw [Jj x R];exact S
   .let c:¬ y > 0:=λz=>c (jF z);let yz:y=0:=by omega
    subst yz;rw [Int.gcd_zero_right] at S;let x1:x=1:=by omega
    subst x1;show Rs K _ _ _;exact {1,2,1,Aa (λc=>by cases c) (λ_=>{_,3})}
  .rintro d e ⟨f,g,j,rfl,rfl⟩;exact {9,9,1,w}
 .rintro d e ⟨B,C,f,g,j,rfl,s⟩;exact k _ s
noncomputable def JS (x:Wp):W.Dat:=.tuple [.int (x.1:Int),CO x.2]
def UO {H:Hp} {c:cZ} {d:List Wp} (a:Lal (Wr H) c d):RepA H c (d.map JS):=
 Lal.ind (M:=λ(c:cZ) (d:List Wp)=>RepA H c (d.map JS)) .nil (λu x c d ⟨p,b,e,f,g⟩ _ h=>by
  subst e;exact .cons (.tup f (.cons (.int _) (.cons (DR ⟨b,rfl,g⟩) .nil))) h) a
def okW (a:List Wp):W.kqdOk 8 (.list (a.map JS))=true:=by
 show (a.map JS).all (W.kqdOk 7)=true;rw [Fh];intro x b;let {p,_,rfl}:=Au.mp b;simp [JS,CO,W.kqdOk]
def Wl.uniq {F G:dt} {c f:List Wp} (a:Wl F c) (b:Wl G f) (e:∀ p,Pr p->F p=G p):c=f:=by
 let d:∀ {F G:dt} {c f:List Wp},Wl F c->Wl G f->(∀ p,Pr p->F p=G p)->∀ x,x∈c->x∈f:=λ{F G c f} a b e x n=>by
  let {g,i,o,q}:=a.ok x n;let {y,j,k}:=b.all x.1 g (by rw [<-e _ g];exact q);let {_,r,u,_}:=b.ok y j;have:x.2=y.2:=Do i r (by rw [o,u,k,e _ g]);have:x=y:=Prod.ext k.symm this;rw [this];exact j
 let m:∀ {c:List Wp},c.Pairwise (λx y=>x.1<y.1)->c.Nodup:=λh=>h.imp λh e=>by rw [e] at h;omega
 let v:=(List.perm_ext_iff_of_nodup (m a.so) (m b.so)).mpr λx=>{d a b e x,d b a (λp hp=>(e p hp).symm) x};exact List.Perm.eq_of_pairwise (λ_ _ _ _ g i=>by omega) a.so b.so v
theorem UP {p:Nat} (hp:Pr p):∀ a:List O_,WR p (a.map Iw)=WP p a
 | []=>rfl
 | y::a=>by
   show val y.1*((Ac p y.2:Rat) - (Ac p 1:Rat))+WR p (a.map Iw)=val y.1*(Ac p y.2:Rat)+WP p a;rw [UP hp a,Mq hp,show (((0:Nat)):Rat)=0 from rfl];ext
def nK {K:W.Frag} {vs:cZ} {H:Hp} {Q:VK} {E:XK} (h:MG K vs H Q E):vT K (eC Q) (L2.start ["_law_found","_law_q","_law_rows","_law_wholes","_law_pair"] vs) H:=by
 let {r,a,b,q,l,z,ws,us,w,xs,M,rfl,N,ha,hq,lz,hb,T,S5,hl,hX,am,xz,O,P,eW,k}:=h;let {U,a6,a9,X}:=S5;unfold Nm at ha hq;refine E3 {1,9,1,Jm N,1,Aa (λc=>by cases c) λ_=>{1,r,1,N,2,1,Aa (λc=>by cases c) λ_=>{1,r,0,3,N,2,a,z.1,z.2,2,ha,lz,λH1 A=>{1,Aa (λc=>by cases c) λ_=>{1,r,0,3,A _ _ N,2,1,CO z,CO z,true,DR {a,2,A _ _ ha},DR {q,2,A _ _ hq},az z 7,az z 7,{λ_=>rfl,λ_=>rfl},1,Aa (λc=>by cases c) λ_=>?_}}}}};let J:=A _ _ N;let B:=A _ _ hb;let aa:=A _ _ hl;let T:=T.mono λ_ _ h=>h.tp (F_ A);let hX:=hX.mono λ_ _ h=>h.tp (F_ A);show R7 K _ _ _;clear N ha hb hl hq;refine E3 ⟨_,rfl,r,1,_,_,rfl,rfl,J,rfl,_,_,_,rfl,Jm B,_,rfl,Aa (λc=>by cases c) λ_=>?_⟩;show R6 K _ _ _;refine A8 {GH,λm Y=>?_};let s2:=AM Y (.lst []);let Z:upd H1 m (.lst []) m^^^[]:=upd_same;show R5 K _ [↥r,↥q,↥l,↥m,none] _;generalize upd H1 m (.lst [])=H2 at s2 Z ⊢;let lw:@ws=@w:=by rw [@T,AI]
 refine nI ⟨_,rfl,r,1,_,_,rfl,rfl,s2 _ _ J,rfl,b,rfl,{_,SqT.of (s2 _ _ B)},ForT.by (xs:=ws) (λi σ g=>∃ o4:c_,σ=[↥r,↥q,↥l,↥m,o4]/\Same H1 g/\g m^^^(((w.take i).map (·.2)).map V.int)) ⟨none,rfl,s2,Z⟩ ?_ ?_ ?_⟩
 .rintro i σ g _ ⟨o4,rfl,s,_⟩;exact s _ _ B
 .rintro i u σ g hu ⟨o4,rfl,R,f⟩;let il:i<@w:=by have:=(A7.mp hu).1;omega
  let {x,S,p,c,d,rfl,hp,L,v}:=T.get hu;rw [Ae] at S;let {y,hy,rfl}:=EO.mp S;let {cy,y0,y1,sy}:=U y (BT hy);let hp:=R _ _ hp;let L:Nm g c y.1.1 y.1.2:=R _ _ L;let v:Nm g d y.2 1:=R _ _ v;refine Ds ?_;show Ry K _ [↥r,↥q,↥l,↥m,↥p] _;refine E3 {1,9,1,Jm hp,1,Aa (λc=>by cases c) λ_=>{1,p,1,hp,2,1,Aa (λc=>by cases c) λ_=>{1,p,0,3,hp,2,c,y.1.1,y.1.2,2,L,cy.1,λH5 s5=>{1,Aa (λc=>by cases c) λ_=>?_}}}};refine Ax {1,p,0,3,s5 _ _ hp,2,BJ,λz U=>?_};let s6:=AM U (.tup [.int 0,.int 1]);refine {c,z,3,(s5.trans s6) _ _ L,upd_same,7,1,Aa (λe=>?_) λ_=>?_}
  .let e:=jG e;injection e with e _;injection e with e;exact absurd e y0
  let C:=s5.trans s6;show Rx K _ _ (upd H5 z (.tup [.int 0,.int 1]));generalize upd H5 z (.tup [.int 0,.int 1])=H6 at C ⊢;let hp:=C _ _ hp;let v:Nm H6 d y.2 1:=C _ _ v;refine E3 ⟨_,rfl,p,1,_,_,rfl,rfl,hp,rfl,d,y.2,1,rfl,v,{`b,Int.gcd_one_right ..},λH7 D=>{1,Aa (λc=>by cases c) λ_=>⟨_,rfl,p,1,_,_,rfl,rfl,D _ _ hp,rfl,d,1,_,_,rfl,rfl,D _ _ v,rfl,rfl,_,rfl,Aa (λc=>by cases c) λ_=>⟨_,rfl,p,1,_,_,rfl,rfl,D _ _ hp,rfl,d,0,_,_,rfl,rfl,D _ _ v,rfl,_,_,rfl,rfl,_,rfl,Aa (λc=>?_) λ_=>?_⟩⟩}⟩
  .have:y.2<2:=jG c;omega
  show Rv K _ _ _;let a0:=C.trans D;let a1:=a0 _ _ f;let j:=R.trans a0;let hp:=D _ _ hp;let v:Nm H7 d y.2 1:=D _ _ v;refine ⟨_,rfl,Eb a1,_,rfl,p,1,_,_,rfl,rfl,hp,rfl,d,0,_,_,rfl,rfl,v,rfl,m,_,_,rfl,rfl,a1,sz (by rw [AI,AI,Br];omega),?_⟩;refine {1,λc o L=>Kp.upd c o (A3 L Y) (j c o L),?_};rw [upd_same,Cr hy,B9,B9];rfl
 .rintro σ g ⟨o4,rfl,R,f⟩;rw [lw,Bh] at f;let a2:(w.map (·.2)).length<=60:=by rw [AI];exact X
  let so:(w.map (·.2)).Pairwise (·<=·):=D8.mpr a9;let a3:(w.map (·.2)).Pairwise (λx y=>Int.gcd x y=1):=D8.mpr a6
  let a4:∀ n∈w.map (·.2),0<n:=λn hn=>by
   let {y,ym,rfl}:=Au.mp hn;have:=(U y ym).2.2.1;omega
  generalize w.map (·.2)=ns at f a2 so a3 a4;show R4 K _ _ _;refine E3 {4,m,ns,2,f,`a,λz F ab pm ac=>?_};let af:F=ns:=List.Perm.eq_of_pairwise (λ_ _ _ _ h1 h2=>Int.le_antisymm h1 h2) ac so pm;subst af;let G:=AM ab (.lst (~~~F));let a5:upd g z (.lst (~~~F)) z=_:=upd_same;show b7 _ _ _ _;generalize upd g z (.lst (~~~F))=H5 at G a5 ⊢;refine {9,true,.lst (G _ _ f) (M9 F),.lst a5 (M9 F),okI F,okI F,{λ_=>rfl,λ_=>rfl},1,Aa (λc=>by cases c) λ_=>?_};refine DS {1,m,F,2,G _ _ f,a2,a4,a3,λH6 s6=>{1,Aa (λc=>by cases c) λ_=>?_}};let I:=R.trans (G.trans s6);show R3 K _ _ _;refine B7 (Ax (DS (Bc rfl (I _ _ J) rfl {b,ws,w.map Iw,M,2,.inr (I _ _ B),T.mono λ_ _ h=>h.tp (F_ I),O,P,λx S=>?_,by rw [AI];exact X,λr1 an aj H7 D h7 a7 w7=>?_})))
  .let {y,ym,rfl}:=Au.mp S;let {cy,_,_,sy}:=U y ym;exact {cy,sy,GK O DC (Int.one_dvd _)}
  let j:=I.trans D;refine DS {1,l,us,xs,M,2,.inl (j _ _ aa),hX.mono λ_ _ h=>h.tp (F_ j),O,P,λx S=>?_,`a,λr2 ao al H8 s8 h8 a8 w8=>?_}
  .let {z1,z2,z3}:=xz x S;exact {z1.mono `b,z2,z3}
  let el:al=aj:=w8.uniq w7 λp hp=>by rw [UP hp,eW p hp]
  subst el;exact {9,true,.lst (s8 _ _ h7) (UO (a7.mono λ_ _ h=>h.tp (F_ s8))),.lst h8 (UO a8),okW _,okW _,{λ_=>rfl,λ_=>rfl},k _ (A.trans (j.trans s8))}
def UQ (a:Int):Low a 1:={DC,Int.gcd_one_right ..}
def UR {gs:List Gp} (G:Gz6 gs):∀ i,((gs.take i).flatMap (·.2.1)).length<=12:=by
 let h:∀ l:List Gp,(∀ g∈l,Gz g)->(l.flatMap (·.2.1)).length<=2*@l:=λl=>by
  induction l with
  | nil=>intro _;exact Ah _
  | cons g l b=>
    intro h;have:=b λx a=>h x (A6 _ a);have:=(h g (BC ..)).l2;rw [List.flatMap_cons,Bf,Cj];omega
 intro i;have:=h (gs.take i) λx a=>G.gz x (Fj a);have:=G.g6;rw [Br] at *;omega
def nO {K:W.Frag} {vs:cZ} {H:Hp} {Q:VK} {E:XK} (h:MF K vs H Q E):SE K (eC Q) (L2.start ["_law_drawn_here","_law_c","_law_groups_here","_law_parts_here","_law_places","_law_e","_law_some","_law_squares"] vs) H:=by
 let {r,q,A,a4,ps,t,b,rfl,{g,p,hr,{S,L,lg},{w,v,xs,vs,hp,hw,nx,hv,lp}},G,P2,hq,C,kY,kN}:=h;let g6:=G.g6;let p2:=P2.p2;unfold Nm at hq;show SE K _ [↥r,↥q,none,none,none,none,none,none] _;refine Ey {1,r,1,hr,2,6,3,?_};show SC K _ [↥r,↥q,↥g,↥p,none,none,none,none] _;refine A8 {GH,λT a2=>?_};let s1:=AM a2 (.lst []);let h0:upd H T (.lst []) T=_:=upd_same;show R9 K _ [↥r,↥q,↥g,↥p,↥T,none,none,none] _;generalize upd H T (.lst [])=H1 at s1 h0 ⊢;refine GI {1,g,2,{_,SqL.of (s1 _ _ L)},ForL.by (xs:=S) (λi σ k=>∃ (l:Addr) (o5 o6 o7:c_),σ=[↥r,↥q,↥g,↥p,↥l,o5,o6,o7]/\Same H k/\k l^^^(((A.take i).flatMap (·.2.1)).map V.int)) ⟨T,none,none,none,rfl,s1,h0⟩ ?_ ?_ ?_}
 .rintro i σ k _ ⟨_,_,_,_,_,s,_⟩;exact SqL.of (s _ _ L)
 .rintro i x σ k hx ⟨l,o5,o6,o7,rfl,s,hl⟩;let {gp,U,a,e,c,d,rfl,j,he,hc,hd}:=lg.get hx;let pl:=UR G i;let l2:=(G.gz gp (BT U)).l2;refine {a,1,s _ _ j,2,6,6,3,?_};refine Eg (Ax {4,l,c,3,hl,s _ _ hc,sz (by rw [AI,AI];omega),λm hm=>{m,9,1,s.trans (AM hm _),?_}});rw [upd_same,Cr U,List.flatMap_append,B9];show _=some (HO.lst (_++(gp.2.1++[]).map V.int));rw [List.append_nil]
 rintro σ H2 ⟨l,o5,o6,o7,rfl,X,hl⟩;let pl:=UR G @S;rw [@lg,Bh] at hl pl;show R8 K _ [↥r,↥q,↥g,↥p,↥l,o5,o6,o7] H2;refine B7 (Ax (AS rfl (FW (Ax (AS rfl (FW (Bc rfl (X _ _ hp) rfl {v,2,{_,SqL.of (X _ _ hv)},CompJ.lst (xs:=vs) (λi f k=>i<=@vs/\Same H2 k/\f=((ps.take i).map (·.2.1)).map V.int) {Ah _,Same.refl _,2} ?_ ?_ ?_})))))))
 .rintro i f k ⟨N,O,e⟩;have:=@lp;refine {N,sz ?_,SqL.of (O _ _ (X _ _ hv))};rw [e,AI,AI,Br];omega
 .rintro i u f k P ⟨N,O,e⟩;let {pp,a3,c,rfl,hc}:=lp.get P;let il:=(A7.mp P).1;refine Ds ?_;refine Bc rfl (O _ _ (X _ _ hc)) rfl {il,O,?_};rw [Cr a3,B9,B9,e];rfl
 rintro f H3 ⟨_,s3,e⟩ m hm;rw [@lp,Bh] at e;subst e;let O:=AM hm (.lst ((ps.map (·.2.1)).map V.int));let Y:upd H3 m (.lst ((ps.map (·.2.1)).map V.int)) m=_:=upd_same;let F:=s3.trans O;show Fu _ _ _ _;generalize upd H3 m (.lst ((ps.map (·.2.1)).map V.int))=H4 at F Y ⊢;refine {l,m,3,F _ _ hl,Y,sz (by rw [AI,AI,AI];omega),λn hn=>?_};rw [<-B9];let s5:=AM hn (.lst ((A.flatMap (·.2.1)++ps.map (·.2.1)).map V.int));let B:upd H4 n (.lst ((A.flatMap (·.2.1)++ps.map (·.2.1)).map V.int)) n=_:=upd_same;let Z:=X.trans (F.trans s5);generalize upd H4 n (.lst ((A.flatMap (·.2.1)++ps.map (·.2.1)).map V.int))=H5 at Z B ⊢;let a0:(A.flatMap (·.2.1)++ps.map (·.2.1)).length<=14:=by rw [Bf,AI];omega
 let D:bh A ps (val (t,b))↔∃ a∈A.flatMap (·.2.1)++ps.map (·.2.1),val (t,b)=(a:Rat):=by
  constructor
  .rintro (⟨g,L,a,j,e⟩ | ⟨p,hp,e⟩)
   .exact {a,Ei _ (List.mem_flatMap.mpr ⟨g,L,j⟩),e}
   .exact {p.2.1,Ch _ (Au.mpr ⟨p,hp,rfl⟩),e}
  .rintro ⟨a,j,e⟩;rcases C5.mp j with j | j
   .let {g,L,j}:=List.mem_flatMap.mp j;exact .inl ⟨g,L,a,j,e⟩
   .let {p,hp,rfl}:=Au.mp j;exact .inr ⟨p,hp,e⟩
 generalize A.flatMap (·.2.1)++ps.map (·.2.1)=as at B a0 D ⊢;refine {n,2,{_,SqL.of B},CompJ.lst (xs:=as.map V.int) (λi f k=>i<=(~~~as).length/\Same H5 k/\@f=i/\Lal (λu a=>isN k u (a,1)) f (as.take i)) {Ah _,Same.refl _,2,by rw [EV];trivial} ?_ ?_ ?_}
 .rintro i f k ⟨N,s6,e,_⟩;rw [AI] at N;exact {by rw [AI];exact N,sz `a,SqL.of (s6 _ _ B)}
 .rintro i u f k P ⟨N,s6,e,I⟩;let il:=(A7.mp P).1;rw [Ae] at P;let {a,j,rfl}:=EO.mp P;refine Ds ?_;show Ai _ [some (.int a)] _ _;refine Be (AS rfl (I_ {BJ,λz hz=>?_}));let sA:=AM hz (.tup [.int a,.int 1]);refine {il,s6.trans sA,by rw [Bf,e];rfl,?_};rw [Cr j];exact (I.mono λu a ⟨z,e,h⟩=>{z,e,sA _ _ h}).snoc ⟨z,rfl,upd_same⟩
 rintro f H6 ⟨_,s6,e,I⟩ z hz;rw [AI,Bh] at I;let s7:=AM hz (.lst f);let J:upd H6 z (.lst f) z=_:=upd_same;let I:Lal (λu a=>isN (upd H6 z (.lst f)) u (a,1)) f as:=I.mono λu a ⟨y,e,h⟩=>{y,e,s7 _ _ h};let o:=Z.trans (s6.trans s7);generalize upd H6 z (.lst f)=H7 at o J I ⊢;let rA:RepA H7 f (as.map λa=>CO (a,1)):=Lal.ind (R:=λu a=>isN H7 u (a,1)) (M:=λ(S:cZ) (as:d6)=>RepA H7 S (as.map λa=>CO (a,1))) .nil (λu x S xs r _ ih=>.cons (DR r) ih) I
 let a1:CO (t,b)∈as.map (λa=>CO (a,1))↔bh A ps (val (t,b)):=by
  rw [D];constructor
  .intro h;let {a,j,e}:=Au.mp h;exact {a,j,by rw [<-datN_eq.mp e,HD]}
  .rintro ⟨a,j,e⟩;refine Au.mpr {a,j,congrArg CO ?_};exact (Do (q:=(t,b)) (r:=(a,1)) C.lo (UQ a) (by rw [e,HD])).symm
 let ok:∀ e∈as.map (λa=>CO (a,1)),W.kqdOk 8 e=true:=λe he=>by
  let {a,_,rfl}:=Au.mp he;exact az _ 7
 by_cases hh:bh A ps (val (t,b))
 .exact {z,f,9,true,2,J,DR (q:=(t,b)) {q,2,o _ _ hq},rA,az _ 7,ok,{λ_=>a1.mpr hh,λ_=>rfl},kY hh _ o}
 .exact {z,f,9,false,2,J,DR (q:=(t,b)) {q,2,o _ _ hq},rA,az _ 7,ok,{(λh=>nomatch h),λh=>absurd (a1.mp h) hh},kN hh _ o}
def NA {b:TA} {g:TG} {c rest:TS} {D:Ends} {a:L2.St} {H:Hp} (h:b a H (λd e=>∃ j:Int,d=[.int j]/\-(2 ^ 62)<=j/\j<2 ^ 62/\ForR 0 j.toNat g c { D with nx:=rest D } a e)):AH (BH (DM b) g c) rest D a H:=h
def US {b:TA} {capt:List (Option Nat)} {g:TG} {c:TE} {a:L2.St} {H:Hp} {Q:VK} (h:b a H (λd e=>∃ j:Int,d=[.int j]/\-(2 ^ 62)<=j/\j<2 ^ 62/\CompJ (aF 0 j.toNat) capt g c a Q e)):Bk (DM b) capt g c a H Q:=h
def nU {a b c d e f:V}:[a,b,c,d,e,f].length<=sizeLine:=sz (show (6:Nat)<=1000000 by decide)
def nV {K:W.Frag} {vs:cZ} {H:Hp} {Q:VK} {E:XK} (h:MH K vs H Q E):wU K (eC Q) (L2.start ["_law_g"] vs) H:=by
 let {g,rfl,R,T,q}:=h;refine B7 (Ax {4,1,E4,λi J=>?_});let a:=AM J (.tup [.int (-5),.int (-4),.int (-3)]);let b:upd H i (.tup [.int (-5),.int (-4),.int (-3)]) i=_:=upd_same;generalize upd H i (.tup [.int (-5),.int (-4),.int (-3)])=z at a b ⊢;refine {1,E4,λj L=>?_};let A:=AM L (.tup [.int (-1),.int 1,.int 2]);let c:upd z j (.tup [.int (-1),.int 1,.int 2]) j=_:=upd_same;let b:=A _ _ b;let a:=a.trans A;generalize upd z j (.tup [.int (-1),.int 1,.int 2])=B at a b c ⊢;refine {E4,λk M=>?_};let y:=AM M (.tup [.int 4,.int 5,.int 6]);let d:upd B k (.tup [.int 4,.int 5,.int 6]) k=_:=upd_same;let b:=y _ _ b;let c:=y _ _ c;let a:=a.trans y;generalize upd B k (.tup [.int 4,.int 5,.int 6])=C at a b c d ⊢;refine {E4,λm N=>?_};let x:=AM N (.tup [.int 7,.int 8,.int 9]);let e:upd C m (.tup [.int 7,.int 8,.int 9]) m=_:=upd_same;let b:=x _ _ b;let c:=x _ _ c;let d:=x _ _ d;let a:=a.trans x;generalize upd C m (.tup [.int 7,.int 8,.int 9])=D at a b c d e ⊢;refine {E4,λo O=>?_};let v:=AM O (.tup [.int 10,.int 11,.int 12]);let w:upd D o (.tup [.int 10,.int 11,.int 12]) o=_:=upd_same;let b:=v _ _ b;let c:=v _ _ c;let d:=v _ _ d;let e:=v _ _ e;let a:=a.trans v;generalize upd D o (.tup [.int 10,.int 11,.int 12])=F at a b c d e w ⊢;refine {E4,λr P=>?_};let u:=AM P (.tup [.int 13,.int 14,.int 15]);let G:upd F r (.tup [.int 13,.int 14,.int 15]) r=_:=upd_same;let b:=u _ _ b;let c:=u _ _ c;let d:=u _ _ d;let e:=u _ _ e;let w:=u _ _ w;let a:=a.trans u;generalize upd F r (.tup [.int 13,.int 14,.int 15])=U at a b c d e w G ⊢;refine {nU,λp n=>?_};let f:=AM n (.tup [.ref i,.ref j,.ref k,.ref m,.ref o,.ref r]);refine {1,?_};let S:=a.trans f;rcases (show g=0\/g=1\/g=2\/g=3\/g=4\/g=5 by omega) with rfl | rfl | rfl | rfl | rfl | rfl
 .exact {p,0,_,.ref i,7,upd_same,2,q i _ _ _ _ S (f _ _ b) `b `b `b}
 .exact ⟨p,1,_,.ref j,rfl,rfl,upd_same,rfl,q j _ _ _ _ S (f _ _ c) `b `b `b⟩
 .exact ⟨p,2,_,.ref k,rfl,rfl,upd_same,rfl,q k _ _ _ _ S (f _ _ d) `b `b `b⟩
 .exact ⟨p,3,_,.ref m,rfl,rfl,upd_same,rfl,q m _ _ _ _ S (f _ _ e) `b `b `b⟩
 .exact ⟨p,4,_,.ref o,rfl,rfl,upd_same,rfl,q o _ _ _ _ S (f _ _ w) `b `b `b⟩
 .exact ⟨p,5,_,.ref r,rfl,rfl,upd_same,rfl,q r _ _ _ _ S (f _ _ G) `b `b `b⟩
def Gx (o:Addr) (H:Hp) (u:V) (g:Gp):Prop:=∃ a b c d,u=.ref a/\H a&&&[.ref b,.ref c,.ref d]/\Nm H b g.1.1 g.1.2/\H c^^^(g.2.1.map V.int)/\H d^^^(g.2.2.map V.int)/\c≠o/\d≠o
def Gx.kp {o:Addr} {H j:Hp} {u:V} {g:Gp} {q:cZ} (k:Kp o H j) (m:H o^^^q) (h:Gx o H u g):Gx o j u g:=by
 let {a,b,c,d,e,i,f,r,v,n,p}:=h;exact {a,b,c,d,e,k _ _ (λz=>by rw [z,m] at i;cases i) i,k _ _ (λz=>by unfold Nm at f;rw [z,m] at f;cases f) f,k _ _ n r,k _ _ p v,n,p}
def Gx.gh {o:Addr} {H:Hp} {u:V} {g:Gp} (h:Gx o H u g):Gh H u g:=by
 let {a,b,c,d,e,f,i,j,k,_}:=h;exact ⟨a,b,c,d,e,f,i,j,k⟩
def UT {as:d6} {a b:Int} (h:0<=a) (f:a<=b):∃ c:d6,CH (~~~as) (some a) (some b)=c.map V.int/\(@c:Int)<=b - a/\∀ m∈c,m∈as:=by
 let e:∃ c:d6,CH (~~~as) (some a) (some b)=c.map V.int/\∀ m∈c,m∈as:=by
  unfold CH;rw [<-List.map_drop,<-List.map_take];exact {1,λm h=>List.mem_of_mem_drop (Fj h)}
 let {c,e,d}:=e
 let l:((CH (~~~as) (some a) (some b)).length:Int)<=b - a:=by
  unfold CH HT.sIx;rw [Br,List.length_drop];simp only [jD (show ¬ a<0 by omega),jD (show ¬ b<0 by omega)];omega
 rw [e,AI] at l;exact ⟨c,e,l,d⟩
def nW {a b:Int} (d:a.natAbs<=15) (c:0<b) (e:b<=3):Cz 10 (Aq a b):=by
 let v:=Dp (n:=a) (m:=b) (AR c);refine {DO (AR c),?_};rcases (show b=1\/b=2\/b=3 by omega) with rfl | rfl | rfl
 .exact {a*60,by rw [v,Ck,show ((1:Int):Rat)=1 from rfl,show ((60:Int):Rat)=60 from rfl];ext,by unfold Bd;omega}
 .exact {a*30,by rw [v,Ck,show ((2:Int):Rat)=2 from rfl,show ((30:Int):Rat)=30 from rfl];ext,by unfold Bd;omega}
 .exact {a*20,by rw [v,Ck,show ((3:Int):Rat)=3 from rfl,show ((20:Int):Rat)=20 from rfl];ext,by unfold Bd;omega}
def nZ {x y z d:Int} (c:0<=d) (e:d<3) (a:x.natAbs<=15) (b:y.natAbs<=15) (hz:z.natAbs<=15):∃ w:Int,R_ [V.int x,V.int y,V.int z] d=some (.int w)/\w.natAbs<=15:=by
 rcases (show d=0\/d=1\/d=2 by omega) with rfl | rfl | rfl
 .exact ⟨x,rfl,a⟩
 .exact ⟨y,rfl,b⟩
 .exact ⟨z,rfl,hz⟩
structure Go (as:d6) (o:Addr) (H0:Hp) (i:Nat) (p:Int) (H:Hp):Prop where
 p0:0<=p
 p2:p<=2*i
 sm:Same H0 H
 ex:∃ us gs,H o^^^us/\Lal (Gx o H) us gs/\@gs=i/\∀ g∈gs,Gz g
def mC {K:W.Frag} {vs:cZ} {H:Hp} {Q:VK} {E:XK} (h:MI K vs H Q E):RJ K (eC Q) (L2.start ["_law_cell","_law_places","_law_groups_here","_law_at_here","_law_bottom","_law_many","_law_g","_law_size_here","_law_squares","_law_c"] vs) H:=by
 let {f,a,as,rfl,ha,A,q}:=h;let a6:=A.a6;show RJ K _ [some (.int f),↥a,none,none,none,none,none,none,none,none] _;refine A8 {GH,λo ho=>?_};let s1:=AM ho (.lst []);let h0:upd H o (.lst []) o^^^[]:=upd_same;show RI K _ [some (.int f),↥a,↥o,none,none,none,none,none,none,none] _;generalize upd H o (.lst [])=H1 at s1 h0 ⊢;refine A8 (I_ (A8 (Ax (I_ (Co (AS rfl (I_ (I_ ⟨f,2,3,rfl,`b,`b,`b,λe0 e1=>{3,?_}⟩))))))));generalize X' f 2 3=e at e0 e1 ⊢;show RH K _ [some (.int f),↥a,↥o,some (.int 0),some (.int (1+e)),none,none,none,none,none] H1;refine A8 (Co (AS rfl (I_ (I_ ⟨f,1,3,rfl,`b,`b,`b,λm0 m3=>?_⟩))));generalize X' f 1 3=m at m0 m3 ⊢;show RG K _ [some (.int f),↥a,↥o,some (.int 0),some (.int (1+e)),some (.int m),none,none,none,none] H1
 let go:∀ n:Int,0<=n->n<=6->RF K { nx:=λ_ B=>Q V.non B,rt:=Q } [some (.int f),↥a,↥o,some (.int 0),some (.int (1+e)),some (.int n),none,none,none,none] H1:=by
  intro n n0 n6;refine NA {1,n,2,`a,`a,ForR.by (λi σ B=>∃ (p:Int) (o6 o7 O M:c_),σ=[some (.int f),↥a,↥o,some (.int p),some (.int (1+e)),some (.int n),o6,o7,O,M]/\Go as o H i p B) {0,none,none,none,none,2,Int.le_refl _,`a,s1,[],[],h0,trivial,2,λ_ h=>nomatch h} ?_ ?_}
  .rintro i σ N hi ⟨p,o6,o7,O,M,rfl,p0,p2,s,P,gs,k,lg,gl,gz⟩;let i6:i<6:=by omega
   let ei:(0:Int)+(i:Int)=(i:Int):=Int.zero_add _;refine Ds ?_;rw [ei];show RE K _ [some (.int f),↥a,↥o,some (.int p),some (.int (1+e)),some (.int n),some (.int (i:Int)),o7,O,M] N;refine A8 (Ax (I_ (Co (AS rfl (Ax (I_ (AS rfl {3,I_ ⟨f,3+(i:Int),2,rfl,`a,`a,`b,λz0 z2=>{3,?_}⟩})))))));generalize X' f (3+(i:Int)) 2=z at z0 z2 ⊢;show RD K _ [some (.int f),↥a,↥o,some (.int p),some (.int (1+e)),some (.int n),some (.int (i:Int)),some (.int (1+z)),O,M] N;refine A8 (Te (FV (Co (AS rfl (Ax (I_ (AS rfl {3,I_ ⟨f,6+(i:Int),9,rfl,`a,`a,`b,λw0 w9=>{Cn,λl hl=>{l,2,{_,SqL.of upd_same},?_}}⟩})))))));generalize X' f (6+(i:Int)) 9=w at w0 w9 ⊢;let s2:=AM hl (.lst [.int w]);let h2:upd N l (.lst [.int w]) l=_:=upd_same;generalize upd N l (.lst [.int w])=H3 at s2 h2 ⊢;refine CompF.lst (xs:=[V.int w]) (λj R B=>B=H3/\j<=1/\R=(if j=0 then [] else if 0<w/\w<4 then [3*(i:Int)+w] else []).map V.int) {2,Ah _,2} ?_ ?_ ?_
   .rintro j R B ⟨rfl,hj,e⟩;refine {hj,sz ?_,SqL.of h2};rw [e,AI];split
    .exact Ah _
    .split
     .exact BK (AT 1) `b
     .exact Ah _
   .rintro j x R B hx ⟨rfl,hj,e⟩;let jl:=(A7.mp hx).1;let j0:j=0:=by have:j<1:=jl;omega
    subst j0;obtain rfl:=jL hx;rw [jE rfl] at e;subst e;refine Ds ?_;show Ap _ [some (.int w),some (.int (i:Int))] _ _;refine HE {8,1,Aa (λc1=>?_) (λc1=>?_)}
    .let c1:0<w:=jG c1;refine {3,1,Aa (λF=>?_) (λF=>?_)}
     .let F:w<4:=jG F;refine Ax (Ax (I_ (AS rfl {3,HC `b `b,8,2,AT _,?_})));rw [jD `b,jE ⟨c1,F⟩];rfl
     .let F:¬ w<4:=λz=>F (jF z);refine {2,AT _,?_};rw [jD `b,jD λz=>F z.2]
    .let c1:¬ 0<w:=λz=>c1 (jF z);refine {1,Aa (λc=>by cases c) (λ_=>{2,AT _,?_})};rw [jD `b,jD λz=>c1 z.1]
   rintro R B ⟨rfl,_,e5⟩ C G;rw [jD (show ¬ ([V.int w].length=0) from Nat.succ_ne_zero 0)] at e5
   let S:∀ m∈(if 0<w/\w<4 then [3*(i:Int)+w] else []),0<m/\m<=18:=by
    intro m T;split at T
    .rw [BM.mp T];omega
    .cases T
   let U:(if 0<w/\w<4 then [3*(i:Int)+w] else []).length<=1:=by
    split
    .exact AT 1
    .exact Ah _
   generalize (if 0<w/\w<4 then [3*(i:Int)+w] else [])=ss at e5 S U;subst e5;let s3:=AM G (.lst (~~~ss));let h3:upd B C (.lst (~~~ss)) C=_:=upd_same;let X:=s2.trans s3;show RA K _ [some (.int f),↥a,↥o,some (.int p),some (.int (1+e)),some (.int n),some (.int (i:Int)),some (.int (1+z)),↥C,M] _;generalize upd B C (.lst (~~~ss))=H4 at X h3 ⊢;refine A8 (Av (Ax (DS (AS rfl {(i:Int),2,`a,`a,λt x y v H5 s5 ht bx a2 bv=>Co (AS rfl (Ax (I_ (AS rfl {3,I_ ⟨f,9+(i:Int),3,rfl,`a,`a,`b,λd0 d3=>?_⟩}))))}))));generalize X' f (9+(i:Int)) 3=d at d0 d3 ⊢;let {u,eu,a3}:=nZ d0 d3 bx a2 bv;refine {t,d,3,ht,eu,1,u,1+e,2,`a,λc hc=>?_};let cz:=nW a3 (show 0<1+e by omega) `a;generalize Aq u (1+e)=I at cz ⊢;let s6:=AM hc (.tup [.int I.1,.int I.2]);let Y:upd H5 c (.tup [.int I.1,.int I.2]) c=_:=upd_same;let Z:=(s5.trans s6) _ _ h3;let D:=X.trans (s5.trans s6);show Q9 K _ [some (.int f),↥a,↥o,some (.int p),some (.int (1+e)),some (.int n),some (.int (i:Int)),some (.int (1+z)),↥C,↥c] _;generalize upd H5 c (.tup [.int I.1,.int I.2])=H6 at D Y Z ⊢;let {ms,em,lm,T}:=UT (as:=as) p0 (show p<=p+(1+z) by omega);refine Ey (JM rfl (Eb (D _ _ k)) (Pq (AS rfl {4,4,8,1,a,1,D _ _ (s _ _ ha),λr hr=>?_})));rw [em];let s7:=AM hr (.lst (~~~ms));let a0:upd H6 r (.lst (~~~ms)) r=_:=upd_same;let ro:r≠o:=λe=>by rw [e,D _ _ k] at hr;cases hr
   generalize upd H6 r (.lst (~~~ms))=H7 at s7 a0 ⊢;refine AS rfl {E4,λy hy=>?_};let s8:=AM hy (.tup [.ref c,.ref r,.ref C]);let a1:upd H7 y (.tup [.ref c,.ref r,.ref C]) y=_:=upd_same;generalize upd H7 y (.tup [.ref c,.ref r,.ref C])=H8 at s8 a1 ⊢;let J:=D.trans (s7.trans s8);let L:=J _ _ k;let lu:=@lg;refine {o,P,1,2,L,sz `a,?_};let tp:=Tp.updL (ys:=P++[V.ref y]) L;let so:C≠o:=λe=>by rw [e,s2 _ _ k] at G;cases G
   show Q8 K _ _ _;refine Eg (Ax {4,3,p+(1+z),some (.int (i:Int)),some (.int (1+z)),↥C,↥c,2,`a,`a,Kp.over (s.trans J) Kp.upd ho,P++[.ref y],gs++[(I,ms,ss)],upd_same,?_,by rw [Bf,gl];rfl,λg hg=>?_})
   .refine (lg.mono λ_ _ h=>(h.kp (λb o _ h=>J b o h) k).kp Kp.upd L).snoc {y,c,r,C,2,tp _ _ a1,tp _ _ ((s7.trans s8) _ _ Y),?_,?_,ro,so}
    .rw [AX ro];exact s8 _ _ a0
    .rw [AX so];exact (s7.trans s8) _ _ Z
   .rcases C5.mp hg with hg | hg
    .exact gz g hg
    .rw [BM.mp hg];exact {cz,by show @ms<=2;omega,λm h=>a6 m (T m h),U,S}
  .rintro σ N ⟨p,o6,o7,O,M,rfl,p0,p2,s,P,gs,k,lg,gl,gz⟩;exact B7 (AS rfl (q o gs N s {P,k,lg.mono λ_ _ h=>h.gh} {`a,gz}))
 refine Lm (HE (Ax (Co (AS rfl (I_ (I_ ⟨f,25,8,rfl,`b,`b,`b,λ_ _=>I_ {2,1,Aa (λ_=>?_) (λ_=>?_)}⟩))))))
 .exact Eg (I_ (go 6 `b `b))
 .exact go m m0 `a
def UU {n b:Int} (a:0<b):(Aq n b).2∣b/\(Aq n b).1.natAbs<=n.natAbs:=by
 let {g,e,c,d}:=GJ (DO (n:=n) (AR a)) a (Dp (AR a));refine {{g,d.trans (CK _ _)},?_};rw [show n.natAbs=(g*(Aq n b).1).natAbs from congrArg Int.natAbs c,Bp];exact GO _ `a
def mE {a b c d:V}:[a,b,c,d].length<=sizeLine:=sz (show (4:Nat)<=1000000 by decide)
def mF {d:Int} (a:0<=d) (b:d<4):∃ w:Int,R_ [V.int (-3),V.int (-1),V.int 2,V.int 5] d=some (.int w)/\w≠0/\w.natAbs<=5:=by
 rcases (show d=0\/d=1\/d=2\/d=3 by omega) with rfl | rfl | rfl | rfl
 .exact {-3,2,`b,`b}
 .exact {-1,2,`b,`b}
 .exact ⟨2,rfl,`b,`b⟩
 .exact ⟨5,rfl,`b,`b⟩
theorem Nums.snoc {H:Hp} {xs:cZ} {l:cQ} {v:V} {q:Nu} (h:Nums H xs l) (a:isN H v q):Nums H (xs++[v]) (l++[q]):=by
 induction xs generalizing l with
 | nil=>cases l with
   | nil=>exact ⟨a,trivial⟩
   | cons _ _=>exact h.elim
 | cons x xs b=>cases l with
   | nil=>exact h.elim
   | cons y l=>exact {h.1,b h.2}
def mG {sp:Sp} {b c tc:TE} {a:L2.St} {H:Hp} {Q:cZ->Hp->Prop} (h:b a H λx d=>c a d λy e=>tc a e λz f=>sp [x,y,z] f (λv g=>Q [v] g) E0):(AB (AL sp [] E0 (AB b (AB c (AB tc AC)))) AC:TA) a H Q:=h
def dw1 (c:Int):0<1+X' c 17 3:=by
 have:0<=X' c 17 3:=Ca _ `b;omega
def dw3 (c:Int):1+X' c 17 3<=3:=by
 have:X' c 17 3<3:=Ci _ `b;omega
def mH {K:W.Frag} {vs:cZ} {H:Hp} {Q:VK} {E:XK} (h:MJ K vs H Q E):RS K (eC Q) (L2.start ["_law_cell","_law_places","_law_many","_law_row","_law_poles","_law_j","_law_top"] vs) H:=by
 let {c,a,as,rfl,ha,A,q}:=h;let al:=A.len;show RS K _ [some (.int c),↥a,none,none,none,none,none] _;refine A8 (Co (AS rfl (I_ (I_ ⟨c,12,5,rfl,`b,`b,`b,λm0 m5=>?_⟩))));generalize X' c 12 5=m at m0 m5 ⊢;show RQ K _ [some (.int c),↥a,some (.int m),none,none,none,none] H;let {B,eB}:∃ B,B=1+X' c 17 3:={1};refine A8 (US {1,m,2,`a,`a,CompJ.range (λi v g=>i<=m.toNat/\Same H g/\@v=i/\∃ f:cQ,Nums g v f/\@f=i/\∀ q∈f,Low q.1 q.2/\q.2∣B/\q.1.natAbs<=5) {Ah _,Same.refl _,2,[],trivial,2,λ_ h=>nomatch h} ?_ ?_ ?_})
 .rintro i v g ⟨M,s,yl,_⟩;exact {M,sz `a}
 .rintro i v g M ⟨_,s,yl,f,N,rl,hr⟩;let ei:(0:Int)+(i:Int)=(i:Int):=Int.zero_add _;refine Ds ?_;rw [ei];show AL _ _ _ _ [some (.int (i:Int)),some (.int c)] _ _;refine Av (Ax (Co (AS rfl (Ax (I_ (AS rfl {3,I_ {c,13+(i:Int),11,2,`a,`a,`b,λS a0=>I_ {3,Ax (I_ (Co (AS rfl (I_ (I_ ⟨c,17,3,rfl,`b,`b,`b,λe0 e3=>{3,?_}⟩)))))}}}))))));rw [<-eB];let B0:0<B:=by omega
  generalize X' c (13+(i:Int)) 11=d at S a0 ⊢;refine {d - 5,B,2,`a,λr a1=>?_};let {g1,g2}:=UU (n:=d - 5) B0;let sr:=AM a1 (.tup [.int (Aq (d - 5) B).1,.int (Aq (d - 5) B).2]);refine {M,s.trans sr,by rw [Bf,yl];rfl,f++[Aq (d - 5) B],(N.tp (F_ sr)).snoc ⟨r,rfl,upd_same⟩,by rw [Bf,rl];rfl,λq L=>?_};rcases C5.mp L with L | L
  .exact hr q L
  .rw [BM.mp L];exact {DO `a,g1,`a}
 rintro v H1 ⟨_,O,yl,f,N,rl,G⟩ w hw;let sw:=AM hw (.lst v);let C:upd H1 w (.lst v) w^^^v:=upd_same;let O:=O.trans sw;let N:=N.tp (F_ sw);show RP K _ [some (.int c),↥a,some (.int m),↥w,none,none,none] _;generalize upd H1 w (.lst v)=H2 at O C N ⊢;refine A8 {GH,λo T=>?_};let s2:=AM T (.lst []);let h0:upd H2 o (.lst []) o^^^[]:=upd_same;show RN K _ [some (.int c),↥a,some (.int m),↥w,↥o,none,none] _;generalize upd H2 o (.lst [])=H3 at s2 h0 ⊢;let s3:=O.trans s2
 let a2:H o=none:=by
  cases e:H o with
  | none=>rfl
  | some x=>have:=O _ _ e;rw [T] at this;cases this
 let wo:w≠o:=λe=>by rw [e,T] at C;cases C
 let {D,eD}:∃ D,D=X' c 21 6:={1};refine NA (mG (AS rfl (I_ (I_ ⟨c,18,3,rfl,`b,`b,`b,λn0 n3=>{1,`a,`a,?_}⟩))));generalize X' c 18 3=n at n0 n3 ⊢;refine ForR.by (λi σ g=>∃ (U P:c_) (I:cZ) (ps:List Pp),σ=[some (.int c),↥a,some (.int m),↥w,↥o,U,P]/\Same H g/\Kp o H2 g/\g o^^^I/\Lal (Ph g) I ps/\@ps=i/\(∀ p∈ps,Pz p)/\∀ k p,ps[k]?=some p->0<=D/\D<6/\p.2.1=as.getD (5*k+D.toNat) 0) {none,none,[],[],2,s3,λb x _ h=>s2 b x h,h0,trivial,2,(λ_ h=>nomatch h),λ_ _ h=>nomatch h} ?_ ?_
 .rintro i σ X M ⟨U,P,I,ps,rfl,s,kp,Y,Z,pl,pz,pq⟩;let i2:i<2:=by omega
  let ei:(0:Int)+(i:Int)=(i:Int):=Int.zero_add _;refine Ds ?_;rw [ei];show RL K _ [some (.int c),↥a,some (.int m),↥w,↥o,some (.int (i:Int)),P] X;refine A8 (Ax {4,mE,λt ht=>Co (AS rfl (Ax (I_ (AS rfl {3,I_ ⟨c,19+(i:Int),4,rfl,`a,`a,`b,λS d4=>?_⟩}))))});generalize X' c (19+(i:Int)) 4=d at S d4 ⊢;let {u,eu,u0,u5}:=mF S d4;let st:=AM ht (.tup [.int (-3),.int (-1),.int 2,.int 5]);refine {t,d,3,upd_same,eu,?_};show RK K _ [some (.int c),↥a,some (.int m),↥w,↥o,some (.int (i:Int)),some (.int u)] _;generalize upd X t (.tup [.int (-3),.int (-1),.int 2,.int 5])=H5 at st ⊢;refine JM rfl (Eb (st _ _ Y)) (Pq (AS rfl (Ax {1,Ax (Ax (I_ (AS rfl {3,HC `b `b,Co (AS rfl (I_ (I_ ⟨c,21,6,rfl,`b,`b,`b,λg0 g6=>{3,?_}⟩)))})))})));rw [<-eD] at g0 g6 ⊢;let ja:(5*i+D.toNat)<@as:=by omega
  refine {a,9,.int (as.getD (5*i+D.toNat) 0),7,st _ _ (s _ _ ha),DQ (j:=5*i+D.toNat) `a ?_,Ax (I_ (Co (AS rfl (Ax (I_ (AS rfl {3,I_ ⟨c,22+(i:Int),3,rfl,`a,`a,`b,λk0 k3=>{3,E4,λy hy=>?_}⟩}))))))}
  .rw [Ae,AU,Ak ja];rfl
  generalize X' c (22+(i:Int)) 3=k at k0 k3 ⊢;let {J,ek}:∃ J:Nat,1+k=(J:Int):={(1+k).toNat,`a};rw [ek];let sy:=AM hy (.tup [.int u,.int (as.getD (5*i+D.toNat) 0),.int (J:Int)]);let R:upd H5 y (.tup [.int u,.int (as.getD (5*i+D.toNat) 0),.int (J:Int)]) y=_:=upd_same;generalize upd H5 y (.tup [.int u,.int (as.getD (5*i+D.toNat) 0),.int (J:Int)])=H6 at sy R ⊢;let F:=st.trans sy;let h6:=F _ _ Y;let lu:=@Z;let tp:=Tp.updL (ys:=I++[V.ref y]) h6;refine {o,I,1,2,h6,sz `a,some (.int (i:Int)),some (.int u),I++[.ref y],ps++[(u,as.getD (5*i+D.toNat) 0,J)],2,Kp.over (s.trans F) Kp.upd a2,λb x nb h=>(AX nb).trans (F _ _ (kp b x nb h)),upd_same,(Z.mono λ_ _ h=>(h.tp (F_ F)).tp tp).snoc {y,2,tp _ _ R},by rw [Bf,pl];rfl,λp hp=>?_,λj p hp=>?_}
  .rcases C5.mp hp with hp | hp
   .exact pz p hp
   .rw [BM.mp hp];refine {u0,u5,A.a6 _ ?_,by show 1<=J;omega,by show J<=3;omega};rw [AU,Ak ja];exact Cu ja
  .rcases BY j @ps with z | z
   .rw [HH z] at hp;exact pq j p hp
   .let jl:=(A7.mp hp).1;rw [Bf] at jl;let jl:j<@ps+1:=jl;let ej:j=i:=by omega
    subst ej;rw [List.getElem?_append_right z,pl,Nat.sub_self] at hp;obtain rfl:=jL hp;exact ⟨g0,g6,rfl⟩
 .rintro σ X ⟨U,P,I,ps,rfl,s,kp,Y,Z,pl,pz,pq⟩;let B0:∀ q∈f,q.2∣B:=λq L=>(G q L).2.1;show RM K _ [some (.int c),↥a,some (.int m),↥w,↥o,U,P] X;refine B7 (Be (AS rfl (AS rfl {BJ,λr hr=>?_})));let sr:=AM hr (.tup [.ref w,.ref o]);refine q r f ps _ (s.trans sr) {w,o,v,I,upd_same,sr _ _ (kp _ _ wo C),(N.tp λb xs h=>?_).tp (F_ sr),sr _ _ Y,Z.mono λ_ _ h=>h.tp (F_ sr)} {`a,B,?_,?_,G} {`a,pz,?_}
  .exact kp _ _ (λz=>by rw [z,T] at h;cases h) h
  .rw [eB];exact dw1 c
  .rw [eB];exact dw3 c
  .refine List.pairwise_iff_getElem.mpr λi j M hj ij=>?_;let e0:i=0:=by omega
   let e1:j=1:=by omega
   subst e0 e1;let {D0,D6,p0}:=pq 0 _ (Ak M);let {_,_,p1}:=pq 1 _ (Ak hj);rw [p0,p1,Nat.mul_zero,Nat.zero_add,Nat.mul_one];exact A.ne _ `a
noncomputable def AF (f:Int):d6:=(List.range 13).map λj:Nat=>(f+5*(j:Int)) % 13 - 6
def mI (f:Int):Az (AF f):=by
 let g:∀ k,k<13->(AF f).getD k 0=(f+5*(k:Int)) % 13 - 6:=λk hk=>by
  unfold AF;rw [AU,Ae,Dk hk];rfl
 refine {by unfold AF;rw [AI,BZ],λa b=>?_,λd c=>?_}
 .let {j,_,rfl}:=Au.mp b;omega
 .rw [g d `a,g (5+d) `a];push_cast;omega
def mJ {K:W.Frag} {vs:cZ} {H:Hp} {Q:VK} {E:XK} (h:MK K vs H Q E):RV K (eC Q) (L2.start ["_law_cell","_law_first","_law_places"] vs) H:=by
 let {b,rfl,q}:=h;show RV K _ [some (.int b),none,none] _;refine A8 (Co (AS rfl (I_ (I_ {b,0,13,2,`b,`b,`b,λy m=>?_}))));generalize X' b 0 13=f at y m ⊢;show RU K _ [some (.int b),some (.int f),none] _;refine A8 (US {13,2,`b,`b,CompJ.range (λi d c=>c=H/\i<=13/\d=((List.range i).map λj:Nat=>(f+5*(j:Int)) % 13 - 6).map V.int) {2,Ah _,2} ?_ ?_ ?_})
 .rintro i d c ⟨rfl,n,e⟩;exact {n,sz (by rw [e,AI,AI,BZ];omega)}
 .rintro i d c n ⟨rfl,_,e⟩;let z:(0:Int)+(i:Int)=(i:Int):=Int.zero_add _;refine Ds ?_;rw [z];show A_ _ _ _ [some (.int (i:Int)),some (.int f)] _ _;refine Ax (Ax (Ax (AS rfl (Ax (I_ (AS rfl {3,HC `b `b,3,I_ {3,`b,I_ {3,2,n,?_}}}))))));rw [List.range_succ,B9,B9,e];rfl
 rintro d v ⟨rfl,_,e⟩ a B;obtain rfl:d=(AF f).map V.int:=e;let o:=AM B (.lst ((AF f).map V.int));let k:upd v a (.lst ((AF f).map V.int)) a=_:=upd_same;let A:=mI f;generalize AF f=as at o k A ⊢;show RT K _ [some (.int b),some (.int f),↥a] _;generalize upd v a (.lst (~~~as))=I at o k ⊢;refine B7 (Be (Av (AS rfl (AS rfl {b,a,as,2,k,A,λg C J w D G=>Av (AS rfl (AS rfl {b,a,as,2,w _ _ k,A,λp u ps L x hp R P=>{BJ,λr F=>?_}}))}))));let sr:=AM F (.tup [.ref g,.ref p]);exact q r C u ps _ (o.trans (w.trans (x.trans sr))) {g,p,upd_same,D.tq (Tq.of (x.trans sr)),hp.tq (Tq.of sr)} G R P
theorem UV {c:Type} [Lean.Grind.CommRing c] (x:c) (b:Nat->c):∀ (a:List c) (k:Nat),cvL (a++[x]) b k=cvL a b k+(if @a<=k then x*b (k - @a) else 0)
 | [],0=>by show x*b 0+0=0+(if 0<=0 then x*b 0 else 0);rw [jE (AT 0)];ext
 | [],k+1=>by show x*b (k+1)+0=0+(if 0<=k+1 then x*b (k+1) else 0);rw [jE (Ah _)];ext
 | y::a,0=>by
   show y*b 0+0=y*b 0+0+(if @a+1<=0 then _ else 0);rw [jD `a];ext
 | y::a,k+1=>by
   show y*b (k+1)+cvL (a++[x]) b k=y*b (k+1)+cvL a b k+(if @a+1<=k+1 then x*b (k+1 - (@a+1)) else 0);rw [UV x b a k,show k+1 - (@a+1)=k - @a by omega];let e:(@a+1<=k+1)↔(@a<=k):=by omega
   simp only [e];ext
theorem UW (a b:d6) (k:Nat):∀ i,i<=@a->ps a b i k=cvL (a.take i) (co b) k
 | 0,_=>rfl
 | i+1,h=>by
   let c:i<@a:=by omega
   show ps a b i k+_=_;rw [UW a b k i `a,EU,Ak c,Option.toList_some,UV,Br,Nat.min_eq_left `a];congr 1;let e:a.getD i 0=a[i]:=by rw [AU,Ak c];rfl
   rw [e];by_cases c1:i<=k
   .rw [jE c1];by_cases d:k - i<@b
    .rw [jE ⟨c1,d⟩];rfl
    .rw [jD (λz=>d z.2),Ao `a];omega
   .rw [jD (λz=>c1 z.1),jD c1]
def UX (a b:d6) (k:Nat):ps a b @a k=cvL a (co b) k:=by rw [UW a b k _ (AT _),Bh]
def atG {xs:d6} {i:Nat} (h:i<@xs) {k:Int} (e:k=(i:Int)):R_ (~~~xs) k=some (.int (xs.getD i 0)):=DQ e (by
 rw [Ae,AU,Ak h];rfl)
def mK {b:TA} {g:TG} {c:TS} {D:Ends} {a:L2.St} {H:Hp} (h:b a H (λd e=>∃ j:Int,d=[.int j]/\-(2 ^ 62)<=j/\j<2 ^ 62/\ForR 0 j.toNat g c D a e)):BH (DM b) g c D a H:=h
def mM {K:W.Frag} {vs:cZ} {H:Hp} {Q:VK} {E:XK} (h:Kb K vs H Q E):Q7 K (eC Q) (L2.start ["_law_one","_law_other","_law_row","_law_i","_law_j"] vs) H:=by
 let {u,v,c,f,rfl,A,B,x0,y0,P,R,S,C,k}:=h;show Q7 K _ [↥u,↥v,none,none,none] _;refine A8 (Ax (FV (I_ {Cn,λa T=>?_})));let n:=AM T (.lst [.int 0]);let p:=n _ _ A;let q:=n _ _ B;let r:upd H a (.lst [.int 0]) a=_:=upd_same;generalize upd H a (.lst [.int 0])=N at n p q r ⊢;let U:((List.map V.int c).length:Int)+((List.map V.int f).length:Int) - 1=((@c+@f - 1:Nat):Int):=by rw [AI,AI];omega
 refine {1,6,p,1,6,q,3,3,9,1,congrArg V.int U,r,`a,`a,sz (by simp;omega),λw D=>?_};rw [EB,Kg];generalize F:@c+@f - 1=L at D ⊢;let X:=AM D (.lst (A5 L λ_=>0))
 let Y:H w=none:=by
  cases e:H w with
  | none=>rfl
  | some o=>let z:=n _ _ e;rw [D] at z;cases z
 let x:upd N w (.lst (A5 L λ_=>0)) w=_:=upd_same;show Q6 K _ [↥u,↥v,↥w,none,none] _;let G:=n.trans X;generalize upd N w (.lst (A5 L λ_=>0))=H2 at G x ⊢;refine NA {1,u,1,G _ _ A,1,by rw [AI];omega,by rw [AI];omega,?_};rw [EB,AI];refine ForR.by (λi m d=>∃ I g:c_,m=[↥u,↥v,↥w,I,g]/\Same H d/\d w^^^(A5 L λk=>ps c f i k)) ⟨none,none,rfl,G,x⟩ ?_ ?_
 .rintro i m d Z ⟨I,g,rfl,s,J⟩;let ei:(0:Int)+(i:Int)=(i:Int):=Int.zero_add _;refine Ds ?_;rw [ei];show BH _ _ _ _ [↥u,↥v,↥w,some (.int (i:Int)),g] d;refine mK {1,v,1,s _ _ B,1,by rw [AI];omega,by rw [AI];omega,?_};rw [EB,AI];refine ForR.by (λj m d=>∃ g:c_,m=[↥u,↥v,↥w,some (.int (i:Int)),g]/\Same H d/\d w^^^(A5 L λk=>be c f i j k)) {g,2,s,by rw [J];exact congrArg (λl=>some (HO.lst l)) (Hw λk _=>(PB c f i k))} ?_ ?_
  .rintro j m O hj ⟨g,rfl,s,y⟩;let ej:(0:Int)+(j:Int)=(j:Int):=Int.zero_add _;refine Ds ?_;rw [ej];let M:i+j<L:=by omega
   show AN _ _ _ [↥u,↥v,↥w,some (.int (i:Int)),some (.int (j:Int))] O;refine {4,8,w,_,3,y,DQ `a (Di _ M),4,u,_,3,s _ _ A,atG Z rfl,4,v,_,3,s _ _ B,atG hj rfl,3,GF (E2 S i) (E2 C j),3,4,8,w,9,i+j,7,y,?_,some (.int (j:Int)),2,λb o h=>Kp.upd b o (A3 h Y) (s b o h),upd_same.trans (congrArg (λl=>some (HO.lst l)) ?_)}
   .rw [Dt];exact GE `a M
   .refine Gy M ?_ λk _ hk=>?_
    .rw [J1,jE rfl]
    .rw [J1,jD hk]
  .rintro m O ⟨g,rfl,s,y⟩;exact {6,s,y}
 .rintro m d ⟨I,g,rfl,s,h'⟩
  let ck:∀ k,co ((List.range L).map λk=>ps c f @c k) k=ps c f @c k:=λk=>by
   unfold co;rw [AU,Ae];by_cases hk:k<L
   .rw [Dk hk];rfl
   .rw [B8 (by rw [BZ];omega),J2 _ _ `a];rfl
  let cl:((List.range L).map λk=>ps c f @c k).length=L:=by rw [AI,BZ]
  exact B7 (AS rfl (k w _ d s h' (by rw [cl,F]) λk=>(ck k).trans (UX c f k)))
def mO {K:W.Frag} {vs:cZ} {H:Hp} {Q:VK} {E:XK} (h:Kd K vs H Q E):wT K (eC Q) (L2.start ["_law_row"] vs) H:=by
 let {u,f,rfl,m,o,k}:=h;refine B7 (EK (FW {1,u,2,{_,SqL.of m},CompJ.lst (xs:=f.map V.int) (λi b d=>i<=@f/\Same H d/\@b=i/\Nums d b ((f.take i).map λn=>(n,1))) {Ah _,Same.refl _,2,trivial} ?_ ?_ ?_}))
 .rintro i b d ⟨q,s,g,_⟩;exact {by rw [AI];exact q,sz `a,SqL.of (s _ _ m)}
 .rintro i x b d j ⟨q,s,g,c⟩;let r:=(A7.mp j).1;rw [AI] at r;rw [Ae] at j;let {a,B,rfl}:=EO.mp j;refine Ds ?_;show Ai _ [some (.int a)] _ _;refine Be (AS rfl (I_ {BJ,λz C=>?_}));let v:=AM C (.tup [.int a,.int 1]);refine {r,s.trans v,by rw [Bf,g];rfl,?_};rw [Cr B,B9];exact (c.tp (F_ v)).snoc ⟨z,rfl,upd_same⟩
 .rintro b w ⟨_,s,g,c⟩ p hp;rw [AI,Bh] at c;let y:=AM hp (.lst b);let e:upd w p (.lst b) p=_:=upd_same;let c:=c.tp (F_ y);let s:=s.trans y;generalize upd w p (.lst b)=F at s e c ⊢;refine {p,b,2,e,λl D=>?_};let A:=AM D (.tup b);exact k l _ (s.trans A) {b,upd_same,c.tp (F_ A)}
theorem c1 (g:dq) (k:Nat):cvL [1] g k=g k:=by
 rw [F7];cases k with
 | zero=>show 1*g 0+0=g 0;omega
 | succ k=>show 1*g (k+1)+0=g (k+1);omega
def cA (a:Int) (g:dq) (k:Nat):cvL [-a,1] g (k+1) = -a*g (k+1)+g k:=by rw [As,c1]
def cS (m:Int) (g:dq) (k:Nat):cvL [m,0,1] g (k+2)=m*g (k+2)+g k:=by
 rw [As,As,c1];show m*g (k+2)+(0*g (k+1)+g k)=_;rw [Int.zero_mul,Int.zero_add]
def NC (xs ys:d6) (k:Nat):cvL xs (co ys) k=cvL ys (co xs) k:=by
 let a:∀ k,co ys k=cvL ys Ay k:=λk=>(DH ys k).symm;let b:∀ k,cvL xs Ay k=co xs k:=λk=>DH xs k;rw [BR a,Hj,BR b]
def UY {xs ys a:d6} {c d:Nat} (e:∀ k,co a k=cvL xs (co ys) k) (f:∀ z∈xs,Bd c z) (b:∀ z∈ys,Bd d z):∀ z∈a,Bd (d+c+@ys) z:=λz g=>by
 let {j,h,rfl}:=ET g;have:a[j]=co a j:=by unfold co;rw [AU,Ak h];rfl
 rw [this,e,NC,<-UX];exact LZ b f _ _
theorem UZ (x:Rat) (a:Int):∀ l:d6,vA x (l++[a])=vA x l*(x - (a:Rat))
 | []=>by show (x - (a:Rat))*1=1*(x - (a:Rat));ext
 | y::l=>by show (x - (y:Rat))*vA x (l++[a])=(x - (y:Rat))*vA x l*(x - (a:Rat));rw [UZ x a l];ext
theorem Ua (x:Rat) (m:Int):∀ l:d6,vS x (l++[m])=vS x l*(x*x+(m:Rat))
 | []=>by show (x*x+(m:Rat))*1=1*(x*x+(m:Rat));ext
 | y::l=>by show (x*x+(y:Rat))*vS x (l++[m])=(x*x+(y:Rat))*vS x l*(x*x+(m:Rat));rw [Ua x m l];ext
def Vz.A {as ns c:d6} {a:Int} (h:Vz as [] ns) (j:a.natAbs<=6) (l:@c=@ns+2 - 1) (e:∀ k,co c k=cvL ns (co [-a,1]) k):Vz (as++[a]) [] c:=by
 let g:@ns=1+@as+2*0:=h.len;let f:=h.lz;let i:@ns=(@ns - 1)+1:=by omega
 refine {by rw [l,g,Bf];show 1+@as+2*0+2 - 1=1+(@as+1)+2*0;omega,λz b=>(UY e h.bd (d:=3) (λz b=>?_) z b).mono ?_,?_,λx=>?_}
 .rcases CP.mp b with rfl | b
  .unfold Bd;omega
  .rw [BM.mp b];unfold Bd;decide
 .show 3+(1+8*(@as+0))+2<=1+8*((as++[a]).length+0);rw [Bf];show _<=1+8*(@as+1+0);omega
 .rw [e,NC,l,show @ns+2 - 1 - 1=(@ns - 1)+1 by omega,cA,f,<-i,Ao (AT _)];omega
 .rw [IC e,Sr.at_mul (CF _) (CF _),h.ev,UZ,D3 [-a,1],Sr.at_L];show _*(((-a:Int):Rat)+x*(((1:Int):Rat)+x*0))=_;rw [Rat.intCast_neg,show ((1:Int):Rat)=1 from rfl];show vA x as*1*_=vA x as*_*1;ext
def Vz.S {as a ns c:d6} {m:Int} (h:Vz as a ns) (j:0<m/\m<=18) (l:@c=@ns+3 - 1) (e:∀ k,co c k=cvL ns (co [m,0,1]) k):Vz as (a++[m]) c:=by
 let g:=h.len;let f:=h.lz;let i:@ns+1=(@ns - 1)+2:=by omega
 refine {by rw [l,g,Bf];show 1+@as+2*@a+3 - 1=1+@as+2*(@a+1);omega,λz b=>(UY e h.bd (d:=5) (λz b=>?_) z b).mono ?_,?_,λx=>?_}
 .rcases CP.mp b with rfl | b
  .unfold Bd;omega
  .rcases CP.mp b with rfl | b
   .unfold Bd;decide
   .rw [BM.mp b];unfold Bd;decide
 .show 5+(1+8*(@as+@a))+3<=1+8*(@as+(a++[m]).length);rw [Bf];show _<=1+8*(@as+(@a+1));omega
 .rw [e,NC,l,show @ns+3 - 1 - 1=(@ns - 1)+2 by omega,cS,f,<-i,Ao `a];omega
 .rw [IC e,Sr.at_mul (CF _) (CF _),h.ev,Ua,D3 [m,0,1],Sr.at_L];show _*((m:Rat)+x*(((0:Int):Rat)+x*(((1:Int):Rat)+x*0)))=_;rw [show ((1:Int):Rat)=1 from rfl,show ((0:Int):Rat)=0 from rfl];ext
def Vz.nil:Vz [] [] [1]:={rfl,λz a=>by rw [BM.mp a];unfold Bd;decide,rfl,λx=>by
 rw [D3 [1],Sr.at_L];show ((1:Int):Rat)+x*0=1*1;rw [show ((1:Int):Rat)=1 from rfl];ext}
def mP {K:W.Frag} {vs:cZ} {H:Hp} {Q:VK} {E:XK} (h:Kc K vs H Q E):RY K (eC Q) (L2.start ["_law_places","_law_squares","_law_row","_law_a","_law_m"] vs) H:=by
 let {u,v,as,R,rfl,S,T,a3,m1,U,D,k}:=h;show RY K _ [↥u,↥v,none,none,none] _;refine A8 (FV (I_ {Cn,λr X=>?_}));let F:=AM X (.lst [.int 1]);let y:upd H r (.lst [.int 1]) r=_:=upd_same;show RX K _ [↥u,↥v,↥r,none,none] _;generalize upd H r (.lst [.int 1])=H1 at F y ⊢;refine GI {1,u,2,{_,SqL.of (F _ _ S)},ForL.by (xs:=as.map V.int) (λi g f=>∃ (r:Addr) (b:d6) (d e:c_),g=[↥u,↥v,↥r,d,e]/\Same H f/\f r^^^(~~~b)/\Vz (as.take i) [] b) {r,[1],none,none,2,F,y,Vz.nil} ?_ ?_ ?_}
 .rintro i g f _ ⟨_,_,_,_,_,s,_⟩;exact SqL.of (s _ _ S)
 .rintro i x g j A ⟨r,b,d,e,rfl,s,o,z⟩;rw [Ae] at A;let {a,G,rfl}:=EO.mp A;let Y:=(A7.mp G).1;let B:=z.len;rw [Br] at B;let B:@b=1+min i @as+2*0:=B;let Z:=U a (BT G);refine Ds ?_;show AN _ _ _ [↥u,↥v,↥r,some (.int a),e] j;refine Eg (Av (AS rfl (zR {4,I_ {BJ,λq I=>?_}})));let C:=AM I (.lst [.int (-a),.int 1]);refine {r,q,b,[-a,1],2,C _ _ o,upd_same,`a,Nat.le_add_left 1 1,`a,show 2<=20 by decide,λp c=>(z.bd p c).mono ?_,λp c=>?_,λw J H3 L M N O=>{w,J,6,s.trans (C.trans L),M,?_}}
  .rw [Br];show 1+8*(min i @as+0)<=1000;omega
  .rcases CP.mp c with rfl | c
   .exact (D4 (a:=-a) (n:=6) `a).mono `b
   .rw [BM.mp c];exact Bd.one.mono `b
  .rw [Cr G];exact z.A Z N O
 rintro g j ⟨r,b,d,e,rfl,s,o,z⟩;rw [AI,Bh] at z;show RW K _ [↥u,↥v,↥r,d,e] j;refine GI {1,v,2,{_,SqL.of (s _ _ T)},ForL.by (xs:=R.map V.int) (λi g f=>∃ (r:Addr) (b:d6) (d e:c_),g=[↥u,↥v,↥r,d,e]/\Same H f/\f r^^^(~~~b)/\Vz as (R.take i) b) ⟨r,b,d,e,rfl,s,o,z⟩ ?_ ?_ ?_}
 .rintro i g f _ ⟨_,_,_,_,_,s,_⟩;exact SqL.of (s _ _ T)
 .rintro i x g j A ⟨r,b,d,e,rfl,s,o,z⟩;rw [Ae] at A;let {m,P,rfl}:=EO.mp A;let Y:=(A7.mp P).1;let B:=z.len;rw [Br] at B;let mm:=D m (BT P);refine Ds ?_;show AN _ _ _ [↥u,↥v,↥r,d,some (.int m)] j;refine Eg (Av (AS rfl (TV (AS rfl (I_ (I_ {E4,λq I=>?_}))))));let C:=AM I (.lst [.int m,.int 0,.int 1]);refine {r,q,b,[m,0,1],2,C _ _ o,upd_same,`a,Nat.le_add_left 1 2,`a,show 3<=20 by decide,λp c=>(z.bd p c).mono ?_,λp c=>?_,λw J H3 L M N O=>{w,J,6,s.trans (C.trans L),M,?_}}
  .rw [Br];omega
  .rcases CP.mp c with rfl | c
   .exact (D4 (a:=p) (n:=18) `a).mono `b
   .rcases CP.mp c with rfl | c
    .exact DF _
    .rw [BM.mp c];exact Bd.one.mono `b
  .rw [Cr P];exact z.S mm N O
 .rintro g j ⟨r,b,d,e,rfl,s,o,z⟩;rw [AI,Bh] at z;exact B7 (AS rfl (k r b j s o z))
theorem Ub (f:dt) (n:Nat) (x:Rat):∀ d,d<=n->au f n x d=Sr.ev (((List.range n).map f).drop (n - d)) x
 | 0,_=>by rw [Nat.sub_zero,List.drop_eq_nil_of_le (by rw [AI,BZ];exact AT _)];rfl
 | d+1,h=>by
   rw [Tl,Ub f n x d `a]
   let e:((List.range n).map f).drop (n - (d+1))=f (n - 1 - d)::((List.range n).map f).drop (n - d):=by
    rw [List.drop_eq_getElem_cons (by rw [AI,BZ];omega),show n - (d+1)+1=n - d by omega];congr 1;rw [List.getElem_map,List.getElem_range,show n - (d+1)=n - 1 - d by omega]
   rw [e];rfl
def ND (l:cQ) (x:Rat):ah l x=Sr.at' (sr l) x:=by
 unfold ah;rw [Kq,Sr.at_L,Ub _ _ _ _ (AT _),Nat.sub_self];rfl
def mQ (x:Rat) (l:cQ):Sr.at' (sr l) x=eR x l:=by
 let e:rw' l=l.map val:=by
  unfold rw';refine List.ext_getElem (by rw [AI,AI,BZ]) λi c a=>?_;rw [AI] at a;rw [List.getElem_map,List.getElem_map,List.getElem_range];unfold C_ Ad;rw [AU,Ak a];rfl
 let g:∀ l:cQ,Sr.ev (l.map val) x=eR x l:=λl=>by
  induction l with
  | nil=>rfl
  | cons q l b=>show val q+x*Sr.ev (l.map val) x=_;rw [b];rfl
 rw [Kq,Sr.at_L,e,g]
theorem NE (ns:d6):sr (ns.map λn=>(n,1))=si ns:=Sr.ext' λk=>by
 show val (Ad _ k)=((co ns k:Int):Rat);unfold Ad co;rw [AU,Ae,AU];cases ns[k]? with
 | none=>exact HD 0
 | some n=>exact HD n
def K2 {b:Nat} (e:1<=b) {ns:d6} (h:∀ z∈ns,Bd b z) (l:∀ n,ns.getLast?=some n->n≠0):Gq b b (ns.map λn=>(n,1)):=by
 refine ⟨λq a=>?_,λq a=>?_,1,{DC,λq a=>?_},Bd.one.mono e,λz c=>?_⟩
 .let {n,_,rfl}:=Au.mp a;exact UQ n
 .rw [List.getLast?_map] at a;let {n,d,rfl}:=EO.mp a;exact l n d
 .let {n,_,rfl}:=Au.mp a;exact Int.one_dvd 1
 .unfold S_ at c;rw [DW] at c;let {n,d,rfl}:=Au.mp c;show Bd b (n*(1 / 1));rw [show (1:Int) / 1=1 by decide,Int.mul_one];exact h n d
def Vz.last {as a ns:d6} (h:Vz as a ns):∀ n,ns.getLast?=some n->n≠0:=λn b=>by
 let e:=h.lz;unfold co at e;rw [AU,<-GP,b] at e;let e:n=1:=e;rw [e];decide
theorem Uc (x:Rat) (a:Int):∀ k:Nat,vA x (List.replicate k a)=(x - (a:Rat)) ^ k
 | 0=>(Rat.pow_zero _).symm
 | k+1=>by
   show (x - (a:Rat))*vA x (List.replicate k a)=_;rw [Uc x a k,Rat.pow_succ];ext
structure Rl (row:cQ) (ps:List Pp) (N D:Sr):Prop where
 pN:Sr.Pol N
 pD:Sr.Pol D
 z:∀ x,Sr.at' D x=0↔∃ p∈ps,x=(p.2.1:Rat)
 e:∀ x,Sr.at' D x≠0->Sr.at' N x=aQ x ps (eR x row)*Sr.at' D x
 n:∀ x,Sr.at' D x=0->Sr.at' N x≠0
def rmul0 {a b:Rat}:a*b=0↔a=0\/b=0:=Rat.mul_eq_zero
def Rl.step {row:cQ} {ps:List Pp} {N D m d:Sr} (h:Rl row ps N D) {p:Pp} (u:∀ q∈ps,q.2.1≠p.2.1) (o:Pz p) (f:Sr.Pol m) (a:Sr.Pol d) (z:∀ x,Sr.at' m x=(p.1:Rat)) (r:∀ x,Sr.at' d x=(x - (p.2.1:Rat)) ^ p.2.2):Rl row (ps++[p]) (N*d+m*D) (D*d):=by
 let E:=o.k1
 let v:∀ x,Sr.at' (N*d+m*D) x=Sr.at' N x*(x - (p.2.1:Rat)) ^ p.2.2+(p.1:Rat)*Sr.at' D x:=λx=>by
  rw [Sr.at_add (h.pN.mul a) (f.mul h.pD),Sr.at_mul h.pN a,Sr.at_mul f h.pD,z,r]
 let n:∀ x,Sr.at' (D*d) x=Sr.at' D x*(x - (p.2.1:Rat)) ^ p.2.2:=λx=>by rw [Sr.at_mul h.pD a,r]
 let w:∀ x,(x - (p.2.1:Rat)) ^ p.2.2=0↔x=(p.2.1:Rat):=λx=>by
  constructor
  .intro e;by_cases c:x - (p.2.1:Rat)=0
   .ext
   .exact absurd e (Mv c _)
  .intro e;let {j,A}:∃ j,p.2.2=j+1:={p.2.2 - 1,`a};rw [A,Rat.pow_succ,e];ext
 let B:∀ x,Sr.at' (D*d) x=0↔∃ q∈ps++[p],x=(q.2.1:Rat):=λx=>by
  rw [n,rmul0,h.z,w];constructor
  .rintro (⟨q,b,e⟩ | e)
   .exact {q,Ei _ b,e}
   .exact {p,Ch _ (BM.mpr rfl),e}
  .rintro ⟨q,b,e⟩;rcases C5.mp b with b | b
   .exact .inl ⟨q,b,e⟩
   .rw [BM.mp b] at e;exact .inr e
 refine {(h.pN.mul a).add (f.mul h.pD),h.pD.mul a,B,λx g=>?_,λx g=>?_}
 .rw [n] at g ⊢;let i:Sr.at' D x≠0:=λe=>g (by rw [e];ext);let k:(x - (p.2.1:Rat)) ^ p.2.2≠0:=λe=>g (by rw [e];ext);rw [v,h.e x i,Mu];generalize (x - (p.2.1:Rat)) ^ p.2.2=W at k ⊢;generalize aQ x ps (eR x row)=V;ext
 .rw [v];rw [n,rmul0] at g;by_cases c:x=(p.2.1:Rat)
  .let k:=(w x).mpr c;rw [k];intro e
   let i:Sr.at' D x=0:=by
    have:(p.1:Rat)≠0:=Am o.n0;let e:(p.1:Rat)*Sr.at' D x=0:=by rw [<-e];ext
    exact (rmul0.mp e).resolve_left this
   let {q,b,y}:=(h.z x).mp i;refine u q b ?_;rw [c] at y;exact_mod_cast y.symm
  .let k:(x - (p.2.1:Rat)) ^ p.2.2≠0:=λe=>c ((w x).mp e);let i:=g.resolve_right k;let C:=h.n x i;rw [i];intro e;let e:Sr.at' N x*(x - (p.2.1:Rat)) ^ p.2.2=0:=by rw [<-e];ext
   exact (rmul0.mp e).elim C k
def Rl.kr {row:cQ} {ps:List Pp} {N D:Sr} {T B:cQ} (h:Rl row ps N D) (L:Lw T B) (W:Wt T B N D) (x:Rat):((∃ p∈ps,x=(p.2.1:Rat))->ah B x=0)/\(¬ (∃ p∈ps,x=(p.2.1:Rat))->ah B x≠0/\ah T x=aQ x ps (eR x row)*ah B x):=by
 let b:Sr.at' (sr T) x*Sr.at' D x=Sr.at' N x*Sr.at' (sr B) x:=by
  rw [<-Sr.at_mul (BS T) h.pD,W.eq,Sr.at_mul h.pN (BS B)]
 rw [ND,ND];let {U,V,c,d,g}:=L.cs
 let c1:Sr.at' U x*Sr.at' (sr T) x+Sr.at' V x*Sr.at' (sr B) x=1:=by
  rw [<-Sr.at_mul c (BS T),<-Sr.at_mul d (BS B),<-Sr.at_add (c.mul (BS T)) (d.mul (BS B)),g,Sr.at_one]
 constructor
 .intro hp;let a:=(h.z x).mpr hp;let i:=h.n x a;rw [a] at b;have:Sr.at' N x*Sr.at' (sr B) x=0:=by rw [<-b];ext
  exact (rmul0.mp this).resolve_left i
 .intro hp;let a:Sr.at' D x≠0:=λe=>hp ((h.z x).mp e);rw [h.e x a] at b
  let f:Sr.at' (sr T) x=aQ x ps (eR x row)*Sr.at' (sr B) x:=by
   refine UL a ?_;rw [b];ext
  refine {λj=>?_,f};rw [f,j] at c1;ext
def mR (l:cQ):W.kqdOk 8 (.list (l.map CO))=true:=by
 show (l.map CO).all (W.kqdOk 7)=true;rw [Fh];intro x a;let {p,_,rfl}:=Au.mp a;exact az p 6
def mS {a:Type} {xs:List a} {v:a} (h:xs[@xs - 1]?=some v):R_ xs (-1)=some v:=by
 let l:=(A7.mp h).1;unfold R_ ap;rw [jD `b,jE `a];show xs[(-1+(@xs:Int)).toNat]?=some v;rw [show (-1+(@xs:Int)).toNat=@xs - 1 by omega];exact h
def Ud {K:W.Frag} {H:Hp} {Q:VK} {E:XK} {p q:Addr} {P M:cQ} {b n m:Nat} (hp:Pl H p P) (o:Pl H q M) (c:Gq b b P) (d:Gq b b M) (g:M≠[]) (i:@P<=n) (j:@M<=m) (x:b<=40) (r:1<=n) (u:1<=m) (v:n<=4) (w:m<=4) (k:∀ t a T B,Same H a->FF a t T B->Lw T B->sr T*sr M=sr P*sr B->Rp (b+b) n m T B->Q (.ref t) a):Hu K [.ref p,.ref q] H Q E:=
 ⟨p,q,P,M,b,b+4*(2*3+4),n,m,3,rfl,hp,o,c,d,g,i,j,λh=>TJ c h (BK i v) `b,TJ d g (BK j w) `b,{r,u,`a,`a,by show n<8;omega,by show m<8;omega,`b,BK (DB (show b+4*(2*3+4)+3+2<=85 by omega) (show n+m<=8 by omega)) `b},`a,λt a T B s f l e=>k t a T B s f l e (Rp.of l c d g i j e (AT _) (AT _))⟩
def mT {row:cQ} (b:Int) (c:0<b) (i:b<=3) (h:∀ q∈row,Low q.1 q.2/\q.2∣b/\q.1.natAbs<=5) (e:Nz row):Gq 20 20 row:=by
 refine {λq a=>(h q a).1,e,b,{c,λq a=>(h q a).2.1},by unfold Bd;omega,λz f=>?_};let {q,a,rfl}:=Au.mp f;let {lo,d,g}:=h q a;let j:(b / q.2).natAbs<=b.natAbs:=O9 c lo.pos;show (q.1*(b / q.2)).natAbs<2 ^ 20;rw [Bp];exact Ek (DB g (show _<=3 by omega)) `b
def Nums.dL {H:Hp} {xs:cZ} {l:cQ} (h:Nums H xs l):Nums H xs.dropLast l.dropLast:=by
 rw [List.dropLast_eq_take,List.dropLast_eq_take,@h];exact Nums.take _ h
def mU {K:W.Frag} {vs:cZ} {H:Hp} {Q:VK} {E:XK} (h:ML K vs H Q E):Rf K (eC Q) (L2.start ["_law_drawn_here","_law_groups_here","_law_parts_here","_law_top","_law_kr","_law_size_here","_law_a","_law_k"] vs) H:=by
 let {r,gs,F,ps,rfl,{g,p,hr,{us,hg,lg},{w0,v,xs,vs,hp,ba,nx,hv,lp}},G,R,P,k}:=h;let {b,b0,b3,a4}:=R.rz;let r4:=R.r4;let p2:=P.p2;let g6:=G.g6;show Rf K _ [↥r,none,none,none,none,none,none,none] _;refine Ey {1,r,1,hr,2,6,3,?_};show Re K _ [↥r,↥g,↥p,none,none,none,none,none] _;refine A8 (EK (Bc rfl hp rfl {w0,xs,2,ba,λw hw=>?_}));let s1:=AM hw (.lst xs);let ab:upd H w (.lst xs) w=_:=upd_same;show Rc K _ [↥r,↥g,↥p,↥w,none,none,none,none] _;generalize upd H w (.lst xs)=H1 at s1 ab ⊢
 let ac:∀ (t:Addr) (N D:Sr) (o5 o6 o7:c_) (S:Hp),Same H S->Fx S t 210 10 7 N D->Rl F ps N D->RZ K { nx:=λ_ I=>Q V.non I,rt:=Q } [↥r,↥g,↥p,↥w,↥t,o5,o6,o7] S:=by
  rintro t N D o5 o6 o7 S s3 ⟨T,B,ft,Y,wt⟩ rl;let al:=Y.all (e:=4) `b `b `b `b `b;let kr:Kr T B F ps:={al.gt.mono `b `b,al.gb.mono `b `b,BK al.tn `b,BK al.bm `b,λx=>(rl.kr Y.lw wt x).1,λx=>(rl.kr Y.lw wt x).2};refine B7 (Be (AS rfl (EK (FW {1,g,2,{_,SqL.of (s3 _ _ hg)},CompJ.lst (xs:=us) (λi J I=>i<=@us/\Same S I/\@J=i/\Lal (Fr I) J (gs.take i)) {Ah _,Same.refl _,2,by rw [EV];trivial} ?_ ?_ ?_}))))
  .rintro i J I ⟨hi,s4,yl,_⟩;have:=@lg;exact {hi,sz `a,SqL.of (s4 _ _ (s3 _ _ hg))}
  .rintro i u J H4 hu ⟨hi,s4,yl,lf⟩;let {gp,af,a,e,c,d,rfl,ha,he,hc,hd}:=lg.get hu;let il:=(A7.mp hu).1;let gz:=G.gz gp (BT af);let l2:=gz.l2;let l1:=gz.l1;let a2:=s3.trans s4;unfold Nm at he;refine {a,1,a2 _ _ ha,2,6,6,3,?_};show Ai _ [↥e,↥c,↥d] _ _;refine Be (AS rfl (DS (Av (AS rfl (AS rfl {c,d,gp.2.1,gp.2.2,2,a2 _ _ hc,a2 _ _ hd,`a,`a,gz.a6,gz.m18,λn Z H5 s5 h5 z=>{n,Z,2,h5,by have:=z.len;omega,λq H6 s6 hq=>{BJ,λy hy=>?_}}})))));let bb:=s5.trans s6;let sy:=AM hy (.tup [.ref e,.ref q]);let a5:=bb.trans sy;let zl:=z.len;refine {il,s4.trans a5,by rw [Bf,yl];rfl,?_};rw [Cr af];let {zs,q1,q2}:=hq;refine (lf.mono λ_ _ h=>h.tq (Tq.of a5)).snoc {y,e,q,1,upd_same,(a2.trans a5) _ _ he,{zs,sy _ _ q1,q2.tp (F_ sy)},(K2 (b:=33) `b (λz' hz=>(z.bd z' hz).mono `a) z.last).mono `b `b,by rw [AI];omega,λx=>?_};rw [ND,NE,z.ev];rfl
  .rintro J H4 ⟨_,s4,yl,lf⟩ m hm;rw [@lg,Bh] at lf;let s5:=AM hm (.lst J);let aj:upd H4 m (.lst J) m=_:=upd_same;generalize upd H4 m (.lst J)=H5 at s5 aj ⊢;refine {m,J,2,aj,λn hn=>{BJ,λf hf=>?_}};let s6:=AM hn (.tup J);let am:upd H5 n (.tup J) n=_:=upd_same;generalize upd H5 n (.tup J)=H6 at s6 am hf ⊢;let s7:=AM hf (.tup [.ref t,.ref n]);let an:=s4.trans (s5.trans (s6.trans s7));exact k f T B _ (s3.trans an) {t,n,J,upd_same,ft.same an,s7 _ _ am,lf.mono λ_ _ h=>h.tq (Tq.of (s5.trans (s6.trans s7)))} kr
 let ex:∀ (A:cZ) (o:cQ) (H2:Hp),Same H H2->H2 w^^^A->Nums H2 A o->(∀ q∈o,q∈F)->@o<=4->(∀ x,eR x o=eR x F)->Nz o->Rb K { nx:=λ_ I=>Q V.non I,rt:=Q } [↥r,↥g,↥p,↥w,none,none,none,none] H2:=by
  intro A o H2 s2 h2 n2 sub l4 ee nz;refine A8 (Av (EK (AS rfl {w,A,2,h2,λU a6=>Po (Be (I_ (I_ {BJ,λX a0=>{Cn,λt3 a7=>?_}})))})));let sA:=AM a6 (.tup A);let hA:upd H2 U (.tup A) U=_:=upd_same;generalize upd H2 U (.tup A)=S at sA hA a0 a7 ⊢;let sB:=AM a0 (.tup [.int 1,.int 1]);let hB:upd S X (.tup [.int 1,.int 1]) X=_:=upd_same;generalize upd S X (.tup [.int 1,.int 1])=H4 at sB hB a7 ⊢;let sC:=AM a7 (.tup [.ref X]);let hC:upd H4 t3 (.tup [.ref X]) t3=_:=upd_same;generalize upd H4 t3 (.tup [.ref X])=H5 at sC hC ⊢;let ao:=sB.trans sC;let ar:=sA.trans ao;let gP:=mT (row:=o) b b0 b3 (λq hq=>a4 q (sub q hq)) nz;let gM:Gq 20 20 [((1:Int),(1:Int))]:=K2 (ns:=[1]) `b (λz hz=>by rw [BM.mp hz];exact Bd.one.mono `b) λn hn=>by obtain rfl:=jL hn;decide
  refine Ud (P:=o) (M:=[((1:Int),(1:Int))]) (b:=20) (n:=4) (m:=1) {A,ao _ _ hA,n2.tp (F_ ar)} {[.ref X],hC,{X,2,sC _ _ hB},trivial} gP gM (by simp) l4 (AT _) `b `b `b `b `b λt H6 T B s6 ft lw eq Y=>?_;rw [qG] at eq;let rl:Rl F [] (sr o) 1:={BS _,Sr.Pol.nat 1,λx=>{λh=>by rw [Sr.at_one] at h;exact absurd h `b,λ⟨_,h,_⟩=>nomatch h},λx _=>by rw [mQ,Sr.at_one,ee];show _=eR x F*1;ext,λx h=>by rw [Sr.at_one] at h;exact absurd h `b};let fx:Fx H6 t 40 4 1 (sr o) 1:={T,B,ft,Y,BS _,Sr.Pol.nat 1,Sr.one_ne,eq};let a8:=s2.trans (ar.trans s6);show Ra K _ [↥r,↥g,↥p,↥w,↥t,none,none,none] H6;clear eq Y lw ft;refine GI ⟨_,rfl,p,1,_,_,rfl,rfl,a8 _ _ hp,rfl,v,rfl,{_,SqL.of (a8 _ _ hv)},ForL.by (xs:=vs) (λi σ I=>∃ (t:Addr) (o5 o6 o7:c_) (N D:Sr),σ=[↥r,↥g,↥p,↥w,↥t,o5,o6,o7]/\Same H I/\Fx I t (40+85*i) (4+3*i) (1+3*i) N D/\Rl F (ps.take i) N D) {t,none,none,none,6,a8,fx,by rw [EV];exact rl} ?_ ?_ ?_⟩
  .rintro i σ I _ ⟨_,_,_,_,_,_,_,s,_⟩;exact SqL.of (s _ _ hv)
  .rintro i x σ H7 hx ⟨t,o5,o6,o7,N,D,rfl,s7,fx,rl⟩;let {C,a1,c,rfl,hc}:=lp.get hx;let il:i<@ps:=(A7.mp a1).1;let mp:=BT a1;let pz:=P.pz C mp;let k3:=pz.k3;refine {c,1,s7 _ _ hc,2,6,6,3,?_};show AN _ _ _ [↥r,↥g,↥p,↥w,↥t,some (.int C.1),some (.int C.2.1),some (.int (C.2.2:Int))] H7;refine Eg (Av (AS rfl (Av (Po (Be (AS rfl (I_ {BJ,λU a6=>{Cn,λX a0=>DS (Av (Ax (FV (AS rfl {Cn,λl1 a9=>AS rfl {l1,(C.2.2:Int),1,2,upd_same,`a,`a,sz (by show 1*_<=_;omega),λl2 a3=>{GH,λl3 O=>?_}}}))))}})))))));let sA:=AM a6 (.tup [.int C.1,.int 1]);let hA:upd H7 U (.tup [.int C.1,.int 1]) U=_:=upd_same;generalize upd H7 U (.tup [.int C.1,.int 1])=H8 at sA hA a0 a9 a3 O ⊢;let sB:=AM a0 (.tup [.ref U]);let hB:upd H8 X (.tup [.ref U]) X=_:=upd_same;generalize upd H8 X (.tup [.ref U])=H9 at sB hB a9 a3 O ⊢;let sC:=AM a9 (.lst [.int C.2.1]);generalize upd H9 l1 (.lst [.int C.2.1])=aw at sC a3 O ⊢;let eF:(List.replicate (C.2.2:Int).toNat [V.int C.2.1]).flatten=(List.replicate C.2.2 C.2.1).map V.int:=by rw [Ig,List.map_replicate];rfl
   rw [eF] at O ⊢;let sD:=AM a3 (.lst ((List.replicate C.2.2 C.2.1).map V.int));let hD:upd aw l2 (.lst ((List.replicate C.2.2 C.2.1).map V.int)) l2=_:=upd_same;generalize upd aw l2 (.lst ((List.replicate C.2.2 C.2.1).map V.int))=b1 at sD hD O ⊢;let sE:=AM O (.lst []);let hE:upd b1 l3 (.lst []) l3^^^(([]:d6).map V.int):=upd_same;let b2:=sE _ _ hD;let b4:=sC.trans (sD.trans sE);generalize upd b1 l3 (.lst [])=bn at b4 hE b2 ⊢;refine {l2,l3,List.replicate C.2.2 C.2.1,[],2,b2,hE,by rw [List.length_replicate];exact k3,Ah _,λa ha=>by rw [(List.mem_replicate.mp ha).2];exact pz.a6,(λ_ h=>nomatch h),λn Z bp bc bd z=>{n,Z,2,bd,by have:=z.len;rw [List.length_replicate] at this;have:@Z=1+C.2.2+2*0:=this;omega,λq bq bf hq=>?_}};let zl:@Z=1+C.2.2+2*0:=by have:=z.len;rw [List.length_replicate] at this;exact this
   let s9:=b4.trans (bc.trans bf);let b6:=sA.trans (sB.trans s9);let gP:Gq 40 40 (([C.1]:d6).map λn=>(n,(1:Int))):=K2 `b (λz hz=>by rw [BM.mp hz];exact (D4 pz.n5).mono `b) λn hn=>by obtain rfl:=jL hn;exact pz.n0
   let gM:Gq 40 40 (Z.map λn=>(n,(1:Int))):=K2 `b (λz' hz=>(z.bd z' hz).mono (by rw [List.length_replicate];show 1+8*(C.2.2+0)<=40;omega)) z.last;refine Ud (P:=([C.1]:d6).map λn=>(n,(1:Int))) (M:=Z.map λn=>(n,(1:Int))) (b:=40) (n:=1) (m:=4) {[.ref U],s9 _ _ hB,{U,2,(sB.trans s9) _ _ hA},trivial} hq gP gM (λe=>by have:=congrArg List.length e;rw [AI,zl] at this;have:1+C.2.2+2*0=0:=this;omega) (AT _) (by rw [AI];omega) `b `b `b `b `b λt' bg T' B' bi ft lw eq Y=>?_;rw [NE,NE] at eq;let lz:Lz Z:={`a,by rw [z.lz];decide};let fy:Fx bg t' 80 1 4 (si [C.1]) (si Z):={T',B',ft,Y,CF _,CF _,Fe lz,eq};let L:=b6.trans bi;let b8:=Rl.step rl (p:=C) (λq hq e=>?_) pz (CF [C.1]) (CF Z) (λx=>by rw [D3,Sr.at_L];show (C.1:Rat)+x*0=_;ext) λx=>by rw [z.ev,Uc];show _*(1:Rat)=_;ext
   .rcases (show i=0\/i=1 by omega) with rfl | rfl
    .refine TQ (fx.same L) fy 4 `b λt3 bk aa f3=>{t3,9,9,1,s7.trans (L.trans aa),f3,?_};rw [Cr a1];exact b8
    .refine TQ (fx.same L) fy 4 `b λt3 bk aa f3=>{t3,9,9,1,s7.trans (L.trans aa),f3,?_};rw [Cr a1];exact b8
   .let {j,hj,rfl}:=ET hq;rw [Br] at hj;rw [List.getElem_take] at e;have:=List.pairwise_iff_getElem.mp P.pu j i `a il `a;rw [(A7.mp a1).2] at this;exact this e
  .rintro σ H7 ⟨t,o5,o6,o7,N,D,rfl,s7,⟨T,B,ft,Y,wt⟩,rl⟩;let lv:=@lp;rw [lv,Bh] at rl;rw [lv] at Y;exact ac t N D o5 o6 o7 H7 s7 {T,B,ft,Y.mono `a `a `a,wt} rl
 refine Ey (Dh (λm σ I=>∃ (A:cZ) (o:cQ),σ=[↥r,↥g,↥p,↥w,none,none,none,none]/\Same H I/\I w^^^A/\Nums I A o/\(∀ q∈o,q∈F)/\@o<=4/\(∀ x,eR x o=eR x F)/\m=@o) _ {xs,F,2,s1,ab,nx.tp (F_ s1),λ_ h=>h,r4,λ_=>rfl,2} ?_);rintro m σ H2 ⟨A,o,rfl,s2,h2,n2,sub,l4,ee,rfl⟩;let lx:=@n2;refine {1,GH,λl0 bl=>?_};let sA:=AM bl (.lst []);let hA:upd H2 l0 (.lst []) l0=_:=upd_same;generalize upd H2 l0 (.lst [])=S at sA hA ⊢;let s3:=s2.trans sA;let h3:=sA _ _ h2;let n3:=n2.tp (F_ sA);refine {.list (o.map CO),.list [],decide (o=[]),.lst h3 (Pk n3),.lst hA .nil,mR _,2,?_,1,Aa (λc=>?_) (λc=>?_)}
 .rw [decide_eq_true_iff];constructor
  .intro e;rw [e];rfl
  .intro e;injection e with e;exact List.map_eq_nil_iff.mp e
 case refine_3=>
  let e:o=[]:=by
   by_cases e:o=[]
   .exact e
   .exact absurd (by rw [jH e];rfl) c
  exact Aa (λc=>by cases c) λ_=>ex A o S s3 h3 n3 sub l4 ee (by rw [e];exact λq h=>nomatch h)
 let ne:o≠[]:=λe=>by rw [jF e] at c;cases c
 let br:0<@o:=CN.mpr ne;let {u,hu}:∃ u,A[@A - 1]?=some u:={_,Ak `a};let {q,hq,a,rfl,ha}:=n3.get hu;rw [lx] at hq;let eS:=Th hq;refine {4,w,_,3,h3,mS hu,BJ,λz hz=>?_};let sB:=AM hz (.tup [.int 0,.int 1]);let hB:upd S z (.tup [.int 0,.int 1]) z=_:=upd_same;let s4:=s3.trans sB;let h4:=sB _ _ h3;let n4:=n3.tp (F_ sB);let b9:=sB _ _ ha;generalize upd S z (.tup [.int 0,.int 1])=H4 at hB s4 h4 n4 b9 ⊢;let bm:q∈o:=by rw [eS];exact Ch _ (BM.mpr rfl)
 refine {9,decide (q=(0,1)),DR ⟨a,rfl,b9⟩,DR (q:=(0,1)) ⟨z,rfl,hB⟩,az _ 7,az _ 7,by rw [datN_eq];simp,1,Aa (λc2=>?_) (λc2=>?_)}
 .let e:q=(0,1):=jG c2;refine {λbs bt=>∃ m',m'<@o/\_,λ_ _ h=>h,?_};let tp:=Tp.updL (ys:=A.dropLast) h4;refine {1,Eb h4,w,A,1,2,h4,hu,↑o.dropLast,by rw [List.length_dropLast];omega,A.dropLast,o.dropLast,2,Kp.over s4 Kp.upd hw,upd_same,(Nums.dL n4).tp tp,λy hy=>sub y ((List.dropLast_sublist o).subset hy),by rw [List.length_dropLast];omega,λx=>?_,2};rw [<-ee x]
  conv=>rhs;rw [eS]
  rw [Mt,e,show val (0,1)=0 from O' _];ext
 .let e:q≠(0,1):=λz=>c2 (jF z);refine ex A o H4 s4 h4 n4 sub l4 ee λy hy=>?_;rw [eS,List.getLast?_concat] at hy;obtain rfl:=jL hy;intro z;let lo:=(a4 q (sub q bm)).1;refine e ((Mr lo).mp ?_);unfold val;rw [z];exact O' _
def mV {n m:Int} (b:n.natAbs<=18) (a:0<m) (c:m<=3):Cq (Aq n m).1 (Aq n m).2:=by
 let {d,l}:=UU (n:=n) a;exact {DO (AR a),BK l b,Int.le_trans (Int.le_of_dvd a d) c}
def mW {K:W.Frag} {vs:cZ} {H:Hp} {Q:VK} {E:XK} (h:Ke K vs H Q E):SJ K (eC Q) (L2.start ["_law_script","_law_drawn_here","_law_form_here","_law_cell","_law_c","_law_found"] vs) H:=by
 let {a,ns,rfl,hS,af,a3,k}:=h;let T0:aX H:={#[],a3,.inl rfl};show SJ K _ [↥a,none,none,none,none,none] _;refine A8 (DS (Av {1,a,ns,0,2,hS,`b,λn0=>{n0,2,λr J u ps H1 s1 j G R P=>?_}}));show SI K _ [↥a,↥r,none,none,none,none] H1;refine A8 (DS (AS rfl {r,J,u,ps,2,j,G,R,P,λf T B H2 s2 L kr=>?_}));show SH K _ [↥a,↥r,↥f,none,none,none] H2;let hS:=(s1.trans s2).seq hS;let j:=j.tq (Tq.of s2);let T2:aX H2:=TabOk.same T0 (s1.trans s2);let {w,em,lm,_}:=UT (as:=ns) (a:=1) (b:=13) `b `b;refine GI (Ax ⟨_,rfl,1,rfl,13,rfl,a,_,rfl,hS,λp hp=>?_⟩);rw [em];let s3:=AM hp (.lst (~~~w));let U:upd H2 p (.lst (~~~w)) p=_:=upd_same;show Bi _ _ _ _;generalize upd H2 p (.lst (~~~w))=H3 at s3 U ⊢;refine FV (I_ {Cn,λq hq=>?_});let s4:=AM hq (.lst [.int 0]);let X:upd H3 q (.lst [.int 0]) q=_:=upd_same;generalize upd H3 q (.lst [.int 0])=H4 at s4 X ⊢;refine {p,q,3,s4 _ _ U,X,sz (by rw [AI];show @w+1<=_;omega),λl hl=>?_};let s5:=AM hl (.lst (w.map V.int++[V.int 0]));let M:upd H4 l (.lst (w.map V.int++[V.int 0])) l^^^((w++[0]).map V.int):=by rw [upd_same,B9];rfl
 generalize upd H4 l (.lst (w.map V.int++[V.int 0]))=H5 at s5 M ⊢;let N:=s3.trans (s4.trans s5);let j:=j.tq (Tq.of N);let L:=L.tq (Tq.of N);let T5:aX H5:=TabOk.same T2 N;refine {l,2,{_,SqL.of M},ForL.by (xs:=(w++[0]).map V.int) (λi σ I=>∃ o3 o4 Y:c_,σ=[↥a,↥r,↥f,o3,o4,Y]/\Tq H5 I/\aX I) {none,none,none,2,Tq.of (Same.refl _),T5} ?_ ?_ ?_}
 .rintro i σ I _ ⟨_,_,_,_,Z,_⟩;exact SqL.of (Z.2 _ _ M)
 .rintro i x σ H6 hx ⟨o3,o4,Y,rfl,Z,T6⟩;rw [Ae] at hx;let {F,_,rfl}:=EO.mp hx;let j:=j.tq Z;let L:=L.tq Z;refine Ds ?_;show SG K _ [↥a,↥r,↥f,some (.int F),o4,Y] H6;refine A8 (Av (Ax (Co (AS rfl (I_ (I_ {F,0,37,2,`b,`b,`b,λd0 a4=>I_ {3,Ax (I_ (Co (AS rfl (I_ (I_ ⟨F,1,3,rfl,`b,`b,`b,λe0 e3=>{3,?_}⟩)))))}}))))));generalize X' F 0 37=d at d0 a4 ⊢;generalize X' F 1 3=e at e0 e3 ⊢;refine {d - 18,1+e,2,`a,λc hc=>?_};let C:=mV (n:=d - 18) (m:=1+e) `a `a `a;generalize Aq (d - 18) (1+e)=tb at C ⊢;let {t,b}:=tb;let C:Cq t b:=C;let sc:=AM hc (.tup [.int t,.int b]);let A:upd H6 c (.tup [.int t,.int b]) c=_:=upd_same;show SF K _ [↥a,↥r,↥f,some (.int F),↥c,Y] (upd H6 c (.tup [.int t,.int b]));generalize upd H6 c (.tup [.int t,.int b])=H7 at sc A ⊢;let j:=j.tq (Tq.of sc);let L:=L.tq (Tq.of sc);let T7:aX H7:=TabOk.same T6 sc;let a0:=Z.trans (Tq.of sc);refine A8 (Av (AS rfl (AS rfl {f,c,T,B,J,u,ps,t,b,2,L,kr,G,A,C,T7,λhh H8 s8=>?_,λnh r8 qa cc ws ys z H8 k8 T8 h8 a5 lz ez a6 aw st wt=>?_})))
  .show MM K _ [↥a,↥r,↥f,some (.int F),↥c,some .non] H8;refine JP (Av (AS rfl (AS rfl {r,c,J,u,ps,t,b,2,j.tq (Tq.of s8),G,P,s8 _ _ A,C,λ_ H9 O=>{true,2,Aa (λ_=>?_) (λc=>absurd rfl c)},λn=>absurd hh n})));exact JP (HE (Ax (AS rfl (I_ {2,1,Aa (λc=>by rw [jF rfl] at c;cases c) (λ_=>{9,1,a0.trans (Tq.of (s8.trans O)),TabOk.same T7 (s8.trans O)})}))))
  .show MM K _ [↥a,↥r,↥f,some (.int F),↥c,↥r8] H8;let S:=Tq.tab T7 k8;let j:=j.tq S;let v:=S.1 _ _ A;let a7:=a0.trans S;refine JP (Av (AS rfl (AS rfl {r,c,J,u,ps,t,b,2,j,G,P,v,C,λhh=>absurd hh nh,λ_ H9 O=>{false,2,Aa (λc=>by cases c) (λ_=>?_)}})));let j:=j.tq (Tq.of O);let {g,p,hr,hG,hP}:=j;let ng:¬ ∃ g∈J,∃ a∈g.2.1,val (t,b)=(a:Rat):=λh=>nh (.inl h);let np:¬ ∃ p∈ps,val (t,b)=(p.2.1:Rat):=λh=>nh (.inr h);let nn:=Mx C ng;refine JP (Co (AS rfl (Av (Bc rfl hr rfl (AS rfl {p,c,u,ps,t,b,2,hP,R,P,O _ _ v,C,np,λy z' aj D hy a8 a9=>Av (Bc rfl (D _ _ hr) rfl (AS rfl {g,c,J,t,b,2,hG.tq (Tq.of D),G,(O.trans D) _ _ v,C,ng,λlr us xs al a1 aa ab ac xz wr=>?_}))})))));let zz:z'=z:=Do a8 lz (by rw [a9,ez]);subst zz;let o:=O.trans (D.trans a1);refine {r8,qa,cc,y,lr,z',ws,us,ys,xs,Mg t b J,2,o _ _ h8,o _ _ a5,a1 _ _ hy,lz,o _ _ a6,aw.mono λ_ _ h=>h.tp (F_ o),st,aa,ab,ac,xz,Kz C G nn,T4 C G.gz nn,λp hp=>by rw [wt p hp,wr p hp],λam a2=>{true,2,Aa (λc=>by cases c) (λ_=>{9,1,a7.trans (Tq.of (o.trans a2)),TabOk.same T8 (o.trans a2)})}}
 .rintro σ I ⟨o3,o4,Y,rfl,_,_⟩;exact k I
end Bs
namespace Bs
open PySem PySem.Spec PyProof.Rows L2
open Hd
structure Bl (K:W.Frag) (mg:de):Prop where
 abs:mg "abs" = none
 min:mg "min" = none
 len:mg "len" = none
 enumerate:mg "enumerate" = none
 list:mg "list" = none
 max:mg "max" = none
 range:mg "range" = none
 any:mg "any" = none
 zip:mg "zip" = none
 EXPONENTS:mg "EXPONENTS" = some (.ref (Gk K))
 tuple:mg "tuple" = none
 reversed:mg "reversed" = none
 sorted:mg "sorted" = none
 isinstance:mg "isinstance" = none
 int:mg "int" = none
 bool:mg "bool" = none
 xEXPONENTS:∀ H:Hp,SqT K H (Gk K) (exps.map λe:Nat=>V.int (e:Int))
section
variable {P:Program} {w:World} {K:W.Frag} {mg:de} {base:Heap} {f:Addr} {fd:FuncData}
def K_ {n:Str} {st:Stmt} {N ps:di} {k:Nat} {sp:Sp} {t:TS} (F:Fun K n n st f fd) (v:∀ {vs:cZ} {H:Hp} {Q:VK} {E:XK},sp vs H Q E->t (eC Q) (start N vs) H) (d:∀ {a:Value} {A:Around} {b:List Env} {s:Shared} {H:Hp} {E:XK} (c:Room k (A.deeper (envOfC n (CI st) ⇑s f a))) (i:N.Nodup) (j:(A.deeper (envOfC n (CI st) ⇑s f a)).units<cLine) (e:(A.deeper (envOfC n (CI st) ⇑s f a)).units+64<cLine),PSs (FM ay P w K mg base N n (CI st) f a A b s H E).nox (Dg st) t) (S:FnScope N ps (CI st):=by exact {7,2,by decide +kernel,2,by decide +kernel,by decide +kernel}) (len:∀ vs H Q E,sp vs H Q E->@vs=@ps:=by intro vs H Q E h;first | (cases h;subst_vars;rfl) | repeat (first | (let ⟨rfl,_⟩:=h;rfl) | let {_,h}:=h)):FnOk P w K mg base ay (k+1) f fd ps sp:=F.ok S len λa A b s H vs Q E c h=>{t,d c S.nd c.units0 c.units,v h}
def mX {n:Str} {st:Stmt} {c:Addr} {pm:Value} {N ps:di} {k:Nat} {sp:Sp} {t:TS} (l:K.lookup f=some ⟨.type "function", none,.func (W.fnOf n n (EG st) (Dg st) (CI st) .none .none .none pm none (.ref c) .none),#[]⟩) (e:W.codeIn K (.ref c) n=true) (v:∀ {vs:cZ} {H:Hp} {Q:VK} {E:XK},sp vs H Q E->t (eC Q) (start N vs) H) (d:∀ {A:Around} {a:List Env} {s:Shared} {H:Hp} {E:XK} (b:Room k (A.deeper (envOfC n (CI st) ⇑s f (.ref c)))) (j:N.Nodup) (m:(A.deeper (envOfC n (CI st) ⇑s f (.ref c))).units<cLine) (g:(A.deeper (envOfC n (CI st) ⇑s f (.ref c))).units+64<cLine),PSs (FM ay P w K mg base N n (CI st) f (.ref c) A a s H E).nox (Dg st) t) (S:FnScope N ps (CI st):=by exact {7,2,by decide +kernel,2,by decide +kernel,by decide +kernel}) (len:∀ vs H Q E,sp vs H Q E->@vs=@ps:=by intro vs H Q E h;first | (cases h;subst_vars;rfl) | repeat (first | (let ⟨rfl,_⟩:=h;rfl) | let {_,h}:=h)):FnOk P w K mg base ay (k+1) f (W.fnOf n n (EG st) (Dg st) (CI st) .none .none .none pm none (.ref c) .none) ps sp:=Nr l e S len λA a s H vs Q E b h=>{t,(d b S.nd b.units0 b.units).nox,v h}
def li {a:Prop} {b:Type} {x:b}:x=x\/a:=Or.inl rfl
end
open Hd
def NF {K:W.Frag} {st:Stmt} {f c:Addr} {n:Str} {pm:Value} (l:K.lookup f=some (J_ n st pm c)) (e:W.codeIn K (.ref c) n=true) (k:W.keepIn K (.ref f)=true):Fun K n n st f (W.fnOf n n (EG st) (Dg st) (CI st) .none .none .none pm none (.ref c) .none):=WB (st:=st) l e k
def mY {P:Program} {K:W.Frag} {w:World} {h c:Heap} {mg:de} {k:Nat} {f:Addr} {d:FuncData} {n:Str} {ps:di} {sp:Sp} (X:K.In h) (G:h.Ns mainGlobals mg) (ok:FnOk P w K mg c ay k f d ps sp) (b:Binds K d ps []) (e:W.keepIn K (.ref f)=true) (a:W.nsIn K mainGlobals n=some (↥f)):Cal P w K mg c k n ps sp:={f,d,ok,b,e,W.mg_of X G a}
def JT {a:d7} {n:Nat} (h:@a=n+1):∃ x t,a=x::t/\@t=n:=by cases a with | nil=>cases h | cons x t=>exact {x,t,2,Nat.succ.inj h}
def Ue (a:d7) (h:@a=1):∃ b,a=[b]:=by let {x,t,rfl,q}:=JT h;exact {x,by rw [CU.mp q]}
def Uf (b:d7) (h:@b=2):∃ c a,b=[c,a]:=by let {x,t,rfl,q}:=JT h;let {a,rfl}:=Ue t q;exact ⟨x,a,rfl⟩
def Ug (c:d7) (h:@c=3):∃ d a b,c=[d,a,b]:=by let {x,t,rfl,q}:=JT h;let {a,b,rfl}:=Uf t q;exact ⟨x,a,b,rfl⟩
def mZ (d:d7) (h:@d=4):∃ e a b c,d=[e,a,b,c]:=by let {x,t,rfl,q}:=JT h;let {a,b,c,rfl}:=Ug t q;exact ⟨x,a,b,c,rfl⟩
def lE (e:d7) (h:@e=5):∃ f a b c d,e=[f,a,b,c,d]:=by let {x,t,rfl,q}:=JT h;let {a,b,c,d,rfl}:=mZ t q;exact ⟨x,a,b,c,d,rfl⟩
def Aj {P:Program} {K:W.Frag} {w:World} {h g:Heap} {mg:de} {k:Nat} {f c:Addr} {n:Str} {ps:di} {sp:Sp} {st:Stmt} {pm:Value} (X:K.In h) (G:h.Ns mainGlobals mg) (ok:Fun K n n st f (W.fnOf n n (EG st) (Dg st) (CI st) .none .none .none pm none (.ref c) .none)->FnOk P w K mg g ay k f (W.fnOf n n (EG st) (Dg st) (CI st) .none .none .none pm none (.ref c) .none) ps sp) (l:K.lookup f=some (J_ n st pm c):=by kernel_rfl) (e:W.codeIn K (.ref c) n=true:=by kernel_rfl) (q:W.keepIn K (.ref f)=true:=by kernel_rfl) (a:W.nsIn K mainGlobals n=some (↥f):=by kernel_rfl) (b:∀ (kV j pm:Value) (o:Option Addr) (m p:Value) (d:d7),@d=@ps->bindArgs (W.fnOf n n (EG st) (Dg st) (CI st) .none kV j pm o m p) ⟨d,[]⟩=pure (ps.zip d):=by first | exact λ_ _ _ _ _ _ d i=>by let {_,rfl}:=Ue d i;rfl | exact λ_ _ _ _ _ _ d i=>by let {_,_,rfl}:=Uf d i;rfl | exact λ_ _ _ _ _ _ d i=>by let {_,_,_,rfl}:=Ug d i;rfl | exact λ_ _ _ _ _ _ d i=>by let {_,_,_,_,_,rfl}:=lE d i;rfl):Cal P w K mg g k n ps sp:=mY X G (ok (NF l e q)) ((NF l e q).binds b) q a
abbrev K' (P:Program) (w:World) (mg:de) (a:Heap) (k:Nat) (n:Str) (ps:di) (sp:W.Frag->Sp):Prop:=Cal P w (hp w.params) mg a k n ps (sp (hp w.params))
section
variable {P:Program} {w:World} {mg:de} {base h:Heap} (X:(hp w.params).In h) (G:h.Ns mainGlobals mg) (B:Bl (hp w.params) mg)
include X G B
theorem Ff:K' P w mg base 1 "common_divisor" ["one","other"] EL:=Aj (f:=22) (c:=21) (pm:=P_) (st:=WC) X G λF=>K_ F (vX ) λb a d e=>(AJ (Dc PassesOwn.never (cR Dx (pv 1) AG) (AJ (E_ a (AQ VV (pv 0) (pv 1))) (AJ (E_ a (pv 1)) (AO (E_ a (pv 2)))))) (AO (AZ (A4 HV rfl B.abs HS (AD (pv 0) AK)))))
theorem lH:K' P w mg base 1 "raised" ["whole","n"] KG:=Aj (f:=29) (c:=28) (pm:=P_) (st:=WD) X G λF=>K_ F (vY ) λb a d e=>(AJ (E_ a AG) (AJ (E_ a (pv 0)) (AJ (Dc PassesOwn.never (cR Dn (pv 1) AG) (AJ (Bg (cR FK (AQ Cw (pv 1) AG) AG) (AO (FJ (i:=2) a rfl li (pv 3) IS)) Bq) (AJ (FJ (i:=1) a rfl li AG Yi) (AO (Bg (cR Dn (pv 1) AG) (AO (FJ (i:=3) a rfl li (pv 3) IS)) Bq))))) (AO (AZ (pv 2))))))
theorem NG:K' P w mg base 1 "row_trimmed" ["row"] Hm:=Aj (f:=41) (c:=40) (pm:=P_) (st:=WF) X G λF=>K_ F (uE ) λb a d e=>(AJ (E_ a (A4 CS rfl B.len Bj (AD (pv 0) AK))) (AJ (Dc PassesOwn.never (PW.pt (HL (cR Dn (pv 1) AG) (HK (cR FK (Bw Bb (pv 0) (AQ CQ (pv 1) AG) (λ_ _=>rfl)) AG)))) (AO (FJ (i:=1) a rfl li AG IM))) (AO (AZ (GW HY (pv 0) IO (FO (pv 1)))))))
theorem Uh:K' P w mg base 1 "row_parted" ["row","divisor"] Ij:=Aj (f:=46) (c:=45) (pm:=P_) (st:=WG) X G λF=>K_ F (uN ) λa b d e=>(AO (AZ (DE (N:=["whole","divisor"]) (capt:=[none,some 1]) (xo:=none) rfl (BlkOk1.of rfl rfl (λ_=>{2,λ_=>rfl}) rfl (DL.mpr rfl) rfl rfl rfl) (Bz (pv 0)) (λ_ _ _ _=>(Ab (i:=0) (show (["whole","divisor"]:di).Nodup by decide +kernel) rfl li)) (λ_ _ _ _=>(AQ Gb (pv 0) (pv 1))))))
theorem lI:K' P w mg base 1 "row_times" ["row","other"] KS:=Aj (f:=53) (c:=52) (pm:=P_) (st:=WH) X G λF=>K_ F (sP ) λb a d e=>(AJ (Bg (PW.pt (DZ (Dw (E1 (pv 0) (λ_=>rfl))) (Et (Dw (E1 (pv 1) (λ_=>rfl)))))) (AO (AZ (CG AK))) Bq) (AJ (E_ a (AQ GX (CG (AD AG AK)) (AQ CQ (AQ Ba (A4 CS rfl B.len Bj (AD (pv 0) AK)) (A4 CS rfl B.len Bj (AD (pv 1) AK))) AG))) (AJ (Bu PassesOwn.never rfl (IU rfl B.enumerate (AD (pv 0) AK)) (Cf rfl (BL (Ab (i:=3) a rfl li) (BL (Ab (i:=4) a rfl li) Ce))) (AO (Bg (cR Dx (pv 4) AG) (AO (Bu PassesOwn.never rfl (IU rfl B.enumerate (AD (pv 1) AK)) (Cf rfl (BL (Ab (i:=5) a rfl li) (BL (Ab (i:=6) a rfl li) Ce))) (AO (JY (pv 2) (AQ Ba (pv 3) (pv 5)) Ju (AQ BQ (pv 4) (pv 6)) VW Fs)))) Bq))) (AO (AZ (pv 2))))))
theorem Ui:K' P w mg base 1 "row_over" ["row","divisor"] Il:=Aj (f:=60) (c:=59) (pm:=P_) (st:=WI) X G λF=>K_ F (uS ) λb a d e=>(AJ (E_ a (FN Jt rfl B.list Jo (AD (pv 0) AK))) (AJ (E_ a (AQ CQ (A4 CS rfl B.len Bj (AD (pv 1) AK)) AG)) (AJ (E_ a (AQ GX (CG (AD AG AK)) (A4 (Jp rfl) rfl B.max Jn (AD (AQ CQ (A4 CS rfl B.len Bj (AD (pv 0) AK)) (pv 3)) (AD AG AK))))) (AJ (Bu PassesOwn.never rfl (OM rfl B.range (AD (AQ CQ (AQ CQ (A4 CS rfl B.len Bj (AD (pv 0) AK)) (pv 3)) AG) (AD (B2 B3 AG) (AD (B2 B3 AG) AK)))) (Ab (i:=5) a rfl li) (AJ (E_ a (AQ Ee (Bw Bb (pv 2) (AQ Ba (pv 5) (pv 3)) (λ_ _=>rfl)) (Bw Bb (pv 1) (B2 B3 AG) (λ_ _=>rfl)))) (AJ (Bg (cR Dx (AQ BQ (pv 6) (Bw Bb (pv 1) (B2 B3 AG) (λ_ _=>rfl))) (Bw Bb (pv 2) (AQ Ba (pv 5) (pv 3)) (λ_ _=>rfl))) (AO (AZ EW)) Bq) (AJ (GU (pv 6) (IJ (pv 4) (pv 5) Fs)) (AO (Bg (cR Dx (pv 6) AG) (AO (Bu PassesOwn.never rfl (Ev rfl B.range (AD (pv 3) AK)) (Ab (i:=7) a rfl li) (AO (JY (pv 2) (AQ Ba (pv 5) (pv 7)) Ju (AQ BQ (pv 6) (Bw Bb (pv 1) (pv 7) (λ_ _=>rfl))) IM Fs)))) Bq)))))) (AO (AZ (II (Dl (A4 (Yw rfl) rfl B.any OP (AD (GW HY (pv 2) IO (FO (pv 3))) AK))) EW (pv 4))))))))
theorem lJ:K' P w mg base 1 "inverse_modulo" ["whole","prime"] KI:=Aj (f:=96) (c:=95) (pm:=P_) (st:=WQ) X G λF=>K_ F (uW ) λb a d e=>(AJ (E_ a (pv 1)) (AJ (E_ a (AQ Cw (pv 0) (pv 1))) (AJ (E_ a AG) (AJ (E_ a AG) (AJ (Dc PassesOwn.never (cR Dx (pv 3) AG) (AJ (E_ a (AQ Gb (pv 2) (pv 3))) (AJ (E_ a (AQ CQ (pv 2) (AQ BQ (pv 6) (pv 3)))) (AJ (E_ a (pv 3)) (AJ (E_ a (pv 7)) (AJ (E_ a (AQ CQ (pv 4) (AQ BQ (pv 6) (pv 5)))) (AJ (E_ a (pv 5)) (AO (E_ a (pv 7)))))))))) (AO (AZ (AQ Cw (pv 4) (pv 1)))))))))
theorem lK:K' P w mg base 1 "rests_modulo" ["row","prime"] KJ:=Aj (f:=101) (c:=100) (pm:=P_) (st:=WS) X G λF=>K_ F (uT ) λa b d e=>(AO (AZ (DE (N:=["whole","prime"]) (capt:=[none,some 1]) (xo:=none) rfl (BlkOk1.of rfl rfl (λ_=>{2,λ_=>rfl}) rfl (DL.mpr rfl) rfl rfl rfl) (Bz (pv 0)) (λ_ _ _ _=>(Ab (i:=0) (show (["whole","prime"]:di).Nodup by decide +kernel) rfl li)) (λ_ _ _ _=>(AQ Cw (pv 0) (pv 1))))))
theorem lO:K' P w mg base 1 "nearest" ["whole","prime"] KN:=Aj (f:=141) (c:=140) (pm:=P_) (st:=WY) X G λF=>K_ F (uY ) λb a d e=>(AJ (E_ a (AQ Cw (pv 0) (pv 1))) (AO (AZ (II (cR Dn (AQ BQ AG (pv 2)) (pv 1)) (AQ CQ (pv 2) (pv 1)) (pv 2)))))
theorem lS:K' P w mg base 1 "size_of" ["one"] KY:=Aj (f:=188) (c:=187) (pm:=aS) (st:=Wh) X G λF=>K_ F (pZ ) λa b d e=>(AO (AZ (Ar (AD (A4 HV rfl B.abs HS (AD (xI AW (pv 0)) AK)) (AD (xI AW (pv 0)) AK)))))
theorem K3:K' P w mg base 1 "poly" ["row"] Gn:=Aj (f:=195) (c:=194) (pm:=Z_) (st:=Wi) X G λF=>K_ F (uA ) λb a d e=>(AJ (E_ a (A4 CS rfl B.len Bj (AD (pv 0) AK))) (AJ (Dc PassesOwn.never (PW.pt (HL (cR Dn (pv 1) AG) (HK (cR FK (xI AW (Bw Bb (pv 0) (AQ CQ (pv 1) AG) (λ_ _=>rfl))) AG)))) (AO (FJ (i:=1) a rfl li AG IM))) (AO (AZ (FN IX rfl B.tuple FR (AD (GW HY (pv 0) IO (FO (pv 1))) AK))))))
theorem Uj:K' P w mg base 1 "number_of" ["P","place"] Ir:=Aj (f:=212) (c:=211) (pm:=Z_) (st:=Wm) X G λF=>K_ F (rC ) λa b d e=>(AO (AZ (II (cR Fq (pv 1) (A4 Ez rfl B.len Bj (AD (pv 0) AK))) (Bw AW (pv 0) (pv 1) (λ_ _=>rfl)) (Ar (AD AG (AD AG AK))))))
theorem lU:K' P w mg base 1 "_law_at" ["_law_script","_law_k"] L7:=Aj (f:=314) (c:=313) (pm:=M_) (st:=W6) X G λF=>K_ F (pJ ) λa b d e=>(AJ (Bg (Ng VY Fq AG (pv 1) (A4 YG rfl B.len Bj (AD (pv 0) AK))) (AO (AZ (Bw YF (pv 0) (pv 1) (λ_ _=>rfl)))) Bq) (AO (AZ AG)))
theorem DU:K' P w mg base 1 "_law_draw" ["_law_cell","_law_k","_law_many"] C3:=Aj (f:=321) (c:=320) (pm:=M_) (st:=W7) X G λF=>K_ F (pK ) λb a d e=>(AJ (Bg (PW.pt (HL (cR Dn (pv 0) (AQ OD AG AG)) (HK (cR Fq (pv 2) AG)))) (AO (AZ (AQ Cw (AQ Cw (AQ ZK (pv 0) (AQ BQ AG (pv 1))) AG) (pv 2)))) Bq) (AJ (E_ a (AQ Cw (AQ BQ (AQ Ba (AQ Ba (AQ Cw (pv 0) AG) (AQ BQ (AQ BQ (pv 1) (pv 1)) AG)) AG) AG) AG)) (AO (AZ (AQ Cw (AQ YE (AQ Cw (AQ BQ (pv 3) (pv 3)) AG) AG) (pv 2))))))
theorem HF:K' P w mg base 1 "_law_number" ["_law_top","_law_bottom"] FX:=Aj (f:=328) (c:=327) (pm:=M_) (st:=W8) X G λF=>K_ F (pI ) λb a d e=>(AJ (JX (i:=2) (j:=3) rfl a rfl rfl `b rfl rfl (AD (A4 HV rfl B.abs HS (AD (pv 0) AK)) (AD (A4 HV rfl B.abs HS (AD (pv 1) AK)) AK)) rfl) (AJ (Dc PassesOwn.never (cR Dn (pv 3) AG) (AO (JX (i:=2) (j:=3) rfl a rfl rfl `b rfl rfl (AD (pv 3) (AD (AQ Cw (pv 2) (pv 3)) AK)) rfl))) (AJ (Bg (cR Fq (pv 1) AG) (AO (E_ a (B2 B3 (pv 2)))) Bq) (AO (AZ (Ar (AD (AQ Ee (pv 0) (pv 2)) (AD (AQ Ee (pv 1) (pv 2)) AK))))))))
theorem Uk:K' P w mg base 1 "_law_times_polys" ["_law_one","_law_other"] Kb:=Aj (f:=363) (c:=362) (pm:=M_) (st:=XD) X G λF=>K_ F (mM ) λb a d e=>(AJ (E_ a (AQ GX (CG (AD AG AK)) (AQ CQ (AQ Ba (A4 CS rfl B.len Bj (AD (pv 0) AK)) (A4 CS rfl B.len Bj (AD (pv 1) AK))) AG))) (AJ (Bu PassesOwn.never rfl (Ev rfl B.range (AD (A4 CS rfl B.len Bj (AD (pv 0) AK)) AK)) (Ab (i:=3) a rfl li) (AO (Bu PassesOwn.never rfl (Ev rfl B.range (AD (A4 CS rfl B.len Bj (AD (pv 1) AK)) AK)) (Ab (i:=4) a rfl li) (AO (GU (AQ Ba (Bw Bb (pv 2) (AQ Ba (pv 3) (pv 4)) (λ_ _=>rfl)) (AQ BQ (Bw Bb (pv 0) (pv 3) (λ_ _=>rfl)) (Bw Bb (pv 1) (pv 4) (λ_ _=>rfl)))) (IJ (pv 2) (AQ Ba (pv 3) (pv 4)) Fs)))))) (AO (AZ (pv 2)))))
theorem Ul:K' P w mg base 1 "_law_poly" ["_law_row"] Kd:=Aj (f:=368) (c:=367) (pm:=M_) (st:=XE) X G λF=>K_ F (mO ) λa b d e=>(AO (AZ (FN IX rfl B.tuple FR (AD (DE (N:=["_law_number_here"]) (capt:=[none]) (xo:=none) rfl (BlkOk1.of rfl rfl (λ_=>{2,λ_=>rfl}) rfl (λ_ h=>nomatch h) rfl rfl rfl) (Bz (pv 0)) (λ_ _ _ _=>(Ab (i:=0) (show (["_law_number_here"]:di).Nodup by decide +kernel) rfl li)) (λ_ _ _ _=>(Ar (AD (pv 0) (AD AG AK))))) AK))))
theorem lV:K' P w mg base 1 "_law_tops" ["_law_g"] MH:=Aj (f:=375) (c:=374) (pm:=M_) (st:=XF) X G λF=>K_ F (nV ) λa b d e=>(AO (AZ (Bw AW (Ar (AD (Ar (AD (B2 B3 AG) (AD (B2 B3 AG) (AD (B2 B3 AG) AK)))) (AD (Ar (AD (B2 B3 AG) (AD AG (AD AG AK)))) (AD (Ar (AD AG (AD AG (AD AG AK)))) (AD (Ar (AD AG (AD AG (AD AG AK)))) (AD (Ar (AD AG (AD AG (AD AG AK)))) (AD (Ar (AD AG (AD AG (AD AG AK)))) AK))))))) (pv 0) (λ_ _=>rfl))))
theorem lW:K' P w mg base 1 "_law_size" ["_law_c"] L9:=Aj (f:=409) (c:=408) (pm:=M_) (st:=XN) X G λF=>K_ F (oA ) λa b d e=>(AO (AZ (Ar (AD (A4 HV rfl B.abs HS (AD (xI AW (pv 0)) AK)) (AD (xI AW (pv 0)) AK)))))
theorem lZ:K' P w mg base 1 "_law_no_common" ["_law_wholes"] L8:=Aj (f:=463) (c:=462) (pm:=M_) (st:=XW) X G λF=>K_ F (nJ ) λb a d e=>(AJ (Bu PassesOwn.never rfl (IU rfl B.enumerate (AD (pv 0) AK)) (Cf rfl (BL (Ab (i:=1) a rfl li) (BL (Ab (i:=2) a rfl li) Ce))) (AO (Bu PassesOwn.never rfl (Bz (GW HY (pv 0) IO (FO (pv 1)))) (Ab (i:=3) a rfl li) (AJ (JX (i:=4) (j:=5) rfl a rfl rfl `b rfl rfl (AD (pv 2) (AD (pv 3) AK)) rfl) (AJ (Dc PassesOwn.never (cR Dn (pv 5) AG) (AO (JX (i:=4) (j:=5) rfl a rfl rfl `b rfl rfl (AD (pv 5) (AD (AQ Cw (pv 4) (pv 5)) AK)) rfl))) (AO (Bg (cR Dx (pv 4) AG) (AO (AZ EE)) Bq))))))) (AO (AZ EE)))
theorem kA:K' P w mg base 1 "_law_has" ["_law_drawn_here","_law_c"] MF:=Aj (f:=475) (c:=474) (pm:=M_) (st:=XY) X G λF=>K_ F (nO ) λd a e b=>(AJ (GU (pv 0) (Cf rfl (BL (Ab (i:=2) a rfl li) (BL (Ab (i:=3) a rfl li) Ce)))) (AJ (E_ a (CG AK)) (AJ (Bu PassesOwn.never rfl (Bz (pv 2)) (Cf rfl (BL (Ab (i:=5) a rfl li) (BL (Ab (i:=6) a rfl li) (BL (Ab (i:=7) a rfl li) Ce)))) (AO (E_ a (AQ Jh (pv 4) (pv 6))))) (AO (AZ (IN (Y8 b) (pv 1) (DE (N:=["_law_a"]) (capt:=[none]) (xo:=none) rfl (BlkOk1.of rfl rfl (λ_=>{2,λ_=>rfl}) rfl (λ_ h=>nomatch h) rfl rfl rfl) (Bz (AQ Jh (pv 4) (DE (N:=["_law_pole"]) (capt:=[none]) (xo:=none) rfl (BlkOk1.of rfl rfl (λ_=>{2,λ_=>rfl}) rfl (λ_ h=>nomatch h) rfl rfl rfl) (Bz (xI AW (pv 3))) (λ_ _ _ _=>(Ab (i:=0) (show (["_law_pole"]:di).Nodup by decide +kernel) rfl li)) (λ_ _ _ _=>(xI AW (pv 0)))))) (λ_ _ _ _=>(Ab (i:=0) (show (["_law_a"]:di).Nodup by decide +kernel) rfl li)) (λ_ _ _ _=>(Ar (AD (pv 0) (AD AG AK))))) rfl))))))
theorem Um:K' P w mg base 2 "content" ["row","start"] Ii:=Aj (f:=34) (c:=33) (pm:=P_) (st:=WE) X G λF=>K_ F (uM ) λb a d e=>(AJ (E_ a ((Ff X G B).q2 b (ZT rfl B.min X8 (Os (N:=["whole"]) (capt:=[none]) (xo:=none) rfl (BlkOk1.of rfl rfl (λ_=>{2,λ_=>rfl}) rfl (λ_ h=>nomatch h) rfl rfl rfl) (Bz (pv 0)) (λ_ _ _ _=>(Ab (i:=0) (show (["whole"]:di).Nodup by decide +kernel) rfl li)) (λ_ _ _ _=>(cR Dx (pv 0) AG)) (λ_ _ _ _=>(A4 HV rfl B.abs HS (AD (pv 0) AK))))) (pv 1))) (AJ (Bu PassesOwn.never rfl (Bz (pv 0)) (Ab (i:=3) a rfl li) (AJ (Bg (cR FK (pv 2) AG) (AO (AZ AG)) Bq) (AO (E_ a ((Ff X G B).q2 b (pv 3) (pv 2)))))) (AO (AZ (pv 2)))))
theorem Uo:K' P w mg base 2 "row_less" ["row","factor","other","weight","shift"] Ik:=Aj (f:=65) (c:=64) (pm:=P_) (st:=WJ) X G λF=>K_ F (uP ) λb a d e=>(AJ (Ia (i:=5) (N:=["whole","factor"]) (capt:=[none,some 1]) (xo:=none) a rfl li rfl (BlkOk1.of rfl rfl (λ_=>{2,λ_=>rfl}) rfl (DL.mpr rfl) rfl rfl rfl) (Bz (pv 0)) (λ_ _ _ _=>(Ab (i:=0) (show (["whole","factor"]:di).Nodup by decide +kernel) rfl li)) (λ_ _ _ _=>(AQ BQ (pv 1) (pv 0)))) (AJ (EF (Ex bA PySem.F.slot_list_extend PySem.F.type_list_extend N7 (pv 5) (AD (AQ GX (CG (AD AG AK)) (AQ CQ (AQ Ba (A4 CS rfl B.len Bj (AD (pv 2) AK)) (pv 4)) (A4 CS rfl B.len Bj (AD (pv 0) AK)))) AK))) (AJ (Bu PassesOwn.never rfl (IU rfl B.enumerate (AD (pv 2) AK)) (Cf rfl (BL (Ab (i:=6) a rfl li) (BL (Ab (i:=7) a rfl li) Ce))) (AO (JY (pv 5) (AQ Ba (pv 6) (pv 4)) Ju (AQ BQ (pv 3) (pv 7)) IM Fs))) (AO (AZ ((NG X G B).q1 b (pv 5)))))))
theorem NH:K' P w mg base 2 "row_modulo" ["row","prime"] Ho:=Aj (f:=108) (c:=107) (pm:=P_) (st:=WT) X G λF=>K_ F (uV ) λa b d e=>(AO (AZ ((NG X G B).q1 a ((lK X G B).q2 a (pv 0) (pv 1)))))
theorem NI:K' P w mg base 2 "monic_modulo" ["row","prime"] Hr:=Aj (f:=113) (c:=112) (pm:=P_) (st:=WU) X G λF=>K_ F (uX ) λa b d e=>(AJ (Bg (Dw (E1 (pv 0) (λ_=>rfl))) (AO (AZ (CG AK))) Bq) (AJ (EX (i:=2) b rfl (Or.inr rfl) ((lJ X G B).q2 a (Bw Bb (pv 0) (B2 B3 AG) (λ_ _=>rfl)) (pv 1))) (AO (AZ (DE (N:=["whole","prime","factor"]) (capt:=[none,some 1,some 2]) (xo:=none) rfl (BlkOk1.of rfl rfl (λ_=>{2,λ_=>rfl}) rfl (List.forall_mem_cons.mpr {2,(DL.mpr rfl)}) rfl rfl rfl) (Bz (pv 0)) (λ_ _ _ _=>(Ab (i:=0) (show (["whole","prime","factor"]:di).Nodup by decide +kernel) rfl li)) (λ_ _ _ _=>(AQ Cw (AQ BQ (pv 0) (pv 2)) (pv 1))))))))
theorem IF:K' P w mg base 2 "ratio" ["top","bottom"] E5:=Aj (f:=160) (c:=159) (pm:=aS) (st:=Wb) X G λF=>K_ F (uF ) λb a d e=>(AJ (E_ a ((Ff X G B).q2 b (pv 0) (pv 1))) (AJ (Bg (cR Fq (pv 1) AG) (AO (E_ a (B2 B3 (pv 2)))) Bq) (AO (AZ (Ar (AD (AQ Ee (pv 0) (pv 2)) (AD (AQ Ee (pv 1) (pv 2)) AK)))))))
theorem HG:K' P w mg base 2 "cleared" ["P"] E6:=Aj (f:=200) (c:=199) (pm:=Z_) (st:=Wj) X G λF=>K_ F (uG ) λb a d e=>(AJ (EX (i:=1) a rfl (Or.inr rfl) AG) (AJ (Bu PassesOwn.never rfl (LU (pv 0)) (Ab (i:=2) a rfl li) (AO (FJ (i:=1) a rfl (Or.inr rfl) (AQ Gb (xI AW (pv 2)) ((Ff X G B).q2 b (pv 1) (xI AW (pv 2)))) IS))) (AO (AZ (Ar (AD (DE (N:=["number","bottom"]) (capt:=[none,some 1]) (xo:=none) rfl (BlkOk1.of rfl rfl (λ_=>{2,λ_=>rfl}) rfl (DL.mpr rfl) rfl rfl rfl) (LU (pv 0)) (λ_ _ _ _=>(Ab (i:=0) (show (["number","bottom"]:di).Nodup by decide +kernel) rfl li)) (λ_ _ _ _=>(AQ BQ (xI AW (pv 0)) (AQ Gb (pv 1) (xI AW (pv 0)))))) (AD (pv 1) AK)))))))
theorem JU:K' P w mg base 2 "_law_plus" ["_law_one","_law_other"] Gv:=Aj (f:=335) (c:=334) (pm:=M_) (st:=W9) X G λF=>K_ F (pE ) λa b d e=>(AO (AZ ((HF X G B).q2 a (AQ Ba (AQ BQ (xI AW (pv 0)) (xI AW (pv 1))) (AQ BQ (xI AW (pv 1)) (xI AW (pv 0)))) (AQ BQ (xI AW (pv 0)) (xI AW (pv 1))))))
theorem JV:K' P w mg base 2 "_law_times" ["_law_one","_law_other"] Gw:=Aj (f:=342) (c:=341) (pm:=M_) (st:=XA) X G λF=>K_ F (pH ) λa b d e=>(AO (AZ ((HF X G B).q2 a (AQ BQ (xI AW (pv 0)) (xI AW (pv 1))) (AQ BQ (xI AW (pv 0)) (xI AW (pv 1))))))
theorem NJ:K' P w mg base 2 "_law_is_number" ["_law_found"] Ix:=Aj (f:=356) (c:=355) (pm:=M_) (st:=XC) X G λF=>K_ F (pM ) λa b d e=>(AJ (Bg (PW.pt (DZ (Dw (Dl (A4 HW rfl B.isinstance HU (AD (pv 0) (AD (HJ rfl B.tuple FR rfl) AK))))) (Et (cR Dx (A4 Ez rfl B.len Bj (AD (pv 0) AK)) AG)))) (AO (AZ EE)) Bq) (AJ (Bu PassesOwn.never rfl (IL (pv 0)) (Ab (i:=1) b rfl li) (AO (Bg (PW.pt (DZ (Dw (Dl (A4 HW rfl B.isinstance HU (AD (pv 1) (AD (HJ rfl B.int X9 rfl) AK))))) (Et (Dl (A4 HW rfl B.isinstance HU (AD (pv 1) (AD (HJ rfl B.bool YA rfl) AK))))))) (AO (AZ EE)) Bq))) (AO (AZ (VF (IN Dn (xI AW (pv 0)) AG (X_ _)) (VE (IN (OF d) (pv 0) ((HF X G B).q2 a (xI AW (pv 0)) (xI AW (pv 0))) (X_ _))))))))
theorem kB:K' P w mg base 2 "_law_groups" ["_law_cell","_law_places"] MI:=Aj (f:=380) (c:=379) (pm:=M_) (st:=XG) X G λF=>K_ F (mC ) λb a d e=>(AJ (E_ a (CG AK)) (AJ (E_ a AG) (AJ (E_ a (AQ Ba AG ((DU X G B).q3 b (pv 0) AG AG))) (AJ (E_ a ((DU X G B).q3 b (pv 0) AG AG)) (AJ (Bg (cR FK ((DU X G B).q3 b (pv 0) AG AG) AG) (AO (E_ a AG)) Bq) (AJ (Bu PassesOwn.never rfl (Ev rfl B.range (AD (pv 5) AK)) (Ab (i:=6) a rfl (Or.inr rfl)) (AJ (E_ a (AQ Ba AG ((DU X G B).q3 b (pv 0) (AQ Ba AG (pv 6)) AG))) (AJ (Oq (i:=8) (N:=["_law_m","_law_g"]) (capt:=[none,some 6]) (xo:=none) a rfl li rfl (BlkOk1.of rfl rfl (λ_=>{2,λ_=>rfl}) rfl (DL.mpr rfl) rfl rfl rfl) (Bz (CG (AD ((DU X G B).q3 b (pv 0) (AQ Ba AG (pv 6)) AG) AK))) (λ_ _ _ _=>(Ab (i:=0) (show (["_law_m","_law_g"]:di).Nodup by decide +kernel) rfl li)) (λ_ _ _ _=>(Ng Fq Fq AG (pv 0) AG)) (λ_ _ _ _=>(AQ Ba (AQ BQ AG (pv 1)) (pv 0)))) (AJ (E_ a ((HF X G B).q2 b (Bw AW ((lV X G B).q1 b (pv 6)) ((DU X G B).q3 b (pv 0) (AQ Ba AG (pv 6)) AG) (λ_ _=>rfl)) (pv 4))) (AJ (EF (Ex bA bT cJ HQ (pv 2) (AD (Ar (AD (pv 9) (AD (GW HY (pv 1) (FO (pv 3)) (FO (AQ Ba (pv 3) (pv 7)))) (AD (pv 8) AK)))) AK))) (AO (E_ a (AQ Ba (pv 3) (pv 7))))))))) (AO (AZ (pv 2)))))))))
theorem kC:K' P w mg base 2 "_law_parts" ["_law_cell","_law_places"] MJ:=Aj (f:=385) (c:=384) (pm:=M_) (st:=XH) X G λF=>K_ F (mH ) λa b d e=>(AJ (E_ b ((DU X G B).q3 a (pv 0) AG AG)) (AJ (Ia (i:=3) (N:=["_law_j","_law_cell"]) (capt:=[none,some 0]) (xo:=none) b rfl li rfl (BlkOk1.of rfl rfl (λ_=>{2,λ_=>rfl}) rfl (DL.mpr rfl) rfl rfl rfl) (Ev rfl B.range (AD (pv 2) AK)) (λ_ _ _ _=>(Ab (i:=0) (show (["_law_j","_law_cell"]:di).Nodup by decide +kernel) rfl li)) (λ_ _ _ _=>((HF X G B).q2 a (AQ CQ ((DU X G B).q3 a (pv 1) (AQ Ba AG (pv 0)) AG) AG) (AQ Ba AG ((DU X G B).q3 a (pv 1) AG AG))))) (AJ (E_ b (CG AK)) (AJ (Bu PassesOwn.never rfl (Ev rfl B.range (AD ((DU X G B).q3 a (pv 0) AG AG) AK)) (Ab (i:=5) b rfl li) (AJ (E_ b (Bw AW (Ar (AD (B2 B3 AG) (AD (B2 B3 AG) (AD AG (AD AG AK))))) ((DU X G B).q3 a (pv 0) (AQ Ba AG (pv 5)) AG) (λ_ _=>rfl))) (AO (EF (Ex bA bT cJ HQ (pv 4) (AD (Ar (AD (pv 6) (AD (Bw Bb (pv 1) (AQ Ba (AQ BQ AG (pv 5)) ((DU X G B).q3 a (pv 0) AG AG)) (λ_ _=>rfl)) (AD (AQ Ba AG ((DU X G B).q3 a (pv 0) (AQ Ba AG (pv 5)) AG)) AK)))) AK)))))) (AO (AZ (Ar (AD (pv 3) (AD (pv 4) AK)))))))))
theorem Up:K' P w mg base 2 "_law_v" ["_law_places","_law_squares"] Kc:=Aj (f:=397) (c:=396) (pm:=M_) (st:=XJ) X G λF=>K_ F (mP ) λb a d e=>(AJ (E_ a (CG (AD AG AK))) (AJ (Bu PassesOwn.never rfl (Bz (pv 0)) (Ab (i:=3) a rfl li) (AO (E_ a ((Uk X G B).q2 b (pv 2) (CG (AD (B2 B3 (pv 3)) (AD AG AK))))))) (AJ (Bu PassesOwn.never rfl (Bz (pv 1)) (Ab (i:=4) a rfl li) (AO (E_ a ((Uk X G B).q2 b (pv 2) (CG (AD (pv 4) (AD AG (AD AG AK)))))))) (AO (AZ (pv 2))))))
theorem kD:K' P w mg base 2 "_law_turn" ["_law_c"] MA:=Aj (f:=430) (c:=429) (pm:=M_) (st:=XR) X G λF=>K_ F (oC ) λa b d e=>(AO (AZ ((HF X G B).q2 a (xI AW (pv 0)) (xI AW (pv 0)))))
theorem Uq:K' P w mg base 3 "strand_shortened" ["strand"] Im:=Aj (f:=75) (c:=74) (pm:=P_) (st:=WM) X G λF=>K_ F (tG ) λb a d e=>(AJ (EX (i:=1) a rfl (Or.inr rfl) AG) (AJ (Bu PassesOwn.never rfl (Bz (pv 0)) (Ab (i:=2) a rfl li) (AO (EX (i:=1) a rfl (Or.inr rfl) ((Um X G B).q2 b (pv 2) (pv 1))))) (AO (AZ (DE (N:=["row","shared"]) (capt:=[none,some 1]) (xo:=none) rfl (BlkOk1.of rfl rfl (λ_=>{2,λ_=>rfl}) rfl (DL.mpr rfl) rfl rfl rfl) (Bz (pv 0)) (λ_ _ _ _=>(Ab (i:=0) (show (["row","shared"]:di).Nodup by decide +kernel) rfl li)) (λ_ _ _ _=>((Uh X G B).q2 b (pv 0) (pv 1))))))))
theorem kE:K' P w mg base 3 "split_modulo" ["row","divisor","modulus"] KK:=Aj (f:=120) (c:=119) (pm:=P_) (st:=WV) X G λF=>K_ F (tF ) λb a d e=>(AJ (E_ a (FN Jt rfl B.list Jo (AD (pv 0) AK))) (AJ (E_ a (AQ CQ (A4 CS rfl B.len Bj (AD (pv 1) AK)) AG)) (AJ (E_ a (AQ GX (CG (AD AG AK)) (A4 (Jp rfl) rfl B.max Jn (AD (AQ CQ (A4 CS rfl B.len Bj (AD (pv 0) AK)) (pv 4)) (AD AG AK))))) (AJ (Bu PassesOwn.never rfl (OM rfl B.range (AD (AQ CQ (AQ CQ (A4 CS rfl B.len Bj (AD (pv 0) AK)) (pv 4)) AG) (AD (B2 B3 AG) (AD (B2 B3 AG) AK)))) (Ab (i:=6) a rfl li) (AJ (E_ a (AQ Cw (Bw Bb (pv 3) (AQ Ba (pv 6) (pv 4)) (λ_ _=>rfl)) (pv 2))) (AJ (GU (pv 7) (IJ (pv 5) (pv 6) Fs)) (AO (Bg (cR Dx (pv 7) AG) (AO (Bu PassesOwn.never rfl (Ev rfl B.range (AD (pv 4) AK)) (Ab (i:=8) a rfl li) (AO (JY (pv 3) (AQ Ba (pv 6) (pv 8)) Ju (AQ BQ (pv 7) (Bw Bb (pv 1) (pv 8) (λ_ _=>rfl))) IM Fs)))) Bq))))) (AO (AZ (Ar (AD ((NG X G B).q1 b (pv 5)) (AD ((NH X G B).q2 b (GW HY (pv 3) IO (FO (pv 4))) (pv 2)) AK)))))))))
theorem Ur:K' P w mg base 3 "plus" ["one","other"] KT:=Aj (f:=167) (c:=166) (pm:=aS) (st:=We) X G λF=>K_ F (rB ) λa b d e=>(AO (AZ ((IF X G B).q2 a (AQ Ba (AQ BQ (xI AW (pv 0)) (xI AW (pv 1))) (AQ BQ (xI AW (pv 1)) (xI AW (pv 0)))) (AQ BQ (xI AW (pv 0)) (xI AW (pv 1))))))
theorem Us:K' P w mg base 3 "times" ["one","other"] KR:=Aj (f:=174) (c:=173) (pm:=aS) (st:=Wf) X G λF=>K_ F (sN ) λa b d e=>(AO (AZ ((IF X G B).q2 a (AQ BQ (xI AW (pv 0)) (xI AW (pv 1))) (AQ BQ (xI AW (pv 0)) (xI AW (pv 1))))))
theorem Ut:K' P w mg base 3 "over" ["one","other"] Ip:=Aj (f:=181) (c:=180) (pm:=aS) (st:=Wg) X G λF=>K_ F (sO ) λa b d e=>(AO (AZ ((IF X G B).q2 a (AQ BQ (xI AW (pv 0)) (xI AW (pv 1))) (AQ BQ (xI AW (pv 0)) (xI AW (pv 1))))))
theorem NK:K' P w mg base 3 "uncleared" ["row","bottom"] Hs:=Aj (f:=205) (c:=204) (pm:=Z_) (st:=Wk) X G λF=>K_ F (uH ) λa b d e=>(AO (AZ ((K3 X G B).q1 a (DE (N:=["whole","bottom"]) (capt:=[none,some 1]) (xo:=none) rfl (BlkOk1.of rfl rfl (λ_=>{2,λ_=>rfl}) rfl (DL.mpr rfl) rfl rfl rfl) (Bz (pv 0)) (λ_ _ _ _=>(Ab (i:=0) (show (["whole","bottom"]:di).Nodup by decide +kernel) rfl li)) (λ_ _ _ _=>((IF X G B).q2 a (pv 0) (pv 1)))))))
theorem NL:K' P w mg base 3 "p_at" ["P","c"] Iu:=Aj (f:=250) (c:=249) (pm:=Z_) (st:=Ww) X G λF=>K_ F (qZ ) λb a d e=>(AJ (E_ a ((HG X G B).q1 b (pv 0))) (AJ (E_ a AG) (AJ (E_ a AG) (AJ (Bu PassesOwn.never rfl (Yo rfl B.reversed (AD (xI AW (pv 2)) AK)) (Ab (i:=5) a rfl li) (AJ (E_ a (AQ Ba (AQ BQ (pv 3) (xI AW (pv 1))) (AQ BQ (pv 5) (pv 4)))) (AO (FJ (i:=4) a rfl li (xI AW (pv 1)) IS)))) (AO (AZ ((IF X G B).q2 b (AQ BQ (pv 3) (xI AW (pv 1))) (AQ BQ (xI AW (pv 2)) (pv 4)))))))))
theorem kF:K' P w mg base 3 "_law_drawn" ["_law_cell"] MK:=Aj (f:=390) (c:=389) (pm:=M_) (st:=XI) X G λF=>K_ F (mJ ) λa b d e=>(AJ (EX (i:=1) b rfl (Or.inr rfl) ((DU X G B).q3 a (pv 0) AG AG)) (AJ (Ia (i:=2) (N:=["_law_j","_law_first"]) (capt:=[none,some 1]) (xo:=none) b rfl li rfl (BlkOk1.of rfl rfl (λ_=>{2,λ_=>rfl}) rfl (DL.mpr rfl) rfl rfl rfl) (Ev rfl B.range (AD AG AK)) (λ_ _ _ _=>(Ab (i:=0) (show (["_law_j","_law_first"]:di).Nodup by decide +kernel) rfl li)) (λ_ _ _ _=>(AQ CQ (AQ Cw (AQ Ba (pv 1) (AQ BQ AG (pv 0))) AG) AG))) (AO (AZ (Ar (AD ((kB X G B).q2 a (pv 0) (pv 2)) (AD ((kC X G B).q2 a (pv 0) (pv 2)) AK)))))))
theorem Uu:K' P w mg base 3 "_law_power" ["_law_c","_law_many"] KZ:=Aj (f:=416) (c:=415) (pm:=M_) (st:=XO) X G λF=>K_ F (oD ) λb a d e=>(AJ (E_ a (Ar (AD AG (AD AG AK)))) (AJ (Bu PassesOwn.never rfl (Ev rfl B.range (AD (pv 1) AK)) (Ab (i:=3) a rfl li) (AO (E_ a ((JV X G B).q2 b (pv 2) (pv 0))))) (AO (AZ (pv 2)))))
theorem NM:K' P w mg base 3 "_law_less" ["_law_c","_law_a"] Iy:=Aj (f:=423) (c:=422) (pm:=M_) (st:=XQ) X G λF=>K_ F (oB ) λa b d e=>(AO (AZ ((JU X G B).q2 a (pv 0) (Ar (AD (B2 B3 (pv 1)) (AD AG AK))))))
theorem Uv:K' P w mg base 3 "_law_add_whole" ["_law_weights","_law_entire","_law_c"] Iz:=Aj (f:=451) (c:=450) (pm:=M_) (st:=XU) X G λF=>K_ F (nE ) λb a d e=>(AJ (E_ a AG) (AO (Dc PassesOwn.never (cR Dn (pv 1) AG) (AJ (Bg (PW.pt (DZ (cR Dn (pv 3) (AQ OD AG AG)) (Et (cR Dn (AQ BQ (pv 3) (pv 3)) (pv 1))))) (AO (E_ a (pv 1))) Bq) (AJ (Dc PassesOwn.never (cR FK (AQ Cw (pv 1) (pv 3)) AG) (AJ (E_ a (AQ Gb (pv 1) (pv 3))) (AO (GU ((JU X G B).q2 b (Ex PySem.F.plainAttrs_dict PySem.F.slot_dict_get PySem.F.type_dict_get Zk (pv 0) (AD (pv 3) (AD (Ar (AD AG (AD AG AK))) AK))) (pv 2)) (IJ (pv 0) (pv 3) Zh))))) (AO (E_ a (AQ Ba (pv 3) AG))))))))
theorem kG:K' P w mg base 4 "strand_rest" ["strand","other"] KH:=Aj (f:=70) (c:=69) (pm:=P_) (st:=WK) X G λF=>K_ F (tJ ) λb a d e=>(AJ (Dc PassesOwn.never (cR Nd (A4 CS rfl B.len Bj (AD (xI Bb (pv 0)) AK)) (A4 CS rfl B.len Bj (AD (xI Bb (pv 1)) AK))) (AJ (EX (i:=2) a rfl (Or.inr rfl) (AQ CQ (A4 CS rfl B.len Bj (AD (xI Bb (pv 0)) AK)) (A4 CS rfl B.len Bj (AD (xI Bb (pv 1)) AK)))) (AJ (E_ a (Bw Bb (xI Bb (pv 0)) (B2 B3 AG) (λ_ _=>rfl))) (AJ (E_ a (Bw Bb (xI Bb (pv 1)) (B2 B3 AG) (λ_ _=>rfl))) (AJ (E_ a ((Ff X G B).q2 b (pv 3) (pv 4))) (AJ (EX (i:=6) a rfl (Or.inr rfl) (AQ Ee (pv 4) (pv 5))) (AJ (EX (i:=7) a rfl (Or.inr rfl) (AQ Ee (pv 3) (pv 5))) (AO (Ia (i:=0) (N:=["row","follower","factor","weight","shift"]) (capt:=[none,none,some 6,some 7,some 2]) (xo:=none) a rfl li rfl (BlkOk1.of rfl rfl (λ_=>{2,λ_=>rfl}) rfl (List.forall_mem_cons.mpr {2,(List.forall_mem_cons.mpr {2,(DL.mpr rfl)})}) rfl rfl rfl) (Yv rfl B.zip (AD (pv 0) (AD (pv 1) AK))) (λ_ _ _ _=>(Cf rfl (BL (Ab (i:=0) (show (["row","follower","factor","weight","shift"]:di).Nodup by decide +kernel) rfl li) (BL (Ab (i:=1) (show (["row","follower","factor","weight","shift"]:di).Nodup by decide +kernel) rfl li) Ce)))) (λ_ _ _ _=>((Uo X G B).pe b `b rfl (AD (pv 0) (AD (pv 2) (AD (pv 1) (AD (pv 3) (AD (pv 4) AK)))))))))))))))) (AO (AZ ((Uq X G B).q1 b (pv 0)))))
theorem NO:K' P w mg base 4 "row_shortened" ["row"] Hn:=Aj (f:=82) (c:=81) (pm:=P_) (st:=WN) X G λF=>K_ F (tI ) λa b d e=>(AO (AZ (xI Bb ((Uq X G B).q1 a (CG (AD (pv 0) AK))))))
theorem kH:K' P w mg base 4 "rest_modulo" ["row","divisor","modulus"] KL:=Aj (f:=127) (c:=126) (pm:=P_) (st:=WW) X G λF=>K_ F (uZ ) λa b d e=>(AO (AZ (xI AW ((kE X G B).q3 a (pv 0) (pv 1) (pv 2)))))
theorem kI:K' P w mg base 4 "p_plus" ["P","Q"] Ly:=Aj (f:=217) (c:=216) (pm:=Z_) (st:=Wn) X G λF=>K_ F (rH ) λa b d e=>(AO (AZ ((K3 X G B).q1 a (DE (N:=["place","P","Q"]) (capt:=[none,some 0,some 1]) (xo:=none) rfl (BlkOk1.of rfl rfl (λ_=>{2,λ_=>rfl}) rfl (List.forall_mem_cons.mpr {2,(DL.mpr rfl)}) rfl rfl rfl) (Ev rfl B.range (AD (A4 (Jp rfl) rfl B.max Jn (AD (A4 Ez rfl B.len Bj (AD (pv 0) AK)) (AD (A4 Ez rfl B.len Bj (AD (pv 1) AK)) AK))) AK)) (λ_ _ _ _=>(Ab (i:=0) (show (["place","P","Q"]:di).Nodup by decide +kernel) rfl li)) (λ_ _ _ _=>((Ur X G B).q2 a ((Uj X G B).q2 a (pv 1) (pv 0)) ((Uj X G B).q2 a (pv 2) (pv 0))))))))
theorem NP:K' P w mg base 4 "p_times" ["P","Q"] Gu:=Aj (f:=224) (c:=223) (pm:=Z_) (st:=Wq) X G λF=>K_ F (sQ ) λa b d e=>(AJ (E_ b ((HG X G B).q1 a (pv 0))) (AJ (E_ b ((HG X G B).q1 a (pv 1))) (AO (AZ ((NK X G B).q2 a ((lI X G B).q2 a (xI AW (pv 2)) (xI AW (pv 3))) (AQ BQ (xI AW (pv 2)) (xI AW (pv 3))))))))
theorem Uw:K' P w mg base 4 "p_scaled" ["P","c"] Iq:=Aj (f:=229) (c:=228) (pm:=Z_) (st:=Ws) X G λF=>K_ F (sR ) λa b d e=>(AO (AZ ((K3 X G B).q1 a (DE (N:=["number","c"]) (capt:=[none,some 1]) (xo:=none) rfl (BlkOk1.of rfl rfl (λ_=>{2,λ_=>rfl}) rfl (DL.mpr rfl) rfl rfl rfl) (IL (pv 0)) (λ_ _ _ _=>(Ab (i:=0) (show (["number","c"]:di).Nodup by decide +kernel) rfl li)) (λ_ _ _ _=>((Us X G B).q2 a (pv 0) (pv 1)))))))
theorem kJ:K' P w mg base 4 "p_split" ["P","Q"] KQ:=Aj (f:=236) (c:=235) (pm:=Z_) (st:=Wu) X G λF=>K_ F (sJ ) λb a d e=>(AJ (E_ a ((HG X G B).q1 b (pv 0))) (AJ (E_ a ((HG X G B).q1 b (pv 1))) (AJ (E_ a (xI AW (pv 2))) (AJ (E_ a (xI AW (pv 2))) (AJ (E_ a (Bw Bb (xI AW (pv 3)) (B2 B3 AG) (λ_ _=>rfl))) (AJ (E_ a (AQ GX (CG (AD (Ar (AD AG (AD AG AK))) AK)) (A4 (Jp rfl) rfl B.max Jn (AD (AQ Ba (AQ CQ (A4 Ez rfl B.len Bj (AD (pv 0) AK)) (A4 Ez rfl B.len Bj (AD (pv 1) AK))) AG) (AD AG AK))))) (AJ (Dc PassesOwn.never (cR Nd (A4 CS rfl B.len Bj (AD (pv 4) AK)) (A4 Ez rfl B.len Bj (AD (pv 1) AK))) (AJ (E_ a (AQ CQ (A4 CS rfl B.len Bj (AD (pv 4) AK)) (A4 Ez rfl B.len Bj (AD (pv 1) AK)))) (AJ (GU ((IF X G B).q2 b (AQ BQ (Bw Bb (pv 4) (B2 B3 AG) (λ_ _=>rfl)) (xI AW (pv 3))) (AQ BQ (pv 5) (pv 6))) (IJ (pv 7) (pv 8) Fs)) (AJ (E_ a ((Ff X G B).q2 b (Bw Bb (pv 4) (B2 B3 AG) (λ_ _=>rfl)) (pv 6))) (AJ (E_ a ((Uo X G B).pe b `b rfl (AD (pv 4) (AD (AQ Ee (pv 6) (pv 9)) (AD (xI AW (pv 3)) (AD (AQ Ee (Bw Bb (pv 4) (B2 B3 AG) (λ_ _=>rfl)) (pv 9)) (AD (pv 8) AK))))))) (AJ (FJ (i:=5) a rfl li (AQ Ee (pv 6) (pv 9)) IS) (AJ (E_ a ((Um X G B).q2 b (pv 4) (pv 5))) (AJ (E_ a ((Uh X G B).q2 b (pv 4) (pv 10))) (AO (FJ (i:=5) a rfl li (pv 10) Yz)))))))))) (AO (AZ (Ar (AD ((K3 X G B).q1 b (pv 7)) (AD ((NK X G B).q2 b (pv 4) (pv 5)) AK))))))))))))
theorem kK:K' P w mg base 4 "f_at" ["F","c"] L0:=Aj (f:=285) (c:=284) (pm:=aU) (st:=W2) X G λF=>K_ F (pC ) λa b e d=>(AJ (E_ b ((NL X G B).q2 a (xI AW (pv 0)) (pv 1))) (AO (AZ (II (cR (LE d) (pv 2) (Ar (AD AG (AD AG AK)))) EW ((Ut X G B).q2 a ((NL X G B).q2 a (xI AW (pv 0)) (pv 1)) (pv 2))))))
theorem kL:K' P w mg base 4 "pieces_of_two" ["one","other"] L4:=Aj (f:=302) (c:=301) (pm:=bH) (st:=W4) X G λF=>K_ F (qK ) λa b d e=>(AJ (E_ b ((Ff X G B).q2 a (xI AW (pv 0)) (xI AW (pv 1)))) (AO (AZ (CG (AD (Ar (AD (xI AW (pv 0)) (AD (AQ Gb (xI AW (pv 0)) (pv 2)) AK))) (AD (Ar (AD (xI AW (pv 1)) (AD (AQ Gb (xI AW (pv 1)) (pv 2)) AK))) (AD (Ar (AD ((Ur X G B).q2 a (xI AW (pv 0)) (xI AW (pv 1))) (AD (pv 2) AK))) AK)))))))
theorem kM:K' P w mg base 4 "_law_part_at" ["_law_parts_here","_law_c"] MC:=Aj (f:=437) (c:=436) (pm:=M_) (st:=XS) X G λF=>K_ F (oH ) λa b d e=>(AJ (E_ b (Ar (AD AG (AD AG AK)))) (AJ (Bu PassesOwn.never rfl (IU rfl B.enumerate (AD (xI AW (pv 0)) AK)) (Cf rfl (BL (Ab (i:=3) b rfl li) (BL (Ab (i:=4) b rfl li) Ce))) (AO (E_ b ((JU X G B).q2 a (pv 2) ((JV X G B).q2 a (pv 4) ((Uu X G B).q2 a (pv 1) (pv 3))))))) (AJ (Bu PassesOwn.never rfl (Bz (xI AW (pv 0))) (Cf rfl (BL (Ab (i:=5) b rfl li) (BL (Ab (i:=6) b rfl li) (BL (Ab (i:=7) b rfl li) Ce)))) (AO (E_ b ((JU X G B).q2 a (pv 2) ((JV X G B).q2 a (Ar (AD (pv 5) (AD AG AK))) ((kD X G B).q1 a ((Uu X G B).q2 a ((NM X G B).q2 a (pv 1) (pv 6)) (pv 7)))))))) (AO (AZ (pv 2))))))
theorem kO:K' P w mg base 4 "_law_log_rows" ["_law_groups_here","_law_c"] MD:=Aj (f:=444) (c:=443) (pm:=M_) (st:=XT) X G λF=>K_ F (oP ) λb a e d=>(AJ (E_ a (CG AK)) (AJ (Bu PassesOwn.never rfl (Bz (pv 0)) (Cf rfl (BL (Ab (i:=3) a rfl li) (BL (Ab (i:=4) a rfl li) (BL (Ab (i:=5) a rfl li) Ce)))) (AJ (Bu PassesOwn.never rfl (Bz (pv 4)) (Ab (i:=6) a rfl li) (AO (Bg (cR (IW d) ((NM X G B).q2 b (pv 1) (pv 6)) (Ar (AD AG (AD AG AK)))) (AO (EF (Ex bA bT cJ HQ (pv 2) (AD (Ar (AD (pv 3) (AD ((lW X G B).q1 b ((NM X G B).q2 b (pv 1) (pv 6))) AK))) AK)))) Bq))) (AO (Bu PassesOwn.never rfl (Bz (pv 5)) (Ab (i:=7) a rfl li) (AO (EF (Ex bA bT cJ HQ (pv 2) (AD (Ar (AD (pv 3) (AD ((JU X G B).q2 b ((JV X G B).q2 b (pv 1) (pv 1)) (Ar (AD (pv 7) (AD AG AK)))) AK))) AK)))))))) (AO (AZ (pv 2)))))
theorem Ux:K' P w mg base 4 "_law_weights_of" ["_law_rows"] Ka:=Aj (f:=456) (c:=455) (pm:=M_) (st:=XV) X G λF=>K_ F (nG ) λa b e d=>(AJ (E_ b Zg) (AJ (Bu PassesOwn.never rfl (LU (pv 0)) (Cf rfl (BL (Ab (i:=2) b rfl li) (BL (Ab (i:=3) b rfl li) Ce))) (AJ (EF ((Uv X G B).q3 a (pv 1) (xI AW (pv 3)) (pv 2))) (AO (EF ((Uv X G B).q3 a (pv 1) (xI AW (pv 3)) ((JV X G B).q2 a (pv 2) (Ar (AD (B2 B3 AG) (AD AG AK))))))))) (AO (AZ (A4 Zs rfl B.sorted LK (AD (Os (N:=["_law_prime","_law_c"]) (capt:=[none,none]) (xo:=none) rfl (BlkOk1.of rfl rfl (λ_=>{2,λ_=>rfl}) rfl (λ_ h=>nomatch h) rfl rfl rfl) (Zo (pv 1)) (λ_ _ _ _=>(Cf rfl (BL (Ab (i:=0) (show (["_law_prime","_law_c"]:di).Nodup by decide +kernel) rfl li) (BL (Ab (i:=1) (show (["_law_prime","_law_c"]:di).Nodup by decide +kernel) rfl li) Ce)))) (λ_ _ _ _=>(cR (IW d) (pv 1) (Ar (AD AG (AD AG AK))))) (λ_ _ _ _=>(Ar (AD (pv 0) (AD (pv 1) AK))))) AK))))))
theorem kP:K' P w mg base 5 "strand_euclid" ["strand","other"] Io:=Aj (f:=89) (c:=88) (pm:=P_) (st:=WO) X G λF=>K_ F (tK ) λb a d e=>(AJ (Dc PassesOwn.never (E1 (xI Bb (pv 1)) (λ_=>rfl)) (AJ (Bg (cR FK (A4 CS rfl B.len Bj (AD (xI Bb (pv 1)) AK)) AG) (AO (AZ (pv 1))) Bq) (AJ (E_ a ((kG X G B).q2 b (pv 0) (pv 1))) (AJ (E_ a (pv 1)) (AO (E_ a (pv 2))))))) (AO (AZ (pv 0))))
theorem kQ:K' P w mg base 5 "euclid_modulo" ["row","other","prime"] KM:=Aj (f:=134) (c:=133) (pm:=P_) (st:=WX) X G λF=>K_ F (tE ) λa b d e=>(AJ (E_ b ((NI X G B).q2 a ((NH X G B).q2 a (pv 0) (pv 2)) (pv 2))) (AJ (E_ b ((NI X G B).q2 a ((NH X G B).q2 a (pv 1) (pv 2)) (pv 2))) (AJ (Dc PassesOwn.never (E1 (pv 1) (λ_=>rfl)) (AJ (E_ b ((kH X G B).q3 a (pv 0) (pv 1) (pv 2))) (AJ (E_ b (pv 1)) (AO (E_ b ((NI X G B).q2 a (pv 3) (pv 2))))))) (AO (AZ (pv 0))))))
theorem kS:K' P w mg base 5 "evened" ["P","Q"] KU:=Aj (f:=264) (c:=263) (pm:=aU) (st:=Wy) X G λF=>K_ F (sY ) λa b d e=>(AJ (E_ b ((Ut X G B).q2 a (Ar (AD AG (AD AG AK))) (Bw AW (pv 1) (B2 B3 AG) (λ_ _=>rfl)))) (AO (AZ (Ar (AD ((Uw X G B).q2 a (pv 0) (pv 2)) (AD ((Uw X G B).q2 a (pv 1) (pv 2)) AK))))))
theorem IG:K' P w mg base 5 "quotient" ["P","Q"] E7:=Aj (f:=271) (c:=270) (pm:=aU) (st:=Wz) X G λF=>K_ F (sU ) λa b d e=>(AO (AZ (xI AW ((kJ X G B).q2 a (pv 0) (pv 1)))))
theorem kT:K' P w mg base 5 "without_common" ["pieces"] L5:=Aj (f:=295) (c:=294) (pm:=bH) (st:=W3) X G λF=>K_ F (qT ) λb a e d=>(AJ (E_ a (FN Jt rfl B.list Jo (AD (pv 0) AK))) (AJ (E_ a (CG AK)) (AJ (Dc PassesOwn.never (E1 (pv 1) (λ_=>rfl)) (AJ (EX (i:=3) a rfl (Or.inr rfl) (N3 bA PySem.F.slot_list_pop PySem.F.type_list_pop N8 (pv 1))) (AO (Bg (PW.pt (HL (cR Dx (xI AW (xI AW (pv 3))) AG) (HK (cR Dn (xI AW (pv 3)) AG)))) (AJ (Oq (i:=4) (N:=["other","piece"]) (capt:=[none,some 3]) (xo:=none) a rfl li rfl (BlkOk1.of rfl rfl (λ_=>{2,λ_=>rfl}) rfl (DL.mpr rfl) rfl rfl rfl) (Bz (pv 2)) (λ_ _ _ _=>(Ab (i:=0) (show (["other","piece"]:di).Nodup by decide +kernel) rfl li)) (λ_ _ _ _=>(cR Dn ((Ff X G B).q2 b (xI AW (pv 1)) (xI AW (pv 0))) AG)) (λ_ _ _ _=>(pv 0))) (AO (Bg (E1 (pv 4) (λ_=>rfl)) (AJ (EF (Ex bA PySem.F.slot_list_remove PySem.F.type_list_remove (ZJ d) (pv 2) (AD (xI Bb (pv 4)) AK))) (AO (EF (Ex bA PySem.F.slot_list_extend PySem.F.type_list_extend N7 (pv 1) (AD ((kL X G B).q2 b (pv 3) (xI Bb (pv 4))) AK))))) (AO (EF (Ex bA bT cJ HQ (pv 2) (AD (pv 3) AK))))))) Bq)))) (AO (AZ (pv 2))))))
theorem kU:K' P w mg base 5 "_law_is_worth" ["_law_found","_law_q","_law_rows"] MG:=Aj (f:=470) (c:=469) (pm:=M_) (st:=XX) X G λF=>K_ F (nK ) λa d e b=>(AJ (Bg (PW.pt (DZ (Dw (Dl (A4 HW rfl B.isinstance HU (AD (pv 0) (AD (HJ rfl B.tuple FR rfl) AK))))) (DZ (cR Dx (A4 Ez rfl B.len Bj (AD (pv 0) AK)) AG) (DZ (Dw (Dl ((NJ X G B).q1 a (xI AW (pv 0))))) (Et (cR (IW b) (xI AW (pv 0)) (pv 1))))))) (AO (AZ EE)) Bq) (AJ (Bg (Dw (Dl (A4 HW rfl B.isinstance HU (AD (xI AW (pv 0)) (AD (HJ rfl B.tuple FR rfl) AK))))) (AO (AZ EE)) Bq) (AJ (E_ d (CG AK)) (AJ (Bu PassesOwn.never rfl (IL (xI AW (pv 0))) (Ab (i:=4) d rfl li) (AJ (Bg (PW.pt (DZ (Dw (Dl (A4 HW rfl B.isinstance HU (AD (pv 4) (AD (HJ rfl B.tuple FR rfl) AK))))) (DZ (cR Dx (A4 Ez rfl B.len Bj (AD (pv 4) AK)) AG) (DZ (Dw (Dl ((NJ X G B).q1 a (xI AW (pv 4))))) (Et (cR (OF e) (xI AW (pv 4)) (Ar (AD AG (AD AG AK))))))))) (AO (AZ EE)) Bq) (AJ (Bg (PW.pt (DZ (Dw (Dl ((NJ X G B).q1 a (xI AW (pv 4))))) (DZ (cR Dx (xI AW (xI AW (pv 4))) AG) (Et (cR Fq (xI AW (xI AW (pv 4))) AG))))) (AO (AZ EE)) Bq) (AO (EF (Ex bA bT cJ HQ (pv 3) (AD (xI AW (xI AW (pv 4))) AK))))))) (AJ (Bg (PW.pt (DZ (cR (IW b) (pv 3) (A4 ZC rfl B.sorted LK (AD (pv 3) AK))) (Et (Dw (Dl ((lZ X G B).q1 a (pv 3))))))) (AO (AZ EE)) Bq) (AO (AZ (IN (LE b) ((Ux X G B).q1 a (xI AW (pv 0))) ((Ux X G B).q1 a (pv 2)) (X_ _)))))))))
theorem kW:K' P w mg base 6 "common_by_prime" ["row","other","prime"] KO:=Aj (f:=146) (c:=145) (pm:=P_) (st:=WZ) X G λF=>K_ F (tS ) λa b d e=>(AJ (EX (i:=3) b rfl (Or.inr rfl) ((Ff X G B).q2 a (Bw Bb (pv 0) (B2 B3 AG) (λ_ _=>rfl)) (Bw Bb (pv 1) (B2 B3 AG) (λ_ _=>rfl)))) (AJ (Bg (cR FK (AQ Cw (pv 3) (pv 2)) AG) (AO (AZ EW)) Bq) (AJ (E_ b ((kQ X G B).q3 a (pv 0) (pv 1) (pv 2))) (AJ (E_ b ((NO X G B).q1 a (DE (N:=["whole","prime","lead"]) (capt:=[none,some 2,some 3]) (xo:=none) rfl (BlkOk1.of rfl rfl (λ_=>{2,λ_=>rfl}) rfl (List.forall_mem_cons.mpr {2,(DL.mpr rfl)}) rfl rfl rfl) (Bz (pv 4)) (λ_ _ _ _=>(Ab (i:=0) (show (["whole","prime","lead"]:di).Nodup by decide +kernel) rfl li)) (λ_ _ _ _=>((lO X G B).q2 a (AQ BQ (pv 2) (pv 0)) (pv 1)))))) (AJ (Bg (PW.pt (DZ (cR K7 ((Ui X G B).q2 a (pv 0) (pv 5)) EW) (Et (cR K7 ((Ui X G B).q2 a (pv 1) (pv 5)) EW)))) (AO (AZ EW)) Bq) (AO (AZ (pv 5))))))))
theorem kX (j:(hp w.params).In base):K' P w mg base 6 "settled_number" ["q","rows"] L6:=Aj (f:=290) (c:=289) (pm:=bH) (st:=N9) X G λ_=>mX (by kernel_rfl) (by kernel_rfl) (qY ) λ{A a s H E} b k o p=>by
 let m:W.CodeHd base 289 E8:=W.codeHd_of_K j (by kernel_rfl);let d:base.BuiltinsAt mg E8:=⟨4,{.type "module", some builtinsNs,.plain,#[]},W.mg_of X G (n := "__builtins__") (v:=.ref 4) (by kernel_rfl),`b,`b,`b,j 4 _ (by kernel_rfl),rfl,rfl,rfl⟩;let e:(FM ay P w (hp w.params) mg base ["q","rows","pieces","found"] "settled_number" (CI N9) 290 (.ref 289) A a s H E).nox.env.code=.ref 289:=rfl;let g:=b.depth;exact (AJ (E_ k (AQ Jh (DE (N:=["c","r"]) (capt:=[none,none]) (xo:=none) rfl (BlkOk1.of rfl rfl (λ_=>{2,λ_=>rfl}) rfl (λ_ h=>nomatch h) rfl rfl rfl) (Bz (pv 1)) (λ_ _ _ _=>(Cf rfl (BL (Ab (i:=0) (show (["c","r"]:di).Nodup by decide +kernel) rfl li) (BL (Ab (i:=1) (show (["c","r"]:di).Nodup by decide +kernel) rfl li) Ce)))) (λ_ _ _ _=>(Ar (AD (pv 0) (AD (xI AW (pv 1)) AK))))) (DE (N:=["c","r"]) (capt:=[none,none]) (xo:=none) rfl (BlkOk1.of rfl rfl (λ_=>{2,λ_=>rfl}) rfl (λ_ h=>nomatch h) rfl rfl rfl) (Bz (pv 1)) (λ_ _ _ _=>(Cf rfl (BL (Ab (i:=0) (show (["c","r"]:di).Nodup by decide +kernel) rfl li) (BL (Ab (i:=1) (show (["c","r"]:di).Nodup by decide +kernel) rfl li) Ce)))) (λ_ _ _ _=>(Ar (AD ((Us X G B).q2 b (pv 0) (Ar (AD (B2 B3 AG) (AD AG AK)))) (AD (xI AW (pv 1)) AK))))))) (AJ (E_ k (ZP e m d g B.sorted ((kT X G B).q1 b (pv 2)))) (AO (AZ (Ar (AD (pv 0) (AD (FN IX rfl B.tuple FR (AD (DE (N:=["c","whole"]) (capt:=[none,none]) (xo:=none) rfl (BlkOk1.of rfl rfl (λ_=>{2,λ_=>rfl}) rfl (λ_ h=>nomatch h) rfl rfl rfl) (Bz (pv 3)) (λ_ _ _ _=>(Cf rfl (BL (Ab (i:=0) (show (["c","whole"]:di).Nodup by decide +kernel) rfl li) (BL (Ab (i:=1) (show (["c","whole"]:di).Nodup by decide +kernel) rfl li) Ce)))) (λ_ _ _ _=>(Ar (AD (pv 0) (AD (Ar (AD (pv 1) (AD AG AK))) AK))))) AK)) AK)))))))
theorem kZ:K' P w mg base 7 "row_common" ["row","other"] KP:=Aj (f:=153) (c:=152) (pm:=P_) (st:=Wa) X G λF=>K_ F (tX B.xEXPONENTS ) λa b d e=>(AJ (E_ b ((NO X G B).q1 a (pv 0))) (AJ (E_ b ((NO X G B).q1 a (pv 1))) (AJ (Bg (PW.pt (HL (E1 (pv 0) (λ_=>rfl)) (HK (E1 (pv 1) (λ_=>rfl))))) (AO (Bu PassesOwn.never rfl (IL (VB rfl B.EXPONENTS rfl)) (Ab (i:=4) b rfl li) (AJ (E_ b ((kW X G B).q3 a (pv 2) (pv 3) (AQ CQ ((lH X G B).q2 a AG (pv 4)) AG))) (AO (Bg (cR Nf (pv 5) EW) (AO (AZ (pv 5))) Bq))))) Bq) (AO (AZ (xI Bb ((kP X G B).q2 a (CG (AD (pv 2) AK)) (CG (AD (pv 3) AK)))))))))
theorem jA (d:(hp w.params).In base):K' P w mg base 7 "value_at" ["form","c"] ME:=Aj (f:=307) (c:=306) (pm:=mo5) (st:=W5) X G λF=>K_ F (oU ) λa b e g=>(AJ (E_ b ((kK X G B).q2 a (xI AW (pv 0)) (pv 1))) (AJ (Ia (i:=3) (N:=["e","v","c"]) (capt:=[none,none,some 1]) (xo:=none) b rfl li rfl (BlkOk1.of rfl rfl (λ_=>{2,λ_=>rfl}) rfl (DL.mpr rfl) rfl rfl rfl) (IL (xI AW (pv 0))) (λ_ _ _ _=>(Cf rfl (BL (Ab (i:=0) (show (["e","v","c"]:di).Nodup by decide +kernel) rfl li) (BL (Ab (i:=1) (show (["e","v","c"]:di).Nodup by decide +kernel) rfl li) Ce)))) (λ_ _ _ _=>(Ar (AD (pv 0) (AD ((lS X G B).q1 a ((NL X G B).q2 a (pv 1) (pv 2))) AK))))) (AJ (Bg (PW.pt (DZ (cR K7 (pv 2) EW) (Et (Dl (A4 (ZQ rfl) rfl B.any OP (AD (DE (N:=["e","r"]) (capt:=[none,none]) (xo:=none) rfl (BlkOk1.of rfl rfl (λ_=>{2,λ_=>rfl}) rfl (λ_ h=>nomatch h) rfl rfl rfl) (Bz (pv 3)) (λ_ _ _ _=>(Cf rfl (BL (Ab (i:=0) (show (["e","r"]:di).Nodup by decide +kernel) rfl li) (BL (Ab (i:=1) (show (["e","r"]:di).Nodup by decide +kernel) rfl li) Ce)))) (λ_ _ _ _=>(IN FK (xI AW (pv 1)) AG (X_ _)))) AK)))))) (AO (AZ EW)) Bq) (AO (AZ ((kX X G B d).q2 a (pv 2) (pv 3)))))))
theorem NQ:K' P w mg base 8 "common" ["P","Q"] Gs:=Aj (f:=243) (c:=242) (pm:=Z_) (st:=Wv) X G λF=>K_ F (tZ ) λa b d e=>(AJ (E_ b ((kZ X G B).q2 a (xI AW ((HG X G B).q1 a (pv 0))) (xI AW ((HG X G B).q1 a (pv 1))))) (AO (AZ (II (E1 (pv 2) (λ_=>rfl)) ((NK X G B).q2 a (pv 2) (Bw Bb (pv 2) (B2 B3 AG) (λ_ _=>rfl))) (Ar AK)))))
theorem Uy:K' P w mg base 9 "fraction" ["P","Q"] Hu:=Aj (f:=257) (c:=256) (pm:=aU) (st:=Wx) X G λF=>K_ F (rV ) λa b d e=>(AJ (E_ b ((NQ X G B).q2 a (pv 0) (pv 1))) (AO (AZ ((kS X G B).q2 a ((IG X G B).q2 a (pv 0) (pv 2)) ((IG X G B).q2 a (pv 1) (pv 2))))))
theorem jB:K' P w mg base 9 "f_plus" ["F","G"] KW:=Aj (f:=278) (c:=277) (pm:=aU) (st:=W1) X G λF=>K_ F (qC ) λa b d e=>(AJ (E_ b ((NQ X G B).q2 a (xI AW (pv 0)) (xI AW (pv 1)))) (AJ (E_ b ((IG X G B).q2 a (xI AW (pv 1)) (pv 2))) (AJ (E_ b ((kI X G B).q2 a ((NP X G B).q2 a (xI AW (pv 0)) (pv 3)) ((NP X G B).q2 a (xI AW (pv 1)) ((IG X G B).q2 a (xI AW (pv 0)) (pv 2))))) (AJ (E_ b ((NQ X G B).q2 a (pv 4) (pv 2))) (AO (AZ (Ar (AD ((IG X G B).q2 a (pv 4) (pv 5)) (AD ((IG X G B).q2 a ((NP X G B).q2 a (xI AW (pv 0)) (pv 3)) (pv 5)) AK)))))))))
theorem jC:K' P w mg base 10 "_law_form" ["_law_drawn_here"] ML:=Aj (f:=402) (c:=401) (pm:=M_) (st:=XM) X G λF=>K_ F (mU ) λb a e d=>(AJ (GU (pv 0) (Cf rfl (BL (Ab (i:=1) a rfl li) (BL (Ab (i:=2) a rfl li) Ce)))) (AJ (E_ a (FN Jt rfl B.list Jo (AD (xI AW (pv 2)) AK))) (AJ (Dc PassesOwn.never (PW.pt (HL (cR (IW d) (pv 3) (CG AK)) (HK (cR (LE d) (Bw Bb (pv 3) (B2 B3 AG) (λ_ _=>rfl)) (Ar (AD AG (AD AG AK))))))) (AO (EF (N3 bA PySem.F.slot_list_pop PySem.F.type_list_pop N8 (pv 3))))) (AJ (E_ a ((Uy X G B).q2 b (FN IX rfl B.tuple FR (AD (pv 3) AK)) (Ar (AD (Ar (AD AG (AD AG AK))) AK)))) (AJ (Bu PassesOwn.never rfl (Bz (xI AW (pv 2))) (Cf rfl (BL (Ab (i:=5) a rfl li) (BL (Ab (i:=6) a rfl li) (BL (Ab (i:=7) a rfl li) Ce)))) (AO (E_ a ((jB X G B).q2 b (pv 4) ((Uy X G B).q2 b (Ar (AD (Ar (AD (pv 5) (AD AG AK))) AK)) ((Ul X G B).q1 b ((Up X G B).q2 b (AQ GX (CG (AD (pv 6) AK)) (pv 7)) (CG AK)))))))) (AO (AZ (Ar (AD (pv 4) (AD (FN IX rfl B.tuple FR (AD (DE (N:=["_law_c","_law_places","_law_squares"]) (capt:=[none,none,none]) (xo:=none) rfl (BlkOk1.of rfl rfl (λ_=>{2,λ_=>rfl}) rfl (λ_ h=>nomatch h) rfl rfl rfl) (Bz (pv 1)) (λ_ _ _ _=>(Cf rfl (BL (Ab (i:=0) (show (["_law_c","_law_places","_law_squares"]:di).Nodup by decide +kernel) rfl li) (BL (Ab (i:=1) (show (["_law_c","_law_places","_law_squares"]:di).Nodup by decide +kernel) rfl li) (BL (Ab (i:=2) (show (["_law_c","_law_places","_law_squares"]:di).Nodup by decide +kernel) rfl li) Ce))))) (λ_ _ _ _=>(Ar (AD (pv 0) (AD ((Ul X G B).q1 b ((Up X G B).q2 b (pv 1) (pv 2))) AK))))) AK)) AK))))))))))
end
def all_mk {l:W.OpenLaw} {w:World} {h:Heap} {mg:de} {m:Addr} (X:(hp w.params).In h) (G:h.Ns mainGlobals mg) (k:mg "law" = ↥m)
  : ∃ o:FuncData,(∀ (s:Shared) (v:Value),BindsTo s o ⟨[v],[]⟩ [("_law_script", v)])/\∀ d:Heap,(hp w.params).In d->d.Ns mainGlobals mg->FnOk l.prog w (hp w.params) mg d ay 11 m o ["_law_script"] (Ke (hp w.params)):=by
 let e:=k.symm.trans (W.mg_of X G (n := "law") (v:=.ref 482) (by kernel_rfl));cases e;let a:Gk (hp w.params)=15:=by kernel_rfl
 let b:∀ H:Hp,SqT (hp w.params) H (Gk (hp w.params)) (exps.map λe:Nat=>V.int (e:Int)):=λH=>.inr {9,_,(show (hp w.params).lookup (Gk (hp w.params))=some {.type "tuple", none,.seq #[(.int 61 189),(.int 127 190),(.int 521 191),(.int 1279 192),(.int 4423 193),(.int 9941 194),(.int 21701 195),(.int 44497 196)] 0,#[]} by rw [a];kernel_rfl),7,by show 8<=sizeLine;rw [sizeLine_eq];decide,.cons ⟨_,rfl⟩ (.cons ⟨_,rfl⟩ (.cons ⟨_,rfl⟩ (.cons ⟨_,rfl⟩ (.cons ⟨_,rfl⟩ (.cons ⟨_,rfl⟩ (.cons ⟨_,rfl⟩ (.cons ⟨_,rfl⟩ (.nil))))))))};let B:Bl (hp w.params) mg:={W.mg_none_of X G (by kernel_rfl),W.mg_none_of X G (by kernel_rfl),W.mg_none_of X G (by kernel_rfl),W.mg_none_of X G (by kernel_rfl),W.mg_none_of X G (by kernel_rfl),W.mg_none_of X G (by kernel_rfl),W.mg_none_of X G (by kernel_rfl),W.mg_none_of X G (by kernel_rfl),W.mg_none_of X G (by kernel_rfl),by rw [a];exact W.mg_of X G (by kernel_rfl),W.mg_none_of X G (by kernel_rfl),W.mg_none_of X G (by kernel_rfl),W.mg_none_of X G (by kernel_rfl),W.mg_none_of X G (by kernel_rfl),W.mg_none_of X G (by kernel_rfl),W.mg_none_of X G (by kernel_rfl),b};let p:=NF (K:=hp w.params) (st:=Ji) (f:=482) (c:=481) (n := "law") (pm:=M_) (by kernel_rfl) (by kernel_rfl) (by kernel_rfl);refine {W.fnOf "law" "law" (EG Ji) (Dg Ji) (CI Ji) .none .none .none M_ none (.ref 481) .none,λs v=>.of_eq rfl,λd KB _=>?_};exact K_ p (mW ) λg j q r=>(AJ (E_ j ((kF X G B).q1 g ((lU X G B).q2 g (pv 0) AG))) (AJ (E_ j ((jC X G B).q1 g (pv 1))) (AJ (Bu PassesOwn.never rfl (Bz (AQ Jh (GW Y3 (pv 0) (FO AG) (FO AG)) (CG (AD AG AK)))) (Ab (i:=3) j rfl li) (AJ (E_ j ((HF X G B).q2 g (AQ CQ ((DU X G B).q3 g (pv 3) AG AG) AG) (AQ Ba AG ((DU X G B).q3 g (pv 3) AG AG)))) (AJ (E_ j ((jA X G B KB).q2 g (pv 2) (pv 4))) (AO (Bg (Dl ((kA X G B).q2 g (pv 1) (pv 4))) (AO (Bg (cR Nf (pv 5) EW) (AO (AZ EE)) Bq)) (AO (Bg (Dw (Dl ((kU X G B).q3 g (pv 5) ((kM X G B).q2 g (xI AW (pv 1)) (pv 4)) ((kO X G B).q2 g (xI AW (pv 1)) (pv 4))))) (AO (AZ EE)) Bq))))))) (AO (AZ EE)))))
def row_said {l:W.OpenLaw} (h:l.wellSaid=true):l.row.wellSaid=true:=by
 unfold W.OpenLaw.wellSaid at h;simp only [Bool.and_eq_true] at h;exact h.1.1.1.1.1.1.1.1.1.1.1.1.1.1.1.1.1.1
def ctab {h:Heap} (e:h.get? 289=some (J' "settled_number" 576 235 2 3 286 (R 287) N N N (R 288) 579 580)):isCodeTable h 287:={289,9,e,7,2}
def walk {l:W.OpenLaw} {q:Program} {loose:di} {XP:(de)->Heap->Prop} {YP:World->Heap->Prop} {d:DefRec} {K:Params->W.Frag} (m:l.most=some 63) (c:d.params.defaults=[]) (o:importsNone q=true) (p:∀ w,(model l.prog w).prog.given.tree=none)
  (r:∀ (w:World) (h:Heap),YP w h->(K w.params).In h)
  (F:∀ (w:World) (mg:de) (i:Addr) (h:Heap),(K w.params).In h->h.Ns mainGlobals mg->mg d.name=↥i->
   ∃ j:FuncData,(∀ (s:Shared) (u:Value),BindsTo s j ⟨[u],[]⟩ [("_law_script", u)])/\∀ b:Heap,(K w.params).In b->b.Ns mainGlobals mg->FnOk l.prog w (K w.params) mg b ay 11 i j ["_law_script"] (Ke (K w.params)))
  (e:∀ w:World,(K w.params).lookup 287=none) (g:∀ (w:World) (h:Heap),YP w h->h.get? 287=some { cls:=.none,data:=.fields #[] }/\isCodeTable h 287) :
  W.WalkO q loose XP YP l.row.toRowW d [] (λf v=>PySem.call f v):=
 L2.walk_ofT (T:=287) (n:=63) (k:=11) (x := "_law_script") (CX:=λ_=>ay) (sp:=λw=>Ke (K w.params)) m `b c o p {2,`b,`b} r F e g (λ_ _ a y A g B=>{a,y,2,B,A,g,λ_=>rfl}) λ_ _ _ _ _ z=>z
end Bs
open PySem PySem.W PyProof.Rows
set_option maxRecDepth 100000 in
set_option maxHeartbeats 0 in
theorem PySem.Challenge.cw_backslope_k75_worth_at_a_place_holds : PySem.Challenge.rw_backslope_k75_worth_at_a_place.Holds := by
  let a : PySem.Challenge.rw_backslope_k75_worth_at_a_place.wellSaid = true := Bs.Hd.sd;refine {a, ?_};refine W.holds_open (q := Bs.Hd.vw) (loose := Bs.Hd.lo) (Xt := fun s => W.xlAt Bs.Hd.vw [] s && W.recOk (W.RowW.records (W.OpenRow.toRowW (W.OpenLaw.row PySem.Challenge.rw_backslope_k75_worth_at_a_place))) s) (XP := W.XL Bs.Hd.vw []) (Yf := Bs.Hd.hk.obs) (Ya := Bs.Hd.hk.val) (YP := Bs.Hd.hk.says) (N := 4678) Bs.Hd.left Bs.Hd.hk.of Bs.Hd.hk.keeps (fun s e => W.xl_of s (Bool.and_eq_true_iff.mp e).1) W.XL.keeps (by rfl) (by rfl) (by rfl) (fun s e => W.recFacts_of (Bool.and_eq_true_iff.mp e).2) (by rfl) (Bs.row_said a) (by decide +kernel) {7,7,2, by decide +kernel} ?hw ?hc
  case hw => w_witness2
  case hc => exact Bs.walk (l := PySem.Challenge.rw_backslope_k75_worth_at_a_place) (K := Bs.Hd.hp) rfl rfl (by decide +kernel) (fun _ => rfl) (fun w h Y => Y.1) (fun w d f h c G b => Bs.all_mk c G b) (fun w => by kernel_rfl) (fun w h Y => {Y.2 287 (by decide), Bs.ctab (Y.1 289 _ (by kernel_rfl))})
#print axioms PySem.Challenge.cw_backslope_k75_worth_at_a_place_holds


