import Derived.Test.YtngfihoempcplaaGreatDoorNRParse
import Derived.Test.YtngfihoempcplaaGreatDoorNParse
namespace Go.Proofs.YtngfihoempcplaaGreatDoor
open Go Go.RowKit
section
set_option linter.unusedVariables false
def specL (l:List UInt8) (n e:Int):Prop:=if formL l=true then specD (digL l) (negL l) n e else n=0∧e=1
theorem neg_minus (r:List UInt8):negL (45::r)=true:=by simp[negL,Lib.hasPrefix]
theorem neg_other (c:UInt8) (r:List UInt8) (h:¬ c=45):negL (c::r)=false:=by
 have h':¬ (45:UInt8)=c:=fun e=>h e.symm
 show ([45]:List UInt8).isPrefixOf (c::r)=false;simp only[List.isPrefixOf,Bool.and_true,beq_eq_false_iff_ne];exact h'
theorem dig_minus (r:List UInt8):digL (45::r)=r:=by simp[digL,Lib.trimPrefix,Lib.hasPrefix]
theorem dig_other (c:UInt8) (r:List UInt8) (h:¬ c=45):digL (c::r)=c::r:=by
 have:=neg_other c r h;unfold negL at this;unfold digL Lib.trimPrefix;rw[this];rfl
theorem isD_fun:isD=digB:=funext isD_eq
theorem form_other (c:UInt8) (r:List UInt8) (h:¬ c=45):formL (c::r)=formD (c::r) false:=by rw[formL,neg_other c r h,dig_other c r h]
theorem form_says (d:List UInt8) (neg:Bool) (h:formD d neg=true):d.all digB=true∧d≠[]∧(d.head?≠some 48∨d=[48]∧neg=false):=by
 cases d with
 | nil=>simp[formD] at h
 | cons c r=>
   simp only[formD] at h;by_cases hc:c=48
   ·rw[if_pos hc] at h
    simp only[Bool.and_eq_true,List.isEmpty_iff,Bool.not_eq_true'] at h;obtain⟨rfl,rfl⟩:=h;subst hc;exact⟨by decide,by simp,Or.inr ⟨rfl,rfl⟩⟩
   ·rw[if_neg hc,isD_fun] at h
    exact⟨h,by simp,Or.inl (by simpa using hc)⟩
theorem value_of (l:List UInt8) (hf:formL l=true):∃ v:Int,v=(if negL l=true then -(valN (digL l):Int) else (valN (digL l):Int))∧
  Lib.parseIntB 64 l=if -9223372036854775808≤v∧v≤9223372036854775807 then .ok v else .range:=by
 refine⟨_,rfl,?_⟩;obtain⟨h1,h2,h3⟩:=form_says _ _ hf
 cases l with
 | nil=>exact absurd rfl h2
 | cons c r=>
   by_cases hc:c=45
   ·subst hc
    rw[dig_minus] at h1 h2 ⊢;rw[neg_minus,if_pos rfl,val_minus r h2 h1];by_cases hv:valN r≤9223372036854775808
    ·rw[if_pos hv,if_pos (by omega)]
    ·rw[if_neg hv,if_neg (by omega)]
   ·rw[dig_other c r hc] at h1 ⊢
    rw[neg_other c r hc,val_plain c r h1];simp only[Bool.false_eq_true,if_false];by_cases hv:valN (c::r)<9223372036854775808
    ·rw[if_pos hv,if_pos (by omega)]
    ·rw[if_neg hv,if_neg (by omega)]
theorem parse_anyN (s:ByteArray) (hm:s.size≤4000) (n e:Int) (hs:specL s.data.toList n e) (w:World) (hG:Given w):
  Calls Tryz.prog 96 #[.string s] w fun e' w'=>e'= .returned (.tuple #[.int .i64 n,.int .i64 e])∧Below w.heap.size w w':=by
 unfold specL at hs;by_cases hf:formL s.data.toList=true
 ·rw[if_pos hf] at hs
  obtain⟨v,hv,hp⟩:=value_of _ hf;obtain⟨h1,_,_⟩:=form_says _ _ hf;unfold specD at hs;rw[if_pos h1] at hs;obtain⟨v2,hv2,hs⟩:=hs;obtain rfl:v2=v:=by rw[hv2,hv]
  split at hs
  ·rename_i hr
   obtain⟨rfl,rfl⟩:=hs;rw[if_pos hr] at hp;exact parse_ok s _ hf hp hm w
  ·rename_i hr
   obtain⟨rfl,rfl⟩:=hs;rw[if_neg hr] at hp;exact parse_over s hf hp hm w hG
 ·rw[if_neg hf] at hs
  obtain⟨rfl,rfl⟩:=hs;exact(parse_form s (by simpa using hf) hm w).mono fun e' w' ⟨he,hw⟩=>⟨he,by rw[hw];exact Below.refl _ _⟩
end
end Go.Proofs.YtngfihoempcplaaGreatDoor
