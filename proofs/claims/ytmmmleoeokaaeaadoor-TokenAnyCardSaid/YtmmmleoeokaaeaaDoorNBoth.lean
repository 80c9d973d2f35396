import Derived.Test.YtmmmleoeokaaeaaDoorNRParse
import Derived.Test.YtmmmleoeokaaeaaDoorNParse
namespace Go.Proofs.YtmmmleoeokaaeaaDoor
open Go Go.RowKit
section
set_option linter.unusedVariables false
def specL (l:List UInt8) (n e:Int):Prop:=if formL l=true then specD (digL l) (negL l) n e else n=0∧e=1
theorem neg_minus (r:List UInt8):negL (45::r)=true:=by simp[negL,Lib.hasPrefix]
theorem neg_other (c:UInt8) (r:List UInt8) (h:¬ c=45):negL (c::r)=false:=by
 have h':¬ (45:UInt8)=c:=fun e=>h e.symm
 show ([45]:List UInt8).isPrefixOf (c::r)=false;simp only[List.isPrefixOf,Bool.and_true,beq_eq_false_iff_ne];exact h'
theorem dig_minus (r:List UInt8):digL (45::r)=r:=by simp[digL,Lib.trimPrefix,Lib.hasPrefix]
theorem dig_other (c:UInt8) (r:List UInt8) (h:¬ c=45):digL (c::r)=c::r:=by
 have:=neg_other c r h;unfold negL at this;unfold digL Lib.trimPrefix;rw[this];rfl
theorem isD_fun:isD=digB:=funext isD_eq
theorem form_minus (r:List UInt8):formL (45::r)=formD r true:=by rw[formL,neg_minus,dig_minus]
theorem form_other (c:UInt8) (r:List UInt8) (h:¬ c=45):formL (c::r)=formD (c::r) false:=by rw[formL,neg_other c r h,dig_other c r h]
theorem spec_same (c:UInt8) (r:List UInt8) (neg:Bool) (hc:¬ c=48) (n e:Int) (hs:if formD (c::r) neg=true then specD (c::r) neg n e else n=0∧e=1):specD (c::r) neg n e:=by
 have hf:formD (c::r) neg=(c::r).all digB:=by simp only[formD];rw[if_neg hc,isD_fun]
 rw[hf] at hs
 split at hs
 ·exact hs
 ·unfold specD;rw[if_neg (by assumption)];exact hs
theorem first_is (s:ByteArray) (c:UInt8) (r:List UInt8) (h:s.data.toList=c::r):∃ hp:0<s.size,s[0]=c:=by
 have h1:0<s.size:=by
  have e:s.size=s.data.toList.length:=(Array.length_toList).symm;rw[e,h];simp
 refine⟨h1,?_⟩;have:s.data.toList[0]'(by rw[h];simp)=c:=by simp[h]
 show s.data[0]=c;simpa using this
theorem size_is (s:ByteArray) (l:List UInt8) (h:s.data.toList=l):s.size=l.length:=by rw[←h];exact(Array.length_toList).symm
theorem rparse_anyN (s:ByteArray) (hm:s.size≤4000) (n e:Int) (hs:specL s.data.toList n e) (w:World):
  Calls Tryd.prog 30 #[.string s] w fun e' w'=>e'= .returned (.tuple #[.int .i64 n,.int .i64 e])∧w=w':=by
 unfold specL at hs
 cases hl:s.data.toList with
 | nil=>
   rw[hl,if_neg (by decide)] at hs;obtain⟨rfl,rfl⟩:=hs;exact rparse_empty s (by rw[size_is s _ hl];rfl) w
 | cons c r=>
   rw[hl] at hs;have h1:=first_is s c r hl;have hsz:=size_is s _ hl;by_cases hc:c=45
   ·subst hc
    rw[form_minus,neg_minus,dig_minus] at hs
    have hx:∃ h:0<s.size,(s[0].toNat:Int)=45:=by
     obtain⟨hp,h1⟩:=h1;exact⟨hp,by rw[h1];rfl⟩
    cases r with
    | nil=>
      rw[if_neg (by decide)] at hs;obtain⟨rfl,rfl⟩:=hs;exact rparse_dash s (by rw[hsz];rfl) hx w
    | cons c2 r2=>
      have hd:(s.extract 1 s.size).data.toList=c2::r2:=by
       rw[Lib.extract_data,hl];simp[hsz]
      have h2:=first_is _ c2 r2 hd;by_cases h48:c2=48
      ·subst h48
       have:formD (48::r2) true=false:=by simp[formD]
       rw[this,if_neg (by decide)] at hs;obtain⟨rfl,rfl⟩:=hs;exact rparse_lead_n s _ hm hx rfl h2 w
      ·refine rparse_n_main s _ hm hx rfl ?_ n e ?_ w
       ·obtain⟨hp,h2⟩:=h2;exact⟨hp,by rw[h2];exact h48⟩
       ·rw[hd];exact spec_same c2 r2 true h48 n e hs
   ·rw[form_other c r hc,neg_other c r hc,dig_other c r hc] at hs
    by_cases h48:c=48
    ·subst h48
     cases r with
     | nil=>
       rw[if_pos (by decide)] at hs;exact rparse_p_zero s hm h1 (by rw[hsz];rfl) n e (by rw[hl];exact hs) w
     | cons c2 r2=>
       have:formD (48::c2::r2) false=false:=by simp[formD]
       rw[this,if_neg (by decide)] at hs;obtain⟨rfl,rfl⟩:=hs;exact rparse_lead_p s hm h1 (by rw[hsz];simp) w
    ·refine rparse_p_main s hm ?_ n e ?_ w
     ·obtain⟨hp,h1⟩:=h1;exact⟨hp,by rw[h1];exact⟨h48,hc⟩⟩
     ·rw[hl];exact spec_same c r false h48 n e hs
theorem form_says (d:List UInt8) (neg:Bool) (h:formD d neg=true):d.all digB=true∧d≠[]∧(d.head?≠some 48∨d=[48]∧neg=false):=by
 cases d with
 | nil=>simp[formD] at h
 | cons c r=>
   simp only[formD] at h;by_cases hc:c=48
   ·rw[if_pos hc] at h
    simp only[Bool.and_eq_true,List.isEmpty_iff,Bool.not_eq_true'] at h;obtain⟨rfl,rfl⟩:=h;subst hc;exact⟨by decide,by simp,Or.inr ⟨rfl,rfl⟩⟩
   ·rw[if_neg hc,isD_fun] at h
    exact⟨h,by simp,Or.inl (by simpa using hc)⟩
theorem value_of (l:List UInt8) (hf:formL l=true):∃ v:Int,v=(if negL l=true then -(valN (digL l):Int) else (valN (digL l):Int))∧
  Lib.parseIntB 64 l=if -9223372036854775808≤v∧v≤9223372036854775807 then .ok v else .range:=by
 refine⟨_,rfl,?_⟩;obtain⟨h1,h2,h3⟩:=form_says _ _ hf
 cases l with
 | nil=>exact absurd rfl h2
 | cons c r=>
   by_cases hc:c=45
   ·subst hc
    rw[dig_minus] at h1 h2 ⊢;rw[neg_minus,if_pos rfl,val_minus r h2 h1];by_cases hv:valN r≤9223372036854775808
    ·rw[if_pos hv,if_pos (by omega)]
    ·rw[if_neg hv,if_neg (by omega)]
   ·rw[dig_other c r hc] at h1 ⊢
    rw[neg_other c r hc,val_plain c r h1];simp only[Bool.false_eq_true,if_false];by_cases hv:valN (c::r)<9223372036854775808
    ·rw[if_pos hv,if_pos (by omega)]
    ·rw[if_neg hv,if_neg (by omega)]
theorem parse_anyN (s:ByteArray) (hm:s.size≤4000) (n e:Int) (hs:specL s.data.toList n e) (w:World) (hG:Given w):
  Calls Tryd.prog 40 #[.string s] w fun e' w'=>e'= .returned (.tuple #[.int .i64 n,.int .i64 e])∧Below w.heap.size w w':=by
 unfold specL at hs;by_cases hf:formL s.data.toList=true
 ·rw[if_pos hf] at hs
  obtain⟨v,hv,hp⟩:=value_of _ hf;obtain⟨h1,_,_⟩:=form_says _ _ hf;unfold specD at hs;rw[if_pos h1] at hs;obtain⟨v2,hv2,hs⟩:=hs;obtain rfl:v2=v:=by rw[hv2,hv]
  split at hs
  ·rename_i hr
   obtain⟨rfl,rfl⟩:=hs;rw[if_pos hr] at hp;exact parse_ok s _ hf hp hm w
  ·rename_i hr
   obtain⟨rfl,rfl⟩:=hs;rw[if_neg hr] at hp;exact parse_over s hf hp hm w hG
 ·rw[if_neg hf] at hs
  obtain⟨rfl,rfl⟩:=hs;exact(parse_form s (by simpa using hf) hm w).mono fun e' w' ⟨he,hw⟩=>⟨he,by rw[hw];exact Below.refl _ _⟩
end
end Go.Proofs.YtmmmleoeokaaeaaDoor
