import Derived.Test.YthghbdeaenjckaaGreatDoorNRParse
import Derived.Test.YthghbdeaenjckaaGreatDoorNParse
namespace Go.Proofs.YthghbdeaenjckaaGreatDoor
open Go Go.RowKit
section
set_option linter.unusedVariables false
def specL (l:List UInt8) (n e:Int):Prop:=if formL l=true then specD (digL l) (negL l) n e else n=0∧e=1
theorem neg_minus (r:List UInt8):negL (45::r)=true:=by simp[negL,Lib.hasPrefix]
theorem neg_other (c:UInt8) (r:List UInt8) (h:¬ c=45):negL (c::r)=false:=by
 have h':¬ (45:UInt8)=c:=fun e=>h e.symm
 show ([45]:List UInt8).isPrefixOf (c::r)=false;simp only[List.isPrefixOf,Bool.and_true,beq_eq_false_iff_ne];exact h'
theorem dig_minus (r:List UInt8):digL (45::r)=r:=by simp[digL,Lib.trimPrefix,Lib.hasPrefix]
theorem dig_other (c:UInt8) (r:List UInt8) (h:¬ c=45):digL (c::r)=c::r:=by
 have:=neg_other c r h;unfold negL at this;unfold digL Lib.trimPrefix;rw[this];rfl
theorem isD_fun:isD=digB:=funext isD_eq
theorem form_minus (r:List UInt8):formL (45::r)=formD r true:=by rw[formL,neg_minus,dig_minus]
theorem form_other (c:UInt8) (r:List UInt8) (h:¬ c=45):formL (c::r)=formD (c::r) false:=by rw[formL,neg_other c r h,dig_other c r h]
theorem spec_same (c:UInt8) (r:List UInt8) (neg:Bool) (hc:¬ c=48) (n e:Int) (hs:if formD (c::r) neg=true then specD (c::r) neg n e else n=0∧e=1):specD (c::r) neg n e:=by
 have hf:formD (c::r) neg=(c::r).all digB:=by simp only[formD];rw[if_neg hc,isD_fun]
 rw[hf] at hs
 split at hs
 ·exact hs
 ·unfold specD;rw[if_neg (by assumption)];exact hs
theorem first_is (s:ByteArray) (c:UInt8) (r:List UInt8) (h:s.data.toList=c::r):∃ hp:0<s.size,s[0]=c:=by
 have h1:0<s.size:=by
  have e:s.size=s.data.toList.length:=(Array.length_toList).symm;rw[e,h];simp
 refine⟨h1,?_⟩;have:s.data.toList[0]'(by rw[h];simp)=c:=by simp[h]
 show s.data[0]=c;simpa using this
theorem size_is (s:ByteArray) (l:List UInt8) (h:s.data.toList=l):s.size=l.length:=by rw[←h];exact(Array.length_toList).symm
theorem rparse_anyN (s:ByteArray) (hm:s.size≤4000) (n e:Int) (hs:specL s.data.toList n e) (w:World):
  Calls Tryz.prog 57 #[.string s] w fun e' w'=>e'= .returned (.tuple #[.int .i64 n,.int .i64 e])∧w=w':=by
 unfold specL at hs
 cases hl:s.data.toList with
 | nil=>
   rw[hl,if_neg (by decide)] at hs;obtain⟨rfl,rfl⟩:=hs;exact rparse_empty s (by rw[size_is s _ hl];rfl) w
 | cons c r=>
   rw[hl] at hs;have h1:=first_is s c r hl;have hsz:=size_is s _ hl;by_cases hc:c=45
   ·subst hc
    rw[form_minus,neg_minus,dig_minus] at hs
    have hx:∃ h:0<s.size,(s[0].toNat:Int)=45:=by
     obtain⟨hp,h1⟩:=h1;exact⟨hp,by rw[h1];rfl⟩
    cases r with
    | nil=>
      rw[if_neg (by decide)] at hs;obtain⟨rfl,rfl⟩:=hs;exact rparse_dash s (by rw[hsz];rfl) hx w
    | cons c2 r2=>
      have hd:(s.extract 1 s.size).data.toList=c2::r2:=by
       rw[Lib.extract_data,hl];simp[hsz]
      have h2:=first_is _ c2 r2 hd;by_cases h48:c2=48
      ·subst h48
       have:formD (48::r2) true=false:=by simp[formD]
       rw[this,if_neg (by decide)] at hs;obtain⟨rfl,rfl⟩:=hs;exact rparse_lead_n s _ hm hx rfl h2 w
      ·refine rparse_n_main s _ hm hx rfl ?_ n e ?_ w
       ·obtain⟨hp,h2⟩:=h2;exact⟨hp,by rw[h2];exact h48⟩
       ·rw[hd];exact spec_same c2 r2 true h48 n e hs
   ·rw[form_other c r hc,neg_other c r hc,dig_other c r hc] at hs
    by_cases h48:c=48
    ·subst h48
     cases r with
     | nil=>
       rw[if_pos (by decide)] at hs;exact rparse_p_zero s hm h1 (by rw[hsz];rfl) n e (by rw[hl];exact hs) w
     | cons c2 r2=>
       have:formD (48::c2::r2) false=false:=by simp[formD]
       rw[this,if_neg (by decide)] at hs;obtain⟨rfl,rfl⟩:=hs;exact rparse_lead_p s hm h1 (by rw[hsz];simp) w
    ·refine rparse_p_main s hm ?_ n e ?_ w
     ·obtain⟨hp,h1⟩:=h1;exact⟨hp,by rw[h1];exact⟨h48,hc⟩⟩
     ·rw[hl];exact spec_same c r false h48 n e hs
end
end Go.Proofs.YthghbdeaenjckaaGreatDoor
