import Derived.Test.YthghbdeaenjckaaGreatDoorNRefs
import Derived.Test.YthghbdeaenjckaaGreatDoorNText
import Derived.Test.YthghbdeaenjckaaGreatDoorDigits
namespace Go.Proofs.YthghbdeaenjckaaGreatDoor
open Go Go.RowKit
section
set_option linter.unusedVariables false
theorem isD_eq (c:UInt8):isD c=digB c:=by
 unfold isD digB;rw[Bool.eq_iff_iff];simp;omega
def specD (d:List UInt8) (neg:Bool) (n e:Int):Prop:=
 if d.all digB=true then ∃ v:Int,v=(if neg=true then -(valN d:Int) else (valN d:Int))∧(if -9223372036854775808≤v∧v≤9223372036854775807 then n=v∧e=0 else n=0∧e=3) else n=0∧e=1
def Inv (l:List UInt8) (k mm:Nat) (o:Bool):Prop:=(l.take k).all digB=true∧(o=false→mm=valN (l.take k))∧(o=true→10000000000000000000≤valN (l.take k)∧1000000000000000000<mm)
theorem take_snocL (d:ByteArray) (k:Nat) (h:k<d.size):d.data.toList.take (k+1)=d.data.toList.take k++[d[k]]:=take_snoc d k h
theorem inv_start (l:List UInt8):Inv l 0 0 false:=⟨rfl,fun _=>rfl,fun h=>by cases h⟩
theorem dig_bd {c:UInt8} (h:digB c=true):48≤c.toNat∧c.toNat≤57:=by simpa[digB] using h
theorem inv_more (d:ByteArray) (k mm:Nat) (o:Bool) (h:k<d.size) (hi:Inv d.data.toList k mm o) (hd:digB d[k]=true) (hm:mm≤1000000000000000000):Inv d.data.toList (k+1) (mm * 10+d[k].toNat - 48) o:=by
 obtain⟨a,b,c⟩:=hi;have hb:=dig_bd hd;refine⟨by rw[take_snocL d k h,List.all_append,a,List.all_cons,hd];rfl,fun ho=>?_,fun ho=>?_⟩
 ·rw[take_snocL d k h,valN_snoc,b ho];omega
 ·have:=(c ho).2;omega
theorem inv_over (d:ByteArray) (k mm:Nat) (o:Bool) (h:k<d.size) (hi:Inv d.data.toList k mm o) (hd:digB d[k]=true) (hm:1000000000000000000<mm):Inv d.data.toList (k+1) mm true:=by
 obtain⟨a,b,c⟩:=hi;have hb:=dig_bd hd;refine⟨by rw[take_snocL d k h,List.all_append,a,List.all_cons,hd];rfl,(fun ho=>by cases ho),fun _=>⟨?_,hm⟩⟩;rw[take_snocL d k h,valN_snoc]
 cases o with
 | false=>rw[←b rfl];omega
 | true=>have:=(c rfl).1;omega
theorem take_all (d:ByteArray) (k:Nat) (h:¬ k<d.size):d.data.toList.take k=d.data.toList:=List.take_of_length_le (by rw[Array.length_toList];exact Nat.le_of_not_lt h)
theorem spec_bad (d:ByteArray) (k:Nat) (h:k<d.size) (neg:Bool) (n e:Int) (hs:specD d.data.toList neg n e) (hd:digB d[k]=false):n=0∧e=1:=by
 unfold specD at hs;rw[all_no d k h digB hd] at hs;simpa using hs
theorem spec_over (d:ByteArray) (k mm:Nat) (h:¬ k<d.size) (neg:Bool) (n e:Int) (hs:specD d.data.toList neg n e) (hi:Inv d.data.toList k mm true):n=0∧e=3:=by
 obtain⟨a,b,c⟩:=hi;have hc:=(c rfl).1;rw[take_all d k h] at a hc;unfold specD at hs;rw[if_pos a] at hs;obtain⟨v,hv,hs⟩:=hs;rw[if_neg (by split at hv <;> omega)] at hs;exact hs
theorem spec_of (d:ByteArray) (k mm:Nat) (h:¬ k<d.size) (neg:Bool) (n e:Int) (hs:specD d.data.toList neg n e) (hi:Inv d.data.toList k mm false) (w:World):
  Calls Tryz.prog 75 #[.bool neg,.int .u64 mm] w fun e' w'=>e'= .returned (.tuple #[.int .i64 n,.int .i64 e])∧w=w':=by
 obtain⟨a,b,c⟩:=hi;have hb:=b rfl;rw[take_all d k h] at a hb;unfold specD at hs;rw[if_pos a] at hs;obtain⟨v,hv,hs⟩:=hs;rw[←hb] at hv
 split at hs
 ·obtain⟨rfl,rfl⟩:=hs
  exact of_ok neg mm n (by omega) hv (by assumption) w
 ·obtain⟨rfl,rfl⟩:=hs
  exact of_no neg mm v (by omega) hv (by assumption) w
theorem rparse_empty (s:ByteArray) (h0:s.size=0) (w:World):
  Calls Tryz.prog 57 #[.string s] w fun e' w'=>e'= .returned (.tuple #[.int .i64 0,.int .i64 1])∧w=w':=by
 obtain rfl:s=ByteArray.empty:=by
  apply ByteArray.ext;apply Array.toList_inj.1;apply List.eq_nil_of_length_eq_zero;rw[Array.length_toList];exact h0
 clear h0;go_enter Tryz.func57,Tryz.ntmps57;go_wp2
 all_goals (go_ret2;exact⟨rfl,rfl⟩)
theorem rparse_dash (s:ByteArray) (h1:s.size=1) (hx:∃ h:0<s.size,(s[0].toNat:Int)=45) (w:World):
  Calls Tryz.prog 57 #[.string s] w fun e' w'=>e'= .returned (.tuple #[.int .i64 0,.int .i64 1])∧w=w':=by
 obtain⟨hp,hx⟩:=hx;have e1:((s[0].toNat:Int)==45)=true:=by simpa using hx
 have h2:s.size - 1=0:=by omega
 have h3:(((s.size - 1:Nat):Int)==0)=true:=by rw[h2];rfl
 have h4:s.size≤1:=by omega
 clear hx h1 h2;go_enter Tryz.func57,Tryz.ntmps57;go_wp2
 all_goals (go_ret2;exact⟨rfl,rfl⟩)
theorem rparse_lead_n (s d:ByteArray) (hm:s.size≤4000) (hx:∃ h:0<s.size,(s[0].toNat:Int)=45) (hd:d=s.extract 1 s.size) (hz:∃ h:0<d.size,d[0]=48) (w:World):
  Calls Tryz.prog 57 #[.string s] w fun e' w'=>e'= .returned (.tuple #[.int .i64 0,.int .i64 1])∧w=w':=by
 obtain⟨dp,hz⟩:=hz;have hz:(d[0].toNat:Int)=48:=by rw[hz];rfl
 obtain⟨hp,hx⟩:=hx;have e1:((s[0].toNat:Int)==45)=true:=by simpa using hx
 have hex:=hd.symm;have hds:d.size+1=s.size:=by rw[hd,ByteArray.size_extract];omega
 have n0:((d.size:Int)==0)=false:=beq_eq_false_iff_ne.2 (by omega);have n3:¬ d=ByteArray.empty:=by rintro rfl;exact absurd dp (by decide)
 have n1:1≤s.size:=by omega
 have n2:s.size - 1=d.size:=by omega
 clear hx hd;have e2:((d[0].toNat:Int)==48)=true:=by simpa using hz
 clear hz;go_enter Tryz.func57,Tryz.ntmps57;go_wp2
 all_goals (go_ret2;exact⟨rfl,rfl⟩)
theorem rparse_lead_p (s:ByteArray) (hm:s.size≤4000) (hz:∃ h:0<s.size,s[0]=48) (hl:1<s.size) (w:World):
  Calls Tryz.prog 57 #[.string s] w fun e' w'=>e'= .returned (.tuple #[.int .i64 0,.int .i64 1])∧w=w':=by
 obtain⟨dp,hz⟩:=hz;have hz:(s[0].toNat:Int)=48:=by rw[hz];rfl
 have hne:¬ s=ByteArray.empty:=by rintro rfl;exact absurd dp (by decide)
 have e1:((s[0].toNat:Int)==45)=false:=by rw[hz];rfl
 have e2:((s[0].toNat:Int)==48)=true:=by rw[hz];rfl
 have e3:((s.size:Int)==0)=false:=beq_eq_false_iff_ne.2 (by omega);clear hz;go_enter Tryz.func57,Tryz.ntmps57;go_wp2
 all_goals (go_ret2;exact⟨rfl,rfl⟩)
theorem rparse_n_main (s d:ByteArray) (hm:s.size≤4000) (hx:∃ h:0<s.size,(s[0].toNat:Int)=45) (hd:d=s.extract 1 s.size) (hz:∃ h:0<d.size,¬ d[0]=48) (n e:Int) (hs:specD d.data.toList true n e) (w:World):
  Calls Tryz.prog 57 #[.string s] w fun e' w'=>e'= .returned (.tuple #[.int .i64 n,.int .i64 e])∧w=w':=by
 obtain⟨dp,hz⟩:=hz;have hz:¬ (d[0].toNat:Int)=48:=fun h=>hz (UInt8.toNat_inj.1 (by have:(48:UInt8).toNat=48:=rfl;omega))
 obtain⟨hp,hx⟩:=hx;have e1:((s[0].toNat:Int)==45)=true:=by simpa using hx
 have hex:=hd.symm;have hds:d.size+1=s.size:=by rw[hd,ByteArray.size_extract];omega
 have n0:((d.size:Int)==0)=false:=beq_eq_false_iff_ne.2 (by omega);have n3:¬ d=ByteArray.empty:=by rintro rfl;exact absurd dp (by decide)
 have n1:1≤s.size:=by omega
 have n2:s.size - 1=d.size:=by omega
 clear hx hd;have e2:((d[0].toNat:Int)==48)=false:=by simpa using hz
 have hm2:d.size≤4000:=by omega
 have HN2:=Lib.hid n2;have HS:=Lib.hid hs;clear hs hz;go_enter Tryz.func57,Tryz.ntmps57;go_wp2
 go_loop [6,7,8] (fun m ov i=>∃ (k mm:Nat) (o:Bool),k≤d.size∧m= .int .u64 mm∧ov= .bool o∧i= .int .i64 k∧(mm:Int)≤10000000000000000009∧Inv d.data.toList k mm o) (fun _ _ i=>d.size - (intOf i).toNat)
 case atStart=>exact⟨0,0,false,Nat.zero_le _,rfl,rfl,rfl,by omega,inv_start _⟩
 case round=>
  obtain⟨k,mm,o,hk,rfl,rfl,rfl,hmm,hinv⟩:=hrel;have HI:=Lib.hid hinv;clear hinv;by_cases hlt:k<d.size
  ·by_cases hp:digB d[k]=true
   ·have hb:48≤(d[k].toNat:Int)∧(d[k].toNat:Int)≤57:=by have:=dig_bd hp;omega
    obtain⟨b1,b2⟩:=hb;by_cases hbig:(1000000000000000000:Int)<mm
    ·have HA:Hid (Inv d.data.toList (k+1) mm true):=Lib.hid (inv_over d k mm o hlt HI.out hp (by omega))
     clear hp;go_wp2
     go_round
     case rel=>exact⟨k+1,mm,true,by omega,rfl,rfl,by go_num,hmm,HA.out⟩
     case measure=>simp[intOf];omega
    ·have HA:Hid (Inv d.data.toList (k+1) (mm * 10+d[k].toNat - 48) o):=Lib.hid (inv_more d k mm o hlt HI.out hp (by omega))
     clear hp;go_wp2
     go_round
     case rel=>exact⟨k+1,mm * 10+d[k].toNat - 48,o,by omega,by go_num,rfl,by go_num,by omega,HA.out⟩
     case measure=>simp[intOf];omega
   ·have hp':digB d[k]=false:=by simpa using hp
    have HA:Hid (n=0∧e=1):=Lib.hid (spec_bad d k hlt true n e HS.out hp')
    have hb:(d[k].toNat:Int)<48∨57<(d[k].toNat:Int):=by
     rw[←isD_eq] at hp';simp only[isD,decide_eq_false_iff_not] at hp';omega
    clear hp hp'
    rcases hb with hb | hb
    all_goals
     go_wp2
     go_ret2
     exact⟨by rw[HA.out.1,HA.out.2];rfl,rfl⟩
  ·cases o with
   | true=>
     have HA:Hid (n=0∧e=3):=Lib.hid (spec_over d k mm hlt true n e HS.out HI.out);go_wp2
     go_ret2
     exact⟨by rw[HA.out.1,HA.out.2];rfl,rfl⟩
   | false=>
     have HK:Hid (∀ w,Calls Tryz.prog 75 #[.bool true,.int .u64 mm] w fun e' w'=>e'= .returned (.tuple #[.int .i64 n,.int .i64 e])∧w=w'):=Lib.hid (fun w=>spec_of d k mm hlt true n e HS.out HI.out w);go_wp2_with (go_at_call 75;((with_reducible refine(HK.out _).mono ?_));rintro e' w' ⟨rfl,rfl⟩)
     go_ret2
     exact⟨rfl,rfl⟩
theorem rparse_p_main (s:ByteArray) (hm:s.size≤4000) (hz:∃ h:0<s.size,¬ s[0]=48∧¬ s[0]=45) (n e:Int) (hs:specD s.data.toList false n e) (w:World):
  Calls Tryz.prog 57 #[.string s] w fun e' w'=>e'= .returned (.tuple #[.int .i64 n,.int .i64 e])∧w=w':=by
 obtain⟨dp,hz⟩:=hz;have e2:((s[0].toNat:Int)==48)=false:=by have:¬ (s[0].toNat:Int)=48:=fun h=>hz.1 (UInt8.toNat_inj.1 (by have:(48:UInt8).toNat=48:=rfl;omega));simpa using this
 have e1:((s[0].toNat:Int)==45)=false:=by have:¬ (s[0].toNat:Int)=45:=fun h=>hz.2 (UInt8.toNat_inj.1 (by have:(45:UInt8).toNat=45:=rfl;omega));simpa using this
 have hne:¬ s=ByteArray.empty:=by rintro rfl;exact absurd dp (by decide)
 have e3:((s.size:Int)==0)=false:=beq_eq_false_iff_ne.2 (by omega);have hm2:s.size≤4000:=hm;have HS:=Lib.hid hs;clear hs hz;go_enter Tryz.func57,Tryz.ntmps57;go_wp2
 go_loop [6,7,8] (fun m ov i=>∃ (k mm:Nat) (o:Bool),k≤s.size∧m= .int .u64 mm∧ov= .bool o∧i= .int .i64 k∧(mm:Int)≤10000000000000000009∧Inv s.data.toList k mm o) (fun _ _ i=>s.size - (intOf i).toNat)
 case atStart=>exact⟨0,0,false,Nat.zero_le _,rfl,rfl,rfl,by omega,inv_start _⟩
 case round=>
  obtain⟨k,mm,o,hk,rfl,rfl,rfl,hmm,hinv⟩:=hrel;have HI:=Lib.hid hinv;clear hinv;by_cases hlt:k<s.size
  ·by_cases hp:digB s[k]=true
   ·have hb:48≤(s[k].toNat:Int)∧(s[k].toNat:Int)≤57:=by have:=dig_bd hp;omega
    obtain⟨b1,b2⟩:=hb;by_cases hbig:(1000000000000000000:Int)<mm
    ·have HA:Hid (Inv s.data.toList (k+1) mm true):=Lib.hid (inv_over s k mm o hlt HI.out hp (by omega))
     clear hp;go_wp2
     go_round
     case rel=>exact⟨k+1,mm,true,by omega,rfl,rfl,by go_num,hmm,HA.out⟩
     case measure=>simp[intOf];omega
    ·have HA:Hid (Inv s.data.toList (k+1) (mm * 10+s[k].toNat - 48) o):=Lib.hid (inv_more s k mm o hlt HI.out hp (by omega))
     clear hp;go_wp2
     go_round
     case rel=>exact⟨k+1,mm * 10+s[k].toNat - 48,o,by omega,by go_num,rfl,by go_num,by omega,HA.out⟩
     case measure=>simp[intOf];omega
   ·have hp':digB s[k]=false:=by simpa using hp
    have HA:Hid (n=0∧e=1):=Lib.hid (spec_bad s k hlt false n e HS.out hp')
    have hb:(s[k].toNat:Int)<48∨57<(s[k].toNat:Int):=by
     rw[←isD_eq] at hp';simp only[isD,decide_eq_false_iff_not] at hp';omega
    clear hp hp'
    rcases hb with hb | hb
    all_goals
     go_wp2
     go_ret2
     exact⟨by rw[HA.out.1,HA.out.2];rfl,rfl⟩
  ·cases o with
   | true=>
     have HA:Hid (n=0∧e=3):=Lib.hid (spec_over s k mm hlt false n e HS.out HI.out);go_wp2
     go_ret2
     exact⟨by rw[HA.out.1,HA.out.2];rfl,rfl⟩
   | false=>
     have HK:Hid (∀ w,Calls Tryz.prog 75 #[.bool false,.int .u64 mm] w fun e' w'=>e'= .returned (.tuple #[.int .i64 n,.int .i64 e])∧w=w'):=Lib.hid (fun w=>spec_of s k mm hlt false n e HS.out HI.out w);go_wp2_with (go_at_call 75;((with_reducible refine(HK.out _).mono ?_));rintro e' w' ⟨rfl,rfl⟩)
     go_ret2
     exact⟨rfl,rfl⟩
theorem rparse_p_zero (s:ByteArray) (hm:s.size≤4000) (hz:∃ h:0<s.size,s[0]=48) (hl:s.size=1) (n e:Int) (hs:specD s.data.toList false n e) (w:World):
  Calls Tryz.prog 57 #[.string s] w fun e' w'=>e'= .returned (.tuple #[.int .i64 n,.int .i64 e])∧w=w':=by
 obtain⟨dp,hz⟩:=hz;have e1:((s[0].toNat:Int)==45)=false:=by rw[hz];rfl
 have e2:((s[0].toNat:Int)==48)=true:=by rw[hz];rfl
 have hl2:s.size≤1:=by omega
 clear hl;have hne:¬ s=ByteArray.empty:=by rintro rfl;exact absurd dp (by decide)
 have e3:((s.size:Int)==0)=false:=beq_eq_false_iff_ne.2 (by omega);have hm2:s.size≤4000:=hm;have HS:=Lib.hid hs;clear hs hz;go_enter Tryz.func57,Tryz.ntmps57;go_wp2
 go_loop [6,7,8] (fun m ov i=>∃ (k mm:Nat) (o:Bool),k≤s.size∧m= .int .u64 mm∧ov= .bool o∧i= .int .i64 k∧(mm:Int)≤10000000000000000009∧Inv s.data.toList k mm o) (fun _ _ i=>s.size - (intOf i).toNat)
 case atStart=>exact⟨0,0,false,Nat.zero_le _,rfl,rfl,rfl,by omega,inv_start _⟩
 case round=>
  obtain⟨k,mm,o,hk,rfl,rfl,rfl,hmm,hinv⟩:=hrel;have HI:=Lib.hid hinv;clear hinv;by_cases hlt:k<s.size
  ·by_cases hp:digB s[k]=true
   ·have hb:48≤(s[k].toNat:Int)∧(s[k].toNat:Int)≤57:=by have:=dig_bd hp;omega
    obtain⟨b1,b2⟩:=hb;by_cases hbig:(1000000000000000000:Int)<mm
    ·have HA:Hid (Inv s.data.toList (k+1) mm true):=Lib.hid (inv_over s k mm o hlt HI.out hp (by omega))
     clear hp;go_wp2
     go_round
     case rel=>exact⟨k+1,mm,true,by omega,rfl,rfl,by go_num,hmm,HA.out⟩
     case measure=>simp[intOf];omega
    ·have HA:Hid (Inv s.data.toList (k+1) (mm * 10+s[k].toNat - 48) o):=Lib.hid (inv_more s k mm o hlt HI.out hp (by omega))
     clear hp;go_wp2
     go_round
     case rel=>exact⟨k+1,mm * 10+s[k].toNat - 48,o,by omega,by go_num,rfl,by go_num,by omega,HA.out⟩
     case measure=>simp[intOf];omega
   ·have hp':digB s[k]=false:=by simpa using hp
    have HA:Hid (n=0∧e=1):=Lib.hid (spec_bad s k hlt false n e HS.out hp')
    have hb:(s[k].toNat:Int)<48∨57<(s[k].toNat:Int):=by
     rw[←isD_eq] at hp';simp only[isD,decide_eq_false_iff_not] at hp';omega
    clear hp hp'
    rcases hb with hb | hb
    all_goals
     go_wp2
     go_ret2
     exact⟨by rw[HA.out.1,HA.out.2];rfl,rfl⟩
  ·cases o with
   | true=>
     have HA:Hid (n=0∧e=3):=Lib.hid (spec_over s k mm hlt false n e HS.out HI.out);go_wp2
     go_ret2
     exact⟨by rw[HA.out.1,HA.out.2];rfl,rfl⟩
   | false=>
     have HK:Hid (∀ w,Calls Tryz.prog 75 #[.bool false,.int .u64 mm] w fun e' w'=>e'= .returned (.tuple #[.int .i64 n,.int .i64 e])∧w=w'):=Lib.hid (fun w=>spec_of s k mm hlt false n e HS.out HI.out w);go_wp2_with (go_at_call 75;((with_reducible refine(HK.out _).mono ?_));rintro e' w' ⟨rfl,rfl⟩)
     go_ret2
     exact⟨rfl,rfl⟩
end
end Go.Proofs.YthghbdeaenjckaaGreatDoor
