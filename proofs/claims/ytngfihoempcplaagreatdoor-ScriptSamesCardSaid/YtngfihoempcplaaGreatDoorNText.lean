import Derived.Test.YtngfihoempcplaaGreatDoorNSums
import Derived.Test.YtngfihoempcplaaGreatDoorShelf
namespace Go.Proofs.YtngfihoempcplaaGreatDoor
open Go Go.RowKit
def isD (c:UInt8):Bool:=decide (48≤(c.toNat:Int)∧(c.toNat:Int)≤57)
def negL (l:List UInt8):Bool:=Lib.hasPrefix l [45]
def digL (l:List UInt8):List UInt8:=Lib.trimPrefix l [45]
def formD (d:List UInt8) (neg:Bool):Bool:=match d with
 | []=>false
 | c::r=>if c=48 then r.isEmpty && !neg else (c::r).all isD
def formL (l:List UInt8):Bool:=formD (digL l) (negL l)
theorem cut_any (s d:ByteArray) (neg:Bool) (hd:d=⟨(digL s.data.toList).toArray⟩) (hn:neg=negL s.data.toList) (w:World):
  Calls Tryz.prog 147 #[.string s,.string ⟨#[45]⟩] w fun e w'=>e= .returned (.tuple #[.string d,.bool neg])∧w=w':=by
 subst hd hn;exact(Tryz.strings_CutPrefix s ⟨#[45]⟩ w).mono fun e w' ⟨he,hw⟩=>⟨he,hw.symm⟩
theorem take_snoc (s:ByteArray) (k:Nat) (h:k<s.size):s.data.toList.take (k+1)=s.data.toList.take k++[s[k]]:=by
 rw[List.take_succ_eq_append_getElem (by simpa using h)];rfl
theorem toList_dataN (s:ByteArray):s.toList=s.data.toList:=Lib.toList_data s
theorem all_take_end (s:ByteArray) (k:Nat) (h:¬ k<s.size) (p:UInt8→Bool):(s.data.toList.take k).all p=s.data.toList.all p:=by
 rw[List.take_of_length_le (by rw[Array.length_toList];exact Nat.le_of_not_lt h)]
theorem all_no (s:ByteArray) (k:Nat) (h:k<s.size) (p:UInt8→Bool) (hp:p s[k]=false):s.data.toList.all p=false:=by
 rw[List.all_eq_false];exact⟨s[k],by show s.data[k]∈_;simp,by simp[hp]⟩
theorem digits_any (s d:ByteArray) (neg g:Bool) (hd:d=⟨(digL s.data.toList).toArray⟩) (hn:neg=negL s.data.toList) (hm:d.size≤9223372036854775807) (h0:0<d.size)
  (h48:¬ ((d[0].toNat:Int)=48)) (hg:g=d.data.toList.all isD) (w:World):
  Calls Tryz.prog 126 #[.string s] w fun e w'=>e= .returned (.bool g)∧w=w':=by
 have HD:=Lib.hid hd;have HN:=Lib.hid hn;have HG:=Lib.hid hg
 have he:d.toList.isEmpty=false:=by
  rw[toList_dataN];simp only[List.isEmpty_eq_false_iff,ne_eq];intro e;have:=congrArg List.length e;have h0':0<d.data.size:=h0;rw[Array.length_toList,List.length_nil] at this;omega
 have hx:((d[0].toNat:Int)==48)=false:=by simpa using h48
 clear hd hn hg h48;go_enter Tryz.func126,Tryz.ntmps126;go_wp2_with (go_at_call 147;((with_reducible refine(cut_any _ d neg HD.out HN.out _).mono ?_));rintro e w' ⟨rfl,rfl⟩)
 go_loop [24] (fun i=>∃ k:Nat,k≤d.size∧i= .int .i64 k∧(d.data.toList.take k).all isD=true) (fun i=>d.size - (intOf i).toNat)
 case atStart=>exact⟨0,Nat.zero_le _,rfl,rfl⟩
 case round=>
  obtain⟨k,hk,rfl,hall⟩:=hrel;by_cases hlt:k<d.size
  ·by_cases hp:isD d[k]=true
   ·have hb:48≤(d[k].toNat:Int)∧(d[k].toNat:Int)≤57:=by simpa[isD] using hp
    obtain⟨b1,b2⟩:=hb
    have HA:Hid ((d.data.toList.take (k+1)).all isD=true):=by
     apply Lib.hid;rw[take_snoc d k hlt,List.all_append,hall];simp[hp]
    clear hp hall;go_wp2
    go_round
    case rel=>exact⟨k+1,by omega,by go_num,HA.out⟩
    case measure=>simp[intOf];omega
   ·have hp':isD d[k]=false:=by simpa using hp
    have HA:Hid (g=false):=by apply Lib.hid;rw[HG.out];exact all_no d k hlt isD hp'
    have hb:(d[k].toNat:Int)<48∨57<(d[k].toNat:Int):=by
     simp only[isD,decide_eq_false_iff_not] at hp';omega
    clear hp hp' hall
    rcases hb with hb | hb
    all_goals
     go_wp2;go_ret;exact⟨by rw[HA.out];rfl,rfl⟩
  ·have HA:Hid (g=true):=by apply Lib.hid;rw[HG.out,←all_take_end d k hlt];exact hall
   clear hall;go_wp2;go_ret;exact⟨by rw[HA.out];rfl,rfl⟩
theorem digL_le (l:List UInt8):(digL l).length≤l.length:=by
 unfold digL Lib.trimPrefix;split
 ·simp
 ·exact Nat.le_refl _
theorem istext_none (s d:ByteArray) (neg:Bool) (hd:d=⟨(digL s.data.toList).toArray⟩) (hn:neg=negL s.data.toList) (h0:d.data.toList=[]) (w:World):
  Calls Tryz.prog 126 #[.string s] w fun e w'=>e= .returned (.bool false)∧w=w':=by
 have HD:=Lib.hid hd;have HN:=Lib.hid hn;have he:d.toList.isEmpty=true:=by rw[toList_dataN,h0];rfl
 clear hd hn h0;go_enter Tryz.func126,Tryz.ntmps126;go_wp2_with (go_at_call 147;((with_reducible refine(cut_any _ d neg HD.out HN.out _).mono ?_));rintro e w' ⟨rfl,rfl⟩);go_ret;exact⟨rfl,rfl⟩
theorem istext_zero (s d:ByteArray) (neg:Bool) (hd:d=⟨(digL s.data.toList).toArray⟩) (hn:neg=negL s.data.toList) (h1:0<d.size) (h0:d.data.toList=[48]) (w:World):
  Calls Tryz.prog 126 #[.string s] w fun e w'=>e= .returned (.bool !neg)∧w=w':=by
 have HD:=Lib.hid hd;have HN:=Lib.hid hn;have he:d.toList.isEmpty=false:=by rw[toList_dataN,h0];rfl
 have hx:((d[0].toNat:Int)==48)=true:=by
  have e:d[0]=48:=by
   have:d.data.toList[0]'(by rw[h0];decide)=48:=by simp[h0]
   show d.data[0]=48;simpa using this
  rw[e];rfl
 have hz:d.toList=[48]:=by rw[toList_dataN,h0]
 clear hd hn h0;go_enter Tryz.func126,Tryz.ntmps126;go_wp2_with (go_at_call 147;((with_reducible refine(cut_any _ d neg HD.out HN.out _).mono ?_));rintro e w' ⟨rfl,rfl⟩);go_ret;exact⟨rfl,rfl⟩
theorem istext_lead (s d:ByteArray) (neg:Bool) (hd:d=⟨(digL s.data.toList).toArray⟩) (hn:neg=negL s.data.toList) (h1:0<d.size) (h48:d[0]=48) (h0:¬ d.data.toList=[48]) (w:World):
  Calls Tryz.prog 126 #[.string s] w fun e w'=>e= .returned (.bool false)∧w=w':=by
 have HD:=Lib.hid hd;have HN:=Lib.hid hn
 have he:d.toList.isEmpty=false:=by
  rw[toList_dataN];simp only[List.isEmpty_eq_false_iff,ne_eq];intro e;have:=congrArg List.length e;have h0':0<d.data.size:=h1;rw[Array.length_toList,List.length_nil] at this;omega
 have hx:((d[0].toNat:Int)==48)=true:=by rw[h48];rfl
 have hz:¬ d.toList=[48]:=by rw[toList_dataN];exact h0
 clear hd hn h0 h48;go_enter Tryz.func126,Tryz.ntmps126;go_wp2_with (go_at_call 147;((with_reducible refine(cut_any _ d neg HD.out HN.out _).mono ?_));rintro e w' ⟨rfl,rfl⟩);go_ret;exact⟨rfl,rfl⟩
theorem istext_any (s:ByteArray) (g:Bool) (hg:g=formL s.data.toList) (hm:s.size≤9223372036854775807) (w:World):
  Calls Tryz.prog 126 #[.string s] w fun e w'=>e= .returned (.bool g)∧w=w':=by
 obtain⟨d,hd⟩:∃ d:ByteArray,d=⟨(digL s.data.toList).toArray⟩:=⟨_,rfl⟩;obtain⟨neg,hn⟩:∃ neg:Bool,neg=negL s.data.toList:=⟨_,rfl⟩;have hdl:d.data.toList=digL s.data.toList:=by rw[hd]
 have hsz:d.size=(digL s.data.toList).length:=by rw[←hdl];exact(Array.length_toList).symm
 have hle:d.size≤s.size:=by rw[hsz];have:=digL_le s.data.toList;rw[Array.length_toList] at this;exact this
 have hg':g=formD d.data.toList neg:=by rw[hg,formL,hdl,hn]
 cases hl:d.data.toList with
 | nil=>
   rw[hl] at hg';subst hg';exact istext_none s d neg hd hn hl w
 | cons c r=>
   have h1:0<d.size:=by rw[hsz,←hdl,hl];simp
   have hc:d[0]=c:=by
    have:d.data.toList[0]'(by rw[hl];simp)=c:=by simp[hl]
    show d.data[0]=c;simpa using this
   rw[hl] at hg';by_cases h48:c=48
   ·subst h48
    cases r with
    | nil=>
      have:g= !neg:=by rw[hg'];simp[formD]
      rw[this];exact istext_zero s d neg hd hn h1 hl w
    | cons c2 r2=>
      have:g=false:=by rw[hg'];simp[formD]
      rw[this];exact istext_lead s d neg hd hn h1 hc (by rw[hl];simp) w
   ·refine digits_any s d neg g hd hn (by omega) h1 ?_ ?_ w
    ·rw[hc];intro e;exact h48 (UInt8.toNat_inj.1 (by simpa using(by omega:c.toNat=48)))
    ·rw[hg',hl];simp[formD,h48]
end Go.Proofs.YtngfihoempcplaaGreatDoor
