import Derived.WalkKit
import Derived.Test.YtngfihoempcplaaGreatDoorRows
import Derived.WalkSpells
import Derived.WalkLawsBesides
import Derived.Lib.Hide
import Derived.Test.YtngfihoempcplaaGreatDoorCf
import Derived.Test.YtngfihoempcplaaGreatDoorShelf
import Derived.WalkSmall
import Derived.Lib.ParseIntBTie
import Derived.Lib.AtoiErrMem
import Derived.Test.YtngfihoempcplaaGreatDoorDigits
namespace Go.Proofs.YtngfihoempcplaaGreatDoor
open Go Go.RowKit
theorem x27 {k l:IntKind} {a b c d:Int} (h:a=b) (g:c=d):Ending.returned (.tuple #[.int k a,.int l c])= .returned (.tuple #[.int k b,.int l d]):=by rw[h,g]
theorem x42 (m:Int) (h0:0≤m) (h1:m≤9223372036854775807) (w:World):
  Cz 105 #[.bool false,.int .u64 m] w fun e w'=>e= .returned (.tuple #[m,oZ])∧w=w':=by
 go_enter Tryz.func105,Tryz.ntmps105;go_wp2
 go_ret2
 exact⟨rfl,rfl⟩
theorem x5t (m:Int) (h0:0≤m) (h1:m≤9223372036854775807) (w:World):
  Cz 105 #[.bool true,.int .u64 m] w fun e w'=>e= .returned (.tuple #[iI (-m),oZ])∧w=w':=by
 go_enter Tryz.func105,Tryz.ntmps105;go_wp2
 go_ret2
 exact⟨x27 (by omega) rfl,rfl⟩
theorem x2o (w:World):
  Cz 105 #[.bool true,.int .u64 9223372036854775808] w fun e w'=>e= .returned (.tuple #[iI (-9223372036854775808),oZ])∧w=w':=by
 go_enter Tryz.func105,Tryz.ntmps105;go_wp2
 go_ret2
 exact⟨rfl,rfl⟩
theorem y9k (m:Int) (h0:9223372036854775808≤m) (w:World):
  Cz 105 #[.bool false,.int .u64 m] w fun e w'=>e= .returned (.tuple #[oZ,iI 3])∧w=w':=by
 go_enter Tryz.func105,Tryz.ntmps105;go_wp2
 go_ret2
 exact⟨rfl,rfl⟩
theorem y8p (m:Int) (h0:9223372036854775808<m) (w:World):
  Cz 105 #[.bool true,.int .u64 m] w fun e w'=>e= .returned (.tuple #[oZ,iI 3])∧w=w':=by
 go_enter Tryz.func105,Tryz.ntmps105;go_wp2
 go_ret2
 exact⟨rfl,rfl⟩
def isD (c:UInt8):Bool:=decide (48≤(c.toNat:Int)∧(c.toNat:Int)≤57)
def negL (l:List UInt8):Bool:=Lib.hasPrefix l [45]
def digL (l:List UInt8):List UInt8:=Lib.trimPrefix l [45]
def formD (d:List UInt8) (neg:Bool):Bool:=match d with
 | []=>false
 | c::r=>if c=48 then r.isEmpty && !neg else (c::r).all isD
def formL (l:List UInt8):Bool:=formD (digL l) (negL l)
theorem y0k (s d:BA) (neg:Bool) (hd:d=⟨(digL s.data.toList).toArray⟩) (hn:neg=negL s.data.toList) (w:World):
  Cz 147 #[s,.string ⟨#[45]⟩] w fun e w'=>e= .returned (.tuple #[d,.bool neg])∧w=w':=by
 subst hd hn;exact(Tryz.strings_CutPrefix s ⟨#[45]⟩ w).mono fun e w' ⟨he,hw⟩=>⟨he,hw.symm⟩
theorem y06 (s:BA) (k:Nat) (h:k<s.size):s.data.toList.take (k+1)=s.data.toList.take k++[s[k]]:=by
 rw[List.take_succ_eq_append_getElem (by simpa using h)];rfl
theorem z10 (s:BA):s.toList=s.data.toList:=Lib.toList_data s
theorem y2c (s:BA) (k:Nat) (h:¬ k<s.size) (p:UInt8→Bool):(s.data.toList.take k).all p=s.data.toList.all p:=by
 rw[List.take_of_length_le (by rw[Array.length_toList];exact Nat.le_of_not_lt h)]
theorem x2x (s:BA) (k:Nat) (h:k<s.size) (p:UInt8→Bool) (hp:p s[k]=false):s.data.toList.all p=false:=by
 rw[List.all_eq_false];exact⟨s[k],by show s.data[k]∈_;simp,by simp[hp]⟩
theorem y56 (s d:BA) (neg g:Bool) (hd:d=⟨(digL s.data.toList).toArray⟩) (hn:neg=negL s.data.toList) (hm:d.size≤9223372036854775807) (h0:0<d.size)
  (h48:¬ ((d[0].toNat:Int)=48)) (hg:g=d.data.toList.all isD) (w:World):
  Cz 126 #[s] w fun e w'=>e= .returned (.bool g)∧w=w':=by
 have HD:=zz hd;have HN:=zz hn;have HG:=zz hg
 have he:d.toList.isEmpty=false:=by
  rw[z10];simp only[List.isEmpty_eq_false_iff,ne_eq];intro e;have:=congrArg List.length e;have h0':0<d.data.size:=h0;rw[Array.length_toList,List.length_nil] at this;omega
 have hx:((d[0].toNat:Int)==48)=false:=by simpa using h48
 clear hd hn hg h48;go_enter Tryz.func126,Tryz.ntmps126;go_wp2_with (go_at_call 147;((with_reducible refine(y0k _ d neg HD.out HN.out _).mono ?_));rintro e w' ⟨rfl,rfl⟩)
 go_loop [24] (fun i=>∃ k:Nat,k≤d.size∧i= .int .i64 k∧(d.data.toList.take k).all isD=true) (fun i=>d.size - (intOf i).toNat)
 case atStart=>exact⟨0,Nat.zero_le _,rfl,rfl⟩
 case round=>
  obtain⟨k,hk,rfl,hall⟩:=hrel;by_cases hlt:k<d.size
  ·by_cases hp:isD d[k]=true
   ·have hb:48≤(d[k].toNat:Int)∧(d[k].toNat:Int)≤57:=by simpa[isD] using hp
    obtain⟨b1,b2⟩:=hb
    have HA:Hid ((d.data.toList.take (k+1)).all isD=true):=by
     apply Lib.hid;rw[y06 d k hlt,List.all_append,hall];simp[hp]
    clear hp hall;go_wp2
    go_round
    case rel=>exact⟨k+1,by omega,by go_num,HA.out⟩
    case measure=>simp[intOf];omega
   ·have hp':isD d[k]=false:=by simpa using hp
    have HA:Hid (g=false):=by apply Lib.hid;rw[HG.out];exact x2x d k hlt isD hp'
    have hb:(d[k].toNat:Int)<48∨57<(d[k].toNat:Int):=by
     simp only[isD,decide_eq_false_iff_not] at hp';omega
    clear hp hp' hall
    rcases hb with hb | hb
    all_goals
     go_wp2;go_ret;exact⟨by rw[HA.out];rfl,rfl⟩
  ·have HA:Hid (g=true):=by apply Lib.hid;rw[HG.out,←y2c d k hlt];exact hall
   clear hall;go_wp2;go_ret;exact⟨by rw[HA.out];rfl,rfl⟩
theorem x32 (l:List UInt8):(digL l).length≤l.length:=by
 unfold digL Lib.trimPrefix;split
 ·simp
 ·exact Nat.le_refl _
theorem y3g (s d:BA) (neg:Bool) (hd:d=⟨(digL s.data.toList).toArray⟩) (hn:neg=negL s.data.toList) (h0:d.data.toList=[]) (w:World):
  Cz 126 #[s] w fun e w'=>e= .returned false∧w=w':=by
 have HD:=zz hd;have HN:=zz hn;have he:d.toList.isEmpty=true:=by rw[z10,h0];rfl
 clear hd hn h0;go_enter Tryz.func126,Tryz.ntmps126;go_wp2_with (go_at_call 147;((with_reducible refine(y0k _ d neg HD.out HN.out _).mono ?_));rintro e w' ⟨rfl,rfl⟩);go_ret;exact⟨rfl,rfl⟩
theorem y3m (s d:BA) (neg:Bool) (hd:d=⟨(digL s.data.toList).toArray⟩) (hn:neg=negL s.data.toList) (h1:0<d.size) (h0:d.data.toList=[48]) (w:World):
  Cz 126 #[s] w fun e w'=>e= .returned (.bool !neg)∧w=w':=by
 have HD:=zz hd;have HN:=zz hn;have he:d.toList.isEmpty=false:=by rw[z10,h0];rfl
 have hx:((d[0].toNat:Int)==48)=true:=by
  have e:d[0]=48:=by
   have:d.data.toList[0]'(by rw[h0];decide)=48:=by simp[h0]
   show d.data[0]=48;simpa using this
  rw[e];rfl
 have hz:d.toList=[48]:=by rw[z10,h0]
 clear hd hn h0;go_enter Tryz.func126,Tryz.ntmps126;go_wp2_with (go_at_call 147;((with_reducible refine(y0k _ d neg HD.out HN.out _).mono ?_));rintro e w' ⟨rfl,rfl⟩);go_ret;exact⟨rfl,rfl⟩
theorem y2t (s d:BA) (neg:Bool) (hd:d=⟨(digL s.data.toList).toArray⟩) (hn:neg=negL s.data.toList) (h1:0<d.size) (h48:d[0]=48) (h0:¬ d.data.toList=[48]) (w:World):
  Cz 126 #[s] w fun e w'=>e= .returned false∧w=w':=by
 have HD:=zz hd;have HN:=zz hn
 have he:d.toList.isEmpty=false:=by
  rw[z10];simp only[List.isEmpty_eq_false_iff,ne_eq];intro e;have:=congrArg List.length e;have h0':0<d.data.size:=h1;rw[Array.length_toList,List.length_nil] at this;omega
 have hx:((d[0].toNat:Int)==48)=true:=by rw[h48];rfl
 have hz:¬ d.toList=[48]:=by rw[z10];exact h0
 clear hd hn h0 h48;go_enter Tryz.func126,Tryz.ntmps126;go_wp2_with (go_at_call 147;((with_reducible refine(y0k _ d neg HD.out HN.out _).mono ?_));rintro e w' ⟨rfl,rfl⟩);go_ret;exact⟨rfl,rfl⟩
theorem z5s (s:BA) (g:Bool) (hg:g=formL s.data.toList) (hm:s.size≤9223372036854775807) (w:World):
  Cz 126 #[s] w fun e w'=>e= .returned (.bool g)∧w=w':=by
 obtain⟨d,hd⟩:∃ d:BA,d=⟨(digL s.data.toList).toArray⟩:=⟨_,rfl⟩;obtain⟨neg,hn⟩:∃ neg:Bool,neg=negL s.data.toList:=⟨_,rfl⟩;have hdl:d.data.toList=digL s.data.toList:=by rw[hd]
 have hsz:d.size=(digL s.data.toList).length:=by rw[←hdl];exact(Array.length_toList).symm
 have hle:d.size≤s.size:=by rw[hsz];have:=x32 s.data.toList;rw[Array.length_toList] at this;exact this
 have hg':g=formD d.data.toList neg:=by rw[hg,formL,hdl,hn]
 cases hl:d.data.toList with
 | nil=>
   rw[hl] at hg';subst hg';exact y3g s d neg hd hn hl w
 | cons c r=>
   have h1:0<d.size:=by rw[hsz,←hdl,hl];simp
   have hc:d[0]=c:=by
    have:d.data.toList[0]'(by rw[hl];simp)=c:=by simp[hl]
    show d.data[0]=c;simpa using this
   rw[hl] at hg';by_cases h48:c=48
   ·subst h48
    cases r with
    | nil=>
      have:g= !neg:=by rw[hg'];simp[formD]
      rw[this];exact y3m s d neg hd hn h1 hl w
    | cons c2 r2=>
      have:g=false:=by rw[hg'];simp[formD]
      rw[this];exact y2t s d neg hd hn h1 hc (by rw[hl];simp) w
   ·refine y56 s d neg g hd hn (by omega) h1 ?_ ?_ w
    ·rw[hc];intro e;exact h48 (UInt8.toNat_inj.1 (by simpa using(by omega:c.toNat=48)))
    ·rw[hg',hl];simp[formD,h48]
def Given (w:World):Prop:=Lib.TabIs Tryz.prog w "internal/strconv.uint64pow10" .u64 Lib.pow10Tab∧
 (∃ tp p,w.var? Tryz.prog "strconv.ErrRange"=some #[.iface tp p])∧∃ tp p,w.var? Tryz.prog "strconv.ErrSyntax"=some #[.iface tp p]
theorem gT:∃ g,Tryz.prog.globalNamed "internal/strconv.uint64pow10"=some g:=Option.isSome_iff_exists.1 (by kernel_rfl)
theorem gR:∃ g,Tryz.prog.globalNamed "strconv.ErrRange"=some g:=Option.isSome_iff_exists.1 (by kernel_rfl)
theorem gS:∃ g,Tryz.prog.globalNamed "strconv.ErrSyntax"=some g:=Option.isSome_iff_exists.1 (by kernel_rfl)
theorem y01 {w:World} {n:String} {g:Nat} {x:Value} (hg:Tryz.prog.globalNamed n=some g) (h:w.var? Tryz.prog n=some #[x]):g<w.heap.size:=by
 have:=World.var?_cell hg h 0;exact Lib.lt_of_cell (a:=⟨g,0,none⟩) (v:=x) (by simpa using this)
theorem Given.below {w w':World} (h:Given w) (hb:Below w.heap.size w w'):Given w':=by
 obtain⟨hT,⟨tp,p,hR⟩,tq,q,hS⟩:=h;obtain⟨g1,e1⟩:=gT;obtain⟨g2,e2⟩:=gR;obtain⟨g3,e3⟩:=gS
 have c1:g1<w.heap.size:=by
  have:=hT.cell e1 0 (by decide);exact Lib.lt_of_cell this
 exact⟨var?_below hb e1 c1 hT,⟨tp,p,var?_below hb e2 (y01 e2 hR) hR⟩,tq,q,var?_below hb e3 (y01 e3 hS) hS⟩
theorem y5u (w:World) (q:Nat) (os:Array Obj):Below w.heap.size w (Sort.grow (w.drewN q) os):=
 ⟨rfl,rfl,rfl,by simp[Sort.grow,World.drewN],fun k hk=>by
  show (w.heap++os)[k]?=w.heap[k]?;rw[Array.getElem?_append_left hk]⟩
theorem y9w (n:Int) (h: -9223372036854775808≤n∧n≤9223372036854775807) (w:World) (hG:Given w):
  Cz 87 #[n] w fun e w'=>e= .returned (.string ⟨(Lib.itoa n).toArray⟩)∧Below w.heap.size w w':=by
 have k27:Cz 116 #[n,iI 10] w fun e w'=>e= .returned (.string ⟨(Lib.itoa n).toArray⟩)∧Below w.heap.size w w':=
  (Tryz.strconv_FormatInt_10 n h.1 h.2 w hG.1).mono fun e w' ⟨he,k,os,hw⟩=>⟨he,by rw[hw];exact y5u w k os⟩
 obtain⟨t,ht⟩:∃ t:BA,t=⟨(Lib.itoa n).toArray⟩:=⟨_,rfl⟩;rw[←ht] at k27 ⊢;clear ht hG;go_enter Tryz.func87,Tryz.ntmps87;go_wp2_with (go_at_call 116;((with_reducible refine k27.mono ?_));rintro e w1 ⟨rfl,hb⟩);go_ret;exact⟨rfl,hb⟩
theorem y66 (s:BA) (hf:formL s.data.toList=false) (hm:s.size≤4000) (w:World):
  Cz 96 #[s] w fun e w'=>e= .returned (.tuple #[oZ,iI 1])∧w=w':=by
 have HF:=zz hf;clear hf;go_enter Tryz.func96,Tryz.ntmps96;go_wp2_with (go_at_call 126;((with_reducible refine(z5s s false HF.out.symm (by omega) _).mono ?_));rintro e w1 ⟨rfl,rfl⟩)
 go_ret2
 exact⟨rfl,rfl⟩
theorem x1f (s:BA) (v:Int) (hf:formL s.data.toList=true) (hv:Lib.parseIntB 64 s.data.toList= .ok v) (hm:s.size≤4000) (w:World):
  Cz 96 #[s] w fun e w'=>e= .returned (.tuple #[v,oZ])∧Below w.heap.size w w':=by
 have HF:=zz hf
 have k29:Cz 127 #[s,iI 10,iI 64] w fun e w'=>e= .returned (.tuple #[v,.nilIface])∧Below w.heap.size w w':=
  (Tryz.strconv_ParseInt_10_at64_ok s (by omega) v hv w).mono fun e w' ⟨he,hw⟩=>⟨he,by
   rcases hw with rfl | ⟨t,rfl⟩
   ·exact Below.refl _ _
   ·exact Lib.bytesWorld_below w 5 t⟩
 clear hf hv;go_enter Tryz.func96,Tryz.ntmps96;go_wp2_with (first | (go_at_call 126;((with_reducible refine(z5s s true HF.out.symm (by omega) _).mono ?_));rintro e w1 ⟨rfl,rfl⟩) | (go_at_call 127;((with_reducible refine k29.mono ?_));rintro e w1 ⟨rfl,hb⟩))
 go_ret2
 exact⟨rfl,hb⟩
theorem y6w (s:BA) (hf:formL s.data.toList=true) (hv:Lib.parseIntB 64 s.data.toList= .range) (hm:s.size≤4000) (w:World) (hG:Given w):
  Cz 96 #[s] w fun e w'=>e= .returned (.tuple #[oZ,iI 3])∧Below w.heap.size w w':=by
 have HF:=zz hf;obtain⟨_,⟨tp,p,hR⟩,_⟩:=hG
 have k29:Cz 127 #[s,iI 10,iI 64] w fun e w'=>∃ N n,e= .returned (.tuple #[n,.iface 187 (.pointer (some ⟨N,0,none⟩))])∧Below w.heap.size w w':=
  (Tryz.strconv_ParseInt_10_at64_range_var s (by omega) hv tp p w hR).mono fun e w' ⟨N,he,_,_,hw⟩=>⟨N,_,he,hw⟩
 clear hf hv hR;go_enter Tryz.func96,Tryz.ntmps96;go_wp2_with (first | (go_at_call 126;((with_reducible refine(z5s s true HF.out.symm (by omega) _).mono ?_));rintro e w1 ⟨rfl,rfl⟩) | (go_at_call 127;((with_reducible refine k29.mono ?_));rintro e w1 ⟨N,n,rfl,hb⟩))
 go_ret2
 exact⟨rfl,hb⟩
theorem of_ok (s:Bool) (m n:Int) (h0:0≤m) (hn:n=if s=true then -m else m) (hr: -9223372036854775808≤n∧n≤9223372036854775807) (w:World):
  Cz 105 #[.bool s,.int .u64 m] w fun e w'=>e= .returned (.tuple #[n,oZ])∧w=w':=by
 cases s
 ·simp at hn;subst hn
  exact x42 n h0 hr.2 w
 ·simp at hn;subst hn
  by_cases g:m=9223372036854775808
  ·subst g
   exact x2o w
  ·exact x5t m h0 (by omega) w
theorem of_no (s:Bool) (m n:Int) (h0:0≤m) (hn:n=if s=true then -m else m) (hr:¬ (-9223372036854775808≤n∧n≤9223372036854775807)) (w:World):
  Cz 105 #[.bool s,.int .u64 m] w fun e w'=>e= .returned (.tuple #[oZ,iI 3])∧w=w':=by
 cases s
 ·simp at hn;subst hn
  exact y9k n (by omega) w
 ·simp at hn;subst hn
  exact y8p m (by omega) w
section
set_option linter.unusedVariables false
theorem y4z (c:UInt8):isD c=digB c:=by
 unfold isD digB;rw[Bool.eq_iff_iff];simp;omega
def specD (d:List UInt8) (neg:Bool) (n e:Int):Prop:=
 if d.all digB=true then ∃ v:Int,v=(if neg=true then -(valN d:Int) else (valN d:Int))∧(if -9223372036854775808≤v∧v≤9223372036854775807 then n=v∧e=0 else n=0∧e=3) else n=0∧e=1
def Inv (l:List UInt8) (k mm:Nat) (o:Bool):Prop:=(l.take k).all digB=true∧(o=false→mm=valN (l.take k))∧(o=true→10000000000000000000≤valN (l.take k)∧1000000000000000000<mm)
theorem z4f (d:BA) (k:Nat) (h:k<d.size):d.data.toList.take (k+1)=d.data.toList.take k++[d[k]]:=y06 d k h
theorem z7n (l:List UInt8):Inv l 0 0 false:=⟨rfl,fun _=>rfl,fun h=>by cases h⟩
theorem y0y {c:UInt8} (h:digB c=true):48≤c.toNat∧c.toNat≤57:=by simpa[digB] using h
theorem y0h (d:BA) (k mm:Nat) (o:Bool) (h:k<d.size) (hi:Inv d.data.toList k mm o) (hd:digB d[k]=true) (hm:mm≤1000000000000000000):Inv d.data.toList (k+1) (mm * 10+d[k].toNat - 48) o:=by
 obtain⟨a,b,c⟩:=hi;have hb:=y0y hd;refine⟨by rw[z4f d k h,List.all_append,a,List.all_cons,hd];rfl,fun ho=>?_,fun ho=>?_⟩
 ·rw[z4f d k h,y02,b ho];omega
 ·have:=(c ho).2;omega
theorem z96 (d:BA) (k mm:Nat) (o:Bool) (h:k<d.size) (hi:Inv d.data.toList k mm o) (hd:digB d[k]=true) (hm:1000000000000000000<mm):Inv d.data.toList (k+1) mm true:=by
 obtain⟨a,b,c⟩:=hi;have hb:=y0y hd;refine⟨by rw[z4f d k h,List.all_append,a,List.all_cons,hd];rfl,(fun ho=>by cases ho),fun _=>⟨?_,hm⟩⟩;rw[z4f d k h,y02]
 cases o with
 | false=>rw[←b rfl];omega
 | true=>have:=(c rfl).1;omega
theorem y4q (d:BA) (k:Nat) (h:¬ k<d.size):d.data.toList.take k=d.data.toList:=List.take_of_length_le (by rw[Array.length_toList];exact Nat.le_of_not_lt h)
theorem z9z (d:BA) (k:Nat) (h:k<d.size) (neg:Bool) (n e:Int) (hs:specD d.data.toList neg n e) (hd:digB d[k]=false):n=0∧e=1:=by
 unfold specD at hs;rw[x2x d k h digB hd] at hs;simpa using hs
theorem z7o (d:BA) (k mm:Nat) (h:¬ k<d.size) (neg:Bool) (n e:Int) (hs:specD d.data.toList neg n e) (hi:Inv d.data.toList k mm true):n=0∧e=3:=by
 obtain⟨a,b,c⟩:=hi;have hc:=(c rfl).1;rw[y4q d k h] at a hc;unfold specD at hs;rw[if_pos a] at hs;obtain⟨v,hv,hs⟩:=hs;rw[if_neg (by split at hv <;> omega)] at hs;exact hs
theorem y3s (d:BA) (k mm:Nat) (h:¬ k<d.size) (neg:Bool) (n e:Int) (hs:specD d.data.toList neg n e) (hi:Inv d.data.toList k mm false) (w:World):
  Cz 105 #[.bool neg,.int .u64 mm] w fun e' w'=>e'= .returned (.tuple #[n,e])∧w=w':=by
 obtain⟨a,b,c⟩:=hi;have hb:=b rfl;rw[y4q d k h] at a hb;unfold specD at hs;rw[if_pos a] at hs;obtain⟨v,hv,hs⟩:=hs;rw[←hb] at hv
 split at hs
 ·obtain⟨rfl,rfl⟩:=hs
  exact of_ok neg mm n (by omega) hv (by assumption) w
 ·obtain⟨rfl,rfl⟩:=hs
  exact of_no neg mm v (by omega) hv (by assumption) w
theorem y00 (s:BA) (h0:s.size=0) (w:World):
  Cz 65 #[s] w fun e' w'=>e'= .returned (.tuple #[oZ,iI 1])∧w=w':=by
 obtain rfl:s=ByteArray.empty:=by
  apply ByteArray.ext;apply Array.toList_inj.1;apply List.eq_nil_of_length_eq_zero;rw[Array.length_toList];exact h0
 clear h0;go_enter Tryz.func65,Tryz.ntmps65;go_wp2
 all_goals (go_ret2;exact⟨rfl,rfl⟩)
theorem y20 (s:BA) (h1:s.size=1) (hx:∃ h:0<s.size,(s[0].toNat:Int)=45) (w:World):
  Cz 65 #[s] w fun e' w'=>e'= .returned (.tuple #[oZ,iI 1])∧w=w':=by
 obtain⟨hp,hx⟩:=hx;have e1:((s[0].toNat:Int)==45)=true:=by simpa using hx
 have h2:s.size - 1=0:=by omega
 have h3:(((s.size - 1:Nat):Int)==0)=true:=by rw[h2];rfl
 have h4:s.size≤1:=by omega
 clear hx h1 h2;go_enter Tryz.func65,Tryz.ntmps65;go_wp2
 all_goals (go_ret2;exact⟨rfl,rfl⟩)
theorem z92 (s d:BA) (hm:s.size≤4000) (hx:∃ h:0<s.size,(s[0].toNat:Int)=45) (hd:d=s.extract 1 s.size) (hz:∃ h:0<d.size,d[0]=48) (w:World):
  Cz 65 #[s] w fun e' w'=>e'= .returned (.tuple #[oZ,iI 1])∧w=w':=by
 obtain⟨dp,hz⟩:=hz;have hz:(d[0].toNat:Int)=48:=by rw[hz];rfl
 obtain⟨hp,hx⟩:=hx;have e1:((s[0].toNat:Int)==45)=true:=by simpa using hx
 have hex:=hd.symm;have hds:d.size+1=s.size:=by rw[hd,ByteArray.size_extract];omega
 have n0:((d.size:Int)==0)=false:=beq_eq_false_iff_ne.2 (by omega);have n3:¬ d=ByteArray.empty:=by rintro rfl;exact absurd dp (by decide)
 have n1:1≤s.size:=by omega
 have n2:s.size - 1=d.size:=by omega
 clear hx hd;have e2:((d[0].toNat:Int)==48)=true:=by simpa using hz
 clear hz;go_enter Tryz.func65,Tryz.ntmps65;go_wp2
 all_goals (go_ret2;exact⟨rfl,rfl⟩)
theorem z9h (s:BA) (hm:s.size≤4000) (hz:∃ h:0<s.size,s[0]=48) (hl:1<s.size) (w:World):
  Cz 65 #[s] w fun e' w'=>e'= .returned (.tuple #[oZ,iI 1])∧w=w':=by
 obtain⟨dp,hz⟩:=hz;have hz:(s[0].toNat:Int)=48:=by rw[hz];rfl
 have hne:¬ s=ByteArray.empty:=by rintro rfl;exact absurd dp (by decide)
 have e1:((s[0].toNat:Int)==45)=false:=by rw[hz];rfl
 have e2:((s[0].toNat:Int)==48)=true:=by rw[hz];rfl
 have e3:((s.size:Int)==0)=false:=beq_eq_false_iff_ne.2 (by omega);clear hz;go_enter Tryz.func65,Tryz.ntmps65;go_wp2
 all_goals (go_ret2;exact⟨rfl,rfl⟩)
theorem y0m (s d:BA) (hm:s.size≤4000) (hx:∃ h:0<s.size,(s[0].toNat:Int)=45) (hd:d=s.extract 1 s.size) (hz:∃ h:0<d.size,¬ d[0]=48) (n e:Int) (hs:specD d.data.toList true n e) (w:World):
  Cz 65 #[s] w fun e' w'=>e'= .returned (.tuple #[n,e])∧w=w':=by
 obtain⟨dp,hz⟩:=hz;have hz:¬ (d[0].toNat:Int)=48:=fun h=>hz (UInt8.toNat_inj.1 (by have:(48:UInt8).toNat=48:=rfl;omega))
 obtain⟨hp,hx⟩:=hx;have e1:((s[0].toNat:Int)==45)=true:=by simpa using hx
 have hex:=hd.symm;have hds:d.size+1=s.size:=by rw[hd,ByteArray.size_extract];omega
 have n0:((d.size:Int)==0)=false:=beq_eq_false_iff_ne.2 (by omega);have n3:¬ d=ByteArray.empty:=by rintro rfl;exact absurd dp (by decide)
 have n1:1≤s.size:=by omega
 have n2:s.size - 1=d.size:=by omega
 clear hx hd;have e2:((d[0].toNat:Int)==48)=false:=by simpa using hz
 have hm2:d.size≤4000:=by omega
 have HN2:=zz n2;have HS:=zz hs;clear hs hz;go_enter Tryz.func65,Tryz.ntmps65;go_wp2
 go_loop [6,7,8] (fun m ov i=>∃ (k mm:Nat) (o:Bool),k≤d.size∧m= .int .u64 mm∧ov= .bool o∧i= .int .i64 k∧(mm:Int)≤10000000000000000009∧Inv d.data.toList k mm o) (fun _ _ i=>d.size - (intOf i).toNat)
 case atStart=>exact⟨0,0,false,Nat.zero_le _,rfl,rfl,rfl,by omega,z7n _⟩
 case round=>
  obtain⟨k,mm,o,hk,rfl,rfl,rfl,hmm,hinv⟩:=hrel;have HI:=zz hinv;clear hinv;by_cases hlt:k<d.size
  ·by_cases hp:digB d[k]=true
   ·have hb:48≤(d[k].toNat:Int)∧(d[k].toNat:Int)≤57:=by have:=y0y hp;omega
    obtain⟨b1,b2⟩:=hb;by_cases hbig:(1000000000000000000:Int)<mm
    ·have HA:Hid (Inv d.data.toList (k+1) mm true):=zz (z96 d k mm o hlt HI.out hp (by omega))
     clear hp;go_wp2
     go_round
     case rel=>exact⟨k+1,mm,true,by omega,rfl,rfl,by go_num,hmm,HA.out⟩
     case measure=>simp[intOf];omega
    ·have HA:Hid (Inv d.data.toList (k+1) (mm * 10+d[k].toNat - 48) o):=zz (y0h d k mm o hlt HI.out hp (by omega))
     clear hp;go_wp2
     go_round
     case rel=>exact⟨k+1,mm * 10+d[k].toNat - 48,o,by omega,by go_num,rfl,by go_num,by omega,HA.out⟩
     case measure=>simp[intOf];omega
   ·have hp':digB d[k]=false:=by simpa using hp
    have HA:Hid (n=0∧e=1):=zz (z9z d k hlt true n e HS.out hp')
    have hb:(d[k].toNat:Int)<48∨57<(d[k].toNat:Int):=by
     rw[←y4z] at hp';simp only[isD,decide_eq_false_iff_not] at hp';omega
    clear hp hp'
    rcases hb with hb | hb
    all_goals
     go_wp2
     go_ret2
     exact⟨by rw[HA.out.1,HA.out.2];rfl,rfl⟩
  ·cases o with
   | true=>
     have HA:Hid (n=0∧e=3):=zz (z7o d k mm hlt true n e HS.out HI.out);go_wp2
     go_ret2
     exact⟨by rw[HA.out.1,HA.out.2];rfl,rfl⟩
   | false=>
     have HK:Hid (∀ w,Cz 105 #[.bool true,.int .u64 mm] w fun e' w'=>e'= .returned (.tuple #[n,e])∧w=w'):=zz (fun w=>y3s d k mm hlt true n e HS.out HI.out w);go_wp2_with (go_at_call 105;((with_reducible refine(HK.out _).mono ?_));rintro e' w' ⟨rfl,rfl⟩)
     go_ret2
     exact⟨rfl,rfl⟩
theorem z99 (s:BA) (hm:s.size≤4000) (hz:∃ h:0<s.size,¬ s[0]=48∧¬ s[0]=45) (n e:Int) (hs:specD s.data.toList false n e) (w:World):
  Cz 65 #[s] w fun e' w'=>e'= .returned (.tuple #[n,e])∧w=w':=by
 obtain⟨dp,hz⟩:=hz;have e2:((s[0].toNat:Int)==48)=false:=by have:¬ (s[0].toNat:Int)=48:=fun h=>hz.1 (UInt8.toNat_inj.1 (by have:(48:UInt8).toNat=48:=rfl;omega));simpa using this
 have e1:((s[0].toNat:Int)==45)=false:=by have:¬ (s[0].toNat:Int)=45:=fun h=>hz.2 (UInt8.toNat_inj.1 (by have:(45:UInt8).toNat=45:=rfl;omega));simpa using this
 have hne:¬ s=ByteArray.empty:=by rintro rfl;exact absurd dp (by decide)
 have e3:((s.size:Int)==0)=false:=beq_eq_false_iff_ne.2 (by omega);have hm2:s.size≤4000:=hm;have HS:=zz hs;clear hs hz;go_enter Tryz.func65,Tryz.ntmps65;go_wp2
 go_loop [6,7,8] (fun m ov i=>∃ (k mm:Nat) (o:Bool),k≤s.size∧m= .int .u64 mm∧ov= .bool o∧i= .int .i64 k∧(mm:Int)≤10000000000000000009∧Inv s.data.toList k mm o) (fun _ _ i=>s.size - (intOf i).toNat)
 case atStart=>exact⟨0,0,false,Nat.zero_le _,rfl,rfl,rfl,by omega,z7n _⟩
 case round=>
  obtain⟨k,mm,o,hk,rfl,rfl,rfl,hmm,hinv⟩:=hrel;have HI:=zz hinv;clear hinv;by_cases hlt:k<s.size
  ·by_cases hp:digB s[k]=true
   ·have hb:48≤(s[k].toNat:Int)∧(s[k].toNat:Int)≤57:=by have:=y0y hp;omega
    obtain⟨b1,b2⟩:=hb;by_cases hbig:(1000000000000000000:Int)<mm
    ·have HA:Hid (Inv s.data.toList (k+1) mm true):=zz (z96 s k mm o hlt HI.out hp (by omega))
     clear hp;go_wp2
     go_round
     case rel=>exact⟨k+1,mm,true,by omega,rfl,rfl,by go_num,hmm,HA.out⟩
     case measure=>simp[intOf];omega
    ·have HA:Hid (Inv s.data.toList (k+1) (mm * 10+s[k].toNat - 48) o):=zz (y0h s k mm o hlt HI.out hp (by omega))
     clear hp;go_wp2
     go_round
     case rel=>exact⟨k+1,mm * 10+s[k].toNat - 48,o,by omega,by go_num,rfl,by go_num,by omega,HA.out⟩
     case measure=>simp[intOf];omega
   ·have hp':digB s[k]=false:=by simpa using hp
    have HA:Hid (n=0∧e=1):=zz (z9z s k hlt false n e HS.out hp')
    have hb:(s[k].toNat:Int)<48∨57<(s[k].toNat:Int):=by
     rw[←y4z] at hp';simp only[isD,decide_eq_false_iff_not] at hp';omega
    clear hp hp'
    rcases hb with hb | hb
    all_goals
     go_wp2
     go_ret2
     exact⟨by rw[HA.out.1,HA.out.2];rfl,rfl⟩
  ·cases o with
   | true=>
     have HA:Hid (n=0∧e=3):=zz (z7o s k mm hlt false n e HS.out HI.out);go_wp2
     go_ret2
     exact⟨by rw[HA.out.1,HA.out.2];rfl,rfl⟩
   | false=>
     have HK:Hid (∀ w,Cz 105 #[.bool false,.int .u64 mm] w fun e' w'=>e'= .returned (.tuple #[n,e])∧w=w'):=zz (fun w=>y3s s k mm hlt false n e HS.out HI.out w);go_wp2_with (go_at_call 105;((with_reducible refine(HK.out _).mono ?_));rintro e' w' ⟨rfl,rfl⟩)
     go_ret2
     exact⟨rfl,rfl⟩
theorem z9n (s:BA) (hm:s.size≤4000) (hz:∃ h:0<s.size,s[0]=48) (hl:s.size=1) (n e:Int) (hs:specD s.data.toList false n e) (w:World):
  Cz 65 #[s] w fun e' w'=>e'= .returned (.tuple #[n,e])∧w=w':=by
 obtain⟨dp,hz⟩:=hz;have e1:((s[0].toNat:Int)==45)=false:=by rw[hz];rfl
 have e2:((s[0].toNat:Int)==48)=true:=by rw[hz];rfl
 have hl2:s.size≤1:=by omega
 clear hl;have hne:¬ s=ByteArray.empty:=by rintro rfl;exact absurd dp (by decide)
 have e3:((s.size:Int)==0)=false:=beq_eq_false_iff_ne.2 (by omega);have hm2:s.size≤4000:=hm;have HS:=zz hs;clear hs hz;go_enter Tryz.func65,Tryz.ntmps65;go_wp2
 go_loop [6,7,8] (fun m ov i=>∃ (k mm:Nat) (o:Bool),k≤s.size∧m= .int .u64 mm∧ov= .bool o∧i= .int .i64 k∧(mm:Int)≤10000000000000000009∧Inv s.data.toList k mm o) (fun _ _ i=>s.size - (intOf i).toNat)
 case atStart=>exact⟨0,0,false,Nat.zero_le _,rfl,rfl,rfl,by omega,z7n _⟩
 case round=>
  obtain⟨k,mm,o,hk,rfl,rfl,rfl,hmm,hinv⟩:=hrel;have HI:=zz hinv;clear hinv;by_cases hlt:k<s.size
  ·by_cases hp:digB s[k]=true
   ·have hb:48≤(s[k].toNat:Int)∧(s[k].toNat:Int)≤57:=by have:=y0y hp;omega
    obtain⟨b1,b2⟩:=hb;by_cases hbig:(1000000000000000000:Int)<mm
    ·have HA:Hid (Inv s.data.toList (k+1) mm true):=zz (z96 s k mm o hlt HI.out hp (by omega))
     clear hp;go_wp2
     go_round
     case rel=>exact⟨k+1,mm,true,by omega,rfl,rfl,by go_num,hmm,HA.out⟩
     case measure=>simp[intOf];omega
    ·have HA:Hid (Inv s.data.toList (k+1) (mm * 10+s[k].toNat - 48) o):=zz (y0h s k mm o hlt HI.out hp (by omega))
     clear hp;go_wp2
     go_round
     case rel=>exact⟨k+1,mm * 10+s[k].toNat - 48,o,by omega,by go_num,rfl,by go_num,by omega,HA.out⟩
     case measure=>simp[intOf];omega
   ·have hp':digB s[k]=false:=by simpa using hp
    have HA:Hid (n=0∧e=1):=zz (z9z s k hlt false n e HS.out hp')
    have hb:(s[k].toNat:Int)<48∨57<(s[k].toNat:Int):=by
     rw[←y4z] at hp';simp only[isD,decide_eq_false_iff_not] at hp';omega
    clear hp hp'
    rcases hb with hb | hb
    all_goals
     go_wp2
     go_ret2
     exact⟨by rw[HA.out.1,HA.out.2];rfl,rfl⟩
  ·cases o with
   | true=>
     have HA:Hid (n=0∧e=3):=zz (z7o s k mm hlt false n e HS.out HI.out);go_wp2
     go_ret2
     exact⟨by rw[HA.out.1,HA.out.2];rfl,rfl⟩
   | false=>
     have HK:Hid (∀ w,Cz 105 #[.bool false,.int .u64 mm] w fun e' w'=>e'= .returned (.tuple #[n,e])∧w=w'):=zz (fun w=>y3s s k mm hlt false n e HS.out HI.out w);go_wp2_with (go_at_call 105;((with_reducible refine(HK.out _).mono ?_));rintro e' w' ⟨rfl,rfl⟩)
     go_ret2
     exact⟨rfl,rfl⟩
end
section
set_option linter.unusedVariables false
def specL (l:List UInt8) (n e:Int):Prop:=if formL l=true then specD (digL l) (negL l) n e else n=0∧e=1
theorem z6z (r:List UInt8):negL (45::r)=true:=by simp[negL,Lib.hasPrefix]
theorem z3b (c:UInt8) (r:List UInt8) (h:¬ c=45):negL (c::r)=false:=by
 have h':¬ (45:UInt8)=c:=fun e=>h e.symm
 show ([45]:List UInt8).isPrefixOf (c::r)=false;simp only[List.isPrefixOf,Bool.and_true,beq_eq_false_iff_ne];exact h'
theorem z8c (r:List UInt8):digL (45::r)=r:=by simp[digL,Lib.trimPrefix,Lib.hasPrefix]
theorem z3z (c:UInt8) (r:List UInt8) (h:¬ c=45):digL (c::r)=c::r:=by
 have:=z3b c r h;unfold negL at this;unfold digL Lib.trimPrefix;rw[this];rfl
theorem y3t:isD=digB:=funext y4z
theorem y5q (r:List UInt8):formL (45::r)=formD r true:=by rw[formL,z6z,z8c]
theorem z8o (c:UInt8) (r:List UInt8) (h:¬ c=45):formL (c::r)=formD (c::r) false:=by rw[formL,z3b c r h,z3z c r h]
theorem y15 (c:UInt8) (r:List UInt8) (neg:Bool) (hc:¬ c=48) (n e:Int) (hs:if formD (c::r) neg=true then specD (c::r) neg n e else n=0∧e=1):specD (c::r) neg n e:=by
 have hf:formD (c::r) neg=(c::r).all digB:=by simp only[formD];rw[if_neg hc,y3t]
 rw[hf] at hs
 split at hs
 ·exact hs
 ·unfold specD;rw[if_neg (by assumption)];exact hs
theorem y4w (s:BA) (c:UInt8) (r:List UInt8) (h:s.data.toList=c::r):∃ hp:0<s.size,s[0]=c:=by
 have h1:0<s.size:=by
  have e:s.size=s.data.toList.length:=(Array.length_toList).symm;rw[e,h];simp
 refine⟨h1,?_⟩;have:s.data.toList[0]'(by rw[h];simp)=c:=by simp[h]
 show s.data[0]=c;simpa using this
theorem y8v (s:BA) (l:List UInt8) (h:s.data.toList=l):s.size=l.length:=by rw[←h];exact(Array.length_toList).symm
theorem y23 (s:BA) (hm:s.size≤4000) (n e:Int) (hs:specL s.data.toList n e) (w:World):
  Cz 65 #[s] w fun e' w'=>e'= .returned (.tuple #[n,e])∧w=w':=by
 unfold specL at hs
 cases hl:s.data.toList with
 | nil=>
   rw[hl,if_neg (by decide)] at hs;obtain⟨rfl,rfl⟩:=hs;exact y00 s (by rw[y8v s _ hl];rfl) w
 | cons c r=>
   rw[hl] at hs;have h1:=y4w s c r hl;have hsz:=y8v s _ hl;by_cases hc:c=45
   ·subst hc
    rw[y5q,z6z,z8c] at hs
    have hx:∃ h:0<s.size,(s[0].toNat:Int)=45:=by
     obtain⟨hp,h1⟩:=h1;exact⟨hp,by rw[h1];rfl⟩
    cases r with
    | nil=>
      rw[if_neg (by decide)] at hs;obtain⟨rfl,rfl⟩:=hs;exact y20 s (by rw[hsz];rfl) hx w
    | cons c2 r2=>
      have hd:(s.extract 1 s.size).data.toList=c2::r2:=by
       rw[Lib.extract_data,hl];simp[hsz]
      have h2:=y4w _ c2 r2 hd;by_cases h48:c2=48
      ·subst h48
       have:formD (48::r2) true=false:=by simp[formD]
       rw[this,if_neg (by decide)] at hs;obtain⟨rfl,rfl⟩:=hs;exact z92 s _ hm hx rfl h2 w
      ·refine y0m s _ hm hx rfl ?_ n e ?_ w
       ·obtain⟨hp,h2⟩:=h2;exact⟨hp,by rw[h2];exact h48⟩
       ·rw[hd];exact y15 c2 r2 true h48 n e hs
   ·rw[z8o c r hc,z3b c r hc,z3z c r hc] at hs
    by_cases h48:c=48
    ·subst h48
     cases r with
     | nil=>
       rw[if_pos (by decide)] at hs;exact z9n s hm h1 (by rw[hsz];rfl) n e (by rw[hl];exact hs) w
     | cons c2 r2=>
       have:formD (48::c2::r2) false=false:=by simp[formD]
       rw[this,if_neg (by decide)] at hs;obtain⟨rfl,rfl⟩:=hs;exact z9h s hm h1 (by rw[hsz];simp) w
    ·refine z99 s hm ?_ n e ?_ w
     ·obtain⟨hp,h1⟩:=h1;exact⟨hp,by rw[h1];exact⟨h48,hc⟩⟩
     ·rw[hl];exact y15 c r false h48 n e hs
theorem y1t (d:List UInt8) (neg:Bool) (h:formD d neg=true):d.all digB=true∧d≠[]∧(d.head?≠some 48∨d=[48]∧neg=false):=by
 cases d with
 | nil=>simp[formD] at h
 | cons c r=>
   simp only[formD] at h;by_cases hc:c=48
   ·rw[if_pos hc] at h
    simp only[Bool.and_eq_true,List.isEmpty_iff,Bool.not_eq_true'] at h;obtain⟨rfl,rfl⟩:=h;subst hc;exact⟨by decide,by simp,Or.inr ⟨rfl,rfl⟩⟩
   ·rw[if_neg hc,y3t] at h
    exact⟨h,by simp,Or.inl (by simpa using hc)⟩
theorem x0y (l:List UInt8) (hf:formL l=true):∃ v:Int,v=(if negL l=true then -(valN (digL l):Int) else (valN (digL l):Int))∧
  Lib.parseIntB 64 l=if -9223372036854775808≤v∧v≤9223372036854775807 then .ok v else .range:=by
 refine⟨_,rfl,?_⟩;obtain⟨h1,h2,h3⟩:=y1t _ _ hf
 cases l with
 | nil=>exact absurd rfl h2
 | cons c r=>
   by_cases hc:c=45
   ·subst hc
    rw[z8c] at h1 h2 ⊢;rw[z6z,if_pos rfl,y9f r h2 h1];by_cases hv:valN r≤9223372036854775808
    ·rw[if_pos hv,if_pos (by omega)]
    ·rw[if_neg hv,if_neg (by omega)]
   ·rw[z3z c r hc] at h1 ⊢
    rw[z3b c r hc,y7c c r h1];simp only[Bool.false_eq_true,if_false];by_cases hv:valN (c::r)<9223372036854775808
    ·rw[if_pos hv,if_pos (by omega)]
    ·rw[if_neg hv,if_neg (by omega)]
theorem y5p (s:BA) (hm:s.size≤4000) (n e:Int) (hs:specL s.data.toList n e) (w:World) (hG:Given w):
  Cz 96 #[s] w fun e' w'=>e'= .returned (.tuple #[n,e])∧Below w.heap.size w w':=by
 unfold specL at hs;by_cases hf:formL s.data.toList=true
 ·rw[if_pos hf] at hs
  obtain⟨v,hv,hp⟩:=x0y _ hf;obtain⟨h1,_,_⟩:=y1t _ _ hf;unfold specD at hs;rw[if_pos h1] at hs;obtain⟨v2,hv2,hs⟩:=hs;obtain rfl:v2=v:=by rw[hv2,hv]
  split at hs
  ·rename_i hr
   obtain⟨rfl,rfl⟩:=hs;rw[if_pos hr] at hp;exact x1f s _ hf hp hm w
  ·rename_i hr
   obtain⟨rfl,rfl⟩:=hs;rw[if_neg hr] at hp;exact y6w s hf hp hm w hG
 ·rw[if_neg hf] at hs
  obtain⟨rfl,rfl⟩:=hs;exact(y66 s (by simpa using hf) hm w).mono fun e' w' ⟨he,hw⟩=>⟨he,by rw[hw];exact Below.refl _ _⟩
end
end Go.Proofs.YtngfihoempcplaaGreatDoor
