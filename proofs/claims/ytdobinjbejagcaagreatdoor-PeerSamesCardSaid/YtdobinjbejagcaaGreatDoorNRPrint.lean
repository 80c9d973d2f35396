import Derived.WalkKit
import Derived.Test.YtdobinjbejagcaaGreatDoorRows
import Derived.WalkSpells
import Derived.WalkLawsBesides
import Derived.Lib.Hide
import Derived.Test.YtdobinjbejagcaaGreatDoorShelf
import Derived.WalkSmall
import Derived.Lib.ParseIntBTie
import Derived.Lib.AtoiErrMem
import Derived.Lib.ItoaNum
import Derived.Lib.ParseIntBCases
import Derived.Laws.IdiomStrings
import Derived.Lib.SmallJoins
namespace Go.Proofs.YtdobinjbejagcaaGreatDoor
open Go Go.RowKit
theorem ret_intN {k:IntKind} {a b:Int} (h:a=b):Ending.returned (.int k a)= .returned (.int k b):=by rw[h]
theorem ret_two {k l:IntKind} {a b c d:Int} (h:a=b) (g:c=d):Ending.returned (.tuple #[.int k a,.int l c])= .returned (.tuple #[.int k b,.int l d]):=by rw[h,g]
theorem mag_pos (a:Int) (h0:0≤a) (h1:a≤9223372036854775807) (w:World):
  Calls Tryz.prog 74 #[.int .i64 a] w fun e w'=>e= .returned (.int .u64 a)∧w=w':=by
 go_enter Tryz.func74,Tryz.ntmps74;go_wp2;go_ret;exact⟨rfl,rfl⟩
theorem mag_neg (a:Int) (h0:a<0) (h1: -9223372036854775808≤a) (w:World):
  Calls Tryz.prog 74 #[.int .i64 a] w fun e w'=>e= .returned (.int .u64 (-a))∧w=w':=by
 go_enter Tryz.func74,Tryz.ntmps74;go_wp2;go_ret;exact⟨ret_intN (by simp only[IntKind.wrap_u64];omega),rfl⟩
theorem of_pos (m:Int) (h0:0≤m) (h1:m≤9223372036854775807) (w:World):
  Calls Tryz.prog 124 #[.bool false,.int .u64 m] w fun e w'=>e= .returned (.tuple #[.int .i64 m,.int .i64 0])∧w=w':=by
 go_enter Tryz.func124,Tryz.ntmps124;go_wp2
 go_ret2
 exact⟨rfl,rfl⟩
theorem of_neg (m:Int) (h0:0≤m) (h1:m≤9223372036854775807) (w:World):
  Calls Tryz.prog 124 #[.bool true,.int .u64 m] w fun e w'=>e= .returned (.tuple #[.int .i64 (-m),.int .i64 0])∧w=w':=by
 go_enter Tryz.func124,Tryz.ntmps124;go_wp2
 go_ret2
 exact⟨ret_two (by omega) rfl,rfl⟩
theorem of_least (w:World):
  Calls Tryz.prog 124 #[.bool true,.int .u64 9223372036854775808] w fun e w'=>e= .returned (.tuple #[.int .i64 (-9223372036854775808),.int .i64 0])∧w=w':=by
 go_enter Tryz.func124,Tryz.ntmps124;go_wp2
 go_ret2
 exact⟨rfl,rfl⟩
theorem of_no_pos (m:Int) (h0:9223372036854775808≤m) (w:World):
  Calls Tryz.prog 124 #[.bool false,.int .u64 m] w fun e w'=>e= .returned (.tuple #[.int .i64 0,.int .i64 3])∧w=w':=by
 go_enter Tryz.func124,Tryz.ntmps124;go_wp2
 go_ret2
 exact⟨rfl,rfl⟩
theorem of_no_neg (m:Int) (h0:9223372036854775808<m) (w:World):
  Calls Tryz.prog 124 #[.bool true,.int .u64 m] w fun e w'=>e= .returned (.tuple #[.int .i64 0,.int .i64 3])∧w=w':=by
 go_enter Tryz.func124,Tryz.ntmps124;go_wp2
 go_ret2
 exact⟨rfl,rfl⟩
def isD (c:UInt8):Bool:=decide (48≤(c.toNat:Int)∧(c.toNat:Int)≤57)
def negL (l:List UInt8):Bool:=Lib.hasPrefix l [45]
def digL (l:List UInt8):List UInt8:=Lib.trimPrefix l [45]
def formD (d:List UInt8) (neg:Bool):Bool:=match d with
 | []=>false
 | c::r=>if c=48 then r.isEmpty && !neg else (c::r).all isD
def formL (l:List UInt8):Bool:=formD (digL l) (negL l)
theorem cut_any (s d:ByteArray) (neg:Bool) (hd:d=⟨(digL s.data.toList).toArray⟩) (hn:neg=negL s.data.toList) (w:World):
  Calls Tryz.prog 151 #[.string s,.string ⟨#[45]⟩] w fun e w'=>e= .returned (.tuple #[.string d,.bool neg])∧w=w':=by
 subst hd hn;exact(Tryz.strings_CutPrefix s ⟨#[45]⟩ w).mono fun e w' ⟨he,hw⟩=>⟨he,hw.symm⟩
theorem take_snoc (s:ByteArray) (k:Nat) (h:k<s.size):s.data.toList.take (k+1)=s.data.toList.take k++[s[k]]:=by
 rw[List.take_succ_eq_append_getElem (by simpa using h)];rfl
theorem toList_dataN (s:ByteArray):s.toList=s.data.toList:=Lib.toList_data s
theorem all_take_end (s:ByteArray) (k:Nat) (h:¬ k<s.size) (p:UInt8→Bool):(s.data.toList.take k).all p=s.data.toList.all p:=by
 rw[List.take_of_length_le (by rw[Array.length_toList];exact Nat.le_of_not_lt h)]
theorem all_no (s:ByteArray) (k:Nat) (h:k<s.size) (p:UInt8→Bool) (hp:p s[k]=false):s.data.toList.all p=false:=by
 rw[List.all_eq_false];exact⟨s[k],by show s.data[k]∈_;simp,by simp[hp]⟩
theorem digits_any (s d:ByteArray) (neg g:Bool) (hd:d=⟨(digL s.data.toList).toArray⟩) (hn:neg=negL s.data.toList) (hm:d.size≤9223372036854775807) (h0:0<d.size)
  (h48:¬ ((d[0].toNat:Int)=48)) (hg:g=d.data.toList.all isD) (w:World):
  Calls Tryz.prog 137 #[.string s] w fun e w'=>e= .returned (.bool g)∧w=w':=by
 have HD:=Lib.hid hd;have HN:=Lib.hid hn;have HG:=Lib.hid hg
 have he:d.toList.isEmpty=false:=by
  rw[toList_dataN];simp only[List.isEmpty_eq_false_iff,ne_eq];intro e;have:=congrArg List.length e;have h0':0<d.data.size:=h0;rw[Array.length_toList,List.length_nil] at this;omega
 have hx:((d[0].toNat:Int)==48)=false:=by simpa using h48
 clear hd hn hg h48;go_enter Tryz.func137,Tryz.ntmps137;go_wp2_with (go_at_call 151;((with_reducible refine(cut_any _ d neg HD.out HN.out _).mono ?_));rintro e w' ⟨rfl,rfl⟩)
 go_loop [24] (fun i=>∃ k:Nat,k≤d.size∧i= .int .i64 k∧(d.data.toList.take k).all isD=true) (fun i=>d.size - (intOf i).toNat)
 case atStart=>exact⟨0,Nat.zero_le _,rfl,rfl⟩
 case round=>
  obtain⟨k,hk,rfl,hall⟩:=hrel;by_cases hlt:k<d.size
  ·by_cases hp:isD d[k]=true
   ·have hb:48≤(d[k].toNat:Int)∧(d[k].toNat:Int)≤57:=by simpa[isD] using hp
    obtain⟨b1,b2⟩:=hb
    have HA:Hid ((d.data.toList.take (k+1)).all isD=true):=by
     apply Lib.hid;rw[take_snoc d k hlt,List.all_append,hall];simp[hp]
    clear hp hall;go_wp2
    go_round
    case rel=>exact⟨k+1,by omega,by go_num,HA.out⟩
    case measure=>simp[intOf];omega
   ·have hp':isD d[k]=false:=by simpa using hp
    have HA:Hid (g=false):=by apply Lib.hid;rw[HG.out];exact all_no d k hlt isD hp'
    have hb:(d[k].toNat:Int)<48∨57<(d[k].toNat:Int):=by
     simp only[isD,decide_eq_false_iff_not] at hp';omega
    clear hp hp' hall
    rcases hb with hb | hb
    all_goals
     go_wp2;go_ret;exact⟨by rw[HA.out];rfl,rfl⟩
  ·have HA:Hid (g=true):=by apply Lib.hid;rw[HG.out,←all_take_end d k hlt];exact hall
   clear hall;go_wp2;go_ret;exact⟨by rw[HA.out];rfl,rfl⟩
theorem digL_le (l:List UInt8):(digL l).length≤l.length:=by
 unfold digL Lib.trimPrefix;split
 ·simp
 ·exact Nat.le_refl _
theorem istext_none (s d:ByteArray) (neg:Bool) (hd:d=⟨(digL s.data.toList).toArray⟩) (hn:neg=negL s.data.toList) (h0:d.data.toList=[]) (w:World):
  Calls Tryz.prog 137 #[.string s] w fun e w'=>e= .returned (.bool false)∧w=w':=by
 have HD:=Lib.hid hd;have HN:=Lib.hid hn;have he:d.toList.isEmpty=true:=by rw[toList_dataN,h0];rfl
 clear hd hn h0;go_enter Tryz.func137,Tryz.ntmps137;go_wp2_with (go_at_call 151;((with_reducible refine(cut_any _ d neg HD.out HN.out _).mono ?_));rintro e w' ⟨rfl,rfl⟩);go_ret;exact⟨rfl,rfl⟩
theorem istext_zero (s d:ByteArray) (neg:Bool) (hd:d=⟨(digL s.data.toList).toArray⟩) (hn:neg=negL s.data.toList) (h1:0<d.size) (h0:d.data.toList=[48]) (w:World):
  Calls Tryz.prog 137 #[.string s] w fun e w'=>e= .returned (.bool !neg)∧w=w':=by
 have HD:=Lib.hid hd;have HN:=Lib.hid hn;have he:d.toList.isEmpty=false:=by rw[toList_dataN,h0];rfl
 have hx:((d[0].toNat:Int)==48)=true:=by
  have e:d[0]=48:=by
   have:d.data.toList[0]'(by rw[h0];decide)=48:=by simp[h0]
   show d.data[0]=48;simpa using this
  rw[e];rfl
 have hz:d.toList=[48]:=by rw[toList_dataN,h0]
 clear hd hn h0;go_enter Tryz.func137,Tryz.ntmps137;go_wp2_with (go_at_call 151;((with_reducible refine(cut_any _ d neg HD.out HN.out _).mono ?_));rintro e w' ⟨rfl,rfl⟩);go_ret;exact⟨rfl,rfl⟩
theorem istext_lead (s d:ByteArray) (neg:Bool) (hd:d=⟨(digL s.data.toList).toArray⟩) (hn:neg=negL s.data.toList) (h1:0<d.size) (h48:d[0]=48) (h0:¬ d.data.toList=[48]) (w:World):
  Calls Tryz.prog 137 #[.string s] w fun e w'=>e= .returned (.bool false)∧w=w':=by
 have HD:=Lib.hid hd;have HN:=Lib.hid hn
 have he:d.toList.isEmpty=false:=by
  rw[toList_dataN];simp only[List.isEmpty_eq_false_iff,ne_eq];intro e;have:=congrArg List.length e;have h0':0<d.data.size:=h1;rw[Array.length_toList,List.length_nil] at this;omega
 have hx:((d[0].toNat:Int)==48)=true:=by rw[h48];rfl
 have hz:¬ d.toList=[48]:=by rw[toList_dataN];exact h0
 clear hd hn h0 h48;go_enter Tryz.func137,Tryz.ntmps137;go_wp2_with (go_at_call 151;((with_reducible refine(cut_any _ d neg HD.out HN.out _).mono ?_));rintro e w' ⟨rfl,rfl⟩);go_ret;exact⟨rfl,rfl⟩
theorem istext_any (s:ByteArray) (g:Bool) (hg:g=formL s.data.toList) (hm:s.size≤9223372036854775807) (w:World):
  Calls Tryz.prog 137 #[.string s] w fun e w'=>e= .returned (.bool g)∧w=w':=by
 obtain⟨d,hd⟩:∃ d:ByteArray,d=⟨(digL s.data.toList).toArray⟩:=⟨_,rfl⟩;obtain⟨neg,hn⟩:∃ neg:Bool,neg=negL s.data.toList:=⟨_,rfl⟩;have hdl:d.data.toList=digL s.data.toList:=by rw[hd]
 have hsz:d.size=(digL s.data.toList).length:=by rw[←hdl];exact(Array.length_toList).symm
 have hle:d.size≤s.size:=by rw[hsz];have:=digL_le s.data.toList;rw[Array.length_toList] at this;exact this
 have hg':g=formD d.data.toList neg:=by rw[hg,formL,hdl,hn]
 cases hl:d.data.toList with
 | nil=>
   rw[hl] at hg';subst hg';exact istext_none s d neg hd hn hl w
 | cons c r=>
   have h1:0<d.size:=by rw[hsz,←hdl,hl];simp
   have hc:d[0]=c:=by
    have:d.data.toList[0]'(by rw[hl];simp)=c:=by simp[hl]
    show d.data[0]=c;simpa using this
   rw[hl] at hg';by_cases h48:c=48
   ·subst h48
    cases r with
    | nil=>
      have:g= !neg:=by rw[hg'];simp[formD]
      rw[this];exact istext_zero s d neg hd hn h1 hl w
    | cons c2 r2=>
      have:g=false:=by rw[hg'];simp[formD]
      rw[this];exact istext_lead s d neg hd hn h1 hc (by rw[hl];simp) w
   ·refine digits_any s d neg g hd hn (by omega) h1 ?_ ?_ w
    ·rw[hc];intro e;exact h48 (UInt8.toNat_inj.1 (by simpa using(by omega:c.toNat=48)))
    ·rw[hg',hl];simp[formD,h48]
def Given (w:World):Prop:=Lib.TabIs Tryz.prog w "internal/strconv.uint64pow10" .u64 Lib.pow10Tab∧
 (∃ tp p,w.var? Tryz.prog "strconv.ErrRange"=some #[.iface tp p])∧∃ tp p,w.var? Tryz.prog "strconv.ErrSyntax"=some #[.iface tp p]
theorem gT:∃ g,Tryz.prog.globalNamed "internal/strconv.uint64pow10"=some g:=Option.isSome_iff_exists.1 (by kernel_rfl)
theorem gR:∃ g,Tryz.prog.globalNamed "strconv.ErrRange"=some g:=Option.isSome_iff_exists.1 (by kernel_rfl)
theorem gS:∃ g,Tryz.prog.globalNamed "strconv.ErrSyntax"=some g:=Option.isSome_iff_exists.1 (by kernel_rfl)
theorem lt_of_var {w:World} {n:String} {g:Nat} {x:Value} (hg:Tryz.prog.globalNamed n=some g) (h:w.var? Tryz.prog n=some #[x]):g<w.heap.size:=by
 have:=World.var?_cell hg h 0;exact Lib.lt_of_cell (a:=⟨g,0,none⟩) (v:=x) (by simpa using this)
theorem Given.below {w w':World} (h:Given w) (hb:Below w.heap.size w w'):Given w':=by
 obtain⟨hT,⟨tp,p,hR⟩,tq,q,hS⟩:=h;obtain⟨g1,e1⟩:=gT;obtain⟨g2,e2⟩:=gR;obtain⟨g3,e3⟩:=gS
 have c1:g1<w.heap.size:=by
  have:=hT.cell e1 0 (by decide);exact Lib.lt_of_cell this
 exact⟨var?_below hb e1 c1 hT,⟨tp,p,var?_below hb e2 (lt_of_var e2 hR) hR⟩,tq,q,var?_below hb e3 (lt_of_var e3 hS) hS⟩
theorem below_grow (w:World) (q:Nat) (os:Array Obj):Below w.heap.size w (Sort.grow (w.drewN q) os):=
 ⟨rfl,rfl,rfl,by simp[Sort.grow,World.drewN],fun k hk=>by
  show (w.heap++os)[k]?=w.heap[k]?;rw[Array.getElem?_append_left hk]⟩
theorem print_any (n:Int) (h: -9223372036854775808≤n∧n≤9223372036854775807) (w:World) (hG:Given w):
  Calls Tryz.prog 69 #[.int .i64 n] w fun e w'=>e= .returned (.string ⟨(Lib.itoa n).toArray⟩)∧Below w.heap.size w w':=by
 have k27:Calls Tryz.prog 106 #[.int .i64 n,.int .i64 10] w fun e w'=>e= .returned (.string ⟨(Lib.itoa n).toArray⟩)∧Below w.heap.size w w':=
  (Tryz.strconv_FormatInt_10 n h.1 h.2 w hG.1).mono fun e w' ⟨he,k,os,hw⟩=>⟨he,by rw[hw];exact below_grow w k os⟩
 obtain⟨t,ht⟩:∃ t:ByteArray,t=⟨(Lib.itoa n).toArray⟩:=⟨_,rfl⟩;rw[←ht] at k27 ⊢;clear ht hG;go_enter Tryz.func69,Tryz.ntmps69;go_wp2_with (go_at_call 106;((with_reducible refine k27.mono ?_));rintro e w1 ⟨rfl,hb⟩);go_ret;exact⟨rfl,hb⟩
theorem parse_form (s:ByteArray) (hf:formL s.data.toList=false) (hm:s.size≤4000) (w:World):
  Calls Tryz.prog 116 #[.string s] w fun e w'=>e= .returned (.tuple #[.int .i64 0,.int .i64 1])∧w=w':=by
 have HF:=Lib.hid hf;clear hf;go_enter Tryz.func116,Tryz.ntmps116;go_wp2_with (go_at_call 137;((with_reducible refine(istext_any s false HF.out.symm (by omega) _).mono ?_));rintro e w1 ⟨rfl,rfl⟩)
 go_ret2
 exact⟨rfl,rfl⟩
theorem parse_ok (s:ByteArray) (v:Int) (hf:formL s.data.toList=true) (hv:Lib.parseIntB 64 s.data.toList= .ok v) (hm:s.size≤4000) (w:World):
  Calls Tryz.prog 116 #[.string s] w fun e w'=>e= .returned (.tuple #[.int .i64 v,.int .i64 0])∧Below w.heap.size w w':=by
 have HF:=Lib.hid hf
 have k29:Calls Tryz.prog 138 #[.string s,.int .i64 10,.int .i64 64] w fun e w'=>e= .returned (.tuple #[.int .i64 v,.nilIface])∧Below w.heap.size w w':=
  (Tryz.strconv_ParseInt_10_at64_ok s (by omega) v hv w).mono fun e w' ⟨he,hw⟩=>⟨he,by
   rcases hw with rfl | ⟨t,rfl⟩
   ·exact Below.refl _ _
   ·exact Lib.bytesWorld_below w 5 t⟩
 clear hf hv;go_enter Tryz.func116,Tryz.ntmps116;go_wp2_with (first | (go_at_call 137;((with_reducible refine(istext_any s true HF.out.symm (by omega) _).mono ?_));rintro e w1 ⟨rfl,rfl⟩) | (go_at_call 138;((with_reducible refine k29.mono ?_));rintro e w1 ⟨rfl,hb⟩))
 go_ret2
 exact⟨rfl,hb⟩
theorem parse_over (s:ByteArray) (hf:formL s.data.toList=true) (hv:Lib.parseIntB 64 s.data.toList= .range) (hm:s.size≤4000) (w:World) (hG:Given w):
  Calls Tryz.prog 116 #[.string s] w fun e w'=>e= .returned (.tuple #[.int .i64 0,.int .i64 3])∧Below w.heap.size w w':=by
 have HF:=Lib.hid hf;obtain⟨_,⟨tp,p,hR⟩,_⟩:=hG
 have k29:Calls Tryz.prog 138 #[.string s,.int .i64 10,.int .i64 64] w fun e w'=>∃ N n,e= .returned (.tuple #[.int .i64 n,.iface 201 (.pointer (some ⟨N,0,none⟩))])∧Below w.heap.size w w':=
  (Tryz.strconv_ParseInt_10_at64_range_var s (by omega) hv tp p w hR).mono fun e w' ⟨N,he,_,_,hw⟩=>⟨N,_,he,hw⟩
 clear hf hv hR;go_enter Tryz.func116,Tryz.ntmps116;go_wp2_with (first | (go_at_call 137;((with_reducible refine(istext_any s true HF.out.symm (by omega) _).mono ?_));rintro e w1 ⟨rfl,rfl⟩) | (go_at_call 138;((with_reducible refine k29.mono ?_));rintro e w1 ⟨N,n,rfl,hb⟩))
 go_ret2
 exact⟨rfl,hb⟩
section
open Go
def digB (c:UInt8):Bool:=decide (48≤c.toNat) && decide (c.toNat≤57)
def valF (acc:Nat) (l:List UInt8):Nat:=l.foldl (fun a c=>a * 10+(c.toNat - 48)) acc
def valN (l:List UInt8):Nat:=valF 0 l
theorem valN_snoc (l:List UInt8) (c:UInt8):valN (l++[c])=valN l * 10+(c.toNat - 48):=by simp[valN,valF]
theorem valF_ge:∀ (l:List UInt8) (acc:Nat),acc≤valF acc l
 | [],acc=>Nat.le_refl _
 | c::r,acc=>by
   have:=valF_ge r (acc * 10+(c.toNat - 48));show acc≤valF (acc * 10+(c.toNat - 48)) r;omega
theorem parse10:∀ (l:List UInt8) (acc:Nat),l.all digB=true→Lib.parseUint10 acc l=if valF acc l<18446744073709551616∨l=[] then .ok (valF acc l) else .range
 | [],acc,_=>by simp[Lib.parseUint10,valF]
 | c::r,acc,h=>by
   simp only[List.all_cons,Bool.and_eq_true] at h;obtain⟨hc,hr⟩:=h;have hc':48≤c.toNat∧c.toNat≤57:=by simpa[digB] using hc
   have e:valF acc (c::r)=valF (acc * 10+(c.toNat - 48)) r:=rfl;have g:=valF_ge r (acc * 10+(c.toNat - 48));have ih:=parse10 r (acc * 10+(c.toNat - 48)) hr;rw[e];simp only[Lib.parseUint10];rw[if_pos hc'];by_cases h1:1844674407370955162≤acc
   ·rw[if_pos h1,if_neg (by simp;omega)]
   ·rw[if_neg h1]
    by_cases h2:18446744073709551616≤acc * 10+(c.toNat - 48)
    ·rw[if_pos h2,if_neg (by simp;omega)]
    ·rw[if_neg h2,ih]
     by_cases hr0:r=[]
     ·subst hr0
      have e2:valF (acc * 10+(c.toNat - 48)) []=acc * 10+(c.toNat - 48):=rfl;rw[if_pos (Or.inr rfl),if_pos (Or.inl (by omega))]
     ·by_cases h3:valF (acc * 10+(c.toNat - 48)) r<18446744073709551616
      ·rw[if_pos (Or.inl h3),if_pos (Or.inl h3)]
      ·rw[if_neg (by simp[hr0];omega),if_neg (by simp;omega)]
theorem mag10 (l:List UInt8) (hne:l≠[]) (h:l.all digB=true):Lib.parseMag l=if valN l<18446744073709551616 then .ok (valN l) else .range:=by
 unfold Lib.parseMag;rw[if_neg hne,parse10 l 0 h,show valF 0 l=valN l from rfl];by_cases h1:valN l<18446744073709551616
 ·rw[if_pos (Or.inl h1),if_pos h1]
 ·rw[if_neg (fun hh=>hh.elim h1 hne),if_neg h1]
theorem val_plain (c:UInt8) (r:List UInt8) (h:(c::r).all digB=true):
  Lib.parseIntB 64 (c::r)=if valN (c::r)<9223372036854775808 then .ok (valN (c::r):Int) else .range:=by
 have hc:48≤c.toNat∧c.toNat≤57:=by
  simp only[List.all_cons,Bool.and_eq_true] at h;simpa[digB] using h.1
 rw[Lib.parseIntB_64,Lib.atoiAll_plain c r (by omega) (by omega),mag10 _ (by simp) h];by_cases h1:valN (c::r)<18446744073709551616
 ·rw[if_pos h1]
  by_cases h2:valN (c::r)<9223372036854775808
  ·rw[if_pos h2];simp only[Lib.signless];rw[if_neg (by omega)]
  ·rw[if_neg h2];simp only[Lib.signless];rw[if_pos (by omega)]
 ·rw[if_neg h1,if_neg (by omega)];rfl
theorem val_minus (r:List UInt8) (hne:r≠[]) (h:r.all digB=true):
  Lib.parseIntB 64 (45::r)=if valN r≤9223372036854775808 then .ok (-(valN r:Int)) else .range:=by
 rw[Lib.parseIntB_64,Lib.atoiAll_minus,mag10 _ hne h];by_cases h1:valN r<18446744073709551616
 ·rw[if_pos h1]
  by_cases h2:valN r≤9223372036854775808
  ·rw[if_pos h2];simp only[Lib.signed];rw[if_neg (by omega)]
  ·rw[if_neg h2];simp only[Lib.signed];rw[if_pos (by omega)]
 ·rw[if_neg h1,if_neg (by omega)];rfl
theorem dec_small {u:Nat} (h:u<10):Lib.decDigits u=[UInt8.ofNat (48+u)]:=Lib.decDigits_one h
theorem dec_big {u:Nat} (h:¬ u<10):Lib.decDigits u=Lib.decDigits (u / 10)++[UInt8.ofNat (48+u % 10)]:=by rw[Lib.decDigits,dif_neg h]
theorem ofNat_toNat {k:Nat} (h:k<256):(UInt8.ofNat k).toNat=k:=by rw[UInt8.toNat_ofNat'];omega
theorem dig_of {d:Nat} (h:d<10):digB (UInt8.ofNat (48+d))=true:=by
 unfold digB;rw[ofNat_toNat (by omega)];simp;omega
theorem head_app {l m:List UInt8} (h:l≠[]):(l++m).head?=l.head?:=by
 cases l with
 | nil=>exact absurd rfl h
 | cons a r=>rfl
theorem dec_facts (u:Nat):(Lib.decDigits u).all digB=true∧valN (Lib.decDigits u)=u∧Lib.decDigits u≠[]∧(u≠0→(Lib.decDigits u).head?≠some 48):=by
 induction u using Nat.strongRecOn with
 | _ u ih=>
   by_cases h:u<10
   ·rw[dec_small h]
    refine⟨by rw[List.all_cons,dig_of h];rfl,?_,by simp,?_⟩
    ·show 0 * 10+((UInt8.ofNat (48+u)).toNat - 48)=u
     rw[ofNat_toNat (by omega)];omega
    ·intro hu e
     simp only[List.head?_cons,Option.some.injEq] at e;have:=congrArg UInt8.toNat e;rw[ofNat_toNat (by omega)] at this;have h48:(48:UInt8).toNat=48:=rfl;omega
   ·obtain⟨a,b,c,d⟩:=ih (u / 10) (by omega)
    rw[dec_big h];refine⟨by rw[List.all_append,a,List.all_cons,dig_of (Nat.mod_lt u (by decide:0<10))];rfl,?_,by simp,?_⟩
    ·rw[valN_snoc,b,ofNat_toNat (by omega)];omega
    ·intro _ e
     rw[head_app c] at e;exact d (by omega) e
end
theorem of_ok (s:Bool) (m n:Int) (h0:0≤m) (hn:n=if s=true then -m else m) (hr: -9223372036854775808≤n∧n≤9223372036854775807) (w:World):
  Calls Tryz.prog 124 #[.bool s,.int .u64 m] w fun e w'=>e= .returned (.tuple #[.int .i64 n,.int .i64 0])∧w=w':=by
 cases s
 ·simp at hn;subst hn
  exact of_pos n h0 hr.2 w
 ·simp at hn;subst hn
  by_cases g:m=9223372036854775808
  ·subst g
   exact of_least w
  ·exact of_neg m h0 (by omega) w
theorem of_no (s:Bool) (m n:Int) (h0:0≤m) (hn:n=if s=true then -m else m) (hr:¬ (-9223372036854775808≤n∧n≤9223372036854775807)) (w:World):
  Calls Tryz.prog 124 #[.bool s,.int .u64 m] w fun e w'=>e= .returned (.tuple #[.int .i64 0,.int .i64 3])∧w=w':=by
 cases s
 ·simp at hn;subst hn
  exact of_no_pos n (by omega) w
 ·simp at hn;subst hn
  exact of_no_neg m (by omega) w
theorem mag_any (a:Int) (ha: -9223372036854775808≤a∧a≤9223372036854775807) (w:World):
  Calls Tryz.prog 74 #[.int .i64 a] w fun e w'=>e= .returned (.int .u64 (if a<0 then -a else a))∧w=w':=by
 by_cases h:a<0
 ·rw[if_pos h];exact mag_neg a h ha.1 w
 ·rw[if_neg h];exact mag_pos a (by omega) ha.2 w
section
set_option linter.unusedVariables false
theorem isD_eq (c:UInt8):isD c=digB c:=by
 unfold isD digB;rw[Bool.eq_iff_iff];simp;omega
def specD (d:List UInt8) (neg:Bool) (n e:Int):Prop:=
 if d.all digB=true then ∃ v:Int,v=(if neg=true then -(valN d:Int) else (valN d:Int))∧(if -9223372036854775808≤v∧v≤9223372036854775807 then n=v∧e=0 else n=0∧e=3) else n=0∧e=1
def Inv (l:List UInt8) (k mm:Nat) (o:Bool):Prop:=(l.take k).all digB=true∧(o=false→mm=valN (l.take k))∧(o=true→10000000000000000000≤valN (l.take k)∧1000000000000000000<mm)
theorem take_snocL (d:ByteArray) (k:Nat) (h:k<d.size):d.data.toList.take (k+1)=d.data.toList.take k++[d[k]]:=take_snoc d k h
theorem inv_start (l:List UInt8):Inv l 0 0 false:=⟨rfl,fun _=>rfl,fun h=>by cases h⟩
theorem dig_bd {c:UInt8} (h:digB c=true):48≤c.toNat∧c.toNat≤57:=by simpa[digB] using h
theorem inv_more (d:ByteArray) (k mm:Nat) (o:Bool) (h:k<d.size) (hi:Inv d.data.toList k mm o) (hd:digB d[k]=true) (hm:mm≤1000000000000000000):Inv d.data.toList (k+1) (mm * 10+d[k].toNat - 48) o:=by
 obtain⟨a,b,c⟩:=hi;have hb:=dig_bd hd;refine⟨by rw[take_snocL d k h,List.all_append,a,List.all_cons,hd];rfl,fun ho=>?_,fun ho=>?_⟩
 ·rw[take_snocL d k h,valN_snoc,b ho];omega
 ·have:=(c ho).2;omega
theorem inv_over (d:ByteArray) (k mm:Nat) (o:Bool) (h:k<d.size) (hi:Inv d.data.toList k mm o) (hd:digB d[k]=true) (hm:1000000000000000000<mm):Inv d.data.toList (k+1) mm true:=by
 obtain⟨a,b,c⟩:=hi;have hb:=dig_bd hd;refine⟨by rw[take_snocL d k h,List.all_append,a,List.all_cons,hd];rfl,(fun ho=>by cases ho),fun _=>⟨?_,hm⟩⟩;rw[take_snocL d k h,valN_snoc]
 cases o with
 | false=>rw[←b rfl];omega
 | true=>have:=(c rfl).1;omega
theorem take_all (d:ByteArray) (k:Nat) (h:¬ k<d.size):d.data.toList.take k=d.data.toList:=List.take_of_length_le (by rw[Array.length_toList];exact Nat.le_of_not_lt h)
theorem spec_bad (d:ByteArray) (k:Nat) (h:k<d.size) (neg:Bool) (n e:Int) (hs:specD d.data.toList neg n e) (hd:digB d[k]=false):n=0∧e=1:=by
 unfold specD at hs;rw[all_no d k h digB hd] at hs;simpa using hs
theorem spec_over (d:ByteArray) (k mm:Nat) (h:¬ k<d.size) (neg:Bool) (n e:Int) (hs:specD d.data.toList neg n e) (hi:Inv d.data.toList k mm true):n=0∧e=3:=by
 obtain⟨a,b,c⟩:=hi;have hc:=(c rfl).1;rw[take_all d k h] at a hc;unfold specD at hs;rw[if_pos a] at hs;obtain⟨v,hv,hs⟩:=hs;rw[if_neg (by split at hv <;> omega)] at hs;exact hs
theorem spec_of (d:ByteArray) (k mm:Nat) (h:¬ k<d.size) (neg:Bool) (n e:Int) (hs:specD d.data.toList neg n e) (hi:Inv d.data.toList k mm false) (w:World):
  Calls Tryz.prog 124 #[.bool neg,.int .u64 mm] w fun e' w'=>e'= .returned (.tuple #[.int .i64 n,.int .i64 e])∧w=w':=by
 obtain⟨a,b,c⟩:=hi;have hb:=b rfl;rw[take_all d k h] at a hb;unfold specD at hs;rw[if_pos a] at hs;obtain⟨v,hv,hs⟩:=hs;rw[←hb] at hv
 split at hs
 ·obtain⟨rfl,rfl⟩:=hs
  exact of_ok neg mm n (by omega) hv (by assumption) w
 ·obtain⟨rfl,rfl⟩:=hs
  exact of_no neg mm v (by omega) hv (by assumption) w
theorem rparse_empty (s:ByteArray) (h0:s.size=0) (w:World):
  Calls Tryz.prog 98 #[.string s] w fun e' w'=>e'= .returned (.tuple #[.int .i64 0,.int .i64 1])∧w=w':=by
 obtain rfl:s=ByteArray.empty:=by
  apply ByteArray.ext;apply Array.toList_inj.1;apply List.eq_nil_of_length_eq_zero;rw[Array.length_toList];exact h0
 clear h0;go_enter Tryz.func98,Tryz.ntmps98;go_wp2
 all_goals (go_ret2;exact⟨rfl,rfl⟩)
theorem rparse_dash (s:ByteArray) (h1:s.size=1) (hx:∃ h:0<s.size,(s[0].toNat:Int)=45) (w:World):
  Calls Tryz.prog 98 #[.string s] w fun e' w'=>e'= .returned (.tuple #[.int .i64 0,.int .i64 1])∧w=w':=by
 obtain⟨hp,hx⟩:=hx;have e1:((s[0].toNat:Int)==45)=true:=by simpa using hx
 have h2:s.size - 1=0:=by omega
 have h3:(((s.size - 1:Nat):Int)==0)=true:=by rw[h2];rfl
 have h4:s.size≤1:=by omega
 clear hx h1 h2;go_enter Tryz.func98,Tryz.ntmps98;go_wp2
 all_goals (go_ret2;exact⟨rfl,rfl⟩)
theorem rparse_lead_n (s d:ByteArray) (hm:s.size≤4000) (hx:∃ h:0<s.size,(s[0].toNat:Int)=45) (hd:d=s.extract 1 s.size) (hz:∃ h:0<d.size,d[0]=48) (w:World):
  Calls Tryz.prog 98 #[.string s] w fun e' w'=>e'= .returned (.tuple #[.int .i64 0,.int .i64 1])∧w=w':=by
 obtain⟨dp,hz⟩:=hz;have hz:(d[0].toNat:Int)=48:=by rw[hz];rfl
 obtain⟨hp,hx⟩:=hx;have e1:((s[0].toNat:Int)==45)=true:=by simpa using hx
 have hex:=hd.symm;have hds:d.size+1=s.size:=by rw[hd,ByteArray.size_extract];omega
 have n0:((d.size:Int)==0)=false:=beq_eq_false_iff_ne.2 (by omega);have n3:¬ d=ByteArray.empty:=by rintro rfl;exact absurd dp (by decide)
 have n1:1≤s.size:=by omega
 have n2:s.size - 1=d.size:=by omega
 clear hx hd;have e2:((d[0].toNat:Int)==48)=true:=by simpa using hz
 clear hz;go_enter Tryz.func98,Tryz.ntmps98;go_wp2
 all_goals (go_ret2;exact⟨rfl,rfl⟩)
theorem rparse_lead_p (s:ByteArray) (hm:s.size≤4000) (hz:∃ h:0<s.size,s[0]=48) (hl:1<s.size) (w:World):
  Calls Tryz.prog 98 #[.string s] w fun e' w'=>e'= .returned (.tuple #[.int .i64 0,.int .i64 1])∧w=w':=by
 obtain⟨dp,hz⟩:=hz;have hz:(s[0].toNat:Int)=48:=by rw[hz];rfl
 have hne:¬ s=ByteArray.empty:=by rintro rfl;exact absurd dp (by decide)
 have e1:((s[0].toNat:Int)==45)=false:=by rw[hz];rfl
 have e2:((s[0].toNat:Int)==48)=true:=by rw[hz];rfl
 have e3:((s.size:Int)==0)=false:=beq_eq_false_iff_ne.2 (by omega);clear hz;go_enter Tryz.func98,Tryz.ntmps98;go_wp2
 all_goals (go_ret2;exact⟨rfl,rfl⟩)
theorem rparse_n_main (s d:ByteArray) (hm:s.size≤4000) (hx:∃ h:0<s.size,(s[0].toNat:Int)=45) (hd:d=s.extract 1 s.size) (hz:∃ h:0<d.size,¬ d[0]=48) (n e:Int) (hs:specD d.data.toList true n e) (w:World):
  Calls Tryz.prog 98 #[.string s] w fun e' w'=>e'= .returned (.tuple #[.int .i64 n,.int .i64 e])∧w=w':=by
 obtain⟨dp,hz⟩:=hz;have hz:¬ (d[0].toNat:Int)=48:=fun h=>hz (UInt8.toNat_inj.1 (by have:(48:UInt8).toNat=48:=rfl;omega))
 obtain⟨hp,hx⟩:=hx;have e1:((s[0].toNat:Int)==45)=true:=by simpa using hx
 have hex:=hd.symm;have hds:d.size+1=s.size:=by rw[hd,ByteArray.size_extract];omega
 have n0:((d.size:Int)==0)=false:=beq_eq_false_iff_ne.2 (by omega);have n3:¬ d=ByteArray.empty:=by rintro rfl;exact absurd dp (by decide)
 have n1:1≤s.size:=by omega
 have n2:s.size - 1=d.size:=by omega
 clear hx hd;have e2:((d[0].toNat:Int)==48)=false:=by simpa using hz
 have hm2:d.size≤4000:=by omega
 have HN2:=Lib.hid n2;have HS:=Lib.hid hs;clear hs hz;go_enter Tryz.func98,Tryz.ntmps98;go_wp2
 go_loop [6,7,8] (fun m ov i=>∃ (k mm:Nat) (o:Bool),k≤d.size∧m= .int .u64 mm∧ov= .bool o∧i= .int .i64 k∧(mm:Int)≤10000000000000000009∧Inv d.data.toList k mm o) (fun _ _ i=>d.size - (intOf i).toNat)
 case atStart=>exact⟨0,0,false,Nat.zero_le _,rfl,rfl,rfl,by omega,inv_start _⟩
 case round=>
  obtain⟨k,mm,o,hk,rfl,rfl,rfl,hmm,hinv⟩:=hrel;have HI:=Lib.hid hinv;clear hinv;by_cases hlt:k<d.size
  ·by_cases hp:digB d[k]=true
   ·have hb:48≤(d[k].toNat:Int)∧(d[k].toNat:Int)≤57:=by have:=dig_bd hp;omega
    obtain⟨b1,b2⟩:=hb;by_cases hbig:(1000000000000000000:Int)<mm
    ·have HA:Hid (Inv d.data.toList (k+1) mm true):=Lib.hid (inv_over d k mm o hlt HI.out hp (by omega))
     clear hp;go_wp2
     go_round
     case rel=>exact⟨k+1,mm,true,by omega,rfl,rfl,by go_num,hmm,HA.out⟩
     case measure=>simp[intOf];omega
    ·have HA:Hid (Inv d.data.toList (k+1) (mm * 10+d[k].toNat - 48) o):=Lib.hid (inv_more d k mm o hlt HI.out hp (by omega))
     clear hp;go_wp2
     go_round
     case rel=>exact⟨k+1,mm * 10+d[k].toNat - 48,o,by omega,by go_num,rfl,by go_num,by omega,HA.out⟩
     case measure=>simp[intOf];omega
   ·have hp':digB d[k]=false:=by simpa using hp
    have HA:Hid (n=0∧e=1):=Lib.hid (spec_bad d k hlt true n e HS.out hp')
    have hb:(d[k].toNat:Int)<48∨57<(d[k].toNat:Int):=by
     rw[←isD_eq] at hp';simp only[isD,decide_eq_false_iff_not] at hp';omega
    clear hp hp'
    rcases hb with hb | hb
    all_goals
     go_wp2
     go_ret2
     exact⟨by rw[HA.out.1,HA.out.2];rfl,rfl⟩
  ·cases o with
   | true=>
     have HA:Hid (n=0∧e=3):=Lib.hid (spec_over d k mm hlt true n e HS.out HI.out);go_wp2
     go_ret2
     exact⟨by rw[HA.out.1,HA.out.2];rfl,rfl⟩
   | false=>
     have HK:Hid (∀ w,Calls Tryz.prog 124 #[.bool true,.int .u64 mm] w fun e' w'=>e'= .returned (.tuple #[.int .i64 n,.int .i64 e])∧w=w'):=Lib.hid (fun w=>spec_of d k mm hlt true n e HS.out HI.out w);go_wp2_with (go_at_call 124;((with_reducible refine(HK.out _).mono ?_));rintro e' w' ⟨rfl,rfl⟩)
     go_ret2
     exact⟨rfl,rfl⟩
theorem rparse_p_main (s:ByteArray) (hm:s.size≤4000) (hz:∃ h:0<s.size,¬ s[0]=48∧¬ s[0]=45) (n e:Int) (hs:specD s.data.toList false n e) (w:World):
  Calls Tryz.prog 98 #[.string s] w fun e' w'=>e'= .returned (.tuple #[.int .i64 n,.int .i64 e])∧w=w':=by
 obtain⟨dp,hz⟩:=hz;have e2:((s[0].toNat:Int)==48)=false:=by have:¬ (s[0].toNat:Int)=48:=fun h=>hz.1 (UInt8.toNat_inj.1 (by have:(48:UInt8).toNat=48:=rfl;omega));simpa using this
 have e1:((s[0].toNat:Int)==45)=false:=by have:¬ (s[0].toNat:Int)=45:=fun h=>hz.2 (UInt8.toNat_inj.1 (by have:(45:UInt8).toNat=45:=rfl;omega));simpa using this
 have hne:¬ s=ByteArray.empty:=by rintro rfl;exact absurd dp (by decide)
 have e3:((s.size:Int)==0)=false:=beq_eq_false_iff_ne.2 (by omega);have hm2:s.size≤4000:=hm;have HS:=Lib.hid hs;clear hs hz;go_enter Tryz.func98,Tryz.ntmps98;go_wp2
 go_loop [6,7,8] (fun m ov i=>∃ (k mm:Nat) (o:Bool),k≤s.size∧m= .int .u64 mm∧ov= .bool o∧i= .int .i64 k∧(mm:Int)≤10000000000000000009∧Inv s.data.toList k mm o) (fun _ _ i=>s.size - (intOf i).toNat)
 case atStart=>exact⟨0,0,false,Nat.zero_le _,rfl,rfl,rfl,by omega,inv_start _⟩
 case round=>
  obtain⟨k,mm,o,hk,rfl,rfl,rfl,hmm,hinv⟩:=hrel;have HI:=Lib.hid hinv;clear hinv;by_cases hlt:k<s.size
  ·by_cases hp:digB s[k]=true
   ·have hb:48≤(s[k].toNat:Int)∧(s[k].toNat:Int)≤57:=by have:=dig_bd hp;omega
    obtain⟨b1,b2⟩:=hb;by_cases hbig:(1000000000000000000:Int)<mm
    ·have HA:Hid (Inv s.data.toList (k+1) mm true):=Lib.hid (inv_over s k mm o hlt HI.out hp (by omega))
     clear hp;go_wp2
     go_round
     case rel=>exact⟨k+1,mm,true,by omega,rfl,rfl,by go_num,hmm,HA.out⟩
     case measure=>simp[intOf];omega
    ·have HA:Hid (Inv s.data.toList (k+1) (mm * 10+s[k].toNat - 48) o):=Lib.hid (inv_more s k mm o hlt HI.out hp (by omega))
     clear hp;go_wp2
     go_round
     case rel=>exact⟨k+1,mm * 10+s[k].toNat - 48,o,by omega,by go_num,rfl,by go_num,by omega,HA.out⟩
     case measure=>simp[intOf];omega
   ·have hp':digB s[k]=false:=by simpa using hp
    have HA:Hid (n=0∧e=1):=Lib.hid (spec_bad s k hlt false n e HS.out hp')
    have hb:(s[k].toNat:Int)<48∨57<(s[k].toNat:Int):=by
     rw[←isD_eq] at hp';simp only[isD,decide_eq_false_iff_not] at hp';omega
    clear hp hp'
    rcases hb with hb | hb
    all_goals
     go_wp2
     go_ret2
     exact⟨by rw[HA.out.1,HA.out.2];rfl,rfl⟩
  ·cases o with
   | true=>
     have HA:Hid (n=0∧e=3):=Lib.hid (spec_over s k mm hlt false n e HS.out HI.out);go_wp2
     go_ret2
     exact⟨by rw[HA.out.1,HA.out.2];rfl,rfl⟩
   | false=>
     have HK:Hid (∀ w,Calls Tryz.prog 124 #[.bool false,.int .u64 mm] w fun e' w'=>e'= .returned (.tuple #[.int .i64 n,.int .i64 e])∧w=w'):=Lib.hid (fun w=>spec_of s k mm hlt false n e HS.out HI.out w);go_wp2_with (go_at_call 124;((with_reducible refine(HK.out _).mono ?_));rintro e' w' ⟨rfl,rfl⟩)
     go_ret2
     exact⟨rfl,rfl⟩
theorem rparse_p_zero (s:ByteArray) (hm:s.size≤4000) (hz:∃ h:0<s.size,s[0]=48) (hl:s.size=1) (n e:Int) (hs:specD s.data.toList false n e) (w:World):
  Calls Tryz.prog 98 #[.string s] w fun e' w'=>e'= .returned (.tuple #[.int .i64 n,.int .i64 e])∧w=w':=by
 obtain⟨dp,hz⟩:=hz;have e1:((s[0].toNat:Int)==45)=false:=by rw[hz];rfl
 have e2:((s[0].toNat:Int)==48)=true:=by rw[hz];rfl
 have hl2:s.size≤1:=by omega
 clear hl;have hne:¬ s=ByteArray.empty:=by rintro rfl;exact absurd dp (by decide)
 have e3:((s.size:Int)==0)=false:=beq_eq_false_iff_ne.2 (by omega);have hm2:s.size≤4000:=hm;have HS:=Lib.hid hs;clear hs hz;go_enter Tryz.func98,Tryz.ntmps98;go_wp2
 go_loop [6,7,8] (fun m ov i=>∃ (k mm:Nat) (o:Bool),k≤s.size∧m= .int .u64 mm∧ov= .bool o∧i= .int .i64 k∧(mm:Int)≤10000000000000000009∧Inv s.data.toList k mm o) (fun _ _ i=>s.size - (intOf i).toNat)
 case atStart=>exact⟨0,0,false,Nat.zero_le _,rfl,rfl,rfl,by omega,inv_start _⟩
 case round=>
  obtain⟨k,mm,o,hk,rfl,rfl,rfl,hmm,hinv⟩:=hrel;have HI:=Lib.hid hinv;clear hinv;by_cases hlt:k<s.size
  ·by_cases hp:digB s[k]=true
   ·have hb:48≤(s[k].toNat:Int)∧(s[k].toNat:Int)≤57:=by have:=dig_bd hp;omega
    obtain⟨b1,b2⟩:=hb;by_cases hbig:(1000000000000000000:Int)<mm
    ·have HA:Hid (Inv s.data.toList (k+1) mm true):=Lib.hid (inv_over s k mm o hlt HI.out hp (by omega))
     clear hp;go_wp2
     go_round
     case rel=>exact⟨k+1,mm,true,by omega,rfl,rfl,by go_num,hmm,HA.out⟩
     case measure=>simp[intOf];omega
    ·have HA:Hid (Inv s.data.toList (k+1) (mm * 10+s[k].toNat - 48) o):=Lib.hid (inv_more s k mm o hlt HI.out hp (by omega))
     clear hp;go_wp2
     go_round
     case rel=>exact⟨k+1,mm * 10+s[k].toNat - 48,o,by omega,by go_num,rfl,by go_num,by omega,HA.out⟩
     case measure=>simp[intOf];omega
   ·have hp':digB s[k]=false:=by simpa using hp
    have HA:Hid (n=0∧e=1):=Lib.hid (spec_bad s k hlt false n e HS.out hp')
    have hb:(s[k].toNat:Int)<48∨57<(s[k].toNat:Int):=by
     rw[←isD_eq] at hp';simp only[isD,decide_eq_false_iff_not] at hp';omega
    clear hp hp'
    rcases hb with hb | hb
    all_goals
     go_wp2
     go_ret2
     exact⟨by rw[HA.out.1,HA.out.2];rfl,rfl⟩
  ·cases o with
   | true=>
     have HA:Hid (n=0∧e=3):=Lib.hid (spec_over s k mm hlt false n e HS.out HI.out);go_wp2
     go_ret2
     exact⟨by rw[HA.out.1,HA.out.2];rfl,rfl⟩
   | false=>
     have HK:Hid (∀ w,Calls Tryz.prog 124 #[.bool false,.int .u64 mm] w fun e' w'=>e'= .returned (.tuple #[.int .i64 n,.int .i64 e])∧w=w'):=Lib.hid (fun w=>spec_of s k mm hlt false n e HS.out HI.out w);go_wp2_with (go_at_call 124;((with_reducible refine(HK.out _).mono ?_));rintro e' w' ⟨rfl,rfl⟩)
     go_ret2
     exact⟨rfl,rfl⟩
end
section
set_option linter.unusedVariables false
def specL (l:List UInt8) (n e:Int):Prop:=if formL l=true then specD (digL l) (negL l) n e else n=0∧e=1
theorem neg_minus (r:List UInt8):negL (45::r)=true:=by simp[negL,Lib.hasPrefix]
theorem neg_other (c:UInt8) (r:List UInt8) (h:¬ c=45):negL (c::r)=false:=by
 have h':¬ (45:UInt8)=c:=fun e=>h e.symm
 show ([45]:List UInt8).isPrefixOf (c::r)=false;simp only[List.isPrefixOf,Bool.and_true,beq_eq_false_iff_ne];exact h'
theorem dig_minus (r:List UInt8):digL (45::r)=r:=by simp[digL,Lib.trimPrefix,Lib.hasPrefix]
theorem dig_other (c:UInt8) (r:List UInt8) (h:¬ c=45):digL (c::r)=c::r:=by
 have:=neg_other c r h;unfold negL at this;unfold digL Lib.trimPrefix;rw[this];rfl
theorem isD_fun:isD=digB:=funext isD_eq
theorem form_minus (r:List UInt8):formL (45::r)=formD r true:=by rw[formL,neg_minus,dig_minus]
theorem form_other (c:UInt8) (r:List UInt8) (h:¬ c=45):formL (c::r)=formD (c::r) false:=by rw[formL,neg_other c r h,dig_other c r h]
theorem spec_same (c:UInt8) (r:List UInt8) (neg:Bool) (hc:¬ c=48) (n e:Int) (hs:if formD (c::r) neg=true then specD (c::r) neg n e else n=0∧e=1):specD (c::r) neg n e:=by
 have hf:formD (c::r) neg=(c::r).all digB:=by simp only[formD];rw[if_neg hc,isD_fun]
 rw[hf] at hs
 split at hs
 ·exact hs
 ·unfold specD;rw[if_neg (by assumption)];exact hs
theorem first_is (s:ByteArray) (c:UInt8) (r:List UInt8) (h:s.data.toList=c::r):∃ hp:0<s.size,s[0]=c:=by
 have h1:0<s.size:=by
  have e:s.size=s.data.toList.length:=(Array.length_toList).symm;rw[e,h];simp
 refine⟨h1,?_⟩;have:s.data.toList[0]'(by rw[h];simp)=c:=by simp[h]
 show s.data[0]=c;simpa using this
theorem size_is (s:ByteArray) (l:List UInt8) (h:s.data.toList=l):s.size=l.length:=by rw[←h];exact(Array.length_toList).symm
theorem rparse_anyN (s:ByteArray) (hm:s.size≤4000) (n e:Int) (hs:specL s.data.toList n e) (w:World):
  Calls Tryz.prog 98 #[.string s] w fun e' w'=>e'= .returned (.tuple #[.int .i64 n,.int .i64 e])∧w=w':=by
 unfold specL at hs
 cases hl:s.data.toList with
 | nil=>
   rw[hl,if_neg (by decide)] at hs;obtain⟨rfl,rfl⟩:=hs;exact rparse_empty s (by rw[size_is s _ hl];rfl) w
 | cons c r=>
   rw[hl] at hs;have h1:=first_is s c r hl;have hsz:=size_is s _ hl;by_cases hc:c=45
   ·subst hc
    rw[form_minus,neg_minus,dig_minus] at hs
    have hx:∃ h:0<s.size,(s[0].toNat:Int)=45:=by
     obtain⟨hp,h1⟩:=h1;exact⟨hp,by rw[h1];rfl⟩
    cases r with
    | nil=>
      rw[if_neg (by decide)] at hs;obtain⟨rfl,rfl⟩:=hs;exact rparse_dash s (by rw[hsz];rfl) hx w
    | cons c2 r2=>
      have hd:(s.extract 1 s.size).data.toList=c2::r2:=by
       rw[Lib.extract_data,hl];simp[hsz]
      have h2:=first_is _ c2 r2 hd;by_cases h48:c2=48
      ·subst h48
       have:formD (48::r2) true=false:=by simp[formD]
       rw[this,if_neg (by decide)] at hs;obtain⟨rfl,rfl⟩:=hs;exact rparse_lead_n s _ hm hx rfl h2 w
      ·refine rparse_n_main s _ hm hx rfl ?_ n e ?_ w
       ·obtain⟨hp,h2⟩:=h2;exact⟨hp,by rw[h2];exact h48⟩
       ·rw[hd];exact spec_same c2 r2 true h48 n e hs
   ·rw[form_other c r hc,neg_other c r hc,dig_other c r hc] at hs
    by_cases h48:c=48
    ·subst h48
     cases r with
     | nil=>
       rw[if_pos (by decide)] at hs;exact rparse_p_zero s hm h1 (by rw[hsz];rfl) n e (by rw[hl];exact hs) w
     | cons c2 r2=>
       have:formD (48::c2::r2) false=false:=by simp[formD]
       rw[this,if_neg (by decide)] at hs;obtain⟨rfl,rfl⟩:=hs;exact rparse_lead_p s hm h1 (by rw[hsz];simp) w
    ·refine rparse_p_main s hm ?_ n e ?_ w
     ·obtain⟨hp,h1⟩:=h1;exact⟨hp,by rw[h1];exact⟨h48,hc⟩⟩
     ·rw[hl];exact spec_same c r false h48 n e hs
theorem form_says (d:List UInt8) (neg:Bool) (h:formD d neg=true):d.all digB=true∧d≠[]∧(d.head?≠some 48∨d=[48]∧neg=false):=by
 cases d with
 | nil=>simp[formD] at h
 | cons c r=>
   simp only[formD] at h;by_cases hc:c=48
   ·rw[if_pos hc] at h
    simp only[Bool.and_eq_true,List.isEmpty_iff,Bool.not_eq_true'] at h;obtain⟨rfl,rfl⟩:=h;subst hc;exact⟨by decide,by simp,Or.inr ⟨rfl,rfl⟩⟩
   ·rw[if_neg hc,isD_fun] at h
    exact⟨h,by simp,Or.inl (by simpa using hc)⟩
theorem value_of (l:List UInt8) (hf:formL l=true):∃ v:Int,v=(if negL l=true then -(valN (digL l):Int) else (valN (digL l):Int))∧
  Lib.parseIntB 64 l=if -9223372036854775808≤v∧v≤9223372036854775807 then .ok v else .range:=by
 refine⟨_,rfl,?_⟩;obtain⟨h1,h2,h3⟩:=form_says _ _ hf
 cases l with
 | nil=>exact absurd rfl h2
 | cons c r=>
   by_cases hc:c=45
   ·subst hc
    rw[dig_minus] at h1 h2 ⊢;rw[neg_minus,if_pos rfl,val_minus r h2 h1];by_cases hv:valN r≤9223372036854775808
    ·rw[if_pos hv,if_pos (by omega)]
    ·rw[if_neg hv,if_neg (by omega)]
   ·rw[dig_other c r hc] at h1 ⊢
    rw[neg_other c r hc,val_plain c r h1];simp only[Bool.false_eq_true,if_false];by_cases hv:valN (c::r)<9223372036854775808
    ·rw[if_pos hv,if_pos (by omega)]
    ·rw[if_neg hv,if_neg (by omega)]
theorem parse_anyN (s:ByteArray) (hm:s.size≤4000) (n e:Int) (hs:specL s.data.toList n e) (w:World) (hG:Given w):
  Calls Tryz.prog 116 #[.string s] w fun e' w'=>e'= .returned (.tuple #[.int .i64 n,.int .i64 e])∧Below w.heap.size w w':=by
 unfold specL at hs;by_cases hf:formL s.data.toList=true
 ·rw[if_pos hf] at hs
  obtain⟨v,hv,hp⟩:=value_of _ hf;obtain⟨h1,_,_⟩:=form_says _ _ hf;unfold specD at hs;rw[if_pos h1] at hs;obtain⟨v2,hv2,hs⟩:=hs;obtain rfl:v2=v:=by rw[hv2,hv]
  split at hs
  ·rename_i hr
   obtain⟨rfl,rfl⟩:=hs;rw[if_pos hr] at hp;exact parse_ok s _ hf hp hm w
  ·rename_i hr
   obtain⟨rfl,rfl⟩:=hs;rw[if_neg hr] at hp;exact parse_over s hf hp hm w hG
 ·rw[if_neg hf] at hs
  obtain⟨rfl,rfl⟩:=hs;exact(parse_form s (by simpa using hf) hm w).mono fun e' w' ⟨he,hw⟩=>⟨he,by rw[hw];exact Below.refl _ _⟩
end
theorem nd_le:∀ (k u:Nat),u<10 ^ (k+1)→Lib.nDigits u≤k+1
 | 0,u,h=>by rw[Lib.nDigits_small (by simpa using h)];exact Nat.le_refl _
 | k+1,u,h=>by
   by_cases h1:u<10
   ·rw[Lib.nDigits_small h1];omega
   ·rw[Lib.nDigits_big h1]
    have:=nd_le k (u / 10) (by rw[Nat.pow_succ] at h;omega);omega
theorem one_byteN (w:World) (x:Int) (c:UInt8) (e:(c.toNat:Int)=x):
  (convert 81 9 (.slice (some ⟨w.heap.size,0,none⟩) 1 1)).run Tryz.prog (w.alloc (.cells #[.int .u8 x] 5))= .ok (.string ⟨#[c]⟩) (w.alloc (.cells #[.int .u8 x] 5)):=by
 refine run_convert_bytes_back (P:=Tryz.prog) (w.alloc (.cells #[.int .u8 x] 5)) 81 9 5 ⟨w.heap.size,0,none⟩ 1 [c] Tryz.underlying81 Tryz.underlying5 Tryz.underlying9 ?_;intro j hj;obtain rfl:j=0:=by simpa using hj
 show _=some (Value.int .u8 (c.toNat:Int));rw[e];exact cell_one_new _ _ _ 0 _ rfl
theorem ba_ofN (s:ByteArray) (l:List UInt8) (h:s.data.toList=l):s=⟨l.toArray⟩:=by
 apply ByteArray.ext;rw[←h]
theorem ret_str {s:ByteArray} {l:List UInt8} (h:s.data.toList=l):Ending.returned (.string s)= .returned (.string ⟨l.toArray⟩):=by rw[ba_ofN s l h]
theorem rprint_anyN (n:Int) (ha: -9223372036854775808≤n∧n≤9223372036854775807) (w:World):
  Calls Tryz.prog 47 #[.int .i64 n] w fun e w'=>e= .returned (.string ⟨(Lib.itoa n).toArray⟩)∧Below w.heap.size w w':=by
 obtain⟨M,hM⟩:∃ M:Int,M=if n<0 then -n else n:=⟨_,rfl⟩
 have k1:∀ w,Calls Tryz.prog 74 #[.int .i64 n] w fun e w'=>e= .returned (.int .u64 M)∧w=w':=fun w=>by rw[hM];exact mag_any n ha w
 have M0:0≤M:=by rw[hM];split <;> omega
 have M1:M≤9223372036854775808:=by rw[hM];split <;> omega
 have hlen:(Lib.decDigits M.toNat).length≤20:=by rw[Lib.decDigits_length];exact nd_le 19 _ (by omega)
 obtain⟨D,hD⟩:∃ D,D=Lib.decDigits M.toNat:=⟨_,rfl⟩
 have hi:Lib.itoa n=if n<0 then 45::D else D:=by
  unfold Lib.itoa;rw[hD,hM];split
  ·rw[show (-n).toNat=n.natAbs by omega]
  ·rfl
 obtain⟨L,hL⟩:∃ L,L=if n<0 then 45::D else D:=⟨_,rfl⟩
 rw[hi,←hL];have HL:=Lib.hid hL;clear hL;rw[←hD] at hlen;have HD0:=Lib.hid hD;have K1:=Lib.hid k1;clear k1 hM hi hD;go_enter Tryz.func47,Tryz.ntmps47;go_wp2_with (go_at_call 74;((with_reducible refine(K1.out _).mono ?_));rintro e' w' ⟨rfl,rfl⟩)
 go_loopw [3,4] (fun m o wr=>∃ (k:Nat) (s:ByteArray),m= .int .u64 k∧o= .string s∧(k:Int)≤M∧Lib.decDigits k++s.data.toList=D∧Below w.heap.size w wr) (fun m _ _=>(intOf m).toNat)
 case atStart=>
  refine⟨M.toNat,ByteArray.empty,?_,rfl,by omega,?_,Below.refl _ _⟩
  ·rw[show ((M.toNat:Nat):Int)=M by omega]
  ·rw[HD0.out];simp
 case round=>
  obtain⟨k,s,rfl,rfl,hk,hd,hb⟩:=hrel
  have hl:s.size≤20:=by
   have e:=congrArg List.length hd;rw[List.length_append] at e;have e2:s.size=s.data.toList.length:=(Array.length_toList).symm;omega
  have HD:=Lib.hid hd;clear hd;by_cases h:10≤(k:Int)
  ·obtain⟨c,ec,HC⟩:∃ c:UInt8,(c.toNat:Int)=48+(k:Int) % 10∧Hid (c=UInt8.ofNat (48+k % 10)):=
    ⟨UInt8.ofNat (48+k % 10),by rw[ofNat_toNat (by omega)];omega,Lib.hid rfl⟩
   have hc:=one_byteN wr (48+(k:Int) % 10) c ec;clear ec;go_wp2
   go_roundw
   case rel=>
    refine⟨k / 10,⟨#[c]⟩++s,rfl,rfl,by omega,?_,hb.alloc hb.size _⟩;rw[←HD.out,dec_big (show ¬ k<10 by omega),Go.Joins.data_append,HC.out];simp
   case measure=>simp[intOf];omega
  ·obtain⟨c,ec,HC⟩:∃ c:UInt8,(c.toNat:Int)=48+(k:Int)∧Hid (c=UInt8.ofNat (48+k)):=
    ⟨UInt8.ofNat (48+k),by rw[ofNat_toNat (by omega)];omega,Lib.hid rfl⟩
   have hc:=one_byteN wr (48+(k:Int)) c ec;clear ec
   have HX:Hid (c::s.data.toList=D):=by
    apply Lib.hid;rw[←HD.out,dec_small (show k<10 by omega),HC.out];rfl
   by_cases hn:n<0
   ·go_wp2
    go_ret;refine⟨ret_str ?_,hb.alloc hb.size _⟩;rw[HL.out,if_pos hn,Go.Joins.data_append,Go.Joins.data_append,←HX.out];rfl
   ·go_wp2
    go_ret;refine⟨ret_str ?_,hb.alloc hb.size _⟩;rw[HL.out,if_neg (by omega),Go.Joins.data_append,←HX.out];rfl
end Go.Proofs.YtdobinjbejagcaaGreatDoor
