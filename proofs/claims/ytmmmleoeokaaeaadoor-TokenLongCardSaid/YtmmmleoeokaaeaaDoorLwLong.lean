import Derived.Test.YtmmmleoeokaaeaaDoorTkV
import Derived.Test.YtmmmleoeokaaeaaDoorTkT
import Derived.Test.YtmmmleoeokaaeaaDoorTkQ
namespace Go.Proofs.YtmmmleoeokaaeaaDoor
open Go Go.RowKit
set_option maxRecDepth 100000
set_option maxHeartbeats 4000000
structure LongI (W:World) (S:List UInt8) (m K:Nat) (b i:Value) (wr:World):Prop where
 ex:∃ k g cap,k≤K∧i= .int .i64 (k:Nat)∧b= .slice (some ⟨g,0,none⟩) (m+k) cap∧BR W.heap.size wr g cap (S++List.replicate k 32)∧Below W.heap.size W wr
theorem read1_partsL {N:Nat} {t:Tok} (h:Read1 N t):t.parts.length≤1+2 * N:=by
 rcases h.parts with e | ⟨l,q,e,hl⟩
 ·rw[e];simp
 ·have:=parse_len l t.parts (by rw[e]);omega
theorem long_toList (s:ByteArray) (k:Nat) (L:ByteArray) (hL:L=⟨(s.data.toList++List.replicate k 32).toArray⟩):L.data.toList=s.data.toList++List.replicate k 32:=by rw[hL]
theorem blanks32 (k:Nat):∀ c∈List.replicate k (32:UInt8),c=32:=fun _ hc=>(List.mem_replicate.1 hc).2
theorem long_scan (s:ByteArray) (hs:¬ 60<s.size) (k:Nat) (hk:k≤2099) (L:ByteArray) (hL:L=⟨(s.data.toList++List.replicate k 32).toArray⟩) (o:Option (List Tok)) (q:Nat) (x:Int) (h:scan s.data.toList=(o,q,x)):
  L.size≤4000∧((2000<s.size+k∧scan L.data.toList=(none,2000,2))∨(¬ 2000<s.size+k∧(x != 0)=true∧∃ q2 x2,scan L.data.toList=(none,q2,x2)∧(x2 != 0)=true)∨
   (¬ 2000<s.size+k∧x=0∧∃ ts,o=some ts∧scan L.data.toList=(some ts,0,0)∧ts.length≤60∧∀ t∈ts,t.parts.length≤1000000)):=by
 have hl:=long_toList s k L hL;have hz:L.size=s.size+k:=by rw[←len_data,hl,List.length_append,List.length_replicate,len_data]
 refine⟨by omega,?_⟩;by_cases a:2000<s.size+k
 ·refine .inl ⟨a,?_⟩
  unfold scan;rw[if_pos (by rw[len_data,hz];exact a)]
 ·right
  have hb:=scan_blank s.data.toList (List.replicate k 32) (blanks32 k) (by rw[List.length_append,List.length_replicate,len_data];omega);rw[←hl] at hb
  rcases scan_cases s.data.toList with ⟨q',e',h1,h2,h3⟩ | ⟨out,h1,h2,h3,_⟩
  ·rw[h1] at h
   obtain⟨rfl,rfl,rfl⟩:none=o∧q'=q∧e'=x:=by simpa using h
   refine .inl ⟨a,by rcases h2 with rfl | rfl | rfl <;> decide,?_⟩;have hn:=hb.2 (by rw[h1])
   rcases scan_cases L.data.toList with ⟨q2,e2,g1,g2,_⟩ | ⟨out,g1,_⟩
   ·exact⟨q2,e2,g1,by rcases g2 with rfl | rfl | rfl <;> decide⟩
   ·rw[g1] at hn;cases hn
  ·rw[h1] at h
   obtain⟨rfl,rfl,rfl⟩:some out=o∧0=q∧0=x:=by simpa using h
   rw[len_data] at h3;exact .inr ⟨a,rfl,out,rfl,hb.1 out h1,by omega,fun t ht=>by have:=read1_partsL (h2 t ht);rw[len_data] at this;omega⟩
theorem rest_scan (s:ByteArray) (hs:¬ 60<s.size) (ts:List Tok) (h:scan s.data.toList=(some ts,0,0)) (w:World) (hG:Given w):
  Calls Tryd.prog 6 #[.string ((⟨#[35]⟩:ByteArray)++s++⟨#[10]⟩++s)] w fun e w'=>∃ A n c q x xs,e= .returned (.tuple #[.slice A n c,.int .i64 (q:Nat),.int .i64 x])∧RdT w'.heap.size w' A n xs∧Below w.heap.size w w'∧((∀ c∈s.data.toList,notNl c=true)→x=0∧n=ts.length∧noPl ts=noPl xs):=by
 obtain⟨R,hR⟩:∃ R:ByteArray,R=(⟨#[35]⟩:ByteArray)++s++⟨#[10]⟩++s:=⟨_,rfl⟩;rw[←hR];have hl:R.data.toList=35::(s.data.toList++10::s.data.toList):=by rw[hR];simp[ByteArray.data_append]
 have hz:R.size≤4000:=by rw[←len_data,hl];simp;omega
 obtain⟨o,q,x,h2⟩:∃ o q x,scan R.data.toList=(o,q,x):=⟨_,_,_,rfl⟩;refine(scan_read R hz o q x _ rfl h2 w hG).mono fun e w' ⟨A,c,he,hr,hb⟩=>⟨A,_,c,q,x,_,he,hr,hb,fun hn=>?_⟩
 obtain⟨out,e1,e2⟩:=scan_remark s.data.toList hn (by rw[len_data];omega) ts h;rw[←hl,h2] at e1;obtain⟨rfl,rfl,rfl⟩:o=some out∧q=0∧x=0:=by simpa using e1
 exact⟨rfl,noPl_len e2,e2.symm⟩
theorem name_a (w:World):Calls Tryd.prog 10 #[.string ⟨#[97]⟩] w fun e w'=>e= .returned (.bool true)∧w=w':=by
 have:=rname_any ⟨#[97]⟩ (by decide) w;rw[show isName (⟨#[97]⟩:ByteArray).data.toList=true by decide] at this;exact this
theorem tlong_main (s:ByteArray) (hs:¬ 60<s.size) (n:Nat) (hn:n≤65535) (w:World) (hG:Given w):
  Calls Tryd.prog 4 #[.string s,.int .u16 n] w fun e w'=>e= .returned (.bool true)∧Below w.heap.size w w':=by
 obtain⟨o,q,x,h⟩:∃ o q x,scan s.data.toList=(o,q,x):=⟨_,_,_,rfl⟩;obtain⟨ts,hts⟩:∃ ts,ts=o.getD []:=⟨_,rfl⟩;obtain⟨n0,hn0⟩:∃ n0,n0=ts.length:=⟨_,rfl⟩;obtain⟨K,hK⟩:∃ K,K=n % 2100:=⟨_,rfl⟩;have HG:=Lib.hid hG;have KA:=Lib.hid (awakeT_any w hG);have K1:Hid (∀ w,Given w→Calls Tryd.prog 6 #[.string s] w fun e w'=>∃ A c,e= .returned (.tuple #[.slice A n0 c,.int .i64 q,.int .i64 x])∧RdT w'.heap.size w' A n0 ts∧Below w.heap.size w w'):=Lib.hid fun w hg=>by rw[hn0];exact scan_read s (by omega) o q x ts hts.symm h w hg
 have HS:=Lib.hid h;have HT:=Lib.hid hts;have HN:=Lib.hid hn0;obtain⟨j0,hj,hy0,hy1,hy2⟩:=info_parts info5;clear hG h hts hn0;go_enter Tryd.func4,Tryd.ntmps4;go_wp2_with (first | (go_at_call 5;((with_reducible refine(KA.out).mono ?_));rintro e w0 ⟨rfl,hb0⟩;have B0:=Lib.hid hb0;clear hb0) | (go_at_call 6;((with_reducible refine(K1.out _ (HG.out.below B0.out)).mono ?_));rintro e w1 ⟨A,c,rfl,hr1,hb1⟩;have R1:=Lib.hid hr1;have B1:=Lib.hid (B0.out.trans (hb1.mono B0.out.size));clear hr1 hb1;obtain⟨C,W1,hcv,hbr,hbw⟩:=conv_b (P:=Tryd.prog) w1 9 35 5 s Tryd.underlying9 Tryd.underlying35 Tryd.underlying5;have HBR:=Lib.hid hbr;have HBW:=Lib.hid hbw;clear hbr hbw))
 go_loopw [8,32] (fun b i wr=>LongI w1 s.data.toList s.size K b i wr) (fun _ i _=>K - (intOf i).toNat)
 case atStart=>exact⟨0,_,_,Nat.zero_le _,rfl,rfl,by simpa using HBR.out,HBW.out⟩
 case round=>
  obtain⟨k,g,cap,hk,rfl,rfl,hb,hw⟩:=hrel;have HB:=Lib.hid hb;have HW:=Lib.hid hw;clear hb hw;by_cases a:k<K
  ·go_wp2_with (at_builtin;refine wp_app_b _ rfl (.tmp 34) (.tmp 35) 35 rfl 5 j0 (.int .u8 0) Tryd.underlying35 hj hy0 hy1 hy2 rfl _ g _ cap _ rfl (by simp) (HB.out.on ((Below.refl _ _).alloc (Nat.le_refl _) _)) w1 (HW.out.alloc HW.out.size _) (by have:=HW.out.size;simp;omega) ⟨wr.heap.size,0,none⟩ 32 rfl (new_cells wr 5 #[.int .u8 32] 0 _ rfl) (by omega) ?_;intro g2 cap2 w3 hb3 hw3)
   go_roundw
   case rel=>
    refine⟨k+1,g2,cap2,by omega,by go_num,rfl,?_,hw3⟩;rw[List.append_assoc,←List.replicate_succ'] at hb3;exact hb3
   case measure=>simp[intOf];omega
  ·obtain rfl:k=K:=by omega
   obtain⟨L,hL⟩:∃ L:ByteArray,L=⟨(s.data.toList++List.replicate k 32).toArray⟩:=⟨_,rfl⟩;have hcb:=back_b HB.out 35 9 5 Tryd.underlying35 Tryd.underlying5 Tryd.underlying9 (s.size+k) (by simp) L hL;obtain⟨hL4,hcase⟩:=long_scan s hs k (by omega) L hL o q x HS.out;have HL:=Lib.hid hL;have HWr:=Lib.hid (B1.out.trans (HW.out.mono B1.out.size));have hX:¬ ((k:Int)<(n:Int) % 2100):=by omega
   clear hL hcv hK hk a
   rcases hcase with ⟨h0,h1⟩ | ⟨h0,h2,q2,x2,h1,h3⟩ | ⟨h0,h2,ts',h4,h1,h5,h6⟩
   ·have K2:Hid (∀ w,Given w→Calls Tryd.prog 6 #[.string L] w fun e w'=>∃ A c,e= .returned (.tuple #[.slice A 0 c,.int .i64 2000,.int .i64 2])∧Below w.heap.size w w'):=Lib.hid fun w hg=>(scan_read L hL4 none 2000 2 [] rfl h1 w hg).mono fun e w' ⟨A,c,he,_,hb⟩=>⟨A,c,he,hb⟩
    clear h1;go_wp2_with (go_at_call 6;((with_reducible refine(K2.out _ (HG.out.below HWr.out)).mono ?_));rintro e w4 ⟨A2,c2,rfl,hb4⟩;have B4:=Lib.hid (HWr.out.trans (hb4.mono HWr.out.size));clear hb4);go_ret;exact⟨rfl,B4.out⟩
   ·have K2:Hid (∀ w,Given w→Calls Tryd.prog 6 #[.string L] w fun e w'=>∃ A c,e= .returned (.tuple #[.slice A 0 c,.int .i64 q2,.int .i64 x2])∧Below w.heap.size w w'):=Lib.hid fun w hg=>(scan_read L hL4 none q2 x2 [] rfl h1 w hg).mono fun e w' ⟨A,c,he,_,hb⟩=>⟨A,c,he,hb⟩
    clear h1;go_wp2_with (go_at_call 6;((with_reducible refine(K2.out _ (HG.out.below HWr.out)).mono ?_));rintro e w4 ⟨A2,c2,rfl,hb4⟩;have B4:=Lib.hid (HWr.out.trans (hb4.mono HWr.out.size));clear hb4);go_ret;exact⟨rfl,B4.out⟩
   ·subst h2 h4
    have hts0:ts=ts':=HT.out;subst hts0;have hsc:=HS.out
    have hq:q=0:=by
     rcases scan_cases s.data.toList with ⟨q',e',g1,g2,_⟩ | ⟨out,g1,_⟩
     ·rw[hsc] at g1;cases g1
     ·rw[hsc] at g1;cases g1;rfl
    subst hq;have K2:Hid (∀ w,Given w→Calls Tryd.prog 6 #[.string L] w fun e w'=>∃ A c,e= .returned (.tuple #[.slice A n0 c,.int .i64 0,.int .i64 0])∧RdT w'.heap.size w' A n0 ts∧Below w.heap.size w w'):=Lib.hid fun w hg=>by rw[HN.out];exact scan_read L hL4 (some ts) 0 0 ts rfl h1 w hg
    have K3:=Lib.hid fun w hg=>rest_scan s hs ts hsc w hg
    have HP:=Lib.hid h6;have HLen:=Lib.hid h5;have KN:=Lib.hid name_a;clear h1 hsc h6 h5;go_wp2_with (first | (go_at_call 6;((with_reducible refine(K2.out _ (HG.out.below HWr.out)).mono ?_));rintro e w4 ⟨A2,c2,rfl,hr4,hb4⟩;have R4:=Lib.hid hr4;have R1':=Lib.hid ((R1.out.next HW.out).next hb4);have B4:=Lib.hid (HWr.out.trans (hb4.mono HWr.out.size));clear hb4 hr4 K2) | (go_at_call 6;((with_reducible refine(K3.out _ (HG.out.below B4.out)).mono ?_));rintro e w5 ⟨A3,n3,c3,q3,x3,xs,rfl,hr5,hb5,hx5⟩;have R5:=Lib.hid hr5;have HX:=Lib.hid hx5;have R14:=Lib.hid (R1'.out.next hb5);have R44:=Lib.hid (R4.out.next hb5);have B5:=Lib.hid (B4.out.trans (hb5.mono B4.out.size));clear hb5 hr5 hx5 K3));have K9:Hid (∀ w',Below w5.heap.size w5 w'→Calls Tryd.prog 9 #[.slice A n0 c,.slice A2 n0 c2] w' fun e w2=>e= .returned (.bool true)∧Below w'.heap.size w' w2):=Lib.hid fun w' hb=>lsame_yes A A2 n0 c c2 ts ts w' (R14.out.next hb) (R44.out.next hb) (by have:=HN.out;have:=HLen.out;omega) rfl HP.out
    go_loopw [15] (fun _ wr=>∃ pos,wr=w5.iter s pos∧∀ j (hj:j<s.size),j<pos→notNl s[j]=true) (fun _ wr=>s.size - wr.iterPos w5.heap.size)
    case atStart=>exact⟨0,rfl,fun j hj h=>by omega⟩
    case round=>
     obtain⟨pos,rfl,hnl⟩:=hrel;have HNL:=Lib.hid hnl;clear hnl;have hIt:∀ p,Below w5.heap.size w5 (w5.iter s p):=fun p=>(Below.refl _ _).alloc (Nat.le_refl _) _
     by_cases hp:pos<s.size
     ·have hnx:∀ ty,(Instr.next (.pointer (some ⟨w5.heap.size,0,none⟩)) true ty).run Tryd.prog (w5.iter s pos)=_:=fun ty=>run_next_any w5 s pos ty hp
      have hwd:=width_one s pos;by_cases c10:(s[pos].toNat:Int)=10
      ·have hb10:((s[pos].toNat:Int)==10)=true:=by simpa using c10
       clear c10;go_wp2_with (go_at_call 9;((with_reducible refine(K9.out _ (hIt _)).mono ?_));rintro e w6 ⟨rfl,hb6⟩;have B6:=Lib.hid ((B5.out.trans ((hIt _).mono B5.out.size)).trans (hb6.mono (B5.out.trans ((hIt _).mono B5.out.size)).size));clear hb6);go_ret;exact⟨rfl,B6.out⟩
      ·have hb10:((s[pos].toNat:Int)==10)=false:=by simpa using c10
       have HC:Hid (notNl (s[pos]'hp)=true):=Lib.hid (by unfold notNl;exact decide_eq_true c10);clear c10;go_wp2
       go_roundw
       case rel=>exact⟨_,rfl,step_nl s pos hp HC.out HNL.out⟩
       case measure=>simp;omega
     ·have hnx:∀ ty,(Instr.next (.pointer (some ⟨w5.heap.size,0,none⟩)) true ty).run Tryd.prog (w5.iter s pos)=_:=fun ty=>run_next_end w5 s pos ty hp
      obtain⟨hx3,hn3,hxs⟩:=HX.out (all_nl s pos hp HNL.out);subst hx3;obtain rfl:n3=n0:=by rw[hn3,HN.out]
      have K8:Hid (∀ w',Below w5.heap.size w5 w'→Calls Tryd.prog 9 #[.slice A n3 c,.slice A3 n3 c3] w' fun e w2=>e= .returned (.bool true)∧Below w'.heap.size w' w2):=Lib.hid fun w' hb=>lsame_yes A A3 n3 c c3 ts xs w' (R14.out.next hb) (R5.out.next hb) (by have:=HN.out;have:=HLen.out;omega) hxs HP.out
      clear hn3 hxs;go_wp2_with (first | (go_at_call 9;((with_reducible refine(K9.out _ (hIt pos)).mono ?_));rintro e w6 ⟨rfl,hb6⟩;have H6:=Lib.hid ((hIt pos).trans (hb6.mono (hIt pos).size));clear hb6 K9) | (go_at_call 9;((with_reducible refine(K8.out _ H6.out).mono ?_));rintro e w7 ⟨rfl,hb7⟩;have H7:=Lib.hid (H6.out.trans (hb7.mono H6.out.size));clear hb7 K8) | (go_at_call 10;((with_reducible refine(KN.out _).mono ?_));rintro e w8 ⟨rfl,rfl⟩));go_ret;exact⟨rfl,B5.out.trans (H7.out.mono B5.out.size)⟩
theorem tlong_large (s:ByteArray) (hs:60<s.size) (n:Int) (w:World) (hG:Given w):
  Calls Tryd.prog 4 #[.string s,.int .u16 n] w fun e w'=>e= .returned (.bool true)∧Below w.heap.size w w':=by
 have KA:=Lib.hid (awakeT_any w hG);clear hG;go_enter Tryd.func4,Tryd.ntmps4;go_wp2_with (go_at_call 5;((with_reducible refine(KA.out).mono ?_));rintro e w0 ⟨rfl,hb0⟩);go_ret;exact⟨rfl,hb0⟩
theorem walk_tlong (s:ByteArray) (n:Int) (hn:0≤n∧n≤65535) (w:World) (hG:Given w):
  Calls Tryd.prog 4 #[.string s,.int .u16 n] w fun e w'=>e= .returned (.bool true)∧Below w.heap.size w w':=by
 by_cases hs:60<s.size
 ·exact tlong_large s hs n w hG
 ·obtain⟨m,rfl⟩:∃ m:Nat,n=m:=⟨n.toNat,by omega⟩
  exact tlong_main s hs m (by omega) w hG
end Go.Proofs.YtmmmleoeokaaeaaDoor
