import Derived.Test.YtngfihoempcplaaGreatDoorCf
import Derived.Test.YtngfihoempcplaaGreatDoorEx14
import Derived.Deep.RegionHeld3
namespace Go.Proofs.YtngfihoempcplaaGreatDoor
open Go Go.RowKit
set_option maxRecDepth 100000
set_option maxHeartbeats 8000000
theorem ba_of (l:Bs):∃ X:BA,X.toList=l∧(⟨l.toArray⟩:BA)=X:=⟨⟨l.toArray⟩,by rw[toList_data],rfl⟩
theorem y1l (x:Ex) (d:Nat):∀ l:List Ex,mayL (l++[x]) d=(mayL l d && mayX x d)
 | []=>by rw[List.nil_append,mayL,mayL,mayL];simp
 | y::l=>by rw[List.cons_append,mayL,mayL,y1l x d l,Bool.and_assoc]
theorem z5j {l:List Ex} {k d:Nat} {x:Ex} (h:l[k]?=some x) (hp:mayL (l.take k) d=true):mayL (l.take (k+1)) d=mayX x d:=by
 obtain⟨hk,e⟩:=List.getElem?_eq_some_iff.1 h;rw[List.take_succ_eq_append_getElem hk,e,y1l,hp,Bool.true_and]
theorem z6t {l:List Ex} {k d:Nat} {x:Ex} (h:l[k]?=some x) (hx:mayX x d=false):mayL l d=false:=by
 rw[Bool.eq_false_iff];intro hl;have:=y5c hl x (List.mem_of_getElem? h);rw[hx] at this;cases this
theorem y80 (r:Ex):∀ (A:OA) (c d:Nat) (w:World),KidsX (LtX w.heap.size) w A r→d≤64→nmX r≤1000000→
  Cz 112 #[valX r A c,d] w fun e w'=>e= .returned (.bool (mayX r d))∧Below w.heap.size w w':=by
 induction r using Ex.ind with
 | h k n nm op ks ih=>
   intro A c d w hk hd hnm;obtain⟨v,hv⟩:∃ v,v=mayX (Ex.mk k n nm op ks) d:=⟨_,rfl⟩;rw[←hv];rw[mayX] at hv;unfold shapeX at hv;simp only[valX];obtain⟨X,rfl,eX⟩:=ba_of nm;rw[nmX] at hnm
   have hXs:X.size≤4611686018427387904:=by
    have:X.toList.length=X.size:=by rw[toList_data];exact z0d X
    omega
   have HNM:=zz hnm;clear hnm;obtain⟨Y,rfl,eY⟩:=ba_of op;rw[eX,eY];have KN:Hid (∀ w,Cz 67 #[X] w fun e w'=>e= .returned (.bool (isName X.toList))∧w=w'):=zz fun w=>by rw[toList_data];exact z45 X hXs w
   have KS:Hid (∀ w,Cz 136 #[Y] w fun e w'=>e= .returned (.int .i64 (strong Y.toList))∧w=w'):=zz fun w=>by rw[toList_data];exact z42 Y w
   obtain⟨b1,hb1⟩:∃ b,b=isName X.toList:=⟨_,rfl⟩;obtain⟨b2,hb2⟩:∃ b,b=strong Y.toList:=⟨_,rfl⟩;rw[←hb1] at KN hv;rw[←hb2] at KS hv;clear hb1 hb2 eX eY hXs;obtain⟨m,hm⟩:∃ m,m=ks.length:=⟨_,rfl⟩;rw[←hm] at hv ⊢;have he:ks.isEmpty=decide (m=0):=by rw[hm];cases ks <;> simp
   rw[he] at hv;have HM:=zz hm;have HK:=zz hk;have HI:=zz ih;clear hk ih hm he;by_cases k0:k=0
   ·subst k0
    by_cases hx:X.toList=[]
    case neg=>
     have HX:Hid (v=false):=zz (by rw[hv];simp[hx]);clear hv;go_enter Tryz.func112,Tryz.ntmps112;go_wp2_with (first | (go_at_call 67;((with_reducible refine(KN.out _).mono ?_));rintro e w' ⟨rfl,rfl⟩) | (go_at_call 136;((with_reducible refine(KS.out _).mono ?_));rintro e w' ⟨rfl,rfl⟩));go_ret;exact⟨z0c HX.out.symm,z0a _ _ _⟩
    by_cases hy:Y.toList=[]
    case neg=>
     have HX:Hid (v=false):=zz (by rw[hv];simp[hy]);clear hv;go_enter Tryz.func112,Tryz.ntmps112;go_wp2_with (first | (go_at_call 67;((with_reducible refine(KN.out _).mono ?_));rintro e w' ⟨rfl,rfl⟩) | (go_at_call 136;((with_reducible refine(KS.out _).mono ?_));rintro e w' ⟨rfl,rfl⟩));go_ret;exact⟨z0c HX.out.symm,z0a _ _ _⟩
    by_cases hm0:m=0
    case neg=>
     have HX:Hid (v=false):=zz (by rw[hv];simp[hm0]);clear hv;go_enter Tryz.func112,Tryz.ntmps112;go_wp2_with (first | (go_at_call 67;((with_reducible refine(KN.out _).mono ?_));rintro e w' ⟨rfl,rfl⟩) | (go_at_call 136;((with_reducible refine(KS.out _).mono ?_));rintro e w' ⟨rfl,rfl⟩));go_ret;exact⟨z0c HX.out.symm,z0a _ _ _⟩
    subst hm0;by_cases hn:0≤n
    case neg=>
     have HX:Hid (v=false):=zz (by rw[hv];simp[hn]);clear hv;go_enter Tryz.func112,Tryz.ntmps112;go_wp2_with (first | (go_at_call 67;((with_reducible refine(KN.out _).mono ?_));rintro e w' ⟨rfl,rfl⟩) | (go_at_call 136;((with_reducible refine(KS.out _).mono ?_));rintro e w' ⟨rfl,rfl⟩));go_ret;exact⟨z0c HX.out.symm,z0a _ _ _⟩
    have HX:Hid (∀ b,mayL ks (d+1)=b→v=b):=zz (by rintro b rfl;rw[hv];simp[hx,hy,hn]);clear hv;obtain⟨o1,ho1⟩:∃ o:Obj,o= .cells #[oZ,n,X,Y,.slice A 0 c] 38:=⟨_,rfl⟩;obtain⟨o2,ho2⟩:∃ o:Obj,o= .cells #[oZ,n,oS,oS,()] 38:=⟨_,rfl⟩;have hbo:Below w.heap.size w ((w.alloc o1).alloc o2):=z0a w o1 o2;have hc5:((w.alloc o1).alloc o2).cell? ⟨w.heap.size,4,none⟩=some (.slice A 0 c):=by rw[ho1];simp[go_sem]
    have hsz:((w.alloc o1).alloc o2).heap.size=w.heap.size+2:=by simp
    obtain⟨W2,hW2⟩:∃ W2,W2=(w.alloc o1).alloc o2:=⟨_,rfl⟩;have HW2:Hid (W2=(w.alloc (.cells #[oZ,n,X,Y,.slice A 0 c] 38)).alloc (.cells #[oZ,n,oS,oS,()] 38)):=zz (by rw[hW2,ho1,ho2]);rw[←hW2] at hbo hc5 hsz;have HBO:=zz hbo;have HC5:=zz hc5;clear ho1 ho2 hW2 hbo hc5;go_enter Tryz.func112,Tryz.ntmps112;go_wp2_with (first | (go_at_call 67;((with_reducible refine(KN.out _).mono ?_));rintro e w' ⟨rfl,rfl⟩) | (go_at_call 136;((with_reducible refine(KS.out _).mono ?_));rintro e w' ⟨rfl,rfl⟩))
    go_loopw [7] (fun i wr=>∃ j:Nat,j≤0∧i= .int .i64 j∧mayL (ks.take j) (d+1)=true∧Below (w.heap.size+2) W2 wr) (fun i _=>0 - (intOf i).toNat)
    case atStart=>exact⟨0,by omega,rfl,by rw[List.take_zero,mayL],by rw[HW2.out];exact Below.refl _ _⟩
    case round=>
     obtain⟨j,hj,rfl,ht,hb1⟩:=hrel;have hb:Below w.heap.size w wr:=HBO.out.trans (hb1.mono (by omega));have c5:wr.cell? ⟨w.heap.size,4,none⟩=some (.slice A 0 c):=(hb1.cell (p:=⟨w.heap.size,4,none⟩) (by show w.heap.size<w.heap.size+2;omega)).trans HC5.out;have HB1:=zz hb1;have HT:=zz ht;clear ht hb1;by_cases a:j<0
     ·exact absurd a (Nat.not_lt_zero j)
     ·have HX2:Hid (v=true):=by
       apply Lib.hid;apply HX.out;have:=HT.out;rw[List.take_of_length_le (by have:=HM.out;omega)] at this;exact this
      go_wp2;go_ret;exact⟨z0c HX2.out.symm,hb⟩
   by_cases k1:k=1
   ·subst k1
    by_cases hn:n=0
    case neg=>
     have HX:Hid (v=false):=zz (by rw[hv];simp[hn]);clear hv;go_enter Tryz.func112,Tryz.ntmps112;go_wp2_with (first | (go_at_call 67;((with_reducible refine(KN.out _).mono ?_));rintro e w' ⟨rfl,rfl⟩) | (go_at_call 136;((with_reducible refine(KS.out _).mono ?_));rintro e w' ⟨rfl,rfl⟩));go_ret;exact⟨z0c HX.out.symm,z0a _ _ _⟩
    subst hn;by_cases hy:Y.toList=[]
    case neg=>
     have HX:Hid (v=false):=zz (by rw[hv];simp[hy]);clear hv;go_enter Tryz.func112,Tryz.ntmps112;go_wp2_with (first | (go_at_call 67;((with_reducible refine(KN.out _).mono ?_));rintro e w' ⟨rfl,rfl⟩) | (go_at_call 136;((with_reducible refine(KS.out _).mono ?_));rintro e w' ⟨rfl,rfl⟩));go_ret;exact⟨z0c HX.out.symm,z0a _ _ _⟩
    by_cases hm0:m=0
    case neg=>
     have HX:Hid (v=false):=zz (by rw[hv];simp[hm0]);clear hv;go_enter Tryz.func112,Tryz.ntmps112;go_wp2_with (first | (go_at_call 67;((with_reducible refine(KN.out _).mono ?_));rintro e w' ⟨rfl,rfl⟩) | (go_at_call 136;((with_reducible refine(KS.out _).mono ?_));rintro e w' ⟨rfl,rfl⟩));go_ret;exact⟨z0c HX.out.symm,z0a _ _ _⟩
    subst hm0;by_cases hb:b1=true
    case neg=>
     have HX:Hid (v=false):=zz (by rw[hv];simp[hb]);clear hv;go_enter Tryz.func112,Tryz.ntmps112;go_wp2_with (first | (go_at_call 67;((with_reducible refine(KN.out _).mono ?_));rintro e w' ⟨rfl,rfl⟩) | (go_at_call 136;((with_reducible refine(KS.out _).mono ?_));rintro e w' ⟨rfl,rfl⟩));go_ret;exact⟨z0c HX.out.symm,z0a _ _ _⟩
    subst hb;have HX:Hid (∀ b,mayL ks (d+1)=b→v=b):=zz (by rintro b rfl;rw[hv];simp[hy]);clear hv;obtain⟨o1,ho1⟩:∃ o:Obj,o= .cells #[iI 1,oZ,X,Y,.slice A 0 c] 38:=⟨_,rfl⟩;obtain⟨o2,ho2⟩:∃ o:Obj,o= .cells #[iI 1,oZ,X,oS,()] 38:=⟨_,rfl⟩;have hbo:Below w.heap.size w ((w.alloc o1).alloc o2):=z0a w o1 o2;have hc5:((w.alloc o1).alloc o2).cell? ⟨w.heap.size,4,none⟩=some (.slice A 0 c):=by rw[ho1];simp[go_sem]
    have hsz:((w.alloc o1).alloc o2).heap.size=w.heap.size+2:=by simp
    obtain⟨W2,hW2⟩:∃ W2,W2=(w.alloc o1).alloc o2:=⟨_,rfl⟩;have HW2:Hid (W2=(w.alloc (.cells #[iI 1,oZ,X,Y,.slice A 0 c] 38)).alloc (.cells #[iI 1,oZ,X,oS,()] 38)):=zz (by rw[hW2,ho1,ho2]);rw[←hW2] at hbo hc5 hsz;have HBO:=zz hbo;have HC5:=zz hc5;clear ho1 ho2 hW2 hbo hc5;go_enter Tryz.func112,Tryz.ntmps112;go_wp2_with (first | (go_at_call 67;((with_reducible refine(KN.out _).mono ?_));rintro e w' ⟨rfl,rfl⟩) | (go_at_call 136;((with_reducible refine(KS.out _).mono ?_));rintro e w' ⟨rfl,rfl⟩))
    go_loopw [7] (fun i wr=>∃ j:Nat,j≤0∧i= .int .i64 j∧mayL (ks.take j) (d+1)=true∧Below (w.heap.size+2) W2 wr) (fun i _=>0 - (intOf i).toNat)
    case atStart=>exact⟨0,by omega,rfl,by rw[List.take_zero,mayL],by rw[HW2.out];exact Below.refl _ _⟩
    case round=>
     obtain⟨j,hj,rfl,ht,hb1⟩:=hrel;have hb:Below w.heap.size w wr:=HBO.out.trans (hb1.mono (by omega));have c5:wr.cell? ⟨w.heap.size,4,none⟩=some (.slice A 0 c):=(hb1.cell (p:=⟨w.heap.size,4,none⟩) (by show w.heap.size<w.heap.size+2;omega)).trans HC5.out;have HB1:=zz hb1;have HT:=zz ht;clear ht hb1;by_cases a:j<0
     ·exact absurd a (Nat.not_lt_zero j)
     ·have HX2:Hid (v=true):=by
       apply Lib.hid;apply HX.out;have:=HT.out;rw[List.take_of_length_le (by have:=HM.out;omega)] at this;exact this
      go_wp2;go_ret;exact⟨z0c HX2.out.symm,hb⟩
   by_cases k2:k=2
   ·subst k2
    by_cases hn:n=0
    case neg=>
     have HX:Hid (v=false):=zz (by rw[hv];simp[hn]);clear hv;go_enter Tryz.func112,Tryz.ntmps112;go_wp2_with (first | (go_at_call 67;((with_reducible refine(KN.out _).mono ?_));rintro e w' ⟨rfl,rfl⟩) | (go_at_call 136;((with_reducible refine(KS.out _).mono ?_));rintro e w' ⟨rfl,rfl⟩));go_ret;exact⟨z0c HX.out.symm,z0a _ _ _⟩
    subst hn;by_cases hx:X.toList=[]
    case neg=>
     have HX:Hid (v=false):=zz (by rw[hv];simp[hx]);clear hv;go_enter Tryz.func112,Tryz.ntmps112;go_wp2_with (first | (go_at_call 67;((with_reducible refine(KN.out _).mono ?_));rintro e w' ⟨rfl,rfl⟩) | (go_at_call 136;((with_reducible refine(KS.out _).mono ?_));rintro e w' ⟨rfl,rfl⟩));go_ret;exact⟨z0c HX.out.symm,z0a _ _ _⟩
    by_cases hy:Y.toList=[]
    case neg=>
     have HX:Hid (v=false):=zz (by rw[hv];simp[hy]);clear hv;go_enter Tryz.func112,Tryz.ntmps112;go_wp2_with (first | (go_at_call 67;((with_reducible refine(KN.out _).mono ?_));rintro e w' ⟨rfl,rfl⟩) | (go_at_call 136;((with_reducible refine(KS.out _).mono ?_));rintro e w' ⟨rfl,rfl⟩));go_ret;exact⟨z0c HX.out.symm,z0a _ _ _⟩
    by_cases hm0:m=1
    case neg=>
     have HX:Hid (v=false):=zz (by rw[hv];simp[hm0]);clear hv;go_enter Tryz.func112,Tryz.ntmps112;go_wp2_with (first | (go_at_call 67;((with_reducible refine(KN.out _).mono ?_));rintro e w' ⟨rfl,rfl⟩) | (go_at_call 136;((with_reducible refine(KS.out _).mono ?_));rintro e w' ⟨rfl,rfl⟩));go_ret;exact⟨z0c HX.out.symm,z0a _ _ _⟩
    subst hm0;by_cases hd64:d<64
    case neg=>
     have HX:Hid (v=false):=zz (by rw[hv];simp[hd64]);clear hv;go_enter Tryz.func112,Tryz.ntmps112;go_wp2_with (first | (go_at_call 67;((with_reducible refine(KN.out _).mono ?_));rintro e w' ⟨rfl,rfl⟩) | (go_at_call 136;((with_reducible refine(KS.out _).mono ?_));rintro e w' ⟨rfl,rfl⟩));go_ret;exact⟨z0c HX.out.symm,z0a _ _ _⟩
    have HX:Hid (∀ b,mayL ks (d+1)=b→v=b):=zz (by rintro b rfl;rw[hv];simp[hx,hy,hd64]);clear hv;obtain⟨o1,ho1⟩:∃ o:Obj,o= .cells #[iI 2,oZ,X,Y,.slice A 1 c] 38:=⟨_,rfl⟩;obtain⟨o2,ho2⟩:∃ o:Obj,o= .cells #[iI 2,oZ,oS,oS,()] 38:=⟨_,rfl⟩;have hbo:Below w.heap.size w ((w.alloc o1).alloc o2):=z0a w o1 o2;have hc5:((w.alloc o1).alloc o2).cell? ⟨w.heap.size,4,none⟩=some (.slice A 1 c):=by rw[ho1];simp[go_sem]
    have hsz:((w.alloc o1).alloc o2).heap.size=w.heap.size+2:=by simp
    obtain⟨W2,hW2⟩:∃ W2,W2=(w.alloc o1).alloc o2:=⟨_,rfl⟩;have HW2:Hid (W2=(w.alloc (.cells #[iI 2,oZ,X,Y,.slice A 1 c] 38)).alloc (.cells #[iI 2,oZ,oS,oS,()] 38)):=zz (by rw[hW2,ho1,ho2]);rw[←hW2] at hbo hc5 hsz;have HBO:=zz hbo;have HC5:=zz hc5;clear ho1 ho2 hW2 hbo hc5;go_enter Tryz.func112,Tryz.ntmps112;go_wp2_with (first | (go_at_call 67;((with_reducible refine(KN.out _).mono ?_));rintro e w' ⟨rfl,rfl⟩) | (go_at_call 136;((with_reducible refine(KS.out _).mono ?_));rintro e w' ⟨rfl,rfl⟩))
    go_loopw [7] (fun i wr=>∃ j:Nat,j≤1∧i= .int .i64 j∧mayL (ks.take j) (d+1)=true∧Below (w.heap.size+2) W2 wr) (fun i _=>1 - (intOf i).toNat)
    case atStart=>exact⟨0,by omega,rfl,by rw[List.take_zero,mayL],by rw[HW2.out];exact Below.refl _ _⟩
    case round=>
     obtain⟨j,hj,rfl,ht,hb1⟩:=hrel;have hb:Below w.heap.size w wr:=HBO.out.trans (hb1.mono (by omega));have c5:wr.cell? ⟨w.heap.size,4,none⟩=some (.slice A 1 c):=(hb1.cell (p:=⟨w.heap.size,4,none⟩) (by show w.heap.size<w.heap.size+2;omega)).trans HC5.out;have HB1:=zz hb1;have HT:=zz ht;clear ht hb1;by_cases a:j<1
     ·obtain⟨r,hr⟩:=z0t HM.out a
      obtain⟨ad,B,b,rfl,hp,h9,hkr⟩:=z32 HK.out hb hr;have hmem:=List.mem_of_getElem? hr
      have K:∀ w2,Below w.heap.size w w2→Cz 112 #[valX r B b,iI ((d:Int)+1)] w2 fun e w'=>e= .returned (.bool (mayX r (d+1)))∧Below w2.heap.size w2 w':=fun w2 h2=>
       HI.out r hmem B b (d+1) w2 (hkr.next h2) (by omega) (by have:=HNM.out;have:=z6n hmem;omega)
      obtain⟨v2,hv2⟩:∃ v2,v2=mayX r (d+1):=⟨_,rfl⟩;rw[←hv2] at K;have HV2:=zz hv2;have HR:=zz hr;clear hr hv2 hkr hmem;obtain⟨k',n',nm',op',ks1⟩:=r;simp only[valX] at K;obtain⟨c0,c1,c2,c3,c4⟩:=h9;generalize (⟨nm'.toArray⟩:BA)=M1 at K c2;generalize (⟨op'.toArray⟩:BA)=M2 at K c3;obtain⟨l1,hl1⟩:∃ l,l=ks1.length:=⟨_,rfl⟩;rw[←hl1] at K c4;have HKC:=zz K;clear K hl1
      cases v2 with
      | true=>
        have HT2:Hid (mayL (ks.take (j+1)) (d+1)=true):=zz (by rw[z5j HR.out HT.out];exact HV2.out.symm);go_wp2_with (go_at_call 112;((with_reducible refine(HKC.out _ hb).mono ?_));rintro e w' ⟨rfl,hb2⟩)
        go_roundw
        case rel=>exact⟨j+1,by omega,by go_num,HT2.out,HB1.out.trans (hb2.mono (by have:=HB1.out.size;omega))⟩
        case measure=>simp[intOf];omega
      | false=>
        have HX2:Hid (v=false):=zz (HX.out _ (z6t HR.out HV2.out.symm));go_wp2_with (go_at_call 112;((with_reducible refine(HKC.out _ hb).mono ?_));rintro e w' ⟨rfl,hb2⟩);go_ret;exact⟨z0c HX2.out.symm,hb.trans (hb2.mono hb.size)⟩
     ·have HX2:Hid (v=true):=by
       apply Lib.hid;apply HX.out;have:=HT.out;rw[List.take_of_length_le (by have:=HM.out;omega)] at this;exact this
      go_wp2;go_ret;exact⟨z0c HX2.out.symm,hb⟩
   by_cases k3:k=3
   ·subst k3
    by_cases hn:n=0
    case neg=>
     have HX:Hid (v=false):=zz (by rw[hv];simp[hn]);clear hv;go_enter Tryz.func112,Tryz.ntmps112;go_wp2_with (first | (go_at_call 67;((with_reducible refine(KN.out _).mono ?_));rintro e w' ⟨rfl,rfl⟩) | (go_at_call 136;((with_reducible refine(KS.out _).mono ?_));rintro e w' ⟨rfl,rfl⟩));go_ret;exact⟨z0c HX.out.symm,z0a _ _ _⟩
    subst hn;by_cases hx:X.toList=[]
    case neg=>
     have HX:Hid (v=false):=zz (by rw[hv];simp[hx]);clear hv;go_enter Tryz.func112,Tryz.ntmps112;go_wp2_with (first | (go_at_call 67;((with_reducible refine(KN.out _).mono ?_));rintro e w' ⟨rfl,rfl⟩) | (go_at_call 136;((with_reducible refine(KS.out _).mono ?_));rintro e w' ⟨rfl,rfl⟩));go_ret;exact⟨z0c HX.out.symm,z0a _ _ _⟩
    by_cases hy:Y.toList=[]
    case neg=>
     have HX:Hid (v=false):=zz (by rw[hv];simp[hy]);clear hv;go_enter Tryz.func112,Tryz.ntmps112;go_wp2_with (first | (go_at_call 67;((with_reducible refine(KN.out _).mono ?_));rintro e w' ⟨rfl,rfl⟩) | (go_at_call 136;((with_reducible refine(KS.out _).mono ?_));rintro e w' ⟨rfl,rfl⟩));go_ret;exact⟨z0c HX.out.symm,z0a _ _ _⟩
    by_cases hm0:m=1
    case neg=>
     have HX:Hid (v=false):=zz (by rw[hv];simp[hm0]);clear hv;go_enter Tryz.func112,Tryz.ntmps112;go_wp2_with (first | (go_at_call 67;((with_reducible refine(KN.out _).mono ?_));rintro e w' ⟨rfl,rfl⟩) | (go_at_call 136;((with_reducible refine(KS.out _).mono ?_));rintro e w' ⟨rfl,rfl⟩));go_ret;exact⟨z0c HX.out.symm,z0a _ _ _⟩
    subst hm0;by_cases hd64:d<64
    case neg=>
     have HX:Hid (v=false):=zz (by rw[hv];simp[hd64]);clear hv;go_enter Tryz.func112,Tryz.ntmps112;go_wp2_with (first | (go_at_call 67;((with_reducible refine(KN.out _).mono ?_));rintro e w' ⟨rfl,rfl⟩) | (go_at_call 136;((with_reducible refine(KS.out _).mono ?_));rintro e w' ⟨rfl,rfl⟩));go_ret;exact⟨z0c HX.out.symm,z0a _ _ _⟩
    have HX:Hid (∀ b,mayL ks (d+1)=b→v=b):=zz (by rintro b rfl;rw[hv];simp[hx,hy,hd64]);clear hv;obtain⟨o1,ho1⟩:∃ o:Obj,o= .cells #[iI 3,oZ,X,Y,.slice A 1 c] 38:=⟨_,rfl⟩;obtain⟨o2,ho2⟩:∃ o:Obj,o= .cells #[iI 3,oZ,oS,oS,()] 38:=⟨_,rfl⟩;have hbo:Below w.heap.size w ((w.alloc o1).alloc o2):=z0a w o1 o2;have hc5:((w.alloc o1).alloc o2).cell? ⟨w.heap.size,4,none⟩=some (.slice A 1 c):=by rw[ho1];simp[go_sem]
    have hsz:((w.alloc o1).alloc o2).heap.size=w.heap.size+2:=by simp
    obtain⟨W2,hW2⟩:∃ W2,W2=(w.alloc o1).alloc o2:=⟨_,rfl⟩;have HW2:Hid (W2=(w.alloc (.cells #[iI 3,oZ,X,Y,.slice A 1 c] 38)).alloc (.cells #[iI 3,oZ,oS,oS,()] 38)):=zz (by rw[hW2,ho1,ho2]);rw[←hW2] at hbo hc5 hsz;have HBO:=zz hbo;have HC5:=zz hc5;clear ho1 ho2 hW2 hbo hc5;go_enter Tryz.func112,Tryz.ntmps112;go_wp2_with (first | (go_at_call 67;((with_reducible refine(KN.out _).mono ?_));rintro e w' ⟨rfl,rfl⟩) | (go_at_call 136;((with_reducible refine(KS.out _).mono ?_));rintro e w' ⟨rfl,rfl⟩))
    go_loopw [7] (fun i wr=>∃ j:Nat,j≤1∧i= .int .i64 j∧mayL (ks.take j) (d+1)=true∧Below (w.heap.size+2) W2 wr) (fun i _=>1 - (intOf i).toNat)
    case atStart=>exact⟨0,by omega,rfl,by rw[List.take_zero,mayL],by rw[HW2.out];exact Below.refl _ _⟩
    case round=>
     obtain⟨j,hj,rfl,ht,hb1⟩:=hrel;have hb:Below w.heap.size w wr:=HBO.out.trans (hb1.mono (by omega));have c5:wr.cell? ⟨w.heap.size,4,none⟩=some (.slice A 1 c):=(hb1.cell (p:=⟨w.heap.size,4,none⟩) (by show w.heap.size<w.heap.size+2;omega)).trans HC5.out;have HB1:=zz hb1;have HT:=zz ht;clear ht hb1;by_cases a:j<1
     ·obtain⟨r,hr⟩:=z0t HM.out a
      obtain⟨ad,B,b,rfl,hp,h9,hkr⟩:=z32 HK.out hb hr;have hmem:=List.mem_of_getElem? hr
      have K:∀ w2,Below w.heap.size w w2→Cz 112 #[valX r B b,iI ((d:Int)+1)] w2 fun e w'=>e= .returned (.bool (mayX r (d+1)))∧Below w2.heap.size w2 w':=fun w2 h2=>
       HI.out r hmem B b (d+1) w2 (hkr.next h2) (by omega) (by have:=HNM.out;have:=z6n hmem;omega)
      obtain⟨v2,hv2⟩:∃ v2,v2=mayX r (d+1):=⟨_,rfl⟩;rw[←hv2] at K;have HV2:=zz hv2;have HR:=zz hr;clear hr hv2 hkr hmem;obtain⟨k',n',nm',op',ks1⟩:=r;simp only[valX] at K;obtain⟨c0,c1,c2,c3,c4⟩:=h9;generalize (⟨nm'.toArray⟩:BA)=M1 at K c2;generalize (⟨op'.toArray⟩:BA)=M2 at K c3;obtain⟨l1,hl1⟩:∃ l,l=ks1.length:=⟨_,rfl⟩;rw[←hl1] at K c4;have HKC:=zz K;clear K hl1
      cases v2 with
      | true=>
        have HT2:Hid (mayL (ks.take (j+1)) (d+1)=true):=zz (by rw[z5j HR.out HT.out];exact HV2.out.symm);go_wp2_with (go_at_call 112;((with_reducible refine(HKC.out _ hb).mono ?_));rintro e w' ⟨rfl,hb2⟩)
        go_roundw
        case rel=>exact⟨j+1,by omega,by go_num,HT2.out,HB1.out.trans (hb2.mono (by have:=HB1.out.size;omega))⟩
        case measure=>simp[intOf];omega
      | false=>
        have HX2:Hid (v=false):=zz (HX.out _ (z6t HR.out HV2.out.symm));go_wp2_with (go_at_call 112;((with_reducible refine(HKC.out _ hb).mono ?_));rintro e w' ⟨rfl,hb2⟩);go_ret;exact⟨z0c HX2.out.symm,hb.trans (hb2.mono hb.size)⟩
     ·have HX2:Hid (v=true):=by
       apply Lib.hid;apply HX.out;have:=HT.out;rw[List.take_of_length_le (by have:=HM.out;omega)] at this;exact this
      go_wp2;go_ret;exact⟨z0c HX2.out.symm,hb⟩
   by_cases k4:k=4
   ·subst k4
    by_cases hn:n=0
    case neg=>
     have HX:Hid (v=false):=zz (by rw[hv];simp[hn]);clear hv;go_enter Tryz.func112,Tryz.ntmps112;go_wp2_with (first | (go_at_call 67;((with_reducible refine(KN.out _).mono ?_));rintro e w' ⟨rfl,rfl⟩) | (go_at_call 136;((with_reducible refine(KS.out _).mono ?_));rintro e w' ⟨rfl,rfl⟩));go_ret;exact⟨z0c HX.out.symm,z0a _ _ _⟩
    subst hn;by_cases hx:X.toList=[]
    case neg=>
     have HX:Hid (v=false):=zz (by rw[hv];simp[hx]);clear hv;go_enter Tryz.func112,Tryz.ntmps112;go_wp2_with (first | (go_at_call 67;((with_reducible refine(KN.out _).mono ?_));rintro e w' ⟨rfl,rfl⟩) | (go_at_call 136;((with_reducible refine(KS.out _).mono ?_));rintro e w' ⟨rfl,rfl⟩));go_ret;exact⟨z0c HX.out.symm,z0a _ _ _⟩
    by_cases hm0:m=2
    case neg=>
     have HX:Hid (v=false):=zz (by rw[hv];simp[hm0]);clear hv;go_enter Tryz.func112,Tryz.ntmps112;go_wp2_with (first | (go_at_call 67;((with_reducible refine(KN.out _).mono ?_));rintro e w' ⟨rfl,rfl⟩) | (go_at_call 136;((with_reducible refine(KS.out _).mono ?_));rintro e w' ⟨rfl,rfl⟩));go_ret;exact⟨z0c HX.out.symm,z0a _ _ _⟩
    subst hm0;by_cases hb:¬ b2=0
    case neg=>
     obtain rfl:b2=0:=by omega
     have HX:Hid (v=false):=zz (by rw[hv];simp);clear hv;go_enter Tryz.func112,Tryz.ntmps112;go_wp2_with (first | (go_at_call 67;((with_reducible refine(KN.out _).mono ?_));rintro e w' ⟨rfl,rfl⟩) | (go_at_call 136;((with_reducible refine(KS.out _).mono ?_));rintro e w' ⟨rfl,rfl⟩));go_ret;exact⟨z0c HX.out.symm,z0a _ _ _⟩
    have hb3:((b2:Int)==0)=false:=by simpa using hb
    by_cases hd64:d<64
    case neg=>
     have HX:Hid (v=false):=zz (by rw[hv];simp[hd64]);clear hv;go_enter Tryz.func112,Tryz.ntmps112;go_wp2_with (first | (go_at_call 67;((with_reducible refine(KN.out _).mono ?_));rintro e w' ⟨rfl,rfl⟩) | (go_at_call 136;((with_reducible refine(KS.out _).mono ?_));rintro e w' ⟨rfl,rfl⟩));go_ret;exact⟨z0c HX.out.symm,z0a _ _ _⟩
    have HX:Hid (∀ b,mayL ks (d+1)=b→v=b):=zz (by rintro b rfl;rw[hv];simp[hx,hb,hd64]);clear hv;obtain⟨o1,ho1⟩:∃ o:Obj,o= .cells #[iI 4,oZ,X,Y,.slice A 2 c] 38:=⟨_,rfl⟩;obtain⟨o2,ho2⟩:∃ o:Obj,o= .cells #[iI 4,oZ,oS,Y,()] 38:=⟨_,rfl⟩;have hbo:Below w.heap.size w ((w.alloc o1).alloc o2):=z0a w o1 o2;have hc5:((w.alloc o1).alloc o2).cell? ⟨w.heap.size,4,none⟩=some (.slice A 2 c):=by rw[ho1];simp[go_sem]
    have hsz:((w.alloc o1).alloc o2).heap.size=w.heap.size+2:=by simp
    obtain⟨W2,hW2⟩:∃ W2,W2=(w.alloc o1).alloc o2:=⟨_,rfl⟩;have HW2:Hid (W2=(w.alloc (.cells #[iI 4,oZ,X,Y,.slice A 2 c] 38)).alloc (.cells #[iI 4,oZ,oS,Y,()] 38)):=zz (by rw[hW2,ho1,ho2]);rw[←hW2] at hbo hc5 hsz;have HBO:=zz hbo;have HC5:=zz hc5;clear ho1 ho2 hW2 hbo hc5;go_enter Tryz.func112,Tryz.ntmps112;go_wp2_with (first | (go_at_call 67;((with_reducible refine(KN.out _).mono ?_));rintro e w' ⟨rfl,rfl⟩) | (go_at_call 136;((with_reducible refine(KS.out _).mono ?_));rintro e w' ⟨rfl,rfl⟩))
    go_loopw [7] (fun i wr=>∃ j:Nat,j≤2∧i= .int .i64 j∧mayL (ks.take j) (d+1)=true∧Below (w.heap.size+2) W2 wr) (fun i _=>2 - (intOf i).toNat)
    case atStart=>exact⟨0,by omega,rfl,by rw[List.take_zero,mayL],by rw[HW2.out];exact Below.refl _ _⟩
    case round=>
     obtain⟨j,hj,rfl,ht,hb1⟩:=hrel;have hb:Below w.heap.size w wr:=HBO.out.trans (hb1.mono (by omega));have c5:wr.cell? ⟨w.heap.size,4,none⟩=some (.slice A 2 c):=(hb1.cell (p:=⟨w.heap.size,4,none⟩) (by show w.heap.size<w.heap.size+2;omega)).trans HC5.out;have HB1:=zz hb1;have HT:=zz ht;clear ht hb1;by_cases a:j<2
     ·obtain⟨r,hr⟩:=z0t HM.out a
      obtain⟨ad,B,b,rfl,hp,h9,hkr⟩:=z32 HK.out hb hr;have hmem:=List.mem_of_getElem? hr
      have K:∀ w2,Below w.heap.size w w2→Cz 112 #[valX r B b,iI ((d:Int)+1)] w2 fun e w'=>e= .returned (.bool (mayX r (d+1)))∧Below w2.heap.size w2 w':=fun w2 h2=>
       HI.out r hmem B b (d+1) w2 (hkr.next h2) (by omega) (by have:=HNM.out;have:=z6n hmem;omega)
      obtain⟨v2,hv2⟩:∃ v2,v2=mayX r (d+1):=⟨_,rfl⟩;rw[←hv2] at K;have HV2:=zz hv2;have HR:=zz hr;clear hr hv2 hkr hmem;obtain⟨k',n',nm',op',ks1⟩:=r;simp only[valX] at K;obtain⟨c0,c1,c2,c3,c4⟩:=h9;generalize (⟨nm'.toArray⟩:BA)=M1 at K c2;generalize (⟨op'.toArray⟩:BA)=M2 at K c3;obtain⟨l1,hl1⟩:∃ l,l=ks1.length:=⟨_,rfl⟩;rw[←hl1] at K c4;have HKC:=zz K;clear K hl1
      cases v2 with
      | true=>
        have HT2:Hid (mayL (ks.take (j+1)) (d+1)=true):=zz (by rw[z5j HR.out HT.out];exact HV2.out.symm);go_wp2_with (go_at_call 112;((with_reducible refine(HKC.out _ hb).mono ?_));rintro e w' ⟨rfl,hb2⟩)
        go_roundw
        case rel=>exact⟨j+1,by omega,by go_num,HT2.out,HB1.out.trans (hb2.mono (by have:=HB1.out.size;omega))⟩
        case measure=>simp[intOf];omega
      | false=>
        have HX2:Hid (v=false):=zz (HX.out _ (z6t HR.out HV2.out.symm));go_wp2_with (go_at_call 112;((with_reducible refine(HKC.out _ hb).mono ?_));rintro e w' ⟨rfl,hb2⟩);go_ret;exact⟨z0c HX2.out.symm,hb.trans (hb2.mono hb.size)⟩
     ·have HX2:Hid (v=true):=by
       apply Lib.hid;apply HX.out;have:=HT.out;rw[List.take_of_length_le (by have:=HM.out;omega)] at this;exact this
      go_wp2;go_ret;exact⟨z0c HX2.out.symm,hb⟩
   have HX:Hid (v=false):=zz (by rw[hv];simp[k0,k1,k2,k3,k4]);clear hv;have q0:(k==0)=false:=by simpa using k0
   have q1:(k==1)=false:=by simpa using k1
   have q2:(k==2)=false:=by simpa using k2
   have q3:(k==3)=false:=by simpa using k3
   have q4:(k==4)=false:=by simpa using k4
   have q5:k<0∨4<k:=by omega
   clear k0 k1 k2 k3 k4;go_enter Tryz.func112,Tryz.ntmps112;go_wp2
   all_goals (go_ret;exact⟨z0c HX.out.symm,z0a _ _ _⟩)
theorem y52 (b:Nat) (w:World) (A:OA) (n c:Nat) (l:List Tok) (k:Nat) (h:RdC b w A n c l k):
  Cz 178 #[pP b,iI 64] w (PostC b w A n c l (.bad k 8)):=by
 have H:=zz h;clear h;go_enter Tryz.func178,Tryz.ntmps178;go_wp2;exact bodyPost_ret (v:= .tuple #[.agg #[oZ,oZ,oS,oS,()],iI 8]) (by simp[results,Tryz.results178,go_sem]) rfl ⟨z0g (z0b _ _),rfl,H.out.box _⟩
theorem y93 (b:Nat) (w:World) (A:OA) (n c:Nat) (l:List Tok) (k d:Nat) (h:RdC b w A n c l k) (hkb:k≤1000000) (hd:d<64) (j er:Nat) (he:er≠0) (HK:ConRow b A n c l 1 (k+1) (d+1) (.bad j er)):
  Cz 178 #[pP b,d] w (PostC b w A n c l (.bad j er)):=by
 have hlt:=h.lt;have H1:Hid (∀ o,RdC b ((w.setCell ⟨b,1,none⟩ (.int .i64 ((k:Int)+1))).alloc o) A n c l (k+1)):=zz fun o=>(h.placez (k+1) _ (by omega)).box o
 obtain⟨c0,c1,f1,_,_⟩:=h;have K:Hid (∀ w,RdC b w A n c l (k+1)→Cz 131 #[pP b,iI 1,iI ((d:Int)+1)] w (PostC b w A n c l (.bad j er))):=zz HK;have b1:((d:Int)==64)=false:=by simp;omega
 have b2:((er:Int) != 0)=true:=by simp;omega
 have b3:(er != 0)=true:=by simp;omega
 clear HK he;go_enter Tryz.func178,Tryz.ntmps178;go_wp2_with (go_at_call 131;go_must ((with_reducible refine(K.out _ (H1.out _)).mono ?_);rintro e w2 ⟨hg2,rfl,hr2⟩;have HB:=zz (z61 _ hlt hg2);have hq:=HB.out.lt;obtain⟨d0,d1,d2,d3,d4,_⟩:=HB.out.box;obtain⟨e0,e1,e2,e3,e4⟩:=HB.out.box.freed;have HR:=zz hr2;clear hg2 hr2));obtain⟨W3,hW3⟩:∃ W3,W3=(put5 w2 w.heap.size (.int .i64 0) oZ oS oS ()).alloc zeroX:=⟨_,rfl⟩;have HE:EndR b w W3 A n c l j (.int .i64 0) oZ oS oS ():=z7y hlt HB.out.box HB.out.grown HR.out (by rw[hW3];exact z0b _ _);unfold put5 at hW3;rw[←hW3];clear hW3 d0 d1 d2 d3 d4;obtain⟨d0,d1,d2,d3,d4,_⟩:=HE.box;exact bodyPost_ret (v:= .tuple #[.agg #[oZ,oZ,oS,oS,()],er]) (by simp[results,Tryz.results178,go_sem,d0,d1,d2,d3,d4]) rfl ⟨HE.grown,rfl,HE.rd⟩
structure MidR (b:Nat) (w w2 W:World) (A:OA) (n c:Nat) (l:List Tok) (j:Nat) (x:Ex) (A2:OA) (c2:Nat):Prop where
 box:Box5 W w.heap.size (.int .i64 0) oZ oS oS ()
 box2:Box5 W w2.heap.size (.int .i64 x.kind) (.int .i64 x.n) (.string ⟨x.name.toArray⟩) (.string ⟨x.op.toArray⟩) (.slice A2 x.kids.length c2)
 grown:w.grownBy W (some b)
 rd:RdC b W A n c l j
 kids:KidsX (FrX (w.heap.size+1) w2.heap.size) W A2 x
 lt:w.heap.size<w2.heap.size
 lt2:w2.heap.size<W.heap.size
theorem y7p {b:Nat} {w w1 w2 W:World} {A:OA} {n c:Nat} {l:List Tok} {j:Nat} {x:Ex} {A2:OA} {c2:Nat} (h:BoxR b w w1 w2) (h1:w1.heap.size=w.heap.size+1) (hr:RdC b w2 A n c l j) (hk:KidsX (FrX w1.heap.size w2.heap.size) w2 A2 x)
  (hb:Below (w2.heap.size+1) (w2.alloc (.cells #[x.kind,x.n,x.name,x.op,.slice A2 x.kids.length c2] 38)) W):MidR b w w2 W A n c l j x A2 c2:=by
 have hs:(w2.alloc (.cells #[x.kind,x.n,x.name,x.op,.slice A2 x.kids.length c2] 38)).heap.size=w2.heap.size+1:=by simp
 rw[←hs] at hb;have hall:Below w2.heap.size w2 W:=(z0b _ _).trans (hb.mono (by omega));rw[h1] at hk;exact⟨h.box.low hall,(Box5.new w2 _ _ _ _ _ _).low hb,z0n h.grown (z0g hall),hr.low hall,hk.over fun k hk=>hall.block k hk.2,h.lt,by have:=hb.size;omega⟩
theorem sgB (l:List Tok) (j:Nat) (S:BA) (hS:S=⟨(sg l j).toArray⟩) (p:Bs) (b:Bool) (h:decide (sg l j=p)=b):(S.toList==p)=b∧(S.toList != p)= !b:=by
 have e:S.toList=sg l j:=by rw[toList_data,hS]
 rw[e,←h];by_cases hp:sg l j=p <;> simp[hp]
theorem y6o (b:Nat) (w:World) (A:OA) (n c:Nat) (l:List Tok) (k d:Nat) (h:RdC b w A n c l k) (hf:FitL l) (hkb:k≤1000000) (hd:d<64) (x:Ex) (j:Nat) (hj:j≤n) (hs:sg l j=[41]) (HK:ConRow b A n c l 1 (k+1) (d+1) (.ok x j)):
  Cz 178 #[pP b,d] w (PostC b w A n c l (.ok x (j+1))):=by
 have hlt:=h.lt;have hjb:j≤1000000:=by have:=h.row.1;have:=hf.len;omega
 have H1:Hid (∀ o,RdC b ((w.setCell ⟨b,1,none⟩ (.int .i64 ((k:Int)+1))).alloc o) A n c l (k+1)):=zz fun o=>(h.placez (k+1) _ (by omega)).box o
 obtain⟨c0,c1,f1,_,_⟩:=h;have K:Hid (∀ w,RdC b w A n c l (k+1)→Cz 131 #[pP b,iI 1,iI ((d:Int)+1)] w (PostC b w A n c l (.ok x j))):=zz HK;obtain⟨S,hS⟩:∃ S:BA,S=⟨(sg l j).toArray⟩:=⟨_,rfl⟩;have KS:Hid (∀ w,RdC b w A n c l j→Cz 155 #[pP b] w fun e w'=>e= .returned (.string S)∧Below w.heap.size w w'):=zz fun w h=>by rw[hS];exact z1c b w A n c l j h hf hj
 obtain⟨s1,s2⟩:=sgB l j S hS [41] true (by simp[hs]);have b1:((d:Int)==64)=false:=by simp;omega
 clear HK hS hs hf hj;go_enter Tryz.func178,Tryz.ntmps178;go_wp2_with (first | (go_at_call 131;go_must ((with_reducible refine(K.out _ (H1.out _)).mono ?_);rintro e w2 ⟨hg2,⟨A2,c2,rfl,hk2⟩,hr2⟩;have HB:=zz (z61 _ hlt hg2);have HR:=zz hr2;have HKD:=zz hk2;clear hg2 hr2 hk2)) | (go_at_call 155;go_must ((with_reducible refine(KS.out _ (HR.out.box _)).mono ?_);rintro e w3 ⟨rfl,hb3⟩;have HM:=zz (y7p HB.out (by simp) HR.out HKD.out (hb3.mono (by simp)));clear hb3;obtain⟨d0,d1,d2,d3,d4,_⟩:=HM.out.box;obtain⟨e0,e1,e2,e3,e4⟩:=HM.out.box.freed;obtain⟨g0,g1,g2,g3,g4,_⟩:=HM.out.box2;have hr0:=HM.out.rd.c0;have hr1:=HM.out.rd.c1;have hr2:=HM.out.rd.f1;have hl1:=HM.out.lt;have hl2:=HM.out.lt2)));obtain⟨W,hW⟩:∃ W,W=w3.setCell ⟨b,1,none⟩ (.int .i64 ((j:Int)+1)):=⟨_,rfl⟩;have hsW:W.heap.size=w3.heap.size:=by rw[hW];simp[World.setCell]
 have hbx:Box5 W w.heap.size (.int .i64 0) oZ oS oS ():=by rw[hW];exact HM.out.box.other (a:=⟨b,1,none⟩) (by show b≠w.heap.size;omega) _
 have hrd:RdC b W A n c l (j+1):=by rw[hW];exact HM.out.rd.placez (j+1) _ (by omega)
 have hgr:w.grownBy W (some b):=by rw[hW];exact z0n HM.out.grown (z01 b 1 _ _)
 have hkd:KidsX (FrX (w.heap.size+1) w2.heap.size) W A2 x:=by rw[hW];exact HM.out.kids.over fun k hk=>Below.heap_setCell _ _ _ _ (by have:=hk.1;show k≠b;omega)
 rw[←hW];obtain⟨W3,hW3⟩:∃ W3,W3=put5 W w.heap.size (.int .i64 x.kind) (.int .i64 x.n) (.string ⟨x.name.toArray⟩) (.string ⟨x.op.toArray⟩) (.slice A2 x.kids.length c2):=⟨_,rfl⟩;have HE:EndR b w W3 A n c l (j+1) (.int .i64 x.kind) (.int .i64 x.n) (.string ⟨x.name.toArray⟩) (.string ⟨x.op.toArray⟩) (.slice A2 x.kids.length c2):=z7y hlt hbx hgr hrd (by rw[hW3];exact Below.refl _ _)
 have hk3:KidsX (FrX w.heap.size W3.heap.size) W3 A2 x:=by
  rw[hW3];exact(hkd.put5 (fun hp=>by have:=hp.1;omega) _ _ _ _ _).to (by omega) (by rw[z0y,hsW];omega)
 unfold put5 at hW3;rw[←hW3];clear hW hW3 d0 d1 d2 d3 d4;obtain⟨d0,d1,d2,d3,d4,_⟩:=HE.box;exact bodyPost_ret (v:= .tuple #[.agg #[x.kind,x.n,x.name,x.op,.slice A2 x.kids.length c2],oZ]) (by simp[results,Tryz.results178,go_sem,d0,d1,d2,d3,d4]) rfl ⟨HE.grown,⟨_,_,rfl,hk3⟩,HE.rd⟩
theorem y59 (b:Nat) (w:World) (A:OA) (n c:Nat) (l:List Tok) (k d:Nat) (h:RdC b w A n c l k) (hf:FitL l) (hkb:k≤1000000) (hd:d<64) (x:Ex) (j:Nat) (hj:j≤n) (hs:sg l j≠[41]) (HK:ConRow b A n c l 1 (k+1) (d+1) (.ok x j)):
  Cz 178 #[pP b,d] w (PostC b w A n c l (.bad j 1)):=by
 have hlt:=h.lt;have H1:Hid (∀ o,RdC b ((w.setCell ⟨b,1,none⟩ (.int .i64 ((k:Int)+1))).alloc o) A n c l (k+1)):=zz fun o=>(h.placez (k+1) _ (by omega)).box o
 obtain⟨c0,c1,f1,_,_⟩:=h;have K:Hid (∀ w,RdC b w A n c l (k+1)→Cz 131 #[pP b,iI 1,iI ((d:Int)+1)] w (PostC b w A n c l (.ok x j))):=zz HK;obtain⟨S,hS⟩:∃ S:BA,S=⟨(sg l j).toArray⟩:=⟨_,rfl⟩;have KS:Hid (∀ w,RdC b w A n c l j→Cz 155 #[pP b] w fun e w'=>e= .returned (.string S)∧Below w.heap.size w w'):=zz fun w h=>by rw[hS];exact z1c b w A n c l j h hf hj
 obtain⟨s1,s2⟩:=sgB l j S hS [41] false (by simp[hs]);have b1:((d:Int)==64)=false:=by simp;omega
 clear HK hS hs hf hj;go_enter Tryz.func178,Tryz.ntmps178;go_wp2_with (first | (go_at_call 131;go_must ((with_reducible refine(K.out _ (H1.out _)).mono ?_);rintro e w2 ⟨hg2,⟨A2,c2,rfl,hk2⟩,hr2⟩;have HB:=zz (z61 _ hlt hg2);have HR:=zz hr2;have HKD:=zz hk2;clear hg2 hr2 hk2)) | (go_at_call 155;go_must ((with_reducible refine(KS.out _ (HR.out.box _)).mono ?_);rintro e w3 ⟨rfl,hb3⟩;have HM:=zz (y7p HB.out (by simp) HR.out HKD.out (hb3.mono (by simp)));clear hb3;obtain⟨d0,d1,d2,d3,d4,_⟩:=HM.out.box;obtain⟨e0,e1,e2,e3,e4⟩:=HM.out.box.freed;obtain⟨g0,g1,g2,g3,g4,_⟩:=HM.out.box2;have hr0:=HM.out.rd.c0;have hr1:=HM.out.rd.c1;have hr2:=HM.out.rd.f1;have hl1:=HM.out.lt;have hl2:=HM.out.lt2)));obtain⟨W3,hW3⟩:∃ W3,W3=put5 w3 w.heap.size (.int .i64 0) oZ oS oS ():=⟨_,rfl⟩;have HE:EndR b w W3 A n c l j (.int .i64 0) oZ oS oS ():=z7y hlt HM.out.box HM.out.grown HM.out.rd (by rw[hW3];exact Below.refl _ _);unfold put5 at hW3;rw[←hW3];clear hW3 d0 d1 d2 d3 d4;obtain⟨d0,d1,d2,d3,d4,_⟩:=HE.box;exact bodyPost_ret (v:= .tuple #[.agg #[oZ,oZ,oS,oS,()],iI 1]) (by simp[results,Tryz.results178,go_sem,d0,d1,d2,d3,d4]) rfl ⟨HE.grown,rfl,HE.rd⟩
structure EndQ (b q:Nat) (w W3:World) (A:OA) (n c:Nat) (l:List Tok) (j:Nat) (v0 v1 v2 v3 v4:Value):Prop where
 box:Box5 W3 q v0 v1 v2 v3 v4
 grown:w.grownBy W3 (some b)
 rd:RdC b W3 A n c l j
theorem end_q {b q:Nat} {w W W3:World} {A:OA} {n c:Nat} {l:List Tok} {j:Nat} {u0 u1 u2 u3 u4 v0 v1 v2 v3 v4:Value} (hb:b<q) (hq:w.heap.size≤q) (hx:Box5 W q u0 u1 u2 u3 u4) (hg:w.grownBy W (some b)) (hr:RdC b W A n c l j)
  (h3:Below (put5 W q v0 v1 v2 v3 v4).heap.size (put5 W q v0 v1 v2 v3 v4) W3):EndQ b q w W3 A n c l j v0 v1 v2 v3 v4:=
 ⟨(hx.put _ _ _ _ _).low h3,z0n (z2n hg hq _ _ _ _ _) (z0g h3),(hr.put5 hb _ _ _ _ _).low h3⟩
abbrev objX (x:Ex) (A:OA) (c:Nat):Obj:= .cells #[x.kind,x.n,x.name,x.op,.slice A x.kids.length c] 38
structure MidB (b:Nat) (P:Nat→Prop) (w W:World) (A:OA) (n c:Nat) (l:List Tok) (j:Nat) (x:Ex) (A0:OA) (c0:Nat):Prop where
 boxL:Box5 W w.heap.size (.int .i64 x.kind) (.int .i64 x.n) (.string ⟨x.name.toArray⟩) (.string ⟨x.op.toArray⟩) (.slice A0 x.kids.length c0)
 boxQ:Box5 W (w.heap.size+1) oZ oZ oS oS ()
 grown:w.grownBy W (some b)
 rd:RdC b W A n c l j
 kids:KidsX P W A0 x
 size:w.heap.size+2≤W.heap.size
theorem MidB.first {b:Nat} {P:Nat→Prop} {w W:World} {A:OA} {n c:Nat} {l:List Tok} {k:Nat} {x:Ex} {A0:OA} {c0:Nat} (hr:RdC b w A n c l k) (hk:KidsX P w A0 x) (hP:∀ q,P q→q<w.heap.size∧q≠b) (hb:Below ((w.alloc (objX x A0 c0)).alloc zeroX).heap.size ((w.alloc (objX x A0 c0)).alloc zeroX) W):MidB b P w W A n c l k x A0 c0:=by
 have hs:(w.alloc (objX x A0 c0)).heap.size=w.heap.size+1:=by simp
 have hs2:((w.alloc (objX x A0 c0)).alloc zeroX).heap.size=w.heap.size+2:=by simp
 have h0:Below w.heap.size w W:=(z0a w _ _).trans (hb.mono (by omega));have h1:=Box5.new (w.alloc (objX x A0 c0)) 38 (.int .i64 0) oZ oS oS ();rw[hs] at h1;exact⟨((Box5.new w _ _ _ _ _ _).low (z0b _ _)).low hb,h1.low hb,z0g h0,hr.low h0,hk.over fun q hq=>h0.block q (hP q hq).1,by have:=hb.size;omega⟩
theorem MidB.more {b:Nat} {P:Nat→Prop} {w W W':World} {A:OA} {n c:Nat} {l:List Tok} {k j:Nat} {x:Ex} {A0:OA} {c0:Nat} (h:MidB b P w W A n c l k x A0 c0) (hlt:b<w.heap.size) (hP:∀ q,P q→q<w.heap.size∧q≠b) (hg:W.grownBy W' (some b)) (hr:RdC b W' A n c l j):MidB b P w W' A n c l j x A0 c0:=
 ⟨h.boxL.grown hg (by omega),h.boxQ.grown hg (by omega),z0n h.grown hg,hr,h.kids.grownX hg fun q hq=>⟨by have:=(hP q hq).1;have:=h.size;omega,(hP q hq).2⟩,by have:=h.size;have:=hg.size;omega⟩
theorem x5n {l:List Tok} (hf:FitL l) (k:Nat):(sg l k).length≤100000:=by
 unfold sg
 cases hl:l[k]? with
 | none=>simp
 | some t=>
   have:=(hf.fit t (List.mem_of_getElem? hl)).word;dsimp only
   split
   ·exact this
   ·simp
def PostB (b:Nat) (P:Nat→Prop) (w:World) (A:OA) (n c:Nat) (l:List Tok) (r:Rs) (e:Ending) (w':World):Prop:=w.grownBy w' (some b)∧match r with
 | .ok x j=>(∃ A' c',e= .returned (.tuple #[.agg #[x.kind,x.n,x.name,x.op,.slice A' x.kids.length c'],oZ])∧KidsX (fun q=>P q∨FrX w.heap.size w'.heap.size q) w' A' x)∧RdC b w' A n c l j
 | .bad j er=>e= .returned (.tuple #[.agg #[oZ,oZ,oS,oS,()],er])∧RdC b w' A n c l j
theorem y3f (b:Nat) (P:Nat→Prop) (w:World) (A:OA) (n c:Nat) (l:List Tok) (k:Nat) (h:RdC b w A n c l k) (hf:FitL l) (hk:k≤n) (x:Ex) (A0:OA) (c0:Nat) (hx:KidsX P w A0 x) (hP:∀ q,P q→q<w.heap.size∧q≠b):
  Cz 156 #[pP b,.agg #[x.kind,x.n,x.name,x.op,.slice A0 x.kids.length c0],iI 64] w (PostB b P w A n c l (.bad k 8)):=by
 have hlt:=h.lt;obtain⟨S,hS⟩:∃ S:BA,S=⟨(sg l k).toArray⟩:=⟨_,rfl⟩;have KS:Hid (∀ w,RdC b w A n c l k→Cz 155 #[pP b] w fun e w'=>e= .returned (.string S)∧Below w.heap.size w w'):=zz fun w h=>by rw[hS];exact z1c b w A n c l k h hf hk
 have HM0:Hid (∀ W,Below ((w.alloc (objX x A0 c0)).alloc zeroX).heap.size ((w.alloc (objX x A0 c0)).alloc zeroX) W→MidB b P w W A n c l k x A0 c0):=zz fun W hb=>MidB.first h hx hP hb
 have H1:=zz (HM0.out _ bR).rd;clear h hf hk hx hS;go_enter Tryz.func156,Tryz.ntmps156;go_wp2_with (go_at_call 155;go_must ((with_reducible refine(KS.out _ H1.out).mono ?_);rintro e w1 ⟨rfl,hb1⟩;have HM:=zz (HM0.out _ hb1);clear hb1;obtain⟨d0,d1,d2,d3,d4,_⟩:=HM.out.boxQ;obtain⟨e0,e1,e2,e3,e4⟩:=HM.out.boxQ.freed;have hsz:=HM.out.size));obtain⟨W3,hW3⟩:∃ W3,W3=put5 w1 (w.heap.size+1) oZ oZ oS oS ():=⟨_,rfl⟩;have HE:EndQ b (w.heap.size+1) w W3 A n c l k (.int .i64 0) oZ oS oS ():=end_q (by omega) (by omega) HM.out.boxQ HM.out.grown HM.out.rd (by rw[hW3];exact Below.refl _ _);unfold put5 at hW3;rw[←hW3];clear hW3 d0 d1 d2 d3 d4;obtain⟨d0,d1,d2,d3,d4,_⟩:=HE.box;exact bodyPost_ret (v:= .tuple #[.agg #[oZ,oZ,oS,oS,()],iI 8]) (by simp[results,Tryz.results156,go_sem,d0,d1,d2,d3,d4]) rfl ⟨HE.grown,rfl,HE.rd⟩
theorem z0j (w:World) (o:Obj):(w.alloc o).heap.size=w.heap.size+1:=by simp
abbrev objXY (x y:Ex) (A A':OA) (c c':Nat):Obj:= .cells #[x.kind,x.n,x.name,x.op,.slice A x.kids.length c,y.kind,y.n,y.name,y.op,.slice A' y.kids.length c'] 38
structure EndB (b:Nat) (P:Nat→Prop) (w W3:World) (A:OA) (n c:Nat) (l:List Tok) (j:Nat) (op:Bs) (x y:Ex) (g:Nat):Prop where
 fin:EndQ b (w.heap.size+1) w W3 A n c l j (.int .i64 4) oZ oS (.string ⟨op.toArray⟩) (.slice (some ⟨g,0,none⟩) 2 2)
 kids:KidsX (fun q=>P q∨FrX w.heap.size W3.heap.size q) W3 (some ⟨g,0,none⟩) (exBin op x y)
theorem x0a {b:Nat} {P:Nat→Prop} {w W2 w5 W3:World} {A:OA} {n c:Nat} {l:List Tok} {j:Nat} {op:Bs} {x y:Ex} {A0 A2:OA} {c0 c2 s2:Nat} (hlt:b<w.heap.size) (hP:∀ q,P q→q<w.heap.size∧q≠b) (h:MidB b P w W2 A n c l j x A0 c0) (hy:KidsX (FrX (w.heap.size+2) s2) W2 A2 y)
  (hs:W2.heap.size=s2+1) (h5:Below W2.heap.size W2 w5)
  (h3:W3=(put5 w5 (w.heap.size+1) (.int .i64 4) oZ oS (.string ⟨op.toArray⟩) (.slice (some ⟨w5.heap.size,0,none⟩) 2 2)).alloc (objXY x y A0 A2 c0 c2)):EndB b P w W3 A n c l j op x y w5.heap.size:=by
 have hm:=h.more hlt hP (z0g h5) (h.rd.low h5);have hsz:=h5.size;have hsm:=h.size;refine⟨end_q (by omega) (by omega) hm.boxQ hm.grown hm.rd (by rw[h3];exact z0b _ _),?_⟩
 have hPP:∀ q,(P q∨FrX (w.heap.size+2) s2 q)→q<w5.heap.size∧q≠w.heap.size+1:=fun q hq=>by
  rcases hq with hq | hq
  ·have:=(hP q hq).1;omega
  ·have:=hq.1;have:=hq.2;omega
 have k1:KidsX (fun q=>P q∨FrX (w.heap.size+2) s2 q) w5 A0 x:=hm.kids.wide fun _ hq=> .inl hq
 have k2:KidsX (fun q=>P q∨FrX (w.heap.size+2) s2 q) w5 A2 y:=(hy.over fun q hq=>h5.block q (by have:=hq.2;omega)).wide fun _ hq=> .inr hq
 have k3:=y3d (c:=c0) (c':=c2) (k1.put5 (c:=w.heap.size+1) (fun hq=>(hPP _ hq).2 rfl) (.int .i64 4) oZ oS (.string ⟨op.toArray⟩) (.slice (some ⟨w5.heap.size,0,none⟩) 2 2)) (k2.put5 (c:=w.heap.size+1) (fun hq=>(hPP _ hq).2 rfl) _ _ _ _ _) (fun q hq=>by rw[z0y];exact(hPP q hq).1) 4 0 [] op;rw[z0y,←h3] at k3;have hs3:W3.heap.size=w5.heap.size+1:=by rw[h3];simp
 exact k3.wide fun q hq=>by
  rw[hs3]
  rcases hq with (hq | hq) | hq
  ·exact .inl hq
  ·exact .inr ⟨by have:=hq.1;omega,by have:=hq.2;omega⟩
  ·exact .inr ⟨by omega,by omega⟩
theorem y51 {b:Nat} {P:Nat→Prop} {w W2 w5 W3:World} {A:OA} {n c:Nat} {l:List Tok} {j:Nat} {op:Bs} {x y:Ex} {A0 A2:OA} {c0 c2 s2:Nat} (hlt:b<w.heap.size) (hP:∀ q,P q→q<w.heap.size∧q≠b) (h:MidB b P w W2 A n c l j x A0 c0) (hy:KidsX (FrX (w.heap.size+2) s2) W2 A2 y)
  (hs:W2.heap.size=s2+1) (h5:Below (W2.drew.alloc (objXY x y A0 A2 c0 c2)).heap.size (W2.drew.alloc (objXY x y A0 A2 c0 c2)) w5)
  (h3:W3=put5 w5 (w.heap.size+1) (.int .i64 4) oZ oS (.string ⟨op.toArray⟩) (.slice (some ⟨s2+1,0,none⟩) 2 2)):EndB b P w W3 A n c l j op x y (s2+1):=by
 have hrs:(W2.drew.alloc (objXY x y A0 A2 c0 c2)).heap.size=s2+2:=by rw[z0j];show W2.heap.size+1=_;rw[hs]
 have h0:Below W2.heap.size W2 w5:=((Below.refl W2.heap.size W2).drew.alloc (Nat.le_refl W2.heap.size) _).trans (h5.mono (by omega));have hm:=h.more hlt hP (z0g h0) (h.rd.low h0);have hsz:=h5.size;have hsm:=h.size;refine⟨end_q (by omega) (by omega) hm.boxQ hm.grown hm.rd (by rw[h3];exact Below.refl _ _),?_⟩;have k1:KidsX (fun q=>P q∨FrX (w.heap.size+2) s2 q) W2.drew A0 x:=(h.kids.over (w':=W2.drew) (fun _ _=>rfl)).wide fun _ hq=>Or.inl hq
 have k2:KidsX (fun q=>P q∨FrX (w.heap.size+2) s2 q) W2.drew A2 y:=(hy.over (w':=W2.drew) (fun _ _=>rfl)).wide fun _ hq=>Or.inr hq
 have hds:W2.drew.heap.size=s2+1:=hs
 have hPP:∀ q,(P q∨FrX (w.heap.size+2) s2 q)→q<W2.drew.heap.size:=fun q hq=>by
  rcases hq with hq | hq
  ·have:=(hP q hq).1;omega
  ·have:=hq.2;omega
 have k3:=y3d (c:=c0) (c':=c2) k1 k2 hPP 4 0 [] op;rw[hds] at k3
 have k4:=(k3.over (w':=w5) fun q hq=>h5.block q (by
  rw[hrs]
  rcases hq with hq | hq
  ·have:=hPP q hq;omega
  ·omega)).put5 (c:=w.heap.size+1) (fun hq=>by
   rcases hq with (hq | hq) | hq
   ·have:=(hP _ hq).1;omega
   ·have:=hq.1;omega
   ·omega) (.int .i64 4) oZ oS (.string ⟨op.toArray⟩) (.slice (some ⟨s2+1,0,none⟩) 2 2)
 have hs3:W3.heap.size=w5.heap.size:=by rw[h3,z0y]
 rw[←h3] at k4
 exact k4.wide fun q hq=>by
  rw[hs3]
  rcases hq with (hq | hq) | hq
  ·exact .inl hq
  ·exact .inr ⟨by have:=hq.1;omega,by have:=hq.2;omega⟩
  ·exact .inr ⟨by omega,by omega⟩
theorem y6e (b:Nat) (P:Nat→Prop) (w:World) (A:OA) (n c:Nat) (l:List Tok) (k d:Nat) (h:RdC b w A n c l k) (hf:FitL l) (hk:k≤n) (hd:d<64) (x:Ex) (A0:OA) (c0:Nat) (hx:KidsX P w A0 x) (hP:∀ q,P q→q<w.heap.size∧q≠b) (j er:Nat) (he:er≠0) (HK:ConRow b A n c l (strong (sg l k)+1) (k+1) (d+1) (.bad j er)):
  Cz 156 #[pP b,.agg #[x.kind,x.n,x.name,x.op,.slice A0 x.kids.length c0],d] w (PostB b P w A n c l (.bad j er)):=by
 have hlt:=h.lt;have hkb:k≤1000000:=by have:=h.row.1;have:=hf.len;omega
 obtain⟨S,hS⟩:∃ S:BA,S=⟨(sg l k).toArray⟩:=⟨_,rfl⟩;have KS:Hid (∀ w,RdC b w A n c l k→Cz 155 #[pP b] w fun e w'=>e= .returned (.string S)∧Below w.heap.size w w'):=zz fun w h=>by rw[hS];exact z1c b w A n c l k h hf hk
 have eS:S.data.toList=sg l k:=by rw[hS]
 have KT:Hid (∀ w,Cz 154 #[S] w fun e w'=>e= .returned (.int .i64 (strong (sg l k)))∧w=w'):=zz fun w=>by rw[←eS];exact z3o S w
 have hmx:=z4t (sg l k);have HM0:Hid (∀ W,Below ((w.alloc (objX x A0 c0)).alloc zeroX).heap.size ((w.alloc (objX x A0 c0)).alloc zeroX) W→MidB b P w W A n c l k x A0 c0):=zz fun W hb=>MidB.first h hx hP hb
 have H1:=zz (HM0.out _ bR).rd;have HPP:=zz hP;have b1:((d:Int)==64)=false:=by simp;omega
 have K:Hid (∀ w,RdC b w A n c l (k+1)→Cz 131 #[pP b,iI (((strong (sg l k):Nat):Int)+1),iI ((d:Int)+1)] w (PostC b w A n c l (.bad j er))):=zz HK;have b2:((er:Int) != 0)=true:=by simp;omega
 have b3:(er != 0)=true:=by simp;omega
 generalize strong (sg l k)=m at KT K hmx;clear HK he h hf hk hx hS eS hP;go_enter Tryz.func156,Tryz.ntmps156;go_wp2_with (first | (go_at_call 155;go_must ((with_reducible refine(KS.out _ H1.out).mono ?_);rintro e w1 ⟨rfl,hb1⟩;have HM:=zz (HM0.out _ hb1);clear hb1;have HM1:=zz (HM.out.more hlt HPP.out (z01 b 1 _ (.int .i64 ((k:Int)+1))) (HM.out.rd.placez (k+1) _ (by omega)));have hr0:=HM.out.rd.c0;have hr1:=HM.out.rd.c1;have hr2:=HM.out.rd.f1)) | (go_at_call 154;go_must ((with_reducible refine(KT.out _).mono ?_);rintro e w' ⟨rfl,rfl⟩)) | (go_at_call 131;go_must ((with_reducible refine(K.out _ HM1.out.rd).mono ?_);rintro e w2 ⟨hg2,rfl,hr2⟩;have HM2:=zz (HM1.out.more hlt HPP.out hg2 hr2);clear hg2;obtain⟨d0,d1,d2,d3,d4,_⟩:=HM2.out.boxQ;obtain⟨e0,e1,e2,e3,e4⟩:=HM2.out.boxQ.freed;have hsz:w.heap.size+1<w2.heap.size:=HM2.out.size)));obtain⟨W3,hW3⟩:∃ W3,W3=(put5 w2 (w.heap.size+1) oZ oZ oS oS ()).alloc zeroX:=⟨_,rfl⟩;have HE:EndQ b (w.heap.size+1) w W3 A n c l j (.int .i64 0) oZ oS oS ():=end_q (by omega) (by omega) HM2.out.boxQ HM2.out.grown HM2.out.rd (by rw[hW3];exact z0b _ _);rw[←hW3];clear hW3 d0 d1 d2 d3 d4;obtain⟨d0,d1,d2,d3,d4,_⟩:=HE.box;exact bodyPost_ret (v:= .tuple #[.agg #[oZ,oZ,oS,oS,()],er]) (by simp[results,Tryz.results156,go_sem,d0,d1,d2,d3,d4]) rfl ⟨HE.grown,rfl,HE.rd⟩
theorem x0k (b:Nat) (P:Nat→Prop) (w:World) (A:OA) (n c:Nat) (l:List Tok) (k d:Nat) (h:RdC b w A n c l k) (hf:FitL l) (hk:k≤n) (hd:d<64) (x:Ex) (A0:OA) (c0:Nat) (hx:KidsX P w A0 x) (hP:∀ q,P q→q<w.heap.size∧q≠b) (y:Ex) (j:Nat) (HK:ConRow b A n c l (strong (sg l k)+1) (k+1) (d+1) (.ok y j)):
  Cz 156 #[pP b,.agg #[x.kind,x.n,x.name,x.op,.slice A0 x.kids.length c0],d] w (PostB b P w A n c l (.ok (exBin (sg l k) x y) j)):=by
 have hlt:=h.lt;have hkb:k≤1000000:=by have:=h.row.1;have:=hf.len;omega
 obtain⟨S,hS⟩:∃ S:BA,S=⟨(sg l k).toArray⟩:=⟨_,rfl⟩;have KS:Hid (∀ w,RdC b w A n c l k→Cz 155 #[pP b] w fun e w'=>e= .returned (.string S)∧Below w.heap.size w w'):=zz fun w h=>by rw[hS];exact z1c b w A n c l k h hf hk
 have eS:S.data.toList=sg l k:=by rw[hS]
 have KT:Hid (∀ w,Cz 154 #[S] w fun e w'=>e= .returned (.int .i64 (strong (sg l k)))∧w=w'):=zz fun w=>by rw[←eS];exact z3o S w
 have hmx:=z4t (sg l k);have HM0:Hid (∀ W,Below ((w.alloc (objX x A0 c0)).alloc zeroX).heap.size ((w.alloc (objX x A0 c0)).alloc zeroX) W→MidB b P w W A n c l k x A0 c0):=zz fun W hb=>MidB.first h hx hP hb
 have H1:=zz (HM0.out _ bR).rd;have HPP:=zz hP;have b1:((d:Int)==64)=false:=by simp;omega
 have K:Hid (∀ w,RdC b w A n c l (k+1)→Cz 131 #[pP b,iI (((strong (sg l k):Nat):Int)+1),iI ((d:Int)+1)] w (PostC b w A n c l (.ok y j))):=zz HK
 have hSz:S.size≤281474976710656:=by
  rw[←z0d,eS];have:=x5n hf k;omega
 have KC:=zz fun w=>z57 S hSz w
 generalize strong (sg l k)=m at KT K hmx;have HSS:=zz hS;clear HK h hf hk hx eS hP hSz hS;go_enter Tryz.func156,Tryz.ntmps156;go_wp2_with (first | (go_at_call 155;go_must ((with_reducible refine(KS.out _ H1.out).mono ?_);rintro e w1 ⟨rfl,hb1⟩;have HM:=zz (HM0.out _ hb1);clear hb1;have HM1:=zz (HM.out.more hlt HPP.out (z01 b 1 _ (.int .i64 ((k:Int)+1))) (HM.out.rd.placez (k+1) _ (by omega)));have hr0:=HM.out.rd.c0;have hr1:=HM.out.rd.c1;have hr2:=HM.out.rd.f1)) | (go_at_call 154;go_must ((with_reducible refine(KT.out _).mono ?_);rintro e w' ⟨rfl,rfl⟩)) | (go_at_call 131;go_must ((with_reducible refine(K.out _ HM1.out.rd).mono ?_);rintro e w2 ⟨hg2,⟨A2,c2,rfl,hk2⟩,hr2⟩;have HM2:=zz (HM1.out.more hlt HPP.out hg2 hr2);have HKD:=zz hk2;have HS1:=zz HM1.out.size;clear hg2 hr2 hk2;have hsz:w.heap.size+1<w2.heap.size:=HM2.out.size;have hsz0:w.heap.size<w2.heap.size:=(by omega))));obtain⟨W2,hW2⟩:∃ W2,W2=w2.alloc (objX y A2 c2):=⟨_,rfl⟩;have HMY:=zz (HM2.out.more (W':=W2) hlt HPP.out (by rw[hW2];exact z0g (z0b _ _)) (by rw[hW2];exact HM2.out.rd.box _));have HBR:=zz (show Box5 W2 w2.heap.size (.int .i64 y.kind) (.int .i64 y.n) (.string ⟨y.name.toArray⟩) (.string ⟨y.op.toArray⟩) (.slice A2 y.kids.length c2) by rw[hW2];exact Box5.new w2 _ _ _ _ _ _);have hs2:W2.heap.size=w2.heap.size+1:=by rw[hW2];simp
 have HKY:=zz (show KidsX (FrX (w.heap.size+2) w2.heap.size) W2 A2 y by
  rw[hW2];exact(HKD.out.to (by have:=HS1.out;simp[World.setCell] at this ⊢;omega) nR).allocX (fun q hq=>hq.2) _)
 rw[←hW2];clear hW2
 have HL:Hid (∀ W',Below W2.heap.size W2 W'→(W'.cell? ⟨w.heap.size,0,none⟩=some (.int .i64 x.kind)∧W'.cell? ⟨w.heap.size,1,none⟩=some (.int .i64 x.n)∧W'.cell? ⟨w.heap.size,2,none⟩=some (.string ⟨x.name.toArray⟩)∧W'.cell? ⟨w.heap.size,3,none⟩=some (.string ⟨x.op.toArray⟩)∧W'.cell? ⟨w.heap.size,4,none⟩=some (.slice A0 x.kids.length c0))∧
   W'.cell? ⟨w2.heap.size,0,none⟩=some (.int .i64 y.kind)∧W'.cell? ⟨w2.heap.size,1,none⟩=some (.int .i64 y.n)∧W'.cell? ⟨w2.heap.size,2,none⟩=some (.string ⟨y.name.toArray⟩)∧W'.cell? ⟨w2.heap.size,3,none⟩=some (.string ⟨y.op.toArray⟩)∧W'.cell? ⟨w2.heap.size,4,none⟩=some (.slice A2 y.kids.length c2)):=zz fun W' hb=>by
  have h1:=HMY.out.boxL.low hb;have h2:=HBR.out.low hb;exact⟨⟨h1.c0,h1.c1,h1.c2,h1.c3,h1.c4⟩,h2.c0,h2.c1,h2.c2,h2.c3,h2.c4⟩
 obtain⟨⟨l0,l1,l2,l3,l4⟩,r0,r1,r2,r3,r4⟩:=HL.out _ bR;have n1:w.heap.size+1≠w.heap.size:=by omega
 have n2:w.heap.size+1≠w2.heap.size:=by omega
 go_region_held3 (fun W'=>(W'.cell? ⟨w.heap.size,0,none⟩=some (.int .i64 x.kind)∧W'.cell? ⟨w.heap.size,1,none⟩=some (.int .i64 x.n)∧W'.cell? ⟨w.heap.size,2,none⟩=some (.string ⟨x.name.toArray⟩)∧W'.cell? ⟨w.heap.size,3,none⟩=some (.string ⟨x.op.toArray⟩)∧W'.cell? ⟨w.heap.size,4,none⟩=some (.slice A0 x.kids.length c0))∧
   W'.cell? ⟨w2.heap.size,0,none⟩=some (.int .i64 y.kind)∧W'.cell? ⟨w2.heap.size,1,none⟩=some (.int .i64 y.n)∧W'.cell? ⟨w2.heap.size,2,none⟩=some (.string ⟨y.name.toArray⟩)∧W'.cell? ⟨w2.heap.size,3,none⟩=some (.string ⟨y.op.toArray⟩)∧W'.cell? ⟨w2.heap.size,4,none⟩=some (.slice A2 y.kids.length c2))
  (first | (with_reducible exact⟨⟨l0,l1,l2,l3,l4⟩,r0,r1,r2,r3,r4⟩) | (simp only[World.cell?_drew,World.cell?_setCell_far,World.cell?_alloc_some,n1,n2,l0,l1,l2,l3,l4,r0,r1,r2,r3,r4,ne_eq,not_false_eq_true,Option.isSome_some,and_self]))
  (first | (go_at_call 89;((with_reducible refine(KC.out _).mono ?_));rintro e w5 ⟨rfl,hb5⟩;have HB5:Hid (Below W2.heap.size W2 w5):=(by first | exact zz ((bR.drew).trans hb5) | exact zz (((bR.drew).alloc nR _).trans (hb5.mono (by simp))));obtain⟨⟨l0,l1,l2,l3,l4⟩,r0,r1,r2,r3,r4⟩:=HL.out _ HB5.out;obtain⟨d0,d1,d2,d3,d4,_⟩:=HMY.out.boxQ.low HB5.out;obtain⟨e0,e1,e2,e3,e4⟩:=(HMY.out.boxQ.low HB5.out).freed;have hq5:w.heap.size+1<w5.heap.size:=(by have:=HB5.out.size;omega)))
 ·obtain⟨W3,hW3⟩:∃ W3,W3=(put5 w5 (w.heap.size+1) (.int .i64 4) oZ oS (.string S) (.slice (some ⟨w5.heap.size,0,none⟩) 2 2)).alloc (objXY x y A0 A2 c0 c2):=⟨_,rfl⟩
  have HE:=zz (x0a (op:=sg l k) (W3:=W3) (c2:=c2) hlt HPP.out HMY.out HKY.out hs2 HB5.out (by rw[hW3,HSS.out]));rw[←hW3];clear hW3 d0 d1 d2 d3 d4;go_wp2;obtain⟨d0,d1,d2,d3,d4,_⟩:=HE.out.fin.box;rw[←HSS.out] at d3;exact bodyPost_ret (v:= .tuple #[.agg #[iI 4,oZ,oS,S,.slice (some ⟨w5.heap.size,0,none⟩) 2 2],oZ]) (by simp[results,Tryz.results156,go_sem,d0,d1,d2,d3,d4]) rfl ⟨HE.out.fin.grown,⟨⟨_,2,by rw[HSS.out];rfl,HE.out.kids⟩,HE.out.fin.rd⟩⟩
 ·obtain⟨W3,hW3⟩:∃ W3,W3=put5 w5 (w.heap.size+1) (.int .i64 4) oZ oS (.string S) (.slice (some ⟨w2.heap.size+1,0,none⟩) 2 2):=⟨_,rfl⟩
  have HE:=zz (y51 (op:=sg l k) (W3:=W3) hlt HPP.out HMY.out HKY.out hs2 hb5 (by rw[hW3,HSS.out]));unfold put5 at hW3;rw[←hW3];clear hW3 d0 d1 d2 d3 d4;go_wp2;obtain⟨d0,d1,d2,d3,d4,_⟩:=HE.out.fin.box;rw[←HSS.out] at d3;exact bodyPost_ret (v:= .tuple #[.agg #[iI 4,oZ,oS,S,.slice (some ⟨w2.heap.size+1,0,none⟩) 2 2],oZ]) (by simp[results,Tryz.results156,go_sem,d0,d1,d2,d3,d4]) rfl ⟨HE.out.fin.grown,⟨⟨_,2,by rw[HSS.out];rfl,HE.out.kids⟩,HE.out.fin.rd⟩⟩
structure MidO (b:Nat) (w W:World) (A:OA) (n c:Nat) (l:List Tok) (j:Nat):Prop where
 boxQ:Box5 W w.heap.size (.int .i64 0) oZ oS oS ()
 grown:w.grownBy W (some b)
 rd:RdC b W A n c l j
 size:w.heap.size+1≤W.heap.size
theorem MidO.first {b:Nat} {w W:World} {A:OA} {n c:Nat} {l:List Tok} {k:Nat} (hr:RdC b w A n c l k) (hb:Below (w.alloc zeroX).heap.size (w.alloc zeroX) W):MidO b w W A n c l k:=by
 have hs:(w.alloc zeroX).heap.size=w.heap.size+1:=z0j _ _;have h0:Below w.heap.size w W:=(z0b w _).trans (hb.mono (by omega));exact⟨(Box5.new w _ _ _ _ _ _).low hb,z0g h0,hr.low h0,by have:=hb.size;omega⟩
theorem MidO.more {b:Nat} {w W W':World} {A:OA} {n c:Nat} {l:List Tok} {k j:Nat} (h:MidO b w W A n c l k) (hlt:b<w.heap.size) (hg:W.grownBy W' (some b)) (hr:RdC b W' A n c l j):MidO b w W' A n c l j:=
 ⟨h.boxQ.grown hg (by omega),z0n h.grown hg,hr,by have:=h.size;have:=hg.size;omega⟩
theorem MidO.low {b:Nat} {w W W':World} {A:OA} {n c:Nat} {l:List Tok} {k:Nat} (h:MidO b w W A n c l k) (hlt:b<w.heap.size) (hb:Below W.heap.size W W'):MidO b w W' A n c l k:=h.more hlt (z0g hb) (h.rd.low hb)
theorem PostC.form {b:Nat} {w w':World} {A:OA} {n c:Nat} {l:List Tok} {r:Rs} {e:Ending} (h:PostC b w A n c l r e w'):∃ (v0 v1:Int) (v2 v3:BA) (A4:OA) (n4 c4:Nat) (er:Nat),e= .returned (.tuple #[.agg #[v0,v1,v2,v3,.slice A4 n4 c4],er])∧Hid (PostC b w A n c l r (.returned (.tuple #[.agg #[v0,v1,v2,v3,.slice A4 n4 c4],er])) w'):=by
 cases r with
 | ok x j=>
   have h0:=h;obtain⟨hg,⟨A',c',rfl,hk⟩,hr⟩:=h;exact⟨_,_,_,_,_,_,_,0,rfl,zz h0⟩
 | bad j er=>
   have h0:=h;obtain⟨hg,rfl,hr⟩:=h;exact⟨_,_,_,_,_,_,_,er,rfl,zz h0⟩
theorem z8x {b:Nat} {w w1 w2 W3:World} {A:OA} {n c:Nat} {l:List Tok} {r:Rs} {v v0 v1 v2 v3 v4:Value} (h:PostC b w1 A n c l r (.returned v) w2) (hlt:b<w.heap.size) (hw:w.grownBy w1 (some b)) (hs:w.heap.size+1≤w1.heap.size)
  (h3:W3=put5 w2 w.heap.size v0 v1 v2 v3 v4):PostC b w A n c l r (.returned v) W3:=by
 have hs3:W3.heap.size=w2.heap.size:=by rw[h3,z0y]
 have hg3:w1.grownBy w2 (some b)→w.grownBy W3 (some b):=fun hg=>by rw[h3];exact z2n (z0n hw hg) nR _ _ _ _ _
 cases r with
 | ok x j=>
   obtain⟨hg,⟨A',c',he,hk⟩,hr⟩:=h;refine⟨hg3 hg,⟨A',c',he,?_⟩,by rw[h3];exact hr.put5 hlt _ _ _ _ _⟩;rw[hs3,h3];exact(hk.put5 (fun hq=>by have:=hq.1;omega) _ _ _ _ _).to (by omega) nR
 | bad j er=>
   obtain⟨hg,he,hr⟩:=h;exact⟨hg3 hg,he,by rw[h3];exact hr.put5 hlt _ _ _ _ _⟩
theorem y3c (b:Nat) (w:World) (A:OA) (n c:Nat) (l:List Tok) (k d:Nat) (h:RdC b w A n c l k) (hf:FitL l) (hk:k≤n) (t:Tok) (ht:nxt l k=t) (h2:t.kind=2):
  Cz 153 #[pP b,d] w (PostC b w A n c l (.ok (exNum t.n) (k+1))):=by
 have hlt:=h.lt;have hkb:k≤1000000:=by have:=h.row.1;have:=hf.len;omega
 have HM0:Hid (∀ W,Below (w.alloc zeroX).heap.size (w.alloc zeroX) W→MidO b w W A n c l k):=zz fun W hb=>MidO.first h hb
 have KN:Hid (∀ w,RdC b w A n c l k→Cz 176 #[pP b] w (NextP w t)):=zz fun w h=>by rw[←ht];exact z4b b w A n c l k h hf hk
 have H1:=zz (HM0.out _ bR).rd;unfold NextP at KN;rw[h2] at KN;clear h hf hk ht h2;go_enter Tryz.func153,Tryz.ntmps153;go_wp2_with (go_at_call 176;go_must ((with_reducible refine(KN.out _ H1.out).mono ?_);rintro e w1 ⟨A1,c1,rfl,hb1⟩;have HM:=zz (HM0.out _ hb1);clear hb1;obtain⟨d0,d1,d2,d3,d4,_⟩:=HM.out.boxQ;obtain⟨e0,e1,e2,e3,e4⟩:=HM.out.boxQ.freed;have hsz:w.heap.size<w1.heap.size:=HM.out.size;have hr0:=HM.out.rd.c0;have hr1:=HM.out.rd.c1;have hr2:=HM.out.rd.f1;have hl1:=HM.out.rd.lt));obtain⟨W,hW⟩:∃ W,W=w1.setCell ⟨b,1,none⟩ (.int .i64 ((k:Int)+1)):=⟨_,rfl⟩;have hm:MidO b w W A n c l (k+1):=by rw[hW];exact HM.out.more hlt (z01 b 1 _ _) (HM.out.rd.placez (k+1) _ (by omega))
 obtain⟨W3,hW3⟩:∃ W3,W3=(put5 W w.heap.size (.int .i64 0) (.int .i64 t.n) oS oS ()).alloc (.cells #[iI 2,t.word,t.n,.slice A1 t.parts.length c1,t.pl] 53):=⟨_,rfl⟩;have HE:EndQ b w.heap.size w W3 A n c l (k+1) oZ (.int .i64 t.n) oS oS ():=end_q hlt nR hm.boxQ hm.grown hm.rd (by rw[hW3];exact z0b _ _);rw[←hW,←hW3];clear hW hW3 d0 d1 d2 d3 d4;obtain⟨d0,d1,d2,d3,d4,_⟩:=HE.box;exact bodyPost_ret (v:= .tuple #[.agg #[oZ,t.n,oS,oS,()],oZ]) (by simp[results,Tryz.results153,go_sem,d0,d1,d2,d3,d4]) rfl ⟨HE.grown,⟨none,0,rfl,KidsX.leaf _ _ _ _ _ _ _⟩,HE.rd⟩
theorem y26 (b:Nat) (w:World) (A:OA) (n c:Nat) (l:List Tok) (k d:Nat) (h:RdC b w A n c l k) (hf:FitL l) (hk:k≤n) (t:Tok) (ht:nxt l k=t) (h2:t.kind=6):
  Cz 153 #[pP b,d] w (PostC b w A n c l (.ok (exVar t.word) (k+1))):=by
 have hlt:=h.lt;have hkb:k≤1000000:=by have:=h.row.1;have:=hf.len;omega
 have HM0:Hid (∀ W,Below (w.alloc zeroX).heap.size (w.alloc zeroX) W→MidO b w W A n c l k):=zz fun W hb=>MidO.first h hb
 have KN:Hid (∀ w,RdC b w A n c l k→Cz 176 #[pP b] w (NextP w t)):=zz fun w h=>by rw[←ht];exact z4b b w A n c l k h hf hk
 have H1:=zz (HM0.out _ bR).rd;unfold NextP at KN;rw[h2] at KN
 have hw1:t.word.length≤100000:=by
  rw[←ht];unfold nxt
  cases hl:l[k]? with
  | none=>simp
  | some t=>exact(hf.fit t (List.mem_of_getElem? hl)).word
 obtain⟨S,hS⟩:∃ S:BA,S=⟨t.word.toArray⟩:=⟨_,rfl⟩;have hSz:S.size≤281474976710656:=by rw[←z0d,hS];show t.word.length≤_;omega
 have KC:=zz fun w=>z57 S hSz w
 rw[←hS] at KN;have HSS:=zz hS;clear h hf hk ht h2 hS hSz hw1;go_enter Tryz.func153,Tryz.ntmps153;go_wp2_with (first | (go_at_call 176;go_must ((with_reducible refine(KN.out _ H1.out).mono ?_);rintro e w1 ⟨A1,c1,rfl,hb1⟩;have HM:=zz (HM0.out _ hb1);clear hb1;have hsz:w.heap.size<w1.heap.size:=HM.out.size;have hr0:=HM.out.rd.c0;have hr1:=HM.out.rd.c1;have hr2:=HM.out.rd.f1;have hl1:=HM.out.rd.lt)) | (go_at_call 89;go_must ((with_reducible refine(KC.out _).mono ?_);rintro e w5 ⟨rfl,hb5⟩;have HM5:=zz (((HM.out.more hlt (z01 b 1 _ (.int .i64 ((k:Int)+1))) (HM.out.rd.placez (k+1) _ (by omega))).low hlt (z0b _ _)).low hlt hb5);obtain⟨d0,d1,d2,d3,d4,_⟩:=HM5.out.boxQ;obtain⟨e0,e1,e2,e3,e4⟩:=HM5.out.boxQ.freed)));obtain⟨W3,hW3⟩:∃ W3,W3=put5 w5 w.heap.size (.int .i64 1) oZ (.string S) oS ():=⟨_,rfl⟩;have HE:EndQ b w.heap.size w W3 A n c l (k+1) (.int .i64 1) oZ (.string S) oS ():=end_q hlt nR HM5.out.boxQ HM5.out.grown HM5.out.rd (by rw[hW3];exact Below.refl _ _);unfold put5 at hW3;rw[←hW3];clear hW3 d0 d1 d2 d3 d4;obtain⟨d0,d1,d2,d3,d4,_⟩:=HE.box;exact bodyPost_ret (v:= .tuple #[.agg #[iI 1,oZ,S,oS,()],oZ]) (by simp[results,Tryz.results153,go_sem,d0,d1,d2,d3,d4]) rfl ⟨HE.grown,⟨none,0,by rw[HSS.out];rfl,KidsX.leaf _ _ _ _ _ _ _⟩,HE.rd⟩
structure SgT (l:List Tok) (k:Nat) (S:BA) (m:Bool) (n:Bool) (p:Bool):Prop where
 b0:(S.toList==[45])=m
 b1:(S.toList==[33])=n
 b2:(S.toList==[40])=p
theorem z3e (l:List Tok) (k:Nat) (S:BA) (hS:S=⟨(sg l k).toArray⟩):SgT l k S (decide (sg l k=[45])) (decide (sg l k=[33])) (decide (sg l k=[40])):=
 ⟨(sgB l k S hS [45] _ rfl).1,(sgB l k S hS [33] _ rfl).1,(sgB l k S hS [40] _ rfl).1⟩
theorem z1n (b:Nat) (w:World) (A:OA) (n c:Nat) (l:List Tok) (k d:Nat) (h:RdC b w A n c l k) (hf:FitL l) (hk:k≤n) (t:Tok) (ht:nxt l k=t) (h2:t.kind≠2) (h6:t.kind≠6) (kd:Int) (hs:(sg l k=[45]∧kd=2)∨(sg l k=[33]∧kd=3)) (r:Rs)
  (HK:∀ w,RdC b w A n c l k→Cz 177 #[pP b,kd,d] w (PostC b w A n c l r)):
  Cz 153 #[pP b,d] w (PostC b w A n c l r):=by
 have hlt:=h.lt;have HM0:Hid (∀ W,Below (w.alloc zeroX).heap.size (w.alloc zeroX) W→MidO b w W A n c l k):=zz fun W hb=>MidO.first h hb
 have KN:Hid (∀ w,RdC b w A n c l k→Cz 176 #[pP b] w (NextP w t)):=zz fun w h=>by rw[←ht];exact z4b b w A n c l k h hf hk
 have H1:=zz (HM0.out _ bR).rd;unfold NextP at KN;obtain⟨S,hS⟩:∃ S:BA,S=⟨(sg l k).toArray⟩:=⟨_,rfl⟩;have KS:Hid (∀ w,RdC b w A n c l k→Cz 155 #[pP b] w fun e w'=>e= .returned (.string S)∧Below w.heap.size w w'):=zz fun w h=>by rw[hS];exact z1c b w A n c l k h hf hk
 obtain⟨x,hx⟩:∃ x,x=t.kind:=⟨_,rfl⟩;have q2:(x==2)=false:=by rw[hx];simpa using h2
 have q6:(x==6)=false:=by rw[hx];simpa using h6
 rw[←hx] at KN;have K:=zz HK;obtain⟨s0,s1,_⟩:=z3e l k S hS
 rcases hs with ⟨hs,rfl⟩ | ⟨hs,rfl⟩
 all_goals
  rw[hs] at s0 s1;clear h hf hk ht h2 h6 hx HK hS hs;go_enter Tryz.func153,Tryz.ntmps153;go_wp2_with (first | (go_at_call 176;go_must ((with_reducible refine(KN.out _ H1.out).mono ?_);rintro e w1 ⟨A1,c1,rfl,hb1⟩;have HM:=zz (HM0.out _ hb1);clear hb1)) | (go_at_call 155;go_must ((with_reducible refine(KS.out _ (HM.out.low hlt (z0b _ _)).rd).mono ?_);rintro e w3 ⟨rfl,hb3⟩;have HM3:=zz ((HM.out.low hlt (z0b _ _)).low hlt hb3);clear hb3)) | (go_at_call 177;go_must ((with_reducible refine(K.out _ HM3.out.rd).mono ?_);rintro e w4 hp;obtain⟨v0,v1,v2,v3,A4,n4,c4,er,rfl,HP⟩:=hp.form;have HBX:=zz (HM3.out.boxQ.grown hp.1 (by omega));clear hp;obtain⟨d0,d1,d2,d3,d4,_⟩:=HBX.out;obtain⟨e0,e1,e2,e3,e4⟩:=HBX.out.freed)));obtain⟨W3,hW3⟩:∃ W3,W3=put5 w4 w.heap.size (.int .i64 v0) (.int .i64 v1) (.string v2) (.string v3) (.slice A4 n4 c4):=⟨_,rfl⟩;have HE:=z8x HP.out hlt HM3.out.grown HM3.out.size hW3;have HX:=HBX.out.put (.int .i64 v0) (.int .i64 v1) (.string v2) (.string v3) (.slice A4 n4 c4);rw[←hW3] at HX;unfold put5 at hW3;rw[←hW3];clear hW3 d0 d1 d2 d3 d4;obtain⟨d0,d1,d2,d3,d4,_⟩:=HX;exact bodyPost_ret (v:= .tuple #[.agg #[v0,v1,v2,v3,.slice A4 n4 c4],er]) (by simp[results,Tryz.results153,go_sem,d0,d1,d2,d3,d4]) rfl HE
theorem z3p (b:Nat) (w:World) (A:OA) (n c:Nat) (l:List Tok) (k d:Nat) (h:RdC b w A n c l k) (hf:FitL l) (hk:k≤n) (t:Tok) (ht:nxt l k=t) (h2:t.kind≠2) (h6:t.kind≠6) (hs:sg l k=[40]) (r:Rs)
  (HK:∀ w,RdC b w A n c l k→Cz 178 #[pP b,d] w (PostC b w A n c l r)):
  Cz 153 #[pP b,d] w (PostC b w A n c l r):=by
 have hlt:=h.lt;have HM0:Hid (∀ W,Below (w.alloc zeroX).heap.size (w.alloc zeroX) W→MidO b w W A n c l k):=zz fun W hb=>MidO.first h hb
 have KN:Hid (∀ w,RdC b w A n c l k→Cz 176 #[pP b] w (NextP w t)):=zz fun w h=>by rw[←ht];exact z4b b w A n c l k h hf hk
 have H1:=zz (HM0.out _ bR).rd;unfold NextP at KN;obtain⟨S,hS⟩:∃ S:BA,S=⟨(sg l k).toArray⟩:=⟨_,rfl⟩;have KS:Hid (∀ w,RdC b w A n c l k→Cz 155 #[pP b] w fun e w'=>e= .returned (.string S)∧Below w.heap.size w w'):=zz fun w h=>by rw[hS];exact z1c b w A n c l k h hf hk
 obtain⟨x,hx⟩:∃ x,x=t.kind:=⟨_,rfl⟩;have q2:(x==2)=false:=by rw[hx];simpa using h2
 have q6:(x==6)=false:=by rw[hx];simpa using h6
 rw[←hx] at KN;have K:=zz HK;obtain⟨s0,s1,s2⟩:=z3e l k S hS;rw[hs] at s0 s1 s2;clear h hf hk ht h2 h6 hx HK hS hs;go_enter Tryz.func153,Tryz.ntmps153;go_wp2_with (first | (go_at_call 176;go_must ((with_reducible refine(KN.out _ H1.out).mono ?_);rintro e w1 ⟨A1,c1,rfl,hb1⟩;have HM:=zz (HM0.out _ hb1);clear hb1)) | (go_at_call 155;go_must ((with_reducible refine(KS.out _ (HM.out.low hlt (z0b _ _)).rd).mono ?_);rintro e w3 ⟨rfl,hb3⟩;have HM3:=zz ((HM.out.low hlt (z0b _ _)).low hlt hb3);clear hb3)) | (go_at_call 178;go_must ((with_reducible refine(K.out _ HM3.out.rd).mono ?_);rintro e w4 hp;obtain⟨v0,v1,v2,v3,A4,n4,c4,er,rfl,HP⟩:=hp.form;have HBX:=zz (HM3.out.boxQ.grown hp.1 (by omega));clear hp;obtain⟨d0,d1,d2,d3,d4,_⟩:=HBX.out;obtain⟨e0,e1,e2,e3,e4⟩:=HBX.out.freed)));obtain⟨W3,hW3⟩:∃ W3,W3=put5 w4 w.heap.size (.int .i64 v0) (.int .i64 v1) (.string v2) (.string v3) (.slice A4 n4 c4):=⟨_,rfl⟩;have HE:=z8x HP.out hlt HM3.out.grown HM3.out.size hW3;have HX:=HBX.out.put (.int .i64 v0) (.int .i64 v1) (.string v2) (.string v3) (.slice A4 n4 c4);rw[←hW3] at HX;unfold put5 at hW3;rw[←hW3];clear hW3 d0 d1 d2 d3 d4;obtain⟨d0,d1,d2,d3,d4,_⟩:=HX;exact bodyPost_ret (v:= .tuple #[.agg #[v0,v1,v2,v3,.slice A4 n4 c4],er]) (by simp[results,Tryz.results153,go_sem,d0,d1,d2,d3,d4]) rfl HE
theorem z58 (b:Nat) (w:World) (A:OA) (n c:Nat) (l:List Tok) (k d:Nat) (h:RdC b w A n c l k) (hf:FitL l) (hk:k≤n) (t:Tok) (ht:nxt l k=t) (h2:t.kind≠2) (h6:t.kind≠6) (hs:¬ pre3 (sg l k)):
  Cz 153 #[pP b,d] w (PostC b w A n c l (.bad k 1)):=by
 have hlt:=h.lt;have HM0:Hid (∀ W,Below (w.alloc zeroX).heap.size (w.alloc zeroX) W→MidO b w W A n c l k):=zz fun W hb=>MidO.first h hb
 have KN:Hid (∀ w,RdC b w A n c l k→Cz 176 #[pP b] w (NextP w t)):=zz fun w h=>by rw[←ht];exact z4b b w A n c l k h hf hk
 have H1:=zz (HM0.out _ bR).rd;unfold NextP at KN;obtain⟨S,hS⟩:∃ S:BA,S=⟨(sg l k).toArray⟩:=⟨_,rfl⟩;have KS:Hid (∀ w,RdC b w A n c l k→Cz 155 #[pP b] w fun e w'=>e= .returned (.string S)∧Below w.heap.size w w'):=zz fun w h=>by rw[hS];exact z1c b w A n c l k h hf hk
 obtain⟨x,hx⟩:∃ x,x=t.kind:=⟨_,rfl⟩;have q2:(x==2)=false:=by rw[hx];simpa using h2
 have q6:(x==6)=false:=by rw[hx];simpa using h6
 rw[←hx] at KN;obtain⟨s0,s1,s2⟩:=z3e l k S hS;rw[decide_eq_false (fun e=>hs (.inl e))] at s0;rw[decide_eq_false (fun e=>hs (.inr (.inl e)))] at s1;rw[decide_eq_false (fun e=>hs (.inr (.inr e)))] at s2;clear h hf hk ht h2 h6 hx hS hs;go_enter Tryz.func153,Tryz.ntmps153;go_wp2_with (first | (go_at_call 176;go_must ((with_reducible refine(KN.out _ H1.out).mono ?_);rintro e w1 ⟨A1,c1,rfl,hb1⟩;have HM:=zz (HM0.out _ hb1);clear hb1)) | (go_at_call 155;go_must ((with_reducible refine(KS.out _ (HM.out.low hlt (z0b _ _)).rd).mono ?_);rintro e w3 ⟨rfl,hb3⟩;have HM3:=zz ((HM.out.low hlt (z0b _ _)).low hlt hb3);clear hb3;obtain⟨d0,d1,d2,d3,d4,_⟩:=HM3.out.boxQ;obtain⟨e0,e1,e2,e3,e4⟩:=HM3.out.boxQ.freed)));obtain⟨W3,hW3⟩:∃ W3,W3=put5 w3 w.heap.size (.int .i64 0) oZ oS oS ():=⟨_,rfl⟩;have HE:EndQ b w.heap.size w W3 A n c l k (.int .i64 0) oZ oS oS ():=end_q hlt nR HM3.out.boxQ HM3.out.grown HM3.out.rd (by rw[hW3];exact Below.refl _ _);unfold put5 at hW3;rw[←hW3];clear hW3 d0 d1 d2 d3 d4;obtain⟨d0,d1,d2,d3,d4,_⟩:=HE.box;exact bodyPost_ret (v:= .tuple #[.agg #[oZ,oZ,oS,oS,()],iI 1]) (by simp[results,Tryz.results153,go_sem,d0,d1,d2,d3,d4]) rfl ⟨HE.grown,rfl,HE.rd⟩
end Go.Proofs.YtngfihoempcplaaGreatDoor
