import Derived.Test.YthghbdeaenjckaaGreatDoorEx15
namespace Go.Proofs.YthghbdeaenjckaaGreatDoor
open Go Go.RowKit
set_option maxRecDepth 100000
set_option maxHeartbeats 8000000
theorem ba_of (l:Bs):∃ X:ByteArray,X.toList=l∧(⟨l.toArray⟩:ByteArray)=X:=⟨⟨l.toArray⟩,by rw[toList_data],rfl⟩
theorem mayL_snoc (x:Ex) (d:Nat):∀ l:List Ex,mayL (l++[x]) d=(mayL l d && mayX x d)
 | []=>by rw[List.nil_append,mayL,mayL,mayL];simp
 | y::l=>by rw[List.cons_append,mayL,mayL,mayL_snoc x d l,Bool.and_assoc]
theorem mayL_take {l:List Ex} {k d:Nat} {x:Ex} (h:l[k]?=some x) (hp:mayL (l.take k) d=true):mayL (l.take (k+1)) d=mayX x d:=by
 obtain⟨hk,e⟩:=List.getElem?_eq_some_iff.1 h;rw[List.take_succ_eq_append_getElem hk,e,mayL_snoc,hp,Bool.true_and]
theorem mayL_not {l:List Ex} {k d:Nat} {x:Ex} (h:l[k]?=some x) (hx:mayX x d=false):mayL l d=false:=by
 rw[Bool.eq_false_iff];intro hl;have:=mayL_all hl x (List.mem_of_getElem? h);rw[hx] at this;cases this
theorem rmayX_any (r:Ex):∀ (A:Option Addr) (c d:Nat) (w:World),KidsX (LtX w.heap.size) w A r→d≤64→nmX r≤1000000→
  Calls Tryz.prog 10 #[valX r A c,.int .i64 d] w fun e w'=>e= .returned (.bool (mayX r d))∧Below w.heap.size w w':=by
 induction r using Ex.ind with
 | h k n nm op ks ih=>
   intro A c d w hk hd hnm;obtain⟨v,hv⟩:∃ v,v=mayX (Ex.mk k n nm op ks) d:=⟨_,rfl⟩;rw[←hv];rw[mayX] at hv;unfold shapeX at hv;simp only[valX];obtain⟨X,rfl,eX⟩:=ba_of nm;rw[nmX] at hnm
   have hXs:X.size≤4611686018427387904:=by
    have:X.toList.length=X.size:=by rw[toList_data];exact len_data X
    omega
   have HNM:=Lib.hid hnm;clear hnm;obtain⟨Y,rfl,eY⟩:=ba_of op;rw[eX,eY];have KN:Hid (∀ w,Calls Tryz.prog 25 #[.string X] w fun e w'=>e= .returned (.bool (isName X.toList))∧w=w'):=Lib.hid fun w=>by rw[toList_data];exact rname_any X hXs w
   have KS:Hid (∀ w,Calls Tryz.prog 26 #[.string Y] w fun e w'=>e= .returned (.int .i64 (strong Y.toList))∧w=w'):=Lib.hid fun w=>by rw[toList_data];exact strengthX_any Y w
   obtain⟨b1,hb1⟩:∃ b,b=isName X.toList:=⟨_,rfl⟩;obtain⟨b2,hb2⟩:∃ b,b=strong Y.toList:=⟨_,rfl⟩;rw[←hb1] at KN hv;rw[←hb2] at KS hv;clear hb1 hb2 eX eY hXs;obtain⟨m,hm⟩:∃ m,m=ks.length:=⟨_,rfl⟩;rw[←hm] at hv ⊢;have he:ks.isEmpty=decide (m=0):=by rw[hm];cases ks <;> simp
   rw[he] at hv;have HM:=Lib.hid hm;have HK:=Lib.hid hk;have HI:=Lib.hid ih;clear hk ih hm he;by_cases k0:k=0
   ·subst k0
    by_cases hx:X.toList=[]
    case neg=>
     have HX:Hid (v=false):=Lib.hid (by rw[hv];simp[hx]);clear hv;go_enter Tryz.func10,Tryz.ntmps10;go_wp2_with (first | (go_at_call 25;((with_reducible refine(KN.out _).mono ?_));rintro e w' ⟨rfl,rfl⟩) | (go_at_call 26;((with_reducible refine(KS.out _).mono ?_));rintro e w' ⟨rfl,rfl⟩));go_ret;exact⟨ret_bool HX.out.symm,two_boxesX _ _ _⟩
    by_cases hy:Y.toList=[]
    case neg=>
     have HX:Hid (v=false):=Lib.hid (by rw[hv];simp[hy]);clear hv;go_enter Tryz.func10,Tryz.ntmps10;go_wp2_with (first | (go_at_call 25;((with_reducible refine(KN.out _).mono ?_));rintro e w' ⟨rfl,rfl⟩) | (go_at_call 26;((with_reducible refine(KS.out _).mono ?_));rintro e w' ⟨rfl,rfl⟩));go_ret;exact⟨ret_bool HX.out.symm,two_boxesX _ _ _⟩
    by_cases hm0:m=0
    case neg=>
     have HX:Hid (v=false):=Lib.hid (by rw[hv];simp[hm0]);clear hv;go_enter Tryz.func10,Tryz.ntmps10;go_wp2_with (first | (go_at_call 25;((with_reducible refine(KN.out _).mono ?_));rintro e w' ⟨rfl,rfl⟩) | (go_at_call 26;((with_reducible refine(KS.out _).mono ?_));rintro e w' ⟨rfl,rfl⟩));go_ret;exact⟨ret_bool HX.out.symm,two_boxesX _ _ _⟩
    subst hm0;by_cases hn:0≤n
    case neg=>
     have HX:Hid (v=false):=Lib.hid (by rw[hv];simp[hn]);clear hv;go_enter Tryz.func10,Tryz.ntmps10;go_wp2_with (first | (go_at_call 25;((with_reducible refine(KN.out _).mono ?_));rintro e w' ⟨rfl,rfl⟩) | (go_at_call 26;((with_reducible refine(KS.out _).mono ?_));rintro e w' ⟨rfl,rfl⟩));go_ret;exact⟨ret_bool HX.out.symm,two_boxesX _ _ _⟩
    have HX:Hid (∀ b,mayL ks (d+1)=b→v=b):=Lib.hid (by rintro b rfl;rw[hv];simp[hx,hy,hn]);clear hv;obtain⟨o1,ho1⟩:∃ o:Obj,o= .cells #[.int .i64 0,.int .i64 n,.string X,.string Y,.slice A 0 c] 24:=⟨_,rfl⟩;obtain⟨o2,ho2⟩:∃ o:Obj,o= .cells #[.int .i64 0,.int .i64 n,.string ⟨#[]⟩,.string ⟨#[]⟩,.slice none 0 0] 24:=⟨_,rfl⟩;have hbo:Below w.heap.size w ((w.alloc o1).alloc o2):=two_boxesX w o1 o2;have hc5:((w.alloc o1).alloc o2).cell? ⟨w.heap.size,4,none⟩=some (.slice A 0 c):=by rw[ho1];simp[go_sem]
    have hsz:((w.alloc o1).alloc o2).heap.size=w.heap.size+2:=by simp
    obtain⟨W2,hW2⟩:∃ W2,W2=(w.alloc o1).alloc o2:=⟨_,rfl⟩;have HW2:Hid (W2=(w.alloc (.cells #[.int .i64 0,.int .i64 n,.string X,.string Y,.slice A 0 c] 24)).alloc (.cells #[.int .i64 0,.int .i64 n,.string ⟨#[]⟩,.string ⟨#[]⟩,.slice none 0 0] 24)):=Lib.hid (by rw[hW2,ho1,ho2]);rw[←hW2] at hbo hc5 hsz;have HBO:=Lib.hid hbo;have HC5:=Lib.hid hc5;clear ho1 ho2 hW2 hbo hc5;go_enter Tryz.func10,Tryz.ntmps10;go_wp2_with (first | (go_at_call 25;((with_reducible refine(KN.out _).mono ?_));rintro e w' ⟨rfl,rfl⟩) | (go_at_call 26;((with_reducible refine(KS.out _).mono ?_));rintro e w' ⟨rfl,rfl⟩))
    go_loopw [7] (fun i wr=>∃ j:Nat,j≤0∧i= .int .i64 j∧mayL (ks.take j) (d+1)=true∧Below (w.heap.size+2) W2 wr) (fun i _=>0 - (intOf i).toNat)
    case atStart=>exact⟨0,by omega,rfl,by rw[List.take_zero,mayL],by rw[HW2.out];exact Below.refl _ _⟩
    case round=>
     obtain⟨j,hj,rfl,ht,hb1⟩:=hrel;have hb:Below w.heap.size w wr:=HBO.out.trans (hb1.mono (by omega));have c5:wr.cell? ⟨w.heap.size,4,none⟩=some (.slice A 0 c):=(hb1.cell (p:=⟨w.heap.size,4,none⟩) (by show w.heap.size<w.heap.size+2;omega)).trans HC5.out;have HB1:=Lib.hid hb1;have HT:=Lib.hid ht;clear ht hb1;by_cases a:j<0
     ·exact absurd a (Nat.not_lt_zero j)
     ·have HX2:Hid (v=true):=by
       apply Lib.hid;apply HX.out;have:=HT.out;rw[List.take_of_length_le (by have:=HM.out;omega)] at this;exact this
      go_wp2;go_ret;exact⟨ret_bool HX2.out.symm,hb⟩
   by_cases k1:k=1
   ·subst k1
    by_cases hn:n=0
    case neg=>
     have HX:Hid (v=false):=Lib.hid (by rw[hv];simp[hn]);clear hv;go_enter Tryz.func10,Tryz.ntmps10;go_wp2_with (first | (go_at_call 25;((with_reducible refine(KN.out _).mono ?_));rintro e w' ⟨rfl,rfl⟩) | (go_at_call 26;((with_reducible refine(KS.out _).mono ?_));rintro e w' ⟨rfl,rfl⟩));go_ret;exact⟨ret_bool HX.out.symm,two_boxesX _ _ _⟩
    subst hn;by_cases hy:Y.toList=[]
    case neg=>
     have HX:Hid (v=false):=Lib.hid (by rw[hv];simp[hy]);clear hv;go_enter Tryz.func10,Tryz.ntmps10;go_wp2_with (first | (go_at_call 25;((with_reducible refine(KN.out _).mono ?_));rintro e w' ⟨rfl,rfl⟩) | (go_at_call 26;((with_reducible refine(KS.out _).mono ?_));rintro e w' ⟨rfl,rfl⟩));go_ret;exact⟨ret_bool HX.out.symm,two_boxesX _ _ _⟩
    by_cases hm0:m=0
    case neg=>
     have HX:Hid (v=false):=Lib.hid (by rw[hv];simp[hm0]);clear hv;go_enter Tryz.func10,Tryz.ntmps10;go_wp2_with (first | (go_at_call 25;((with_reducible refine(KN.out _).mono ?_));rintro e w' ⟨rfl,rfl⟩) | (go_at_call 26;((with_reducible refine(KS.out _).mono ?_));rintro e w' ⟨rfl,rfl⟩));go_ret;exact⟨ret_bool HX.out.symm,two_boxesX _ _ _⟩
    subst hm0;by_cases hb:b1=true
    case neg=>
     have HX:Hid (v=false):=Lib.hid (by rw[hv];simp[hb]);clear hv;go_enter Tryz.func10,Tryz.ntmps10;go_wp2_with (first | (go_at_call 25;((with_reducible refine(KN.out _).mono ?_));rintro e w' ⟨rfl,rfl⟩) | (go_at_call 26;((with_reducible refine(KS.out _).mono ?_));rintro e w' ⟨rfl,rfl⟩));go_ret;exact⟨ret_bool HX.out.symm,two_boxesX _ _ _⟩
    subst hb;have HX:Hid (∀ b,mayL ks (d+1)=b→v=b):=Lib.hid (by rintro b rfl;rw[hv];simp[hy]);clear hv;obtain⟨o1,ho1⟩:∃ o:Obj,o= .cells #[.int .i64 1,.int .i64 0,.string X,.string Y,.slice A 0 c] 24:=⟨_,rfl⟩;obtain⟨o2,ho2⟩:∃ o:Obj,o= .cells #[.int .i64 1,.int .i64 0,.string X,.string ⟨#[]⟩,.slice none 0 0] 24:=⟨_,rfl⟩;have hbo:Below w.heap.size w ((w.alloc o1).alloc o2):=two_boxesX w o1 o2;have hc5:((w.alloc o1).alloc o2).cell? ⟨w.heap.size,4,none⟩=some (.slice A 0 c):=by rw[ho1];simp[go_sem]
    have hsz:((w.alloc o1).alloc o2).heap.size=w.heap.size+2:=by simp
    obtain⟨W2,hW2⟩:∃ W2,W2=(w.alloc o1).alloc o2:=⟨_,rfl⟩;have HW2:Hid (W2=(w.alloc (.cells #[.int .i64 1,.int .i64 0,.string X,.string Y,.slice A 0 c] 24)).alloc (.cells #[.int .i64 1,.int .i64 0,.string X,.string ⟨#[]⟩,.slice none 0 0] 24)):=Lib.hid (by rw[hW2,ho1,ho2]);rw[←hW2] at hbo hc5 hsz;have HBO:=Lib.hid hbo;have HC5:=Lib.hid hc5;clear ho1 ho2 hW2 hbo hc5;go_enter Tryz.func10,Tryz.ntmps10;go_wp2_with (first | (go_at_call 25;((with_reducible refine(KN.out _).mono ?_));rintro e w' ⟨rfl,rfl⟩) | (go_at_call 26;((with_reducible refine(KS.out _).mono ?_));rintro e w' ⟨rfl,rfl⟩))
    go_loopw [7] (fun i wr=>∃ j:Nat,j≤0∧i= .int .i64 j∧mayL (ks.take j) (d+1)=true∧Below (w.heap.size+2) W2 wr) (fun i _=>0 - (intOf i).toNat)
    case atStart=>exact⟨0,by omega,rfl,by rw[List.take_zero,mayL],by rw[HW2.out];exact Below.refl _ _⟩
    case round=>
     obtain⟨j,hj,rfl,ht,hb1⟩:=hrel;have hb:Below w.heap.size w wr:=HBO.out.trans (hb1.mono (by omega));have c5:wr.cell? ⟨w.heap.size,4,none⟩=some (.slice A 0 c):=(hb1.cell (p:=⟨w.heap.size,4,none⟩) (by show w.heap.size<w.heap.size+2;omega)).trans HC5.out;have HB1:=Lib.hid hb1;have HT:=Lib.hid ht;clear ht hb1;by_cases a:j<0
     ·exact absurd a (Nat.not_lt_zero j)
     ·have HX2:Hid (v=true):=by
       apply Lib.hid;apply HX.out;have:=HT.out;rw[List.take_of_length_le (by have:=HM.out;omega)] at this;exact this
      go_wp2;go_ret;exact⟨ret_bool HX2.out.symm,hb⟩
   by_cases k2:k=2
   ·subst k2
    by_cases hn:n=0
    case neg=>
     have HX:Hid (v=false):=Lib.hid (by rw[hv];simp[hn]);clear hv;go_enter Tryz.func10,Tryz.ntmps10;go_wp2_with (first | (go_at_call 25;((with_reducible refine(KN.out _).mono ?_));rintro e w' ⟨rfl,rfl⟩) | (go_at_call 26;((with_reducible refine(KS.out _).mono ?_));rintro e w' ⟨rfl,rfl⟩));go_ret;exact⟨ret_bool HX.out.symm,two_boxesX _ _ _⟩
    subst hn;by_cases hx:X.toList=[]
    case neg=>
     have HX:Hid (v=false):=Lib.hid (by rw[hv];simp[hx]);clear hv;go_enter Tryz.func10,Tryz.ntmps10;go_wp2_with (first | (go_at_call 25;((with_reducible refine(KN.out _).mono ?_));rintro e w' ⟨rfl,rfl⟩) | (go_at_call 26;((with_reducible refine(KS.out _).mono ?_));rintro e w' ⟨rfl,rfl⟩));go_ret;exact⟨ret_bool HX.out.symm,two_boxesX _ _ _⟩
    by_cases hy:Y.toList=[]
    case neg=>
     have HX:Hid (v=false):=Lib.hid (by rw[hv];simp[hy]);clear hv;go_enter Tryz.func10,Tryz.ntmps10;go_wp2_with (first | (go_at_call 25;((with_reducible refine(KN.out _).mono ?_));rintro e w' ⟨rfl,rfl⟩) | (go_at_call 26;((with_reducible refine(KS.out _).mono ?_));rintro e w' ⟨rfl,rfl⟩));go_ret;exact⟨ret_bool HX.out.symm,two_boxesX _ _ _⟩
    by_cases hm0:m=1
    case neg=>
     have HX:Hid (v=false):=Lib.hid (by rw[hv];simp[hm0]);clear hv;go_enter Tryz.func10,Tryz.ntmps10;go_wp2_with (first | (go_at_call 25;((with_reducible refine(KN.out _).mono ?_));rintro e w' ⟨rfl,rfl⟩) | (go_at_call 26;((with_reducible refine(KS.out _).mono ?_));rintro e w' ⟨rfl,rfl⟩));go_ret;exact⟨ret_bool HX.out.symm,two_boxesX _ _ _⟩
    subst hm0;by_cases hd64:d<64
    case neg=>
     have HX:Hid (v=false):=Lib.hid (by rw[hv];simp[hd64]);clear hv;go_enter Tryz.func10,Tryz.ntmps10;go_wp2_with (first | (go_at_call 25;((with_reducible refine(KN.out _).mono ?_));rintro e w' ⟨rfl,rfl⟩) | (go_at_call 26;((with_reducible refine(KS.out _).mono ?_));rintro e w' ⟨rfl,rfl⟩));go_ret;exact⟨ret_bool HX.out.symm,two_boxesX _ _ _⟩
    have HX:Hid (∀ b,mayL ks (d+1)=b→v=b):=Lib.hid (by rintro b rfl;rw[hv];simp[hx,hy,hd64]);clear hv;obtain⟨o1,ho1⟩:∃ o:Obj,o= .cells #[.int .i64 2,.int .i64 0,.string X,.string Y,.slice A 1 c] 24:=⟨_,rfl⟩;obtain⟨o2,ho2⟩:∃ o:Obj,o= .cells #[.int .i64 2,.int .i64 0,.string ⟨#[]⟩,.string ⟨#[]⟩,.slice none 0 0] 24:=⟨_,rfl⟩;have hbo:Below w.heap.size w ((w.alloc o1).alloc o2):=two_boxesX w o1 o2;have hc5:((w.alloc o1).alloc o2).cell? ⟨w.heap.size,4,none⟩=some (.slice A 1 c):=by rw[ho1];simp[go_sem]
    have hsz:((w.alloc o1).alloc o2).heap.size=w.heap.size+2:=by simp
    obtain⟨W2,hW2⟩:∃ W2,W2=(w.alloc o1).alloc o2:=⟨_,rfl⟩;have HW2:Hid (W2=(w.alloc (.cells #[.int .i64 2,.int .i64 0,.string X,.string Y,.slice A 1 c] 24)).alloc (.cells #[.int .i64 2,.int .i64 0,.string ⟨#[]⟩,.string ⟨#[]⟩,.slice none 0 0] 24)):=Lib.hid (by rw[hW2,ho1,ho2]);rw[←hW2] at hbo hc5 hsz;have HBO:=Lib.hid hbo;have HC5:=Lib.hid hc5;clear ho1 ho2 hW2 hbo hc5;go_enter Tryz.func10,Tryz.ntmps10;go_wp2_with (first | (go_at_call 25;((with_reducible refine(KN.out _).mono ?_));rintro e w' ⟨rfl,rfl⟩) | (go_at_call 26;((with_reducible refine(KS.out _).mono ?_));rintro e w' ⟨rfl,rfl⟩))
    go_loopw [7] (fun i wr=>∃ j:Nat,j≤1∧i= .int .i64 j∧mayL (ks.take j) (d+1)=true∧Below (w.heap.size+2) W2 wr) (fun i _=>1 - (intOf i).toNat)
    case atStart=>exact⟨0,by omega,rfl,by rw[List.take_zero,mayL],by rw[HW2.out];exact Below.refl _ _⟩
    case round=>
     obtain⟨j,hj,rfl,ht,hb1⟩:=hrel;have hb:Below w.heap.size w wr:=HBO.out.trans (hb1.mono (by omega));have c5:wr.cell? ⟨w.heap.size,4,none⟩=some (.slice A 1 c):=(hb1.cell (p:=⟨w.heap.size,4,none⟩) (by show w.heap.size<w.heap.size+2;omega)).trans HC5.out;have HB1:=Lib.hid hb1;have HT:=Lib.hid ht;clear ht hb1;by_cases a:j<1
     ·obtain⟨r,hr⟩:=getX_of_lt HM.out a
      obtain⟨ad,B,b,rfl,hp,h9,hkr⟩:=kidX_at HK.out hb hr;have hmem:=List.mem_of_getElem? hr
      have K:∀ w2,Below w.heap.size w w2→Calls Tryz.prog 10 #[valX r B b,.int .i64 ((d:Int)+1)] w2 fun e w'=>e= .returned (.bool (mayX r (d+1)))∧Below w2.heap.size w2 w':=fun w2 h2=>
       HI.out r hmem B b (d+1) w2 (hkr.next h2) (by omega) (by have:=HNM.out;have:=nmXL_mem hmem;omega)
      obtain⟨v2,hv2⟩:∃ v2,v2=mayX r (d+1):=⟨_,rfl⟩;rw[←hv2] at K;have HV2:=Lib.hid hv2;have HR:=Lib.hid hr;clear hr hv2 hkr hmem;obtain⟨k',n',nm',op',ks1⟩:=r;simp only[valX] at K;obtain⟨c0,c1,c2,c3,c4⟩:=h9;generalize (⟨nm'.toArray⟩:ByteArray)=M1 at K c2;generalize (⟨op'.toArray⟩:ByteArray)=M2 at K c3;obtain⟨l1,hl1⟩:∃ l,l=ks1.length:=⟨_,rfl⟩;rw[←hl1] at K c4;have HKC:=Lib.hid K;clear K hl1
      cases v2 with
      | true=>
        have HT2:Hid (mayL (ks.take (j+1)) (d+1)=true):=Lib.hid (by rw[mayL_take HR.out HT.out];exact HV2.out.symm);go_wp2_with (go_at_call 10;((with_reducible refine(HKC.out _ hb).mono ?_));rintro e w' ⟨rfl,hb2⟩)
        go_roundw
        case rel=>exact⟨j+1,by omega,by go_num,HT2.out,HB1.out.trans (hb2.mono (by have:=HB1.out.size;omega))⟩
        case measure=>simp[intOf];omega
      | false=>
        have HX2:Hid (v=false):=Lib.hid (HX.out _ (mayL_not HR.out HV2.out.symm));go_wp2_with (go_at_call 10;((with_reducible refine(HKC.out _ hb).mono ?_));rintro e w' ⟨rfl,hb2⟩);go_ret;exact⟨ret_bool HX2.out.symm,hb.trans (hb2.mono hb.size)⟩
     ·have HX2:Hid (v=true):=by
       apply Lib.hid;apply HX.out;have:=HT.out;rw[List.take_of_length_le (by have:=HM.out;omega)] at this;exact this
      go_wp2;go_ret;exact⟨ret_bool HX2.out.symm,hb⟩
   by_cases k3:k=3
   ·subst k3
    by_cases hn:n=0
    case neg=>
     have HX:Hid (v=false):=Lib.hid (by rw[hv];simp[hn]);clear hv;go_enter Tryz.func10,Tryz.ntmps10;go_wp2_with (first | (go_at_call 25;((with_reducible refine(KN.out _).mono ?_));rintro e w' ⟨rfl,rfl⟩) | (go_at_call 26;((with_reducible refine(KS.out _).mono ?_));rintro e w' ⟨rfl,rfl⟩));go_ret;exact⟨ret_bool HX.out.symm,two_boxesX _ _ _⟩
    subst hn;by_cases hx:X.toList=[]
    case neg=>
     have HX:Hid (v=false):=Lib.hid (by rw[hv];simp[hx]);clear hv;go_enter Tryz.func10,Tryz.ntmps10;go_wp2_with (first | (go_at_call 25;((with_reducible refine(KN.out _).mono ?_));rintro e w' ⟨rfl,rfl⟩) | (go_at_call 26;((with_reducible refine(KS.out _).mono ?_));rintro e w' ⟨rfl,rfl⟩));go_ret;exact⟨ret_bool HX.out.symm,two_boxesX _ _ _⟩
    by_cases hy:Y.toList=[]
    case neg=>
     have HX:Hid (v=false):=Lib.hid (by rw[hv];simp[hy]);clear hv;go_enter Tryz.func10,Tryz.ntmps10;go_wp2_with (first | (go_at_call 25;((with_reducible refine(KN.out _).mono ?_));rintro e w' ⟨rfl,rfl⟩) | (go_at_call 26;((with_reducible refine(KS.out _).mono ?_));rintro e w' ⟨rfl,rfl⟩));go_ret;exact⟨ret_bool HX.out.symm,two_boxesX _ _ _⟩
    by_cases hm0:m=1
    case neg=>
     have HX:Hid (v=false):=Lib.hid (by rw[hv];simp[hm0]);clear hv;go_enter Tryz.func10,Tryz.ntmps10;go_wp2_with (first | (go_at_call 25;((with_reducible refine(KN.out _).mono ?_));rintro e w' ⟨rfl,rfl⟩) | (go_at_call 26;((with_reducible refine(KS.out _).mono ?_));rintro e w' ⟨rfl,rfl⟩));go_ret;exact⟨ret_bool HX.out.symm,two_boxesX _ _ _⟩
    subst hm0;by_cases hd64:d<64
    case neg=>
     have HX:Hid (v=false):=Lib.hid (by rw[hv];simp[hd64]);clear hv;go_enter Tryz.func10,Tryz.ntmps10;go_wp2_with (first | (go_at_call 25;((with_reducible refine(KN.out _).mono ?_));rintro e w' ⟨rfl,rfl⟩) | (go_at_call 26;((with_reducible refine(KS.out _).mono ?_));rintro e w' ⟨rfl,rfl⟩));go_ret;exact⟨ret_bool HX.out.symm,two_boxesX _ _ _⟩
    have HX:Hid (∀ b,mayL ks (d+1)=b→v=b):=Lib.hid (by rintro b rfl;rw[hv];simp[hx,hy,hd64]);clear hv;obtain⟨o1,ho1⟩:∃ o:Obj,o= .cells #[.int .i64 3,.int .i64 0,.string X,.string Y,.slice A 1 c] 24:=⟨_,rfl⟩;obtain⟨o2,ho2⟩:∃ o:Obj,o= .cells #[.int .i64 3,.int .i64 0,.string ⟨#[]⟩,.string ⟨#[]⟩,.slice none 0 0] 24:=⟨_,rfl⟩;have hbo:Below w.heap.size w ((w.alloc o1).alloc o2):=two_boxesX w o1 o2;have hc5:((w.alloc o1).alloc o2).cell? ⟨w.heap.size,4,none⟩=some (.slice A 1 c):=by rw[ho1];simp[go_sem]
    have hsz:((w.alloc o1).alloc o2).heap.size=w.heap.size+2:=by simp
    obtain⟨W2,hW2⟩:∃ W2,W2=(w.alloc o1).alloc o2:=⟨_,rfl⟩;have HW2:Hid (W2=(w.alloc (.cells #[.int .i64 3,.int .i64 0,.string X,.string Y,.slice A 1 c] 24)).alloc (.cells #[.int .i64 3,.int .i64 0,.string ⟨#[]⟩,.string ⟨#[]⟩,.slice none 0 0] 24)):=Lib.hid (by rw[hW2,ho1,ho2]);rw[←hW2] at hbo hc5 hsz;have HBO:=Lib.hid hbo;have HC5:=Lib.hid hc5;clear ho1 ho2 hW2 hbo hc5;go_enter Tryz.func10,Tryz.ntmps10;go_wp2_with (first | (go_at_call 25;((with_reducible refine(KN.out _).mono ?_));rintro e w' ⟨rfl,rfl⟩) | (go_at_call 26;((with_reducible refine(KS.out _).mono ?_));rintro e w' ⟨rfl,rfl⟩))
    go_loopw [7] (fun i wr=>∃ j:Nat,j≤1∧i= .int .i64 j∧mayL (ks.take j) (d+1)=true∧Below (w.heap.size+2) W2 wr) (fun i _=>1 - (intOf i).toNat)
    case atStart=>exact⟨0,by omega,rfl,by rw[List.take_zero,mayL],by rw[HW2.out];exact Below.refl _ _⟩
    case round=>
     obtain⟨j,hj,rfl,ht,hb1⟩:=hrel;have hb:Below w.heap.size w wr:=HBO.out.trans (hb1.mono (by omega));have c5:wr.cell? ⟨w.heap.size,4,none⟩=some (.slice A 1 c):=(hb1.cell (p:=⟨w.heap.size,4,none⟩) (by show w.heap.size<w.heap.size+2;omega)).trans HC5.out;have HB1:=Lib.hid hb1;have HT:=Lib.hid ht;clear ht hb1;by_cases a:j<1
     ·obtain⟨r,hr⟩:=getX_of_lt HM.out a
      obtain⟨ad,B,b,rfl,hp,h9,hkr⟩:=kidX_at HK.out hb hr;have hmem:=List.mem_of_getElem? hr
      have K:∀ w2,Below w.heap.size w w2→Calls Tryz.prog 10 #[valX r B b,.int .i64 ((d:Int)+1)] w2 fun e w'=>e= .returned (.bool (mayX r (d+1)))∧Below w2.heap.size w2 w':=fun w2 h2=>
       HI.out r hmem B b (d+1) w2 (hkr.next h2) (by omega) (by have:=HNM.out;have:=nmXL_mem hmem;omega)
      obtain⟨v2,hv2⟩:∃ v2,v2=mayX r (d+1):=⟨_,rfl⟩;rw[←hv2] at K;have HV2:=Lib.hid hv2;have HR:=Lib.hid hr;clear hr hv2 hkr hmem;obtain⟨k',n',nm',op',ks1⟩:=r;simp only[valX] at K;obtain⟨c0,c1,c2,c3,c4⟩:=h9;generalize (⟨nm'.toArray⟩:ByteArray)=M1 at K c2;generalize (⟨op'.toArray⟩:ByteArray)=M2 at K c3;obtain⟨l1,hl1⟩:∃ l,l=ks1.length:=⟨_,rfl⟩;rw[←hl1] at K c4;have HKC:=Lib.hid K;clear K hl1
      cases v2 with
      | true=>
        have HT2:Hid (mayL (ks.take (j+1)) (d+1)=true):=Lib.hid (by rw[mayL_take HR.out HT.out];exact HV2.out.symm);go_wp2_with (go_at_call 10;((with_reducible refine(HKC.out _ hb).mono ?_));rintro e w' ⟨rfl,hb2⟩)
        go_roundw
        case rel=>exact⟨j+1,by omega,by go_num,HT2.out,HB1.out.trans (hb2.mono (by have:=HB1.out.size;omega))⟩
        case measure=>simp[intOf];omega
      | false=>
        have HX2:Hid (v=false):=Lib.hid (HX.out _ (mayL_not HR.out HV2.out.symm));go_wp2_with (go_at_call 10;((with_reducible refine(HKC.out _ hb).mono ?_));rintro e w' ⟨rfl,hb2⟩);go_ret;exact⟨ret_bool HX2.out.symm,hb.trans (hb2.mono hb.size)⟩
     ·have HX2:Hid (v=true):=by
       apply Lib.hid;apply HX.out;have:=HT.out;rw[List.take_of_length_le (by have:=HM.out;omega)] at this;exact this
      go_wp2;go_ret;exact⟨ret_bool HX2.out.symm,hb⟩
   by_cases k4:k=4
   ·subst k4
    by_cases hn:n=0
    case neg=>
     have HX:Hid (v=false):=Lib.hid (by rw[hv];simp[hn]);clear hv;go_enter Tryz.func10,Tryz.ntmps10;go_wp2_with (first | (go_at_call 25;((with_reducible refine(KN.out _).mono ?_));rintro e w' ⟨rfl,rfl⟩) | (go_at_call 26;((with_reducible refine(KS.out _).mono ?_));rintro e w' ⟨rfl,rfl⟩));go_ret;exact⟨ret_bool HX.out.symm,two_boxesX _ _ _⟩
    subst hn;by_cases hx:X.toList=[]
    case neg=>
     have HX:Hid (v=false):=Lib.hid (by rw[hv];simp[hx]);clear hv;go_enter Tryz.func10,Tryz.ntmps10;go_wp2_with (first | (go_at_call 25;((with_reducible refine(KN.out _).mono ?_));rintro e w' ⟨rfl,rfl⟩) | (go_at_call 26;((with_reducible refine(KS.out _).mono ?_));rintro e w' ⟨rfl,rfl⟩));go_ret;exact⟨ret_bool HX.out.symm,two_boxesX _ _ _⟩
    by_cases hm0:m=2
    case neg=>
     have HX:Hid (v=false):=Lib.hid (by rw[hv];simp[hm0]);clear hv;go_enter Tryz.func10,Tryz.ntmps10;go_wp2_with (first | (go_at_call 25;((with_reducible refine(KN.out _).mono ?_));rintro e w' ⟨rfl,rfl⟩) | (go_at_call 26;((with_reducible refine(KS.out _).mono ?_));rintro e w' ⟨rfl,rfl⟩));go_ret;exact⟨ret_bool HX.out.symm,two_boxesX _ _ _⟩
    subst hm0;by_cases hb:¬ b2=0
    case neg=>
     obtain rfl:b2=0:=by omega
     have HX:Hid (v=false):=Lib.hid (by rw[hv];simp);clear hv;go_enter Tryz.func10,Tryz.ntmps10;go_wp2_with (first | (go_at_call 25;((with_reducible refine(KN.out _).mono ?_));rintro e w' ⟨rfl,rfl⟩) | (go_at_call 26;((with_reducible refine(KS.out _).mono ?_));rintro e w' ⟨rfl,rfl⟩));go_ret;exact⟨ret_bool HX.out.symm,two_boxesX _ _ _⟩
    have hb3:((b2:Int)==0)=false:=by simpa using hb
    by_cases hd64:d<64
    case neg=>
     have HX:Hid (v=false):=Lib.hid (by rw[hv];simp[hd64]);clear hv;go_enter Tryz.func10,Tryz.ntmps10;go_wp2_with (first | (go_at_call 25;((with_reducible refine(KN.out _).mono ?_));rintro e w' ⟨rfl,rfl⟩) | (go_at_call 26;((with_reducible refine(KS.out _).mono ?_));rintro e w' ⟨rfl,rfl⟩));go_ret;exact⟨ret_bool HX.out.symm,two_boxesX _ _ _⟩
    have HX:Hid (∀ b,mayL ks (d+1)=b→v=b):=Lib.hid (by rintro b rfl;rw[hv];simp[hx,hb,hd64]);clear hv;obtain⟨o1,ho1⟩:∃ o:Obj,o= .cells #[.int .i64 4,.int .i64 0,.string X,.string Y,.slice A 2 c] 24:=⟨_,rfl⟩;obtain⟨o2,ho2⟩:∃ o:Obj,o= .cells #[.int .i64 4,.int .i64 0,.string ⟨#[]⟩,.string Y,.slice none 0 0] 24:=⟨_,rfl⟩;have hbo:Below w.heap.size w ((w.alloc o1).alloc o2):=two_boxesX w o1 o2;have hc5:((w.alloc o1).alloc o2).cell? ⟨w.heap.size,4,none⟩=some (.slice A 2 c):=by rw[ho1];simp[go_sem]
    have hsz:((w.alloc o1).alloc o2).heap.size=w.heap.size+2:=by simp
    obtain⟨W2,hW2⟩:∃ W2,W2=(w.alloc o1).alloc o2:=⟨_,rfl⟩;have HW2:Hid (W2=(w.alloc (.cells #[.int .i64 4,.int .i64 0,.string X,.string Y,.slice A 2 c] 24)).alloc (.cells #[.int .i64 4,.int .i64 0,.string ⟨#[]⟩,.string Y,.slice none 0 0] 24)):=Lib.hid (by rw[hW2,ho1,ho2]);rw[←hW2] at hbo hc5 hsz;have HBO:=Lib.hid hbo;have HC5:=Lib.hid hc5;clear ho1 ho2 hW2 hbo hc5;go_enter Tryz.func10,Tryz.ntmps10;go_wp2_with (first | (go_at_call 25;((with_reducible refine(KN.out _).mono ?_));rintro e w' ⟨rfl,rfl⟩) | (go_at_call 26;((with_reducible refine(KS.out _).mono ?_));rintro e w' ⟨rfl,rfl⟩))
    go_loopw [7] (fun i wr=>∃ j:Nat,j≤2∧i= .int .i64 j∧mayL (ks.take j) (d+1)=true∧Below (w.heap.size+2) W2 wr) (fun i _=>2 - (intOf i).toNat)
    case atStart=>exact⟨0,by omega,rfl,by rw[List.take_zero,mayL],by rw[HW2.out];exact Below.refl _ _⟩
    case round=>
     obtain⟨j,hj,rfl,ht,hb1⟩:=hrel;have hb:Below w.heap.size w wr:=HBO.out.trans (hb1.mono (by omega));have c5:wr.cell? ⟨w.heap.size,4,none⟩=some (.slice A 2 c):=(hb1.cell (p:=⟨w.heap.size,4,none⟩) (by show w.heap.size<w.heap.size+2;omega)).trans HC5.out;have HB1:=Lib.hid hb1;have HT:=Lib.hid ht;clear ht hb1;by_cases a:j<2
     ·obtain⟨r,hr⟩:=getX_of_lt HM.out a
      obtain⟨ad,B,b,rfl,hp,h9,hkr⟩:=kidX_at HK.out hb hr;have hmem:=List.mem_of_getElem? hr
      have K:∀ w2,Below w.heap.size w w2→Calls Tryz.prog 10 #[valX r B b,.int .i64 ((d:Int)+1)] w2 fun e w'=>e= .returned (.bool (mayX r (d+1)))∧Below w2.heap.size w2 w':=fun w2 h2=>
       HI.out r hmem B b (d+1) w2 (hkr.next h2) (by omega) (by have:=HNM.out;have:=nmXL_mem hmem;omega)
      obtain⟨v2,hv2⟩:∃ v2,v2=mayX r (d+1):=⟨_,rfl⟩;rw[←hv2] at K;have HV2:=Lib.hid hv2;have HR:=Lib.hid hr;clear hr hv2 hkr hmem;obtain⟨k',n',nm',op',ks1⟩:=r;simp only[valX] at K;obtain⟨c0,c1,c2,c3,c4⟩:=h9;generalize (⟨nm'.toArray⟩:ByteArray)=M1 at K c2;generalize (⟨op'.toArray⟩:ByteArray)=M2 at K c3;obtain⟨l1,hl1⟩:∃ l,l=ks1.length:=⟨_,rfl⟩;rw[←hl1] at K c4;have HKC:=Lib.hid K;clear K hl1
      cases v2 with
      | true=>
        have HT2:Hid (mayL (ks.take (j+1)) (d+1)=true):=Lib.hid (by rw[mayL_take HR.out HT.out];exact HV2.out.symm);go_wp2_with (go_at_call 10;((with_reducible refine(HKC.out _ hb).mono ?_));rintro e w' ⟨rfl,hb2⟩)
        go_roundw
        case rel=>exact⟨j+1,by omega,by go_num,HT2.out,HB1.out.trans (hb2.mono (by have:=HB1.out.size;omega))⟩
        case measure=>simp[intOf];omega
      | false=>
        have HX2:Hid (v=false):=Lib.hid (HX.out _ (mayL_not HR.out HV2.out.symm));go_wp2_with (go_at_call 10;((with_reducible refine(HKC.out _ hb).mono ?_));rintro e w' ⟨rfl,hb2⟩);go_ret;exact⟨ret_bool HX2.out.symm,hb.trans (hb2.mono hb.size)⟩
     ·have HX2:Hid (v=true):=by
       apply Lib.hid;apply HX.out;have:=HT.out;rw[List.take_of_length_le (by have:=HM.out;omega)] at this;exact this
      go_wp2;go_ret;exact⟨ret_bool HX2.out.symm,hb⟩
   have HX:Hid (v=false):=Lib.hid (by rw[hv];simp[k0,k1,k2,k3,k4]);clear hv;have q0:(k==0)=false:=by simpa using k0
   have q1:(k==1)=false:=by simpa using k1
   have q2:(k==2)=false:=by simpa using k2
   have q3:(k==3)=false:=by simpa using k3
   have q4:(k==4)=false:=by simpa using k4
   have q5:k<0∨4<k:=by omega
   clear k0 k1 k2 k3 k4;go_enter Tryz.func10,Tryz.ntmps10;go_wp2
   all_goals (go_ret;exact⟨ret_bool HX.out.symm,two_boxesX _ _ _⟩)
end Go.Proofs.YthghbdeaenjckaaGreatDoor
