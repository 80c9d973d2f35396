import Derived.Test.YtejgbpbljdhndaaDoorRSet2
import Derived.Test.YtejgbpbljdhndaaDoorParts
import Derived.Test.YtejgbpbljdhndaaDoorParse
namespace Go.Proofs.YtejgbpbljdhndaaDoor
open Go Go.RowKit
set_option maxRecDepth 100000
set_option maxHeartbeats 4000000
theorem Box9.later {w w':World} {c:Nat} {v0 v1 v2 v3 v4 v5 v6 v7 v8:Value} (h:Box9 w c v0 v1 v2 v3 v4 v5 v6 v7 v8) (hb:Below w.heap.size w w'):Box9 w' c v0 v1 v2 v3 v4 v5 v6 v7 v8:=h.grown (b:=c+1) (z0f hb) (by omega)
theorem y3h (x:Re) (A:Option Addr) (c:Nat):∃ (k s0 s1 s2 s3:Int) (m:Nat) (lo hi n:Int),valR x A c= .agg #[.int .i64 k,.int .u64 s0,.int .u64 s1,.int .u64 s2,.int .u64 s3,.slice A m c,.int .i64 lo,.int .i64 hi,.int .i64 n]:=by
 obtain⟨k,S,ks,lo,hi,n⟩:=x;exact⟨_,_,_,_,_,_,_,_,_,rfl⟩
def RTextC (r:Re):Prop:=∀ (A:Option Addr) (c:Nat) (w:World) (lv d g g':Nat),Kids (Lt w.heap.size) w A r→form r lv d g=some g'→(textE r).length≤900000→sizeE r≤1000000→
 Calls Tryd.prog 45 #[valR r A c] w fun e w'=>e= .returned (.string ⟨(textE r).toArray⟩)∧Below w.heap.size w w'
def LoopX (sep:Bs) (ks:List Re) (w0:World) (o i:Value) (w:World):Prop:=∃ (j:Nat) (T:ByteArray),j≤ks.length∧i= .int .i64 j∧o= .string T∧T.data.toList=joinT sep (ks.take j)∧Below w0.heap.size w0 w
theorem y4s {k:Int} {S:S4} {ks:List Re} {lo hi n:Int} {lv d g g':Nat} (h:form (.mk k S ks lo hi n) lv d g=some g'):∃ lv' d' g0,formL ks lv' d' g0=some g':=by
 obtain⟨_,_,h3,h4⟩:=z1l h;by_cases k7:k=7
 ·exact⟨_,_,_,(h3 k7).2.2⟩
 ·exact⟨_,_,_,h4 k7⟩
theorem z90 {sep:Bs}:∀ {l:List Re} {x:Re},x∈l→(textE x).length≤(joinT sep l).length
 | [],x,h=>by cases h
 | y::l,x,h=>by
   rw[joinT,List.length_append]
   rcases List.mem_cons.1 h with rfl | h
   ·omega
   ·have:∀ l:List Re,x∈l→(textE x).length≤(tailT sep l).length:=by
     intro l
     induction l with
     | nil=>intro h;cases h
     | cons z l ih=>
       intro h;rw[tailT,List.length_append,List.length_append]
       rcases List.mem_cons.1 h with rfl | h
       ·omega
       ·have:=ih h;omega
    have:=this l h;omega
theorem y48 (r:Re):RTextC r:=by
 induction r using Re.ind with
 | h k S ks lo hi n ih=>
   intro A c w lv d g g' hk hf hl hsz;rw[sizeE] at hsz;have hmx:=z00 ks;have f2:=(z1l hf).2.1;have t3:=(z3l f2).2.2.1;obtain⟨lvk,dk,g0,hfl⟩:=y4s hf;obtain⟨R,hR⟩:∃ R:ByteArray,R=⟨(textE (.mk k S ks lo hi n)).toArray⟩:=⟨_,rfl⟩;rw[←hR]
   have HT:Hid (textE (.mk k S ks lo hi n)=if k=1 then setText S else if k=2 then [94] else if k=3 then [36]
    else if k=7 then 40::(joinT [] ks++[41]) else if k=6 then joinT [] ks++signT lo hi else joinT (if k=5 then [124] else []) ks):=Lib.hid (by rw[textE])
   have HR:=Lib.hid hR;have HL:=Lib.hid hl;have HK:=Lib.hid hk;have HI:=Lib.hid ih;have HFL:=Lib.hid hfl;have T3:=Lib.hid t3;simp only[valR];obtain⟨m,hm⟩:∃ m,m=ks.length:=⟨_,rfl⟩;rw[←hm];have hm9:m≤1000000:=by omega
   have HSZ:=Lib.hid hsz;have HM:=Lib.hid hm;clear hmx hsz;clear hk ih hm hR hl hf f2 t3 hfl;have K26:=Lib.hid fun w=>y8z S w
   obtain⟨s0,hs0⟩:∃ s0:Int,s0=S.1.toNat:=⟨_,rfl⟩;obtain⟨s1,hs1⟩:∃ s1:Int,s1=S.2.1.toNat:=⟨_,rfl⟩;obtain⟨s2,hs2⟩:∃ s2:Int,s2=S.2.2.1.toNat:=⟨_,rfl⟩;obtain⟨s3,hs3⟩:∃ s3:Int,s3=S.2.2.2.toNat:=⟨_,rfl⟩;rw[←hs0,←hs1,←hs2,←hs3] at K26 ⊢;clear hs0 hs1 hs2 hs3;have hX:=Box9.new w (.int .i64 k) (.int .u64 s0) (.int .u64 s1) (.int .u64 s2) (.int .u64 s3) (.slice A m c) (.int .i64 lo) (.int .i64 hi) (.int .i64 n);have hB:=z0b w (.cells #[.int .i64 k,.int .u64 s0,.int .u64 s1,.int .u64 s2,.int .u64 s3,.slice A m c,.int .i64 lo,.int .i64 hi,.int .i64 n] 27);have HX:=Lib.hid hX;have HB:=Lib.hid hB;clear hX hB;by_cases k1:k=1
   ·have HE:Hid (R=⟨(setText S).toArray⟩):=Lib.hid (by rw[HR.out,HT.out,if_pos k1])
    subst k1;go_enter Tryd.func45,Tryd.ntmps45;go_wp2_with (go_at_call 64;((with_reducible refine(K26.out _).mono ?_));rintro e w1 ⟨rfl,hb1⟩;have HB1:=Lib.hid hb1;clear hb1);go_ret;exact⟨z1z HE.out.symm,z1d HB.out HB1.out⟩
   ·have b1:(k==1)=false:=by simp;omega
    by_cases k2:k=2
    ·have HE:Hid (R=⟨#[94]⟩):=Lib.hid (by rw[HR.out,HT.out,if_neg k1,if_pos k2])
     subst k2;clear b1 k1;go_enter Tryd.func45,Tryd.ntmps45;go_wp2;go_ret;exact⟨z1z HE.out.symm,HB.out⟩
    ·have b2:(k==2)=false:=by simp;omega
     by_cases k3:k=3
     ·have HE:Hid (R=⟨#[36]⟩):=Lib.hid (by rw[HR.out,HT.out,if_neg k1,if_neg k2,if_pos k3])
      subst k3;clear b1 k1 b2 k2;go_enter Tryd.func45,Tryd.ntmps45;go_wp2;go_ret;exact⟨z1z HE.out.symm,HB.out⟩
     ·have b3:(k==3)=false:=by simp;omega
      have HT2:Hid (textE (.mk k S ks lo hi n)=if k=7 then 40::(joinT [] ks++[41]) else if k=6 then joinT [] ks++signT lo hi else joinT (if k=5 then [124] else []) ks):=Lib.hid (by rw[HT.out,if_neg k1,if_neg k2,if_neg k3]);obtain⟨sep,hsep⟩:∃ sep:Bs,sep=if k=5 then [124] else []:=⟨_,rfl⟩
      have HS:=Lib.hid hsep
      have HJ:Hid ((joinT sep ks).length≤900000):=Lib.hid (by
       have h:=HL.out;rw[HT2.out] at h;rw[hsep];by_cases k7:k=7
       ·rw[if_pos k7] at h;rw[if_neg (by omega)];simp at h;omega
       ·by_cases k6:k=6
        ·rw[if_neg k7,if_pos k6,List.length_append] at h;rw[if_neg (by omega)];omega
        ·rw[if_neg k7,if_neg k6] at h;exact h)
      clear k1 k2 k3 hsep;go_enter Tryd.func45,Tryd.ntmps45;go_wp2
      go_loopw [3,4] (fun o i wr=>LoopX sep ks (w.alloc (.cells #[.int .i64 k,.int .u64 s0,.int .u64 s1,.int .u64 s2,.int .u64 s3,.slice A m c,.int .i64 lo,.int .i64 hi,.int .i64 n] 27)) o i wr) (fun _ i _=>m - (intOf i).toNat)
      case atStart=>exact⟨0,⟨#[]⟩,by omega,rfl,rfl,by simp[joinT],Below.refl _ _⟩
      case round=>
       obtain⟨j,T,hj,rfl,rfl,hT3,hb3⟩:=hrel;obtain⟨x0,x1,x2,x3,x4,x5,x6,x7,x8,_⟩:=HX.out.later hb3;have HB3:=Lib.hid (z1d HB.out hb3)
       have hTl:T.size≤900000:=by
        rw[←z0o,hT3];exact Nat.le_trans (y1y sep ks j) HJ.out
       have HT3:=Lib.hid hT3;have HB4:=Lib.hid hb3;clear hT3 hb3;by_cases a:j<m
       ·obtain⟨x,hx⟩:=z0u HM.out a
        obtain⟨ad,A',c',rfl,hp,h9,hkr⟩:=z3t HK.out HB3.out hx;have hmem:=List.mem_of_getElem? hx;obtain⟨g1,g2,hform⟩:=z39 HFL.out hx;have hxs:sizeE x≤1000000:=by have:=z31 hmem;have:=HSZ.out;omega
        have hxl:=Nat.le_trans (z90 (sep:=sep) hmem) HJ.out;have HN:=Lib.hid (z78 (sep:=sep) hx);obtain⟨TX,hTX⟩:∃ TX:ByteArray,TX=⟨(textE x).toArray⟩:=⟨_,rfl⟩
        have K:∀ w2,Below w.heap.size w w2→Calls Tryd.prog 45 #[valR x A' c'] w2 fun e w'=>e= .returned (.string TX)∧Below w2.heap.size w2 w':=fun w2 h2=>by
         rw[hTX];exact HI.out x hmem A' c' w2 lvk dk g1 g2 (hkr.next h2) hform hxl hxs
        have hTXl:TX.size≤900000:=z3n (l:=textE x) (by rw[hTX]) hxl;have HTX:Hid (TX.data.toList=textE x):=Lib.hid (by rw[hTX]);obtain⟨k',S',ks',lo',hi',n'⟩:=x;simp only[valR] at K;have HKC:=Lib.hid K;obtain⟨d0,d1,d2,d3,d4,d5,d6,d7,d8⟩:=h9;clear hx hkr hmem K hform hxl hTX hxs;by_cases j0:j=0
        ·have HE:Hid (joinT sep (ks.take (j+1))=joinT sep (ks.take j)++textE (.mk k' S' ks' lo' hi' n')):=Lib.hid (by rw[HN.out,if_pos j0];rfl)
         have e0:decide ((0:Int)<(j:Int))=false:=by simp;omega
         have e0':decide (0<j)=false:=by simp;omega
         clear j0;go_wp2_with (go_at_call 45;((with_reducible refine(HKC.out _ HB3.out).mono ?_));rintro e w2 ⟨rfl,hb2⟩;have HB5:=Lib.hid hb2;clear hb2)
         go_roundw
         case rel=>exact⟨j+1,_,by have:=HM.out;omega,by go_num,rfl,by rw[HE.out];exact z0q _ _ _ _ HT3.out HTX.out,z1d HB4.out HB5.out⟩
         case measure=>simp[intOf];omega
        ·have HE:Hid (joinT sep (ks.take (j+1))=joinT sep (ks.take j)++(sep++textE (.mk k' S' ks' lo' hi' n'))):=Lib.hid (by rw[HN.out,if_neg j0])
         have e0:decide ((0:Int)<(j:Int))=true:=by simp;omega
         have e0':0<j:=by omega
         by_cases k5:k=5
         ·have HE2:Hid (joinT sep (ks.take (j+1))=joinT sep (ks.take j)++[124]++textE (.mk k' S' ks' lo' hi' n')):=Lib.hid (by rw[HE.out,HS.out,if_pos k5];simp)
          have e5:(k==5)=true:=by simp;omega
          clear k5;go_wp2_with (go_at_call 45;((with_reducible refine(HKC.out _ HB3.out).mono ?_));rintro e w2 ⟨rfl,hb2⟩;have HB5:=Lib.hid hb2;clear hb2)
          go_roundw
          case rel=>exact⟨j+1,_,by have:=HM.out;omega,by go_num,rfl,by rw[HE2.out];exact z0q _ _ _ _ (z0q _ _ _ _ HT3.out (rfl:(⟨#[124]⟩:ByteArray).data.toList=[124])) HTX.out,z1d HB4.out HB5.out⟩
          case measure=>simp[intOf];omega
         ·have HE2:Hid (joinT sep (ks.take (j+1))=joinT sep (ks.take j)++textE (.mk k' S' ks' lo' hi' n')):=Lib.hid (by rw[HE.out,HS.out,if_neg k5];rfl)
          have e5:(k==5)=false:=by simp;omega
          go_wp2_with (go_at_call 45;((with_reducible refine(HKC.out _ HB3.out).mono ?_));rintro e w2 ⟨rfl,hb2⟩;have HB5:=Lib.hid hb2;clear hb2)
          go_roundw
          case rel=>exact⟨j+1,_,by have:=HM.out;omega,by go_num,rfl,by rw[HE2.out];exact z0q _ _ _ _ HT3.out HTX.out,z1d HB4.out HB5.out⟩
          case measure=>simp[intOf];omega
       ·have HJT:Hid (T.data.toList=joinT sep ks):=Lib.hid (by rw[HT3.out,List.take_of_length_le (by have:=HM.out;omega)])
        by_cases k7:k=7
        ·have HE:Hid ((textE (.mk k S ks lo hi n))=[40]++joinT sep ks++[41]):=Lib.hid (by rw[HT2.out,if_pos k7,HS.out,if_neg (by omega)];simp)
         have e7:(k==7)=true:=by simp;omega
         go_wp2;go_ret;exact⟨z1z (by rw[HR.out];exact ba_eq _ _ (by rw[HE.out];exact z0q _ _ _ _ (z0q _ _ _ _ (rfl:(⟨#[40]⟩:ByteArray).data.toList=[40]) HJT.out) (rfl:(⟨#[41]⟩:ByteArray).data.toList=[41]))),HB3.out⟩
        ·have e7:(k==7)=false:=by simp;omega
         by_cases k6:k=6
         ·have HE:Hid ((textE (.mk k S ks lo hi n))=joinT sep ks++signT lo hi):=Lib.hid (by rw[HT2.out,if_neg k7,if_pos k6,HS.out,if_neg (by omega)])
          have hbnd:=(T3.out k6).2;have e6:(k==6)=true:=by simp;omega
          obtain⟨TS,hTS⟩:∃ TS:ByteArray,TS=⟨(signT lo hi).toArray⟩:=⟨_,rfl⟩;have KS:Hid (∀ w,Calls Tryd.prog 65 #[.int .i64 lo,.int .i64 hi] w fun e w'=>e= .returned (.string TS)∧Below w.heap.size w w'):=Lib.hid fun w=>by rw[hTS];exact y5m lo hi hbnd w
          have hTSl:TS.size≤900000:=z3n (l:=signT lo hi) (by rw[hTS]) (by have:=z9s lo hi;omega);have HTS:Hid (TS.data.toList=signT lo hi):=Lib.hid (by rw[hTS]);clear hTS hbnd;go_wp2_with (go_at_call 65;((with_reducible refine(KS.out _).mono ?_));rintro e w2 ⟨rfl,hb2⟩;have HB5:=Lib.hid hb2;clear hb2);go_ret;exact⟨z1z (by rw[HR.out];exact ba_eq _ _ (by rw[HE.out];exact z0q _ _ _ _ HJT.out HTS.out)),z1d HB3.out HB5.out⟩
         ·have HE:Hid ((textE (.mk k S ks lo hi n))=joinT sep ks):=Lib.hid (by rw[HT2.out,if_neg k7,if_neg k6,HS.out])
          have e6:(k==6)=false:=by simp;omega
          go_wp2;go_ret;exact⟨z1z (by rw[HR.out];exact ba_eq _ _ (by rw[HE.out];exact HJT.out)),HB3.out⟩
end Go.Proofs.YtejgbpbljdhndaaDoor
