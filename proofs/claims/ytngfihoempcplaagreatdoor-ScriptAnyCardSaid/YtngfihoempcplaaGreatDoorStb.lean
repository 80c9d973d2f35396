import Derived.Test.YtngfihoempcplaaGreatDoorCf
import Derived.Test.YtngfihoempcplaaGreatDoorSd16
namespace Go.Proofs.YtngfihoempcplaaGreatDoor
open Go Go.RowKit
set_option maxRecDepth 100000
set_option maxHeartbeats 8000000
inductive Dca (b:Nat) (S:BA) (A:OA) (n c:Nat) (l:List Tok) (d k:Nat) (p:Int) (R:Rz Cm):Nat→Prop where
 | k0 (KF:FaiC b S A n c l k 1 k 0 k 1) (hR:R= .bad k false):Dca b S A n c l d k p R 0
 | k15 (HE:R.at=(k+1)∧R.err=0∧∀ y j,R= .ok y j→y= .mk 15 [] 0 [] exNone [] [] [] p):Dca b S A n c l d k p R 15
 | k16 (HE:R.at=(k+1)∧R.err=0∧∀ y j,R= .ok y j→y= .mk 16 [] 0 [] exNone [] [] [] p):Dca b S A n c l d k p R 16
 | k7 (R1:Rz Bs) (K1:NaC b S A n c l (k+1) 0 R1) (HE:∀ (s:Bs),(∀ y j,R1= .ok y j→y=s)→R.at=R1.at∧R.err=R1.err∧∀ y j,R= .ok y j→y= .mk 7 s 0 [] exNone [] [] [] p):Dca b S A n c l d k p R 7
 | k8 (R1:Rz Tok) (K1:TakC b S A n c l 2 (k+1) 0 R1) (HE:∀ (tn:Tok),(∀ y j,R1= .ok y j→y=tn)→R.at=R1.at∧R.err=R1.err∧∀ y j,R= .ok y j→y= .mk 8 [] tn.n [] exNone [] [] [] p):Dca b S A n c l d k p R 8
 | k9 (R1:Rz Tok) (K1:TakC b S A n c l 2 (k+1) 0 R1) (HE:∀ (tn:Tok),(∀ y j,R1= .ok y j→y=tn)→R.at=R1.at∧R.err=R1.err∧∀ y j,R= .ok y j→y= .mk 9 [] tn.n [] exNone [] [] [] p):Dca b S A n c l d k p R 9
theorem z7u (b:Nat) (w:World) (S:BA) (A:OA) (n c:Nat) (l:List Tok) (d k:Nat) (h:DocS b w S A n c l k 0) (t0:Tok) (ht:l[k]?=some t0) (K:Nat) (hK:K≤16) (KW:∀ j,j<16→IsC b S A n c l 1 (wdS j) k 0 (decide (K=j+1))) (R:Rz Cm) (HQ:Dca b S A n c l d k t0.pl R K):
  Cz 35 #[pP b,d] w (CmdD b w S A n c l R):=by
 have H:=zz (Cy.start h);have hlt:=h.lt;have hl:=h.len;have hk:k<n:=by have:=(List.getElem?_eq_some_iff.1 ht).1;omega
 have HK:Hid (k+1≤n):=zz (by omega);have nb:n≤4000:=by have:=h.few;omega
 have kb:k≤4000:=by omega
 have hn2:n≤1000000:=by omega
 have hk1:(k:Int)<n:=by omega
 obtain⟨ad,A',c',rfl,h5,_⟩:=h.row.at_ ht
 have x4:=h5.2.2.2.2;have hbt:(ad.add (k * 5)).block<w.heap.size:=by have:=World.block_lt_of_cell? w _ x4;exact this
 obtain⟨pl,hpl⟩:∃ pl,pl=t0.pl:=⟨_,rfl⟩;rw[←hpl] at x4 HQ;have d1:=h.c1;have d2:=h.at0;have KO:=zz z4e;clear ht h hl hk hpl h5;unfold CmdD;go_enter Tryz.func35,Tryz.ntmps35;go_wp2
 go_region
 obtain⟨W,HW,hW⟩:∃ W,Hid (Cy b w W S (some ad) n c l k 0 [(w.heap.size+1,[oZ,oS,oZ,(),oZ,oZ,oS,oS,(),(),(),(),pl]),(w.heap.size,zeroC)])∧W=((w.alloc (.cells #[oZ,oS,oZ,(),oZ,oZ,oS,oS,(),(),(),(),oZ] 41)).alloc (.cells #[oZ,oS,oZ,(),oZ,oZ,oS,oS,(),(),(),(),pl] 41)).drew:=⟨_,zz (by have:=((H.out.alloc 41 zeroC (by simp)).alloc 41 [oZ,oS,oZ,(),oZ,oZ,oS,oS,(),(),(),(),pl] (by simp)).drew;simpa using this),rfl⟩;rw[←hW];clear hW d1 d2 x4 hbt;obtain⟨q,hq⟩:∃ q,q=w.heap.size+1:=⟨_,rfl⟩;rw[←hq] at HW ⊢;clear hq;go_wp2_with (go_at_call 71;go_must ((with_reducible refine(KO.out _).mono ?_);rintro e w1 ⟨rfl,rfl⟩;have HD:=zz (HW.out.alloc 9 wdL (by simp))));obtain⟨W1,hW1⟩:∃ W1,W1=W.alloc (.cells wdL.toArray 9):=⟨_,rfl⟩;obtain⟨g,hg⟩:∃ g,g=W.heap.size:=⟨_,rfl⟩;have HD2:Hid (Cy b w W1 S (some ad) n c l k 0 [(g,wdL),(q,[oZ,oS,oZ,(),oZ,oZ,oS,oS,(),(),(),(),pl]),(w.heap.size,zeroC)]):=zz (by rw[hW1,hg];exact HD.out);rw[←hW1,←hg];clear hW1 hg HD
 go_loopw [7] (fun i_ wr=>∃ (j:Nat) (z:Int),j≤16∧Hid (z=if K≤j then (K:Int) else 0)∧i_= .int .i64 j∧Hid (Cy b w wr S (some ad) n c l k 0 [(g,wdL),(q,[z,oS,oZ,(),oZ,oZ,oS,oS,(),(),(),(),pl]),(w.heap.size,zeroC)])) (fun i_ _=>16 - (intOf i_).toNat)
 case atStart=>exact⟨0,0,by omega,zz (by split <;> omega),rfl,HD2⟩
 case round=>
  obtain⟨j,z,hj,HZ,rfl,HJ⟩:=hrel;by_cases a:j<16
  ·have KWJ:=KW j a
   have ej:=(HJ.out.box 0 g wdL rfl).at_ j _ (y4e a)
   obtain⟨q0,q1,q2,q3,q4⟩:=HJ.out.three;by_cases e:K=j+1
   ·rw[decide_eq_true e] at KWJ
    have HZ2:Hid (((j:Int)+1)=if K≤j+1 then (K:Int) else 0):=zz (by rw[if_pos (by omega)];omega);clear e;go_wp2_with (go_at_call 34;go_must ((with_reducible refine(KWJ.out _ HJ.out.rd).mono ?_);rintro e w2 ⟨rfl,hb2⟩;have HJ2:=zz (HJ.out.below hb2);have u0:=(HJ2.out.box 1 q _ rfl).at_ 0 _ rfl;have f0:=(HJ2.out.box 1 q _ rfl).fr 0 (by simp);obtain⟨q0,q1,q2,q3,q4⟩:=HJ2.out.three;clear hb2))
    go_roundw
    case rel=>exact⟨j+1,(j:Int)+1,by omega,HZ2,by go_num,zz (HJ2.out.put 1 q _ rfl 0 (by simp) (.int .i64 ((j:Int)+1)))⟩
    case measure=>simp[intOf];omega
   ·rw[decide_eq_false e] at KWJ
    have HZ2:Hid (z=if K≤j+1 then (K:Int) else 0):=zz (by have h9:=HZ.out;split at h9 <;> split <;> omega);clear e;go_wp2_with (go_at_call 34;go_must ((with_reducible refine(KWJ.out _ HJ.out.rd).mono ?_);rintro e w2 ⟨rfl,hb2⟩;have HJ2:=zz (HJ.out.below hb2);clear hb2))
    go_roundw
    case rel=>exact⟨j+1,z,by omega,HZ2,by go_num,HJ2⟩
    case measure=>simp[intOf];omega
  ·have hz:z=(K:Int):=by have h9:=HZ.out;rw[if_pos (by omega)] at h9;exact h9
   clear HZ KW hK
   cases HQ with
   | k0 KF hR=>
     subst hR;obtain rfl:z=0:=by omega
     clear hz;have u0:=(HJ.out.box 1 q _ rfl).at_ 0 _ rfl
     obtain⟨q0,q1,q2,q3,q4⟩:=HJ.out.three;have d2:=HJ.out.rd.at0;have e2:=HJ.out.rd.f2;go_wp2_with (first
     | (go_at_call 20;go_must ((with_reducible refine(KF.out _ HJ.out.rd).mono ?_);rintro e v1 ⟨rfl,hs1⟩;have HC1:=zz (HJ.out.call hs1);obtain⟨y0,y1,y2,y3,y4,y5,y6,y7,y8,y9,y10,y11,y12⟩:=(HC1.out.box 1 q _ rfl).all13;obtain⟨g0,g1,g2,g3,g4,g5,g6,g7,g8,g9,g10,g11,g12⟩:=(HC1.out.box 2 w.heap.size zeroC rfl).all13;obtain⟨j0,j1,j2,j3,j4,j5,j6,j7,j8,j9',j10,j11,j12⟩:=(HC1.out.box 2 w.heap.size zeroC rfl).fre13;obtain⟨q0,q1,q2,q3,q4⟩:=HC1.out.three;clear hs1)))
     have HL:=HC1.out.put13 2 w.heap.size _ _ _ _ _ _ _ _ _ _ _ _ _ rfl (.int .i64 0) oS oZ () oZ oZ oS oS () () () () (.int .i64 pl);obtain⟨r0,r1,r2,r3,r4,r5,r6,r7,r8,r9,r10,r11,r12⟩:=(HL.box 2 w.heap.size _ rfl).all13;exact bodyPost_ret (v:= .agg #[oZ,oS,oZ,(),oZ,oZ,oS,oS,(),(),(),(),pl]) (by simp[results,Tryz.results35,go_sem,r0,r1,r2,r3,r4,r5,r6,r7,r8,r9,r10,r11,r12]) rfl ⟨.mk 0 [] 0 [] exNone [] [] [] pl,⟨none,0,none,0,none,0,none,0,none,0⟩,rfl,HL.step,(fun y j e=>by cases e),fun h0=>by cases h0⟩
   | k15 HE=>
     have HE:=zz HE;obtain rfl:z=15:=by omega
     clear hz;have u0:=(HJ.out.box 1 q _ rfl).at_ 0 _ rfl
     obtain⟨q0,q1,q2,q3,q4⟩:=HJ.out.three;have d2:=HJ.out.rd.at0;have e2:=HJ.out.rd.f2;have HY:=zz (HJ.out.place (k+1) ((k:Int)+1) (by omega) HK.out);obtain⟨y0,y1,y2,y3,y4,y5,y6,y7,y8,y9,y10,y11,y12⟩:=(HJ.out.box 1 q _ rfl).all13;obtain⟨g0,g1,g2,g3,g4,g5,g6,g7,g8,g9,g10,g11,g12⟩:=(HJ.out.box 2 w.heap.size zeroC rfl).all13;obtain⟨j0,j1,j2,j3,j4,j5,j6,j7,j8,j9',j10,j11,j12⟩:=(HJ.out.box 2 w.heap.size zeroC rfl).fre13;go_wp2;have HL:=HY.out.put13 2 w.heap.size _ _ _ _ _ _ _ _ _ _ _ _ _ rfl (.int .i64 15) oS oZ () oZ oZ oS oS () () () () (.int .i64 pl);obtain⟨r0,r1,r2,r3,r4,r5,r6,r7,r8,r9,r10,r11,r12⟩:=(HL.box 2 w.heap.size _ rfl).all13;refine bodyPost_ret (v:= .agg #[iI 15,oS,oZ,(),oZ,oZ,oS,oS,(),(),(),(),pl]) (by simp[results,Tryz.results35,go_sem,r0,r1,r2,r3,r4,r5,r6,r7,r8,r9,r10,r11,r12]) rfl ⟨.mk 15 [] 0 [] exNone [] [] [] pl,⟨none,0,none,0,none,0,none,0,none,0⟩,rfl,?_,(HE.out).2.2,fun h0=>?_⟩
     ·rw[(HE.out).1,(HE.out).2.1];exact HL.step
     ·exact z0u.2 ⟨.inl rfl,KidsX.leaf _ _ _ _ _ _ _,.inl rfl,.inl rfl,.inl rfl⟩
   | k16 HE=>
     have HE:=zz HE;obtain rfl:z=16:=by omega
     clear hz;have u0:=(HJ.out.box 1 q _ rfl).at_ 0 _ rfl
     obtain⟨q0,q1,q2,q3,q4⟩:=HJ.out.three;have d2:=HJ.out.rd.at0;have e2:=HJ.out.rd.f2;have HY:=zz (HJ.out.place (k+1) ((k:Int)+1) (by omega) HK.out);obtain⟨y0,y1,y2,y3,y4,y5,y6,y7,y8,y9,y10,y11,y12⟩:=(HJ.out.box 1 q _ rfl).all13;obtain⟨g0,g1,g2,g3,g4,g5,g6,g7,g8,g9,g10,g11,g12⟩:=(HJ.out.box 2 w.heap.size zeroC rfl).all13;obtain⟨j0,j1,j2,j3,j4,j5,j6,j7,j8,j9',j10,j11,j12⟩:=(HJ.out.box 2 w.heap.size zeroC rfl).fre13;go_wp2;have HL:=HY.out.put13 2 w.heap.size _ _ _ _ _ _ _ _ _ _ _ _ _ rfl (.int .i64 16) oS oZ () oZ oZ oS oS () () () () (.int .i64 pl);obtain⟨r0,r1,r2,r3,r4,r5,r6,r7,r8,r9,r10,r11,r12⟩:=(HL.box 2 w.heap.size _ rfl).all13;refine bodyPost_ret (v:= .agg #[iI 16,oS,oZ,(),oZ,oZ,oS,oS,(),(),(),(),pl]) (by simp[results,Tryz.results35,go_sem,r0,r1,r2,r3,r4,r5,r6,r7,r8,r9,r10,r11,r12]) rfl ⟨.mk 16 [] 0 [] exNone [] [] [] pl,⟨none,0,none,0,none,0,none,0,none,0⟩,rfl,?_,(HE.out).2.2,fun h0=>?_⟩
     ·rw[(HE.out).1,(HE.out).2.1];exact HL.step
     ·exact z0u.2 ⟨.inl rfl,KidsX.leaf _ _ _ _ _ _ _,.inl rfl,.inl rfl,.inl rfl⟩
   | k7 R1 K1 HE=>
     have HE:=zz HE;obtain rfl:z=7:=by omega
     clear hz;have u0:=(HJ.out.box 1 q _ rfl).at_ 0 _ rfl
     obtain⟨q0,q1,q2,q3,q4⟩:=HJ.out.three;have d2:=HJ.out.rd.at0;have e2:=HJ.out.rd.f2;have HY:=zz (HJ.out.place (k+1) ((k:Int)+1) (by omega) HK.out);go_wp2_with (first
     | (go_at_call 72;go_must ((with_reducible refine(K1.out _ HY.out.rd).mono ?_);rintro e v1 ⟨s,rfl,hs1,hv1⟩;have HP1:=zz HY.out;have HC1:=zz (HP1.out.call hs1);have HV1:=zz hv1;obtain⟨q0,q1,q2,q3,q4⟩:=HC1.out.three;obtain⟨y0,y1,y2,y3,y4,y5,y6,y7,y8,y9,y10,y11,y12⟩:=(HC1.out.box 1 q _ rfl).all13;obtain⟨g0,g1,g2,g3,g4,g5,g6,g7,g8,g9,g10,g11,g12⟩:=(HC1.out.box 2 w.heap.size zeroC rfl).all13;obtain⟨j0,j1,j2,j3,j4,j5,j6,j7,j8,j9',j10,j11,j12⟩:=(HC1.out.box 2 w.heap.size zeroC rfl).fre13;have y0:=(HC1.out.box 1 q _ rfl).at_ 0 _ rfl;have f0:=(HC1.out.box 1 q _ rfl).fr 0 (by simp);have y1:=(HC1.out.box 1 q _ rfl).at_ 1 _ rfl;have f1:=(HC1.out.box 1 q _ rfl).fr 1 (by simp);clear hs1 hv1)))
     have HL:=(HC1.out.put 1 q _ rfl 1 (by simp) (.string ⟨s.toArray⟩)).put13 2 w.heap.size _ _ _ _ _ _ _ _ _ _ _ _ _ rfl (.int .i64 7) (.string ⟨s.toArray⟩) oZ () oZ oZ oS oS () () () () (.int .i64 pl);obtain⟨r0,r1,r2,r3,r4,r5,r6,r7,r8,r9,r10,r11,r12⟩:=(HL.box 2 w.heap.size _ rfl).all13;refine bodyPost_ret (v:= .agg #[iI 7,s,oZ,(),oZ,oZ,oS,oS,(),(),(),(),pl]) (by simp[results,Tryz.results35,go_sem,r0,r1,r2,r3,r4,r5,r6,r7,r8,r9,r10,r11,r12]) rfl ⟨.mk 7 s 0 [] exNone [] [] [] pl,⟨none,0,none,0,none,0,none,0,none,0⟩,rfl,?_,(HE.out s HV1.out).2.2,fun h0=>?_⟩
     ·rw[(HE.out s HV1.out).1,(HE.out s HV1.out).2.1];exact HL.step
     ·exact z0u.2 ⟨.inl rfl,KidsX.leaf _ _ _ _ _ _ _,.inl rfl,.inl rfl,.inl rfl⟩
   | k8 R1 K1 HE=>
     have HE:=zz HE;have tf2:=tokF2;obtain rfl:z=8:=by omega
     clear hz;have u0:=(HJ.out.box 1 q _ rfl).at_ 0 _ rfl
     obtain⟨q0,q1,q2,q3,q4⟩:=HJ.out.three;have d2:=HJ.out.rd.at0;have e2:=HJ.out.rd.f2;have HY:=zz (HJ.out.place (k+1) ((k:Int)+1) (by omega) HK.out);go_wp2_with (first
     | (go_at_call 73;go_must ((with_reducible refine(K1.out _ HY.out.rd).mono ?_);rintro e v1 ⟨tn,A1,c1,rfl,hs1,hr1,hv1⟩;have HP1:=zz HY.out;have HC1:=zz (HP1.out.call hs1);have HV1:=zz hv1;obtain⟨q0,q1,q2,q3,q4⟩:=HC1.out.three;obtain⟨y0,y1,y2,y3,y4,y5,y6,y7,y8,y9,y10,y11,y12⟩:=(HC1.out.box 1 q _ rfl).all13;obtain⟨g0,g1,g2,g3,g4,g5,g6,g7,g8,g9,g10,g11,g12⟩:=(HC1.out.box 2 w.heap.size zeroC rfl).all13;obtain⟨j0,j1,j2,j3,j4,j5,j6,j7,j8,j9',j10,j11,j12⟩:=(HC1.out.box 2 w.heap.size zeroC rfl).fre13;have y0:=(HC1.out.box 1 q _ rfl).at_ 0 _ rfl;have f0:=(HC1.out.box 1 q _ rfl).fr 0 (by simp);have y2:=(HC1.out.box 1 q _ rfl).at_ 2 _ rfl;have f2:=(HC1.out.box 1 q _ rfl).fr 2 (by simp);clear hs1 hv1 hr1)))
     have HL:=(HC1.out.put 1 q _ rfl 2 (by simp) (.int .i64 tn.n)).put13 2 w.heap.size _ _ _ _ _ _ _ _ _ _ _ _ _ rfl (.int .i64 8) oS (.int .i64 tn.n) () oZ oZ oS oS () () () () (.int .i64 pl);obtain⟨r0,r1,r2,r3,r4,r5,r6,r7,r8,r9,r10,r11,r12⟩:=(HL.box 2 w.heap.size _ rfl).all13;refine bodyPost_ret (v:= .agg #[iI 8,oS,tn.n,(),oZ,oZ,oS,oS,(),(),(),(),pl]) (by simp[results,Tryz.results35,go_sem,r0,r1,r2,r3,r4,r5,r6,r7,r8,r9,r10,r11,r12]) rfl ⟨.mk 8 [] tn.n [] exNone [] [] [] pl,⟨none,0,none,0,none,0,none,0,none,0⟩,rfl,?_,(HE.out tn HV1.out).2.2,fun h0=>?_⟩
     ·rw[(HE.out tn HV1.out).1,(HE.out tn HV1.out).2.1];exact HL.step
     ·exact z0u.2 ⟨.inl rfl,KidsX.leaf _ _ _ _ _ _ _,.inl rfl,.inl rfl,.inl rfl⟩
   | k9 R1 K1 HE=>
     have HE:=zz HE;have tf2:=tokF2;obtain rfl:z=9:=by omega
     clear hz;have u0:=(HJ.out.box 1 q _ rfl).at_ 0 _ rfl
     obtain⟨q0,q1,q2,q3,q4⟩:=HJ.out.three;have d2:=HJ.out.rd.at0;have e2:=HJ.out.rd.f2;have HY:=zz (HJ.out.place (k+1) ((k:Int)+1) (by omega) HK.out);go_wp2_with (first
     | (go_at_call 73;go_must ((with_reducible refine(K1.out _ HY.out.rd).mono ?_);rintro e v1 ⟨tn,A1,c1,rfl,hs1,hr1,hv1⟩;have HP1:=zz HY.out;have HC1:=zz (HP1.out.call hs1);have HV1:=zz hv1;obtain⟨q0,q1,q2,q3,q4⟩:=HC1.out.three;obtain⟨y0,y1,y2,y3,y4,y5,y6,y7,y8,y9,y10,y11,y12⟩:=(HC1.out.box 1 q _ rfl).all13;obtain⟨g0,g1,g2,g3,g4,g5,g6,g7,g8,g9,g10,g11,g12⟩:=(HC1.out.box 2 w.heap.size zeroC rfl).all13;obtain⟨j0,j1,j2,j3,j4,j5,j6,j7,j8,j9',j10,j11,j12⟩:=(HC1.out.box 2 w.heap.size zeroC rfl).fre13;have y0:=(HC1.out.box 1 q _ rfl).at_ 0 _ rfl;have f0:=(HC1.out.box 1 q _ rfl).fr 0 (by simp);have y2:=(HC1.out.box 1 q _ rfl).at_ 2 _ rfl;have f2:=(HC1.out.box 1 q _ rfl).fr 2 (by simp);clear hs1 hv1 hr1)))
     have HL:=(HC1.out.put 1 q _ rfl 2 (by simp) (.int .i64 tn.n)).put13 2 w.heap.size _ _ _ _ _ _ _ _ _ _ _ _ _ rfl (.int .i64 9) oS (.int .i64 tn.n) () oZ oZ oS oS () () () () (.int .i64 pl);obtain⟨r0,r1,r2,r3,r4,r5,r6,r7,r8,r9,r10,r11,r12⟩:=(HL.box 2 w.heap.size _ rfl).all13;refine bodyPost_ret (v:= .agg #[iI 9,oS,tn.n,(),oZ,oZ,oS,oS,(),(),(),(),pl]) (by simp[results,Tryz.results35,go_sem,r0,r1,r2,r3,r4,r5,r6,r7,r8,r9,r10,r11,r12]) rfl ⟨.mk 9 [] tn.n [] exNone [] [] [] pl,⟨none,0,none,0,none,0,none,0,none,0⟩,rfl,?_,(HE.out tn HV1.out).2.2,fun h0=>?_⟩
     ·rw[(HE.out tn HV1.out).1,(HE.out tn HV1.out).2.1];exact HL.step
     ·exact z0u.2 ⟨.inl rfl,KidsX.leaf _ _ _ _ _ _ _,.inl rfl,.inl rfl,.inl rfl⟩
inductive Dcb (b:Nat) (S:BA) (A:OA) (n c:Nat) (l:List Tok) (d k:Nat) (p:Int) (R:Rz Cm):Nat→Prop where
 | k10 (R1:Rz Tok) (K1:TakC b S A n c l 3 (k+1) 0 R1) (HE:∀ (tk:Tok),(∀ y j,R1= .ok y j→y=tk)→R.at=R1.at∧R.err=R1.err∧∀ y j,R= .ok y j→y= .mk 10 [] 0 tk.parts exNone [] [] [] p):Dcb b S A n c l d k p R 10
 | k11y (hin:k+1+1≤n) (K9:IsC b S A n c l 1 ⟨#[110,101,118,101,114]⟩ (k+1) 0 true) (HE:R.at=(k+1+1)∧R.err=0∧∀ y j,R= .ok y j→y= .mk 11 [] (-1) [] exNone [] [] [] p):Dcb b S A n c l d k p R 11
 | k11n (R1:Rz Tok) (K9:IsC b S A n c l 1 ⟨#[110,101,118,101,114]⟩ (k+1) 0 false) (K1:TakC b S A n c l 2 (k+1) 0 R1) (HE:∀ (tn:Tok),(∀ y j,R1= .ok y j→y=tn)→R.at=R1.at∧R.err=R1.err∧∀ y j,R= .ok y j→y= .mk 11 [] tn.n [] exNone [] [] [] p):Dcb b S A n c l d k p R 11
 | k12 (R1:Rz (List Ru)) (K1:RusDC b S A n c l d (k+1) 0 R1) (HE:∀ (us:List Ru),(∀ y j,R1= .ok y j→y=us)→R.at=R1.at∧R.err=R1.err∧∀ y j,R= .ok y j→y= .mk 12 [] 0 [] exNone [] [] us p):Dcb b S A n c l d k p R 12
 | k13 (R1:Rz (List Ru)) (K1:RusDC b S A n c l d (k+1) 0 R1) (HE:∀ (us:List Ru),(∀ y j,R1= .ok y j→y=us)→R.at=R1.at∧R.err=R1.err∧∀ y j,R= .ok y j→y= .mk 13 [] 0 [] exNone [] [] us p):Dcb b S A n c l d k p R 13
 | k14 (R1:Rz (List Ru)) (K1:RusDC b S A n c l d (k+1) 0 R1) (HE:∀ (us:List Ru),(∀ y j,R1= .ok y j→y=us)→R.at=R1.at∧R.err=R1.err∧∀ y j,R= .ok y j→y= .mk 14 [] 0 [] exNone [] [] us p):Dcb b S A n c l d k p R 14
theorem z9a (b:Nat) (w:World) (S:BA) (A:OA) (n c:Nat) (l:List Tok) (d k:Nat) (h:DocS b w S A n c l k 0) (t0:Tok) (ht:l[k]?=some t0) (K:Nat) (hK:K≤16) (KW:∀ j,j<16→IsC b S A n c l 1 (wdS j) k 0 (decide (K=j+1))) (R:Rz Cm) (HQ:Dcb b S A n c l d k t0.pl R K):
  Cz 35 #[pP b,d] w (CmdD b w S A n c l R):=by
 have H:=zz (Cy.start h);have hlt:=h.lt;have hl:=h.len;have hk:k<n:=by have:=(List.getElem?_eq_some_iff.1 ht).1;omega
 have HK:Hid (k+1≤n):=zz (by omega);have nb:n≤4000:=by have:=h.few;omega
 have kb:k≤4000:=by omega
 have hn2:n≤1000000:=by omega
 have hk1:(k:Int)<n:=by omega
 obtain⟨ad,A',c',rfl,h5,_⟩:=h.row.at_ ht
 have x4:=h5.2.2.2.2;have hbt:(ad.add (k * 5)).block<w.heap.size:=by have:=World.block_lt_of_cell? w _ x4;exact this
 obtain⟨pl,hpl⟩:∃ pl,pl=t0.pl:=⟨_,rfl⟩;rw[←hpl] at x4 HQ;have d1:=h.c1;have d2:=h.at0;have KO:=zz z4e;clear ht h hl hk hpl h5;unfold CmdD;go_enter Tryz.func35,Tryz.ntmps35;go_wp2
 go_region
 obtain⟨W,HW,hW⟩:∃ W,Hid (Cy b w W S (some ad) n c l k 0 [(w.heap.size+1,[oZ,oS,oZ,(),oZ,oZ,oS,oS,(),(),(),(),pl]),(w.heap.size,zeroC)])∧W=((w.alloc (.cells #[oZ,oS,oZ,(),oZ,oZ,oS,oS,(),(),(),(),oZ] 41)).alloc (.cells #[oZ,oS,oZ,(),oZ,oZ,oS,oS,(),(),(),(),pl] 41)).drew:=⟨_,zz (by have:=((H.out.alloc 41 zeroC (by simp)).alloc 41 [oZ,oS,oZ,(),oZ,oZ,oS,oS,(),(),(),(),pl] (by simp)).drew;simpa using this),rfl⟩;rw[←hW];clear hW d1 d2 x4 hbt;obtain⟨q,hq⟩:∃ q,q=w.heap.size+1:=⟨_,rfl⟩;rw[←hq] at HW ⊢;clear hq;go_wp2_with (go_at_call 71;go_must ((with_reducible refine(KO.out _).mono ?_);rintro e w1 ⟨rfl,rfl⟩;have HD:=zz (HW.out.alloc 9 wdL (by simp))));obtain⟨W1,hW1⟩:∃ W1,W1=W.alloc (.cells wdL.toArray 9):=⟨_,rfl⟩;obtain⟨g,hg⟩:∃ g,g=W.heap.size:=⟨_,rfl⟩;have HD2:Hid (Cy b w W1 S (some ad) n c l k 0 [(g,wdL),(q,[oZ,oS,oZ,(),oZ,oZ,oS,oS,(),(),(),(),pl]),(w.heap.size,zeroC)]):=zz (by rw[hW1,hg];exact HD.out);rw[←hW1,←hg];clear hW1 hg HD
 go_loopw [7] (fun i_ wr=>∃ (j:Nat) (z:Int),j≤16∧Hid (z=if K≤j then (K:Int) else 0)∧i_= .int .i64 j∧Hid (Cy b w wr S (some ad) n c l k 0 [(g,wdL),(q,[z,oS,oZ,(),oZ,oZ,oS,oS,(),(),(),(),pl]),(w.heap.size,zeroC)])) (fun i_ _=>16 - (intOf i_).toNat)
 case atStart=>exact⟨0,0,by omega,zz (by split <;> omega),rfl,HD2⟩
 case round=>
  obtain⟨j,z,hj,HZ,rfl,HJ⟩:=hrel;by_cases a:j<16
  ·have KWJ:=KW j a
   have ej:=(HJ.out.box 0 g wdL rfl).at_ j _ (y4e a)
   obtain⟨q0,q1,q2,q3,q4⟩:=HJ.out.three;by_cases e:K=j+1
   ·rw[decide_eq_true e] at KWJ
    have HZ2:Hid (((j:Int)+1)=if K≤j+1 then (K:Int) else 0):=zz (by rw[if_pos (by omega)];omega);clear e;go_wp2_with (go_at_call 34;go_must ((with_reducible refine(KWJ.out _ HJ.out.rd).mono ?_);rintro e w2 ⟨rfl,hb2⟩;have HJ2:=zz (HJ.out.below hb2);have u0:=(HJ2.out.box 1 q _ rfl).at_ 0 _ rfl;have f0:=(HJ2.out.box 1 q _ rfl).fr 0 (by simp);obtain⟨q0,q1,q2,q3,q4⟩:=HJ2.out.three;clear hb2))
    go_roundw
    case rel=>exact⟨j+1,(j:Int)+1,by omega,HZ2,by go_num,zz (HJ2.out.put 1 q _ rfl 0 (by simp) (.int .i64 ((j:Int)+1)))⟩
    case measure=>simp[intOf];omega
   ·rw[decide_eq_false e] at KWJ
    have HZ2:Hid (z=if K≤j+1 then (K:Int) else 0):=zz (by have h9:=HZ.out;split at h9 <;> split <;> omega);clear e;go_wp2_with (go_at_call 34;go_must ((with_reducible refine(KWJ.out _ HJ.out.rd).mono ?_);rintro e w2 ⟨rfl,hb2⟩;have HJ2:=zz (HJ.out.below hb2);clear hb2))
    go_roundw
    case rel=>exact⟨j+1,z,by omega,HZ2,by go_num,HJ2⟩
    case measure=>simp[intOf];omega
  ·have hz:z=(K:Int):=by have h9:=HZ.out;rw[if_pos (by omega)] at h9;exact h9
   clear HZ KW hK
   cases HQ with
   | k10 R1 K1 HE=>
     have HE:=zz HE;have tf3:=tokF3;obtain rfl:z=10:=by omega
     clear hz;have u0:=(HJ.out.box 1 q _ rfl).at_ 0 _ rfl
     obtain⟨q0,q1,q2,q3,q4⟩:=HJ.out.three;have d2:=HJ.out.rd.at0;have e2:=HJ.out.rd.f2;have HY:=zz (HJ.out.place (k+1) ((k:Int)+1) (by omega) HK.out);go_wp2_with (first
     | (go_at_call 73;go_must ((with_reducible refine(K1.out _ HY.out.rd).mono ?_);rintro e v1 ⟨tk,A1,c1,rfl,hs1,hr1,hv1⟩;have HP1:=zz HY.out;have HC1:=zz (HP1.out.call hs1);have HV1:=zz hv1;have HX1:=zz (z1f (b:=b) (q:=g) (RP:=PtP R1 A1 tk.parts) (by have:=HP1.out.three;omega) (by have:=HP1.out.three;omega) hs1.1.size (fun _=>(z5e.2 hr1).of (fun _ _=>rfl) fun _ hq=> .inl hq));obtain⟨q0,q1,q2,q3,q4⟩:=HC1.out.three;obtain⟨y0,y1,y2,y3,y4,y5,y6,y7,y8,y9,y10,y11,y12⟩:=(HC1.out.box 1 q _ rfl).all13;obtain⟨g0,g1,g2,g3,g4,g5,g6,g7,g8,g9,g10,g11,g12⟩:=(HC1.out.box 2 w.heap.size zeroC rfl).all13;obtain⟨j0,j1,j2,j3,j4,j5,j6,j7,j8,j9',j10,j11,j12⟩:=(HC1.out.box 2 w.heap.size zeroC rfl).fre13;have y0:=(HC1.out.box 1 q _ rfl).at_ 0 _ rfl;have f0:=(HC1.out.box 1 q _ rfl).fr 0 (by simp);have y3:=(HC1.out.box 1 q _ rfl).at_ 3 _ rfl;have f3:=(HC1.out.box 1 q _ rfl).fr 3 (by simp);clear hs1 hv1 hr1)))
     have HL:=(HC1.out.put 1 q _ rfl 3 (by simp) (.slice A1 tk.parts.length c1)).put13 2 w.heap.size _ _ _ _ _ _ _ _ _ _ _ _ _ rfl (.int .i64 10) oS oZ (.slice A1 tk.parts.length c1) oZ oZ oS oS () () () () (.int .i64 pl);obtain⟨r0,r1,r2,r3,r4,r5,r6,r7,r8,r9,r10,r11,r12⟩:=(HL.box 2 w.heap.size _ rfl).all13;refine bodyPost_ret (v:= .agg #[iI 10,oS,oZ,.slice A1 tk.parts.length c1,oZ,oZ,oS,oS,(),(),(),(),pl]) (by simp[results,Tryz.results35,go_sem,r0,r1,r2,r3,r4,r5,r6,r7,r8,r9,r10,r11,r12]) rfl ⟨.mk 10 [] 0 tk.parts exNone [] [] [] pl,⟨A1,c1,none,0,none,0,none,0,none,0⟩,rfl,?_,(HE.out tk HV1.out).2.2,fun h0=>?_⟩
     ·rw[(HE.out tk HV1.out).1,(HE.out tk HV1.out).2.1];exact HL.step
     ·have h9:=(HE.out tk HV1.out).2.1.symm.trans h0
      exact z0u.2 ⟨(((HX1.out.put (z3q R1 A1 tk.parts) (by omega) (by omega) 3 (.slice A1 tk.parts.length c1)).put13 (z3q R1 A1 tk.parts) (p:=w.heap.size) (by omega) (by omega) (.int .i64 10) oS oZ (.slice A1 tk.parts.length c1) oZ oZ oS oS () () () () (.int .i64 pl)).fin (z3q R1 A1 tk.parts) (lo:=w.heap.size) (by omega) h9),KidsX.leaf _ _ _ _ _ _ _,.inl rfl,.inl rfl,.inl rfl⟩
   | k11y hin K9 HE=>
     have HE:=zz HE;have HIN:=zz hin;clear hin;obtain rfl:z=11:=by omega
     clear hz;have u0:=(HJ.out.box 1 q _ rfl).at_ 0 _ rfl
     obtain⟨q0,q1,q2,q3,q4⟩:=HJ.out.three;have d2:=HJ.out.rd.at0;have e2:=HJ.out.rd.f2;have HY:=zz (HJ.out.place (k+1) ((k:Int)+1) (by omega) HK.out);go_wp2_with (first
     | (go_at_call 34;go_must ((with_reducible refine(K9.out _ HY.out.rd).mono ?_);rintro e v9 ⟨rfl,hs9⟩;have HP9:=zz HY.out;have HC9:=zz (HP9.out.below hs9);obtain⟨q0,q1,q2,q3,q4⟩:=HC9.out.three;obtain⟨y0,y1,y2,y3,y4,y5,y6,y7,y8,y9,y10,y11,y12⟩:=(HC9.out.box 1 q _ rfl).all13;obtain⟨g0,g1,g2,g3,g4,g5,g6,g7,g8,g9,g10,g11,g12⟩:=(HC9.out.box 2 w.heap.size zeroC rfl).all13;obtain⟨j0,j1,j2,j3,j4,j5,j6,j7,j8,j9',j10,j11,j12⟩:=(HC9.out.box 2 w.heap.size zeroC rfl).fre13;have y0:=(HC9.out.box 1 q _ rfl).at_ 0 _ rfl;have f0:=(HC9.out.box 1 q _ rfl).fr 0 (by simp);have y2:=(HC9.out.box 1 q _ rfl).at_ 2 _ rfl;have f2:=(HC9.out.box 1 q _ rfl).fr 2 (by simp);have d2:=HC9.out.rd.at0;have e2:=HC9.out.rd.f2;clear hs9)))
     have HL:=((HC9.out.place (k+1+1) ((k:Int)+1+1) (by omega) HIN.out).put 1 q _ rfl 2 (by simp) (.int .i64 (-1))).put13 2 w.heap.size _ _ _ _ _ _ _ _ _ _ _ _ _ rfl (.int .i64 11) oS (.int .i64 (-1)) () oZ oZ oS oS () () () () (.int .i64 pl);obtain⟨r0,r1,r2,r3,r4,r5,r6,r7,r8,r9,r10,r11,r12⟩:=(HL.box 2 w.heap.size _ rfl).all13;refine bodyPost_ret (v:= .agg #[iI 11,oS,iI (-1),(),oZ,oZ,oS,oS,(),(),(),(),pl]) (by simp[results,Tryz.results35,go_sem,r0,r1,r2,r3,r4,r5,r6,r7,r8,r9,r10,r11,r12]) rfl ⟨.mk 11 [] (-1) [] exNone [] [] [] pl,⟨none,0,none,0,none,0,none,0,none,0⟩,rfl,?_,(HE.out).2.2,fun h0=>?_⟩
     ·rw[(HE.out).1,(HE.out).2.1];exact HL.step
     ·exact z0u.2 ⟨.inl rfl,KidsX.leaf _ _ _ _ _ _ _,.inl rfl,.inl rfl,.inl rfl⟩
   | k11n R1 K9 K1 HE=>
     have HE:=zz HE;have tf2:=tokF2;obtain rfl:z=11:=by omega
     clear hz;have u0:=(HJ.out.box 1 q _ rfl).at_ 0 _ rfl
     obtain⟨q0,q1,q2,q3,q4⟩:=HJ.out.three;have d2:=HJ.out.rd.at0;have e2:=HJ.out.rd.f2;have HY:=zz (HJ.out.place (k+1) ((k:Int)+1) (by omega) HK.out);go_wp2_with (first
     | (go_at_call 34;go_must ((with_reducible refine(K9.out _ HY.out.rd).mono ?_);rintro e v9 ⟨rfl,hs9⟩;have HP9:=zz HY.out;have HC9:=zz (HP9.out.below hs9);obtain⟨q0,q1,q2,q3,q4⟩:=HC9.out.three;have y0:=(HC9.out.box 1 q _ rfl).at_ 0 _ rfl;have f0:=(HC9.out.box 1 q _ rfl).fr 0 (by simp);have y2:=(HC9.out.box 1 q _ rfl).at_ 2 _ rfl;have f2:=(HC9.out.box 1 q _ rfl).fr 2 (by simp);clear hs9))
     | (go_at_call 73;go_must ((with_reducible refine(K1.out _ HC9.out.rd).mono ?_);rintro e v1 ⟨tn,A1,c1,rfl,hs1,hr1,hv1⟩;have HP1:=zz HC9.out;have HC1:=zz (HP1.out.call hs1);have HV1:=zz hv1;obtain⟨q0,q1,q2,q3,q4⟩:=HC1.out.three;obtain⟨y0,y1,y2,y3,y4,y5,y6,y7,y8,y9,y10,y11,y12⟩:=(HC1.out.box 1 q _ rfl).all13;obtain⟨g0,g1,g2,g3,g4,g5,g6,g7,g8,g9,g10,g11,g12⟩:=(HC1.out.box 2 w.heap.size zeroC rfl).all13;obtain⟨j0,j1,j2,j3,j4,j5,j6,j7,j8,j9',j10,j11,j12⟩:=(HC1.out.box 2 w.heap.size zeroC rfl).fre13;have y0:=(HC1.out.box 1 q _ rfl).at_ 0 _ rfl;have f0:=(HC1.out.box 1 q _ rfl).fr 0 (by simp);have y2:=(HC1.out.box 1 q _ rfl).at_ 2 _ rfl;have f2:=(HC1.out.box 1 q _ rfl).fr 2 (by simp);clear hs1 hv1 hr1)))
     have HL:=(HC1.out.put 1 q _ rfl 2 (by simp) (.int .i64 tn.n)).put13 2 w.heap.size _ _ _ _ _ _ _ _ _ _ _ _ _ rfl (.int .i64 11) oS (.int .i64 tn.n) () oZ oZ oS oS () () () () (.int .i64 pl);obtain⟨r0,r1,r2,r3,r4,r5,r6,r7,r8,r9,r10,r11,r12⟩:=(HL.box 2 w.heap.size _ rfl).all13;refine bodyPost_ret (v:= .agg #[iI 11,oS,tn.n,(),oZ,oZ,oS,oS,(),(),(),(),pl]) (by simp[results,Tryz.results35,go_sem,r0,r1,r2,r3,r4,r5,r6,r7,r8,r9,r10,r11,r12]) rfl ⟨.mk 11 [] tn.n [] exNone [] [] [] pl,⟨none,0,none,0,none,0,none,0,none,0⟩,rfl,?_,(HE.out tn HV1.out).2.2,fun h0=>?_⟩
     ·rw[(HE.out tn HV1.out).1,(HE.out tn HV1.out).2.1];exact HL.step
     ·exact z0u.2 ⟨.inl rfl,KidsX.leaf _ _ _ _ _ _ _,.inl rfl,.inl rfl,.inl rfl⟩
   | k12 R1 K1 HE=>
     have HE:=zz HE;obtain rfl:z=12:=by omega
     clear hz;have u0:=(HJ.out.box 1 q _ rfl).at_ 0 _ rfl
     obtain⟨q0,q1,q2,q3,q4⟩:=HJ.out.three;have d2:=HJ.out.rd.at0;have e2:=HJ.out.rd.f2;have HY:=zz (HJ.out.place (k+1) ((k:Int)+1) (by omega) HK.out);go_wp2_with (first
     | (go_at_call 76;go_must ((with_reducible refine(K1.out _ HY.out.rd).mono ?_);rintro e v1 ⟨A1,us,c1,rfl,hs1,hv1,hr1⟩;have HP1:=zz HY.out;have HC1:=zz (HP1.out.call hs1);have HV1:=zz hv1;have HX1:=zz (z1f (b:=b) (q:=g) (RP:=UsP R1 A1 us) (by have:=HP1.out.three;omega) (by have:=HP1.out.three;omega) hs1.1.size hr1);obtain⟨q0,q1,q2,q3,q4⟩:=HC1.out.three;obtain⟨y0,y1,y2,y3,y4,y5,y6,y7,y8,y9,y10,y11,y12⟩:=(HC1.out.box 1 q _ rfl).all13;obtain⟨g0,g1,g2,g3,g4,g5,g6,g7,g8,g9,g10,g11,g12⟩:=(HC1.out.box 2 w.heap.size zeroC rfl).all13;obtain⟨j0,j1,j2,j3,j4,j5,j6,j7,j8,j9',j10,j11,j12⟩:=(HC1.out.box 2 w.heap.size zeroC rfl).fre13;have y0:=(HC1.out.box 1 q _ rfl).at_ 0 _ rfl;have f0:=(HC1.out.box 1 q _ rfl).fr 0 (by simp);have y11:=(HC1.out.box 1 q _ rfl).at_ 11 _ rfl;have f11:=(HC1.out.box 1 q _ rfl).fr 11 (by simp);clear hs1 hv1 hr1)))
     have HL:=(HC1.out.put 1 q _ rfl 11 (by simp) (.slice A1 us.length c1)).put13 2 w.heap.size _ _ _ _ _ _ _ _ _ _ _ _ _ rfl (.int .i64 12) oS oZ () oZ oZ oS oS () () () (.slice A1 us.length c1) (.int .i64 pl);obtain⟨r0,r1,r2,r3,r4,r5,r6,r7,r8,r9,r10,r11,r12⟩:=(HL.box 2 w.heap.size _ rfl).all13;refine bodyPost_ret (v:= .agg #[iI 12,oS,oZ,(),oZ,oZ,oS,oS,(),(),(),.slice A1 us.length c1,pl]) (by simp[results,Tryz.results35,go_sem,r0,r1,r2,r3,r4,r5,r6,r7,r8,r9,r10,r11,r12]) rfl ⟨.mk 12 [] 0 [] exNone [] [] us pl,⟨none,0,none,0,none,0,none,0,A1,c1⟩,rfl,?_,(HE.out us HV1.out).2.2,fun h0=>?_⟩
     ·rw[(HE.out us HV1.out).1,(HE.out us HV1.out).2.1];exact HL.step
     ·have h9:=(HE.out us HV1.out).2.1.symm.trans h0
      exact z0u.2 ⟨.inl rfl,KidsX.leaf _ _ _ _ _ _ _,.inl rfl,.inl rfl,(((HX1.out.put (z15 R1 A1 us) (by omega) (by omega) 11 (.slice A1 us.length c1)).put13 (z15 R1 A1 us) (p:=w.heap.size) (by omega) (by omega) (.int .i64 12) oS oZ () oZ oZ oS oS () () () (.slice A1 us.length c1) (.int .i64 pl)).fin (z15 R1 A1 us) (lo:=w.heap.size) (by omega) h9)⟩
   | k13 R1 K1 HE=>
     have HE:=zz HE;obtain rfl:z=13:=by omega
     clear hz;have u0:=(HJ.out.box 1 q _ rfl).at_ 0 _ rfl
     obtain⟨q0,q1,q2,q3,q4⟩:=HJ.out.three;have d2:=HJ.out.rd.at0;have e2:=HJ.out.rd.f2;have HY:=zz (HJ.out.place (k+1) ((k:Int)+1) (by omega) HK.out);go_wp2_with (first
     | (go_at_call 76;go_must ((with_reducible refine(K1.out _ HY.out.rd).mono ?_);rintro e v1 ⟨A1,us,c1,rfl,hs1,hv1,hr1⟩;have HP1:=zz HY.out;have HC1:=zz (HP1.out.call hs1);have HV1:=zz hv1;have HX1:=zz (z1f (b:=b) (q:=g) (RP:=UsP R1 A1 us) (by have:=HP1.out.three;omega) (by have:=HP1.out.three;omega) hs1.1.size hr1);obtain⟨q0,q1,q2,q3,q4⟩:=HC1.out.three;obtain⟨y0,y1,y2,y3,y4,y5,y6,y7,y8,y9,y10,y11,y12⟩:=(HC1.out.box 1 q _ rfl).all13;obtain⟨g0,g1,g2,g3,g4,g5,g6,g7,g8,g9,g10,g11,g12⟩:=(HC1.out.box 2 w.heap.size zeroC rfl).all13;obtain⟨j0,j1,j2,j3,j4,j5,j6,j7,j8,j9',j10,j11,j12⟩:=(HC1.out.box 2 w.heap.size zeroC rfl).fre13;have y0:=(HC1.out.box 1 q _ rfl).at_ 0 _ rfl;have f0:=(HC1.out.box 1 q _ rfl).fr 0 (by simp);have y11:=(HC1.out.box 1 q _ rfl).at_ 11 _ rfl;have f11:=(HC1.out.box 1 q _ rfl).fr 11 (by simp);clear hs1 hv1 hr1)))
     have HL:=(HC1.out.put 1 q _ rfl 11 (by simp) (.slice A1 us.length c1)).put13 2 w.heap.size _ _ _ _ _ _ _ _ _ _ _ _ _ rfl (.int .i64 13) oS oZ () oZ oZ oS oS () () () (.slice A1 us.length c1) (.int .i64 pl);obtain⟨r0,r1,r2,r3,r4,r5,r6,r7,r8,r9,r10,r11,r12⟩:=(HL.box 2 w.heap.size _ rfl).all13;refine bodyPost_ret (v:= .agg #[iI 13,oS,oZ,(),oZ,oZ,oS,oS,(),(),(),.slice A1 us.length c1,pl]) (by simp[results,Tryz.results35,go_sem,r0,r1,r2,r3,r4,r5,r6,r7,r8,r9,r10,r11,r12]) rfl ⟨.mk 13 [] 0 [] exNone [] [] us pl,⟨none,0,none,0,none,0,none,0,A1,c1⟩,rfl,?_,(HE.out us HV1.out).2.2,fun h0=>?_⟩
     ·rw[(HE.out us HV1.out).1,(HE.out us HV1.out).2.1];exact HL.step
     ·have h9:=(HE.out us HV1.out).2.1.symm.trans h0
      exact z0u.2 ⟨.inl rfl,KidsX.leaf _ _ _ _ _ _ _,.inl rfl,.inl rfl,(((HX1.out.put (z15 R1 A1 us) (by omega) (by omega) 11 (.slice A1 us.length c1)).put13 (z15 R1 A1 us) (p:=w.heap.size) (by omega) (by omega) (.int .i64 13) oS oZ () oZ oZ oS oS () () () (.slice A1 us.length c1) (.int .i64 pl)).fin (z15 R1 A1 us) (lo:=w.heap.size) (by omega) h9)⟩
   | k14 R1 K1 HE=>
     have HE:=zz HE;obtain rfl:z=14:=by omega
     clear hz;have u0:=(HJ.out.box 1 q _ rfl).at_ 0 _ rfl
     obtain⟨q0,q1,q2,q3,q4⟩:=HJ.out.three;have d2:=HJ.out.rd.at0;have e2:=HJ.out.rd.f2;have HY:=zz (HJ.out.place (k+1) ((k:Int)+1) (by omega) HK.out);go_wp2_with (first
     | (go_at_call 76;go_must ((with_reducible refine(K1.out _ HY.out.rd).mono ?_);rintro e v1 ⟨A1,us,c1,rfl,hs1,hv1,hr1⟩;have HP1:=zz HY.out;have HC1:=zz (HP1.out.call hs1);have HV1:=zz hv1;have HX1:=zz (z1f (b:=b) (q:=g) (RP:=UsP R1 A1 us) (by have:=HP1.out.three;omega) (by have:=HP1.out.three;omega) hs1.1.size hr1);obtain⟨q0,q1,q2,q3,q4⟩:=HC1.out.three;obtain⟨y0,y1,y2,y3,y4,y5,y6,y7,y8,y9,y10,y11,y12⟩:=(HC1.out.box 1 q _ rfl).all13;obtain⟨g0,g1,g2,g3,g4,g5,g6,g7,g8,g9,g10,g11,g12⟩:=(HC1.out.box 2 w.heap.size zeroC rfl).all13;obtain⟨j0,j1,j2,j3,j4,j5,j6,j7,j8,j9',j10,j11,j12⟩:=(HC1.out.box 2 w.heap.size zeroC rfl).fre13;have y0:=(HC1.out.box 1 q _ rfl).at_ 0 _ rfl;have f0:=(HC1.out.box 1 q _ rfl).fr 0 (by simp);have y11:=(HC1.out.box 1 q _ rfl).at_ 11 _ rfl;have f11:=(HC1.out.box 1 q _ rfl).fr 11 (by simp);clear hs1 hv1 hr1)))
     have HL:=(HC1.out.put 1 q _ rfl 11 (by simp) (.slice A1 us.length c1)).put13 2 w.heap.size _ _ _ _ _ _ _ _ _ _ _ _ _ rfl (.int .i64 14) oS oZ () oZ oZ oS oS () () () (.slice A1 us.length c1) (.int .i64 pl);obtain⟨r0,r1,r2,r3,r4,r5,r6,r7,r8,r9,r10,r11,r12⟩:=(HL.box 2 w.heap.size _ rfl).all13;refine bodyPost_ret (v:= .agg #[iI 14,oS,oZ,(),oZ,oZ,oS,oS,(),(),(),.slice A1 us.length c1,pl]) (by simp[results,Tryz.results35,go_sem,r0,r1,r2,r3,r4,r5,r6,r7,r8,r9,r10,r11,r12]) rfl ⟨.mk 14 [] 0 [] exNone [] [] us pl,⟨none,0,none,0,none,0,none,0,A1,c1⟩,rfl,?_,(HE.out us HV1.out).2.2,fun h0=>?_⟩
     ·rw[(HE.out us HV1.out).1,(HE.out us HV1.out).2.1];exact HL.step
     ·have h9:=(HE.out us HV1.out).2.1.symm.trans h0
      exact z0u.2 ⟨.inl rfl,KidsX.leaf _ _ _ _ _ _ _,.inl rfl,.inl rfl,(((HX1.out.put (z15 R1 A1 us) (by omega) (by omega) 11 (.slice A1 us.length c1)).put13 (z15 R1 A1 us) (p:=w.heap.size) (by omega) (by omega) (.int .i64 14) oS oZ () oZ oZ oS oS () () () (.slice A1 us.length c1) (.int .i64 pl)).fin (z15 R1 A1 us) (lo:=w.heap.size) (by omega) h9)⟩
end Go.Proofs.YtngfihoempcplaaGreatDoor
