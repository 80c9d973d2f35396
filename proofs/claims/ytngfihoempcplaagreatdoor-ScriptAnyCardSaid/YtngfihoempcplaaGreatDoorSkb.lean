import Derived.Test.YtngfihoempcplaaGreatDoorCf
import Derived.Test.YtngfihoempcplaaGreatDoorSc28
namespace Go.Proofs.YtngfihoempcplaaGreatDoor
open Go Go.RowKit
set_option maxRecDepth 100000
set_option maxHeartbeats 8000000
inductive Kca (b:Nat) (A:OA) (n c:Nat) (l:List Tok) (d k:Nat) (p:Int) (R:Rz Cm):Int→Int→Prop where
 | k15 (HE:R.at=k+1∧R.err=0∧∀ y j,R= .ok y j→y= .mk 15 [] 0 [] exNone [] [] [] p):Kca b A n c l d k p R 15 0
 | k16 (HE:R.at=k+1∧R.err=0∧∀ y j,R= .ok y j→y= .mk 16 [] 0 [] exNone [] [] [] p):Kca b A n c l d k p R 16 0
 | k7 (R1:Rz Bs) (K1:NamC b A n c l (k+1) 0 R1) (HE:∀ (s:Bs),(∀ y j,R1= .ok y j→y=s)→R.at=R1.at∧R.err=R1.err∧∀ y j,R= .ok y j→y= .mk 7 s 0 [] exNone [] [] [] p):Kca b A n c l d k p R 7 1
 | k8 (R1:Rz Int) (K1:NmC b A n c l 8 (k+1) 0 R1) (HE:∀ (z:Int),(∀ y j,R1= .ok y j→y=z)→R.at=R1.at∧R.err=R1.err∧∀ y j,R= .ok y j→y= .mk 8 [] z [] exNone [] [] [] p):Kca b A n c l d k p R 8 2
theorem y4n (b:Nat) (w:World) (A:OA) (n c:Nat) (l:List Tok) (d k:Nat) (h:RdS b w A n c l k 0) (hk:k+1≤n) (t:Tok) (KN:NextC b A n c l k 0 t) (zk fm:Int) (KF:KowC ⟨t.word.toArray⟩ zk) (S:BA) (KO:FofC zk S fm) (R:Rz Cm) (HQ:Kca b A n c l d k t.pl R zk fm):
  Cz 32 #[pP b,d] w (CmdS b w A n c l R):=by
 have H:=zz (Cx.start h);have hlt:=h.lt;have HK:=zz hk;have kb:k≤4000:=by have:=h.few;omega
 unfold NextC at KN;obtain⟨T,hT⟩:∃ T:BA,T=⟨t.word.toArray⟩:=⟨_,rfl⟩;rw[←hT] at KN KF;generalize t.kind=kd at KN;generalize t.pl=pl at KN HQ ⊢;clear h hk hT;unfold CmdS;go_enter Tryz.func32,Tryz.ntmps32;go_wp2_with (first | (go_at_call 31;go_must ((with_reducible refine(KN.out _ (H.out.rd.box _)).mono ?_);rintro e w1 ⟨A1,c1,rfl,hb1,hr1⟩;have HA:=zz (((H.out.alloc 41 zeroC (by simp)).below hb1).alloc 53 [kd,T,t.n,.slice A1 t.parts.length c1,pl] (by simp));obtain⟨q0,q1,q2,q3⟩:=HA.out.two;clear hb1 hr1)));obtain⟨W0,HW0,hz0,hW0⟩:∃ W0,Hid (Cx b w W0 A n c l k 0 [(w1.heap.size,[kd,T,t.n,.slice A1 t.parts.length c1,pl]),(w.heap.size,zeroC)])∧W0.heap.size=w1.heap.size+1∧W0=w1.alloc (.cells #[kd,T,t.n,.slice A1 t.parts.length c1,pl] 53):=⟨_,HA,by simp,rfl⟩;rw[←hW0];clear hW0 HA q3;obtain⟨_,d1,_,_,d4⟩:=(HW0.out.drew.box 0 w1.heap.size _ rfl).all5;obtain⟨_,a1,_,_,a4⟩:=((HW0.out.alloc 41 zeroC (by simp)).drew.box 1 w1.heap.size _ rfl).all5;obtain⟨_,e1,_,_,e4⟩:=((HW0.out.alloc 41 [zk,oS,oZ,(),oZ,oZ,oS,oS,(),(),(),(),pl] (by simp)).drew.box 1 w1.heap.size _ rfl).all5
 go_region_held3 (fun W'=>W'.cell? ⟨w1.heap.size,1,none⟩=some (.string T)∧W'.cell? ⟨w1.heap.size,4,none⟩=some (.int .i64 pl))
  (first | (with_reducible exact⟨d1,d4⟩) | (with_reducible exact⟨a1,a4⟩) | (with_reducible exact⟨e1,e4⟩))
  (first
   | (go_at_call 54;((with_reducible refine(KF.out _).mono ?_));rintro e w2 ⟨rfl,rfl⟩))
 all_goals obtain⟨W,HW,hW⟩:∃ W,Hid (Cx b w W A n c l k 0 [(w1.heap.size+1,[zk,oS,oZ,(),oZ,oZ,oS,oS,(),(),(),(),pl]),(w1.heap.size,[kd,T,t.n,.slice A1 t.parts.length c1,pl]),(w.heap.size,zeroC)])∧W=(W0.alloc (.cells #[zk,oS,oZ,(),oZ,oZ,oS,oS,(),(),(),(),pl] 41)).drew:=⟨_,zz (by rw[←hz0];exact(HW0.out.alloc 41 [zk,oS,oZ,(),oZ,oZ,oS,oS,(),(),(),(),pl] (by simp)).drew),rfl⟩
 all_goals rw[←hW]
 all_goals clear hW HW0 hz0
 all_goals obtain⟨q,hq⟩:∃ q,q=w1.heap.size+1:=⟨_,rfl⟩
 all_goals rw[←hq] at HW ⊢
 all_goals clear hq
 all_goals
  cases HQ with
  | k15 HE=>
    obtain⟨d0,d1,d2,d3,d4⟩:=HW.out.rd.five;obtain⟨q0,q1,q2,q3,q4⟩:=HW.out.three;have p0:=(HW.out.box 0 q _ rfl).at_ 0 _ rfl
    have HE:=zz HE
    all_goals go_wp2_with (first | (go_at_call 55;go_must ((with_reducible refine(KO.out _).mono ?_);rintro e w3 ⟨rfl,rfl⟩;have HY:=zz ((HW.out.place (k+1) ((k:Int)+1) (by omega) HK.out));obtain⟨y0,y1,y2,y3,y4,y5,y6,y7,y8,y9,y10,y11,y12⟩:=(HY.out.box 0 q _ rfl).all13;obtain⟨g0,g1,g2,g3,g4,g5,g6,g7,g8,g9,g10,g11,g12⟩:=(HY.out.box 2 w.heap.size zeroC rfl).all13;obtain⟨j0,j1,j2,j3,j4,j5,j6,j7,j8,j9',j10,j11,j12⟩:=(HY.out.box 2 w.heap.size zeroC rfl).fre13)))
    all_goals have HL:=HY.out.put13 2 w.heap.size _ _ _ _ _ _ _ _ _ _ _ _ _ rfl (.int .i64 15) oS oZ () oZ oZ oS oS () () () () (.int .i64 pl)
    all_goals obtain⟨r0,r1,r2,r3,r4,r5,r6,r7,r8,r9,r10,r11,r12⟩:=(HL.box 2 w.heap.size _ rfl).all13
    all_goals refine bodyPost_ret (v:= .agg #[iI 15,oS,oZ,(),oZ,oZ,oS,oS,(),(),(),(),pl]) (by simp[results,Tryz.results32,go_sem,r0,r1,r2,r3,r4,r5,r6,r7,r8,r9,r10,r11,r12]) rfl ⟨.mk 15 [] 0 [] exNone [] [] [] pl,⟨none,0,none,0,none,0,none,0,none,0⟩,rfl,?_,(HE.out).2.2,fun h0=>?_⟩
    all_goals first | (rw[(HE.out).1,(HE.out).2.1];exact HL.step) | skip
    all_goals exact z0u.2 ⟨.inl rfl,KidsX.leaf _ _ _ _ _ _ _,.inl rfl,.inl rfl,.inl rfl⟩
  | k16 HE=>
    obtain⟨d0,d1,d2,d3,d4⟩:=HW.out.rd.five;obtain⟨q0,q1,q2,q3,q4⟩:=HW.out.three;have p0:=(HW.out.box 0 q _ rfl).at_ 0 _ rfl
    have HE:=zz HE
    all_goals go_wp2_with (first | (go_at_call 55;go_must ((with_reducible refine(KO.out _).mono ?_);rintro e w3 ⟨rfl,rfl⟩;have HY:=zz ((HW.out.place (k+1) ((k:Int)+1) (by omega) HK.out));obtain⟨y0,y1,y2,y3,y4,y5,y6,y7,y8,y9,y10,y11,y12⟩:=(HY.out.box 0 q _ rfl).all13;obtain⟨g0,g1,g2,g3,g4,g5,g6,g7,g8,g9,g10,g11,g12⟩:=(HY.out.box 2 w.heap.size zeroC rfl).all13;obtain⟨j0,j1,j2,j3,j4,j5,j6,j7,j8,j9',j10,j11,j12⟩:=(HY.out.box 2 w.heap.size zeroC rfl).fre13)))
    all_goals have HL:=HY.out.put13 2 w.heap.size _ _ _ _ _ _ _ _ _ _ _ _ _ rfl (.int .i64 16) oS oZ () oZ oZ oS oS () () () () (.int .i64 pl)
    all_goals obtain⟨r0,r1,r2,r3,r4,r5,r6,r7,r8,r9,r10,r11,r12⟩:=(HL.box 2 w.heap.size _ rfl).all13
    all_goals refine bodyPost_ret (v:= .agg #[iI 16,oS,oZ,(),oZ,oZ,oS,oS,(),(),(),(),pl]) (by simp[results,Tryz.results32,go_sem,r0,r1,r2,r3,r4,r5,r6,r7,r8,r9,r10,r11,r12]) rfl ⟨.mk 16 [] 0 [] exNone [] [] [] pl,⟨none,0,none,0,none,0,none,0,none,0⟩,rfl,?_,(HE.out).2.2,fun h0=>?_⟩
    all_goals first | (rw[(HE.out).1,(HE.out).2.1];exact HL.step) | skip
    all_goals exact z0u.2 ⟨.inl rfl,KidsX.leaf _ _ _ _ _ _ _,.inl rfl,.inl rfl,.inl rfl⟩
  | k7 R1 K1 HE=>
    obtain⟨d0,d1,d2,d3,d4⟩:=HW.out.rd.five;obtain⟨q0,q1,q2,q3,q4⟩:=HW.out.three;have p0:=(HW.out.box 0 q _ rfl).at_ 0 _ rfl
    have HE:=zz HE
    all_goals go_wp2_with (first | (go_at_call 55;go_must ((with_reducible refine(KO.out _).mono ?_);rintro e w3 ⟨rfl,rfl⟩;have HY:=zz ((HW.out.place (k+1) ((k:Int)+1) (by omega) HK.out));have p0:=(HY.out.box 0 q _ rfl).at_ 0 _ rfl;obtain⟨q0,q1,q2,q3,q4⟩:=HY.out.three)) | (go_at_call 56;go_must ((with_reducible refine(K1.out _ HY.out.rd).mono ?_);rintro e v1 ⟨s,rfl,hs1,hv1⟩;have HP1:=zz HY.out;have HC1:=zz (HP1.out.call hs1);have HV1:=zz hv1;obtain⟨q0,q1,q2,q3,q4⟩:=HC1.out.three;obtain⟨y0,y1,y2,y3,y4,y5,y6,y7,y8,y9,y10,y11,y12⟩:=(HC1.out.box 0 q _ rfl).all13;obtain⟨g0,g1,g2,g3,g4,g5,g6,g7,g8,g9,g10,g11,g12⟩:=(HC1.out.box 2 w.heap.size zeroC rfl).all13;obtain⟨j0,j1,j2,j3,j4,j5,j6,j7,j8,j9',j10,j11,j12⟩:=(HC1.out.box 2 w.heap.size zeroC rfl).fre13;have y0:=(HC1.out.box 0 q _ rfl).at_ 0 _ rfl;have f0:=(HC1.out.box 0 q _ rfl).fr 0 (by simp);have y1:=(HC1.out.box 0 q _ rfl).at_ 1 _ rfl;have f1:=(HC1.out.box 0 q _ rfl).fr 1 (by simp);clear hs1 hv1)))
    all_goals have HL:=(HC1.out.put 0 q _ rfl 1 (by simp) (.string ⟨s.toArray⟩)).put13 2 w.heap.size _ _ _ _ _ _ _ _ _ _ _ _ _ rfl (.int .i64 7) (.string ⟨s.toArray⟩) oZ () oZ oZ oS oS () () () () (.int .i64 pl)
    all_goals obtain⟨r0,r1,r2,r3,r4,r5,r6,r7,r8,r9,r10,r11,r12⟩:=(HL.box 2 w.heap.size _ rfl).all13
    all_goals refine bodyPost_ret (v:= .agg #[iI 7,s,oZ,(),oZ,oZ,oS,oS,(),(),(),(),pl]) (by simp[results,Tryz.results32,go_sem,r0,r1,r2,r3,r4,r5,r6,r7,r8,r9,r10,r11,r12]) rfl ⟨.mk 7 s 0 [] exNone [] [] [] pl,⟨none,0,none,0,none,0,none,0,none,0⟩,rfl,?_,(HE.out s HV1.out).2.2,fun h0=>?_⟩
    all_goals first | (rw[(HE.out s HV1.out).1,(HE.out s HV1.out).2.1];exact HL.step) | skip
    all_goals (have h9:=(HE.out s HV1.out).2.1.symm.trans h0)
    all_goals exact z0u.2 ⟨.inl rfl,KidsX.leaf _ _ _ _ _ _ _,.inl rfl,.inl rfl,.inl rfl⟩
  | k8 R1 K1 HE=>
    obtain⟨d0,d1,d2,d3,d4⟩:=HW.out.rd.five;obtain⟨q0,q1,q2,q3,q4⟩:=HW.out.three;have p0:=(HW.out.box 0 q _ rfl).at_ 0 _ rfl
    have HE:=zz HE
    all_goals go_wp2_with (first | (go_at_call 55;go_must ((with_reducible refine(KO.out _).mono ?_);rintro e w3 ⟨rfl,rfl⟩;have HY:=zz ((HW.out.place (k+1) ((k:Int)+1) (by omega) HK.out));have p0:=(HY.out.box 0 q _ rfl).at_ 0 _ rfl;obtain⟨q0,q1,q2,q3,q4⟩:=HY.out.three)) | (go_at_call 57;go_must ((with_reducible refine(K1.out _ HY.out.rd).mono ?_);rintro e v1 ⟨z,rfl,hs1,hv1⟩;have HP1:=zz HY.out;have HC1:=zz (HP1.out.call hs1);have HV1:=zz hv1;obtain⟨q0,q1,q2,q3,q4⟩:=HC1.out.three;obtain⟨y0,y1,y2,y3,y4,y5,y6,y7,y8,y9,y10,y11,y12⟩:=(HC1.out.box 0 q _ rfl).all13;obtain⟨g0,g1,g2,g3,g4,g5,g6,g7,g8,g9,g10,g11,g12⟩:=(HC1.out.box 2 w.heap.size zeroC rfl).all13;obtain⟨j0,j1,j2,j3,j4,j5,j6,j7,j8,j9',j10,j11,j12⟩:=(HC1.out.box 2 w.heap.size zeroC rfl).fre13;have y0:=(HC1.out.box 0 q _ rfl).at_ 0 _ rfl;have f0:=(HC1.out.box 0 q _ rfl).fr 0 (by simp);have y2:=(HC1.out.box 0 q _ rfl).at_ 2 _ rfl;have f2:=(HC1.out.box 0 q _ rfl).fr 2 (by simp);clear hs1 hv1)))
    all_goals have HL:=(HC1.out.put 0 q _ rfl 2 (by simp) (.int .i64 z)).put13 2 w.heap.size _ _ _ _ _ _ _ _ _ _ _ _ _ rfl (.int .i64 8) oS (.int .i64 z) () oZ oZ oS oS () () () () (.int .i64 pl)
    all_goals obtain⟨r0,r1,r2,r3,r4,r5,r6,r7,r8,r9,r10,r11,r12⟩:=(HL.box 2 w.heap.size _ rfl).all13
    all_goals refine bodyPost_ret (v:= .agg #[iI 8,oS,z,(),oZ,oZ,oS,oS,(),(),(),(),pl]) (by simp[results,Tryz.results32,go_sem,r0,r1,r2,r3,r4,r5,r6,r7,r8,r9,r10,r11,r12]) rfl ⟨.mk 8 [] z [] exNone [] [] [] pl,⟨none,0,none,0,none,0,none,0,none,0⟩,rfl,?_,(HE.out z HV1.out).2.2,fun h0=>?_⟩
    all_goals first | (rw[(HE.out z HV1.out).1,(HE.out z HV1.out).2.1];exact HL.step) | skip
    all_goals (have h9:=(HE.out z HV1.out).2.1.symm.trans h0)
    all_goals exact z0u.2 ⟨.inl rfl,KidsX.leaf _ _ _ _ _ _ _,.inl rfl,.inl rfl,.inl rfl⟩
inductive Kcb (b:Nat) (A:OA) (n c:Nat) (l:List Tok) (d k:Nat) (p:Int) (R:Rz Cm):Int→Int→Prop where
 | k10 (R1:Rz Tok) (K1:KindC b A n c l 3 (k+1) 0 R1) (HE:∀ (tk:Tok),(∀ y j,R1= .ok y j→y=tk)→R.at=R1.at∧R.err=R1.err∧∀ y j,R= .ok y j→y= .mk 10 [] 0 tk.parts exNone [] [] [] p):Kcb b A n c l d k p R 10 4
 | k12 (R1:Rz (List Ru)) (K1:RusC b A n c l d (k+1) 0 R1) (HE:∀ (us:List Ru),(∀ y j,R1= .ok y j→y=us)→R.at=R1.at∧R.err=R1.err∧∀ y j,R= .ok y j→y= .mk 12 [] 0 [] exNone [] [] us p):Kcb b A n c l d k p R 12 64
 | k13 (R1:Rz (List Ru)) (K1:RusC b A n c l d (k+1) 0 R1) (HE:∀ (us:List Ru),(∀ y j,R1= .ok y j→y=us)→R.at=R1.at∧R.err=R1.err∧∀ y j,R= .ok y j→y= .mk 13 [] 0 [] exNone [] [] us p):Kcb b A n c l d k p R 13 64
 | k14 (R1:Rz (List Ru)) (K1:RusC b A n c l d (k+1) 0 R1) (HE:∀ (us:List Ru),(∀ y j,R1= .ok y j→y=us)→R.at=R1.at∧R.err=R1.err∧∀ y j,R= .ok y j→y= .mk 14 [] 0 [] exNone [] [] us p):Kcb b A n c l d k p R 14 64
theorem y48 (b:Nat) (w:World) (A:OA) (n c:Nat) (l:List Tok) (d k:Nat) (h:RdS b w A n c l k 0) (hk:k+1≤n) (t:Tok) (KN:NextC b A n c l k 0 t) (zk fm:Int) (KF:KowC ⟨t.word.toArray⟩ zk) (S:BA) (KO:FofC zk S fm) (R:Rz Cm) (HQ:Kcb b A n c l d k t.pl R zk fm):
  Cz 32 #[pP b,d] w (CmdS b w A n c l R):=by
 have H:=zz (Cx.start h);have hlt:=h.lt;have HK:=zz hk;have kb:k≤4000:=by have:=h.few;omega
 unfold NextC at KN;obtain⟨T,hT⟩:∃ T:BA,T=⟨t.word.toArray⟩:=⟨_,rfl⟩;rw[←hT] at KN KF;generalize t.kind=kd at KN;generalize t.pl=pl at KN HQ ⊢;clear h hk hT;unfold CmdS;go_enter Tryz.func32,Tryz.ntmps32;go_wp2_with (first | (go_at_call 31;go_must ((with_reducible refine(KN.out _ (H.out.rd.box _)).mono ?_);rintro e w1 ⟨A1,c1,rfl,hb1,hr1⟩;have HA:=zz (((H.out.alloc 41 zeroC (by simp)).below hb1).alloc 53 [kd,T,t.n,.slice A1 t.parts.length c1,pl] (by simp));obtain⟨q0,q1,q2,q3⟩:=HA.out.two;clear hb1 hr1)));obtain⟨W0,HW0,hz0,hW0⟩:∃ W0,Hid (Cx b w W0 A n c l k 0 [(w1.heap.size,[kd,T,t.n,.slice A1 t.parts.length c1,pl]),(w.heap.size,zeroC)])∧W0.heap.size=w1.heap.size+1∧W0=w1.alloc (.cells #[kd,T,t.n,.slice A1 t.parts.length c1,pl] 53):=⟨_,HA,by simp,rfl⟩;rw[←hW0];clear hW0 HA q3;obtain⟨_,d1,_,_,d4⟩:=(HW0.out.drew.box 0 w1.heap.size _ rfl).all5;obtain⟨_,a1,_,_,a4⟩:=((HW0.out.alloc 41 zeroC (by simp)).drew.box 1 w1.heap.size _ rfl).all5;obtain⟨_,e1,_,_,e4⟩:=((HW0.out.alloc 41 [zk,oS,oZ,(),oZ,oZ,oS,oS,(),(),(),(),pl] (by simp)).drew.box 1 w1.heap.size _ rfl).all5
 go_region_held3 (fun W'=>W'.cell? ⟨w1.heap.size,1,none⟩=some (.string T)∧W'.cell? ⟨w1.heap.size,4,none⟩=some (.int .i64 pl))
  (first | (with_reducible exact⟨d1,d4⟩) | (with_reducible exact⟨a1,a4⟩) | (with_reducible exact⟨e1,e4⟩))
  (first
   | (go_at_call 54;((with_reducible refine(KF.out _).mono ?_));rintro e w2 ⟨rfl,rfl⟩))
 all_goals obtain⟨W,HW,hW⟩:∃ W,Hid (Cx b w W A n c l k 0 [(w1.heap.size+1,[zk,oS,oZ,(),oZ,oZ,oS,oS,(),(),(),(),pl]),(w1.heap.size,[kd,T,t.n,.slice A1 t.parts.length c1,pl]),(w.heap.size,zeroC)])∧W=(W0.alloc (.cells #[zk,oS,oZ,(),oZ,oZ,oS,oS,(),(),(),(),pl] 41)).drew:=⟨_,zz (by rw[←hz0];exact(HW0.out.alloc 41 [zk,oS,oZ,(),oZ,oZ,oS,oS,(),(),(),(),pl] (by simp)).drew),rfl⟩
 all_goals rw[←hW]
 all_goals clear hW HW0 hz0
 all_goals obtain⟨q,hq⟩:∃ q,q=w1.heap.size+1:=⟨_,rfl⟩
 all_goals rw[←hq] at HW ⊢
 all_goals clear hq
 all_goals
  cases HQ with
  | k10 R1 K1 HE=>
    obtain⟨d0,d1,d2,d3,d4⟩:=HW.out.rd.five;obtain⟨q0,q1,q2,q3,q4⟩:=HW.out.three;have p0:=(HW.out.box 0 q _ rfl).at_ 0 _ rfl
    have HE:=zz HE;have tf3:=tokF3
    all_goals go_wp2_with (first | (go_at_call 55;go_must ((with_reducible refine(KO.out _).mono ?_);rintro e w3 ⟨rfl,rfl⟩;have HY:=zz ((HW.out.place (k+1) ((k:Int)+1) (by omega) HK.out));have p0:=(HY.out.box 0 q _ rfl).at_ 0 _ rfl;obtain⟨q0,q1,q2,q3,q4⟩:=HY.out.three)) | (go_at_call 58;go_must ((with_reducible refine(K1.out _ HY.out.rd).mono ?_);rintro e v1 ⟨tk,A1,c1,rfl,hs1,hr1,hv1⟩;have HP1:=zz HY.out;have HC1:=zz (HP1.out.call hs1);have HV1:=zz hv1;have HX1:=zz (z1f (b:=b) (q:=q) (RP:=PtP R1 A1 tk.parts) (by have:=HP1.out.three;omega) (by have:=HP1.out.three;omega) hs1.1.size (fun _=>(z5e.2 hr1).of (fun _ _=>rfl) fun _ hq=> .inl hq));obtain⟨q0,q1,q2,q3,q4⟩:=HC1.out.three;obtain⟨y0,y1,y2,y3,y4,y5,y6,y7,y8,y9,y10,y11,y12⟩:=(HC1.out.box 0 q _ rfl).all13;obtain⟨g0,g1,g2,g3,g4,g5,g6,g7,g8,g9,g10,g11,g12⟩:=(HC1.out.box 2 w.heap.size zeroC rfl).all13;obtain⟨j0,j1,j2,j3,j4,j5,j6,j7,j8,j9',j10,j11,j12⟩:=(HC1.out.box 2 w.heap.size zeroC rfl).fre13;have y0:=(HC1.out.box 0 q _ rfl).at_ 0 _ rfl;have f0:=(HC1.out.box 0 q _ rfl).fr 0 (by simp);have y3:=(HC1.out.box 0 q _ rfl).at_ 3 _ rfl;have f3:=(HC1.out.box 0 q _ rfl).fr 3 (by simp);clear hs1 hv1 hr1)))
    all_goals have HL:=(HC1.out.put 0 q _ rfl 3 (by simp) (.slice A1 tk.parts.length c1)).put13 2 w.heap.size _ _ _ _ _ _ _ _ _ _ _ _ _ rfl (.int .i64 10) oS oZ (.slice A1 tk.parts.length c1) oZ oZ oS oS () () () () (.int .i64 pl)
    all_goals obtain⟨r0,r1,r2,r3,r4,r5,r6,r7,r8,r9,r10,r11,r12⟩:=(HL.box 2 w.heap.size _ rfl).all13
    all_goals refine bodyPost_ret (v:= .agg #[iI 10,oS,oZ,.slice A1 tk.parts.length c1,oZ,oZ,oS,oS,(),(),(),(),pl]) (by simp[results,Tryz.results32,go_sem,r0,r1,r2,r3,r4,r5,r6,r7,r8,r9,r10,r11,r12]) rfl ⟨.mk 10 [] 0 tk.parts exNone [] [] [] pl,⟨A1,c1,none,0,none,0,none,0,none,0⟩,rfl,?_,(HE.out tk HV1.out).2.2,fun h0=>?_⟩
    all_goals first | (rw[(HE.out tk HV1.out).1,(HE.out tk HV1.out).2.1];exact HL.step) | skip
    all_goals (have h9:=(HE.out tk HV1.out).2.1.symm.trans h0)
    all_goals exact z0u.2 ⟨(((HX1.out.put (z3q R1 A1 tk.parts) (Nat.le_refl q) (by omega) 3 (.slice A1 tk.parts.length c1)).put13 (z3q R1 A1 tk.parts) (p:=w.heap.size) (by omega) (by omega) (.int .i64 10) oS oZ (.slice A1 tk.parts.length c1) oZ oZ oS oS () () () () (.int .i64 pl)).fin (z3q R1 A1 tk.parts) (lo:=w.heap.size) (by omega) h9),KidsX.leaf _ _ _ _ _ _ _,.inl rfl,.inl rfl,.inl rfl⟩
  | k12 R1 K1 HE=>
    obtain⟨d0,d1,d2,d3,d4⟩:=HW.out.rd.five;obtain⟨q0,q1,q2,q3,q4⟩:=HW.out.three;have p0:=(HW.out.box 0 q _ rfl).at_ 0 _ rfl
    have HE:=zz HE
    all_goals go_wp2_with (first | (go_at_call 55;go_must ((with_reducible refine(KO.out _).mono ?_);rintro e w3 ⟨rfl,rfl⟩;have HY:=zz ((HW.out.place (k+1) ((k:Int)+1) (by omega) HK.out));have p0:=(HY.out.box 0 q _ rfl).at_ 0 _ rfl;obtain⟨q0,q1,q2,q3,q4⟩:=HY.out.three)) | (go_at_call 62;go_must ((with_reducible refine(K1.out _ HY.out.rd).mono ?_);rintro e v1 ⟨A1,us,c1,rfl,hs1,hv1,hr1⟩;have HP1:=zz HY.out;have HC1:=zz (HP1.out.call hs1);have HV1:=zz hv1;have HX1:=zz (z1f (b:=b) (q:=q) (RP:=UsP R1 A1 us) (by have:=HP1.out.three;omega) (by have:=HP1.out.three;omega) hs1.1.size hr1);obtain⟨q0,q1,q2,q3,q4⟩:=HC1.out.three;obtain⟨y0,y1,y2,y3,y4,y5,y6,y7,y8,y9,y10,y11,y12⟩:=(HC1.out.box 0 q _ rfl).all13;obtain⟨g0,g1,g2,g3,g4,g5,g6,g7,g8,g9,g10,g11,g12⟩:=(HC1.out.box 2 w.heap.size zeroC rfl).all13;obtain⟨j0,j1,j2,j3,j4,j5,j6,j7,j8,j9',j10,j11,j12⟩:=(HC1.out.box 2 w.heap.size zeroC rfl).fre13;have y0:=(HC1.out.box 0 q _ rfl).at_ 0 _ rfl;have f0:=(HC1.out.box 0 q _ rfl).fr 0 (by simp);have y11:=(HC1.out.box 0 q _ rfl).at_ 11 _ rfl;have f11:=(HC1.out.box 0 q _ rfl).fr 11 (by simp);clear hs1 hv1 hr1)))
    all_goals have HL:=(HC1.out.put 0 q _ rfl 11 (by simp) (.slice A1 us.length c1)).put13 2 w.heap.size _ _ _ _ _ _ _ _ _ _ _ _ _ rfl (.int .i64 12) oS oZ () oZ oZ oS oS () () () (.slice A1 us.length c1) (.int .i64 pl)
    all_goals obtain⟨r0,r1,r2,r3,r4,r5,r6,r7,r8,r9,r10,r11,r12⟩:=(HL.box 2 w.heap.size _ rfl).all13
    all_goals refine bodyPost_ret (v:= .agg #[iI 12,oS,oZ,(),oZ,oZ,oS,oS,(),(),(),.slice A1 us.length c1,pl]) (by simp[results,Tryz.results32,go_sem,r0,r1,r2,r3,r4,r5,r6,r7,r8,r9,r10,r11,r12]) rfl ⟨.mk 12 [] 0 [] exNone [] [] us pl,⟨none,0,none,0,none,0,none,0,A1,c1⟩,rfl,?_,(HE.out us HV1.out).2.2,fun h0=>?_⟩
    all_goals first | (rw[(HE.out us HV1.out).1,(HE.out us HV1.out).2.1];exact HL.step) | skip
    all_goals (have h9:=(HE.out us HV1.out).2.1.symm.trans h0)
    all_goals exact z0u.2 ⟨.inl rfl,KidsX.leaf _ _ _ _ _ _ _,.inl rfl,.inl rfl,(((HX1.out.put (z15 R1 A1 us) (Nat.le_refl q) (by omega) 11 (.slice A1 us.length c1)).put13 (z15 R1 A1 us) (p:=w.heap.size) (by omega) (by omega) (.int .i64 12) oS oZ () oZ oZ oS oS () () () (.slice A1 us.length c1) (.int .i64 pl)).fin (z15 R1 A1 us) (lo:=w.heap.size) (by omega) h9)⟩
  | k13 R1 K1 HE=>
    obtain⟨d0,d1,d2,d3,d4⟩:=HW.out.rd.five;obtain⟨q0,q1,q2,q3,q4⟩:=HW.out.three;have p0:=(HW.out.box 0 q _ rfl).at_ 0 _ rfl
    have HE:=zz HE
    all_goals go_wp2_with (first | (go_at_call 55;go_must ((with_reducible refine(KO.out _).mono ?_);rintro e w3 ⟨rfl,rfl⟩;have HY:=zz ((HW.out.place (k+1) ((k:Int)+1) (by omega) HK.out));have p0:=(HY.out.box 0 q _ rfl).at_ 0 _ rfl;obtain⟨q0,q1,q2,q3,q4⟩:=HY.out.three)) | (go_at_call 62;go_must ((with_reducible refine(K1.out _ HY.out.rd).mono ?_);rintro e v1 ⟨A1,us,c1,rfl,hs1,hv1,hr1⟩;have HP1:=zz HY.out;have HC1:=zz (HP1.out.call hs1);have HV1:=zz hv1;have HX1:=zz (z1f (b:=b) (q:=q) (RP:=UsP R1 A1 us) (by have:=HP1.out.three;omega) (by have:=HP1.out.three;omega) hs1.1.size hr1);obtain⟨q0,q1,q2,q3,q4⟩:=HC1.out.three;obtain⟨y0,y1,y2,y3,y4,y5,y6,y7,y8,y9,y10,y11,y12⟩:=(HC1.out.box 0 q _ rfl).all13;obtain⟨g0,g1,g2,g3,g4,g5,g6,g7,g8,g9,g10,g11,g12⟩:=(HC1.out.box 2 w.heap.size zeroC rfl).all13;obtain⟨j0,j1,j2,j3,j4,j5,j6,j7,j8,j9',j10,j11,j12⟩:=(HC1.out.box 2 w.heap.size zeroC rfl).fre13;have y0:=(HC1.out.box 0 q _ rfl).at_ 0 _ rfl;have f0:=(HC1.out.box 0 q _ rfl).fr 0 (by simp);have y11:=(HC1.out.box 0 q _ rfl).at_ 11 _ rfl;have f11:=(HC1.out.box 0 q _ rfl).fr 11 (by simp);clear hs1 hv1 hr1)))
    all_goals have HL:=(HC1.out.put 0 q _ rfl 11 (by simp) (.slice A1 us.length c1)).put13 2 w.heap.size _ _ _ _ _ _ _ _ _ _ _ _ _ rfl (.int .i64 13) oS oZ () oZ oZ oS oS () () () (.slice A1 us.length c1) (.int .i64 pl)
    all_goals obtain⟨r0,r1,r2,r3,r4,r5,r6,r7,r8,r9,r10,r11,r12⟩:=(HL.box 2 w.heap.size _ rfl).all13
    all_goals refine bodyPost_ret (v:= .agg #[iI 13,oS,oZ,(),oZ,oZ,oS,oS,(),(),(),.slice A1 us.length c1,pl]) (by simp[results,Tryz.results32,go_sem,r0,r1,r2,r3,r4,r5,r6,r7,r8,r9,r10,r11,r12]) rfl ⟨.mk 13 [] 0 [] exNone [] [] us pl,⟨none,0,none,0,none,0,none,0,A1,c1⟩,rfl,?_,(HE.out us HV1.out).2.2,fun h0=>?_⟩
    all_goals first | (rw[(HE.out us HV1.out).1,(HE.out us HV1.out).2.1];exact HL.step) | skip
    all_goals (have h9:=(HE.out us HV1.out).2.1.symm.trans h0)
    all_goals exact z0u.2 ⟨.inl rfl,KidsX.leaf _ _ _ _ _ _ _,.inl rfl,.inl rfl,(((HX1.out.put (z15 R1 A1 us) (Nat.le_refl q) (by omega) 11 (.slice A1 us.length c1)).put13 (z15 R1 A1 us) (p:=w.heap.size) (by omega) (by omega) (.int .i64 13) oS oZ () oZ oZ oS oS () () () (.slice A1 us.length c1) (.int .i64 pl)).fin (z15 R1 A1 us) (lo:=w.heap.size) (by omega) h9)⟩
  | k14 R1 K1 HE=>
    obtain⟨d0,d1,d2,d3,d4⟩:=HW.out.rd.five;obtain⟨q0,q1,q2,q3,q4⟩:=HW.out.three;have p0:=(HW.out.box 0 q _ rfl).at_ 0 _ rfl
    have HE:=zz HE
    all_goals go_wp2_with (first | (go_at_call 55;go_must ((with_reducible refine(KO.out _).mono ?_);rintro e w3 ⟨rfl,rfl⟩;have HY:=zz ((HW.out.place (k+1) ((k:Int)+1) (by omega) HK.out));have p0:=(HY.out.box 0 q _ rfl).at_ 0 _ rfl;obtain⟨q0,q1,q2,q3,q4⟩:=HY.out.three)) | (go_at_call 62;go_must ((with_reducible refine(K1.out _ HY.out.rd).mono ?_);rintro e v1 ⟨A1,us,c1,rfl,hs1,hv1,hr1⟩;have HP1:=zz HY.out;have HC1:=zz (HP1.out.call hs1);have HV1:=zz hv1;have HX1:=zz (z1f (b:=b) (q:=q) (RP:=UsP R1 A1 us) (by have:=HP1.out.three;omega) (by have:=HP1.out.three;omega) hs1.1.size hr1);obtain⟨q0,q1,q2,q3,q4⟩:=HC1.out.three;obtain⟨y0,y1,y2,y3,y4,y5,y6,y7,y8,y9,y10,y11,y12⟩:=(HC1.out.box 0 q _ rfl).all13;obtain⟨g0,g1,g2,g3,g4,g5,g6,g7,g8,g9,g10,g11,g12⟩:=(HC1.out.box 2 w.heap.size zeroC rfl).all13;obtain⟨j0,j1,j2,j3,j4,j5,j6,j7,j8,j9',j10,j11,j12⟩:=(HC1.out.box 2 w.heap.size zeroC rfl).fre13;have y0:=(HC1.out.box 0 q _ rfl).at_ 0 _ rfl;have f0:=(HC1.out.box 0 q _ rfl).fr 0 (by simp);have y11:=(HC1.out.box 0 q _ rfl).at_ 11 _ rfl;have f11:=(HC1.out.box 0 q _ rfl).fr 11 (by simp);clear hs1 hv1 hr1)))
    all_goals have HL:=(HC1.out.put 0 q _ rfl 11 (by simp) (.slice A1 us.length c1)).put13 2 w.heap.size _ _ _ _ _ _ _ _ _ _ _ _ _ rfl (.int .i64 14) oS oZ () oZ oZ oS oS () () () (.slice A1 us.length c1) (.int .i64 pl)
    all_goals obtain⟨r0,r1,r2,r3,r4,r5,r6,r7,r8,r9,r10,r11,r12⟩:=(HL.box 2 w.heap.size _ rfl).all13
    all_goals refine bodyPost_ret (v:= .agg #[iI 14,oS,oZ,(),oZ,oZ,oS,oS,(),(),(),.slice A1 us.length c1,pl]) (by simp[results,Tryz.results32,go_sem,r0,r1,r2,r3,r4,r5,r6,r7,r8,r9,r10,r11,r12]) rfl ⟨.mk 14 [] 0 [] exNone [] [] us pl,⟨none,0,none,0,none,0,none,0,A1,c1⟩,rfl,?_,(HE.out us HV1.out).2.2,fun h0=>?_⟩
    all_goals first | (rw[(HE.out us HV1.out).1,(HE.out us HV1.out).2.1];exact HL.step) | skip
    all_goals (have h9:=(HE.out us HV1.out).2.1.symm.trans h0)
    all_goals exact z0u.2 ⟨.inl rfl,KidsX.leaf _ _ _ _ _ _ _,.inl rfl,.inl rfl,(((HX1.out.put (z15 R1 A1 us) (Nat.le_refl q) (by omega) 11 (.slice A1 us.length c1)).put13 (z15 R1 A1 us) (p:=w.heap.size) (by omega) (by omega) (.int .i64 14) oS oZ () oZ oZ oS oS () () () (.slice A1 us.length c1) (.int .i64 pl)).fin (z15 R1 A1 us) (lo:=w.heap.size) (by omega) h9)⟩
end Go.Proofs.YtngfihoempcplaaGreatDoor
