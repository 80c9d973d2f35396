import Derived.Test.YtngfihoempcplaaGreatDoorSc11
import Derived.Deep.AppendLies
import Derived.Deep.Slices
import Derived.Deep.LoopGhost
namespace Go.Proofs.YtngfihoempcplaaGreatDoor
open Go Go.RowKit
set_option maxRecDepth 100000
set_option maxHeartbeats 4000000
theorem scond_bad (b:Nat) (w:World) (A:Option Addr) (n c:Nat) (l:List Tok) (k i:Nat) (x:Ex) (j er:Nat) (h:RdS b w A n c l k 0) (hj:j≤n) (her:er=1∨er=8)
  (KN:NeedC b A n c l 4 ⟨#[40]⟩ k 0 i 0) (KP:ParC b A n c l i x j er) (KR:RefC b A n c l er j 0 er) (KM:NeedC b A n c l 4 ⟨#[41]⟩ j er j er):
  Calls Tryz.prog 59 #[.pointer (some ⟨b,0,none⟩)] w fun e w'=>∃ A2 c2,e= .returned (.agg #[.int .i64 x.kind,.int .i64 x.n,.string ⟨x.name.toArray⟩,.string ⟨x.op.toArray⟩,.slice A2 x.kids.length c2])∧StepS b w A n c l j er w':=by
 have H:=Lib.hid (Cx.start h);obtain⟨b1,b2,b3,b4⟩:=neq0_f (a:=er) (by omega);obtain⟨x0,x1,x2,_,_⟩:=H.out.rd.five;have hlt:=H.out.lt;have HJ:=Lib.hid hj;have kb:k≤4000:=by have:=h.few;have:=h.le;omega
 clear h her hj;go_enter Tryz.func59,Tryz.ntmps59;go_wp2_with (first | (go_at_call 100;go_must (((with_reducible refine(KN.out _ (H.out.rd.box _)).mono ?_));rintro e w1 ⟨rfl,hs1⟩;have HC:=Lib.hid ((H.out.alloc 38 zeroXs (by simp)).call hs1);obtain⟨d0,d1,d2,d3,d4⟩:=HC.out.rd.five;obtain⟨q0,q1,q2⟩:=HC.out.one;clear hs1)));clear d3 d4 x0 x1 x2;obtain⟨d0,d1,d2,d3,d4⟩:=HC.out.drew.rd.five;obtain⟨a0,a1,a2,a3,a4⟩:=(HC.out.alloc 38 zeroXs (by simp)).drew.rd.five;have m0:=d0;have m1:=d1;have n0:=d0;have n1:=d1;have s0:=d0;have s1:=d1;clear d3 d4 a2 a3 a4
 go_region_held3 (fun W'=>W'.cell? ⟨b,0,none⟩=some (.slice A n c)∧W'.cell? ⟨b,1,none⟩=some (.int .i64 i))
  (first | (with_reducible exact⟨d0,d1⟩) | (with_reducible exact⟨a0,a1⟩) | (with_reducible exact⟨m0,m1⟩) | (with_reducible exact⟨n0,n1⟩) | (with_reducible exact⟨s0,s1⟩))
  (first
   | (go_at_call 101;((with_reducible refine(KP.out _ HC.out.drew.rd).mono ?_));rintro e w2 ⟨A2,c2,rfl,hb2,hk2⟩;have HK2:=Lib.hid (HC.out.drew.below hb2);have HG:=Lib.hid (HK2.out.alloc 38 (cellsX x A2 c2) (by simp));have HXK:=Lib.hid (hk2.to (lo':=w.heap.size+1) (hi':=w2.heap.size) (by exact q2) (Nat.le_refl _));obtain⟨m0,m1,_⟩:=HK2.out.rd.five;have HD0:=Lib.hid (HK2.out.alloc 38 zeroXs (by simp));obtain⟨n0,n1,_⟩:=HD0.out.rd.five;obtain⟨s0,s1,_⟩:=HG.out.rd.five)
   | (go_at_call 101;((with_reducible refine(KP.out _ (HC.out.alloc 38 zeroXs (by simp)).drew.rd).mono ?_));rintro e w2 ⟨A2,c2,rfl,hb2,hk2⟩;have HK2:=Lib.hid ((HC.out.alloc 38 zeroXs (by simp)).drew.below hb2);have HG:=Lib.hid (HK2.out.put5 0 _ _ _ _ _ _ rfl (.int .i64 x.kind) (.int .i64 x.n) (.string ⟨x.name.toArray⟩) (.string ⟨x.op.toArray⟩) (.slice A2 x.kids.length c2));have HXK:=Lib.hid (hk2.to (lo':=w.heap.size+1) (hi':=w2.heap.size) (by simp;omega) (Nat.le_refl _));have HXK2:=Lib.hid ((hk2.put5 (c:=w1.heap.size) (fun hp=>by have h9:w1.heap.size+1≤w1.heap.size:=(by simpa using hp.1);omega) (.int .i64 x.kind) (.int .i64 x.n) (.string ⟨x.name.toArray⟩) (.string ⟨x.op.toArray⟩) (.slice A2 x.kids.length c2)).to (lo':=w.heap.size+1) (hi':=w2.heap.size) (by simp;omega) (Nat.le_refl _));obtain⟨m0,m1,_⟩:=HK2.out.rd.five;obtain⟨s0,s1,_⟩:=HG.out.rd.five;obtain⟨p0,p1,p2,p3,p4⟩:=(HK2.out.box 0 _ zeroXs rfl).all5;obtain⟨o0,o1,o2,o3,o4⟩:=(HK2.out.box 0 _ zeroXs rfl).fre5))
 ·obtain⟨W,HW,HKX,hW⟩:∃ W,Hid (Cx b w W A n c l i 0 [(w2.heap.size,cellsX x A2 c2),(w.heap.size,zeroXs)])∧Hid (KidsX (FrX (w.heap.size+1) w2.heap.size) W A2 x∧w2.heap.size≤W.heap.size)∧W=w2.alloc (.cells #[.int .i64 x.kind,.int .i64 x.n,.string ⟨x.name.toArray⟩,.string ⟨x.op.toArray⟩,.slice A2 x.kids.length c2] 38):=⟨_,HG,Lib.hid ⟨HXK.out.allocX (fun k hk=>hk.2) _,by simp⟩,rfl⟩
  rw[←hW];clear hW HG HXK HD0 HK2 m0 m1 n0 n1 s0 s1 d0 d1 d2 a0 a1 q0 q1 q2;obtain⟨d0,d1,d2,d3,d4⟩:=HW.out.rd.five;obtain⟨q0,q1,q2,q3⟩:=HW.out.two;obtain⟨g0,g1,g2,g3,g4⟩:=(HW.out.box 1 w.heap.size zeroXs rfl).all5;obtain⟨j0,j1,j2,j3,j4⟩:=(HW.out.box 1 w.heap.size zeroXs rfl).fre5;obtain⟨y0,y1,y2,y3,y4⟩:=(HW.out.box 0 _ (cellsX x A2 c2) rfl).all5;go_wp2_with (first | (go_at_call 17;go_must (((with_reducible refine(KR.out _ (HW.out.place j j rfl HJ.out).rd).mono ?_));rintro e w4 ⟨rfl,hs4⟩;have HR:=Lib.hid ((HW.out.place j j rfl HJ.out).call hs4);clear hs4)) | (go_at_call 100;go_must (((with_reducible refine(KM.out _ HR.out.rd).mono ?_));rintro e w5 ⟨rfl,hs5⟩;have HS:=Lib.hid (HR.out.call hs5);clear hs5;obtain⟨d0,d1,d2,d3,d4⟩:=HS.out.rd.five;obtain⟨q0,q1,q2,q3⟩:=HS.out.two;obtain⟨g0,g1,g2,g3,g4⟩:=(HS.out.box 1 w.heap.size zeroXs rfl).all5;obtain⟨j0,j1,j2,j3,j4⟩:=(HS.out.box 1 w.heap.size zeroXs rfl).fre5;obtain⟨y0,y1,y2,y3,y4⟩:=(HS.out.box 0 _ (cellsX x A2 c2) rfl).all5)));have HE:=HS.out.put5 1 w.heap.size _ _ _ _ _ rfl (.int .i64 x.kind) (.int .i64 x.n) (.string ⟨x.name.toArray⟩) (.string ⟨x.op.toArray⟩) (.slice A2 x.kids.length c2);obtain⟨r0,r1,r2,r3,r4⟩:=(HE.box 1 w.heap.size _ rfl).all5;exact bodyPost_ret (v:= .agg #[.int .i64 x.kind,.int .i64 x.n,.string ⟨x.name.toArray⟩,.string ⟨x.op.toArray⟩,.slice A2 x.kids.length c2]) (by simp[results,Tryz.results59,go_sem,r0,r1,r2,r3,r4]) rfl ⟨A2,c2,rfl,HE.step⟩
 ·obtain⟨W,HW,HKX,hW⟩:∃ W,Hid (Cx b w W A n c l i 0 [(w1.heap.size,cellsX x A2 c2),(w.heap.size,zeroXs)])∧Hid (KidsX (FrX (w.heap.size+1) w2.heap.size) W A2 x∧w2.heap.size≤W.heap.size)∧W=((((w2.setCell ⟨w1.heap.size,0,none⟩ (.int .i64 x.kind)).setCell ⟨w1.heap.size,1,none⟩ (.int .i64 x.n)).setCell ⟨w1.heap.size,2,none⟩ (.string ⟨x.name.toArray⟩)).setCell ⟨w1.heap.size,3,none⟩ (.string ⟨x.op.toArray⟩)).setCell ⟨w1.heap.size,4,none⟩ (.slice A2 x.kids.length c2):=⟨_,HG,Lib.hid ⟨HXK2.out,by simp[World.setCell]⟩,rfl⟩
  rw[←hW];clear hW HG HXK HXK2 p0 p1 p2 p3 p4 o0 o1 o2 o3 o4 HK2 m0 m1 n0 n1 s0 s1 d0 d1 d2 a0 a1 q0 q1 q2;obtain⟨d0,d1,d2,d3,d4⟩:=HW.out.rd.five;obtain⟨q0,q1,q2,q3⟩:=HW.out.two;obtain⟨g0,g1,g2,g3,g4⟩:=(HW.out.box 1 w.heap.size zeroXs rfl).all5;obtain⟨j0,j1,j2,j3,j4⟩:=(HW.out.box 1 w.heap.size zeroXs rfl).fre5;obtain⟨y0,y1,y2,y3,y4⟩:=(HW.out.box 0 _ (cellsX x A2 c2) rfl).all5;go_wp2_with (first | (go_at_call 17;go_must (((with_reducible refine(KR.out _ (HW.out.place j j rfl HJ.out).rd).mono ?_));rintro e w4 ⟨rfl,hs4⟩;have HR:=Lib.hid ((HW.out.place j j rfl HJ.out).call hs4);clear hs4)) | (go_at_call 100;go_must (((with_reducible refine(KM.out _ HR.out.rd).mono ?_));rintro e w5 ⟨rfl,hs5⟩;have HS:=Lib.hid (HR.out.call hs5);clear hs5;obtain⟨d0,d1,d2,d3,d4⟩:=HS.out.rd.five;obtain⟨q0,q1,q2,q3⟩:=HS.out.two;obtain⟨g0,g1,g2,g3,g4⟩:=(HS.out.box 1 w.heap.size zeroXs rfl).all5;obtain⟨j0,j1,j2,j3,j4⟩:=(HS.out.box 1 w.heap.size zeroXs rfl).fre5;obtain⟨y0,y1,y2,y3,y4⟩:=(HS.out.box 0 _ (cellsX x A2 c2) rfl).all5)));have HE:=HS.out.put5 1 w.heap.size _ _ _ _ _ rfl (.int .i64 x.kind) (.int .i64 x.n) (.string ⟨x.name.toArray⟩) (.string ⟨x.op.toArray⟩) (.slice A2 x.kids.length c2);obtain⟨r0,r1,r2,r3,r4⟩:=(HE.box 1 w.heap.size _ rfl).all5;exact bodyPost_ret (v:= .agg #[.int .i64 x.kind,.int .i64 x.n,.string ⟨x.name.toArray⟩,.string ⟨x.op.toArray⟩,.slice A2 x.kids.length c2]) (by simp[results,Tryz.results59,go_sem,r0,r1,r2,r3,r4]) rfl ⟨A2,c2,rfl,HE.step⟩
theorem scond_open (b:Nat) (w:World) (A:Option Addr) (n c:Nat) (l:List Tok) (k i:Nat) (x:Ex) (j:Nat) (h:RdS b w A n c l k 0) (hj:j≤n)
  (KN:NeedC b A n c l 4 ⟨#[40]⟩ k 0 i 0) (KP:ParC b A n c l i x j 0) (KM:NeedC b A n c l 4 ⟨#[41]⟩ j 0 j 1):
  Calls Tryz.prog 59 #[.pointer (some ⟨b,0,none⟩)] w fun e w'=>∃ A2 c2,e= .returned (.agg #[.int .i64 x.kind,.int .i64 x.n,.string ⟨x.name.toArray⟩,.string ⟨x.op.toArray⟩,.slice A2 x.kids.length c2])∧StepS b w A n c l j 1 w':=by
 have H:=Lib.hid (Cx.start h);obtain⟨x0,x1,x2,_,_⟩:=H.out.rd.five;have hlt:=H.out.lt;have HJ:=Lib.hid hj;have kb:k≤4000:=by have:=h.few;have:=h.le;omega
 clear h hj;go_enter Tryz.func59,Tryz.ntmps59;go_wp2_with (first | (go_at_call 100;go_must (((with_reducible refine(KN.out _ (H.out.rd.box _)).mono ?_));rintro e w1 ⟨rfl,hs1⟩;have HC:=Lib.hid ((H.out.alloc 38 zeroXs (by simp)).call hs1);obtain⟨d0,d1,d2,d3,d4⟩:=HC.out.rd.five;obtain⟨q0,q1,q2⟩:=HC.out.one;clear hs1)));clear d3 d4 x0 x1 x2;obtain⟨d0,d1,d2,d3,d4⟩:=HC.out.drew.rd.five;obtain⟨a0,a1,a2,a3,a4⟩:=(HC.out.alloc 38 zeroXs (by simp)).drew.rd.five;have m0:=d0;have m1:=d1;have n0:=d0;have n1:=d1;have s0:=d0;have s1:=d1;clear d3 d4 a2 a3 a4
 go_region_held3 (fun W'=>W'.cell? ⟨b,0,none⟩=some (.slice A n c)∧W'.cell? ⟨b,1,none⟩=some (.int .i64 i))
  (first | (with_reducible exact⟨d0,d1⟩) | (with_reducible exact⟨a0,a1⟩) | (with_reducible exact⟨m0,m1⟩) | (with_reducible exact⟨n0,n1⟩) | (with_reducible exact⟨s0,s1⟩))
  (first
   | (go_at_call 101;((with_reducible refine(KP.out _ HC.out.drew.rd).mono ?_));rintro e w2 ⟨A2,c2,rfl,hb2,hk2⟩;have HK2:=Lib.hid (HC.out.drew.below hb2);have HG:=Lib.hid (HK2.out.alloc 38 (cellsX x A2 c2) (by simp));have HXK:=Lib.hid (hk2.to (lo':=w.heap.size+1) (hi':=w2.heap.size) (by exact q2) (Nat.le_refl _));obtain⟨m0,m1,_⟩:=HK2.out.rd.five;have HD0:=Lib.hid (HK2.out.alloc 38 zeroXs (by simp));obtain⟨n0,n1,_⟩:=HD0.out.rd.five;obtain⟨s0,s1,_⟩:=HG.out.rd.five)
   | (go_at_call 101;((with_reducible refine(KP.out _ (HC.out.alloc 38 zeroXs (by simp)).drew.rd).mono ?_));rintro e w2 ⟨A2,c2,rfl,hb2,hk2⟩;have HK2:=Lib.hid ((HC.out.alloc 38 zeroXs (by simp)).drew.below hb2);have HG:=Lib.hid (HK2.out.put5 0 _ _ _ _ _ _ rfl (.int .i64 x.kind) (.int .i64 x.n) (.string ⟨x.name.toArray⟩) (.string ⟨x.op.toArray⟩) (.slice A2 x.kids.length c2));have HXK:=Lib.hid (hk2.to (lo':=w.heap.size+1) (hi':=w2.heap.size) (by simp;omega) (Nat.le_refl _));have HXK2:=Lib.hid ((hk2.put5 (c:=w1.heap.size) (fun hp=>by have h9:w1.heap.size+1≤w1.heap.size:=(by simpa using hp.1);omega) (.int .i64 x.kind) (.int .i64 x.n) (.string ⟨x.name.toArray⟩) (.string ⟨x.op.toArray⟩) (.slice A2 x.kids.length c2)).to (lo':=w.heap.size+1) (hi':=w2.heap.size) (by simp;omega) (Nat.le_refl _));obtain⟨m0,m1,_⟩:=HK2.out.rd.five;obtain⟨s0,s1,_⟩:=HG.out.rd.five;obtain⟨p0,p1,p2,p3,p4⟩:=(HK2.out.box 0 _ zeroXs rfl).all5;obtain⟨o0,o1,o2,o3,o4⟩:=(HK2.out.box 0 _ zeroXs rfl).fre5))
 ·obtain⟨W,HW,HKX,hW⟩:∃ W,Hid (Cx b w W A n c l i 0 [(w2.heap.size,cellsX x A2 c2),(w.heap.size,zeroXs)])∧Hid (KidsX (FrX (w.heap.size+1) w2.heap.size) W A2 x∧w2.heap.size≤W.heap.size)∧W=w2.alloc (.cells #[.int .i64 x.kind,.int .i64 x.n,.string ⟨x.name.toArray⟩,.string ⟨x.op.toArray⟩,.slice A2 x.kids.length c2] 38):=⟨_,HG,Lib.hid ⟨HXK.out.allocX (fun k hk=>hk.2) _,by simp⟩,rfl⟩
  rw[←hW];clear hW HG HXK HD0 HK2 m0 m1 n0 n1 s0 s1 d0 d1 d2 a0 a1 q0 q1 q2;obtain⟨d0,d1,d2,d3,d4⟩:=HW.out.rd.five;obtain⟨q0,q1,q2,q3⟩:=HW.out.two;obtain⟨g0,g1,g2,g3,g4⟩:=(HW.out.box 1 w.heap.size zeroXs rfl).all5;obtain⟨j0,j1,j2,j3,j4⟩:=(HW.out.box 1 w.heap.size zeroXs rfl).fre5;obtain⟨y0,y1,y2,y3,y4⟩:=(HW.out.box 0 _ (cellsX x A2 c2) rfl).all5;go_wp2_with (first | (go_at_call 100;go_must (((with_reducible refine(KM.out _ (HW.out.place j j rfl HJ.out).rd).mono ?_));rintro e w5 ⟨rfl,hs5⟩;have HS:=Lib.hid ((HW.out.place j j rfl HJ.out).call hs5);clear hs5;obtain⟨d0,d1,d2,d3,d4⟩:=HS.out.rd.five;obtain⟨q0,q1,q2,q3⟩:=HS.out.two;obtain⟨g0,g1,g2,g3,g4⟩:=(HS.out.box 1 w.heap.size zeroXs rfl).all5;obtain⟨j0,j1,j2,j3,j4⟩:=(HS.out.box 1 w.heap.size zeroXs rfl).fre5;obtain⟨y0,y1,y2,y3,y4⟩:=(HS.out.box 0 _ (cellsX x A2 c2) rfl).all5)));have HE:=HS.out.put5 1 w.heap.size _ _ _ _ _ rfl (.int .i64 x.kind) (.int .i64 x.n) (.string ⟨x.name.toArray⟩) (.string ⟨x.op.toArray⟩) (.slice A2 x.kids.length c2);obtain⟨r0,r1,r2,r3,r4⟩:=(HE.box 1 w.heap.size _ rfl).all5;exact bodyPost_ret (v:= .agg #[.int .i64 x.kind,.int .i64 x.n,.string ⟨x.name.toArray⟩,.string ⟨x.op.toArray⟩,.slice A2 x.kids.length c2]) (by simp[results,Tryz.results59,go_sem,r0,r1,r2,r3,r4]) rfl ⟨A2,c2,rfl,HE.step⟩
 ·obtain⟨W,HW,HKX,hW⟩:∃ W,Hid (Cx b w W A n c l i 0 [(w1.heap.size,cellsX x A2 c2),(w.heap.size,zeroXs)])∧Hid (KidsX (FrX (w.heap.size+1) w2.heap.size) W A2 x∧w2.heap.size≤W.heap.size)∧W=((((w2.setCell ⟨w1.heap.size,0,none⟩ (.int .i64 x.kind)).setCell ⟨w1.heap.size,1,none⟩ (.int .i64 x.n)).setCell ⟨w1.heap.size,2,none⟩ (.string ⟨x.name.toArray⟩)).setCell ⟨w1.heap.size,3,none⟩ (.string ⟨x.op.toArray⟩)).setCell ⟨w1.heap.size,4,none⟩ (.slice A2 x.kids.length c2):=⟨_,HG,Lib.hid ⟨HXK2.out,by simp[World.setCell]⟩,rfl⟩
  rw[←hW];clear hW HG HXK HXK2 p0 p1 p2 p3 p4 o0 o1 o2 o3 o4 HK2 m0 m1 n0 n1 s0 s1 d0 d1 d2 a0 a1 q0 q1 q2;obtain⟨d0,d1,d2,d3,d4⟩:=HW.out.rd.five;obtain⟨q0,q1,q2,q3⟩:=HW.out.two;obtain⟨g0,g1,g2,g3,g4⟩:=(HW.out.box 1 w.heap.size zeroXs rfl).all5;obtain⟨j0,j1,j2,j3,j4⟩:=(HW.out.box 1 w.heap.size zeroXs rfl).fre5;obtain⟨y0,y1,y2,y3,y4⟩:=(HW.out.box 0 _ (cellsX x A2 c2) rfl).all5;go_wp2_with (first | (go_at_call 100;go_must (((with_reducible refine(KM.out _ (HW.out.place j j rfl HJ.out).rd).mono ?_));rintro e w5 ⟨rfl,hs5⟩;have HS:=Lib.hid ((HW.out.place j j rfl HJ.out).call hs5);clear hs5;obtain⟨d0,d1,d2,d3,d4⟩:=HS.out.rd.five;obtain⟨q0,q1,q2,q3⟩:=HS.out.two;obtain⟨g0,g1,g2,g3,g4⟩:=(HS.out.box 1 w.heap.size zeroXs rfl).all5;obtain⟨j0,j1,j2,j3,j4⟩:=(HS.out.box 1 w.heap.size zeroXs rfl).fre5;obtain⟨y0,y1,y2,y3,y4⟩:=(HS.out.box 0 _ (cellsX x A2 c2) rfl).all5)));have HE:=HS.out.put5 1 w.heap.size _ _ _ _ _ rfl (.int .i64 x.kind) (.int .i64 x.n) (.string ⟨x.name.toArray⟩) (.string ⟨x.op.toArray⟩) (.slice A2 x.kids.length c2);obtain⟨r0,r1,r2,r3,r4⟩:=(HE.box 1 w.heap.size _ rfl).all5;exact bodyPost_ret (v:= .agg #[.int .i64 x.kind,.int .i64 x.n,.string ⟨x.name.toArray⟩,.string ⟨x.op.toArray⟩,.slice A2 x.kids.length c2]) (by simp[results,Tryz.results59,go_sem,r0,r1,r2,r3,r4]) rfl ⟨A2,c2,rfl,HE.step⟩
theorem scond_ok (b:Nat) (w:World) (A:Option Addr) (n c:Nat) (l:List Tok) (k i:Nat) (x:Ex) (j:Nat) (h:RdS b w A n c l k 0) (hj:j≤n)
  (KN:NeedC b A n c l 4 ⟨#[40]⟩ k 0 i 0) (KP:ParC b A n c l i x j 0) (KM:NeedC b A n c l 4 ⟨#[41]⟩ j 0 (j+1) 0)
  (KY:Hid (∀ w' A2 c2,KidsX (FrX w.heap.size w'.heap.size) w' A2 x→Calls Tryz.prog 81 #[.agg #[.int .i64 x.kind,.int .i64 x.n,.string ⟨x.name.toArray⟩,.string ⟨x.op.toArray⟩,.slice A2 x.kids.length c2]] w' fun e w2=>e= .returned (.bool true)∧Below w'.heap.size w' w2)):
  Calls Tryz.prog 59 #[.pointer (some ⟨b,0,none⟩)] w fun e w'=>∃ A2 c2,e= .returned (.agg #[.int .i64 x.kind,.int .i64 x.n,.string ⟨x.name.toArray⟩,.string ⟨x.op.toArray⟩,.slice A2 x.kids.length c2])∧StepS b w A n c l (j+1) 0 w'∧KidsX (FrX w.heap.size w'.heap.size) w' A2 x:=by
 have H:=Lib.hid (Cx.start h);obtain⟨x0,x1,x2,_,_⟩:=H.out.rd.five;have hlt:=H.out.lt;have HJ:=Lib.hid hj;have kb:k≤4000:=by have:=h.few;have:=h.le;omega
 clear h hj;go_enter Tryz.func59,Tryz.ntmps59;go_wp2_with (first | (go_at_call 100;go_must (((with_reducible refine(KN.out _ (H.out.rd.box _)).mono ?_));rintro e w1 ⟨rfl,hs1⟩;have HC:=Lib.hid ((H.out.alloc 38 zeroXs (by simp)).call hs1);obtain⟨d0,d1,d2,d3,d4⟩:=HC.out.rd.five;obtain⟨q0,q1,q2⟩:=HC.out.one;clear hs1)));clear d3 d4 x0 x1 x2;obtain⟨d0,d1,d2,d3,d4⟩:=HC.out.drew.rd.five;obtain⟨a0,a1,a2,a3,a4⟩:=(HC.out.alloc 38 zeroXs (by simp)).drew.rd.five;have m0:=d0;have m1:=d1;have n0:=d0;have n1:=d1;have s0:=d0;have s1:=d1;clear d3 d4 a2 a3 a4
 go_region_held3 (fun W'=>W'.cell? ⟨b,0,none⟩=some (.slice A n c)∧W'.cell? ⟨b,1,none⟩=some (.int .i64 i))
  (first | (with_reducible exact⟨d0,d1⟩) | (with_reducible exact⟨a0,a1⟩) | (with_reducible exact⟨m0,m1⟩) | (with_reducible exact⟨n0,n1⟩) | (with_reducible exact⟨s0,s1⟩))
  (first
   | (go_at_call 101;((with_reducible refine(KP.out _ HC.out.drew.rd).mono ?_));rintro e w2 ⟨A2,c2,rfl,hb2,hk2⟩;have HK2:=Lib.hid (HC.out.drew.below hb2);have HG:=Lib.hid (HK2.out.alloc 38 (cellsX x A2 c2) (by simp));have HXK:=Lib.hid (hk2.to (lo':=w.heap.size+1) (hi':=w2.heap.size) (by exact q2) (Nat.le_refl _));obtain⟨m0,m1,_⟩:=HK2.out.rd.five;have HD0:=Lib.hid (HK2.out.alloc 38 zeroXs (by simp));obtain⟨n0,n1,_⟩:=HD0.out.rd.five;obtain⟨s0,s1,_⟩:=HG.out.rd.five)
   | (go_at_call 101;((with_reducible refine(KP.out _ (HC.out.alloc 38 zeroXs (by simp)).drew.rd).mono ?_));rintro e w2 ⟨A2,c2,rfl,hb2,hk2⟩;have HK2:=Lib.hid ((HC.out.alloc 38 zeroXs (by simp)).drew.below hb2);have HG:=Lib.hid (HK2.out.put5 0 _ _ _ _ _ _ rfl (.int .i64 x.kind) (.int .i64 x.n) (.string ⟨x.name.toArray⟩) (.string ⟨x.op.toArray⟩) (.slice A2 x.kids.length c2));have HXK:=Lib.hid (hk2.to (lo':=w.heap.size+1) (hi':=w2.heap.size) (by simp;omega) (Nat.le_refl _));have HXK2:=Lib.hid ((hk2.put5 (c:=w1.heap.size) (fun hp=>by have h9:w1.heap.size+1≤w1.heap.size:=(by simpa using hp.1);omega) (.int .i64 x.kind) (.int .i64 x.n) (.string ⟨x.name.toArray⟩) (.string ⟨x.op.toArray⟩) (.slice A2 x.kids.length c2)).to (lo':=w.heap.size+1) (hi':=w2.heap.size) (by simp;omega) (Nat.le_refl _));obtain⟨m0,m1,_⟩:=HK2.out.rd.five;obtain⟨s0,s1,_⟩:=HG.out.rd.five;obtain⟨p0,p1,p2,p3,p4⟩:=(HK2.out.box 0 _ zeroXs rfl).all5;obtain⟨o0,o1,o2,o3,o4⟩:=(HK2.out.box 0 _ zeroXs rfl).fre5))
 ·obtain⟨W,HW,HKX,hW⟩:∃ W,Hid (Cx b w W A n c l i 0 [(w2.heap.size,cellsX x A2 c2),(w.heap.size,zeroXs)])∧Hid (KidsX (FrX (w.heap.size+1) w2.heap.size) W A2 x∧w2.heap.size≤W.heap.size)∧W=w2.alloc (.cells #[.int .i64 x.kind,.int .i64 x.n,.string ⟨x.name.toArray⟩,.string ⟨x.op.toArray⟩,.slice A2 x.kids.length c2] 38):=⟨_,HG,Lib.hid ⟨HXK.out.allocX (fun k hk=>hk.2) _,by simp⟩,rfl⟩
  rw[←hW];clear hW HG HXK HD0 HK2 m0 m1 n0 n1 s0 s1 d0 d1 d2 a0 a1 q0 q1 q2;obtain⟨d0,d1,d2,d3,d4⟩:=HW.out.rd.five;obtain⟨q0,q1,q2,q3⟩:=HW.out.two;obtain⟨g0,g1,g2,g3,g4⟩:=(HW.out.box 1 w.heap.size zeroXs rfl).all5;obtain⟨j0,j1,j2,j3,j4⟩:=(HW.out.box 1 w.heap.size zeroXs rfl).fre5;obtain⟨y0,y1,y2,y3,y4⟩:=(HW.out.box 0 _ (cellsX x A2 c2) rfl).all5;go_wp2_with (first | (go_at_call 100;go_must (((with_reducible refine(KM.out _ (HW.out.place j j rfl HJ.out).rd).mono ?_));rintro e w5 ⟨rfl,hs5⟩;have HS:=Lib.hid ((HW.out.place j j rfl HJ.out).call hs5);have HKS:=Lib.hid (((HKX.out.1.over (fun q hq=>Below.heap_setCell _ _ _ _ (by have:=hq.1;have:=HW.out.lt;show q≠b;omega))).grownX hs5.1 (fun q hq=>⟨Nat.lt_of_lt_of_le hq.2 (by have:=HKX.out.2;simpa[World.setCell] using this),by have:=hq.1;have:=HW.out.lt;omega⟩)).to (hi':=w5.heap.size) (Nat.le_refl _) (by have h1:=HKX.out.2;have h2:=hs5.1.size;simp[World.setCell] at h2;omega));clear hs5;obtain⟨d0,d1,d2,d3,d4⟩:=HS.out.rd.five;obtain⟨q0,q1,q2,q3⟩:=HS.out.two;obtain⟨g0,g1,g2,g3,g4⟩:=(HS.out.box 1 w.heap.size zeroXs rfl).all5;obtain⟨j0,j1,j2,j3,j4⟩:=(HS.out.box 1 w.heap.size zeroXs rfl).fre5;obtain⟨y0,y1,y2,y3,y4⟩:=(HS.out.box 0 _ (cellsX x A2 c2) rfl).all5)) | (go_at_call 81;go_must (((with_reducible refine(KY.out _ _ _ (HKS.out.to (Nat.le_succ _) (Nat.le_refl _))).mono ?_));rintro e w6 ⟨rfl,hb6⟩;have HY:=Lib.hid (HS.out.below hb6);have HKY:=Lib.hid (And.intro (HKS.out.over (fun q hq=>hb6.block q hq.2)) hb6.size);clear hb6;obtain⟨d0,d1,d2,d3,d4⟩:=HY.out.rd.five;obtain⟨q0,q1,q2,q3⟩:=HY.out.two;obtain⟨g0,g1,g2,g3,g4⟩:=(HY.out.box 1 w.heap.size zeroXs rfl).all5;obtain⟨j0,j1,j2,j3,j4⟩:=(HY.out.box 1 w.heap.size zeroXs rfl).fre5;obtain⟨y0,y1,y2,y3,y4⟩:=(HY.out.box 0 _ (cellsX x A2 c2) rfl).all5)));have HE:=HY.out.put5 1 w.heap.size _ _ _ _ _ rfl (.int .i64 x.kind) (.int .i64 x.n) (.string ⟨x.name.toArray⟩) (.string ⟨x.op.toArray⟩) (.slice A2 x.kids.length c2);obtain⟨r0,r1,r2,r3,r4⟩:=(HE.box 1 w.heap.size _ rfl).all5;exact bodyPost_ret (v:= .agg #[.int .i64 x.kind,.int .i64 x.n,.string ⟨x.name.toArray⟩,.string ⟨x.op.toArray⟩,.slice A2 x.kids.length c2]) (by simp[results,Tryz.results59,go_sem,r0,r1,r2,r3,r4]) rfl ⟨A2,c2,rfl,HE.step,HKY.out.1.putQ HKY.out.2 _ _ _ _ _⟩
 ·obtain⟨W,HW,HKX,hW⟩:∃ W,Hid (Cx b w W A n c l i 0 [(w1.heap.size,cellsX x A2 c2),(w.heap.size,zeroXs)])∧Hid (KidsX (FrX (w.heap.size+1) w2.heap.size) W A2 x∧w2.heap.size≤W.heap.size)∧W=((((w2.setCell ⟨w1.heap.size,0,none⟩ (.int .i64 x.kind)).setCell ⟨w1.heap.size,1,none⟩ (.int .i64 x.n)).setCell ⟨w1.heap.size,2,none⟩ (.string ⟨x.name.toArray⟩)).setCell ⟨w1.heap.size,3,none⟩ (.string ⟨x.op.toArray⟩)).setCell ⟨w1.heap.size,4,none⟩ (.slice A2 x.kids.length c2):=⟨_,HG,Lib.hid ⟨HXK2.out,by simp[World.setCell]⟩,rfl⟩
  rw[←hW];clear hW HG HXK HXK2 p0 p1 p2 p3 p4 o0 o1 o2 o3 o4 HK2 m0 m1 n0 n1 s0 s1 d0 d1 d2 a0 a1 q0 q1 q2;obtain⟨d0,d1,d2,d3,d4⟩:=HW.out.rd.five;obtain⟨q0,q1,q2,q3⟩:=HW.out.two;obtain⟨g0,g1,g2,g3,g4⟩:=(HW.out.box 1 w.heap.size zeroXs rfl).all5;obtain⟨j0,j1,j2,j3,j4⟩:=(HW.out.box 1 w.heap.size zeroXs rfl).fre5;obtain⟨y0,y1,y2,y3,y4⟩:=(HW.out.box 0 _ (cellsX x A2 c2) rfl).all5;go_wp2_with (first | (go_at_call 100;go_must (((with_reducible refine(KM.out _ (HW.out.place j j rfl HJ.out).rd).mono ?_));rintro e w5 ⟨rfl,hs5⟩;have HS:=Lib.hid ((HW.out.place j j rfl HJ.out).call hs5);have HKS:=Lib.hid (((HKX.out.1.over (fun q hq=>Below.heap_setCell _ _ _ _ (by have:=hq.1;have:=HW.out.lt;show q≠b;omega))).grownX hs5.1 (fun q hq=>⟨Nat.lt_of_lt_of_le hq.2 (by have:=HKX.out.2;simpa[World.setCell] using this),by have:=hq.1;have:=HW.out.lt;omega⟩)).to (hi':=w5.heap.size) (Nat.le_refl _) (by have h1:=HKX.out.2;have h2:=hs5.1.size;simp[World.setCell] at h2;omega));clear hs5;obtain⟨d0,d1,d2,d3,d4⟩:=HS.out.rd.five;obtain⟨q0,q1,q2,q3⟩:=HS.out.two;obtain⟨g0,g1,g2,g3,g4⟩:=(HS.out.box 1 w.heap.size zeroXs rfl).all5;obtain⟨j0,j1,j2,j3,j4⟩:=(HS.out.box 1 w.heap.size zeroXs rfl).fre5;obtain⟨y0,y1,y2,y3,y4⟩:=(HS.out.box 0 _ (cellsX x A2 c2) rfl).all5)) | (go_at_call 81;go_must (((with_reducible refine(KY.out _ _ _ (HKS.out.to (Nat.le_succ _) (Nat.le_refl _))).mono ?_));rintro e w6 ⟨rfl,hb6⟩;have HY:=Lib.hid (HS.out.below hb6);have HKY:=Lib.hid (And.intro (HKS.out.over (fun q hq=>hb6.block q hq.2)) hb6.size);clear hb6;obtain⟨d0,d1,d2,d3,d4⟩:=HY.out.rd.five;obtain⟨q0,q1,q2,q3⟩:=HY.out.two;obtain⟨g0,g1,g2,g3,g4⟩:=(HY.out.box 1 w.heap.size zeroXs rfl).all5;obtain⟨j0,j1,j2,j3,j4⟩:=(HY.out.box 1 w.heap.size zeroXs rfl).fre5;obtain⟨y0,y1,y2,y3,y4⟩:=(HY.out.box 0 _ (cellsX x A2 c2) rfl).all5)));have HE:=HY.out.put5 1 w.heap.size _ _ _ _ _ rfl (.int .i64 x.kind) (.int .i64 x.n) (.string ⟨x.name.toArray⟩) (.string ⟨x.op.toArray⟩) (.slice A2 x.kids.length c2);obtain⟨r0,r1,r2,r3,r4⟩:=(HE.box 1 w.heap.size _ rfl).all5;exact bodyPost_ret (v:= .agg #[.int .i64 x.kind,.int .i64 x.n,.string ⟨x.name.toArray⟩,.string ⟨x.op.toArray⟩,.slice A2 x.kids.length c2]) (by simp[results,Tryz.results59,go_sem,r0,r1,r2,r3,r4]) rfl ⟨A2,c2,rfl,HE.step,HKY.out.1.putQ HKY.out.2 _ _ _ _ _⟩
theorem scond_deep (b:Nat) (w:World) (A:Option Addr) (n c:Nat) (l:List Tok) (k i:Nat) (x:Ex) (j:Nat) (h:RdS b w A n c l k 0) (hj:j≤n)
  (KN:NeedC b A n c l 4 ⟨#[40]⟩ k 0 i 0) (KP:ParC b A n c l i x j 0) (hk:k≤n) (KM:NeedC b A n c l 4 ⟨#[41]⟩ j 0 (j+1) 0)
  (KY:Hid (∀ w' A2 c2,KidsX (FrX w.heap.size w'.heap.size) w' A2 x→Calls Tryz.prog 81 #[.agg #[.int .i64 x.kind,.int .i64 x.n,.string ⟨x.name.toArray⟩,.string ⟨x.op.toArray⟩,.slice A2 x.kids.length c2]] w' fun e w2=>e= .returned (.bool false)∧Below w'.heap.size w' w2)) (KR:RefC b A n c l 8 k 0 8):
  Calls Tryz.prog 59 #[.pointer (some ⟨b,0,none⟩)] w fun e w'=>∃ A2 c2,e= .returned (.agg #[.int .i64 x.kind,.int .i64 x.n,.string ⟨x.name.toArray⟩,.string ⟨x.op.toArray⟩,.slice A2 x.kids.length c2])∧StepS b w A n c l k 8 w':=by
 have HK:=Lib.hid hk;clear hk;have H:=Lib.hid (Cx.start h);obtain⟨x0,x1,x2,_,_⟩:=H.out.rd.five;have hlt:=H.out.lt;have HJ:=Lib.hid hj;have kb:k≤4000:=by have:=h.few;have:=h.le;omega
 clear h hj;go_enter Tryz.func59,Tryz.ntmps59;go_wp2_with (first | (go_at_call 100;go_must (((with_reducible refine(KN.out _ (H.out.rd.box _)).mono ?_));rintro e w1 ⟨rfl,hs1⟩;have HC:=Lib.hid ((H.out.alloc 38 zeroXs (by simp)).call hs1);obtain⟨d0,d1,d2,d3,d4⟩:=HC.out.rd.five;obtain⟨q0,q1,q2⟩:=HC.out.one;clear hs1)));clear d3 d4 x0 x1 x2;obtain⟨d0,d1,d2,d3,d4⟩:=HC.out.drew.rd.five;obtain⟨a0,a1,a2,a3,a4⟩:=(HC.out.alloc 38 zeroXs (by simp)).drew.rd.five;have m0:=d0;have m1:=d1;have n0:=d0;have n1:=d1;have s0:=d0;have s1:=d1;clear d3 d4 a2 a3 a4
 go_region_held3 (fun W'=>W'.cell? ⟨b,0,none⟩=some (.slice A n c)∧W'.cell? ⟨b,1,none⟩=some (.int .i64 i))
  (first | (with_reducible exact⟨d0,d1⟩) | (with_reducible exact⟨a0,a1⟩) | (with_reducible exact⟨m0,m1⟩) | (with_reducible exact⟨n0,n1⟩) | (with_reducible exact⟨s0,s1⟩))
  (first
   | (go_at_call 101;((with_reducible refine(KP.out _ HC.out.drew.rd).mono ?_));rintro e w2 ⟨A2,c2,rfl,hb2,hk2⟩;have HK2:=Lib.hid (HC.out.drew.below hb2);have HG:=Lib.hid (HK2.out.alloc 38 (cellsX x A2 c2) (by simp));have HXK:=Lib.hid (hk2.to (lo':=w.heap.size+1) (hi':=w2.heap.size) (by exact q2) (Nat.le_refl _));obtain⟨m0,m1,_⟩:=HK2.out.rd.five;have HD0:=Lib.hid (HK2.out.alloc 38 zeroXs (by simp));obtain⟨n0,n1,_⟩:=HD0.out.rd.five;obtain⟨s0,s1,_⟩:=HG.out.rd.five)
   | (go_at_call 101;((with_reducible refine(KP.out _ (HC.out.alloc 38 zeroXs (by simp)).drew.rd).mono ?_));rintro e w2 ⟨A2,c2,rfl,hb2,hk2⟩;have HK2:=Lib.hid ((HC.out.alloc 38 zeroXs (by simp)).drew.below hb2);have HG:=Lib.hid (HK2.out.put5 0 _ _ _ _ _ _ rfl (.int .i64 x.kind) (.int .i64 x.n) (.string ⟨x.name.toArray⟩) (.string ⟨x.op.toArray⟩) (.slice A2 x.kids.length c2));have HXK:=Lib.hid (hk2.to (lo':=w.heap.size+1) (hi':=w2.heap.size) (by simp;omega) (Nat.le_refl _));have HXK2:=Lib.hid ((hk2.put5 (c:=w1.heap.size) (fun hp=>by have h9:w1.heap.size+1≤w1.heap.size:=(by simpa using hp.1);omega) (.int .i64 x.kind) (.int .i64 x.n) (.string ⟨x.name.toArray⟩) (.string ⟨x.op.toArray⟩) (.slice A2 x.kids.length c2)).to (lo':=w.heap.size+1) (hi':=w2.heap.size) (by simp;omega) (Nat.le_refl _));obtain⟨m0,m1,_⟩:=HK2.out.rd.five;obtain⟨s0,s1,_⟩:=HG.out.rd.five;obtain⟨p0,p1,p2,p3,p4⟩:=(HK2.out.box 0 _ zeroXs rfl).all5;obtain⟨o0,o1,o2,o3,o4⟩:=(HK2.out.box 0 _ zeroXs rfl).fre5))
 ·obtain⟨W,HW,HKX,hW⟩:∃ W,Hid (Cx b w W A n c l i 0 [(w2.heap.size,cellsX x A2 c2),(w.heap.size,zeroXs)])∧Hid (KidsX (FrX (w.heap.size+1) w2.heap.size) W A2 x∧w2.heap.size≤W.heap.size)∧W=w2.alloc (.cells #[.int .i64 x.kind,.int .i64 x.n,.string ⟨x.name.toArray⟩,.string ⟨x.op.toArray⟩,.slice A2 x.kids.length c2] 38):=⟨_,HG,Lib.hid ⟨HXK.out.allocX (fun k hk=>hk.2) _,by simp⟩,rfl⟩
  rw[←hW];clear hW HG HXK HD0 HK2 m0 m1 n0 n1 s0 s1 d0 d1 d2 a0 a1 q0 q1 q2;obtain⟨d0,d1,d2,d3,d4⟩:=HW.out.rd.five;obtain⟨q0,q1,q2,q3⟩:=HW.out.two;obtain⟨g0,g1,g2,g3,g4⟩:=(HW.out.box 1 w.heap.size zeroXs rfl).all5;obtain⟨j0,j1,j2,j3,j4⟩:=(HW.out.box 1 w.heap.size zeroXs rfl).fre5;obtain⟨y0,y1,y2,y3,y4⟩:=(HW.out.box 0 _ (cellsX x A2 c2) rfl).all5;go_wp2_with (first | (go_at_call 100;go_must (((with_reducible refine(KM.out _ (HW.out.place j j rfl HJ.out).rd).mono ?_));rintro e w5 ⟨rfl,hs5⟩;have HS:=Lib.hid ((HW.out.place j j rfl HJ.out).call hs5);have HKS:=Lib.hid (((HKX.out.1.over (fun q hq=>Below.heap_setCell _ _ _ _ (by have:=hq.1;have:=HW.out.lt;show q≠b;omega))).grownX hs5.1 (fun q hq=>⟨Nat.lt_of_lt_of_le hq.2 (by have:=HKX.out.2;simpa[World.setCell] using this),by have:=hq.1;have:=HW.out.lt;omega⟩)).to (hi':=w5.heap.size) (Nat.le_refl _) (by have h1:=HKX.out.2;have h2:=hs5.1.size;simp[World.setCell] at h2;omega));clear hs5;obtain⟨d0,d1,d2,d3,d4⟩:=HS.out.rd.five;obtain⟨q0,q1,q2,q3⟩:=HS.out.two;obtain⟨g0,g1,g2,g3,g4⟩:=(HS.out.box 1 w.heap.size zeroXs rfl).all5;obtain⟨j0,j1,j2,j3,j4⟩:=(HS.out.box 1 w.heap.size zeroXs rfl).fre5;obtain⟨y0,y1,y2,y3,y4⟩:=(HS.out.box 0 _ (cellsX x A2 c2) rfl).all5)) | (go_at_call 81;go_must (((with_reducible refine(KY.out _ _ _ (HKS.out.to (Nat.le_succ _) (Nat.le_refl _))).mono ?_));rintro e w6 ⟨rfl,hb6⟩;have HY:=Lib.hid (HS.out.below hb6);have HKY:=Lib.hid (And.intro (HKS.out.over (fun q hq=>hb6.block q hq.2)) hb6.size);clear hb6;obtain⟨d0,d1,d2,d3,d4⟩:=HY.out.rd.five;obtain⟨q0,q1,q2,q3⟩:=HY.out.two;obtain⟨g0,g1,g2,g3,g4⟩:=(HY.out.box 1 w.heap.size zeroXs rfl).all5;obtain⟨j0,j1,j2,j3,j4⟩:=(HY.out.box 1 w.heap.size zeroXs rfl).fre5;obtain⟨y0,y1,y2,y3,y4⟩:=(HY.out.box 0 _ (cellsX x A2 c2) rfl).all5)) | (go_at_call 17;go_must (((with_reducible refine(KR.out _ (HY.out.place k k rfl HK.out).rd).mono ?_));rintro e w7 ⟨rfl,hs7⟩;have HZ:=Lib.hid ((HY.out.place k k rfl HK.out).call hs7);clear hs7;obtain⟨d0,d1,d2,d3,d4⟩:=HZ.out.rd.five;obtain⟨q0,q1,q2,q3⟩:=HZ.out.two;obtain⟨g0,g1,g2,g3,g4⟩:=(HZ.out.box 1 w.heap.size zeroXs rfl).all5;obtain⟨j0,j1,j2,j3,j4⟩:=(HZ.out.box 1 w.heap.size zeroXs rfl).fre5;obtain⟨y0,y1,y2,y3,y4⟩:=(HZ.out.box 0 _ (cellsX x A2 c2) rfl).all5)));have HE:=HZ.out.put5 1 w.heap.size _ _ _ _ _ rfl (.int .i64 x.kind) (.int .i64 x.n) (.string ⟨x.name.toArray⟩) (.string ⟨x.op.toArray⟩) (.slice A2 x.kids.length c2);obtain⟨r0,r1,r2,r3,r4⟩:=(HE.box 1 w.heap.size _ rfl).all5;exact bodyPost_ret (v:= .agg #[.int .i64 x.kind,.int .i64 x.n,.string ⟨x.name.toArray⟩,.string ⟨x.op.toArray⟩,.slice A2 x.kids.length c2]) (by simp[results,Tryz.results59,go_sem,r0,r1,r2,r3,r4]) rfl ⟨A2,c2,rfl,HE.step⟩
 ·obtain⟨W,HW,HKX,hW⟩:∃ W,Hid (Cx b w W A n c l i 0 [(w1.heap.size,cellsX x A2 c2),(w.heap.size,zeroXs)])∧Hid (KidsX (FrX (w.heap.size+1) w2.heap.size) W A2 x∧w2.heap.size≤W.heap.size)∧W=((((w2.setCell ⟨w1.heap.size,0,none⟩ (.int .i64 x.kind)).setCell ⟨w1.heap.size,1,none⟩ (.int .i64 x.n)).setCell ⟨w1.heap.size,2,none⟩ (.string ⟨x.name.toArray⟩)).setCell ⟨w1.heap.size,3,none⟩ (.string ⟨x.op.toArray⟩)).setCell ⟨w1.heap.size,4,none⟩ (.slice A2 x.kids.length c2):=⟨_,HG,Lib.hid ⟨HXK2.out,by simp[World.setCell]⟩,rfl⟩
  rw[←hW];clear hW HG HXK HXK2 p0 p1 p2 p3 p4 o0 o1 o2 o3 o4 HK2 m0 m1 n0 n1 s0 s1 d0 d1 d2 a0 a1 q0 q1 q2;obtain⟨d0,d1,d2,d3,d4⟩:=HW.out.rd.five;obtain⟨q0,q1,q2,q3⟩:=HW.out.two;obtain⟨g0,g1,g2,g3,g4⟩:=(HW.out.box 1 w.heap.size zeroXs rfl).all5;obtain⟨j0,j1,j2,j3,j4⟩:=(HW.out.box 1 w.heap.size zeroXs rfl).fre5;obtain⟨y0,y1,y2,y3,y4⟩:=(HW.out.box 0 _ (cellsX x A2 c2) rfl).all5;go_wp2_with (first | (go_at_call 100;go_must (((with_reducible refine(KM.out _ (HW.out.place j j rfl HJ.out).rd).mono ?_));rintro e w5 ⟨rfl,hs5⟩;have HS:=Lib.hid ((HW.out.place j j rfl HJ.out).call hs5);have HKS:=Lib.hid (((HKX.out.1.over (fun q hq=>Below.heap_setCell _ _ _ _ (by have:=hq.1;have:=HW.out.lt;show q≠b;omega))).grownX hs5.1 (fun q hq=>⟨Nat.lt_of_lt_of_le hq.2 (by have:=HKX.out.2;simpa[World.setCell] using this),by have:=hq.1;have:=HW.out.lt;omega⟩)).to (hi':=w5.heap.size) (Nat.le_refl _) (by have h1:=HKX.out.2;have h2:=hs5.1.size;simp[World.setCell] at h2;omega));clear hs5;obtain⟨d0,d1,d2,d3,d4⟩:=HS.out.rd.five;obtain⟨q0,q1,q2,q3⟩:=HS.out.two;obtain⟨g0,g1,g2,g3,g4⟩:=(HS.out.box 1 w.heap.size zeroXs rfl).all5;obtain⟨j0,j1,j2,j3,j4⟩:=(HS.out.box 1 w.heap.size zeroXs rfl).fre5;obtain⟨y0,y1,y2,y3,y4⟩:=(HS.out.box 0 _ (cellsX x A2 c2) rfl).all5)) | (go_at_call 81;go_must (((with_reducible refine(KY.out _ _ _ (HKS.out.to (Nat.le_succ _) (Nat.le_refl _))).mono ?_));rintro e w6 ⟨rfl,hb6⟩;have HY:=Lib.hid (HS.out.below hb6);have HKY:=Lib.hid (And.intro (HKS.out.over (fun q hq=>hb6.block q hq.2)) hb6.size);clear hb6;obtain⟨d0,d1,d2,d3,d4⟩:=HY.out.rd.five;obtain⟨q0,q1,q2,q3⟩:=HY.out.two;obtain⟨g0,g1,g2,g3,g4⟩:=(HY.out.box 1 w.heap.size zeroXs rfl).all5;obtain⟨j0,j1,j2,j3,j4⟩:=(HY.out.box 1 w.heap.size zeroXs rfl).fre5;obtain⟨y0,y1,y2,y3,y4⟩:=(HY.out.box 0 _ (cellsX x A2 c2) rfl).all5)) | (go_at_call 17;go_must (((with_reducible refine(KR.out _ (HY.out.place k k rfl HK.out).rd).mono ?_));rintro e w7 ⟨rfl,hs7⟩;have HZ:=Lib.hid ((HY.out.place k k rfl HK.out).call hs7);clear hs7;obtain⟨d0,d1,d2,d3,d4⟩:=HZ.out.rd.five;obtain⟨q0,q1,q2,q3⟩:=HZ.out.two;obtain⟨g0,g1,g2,g3,g4⟩:=(HZ.out.box 1 w.heap.size zeroXs rfl).all5;obtain⟨j0,j1,j2,j3,j4⟩:=(HZ.out.box 1 w.heap.size zeroXs rfl).fre5;obtain⟨y0,y1,y2,y3,y4⟩:=(HZ.out.box 0 _ (cellsX x A2 c2) rfl).all5)));have HE:=HZ.out.put5 1 w.heap.size _ _ _ _ _ rfl (.int .i64 x.kind) (.int .i64 x.n) (.string ⟨x.name.toArray⟩) (.string ⟨x.op.toArray⟩) (.slice A2 x.kids.length c2);obtain⟨r0,r1,r2,r3,r4⟩:=(HE.box 1 w.heap.size _ rfl).all5;exact bodyPost_ret (v:= .agg #[.int .i64 x.kind,.int .i64 x.n,.string ⟨x.name.toArray⟩,.string ⟨x.op.toArray⟩,.slice A2 x.kids.length c2]) (by simp[results,Tryz.results59,go_sem,r0,r1,r2,r3,r4]) rfl ⟨A2,c2,rfl,HE.step⟩
theorem scond_any (b:Nat) (w:World) (A:Option Addr) (n c:Nat) (l:List Tok) (k o:Nat) (h:RdS b w A n c l k o):
  Calls Tryz.prog 59 #[.pointer (some ⟨b,0,none⟩)] w (CondS b w A n c l (gate o k (condF l))):=by
 cases hi:isO l 4 [40] k o with
 | false=>exact scond_no b w A n c l k o h hi
 | true=>
   obtain⟨rfl,hi2⟩:=isO_lt (by decide) hi;have hkl:=isT_lt hi2 (by decide);have hlen:=h.len;have hk1:k+1≤l.length:=hkl;have e0:=need_yes hi;have KN:=needC b A n c l 4 (by decide) ⟨#[40]⟩ k 0 (congrArg Rz.at e0) (congrArg Rz.err e0)
   have e1:gate 0 k (condF l)=(exZ (exR l (k+1))).then fun x j=>(needF l 4 [41] j).then fun _ m=>if mayX x 0 then .ok x m else .bad k true:=by
    rw[gate_ok];unfold condF;have:needF l 4 [40] k= .ok () (k+1):=e0;rw[this];rfl
   rw[e1]
   cases hr:exR l (k+1) with
   | bad j er=>
     have hb:=exR_spec hk1;rw[hr] at hb;have hw:=hb.within (Nat.le_refl 1) hk1;have her:=hw.2.2;have e4:=gate_err (α:=Unit) (o:=er) (k:=j) (F:=needF l 4 [41]) (by omega);have KR:RefC b A n c l er j 0 er:=Lib.hid fun w' h'=>(srefuse_any er (by omega) b w' A n c l j 0 h').mono fun e w2 h=>⟨h.1,h.2.2,h.2.1⟩
     refine(scond_bad b w A n c l k (k+1) exNone j er h (by have:=hw.2.1;omega) (by omega) KN (parC_bad hr) KR (needC b A n c l 4 (by decide) ⟨#[41]⟩ j er e4.2 e4.1)).mono fun e w' hs=>?_
     obtain⟨A2,c2,he,hs⟩:=hs;refine⟨exNone,A2,c2,he,?_,fun y m hy=>by cases hy⟩;show StepS b w A n c l j (if (er==8)=true then 8 else 1) w';rw[show (if (er==8)=true then 8 else 1)=er by rcases her with rfl | rfl <;> rfl];exact hs
   | ok x j=>
     obtain⟨hsx,hnx,hj1,hj2⟩:=exR_small h hk1 hr;show Calls _ _ _ _ (CondS b w A n c l ((needF l 4 [41] j).then fun _ m=>if mayX x 0 then .ok x m else .bad k true))
     cases hq:isO l 4 [41] j 0 with
     | false=>
       have e5:=need_no (l:=l) (kd:=4) (s:=[41]) (k:=j) (.inl rfl) hq;have e6:needF l 4 [41] j= .bad j false:=by unfold needF;exact if_neg (by rw[←isO_zero,hq];decide)
       rw[e6];refine(scond_open b w A n c l k (k+1) x j h hj2 KN (parC_ok hr) (needC b A n c l 4 (by decide) ⟨#[41]⟩ j 0 e5.1 e5.2.1)).mono fun e w' hs=>?_
       obtain⟨A2,c2,he,hs⟩:=hs;exact⟨x,A2,c2,he,hs,fun y m hy=>by cases hy⟩
     | true=>
       have e5:=need_yes hq;have e6:needF l 4 [41] j= .ok () (j+1):=e5;rw[e6];show Calls _ _ _ _ (CondS b w A n c l (if mayX x 0 then .ok x (j+1) else .bad k true));have KM:=needC b A n c l 4 (by decide) ⟨#[41]⟩ j 0 (congrArg Rz.at e5) (congrArg Rz.err e5)
       have KY:Hid (∀ w' A2 c2,KidsX (FrX w.heap.size w'.heap.size) w' A2 x→Calls Tryz.prog 81 #[.agg #[.int .i64 x.kind,.int .i64 x.n,.string ⟨x.name.toArray⟩,.string ⟨x.op.toArray⟩,.slice A2 x.kids.length c2]] w' fun e w2=>e= .returned (.bool (mayX x 0))∧Below w'.heap.size w' w2):=Lib.hid fun w' A2 c2 hk=>by
        have:=cmay_any x A2 c2 w' (hk.wide fun _ hq=>hq.2) hnx hsx;rw[valX_eq] at this;exact this
       cases hm:mayX x 0 with
       | true=>
         rw[hm] at KY;refine(scond_ok b w A n c l k (k+1) x j h hj2 KN (parC_ok hr) KM KY).mono fun e w' hs=>?_
         obtain⟨A2,c2,he,hs,hk⟩:=hs;exact⟨x,A2,c2,he,hs,fun y m hy=>by injection hy with hy;subst hy;exact⟨rfl,hk⟩⟩
       | false=>
         rw[hm] at KY;refine(scond_deep b w A n c l k (k+1) x j h hj2 KN (parC_ok hr) h.le KM KY (refC8 b A n c l k 0 rfl)).mono fun e w' hs=>?_
         obtain⟨A2,c2,he,hs⟩:=hs;exact⟨x,A2,c2,he,hs,fun y m hy=>by cases hy⟩
theorem sbrace_any (d:Nat) (b:Nat) (w:World) (A:Option Addr) (n c:Nat) (l:List Tok) (k o:Nat) (h:RdS b w A n c l k o):
  Calls Tryz.prog 102 #[.pointer (some ⟨b,0,none⟩),.int .i64 d] w fun e w'=>e= .returned (.tuple #[])∧StepS b w A n c l (gate o k (braceF l d)).at (gate o k (braceF l d)).err w':=by
 have H:=Lib.hid (Cx.start h);have KI:Hid (∀ w',RdS b w' A n c l k o→Calls Tryz.prog 103 #[.pointer (some ⟨b,0,none⟩),.int .i64 4,.string ⟨#[123]⟩] w' fun e w2=>e= .returned (.bool (isO l 4 [123] k o))∧Below w'.heap.size w' w2):=Lib.hid fun w' h'=>sisnext_any 4 ⟨#[123]⟩ b w' A n c l k o h'
 by_cases h16:d=16
 ·have b1:((d:Int)==16)=true:=by simp;omega
  have b2:(d==16)=true:=by simp;omega
  cases hi:isO l 4 [123] k o with
  | true=>
    obtain⟨rfl,hi2⟩:=isO_lt (by decide) hi;have e1:gate 0 k (braceF l d)= .bad k true:=by rw[gate_ok];unfold braceF;rw[if_pos ⟨h16,hi2⟩]
    rw[e1];show Calls _ _ _ _ fun e w'=>e= .returned (.tuple #[])∧StepS b w A n c l k 8 w'
    have KR:=refC8 b A n c l k 0 rfl;have e4:=gate_err (α:=Unit) (o:=8) (k:=k) (F:=needF l 4 [123]) (.inr rfl);have KM:=needC b A n c l 4 (by decide) ⟨#[123]⟩ k 8 e4.2 e4.1;rw[hi] at KI;have H16:=Lib.hid h16;clear h hi hi2 e1 e4 h16;go_enter Tryz.func102,Tryz.ntmps102;go_wp2_with (first | (go_at_call 103;go_must (((with_reducible refine(KI.out _ H.out.rd).mono ?_));rintro e w1 ⟨rfl,hb1⟩;have HC:=Lib.hid (H.out.below hb1);clear hb1)) | (go_at_call 17;go_must (((with_reducible refine(KR.out _ HC.out.rd).mono ?_));rintro e w2 ⟨rfl,hs2⟩;have HD:=Lib.hid (HC.out.call hs2);clear hs2)) | (go_at_call 100;go_must (((with_reducible refine(KM.out _ HD.out.rd).mono ?_));rintro e w3 ⟨rfl,hs3⟩;have HE:=Lib.hid (HD.out.call hs3);clear hs3)))
    go_end0
    exact⟨rfl,HE.out.step⟩
  | false=>
    have e1:gate o k (braceF l d)=gate o k (needF l 4 [123]):=by
     unfold gate braceF;by_cases ho:o=0
     ·subst ho
      rw[if_pos rfl,if_pos rfl,if_neg (fun e=>by rw[←isO_zero,hi] at e;exact absurd e.2 (by decide))]
     ·rw[if_neg ho,if_neg ho]
    rw[e1];have KM:=needC b A n c l 4 (by decide) ⟨#[123]⟩ k o rfl rfl;rw[show (⟨#[123]⟩:ByteArray).data.toList=[123] from rfl] at KM;generalize (gate o k (needF l 4 [123])).at=j at KM ⊢;generalize (gate o k (needF l 4 [123])).err=o2 at KM ⊢;rw[hi] at KI;have H16:=Lib.hid h16;clear h hi e1 h16;go_enter Tryz.func102,Tryz.ntmps102;go_wp2_with (first | (go_at_call 103;go_must (((with_reducible refine(KI.out _ H.out.rd).mono ?_));rintro e w1 ⟨rfl,hb1⟩;have HC:=Lib.hid (H.out.below hb1);clear hb1)) | (go_at_call 100;go_must (((with_reducible refine(KM.out _ HC.out.rd).mono ?_));rintro e w3 ⟨rfl,hs3⟩;have HE:=Lib.hid (HC.out.call hs3);clear hs3)))
    go_end0
    exact⟨rfl,HE.out.step⟩
 ·have e1:gate o k (braceF l d)=gate o k (needF l 4 [123]):=by
   unfold gate braceF;by_cases ho:o=0
   ·subst ho
    rw[if_pos rfl,if_pos rfl,if_neg (fun e=>h16 e.1)]
   ·rw[if_neg ho,if_neg ho]
  rw[e1];have KM:=needC b A n c l 4 (by decide) ⟨#[123]⟩ k o rfl rfl;rw[show (⟨#[123]⟩:ByteArray).data.toList=[123] from rfl] at KM;generalize (gate o k (needF l 4 [123])).at=j at KM ⊢;generalize (gate o k (needF l 4 [123])).err=o2 at KM ⊢;have b1:((d:Int)==16)=false:=by simp;omega
  have b2:(d==16)=false:=by simp;omega
  clear h e1 KI h16;go_enter Tryz.func102,Tryz.ntmps102;go_wp2_with (first | (go_at_call 100;go_must (((with_reducible refine(KM.out _ H.out.rd).mono ?_));rintro e w3 ⟨rfl,hs3⟩;have HE:=Lib.hid (H.out.call hs3);clear hs3)))
  go_end0
  exact⟨rfl,HE.out.step⟩
theorem gate_seq {α β:Type} (o k:Nat) (F:Nat→Rz α) (G:α→Nat→Rz β):gate o k (fun k=>(F k).then G)=(gate o k F).then G:=by unfold gate;split <;> rfl
theorem then_seq {α β γ:Type} {R:Rz α} {x:α} (hx:∀ y j,R= .ok y j→y=x) (F:Nat→Rz β) (G:α→β→Nat→Rz γ):(R.then fun y i=>(F i).then (G y))=(gate R.err R.at F).then (G x):=by
 cases R with
 | ok y j=>rw[←hx y j rfl];rfl
 | bad j d=>cases d <;> rfl
theorem then_last {α β:Type} {R:Rz α} {x:α} (hx:∀ y j,R= .ok y j→y=x) (g:α→β):(R.then fun y j=> .ok (g y) j).at=R.at∧(R.then fun y j=> .ok (g y) j).err=R.err∧∀ y j,(R.then fun y j=> .ok (g y) j)= .ok y j→y=g x∧R= .ok x j:=by
 cases R with
 | ok y j=>rw[←hx y j rfl];exact⟨rfl,rfl,fun z i h=>by injection h with h1 h2;subst h1 h2;exact⟨rfl,rfl⟩⟩
 | bad j d=>exact⟨rfl,rfl,fun z i h=>by cases h⟩
theorem unit_eq {R:Rz Unit}:∀ y j,R= .ok y j→y=():=fun _ _ _=>rfl
def NwX (b lo hi:Nat):Nat→Prop:=fun q=>q<b∨(lo≤q∧q<hi)
theorem NwX.wide {b lo hi lo' hi':Nat} (h1:lo'≤lo) (h2:hi≤hi'):∀ q,NwX b lo hi q→NwX b lo' hi' q:=fun _ h=>h.imp id fun h=>⟨Nat.le_trans h1 h.1,Nat.lt_of_lt_of_le h.2 h2⟩
theorem NwX.cell {b lo hi:Nat} {w w':World} (hg:w.grownBy w' (some b)) (hb:b<lo) (hh:hi≤w.heap.size) (hl:lo≤w.heap.size):∀ p:Addr,NwX b lo hi p.block→w'.cell? p=w.cell? p:=fun p hp=>
 World.cell?_of_block (hg.block p.block (by rcases hp with h | h <;> omega) (fun e=>by injection e with e;rcases hp with h | h <;> omega))
def RowS (b:Nat) (w:World) (A:Option Addr) (n c:Nat) (l:List Tok) (R:Rz (List Cm)) (e:Ending) (w':World):Prop:=
 ∃ (A':Option Addr) (xs:List Cm) (c':Nat),e= .returned (.slice A' xs.length c')∧StepS b w A n c l R.at R.err w'∧(∀ y j,R= .ok y j→y=xs)∧(R.err=0→RowC (NwX b w.heap.size w'.heap.size) w' A' xs)
def RecC (b:Nat) (A:Option Addr) (n c:Nat) (l:List Tok) (rec:Nat→Nat→Rz (List Cm)) (k0:Nat):Prop:=
 ∀ (d k o:Nat) (w':World),(o=0→k0≤k∧d≤16)→d≤100→RdS b w' A n c l k o→Calls Tryz.prog 16 #[.pointer (some ⟨b,0,none⟩),.int .i64 d] w' (RowS b w' A n c l (gate o k (rec d)))
def BlkC (b:Nat) (A:Option Addr) (n c:Nat) (l:List Tok) (blk:Nat→Nat→Rz (List Cm)) (k0:Nat):Prop:=
 ∀ (d k o:Nat) (w':World),(o=0→k0≤k∧d≤16)→d≤99→RdS b w' A n c l k o→Calls Tryz.prog 60 #[.pointer (some ⟨b,0,none⟩),.int .i64 d] w' (RowS b w' A n c l (gate o k (blk d)))
theorem braceF_ok {l:List Tok} {d k:Nat} {u:Unit} {j:Nat} (h:braceF l d k= .ok u j):j=k+1∧d≠16:=by
 unfold braceF at h
 split at h
 ·cases h
 ·rename_i hn
  unfold needF at h
  split at h
  ·rename_i ht
   injection h with _ h
   exact⟨h.symm,fun e=>hn ⟨e,ht⟩⟩
  ·cases h
theorem gate_zero {α:Type} {o k:Nat} {F:Nat→Rz α} (ho:o=0∨o=1∨o=8) (h:(gate o k F).err=0):o=0∧∃ x,F k= .ok x (gate o k F).at:=by
 rcases ho with rfl | ho
 ·refine⟨rfl,?_⟩
  rw[gate_ok] at h ⊢
  cases hf:F k with
  | ok x j=>exact⟨x,rfl⟩
  | bad j d=>rw[hf] at h;cases d <;> simp[Rz.err] at h
 ·rw[(gate_err ho).1] at h;omega
theorem sblock_any (b:Nat) (A:Option Addr) (n c:Nat) (l:List Tok) (rec:Nat→Nat→Rz (List Cm)) (k0:Nat) (HR:RecC b A n c l rec k0):BlkC b A n c l (blockF l rec) k0:=by
 intro d k o w hk hd h;have H:=Lib.hid (Cx.start h);have K1:Hid (∀ w',RdS b w' A n c l k o→Calls Tryz.prog 102 #[.pointer (some ⟨b,0,none⟩),.int .i64 d] w' fun e w2=>e= .returned (.tuple #[])∧StepS b w' A n c l (gate o k (braceF l d)).at (gate o k (braceF l d)).err w2):=Lib.hid fun w' h'=>sbrace_any d b w' A n c l k o h'
 have hz:(gate o k (braceF l d)).err=0→k0≤(gate o k (braceF l d)).at∧d+1≤16:=fun he=>by
  obtain⟨ho,u,hu⟩:=gate_zero h.oks he;have h1:=braceF_ok hu;have h2:=hk ho;omega
 have eR:gate o k (blockF l rec d)=(gate (gate o k (braceF l d)).err (gate o k (braceF l d)).at (rec (d+1))).then fun x j=>(needF l 4 [125] j).then fun _ m=> .ok x m:=by
  rw[←then_seq (x:=()) unit_eq (rec (d+1)) (fun _ x j=>(needF l 4 [125] j).then fun _ m=> .ok x m),←gate_seq];rfl
 rw[eR];generalize gate o k (braceF l d)=R1 at K1 hz ⊢;have K2:Hid (∀ w',RdS b w' A n c l R1.at R1.err→Calls Tryz.prog 16 #[.pointer (some ⟨b,0,none⟩),.int .i64 ((d:Int)+1)] w' (RowS b w' A n c l (gate R1.err R1.at (rec (d+1))))):=Lib.hid fun w' h'=>HR (d+1) _ _ w' hz (by omega) h'
 generalize gate R1.err R1.at (rec (d+1))=R2 at K2 ⊢;have K3:=needC b A n c l 4 (by decide) ⟨#[125]⟩ R2.at R2.err rfl rfl;rw[show (⟨#[125]⟩:ByteArray).data.toList=[125] from rfl] at K3;have HE:Hid (∀ xs,(∀ y j,R2= .ok y j→y=xs)→(R2.then fun x j=>(needF l 4 [125] j).then fun _ m=> .ok x m)=(gate R2.err R2.at (needF l 4 [125])).then fun _ m=> .ok xs m):=Lib.hid fun xs hx=>then_seq hx (needF l 4 [125]) (fun x _ m=> .ok x m)
 have HZ:Hid ((gate R2.err R2.at (needF l 4 [125])).err=0→R2.err=0):=Lib.hid fun h=>(gate_zero R2.err_cases h).1
 generalize gate R2.err R2.at (needF l 4 [125])=R3 at K3 HE HZ;unfold RowS at K2;clear hz hk h HR eR;generalize (R2.then fun x j=>(needF l 4 [125] j).then fun _ m=>Rz.ok x m)=R at HE ⊢;unfold RowS;go_enter Tryz.func60,Tryz.ntmps60;go_wp2_with (first | (go_at_call 102;go_must (((with_reducible refine(K1.out _ H.out.rd).mono ?_));rintro e w1 ⟨rfl,hs1⟩;have HC:=Lib.hid (H.out.call hs1);clear hs1)) | (go_at_call 16;go_must (((with_reducible refine(K2.out _ HC.out.rd).mono ?_));rintro e w2 ⟨A2,xs,c2,rfl,hs2,hv2,hr2⟩;have HD:=Lib.hid (HC.out.call hs2);have HV:=Lib.hid hv2;have HR:=Lib.hid hr2;have HG2:=Lib.hid hs2;clear hs2 hv2 hr2)) | (go_at_call 100;go_must (((with_reducible refine(K3.out _ HD.out.rd).mono ?_));rintro e w3 ⟨rfl,hs3⟩;have HF:=Lib.hid (HD.out.call hs3);have HG3:=Lib.hid hs3;clear hs3)));go_ret;have e:=HE.out xs HV.out;have hm:=then_last (R:=R3) (x:=()) unit_eq (fun _=>xs);refine⟨A2,xs,c2,rfl,?_,?_,?_⟩
 ·rw[e,hm.1,hm.2.1];exact HF.out.step
 ·rw[e];exact fun y j h=>(hm.2.2 y j h).1
 ·rw[e,hm.2.1]
  intro h3;have hlt:=HC.out.lt;have h12:=HC.out.gr.size;have h23:=HG2.out.1.size;have h34:=HG3.out.1.size;exact(HR.out (HZ.out h3)).of (NwX.cell HG3.out.1 (by omega) (Nat.le_refl _) h23) (NwX.wide h12 h34)
theorem Cx.put6 {b:Nat} {w W:World} {A:Option Addr} {n c:Nat} {l:List Tok} {k o:Nat} {bs:List (Nat × List Value)} (h:Cx b w W A n c l k o bs) (i q:Nat) (u0 u1 u2 u3 u4 u5:Value) (hi:bs[i]?=some (q,[u0,u1,u2,u3,u4,u5])) (v0 v1 v2 v3 v4 v5:Value):
  Cx b w ((((((W.setCell ⟨q,0,none⟩ v0).setCell ⟨q,1,none⟩ v1).setCell ⟨q,2,none⟩ v2).setCell ⟨q,3,none⟩ v3).setCell ⟨q,4,none⟩ v4).setCell ⟨q,5,none⟩ v5) A n c l k o (bs.set i (q,[v0,v1,v2,v3,v4,v5])):=by
 have hl:=(List.getElem?_eq_some_iff.1 hi).1;have e:∀ x:Nat × List Value,(bs.set i x)[i]?=some x:=fun x=>List.getElem?_set_self hl
 have h0:=h.put i q _ hi 0 (by simp) v0;have h1:=h0.put i q _ (e _) 1 (by simp) v1;have h2:=h1.put i q _ (by rw[List.set_set];exact e _) 2 (by simp) v2;have h3:=h2.put i q _ (by rw[List.set_set,List.set_set];exact e _) 3 (by simp) v3;have h4:=h3.put i q _ (by rw[List.set_set,List.set_set,List.set_set];exact e _) 4 (by simp) v4;have h5:=h4.put i q _ (by rw[List.set_set,List.set_set,List.set_set,List.set_set];exact e _) 5 (by simp) v5;rw[List.set_set,List.set_set,List.set_set,List.set_set,List.set_set] at h5;exact h5
abbrev zeroR:List Value:=[.int .i64 0,.int .i64 0,.int .i64 0,.string ⟨#[]⟩,.slice none 0 0,.int .i64 0]
abbrev PatC (b:Nat) (A:Option Addr) (n c:Nat) (l:List Tok) (k o:Nat) (R:Rz (Int × Bs)):Prop:=Hid (∀ w',RdS b w' A n c l k o→Calls Tryz.prog 132 #[.pointer (some ⟨b,0,none⟩)] w' fun e w2=>
 ∃ (z:Int) (s:Bs),e= .returned (.agg #[.int .i64 z,.string ⟨s.toArray⟩])∧StepS b w' A n c l R.at R.err w2∧∀ y j,R= .ok y j→y=(z,s))
abbrev RwC (b:Nat) (A:Option Addr) (n c:Nat) (l:List Tok) (told:Bool) (k o:Nat) (R:Rz Int):Prop:=Hid (∀ w',RdS b w' A n c l k o→Calls Tryz.prog 133 #[.pointer (some ⟨b,0,none⟩),.bool told] w' fun e w2=>
 ∃ (z:Int),e= .returned (.int .i64 z)∧StepS b w' A n c l R.at R.err w2∧∀ y j,R= .ok y j→y=z)
abbrev BloC (b:Nat) (A:Option Addr) (n c:Nat) (l:List Tok) (d k o:Nat) (R:Rz (List Cm)):Prop:=Hid (∀ w',RdS b w' A n c l k o→Calls Tryz.prog 60 #[.pointer (some ⟨b,0,none⟩),.int .i64 d] w' fun e w2=>
 ∃ (A':Option Addr) (xs:List Cm) (c':Nat),e= .returned (.slice A' xs.length c')∧StepS b w' A n c l R.at R.err w2∧(∀ y j,R= .ok y j→y=xs)∧(R.err=0→RowC (NwX b w'.heap.size w2.heap.size) w2 A' xs))
def RulP (b:Nat) (w:World) (A:Option Addr) (n c:Nat) (l:List Tok) (pl:Int) (Q:Int→Int→Int→Bs→Prop) (R3:Rz (List Cm)) (e:Ending) (w':World):Prop:=
 ∃ (kd q pk:Int) (pt:Bs) (A':Option Addr) (xs:List Cm) (c':Nat),e= .returned (.agg #[.int .i64 kd,.int .i64 q,.int .i64 pk,.string ⟨pt.toArray⟩,.slice A' xs.length c',.int .i64 pl])∧StepS b w A n c l R3.at R3.err w'∧Q kd q pk pt∧(∀ y j,R3= .ok y j→y=xs)∧(R3.err=0→RowC (NwX b w.heap.size w'.heap.size) w' A' xs)
theorem NwX.set {b lo hi m:Nat} {W:World} {u:Value} {i:Nat} (hm:m<lo) (hb:b≤m):∀ p:Addr,NwX b lo hi p.block→(W.setCell ⟨m,i,none⟩ u).cell? p=W.cell? p:=fun p hp=>
 World.cell?_of_block (Below.heap_setCell _ _ _ _ (by show p.block≠m;rcases hp with h | h <;> omega))
theorem RowC.box6 {b lo hi m:Nat} {W:World} {A:Option Addr} {xs:List Cm} (h:RowC (NwX b lo hi) W A xs) (hm:m<lo) (hb:b≤m) (v0 v1 v2 v3 v4 v5:Value):
  RowC (NwX b lo hi) ((((((W.setCell ⟨m,0,none⟩ v0).setCell ⟨m,1,none⟩ v1).setCell ⟨m,2,none⟩ v2).setCell ⟨m,3,none⟩ v3).setCell ⟨m,4,none⟩ v4).setCell ⟨m,5,none⟩ v5) A xs:=
 (((((h.of (NwX.set hm hb) fun _ h=>h).of (NwX.set hm hb) fun _ h=>h).of (NwX.set hm hb) fun _ h=>h).of (NwX.set hm hb) fun _ h=>h).of (NwX.set hm hb) fun _ h=>h).of (NwX.set hm hb) fun _ h=>h
theorem srule_tf (b:Nat) (w:World) (A:Option Addr) (n c:Nat) (l:List Tok) (d k o:Nat) (h:RdS b w A n c l k o) (t0 t1:Tok) (R3:Rz (List Cm)) (R1:Rz Tok) (R2:Rz (Int × Bs))
  (KN:NextC b A n c l k o t0) (KT:TakeC b A n c l 5 ⟨#[105]⟩ k o true (k+1)) (KK:KindC b A n c l 2 (k+1) o R1) (KX:NextC b A n c l R1.at R1.err t1) (ht:t1.kind=5) (KP:PatC b A n c l R1.at R1.err R2) (KB:BloC b A n c l d R2.at R2.err R3):
  Calls Tryz.prog 104 #[.pointer (some ⟨b,0,none⟩),.int .i64 d] w (RulP b w A n c l t0.pl (fun kd q pk pt=>(∀ y j,R1= .ok y j→y.n=q)∧kd=1∧∀ y j,R2= .ok y j→y=(pk,pt)) R3):=by
 have H:=Lib.hid (Cx.start h);have hlt:=h.lt;unfold NextC at KN KX;generalize t0.pl=pl at KN ⊢;generalize t1.kind=kd1 at KX ht;have b1:(kd1==5)=true:=by simpa using ht
 clear h ht;unfold RulP;have tf0:=tokF0;have tf2:=tokF2;have tf4:=tokF4;go_enter Tryz.func104,Tryz.ntmps104
 go_wp2_with (first
  | (go_at_call 31;(((with_reducible refine(KN.out _ (H.out.rd.box _)).mono ?_));rintro e w1 ⟨A1,c1,rfl,hb1,hr1⟩;have HA:=Lib.hid (((H.out.alloc 65 zeroR (by simp)).below hb1).alloc 65 [.int .i64 0,.int .i64 (-1),.int .i64 0,.string ⟨#[]⟩,.slice none 0 0,.int .i64 pl] (by simp));obtain⟨u0,u1,u2,u3,u4,u5⟩:=(HA.out.box 0 _ [.int .i64 0,.int .i64 (-1),.int .i64 0,.string ⟨#[]⟩,.slice none 0 0,.int .i64 pl] rfl).all6;obtain⟨f0,f1,f2,f3,f4,f5⟩:=(HA.out.box 0 _ [.int .i64 0,.int .i64 (-1),.int .i64 0,.string ⟨#[]⟩,.slice none 0 0,.int .i64 pl] rfl).fre6;obtain⟨q0,q1,q2,q3⟩:=HA.out.two;clear hb1 hr1 KN))
  | (go_at_call 61;go_must (((with_reducible refine(KT.out _ HA.out.rd).mono ?_));rintro e w2 ⟨rfl,hs2⟩;have HB:=Lib.hid (HA.out.call hs2);obtain⟨u0,u1,u2,u3,u4,u5⟩:=(HB.out.box 0 _ [.int .i64 0,.int .i64 (-1),.int .i64 0,.string ⟨#[]⟩,.slice none 0 0,.int .i64 pl] rfl).all6;obtain⟨f0,f1,f2,f3,f4,f5⟩:=(HB.out.box 0 _ [.int .i64 0,.int .i64 (-1),.int .i64 0,.string ⟨#[]⟩,.slice none 0 0,.int .i64 pl] rfl).fre6;obtain⟨q0,q1,q2,q3⟩:=HB.out.two;clear hs2))
  | (go_at_call 58;go_must (((with_reducible refine(KK.out _ HB.out.rd).mono ?_));rintro e w3 ⟨t,A2,c2,rfl,hs3,hr3,hv3⟩;have HC:=Lib.hid (HB.out.call hs3);have HV:=Lib.hid hv3;obtain⟨u0,u1,u2,u3,u4,u5⟩:=(HC.out.box 0 _ [.int .i64 0,.int .i64 (-1),.int .i64 0,.string ⟨#[]⟩,.slice none 0 0,.int .i64 pl] rfl).all6;obtain⟨f0,f1,f2,f3,f4,f5⟩:=(HC.out.box 0 _ [.int .i64 0,.int .i64 (-1),.int .i64 0,.string ⟨#[]⟩,.slice none 0 0,.int .i64 pl] rfl).fre6;obtain⟨q0,q1,q2,q3⟩:=HC.out.two;clear hs3 hr3 hv3))
  | (go_at_call 31;go_must (((with_reducible refine(KX.out _ (HC.out.put 0 _ _ rfl 1 (by simp) (.int .i64 t.n)).rd).mono ?_));rintro e w4 ⟨A4,c4,rfl,hb4,hr4⟩;have HD:=Lib.hid ((HC.out.put 0 _ _ rfl 1 (by simp) (.int .i64 t.n)).below hb4);obtain⟨u0,u1,u2,u3,u4,u5⟩:=(HD.out.box 0 _ [.int .i64 0,.int .i64 t.n,.int .i64 0,.string ⟨#[]⟩,.slice none 0 0,.int .i64 pl] rfl).all6;obtain⟨f0,f1,f2,f3,f4,f5⟩:=(HD.out.box 0 _ [.int .i64 0,.int .i64 t.n,.int .i64 0,.string ⟨#[]⟩,.slice none 0 0,.int .i64 pl] rfl).fre6;obtain⟨q0,q1,q2,q3⟩:=HD.out.two;clear hb4 hr4))
  | (go_at_call 132;go_must (((with_reducible refine(KP.out _ HD.out.rd).mono ?_));rintro e w5 ⟨z,s,rfl,hs5,hv5⟩;have HE:=Lib.hid (HD.out.call hs5);have HW:=Lib.hid hv5;obtain⟨u0,u1,u2,u3,u4,u5⟩:=(HE.out.box 0 _ [.int .i64 0,.int .i64 t.n,.int .i64 0,.string ⟨#[]⟩,.slice none 0 0,.int .i64 pl] rfl).all6;obtain⟨f0,f1,f2,f3,f4,f5⟩:=(HE.out.box 0 _ [.int .i64 0,.int .i64 t.n,.int .i64 0,.string ⟨#[]⟩,.slice none 0 0,.int .i64 pl] rfl).fre6;obtain⟨q0,q1,q2,q3⟩:=HE.out.two;clear hs5 hv5))
  | (go_at_call 60;go_must (((with_reducible refine(KB.out _ (((HE.out.put 0 _ _ rfl 0 (by simp) (.int .i64 1)).put 0 _ _ rfl 2 (by simp) (.int .i64 z)).put 0 _ _ rfl 3 (by simp) (.string ⟨s.toArray⟩)).rd).mono ?_));rintro e w6 ⟨A6,xs,c6,rfl,hs6,hv6,hr6⟩;have HF0:=Lib.hid (((HE.out.put 0 _ _ rfl 0 (by simp) (.int .i64 1)).put 0 _ _ rfl 2 (by simp) (.int .i64 z)).put 0 _ _ rfl 3 (by simp) (.string ⟨s.toArray⟩));have HF:=Lib.hid (HF0.out.call hs6);have HX:=Lib.hid hv6;have HR:=Lib.hid hr6;have HG6:=Lib.hid hs6;obtain⟨u0,u1,u2,u3,u4,u5⟩:=(HF.out.box 0 _ [.int .i64 1,.int .i64 t.n,.int .i64 z,.string ⟨s.toArray⟩,.slice none 0 0,.int .i64 pl] rfl).all6;obtain⟨f0,f1,f2,f3,f4,f5⟩:=(HF.out.box 0 _ [.int .i64 1,.int .i64 t.n,.int .i64 z,.string ⟨s.toArray⟩,.slice none 0 0,.int .i64 pl] rfl).fre6;obtain⟨q0,q1,q2,q3⟩:=HF.out.two;obtain⟨g0,g1,g2,g3,g4,g5⟩:=(HF.out.box 1 _ zeroR rfl).all6;obtain⟨j0,j1,j2,j3,j4,j5⟩:=(HF.out.box 1 _ zeroR rfl).fre6;clear hs6 hv6 hr6)))
 have HL:=HF.out.put 0 _ _ rfl 4 (by simp) (.slice A6 xs.length c6);have HE2:=HL.put6 1 w.heap.size _ _ _ _ _ _ rfl (.int .i64 1) (.int .i64 t.n) (.int .i64 z) (.string ⟨s.toArray⟩) (.slice A6 xs.length c6) (.int .i64 pl);obtain⟨r0,r1,r2,r3,r4,r5⟩:=(HE2.box 1 w.heap.size _ rfl).all6;refine bodyPost_ret (v:= .agg #[.int .i64 1,.int .i64 t.n,.int .i64 z,.string ⟨s.toArray⟩,.slice A6 xs.length c6,.int .i64 pl]) (by simp[results,Tryz.results104,go_sem,r0,r1,r2,r3,r4,r5]) rfl ⟨1,t.n,z,s,A6,xs,c6,rfl,HE2.step,⟨fun y j hy=>by rw[HV.out y j hy],rfl,HW.out⟩,HX.out,fun h3=>?_⟩;have hz:=HG6.out.1.size;have hz0:=HF0.out.two;refine((((HR.out h3).of (NwX.set ?_ ?_) fun _ h=>h).box6 ?_ ?_ _ _ _ _ _ _)).of (fun _ _=>rfl) (NwX.wide ?_ ?_) <;> simp[World.setCell] at hz hz0 ⊢ <;> omega
theorem srule_tw (b:Nat) (w:World) (A:Option Addr) (n c:Nat) (l:List Tok) (d k o:Nat) (h:RdS b w A n c l k o) (t0 t1:Tok) (R3:Rz (List Cm)) (R1:Rz Tok) (R2:Rz Int)
  (KN:NextC b A n c l k o t0) (KT:TakeC b A n c l 5 ⟨#[105]⟩ k o true (k+1)) (KK:KindC b A n c l 2 (k+1) o R1) (KX:NextC b A n c l R1.at R1.err t1) (ht:¬ t1.kind=5) (KP:RwC b A n c l true R1.at R1.err R2) (KB:BloC b A n c l d R2.at R2.err R3):
  Calls Tryz.prog 104 #[.pointer (some ⟨b,0,none⟩),.int .i64 d] w (RulP b w A n c l t0.pl (fun kd q pk pt=>(∀ y j,R1= .ok y j→y.n=q)∧pk=0∧pt=[]∧∀ y j,R2= .ok y j→y=kd) R3):=by
 have H:=Lib.hid (Cx.start h);have hlt:=h.lt;unfold NextC at KN KX;generalize t0.pl=pl at KN ⊢;generalize t1.kind=kd1 at KX ht;have b1:(kd1==5)=false:=by simpa using ht
 clear h ht;unfold RulP;have tf0:=tokF0;have tf2:=tokF2;have tf4:=tokF4;go_enter Tryz.func104,Tryz.ntmps104
 go_wp2_with (first
  | (go_at_call 31;(((with_reducible refine(KN.out _ (H.out.rd.box _)).mono ?_));rintro e w1 ⟨A1,c1,rfl,hb1,hr1⟩;have HA:=Lib.hid (((H.out.alloc 65 zeroR (by simp)).below hb1).alloc 65 [.int .i64 0,.int .i64 (-1),.int .i64 0,.string ⟨#[]⟩,.slice none 0 0,.int .i64 pl] (by simp));obtain⟨u0,u1,u2,u3,u4,u5⟩:=(HA.out.box 0 _ [.int .i64 0,.int .i64 (-1),.int .i64 0,.string ⟨#[]⟩,.slice none 0 0,.int .i64 pl] rfl).all6;obtain⟨f0,f1,f2,f3,f4,f5⟩:=(HA.out.box 0 _ [.int .i64 0,.int .i64 (-1),.int .i64 0,.string ⟨#[]⟩,.slice none 0 0,.int .i64 pl] rfl).fre6;obtain⟨q0,q1,q2,q3⟩:=HA.out.two;clear hb1 hr1 KN))
  | (go_at_call 61;go_must (((with_reducible refine(KT.out _ HA.out.rd).mono ?_));rintro e w2 ⟨rfl,hs2⟩;have HB:=Lib.hid (HA.out.call hs2);obtain⟨u0,u1,u2,u3,u4,u5⟩:=(HB.out.box 0 _ [.int .i64 0,.int .i64 (-1),.int .i64 0,.string ⟨#[]⟩,.slice none 0 0,.int .i64 pl] rfl).all6;obtain⟨f0,f1,f2,f3,f4,f5⟩:=(HB.out.box 0 _ [.int .i64 0,.int .i64 (-1),.int .i64 0,.string ⟨#[]⟩,.slice none 0 0,.int .i64 pl] rfl).fre6;obtain⟨q0,q1,q2,q3⟩:=HB.out.two;clear hs2))
  | (go_at_call 58;go_must (((with_reducible refine(KK.out _ HB.out.rd).mono ?_));rintro e w3 ⟨t,A2,c2,rfl,hs3,hr3,hv3⟩;have HC:=Lib.hid (HB.out.call hs3);have HV:=Lib.hid hv3;obtain⟨u0,u1,u2,u3,u4,u5⟩:=(HC.out.box 0 _ [.int .i64 0,.int .i64 (-1),.int .i64 0,.string ⟨#[]⟩,.slice none 0 0,.int .i64 pl] rfl).all6;obtain⟨f0,f1,f2,f3,f4,f5⟩:=(HC.out.box 0 _ [.int .i64 0,.int .i64 (-1),.int .i64 0,.string ⟨#[]⟩,.slice none 0 0,.int .i64 pl] rfl).fre6;obtain⟨q0,q1,q2,q3⟩:=HC.out.two;clear hs3 hr3 hv3))
  | (go_at_call 31;go_must (((with_reducible refine(KX.out _ (HC.out.put 0 _ _ rfl 1 (by simp) (.int .i64 t.n)).rd).mono ?_));rintro e w4 ⟨A4,c4,rfl,hb4,hr4⟩;have HD:=Lib.hid ((HC.out.put 0 _ _ rfl 1 (by simp) (.int .i64 t.n)).below hb4);obtain⟨u0,u1,u2,u3,u4,u5⟩:=(HD.out.box 0 _ [.int .i64 0,.int .i64 t.n,.int .i64 0,.string ⟨#[]⟩,.slice none 0 0,.int .i64 pl] rfl).all6;obtain⟨f0,f1,f2,f3,f4,f5⟩:=(HD.out.box 0 _ [.int .i64 0,.int .i64 t.n,.int .i64 0,.string ⟨#[]⟩,.slice none 0 0,.int .i64 pl] rfl).fre6;obtain⟨q0,q1,q2,q3⟩:=HD.out.two;clear hb4 hr4))
  | (go_at_call 133;go_must (((with_reducible refine(KP.out _ HD.out.rd).mono ?_));rintro e w5 ⟨z,rfl,hs5,hv5⟩;have HE:=Lib.hid (HD.out.call hs5);have HW:=Lib.hid hv5;obtain⟨u0,u1,u2,u3,u4,u5⟩:=(HE.out.box 0 _ [.int .i64 0,.int .i64 t.n,.int .i64 0,.string ⟨#[]⟩,.slice none 0 0,.int .i64 pl] rfl).all6;obtain⟨f0,f1,f2,f3,f4,f5⟩:=(HE.out.box 0 _ [.int .i64 0,.int .i64 t.n,.int .i64 0,.string ⟨#[]⟩,.slice none 0 0,.int .i64 pl] rfl).fre6;obtain⟨q0,q1,q2,q3⟩:=HE.out.two;clear hs5 hv5))
  | (go_at_call 60;go_must (((with_reducible refine(KB.out _ (HE.out.put 0 _ _ rfl 0 (by simp) (.int .i64 z)).rd).mono ?_));rintro e w6 ⟨A6,xs,c6,rfl,hs6,hv6,hr6⟩;have HF0:=Lib.hid (HE.out.put 0 _ _ rfl 0 (by simp) (.int .i64 z));have HF:=Lib.hid (HF0.out.call hs6);have HX:=Lib.hid hv6;have HR:=Lib.hid hr6;have HG6:=Lib.hid hs6;obtain⟨u0,u1,u2,u3,u4,u5⟩:=(HF.out.box 0 _ [.int .i64 z,.int .i64 t.n,.int .i64 0,.string ⟨#[]⟩,.slice none 0 0,.int .i64 pl] rfl).all6;obtain⟨f0,f1,f2,f3,f4,f5⟩:=(HF.out.box 0 _ [.int .i64 z,.int .i64 t.n,.int .i64 0,.string ⟨#[]⟩,.slice none 0 0,.int .i64 pl] rfl).fre6;obtain⟨q0,q1,q2,q3⟩:=HF.out.two;obtain⟨g0,g1,g2,g3,g4,g5⟩:=(HF.out.box 1 _ zeroR rfl).all6;obtain⟨j0,j1,j2,j3,j4,j5⟩:=(HF.out.box 1 _ zeroR rfl).fre6;clear hs6 hv6 hr6)))
 have HL:=HF.out.put 0 _ _ rfl 4 (by simp) (.slice A6 xs.length c6);have HE2:=HL.put6 1 w.heap.size _ _ _ _ _ _ rfl (.int .i64 z) (.int .i64 t.n) (.int .i64 0) (.string ⟨#[]⟩) (.slice A6 xs.length c6) (.int .i64 pl);obtain⟨r0,r1,r2,r3,r4,r5⟩:=(HE2.box 1 w.heap.size _ rfl).all6;refine bodyPost_ret (v:= .agg #[.int .i64 z,.int .i64 t.n,.int .i64 0,.string ⟨#[]⟩,.slice A6 xs.length c6,.int .i64 pl]) (by simp[results,Tryz.results104,go_sem,r0,r1,r2,r3,r4,r5]) rfl ⟨z,t.n,0,[],A6,xs,c6,rfl,HE2.step,⟨fun y j hy=>by rw[HV.out y j hy],rfl,rfl,HW.out⟩,HX.out,fun h3=>?_⟩;have hz:=HG6.out.1.size;have hz0:=HF0.out.two;refine((((HR.out h3).of (NwX.set ?_ ?_) fun _ h=>h).box6 ?_ ?_ _ _ _ _ _ _)).of (fun _ _=>rfl) (NwX.wide ?_ ?_) <;> simp[World.setCell] at hz hz0 ⊢ <;> omega
theorem srule_nf (b:Nat) (w:World) (A:Option Addr) (n c:Nat) (l:List Tok) (d k o:Nat) (h:RdS b w A n c l k o) (t0 t1:Tok) (R3:Rz (List Cm)) (R2:Rz (Int × Bs))
  (KN:NextC b A n c l k o t0) (KT:TakeC b A n c l 5 ⟨#[105]⟩ k o false k) (KX:NextC b A n c l k o t1) (ht:t1.kind=5) (KP:PatC b A n c l k o R2) (KB:BloC b A n c l d R2.at R2.err R3):
  Calls Tryz.prog 104 #[.pointer (some ⟨b,0,none⟩),.int .i64 d] w (RulP b w A n c l t0.pl (fun kd q pk pt=>(q= -1)∧kd=1∧∀ y j,R2= .ok y j→y=(pk,pt)) R3):=by
 have H:=Lib.hid (Cx.start h);have hlt:=h.lt;unfold NextC at KN KX;generalize t0.pl=pl at KN ⊢;generalize t1.kind=kd1 at KX ht;have b1:(kd1==5)=true:=by simpa using ht
 clear h ht;unfold RulP;have tf0:=tokF0;have tf2:=tokF2;have tf4:=tokF4;go_enter Tryz.func104,Tryz.ntmps104
 go_wp2_with (first
  | (go_at_call 31;(((with_reducible refine(KN.out _ (H.out.rd.box _)).mono ?_));rintro e w1 ⟨A1,c1,rfl,hb1,hr1⟩;have HA:=Lib.hid (((H.out.alloc 65 zeroR (by simp)).below hb1).alloc 65 [.int .i64 0,.int .i64 (-1),.int .i64 0,.string ⟨#[]⟩,.slice none 0 0,.int .i64 pl] (by simp));obtain⟨u0,u1,u2,u3,u4,u5⟩:=(HA.out.box 0 _ [.int .i64 0,.int .i64 (-1),.int .i64 0,.string ⟨#[]⟩,.slice none 0 0,.int .i64 pl] rfl).all6;obtain⟨f0,f1,f2,f3,f4,f5⟩:=(HA.out.box 0 _ [.int .i64 0,.int .i64 (-1),.int .i64 0,.string ⟨#[]⟩,.slice none 0 0,.int .i64 pl] rfl).fre6;obtain⟨q0,q1,q2,q3⟩:=HA.out.two;clear hb1 hr1 KN))
  | (go_at_call 61;go_must (((with_reducible refine(KT.out _ HA.out.rd).mono ?_));rintro e w2 ⟨rfl,hs2⟩;have HB:=Lib.hid (HA.out.call hs2);obtain⟨u0,u1,u2,u3,u4,u5⟩:=(HB.out.box 0 _ [.int .i64 0,.int .i64 (-1),.int .i64 0,.string ⟨#[]⟩,.slice none 0 0,.int .i64 pl] rfl).all6;obtain⟨f0,f1,f2,f3,f4,f5⟩:=(HB.out.box 0 _ [.int .i64 0,.int .i64 (-1),.int .i64 0,.string ⟨#[]⟩,.slice none 0 0,.int .i64 pl] rfl).fre6;obtain⟨q0,q1,q2,q3⟩:=HB.out.two;clear hs2))
  | (go_at_call 31;go_must (((with_reducible refine(KX.out _ HB.out.rd).mono ?_));rintro e w4 ⟨A4,c4,rfl,hb4,hr4⟩;have HD:=Lib.hid (HB.out.below hb4);obtain⟨u0,u1,u2,u3,u4,u5⟩:=(HD.out.box 0 _ [.int .i64 0,.int .i64 (-1),.int .i64 0,.string ⟨#[]⟩,.slice none 0 0,.int .i64 pl] rfl).all6;obtain⟨f0,f1,f2,f3,f4,f5⟩:=(HD.out.box 0 _ [.int .i64 0,.int .i64 (-1),.int .i64 0,.string ⟨#[]⟩,.slice none 0 0,.int .i64 pl] rfl).fre6;obtain⟨q0,q1,q2,q3⟩:=HD.out.two;clear hb4 hr4))
  | (go_at_call 132;go_must (((with_reducible refine(KP.out _ HD.out.rd).mono ?_));rintro e w5 ⟨z,s,rfl,hs5,hv5⟩;have HE:=Lib.hid (HD.out.call hs5);have HW:=Lib.hid hv5;obtain⟨u0,u1,u2,u3,u4,u5⟩:=(HE.out.box 0 _ [.int .i64 0,.int .i64 (-1),.int .i64 0,.string ⟨#[]⟩,.slice none 0 0,.int .i64 pl] rfl).all6;obtain⟨f0,f1,f2,f3,f4,f5⟩:=(HE.out.box 0 _ [.int .i64 0,.int .i64 (-1),.int .i64 0,.string ⟨#[]⟩,.slice none 0 0,.int .i64 pl] rfl).fre6;obtain⟨q0,q1,q2,q3⟩:=HE.out.two;clear hs5 hv5))
  | (go_at_call 60;go_must (((with_reducible refine(KB.out _ (((HE.out.put 0 _ _ rfl 0 (by simp) (.int .i64 1)).put 0 _ _ rfl 2 (by simp) (.int .i64 z)).put 0 _ _ rfl 3 (by simp) (.string ⟨s.toArray⟩)).rd).mono ?_));rintro e w6 ⟨A6,xs,c6,rfl,hs6,hv6,hr6⟩;have HF0:=Lib.hid (((HE.out.put 0 _ _ rfl 0 (by simp) (.int .i64 1)).put 0 _ _ rfl 2 (by simp) (.int .i64 z)).put 0 _ _ rfl 3 (by simp) (.string ⟨s.toArray⟩));have HF:=Lib.hid (HF0.out.call hs6);have HX:=Lib.hid hv6;have HR:=Lib.hid hr6;have HG6:=Lib.hid hs6;obtain⟨u0,u1,u2,u3,u4,u5⟩:=(HF.out.box 0 _ [.int .i64 1,.int .i64 (-1),.int .i64 z,.string ⟨s.toArray⟩,.slice none 0 0,.int .i64 pl] rfl).all6;obtain⟨f0,f1,f2,f3,f4,f5⟩:=(HF.out.box 0 _ [.int .i64 1,.int .i64 (-1),.int .i64 z,.string ⟨s.toArray⟩,.slice none 0 0,.int .i64 pl] rfl).fre6;obtain⟨q0,q1,q2,q3⟩:=HF.out.two;obtain⟨g0,g1,g2,g3,g4,g5⟩:=(HF.out.box 1 _ zeroR rfl).all6;obtain⟨j0,j1,j2,j3,j4,j5⟩:=(HF.out.box 1 _ zeroR rfl).fre6;clear hs6 hv6 hr6)))
 have HL:=HF.out.put 0 _ _ rfl 4 (by simp) (.slice A6 xs.length c6);have HE2:=HL.put6 1 w.heap.size _ _ _ _ _ _ rfl (.int .i64 1) (.int .i64 (-1)) (.int .i64 z) (.string ⟨s.toArray⟩) (.slice A6 xs.length c6) (.int .i64 pl);obtain⟨r0,r1,r2,r3,r4,r5⟩:=(HE2.box 1 w.heap.size _ rfl).all6;refine bodyPost_ret (v:= .agg #[.int .i64 1,.int .i64 (-1),.int .i64 z,.string ⟨s.toArray⟩,.slice A6 xs.length c6,.int .i64 pl]) (by simp[results,Tryz.results104,go_sem,r0,r1,r2,r3,r4,r5]) rfl ⟨1, -1,z,s,A6,xs,c6,rfl,HE2.step,⟨rfl,rfl,HW.out⟩,HX.out,fun h3=>?_⟩;have hz:=HG6.out.1.size;have hz0:=HF0.out.two;refine((((HR.out h3).of (NwX.set ?_ ?_) fun _ h=>h).box6 ?_ ?_ _ _ _ _ _ _)).of (fun _ _=>rfl) (NwX.wide ?_ ?_) <;> simp[World.setCell] at hz hz0 ⊢ <;> omega
theorem srule_nw (b:Nat) (w:World) (A:Option Addr) (n c:Nat) (l:List Tok) (d k o:Nat) (h:RdS b w A n c l k o) (t0 t1:Tok) (R3:Rz (List Cm)) (R2:Rz Int)
  (KN:NextC b A n c l k o t0) (KT:TakeC b A n c l 5 ⟨#[105]⟩ k o false k) (KX:NextC b A n c l k o t1) (ht:¬ t1.kind=5) (KP:RwC b A n c l false k o R2) (KB:BloC b A n c l d R2.at R2.err R3):
  Calls Tryz.prog 104 #[.pointer (some ⟨b,0,none⟩),.int .i64 d] w (RulP b w A n c l t0.pl (fun kd q pk pt=>(q= -1)∧pk=0∧pt=[]∧∀ y j,R2= .ok y j→y=kd) R3):=by
 have H:=Lib.hid (Cx.start h);have hlt:=h.lt;unfold NextC at KN KX;generalize t0.pl=pl at KN ⊢;generalize t1.kind=kd1 at KX ht;have b1:(kd1==5)=false:=by simpa using ht
 clear h ht;unfold RulP;have tf0:=tokF0;have tf2:=tokF2;have tf4:=tokF4;go_enter Tryz.func104,Tryz.ntmps104
 go_wp2_with (first
  | (go_at_call 31;(((with_reducible refine(KN.out _ (H.out.rd.box _)).mono ?_));rintro e w1 ⟨A1,c1,rfl,hb1,hr1⟩;have HA:=Lib.hid (((H.out.alloc 65 zeroR (by simp)).below hb1).alloc 65 [.int .i64 0,.int .i64 (-1),.int .i64 0,.string ⟨#[]⟩,.slice none 0 0,.int .i64 pl] (by simp));obtain⟨u0,u1,u2,u3,u4,u5⟩:=(HA.out.box 0 _ [.int .i64 0,.int .i64 (-1),.int .i64 0,.string ⟨#[]⟩,.slice none 0 0,.int .i64 pl] rfl).all6;obtain⟨f0,f1,f2,f3,f4,f5⟩:=(HA.out.box 0 _ [.int .i64 0,.int .i64 (-1),.int .i64 0,.string ⟨#[]⟩,.slice none 0 0,.int .i64 pl] rfl).fre6;obtain⟨q0,q1,q2,q3⟩:=HA.out.two;clear hb1 hr1 KN))
  | (go_at_call 61;go_must (((with_reducible refine(KT.out _ HA.out.rd).mono ?_));rintro e w2 ⟨rfl,hs2⟩;have HB:=Lib.hid (HA.out.call hs2);obtain⟨u0,u1,u2,u3,u4,u5⟩:=(HB.out.box 0 _ [.int .i64 0,.int .i64 (-1),.int .i64 0,.string ⟨#[]⟩,.slice none 0 0,.int .i64 pl] rfl).all6;obtain⟨f0,f1,f2,f3,f4,f5⟩:=(HB.out.box 0 _ [.int .i64 0,.int .i64 (-1),.int .i64 0,.string ⟨#[]⟩,.slice none 0 0,.int .i64 pl] rfl).fre6;obtain⟨q0,q1,q2,q3⟩:=HB.out.two;clear hs2))
  | (go_at_call 31;go_must (((with_reducible refine(KX.out _ HB.out.rd).mono ?_));rintro e w4 ⟨A4,c4,rfl,hb4,hr4⟩;have HD:=Lib.hid (HB.out.below hb4);obtain⟨u0,u1,u2,u3,u4,u5⟩:=(HD.out.box 0 _ [.int .i64 0,.int .i64 (-1),.int .i64 0,.string ⟨#[]⟩,.slice none 0 0,.int .i64 pl] rfl).all6;obtain⟨f0,f1,f2,f3,f4,f5⟩:=(HD.out.box 0 _ [.int .i64 0,.int .i64 (-1),.int .i64 0,.string ⟨#[]⟩,.slice none 0 0,.int .i64 pl] rfl).fre6;obtain⟨q0,q1,q2,q3⟩:=HD.out.two;clear hb4 hr4))
  | (go_at_call 133;go_must (((with_reducible refine(KP.out _ HD.out.rd).mono ?_));rintro e w5 ⟨z,rfl,hs5,hv5⟩;have HE:=Lib.hid (HD.out.call hs5);have HW:=Lib.hid hv5;obtain⟨u0,u1,u2,u3,u4,u5⟩:=(HE.out.box 0 _ [.int .i64 0,.int .i64 (-1),.int .i64 0,.string ⟨#[]⟩,.slice none 0 0,.int .i64 pl] rfl).all6;obtain⟨f0,f1,f2,f3,f4,f5⟩:=(HE.out.box 0 _ [.int .i64 0,.int .i64 (-1),.int .i64 0,.string ⟨#[]⟩,.slice none 0 0,.int .i64 pl] rfl).fre6;obtain⟨q0,q1,q2,q3⟩:=HE.out.two;clear hs5 hv5))
  | (go_at_call 60;go_must (((with_reducible refine(KB.out _ (HE.out.put 0 _ _ rfl 0 (by simp) (.int .i64 z)).rd).mono ?_));rintro e w6 ⟨A6,xs,c6,rfl,hs6,hv6,hr6⟩;have HF0:=Lib.hid (HE.out.put 0 _ _ rfl 0 (by simp) (.int .i64 z));have HF:=Lib.hid (HF0.out.call hs6);have HX:=Lib.hid hv6;have HR:=Lib.hid hr6;have HG6:=Lib.hid hs6;obtain⟨u0,u1,u2,u3,u4,u5⟩:=(HF.out.box 0 _ [.int .i64 z,.int .i64 (-1),.int .i64 0,.string ⟨#[]⟩,.slice none 0 0,.int .i64 pl] rfl).all6;obtain⟨f0,f1,f2,f3,f4,f5⟩:=(HF.out.box 0 _ [.int .i64 z,.int .i64 (-1),.int .i64 0,.string ⟨#[]⟩,.slice none 0 0,.int .i64 pl] rfl).fre6;obtain⟨q0,q1,q2,q3⟩:=HF.out.two;obtain⟨g0,g1,g2,g3,g4,g5⟩:=(HF.out.box 1 _ zeroR rfl).all6;obtain⟨j0,j1,j2,j3,j4,j5⟩:=(HF.out.box 1 _ zeroR rfl).fre6;clear hs6 hv6 hr6)))
 have HL:=HF.out.put 0 _ _ rfl 4 (by simp) (.slice A6 xs.length c6);have HE2:=HL.put6 1 w.heap.size _ _ _ _ _ _ rfl (.int .i64 z) (.int .i64 (-1)) (.int .i64 0) (.string ⟨#[]⟩) (.slice A6 xs.length c6) (.int .i64 pl);obtain⟨r0,r1,r2,r3,r4,r5⟩:=(HE2.box 1 w.heap.size _ rfl).all6;refine bodyPost_ret (v:= .agg #[.int .i64 z,.int .i64 (-1),.int .i64 0,.string ⟨#[]⟩,.slice A6 xs.length c6,.int .i64 pl]) (by simp[results,Tryz.results104,go_sem,r0,r1,r2,r3,r4,r5]) rfl ⟨z, -1,0,[],A6,xs,c6,rfl,HE2.step,⟨rfl,rfl,rfl,HW.out⟩,HX.out,fun h3=>?_⟩;have hz:=HG6.out.1.size;have hz0:=HF0.out.two;refine((((HR.out h3).of (NwX.set ?_ ?_) fun _ h=>h).box6 ?_ ?_ _ _ _ _ _ _)).of (fun _ _=>rfl) (NwX.wide ?_ ?_) <;> simp[World.setCell] at hz hz0 ⊢ <;> omega
theorem then_known {α β:Type} {R:Rz α} {f:α→Nat→Rz β} {g:Nat→Rz β} (h:∀ y j,R= .ok y j→f y j=g j):R.then f=gate R.err R.at g:=by
 cases R with
 | ok y j=>exact h y j rfl
 | bad j d=>cases d <;> rfl
def RuS (b:Nat) (w:World) (A:Option Addr) (n c:Nat) (l:List Tok) (R:Rz Ru) (e:Ending) (w':World):Prop:=
 ∃ (r:Ru) (A':Option Addr) (c':Nat),e= .returned (valR r A' c')∧StepS b w A n c l R.at R.err w'∧(∀ y j,R= .ok y j→y=r)∧(R.err=0→KidR (NwX b w.heap.size w'.heap.size) w' A' r)
theorem rule_fin {b:Nat} {w w':World} {A:Option Addr} {n c:Nat} {l:List Tok} {pl:Int} {Q:Int→Int→Int→Bs→Prop} {R3:Rz (List Cm)} {R:Rz Ru} {e:Ending} (hR:∀ kd q pk pt,Q kd q pk pt→R=R3.then fun b m=> .ok (.mk kd q pk pt b pl) m) (h:RulP b w A n c l pl Q R3 e w'):RuS b w A n c l R e w':=by
 obtain⟨kd,q,pk,pt,A',xs,c',rfl,hs,hq,hx,hr⟩:=h;have hm:=then_last hx (fun b=>Ru.mk kd q pk pt b pl);rw[hR _ _ _ _ hq];refine⟨.mk kd q pk pt xs pl,A',c',rfl,by rw[hm.1,hm.2.1];exact hs,fun y j hy=>(hm.2.2 y j hy).1,fun h0=>?_⟩;rw[hm.2.1] at h0;exact kidR_eq.2 (hr h0)
theorem head_pat {l:List Tok} {told:Bool} {k o:Nat} (h:(nxo l k o).kind=5):gate o k (headF l told)=(gate o k (patF l)).then fun p j=> .ok (1,p.1,p.2) j:=by
 have ho:o=0:=by
  by_cases ho:o=0
  ·exact ho
  ·unfold nxo at h;rw[if_neg ho] at h;cases h
 subst ho;rw[gate_ok,gate_ok];exact if_pos h
theorem head_word {l:List Tok} {told:Bool} {k o:Nat} (h:¬ (nxo l k o).kind=5):gate o k (headF l told)=(gate o k (rwordF l told)).then fun x j=> .ok (x,0,[]) j:=by
 by_cases ho:o=0
 ·subst ho
  rw[gate_ok,gate_ok];exact if_neg h
 ·unfold gate;rw[if_neg ho,if_neg ho];rfl
theorem srule_any (b:Nat) (A:Option Addr) (n c:Nat) (l:List Tok) (blk:Nat→Nat→Rz (List Cm)) (k0:Nat) (HB:BlkC b A n c l blk k0) (d k o:Nat) (w:World) (hk:o=0→k0≤k∧d≤16) (hd:d≤99) (h:RdS b w A n c l k o):
  Calls Tryz.prog 104 #[.pointer (some ⟨b,0,none⟩),.int .i64 d] w (RuS b w A n c l (gate o k (ruleF l blk d))):=by
 have hlen:=h.len;have hkn:k≤l.length:=by have:=h.le;omega
 have KN:=nextC b A n c l k o;have blo:∀ {k2 o2:Nat},(o2=0→k0≤k2∧d≤16)→BloC b A n c l d k2 o2 (gate o2 k2 (blk d)):=fun {k2 o2} hz=>Lib.hid fun w' h'=>HB d k2 o2 w' hz hd h'
 cases hv:isO l 5 [105] k o with
 | true=>
   obtain⟨rfl,ht⟩:=isO_lt (by decide) hv;have KT:=takeC_t (b:=b) (A:=A) (n:=n) (c:=c) (W:=⟨#[105]⟩) (by decide) hv;have KK:=kindC b A n c l 2 (k+1) 0 (by decide) (gate_ok _ _);have hin:=kindF_in (l:=l) (kd:=2) (k:=k+1) (by decide) (isT_lt ht (by decide))
   have eR:∀ q,(∀ y j,kindF l 2 (k+1)= .ok y j→y.n=q)→gate 0 k (ruleF l blk d)=(gate (kindF l 2 (k+1)).err (kindF l 2 (k+1)).at (headF l true)).then fun h j=>(blk d j).then fun b m=> .ok (.mk h.1 q h.2.1 h.2.2 b (nxo l k 0).pl) m:=fun q hq=>by
    rw[←gate_seq,gate_ok];have e1:peerF l k=(kindF l 2 (k+1)).then fun t j=> .ok t.n j:=if_pos ht
    have e2:isT l 5 [105] k=true:=ht;unfold ruleF;rw[e1,e2,Rz.then_assoc];exact then_known fun y j hy=>by rw[←hq y j hy];rfl
   generalize hR1:kindF l 2 (k+1)=R1 at KK eR hin;by_cases hf:(nxo l R1.at R1.err).kind=5
   ·have KP:PatC b A n c l R1.at R1.err (gate R1.err R1.at (patF l)):=Lib.hid fun w' h'=>spat_any b w' A n c l _ _ h'
    have hz:(gate R1.err R1.at (patF l)).err=0→k0≤(gate R1.err R1.at (patF l)).at∧d≤16:=fun he=>by
     obtain⟨e1,p,e2⟩:=gate_zero R1.err_cases he;have hk':=hk rfl
     cases R1 with
     | bad j dd=>cases dd <;> cases e1
     | ok t j=>
       have h1:=hin.1;have h2:=within_eq (patF_in hin.2) e2;exact⟨by have:=h2.1;omega,hk'.2⟩
    refine(srule_tf b w A n c l d k 0 h _ _ _ R1 _ KN KT KK (nextC b A n c l R1.at R1.err) hf KP (blo hz)).mono fun e w' hh=>rule_fin (fun kd q pk pt hQ=>?_) hh
    obtain⟨h1,rfl,h2⟩:=hQ;rw[eR q h1,head_pat hf,Rz.then_assoc];exact(then_known (g:=fun j=>(blk d j).then fun b m=> .ok (.mk 1 q pk pt b (nxo l k 0).pl) m) fun y j hy=>by have:=h2 y j hy;subst this;rfl).trans (gate_seq _ _ _ _)
   ·have KP:RwC b A n c l true R1.at R1.err (gate R1.err R1.at (rwordF l true)):=Lib.hid fun w' h'=>srword_any true b w' A n c l _ _ h'
    have hz:(gate R1.err R1.at (rwordF l true)).err=0→k0≤(gate R1.err R1.at (rwordF l true)).at∧d≤16:=fun he=>by
     obtain⟨e1,p,e2⟩:=gate_zero R1.err_cases he;have hk':=hk rfl
     cases R1 with
     | bad j dd=>cases dd <;> cases e1
     | ok t j=>
       have h1:=hin.1;have h2:=within_eq (rwordF_in hin.2) e2;exact⟨by have:=h2.1;omega,hk'.2⟩
    refine(srule_tw b w A n c l d k 0 h _ _ _ R1 _ KN KT KK (nextC b A n c l R1.at R1.err) hf KP (blo hz)).mono fun e w' hh=>rule_fin (fun kd q pk pt hQ=>?_) hh
    obtain⟨h1,rfl,rfl,h2⟩:=hQ;rw[eR q h1,head_word hf,Rz.then_assoc];exact(then_known (g:=fun j=>(blk d j).then fun b m=> .ok (.mk kd q 0 [] b (nxo l k 0).pl) m) fun y j hy=>by have:=h2 y j hy;subst this;rfl).trans (gate_seq _ _ _ _)
 | false=>
   have KT:=takeC_f (b:=b) (A:=A) (n:=n) (c:=c) (W:=⟨#[105]⟩) (by decide) hv
   have eR:gate o k (ruleF l blk d)=(gate o k (headF l false)).then fun h j=>(blk d j).then fun b m=> .ok (.mk h.1 (-1) h.2.1 h.2.2 b (nxo l k o).pl) m:=by
    by_cases ho:o=0
    ·subst ho
     rw[gate_ok,gate_ok];have e1:peerF l k= .ok (-1) k:=if_neg (by rw[←isO_zero,hv];decide);have e2:isT l 5 [105] k=false:=hv;unfold ruleF;rw[e1,e2];rfl
    ·unfold gate;rw[if_neg ho,if_neg ho];rfl
   by_cases hf:(nxo l k o).kind=5
   ·have KP:PatC b A n c l k o (gate o k (patF l)):=Lib.hid fun w' h'=>spat_any b w' A n c l _ _ h'
    have hz:(gate o k (patF l)).err=0→k0≤(gate o k (patF l)).at∧d≤16:=fun he=>by
     obtain⟨e1,p,e2⟩:=gate_zero h.oks he;have hk':=hk e1;have h2:=within_eq (patF_in hkn) e2;exact⟨by have:=h2.1;omega,hk'.2⟩
    refine(srule_nf b w A n c l d k o h _ _ _ _ KN KT (nextC b A n c l k o) hf KP (blo hz)).mono fun e w' hh=>rule_fin (fun kd q pk pt hQ=>?_) hh
    obtain⟨rfl,rfl,h2⟩:=hQ;rw[eR,head_pat hf,Rz.then_assoc];exact(then_known (g:=fun j=>(blk d j).then fun b m=> .ok (.mk 1 (-1) pk pt b (nxo l k o).pl) m) fun y j hy=>by have:=h2 y j hy;subst this;rfl).trans (gate_seq _ _ _ _)
   ·have KP:RwC b A n c l false k o (gate o k (rwordF l false)):=Lib.hid fun w' h'=>srword_any false b w' A n c l _ _ h'
    have hz:(gate o k (rwordF l false)).err=0→k0≤(gate o k (rwordF l false)).at∧d≤16:=fun he=>by
     obtain⟨e1,p,e2⟩:=gate_zero h.oks he;have hk':=hk e1;have h2:=within_eq (rwordF_in hkn) e2;exact⟨by have:=h2.1;omega,hk'.2⟩
    refine(srule_nw b w A n c l d k o h _ _ _ _ KN KT (nextC b A n c l k o) hf KP (blo hz)).mono fun e w' hh=>rule_fin (fun kd q pk pt hQ=>?_) hh
    obtain⟨rfl,rfl,rfl,h2⟩:=hQ;rw[eR,head_word hf,Rz.then_assoc];exact(then_known (g:=fun j=>(blk d j).then fun b m=> .ok (.mk kd (-1) 0 [] b (nxo l k o).pl) m) fun y j hy=>by have:=h2 y j hy;subst this;rfl).trans (gate_seq _ _ _ _)
section
theorem add_addX (a:Addr) (m n:Nat):(a.add m).add n=a.add (m+n):=by
 unfold Addr.add;by_cases h1:m=0
 ·subst h1;simp
 ·by_cases h2:n=0
  ·subst h2;simp
  ·simp[h1,h2];omega
def OwX (b lo hi:Nat) (g:Option Nat):Nat→Prop:=fun q=>q<b∨(lo≤q∧q<hi∧g≠some q)
structure RoG {α:Type} (cf:α→List Value) (s e:Nat) (KP:(Nat→Prop)→World→α→Prop) (b:Nat) (w W:World) (A:Option Addr) (n c:Nat) (l:List Tok) (k o:Nat) (v:Value) (es:List α):Prop where
 cx:Cx b w W A n c l k o []
 row:W.ownsRow w.heap.size e s v es.length (es.flatMap cf)
 kids:o=0→∀ x∈es,KP (OwX b w.heap.size W.heap.size v.ownBlock) W x
def Mono {α:Type} (KP:(Nat→Prop)→World→α→Prop):Prop:=∀ (P Q:Nat→Prop) (w w':World) (x:α),(∀ p:Addr,P p.block→w'.cell? p=w.cell? p)→(∀ k,P k→Q k)→KP P w x→KP Q w' x
section
variable {α:Type} {cf:α→List Value} {s e:Nat} {KP:(Nat→Prop)→World→α→Prop} {b:Nat} {w W W':World} {A:Option Addr} {n c:Nat} {l:List Tok} {k o k' o':Nat} {v:Value} {es:List α}
theorem RdS.lowB {B:Nat} (h:RdS b w A n c l k o) (hB:b<B) (hb:Below B w W):RdS b W A n c l k o:=
 ⟨(hb.cell (p:=⟨b,0,none⟩) hB).trans h.c0,(hb.cell (p:=⟨b,1,none⟩) hB).trans h.c1,(hb.cell (p:=⟨b,2,none⟩) hB).trans h.c2,(hb.frozen (p:=⟨b,1,none⟩) hB).trans h.f1,(hb.frozen (p:=⟨b,2,none⟩) hB).trans h.f2,
   h.row.keep (hb.mono (Nat.le_of_lt hB)),fun w2 h2=>h.giv w2 ((hb.mono (Nat.le_of_lt hB)).trans h2),h.fit,h.le,h.oks,h.few⟩
theorem RoG.start (h:RdS b w A n c l k o):RoG cf s e KP b w w A n c l k o (.slice none 0 0) []:=⟨Cx.start h,World.ownsRow_nil _ _ _ _,by simp⟩
theorem RoG.own (h:RoG cf s e KP b w W A n c l k o v es):∀ g,v.ownBlock=some g→w.heap.size≤g∧g<W.heap.size:=h.row.lt
theorem RoG.call (h:RoG cf s e KP b w W A n c l k o v es) (hK:Mono KP) (hs:StepS b W A n c l k' o' W') (ho:o'=0→o=0):RoG cf s e KP b w W' A n c l k' o' v es:=by
 have hlt:=h.cx.lt;refine⟨h.cx.call hs,h.row.kept hs.1 ?_,fun h0 x hx=>hK _ _ W W' x (fun p hp=>?_) (fun q hq=>?_) (h.kids (ho h0) x hx)⟩
 ·cases hv:v.ownBlock with
  | none=>exact .inl rfl
  | some g=>exact .inr fun e=>by injection e with e;have:=(h.own g hv).1;omega
 ·refine World.cell?_of_block (hs.1.block p.block ?_ (fun e=>?_))
  ·rcases hp with h1 | h1
   ·have:=h.cx.gr.size;omega
   ·exact h1.2.1
  ·injection e with e
   rcases hp with h1 | h1 <;> omega
 ·exact hq.imp id fun h1=>⟨h1.1,Nat.lt_of_lt_of_le h1.2.1 hs.1.size,h1.2.2⟩
theorem RoG.below (h:RoG cf s e KP b w W A n c l k o v es) (hK:Mono KP) (hb:Below W.heap.size W W'):RoG cf s e KP b w W' A n c l k o v es:=h.call hK ⟨grown_below hb,h.cx.rd.low hb⟩ id
theorem RoG.push (h:RoG cf s e KP b w W A n c l k o v es) (hK:Mono KP) {x:α} (hx:o=0→KP (OwX b w.heap.size W.heap.size v.ownBlock) W x) {g cap:Nat} (hr:W'.ownsRow w.heap.size e s (.slice (some ⟨g,0,none⟩) (es.length+1) cap) (es.length+1) (es.flatMap cf++cf x))
  (hg:W.grownBy W' v.ownBlock) (hv:v.ownBlock=some g∨g=W.heap.size):RoG cf s e KP b w W' A n c l k o (.slice (some ⟨g,0,none⟩) (es.length+1) cap) (es++[x]):=by
 have hlt:=h.cx.lt;have hsz:=h.cx.gr.size;have hgs:=hg.size;have own:∀ i,i<w.heap.size→some i≠v.ownBlock:=fun i hi e=>by have:=(h.own i e.symm).1;omega
 have keep:∀ i,i<w.heap.size→W'.heap[i]?=W.heap[i]?:=fun i hi=>hg.block i (by omega) (fun e=>own i hi e)
 have hbb:Below (b+1) W W':=⟨hg.os,hg.tape,hg.output,hg.size,fun i hi=>keep i (by omega)⟩
 have hcell:∀ p:Addr,OwX b w.heap.size W.heap.size v.ownBlock p.block→W'.cell? p=W.cell? p:=fun p hp=>World.cell?_of_block (by
  rcases hp with h1 | h1
  ·exact keep _ (by omega)
  ·exact hg.block _ h1.2.1 (fun e=>h1.2.2 e.symm))
 have hP:∀ q,OwX b w.heap.size W.heap.size v.ownBlock q→OwX b w.heap.size W'.heap.size (Value.ownBlock (.slice (some ⟨g,0,none⟩) (es.length+1) cap)) q:=fun q hq=>hq.imp id fun h1=>⟨h1.1,by omega,fun e=>by
  have e:g=q:=by injection e
  rcases hv with hv | hv
  ·rw[hv] at h1;exact h1.2.2 (by rw[e])
  ·have:=h1.2.1;omega⟩
 refine⟨⟨hlt,h.cx.rd.lowB (by omega) hbb,⟨hg.os.trans h.cx.gr.os,hg.tape.trans h.cx.gr.tape,hg.output.trans h.cx.gr.output,by omega,fun i hi hn=>(keep i hi).trans (h.cx.gr.block i hi hn)⟩,by simp,List.Pairwise.nil⟩,?_,fun h0 y hy=>?_⟩
 ·rw[List.length_append,List.flatMap_append]
  simpa using hr
 ·rcases List.mem_append.1 hy with hy | hy
  ·exact hK _ _ W W' y hcell hP (h.kids h0 y hy)
  ·rw[List.mem_singleton] at hy
   subst hy;exact hK _ _ W W' y hcell hP (hx h0)
theorem RoG.box (h:RoG cf s e KP b w W A n c l k o v es) (hK:Mono KP) (x:Obj):RoG cf s e KP b w (W.alloc x) A n c l k o v es:=h.below hK ((Below.refl _ _).alloc (Nat.le_refl _) _)
theorem RoG.one (h:Cx b w W A n c l k o []) (hK:Mono KP) {x:α} (hx:o=0→KP (NwX b w.heap.size W.heap.size) W x) (hl:(cf x).length=1 * s):RoG cf s e KP b w (W.alloc (.cells (cf x).toArray e)) A n c l k o (.slice (some ⟨W.heap.size,0,none⟩) 1 1) [x]:=by
 have hb:Below W.heap.size W (W.alloc (.cells (cf x).toArray e)):=(Below.refl _ _).alloc (Nat.le_refl _) _;refine⟨h.below hb,?_,fun h0 y hy=>?_⟩
 ·have:=World.ownsRow_lit (e:=e) (size:=s) (base:=w.heap.size) W (cf x).toArray 1 h.gr.size (by decide) (by simpa using hl)
  simpa using this
 ·rw[List.mem_singleton] at hy
  subst hy;refine hK _ _ W _ y (fun p hp=>?_) (fun q hq=>?_) (hx h0)
  ·refine World.cell?_of_block (hb.block _ ?_)
   have:=h.lt;have:=h.gr.size
   rcases hp with hp | hp <;> omega
  ·refine hq.imp id fun h1=>⟨h1.1,by have:=hb.size;omega,fun e=>by injection e with e;have:=h1.2;simp only at e;omega⟩
theorem OwX.of_new {b lo m hi:Nat} {g:Option Nat} (hlo:lo≤m) (hg:∀ q,g=some q→q<m):∀ q,NwX b m hi q→OwX b lo hi g q:=fun q hq=>hq.imp id fun h=>⟨by omega,h.2,fun e=>by have:=hg q e;omega⟩
theorem OwX.all {b lo hi:Nat} {g:Option Nat}:∀ q,OwX b lo hi g q→NwX b lo hi q:=fun _ hq=>hq.imp id fun h=>⟨h.1,h.2.1⟩
end
abbrev XC:=Cm × Lk
abbrev cfC (x:XC):List Value:=cellsC x.1 x.2
abbrev KPC (P:Nat→Prop) (w:World) (x:XC):Prop:=KidC P w x.2 x.1
theorem monoC:Mono KPC:=fun _ _ _ _ _ hs hPQ h=>h.of hs hPQ
abbrev XU:=Ru × Option Addr × Nat
abbrev cfU (x:XU):List Value:=cellsR x.1 x.2.1 x.2.2
abbrev KPU (P:Nat→Prop) (w:World) (x:XU):Prop:=KidR P w x.2.1 x.1
theorem monoU:Mono KPU:=fun _ _ _ _ _ hs hPQ h=>h.of hs hPQ
theorem flat_at {α:Type} {cf:α→List Value} {s:Nat} (hs:∀ x,(cf x).length=s):∀ (es:List α) (j:Nat) (x:α),es[j]?=some x→∀ i u,(cf x)[i]?=some u→(es.flatMap cf)[j * s+i]?=some u
 | [],j,x,h,_,_,_=>by simp at h
 | y::es,0,x,h,i,u,hu=>by
   injection h with h;subst h
   rw[List.flatMap_cons,List.getElem?_append_left (by rw[Nat.zero_mul,Nat.zero_add];exact(List.getElem?_eq_some_iff.1 hu).1),Nat.zero_mul,Nat.zero_add];exact hu
 | y::es,j+1,x,h,i,u,hu=>by
   have:=flat_at hs es j x (by simpa using h) i u hu;rw[List.flatMap_cons,List.getElem?_append_right (by rw[hs,Nat.add_mul];omega),hs,show (j+1) * s+i - s=j * s+i by rw[Nat.add_mul];omega];exact this
theorem rowC_own {b:Nat} {w W:World} {A:Option Addr} {n c:Nat} {l:List Tok} {k o:Nat} {v:Value} {es:List XC} (h:RoG cfC 13 41 KPC b w W A n c l k o v es):∃ A' c',v= .slice A' (es.map (·.1)).length c'∧(o=0→RowC (NwX b w.heap.size W.heap.size) W A' (es.map (·.1))):=by
 rcases h.row.2 with ⟨rfl,h0⟩ | ⟨g,cap,cur,rfl,hb,hg,_⟩
 ·have:es=[]:=List.eq_nil_of_length_eq_zero h0
  subst this;exact⟨none,0,rfl,fun _=> .inl rfl⟩
 ·refine⟨_,_,by rw[List.length_map],fun h0=> .inr ⟨_,rfl,.inr ⟨hb,(Array.getElem?_eq_some_iff.1 hg).1⟩,kidCL_iff.2 fun j c hj=>?_⟩⟩
  rw[List.getElem?_map,Option.map_eq_some_iff] at hj;obtain⟨x,hx,rfl⟩:=hj;refine⟨x.2,fun i u hu=>?_,(h.kids h0 x (List.mem_of_getElem? hx)).of (fun _ _=>rfl) OwX.all⟩;rw[add_addX,Nat.zero_add];exact h.row.cells (g:=g) rfl _ _ (flat_at (cf:=cfC) (fun _=>rfl) es j x hx i u hu)
theorem rowU_own {b:Nat} {w W:World} {A:Option Addr} {n c:Nat} {l:List Tok} {k o:Nat} {v:Value} {es:List XU} (h:RoG cfU 6 65 KPU b w W A n c l k o v es):∃ A' c',v= .slice A' (es.map (·.1)).length c'∧(o=0→RowU (NwX b w.heap.size W.heap.size) W A' (es.map (·.1))):=by
 rcases h.row.2 with ⟨rfl,h0⟩ | ⟨g,cap,cur,rfl,hb,hg,_⟩
 ·have:es=[]:=List.eq_nil_of_length_eq_zero h0
  subst this;exact⟨none,0,rfl,fun _=> .inl rfl⟩
 ·refine⟨_,_,by rw[List.length_map],fun h0=> .inr ⟨_,rfl,.inr ⟨hb,(Array.getElem?_eq_some_iff.1 hg).1⟩,kidRL_iff.2 fun j c hj=>?_⟩⟩
  rw[List.getElem?_map,Option.map_eq_some_iff] at hj;obtain⟨x,hx,rfl⟩:=hj;refine⟨x.2.1,x.2.2,fun i u hu=>?_,(h.kids h0 x (List.mem_of_getElem? hx)).of (fun _ _=>rfl) OwX.all⟩;rw[add_addX,Nat.zero_add];exact h.row.cells (g:=g) rfl _ _ (flat_at (cf:=cfU) (fun _=>rfl) es j x hx i u hu)
theorem infoC:(Tryz.prog.info? 41).map (fun i=>(i.zero,i.size,i.bytes))=some (some (.agg #[.int .i64 0,.string ⟨#[]⟩,.int .i64 0,.slice none 0 0,.int .i64 0,.int .i64 0,.string ⟨#[]⟩,.string ⟨#[]⟩,.slice none 0 0,.slice none 0 0,.slice none 0 0,.slice none 0 0,.int .i64 0]),13,208):=by kernel_rfl
theorem infoU:(Tryz.prog.info? 65).map (fun i=>(i.zero,i.size,i.bytes))=some (some (.agg #[.int .i64 0,.int .i64 0,.int .i64 0,.string ⟨#[]⟩,.slice none 0 0,.int .i64 0]),6,72):=by kernel_rfl
theorem oneC (x:XC):∀ u∈cfC x,u.oneCell'=true:=by
 intro u hu;simp only[cfC,cellsC,List.mem_cons,List.not_mem_nil,or_false] at hu
 rcases hu with rfl | rfl | rfl | rfl | rfl | rfl | rfl | rfl | rfl | rfl | rfl | rfl | rfl <;> rfl
theorem oneU (x:XU):∀ u∈cfU x,u.oneCell'=true:=by
 intro u hu;simp only[cfU,cellsR,List.mem_cons,List.not_mem_nil,or_false] at hu
 rcases hu with rfl | rfl | rfl | rfl | rfl | rfl <;> rfl
end
def restF (l:List Tok) (blk:Nat→Nat→Rz (List Cm)) (d N k:Nat):Rz (List Ru):=if isT l 4 [125] k then .ok [] (k+1) else rulesL l blk d N k
theorem rulesL_rest (l:List Tok) (blk:Nat→Nat→Rz (List Cm)) (d N k:Nat):rulesL l blk d (N+1) k=(ruleF l blk d k).then fun r i=>(restF l blk d N i).then fun rs m=> .ok (r::rs) m:=by
 rw[rulesL]
 congr 1
 funext r i
 unfold restF
 split <;> rfl
def RusS (b:Nat) (w:World) (A:Option Addr) (n c:Nat) (l:List Tok) (R:Rz (List Ru)) (e:Ending) (w':World):Prop:=
 ∃ (A':Option Addr) (us:List Ru) (c':Nat),e= .returned (.slice A' us.length c')∧StepS b w A n c l R.at R.err w'∧(∀ y j,R= .ok y j→y=us)∧(R.err=0→RowU (NwX b w.heap.size w'.heap.size) w' A' us)
abbrev RulC (b:Nat) (A:Option Addr) (n c:Nat) (l:List Tok) (z:Int) (k o:Nat) (R:Rz Ru):Prop:=Hid (∀ w',RdS b w' A n c l k o→Calls Tryz.prog 104 #[.pointer (some ⟨b,0,none⟩),.int .i64 z] w' fun e w2=>
 ∃ (r:Ru) (A':Option Addr) (c':Nat),e= .returned (.agg #[.int .i64 r.kind,.int .i64 r.peer,.int .i64 r.pk,.string ⟨r.pt.toArray⟩,.slice A' r.body.length c',.int .i64 r.pl])∧StepS b w' A n c l R.at R.err w2∧(∀ y j,R= .ok y j→y=r)∧(R.err=0→KidR (NwX b w'.heap.size w2.heap.size) w2 A' r))
structure RuI (b:Nat) (w:World) (A:Option Addr) (n c:Nat) (l:List Tok) (blk:Nat→Nat→Rz (List Cm)) (k0 d:Nat) (R:Rz (List Ru)) (M:Nat) (v:Value) (wr:World) (es:List XU) (k o:Nat):Prop where
 row:RoG cfU 6 65 KPU b w wr A n c l k o v es
 eq:R=(gate o k (restF l blk d M)).then fun rs m=> .ok (es.map (·.1)++rs) m
 fuel:o=0→n<k+M∧k0≤k∧d≤16
 len:es.length+M=n+1
theorem RuI.stop {b:Nat} {w wr w':World} {A:Option Addr} {n c:Nat} {l:List Tok} {blk:Nat→Nat→Rz (List Cm)} {k0 d:Nat} {R:Rz (List Ru)} {M:Nat} {v:Value} {es:List XU} {k o:Nat} (h:RuI b w A n c l blk k0 d R M v wr es k o) (ho:¬ o=0) (hb:Below wr.heap.size wr w'):RusS b w A n c l R (.returned v) w':=by
 have hR:=h.row.below monoU hb;obtain⟨A',c',rfl,_⟩:=rowU_own hR;have ho2:=h.row.cx.rd.oks.resolve_left ho
 have e1:R.at=k∧R.err=o∧∀ y j,R≠ .ok y j:=by
  rw[h.eq]
  rcases ho2 with rfl | rfl <;> exact⟨rfl,rfl,fun _ _ e=>by cases e⟩
 refine⟨A',es.map (·.1),c',rfl,?_,fun y j e=>absurd e (e1.2.2 y j),fun e=>absurd (e1.2.1.symm.trans e) ho⟩;rw[e1.1,e1.2.1];exact hR.cx.step
theorem RuI.shut {b:Nat} {w wr w':World} {A:Option Addr} {n c:Nat} {l:List Tok} {blk:Nat→Nat→Rz (List Cm)} {k0 d:Nat} {R:Rz (List Ru)} {M:Nat} {v:Value} {es:List XU} {k:Nat} (h:RuI b w A n c l blk k0 d R M v wr es k 0) (ht:isT l 4 [125] k=true) (hs:StepS b wr A n c l (k+1) 0 w'):RusS b w A n c l R (.returned v) w':=by
 have hR:=h.row.call monoU hs fun _=>rfl
 obtain⟨A',c',rfl,hk⟩:=rowU_own hR
 have e1:R= .ok (es.map (·.1)) (k+1):=by
  rw[h.eq,gate_ok];unfold restF;rw[if_pos ht];show Rz.ok (es.map (·.1)++[]) (k+1)=_;rw[List.append_nil]
 rw[e1];exact⟨A',es.map (·.1),c',rfl,hR.cx.step,fun y j e=>by injection e with e;exact e.symm,fun _=>hk rfl⟩
theorem RuI.step {b:Nat} {w wr w':World} {A:Option Addr} {n c:Nat} {l:List Tok} {blk:Nat→Nat→Rz (List Cm)} {k0 d:Nat} {R:Rz (List Ru)} {M:Nat} {v:Value} {es:List XU} {k:Nat} (h:RuI b w A n c l blk k0 d R M v wr es k 0) (hs:StepS b wr A n c l k 0 w'):RuI b w A n c l blk k0 d R M v w' es k 0:=⟨h.row.call monoU hs fun _=>rfl,h.eq,h.fuel,h.len⟩
theorem RuI.more {b:Nat} {w wr w2 w3:World} {A:Option Addr} {n c:Nat} {l:List Tok} {blk:Nat→Nat→Rz (List Cm)} (hB:BlkIn l blk) {k0 d:Nat} {R:Rz (List Ru)} {M:Nat} {v:Value} {es:List XU} {k:Nat} (h:RuI b w A n c l blk k0 d R (M+1) v wr es k 0) (ht:isT l 4 [125] k=false) {r:Ru} {A2:Option Addr} {c2:Nat}
  (hs:StepS b wr A n c l (ruleF l blk d k).at (ruleF l blk d k).err w2) (hv:∀ y j,ruleF l blk d k= .ok y j→y=r) (hk:(ruleF l blk d k).err=0→KidR (NwX b wr.heap.size w2.heap.size) w2 A2 r)
  {g cap:Nat} (hr:w3.ownsRow w.heap.size 65 6 (.slice (some ⟨g,0,none⟩) (es.length+1) cap) (es.length+1) (es.flatMap cfU++cfU (r,A2,c2))) (o:Obj) (hg:(w2.alloc o).grownBy w3 v.ownBlock) (hvg:v.ownBlock=some g∨g=w2.heap.size+1):
  RuI b w A n c l blk k0 d R M (.slice (some ⟨g,0,none⟩) (es.length+1) cap) w3 (es++[(r,A2,c2)]) (ruleF l blk d k).at (ruleF l blk d k).err:=by
 have hf:=h.fuel rfl;have hlen:=h.row.cx.rd.len;have hkn:k≤l.length:=by have:=h.row.cx.rd.le;omega
 have hin:=ruleF_in hB (d:=d) hkn;refine⟨?_,?_,fun h0=>?_,by have:=h.len;simp;omega⟩
 ·refine((h.row.call monoU hs fun _=>rfl).box monoU o).push monoU (x:=(r,A2,c2)) (fun h0=>?_) hr hg (by simpa using hvg)
  have hown:=h.row.own
  exact((hk h0).of (w':=w2.alloc o) (fun p hp=>World.cell?_of_block (((Below.refl w2.heap.size w2).alloc (Nat.le_refl _) o).block _ (by have:=hs.1.size;have:=h.row.cx.lt;have:=h.row.cx.gr.size;rcases hp with hp | hp <;> omega))) fun _ h=>h).of (fun _ _=>rfl) fun q hq=>
   OwX.of_new (g:=v.ownBlock) h.row.cx.gr.size (fun q hq=>(hown q hq).2) q (NwX.wide (Nat.le_refl _) (by simp) q hq)
 ·rw[h.eq,gate_ok]
  unfold restF;rw[if_neg (by rw[ht];decide),rulesL_rest,Rz.then_assoc];refine(then_known (g:=fun i=>(restF l blk d M i).then fun rs m=> .ok ((es++[(r,A2,c2)]).map (·.1)++rs) m) fun y j hy=>?_).trans (gate_seq _ _ _ _);rw[hv y j hy,Rz.then_assoc];simp only[List.map_append,List.map_cons,List.map_nil,List.append_assoc,List.singleton_append]
  rfl
 ·cases hq:ruleF l blk d k with
  | bad j dd=>rw[hq] at h0;cases dd <;> cases h0
  | ok y j=>
    have h1:=ruleF_more hB hkn hq;show n<j+M∧k0≤j∧d≤16;omega
theorem rulC (b:Nat) (A:Option Addr) (n c:Nat) (l:List Tok) (blk:Nat→Nat→Rz (List Cm)) (k0:Nat) (HB:BlkC b A n c l blk k0) (d k o:Nat) (z:Int) (hz:z=d) (hk:o=0→k0≤k∧d≤16) (hd:d≤99) {R:Rz Ru} (hR:gate o k (ruleF l blk d)=R):RulC b A n c l z k o R:=Lib.hid fun w' h'=>by
 subst hz hR;exact srule_any b A n c l blk k0 HB d k o w' hk hd h'
theorem RuI.first {b:Nat} {w w1 w2:World} {A:Option Addr} {n c:Nat} {l:List Tok} {blk:Nat→Nat→Rz (List Cm)} (hB:BlkIn l blk) {k0 d k o:Nat} {R:Rz (List Ru)} (hR:R=gate o k (rulesL l blk d (l.length+1))) (h:Cx b w w1 A n c l k o []) (hk:o=0→k0≤k∧d≤16) {r:Ru} {A2:Option Addr} {c2:Nat}
  (hs:StepS b w1 A n c l (gate o k (ruleF l blk d)).at (gate o k (ruleF l blk d)).err w2) (hv:∀ y j,gate o k (ruleF l blk d)= .ok y j→y=r) (hkk:(gate o k (ruleF l blk d)).err=0→KidR (NwX b w1.heap.size w2.heap.size) w2 A2 r):
  RuI b w A n c l blk k0 d R n (.slice (some ⟨w2.heap.size,0,none⟩) 1 1) (w2.alloc (.cells (cfU (r,A2,c2)).toArray 65)) [(r,A2,c2)] (gate o k (ruleF l blk d)).at (gate o k (ruleF l blk d)).err:=by
 have hlen:=h.rd.len;have hkn:k≤l.length:=by have:=h.rd.le;omega
 refine⟨RoG.one (h.call hs) monoU (x:=(r,A2,c2)) (fun h0=>(hkk h0).of (fun _ _=>rfl) fun q hq=>NwX.wide h.gr.size (Nat.le_refl _) q hq) rfl,?_,fun h0=>?_,by simp;omega⟩
 ·rw[hR]
  have e:(fun k=>rulesL l blk d (l.length+1) k)=fun k=>(ruleF l blk d k).then fun r i=>(restF l blk d l.length i).then fun rs m=> .ok (r::rs) m:=by
   funext k;exact rulesL_rest l blk d l.length k
  rw[show gate o k (rulesL l blk d (l.length+1))=gate o k (fun k=>rulesL l blk d (l.length+1) k) from rfl,e,gate_seq];refine(then_known (g:=fun i=>(restF l blk d n i).then fun rs m=> .ok ([(r,A2,c2)].map (·.1)++rs) m) fun y j hy=>?_).trans (gate_seq _ _ _ _);rw[hv y j hy,hlen.1];rfl
 ·obtain⟨e0,y,hy⟩:=gate_zero h.rd.oks h0
  have h1:=ruleF_more hB hkn hy;have h2:=hk e0;omega
theorem srules_any (b:Nat) (A:Option Addr) (n c:Nat) (l:List Tok) (blk:Nat→Nat→Rz (List Cm)) (hIn:BlkIn l blk) (k0:Nat) (HB:BlkC b A n c l blk k0) (d k o:Nat) (w:World) (hk:o=0→k0≤k∧d≤16) (hd:d≤98) (h:RdS b w A n c l k o):
  Calls Tryz.prog 62 #[.pointer (some ⟨b,0,none⟩),.int .i64 d] w (RusS b w A n c l (gate o k (rulesF l blk d))):=by
 have H:=Lib.hid (Cx.start h);have hn:=h.few;have K1:Hid (∀ w',RdS b w' A n c l k o→Calls Tryz.prog 102 #[.pointer (some ⟨b,0,none⟩),.int .i64 d] w' fun e w2=>e= .returned (.tuple #[])∧StepS b w' A n c l (gate o k (braceF l d)).at (gate o k (braceF l d)).err w2):=Lib.hid fun w' h'=>sbrace_any d b w' A n c l k o h'
 have hz:(gate o k (braceF l d)).err=0→k0≤(gate o k (braceF l d)).at∧d+1≤16:=fun he=>by
  obtain⟨ho,u,hu⟩:=gate_zero h.oks he;have h1:=braceF_ok hu;have h2:=hk ho;omega
 obtain⟨R,hR⟩:∃ R,R=gate o k (rulesF l blk d):=⟨_,rfl⟩;rw[←hR]
 have hR2:R=gate (gate o k (braceF l d)).err (gate o k (braceF l d)).at (rulesL l blk (d+1) (l.length+1)):=by
  rw[hR,show gate o k (rulesF l blk d)=gate o k (fun k=>(braceF l d k).then fun _ i=>rulesL l blk (d+1) (l.length+1) i) from rfl,gate_seq];exact then_known fun _ _ _=>rfl
 clear hR;have HR2:=Lib.hid hR2;clear hR2;generalize gate o k (braceF l d)=R0 at K1 hz HR2;have HZ:=Lib.hid hz;have K2:=rulC b A n c l blk k0 HB (d+1) R0.at R0.err ((d:Int)+1) (by omega) (by exact hz) (by omega) rfl;have KM:Hid (∀ k',k0≤k'→d+1≤16→RulC b A n c l ((d:Int)+1) k' 0 (ruleF l blk (d+1) k')):=Lib.hid fun k' h1 h2=>rulC b A n c l blk k0 HB (d+1) k' 0 ((d:Int)+1) (by omega) (fun _=>⟨h1,h2⟩) (by omega) (gate_ok _ _)
 have HI:=Lib.hid hIn;obtain⟨i0,hi0,hz0,hz1,hz2⟩:=info_parts infoU;clear hz hk h HB hIn;go_enter Tryz.func62,Tryz.ntmps62;go_wp2_with (first | (go_at_call 102;go_must (((with_reducible refine(K1.out _ H.out.rd).mono ?_));rintro e w1 ⟨rfl,hs1⟩;have HC:=Lib.hid (H.out.call hs1);clear hs1)) | (go_at_call 104;go_must (((with_reducible refine(K2.out _ HC.out.rd).mono ?_));rintro e w2 ⟨r,A2,c2,rfl,hs2,hv2,hk2⟩;have HF:=Lib.hid (RuI.first (c2:=c2) HI.out HR2.out HC.out HZ.out hs2 hv2 hk2);clear hs2 hv2 hk2)))
 go_loopg [5] n (fun M v wr=>∃ (es:List XU) (k' o' M':Nat),Hid (M=M')∧Hid (RuI b w A n c l blk k0 (d+1) R M' v wr es k' o'))
 case atStart=>exact⟨_,_,_,_,Lib.hid rfl,HF⟩
 case round=>
  obtain⟨es,k',o',M',HMM,HJ⟩:=hrel;obtain⟨x0,x1,x2,x3,x4⟩:=HJ.out.row.cx.rd.five;by_cases o0:o'=0
  ·subst o0
   have hf:=HJ.out.fuel rfl
   cases hv:isO l 4 [125] k' 0 with
   | true=>
     have KT:=takeC_t (b:=b) (A:=A) (n:=n) (c:=c) (W:=⟨#[125]⟩) (by decide) hv;have HV:=Lib.hid hv;clear hv hf;go_wp2_with (go_at_call 61;go_must (((with_reducible refine(KT.out _ HJ.out.row.cx.rd).mono ?_));rintro e w3 ⟨rfl,hs3⟩;have HS3:=Lib.hid hs3;clear hs3));go_ret;exact HJ.out.shut HV.out HS3.out
   | false=>
     have KT:=takeC_f (b:=b) (A:=A) (n:=n) (c:=c) (W:=⟨#[125]⟩) (by decide) hv;have HV:=Lib.hid hv;obtain⟨M2,rfl⟩:∃ M2,M'=M2+1:=⟨M' - 1,by have:=HJ.out.row.cx.rd.le;omega⟩;have K3:=KM.out k' hf.2.1 hf.2.2;have hel:es.length≤4001:=by have:=HJ.out.len;omega
     have HEL:=Lib.hid hel;clear hv hf hel;go_wp2_with (first | (go_at_call 61;go_must (((with_reducible refine(KT.out _ HJ.out.row.cx.rd).mono ?_));rintro e w3 ⟨rfl,hs3⟩;have HJ3:=Lib.hid (HJ.out.step hs3);clear hs3)) | (go_at_call 104;go_must (((with_reducible refine(K3.out _ HJ3.out.row.cx.rd).mono ?_));rintro e w4 ⟨r2,A4,c4,rfl,hs4,hv4,hk4⟩;have HRW:=Lib.hid ((HJ3.out.row.call monoU hs4 fun _=>rfl).box monoU (.cells #[.int .i64 r2.kind,.int .i64 r2.peer,.int .i64 r2.pk,.string ⟨r2.pt.toArray⟩,.slice A4 r2.body.length c4,.int .i64 r2.pl] 65));have HS4:=Lib.hid hs4;have HV4:=Lib.hid hv4;have HK4:=Lib.hid hk4;clear hs4 hv4 hk4)) | (at_builtin;refine wpList_append_lies _ rfl (.tmp 24) (.tmp 29) 39 rfl w.heap.size 65 i0 (.agg #[.int .i64 0,.int .i64 0,.int .i64 0,.string ⟨#[]⟩,.slice none 0 0,.int .i64 0]) 6 72 Tryz.underlying39 hi0 hz0 hz1 hz2 rfl (by decide) _ es.length (es.flatMap cfU) rfl HRW.out.row ⟨w4.heap.size,0,none⟩ 1 1 [.int .i64 r2.kind,.int .i64 r2.peer,.int .i64 r2.pk,.string ⟨r2.pt.toArray⟩,.slice A4 r2.body.length c4,.int .i64 r2.pl] rfl rfl (fun j u hu=>new_cells w4 65 #[.int .i64 r2.kind,.int .i64 r2.peer,.int .i64 r2.pk,.string ⟨r2.pt.toArray⟩,.slice A4 r2.body.length c4,.int .i64 r2.pl] j u hu) (oneU (r2,A4,c4)) (by decide) (by have:=HEL.out;unfold maxLen;omega) (by have:=HEL.out;omega) HRW.out.cx.gr.size (w4.heap.size+1) (by simp) ?_;intro g cap w5 ho hg hvg hgl;have HN:=Lib.hid (HJ3.out.more HI.out HV.out HS4.out HV4.out HK4.out ho _ hg hvg);clear ho hg hvg hgl))
     go_roundg M2
     case measure=>rw[HMM.out];exact Nat.lt_succ_self _
     case rel=>exact⟨_,_,_,_,Lib.hid rfl,HN⟩
  ·obtain⟨b1,b2,b3,b4⟩:=neq0_f o0
   have O0:=Lib.hid o0;clear o0;go_wp2;go_ret;exact HJ.out.stop O0.out (Below.refl _ _)
section
theorem Cx.put13 {b:Nat} {w W:World} {A:Option Addr} {n c:Nat} {l:List Tok} {k o:Nat} {bs:List (Nat × List Value)} (h:Cx b w W A n c l k o bs) (i q:Nat) (u0 u1 u2 u3 u4 u5 u6 u7 u8 u9 u10 u11 u12:Value) (hi:bs[i]?=some (q,[u0,u1,u2,u3,u4,u5,u6,u7,u8,u9,u10,u11,u12])) (v0 v1 v2 v3 v4 v5 v6 v7 v8 v9 v10 v11 v12:Value):
  Cx b w (((((((((((((W.setCell ⟨q,0,none⟩ v0).setCell ⟨q,1,none⟩ v1).setCell ⟨q,2,none⟩ v2).setCell ⟨q,3,none⟩ v3).setCell ⟨q,4,none⟩ v4).setCell ⟨q,5,none⟩ v5).setCell ⟨q,6,none⟩ v6).setCell ⟨q,7,none⟩ v7).setCell ⟨q,8,none⟩ v8).setCell ⟨q,9,none⟩ v9).setCell ⟨q,10,none⟩ v10).setCell ⟨q,11,none⟩ v11).setCell ⟨q,12,none⟩ v12) A n c l k o (bs.set i (q,[v0,v1,v2,v3,v4,v5,v6,v7,v8,v9,v10,v11,v12])):=by
 have hl:=(List.getElem?_eq_some_iff.1 hi).1;have e:∀ x:Nat × List Value,(bs.set i x)[i]?=some x:=fun x=>List.getElem?_set_self hl
 have h0:=h.put i q _ hi 0 (by simp) v0;have h1:=h0.put i q _ (by first | exact e _ | (simp only[List.set_set];exact e _)) 1 (by simp) v1;have h2:=h1.put i q _ (by first | exact e _ | (simp only[List.set_set];exact e _)) 2 (by simp) v2;have h3:=h2.put i q _ (by first | exact e _ | (simp only[List.set_set];exact e _)) 3 (by simp) v3;have h4:=h3.put i q _ (by first | exact e _ | (simp only[List.set_set];exact e _)) 4 (by simp) v4;have h5:=h4.put i q _ (by first | exact e _ | (simp only[List.set_set];exact e _)) 5 (by simp) v5;have h6:=h5.put i q _ (by first | exact e _ | (simp only[List.set_set];exact e _)) 6 (by simp) v6;have h7:=h6.put i q _ (by first | exact e _ | (simp only[List.set_set];exact e _)) 7 (by simp) v7;have h8:=h7.put i q _ (by first | exact e _ | (simp only[List.set_set];exact e _)) 8 (by simp) v8;have h9:=h8.put i q _ (by first | exact e _ | (simp only[List.set_set];exact e _)) 9 (by simp) v9;have h10:=h9.put i q _ (by first | exact e _ | (simp only[List.set_set];exact e _)) 10 (by simp) v10;have h11:=h10.put i q _ (by first | exact e _ | (simp only[List.set_set];exact e _)) 11 (by simp) v11;have h12:=h11.put i q _ (by first | exact e _ | (simp only[List.set_set];exact e _)) 12 (by simp) v12;simp only[List.set_set] at h12;exact h12
abbrev zeroC:List Value:=[.int .i64 0,.string ⟨#[]⟩,.int .i64 0,.slice none 0 0,.int .i64 0,.int .i64 0,.string ⟨#[]⟩,.string ⟨#[]⟩,.slice none 0 0,.slice none 0 0,.slice none 0 0,.slice none 0 0,.int .i64 0]
def CmdS (b:Nat) (w:World) (A:Option Addr) (n c:Nat) (l:List Tok) (R:Rz Cm) (e:Ending) (w':World):Prop:=
 ∃ (x:Cm) (lk:Lk),e= .returned (valC x lk)∧StepS b w A n c l R.at R.err w'∧(∀ y j,R= .ok y j→y=x)∧(R.err=0→KidC (NwX b w.heap.size w'.heap.size) w' lk x)
def MonoP (RP:(Nat→Prop)→World→Prop):Prop:=∀ (P Q:Nat→Prop) (w w':World),(∀ p:Addr,P p.block→w'.cell? p=w.cell? p)→(∀ k,P k→Q k)→RP P w→RP Q w'
def Hd (b q:Nat) (RP:(Nat→Prop)→World→Prop) (W:World):Prop:=∃ lo hi,b<lo∧q<lo∧lo≤hi∧hi≤W.heap.size∧RP (NwX b lo hi) W
section
variable {b q:Nat} {RP:(Nat→Prop)→World→Prop} {W W':World}
theorem Hd.put (h:Hd b q RP W) (hm:MonoP RP) {p:Nat} (hp:p≤q) (hb:b≤p) (j:Nat) (u:Value):Hd b q RP (W.setCell ⟨p,j,none⟩ u):=by
 obtain⟨lo,hi,h1,h2,h3,h4,h5⟩:=h;exact⟨lo,hi,h1,h2,h3,by simpa[World.setCell] using h4,hm _ _ W _ (NwX.set (by omega) hb) (fun _ h=>h) h5⟩
theorem Hd.call (h:Hd b q RP W) (hm:MonoP RP) (hg:W.grownBy W' (some b)):Hd b q RP W':=by
 obtain⟨lo,hi,h1,h2,h3,h4,h5⟩:=h;exact⟨lo,hi,h1,h2,h3,Nat.le_trans h4 hg.size,hm _ _ W _ (NwX.cell hg h1 h4 (by omega)) (fun _ h=>h) h5⟩
theorem Hd.put13 (h:Hd b q RP W) (hm:MonoP RP) {p:Nat} (hp:p≤q) (hb:b≤p) (v0 v1 v2 v3 v4 v5 v6 v7 v8 v9 v10 v11 v12:Value):
  Hd b q RP (((((((((((((W.setCell ⟨p,0,none⟩ v0).setCell ⟨p,1,none⟩ v1).setCell ⟨p,2,none⟩ v2).setCell ⟨p,3,none⟩ v3).setCell ⟨p,4,none⟩ v4).setCell ⟨p,5,none⟩ v5).setCell ⟨p,6,none⟩ v6).setCell ⟨p,7,none⟩ v7).setCell ⟨p,8,none⟩ v8).setCell ⟨p,9,none⟩ v9).setCell ⟨p,10,none⟩ v10).setCell ⟨p,11,none⟩ v11).setCell ⟨p,12,none⟩ v12):=
 ((((((((((((h.put hm hp hb 0 v0).put hm hp hb 1 v1).put hm hp hb 2 v2).put hm hp hb 3 v3).put hm hp hb 4 v4).put hm hp hb 5 v5).put hm hp hb 6 v6).put hm hp hb 7 v7).put hm hp hb 8 v8).put hm hp hb 9 v9).put hm hp hb 10 v10).put hm hp hb 11 v11).put hm hp hb 12 v12
theorem Hd.fin (h:Hd b q RP W) (hm:MonoP RP) {lo:Nat} (hl:lo≤q):RP (NwX b lo W.heap.size) W:=by
 obtain⟨lo',hi,h1,h2,h3,h4,h5⟩:=h;exact hm _ _ W _ (fun _ _=>rfl) (NwX.wide (by omega) h4) h5
end
abbrev PtP (R:Rz Tok) (A:Option Addr) (ps:List Pt):(Nat→Prop)→World→Prop:=fun P W=>R.err=0→RdP P W A ps
abbrev ExP (R:Rz Ex) (A:Option Addr) (x:Ex):(Nat→Prop)→World→Prop:=fun P W=>R.err=0→KidsX P W A x
abbrev CsP (R:Rz (List Cm)) (A:Option Addr) (xs:List Cm):(Nat→Prop)→World→Prop:=fun P W=>R.err=0→RowC P W A xs
abbrev UsP (R:Rz (List Ru)) (A:Option Addr) (xs:List Ru):(Nat→Prop)→World→Prop:=fun P W=>R.err=0→RowU P W A xs
theorem monoPt (R:Rz Tok) (A:Option Addr) (ps:List Pt):MonoP (PtP R A ps):=fun _ _ _ _ hs hP h h0=>(h h0).of hs hP
theorem monoEx (R:Rz Ex) (A:Option Addr) (x:Ex):MonoP (ExP R A x):=fun _ _ _ _ hs hP h h0=>kidsX_of hs hP _ _ (h h0)
theorem monoCs (R:Rz (List Cm)) (A:Option Addr) (xs:List Cm):MonoP (CsP R A xs):=fun _ _ _ _ hs hP h h0=>(h h0).of hs hP
theorem monoUs (R:Rz (List Ru)) (A:Option Addr) (xs:List Ru):MonoP (UsP R A xs):=fun _ _ _ _ hs hP h h0=>(h h0).of hs hP
theorem hd_new {b q:Nat} {RP:(Nat→Prop)→World→Prop} {W W':World} (hb:b<W.heap.size) (hq:q<W.heap.size) (hz:W.heap.size≤W'.heap.size) (h:RP (NwX b W.heap.size W'.heap.size) W'):Hd b q RP W':=⟨W.heap.size,W'.heap.size,hb,hq,hz,Nat.le_refl _,h⟩
abbrev NamC (b:Nat) (A:Option Addr) (n c:Nat) (l:List Tok) (k o:Nat) (R:Rz Bs):Prop:=Hid (∀ w',RdS b w' A n c l k o→Calls Tryz.prog 56 #[.pointer (some ⟨b,0,none⟩)] w' fun e w2=>∃ s:Bs,e= .returned (.string ⟨s.toArray⟩)∧StepS b w' A n c l R.at R.err w2∧∀ y j,R= .ok y j→y=s)
abbrev NmC (b:Nat) (A:Option Addr) (n c:Nat) (l:List Tok) (kind:Int) (k o:Nat) (R:Rz Int):Prop:=Hid (∀ w',RdS b w' A n c l k o→Calls Tryz.prog 57 #[.pointer (some ⟨b,0,none⟩),.int .i64 kind] w' fun e w2=>∃ z:Int,e= .returned (.int .i64 z)∧StepS b w' A n c l R.at R.err w2∧∀ y j,R= .ok y j→y=z)
abbrev ConC (b:Nat) (A:Option Addr) (n c:Nat) (l:List Tok) (k o:Nat) (R:Rz Ex):Prop:=Hid (∀ w',RdS b w' A n c l k o→Calls Tryz.prog 59 #[.pointer (some ⟨b,0,none⟩)] w' fun e w2=>∃ (x:Ex) (A':Option Addr) (c':Nat),
 e= .returned (.agg #[.int .i64 x.kind,.int .i64 x.n,.string ⟨x.name.toArray⟩,.string ⟨x.op.toArray⟩,.slice A' x.kids.length c'])∧StepS b w' A n c l R.at R.err w2∧∀ y j,R= .ok y j→y=x∧KidsX (FrX w'.heap.size w2.heap.size) w2 A' x)
abbrev RusC (b:Nat) (A:Option Addr) (n c:Nat) (l:List Tok) (d k o:Nat) (R:Rz (List Ru)):Prop:=Hid (∀ w',RdS b w' A n c l k o→Calls Tryz.prog 62 #[.pointer (some ⟨b,0,none⟩),.int .i64 d] w' fun e w2=>
 ∃ (A':Option Addr) (us:List Ru) (c':Nat),e= .returned (.slice A' us.length c')∧StepS b w' A n c l R.at R.err w2∧(∀ y j,R= .ok y j→y=us)∧(R.err=0→RowU (NwX b w'.heap.size w2.heap.size) w2 A' us))
abbrev KowC (W:ByteArray) (z:Int):Prop:=Hid (∀ w',Calls Tryz.prog 54 #[.string W] w' fun e w2=>e= .returned (.int .i64 z)∧w'=w2)
abbrev FofC (z:Int) (S:ByteArray) (f:Int):Prop:=Hid (∀ w',Calls Tryz.prog 55 #[.int .i64 z] w' fun e w2=>e= .returned (.tuple #[.string S,.int .i64 f])∧w'=w2)
theorem ok_of_err {α:Type} {R:Rz α} (h:R.err=0):∃ x j,R= .ok x j:=by
 cases R with
 | ok x j=>exact⟨x,j,rfl⟩
 | bad j d=>cases d <;> cases h
end
end Go.Proofs.YtngfihoempcplaaGreatDoor
