import Derived.Test.YtngfihoempcplaaGreatDoorCf
import Derived.Test.YtngfihoempcplaaGreatDoorSm4
import Derived.Test.YtngfihoempcplaaGreatDoorSq1
namespace Go.Proofs.YtngfihoempcplaaGreatDoor
open Go Go.RowKit
set_option maxRecDepth 100000
set_option maxHeartbeats 8000000
theorem x5g (n:Int) (P X B E U:OA) (cp cx cb ce cu:Nat) (pl:Int) (o:Int) (w:World) (hz:(0:Int)≤n):
  Cz 36 #[.agg #[iI 9,oS,n,.slice P 0 cp,oZ,oZ,oS,oS,.slice X 0 cx,.slice B 0 cb,.slice E 0 ce,.slice U 0 cu,pl],o] w fun e w'=>e= .returned true∧Below w.heap.size w w':=by
 have KO:FofC 9 ⟨#[117,115,101]⟩ 2:=zz fun w'=>z02 9 (by omega) w'
 unfold FofC at KO;have KH:=zz (y29 9 n P X B E U cp cx cb ce cu pl);have KL:Hid (∀ w',Cz 79 #[iI 9] w' fun e w2=>e= .returned (.int .i64 (0))∧w'=w2):=zz fun w'=>z4i 9 (by omega) w'
 obtain⟨HBX,HN⟩:=oneV w [iI 9,oS,n,.slice P 0 cp,oZ,oZ,oS,oS,.slice X 0 cx,.slice B 0 cb,.slice E 0 ce,.slice U 0 cu,pl] (by simp) 41;go_enter Tryz.func36,Tryz.ntmps36;go_wp2_with (go_at_call 55;go_must ((with_reducible refine(KO.out _).mono ?_);rintro e w1 ⟨rfl,rfl⟩));obtain⟨V,hV⟩:∃ V,V=(w.alloc (.cells #[iI 9,oS,n,.slice P 0 cp,oZ,oZ,oS,oS,.slice X 0 cx,.slice B 0 cb,.slice E 0 ce,.slice U 0 cu,pl] 41)):=⟨_,rfl⟩;rw[←hV] at HBX HN ⊢;clear hV;have e1:bits BinOp.and IntKind.i64 2 1=0:=by rfl
 have e2:bits BinOp.and IntKind.i64 2 2=2:=by rfl
 have e4:bits BinOp.and IntKind.i64 2 4=0:=by rfl
 have e8:bits BinOp.and IntKind.i64 2 8=0:=by rfl
 have e16:bits BinOp.and IntKind.i64 2 16=0:=by rfl
 have e32:bits BinOp.and IntKind.i64 2 32=0:=by rfl
 have e64:bits BinOp.and IntKind.i64 2 64=0:=by rfl
 have hne:=z1i V;obtain⟨p0,p1,p2,p3,p4,p5,p6,p7,p8,p9,p10,p11,p12⟩:=bw13 (HBX.out _ bR);simp only[List.append_eq,List.cons_append,List.nil_append];refine z0i (by kernel_rfl) (by kernel_rfl) ?_
 repeat (go_big_quiet_step (first | (go_at_call 77;with_reducible exact z2k KH.out _) | (go_at_call 79;with_reducible exact z3i KL.out _) | fail))
 refine wpQuiet_nil ?_;intro w5 hw5;obtain⟨m5,rfl⟩:=hw5;have B5:=zz m5.2;clear p0 p1 p2 p3 p4 p5 p6 p7 p8 p9 p10 p11 p12;go_wp2;go_ret;exact⟨rfl,HN.out.trans (B5.out.mono HN.out.size)⟩
theorem x3z (np:Nat) (P X B E U:OA) (cp cx cb ce cu:Nat) (pl:Int) (o:Int) (w:World) (KQ:Hid (∀ w',Below w.heap.size w w'→Cz 80 #[.slice P np cp] w' fun e w2=>e= .returned true∧Below w'.heap.size w' w2)):
  Cz 36 #[.agg #[iI 10,oS,oZ,.slice P np cp,oZ,oZ,oS,oS,.slice X 0 cx,.slice B 0 cb,.slice E 0 ce,.slice U 0 cu,pl],o] w fun e w'=>e= .returned true∧Below w.heap.size w w':=by
 have KO:FofC 10 ⟨#[115,101,110,100]⟩ 4:=zz fun w'=>z02 10 (by omega) w'
 unfold FofC at KO;have KH:=zz (x39 10 np P X B E U cp cx cb ce cu pl);obtain⟨HBX,HN⟩:=oneV w [iI 10,oS,oZ,.slice P np cp,oZ,oZ,oS,oS,.slice X 0 cx,.slice B 0 cb,.slice E 0 ce,.slice U 0 cu,pl] (by simp) 41;go_enter Tryz.func36,Tryz.ntmps36;go_wp2_with (go_at_call 55;go_must ((with_reducible refine(KO.out _).mono ?_);rintro e w1 ⟨rfl,rfl⟩));obtain⟨V,hV⟩:∃ V,V=(w.alloc (.cells #[iI 10,oS,oZ,.slice P np cp,oZ,oZ,oS,oS,.slice X 0 cx,.slice B 0 cb,.slice E 0 ce,.slice U 0 cu,pl] 41)):=⟨_,rfl⟩;rw[←hV] at HBX HN ⊢;clear hV;have e1:bits BinOp.and IntKind.i64 4 1=0:=by rfl
 have e2:bits BinOp.and IntKind.i64 4 2=0:=by rfl
 have e4:bits BinOp.and IntKind.i64 4 4=4:=by rfl
 have e8:bits BinOp.and IntKind.i64 4 8=0:=by rfl
 have e16:bits BinOp.and IntKind.i64 4 16=0:=by rfl
 have e32:bits BinOp.and IntKind.i64 4 32=0:=by rfl
 have e64:bits BinOp.and IntKind.i64 4 64=0:=by rfl
 have hne:=z1i V;obtain⟨p0,p1,p2,p3,p4,p5,p6,p7,p8,p9,p10,p11,p12⟩:=bw13 (HBX.out _ bR);simp only[List.append_eq,List.cons_append,List.nil_append];refine z0i (by kernel_rfl) (by kernel_rfl) ?_
 repeat (go_big_quiet_step (first | (go_at_call 77;with_reducible exact z2k KH.out _) | (go_at_call 80;with_reducible exact z1r KQ.out HN.out _) | fail))
 refine wpQuiet_nil ?_;intro w5 hw5;obtain⟨m5,rfl⟩:=hw5;have B5:=zz m5.2;clear p0 p1 p2 p3 p4 p5 p6 p7 p8 p9 p10 p11 p12;go_wp2;go_ret;exact⟨rfl,HN.out.trans (B5.out.mono HN.out.size)⟩
theorem x3a (n:Int) (P X B E U:OA) (cp cx cb ce cu:Nat) (pl:Int) (o:Int) (w:World) (hz:(-1:Int)≤n):
  Cz 36 #[.agg #[iI 11,oS,n,.slice P 0 cp,oZ,oZ,oS,oS,.slice X 0 cx,.slice B 0 cb,.slice E 0 ce,.slice U 0 cu,pl],o] w fun e w'=>e= .returned true∧Below w.heap.size w w':=by
 have KO:FofC 11 ⟨#[116,105,109,101,111,117,116]⟩ 2:=zz fun w'=>z02 11 (by omega) w'
 unfold FofC at KO;have KH:=zz (y29 11 n P X B E U cp cx cb ce cu pl);have KL:Hid (∀ w',Cz 79 #[iI 11] w' fun e w2=>e= .returned (.int .i64 (-1))∧w'=w2):=zz fun w'=>z4i 11 (by omega) w'
 obtain⟨HBX,HN⟩:=oneV w [iI 11,oS,n,.slice P 0 cp,oZ,oZ,oS,oS,.slice X 0 cx,.slice B 0 cb,.slice E 0 ce,.slice U 0 cu,pl] (by simp) 41;go_enter Tryz.func36,Tryz.ntmps36;go_wp2_with (go_at_call 55;go_must ((with_reducible refine(KO.out _).mono ?_);rintro e w1 ⟨rfl,rfl⟩));obtain⟨V,hV⟩:∃ V,V=(w.alloc (.cells #[iI 11,oS,n,.slice P 0 cp,oZ,oZ,oS,oS,.slice X 0 cx,.slice B 0 cb,.slice E 0 ce,.slice U 0 cu,pl] 41)):=⟨_,rfl⟩;rw[←hV] at HBX HN ⊢;clear hV;have e1:bits BinOp.and IntKind.i64 2 1=0:=by rfl
 have e2:bits BinOp.and IntKind.i64 2 2=2:=by rfl
 have e4:bits BinOp.and IntKind.i64 2 4=0:=by rfl
 have e8:bits BinOp.and IntKind.i64 2 8=0:=by rfl
 have e16:bits BinOp.and IntKind.i64 2 16=0:=by rfl
 have e32:bits BinOp.and IntKind.i64 2 32=0:=by rfl
 have e64:bits BinOp.and IntKind.i64 2 64=0:=by rfl
 have hne:=z1i V;obtain⟨p0,p1,p2,p3,p4,p5,p6,p7,p8,p9,p10,p11,p12⟩:=bw13 (HBX.out _ bR);simp only[List.append_eq,List.cons_append,List.nil_append];refine z0i (by kernel_rfl) (by kernel_rfl) ?_
 repeat (go_big_quiet_step (first | (go_at_call 77;with_reducible exact z2k KH.out _) | (go_at_call 79;with_reducible exact z3i KL.out _) | fail))
 refine wpQuiet_nil ?_;intro w5 hw5;obtain⟨m5,rfl⟩:=hw5;have B5:=zz m5.2;clear p0 p1 p2 p3 p4 p5 p6 p7 p8 p9 p10 p11 p12;go_wp2;go_ret;exact⟨rfl,HN.out.trans (B5.out.mono HN.out.size)⟩
theorem x3f (nu:Nat) (P X B E U:OA) (cp cx cb ce cu:Nat) (pl:Int) (o:Int) (w:World) (KU:Hid (∀ w',Below w.heap.size w w'→Cz 83 #[.slice U nu cu,o] w' fun e w2=>e= .returned true∧Below w'.heap.size w' w2)):
  Cz 36 #[.agg #[iI 12,oS,oZ,.slice P 0 cp,oZ,oZ,oS,oS,.slice X 0 cx,.slice B 0 cb,.slice E 0 ce,.slice U nu cu,pl],o] w fun e w'=>e= .returned true∧Below w.heap.size w w':=by
 have KO:FofC 12 ⟨#[101,120,112,101,99,116]⟩ 64:=zz fun w'=>z02 12 (by omega) w'
 unfold FofC at KO;have KH:=zz (z9s 12 nu P X B E U cp cx cb ce cu pl);obtain⟨HBX,HN⟩:=oneV w [iI 12,oS,oZ,.slice P 0 cp,oZ,oZ,oS,oS,.slice X 0 cx,.slice B 0 cb,.slice E 0 ce,.slice U nu cu,pl] (by simp) 41;go_enter Tryz.func36,Tryz.ntmps36;go_wp2_with (go_at_call 55;go_must ((with_reducible refine(KO.out _).mono ?_);rintro e w1 ⟨rfl,rfl⟩));obtain⟨V,hV⟩:∃ V,V=(w.alloc (.cells #[iI 12,oS,oZ,.slice P 0 cp,oZ,oZ,oS,oS,.slice X 0 cx,.slice B 0 cb,.slice E 0 ce,.slice U nu cu,pl] 41)):=⟨_,rfl⟩;rw[←hV] at HBX HN ⊢;clear hV;have e1:bits BinOp.and IntKind.i64 64 1=0:=by rfl
 have e2:bits BinOp.and IntKind.i64 64 2=0:=by rfl
 have e4:bits BinOp.and IntKind.i64 64 4=0:=by rfl
 have e8:bits BinOp.and IntKind.i64 64 8=0:=by rfl
 have e16:bits BinOp.and IntKind.i64 64 16=0:=by rfl
 have e32:bits BinOp.and IntKind.i64 64 32=0:=by rfl
 have e64:bits BinOp.and IntKind.i64 64 64=64:=by rfl
 have hne:=z1i V;obtain⟨p0,p1,p2,p3,p4,p5,p6,p7,p8,p9,p10,p11,p12⟩:=bw13 (HBX.out _ bR);simp only[List.append_eq,List.cons_append,List.nil_append];refine z0i (by kernel_rfl) (by kernel_rfl) ?_
 repeat (go_big_quiet_step (first | (go_at_call 77;with_reducible exact z2k KH.out _) | (go_at_call 83;with_reducible exact z1r KU.out HN.out _) | fail))
 refine wpQuiet_nil ?_;intro w5 hw5;obtain⟨m5,rfl⟩:=hw5;have B5:=zz m5.2;clear p0 p1 p2 p3 p4 p5 p6 p7 p8 p9 p10 p11 p12;go_wp2;go_ret;exact⟨rfl,HN.out.trans (B5.out.mono HN.out.size)⟩
theorem x3x (nu:Nat) (P X B E U:OA) (cp cx cb ce cu:Nat) (pl:Int) (o:Int) (w:World) (KU:Hid (∀ w',Below w.heap.size w w'→Cz 83 #[.slice U nu cu,o] w' fun e w2=>e= .returned true∧Below w'.heap.size w' w2)):
  Cz 36 #[.agg #[iI 13,oS,oZ,.slice P 0 cp,oZ,oZ,oS,oS,.slice X 0 cx,.slice B 0 cb,.slice E 0 ce,.slice U nu cu,pl],o] w fun e w'=>e= .returned true∧Below w.heap.size w w':=by
 have KO:FofC 13 ⟨#[101,120,112,101,99,116,95,98,101,102,111,114,101]⟩ 64:=zz fun w'=>z02 13 (by omega) w'
 unfold FofC at KO;have KH:=zz (z9s 13 nu P X B E U cp cx cb ce cu pl);obtain⟨HBX,HN⟩:=oneV w [iI 13,oS,oZ,.slice P 0 cp,oZ,oZ,oS,oS,.slice X 0 cx,.slice B 0 cb,.slice E 0 ce,.slice U nu cu,pl] (by simp) 41;go_enter Tryz.func36,Tryz.ntmps36;go_wp2_with (go_at_call 55;go_must ((with_reducible refine(KO.out _).mono ?_);rintro e w1 ⟨rfl,rfl⟩));obtain⟨V,hV⟩:∃ V,V=(w.alloc (.cells #[iI 13,oS,oZ,.slice P 0 cp,oZ,oZ,oS,oS,.slice X 0 cx,.slice B 0 cb,.slice E 0 ce,.slice U nu cu,pl] 41)):=⟨_,rfl⟩;rw[←hV] at HBX HN ⊢;clear hV;have e1:bits BinOp.and IntKind.i64 64 1=0:=by rfl
 have e2:bits BinOp.and IntKind.i64 64 2=0:=by rfl
 have e4:bits BinOp.and IntKind.i64 64 4=0:=by rfl
 have e8:bits BinOp.and IntKind.i64 64 8=0:=by rfl
 have e16:bits BinOp.and IntKind.i64 64 16=0:=by rfl
 have e32:bits BinOp.and IntKind.i64 64 32=0:=by rfl
 have e64:bits BinOp.and IntKind.i64 64 64=64:=by rfl
 have hne:=z1i V;obtain⟨p0,p1,p2,p3,p4,p5,p6,p7,p8,p9,p10,p11,p12⟩:=bw13 (HBX.out _ bR);simp only[List.append_eq,List.cons_append,List.nil_append];refine z0i (by kernel_rfl) (by kernel_rfl) ?_
 repeat (go_big_quiet_step (first | (go_at_call 77;with_reducible exact z2k KH.out _) | (go_at_call 83;with_reducible exact z1r KU.out HN.out _) | fail))
 refine wpQuiet_nil ?_;intro w5 hw5;obtain⟨m5,rfl⟩:=hw5;have B5:=zz m5.2;clear p0 p1 p2 p3 p4 p5 p6 p7 p8 p9 p10 p11 p12;go_wp2;go_ret;exact⟨rfl,HN.out.trans (B5.out.mono HN.out.size)⟩
theorem x3o (nu:Nat) (P X B E U:OA) (cp cx cb ce cu:Nat) (pl:Int) (o:Int) (w:World) (KU:Hid (∀ w',Below w.heap.size w w'→Cz 83 #[.slice U nu cu,o] w' fun e w2=>e= .returned true∧Below w'.heap.size w' w2)):
  Cz 36 #[.agg #[iI 14,oS,oZ,.slice P 0 cp,oZ,oZ,oS,oS,.slice X 0 cx,.slice B 0 cb,.slice E 0 ce,.slice U nu cu,pl],o] w fun e w'=>e= .returned true∧Below w.heap.size w w':=by
 have KO:FofC 14 ⟨#[101,120,112,101,99,116,95,97,102,116,101,114]⟩ 64:=zz fun w'=>z02 14 (by omega) w'
 unfold FofC at KO;have KH:=zz (z9s 14 nu P X B E U cp cx cb ce cu pl);obtain⟨HBX,HN⟩:=oneV w [iI 14,oS,oZ,.slice P 0 cp,oZ,oZ,oS,oS,.slice X 0 cx,.slice B 0 cb,.slice E 0 ce,.slice U nu cu,pl] (by simp) 41;go_enter Tryz.func36,Tryz.ntmps36;go_wp2_with (go_at_call 55;go_must ((with_reducible refine(KO.out _).mono ?_);rintro e w1 ⟨rfl,rfl⟩));obtain⟨V,hV⟩:∃ V,V=(w.alloc (.cells #[iI 14,oS,oZ,.slice P 0 cp,oZ,oZ,oS,oS,.slice X 0 cx,.slice B 0 cb,.slice E 0 ce,.slice U nu cu,pl] 41)):=⟨_,rfl⟩;rw[←hV] at HBX HN ⊢;clear hV;have e1:bits BinOp.and IntKind.i64 64 1=0:=by rfl
 have e2:bits BinOp.and IntKind.i64 64 2=0:=by rfl
 have e4:bits BinOp.and IntKind.i64 64 4=0:=by rfl
 have e8:bits BinOp.and IntKind.i64 64 8=0:=by rfl
 have e16:bits BinOp.and IntKind.i64 64 16=0:=by rfl
 have e32:bits BinOp.and IntKind.i64 64 32=0:=by rfl
 have e64:bits BinOp.and IntKind.i64 64 64=64:=by rfl
 have hne:=z1i V;obtain⟨p0,p1,p2,p3,p4,p5,p6,p7,p8,p9,p10,p11,p12⟩:=bw13 (HBX.out _ bR);simp only[List.append_eq,List.cons_append,List.nil_append];refine z0i (by kernel_rfl) (by kernel_rfl) ?_
 repeat (go_big_quiet_step (first | (go_at_call 77;with_reducible exact z2k KH.out _) | (go_at_call 83;with_reducible exact z1r KU.out HN.out _) | fail))
 refine wpQuiet_nil ?_;intro w5 hw5;obtain⟨m5,rfl⟩:=hw5;have B5:=zz m5.2;clear p0 p1 p2 p3 p4 p5 p6 p7 p8 p9 p10 p11 p12;go_wp2;go_ret;exact⟨rfl,HN.out.trans (B5.out.mono HN.out.size)⟩
theorem x29 (P X B E U:OA) (cp cx cb ce cu:Nat) (pl:Int) (o:Int) (w:World):
  Cz 36 #[.agg #[iI 15,oS,oZ,.slice P 0 cp,oZ,oZ,oS,oS,.slice X 0 cx,.slice B 0 cb,.slice E 0 ce,.slice U 0 cu,pl],o] w fun e w'=>e= .returned true∧Below w.heap.size w w':=by
 have KO:FofC 15 ⟨#[101,120,112,95,99,111,110,116,105,110,117,101]⟩ 0:=zz fun w'=>z02 15 (by omega) w'
 unfold FofC at KO;have KH:=zz (x0d 15 P X B E U cp cx cb ce cu pl);obtain⟨HBX,HN⟩:=oneV w [iI 15,oS,oZ,.slice P 0 cp,oZ,oZ,oS,oS,.slice X 0 cx,.slice B 0 cb,.slice E 0 ce,.slice U 0 cu,pl] (by simp) 41;go_enter Tryz.func36,Tryz.ntmps36;go_wp2_with (go_at_call 55;go_must ((with_reducible refine(KO.out _).mono ?_);rintro e w1 ⟨rfl,rfl⟩));obtain⟨V,hV⟩:∃ V,V=(w.alloc (.cells #[iI 15,oS,oZ,.slice P 0 cp,oZ,oZ,oS,oS,.slice X 0 cx,.slice B 0 cb,.slice E 0 ce,.slice U 0 cu,pl] 41)):=⟨_,rfl⟩;rw[←hV] at HBX HN ⊢;clear hV;have e1:bits BinOp.and IntKind.i64 0 1=0:=by rfl
 have e2:bits BinOp.and IntKind.i64 0 2=0:=by rfl
 have e4:bits BinOp.and IntKind.i64 0 4=0:=by rfl
 have e8:bits BinOp.and IntKind.i64 0 8=0:=by rfl
 have e16:bits BinOp.and IntKind.i64 0 16=0:=by rfl
 have e32:bits BinOp.and IntKind.i64 0 32=0:=by rfl
 have e64:bits BinOp.and IntKind.i64 0 64=0:=by rfl
 have hne:=z1i V;obtain⟨p0,p1,p2,p3,p4,p5,p6,p7,p8,p9,p10,p11,p12⟩:=bw13 (HBX.out _ bR);simp only[List.append_eq,List.cons_append,List.nil_append];refine z0i (by kernel_rfl) (by kernel_rfl) ?_
 repeat (go_big_quiet_step (first | (go_at_call 77;with_reducible exact z2k KH.out _) | fail))
 refine wpQuiet_nil ?_;intro w5 hw5;obtain⟨m5,rfl⟩:=hw5;have B5:=zz m5.2;clear p0 p1 p2 p3 p4 p5 p6 p7 p8 p9 p10 p11 p12;go_wp2;go_ret;exact⟨rfl,HN.out.trans (B5.out.mono HN.out.size)⟩
theorem x4q (P X B E U:OA) (cp cx cb ce cu:Nat) (pl:Int) (o:Int) (w:World):
  Cz 36 #[.agg #[iI 16,oS,oZ,.slice P 0 cp,oZ,oZ,oS,oS,.slice X 0 cx,.slice B 0 cb,.slice E 0 ce,.slice U 0 cu,pl],o] w fun e w'=>e= .returned true∧Below w.heap.size w w':=by
 have KO:FofC 16 ⟨#[101,120,105,116]⟩ 0:=zz fun w'=>z02 16 (by omega) w'
 unfold FofC at KO;have KH:=zz (x0d 16 P X B E U cp cx cb ce cu pl);obtain⟨HBX,HN⟩:=oneV w [iI 16,oS,oZ,.slice P 0 cp,oZ,oZ,oS,oS,.slice X 0 cx,.slice B 0 cb,.slice E 0 ce,.slice U 0 cu,pl] (by simp) 41;go_enter Tryz.func36,Tryz.ntmps36;go_wp2_with (go_at_call 55;go_must ((with_reducible refine(KO.out _).mono ?_);rintro e w1 ⟨rfl,rfl⟩));obtain⟨V,hV⟩:∃ V,V=(w.alloc (.cells #[iI 16,oS,oZ,.slice P 0 cp,oZ,oZ,oS,oS,.slice X 0 cx,.slice B 0 cb,.slice E 0 ce,.slice U 0 cu,pl] 41)):=⟨_,rfl⟩;rw[←hV] at HBX HN ⊢;clear hV;have e1:bits BinOp.and IntKind.i64 0 1=0:=by rfl
 have e2:bits BinOp.and IntKind.i64 0 2=0:=by rfl
 have e4:bits BinOp.and IntKind.i64 0 4=0:=by rfl
 have e8:bits BinOp.and IntKind.i64 0 8=0:=by rfl
 have e16:bits BinOp.and IntKind.i64 0 16=0:=by rfl
 have e32:bits BinOp.and IntKind.i64 0 32=0:=by rfl
 have e64:bits BinOp.and IntKind.i64 0 64=0:=by rfl
 have hne:=z1i V;obtain⟨p0,p1,p2,p3,p4,p5,p6,p7,p8,p9,p10,p11,p12⟩:=bw13 (HBX.out _ bR);simp only[List.append_eq,List.cons_append,List.nil_append];refine z0i (by kernel_rfl) (by kernel_rfl) ?_
 repeat (go_big_quiet_step (first | (go_at_call 77;with_reducible exact z2k KH.out _) | fail))
 refine wpQuiet_nil ?_;intro w5 hw5;obtain⟨m5,rfl⟩:=hw5;have B5:=zz m5.2;clear p0 p1 p2 p3 p4 p5 p6 p7 p8 p9 p10 p11 p12;go_wp2;go_ret;exact⟨rfl,HN.out.trans (B5.out.mono HN.out.size)⟩
end Go.Proofs.YtngfihoempcplaaGreatDoor
