import Derived.Test.YtngfihoempcplaaGreatDoorCf
import Derived.Test.YtngfihoempcplaaGreatDoorSm4
import Derived.Test.YtngfihoempcplaaGreatDoorSq1
namespace Go.Proofs.YtngfihoempcplaaGreatDoor
open Go Go.RowKit
set_option maxRecDepth 100000
set_option maxHeartbeats 8000000
theorem x4x (S:BA) (np:Nat) (P X B E U:OA) (cp cx cb ce cu:Nat) (pl:Int) (o:Int) (w:World) (KN:Hid (∀ w',Cz 78 #[S] w' fun e w2=>e= .returned true∧w'=w2)) (KQ:Hid (∀ w',Below w.heap.size w w'→Cz 80 #[.slice P np cp] w' fun e w2=>e= .returned true∧Below w'.heap.size w' w2)):
  Cz 36 #[.agg #[iI 1,S,oZ,.slice P np cp,oZ,oZ,oS,oS,.slice X 0 cx,.slice B 0 cb,.slice E 0 ce,.slice U 0 cu,pl],o] w fun e w'=>e= .returned true∧Below w.heap.size w w':=by
 have KO:FofC 1 ⟨#[115,101,116]⟩ 5:=zz fun w'=>z02 1 (by omega) w'
 unfold FofC at KO;have KH:=zz (x4k 1 S np P X B E U cp cx cb ce cu pl);obtain⟨HBX,HN⟩:=oneV w [iI 1,S,oZ,.slice P np cp,oZ,oZ,oS,oS,.slice X 0 cx,.slice B 0 cb,.slice E 0 ce,.slice U 0 cu,pl] (by simp) 41;go_enter Tryz.func36,Tryz.ntmps36;go_wp2_with (go_at_call 55;go_must ((with_reducible refine(KO.out _).mono ?_);rintro e w1 ⟨rfl,rfl⟩));obtain⟨V,hV⟩:∃ V,V=(w.alloc (.cells #[iI 1,S,oZ,.slice P np cp,oZ,oZ,oS,oS,.slice X 0 cx,.slice B 0 cb,.slice E 0 ce,.slice U 0 cu,pl] 41)):=⟨_,rfl⟩;rw[←hV] at HBX HN ⊢;clear hV;have e1:bits BinOp.and IntKind.i64 5 1=1:=by rfl
 have e2:bits BinOp.and IntKind.i64 5 2=0:=by rfl
 have e4:bits BinOp.and IntKind.i64 5 4=4:=by rfl
 have e8:bits BinOp.and IntKind.i64 5 8=0:=by rfl
 have e16:bits BinOp.and IntKind.i64 5 16=0:=by rfl
 have e32:bits BinOp.and IntKind.i64 5 32=0:=by rfl
 have e64:bits BinOp.and IntKind.i64 5 64=0:=by rfl
 have hne:=z1i V;obtain⟨p0,p1,p2,p3,p4,p5,p6,p7,p8,p9,p10,p11,p12⟩:=bw13 (HBX.out _ bR);simp only[List.append_eq,List.cons_append,List.nil_append];refine z0i (by kernel_rfl) (by kernel_rfl) ?_
 repeat (go_big_quiet_step (first | (go_at_call 77;with_reducible exact z2k KH.out _) | (go_at_call 78;with_reducible exact z3i KN.out _) | (go_at_call 80;with_reducible exact z1r KQ.out HN.out _) | fail))
 refine wpQuiet_nil ?_;intro w5 hw5;obtain⟨m5,rfl⟩:=hw5;have B5:=zz m5.2;clear p0 p1 p2 p3 p4 p5 p6 p7 p8 p9 p10 p11 p12;go_wp2;go_ret;exact⟨rfl,HN.out.trans (B5.out.mono HN.out.size)⟩
theorem x41 (S:BA) (xk xn:Int) (X1 X2:BA) (nx:Nat) (P X B E U:OA) (cp cx cb ce cu:Nat) (pl:Int) (o:Int) (w:World) (KN:Hid (∀ w',Cz 78 #[S] w' fun e w2=>e= .returned true∧w'=w2)) (KX:Hid (∀ w',Below w.heap.size w w'→Cz 81 #[.agg #[xk,xn,X1,X2,.slice X nx cx]] w' fun e w2=>e= .returned true∧Below w'.heap.size w' w2)):
  Cz 36 #[.agg #[iI 2,S,oZ,.slice P 0 cp,xk,xn,X1,X2,.slice X nx cx,.slice B 0 cb,.slice E 0 ce,.slice U 0 cu,pl],o] w fun e w'=>e= .returned true∧Below w.heap.size w w':=by
 have KO:FofC 2 ⟨#[108,101,116]⟩ 9:=zz fun w'=>z02 2 (by omega) w'
 unfold FofC at KO;have KH:=zz (x3d 2 S xk xn X1 X2 nx P X B E U cp cx cb ce cu pl);obtain⟨HBX,HN⟩:=oneV w [iI 2,S,oZ,.slice P 0 cp,xk,xn,X1,X2,.slice X nx cx,.slice B 0 cb,.slice E 0 ce,.slice U 0 cu,pl] (by simp) 41;go_enter Tryz.func36,Tryz.ntmps36;go_wp2_with (go_at_call 55;go_must ((with_reducible refine(KO.out _).mono ?_);rintro e w1 ⟨rfl,rfl⟩));obtain⟨V,hV⟩:∃ V,V=(w.alloc (.cells #[iI 2,S,oZ,.slice P 0 cp,xk,xn,X1,X2,.slice X nx cx,.slice B 0 cb,.slice E 0 ce,.slice U 0 cu,pl] 41)):=⟨_,rfl⟩;rw[←hV] at HBX HN ⊢;clear hV;have e1:bits BinOp.and IntKind.i64 9 1=1:=by rfl
 have e2:bits BinOp.and IntKind.i64 9 2=0:=by rfl
 have e4:bits BinOp.and IntKind.i64 9 4=0:=by rfl
 have e8:bits BinOp.and IntKind.i64 9 8=8:=by rfl
 have e16:bits BinOp.and IntKind.i64 9 16=0:=by rfl
 have e32:bits BinOp.and IntKind.i64 9 32=0:=by rfl
 have e64:bits BinOp.and IntKind.i64 9 64=0:=by rfl
 have hne:=z1i V;obtain⟨p0,p1,p2,p3,p4,p5,p6,p7,p8,p9,p10,p11,p12⟩:=bw13 (HBX.out _ bR);simp only[List.append_eq,List.cons_append,List.nil_append];refine z0i (by kernel_rfl) (by kernel_rfl) ?_
 repeat (go_big_quiet_step (first | (go_at_call 77;with_reducible exact z2k KH.out _) | (go_at_call 78;with_reducible exact z3i KN.out _) | (go_at_call 81;with_reducible exact z1r KX.out HN.out _) | fail))
 refine wpQuiet_nil ?_;intro w5 hw5;obtain⟨m5,rfl⟩:=hw5;have B5:=zz m5.2;clear p0 p1 p2 p3 p4 p5 p6 p7 p8 p9 p10 p11 p12;go_wp2;go_ret;exact⟨rfl,HN.out.trans (B5.out.mono HN.out.size)⟩
theorem x48 (S:BA) (n:Int) (P X B E U:OA) (cp cx cb ce cu:Nat) (pl:Int) (o:Int) (w:World) (KN:Hid (∀ w',Cz 78 #[S] w' fun e w2=>e= .returned true∧w'=w2)) (hz:(-9223372036854775807:Int)≤n):
  Cz 36 #[.agg #[iI 3,S,n,.slice P 0 cp,oZ,oZ,oS,oS,.slice X 0 cx,.slice B 0 cb,.slice E 0 ce,.slice U 0 cu,pl],o] w fun e w'=>e= .returned true∧Below w.heap.size w w':=by
 have KO:FofC 3 ⟨#[105,110,99,114]⟩ 3:=zz fun w'=>z02 3 (by omega) w'
 unfold FofC at KO;have KH:=zz (x3g 3 S n P X B E U cp cx cb ce cu pl);have KL:Hid (∀ w',Cz 79 #[iI 3] w' fun e w2=>e= .returned (.int .i64 (-9223372036854775807))∧w'=w2):=zz fun w'=>z4i 3 (by omega) w'
 obtain⟨HBX,HN⟩:=oneV w [iI 3,S,n,.slice P 0 cp,oZ,oZ,oS,oS,.slice X 0 cx,.slice B 0 cb,.slice E 0 ce,.slice U 0 cu,pl] (by simp) 41;go_enter Tryz.func36,Tryz.ntmps36;go_wp2_with (go_at_call 55;go_must ((with_reducible refine(KO.out _).mono ?_);rintro e w1 ⟨rfl,rfl⟩));obtain⟨V,hV⟩:∃ V,V=(w.alloc (.cells #[iI 3,S,n,.slice P 0 cp,oZ,oZ,oS,oS,.slice X 0 cx,.slice B 0 cb,.slice E 0 ce,.slice U 0 cu,pl] 41)):=⟨_,rfl⟩;rw[←hV] at HBX HN ⊢;clear hV;have e1:bits BinOp.and IntKind.i64 3 1=1:=by rfl
 have e2:bits BinOp.and IntKind.i64 3 2=2:=by rfl
 have e4:bits BinOp.and IntKind.i64 3 4=0:=by rfl
 have e8:bits BinOp.and IntKind.i64 3 8=0:=by rfl
 have e16:bits BinOp.and IntKind.i64 3 16=0:=by rfl
 have e32:bits BinOp.and IntKind.i64 3 32=0:=by rfl
 have e64:bits BinOp.and IntKind.i64 3 64=0:=by rfl
 have hne:=z1i V;obtain⟨p0,p1,p2,p3,p4,p5,p6,p7,p8,p9,p10,p11,p12⟩:=bw13 (HBX.out _ bR);simp only[List.append_eq,List.cons_append,List.nil_append];refine z0i (by kernel_rfl) (by kernel_rfl) ?_
 repeat (go_big_quiet_step (first | (go_at_call 77;with_reducible exact z2k KH.out _) | (go_at_call 78;with_reducible exact z3i KN.out _) | (go_at_call 79;with_reducible exact z3i KL.out _) | fail))
 refine wpQuiet_nil ?_;intro w5 hw5;obtain⟨m5,rfl⟩:=hw5;have B5:=zz m5.2;clear p0 p1 p2 p3 p4 p5 p6 p7 p8 p9 p10 p11 p12;go_wp2;go_ret;exact⟨rfl,HN.out.trans (B5.out.mono HN.out.size)⟩
theorem x5d (xk xn:Int) (X1 X2:BA) (nx:Nat) (nb:Nat) (ne:Nat) (P X B E U:OA) (cp cx cb ce cu:Nat) (pl:Int) (o:Int) (w:World) (KX:Hid (∀ w',Below w.heap.size w w'→Cz 81 #[.agg #[xk,xn,X1,X2,.slice X nx cx]] w' fun e w2=>e= .returned true∧Below w'.heap.size w' w2)) (KB:Hid (∀ w',Below w.heap.size w w'→Cz 82 #[.slice B nb cb,o] w' fun e w2=>e= .returned true∧Below w'.heap.size w' w2)) (KE:Hid (∀ w',Below w.heap.size w w'→Cz 82 #[.slice E ne ce,o] w' fun e w2=>e= .returned true∧Below w'.heap.size w' w2)):
  Cz 36 #[.agg #[iI 4,oS,oZ,.slice P 0 cp,xk,xn,X1,X2,.slice X nx cx,.slice B nb cb,.slice E ne ce,.slice U 0 cu,pl],o] w fun e w'=>e= .returned true∧Below w.heap.size w w':=by
 have KO:FofC 4 ⟨#[105,102]⟩ 56:=zz fun w'=>z02 4 (by omega) w'
 unfold FofC at KO;have KH:=zz (x2u 4 xk xn X1 X2 nx nb ne P X B E U cp cx cb ce cu pl);obtain⟨HBX,HN⟩:=oneV w [iI 4,oS,oZ,.slice P 0 cp,xk,xn,X1,X2,.slice X nx cx,.slice B nb cb,.slice E ne ce,.slice U 0 cu,pl] (by simp) 41;go_enter Tryz.func36,Tryz.ntmps36;go_wp2_with (go_at_call 55;go_must ((with_reducible refine(KO.out _).mono ?_);rintro e w1 ⟨rfl,rfl⟩));obtain⟨V,hV⟩:∃ V,V=(w.alloc (.cells #[iI 4,oS,oZ,.slice P 0 cp,xk,xn,X1,X2,.slice X nx cx,.slice B nb cb,.slice E ne ce,.slice U 0 cu,pl] 41)):=⟨_,rfl⟩;rw[←hV] at HBX HN ⊢;clear hV;have e1:bits BinOp.and IntKind.i64 56 1=0:=by rfl
 have e2:bits BinOp.and IntKind.i64 56 2=0:=by rfl
 have e4:bits BinOp.and IntKind.i64 56 4=0:=by rfl
 have e8:bits BinOp.and IntKind.i64 56 8=8:=by rfl
 have e16:bits BinOp.and IntKind.i64 56 16=16:=by rfl
 have e32:bits BinOp.and IntKind.i64 56 32=32:=by rfl
 have e64:bits BinOp.and IntKind.i64 56 64=0:=by rfl
 have hne:=z1i V;obtain⟨p0,p1,p2,p3,p4,p5,p6,p7,p8,p9,p10,p11,p12⟩:=bw13 (HBX.out _ bR);simp only[List.append_eq,List.cons_append,List.nil_append];refine z0i (by kernel_rfl) (by kernel_rfl) ?_
 repeat (go_big_quiet_step (first | (go_at_call 77;with_reducible exact z2k KH.out _) | (go_at_call 81;with_reducible exact z1r KX.out HN.out _) | (go_at_call 82;with_reducible exact z1r KB.out HN.out _) | (go_at_call 82;with_reducible exact z1r KE.out HN.out _) | fail))
 refine wpQuiet_nil ?_;intro w5 hw5;obtain⟨m5,rfl⟩:=hw5;have B5:=zz m5.2;clear p0 p1 p2 p3 p4 p5 p6 p7 p8 p9 p10 p11 p12;go_wp2;go_ret;exact⟨rfl,HN.out.trans (B5.out.mono HN.out.size)⟩
theorem x5c (xk xn:Int) (X1 X2:BA) (nx:Nat) (nb:Nat) (P X B E U:OA) (cp cx cb ce cu:Nat) (pl:Int) (o:Int) (w:World) (KX:Hid (∀ w',Below w.heap.size w w'→Cz 81 #[.agg #[xk,xn,X1,X2,.slice X nx cx]] w' fun e w2=>e= .returned true∧Below w'.heap.size w' w2)) (KB:Hid (∀ w',Below w.heap.size w w'→Cz 82 #[.slice B nb cb,o] w' fun e w2=>e= .returned true∧Below w'.heap.size w' w2)):
  Cz 36 #[.agg #[iI 5,oS,oZ,.slice P 0 cp,xk,xn,X1,X2,.slice X nx cx,.slice B nb cb,.slice E 0 ce,.slice U 0 cu,pl],o] w fun e w'=>e= .returned true∧Below w.heap.size w w':=by
 have KO:FofC 5 ⟨#[119,104,105,108,101]⟩ 24:=zz fun w'=>z02 5 (by omega) w'
 unfold FofC at KO;have KH:=zz (x1n 5 xk xn X1 X2 nx nb P X B E U cp cx cb ce cu pl);obtain⟨HBX,HN⟩:=oneV w [iI 5,oS,oZ,.slice P 0 cp,xk,xn,X1,X2,.slice X nx cx,.slice B nb cb,.slice E 0 ce,.slice U 0 cu,pl] (by simp) 41;go_enter Tryz.func36,Tryz.ntmps36;go_wp2_with (go_at_call 55;go_must ((with_reducible refine(KO.out _).mono ?_);rintro e w1 ⟨rfl,rfl⟩));obtain⟨V,hV⟩:∃ V,V=(w.alloc (.cells #[iI 5,oS,oZ,.slice P 0 cp,xk,xn,X1,X2,.slice X nx cx,.slice B nb cb,.slice E 0 ce,.slice U 0 cu,pl] 41)):=⟨_,rfl⟩;rw[←hV] at HBX HN ⊢;clear hV;have e1:bits BinOp.and IntKind.i64 24 1=0:=by rfl
 have e2:bits BinOp.and IntKind.i64 24 2=0:=by rfl
 have e4:bits BinOp.and IntKind.i64 24 4=0:=by rfl
 have e8:bits BinOp.and IntKind.i64 24 8=8:=by rfl
 have e16:bits BinOp.and IntKind.i64 24 16=16:=by rfl
 have e32:bits BinOp.and IntKind.i64 24 32=0:=by rfl
 have e64:bits BinOp.and IntKind.i64 24 64=0:=by rfl
 have hne:=z1i V;obtain⟨p0,p1,p2,p3,p4,p5,p6,p7,p8,p9,p10,p11,p12⟩:=bw13 (HBX.out _ bR);simp only[List.append_eq,List.cons_append,List.nil_append];refine z0i (by kernel_rfl) (by kernel_rfl) ?_
 repeat (go_big_quiet_step (first | (go_at_call 77;with_reducible exact z2k KH.out _) | (go_at_call 81;with_reducible exact z1r KX.out HN.out _) | (go_at_call 82;with_reducible exact z1r KB.out HN.out _) | fail))
 refine wpQuiet_nil ?_;intro w5 hw5;obtain⟨m5,rfl⟩:=hw5;have B5:=zz m5.2;clear p0 p1 p2 p3 p4 p5 p6 p7 p8 p9 p10 p11 p12;go_wp2;go_ret;exact⟨rfl,HN.out.trans (B5.out.mono HN.out.size)⟩
theorem x47 (S:BA) (nb:Nat) (P X B E U:OA) (cp cx cb ce cu:Nat) (pl:Int) (o:Int) (w:World) (KN:Hid (∀ w',Cz 78 #[S] w' fun e w2=>e= .returned true∧w'=w2)) (KB:Hid (∀ w',Below w.heap.size w w'→Cz 82 #[.slice B nb cb,o] w' fun e w2=>e= .returned true∧Below w'.heap.size w' w2)):
  Cz 36 #[.agg #[iI 6,S,oZ,.slice P 0 cp,oZ,oZ,oS,oS,.slice X 0 cx,.slice B nb cb,.slice E 0 ce,.slice U 0 cu,pl],o] w fun e w'=>e= .returned true∧Below w.heap.size w w':=by
 have KO:FofC 6 ⟨#[112,114,111,99]⟩ 17:=zz fun w'=>z02 6 (by omega) w'
 unfold FofC at KO;have KH:=zz (x1u 6 S nb P X B E U cp cx cb ce cu pl);obtain⟨HBX,HN⟩:=oneV w [iI 6,S,oZ,.slice P 0 cp,oZ,oZ,oS,oS,.slice X 0 cx,.slice B nb cb,.slice E 0 ce,.slice U 0 cu,pl] (by simp) 41;go_enter Tryz.func36,Tryz.ntmps36;go_wp2_with (go_at_call 55;go_must ((with_reducible refine(KO.out _).mono ?_);rintro e w1 ⟨rfl,rfl⟩));obtain⟨V,hV⟩:∃ V,V=(w.alloc (.cells #[iI 6,S,oZ,.slice P 0 cp,oZ,oZ,oS,oS,.slice X 0 cx,.slice B nb cb,.slice E 0 ce,.slice U 0 cu,pl] 41)):=⟨_,rfl⟩;rw[←hV] at HBX HN ⊢;clear hV;have e1:bits BinOp.and IntKind.i64 17 1=1:=by rfl
 have e2:bits BinOp.and IntKind.i64 17 2=0:=by rfl
 have e4:bits BinOp.and IntKind.i64 17 4=0:=by rfl
 have e8:bits BinOp.and IntKind.i64 17 8=0:=by rfl
 have e16:bits BinOp.and IntKind.i64 17 16=16:=by rfl
 have e32:bits BinOp.and IntKind.i64 17 32=0:=by rfl
 have e64:bits BinOp.and IntKind.i64 17 64=0:=by rfl
 have hne:=z1i V;obtain⟨p0,p1,p2,p3,p4,p5,p6,p7,p8,p9,p10,p11,p12⟩:=bw13 (HBX.out _ bR);simp only[List.append_eq,List.cons_append,List.nil_append];refine z0i (by kernel_rfl) (by kernel_rfl) ?_
 repeat (go_big_quiet_step (first | (go_at_call 77;with_reducible exact z2k KH.out _) | (go_at_call 78;with_reducible exact z3i KN.out _) | (go_at_call 82;with_reducible exact z1r KB.out HN.out _) | fail))
 refine wpQuiet_nil ?_;intro w5 hw5;obtain⟨m5,rfl⟩:=hw5;have B5:=zz m5.2;clear p0 p1 p2 p3 p4 p5 p6 p7 p8 p9 p10 p11 p12;go_wp2;go_ret;exact⟨rfl,HN.out.trans (B5.out.mono HN.out.size)⟩
theorem x5m (S:BA) (P X B E U:OA) (cp cx cb ce cu:Nat) (pl:Int) (o:Int) (w:World) (KN:Hid (∀ w',Cz 78 #[S] w' fun e w2=>e= .returned true∧w'=w2)):
  Cz 36 #[.agg #[iI 7,S,oZ,.slice P 0 cp,oZ,oZ,oS,oS,.slice X 0 cx,.slice B 0 cb,.slice E 0 ce,.slice U 0 cu,pl],o] w fun e w'=>e= .returned true∧Below w.heap.size w w':=by
 have KO:FofC 7 ⟨#[99,97,108,108]⟩ 1:=zz fun w'=>z02 7 (by omega) w'
 unfold FofC at KO;have KH:=zz (x3i 7 S P X B E U cp cx cb ce cu pl);obtain⟨HBX,HN⟩:=oneV w [iI 7,S,oZ,.slice P 0 cp,oZ,oZ,oS,oS,.slice X 0 cx,.slice B 0 cb,.slice E 0 ce,.slice U 0 cu,pl] (by simp) 41;go_enter Tryz.func36,Tryz.ntmps36;go_wp2_with (go_at_call 55;go_must ((with_reducible refine(KO.out _).mono ?_);rintro e w1 ⟨rfl,rfl⟩));obtain⟨V,hV⟩:∃ V,V=(w.alloc (.cells #[iI 7,S,oZ,.slice P 0 cp,oZ,oZ,oS,oS,.slice X 0 cx,.slice B 0 cb,.slice E 0 ce,.slice U 0 cu,pl] 41)):=⟨_,rfl⟩;rw[←hV] at HBX HN ⊢;clear hV;have e1:bits BinOp.and IntKind.i64 1 1=1:=by rfl
 have e2:bits BinOp.and IntKind.i64 1 2=0:=by rfl
 have e4:bits BinOp.and IntKind.i64 1 4=0:=by rfl
 have e8:bits BinOp.and IntKind.i64 1 8=0:=by rfl
 have e16:bits BinOp.and IntKind.i64 1 16=0:=by rfl
 have e32:bits BinOp.and IntKind.i64 1 32=0:=by rfl
 have e64:bits BinOp.and IntKind.i64 1 64=0:=by rfl
 have hne:=z1i V;obtain⟨p0,p1,p2,p3,p4,p5,p6,p7,p8,p9,p10,p11,p12⟩:=bw13 (HBX.out _ bR);simp only[List.append_eq,List.cons_append,List.nil_append];refine z0i (by kernel_rfl) (by kernel_rfl) ?_
 repeat (go_big_quiet_step (first | (go_at_call 77;with_reducible exact z2k KH.out _) | (go_at_call 78;with_reducible exact z3i KN.out _) | fail))
 refine wpQuiet_nil ?_;intro w5 hw5;obtain⟨m5,rfl⟩:=hw5;have B5:=zz m5.2;clear p0 p1 p2 p3 p4 p5 p6 p7 p8 p9 p10 p11 p12;go_wp2;go_ret;exact⟨rfl,HN.out.trans (B5.out.mono HN.out.size)⟩
theorem x46 (n:Int) (P X B E U:OA) (cp cx cb ce cu:Nat) (pl:Int) (o:Int) (w:World) (hz:(0:Int)≤n):
  Cz 36 #[.agg #[iI 8,oS,n,.slice P 0 cp,oZ,oZ,oS,oS,.slice X 0 cx,.slice B 0 cb,.slice E 0 ce,.slice U 0 cu,pl],o] w fun e w'=>e= .returned true∧Below w.heap.size w w':=by
 have KO:FofC 8 ⟨#[115,112,97,119,110]⟩ 2:=zz fun w'=>z02 8 (by omega) w'
 unfold FofC at KO;have KH:=zz (y29 8 n P X B E U cp cx cb ce cu pl);have KL:Hid (∀ w',Cz 79 #[iI 8] w' fun e w2=>e= .returned (.int .i64 (0))∧w'=w2):=zz fun w'=>z4i 8 (by omega) w'
 obtain⟨HBX,HN⟩:=oneV w [iI 8,oS,n,.slice P 0 cp,oZ,oZ,oS,oS,.slice X 0 cx,.slice B 0 cb,.slice E 0 ce,.slice U 0 cu,pl] (by simp) 41;go_enter Tryz.func36,Tryz.ntmps36;go_wp2_with (go_at_call 55;go_must ((with_reducible refine(KO.out _).mono ?_);rintro e w1 ⟨rfl,rfl⟩));obtain⟨V,hV⟩:∃ V,V=(w.alloc (.cells #[iI 8,oS,n,.slice P 0 cp,oZ,oZ,oS,oS,.slice X 0 cx,.slice B 0 cb,.slice E 0 ce,.slice U 0 cu,pl] 41)):=⟨_,rfl⟩;rw[←hV] at HBX HN ⊢;clear hV;have e1:bits BinOp.and IntKind.i64 2 1=0:=by rfl
 have e2:bits BinOp.and IntKind.i64 2 2=2:=by rfl
 have e4:bits BinOp.and IntKind.i64 2 4=0:=by rfl
 have e8:bits BinOp.and IntKind.i64 2 8=0:=by rfl
 have e16:bits BinOp.and IntKind.i64 2 16=0:=by rfl
 have e32:bits BinOp.and IntKind.i64 2 32=0:=by rfl
 have e64:bits BinOp.and IntKind.i64 2 64=0:=by rfl
 have hne:=z1i V;obtain⟨p0,p1,p2,p3,p4,p5,p6,p7,p8,p9,p10,p11,p12⟩:=bw13 (HBX.out _ bR);simp only[List.append_eq,List.cons_append,List.nil_append];refine z0i (by kernel_rfl) (by kernel_rfl) ?_
 repeat (go_big_quiet_step (first | (go_at_call 77;with_reducible exact z2k KH.out _) | (go_at_call 79;with_reducible exact z3i KL.out _) | fail))
 refine wpQuiet_nil ?_;intro w5 hw5;obtain⟨m5,rfl⟩:=hw5;have B5:=zz m5.2;clear p0 p1 p2 p3 p4 p5 p6 p7 p8 p9 p10 p11 p12;go_wp2;go_ret;exact⟨rfl,HN.out.trans (B5.out.mono HN.out.size)⟩
end Go.Proofs.YtngfihoempcplaaGreatDoor
