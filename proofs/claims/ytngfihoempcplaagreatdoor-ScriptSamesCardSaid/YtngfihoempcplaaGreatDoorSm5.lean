import Derived.Test.YtngfihoempcplaaGreatDoorSm1
import Derived.Test.YtngfihoempcplaaGreatDoorSq1
import Derived.Test.YtngfihoempcplaaGreatDoorEx30
namespace Go.Proofs.YtngfihoempcplaaGreatDoor
open Go Go.RowKit
set_option maxRecDepth 100000
set_option maxHeartbeats 8000000
theorem sisname_any (S:ByteArray) (hs:S.size≤4611686018427387904) (hn:isName S.data.toList=true) (h0:0<S.size) (hd:S[0].toNat<48∨57<S[0].toNat) (w:World):
  Calls Tryz.prog 78 #[.string S] w fun e w'=>e= .returned (.bool true)∧w=w':=by
 have K:Hid (∀ w',Calls Tryz.prog 99 #[.string S] w' fun e w2=>e= .returned (.bool true)∧w'=w2):=Lib.hid fun w'=>by rw[←hn];exact name_any S hs w'
 clear hn;by_cases c:S[0].toNat<48
 ·have c1:¬ 48≤S[0].toNat:=by omega
  clear hd;go_enter Tryz.func78,Tryz.ntmps78;go_wp2_with (go_at_call 99;((with_reducible refine(K.out _).mono ?_));rintro e w' ⟨rfl,rfl⟩);go_ret;exact⟨rfl,rfl⟩
 ·have c1:48≤S[0].toNat:=by omega
  have c2:¬ S[0].toNat≤57:=by omega
  clear hd c;go_enter Tryz.func78,Tryz.ntmps78;go_wp2_with (go_at_call 99;((with_reducible refine(K.out _).mono ?_));rintro e w' ⟨rfl,rfl⟩);go_ret;exact⟨ret_bool (by simp;omega),rfl⟩
def leastK:Nat→Int | 3=> -9223372036854775807 | 11=> -1 | _=>0
theorem sleast_any (j:Nat) (hj:j=3∨j=8∨j=9∨j=11) (w:World):Calls Tryz.prog 79 #[.int .i64 j] w fun e w'=>e= .returned (.int .i64 (leastK j))∧w=w':=by
 rcases hj with rfl | rfl | rfl | rfl
 all_goals
  go_enter Tryz.func79,Tryz.ntmps79;go_wp2;go_ret;exact⟨rfl,rfl⟩
def okRu (k q pk:Int) (pt:Bs):Prop:=(k=1∧ -1≤q∧(pk=0∨pk=1∨pk=2))∨(k=3∧ -1≤q∧pk=0∧pt=[])∨((k=2∨k=4)∧q= -1∧pk=0∧pt=[])
theorem smayrule_any (k q pk:Int) (pt:Bs) (A:Option Addr) (n c:Nat) (pl:Int) (h:okRu k q pk pt) (w:World):
  Calls Tryz.prog 115 #[.agg #[.int .i64 k,.int .i64 q,.int .i64 pk,.string ⟨pt.toArray⟩,.slice A n c,.int .i64 pl]] w fun e w'=>e= .returned (.bool true)∧Below w.heap.size w w':=by
 have HN:Hid (∀ o,Below w.heap.size w (w.alloc o)):=Lib.hid (one_boxX w);have heq:=fun W=>eqlP_any 0 0 ⟨#[]⟩ ⟨#[]⟩ W
 have e0:((0:Int)==0 && (⟨#[]⟩:ByteArray).toList==(⟨#[]⟩:ByteArray).toList)=true:=by simp
 rw[e0] at heq
 rcases h with ⟨rfl,h1,rfl | rfl | rfl⟩ | ⟨rfl,h1,rfl,rfl⟩ | ⟨rfl | rfl,rfl,rfl,rfl⟩
 ·have K:Hid (∀ w',Calls Tryz.prog 138 #[.int .i64 0] w' fun e w2=>e= .returned (.string ⟨#[101,120]⟩)∧w'=w2):=Lib.hid fun w'=>sflag_any 0 (by omega) w'
  generalize (⟨pt.toArray⟩:ByteArray)=S;go_enter Tryz.func115,Tryz.ntmps115;go_wp2_with (go_at_call 138;((with_reducible refine(K.out _).mono ?_));rintro e w' ⟨rfl,rfl⟩);go_ret;exact⟨rfl,HN.out _⟩
 ·have K:Hid (∀ w',Calls Tryz.prog 138 #[.int .i64 1] w' fun e w2=>e= .returned (.string ⟨#[103,108]⟩)∧w'=w2):=Lib.hid fun w'=>sflag_any 1 (by omega) w'
  generalize (⟨pt.toArray⟩:ByteArray)=S;go_enter Tryz.func115,Tryz.ntmps115;go_wp2_with (go_at_call 138;((with_reducible refine(K.out _).mono ?_));rintro e w' ⟨rfl,rfl⟩);go_ret;exact⟨rfl,HN.out _⟩
 ·have K:Hid (∀ w',Calls Tryz.prog 138 #[.int .i64 2] w' fun e w2=>e= .returned (.string ⟨#[114,101]⟩)∧w'=w2):=Lib.hid fun w'=>sflag_any 2 (by omega) w'
  generalize (⟨pt.toArray⟩:ByteArray)=S;go_enter Tryz.func115,Tryz.ntmps115;go_wp2_with (go_at_call 138;((with_reducible refine(K.out _).mono ?_));rintro e w' ⟨rfl,rfl⟩);go_ret;exact⟨rfl,HN.out _⟩
 all_goals
  go_enter Tryz.func115,Tryz.ntmps115;go_wp2;go_ret;exact⟨rfl,HN.out _⟩
theorem mayb_1 (S:ByteArray) (np:Nat) (P X B E U:Option Addr) (cp cx cb ce cu:Nat) (pl:Int) (o:Int) (w:World) (KN:Hid (∀ w',Calls Tryz.prog 78 #[.string S] w' fun e w2=>e= .returned (.bool true)∧w'=w2)) (KQ:Hid (∀ w',Below w.heap.size w w'→Calls Tryz.prog 80 #[.slice P np cp] w' fun e w2=>e= .returned (.bool true)∧Below w'.heap.size w' w2)):
  Calls Tryz.prog 36 #[.agg #[.int .i64 1,.string S,.int .i64 0,.slice P np cp,.int .i64 0,.int .i64 0,.string ⟨#[]⟩,.string ⟨#[]⟩,.slice X 0 cx,.slice B 0 cb,.slice E 0 ce,.slice U 0 cu,.int .i64 pl],.int .i64 o] w fun e w'=>e= .returned (.bool true)∧Below w.heap.size w w':=by
 have KO:FofC 1 ⟨#[115,101,116]⟩ 5:=Lib.hid fun w'=>sform_any 1 (by omega) w'
 unfold FofC at KO;have KH:Hid (∀ w',Calls Tryz.prog 77 #[.agg #[.int .i64 1,.string S,.int .i64 0,.slice P np cp,.int .i64 0,.int .i64 0,.string ⟨#[]⟩,.string ⟨#[]⟩,.slice X 0 cx,.slice B 0 cb,.slice E 0 ce,.slice U 0 cu,.int .i64 pl],.int .i64 5] w' fun e w2=>e= .returned (.bool true)∧Below w'.heap.size w' w2):=Lib.hid (holds_5 1 S np P X B E U cp cx cb ce cu pl);have HBX:=Lib.hid (one_box13 w [.int .i64 1,.string S,.int .i64 0,.slice P np cp,.int .i64 0,.int .i64 0,.string ⟨#[]⟩,.string ⟨#[]⟩,.slice X 0 cx,.slice B 0 cb,.slice E 0 ce,.slice U 0 cu,.int .i64 pl] (by simp) 41);have HN:Hid (Below w.heap.size w (w.alloc (.cells #[.int .i64 1,.string S,.int .i64 0,.slice P np cp,.int .i64 0,.int .i64 0,.string ⟨#[]⟩,.string ⟨#[]⟩,.slice X 0 cx,.slice B 0 cb,.slice E 0 ce,.slice U 0 cu,.int .i64 pl] 41))):=Lib.hid (one_boxX w _);go_enter Tryz.func36,Tryz.ntmps36;go_wp2_with (go_at_call 55;go_must ((with_reducible refine(KO.out _).mono ?_);rintro e w1 ⟨rfl,rfl⟩));obtain⟨V,hV⟩:∃ V,V=(w.alloc (.cells #[.int .i64 1,.string S,.int .i64 0,.slice P np cp,.int .i64 0,.int .i64 0,.string ⟨#[]⟩,.string ⟨#[]⟩,.slice X 0 cx,.slice B 0 cb,.slice E 0 ce,.slice U 0 cu,.int .i64 pl] 41)):=⟨_,rfl⟩;rw[←hV] at HBX HN ⊢;clear hV;have e1:bits BinOp.and IntKind.i64 5 1=1:=by rfl
 have e2:bits BinOp.and IntKind.i64 5 2=0:=by rfl
 have e4:bits BinOp.and IntKind.i64 5 4=4:=by rfl
 have e8:bits BinOp.and IntKind.i64 5 8=0:=by rfl
 have e16:bits BinOp.and IntKind.i64 5 16=0:=by rfl
 have e32:bits BinOp.and IntKind.i64 5 32=0:=by rfl
 have e64:bits BinOp.and IntKind.i64 5 64=0:=by rfl
 have hne:=bw_some V;obtain⟨y0,y1,y2,y3,y4,y5,y6,y7,y8,y9,y10,y11,y12⟩:=(HBX.out _ (Below.refl _ _)).all13;have p0:=bw_cell y0;have p1:=bw_cell y1;have p2:=bw_cell y2;have p3:=bw_cell y3;have p4:=bw_cell y4;have p5:=bw_cell y5;have p6:=bw_cell y6;have p7:=bw_cell y7;have p8:=bw_cell y8;have p9:=bw_cell y9;have p10:=bw_cell y10;have p11:=bw_cell y11;have p12:=bw_cell y12;clear y0 y1 y2 y3 y4 y5 y6 y7 y8 y9 y10 y11 y12;simp only[List.append_eq,List.cons_append,List.nil_append];refine wp_region_below (by kernel_rfl) (by kernel_rfl) ?_
 repeat (go_big_quiet_step (first | (go_at_call 77;with_reducible exact all_bw KH.out _) | (go_at_call 78;with_reducible exact same_bw KN.out _) | (go_at_call 80;with_reducible exact later_bw KQ.out HN.out _) | fail))
 refine wpQuiet_nil ?_;intro w5 hw5;obtain⟨m5,rfl⟩:=hw5;have B5:=Lib.hid m5.2;clear p0 p1 p2 p3 p4 p5 p6 p7 p8 p9 p10 p11 p12;go_wp2;go_ret;exact⟨rfl,HN.out.trans (B5.out.mono HN.out.size)⟩
theorem mayb_2 (S:ByteArray) (xk xn:Int) (X1 X2:ByteArray) (nx:Nat) (P X B E U:Option Addr) (cp cx cb ce cu:Nat) (pl:Int) (o:Int) (w:World) (KN:Hid (∀ w',Calls Tryz.prog 78 #[.string S] w' fun e w2=>e= .returned (.bool true)∧w'=w2)) (KX:Hid (∀ w',Below w.heap.size w w'→Calls Tryz.prog 81 #[.agg #[.int .i64 xk,.int .i64 xn,.string X1,.string X2,.slice X nx cx]] w' fun e w2=>e= .returned (.bool true)∧Below w'.heap.size w' w2)):
  Calls Tryz.prog 36 #[.agg #[.int .i64 2,.string S,.int .i64 0,.slice P 0 cp,.int .i64 xk,.int .i64 xn,.string X1,.string X2,.slice X nx cx,.slice B 0 cb,.slice E 0 ce,.slice U 0 cu,.int .i64 pl],.int .i64 o] w fun e w'=>e= .returned (.bool true)∧Below w.heap.size w w':=by
 have KO:FofC 2 ⟨#[108,101,116]⟩ 9:=Lib.hid fun w'=>sform_any 2 (by omega) w'
 unfold FofC at KO;have KH:Hid (∀ w',Calls Tryz.prog 77 #[.agg #[.int .i64 2,.string S,.int .i64 0,.slice P 0 cp,.int .i64 xk,.int .i64 xn,.string X1,.string X2,.slice X nx cx,.slice B 0 cb,.slice E 0 ce,.slice U 0 cu,.int .i64 pl],.int .i64 9] w' fun e w2=>e= .returned (.bool true)∧Below w'.heap.size w' w2):=Lib.hid (holds_9 2 S xk xn X1 X2 nx P X B E U cp cx cb ce cu pl);have HBX:=Lib.hid (one_box13 w [.int .i64 2,.string S,.int .i64 0,.slice P 0 cp,.int .i64 xk,.int .i64 xn,.string X1,.string X2,.slice X nx cx,.slice B 0 cb,.slice E 0 ce,.slice U 0 cu,.int .i64 pl] (by simp) 41);have HN:Hid (Below w.heap.size w (w.alloc (.cells #[.int .i64 2,.string S,.int .i64 0,.slice P 0 cp,.int .i64 xk,.int .i64 xn,.string X1,.string X2,.slice X nx cx,.slice B 0 cb,.slice E 0 ce,.slice U 0 cu,.int .i64 pl] 41))):=Lib.hid (one_boxX w _);go_enter Tryz.func36,Tryz.ntmps36;go_wp2_with (go_at_call 55;go_must ((with_reducible refine(KO.out _).mono ?_);rintro e w1 ⟨rfl,rfl⟩));obtain⟨V,hV⟩:∃ V,V=(w.alloc (.cells #[.int .i64 2,.string S,.int .i64 0,.slice P 0 cp,.int .i64 xk,.int .i64 xn,.string X1,.string X2,.slice X nx cx,.slice B 0 cb,.slice E 0 ce,.slice U 0 cu,.int .i64 pl] 41)):=⟨_,rfl⟩;rw[←hV] at HBX HN ⊢;clear hV;have e1:bits BinOp.and IntKind.i64 9 1=1:=by rfl
 have e2:bits BinOp.and IntKind.i64 9 2=0:=by rfl
 have e4:bits BinOp.and IntKind.i64 9 4=0:=by rfl
 have e8:bits BinOp.and IntKind.i64 9 8=8:=by rfl
 have e16:bits BinOp.and IntKind.i64 9 16=0:=by rfl
 have e32:bits BinOp.and IntKind.i64 9 32=0:=by rfl
 have e64:bits BinOp.and IntKind.i64 9 64=0:=by rfl
 have hne:=bw_some V;obtain⟨y0,y1,y2,y3,y4,y5,y6,y7,y8,y9,y10,y11,y12⟩:=(HBX.out _ (Below.refl _ _)).all13;have p0:=bw_cell y0;have p1:=bw_cell y1;have p2:=bw_cell y2;have p3:=bw_cell y3;have p4:=bw_cell y4;have p5:=bw_cell y5;have p6:=bw_cell y6;have p7:=bw_cell y7;have p8:=bw_cell y8;have p9:=bw_cell y9;have p10:=bw_cell y10;have p11:=bw_cell y11;have p12:=bw_cell y12;clear y0 y1 y2 y3 y4 y5 y6 y7 y8 y9 y10 y11 y12;simp only[List.append_eq,List.cons_append,List.nil_append];refine wp_region_below (by kernel_rfl) (by kernel_rfl) ?_
 repeat (go_big_quiet_step (first | (go_at_call 77;with_reducible exact all_bw KH.out _) | (go_at_call 78;with_reducible exact same_bw KN.out _) | (go_at_call 81;with_reducible exact later_bw KX.out HN.out _) | fail))
 refine wpQuiet_nil ?_;intro w5 hw5;obtain⟨m5,rfl⟩:=hw5;have B5:=Lib.hid m5.2;clear p0 p1 p2 p3 p4 p5 p6 p7 p8 p9 p10 p11 p12;go_wp2;go_ret;exact⟨rfl,HN.out.trans (B5.out.mono HN.out.size)⟩
theorem mayb_3 (S:ByteArray) (n:Int) (P X B E U:Option Addr) (cp cx cb ce cu:Nat) (pl:Int) (o:Int) (w:World) (KN:Hid (∀ w',Calls Tryz.prog 78 #[.string S] w' fun e w2=>e= .returned (.bool true)∧w'=w2)) (hz:(-9223372036854775807:Int)≤n):
  Calls Tryz.prog 36 #[.agg #[.int .i64 3,.string S,.int .i64 n,.slice P 0 cp,.int .i64 0,.int .i64 0,.string ⟨#[]⟩,.string ⟨#[]⟩,.slice X 0 cx,.slice B 0 cb,.slice E 0 ce,.slice U 0 cu,.int .i64 pl],.int .i64 o] w fun e w'=>e= .returned (.bool true)∧Below w.heap.size w w':=by
 have KO:FofC 3 ⟨#[105,110,99,114]⟩ 3:=Lib.hid fun w'=>sform_any 3 (by omega) w'
 unfold FofC at KO;have KH:Hid (∀ w',Calls Tryz.prog 77 #[.agg #[.int .i64 3,.string S,.int .i64 n,.slice P 0 cp,.int .i64 0,.int .i64 0,.string ⟨#[]⟩,.string ⟨#[]⟩,.slice X 0 cx,.slice B 0 cb,.slice E 0 ce,.slice U 0 cu,.int .i64 pl],.int .i64 3] w' fun e w2=>e= .returned (.bool true)∧Below w'.heap.size w' w2):=Lib.hid (holds_3 3 S n P X B E U cp cx cb ce cu pl);have KL:Hid (∀ w',Calls Tryz.prog 79 #[.int .i64 3] w' fun e w2=>e= .returned (.int .i64 (-9223372036854775807))∧w'=w2):=Lib.hid fun w'=>sleast_any 3 (by omega) w'
 have HBX:=Lib.hid (one_box13 w [.int .i64 3,.string S,.int .i64 n,.slice P 0 cp,.int .i64 0,.int .i64 0,.string ⟨#[]⟩,.string ⟨#[]⟩,.slice X 0 cx,.slice B 0 cb,.slice E 0 ce,.slice U 0 cu,.int .i64 pl] (by simp) 41);have HN:Hid (Below w.heap.size w (w.alloc (.cells #[.int .i64 3,.string S,.int .i64 n,.slice P 0 cp,.int .i64 0,.int .i64 0,.string ⟨#[]⟩,.string ⟨#[]⟩,.slice X 0 cx,.slice B 0 cb,.slice E 0 ce,.slice U 0 cu,.int .i64 pl] 41))):=Lib.hid (one_boxX w _);go_enter Tryz.func36,Tryz.ntmps36;go_wp2_with (go_at_call 55;go_must ((with_reducible refine(KO.out _).mono ?_);rintro e w1 ⟨rfl,rfl⟩));obtain⟨V,hV⟩:∃ V,V=(w.alloc (.cells #[.int .i64 3,.string S,.int .i64 n,.slice P 0 cp,.int .i64 0,.int .i64 0,.string ⟨#[]⟩,.string ⟨#[]⟩,.slice X 0 cx,.slice B 0 cb,.slice E 0 ce,.slice U 0 cu,.int .i64 pl] 41)):=⟨_,rfl⟩;rw[←hV] at HBX HN ⊢;clear hV;have e1:bits BinOp.and IntKind.i64 3 1=1:=by rfl
 have e2:bits BinOp.and IntKind.i64 3 2=2:=by rfl
 have e4:bits BinOp.and IntKind.i64 3 4=0:=by rfl
 have e8:bits BinOp.and IntKind.i64 3 8=0:=by rfl
 have e16:bits BinOp.and IntKind.i64 3 16=0:=by rfl
 have e32:bits BinOp.and IntKind.i64 3 32=0:=by rfl
 have e64:bits BinOp.and IntKind.i64 3 64=0:=by rfl
 have hne:=bw_some V;obtain⟨y0,y1,y2,y3,y4,y5,y6,y7,y8,y9,y10,y11,y12⟩:=(HBX.out _ (Below.refl _ _)).all13;have p0:=bw_cell y0;have p1:=bw_cell y1;have p2:=bw_cell y2;have p3:=bw_cell y3;have p4:=bw_cell y4;have p5:=bw_cell y5;have p6:=bw_cell y6;have p7:=bw_cell y7;have p8:=bw_cell y8;have p9:=bw_cell y9;have p10:=bw_cell y10;have p11:=bw_cell y11;have p12:=bw_cell y12;clear y0 y1 y2 y3 y4 y5 y6 y7 y8 y9 y10 y11 y12;simp only[List.append_eq,List.cons_append,List.nil_append];refine wp_region_below (by kernel_rfl) (by kernel_rfl) ?_
 repeat (go_big_quiet_step (first | (go_at_call 77;with_reducible exact all_bw KH.out _) | (go_at_call 78;with_reducible exact same_bw KN.out _) | (go_at_call 79;with_reducible exact same_bw KL.out _) | fail))
 refine wpQuiet_nil ?_;intro w5 hw5;obtain⟨m5,rfl⟩:=hw5;have B5:=Lib.hid m5.2;clear p0 p1 p2 p3 p4 p5 p6 p7 p8 p9 p10 p11 p12;go_wp2;go_ret;exact⟨rfl,HN.out.trans (B5.out.mono HN.out.size)⟩
theorem mayb_4 (xk xn:Int) (X1 X2:ByteArray) (nx:Nat) (nb:Nat) (ne:Nat) (P X B E U:Option Addr) (cp cx cb ce cu:Nat) (pl:Int) (o:Int) (w:World) (KX:Hid (∀ w',Below w.heap.size w w'→Calls Tryz.prog 81 #[.agg #[.int .i64 xk,.int .i64 xn,.string X1,.string X2,.slice X nx cx]] w' fun e w2=>e= .returned (.bool true)∧Below w'.heap.size w' w2)) (KB:Hid (∀ w',Below w.heap.size w w'→Calls Tryz.prog 82 #[.slice B nb cb,.int .i64 o] w' fun e w2=>e= .returned (.bool true)∧Below w'.heap.size w' w2)) (KE:Hid (∀ w',Below w.heap.size w w'→Calls Tryz.prog 82 #[.slice E ne ce,.int .i64 o] w' fun e w2=>e= .returned (.bool true)∧Below w'.heap.size w' w2)):
  Calls Tryz.prog 36 #[.agg #[.int .i64 4,.string ⟨#[]⟩,.int .i64 0,.slice P 0 cp,.int .i64 xk,.int .i64 xn,.string X1,.string X2,.slice X nx cx,.slice B nb cb,.slice E ne ce,.slice U 0 cu,.int .i64 pl],.int .i64 o] w fun e w'=>e= .returned (.bool true)∧Below w.heap.size w w':=by
 have KO:FofC 4 ⟨#[105,102]⟩ 56:=Lib.hid fun w'=>sform_any 4 (by omega) w'
 unfold FofC at KO;have KH:Hid (∀ w',Calls Tryz.prog 77 #[.agg #[.int .i64 4,.string ⟨#[]⟩,.int .i64 0,.slice P 0 cp,.int .i64 xk,.int .i64 xn,.string X1,.string X2,.slice X nx cx,.slice B nb cb,.slice E ne ce,.slice U 0 cu,.int .i64 pl],.int .i64 56] w' fun e w2=>e= .returned (.bool true)∧Below w'.heap.size w' w2):=Lib.hid (holds_56 4 xk xn X1 X2 nx nb ne P X B E U cp cx cb ce cu pl);have HBX:=Lib.hid (one_box13 w [.int .i64 4,.string ⟨#[]⟩,.int .i64 0,.slice P 0 cp,.int .i64 xk,.int .i64 xn,.string X1,.string X2,.slice X nx cx,.slice B nb cb,.slice E ne ce,.slice U 0 cu,.int .i64 pl] (by simp) 41);have HN:Hid (Below w.heap.size w (w.alloc (.cells #[.int .i64 4,.string ⟨#[]⟩,.int .i64 0,.slice P 0 cp,.int .i64 xk,.int .i64 xn,.string X1,.string X2,.slice X nx cx,.slice B nb cb,.slice E ne ce,.slice U 0 cu,.int .i64 pl] 41))):=Lib.hid (one_boxX w _);go_enter Tryz.func36,Tryz.ntmps36;go_wp2_with (go_at_call 55;go_must ((with_reducible refine(KO.out _).mono ?_);rintro e w1 ⟨rfl,rfl⟩));obtain⟨V,hV⟩:∃ V,V=(w.alloc (.cells #[.int .i64 4,.string ⟨#[]⟩,.int .i64 0,.slice P 0 cp,.int .i64 xk,.int .i64 xn,.string X1,.string X2,.slice X nx cx,.slice B nb cb,.slice E ne ce,.slice U 0 cu,.int .i64 pl] 41)):=⟨_,rfl⟩;rw[←hV] at HBX HN ⊢;clear hV;have e1:bits BinOp.and IntKind.i64 56 1=0:=by rfl
 have e2:bits BinOp.and IntKind.i64 56 2=0:=by rfl
 have e4:bits BinOp.and IntKind.i64 56 4=0:=by rfl
 have e8:bits BinOp.and IntKind.i64 56 8=8:=by rfl
 have e16:bits BinOp.and IntKind.i64 56 16=16:=by rfl
 have e32:bits BinOp.and IntKind.i64 56 32=32:=by rfl
 have e64:bits BinOp.and IntKind.i64 56 64=0:=by rfl
 have hne:=bw_some V;obtain⟨y0,y1,y2,y3,y4,y5,y6,y7,y8,y9,y10,y11,y12⟩:=(HBX.out _ (Below.refl _ _)).all13;have p0:=bw_cell y0;have p1:=bw_cell y1;have p2:=bw_cell y2;have p3:=bw_cell y3;have p4:=bw_cell y4;have p5:=bw_cell y5;have p6:=bw_cell y6;have p7:=bw_cell y7;have p8:=bw_cell y8;have p9:=bw_cell y9;have p10:=bw_cell y10;have p11:=bw_cell y11;have p12:=bw_cell y12;clear y0 y1 y2 y3 y4 y5 y6 y7 y8 y9 y10 y11 y12;simp only[List.append_eq,List.cons_append,List.nil_append];refine wp_region_below (by kernel_rfl) (by kernel_rfl) ?_
 repeat (go_big_quiet_step (first | (go_at_call 77;with_reducible exact all_bw KH.out _) | (go_at_call 81;with_reducible exact later_bw KX.out HN.out _) | (go_at_call 82;with_reducible exact later_bw KB.out HN.out _) | (go_at_call 82;with_reducible exact later_bw KE.out HN.out _) | fail))
 refine wpQuiet_nil ?_;intro w5 hw5;obtain⟨m5,rfl⟩:=hw5;have B5:=Lib.hid m5.2;clear p0 p1 p2 p3 p4 p5 p6 p7 p8 p9 p10 p11 p12;go_wp2;go_ret;exact⟨rfl,HN.out.trans (B5.out.mono HN.out.size)⟩
theorem mayb_5 (xk xn:Int) (X1 X2:ByteArray) (nx:Nat) (nb:Nat) (P X B E U:Option Addr) (cp cx cb ce cu:Nat) (pl:Int) (o:Int) (w:World) (KX:Hid (∀ w',Below w.heap.size w w'→Calls Tryz.prog 81 #[.agg #[.int .i64 xk,.int .i64 xn,.string X1,.string X2,.slice X nx cx]] w' fun e w2=>e= .returned (.bool true)∧Below w'.heap.size w' w2)) (KB:Hid (∀ w',Below w.heap.size w w'→Calls Tryz.prog 82 #[.slice B nb cb,.int .i64 o] w' fun e w2=>e= .returned (.bool true)∧Below w'.heap.size w' w2)):
  Calls Tryz.prog 36 #[.agg #[.int .i64 5,.string ⟨#[]⟩,.int .i64 0,.slice P 0 cp,.int .i64 xk,.int .i64 xn,.string X1,.string X2,.slice X nx cx,.slice B nb cb,.slice E 0 ce,.slice U 0 cu,.int .i64 pl],.int .i64 o] w fun e w'=>e= .returned (.bool true)∧Below w.heap.size w w':=by
 have KO:FofC 5 ⟨#[119,104,105,108,101]⟩ 24:=Lib.hid fun w'=>sform_any 5 (by omega) w'
 unfold FofC at KO;have KH:Hid (∀ w',Calls Tryz.prog 77 #[.agg #[.int .i64 5,.string ⟨#[]⟩,.int .i64 0,.slice P 0 cp,.int .i64 xk,.int .i64 xn,.string X1,.string X2,.slice X nx cx,.slice B nb cb,.slice E 0 ce,.slice U 0 cu,.int .i64 pl],.int .i64 24] w' fun e w2=>e= .returned (.bool true)∧Below w'.heap.size w' w2):=Lib.hid (holds_24 5 xk xn X1 X2 nx nb P X B E U cp cx cb ce cu pl);have HBX:=Lib.hid (one_box13 w [.int .i64 5,.string ⟨#[]⟩,.int .i64 0,.slice P 0 cp,.int .i64 xk,.int .i64 xn,.string X1,.string X2,.slice X nx cx,.slice B nb cb,.slice E 0 ce,.slice U 0 cu,.int .i64 pl] (by simp) 41);have HN:Hid (Below w.heap.size w (w.alloc (.cells #[.int .i64 5,.string ⟨#[]⟩,.int .i64 0,.slice P 0 cp,.int .i64 xk,.int .i64 xn,.string X1,.string X2,.slice X nx cx,.slice B nb cb,.slice E 0 ce,.slice U 0 cu,.int .i64 pl] 41))):=Lib.hid (one_boxX w _);go_enter Tryz.func36,Tryz.ntmps36;go_wp2_with (go_at_call 55;go_must ((with_reducible refine(KO.out _).mono ?_);rintro e w1 ⟨rfl,rfl⟩));obtain⟨V,hV⟩:∃ V,V=(w.alloc (.cells #[.int .i64 5,.string ⟨#[]⟩,.int .i64 0,.slice P 0 cp,.int .i64 xk,.int .i64 xn,.string X1,.string X2,.slice X nx cx,.slice B nb cb,.slice E 0 ce,.slice U 0 cu,.int .i64 pl] 41)):=⟨_,rfl⟩;rw[←hV] at HBX HN ⊢;clear hV;have e1:bits BinOp.and IntKind.i64 24 1=0:=by rfl
 have e2:bits BinOp.and IntKind.i64 24 2=0:=by rfl
 have e4:bits BinOp.and IntKind.i64 24 4=0:=by rfl
 have e8:bits BinOp.and IntKind.i64 24 8=8:=by rfl
 have e16:bits BinOp.and IntKind.i64 24 16=16:=by rfl
 have e32:bits BinOp.and IntKind.i64 24 32=0:=by rfl
 have e64:bits BinOp.and IntKind.i64 24 64=0:=by rfl
 have hne:=bw_some V;obtain⟨y0,y1,y2,y3,y4,y5,y6,y7,y8,y9,y10,y11,y12⟩:=(HBX.out _ (Below.refl _ _)).all13;have p0:=bw_cell y0;have p1:=bw_cell y1;have p2:=bw_cell y2;have p3:=bw_cell y3;have p4:=bw_cell y4;have p5:=bw_cell y5;have p6:=bw_cell y6;have p7:=bw_cell y7;have p8:=bw_cell y8;have p9:=bw_cell y9;have p10:=bw_cell y10;have p11:=bw_cell y11;have p12:=bw_cell y12;clear y0 y1 y2 y3 y4 y5 y6 y7 y8 y9 y10 y11 y12;simp only[List.append_eq,List.cons_append,List.nil_append];refine wp_region_below (by kernel_rfl) (by kernel_rfl) ?_
 repeat (go_big_quiet_step (first | (go_at_call 77;with_reducible exact all_bw KH.out _) | (go_at_call 81;with_reducible exact later_bw KX.out HN.out _) | (go_at_call 82;with_reducible exact later_bw KB.out HN.out _) | fail))
 refine wpQuiet_nil ?_;intro w5 hw5;obtain⟨m5,rfl⟩:=hw5;have B5:=Lib.hid m5.2;clear p0 p1 p2 p3 p4 p5 p6 p7 p8 p9 p10 p11 p12;go_wp2;go_ret;exact⟨rfl,HN.out.trans (B5.out.mono HN.out.size)⟩
theorem mayb_6 (S:ByteArray) (nb:Nat) (P X B E U:Option Addr) (cp cx cb ce cu:Nat) (pl:Int) (o:Int) (w:World) (KN:Hid (∀ w',Calls Tryz.prog 78 #[.string S] w' fun e w2=>e= .returned (.bool true)∧w'=w2)) (KB:Hid (∀ w',Below w.heap.size w w'→Calls Tryz.prog 82 #[.slice B nb cb,.int .i64 o] w' fun e w2=>e= .returned (.bool true)∧Below w'.heap.size w' w2)):
  Calls Tryz.prog 36 #[.agg #[.int .i64 6,.string S,.int .i64 0,.slice P 0 cp,.int .i64 0,.int .i64 0,.string ⟨#[]⟩,.string ⟨#[]⟩,.slice X 0 cx,.slice B nb cb,.slice E 0 ce,.slice U 0 cu,.int .i64 pl],.int .i64 o] w fun e w'=>e= .returned (.bool true)∧Below w.heap.size w w':=by
 have KO:FofC 6 ⟨#[112,114,111,99]⟩ 17:=Lib.hid fun w'=>sform_any 6 (by omega) w'
 unfold FofC at KO;have KH:Hid (∀ w',Calls Tryz.prog 77 #[.agg #[.int .i64 6,.string S,.int .i64 0,.slice P 0 cp,.int .i64 0,.int .i64 0,.string ⟨#[]⟩,.string ⟨#[]⟩,.slice X 0 cx,.slice B nb cb,.slice E 0 ce,.slice U 0 cu,.int .i64 pl],.int .i64 17] w' fun e w2=>e= .returned (.bool true)∧Below w'.heap.size w' w2):=Lib.hid (holds_17 6 S nb P X B E U cp cx cb ce cu pl);have HBX:=Lib.hid (one_box13 w [.int .i64 6,.string S,.int .i64 0,.slice P 0 cp,.int .i64 0,.int .i64 0,.string ⟨#[]⟩,.string ⟨#[]⟩,.slice X 0 cx,.slice B nb cb,.slice E 0 ce,.slice U 0 cu,.int .i64 pl] (by simp) 41);have HN:Hid (Below w.heap.size w (w.alloc (.cells #[.int .i64 6,.string S,.int .i64 0,.slice P 0 cp,.int .i64 0,.int .i64 0,.string ⟨#[]⟩,.string ⟨#[]⟩,.slice X 0 cx,.slice B nb cb,.slice E 0 ce,.slice U 0 cu,.int .i64 pl] 41))):=Lib.hid (one_boxX w _);go_enter Tryz.func36,Tryz.ntmps36;go_wp2_with (go_at_call 55;go_must ((with_reducible refine(KO.out _).mono ?_);rintro e w1 ⟨rfl,rfl⟩));obtain⟨V,hV⟩:∃ V,V=(w.alloc (.cells #[.int .i64 6,.string S,.int .i64 0,.slice P 0 cp,.int .i64 0,.int .i64 0,.string ⟨#[]⟩,.string ⟨#[]⟩,.slice X 0 cx,.slice B nb cb,.slice E 0 ce,.slice U 0 cu,.int .i64 pl] 41)):=⟨_,rfl⟩;rw[←hV] at HBX HN ⊢;clear hV;have e1:bits BinOp.and IntKind.i64 17 1=1:=by rfl
 have e2:bits BinOp.and IntKind.i64 17 2=0:=by rfl
 have e4:bits BinOp.and IntKind.i64 17 4=0:=by rfl
 have e8:bits BinOp.and IntKind.i64 17 8=0:=by rfl
 have e16:bits BinOp.and IntKind.i64 17 16=16:=by rfl
 have e32:bits BinOp.and IntKind.i64 17 32=0:=by rfl
 have e64:bits BinOp.and IntKind.i64 17 64=0:=by rfl
 have hne:=bw_some V;obtain⟨y0,y1,y2,y3,y4,y5,y6,y7,y8,y9,y10,y11,y12⟩:=(HBX.out _ (Below.refl _ _)).all13;have p0:=bw_cell y0;have p1:=bw_cell y1;have p2:=bw_cell y2;have p3:=bw_cell y3;have p4:=bw_cell y4;have p5:=bw_cell y5;have p6:=bw_cell y6;have p7:=bw_cell y7;have p8:=bw_cell y8;have p9:=bw_cell y9;have p10:=bw_cell y10;have p11:=bw_cell y11;have p12:=bw_cell y12;clear y0 y1 y2 y3 y4 y5 y6 y7 y8 y9 y10 y11 y12;simp only[List.append_eq,List.cons_append,List.nil_append];refine wp_region_below (by kernel_rfl) (by kernel_rfl) ?_
 repeat (go_big_quiet_step (first | (go_at_call 77;with_reducible exact all_bw KH.out _) | (go_at_call 78;with_reducible exact same_bw KN.out _) | (go_at_call 82;with_reducible exact later_bw KB.out HN.out _) | fail))
 refine wpQuiet_nil ?_;intro w5 hw5;obtain⟨m5,rfl⟩:=hw5;have B5:=Lib.hid m5.2;clear p0 p1 p2 p3 p4 p5 p6 p7 p8 p9 p10 p11 p12;go_wp2;go_ret;exact⟨rfl,HN.out.trans (B5.out.mono HN.out.size)⟩
theorem mayb_7 (S:ByteArray) (P X B E U:Option Addr) (cp cx cb ce cu:Nat) (pl:Int) (o:Int) (w:World) (KN:Hid (∀ w',Calls Tryz.prog 78 #[.string S] w' fun e w2=>e= .returned (.bool true)∧w'=w2)):
  Calls Tryz.prog 36 #[.agg #[.int .i64 7,.string S,.int .i64 0,.slice P 0 cp,.int .i64 0,.int .i64 0,.string ⟨#[]⟩,.string ⟨#[]⟩,.slice X 0 cx,.slice B 0 cb,.slice E 0 ce,.slice U 0 cu,.int .i64 pl],.int .i64 o] w fun e w'=>e= .returned (.bool true)∧Below w.heap.size w w':=by
 have KO:FofC 7 ⟨#[99,97,108,108]⟩ 1:=Lib.hid fun w'=>sform_any 7 (by omega) w'
 unfold FofC at KO;have KH:Hid (∀ w',Calls Tryz.prog 77 #[.agg #[.int .i64 7,.string S,.int .i64 0,.slice P 0 cp,.int .i64 0,.int .i64 0,.string ⟨#[]⟩,.string ⟨#[]⟩,.slice X 0 cx,.slice B 0 cb,.slice E 0 ce,.slice U 0 cu,.int .i64 pl],.int .i64 1] w' fun e w2=>e= .returned (.bool true)∧Below w'.heap.size w' w2):=Lib.hid (holds_1 7 S P X B E U cp cx cb ce cu pl);have HBX:=Lib.hid (one_box13 w [.int .i64 7,.string S,.int .i64 0,.slice P 0 cp,.int .i64 0,.int .i64 0,.string ⟨#[]⟩,.string ⟨#[]⟩,.slice X 0 cx,.slice B 0 cb,.slice E 0 ce,.slice U 0 cu,.int .i64 pl] (by simp) 41);have HN:Hid (Below w.heap.size w (w.alloc (.cells #[.int .i64 7,.string S,.int .i64 0,.slice P 0 cp,.int .i64 0,.int .i64 0,.string ⟨#[]⟩,.string ⟨#[]⟩,.slice X 0 cx,.slice B 0 cb,.slice E 0 ce,.slice U 0 cu,.int .i64 pl] 41))):=Lib.hid (one_boxX w _);go_enter Tryz.func36,Tryz.ntmps36;go_wp2_with (go_at_call 55;go_must ((with_reducible refine(KO.out _).mono ?_);rintro e w1 ⟨rfl,rfl⟩));obtain⟨V,hV⟩:∃ V,V=(w.alloc (.cells #[.int .i64 7,.string S,.int .i64 0,.slice P 0 cp,.int .i64 0,.int .i64 0,.string ⟨#[]⟩,.string ⟨#[]⟩,.slice X 0 cx,.slice B 0 cb,.slice E 0 ce,.slice U 0 cu,.int .i64 pl] 41)):=⟨_,rfl⟩;rw[←hV] at HBX HN ⊢;clear hV;have e1:bits BinOp.and IntKind.i64 1 1=1:=by rfl
 have e2:bits BinOp.and IntKind.i64 1 2=0:=by rfl
 have e4:bits BinOp.and IntKind.i64 1 4=0:=by rfl
 have e8:bits BinOp.and IntKind.i64 1 8=0:=by rfl
 have e16:bits BinOp.and IntKind.i64 1 16=0:=by rfl
 have e32:bits BinOp.and IntKind.i64 1 32=0:=by rfl
 have e64:bits BinOp.and IntKind.i64 1 64=0:=by rfl
 have hne:=bw_some V;obtain⟨y0,y1,y2,y3,y4,y5,y6,y7,y8,y9,y10,y11,y12⟩:=(HBX.out _ (Below.refl _ _)).all13;have p0:=bw_cell y0;have p1:=bw_cell y1;have p2:=bw_cell y2;have p3:=bw_cell y3;have p4:=bw_cell y4;have p5:=bw_cell y5;have p6:=bw_cell y6;have p7:=bw_cell y7;have p8:=bw_cell y8;have p9:=bw_cell y9;have p10:=bw_cell y10;have p11:=bw_cell y11;have p12:=bw_cell y12;clear y0 y1 y2 y3 y4 y5 y6 y7 y8 y9 y10 y11 y12;simp only[List.append_eq,List.cons_append,List.nil_append];refine wp_region_below (by kernel_rfl) (by kernel_rfl) ?_
 repeat (go_big_quiet_step (first | (go_at_call 77;with_reducible exact all_bw KH.out _) | (go_at_call 78;with_reducible exact same_bw KN.out _) | fail))
 refine wpQuiet_nil ?_;intro w5 hw5;obtain⟨m5,rfl⟩:=hw5;have B5:=Lib.hid m5.2;clear p0 p1 p2 p3 p4 p5 p6 p7 p8 p9 p10 p11 p12;go_wp2;go_ret;exact⟨rfl,HN.out.trans (B5.out.mono HN.out.size)⟩
theorem mayb_8 (n:Int) (P X B E U:Option Addr) (cp cx cb ce cu:Nat) (pl:Int) (o:Int) (w:World) (hz:(0:Int)≤n):
  Calls Tryz.prog 36 #[.agg #[.int .i64 8,.string ⟨#[]⟩,.int .i64 n,.slice P 0 cp,.int .i64 0,.int .i64 0,.string ⟨#[]⟩,.string ⟨#[]⟩,.slice X 0 cx,.slice B 0 cb,.slice E 0 ce,.slice U 0 cu,.int .i64 pl],.int .i64 o] w fun e w'=>e= .returned (.bool true)∧Below w.heap.size w w':=by
 have KO:FofC 8 ⟨#[115,112,97,119,110]⟩ 2:=Lib.hid fun w'=>sform_any 8 (by omega) w'
 unfold FofC at KO;have KH:Hid (∀ w',Calls Tryz.prog 77 #[.agg #[.int .i64 8,.string ⟨#[]⟩,.int .i64 n,.slice P 0 cp,.int .i64 0,.int .i64 0,.string ⟨#[]⟩,.string ⟨#[]⟩,.slice X 0 cx,.slice B 0 cb,.slice E 0 ce,.slice U 0 cu,.int .i64 pl],.int .i64 2] w' fun e w2=>e= .returned (.bool true)∧Below w'.heap.size w' w2):=Lib.hid (holds_2 8 n P X B E U cp cx cb ce cu pl);have KL:Hid (∀ w',Calls Tryz.prog 79 #[.int .i64 8] w' fun e w2=>e= .returned (.int .i64 (0))∧w'=w2):=Lib.hid fun w'=>sleast_any 8 (by omega) w'
 have HBX:=Lib.hid (one_box13 w [.int .i64 8,.string ⟨#[]⟩,.int .i64 n,.slice P 0 cp,.int .i64 0,.int .i64 0,.string ⟨#[]⟩,.string ⟨#[]⟩,.slice X 0 cx,.slice B 0 cb,.slice E 0 ce,.slice U 0 cu,.int .i64 pl] (by simp) 41);have HN:Hid (Below w.heap.size w (w.alloc (.cells #[.int .i64 8,.string ⟨#[]⟩,.int .i64 n,.slice P 0 cp,.int .i64 0,.int .i64 0,.string ⟨#[]⟩,.string ⟨#[]⟩,.slice X 0 cx,.slice B 0 cb,.slice E 0 ce,.slice U 0 cu,.int .i64 pl] 41))):=Lib.hid (one_boxX w _);go_enter Tryz.func36,Tryz.ntmps36;go_wp2_with (go_at_call 55;go_must ((with_reducible refine(KO.out _).mono ?_);rintro e w1 ⟨rfl,rfl⟩));obtain⟨V,hV⟩:∃ V,V=(w.alloc (.cells #[.int .i64 8,.string ⟨#[]⟩,.int .i64 n,.slice P 0 cp,.int .i64 0,.int .i64 0,.string ⟨#[]⟩,.string ⟨#[]⟩,.slice X 0 cx,.slice B 0 cb,.slice E 0 ce,.slice U 0 cu,.int .i64 pl] 41)):=⟨_,rfl⟩;rw[←hV] at HBX HN ⊢;clear hV;have e1:bits BinOp.and IntKind.i64 2 1=0:=by rfl
 have e2:bits BinOp.and IntKind.i64 2 2=2:=by rfl
 have e4:bits BinOp.and IntKind.i64 2 4=0:=by rfl
 have e8:bits BinOp.and IntKind.i64 2 8=0:=by rfl
 have e16:bits BinOp.and IntKind.i64 2 16=0:=by rfl
 have e32:bits BinOp.and IntKind.i64 2 32=0:=by rfl
 have e64:bits BinOp.and IntKind.i64 2 64=0:=by rfl
 have hne:=bw_some V;obtain⟨y0,y1,y2,y3,y4,y5,y6,y7,y8,y9,y10,y11,y12⟩:=(HBX.out _ (Below.refl _ _)).all13;have p0:=bw_cell y0;have p1:=bw_cell y1;have p2:=bw_cell y2;have p3:=bw_cell y3;have p4:=bw_cell y4;have p5:=bw_cell y5;have p6:=bw_cell y6;have p7:=bw_cell y7;have p8:=bw_cell y8;have p9:=bw_cell y9;have p10:=bw_cell y10;have p11:=bw_cell y11;have p12:=bw_cell y12;clear y0 y1 y2 y3 y4 y5 y6 y7 y8 y9 y10 y11 y12;simp only[List.append_eq,List.cons_append,List.nil_append];refine wp_region_below (by kernel_rfl) (by kernel_rfl) ?_
 repeat (go_big_quiet_step (first | (go_at_call 77;with_reducible exact all_bw KH.out _) | (go_at_call 79;with_reducible exact same_bw KL.out _) | fail))
 refine wpQuiet_nil ?_;intro w5 hw5;obtain⟨m5,rfl⟩:=hw5;have B5:=Lib.hid m5.2;clear p0 p1 p2 p3 p4 p5 p6 p7 p8 p9 p10 p11 p12;go_wp2;go_ret;exact⟨rfl,HN.out.trans (B5.out.mono HN.out.size)⟩
theorem mayb_9 (n:Int) (P X B E U:Option Addr) (cp cx cb ce cu:Nat) (pl:Int) (o:Int) (w:World) (hz:(0:Int)≤n):
  Calls Tryz.prog 36 #[.agg #[.int .i64 9,.string ⟨#[]⟩,.int .i64 n,.slice P 0 cp,.int .i64 0,.int .i64 0,.string ⟨#[]⟩,.string ⟨#[]⟩,.slice X 0 cx,.slice B 0 cb,.slice E 0 ce,.slice U 0 cu,.int .i64 pl],.int .i64 o] w fun e w'=>e= .returned (.bool true)∧Below w.heap.size w w':=by
 have KO:FofC 9 ⟨#[117,115,101]⟩ 2:=Lib.hid fun w'=>sform_any 9 (by omega) w'
 unfold FofC at KO;have KH:Hid (∀ w',Calls Tryz.prog 77 #[.agg #[.int .i64 9,.string ⟨#[]⟩,.int .i64 n,.slice P 0 cp,.int .i64 0,.int .i64 0,.string ⟨#[]⟩,.string ⟨#[]⟩,.slice X 0 cx,.slice B 0 cb,.slice E 0 ce,.slice U 0 cu,.int .i64 pl],.int .i64 2] w' fun e w2=>e= .returned (.bool true)∧Below w'.heap.size w' w2):=Lib.hid (holds_2 9 n P X B E U cp cx cb ce cu pl);have KL:Hid (∀ w',Calls Tryz.prog 79 #[.int .i64 9] w' fun e w2=>e= .returned (.int .i64 (0))∧w'=w2):=Lib.hid fun w'=>sleast_any 9 (by omega) w'
 have HBX:=Lib.hid (one_box13 w [.int .i64 9,.string ⟨#[]⟩,.int .i64 n,.slice P 0 cp,.int .i64 0,.int .i64 0,.string ⟨#[]⟩,.string ⟨#[]⟩,.slice X 0 cx,.slice B 0 cb,.slice E 0 ce,.slice U 0 cu,.int .i64 pl] (by simp) 41);have HN:Hid (Below w.heap.size w (w.alloc (.cells #[.int .i64 9,.string ⟨#[]⟩,.int .i64 n,.slice P 0 cp,.int .i64 0,.int .i64 0,.string ⟨#[]⟩,.string ⟨#[]⟩,.slice X 0 cx,.slice B 0 cb,.slice E 0 ce,.slice U 0 cu,.int .i64 pl] 41))):=Lib.hid (one_boxX w _);go_enter Tryz.func36,Tryz.ntmps36;go_wp2_with (go_at_call 55;go_must ((with_reducible refine(KO.out _).mono ?_);rintro e w1 ⟨rfl,rfl⟩));obtain⟨V,hV⟩:∃ V,V=(w.alloc (.cells #[.int .i64 9,.string ⟨#[]⟩,.int .i64 n,.slice P 0 cp,.int .i64 0,.int .i64 0,.string ⟨#[]⟩,.string ⟨#[]⟩,.slice X 0 cx,.slice B 0 cb,.slice E 0 ce,.slice U 0 cu,.int .i64 pl] 41)):=⟨_,rfl⟩;rw[←hV] at HBX HN ⊢;clear hV;have e1:bits BinOp.and IntKind.i64 2 1=0:=by rfl
 have e2:bits BinOp.and IntKind.i64 2 2=2:=by rfl
 have e4:bits BinOp.and IntKind.i64 2 4=0:=by rfl
 have e8:bits BinOp.and IntKind.i64 2 8=0:=by rfl
 have e16:bits BinOp.and IntKind.i64 2 16=0:=by rfl
 have e32:bits BinOp.and IntKind.i64 2 32=0:=by rfl
 have e64:bits BinOp.and IntKind.i64 2 64=0:=by rfl
 have hne:=bw_some V;obtain⟨y0,y1,y2,y3,y4,y5,y6,y7,y8,y9,y10,y11,y12⟩:=(HBX.out _ (Below.refl _ _)).all13;have p0:=bw_cell y0;have p1:=bw_cell y1;have p2:=bw_cell y2;have p3:=bw_cell y3;have p4:=bw_cell y4;have p5:=bw_cell y5;have p6:=bw_cell y6;have p7:=bw_cell y7;have p8:=bw_cell y8;have p9:=bw_cell y9;have p10:=bw_cell y10;have p11:=bw_cell y11;have p12:=bw_cell y12;clear y0 y1 y2 y3 y4 y5 y6 y7 y8 y9 y10 y11 y12;simp only[List.append_eq,List.cons_append,List.nil_append];refine wp_region_below (by kernel_rfl) (by kernel_rfl) ?_
 repeat (go_big_quiet_step (first | (go_at_call 77;with_reducible exact all_bw KH.out _) | (go_at_call 79;with_reducible exact same_bw KL.out _) | fail))
 refine wpQuiet_nil ?_;intro w5 hw5;obtain⟨m5,rfl⟩:=hw5;have B5:=Lib.hid m5.2;clear p0 p1 p2 p3 p4 p5 p6 p7 p8 p9 p10 p11 p12;go_wp2;go_ret;exact⟨rfl,HN.out.trans (B5.out.mono HN.out.size)⟩
theorem mayb_10 (np:Nat) (P X B E U:Option Addr) (cp cx cb ce cu:Nat) (pl:Int) (o:Int) (w:World) (KQ:Hid (∀ w',Below w.heap.size w w'→Calls Tryz.prog 80 #[.slice P np cp] w' fun e w2=>e= .returned (.bool true)∧Below w'.heap.size w' w2)):
  Calls Tryz.prog 36 #[.agg #[.int .i64 10,.string ⟨#[]⟩,.int .i64 0,.slice P np cp,.int .i64 0,.int .i64 0,.string ⟨#[]⟩,.string ⟨#[]⟩,.slice X 0 cx,.slice B 0 cb,.slice E 0 ce,.slice U 0 cu,.int .i64 pl],.int .i64 o] w fun e w'=>e= .returned (.bool true)∧Below w.heap.size w w':=by
 have KO:FofC 10 ⟨#[115,101,110,100]⟩ 4:=Lib.hid fun w'=>sform_any 10 (by omega) w'
 unfold FofC at KO;have KH:Hid (∀ w',Calls Tryz.prog 77 #[.agg #[.int .i64 10,.string ⟨#[]⟩,.int .i64 0,.slice P np cp,.int .i64 0,.int .i64 0,.string ⟨#[]⟩,.string ⟨#[]⟩,.slice X 0 cx,.slice B 0 cb,.slice E 0 ce,.slice U 0 cu,.int .i64 pl],.int .i64 4] w' fun e w2=>e= .returned (.bool true)∧Below w'.heap.size w' w2):=Lib.hid (holds_4 10 np P X B E U cp cx cb ce cu pl);have HBX:=Lib.hid (one_box13 w [.int .i64 10,.string ⟨#[]⟩,.int .i64 0,.slice P np cp,.int .i64 0,.int .i64 0,.string ⟨#[]⟩,.string ⟨#[]⟩,.slice X 0 cx,.slice B 0 cb,.slice E 0 ce,.slice U 0 cu,.int .i64 pl] (by simp) 41);have HN:Hid (Below w.heap.size w (w.alloc (.cells #[.int .i64 10,.string ⟨#[]⟩,.int .i64 0,.slice P np cp,.int .i64 0,.int .i64 0,.string ⟨#[]⟩,.string ⟨#[]⟩,.slice X 0 cx,.slice B 0 cb,.slice E 0 ce,.slice U 0 cu,.int .i64 pl] 41))):=Lib.hid (one_boxX w _);go_enter Tryz.func36,Tryz.ntmps36;go_wp2_with (go_at_call 55;go_must ((with_reducible refine(KO.out _).mono ?_);rintro e w1 ⟨rfl,rfl⟩));obtain⟨V,hV⟩:∃ V,V=(w.alloc (.cells #[.int .i64 10,.string ⟨#[]⟩,.int .i64 0,.slice P np cp,.int .i64 0,.int .i64 0,.string ⟨#[]⟩,.string ⟨#[]⟩,.slice X 0 cx,.slice B 0 cb,.slice E 0 ce,.slice U 0 cu,.int .i64 pl] 41)):=⟨_,rfl⟩;rw[←hV] at HBX HN ⊢;clear hV;have e1:bits BinOp.and IntKind.i64 4 1=0:=by rfl
 have e2:bits BinOp.and IntKind.i64 4 2=0:=by rfl
 have e4:bits BinOp.and IntKind.i64 4 4=4:=by rfl
 have e8:bits BinOp.and IntKind.i64 4 8=0:=by rfl
 have e16:bits BinOp.and IntKind.i64 4 16=0:=by rfl
 have e32:bits BinOp.and IntKind.i64 4 32=0:=by rfl
 have e64:bits BinOp.and IntKind.i64 4 64=0:=by rfl
 have hne:=bw_some V;obtain⟨y0,y1,y2,y3,y4,y5,y6,y7,y8,y9,y10,y11,y12⟩:=(HBX.out _ (Below.refl _ _)).all13;have p0:=bw_cell y0;have p1:=bw_cell y1;have p2:=bw_cell y2;have p3:=bw_cell y3;have p4:=bw_cell y4;have p5:=bw_cell y5;have p6:=bw_cell y6;have p7:=bw_cell y7;have p8:=bw_cell y8;have p9:=bw_cell y9;have p10:=bw_cell y10;have p11:=bw_cell y11;have p12:=bw_cell y12;clear y0 y1 y2 y3 y4 y5 y6 y7 y8 y9 y10 y11 y12;simp only[List.append_eq,List.cons_append,List.nil_append];refine wp_region_below (by kernel_rfl) (by kernel_rfl) ?_
 repeat (go_big_quiet_step (first | (go_at_call 77;with_reducible exact all_bw KH.out _) | (go_at_call 80;with_reducible exact later_bw KQ.out HN.out _) | fail))
 refine wpQuiet_nil ?_;intro w5 hw5;obtain⟨m5,rfl⟩:=hw5;have B5:=Lib.hid m5.2;clear p0 p1 p2 p3 p4 p5 p6 p7 p8 p9 p10 p11 p12;go_wp2;go_ret;exact⟨rfl,HN.out.trans (B5.out.mono HN.out.size)⟩
theorem mayb_11 (n:Int) (P X B E U:Option Addr) (cp cx cb ce cu:Nat) (pl:Int) (o:Int) (w:World) (hz:(-1:Int)≤n):
  Calls Tryz.prog 36 #[.agg #[.int .i64 11,.string ⟨#[]⟩,.int .i64 n,.slice P 0 cp,.int .i64 0,.int .i64 0,.string ⟨#[]⟩,.string ⟨#[]⟩,.slice X 0 cx,.slice B 0 cb,.slice E 0 ce,.slice U 0 cu,.int .i64 pl],.int .i64 o] w fun e w'=>e= .returned (.bool true)∧Below w.heap.size w w':=by
 have KO:FofC 11 ⟨#[116,105,109,101,111,117,116]⟩ 2:=Lib.hid fun w'=>sform_any 11 (by omega) w'
 unfold FofC at KO;have KH:Hid (∀ w',Calls Tryz.prog 77 #[.agg #[.int .i64 11,.string ⟨#[]⟩,.int .i64 n,.slice P 0 cp,.int .i64 0,.int .i64 0,.string ⟨#[]⟩,.string ⟨#[]⟩,.slice X 0 cx,.slice B 0 cb,.slice E 0 ce,.slice U 0 cu,.int .i64 pl],.int .i64 2] w' fun e w2=>e= .returned (.bool true)∧Below w'.heap.size w' w2):=Lib.hid (holds_2 11 n P X B E U cp cx cb ce cu pl);have KL:Hid (∀ w',Calls Tryz.prog 79 #[.int .i64 11] w' fun e w2=>e= .returned (.int .i64 (-1))∧w'=w2):=Lib.hid fun w'=>sleast_any 11 (by omega) w'
 have HBX:=Lib.hid (one_box13 w [.int .i64 11,.string ⟨#[]⟩,.int .i64 n,.slice P 0 cp,.int .i64 0,.int .i64 0,.string ⟨#[]⟩,.string ⟨#[]⟩,.slice X 0 cx,.slice B 0 cb,.slice E 0 ce,.slice U 0 cu,.int .i64 pl] (by simp) 41);have HN:Hid (Below w.heap.size w (w.alloc (.cells #[.int .i64 11,.string ⟨#[]⟩,.int .i64 n,.slice P 0 cp,.int .i64 0,.int .i64 0,.string ⟨#[]⟩,.string ⟨#[]⟩,.slice X 0 cx,.slice B 0 cb,.slice E 0 ce,.slice U 0 cu,.int .i64 pl] 41))):=Lib.hid (one_boxX w _);go_enter Tryz.func36,Tryz.ntmps36;go_wp2_with (go_at_call 55;go_must ((with_reducible refine(KO.out _).mono ?_);rintro e w1 ⟨rfl,rfl⟩));obtain⟨V,hV⟩:∃ V,V=(w.alloc (.cells #[.int .i64 11,.string ⟨#[]⟩,.int .i64 n,.slice P 0 cp,.int .i64 0,.int .i64 0,.string ⟨#[]⟩,.string ⟨#[]⟩,.slice X 0 cx,.slice B 0 cb,.slice E 0 ce,.slice U 0 cu,.int .i64 pl] 41)):=⟨_,rfl⟩;rw[←hV] at HBX HN ⊢;clear hV;have e1:bits BinOp.and IntKind.i64 2 1=0:=by rfl
 have e2:bits BinOp.and IntKind.i64 2 2=2:=by rfl
 have e4:bits BinOp.and IntKind.i64 2 4=0:=by rfl
 have e8:bits BinOp.and IntKind.i64 2 8=0:=by rfl
 have e16:bits BinOp.and IntKind.i64 2 16=0:=by rfl
 have e32:bits BinOp.and IntKind.i64 2 32=0:=by rfl
 have e64:bits BinOp.and IntKind.i64 2 64=0:=by rfl
 have hne:=bw_some V;obtain⟨y0,y1,y2,y3,y4,y5,y6,y7,y8,y9,y10,y11,y12⟩:=(HBX.out _ (Below.refl _ _)).all13;have p0:=bw_cell y0;have p1:=bw_cell y1;have p2:=bw_cell y2;have p3:=bw_cell y3;have p4:=bw_cell y4;have p5:=bw_cell y5;have p6:=bw_cell y6;have p7:=bw_cell y7;have p8:=bw_cell y8;have p9:=bw_cell y9;have p10:=bw_cell y10;have p11:=bw_cell y11;have p12:=bw_cell y12;clear y0 y1 y2 y3 y4 y5 y6 y7 y8 y9 y10 y11 y12;simp only[List.append_eq,List.cons_append,List.nil_append];refine wp_region_below (by kernel_rfl) (by kernel_rfl) ?_
 repeat (go_big_quiet_step (first | (go_at_call 77;with_reducible exact all_bw KH.out _) | (go_at_call 79;with_reducible exact same_bw KL.out _) | fail))
 refine wpQuiet_nil ?_;intro w5 hw5;obtain⟨m5,rfl⟩:=hw5;have B5:=Lib.hid m5.2;clear p0 p1 p2 p3 p4 p5 p6 p7 p8 p9 p10 p11 p12;go_wp2;go_ret;exact⟨rfl,HN.out.trans (B5.out.mono HN.out.size)⟩
theorem mayb_12 (nu:Nat) (P X B E U:Option Addr) (cp cx cb ce cu:Nat) (pl:Int) (o:Int) (w:World) (KU:Hid (∀ w',Below w.heap.size w w'→Calls Tryz.prog 83 #[.slice U nu cu,.int .i64 o] w' fun e w2=>e= .returned (.bool true)∧Below w'.heap.size w' w2)):
  Calls Tryz.prog 36 #[.agg #[.int .i64 12,.string ⟨#[]⟩,.int .i64 0,.slice P 0 cp,.int .i64 0,.int .i64 0,.string ⟨#[]⟩,.string ⟨#[]⟩,.slice X 0 cx,.slice B 0 cb,.slice E 0 ce,.slice U nu cu,.int .i64 pl],.int .i64 o] w fun e w'=>e= .returned (.bool true)∧Below w.heap.size w w':=by
 have KO:FofC 12 ⟨#[101,120,112,101,99,116]⟩ 64:=Lib.hid fun w'=>sform_any 12 (by omega) w'
 unfold FofC at KO;have KH:Hid (∀ w',Calls Tryz.prog 77 #[.agg #[.int .i64 12,.string ⟨#[]⟩,.int .i64 0,.slice P 0 cp,.int .i64 0,.int .i64 0,.string ⟨#[]⟩,.string ⟨#[]⟩,.slice X 0 cx,.slice B 0 cb,.slice E 0 ce,.slice U nu cu,.int .i64 pl],.int .i64 64] w' fun e w2=>e= .returned (.bool true)∧Below w'.heap.size w' w2):=Lib.hid (holds_64 12 nu P X B E U cp cx cb ce cu pl);have HBX:=Lib.hid (one_box13 w [.int .i64 12,.string ⟨#[]⟩,.int .i64 0,.slice P 0 cp,.int .i64 0,.int .i64 0,.string ⟨#[]⟩,.string ⟨#[]⟩,.slice X 0 cx,.slice B 0 cb,.slice E 0 ce,.slice U nu cu,.int .i64 pl] (by simp) 41);have HN:Hid (Below w.heap.size w (w.alloc (.cells #[.int .i64 12,.string ⟨#[]⟩,.int .i64 0,.slice P 0 cp,.int .i64 0,.int .i64 0,.string ⟨#[]⟩,.string ⟨#[]⟩,.slice X 0 cx,.slice B 0 cb,.slice E 0 ce,.slice U nu cu,.int .i64 pl] 41))):=Lib.hid (one_boxX w _);go_enter Tryz.func36,Tryz.ntmps36;go_wp2_with (go_at_call 55;go_must ((with_reducible refine(KO.out _).mono ?_);rintro e w1 ⟨rfl,rfl⟩));obtain⟨V,hV⟩:∃ V,V=(w.alloc (.cells #[.int .i64 12,.string ⟨#[]⟩,.int .i64 0,.slice P 0 cp,.int .i64 0,.int .i64 0,.string ⟨#[]⟩,.string ⟨#[]⟩,.slice X 0 cx,.slice B 0 cb,.slice E 0 ce,.slice U nu cu,.int .i64 pl] 41)):=⟨_,rfl⟩;rw[←hV] at HBX HN ⊢;clear hV;have e1:bits BinOp.and IntKind.i64 64 1=0:=by rfl
 have e2:bits BinOp.and IntKind.i64 64 2=0:=by rfl
 have e4:bits BinOp.and IntKind.i64 64 4=0:=by rfl
 have e8:bits BinOp.and IntKind.i64 64 8=0:=by rfl
 have e16:bits BinOp.and IntKind.i64 64 16=0:=by rfl
 have e32:bits BinOp.and IntKind.i64 64 32=0:=by rfl
 have e64:bits BinOp.and IntKind.i64 64 64=64:=by rfl
 have hne:=bw_some V;obtain⟨y0,y1,y2,y3,y4,y5,y6,y7,y8,y9,y10,y11,y12⟩:=(HBX.out _ (Below.refl _ _)).all13;have p0:=bw_cell y0;have p1:=bw_cell y1;have p2:=bw_cell y2;have p3:=bw_cell y3;have p4:=bw_cell y4;have p5:=bw_cell y5;have p6:=bw_cell y6;have p7:=bw_cell y7;have p8:=bw_cell y8;have p9:=bw_cell y9;have p10:=bw_cell y10;have p11:=bw_cell y11;have p12:=bw_cell y12;clear y0 y1 y2 y3 y4 y5 y6 y7 y8 y9 y10 y11 y12;simp only[List.append_eq,List.cons_append,List.nil_append];refine wp_region_below (by kernel_rfl) (by kernel_rfl) ?_
 repeat (go_big_quiet_step (first | (go_at_call 77;with_reducible exact all_bw KH.out _) | (go_at_call 83;with_reducible exact later_bw KU.out HN.out _) | fail))
 refine wpQuiet_nil ?_;intro w5 hw5;obtain⟨m5,rfl⟩:=hw5;have B5:=Lib.hid m5.2;clear p0 p1 p2 p3 p4 p5 p6 p7 p8 p9 p10 p11 p12;go_wp2;go_ret;exact⟨rfl,HN.out.trans (B5.out.mono HN.out.size)⟩
theorem mayb_13 (nu:Nat) (P X B E U:Option Addr) (cp cx cb ce cu:Nat) (pl:Int) (o:Int) (w:World) (KU:Hid (∀ w',Below w.heap.size w w'→Calls Tryz.prog 83 #[.slice U nu cu,.int .i64 o] w' fun e w2=>e= .returned (.bool true)∧Below w'.heap.size w' w2)):
  Calls Tryz.prog 36 #[.agg #[.int .i64 13,.string ⟨#[]⟩,.int .i64 0,.slice P 0 cp,.int .i64 0,.int .i64 0,.string ⟨#[]⟩,.string ⟨#[]⟩,.slice X 0 cx,.slice B 0 cb,.slice E 0 ce,.slice U nu cu,.int .i64 pl],.int .i64 o] w fun e w'=>e= .returned (.bool true)∧Below w.heap.size w w':=by
 have KO:FofC 13 ⟨#[101,120,112,101,99,116,95,98,101,102,111,114,101]⟩ 64:=Lib.hid fun w'=>sform_any 13 (by omega) w'
 unfold FofC at KO;have KH:Hid (∀ w',Calls Tryz.prog 77 #[.agg #[.int .i64 13,.string ⟨#[]⟩,.int .i64 0,.slice P 0 cp,.int .i64 0,.int .i64 0,.string ⟨#[]⟩,.string ⟨#[]⟩,.slice X 0 cx,.slice B 0 cb,.slice E 0 ce,.slice U nu cu,.int .i64 pl],.int .i64 64] w' fun e w2=>e= .returned (.bool true)∧Below w'.heap.size w' w2):=Lib.hid (holds_64 13 nu P X B E U cp cx cb ce cu pl);have HBX:=Lib.hid (one_box13 w [.int .i64 13,.string ⟨#[]⟩,.int .i64 0,.slice P 0 cp,.int .i64 0,.int .i64 0,.string ⟨#[]⟩,.string ⟨#[]⟩,.slice X 0 cx,.slice B 0 cb,.slice E 0 ce,.slice U nu cu,.int .i64 pl] (by simp) 41);have HN:Hid (Below w.heap.size w (w.alloc (.cells #[.int .i64 13,.string ⟨#[]⟩,.int .i64 0,.slice P 0 cp,.int .i64 0,.int .i64 0,.string ⟨#[]⟩,.string ⟨#[]⟩,.slice X 0 cx,.slice B 0 cb,.slice E 0 ce,.slice U nu cu,.int .i64 pl] 41))):=Lib.hid (one_boxX w _);go_enter Tryz.func36,Tryz.ntmps36;go_wp2_with (go_at_call 55;go_must ((with_reducible refine(KO.out _).mono ?_);rintro e w1 ⟨rfl,rfl⟩));obtain⟨V,hV⟩:∃ V,V=(w.alloc (.cells #[.int .i64 13,.string ⟨#[]⟩,.int .i64 0,.slice P 0 cp,.int .i64 0,.int .i64 0,.string ⟨#[]⟩,.string ⟨#[]⟩,.slice X 0 cx,.slice B 0 cb,.slice E 0 ce,.slice U nu cu,.int .i64 pl] 41)):=⟨_,rfl⟩;rw[←hV] at HBX HN ⊢;clear hV;have e1:bits BinOp.and IntKind.i64 64 1=0:=by rfl
 have e2:bits BinOp.and IntKind.i64 64 2=0:=by rfl
 have e4:bits BinOp.and IntKind.i64 64 4=0:=by rfl
 have e8:bits BinOp.and IntKind.i64 64 8=0:=by rfl
 have e16:bits BinOp.and IntKind.i64 64 16=0:=by rfl
 have e32:bits BinOp.and IntKind.i64 64 32=0:=by rfl
 have e64:bits BinOp.and IntKind.i64 64 64=64:=by rfl
 have hne:=bw_some V;obtain⟨y0,y1,y2,y3,y4,y5,y6,y7,y8,y9,y10,y11,y12⟩:=(HBX.out _ (Below.refl _ _)).all13;have p0:=bw_cell y0;have p1:=bw_cell y1;have p2:=bw_cell y2;have p3:=bw_cell y3;have p4:=bw_cell y4;have p5:=bw_cell y5;have p6:=bw_cell y6;have p7:=bw_cell y7;have p8:=bw_cell y8;have p9:=bw_cell y9;have p10:=bw_cell y10;have p11:=bw_cell y11;have p12:=bw_cell y12;clear y0 y1 y2 y3 y4 y5 y6 y7 y8 y9 y10 y11 y12;simp only[List.append_eq,List.cons_append,List.nil_append];refine wp_region_below (by kernel_rfl) (by kernel_rfl) ?_
 repeat (go_big_quiet_step (first | (go_at_call 77;with_reducible exact all_bw KH.out _) | (go_at_call 83;with_reducible exact later_bw KU.out HN.out _) | fail))
 refine wpQuiet_nil ?_;intro w5 hw5;obtain⟨m5,rfl⟩:=hw5;have B5:=Lib.hid m5.2;clear p0 p1 p2 p3 p4 p5 p6 p7 p8 p9 p10 p11 p12;go_wp2;go_ret;exact⟨rfl,HN.out.trans (B5.out.mono HN.out.size)⟩
theorem mayb_14 (nu:Nat) (P X B E U:Option Addr) (cp cx cb ce cu:Nat) (pl:Int) (o:Int) (w:World) (KU:Hid (∀ w',Below w.heap.size w w'→Calls Tryz.prog 83 #[.slice U nu cu,.int .i64 o] w' fun e w2=>e= .returned (.bool true)∧Below w'.heap.size w' w2)):
  Calls Tryz.prog 36 #[.agg #[.int .i64 14,.string ⟨#[]⟩,.int .i64 0,.slice P 0 cp,.int .i64 0,.int .i64 0,.string ⟨#[]⟩,.string ⟨#[]⟩,.slice X 0 cx,.slice B 0 cb,.slice E 0 ce,.slice U nu cu,.int .i64 pl],.int .i64 o] w fun e w'=>e= .returned (.bool true)∧Below w.heap.size w w':=by
 have KO:FofC 14 ⟨#[101,120,112,101,99,116,95,97,102,116,101,114]⟩ 64:=Lib.hid fun w'=>sform_any 14 (by omega) w'
 unfold FofC at KO;have KH:Hid (∀ w',Calls Tryz.prog 77 #[.agg #[.int .i64 14,.string ⟨#[]⟩,.int .i64 0,.slice P 0 cp,.int .i64 0,.int .i64 0,.string ⟨#[]⟩,.string ⟨#[]⟩,.slice X 0 cx,.slice B 0 cb,.slice E 0 ce,.slice U nu cu,.int .i64 pl],.int .i64 64] w' fun e w2=>e= .returned (.bool true)∧Below w'.heap.size w' w2):=Lib.hid (holds_64 14 nu P X B E U cp cx cb ce cu pl);have HBX:=Lib.hid (one_box13 w [.int .i64 14,.string ⟨#[]⟩,.int .i64 0,.slice P 0 cp,.int .i64 0,.int .i64 0,.string ⟨#[]⟩,.string ⟨#[]⟩,.slice X 0 cx,.slice B 0 cb,.slice E 0 ce,.slice U nu cu,.int .i64 pl] (by simp) 41);have HN:Hid (Below w.heap.size w (w.alloc (.cells #[.int .i64 14,.string ⟨#[]⟩,.int .i64 0,.slice P 0 cp,.int .i64 0,.int .i64 0,.string ⟨#[]⟩,.string ⟨#[]⟩,.slice X 0 cx,.slice B 0 cb,.slice E 0 ce,.slice U nu cu,.int .i64 pl] 41))):=Lib.hid (one_boxX w _);go_enter Tryz.func36,Tryz.ntmps36;go_wp2_with (go_at_call 55;go_must ((with_reducible refine(KO.out _).mono ?_);rintro e w1 ⟨rfl,rfl⟩));obtain⟨V,hV⟩:∃ V,V=(w.alloc (.cells #[.int .i64 14,.string ⟨#[]⟩,.int .i64 0,.slice P 0 cp,.int .i64 0,.int .i64 0,.string ⟨#[]⟩,.string ⟨#[]⟩,.slice X 0 cx,.slice B 0 cb,.slice E 0 ce,.slice U nu cu,.int .i64 pl] 41)):=⟨_,rfl⟩;rw[←hV] at HBX HN ⊢;clear hV;have e1:bits BinOp.and IntKind.i64 64 1=0:=by rfl
 have e2:bits BinOp.and IntKind.i64 64 2=0:=by rfl
 have e4:bits BinOp.and IntKind.i64 64 4=0:=by rfl
 have e8:bits BinOp.and IntKind.i64 64 8=0:=by rfl
 have e16:bits BinOp.and IntKind.i64 64 16=0:=by rfl
 have e32:bits BinOp.and IntKind.i64 64 32=0:=by rfl
 have e64:bits BinOp.and IntKind.i64 64 64=64:=by rfl
 have hne:=bw_some V;obtain⟨y0,y1,y2,y3,y4,y5,y6,y7,y8,y9,y10,y11,y12⟩:=(HBX.out _ (Below.refl _ _)).all13;have p0:=bw_cell y0;have p1:=bw_cell y1;have p2:=bw_cell y2;have p3:=bw_cell y3;have p4:=bw_cell y4;have p5:=bw_cell y5;have p6:=bw_cell y6;have p7:=bw_cell y7;have p8:=bw_cell y8;have p9:=bw_cell y9;have p10:=bw_cell y10;have p11:=bw_cell y11;have p12:=bw_cell y12;clear y0 y1 y2 y3 y4 y5 y6 y7 y8 y9 y10 y11 y12;simp only[List.append_eq,List.cons_append,List.nil_append];refine wp_region_below (by kernel_rfl) (by kernel_rfl) ?_
 repeat (go_big_quiet_step (first | (go_at_call 77;with_reducible exact all_bw KH.out _) | (go_at_call 83;with_reducible exact later_bw KU.out HN.out _) | fail))
 refine wpQuiet_nil ?_;intro w5 hw5;obtain⟨m5,rfl⟩:=hw5;have B5:=Lib.hid m5.2;clear p0 p1 p2 p3 p4 p5 p6 p7 p8 p9 p10 p11 p12;go_wp2;go_ret;exact⟨rfl,HN.out.trans (B5.out.mono HN.out.size)⟩
theorem mayb_15 (P X B E U:Option Addr) (cp cx cb ce cu:Nat) (pl:Int) (o:Int) (w:World):
  Calls Tryz.prog 36 #[.agg #[.int .i64 15,.string ⟨#[]⟩,.int .i64 0,.slice P 0 cp,.int .i64 0,.int .i64 0,.string ⟨#[]⟩,.string ⟨#[]⟩,.slice X 0 cx,.slice B 0 cb,.slice E 0 ce,.slice U 0 cu,.int .i64 pl],.int .i64 o] w fun e w'=>e= .returned (.bool true)∧Below w.heap.size w w':=by
 have KO:FofC 15 ⟨#[101,120,112,95,99,111,110,116,105,110,117,101]⟩ 0:=Lib.hid fun w'=>sform_any 15 (by omega) w'
 unfold FofC at KO;have KH:Hid (∀ w',Calls Tryz.prog 77 #[.agg #[.int .i64 15,.string ⟨#[]⟩,.int .i64 0,.slice P 0 cp,.int .i64 0,.int .i64 0,.string ⟨#[]⟩,.string ⟨#[]⟩,.slice X 0 cx,.slice B 0 cb,.slice E 0 ce,.slice U 0 cu,.int .i64 pl],.int .i64 0] w' fun e w2=>e= .returned (.bool true)∧Below w'.heap.size w' w2):=Lib.hid (holds_0 15 P X B E U cp cx cb ce cu pl);have HBX:=Lib.hid (one_box13 w [.int .i64 15,.string ⟨#[]⟩,.int .i64 0,.slice P 0 cp,.int .i64 0,.int .i64 0,.string ⟨#[]⟩,.string ⟨#[]⟩,.slice X 0 cx,.slice B 0 cb,.slice E 0 ce,.slice U 0 cu,.int .i64 pl] (by simp) 41);have HN:Hid (Below w.heap.size w (w.alloc (.cells #[.int .i64 15,.string ⟨#[]⟩,.int .i64 0,.slice P 0 cp,.int .i64 0,.int .i64 0,.string ⟨#[]⟩,.string ⟨#[]⟩,.slice X 0 cx,.slice B 0 cb,.slice E 0 ce,.slice U 0 cu,.int .i64 pl] 41))):=Lib.hid (one_boxX w _);go_enter Tryz.func36,Tryz.ntmps36;go_wp2_with (go_at_call 55;go_must ((with_reducible refine(KO.out _).mono ?_);rintro e w1 ⟨rfl,rfl⟩));obtain⟨V,hV⟩:∃ V,V=(w.alloc (.cells #[.int .i64 15,.string ⟨#[]⟩,.int .i64 0,.slice P 0 cp,.int .i64 0,.int .i64 0,.string ⟨#[]⟩,.string ⟨#[]⟩,.slice X 0 cx,.slice B 0 cb,.slice E 0 ce,.slice U 0 cu,.int .i64 pl] 41)):=⟨_,rfl⟩;rw[←hV] at HBX HN ⊢;clear hV;have e1:bits BinOp.and IntKind.i64 0 1=0:=by rfl
 have e2:bits BinOp.and IntKind.i64 0 2=0:=by rfl
 have e4:bits BinOp.and IntKind.i64 0 4=0:=by rfl
 have e8:bits BinOp.and IntKind.i64 0 8=0:=by rfl
 have e16:bits BinOp.and IntKind.i64 0 16=0:=by rfl
 have e32:bits BinOp.and IntKind.i64 0 32=0:=by rfl
 have e64:bits BinOp.and IntKind.i64 0 64=0:=by rfl
 have hne:=bw_some V;obtain⟨y0,y1,y2,y3,y4,y5,y6,y7,y8,y9,y10,y11,y12⟩:=(HBX.out _ (Below.refl _ _)).all13;have p0:=bw_cell y0;have p1:=bw_cell y1;have p2:=bw_cell y2;have p3:=bw_cell y3;have p4:=bw_cell y4;have p5:=bw_cell y5;have p6:=bw_cell y6;have p7:=bw_cell y7;have p8:=bw_cell y8;have p9:=bw_cell y9;have p10:=bw_cell y10;have p11:=bw_cell y11;have p12:=bw_cell y12;clear y0 y1 y2 y3 y4 y5 y6 y7 y8 y9 y10 y11 y12;simp only[List.append_eq,List.cons_append,List.nil_append];refine wp_region_below (by kernel_rfl) (by kernel_rfl) ?_
 repeat (go_big_quiet_step (first | (go_at_call 77;with_reducible exact all_bw KH.out _) | fail))
 refine wpQuiet_nil ?_;intro w5 hw5;obtain⟨m5,rfl⟩:=hw5;have B5:=Lib.hid m5.2;clear p0 p1 p2 p3 p4 p5 p6 p7 p8 p9 p10 p11 p12;go_wp2;go_ret;exact⟨rfl,HN.out.trans (B5.out.mono HN.out.size)⟩
theorem mayb_16 (P X B E U:Option Addr) (cp cx cb ce cu:Nat) (pl:Int) (o:Int) (w:World):
  Calls Tryz.prog 36 #[.agg #[.int .i64 16,.string ⟨#[]⟩,.int .i64 0,.slice P 0 cp,.int .i64 0,.int .i64 0,.string ⟨#[]⟩,.string ⟨#[]⟩,.slice X 0 cx,.slice B 0 cb,.slice E 0 ce,.slice U 0 cu,.int .i64 pl],.int .i64 o] w fun e w'=>e= .returned (.bool true)∧Below w.heap.size w w':=by
 have KO:FofC 16 ⟨#[101,120,105,116]⟩ 0:=Lib.hid fun w'=>sform_any 16 (by omega) w'
 unfold FofC at KO;have KH:Hid (∀ w',Calls Tryz.prog 77 #[.agg #[.int .i64 16,.string ⟨#[]⟩,.int .i64 0,.slice P 0 cp,.int .i64 0,.int .i64 0,.string ⟨#[]⟩,.string ⟨#[]⟩,.slice X 0 cx,.slice B 0 cb,.slice E 0 ce,.slice U 0 cu,.int .i64 pl],.int .i64 0] w' fun e w2=>e= .returned (.bool true)∧Below w'.heap.size w' w2):=Lib.hid (holds_0 16 P X B E U cp cx cb ce cu pl);have HBX:=Lib.hid (one_box13 w [.int .i64 16,.string ⟨#[]⟩,.int .i64 0,.slice P 0 cp,.int .i64 0,.int .i64 0,.string ⟨#[]⟩,.string ⟨#[]⟩,.slice X 0 cx,.slice B 0 cb,.slice E 0 ce,.slice U 0 cu,.int .i64 pl] (by simp) 41);have HN:Hid (Below w.heap.size w (w.alloc (.cells #[.int .i64 16,.string ⟨#[]⟩,.int .i64 0,.slice P 0 cp,.int .i64 0,.int .i64 0,.string ⟨#[]⟩,.string ⟨#[]⟩,.slice X 0 cx,.slice B 0 cb,.slice E 0 ce,.slice U 0 cu,.int .i64 pl] 41))):=Lib.hid (one_boxX w _);go_enter Tryz.func36,Tryz.ntmps36;go_wp2_with (go_at_call 55;go_must ((with_reducible refine(KO.out _).mono ?_);rintro e w1 ⟨rfl,rfl⟩));obtain⟨V,hV⟩:∃ V,V=(w.alloc (.cells #[.int .i64 16,.string ⟨#[]⟩,.int .i64 0,.slice P 0 cp,.int .i64 0,.int .i64 0,.string ⟨#[]⟩,.string ⟨#[]⟩,.slice X 0 cx,.slice B 0 cb,.slice E 0 ce,.slice U 0 cu,.int .i64 pl] 41)):=⟨_,rfl⟩;rw[←hV] at HBX HN ⊢;clear hV;have e1:bits BinOp.and IntKind.i64 0 1=0:=by rfl
 have e2:bits BinOp.and IntKind.i64 0 2=0:=by rfl
 have e4:bits BinOp.and IntKind.i64 0 4=0:=by rfl
 have e8:bits BinOp.and IntKind.i64 0 8=0:=by rfl
 have e16:bits BinOp.and IntKind.i64 0 16=0:=by rfl
 have e32:bits BinOp.and IntKind.i64 0 32=0:=by rfl
 have e64:bits BinOp.and IntKind.i64 0 64=0:=by rfl
 have hne:=bw_some V;obtain⟨y0,y1,y2,y3,y4,y5,y6,y7,y8,y9,y10,y11,y12⟩:=(HBX.out _ (Below.refl _ _)).all13;have p0:=bw_cell y0;have p1:=bw_cell y1;have p2:=bw_cell y2;have p3:=bw_cell y3;have p4:=bw_cell y4;have p5:=bw_cell y5;have p6:=bw_cell y6;have p7:=bw_cell y7;have p8:=bw_cell y8;have p9:=bw_cell y9;have p10:=bw_cell y10;have p11:=bw_cell y11;have p12:=bw_cell y12;clear y0 y1 y2 y3 y4 y5 y6 y7 y8 y9 y10 y11 y12;simp only[List.append_eq,List.cons_append,List.nil_append];refine wp_region_below (by kernel_rfl) (by kernel_rfl) ?_
 repeat (go_big_quiet_step (first | (go_at_call 77;with_reducible exact all_bw KH.out _) | fail))
 refine wpQuiet_nil ?_;intro w5 hw5;obtain⟨m5,rfl⟩:=hw5;have B5:=Lib.hid m5.2;clear p0 p1 p2 p3 p4 p5 p6 p7 p8 p9 p10 p11 p12;go_wp2;go_ret;exact⟨rfl,HN.out.trans (B5.out.mono HN.out.size)⟩
def okNm (nm:Bs):Prop:=isName nm=true∧nm.length≤1000000∧∀ c t,nm=c::t→c.toNat<48∨57<c.toNat
def okTx (ps:List Pt):Prop:=may false ps=true∧ps.length≤1000000∧∀ p∈ps,p.1.length≤1000000
def okCo (x:Ex):Prop:=mayX x 0=true∧nmX x≤1000000∧sizeX x≤1000000
mutual
inductive MyC:Int→Cm→Prop where
 | k1 {o nm ps p}:okNm nm→okTx ps→MyC o (.mk 1 nm 0 ps exNone [] [] [] p)
 | k2 {o nm x p}:okNm nm→okCo x→MyC o (.mk 2 nm 0 [] x [] [] [] p)
 | k3 {o nm n p}:okNm nm→ -9223372036854775807≤n→MyC o (.mk 3 nm n [] exNone [] [] [] p)
 | k4 {o x b e p}:okCo x→o<16→b.length≤1000000→e.length≤1000000→(∀ c∈b,MyC (o+1) c)→(∀ c∈e,MyC (o+1) c)→MyC o (.mk 4 [] 0 [] x b e [] p)
 | k5 {o x b p}:okCo x→o<16→b.length≤1000000→(∀ c∈b,MyC (o+1) c)→MyC o (.mk 5 [] 0 [] x b [] [] p)
 | k6 {o nm b p}:okNm nm→o<16→b.length≤1000000→(∀ c∈b,MyC (o+1) c)→MyC o (.mk 6 nm 0 [] exNone b [] [] p)
 | k7 {o nm p}:okNm nm→MyC o (.mk 7 nm 0 [] exNone [] [] [] p)
 | k8 {o n p}:0≤n→MyC o (.mk 8 [] n [] exNone [] [] [] p)
 | k9 {o n p}:0≤n→MyC o (.mk 9 [] n [] exNone [] [] [] p)
 | k10 {o ps p}:okTx ps→MyC o (.mk 10 [] 0 ps exNone [] [] [] p)
 | k11 {o n p}: -1≤n→MyC o (.mk 11 [] n [] exNone [] [] [] p)
 | k12 {o u p}:u≠[]→o<16→u.length≤1000000→(∀ r∈u,MyR (o+1) r)→MyC o (.mk 12 [] 0 [] exNone [] [] u p)
 | k13 {o u p}:u≠[]→o<16→u.length≤1000000→(∀ r∈u,MyR (o+1) r)→MyC o (.mk 13 [] 0 [] exNone [] [] u p)
 | k14 {o u p}:u≠[]→o<16→u.length≤1000000→(∀ r∈u,MyR (o+1) r)→MyC o (.mk 14 [] 0 [] exNone [] [] u p)
 | k15 {o p}:MyC o (.mk 15 [] 0 [] exNone [] [] [] p)
 | k16 {o p}:MyC o (.mk 16 [] 0 [] exNone [] [] [] p)
inductive MyR:Int→Ru→Prop where
 | mk {o k q pk pt b p}:okRu k q pk pt→o<16→b.length≤1000000→(∀ c∈b,MyC (o+1) c)→MyR o (.mk k q pk pt b p)
end
def PMc (c:Cm):Prop:=∀ (o:Int) (lk:Lk) (w:World),0≤o→o≤16→MyC o c→KidC (LtX w.heap.size) w lk c→Calls Tryz.prog 36 #[valC c lk,.int .i64 o] w fun e w'=>e= .returned (.bool true)∧Below w.heap.size w w'
def PMr (r:Ru):Prop:=∀ (o:Int) (A:Option Addr) (c:Nat) (w:World),0≤o→o<16→MyR o r→KidR (LtX w.heap.size) w A r→Calls Tryz.prog 82 #[.slice A r.body.length c,.int .i64 o] w fun e w'=>e= .returned (.bool true)∧Below w.heap.size w w'
theorem mstand_list (ks:List Cm) (ih:∀ x∈ks,PMc x) (o:Int) (A:Option Addr) (c:Nat) (w:World) (h0:0≤o) (h1:o≤16) (hy:∀ x∈ks,MyC o x) (hk:RowC (LtX w.heap.size) w A ks) (hl:ks.length≤1000000):
  Calls Tryz.prog 23 #[.slice A ks.length c,.int .i64 o] w fun e w'=>e= .returned (.bool true)∧Below w.heap.size w w':=by
 obtain⟨m,hm⟩:∃ m,m=ks.length:=⟨_,rfl⟩;rw[←hm] at hl ⊢;have HM:=Lib.hid hm;have HK:=Lib.hid hk;have HI:=Lib.hid ih;have HY:=Lib.hid hy;have H0:=Lib.hid (And.intro h0 h1);clear hm hk ih hy h0 h1;go_enter Tryz.func23,Tryz.ntmps23;go_wp2
 go_loopw [9] (fun i wr=>∃ j:Nat,j≤m∧i= .int .i64 j∧Below w.heap.size w wr) (fun i _=>m - (intOf i).toNat)
 case atStart=>exact⟨0,by omega,rfl,Below.refl _ _⟩
 case round=>
  obtain⟨j,hj,rfl,hb⟩:=hrel;obtain⟨V,hV⟩:∃ V,V=wr:=⟨_,rfl⟩;subst hV;have HB:=Lib.hid hb;by_cases a:j<m
  ·obtain⟨r,hr⟩:=getX_of_lt HM.out a
   obtain⟨ad,lk,rfl,hp,h9,hkr⟩:=rowC_at HK.out hb hr;obtain⟨lp,lcp,lx,lcx,lb,lcb,le,lce,lu,lcu⟩:=lk;have hmem:=List.mem_of_getElem? hr
   have KM:Hid (∀ w',Below V.heap.size V w'→Calls Tryz.prog 36 #[.agg #[.int .i64 r.kind,.string ⟨r.name.toArray⟩,.int .i64 r.n,.slice lp r.parts.length lcp,.int .i64 r.cond.kind,.int .i64 r.cond.n,.string ⟨r.cond.name.toArray⟩,.string ⟨r.cond.op.toArray⟩,.slice lx r.cond.kids.length lcx,.slice lb r.body.length lcb,.slice le r.els.length lce,.slice lu r.rules.length lcu,.int .i64 r.pl],.int .i64 o] w' fun e w2=>e= .returned (.bool true)∧Below w'.heap.size w' w2):=Lib.hid fun w' hw=>
    HI.out r hmem o ⟨lp,lcp,lx,lcx,lb,lcb,le,lce,lu,lcu⟩ w' H0.out.1 H0.out.2 (HY.out r hmem) ((hkr.of (fun _ h=>hb.cell h) fun _ h=>Nat.lt_of_lt_of_le h hb.size:KidC (LtX V.heap.size) V ⟨lp,lcp,lx,lcx,lb,lcb,le,lce,lu,lcu⟩ r).next hw)
   have hbt:(ad.add (j * 13)).block<V.heap.size:=by rw[blockX_add];have:=hb.size;omega
   have h9:LieL V (ad.add (j * 13)) [.int .i64 r.kind,.string ⟨r.name.toArray⟩,.int .i64 r.n,.slice lp r.parts.length lcp,.int .i64 r.cond.kind,.int .i64 r.cond.n,.string ⟨r.cond.name.toArray⟩,.string ⟨r.cond.op.toArray⟩,.slice lx r.cond.kids.length lcx,.slice lb r.body.length lcb,.slice le r.els.length lce,.slice lu r.rules.length lcu,.int .i64 r.pl]:=h9;obtain⟨c0,c1,c2,c3,c4,c5,c6,c7,c8,c9,c10,c11,c12⟩:=h9.at13;clear hr hmem hkr h9 hp hb;go_wp2_with (go_at_call 36;go_must ((with_reducible refine(KM.out _ (one_boxX V _)).mono ?_);rintro e w3 ⟨rfl,hb3⟩;have HB3:=Lib.hid ((one_boxX V _).trans (hb3.mono (by simp)));clear hb3))
   go_roundw
   case rel=>exact⟨j+1,by omega,by go_num,HB.out.trans (HB3.out.mono HB.out.size)⟩
   case measure=>simp[intOf];omega
  ·go_wp2
   go_ret;exact⟨rfl,HB.out⟩
theorem mblock_any (ks:List Cm) (ih:∀ x∈ks,PMc x) (o:Int) (A:Option Addr) (c:Nat) (w:World) (h0:0≤o) (h1:o<16) (hy:∀ x∈ks,MyC (o+1) x) (hk:RowC (LtX w.heap.size) w A ks) (hl:ks.length≤1000000):
  Calls Tryz.prog 82 #[.slice A ks.length c,.int .i64 o] w fun e w'=>e= .returned (.bool true)∧Below w.heap.size w w':=by
 have K:Hid (∀ w',Below w.heap.size w w'→Calls Tryz.prog 23 #[.slice A ks.length c,.int .i64 (o+1)] w' fun e w2=>e= .returned (.bool true)∧Below w'.heap.size w' w2):=Lib.hid fun w' hw=>mstand_list ks ih (o+1) A c w' (by omega) (by omega) hy (hk.next hw) hl
 generalize ks.length=n at K;clear hy hk ih hl;go_enter Tryz.func82,Tryz.ntmps82;go_wp2_with (go_at_call 23;go_must ((with_reducible refine(K.out _ (by first | exact Below.refl _ _ | exact(Below.refl _ _).drew)).mono ?_);rintro e w3 ⟨rfl,hb3⟩;have HB3:=Lib.hid hb3;clear hb3));go_ret;exact⟨rfl,HB3.out⟩
theorem mrules_list (ks:List Ru) (ih:∀ x∈ks,PMr x) (o:Int) (A:Option Addr) (c:Nat) (w:World) (h0:0≤o) (h1:o<16) (hne:ks≠[]) (hy:∀ x∈ks,MyR (o+1) x) (hk:RowU (LtX w.heap.size) w A ks) (hl:ks.length≤1000000):
  Calls Tryz.prog 83 #[.slice A ks.length c,.int .i64 o] w fun e w'=>e= .returned (.bool true)∧Below w.heap.size w w':=by
 obtain⟨m,hm⟩:∃ m,m=ks.length:=⟨_,rfl⟩;rw[←hm] at hl ⊢;have hm0:0<m:=by rw[hm];exact List.length_pos_iff.2 hne
 have z1:((m:Int)==0)=false:=by simp;omega
 have z2:(o==16)=false:=by simp;omega
 have HM:=Lib.hid hm;have HK:=Lib.hid hk;have HI:=Lib.hid ih;have HY:=Lib.hid hy;have H0:=Lib.hid (And.intro h0 h1);clear hm hk ih hy hne;go_enter Tryz.func83,Tryz.ntmps83;go_wp2
 go_loopw [16] (fun i wr=>∃ j:Nat,j≤m∧i= .int .i64 j∧Below w.heap.size w wr) (fun i _=>m - (intOf i).toNat)
 case atStart=>exact⟨0,by omega,rfl,Below.refl _ _⟩
 case round=>
  obtain⟨j,hj,rfl,hb⟩:=hrel;obtain⟨V,hV⟩:∃ V,V=wr:=⟨_,rfl⟩;subst hV;have HB:=Lib.hid hb;by_cases a:j<m
  ·obtain⟨r,hr⟩:=getX_of_lt HM.out a
   obtain⟨ad,lb,lcb,rfl,hp,h9,hkr⟩:=rowU_at HK.out hb hr;have hmem:=List.mem_of_getElem? hr;have hyr:=HY.out r hmem;have h16:o+1<16∧okRu r.kind r.peer r.pk r.pt:=by cases hyr with | mk a1 a2 a3 a4=>exact⟨a2,a1⟩
   have KU:Hid (∀ w',Calls Tryz.prog 115 #[.agg #[.int .i64 r.kind,.int .i64 r.peer,.int .i64 r.pk,.string ⟨r.pt.toArray⟩,.slice lb r.body.length lcb,.int .i64 r.pl]] w' fun e w2=>e= .returned (.bool true)∧Below w'.heap.size w' w2):=Lib.hid fun w'=>smayrule_any _ _ _ _ _ _ _ _ h16.2 w'
   have KB:Hid (∀ w',Below V.heap.size V w'→Calls Tryz.prog 82 #[.slice lb r.body.length lcb,.int .i64 (o+1)] w' fun e w2=>e= .returned (.bool true)∧Below w'.heap.size w' w2):=Lib.hid fun w' hw=>
    HI.out r hmem (o+1) lb lcb w' (by have:=H0.out.1;omega) h16.1 hyr (kidR_eq.2 ((kidR_eq.1 (hkr.of (fun _ h=>hb.cell h) fun _ h=>Nat.lt_of_lt_of_le h hb.size:KidR (LtX V.heap.size) V lb r)).next hw))
   have hbt:(ad.add (j * 6)).block<V.heap.size:=by rw[blockX_add];have:=hb.size;omega
   have h9:LieL V (ad.add (j * 6)) [.int .i64 r.kind,.int .i64 r.peer,.int .i64 r.pk,.string ⟨r.pt.toArray⟩,.slice lb r.body.length lcb,.int .i64 r.pl]:=h9;obtain⟨c0,c1,c2,c3,c4,c5⟩:=h9.at6;have HBX:=Lib.hid (one_box13 V [.int .i64 r.kind,.int .i64 r.peer,.int .i64 r.pk,.string ⟨r.pt.toArray⟩,.slice lb r.body.length lcb,.int .i64 r.pl] (by simp) 65);clear hr hmem hkr h9 hp hb hyr h16;go_wp2_with (first | (go_at_call 115;go_must ((with_reducible refine(KU.out _).mono ?_);rintro e w3 ⟨rfl,hb3⟩;have HT3:=Lib.hid hb3;have y4:=(HBX.out _ hb3).at_ 4 _ rfl;clear hb3)) | (go_at_call 82;go_must ((with_reducible refine(KB.out _ ((one_boxX V _).trans (HT3.out.mono (by simp)))).mono ?_);rintro e w4 ⟨rfl,hb4⟩;have HB3:=Lib.hid ((one_boxX V _).trans ((HT3.out.trans (hb4.mono HT3.out.size)).mono (by simp)));clear hb4)))
   go_roundw
   case rel=>exact⟨j+1,by omega,by go_num,HB.out.trans (HB3.out.mono HB.out.size)⟩
   case measure=>simp[intOf];omega
  ·go_wp2
   go_ret;exact⟨rfl,HB.out⟩
theorem kn_of {nm:Bs} (h:okNm nm):Hid (∀ w',Calls Tryz.prog 78 #[.string ⟨nm.toArray⟩] w' fun e w2=>e= .returned (.bool true)∧w'=w2):=Lib.hid fun w'=>by
 obtain⟨h1,h2,h3⟩:=h
 cases nm with
 | nil=>exact absurd h1 (by decide)
 | cons c t=>exact sisname_any ⟨(c::t).toArray⟩ (by show (c::t).toArray.size≤_;simp only[List.size_toArray];omega) (by show isName ((c::t).toArray).toList=true;simpa using h1) (by show 0<(c::t).toArray.size;simp) (h3 c t rfl) w'
theorem kq_of {w:World} {A:Option Addr} {ps:List Pt} {c:Nat} (k:RdP (LtX w.heap.size) w A ps) (h:okTx ps):Hid (∀ w',Below w.heap.size w w'→Calls Tryz.prog 80 #[.slice A ps.length c] w' fun e w2=>e= .returned (.bool true)∧Below w'.heap.size w' w2):=Lib.hid fun w' hw=>by
 have:=may_any A ps.length c ps w' (rdP_rd.1 (k.next hw)) h.2.1 h.2.2;rw[h.1] at this;exact this
theorem kx_of {w:World} {A:Option Addr} {x:Ex} {c:Nat} (k:KidsX (LtX w.heap.size) w A x) (h:okCo x):Hid (∀ w',Below w.heap.size w w'→Calls Tryz.prog 81 #[.agg #[.int .i64 x.kind,.int .i64 x.n,.string ⟨x.name.toArray⟩,.string ⟨x.op.toArray⟩,.slice A x.kids.length c]] w' fun e w2=>e= .returned (.bool true)∧Below w'.heap.size w' w2):=Lib.hid fun w' hw=>by
 have:=cmay_any x A c w' (k.next hw) h.2.1 h.2.2;rw[h.1,valX_eq] at this;exact this
theorem kb_of {w:World} {A:Option Addr} {b:List Cm} {c:Nat} {o:Int} (hb:∀ x∈b,PMc x) (h0:0≤o) (h1:o<16) (hl:b.length≤1000000) (hy:∀ x∈b,MyC (o+1) x) (k:RowC (LtX w.heap.size) w A b):Hid (∀ w',Below w.heap.size w w'→Calls Tryz.prog 82 #[.slice A b.length c,.int .i64 o] w' fun e w2=>e= .returned (.bool true)∧Below w'.heap.size w' w2):=Lib.hid fun w' hw=>
 mblock_any b hb o A c w' h0 h1 hy (k.next hw) hl
theorem ku_of {w:World} {A:Option Addr} {b:List Ru} {c:Nat} {o:Int} (hb:∀ x∈b,PMr x) (h0:0≤o) (h1:o<16) (hne:b≠[]) (hl:b.length≤1000000) (hy:∀ x∈b,MyR (o+1) x) (k:RowU (LtX w.heap.size) w A b):Hid (∀ w',Below w.heap.size w w'→Calls Tryz.prog 83 #[.slice A b.length c,.int .i64 o] w' fun e w2=>e= .returned (.bool true)∧Below w'.heap.size w' w2):=Lib.hid fun w' hw=>
 mrules_list b hb o A c w' h0 h1 hne hy (k.next hw) hl
theorem pmc_step (k:Int) (nm:Bs) (n:Int) (ps:List Pt) (x:Ex) (b e:List Cm) (u:List Ru) (p:Int) (hb:∀ c∈b,PMc c) (he:∀ c∈e,PMc c) (hu:∀ r∈u,PMr r):PMc (.mk k nm n ps x b e u p):=by
 intro o lk w h0 h1 hy hk;rw[kidC_eq] at hk;obtain⟨k1,k3,k4,k5,k6⟩:=hk;obtain⟨lp,lcp,lx,lcx,lb,lcb,le,lce,lu,lcu⟩:=lk
 cases hy with
 | k1 a1 a2=>exact mayb_1 _ _ _ _ _ _ _ _ _ _ _ _ _ o w (kn_of a1) (kq_of k1 a2)
 | k2 a1 a2=>exact mayb_2 _ _ _ _ _ _ _ _ _ _ _ _ _ _ _ _ _ o w (kn_of a1) (kx_of k3 a2)
 | k3 a1 a2=>exact mayb_3 _ _ _ _ _ _ _ _ _ _ _ _ _ o w (kn_of a1) a2
 | k4 a1 a2 a3 a4 a5 a6=>exact mayb_4 _ _ _ _ _ _ _ _ _ _ _ _ _ _ _ _ _ _ o w (kx_of k3 a1) (kb_of hb h0 a2 a3 a5 k4) (kb_of he h0 a2 a4 a6 k5)
 | k5 a1 a2 a3 a4=>exact mayb_5 _ _ _ _ _ _ _ _ _ _ _ _ _ _ _ _ _ o w (kx_of k3 a1) (kb_of hb h0 a2 a3 a4 k4)
 | k6 a1 a2 a3 a4=>exact mayb_6 _ _ _ _ _ _ _ _ _ _ _ _ _ o w (kn_of a1) (kb_of hb h0 a2 a3 a4 k4)
 | k7 a1=>exact mayb_7 _ _ _ _ _ _ _ _ _ _ _ _ o w (kn_of a1)
 | k8 a1=>exact mayb_8 _ _ _ _ _ _ _ _ _ _ _ _ o w a1
 | k9 a1=>exact mayb_9 _ _ _ _ _ _ _ _ _ _ _ _ o w a1
 | k10 a1=>exact mayb_10 _ _ _ _ _ _ _ _ _ _ _ _ o w (kq_of k1 a1)
 | k11 a1=>exact mayb_11 _ _ _ _ _ _ _ _ _ _ _ _ o w a1
 | k12 a1 a2 a3 a4=>exact mayb_12 _ _ _ _ _ _ _ _ _ _ _ _ o w (ku_of hu h0 a2 a1 a3 a4 k6)
 | k13 a1 a2 a3 a4=>exact mayb_13 _ _ _ _ _ _ _ _ _ _ _ _ o w (ku_of hu h0 a2 a1 a3 a4 k6)
 | k14 a1 a2 a3 a4=>exact mayb_14 _ _ _ _ _ _ _ _ _ _ _ _ o w (ku_of hu h0 a2 a1 a3 a4 k6)
 | k15=>exact mayb_15 _ _ _ _ _ _ _ _ _ _ _ o w
 | k16=>exact mayb_16 _ _ _ _ _ _ _ _ _ _ _ o w
theorem pmr_step (k q pk:Int) (pt:Bs) (b:List Cm) (p:Int) (hb:∀ c∈b,PMc c):PMr (.mk k q pk pt b p):=by
 intro o A c w h0 h1 hy hk
 cases hy with
 | mk a1 a2 a3 a4=>exact mblock_any b hb o A c w h0 a2 a4 (kidR_eq.1 hk) a3
theorem pm_all:(∀ c,PMc c)∧∀ r,PMr r:=Cm.ind2 (P:=PMc) (Q:=PMr) pmc_step pmr_step
theorem cmayS_any (b:List Cm) (A:Option Addr) (c:Nat) (w:World) (hk:RowC (LtX w.heap.size) w A b) (hy:∀ x∈b,MyC 0 x) (hl:b.length≤1000000):
  Calls Tryz.prog 10 #[.slice A b.length c] w fun e w'=>e= .returned (.bool true)∧Below w.heap.size w w':=by
 have K:Hid (∀ w',Below w.heap.size w w'→Calls Tryz.prog 23 #[.slice A b.length c,.int .i64 0] w' fun e w2=>e= .returned (.bool true)∧Below w'.heap.size w' w2):=Lib.hid fun w' hw=>mstand_list b (fun x _=>pm_all.1 x) 0 A c w' (by decide) (by decide) hy (hk.next hw) hl
 generalize b.length=n at K;clear hk hy hl;go_enter Tryz.func10,Tryz.ntmps10;go_wp2_with (go_at_call 23;go_must ((with_reducible refine(K.out _ (Below.refl _ _)).mono ?_);rintro e w3 ⟨rfl,hb3⟩;have HB3:=Lib.hid hb3;clear hb3));go_ret;exact⟨rfl,HB3.out⟩
end Go.Proofs.YtngfihoempcplaaGreatDoor
