import Derived.Handy
import Derived.Laws.CopyOwn
import Derived.Deep.RegionHeld3
import Derived.Test.YtejgbpbljdhndaaDoorG3
import Derived.Test.YtejgbpbljdhndaaDoorSetW
namespace Go.Proofs.YtejgbpbljdhndaaDoor
open Go Go.RowKit
set_option maxRecDepth 100000
set_option maxHeartbeats 4000000
def OvPost (N:Nat) (R:Nat→Nat→Prop) (w:World) (F:Nat→Bool) (e:Ending) (w':World):Prop:=
 ∃ (g':Nat) (F':Nat→Bool),e= .returned (.slice (some ⟨g',0,none⟩) N N)∧Hid (w.heap.size≤g'∧BRow w' g' N F'∧(∀ j,PB N F' j ↔ stepP R (PB N F) j)∧Below w.heap.size w w')
def OvC (s:ByteArray) (b e:Bool) (x:Re):Prop:=∀ (A:Option Addr) (c:Nat) (w:World) (g:Nat) (F:Nat→Bool),Kids (Lt w.heap.size) w A x→BRow w g (s.size+1) F→
 Calls Tryd.prog 10 #[valR x A c,.string s,.slice (some ⟨g,0,none⟩) (s.size+1:Nat) (s.size+1:Nat),.bool b,.bool e] w (OvPost (s.size+1) (Way s.data.toList b e x) w F)
def RepC (s:ByteArray) (b e:Bool) (x:Re):Prop:=∀ (A:Option Addr) (c:Nat) (w:World) (g:Nat) (F:Nat→Bool),Kids (Lt w.heap.size) w A x→BRow w g (s.size+1) F→
 Calls Tryd.prog 23 #[valR x A c,.string s,.slice (some ⟨g,0,none⟩) (s.size+1:Nat) (s.size+1:Nat),.bool b,.bool e] w (OvPost (s.size+1) (Way s.data.toList b e x) w F)
theorem OvPost.ret {N:Nat} {R:Nat→Nat→Prop} {w w':World} {F F':Nat→Bool} {g':Nat} {v:Value} (hv:v= .slice (some ⟨g',0,none⟩) N N) (hg:w.heap.size≤g') (hb:BRow w' g' N F') (hX:∀ j,PB N F' j ↔ stepP R (PB N F) j) (h:Below w.heap.size w w'):OvPost N R w F (.returned v) w':=
 ⟨g',F',by rw[hv],Lib.hid ⟨hg,hb,hX,h⟩⟩
theorem OvPost.low {N:Nat} {R R':Nat→Nat→Prop} {w w1 w':World} {F F1:Nat→Bool} {e:Ending} (h:OvPost N R w1 F1 e w') (hb:Below w.heap.size w w1) (hX:∀ j,stepP R (PB N F1) j ↔ stepP R' (PB N F) j):OvPost N R' w F e w':=by
 obtain⟨g',F',h1,h2⟩:=h;obtain⟨q1,q2,q3,q4⟩:=h2.out;exact⟨g',F',h1,Lib.hid ⟨Nat.le_trans hb.size q1,q2,fun j=>(q3 j).trans (hX j),hb.trans (q4.mono hb.size)⟩⟩
theorem ov_0 (s:ByteArray) (b e:Bool) (hs:s.size≤100000) (S:S4) (ks:List Re) (lo hi n:Int):OvC s b e (.mk 0 S ks lo hi n):=by
 intro A c w g F hk hg;have hl:s.data.toList.length=s.size:=rfl;obtain⟨N,hN⟩:∃ N:Nat,N=s.size+1:=⟨_,rfl⟩;obtain⟨R,hR⟩:∃ R,R=Way s.data.toList b e (.mk 0 S ks lo hi n):=⟨_,rfl⟩;obtain⟨m,hm⟩:∃ m,m=ks.length:=⟨_,rfl⟩;rw[←hN,←hR];rw[←hN] at hg;simp only[valR];rw[←hm];obtain⟨s0,hs0⟩:∃ s0:Int,s0=S.1.toNat:=⟨_,rfl⟩;obtain⟨s1,hs1⟩:∃ s1:Int,s1=S.2.1.toNat:=⟨_,rfl⟩;obtain⟨s2,hs2⟩:∃ s2:Int,s2=S.2.2.1.toNat:=⟨_,rfl⟩;obtain⟨s3,hs3⟩:∃ s3:Int,s3=S.2.2.2.toNat:=⟨_,rfl⟩;rw[←hs0,←hs1,←hs2,←hs3];have e1:(s.size:Int)+1=(N:Int):=by omega
 have hN9:N≤100001:=by omega
 have hmk:=run_make_row' (P:=Tryd.prog) 38 4 (.bool false) 1 Tryd.underlying38 infoB rfl .i64 .i64 N (by omega) (by omega);have hglt:=hg.lt
 have hb1:∀ o,BRow ((w.alloc o).alloc (.cells (madeCells #[.bool false] N) 4)) (w.heap.size+1) N (fun _=>false):=fun o=>by
  have:=BRow.made (w.alloc o) N;simpa only[World.size_alloc] using this
 have hb2:∀ o,BRow ((w.alloc o).alloc (.cells (madeCells #[.bool false] N) 4)) g N F:=fun o=>(hg.below (z0b w _) hglt).below (z0b _ _) (by simp;omega)
 have hbb:∀ o o',Below w.heap.size w ((w.alloc o).alloc o'):=z0e w;have hX:∀ j,PB N F j ↔ stepP R (PB N F) j:=fun j=>by rw[hR];exact(x3a rfl).symm
 have hcp:=fun o=>z6j (P:=Tryd.prog) _ 38 38 3 Tryd.underlying38 infoB (hb1 o) (hb2 o)
 have HE:Hid (∀ o v,v= .slice (some ⟨w.heap.size+1,0,none⟩) N N→OvPost N R w F (.returned v) (((w.alloc o).alloc (.cells (madeCells #[.bool false] N) 4)).setRow (w.heap.size+1) (rowB N F))):=Lib.hid fun o v hv=>
  OvPost.ret hv (by omega) ((hb1 o).copied F) hX (below_setRow (hbb o _) (by omega) _)
 clear hX hb1 hb2 hbb;clear hR hs0 hs1 hs2 hs3 hm hN hk hg hl;go_enter Tryd.func10,Tryd.ntmps10;go_wp2;go_ret;exact HE.out _ _ rfl
theorem ov_2 (s:ByteArray) (b e:Bool) (hs:s.size≤100000) (S:S4) (ks:List Re) (lo hi n:Int):OvC s b e (.mk 2 S ks lo hi n):=by
 intro A c w g F hk hg;have hl:s.data.toList.length=s.size:=rfl;obtain⟨N,hN⟩:∃ N:Nat,N=s.size+1:=⟨_,rfl⟩;obtain⟨R,hR⟩:∃ R,R=Way s.data.toList b e (.mk 2 S ks lo hi n):=⟨_,rfl⟩;obtain⟨m,hm⟩:∃ m,m=ks.length:=⟨_,rfl⟩;rw[←hN,←hR];rw[←hN] at hg;simp only[valR];rw[←hm];obtain⟨s0,hs0⟩:∃ s0:Int,s0=S.1.toNat:=⟨_,rfl⟩;obtain⟨s1,hs1⟩:∃ s1:Int,s1=S.2.1.toNat:=⟨_,rfl⟩;obtain⟨s2,hs2⟩:∃ s2:Int,s2=S.2.2.1.toNat:=⟨_,rfl⟩;obtain⟨s3,hs3⟩:∃ s3:Int,s3=S.2.2.2.toNat:=⟨_,rfl⟩;rw[←hs0,←hs1,←hs2,←hs3];have e1:(s.size:Int)+1=(N:Int):=by omega
 have hN9:N≤100001:=by omega
 have hmk:=run_make_row' (P:=Tryd.prog) 38 4 (.bool false) 1 Tryd.underlying38 infoB rfl .i64 .i64 N (by omega) (by omega);have hglt:=hg.lt
 have hb1:∀ o,BRow ((w.alloc o).alloc (.cells (madeCells #[.bool false] N) 4)) (w.heap.size+1) N (fun _=>false):=fun o=>by
  have:=BRow.made (w.alloc o) N;simpa only[World.size_alloc] using this
 have hb2:∀ o,BRow ((w.alloc o).alloc (.cells (madeCells #[.bool false] N) 4)) g N F:=fun o=>(hg.below (z0b w _) hglt).below (z0b _ _) (by simp;omega)
 have hbb:∀ o o',Below w.heap.size w ((w.alloc o).alloc o'):=z0e w
 have hX:∀ u,(F 0 && b)=u→∀ j,PB N (fun k=>if k=0 then u else false) j ↔ stepP R (PB N F) j:=fun u hu j=>by
  rw[hR,x4d rfl];subst hu;unfold PB
  constructor
  ·rintro⟨h1,h2⟩
   by_cases h0:j=0
   ·subst h0;simp only[if_pos,Bool.and_eq_true] at h2;exact⟨rfl,⟨h1,h2.1⟩,h2.2⟩
   ·dsimp only at h2;rw[if_neg h0] at h2;cases h2
  ·rintro⟨rfl,⟨h1,h2⟩,h3⟩
   exact⟨h1,by simp[h2,h3]⟩
 have HE:Hid (∀ o u v,(F 0 && b)=u→v= .slice (some ⟨w.heap.size+1,0,none⟩) N N→OvPost N R w F (.returned v) ((w.alloc o).alloc (.cells ((madeCells #[.bool false] N).setIfInBounds 0 (.bool u)) 4))):=Lib.hid fun o u v hu hv=>by
  rw[madeB,z6c];have h1:=BRow.new (w.alloc o) N (fun k=>if k=0 then u else false);simp only[World.size_alloc] at h1;exact OvPost.ret hv (by omega) h1 (hX u hu) (hbb o _)
 have d0:=fun o=>(hb2 o).cell (i:=0) (by omega)
 have f0:=fun o=>(hb1 o).free 0
 have c0:=fun o=>(hb1 o).cell (i:=0) (by omega)
 have hN1:0<N:=by omega
 clear hX hb1 hb2 hbb;clear hR hs0 hs1 hs2 hs3 hm hN hk hg hl;obtain⟨u,hu⟩:∃ u,u=F 0:=⟨_,rfl⟩;rw[←hu] at d0 HE;clear hu
 cases u <;> (
  go_enter Tryd.func10,Tryd.ntmps10;go_wp2;go_ret
  first | exact HE.out _ false _ (by simp) rfl | exact HE.out _ b _ (by simp) rfl | exact HE.out _ e _ (by simp) rfl)
theorem ov_3 (s:ByteArray) (b e:Bool) (hs:s.size≤100000) (S:S4) (ks:List Re) (lo hi n:Int):OvC s b e (.mk 3 S ks lo hi n):=by
 intro A c w g F hk hg;have hl:s.data.toList.length=s.size:=rfl;obtain⟨N,hN⟩:∃ N:Nat,N=s.size+1:=⟨_,rfl⟩;obtain⟨R,hR⟩:∃ R,R=Way s.data.toList b e (.mk 3 S ks lo hi n):=⟨_,rfl⟩;obtain⟨m,hm⟩:∃ m,m=ks.length:=⟨_,rfl⟩;rw[←hN,←hR];rw[←hN] at hg;simp only[valR];rw[←hm];obtain⟨s0,hs0⟩:∃ s0:Int,s0=S.1.toNat:=⟨_,rfl⟩;obtain⟨s1,hs1⟩:∃ s1:Int,s1=S.2.1.toNat:=⟨_,rfl⟩;obtain⟨s2,hs2⟩:∃ s2:Int,s2=S.2.2.1.toNat:=⟨_,rfl⟩;obtain⟨s3,hs3⟩:∃ s3:Int,s3=S.2.2.2.toNat:=⟨_,rfl⟩;rw[←hs0,←hs1,←hs2,←hs3];have e1:(s.size:Int)+1=(N:Int):=by omega
 have hN9:N≤100001:=by omega
 have hmk:=run_make_row' (P:=Tryd.prog) 38 4 (.bool false) 1 Tryd.underlying38 infoB rfl .i64 .i64 N (by omega) (by omega);have hglt:=hg.lt
 have hb1:∀ o,BRow ((w.alloc o).alloc (.cells (madeCells #[.bool false] N) 4)) (w.heap.size+1) N (fun _=>false):=fun o=>by
  have:=BRow.made (w.alloc o) N;simpa only[World.size_alloc] using this
 have hb2:∀ o,BRow ((w.alloc o).alloc (.cells (madeCells #[.bool false] N) 4)) g N F:=fun o=>(hg.below (z0b w _) hglt).below (z0b _ _) (by simp;omega)
 have hbb:∀ o o',Below w.heap.size w ((w.alloc o).alloc o'):=z0e w
 have hX:∀ u,(F s.size && e)=u→∀ j,PB N (fun k=>if k=s.size then u else false) j ↔ stepP R (PB N F) j:=fun u hu j=>by
  rw[hR,x4i rfl,hl];subst hu;unfold PB
  constructor
  ·rintro⟨h1,h2⟩
   by_cases h0:j=s.size
   ·subst h0;simp only[if_pos,Bool.and_eq_true] at h2;exact⟨rfl,⟨h1,h2.1⟩,h2.2⟩
   ·dsimp only at h2;rw[if_neg h0] at h2;cases h2
  ·rintro⟨rfl,⟨h1,h2⟩,h3⟩
   exact⟨h1,by simp[h2,h3]⟩
 have HE:Hid (∀ o u v,(F s.size && e)=u→v= .slice (some ⟨w.heap.size+1,0,none⟩) N N→OvPost N R w F (.returned v) ((w.alloc o).alloc (.cells ((madeCells #[.bool false] N).setIfInBounds s.size (.bool u)) 4))):=Lib.hid fun o u v hu hv=>by
  rw[madeB,z6c];have h1:=BRow.new (w.alloc o) N (fun k=>if k=s.size then u else false);simp only[World.size_alloc] at h1;exact OvPost.ret hv (by omega) h1 (hX u hu) (hbb o _)
 have d0:=fun o=>(hb2 o).cell (i:=s.size) (by omega)
 have f0:=fun o=>(hb1 o).free s.size
 have c0:=fun o=>(hb1 o).cell (i:=s.size) (by omega)
 have hN1:s.size<N:=by omega
 clear hX hb1 hb2 hbb;clear hR hs0 hs1 hs2 hs3 hm hN hk hg hl;obtain⟨u,hu⟩:∃ u,u=F s.size:=⟨_,rfl⟩;rw[←hu] at d0 HE;clear hu
 cases u <;> (
  go_enter Tryd.func10,Tryd.ntmps10;go_wp2;go_ret
  first | exact HE.out _ false _ (by simp) rfl | exact HE.out _ b _ (by simp) rfl | exact HE.out _ e _ (by simp) rfl)
theorem ov_4 (s:ByteArray) (b e:Bool) (hs:s.size≤100000) (S:S4) (ks:List Re) (lo hi n:Int) (hr:∀ x∈ks,OvC s b e x) (hlen:ks.length≤1000000):OvC s b e (.mk 4 S ks lo hi n):=by
 intro A c w g F hk hg;have hl:s.data.toList.length=s.size:=rfl;obtain⟨N,hN⟩:∃ N:Nat,N=s.size+1:=⟨_,rfl⟩;obtain⟨R,hR⟩:∃ R,R=Way s.data.toList b e (.mk 4 S ks lo hi n):=⟨_,rfl⟩;obtain⟨m,hm⟩:∃ m,m=ks.length:=⟨_,rfl⟩;rw[←hN,←hR];rw[←hN] at hg;simp only[valR];rw[←hm];obtain⟨s0,hs0⟩:∃ s0:Int,s0=S.1.toNat:=⟨_,rfl⟩;obtain⟨s1,hs1⟩:∃ s1:Int,s1=S.2.1.toNat:=⟨_,rfl⟩;obtain⟨s2,hs2⟩:∃ s2:Int,s2=S.2.2.1.toNat:=⟨_,rfl⟩;obtain⟨s3,hs3⟩:∃ s3:Int,s3=S.2.2.2.toNat:=⟨_,rfl⟩;rw[←hs0,←hs1,←hs2,←hs3];have e1:(s.size:Int)+1=(N:Int):=by omega
 have hN9:N≤100001:=by omega
 have hmk:=run_make_row' (P:=Tryd.prog) 38 4 (.bool false) 1 Tryd.underlying38 infoB rfl .i64 .i64 N (by omega) (by omega);have hglt:=hg.lt
 have hb1:∀ o,BRow ((w.alloc o).alloc (.cells (madeCells #[.bool false] N) 4)) (w.heap.size+1) N (fun _=>false):=fun o=>by
  have:=BRow.made (w.alloc o) N;simpa only[World.size_alloc] using this
 have hb2:∀ o,BRow ((w.alloc o).alloc (.cells (madeCells #[.bool false] N) 4)) g N F:=fun o=>(hg.below (z0b w _) hglt).below (z0b _ _) (by simp;omega)
 have hbb:∀ o o',Below w.heap.size w ((w.alloc o).alloc o'):=z0e w;have hX:∀ q,stepP (WayL s.data.toList b e ks) (PB N F) q ↔ stepP R (PB N F) q:=fun q=>by rw[hR];exact(y2a (r:= .mk 4 S ks lo hi n) (.inl rfl)).symm
 have hcp:=fun o=>z6j (P:=Tryd.prog) _ 38 38 3 Tryd.underlying38 infoB (hb1 o) (hb2 o)
 have HS:Hid (∀ o,w.heap.size≤w.heap.size+1∧BRow (((w.alloc o).alloc (.cells (madeCells #[.bool false] N) 4)).setRow (w.heap.size+1) (rowB N F)) (w.heap.size+1) N F∧(∀ q,PB N F q ↔ stepP (WayL s.data.toList b e (ks.take 0)) (PB N F) q)∧Below w.heap.size w (((w.alloc o).alloc (.cells (madeCells #[.bool false] N) 4)).setRow (w.heap.size+1) (rowB N F))):=Lib.hid fun o=>
  ⟨by omega,(hb1 o).copied F,fun q=>by rw[List.take_zero];exact z30.symm,below_setRow (hbb o _) (by omega) _⟩
 have HC5:∀ o,(w.alloc o).cell? ⟨w.heap.size,5,none⟩=some (.slice A m c)→(((w.alloc o).alloc (.cells (madeCells #[.bool false] N) 4)).setRow (w.heap.size+1) (rowB N F)).cell? ⟨w.heap.size,5,none⟩=some (.slice A m c):=fun o h=>by
  rw[cell_setRow_other _ _ _ _ (by show w.heap.size≠w.heap.size+1;omega),World.cell?_alloc_some _ _ _ (by rw[h];rfl),h]
 have HC5:=Lib.hid HC5;have HX:=Lib.hid hX;have HK:=Lib.hid hk;have HM:=Lib.hid hm;have HRK:=Lib.hid hr;have HN:=Lib.hid hN;rw[←hm] at hlen;clear hX hb1 hb2 hbb hr;clear hR hs0 hs1 hs2 hs3 hm hN hk hg hl;go_enter Tryd.func10,Tryd.ntmps10;go_wp2
 go_loopw [11,13] (fun tv i wr=>∃ (j g':Nat) (F':Nat→Bool),j≤m∧i= .int .i64 (j:Nat)∧tv= .slice (some ⟨g',0,none⟩) N N∧Hid (w.heap.size≤g'∧BRow wr g' N F'∧(∀ q,PB N F' q ↔ stepP (WayL s.data.toList b e (ks.take j)) (PB N F) q)∧Below w.heap.size w wr)∧wr.cell? ⟨w.heap.size,5,none⟩=some (.slice A m c)) (fun _ i _=>m - (intOf i).toNat)
 case atStart=>exact⟨0,w.heap.size+1,F,Nat.zero_le _,rfl,rfl,Lib.hid (HS.out _),HC5.out _ (by simp)⟩
 case round=>
  obtain⟨j,g',F',hj,rfl,rfl,HI,c5⟩:=hrel;by_cases a:j<m
  ·have hb:=HI.out.2.2.2
   obtain⟨x,hx⟩:=z0u HM.out a;obtain⟨ad,A',c',rfl,hp,h9,hkr⟩:=z3t HK.out hb hx;have hmem:=List.mem_of_getElem? hx
   have KR:Hid (Calls Tryd.prog 10 #[valR x A' c',.string s,.slice (some ⟨g',0,none⟩) N N,.bool b,.bool e] wr fun e' w'=>∃ (g2:Nat) (F2:Nat→Bool),e'= .returned (.slice (some ⟨g2,0,none⟩) N N)∧Hid (w.heap.size≤g2∧BRow w' g2 N F2∧(∀ q,PB N F2 q ↔ stepP (WayL s.data.toList b e (ks.take (j+1))) (PB N F) q)∧Below w.heap.size w w')∧w'.cell? ⟨w.heap.size,5,none⟩=some (.slice (some ad) m c)):=Lib.hid (by
    have h1:=HRK.out x hmem A' c' wr g' F' (hkr.next hb) (by rw[←HN.out];exact HI.out.2.1);rw[←HN.out] at h1;refine h1.mono fun e' w' ⟨g2,F2,h2,h3⟩=>?_
    obtain⟨q1,q2,q3,q4⟩:=h3.out;have hb2:=hb.size;refine⟨g2,F2,h2,Lib.hid ⟨by omega,q2,fun q=>?_,hb.trans (q4.mono hb2)⟩,(q4.cell (p:=⟨w.heap.size,5,none⟩) (World.block_lt_of_cell? _ _ c5)).trans c5⟩;obtain⟨hjl,hje⟩:=List.getElem?_eq_some_iff.1 hx;rw[q3,List.take_succ_eq_append_getElem hjl,hje,z7j];exact⟨z1t fun i hi=>(HI.out.2.2.1 i).mp hi,z1t fun i hi=>(HI.out.2.2.1 i).mpr hi⟩)
   have h9x:=True;obtain⟨k',S',ks',lo',hi',n'⟩:=x;simp only[valR] at KR;obtain⟨d0,d1,d2,d3,d4,d5,d6,d7,d8⟩:=h9;clear h9x hx hkr hmem hb;go_wp2_with (go_at_call 10;((with_reducible refine(KR.out).mono ?_));rintro e' w2 h2;obtain⟨g2,F2,rfl,HP,cc⟩:=h2)
   go_roundw
   case rel=>exact⟨j+1,g2,F2,by omega,by go_num,rfl,HP,cc⟩
   case measure=>simp[intOf];omega
  ·obtain rfl:j=m:=by omega
   go_wp2;go_ret;obtain⟨q1,q2,q3,q4⟩:=HI.out;refine OvPost.ret rfl q1 q2 (fun q=>?_) q4;rw[←HX.out,q3,HM.out,List.take_length]
theorem ov_5 (s:ByteArray) (b e:Bool) (hs:s.size≤100000) (S:S4) (ks:List Re) (lo hi n:Int) (hr:∀ x∈ks,OvC s b e x) (hlen:ks.length≤1000000):OvC s b e (.mk 5 S ks lo hi n):=by
 intro A c w g F hk hg;have hl:s.data.toList.length=s.size:=rfl;obtain⟨N,hN⟩:∃ N:Nat,N=s.size+1:=⟨_,rfl⟩;obtain⟨R,hR⟩:∃ R,R=Way s.data.toList b e (.mk 5 S ks lo hi n):=⟨_,rfl⟩;obtain⟨m,hm⟩:∃ m,m=ks.length:=⟨_,rfl⟩;rw[←hN,←hR];rw[←hN] at hg;simp only[valR];rw[←hm];obtain⟨s0,hs0⟩:∃ s0:Int,s0=S.1.toNat:=⟨_,rfl⟩;obtain⟨s1,hs1⟩:∃ s1:Int,s1=S.2.1.toNat:=⟨_,rfl⟩;obtain⟨s2,hs2⟩:∃ s2:Int,s2=S.2.2.1.toNat:=⟨_,rfl⟩;obtain⟨s3,hs3⟩:∃ s3:Int,s3=S.2.2.2.toNat:=⟨_,rfl⟩;rw[←hs0,←hs1,←hs2,←hs3];have e1:(s.size:Int)+1=(N:Int):=by omega
 have hN9:N≤100001:=by omega
 have hmk:=run_make_row' (P:=Tryd.prog) 38 4 (.bool false) 1 Tryd.underlying38 infoB rfl .i64 .i64 N (by omega) (by omega);have hglt:=hg.lt
 have hb1:∀ o,BRow ((w.alloc o).alloc (.cells (madeCells #[.bool false] N) 4)) (w.heap.size+1) N (fun _=>false):=fun o=>by
  have:=BRow.made (w.alloc o) N;simpa only[World.size_alloc] using this
 have hb2:∀ o,BRow ((w.alloc o).alloc (.cells (madeCells #[.bool false] N) 4)) g N F:=fun o=>(hg.below (z0b w _) hglt).below (z0b _ _) (by simp;omega)
 have hbb:∀ o o',Below w.heap.size w ((w.alloc o).alloc o'):=z0e w;have hX:∀ q,stepP (WayA s.data.toList b e ks) (PB N F) q ↔ stepP R (PB N F) q:=fun q=>by rw[hR];exact(y9x (r:= .mk 5 S ks lo hi n) rfl).symm
 have HS:Hid (∀ o,BRow ((w.alloc o).alloc (.cells (madeCells #[.bool false] N) 4)) (w.heap.size+1) N (fun _=>false)∧(∀ q,PB N (fun _=>false) q ↔ stepP (WayA s.data.toList b e (ks.take 0)) (PB N F) q)∧Below w.heap.size w ((w.alloc o).alloc (.cells (madeCells #[.bool false] N) 4))):=Lib.hid fun o=>
  ⟨hb1 o,fun q=>by rw[List.take_zero,y5a];simp[PB],hbb o _⟩
 have HX:=Lib.hid hX;have HK:=Lib.hid hk;have HM:=Lib.hid hm;have HG:=Lib.hid hg;have HRK:=Lib.hid hr;have HN:=Lib.hid hN;rw[←hm] at hlen;clear hX hb1 hb2 hbb hr;clear hR hs0 hs1 hs2 hs3 hm hN hk hg hl;go_enter Tryd.func10,Tryd.ntmps10;go_wp2
 go_loopw [14] (fun i wr=>∃ (j:Nat) (F':Nat→Bool),j≤m∧i= .int .i64 (j:Nat)∧Hid (BRow wr (w.heap.size+1) N F'∧(∀ q,PB N F' q ↔ stepP (WayA s.data.toList b e (ks.take j)) (PB N F) q)∧Below w.heap.size w wr)∧wr.cell? ⟨w.heap.size,0,none⟩=some (.int .i64 5)∧wr.cell? ⟨w.heap.size,5,none⟩=some (.slice A m c)) (fun i _=>m - (intOf i).toNat)
 case atStart=>exact⟨0,fun _=>false,Nat.zero_le _,rfl,Lib.hid (HS.out _),by simp,by simp⟩
 case round=>
  obtain⟨j,F',hj,rfl,HI,c0,c5⟩:=hrel;by_cases a:j<m
  ·have hb:=HI.out.2.2
   obtain⟨x,hx⟩:=z0u HM.out a;obtain⟨ad,A',c',rfl,hp,h9,hkr⟩:=z3t HK.out hb hx;have hmem:=List.mem_of_getElem? hx
   have KR:Hid (Calls Tryd.prog 10 #[valR x A' c',.string s,.slice (some ⟨g,0,none⟩) N N,.bool b,.bool e] wr fun e' w'=>∃ (g2:Nat) (F2:Nat→Bool),e'= .returned (.slice (some ⟨g2,0,none⟩) N N)∧Hid (Calls Tryd.prog 22 #[.slice (some ⟨w.heap.size+1,0,none⟩) N N,.slice (some ⟨g2,0,none⟩) N N] w' fun e2 w2=>∃ (v:Bool) (F3:Nat→Bool),e2= .returned (.bool v)∧Hid (BRow w2 (w.heap.size+1) N F3∧(∀ q,PB N F3 q ↔ stepP (WayA s.data.toList b e (ks.take (j+1))) (PB N F) q)∧Below w.heap.size w w2)∧w2.cell? ⟨w.heap.size,0,none⟩=some (.int .i64 5)∧w2.cell? ⟨w.heap.size,5,none⟩=some (.slice (some ad) m c))):=Lib.hid (by
    have hg2:=HG.out.below hb hglt;have h1:=HRK.out x hmem A' c' wr g F (hkr.next hb) (by rw[←HN.out];exact hg2);rw[←HN.out] at h1;refine h1.mono fun e' w' ⟨g2,F2,h2,h3⟩=>⟨g2,F2,h2,Lib.hid ?_⟩
    obtain⟨q1,q2,q3,q4⟩:=h3.out;have hlt:=HI.out.1.lt;have ht:=HI.out.1.below q4 hlt;refine(z8v ht q2 (by omega) (by omega)).mono fun e2 w2 ⟨r1,r2,r3⟩=>⟨_,_,r1,Lib.hid ⟨r2,fun q=>?_,?_⟩,?_,?_⟩
    ·obtain⟨hjl,hje⟩:=List.getElem?_eq_some_iff.1 hx
     rw[List.take_succ_eq_append_getElem hjl,hje,y38,←HI.out.2.1 q,←q3 q];unfold PB;simp only[Bool.or_eq_true]
     constructor
     ·rintro⟨z1,z2 | z2⟩
      ·exact .inl ⟨z1,z2⟩
      ·exact .inr ⟨z1,z2⟩
     ·rintro(⟨z1,z2⟩ | ⟨z1,z2⟩)
      ·exact⟨z1,.inl z2⟩
      ·exact⟨z1,.inr z2⟩
    ·have hbw:=hb.trans (q4.mono hb.size)
     exact hbw.grown r3 hbw.size (fun k hk=>by injection hk with hk;omega)
    ·have e1:=(q4.cell (p:=⟨w.heap.size,0,none⟩) (World.block_lt_of_cell? _ _ c0)).trans c0
     exact(World.cell?_of_block (r3.block w.heap.size (World.block_lt_of_cell? _ _ e1) fun e=>by injection e;omega)).trans e1
    ·have e1:=(q4.cell (p:=⟨w.heap.size,5,none⟩) (World.block_lt_of_cell? _ _ c5)).trans c5
     exact(World.cell?_of_block (r3.block w.heap.size (World.block_lt_of_cell? _ _ e1) fun e=>by injection e;omega)).trans e1)
   have h9x:=True;obtain⟨k',S',ks',lo',hi',n'⟩:=x;simp only[valR] at KR;obtain⟨d0,d1,d2,d3,d4,d5,d6,d7,d8⟩:=h9;clear h9x hx hkr hmem hb;go_wp2_with (first | (go_at_call 10;((with_reducible refine(KR.out).mono ?_));rintro e' w2 h2;obtain⟨g2,F2,rfl,KJ⟩:=h2) | (go_at_call 22;((with_reducible refine(KJ.out).mono ?_));rintro e3 w3 h3;obtain⟨v3,F3,rfl,HP,cc0,cc5⟩:=h3))
   go_roundw
   case rel=>exact⟨j+1,F3,by omega,by go_num,HP,cc0,cc5⟩
   case measure=>simp[intOf];omega
  ·obtain rfl:j=m:=by omega
   go_wp2;go_ret;obtain⟨q1,q2,q3⟩:=HI.out;refine OvPost.ret rfl (by omega) q1 (fun q=>?_) q3;rw[←HX.out,q2,HM.out,List.take_length]
theorem ov_6 (s:ByteArray) (b e:Bool) (hs:s.size≤100000) (S:S4) (ks:List Re) (lo hi n:Int) (hr:RepC s b e (.mk 6 S ks lo hi n)):OvC s b e (.mk 6 S ks lo hi n):=by
 intro A c w g F hk hg;have hl:s.data.toList.length=s.size:=rfl;obtain⟨N,hN⟩:∃ N:Nat,N=s.size+1:=⟨_,rfl⟩;obtain⟨R,hR⟩:∃ R,R=Way s.data.toList b e (.mk 6 S ks lo hi n):=⟨_,rfl⟩;obtain⟨m,hm⟩:∃ m,m=ks.length:=⟨_,rfl⟩;rw[←hN,←hR];rw[←hN] at hg;simp only[valR];rw[←hm];obtain⟨s0,hs0⟩:∃ s0:Int,s0=S.1.toNat:=⟨_,rfl⟩;obtain⟨s1,hs1⟩:∃ s1:Int,s1=S.2.1.toNat:=⟨_,rfl⟩;obtain⟨s2,hs2⟩:∃ s2:Int,s2=S.2.2.1.toNat:=⟨_,rfl⟩;obtain⟨s3,hs3⟩:∃ s3:Int,s3=S.2.2.2.toNat:=⟨_,rfl⟩;rw[←hs0,←hs1,←hs2,←hs3];have e1:(s.size:Int)+1=(N:Int):=by omega
 have hN9:N≤100001:=by omega
 have hmk:=run_make_row' (P:=Tryd.prog) 38 4 (.bool false) 1 Tryd.underlying38 infoB rfl .i64 .i64 N (by omega) (by omega);have hglt:=hg.lt
 have hb1:∀ o,BRow ((w.alloc o).alloc (.cells (madeCells #[.bool false] N) 4)) (w.heap.size+1) N (fun _=>false):=fun o=>by
  have:=BRow.made (w.alloc o) N;simpa only[World.size_alloc] using this
 have hb2:∀ o,BRow ((w.alloc o).alloc (.cells (madeCells #[.bool false] N) 4)) g N F:=fun o=>(hg.below (z0b w _) hglt).below (z0b _ _) (by simp;omega)
 have hbb:∀ o o',Below w.heap.size w ((w.alloc o).alloc o'):=z0e w
 have KR:Hid (∀ o,Calls Tryd.prog 23 #[valR (.mk 6 S ks lo hi n) A c,.string s,.slice (some ⟨g,0,none⟩) N N,.bool b,.bool e] ((w.alloc o).alloc (.cells (madeCells #[.bool false] N) 4)) (OvPost N R w F)):=Lib.hid fun o=>by
  have:=hr A c _ g F (hk.next (hbb o (.cells (madeCells #[.bool false] N) 4))) (by rw[←hN];exact hb2 o);rw[←hN,←hR] at this;exact this.mono fun _ _ h=>h.low (hbb _ _) fun _=>Iff.rfl
 simp only[valR] at KR;rw[←hm,←hs0,←hs1,←hs2,←hs3] at KR;clear hb1 hb2 hbb hr;clear hR hs0 hs1 hs2 hs3 hm hN hk hg hl;go_enter Tryd.func10,Tryd.ntmps10;go_wp2_with (go_at_call 23;((with_reducible refine(KR.out _).mono ?_));rintro e' w2 h2;obtain⟨g',F',rfl,HP⟩:=h2);go_ret;exact⟨g',F',rfl,HP⟩
theorem ov_7 (s:ByteArray) (b e:Bool) (hs:s.size≤100000) (S:S4) (ks:List Re) (lo hi n:Int) (x:Re) (hx:ks=[x]) (hr:OvC s b e x):OvC s b e (.mk 7 S ks lo hi n):=by
 intro A c w g F hk hg;have hl:s.data.toList.length=s.size:=rfl;obtain⟨N,hN⟩:∃ N:Nat,N=s.size+1:=⟨_,rfl⟩;obtain⟨R,hR⟩:∃ R,R=Way s.data.toList b e (.mk 7 S ks lo hi n):=⟨_,rfl⟩;obtain⟨m,hm⟩:∃ m,m=ks.length:=⟨_,rfl⟩;rw[←hN,←hR];rw[←hN] at hg;simp only[valR];rw[←hm];obtain⟨s0,hs0⟩:∃ s0:Int,s0=S.1.toNat:=⟨_,rfl⟩;obtain⟨s1,hs1⟩:∃ s1:Int,s1=S.2.1.toNat:=⟨_,rfl⟩;obtain⟨s2,hs2⟩:∃ s2:Int,s2=S.2.2.1.toNat:=⟨_,rfl⟩;obtain⟨s3,hs3⟩:∃ s3:Int,s3=S.2.2.2.toNat:=⟨_,rfl⟩;rw[←hs0,←hs1,←hs2,←hs3];have e1:(s.size:Int)+1=(N:Int):=by omega
 have hN9:N≤100001:=by omega
 have hmk:=run_make_row' (P:=Tryd.prog) 38 4 (.bool false) 1 Tryd.underlying38 infoB rfl .i64 .i64 N (by omega) (by omega);have hglt:=hg.lt
 have hb1:∀ o,BRow ((w.alloc o).alloc (.cells (madeCells #[.bool false] N) 4)) (w.heap.size+1) N (fun _=>false):=fun o=>by
  have:=BRow.made (w.alloc o) N;simpa only[World.size_alloc] using this
 have hb2:∀ o,BRow ((w.alloc o).alloc (.cells (madeCells #[.bool false] N) 4)) g N F:=fun o=>(hg.below (z0b w _) hglt).below (z0b _ _) (by simp;omega)
 have hbb:∀ o o',Below w.heap.size w ((w.alloc o).alloc o'):=z0e w;subst hx;obtain rfl:m=1:=hm;have hX:∀ j,stepP (Way s.data.toList b e x) (PB N F) j ↔ stepP R (PB N F) j:=fun j=>by rw[hR];exact(x28 rfl rfl).symm
 obtain⟨ad,A',c',rfl,hp,h9,hkr⟩:=z3t hk (Below.refl _ _) (j:=0) (x:=x) rfl;rw[show ad.add (0 * 9)=ad by simp[Addr.add]] at h9
 have KR:Hid (∀ o,Calls Tryd.prog 10 #[valR x A' c',.string s,.slice (some ⟨g,0,none⟩) N N,.bool b,.bool e] ((w.alloc o).alloc (.cells (madeCells #[.bool false] N) 4)) (OvPost N R w F)):=Lib.hid fun o=>by
  have:=hr A' c' _ g F (hkr.next (hbb o (.cells (madeCells #[.bool false] N) 4))) (by rw[←hN];exact hb2 o);rw[←hN] at this;exact this.mono fun _ _ h=>h.low (hbb _ _) hX
 have h9':∀ o o',At9 ((w.alloc o).alloc o') ad x A' c':=fun o o'=>h9.keep (fun q=>(hbb o o').cell hp) ((hbb o o').cell hp)
 obtain⟨k',S',ks',lo',hi',n'⟩:=x;simp only[valR] at KR;have d0:=fun o o'=>(h9' o o').1
 have d1:=fun o o'=>(h9' o o').2.1
 have d2:=fun o o'=>(h9' o o').2.2.1
 have d3:=fun o o'=>(h9' o o').2.2.2.1
 have d4:=fun o o'=>(h9' o o').2.2.2.2.1
 have d5:=fun o o'=>(h9' o o').2.2.2.2.2.1
 have d6:=fun o o'=>(h9' o o').2.2.2.2.2.2.1
 have d7:=fun o o'=>(h9' o o').2.2.2.2.2.2.2.1
 have d8:=fun o o'=>(h9' o o').2.2.2.2.2.2.2.2
 clear hb1 hb2 hbb hr hX h9 h9' hkr;clear hR hs0 hs1 hs2 hs3 hN hk hg hl;go_enter Tryd.func10,Tryd.ntmps10;go_wp2_with (go_at_call 10;((with_reducible refine(KR.out _).mono ?_));rintro e' w2 h2;obtain⟨g',F',rfl,HP⟩:=h2);go_ret;exact⟨g',F',rfl,HP⟩
def cntB:Nat→(Nat→Bool)→Nat
 | 0,_=>0
 | n+1,F=>cntB n F+(if F n=true then 1 else 0)
theorem y6n:∀ (n:Nat) (F:Nat→Bool),cntB n F≤n
 | 0,_=>Nat.le_refl _
 | n+1,F=>by have:=y6n n F;rw[cntB];split <;> omega
theorem y0y {F G:Nat→Bool} (h:∀ i,F i=true→G i=true):∀ n,cntB n F≤cntB n G
 | 0=>Nat.le_refl _
 | n+1=>by
   have:=y0y h n;rw[cntB,cntB];by_cases hn:F n=true
   ·rw[if_pos hn,if_pos (h n hn)];omega
   ·rw[if_neg hn];split <;> omega
theorem y05 {F G:Nat→Bool} (h:∀ i,F i=true→G i=true) {q:Nat} (hF:F q=false) (hG:G q=true):∀ n,q<n→cntB n F+1≤cntB n G
 | 0,hq=>by omega
 | n+1,hq=>by
   rw[cntB,cntB];by_cases hn:q=n
   ·subst hn
    have:=y0y h q;rw[if_pos hG,if_neg (by rw[hF];decide)];omega
   ·have:=y05 h hF hG n (by omega)
    by_cases hf:F n=true
    ·rw[if_pos hf,if_pos (h n hf)];omega
    ·rw[if_neg hf];split <;> omega
structure RepI (s:ByteArray) (b e:Bool) (x:Re) (w:World) (T N L:Nat) (F:Nat→Bool) (j g':Nat) (F' G:Nat→Bool) (fr:Bool) (W:World):Prop where
 gt:w.heap.size<g'
 ne:g'≠T
 gT:w.heap.size<T
 now:BRow W g' N F'
 to:BRow W T N G
 nowP:∀ q,PB N F' q ↔ iterP (Way s.data.toList b e x) (PB N F) j q
 toP:∀ q,PB N G q ↔ ∃ m,L≤m∧m<j+1∧iterP (Way s.data.toList b e x) (PB N F) m q
 yes:fr=true→j+1≤L+cntB N G
 no:fr=false→∀ q,iterP (Way s.data.toList b e x) (PB N F) j q→∃ m,L≤m∧m<j∧iterP (Way s.data.toList b e x) (PB N F) m q
 low:Below w.heap.size w W
theorem RepI.first {s:ByteArray} {b e:Bool} {x:Re} {w W W2:World} {T N L:Nat} {F:Nat→Bool} {g':Nat} {F':Nat→Bool} (gt:w.heap.size<g') (ne:g'≠T) (gT:w.heap.size<T) (now:BRow W g' N F') (g:W.grownBy W2 (some T))
  (to:BRow W2 T N (fun i=>false || F' i)) (nowP:∀ q,PB N F' q ↔ iterP (Way s.data.toList b e x) (PB N F) L q) (low:Below w.heap.size w W2):RepI s b e x w T N L F L g' F' (fun i=>false || F' i) (anyB N fun i=>F' i && !false) W2:=by
 refine⟨gt,ne,gT,?_,to,nowP,fun q=>?_,fun h=>?_,fun h q hq=>?_,low⟩
 ·unfold BRow at now ⊢;rw[g.block g' (Array.getElem?_eq_some_iff.mp now).1 (fun e=>ne (by cases e;rfl)),now]
 ·have:PB N (fun i=>false || F' i) q ↔ PB N F' q:=by unfold PB;simp
  rw[this,nowP]
  constructor
  ·intro h;exact⟨L,Nat.le_refl _,by omega,h⟩
  ·rintro⟨m,h1,h2,h3⟩
   have hm:m=L:=by omega
   rw[←hm];exact h3
 ·obtain⟨q,h1,h2⟩:=z4p.mp h
  have h3:F' q=true:=by simpa using h2
  have:=y05 (F:=fun _=>false) (G:=fun i=>false || F' i) (fun i h=>by cases h) rfl (by simp[h3]) N h1;omega
 ·have h1:=(nowP q).mpr hq
  have:anyB N (fun i=>F' i && !false)=true:=z4p.mpr ⟨q,h1.1,by simp[h1.2]⟩;rw[h] at this;cases this
theorem RepI.next {s:ByteArray} {b e:Bool} {x:Re} {w W W1 W2:World} {T N L:Nat} {F:Nat→Bool} {j g' g2:Nat} {F' G F2:Nat→Bool} (h:RepI s b e x w T N L F j g' F' G true W) (hL:L≤j) (h1:W.heap.size≤g2) (h2:BRow W1 g2 N F2)
  (h3:∀ q,PB N F2 q ↔ stepP (Way s.data.toList b e x) (PB N F') q) (h4:Below W.heap.size W W1) (k2:BRow W2 T N (fun i=>G i || F2 i)) (k3:W1.grownBy W2 (some T)):
  RepI s b e x w T N L F (j+1) g2 F2 (fun i=>G i || F2 i) (anyB N fun i=>F2 i && !G i) W2:=by
 have hT:=h.to.lt;have hs:=h.low.size;have hg:=h.gT
 have hP:∀ q,PB N F2 q ↔ iterP (Way s.data.toList b e x) (PB N F) (j+1) q:=fun q=>by
  rw[h3];exact⟨z1t fun i hi=>(h.nowP i).mp hi,z1t fun i hi=>(h.nowP i).mpr hi⟩
 refine⟨by omega,by omega,hg,?_,k2,hP,fun q=>?_,fun hf=>?_,fun hf q hq=>?_,?_⟩
 ·unfold BRow at h2 ⊢;rw[k3.block g2 (Array.getElem?_eq_some_iff.mp h2).1 (fun e=>by injection e;omega),h2]
 ·have hu:PB N (fun i=>G i || F2 i) q ↔ PB N G q∨PB N F2 q:=by
   unfold PB;simp only[Bool.or_eq_true];exact⟨fun ⟨a,c⟩=>c.elim (fun c=> .inl ⟨a,c⟩) fun c=> .inr ⟨a,c⟩,fun c=>c.elim (fun ⟨a,c⟩=>⟨a,.inl c⟩) fun ⟨a,c⟩=>⟨a,.inr c⟩⟩
  rw[hu,h.toP,hP]
  constructor
  ·rintro(⟨m,a,c,d⟩ | d)
   ·exact⟨m,a,by omega,d⟩
   ·exact⟨j+1,by omega,by omega,d⟩
  ·rintro⟨m,a,c,d⟩
   by_cases hm:m=j+1
   ·subst hm;exact .inr d
   ·exact .inl ⟨m,a,by omega,d⟩
 ·obtain⟨q,a,c⟩:=z4p.mp hf
  simp only[Bool.and_eq_true,Bool.not_eq_true'] at c;have:=y05 (F:=G) (G:=fun i=>G i || F2 i) (fun i hi=>by simp[hi]) c.2 (by simp[c.1]) N a;have:=h.yes rfl;omega
 ·have a:=(hP q).mpr hq
  by_cases hG:G q=true
  ·exact(h.toP q).mp ⟨a.1,hG⟩
  ·have:anyB N (fun i=>F2 i && !G i)=true:=z4p.mpr ⟨q,a.1,by simp[a.2,hG]⟩
   rw[hf] at this;cases this
 ·have l2:=h.low.trans (h4.mono hs)
  exact l2.grown k3 l2.size (fun k hk=>by injection hk with hk;omega)
theorem RepI.last {s:ByteArray} {b e:Bool} {S:S4} {x:Re} {lo hi n:Int} {w W:World} {T N L:Nat} {F:Nat→Bool} {j g':Nat} {F' G:Nat→Bool} {fr:Bool} (h:RepI s b e x w T N L F j g' F' G fr W) (hlo:lo=(L:Int)) (hj:hi<0∨(j:Int)≤hi)
  (hf:fr=false∨(0≤hi∧(j:Int)=hi)) (q:Nat):PB N G q ↔ stepP (Way s.data.toList b e (.mk 6 S [x] lo hi n)) (PB N F) q:=by
 rw[h.toP,y9n (x:=x) rfl rfl,y8b (lo:=L) (i:=j+1) (hi:=hi) (by omega) ?_ q]
 ·simp only[Re.lo,Re.hi]
  constructor
  ·rintro⟨m,a,c,d⟩;exact⟨m,by omega,c,d⟩
  ·rintro⟨m,a,c,d⟩;exact⟨m,by omega,c,d⟩
 ·rcases hf with hf | hf
  ·refine .inl fun q hq=>?_
   obtain⟨m,a,c,d⟩:=z7a (h.no hf) (j+1) (by omega) q hq;exact⟨m,a,by omega,d⟩
  ·exact .inr ⟨hf.1,by omega⟩
theorem rep_6 (s:ByteArray) (b e:Bool) (hs:s.size≤100000) (S:S4) (ks:List Re) (lo hi n:Int) (x:Re) (hx:ks=[x]) (hlo:0≤lo∧lo≤1000) (hhi:hi<0∨(lo≤hi∧hi≤1000)) (hr:OvC s b e x):RepC s b e (.mk 6 S ks lo hi n):=by
 intro A c w g F hk hg;have hl:s.data.toList.length=s.size:=rfl;obtain⟨N,hN⟩:∃ N:Nat,N=s.size+1:=⟨_,rfl⟩;obtain⟨R,hR⟩:∃ R,R=Way s.data.toList b e (.mk 6 S ks lo hi n):=⟨_,rfl⟩;obtain⟨m,hm⟩:∃ m,m=ks.length:=⟨_,rfl⟩;rw[←hN,←hR];rw[←hN] at hg;simp only[valR];rw[←hm];obtain⟨s0,hs0⟩:∃ s0:Int,s0=S.1.toNat:=⟨_,rfl⟩;obtain⟨s1,hs1⟩:∃ s1:Int,s1=S.2.1.toNat:=⟨_,rfl⟩;obtain⟨s2,hs2⟩:∃ s2:Int,s2=S.2.2.1.toNat:=⟨_,rfl⟩;obtain⟨s3,hs3⟩:∃ s3:Int,s3=S.2.2.2.toNat:=⟨_,rfl⟩;rw[←hs0,←hs1,←hs2,←hs3];have e1:(s.size:Int)+1=(N:Int):=by omega
 have hN9:N≤100001:=by omega
 have hmk:=run_make_row' (P:=Tryd.prog) 38 4 (.bool false) 1 Tryd.underlying38 infoB rfl .i64 .i64 N (by omega) (by omega);have hglt:=hg.lt
 have hb1:∀ o,BRow ((w.alloc o).alloc (.cells (madeCells #[.bool false] N) 4)) (w.heap.size+1) N (fun _=>false):=fun o=>by
  have:=BRow.made (w.alloc o) N;simpa only[World.size_alloc] using this
 have hb2:∀ o,BRow ((w.alloc o).alloc (.cells (madeCells #[.bool false] N) 4)) g N F:=fun o=>(hg.below (z0b w _) hglt).below (z0b _ _) (by simp;omega)
 have hbb:∀ o o',Below w.heap.size w ((w.alloc o).alloc o'):=z0e w;subst hx;obtain rfl:m=1:=hm;obtain⟨L,hL⟩:∃ L:Nat,lo=(L:Int):=⟨lo.toNat,by omega⟩;have hLb:L≤1000:=by omega
 have hcp:=fun o=>z6j (P:=Tryd.prog) _ 38 38 3 Tryd.underlying38 infoB (hb1 o) (hb2 o)
 obtain⟨ad,A',c',rfl,hp,h9,hkr⟩:=z3t hk (Below.refl _ _) (j:=0) (x:=x) rfl;rw[show ad.add (0 * 9)=ad by simp[Addr.add]] at h9
 have HS:Hid (∀ o,w.heap.size<w.heap.size+1∧BRow (((w.alloc o).alloc (.cells (madeCells #[.bool false] N) 4)).setRow (w.heap.size+1) (rowB N F)) (w.heap.size+1) N F∧(∀ q,PB N F q ↔ iterP (Way s.data.toList b e x) (PB N F) 0 q)∧Below w.heap.size w (((w.alloc o).alloc (.cells (madeCells #[.bool false] N) 4)).setRow (w.heap.size+1) (rowB N F))):=Lib.hid fun o=>
  ⟨by omega,(hb1 o).copied F,fun q=>Iff.rfl,below_setRow (hbb o _) (by omega) _⟩
 have HC5:Hid (∀ o q u,(w.alloc o).cell? ⟨w.heap.size,q,none⟩=some u→(((w.alloc o).alloc (.cells (madeCells #[.bool false] N) 4)).setRow (w.heap.size+1) (rowB N F)).cell? ⟨w.heap.size,q,none⟩=some u):=Lib.hid fun o q u h=>by
  rw[cell_setRow_other _ _ _ _ (by show w.heap.size≠w.heap.size+1;omega),World.cell?_alloc_some _ _ _ (by rw[h];rfl),h]
 have HP9:Hid (∀ W,Below w.heap.size w W→At9 W ad x A' c'∧Kids (Lt W.heap.size) W A' x):=Lib.hid fun W hW=>⟨h9.keep (fun q=>hW.cell hp) (hW.cell hp),hkr.next hW⟩
 have HRK:=Lib.hid hr;have HN:=Lib.hid hN;have HR:=Lib.hid hR;have HCK:Hid (∀ (W w':World) (q:Nat) (u:Value),W.cell? ⟨w.heap.size,q,none⟩=some u→Below W.heap.size W w'→w'.cell? ⟨w.heap.size,q,none⟩=some u):=Lib.hid fun W w' q u h hb=>(hb.cell (p:=⟨w.heap.size,q,none⟩) (World.block_lt_of_cell? _ _ h)).trans h
 obtain⟨k',S',ks',lo',hi',n'⟩:=x;obtain⟨y,hy⟩:∃ y,y=Re.mk k' S' ks' lo' hi' n':=⟨_,rfl⟩
 have HO:Hid (∀ (W:World) (g1:Nat) (F1:Nat→Bool),Below w.heap.size w W→BRow W g1 N F1→Calls Tryd.prog 10 #[valR (.mk k' S' ks' lo' hi' n') A' c',.string s,.slice (some ⟨g1,0,none⟩) N N,.bool b,.bool e] W fun e' w'=>∃ (g2:Nat) (F2:Nat→Bool),e'= .returned (.slice (some ⟨g2,0,none⟩) N N)∧Hid (W.heap.size≤g2∧BRow w' g2 N F2∧(∀ q,PB N F2 q ↔ stepP (Way s.data.toList b e y) (PB N F1) q)∧Below W.heap.size W w')):=Lib.hid fun W g1 F1 h1 h2=>by
  have:=HRK.out A' c' W g1 F1 (HP9.out W h1).2 (by rw[←HN.out];exact h2);rw[←HN.out] at this;rw[hy];exact this
 have HP:Hid (∀ W,Below w.heap.size w W→At9 W ad (.mk k' S' ks' lo' hi' n') A' c'):=Lib.hid fun W hW=>(HP9.out W hW).1
 rw[←hy] at HS HR;simp only[valR] at HO;clear HP9 HRK hb1 hb2 hbb hr h9 hkr hlo;clear hR hs0 hs1 hs2 hs3 hN hk;clear hg hl;subst hL;go_enter Tryd.func23,Tryd.ntmps23;go_wp2
 go_loopw [11,12] (fun tv i wr=>∃ (j g':Nat) (F':Nat→Bool),j≤L∧i= .int .i64 (j:Nat)∧tv= .slice (some ⟨g',0,none⟩) N N∧Hid (w.heap.size<g'∧BRow wr g' N F'∧(∀ q,PB N F' q ↔ iterP (Way s.data.toList b e y) (PB N F) j q)∧Below w.heap.size w wr)∧wr.cell? ⟨w.heap.size,5,none⟩=some (.slice (some ad) 1 c)∧wr.cell? ⟨w.heap.size,6,none⟩=some (.int .i64 (L:Int))∧wr.cell? ⟨w.heap.size,7,none⟩=some (.int .i64 hi)) (fun _ i _=>L - (intOf i).toNat)
 case atStart=>exact⟨0,w.heap.size+1,F,Nat.zero_le _,rfl,rfl,Lib.hid (HS.out _),HC5.out _ _ _ (by simp),HC5.out _ _ _ (by simp),HC5.out _ _ _ (by simp)⟩
 case round=>
  obtain⟨j,g',F',hj,rfl,rfl,HI,c5,c6,c7⟩:=hrel;by_cases a:j<L
  ·obtain⟨d0,d1,d2,d3,d4,d5,d6,d7,d8⟩:=HP.out wr HI.out.2.2.2
   have KR:=Lib.hid (HO.out wr g' F' HI.out.2.2.2 HI.out.2.1);go_wp2_with (go_at_call 10;((with_reducible refine(KR.out).mono ?_));rintro e' w2 h2;obtain⟨g2,F2,rfl,HQ⟩:=h2;have HQ2:Hid (w.heap.size<g2∧BRow w2 g2 N F2∧(∀ q,PB N F2 q ↔ iterP (Way s.data.toList b e y) (PB N F) (j+1) q)∧Below w.heap.size w w2):=Lib.hid ⟨Nat.lt_of_lt_of_le (World.block_lt_of_cell? _ _ c5) HQ.out.1,HQ.out.2.1,fun q=>(HQ.out.2.2.1 q).trans ⟨z1t fun i hi=>(HI.out.2.2.1 i).mp hi,z1t fun i hi=>(HI.out.2.2.1 i).mpr hi⟩,HI.out.2.2.2.trans (HQ.out.2.2.2.mono HI.out.2.2.2.size)⟩;have k5:=HCK.out _ _ _ _ c5 HQ.out.2.2.2;have k6:=HCK.out _ _ _ _ c6 HQ.out.2.2.2;have k7:=HCK.out _ _ _ _ c7 HQ.out.2.2.2)
   go_roundw
   case rel=>exact⟨j+1,g2,F2,by omega,by go_num,rfl,HQ2,k5,k6,k7⟩
   case measure=>simp[intOf];omega
  ·obtain rfl:j=L:=by omega
   have hb:=HI.out.2.2.2;have hwl:w.heap.size<wr.heap.size:=World.block_lt_of_cell? _ _ c5;have t1:=BRow.made wr N;have t2:=HI.out.2.1.below (z0b wr (.cells (madeCells #[.bool false] N) 4)) HI.out.2.1.lt;have t3:Below w.heap.size w (wr.alloc (.cells (madeCells #[.bool false] N) 4)):=hb.trans ((z0b wr _).mono hb.size);have hgl:=HI.out.2.1.lt;have HT:Hid (w.heap.size<wr.heap.size):=Lib.hid hwl
   have KJ:Hid (Calls Tryd.prog 22 #[.slice (some ⟨wr.heap.size,0,none⟩) N N,.slice (some ⟨g',0,none⟩) N N] (wr.alloc (.cells (madeCells #[.bool false] N) 4)) fun e2 w2=>∃ (G:Nat→Bool) (fr:Bool),e2= .returned (.bool fr)∧Hid (RepI s b e y w wr.heap.size N j F j g' F' G fr w2)∧w2.cell? ⟨w.heap.size,5,none⟩=some (.slice (some ad) 1 c)∧w2.cell? ⟨w.heap.size,6,none⟩=some (.int .i64 (j:Int))∧w2.cell? ⟨w.heap.size,7,none⟩=some (.int .i64 hi)):=Lib.hid (by
    refine(z8v t1 t2 (by omega) (by omega)).mono fun e2 w2 ⟨r1,r2,r3⟩=>⟨_,_,r1,Lib.hid (RepI.first HI.out.1 (by omega) hwl t2 r3 r2 HI.out.2.2.1 (t3.grown r3 t3.size (fun k hk=>by injection hk with hk;omega))),?_,?_,?_⟩
    ·exact(World.cell?_of_block ((r3.block w.heap.size (by simp;omega) fun e=>by injection e;omega).trans ((z0b wr _).block w.heap.size hwl))).trans c5
    ·exact(World.cell?_of_block ((r3.block w.heap.size (by simp;omega) fun e=>by injection e;omega).trans ((z0b wr _).block w.heap.size hwl))).trans c6
    ·exact(World.cell?_of_block ((r3.block w.heap.size (by simp;omega) fun e=>by injection e;omega).trans ((z0b wr _).block w.heap.size hwl))).trans c7)
   clear t1 t2 t3 hb hwl hgl;go_wp2_with (go_at_call 22;((with_reducible refine(KJ.out).mono ?_));rintro e3 w3 h3;obtain⟨G,fr,rfl,HQ,k5,k6,k7⟩:=h3);generalize hT:wr.heap.size=T at HT HQ ⊢;clear hT
   go_loopw [11,14,15] (fun tv fv i wr=>∃ (i2 g3:Nat) (F3 G3:Nat→Bool) (f3:Bool),j≤i2∧i2≤j+N∧(hi<0∨(i2:Int)≤hi)∧i= .int .i64 (i2:Nat)∧tv= .slice (some ⟨g3,0,none⟩) N N∧fv= .bool f3∧Hid (RepI s b e y w T N j F i2 g3 F3 G3 f3 wr)∧wr.cell? ⟨w.heap.size,5,none⟩=some (.slice (some ad) 1 c)∧wr.cell? ⟨w.heap.size,7,none⟩=some (.int .i64 hi)) (fun _ _ i _=>j+N+1 - (intOf i).toNat)
   case atStart=>exact⟨j,g',F',G,fr,Nat.le_refl _,by omega,by omega,rfl,rfl,rfl,HQ,k5,k7⟩
   case round=>
    obtain⟨i2,g3,F3,G3,f3,h1,h2,h3,rfl,rfl,rfl,HI3,c51,c71⟩:=hrel
    have hend:∀ v,v= .slice (some ⟨T,0,none⟩) N N→(f3=false∨(0≤hi∧(i2:Int)=hi))→OvPost N R w F (.returned v) wr:=fun v hv hf=>
     OvPost.ret hv (by have:=HT.out;omega) HI3.out.to (fun q=>by rw[HR.out];exact HI3.out.last rfl h3 hf q) HI3.out.low
    have HEND:=Lib.hid hend;clear hend;by_cases a1:hi<0∨(i2:Int)<hi
    ·cases f3 with
     | true=>
       obtain⟨d0,d1,d2,d3,d4,d5,d6,d7,d8⟩:=HP.out wr HI3.out.low;have h9:i2+1≤j+N:=by have:=HI3.out.yes rfl;have:=y6n N G3;omega
       have KR2:Hid (Calls Tryd.prog 10 #[.agg #[.int .i64 k',.int .u64 S'.1.toNat,.int .u64 S'.2.1.toNat,.int .u64 S'.2.2.1.toNat,.int .u64 S'.2.2.2.toNat,.slice A' ks'.length c',.int .i64 lo',.int .i64 hi',.int .i64 n'],.string s,.slice (some ⟨g3,0,none⟩) N N,.bool b,.bool e] wr fun e' w'=>∃ (g2:Nat),e'= .returned (.slice (some ⟨g2,0,none⟩) N N)∧Hid (Calls Tryd.prog 22 #[.slice (some ⟨T,0,none⟩) N N,.slice (some ⟨g2,0,none⟩) N N] w' fun e2 w2=>∃ (F2 G2:Nat→Bool) (fr2:Bool),e2= .returned (.bool fr2)∧Hid (RepI s b e y w T N j F (i2+1) g2 F2 G2 fr2 w2)∧w2.cell? ⟨w.heap.size,5,none⟩=some (.slice (some ad) 1 c)∧w2.cell? ⟨w.heap.size,7,none⟩=some (.int .i64 hi))):=Lib.hid (by
        refine(HO.out wr g3 F3 HI3.out.low HI3.out.now).mono fun e' w' ⟨g2,F2,q0,HQ⟩=>⟨g2,q0,Lib.hid ?_⟩
        obtain⟨q1,q2,q3,q4⟩:=HQ.out;have hlt:=HI3.out.to.lt;have ht:=HI3.out.to.below q4 hlt;have k51:=HCK.out _ _ _ _ c51 q4;have k71:=HCK.out _ _ _ _ c71 q4;have hT:=HT.out;refine(z8v ht q2 (by omega) (by omega)).mono fun e2 w2 ⟨r1,r2,r3⟩=>⟨_,_,_,r1,Lib.hid (HI3.out.next h1 q1 q2 q3 q4 r2 r3),?_,?_⟩
        ·exact(World.cell?_of_block (r3.block w.heap.size (World.block_lt_of_cell? _ _ k51) fun e=>by injection e;omega)).trans k51
        ·exact(World.cell?_of_block (r3.block w.heap.size (World.block_lt_of_cell? _ _ k71) fun e=>by injection e;omega)).trans k71)
       rcases a1 with a1 | a1
       ·have t1:decide (hi<0)=true:=by simp[a1]
        go_wp2_with (first | (go_at_call 10;((with_reducible refine(KR2.out).mono ?_));rintro e' w4 h4;obtain⟨g4,rfl,KJ2⟩:=h4) | (go_at_call 22;((with_reducible refine(KJ2.out).mono ?_));rintro e5 w5 h5;obtain⟨F5,G5,f5,rfl,HQ5,k55,k75⟩:=h5))
        go_roundw
        case rel=>exact⟨i2+1,g4,F5,G5,f5,by omega,h9,.inl a1,by go_num,rfl,rfl,HQ5,k55,k75⟩
        case measure=>simp[intOf];omega
       ·have t1:decide (hi<0)=false:=by simp;omega
        have t2:decide ((i2:Int)<hi)=true:=by simp[a1]
        go_wp2_with (first | (go_at_call 10;((with_reducible refine(KR2.out).mono ?_));rintro e' w4 h4;obtain⟨g4,rfl,KJ2⟩:=h4) | (go_at_call 22;((with_reducible refine(KJ2.out).mono ?_));rintro e5 w5 h5;obtain⟨F5,G5,f5,rfl,HQ5,k55,k75⟩:=h5))
        go_roundw
        case rel=>exact⟨i2+1,g4,F5,G5,f5,by omega,h9,.inr (by omega),by go_num,rfl,rfl,HQ5,k55,k75⟩
        case measure=>simp[intOf];omega
     | false=>
       rcases a1 with a1 | a1
       ·have t1:decide (hi<0)=true:=by simp[a1]
        go_wp2;go_ret;exact HEND.out _ rfl (.inl (by trivial))
       ·have t1:decide (hi<0)=false:=by simp;omega
        have t2:decide ((i2:Int)<hi)=true:=by simp[a1]
        go_wp2;go_ret;exact HEND.out _ rfl (.inl (by trivial))
    ·have t1:decide (hi<0)=false:=by simp;omega
     have t2:decide ((i2:Int)<hi)=false:=by simp;omega
     go_wp2;go_ret;exact HEND.out _ rfl (.inr ⟨by omega,by omega⟩)
section
set_option linter.unusedSimpArgs false
theorem ov_1 (s:ByteArray) (b e:Bool) (hs:s.size≤100000) (S:S4) (ks:List Re) (lo hi n:Int):OvC s b e (.mk 1 S ks lo hi n):=by
 intro A c w g F hk hg;have hl:s.data.toList.length=s.size:=rfl;obtain⟨N,hN⟩:∃ N:Nat,N=s.size+1:=⟨_,rfl⟩;obtain⟨R,hR⟩:∃ R,R=Way s.data.toList b e (.mk 1 S ks lo hi n):=⟨_,rfl⟩;obtain⟨m,hm⟩:∃ m,m=ks.length:=⟨_,rfl⟩;rw[←hN,←hR];rw[←hN] at hg;simp only[valR];rw[←hm];obtain⟨s0,hs0⟩:∃ s0:Int,s0=S.1.toNat:=⟨_,rfl⟩;obtain⟨s1,hs1⟩:∃ s1:Int,s1=S.2.1.toNat:=⟨_,rfl⟩;obtain⟨s2,hs2⟩:∃ s2:Int,s2=S.2.2.1.toNat:=⟨_,rfl⟩;obtain⟨s3,hs3⟩:∃ s3:Int,s3=S.2.2.2.toNat:=⟨_,rfl⟩;rw[←hs0,←hs1,←hs2,←hs3];have e1:(s.size:Int)+1=(N:Int):=by omega
 have hN9:N≤100001:=by omega
 have hmk:=run_make_row' (P:=Tryd.prog) 38 4 (.bool false) 1 Tryd.underlying38 infoB rfl .i64 .i64 N (by omega) (by omega);have hglt:=hg.lt
 have hb1:∀ o,BRow ((w.alloc o).alloc (.cells (madeCells #[.bool false] N) 4)) (w.heap.size+1) N (fun _=>false):=fun o=>by
  have:=BRow.made (w.alloc o) N;simpa only[World.size_alloc] using this
 have hb2:∀ o,BRow ((w.alloc o).alloc (.cells (madeCells #[.bool false] N) 4)) g N F:=fun o=>(hg.below (z0b w _) hglt).below (z0b _ _) (by simp;omega)
 have hbb:∀ o o',Below w.heap.size w ((w.alloc o).alloc o'):=z0e w;obtain⟨M,hM⟩:∃ M:Nat→Bool,M=fun i=>F i && mem S ((s.data.toList[i]?).getD 0).toNat:=⟨_,rfl⟩
 have hX:∀ q,PB N (fun k=>decide (0<k∧k≤s.size) && M (k - 1)) q ↔ stepP R (PB N F) q:=fun q=>by
  rw[hR,x3j rfl,hM];unfold PB;simp only[Bool.and_eq_true,decide_eq_true_eq,Re.set]
  constructor
  ·rintro⟨h1,⟨h2,h3⟩,h4,h5⟩
   have hlt:q - 1<s.data.toList.length:=by omega
   refine⟨q - 1,s.data.toList[q - 1],⟨by omega,h4⟩,List.getElem?_eq_getElem hlt,?_,by omega⟩;rw[List.getElem?_eq_getElem hlt] at h5;exact h5
  ·rintro⟨i,c,⟨h1,h2⟩,h3,h4,rfl⟩
   have hlt:=(List.getElem?_eq_some_iff.mp h3).1;refine⟨by omega,⟨by omega,by omega⟩,h2,?_⟩;show mem S ((s.data.toList[i]?).getD 0).toNat=true;rw[h3];exact h4
 have HS:Hid (∀ o,BRow ((w.alloc o).alloc (.cells (madeCells #[.bool false] N) 4)) (w.heap.size+1) N (fun k=>decide (0<k∧k≤0) && M (k - 1))∧Below w.heap.size w ((w.alloc o).alloc (.cells (madeCells #[.bool false] N) 4))):=Lib.hid fun o=>
  ⟨(hb1 o).same fun k _=>by rw[decide_eq_false (by omega)];rfl,hbb o _⟩
 have KH:Hid (∀ (y:Nat) (W:World),y<256→Calls Tryd.prog 21 #[.agg #[.int .u64 s0,.int .u64 s1,.int .u64 s2,.int .u64 s3],.int .u8 (y:Int)] W fun e w'=>e= .returned (.bool (mem S y))∧Below W.heap.size W w'):=Lib.hid fun y W hy=>by rw[hs0,hs1,hs2,hs3];exact y6s S y hy W
 have HX:=Lib.hid hX;have HG:=Lib.hid hg;have HM:=Lib.hid hM;clear hX hb1 hb2 hbb hM;clear hR hs0 hs1 hs2 hs3 hm hN hk hg hl;go_enter Tryd.func10,Tryd.ntmps10;go_wp2
 go_loopw [12] (fun i wr=>∃ (j:Nat),j≤s.size∧i= .int .i64 (j:Nat)∧Hid (BRow wr (w.heap.size+1) N (fun k=>decide (0<k∧k≤j) && M (k - 1))∧Below w.heap.size w wr)∧wr.cell? ⟨w.heap.size,1,none⟩=some (.int .u64 s0)∧wr.cell? ⟨w.heap.size,2,none⟩=some (.int .u64 s1)∧wr.cell? ⟨w.heap.size,3,none⟩=some (.int .u64 s2)∧wr.cell? ⟨w.heap.size,4,none⟩=some (.int .u64 s3)) (fun i _=>s.size - (intOf i).toNat)
 case atStart=>exact⟨0,Nat.zero_le _,rfl,Lib.hid (HS.out _),by simp,by simp,by simp,by simp⟩
 case round=>
  obtain⟨j,hj,rfl,HI,b1,b2,b3,b4⟩:=hrel;by_cases a:j<s.size
  ·obtain⟨y,hy⟩:∃ y:Nat,y=s[j].toNat:=⟨_,rfl⟩
   have hyy:(s[j].toNat:Int)=(y:Int):=by rw[hy]
   have hy6:y<256:=by rw[hy];exact s[j].toNat_lt
   have hMj:M j=(F j && mem S y):=by
    rw[HM.out,hy];have e:=List.getElem?_eq_getElem (l:=s.data.toList) (i:=j) (by show j<s.data.toList.length;simpa using a);simp only[e];rfl
   have hbl:=World.block_lt_of_cell? _ _ b1;have hglt2:g<wr.heap.size:=by have:=HI.out.2.size;omega
   have HSV:Hid (∀ W,Below wr.heap.size wr W→(W.cell? ⟨g,j,none⟩=some (.bool (F j))∧W.cell? ⟨w.heap.size,1,none⟩=some (.int .u64 s0)∧W.cell? ⟨w.heap.size,2,none⟩=some (.int .u64 s1)∧W.cell? ⟨w.heap.size,3,none⟩=some (.int .u64 s2)∧W.cell? ⟨w.heap.size,4,none⟩=some (.int .u64 s3))∧W.cell? ⟨w.heap.size+1,j+1,none⟩=some (.bool false)∧W.frozen? ⟨w.heap.size+1,j+1,none⟩=false):=Lib.hid fun W hW=>by
    have h1:=HI.out.1.below hW HI.out.1.lt;refine⟨⟨((HG.out.below HI.out.2 hglt).below hW hglt2).cell (by omega),(hW.cell (p:=⟨w.heap.size,1,none⟩) hbl).trans b1,(hW.cell (p:=⟨w.heap.size,2,none⟩) hbl).trans b2,(hW.cell (p:=⟨w.heap.size,3,none⟩) hbl).trans b3,(hW.cell (p:=⟨w.heap.size,4,none⟩) hbl).trans b4⟩,?_,h1.free _⟩;rw[h1.cell (by omega),decide_eq_false (by omega)];rfl
   have HSV2:Hid (∀ W,Below wr.heap.size wr W→∀ u,(W.setCell ⟨w.heap.size+1,j+1,none⟩ u).cell? ⟨g,j,none⟩=some (.bool (F j))∧(W.setCell ⟨w.heap.size+1,j+1,none⟩ u).cell? ⟨w.heap.size,1,none⟩=some (.int .u64 s0)∧(W.setCell ⟨w.heap.size+1,j+1,none⟩ u).cell? ⟨w.heap.size,2,none⟩=some (.int .u64 s1)∧(W.setCell ⟨w.heap.size+1,j+1,none⟩ u).cell? ⟨w.heap.size,3,none⟩=some (.int .u64 s2)∧(W.setCell ⟨w.heap.size+1,j+1,none⟩ u).cell? ⟨w.heap.size,4,none⟩=some (.int .u64 s3)):=Lib.hid fun W hW u=>by
    obtain⟨⟨q1,q2,q3,q4,q5⟩,_⟩:=HSV.out W hW;have h0:∀ (k q:Nat),k<w.heap.size+1→(W.setCell ⟨w.heap.size+1,j+1,none⟩ u).cell? ⟨k,q,none⟩=W.cell? ⟨k,q,none⟩:=fun k q hk=>World.cell?_setCell_other _ _ _ _ (fun e=>by injection e with e;omega)
    exact⟨(h0 _ _ (by omega)).trans q1,(h0 _ _ (by omega)).trans q2,(h0 _ _ (by omega)).trans q3,(h0 _ _ (by omega)).trans q4,(h0 _ _ (by omega)).trans q5⟩
   have HREL:Hid (∀ W v,Below wr.heap.size wr W→(F j && mem S y)=v→BRow (W.setCell ⟨w.heap.size+1,j+1,none⟩ (.bool v)) (w.heap.size+1) N (fun k=>decide (0<k∧k≤j+1) && M (k - 1))∧Below w.heap.size w (W.setCell ⟨w.heap.size+1,j+1,none⟩ (.bool v))):=Lib.hid fun W v hW hv=>by
    have h1:=HI.out.1.below hW HI.out.1.lt;refine⟨(h1.set (j+1) v).same fun k _=>?_,(HI.out.2.trans (hW.mono HI.out.2.size)).setCell (by show w.heap.size≤w.heap.size+1;omega) _⟩;by_cases hk:k=j+1
    ·subst hk
     rw[if_pos rfl,←hv,←hMj];simp
    ·rw[if_neg hk]
     have:decide (0<k∧k≤j)=decide (0<k∧k≤j+1):=decide_eq_decide.mpr ⟨fun h=>⟨h.1,by omega⟩,fun h=>⟨h.1,by omega⟩⟩;rw[this]
   have KH2:Hid (∀ W,Calls Tryd.prog 21 #[.agg #[.int .u64 s0,.int .u64 s1,.int .u64 s2,.int .u64 s3],.int .u8 (y:Int)] W fun e w'=>e= .returned (.bool (mem S y))∧Below W.heap.size W w'):=Lib.hid fun W=>KH.out y W hy6
   obtain⟨v,hv⟩:∃ v,v=mem S y:=⟨_,rfl⟩;rw[←hv] at KH2 HREL;clear hv hMj hy b1 b2 b3 b4 hbl;have hwd:Below wr.heap.size wr wr.drew:=(Below.refl _ _).drew;have HD1:=(HSV.out wr.drew hwd).1;have HD2:=HSV2.out wr.drew hwd;have HWD:=Lib.hid hwd;obtain⟨_,x0,x1⟩:=HSV.out wr.drew hwd;have hlj:j+1<N:=by omega
   have i1:(0:Int)≤(j:Int):=by omega
   have i2:(j:Int)<(N:Int):=by omega
   have i3:(0:Int)≤(j:Int)+1:=by omega
   have i4:(j:Int)+1<(N:Int):=by omega
   have i5:IntKind.i64.wrap ((j:Int)+1)=(j:Int)+1:=IntWalk.i64_in _ (by omega);obtain⟨fj,hfj⟩:∃ f,f=F j:=⟨_,rfl⟩;rw[←hfj] at HD1 HD2 HSV HSV2 HREL;clear hfj hwd
   cases fj with
   | true=>
     go_wp2
     go_region_held3 (fun w'=>w'.cell? ⟨g,j,none⟩=some (.bool true)∧w'.cell? ⟨w.heap.size,1,none⟩=some (.int .u64 s0)∧w'.cell? ⟨w.heap.size,2,none⟩=some (.int .u64 s1)∧w'.cell? ⟨w.heap.size,3,none⟩=some (.int .u64 s2)∧w'.cell? ⟨w.heap.size,4,none⟩=some (.int .u64 s3)) (first | exact HD1 | exact HV1.out | exact HD2 _ | exact HV2.out _) (first | (go_at_call 21;(with_reducible refine(KH2.out _).mono ?_);rintro _ wv ⟨rfl,hbv⟩;have hbv2:=HWD.out.trans hbv;have HBV:=Lib.hid hbv2;have HV1:=Lib.hid (HSV.out wv hbv2).1;have HV2:=Lib.hid (HSV2.out wv hbv2);obtain⟨_,z0,z1⟩:=HSV.out wv hbv2;clear hbv hbv2) | fail)
     all_goals (
      go_wp2
      go_roundw
      case rel=>exact⟨j+1,by omega,by go_num,Lib.hid (HREL.out _ _ HBV.out (by simp)),(HV2.out _).2⟩
      case measure=>simp[intOf];omega)
   | false=>
     go_wp2;obtain⟨y0, -⟩:=HD1;refine wp_region_held_drew (S:=(fun w'=>w'.cell? ⟨g,j,none⟩=some (.bool false))) (by kernel_rfl) y0 ?_;intro hSo;refine wpAnyH_take (i:=0) (v:= .slice (some ⟨w.heap.size+1,0,none⟩) N N) rfl (by kernel_rfl) (by kernel_rfl) (by kernel_rfl) (fun _ _ _ h=>h) (Or.inl ⟨rfl,?yy0⟩) hSo ?_
     case yy0=>(intro w hSw;(try dsimp only at hSw);go_simp)
     (try simp only[Act.put,List.setIfInBounds_toArray,List.set_cons_zero,List.set_cons_succ,List.getElem_toArray,List.getElem_cons_zero,List.getElem_cons_succ])
     refine wpAnyH_take (i:=1) (v:= .int .i64 (j:Int)) rfl (by kernel_rfl) (by kernel_rfl) (by kernel_rfl) (fun _ _ _ h=>h) (Or.inl ⟨rfl,?yy1⟩) hSo ?_
     case yy1=>(intro w hSw;(try dsimp only at hSw);go_simp)
     (try simp only[Act.put,List.setIfInBounds_toArray,List.set_cons_zero,List.set_cons_succ,List.getElem_toArray,List.getElem_cons_zero,List.getElem_cons_succ])
     refine wpAnyH_take (i:=2) (v:= .int .i64 ((j:Int)+1)) rfl (by kernel_rfl) (by kernel_rfl) (by kernel_rfl) (fun _ _ _ h=>h) (Or.inl ⟨rfl,?yy2⟩) hSo ?_
     case yy2=>(intro w hSw;(try dsimp only at hSw);go_simp)
     (try simp only[Act.put,List.setIfInBounds_toArray,List.set_cons_zero,List.set_cons_succ,List.getElem_toArray,List.getElem_cons_zero,List.getElem_cons_succ])
     refine wpAnyH_take (i:=3) (v:= .slice (some ⟨g,0,none⟩) N N) rfl (by kernel_rfl) (by kernel_rfl) (by kernel_rfl) (fun _ _ _ h=>h) (Or.inl ⟨rfl,?yy3⟩) hSo ?_
     case yy3=>(intro w hSw;(try dsimp only at hSw);go_simp)
     (try simp only[Act.put,List.setIfInBounds_toArray,List.set_cons_zero,List.set_cons_succ,List.getElem_toArray,List.getElem_cons_zero,List.getElem_cons_succ])
     refine wpAnyH_take (i:=4) (v:= .int .i64 (j:Int)) rfl (by kernel_rfl) (by kernel_rfl) (by kernel_rfl) (fun _ _ _ h=>h) (Or.inl ⟨rfl,?yy4⟩) hSo ?_
     case yy4=>(intro w hSw;(try dsimp only at hSw);go_simp)
     (try simp only[Act.put,List.setIfInBounds_toArray,List.set_cons_zero,List.set_cons_succ,List.getElem_toArray,List.getElem_cons_zero,List.getElem_cons_succ])
     refine wpAnyH_take (i:=5) (v:= .pointer (some ⟨g,j,none⟩)) rfl (by kernel_rfl) (by kernel_rfl) (by kernel_rfl) (fun _ _ _ h=>h) (Or.inl ⟨rfl,?yy5⟩) hSo ?_
     case yy5=>(intro w hSw;(try dsimp only at hSw);go_simp)
     (try simp only[Act.put,List.setIfInBounds_toArray,List.set_cons_zero,List.set_cons_succ,List.getElem_toArray,List.getElem_cons_zero,List.getElem_cons_succ])
     refine wpAnyH_take (i:=6) (v:= .bool false) rfl (by kernel_rfl) (by kernel_rfl) (by kernel_rfl) (fun _ _ _ h=>h) (Or.inl ⟨rfl,?yy6⟩) hSo ?_
     case yy6=>(intro w hSw;(try dsimp only at hSw);go_simp)
     (try simp only[Act.put,List.setIfInBounds_toArray,List.set_cons_zero,List.set_cons_succ,List.getElem_toArray,List.getElem_cons_zero,List.getElem_cons_succ])
     refine wpAnyH_take (i:=7) (v:= .bool false) rfl (by kernel_rfl) (by kernel_rfl) (by kernel_rfl) (fun _ _ _ h=>h) (Or.inl ⟨rfl,?yy7⟩) hSo ?_
     case yy7=>(intro w hSw;(try dsimp only at hSw);go_simp)
     (try simp only[Act.put,List.setIfInBounds_toArray,List.set_cons_zero,List.set_cons_succ,List.getElem_toArray,List.getElem_cons_zero,List.getElem_cons_succ])
     refine wpAnyH_take (i:=8) (v:=undef) rfl (by kernel_rfl) (by kernel_rfl) (by kernel_rfl) (fun _ _ _ h=>h) (Or.inr ⟨rfl,rfl⟩) hSo ?_
     (try simp only[Act.put,List.setIfInBounds_toArray,List.set_cons_zero,List.set_cons_succ,List.getElem_toArray,List.getElem_cons_zero,List.getElem_cons_succ])
     refine wpAnyH_take (i:=9) (v:=undef) rfl (by kernel_rfl) (by kernel_rfl) (by kernel_rfl) (fun _ _ _ h=>h) (Or.inr ⟨rfl,rfl⟩) hSo ?_
     (try simp only[Act.put,List.setIfInBounds_toArray,List.set_cons_zero,List.set_cons_succ,List.getElem_toArray,List.getElem_cons_zero,List.getElem_cons_succ])
     refine wpAnyH_take (i:=10) (v:=undef) rfl (by kernel_rfl) (by kernel_rfl) (by kernel_rfl) (fun _ _ _ h=>h) (Or.inr ⟨rfl,rfl⟩) hSo ?_
     (try simp only[Act.put,List.setIfInBounds_toArray,List.set_cons_zero,List.set_cons_succ,List.getElem_toArray,List.getElem_cons_zero,List.getElem_cons_succ])
     refine wpAnyH_take (i:=11) (v:=undef) rfl (by kernel_rfl) (by kernel_rfl) (by kernel_rfl) (fun _ _ _ h=>h) (Or.inr ⟨rfl,rfl⟩) hSo ?_
     (try simp only[Act.put,List.setIfInBounds_toArray,List.set_cons_zero,List.set_cons_succ,List.getElem_toArray,List.getElem_cons_zero,List.getElem_cons_succ])
     refine wpAnyH_take (i:=12) (v:=undef) rfl (by kernel_rfl) (by kernel_rfl) (by kernel_rfl) (fun _ _ _ h=>h) (Or.inr ⟨rfl,rfl⟩) hSo ?_
     (try simp only[Act.put,List.setIfInBounds_toArray,List.set_cons_zero,List.set_cons_succ,List.getElem_toArray,List.getElem_cons_zero,List.getElem_cons_succ])
     refine wpAnyH_take (i:=13) (v:=undef) rfl (by kernel_rfl) (by kernel_rfl) (by kernel_rfl) (fun _ _ _ h=>h) (Or.inr ⟨rfl,rfl⟩) hSo ?_
     (try simp only[Act.put,List.setIfInBounds_toArray,List.set_cons_zero,List.set_cons_succ,List.getElem_toArray,List.getElem_cons_zero,List.getElem_cons_succ])
     refine wpAnyH_take (i:=14) (v:= .bool false) rfl (by kernel_rfl) (by kernel_rfl) (by kernel_rfl) (fun _ _ _ h=>h) (Or.inl ⟨rfl,?yy14⟩) hSo ?_
     case yy14=>(intro w hSw;(try dsimp only at hSw);go_simp)
     (try simp only[Act.put,List.setIfInBounds_toArray,List.set_cons_zero,List.set_cons_succ,List.getElem_toArray,List.getElem_cons_zero,List.getElem_cons_succ])
     refine wpAnyH_take (i:=15) (v:= .pointer (some ⟨w.heap.size+1,j+1,none⟩)) rfl (by kernel_rfl) (by kernel_rfl) (by kernel_rfl) (fun _ _ _ h=>h) (Or.inl ⟨rfl,?yy15⟩) hSo ?_
     case yy15=>(intro w hSw;(try dsimp only at hSw);go_simp)
     (try simp only[Act.put,List.setIfInBounds_toArray,List.set_cons_zero,List.set_cons_succ,List.getElem_toArray,List.getElem_cons_zero])
     refine wpAnyH_ready (rs:=[16]) (by kernel_rfl) (by simp) ?_;refine AllReadyH.cons rfl (fun K hK=>?_) AllReadyH.nil
     go_simp
     refine hK.out _ _ (HD2 (.bool false)).1 (fun _=>?_);clear hK;refine wpAnyH_done (by kernel_rfl) ?_ _;go_wp2
     go_roundw
     case rel=>exact⟨j+1,by omega,by go_num,Lib.hid (HREL.out wr.drew false HWD.out (by simp)),(HD2 (.bool false)).2⟩
     case measure=>simp[intOf];omega
  ·obtain rfl:j=s.size:=by omega
   go_wp2;go_ret;exact OvPost.ret rfl (by omega) HI.out.1 HX.out HI.out.2
theorem y2e (s:ByteArray) (b e:Bool) (hs:s.size≤100000) (r:Re):Fine r→sizeE r≤1000000→OvC s b e r:=by
 induction r using Re.ind with
 | h k S ks lo hi n ih=>
   intro hF hz
   have hlen:ks.length≤1000000:=by
    have:=z00 ks;rw[sizeE] at hz;omega
   have hkid:∀ x∈ks,OvC s b e x:=fun x hx=>ih x hx (hF.kids hx) (by
    have:=z31 hx;rw[sizeE] at hz;omega)
   rcases hF.cases with ⟨h,_⟩ | ⟨h,_⟩ | ⟨h,_⟩ | ⟨h,_⟩ | ⟨h,_⟩ | ⟨h,_⟩ | ⟨h,⟨x,hx⟩,h1,h2,h3⟩ | ⟨h,x,hx⟩ <;> simp only[Re.kind] at h <;> subst h
   ·exact ov_0 s b e hs S ks lo hi n
   ·exact ov_1 s b e hs S ks lo hi n
   ·exact ov_2 s b e hs S ks lo hi n
   ·exact ov_3 s b e hs S ks lo hi n
   ·exact ov_4 s b e hs S ks lo hi n hkid hlen
   ·exact ov_5 s b e hs S ks lo hi n hkid hlen
   ·simp only[Re.kids,Re.lo,Re.hi] at hx h1 h2 h3
    exact ov_6 s b e hs S ks lo hi n (rep_6 s b e hs S ks lo hi n x hx ⟨h1,by omega⟩ (by omega) (hkid x (by rw[hx];exact List.mem_cons_self ..)))
   ·simp only[Re.kids] at hx
    exact ov_7 s b e hs S ks lo hi n x hx (hkid x (by rw[hx];exact List.mem_cons_self ..))
end
end Go.Proofs.YtejgbpbljdhndaaDoor
