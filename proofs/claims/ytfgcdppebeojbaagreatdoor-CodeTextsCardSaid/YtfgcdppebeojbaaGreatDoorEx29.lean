import Derived.Test.YtfgcdppebeojbaaGreatDoorEx20
import Derived.Test.YtfgcdppebeojbaaGreatDoorPlainC
import Derived.IntWalk
import Derived.Test.YtfgcdppebeojbaaGreatDoorTkQ
namespace Go.Proofs.YtfgcdppebeojbaaGreatDoor
open Go Go.RowKit
set_option maxRecDepth 100000
set_option maxHeartbeats 4000000
structure MidY (b:Nat) (w w2 W:World) (A:Option Addr) (n c:Nat) (l:List Tok) (j o:Nat) (x:Ex) (A2:Option Addr) (c2:Nat):Prop where
 mid:MidX b w W A n c l j o
 box2:Box5 W w2.heap.size (.int .i64 x.kind) (.int .i64 x.n) (.string ⟨x.name.toArray⟩) (.string ⟨x.op.toArray⟩) (.slice A2 x.kids.length c2)
 kids:KidsX (FrX (w.heap.size+1) w2.heap.size) W A2 x
 lt:w.heap.size<w2.heap.size
 lt2:w2.heap.size<W.heap.size
theorem midy_of {b:Nat} {w w1 w2 W:World} {A:Option Addr} {n c:Nat} {l:List Tok} {k j o:Nat} {x:Ex} {A2:Option Addr} {c2:Nat} (h:MidX b w w1 A n c l k o) (hlt:b<w.heap.size) (hg:w1.grownBy w2 (some b)) (hr:RdrX b w2 A n c l j 0) (hk:KidsX (FrX w1.heap.size w2.heap.size) w2 A2 x)
  (hb:Below (w2.heap.size+1) (w2.alloc (objX x A2 c2)) W):MidY b w w2 W A n c l j 0 x A2 c2:=by
 have hs:=size_allocX w2 (objX x A2 c2);rw[←hs] at hb;have hall:Below w2.heap.size w2 W:=(one_boxX _ _).trans (hb.mono (by omega));have hsz:=hg.size;have h1:=h.size;exact⟨(h.more hlt hg hr).low hlt hall,(Box5.new w2 _ _ _ _ _ _).low hb,(hk.over fun k hk=>hall.block k hk.2).to (by omega) (Nat.le_refl _),by omega,by have:=hb.size;omega⟩
theorem TokRow.get {B:Nat} {w:World} {A:Option Addr} {l:List Tok} {k:Nat} {t:Tok} (h:TokRow B w A l) (ht:l[k]?=some t):∃ ad A' c',A=some ad∧ad.block<B∧TkAt w (ad.add (k * 5)) t A' c':=h k t ht
theorem xone_shut (b:Nat) (w:World) (A:Option Addr) (n c:Nat) (l:List Tok) (k d:Nat) (h:RdrX b w A n c l k 0) (hkb:l.length≤1000000) (hk:k≤l.length) (hd:d<64) (x:Ex) (j:Nat) (hj:j≤l.length) (hs:sg l k=[40]) (hs2:sg l j=[41]) (HK:XRow b A n c l 1 (k+1) (d+1) (.ok x j)):
  Calls Tryz.prog 141 #[.pointer (some ⟨b,0,none⟩),.int .i64 d] w (PostR9 b w A n c l (.ok x (j+1))):=by
 have hlt:=h.lt;have HM0:=Lib.hid (MidX.first h);obtain⟨S,hS⟩:∃ S:ByteArray,S=⟨(sg l k).toArray⟩:=⟨_,rfl⟩;have KS:Hid (∀ w,RdrX b w A n c l k 0→Calls Tryz.prog 142 #[.pointer (some ⟨b,0,none⟩)] w fun e w'=>e= .returned (.string S)∧Below w.heap.size w w'):=Lib.hid fun w h=>by rw[hS];exact signX_0 b w A n c l k h
 obtain⟨T,hT⟩:∃ S:ByteArray,S=⟨(sg l j).toArray⟩:=⟨_,rfl⟩;have KT:Hid (∀ w,RdrX b w A n c l j 0→Calls Tryz.prog 142 #[.pointer (some ⟨b,0,none⟩)] w fun e w'=>e= .returned (.string T)∧Below w.heap.size w w'):=Lib.hid fun w h=>by rw[hT];exact signX_0 b w A n c l j h
 have K:Hid (∀ w,RdrX b w A n c l (k+1) 0→Calls Tryz.prog 121 #[.pointer (some ⟨b,0,none⟩),.int .i64 1,.int .i64 ((d:Int)+1)] w (PostR9 b w A n c l (.ok x j))):=Lib.hid HK;obtain⟨s0,s1,s2⟩:=sgt_of l k S hS;rw[hs] at s0 s1 s2;obtain⟨t1,t2⟩:=sgB l j T hT [41] true (by simp[hs2]);have q1:¬ (64:Int)≤d:=by omega
 have q2:(k:Int)≤1000000:=by omega
 have q3:(j:Int)≤1000000:=by omega
 clear HK h hkb hk hd hj hs hs2 hS hT;go_enter Tryz.func141,Tryz.ntmps141;go_wp2_with (first | (go_at_call 142;((with_reducible refine(KS.out _ HM0.out.rd).mono ?_);rintro e w1 ⟨rfl,hb1⟩;have HM1:=Lib.hid (HM0.out.low hlt hb1);have HM1b:=Lib.hid hb1;clear hb1;have HM2:=Lib.hid (HM1.out.go hlt (k+1) ((k:Int)+1) (by omega));have hz0:=HM1.out.rd.c0;have hz1:=HM1.out.rd.c1;have hz2:=HM1.out.rd.c2;have hz3:=HM1.out.rd.f1;clear KS)) | (go_at_call 121;go_must ((with_reducible refine(K.out _ HM2.out.rd).mono ?_);rintro e w2 ⟨hg2,⟨A2,c2,rfl,hk2⟩,hr2⟩;have HG2:=Lib.hid hg2;have HR2:=Lib.hid hr2;have HK2:=Lib.hid hk2;clear hg2 hr2 hk2 hz0 hz1 hz2 hz3)) | (go_at_call 142;go_must ((with_reducible refine(KT.out _ (HR2.out.box _)).mono ?_);rintro e w3 ⟨rfl,hb3⟩;have HY:=Lib.hid (midy_of (c2:=c2) HM2.out hlt HG2.out HR2.out HK2.out (hb3.mono (by simp)));clear hb3;have hz0:=HY.out.mid.rd.c0;have hz1:=HY.out.mid.rd.c1;have hz3:=HY.out.mid.rd.f1;obtain⟨d0,d1,d2,d3,d4,_⟩:=HY.out.mid.boxQ;obtain⟨e0,e1,e2,e3,e4⟩:=HY.out.mid.boxQ.freed;obtain⟨g0,g1,g2,g3,g4,_⟩:=HY.out.box2;have hl1:=HY.out.lt;have hl2:=HY.out.lt2)));obtain⟨W,hW⟩:∃ W,W=w3.setCell ⟨b,1,none⟩ (.int .i64 ((j:Int)+1)):=⟨_,rfl⟩;have hm:MidX b w W A n c l (j+1) 0:=by rw[hW];exact HY.out.mid.go hlt (j+1) _ (by omega)
 have hsW:W.heap.size=w3.heap.size:=by rw[hW];simp[World.setCell]
 have hkd:KidsX (FrX (w.heap.size+1) w2.heap.size) W A2 x:=by rw[hW];exact HY.out.kids.over fun k hk=>Below.heap_setCell _ _ _ _ (by have:=hk.1;show k≠b;omega)
 rw[←hW];obtain⟨W3,hW3⟩:∃ W3,W3=put5 W w.heap.size (.int .i64 x.kind) (.int .i64 x.n) (.string ⟨x.name.toArray⟩) (.string ⟨x.op.toArray⟩) (.slice A2 x.kids.length c2):=⟨_,rfl⟩;have HE:EndX b w W3 A n c l (j+1) 0 (.int .i64 x.kind) (.int .i64 x.n) (.string ⟨x.name.toArray⟩) (.string ⟨x.op.toArray⟩) (.slice A2 x.kids.length c2):=hm.fin hlt (by rw[hW3];exact Below.refl _ _)
 have hk3:KidsX (FrX w.heap.size W3.heap.size) W3 A2 x:=by
  rw[hW3];exact(hkd.put5 (fun hp=>by have:=hp.1;omega) _ _ _ _ _).to (by omega) (by rw[size_put5,hsW];omega)
 unfold put5 at hW3;rw[←hW3];clear hW3 d0 d1 d2 d3 d4;obtain⟨d0,d1,d2,d3,d4,_⟩:=HE.box;exact bodyPost_ret (v:= .agg #[.int .i64 x.kind,.int .i64 x.n,.string ⟨x.name.toArray⟩,.string ⟨x.op.toArray⟩,.slice A2 x.kids.length c2]) (by simp[results,Tryz.results141,go_sem,d0,d1,d2,d3,d4]) rfl ⟨HE.grown,⟨_,_,rfl,hk3⟩,HE.rd⟩
theorem xone_open (b:Nat) (w:World) (A:Option Addr) (n c:Nat) (l:List Tok) (k d:Nat) (h:RdrX b w A n c l k 0) (hkb:l.length≤1000000) (hk:k≤l.length) (hd:d<64) (x:Ex) (j:Nat) (hj:j≤l.length) (hs:sg l k=[40]) (hs2:sg l j≠[41]) (HK:XRow b A n c l 1 (k+1) (d+1) (.ok x j)):
  Calls Tryz.prog 141 #[.pointer (some ⟨b,0,none⟩),.int .i64 d] w (PostR9 b w A n c l (.bad j 1)):=by
 have hlt:=h.lt;have HM0:=Lib.hid (MidX.first h);obtain⟨S,hS⟩:∃ S:ByteArray,S=⟨(sg l k).toArray⟩:=⟨_,rfl⟩;have KS:Hid (∀ w,RdrX b w A n c l k 0→Calls Tryz.prog 142 #[.pointer (some ⟨b,0,none⟩)] w fun e w'=>e= .returned (.string S)∧Below w.heap.size w w'):=Lib.hid fun w h=>by rw[hS];exact signX_0 b w A n c l k h
 obtain⟨T,hT⟩:∃ S:ByteArray,S=⟨(sg l j).toArray⟩:=⟨_,rfl⟩;have KT:Hid (∀ w,RdrX b w A n c l j 0→Calls Tryz.prog 142 #[.pointer (some ⟨b,0,none⟩)] w fun e w'=>e= .returned (.string T)∧Below w.heap.size w w'):=Lib.hid fun w h=>by rw[hT];exact signX_0 b w A n c l j h
 have K:Hid (∀ w,RdrX b w A n c l (k+1) 0→Calls Tryz.prog 121 #[.pointer (some ⟨b,0,none⟩),.int .i64 1,.int .i64 ((d:Int)+1)] w (PostR9 b w A n c l (.ok x j))):=Lib.hid HK;obtain⟨s0,s1,s2⟩:=sgt_of l k S hS;rw[hs] at s0 s1 s2;obtain⟨t1,t2⟩:=sgB l j T hT [41] false (by simp[hs2]);have q1:¬ (64:Int)≤d:=by omega
 have q2:(k:Int)≤1000000:=by omega
 have q3:(j:Int)≤1000000:=by omega
 have KF:=Lib.hid fun w h=>failX_0 1 1 rfl b w A n c l j h
 clear HK h hkb hk hd hj hs hs2 hS hT;go_enter Tryz.func141,Tryz.ntmps141;go_wp2_with (first | (go_at_call 142;((with_reducible refine(KS.out _ HM0.out.rd).mono ?_);rintro e w1 ⟨rfl,hb1⟩;have HM1:=Lib.hid (HM0.out.low hlt hb1);have HM1b:=Lib.hid hb1;clear hb1;have HM2:=Lib.hid (HM1.out.go hlt (k+1) ((k:Int)+1) (by omega));have hz0:=HM1.out.rd.c0;have hz1:=HM1.out.rd.c1;have hz2:=HM1.out.rd.c2;have hz3:=HM1.out.rd.f1;clear KS)) | (go_at_call 121;go_must ((with_reducible refine(K.out _ HM2.out.rd).mono ?_);rintro e w2 ⟨hg2,⟨A2,c2,rfl,hk2⟩,hr2⟩;have HG2:=Lib.hid hg2;have HR2:=Lib.hid hr2;have HK2:=Lib.hid hk2;clear hg2 hr2 hk2 hz0 hz1 hz2 hz3)) | (go_at_call 142;go_must ((with_reducible refine(KT.out _ (HR2.out.box _)).mono ?_);rintro e w3 ⟨rfl,hb3⟩;have HY:=Lib.hid (midy_of (c2:=c2) HM2.out hlt HG2.out HR2.out HK2.out (hb3.mono (by simp)));clear hb3;have hz0:=HY.out.mid.rd.c0;have hz1:=HY.out.mid.rd.c1;have hz3:=HY.out.mid.rd.f1;obtain⟨d0,d1,d2,d3,d4,_⟩:=HY.out.mid.boxQ;obtain⟨e0,e1,e2,e3,e4⟩:=HY.out.mid.boxQ.freed;obtain⟨g0,g1,g2,g3,g4,_⟩:=HY.out.box2;have hl1:=HY.out.lt;have hl2:=HY.out.lt2)) | (go_at_call 143;go_must ((with_reducible refine(KF.out _ HY.out.mid.rd).mono ?_);rintro e w4 ⟨rfl,hr4,hg4⟩;have HM4:=Lib.hid (HY.out.mid.more hlt hg4 hr4);clear hr4 hg4 d0 d1 d2 d3 d4 e0 e1 e2 e3 e4;obtain⟨d0,d1,d2,d3,d4,_⟩:=HM4.out.boxQ;obtain⟨e0,e1,e2,e3,e4⟩:=HM4.out.boxQ.freed)));obtain⟨W3,hW3⟩:∃ W3,W3=put5 w4 w.heap.size (.int .i64 0) (.int .i64 0) (.string ⟨#[]⟩) (.string ⟨#[]⟩) (.slice none 0 0):=⟨_,rfl⟩;have HE:EndX b w W3 A n c l j 1 (.int .i64 0) (.int .i64 0) (.string ⟨#[]⟩) (.string ⟨#[]⟩) (.slice none 0 0):=HM4.out.fin hlt (by rw[hW3];exact Below.refl _ _);unfold put5 at hW3;rw[←hW3];clear hW3 d0 d1 d2 d3 d4;obtain⟨d0,d1,d2,d3,d4,_⟩:=HE.box;exact bodyPost_ret (v:= .agg #[.int .i64 0,.int .i64 0,.string ⟨#[]⟩,.string ⟨#[]⟩,.slice none 0 0]) (by simp[results,Tryz.results141,go_sem,d0,d1,d2,d3,d4]) rfl (post_zero HE)
theorem xone_parbad (b:Nat) (w:World) (A:Option Addr) (n c:Nat) (l:List Tok) (k d:Nat) (h:RdrX b w A n c l k 0) (hkb:l.length≤1000000) (hk:k≤l.length) (hd:d<64) (j er:Nat) (he:er=1∨er=8) (hs:sg l k=[40]) (HK:XRow b A n c l 1 (k+1) (d+1) (.bad j er)):
  Calls Tryz.prog 141 #[.pointer (some ⟨b,0,none⟩),.int .i64 d] w (PostR9 b w A n c l (.bad j er)):=by
 have hlt:=h.lt;have HM0:=Lib.hid (MidX.first h);obtain⟨S,hS⟩:∃ S:ByteArray,S=⟨(sg l k).toArray⟩:=⟨_,rfl⟩;have KS:Hid (∀ w,RdrX b w A n c l k 0→Calls Tryz.prog 142 #[.pointer (some ⟨b,0,none⟩)] w fun e w'=>e= .returned (.string S)∧Below w.heap.size w w'):=Lib.hid fun w h=>by rw[hS];exact signX_0 b w A n c l k h
 have K:Hid (∀ w,RdrX b w A n c l (k+1) 0→Calls Tryz.prog 121 #[.pointer (some ⟨b,0,none⟩),.int .i64 1,.int .i64 ((d:Int)+1)] w (PostR9 b w A n c l (.bad j er))):=Lib.hid HK;obtain⟨s0,s1,s2⟩:=sgt_of l k S hS;rw[hs] at s0 s1 s2;have KT:=Lib.hid fun w h=>signX_1 b w A n c l j er h (by omega)
 have KF:=Lib.hid fun w h=>failX_1 1 1 rfl b w A n c l j er h (by omega)
 have q1:¬ (64:Int)≤d:=by omega
 have q2:(k:Int)≤1000000:=by omega
 clear HK h hkb hk hd hs hS he;go_enter Tryz.func141,Tryz.ntmps141;go_wp2_with (first | (go_at_call 142;((with_reducible refine(KS.out _ HM0.out.rd).mono ?_);rintro e w1 ⟨rfl,hb1⟩;have HM1:=Lib.hid (HM0.out.low hlt hb1);have HM1b:=Lib.hid hb1;clear hb1;have HM2:=Lib.hid (HM1.out.go hlt (k+1) ((k:Int)+1) (by omega));have hz0:=HM1.out.rd.c0;have hz1:=HM1.out.rd.c1;have hz2:=HM1.out.rd.c2;have hz3:=HM1.out.rd.f1;clear KS)) | (go_at_call 121;go_must ((with_reducible refine(K.out _ HM2.out.rd).mono ?_);rintro e w2 ⟨hg2,⟨v0,v1,v2,v3,A4,n4,c4,rfl⟩,hr2⟩;have HM3:=Lib.hid ((HM2.out.more hlt hg2 hr2).low hlt (one_boxX w2 (.cells #[.int .i64 v0,.int .i64 v1,.string v2,.string v3,.slice A4 n4 c4] 44)));clear hg2 hr2 hz0 hz1 hz2 hz3)) | (go_at_call 142;go_must ((with_reducible refine(KT.out _ HM3.out.rd).mono ?_);rintro e w3 ⟨rfl,hb3⟩;have HM4:=Lib.hid (HM3.out.low hlt hb3);clear hb3)) | (go_at_call 143;go_must ((with_reducible refine(KF.out _ HM4.out.rd).mono ?_);rintro e w4 ⟨rfl,hr4,hg4⟩;have HM5:=Lib.hid (HM4.out.more hlt hg4 hr4);clear hr4 hg4;obtain⟨d0,d1,d2,d3,d4,_⟩:=HM5.out.boxQ;obtain⟨e0,e1,e2,e3,e4⟩:=HM5.out.boxQ.freed)));obtain⟨W3,hW3⟩:∃ W3,W3=put5 w4 w.heap.size (.int .i64 0) (.int .i64 0) (.string ⟨#[]⟩) (.string ⟨#[]⟩) (.slice none 0 0):=⟨_,rfl⟩;have HE:EndX b w W3 A n c l j er (.int .i64 0) (.int .i64 0) (.string ⟨#[]⟩) (.string ⟨#[]⟩) (.slice none 0 0):=HM5.out.fin hlt (by rw[hW3];exact Below.refl _ _);unfold put5 at hW3;rw[←hW3];clear hW3 d0 d1 d2 d3 d4;obtain⟨d0,d1,d2,d3,d4,_⟩:=HE.box;exact bodyPost_ret (v:= .agg #[.int .i64 0,.int .i64 0,.string ⟨#[]⟩,.string ⟨#[]⟩,.slice none 0 0]) (by simp[results,Tryz.results141,go_sem,d0,d1,d2,d3,d4]) rfl (post_zero HE)
theorem xone_signed (b:Nat) (w:World) (A:Option Addr) (n c:Nat) (l:List Tok) (k d:Nat) (h:RdrX b w A n c l k 0) (hkb:l.length≤1000000) (hk:k≤l.length) (hd:d<64) (kd:Int) (hs:(sg l k=[45]∧kd=2)∨(sg l k=[33]∧kd=3)) (x:Ex) (j:Nat) (HK:XOne b A n c l (k+1) (d+1) (.ok x j)):
  Calls Tryz.prog 141 #[.pointer (some ⟨b,0,none⟩),.int .i64 d] w (PostR9 b w A n c l (.ok (.mk kd 0 [] [] [x]) j)):=by
 have hlt:=h.lt;have HM0:=Lib.hid (MidX.first h);obtain⟨S,hS⟩:∃ S:ByteArray,S=⟨(sg l k).toArray⟩:=⟨_,rfl⟩;have KS:Hid (∀ w,RdrX b w A n c l k 0→Calls Tryz.prog 142 #[.pointer (some ⟨b,0,none⟩)] w fun e w'=>e= .returned (.string S)∧Below w.heap.size w w'):=Lib.hid fun w h=>by rw[hS];exact signX_0 b w A n c l k h
 have K:Hid (∀ w,RdrX b w A n c l (k+1) 0→Calls Tryz.prog 141 #[.pointer (some ⟨b,0,none⟩),.int .i64 ((d:Int)+1)] w (PostR9 b w A n c l (.ok x j))):=Lib.hid HK;obtain⟨s0,s1,s2⟩:=sgt_of l k S hS;have q1:¬ (64:Int)≤d:=by omega
 have q2:(k:Int)≤1000000:=by omega
 rcases hs with ⟨hs,rfl⟩ | ⟨hs,rfl⟩
 ·rw[hs] at s0 s1 s2
  clear HK h hkb hk hd hs hS;go_enter Tryz.func141,Tryz.ntmps141;go_wp2_with (first | (go_at_call 142;((with_reducible refine(KS.out _ HM0.out.rd).mono ?_);rintro e w1 ⟨rfl,hb1⟩;have HM1:=Lib.hid (HM0.out.low hlt hb1);have HM1b:=Lib.hid hb1;clear hb1;have HM2:=Lib.hid (HM1.out.go hlt (k+1) ((k:Int)+1) (by omega));have hz0:=HM1.out.rd.c0;have hz1:=HM1.out.rd.c1;have hz2:=HM1.out.rd.c2;have hz3:=HM1.out.rd.f1;clear KS)) | (go_at_call 141;go_must ((with_reducible refine(K.out _ HM2.out.rd).mono ?_);rintro e w2 ⟨hg2,⟨A2,c2,rfl,hk2⟩,hr2⟩;have HM3:=Lib.hid (HM2.out.more hlt hg2 hr2);have HK2:=Lib.hid hk2;have HS2:=Lib.hid HM2.out.size;clear hg2 hr2 hk2 hz0 hz1 hz2 hz3;obtain⟨d0,d1,d2,d3,d4,_⟩:=HM3.out.boxQ;obtain⟨e0,e1,e2,e3,e4⟩:=HM3.out.boxQ.freed;have hl1:=HM3.out.size)));obtain⟨W3,hW3⟩:∃ W3,W3=((put5 w2 w.heap.size (.int .i64 2) (.int .i64 0) (.string ⟨#[]⟩) (.string ⟨#[]⟩) (.slice (some ⟨w2.heap.size+1,0,none⟩) 1 1)).alloc (objX x A2 c2)).alloc (objX x A2 c2):=⟨_,rfl⟩;have HE:EndX b w W3 A n c l j 0 (.int .i64 2) (.int .i64 0) (.string ⟨#[]⟩) (.string ⟨#[]⟩) (.slice (some ⟨w2.heap.size+1,0,none⟩) 1 1):=HM3.out.fin hlt (by rw[hW3];exact(one_boxX _ _).trans ((one_boxX _ _).mono (by simp)))
  have hk3:KidsX (FrX w.heap.size W3.heap.size) W3 (some ⟨w2.heap.size+1,0,none⟩) (.mk 2 0 [] [] [x]):=by
   have g1:=(HK2.out.to (lo':=w.heap.size+1) (by have:=HS2.out;omega) (Nat.le_refl _)).put5 (c:=w.heap.size) (fun hp=>by have:=hp.1;omega) (.int .i64 2) (.int .i64 0) (.string ⟨#[]⟩) (.string ⟨#[]⟩) (.slice (some ⟨w2.heap.size+1,0,none⟩) 1 1);have g2:=g1.allocX (fun k hk=>by rw[size_put5];exact hk.2) (objX x A2 c2);have hs:((put5 w2 w.heap.size (.int .i64 2) (.int .i64 0) (.string ⟨#[]⟩) (.string ⟨#[]⟩) (.slice (some ⟨w2.heap.size+1,0,none⟩) 1 1)).alloc (objX x A2 c2)).heap.size=w2.heap.size+1:=by rw[size_allocX,size_put5]
   have g3:=kid_one (c:=c2) g2 (fun k hk=>by rw[hs];have:=hk.2;omega) 2 0 [] [];rw[←hW3,hs] at g3;have hs3:W3.heap.size=w2.heap.size+2:=by rw[hW3,size_allocX,hs]
   exact g3.wide fun q hp=>by
    rw[hs3]
    rcases hp with hp | rfl
    ·exact⟨by have:=hp.1;omega,by have:=hp.2;omega⟩
    ·exact⟨by omega,by omega⟩
  rw[←hW3];clear hW3 d0 d1 d2 d3 d4;obtain⟨d0,d1,d2,d3,d4,_⟩:=HE.box;exact bodyPost_ret (v:= .agg #[.int .i64 2,.int .i64 0,.string ⟨#[]⟩,.string ⟨#[]⟩,.slice (some ⟨w2.heap.size+1,0,none⟩) 1 1]) (by simp[results,Tryz.results141,go_sem,d0,d1,d2,d3,d4]) rfl ⟨HE.grown,⟨_,1,rfl,hk3⟩,HE.rd⟩
 ·rw[hs] at s0 s1 s2
  clear HK h hkb hk hd hs hS;go_enter Tryz.func141,Tryz.ntmps141;go_wp2_with (first | (go_at_call 142;((with_reducible refine(KS.out _ HM0.out.rd).mono ?_);rintro e w1 ⟨rfl,hb1⟩;have HM1:=Lib.hid (HM0.out.low hlt hb1);have HM1b:=Lib.hid hb1;clear hb1;have HM2:=Lib.hid (HM1.out.go hlt (k+1) ((k:Int)+1) (by omega));have hz0:=HM1.out.rd.c0;have hz1:=HM1.out.rd.c1;have hz2:=HM1.out.rd.c2;have hz3:=HM1.out.rd.f1;clear KS)) | (go_at_call 141;go_must ((with_reducible refine(K.out _ HM2.out.rd).mono ?_);rintro e w2 ⟨hg2,⟨A2,c2,rfl,hk2⟩,hr2⟩;have HM3:=Lib.hid (HM2.out.more hlt hg2 hr2);have HK2:=Lib.hid hk2;have HS2:=Lib.hid HM2.out.size;clear hg2 hr2 hk2 hz0 hz1 hz2 hz3;obtain⟨d0,d1,d2,d3,d4,_⟩:=HM3.out.boxQ;obtain⟨e0,e1,e2,e3,e4⟩:=HM3.out.boxQ.freed;have hl1:=HM3.out.size)));obtain⟨W3,hW3⟩:∃ W3,W3=((put5 w2 w.heap.size (.int .i64 3) (.int .i64 0) (.string ⟨#[]⟩) (.string ⟨#[]⟩) (.slice (some ⟨w2.heap.size+1,0,none⟩) 1 1)).alloc (objX x A2 c2)).alloc (objX x A2 c2):=⟨_,rfl⟩;have HE:EndX b w W3 A n c l j 0 (.int .i64 3) (.int .i64 0) (.string ⟨#[]⟩) (.string ⟨#[]⟩) (.slice (some ⟨w2.heap.size+1,0,none⟩) 1 1):=HM3.out.fin hlt (by rw[hW3];exact(one_boxX _ _).trans ((one_boxX _ _).mono (by simp)))
  have hk3:KidsX (FrX w.heap.size W3.heap.size) W3 (some ⟨w2.heap.size+1,0,none⟩) (.mk 3 0 [] [] [x]):=by
   have g1:=(HK2.out.to (lo':=w.heap.size+1) (by have:=HS2.out;omega) (Nat.le_refl _)).put5 (c:=w.heap.size) (fun hp=>by have:=hp.1;omega) (.int .i64 3) (.int .i64 0) (.string ⟨#[]⟩) (.string ⟨#[]⟩) (.slice (some ⟨w2.heap.size+1,0,none⟩) 1 1);have g2:=g1.allocX (fun k hk=>by rw[size_put5];exact hk.2) (objX x A2 c2);have hs:((put5 w2 w.heap.size (.int .i64 3) (.int .i64 0) (.string ⟨#[]⟩) (.string ⟨#[]⟩) (.slice (some ⟨w2.heap.size+1,0,none⟩) 1 1)).alloc (objX x A2 c2)).heap.size=w2.heap.size+1:=by rw[size_allocX,size_put5]
   have g3:=kid_one (c:=c2) g2 (fun k hk=>by rw[hs];have:=hk.2;omega) 3 0 [] [];rw[←hW3,hs] at g3;have hs3:W3.heap.size=w2.heap.size+2:=by rw[hW3,size_allocX,hs]
   exact g3.wide fun q hp=>by
    rw[hs3]
    rcases hp with hp | rfl
    ·exact⟨by have:=hp.1;omega,by have:=hp.2;omega⟩
    ·exact⟨by omega,by omega⟩
  rw[←hW3];clear hW3 d0 d1 d2 d3 d4;obtain⟨d0,d1,d2,d3,d4,_⟩:=HE.box;exact bodyPost_ret (v:= .agg #[.int .i64 3,.int .i64 0,.string ⟨#[]⟩,.string ⟨#[]⟩,.slice (some ⟨w2.heap.size+1,0,none⟩) 1 1]) (by simp[results,Tryz.results141,go_sem,d0,d1,d2,d3,d4]) rfl ⟨HE.grown,⟨_,1,rfl,hk3⟩,HE.rd⟩
theorem xone_signbad (b:Nat) (w:World) (A:Option Addr) (n c:Nat) (l:List Tok) (k d:Nat) (h:RdrX b w A n c l k 0) (hkb:l.length≤1000000) (hk:k≤l.length) (hd:d<64) (kd:Int) (hs:(sg l k=[45]∧kd=2)∨(sg l k=[33]∧kd=3)) (j er:Nat) (HK:XOne b A n c l (k+1) (d+1) (.bad j er)):
  Calls Tryz.prog 141 #[.pointer (some ⟨b,0,none⟩),.int .i64 d] w (PostR9 b w A n c l (.bad j er)):=by
 have hlt:=h.lt;have HM0:=Lib.hid (MidX.first h);obtain⟨S,hS⟩:∃ S:ByteArray,S=⟨(sg l k).toArray⟩:=⟨_,rfl⟩;have KS:Hid (∀ w,RdrX b w A n c l k 0→Calls Tryz.prog 142 #[.pointer (some ⟨b,0,none⟩)] w fun e w'=>e= .returned (.string S)∧Below w.heap.size w w'):=Lib.hid fun w h=>by rw[hS];exact signX_0 b w A n c l k h
 have K:Hid (∀ w,RdrX b w A n c l (k+1) 0→Calls Tryz.prog 141 #[.pointer (some ⟨b,0,none⟩),.int .i64 ((d:Int)+1)] w (PostR9 b w A n c l (.bad j er))):=Lib.hid HK;obtain⟨s0,s1,s2⟩:=sgt_of l k S hS;have q1:¬ (64:Int)≤d:=by omega
 have q2:(k:Int)≤1000000:=by omega
 rcases hs with ⟨hs,rfl⟩ | ⟨hs,rfl⟩
 ·rw[hs] at s0 s1 s2
  clear HK h hkb hk hd hs hS;go_enter Tryz.func141,Tryz.ntmps141;go_wp2_with (first | (go_at_call 142;((with_reducible refine(KS.out _ HM0.out.rd).mono ?_);rintro e w1 ⟨rfl,hb1⟩;have HM1:=Lib.hid (HM0.out.low hlt hb1);have HM1b:=Lib.hid hb1;clear hb1;have HM2:=Lib.hid (HM1.out.go hlt (k+1) ((k:Int)+1) (by omega));have hz0:=HM1.out.rd.c0;have hz1:=HM1.out.rd.c1;have hz2:=HM1.out.rd.c2;have hz3:=HM1.out.rd.f1;clear KS)) | (go_at_call 141;go_must ((with_reducible refine(K.out _ HM2.out.rd).mono ?_);rintro e w2 ⟨hg2,⟨v0,v1,v2,v3,A4,n4,c4,rfl⟩,hr2⟩;have HM3:=Lib.hid (HM2.out.more hlt hg2 hr2);clear hg2 hr2 hz0 hz1 hz2 hz3;obtain⟨d0,d1,d2,d3,d4,_⟩:=HM3.out.boxQ;obtain⟨e0,e1,e2,e3,e4⟩:=HM3.out.boxQ.freed;have hl1:=HM3.out.size)));obtain⟨W3,hW3⟩:∃ W3,W3=((put5 w2 w.heap.size (.int .i64 2) (.int .i64 0) (.string ⟨#[]⟩) (.string ⟨#[]⟩) (.slice (some ⟨w2.heap.size+1,0,none⟩) 1 1)).alloc (.cells #[.int .i64 v0,.int .i64 v1,.string v2,.string v3,.slice A4 n4 c4] 44)).alloc (.cells #[.int .i64 v0,.int .i64 v1,.string v2,.string v3,.slice A4 n4 c4] 44):=⟨_,rfl⟩;have HE:EndX b w W3 A n c l j er (.int .i64 2) (.int .i64 0) (.string ⟨#[]⟩) (.string ⟨#[]⟩) (.slice (some ⟨w2.heap.size+1,0,none⟩) 1 1):=HM3.out.fin hlt (by rw[hW3];exact(one_boxX _ _).trans ((one_boxX _ _).mono (by simp)));rw[←hW3];clear hW3 d0 d1 d2 d3 d4;obtain⟨d0,d1,d2,d3,d4,_⟩:=HE.box;exact bodyPost_ret (v:= .agg #[.int .i64 2,.int .i64 0,.string ⟨#[]⟩,.string ⟨#[]⟩,.slice (some ⟨w2.heap.size+1,0,none⟩) 1 1]) (by simp[results,Tryz.results141,go_sem,d0,d1,d2,d3,d4]) rfl ⟨HE.grown,⟨2,0,⟨#[]⟩,⟨#[]⟩,some ⟨w2.heap.size+1,0,none⟩,1,1,rfl⟩,HE.rd⟩
 ·rw[hs] at s0 s1 s2
  clear HK h hkb hk hd hs hS;go_enter Tryz.func141,Tryz.ntmps141;go_wp2_with (first | (go_at_call 142;((with_reducible refine(KS.out _ HM0.out.rd).mono ?_);rintro e w1 ⟨rfl,hb1⟩;have HM1:=Lib.hid (HM0.out.low hlt hb1);have HM1b:=Lib.hid hb1;clear hb1;have HM2:=Lib.hid (HM1.out.go hlt (k+1) ((k:Int)+1) (by omega));have hz0:=HM1.out.rd.c0;have hz1:=HM1.out.rd.c1;have hz2:=HM1.out.rd.c2;have hz3:=HM1.out.rd.f1;clear KS)) | (go_at_call 141;go_must ((with_reducible refine(K.out _ HM2.out.rd).mono ?_);rintro e w2 ⟨hg2,⟨v0,v1,v2,v3,A4,n4,c4,rfl⟩,hr2⟩;have HM3:=Lib.hid (HM2.out.more hlt hg2 hr2);clear hg2 hr2 hz0 hz1 hz2 hz3;obtain⟨d0,d1,d2,d3,d4,_⟩:=HM3.out.boxQ;obtain⟨e0,e1,e2,e3,e4⟩:=HM3.out.boxQ.freed;have hl1:=HM3.out.size)));obtain⟨W3,hW3⟩:∃ W3,W3=((put5 w2 w.heap.size (.int .i64 3) (.int .i64 0) (.string ⟨#[]⟩) (.string ⟨#[]⟩) (.slice (some ⟨w2.heap.size+1,0,none⟩) 1 1)).alloc (.cells #[.int .i64 v0,.int .i64 v1,.string v2,.string v3,.slice A4 n4 c4] 44)).alloc (.cells #[.int .i64 v0,.int .i64 v1,.string v2,.string v3,.slice A4 n4 c4] 44):=⟨_,rfl⟩;have HE:EndX b w W3 A n c l j er (.int .i64 3) (.int .i64 0) (.string ⟨#[]⟩) (.string ⟨#[]⟩) (.slice (some ⟨w2.heap.size+1,0,none⟩) 1 1):=HM3.out.fin hlt (by rw[hW3];exact(one_boxX _ _).trans ((one_boxX _ _).mono (by simp)));rw[←hW3];clear hW3 d0 d1 d2 d3 d4;obtain⟨d0,d1,d2,d3,d4,_⟩:=HE.box;exact bodyPost_ret (v:= .agg #[.int .i64 3,.int .i64 0,.string ⟨#[]⟩,.string ⟨#[]⟩,.slice (some ⟨w2.heap.size+1,0,none⟩) 1 1]) (by simp[results,Tryz.results141,go_sem,d0,d1,d2,d3,d4]) rfl ⟨HE.grown,⟨3,0,⟨#[]⟩,⟨#[]⟩,some ⟨w2.heap.size+1,0,none⟩,1,1,rfl⟩,HE.rd⟩
theorem xone_num (b:Nat) (w:World) (A:Option Addr) (n c:Nat) (l:List Tok) (k d:Nat) (h:RdrX b w A n c l k 0) (hkb:l.length≤1000000) (t:Tok) (ht:l[k]?=some t) (h2:t.kind=2):
  Calls Tryz.prog 141 #[.pointer (some ⟨b,0,none⟩),.int .i64 d] w (PostR9 b w A n c l (.ok (exNum t.n) (k+1))):=by
 have hlt:=h.lt;have HM0:=Lib.hid (MidX.first h);obtain⟨S,hS⟩:∃ S:ByteArray,S=⟨(sg l k).toArray⟩:=⟨_,rfl⟩;have KS:Hid (∀ w,RdrX b w A n c l k 0→Calls Tryz.prog 142 #[.pointer (some ⟨b,0,none⟩)] w fun e w'=>e= .returned (.string S)∧Below w.heap.size w w'):=Lib.hid fun w h=>by rw[hS];exact signX_0 b w A n c l k h
 have hk:=(List.getElem?_eq_some_iff.1 ht).1;have hn:=h.len;obtain⟨ad,A',c',rfl,hab,h5⟩:=h.row.get ht;obtain⟨s0,s1,s2⟩:=sgt_of l k S hS;rw[sg_kind ht (by omega)] at s0 s1 s2;have q2:(k:Int)≤1000000:=by omega
 have q4:decide ((n:Int)≤(k:Int))=false:=by simp;omega
 have q5:decide (n≤k)=false:=by simp;omega
 have q6:(k:Int)<n:=by omega
 have hbt:(ad.add (k * 5)).block<w.heap.size:=by rw[blockX_add];omega
 obtain⟨W0,hW0⟩:∃ W:ByteArray,W=⟨t.word.toArray⟩:=⟨_,rfl⟩;obtain⟨m0,hm0⟩:∃ m,m=t.parts.length:=⟨_,rfl⟩;unfold TkAt at h5;rw[←hW0,←hm0,h2] at h5
 have HT:Hid (∀ w',Below w.heap.size w w'→w'.cell? (ad.add (k * 5))=some (.int .i64 2)∧w'.cell? ⟨(ad.add (k * 5)).block,(ad.add (k * 5)).off+1,none⟩=some (.string W0)∧w'.cell? ⟨(ad.add (k * 5)).block,(ad.add (k * 5)).off+2,none⟩=some (.int .i64 t.n)∧w'.cell? ⟨(ad.add (k * 5)).block,(ad.add (k * 5)).off+3,none⟩=some (.slice A' m0 c')∧w'.cell? ⟨(ad.add (k * 5)).block,(ad.add (k * 5)).off+4,none⟩=some (.int .i64 t.pl)):=Lib.hid fun w' hb=>
  ⟨(hb.cell hbt).trans h5.1,(hb.cell (p:=⟨(ad.add (k * 5)).block,(ad.add (k * 5)).off+1,none⟩) hbt).trans h5.2.1,(hb.cell (p:=⟨(ad.add (k * 5)).block,(ad.add (k * 5)).off+2,none⟩) hbt).trans h5.2.2.1,(hb.cell (p:=⟨(ad.add (k * 5)).block,(ad.add (k * 5)).off+3,none⟩) hbt).trans h5.2.2.2.1,(hb.cell (p:=⟨(ad.add (k * 5)).block,(ad.add (k * 5)).off+4,none⟩) hbt).trans h5.2.2.2.2⟩
 clear h hkb ht h2 hS hn hk hab h5 hW0 hm0;go_enter Tryz.func141,Tryz.ntmps141;go_wp2_with (go_at_call 142;((with_reducible refine(KS.out _ HM0.out.rd).mono ?_);rintro e w1 ⟨rfl,hb1⟩;have HM1:=Lib.hid (HM0.out.low hlt hb1);have HM1b:=Lib.hid hb1;clear hb1;have hz0:=HM1.out.rd.c0;have hz1:=HM1.out.rd.c1;have hz2:=HM1.out.rd.c2;have hz3:=HM1.out.rd.f1;clear KS;have HB1:=Lib.hid (one_boxX w zeroX);obtain⟨d0,d1,d2,d3,d4,_⟩:=HM1.out.boxQ;obtain⟨e0,e1,e2,e3,e4⟩:=HM1.out.boxQ.freed;have hl1:=HM1.out.size;have hl3:=HM1.out.rd.lt));go_quiet (fail);go_wp2;obtain⟨wq,hwq⟩:∃ x,x=w1.drewN nq:=⟨_,rfl⟩;have hbq:Below w1.heap.size w1 wq:=by rw[hwq];exact below_drewN (Below.refl _ _) _
 have HMq:=Lib.hid (HM1.out.low hlt hbq);have hall:=HT.out wq ((HB1.out.trans (HM1b.out.mono (by simp))).trans (hbq.mono (Nat.le_of_lt HM1.out.size)));rw[←hwq];clear hwq hbq d0 d1 d2 d3 d4 e0 e1 e2 e3 e4 hz0 hz1 hz2 hz3 hl1 hl3;obtain⟨x0,x1,x2,x3,x4⟩:=hall;have hbt1:(ad.add (k * 5)).block<wq.heap.size:=World.block_lt_of_cell? wq _ x0;have hz0:=HMq.out.rd.c0;have hz1:=HMq.out.rd.c1;have hz3:=HMq.out.rd.f1;have hl1:=HMq.out.size;have hl3:=HMq.out.rd.lt;obtain⟨d0,d1,d2,d3,d4,_⟩:=HMq.out.boxQ;obtain⟨e0,e1,e2,e3,e4⟩:=HMq.out.boxQ.freed
 go_region
 go_wp2;obtain⟨W,hW⟩:∃ W,W=wq.setCell ⟨b,1,none⟩ (.int .i64 ((k:Int)+1)):=⟨_,rfl⟩;have hm:MidX b w W (some ad) n c l (k+1) 0:=by rw[hW];exact HMq.out.go hlt (k+1) _ (by omega)
 obtain⟨W3,hW3⟩:∃ W3,W3=((put5 W w.heap.size (.int .i64 0) (.int .i64 t.n) (.string ⟨#[]⟩) (.string ⟨#[]⟩) (.slice none 0 0)).alloc (.cells #[.int .i64 2,.string W0,.int .i64 t.n,.slice A' m0 c',.int .i64 t.pl] 105)).drew:=⟨_,rfl⟩;have HE:EndX b w W3 (some ad) n c l (k+1) 0 (.int .i64 0) (.int .i64 t.n) (.string ⟨#[]⟩) (.string ⟨#[]⟩) (.slice none 0 0):=hm.fin hlt (by rw[hW3];exact(one_boxX _ _).drew);rw[←hW,←hW3];clear hW hW3 d0 d1 d2 d3 d4;obtain⟨d0,d1,d2,d3,d4,_⟩:=HE.box;exact bodyPost_ret (v:= .agg #[.int .i64 0,.int .i64 t.n,.string ⟨#[]⟩,.string ⟨#[]⟩,.slice none 0 0]) (by simp[results,Tryz.results141,go_sem,d0,d1,d2,d3,d4]) rfl ⟨HE.grown,⟨none,0,rfl,KidsX.leaf _ _ _ _ _ _ _⟩,HE.rd⟩
theorem xone_var (b:Nat) (w:World) (A:Option Addr) (n c:Nat) (l:List Tok) (k d:Nat) (h:RdrX b w A n c l k 0) (hkb:l.length≤1000000) (t:Tok) (ht:l[k]?=some t) (h2:t.kind=6):
  Calls Tryz.prog 141 #[.pointer (some ⟨b,0,none⟩),.int .i64 d] w (PostR9 b w A n c l (.ok (exVar t.word) (k+1))):=by
 have hlt:=h.lt;have HM0:=Lib.hid (MidX.first h);obtain⟨S,hS⟩:∃ S:ByteArray,S=⟨(sg l k).toArray⟩:=⟨_,rfl⟩;have KS:Hid (∀ w,RdrX b w A n c l k 0→Calls Tryz.prog 142 #[.pointer (some ⟨b,0,none⟩)] w fun e w'=>e= .returned (.string S)∧Below w.heap.size w w'):=Lib.hid fun w h=>by rw[hS];exact signX_0 b w A n c l k h
 have hk:=(List.getElem?_eq_some_iff.1 ht).1;have hn:=h.len;obtain⟨ad,A',c',rfl,hab,h5⟩:=h.row.get ht;obtain⟨s0,s1,s2⟩:=sgt_of l k S hS;rw[sg_kind ht (by omega)] at s0 s1 s2;have q2:(k:Int)≤1000000:=by omega
 have q4:decide ((n:Int)≤(k:Int))=false:=by simp;omega
 have q5:decide (n≤k)=false:=by simp;omega
 have q6:(k:Int)<n:=by omega
 have hbt:(ad.add (k * 5)).block<w.heap.size:=by rw[blockX_add];omega
 obtain⟨W0,hW0⟩:∃ W:ByteArray,W=⟨t.word.toArray⟩:=⟨_,rfl⟩;obtain⟨m0,hm0⟩:∃ m,m=t.parts.length:=⟨_,rfl⟩;unfold TkAt at h5;rw[←hW0,←hm0,h2] at h5
 have HT:Hid (∀ w',Below w.heap.size w w'→w'.cell? (ad.add (k * 5))=some (.int .i64 6)∧w'.cell? ⟨(ad.add (k * 5)).block,(ad.add (k * 5)).off+1,none⟩=some (.string W0)∧w'.cell? ⟨(ad.add (k * 5)).block,(ad.add (k * 5)).off+2,none⟩=some (.int .i64 t.n)∧w'.cell? ⟨(ad.add (k * 5)).block,(ad.add (k * 5)).off+3,none⟩=some (.slice A' m0 c')∧w'.cell? ⟨(ad.add (k * 5)).block,(ad.add (k * 5)).off+4,none⟩=some (.int .i64 t.pl)):=Lib.hid fun w' hb=>
  ⟨(hb.cell hbt).trans h5.1,(hb.cell (p:=⟨(ad.add (k * 5)).block,(ad.add (k * 5)).off+1,none⟩) hbt).trans h5.2.1,(hb.cell (p:=⟨(ad.add (k * 5)).block,(ad.add (k * 5)).off+2,none⟩) hbt).trans h5.2.2.1,(hb.cell (p:=⟨(ad.add (k * 5)).block,(ad.add (k * 5)).off+3,none⟩) hbt).trans h5.2.2.2.1,(hb.cell (p:=⟨(ad.add (k * 5)).block,(ad.add (k * 5)).off+4,none⟩) hbt).trans h5.2.2.2.2⟩
 have HW0:=Lib.hid hW0;clear h hkb ht h2 hS hn hk hab h5 hW0 hm0;go_enter Tryz.func141,Tryz.ntmps141;go_wp2_with (go_at_call 142;((with_reducible refine(KS.out _ HM0.out.rd).mono ?_);rintro e w1 ⟨rfl,hb1⟩;have HM1:=Lib.hid (HM0.out.low hlt hb1);have HM1b:=Lib.hid hb1;clear hb1;have hz0:=HM1.out.rd.c0;have hz1:=HM1.out.rd.c1;have hz2:=HM1.out.rd.c2;have hz3:=HM1.out.rd.f1;clear KS;have HB1:=Lib.hid (one_boxX w zeroX);obtain⟨d0,d1,d2,d3,d4,_⟩:=HM1.out.boxQ;obtain⟨e0,e1,e2,e3,e4⟩:=HM1.out.boxQ.freed;have hl1:=HM1.out.size;have hl3:=HM1.out.rd.lt));go_quiet (fail);go_wp2;obtain⟨wq,hwq⟩:∃ x,x=w1.drewN nq:=⟨_,rfl⟩;have hbq:Below w1.heap.size w1 wq:=by rw[hwq];exact below_drewN (Below.refl _ _) _
 have HMq:=Lib.hid (HM1.out.low hlt hbq);have hall:=HT.out wq ((HB1.out.trans (HM1b.out.mono (by simp))).trans (hbq.mono (Nat.le_of_lt HM1.out.size)));rw[←hwq];clear hwq hbq d0 d1 d2 d3 d4 e0 e1 e2 e3 e4 hz0 hz1 hz2 hz3 hl1 hl3;obtain⟨x0,x1,x2,x3,x4⟩:=hall;have hbt1:(ad.add (k * 5)).block<wq.heap.size:=World.block_lt_of_cell? wq _ x0;have hz0:=HMq.out.rd.c0;have hz1:=HMq.out.rd.c1;have hz3:=HMq.out.rd.f1;have hl1:=HMq.out.size;have hl3:=HMq.out.rd.lt;obtain⟨d0,d1,d2,d3,d4,_⟩:=HMq.out.boxQ;obtain⟨e0,e1,e2,e3,e4⟩:=HMq.out.boxQ.freed
 go_region
 go_wp2;obtain⟨W,hW⟩:∃ W,W=wq.setCell ⟨b,1,none⟩ (.int .i64 ((k:Int)+1)):=⟨_,rfl⟩;have hm:MidX b w W (some ad) n c l (k+1) 0:=by rw[hW];exact HMq.out.go hlt (k+1) _ (by omega)
 obtain⟨W3,hW3⟩:∃ W3,W3=((put5 W w.heap.size (.int .i64 1) (.int .i64 0) (.string W0) (.string ⟨#[]⟩) (.slice none 0 0)).alloc (.cells #[.int .i64 6,.string W0,.int .i64 t.n,.slice A' m0 c',.int .i64 t.pl] 105)).drew:=⟨_,rfl⟩;have HE:EndX b w W3 (some ad) n c l (k+1) 0 (.int .i64 1) (.int .i64 0) (.string W0) (.string ⟨#[]⟩) (.slice none 0 0):=hm.fin hlt (by rw[hW3];exact(one_boxX _ _).drew);rw[←hW,←hW3];clear hW hW3 d0 d1 d2 d3 d4;obtain⟨d0,d1,d2,d3,d4,_⟩:=HE.box;exact bodyPost_ret (v:= .agg #[.int .i64 1,.int .i64 0,.string W0,.string ⟨#[]⟩,.slice none 0 0]) (by simp[results,Tryz.results141,go_sem,d0,d1,d2,d3,d4]) rfl ⟨HE.grown,⟨none,0,by rw[HW0.out];rfl,KidsX.leaf _ _ _ _ _ _ _⟩,HE.rd⟩
theorem xone_past (b:Nat) (w:World) (A:Option Addr) (n c:Nat) (l:List Tok) (k d:Nat) (h:RdrX b w A n c l k 0) (hk:l.length≤k):
  Calls Tryz.prog 141 #[.pointer (some ⟨b,0,none⟩),.int .i64 d] w (PostR9 b w A n c l (.bad k 1)):=by
 have hlt:=h.lt;have HM0:=Lib.hid (MidX.first h);obtain⟨S,hS⟩:∃ S:ByteArray,S=⟨(sg l k).toArray⟩:=⟨_,rfl⟩;have KS:Hid (∀ w,RdrX b w A n c l k 0→Calls Tryz.prog 142 #[.pointer (some ⟨b,0,none⟩)] w fun e w'=>e= .returned (.string S)∧Below w.heap.size w w'):=Lib.hid fun w h=>by rw[hS];exact signX_0 b w A n c l k h
 have hs:¬ pre3 (sg l k):=by rw[sg_past (by omega)];simp[pre3]
 have hn:=h.len;obtain⟨s0,s1,s2⟩:=sgt_of l k S hS;rw[decide_eq_false (fun e=>hs (.inl e))] at s0;rw[decide_eq_false (fun e=>hs (.inr (.inl e)))] at s1;rw[decide_eq_false (fun e=>hs (.inr (.inr e)))] at s2;have KF:=Lib.hid fun w h=>failX_0 1 1 rfl b w A n c l k h
 have q4:decide ((n:Int)≤(k:Int))=true:=by simp;omega
 have q5:decide (n≤k)=true:=by simp;omega
 have q6:(n:Int)≤k:=by omega
 clear h hk hs hS hn;go_enter Tryz.func141,Tryz.ntmps141;go_wp2_with (go_at_call 142;((with_reducible refine(KS.out _ HM0.out.rd).mono ?_);rintro e w1 ⟨rfl,hb1⟩;have HM1:=Lib.hid (HM0.out.low hlt hb1);have HM1b:=Lib.hid hb1;clear hb1;have hz0:=HM1.out.rd.c0;have hz1:=HM1.out.rd.c1;have hz2:=HM1.out.rd.c2;have hz3:=HM1.out.rd.f1;clear KS));go_quiet (fail);obtain⟨wq,hwq⟩:∃ x,x=w1.drewN nq:=⟨_,rfl⟩;have HMq:=Lib.hid (HM1.out.low (W':=wq) hlt (by rw[hwq];exact below_drewN (Below.refl _ _) _));rw[←hwq];clear hwq hz0 hz1 hz2 hz3;go_wp2_with (go_at_call 143;go_must ((with_reducible refine(KF.out _ HMq.out.rd).mono ?_);rintro e w4 ⟨rfl,hr4,hg4⟩;have HM4:=Lib.hid (HMq.out.more hlt hg4 hr4);clear hr4 hg4;obtain⟨d0,d1,d2,d3,d4,_⟩:=HM4.out.boxQ;obtain⟨e0,e1,e2,e3,e4⟩:=HM4.out.boxQ.freed));obtain⟨W3,hW3⟩:∃ W3,W3=put5 w4 w.heap.size (.int .i64 0) (.int .i64 0) (.string ⟨#[]⟩) (.string ⟨#[]⟩) (.slice none 0 0):=⟨_,rfl⟩;have HE:EndX b w W3 A n c l k 1 (.int .i64 0) (.int .i64 0) (.string ⟨#[]⟩) (.string ⟨#[]⟩) (.slice none 0 0):=HM4.out.fin hlt (by rw[hW3];exact Below.refl _ _);unfold put5 at hW3;rw[←hW3];clear hW3 d0 d1 d2 d3 d4;obtain⟨d0,d1,d2,d3,d4,_⟩:=HE.box;exact bodyPost_ret (v:= .agg #[.int .i64 0,.int .i64 0,.string ⟨#[]⟩,.string ⟨#[]⟩,.slice none 0 0]) (by simp[results,Tryz.results141,go_sem,d0,d1,d2,d3,d4]) rfl (post_zero HE)
theorem xone_none (b:Nat) (w:World) (A:Option Addr) (n c:Nat) (l:List Tok) (k d:Nat) (h:RdrX b w A n c l k 0) (hkb:l.length≤1000000) (t:Tok) (ht:l[k]?=some t) (h2:t.kind≠2) (h6:t.kind≠6) (hs:¬ pre3 (sg l k)):
  Calls Tryz.prog 141 #[.pointer (some ⟨b,0,none⟩),.int .i64 d] w (PostR9 b w A n c l (.bad k 1)):=by
 have hlt:=h.lt;have HM0:=Lib.hid (MidX.first h);obtain⟨S,hS⟩:∃ S:ByteArray,S=⟨(sg l k).toArray⟩:=⟨_,rfl⟩;have KS:Hid (∀ w,RdrX b w A n c l k 0→Calls Tryz.prog 142 #[.pointer (some ⟨b,0,none⟩)] w fun e w'=>e= .returned (.string S)∧Below w.heap.size w w'):=Lib.hid fun w h=>by rw[hS];exact signX_0 b w A n c l k h
 have hk:=(List.getElem?_eq_some_iff.1 ht).1;have hn:=h.len;obtain⟨ad,A',c',rfl,hab,h5⟩:=h.row.get ht;obtain⟨s0,s1,s2⟩:=sgt_of l k S hS;rw[decide_eq_false (fun e=>hs (.inl e))] at s0;rw[decide_eq_false (fun e=>hs (.inr (.inl e)))] at s1;rw[decide_eq_false (fun e=>hs (.inr (.inr e)))] at s2;have KF:=Lib.hid fun w h=>failX_0 1 1 rfl b w (some ad) n c l k h
 obtain⟨kd,hkd⟩:∃ kd,kd=t.kind:=⟨_,rfl⟩;have r2:(kd==2)=false:=by rw[hkd];simpa using h2
 have r6:(kd==6)=false:=by rw[hkd];simpa using h6
 have q2:(k:Int)≤1000000:=by omega
 have q4:decide ((n:Int)≤(k:Int))=false:=by simp;omega
 have q5:decide (n≤k)=false:=by simp;omega
 have q6:(k:Int)<n:=by omega
 have hbt:(ad.add (k * 5)).block<w.heap.size:=by rw[blockX_add];omega
 obtain⟨W0,hW0⟩:∃ W:ByteArray,W=⟨t.word.toArray⟩:=⟨_,rfl⟩;obtain⟨m0,hm0⟩:∃ m,m=t.parts.length:=⟨_,rfl⟩;unfold TkAt at h5;rw[←hW0,←hm0,←hkd] at h5
 have HT:Hid (∀ w',Below w.heap.size w w'→w'.cell? (ad.add (k * 5))=some (.int .i64 kd)∧w'.cell? ⟨(ad.add (k * 5)).block,(ad.add (k * 5)).off+1,none⟩=some (.string W0)∧w'.cell? ⟨(ad.add (k * 5)).block,(ad.add (k * 5)).off+2,none⟩=some (.int .i64 t.n)∧w'.cell? ⟨(ad.add (k * 5)).block,(ad.add (k * 5)).off+3,none⟩=some (.slice A' m0 c')∧w'.cell? ⟨(ad.add (k * 5)).block,(ad.add (k * 5)).off+4,none⟩=some (.int .i64 t.pl)):=Lib.hid fun w' hb=>
  ⟨(hb.cell hbt).trans h5.1,(hb.cell (p:=⟨(ad.add (k * 5)).block,(ad.add (k * 5)).off+1,none⟩) hbt).trans h5.2.1,(hb.cell (p:=⟨(ad.add (k * 5)).block,(ad.add (k * 5)).off+2,none⟩) hbt).trans h5.2.2.1,(hb.cell (p:=⟨(ad.add (k * 5)).block,(ad.add (k * 5)).off+3,none⟩) hbt).trans h5.2.2.2.1,(hb.cell (p:=⟨(ad.add (k * 5)).block,(ad.add (k * 5)).off+4,none⟩) hbt).trans h5.2.2.2.2⟩
 clear h hkb ht h2 h6 hkd hs hS hn hk hab h5 hW0 hm0;go_enter Tryz.func141,Tryz.ntmps141;go_wp2_with (go_at_call 142;((with_reducible refine(KS.out _ HM0.out.rd).mono ?_);rintro e w1 ⟨rfl,hb1⟩;have HM1:=Lib.hid (HM0.out.low hlt hb1);have HM1b:=Lib.hid hb1;clear hb1;have hz0:=HM1.out.rd.c0;have hz1:=HM1.out.rd.c1;have hz2:=HM1.out.rd.c2;have hz3:=HM1.out.rd.f1;clear KS;have HB1:=Lib.hid (one_boxX w zeroX);obtain⟨d0,d1,d2,d3,d4,_⟩:=HM1.out.boxQ;obtain⟨e0,e1,e2,e3,e4⟩:=HM1.out.boxQ.freed;have hl1:=HM1.out.size;have hl3:=HM1.out.rd.lt));go_quiet (fail);go_wp2;obtain⟨wq,hwq⟩:∃ x,x=w1.drewN nq:=⟨_,rfl⟩;have hbq:Below w1.heap.size w1 wq:=by rw[hwq];exact below_drewN (Below.refl _ _) _
 have HMq:=Lib.hid (HM1.out.low hlt hbq);have hall:=HT.out wq ((HB1.out.trans (HM1b.out.mono (by simp))).trans (hbq.mono (Nat.le_of_lt HM1.out.size)));rw[←hwq];clear hwq hbq d0 d1 d2 d3 d4 e0 e1 e2 e3 e4 hz0 hz1 hz2 hz3 hl1 hl3;obtain⟨x0,x1,x2,x3,x4⟩:=hall;have hbt1:(ad.add (k * 5)).block<wq.heap.size:=World.block_lt_of_cell? wq _ x0;have hz0:=HMq.out.rd.c0;have hz1:=HMq.out.rd.c1;have hz3:=HMq.out.rd.f1;have hl1:=HMq.out.size;have hl3:=HMq.out.rd.lt;obtain⟨d0,d1,d2,d3,d4,_⟩:=HMq.out.boxQ;obtain⟨e0,e1,e2,e3,e4⟩:=HMq.out.boxQ.freed
 go_region
 obtain⟨wt,hwt⟩:∃ x,x=(wq.alloc (.cells #[.int .i64 kd,.string W0,.int .i64 t.n,.slice A' m0 c',.int .i64 t.pl] 105)).drew:=⟨_,rfl⟩;have hbt2:Below wq.heap.size wq wt:=by rw[hwt];exact(one_boxX _ _).drew
 have HMt:=Lib.hid (HMq.out.low hlt hbt2);have hbx:Box5 wt wq.heap.size (.int .i64 kd) (.string W0) (.int .i64 t.n) (.slice A' m0 c') (.int .i64 t.pl):=by rw[hwt];exact(Box5.new wq _ _ _ _ _ _).low (Below.refl _ _).drew
 rw[←hwt];clear hwt hbt2 d0 d1 d2 d3 d4 e0 e1 e2 e3 e4 hz0 hz1 hz3 x0 x1 x2 x3 x4;obtain⟨g0,g1,g2,g3,g4,_⟩:=hbx;go_wp2_with (go_at_call 143;go_must ((with_reducible refine(KF.out _ HMt.out.rd).mono ?_);rintro e w4 ⟨rfl,hr4,hg4⟩;have HM4:=Lib.hid (HMt.out.more hlt hg4 hr4);clear hr4 hg4;obtain⟨d0,d1,d2,d3,d4,_⟩:=HM4.out.boxQ;obtain⟨e0,e1,e2,e3,e4⟩:=HM4.out.boxQ.freed));obtain⟨W3,hW3⟩:∃ W3,W3=put5 w4 w.heap.size (.int .i64 0) (.int .i64 0) (.string ⟨#[]⟩) (.string ⟨#[]⟩) (.slice none 0 0):=⟨_,rfl⟩;have HE:EndX b w W3 (some ad) n c l k 1 (.int .i64 0) (.int .i64 0) (.string ⟨#[]⟩) (.string ⟨#[]⟩) (.slice none 0 0):=HM4.out.fin hlt (by rw[hW3];exact Below.refl _ _);unfold put5 at hW3;rw[←hW3];clear hW3 d0 d1 d2 d3 d4;obtain⟨d0,d1,d2,d3,d4,_⟩:=HE.box;exact bodyPost_ret (v:= .agg #[.int .i64 0,.int .i64 0,.string ⟨#[]⟩,.string ⟨#[]⟩,.slice none 0 0]) (by simp[results,Tryz.results141,go_sem,d0,d1,d2,d3,d4]) rfl (post_zero HE)
def placeX (b:Nat) (w:World):Nat:=(intOf ((w.cell? ⟨b,1,none⟩).getD (.int .i64 0))).toNat
def faultX (b:Nat) (w:World):Int:=intOf ((w.cell? ⟨b,2,none⟩).getD (.int .i64 0))
noncomputable def loopN (b n:Nat) (wr:World):Nat:=if faultX b wr=0 then n+1 - placeX b wr else 0
theorem loopN_ok {b n:Nat} {w:World} {A:Option Addr} {c:Nat} {l:List Tok} {p:Nat} (h:RdrX b w A n c l p 0):loopN b n w=n+1 - p:=by
 unfold loopN placeX faultX;rw[h.c1,h.c2];exact if_pos rfl
theorem loopN_bad {b n:Nat} {w:World} {A:Option Addr} {c:Nat} {l:List Tok} {p er:Nat} (h:RdrX b w A n c l p er) (he:er≠0):loopN b n w=0:=by
 unfold loopN placeX faultX;rw[h.c1,h.c2];exact if_neg (by show ¬ (er:Int)=0;omega)
structure LoopX (b:Nat) (w:World) (cb:Nat) (A:Option Addr) (n c:Nat) (l:List Tok) (m k d:Nat) (r:Rs) (wr:World) (x:Ex) (p:Nat) (A1:Option Addr) (c1:Nat):Prop where
 mid:MidX b w wr A n c l p 0
 box:Box5 wr cb (.int .i64 x.kind) (.int .i64 x.n) (.string ⟨x.name.toArray⟩) (.string ⟨x.op.toArray⟩) (.slice A1 x.kids.length c1)
 kids:KidsX (NoX (w.heap.size+1) cb wr.heap.size) wr A1 x
 rest:RdE l (.loop m x) p d r
 lo:k<p
 hi:p≤l.length
 lt:cb<wr.heap.size
structure LoopY (b:Nat) (w:World) (cb:Nat) (A:Option Addr) (n c:Nat) (l:List Tok) (r:Rs) (wr:World) (j er:Nat):Prop where
 mid:MidX b w wr A n c l j er
 box:∃ (v0 v1:Int) (v2 v3:ByteArray) (A4:Option Addr) (n4 c4:Nat),Box5 wr cb (.int .i64 v0) (.int .i64 v1) (.string v2) (.string v3) (.slice A4 n4 c4)
 res:r= .bad j er
 err:er=1∨er=8
def LoopZ (b:Nat) (w:World) (cb:Nat) (A:Option Addr) (n c:Nat) (l:List Tok) (m k d:Nat) (r:Rs) (wr:World):Prop:=
 (∃ x p A1 c1,LoopX b w cb A n c l m k d r wr x p A1 c1)∨∃ j er,LoopY b w cb A n c l r wr j er
theorem LoopX.low {b:Nat} {w:World} {cb:Nat} {A:Option Addr} {n c:Nat} {l:List Tok} {m k d:Nat} {r:Rs} {wr:World} {x:Ex} {p:Nat} {A1:Option Addr} {c1:Nat} (h:LoopX b w cb A n c l m k d r wr x p A1 c1) (hlt:b<w.heap.size) {W:World} (hb:Below wr.heap.size wr W):LoopX b w cb A n c l m k d r W x p A1 c1:=
 ⟨h.mid.low hlt hb,h.box.low hb,(h.kids.over fun q hq=>hb.block q hq.2.1).wide fun q hq=>⟨hq.1,by have:=hq.2.1;have:=hb.size;omega,hq.2.2⟩,h.rest,h.lo,h.hi,by have:=h.lt;have:=hb.size;omega⟩
theorem MidX.put5 {b:Nat} {w W:World} {A:Option Addr} {n c:Nat} {l:List Tok} {k o:Nat} (h:MidX b w W A n c l k o) (hlt:b<w.heap.size) {q:Nat} (hq:w.heap.size<q) (v0 v1 v2 v3 v4:Value):MidX b w (put5 W q v0 v1 v2 v3 v4) A n c l k o:=
 ⟨((((h.boxQ.other (a:=⟨q,0,none⟩) (Nat.ne_of_gt hq) _).other (a:=⟨q,1,none⟩) (Nat.ne_of_gt hq) _).other (a:=⟨q,2,none⟩) (Nat.ne_of_gt hq) _).other (a:=⟨q,3,none⟩) (Nat.ne_of_gt hq) _).other (a:=⟨q,4,none⟩) (Nat.ne_of_gt hq) _,
   grown_put5 h.grown (Nat.le_of_lt hq) _ _ _ _ _,h.rd.put5 (by omega) _ _ _ _ _,by rw[size_put5];exact h.size⟩
abbrev rowW (W:World) (cb:Nat) (op:ByteArray) (x y:Ex) (A1 A2:Option Addr) (c1 c2:Nat):World:=((put5 W cb (.int .i64 4) (.int .i64 0) (.string ⟨#[]⟩) (.string op) (.slice (some ⟨W.heap.size+1,0,none⟩) 2 2)).alloc (objX y A2 c2)).alloc (objXY x y A1 A2 c1 c2)
theorem LoopX.next {b:Nat} {w:World} {cb:Nat} {A:Option Addr} {n c:Nat} {l:List Tok} {m k d:Nat} {r:Rs} {wr:World} {x:Ex} {p:Nat} {A1:Option Addr} {c1:Nat} (h:LoopX b w cb A n c l m k d r wr x p A1 c1) (hlt:b<w.heap.size) (hcb:w.heap.size<cb) {W:World} {y:Ex} {p':Nat} {A2:Option Addr} {c2:Nat} {op:Bs}
  (hg:wr.grownBy W (some b)) (hk:KidsX (FrX wr.heap.size W.heap.size) W A2 y) (hr:RdrX b W A n c l p' 0) (hrest:RdE l (.loop m (exBin op x y)) p' d r) (hp:p<p') (hn:p'≤l.length):
  LoopX b w cb A n c l m k d r (rowW W cb ⟨op.toArray⟩ x y A1 A2 c1 c2) (exBin op x y) p' (some ⟨W.heap.size+1,0,none⟩) 2:=by
 have hsz:=hg.size;have hcl:=h.lt;have hs1:(put5 W cb (.int .i64 4) (.int .i64 0) (.string ⟨#[]⟩) (.string ⟨op.toArray⟩) (.slice (some ⟨W.heap.size+1,0,none⟩) 2 2)).heap.size=W.heap.size:=size_put5 _ _ _ _ _ _ _;have hs2:((put5 W cb (.int .i64 4) (.int .i64 0) (.string ⟨#[]⟩) (.string ⟨op.toArray⟩) (.slice (some ⟨W.heap.size+1,0,none⟩) 2 2)).alloc (objX y A2 c2)).heap.size=W.heap.size+1:=by rw[size_allocX,hs1]
 have hs3:(rowW W cb ⟨op.toArray⟩ x y A1 A2 c1 c2).heap.size=W.heap.size+2:=(size_allocX _ _).trans (by rw[hs2]);have hbl:Below (put5 W cb (.int .i64 4) (.int .i64 0) (.string ⟨#[]⟩) (.string ⟨op.toArray⟩) (.slice (some ⟨W.heap.size+1,0,none⟩) 2 2)).heap.size (put5 W cb (.int .i64 4) (.int .i64 0) (.string ⟨#[]⟩) (.string ⟨op.toArray⟩) (.slice (some ⟨W.heap.size+1,0,none⟩) 2 2)) (rowW W cb ⟨op.toArray⟩ x y A1 A2 c1 c2):=two_boxesX _ _ _;refine⟨((h.mid.more hlt hg hr).put5 hlt hcb _ _ _ _ _).low hlt hbl,((h.box.grown hg (by omega)).put _ _ _ _ _).low hbl,?_,hrest,by have:=h.lo;omega,hn,by rw[hs3];omega⟩
 have hPP:∀ q,(NoX (w.heap.size+1) cb wr.heap.size q∨FrX wr.heap.size W.heap.size q)→NoX (w.heap.size+1) cb W.heap.size q:=fun q hq=>by
  rcases hq with hq | hq
  ·exact⟨hq.1,by have:=hq.2.1;omega,hq.2.2⟩
  ·exact⟨by have:=hq.1;have:=h.mid.size;omega,hq.2,by have:=hq.1;omega⟩
 have k1:KidsX (NoX (w.heap.size+1) cb W.heap.size) W A1 x:=(h.kids.grownX hg fun q hq=>⟨hq.2.1,by have:=hq.1;omega⟩).wide fun q hq=>hPP q (.inl hq)
 have k2:KidsX (NoX (w.heap.size+1) cb W.heap.size) W A2 y:=hk.wide fun q hq=>hPP q (.inr hq)
 have k3:=(k1.put5 (c:=cb) (fun hq=>hq.2.2 rfl) (.int .i64 4) (.int .i64 0) (.string ⟨#[]⟩) (.string ⟨op.toArray⟩) (.slice (some ⟨W.heap.size+1,0,none⟩) 2 2)).allocX (fun q hq=>by rw[hs1];exact hq.2.1) (objX y A2 c2);have k4:=(k2.put5 (c:=cb) (fun hq=>hq.2.2 rfl) (.int .i64 4) (.int .i64 0) (.string ⟨#[]⟩) (.string ⟨op.toArray⟩) (.slice (some ⟨W.heap.size+1,0,none⟩) 2 2)).allocX (fun q hq=>by rw[hs1];exact hq.2.1) (objX y A2 c2);have k5:=kid_two (c:=c1) (c':=c2) k3 k4 (fun q hq=>by rw[hs2];have:=hq.2.1;omega) 4 0 [] op;rw[hs2] at k5;rw[hs3]
 exact k5.wide fun q hq=>by
  rcases hq with hq | hq
  ·exact⟨hq.1,by have:=hq.2.1;omega,hq.2.2⟩
  ·exact⟨by have:=h.mid.size;omega,by omega,by omega⟩
theorem LoopX.fell {b:Nat} {w:World} {cb:Nat} {A:Option Addr} {n c:Nat} {l:List Tok} {m k d:Nat} {r:Rs} {wr:World} {x:Ex} {p:Nat} {A1:Option Addr} {c1:Nat} (h:LoopX b w cb A n c l m k d r wr x p A1 c1) (hlt:b<w.heap.size) (hcb:w.heap.size<cb) {W W3:World} {j er:Nat} {v0 v1:Int} {v2 v3:ByteArray} {A4:Option Addr} {n4 c4:Nat}
  (hg:wr.grownBy W (some b)) (hr:RdrX b W A n c l j er) (hres:r= .bad j er) (he:er=1∨er=8) (h3:Below W.heap.size (put5 W cb (.int .i64 v0) (.int .i64 v1) (.string v2) (.string v3) (.slice A4 n4 c4)) W3):LoopY b w cb A n c l r W3 j er:=by
 have hs1:(put5 W cb (.int .i64 v0) (.int .i64 v1) (.string v2) (.string v3) (.slice A4 n4 c4)).heap.size=W.heap.size:=size_put5 _ _ _ _ _ _ _;rw[←hs1] at h3;exact⟨((h.mid.more hlt hg hr).put5 hlt hcb _ _ _ _ _).low hlt h3,⟨v0,v1,v2,v3,A4,n4,c4,((h.box.grown hg (by omega)).put _ _ _ _ _).low h3⟩,hres,he⟩
theorem xrow_ok (b:Nat) (w:World) (A:Option Addr) (n c:Nat) (l:List Tok) (m k d:Nat) (h:RdrX b w A n c l k 0) (hkb:l.length≤1000000) (hd:d≤64) (hm:1≤m) (x:Ex) (p:Nat) (r:Rs)
  (HRow:∀ m' p' d' r',k<p'→p'≤l.length→d'≤64→1≤m'→RdE l (.some m') p' d' r'→XRow b A n c l m' p' d' r')
  (HOne:XOne b A n c l k d (.ok x p)) (hp:k<p∧p≤l.length) (hr:RdE l (.loop m x) p d r):
  Calls Tryz.prog 121 #[.pointer (some ⟨b,0,none⟩),.int .i64 m,.int .i64 d] w (PostR9 b w A n c l r):=by
 have hlt:=h.lt;have hln:=h.len;have HM0:=Lib.hid (MidX.first h);have K1:Hid (∀ w,RdrX b w A n c l k 0→Calls Tryz.prog 141 #[.pointer (some ⟨b,0,none⟩),.int .i64 d] w (PostR9 b w A n c l (.ok x p))):=Lib.hid HOne;have HR:=Lib.hid HRow;have HRest:=Lib.hid hr;have HLN:=Lib.hid hln;have hmx:Hid (∀ i,strong (sg l i)≤6):=Lib.hid fun i=>strong_le _
 have HKB:=Lib.hid hkb;clear h HOne HRow hr hln hkb;go_enter Tryz.func121,Tryz.ntmps121;go_wp2_with (go_at_call 141;go_must ((with_reducible refine(K1.out _ HM0.out.rd).mono ?_);rintro e w2 ⟨hg2,⟨A2,c2,rfl,hk2⟩,hr2⟩;have HM2:=Lib.hid (HM0.out.more hlt hg2 hr2);have HKD:=Lib.hid hk2;clear hg2 hr2 hk2));obtain⟨W2,hW2⟩:∃ W2,W2=w2.alloc (objX x A2 c2):=⟨_,rfl⟩
 have HL0:Hid (LoopX b w w2.heap.size A n c l m k d r W2 x p A2 c2):=Lib.hid (by
  have hs:W2.heap.size=w2.heap.size+1:=by rw[hW2];exact size_allocX _ _
  have hs1:=size_allocX w zeroX;have g:=HKD.out;rw[hs1] at g;refine⟨by rw[hW2];exact HM2.out.low hlt (one_boxX _ _),by rw[hW2];exact Box5.new w2 _ _ _ _ _ _,?_,HRest.out,hp.1,hp.2,by omega⟩;rw[hs,hW2];exact(g.allocX (fun q hq=>hq.2) _).wide fun q hq=>⟨hq.1,by have:=hq.2;omega,by have:=hq.2;omega⟩)
 rw[←hW2];have HC:Hid (w.heap.size<w2.heap.size):=Lib.hid HM2.out.size;clear hW2
 go_loopw [8] (fun _ wr=>LoopZ b w w2.heap.size A n c l m k d r wr) (fun _ wr=>loopN b n wr)
 case atStart=>exact .inl ⟨x,p,A2,c2,HL0.out⟩
 case round=>
  rcases hrel with ⟨x1,p1,A1,c1,hl⟩ | ⟨j,er,hl⟩
  ·have HL:=Lib.hid hl
   have hpl:=hl.hi;obtain⟨S,hS⟩:∃ S:ByteArray,S=⟨(sg l p1).toArray⟩:=⟨_,rfl⟩;have KS:Hid (∀ w,RdrX b w A n c l p1 0→Calls Tryz.prog 142 #[.pointer (some ⟨b,0,none⟩)] w fun e w'=>e= .returned (.string S)∧Below w.heap.size w w'):=Lib.hid fun w h=>by rw[hS];exact signX_0 b w A n c l p1 h
   have KS2:=KS;have eS:S.data.toList=sg l p1:=by rw[hS]
   have KT:Hid (∀ w,Calls Tryz.prog 96 #[.string S] w fun e w'=>e= .returned (.int .i64 (strong (sg l p1)))∧w=w'):=Lib.hid fun w=>by rw[←eS];exact strengthX_any S w
   have HSS:=Lib.hid hS;clear hS eS;obtain⟨st,hst⟩:∃ st,st=strong (sg l p1):=⟨_,rfl⟩;rw[←hst] at KT;have HST:=Lib.hid hst;have hrest:=hl.rest;have hy1:=hl.mid.rd.c2;have hst6:st≤6:=by rw[hst];exact hmx.out _
   clear hl hst
   cases hrest with
   | stop h1=>
     rw[←HST.out] at h1;have g1:decide ((m:Int)≤(st:Int))=false:=by simp;omega
     have g2:decide (m≤st)=false:=by simp;omega
     clear hp hpl hm hd KS2;go_wp2_with (first | (go_at_call 142;go_must ((with_reducible refine(KS.out _ HL.out.mid.rd).mono ?_);rintro e w3 ⟨rfl,hb3⟩;have HL3:=Lib.hid (HL.out.low hlt hb3);clear hb3;obtain⟨d0,d1,d2,d3,d4,_⟩:=HL3.out.mid.boxQ;obtain⟨e0,e1,e2,e3,e4⟩:=HL3.out.mid.boxQ.freed;obtain⟨g0,g1,g2,g3,g4,_⟩:=HL3.out.box)) | (go_at_call 96;go_must ((with_reducible refine(KT.out _).mono ?_);rintro e w' ⟨rfl,rfl⟩)));obtain⟨W3,hW3⟩:∃ W3,W3=put5 w3 w.heap.size (.int .i64 x1.kind) (.int .i64 x1.n) (.string ⟨x1.name.toArray⟩) (.string ⟨x1.op.toArray⟩) (.slice A1 x1.kids.length c1):=⟨_,rfl⟩;have HE:EndX b w W3 A n c l p1 0 (.int .i64 x1.kind) (.int .i64 x1.n) (.string ⟨x1.name.toArray⟩) (.string ⟨x1.op.toArray⟩) (.slice A1 x1.kids.length c1):=HL3.out.mid.fin hlt (by rw[hW3];exact Below.refl _ _)
     have hk3:KidsX (FrX w.heap.size W3.heap.size) W3 A1 x1:=by
      rw[hW3];exact(HL3.out.kids.put5 (fun hq=>by have:=hq.1;omega) _ _ _ _ _).wide fun q hq=>⟨by have:=hq.1;omega,by rw[size_put5];exact hq.2.1⟩
     unfold put5 at hW3;rw[←hW3];clear hW3 d0 d1 d2 d3 d4;obtain⟨d0,d1,d2,d3,d4,_⟩:=HE.box;exact bodyPost_ret (v:= .agg #[.int .i64 x1.kind,.int .i64 x1.n,.string ⟨x1.name.toArray⟩,.string ⟨x1.op.toArray⟩,.slice A1 x1.kids.length c1]) (by simp[results,Tryz.results121,go_sem,d0,d1,d2,d3,d4]) rfl ⟨HE.grown,⟨_,_,rfl,hk3⟩,HE.rd⟩
   | opDeep h1 h2=>
     rw[←HST.out] at h1;have q1:decide ((m:Int)≤(st:Int))=true:=by simp;omega
     have q2:decide (m≤st)=true:=by simp;omega
     have q3:(m:Int)≤st:=by omega
     have q4:(64:Int)≤d:=by omega
     have KF:=Lib.hid fun w h=>failX_0 8 8 rfl b w A n c l p1 h
     clear hp hpl hm hd h1 h2;go_wp2_with (first | (go_at_call 142;((with_reducible refine(KS.out _ HL.out.mid.rd).mono ?_);rintro e w3 ⟨rfl,hb3⟩;have HL3:=Lib.hid (HL.out.low hlt hb3);clear hb3 KS)) | (go_at_call 96;go_must ((with_reducible refine(KT.out _).mono ?_);rintro e w' ⟨rfl,rfl⟩)) | (go_at_call 142;go_must ((with_reducible refine(KS2.out _ HL3.out.mid.rd).mono ?_);rintro e w4 ⟨rfl,hb4⟩;have HL4:=Lib.hid (HL3.out.low hlt hb4);clear hb4)) | (go_at_call 143;go_must ((with_reducible refine(KF.out _ HL4.out.mid.rd).mono ?_);rintro e w5 ⟨rfl,hr5,hg5⟩;have HM5:=Lib.hid (HL4.out.mid.more hlt hg5 hr5);clear hr5 hg5;obtain⟨d0,d1,d2,d3,d4,_⟩:=HM5.out.boxQ;obtain⟨e0,e1,e2,e3,e4⟩:=HM5.out.boxQ.freed)));obtain⟨W3,hW3⟩:∃ W3,W3=put5 w5 w.heap.size (.int .i64 0) (.int .i64 0) (.string ⟨#[]⟩) (.string ⟨#[]⟩) (.slice none 0 0):=⟨_,rfl⟩;have HE:EndX b w W3 A n c l p1 8 (.int .i64 0) (.int .i64 0) (.string ⟨#[]⟩) (.string ⟨#[]⟩) (.slice none 0 0):=HM5.out.fin hlt (by rw[hW3];exact Below.refl _ _);unfold put5 at hW3;rw[←hW3];clear hW3 d0 d1 d2 d3 d4;obtain⟨d0,d1,d2,d3,d4,_⟩:=HE.box;exact bodyPost_ret (v:= .agg #[.int .i64 0,.int .i64 0,.string ⟨#[]⟩,.string ⟨#[]⟩,.slice none 0 0]) (by simp[results,Tryz.results121,go_sem,d0,d1,d2,d3,d4]) rfl (post_zero HE)
   | @op _ _ _ _ y k2 _ h1 h2 h3 h4=>
     rw[←HST.out] at h1;have q1:decide ((m:Int)≤(st:Int))=true:=by simp;omega
     have q2:decide (m≤st)=true:=by simp;omega
     have q3:(m:Int)≤st:=by omega
     have hpos:(Md.some (strong (sg l p1)+1)).pos:=by show 1≤strong (sg l p1)+1;omega
     have hp1:p1<l.length:=strong_sg_lt hm (by rw[←HST.out];exact h1);have hwk:=h3.within hpos (by omega);have q4:¬ (64:Int)≤d:=by omega
     have q5:(p1:Int)≤1000000:=by have:=HKB.out;omega
     have hkp:=HL.out.lo
     have K:Hid (∀ w,RdrX b w A n c l (p1+1) 0→Calls Tryz.prog 121 #[.pointer (some ⟨b,0,none⟩),.int .i64 ((st:Int)+1),.int .i64 ((d:Int)+1)] w (PostR9 b w A n c l (.ok y k2))):=Lib.hid (by
      have:=HR.out (strong (sg l p1)+1) (p1+1) (d+1) _ (by omega) (by omega) (by omega) (by omega) h3;rw[←HST.out] at this;exact this)
     have hk2:p1<k2∧k2≤l.length:=by have:=hwk.1;have:=hwk.2;omega
     have HX4:=Lib.hid h4;have HK2:=Lib.hid hk2;clear hp hpl hm hd h1 h2 h3 h4 hpos hp1 hwk hk2 hkp;go_wp2_with (first | (go_at_call 142;((with_reducible refine(KS.out _ HL.out.mid.rd).mono ?_);rintro e w3 ⟨rfl,hb3⟩;have HL3:=Lib.hid (HL.out.low hlt hb3);clear hb3 KS)) | (go_at_call 96;go_must ((with_reducible refine(KT.out _).mono ?_);rintro e w' ⟨rfl,rfl⟩)) | (go_at_call 142;go_must ((with_reducible refine(KS2.out _ HL3.out.mid.rd).mono ?_);rintro e w4 ⟨rfl,hb4⟩;have HL4:=Lib.hid (HL3.out.low hlt hb4);clear hb4;obtain⟨d0,d1,d2,d3,d4,_⟩:=HL4.out.mid.boxQ;obtain⟨e0,e1,e2,e3,e4⟩:=HL4.out.mid.boxQ.freed;have hz1:=HL4.out.mid.rd.c1;have hz2:=HL4.out.mid.rd.c2;have hz3:=HL4.out.mid.rd.f1)) | (go_at_call 121;go_must ((with_reducible refine(K.out _ (HL4.out.mid.rd.placez (p1+1) ((p1:Int)+1) (by omega))).mono ?_);rintro e w6 ⟨hg6,⟨A6,c6,rfl,hk6⟩,hr6⟩;have HG:=Lib.hid (grown_trans (grown_set b 1 _ (.int .i64 ((p1:Int)+1))) hg6);have HR6:=Lib.hid hr6;have HK6:=Lib.hid hk6;clear hr6 hk6;have HBX:=Lib.hid (HL4.out.box.grown (grown_trans (grown_set b 1 _ (.int .i64 ((p1:Int)+1))) hg6) (by have:=HC.out;omega));have hl6:w2.heap.size<w6.heap.size:=(by have:=HL4.out.lt;have:=(HG.out).size;omega);clear hg6;obtain⟨d0,d1,d2,d3,d4,_⟩:=HBX.out;obtain⟨e0,e1,e2,e3,e4⟩:=HBX.out.freed)));have HN:=Lib.hid (HL4.out.next (c2:=c6) hlt HC.out HG.out (HK6.out.to (by simp[World.setCell]) (Nat.le_refl _)) HR6.out HX4.out HK2.out.1 HK2.out.2);rw[←HSS.out] at HN
     go_roundw
     case rel=>exact .inl ⟨exBin (sg l p1) x1 y,k2,_,_,HN.out⟩
     case measure=>rw[loopN_ok HN.out.mid.rd,loopN_ok HL.out.mid.rd];have:=HK2.out;have:=HLN.out;omega
   | @opBad _ _ _ _ j er h1 h2 h3=>
     rw[←HST.out] at h1;have q1:decide ((m:Int)≤(st:Int))=true:=by simp;omega
     have q2:decide (m≤st)=true:=by simp;omega
     have q3:(m:Int)≤st:=by omega
     have hpos:(Md.some (strong (sg l p1)+1)).pos:=by show 1≤strong (sg l p1)+1;omega
     have hp1:p1<l.length:=strong_sg_lt hm (by rw[←HST.out];exact h1);have hwk:=h3.within hpos (by omega);have q4:¬ (64:Int)≤d:=by omega
     have q5:(p1:Int)≤1000000:=by have:=HKB.out;omega
     have hkp:=HL.out.lo
     have K:Hid (∀ w,RdrX b w A n c l (p1+1) 0→Calls Tryz.prog 121 #[.pointer (some ⟨b,0,none⟩),.int .i64 ((st:Int)+1),.int .i64 ((d:Int)+1)] w (PostR9 b w A n c l (.bad j er))):=Lib.hid (by
      have:=HR.out (strong (sg l p1)+1) (p1+1) (d+1) _ (by omega) (by omega) (by omega) (by omega) h3;rw[←HST.out] at this;exact this)
     have HER:=Lib.hid hwk.2.2;clear hp hpl hm hd h1 h2 h3 hpos hp1 hwk hkp;go_wp2_with (first | (go_at_call 142;((with_reducible refine(KS.out _ HL.out.mid.rd).mono ?_);rintro e w3 ⟨rfl,hb3⟩;have HL3:=Lib.hid (HL.out.low hlt hb3);clear hb3 KS)) | (go_at_call 96;go_must ((with_reducible refine(KT.out _).mono ?_);rintro e w' ⟨rfl,rfl⟩)) | (go_at_call 142;go_must ((with_reducible refine(KS2.out _ HL3.out.mid.rd).mono ?_);rintro e w4 ⟨rfl,hb4⟩;have HL4:=Lib.hid (HL3.out.low hlt hb4);clear hb4;obtain⟨d0,d1,d2,d3,d4,_⟩:=HL4.out.mid.boxQ;obtain⟨e0,e1,e2,e3,e4⟩:=HL4.out.mid.boxQ.freed;have hz1:=HL4.out.mid.rd.c1;have hz2:=HL4.out.mid.rd.c2;have hz3:=HL4.out.mid.rd.f1)) | (go_at_call 121;go_must ((with_reducible refine(K.out _ (HL4.out.mid.rd.placez (p1+1) ((p1:Int)+1) (by omega))).mono ?_);rintro e w6 ⟨hg6,⟨v0,v1,v2,v3,A4,n4,c4,rfl⟩,hr6⟩;have HG:=Lib.hid (grown_trans (grown_set b 1 _ (.int .i64 ((p1:Int)+1))) hg6);have HR6:=Lib.hid hr6;clear hr6;have HBX:=Lib.hid (HL4.out.box.grown (grown_trans (grown_set b 1 _ (.int .i64 ((p1:Int)+1))) hg6) (by have:=HC.out;omega));have hl6:w2.heap.size<w6.heap.size:=(by have:=HL4.out.lt;have:=(HG.out).size;omega);clear hg6;obtain⟨d0,d1,d2,d3,d4,_⟩:=HBX.out;obtain⟨e0,e1,e2,e3,e4⟩:=HBX.out.freed)))
     go_roundw
     case rel=>exact .inr ⟨j,er,HL4.out.fell hlt HC.out HG.out HR6.out rfl HER.out ((two_boxesX _ _ _).mono (by simp))⟩
     case measure=>
      refine Nat.lt_of_le_of_lt (Nat.le_of_eq (loopN_bad (HL4.out.fell hlt HC.out HG.out HR6.out rfl HER.out ((two_boxesX _ _ _).mono (by simp))).mid.rd (by rcases HER.out with e | e <;> omega))) ?_;rw[loopN_ok HL.out.mid.rd];have:=HL.out.hi;have:=HLN.out;omega
  ·have HL:=Lib.hid hl
   have he:=hl.err;obtain rfl:=hl.res;obtain⟨v0,v1,v2,v3,A4,n4,c4,hbx⟩:=hl.box;have q1:((er:Int)==0)=false:=by simp;omega
   have q2:(er==0)=false:=by simp;omega
   obtain⟨d0,d1,d2,d3,d4,_⟩:=hl.mid.boxQ;obtain⟨e0,e1,e2,e3,e4⟩:=hl.mid.boxQ.freed;obtain⟨g0,g1,g2,g3,g4,_⟩:=hbx;have hz2:=hl.mid.rd.c2;clear hp hm hd hl he;go_wp2;obtain⟨W3,hW3⟩:∃ W3,W3=put5 wr w.heap.size (.int .i64 v0) (.int .i64 v1) (.string v2) (.string v3) (.slice A4 n4 c4):=⟨_,rfl⟩;have HE:EndX b w W3 A n c l j er (.int .i64 v0) (.int .i64 v1) (.string v2) (.string v3) (.slice A4 n4 c4):=HL.out.mid.fin hlt (by rw[hW3];exact Below.refl _ _);unfold put5 at hW3;rw[←hW3];clear hW3 d0 d1 d2 d3 d4;obtain⟨d0,d1,d2,d3,d4,_⟩:=HE.box;exact bodyPost_ret (v:= .agg #[.int .i64 v0,.int .i64 v1,.string v2,.string v3,.slice A4 n4 c4]) (by simp[results,Tryz.results121,go_sem,d0,d1,d2,d3,d4]) rfl ⟨HE.grown,⟨v0,v1,v2,v3,A4,n4,c4,rfl⟩,HE.rd⟩
theorem xrow_bad (b:Nat) (w:World) (A:Option Addr) (n c:Nat) (l:List Tok) (m k d:Nat) (h:RdrX b w A n c l k 0) (j er:Nat) (he:er≠0) (HOne:XOne b A n c l k d (.bad j er)):
  Calls Tryz.prog 121 #[.pointer (some ⟨b,0,none⟩),.int .i64 m,.int .i64 d] w (PostR9 b w A n c l (.bad j er)):=by
 have hlt:=h.lt;have HM0:=Lib.hid (MidX.first h);have K1:Hid (∀ w,RdrX b w A n c l k 0→Calls Tryz.prog 141 #[.pointer (some ⟨b,0,none⟩),.int .i64 d] w (PostR9 b w A n c l (.bad j er))):=Lib.hid HOne;have q1:((er:Int)==0)=false:=by simp;omega
 have q2:(er==0)=false:=by simp;omega
 clear h HOne he;go_enter Tryz.func121,Tryz.ntmps121;go_wp2_with (go_at_call 141;go_must ((with_reducible refine(K1.out _ HM0.out.rd).mono ?_);rintro e w2 ⟨hg2,⟨v0,v1,v2,v3,A4,n4,c4,rfl⟩,hr2⟩;have HM2:=Lib.hid ((HM0.out.more hlt hg2 hr2).low hlt (one_boxX _ (.cells #[.int .i64 v0,.int .i64 v1,.string v2,.string v3,.slice A4 n4 c4] 44)));clear hg2 hr2));obtain⟨W2,hW2⟩:∃ W2,W2=w2.alloc (.cells #[.int .i64 v0,.int .i64 v1,.string v2,.string v3,.slice A4 n4 c4] 44):=⟨_,rfl⟩;have HB2:Hid (Box5 W2 w2.heap.size (.int .i64 v0) (.int .i64 v1) (.string v2) (.string v3) (.slice A4 n4 c4)):=Lib.hid (by rw[hW2];exact Box5.new w2 _ _ _ _ _ _);rw[←hW2] at HM2 ⊢;clear hW2
 go_loopw [8] (fun _ wr=>wr=W2) (fun _ _=>0)
 case atStart=>exact rfl
 case round=>
  subst hrel;obtain⟨d0,d1,d2,d3,d4,_⟩:=HM2.out.boxQ;obtain⟨e0,e1,e2,e3,e4⟩:=HM2.out.boxQ.freed;obtain⟨g0,g1,g2,g3,g4,_⟩:=HB2.out;have hz2:=HM2.out.rd.c2;go_wp2;obtain⟨W3,hW3⟩:∃ W3,W3=put5 wr w.heap.size (.int .i64 v0) (.int .i64 v1) (.string v2) (.string v3) (.slice A4 n4 c4):=⟨_,rfl⟩;have HE:EndX b w W3 A n c l j er (.int .i64 v0) (.int .i64 v1) (.string v2) (.string v3) (.slice A4 n4 c4):=HM2.out.fin hlt (by rw[hW3];exact Below.refl _ _);unfold put5 at hW3;rw[←hW3];clear hW3 d0 d1 d2 d3 d4;obtain⟨d0,d1,d2,d3,d4,_⟩:=HE.box;exact bodyPost_ret (v:= .agg #[.int .i64 v0,.int .i64 v1,.string v2,.string v3,.slice A4 n4 c4]) (by simp[results,Tryz.results121,go_sem,d0,d1,d2,d3,d4]) rfl ⟨HE.grown,⟨v0,v1,v2,v3,A4,n4,c4,rfl⟩,HE.rd⟩
theorem xread_all (b:Nat) (A:Option Addr) (n c:Nat) (l:List Tok) (hl:l.length≤1000000):∀ N k,l.length - k≤N→k≤l.length→
  (∀ d r,d≤64→RdE l .one k d r→XOne b A n c l k d r)∧∀ m d r,d≤64→1≤m→RdE l (.some m) k d r→XRow b A n c l m k d r:=by
 intro N
 induction N with
 | zero=>
   intro k hN hk;have hs:sg l k=[]:=sg_past (by omega)
   have one:∀ d r,d≤64→RdE l .one k d r→XOne b A n c l k d r:=by
    intro d r _ h w hw;have hnone:RdE l .one k d (.bad k 1):= .none (by rw[hs];simp[pre3]) (fun t ht=>by rw[List.getElem?_eq_none (by omega)] at ht;cases ht);obtain rfl:=h.det hnone;exact xone_past b w A n c l k d hw (by omega)
   refine⟨one,fun m d r hd _ h=>?_⟩
   cases h with
   | some h1 _=>have:=(h1.within trivial (by omega)).1;have:=h1.goes trivial (by omega) trivial _ _ rfl;have:=(h1.within trivial (by omega)).2;omega
   | @someBad _ _ _ j e h1=>
     intro w hw;have he:=(h1.within trivial (by omega)).2.2;exact xrow_bad b w A n c l m k d hw j e (by rcases he with e | e <;> omega) (one d _ hd h1)
 | succ N ih=>
   intro k hN hk
   have one:∀ d r,d≤64→RdE l .one k d r→XOne b A n c l k d r:=by
    intro d r hd h w hw
    cases h with
    | deep h1 h2=>exact xone_deep b w A n c l k d hw h2 h1
    | @par _ _ x j h1 h2 h3 h4=>
      have hk1:k<l.length:=sg_lt (by rw[h1];decide);exact xone_shut b w A n c l k d hw hl hk h2 x j (h3.within (Nat.le_refl 1) (by omega)).2 h1 h4 ((ih (k+1) (by omega) (by omega)).2 1 (d+1) _ (by omega) (Nat.le_refl 1) h3)
    | @parOpen _ _ x j h1 h2 h3 h4=>
      have hk1:k<l.length:=sg_lt (by rw[h1];decide);exact xone_open b w A n c l k d hw hl hk h2 x j (h3.within (Nat.le_refl 1) (by omega)).2 h1 h4 ((ih (k+1) (by omega) (by omega)).2 1 (d+1) _ (by omega) (Nat.le_refl 1) h3)
    | @parBad _ _ j e h1 h2 h3=>
      have hk1:k<l.length:=sg_lt (by rw[h1];decide);exact xone_parbad b w A n c l k d hw hl hk h2 j e (h3.within (Nat.le_refl 1) (by omega)).2.2 h1 ((ih (k+1) (by omega) (by omega)).2 1 (d+1) _ (by omega) (Nat.le_refl 1) h3)
    | @neg _ _ x j h1 h2 h3=>
      have hk1:k<l.length:=sg_lt (by rw[h1];decide);exact xone_signed b w A n c l k d hw hl hk h2 2 (.inl ⟨h1,rfl⟩) x j ((ih (k+1) (by omega) (by omega)).1 (d+1) _ (by omega) h3)
    | @not _ _ x j h1 h2 h3=>
      have hk1:k<l.length:=sg_lt (by rw[h1];decide);exact xone_signed b w A n c l k d hw hl hk h2 3 (.inr ⟨h1,rfl⟩) x j ((ih (k+1) (by omega) (by omega)).1 (d+1) _ (by omega) h3)
    | @unBad _ _ j e h1 h2 h3=>
      have hk1:k<l.length:=by rcases h1 with e | e <;> exact sg_lt (by rw[e];decide)
      rcases h1 with h1 | h1
      ·exact xone_signbad b w A n c l k d hw hl hk h2 2 (.inl ⟨h1,rfl⟩) j e ((ih (k+1) (by omega) (by omega)).1 (d+1) _ (by omega) h3)
      ·exact xone_signbad b w A n c l k d hw hl hk h2 3 (.inr ⟨h1,rfl⟩) j e ((ih (k+1) (by omega) (by omega)).1 (d+1) _ (by omega) h3)
    | num h1 h2=>exact xone_num b w A n c l k d hw hl _ h1 h2
    | var h1 h2=>exact xone_var b w A n c l k d hw hl _ h1 h2
    | none h1 h2=>
      by_cases hkl:k<l.length
      ·obtain⟨n2,n6⟩:=h2 _ (List.getElem?_eq_getElem hkl)
       exact xone_none b w A n c l k d hw hl _ (List.getElem?_eq_getElem hkl) n2 n6 h1
      ·exact xone_past b w A n c l k d hw (by omega)
   refine⟨one,fun m d r hd hm h=>?_⟩
   cases h with
   | @some _ _ _ x j _ h1 h2=>
     intro w hw;have hj:=(h1.within trivial (by omega)).2;have hg:=h1.goes trivial (by omega) trivial _ _ rfl;exact xrow_ok b w A n c l m k d hw hl hd hm x j r (fun m' p' d' r' hp hpn hd' hm' h'=>(ih p' (by omega) hpn).2 m' d' r' hd' hm' h') (one d _ hd h1) ⟨hg,by omega⟩ h2
   | @someBad _ _ _ j e h1=>
     intro w hw;have he:=(h1.within trivial (by omega)).2.2;exact xrow_bad b w A n c l m k d hw j e (by rcases he with e | e <;> omega) (one d _ hd h1)
theorem tokrow_of {B:Nat} {w:World} {A:Option Addr} {n:Nat} {l:List Tok} (h:RdT B w A n l):TokRow B w A l:=fun k t ht=>by
 have hl:=(List.getElem?_eq_some_iff.1 ht).1;obtain⟨ad,e,hlt,hc⟩:=h.2 (by have:=h.1;omega);obtain⟨A',c',h5,_⟩:=hc k t ht;exact⟨ad,A',c',e,hlt,h5⟩
theorem TokRow.up {B B':Nat} {w:World} {A:Option Addr} {l:List Tok} (h:TokRow B w A l) (hB:B≤B'):TokRow B' w A l:=fun k t ht=>by
 obtain⟨ad,A',c',e,hlt,h5⟩:=h k t ht;exact⟨ad,A',c',e,by omega,h5⟩
theorem rdrx_new {w:World} {A:Option Addr} {n c:Nat} {l:List Tok} (k:Nat) (h:RdT w.heap.size w A n l) (o:Obj):
  RdrX (w.heap.size+1) ((w.alloc o).alloc (.cells #[.slice A n c,.int .i64 k,.int .i64 0] 194)) A n c l k 0:=by
 have hs:(w.alloc o).heap.size=w.heap.size+1:=size_allocX _ _;have hb:Below w.heap.size w ((w.alloc o).alloc (.cells #[.slice A n c,.int .i64 k,.int .i64 0] 194)):=two_boxesX w _ _;refine⟨?_,?_,?_,?_,?_,((tokrow_of h).keep fun p hp=>hb.cell hp).up (by omega),h.1⟩
 ·rw[←hs];exact new_at _ _ _ 0 _ rfl
 ·rw[←hs];exact new_at _ _ _ 1 _ rfl
 ·rw[←hs];exact new_at _ _ _ 2 _ rfl
 ·simp[go_sem]
 ·simp[go_sem]
structure ParX (w W:World) (cb:Nat) (A:Option Addr) (n c:Nat) (l:List Tok) (j o:Nat) (x:Ex) (A2:Option Addr) (c2:Nat):Prop where
 boxQ:Box5 W w.heap.size (.int .i64 0) (.int .i64 0) (.string ⟨#[]⟩) (.string ⟨#[]⟩) (.slice none 0 0)
 box:Box5 W cb (.int .i64 x.kind) (.int .i64 x.n) (.string ⟨x.name.toArray⟩) (.string ⟨x.op.toArray⟩) (.slice A2 x.kids.length c2)
 rd:RdrX (w.heap.size+1) W A n c l j o
 below:Below w.heap.size w W
 kids:KidsX (FrX (w.heap.size+2) W.heap.size) W A2 x
theorem parx_box {w w1 w2:World} {ob:Obj} {A:Option Addr} {n c:Nat} {l:List Tok} {j o:Nat} {x:Ex} {A2:Option Addr} {c2:Nat} (h1:w1=(w.alloc zeroX).alloc ob) (hg:w1.grownBy w2 (some (w.heap.size+1))) (hr:RdrX (w.heap.size+1) w2 A n c l j o)
  (hk:KidsX (FrX w1.heap.size w2.heap.size) w2 A2 x):ParX w (w2.alloc (objX x A2 c2)) w2.heap.size A n c l j o x A2 c2:=by
 have hs1:w1.heap.size=w.heap.size+2:=by rw[h1,size_allocX,size_allocX]
 have hs:=size_allocX w2 (objX x A2 c2);have hsz:=hg.size;have hb1:Below w.heap.size w w1:=by rw[h1];exact two_boxesX w _ _
 have hq:Box5 w1 w.heap.size (.int .i64 0) (.int .i64 0) (.string ⟨#[]⟩) (.string ⟨#[]⟩) (.slice none 0 0):=by rw[h1];exact(Box5.new w _ _ _ _ _ _).low (one_boxX _ _)
 rw[hs1] at hk;exact⟨(hq.grown hg (by omega)).low (one_boxX _ _),Box5.new w2 _ _ _ _ _ _,hr.box _,(hb1.trans (below_of_grown hg (by omega) (by omega))).trans ((one_boxX _ _).mono (by omega)),(hk.allocX (fun q hq=>hq.2) _).to (Nat.le_refl _) (by omega)⟩
structure ParY (w W:World) (A:Option Addr) (n c:Nat) (l:List Tok) (j o:Nat):Prop where
 boxQ:Box5 W w.heap.size (.int .i64 0) (.int .i64 0) (.string ⟨#[]⟩) (.string ⟨#[]⟩) (.slice none 0 0)
 rd:RdrX (w.heap.size+1) W A n c l j o
 below:Below w.heap.size w W
theorem parx_bad {w w1 w2:World} {ob O2:Obj} {A:Option Addr} {n c:Nat} {l:List Tok} {j o:Nat} (h1:w1=(w.alloc zeroX).alloc ob) (hg:w1.grownBy w2 (some (w.heap.size+1))) (hr:RdrX (w.heap.size+1) w2 A n c l j o):ParY w (w2.alloc O2) A n c l j o:=by
 have hs1:w1.heap.size=w.heap.size+2:=by rw[h1,size_allocX,size_allocX]
 have hsz:=hg.size;have hb1:Below w.heap.size w w1:=by rw[h1];exact two_boxesX w _ _
 have hq:Box5 w1 w.heap.size (.int .i64 0) (.int .i64 0) (.string ⟨#[]⟩) (.string ⟨#[]⟩) (.slice none 0 0):=by rw[h1];exact(Box5.new w _ _ _ _ _ _).low (one_boxX _ _)
 exact⟨(hq.grown hg (by omega)).low (one_boxX _ _),hr.box _,(hb1.trans (below_of_grown hg (by omega) (by omega))).trans ((one_boxX _ _).mono (by omega))⟩
theorem parseRF_any (A:Option Addr) (n c:Nat) (l:List Tok) (k:Nat) (w:World) (h:RdT w.heap.size w A n l) (hl:l.length≤1000000) (hk:k≤l.length) (r:Rs) (hr:RdE l (.some 1) k 0 r):
  Calls Tryz.prog 94 #[.slice A n c,.int .i64 k] w (PostPF w r):=by
 have hn:=h.1;have HR0:Hid (∀ o,RdrX (w.heap.size+1) ((w.alloc o).alloc (.cells #[.slice A n c,.int .i64 k,.int .i64 0] 194)) A n c l k 0):=Lib.hid fun o=>rdrx_new k h o
 have HK:=(xread_all (w.heap.size+1) A n c l hl (l.length - k) k (Nat.le_refl _) hk).2 1 0 r (by omega) (Nat.le_refl 1) hr;have q1:¬ (k:Int)<0:=by omega
 have q2:¬ (n:Int)<k:=by omega
 cases r with
 | ok x j=>
   have K:Hid (∀ w',RdrX (w.heap.size+1) w' A n c l k 0→Calls Tryz.prog 121 #[.pointer (some ⟨w.heap.size+1,0,none⟩),.int .i64 1,.int .i64 0] w' (PostR9 (w.heap.size+1) w' A n c l (.ok x j))):=Lib.hid HK;clear HK h hl hk hr hn;go_enter Tryz.func94,Tryz.ntmps94;go_wp2_with (go_at_call 121;go_must ((with_reducible refine(K.out _ (HR0.out _)).mono ?_);rintro e w2 ⟨hg2,⟨A2,c2,rfl,hk2⟩,hr2⟩;have HQ2:=Lib.hid (parx_box (c2:=c2) (by rfl) hg2 hr2 hk2);have hy2:=hr2.c2;have hylt:=hr2.lt;clear hg2 hr2 hk2));obtain⟨W2,hW2⟩:∃ W2,W2=w2.alloc (objX x A2 c2):=⟨_,rfl⟩;have HQ:Hid (ParX w W2 w2.heap.size A n c l j 0 x A2 c2):=Lib.hid (by rw[hW2];exact HQ2.out);rw[←hW2];clear hW2 HQ2 hy2 hylt;have hz0:=HQ.out.rd.c0;have hz1:=HQ.out.rd.c1;have hz2:=HQ.out.rd.c2;obtain⟨d0,d1,d2,d3,d4,_⟩:=HQ.out.boxQ;obtain⟨e0,e1,e2,e3,e4⟩:=HQ.out.boxQ.freed;obtain⟨g0,g1,g2,g3,g4,_⟩:=HQ.out.box
   go_region
   go_wp2;obtain⟨W3,hW3⟩:∃ W3,W3=put5 W2 w.heap.size (.int .i64 x.kind) (.int .i64 x.n) (.string ⟨x.name.toArray⟩) (.string ⟨x.op.toArray⟩) (.slice A2 x.kids.length c2):=⟨_,rfl⟩;have hbx:Box5 W3 w.heap.size (.int .i64 x.kind) (.int .i64 x.n) (.string ⟨x.name.toArray⟩) (.string ⟨x.op.toArray⟩) (.slice A2 x.kids.length c2):=by rw[hW3];exact HQ.out.boxQ.put _ _ _ _ _
   have hbl:Below w.heap.size w W3.drew:=by
    rw[hW3];exact(((((HQ.out.below.setCell (Nat.le_refl _) _).setCell (Nat.le_refl _) _).setCell (Nat.le_refl _) _).setCell (Nat.le_refl _) _).setCell (Nat.le_refl _) _).drew
   have hkd:KidsX (FrX w.heap.size W3.drew.heap.size) W3.drew A2 x:=by
    have hs3:W3.drew.heap.size=W2.heap.size:=by show W3.heap.size=_;rw[hW3,size_put5]
    rw[hs3];exact((HQ.out.kids.put5 (c:=w.heap.size) (fun hq=>by have:=hq.1;omega) (.int .i64 x.kind) (.int .i64 x.n) (.string ⟨x.name.toArray⟩) (.string ⟨x.op.toArray⟩) (.slice A2 x.kids.length c2)).over (w':=W3.drew) (fun _ _=>by rw[hW3];rfl)).wide fun q hq=>⟨by have:=hq.1;omega,hq.2⟩
   unfold put5 at hW3;rw[←hW3];clear hW3 d0 d1 d2 d3 d4;obtain⟨d0,d1,d2,d3,d4,_⟩:=hbx;exact bodyPost_ret (v:= .tuple #[.agg #[.int .i64 x.kind,.int .i64 x.n,.string ⟨x.name.toArray⟩,.string ⟨x.op.toArray⟩,.slice A2 x.kids.length c2],.int .i64 j,.int .i64 0]) (by simp[results,Tryz.results94,go_sem,d0,d1,d2,d3,d4]) rfl ⟨hbl,A2,c2,rfl,hkd⟩
 | bad j er=>
   have K:Hid (∀ w',RdrX (w.heap.size+1) w' A n c l k 0→Calls Tryz.prog 121 #[.pointer (some ⟨w.heap.size+1,0,none⟩),.int .i64 1,.int .i64 0] w' (PostR9 (w.heap.size+1) w' A n c l (.bad j er))):=Lib.hid HK;have he:=(hr.within (Nat.le_refl 1) hk).2.2;have q3:((er:Int) != 0)=true:=by simp;omega
   have q4:(er != 0)=true:=by simp;omega
   clear HK h hl hk hr hn he;go_enter Tryz.func94,Tryz.ntmps94;go_wp2_with (go_at_call 121;go_must ((with_reducible refine(K.out _ (HR0.out _)).mono ?_);rintro e w2 ⟨hg2,⟨v0,v1,v2,v3,A4,n4,c4,rfl⟩,hr2⟩;have HQ2:=Lib.hid (parx_bad (O2:= .cells #[.int .i64 v0,.int .i64 v1,.string v2,.string v3,.slice A4 n4 c4] 44) (by rfl) hg2 hr2);have hy2:=hr2.c2;have hylt:=hr2.lt;clear hg2 hr2));obtain⟨W2,hW2⟩:∃ W2,W2=w2.alloc (.cells #[.int .i64 v0,.int .i64 v1,.string v2,.string v3,.slice A4 n4 c4] 44):=⟨_,rfl⟩;have HQ:Hid (ParY w W2 A n c l j er):=Lib.hid (by rw[hW2];exact HQ2.out);rw[←hW2];clear hW2 HQ2 hy2 hylt;have hz0:=HQ.out.rd.c0;have hz1:=HQ.out.rd.c1;have hz2:=HQ.out.rd.c2;obtain⟨d0,d1,d2,d3,d4,_⟩:=HQ.out.boxQ;obtain⟨e0,e1,e2,e3,e4⟩:=HQ.out.boxQ.freed
   go_region
   go_wp2;obtain⟨W3,hW3⟩:∃ W3,W3=put5 W2 w.heap.size (.int .i64 0) (.int .i64 0) (.string ⟨#[]⟩) (.string ⟨#[]⟩) (.slice none 0 0):=⟨_,rfl⟩;have hbx:Box5 W3 w.heap.size (.int .i64 0) (.int .i64 0) (.string ⟨#[]⟩) (.string ⟨#[]⟩) (.slice none 0 0):=by rw[hW3];exact HQ.out.boxQ.put _ _ _ _ _
   have hbl:Below w.heap.size w W3.drew:=by
    rw[hW3];exact(((((HQ.out.below.setCell (Nat.le_refl _) _).setCell (Nat.le_refl _) _).setCell (Nat.le_refl _) _).setCell (Nat.le_refl _) _).setCell (Nat.le_refl _) _).drew
   unfold put5 at hW3;rw[←hW3];clear hW3 d0 d1 d2 d3 d4;obtain⟨d0,d1,d2,d3,d4,_⟩:=hbx;exact bodyPost_ret (v:= .tuple #[.agg #[.int .i64 0,.int .i64 0,.string ⟨#[]⟩,.string ⟨#[]⟩,.slice none 0 0],.int .i64 j,.int .i64 er]) (by simp[results,Tryz.results94,go_sem,d0,d1,d2,d3,d4]) rfl ⟨hbl,rfl⟩
theorem ne_list {X:ByteArray} {b:Bool} (h:(X.toList==[])=b):(X.toList != [])= !b:=by rw[bne,h]
theorem emp_list (X:ByteArray):X.toList.isEmpty=(X.toList==[]):=by cases X.toList <;> rfl
theorem told_any9 (r:Ex) (A:Option Addr) (c:Nat) (w:World) (hnm:r.name.length≤1000000):
  Calls Tryz.prog 153 #[valX r A c] w fun e w'=>e= .returned (.bool (shapeX r.kind r.n r.name r.op r.kids.length))∧Below w.heap.size w w':=by
 obtain⟨k,n,nm,op,ks⟩:=r;simp only[valX,Ex.kind,Ex.n,Ex.name,Ex.op,Ex.kids] at hnm ⊢;obtain⟨v,hv⟩:∃ v,v=shapeX k n nm op ks.length:=⟨_,rfl⟩;rw[←hv];unfold shapeX at hv;obtain⟨X,rfl,eX⟩:=ba_of nm;obtain⟨Y,rfl,eY⟩:=ba_of op;rw[eX,eY]
 have hXs:X.size≤4611686018427387904:=by
  have:X.toList.length=X.size:=by rw[toList_data];exact len_data X
  omega
 have KN:Hid (∀ w,Calls Tryz.prog 132 #[.string X] w fun e w'=>e= .returned (.bool (isName X.toList))∧w=w'):=Lib.hid fun w=>by rw[toList_data];exact name_any X hXs w
 have KS:Hid (∀ w,Calls Tryz.prog 163 #[.string Y] w fun e w'=>e= .returned (.int .i64 (strong Y.toList))∧w=w'):=Lib.hid fun w=>by rw[toList_data];exact cstrong_any Y w
 obtain⟨b1,hb1⟩:∃ b,b=isName X.toList:=⟨_,rfl⟩;obtain⟨b2,hb2⟩:∃ b,b=strong Y.toList:=⟨_,rfl⟩;rw[←hb1] at KN hv;rw[←hb2] at KS hv;clear hb1 hb2 eX eY hXs hnm;obtain⟨m,hm⟩:∃ m,m=ks.length:=⟨_,rfl⟩;rw[←hm] at hv ⊢;clear hm;obtain⟨x,hx⟩:∃ x,(X.toList==[])=x:=⟨_,rfl⟩;obtain⟨y,hy⟩:∃ y,(Y.toList==[])=y:=⟨_,rfl⟩;rw[emp_list,emp_list,hx,hy] at hv;have hx':=ne_list hx;have hy':=ne_list hy;by_cases k0:k=0
 ·subst k0
  by_cases hn:0≤n
  ·have n1:decide ((0:Int)≤n)=true:=by simpa using hn
   by_cases hm0:m=0
   ·subst hm0
    cases x <;> cases y
    all_goals
     simp[hn] at hv;subst hv;go_enter Tryz.func153,Tryz.ntmps153;go_wp2_with (first | (go_at_call 132;((with_reducible refine(KN.out _).mono ?_));rintro e w1 ⟨rfl,rfl⟩) | (go_at_call 163;((with_reducible refine(KS.out _).mono ?_));rintro e w1 ⟨rfl,rfl⟩));go_ret;exact⟨rfl,one_boxX _ _⟩
   ·have m1:((m:Int)==0)=false:=by simp;omega
    have m2:(m==0)=false:=by simp;omega
    cases x <;> cases y
    all_goals
     simp[hn,m2] at hv;subst hv;go_enter Tryz.func153,Tryz.ntmps153;go_wp2_with (first | (go_at_call 132;((with_reducible refine(KN.out _).mono ?_));rintro e w1 ⟨rfl,rfl⟩) | (go_at_call 163;((with_reducible refine(KS.out _).mono ?_));rintro e w1 ⟨rfl,rfl⟩));go_ret;exact⟨rfl,one_boxX _ _⟩
  ·have n1:decide ((0:Int)≤n)=false:=by simpa using hn
   by_cases hm0:m=0
   ·subst hm0
    cases x <;> cases y
    all_goals
     simp[hn] at hv;subst hv;go_enter Tryz.func153,Tryz.ntmps153;go_wp2_with (first | (go_at_call 132;((with_reducible refine(KN.out _).mono ?_));rintro e w1 ⟨rfl,rfl⟩) | (go_at_call 163;((with_reducible refine(KS.out _).mono ?_));rintro e w1 ⟨rfl,rfl⟩));go_ret;exact⟨rfl,one_boxX _ _⟩
   ·have m1:((m:Int)==0)=false:=by simp;omega
    have m2:(m==0)=false:=by simp;omega
    cases x <;> cases y
    all_goals
     simp[hn,m2] at hv;subst hv;go_enter Tryz.func153,Tryz.ntmps153;go_wp2_with (first | (go_at_call 132;((with_reducible refine(KN.out _).mono ?_));rintro e w1 ⟨rfl,rfl⟩) | (go_at_call 163;((with_reducible refine(KS.out _).mono ?_));rintro e w1 ⟨rfl,rfl⟩));go_ret;exact⟨rfl,one_boxX _ _⟩
 by_cases k1:k=1
 ·subst k1
  by_cases hn:n=0
  ·subst hn
   by_cases hm0:m=0
   ·subst hm0
    cases x <;> cases y <;> cases b1
    all_goals
     simp[] at hv;subst hv;go_enter Tryz.func153,Tryz.ntmps153;go_wp2_with (first | (go_at_call 132;((with_reducible refine(KN.out _).mono ?_));rintro e w1 ⟨rfl,rfl⟩) | (go_at_call 163;((with_reducible refine(KS.out _).mono ?_));rintro e w1 ⟨rfl,rfl⟩));go_ret;exact⟨rfl,one_boxX _ _⟩
   ·have m1:((m:Int)==0)=false:=by simp;omega
    have m2:(m==0)=false:=by simp;omega
    cases x <;> cases y <;> cases b1
    all_goals
     simp[m2] at hv;subst hv;go_enter Tryz.func153,Tryz.ntmps153;go_wp2_with (first | (go_at_call 132;((with_reducible refine(KN.out _).mono ?_));rintro e w1 ⟨rfl,rfl⟩) | (go_at_call 163;((with_reducible refine(KS.out _).mono ?_));rintro e w1 ⟨rfl,rfl⟩));go_ret;exact⟨rfl,one_boxX _ _⟩
  ·have n1:(n != 0)=true:=by simpa using hn
   by_cases hm0:m=0
   ·subst hm0
    cases x <;> cases y <;> cases b1
    all_goals
     simp[hn] at hv;subst hv;go_enter Tryz.func153,Tryz.ntmps153;go_wp2_with (first | (go_at_call 132;((with_reducible refine(KN.out _).mono ?_));rintro e w1 ⟨rfl,rfl⟩) | (go_at_call 163;((with_reducible refine(KS.out _).mono ?_));rintro e w1 ⟨rfl,rfl⟩));go_ret;exact⟨rfl,one_boxX _ _⟩
   ·have m1:((m:Int)==0)=false:=by simp;omega
    have m2:(m==0)=false:=by simp;omega
    cases x <;> cases y <;> cases b1
    all_goals
     simp[hn,m2] at hv;subst hv;go_enter Tryz.func153,Tryz.ntmps153;go_wp2_with (first | (go_at_call 132;((with_reducible refine(KN.out _).mono ?_));rintro e w1 ⟨rfl,rfl⟩) | (go_at_call 163;((with_reducible refine(KS.out _).mono ?_));rintro e w1 ⟨rfl,rfl⟩));go_ret;exact⟨rfl,one_boxX _ _⟩
 by_cases k2:k=2
 ·subst k2
  by_cases hn:n=0
  ·subst hn
   by_cases hm0:m=1
   ·subst hm0
    cases x <;> cases y
    all_goals
     simp[] at hv;subst hv;go_enter Tryz.func153,Tryz.ntmps153;go_wp2_with (first | (go_at_call 132;((with_reducible refine(KN.out _).mono ?_));rintro e w1 ⟨rfl,rfl⟩) | (go_at_call 163;((with_reducible refine(KS.out _).mono ?_));rintro e w1 ⟨rfl,rfl⟩));go_ret;exact⟨rfl,one_boxX _ _⟩
   ·have m1:((m:Int)==1)=false:=by simp;omega
    have m2:(m==1)=false:=by simp;omega
    cases x <;> cases y
    all_goals
     simp[m2] at hv;subst hv;go_enter Tryz.func153,Tryz.ntmps153;go_wp2_with (first | (go_at_call 132;((with_reducible refine(KN.out _).mono ?_));rintro e w1 ⟨rfl,rfl⟩) | (go_at_call 163;((with_reducible refine(KS.out _).mono ?_));rintro e w1 ⟨rfl,rfl⟩));go_ret;exact⟨rfl,one_boxX _ _⟩
  ·have n1:(n != 0)=true:=by simpa using hn
   by_cases hm0:m=1
   ·subst hm0
    cases x <;> cases y
    all_goals
     simp[hn] at hv;subst hv;go_enter Tryz.func153,Tryz.ntmps153;go_wp2_with (first | (go_at_call 132;((with_reducible refine(KN.out _).mono ?_));rintro e w1 ⟨rfl,rfl⟩) | (go_at_call 163;((with_reducible refine(KS.out _).mono ?_));rintro e w1 ⟨rfl,rfl⟩));go_ret;exact⟨rfl,one_boxX _ _⟩
   ·have m1:((m:Int)==1)=false:=by simp;omega
    have m2:(m==1)=false:=by simp;omega
    cases x <;> cases y
    all_goals
     simp[hn,m2] at hv;subst hv;go_enter Tryz.func153,Tryz.ntmps153;go_wp2_with (first | (go_at_call 132;((with_reducible refine(KN.out _).mono ?_));rintro e w1 ⟨rfl,rfl⟩) | (go_at_call 163;((with_reducible refine(KS.out _).mono ?_));rintro e w1 ⟨rfl,rfl⟩));go_ret;exact⟨rfl,one_boxX _ _⟩
 by_cases k3:k=3
 ·subst k3
  by_cases hn:n=0
  ·subst hn
   by_cases hm0:m=1
   ·subst hm0
    cases x <;> cases y
    all_goals
     simp[] at hv;subst hv;go_enter Tryz.func153,Tryz.ntmps153;go_wp2_with (first | (go_at_call 132;((with_reducible refine(KN.out _).mono ?_));rintro e w1 ⟨rfl,rfl⟩) | (go_at_call 163;((with_reducible refine(KS.out _).mono ?_));rintro e w1 ⟨rfl,rfl⟩));go_ret;exact⟨rfl,one_boxX _ _⟩
   ·have m1:((m:Int)==1)=false:=by simp;omega
    have m2:(m==1)=false:=by simp;omega
    cases x <;> cases y
    all_goals
     simp[m2] at hv;subst hv;go_enter Tryz.func153,Tryz.ntmps153;go_wp2_with (first | (go_at_call 132;((with_reducible refine(KN.out _).mono ?_));rintro e w1 ⟨rfl,rfl⟩) | (go_at_call 163;((with_reducible refine(KS.out _).mono ?_));rintro e w1 ⟨rfl,rfl⟩));go_ret;exact⟨rfl,one_boxX _ _⟩
  ·have n1:(n != 0)=true:=by simpa using hn
   by_cases hm0:m=1
   ·subst hm0
    cases x <;> cases y
    all_goals
     simp[hn] at hv;subst hv;go_enter Tryz.func153,Tryz.ntmps153;go_wp2_with (first | (go_at_call 132;((with_reducible refine(KN.out _).mono ?_));rintro e w1 ⟨rfl,rfl⟩) | (go_at_call 163;((with_reducible refine(KS.out _).mono ?_));rintro e w1 ⟨rfl,rfl⟩));go_ret;exact⟨rfl,one_boxX _ _⟩
   ·have m1:((m:Int)==1)=false:=by simp;omega
    have m2:(m==1)=false:=by simp;omega
    cases x <;> cases y
    all_goals
     simp[hn,m2] at hv;subst hv;go_enter Tryz.func153,Tryz.ntmps153;go_wp2_with (first | (go_at_call 132;((with_reducible refine(KN.out _).mono ?_));rintro e w1 ⟨rfl,rfl⟩) | (go_at_call 163;((with_reducible refine(KS.out _).mono ?_));rintro e w1 ⟨rfl,rfl⟩));go_ret;exact⟨rfl,one_boxX _ _⟩
 by_cases k4:k=4
 ·subst k4
  by_cases hn:n=0
  ·subst hn
   by_cases hm0:m=2
   ·subst hm0
    by_cases hb:b2=0
    ·subst hb
     cases x <;> cases y
     all_goals
      simp[] at hv;subst hv;go_enter Tryz.func153,Tryz.ntmps153;go_wp2_with (first | (go_at_call 132;((with_reducible refine(KN.out _).mono ?_));rintro e w1 ⟨rfl,rfl⟩) | (go_at_call 163;((with_reducible refine(KS.out _).mono ?_));rintro e w1 ⟨rfl,rfl⟩));go_ret;exact⟨rfl,one_boxX _ _⟩
    ·have b3:((b2:Int) != 0)=true:=by simp;omega
     have b4:(b2 != 0)=true:=by simp;omega
     cases x <;> cases y
     all_goals
      simp[b4] at hv;subst hv;go_enter Tryz.func153,Tryz.ntmps153;go_wp2_with (first | (go_at_call 132;((with_reducible refine(KN.out _).mono ?_));rintro e w1 ⟨rfl,rfl⟩) | (go_at_call 163;((with_reducible refine(KS.out _).mono ?_));rintro e w1 ⟨rfl,rfl⟩));go_ret;exact⟨rfl,one_boxX _ _⟩
   ·have m1:((m:Int)==2)=false:=by simp;omega
    have m2:(m==2)=false:=by simp;omega
    by_cases hb:b2=0
    ·subst hb
     cases x <;> cases y
     all_goals
      simp[m2] at hv;subst hv;go_enter Tryz.func153,Tryz.ntmps153;go_wp2_with (first | (go_at_call 132;((with_reducible refine(KN.out _).mono ?_));rintro e w1 ⟨rfl,rfl⟩) | (go_at_call 163;((with_reducible refine(KS.out _).mono ?_));rintro e w1 ⟨rfl,rfl⟩));go_ret;exact⟨rfl,one_boxX _ _⟩
    ·have b3:((b2:Int) != 0)=true:=by simp;omega
     have b4:(b2 != 0)=true:=by simp;omega
     cases x <;> cases y
     all_goals
      simp[m2] at hv;subst hv;go_enter Tryz.func153,Tryz.ntmps153;go_wp2_with (first | (go_at_call 132;((with_reducible refine(KN.out _).mono ?_));rintro e w1 ⟨rfl,rfl⟩) | (go_at_call 163;((with_reducible refine(KS.out _).mono ?_));rintro e w1 ⟨rfl,rfl⟩));go_ret;exact⟨rfl,one_boxX _ _⟩
  ·have n1:(n != 0)=true:=by simpa using hn
   by_cases hm0:m=2
   ·subst hm0
    by_cases hb:b2=0
    ·subst hb
     cases x <;> cases y
     all_goals
      simp[hn] at hv;subst hv;go_enter Tryz.func153,Tryz.ntmps153;go_wp2_with (first | (go_at_call 132;((with_reducible refine(KN.out _).mono ?_));rintro e w1 ⟨rfl,rfl⟩) | (go_at_call 163;((with_reducible refine(KS.out _).mono ?_));rintro e w1 ⟨rfl,rfl⟩));go_ret;exact⟨rfl,one_boxX _ _⟩
    ·have b3:((b2:Int) != 0)=true:=by simp;omega
     have b4:(b2 != 0)=true:=by simp;omega
     cases x <;> cases y
     all_goals
      simp[hn] at hv;subst hv;go_enter Tryz.func153,Tryz.ntmps153;go_wp2_with (first | (go_at_call 132;((with_reducible refine(KN.out _).mono ?_));rintro e w1 ⟨rfl,rfl⟩) | (go_at_call 163;((with_reducible refine(KS.out _).mono ?_));rintro e w1 ⟨rfl,rfl⟩));go_ret;exact⟨rfl,one_boxX _ _⟩
   ·have m1:((m:Int)==2)=false:=by simp;omega
    have m2:(m==2)=false:=by simp;omega
    by_cases hb:b2=0
    ·subst hb
     cases x <;> cases y
     all_goals
      simp[hn,m2] at hv;subst hv;go_enter Tryz.func153,Tryz.ntmps153;go_wp2_with (first | (go_at_call 132;((with_reducible refine(KN.out _).mono ?_));rintro e w1 ⟨rfl,rfl⟩) | (go_at_call 163;((with_reducible refine(KS.out _).mono ?_));rintro e w1 ⟨rfl,rfl⟩));go_ret;exact⟨rfl,one_boxX _ _⟩
    ·have b3:((b2:Int) != 0)=true:=by simp;omega
     have b4:(b2 != 0)=true:=by simp;omega
     cases x <;> cases y
     all_goals
      simp[hn,m2] at hv;subst hv;go_enter Tryz.func153,Tryz.ntmps153;go_wp2_with (first | (go_at_call 132;((with_reducible refine(KN.out _).mono ?_));rintro e w1 ⟨rfl,rfl⟩) | (go_at_call 163;((with_reducible refine(KS.out _).mono ?_));rintro e w1 ⟨rfl,rfl⟩));go_ret;exact⟨rfl,one_boxX _ _⟩
 have q0:(k==0)=false:=by simpa using k0
 have q1:(k==1)=false:=by simpa using k1
 have q2:(k==2)=false:=by simpa using k2
 have q3:(k==3)=false:=by simpa using k3
 have q4:(k==4)=false:=by simpa using k4
 have r0:(k != 0)=true:=by simpa using k0
 have r1:(k != 1)=true:=by simpa using k1
 have r4:(k != 4)=true:=by simpa using k4
 simp[k0,k1,k2,k3,k4] at hv;subst hv;clear k0 k1 k2 k3 k4;by_cases hn:n=0
 ·subst hn
  cases x <;> cases y
  all_goals
   go_enter Tryz.func153,Tryz.ntmps153;go_wp2_with (first | (go_at_call 132;((with_reducible refine(KN.out _).mono ?_));rintro e w1 ⟨rfl,rfl⟩) | (go_at_call 163;((with_reducible refine(KS.out _).mono ?_));rintro e w1 ⟨rfl,rfl⟩));go_ret;exact⟨rfl,one_boxX _ _⟩
 ·have n1:(n != 0)=true:=by simpa using hn
  clear hn
  cases x <;> cases y
  all_goals
   go_enter Tryz.func153,Tryz.ntmps153;go_wp2_with (first | (go_at_call 132;((with_reducible refine(KN.out _).mono ?_));rintro e w1 ⟨rfl,rfl⟩) | (go_at_call 163;((with_reducible refine(KS.out _).mono ?_));rintro e w1 ⟨rfl,rfl⟩));go_ret;exact⟨rfl,one_boxX _ _⟩
theorem maywithin_any (r:Ex):∀ (A:Option Addr) (c d:Nat) (w:World),KidsX (LtX w.heap.size) w A r→d≤64→nmX r≤1000000→sizeX r≤1000000→
  Calls Tryz.prog 133 #[valX r A c,.int .i64 d] w fun e w'=>e= .returned (.bool (mayX r d))∧Below w.heap.size w w':=by
 induction r using Ex.ind with
 | h k n nm op ks ih=>
   intro A c d w hk hd hnm hsz;have KH:Hid (∀ w,Calls Tryz.prog 153 #[valX (Ex.mk k n nm op ks) A c] w fun e w'=>e= .returned (.bool (shapeX k n nm op ks.length))∧Below w.heap.size w w'):=Lib.hid fun w=>told_any9 (Ex.mk k n nm op ks) A c w (by rw[nmX] at hnm;show nm.length≤_;omega)
   obtain⟨v,hv⟩:∃ v,v=mayX (Ex.mk k n nm op ks) d:=⟨_,rfl⟩;rw[←hv];rw[mayX] at hv;rw[nmX] at hnm;rw[sizeX] at hsz;have hml:=sizeXL_len ks;have HNM:=Lib.hid hnm;have HSZ:=Lib.hid hsz;simp only[valX] at KH ⊢;generalize (⟨nm.toArray⟩:ByteArray)=X at KH ⊢;generalize (⟨op.toArray⟩:ByteArray)=Y at KH ⊢;generalize shapeX k n nm op ks.length=sh at KH hv;obtain⟨m,hm⟩:∃ m,m=ks.length:=⟨_,rfl⟩;rw[←hm] at KH hml ⊢;have hm9:m≤1000000:=by omega
   have he:ks.isEmpty=decide (m=0):=by rw[hm];cases ks <;> simp
   rw[he] at hv;have HM:=Lib.hid hm;have HK:=Lib.hid hk;have HI:=Lib.hid ih;clear hk ih hm he hnm hsz hml
   cases sh with
   | false=>
     have HX:Hid (v=false):=Lib.hid (by rw[hv];rfl);clear hv;go_enter Tryz.func133,Tryz.ntmps133;go_wp2_with (go_at_call 153;go_must ((with_reducible refine(KH.out _).mono ?_);rintro e w1 ⟨rfl,hb1⟩;have HB1:=Lib.hid ((one_boxX w (.cells #[.int .i64 k,.int .i64 n,.string X,.string Y,.slice A m c] 44)).trans (hb1.mono (by simp)));clear hb1));go_ret;exact⟨ret_bool HX.out.symm,HB1.out⟩
   | true=>
     by_cases hbad:m≠0∧d=64
     ·obtain⟨hm0,rfl⟩:=hbad
      have HX:Hid (v=false):=Lib.hid (by rw[hv];simp[hm0]);have q1:decide ((0:Int)<(m:Int))=true:=by simp;omega
      have q2:decide (0<m)=true:=by simp;omega
      clear hv hm0;go_enter Tryz.func133,Tryz.ntmps133;go_wp2_with (go_at_call 153;go_must ((with_reducible refine(KH.out _).mono ?_);rintro e w1 ⟨rfl,hb1⟩;have HBX:=Lib.hid ((Box5.new w 44 (.int .i64 k) (.int .i64 n) (.string X) (.string Y) (.slice A m c)).low hb1);have HB1:=Lib.hid ((one_boxX w (.cells #[.int .i64 k,.int .i64 n,.string X,.string Y,.slice A m c] 44)).trans (hb1.mono (by simp)));clear hb1;obtain⟨d0,d1,d2,d3,d4,_⟩:=HBX.out));go_ret;exact⟨ret_bool HX.out.symm,HB1.out⟩
     ·have HX:Hid (∀ b,mayL ks (d+1)=b→v=b):=Lib.hid (by
       rintro b rfl;rw[hv];by_cases hm0:m=0
       ·simp[hm0]
       ·have:d<64:=by omega
        simp[this])
      have hq:(m=0∧decide ((0:Int)<(m:Int))=false∧decide (0<m)=false)∨(decide ((0:Int)<(m:Int))=true∧decide (0<m)=true∧((d:Int)==64)=false∧(d==64)=false∧d<64):=by
       by_cases hm0:m=0
       ·left;simp[hm0]
       ·right;refine⟨by simp;omega,by simp;omega,by simp;omega,by simp;omega,by omega⟩
      clear hv hbad
      rcases hq with ⟨rfl,q1,q2⟩ | ⟨q1,q2,q3,q4,hd4⟩
      ·have HX2:Hid (v=true):=Lib.hid (HX.out true (by
        have:=HM.out;rw[List.length_eq_zero_iff.1 this.symm,mayL]))
       clear hd;go_enter Tryz.func133,Tryz.ntmps133;go_wp2_with (go_at_call 153;go_must ((with_reducible refine(KH.out _).mono ?_);rintro e w1 ⟨rfl,hb1⟩;have HBX:=Lib.hid ((Box5.new w 44 (.int .i64 k) (.int .i64 n) (.string X) (.string Y) (.slice A 0 c)).low hb1);have HB1:=Lib.hid ((one_boxX w (.cells #[.int .i64 k,.int .i64 n,.string X,.string Y,.slice A 0 c] 44)).trans (hb1.mono (by simp)));clear hb1;obtain⟨d0,d1,d2,d3,d4,_⟩:=HBX.out))
       go_loopw [23] (fun i wr=>i= .int .i64 0∧wr=w1) (fun _ _=>0)
       case atStart=>exact⟨rfl,rfl⟩
       case round=>
        obtain⟨rfl,rfl⟩:=hrel;go_wp2;go_ret;exact⟨ret_bool HX2.out.symm,HB1.out⟩
      ·go_enter Tryz.func133,Tryz.ntmps133
       go_wp2_with (go_at_call 153;go_must ((with_reducible refine(KH.out _).mono ?_);rintro e w1 ⟨rfl,hb1⟩;have HBX:=Lib.hid ((Box5.new w 44 (.int .i64 k) (.int .i64 n) (.string X) (.string Y) (.slice A m c)).low hb1);have HB1:=Lib.hid ((one_boxX w (.cells #[.int .i64 k,.int .i64 n,.string X,.string Y,.slice A m c] 44)).trans (hb1.mono (by simp)));clear hb1;obtain⟨d0,d1,d2,d3,d4,_⟩:=HBX.out))
       go_loopw [23] (fun i wr=>∃ j:Nat,j≤m∧i= .int .i64 j∧mayL (ks.take j) (d+1)=true∧Below w1.heap.size w1 wr) (fun i _=>m - (intOf i).toNat)
       case atStart=>exact⟨0,by omega,rfl,by rw[List.take_zero,mayL],Below.refl _ _⟩
       case round=>
        obtain⟨j,hj,rfl,ht,hb1⟩:=hrel;have hb:Below w.heap.size w wr:=HB1.out.trans (hb1.mono HB1.out.size);have HT:=Lib.hid ht;have HBB:=Lib.hid hb1;clear ht hb1;by_cases a:j<m
        ·obtain⟨r,hr⟩:=getX_of_lt HM.out a
         obtain⟨ad,B,b,rfl,hp,h9,hkr⟩:=kidX_at HK.out hb hr;have hmem:=List.mem_of_getElem? hr
         have K:∀ w2,Below w.heap.size w w2→Calls Tryz.prog 133 #[valX r B b,.int .i64 ((d:Int)+1)] w2 fun e w'=>e= .returned (.bool (mayX r (d+1)))∧Below w2.heap.size w2 w':=fun w2 h2=>
          HI.out r hmem B b (d+1) w2 (hkr.next h2) (by omega) (by have:=HNM.out;have:=nmXL_mem hmem;omega) (by have:=HSZ.out;have:=sizeXL_mem hmem;omega)
         obtain⟨v2,hv2⟩:∃ v2,v2=mayX r (d+1):=⟨_,rfl⟩;rw[←hv2] at K;have HV2:=Lib.hid hv2;have HR:=Lib.hid hr;clear hr hv2 hkr hmem;obtain⟨k',n',nm',op',ks1⟩:=r;simp only[valX] at K;obtain⟨c0,c1,c2,c3,c4⟩:=h9;generalize (⟨nm'.toArray⟩:ByteArray)=M1 at K c2;generalize (⟨op'.toArray⟩:ByteArray)=M2 at K c3;obtain⟨l1,hl1⟩:∃ l,l=ks1.length:=⟨_,rfl⟩;rw[←hl1] at K c4;have HKC:=Lib.hid K;have HBK:Hid (∀ o,Below w.heap.size w (wr.alloc o)):=Lib.hid fun o=>hb.alloc hb.size o
         clear K hl1
         cases v2 with
         | true=>
           have HT2:Hid (mayL (ks.take (j+1)) (d+1)=true):=Lib.hid (by rw[mayL_take HR.out HT.out];exact HV2.out.symm);go_wp2_with (go_at_call 133;go_must ((with_reducible refine(HKC.out _ (HBK.out _)).mono ?_);rintro e w' ⟨rfl,hb2⟩))
           go_roundw
           case rel=>exact⟨j+1,by omega,by go_num,HT2.out,HBB.out.trans (((one_boxX wr _).trans (hb2.mono (by simp))).mono HBB.out.size)⟩
           case measure=>simp[intOf];omega
         | false=>
           have HX2:Hid (v=false):=Lib.hid (HX.out _ (mayL_not HR.out HV2.out.symm));go_wp2_with (go_at_call 133;go_must ((with_reducible refine(HKC.out _ (HBK.out _)).mono ?_);rintro e w' ⟨rfl,hb2⟩));go_ret;exact⟨ret_bool HX2.out.symm,(HBK.out _).trans (hb2.mono (HBK.out _).size)⟩
        ·have HX2:Hid (v=true):=by
          apply Lib.hid;apply HX.out;have:=HT.out;rw[List.take_of_length_le (by have:=HM.out;omega)] at this;exact this
         go_wp2;go_ret;exact⟨ret_bool HX2.out.symm,hb⟩
theorem cmay_any (r:Ex) (A:Option Addr) (c:Nat) (w:World) (hk:KidsX (LtX w.heap.size) w A r) (hn:nmX r≤1000000) (hs:sizeX r≤1000000):
  Calls Tryz.prog 109 #[valX r A c] w fun e w'=>e= .returned (.bool (mayX r 0))∧Below w.heap.size w w':=by
 have K:Hid (∀ o,Calls Tryz.prog 133 #[valX r A c,.int .i64 0] (w.alloc o) fun e w'=>e= .returned (.bool (mayX r 0))∧Below (w.alloc o).heap.size (w.alloc o) w'):=Lib.hid fun o=>maywithin_any r A c 0 _ (hk.next (one_boxX w o)) (by omega) hn hs
 generalize mayX r 0=v at K ⊢;obtain⟨k',n',nm',op',ks'⟩:=r;simp only[valX] at K ⊢;clear hk hn hs;go_enter Tryz.func109,Tryz.ntmps109;go_wp2_with (go_at_call 133;go_must ((with_reducible refine(K.out _).mono ?_);rintro e w' ⟨rfl,hb2⟩));go_ret;exact⟨rfl,(one_boxX _ _).trans (hb2.mono (by simp))⟩
def textSum (ps:List Pt):Nat:=(ps.map fun p=>p.2.length).sum
theorem textSum_app (a b:List Pt):textSum (a++b)=textSum a+textSum b:=by simp[textSum]
theorem textSum_mem {ps:List Pt} {p:Pt} (h:p∈ps):p.2.length≤textSum ps:=by
 induction ps with
 | nil=>cases h
 | cons q r ih=>
   have e:textSum (q::r)=q.2.length+textSum r:=by simp[textSum]
   rw[e]
   rcases List.mem_cons.1 h with rfl | h
   ·omega
   ·have:=ih h;omega
theorem flush_sum (ps:List Pt) (t:Bs):textSum (flush ps t)=textSum ps+t.length:=by
 unfold flush
 split
 ·rename_i e;rw[e];simp
 ·rw[textSum_app];simp[textSum]
theorem goN_sum (r:Bs) (pos:Nat) (ps:List Pt) (t:Bs):∀ out,(goN r pos ps t).1=some out→textSum out≤textSum ps+t.length+r.length:=by
 refine goN_ind (P:=fun r pos ps t=>∀ out,(goN r pos ps t).1=some out→textSum out≤textSum ps+t.length+r.length) ?_ ?_ ?_ ?_ (r.length+1) r pos ps t (Nat.lt_succ_self _)
 ·intro r k pos ps t h out ho
  rw[goN_bad h] at ho;cases ho
 ·intro r pos ps t h out ho
  rw[goN_stop h] at ho;injection ho with ho;subst ho
  rw[flush_sum];omega
 ·intro r nm k pos ps t h h0 h1 ih out ho
  rw[goN_var h] at ho;have:=ih out ho;rw[textSum_app,flush_sum,List.length_drop] at this;simp[textSum] at this;simp only[textSum];omega
 ·intro r c k pos ps t h h0 h1 ih out ho
  rw[goN_byte h] at ho;have:=ih out ho;rw[List.length_append,List.length_drop] at this;simp at this;omega
theorem parse_sum (l:Bs) (out:List Pt) (h:(parse l).1=some out):textSum out≤l.length:=by
 cases l with
 | nil=>simp[parse] at h
 | cons c r=>
   by_cases hc:c=34
   ·subst hc
    rw[parse_quote] at h;have:=goN_sum r 1 [] [] out h;simp[textSum] at this ⊢;omega
   ·rw[parse_no c r hc] at h;cases h
theorem print_sum:∀ ps:List Pt,(∀ p∈ps,p.1.length≤8)→(ps.flatMap prP).length≤11 * ps.length+4 * textSum ps
 | [],_=>by simp
 | p::r,h=>by
   have h1:=print_sum r fun q hq=>h q (by simp[hq])
   have h2:=h p (by simp);have h3:=bytes_len p.2
   have h4:(prV p.1).length≤11:=by
    unfold prV
    split
    ·simp
    ·simp;omega
   have e:textSum (p::r)=p.2.length+textSum r:=by simp[textSum]
   have h5:(prP p).length=(prV p.1).length+(p.2.flatMap prB).length:=by unfold prP;rw[List.length_append]
   rw[List.flatMap_cons,List.length_append,List.length_cons,e,h5];omega
theorem fit_read {N:Nat} {t:Tok} (h:Read1 N t) (hN:N≤400):FitT t:=by
 have ho:=h.ok
 have hn: -9223372036854775808≤t.n∧t.n≤9223372036854775807:=by
  refine⟨?_,h.n⟩;unfold okT at ho
  split at ho
  ·simp at ho;omega
  ·split at ho <;> (simp at ho;omega)
 rcases h.parts with e | ⟨l,q,e,hl⟩
 ·exact⟨by have:=h.word;omega,hn,by rw[e];simp,by rw[e];simp,by rw[e];simp,by rw[e];decide⟩
 ·have h1:=parse_len l t.parts (by rw[e])
  have h2:=parse_sum l t.parts (by rw[e])
  have h3:∀ p∈t.parts,p.1.length≤8:=by
   unfold okT at ho
   split at ho
   ·simp at ho;rw[ho.2];simp
   ·split at ho
    ·simp at ho;exact may_names false _ ho.2
    ·simp at ho;rw[ho.2];simp
  have h4:=print_sum t.parts h3;refine⟨by have:=h.word;omega,hn,by omega,fun p hp=>by have:=h3 p hp;omega,fun p hp=>by have:=textSum_mem hp;omega,?_⟩;unfold print;rw[List.length_cons,List.length_append,List.length_singleton];omega
theorem fitl_read {s:Bs} {ts:List Tok} (h:∀ t∈ts,Read1 s.length t) (hl:ts.length≤s.length) (hs:s.length≤400):FitL ts:=⟨fun t ht=>(h t ht).ok,fun t ht=>fit_read (h t ht) hs,by omega⟩
def okN (z:Int):Prop:= -9223372036854775808≤z∧z≤9223372036854775807
end Go.Proofs.YtfgcdppebeojbaaGreatDoor
