import Derived.Test.YtngfihoempcplaaGreatDoorCf
import Derived.Test.YtngfihoempcplaaGreatDoorEx21
import Derived.Test.YtngfihoempcplaaGreatDoorEx17
import Derived.Test.YtngfihoempcplaaGreatDoorName2
import Derived.IntWalk
import Derived.Test.YtngfihoempcplaaGreatDoorQRead
import Derived.Test.YtngfihoempcplaaGreatDoorTkQ
namespace Go.Proofs.YtngfihoempcplaaGreatDoor
open Go Go.RowKit
set_option maxRecDepth 100000
set_option maxHeartbeats 4000000
def placeX (b:Nat) (w:World):Nat:=(intOf ((w.cell? ⟨b,1,none⟩).getD (.int .i64 0))).toNat
def faultX (b:Nat) (w:World):Int:=intOf ((w.cell? ⟨b,2,none⟩).getD (.int .i64 0))
noncomputable def loopN (b n:Nat) (wr:World):Nat:=if faultX b wr=0 then n+1 - placeX b wr else 0
theorem y0l {b n:Nat} {w:World} {A:OA} {c:Nat} {l:List Tok} {p:Nat} (h:RdrX b w A n c l p 0):loopN b n w=n+1 - p:=by
 unfold loopN placeX faultX;rw[h.c1,h.c2];exact if_pos rfl
theorem y7j {b n:Nat} {w:World} {A:OA} {c:Nat} {l:List Tok} {p er:Nat} (h:RdrX b w A n c l p er) (he:er≠0):loopN b n w=0:=by
 unfold loopN placeX faultX;rw[h.c1,h.c2];exact if_neg (by show ¬ (er:Int)=0;omega)
structure LoopX (b:Nat) (w:World) (cb:Nat) (A:OA) (n c:Nat) (l:List Tok) (m k d:Nat) (r:Rs) (wr:World) (x:Ex) (p:Nat) (A1:OA) (c1:Nat):Prop where
 mid:MidX b w wr A n c l p 0
 box:Box5 wr cb (.int .i64 x.kind) (.int .i64 x.n) (.string ⟨x.name.toArray⟩) (.string ⟨x.op.toArray⟩) (.slice A1 x.kids.length c1)
 kids:KidsX (NoX (w.heap.size+1) cb wr.heap.size) wr A1 x
 rest:RdE l (.loop m x) p d r
 lo:k<p
 hi:p≤l.length
 lt:cb<wr.heap.size
structure LoopY (b:Nat) (w:World) (cb:Nat) (A:OA) (n c:Nat) (l:List Tok) (r:Rs) (wr:World) (j er:Nat):Prop where
 mid:MidX b w wr A n c l j er
 box:∃ (v0 v1:Int) (v2 v3:BA) (A4:OA) (n4 c4:Nat),Box5 wr cb (.int .i64 v0) (.int .i64 v1) (.string v2) (.string v3) (.slice A4 n4 c4)
 res:r= .bad j er
 err:er=1∨er=8
def LoopZ (b:Nat) (w:World) (cb:Nat) (A:OA) (n c:Nat) (l:List Tok) (m k d:Nat) (r:Rs) (wr:World):Prop:=
 (∃ x p A1 c1,LoopX b w cb A n c l m k d r wr x p A1 c1)∨∃ j er,LoopY b w cb A n c l r wr j er
theorem LoopX.low {b:Nat} {w:World} {cb:Nat} {A:OA} {n c:Nat} {l:List Tok} {m k d:Nat} {r:Rs} {wr:World} {x:Ex} {p:Nat} {A1:OA} {c1:Nat} (h:LoopX b w cb A n c l m k d r wr x p A1 c1) (hlt:b<w.heap.size) {W:World} (hb:Below wr.heap.size wr W):LoopX b w cb A n c l m k d r W x p A1 c1:=
 ⟨h.mid.low hlt hb,h.box.low hb,(h.kids.over fun q hq=>hb.block q hq.2.1).wide fun q hq=>⟨hq.1,by have:=hq.2.1;have:=hb.size;omega,hq.2.2⟩,h.rest,h.lo,h.hi,by have:=h.lt;have:=hb.size;omega⟩
theorem MidX.put5 {b:Nat} {w W:World} {A:OA} {n c:Nat} {l:List Tok} {k o:Nat} (h:MidX b w W A n c l k o) (hlt:b<w.heap.size) {q:Nat} (hq:w.heap.size<q) (v0 v1 v2 v3 v4:Value):MidX b w (put5 W q v0 v1 v2 v3 v4) A n c l k o:=
 ⟨((((h.boxQ.other (a:=⟨q,0,none⟩) (Nat.ne_of_gt hq) _).other (a:=⟨q,1,none⟩) (Nat.ne_of_gt hq) _).other (a:=⟨q,2,none⟩) (Nat.ne_of_gt hq) _).other (a:=⟨q,3,none⟩) (Nat.ne_of_gt hq) _).other (a:=⟨q,4,none⟩) (Nat.ne_of_gt hq) _,
   z2n h.grown (Nat.le_of_lt hq) _ _ _ _ _,h.rd.put5 (by omega) _ _ _ _ _,by rw[z0y];exact h.size⟩
abbrev rowW (W:World) (cb:Nat) (op:BA) (x y:Ex) (A1 A2:OA) (c1 c2:Nat):World:=((put5 W cb (.int .i64 4) oZ oS (.string op) (.slice (some ⟨W.heap.size+1,0,none⟩) 2 2)).alloc (objX y A2 c2)).alloc (objXY x y A1 A2 c1 c2)
theorem LoopX.next {b:Nat} {w:World} {cb:Nat} {A:OA} {n c:Nat} {l:List Tok} {m k d:Nat} {r:Rs} {wr:World} {x:Ex} {p:Nat} {A1:OA} {c1:Nat} (h:LoopX b w cb A n c l m k d r wr x p A1 c1) (hlt:b<w.heap.size) (hcb:w.heap.size<cb) {W:World} {y:Ex} {p':Nat} {A2:OA} {c2:Nat} {op:Bs}
  (hg:wr.grownBy W (some b)) (hk:KidsX (FrX wr.heap.size W.heap.size) W A2 y) (hr:RdrX b W A n c l p' 0) (hrest:RdE l (.loop m (exBin op x y)) p' d r) (hp:p<p') (hn:p'≤l.length):
  LoopX b w cb A n c l m k d r (rowW W cb ⟨op.toArray⟩ x y A1 A2 c1 c2) (exBin op x y) p' (some ⟨W.heap.size+1,0,none⟩) 2:=by
 have hsz:=hg.size;have hcl:=h.lt;have hs1:(put5 W cb (.int .i64 4) oZ oS (.string ⟨op.toArray⟩) (.slice (some ⟨W.heap.size+1,0,none⟩) 2 2)).heap.size=W.heap.size:=z0y _ _ _ _ _ _ _;have hs2:((put5 W cb (.int .i64 4) oZ oS (.string ⟨op.toArray⟩) (.slice (some ⟨W.heap.size+1,0,none⟩) 2 2)).alloc (objX y A2 c2)).heap.size=W.heap.size+1:=by rw[z0j,hs1]
 have hs3:(rowW W cb ⟨op.toArray⟩ x y A1 A2 c1 c2).heap.size=W.heap.size+2:=(z0j _ _).trans (by rw[hs2]);have hbl:Below (put5 W cb (.int .i64 4) oZ oS (.string ⟨op.toArray⟩) (.slice (some ⟨W.heap.size+1,0,none⟩) 2 2)).heap.size (put5 W cb (.int .i64 4) oZ oS (.string ⟨op.toArray⟩) (.slice (some ⟨W.heap.size+1,0,none⟩) 2 2)) (rowW W cb ⟨op.toArray⟩ x y A1 A2 c1 c2):=z0a _ _ _;refine⟨((h.mid.more hlt hg hr).put5 hlt hcb _ _ _ _ _).low hlt hbl,((h.box.grown hg (by omega)).put _ _ _ _ _).low hbl,?_,hrest,by have:=h.lo;omega,hn,by rw[hs3];omega⟩
 have hPP:∀ q,(NoX (w.heap.size+1) cb wr.heap.size q∨FrX wr.heap.size W.heap.size q)→NoX (w.heap.size+1) cb W.heap.size q:=fun q hq=>by
  rcases hq with hq | hq
  ·exact⟨hq.1,by have:=hq.2.1;omega,hq.2.2⟩
  ·exact⟨by have:=hq.1;have:=h.mid.size;omega,hq.2,by have:=hq.1;omega⟩
 have k1:KidsX (NoX (w.heap.size+1) cb W.heap.size) W A1 x:=(h.kids.grownX hg fun q hq=>⟨hq.2.1,by have:=hq.1;omega⟩).wide fun q hq=>hPP q (.inl hq)
 have k2:KidsX (NoX (w.heap.size+1) cb W.heap.size) W A2 y:=hk.wide fun q hq=>hPP q (.inr hq)
 have k3:=(k1.put5 (c:=cb) (fun hq=>hq.2.2 rfl) (.int .i64 4) oZ oS (.string ⟨op.toArray⟩) (.slice (some ⟨W.heap.size+1,0,none⟩) 2 2)).allocX (fun q hq=>by rw[hs1];exact hq.2.1) (objX y A2 c2);have k4:=(k2.put5 (c:=cb) (fun hq=>hq.2.2 rfl) (.int .i64 4) oZ oS (.string ⟨op.toArray⟩) (.slice (some ⟨W.heap.size+1,0,none⟩) 2 2)).allocX (fun q hq=>by rw[hs1];exact hq.2.1) (objX y A2 c2);have k5:=y3d (c:=c1) (c':=c2) k3 k4 (fun q hq=>by rw[hs2];have:=hq.2.1;omega) 4 0 [] op;rw[hs2] at k5;rw[hs3]
 exact k5.wide fun q hq=>by
  rcases hq with hq | hq
  ·exact⟨hq.1,by have:=hq.2.1;omega,hq.2.2⟩
  ·exact⟨by have:=h.mid.size;omega,by omega,by omega⟩
theorem LoopX.fell {b:Nat} {w:World} {cb:Nat} {A:OA} {n c:Nat} {l:List Tok} {m k d:Nat} {r:Rs} {wr:World} {x:Ex} {p:Nat} {A1:OA} {c1:Nat} (h:LoopX b w cb A n c l m k d r wr x p A1 c1) (hlt:b<w.heap.size) (hcb:w.heap.size<cb) {W W3:World} {j er:Nat} {v0 v1:Int} {v2 v3:BA} {A4:OA} {n4 c4:Nat}
  (hg:wr.grownBy W (some b)) (hr:RdrX b W A n c l j er) (hres:r= .bad j er) (he:er=1∨er=8) (h3:Below W.heap.size (put5 W cb (.int .i64 v0) (.int .i64 v1) (.string v2) (.string v3) (.slice A4 n4 c4)) W3):LoopY b w cb A n c l r W3 j er:=by
 have hs1:(put5 W cb (.int .i64 v0) (.int .i64 v1) (.string v2) (.string v3) (.slice A4 n4 c4)).heap.size=W.heap.size:=z0y _ _ _ _ _ _ _;rw[←hs1] at h3;exact⟨((h.mid.more hlt hg hr).put5 hlt hcb _ _ _ _ _).low hlt h3,⟨v0,v1,v2,v3,A4,n4,c4,((h.box.grown hg (by omega)).put _ _ _ _ _).low h3⟩,hres,he⟩
theorem x4h (b:Nat) (w:World) (A:OA) (n c:Nat) (l:List Tok) (m k d:Nat) (h:RdrX b w A n c l k 0) (hkb:l.length≤1000000) (hd:d≤64) (hm:1≤m) (x:Ex) (p:Nat) (r:Rs)
  (HRow:∀ m' p' d' r',k<p'→p'≤l.length→d'≤64→1≤m'→RdE l (.some m') p' d' r'→XRow b A n c l m' p' d' r')
  (HOne:XOne b A n c l k d (.ok x p)) (hp:k<p∧p≤l.length) (hr:RdE l (.loop m x) p d r):
  Cz 135 #[pP b,m,d] w (PostR9 b w A n c l r):=by
 have hlt:=h.lt;have hln:=h.len;have HM0:=zz (MidX.first h);have K1:Hid (∀ w,RdrX b w A n c l k 0→Cz 158 #[pP b,d] w (PostR9 b w A n c l (.ok x p))):=zz HOne;have HR:=zz HRow;have HRest:=zz hr;have HLN:=zz hln;have hmx:Hid (∀ i,strong (sg l i)≤6):=zz fun i=>z4t _
 have HKB:=zz hkb;clear h HOne HRow hr hln hkb;go_enter Tryz.func135,Tryz.ntmps135;go_wp2_with (go_at_call 158;go_must ((with_reducible refine(K1.out _ HM0.out.rd).mono ?_);rintro e w2 ⟨hg2,⟨A2,c2,rfl,hk2⟩,hr2⟩;have HM2:=zz (HM0.out.more hlt hg2 hr2);have HKD:=zz hk2;clear hg2 hr2 hk2));obtain⟨W2,hW2⟩:∃ W2,W2=w2.alloc (objX x A2 c2):=⟨_,rfl⟩
 have HL0:Hid (LoopX b w w2.heap.size A n c l m k d r W2 x p A2 c2):=zz (by
  have hs:W2.heap.size=w2.heap.size+1:=by rw[hW2];exact z0j _ _
  have hs1:=z0j w zeroX;have g:=HKD.out;rw[hs1] at g;refine⟨by rw[hW2];exact HM2.out.low hlt (z0b _ _),by rw[hW2];exact Box5.new w2 _ _ _ _ _ _,?_,HRest.out,hp.1,hp.2,by omega⟩;rw[hs,hW2];exact(g.allocX (fun q hq=>hq.2) _).wide fun q hq=>⟨hq.1,by have:=hq.2;omega,by have:=hq.2;omega⟩)
 rw[←hW2];have HC:Hid (w.heap.size<w2.heap.size):=zz HM2.out.size;clear hW2
 go_loopw [8] (fun _ wr=>LoopZ b w w2.heap.size A n c l m k d r wr) (fun _ wr=>loopN b n wr)
 case atStart=>exact .inl ⟨x,p,A2,c2,HL0.out⟩
 case round=>
  rcases hrel with ⟨x1,p1,A1,c1,hl⟩ | ⟨j,er,hl⟩
  ·have HL:=zz hl
   have hpl:=hl.hi;obtain⟨S,hS⟩:∃ S:BA,S=⟨(sg l p1).toArray⟩:=⟨_,rfl⟩;have KS:Hid (∀ w,RdrX b w A n c l p1 0→Cz 159 #[pP b] w fun e w'=>e= .returned (.string S)∧Below w.heap.size w w'):=zz fun w h=>by rw[hS];exact z19 b w A n c l p1 h
   have KS2:=KS;have eS:S.data.toList=sg l p1:=by rw[hS]
   have KT:Hid (∀ w,Cz 136 #[S] w fun e w'=>e= .returned (.int .i64 (strong (sg l p1)))∧w=w'):=zz fun w=>by rw[←eS];exact z42 S w
   have HSS:=zz hS;clear hS eS;obtain⟨st,hst⟩:∃ st,st=strong (sg l p1):=⟨_,rfl⟩;rw[←hst] at KT;have HST:=zz hst;have hrest:=hl.rest;have hy1:=hl.mid.rd.c2;have hst6:st≤6:=by rw[hst];exact hmx.out _
   clear hl hst
   cases hrest with
   | stop h1=>
     rw[←HST.out] at h1;have g1:decide ((m:Int)≤(st:Int))=false:=by simp;omega
     have g2:decide (m≤st)=false:=by simp;omega
     clear hp hpl hm hd KS2;go_wp2_with (first | (go_at_call 159;go_must ((with_reducible refine(KS.out _ HL.out.mid.rd).mono ?_);rintro e w3 ⟨rfl,hb3⟩;have HL3:=zz (HL.out.low hlt hb3);clear hb3;obtain⟨d0,d1,d2,d3,d4,_⟩:=HL3.out.mid.boxQ;obtain⟨e0,e1,e2,e3,e4⟩:=HL3.out.mid.boxQ.freed;obtain⟨g0,g1,g2,g3,g4,_⟩:=HL3.out.box)) | (go_at_call 136;go_must ((with_reducible refine(KT.out _).mono ?_);rintro e w' ⟨rfl,rfl⟩)));obtain⟨W3,hW3⟩:∃ W3,W3=put5 w3 w.heap.size (.int .i64 x1.kind) (.int .i64 x1.n) (.string ⟨x1.name.toArray⟩) (.string ⟨x1.op.toArray⟩) (.slice A1 x1.kids.length c1):=⟨_,rfl⟩;have HE:EndX b w W3 A n c l p1 0 (.int .i64 x1.kind) (.int .i64 x1.n) (.string ⟨x1.name.toArray⟩) (.string ⟨x1.op.toArray⟩) (.slice A1 x1.kids.length c1):=HL3.out.mid.fin hlt (by rw[hW3];exact Below.refl _ _)
     have hk3:KidsX (FrX w.heap.size W3.heap.size) W3 A1 x1:=by
      rw[hW3];exact(HL3.out.kids.put5 (fun hq=>by have:=hq.1;omega) _ _ _ _ _).wide fun q hq=>⟨by have:=hq.1;omega,by rw[z0y];exact hq.2.1⟩
     unfold put5 at hW3;rw[←hW3];clear hW3 d0 d1 d2 d3 d4;obtain⟨d0,d1,d2,d3,d4,_⟩:=HE.box;exact bodyPost_ret (v:= .agg #[x1.kind,x1.n,x1.name,x1.op,.slice A1 x1.kids.length c1]) (by simp[results,Tryz.results135,go_sem,d0,d1,d2,d3,d4]) rfl ⟨HE.grown,⟨_,_,rfl,hk3⟩,HE.rd⟩
   | opDeep h1 h2=>
     rw[←HST.out] at h1;have q1:decide ((m:Int)≤(st:Int))=true:=by simp;omega
     have q2:decide (m≤st)=true:=by simp;omega
     have q3:(m:Int)≤st:=by omega
     have q4:(64:Int)≤d:=by omega
     have KF:=zz fun w h=>z7z 8 8 rfl b w A n c l p1 h
     clear hp hpl hm hd h1 h2;go_wp2_with (first | (go_at_call 159;((with_reducible refine(KS.out _ HL.out.mid.rd).mono ?_);rintro e w3 ⟨rfl,hb3⟩;have HL3:=zz (HL.out.low hlt hb3);clear hb3 KS)) | (go_at_call 136;go_must ((with_reducible refine(KT.out _).mono ?_);rintro e w' ⟨rfl,rfl⟩)) | (go_at_call 159;go_must ((with_reducible refine(KS2.out _ HL3.out.mid.rd).mono ?_);rintro e w4 ⟨rfl,hb4⟩;have HL4:=zz (HL3.out.low hlt hb4);clear hb4)) | (go_at_call 160;go_must ((with_reducible refine(KF.out _ HL4.out.mid.rd).mono ?_);rintro e w5 ⟨rfl,hr5,hg5⟩;have HM5:=zz (HL4.out.mid.more hlt hg5 hr5);clear hr5 hg5;obtain⟨d0,d1,d2,d3,d4,_⟩:=HM5.out.boxQ;obtain⟨e0,e1,e2,e3,e4⟩:=HM5.out.boxQ.freed)));obtain⟨W3,hW3⟩:∃ W3,W3=put5 w5 w.heap.size (.int .i64 0) oZ oS oS ():=⟨_,rfl⟩;have HE:EndX b w W3 A n c l p1 8 (.int .i64 0) oZ oS oS ():=HM5.out.fin hlt (by rw[hW3];exact Below.refl _ _);unfold put5 at hW3;rw[←hW3];clear hW3 d0 d1 d2 d3 d4;obtain⟨d0,d1,d2,d3,d4,_⟩:=HE.box;exact bodyPost_ret (v:= .agg #[oZ,oZ,oS,oS,()]) (by simp[results,Tryz.results135,go_sem,d0,d1,d2,d3,d4]) rfl (z3d HE)
   | @op _ _ _ _ y k2 _ h1 h2 h3 h4=>
     rw[←HST.out] at h1;have q1:decide ((m:Int)≤(st:Int))=true:=by simp;omega
     have q2:decide (m≤st)=true:=by simp;omega
     have q3:(m:Int)≤st:=by omega
     have hpos:(Md.some (strong (sg l p1)+1)).pos:=by show 1≤strong (sg l p1)+1;omega
     have hp1:p1<l.length:=z1j hm (by rw[←HST.out];exact h1);have hwk:=h3.within hpos (by omega);have q4:¬ (64:Int)≤d:=by omega
     have q5:(p1:Int)≤1000000:=by have:=HKB.out;omega
     have hkp:=HL.out.lo
     have K:Hid (∀ w,RdrX b w A n c l (p1+1) 0→Cz 135 #[pP b,iI ((st:Int)+1),iI ((d:Int)+1)] w (PostR9 b w A n c l (.ok y k2))):=zz (by
      have:=HR.out (strong (sg l p1)+1) (p1+1) (d+1) _ (by omega) (by omega) (by omega) (by omega) h3;rw[←HST.out] at this;exact this)
     have hk2:p1<k2∧k2≤l.length:=by have:=hwk.1;have:=hwk.2;omega
     have HX4:=zz h4;have HK2:=zz hk2;clear hp hpl hm hd h1 h2 h3 h4 hpos hp1 hwk hk2 hkp;go_wp2_with (first | (go_at_call 159;((with_reducible refine(KS.out _ HL.out.mid.rd).mono ?_);rintro e w3 ⟨rfl,hb3⟩;have HL3:=zz (HL.out.low hlt hb3);clear hb3 KS)) | (go_at_call 136;go_must ((with_reducible refine(KT.out _).mono ?_);rintro e w' ⟨rfl,rfl⟩)) | (go_at_call 159;go_must ((with_reducible refine(KS2.out _ HL3.out.mid.rd).mono ?_);rintro e w4 ⟨rfl,hb4⟩;have HL4:=zz (HL3.out.low hlt hb4);clear hb4;obtain⟨d0,d1,d2,d3,d4,_⟩:=HL4.out.mid.boxQ;obtain⟨e0,e1,e2,e3,e4⟩:=HL4.out.mid.boxQ.freed;have hz1:=HL4.out.mid.rd.c1;have hz2:=HL4.out.mid.rd.c2;have hz3:=HL4.out.mid.rd.f1)) | (go_at_call 135;go_must ((with_reducible refine(K.out _ (HL4.out.mid.rd.placez (p1+1) ((p1:Int)+1) (by omega))).mono ?_);rintro e w6 ⟨hg6,⟨A6,c6,rfl,hk6⟩,hr6⟩;have HG:=zz (z0n (z01 b 1 _ (.int .i64 ((p1:Int)+1))) hg6);have HR6:=zz hr6;have HK6:=zz hk6;clear hr6 hk6;have HBX:=zz (HL4.out.box.grown (z0n (z01 b 1 _ (.int .i64 ((p1:Int)+1))) hg6) (by have:=HC.out;omega));have hl6:w2.heap.size<w6.heap.size:=(by have:=HL4.out.lt;have:=(HG.out).size;omega);clear hg6;obtain⟨d0,d1,d2,d3,d4,_⟩:=HBX.out;obtain⟨e0,e1,e2,e3,e4⟩:=HBX.out.freed)));have HN:=zz (HL4.out.next (c2:=c6) hlt HC.out HG.out (HK6.out.to (by simp[World.setCell]) nR) HR6.out HX4.out HK2.out.1 HK2.out.2);rw[←HSS.out] at HN
     go_roundw
     case rel=>exact .inl ⟨exBin (sg l p1) x1 y,k2,_,_,HN.out⟩
     case measure=>rw[y0l HN.out.mid.rd,y0l HL.out.mid.rd];have:=HK2.out;have:=HLN.out;omega
   | @opBad _ _ _ _ j er h1 h2 h3=>
     rw[←HST.out] at h1;have q1:decide ((m:Int)≤(st:Int))=true:=by simp;omega
     have q2:decide (m≤st)=true:=by simp;omega
     have q3:(m:Int)≤st:=by omega
     have hpos:(Md.some (strong (sg l p1)+1)).pos:=by show 1≤strong (sg l p1)+1;omega
     have hp1:p1<l.length:=z1j hm (by rw[←HST.out];exact h1);have hwk:=h3.within hpos (by omega);have q4:¬ (64:Int)≤d:=by omega
     have q5:(p1:Int)≤1000000:=by have:=HKB.out;omega
     have hkp:=HL.out.lo
     have K:Hid (∀ w,RdrX b w A n c l (p1+1) 0→Cz 135 #[pP b,iI ((st:Int)+1),iI ((d:Int)+1)] w (PostR9 b w A n c l (.bad j er))):=zz (by
      have:=HR.out (strong (sg l p1)+1) (p1+1) (d+1) _ (by omega) (by omega) (by omega) (by omega) h3;rw[←HST.out] at this;exact this)
     have HER:=zz hwk.2.2;clear hp hpl hm hd h1 h2 h3 hpos hp1 hwk hkp;go_wp2_with (first | (go_at_call 159;((with_reducible refine(KS.out _ HL.out.mid.rd).mono ?_);rintro e w3 ⟨rfl,hb3⟩;have HL3:=zz (HL.out.low hlt hb3);clear hb3 KS)) | (go_at_call 136;go_must ((with_reducible refine(KT.out _).mono ?_);rintro e w' ⟨rfl,rfl⟩)) | (go_at_call 159;go_must ((with_reducible refine(KS2.out _ HL3.out.mid.rd).mono ?_);rintro e w4 ⟨rfl,hb4⟩;have HL4:=zz (HL3.out.low hlt hb4);clear hb4;obtain⟨d0,d1,d2,d3,d4,_⟩:=HL4.out.mid.boxQ;obtain⟨e0,e1,e2,e3,e4⟩:=HL4.out.mid.boxQ.freed;have hz1:=HL4.out.mid.rd.c1;have hz2:=HL4.out.mid.rd.c2;have hz3:=HL4.out.mid.rd.f1)) | (go_at_call 135;go_must ((with_reducible refine(K.out _ (HL4.out.mid.rd.placez (p1+1) ((p1:Int)+1) (by omega))).mono ?_);rintro e w6 ⟨hg6,⟨v0,v1,v2,v3,A4,n4,c4,rfl⟩,hr6⟩;have HG:=zz (z0n (z01 b 1 _ (.int .i64 ((p1:Int)+1))) hg6);have HR6:=zz hr6;clear hr6;have HBX:=zz (HL4.out.box.grown (z0n (z01 b 1 _ (.int .i64 ((p1:Int)+1))) hg6) (by have:=HC.out;omega));have hl6:w2.heap.size<w6.heap.size:=(by have:=HL4.out.lt;have:=(HG.out).size;omega);clear hg6;obtain⟨d0,d1,d2,d3,d4,_⟩:=HBX.out;obtain⟨e0,e1,e2,e3,e4⟩:=HBX.out.freed)))
     go_roundw
     case rel=>exact .inr ⟨j,er,HL4.out.fell hlt HC.out HG.out HR6.out rfl HER.out ((z0a _ _ _).mono (by simp))⟩
     case measure=>
      refine Nat.lt_of_le_of_lt (Nat.le_of_eq (y7j (HL4.out.fell hlt HC.out HG.out HR6.out rfl HER.out ((z0a _ _ _).mono (by simp))).mid.rd (by rcases HER.out with e | e <;> omega))) ?_;rw[y0l HL.out.mid.rd];have:=HL.out.hi;have:=HLN.out;omega
  ·have HL:=zz hl
   have he:=hl.err;obtain rfl:=hl.res;obtain⟨v0,v1,v2,v3,A4,n4,c4,hbx⟩:=hl.box;have q1:((er:Int)==0)=false:=by simp;omega
   have q2:(er==0)=false:=by simp;omega
   obtain⟨d0,d1,d2,d3,d4,_⟩:=hl.mid.boxQ;obtain⟨e0,e1,e2,e3,e4⟩:=hl.mid.boxQ.freed;obtain⟨g0,g1,g2,g3,g4,_⟩:=hbx;have hz2:=hl.mid.rd.c2;clear hp hm hd hl he;go_wp2;obtain⟨W3,hW3⟩:∃ W3,W3=put5 wr w.heap.size (.int .i64 v0) (.int .i64 v1) (.string v2) (.string v3) (.slice A4 n4 c4):=⟨_,rfl⟩;have HE:EndX b w W3 A n c l j er (.int .i64 v0) (.int .i64 v1) (.string v2) (.string v3) (.slice A4 n4 c4):=HL.out.mid.fin hlt (by rw[hW3];exact Below.refl _ _);unfold put5 at hW3;rw[←hW3];clear hW3 d0 d1 d2 d3 d4;obtain⟨d0,d1,d2,d3,d4,_⟩:=HE.box;exact bodyPost_ret (v:= .agg #[v0,v1,v2,v3,.slice A4 n4 c4]) (by simp[results,Tryz.results135,go_sem,d0,d1,d2,d3,d4]) rfl ⟨HE.grown,⟨v0,v1,v2,v3,A4,n4,c4,rfl⟩,HE.rd⟩
theorem y4x (b:Nat) (w:World) (A:OA) (n c:Nat) (l:List Tok) (m k d:Nat) (h:RdrX b w A n c l k 0) (j er:Nat) (he:er≠0) (HOne:XOne b A n c l k d (.bad j er)):
  Cz 135 #[pP b,m,d] w (PostR9 b w A n c l (.bad j er)):=by
 have hlt:=h.lt;have HM0:=zz (MidX.first h);have K1:Hid (∀ w,RdrX b w A n c l k 0→Cz 158 #[pP b,d] w (PostR9 b w A n c l (.bad j er))):=zz HOne;have q1:((er:Int)==0)=false:=by simp;omega
 have q2:(er==0)=false:=by simp;omega
 clear h HOne he;go_enter Tryz.func135,Tryz.ntmps135;go_wp2_with (go_at_call 158;go_must ((with_reducible refine(K1.out _ HM0.out.rd).mono ?_);rintro e w2 ⟨hg2,⟨v0,v1,v2,v3,A4,n4,c4,rfl⟩,hr2⟩;have HM2:=zz ((HM0.out.more hlt hg2 hr2).low hlt (z0b _ (.cells #[v0,v1,v2,v3,.slice A4 n4 c4] 38)));clear hg2 hr2));obtain⟨W2,hW2⟩:∃ W2,W2=w2.alloc (.cells #[v0,v1,v2,v3,.slice A4 n4 c4] 38):=⟨_,rfl⟩;have HB2:Hid (Box5 W2 w2.heap.size (.int .i64 v0) (.int .i64 v1) (.string v2) (.string v3) (.slice A4 n4 c4)):=zz (by rw[hW2];exact Box5.new w2 _ _ _ _ _ _);rw[←hW2] at HM2 ⊢;clear hW2
 go_loopw [8] (fun _ wr=>wr=W2) (fun _ _=>0)
 case atStart=>exact rfl
 case round=>
  subst hrel;obtain⟨d0,d1,d2,d3,d4,_⟩:=HM2.out.boxQ;obtain⟨e0,e1,e2,e3,e4⟩:=HM2.out.boxQ.freed;obtain⟨g0,g1,g2,g3,g4,_⟩:=HB2.out;have hz2:=HM2.out.rd.c2;go_wp2;obtain⟨W3,hW3⟩:∃ W3,W3=put5 wr w.heap.size (.int .i64 v0) (.int .i64 v1) (.string v2) (.string v3) (.slice A4 n4 c4):=⟨_,rfl⟩;have HE:EndX b w W3 A n c l j er (.int .i64 v0) (.int .i64 v1) (.string v2) (.string v3) (.slice A4 n4 c4):=HM2.out.fin hlt (by rw[hW3];exact Below.refl _ _);unfold put5 at hW3;rw[←hW3];clear hW3 d0 d1 d2 d3 d4;obtain⟨d0,d1,d2,d3,d4,_⟩:=HE.box;exact bodyPost_ret (v:= .agg #[v0,v1,v2,v3,.slice A4 n4 c4]) (by simp[results,Tryz.results135,go_sem,d0,d1,d2,d3,d4]) rfl ⟨HE.grown,⟨v0,v1,v2,v3,A4,n4,c4,rfl⟩,HE.rd⟩
theorem y8l (b:Nat) (A:OA) (n c:Nat) (l:List Tok) (hl:l.length≤1000000):∀ N k,l.length - k≤N→k≤l.length→
  (∀ d r,d≤64→RdE l .one k d r→XOne b A n c l k d r)∧∀ m d r,d≤64→1≤m→RdE l (.some m) k d r→XRow b A n c l m k d r:=by
 intro N
 induction N with
 | zero=>
   intro k hN hk;have hs:sg l k=[]:=z7p (by omega)
   have one:∀ d r,d≤64→RdE l .one k d r→XOne b A n c l k d r:=by
    intro d r _ h w hw;have hnone:RdE l .one k d (.bad k 1):= .none (by rw[hs];simp[pre3]) (fun t ht=>by rw[List.getElem?_eq_none (by omega)] at ht;cases ht);obtain rfl:=h.det hnone;exact y2d b w A n c l k d hw (by omega)
   refine⟨one,fun m d r hd _ h=>?_⟩
   cases h with
   | some h1 _=>have:=(h1.within trivial (by omega)).1;have:=h1.goes trivial (by omega) trivial _ _ rfl;have:=(h1.within trivial (by omega)).2;omega
   | @someBad _ _ _ j e h1=>
     intro w hw;have he:=(h1.within trivial (by omega)).2.2;exact y4x b w A n c l m k d hw j e (by rcases he with e | e <;> omega) (one d _ hd h1)
 | succ N ih=>
   intro k hN hk
   have one:∀ d r,d≤64→RdE l .one k d r→XOne b A n c l k d r:=by
    intro d r hd h w hw
    cases h with
    | deep h1 h2=>exact y7s b w A n c l k d hw h2 h1
    | @par _ _ x j h1 h2 h3 h4=>
      have hk1:k<l.length:=sg_lt (by rw[h1];decide);exact y8z b w A n c l k d hw hl hk h2 x j (h3.within (Nat.le_refl 1) (by omega)).2 h1 h4 ((ih (k+1) (by omega) (by omega)).2 1 (d+1) _ (by omega) (Nat.le_refl 1) h3)
    | @parOpen _ _ x j h1 h2 h3 h4=>
      have hk1:k<l.length:=sg_lt (by rw[h1];decide);exact x0o b w A n c l k d hw hl hk h2 x j (h3.within (Nat.le_refl 1) (by omega)).2 h1 h4 ((ih (k+1) (by omega) (by omega)).2 1 (d+1) _ (by omega) (Nat.le_refl 1) h3)
    | @parBad _ _ j e h1 h2 h3=>
      have hk1:k<l.length:=sg_lt (by rw[h1];decide);exact y3p b w A n c l k d hw hl hk h2 j e (h3.within (Nat.le_refl 1) (by omega)).2.2 h1 ((ih (k+1) (by omega) (by omega)).2 1 (d+1) _ (by omega) (Nat.le_refl 1) h3)
    | @neg _ _ x j h1 h2 h3=>
      have hk1:k<l.length:=sg_lt (by rw[h1];decide);exact z67 b w A n c l k d hw hl hk h2 2 (.inl ⟨h1,rfl⟩) x j ((ih (k+1) (by omega) (by omega)).1 (d+1) _ (by omega) h3)
    | @not _ _ x j h1 h2 h3=>
      have hk1:k<l.length:=sg_lt (by rw[h1];decide);exact z67 b w A n c l k d hw hl hk h2 3 (.inr ⟨h1,rfl⟩) x j ((ih (k+1) (by omega) (by omega)).1 (d+1) _ (by omega) h3)
    | @unBad _ _ j e h1 h2 h3=>
      have hk1:k<l.length:=by rcases h1 with e | e <;> exact sg_lt (by rw[e];decide)
      rcases h1 with h1 | h1
      ·exact z6a b w A n c l k d hw hl hk h2 2 (.inl ⟨h1,rfl⟩) j e ((ih (k+1) (by omega) (by omega)).1 (d+1) _ (by omega) h3)
      ·exact z6a b w A n c l k d hw hl hk h2 3 (.inr ⟨h1,rfl⟩) j e ((ih (k+1) (by omega) (by omega)).1 (d+1) _ (by omega) h3)
    | num h1 h2=>exact x04 b w A n c l k d hw hl _ h1 h2
    | var h1 h2=>exact x2g b w A n c l k d hw hl _ h1 h2
    | none h1 h2=>
      by_cases hkl:k<l.length
      ·obtain⟨n2,n6⟩:=h2 _ (List.getElem?_eq_getElem hkl)
       exact y73 b w A n c l k d hw hl _ (List.getElem?_eq_getElem hkl) n2 n6 h1
      ·exact y2d b w A n c l k d hw (by omega)
   refine⟨one,fun m d r hd hm h=>?_⟩
   cases h with
   | @some _ _ _ x j _ h1 h2=>
     intro w hw;have hj:=(h1.within trivial (by omega)).2;have hg:=h1.goes trivial (by omega) trivial _ _ rfl;exact x4h b w A n c l m k d hw hl hd hm x j r (fun m' p' d' r' hp hpn hd' hm' h'=>(ih p' (by omega) hpn).2 m' d' r' hd' hm' h') (one d _ hd h1) ⟨hg,by omega⟩ h2
   | @someBad _ _ _ j e h1=>
     intro w hw;have he:=(h1.within trivial (by omega)).2.2;exact y4x b w A n c l m k d hw j e (by rcases he with e | e <;> omega) (one d _ hd h1)
theorem y70 {B:Nat} {w:World} {A:OA} {n:Nat} {l:List Tok} (h:RdT B w A n l):TokRow B w A l:=fun k t ht=>by
 have hl:=(List.getElem?_eq_some_iff.1 ht).1;obtain⟨ad,e,hlt,hc⟩:=h.2 (by have:=h.1;omega);obtain⟨A',c',h5,_⟩:=hc k t ht;exact⟨ad,A',c',e,hlt,h5⟩
theorem TokRow.up {B B':Nat} {w:World} {A:OA} {l:List Tok} (h:TokRow B w A l) (hB:B≤B'):TokRow B' w A l:=fun k t ht=>by
 obtain⟨ad,A',c',e,hlt,h5⟩:=h k t ht;exact⟨ad,A',c',e,by omega,h5⟩
theorem x0q {w:World} {A:OA} {n c:Nat} {l:List Tok} (k:Nat) (h:RdT w.heap.size w A n l) (o:Obj):
  RdrX (w.heap.size+1) ((w.alloc o).alloc (.cells #[.slice A n c,k,oZ] 163)) A n c l k 0:=by
 have hs:(w.alloc o).heap.size=w.heap.size+1:=z0j _ _;have hb:Below w.heap.size w ((w.alloc o).alloc (.cells #[.slice A n c,k,oZ] 163)):=z0a w _ _;refine⟨?_,?_,?_,?_,?_,((y70 h).keep fun p hp=>hb.cell hp).up (by omega),h.1⟩
 ·rw[←hs];exact z1e _ _ _ 0 _ rfl
 ·rw[←hs];exact z1e _ _ _ 1 _ rfl
 ·rw[←hs];exact z1e _ _ _ 2 _ rfl
 ·simp[go_sem]
 ·simp[go_sem]
structure ParX (w W:World) (cb:Nat) (A:OA) (n c:Nat) (l:List Tok) (j o:Nat) (x:Ex) (A2:OA) (c2:Nat):Prop where
 boxQ:Box5 W w.heap.size (.int .i64 0) oZ oS oS ()
 box:Box5 W cb (.int .i64 x.kind) (.int .i64 x.n) (.string ⟨x.name.toArray⟩) (.string ⟨x.op.toArray⟩) (.slice A2 x.kids.length c2)
 rd:RdrX (w.heap.size+1) W A n c l j o
 below:Below w.heap.size w W
 kids:KidsX (FrX (w.heap.size+2) W.heap.size) W A2 x
theorem x2e {w w1 w2:World} {ob:Obj} {A:OA} {n c:Nat} {l:List Tok} {j o:Nat} {x:Ex} {A2:OA} {c2:Nat} (h1:w1=(w.alloc zeroX).alloc ob) (hg:w1.grownBy w2 (some (w.heap.size+1))) (hr:RdrX (w.heap.size+1) w2 A n c l j o)
  (hk:KidsX (FrX w1.heap.size w2.heap.size) w2 A2 x):ParX w (w2.alloc (objX x A2 c2)) w2.heap.size A n c l j o x A2 c2:=by
 have hs1:w1.heap.size=w.heap.size+2:=by rw[h1,z0j,z0j]
 have hs:=z0j w2 (objX x A2 c2);have hsz:=hg.size;have hb1:Below w.heap.size w w1:=by rw[h1];exact z0a w _ _
 have hq:Box5 w1 w.heap.size (.int .i64 0) oZ oS oS ():=by rw[h1];exact(Box5.new w _ _ _ _ _ _).low (z0b _ _)
 rw[hs1] at hk;exact⟨(hq.grown hg (by omega)).low (z0b _ _),Box5.new w2 _ _ _ _ _ _,hr.box _,(hb1.trans (z1x hg (by omega) (by omega))).trans ((z0b _ _).mono (by omega)),(hk.allocX (fun q hq=>hq.2) _).to nR (by omega)⟩
structure ParY (w W:World) (A:OA) (n c:Nat) (l:List Tok) (j o:Nat):Prop where
 boxQ:Box5 W w.heap.size (.int .i64 0) oZ oS oS ()
 rd:RdrX (w.heap.size+1) W A n c l j o
 below:Below w.heap.size w W
theorem x08 {w w1 w2:World} {ob O2:Obj} {A:OA} {n c:Nat} {l:List Tok} {j o:Nat} (h1:w1=(w.alloc zeroX).alloc ob) (hg:w1.grownBy w2 (some (w.heap.size+1))) (hr:RdrX (w.heap.size+1) w2 A n c l j o):ParY w (w2.alloc O2) A n c l j o:=by
 have hs1:w1.heap.size=w.heap.size+2:=by rw[h1,z0j,z0j]
 have hsz:=hg.size;have hb1:Below w.heap.size w w1:=by rw[h1];exact z0a w _ _
 have hq:Box5 w1 w.heap.size (.int .i64 0) oZ oS oS ():=by rw[h1];exact(Box5.new w _ _ _ _ _ _).low (z0b _ _)
 exact⟨(hq.grown hg (by omega)).low (z0b _ _),hr.box _,(hb1.trans (z1x hg (by omega) (by omega))).trans ((z0b _ _).mono (by omega))⟩
theorem y3r (A:OA) (n c:Nat) (l:List Tok) (k:Nat) (w:World) (h:RdT w.heap.size w A n l) (hl:l.length≤1000000) (hk:k≤l.length) (r:Rs) (hr:RdE l (.some 1) k 0 r):
  Cz 111 #[.slice A n c,k] w (PostPF w r):=by
 have hn:=h.1;have HR0:Hid (∀ o,RdrX (w.heap.size+1) ((w.alloc o).alloc (.cells #[.slice A n c,k,oZ] 163)) A n c l k 0):=zz fun o=>x0q k h o
 have HK:=(y8l (w.heap.size+1) A n c l hl (l.length - k) k nR hk).2 1 0 r (by omega) (Nat.le_refl 1) hr;have q1:¬ (k:Int)<0:=by omega
 have q2:¬ (n:Int)<k:=by omega
 cases r with
 | ok x j=>
   have K:Hid (∀ w',RdrX (w.heap.size+1) w' A n c l k 0→Cz 135 #[.pointer (some ⟨w.heap.size+1,0,none⟩),iI 1,oZ] w' (PostR9 (w.heap.size+1) w' A n c l (.ok x j))):=zz HK;clear HK h hl hk hr hn;go_enter Tryz.func111,Tryz.ntmps111;go_wp2_with (go_at_call 135;go_must ((with_reducible refine(K.out _ (HR0.out _)).mono ?_);rintro e w2 ⟨hg2,⟨A2,c2,rfl,hk2⟩,hr2⟩;have HQ2:=zz (x2e (c2:=c2) (by rfl) hg2 hr2 hk2);have hy2:=hr2.c2;have hylt:=hr2.lt;clear hg2 hr2 hk2));obtain⟨W2,hW2⟩:∃ W2,W2=w2.alloc (objX x A2 c2):=⟨_,rfl⟩;have HQ:Hid (ParX w W2 w2.heap.size A n c l j 0 x A2 c2):=zz (by rw[hW2];exact HQ2.out);rw[←hW2];clear hW2 HQ2 hy2 hylt;have hz0:=HQ.out.rd.c0;have hz1:=HQ.out.rd.c1;have hz2:=HQ.out.rd.c2;obtain⟨d0,d1,d2,d3,d4,_⟩:=HQ.out.boxQ;obtain⟨e0,e1,e2,e3,e4⟩:=HQ.out.boxQ.freed;obtain⟨g0,g1,g2,g3,g4,_⟩:=HQ.out.box
   go_region
   go_wp2;obtain⟨W3,hW3⟩:∃ W3,W3=put5 W2 w.heap.size (.int .i64 x.kind) (.int .i64 x.n) (.string ⟨x.name.toArray⟩) (.string ⟨x.op.toArray⟩) (.slice A2 x.kids.length c2):=⟨_,rfl⟩;have hbx:Box5 W3 w.heap.size (.int .i64 x.kind) (.int .i64 x.n) (.string ⟨x.name.toArray⟩) (.string ⟨x.op.toArray⟩) (.slice A2 x.kids.length c2):=by rw[hW3];exact HQ.out.boxQ.put _ _ _ _ _
   have hbl:Below w.heap.size w W3.drew:=by
    rw[hW3];exact(((((HQ.out.below.setCell nR _).setCell nR _).setCell nR _).setCell nR _).setCell nR _).drew
   have hkd:KidsX (FrX w.heap.size W3.drew.heap.size) W3.drew A2 x:=by
    have hs3:W3.drew.heap.size=W2.heap.size:=by show W3.heap.size=_;rw[hW3,z0y]
    rw[hs3];exact((HQ.out.kids.put5 (c:=w.heap.size) (fun hq=>by have:=hq.1;omega) (.int .i64 x.kind) (.int .i64 x.n) (.string ⟨x.name.toArray⟩) (.string ⟨x.op.toArray⟩) (.slice A2 x.kids.length c2)).over (w':=W3.drew) (fun _ _=>by rw[hW3];rfl)).wide fun q hq=>⟨by have:=hq.1;omega,hq.2⟩
   unfold put5 at hW3;rw[←hW3];clear hW3 d0 d1 d2 d3 d4;obtain⟨d0,d1,d2,d3,d4,_⟩:=hbx;exact bodyPost_ret (v:= .tuple #[.agg #[x.kind,x.n,x.name,x.op,.slice A2 x.kids.length c2],j,oZ]) (by simp[results,Tryz.results111,go_sem,d0,d1,d2,d3,d4]) rfl ⟨hbl,A2,c2,rfl,hkd⟩
 | bad j er=>
   have K:Hid (∀ w',RdrX (w.heap.size+1) w' A n c l k 0→Cz 135 #[.pointer (some ⟨w.heap.size+1,0,none⟩),iI 1,oZ] w' (PostR9 (w.heap.size+1) w' A n c l (.bad j er))):=zz HK;have he:=(hr.within (Nat.le_refl 1) hk).2.2;have q3:((er:Int) != 0)=true:=by simp;omega
   have q4:(er != 0)=true:=by simp;omega
   clear HK h hl hk hr hn he;go_enter Tryz.func111,Tryz.ntmps111;go_wp2_with (go_at_call 135;go_must ((with_reducible refine(K.out _ (HR0.out _)).mono ?_);rintro e w2 ⟨hg2,⟨v0,v1,v2,v3,A4,n4,c4,rfl⟩,hr2⟩;have HQ2:=zz (x08 (O2:= .cells #[v0,v1,v2,v3,.slice A4 n4 c4] 38) (by rfl) hg2 hr2);have hy2:=hr2.c2;have hylt:=hr2.lt;clear hg2 hr2));obtain⟨W2,hW2⟩:∃ W2,W2=w2.alloc (.cells #[v0,v1,v2,v3,.slice A4 n4 c4] 38):=⟨_,rfl⟩;have HQ:Hid (ParY w W2 A n c l j er):=zz (by rw[hW2];exact HQ2.out);rw[←hW2];clear hW2 HQ2 hy2 hylt;have hz0:=HQ.out.rd.c0;have hz1:=HQ.out.rd.c1;have hz2:=HQ.out.rd.c2;obtain⟨d0,d1,d2,d3,d4,_⟩:=HQ.out.boxQ;obtain⟨e0,e1,e2,e3,e4⟩:=HQ.out.boxQ.freed
   go_region
   go_wp2;obtain⟨W3,hW3⟩:∃ W3,W3=put5 W2 w.heap.size (.int .i64 0) oZ oS oS ():=⟨_,rfl⟩;have hbx:Box5 W3 w.heap.size (.int .i64 0) oZ oS oS ():=by rw[hW3];exact HQ.out.boxQ.put _ _ _ _ _
   have hbl:Below w.heap.size w W3.drew:=by
    rw[hW3];exact(((((HQ.out.below.setCell nR _).setCell nR _).setCell nR _).setCell nR _).setCell nR _).drew
   unfold put5 at hW3;rw[←hW3];clear hW3 d0 d1 d2 d3 d4;obtain⟨d0,d1,d2,d3,d4,_⟩:=hbx;exact bodyPost_ret (v:= .tuple #[.agg #[oZ,oZ,oS,oS,()],j,er]) (by simp[results,Tryz.results111,go_sem,d0,d1,d2,d3,d4]) rfl ⟨hbl,rfl⟩
theorem y9o {X:BA} {b:Bool} (h:(X.toList==[])=b):(X.toList != [])= !b:=by rw[bne,h]
theorem y4t (X:BA):X.toList.isEmpty=(X.toList==[]):=by cases X.toList <;> rfl
theorem y82 (r:Ex) (A:OA) (c:Nat) (w:World) (hnm:r.name.length≤1000000):
  Cz 137 #[valX r A c] w fun e w'=>e= .returned (.bool (shapeX r.kind r.n r.name r.op r.kids.length))∧Below w.heap.size w w':=by
 obtain⟨k,n,nm,op,ks⟩:=r;simp only[valX,Ex.kind,Ex.n,Ex.name,Ex.op,Ex.kids] at hnm ⊢;obtain⟨v,hv⟩:∃ v,v=shapeX k n nm op ks.length:=⟨_,rfl⟩;rw[←hv];unfold shapeX at hv;obtain⟨X,rfl,eX⟩:=ba_of nm;obtain⟨Y,rfl,eY⟩:=ba_of op;rw[eX,eY]
 have hXs:X.size≤4611686018427387904:=by
  have:X.toList.length=X.size:=by rw[toList_data];exact z0d X
  omega
 have KN:Hid (∀ w,Cz 99 #[X] w fun e w'=>e= .returned (.bool (isName X.toList))∧w=w'):=zz fun w=>by rw[toList_data];exact z5l X hXs w
 have KS:Hid (∀ w,Cz 154 #[Y] w fun e w'=>e= .returned (.int .i64 (strong Y.toList))∧w=w'):=zz fun w=>by rw[toList_data];exact z3o Y w
 obtain⟨b1,hb1⟩:∃ b,b=isName X.toList:=⟨_,rfl⟩;obtain⟨b2,hb2⟩:∃ b,b=strong Y.toList:=⟨_,rfl⟩;rw[←hb1] at KN hv;rw[←hb2] at KS hv;clear hb1 hb2 eX eY hXs hnm;obtain⟨m,hm⟩:∃ m,m=ks.length:=⟨_,rfl⟩;rw[←hm] at hv ⊢;clear hm;obtain⟨x,hx⟩:∃ x,(X.toList==[])=x:=⟨_,rfl⟩;obtain⟨y,hy⟩:∃ y,(Y.toList==[])=y:=⟨_,rfl⟩;rw[y4t,y4t,hx,hy] at hv;have hx':=y9o hx;have hy':=y9o hy;by_cases k0:k=0
 ·subst k0
  by_cases hn:0≤n
  ·have n1:decide ((0:Int)≤n)=true:=by simpa using hn
   by_cases hm0:m=0
   ·subst hm0
    cases x <;> cases y
    all_goals
     simp[hn] at hv;subst hv;go_enter Tryz.func137,Tryz.ntmps137;go_wp2_with (first | (go_at_call 99;((with_reducible refine(KN.out _).mono ?_));rintro e w1 ⟨rfl,rfl⟩) | (go_at_call 154;((with_reducible refine(KS.out _).mono ?_));rintro e w1 ⟨rfl,rfl⟩));go_ret;exact⟨rfl,z0b _ _⟩
   ·have m1:((m:Int)==0)=false:=by simp;omega
    have m2:(m==0)=false:=by simp;omega
    cases x <;> cases y
    all_goals
     simp[hn,m2] at hv;subst hv;go_enter Tryz.func137,Tryz.ntmps137;go_wp2_with (first | (go_at_call 99;((with_reducible refine(KN.out _).mono ?_));rintro e w1 ⟨rfl,rfl⟩) | (go_at_call 154;((with_reducible refine(KS.out _).mono ?_));rintro e w1 ⟨rfl,rfl⟩));go_ret;exact⟨rfl,z0b _ _⟩
  ·have n1:decide ((0:Int)≤n)=false:=by simpa using hn
   by_cases hm0:m=0
   ·subst hm0
    cases x <;> cases y
    all_goals
     simp[hn] at hv;subst hv;go_enter Tryz.func137,Tryz.ntmps137;go_wp2_with (first | (go_at_call 99;((with_reducible refine(KN.out _).mono ?_));rintro e w1 ⟨rfl,rfl⟩) | (go_at_call 154;((with_reducible refine(KS.out _).mono ?_));rintro e w1 ⟨rfl,rfl⟩));go_ret;exact⟨rfl,z0b _ _⟩
   ·have m1:((m:Int)==0)=false:=by simp;omega
    have m2:(m==0)=false:=by simp;omega
    cases x <;> cases y
    all_goals
     simp[hn,m2] at hv;subst hv;go_enter Tryz.func137,Tryz.ntmps137;go_wp2_with (first | (go_at_call 99;((with_reducible refine(KN.out _).mono ?_));rintro e w1 ⟨rfl,rfl⟩) | (go_at_call 154;((with_reducible refine(KS.out _).mono ?_));rintro e w1 ⟨rfl,rfl⟩));go_ret;exact⟨rfl,z0b _ _⟩
 by_cases k1:k=1
 ·subst k1
  by_cases hn:n=0
  ·subst hn
   by_cases hm0:m=0
   ·subst hm0
    cases x <;> cases y <;> cases b1
    all_goals
     simp[] at hv;subst hv;go_enter Tryz.func137,Tryz.ntmps137;go_wp2_with (first | (go_at_call 99;((with_reducible refine(KN.out _).mono ?_));rintro e w1 ⟨rfl,rfl⟩) | (go_at_call 154;((with_reducible refine(KS.out _).mono ?_));rintro e w1 ⟨rfl,rfl⟩));go_ret;exact⟨rfl,z0b _ _⟩
   ·have m1:((m:Int)==0)=false:=by simp;omega
    have m2:(m==0)=false:=by simp;omega
    cases x <;> cases y <;> cases b1
    all_goals
     simp[m2] at hv;subst hv;go_enter Tryz.func137,Tryz.ntmps137;go_wp2_with (first | (go_at_call 99;((with_reducible refine(KN.out _).mono ?_));rintro e w1 ⟨rfl,rfl⟩) | (go_at_call 154;((with_reducible refine(KS.out _).mono ?_));rintro e w1 ⟨rfl,rfl⟩));go_ret;exact⟨rfl,z0b _ _⟩
  ·have n1:(n != 0)=true:=by simpa using hn
   by_cases hm0:m=0
   ·subst hm0
    cases x <;> cases y <;> cases b1
    all_goals
     simp[hn] at hv;subst hv;go_enter Tryz.func137,Tryz.ntmps137;go_wp2_with (first | (go_at_call 99;((with_reducible refine(KN.out _).mono ?_));rintro e w1 ⟨rfl,rfl⟩) | (go_at_call 154;((with_reducible refine(KS.out _).mono ?_));rintro e w1 ⟨rfl,rfl⟩));go_ret;exact⟨rfl,z0b _ _⟩
   ·have m1:((m:Int)==0)=false:=by simp;omega
    have m2:(m==0)=false:=by simp;omega
    cases x <;> cases y <;> cases b1
    all_goals
     simp[hn,m2] at hv;subst hv;go_enter Tryz.func137,Tryz.ntmps137;go_wp2_with (first | (go_at_call 99;((with_reducible refine(KN.out _).mono ?_));rintro e w1 ⟨rfl,rfl⟩) | (go_at_call 154;((with_reducible refine(KS.out _).mono ?_));rintro e w1 ⟨rfl,rfl⟩));go_ret;exact⟨rfl,z0b _ _⟩
 by_cases k2:k=2
 ·subst k2
  by_cases hn:n=0
  ·subst hn
   by_cases hm0:m=1
   ·subst hm0
    cases x <;> cases y
    all_goals
     simp[] at hv;subst hv;go_enter Tryz.func137,Tryz.ntmps137;go_wp2_with (first | (go_at_call 99;((with_reducible refine(KN.out _).mono ?_));rintro e w1 ⟨rfl,rfl⟩) | (go_at_call 154;((with_reducible refine(KS.out _).mono ?_));rintro e w1 ⟨rfl,rfl⟩));go_ret;exact⟨rfl,z0b _ _⟩
   ·have m1:((m:Int)==1)=false:=by simp;omega
    have m2:(m==1)=false:=by simp;omega
    cases x <;> cases y
    all_goals
     simp[m2] at hv;subst hv;go_enter Tryz.func137,Tryz.ntmps137;go_wp2_with (first | (go_at_call 99;((with_reducible refine(KN.out _).mono ?_));rintro e w1 ⟨rfl,rfl⟩) | (go_at_call 154;((with_reducible refine(KS.out _).mono ?_));rintro e w1 ⟨rfl,rfl⟩));go_ret;exact⟨rfl,z0b _ _⟩
  ·have n1:(n != 0)=true:=by simpa using hn
   by_cases hm0:m=1
   ·subst hm0
    cases x <;> cases y
    all_goals
     simp[hn] at hv;subst hv;go_enter Tryz.func137,Tryz.ntmps137;go_wp2_with (first | (go_at_call 99;((with_reducible refine(KN.out _).mono ?_));rintro e w1 ⟨rfl,rfl⟩) | (go_at_call 154;((with_reducible refine(KS.out _).mono ?_));rintro e w1 ⟨rfl,rfl⟩));go_ret;exact⟨rfl,z0b _ _⟩
   ·have m1:((m:Int)==1)=false:=by simp;omega
    have m2:(m==1)=false:=by simp;omega
    cases x <;> cases y
    all_goals
     simp[hn,m2] at hv;subst hv;go_enter Tryz.func137,Tryz.ntmps137;go_wp2_with (first | (go_at_call 99;((with_reducible refine(KN.out _).mono ?_));rintro e w1 ⟨rfl,rfl⟩) | (go_at_call 154;((with_reducible refine(KS.out _).mono ?_));rintro e w1 ⟨rfl,rfl⟩));go_ret;exact⟨rfl,z0b _ _⟩
 by_cases k3:k=3
 ·subst k3
  by_cases hn:n=0
  ·subst hn
   by_cases hm0:m=1
   ·subst hm0
    cases x <;> cases y
    all_goals
     simp[] at hv;subst hv;go_enter Tryz.func137,Tryz.ntmps137;go_wp2_with (first | (go_at_call 99;((with_reducible refine(KN.out _).mono ?_));rintro e w1 ⟨rfl,rfl⟩) | (go_at_call 154;((with_reducible refine(KS.out _).mono ?_));rintro e w1 ⟨rfl,rfl⟩));go_ret;exact⟨rfl,z0b _ _⟩
   ·have m1:((m:Int)==1)=false:=by simp;omega
    have m2:(m==1)=false:=by simp;omega
    cases x <;> cases y
    all_goals
     simp[m2] at hv;subst hv;go_enter Tryz.func137,Tryz.ntmps137;go_wp2_with (first | (go_at_call 99;((with_reducible refine(KN.out _).mono ?_));rintro e w1 ⟨rfl,rfl⟩) | (go_at_call 154;((with_reducible refine(KS.out _).mono ?_));rintro e w1 ⟨rfl,rfl⟩));go_ret;exact⟨rfl,z0b _ _⟩
  ·have n1:(n != 0)=true:=by simpa using hn
   by_cases hm0:m=1
   ·subst hm0
    cases x <;> cases y
    all_goals
     simp[hn] at hv;subst hv;go_enter Tryz.func137,Tryz.ntmps137;go_wp2_with (first | (go_at_call 99;((with_reducible refine(KN.out _).mono ?_));rintro e w1 ⟨rfl,rfl⟩) | (go_at_call 154;((with_reducible refine(KS.out _).mono ?_));rintro e w1 ⟨rfl,rfl⟩));go_ret;exact⟨rfl,z0b _ _⟩
   ·have m1:((m:Int)==1)=false:=by simp;omega
    have m2:(m==1)=false:=by simp;omega
    cases x <;> cases y
    all_goals
     simp[hn,m2] at hv;subst hv;go_enter Tryz.func137,Tryz.ntmps137;go_wp2_with (first | (go_at_call 99;((with_reducible refine(KN.out _).mono ?_));rintro e w1 ⟨rfl,rfl⟩) | (go_at_call 154;((with_reducible refine(KS.out _).mono ?_));rintro e w1 ⟨rfl,rfl⟩));go_ret;exact⟨rfl,z0b _ _⟩
 by_cases k4:k=4
 ·subst k4
  by_cases hn:n=0
  ·subst hn
   by_cases hm0:m=2
   ·subst hm0
    by_cases hb:b2=0
    ·subst hb
     cases x <;> cases y
     all_goals
      simp[] at hv;subst hv;go_enter Tryz.func137,Tryz.ntmps137;go_wp2_with (first | (go_at_call 99;((with_reducible refine(KN.out _).mono ?_));rintro e w1 ⟨rfl,rfl⟩) | (go_at_call 154;((with_reducible refine(KS.out _).mono ?_));rintro e w1 ⟨rfl,rfl⟩));go_ret;exact⟨rfl,z0b _ _⟩
    ·have b3:((b2:Int) != 0)=true:=by simp;omega
     have b4:(b2 != 0)=true:=by simp;omega
     cases x <;> cases y
     all_goals
      simp[b4] at hv;subst hv;go_enter Tryz.func137,Tryz.ntmps137;go_wp2_with (first | (go_at_call 99;((with_reducible refine(KN.out _).mono ?_));rintro e w1 ⟨rfl,rfl⟩) | (go_at_call 154;((with_reducible refine(KS.out _).mono ?_));rintro e w1 ⟨rfl,rfl⟩));go_ret;exact⟨rfl,z0b _ _⟩
   ·have m1:((m:Int)==2)=false:=by simp;omega
    have m2:(m==2)=false:=by simp;omega
    by_cases hb:b2=0
    ·subst hb
     cases x <;> cases y
     all_goals
      simp[m2] at hv;subst hv;go_enter Tryz.func137,Tryz.ntmps137;go_wp2_with (first | (go_at_call 99;((with_reducible refine(KN.out _).mono ?_));rintro e w1 ⟨rfl,rfl⟩) | (go_at_call 154;((with_reducible refine(KS.out _).mono ?_));rintro e w1 ⟨rfl,rfl⟩));go_ret;exact⟨rfl,z0b _ _⟩
    ·have b3:((b2:Int) != 0)=true:=by simp;omega
     have b4:(b2 != 0)=true:=by simp;omega
     cases x <;> cases y
     all_goals
      simp[m2] at hv;subst hv;go_enter Tryz.func137,Tryz.ntmps137;go_wp2_with (first | (go_at_call 99;((with_reducible refine(KN.out _).mono ?_));rintro e w1 ⟨rfl,rfl⟩) | (go_at_call 154;((with_reducible refine(KS.out _).mono ?_));rintro e w1 ⟨rfl,rfl⟩));go_ret;exact⟨rfl,z0b _ _⟩
  ·have n1:(n != 0)=true:=by simpa using hn
   by_cases hm0:m=2
   ·subst hm0
    by_cases hb:b2=0
    ·subst hb
     cases x <;> cases y
     all_goals
      simp[hn] at hv;subst hv;go_enter Tryz.func137,Tryz.ntmps137;go_wp2_with (first | (go_at_call 99;((with_reducible refine(KN.out _).mono ?_));rintro e w1 ⟨rfl,rfl⟩) | (go_at_call 154;((with_reducible refine(KS.out _).mono ?_));rintro e w1 ⟨rfl,rfl⟩));go_ret;exact⟨rfl,z0b _ _⟩
    ·have b3:((b2:Int) != 0)=true:=by simp;omega
     have b4:(b2 != 0)=true:=by simp;omega
     cases x <;> cases y
     all_goals
      simp[hn] at hv;subst hv;go_enter Tryz.func137,Tryz.ntmps137;go_wp2_with (first | (go_at_call 99;((with_reducible refine(KN.out _).mono ?_));rintro e w1 ⟨rfl,rfl⟩) | (go_at_call 154;((with_reducible refine(KS.out _).mono ?_));rintro e w1 ⟨rfl,rfl⟩));go_ret;exact⟨rfl,z0b _ _⟩
   ·have m1:((m:Int)==2)=false:=by simp;omega
    have m2:(m==2)=false:=by simp;omega
    by_cases hb:b2=0
    ·subst hb
     cases x <;> cases y
     all_goals
      simp[hn,m2] at hv;subst hv;go_enter Tryz.func137,Tryz.ntmps137;go_wp2_with (first | (go_at_call 99;((with_reducible refine(KN.out _).mono ?_));rintro e w1 ⟨rfl,rfl⟩) | (go_at_call 154;((with_reducible refine(KS.out _).mono ?_));rintro e w1 ⟨rfl,rfl⟩));go_ret;exact⟨rfl,z0b _ _⟩
    ·have b3:((b2:Int) != 0)=true:=by simp;omega
     have b4:(b2 != 0)=true:=by simp;omega
     cases x <;> cases y
     all_goals
      simp[hn,m2] at hv;subst hv;go_enter Tryz.func137,Tryz.ntmps137;go_wp2_with (first | (go_at_call 99;((with_reducible refine(KN.out _).mono ?_));rintro e w1 ⟨rfl,rfl⟩) | (go_at_call 154;((with_reducible refine(KS.out _).mono ?_));rintro e w1 ⟨rfl,rfl⟩));go_ret;exact⟨rfl,z0b _ _⟩
 have q0:(k==0)=false:=by simpa using k0
 have q1:(k==1)=false:=by simpa using k1
 have q2:(k==2)=false:=by simpa using k2
 have q3:(k==3)=false:=by simpa using k3
 have q4:(k==4)=false:=by simpa using k4
 have r0:(k != 0)=true:=by simpa using k0
 have r1:(k != 1)=true:=by simpa using k1
 have r4:(k != 4)=true:=by simpa using k4
 simp[k0,k1,k2,k3,k4] at hv;subst hv;clear k0 k1 k2 k3 k4;by_cases hn:n=0
 ·subst hn
  cases x <;> cases y
  all_goals
   go_enter Tryz.func137,Tryz.ntmps137;go_wp2_with (first | (go_at_call 99;((with_reducible refine(KN.out _).mono ?_));rintro e w1 ⟨rfl,rfl⟩) | (go_at_call 154;((with_reducible refine(KS.out _).mono ?_));rintro e w1 ⟨rfl,rfl⟩));go_ret;exact⟨rfl,z0b _ _⟩
 ·have n1:(n != 0)=true:=by simpa using hn
  clear hn
  cases x <;> cases y
  all_goals
   go_enter Tryz.func137,Tryz.ntmps137;go_wp2_with (first | (go_at_call 99;((with_reducible refine(KN.out _).mono ?_));rintro e w1 ⟨rfl,rfl⟩) | (go_at_call 154;((with_reducible refine(KS.out _).mono ?_));rintro e w1 ⟨rfl,rfl⟩));go_ret;exact⟨rfl,z0b _ _⟩
theorem z9j (r:Ex):∀ (A:OA) (c d:Nat) (w:World),KidsX (LtX w.heap.size) w A r→d≤64→nmX r≤1000000→sizeX r≤1000000→
  Cz 114 #[valX r A c,d] w fun e w'=>e= .returned (.bool (mayX r d))∧Below w.heap.size w w':=by
 induction r using Ex.ind with
 | h k n nm op ks ih=>
   intro A c d w hk hd hnm hsz;have KH:Hid (∀ w,Cz 137 #[valX (Ex.mk k n nm op ks) A c] w fun e w'=>e= .returned (.bool (shapeX k n nm op ks.length))∧Below w.heap.size w w'):=zz fun w=>y82 (Ex.mk k n nm op ks) A c w (by rw[nmX] at hnm;show nm.length≤_;omega)
   obtain⟨v,hv⟩:∃ v,v=mayX (Ex.mk k n nm op ks) d:=⟨_,rfl⟩;rw[←hv];rw[mayX] at hv;rw[nmX] at hnm;rw[sizeX] at hsz;have hml:=z56 ks;have HNM:=zz hnm;have HSZ:=zz hsz;simp only[valX] at KH ⊢;generalize (⟨nm.toArray⟩:BA)=X at KH ⊢;generalize (⟨op.toArray⟩:BA)=Y at KH ⊢;generalize shapeX k n nm op ks.length=sh at KH hv;obtain⟨m,hm⟩:∃ m,m=ks.length:=⟨_,rfl⟩;rw[←hm] at KH hml ⊢;have hm9:m≤1000000:=by omega
   have he:ks.isEmpty=decide (m=0):=by rw[hm];cases ks <;> simp
   rw[he] at hv;have HM:=zz hm;have HK:=zz hk;have HI:=zz ih;clear hk ih hm he hnm hsz hml
   cases sh with
   | false=>
     have HX:Hid (v=false):=zz (by rw[hv];rfl);clear hv;go_enter Tryz.func114,Tryz.ntmps114;go_wp2_with (go_at_call 137;go_must ((with_reducible refine(KH.out _).mono ?_);rintro e w1 ⟨rfl,hb1⟩;have HB1:=zz ((z0b w (.cells #[k,n,X,Y,.slice A m c] 38)).trans (hb1.mono (by simp)));clear hb1));go_ret;exact⟨z0c HX.out.symm,HB1.out⟩
   | true=>
     by_cases hbad:m≠0∧d=64
     ·obtain⟨hm0,rfl⟩:=hbad
      have HX:Hid (v=false):=zz (by rw[hv];simp[hm0]);have q1:decide ((0:Int)<(m:Int))=true:=by simp;omega
      have q2:decide (0<m)=true:=by simp;omega
      clear hv hm0;go_enter Tryz.func114,Tryz.ntmps114;go_wp2_with (go_at_call 137;go_must ((with_reducible refine(KH.out _).mono ?_);rintro e w1 ⟨rfl,hb1⟩;have HBX:=zz ((Box5.new w 38 (.int .i64 k) (.int .i64 n) (.string X) (.string Y) (.slice A m c)).low hb1);have HB1:=zz ((z0b w (.cells #[k,n,X,Y,.slice A m c] 38)).trans (hb1.mono (by simp)));clear hb1;obtain⟨d0,d1,d2,d3,d4,_⟩:=HBX.out));go_ret;exact⟨z0c HX.out.symm,HB1.out⟩
     ·have HX:Hid (∀ b,mayL ks (d+1)=b→v=b):=zz (by
       rintro b rfl;rw[hv];by_cases hm0:m=0
       ·simp[hm0]
       ·have:d<64:=by omega
        simp[this])
      have hq:(m=0∧decide ((0:Int)<(m:Int))=false∧decide (0<m)=false)∨(decide ((0:Int)<(m:Int))=true∧decide (0<m)=true∧((d:Int)==64)=false∧(d==64)=false∧d<64):=by
       by_cases hm0:m=0
       ·left;simp[hm0]
       ·right;refine⟨by simp;omega,by simp;omega,by simp;omega,by simp;omega,by omega⟩
      clear hv hbad
      rcases hq with ⟨rfl,q1,q2⟩ | ⟨q1,q2,q3,q4,hd4⟩
      ·have HX2:Hid (v=true):=zz (HX.out true (by
        have:=HM.out;rw[List.length_eq_zero_iff.1 this.symm,mayL]))
       clear hd;go_enter Tryz.func114,Tryz.ntmps114;go_wp2_with (go_at_call 137;go_must ((with_reducible refine(KH.out _).mono ?_);rintro e w1 ⟨rfl,hb1⟩;have HBX:=zz ((Box5.new w 38 (.int .i64 k) (.int .i64 n) (.string X) (.string Y) (.slice A 0 c)).low hb1);have HB1:=zz ((z0b w (.cells #[k,n,X,Y,.slice A 0 c] 38)).trans (hb1.mono (by simp)));clear hb1;obtain⟨d0,d1,d2,d3,d4,_⟩:=HBX.out))
       go_loopw [23] (fun i wr=>i= .int .i64 0∧wr=w1) (fun _ _=>0)
       case atStart=>exact⟨rfl,rfl⟩
       case round=>
        obtain⟨rfl,rfl⟩:=hrel;go_wp2;go_ret;exact⟨z0c HX2.out.symm,HB1.out⟩
      ·go_enter Tryz.func114,Tryz.ntmps114
       go_wp2_with (go_at_call 137;go_must ((with_reducible refine(KH.out _).mono ?_);rintro e w1 ⟨rfl,hb1⟩;have HBX:=zz ((Box5.new w 38 (.int .i64 k) (.int .i64 n) (.string X) (.string Y) (.slice A m c)).low hb1);have HB1:=zz ((z0b w (.cells #[k,n,X,Y,.slice A m c] 38)).trans (hb1.mono (by simp)));clear hb1;obtain⟨d0,d1,d2,d3,d4,_⟩:=HBX.out))
       go_loopw [23] (fun i wr=>∃ j:Nat,j≤m∧i= .int .i64 j∧mayL (ks.take j) (d+1)=true∧Below w1.heap.size w1 wr) (fun i _=>m - (intOf i).toNat)
       case atStart=>exact⟨0,by omega,rfl,by rw[List.take_zero,mayL],Below.refl _ _⟩
       case round=>
        obtain⟨j,hj,rfl,ht,hb1⟩:=hrel;have hb:Below w.heap.size w wr:=HB1.out.trans (hb1.mono HB1.out.size);have HT:=zz ht;have HBB:=zz hb1;clear ht hb1;by_cases a:j<m
        ·obtain⟨r,hr⟩:=z0t HM.out a
         obtain⟨ad,B,b,rfl,hp,h9,hkr⟩:=z32 HK.out hb hr;have hmem:=List.mem_of_getElem? hr
         have K:∀ w2,Below w.heap.size w w2→Cz 114 #[valX r B b,iI ((d:Int)+1)] w2 fun e w'=>e= .returned (.bool (mayX r (d+1)))∧Below w2.heap.size w2 w':=fun w2 h2=>
          HI.out r hmem B b (d+1) w2 (hkr.next h2) (by omega) (by have:=HNM.out;have:=z6n hmem;omega) (by have:=HSZ.out;have:=z22 hmem;omega)
         obtain⟨v2,hv2⟩:∃ v2,v2=mayX r (d+1):=⟨_,rfl⟩;rw[←hv2] at K;have HV2:=zz hv2;have HR:=zz hr;clear hr hv2 hkr hmem;obtain⟨k',n',nm',op',ks1⟩:=r;simp only[valX] at K;obtain⟨c0,c1,c2,c3,c4⟩:=h9;generalize (⟨nm'.toArray⟩:BA)=M1 at K c2;generalize (⟨op'.toArray⟩:BA)=M2 at K c3;obtain⟨l1,hl1⟩:∃ l,l=ks1.length:=⟨_,rfl⟩;rw[←hl1] at K c4;have HKC:=zz K;have HBK:Hid (∀ o,Below w.heap.size w (wr.alloc o)):=zz fun o=>hb.alloc hb.size o
         clear K hl1
         cases v2 with
         | true=>
           have HT2:Hid (mayL (ks.take (j+1)) (d+1)=true):=zz (by rw[z5j HR.out HT.out];exact HV2.out.symm);go_wp2_with (go_at_call 114;go_must ((with_reducible refine(HKC.out _ (HBK.out _)).mono ?_);rintro e w' ⟨rfl,hb2⟩))
           go_roundw
           case rel=>exact⟨j+1,by omega,by go_num,HT2.out,HBB.out.trans (((z0b wr _).trans (hb2.mono (by simp))).mono HBB.out.size)⟩
           case measure=>simp[intOf];omega
         | false=>
           have HX2:Hid (v=false):=zz (HX.out _ (z6t HR.out HV2.out.symm));go_wp2_with (go_at_call 114;go_must ((with_reducible refine(HKC.out _ (HBK.out _)).mono ?_);rintro e w' ⟨rfl,hb2⟩));go_ret;exact⟨z0c HX2.out.symm,(HBK.out _).trans (hb2.mono (HBK.out _).size)⟩
        ·have HX2:Hid (v=true):=by
          apply Lib.hid;apply HX.out;have:=HT.out;rw[List.take_of_length_le (by have:=HM.out;omega)] at this;exact this
         go_wp2;go_ret;exact⟨z0c HX2.out.symm,hb⟩
theorem y4m (r:Ex) (A:OA) (c:Nat) (w:World) (hk:KidsX (LtX w.heap.size) w A r) (hn:nmX r≤1000000) (hs:sizeX r≤1000000):
  Cz 81 #[valX r A c] w fun e w'=>e= .returned (.bool (mayX r 0))∧Below w.heap.size w w':=by
 have K:Hid (∀ o,Cz 114 #[valX r A c,oZ] (w.alloc o) fun e w'=>e= .returned (.bool (mayX r 0))∧Below (w.alloc o).heap.size (w.alloc o) w'):=zz fun o=>z9j r A c 0 _ (hk.next (z0b w o)) (by omega) hn hs
 generalize mayX r 0=v at K ⊢;obtain⟨k',n',nm',op',ks'⟩:=r;simp only[valX] at K ⊢;clear hk hn hs;go_enter Tryz.func81,Tryz.ntmps81;go_wp2_with (go_at_call 114;go_must ((with_reducible refine(K.out _).mono ?_);rintro e w' ⟨rfl,hb2⟩));go_ret;exact⟨rfl,(z0b _ _).trans (hb2.mono (by simp))⟩
def KeptK (w w':World):Prop:=w.heap.size≤w'.heap.size∧∀ (k:Nat) (cs:Array Value) (T:TypeId),w.heap[k]?=some (.cells cs T (0,0))→T≠53→w'.heap[k]?=some (.cells cs T (0,0))
theorem KeptK.refl (w:World):KeptK w w:=⟨Nat.le_refl _,fun _ _ _ h _=>h⟩
theorem KeptK.trans {a b c:World} (h:KeptK a b) (k:KeptK b c):KeptK a c:=⟨Nat.le_trans h.1 k.1,fun i cs T hi ht=>k.2 i cs T (h.2 i cs T hi ht) ht⟩
theorem KeptK.below {w w':World} (h:Below w.heap.size w w'):KeptK w w':=⟨h.size,fun k cs T hk _=>by rw[h.block k (Array.getElem?_eq_some_iff.1 hk).1];exact hk⟩
theorem KeptK.alloc (w:World) (o:Obj):KeptK w (w.alloc o):= .below (z0b w o)
theorem KeptK.drew (w:World):KeptK w w.drew:=⟨Nat.le_refl _,fun _ _ _ h _=>h⟩
theorem KeptK.grown {w w':World} {B n:Nat} {v:Value} {xs:List Value} (h:w.ownsRow B 53 5 v n xs) (hg:w.grownBy w' v.ownBlock):KeptK w w':=by
 refine⟨hg.size,fun k cs T hk ht=>?_⟩;rw[hg.block k (Array.getElem?_eq_some_iff.1 hk).1 ?_]
 ·exact hk
 ·intro e
  rcases h.2 with ⟨rfl,_⟩ | ⟨g,cap,cur,rfl,_,hh,_⟩
  ·simp[Value.ownBlock] at e
  ·simp only[Value.ownBlock,Option.some.injEq] at e
   subst e;rw[hk] at hh;injection hh with hh
   injection hh with _ ht'
   exact ht ht'
theorem y9b (w:World) (o:Obj):(w.alloc o).heap[w.heap.size]?=some o:=by
 show (w.heap.push o)[w.heap.size]?=some o;simp
theorem Tks.root {B:Nat} {w0 w:World} {v:Value} {q:List Tv} (h:Tks B w0 w v q):Tks B w w v q:=⟨h.row,h.parts,Below.refl _ _,h.size⟩
def textSum (ps:List Pt):Nat:=(ps.map fun p=>p.2.length).sum
theorem z73 (a b:List Pt):textSum (a++b)=textSum a+textSum b:=by simp[textSum]
theorem y30 {ps:List Pt} {p:Pt} (h:p∈ps):p.2.length≤textSum ps:=by
 induction ps with
 | nil=>cases h
 | cons q r ih=>
   have e:textSum (q::r)=q.2.length+textSum r:=by simp[textSum]
   rw[e]
   rcases List.mem_cons.1 h with rfl | h
   ·omega
   ·have:=ih h;omega
theorem y16 (ps:List Pt) (t:Bs):textSum (flush ps t)=textSum ps+t.length:=by
 unfold flush
 split
 ·rename_i e;rw[e];simp
 ·rw[z73];simp[textSum]
theorem x4a (r:Bs) (pos:Nat) (ps:List Pt) (t:Bs):∀ out,(goN r pos ps t).1=some out→textSum out≤textSum ps+t.length+r.length:=by
 refine z5q (P:=fun r pos ps t=>∀ out,(goN r pos ps t).1=some out→textSum out≤textSum ps+t.length+r.length) ?_ ?_ ?_ ?_ (r.length+1) r pos ps t (Nat.lt_succ_self _)
 ·intro r k pos ps t h out ho
  rw[z2p h] at ho;cases ho
 ·intro r pos ps t h out ho
  rw[z39 h] at ho;injection ho with ho;subst ho
  rw[y16];omega
 ·intro r nm k pos ps t h h0 h1 ih out ho
  rw[z55 h] at ho;have:=ih out ho;rw[z73,y16,List.length_drop] at this;simp[textSum] at this;simp only[textSum];omega
 ·intro r c k pos ps t h h0 h1 ih out ho
  rw[z3n h] at ho;have:=ih out ho;rw[List.length_append,List.length_drop] at this;simp at this;omega
theorem y7e (l:Bs) (out:List Pt) (h:(parse l).1=some out):textSum out≤l.length:=by
 cases l with
 | nil=>simp[parse] at h
 | cons c r=>
   by_cases hc:c=34
   ·subst hc
    rw[z2b] at h;have:=x4a r 1 [] [] out h;simp[textSum] at this ⊢;omega
   ·rw[z38 c r hc] at h;cases h
theorem y2p:∀ ps:List Pt,(∀ p∈ps,p.1.length≤8)→(ps.flatMap prP).length≤11 * ps.length+4 * textSum ps
 | [],_=>by simp
 | p::r,h=>by
   have h1:=y2p r fun q hq=>h q (by simp[hq])
   have h2:=h p (by simp);have h3:=y1c p.2
   have h4:(prV p.1).length≤11:=by
    unfold prV
    split
    ·simp
    ·simp;omega
   have e:textSum (p::r)=p.2.length+textSum r:=by simp[textSum]
   have h5:(prP p).length=(prV p.1).length+(p.2.flatMap prB).length:=by unfold prP;rw[List.length_append]
   rw[List.flatMap_cons,List.length_append,List.length_cons,e,h5];omega
theorem x1w {N:Nat} {t:Tok} (h:Read1 N t) (hN:N≤400):FitT t:=by
 have ho:=h.ok
 have hn: -9223372036854775808≤t.n∧t.n≤9223372036854775807:=by
  refine⟨?_,h.n⟩;unfold okT at ho
  split at ho
  ·simp at ho;omega
  ·split at ho <;> (simp at ho;omega)
 rcases h.parts with e | ⟨l,q,e,hl⟩
 ·exact⟨by have:=h.word;omega,hn,by rw[e];simp,by rw[e];simp,by rw[e];simp,by rw[e];decide⟩
 ·have h1:=y67 l t.parts (by rw[e])
  have h2:=y7e l t.parts (by rw[e])
  have h3:∀ p∈t.parts,p.1.length≤8:=by
   unfold okT at ho
   split at ho
   ·simp at ho;rw[ho.2];simp
   ·split at ho
    ·simp at ho;exact y2o false _ ho.2
    ·simp at ho;rw[ho.2];simp
  have h4:=y2p t.parts h3;refine⟨by have:=h.word;omega,hn,by omega,fun p hp=>by have:=h3 p hp;omega,fun p hp=>by have:=y30 hp;omega,?_⟩;unfold print;rw[List.length_cons,List.length_append,List.length_singleton];omega
theorem y7w {s:Bs} {ts:List Tok} (h:∀ t∈ts,Read1 s.length t) (hl:ts.length≤s.length) (hs:s.length≤400):FitL ts:=⟨fun t ht=>(h t ht).ok,fun t ht=>x1w (h t ht) hs,by omega⟩
def CSame (x:Ex):Prop:=∀ (y:Ex) (A A':OA) (c c':Nat) (w:World),KidsX (LtX w.heap.size) w A x→KidsX (LtX w.heap.size) w A' y→sizeX x≤1000000→sizeX y≤1000000→
 Cz 39 #[valX x A c,valX y A' c'] w fun e w'=>e= .returned (.bool (eqB x y))∧Below w.heap.size w w'
theorem x07 (k n k2 n2:Int) (nm op nm2 op2:Bs) (ks ks2:List Ex) (ih:∀ x∈ks,CSame x) (A A':OA) (c c':Nat) (w:World) (hk:KidsX (LtX w.heap.size) w A (.mk k n nm op ks)) (hk':KidsX (LtX w.heap.size) w A' (.mk k2 n2 nm2 op2 ks2)) (hs:sizeXL ks≤1000000) (hs':sizeXL ks2≤1000000):
  Cz 85 #[.slice A ks.length c,.slice A' ks2.length c',.func (.func 39) #[] #[]] w fun e w'=>e= .returned (.bool (eqB ks ks2))∧Below w.heap.size w w':=by
 obtain⟨v,hv⟩:∃ v,v=eqB ks ks2:=⟨_,rfl⟩;rw[←hv];have HV:=zz hv;obtain⟨m,hm⟩:∃ m,m=ks.length:=⟨_,rfl⟩;obtain⟨m2,hm2⟩:∃ m,m=ks2.length:=⟨_,rfl⟩;have hmx:=z56 ks;have hm9:m≤1000000:=by omega
 rw[←hm,←hm2];have HK:=zz hk;have HK':=zz hk';have HI:=zz ih;have HS:=zz hs;have HS':=zz hs';have HM:=zz hm;have HM':=zz hm2;clear hv ih hk hk' hs hs' hm hm2 hmx;by_cases f6:m=m2
 ·have g6:((m:Int) != (m2:Int))=false:=by simp[f6]
  have g7:(m != m2)=false:=by simp[f6]
  subst f6;go_enter Tryz.func85,Tryz.ntmps85;go_wp2
  go_loopw [17] (fun i wr=>∃ j:Nat,j≤m∧i= .int .i64 j∧ks.take j=ks2.take j∧Below w.heap.size w wr) (fun i _=>m - (intOf i).toNat)
  case atStart=>exact⟨0,by omega,rfl,rfl,Below.refl _ _⟩
  case round=>
   obtain⟨j,hj,rfl,ht,hb⟩:=hrel;have HB:=zz hb;have HT:=zz ht;clear ht;by_cases a:j<m
   ·obtain⟨r,hr⟩:=z0t HM.out a
    obtain⟨r',hr'⟩:=z0t HM'.out a;obtain⟨ad,B,b,rfl,hp,h9,hkr⟩:=z32 HK.out hb hr;obtain⟨ad',B',b',rfl,hp',h9',hkr'⟩:=z32 HK'.out hb hr';have hmem:=List.mem_of_getElem? hr;have hsz1:=z22 hmem;have hsz2:=z22 (List.mem_of_getElem? hr')
    have K:∀ w2,Below wr.heap.size wr w2→Cz 39 #[valX r B b,valX r' B' b'] w2 fun e w'=>e= .returned (.bool (eqB r r'))∧Below w2.heap.size w2 w':=fun w2 h2=>
     HI.out r hmem r' B B' b b' w2 (hkr.next (hb.trans (h2.mono hb.size))) (hkr'.next (hb.trans (h2.mono hb.size))) (by have:=HS.out;omega) (by have:=HS'.out;omega)
    obtain⟨v2,hv2⟩:∃ v2,v2=eqB r r':=⟨_,rfl⟩;rw[←hv2] at K;have HV2:=zz hv2;have HR:=zz hr;have HR':=zz hr';have hbt:(ad.add (j * 5)).block<wr.heap.size:=by rw[z0p];have:=hb.size;omega
    have hbt':(ad'.add (j * 5)).block<wr.heap.size:=by rw[z0p];have:=hb.size;omega
    clear hr hr' hv2 hkr hkr' hmem hsz1 hsz2;obtain⟨k',n',nm',op',ks1⟩:=r;obtain⟨k3,n3,nm3,op3,ks3⟩:=r';simp only[valX] at K;obtain⟨c0,c1,c2,c3,c4⟩:=h9;obtain⟨d0,d1,d2,d3,d4⟩:=h9';obtain⟨M1,hM1⟩:∃ M:BA,M=⟨nm'.toArray⟩:=⟨_,rfl⟩;obtain⟨M2,hM2⟩:∃ M:BA,M=⟨op'.toArray⟩:=⟨_,rfl⟩;obtain⟨M3,hM3⟩:∃ M:BA,M=⟨nm3.toArray⟩:=⟨_,rfl⟩;obtain⟨M4,hM4⟩:∃ M:BA,M=⟨op3.toArray⟩:=⟨_,rfl⟩;obtain⟨l1,hl1⟩:∃ l,l=ks1.length:=⟨_,rfl⟩;obtain⟨l2,hl2⟩:∃ l,l=ks3.length:=⟨_,rfl⟩;rw[←hM1,←hM2,←hM3,←hM4,←hl1,←hl2] at K;rw[←hM1] at c2;rw[←hM2] at c3;rw[←hl1] at c4;rw[←hM3] at d2;rw[←hM4] at d3;rw[←hl2] at d4;have HKC:Hid (∀ o1 o2,Cz 39 #[.agg #[k',n',M1,M2,.slice B l1 b],.agg #[k3,n3,M3,M4,.slice B' l2 b']] ((wr.alloc o1).alloc o2) fun e w'=>e= .returned (.bool v2)∧Below wr.heap.size wr w'):=zz fun o1 o2=>(K _ (z0a wr o1 o2)).mono fun e w' ⟨he,h2⟩=>⟨he,(z0a wr o1 o2).trans (h2.mono (by simp;omega))⟩
    clear K hM1 hM2 hM3 hM4 hl1 hl2 hb hp hp'
    cases v2 with
    | true=>
      have HX:Hid (ks.take (j+1)=ks2.take (j+1)):=zz (by
       have:=y41 HV2.out.symm;rw[←this] at HR';exact z3l HT.out HR.out HR'.out)
      go_wp2_with (go_at_call 39;go_must ((with_reducible refine(HKC.out _ _).mono ?_);rintro e w4 ⟨rfl,hb4⟩))
      go_roundw
      case rel=>exact⟨j+1,by omega,by go_num,HX.out,HB.out.trans (hb4.mono HB.out.size)⟩
      case measure=>simp[intOf];omega
    | false=>
      have HX2:Hid (v=false):=zz (by rw[HV.out];exact z0x (z4m HR.out HR'.out (z9u HV2.out.symm)));go_wp2_with (go_at_call 39;go_must ((with_reducible refine(HKC.out _ _).mono ?_);rintro e w4 ⟨rfl,hb4⟩));go_ret;exact⟨z0c HX2.out.symm,HB.out.trans (hb4.mono HB.out.size)⟩
   ·have HX2:Hid (v=true):=zz (by
     rw[HV.out];have:=HT.out;rw[List.take_of_length_le (by have:=HM.out;omega),List.take_of_length_le (by have:=HM'.out;omega)] at this;exact z0v this)
    clear hb;go_wp2;go_ret;exact⟨z0c HX2.out.symm,HB.out⟩
 ·have HX:Hid (v=false):=zz (by rw[HV.out];exact z0x (fun h=>f6 (by rw[HM.out,HM'.out,h])))
  have g6:((m:Int) != (m2:Int))=true:=by simp;omega
  have g7:(m != m2)=true:=by simp[f6]
  clear f6;go_enter Tryz.func85,Tryz.ntmps85;go_wp2;go_ret;exact⟨z0c HX.out.symm,Below.refl _ _⟩
theorem x5p {k n k2 n2:Int} {nm op nm2 op2:Bs} {ks ks2:List Ex} (h1:k=k2) (h2:n=n2) (h3:nm=nm2) (h4:op=op2):eqB (Ex.mk k n nm op ks) (Ex.mk k2 n2 nm2 op2 ks2)=eqB ks ks2:=by
 by_cases h:ks=ks2
 ·rw[z0v h,z0v (by rw[h1,h2,h3,h4,h])]
 ·rw[z0x h,z0x (fun e=>h (by injection e))]
theorem y0x (x:Ex):CSame x:=by
 induction x using Ex.ind with
 | h k n nm op ks ih=>
   intro y A A' c c' w hk hk' hs hs';obtain⟨k2,n2,nm2,op2,ks2⟩:=y;obtain⟨v,hv⟩:∃ v,v=eqB (Ex.mk k n nm op ks) (Ex.mk k2 n2 nm2 op2 ks2):=⟨_,rfl⟩;rw[←hv];rw[sizeX] at hs hs';simp only[valX]
   have KE:Hid (∀ w',Below w.heap.size w w'→Cz 85 #[.slice A ks.length c,.slice A' ks2.length c',.func (.func 39) #[] #[]] w' fun e w2=>e= .returned (.bool (eqB ks ks2))∧Below w'.heap.size w' w2):=zz fun w' hb=>
    x07 k n k2 n2 nm op nm2 op2 ks ks2 ih A A' c c' w' (hk.next hb) (hk'.next hb) (by omega) (by omega)
   have HV:=zz hv;obtain⟨X,hX⟩:∃ X:BA,X=⟨nm.toArray⟩:=⟨_,rfl⟩;obtain⟨X2,hX2⟩:∃ X:BA,X=⟨nm2.toArray⟩:=⟨_,rfl⟩;obtain⟨Y,hY⟩:∃ X:BA,X=⟨op.toArray⟩:=⟨_,rfl⟩;obtain⟨Y2,hY2⟩:∃ X:BA,X=⟨op2.toArray⟩:=⟨_,rfl⟩;have gx:=z2s hX hX2;have gy:=z2s hY hY2;obtain⟨u,hu⟩:∃ u,u=eqB ks ks2:=⟨_,rfl⟩;rw[←hu] at KE;have HU:=zz hu;rw[←hX,←hX2,←hY,←hY2];generalize ks.length=m at KE ⊢;generalize ks2.length=m2 at KE ⊢;clear hv ih hk hk' hs hs' hX hX2 hY hY2 hu;by_cases f1:k=k2
   ·by_cases f2:n=n2
    ·by_cases f3:nm=nm2
     ·by_cases f4:op=op2
      ·have HX:Hid (v=u):=zz (by rw[HV.out,HU.out];exact x5p f1 f2 f3 f4)
       have g1:(k==k2)=true:=by simp[f1]
       have g2:(n==n2)=true:=by simp[f2]
       rw[z0v f3] at gx;rw[z0v f4] at gy;subst f1 f2;clear f3 f4;go_enter Tryz.func39,Tryz.ntmps39;go_wp2_with (go_at_call 85;go_must ((with_reducible refine(KE.out _ (z0a w _ _)).mono ?_);rintro e w4 ⟨rfl,hb4⟩));go_ret;exact⟨z0c HX.out.symm,(z0a w _ _).trans (hb4.mono (by simp;omega))⟩
      ·have HX:Hid (v=false):=zz (by rw[HV.out];exact z0x (fun h=>f4 (by injection h)))
       have g1:(k==k2)=true:=by simp[f1]
       have g2:(n==n2)=true:=by simp[f2]
       rw[z0v f3] at gx;rw[z0x f4] at gy;subst f1 f2;clear f3 f4;go_enter Tryz.func39,Tryz.ntmps39;go_wp2;go_ret;exact⟨z0c HX.out.symm,z0a _ _ _⟩
     ·have HX:Hid (v=false):=zz (by rw[HV.out];exact z0x (fun h=>f3 (by injection h)))
      have g1:(k==k2)=true:=by simp[f1]
      have g2:(n==n2)=true:=by simp[f2]
      rw[z0x f3] at gx;subst f1 f2;clear f3;go_enter Tryz.func39,Tryz.ntmps39;go_wp2;go_ret;exact⟨z0c HX.out.symm,z0a _ _ _⟩
    ·have HX:Hid (v=false):=zz (by rw[HV.out];exact z0x (fun h=>f2 (by injection h)))
     have g1:(k==k2)=true:=by simp[f1]
     have g2:(n==n2)=false:=by simp[f2]
     subst f1;clear f2;go_enter Tryz.func39,Tryz.ntmps39;go_wp2;go_ret;exact⟨z0c HX.out.symm,z0a _ _ _⟩
   ·have HX:Hid (v=false):=zz (by rw[HV.out];exact z0x (fun h=>f1 (by injection h)))
    have g1:(k==k2)=false:=by simp[f1]
    clear f1;go_enter Tryz.func39,Tryz.ntmps39;go_wp2;go_ret;exact⟨z0c HX.out.symm,z0a _ _ _⟩
end Go.Proofs.YtngfihoempcplaaGreatDoor
