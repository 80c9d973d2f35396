import Derived.Test.YthghbdeaenjckaaGreatDoorEx21
import Derived.Lib.SlicesCompact
import Derived.Test.YthghbdeaenjckaaGreatDoorEx8
namespace Go.Proofs.YthghbdeaenjckaaGreatDoor
open Go Go.RowKit
set_option maxRecDepth 100000
set_option maxHeartbeats 4000000
def placeX (b:Nat) (w:World):Nat:=(intOf ((w.cell? ⟨b,1,none⟩).getD (.int .i64 0))).toNat
def faultX (b:Nat) (w:World):Int:=intOf ((w.cell? ⟨b,2,none⟩).getD (.int .i64 0))
noncomputable def loopN (b n:Nat) (wr:World):Nat:=if faultX b wr=0 then n+1 - placeX b wr else 0
theorem loopN_ok {b n:Nat} {w:World} {A:Option Addr} {c:Nat} {l:List Tok} {p:Nat} (h:RdrX b w A n c l p 0):loopN b n w=n+1 - p:=by
 unfold loopN placeX faultX;rw[h.c1,h.c2];exact if_pos rfl
theorem loopN_bad {b n:Nat} {w:World} {A:Option Addr} {c:Nat} {l:List Tok} {p er:Nat} (h:RdrX b w A n c l p er) (he:er≠0):loopN b n w=0:=by
 unfold loopN placeX faultX;rw[h.c1,h.c2];exact if_neg (by show ¬ (er:Int)=0;omega)
structure LoopX (b:Nat) (w:World) (cb:Nat) (A:Option Addr) (n c:Nat) (l:List Tok) (m k d:Nat) (r:Rs) (wr:World) (x:Ex) (p:Nat) (A1:Option Addr) (c1:Nat):Prop where
 mid:MidX b w wr A n c l p 0
 box:Box5 wr cb (.int .i64 x.kind) (.int .i64 x.n) (.string ⟨x.name.toArray⟩) (.string ⟨x.op.toArray⟩) (.slice A1 x.kids.length c1)
 kids:KidsX (NoX (w.heap.size+1) cb wr.heap.size) wr A1 x
 rest:RdE l (.loop m x) p d r
 lo:k<p
 hi:p≤l.length
 lt:cb<wr.heap.size
structure LoopY (b:Nat) (w:World) (cb:Nat) (A:Option Addr) (n c:Nat) (l:List Tok) (r:Rs) (wr:World) (j er:Nat):Prop where
 mid:MidX b w wr A n c l j er
 box:∃ (v0 v1:Int) (v2 v3:ByteArray) (A4:Option Addr) (n4 c4:Nat),Box5 wr cb (.int .i64 v0) (.int .i64 v1) (.string v2) (.string v3) (.slice A4 n4 c4)
 res:r= .bad j er
 err:er=1∨er=8
def LoopZ (b:Nat) (w:World) (cb:Nat) (A:Option Addr) (n c:Nat) (l:List Tok) (m k d:Nat) (r:Rs) (wr:World):Prop:=
 (∃ x p A1 c1,LoopX b w cb A n c l m k d r wr x p A1 c1)∨∃ j er,LoopY b w cb A n c l r wr j er
theorem LoopX.low {b:Nat} {w:World} {cb:Nat} {A:Option Addr} {n c:Nat} {l:List Tok} {m k d:Nat} {r:Rs} {wr:World} {x:Ex} {p:Nat} {A1:Option Addr} {c1:Nat} (h:LoopX b w cb A n c l m k d r wr x p A1 c1) (hlt:b<w.heap.size) {W:World} (hb:Below wr.heap.size wr W):LoopX b w cb A n c l m k d r W x p A1 c1:=
 ⟨h.mid.low hlt hb,h.box.low hb,(h.kids.over fun q hq=>hb.block q hq.2.1).wide fun q hq=>⟨hq.1,by have:=hq.2.1;have:=hb.size;omega,hq.2.2⟩,h.rest,h.lo,h.hi,by have:=h.lt;have:=hb.size;omega⟩
theorem MidX.put5 {b:Nat} {w W:World} {A:Option Addr} {n c:Nat} {l:List Tok} {k o:Nat} (h:MidX b w W A n c l k o) (hlt:b<w.heap.size) {q:Nat} (hq:w.heap.size<q) (v0 v1 v2 v3 v4:Value):MidX b w (put5 W q v0 v1 v2 v3 v4) A n c l k o:=
 ⟨((((h.boxQ.other (a:=⟨q,0,none⟩) (Nat.ne_of_gt hq) _).other (a:=⟨q,1,none⟩) (Nat.ne_of_gt hq) _).other (a:=⟨q,2,none⟩) (Nat.ne_of_gt hq) _).other (a:=⟨q,3,none⟩) (Nat.ne_of_gt hq) _).other (a:=⟨q,4,none⟩) (Nat.ne_of_gt hq) _,
   grown_put5 h.grown (Nat.le_of_lt hq) _ _ _ _ _,h.rd.put5 (by omega) _ _ _ _ _,by rw[size_put5];exact h.size⟩
abbrev rowW (W:World) (cb:Nat) (op:ByteArray) (x y:Ex) (A1 A2:Option Addr) (c1 c2:Nat):World:=((put5 W cb (.int .i64 4) (.int .i64 0) (.string ⟨#[]⟩) (.string op) (.slice (some ⟨W.heap.size+1,0,none⟩) 2 2)).alloc (objX y A2 c2)).alloc (objXY x y A1 A2 c1 c2)
theorem LoopX.next {b:Nat} {w:World} {cb:Nat} {A:Option Addr} {n c:Nat} {l:List Tok} {m k d:Nat} {r:Rs} {wr:World} {x:Ex} {p:Nat} {A1:Option Addr} {c1:Nat} (h:LoopX b w cb A n c l m k d r wr x p A1 c1) (hlt:b<w.heap.size) (hcb:w.heap.size<cb) {W:World} {y:Ex} {p':Nat} {A2:Option Addr} {c2:Nat} {op:Bs}
  (hg:wr.grownBy W (some b)) (hk:KidsX (FrX wr.heap.size W.heap.size) W A2 y) (hr:RdrX b W A n c l p' 0) (hrest:RdE l (.loop m (exBin op x y)) p' d r) (hp:p<p') (hn:p'≤l.length):
  LoopX b w cb A n c l m k d r (rowW W cb ⟨op.toArray⟩ x y A1 A2 c1 c2) (exBin op x y) p' (some ⟨W.heap.size+1,0,none⟩) 2:=by
 have hsz:=hg.size;have hcl:=h.lt;have hs1:(put5 W cb (.int .i64 4) (.int .i64 0) (.string ⟨#[]⟩) (.string ⟨op.toArray⟩) (.slice (some ⟨W.heap.size+1,0,none⟩) 2 2)).heap.size=W.heap.size:=size_put5 _ _ _ _ _ _ _;have hs2:((put5 W cb (.int .i64 4) (.int .i64 0) (.string ⟨#[]⟩) (.string ⟨op.toArray⟩) (.slice (some ⟨W.heap.size+1,0,none⟩) 2 2)).alloc (objX y A2 c2)).heap.size=W.heap.size+1:=by rw[size_allocX,hs1]
 have hs3:(rowW W cb ⟨op.toArray⟩ x y A1 A2 c1 c2).heap.size=W.heap.size+2:=(size_allocX _ _).trans (by rw[hs2]);have hbl:Below (put5 W cb (.int .i64 4) (.int .i64 0) (.string ⟨#[]⟩) (.string ⟨op.toArray⟩) (.slice (some ⟨W.heap.size+1,0,none⟩) 2 2)).heap.size (put5 W cb (.int .i64 4) (.int .i64 0) (.string ⟨#[]⟩) (.string ⟨op.toArray⟩) (.slice (some ⟨W.heap.size+1,0,none⟩) 2 2)) (rowW W cb ⟨op.toArray⟩ x y A1 A2 c1 c2):=two_boxesX _ _ _;refine⟨((h.mid.more hlt hg hr).put5 hlt hcb _ _ _ _ _).low hlt hbl,((h.box.grown hg (by omega)).put _ _ _ _ _).low hbl,?_,hrest,by have:=h.lo;omega,hn,by rw[hs3];omega⟩
 have hPP:∀ q,(NoX (w.heap.size+1) cb wr.heap.size q∨FrX wr.heap.size W.heap.size q)→NoX (w.heap.size+1) cb W.heap.size q:=fun q hq=>by
  rcases hq with hq | hq
  ·exact⟨hq.1,by have:=hq.2.1;omega,hq.2.2⟩
  ·exact⟨by have:=hq.1;have:=h.mid.size;omega,hq.2,by have:=hq.1;omega⟩
 have k1:KidsX (NoX (w.heap.size+1) cb W.heap.size) W A1 x:=(h.kids.grownX hg fun q hq=>⟨hq.2.1,by have:=hq.1;omega⟩).wide fun q hq=>hPP q (.inl hq)
 have k2:KidsX (NoX (w.heap.size+1) cb W.heap.size) W A2 y:=hk.wide fun q hq=>hPP q (.inr hq)
 have k3:=(k1.put5 (c:=cb) (fun hq=>hq.2.2 rfl) (.int .i64 4) (.int .i64 0) (.string ⟨#[]⟩) (.string ⟨op.toArray⟩) (.slice (some ⟨W.heap.size+1,0,none⟩) 2 2)).allocX (fun q hq=>by rw[hs1];exact hq.2.1) (objX y A2 c2);have k4:=(k2.put5 (c:=cb) (fun hq=>hq.2.2 rfl) (.int .i64 4) (.int .i64 0) (.string ⟨#[]⟩) (.string ⟨op.toArray⟩) (.slice (some ⟨W.heap.size+1,0,none⟩) 2 2)).allocX (fun q hq=>by rw[hs1];exact hq.2.1) (objX y A2 c2);have k5:=kid_two (c:=c1) (c':=c2) k3 k4 (fun q hq=>by rw[hs2];have:=hq.2.1;omega) 4 0 [] op;rw[hs2] at k5;rw[hs3]
 exact k5.wide fun q hq=>by
  rcases hq with hq | hq
  ·exact⟨hq.1,by have:=hq.2.1;omega,hq.2.2⟩
  ·exact⟨by have:=h.mid.size;omega,by omega,by omega⟩
theorem LoopX.fell {b:Nat} {w:World} {cb:Nat} {A:Option Addr} {n c:Nat} {l:List Tok} {m k d:Nat} {r:Rs} {wr:World} {x:Ex} {p:Nat} {A1:Option Addr} {c1:Nat} (h:LoopX b w cb A n c l m k d r wr x p A1 c1) (hlt:b<w.heap.size) (hcb:w.heap.size<cb) {W W3:World} {j er:Nat} {v0 v1:Int} {v2 v3:ByteArray} {A4:Option Addr} {n4 c4:Nat}
  (hg:wr.grownBy W (some b)) (hr:RdrX b W A n c l j er) (hres:r= .bad j er) (he:er=1∨er=8) (h3:Below W.heap.size (put5 W cb (.int .i64 v0) (.int .i64 v1) (.string v2) (.string v3) (.slice A4 n4 c4)) W3):LoopY b w cb A n c l r W3 j er:=by
 have hs1:(put5 W cb (.int .i64 v0) (.int .i64 v1) (.string v2) (.string v3) (.slice A4 n4 c4)).heap.size=W.heap.size:=size_put5 _ _ _ _ _ _ _;rw[←hs1] at h3;exact⟨((h.mid.more hlt hg hr).put5 hlt hcb _ _ _ _ _).low hlt h3,⟨v0,v1,v2,v3,A4,n4,c4,((h.box.grown hg (by omega)).put _ _ _ _ _).low h3⟩,hres,he⟩
theorem xrow_ok (b:Nat) (w:World) (A:Option Addr) (n c:Nat) (l:List Tok) (m k d:Nat) (h:RdrX b w A n c l k 0) (hkb:l.length≤1000000) (hd:d≤64) (hm:1≤m) (x:Ex) (p:Nat) (r:Rs)
  (HRow:∀ m' p' d' r',k<p'→p'≤l.length→d'≤64→1≤m'→RdE l (.some m') p' d' r'→XRow b A n c l m' p' d' r')
  (HOne:XOne b A n c l k d (.ok x p)) (hp:k<p∧p≤l.length) (hr:RdE l (.loop m x) p d r):
  Calls Tryz.prog 32 #[.pointer (some ⟨b,0,none⟩),.int .i64 m,.int .i64 d] w (PostR9 b w A n c l r):=by
 have hlt:=h.lt;have hln:=h.len;have HM0:=Lib.hid (MidX.first h);have K1:Hid (∀ w,RdrX b w A n c l k 0→Calls Tryz.prog 52 #[.pointer (some ⟨b,0,none⟩),.int .i64 d] w (PostR9 b w A n c l (.ok x p))):=Lib.hid HOne;have HR:=Lib.hid HRow;have HRest:=Lib.hid hr;have HLN:=Lib.hid hln;have hmx:Hid (∀ i,strong (sg l i)≤6):=Lib.hid fun i=>strong_le _
 have HKB:=Lib.hid hkb;clear h HOne HRow hr hln hkb;go_enter Tryz.func32,Tryz.ntmps32;go_wp2_with (go_at_call 52;go_must ((with_reducible refine(K1.out _ HM0.out.rd).mono ?_);rintro e w2 ⟨hg2,⟨A2,c2,rfl,hk2⟩,hr2⟩;have HM2:=Lib.hid (HM0.out.more hlt hg2 hr2);have HKD:=Lib.hid hk2;clear hg2 hr2 hk2));obtain⟨W2,hW2⟩:∃ W2,W2=w2.alloc (objX x A2 c2):=⟨_,rfl⟩
 have HL0:Hid (LoopX b w w2.heap.size A n c l m k d r W2 x p A2 c2):=Lib.hid (by
  have hs:W2.heap.size=w2.heap.size+1:=by rw[hW2];exact size_allocX _ _
  have hs1:=size_allocX w zeroX;have g:=HKD.out;rw[hs1] at g;refine⟨by rw[hW2];exact HM2.out.low hlt (one_boxX _ _),by rw[hW2];exact Box5.new w2 _ _ _ _ _ _,?_,HRest.out,hp.1,hp.2,by omega⟩;rw[hs,hW2];exact(g.allocX (fun q hq=>hq.2) _).wide fun q hq=>⟨hq.1,by have:=hq.2;omega,by have:=hq.2;omega⟩)
 rw[←hW2];have HC:Hid (w.heap.size<w2.heap.size):=Lib.hid HM2.out.size;clear hW2
 go_loopw [8] (fun _ wr=>LoopZ b w w2.heap.size A n c l m k d r wr) (fun _ wr=>loopN b n wr)
 case atStart=>exact .inl ⟨x,p,A2,c2,HL0.out⟩
 case round=>
  rcases hrel with ⟨x1,p1,A1,c1,hl⟩ | ⟨j,er,hl⟩
  ·have HL:=Lib.hid hl
   have hpl:=hl.hi;obtain⟨S,hS⟩:∃ S:ByteArray,S=⟨(sg l p1).toArray⟩:=⟨_,rfl⟩;have KS:Hid (∀ w,RdrX b w A n c l p1 0→Calls Tryz.prog 53 #[.pointer (some ⟨b,0,none⟩)] w fun e w'=>e= .returned (.string S)∧Below w.heap.size w w'):=Lib.hid fun w h=>by rw[hS];exact signX_0 b w A n c l p1 h
   have KS2:=KS;have eS:S.data.toList=sg l p1:=by rw[hS]
   have KT:Hid (∀ w,Calls Tryz.prog 26 #[.string S] w fun e w'=>e= .returned (.int .i64 (strong (sg l p1)))∧w=w'):=Lib.hid fun w=>by rw[←eS];exact strengthX_any S w
   have HSS:=Lib.hid hS;clear hS eS;obtain⟨st,hst⟩:∃ st,st=strong (sg l p1):=⟨_,rfl⟩;rw[←hst] at KT;have HST:=Lib.hid hst;have hrest:=hl.rest;have hy1:=hl.mid.rd.c2;have hst6:st≤6:=by rw[hst];exact hmx.out _
   clear hl hst
   cases hrest with
   | stop h1=>
     rw[←HST.out] at h1;have g1:decide ((m:Int)≤(st:Int))=false:=by simp;omega
     have g2:decide (m≤st)=false:=by simp;omega
     clear hp hpl hm hd KS2;go_wp2_with (first | (go_at_call 53;go_must ((with_reducible refine(KS.out _ HL.out.mid.rd).mono ?_);rintro e w3 ⟨rfl,hb3⟩;have HL3:=Lib.hid (HL.out.low hlt hb3);clear hb3;obtain⟨d0,d1,d2,d3,d4,_⟩:=HL3.out.mid.boxQ;obtain⟨e0,e1,e2,e3,e4⟩:=HL3.out.mid.boxQ.freed;obtain⟨g0,g1,g2,g3,g4,_⟩:=HL3.out.box)) | (go_at_call 26;go_must ((with_reducible refine(KT.out _).mono ?_);rintro e w' ⟨rfl,rfl⟩)));obtain⟨W3,hW3⟩:∃ W3,W3=put5 w3 w.heap.size (.int .i64 x1.kind) (.int .i64 x1.n) (.string ⟨x1.name.toArray⟩) (.string ⟨x1.op.toArray⟩) (.slice A1 x1.kids.length c1):=⟨_,rfl⟩;have HE:EndX b w W3 A n c l p1 0 (.int .i64 x1.kind) (.int .i64 x1.n) (.string ⟨x1.name.toArray⟩) (.string ⟨x1.op.toArray⟩) (.slice A1 x1.kids.length c1):=HL3.out.mid.fin hlt (by rw[hW3];exact Below.refl _ _)
     have hk3:KidsX (FrX w.heap.size W3.heap.size) W3 A1 x1:=by
      rw[hW3];exact(HL3.out.kids.put5 (fun hq=>by have:=hq.1;omega) _ _ _ _ _).wide fun q hq=>⟨by have:=hq.1;omega,by rw[size_put5];exact hq.2.1⟩
     unfold put5 at hW3;rw[←hW3];clear hW3 d0 d1 d2 d3 d4;obtain⟨d0,d1,d2,d3,d4,_⟩:=HE.box;exact bodyPost_ret (v:= .agg #[.int .i64 x1.kind,.int .i64 x1.n,.string ⟨x1.name.toArray⟩,.string ⟨x1.op.toArray⟩,.slice A1 x1.kids.length c1]) (by simp[results,Tryz.results32,go_sem,d0,d1,d2,d3,d4]) rfl ⟨HE.grown,⟨_,_,rfl,hk3⟩,HE.rd⟩
   | opDeep h1 h2=>
     rw[←HST.out] at h1;have q1:decide ((m:Int)≤(st:Int))=true:=by simp;omega
     have q2:decide (m≤st)=true:=by simp;omega
     have q3:(m:Int)≤st:=by omega
     have q4:(64:Int)≤d:=by omega
     have KF:=Lib.hid fun w h=>failX_0 8 8 rfl b w A n c l p1 h
     clear hp hpl hm hd h1 h2;go_wp2_with (first | (go_at_call 53;((with_reducible refine(KS.out _ HL.out.mid.rd).mono ?_);rintro e w3 ⟨rfl,hb3⟩;have HL3:=Lib.hid (HL.out.low hlt hb3);clear hb3 KS)) | (go_at_call 26;go_must ((with_reducible refine(KT.out _).mono ?_);rintro e w' ⟨rfl,rfl⟩)) | (go_at_call 53;go_must ((with_reducible refine(KS2.out _ HL3.out.mid.rd).mono ?_);rintro e w4 ⟨rfl,hb4⟩;have HL4:=Lib.hid (HL3.out.low hlt hb4);clear hb4)) | (go_at_call 54;go_must ((with_reducible refine(KF.out _ HL4.out.mid.rd).mono ?_);rintro e w5 ⟨rfl,hr5,hg5⟩;have HM5:=Lib.hid (HL4.out.mid.more hlt hg5 hr5);clear hr5 hg5;obtain⟨d0,d1,d2,d3,d4,_⟩:=HM5.out.boxQ;obtain⟨e0,e1,e2,e3,e4⟩:=HM5.out.boxQ.freed)));obtain⟨W3,hW3⟩:∃ W3,W3=put5 w5 w.heap.size (.int .i64 0) (.int .i64 0) (.string ⟨#[]⟩) (.string ⟨#[]⟩) (.slice none 0 0):=⟨_,rfl⟩;have HE:EndX b w W3 A n c l p1 8 (.int .i64 0) (.int .i64 0) (.string ⟨#[]⟩) (.string ⟨#[]⟩) (.slice none 0 0):=HM5.out.fin hlt (by rw[hW3];exact Below.refl _ _);unfold put5 at hW3;rw[←hW3];clear hW3 d0 d1 d2 d3 d4;obtain⟨d0,d1,d2,d3,d4,_⟩:=HE.box;exact bodyPost_ret (v:= .agg #[.int .i64 0,.int .i64 0,.string ⟨#[]⟩,.string ⟨#[]⟩,.slice none 0 0]) (by simp[results,Tryz.results32,go_sem,d0,d1,d2,d3,d4]) rfl (post_zero HE)
   | @op _ _ _ _ y k2 _ h1 h2 h3 h4=>
     rw[←HST.out] at h1;have q1:decide ((m:Int)≤(st:Int))=true:=by simp;omega
     have q2:decide (m≤st)=true:=by simp;omega
     have q3:(m:Int)≤st:=by omega
     have hpos:(Md.some (strong (sg l p1)+1)).pos:=by show 1≤strong (sg l p1)+1;omega
     have hp1:p1<l.length:=strong_sg_lt hm (by rw[←HST.out];exact h1);have hwk:=h3.within hpos (by omega);have q4:¬ (64:Int)≤d:=by omega
     have q5:(p1:Int)≤1000000:=by have:=HKB.out;omega
     have hkp:=HL.out.lo
     have K:Hid (∀ w,RdrX b w A n c l (p1+1) 0→Calls Tryz.prog 32 #[.pointer (some ⟨b,0,none⟩),.int .i64 ((st:Int)+1),.int .i64 ((d:Int)+1)] w (PostR9 b w A n c l (.ok y k2))):=Lib.hid (by
      have:=HR.out (strong (sg l p1)+1) (p1+1) (d+1) _ (by omega) (by omega) (by omega) (by omega) h3;rw[←HST.out] at this;exact this)
     have hk2:p1<k2∧k2≤l.length:=by have:=hwk.1;have:=hwk.2;omega
     have HX4:=Lib.hid h4;have HK2:=Lib.hid hk2;clear hp hpl hm hd h1 h2 h3 h4 hpos hp1 hwk hk2 hkp;go_wp2_with (first | (go_at_call 53;((with_reducible refine(KS.out _ HL.out.mid.rd).mono ?_);rintro e w3 ⟨rfl,hb3⟩;have HL3:=Lib.hid (HL.out.low hlt hb3);clear hb3 KS)) | (go_at_call 26;go_must ((with_reducible refine(KT.out _).mono ?_);rintro e w' ⟨rfl,rfl⟩)) | (go_at_call 53;go_must ((with_reducible refine(KS2.out _ HL3.out.mid.rd).mono ?_);rintro e w4 ⟨rfl,hb4⟩;have HL4:=Lib.hid (HL3.out.low hlt hb4);clear hb4;obtain⟨d0,d1,d2,d3,d4,_⟩:=HL4.out.mid.boxQ;obtain⟨e0,e1,e2,e3,e4⟩:=HL4.out.mid.boxQ.freed;have hz1:=HL4.out.mid.rd.c1;have hz2:=HL4.out.mid.rd.c2;have hz3:=HL4.out.mid.rd.f1)) | (go_at_call 32;go_must ((with_reducible refine(K.out _ (HL4.out.mid.rd.placez (p1+1) ((p1:Int)+1) (by omega))).mono ?_);rintro e w6 ⟨hg6,⟨A6,c6,rfl,hk6⟩,hr6⟩;have HG:=Lib.hid (grown_trans (grown_set b 1 _ (.int .i64 ((p1:Int)+1))) hg6);have HR6:=Lib.hid hr6;have HK6:=Lib.hid hk6;clear hr6 hk6;have HBX:=Lib.hid (HL4.out.box.grown (grown_trans (grown_set b 1 _ (.int .i64 ((p1:Int)+1))) hg6) (by have:=HC.out;omega));have hl6:w2.heap.size<w6.heap.size:=(by have:=HL4.out.lt;have:=(HG.out).size;omega);clear hg6;obtain⟨d0,d1,d2,d3,d4,_⟩:=HBX.out;obtain⟨e0,e1,e2,e3,e4⟩:=HBX.out.freed)));have HN:=Lib.hid (HL4.out.next (c2:=c6) hlt HC.out HG.out (HK6.out.to (by simp[World.setCell]) (Nat.le_refl _)) HR6.out HX4.out HK2.out.1 HK2.out.2);rw[←HSS.out] at HN
     go_roundw
     case rel=>exact .inl ⟨exBin (sg l p1) x1 y,k2,_,_,HN.out⟩
     case measure=>rw[loopN_ok HN.out.mid.rd,loopN_ok HL.out.mid.rd];have:=HK2.out;have:=HLN.out;omega
   | @opBad _ _ _ _ j er h1 h2 h3=>
     rw[←HST.out] at h1;have q1:decide ((m:Int)≤(st:Int))=true:=by simp;omega
     have q2:decide (m≤st)=true:=by simp;omega
     have q3:(m:Int)≤st:=by omega
     have hpos:(Md.some (strong (sg l p1)+1)).pos:=by show 1≤strong (sg l p1)+1;omega
     have hp1:p1<l.length:=strong_sg_lt hm (by rw[←HST.out];exact h1);have hwk:=h3.within hpos (by omega);have q4:¬ (64:Int)≤d:=by omega
     have q5:(p1:Int)≤1000000:=by have:=HKB.out;omega
     have hkp:=HL.out.lo
     have K:Hid (∀ w,RdrX b w A n c l (p1+1) 0→Calls Tryz.prog 32 #[.pointer (some ⟨b,0,none⟩),.int .i64 ((st:Int)+1),.int .i64 ((d:Int)+1)] w (PostR9 b w A n c l (.bad j er))):=Lib.hid (by
      have:=HR.out (strong (sg l p1)+1) (p1+1) (d+1) _ (by omega) (by omega) (by omega) (by omega) h3;rw[←HST.out] at this;exact this)
     have HER:=Lib.hid hwk.2.2;clear hp hpl hm hd h1 h2 h3 hpos hp1 hwk hkp;go_wp2_with (first | (go_at_call 53;((with_reducible refine(KS.out _ HL.out.mid.rd).mono ?_);rintro e w3 ⟨rfl,hb3⟩;have HL3:=Lib.hid (HL.out.low hlt hb3);clear hb3 KS)) | (go_at_call 26;go_must ((with_reducible refine(KT.out _).mono ?_);rintro e w' ⟨rfl,rfl⟩)) | (go_at_call 53;go_must ((with_reducible refine(KS2.out _ HL3.out.mid.rd).mono ?_);rintro e w4 ⟨rfl,hb4⟩;have HL4:=Lib.hid (HL3.out.low hlt hb4);clear hb4;obtain⟨d0,d1,d2,d3,d4,_⟩:=HL4.out.mid.boxQ;obtain⟨e0,e1,e2,e3,e4⟩:=HL4.out.mid.boxQ.freed;have hz1:=HL4.out.mid.rd.c1;have hz2:=HL4.out.mid.rd.c2;have hz3:=HL4.out.mid.rd.f1)) | (go_at_call 32;go_must ((with_reducible refine(K.out _ (HL4.out.mid.rd.placez (p1+1) ((p1:Int)+1) (by omega))).mono ?_);rintro e w6 ⟨hg6,⟨v0,v1,v2,v3,A4,n4,c4,rfl⟩,hr6⟩;have HG:=Lib.hid (grown_trans (grown_set b 1 _ (.int .i64 ((p1:Int)+1))) hg6);have HR6:=Lib.hid hr6;clear hr6;have HBX:=Lib.hid (HL4.out.box.grown (grown_trans (grown_set b 1 _ (.int .i64 ((p1:Int)+1))) hg6) (by have:=HC.out;omega));have hl6:w2.heap.size<w6.heap.size:=(by have:=HL4.out.lt;have:=(HG.out).size;omega);clear hg6;obtain⟨d0,d1,d2,d3,d4,_⟩:=HBX.out;obtain⟨e0,e1,e2,e3,e4⟩:=HBX.out.freed)))
     go_roundw
     case rel=>exact .inr ⟨j,er,HL4.out.fell hlt HC.out HG.out HR6.out rfl HER.out ((two_boxesX _ _ _).mono (by simp))⟩
     case measure=>
      refine Nat.lt_of_le_of_lt (Nat.le_of_eq (loopN_bad (HL4.out.fell hlt HC.out HG.out HR6.out rfl HER.out ((two_boxesX _ _ _).mono (by simp))).mid.rd (by rcases HER.out with e | e <;> omega))) ?_;rw[loopN_ok HL.out.mid.rd];have:=HL.out.hi;have:=HLN.out;omega
  ·have HL:=Lib.hid hl
   have he:=hl.err;obtain rfl:=hl.res;obtain⟨v0,v1,v2,v3,A4,n4,c4,hbx⟩:=hl.box;have q1:((er:Int)==0)=false:=by simp;omega
   have q2:(er==0)=false:=by simp;omega
   obtain⟨d0,d1,d2,d3,d4,_⟩:=hl.mid.boxQ;obtain⟨e0,e1,e2,e3,e4⟩:=hl.mid.boxQ.freed;obtain⟨g0,g1,g2,g3,g4,_⟩:=hbx;have hz2:=hl.mid.rd.c2;clear hp hm hd hl he;go_wp2;obtain⟨W3,hW3⟩:∃ W3,W3=put5 wr w.heap.size (.int .i64 v0) (.int .i64 v1) (.string v2) (.string v3) (.slice A4 n4 c4):=⟨_,rfl⟩;have HE:EndX b w W3 A n c l j er (.int .i64 v0) (.int .i64 v1) (.string v2) (.string v3) (.slice A4 n4 c4):=HL.out.mid.fin hlt (by rw[hW3];exact Below.refl _ _);unfold put5 at hW3;rw[←hW3];clear hW3 d0 d1 d2 d3 d4;obtain⟨d0,d1,d2,d3,d4,_⟩:=HE.box;exact bodyPost_ret (v:= .agg #[.int .i64 v0,.int .i64 v1,.string v2,.string v3,.slice A4 n4 c4]) (by simp[results,Tryz.results32,go_sem,d0,d1,d2,d3,d4]) rfl ⟨HE.grown,⟨v0,v1,v2,v3,A4,n4,c4,rfl⟩,HE.rd⟩
theorem xrow_bad (b:Nat) (w:World) (A:Option Addr) (n c:Nat) (l:List Tok) (m k d:Nat) (h:RdrX b w A n c l k 0) (j er:Nat) (he:er≠0) (HOne:XOne b A n c l k d (.bad j er)):
  Calls Tryz.prog 32 #[.pointer (some ⟨b,0,none⟩),.int .i64 m,.int .i64 d] w (PostR9 b w A n c l (.bad j er)):=by
 have hlt:=h.lt;have HM0:=Lib.hid (MidX.first h);have K1:Hid (∀ w,RdrX b w A n c l k 0→Calls Tryz.prog 52 #[.pointer (some ⟨b,0,none⟩),.int .i64 d] w (PostR9 b w A n c l (.bad j er))):=Lib.hid HOne;have q1:((er:Int)==0)=false:=by simp;omega
 have q2:(er==0)=false:=by simp;omega
 clear h HOne he;go_enter Tryz.func32,Tryz.ntmps32;go_wp2_with (go_at_call 52;go_must ((with_reducible refine(K1.out _ HM0.out.rd).mono ?_);rintro e w2 ⟨hg2,⟨v0,v1,v2,v3,A4,n4,c4,rfl⟩,hr2⟩;have HM2:=Lib.hid ((HM0.out.more hlt hg2 hr2).low hlt (one_boxX _ (.cells #[.int .i64 v0,.int .i64 v1,.string v2,.string v3,.slice A4 n4 c4] 24)));clear hg2 hr2));obtain⟨W2,hW2⟩:∃ W2,W2=w2.alloc (.cells #[.int .i64 v0,.int .i64 v1,.string v2,.string v3,.slice A4 n4 c4] 24):=⟨_,rfl⟩;have HB2:Hid (Box5 W2 w2.heap.size (.int .i64 v0) (.int .i64 v1) (.string v2) (.string v3) (.slice A4 n4 c4)):=Lib.hid (by rw[hW2];exact Box5.new w2 _ _ _ _ _ _);rw[←hW2] at HM2 ⊢;clear hW2
 go_loopw [8] (fun _ wr=>wr=W2) (fun _ _=>0)
 case atStart=>exact rfl
 case round=>
  subst hrel;obtain⟨d0,d1,d2,d3,d4,_⟩:=HM2.out.boxQ;obtain⟨e0,e1,e2,e3,e4⟩:=HM2.out.boxQ.freed;obtain⟨g0,g1,g2,g3,g4,_⟩:=HB2.out;have hz2:=HM2.out.rd.c2;go_wp2;obtain⟨W3,hW3⟩:∃ W3,W3=put5 wr w.heap.size (.int .i64 v0) (.int .i64 v1) (.string v2) (.string v3) (.slice A4 n4 c4):=⟨_,rfl⟩;have HE:EndX b w W3 A n c l j er (.int .i64 v0) (.int .i64 v1) (.string v2) (.string v3) (.slice A4 n4 c4):=HM2.out.fin hlt (by rw[hW3];exact Below.refl _ _);unfold put5 at hW3;rw[←hW3];clear hW3 d0 d1 d2 d3 d4;obtain⟨d0,d1,d2,d3,d4,_⟩:=HE.box;exact bodyPost_ret (v:= .agg #[.int .i64 v0,.int .i64 v1,.string v2,.string v3,.slice A4 n4 c4]) (by simp[results,Tryz.results32,go_sem,d0,d1,d2,d3,d4]) rfl ⟨HE.grown,⟨v0,v1,v2,v3,A4,n4,c4,rfl⟩,HE.rd⟩
theorem xread_all (b:Nat) (A:Option Addr) (n c:Nat) (l:List Tok) (hl:l.length≤1000000):∀ N k,l.length - k≤N→k≤l.length→
  (∀ d r,d≤64→RdE l .one k d r→XOne b A n c l k d r)∧∀ m d r,d≤64→1≤m→RdE l (.some m) k d r→XRow b A n c l m k d r:=by
 intro N
 induction N with
 | zero=>
   intro k hN hk;have hs:sg l k=[]:=sg_past (by omega)
   have one:∀ d r,d≤64→RdE l .one k d r→XOne b A n c l k d r:=by
    intro d r _ h w hw;have hnone:RdE l .one k d (.bad k 1):= .none (by rw[hs];simp[pre3]) (fun t ht=>by rw[List.getElem?_eq_none (by omega)] at ht;cases ht);obtain rfl:=h.det hnone;exact xone_past b w A n c l k d hw (by omega)
   refine⟨one,fun m d r hd _ h=>?_⟩
   cases h with
   | some h1 _=>have:=(h1.within trivial (by omega)).1;have:=h1.goes trivial (by omega) trivial _ _ rfl;have:=(h1.within trivial (by omega)).2;omega
   | @someBad _ _ _ j e h1=>
     intro w hw;have he:=(h1.within trivial (by omega)).2.2;exact xrow_bad b w A n c l m k d hw j e (by rcases he with e | e <;> omega) (one d _ hd h1)
 | succ N ih=>
   intro k hN hk
   have one:∀ d r,d≤64→RdE l .one k d r→XOne b A n c l k d r:=by
    intro d r hd h w hw
    cases h with
    | deep h1 h2=>exact xone_deep b w A n c l k d hw h2 h1
    | @par _ _ x j h1 h2 h3 h4=>
      have hk1:k<l.length:=sg_lt (by rw[h1];decide);exact xone_shut b w A n c l k d hw hl hk h2 x j (h3.within (Nat.le_refl 1) (by omega)).2 h1 h4 ((ih (k+1) (by omega) (by omega)).2 1 (d+1) _ (by omega) (Nat.le_refl 1) h3)
    | @parOpen _ _ x j h1 h2 h3 h4=>
      have hk1:k<l.length:=sg_lt (by rw[h1];decide);exact xone_open b w A n c l k d hw hl hk h2 x j (h3.within (Nat.le_refl 1) (by omega)).2 h1 h4 ((ih (k+1) (by omega) (by omega)).2 1 (d+1) _ (by omega) (Nat.le_refl 1) h3)
    | @parBad _ _ j e h1 h2 h3=>
      have hk1:k<l.length:=sg_lt (by rw[h1];decide);exact xone_parbad b w A n c l k d hw hl hk h2 j e (h3.within (Nat.le_refl 1) (by omega)).2.2 h1 ((ih (k+1) (by omega) (by omega)).2 1 (d+1) _ (by omega) (Nat.le_refl 1) h3)
    | @neg _ _ x j h1 h2 h3=>
      have hk1:k<l.length:=sg_lt (by rw[h1];decide);exact xone_signed b w A n c l k d hw hl hk h2 2 (.inl ⟨h1,rfl⟩) x j ((ih (k+1) (by omega) (by omega)).1 (d+1) _ (by omega) h3)
    | @not _ _ x j h1 h2 h3=>
      have hk1:k<l.length:=sg_lt (by rw[h1];decide);exact xone_signed b w A n c l k d hw hl hk h2 3 (.inr ⟨h1,rfl⟩) x j ((ih (k+1) (by omega) (by omega)).1 (d+1) _ (by omega) h3)
    | @unBad _ _ j e h1 h2 h3=>
      have hk1:k<l.length:=by rcases h1 with e | e <;> exact sg_lt (by rw[e];decide)
      rcases h1 with h1 | h1
      ·exact xone_signbad b w A n c l k d hw hl hk h2 2 (.inl ⟨h1,rfl⟩) j e ((ih (k+1) (by omega) (by omega)).1 (d+1) _ (by omega) h3)
      ·exact xone_signbad b w A n c l k d hw hl hk h2 3 (.inr ⟨h1,rfl⟩) j e ((ih (k+1) (by omega) (by omega)).1 (d+1) _ (by omega) h3)
    | num h1 h2=>exact xone_num b w A n c l k d hw hl _ h1 h2
    | var h1 h2=>exact xone_var b w A n c l k d hw hl _ h1 h2
    | none h1 h2=>
      by_cases hkl:k<l.length
      ·obtain⟨n2,n6⟩:=h2 _ (List.getElem?_eq_getElem hkl)
       exact xone_none b w A n c l k d hw hl _ (List.getElem?_eq_getElem hkl) n2 n6 h1
      ·exact xone_past b w A n c l k d hw (by omega)
   refine⟨one,fun m d r hd hm h=>?_⟩
   cases h with
   | @some _ _ _ x j _ h1 h2=>
     intro w hw;have hj:=(h1.within trivial (by omega)).2;have hg:=h1.goes trivial (by omega) trivial _ _ rfl;exact xrow_ok b w A n c l m k d hw hl hd hm x j r (fun m' p' d' r' hp hpn hd' hm' h'=>(ih p' (by omega) hpn).2 m' d' r' hd' hm' h') (one d _ hd h1) ⟨hg,by omega⟩ h2
   | @someBad _ _ _ j e h1=>
     intro w hw;have he:=(h1.within trivial (by omega)).2.2;exact xrow_bad b w A n c l m k d hw j e (by rcases he with e | e <;> omega) (one d _ hd h1)
theorem tokrow_of {B:Nat} {w:World} {A:Option Addr} {n:Nat} {l:List Tok} (h:RdT B w A n l):TokRow B w A l:=fun k t ht=>by
 have hl:=(List.getElem?_eq_some_iff.1 ht).1;obtain⟨ad,e,hlt,hc⟩:=h.2 (by have:=h.1;omega);obtain⟨A',c',h5,_⟩:=hc k t ht;exact⟨ad,A',c',e,hlt,h5⟩
theorem TokRow.up {B B':Nat} {w:World} {A:Option Addr} {l:List Tok} (h:TokRow B w A l) (hB:B≤B'):TokRow B' w A l:=fun k t ht=>by
 obtain⟨ad,A',c',e,hlt,h5⟩:=h k t ht;exact⟨ad,A',c',e,by omega,h5⟩
theorem rdrx_new {w:World} {A:Option Addr} {n c:Nat} {l:List Tok} (k:Nat) (h:RdT w.heap.size w A n l) (o:Obj):
  RdrX (w.heap.size+1) ((w.alloc o).alloc (.cells #[.slice A n c,.int .i64 k,.int .i64 0] 66)) A n c l k 0:=by
 have hs:(w.alloc o).heap.size=w.heap.size+1:=size_allocX _ _;have hb:Below w.heap.size w ((w.alloc o).alloc (.cells #[.slice A n c,.int .i64 k,.int .i64 0] 66)):=two_boxesX w _ _;refine⟨?_,?_,?_,?_,?_,((tokrow_of h).keep fun p hp=>hb.cell hp).up (by omega),h.1⟩
 ·rw[←hs];exact new_at _ _ _ 0 _ rfl
 ·rw[←hs];exact new_at _ _ _ 1 _ rfl
 ·rw[←hs];exact new_at _ _ _ 2 _ rfl
 ·simp[go_sem]
 ·simp[go_sem]
structure ParX (w W:World) (cb:Nat) (A:Option Addr) (n c:Nat) (l:List Tok) (j o:Nat) (x:Ex) (A2:Option Addr) (c2:Nat):Prop where
 boxQ:Box5 W w.heap.size (.int .i64 0) (.int .i64 0) (.string ⟨#[]⟩) (.string ⟨#[]⟩) (.slice none 0 0)
 box:Box5 W cb (.int .i64 x.kind) (.int .i64 x.n) (.string ⟨x.name.toArray⟩) (.string ⟨x.op.toArray⟩) (.slice A2 x.kids.length c2)
 rd:RdrX (w.heap.size+1) W A n c l j o
 below:Below w.heap.size w W
 kids:KidsX (FrX (w.heap.size+2) W.heap.size) W A2 x
theorem parx_box {w w1 w2:World} {ob:Obj} {A:Option Addr} {n c:Nat} {l:List Tok} {j o:Nat} {x:Ex} {A2:Option Addr} {c2:Nat} (h1:w1=(w.alloc zeroX).alloc ob) (hg:w1.grownBy w2 (some (w.heap.size+1))) (hr:RdrX (w.heap.size+1) w2 A n c l j o)
  (hk:KidsX (FrX w1.heap.size w2.heap.size) w2 A2 x):ParX w (w2.alloc (objX x A2 c2)) w2.heap.size A n c l j o x A2 c2:=by
 have hs1:w1.heap.size=w.heap.size+2:=by rw[h1,size_allocX,size_allocX]
 have hs:=size_allocX w2 (objX x A2 c2);have hsz:=hg.size;have hb1:Below w.heap.size w w1:=by rw[h1];exact two_boxesX w _ _
 have hq:Box5 w1 w.heap.size (.int .i64 0) (.int .i64 0) (.string ⟨#[]⟩) (.string ⟨#[]⟩) (.slice none 0 0):=by rw[h1];exact(Box5.new w _ _ _ _ _ _).low (one_boxX _ _)
 rw[hs1] at hk;exact⟨(hq.grown hg (by omega)).low (one_boxX _ _),Box5.new w2 _ _ _ _ _ _,hr.box _,(hb1.trans (below_of_grown hg (by omega) (by omega))).trans ((one_boxX _ _).mono (by omega)),(hk.allocX (fun q hq=>hq.2) _).to (Nat.le_refl _) (by omega)⟩
theorem rparse_odd (A:Option Addr) (n c:Nat) (at_:Int) (w:World) (h:at_<0∨(n:Int)<at_):
  Calls Tryz.prog 16 #[.slice A n c,.int .i64 at_] w (PostPX w (.bad 0 1)):=by
 by_cases h0:at_<0
 ·go_enter Tryz.func16,Tryz.ntmps16
  go_wp2;exact bodyPost_ret (v:= .tuple #[.agg #[.int .i64 0,.int .i64 0,.string ⟨#[]⟩,.string ⟨#[]⟩,.slice none 0 0],.int .i64 0,.int .i64 1]) (by simp[results,Tryz.results16,go_sem]) rfl ⟨one_boxX _ _,rfl⟩
 ·have h1:(n:Int)<at_:=by omega
  go_enter Tryz.func16,Tryz.ntmps16;go_wp2;exact bodyPost_ret (v:= .tuple #[.agg #[.int .i64 0,.int .i64 0,.string ⟨#[]⟩,.string ⟨#[]⟩,.slice none 0 0],.int .i64 0,.int .i64 1]) (by simp[results,Tryz.results16,go_sem]) rfl ⟨one_boxX _ _,rfl⟩
structure ParY (w W:World) (A:Option Addr) (n c:Nat) (l:List Tok) (j o:Nat):Prop where
 boxQ:Box5 W w.heap.size (.int .i64 0) (.int .i64 0) (.string ⟨#[]⟩) (.string ⟨#[]⟩) (.slice none 0 0)
 rd:RdrX (w.heap.size+1) W A n c l j o
 below:Below w.heap.size w W
theorem parx_bad {w w1 w2:World} {ob O2:Obj} {A:Option Addr} {n c:Nat} {l:List Tok} {j o:Nat} (h1:w1=(w.alloc zeroX).alloc ob) (hg:w1.grownBy w2 (some (w.heap.size+1))) (hr:RdrX (w.heap.size+1) w2 A n c l j o):ParY w (w2.alloc O2) A n c l j o:=by
 have hs1:w1.heap.size=w.heap.size+2:=by rw[h1,size_allocX,size_allocX]
 have hsz:=hg.size;have hb1:Below w.heap.size w w1:=by rw[h1];exact two_boxesX w _ _
 have hq:Box5 w1 w.heap.size (.int .i64 0) (.int .i64 0) (.string ⟨#[]⟩) (.string ⟨#[]⟩) (.slice none 0 0):=by rw[h1];exact(Box5.new w _ _ _ _ _ _).low (one_boxX _ _)
 exact⟨(hq.grown hg (by omega)).low (one_boxX _ _),hr.box _,(hb1.trans (below_of_grown hg (by omega) (by omega))).trans ((one_boxX _ _).mono (by omega))⟩
theorem parseR_any (A:Option Addr) (n c:Nat) (l:List Tok) (k:Nat) (w:World) (h:RdT w.heap.size w A n l) (hl:l.length≤1000000) (hk:k≤l.length) (r:Rs) (hr:RdE l (.some 1) k 0 r):
  Calls Tryz.prog 16 #[.slice A n c,.int .i64 k] w (PostPX w r):=by
 have hn:=h.1;have HR0:Hid (∀ o,RdrX (w.heap.size+1) ((w.alloc o).alloc (.cells #[.slice A n c,.int .i64 k,.int .i64 0] 66)) A n c l k 0):=Lib.hid fun o=>rdrx_new k h o
 have HK:=(xread_all (w.heap.size+1) A n c l hl (l.length - k) k (Nat.le_refl _) hk).2 1 0 r (by omega) (Nat.le_refl 1) hr;have q1:¬ (k:Int)<0:=by omega
 have q2:¬ (n:Int)<k:=by omega
 cases r with
 | ok x j=>
   have K:Hid (∀ w',RdrX (w.heap.size+1) w' A n c l k 0→Calls Tryz.prog 32 #[.pointer (some ⟨w.heap.size+1,0,none⟩),.int .i64 1,.int .i64 0] w' (PostR9 (w.heap.size+1) w' A n c l (.ok x j))):=Lib.hid HK;clear HK h hl hk hr hn;go_enter Tryz.func16,Tryz.ntmps16;go_wp2_with (go_at_call 32;go_must ((with_reducible refine(K.out _ (HR0.out _)).mono ?_);rintro e w2 ⟨hg2,⟨A2,c2,rfl,hk2⟩,hr2⟩;have HQ2:=Lib.hid (parx_box (c2:=c2) (by rfl) hg2 hr2 hk2);have hy2:=hr2.c2;have hylt:=hr2.lt;clear hg2 hr2 hk2));obtain⟨W2,hW2⟩:∃ W2,W2=w2.alloc (objX x A2 c2):=⟨_,rfl⟩;have HQ:Hid (ParX w W2 w2.heap.size A n c l j 0 x A2 c2):=Lib.hid (by rw[hW2];exact HQ2.out);rw[←hW2];clear hW2 HQ2 hy2 hylt;have hz0:=HQ.out.rd.c0;have hz1:=HQ.out.rd.c1;have hz2:=HQ.out.rd.c2;obtain⟨d0,d1,d2,d3,d4,_⟩:=HQ.out.boxQ;obtain⟨e0,e1,e2,e3,e4⟩:=HQ.out.boxQ.freed;obtain⟨g0,g1,g2,g3,g4,_⟩:=HQ.out.box
   go_region
   go_wp2;obtain⟨W3,hW3⟩:∃ W3,W3=put5 W2 w.heap.size (.int .i64 x.kind) (.int .i64 x.n) (.string ⟨x.name.toArray⟩) (.string ⟨x.op.toArray⟩) (.slice A2 x.kids.length c2):=⟨_,rfl⟩;have hbx:Box5 W3 w.heap.size (.int .i64 x.kind) (.int .i64 x.n) (.string ⟨x.name.toArray⟩) (.string ⟨x.op.toArray⟩) (.slice A2 x.kids.length c2):=by rw[hW3];exact HQ.out.boxQ.put _ _ _ _ _
   have hbl:Below w.heap.size w W3.drew:=by
    rw[hW3];exact(((((HQ.out.below.setCell (Nat.le_refl _) _).setCell (Nat.le_refl _) _).setCell (Nat.le_refl _) _).setCell (Nat.le_refl _) _).setCell (Nat.le_refl _) _).drew
   have hkd:KidsX (LtX W3.drew.heap.size) W3.drew A2 x:=by
    have hs3:W3.drew.heap.size=W2.heap.size:=by show W3.heap.size=_;rw[hW3,size_put5]
    rw[hs3];exact((HQ.out.kids.put5 (c:=w.heap.size) (fun hq=>by have:=hq.1;omega) (.int .i64 x.kind) (.int .i64 x.n) (.string ⟨x.name.toArray⟩) (.string ⟨x.op.toArray⟩) (.slice A2 x.kids.length c2)).over (w':=W3.drew) (fun _ _=>by rw[hW3];rfl)).wide fun q hq=>hq.2
   unfold put5 at hW3;rw[←hW3];clear hW3 d0 d1 d2 d3 d4;obtain⟨d0,d1,d2,d3,d4,_⟩:=hbx;exact bodyPost_ret (v:= .tuple #[.agg #[.int .i64 x.kind,.int .i64 x.n,.string ⟨x.name.toArray⟩,.string ⟨x.op.toArray⟩,.slice A2 x.kids.length c2],.int .i64 j,.int .i64 0]) (by simp[results,Tryz.results16,go_sem,d0,d1,d2,d3,d4]) rfl ⟨hbl,A2,c2,rfl,hkd⟩
 | bad j er=>
   have K:Hid (∀ w',RdrX (w.heap.size+1) w' A n c l k 0→Calls Tryz.prog 32 #[.pointer (some ⟨w.heap.size+1,0,none⟩),.int .i64 1,.int .i64 0] w' (PostR9 (w.heap.size+1) w' A n c l (.bad j er))):=Lib.hid HK;have he:=(hr.within (Nat.le_refl 1) hk).2.2;have q3:((er:Int) != 0)=true:=by simp;omega
   have q4:(er != 0)=true:=by simp;omega
   clear HK h hl hk hr hn he;go_enter Tryz.func16,Tryz.ntmps16;go_wp2_with (go_at_call 32;go_must ((with_reducible refine(K.out _ (HR0.out _)).mono ?_);rintro e w2 ⟨hg2,⟨v0,v1,v2,v3,A4,n4,c4,rfl⟩,hr2⟩;have HQ2:=Lib.hid (parx_bad (O2:= .cells #[.int .i64 v0,.int .i64 v1,.string v2,.string v3,.slice A4 n4 c4] 24) (by rfl) hg2 hr2);have hy2:=hr2.c2;have hylt:=hr2.lt;clear hg2 hr2));obtain⟨W2,hW2⟩:∃ W2,W2=w2.alloc (.cells #[.int .i64 v0,.int .i64 v1,.string v2,.string v3,.slice A4 n4 c4] 24):=⟨_,rfl⟩;have HQ:Hid (ParY w W2 A n c l j er):=Lib.hid (by rw[hW2];exact HQ2.out);rw[←hW2];clear hW2 HQ2 hy2 hylt;have hz0:=HQ.out.rd.c0;have hz1:=HQ.out.rd.c1;have hz2:=HQ.out.rd.c2;obtain⟨d0,d1,d2,d3,d4,_⟩:=HQ.out.boxQ;obtain⟨e0,e1,e2,e3,e4⟩:=HQ.out.boxQ.freed
   go_region
   go_wp2;obtain⟨W3,hW3⟩:∃ W3,W3=put5 W2 w.heap.size (.int .i64 0) (.int .i64 0) (.string ⟨#[]⟩) (.string ⟨#[]⟩) (.slice none 0 0):=⟨_,rfl⟩;have hbx:Box5 W3 w.heap.size (.int .i64 0) (.int .i64 0) (.string ⟨#[]⟩) (.string ⟨#[]⟩) (.slice none 0 0):=by rw[hW3];exact HQ.out.boxQ.put _ _ _ _ _
   have hbl:Below w.heap.size w W3.drew:=by
    rw[hW3];exact(((((HQ.out.below.setCell (Nat.le_refl _) _).setCell (Nat.le_refl _) _).setCell (Nat.le_refl _) _).setCell (Nat.le_refl _) _).setCell (Nat.le_refl _) _).drew
   unfold put5 at hW3;rw[←hW3];clear hW3 d0 d1 d2 d3 d4;obtain⟨d0,d1,d2,d3,d4,_⟩:=hbx;exact bodyPost_ret (v:= .tuple #[.agg #[.int .i64 0,.int .i64 0,.string ⟨#[]⟩,.string ⟨#[]⟩,.slice none 0 0],.int .i64 j,.int .i64 er]) (by simp[results,Tryz.results16,go_sem,d0,d1,d2,d3,d4]) rfl ⟨hbl,rfl⟩
def putN:List Bs→Bs→List Bs
 | [],n=>[n]
 | x::l,n=>if x<n then x::putN l n else if x=n then x::l else n::x::l
mutual
def varsX:Ex→List Bs
 | .mk k _ nm _ ks=>(if k=1 then [nm] else [])++varsL ks
def varsL:List Ex→List Bs
 | []=>[]
 | x::r=>varsX x++varsL r
end
theorem varsL_snoc (x:Ex):∀ l:List Ex,varsL (l++[x])=varsL l++varsX x
 | []=>by rw[List.nil_append,varsL,varsL,varsL,List.append_nil,List.nil_append]
 | y::l=>by rw[List.cons_append,varsL,varsL,varsL_snoc x l,List.append_assoc]
theorem varsL_app (a:List Ex):∀ b:List Ex,varsL (a++b)=varsL a++varsL b:=by
 induction a with
 | nil=>intro b;rw[List.nil_append,varsL,List.nil_append]
 | cons x a ih=>intro b;rw[List.cons_append,varsL,varsL,ih,List.append_assoc]
def namesX (e:Ex) (met:List Bs):List Bs:=(varsX e).foldl putN met
theorem namesX_kids (k n:Int) (nm op:Bs) (ks:List Ex) (met:List Bs):namesX (.mk k n nm op ks) met=(varsL ks).foldl putN (if k=1 then putN met nm else met):=by
 unfold namesX;rw[varsX,List.foldl_append];by_cases h:k=1
 ·rw[if_pos h,if_pos h];rfl
 ·rw[if_neg h,if_neg h];rfl
theorem names_take {ks:List Ex} {j:Nat} {x:Ex} (h:ks[j]?=some x) (met:List Bs):(varsL (ks.take (j+1))).foldl putN met=namesX x ((varsL (ks.take j)).foldl putN met):=by
 obtain⟨hk,e⟩:=List.getElem?_eq_some_iff.1 h;rw[List.take_succ_eq_append_getElem hk,e,varsL_snoc,List.foldl_append];rfl
def Rise (l:List Bs):Prop:=l.Pairwise (·<·)
theorem mem_putN (n:Bs):∀ (l:List Bs) (y:Bs),y∈putN l n ↔ y=n∨y∈l
 | [],y=>by simp[putN]
 | x::l,y=>by
   rw[putN]
   split
   ·rw[List.mem_cons,List.mem_cons,mem_putN n l y]
    constructor
    ·rintro(h | h | h)
     ·exact .inr (.inl h)
     ·exact .inl h
     ·exact .inr (.inr h)
    ·rintro(h | h | h)
     ·exact .inr (.inl h)
     ·exact .inl h
     ·exact .inr (.inr h)
   ·split
    ·rename_i e
     rw[List.mem_cons]
     constructor
     ·intro h;exact .inr h
     ·rintro(h | h)
      ·exact .inl (h.trans e.symm)
      ·exact h
    ·rw[List.mem_cons]
theorem rise_putN (n:Bs):∀ (l:List Bs),Rise l→Rise (putN l n)
 | [],_=>by simp[putN,Rise]
 | x::l,h=>by
   unfold Rise at h ⊢;rw[List.pairwise_cons] at h;rw[putN]
   split
   ·rename_i a
    rw[List.pairwise_cons];refine⟨fun y hy=>?_,rise_putN n l h.2⟩
    rcases(mem_putN n l y).1 hy with e | hy
    ·rw[e];exact a
    ·exact h.1 y hy
   ·split
    ·rw[List.pairwise_cons];exact h
    ·rename_i a b
     have hlt:n<x:=by
      by_cases c:n<x
      ·exact c
      ·exact absurd (List.le_antisymm c a) b
     rw[List.pairwise_cons,List.pairwise_cons];refine⟨fun y hy=>?_,h⟩
     rcases List.mem_cons.1 hy with e | hy
     ·rw[e];exact hlt
     ·exact List.lt_trans hlt (h.1 y hy)
theorem fold_mem (y:Bs):∀ (l met:List Bs),y∈l.foldl putN met ↔ y∈l∨y∈met
 | [],met=>by simp
 | x::l,met=>by
   rw[List.foldl_cons,fold_mem y l,mem_putN,List.mem_cons]
   constructor
   ·rintro(h | h | h)
    ·exact .inl (.inr h)
    ·exact .inl (.inl h)
    ·exact .inr h
   ·rintro((h | h) | h)
    ·exact .inr (.inl h)
    ·exact .inl h
    ·exact .inr (.inr h)
theorem fold_rise:∀ (l met:List Bs),Rise met→Rise (l.foldl putN met)
 | [],_,h=>h
 | x::l,met,h=>by rw[List.foldl_cons];exact fold_rise l _ (rise_putN x met h)
theorem rise_eq:∀ (a b:List Bs),Rise a→Rise b→(∀ y,y∈a ↔ y∈b)→a=b
 | [],[],_,_,_=>rfl
 | [],y::b,_,_,h=>absurd ((h y).2 (by simp)) (by simp)
 | x::a,[],_,_,h=>absurd ((h x).1 (by simp)) (by simp)
 | x::a,y::b,ha,hb,h=>by
   unfold Rise at ha hb;rw[List.pairwise_cons] at ha hb
   have e:x=y:=by
    rcases List.mem_cons.1 ((h x).1 (by simp)) with e | hx
    ·exact e
    ·rcases List.mem_cons.1 ((h y).2 (by simp)) with e | hy
     ·exact e.symm
     ·exact absurd (List.lt_trans (ha.1 y hy) (hb.1 x hx)) (List.lt_irrefl x)
   subst e
   have hn:∀ z,z∈a ↔ z∈b:=fun z=>by
    constructor
    ·intro hz
     rcases List.mem_cons.1 ((h z).1 (by simp[hz])) with e | hz'
     ·rw[e] at hz;exact absurd (ha.1 x hz) (List.lt_irrefl x)
     ·exact hz'
    ·intro hz
     rcases List.mem_cons.1 ((h z).2 (by simp[hz])) with e | hz'
     ·rw[e] at hz;exact absurd (hb.1 x hz) (List.lt_irrefl x)
     ·exact hz'
   rw[rise_eq a b ha.2 hb.2 hn]
theorem compact_upto (d:Array Bs) (hd:∀ i j,i≤j→j<d.size→¬ d[j]! <d[i]!):∀ m,m≤d.size→
  Rise (Lib.compactUpTo d m)∧(∀ y,y∈Lib.compactUpTo d m ↔ ∃ j,j<m∧d[j]! =y)
 | 0,_=>⟨by simp[Lib.compactUpTo,Rise],fun y=>by simp[Lib.compactUpTo]⟩
 | m+1,hm=>by
   obtain⟨h1,h2⟩:=compact_upto d hd m (by omega);rw[Lib.compactUpTo_succ];by_cases h0:m=0
   ·subst h0
    rw[Lib.keeps_lt_one d 0 (by omega),if_pos rfl];have e0:Lib.compactUpTo d 0=[]:=by simp[Lib.compactUpTo]
    rw[e0,List.nil_append];refine⟨by simp[Rise],fun y=>?_⟩;rw[List.mem_singleton]
    constructor
    ·intro e;exact⟨0,by omega,e.symm⟩
    ·rintro⟨j,hj,e⟩
     obtain rfl:j=0:=by omega
     exact e.symm
   ·by_cases hk:d[m]! =d[m - 1]!
    ·rw[Lib.keeps_neg (by omega) hk,if_neg (by decide),List.append_nil]
     refine⟨h1,fun y=>?_⟩;rw[h2]
     constructor
     ·rintro⟨j,hj,e⟩;exact⟨j,by omega,e⟩
     ·rintro⟨j,hj,e⟩
      by_cases c:j=m
      ·subst c;exact⟨j - 1,by omega,by rw[←hk];exact e⟩
      ·exact⟨j,by omega,e⟩
    ·rw[Lib.keeps_pos hk,if_pos rfl]
     refine⟨?_,fun y=>?_⟩
     ·unfold Rise
      rw[List.pairwise_append];refine⟨h1,by simp,fun a ha b hb=>?_⟩;rw[List.mem_singleton] at hb;subst hb;obtain⟨j,hj,rfl⟩:=(h2 a).1 ha;have l1:=hd (m - 1) m (by omega) (by omega);have l2:=hd j (m - 1) (by omega) (by omega);have l3:=hd j m (by omega) (by omega);by_cases c:d[j]! <d[m]!
      ·exact c
      ·have e:d[j]! =d[m]! :=List.le_antisymm l3 c
       rw[e] at l2;exact absurd (List.le_antisymm l2 l1) hk
     ·rw[List.mem_append,h2,List.mem_singleton]
      constructor
      ·rintro(⟨j,hj,e⟩ | e)
       ·exact⟨j,by omega,e⟩
       ·exact⟨m,by omega,e.symm⟩
      ·rintro⟨j,hj,e⟩
       by_cases c:j=m
       ·subst c;exact .inr e.symm
       ·exact .inl ⟨j,by omega,e⟩
def sortN (l:List Bs):List Bs:=l.mergeSort fun x y=>decide (x≤y)
theorem sortN_at (l:List Bs):∀ i j,i≤j→j<(sortN l).toArray.size→¬ (sortN l).toArray[j]! <(sortN l).toArray[i]! :=by
 intro i j hij hj
 have hp:(sortN l).Pairwise fun a b=>decide (a≤b)=true:=List.pairwise_mergeSort (le:=fun x y:Bs=>decide (x≤y)) (fun a b c h1 h2=>by
  simp only[decide_eq_true_eq] at h1 h2 ⊢;exact List.le_trans h1 h2) (fun a b=>by
  simp only[Bool.or_eq_true,decide_eq_true_eq];exact List.le_total a b) l
 have hj':j<(sortN l).length:=by simpa using hj
 by_cases e:i=j
 ·subst e;exact List.lt_irrefl _
 ·rw[getElem!_pos _ j hj,getElem!_pos _ i (by omega)]
  have:=List.pairwise_iff_getElem.1 hp i j (by omega) hj' (by omega);simpa using this
theorem compact_sort (l v:List Bs) (h:∀ y,y∈l ↔ y∈v):Lib.compact (sortN l)=v.foldl putN []:=by
 obtain⟨h1,h2⟩:=compact_upto (sortN l).toArray (sortN_at l) (sortN l).length (by simp);refine rise_eq _ _ h1 (fold_rise v [] (by simp[Rise])) fun y=>?_
 rw[fold_mem,show Lib.compact (sortN l)=Lib.compactUpTo (sortN l).toArray (sortN l).length from rfl,h2]
 constructor
 ·rintro⟨j,hj,e⟩
  rw[getElem!_pos _ j (by simpa using hj)] at e;have:y∈sortN l:=by rw[←e];exact List.getElem_mem hj
  exact .inl ((h y).1 (List.mem_mergeSort.1 this))
 ·rintro(hy | hy)
  ·have:y∈sortN l:=List.mem_mergeSort.2 ((h y).2 hy)
   obtain⟨j,hj,e⟩:=List.getElem_of_mem this;exact⟨j,hj,by rw[getElem!_pos _ j (by simpa using hj)];exact e⟩
  ·cases hy
end Go.Proofs.YthghbdeaenjckaaGreatDoor
