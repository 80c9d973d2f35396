import Derived.Test.YtngfihoempcplaaGreatDoorCf
import Derived.Test.YtngfihoempcplaaGreatDoorEx17
namespace Go.Proofs.YtngfihoempcplaaGreatDoor
open Go Go.RowKit
set_option maxRecDepth 100000
set_option maxHeartbeats 4000000
def placeW (b:Nat) (w:World):Nat:=(intOf ((w.cell? ⟨b,1,none⟩).getD (.int .i64 0))).toNat
theorem y9a {b:Nat} {w:World} {A:OA} {n c:Nat} {l:List Tok} {p:Nat} (h:RdC b w A n c l p):placeW b w=p:=by unfold placeW;rw[h.c1];simp[intOf]
def NoX (lo c hi:Nat):Nat→Prop:=fun q=>lo≤q∧q<hi∧q≠c
structure LoopOk (b:Nat) (w:World) (cb:Nat) (A:OA) (n c:Nat) (l:List Tok) (m k d:Nat) (r:Rs) (wr:World) (x:Ex) (p:Nat) (A1:OA) (c1:Nat):Prop where
 mid:MidO b w wr A n c l p
 box:Box5 wr cb (.int .i64 x.kind) (.int .i64 x.n) (.string ⟨x.name.toArray⟩) (.string ⟨x.op.toArray⟩) (.slice A1 x.kids.length c1)
 kids:KidsX (NoX (w.heap.size+1) cb wr.heap.size) wr A1 x
 rest:RdE l (.loop m x) p d r
 lo:k<p
 hi:p≤n
 lt:cb<wr.heap.size
structure LoopBad (b:Nat) (w:World) (cb:Nat) (A:OA) (n c:Nat) (l:List Tok) (r:Rs) (wr:World) (j er:Nat):Prop where
 mid:MidO b w wr A n c l j
 box:Box5 wr cb (.int .i64 0) oZ oS oS ()
 res:r= .bad j er
 err:er=1∨er=8
def LoopR (b:Nat) (w:World) (cb:Nat) (A:OA) (n c:Nat) (l:List Tok) (m k d:Nat) (r:Rs) (v:Value) (wr:World):Prop:=
 (∃ x p A1 c1,v= .int .i64 0∧LoopOk b w cb A n c l m k d r wr x p A1 c1)∨∃ j er,v= .int .i64 (er:Nat)∧LoopBad b w cb A n c l r wr j er
noncomputable def loopM (b n:Nat) (v:Value) (wr:World):Nat:=if intOf v=0 then n+1 - placeW b wr else 0
theorem LoopOk.low {b:Nat} {w:World} {cb:Nat} {A:OA} {n c:Nat} {l:List Tok} {m k d:Nat} {r:Rs} {wr:World} {x:Ex} {p:Nat} {A1:OA} {c1:Nat} (h:LoopOk b w cb A n c l m k d r wr x p A1 c1) (hlt:b<w.heap.size) {W:World} (hb:Below wr.heap.size wr W):LoopOk b w cb A n c l m k d r W x p A1 c1:=
 ⟨h.mid.low hlt hb,h.box.low hb,(h.kids.over fun q hq=>hb.block q hq.2.1).wide fun q hq=>⟨hq.1,by have:=hq.2.1;have:=hb.size;omega,hq.2.2⟩,h.rest,h.lo,h.hi,by have:=h.lt;have:=hb.size;omega⟩
theorem LoopOk.own {b:Nat} {w:World} {cb:Nat} {A:OA} {n c:Nat} {l:List Tok} {m k d:Nat} {r:Rs} {wr:World} {x:Ex} {p:Nat} {A1:OA} {c1:Nat} (_:LoopOk b w cb A n c l m k d r wr x p A1 c1) (hlt:b<w.heap.size):∀ q,NoX (w.heap.size+1) cb wr.heap.size q→q<wr.heap.size∧q≠b:=fun q hq=>⟨hq.2.1,by have:=hq.1;omega⟩
theorem MidO.put5 {b:Nat} {w W:World} {A:OA} {n c:Nat} {l:List Tok} {k:Nat} (h:MidO b w W A n c l k) (hlt:b<w.heap.size) {q:Nat} (hq:w.heap.size<q) (v0 v1 v2 v3 v4:Value):MidO b w (put5 W q v0 v1 v2 v3 v4) A n c l k:=
 ⟨((((h.boxQ.other (a:=⟨q,0,none⟩) (Nat.ne_of_gt hq) _).other (a:=⟨q,1,none⟩) (Nat.ne_of_gt hq) _).other (a:=⟨q,2,none⟩) (Nat.ne_of_gt hq) _).other (a:=⟨q,3,none⟩) (Nat.ne_of_gt hq) _).other (a:=⟨q,4,none⟩) (Nat.ne_of_gt hq) _,
   z2n h.grown (Nat.le_of_lt hq) _ _ _ _ _,h.rd.put5 (by omega) _ _ _ _ _,by rw[z0y];exact h.size⟩
theorem z6s {b n:Nat} {w:World} {A:OA} {c:Nat} {l:List Tok} {p:Nat} (h:RdC b w A n c l p):loopM b n (.int .i64 0) w=n+1 - p:=by
 unfold loopM;rw[y9a h];exact if_pos rfl
theorem y1k {b n:Nat} {w:World} {er:Nat} (h:er≠0):loopM b n (.int .i64 (er:Nat)) w=0:=by
 unfold loopM;exact if_neg (by show ¬ (er:Int)=0;omega)
theorem LoopOk.next {b:Nat} {w:World} {cb:Nat} {A:OA} {n c:Nat} {l:List Tok} {m k d:Nat} {r:Rs} {wr:World} {x:Ex} {p:Nat} {A1:OA} {c1:Nat} (h:LoopOk b w cb A n c l m k d r wr x p A1 c1) (hlt:b<w.heap.size) (hcb:w.heap.size<cb) {W:World} {x':Ex} {p':Nat} {A':OA} {c':Nat}
  (hg:wr.grownBy W (some b)) (hk:KidsX (fun q=>NoX (w.heap.size+1) cb wr.heap.size q∨FrX wr.heap.size W.heap.size q) W A' x') (hr:RdC b W A n c l p') (hrest:RdE l (.loop m x') p' d r) (hp:p<p') (hn:p'≤n):
  LoopOk b w cb A n c l m k d r (put5 W cb (.int .i64 x'.kind) (.int .i64 x'.n) (.string ⟨x'.name.toArray⟩) (.string ⟨x'.op.toArray⟩) (.slice A' x'.kids.length c')) x' p' A' c':=by
 have hsz:=hg.size;have hcl:=h.lt;refine⟨(h.mid.more hlt hg hr).put5 hlt hcb _ _ _ _ _,(h.box.grown hg (by omega)).put _ _ _ _ _,?_,hrest,by have:=h.lo;omega,hn,by rw[z0y];omega⟩;rw[z0y]
 exact(hk.wide fun q hq=>by
  rcases hq with hq | hq
  ·exact⟨hq.1,by have:=hq.2.1;omega,hq.2.2⟩
  ·exact⟨by have:=hq.1;have:=h.mid.size;omega,hq.2,by have:=hq.1;omega⟩:KidsX (NoX (w.heap.size+1) cb W.heap.size) W A' x').put5 (fun hq=>hq.2.2 rfl) _ _ _ _ _
theorem LoopOk.fell {b:Nat} {w:World} {cb:Nat} {A:OA} {n c:Nat} {l:List Tok} {m k d:Nat} {r:Rs} {wr:World} {x:Ex} {p:Nat} {A1:OA} {c1:Nat} (h:LoopOk b w cb A n c l m k d r wr x p A1 c1) (hlt:b<w.heap.size) (hcb:w.heap.size<cb) {W:World} {j er:Nat}
  (hg:wr.grownBy W (some b)) (hr:RdC b W A n c l j) (hres:r= .bad j er) (he:er=1∨er=8):LoopBad b w cb A n c l r (put5 W cb (.int .i64 0) oZ oS oS ()) j er:=
 ⟨(h.mid.more hlt hg hr).put5 hlt hcb _ _ _ _ _,(h.box.grown hg (by omega)).put _ _ _ _ _,hres,he⟩
theorem x44 (b:Nat) (w:World) (A:OA) (n c:Nat) (l:List Tok) (m k d:Nat) (h:RdC b w A n c l k) (hf:FitL l) (hd:d≤64) (hm:1≤m) (x:Ex) (p:Nat) (r:Rs)
  (HRow:∀ m' p' d' r',k<p'→p'≤n→d'≤64→1≤m'→RdE l (.some m') p' d' r'→ConRow b A n c l m' p' d' r')
  (HOne:ConOne b A n c l k d (.ok x p)) (hp:k<p∧p≤n) (hr:RdE l (.loop m x) p d r):
  Cz 131 #[pP b,.int .i64 m,.int .i64 d] w (PostC b w A n c l r):=by
 have hlt:=h.lt;have hln:=h.row.1;have HM0:Hid (MidO b w (w.alloc zeroX) A n c l k):=zz (MidO.first h bR);have K1:Hid (∀ w,RdC b w A n c l k→Cz 153 #[pP b,.int .i64 d] w (PostC b w A n c l (.ok x p))):=zz HOne;have HR:=zz HRow;have HF:=zz hf;have HRest:=zz hr;have HLN:=zz hln;have hmx:Hid (∀ i,strong (sg l i)≤6):=zz fun i=>z4t _
 clear h HOne HRow hf hr hln;go_enter Tryz.func131,Tryz.ntmps131;go_wp2_with (go_at_call 153;go_must ((with_reducible refine(K1.out _ HM0.out.rd).mono ?_);rintro e w2 ⟨hg2,⟨A2,c2,rfl,hk2⟩,hr2⟩;have HM2:=zz (HM0.out.more hlt hg2 hr2);have HKD:=zz hk2;clear hg2 hr2 hk2));obtain⟨W2,hW2⟩:∃ W2,W2=w2.alloc (objX x A2 c2):=⟨_,rfl⟩
 have HL0:Hid (LoopOk b w w2.heap.size A n c l m k d r W2 x p A2 c2):=zz (by
  have hs:W2.heap.size=w2.heap.size+1:=by rw[hW2];exact z0j _ _
  have hs1:=z0j w zeroX;have g:=HKD.out;rw[hs1] at g;refine⟨by rw[hW2];exact HM2.out.low hlt (z0b _ _),by rw[hW2];exact Box5.new w2 _ _ _ _ _ _,?_,HRest.out,hp.1,hp.2,by omega⟩;rw[hs,hW2];exact(g.allocX (fun q hq=>hq.2) _).wide fun q hq=>⟨hq.1,by have:=hq.2;omega,by have:=hq.2;omega⟩)
 rw[←hW2];have HS2:=zz HM2.out.size;clear hW2
 go_loopw [9] (fun v wr=>LoopR b w w2.heap.size A n c l m k d r v wr) (fun v wr=>loopM b n v wr)
 case atStart=>exact .inl ⟨x,p,A2,c2,rfl,HL0.out⟩
 case round=>
  have HC:Hid (w.heap.size<w2.heap.size):=HS2
  rcases hrel with ⟨x1,p1,A1,c1,rfl,hl⟩ | ⟨j,er,rfl,hl⟩
  ·have HL:=zz hl
   have hpl:=hl.hi;obtain⟨S,hS⟩:∃ S:BA,S=⟨(sg l p1).toArray⟩:=⟨_,rfl⟩;have KS:Hid (∀ w,RdC b w A n c l p1→Cz 155 #[pP b] w fun e w'=>e= .returned (.string S)∧Below w.heap.size w w'):=zz fun w h=>by rw[hS];exact z1c b w A n c l p1 h HF.out hpl
   have eS:S.data.toList=sg l p1:=by rw[hS]
   have KT:Hid (∀ w,Cz 154 #[.string S] w fun e w'=>e= .returned (.int .i64 (strong (sg l p1)))∧w=w'):=zz fun w=>by rw[←eS];exact z3o S w
   clear hS eS;obtain⟨st,hst⟩:∃ st,st=strong (sg l p1):=⟨_,rfl⟩;rw[←hst] at KT;have HST:=zz hst;have hrest:=hl.rest;clear hl hst
   cases hrest with
   | stop h1=>
     rw[←HST.out] at h1;have g1:decide ((m:Int)≤(st:Int))=false:=by simp;omega
     have g2:decide (m≤st)=false:=by simp;omega
     clear hp hpl hm hd;go_wp2_with (first | (go_at_call 155;go_must ((with_reducible refine(KS.out _ HL.out.mid.rd).mono ?_);rintro e w3 ⟨rfl,hb3⟩;have HL3:=zz (HL.out.low hlt hb3);clear hb3;obtain⟨d0,d1,d2,d3,d4,_⟩:=HL3.out.mid.boxQ;obtain⟨e0,e1,e2,e3,e4⟩:=HL3.out.mid.boxQ.freed;obtain⟨g0,g1,g2,g3,g4,_⟩:=HL3.out.box)) | (go_at_call 154;go_must ((with_reducible refine(KT.out _).mono ?_);rintro e w' ⟨rfl,rfl⟩)));obtain⟨W3,hW3⟩:∃ W3,W3=put5 w3 w.heap.size (.int .i64 x1.kind) (.int .i64 x1.n) (.string ⟨x1.name.toArray⟩) (.string ⟨x1.op.toArray⟩) (.slice A1 x1.kids.length c1):=⟨_,rfl⟩;have HE:EndQ b w.heap.size w W3 A n c l p1 (.int .i64 x1.kind) (.int .i64 x1.n) (.string ⟨x1.name.toArray⟩) (.string ⟨x1.op.toArray⟩) (.slice A1 x1.kids.length c1):=end_q hlt nR HL3.out.mid.boxQ HL3.out.mid.grown HL3.out.mid.rd (by rw[hW3];exact Below.refl _ _)
     have hk3:KidsX (FrX w.heap.size W3.heap.size) W3 A1 x1:=by
      rw[hW3];exact(HL3.out.kids.put5 (fun hq=>by have:=hq.1;omega) _ _ _ _ _).wide fun q hq=>⟨by have:=hq.1;omega,by rw[z0y];exact hq.2.1⟩
     unfold put5 at hW3;rw[←hW3];clear hW3 d0 d1 d2 d3 d4;obtain⟨d0,d1,d2,d3,d4,_⟩:=HE.box;exact bodyPost_ret (v:= .tuple #[.agg #[.int .i64 x1.kind,.int .i64 x1.n,.string ⟨x1.name.toArray⟩,.string ⟨x1.op.toArray⟩,.slice A1 x1.kids.length c1],iI 0]) (by simp[results,Tryz.results131,go_sem,d0,d1,d2,d3,d4]) rfl ⟨HE.grown,⟨_,_,rfl,hk3⟩,HE.rd⟩
   | opDeep h1 h2=>
     rw[←HST.out] at h1;have q1:decide ((m:Int)≤(st:Int))=true:=by simp;omega
     have q2:decide (m≤st)=true:=by simp;omega
     have q3:(m:Int)≤st:=by omega
     have hd64:((d:Nat):Int)=64:=by omega
     obtain⟨er,her⟩:∃ er:Nat,er=8:=⟨_,rfl⟩;rw[show Rs.bad p1 8=Rs.bad p1 er by rw[her]] at HL ⊢;have KB:Hid (∀ W,LoopOk b w w2.heap.size A n c l m k d (.bad p1 er) W x1 p1 A1 c1→Cz 156 #[pP b,.agg #[.int .i64 x1.kind,.int .i64 x1.n,.string ⟨x1.name.toArray⟩,.string ⟨x1.op.toArray⟩,.slice A1 x1.kids.length c1],.int .i64 d] W (PostB b (NoX (w.heap.size+1) w2.heap.size W.heap.size) W A n c l (.bad p1 er))):=zz fun W hW=>by rw[her,hd64];exact y3f b _ W A n c l p1 hW.mid.rd HF.out hW.hi x1 A1 c1 hW.kids (hW.own hlt)
     have HER:=zz her;have HPL:=zz hpl;clear hp hpl hm hd h1 h2 her hd64;go_wp2_with (first | (go_at_call 155;go_must ((with_reducible refine(KS.out _ HL.out.mid.rd).mono ?_);rintro e w3 ⟨rfl,hb3⟩;have HL3:=zz (HL.out.low hlt hb3);clear hb3;obtain⟨g0,g1,g2,g3,g4,_⟩:=HL3.out.box)) | (go_at_call 154;go_must ((with_reducible refine(KT.out _).mono ?_);rintro e w' ⟨rfl,rfl⟩)) | (go_at_call 156;go_must ((with_reducible refine(KB.out _ HL3.out).mono ?_);rintro e w4 ⟨hg4,rfl,hr4⟩;have HG4:=zz hg4;have HR4:=zz hr4;have HBX:=zz (HL3.out.box.grown hg4 (by have:=HC.out;omega));obtain⟨d0,d1,d2,d3,d4,_⟩:=HBX.out;obtain⟨e0,e1,e2,e3,e4⟩:=HBX.out.freed;clear hg4 hr4)))
     go_roundw
     case rel=>exact .inr ⟨p1,er,rfl,HL3.out.fell hlt HC.out HG4.out HR4.out rfl (.inr HER.out)⟩
     case measure=>rw[y1k (by have:=HER.out;omega),z6s HL.out.mid.rd];have:=HPL.out;omega
   | @op _ _ _ _ y k2 _ h1 h2 h3 h4=>
     rw[←HST.out] at h1;have q1:decide ((m:Int)≤(st:Int))=true:=by simp;omega
     have q2:decide (m≤st)=true:=by simp;omega
     have q3:(m:Int)≤st:=by omega
     have hpos:(Md.some (strong (sg l p1)+1)).pos:=by show 1≤strong (sg l p1)+1;omega
     have hp1:p1<l.length:=z1j hm (by rw[←HST.out];exact h1);have hwk:=h3.within hpos (by omega);have hk2:p1<k2∧k2≤n:=by have:=hwk.1;have:=hwk.2;have:=HLN.out;omega
     obtain⟨x',hx'⟩:∃ x',x'=exBin (sg l p1) x1 y:=⟨_,rfl⟩
     have KB:Hid (∀ W,LoopOk b w w2.heap.size A n c l m k d r W x1 p1 A1 c1→Cz 156 #[pP b,.agg #[.int .i64 x1.kind,.int .i64 x1.n,.string ⟨x1.name.toArray⟩,.string ⟨x1.op.toArray⟩,.slice A1 x1.kids.length c1],.int .i64 d] W (PostB b (NoX (w.heap.size+1) w2.heap.size W.heap.size) W A n c l (.ok x' k2))):=zz fun W hW=>by
      rw[hx'];exact x0k b _ W A n c l p1 d hW.mid.rd HF.out hW.hi h2 x1 A1 c1 hW.kids (hW.own hlt) y k2 (HR.out _ _ _ _ (by have:=hW.lo;omega) (by have:=HLN.out;omega) (by omega) (by omega) h3)
     have HX4:Hid (RdE l (.loop m x') k2 d r):=zz (by rw[hx'];exact h4);have HK2:=zz hk2;clear hp hpl hm hd h1 h2 h3 h4 hpos hp1 hwk hx' hk2;go_wp2_with (first | (go_at_call 155;go_must ((with_reducible refine(KS.out _ HL.out.mid.rd).mono ?_);rintro e w3 ⟨rfl,hb3⟩;have HL3:=zz (HL.out.low hlt hb3);clear hb3;obtain⟨g0,g1,g2,g3,g4,_⟩:=HL3.out.box)) | (go_at_call 154;go_must ((with_reducible refine(KT.out _).mono ?_);rintro e w' ⟨rfl,rfl⟩)) | (go_at_call 156;go_must ((with_reducible refine(KB.out _ HL3.out).mono ?_);rintro e w4 ⟨hg4,⟨A4,c4,rfl,hk4⟩,hr4⟩;have HG4:=zz hg4;have HR4:=zz hr4;have HK4:=zz hk4;have HBX:=zz (HL3.out.box.grown hg4 (by have:=HC.out;omega));obtain⟨d0,d1,d2,d3,d4,_⟩:=HBX.out;obtain⟨e0,e1,e2,e3,e4⟩:=HBX.out.freed;clear hg4 hr4 hk4)))
     go_roundw
     case rel=>exact .inl ⟨x',k2,A4,c4,rfl,HL3.out.next hlt HC.out HG4.out HK4.out HR4.out HX4.out HK2.out.1 HK2.out.2⟩
     case measure=>rw[z6s (HL3.out.next hlt HC.out HG4.out HK4.out HR4.out HX4.out HK2.out.1 HK2.out.2).mid.rd,z6s HL.out.mid.rd];have:=HK2.out;omega
   | @opBad _ _ _ _ j er h1 h2 h3=>
     rw[←HST.out] at h1;have q1:decide ((m:Int)≤(st:Int))=true:=by simp;omega
     have q2:decide (m≤st)=true:=by simp;omega
     have q3:(m:Int)≤st:=by omega
     have hpos:(Md.some (strong (sg l p1)+1)).pos:=by show 1≤strong (sg l p1)+1;omega
     have hp1:p1<l.length:=z1j hm (by rw[←HST.out];exact h1);have hwk:=h3.within hpos (by omega)
     have KB:Hid (∀ W,LoopOk b w w2.heap.size A n c l m k d (.bad j er) W x1 p1 A1 c1→Cz 156 #[pP b,.agg #[.int .i64 x1.kind,.int .i64 x1.n,.string ⟨x1.name.toArray⟩,.string ⟨x1.op.toArray⟩,.slice A1 x1.kids.length c1],.int .i64 d] W (PostB b (NoX (w.heap.size+1) w2.heap.size W.heap.size) W A n c l (.bad j er))):=zz fun W hW=>
      y6e b _ W A n c l p1 d hW.mid.rd HF.out hW.hi h2 x1 A1 c1 hW.kids (hW.own hlt) j er (by rcases hwk.2.2 with e | e <;> omega) (HR.out _ _ _ _ (by have:=hW.lo;omega) (by have:=HLN.out;omega) (by omega) (by omega) h3)
     have HER:=zz hwk.2.2;have HPL:=zz hpl;clear hp hpl hm hd h1 h2 h3 hpos hp1 hwk;go_wp2_with (first | (go_at_call 155;go_must ((with_reducible refine(KS.out _ HL.out.mid.rd).mono ?_);rintro e w3 ⟨rfl,hb3⟩;have HL3:=zz (HL.out.low hlt hb3);clear hb3;obtain⟨g0,g1,g2,g3,g4,_⟩:=HL3.out.box)) | (go_at_call 154;go_must ((with_reducible refine(KT.out _).mono ?_);rintro e w' ⟨rfl,rfl⟩)) | (go_at_call 156;go_must ((with_reducible refine(KB.out _ HL3.out).mono ?_);rintro e w4 ⟨hg4,rfl,hr4⟩;have HG4:=zz hg4;have HR4:=zz hr4;have HBX:=zz (HL3.out.box.grown hg4 (by have:=HC.out;omega));obtain⟨d0,d1,d2,d3,d4,_⟩:=HBX.out;obtain⟨e0,e1,e2,e3,e4⟩:=HBX.out.freed;clear hg4 hr4)))
     go_roundw
     case rel=>exact .inr ⟨j,er,rfl,HL3.out.fell hlt HC.out HG4.out HR4.out rfl HER.out⟩
     case measure=>rw[y1k (by rcases HER.out with e | e <;> omega),z6s HL.out.mid.rd];have:=HPL.out;omega
  ·have HL:=zz hl
   have he:=hl.err;have q1:((er:Int)==0)=false:=by simp;omega
   have q2:(er==0)=false:=by simp;omega
   obtain rfl:=hl.res;obtain⟨d0,d1,d2,d3,d4,_⟩:=hl.mid.boxQ;obtain⟨e0,e1,e2,e3,e4⟩:=hl.mid.boxQ.freed;obtain⟨g0,g1,g2,g3,g4,_⟩:=hl.box;clear hp hm hd hl he;go_wp2;obtain⟨W3,hW3⟩:∃ W3,W3=put5 wr w.heap.size (.int .i64 0) oZ oS oS ():=⟨_,rfl⟩;have HE:EndQ b w.heap.size w W3 A n c l j (.int .i64 0) oZ oS oS ():=end_q hlt nR HL.out.mid.boxQ HL.out.mid.grown HL.out.mid.rd (by rw[hW3];exact Below.refl _ _);unfold put5 at hW3;rw[←hW3];clear hW3 d0 d1 d2 d3 d4;obtain⟨d0,d1,d2,d3,d4,_⟩:=HE.box;exact bodyPost_ret (v:= .tuple #[.agg #[iI 0,iI 0,.string ⟨#[]⟩,.string ⟨#[]⟩,.slice none 0 0],.int .i64 er]) (by simp[results,Tryz.results131,go_sem,d0,d1,d2,d3,d4]) rfl ⟨HE.grown,rfl,HE.rd⟩
theorem y8e (b:Nat) (w:World) (A:OA) (n c:Nat) (l:List Tok) (m k d:Nat) (h:RdC b w A n c l k) (j er:Nat) (he:er≠0) (HOne:ConOne b A n c l k d (.bad j er)):
  Cz 131 #[pP b,.int .i64 m,.int .i64 d] w (PostC b w A n c l (.bad j er)):=by
 have hlt:=h.lt;have HM0:Hid (MidO b w (w.alloc zeroX) A n c l k):=zz (MidO.first h bR);have K1:Hid (∀ w,RdC b w A n c l k→Cz 153 #[pP b,.int .i64 d] w (PostC b w A n c l (.bad j er))):=zz HOne;have q1:((er:Int)==0)=false:=by simp;omega
 have q2:(er==0)=false:=by simp;omega
 clear h HOne he;go_enter Tryz.func131,Tryz.ntmps131;go_wp2_with (go_at_call 153;go_must ((with_reducible refine(K1.out _ HM0.out.rd).mono ?_);rintro e w2 ⟨hg2,rfl,hr2⟩;have HM2:=zz ((HM0.out.more hlt hg2 hr2).low hlt (z0b _ zeroX));clear hg2 hr2));obtain⟨W2,hW2⟩:∃ W2,W2=w2.alloc zeroX:=⟨_,rfl⟩;have HB2:Hid (Box5 W2 w2.heap.size (.int .i64 0) oZ oS oS ()):=zz (by rw[hW2];exact Box5.new w2 _ _ _ _ _ _);rw[←hW2] at HM2 ⊢;clear hW2
 go_loopw [9] (fun v wr=>v= .int .i64 (er:Nat)∧wr=W2) (fun _ _=>0)
 case atStart=>exact⟨rfl,rfl⟩
 case round=>
  obtain⟨rfl,rfl⟩:=hrel;obtain⟨d0,d1,d2,d3,d4,_⟩:=HM2.out.boxQ;obtain⟨e0,e1,e2,e3,e4⟩:=HM2.out.boxQ.freed;obtain⟨g0,g1,g2,g3,g4,_⟩:=HB2.out;go_wp2;obtain⟨W3,hW3⟩:∃ W3,W3=put5 wr w.heap.size (.int .i64 0) oZ oS oS ():=⟨_,rfl⟩;have HE:EndQ b w.heap.size w W3 A n c l j (.int .i64 0) oZ oS oS ():=end_q hlt nR HM2.out.boxQ HM2.out.grown HM2.out.rd (by rw[hW3];exact Below.refl _ _);unfold put5 at hW3;rw[←hW3];clear hW3 d0 d1 d2 d3 d4;obtain⟨d0,d1,d2,d3,d4,_⟩:=HE.box;exact bodyPost_ret (v:= .tuple #[.agg #[iI 0,iI 0,.string ⟨#[]⟩,.string ⟨#[]⟩,.slice none 0 0],.int .i64 er]) (by simp[results,Tryz.results131,go_sem,d0,d1,d2,d3,d4]) rfl ⟨HE.grown,rfl,HE.rd⟩
theorem RdE.goes {l:List Tok} {m:Md} {i d:Nat} {r:Rs} (h:RdE l m i d r):m.pos→i≤l.length→(match m with | .loop _ _=>False | _=>True)→∀ x j,r= .ok x j→i<j:=by
 induction h with
 | deep=>intro _ _ _ x j e;cases e
 | par h1 h2 h3 h4 ih=>
   intro _ hi _ x j e
   cases e
   have a1:=sg_lt (l:=l) (by rw[h1];decide);have:=(h3.within (Nat.le_refl 1) (by omega)).1;omega
 | parOpen=>intro _ _ _ x j e;cases e
 | parBad=>intro _ _ _ x j e;cases e
 | neg h1 h2 h3 ih=>
   intro _ hi _ x j e
   cases e
   have a1:=sg_lt (l:=l) (by rw[h1];decide);have:=(h3.within trivial (by omega)).1;omega
 | not h1 h2 h3 ih=>
   intro _ hi _ x j e
   cases e
   have a1:=sg_lt (l:=l) (by rw[h1];decide);have:=(h3.within trivial (by omega)).1;omega
 | unBad=>intro _ _ _ x j e;cases e
 | num=>intro _ _ _ x j e;cases e;omega
 | var=>intro _ _ _ x j e;cases e;omega
 | none=>intro _ _ _ x j e;cases e
 | some h1 h2 ih1 ih2=>
   intro hp hi _ x j e;have a:=ih1 trivial hi trivial _ _ rfl;have b:=(h2.within hp (h1.within trivial hi).2);rw[e] at b;have:=b.1;omega
 | someBad=>intro _ _ _ x j e;cases e
 | stop=>intro _ _ h;exact h.elim
 | opDeep=>intro _ _ h;exact h.elim
 | op=>intro _ _ h;exact h.elim
 | opBad=>intro _ _ h;exact h.elim
theorem y4c {l:List Tok} {k:Nat} (h:∀ t,l[k]?=some t→t.kind≠2∧t.kind≠6):(nxt l k).kind≠2∧(nxt l k).kind≠6:=by
 unfold nxt
 cases hl:l[k]? with
 | none=>exact⟨by decide,by decide⟩
 | some t=>exact h t hl
theorem z3m {l:List Tok} {k:Nat} (h:sg l k≠[]):(nxt l k).kind≠2∧(nxt l k).kind≠6:=by
 obtain⟨t,h1,h2,_⟩:=sg_at h;rw[y4k h1,h2];exact⟨by decide,by decide⟩
theorem x2n (b:Nat) (A:OA) (n c:Nat) (l:List Tok) (hf:FitL l) (hn:n=l.length):∀ N k,n - k≤N→k≤n→
  (∀ d r,d≤64→RdE l .one k d r→ConOne b A n c l k d r)∧∀ m d r,d≤64→1≤m→RdE l (.some m) k d r→ConRow b A n c l m k d r:=by
 intro N
 induction N with
 | zero=>
   intro k hN hk;have hkn:k=n:=by omega
   have hs:sg l k=[]:=z7p (by omega)
   have one:∀ d r,d≤64→RdE l .one k d r→ConOne b A n c l k d r:=by
    intro d r _ h w hw;have hnone:RdE l .one k d (.bad k 1):= .none (by rw[hs];simp[pre3]) (fun t ht=>by rw[List.getElem?_eq_none (by omega)] at ht;cases ht);obtain rfl:=h.det hnone;obtain⟨h2,h6⟩:=y4c (l:=l) (k:=k) (fun t ht=>by rw[List.getElem?_eq_none (by omega)] at ht;cases ht);exact z58 b w A n c l k d hw hf hk _ rfl h2 h6 (by rw[hs];simp[pre3])
   refine⟨one,fun m d r hd _ h=>?_⟩
   cases h with
   | some h1 _=>have:=(h1.within trivial (by omega)).1;have:=h1.goes trivial (by omega) trivial _ _ rfl;have:=(h1.within trivial (by omega)).2;omega
   | @someBad _ _ _ j e h1=>
     intro w hw;have he:=(h1.within trivial (by omega)).2.2;exact y8e b w A n c l m k d hw j e (by rcases he with e | e <;> omega) (one d _ hd h1)
 | succ N ih=>
   intro k hN hk
   have one:∀ d r,d≤64→RdE l .one k d r→ConOne b A n c l k d r:=by
    intro d r hd h w hw;have hkb:k≤1000000:=by have:=hf.len;omega
    have hsd:∀ kd w,RdC b w A n c l k→Cz 177 #[pP b,.int .i64 kd,iI 64] w (PostC b w A n c l (.bad k 8)):=fun kd w h=>y35 b w A n c l k kd h
    cases h with
    | deep h1 h2=>
      have hd64:((d:Nat):Int)=64:=by omega
      have hne:sg l k≠[]:=by rcases h1 with e | e | e <;> rw[e] <;> decide
      obtain⟨n2,n6⟩:=z3m hne
      rcases h1 with e | e | e
      ·exact z1n b w A n c l k d hw hf hk _ rfl n2 n6 2 (.inl ⟨e,rfl⟩) _ (fun w hw=>by rw[hd64];exact hsd 2 w hw)
      ·exact z1n b w A n c l k d hw hf hk _ rfl n2 n6 3 (.inr ⟨e,rfl⟩) _ (fun w hw=>by rw[hd64];exact hsd 3 w hw)
      ·exact z3p b w A n c l k d hw hf hk _ rfl n2 n6 e _ (fun w hw=>by rw[hd64];exact y52 b w A n c l k hw)
    | @par _ _ x j h1 h2 h3 h4=>
      have hne:sg l k≠[]:=by rw[h1];decide
      obtain⟨n2,n6⟩:=z3m hne;have hk1:=sg_lt hne;have hj:=(h3.within (Nat.le_refl 1) (by omega)).2;exact z3p b w A n c l k d hw hf hk _ rfl n2 n6 h1 _ (fun w hw=>y6o b w A n c l k d hw hf hkb h2 x j (by omega) h4 ((ih (k+1) (by omega) (by omega)).2 1 (d+1) _ (by omega) (Nat.le_refl 1) h3))
    | @parOpen _ _ x j h1 h2 h3 h4=>
      have hne:sg l k≠[]:=by rw[h1];decide
      obtain⟨n2,n6⟩:=z3m hne;have hk1:=sg_lt hne;have hj:=(h3.within (Nat.le_refl 1) (by omega)).2;exact z3p b w A n c l k d hw hf hk _ rfl n2 n6 h1 _ (fun w hw=>y59 b w A n c l k d hw hf hkb h2 x j (by omega) h4 ((ih (k+1) (by omega) (by omega)).2 1 (d+1) _ (by omega) (Nat.le_refl 1) h3))
    | @parBad _ _ j e h1 h2 h3=>
      have hne:sg l k≠[]:=by rw[h1];decide
      obtain⟨n2,n6⟩:=z3m hne;have hk1:=sg_lt hne;have he:=(h3.within (Nat.le_refl 1) (by omega)).2.2;exact z3p b w A n c l k d hw hf hk _ rfl n2 n6 h1 _ (fun w hw=>y93 b w A n c l k d hw hkb h2 j e (by rcases he with e | e <;> omega) ((ih (k+1) (by omega) (by omega)).2 1 (d+1) _ (by omega) (Nat.le_refl 1) h3))
    | @neg _ _ x j h1 h2 h3=>
      have hne:sg l k≠[]:=by rw[h1];decide
      obtain⟨n2,n6⟩:=z3m hne;have hk1:=sg_lt hne;exact z1n b w A n c l k d hw hf hk _ rfl n2 n6 2 (.inl ⟨h1,rfl⟩) _ (fun w hw=>y2l b w A n c l k d 2 hw hkb h2 x j ((ih (k+1) (by omega) (by omega)).1 (d+1) _ (by omega) h3))
    | @not _ _ x j h1 h2 h3=>
      have hne:sg l k≠[]:=by rw[h1];decide
      obtain⟨n2,n6⟩:=z3m hne;have hk1:=sg_lt hne;exact z1n b w A n c l k d hw hf hk _ rfl n2 n6 3 (.inr ⟨h1,rfl⟩) _ (fun w hw=>y2l b w A n c l k d 3 hw hkb h2 x j ((ih (k+1) (by omega) (by omega)).1 (d+1) _ (by omega) h3))
    | @unBad _ _ j e h1 h2 h3=>
      have hne:sg l k≠[]:=by rcases h1 with e | e <;> rw[e] <;> decide
      obtain⟨n2,n6⟩:=z3m hne;have hk1:=sg_lt hne;have he:=(h3.within trivial (by omega)).2.2
      rcases h1 with h1 | h1
      ·exact z1n b w A n c l k d hw hf hk _ rfl n2 n6 2 (.inl ⟨h1,rfl⟩) _ (fun w hw=>z9e b w A n c l k d 2 hw hkb h2 j e (by rcases he with e | e <;> omega) ((ih (k+1) (by omega) (by omega)).1 (d+1) _ (by omega) h3))
      ·exact z1n b w A n c l k d hw hf hk _ rfl n2 n6 3 (.inr ⟨h1,rfl⟩) _ (fun w hw=>z9e b w A n c l k d 3 hw hkb h2 j e (by rcases he with e | e <;> omega) ((ih (k+1) (by omega) (by omega)).1 (d+1) _ (by omega) h3))
    | num h1 h2=>exact y3c b w A n c l k d hw hf hk _ (y4k h1) h2
    | var h1 h2=>exact y26 b w A n c l k d hw hf hk _ (y4k h1) h2
    | none h1 h2=>
      obtain⟨n2,n6⟩:=y4c h2;exact z58 b w A n c l k d hw hf hk _ rfl n2 n6 h1
   refine⟨one,fun m d r hd hm h=>?_⟩
   cases h with
   | @some _ _ _ x j _ h1 h2=>
     intro w hw;have hj:=(h1.within trivial (by omega)).2;have hg:=h1.goes trivial (by omega) trivial _ _ rfl;exact x44 b w A n c l m k d hw hf hd hm x j r (fun m' p' d' r' hp hpn hd' hm' h'=>(ih p' (by omega) hpn).2 m' d' r' hd' hm' h') (one d _ hd h1) ⟨hg,by omega⟩ h2
   | @someBad _ _ _ j e h1=>
     intro w hw;have he:=(h1.within trivial (by omega)).2.2;exact y8e b w A n c l m k d hw j e (by rcases he with e | e <;> omega) (one d _ hd h1)
theorem y8b (l:List Tok):∀ N k,l.length - k≤N→k≤l.length→(∀ d,∃ r,RdE l .one k d r)∧(∀ m d,1≤m→∃ r,RdE l (.some m) k d r)∧∀ m x d,1≤m→∃ r,RdE l (.loop m x) k d r:=by
 intro N
 induction N with
 | zero=>
   intro k hN hk;have hs:sg l k=[]:=z7p (by omega);have one:∀ d,RdE l .one k d (.bad k 1):=fun d=> .none (by rw[hs];simp[pre3]) (fun t ht=>by rw[List.getElem?_eq_none (by omega)] at ht;cases ht)
   exact⟨fun d=>⟨_,one d⟩,fun m d _=>⟨_,.someBad (one d)⟩,fun m x d hm=>⟨_,.stop (by rw[hs,z84];omega)⟩⟩
 | succ N ih=>
   intro k hN hk
   have loop:∀ m x d,1≤m→∃ r,RdE l (.loop m x) k d r:=by
    intro m x d hm;by_cases h1:m≤strong (sg l k)
    ·have hk1:=z1j hm h1
     by_cases h2:d<64
     ·obtain⟨r,hr⟩:=(ih (k+1) (by omega) (by omega)).2.1 (strong (sg l k)+1) (d+1) (by omega)
      have hw:=hr.within (show (Md.some (strong (sg l k)+1)).pos by show 1≤strong (sg l k)+1;omega) (by omega)
      cases r with
      | bad j e=>exact⟨_,.opBad h1 h2 hr⟩
      | ok y j=>
        obtain⟨r2,hr2⟩:=(ih j (by have:=hw.1;omega) hw.2).2.2 m (exBin (sg l k) x y) d hm;exact⟨_,.op h1 h2 hr hr2⟩
     ·exact⟨_,.opDeep h1 (by omega)⟩
    ·exact⟨_,.stop (by omega)⟩
   have one:∀ d,∃ r,RdE l .one k d r:=by
    intro d;by_cases hp:pre3 (sg l k)
    ·have hne:sg l k≠[]:=by rcases hp with e | e | e <;> rw[e] <;> decide
     have hk1:=sg_lt hne;by_cases h2:d<64
     ·rcases hp with e | e | e
      ·obtain⟨r,hr⟩:=(ih (k+1) (by omega) (by omega)).1 (d+1)
       cases r with
       | bad j er=>exact⟨_,.unBad (.inl e) h2 hr⟩
       | ok y j=>exact⟨_,.neg e h2 hr⟩
      ·obtain⟨r,hr⟩:=(ih (k+1) (by omega) (by omega)).1 (d+1)
       cases r with
       | bad j er=>exact⟨_,.unBad (.inr e) h2 hr⟩
       | ok y j=>exact⟨_,.not e h2 hr⟩
      ·obtain⟨r,hr⟩:=(ih (k+1) (by omega) (by omega)).2.1 1 (d+1) (Nat.le_refl 1)
       cases r with
       | bad j er=>exact⟨_,.parBad e h2 hr⟩
       | ok y j=>
         by_cases h4:sg l j=[41]
         ·exact⟨_,.par e h2 hr h4⟩
         ·exact⟨_,.parOpen e h2 hr h4⟩
     ·exact⟨_,.deep hp (by omega)⟩
    ·by_cases h2:∃ t,l[k]?=some t∧t.kind=2
     ·obtain⟨t,h2,h3⟩:=h2
      exact⟨_,.num h2 h3⟩
     ·by_cases h6:∃ t,l[k]?=some t∧t.kind=6
      ·obtain⟨t,h2,h3⟩:=h6
       exact⟨_,.var h2 h3⟩
      ·exact⟨_,.none hp fun t ht=>⟨fun e=>h2 ⟨t,ht,e⟩,fun e=>h6 ⟨t,ht,e⟩⟩⟩
   refine⟨one,fun m d hm=>?_,loop⟩;obtain⟨r,hr⟩:=one d
   cases r with
   | bad j e=>exact⟨_,.someBad hr⟩
   | ok x j=>
     have hj:=(hr.within trivial hk);by_cases hjk:j=k
     ·subst hjk
      obtain⟨r2,hr2⟩:=loop m x d hm;exact⟨_,.some hr hr2⟩
     ·obtain⟨r2,hr2⟩:=(ih j (by have:=hj.1;omega) hj.2).2.2 m x d hm
      exact⟨_,.some hr hr2⟩
theorem y7g (l:List Tok) (k:Nat) (hk:k≤l.length):∃ r,RdE l (.some 1) k 0 r:=(y8b l (l.length - k) k nR hk).2.1 1 0 (Nat.le_refl 1)
def PostPX (w:World) (r:Rs) (e:Ending) (w':World):Prop:=Below w.heap.size w w'∧match r with
 | .ok x j=>∃ A c,e= .returned (.tuple #[.agg #[x.kind,x.n,x.name,x.op,.slice A x.kids.length c],j,oZ])∧KidsX (LtX w'.heap.size) w' A x
 | .bad j er=>e= .returned (.tuple #[.agg #[oZ,oZ,oS,oS,()],j,er])
theorem x3h {w:World} {A:OA} {n c:Nat} {l:List Tok} (k:Nat) (h:RdT w.heap.size w A n l) (hG:Given w) (o:Obj):
  RdC (w.heap.size+1) ((w.alloc o).alloc (.cells #[.slice A n c,k] 155)) A n c l k:=by
 have hs:(w.alloc o).heap.size=w.heap.size+1:=z0j _ _;have hb:Below w.heap.size w ((w.alloc o).alloc (.cells #[.slice A n c,k] 155)):=z0a w _ _;refine⟨?_,?_,?_,(h.keep hb).up (by omega),fun w' hb'=>hG.below (hb.trans (hb'.mono (by omega)))⟩
 ·rw[←hs];exact z1e _ _ _ 0 _ rfl
 ·rw[←hs];exact z1e _ _ _ 1 _ rfl
 ·simp[go_sem]
def PostPF (w:World) (r:Rs) (e:Ending) (w':World):Prop:=Below w.heap.size w w'∧match r with
 | .ok x j=>∃ A c,e= .returned (.tuple #[.agg #[x.kind,x.n,x.name,x.op,.slice A x.kids.length c],j,oZ])∧KidsX (FrX w.heap.size w'.heap.size) w' A x
 | .bad j er=>e= .returned (.tuple #[.agg #[oZ,oZ,oS,oS,()],j,er])
structure ParBox (w W:World) (cb:Nat) (A:OA) (n c:Nat) (l:List Tok) (j:Nat) (x:Ex) (A2:OA) (c2:Nat):Prop where
 boxQ:Box5 W w.heap.size (.int .i64 0) oZ oS oS ()
 box:Box5 W cb (.int .i64 x.kind) (.int .i64 x.n) (.string ⟨x.name.toArray⟩) (.string ⟨x.op.toArray⟩) (.slice A2 x.kids.length c2)
 rd:RdC (w.heap.size+1) W A n c l j
 below:Below w.heap.size w W
 kids:KidsX (FrX (w.heap.size+2) W.heap.size) W A2 x
theorem y1m {w w1 w2:World} {o:Obj} {A:OA} {n c:Nat} {l:List Tok} {j:Nat} {x:Ex} {A2:OA} {c2:Nat} (h1:w1=(w.alloc zeroX).alloc o) (hg:w1.grownBy w2 (some (w.heap.size+1))) (hr:RdC (w.heap.size+1) w2 A n c l j)
  (hk:KidsX (FrX w1.heap.size w2.heap.size) w2 A2 x):ParBox w (w2.alloc (objX x A2 c2)) w2.heap.size A n c l j x A2 c2:=by
 have hs1:w1.heap.size=w.heap.size+2:=by rw[h1,z0j,z0j]
 have hs:=z0j w2 (objX x A2 c2);have hsz:=hg.size;have hb1:Below w.heap.size w w1:=by rw[h1];exact z0a w _ _
 have hq:Box5 w1 w.heap.size (.int .i64 0) oZ oS oS ():=by rw[h1];exact(Box5.new w _ _ _ _ _ _).low (z0b _ _)
 rw[hs1] at hk;exact⟨(hq.grown hg (by omega)).low (z0b _ _),Box5.new w2 _ _ _ _ _ _,hr.box _,(hb1.trans (z1x hg (by omega) (by omega))).trans ((z0b _ _).mono (by omega)),(hk.allocX (fun q hq=>hq.2) _).to nR (by omega)⟩
theorem y5r (A:OA) (n c:Nat) (l:List Tok) (k:Nat) (w:World) (h:RdT w.heap.size w A n l) (hf:FitL l) (hG:Given w) (hk:k≤l.length) (r:Rs) (hr:RdE l (.some 1) k 0 r):
  Cz 101 #[.slice A n c,k] w (PostPF w r):=by
 have hn:=h.1;have HR0:Hid (∀ o,RdC (w.heap.size+1) ((w.alloc o).alloc (.cells #[.slice A n c,k] 155)) A n c l k):=zz fun o=>x3h k h hG o
 have HK:=(x2n (w.heap.size+1) A n c l hf hn (n - k) k nR (by omega)).2 1 0 r (by omega) (Nat.le_refl 1) hr;have q1:¬ (k:Int)<0:=by omega
 have q2:¬ (n:Int)<k:=by omega
 cases r with
 | ok x j=>
   have K:Hid (∀ w',RdC (w.heap.size+1) w' A n c l k→Cz 131 #[.pointer (some ⟨w.heap.size+1,0,none⟩),iI 1,oZ] w' (PostC (w.heap.size+1) w' A n c l (.ok x j))):=zz HK;clear HK h hf hG hk hr hn;go_enter Tryz.func101,Tryz.ntmps101;go_wp2_with (go_at_call 131;go_must ((with_reducible refine(K.out _ (HR0.out _)).mono ?_);rintro e w2 ⟨hg2,⟨A2,c2,rfl,hk2⟩,hr2⟩;have HQ2:=zz (y1m (c2:=c2) (by rfl) hg2 hr2 hk2);clear hg2 hr2 hk2));obtain⟨W2,hW2⟩:∃ W2,W2=w2.alloc (objX x A2 c2):=⟨_,rfl⟩;have HQ:Hid (ParBox w W2 w2.heap.size A n c l j x A2 c2):=zz (by rw[hW2];exact HQ2.out);rw[←hW2];clear hW2 HQ2;obtain⟨c0,c1,f1,_,_⟩:=HQ.out.rd;obtain⟨d0,d1,d2,d3,d4,_⟩:=HQ.out.boxQ;obtain⟨e0,e1,e2,e3,e4⟩:=HQ.out.boxQ.freed;obtain⟨g0,g1,g2,g3,g4,_⟩:=HQ.out.box
   go_region
   go_wp2;obtain⟨W3,hW3⟩:∃ W3,W3=put5 W2 w.heap.size (.int .i64 x.kind) (.int .i64 x.n) (.string ⟨x.name.toArray⟩) (.string ⟨x.op.toArray⟩) (.slice A2 x.kids.length c2):=⟨_,rfl⟩;have hbx:Box5 W3 w.heap.size (.int .i64 x.kind) (.int .i64 x.n) (.string ⟨x.name.toArray⟩) (.string ⟨x.op.toArray⟩) (.slice A2 x.kids.length c2):=by rw[hW3];exact HQ.out.boxQ.put _ _ _ _ _
   have hbl:Below w.heap.size w W3.drew:=by
    rw[hW3];exact(((((HQ.out.below.setCell nR _).setCell nR _).setCell nR _).setCell nR _).setCell nR _).drew
   have hkd:KidsX (FrX w.heap.size W3.drew.heap.size) W3.drew A2 x:=by
    have hs3:W3.drew.heap.size=W2.heap.size:=by show W3.heap.size=_;rw[hW3,z0y]
    rw[hs3];exact((HQ.out.kids.put5 (c:=w.heap.size) (fun hq=>by have:=hq.1;omega) (.int .i64 x.kind) (.int .i64 x.n) (.string ⟨x.name.toArray⟩) (.string ⟨x.op.toArray⟩) (.slice A2 x.kids.length c2)).over (w':=W3.drew) (fun _ _=>by rw[hW3];rfl)).wide fun q hq=>⟨by have:=hq.1;omega,hq.2⟩
   unfold put5 at hW3;rw[←hW3];clear hW3 d0 d1 d2 d3 d4;obtain⟨d0,d1,d2,d3,d4,_⟩:=hbx;exact bodyPost_ret (v:= .tuple #[.agg #[x.kind,x.n,x.name,x.op,.slice A2 x.kids.length c2],j,oZ]) (by simp[results,Tryz.results101,go_sem,d0,d1,d2,d3,d4]) rfl ⟨hbl,A2,c2,rfl,hkd⟩
 | bad j er=>
   have K:Hid (∀ w',RdC (w.heap.size+1) w' A n c l k→Cz 131 #[.pointer (some ⟨w.heap.size+1,0,none⟩),iI 1,oZ] w' (PostC (w.heap.size+1) w' A n c l (.bad j er))):=zz HK;have he:=(hr.within (Nat.le_refl 1) hk).2.2;have q3:((er:Int) != 0)=true:=by simp;omega
   have q4:(er != 0)=true:=by simp;omega
   clear HK h hf hG hk hr hn he;go_enter Tryz.func101,Tryz.ntmps101;go_wp2_with (go_at_call 131;go_must ((with_reducible refine(K.out _ (HR0.out _)).mono ?_);rintro e w2 ⟨hg2,rfl,hr2⟩;have HQ2:=zz (y1m (x:=exNone) (A2:=none) (c2:=0) (by rfl) hg2 hr2 (KidsX.leaf _ _ _ _ _ _ _));clear hg2 hr2));obtain⟨W2,hW2⟩:∃ W2,W2=w2.alloc zeroX:=⟨_,rfl⟩;have HQ:Hid (ParBox w W2 w2.heap.size A n c l j exNone none 0):=zz (by rw[hW2];exact HQ2.out);rw[←hW2];clear hW2 HQ2;obtain⟨c0,c1,f1,_,_⟩:=HQ.out.rd;obtain⟨d0,d1,d2,d3,d4,_⟩:=HQ.out.boxQ;obtain⟨e0,e1,e2,e3,e4⟩:=HQ.out.boxQ.freed
   go_region
   go_wp2;obtain⟨W3,hW3⟩:∃ W3,W3=put5 W2 w.heap.size (.int .i64 0) oZ oS oS ():=⟨_,rfl⟩;have hbx:Box5 W3 w.heap.size (.int .i64 0) oZ oS oS ():=by rw[hW3];exact HQ.out.boxQ.put _ _ _ _ _
   have hbl:Below w.heap.size w W3.drew:=by
    rw[hW3];exact(((((HQ.out.below.setCell nR _).setCell nR _).setCell nR _).setCell nR _).setCell nR _).drew
   unfold put5 at hW3;rw[←hW3];clear hW3 d0 d1 d2 d3 d4;obtain⟨d0,d1,d2,d3,d4,_⟩:=hbx;exact bodyPost_ret (v:= .tuple #[.agg #[oZ,oZ,oS,oS,()],j,er]) (by simp[results,Tryz.results101,go_sem,d0,d1,d2,d3,d4]) rfl ⟨hbl,rfl⟩
theorem RdrX.other {b:Nat} {w:World} {A:OA} {n c:Nat} {l:List Tok} {k o:Nat} (h:RdrX b w A n c l k o) {a:Addr} (ha:b<a.block) (u:Value):RdrX b (w.setCell a u) A n c l k o:=by
 refine⟨?_,?_,?_,?_,?_,h.row.keep fun p hp=>World.cell?_of_block (Below.heap_setCell _ _ _ _ (by omega)),h.len⟩
 ·rw[World.cell?_setCell_other _ _ _ _ (fun e=>by rw[e] at ha;exact absurd ha (Nat.lt_irrefl _))];exact h.c0
 ·rw[World.cell?_setCell_other _ _ _ _ (fun e=>by rw[e] at ha;exact absurd ha (Nat.lt_irrefl _))];exact h.c1
 ·rw[World.cell?_setCell_other _ _ _ _ (fun e=>by rw[e] at ha;exact absurd ha (Nat.lt_irrefl _))];exact h.c2
 ·rw[World.frozen?_setCell];exact h.f1
 ·rw[World.frozen?_setCell];exact h.f2
theorem RdrX.put5 {b:Nat} {w:World} {A:OA} {n c:Nat} {l:List Tok} {k o:Nat} (h:RdrX b w A n c l k o) {q:Nat} (hq:b<q) (v0 v1 v2 v3 v4:Value):RdrX b (put5 w q v0 v1 v2 v3 v4) A n c l k o:=
 ((((h.other (a:=⟨q,0,none⟩) hq _).other (a:=⟨q,1,none⟩) hq _).other (a:=⟨q,2,none⟩) hq _).other (a:=⟨q,3,none⟩) hq _).other (a:=⟨q,4,none⟩) hq _
theorem RdrX.placez {b:Nat} {w:World} {A:OA} {n c:Nat} {l:List Tok} {k o:Nat} (h:RdrX b w A n c l k o) (j:Nat) (z:Int) (hz:z=j):RdrX b (w.setCell ⟨b,1,none⟩ (.int .i64 z)) A n c l j o:=by subst hz;exact h.place j
theorem RdrX.box {b:Nat} {w:World} {A:OA} {n c:Nat} {l:List Tok} {k o:Nat} (h:RdrX b w A n c l k o) (ob:Obj):RdrX b (w.alloc ob) A n c l k o:=h.next (z0b _ _)
structure MidX (b:Nat) (w W:World) (A:OA) (n c:Nat) (l:List Tok) (j o:Nat):Prop where
 boxQ:Box5 W w.heap.size (.int .i64 0) oZ oS oS ()
 grown:w.grownBy W (some b)
 rd:RdrX b W A n c l j o
 size:w.heap.size<W.heap.size
theorem MidX.first {b:Nat} {w:World} {A:OA} {n c:Nat} {l:List Tok} {k o:Nat} (hr:RdrX b w A n c l k o):MidX b w (w.alloc zeroX) A n c l k o:=
 ⟨Box5.new w _ _ _ _ _ _,z0g (z0b _ _),hr.box _,by rw[z0j];exact Nat.lt_succ_self _⟩
theorem MidX.more {b:Nat} {w W W':World} {A:OA} {n c:Nat} {l:List Tok} {k j o o':Nat} (h:MidX b w W A n c l k o) (hlt:b<w.heap.size) (hg:W.grownBy W' (some b)) (hr:RdrX b W' A n c l j o'):MidX b w W' A n c l j o':=
 ⟨h.boxQ.grown hg (by omega),z0n h.grown hg,hr,Nat.lt_of_lt_of_le h.size hg.size⟩
theorem MidX.low {b:Nat} {w W W':World} {A:OA} {n c:Nat} {l:List Tok} {k o:Nat} (h:MidX b w W A n c l k o) (hlt:b<w.heap.size) (hb:Below W.heap.size W W'):MidX b w W' A n c l k o:=h.more hlt (z0g hb) (h.rd.next hb)
theorem MidX.go {b:Nat} {w W:World} {A:OA} {n c:Nat} {l:List Tok} {k o:Nat} (h:MidX b w W A n c l k o) (hlt:b<w.heap.size) (j:Nat) (z:Int) (hz:z=j):MidX b w (W.setCell ⟨b,1,none⟩ (.int .i64 z)) A n c l j o:=h.more hlt (z01 b 1 _ _) (h.rd.placez j z hz)
structure EndX (b:Nat) (w W3:World) (A:OA) (n c:Nat) (l:List Tok) (j o:Nat) (v0 v1 v2 v3 v4:Value):Prop where
 box:Box5 W3 w.heap.size v0 v1 v2 v3 v4
 grown:w.grownBy W3 (some b)
 rd:RdrX b W3 A n c l j o
theorem MidX.fin {b:Nat} {w W W3:World} {A:OA} {n c:Nat} {l:List Tok} {j o:Nat} {v0 v1 v2 v3 v4:Value} (h:MidX b w W A n c l j o) (hlt:b<w.heap.size)
  (h3:Below (put5 W w.heap.size v0 v1 v2 v3 v4).heap.size (put5 W w.heap.size v0 v1 v2 v3 v4) W3):EndX b w W3 A n c l j o v0 v1 v2 v3 v4:=
 ⟨(h.boxQ.put _ _ _ _ _).low h3,z0n (z2n h.grown nR _ _ _ _ _) (z0g h3),(h.rd.put5 hlt _ _ _ _ _).next h3⟩
def PostR9 (b:Nat) (w:World) (A:OA) (n c:Nat) (l:List Tok) (r:Rs) (e:Ending) (w':World):Prop:=w.grownBy w' (some b)∧match r with
 | .ok x j=>(∃ A' c',e= .returned (.agg #[x.kind,x.n,x.name,x.op,.slice A' x.kids.length c'])∧KidsX (FrX w.heap.size w'.heap.size) w' A' x)∧RdrX b w' A n c l j 0
 | .bad j er=>(∃ (v0 v1:Int) (v2 v3:BA) (A4:OA) (n4 c4:Nat),e= .returned (.agg #[v0,v1,v2,v3,.slice A4 n4 c4]))∧RdrX b w' A n c l j er
def XOne (b:Nat) (A:OA) (n c:Nat) (l:List Tok) (k d:Nat) (r:Rs):Prop:=∀ w,RdrX b w A n c l k 0→Cz 158 #[pP b,d] w (PostR9 b w A n c l r)
def XRow (b:Nat) (A:OA) (n c:Nat) (l:List Tok) (m k d:Nat) (r:Rs):Prop:=∀ w,RdrX b w A n c l k 0→Cz 135 #[pP b,m,d] w (PostR9 b w A n c l r)
theorem z3d {b:Nat} {w W3:World} {A:OA} {n c:Nat} {l:List Tok} {j er:Nat} (h:EndX b w W3 A n c l j er (.int .i64 0) oZ oS oS ()):PostR9 b w A n c l (.bad j er) (.returned (.agg #[oZ,oZ,oS,oS,()])) W3:=
 ⟨h.grown,⟨0,0,⟨#[]⟩,⟨#[]⟩,none,0,0,rfl⟩,h.rd⟩
theorem z19 (b:Nat) (w:World) (A:OA) (n c:Nat) (l:List Tok) (k:Nat) (h:RdrX b w A n c l k 0):
 Cz 159 #[pP b] w fun e w'=>e= .returned (.string ⟨(sg l k).toArray⟩)∧Below w.heap.size w w':=y07 b w A n c l k 0 h (by omega)
theorem x36 (b:Nat) (w:World) (A:OA) (n c:Nat) (l:List Tok) (k o:Nat) (h:RdrX b w A n c l k o) (ho:o≠0∧o≤100):
  Cz 159 #[pP b] w fun e w'=>e= .returned (.string ⟨#[]⟩)∧Below w.heap.size w w':=by
 have:=y07 b w A n c l k o h ho.2;unfold sgX at this;rw[if_neg ho.1] at this;exact this
theorem z7z (er:Nat) (z:Int) (hz:z=er) (b:Nat) (w:World) (A:OA) (n c:Nat) (l:List Tok) (k:Nat) (h:RdrX b w A n c l k 0):
 Cz 160 #[pP b,z] w fun e w'=>e= .returned (.tuple #[])∧RdrX b w' A n c l k er∧w.grownBy w' (some b):=by subst hz;exact y18 er b w A n c l k 0 h (by omega)
theorem x4l (er:Nat) (z:Int) (hz:z=er) (b:Nat) (w:World) (A:OA) (n c:Nat) (l:List Tok) (k o:Nat) (h:RdrX b w A n c l k o) (ho:o≠0∧o≤100):
  Cz 160 #[pP b,z] w fun e w'=>e= .returned (.tuple #[])∧RdrX b w' A n c l k o∧w.grownBy w' (some b):=by
 subst hz;have:=y18 er b w A n c l k o h ho.2;rw[if_neg ho.1] at this;exact this
theorem y7s (b:Nat) (w:World) (A:OA) (n c:Nat) (l:List Tok) (k d:Nat) (h:RdrX b w A n c l k 0) (hd:64≤d) (hs:pre3 (sg l k)):
  Cz 158 #[pP b,d] w (PostR9 b w A n c l (.bad k 8)):=by
 have hlt:=h.lt;have HM0:=zz (MidX.first h);obtain⟨S,hS⟩:∃ S:BA,S=⟨(sg l k).toArray⟩:=⟨_,rfl⟩;have KS:Hid (∀ w,RdrX b w A n c l k 0→Cz 159 #[pP b] w fun e w'=>e= .returned (.string S)∧Below w.heap.size w w'):=zz fun w h=>by rw[hS];exact z19 b w A n c l k h
 have KF:=zz fun w h=>z7z 8 8 rfl b w A n c l k h
 obtain⟨s0,s1,s2⟩:=z3e l k S hS;have q1:(64:Int)≤d:=by omega
 clear h hd hS
 rcases hs with hs | hs | hs
 all_goals
  rw[hs] at s0 s1 s2;clear hs;go_enter Tryz.func158,Tryz.ntmps158;go_wp2_with (first | (go_at_call 159;go_must ((with_reducible refine(KS.out _ HM0.out.rd).mono ?_);rintro e w1 ⟨rfl,hb1⟩;have HM1:=zz (HM0.out.low hlt hb1);clear hb1)) | (go_at_call 160;go_must ((with_reducible refine(KF.out _ HM1.out.rd).mono ?_);rintro e w2 ⟨rfl,hr2,hg2⟩;have HM2:=zz (HM1.out.more hlt hg2 hr2);clear hr2 hg2;obtain⟨d0,d1,d2,d3,d4,_⟩:=HM2.out.boxQ;obtain⟨e0,e1,e2,e3,e4⟩:=HM2.out.boxQ.freed)));obtain⟨W3,hW3⟩:∃ W3,W3=put5 w2 w.heap.size (.int .i64 0) oZ oS oS ():=⟨_,rfl⟩;have HE:=HM2.out.fin hlt (by rw[←hW3];exact Below.refl _ W3);unfold put5 at hW3;rw[←hW3];clear hW3 d0 d1 d2 d3 d4;obtain⟨d0,d1,d2,d3,d4,_⟩:=HE.box;exact bodyPost_ret (v:= .agg #[oZ,oZ,oS,oS,()]) (by simp[results,Tryz.results158,go_sem,d0,d1,d2,d3,d4]) rfl (z3d HE)
structure MidY (b:Nat) (w w2 W:World) (A:OA) (n c:Nat) (l:List Tok) (j o:Nat) (x:Ex) (A2:OA) (c2:Nat):Prop where
 mid:MidX b w W A n c l j o
 box2:Box5 W w2.heap.size (.int .i64 x.kind) (.int .i64 x.n) (.string ⟨x.name.toArray⟩) (.string ⟨x.op.toArray⟩) (.slice A2 x.kids.length c2)
 kids:KidsX (FrX (w.heap.size+1) w2.heap.size) W A2 x
 lt:w.heap.size<w2.heap.size
 lt2:w2.heap.size<W.heap.size
theorem x0b {b:Nat} {w w1 w2 W:World} {A:OA} {n c:Nat} {l:List Tok} {k j o:Nat} {x:Ex} {A2:OA} {c2:Nat} (h:MidX b w w1 A n c l k o) (hlt:b<w.heap.size) (hg:w1.grownBy w2 (some b)) (hr:RdrX b w2 A n c l j 0) (hk:KidsX (FrX w1.heap.size w2.heap.size) w2 A2 x)
  (hb:Below (w2.heap.size+1) (w2.alloc (objX x A2 c2)) W):MidY b w w2 W A n c l j 0 x A2 c2:=by
 have hs:=z0j w2 (objX x A2 c2);rw[←hs] at hb;have hall:Below w2.heap.size w2 W:=(z0b _ _).trans (hb.mono (by omega));have hsz:=hg.size;have h1:=h.size;exact⟨(h.more hlt hg hr).low hlt hall,(Box5.new w2 _ _ _ _ _ _).low hb,(hk.over fun k hk=>hall.block k hk.2).to (by omega) nR,by omega,by have:=hb.size;omega⟩
theorem TokRow.get {B:Nat} {w:World} {A:OA} {l:List Tok} {k:Nat} {t:Tok} (h:TokRow B w A l) (ht:l[k]?=some t):∃ ad A' c',A=some ad∧ad.block<B∧TkAt w (ad.add (k * 5)) t A' c':=h k t ht
theorem y8z (b:Nat) (w:World) (A:OA) (n c:Nat) (l:List Tok) (k d:Nat) (h:RdrX b w A n c l k 0) (hkb:l.length≤1000000) (hk:k≤l.length) (hd:d<64) (x:Ex) (j:Nat) (hj:j≤l.length) (hs:sg l k=[40]) (hs2:sg l j=[41]) (HK:XRow b A n c l 1 (k+1) (d+1) (.ok x j)):
  Cz 158 #[pP b,d] w (PostR9 b w A n c l (.ok x (j+1))):=by
 have hlt:=h.lt;have HM0:=zz (MidX.first h);obtain⟨S,hS⟩:∃ S:BA,S=⟨(sg l k).toArray⟩:=⟨_,rfl⟩;have KS:Hid (∀ w,RdrX b w A n c l k 0→Cz 159 #[pP b] w fun e w'=>e= .returned (.string S)∧Below w.heap.size w w'):=zz fun w h=>by rw[hS];exact z19 b w A n c l k h
 obtain⟨T,hT⟩:∃ S:BA,S=⟨(sg l j).toArray⟩:=⟨_,rfl⟩;have KT:Hid (∀ w,RdrX b w A n c l j 0→Cz 159 #[pP b] w fun e w'=>e= .returned (.string T)∧Below w.heap.size w w'):=zz fun w h=>by rw[hT];exact z19 b w A n c l j h
 have K:Hid (∀ w,RdrX b w A n c l (k+1) 0→Cz 135 #[pP b,iI 1,iI ((d:Int)+1)] w (PostR9 b w A n c l (.ok x j))):=zz HK;obtain⟨s0,s1,s2⟩:=z3e l k S hS;rw[hs] at s0 s1 s2;obtain⟨t1,t2⟩:=sgB l j T hT [41] true (by simp[hs2]);have q1:¬ (64:Int)≤d:=by omega
 have q2:(k:Int)≤1000000:=by omega
 have q3:(j:Int)≤1000000:=by omega
 clear HK h hkb hk hd hj hs hs2 hS hT;go_enter Tryz.func158,Tryz.ntmps158;go_wp2_with (first | (go_at_call 159;((with_reducible refine(KS.out _ HM0.out.rd).mono ?_);rintro e w1 ⟨rfl,hb1⟩;have HM1:=zz (HM0.out.low hlt hb1);have HM1b:=zz hb1;clear hb1;have HM2:=zz (HM1.out.go hlt (k+1) ((k:Int)+1) (by omega));have hz0:=HM1.out.rd.c0;have hz1:=HM1.out.rd.c1;have hz2:=HM1.out.rd.c2;have hz3:=HM1.out.rd.f1;clear KS)) | (go_at_call 135;go_must ((with_reducible refine(K.out _ HM2.out.rd).mono ?_);rintro e w2 ⟨hg2,⟨A2,c2,rfl,hk2⟩,hr2⟩;have HG2:=zz hg2;have HR2:=zz hr2;have HK2:=zz hk2;clear hg2 hr2 hk2 hz0 hz1 hz2 hz3)) | (go_at_call 159;go_must ((with_reducible refine(KT.out _ (HR2.out.box _)).mono ?_);rintro e w3 ⟨rfl,hb3⟩;have HY:=zz (x0b (c2:=c2) HM2.out hlt HG2.out HR2.out HK2.out (hb3.mono (by simp)));clear hb3;have hz0:=HY.out.mid.rd.c0;have hz1:=HY.out.mid.rd.c1;have hz3:=HY.out.mid.rd.f1;obtain⟨d0,d1,d2,d3,d4,_⟩:=HY.out.mid.boxQ;obtain⟨e0,e1,e2,e3,e4⟩:=HY.out.mid.boxQ.freed;obtain⟨g0,g1,g2,g3,g4,_⟩:=HY.out.box2;have hl1:=HY.out.lt;have hl2:=HY.out.lt2)));obtain⟨W,hW⟩:∃ W,W=w3.setCell ⟨b,1,none⟩ (.int .i64 ((j:Int)+1)):=⟨_,rfl⟩;have hm:MidX b w W A n c l (j+1) 0:=by rw[hW];exact HY.out.mid.go hlt (j+1) _ (by omega)
 have hsW:W.heap.size=w3.heap.size:=by rw[hW];simp[World.setCell]
 have hkd:KidsX (FrX (w.heap.size+1) w2.heap.size) W A2 x:=by rw[hW];exact HY.out.kids.over fun k hk=>Below.heap_setCell _ _ _ _ (by have:=hk.1;show k≠b;omega)
 rw[←hW];obtain⟨W3,hW3⟩:∃ W3,W3=put5 W w.heap.size (.int .i64 x.kind) (.int .i64 x.n) (.string ⟨x.name.toArray⟩) (.string ⟨x.op.toArray⟩) (.slice A2 x.kids.length c2):=⟨_,rfl⟩;have HE:EndX b w W3 A n c l (j+1) 0 (.int .i64 x.kind) (.int .i64 x.n) (.string ⟨x.name.toArray⟩) (.string ⟨x.op.toArray⟩) (.slice A2 x.kids.length c2):=hm.fin hlt (by rw[hW3];exact Below.refl _ _)
 have hk3:KidsX (FrX w.heap.size W3.heap.size) W3 A2 x:=by
  rw[hW3];exact(hkd.put5 (fun hp=>by have:=hp.1;omega) _ _ _ _ _).to (by omega) (by rw[z0y,hsW];omega)
 unfold put5 at hW3;rw[←hW3];clear hW3 d0 d1 d2 d3 d4;obtain⟨d0,d1,d2,d3,d4,_⟩:=HE.box;exact bodyPost_ret (v:= .agg #[x.kind,x.n,x.name,x.op,.slice A2 x.kids.length c2]) (by simp[results,Tryz.results158,go_sem,d0,d1,d2,d3,d4]) rfl ⟨HE.grown,⟨_,_,rfl,hk3⟩,HE.rd⟩
theorem x0o (b:Nat) (w:World) (A:OA) (n c:Nat) (l:List Tok) (k d:Nat) (h:RdrX b w A n c l k 0) (hkb:l.length≤1000000) (hk:k≤l.length) (hd:d<64) (x:Ex) (j:Nat) (hj:j≤l.length) (hs:sg l k=[40]) (hs2:sg l j≠[41]) (HK:XRow b A n c l 1 (k+1) (d+1) (.ok x j)):
  Cz 158 #[pP b,d] w (PostR9 b w A n c l (.bad j 1)):=by
 have hlt:=h.lt;have HM0:=zz (MidX.first h);obtain⟨S,hS⟩:∃ S:BA,S=⟨(sg l k).toArray⟩:=⟨_,rfl⟩;have KS:Hid (∀ w,RdrX b w A n c l k 0→Cz 159 #[pP b] w fun e w'=>e= .returned (.string S)∧Below w.heap.size w w'):=zz fun w h=>by rw[hS];exact z19 b w A n c l k h
 obtain⟨T,hT⟩:∃ S:BA,S=⟨(sg l j).toArray⟩:=⟨_,rfl⟩;have KT:Hid (∀ w,RdrX b w A n c l j 0→Cz 159 #[pP b] w fun e w'=>e= .returned (.string T)∧Below w.heap.size w w'):=zz fun w h=>by rw[hT];exact z19 b w A n c l j h
 have K:Hid (∀ w,RdrX b w A n c l (k+1) 0→Cz 135 #[pP b,iI 1,iI ((d:Int)+1)] w (PostR9 b w A n c l (.ok x j))):=zz HK;obtain⟨s0,s1,s2⟩:=z3e l k S hS;rw[hs] at s0 s1 s2;obtain⟨t1,t2⟩:=sgB l j T hT [41] false (by simp[hs2]);have q1:¬ (64:Int)≤d:=by omega
 have q2:(k:Int)≤1000000:=by omega
 have q3:(j:Int)≤1000000:=by omega
 have KF:=zz fun w h=>z7z 1 1 rfl b w A n c l j h
 clear HK h hkb hk hd hj hs hs2 hS hT;go_enter Tryz.func158,Tryz.ntmps158;go_wp2_with (first | (go_at_call 159;((with_reducible refine(KS.out _ HM0.out.rd).mono ?_);rintro e w1 ⟨rfl,hb1⟩;have HM1:=zz (HM0.out.low hlt hb1);have HM1b:=zz hb1;clear hb1;have HM2:=zz (HM1.out.go hlt (k+1) ((k:Int)+1) (by omega));have hz0:=HM1.out.rd.c0;have hz1:=HM1.out.rd.c1;have hz2:=HM1.out.rd.c2;have hz3:=HM1.out.rd.f1;clear KS)) | (go_at_call 135;go_must ((with_reducible refine(K.out _ HM2.out.rd).mono ?_);rintro e w2 ⟨hg2,⟨A2,c2,rfl,hk2⟩,hr2⟩;have HG2:=zz hg2;have HR2:=zz hr2;have HK2:=zz hk2;clear hg2 hr2 hk2 hz0 hz1 hz2 hz3)) | (go_at_call 159;go_must ((with_reducible refine(KT.out _ (HR2.out.box _)).mono ?_);rintro e w3 ⟨rfl,hb3⟩;have HY:=zz (x0b (c2:=c2) HM2.out hlt HG2.out HR2.out HK2.out (hb3.mono (by simp)));clear hb3;have hz0:=HY.out.mid.rd.c0;have hz1:=HY.out.mid.rd.c1;have hz3:=HY.out.mid.rd.f1;obtain⟨d0,d1,d2,d3,d4,_⟩:=HY.out.mid.boxQ;obtain⟨e0,e1,e2,e3,e4⟩:=HY.out.mid.boxQ.freed;obtain⟨g0,g1,g2,g3,g4,_⟩:=HY.out.box2;have hl1:=HY.out.lt;have hl2:=HY.out.lt2)) | (go_at_call 160;go_must ((with_reducible refine(KF.out _ HY.out.mid.rd).mono ?_);rintro e w4 ⟨rfl,hr4,hg4⟩;have HM4:=zz (HY.out.mid.more hlt hg4 hr4);clear hr4 hg4 d0 d1 d2 d3 d4 e0 e1 e2 e3 e4;obtain⟨d0,d1,d2,d3,d4,_⟩:=HM4.out.boxQ;obtain⟨e0,e1,e2,e3,e4⟩:=HM4.out.boxQ.freed)));obtain⟨W3,hW3⟩:∃ W3,W3=put5 w4 w.heap.size (.int .i64 0) oZ oS oS ():=⟨_,rfl⟩;have HE:EndX b w W3 A n c l j 1 (.int .i64 0) oZ oS oS ():=HM4.out.fin hlt (by rw[hW3];exact Below.refl _ _);unfold put5 at hW3;rw[←hW3];clear hW3 d0 d1 d2 d3 d4;obtain⟨d0,d1,d2,d3,d4,_⟩:=HE.box;exact bodyPost_ret (v:= .agg #[oZ,oZ,oS,oS,()]) (by simp[results,Tryz.results158,go_sem,d0,d1,d2,d3,d4]) rfl (z3d HE)
theorem y3p (b:Nat) (w:World) (A:OA) (n c:Nat) (l:List Tok) (k d:Nat) (h:RdrX b w A n c l k 0) (hkb:l.length≤1000000) (hk:k≤l.length) (hd:d<64) (j er:Nat) (he:er=1∨er=8) (hs:sg l k=[40]) (HK:XRow b A n c l 1 (k+1) (d+1) (.bad j er)):
  Cz 158 #[pP b,d] w (PostR9 b w A n c l (.bad j er)):=by
 have hlt:=h.lt;have HM0:=zz (MidX.first h);obtain⟨S,hS⟩:∃ S:BA,S=⟨(sg l k).toArray⟩:=⟨_,rfl⟩;have KS:Hid (∀ w,RdrX b w A n c l k 0→Cz 159 #[pP b] w fun e w'=>e= .returned (.string S)∧Below w.heap.size w w'):=zz fun w h=>by rw[hS];exact z19 b w A n c l k h
 have K:Hid (∀ w,RdrX b w A n c l (k+1) 0→Cz 135 #[pP b,iI 1,iI ((d:Int)+1)] w (PostR9 b w A n c l (.bad j er))):=zz HK;obtain⟨s0,s1,s2⟩:=z3e l k S hS;rw[hs] at s0 s1 s2;have KT:=zz fun w h=>x36 b w A n c l j er h (by omega)
 have KF:=zz fun w h=>x4l 1 1 rfl b w A n c l j er h (by omega)
 have q1:¬ (64:Int)≤d:=by omega
 have q2:(k:Int)≤1000000:=by omega
 clear HK h hkb hk hd hs hS he;go_enter Tryz.func158,Tryz.ntmps158;go_wp2_with (first | (go_at_call 159;((with_reducible refine(KS.out _ HM0.out.rd).mono ?_);rintro e w1 ⟨rfl,hb1⟩;have HM1:=zz (HM0.out.low hlt hb1);have HM1b:=zz hb1;clear hb1;have HM2:=zz (HM1.out.go hlt (k+1) ((k:Int)+1) (by omega));have hz0:=HM1.out.rd.c0;have hz1:=HM1.out.rd.c1;have hz2:=HM1.out.rd.c2;have hz3:=HM1.out.rd.f1;clear KS)) | (go_at_call 135;go_must ((with_reducible refine(K.out _ HM2.out.rd).mono ?_);rintro e w2 ⟨hg2,⟨v0,v1,v2,v3,A4,n4,c4,rfl⟩,hr2⟩;have HM3:=zz ((HM2.out.more hlt hg2 hr2).low hlt (z0b w2 (.cells #[v0,v1,v2,v3,.slice A4 n4 c4] 38)));clear hg2 hr2 hz0 hz1 hz2 hz3)) | (go_at_call 159;go_must ((with_reducible refine(KT.out _ HM3.out.rd).mono ?_);rintro e w3 ⟨rfl,hb3⟩;have HM4:=zz (HM3.out.low hlt hb3);clear hb3)) | (go_at_call 160;go_must ((with_reducible refine(KF.out _ HM4.out.rd).mono ?_);rintro e w4 ⟨rfl,hr4,hg4⟩;have HM5:=zz (HM4.out.more hlt hg4 hr4);clear hr4 hg4;obtain⟨d0,d1,d2,d3,d4,_⟩:=HM5.out.boxQ;obtain⟨e0,e1,e2,e3,e4⟩:=HM5.out.boxQ.freed)));obtain⟨W3,hW3⟩:∃ W3,W3=put5 w4 w.heap.size (.int .i64 0) oZ oS oS ():=⟨_,rfl⟩;have HE:EndX b w W3 A n c l j er (.int .i64 0) oZ oS oS ():=HM5.out.fin hlt (by rw[hW3];exact Below.refl _ _);unfold put5 at hW3;rw[←hW3];clear hW3 d0 d1 d2 d3 d4;obtain⟨d0,d1,d2,d3,d4,_⟩:=HE.box;exact bodyPost_ret (v:= .agg #[oZ,oZ,oS,oS,()]) (by simp[results,Tryz.results158,go_sem,d0,d1,d2,d3,d4]) rfl (z3d HE)
theorem z67 (b:Nat) (w:World) (A:OA) (n c:Nat) (l:List Tok) (k d:Nat) (h:RdrX b w A n c l k 0) (hkb:l.length≤1000000) (hk:k≤l.length) (hd:d<64) (kd:Int) (hs:(sg l k=[45]∧kd=2)∨(sg l k=[33]∧kd=3)) (x:Ex) (j:Nat) (HK:XOne b A n c l (k+1) (d+1) (.ok x j)):
  Cz 158 #[pP b,d] w (PostR9 b w A n c l (.ok (.mk kd 0 [] [] [x]) j)):=by
 have hlt:=h.lt;have HM0:=zz (MidX.first h);obtain⟨S,hS⟩:∃ S:BA,S=⟨(sg l k).toArray⟩:=⟨_,rfl⟩;have KS:Hid (∀ w,RdrX b w A n c l k 0→Cz 159 #[pP b] w fun e w'=>e= .returned (.string S)∧Below w.heap.size w w'):=zz fun w h=>by rw[hS];exact z19 b w A n c l k h
 have K:Hid (∀ w,RdrX b w A n c l (k+1) 0→Cz 158 #[pP b,iI ((d:Int)+1)] w (PostR9 b w A n c l (.ok x j))):=zz HK;obtain⟨s0,s1,s2⟩:=z3e l k S hS;have q1:¬ (64:Int)≤d:=by omega
 have q2:(k:Int)≤1000000:=by omega
 rcases hs with ⟨hs,rfl⟩ | ⟨hs,rfl⟩
 ·rw[hs] at s0 s1 s2
  clear HK h hkb hk hd hs hS;go_enter Tryz.func158,Tryz.ntmps158;go_wp2_with (first | (go_at_call 159;((with_reducible refine(KS.out _ HM0.out.rd).mono ?_);rintro e w1 ⟨rfl,hb1⟩;have HM1:=zz (HM0.out.low hlt hb1);have HM1b:=zz hb1;clear hb1;have HM2:=zz (HM1.out.go hlt (k+1) ((k:Int)+1) (by omega));have hz0:=HM1.out.rd.c0;have hz1:=HM1.out.rd.c1;have hz2:=HM1.out.rd.c2;have hz3:=HM1.out.rd.f1;clear KS)) | (go_at_call 158;go_must ((with_reducible refine(K.out _ HM2.out.rd).mono ?_);rintro e w2 ⟨hg2,⟨A2,c2,rfl,hk2⟩,hr2⟩;have HM3:=zz (HM2.out.more hlt hg2 hr2);have HK2:=zz hk2;have HS2:=zz HM2.out.size;clear hg2 hr2 hk2 hz0 hz1 hz2 hz3;obtain⟨d0,d1,d2,d3,d4,_⟩:=HM3.out.boxQ;obtain⟨e0,e1,e2,e3,e4⟩:=HM3.out.boxQ.freed;have hl1:=HM3.out.size)));obtain⟨W3,hW3⟩:∃ W3,W3=((put5 w2 w.heap.size (.int .i64 2) oZ oS oS (.slice (some ⟨w2.heap.size+1,0,none⟩) 1 1)).alloc (objX x A2 c2)).alloc (objX x A2 c2):=⟨_,rfl⟩;have HE:EndX b w W3 A n c l j 0 (.int .i64 2) oZ oS oS (.slice (some ⟨w2.heap.size+1,0,none⟩) 1 1):=HM3.out.fin hlt (by rw[hW3];exact(z0b _ _).trans ((z0b _ _).mono (by simp)))
  have hk3:KidsX (FrX w.heap.size W3.heap.size) W3 (some ⟨w2.heap.size+1,0,none⟩) (.mk 2 0 [] [] [x]):=by
   have g1:=(HK2.out.to (lo':=w.heap.size+1) (by have:=HS2.out;omega) nR).put5 (c:=w.heap.size) (fun hp=>by have:=hp.1;omega) (.int .i64 2) oZ oS oS (.slice (some ⟨w2.heap.size+1,0,none⟩) 1 1);have g2:=g1.allocX (fun k hk=>by rw[z0y];exact hk.2) (objX x A2 c2);have hs:((put5 w2 w.heap.size (.int .i64 2) oZ oS oS (.slice (some ⟨w2.heap.size+1,0,none⟩) 1 1)).alloc (objX x A2 c2)).heap.size=w2.heap.size+1:=by rw[z0j,z0y]
   have g3:=y3x (c:=c2) g2 (fun k hk=>by rw[hs];have:=hk.2;omega) 2 0 [] [];rw[←hW3,hs] at g3;have hs3:W3.heap.size=w2.heap.size+2:=by rw[hW3,z0j,hs]
   exact g3.wide fun q hp=>by
    rw[hs3]
    rcases hp with hp | rfl
    ·exact⟨by have:=hp.1;omega,by have:=hp.2;omega⟩
    ·exact⟨by omega,by omega⟩
  rw[←hW3];clear hW3 d0 d1 d2 d3 d4;obtain⟨d0,d1,d2,d3,d4,_⟩:=HE.box;exact bodyPost_ret (v:= .agg #[iI 2,oZ,oS,oS,.slice (some ⟨w2.heap.size+1,0,none⟩) 1 1]) (by simp[results,Tryz.results158,go_sem,d0,d1,d2,d3,d4]) rfl ⟨HE.grown,⟨_,1,rfl,hk3⟩,HE.rd⟩
 ·rw[hs] at s0 s1 s2
  clear HK h hkb hk hd hs hS;go_enter Tryz.func158,Tryz.ntmps158;go_wp2_with (first | (go_at_call 159;((with_reducible refine(KS.out _ HM0.out.rd).mono ?_);rintro e w1 ⟨rfl,hb1⟩;have HM1:=zz (HM0.out.low hlt hb1);have HM1b:=zz hb1;clear hb1;have HM2:=zz (HM1.out.go hlt (k+1) ((k:Int)+1) (by omega));have hz0:=HM1.out.rd.c0;have hz1:=HM1.out.rd.c1;have hz2:=HM1.out.rd.c2;have hz3:=HM1.out.rd.f1;clear KS)) | (go_at_call 158;go_must ((with_reducible refine(K.out _ HM2.out.rd).mono ?_);rintro e w2 ⟨hg2,⟨A2,c2,rfl,hk2⟩,hr2⟩;have HM3:=zz (HM2.out.more hlt hg2 hr2);have HK2:=zz hk2;have HS2:=zz HM2.out.size;clear hg2 hr2 hk2 hz0 hz1 hz2 hz3;obtain⟨d0,d1,d2,d3,d4,_⟩:=HM3.out.boxQ;obtain⟨e0,e1,e2,e3,e4⟩:=HM3.out.boxQ.freed;have hl1:=HM3.out.size)));obtain⟨W3,hW3⟩:∃ W3,W3=((put5 w2 w.heap.size (.int .i64 3) oZ oS oS (.slice (some ⟨w2.heap.size+1,0,none⟩) 1 1)).alloc (objX x A2 c2)).alloc (objX x A2 c2):=⟨_,rfl⟩;have HE:EndX b w W3 A n c l j 0 (.int .i64 3) oZ oS oS (.slice (some ⟨w2.heap.size+1,0,none⟩) 1 1):=HM3.out.fin hlt (by rw[hW3];exact(z0b _ _).trans ((z0b _ _).mono (by simp)))
  have hk3:KidsX (FrX w.heap.size W3.heap.size) W3 (some ⟨w2.heap.size+1,0,none⟩) (.mk 3 0 [] [] [x]):=by
   have g1:=(HK2.out.to (lo':=w.heap.size+1) (by have:=HS2.out;omega) nR).put5 (c:=w.heap.size) (fun hp=>by have:=hp.1;omega) (.int .i64 3) oZ oS oS (.slice (some ⟨w2.heap.size+1,0,none⟩) 1 1);have g2:=g1.allocX (fun k hk=>by rw[z0y];exact hk.2) (objX x A2 c2);have hs:((put5 w2 w.heap.size (.int .i64 3) oZ oS oS (.slice (some ⟨w2.heap.size+1,0,none⟩) 1 1)).alloc (objX x A2 c2)).heap.size=w2.heap.size+1:=by rw[z0j,z0y]
   have g3:=y3x (c:=c2) g2 (fun k hk=>by rw[hs];have:=hk.2;omega) 3 0 [] [];rw[←hW3,hs] at g3;have hs3:W3.heap.size=w2.heap.size+2:=by rw[hW3,z0j,hs]
   exact g3.wide fun q hp=>by
    rw[hs3]
    rcases hp with hp | rfl
    ·exact⟨by have:=hp.1;omega,by have:=hp.2;omega⟩
    ·exact⟨by omega,by omega⟩
  rw[←hW3];clear hW3 d0 d1 d2 d3 d4;obtain⟨d0,d1,d2,d3,d4,_⟩:=HE.box;exact bodyPost_ret (v:= .agg #[iI 3,oZ,oS,oS,.slice (some ⟨w2.heap.size+1,0,none⟩) 1 1]) (by simp[results,Tryz.results158,go_sem,d0,d1,d2,d3,d4]) rfl ⟨HE.grown,⟨_,1,rfl,hk3⟩,HE.rd⟩
theorem z6a (b:Nat) (w:World) (A:OA) (n c:Nat) (l:List Tok) (k d:Nat) (h:RdrX b w A n c l k 0) (hkb:l.length≤1000000) (hk:k≤l.length) (hd:d<64) (kd:Int) (hs:(sg l k=[45]∧kd=2)∨(sg l k=[33]∧kd=3)) (j er:Nat) (HK:XOne b A n c l (k+1) (d+1) (.bad j er)):
  Cz 158 #[pP b,d] w (PostR9 b w A n c l (.bad j er)):=by
 have hlt:=h.lt;have HM0:=zz (MidX.first h);obtain⟨S,hS⟩:∃ S:BA,S=⟨(sg l k).toArray⟩:=⟨_,rfl⟩;have KS:Hid (∀ w,RdrX b w A n c l k 0→Cz 159 #[pP b] w fun e w'=>e= .returned (.string S)∧Below w.heap.size w w'):=zz fun w h=>by rw[hS];exact z19 b w A n c l k h
 have K:Hid (∀ w,RdrX b w A n c l (k+1) 0→Cz 158 #[pP b,iI ((d:Int)+1)] w (PostR9 b w A n c l (.bad j er))):=zz HK;obtain⟨s0,s1,s2⟩:=z3e l k S hS;have q1:¬ (64:Int)≤d:=by omega
 have q2:(k:Int)≤1000000:=by omega
 rcases hs with ⟨hs,rfl⟩ | ⟨hs,rfl⟩
 ·rw[hs] at s0 s1 s2
  clear HK h hkb hk hd hs hS;go_enter Tryz.func158,Tryz.ntmps158;go_wp2_with (first | (go_at_call 159;((with_reducible refine(KS.out _ HM0.out.rd).mono ?_);rintro e w1 ⟨rfl,hb1⟩;have HM1:=zz (HM0.out.low hlt hb1);have HM1b:=zz hb1;clear hb1;have HM2:=zz (HM1.out.go hlt (k+1) ((k:Int)+1) (by omega));have hz0:=HM1.out.rd.c0;have hz1:=HM1.out.rd.c1;have hz2:=HM1.out.rd.c2;have hz3:=HM1.out.rd.f1;clear KS)) | (go_at_call 158;go_must ((with_reducible refine(K.out _ HM2.out.rd).mono ?_);rintro e w2 ⟨hg2,⟨v0,v1,v2,v3,A4,n4,c4,rfl⟩,hr2⟩;have HM3:=zz (HM2.out.more hlt hg2 hr2);clear hg2 hr2 hz0 hz1 hz2 hz3;obtain⟨d0,d1,d2,d3,d4,_⟩:=HM3.out.boxQ;obtain⟨e0,e1,e2,e3,e4⟩:=HM3.out.boxQ.freed;have hl1:=HM3.out.size)));obtain⟨W3,hW3⟩:∃ W3,W3=((put5 w2 w.heap.size (.int .i64 2) oZ oS oS (.slice (some ⟨w2.heap.size+1,0,none⟩) 1 1)).alloc (.cells #[v0,v1,v2,v3,.slice A4 n4 c4] 38)).alloc (.cells #[v0,v1,v2,v3,.slice A4 n4 c4] 38):=⟨_,rfl⟩;have HE:EndX b w W3 A n c l j er (.int .i64 2) oZ oS oS (.slice (some ⟨w2.heap.size+1,0,none⟩) 1 1):=HM3.out.fin hlt (by rw[hW3];exact(z0b _ _).trans ((z0b _ _).mono (by simp)));rw[←hW3];clear hW3 d0 d1 d2 d3 d4;obtain⟨d0,d1,d2,d3,d4,_⟩:=HE.box;exact bodyPost_ret (v:= .agg #[iI 2,oZ,oS,oS,.slice (some ⟨w2.heap.size+1,0,none⟩) 1 1]) (by simp[results,Tryz.results158,go_sem,d0,d1,d2,d3,d4]) rfl ⟨HE.grown,⟨2,0,⟨#[]⟩,⟨#[]⟩,some ⟨w2.heap.size+1,0,none⟩,1,1,rfl⟩,HE.rd⟩
 ·rw[hs] at s0 s1 s2
  clear HK h hkb hk hd hs hS;go_enter Tryz.func158,Tryz.ntmps158;go_wp2_with (first | (go_at_call 159;((with_reducible refine(KS.out _ HM0.out.rd).mono ?_);rintro e w1 ⟨rfl,hb1⟩;have HM1:=zz (HM0.out.low hlt hb1);have HM1b:=zz hb1;clear hb1;have HM2:=zz (HM1.out.go hlt (k+1) ((k:Int)+1) (by omega));have hz0:=HM1.out.rd.c0;have hz1:=HM1.out.rd.c1;have hz2:=HM1.out.rd.c2;have hz3:=HM1.out.rd.f1;clear KS)) | (go_at_call 158;go_must ((with_reducible refine(K.out _ HM2.out.rd).mono ?_);rintro e w2 ⟨hg2,⟨v0,v1,v2,v3,A4,n4,c4,rfl⟩,hr2⟩;have HM3:=zz (HM2.out.more hlt hg2 hr2);clear hg2 hr2 hz0 hz1 hz2 hz3;obtain⟨d0,d1,d2,d3,d4,_⟩:=HM3.out.boxQ;obtain⟨e0,e1,e2,e3,e4⟩:=HM3.out.boxQ.freed;have hl1:=HM3.out.size)));obtain⟨W3,hW3⟩:∃ W3,W3=((put5 w2 w.heap.size (.int .i64 3) oZ oS oS (.slice (some ⟨w2.heap.size+1,0,none⟩) 1 1)).alloc (.cells #[v0,v1,v2,v3,.slice A4 n4 c4] 38)).alloc (.cells #[v0,v1,v2,v3,.slice A4 n4 c4] 38):=⟨_,rfl⟩;have HE:EndX b w W3 A n c l j er (.int .i64 3) oZ oS oS (.slice (some ⟨w2.heap.size+1,0,none⟩) 1 1):=HM3.out.fin hlt (by rw[hW3];exact(z0b _ _).trans ((z0b _ _).mono (by simp)));rw[←hW3];clear hW3 d0 d1 d2 d3 d4;obtain⟨d0,d1,d2,d3,d4,_⟩:=HE.box;exact bodyPost_ret (v:= .agg #[iI 3,oZ,oS,oS,.slice (some ⟨w2.heap.size+1,0,none⟩) 1 1]) (by simp[results,Tryz.results158,go_sem,d0,d1,d2,d3,d4]) rfl ⟨HE.grown,⟨3,0,⟨#[]⟩,⟨#[]⟩,some ⟨w2.heap.size+1,0,none⟩,1,1,rfl⟩,HE.rd⟩
theorem x04 (b:Nat) (w:World) (A:OA) (n c:Nat) (l:List Tok) (k d:Nat) (h:RdrX b w A n c l k 0) (hkb:l.length≤1000000) (t:Tok) (ht:l[k]?=some t) (h2:t.kind=2):
  Cz 158 #[pP b,d] w (PostR9 b w A n c l (.ok (exNum t.n) (k+1))):=by
 have hlt:=h.lt;have HM0:=zz (MidX.first h);obtain⟨S,hS⟩:∃ S:BA,S=⟨(sg l k).toArray⟩:=⟨_,rfl⟩;have KS:Hid (∀ w,RdrX b w A n c l k 0→Cz 159 #[pP b] w fun e w'=>e= .returned (.string S)∧Below w.heap.size w w'):=zz fun w h=>by rw[hS];exact z19 b w A n c l k h
 have hk:=(List.getElem?_eq_some_iff.1 ht).1;have hn:=h.len;obtain⟨ad,A',c',rfl,hab,h5⟩:=h.row.get ht;obtain⟨s0,s1,s2⟩:=z3e l k S hS;rw[z1o ht (by omega)] at s0 s1 s2;have q2:(k:Int)≤1000000:=by omega
 have q4:decide ((n:Int)≤(k:Int))=false:=by simp;omega
 have q5:decide (n≤k)=false:=by simp;omega
 have q6:(k:Int)<n:=by omega
 have hbt:(ad.add (k * 5)).block<w.heap.size:=by rw[z0p];omega
 obtain⟨W0,hW0⟩:∃ W:BA,W=⟨t.word.toArray⟩:=⟨_,rfl⟩;obtain⟨m0,hm0⟩:∃ m,m=t.parts.length:=⟨_,rfl⟩;unfold TkAt at h5;rw[←hW0,←hm0,h2] at h5
 have HT:Hid (∀ w',Below w.heap.size w w'→w'.cell? (ad.add (k * 5))=some (.int .i64 2)∧w'.cell? ⟨(ad.add (k * 5)).block,(ad.add (k * 5)).off+1,none⟩=some (.string W0)∧w'.cell? ⟨(ad.add (k * 5)).block,(ad.add (k * 5)).off+2,none⟩=some (.int .i64 t.n)∧w'.cell? ⟨(ad.add (k * 5)).block,(ad.add (k * 5)).off+3,none⟩=some (.slice A' m0 c')∧w'.cell? ⟨(ad.add (k * 5)).block,(ad.add (k * 5)).off+4,none⟩=some (.int .i64 t.pl)):=zz fun w' hb=>
  ⟨(hb.cell hbt).trans h5.1,(hb.cell (p:=⟨(ad.add (k * 5)).block,(ad.add (k * 5)).off+1,none⟩) hbt).trans h5.2.1,(hb.cell (p:=⟨(ad.add (k * 5)).block,(ad.add (k * 5)).off+2,none⟩) hbt).trans h5.2.2.1,(hb.cell (p:=⟨(ad.add (k * 5)).block,(ad.add (k * 5)).off+3,none⟩) hbt).trans h5.2.2.2.1,(hb.cell (p:=⟨(ad.add (k * 5)).block,(ad.add (k * 5)).off+4,none⟩) hbt).trans h5.2.2.2.2⟩
 clear h hkb ht h2 hS hn hk hab h5 hW0 hm0;go_enter Tryz.func158,Tryz.ntmps158;go_wp2_with (go_at_call 159;((with_reducible refine(KS.out _ HM0.out.rd).mono ?_);rintro e w1 ⟨rfl,hb1⟩;have HM1:=zz (HM0.out.low hlt hb1);have HM1b:=zz hb1;clear hb1;have hz0:=HM1.out.rd.c0;have hz1:=HM1.out.rd.c1;have hz2:=HM1.out.rd.c2;have hz3:=HM1.out.rd.f1;clear KS;have HB1:=zz (z0b w zeroX);obtain⟨d0,d1,d2,d3,d4,_⟩:=HM1.out.boxQ;obtain⟨e0,e1,e2,e3,e4⟩:=HM1.out.boxQ.freed;have hl1:=HM1.out.size;have hl3:=HM1.out.rd.lt));go_quiet (fail);go_wp2;obtain⟨wq,hwq⟩:∃ x,x=w1.drewN nq:=⟨_,rfl⟩;have hbq:Below w1.heap.size w1 wq:=by rw[hwq];exact z0e bR _
 have HMq:=zz (HM1.out.low hlt hbq);have hall:=HT.out wq ((HB1.out.trans (HM1b.out.mono (by simp))).trans (hbq.mono (Nat.le_of_lt HM1.out.size)));rw[←hwq];clear hwq hbq d0 d1 d2 d3 d4 e0 e1 e2 e3 e4 hz0 hz1 hz2 hz3 hl1 hl3;obtain⟨x0,x1,x2,x3,x4⟩:=hall;have hbt1:(ad.add (k * 5)).block<wq.heap.size:=World.block_lt_of_cell? wq _ x0;have hz0:=HMq.out.rd.c0;have hz1:=HMq.out.rd.c1;have hz3:=HMq.out.rd.f1;have hl1:=HMq.out.size;have hl3:=HMq.out.rd.lt;obtain⟨d0,d1,d2,d3,d4,_⟩:=HMq.out.boxQ;obtain⟨e0,e1,e2,e3,e4⟩:=HMq.out.boxQ.freed
 go_region
 go_wp2;obtain⟨W,hW⟩:∃ W,W=wq.setCell ⟨b,1,none⟩ (.int .i64 ((k:Int)+1)):=⟨_,rfl⟩;have hm:MidX b w W (some ad) n c l (k+1) 0:=by rw[hW];exact HMq.out.go hlt (k+1) _ (by omega)
 obtain⟨W3,hW3⟩:∃ W3,W3=((put5 W w.heap.size (.int .i64 0) (.int .i64 t.n) oS oS ()).alloc (.cells #[iI 2,W0,t.n,.slice A' m0 c',t.pl] 53)).drew:=⟨_,rfl⟩;have HE:EndX b w W3 (some ad) n c l (k+1) 0 (.int .i64 0) (.int .i64 t.n) oS oS ():=hm.fin hlt (by rw[hW3];exact(z0b _ _).drew);rw[←hW,←hW3];clear hW hW3 d0 d1 d2 d3 d4;obtain⟨d0,d1,d2,d3,d4,_⟩:=HE.box;exact bodyPost_ret (v:= .agg #[oZ,t.n,oS,oS,()]) (by simp[results,Tryz.results158,go_sem,d0,d1,d2,d3,d4]) rfl ⟨HE.grown,⟨none,0,rfl,KidsX.leaf _ _ _ _ _ _ _⟩,HE.rd⟩
theorem x2g (b:Nat) (w:World) (A:OA) (n c:Nat) (l:List Tok) (k d:Nat) (h:RdrX b w A n c l k 0) (hkb:l.length≤1000000) (t:Tok) (ht:l[k]?=some t) (h2:t.kind=6):
  Cz 158 #[pP b,d] w (PostR9 b w A n c l (.ok (exVar t.word) (k+1))):=by
 have hlt:=h.lt;have HM0:=zz (MidX.first h);obtain⟨S,hS⟩:∃ S:BA,S=⟨(sg l k).toArray⟩:=⟨_,rfl⟩;have KS:Hid (∀ w,RdrX b w A n c l k 0→Cz 159 #[pP b] w fun e w'=>e= .returned (.string S)∧Below w.heap.size w w'):=zz fun w h=>by rw[hS];exact z19 b w A n c l k h
 have hk:=(List.getElem?_eq_some_iff.1 ht).1;have hn:=h.len;obtain⟨ad,A',c',rfl,hab,h5⟩:=h.row.get ht;obtain⟨s0,s1,s2⟩:=z3e l k S hS;rw[z1o ht (by omega)] at s0 s1 s2;have q2:(k:Int)≤1000000:=by omega
 have q4:decide ((n:Int)≤(k:Int))=false:=by simp;omega
 have q5:decide (n≤k)=false:=by simp;omega
 have q6:(k:Int)<n:=by omega
 have hbt:(ad.add (k * 5)).block<w.heap.size:=by rw[z0p];omega
 obtain⟨W0,hW0⟩:∃ W:BA,W=⟨t.word.toArray⟩:=⟨_,rfl⟩;obtain⟨m0,hm0⟩:∃ m,m=t.parts.length:=⟨_,rfl⟩;unfold TkAt at h5;rw[←hW0,←hm0,h2] at h5
 have HT:Hid (∀ w',Below w.heap.size w w'→w'.cell? (ad.add (k * 5))=some (.int .i64 6)∧w'.cell? ⟨(ad.add (k * 5)).block,(ad.add (k * 5)).off+1,none⟩=some (.string W0)∧w'.cell? ⟨(ad.add (k * 5)).block,(ad.add (k * 5)).off+2,none⟩=some (.int .i64 t.n)∧w'.cell? ⟨(ad.add (k * 5)).block,(ad.add (k * 5)).off+3,none⟩=some (.slice A' m0 c')∧w'.cell? ⟨(ad.add (k * 5)).block,(ad.add (k * 5)).off+4,none⟩=some (.int .i64 t.pl)):=zz fun w' hb=>
  ⟨(hb.cell hbt).trans h5.1,(hb.cell (p:=⟨(ad.add (k * 5)).block,(ad.add (k * 5)).off+1,none⟩) hbt).trans h5.2.1,(hb.cell (p:=⟨(ad.add (k * 5)).block,(ad.add (k * 5)).off+2,none⟩) hbt).trans h5.2.2.1,(hb.cell (p:=⟨(ad.add (k * 5)).block,(ad.add (k * 5)).off+3,none⟩) hbt).trans h5.2.2.2.1,(hb.cell (p:=⟨(ad.add (k * 5)).block,(ad.add (k * 5)).off+4,none⟩) hbt).trans h5.2.2.2.2⟩
 have HW0:=zz hW0;clear h hkb ht h2 hS hn hk hab h5 hW0 hm0;go_enter Tryz.func158,Tryz.ntmps158;go_wp2_with (go_at_call 159;((with_reducible refine(KS.out _ HM0.out.rd).mono ?_);rintro e w1 ⟨rfl,hb1⟩;have HM1:=zz (HM0.out.low hlt hb1);have HM1b:=zz hb1;clear hb1;have hz0:=HM1.out.rd.c0;have hz1:=HM1.out.rd.c1;have hz2:=HM1.out.rd.c2;have hz3:=HM1.out.rd.f1;clear KS;have HB1:=zz (z0b w zeroX);obtain⟨d0,d1,d2,d3,d4,_⟩:=HM1.out.boxQ;obtain⟨e0,e1,e2,e3,e4⟩:=HM1.out.boxQ.freed;have hl1:=HM1.out.size;have hl3:=HM1.out.rd.lt));go_quiet (fail);go_wp2;obtain⟨wq,hwq⟩:∃ x,x=w1.drewN nq:=⟨_,rfl⟩;have hbq:Below w1.heap.size w1 wq:=by rw[hwq];exact z0e bR _
 have HMq:=zz (HM1.out.low hlt hbq);have hall:=HT.out wq ((HB1.out.trans (HM1b.out.mono (by simp))).trans (hbq.mono (Nat.le_of_lt HM1.out.size)));rw[←hwq];clear hwq hbq d0 d1 d2 d3 d4 e0 e1 e2 e3 e4 hz0 hz1 hz2 hz3 hl1 hl3;obtain⟨x0,x1,x2,x3,x4⟩:=hall;have hbt1:(ad.add (k * 5)).block<wq.heap.size:=World.block_lt_of_cell? wq _ x0;have hz0:=HMq.out.rd.c0;have hz1:=HMq.out.rd.c1;have hz3:=HMq.out.rd.f1;have hl1:=HMq.out.size;have hl3:=HMq.out.rd.lt;obtain⟨d0,d1,d2,d3,d4,_⟩:=HMq.out.boxQ;obtain⟨e0,e1,e2,e3,e4⟩:=HMq.out.boxQ.freed
 go_region
 go_wp2;obtain⟨W,hW⟩:∃ W,W=wq.setCell ⟨b,1,none⟩ (.int .i64 ((k:Int)+1)):=⟨_,rfl⟩;have hm:MidX b w W (some ad) n c l (k+1) 0:=by rw[hW];exact HMq.out.go hlt (k+1) _ (by omega)
 obtain⟨W3,hW3⟩:∃ W3,W3=((put5 W w.heap.size (.int .i64 1) oZ (.string W0) oS ()).alloc (.cells #[iI 6,W0,t.n,.slice A' m0 c',t.pl] 53)).drew:=⟨_,rfl⟩;have HE:EndX b w W3 (some ad) n c l (k+1) 0 (.int .i64 1) oZ (.string W0) oS ():=hm.fin hlt (by rw[hW3];exact(z0b _ _).drew);rw[←hW,←hW3];clear hW hW3 d0 d1 d2 d3 d4;obtain⟨d0,d1,d2,d3,d4,_⟩:=HE.box;exact bodyPost_ret (v:= .agg #[iI 1,oZ,W0,oS,()]) (by simp[results,Tryz.results158,go_sem,d0,d1,d2,d3,d4]) rfl ⟨HE.grown,⟨none,0,by rw[HW0.out];rfl,KidsX.leaf _ _ _ _ _ _ _⟩,HE.rd⟩
theorem y2d (b:Nat) (w:World) (A:OA) (n c:Nat) (l:List Tok) (k d:Nat) (h:RdrX b w A n c l k 0) (hk:l.length≤k):
  Cz 158 #[pP b,d] w (PostR9 b w A n c l (.bad k 1)):=by
 have hlt:=h.lt;have HM0:=zz (MidX.first h);obtain⟨S,hS⟩:∃ S:BA,S=⟨(sg l k).toArray⟩:=⟨_,rfl⟩;have KS:Hid (∀ w,RdrX b w A n c l k 0→Cz 159 #[pP b] w fun e w'=>e= .returned (.string S)∧Below w.heap.size w w'):=zz fun w h=>by rw[hS];exact z19 b w A n c l k h
 have hs:¬ pre3 (sg l k):=by rw[z7p (by omega)];simp[pre3]
 have hn:=h.len;obtain⟨s0,s1,s2⟩:=z3e l k S hS;rw[decide_eq_false (fun e=>hs (.inl e))] at s0;rw[decide_eq_false (fun e=>hs (.inr (.inl e)))] at s1;rw[decide_eq_false (fun e=>hs (.inr (.inr e)))] at s2;have KF:=zz fun w h=>z7z 1 1 rfl b w A n c l k h
 have q4:decide ((n:Int)≤(k:Int))=true:=by simp;omega
 have q5:decide (n≤k)=true:=by simp;omega
 have q6:(n:Int)≤k:=by omega
 clear h hk hs hS hn;go_enter Tryz.func158,Tryz.ntmps158;go_wp2_with (go_at_call 159;((with_reducible refine(KS.out _ HM0.out.rd).mono ?_);rintro e w1 ⟨rfl,hb1⟩;have HM1:=zz (HM0.out.low hlt hb1);have HM1b:=zz hb1;clear hb1;have hz0:=HM1.out.rd.c0;have hz1:=HM1.out.rd.c1;have hz2:=HM1.out.rd.c2;have hz3:=HM1.out.rd.f1;clear KS));go_quiet (fail);obtain⟨wq,hwq⟩:∃ x,x=w1.drewN nq:=⟨_,rfl⟩;have HMq:=zz (HM1.out.low (W':=wq) hlt (by rw[hwq];exact z0e bR _));rw[←hwq];clear hwq hz0 hz1 hz2 hz3;go_wp2_with (go_at_call 160;go_must ((with_reducible refine(KF.out _ HMq.out.rd).mono ?_);rintro e w4 ⟨rfl,hr4,hg4⟩;have HM4:=zz (HMq.out.more hlt hg4 hr4);clear hr4 hg4;obtain⟨d0,d1,d2,d3,d4,_⟩:=HM4.out.boxQ;obtain⟨e0,e1,e2,e3,e4⟩:=HM4.out.boxQ.freed));obtain⟨W3,hW3⟩:∃ W3,W3=put5 w4 w.heap.size (.int .i64 0) oZ oS oS ():=⟨_,rfl⟩;have HE:EndX b w W3 A n c l k 1 (.int .i64 0) oZ oS oS ():=HM4.out.fin hlt (by rw[hW3];exact Below.refl _ _);unfold put5 at hW3;rw[←hW3];clear hW3 d0 d1 d2 d3 d4;obtain⟨d0,d1,d2,d3,d4,_⟩:=HE.box;exact bodyPost_ret (v:= .agg #[oZ,oZ,oS,oS,()]) (by simp[results,Tryz.results158,go_sem,d0,d1,d2,d3,d4]) rfl (z3d HE)
theorem y73 (b:Nat) (w:World) (A:OA) (n c:Nat) (l:List Tok) (k d:Nat) (h:RdrX b w A n c l k 0) (hkb:l.length≤1000000) (t:Tok) (ht:l[k]?=some t) (h2:t.kind≠2) (h6:t.kind≠6) (hs:¬ pre3 (sg l k)):
  Cz 158 #[pP b,d] w (PostR9 b w A n c l (.bad k 1)):=by
 have hlt:=h.lt;have HM0:=zz (MidX.first h);obtain⟨S,hS⟩:∃ S:BA,S=⟨(sg l k).toArray⟩:=⟨_,rfl⟩;have KS:Hid (∀ w,RdrX b w A n c l k 0→Cz 159 #[pP b] w fun e w'=>e= .returned (.string S)∧Below w.heap.size w w'):=zz fun w h=>by rw[hS];exact z19 b w A n c l k h
 have hk:=(List.getElem?_eq_some_iff.1 ht).1;have hn:=h.len;obtain⟨ad,A',c',rfl,hab,h5⟩:=h.row.get ht;obtain⟨s0,s1,s2⟩:=z3e l k S hS;rw[decide_eq_false (fun e=>hs (.inl e))] at s0;rw[decide_eq_false (fun e=>hs (.inr (.inl e)))] at s1;rw[decide_eq_false (fun e=>hs (.inr (.inr e)))] at s2;have KF:=zz fun w h=>z7z 1 1 rfl b w (some ad) n c l k h
 obtain⟨kd,hkd⟩:∃ kd,kd=t.kind:=⟨_,rfl⟩;have r2:(kd==2)=false:=by rw[hkd];simpa using h2
 have r6:(kd==6)=false:=by rw[hkd];simpa using h6
 have q2:(k:Int)≤1000000:=by omega
 have q4:decide ((n:Int)≤(k:Int))=false:=by simp;omega
 have q5:decide (n≤k)=false:=by simp;omega
 have q6:(k:Int)<n:=by omega
 have hbt:(ad.add (k * 5)).block<w.heap.size:=by rw[z0p];omega
 obtain⟨W0,hW0⟩:∃ W:BA,W=⟨t.word.toArray⟩:=⟨_,rfl⟩;obtain⟨m0,hm0⟩:∃ m,m=t.parts.length:=⟨_,rfl⟩;unfold TkAt at h5;rw[←hW0,←hm0,←hkd] at h5
 have HT:Hid (∀ w',Below w.heap.size w w'→w'.cell? (ad.add (k * 5))=some (.int .i64 kd)∧w'.cell? ⟨(ad.add (k * 5)).block,(ad.add (k * 5)).off+1,none⟩=some (.string W0)∧w'.cell? ⟨(ad.add (k * 5)).block,(ad.add (k * 5)).off+2,none⟩=some (.int .i64 t.n)∧w'.cell? ⟨(ad.add (k * 5)).block,(ad.add (k * 5)).off+3,none⟩=some (.slice A' m0 c')∧w'.cell? ⟨(ad.add (k * 5)).block,(ad.add (k * 5)).off+4,none⟩=some (.int .i64 t.pl)):=zz fun w' hb=>
  ⟨(hb.cell hbt).trans h5.1,(hb.cell (p:=⟨(ad.add (k * 5)).block,(ad.add (k * 5)).off+1,none⟩) hbt).trans h5.2.1,(hb.cell (p:=⟨(ad.add (k * 5)).block,(ad.add (k * 5)).off+2,none⟩) hbt).trans h5.2.2.1,(hb.cell (p:=⟨(ad.add (k * 5)).block,(ad.add (k * 5)).off+3,none⟩) hbt).trans h5.2.2.2.1,(hb.cell (p:=⟨(ad.add (k * 5)).block,(ad.add (k * 5)).off+4,none⟩) hbt).trans h5.2.2.2.2⟩
 clear h hkb ht h2 h6 hkd hs hS hn hk hab h5 hW0 hm0;go_enter Tryz.func158,Tryz.ntmps158;go_wp2_with (go_at_call 159;((with_reducible refine(KS.out _ HM0.out.rd).mono ?_);rintro e w1 ⟨rfl,hb1⟩;have HM1:=zz (HM0.out.low hlt hb1);have HM1b:=zz hb1;clear hb1;have hz0:=HM1.out.rd.c0;have hz1:=HM1.out.rd.c1;have hz2:=HM1.out.rd.c2;have hz3:=HM1.out.rd.f1;clear KS;have HB1:=zz (z0b w zeroX);obtain⟨d0,d1,d2,d3,d4,_⟩:=HM1.out.boxQ;obtain⟨e0,e1,e2,e3,e4⟩:=HM1.out.boxQ.freed;have hl1:=HM1.out.size;have hl3:=HM1.out.rd.lt));go_quiet (fail);go_wp2;obtain⟨wq,hwq⟩:∃ x,x=w1.drewN nq:=⟨_,rfl⟩;have hbq:Below w1.heap.size w1 wq:=by rw[hwq];exact z0e bR _
 have HMq:=zz (HM1.out.low hlt hbq);have hall:=HT.out wq ((HB1.out.trans (HM1b.out.mono (by simp))).trans (hbq.mono (Nat.le_of_lt HM1.out.size)));rw[←hwq];clear hwq hbq d0 d1 d2 d3 d4 e0 e1 e2 e3 e4 hz0 hz1 hz2 hz3 hl1 hl3;obtain⟨x0,x1,x2,x3,x4⟩:=hall;have hbt1:(ad.add (k * 5)).block<wq.heap.size:=World.block_lt_of_cell? wq _ x0;have hz0:=HMq.out.rd.c0;have hz1:=HMq.out.rd.c1;have hz3:=HMq.out.rd.f1;have hl1:=HMq.out.size;have hl3:=HMq.out.rd.lt;obtain⟨d0,d1,d2,d3,d4,_⟩:=HMq.out.boxQ;obtain⟨e0,e1,e2,e3,e4⟩:=HMq.out.boxQ.freed
 go_region
 obtain⟨wt,hwt⟩:∃ x,x=(wq.alloc (.cells #[kd,W0,t.n,.slice A' m0 c',t.pl] 53)).drew:=⟨_,rfl⟩;have hbt2:Below wq.heap.size wq wt:=by rw[hwt];exact(z0b _ _).drew
 have HMt:=zz (HMq.out.low hlt hbt2);have hbx:Box5 wt wq.heap.size (.int .i64 kd) (.string W0) (.int .i64 t.n) (.slice A' m0 c') (.int .i64 t.pl):=by rw[hwt];exact(Box5.new wq _ _ _ _ _ _).low bR.drew
 rw[←hwt];clear hwt hbt2 d0 d1 d2 d3 d4 e0 e1 e2 e3 e4 hz0 hz1 hz3 x0 x1 x2 x3 x4;obtain⟨g0,g1,g2,g3,g4,_⟩:=hbx;go_wp2_with (go_at_call 160;go_must ((with_reducible refine(KF.out _ HMt.out.rd).mono ?_);rintro e w4 ⟨rfl,hr4,hg4⟩;have HM4:=zz (HMt.out.more hlt hg4 hr4);clear hr4 hg4;obtain⟨d0,d1,d2,d3,d4,_⟩:=HM4.out.boxQ;obtain⟨e0,e1,e2,e3,e4⟩:=HM4.out.boxQ.freed));obtain⟨W3,hW3⟩:∃ W3,W3=put5 w4 w.heap.size (.int .i64 0) oZ oS oS ():=⟨_,rfl⟩;have HE:EndX b w W3 (some ad) n c l k 1 (.int .i64 0) oZ oS oS ():=HM4.out.fin hlt (by rw[hW3];exact Below.refl _ _);unfold put5 at hW3;rw[←hW3];clear hW3 d0 d1 d2 d3 d4;obtain⟨d0,d1,d2,d3,d4,_⟩:=HE.box;exact bodyPost_ret (v:= .agg #[oZ,oZ,oS,oS,()]) (by simp[results,Tryz.results158,go_sem,d0,d1,d2,d3,d4]) rfl (z3d HE)
end Go.Proofs.YtngfihoempcplaaGreatDoor
