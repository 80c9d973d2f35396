import Derived.Test.YthghbdeaenjckaaGreatDoorEx17
namespace Go.Proofs.YthghbdeaenjckaaGreatDoor
open Go Go.RowKit
set_option maxRecDepth 100000
set_option maxHeartbeats 4000000
def placeW (b:Nat) (w:World):Nat:=(intOf ((w.cell? ⟨b,1,none⟩).getD (.int .i64 0))).toNat
theorem placeW_of {b:Nat} {w:World} {A:Option Addr} {n c:Nat} {l:List Tok} {p:Nat} (h:RdC b w A n c l p):placeW b w=p:=by unfold placeW;rw[h.c1];simp[intOf]
def NoX (lo c hi:Nat):Nat→Prop:=fun q=>lo≤q∧q<hi∧q≠c
structure LoopOk (b:Nat) (w:World) (cb:Nat) (A:Option Addr) (n c:Nat) (l:List Tok) (m k d:Nat) (r:Rs) (wr:World) (x:Ex) (p:Nat) (A1:Option Addr) (c1:Nat):Prop where
 mid:MidO b w wr A n c l p
 box:Box5 wr cb (.int .i64 x.kind) (.int .i64 x.n) (.string ⟨x.name.toArray⟩) (.string ⟨x.op.toArray⟩) (.slice A1 x.kids.length c1)
 kids:KidsX (NoX (w.heap.size+1) cb wr.heap.size) wr A1 x
 rest:RdE l (.loop m x) p d r
 lo:k<p
 hi:p≤n
 lt:cb<wr.heap.size
structure LoopBad (b:Nat) (w:World) (cb:Nat) (A:Option Addr) (n c:Nat) (l:List Tok) (r:Rs) (wr:World) (j er:Nat):Prop where
 mid:MidO b w wr A n c l j
 box:Box5 wr cb (.int .i64 0) (.int .i64 0) (.string ⟨#[]⟩) (.string ⟨#[]⟩) (.slice none 0 0)
 res:r= .bad j er
 err:er=1∨er=8
def LoopR (b:Nat) (w:World) (cb:Nat) (A:Option Addr) (n c:Nat) (l:List Tok) (m k d:Nat) (r:Rs) (v:Value) (wr:World):Prop:=
 (∃ x p A1 c1,v= .int .i64 0∧LoopOk b w cb A n c l m k d r wr x p A1 c1)∨∃ j er,v= .int .i64 (er:Nat)∧LoopBad b w cb A n c l r wr j er
noncomputable def loopM (b n:Nat) (v:Value) (wr:World):Nat:=if intOf v=0 then n+1 - placeW b wr else 0
theorem LoopOk.low {b:Nat} {w:World} {cb:Nat} {A:Option Addr} {n c:Nat} {l:List Tok} {m k d:Nat} {r:Rs} {wr:World} {x:Ex} {p:Nat} {A1:Option Addr} {c1:Nat} (h:LoopOk b w cb A n c l m k d r wr x p A1 c1) (hlt:b<w.heap.size) {W:World} (hb:Below wr.heap.size wr W):LoopOk b w cb A n c l m k d r W x p A1 c1:=
 ⟨h.mid.low hlt hb,h.box.low hb,(h.kids.over fun q hq=>hb.block q hq.2.1).wide fun q hq=>⟨hq.1,by have:=hq.2.1;have:=hb.size;omega,hq.2.2⟩,h.rest,h.lo,h.hi,by have:=h.lt;have:=hb.size;omega⟩
theorem LoopOk.own {b:Nat} {w:World} {cb:Nat} {A:Option Addr} {n c:Nat} {l:List Tok} {m k d:Nat} {r:Rs} {wr:World} {x:Ex} {p:Nat} {A1:Option Addr} {c1:Nat} (_:LoopOk b w cb A n c l m k d r wr x p A1 c1) (hlt:b<w.heap.size):∀ q,NoX (w.heap.size+1) cb wr.heap.size q→q<wr.heap.size∧q≠b:=fun q hq=>⟨hq.2.1,by have:=hq.1;omega⟩
theorem MidO.put5 {b:Nat} {w W:World} {A:Option Addr} {n c:Nat} {l:List Tok} {k:Nat} (h:MidO b w W A n c l k) (hlt:b<w.heap.size) {q:Nat} (hq:w.heap.size<q) (v0 v1 v2 v3 v4:Value):MidO b w (put5 W q v0 v1 v2 v3 v4) A n c l k:=
 ⟨((((h.boxQ.other (a:=⟨q,0,none⟩) (Nat.ne_of_gt hq) _).other (a:=⟨q,1,none⟩) (Nat.ne_of_gt hq) _).other (a:=⟨q,2,none⟩) (Nat.ne_of_gt hq) _).other (a:=⟨q,3,none⟩) (Nat.ne_of_gt hq) _).other (a:=⟨q,4,none⟩) (Nat.ne_of_gt hq) _,
   grown_put5 h.grown (Nat.le_of_lt hq) _ _ _ _ _,h.rd.put5 (by omega) _ _ _ _ _,by rw[size_put5];exact h.size⟩
theorem loopM_ok {b n:Nat} {w:World} {A:Option Addr} {c:Nat} {l:List Tok} {p:Nat} (h:RdC b w A n c l p):loopM b n (.int .i64 0) w=n+1 - p:=by
 unfold loopM;rw[placeW_of h];exact if_pos rfl
theorem loopM_bad {b n:Nat} {w:World} {er:Nat} (h:er≠0):loopM b n (.int .i64 (er:Nat)) w=0:=by
 unfold loopM;exact if_neg (by show ¬ (er:Int)=0;omega)
theorem LoopOk.next {b:Nat} {w:World} {cb:Nat} {A:Option Addr} {n c:Nat} {l:List Tok} {m k d:Nat} {r:Rs} {wr:World} {x:Ex} {p:Nat} {A1:Option Addr} {c1:Nat} (h:LoopOk b w cb A n c l m k d r wr x p A1 c1) (hlt:b<w.heap.size) (hcb:w.heap.size<cb) {W:World} {x':Ex} {p':Nat} {A':Option Addr} {c':Nat}
  (hg:wr.grownBy W (some b)) (hk:KidsX (fun q=>NoX (w.heap.size+1) cb wr.heap.size q∨FrX wr.heap.size W.heap.size q) W A' x') (hr:RdC b W A n c l p') (hrest:RdE l (.loop m x') p' d r) (hp:p<p') (hn:p'≤n):
  LoopOk b w cb A n c l m k d r (put5 W cb (.int .i64 x'.kind) (.int .i64 x'.n) (.string ⟨x'.name.toArray⟩) (.string ⟨x'.op.toArray⟩) (.slice A' x'.kids.length c')) x' p' A' c':=by
 have hsz:=hg.size;have hcl:=h.lt;refine⟨(h.mid.more hlt hg hr).put5 hlt hcb _ _ _ _ _,(h.box.grown hg (by omega)).put _ _ _ _ _,?_,hrest,by have:=h.lo;omega,hn,by rw[size_put5];omega⟩;rw[size_put5]
 exact(hk.wide fun q hq=>by
  rcases hq with hq | hq
  ·exact⟨hq.1,by have:=hq.2.1;omega,hq.2.2⟩
  ·exact⟨by have:=hq.1;have:=h.mid.size;omega,hq.2,by have:=hq.1;omega⟩:KidsX (NoX (w.heap.size+1) cb W.heap.size) W A' x').put5 (fun hq=>hq.2.2 rfl) _ _ _ _ _
theorem LoopOk.fell {b:Nat} {w:World} {cb:Nat} {A:Option Addr} {n c:Nat} {l:List Tok} {m k d:Nat} {r:Rs} {wr:World} {x:Ex} {p:Nat} {A1:Option Addr} {c1:Nat} (h:LoopOk b w cb A n c l m k d r wr x p A1 c1) (hlt:b<w.heap.size) (hcb:w.heap.size<cb) {W:World} {j er:Nat}
  (hg:wr.grownBy W (some b)) (hr:RdC b W A n c l j) (hres:r= .bad j er) (he:er=1∨er=8):LoopBad b w cb A n c l r (put5 W cb (.int .i64 0) (.int .i64 0) (.string ⟨#[]⟩) (.string ⟨#[]⟩) (.slice none 0 0)) j er:=
 ⟨(h.mid.more hlt hg hr).put5 hlt hcb _ _ _ _ _,(h.box.grown hg (by omega)).put _ _ _ _ _,hres,he⟩
theorem row_ok (b:Nat) (w:World) (A:Option Addr) (n c:Nat) (l:List Tok) (m k d:Nat) (h:RdC b w A n c l k) (hf:FitL l) (hd:d≤64) (hm:1≤m) (x:Ex) (p:Nat) (r:Rs)
  (HRow:∀ m' p' d' r',k<p'→p'≤n→d'≤64→1≤m'→RdE l (.some m') p' d' r'→ConRow b A n c l m' p' d' r')
  (HOne:ConOne b A n c l k d (.ok x p)) (hp:k<p∧p≤n) (hr:RdE l (.loop m x) p d r):
  Calls Tryz.prog 31 #[.pointer (some ⟨b,0,none⟩),.int .i64 m,.int .i64 d] w (PostC b w A n c l r):=by
 have hlt:=h.lt;have hln:=h.row.1;have HM0:Hid (MidO b w (w.alloc zeroX) A n c l k):=Lib.hid (MidO.first h (Below.refl _ _));have K1:Hid (∀ w,RdC b w A n c l k→Calls Tryz.prog 49 #[.pointer (some ⟨b,0,none⟩),.int .i64 d] w (PostC b w A n c l (.ok x p))):=Lib.hid HOne;have HR:=Lib.hid HRow;have HF:=Lib.hid hf;have HRest:=Lib.hid hr;have HLN:=Lib.hid hln;have hmx:Hid (∀ i,strong (sg l i)≤6):=Lib.hid fun i=>strong_le _
 clear h HOne HRow hf hr hln;go_enter Tryz.func31,Tryz.ntmps31;go_wp2_with (go_at_call 49;go_must ((with_reducible refine(K1.out _ HM0.out.rd).mono ?_);rintro e w2 ⟨hg2,⟨A2,c2,rfl,hk2⟩,hr2⟩;have HM2:=Lib.hid (HM0.out.more hlt hg2 hr2);have HKD:=Lib.hid hk2;clear hg2 hr2 hk2));obtain⟨W2,hW2⟩:∃ W2,W2=w2.alloc (objX x A2 c2):=⟨_,rfl⟩
 have HL0:Hid (LoopOk b w w2.heap.size A n c l m k d r W2 x p A2 c2):=Lib.hid (by
  have hs:W2.heap.size=w2.heap.size+1:=by rw[hW2];exact size_allocX _ _
  have hs1:=size_allocX w zeroX;have g:=HKD.out;rw[hs1] at g;refine⟨by rw[hW2];exact HM2.out.low hlt (one_boxX _ _),by rw[hW2];exact Box5.new w2 _ _ _ _ _ _,?_,HRest.out,hp.1,hp.2,by omega⟩;rw[hs,hW2];exact(g.allocX (fun q hq=>hq.2) _).wide fun q hq=>⟨hq.1,by have:=hq.2;omega,by have:=hq.2;omega⟩)
 rw[←hW2];have HS2:=Lib.hid HM2.out.size;clear hW2
 go_loopw [9] (fun v wr=>LoopR b w w2.heap.size A n c l m k d r v wr) (fun v wr=>loopM b n v wr)
 case atStart=>exact .inl ⟨x,p,A2,c2,rfl,HL0.out⟩
 case round=>
  have HC:Hid (w.heap.size<w2.heap.size):=HS2
  rcases hrel with ⟨x1,p1,A1,c1,rfl,hl⟩ | ⟨j,er,rfl,hl⟩
  ·have HL:=Lib.hid hl
   have hpl:=hl.hi;obtain⟨S,hS⟩:∃ S:ByteArray,S=⟨(sg l p1).toArray⟩:=⟨_,rfl⟩;have KS:Hid (∀ w,RdC b w A n c l p1→Calls Tryz.prog 50 #[.pointer (some ⟨b,0,none⟩)] w fun e w'=>e= .returned (.string S)∧Below w.heap.size w w'):=Lib.hid fun w h=>by rw[hS];exact nextsign_any b w A n c l p1 h HF.out hpl
   have eS:S.data.toList=sg l p1:=by rw[hS]
   have KT:Hid (∀ w,Calls Tryz.prog 41 #[.string S] w fun e w'=>e= .returned (.int .i64 (strong (sg l p1)))∧w=w'):=Lib.hid fun w=>by rw[←eS];exact cstrong_any S w
   clear hS eS;obtain⟨st,hst⟩:∃ st,st=strong (sg l p1):=⟨_,rfl⟩;rw[←hst] at KT;have HST:=Lib.hid hst;have hrest:=hl.rest;clear hl hst
   cases hrest with
   | stop h1=>
     rw[←HST.out] at h1;have g1:decide ((m:Int)≤(st:Int))=false:=by simp;omega
     have g2:decide (m≤st)=false:=by simp;omega
     clear hp hpl hm hd;go_wp2_with (first | (go_at_call 50;go_must ((with_reducible refine(KS.out _ HL.out.mid.rd).mono ?_);rintro e w3 ⟨rfl,hb3⟩;have HL3:=Lib.hid (HL.out.low hlt hb3);clear hb3;obtain⟨d0,d1,d2,d3,d4,_⟩:=HL3.out.mid.boxQ;obtain⟨e0,e1,e2,e3,e4⟩:=HL3.out.mid.boxQ.freed;obtain⟨g0,g1,g2,g3,g4,_⟩:=HL3.out.box)) | (go_at_call 41;go_must ((with_reducible refine(KT.out _).mono ?_);rintro e w' ⟨rfl,rfl⟩)));obtain⟨W3,hW3⟩:∃ W3,W3=put5 w3 w.heap.size (.int .i64 x1.kind) (.int .i64 x1.n) (.string ⟨x1.name.toArray⟩) (.string ⟨x1.op.toArray⟩) (.slice A1 x1.kids.length c1):=⟨_,rfl⟩;have HE:EndQ b w.heap.size w W3 A n c l p1 (.int .i64 x1.kind) (.int .i64 x1.n) (.string ⟨x1.name.toArray⟩) (.string ⟨x1.op.toArray⟩) (.slice A1 x1.kids.length c1):=end_q hlt (Nat.le_refl _) HL3.out.mid.boxQ HL3.out.mid.grown HL3.out.mid.rd (by rw[hW3];exact Below.refl _ _)
     have hk3:KidsX (FrX w.heap.size W3.heap.size) W3 A1 x1:=by
      rw[hW3];exact(HL3.out.kids.put5 (fun hq=>by have:=hq.1;omega) _ _ _ _ _).wide fun q hq=>⟨by have:=hq.1;omega,by rw[size_put5];exact hq.2.1⟩
     unfold put5 at hW3;rw[←hW3];clear hW3 d0 d1 d2 d3 d4;obtain⟨d0,d1,d2,d3,d4,_⟩:=HE.box;exact bodyPost_ret (v:= .tuple #[.agg #[.int .i64 x1.kind,.int .i64 x1.n,.string ⟨x1.name.toArray⟩,.string ⟨x1.op.toArray⟩,.slice A1 x1.kids.length c1],.int .i64 0]) (by simp[results,Tryz.results31,go_sem,d0,d1,d2,d3,d4]) rfl ⟨HE.grown,⟨_,_,rfl,hk3⟩,HE.rd⟩
   | opDeep h1 h2=>
     rw[←HST.out] at h1;have q1:decide ((m:Int)≤(st:Int))=true:=by simp;omega
     have q2:decide (m≤st)=true:=by simp;omega
     have q3:(m:Int)≤st:=by omega
     have hd64:((d:Nat):Int)=64:=by omega
     obtain⟨er,her⟩:∃ er:Nat,er=8:=⟨_,rfl⟩;rw[show Rs.bad p1 8=Rs.bad p1 er by rw[her]] at HL ⊢;have KB:Hid (∀ W,LoopOk b w w2.heap.size A n c l m k d (.bad p1 er) W x1 p1 A1 c1→Calls Tryz.prog 51 #[.pointer (some ⟨b,0,none⟩),.agg #[.int .i64 x1.kind,.int .i64 x1.n,.string ⟨x1.name.toArray⟩,.string ⟨x1.op.toArray⟩,.slice A1 x1.kids.length c1],.int .i64 d] W (PostB b (NoX (w.heap.size+1) w2.heap.size W.heap.size) W A n c l (.bad p1 er))):=Lib.hid fun W hW=>by rw[her,hd64];exact behind_deep b _ W A n c l p1 hW.mid.rd HF.out hW.hi x1 A1 c1 hW.kids (hW.own hlt)
     have HER:=Lib.hid her;have HPL:=Lib.hid hpl;clear hp hpl hm hd h1 h2 her hd64;go_wp2_with (first | (go_at_call 50;go_must ((with_reducible refine(KS.out _ HL.out.mid.rd).mono ?_);rintro e w3 ⟨rfl,hb3⟩;have HL3:=Lib.hid (HL.out.low hlt hb3);clear hb3;obtain⟨g0,g1,g2,g3,g4,_⟩:=HL3.out.box)) | (go_at_call 41;go_must ((with_reducible refine(KT.out _).mono ?_);rintro e w' ⟨rfl,rfl⟩)) | (go_at_call 51;go_must ((with_reducible refine(KB.out _ HL3.out).mono ?_);rintro e w4 ⟨hg4,rfl,hr4⟩;have HG4:=Lib.hid hg4;have HR4:=Lib.hid hr4;have HBX:=Lib.hid (HL3.out.box.grown hg4 (by have:=HC.out;omega));obtain⟨d0,d1,d2,d3,d4,_⟩:=HBX.out;obtain⟨e0,e1,e2,e3,e4⟩:=HBX.out.freed;clear hg4 hr4)))
     go_roundw
     case rel=>exact .inr ⟨p1,er,rfl,HL3.out.fell hlt HC.out HG4.out HR4.out rfl (.inr HER.out)⟩
     case measure=>rw[loopM_bad (by have:=HER.out;omega),loopM_ok HL.out.mid.rd];have:=HPL.out;omega
   | @op _ _ _ _ y k2 _ h1 h2 h3 h4=>
     rw[←HST.out] at h1;have q1:decide ((m:Int)≤(st:Int))=true:=by simp;omega
     have q2:decide (m≤st)=true:=by simp;omega
     have q3:(m:Int)≤st:=by omega
     have hpos:(Md.some (strong (sg l p1)+1)).pos:=by show 1≤strong (sg l p1)+1;omega
     have hp1:p1<l.length:=strong_sg_lt hm (by rw[←HST.out];exact h1);have hwk:=h3.within hpos (by omega);have hk2:p1<k2∧k2≤n:=by have:=hwk.1;have:=hwk.2;have:=HLN.out;omega
     obtain⟨x',hx'⟩:∃ x',x'=exBin (sg l p1) x1 y:=⟨_,rfl⟩
     have KB:Hid (∀ W,LoopOk b w w2.heap.size A n c l m k d r W x1 p1 A1 c1→Calls Tryz.prog 51 #[.pointer (some ⟨b,0,none⟩),.agg #[.int .i64 x1.kind,.int .i64 x1.n,.string ⟨x1.name.toArray⟩,.string ⟨x1.op.toArray⟩,.slice A1 x1.kids.length c1],.int .i64 d] W (PostB b (NoX (w.heap.size+1) w2.heap.size W.heap.size) W A n c l (.ok x' k2))):=Lib.hid fun W hW=>by
      rw[hx'];exact behind_ok b _ W A n c l p1 d hW.mid.rd HF.out hW.hi h2 x1 A1 c1 hW.kids (hW.own hlt) y k2 (HR.out _ _ _ _ (by have:=hW.lo;omega) (by have:=HLN.out;omega) (by omega) (by omega) h3)
     have HX4:Hid (RdE l (.loop m x') k2 d r):=Lib.hid (by rw[hx'];exact h4);have HK2:=Lib.hid hk2;clear hp hpl hm hd h1 h2 h3 h4 hpos hp1 hwk hx' hk2;go_wp2_with (first | (go_at_call 50;go_must ((with_reducible refine(KS.out _ HL.out.mid.rd).mono ?_);rintro e w3 ⟨rfl,hb3⟩;have HL3:=Lib.hid (HL.out.low hlt hb3);clear hb3;obtain⟨g0,g1,g2,g3,g4,_⟩:=HL3.out.box)) | (go_at_call 41;go_must ((with_reducible refine(KT.out _).mono ?_);rintro e w' ⟨rfl,rfl⟩)) | (go_at_call 51;go_must ((with_reducible refine(KB.out _ HL3.out).mono ?_);rintro e w4 ⟨hg4,⟨A4,c4,rfl,hk4⟩,hr4⟩;have HG4:=Lib.hid hg4;have HR4:=Lib.hid hr4;have HK4:=Lib.hid hk4;have HBX:=Lib.hid (HL3.out.box.grown hg4 (by have:=HC.out;omega));obtain⟨d0,d1,d2,d3,d4,_⟩:=HBX.out;obtain⟨e0,e1,e2,e3,e4⟩:=HBX.out.freed;clear hg4 hr4 hk4)))
     go_roundw
     case rel=>exact .inl ⟨x',k2,A4,c4,rfl,HL3.out.next hlt HC.out HG4.out HK4.out HR4.out HX4.out HK2.out.1 HK2.out.2⟩
     case measure=>rw[loopM_ok (HL3.out.next hlt HC.out HG4.out HK4.out HR4.out HX4.out HK2.out.1 HK2.out.2).mid.rd,loopM_ok HL.out.mid.rd];have:=HK2.out;omega
   | @opBad _ _ _ _ j er h1 h2 h3=>
     rw[←HST.out] at h1;have q1:decide ((m:Int)≤(st:Int))=true:=by simp;omega
     have q2:decide (m≤st)=true:=by simp;omega
     have q3:(m:Int)≤st:=by omega
     have hpos:(Md.some (strong (sg l p1)+1)).pos:=by show 1≤strong (sg l p1)+1;omega
     have hp1:p1<l.length:=strong_sg_lt hm (by rw[←HST.out];exact h1);have hwk:=h3.within hpos (by omega)
     have KB:Hid (∀ W,LoopOk b w w2.heap.size A n c l m k d (.bad j er) W x1 p1 A1 c1→Calls Tryz.prog 51 #[.pointer (some ⟨b,0,none⟩),.agg #[.int .i64 x1.kind,.int .i64 x1.n,.string ⟨x1.name.toArray⟩,.string ⟨x1.op.toArray⟩,.slice A1 x1.kids.length c1],.int .i64 d] W (PostB b (NoX (w.heap.size+1) w2.heap.size W.heap.size) W A n c l (.bad j er))):=Lib.hid fun W hW=>
      behind_bad b _ W A n c l p1 d hW.mid.rd HF.out hW.hi h2 x1 A1 c1 hW.kids (hW.own hlt) j er (by rcases hwk.2.2 with e | e <;> omega) (HR.out _ _ _ _ (by have:=hW.lo;omega) (by have:=HLN.out;omega) (by omega) (by omega) h3)
     have HER:=Lib.hid hwk.2.2;have HPL:=Lib.hid hpl;clear hp hpl hm hd h1 h2 h3 hpos hp1 hwk;go_wp2_with (first | (go_at_call 50;go_must ((with_reducible refine(KS.out _ HL.out.mid.rd).mono ?_);rintro e w3 ⟨rfl,hb3⟩;have HL3:=Lib.hid (HL.out.low hlt hb3);clear hb3;obtain⟨g0,g1,g2,g3,g4,_⟩:=HL3.out.box)) | (go_at_call 41;go_must ((with_reducible refine(KT.out _).mono ?_);rintro e w' ⟨rfl,rfl⟩)) | (go_at_call 51;go_must ((with_reducible refine(KB.out _ HL3.out).mono ?_);rintro e w4 ⟨hg4,rfl,hr4⟩;have HG4:=Lib.hid hg4;have HR4:=Lib.hid hr4;have HBX:=Lib.hid (HL3.out.box.grown hg4 (by have:=HC.out;omega));obtain⟨d0,d1,d2,d3,d4,_⟩:=HBX.out;obtain⟨e0,e1,e2,e3,e4⟩:=HBX.out.freed;clear hg4 hr4)))
     go_roundw
     case rel=>exact .inr ⟨j,er,rfl,HL3.out.fell hlt HC.out HG4.out HR4.out rfl HER.out⟩
     case measure=>rw[loopM_bad (by rcases HER.out with e | e <;> omega),loopM_ok HL.out.mid.rd];have:=HPL.out;omega
  ·have HL:=Lib.hid hl
   have he:=hl.err;have q1:((er:Int)==0)=false:=by simp;omega
   have q2:(er==0)=false:=by simp;omega
   obtain rfl:=hl.res;obtain⟨d0,d1,d2,d3,d4,_⟩:=hl.mid.boxQ;obtain⟨e0,e1,e2,e3,e4⟩:=hl.mid.boxQ.freed;obtain⟨g0,g1,g2,g3,g4,_⟩:=hl.box;clear hp hm hd hl he;go_wp2;obtain⟨W3,hW3⟩:∃ W3,W3=put5 wr w.heap.size (.int .i64 0) (.int .i64 0) (.string ⟨#[]⟩) (.string ⟨#[]⟩) (.slice none 0 0):=⟨_,rfl⟩;have HE:EndQ b w.heap.size w W3 A n c l j (.int .i64 0) (.int .i64 0) (.string ⟨#[]⟩) (.string ⟨#[]⟩) (.slice none 0 0):=end_q hlt (Nat.le_refl _) HL.out.mid.boxQ HL.out.mid.grown HL.out.mid.rd (by rw[hW3];exact Below.refl _ _);unfold put5 at hW3;rw[←hW3];clear hW3 d0 d1 d2 d3 d4;obtain⟨d0,d1,d2,d3,d4,_⟩:=HE.box;exact bodyPost_ret (v:= .tuple #[.agg #[.int .i64 0,.int .i64 0,.string ⟨#[]⟩,.string ⟨#[]⟩,.slice none 0 0],.int .i64 er]) (by simp[results,Tryz.results31,go_sem,d0,d1,d2,d3,d4]) rfl ⟨HE.grown,rfl,HE.rd⟩
theorem row_bad (b:Nat) (w:World) (A:Option Addr) (n c:Nat) (l:List Tok) (m k d:Nat) (h:RdC b w A n c l k) (j er:Nat) (he:er≠0) (HOne:ConOne b A n c l k d (.bad j er)):
  Calls Tryz.prog 31 #[.pointer (some ⟨b,0,none⟩),.int .i64 m,.int .i64 d] w (PostC b w A n c l (.bad j er)):=by
 have hlt:=h.lt;have HM0:Hid (MidO b w (w.alloc zeroX) A n c l k):=Lib.hid (MidO.first h (Below.refl _ _));have K1:Hid (∀ w,RdC b w A n c l k→Calls Tryz.prog 49 #[.pointer (some ⟨b,0,none⟩),.int .i64 d] w (PostC b w A n c l (.bad j er))):=Lib.hid HOne;have q1:((er:Int)==0)=false:=by simp;omega
 have q2:(er==0)=false:=by simp;omega
 clear h HOne he;go_enter Tryz.func31,Tryz.ntmps31;go_wp2_with (go_at_call 49;go_must ((with_reducible refine(K1.out _ HM0.out.rd).mono ?_);rintro e w2 ⟨hg2,rfl,hr2⟩;have HM2:=Lib.hid ((HM0.out.more hlt hg2 hr2).low hlt (one_boxX _ zeroX));clear hg2 hr2));obtain⟨W2,hW2⟩:∃ W2,W2=w2.alloc zeroX:=⟨_,rfl⟩;have HB2:Hid (Box5 W2 w2.heap.size (.int .i64 0) (.int .i64 0) (.string ⟨#[]⟩) (.string ⟨#[]⟩) (.slice none 0 0)):=Lib.hid (by rw[hW2];exact Box5.new w2 _ _ _ _ _ _);rw[←hW2] at HM2 ⊢;clear hW2
 go_loopw [9] (fun v wr=>v= .int .i64 (er:Nat)∧wr=W2) (fun _ _=>0)
 case atStart=>exact⟨rfl,rfl⟩
 case round=>
  obtain⟨rfl,rfl⟩:=hrel;obtain⟨d0,d1,d2,d3,d4,_⟩:=HM2.out.boxQ;obtain⟨e0,e1,e2,e3,e4⟩:=HM2.out.boxQ.freed;obtain⟨g0,g1,g2,g3,g4,_⟩:=HB2.out;go_wp2;obtain⟨W3,hW3⟩:∃ W3,W3=put5 wr w.heap.size (.int .i64 0) (.int .i64 0) (.string ⟨#[]⟩) (.string ⟨#[]⟩) (.slice none 0 0):=⟨_,rfl⟩;have HE:EndQ b w.heap.size w W3 A n c l j (.int .i64 0) (.int .i64 0) (.string ⟨#[]⟩) (.string ⟨#[]⟩) (.slice none 0 0):=end_q hlt (Nat.le_refl _) HM2.out.boxQ HM2.out.grown HM2.out.rd (by rw[hW3];exact Below.refl _ _);unfold put5 at hW3;rw[←hW3];clear hW3 d0 d1 d2 d3 d4;obtain⟨d0,d1,d2,d3,d4,_⟩:=HE.box;exact bodyPost_ret (v:= .tuple #[.agg #[.int .i64 0,.int .i64 0,.string ⟨#[]⟩,.string ⟨#[]⟩,.slice none 0 0],.int .i64 er]) (by simp[results,Tryz.results31,go_sem,d0,d1,d2,d3,d4]) rfl ⟨HE.grown,rfl,HE.rd⟩
theorem RdE.goes {l:List Tok} {m:Md} {i d:Nat} {r:Rs} (h:RdE l m i d r):m.pos→i≤l.length→(match m with | .loop _ _=>False | _=>True)→∀ x j,r= .ok x j→i<j:=by
 induction h with
 | deep=>intro _ _ _ x j e;cases e
 | par h1 h2 h3 h4 ih=>
   intro _ hi _ x j e
   cases e
   have a1:=sg_lt (l:=l) (by rw[h1];decide);have:=(h3.within (Nat.le_refl 1) (by omega)).1;omega
 | parOpen=>intro _ _ _ x j e;cases e
 | parBad=>intro _ _ _ x j e;cases e
 | neg h1 h2 h3 ih=>
   intro _ hi _ x j e
   cases e
   have a1:=sg_lt (l:=l) (by rw[h1];decide);have:=(h3.within trivial (by omega)).1;omega
 | not h1 h2 h3 ih=>
   intro _ hi _ x j e
   cases e
   have a1:=sg_lt (l:=l) (by rw[h1];decide);have:=(h3.within trivial (by omega)).1;omega
 | unBad=>intro _ _ _ x j e;cases e
 | num=>intro _ _ _ x j e;cases e;omega
 | var=>intro _ _ _ x j e;cases e;omega
 | none=>intro _ _ _ x j e;cases e
 | some h1 h2 ih1 ih2=>
   intro hp hi _ x j e;have a:=ih1 trivial hi trivial _ _ rfl;have b:=(h2.within hp (h1.within trivial hi).2);rw[e] at b;have:=b.1;omega
 | someBad=>intro _ _ _ x j e;cases e
 | stop=>intro _ _ h;exact h.elim
 | opDeep=>intro _ _ h;exact h.elim
 | op=>intro _ _ h;exact h.elim
 | opBad=>intro _ _ h;exact h.elim
theorem nxt_kind {l:List Tok} {k:Nat} (h:∀ t,l[k]?=some t→t.kind≠2∧t.kind≠6):(nxt l k).kind≠2∧(nxt l k).kind≠6:=by
 unfold nxt
 cases hl:l[k]? with
 | none=>exact⟨by decide,by decide⟩
 | some t=>exact h t hl
theorem nxt_sign {l:List Tok} {k:Nat} (h:sg l k≠[]):(nxt l k).kind≠2∧(nxt l k).kind≠6:=by
 obtain⟨t,h1,h2,_⟩:=sg_at h;rw[nxt_at h1,h2];exact⟨by decide,by decide⟩
theorem read_all (b:Nat) (A:Option Addr) (n c:Nat) (l:List Tok) (hf:FitL l) (hn:n=l.length):∀ N k,n - k≤N→k≤n→
  (∀ d r,d≤64→RdE l .one k d r→ConOne b A n c l k d r)∧∀ m d r,d≤64→1≤m→RdE l (.some m) k d r→ConRow b A n c l m k d r:=by
 intro N
 induction N with
 | zero=>
   intro k hN hk;have hkn:k=n:=by omega
   have hs:sg l k=[]:=sg_past (by omega)
   have one:∀ d r,d≤64→RdE l .one k d r→ConOne b A n c l k d r:=by
    intro d r _ h w hw;have hnone:RdE l .one k d (.bad k 1):= .none (by rw[hs];simp[pre3]) (fun t ht=>by rw[List.getElem?_eq_none (by omega)] at ht;cases ht);obtain rfl:=h.det hnone;obtain⟨h2,h6⟩:=nxt_kind (l:=l) (k:=k) (fun t ht=>by rw[List.getElem?_eq_none (by omega)] at ht;cases ht);exact operand_none b w A n c l k d hw hf hk _ rfl h2 h6 (by rw[hs];simp[pre3])
   refine⟨one,fun m d r hd _ h=>?_⟩
   cases h with
   | some h1 _=>have:=(h1.within trivial (by omega)).1;have:=h1.goes trivial (by omega) trivial _ _ rfl;have:=(h1.within trivial (by omega)).2;omega
   | @someBad _ _ _ j e h1=>
     intro w hw;have he:=(h1.within trivial (by omega)).2.2;exact row_bad b w A n c l m k d hw j e (by rcases he with e | e <;> omega) (one d _ hd h1)
 | succ N ih=>
   intro k hN hk
   have one:∀ d r,d≤64→RdE l .one k d r→ConOne b A n c l k d r:=by
    intro d r hd h w hw;have hkb:k≤1000000:=by have:=hf.len;omega
    have hsd:∀ kd w,RdC b w A n c l k→Calls Tryz.prog 73 #[.pointer (some ⟨b,0,none⟩),.int .i64 kd,.int .i64 64] w (PostC b w A n c l (.bad k 8)):=fun kd w h=>signed_deep b w A n c l k kd h
    cases h with
    | deep h1 h2=>
      have hd64:((d:Nat):Int)=64:=by omega
      have hne:sg l k≠[]:=by rcases h1 with e | e | e <;> rw[e] <;> decide
      obtain⟨n2,n6⟩:=nxt_sign hne
      rcases h1 with e | e | e
      ·exact operand_signed b w A n c l k d hw hf hk _ rfl n2 n6 2 (.inl ⟨e,rfl⟩) _ (fun w hw=>by rw[hd64];exact hsd 2 w hw)
      ·exact operand_signed b w A n c l k d hw hf hk _ rfl n2 n6 3 (.inr ⟨e,rfl⟩) _ (fun w hw=>by rw[hd64];exact hsd 3 w hw)
      ·exact operand_par b w A n c l k d hw hf hk _ rfl n2 n6 e _ (fun w hw=>by rw[hd64];exact inner_deep b w A n c l k hw)
    | @par _ _ x j h1 h2 h3 h4=>
      have hne:sg l k≠[]:=by rw[h1];decide
      obtain⟨n2,n6⟩:=nxt_sign hne;have hk1:=sg_lt hne;have hj:=(h3.within (Nat.le_refl 1) (by omega)).2;exact operand_par b w A n c l k d hw hf hk _ rfl n2 n6 h1 _ (fun w hw=>inner_shut b w A n c l k d hw hf hkb h2 x j (by omega) h4 ((ih (k+1) (by omega) (by omega)).2 1 (d+1) _ (by omega) (Nat.le_refl 1) h3))
    | @parOpen _ _ x j h1 h2 h3 h4=>
      have hne:sg l k≠[]:=by rw[h1];decide
      obtain⟨n2,n6⟩:=nxt_sign hne;have hk1:=sg_lt hne;have hj:=(h3.within (Nat.le_refl 1) (by omega)).2;exact operand_par b w A n c l k d hw hf hk _ rfl n2 n6 h1 _ (fun w hw=>inner_open b w A n c l k d hw hf hkb h2 x j (by omega) h4 ((ih (k+1) (by omega) (by omega)).2 1 (d+1) _ (by omega) (Nat.le_refl 1) h3))
    | @parBad _ _ j e h1 h2 h3=>
      have hne:sg l k≠[]:=by rw[h1];decide
      obtain⟨n2,n6⟩:=nxt_sign hne;have hk1:=sg_lt hne;have he:=(h3.within (Nat.le_refl 1) (by omega)).2.2;exact operand_par b w A n c l k d hw hf hk _ rfl n2 n6 h1 _ (fun w hw=>inner_bad b w A n c l k d hw hkb h2 j e (by rcases he with e | e <;> omega) ((ih (k+1) (by omega) (by omega)).2 1 (d+1) _ (by omega) (Nat.le_refl 1) h3))
    | @neg _ _ x j h1 h2 h3=>
      have hne:sg l k≠[]:=by rw[h1];decide
      obtain⟨n2,n6⟩:=nxt_sign hne;have hk1:=sg_lt hne;exact operand_signed b w A n c l k d hw hf hk _ rfl n2 n6 2 (.inl ⟨h1,rfl⟩) _ (fun w hw=>signed_ok b w A n c l k d 2 hw hkb h2 x j ((ih (k+1) (by omega) (by omega)).1 (d+1) _ (by omega) h3))
    | @not _ _ x j h1 h2 h3=>
      have hne:sg l k≠[]:=by rw[h1];decide
      obtain⟨n2,n6⟩:=nxt_sign hne;have hk1:=sg_lt hne;exact operand_signed b w A n c l k d hw hf hk _ rfl n2 n6 3 (.inr ⟨h1,rfl⟩) _ (fun w hw=>signed_ok b w A n c l k d 3 hw hkb h2 x j ((ih (k+1) (by omega) (by omega)).1 (d+1) _ (by omega) h3))
    | @unBad _ _ j e h1 h2 h3=>
      have hne:sg l k≠[]:=by rcases h1 with e | e <;> rw[e] <;> decide
      obtain⟨n2,n6⟩:=nxt_sign hne;have hk1:=sg_lt hne;have he:=(h3.within trivial (by omega)).2.2
      rcases h1 with h1 | h1
      ·exact operand_signed b w A n c l k d hw hf hk _ rfl n2 n6 2 (.inl ⟨h1,rfl⟩) _ (fun w hw=>signed_bad b w A n c l k d 2 hw hkb h2 j e (by rcases he with e | e <;> omega) ((ih (k+1) (by omega) (by omega)).1 (d+1) _ (by omega) h3))
      ·exact operand_signed b w A n c l k d hw hf hk _ rfl n2 n6 3 (.inr ⟨h1,rfl⟩) _ (fun w hw=>signed_bad b w A n c l k d 3 hw hkb h2 j e (by rcases he with e | e <;> omega) ((ih (k+1) (by omega) (by omega)).1 (d+1) _ (by omega) h3))
    | num h1 h2=>exact operand_num b w A n c l k d hw hf hk _ (nxt_at h1) h2
    | var h1 h2=>exact operand_var b w A n c l k d hw hf hk _ (nxt_at h1) h2
    | none h1 h2=>
      obtain⟨n2,n6⟩:=nxt_kind h2;exact operand_none b w A n c l k d hw hf hk _ rfl n2 n6 h1
   refine⟨one,fun m d r hd hm h=>?_⟩
   cases h with
   | @some _ _ _ x j _ h1 h2=>
     intro w hw;have hj:=(h1.within trivial (by omega)).2;have hg:=h1.goes trivial (by omega) trivial _ _ rfl;exact row_ok b w A n c l m k d hw hf hd hm x j r (fun m' p' d' r' hp hpn hd' hm' h'=>(ih p' (by omega) hpn).2 m' d' r' hd' hm' h') (one d _ hd h1) ⟨hg,by omega⟩ h2
   | @someBad _ _ _ j e h1=>
     intro w hw;have he:=(h1.within trivial (by omega)).2.2;exact row_bad b w A n c l m k d hw j e (by rcases he with e | e <;> omega) (one d _ hd h1)
theorem rde_total (l:List Tok):∀ N k,l.length - k≤N→k≤l.length→(∀ d,∃ r,RdE l .one k d r)∧(∀ m d,1≤m→∃ r,RdE l (.some m) k d r)∧∀ m x d,1≤m→∃ r,RdE l (.loop m x) k d r:=by
 intro N
 induction N with
 | zero=>
   intro k hN hk;have hs:sg l k=[]:=sg_past (by omega);have one:∀ d,RdE l .one k d (.bad k 1):=fun d=> .none (by rw[hs];simp[pre3]) (fun t ht=>by rw[List.getElem?_eq_none (by omega)] at ht;cases ht)
   exact⟨fun d=>⟨_,one d⟩,fun m d _=>⟨_,.someBad (one d)⟩,fun m x d hm=>⟨_,.stop (by rw[hs,strong_nil];omega)⟩⟩
 | succ N ih=>
   intro k hN hk
   have loop:∀ m x d,1≤m→∃ r,RdE l (.loop m x) k d r:=by
    intro m x d hm;by_cases h1:m≤strong (sg l k)
    ·have hk1:=strong_sg_lt hm h1
     by_cases h2:d<64
     ·obtain⟨r,hr⟩:=(ih (k+1) (by omega) (by omega)).2.1 (strong (sg l k)+1) (d+1) (by omega)
      have hw:=hr.within (show (Md.some (strong (sg l k)+1)).pos by show 1≤strong (sg l k)+1;omega) (by omega)
      cases r with
      | bad j e=>exact⟨_,.opBad h1 h2 hr⟩
      | ok y j=>
        obtain⟨r2,hr2⟩:=(ih j (by have:=hw.1;omega) hw.2).2.2 m (exBin (sg l k) x y) d hm;exact⟨_,.op h1 h2 hr hr2⟩
     ·exact⟨_,.opDeep h1 (by omega)⟩
    ·exact⟨_,.stop (by omega)⟩
   have one:∀ d,∃ r,RdE l .one k d r:=by
    intro d;by_cases hp:pre3 (sg l k)
    ·have hne:sg l k≠[]:=by rcases hp with e | e | e <;> rw[e] <;> decide
     have hk1:=sg_lt hne;by_cases h2:d<64
     ·rcases hp with e | e | e
      ·obtain⟨r,hr⟩:=(ih (k+1) (by omega) (by omega)).1 (d+1)
       cases r with
       | bad j er=>exact⟨_,.unBad (.inl e) h2 hr⟩
       | ok y j=>exact⟨_,.neg e h2 hr⟩
      ·obtain⟨r,hr⟩:=(ih (k+1) (by omega) (by omega)).1 (d+1)
       cases r with
       | bad j er=>exact⟨_,.unBad (.inr e) h2 hr⟩
       | ok y j=>exact⟨_,.not e h2 hr⟩
      ·obtain⟨r,hr⟩:=(ih (k+1) (by omega) (by omega)).2.1 1 (d+1) (Nat.le_refl 1)
       cases r with
       | bad j er=>exact⟨_,.parBad e h2 hr⟩
       | ok y j=>
         by_cases h4:sg l j=[41]
         ·exact⟨_,.par e h2 hr h4⟩
         ·exact⟨_,.parOpen e h2 hr h4⟩
     ·exact⟨_,.deep hp (by omega)⟩
    ·by_cases h2:∃ t,l[k]?=some t∧t.kind=2
     ·obtain⟨t,h2,h3⟩:=h2
      exact⟨_,.num h2 h3⟩
     ·by_cases h6:∃ t,l[k]?=some t∧t.kind=6
      ·obtain⟨t,h2,h3⟩:=h6
       exact⟨_,.var h2 h3⟩
      ·exact⟨_,.none hp fun t ht=>⟨fun e=>h2 ⟨t,ht,e⟩,fun e=>h6 ⟨t,ht,e⟩⟩⟩
   refine⟨one,fun m d hm=>?_,loop⟩;obtain⟨r,hr⟩:=one d
   cases r with
   | bad j e=>exact⟨_,.someBad hr⟩
   | ok x j=>
     have hj:=(hr.within trivial hk);by_cases hjk:j=k
     ·subst hjk
      obtain⟨r2,hr2⟩:=loop m x d hm;exact⟨_,.some hr hr2⟩
     ·obtain⟨r2,hr2⟩:=(ih j (by have:=hj.1;omega) hj.2).2.2 m x d hm
      exact⟨_,.some hr hr2⟩
theorem read_some (l:List Tok) (k:Nat) (hk:k≤l.length):∃ r,RdE l (.some 1) k 0 r:=(rde_total l (l.length - k) k (Nat.le_refl _) hk).2.1 1 0 (Nat.le_refl 1)
def PostPX (w:World) (r:Rs) (e:Ending) (w':World):Prop:=Below w.heap.size w w'∧match r with
 | .ok x j=>∃ A c,e= .returned (.tuple #[.agg #[.int .i64 x.kind,.int .i64 x.n,.string ⟨x.name.toArray⟩,.string ⟨x.op.toArray⟩,.slice A x.kids.length c],.int .i64 j,.int .i64 0])∧KidsX (LtX w'.heap.size) w' A x
 | .bad j er=>e= .returned (.tuple #[.agg #[.int .i64 0,.int .i64 0,.string ⟨#[]⟩,.string ⟨#[]⟩,.slice none 0 0],.int .i64 j,.int .i64 er])
theorem rdc_new {w:World} {A:Option Addr} {n c:Nat} {l:List Tok} (k:Nat) (h:RdT w.heap.size w A n l) (hG:Given w) (o:Obj):
  RdC (w.heap.size+1) ((w.alloc o).alloc (.cells #[.slice A n c,.int .i64 k] 61)) A n c l k:=by
 have hs:(w.alloc o).heap.size=w.heap.size+1:=size_allocX _ _;have hb:Below w.heap.size w ((w.alloc o).alloc (.cells #[.slice A n c,.int .i64 k] 61)):=two_boxesX w _ _;refine⟨?_,?_,?_,(h.keep hb).up (by omega),fun w' hb'=>hG.below (hb.trans (hb'.mono (by omega)))⟩
 ·rw[←hs];exact new_at _ _ _ 0 _ rfl
 ·rw[←hs];exact new_at _ _ _ 1 _ rfl
 ·simp[go_sem]
structure ParBox (w W:World) (cb:Nat) (A:Option Addr) (n c:Nat) (l:List Tok) (j:Nat) (x:Ex) (A2:Option Addr) (c2:Nat):Prop where
 boxQ:Box5 W w.heap.size (.int .i64 0) (.int .i64 0) (.string ⟨#[]⟩) (.string ⟨#[]⟩) (.slice none 0 0)
 box:Box5 W cb (.int .i64 x.kind) (.int .i64 x.n) (.string ⟨x.name.toArray⟩) (.string ⟨x.op.toArray⟩) (.slice A2 x.kids.length c2)
 rd:RdC (w.heap.size+1) W A n c l j
 below:Below w.heap.size w W
 kids:KidsX (FrX (w.heap.size+2) W.heap.size) W A2 x
theorem parse_box {w w1 w2:World} {o:Obj} {A:Option Addr} {n c:Nat} {l:List Tok} {j:Nat} {x:Ex} {A2:Option Addr} {c2:Nat} (h1:w1=(w.alloc zeroX).alloc o) (hg:w1.grownBy w2 (some (w.heap.size+1))) (hr:RdC (w.heap.size+1) w2 A n c l j)
  (hk:KidsX (FrX w1.heap.size w2.heap.size) w2 A2 x):ParBox w (w2.alloc (objX x A2 c2)) w2.heap.size A n c l j x A2 c2:=by
 have hs1:w1.heap.size=w.heap.size+2:=by rw[h1,size_allocX,size_allocX]
 have hs:=size_allocX w2 (objX x A2 c2);have hsz:=hg.size;have hb1:Below w.heap.size w w1:=by rw[h1];exact two_boxesX w _ _
 have hq:Box5 w1 w.heap.size (.int .i64 0) (.int .i64 0) (.string ⟨#[]⟩) (.string ⟨#[]⟩) (.slice none 0 0):=by rw[h1];exact(Box5.new w _ _ _ _ _ _).low (one_boxX _ _)
 rw[hs1] at hk;exact⟨(hq.grown hg (by omega)).low (one_boxX _ _),Box5.new w2 _ _ _ _ _ _,hr.box _,(hb1.trans (below_of_grown hg (by omega) (by omega))).trans ((one_boxX _ _).mono (by omega)),(hk.allocX (fun q hq=>hq.2) _).to (Nat.le_refl _) (by omega)⟩
theorem parse_odd (A:Option Addr) (n c:Nat) (at_:Int) (w:World) (h:at_<0∨(n:Int)<at_):
  Calls Tryz.prog 15 #[.slice A n c,.int .i64 at_] w (PostPX w (.bad 0 1)):=by
 by_cases h0:at_<0
 ·go_enter Tryz.func15,Tryz.ntmps15
  go_wp2;exact bodyPost_ret (v:= .tuple #[.agg #[.int .i64 0,.int .i64 0,.string ⟨#[]⟩,.string ⟨#[]⟩,.slice none 0 0],.int .i64 0,.int .i64 1]) (by simp[results,Tryz.results15,go_sem]) rfl ⟨one_boxX _ _,rfl⟩
 ·have h1:(n:Int)<at_:=by omega
  go_enter Tryz.func15,Tryz.ntmps15;go_wp2;exact bodyPost_ret (v:= .tuple #[.agg #[.int .i64 0,.int .i64 0,.string ⟨#[]⟩,.string ⟨#[]⟩,.slice none 0 0],.int .i64 0,.int .i64 1]) (by simp[results,Tryz.results15,go_sem]) rfl ⟨one_boxX _ _,rfl⟩
theorem parseC_any (A:Option Addr) (n c:Nat) (l:List Tok) (k:Nat) (w:World) (h:RdT w.heap.size w A n l) (hf:FitL l) (hG:Given w) (hk:k≤l.length) (r:Rs) (hr:RdE l (.some 1) k 0 r):
  Calls Tryz.prog 15 #[.slice A n c,.int .i64 k] w (PostPX w r):=by
 have hn:=h.1;have HR0:Hid (∀ o,RdC (w.heap.size+1) ((w.alloc o).alloc (.cells #[.slice A n c,.int .i64 k] 61)) A n c l k):=Lib.hid fun o=>rdc_new k h hG o
 have HK:=(read_all (w.heap.size+1) A n c l hf hn (n - k) k (Nat.le_refl _) (by omega)).2 1 0 r (by omega) (Nat.le_refl 1) hr;have q1:¬ (k:Int)<0:=by omega
 have q2:¬ (n:Int)<k:=by omega
 cases r with
 | ok x j=>
   have K:Hid (∀ w',RdC (w.heap.size+1) w' A n c l k→Calls Tryz.prog 31 #[.pointer (some ⟨w.heap.size+1,0,none⟩),.int .i64 1,.int .i64 0] w' (PostC (w.heap.size+1) w' A n c l (.ok x j))):=Lib.hid HK;clear HK h hf hG hk hr hn;go_enter Tryz.func15,Tryz.ntmps15;go_wp2_with (go_at_call 31;go_must ((with_reducible refine(K.out _ (HR0.out _)).mono ?_);rintro e w2 ⟨hg2,⟨A2,c2,rfl,hk2⟩,hr2⟩;have HQ2:=Lib.hid (parse_box (c2:=c2) (by rfl) hg2 hr2 hk2);clear hg2 hr2 hk2));obtain⟨W2,hW2⟩:∃ W2,W2=w2.alloc (objX x A2 c2):=⟨_,rfl⟩;have HQ:Hid (ParBox w W2 w2.heap.size A n c l j x A2 c2):=Lib.hid (by rw[hW2];exact HQ2.out);rw[←hW2];clear hW2 HQ2;obtain⟨c0,c1,f1,_,_⟩:=HQ.out.rd;obtain⟨d0,d1,d2,d3,d4,_⟩:=HQ.out.boxQ;obtain⟨e0,e1,e2,e3,e4⟩:=HQ.out.boxQ.freed;obtain⟨g0,g1,g2,g3,g4,_⟩:=HQ.out.box
   go_region
   go_wp2;obtain⟨W3,hW3⟩:∃ W3,W3=put5 W2 w.heap.size (.int .i64 x.kind) (.int .i64 x.n) (.string ⟨x.name.toArray⟩) (.string ⟨x.op.toArray⟩) (.slice A2 x.kids.length c2):=⟨_,rfl⟩;have hbx:Box5 W3 w.heap.size (.int .i64 x.kind) (.int .i64 x.n) (.string ⟨x.name.toArray⟩) (.string ⟨x.op.toArray⟩) (.slice A2 x.kids.length c2):=by rw[hW3];exact HQ.out.boxQ.put _ _ _ _ _
   have hbl:Below w.heap.size w W3.drew:=by
    rw[hW3];exact(((((HQ.out.below.setCell (Nat.le_refl _) _).setCell (Nat.le_refl _) _).setCell (Nat.le_refl _) _).setCell (Nat.le_refl _) _).setCell (Nat.le_refl _) _).drew
   have hkd:KidsX (LtX W3.drew.heap.size) W3.drew A2 x:=by
    have hs3:W3.drew.heap.size=W2.heap.size:=by show W3.heap.size=_;rw[hW3,size_put5]
    rw[hs3];exact((HQ.out.kids.put5 (c:=w.heap.size) (fun hq=>by have:=hq.1;omega) (.int .i64 x.kind) (.int .i64 x.n) (.string ⟨x.name.toArray⟩) (.string ⟨x.op.toArray⟩) (.slice A2 x.kids.length c2)).over (w':=W3.drew) (fun _ _=>by rw[hW3];rfl)).wide fun q hq=>hq.2
   unfold put5 at hW3;rw[←hW3];clear hW3 d0 d1 d2 d3 d4;obtain⟨d0,d1,d2,d3,d4,_⟩:=hbx;exact bodyPost_ret (v:= .tuple #[.agg #[.int .i64 x.kind,.int .i64 x.n,.string ⟨x.name.toArray⟩,.string ⟨x.op.toArray⟩,.slice A2 x.kids.length c2],.int .i64 j,.int .i64 0]) (by simp[results,Tryz.results15,go_sem,d0,d1,d2,d3,d4]) rfl ⟨hbl,A2,c2,rfl,hkd⟩
 | bad j er=>
   have K:Hid (∀ w',RdC (w.heap.size+1) w' A n c l k→Calls Tryz.prog 31 #[.pointer (some ⟨w.heap.size+1,0,none⟩),.int .i64 1,.int .i64 0] w' (PostC (w.heap.size+1) w' A n c l (.bad j er))):=Lib.hid HK;have he:=(hr.within (Nat.le_refl 1) hk).2.2;have q3:((er:Int) != 0)=true:=by simp;omega
   have q4:(er != 0)=true:=by simp;omega
   clear HK h hf hG hk hr hn he;go_enter Tryz.func15,Tryz.ntmps15;go_wp2_with (go_at_call 31;go_must ((with_reducible refine(K.out _ (HR0.out _)).mono ?_);rintro e w2 ⟨hg2,rfl,hr2⟩;have HQ2:=Lib.hid (parse_box (x:=exNone) (A2:=none) (c2:=0) (by rfl) hg2 hr2 (KidsX.leaf _ _ _ _ _ _ _));clear hg2 hr2));obtain⟨W2,hW2⟩:∃ W2,W2=w2.alloc zeroX:=⟨_,rfl⟩;have HQ:Hid (ParBox w W2 w2.heap.size A n c l j exNone none 0):=Lib.hid (by rw[hW2];exact HQ2.out);rw[←hW2];clear hW2 HQ2;obtain⟨c0,c1,f1,_,_⟩:=HQ.out.rd;obtain⟨d0,d1,d2,d3,d4,_⟩:=HQ.out.boxQ;obtain⟨e0,e1,e2,e3,e4⟩:=HQ.out.boxQ.freed
   go_region
   go_wp2;obtain⟨W3,hW3⟩:∃ W3,W3=put5 W2 w.heap.size (.int .i64 0) (.int .i64 0) (.string ⟨#[]⟩) (.string ⟨#[]⟩) (.slice none 0 0):=⟨_,rfl⟩;have hbx:Box5 W3 w.heap.size (.int .i64 0) (.int .i64 0) (.string ⟨#[]⟩) (.string ⟨#[]⟩) (.slice none 0 0):=by rw[hW3];exact HQ.out.boxQ.put _ _ _ _ _
   have hbl:Below w.heap.size w W3.drew:=by
    rw[hW3];exact(((((HQ.out.below.setCell (Nat.le_refl _) _).setCell (Nat.le_refl _) _).setCell (Nat.le_refl _) _).setCell (Nat.le_refl _) _).setCell (Nat.le_refl _) _).drew
   unfold put5 at hW3;rw[←hW3];clear hW3 d0 d1 d2 d3 d4;obtain⟨d0,d1,d2,d3,d4,_⟩:=hbx;exact bodyPost_ret (v:= .tuple #[.agg #[.int .i64 0,.int .i64 0,.string ⟨#[]⟩,.string ⟨#[]⟩,.slice none 0 0],.int .i64 j,.int .i64 er]) (by simp[results,Tryz.results15,go_sem,d0,d1,d2,d3,d4]) rfl ⟨hbl,rfl⟩
theorem RdrX.other {b:Nat} {w:World} {A:Option Addr} {n c:Nat} {l:List Tok} {k o:Nat} (h:RdrX b w A n c l k o) {a:Addr} (ha:b<a.block) (u:Value):RdrX b (w.setCell a u) A n c l k o:=by
 refine⟨?_,?_,?_,?_,?_,h.row.keep fun p hp=>World.cell?_of_block (Below.heap_setCell _ _ _ _ (by omega)),h.len⟩
 ·rw[World.cell?_setCell_other _ _ _ _ (fun e=>by rw[e] at ha;exact absurd ha (Nat.lt_irrefl _))];exact h.c0
 ·rw[World.cell?_setCell_other _ _ _ _ (fun e=>by rw[e] at ha;exact absurd ha (Nat.lt_irrefl _))];exact h.c1
 ·rw[World.cell?_setCell_other _ _ _ _ (fun e=>by rw[e] at ha;exact absurd ha (Nat.lt_irrefl _))];exact h.c2
 ·rw[World.frozen?_setCell];exact h.f1
 ·rw[World.frozen?_setCell];exact h.f2
theorem RdrX.put5 {b:Nat} {w:World} {A:Option Addr} {n c:Nat} {l:List Tok} {k o:Nat} (h:RdrX b w A n c l k o) {q:Nat} (hq:b<q) (v0 v1 v2 v3 v4:Value):RdrX b (put5 w q v0 v1 v2 v3 v4) A n c l k o:=
 ((((h.other (a:=⟨q,0,none⟩) hq _).other (a:=⟨q,1,none⟩) hq _).other (a:=⟨q,2,none⟩) hq _).other (a:=⟨q,3,none⟩) hq _).other (a:=⟨q,4,none⟩) hq _
theorem RdrX.placez {b:Nat} {w:World} {A:Option Addr} {n c:Nat} {l:List Tok} {k o:Nat} (h:RdrX b w A n c l k o) (j:Nat) (z:Int) (hz:z=j):RdrX b (w.setCell ⟨b,1,none⟩ (.int .i64 z)) A n c l j o:=by subst hz;exact h.place j
theorem RdrX.box {b:Nat} {w:World} {A:Option Addr} {n c:Nat} {l:List Tok} {k o:Nat} (h:RdrX b w A n c l k o) (ob:Obj):RdrX b (w.alloc ob) A n c l k o:=h.next (one_boxX _ _)
structure MidX (b:Nat) (w W:World) (A:Option Addr) (n c:Nat) (l:List Tok) (j o:Nat):Prop where
 boxQ:Box5 W w.heap.size (.int .i64 0) (.int .i64 0) (.string ⟨#[]⟩) (.string ⟨#[]⟩) (.slice none 0 0)
 grown:w.grownBy W (some b)
 rd:RdrX b W A n c l j o
 size:w.heap.size<W.heap.size
theorem MidX.first {b:Nat} {w:World} {A:Option Addr} {n c:Nat} {l:List Tok} {k o:Nat} (hr:RdrX b w A n c l k o):MidX b w (w.alloc zeroX) A n c l k o:=
 ⟨Box5.new w _ _ _ _ _ _,grown_below (one_boxX _ _),hr.box _,by rw[size_allocX];exact Nat.lt_succ_self _⟩
theorem MidX.more {b:Nat} {w W W':World} {A:Option Addr} {n c:Nat} {l:List Tok} {k j o o':Nat} (h:MidX b w W A n c l k o) (hlt:b<w.heap.size) (hg:W.grownBy W' (some b)) (hr:RdrX b W' A n c l j o'):MidX b w W' A n c l j o':=
 ⟨h.boxQ.grown hg (by omega),grown_trans h.grown hg,hr,Nat.lt_of_lt_of_le h.size hg.size⟩
theorem MidX.low {b:Nat} {w W W':World} {A:Option Addr} {n c:Nat} {l:List Tok} {k o:Nat} (h:MidX b w W A n c l k o) (hlt:b<w.heap.size) (hb:Below W.heap.size W W'):MidX b w W' A n c l k o:=h.more hlt (grown_below hb) (h.rd.next hb)
theorem MidX.go {b:Nat} {w W:World} {A:Option Addr} {n c:Nat} {l:List Tok} {k o:Nat} (h:MidX b w W A n c l k o) (hlt:b<w.heap.size) (j:Nat) (z:Int) (hz:z=j):MidX b w (W.setCell ⟨b,1,none⟩ (.int .i64 z)) A n c l j o:=h.more hlt (grown_set b 1 _ _) (h.rd.placez j z hz)
structure EndX (b:Nat) (w W3:World) (A:Option Addr) (n c:Nat) (l:List Tok) (j o:Nat) (v0 v1 v2 v3 v4:Value):Prop where
 box:Box5 W3 w.heap.size v0 v1 v2 v3 v4
 grown:w.grownBy W3 (some b)
 rd:RdrX b W3 A n c l j o
theorem MidX.fin {b:Nat} {w W W3:World} {A:Option Addr} {n c:Nat} {l:List Tok} {j o:Nat} {v0 v1 v2 v3 v4:Value} (h:MidX b w W A n c l j o) (hlt:b<w.heap.size)
  (h3:Below (put5 W w.heap.size v0 v1 v2 v3 v4).heap.size (put5 W w.heap.size v0 v1 v2 v3 v4) W3):EndX b w W3 A n c l j o v0 v1 v2 v3 v4:=
 ⟨(h.boxQ.put _ _ _ _ _).low h3,grown_trans (grown_put5 h.grown (Nat.le_refl _) _ _ _ _ _) (grown_below h3),(h.rd.put5 hlt _ _ _ _ _).next h3⟩
def PostR9 (b:Nat) (w:World) (A:Option Addr) (n c:Nat) (l:List Tok) (r:Rs) (e:Ending) (w':World):Prop:=w.grownBy w' (some b)∧match r with
 | .ok x j=>(∃ A' c',e= .returned (.agg #[.int .i64 x.kind,.int .i64 x.n,.string ⟨x.name.toArray⟩,.string ⟨x.op.toArray⟩,.slice A' x.kids.length c'])∧KidsX (FrX w.heap.size w'.heap.size) w' A' x)∧RdrX b w' A n c l j 0
 | .bad j er=>(∃ (v0 v1:Int) (v2 v3:ByteArray) (A4:Option Addr) (n4 c4:Nat),e= .returned (.agg #[.int .i64 v0,.int .i64 v1,.string v2,.string v3,.slice A4 n4 c4]))∧RdrX b w' A n c l j er
def XOne (b:Nat) (A:Option Addr) (n c:Nat) (l:List Tok) (k d:Nat) (r:Rs):Prop:=∀ w,RdrX b w A n c l k 0→Calls Tryz.prog 52 #[.pointer (some ⟨b,0,none⟩),.int .i64 d] w (PostR9 b w A n c l r)
def XRow (b:Nat) (A:Option Addr) (n c:Nat) (l:List Tok) (m k d:Nat) (r:Rs):Prop:=∀ w,RdrX b w A n c l k 0→Calls Tryz.prog 32 #[.pointer (some ⟨b,0,none⟩),.int .i64 m,.int .i64 d] w (PostR9 b w A n c l r)
theorem post_zero {b:Nat} {w W3:World} {A:Option Addr} {n c:Nat} {l:List Tok} {j er:Nat} (h:EndX b w W3 A n c l j er (.int .i64 0) (.int .i64 0) (.string ⟨#[]⟩) (.string ⟨#[]⟩) (.slice none 0 0)):PostR9 b w A n c l (.bad j er) (.returned (.agg #[.int .i64 0,.int .i64 0,.string ⟨#[]⟩,.string ⟨#[]⟩,.slice none 0 0])) W3:=
 ⟨h.grown,⟨0,0,⟨#[]⟩,⟨#[]⟩,none,0,0,rfl⟩,h.rd⟩
theorem signX_0 (b:Nat) (w:World) (A:Option Addr) (n c:Nat) (l:List Tok) (k:Nat) (h:RdrX b w A n c l k 0):
 Calls Tryz.prog 53 #[.pointer (some ⟨b,0,none⟩)] w fun e w'=>e= .returned (.string ⟨(sg l k).toArray⟩)∧Below w.heap.size w w':=signX_any b w A n c l k 0 h (by omega)
theorem signX_1 (b:Nat) (w:World) (A:Option Addr) (n c:Nat) (l:List Tok) (k o:Nat) (h:RdrX b w A n c l k o) (ho:o≠0∧o≤100):
  Calls Tryz.prog 53 #[.pointer (some ⟨b,0,none⟩)] w fun e w'=>e= .returned (.string ⟨#[]⟩)∧Below w.heap.size w w':=by
 have:=signX_any b w A n c l k o h ho.2;unfold sgX at this;rw[if_neg ho.1] at this;exact this
theorem failX_0 (er:Nat) (z:Int) (hz:z=er) (b:Nat) (w:World) (A:Option Addr) (n c:Nat) (l:List Tok) (k:Nat) (h:RdrX b w A n c l k 0):
 Calls Tryz.prog 54 #[.pointer (some ⟨b,0,none⟩),.int .i64 z] w fun e w'=>e= .returned (.tuple #[])∧RdrX b w' A n c l k er∧w.grownBy w' (some b):=by subst hz;exact failX_any er b w A n c l k 0 h (by omega)
theorem failX_1 (er:Nat) (z:Int) (hz:z=er) (b:Nat) (w:World) (A:Option Addr) (n c:Nat) (l:List Tok) (k o:Nat) (h:RdrX b w A n c l k o) (ho:o≠0∧o≤100):
  Calls Tryz.prog 54 #[.pointer (some ⟨b,0,none⟩),.int .i64 z] w fun e w'=>e= .returned (.tuple #[])∧RdrX b w' A n c l k o∧w.grownBy w' (some b):=by
 subst hz;have:=failX_any er b w A n c l k o h ho.2;rw[if_neg ho.1] at this;exact this
theorem xone_deep (b:Nat) (w:World) (A:Option Addr) (n c:Nat) (l:List Tok) (k d:Nat) (h:RdrX b w A n c l k 0) (hd:64≤d) (hs:pre3 (sg l k)):
  Calls Tryz.prog 52 #[.pointer (some ⟨b,0,none⟩),.int .i64 d] w (PostR9 b w A n c l (.bad k 8)):=by
 have hlt:=h.lt;have HM0:=Lib.hid (MidX.first h);obtain⟨S,hS⟩:∃ S:ByteArray,S=⟨(sg l k).toArray⟩:=⟨_,rfl⟩;have KS:Hid (∀ w,RdrX b w A n c l k 0→Calls Tryz.prog 53 #[.pointer (some ⟨b,0,none⟩)] w fun e w'=>e= .returned (.string S)∧Below w.heap.size w w'):=Lib.hid fun w h=>by rw[hS];exact signX_0 b w A n c l k h
 have KF:=Lib.hid fun w h=>failX_0 8 8 rfl b w A n c l k h
 obtain⟨s0,s1,s2⟩:=sgt_of l k S hS;have q1:(64:Int)≤d:=by omega
 clear h hd hS
 rcases hs with hs | hs | hs
 all_goals
  rw[hs] at s0 s1 s2;clear hs;go_enter Tryz.func52,Tryz.ntmps52;go_wp2_with (first | (go_at_call 53;go_must ((with_reducible refine(KS.out _ HM0.out.rd).mono ?_);rintro e w1 ⟨rfl,hb1⟩;have HM1:=Lib.hid (HM0.out.low hlt hb1);clear hb1)) | (go_at_call 54;go_must ((with_reducible refine(KF.out _ HM1.out.rd).mono ?_);rintro e w2 ⟨rfl,hr2,hg2⟩;have HM2:=Lib.hid (HM1.out.more hlt hg2 hr2);clear hr2 hg2;obtain⟨d0,d1,d2,d3,d4,_⟩:=HM2.out.boxQ;obtain⟨e0,e1,e2,e3,e4⟩:=HM2.out.boxQ.freed)));obtain⟨W3,hW3⟩:∃ W3,W3=put5 w2 w.heap.size (.int .i64 0) (.int .i64 0) (.string ⟨#[]⟩) (.string ⟨#[]⟩) (.slice none 0 0):=⟨_,rfl⟩;have HE:=HM2.out.fin hlt (by rw[←hW3];exact Below.refl _ W3);unfold put5 at hW3;rw[←hW3];clear hW3 d0 d1 d2 d3 d4;obtain⟨d0,d1,d2,d3,d4,_⟩:=HE.box;exact bodyPost_ret (v:= .agg #[.int .i64 0,.int .i64 0,.string ⟨#[]⟩,.string ⟨#[]⟩,.slice none 0 0]) (by simp[results,Tryz.results52,go_sem,d0,d1,d2,d3,d4]) rfl (post_zero HE)
end Go.Proofs.YthghbdeaenjckaaGreatDoor
