import Derived.Test.YtejgbpbljdhndaaDoorH12
import Derived.Test.YtejgbpbljdhndaaDoorH16
namespace Go.Proofs.YtejgbpbljdhndaaDoor
open Go Go.RowKit
set_option maxRecDepth 100000
set_option maxHeartbeats 4000000
section
set_option linter.unusedSimpArgs false
set_option linter.unusedVariables false
theorem x3h {c:Cx} {w:World} {o:WO} (t:Trk) (nd:Nd) (hfi:FinAt c w) (h:WaysAt c.fb w o) (hl:o.tr.length≤900000000000) (hn:c.T[t.x.part]?=some nd) (hx:nd.nx≠0):
  Calls Tryd.prog 43 #[.pointer (some ⟨o.a,0,none⟩),trkV t] w (EntPost c o t (leaN c.T nd t.x) w):=by
 have HE:Hid (leaN c.T nd t.x=([⟨nd.nx,0,t.x.place,t.x.mover,t.x.count⟩],.keep)):=Lib.hid (z43 hx);have hN:t.x.part<c.T.length:=(List.getElem?_eq_some_iff.mp hn).1;obtain⟨R,rc,K,kc,hat,hin⟩:=hfi.parts.2 _ _ hn;have a11:=hat.2.2.2.2.2.2.2.2.2.2.2.1;have a10:=hat.2.2.2.2.2.2.2.2.2.2.1;have c0:w.cell? ⟨o.a,0,none⟩=some (.pointer (some ⟨c.fb,0,none⟩)):=(z0c h.box 0).trans rfl;have d0:w.cell? ⟨c.fb,0,none⟩=some (.slice (some ⟨c.pb,0,none⟩) c.T.length c.pc):=(z0c hfi.box 0).trans rfl;have lb:∀ {b j:Nat} {v:Value},w.cell? ⟨b,j,none⟩=some v→∀ o',(w.alloc o').cell? ⟨b,j,none⟩=some v:=fun {b j v} e o'=>((z0b w o').cell (p:=⟨b,j,none⟩) (World.block_lt_of_cell? w _ e)).trans e
 obtain⟨p1,h1⟩:∃ x:Nat,x=t.x.part:=⟨_,rfl⟩;obtain⟨p2,h2⟩:∃ x:Int,x=(t.x.done:Nat):=⟨_,rfl⟩;obtain⟨p3,h3⟩:∃ x:Nat,x=t.x.place:=⟨_,rfl⟩;obtain⟨p4,h4⟩:∃ x:Int,x=t.x.mover:=⟨_,rfl⟩;obtain⟨p5,h5⟩:∃ x:Int,x=(t.x.count:Nat):=⟨_,rfl⟩;obtain⟨p6,h6⟩:∃ x:Int,x=(t.tried:Nat):=⟨_,rfl⟩;obtain⟨p7,h7⟩:∃ x,Value.pointer x=pv t.tl:=⟨_,rfl⟩;have H0:=Lib.hid (And.intro h1 (And.intro h2 (And.intro h3 (And.intro h4 (And.intro h5 (And.intro h6 h7))))));obtain⟨Q,hQ⟩:∃ Q,Q=EntPost c o t (leaN c.T nd t.x) w:=⟨_,rfl⟩;rw[←hQ];unfold trkV;rw[←h1,←h2,←h3,←h4,←h5,←h6,←h7];rw[←h1] at hN;obtain⟨N,hNN⟩:∃ N,N=c.T.length:=⟨_,rfl⟩;rw[←hNN] at d0 hN;clear hNN;obtain⟨a,ha⟩:∃ a,a=o.a:=⟨_,rfl⟩;rw[←ha] at c0 ⊢;have HA:=Lib.hid ha;have c0':=lb c0;have d0':=lb d0;have HQ:=Lib.hid hQ;have HFI:=Lib.hid hfi;have HH:=Lib.hid h;obtain⟨nx,hnx⟩:∃ nx,nx=nd.nx:=⟨_,rfl⟩;rw[←hnx] at a11 hx;have HNX:=Lib.hid hnx;have hz1:((nx:Int) != 0)=true:=by simp;omega
 have hz2:((nx:Int)==0)=false:=by simp;omega
 clear hnx hx;rw[←h1] at a11 a10;have HAT:=Lib.hid hat;have HNK:=Lib.hid (And.intro hn hl);clear h1 h2 h3 h4 h5 h6 h7 hQ hat hin hn hl ha;go_enter Tryd.func43,Tryd.ntmps43;go_wp2;go_quiet (fail)
 rename_i hK
 refine hK _ _ ?_;clear hK;obtain⟨W,hW⟩:∃ W,W=((w.alloc (.cells #[.int .i64 (p1:Nat),.int .i64 p2,.int .i64 (p3:Nat),.int .i64 p4,.int .i64 p5,.int .i64 p6,.pointer p7] 89)).drewN nq):=⟨_,rfl⟩;have hb:Below w.heap.size w W:=by rw[hW];exact(z0b w _).trans ⟨rfl,rfl,rfl,Nat.le_refl _,fun _ _=>rfl⟩
 have hbx:W.heap[w.heap.size]?=some (.cells #[.int .i64 (p1:Nat),.int .i64 p2,.int .i64 (p3:Nat),.int .i64 p4,.int .i64 p5,.int .i64 p6,.pointer p7] 89):=by rw[hW];exact heap_alloc_new w _
 rw[←hW];have hold:∀ {b j:Nat} {v:Value},w.cell? ⟨b,j,none⟩=some v→W.cell? ⟨b,j,none⟩=some v:=fun {b j v} e=>(hb.cell (p:=⟨b,j,none⟩) (World.block_lt_of_cell? w _ e)).trans e
 have t0:=z0c hbx 0;have t1:=z0c hbx 1;have t2:=z0c hbx 2;have t3:=z0c hbx 3;have t4:=z0c hbx 4;have t5:=z0c hbx 5;have t6:=z0c hbx 6;simp at t0 t1 t2 t3 t4 t5 t6;have ft:=z0m hbx;have x11:=hold a11;have x10:=hold a10;have xc0:=hold c0;have xd0:=hold d0;clear a11 a10 x10 c0 d0 c0' d0' hold lb
 have HC:Hid (Calls Tryd.prog 29 #[.pointer (some ⟨a,0,none⟩),.agg #[.int .i64 (nx:Nat),.int .i64 0,.int .i64 (p3:Nat),.int .i64 p4,.int .i64 p5,.int .i64 p6,.pointer p7]] ((W.setCell ⟨w.heap.size,0,none⟩ (.int .i64 (nx:Nat))).setCell ⟨w.heap.size,1,none⟩ (.int .i64 0)) (fun e w'=>e= .returned (.tuple #[])∧Hid (Q e w'))):=Lib.hid (by
  have hb2:Below w.heap.size w ((W.setCell ⟨w.heap.size,0,none⟩ (.int .i64 (nx:Nat))).setCell ⟨w.heap.size,1,none⟩ (.int .i64 0)):=(hb.setCell (p:=⟨w.heap.size,0,none⟩) (Nat.le_refl _) _).setCell (p:=⟨w.heap.size,1,none⟩) (Nat.le_refl _) _;have h1:=z01 (fb:=c.fb) ⟨⟨nd.nx,0,t.x.place,t.x.mover,t.x.count⟩,t.tried,t.tl⟩ (HH.out.next hb2) (by have:=HNK.out.2;omega)
  have e:trkV ⟨⟨nd.nx,0,t.x.place,t.x.mover,t.x.count⟩,t.tried,t.tl⟩= .agg #[.int .i64 (nx:Nat),.int .i64 0,.int .i64 (p3:Nat),.int .i64 p4,.int .i64 p5,.int .i64 p6,.pointer p7]:=by
   obtain⟨y1,y2,y3,y4,y5,y6,y7⟩:=H0.out;unfold trkV;rw[HNX.out,y3,y4,y5,y6,y7];try rfl
  rw[HA.out];rw[e] at h1;refine h1.mono fun e w' h=>⟨h.1,Lib.hid ?_⟩
  rw[HQ.out];exact z09 HH.out hb2 (by rw[HE.out]) (by rw[HE.out];exact h))
 clear hb hbx hW;go_wp2_with (first | (go_at_call 29;((with_reducible refine(HC.out).mono ?_));rintro _ w' ⟨rfl,hq⟩) | fail)
 go_end0
 exact hq.out
theorem x33 {c:Cx} {w:World} {o:WO} (t:Trk) (nd:Nd) (hfi:FinAt c w) (h:WaysAt c.fb w o) (hl:o.tr.length≤900000000000) (hn:c.T[t.x.part]?=some nd) (hp0:t.x.part≠0) (hx:nd.nx=0) {pd:Nd} (hpd:c.T[nd.par]?=some pd) (hk:pd.r.kind=4):
  Calls Tryd.prog 43 #[.pointer (some ⟨o.a,0,none⟩),trkV t] w (EntPost c o t (leaN c.T nd t.x) w):=by
 have HE:Hid (leaN c.T nd t.x=([⟨nd.par,t.x.done,t.x.place,t.x.mover,t.x.count⟩],.keep)):=Lib.hid (lea_x hx hpd (by omega));have hN:t.x.part<c.T.length:=(List.getElem?_eq_some_iff.mp hn).1;obtain⟨R,rc,K,kc,hat,hin⟩:=hfi.parts.2 _ _ hn;have a11:=hat.2.2.2.2.2.2.2.2.2.2.2.1;have a10:=hat.2.2.2.2.2.2.2.2.2.2.1;have c0:w.cell? ⟨o.a,0,none⟩=some (.pointer (some ⟨c.fb,0,none⟩)):=(z0c h.box 0).trans rfl;have d0:w.cell? ⟨c.fb,0,none⟩=some (.slice (some ⟨c.pb,0,none⟩) c.T.length c.pc):=(z0c hfi.box 0).trans rfl;have lb:∀ {b j:Nat} {v:Value},w.cell? ⟨b,j,none⟩=some v→∀ o',(w.alloc o').cell? ⟨b,j,none⟩=some v:=fun {b j v} e o'=>((z0b w o').cell (p:=⟨b,j,none⟩) (World.block_lt_of_cell? w _ e)).trans e
 obtain⟨p1,h1⟩:∃ x:Nat,x=t.x.part:=⟨_,rfl⟩;obtain⟨p2,h2⟩:∃ x:Int,x=(t.x.done:Nat):=⟨_,rfl⟩;obtain⟨p3,h3⟩:∃ x:Nat,x=t.x.place:=⟨_,rfl⟩;obtain⟨p4,h4⟩:∃ x:Int,x=t.x.mover:=⟨_,rfl⟩;obtain⟨p5,h5⟩:∃ x:Int,x=(t.x.count:Nat):=⟨_,rfl⟩;obtain⟨p6,h6⟩:∃ x:Int,x=(t.tried:Nat):=⟨_,rfl⟩;obtain⟨p7,h7⟩:∃ x,Value.pointer x=pv t.tl:=⟨_,rfl⟩;have H0:=Lib.hid (And.intro h1 (And.intro h2 (And.intro h3 (And.intro h4 (And.intro h5 (And.intro h6 h7))))));obtain⟨Q,hQ⟩:∃ Q,Q=EntPost c o t (leaN c.T nd t.x) w:=⟨_,rfl⟩;rw[←hQ];unfold trkV;rw[←h1,←h2,←h3,←h4,←h5,←h6,←h7];rw[←h1] at hN;obtain⟨N,hNN⟩:∃ N,N=c.T.length:=⟨_,rfl⟩;rw[←hNN] at d0 hN;obtain⟨a,ha⟩:∃ a,a=o.a:=⟨_,rfl⟩;rw[←ha] at c0 ⊢;have HA:=Lib.hid ha;have c0':=lb c0;have d0':=lb d0;have HQ:=Lib.hid hQ;have HFI:=Lib.hid hfi;have HH:=Lib.hid h;obtain⟨par,hpar⟩:∃ par,par=nd.par:=⟨_,rfl⟩;rw[hx] at a11;have hq0:parQ t.x.part nd=(par:Int):=by unfold parQ;rw[if_neg (by omega),hpar]
 rw[hq0] at a10;rw[←hpar] at hpd;have HPAR:=Lib.hid (And.intro hpar hpd);have hpN:par<c.T.length:=(List.getElem?_eq_some_iff.mp hpd).1;obtain⟨R2,rc2,K2,kc2,hat2,hin2⟩:=hfi.parts.2 _ _ hpd;have b0:=hat2.1;rw[hk] at b0;rw[←hNN] at hpN;clear hNN;clear hpar hpd hq0 hx hp0 hat2 hin2;rw[←h1] at a11 a10;have HAT:=Lib.hid hat;have HNK:=Lib.hid (And.intro hn hl);clear h1 h2 h3 h4 h5 h6 h7 hQ hat hin hn hl ha;go_enter Tryd.func43,Tryd.ntmps43;go_wp2;go_quiet (fail)
 rename_i hK
 refine hK _ _ ?_;clear hK;obtain⟨W,hW⟩:∃ W,W=((w.alloc (.cells #[.int .i64 (p1:Nat),.int .i64 p2,.int .i64 (p3:Nat),.int .i64 p4,.int .i64 p5,.int .i64 p6,.pointer p7] 89)).drewN nq):=⟨_,rfl⟩;have hb:Below w.heap.size w W:=by rw[hW];exact(z0b w _).trans ⟨rfl,rfl,rfl,Nat.le_refl _,fun _ _=>rfl⟩
 have hbx:W.heap[w.heap.size]?=some (.cells #[.int .i64 (p1:Nat),.int .i64 p2,.int .i64 (p3:Nat),.int .i64 p4,.int .i64 p5,.int .i64 p6,.pointer p7] 89):=by rw[hW];exact heap_alloc_new w _
 rw[←hW];have hold:∀ {b j:Nat} {v:Value},w.cell? ⟨b,j,none⟩=some v→W.cell? ⟨b,j,none⟩=some v:=fun {b j v} e=>(hb.cell (p:=⟨b,j,none⟩) (World.block_lt_of_cell? w _ e)).trans e
 have t0:=z0c hbx 0;have t1:=z0c hbx 1;have t2:=z0c hbx 2;have t3:=z0c hbx 3;have t4:=z0c hbx 4;have t5:=z0c hbx 5;have t6:=z0c hbx 6;simp at t0 t1 t2 t3 t4 t5 t6;have ft:=z0m hbx;have x11:=hold a11;have x10:=hold a10;have xc0:=hold c0;have xd0:=hold d0;have xb0:=hold b0;clear a11 a10 b0 c0 d0 c0' d0' lb;have HBW:=Lib.hid (And.intro hb hbx);clear hb hbx hW;go_wp2;obtain⟨V,hV⟩:∃ V,V=W.setCell ⟨w.heap.size,0,none⟩ (.int .i64 (par:Nat)):=⟨_,rfl⟩;have hb:Below w.heap.size w V:=by rw[hV];exact HBW.out.1.setCell (p:=⟨w.heap.size,0,none⟩) (Nat.le_refl _) _
 have hbx:V.heap[w.heap.size]?=some (.cells #[.int .i64 (par:Nat),.int .i64 p2,.int .i64 (p3:Nat),.int .i64 p4,.int .i64 p5,.int .i64 p6,.pointer p7] 89):=by rw[hV];exact heap_setCell_same W w.heap.size 0 _ 89 (.int .i64 (par:Nat)) HBW.out.2
 have hVW:∀ {b j:Nat} {v:Value},W.cell? ⟨b,j,none⟩=some v→b≠w.heap.size→V.cell? ⟨b,j,none⟩=some v:=fun {b j v} e hne=>by
  rw[hV,World.cell?_setCell_other _ _ _ _ (fun q=>by injection q with q1 q2;omega)];exact e
 rw[←hV];have lfb:c.fb<w.heap.size:=(Array.getElem?_eq_some_iff.mp hfi.box).1;have lal:a<w.heap.size:=by rw[HA.out];exact(h.kind (.inl rfl)).2.1
 have lpb:c.pb<w.heap.size:=by have:=hfi.parts.1.1;omega
 have v0:=hVW xc0 (by omega);have v1:=hVW xd0 (by omega);have vb0:=hVW xb0 (by omega);have s0:=z0c hbx 0;have s1:=z0c hbx 1;have s2:=z0c hbx 2;have s3:=z0c hbx 3;have s4:=z0c hbx 4;have s5:=z0c hbx 5;have s6:=z0c hbx 6;simp at s0 s1 s2 s3 s4 s5 s6;clear t0 t1 t2 t3 t4 t5 t6;have fs:=z0m hbx;clear xc0 xd0 xb0 x11 x10 hVW hold ft
 have HC:Hid (∀ k,Calls Tryd.prog 29 #[.pointer (some ⟨a,0,none⟩),.agg #[.int .i64 (par:Nat),.int .i64 p2,.int .i64 (p3:Nat),.int .i64 p4,.int .i64 p5,.int .i64 p6,.pointer p7]] (V.drewN k) (fun e w'=>e= .returned (.tuple #[])∧Hid (Q e w'))):=Lib.hid fun k=>(by
  have hb2:Below w.heap.size w (V.drewN k):=Below.drews hb k;have h1:=z01 (fb:=c.fb) ⟨⟨nd.par,t.x.done,t.x.place,t.x.mover,t.x.count⟩,t.tried,t.tl⟩ (HH.out.next hb2) (by have:=HNK.out.2;omega)
  have e:trkV ⟨⟨nd.par,t.x.done,t.x.place,t.x.mover,t.x.count⟩,t.tried,t.tl⟩= .agg #[.int .i64 (par:Nat),.int .i64 p2,.int .i64 (p3:Nat),.int .i64 p4,.int .i64 p5,.int .i64 p6,.pointer p7]:=by
   obtain⟨y1,y2,y3,y4,y5,y6,y7⟩:=H0.out;unfold trkV;rw[HPAR.out.1,y2,y3,y4,y5,y6,y7]
  rw[HA.out];rw[e] at h1;refine h1.mono fun e w' h=>⟨h.1,Lib.hid ?_⟩
  rw[HQ.out];exact z09 HH.out hb2 (by rw[HE.out]) (by rw[HE.out];exact h))
 clear hb hbx hV hfi h;go_quiet (fail);go_wp2_with (first | (go_at_call 29;((with_reducible refine(HC.out _).mono ?_));rintro _ w' ⟨rfl,hq⟩) | fail)
 go_end0
 exact hq.out
theorem x37 {c:Cx} {w:World} {o:WO} (t:Trk) (nd:Nd) (hfi:FinAt c w) (h:WaysAt c.fb w o) (hl:o.tr.length≤900000000000) (hn:c.T[t.x.part]?=some nd) (hp0:t.x.part≠0) (hx:nd.nx=0) {pd:Nd} (hpd:c.T[nd.par]?=some pd) (hk:pd.r.kind=5):
  Calls Tryd.prog 43 #[.pointer (some ⟨o.a,0,none⟩),trkV t] w (EntPost c o t (leaN c.T nd t.x) w):=by
 have HE:Hid (leaN c.T nd t.x=([⟨nd.par,t.x.done,t.x.place,t.x.mover,t.x.count⟩],.keep)):=Lib.hid (lea_x hx hpd (by omega));have hN:t.x.part<c.T.length:=(List.getElem?_eq_some_iff.mp hn).1;obtain⟨R,rc,K,kc,hat,hin⟩:=hfi.parts.2 _ _ hn;have a11:=hat.2.2.2.2.2.2.2.2.2.2.2.1;have a10:=hat.2.2.2.2.2.2.2.2.2.2.1;have c0:w.cell? ⟨o.a,0,none⟩=some (.pointer (some ⟨c.fb,0,none⟩)):=(z0c h.box 0).trans rfl;have d0:w.cell? ⟨c.fb,0,none⟩=some (.slice (some ⟨c.pb,0,none⟩) c.T.length c.pc):=(z0c hfi.box 0).trans rfl;have lb:∀ {b j:Nat} {v:Value},w.cell? ⟨b,j,none⟩=some v→∀ o',(w.alloc o').cell? ⟨b,j,none⟩=some v:=fun {b j v} e o'=>((z0b w o').cell (p:=⟨b,j,none⟩) (World.block_lt_of_cell? w _ e)).trans e
 obtain⟨p1,h1⟩:∃ x:Nat,x=t.x.part:=⟨_,rfl⟩;obtain⟨p2,h2⟩:∃ x:Int,x=(t.x.done:Nat):=⟨_,rfl⟩;obtain⟨p3,h3⟩:∃ x:Nat,x=t.x.place:=⟨_,rfl⟩;obtain⟨p4,h4⟩:∃ x:Int,x=t.x.mover:=⟨_,rfl⟩;obtain⟨p5,h5⟩:∃ x:Int,x=(t.x.count:Nat):=⟨_,rfl⟩;obtain⟨p6,h6⟩:∃ x:Int,x=(t.tried:Nat):=⟨_,rfl⟩;obtain⟨p7,h7⟩:∃ x,Value.pointer x=pv t.tl:=⟨_,rfl⟩;have H0:=Lib.hid (And.intro h1 (And.intro h2 (And.intro h3 (And.intro h4 (And.intro h5 (And.intro h6 h7))))));obtain⟨Q,hQ⟩:∃ Q,Q=EntPost c o t (leaN c.T nd t.x) w:=⟨_,rfl⟩;rw[←hQ];unfold trkV;rw[←h1,←h2,←h3,←h4,←h5,←h6,←h7];rw[←h1] at hN;obtain⟨N,hNN⟩:∃ N,N=c.T.length:=⟨_,rfl⟩;rw[←hNN] at d0 hN;obtain⟨a,ha⟩:∃ a,a=o.a:=⟨_,rfl⟩;rw[←ha] at c0 ⊢;have HA:=Lib.hid ha;have c0':=lb c0;have d0':=lb d0;have HQ:=Lib.hid hQ;have HFI:=Lib.hid hfi;have HH:=Lib.hid h;obtain⟨par,hpar⟩:∃ par,par=nd.par:=⟨_,rfl⟩;rw[hx] at a11;have hq0:parQ t.x.part nd=(par:Int):=by unfold parQ;rw[if_neg (by omega),hpar]
 rw[hq0] at a10;rw[←hpar] at hpd;have HPAR:=Lib.hid (And.intro hpar hpd);have hpN:par<c.T.length:=(List.getElem?_eq_some_iff.mp hpd).1;obtain⟨R2,rc2,K2,kc2,hat2,hin2⟩:=hfi.parts.2 _ _ hpd;have b0:=hat2.1;rw[hk] at b0;rw[←hNN] at hpN;clear hNN;clear hpar hpd hq0 hx hp0 hat2 hin2;rw[←h1] at a11 a10;have HAT:=Lib.hid hat;have HNK:=Lib.hid (And.intro hn hl);clear h1 h2 h3 h4 h5 h6 h7 hQ hat hin hn hl ha;go_enter Tryd.func43,Tryd.ntmps43;go_wp2;go_quiet (fail)
 rename_i hK
 refine hK _ _ ?_;clear hK;obtain⟨W,hW⟩:∃ W,W=((w.alloc (.cells #[.int .i64 (p1:Nat),.int .i64 p2,.int .i64 (p3:Nat),.int .i64 p4,.int .i64 p5,.int .i64 p6,.pointer p7] 89)).drewN nq):=⟨_,rfl⟩;have hb:Below w.heap.size w W:=by rw[hW];exact(z0b w _).trans ⟨rfl,rfl,rfl,Nat.le_refl _,fun _ _=>rfl⟩
 have hbx:W.heap[w.heap.size]?=some (.cells #[.int .i64 (p1:Nat),.int .i64 p2,.int .i64 (p3:Nat),.int .i64 p4,.int .i64 p5,.int .i64 p6,.pointer p7] 89):=by rw[hW];exact heap_alloc_new w _
 rw[←hW];have hold:∀ {b j:Nat} {v:Value},w.cell? ⟨b,j,none⟩=some v→W.cell? ⟨b,j,none⟩=some v:=fun {b j v} e=>(hb.cell (p:=⟨b,j,none⟩) (World.block_lt_of_cell? w _ e)).trans e
 have t0:=z0c hbx 0;have t1:=z0c hbx 1;have t2:=z0c hbx 2;have t3:=z0c hbx 3;have t4:=z0c hbx 4;have t5:=z0c hbx 5;have t6:=z0c hbx 6;simp at t0 t1 t2 t3 t4 t5 t6;have ft:=z0m hbx;have x11:=hold a11;have x10:=hold a10;have xc0:=hold c0;have xd0:=hold d0;have xb0:=hold b0;clear a11 a10 b0 c0 d0 c0' d0' lb;have HBW:=Lib.hid (And.intro hb hbx);clear hb hbx hW;go_wp2;obtain⟨V,hV⟩:∃ V,V=W.setCell ⟨w.heap.size,0,none⟩ (.int .i64 (par:Nat)):=⟨_,rfl⟩;have hb:Below w.heap.size w V:=by rw[hV];exact HBW.out.1.setCell (p:=⟨w.heap.size,0,none⟩) (Nat.le_refl _) _
 have hbx:V.heap[w.heap.size]?=some (.cells #[.int .i64 (par:Nat),.int .i64 p2,.int .i64 (p3:Nat),.int .i64 p4,.int .i64 p5,.int .i64 p6,.pointer p7] 89):=by rw[hV];exact heap_setCell_same W w.heap.size 0 _ 89 (.int .i64 (par:Nat)) HBW.out.2
 have hVW:∀ {b j:Nat} {v:Value},W.cell? ⟨b,j,none⟩=some v→b≠w.heap.size→V.cell? ⟨b,j,none⟩=some v:=fun {b j v} e hne=>by
  rw[hV,World.cell?_setCell_other _ _ _ _ (fun q=>by injection q with q1 q2;omega)];exact e
 rw[←hV];have lfb:c.fb<w.heap.size:=(Array.getElem?_eq_some_iff.mp hfi.box).1;have lal:a<w.heap.size:=by rw[HA.out];exact(h.kind (.inl rfl)).2.1
 have lpb:c.pb<w.heap.size:=by have:=hfi.parts.1.1;omega
 have v0:=hVW xc0 (by omega);have v1:=hVW xd0 (by omega);have vb0:=hVW xb0 (by omega);have s0:=z0c hbx 0;have s1:=z0c hbx 1;have s2:=z0c hbx 2;have s3:=z0c hbx 3;have s4:=z0c hbx 4;have s5:=z0c hbx 5;have s6:=z0c hbx 6;simp at s0 s1 s2 s3 s4 s5 s6;clear t0 t1 t2 t3 t4 t5 t6;have fs:=z0m hbx;clear xc0 xd0 xb0 x11 x10 hVW hold ft
 have HC:Hid (∀ k,Calls Tryd.prog 29 #[.pointer (some ⟨a,0,none⟩),.agg #[.int .i64 (par:Nat),.int .i64 p2,.int .i64 (p3:Nat),.int .i64 p4,.int .i64 p5,.int .i64 p6,.pointer p7]] (V.drewN k) (fun e w'=>e= .returned (.tuple #[])∧Hid (Q e w'))):=Lib.hid fun k=>(by
  have hb2:Below w.heap.size w (V.drewN k):=Below.drews hb k;have h1:=z01 (fb:=c.fb) ⟨⟨nd.par,t.x.done,t.x.place,t.x.mover,t.x.count⟩,t.tried,t.tl⟩ (HH.out.next hb2) (by have:=HNK.out.2;omega)
  have e:trkV ⟨⟨nd.par,t.x.done,t.x.place,t.x.mover,t.x.count⟩,t.tried,t.tl⟩= .agg #[.int .i64 (par:Nat),.int .i64 p2,.int .i64 (p3:Nat),.int .i64 p4,.int .i64 p5,.int .i64 p6,.pointer p7]:=by
   obtain⟨y1,y2,y3,y4,y5,y6,y7⟩:=H0.out;unfold trkV;rw[HPAR.out.1,y2,y3,y4,y5,y6,y7]
  rw[HA.out];rw[e] at h1;refine h1.mono fun e w' h=>⟨h.1,Lib.hid ?_⟩
  rw[HQ.out];exact z09 HH.out hb2 (by rw[HE.out]) (by rw[HE.out];exact h))
 clear hb hbx hV hfi h;go_quiet (fail);go_wp2_with (first | (go_at_call 29;((with_reducible refine(HC.out _).mono ?_));rintro _ w' ⟨rfl,hq⟩) | fail)
 go_end0
 exact hq.out
end
section
set_option linter.unusedSimpArgs false
set_option linter.unusedVariables false
abbrev ldTe:Op:= .load 56 (.tmp 51)
theorem x31 {c:Cx} {w:World} {o:WO} (t:Trk) (nd:Nd) (hfi:FinAt c w) (h:WaysAt c.fb w o) (hl:o.tr.length≤900000000000) (hn:c.T[t.x.part]?=some nd) (hp0:t.x.part≠0) (hx:nd.nx=0) {pd:Nd} (hpd:c.T[nd.par]?=some pd) (hk:pd.r.kind=7) (hnn:0≤pd.r.num∧pd.r.num<10):
  Calls Tryd.prog 43 #[.pointer (some ⟨o.a,0,none⟩),trkV t] w (EntPost c o t (leaN c.T nd t.x) w):=by
 have HE:Hid (leaN c.T nd t.x=([⟨nd.par,t.x.done,t.x.place,t.x.mover,t.x.count⟩],.fin pd.r.num)):=Lib.hid (lea_7 hx hpd hk);obtain⟨nn,hnn2⟩:∃ nn,nn=pd.r.num:=⟨_,rfl⟩;rw[←hnn2] at hnn HE;have hN:t.x.part<c.T.length:=(List.getElem?_eq_some_iff.mp hn).1;obtain⟨R,rc,K,kc,hat,hin⟩:=hfi.parts.2 _ _ hn;have a11:=hat.2.2.2.2.2.2.2.2.2.2.2.1;have a10:=hat.2.2.2.2.2.2.2.2.2.2.1;have c0:w.cell? ⟨o.a,0,none⟩=some (.pointer (some ⟨c.fb,0,none⟩)):=(z0c h.box 0).trans rfl;have d0:w.cell? ⟨c.fb,0,none⟩=some (.slice (some ⟨c.pb,0,none⟩) c.T.length c.pc):=(z0c hfi.box 0).trans rfl;have lb:∀ {b j:Nat} {v:Value},w.cell? ⟨b,j,none⟩=some v→∀ o',(w.alloc o').cell? ⟨b,j,none⟩=some v:=fun {b j v} e o'=>((z0b w o').cell (p:=⟨b,j,none⟩) (World.block_lt_of_cell? w _ e)).trans e
 obtain⟨p1,h1⟩:∃ x:Nat,x=t.x.part:=⟨_,rfl⟩;obtain⟨p2,h2⟩:∃ x:Int,x=(t.x.done:Nat):=⟨_,rfl⟩;obtain⟨p3,h3⟩:∃ x:Nat,x=t.x.place:=⟨_,rfl⟩;obtain⟨p4,h4⟩:∃ x:Int,x=t.x.mover:=⟨_,rfl⟩;obtain⟨p5,h5⟩:∃ x:Int,x=(t.x.count:Nat):=⟨_,rfl⟩;obtain⟨p6,h6⟩:∃ x:Int,x=(t.tried:Nat):=⟨_,rfl⟩;obtain⟨p7,h7⟩:∃ x,Value.pointer x=pv t.tl:=⟨_,rfl⟩;have H0:=Lib.hid (And.intro h1 (And.intro h2 (And.intro h3 (And.intro h4 (And.intro h5 (And.intro h6 h7))))));obtain⟨Q,hQ⟩:∃ Q,Q=EntPost c o t (leaN c.T nd t.x) w:=⟨_,rfl⟩;rw[←hQ];unfold trkV;rw[←h1,←h2,←h3,←h4,←h5,←h6,←h7];rw[←h1] at hN;obtain⟨N,hNN⟩:∃ N,N=c.T.length:=⟨_,rfl⟩;rw[←hNN] at d0 hN;obtain⟨a,ha⟩:∃ a,a=o.a:=⟨_,rfl⟩;rw[←ha] at c0 ⊢;have HA:=Lib.hid ha;have c0':=lb c0;have d0':=lb d0;have HQ:=Lib.hid hQ;have HFI:=Lib.hid hfi;have HH:=Lib.hid h;obtain⟨par,hpar⟩:∃ par,par=nd.par:=⟨_,rfl⟩;rw[hx] at a11;have hq0:parQ t.x.part nd=(par:Int):=by unfold parQ;rw[if_neg (by omega),hpar]
 rw[hq0] at a10;rw[←hpar] at hpd;have HPAR:=Lib.hid (And.intro hpar hpd);have hpN:par<c.T.length:=(List.getElem?_eq_some_iff.mp hpd).1;obtain⟨R2,rc2,K2,kc2,hat2,hin2⟩:=hfi.parts.2 _ _ hpd;have b0:=hat2.1;have b8:=hat2.2.2.2.2.2.2.2.2.1;rw[hk] at b0;rw[←hnn2] at b8;rw[←hNN] at hpN;clear hNN;clear hpar hpd hq0 hx hp0 hat2 hin2;rw[←h1] at a11 a10;have HAT:=Lib.hid hat;have HNK:=Lib.hid (And.intro hn hl);clear h1 h2 h3 h4 h5 h6 h7 hQ hat hin hn hl ha;go_enter Tryd.func43,Tryd.ntmps43;go_wp2;go_quiet (fail)
 rename_i hK
 refine hK _ _ ?_;clear hK;obtain⟨W,hW⟩:∃ W,W=((w.alloc (.cells #[.int .i64 (p1:Nat),.int .i64 p2,.int .i64 (p3:Nat),.int .i64 p4,.int .i64 p5,.int .i64 p6,.pointer p7] 89)).drewN nq):=⟨_,rfl⟩;have hb:Below w.heap.size w W:=by rw[hW];exact(z0b w _).trans ⟨rfl,rfl,rfl,Nat.le_refl _,fun _ _=>rfl⟩
 have hbx:W.heap[w.heap.size]?=some (.cells #[.int .i64 (p1:Nat),.int .i64 p2,.int .i64 (p3:Nat),.int .i64 p4,.int .i64 p5,.int .i64 p6,.pointer p7] 89):=by rw[hW];exact heap_alloc_new w _
 rw[←hW];have hold:∀ {b j:Nat} {v:Value},w.cell? ⟨b,j,none⟩=some v→W.cell? ⟨b,j,none⟩=some v:=fun {b j v} e=>(hb.cell (p:=⟨b,j,none⟩) (World.block_lt_of_cell? w _ e)).trans e
 have t0:=z0c hbx 0;have t1:=z0c hbx 1;have t2:=z0c hbx 2;have t3:=z0c hbx 3;have t4:=z0c hbx 4;have t5:=z0c hbx 5;have t6:=z0c hbx 6;simp at t0 t1 t2 t3 t4 t5 t6;have ft:=z0m hbx;have x11:=hold a11;have x10:=hold a10;have xc0:=hold c0;have xd0:=hold d0;have xb0:=hold b0;clear a11 a10 b0 c0 d0 c0' d0' lb;have HBW:=Lib.hid (And.intro hb hbx);clear hb hbx hW;go_wp2;obtain⟨V,hV⟩:∃ V,V=W.setCell ⟨w.heap.size,0,none⟩ (.int .i64 (par:Nat)):=⟨_,rfl⟩;have hb:Below w.heap.size w V:=by rw[hV];exact HBW.out.1.setCell (p:=⟨w.heap.size,0,none⟩) (Nat.le_refl _) _
 have hbx:V.heap[w.heap.size]?=some (.cells #[.int .i64 (par:Nat),.int .i64 p2,.int .i64 (p3:Nat),.int .i64 p4,.int .i64 p5,.int .i64 p6,.pointer p7] 89):=by rw[hV];exact heap_setCell_same W w.heap.size 0 _ 89 (.int .i64 (par:Nat)) HBW.out.2
 have hVW:∀ {b j:Nat} {v:Value},W.cell? ⟨b,j,none⟩=some v→b≠w.heap.size→V.cell? ⟨b,j,none⟩=some v:=fun {b j v} e hne=>by
  rw[hV,World.cell?_setCell_other _ _ _ _ (fun q=>by injection q with q1 q2;omega)];exact e
 rw[←hV];have lfb:c.fb<w.heap.size:=(Array.getElem?_eq_some_iff.mp hfi.box).1;have lal:a<w.heap.size:=by rw[HA.out];exact(h.kind (.inl rfl)).2.1
 have lpb:c.pb<w.heap.size:=by have:=hfi.parts.1.1;omega
 have v0:=hVW xc0 (by omega);have v1:=hVW xd0 (by omega);have vb0:=hVW xb0 (by omega);have xb8:=hold b8;have vb8:=hVW xb8 (by omega);clear xc0 xd0 xb0 xb8 x11 x10 hVW hold ft t0 t1 t2 t3 t4 t5 t6;have t0:=z0c hbx 0;have t1:=z0c hbx 1;have t2:=z0c hbx 2;have t3:=z0c hbx 3;have t4:=z0c hbx 4;have t5:=z0c hbx 5;have t6:=z0c hbx 6;simp at t0 t1 t2 t3 t4 t5 t6;have ft:=z0m hbx;clear hV;go_quiet (fail)
 rename_i hK
 refine hK _ _ ?_;clear hK;obtain⟨U,hU⟩:∃ U,U=V.drewN nq:=⟨_,rfl⟩;have hbU:Below w.heap.size w U:=by rw[hU];exact Below.drews hb nq
 have hbxU:U.heap[w.heap.size]?=some (.cells #[.int .i64 (par:Nat),.int .i64 p2,.int .i64 (p3:Nat),.int .i64 p4,.int .i64 p5,.int .i64 p6,.pointer p7] 89):=by rw[hU];exact hbx
 have ub8:U.cell? ⟨c.pb,par * 14+8,none⟩=some (.int .i64 nn):=by rw[hU];exact vb8
 have s0:=z0c hbxU 0;have s1:=z0c hbxU 1;have s2:=z0c hbxU 2;have s3:=z0c hbxU 3;have s4:=z0c hbxU 4;have s5:=z0c hbxU 5;have s6:=z0c hbxU 6;simp at s0 s1 s2 s3 s4 s5 s6;have u0:U.cell? ⟨c.pb,par * 14,none⟩=some (.int .i64 7):=by rw[hU];exact vb0
 rw[←hU];clear hU t0 t1 t2 t3 t4 t5 t6 ft v0 v1 vb0 vb8;have hsz:w.heap.size<U.heap.size:=(Array.getElem?_eq_some_iff.mp hbxU).1;have HS1:Hid ((U.drew).cell? ⟨c.pb,par * 14+8,none⟩=some (.int .i64 nn)∧(U.drew).cell? ⟨w.heap.size,2,none⟩=some (.int .i64 (p3:Nat))):=Lib.hid ⟨ub8,s2⟩
 have HSW:Hid (∀ w2:World,Below U.heap.size U w2→((w2).cell? ⟨c.pb,par * 14+8,none⟩=some (.int .i64 nn)∧(w2).cell? ⟨w.heap.size,2,none⟩=some (.int .i64 (p3:Nat)))∧w2.cell? ⟨w.heap.size,6,none⟩=some (.pointer p7)∧(∀ j,w2.frozen? ⟨w.heap.size,j,none⟩=false)∧∀ v,(w2.setCell ⟨w.heap.size,6,none⟩ v).cell? ⟨c.pb,par * 14+8,none⟩=some (.int .i64 nn)∧(w2.setCell ⟨w.heap.size,6,none⟩ v).cell? ⟨w.heap.size,2,none⟩=some (.int .i64 (p3:Nat))):=Lib.hid fun w2 h2=>by
  have k:∀ {b j:Nat} {v:Value},U.cell? ⟨b,j,none⟩=some v→w2.cell? ⟨b,j,none⟩=some v:=fun {b j v} e=>(h2.cell (p:=⟨b,j,none⟩) (World.block_lt_of_cell? U _ e)).trans e
  have o1:∀ (Z:World) (b j i:Nat) (v:Value),b≠w.heap.size∨j≠i→(Z.setCell ⟨w.heap.size,i,none⟩ v).cell? ⟨b,j,none⟩=Z.cell? ⟨b,j,none⟩:=fun Z b j i v hh=>World.cell?_setCell_other _ _ _ _ (fun e=>by injection e with e1 e2;omega)
  have hf2:=z0m ((h2.block w.heap.size hsz).trans hbxU);refine⟨⟨k ub8,k s2⟩,k s6,hf2,fun v=>⟨?_,?_⟩⟩
  ·rw[o1 _ _ _ _ _ (.inl (by omega))];exact k ub8
  ·rw[o1 _ _ _ _ _ (.inr (by omega))];exact k s2
 have HU4:Hid (∀ (w2:World) u,Below U.heap.size U w2→(w2.setCell ⟨w.heap.size,6,none⟩ (.pointer u)).heap[w.heap.size]?=some (.cells #[.int .i64 (par:Nat),.int .i64 p2,.int .i64 (p3:Nat),.int .i64 p4,.int .i64 p5,.int .i64 p6,.pointer u] 89)):=Lib.hid fun w2 u h2=>
  heap_setCell_same w2 w.heap.size 6 _ 89 (.pointer u) ((h2.block w.heap.size hsz).trans hbxU)
 have HBG:Hid (Calls Tryd.prog 62 #[.pointer p7,.int .i64 nn,.int .i64 (p3:Nat)] U.drew fun e w2=>∃ u,e= .returned (.pointer u)∧Hid (∃ p',.pointer u=pv p'∧Below U.heap.size U w2∧∀ l,TrailP w t.tl l→TrailP w2 p' (mark false nn p3 l))):=Lib.hid (by
  have h1:=y9u t.tl nn p3 hnn U.drew;rw[←H0.out.2.2.2.2.2.2] at h1;refine h1.mono fun e w2 ⟨p',g1,g2,g3⟩=>⟨_,g1,Lib.hid ⟨p',rfl,(Below.refl _ _).drew.trans g2,fun l hl=>g3 l ?_⟩⟩
  exact hl.keep (S:=fun _=>False) (.of_below hbU.drew) fun _ h=>h.elim)
 have HC:Hid (∀ (w2:World) u,Hid (∃ p',.pointer u=pv p'∧Below U.heap.size U w2∧∀ l,TrailP w t.tl l→TrailP w2 p' (mark false nn p3 l))→Calls Tryd.prog 29 #[.pointer (some ⟨a,0,none⟩),.agg #[.int .i64 (par:Nat),.int .i64 p2,.int .i64 (p3:Nat),.int .i64 p4,.int .i64 p5,.int .i64 p6,.pointer u]] (w2.setCell ⟨w.heap.size,6,none⟩ (.pointer u)) (fun e w'=>e= .returned (.tuple #[])∧Hid (Q e w'))):=Lib.hid fun w2 u hw2=>(by
  obtain⟨p',g1,g2,g3⟩:=hw2.out;have hb2:Below w.heap.size w (w2.setCell ⟨w.heap.size,6,none⟩ (.pointer u)):=(hbU.trans (g2.mono hbU.size)).setCell (p:=⟨w.heap.size,6,none⟩) (Nat.le_refl _) _;have h1:=z01 (fb:=c.fb) ⟨⟨nd.par,t.x.done,t.x.place,t.x.mover,t.x.count⟩,t.tried,p'⟩ (HH.out.next hb2) (by have:=HNK.out.2;omega)
  have e:trkV ⟨⟨nd.par,t.x.done,t.x.place,t.x.mover,t.x.count⟩,t.tried,p'⟩= .agg #[.int .i64 (par:Nat),.int .i64 p2,.int .i64 (p3:Nat),.int .i64 p4,.int .i64 p5,.int .i64 p6,.pointer u]:=by
   obtain⟨y1,y2,y3,y4,y5,y6,y7⟩:=H0.out;unfold trkV;rw[HPAR.out.1,g1,y2,y3,y4,y5,y6];try rfl
  rw[HA.out];rw[e] at h1;refine h1.mono fun e w' h=>⟨h.1,Lib.hid ?_⟩
  rw[HQ.out];obtain⟨v2,h2⟩:=h.2.out;have hm:=Mt.pre HH.out hb2 h2;refine⟨h.1,Lib.hid ⟨v2,p',by rw[HE.out];exact hm,fun l hl=>?_⟩⟩;rw[HE.out,←H0.out.2.2.1];have hT:=g3 l hl;have hfr:Frm (fun b=>b=w.heap.size) w2 (w2.setCell ⟨w.heap.size,6,none⟩ (.pointer u)):=Frm.set (S:=fun b=>b=w.heap.size) (b:=w.heap.size) rfl 6 w2 _
  have hno:NoMark (fun b=>b=w.heap.size) w2:=fun b hbq X hX=>by
   subst hbq;rw[(g2.block w.heap.size hsz).trans hbxU] at hX;simp at hX
  exact(hT.keep hfr hno).keep h2.fr ((HH.out.next hb2).noMark))
 clear hb hbx hbU hbxU hfi h hnn hnn2 b8;go_wp2;rw[show Op.load 56 (.tmp 51)=ldTe from rfl]
 go_region_held3 (fun w'=>w'.cell? ⟨c.pb,par * 14+8,none⟩=some (.int .i64 nn)∧w'.cell? ⟨w.heap.size,2,none⟩=some (.int .i64 (p3:Nat))) (first | exact HS1.out | exact hs2 | exact hs4.out) (first | (go_at_call 62;(with_reducible refine(HBG.out).mono ?_);rintro _ w2 ⟨u,rfl,HB2⟩;have HX2:=Lib.hid (HSW.out w2 (HB2.out.choose_spec.2.1));have HC2:=Lib.hid (HC.out w2 u HB2);have hs2:=HX2.out.1;have r6:=HX2.out.2.1;have rf:=HX2.out.2.2.1;have hs4:=Lib.hid (HX2.out.2.2.2 (.pointer u));have hu4:=HU4.out w2 u (HB2.out.choose_spec.2.1);have z0:=(z0c hu4 0).trans rfl;have z1:=(z0c hu4 1).trans rfl;have z2:=(z0c hu4 2).trans rfl;have z3:=(z0c hu4 3).trans rfl;have z4:=(z0c hu4 4).trans rfl;have z5:=(z0c hu4 5).trans rfl;have z6:=(z0c hu4 6).trans rfl;clear hu4) | fail)
 all_goals go_wp2_with (first | (go_at_call 29;((with_reducible refine(HC2.out).mono ?_));rintro _ w' ⟨rfl,hq⟩) | fail)
 all_goals go_end0
 all_goals exact hq.out
end
section
set_option linter.unusedSimpArgs false
set_option linter.unusedVariables false
theorem x1b {c:Cx} {w:World} {o:WO} (t:Trk) (nd:Nd) (hfi:FinAt c w) (h:WaysAt c.fb w o) (hl:o.tr.length≤900000000000) (hn:c.T[t.x.part]?=some nd) (hp0:t.x.part≠0) (hx:nd.nx=0) {pd:Nd} (hpd:c.T[nd.par]?=some pd) (hk:pd.r.kind=6) (hmv:t.x.mover=(nd.par:Int)):
  Calls Tryd.prog 43 #[.pointer (some ⟨o.a,0,none⟩),trkV t] w (EntPost c o t (leaN c.T nd t.x) w):=by
 have HE:Hid (leaN c.T nd t.x=([],.keep)):=Lib.hid (by rw[lea_6 hx hpd hk,if_pos hmv]);have hN:t.x.part<c.T.length:=(List.getElem?_eq_some_iff.mp hn).1;obtain⟨R,rc,K,kc,hat,hin⟩:=hfi.parts.2 _ _ hn;have a11:=hat.2.2.2.2.2.2.2.2.2.2.2.1;have a10:=hat.2.2.2.2.2.2.2.2.2.2.1;have c0:w.cell? ⟨o.a,0,none⟩=some (.pointer (some ⟨c.fb,0,none⟩)):=(z0c h.box 0).trans rfl;have d0:w.cell? ⟨c.fb,0,none⟩=some (.slice (some ⟨c.pb,0,none⟩) c.T.length c.pc):=(z0c hfi.box 0).trans rfl;have lb:∀ {b j:Nat} {v:Value},w.cell? ⟨b,j,none⟩=some v→∀ o',(w.alloc o').cell? ⟨b,j,none⟩=some v:=fun {b j v} e o'=>((z0b w o').cell (p:=⟨b,j,none⟩) (World.block_lt_of_cell? w _ e)).trans e
 obtain⟨p1,h1⟩:∃ x:Nat,x=t.x.part:=⟨_,rfl⟩;obtain⟨p2,h2⟩:∃ x:Int,x=(t.x.done:Nat):=⟨_,rfl⟩;obtain⟨p3,h3⟩:∃ x:Nat,x=t.x.place:=⟨_,rfl⟩;obtain⟨p4,h4⟩:∃ x:Int,x=t.x.mover:=⟨_,rfl⟩;obtain⟨p5,h5⟩:∃ x:Int,x=(t.x.count:Nat):=⟨_,rfl⟩;obtain⟨p6,h6⟩:∃ x:Int,x=(t.tried:Nat):=⟨_,rfl⟩;obtain⟨p7,h7⟩:∃ x,Value.pointer x=pv t.tl:=⟨_,rfl⟩;have H0:=Lib.hid (And.intro h1 (And.intro h2 (And.intro h3 (And.intro h4 (And.intro h5 (And.intro h6 h7))))));obtain⟨Q,hQ⟩:∃ Q,Q=EntPost c o t (leaN c.T nd t.x) w:=⟨_,rfl⟩;rw[←hQ];unfold trkV;rw[←h1,←h2,←h3,←h4,←h5,←h6,←h7];rw[←h1] at hN;obtain⟨N,hNN⟩:∃ N,N=c.T.length:=⟨_,rfl⟩;rw[←hNN] at d0 hN;obtain⟨a,ha⟩:∃ a,a=o.a:=⟨_,rfl⟩;rw[←ha] at c0 ⊢;have HA:=Lib.hid ha;have c0':=lb c0;have d0':=lb d0;have HQ:=Lib.hid hQ;have HFI:=Lib.hid hfi;have HH:=Lib.hid h;obtain⟨par,hpar⟩:∃ par,par=nd.par:=⟨_,rfl⟩;rw[hx] at a11;rw[←hpar] at hmv;have hq0:parQ t.x.part nd=(par:Int):=by unfold parQ;rw[if_neg (by omega),hpar]
 rw[hq0] at a10;rw[←hpar] at hpd;have HPAR:=Lib.hid (And.intro hpar hpd);have hpN:par<c.T.length:=(List.getElem?_eq_some_iff.mp hpd).1;obtain⟨R2,rc2,K2,kc2,hat2,hin2⟩:=hfi.parts.2 _ _ hpd;have b0:=hat2.1;rw[hk] at b0;rw[←hNN] at hpN;clear hNN;rw[←h4] at hmv;have hz1:(p4 != (par:Int))=false:=by simp;exact hmv
 have hz2:(p4==(par:Int))=true:=by simp;exact hmv
 clear hpar hpd hq0 hx hp0 hat2 hin2 hmv;rw[←h1] at a11 a10;have HAT:=Lib.hid hat;have HNK:=Lib.hid (And.intro hn hl);clear h1 h2 h3 h4 h5 h6 h7 hQ hat hin hn hl ha;go_enter Tryd.func43,Tryd.ntmps43;go_wp2;go_quiet (fail)
 rename_i hK
 refine hK _ _ ?_;clear hK;obtain⟨W,hW⟩:∃ W,W=((w.alloc (.cells #[.int .i64 (p1:Nat),.int .i64 p2,.int .i64 (p3:Nat),.int .i64 p4,.int .i64 p5,.int .i64 p6,.pointer p7] 89)).drewN nq):=⟨_,rfl⟩;have hb:Below w.heap.size w W:=by rw[hW];exact(z0b w _).trans ⟨rfl,rfl,rfl,Nat.le_refl _,fun _ _=>rfl⟩
 have hbx:W.heap[w.heap.size]?=some (.cells #[.int .i64 (p1:Nat),.int .i64 p2,.int .i64 (p3:Nat),.int .i64 p4,.int .i64 p5,.int .i64 p6,.pointer p7] 89):=by rw[hW];exact heap_alloc_new w _
 rw[←hW];have hold:∀ {b j:Nat} {v:Value},w.cell? ⟨b,j,none⟩=some v→W.cell? ⟨b,j,none⟩=some v:=fun {b j v} e=>(hb.cell (p:=⟨b,j,none⟩) (World.block_lt_of_cell? w _ e)).trans e
 have t0:=z0c hbx 0;have t1:=z0c hbx 1;have t2:=z0c hbx 2;have t3:=z0c hbx 3;have t4:=z0c hbx 4;have t5:=z0c hbx 5;have t6:=z0c hbx 6;simp at t0 t1 t2 t3 t4 t5 t6;have ft:=z0m hbx;have x11:=hold a11;have x10:=hold a10;have xc0:=hold c0;have xd0:=hold d0;have xb0:=hold b0;clear a11 a10 b0 c0 d0 c0' d0' lb;have HBW:=Lib.hid (And.intro hb hbx);clear hb hbx hW;go_wp2;obtain⟨V,hV⟩:∃ V,V=W.setCell ⟨w.heap.size,0,none⟩ (.int .i64 (par:Nat)):=⟨_,rfl⟩;have hb:Below w.heap.size w V:=by rw[hV];exact HBW.out.1.setCell (p:=⟨w.heap.size,0,none⟩) (Nat.le_refl _) _
 have hbx:V.heap[w.heap.size]?=some (.cells #[.int .i64 (par:Nat),.int .i64 p2,.int .i64 (p3:Nat),.int .i64 p4,.int .i64 p5,.int .i64 p6,.pointer p7] 89):=by rw[hV];exact heap_setCell_same W w.heap.size 0 _ 89 (.int .i64 (par:Nat)) HBW.out.2
 have hVW:∀ {b j:Nat} {v:Value},W.cell? ⟨b,j,none⟩=some v→b≠w.heap.size→V.cell? ⟨b,j,none⟩=some v:=fun {b j v} e hne=>by
  rw[hV,World.cell?_setCell_other _ _ _ _ (fun q=>by injection q with q1 q2;omega)];exact e
 rw[←hV];have lfb:c.fb<w.heap.size:=(Array.getElem?_eq_some_iff.mp hfi.box).1;have lal:a<w.heap.size:=by rw[HA.out];exact(h.kind (.inl rfl)).2.1
 have lpb:c.pb<w.heap.size:=by have:=hfi.parts.1.1;omega
 have v0:=hVW xc0 (by omega);have v1:=hVW xd0 (by omega);have vb0:=hVW xb0 (by omega);clear xc0 xd0 xb0 x11 x10 hVW hold ft t0 t1 t2 t3 t4 t5 t6;have t0:=z0c hbx 0;have t1:=z0c hbx 1;have t2:=z0c hbx 2;have t3:=z0c hbx 3;have t4:=z0c hbx 4;have t5:=z0c hbx 5;have t6:=z0c hbx 6;simp at t0 t1 t2 t3 t4 t5 t6;have ft:=z0m hbx;clear hV;go_quiet (fail)
 rename_i hK
 refine hK _ _ ?_;clear hK;obtain⟨U,hU⟩:∃ U,U=V.drewN nq:=⟨_,rfl⟩;have hbU:Below w.heap.size w U:=by rw[hU];exact Below.drews hb nq
 have hbxU:U.heap[w.heap.size]?=some (.cells #[.int .i64 (par:Nat),.int .i64 p2,.int .i64 (p3:Nat),.int .i64 p4,.int .i64 p5,.int .i64 p6,.pointer p7] 89):=by rw[hU];exact hbx
 have s0:=z0c hbxU 0;have s1:=z0c hbxU 1;have s2:=z0c hbxU 2;have s3:=z0c hbxU 3;have s4:=z0c hbxU 4;have s5:=z0c hbxU 5;have s6:=z0c hbxU 6;simp at s0 s1 s2 s3 s4 s5 s6;have u0:U.cell? ⟨c.pb,par * 14,none⟩=some (.int .i64 6):=by rw[hU];exact vb0
 rw[←hU];clear hU t0 t1 t2 t3 t4 t5 t6 ft v0 v1 vb0;have hsz:w.heap.size<U.heap.size:=(Array.getElem?_eq_some_iff.mp hbxU).1
 have HNO:Hid (Q (.returned (.tuple #[])) U):=Lib.hid (by
  rw[HQ.out];exact z4z HH.out hbU (by rw[HE.out]) (by rw[HE.out]))
 clear hb hbx hbU hbxU hfi h;go_wp2
 go_end0
 exact HNO.out
theorem x1g {c:Cx} {w:World} {o:WO} (t:Trk) (nd:Nd) (hfi:FinAt c w) (h:WaysAt c.fb w o) (hl:o.tr.length≤900000000000) (hn:c.T[t.x.part]?=some nd) (hp0:t.x.part≠0) (hx:nd.nx=0) {pd:Nd} (hpd:c.T[nd.par]?=some pd) (hk:pd.r.kind=6) (hmv:t.x.mover≠(nd.par:Int)) (hcn:t.x.count≤1000000) (hF:Fine pd.r) (hlen:pd.kids.length=pd.r.kids.length):
  Calls Tryd.prog 43 #[.pointer (some ⟨o.a,0,none⟩),trkV t] w (EntPost c o t (leaN c.T nd t.x) w):=by
 have HE:Hid (leaN c.T nd t.x=(repN pd ⟨nd.par,t.x.done,t.x.place,t.x.mover,t.x.count⟩ (oneM pd.r t.x.count),.keep)):=Lib.hid (by rw[lea_6 hx hpd hk,if_neg hmv]);have HK6:=Lib.hid (And.intro hk (And.intro hcn (And.intro hF hlen)));have hN:t.x.part<c.T.length:=(List.getElem?_eq_some_iff.mp hn).1;obtain⟨R,rc,K,kc,hat,hin⟩:=hfi.parts.2 _ _ hn;have a11:=hat.2.2.2.2.2.2.2.2.2.2.2.1;have a10:=hat.2.2.2.2.2.2.2.2.2.2.1;have c0:w.cell? ⟨o.a,0,none⟩=some (.pointer (some ⟨c.fb,0,none⟩)):=(z0c h.box 0).trans rfl;have d0:w.cell? ⟨c.fb,0,none⟩=some (.slice (some ⟨c.pb,0,none⟩) c.T.length c.pc):=(z0c hfi.box 0).trans rfl;have lb:∀ {b j:Nat} {v:Value},w.cell? ⟨b,j,none⟩=some v→∀ o',(w.alloc o').cell? ⟨b,j,none⟩=some v:=fun {b j v} e o'=>((z0b w o').cell (p:=⟨b,j,none⟩) (World.block_lt_of_cell? w _ e)).trans e
 obtain⟨p1,h1⟩:∃ x:Nat,x=t.x.part:=⟨_,rfl⟩;obtain⟨p2,h2⟩:∃ x:Int,x=(t.x.done:Nat):=⟨_,rfl⟩;obtain⟨p3,h3⟩:∃ x:Nat,x=t.x.place:=⟨_,rfl⟩;obtain⟨p4,h4⟩:∃ x:Int,x=t.x.mover:=⟨_,rfl⟩;obtain⟨p5,h5⟩:∃ x:Int,x=(t.x.count:Nat):=⟨_,rfl⟩;obtain⟨p6,h6⟩:∃ x:Int,x=(t.tried:Nat):=⟨_,rfl⟩;obtain⟨p7,h7⟩:∃ x,Value.pointer x=pv t.tl:=⟨_,rfl⟩;have H0:=Lib.hid (And.intro h1 (And.intro h2 (And.intro h3 (And.intro h4 (And.intro h5 (And.intro h6 h7))))));obtain⟨Q,hQ⟩:∃ Q,Q=EntPost c o t (leaN c.T nd t.x) w:=⟨_,rfl⟩;rw[←hQ];unfold trkV;rw[←h1,←h2,←h3,←h4,←h5,←h6,←h7];rw[←h1] at hN;obtain⟨N,hNN⟩:∃ N,N=c.T.length:=⟨_,rfl⟩;rw[←hNN] at d0 hN;obtain⟨a,ha⟩:∃ a,a=o.a:=⟨_,rfl⟩;rw[←ha] at c0 ⊢;have HA:=Lib.hid ha;have c0':=lb c0;have d0':=lb d0;have HQ:=Lib.hid hQ;have HFI:=Lib.hid hfi;have HH:=Lib.hid h;obtain⟨par,hpar⟩:∃ par,par=nd.par:=⟨_,rfl⟩;rw[hx] at a11;rw[←hpar] at hmv;have hq0:parQ t.x.part nd=(par:Int):=by unfold parQ;rw[if_neg (by omega),hpar]
 rw[hq0] at a10;rw[←hpar] at hpd;have HPAR:=Lib.hid (And.intro hpar hpd);have hpN:par<c.T.length:=(List.getElem?_eq_some_iff.mp hpd).1;obtain⟨R2,rc2,K2,kc2,hat2,hin2⟩:=hfi.parts.2 _ _ hpd;have b0:=hat2.1;rw[hk] at b0;rw[←hNN] at hpN;clear hNN;rw[←h4] at hmv;have hz1:(p4 != (par:Int))=true:=by simp;exact hmv
 have hz2:(p4==(par:Int))=false:=by simp;exact hmv
 clear hpar hpd hq0 hx hp0 hat2 hin2 hmv hcn hF hlen;rw[←h1] at a11 a10;have HAT:=Lib.hid hat;have HNK:=Lib.hid (And.intro hn hl);clear h1 h2 h3 h4 h5 h6 h7 hQ hat hin hn hl ha;go_enter Tryd.func43,Tryd.ntmps43;go_wp2;go_quiet (fail)
 rename_i hK
 refine hK _ _ ?_;clear hK;obtain⟨W,hW⟩:∃ W,W=((w.alloc (.cells #[.int .i64 (p1:Nat),.int .i64 p2,.int .i64 (p3:Nat),.int .i64 p4,.int .i64 p5,.int .i64 p6,.pointer p7] 89)).drewN nq):=⟨_,rfl⟩;have hb:Below w.heap.size w W:=by rw[hW];exact(z0b w _).trans ⟨rfl,rfl,rfl,Nat.le_refl _,fun _ _=>rfl⟩
 have hbx:W.heap[w.heap.size]?=some (.cells #[.int .i64 (p1:Nat),.int .i64 p2,.int .i64 (p3:Nat),.int .i64 p4,.int .i64 p5,.int .i64 p6,.pointer p7] 89):=by rw[hW];exact heap_alloc_new w _
 rw[←hW];have hold:∀ {b j:Nat} {v:Value},w.cell? ⟨b,j,none⟩=some v→W.cell? ⟨b,j,none⟩=some v:=fun {b j v} e=>(hb.cell (p:=⟨b,j,none⟩) (World.block_lt_of_cell? w _ e)).trans e
 have t0:=z0c hbx 0;have t1:=z0c hbx 1;have t2:=z0c hbx 2;have t3:=z0c hbx 3;have t4:=z0c hbx 4;have t5:=z0c hbx 5;have t6:=z0c hbx 6;simp at t0 t1 t2 t3 t4 t5 t6;have ft:=z0m hbx;have x11:=hold a11;have x10:=hold a10;have xc0:=hold c0;have xd0:=hold d0;have xb0:=hold b0;clear a11 a10 b0 c0 d0 c0' d0' lb;have HBW:=Lib.hid (And.intro hb hbx);clear hb hbx hW;go_wp2;obtain⟨V,hV⟩:∃ V,V=W.setCell ⟨w.heap.size,0,none⟩ (.int .i64 (par:Nat)):=⟨_,rfl⟩;have hb:Below w.heap.size w V:=by rw[hV];exact HBW.out.1.setCell (p:=⟨w.heap.size,0,none⟩) (Nat.le_refl _) _
 have hbx:V.heap[w.heap.size]?=some (.cells #[.int .i64 (par:Nat),.int .i64 p2,.int .i64 (p3:Nat),.int .i64 p4,.int .i64 p5,.int .i64 p6,.pointer p7] 89):=by rw[hV];exact heap_setCell_same W w.heap.size 0 _ 89 (.int .i64 (par:Nat)) HBW.out.2
 have hVW:∀ {b j:Nat} {v:Value},W.cell? ⟨b,j,none⟩=some v→b≠w.heap.size→V.cell? ⟨b,j,none⟩=some v:=fun {b j v} e hne=>by
  rw[hV,World.cell?_setCell_other _ _ _ _ (fun q=>by injection q with q1 q2;omega)];exact e
 rw[←hV];have lfb:c.fb<w.heap.size:=(Array.getElem?_eq_some_iff.mp hfi.box).1;have lal:a<w.heap.size:=by rw[HA.out];exact(h.kind (.inl rfl)).2.1
 have lpb:c.pb<w.heap.size:=by have:=hfi.parts.1.1;omega
 have v0:=hVW xc0 (by omega);have v1:=hVW xd0 (by omega);have vb0:=hVW xb0 (by omega);clear xc0 xd0 xb0 x11 x10 hVW hold ft t0 t1 t2 t3 t4 t5 t6;have t0:=z0c hbx 0;have t1:=z0c hbx 1;have t2:=z0c hbx 2;have t3:=z0c hbx 3;have t4:=z0c hbx 4;have t5:=z0c hbx 5;have t6:=z0c hbx 6;simp at t0 t1 t2 t3 t4 t5 t6;have ft:=z0m hbx;clear hV;go_quiet (fail)
 rename_i hK
 refine hK _ _ ?_;clear hK;obtain⟨U,hU⟩:∃ U,U=V.drewN nq:=⟨_,rfl⟩;have hbU:Below w.heap.size w U:=by rw[hU];exact Below.drews hb nq
 have hbxU:U.heap[w.heap.size]?=some (.cells #[.int .i64 (par:Nat),.int .i64 p2,.int .i64 (p3:Nat),.int .i64 p4,.int .i64 p5,.int .i64 p6,.pointer p7] 89):=by rw[hU];exact hbx
 have s0:=z0c hbxU 0;have s1:=z0c hbxU 1;have s2:=z0c hbxU 2;have s3:=z0c hbxU 3;have s4:=z0c hbxU 4;have s5:=z0c hbxU 5;have s6:=z0c hbxU 6;simp at s0 s1 s2 s3 s4 s5 s6;have u0:U.cell? ⟨c.pb,par * 14,none⟩=some (.int .i64 6):=by rw[hU];exact vb0
 rw[←hU];clear hU t0 t1 t2 t3 t4 t5 t6 ft v0 v1 vb0;have hsz:w.heap.size<U.heap.size:=(Array.getElem?_eq_some_iff.mp hbxU).1
 have HSB:Hid (∀ U':World,U'.heap[w.heap.size]?=some (.cells #[.int .i64 (par:Nat),.int .i64 p2,.int .i64 (p3:Nat),.int .i64 p4,.int .i64 p5,.int .i64 p6,.pointer p7] 89)→U'.cell? ⟨w.heap.size,0,none⟩=some (.int .i64 (par:Nat))∧U'.cell? ⟨w.heap.size,1,none⟩=some (.int .i64 p2)∧U'.cell? ⟨w.heap.size,2,none⟩=some (.int .i64 (p3:Nat))∧U'.cell? ⟨w.heap.size,3,none⟩=some (.int .i64 p4)∧U'.cell? ⟨w.heap.size,4,none⟩=some (.int .i64 p5)∧U'.cell? ⟨w.heap.size,5,none⟩=some (.int .i64 p6)∧U'.cell? ⟨w.heap.size,6,none⟩=some (.pointer p7)):=Lib.hid fun U' e2=>by
  have l:=z0c e2;exact⟨(l 0).trans rfl,(l 1).trans rfl,(l 2).trans rfl,(l 3).trans rfl,(l 4).trans rfl,(l 5).trans rfl,(l 6).trans rfl⟩
 have HS1:=Lib.hid (HSB.out U.drew hbxU);obtain⟨m,hm⟩:∃ m,m=oneM pd.r t.x.count:=⟨_,rfl⟩;have HM:=Lib.hid hm
 have HO:Hid (Calls Tryd.prog 60 #[.pointer (some ⟨c.pb,par * 14,none⟩),.int .i64 p5] U.drew fun e w2=>e= .returned (.int .i64 (m:Nat))∧Hid (Below U.heap.size U w2)):=Lib.hid (by
  obtain⟨R',rc',K',kc',hat',_⟩:=(HFI.out.next hbU.drew).parts.2 _ _ HPAR.out.2;have h1:=z4o hat' t.x.count HK6.out.2.1 HK6.out.2.2.1 HK6.out.1;rw[H0.out.2.2.2.2.1,hm];exact h1.mono fun e w2 ⟨g1,g2⟩=>⟨g1,Lib.hid ((Below.refl _ _).drew.trans g2)⟩)
 have HR:Hid (∀ w2,Hid (Below U.heap.size U w2)→Calls Tryd.prog 63 #[.pointer (some ⟨a,0,none⟩),.agg #[.int .i64 (par:Nat),.int .i64 p2,.int .i64 (p3:Nat),.int .i64 p4,.int .i64 p5,.int .i64 p6,.pointer p7],.int .i64 (m:Nat)] w2 fun e w'=>e= .returned (.tuple #[])∧Hid (Q e w'∧w'.heap[w.heap.size]?=some (.cells #[.int .i64 (par:Nat),.int .i64 p2,.int .i64 (p3:Nat),.int .i64 p4,.int .i64 p5,.int .i64 p6,.pointer p7] 89))):=Lib.hid fun w2 hw2=>(by
  have hb2:Below w.heap.size w w2:=hbU.trans (hw2.out.mono hbU.size);have h1:=z7n (c:=c) ⟨⟨nd.par,t.x.done,t.x.place,t.x.mover,t.x.count⟩,t.tried,t.tl⟩ m pd (HFI.out.next hb2) (HH.out.next hb2) HNK.out.2 (by rw[←HPAR.out.1];exact HPAR.out.2) HK6.out.2.2.1 HK6.out.1 HK6.out.2.2.2
  have e:trkV ⟨⟨nd.par,t.x.done,t.x.place,t.x.mover,t.x.count⟩,t.tried,t.tl⟩= .agg #[.int .i64 (par:Nat),.int .i64 p2,.int .i64 (p3:Nat),.int .i64 p4,.int .i64 p5,.int .i64 p6,.pointer p7]:=by
   obtain⟨y1,y2,y3,y4,y5,y6,y7⟩:=H0.out;unfold trkV;rw[HPAR.out.1,y2,y3,y4,y5,y6,y7]
  rw[HA.out];rw[e] at h1;refine h1.mono fun e w' h=>⟨h.1,Lib.hid ⟨?_,?_⟩⟩
  ·rw[HQ.out]
   exact z09 HH.out hb2 (by rw[HE.out]) (by rw[HE.out,←hm];exact h)
  ·obtain⟨v2,h2⟩:=h.2.out
   have hl2:w.heap.size<w2.heap.size:=Nat.lt_of_lt_of_le hsz hw2.out.size;rw[h2.fr.block _ hl2 fun hq=>by have:=(HH.out.kind hq).2.1;omega];exact(hw2.out.block _ hsz).trans hbxU)
 clear hm hb hbx hfi h;go_wp2
 go_region_held3 (fun w'=>w'.cell? ⟨w.heap.size,0,none⟩=some (.int .i64 (par:Nat))∧w'.cell? ⟨w.heap.size,1,none⟩=some (.int .i64 p2)∧w'.cell? ⟨w.heap.size,2,none⟩=some (.int .i64 (p3:Nat))∧w'.cell? ⟨w.heap.size,3,none⟩=some (.int .i64 p4)∧w'.cell? ⟨w.heap.size,4,none⟩=some (.int .i64 p5)∧w'.cell? ⟨w.heap.size,5,none⟩=some (.int .i64 p6)∧w'.cell? ⟨w.heap.size,6,none⟩=some (.pointer p7)) (first | exact HS1.out | exact hs2 | exact hs3) (first | (go_at_call 60;(with_reducible refine(HO.out).mono ?_);rintro _ w2 ⟨rfl,HB2⟩;have hs2:=HSB.out w2 ((HB2.out.block _ hsz).trans hbxU);have HR2:=Lib.hid (HR.out w2 HB2)) | (go_at_call 63;(with_reducible refine(HR2.out).mono ?_);rintro _ w3 ⟨rfl,HQ3⟩;have hs3:=HSB.out w3 HQ3.out.2) | fail)
 all_goals go_wp2
 all_goals go_end0
 all_goals exact HQ3.out.1
end
section
theorem y3f {T:List Nd} {s:Bs} {n0 p0:Nat} (hT:TabF T) {x:Spo} {l:Evs} (h:HoldS T s n0 p0 x l) (hp:x.part=n0) (hd:x.done=1):x.count=0:=by
 obtain⟨l0,⟨nd',e1,h⟩,hl⟩:=h
 obtain⟨i,lp,l1,h1,_,_⟩:∃ i lp l1,PreD T s n0 p0 x.part i x.count lp∧Der s nd'.r i x.place l1∧l0=l1++lp:=by
  rcases h with ⟨h,_⟩ | ⟨_,h⟩ | ⟨h,_⟩
  ·omega
  ·exact h
  ·omega
 rw[hp] at h1;generalize x.count=c at h1
 have up:∀ {p k:Nat} {ndp:Nd} {a b:Nat} {e:Evs},PreD T s n0 p0 p a b e→T[p]?=some ndp→ndp.kids[k]?=some n0→False:=fun {p k ndp a b e} q1 q2 q3=>by
  have:=z5o hT q1;obtain⟨_,_,_,_,_,h⟩:=hT.kid q2 q3;omega
 cases h1 with
 | root=>rfl
 | cat q1 q2 _ q3 _=>exact(up q1 q2 q3).elim
 | alt q1 q2 _ q3=>exact(up q1 q2 q3).elim
 | grp q1 q2 _ q3=>exact(up q1 q2 q3).elim
 | rep q1 q2 _ _ q3 _ _ _=>exact(up q1 q2 q3).elim
theorem TrkOk.bd {c:Cx} (hT:TabF c.T) {w:World} {part p0:Nat} {t:Trk} (h:TrkOk c w part p0 t):BdS c.T c.lim part t.x∧(t.x.part=part→t.x.done=1→t.x.count=0∧t.x.mover= -1):=by
 obtain⟨⟨l,_,hl⟩,hm,hp⟩:=h;obtain⟨a,b,d,e⟩:=x19 hT hl;exact⟨⟨a,b,d,hp,e,hm⟩,fun h1 h2=>⟨y3f hT hl h1 h2,x34 hm h1⟩⟩
theorem TrkOk.spo {c:Cx} (hT:TabF c.T) {w:World} {part p0:Nat} {t:Trk} (h:TrkOk c w part p0 t) (hN:c.T.length≤1000) (hl:c.lim≤60):SpoOk t.x:=by
 have hb:=(h.bd hT).1;have hm:=z50 hb;exact⟨by have:=hb.part;omega,by have:=hb.done;omega,by have:=hb.place;omega,by omega,by omega,by have:=hb.count;omega⟩
theorem z4g {c:Cx} {o o':WO} {pre ps:List Trk} {t:Trk} (hC:∀ y,o'.C y ↔ o.C y∨y=t.x) (hcb:∀ y,o.C y→BdS c.T c.lim o.part y) (hb:BdS c.T c.lim o.part t.x) (hn:¬ o.C t.x) (htr:o.tr=pre++[t]) (htr':o'.tr=pre++ps) (hps:(ps.map wt).sum≤138):meas c o'<meas c o:=by
 have h1:=y7v hcb hb hn;rw[←z6f hC] at h1;unfold meas;rw[htr,htr',List.map_append,List.map_append,List.sum_append,List.sum_append];have h2:1≤([t].map wt).sum:=by simp[wt];split <;> omega
 omega
theorem z6d {c:Cx} {o o':WO} {pre ps:List Trk} {t:Trk} (hC:∀ y,o'.C y ↔ o.C y∨y=t.x) (hn:o.C t.x) (htr:o.tr=pre++[t]) (htr':o'.tr=pre++ps) (hps:(ps.map wt).sum<wt t):meas c o'<meas c o:=by
 have e:leftS c.T.length c.lim o'.C=leftS c.T.length c.lim o.C:=z6f fun x=>by
  rw[hC];exact⟨fun h=>h.elim id fun h=>h ▸ hn,.inl⟩
 unfold meas;rw[e,htr,htr',List.map_append,List.map_append,List.sum_append,List.sum_append];simp;omega
theorem z65 (tl:Option Nat):∀ l:List Spo,((l.map (fresh tl)).map wt).sum=l.length
 | []=>rfl
 | y::l=>by
   rw[List.map_cons,List.map_cons,List.sum_cons,z65 tl l,List.length_cons];show 1+l.length=l.length+1;omega
theorem z7p {o:WO} {pre:List Trk} {tl:Option Nat} {l:List Spo} (htr:o.tr=pre++l.map (fresh tl)) {y:Spo} (hy:y∈l):Pend o y:=
 ⟨fresh tl y,by rw[htr,List.mem_append];exact .inr (List.mem_map.2 ⟨y,hy,rfl⟩),rfl,rfl⟩
theorem y55 (nd:Nd) (x:Spo) (n:Nat):(repN nd x n).length≤2:=by
 unfold repN;split <;> split <;> simp
structure Next (c:Cx) (w:World) (O:Tab) (o:WO) (p0:Nat) (o':WO) (w':World) (O':Tab) (ex:List Way1):Prop where
 inv:OInv c w' O' o' p0 ex
 less:meas c o'<meas c o
section
variable {c:Cx} {w w':World} {O O':Tab} {o o':WO} {p0:Nat} {pre ps:List Trk} {t:Trk}
theorem y8o (hT:TabF c.T) (h:OInv c w O o p0 []) (htr:o.tr=pre++[t]) (h0:t.tried=0) (hc:o.C t.x) (hat:WaysAt c.fb w' o') (hp:o'.part=o.part) (hC:∀ y,o'.C y ↔ o.C y∨y=t.x) (htr':o'.tr=pre) (hfd:o'.found=o.found) (hmp:o'.mp=o.mp) (htp:∀ p l,TrailP w p l→TrailP w' p l):
  Next c w O o p0 o' w' O []:=by
 have hk:=h.tk t (by rw[htr];simp);have htr2:o'.tr=pre++[]:=by rw[htr'];simp
 have hlt:meas c o'<meas c o:=z6d hC hc htr htr2 (by simp[wt,h0]);refine⟨h.step htr hat hp hC (hk.bd hT) htr2 hfd hmp htp (MonoT.refl O) (fun _ q=>by cases q) (fun _ q=>by cases q) (fun nd hn=>?_) (fun h1 h2=>?_) (fun _ q=>by cases q) (by simpa using h.nodup) (Nat.le_of_lt hlt),hlt⟩
 ·refine(h.spec _ nd hc hn).keep (fun y hy=>hy.of htr htr2 hC) (fun t' ht' e h1=>?_) hp
  rw[htr,List.mem_append,List.mem_singleton] at ht'
  rcases ht' with ht' | rfl
  ·rw[htr2,List.mem_append];exact .inl ht'
  ·omega
 ·exact h.fin _ hc h1 h2
theorem x04 (hT:TabF c.T) (h:OInv c w O o p0 []) (htr:o.tr=pre++[t]) (hnc:¬ o.C t.x) (hd:t.x.done=0) {nd:Nd} (hn:c.T[t.x.part]?=some nd) (hk5:nd.r.kind≠5) {tl:Option Nat} (hls:c.lim≤c.bs.length) (hat:WaysAt c.fb w' o') (hp:o'.part=o.part)
  (hC:∀ y,o'.C y ↔ o.C y∨y=t.x) (htr':o'.tr=pre++(entN c.bs c.lim nd t.x).1.map (fresh tl)) (hfd:o'.found=o.found) (hmp:o'.mp=o.mp) (htp:∀ p l,TrailP w p l→TrailP w' p l)
  (htl:∀ l,TrailP w t.tl l→TrailP w' tl ((entN c.bs c.lim nd t.x).2.put t.x.place l)):Next c w O o p0 o' w' O []:=by
 have hk:=h.tk t (by rw[htr];simp);obtain⟨hb,hbf⟩:=hk.bd hT
 have hlt:meas c o'<meas c o:=z4g hC (fun y hy=>(h.cb y hy).1) hb hnc htr htr' (by
  rw[z65]
  rcases(hT.fine hn).cases with ⟨q,_⟩ | ⟨q,_⟩ | ⟨q,_⟩ | ⟨q,_⟩ | ⟨q,_⟩ | ⟨q,_⟩ | ⟨q,_⟩ | ⟨q,_⟩
  ·rw[ent_x (.inl q)];dsimp only;split <;> simp
  ·rw[ent_1 q];dsimp only;split <;> simp
  ·rw[ent_x (.inr (.inl q))];dsimp only;split <;> simp
  ·rw[ent_x (.inr (.inr q))];dsimp only;split <;> simp
  ·rw[ent_4 q];simp
  ·exact absurd q hk5
  ·rw[ent_6 q];dsimp only;have:=y55 nd t.x 0;split <;> simp <;> omega
  ·rw[ent_7 q];simp)
 obtain⟨⟨l,hl1,hl2⟩,hm,hpl⟩:=hk;refine⟨h.step htr hat hp hC ⟨hb,hbf⟩ htr' hfd hmp htp (MonoT.refl O) (fun t' ht'=>?_) (fun t' ht' h1=>?_) (fun nd' hn'=>?_) (fun _ h2=>by omega) (fun _ q=>by cases q) (by simpa using h.nodup) (Nat.le_of_lt hlt),hlt⟩
 ·obtain⟨y,hy,rfl⟩:=List.mem_map.1 ht'
  have h1:=y2c (to:=c.lim) hT hl2 hn hd (by omega) y hy;obtain⟨g1,g2⟩:=x0f hT hn hb.ge hpl hm y hy;exact⟨⟨_,htl l hl1,h1⟩,g1,g2⟩
 ·obtain⟨y,hy,rfl⟩:=List.mem_map.1 ht'
  exact absurd h1 (by show ¬ 0<0;omega)
 ·rw[hn] at hn';injection hn' with hn';subst hn'
  exact⟨fun _ i y hy=> .inl (.inr (z7p htr' (List.mem_of_getElem? hy))),fun h1=>by omega,fun h2=>by omega⟩
theorem x1e (hT:TabF c.T) (h:OInv c w O o p0 []) (htr:o.tr=pre++[t]) (hnc:¬ o.C t.x) (hd:t.x.done=1) (hne:t.x.part≠o.part) {nd:Nd} (hn:c.T[t.x.part]?=some nd) {tl:Option Nat}
  (hpar:∃ pd,o.part≤nd.par∧c.T[nd.par]?=some pd) (hnx:nd.nx≠0→∃ xd,c.T[nd.nx]?=some xd∧xd.par=nd.par∧o.part<nd.nx) (hat:WaysAt c.fb w' o') (hp:o'.part=o.part)
  (hC:∀ y,o'.C y ↔ o.C y∨y=t.x) (htr':o'.tr=pre++(leaN c.T nd t.x).1.map (fresh tl)) (hfd:o'.found=o.found) (hmp:o'.mp=o.mp) (htp:∀ p l,TrailP w p l→TrailP w' p l)
  (htl:∀ l,TrailP w t.tl l→TrailP w' tl ((leaN c.T nd t.x).2.put t.x.place l)):Next c w O o p0 o' w' O []:=by
 have hk:=h.tk t (by rw[htr];simp);obtain⟨hb,hbf⟩:=hk.bd hT
 have hlt:meas c o'<meas c o:=z4g hC (fun y hy=>(h.cb y hy).1) hb hnc htr htr' (by
  rw[z65];unfold leaN
  split
  ·simp
  ·split
   ·simp
   ·rename_i pd _
    split
    ·simp
    ·split
     ·have:=y55 pd ⟨nd.par,t.x.done,t.x.place,t.x.mover,t.x.count⟩ (oneM pd.r t.x.count)
      dsimp only
      split <;> simp <;> omega
     ·simp)
 obtain⟨⟨l,hl1,hl2⟩,hm,hpl⟩:=hk;refine⟨h.step htr hat hp hC ⟨hb,hbf⟩ htr' hfd hmp htp (MonoT.refl O) (fun t' ht'=>?_) (fun t' ht' h1=>?_) (fun nd' hn'=>?_) (fun h1 _=>absurd h1 hne) (fun _ q=>by cases q) (by simpa using h.nodup) (Nat.le_of_lt hlt),hlt⟩
 ·obtain⟨y,hy,rfl⟩:=List.mem_map.1 ht'
  have h1:=y78 hT hl2 hn hd hne y hy;obtain⟨g1,g2⟩:=x4j hT hn hpar hnx hpl hm y hy;exact⟨⟨_,htl l hl1,h1⟩,g1,g2⟩
 ·obtain⟨y,hy,rfl⟩:=List.mem_map.1 ht'
  exact absurd h1 (by show ¬ 0<0;omega)
 ·rw[hn] at hn';injection hn' with hn';subst hn'
  exact⟨fun h0=>by omega,fun _ _ y hy=> .inr (z7p htr' hy),fun h2=>by omega⟩
theorem x05 (hT:TabF c.T) (h:OInv c w O o p0 []) (htr:o.tr=pre++[t]) (hnc:¬ o.C t.x) (hd:t.x.done=1) (hpt:t.x.part=o.part) (hat:WaysAt c.fb w' o') (hp:o'.part=o.part)
  (hC:∀ y,o'.C y ↔ o.C y∨y=t.x) (htr':o'.tr=pre) (hfd:o'.found=o.found) (hmp:o'.mp=o.mp) (htp:∀ p l,TrailP w p l→TrailP w' p l):Next c w O o p0 o' w' O [⟨t.x.place,t.tl⟩]:=by
 have hk:=h.tk t (by rw[htr];simp);obtain⟨hb,hbf⟩:=hk.bd hT;have htr2:o'.tr=pre++[]:=by rw[htr'];simp
 have hlt:meas c o'<meas c o:=z4g hC (fun y hy=>(h.cb y hy).1) hb hnc htr htr2 (by simp);obtain⟨⟨l,hl1,hl2⟩,hm,hpl⟩:=hk
 have hx:t.x=⟨o.part,1,t.x.place, -1,0⟩:=by
  obtain⟨q1,q2⟩:=hbf hpt hd;obtain⟨⟨x1,x2,x3,x4,x5⟩,tr,tl⟩:=t;simp only at hpt hd q1 q2 ⊢;subst hpt hd q1 q2
  rfl
 obtain⟨nd,hn⟩:=h.nd;obtain⟨e,he1,he2⟩:=y8e hT hl2 hn hd hpt;refine⟨h.step htr hat hp hC ⟨hb,hbf⟩ htr2 hfd hmp htp (MonoT.refl O) (fun _ q=>by cases q) (fun _ q=>by cases q) (fun nd' hn'=>⟨fun h0=>by omega,fun _ h1=>absurd hpt (by rw[hp] at h1;exact h1),fun h2=>by omega⟩) (fun _ _=>⟨⟨t.x.place,t.tl⟩,by simp,rfl⟩) (fun f hf=>?_) ?_ (Nat.le_of_lt hlt),hlt⟩
 ·rw[List.mem_singleton] at hf;subst hf
  exact⟨⟨hpl,l,e,nd,htp _ _ hl1,hn,he1,he2⟩,(hC _).2 (.inr hx.symm)⟩
 ·have hnd:=h.nodup
  rw[List.append_nil] at hnd;rw[List.map_append,List.nodup_append];refine⟨hnd,by simp,?_⟩;intro a ha b hb' e;simp only[List.map_cons,List.map_nil,List.mem_singleton] at hb';obtain⟨f,hf,rfl⟩:=List.mem_map.1 ha;have:=(h.fd f (by simpa using hf)).2;rw[e,hb',←hx] at this;exact hnc this
end
end
end Go.Proofs.YtejgbpbljdhndaaDoor
