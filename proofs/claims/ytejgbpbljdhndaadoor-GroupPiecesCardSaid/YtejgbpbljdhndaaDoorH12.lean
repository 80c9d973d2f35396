import Derived.Test.YtejgbpbljdhndaaDoorH9
namespace Go.Proofs.YtejgbpbljdhndaaDoor
open Go Go.RowKit
set_option maxRecDepth 100000
set_option maxHeartbeats 4000000
section
set_option linter.unusedSimpArgs false
set_option linter.unusedVariables false
theorem Below.drews {B:Nat} {w W:World} (h:Below B w W) (k:Nat):Below B w (W.drewN k):=h.trans ⟨rfl,rfl,rfl,Nat.le_refl _,fun _ _=>rfl⟩
theorem x3c {c:Cx} {w:World} {o:WO} (t:Trk) (nd:Nd) (hfi:FinAt c w) (h:WaysAt c.fb w o) (hl:o.tr.length≤900000000000) (hn:c.T[t.x.part]?=some nd) (hk:nd.r.kind=0):
  Calls Tryd.prog 41 #[.pointer (some ⟨o.a,0,none⟩),trkV t] w (EntPost c o t (entN c.s.data.toList c.lim nd t.x) w):=by
 have HE:Hid (entN c.s.data.toList c.lim nd t.x=([{ t.x with done:=1 }],.keep)):=Lib.hid (by rw[ent_x (.inl hk),if_neg (by omega)]);have hN:t.x.part<c.T.length:=(List.getElem?_eq_some_iff.mp hn).1;obtain⟨R,rc,K,kc,hat,hin⟩:=hfi.parts.2 _ _ hn;have a0:=hat.1;have c0:w.cell? ⟨o.a,0,none⟩=some (.pointer (some ⟨c.fb,0,none⟩)):=(z0c h.box 0).trans rfl;have d0:w.cell? ⟨c.fb,0,none⟩=some (.slice (some ⟨c.pb,0,none⟩) c.T.length c.pc):=(z0c hfi.box 0).trans rfl;have lb:∀ {b j:Nat} {v:Value},w.cell? ⟨b,j,none⟩=some v→∀ o',(w.alloc o').cell? ⟨b,j,none⟩=some v:=fun {b j v} e o'=>((z0b w o').cell (p:=⟨b,j,none⟩) (World.block_lt_of_cell? w _ e)).trans e
 obtain⟨p1,h1⟩:∃ x:Nat,x=t.x.part:=⟨_,rfl⟩;obtain⟨p2,h2⟩:∃ x:Int,x=(t.x.done:Nat):=⟨_,rfl⟩;obtain⟨p3,h3⟩:∃ x:Nat,x=t.x.place:=⟨_,rfl⟩;obtain⟨p4,h4⟩:∃ x:Int,x=t.x.mover:=⟨_,rfl⟩;obtain⟨p5,h5⟩:∃ x:Int,x=(t.x.count:Nat):=⟨_,rfl⟩;obtain⟨p6,h6⟩:∃ x:Int,x=(t.tried:Nat):=⟨_,rfl⟩;obtain⟨p7,h7⟩:∃ x,Value.pointer x=pv t.tl:=⟨_,rfl⟩;have H0:=Lib.hid (And.intro h1 (And.intro h2 (And.intro h3 (And.intro h4 (And.intro h5 (And.intro h6 h7))))));obtain⟨Q,hQ⟩:∃ Q,Q=EntPost c o t (entN c.s.data.toList c.lim nd t.x) w:=⟨_,rfl⟩;rw[←hQ];unfold trkV;rw[←h1,←h2,←h3,←h4,←h5,←h6,←h7];rw[←h1] at hN;obtain⟨N,hNN⟩:∃ N,N=c.T.length:=⟨_,rfl⟩;rw[←hNN] at d0 hN;clear hNN;obtain⟨a,ha⟩:∃ a,a=o.a:=⟨_,rfl⟩;rw[←ha] at c0 ⊢;have HA:=Lib.hid ha;have c0':=lb c0;have d0':=lb d0;have HQ:=Lib.hid hQ;have HFI:=Lib.hid hfi;have HH:=Lib.hid h;rw[←h1] at a0;rw[hk] at a0;have HAT:=Lib.hid hat;have HNK:=Lib.hid (And.intro hn hl);clear h1 h2 h3 h4 h5 h6 h7 hQ hat hin hn hl ha;go_enter Tryd.func41,Tryd.ntmps41;go_wp2;go_quiet (fail)
 rename_i hK
 refine hK _ _ ?_;clear hK;obtain⟨W,hW⟩:∃ W,W=((w.alloc (.cells #[.int .i64 (p1:Nat),.int .i64 p2,.int .i64 (p3:Nat),.int .i64 p4,.int .i64 p5,.int .i64 p6,.pointer p7] 89)).drewN nq):=⟨_,rfl⟩;have hb:Below w.heap.size w W:=by rw[hW];exact(z0b w _).trans ⟨rfl,rfl,rfl,Nat.le_refl _,fun _ _=>rfl⟩
 have hbx:W.heap[w.heap.size]?=some (.cells #[.int .i64 (p1:Nat),.int .i64 p2,.int .i64 (p3:Nat),.int .i64 p4,.int .i64 p5,.int .i64 p6,.pointer p7] 89):=by rw[hW];exact heap_alloc_new w _
 rw[←hW];have hold:∀ {b j:Nat} {v:Value},w.cell? ⟨b,j,none⟩=some v→W.cell? ⟨b,j,none⟩=some v:=fun {b j v} e=>(hb.cell (p:=⟨b,j,none⟩) (World.block_lt_of_cell? w _ e)).trans e
 have t0:=z0c hbx 0;have t1:=z0c hbx 1;have t2:=z0c hbx 2;have t3:=z0c hbx 3;have t4:=z0c hbx 4;have t5:=z0c hbx 5;have t6:=z0c hbx 6;simp at t0 t1 t2 t3 t4 t5 t6;have ft:=z0m hbx;have x0:=hold a0;have xc0:=hold c0;have xd0:=hold d0;clear a0 c0 d0 c0' d0' hold lb
 have HC:Hid (∀ k,Calls Tryd.prog 29 #[.pointer (some ⟨a,0,none⟩),.agg #[.int .i64 (p1:Nat),.int .i64 1,.int .i64 (p3:Nat),.int .i64 p4,.int .i64 p5,.int .i64 p6,.pointer p7]] ((W.drewN k).setCell ⟨w.heap.size,1,none⟩ (.int .i64 1)) (fun e w'=>e= .returned (.tuple #[])∧Hid (Q e w'))):=Lib.hid fun k=>(by
  have hb2:Below w.heap.size w ((W.drewN k).setCell ⟨w.heap.size,1,none⟩ (.int .i64 1)):=(Below.drews hb k).setCell (p:=⟨w.heap.size,1,none⟩) (Nat.le_refl _) _;have h1:=z01 (fb:=c.fb) ⟨{ t.x with done:=1 },t.tried,t.tl⟩ (HH.out.next hb2) (by have:=HNK.out.2;omega)
  have e:trkV ⟨{ t.x with done:=1 },t.tried,t.tl⟩= .agg #[.int .i64 (p1:Nat),.int .i64 1,.int .i64 (p3:Nat),.int .i64 p4,.int .i64 p5,.int .i64 p6,.pointer p7]:=by
   obtain⟨y1,y2,y3,y4,y5,y6,y7⟩:=H0.out;unfold trkV;rw[y1,y3,y4,y5,y6,y7];try rfl
  rw[HA.out];rw[e] at h1;refine h1.mono fun e w' h=>⟨h.1,Lib.hid ?_⟩
  rw[HQ.out];exact z09 HH.out hb2 (by rw[HE.out]) (by rw[HE.out];exact h))
 clear hb hbx hW;go_wp2;go_quiet (fail);go_wp2_with (first | (go_at_call 29;((with_reducible refine(HC.out _).mono ?_));rintro _ w' ⟨rfl,hq⟩) | fail)
 go_end0
 exact hq.out
theorem x0z {c:Cx} {w:World} {o:WO} (t:Trk) (nd:Nd) (hfi:FinAt c w) (h:WaysAt c.fb w o) (hl:o.tr.length≤900000000000) (hn:c.T[t.x.part]?=some nd) (hk:nd.r.kind=2) (hz:t.x.place=0):
  Calls Tryd.prog 41 #[.pointer (some ⟨o.a,0,none⟩),trkV t] w (EntPost c o t (entN c.s.data.toList c.lim nd t.x) w):=by
 have HE:Hid (entN c.s.data.toList c.lim nd t.x=([{ t.x with done:=1 }],.keep)):=Lib.hid (by rw[ent_x (.inr (.inl hk)),if_neg (by omega)]);have hN:t.x.part<c.T.length:=(List.getElem?_eq_some_iff.mp hn).1;obtain⟨R,rc,K,kc,hat,hin⟩:=hfi.parts.2 _ _ hn;have a0:=hat.1;have c0:w.cell? ⟨o.a,0,none⟩=some (.pointer (some ⟨c.fb,0,none⟩)):=(z0c h.box 0).trans rfl;have d0:w.cell? ⟨c.fb,0,none⟩=some (.slice (some ⟨c.pb,0,none⟩) c.T.length c.pc):=(z0c hfi.box 0).trans rfl;have lb:∀ {b j:Nat} {v:Value},w.cell? ⟨b,j,none⟩=some v→∀ o',(w.alloc o').cell? ⟨b,j,none⟩=some v:=fun {b j v} e o'=>((z0b w o').cell (p:=⟨b,j,none⟩) (World.block_lt_of_cell? w _ e)).trans e
 obtain⟨p1,h1⟩:∃ x:Nat,x=t.x.part:=⟨_,rfl⟩;obtain⟨p2,h2⟩:∃ x:Int,x=(t.x.done:Nat):=⟨_,rfl⟩;obtain⟨p3,h3⟩:∃ x:Nat,x=t.x.place:=⟨_,rfl⟩;obtain⟨p4,h4⟩:∃ x:Int,x=t.x.mover:=⟨_,rfl⟩;obtain⟨p5,h5⟩:∃ x:Int,x=(t.x.count:Nat):=⟨_,rfl⟩;obtain⟨p6,h6⟩:∃ x:Int,x=(t.tried:Nat):=⟨_,rfl⟩;obtain⟨p7,h7⟩:∃ x,Value.pointer x=pv t.tl:=⟨_,rfl⟩;have H0:=Lib.hid (And.intro h1 (And.intro h2 (And.intro h3 (And.intro h4 (And.intro h5 (And.intro h6 h7))))));obtain⟨Q,hQ⟩:∃ Q,Q=EntPost c o t (entN c.s.data.toList c.lim nd t.x) w:=⟨_,rfl⟩;rw[←hQ];unfold trkV;rw[←h1,←h2,←h3,←h4,←h5,←h6,←h7];rw[←h1] at hN;obtain⟨N,hNN⟩:∃ N,N=c.T.length:=⟨_,rfl⟩;rw[←hNN] at d0 hN;clear hNN;obtain⟨a,ha⟩:∃ a,a=o.a:=⟨_,rfl⟩;rw[←ha] at c0 ⊢;have HA:=Lib.hid ha;have c0':=lb c0;have d0':=lb d0;have HQ:=Lib.hid hQ;have HFI:=Lib.hid hfi;have HH:=Lib.hid h;rw[←h1] at a0;rw[hk] at a0;have hz4:decide ((0:Int)<(p3:Int))=false:=by simp;omega
 have hz5:decide (0<p3)=false:=by simp;omega
 clear hz;have HAT:=Lib.hid hat;have HNK:=Lib.hid (And.intro hn hl);clear h1 h2 h3 h4 h5 h6 h7 hQ hat hin hn hl ha;go_enter Tryd.func41,Tryd.ntmps41;go_wp2;go_quiet (fail)
 rename_i hK
 refine hK _ _ ?_;clear hK;obtain⟨W,hW⟩:∃ W,W=((w.alloc (.cells #[.int .i64 (p1:Nat),.int .i64 p2,.int .i64 (p3:Nat),.int .i64 p4,.int .i64 p5,.int .i64 p6,.pointer p7] 89)).drewN nq):=⟨_,rfl⟩;have hb:Below w.heap.size w W:=by rw[hW];exact(z0b w _).trans ⟨rfl,rfl,rfl,Nat.le_refl _,fun _ _=>rfl⟩
 have hbx:W.heap[w.heap.size]?=some (.cells #[.int .i64 (p1:Nat),.int .i64 p2,.int .i64 (p3:Nat),.int .i64 p4,.int .i64 p5,.int .i64 p6,.pointer p7] 89):=by rw[hW];exact heap_alloc_new w _
 rw[←hW];have hold:∀ {b j:Nat} {v:Value},w.cell? ⟨b,j,none⟩=some v→W.cell? ⟨b,j,none⟩=some v:=fun {b j v} e=>(hb.cell (p:=⟨b,j,none⟩) (World.block_lt_of_cell? w _ e)).trans e
 have t0:=z0c hbx 0;have t1:=z0c hbx 1;have t2:=z0c hbx 2;have t3:=z0c hbx 3;have t4:=z0c hbx 4;have t5:=z0c hbx 5;have t6:=z0c hbx 6;simp at t0 t1 t2 t3 t4 t5 t6;have ft:=z0m hbx;have x0:=hold a0;have xc0:=hold c0;have xd0:=hold d0;clear a0 c0 d0 c0' d0' hold lb
 have HC:Hid (∀ k,Calls Tryd.prog 29 #[.pointer (some ⟨a,0,none⟩),.agg #[.int .i64 (p1:Nat),.int .i64 1,.int .i64 (p3:Nat),.int .i64 p4,.int .i64 p5,.int .i64 p6,.pointer p7]] ((W.drewN k).setCell ⟨w.heap.size,1,none⟩ (.int .i64 1)) (fun e w'=>e= .returned (.tuple #[])∧Hid (Q e w'))):=Lib.hid fun k=>(by
  have hb2:Below w.heap.size w ((W.drewN k).setCell ⟨w.heap.size,1,none⟩ (.int .i64 1)):=(Below.drews hb k).setCell (p:=⟨w.heap.size,1,none⟩) (Nat.le_refl _) _;have h1:=z01 (fb:=c.fb) ⟨{ t.x with done:=1 },t.tried,t.tl⟩ (HH.out.next hb2) (by have:=HNK.out.2;omega)
  have e:trkV ⟨{ t.x with done:=1 },t.tried,t.tl⟩= .agg #[.int .i64 (p1:Nat),.int .i64 1,.int .i64 (p3:Nat),.int .i64 p4,.int .i64 p5,.int .i64 p6,.pointer p7]:=by
   obtain⟨y1,y2,y3,y4,y5,y6,y7⟩:=H0.out;unfold trkV;rw[y1,y3,y4,y5,y6,y7];try rfl
  rw[HA.out];rw[e] at h1;refine h1.mono fun e w' h=>⟨h.1,Lib.hid ?_⟩
  rw[HQ.out];exact z09 HH.out hb2 (by rw[HE.out]) (by rw[HE.out];exact h))
 clear hb hbx hW;go_wp2;go_quiet (fail);go_wp2_with (first | (go_at_call 29;((with_reducible refine(HC.out _).mono ?_));rintro _ w' ⟨rfl,hq⟩) | fail)
 go_end0
 exact hq.out
theorem x14 {c:Cx} {w:World} {o:WO} (t:Trk) (nd:Nd) (hfi:FinAt c w) (h:WaysAt c.fb w o) (hl:o.tr.length≤900000000000) (hn:c.T[t.x.part]?=some nd) (hk:nd.r.kind=2) (hz:0<t.x.place):
  Calls Tryd.prog 41 #[.pointer (some ⟨o.a,0,none⟩),trkV t] w (EntPost c o t (entN c.s.data.toList c.lim nd t.x) w):=by
 have HE:Hid (entN c.s.data.toList c.lim nd t.x=([],.keep)):=Lib.hid (by rw[ent_x (.inr (.inl hk)),if_pos (by omega)]);have hN:t.x.part<c.T.length:=(List.getElem?_eq_some_iff.mp hn).1;obtain⟨R,rc,K,kc,hat,hin⟩:=hfi.parts.2 _ _ hn;have a0:=hat.1;have c0:w.cell? ⟨o.a,0,none⟩=some (.pointer (some ⟨c.fb,0,none⟩)):=(z0c h.box 0).trans rfl;have d0:w.cell? ⟨c.fb,0,none⟩=some (.slice (some ⟨c.pb,0,none⟩) c.T.length c.pc):=(z0c hfi.box 0).trans rfl;have lb:∀ {b j:Nat} {v:Value},w.cell? ⟨b,j,none⟩=some v→∀ o',(w.alloc o').cell? ⟨b,j,none⟩=some v:=fun {b j v} e o'=>((z0b w o').cell (p:=⟨b,j,none⟩) (World.block_lt_of_cell? w _ e)).trans e
 obtain⟨p1,h1⟩:∃ x:Nat,x=t.x.part:=⟨_,rfl⟩;obtain⟨p2,h2⟩:∃ x:Int,x=(t.x.done:Nat):=⟨_,rfl⟩;obtain⟨p3,h3⟩:∃ x:Nat,x=t.x.place:=⟨_,rfl⟩;obtain⟨p4,h4⟩:∃ x:Int,x=t.x.mover:=⟨_,rfl⟩;obtain⟨p5,h5⟩:∃ x:Int,x=(t.x.count:Nat):=⟨_,rfl⟩;obtain⟨p6,h6⟩:∃ x:Int,x=(t.tried:Nat):=⟨_,rfl⟩;obtain⟨p7,h7⟩:∃ x,Value.pointer x=pv t.tl:=⟨_,rfl⟩;have H0:=Lib.hid (And.intro h1 (And.intro h2 (And.intro h3 (And.intro h4 (And.intro h5 (And.intro h6 h7))))));obtain⟨Q,hQ⟩:∃ Q,Q=EntPost c o t (entN c.s.data.toList c.lim nd t.x) w:=⟨_,rfl⟩;rw[←hQ];unfold trkV;rw[←h1,←h2,←h3,←h4,←h5,←h6,←h7];rw[←h1] at hN;obtain⟨N,hNN⟩:∃ N,N=c.T.length:=⟨_,rfl⟩;rw[←hNN] at d0 hN;clear hNN;obtain⟨a,ha⟩:∃ a,a=o.a:=⟨_,rfl⟩;rw[←ha] at c0 ⊢;have HA:=Lib.hid ha;have c0':=lb c0;have d0':=lb d0;have HQ:=Lib.hid hQ;have HFI:=Lib.hid hfi;have HH:=Lib.hid h;rw[←h1] at a0;rw[hk] at a0;have hz4:decide ((0:Int)<(p3:Int))=true:=by simp;omega
 have hz5:decide (0<p3)=true:=by simp;omega
 clear hz;have HAT:=Lib.hid hat;have HNK:=Lib.hid (And.intro hn hl);clear h1 h2 h3 h4 h5 h6 h7 hQ hat hin hn hl ha;go_enter Tryd.func41,Tryd.ntmps41;go_wp2;go_quiet (fail)
 rename_i hK
 refine hK _ _ ?_;clear hK;obtain⟨W,hW⟩:∃ W,W=((w.alloc (.cells #[.int .i64 (p1:Nat),.int .i64 p2,.int .i64 (p3:Nat),.int .i64 p4,.int .i64 p5,.int .i64 p6,.pointer p7] 89)).drewN nq):=⟨_,rfl⟩;have hb:Below w.heap.size w W:=by rw[hW];exact(z0b w _).trans ⟨rfl,rfl,rfl,Nat.le_refl _,fun _ _=>rfl⟩
 have hbx:W.heap[w.heap.size]?=some (.cells #[.int .i64 (p1:Nat),.int .i64 p2,.int .i64 (p3:Nat),.int .i64 p4,.int .i64 p5,.int .i64 p6,.pointer p7] 89):=by rw[hW];exact heap_alloc_new w _
 rw[←hW];have hold:∀ {b j:Nat} {v:Value},w.cell? ⟨b,j,none⟩=some v→W.cell? ⟨b,j,none⟩=some v:=fun {b j v} e=>(hb.cell (p:=⟨b,j,none⟩) (World.block_lt_of_cell? w _ e)).trans e
 have t0:=z0c hbx 0;have t1:=z0c hbx 1;have t2:=z0c hbx 2;have t3:=z0c hbx 3;have t4:=z0c hbx 4;have t5:=z0c hbx 5;have t6:=z0c hbx 6;simp at t0 t1 t2 t3 t4 t5 t6;have ft:=z0m hbx;have x0:=hold a0;have xc0:=hold c0;have xd0:=hold d0;clear a0 c0 d0 c0' d0' hold lb
 have HNO:Hid (∀ k,Q (.returned (.tuple #[])) (W.drewN k)):=Lib.hid fun k=>by
  rw[HQ.out];exact z4z HH.out (Below.drews hb k) (by rw[HE.out]) (by rw[HE.out])
 clear hb hbx hW;go_wp2;go_quiet (fail);go_wp2
 go_end0
 exact HNO.out _
theorem x1a {c:Cx} {w:World} {o:WO} (t:Trk) (nd:Nd) (hfi:FinAt c w) (h:WaysAt c.fb w o) (hl:o.tr.length≤900000000000) (hn:c.T[t.x.part]?=some nd) (hk:nd.r.kind=3) (hz:c.s.size≤t.x.place):
  Calls Tryd.prog 41 #[.pointer (some ⟨o.a,0,none⟩),trkV t] w (EntPost c o t (entN c.s.data.toList c.lim nd t.x) w):=by
 have HE:Hid (entN c.s.data.toList c.lim nd t.x=([{ t.x with done:=1 }],.keep)):=Lib.hid (by rw[ent_x (.inr (.inr hk)),if_neg (by rw[z0o];omega)]);have tx0:w.cell? ⟨c.fb,1,none⟩=some (.string c.s):=(z0c hfi.box 1).trans rfl;have hN:t.x.part<c.T.length:=(List.getElem?_eq_some_iff.mp hn).1;obtain⟨R,rc,K,kc,hat,hin⟩:=hfi.parts.2 _ _ hn;have a0:=hat.1;have c0:w.cell? ⟨o.a,0,none⟩=some (.pointer (some ⟨c.fb,0,none⟩)):=(z0c h.box 0).trans rfl;have d0:w.cell? ⟨c.fb,0,none⟩=some (.slice (some ⟨c.pb,0,none⟩) c.T.length c.pc):=(z0c hfi.box 0).trans rfl;have lb:∀ {b j:Nat} {v:Value},w.cell? ⟨b,j,none⟩=some v→∀ o',(w.alloc o').cell? ⟨b,j,none⟩=some v:=fun {b j v} e o'=>((z0b w o').cell (p:=⟨b,j,none⟩) (World.block_lt_of_cell? w _ e)).trans e
 obtain⟨p1,h1⟩:∃ x:Nat,x=t.x.part:=⟨_,rfl⟩;obtain⟨p2,h2⟩:∃ x:Int,x=(t.x.done:Nat):=⟨_,rfl⟩;obtain⟨p3,h3⟩:∃ x:Nat,x=t.x.place:=⟨_,rfl⟩;obtain⟨p4,h4⟩:∃ x:Int,x=t.x.mover:=⟨_,rfl⟩;obtain⟨p5,h5⟩:∃ x:Int,x=(t.x.count:Nat):=⟨_,rfl⟩;obtain⟨p6,h6⟩:∃ x:Int,x=(t.tried:Nat):=⟨_,rfl⟩;obtain⟨p7,h7⟩:∃ x,Value.pointer x=pv t.tl:=⟨_,rfl⟩;have H0:=Lib.hid (And.intro h1 (And.intro h2 (And.intro h3 (And.intro h4 (And.intro h5 (And.intro h6 h7))))));obtain⟨Q,hQ⟩:∃ Q,Q=EntPost c o t (entN c.s.data.toList c.lim nd t.x) w:=⟨_,rfl⟩;rw[←hQ];unfold trkV;rw[←h1,←h2,←h3,←h4,←h5,←h6,←h7];rw[←h1] at hN;obtain⟨N,hNN⟩:∃ N,N=c.T.length:=⟨_,rfl⟩;rw[←hNN] at d0 hN;clear hNN;obtain⟨a,ha⟩:∃ a,a=o.a:=⟨_,rfl⟩;rw[←ha] at c0 ⊢;have HA:=Lib.hid ha;have c0':=lb c0;have d0':=lb d0;have HQ:=Lib.hid hQ;have HFI:=Lib.hid hfi;have HH:=Lib.hid h;rw[←h1] at a0;rw[hk] at a0;have hz4:decide ((p3:Int)<(c.s.size:Int))=false:=by simp;omega
 have hz5:decide (p3<c.s.size)=false:=by simp;omega
 clear hz;have HAT:=Lib.hid hat;have HNK:=Lib.hid (And.intro hn hl);clear h1 h2 h3 h4 h5 h6 h7 hQ hat hin hn hl ha;go_enter Tryd.func41,Tryd.ntmps41;go_wp2;go_quiet (fail)
 rename_i hK
 refine hK _ _ ?_;clear hK;obtain⟨W,hW⟩:∃ W,W=((w.alloc (.cells #[.int .i64 (p1:Nat),.int .i64 p2,.int .i64 (p3:Nat),.int .i64 p4,.int .i64 p5,.int .i64 p6,.pointer p7] 89)).drewN nq):=⟨_,rfl⟩;have hb:Below w.heap.size w W:=by rw[hW];exact(z0b w _).trans ⟨rfl,rfl,rfl,Nat.le_refl _,fun _ _=>rfl⟩
 have hbx:W.heap[w.heap.size]?=some (.cells #[.int .i64 (p1:Nat),.int .i64 p2,.int .i64 (p3:Nat),.int .i64 p4,.int .i64 p5,.int .i64 p6,.pointer p7] 89):=by rw[hW];exact heap_alloc_new w _
 rw[←hW];have hold:∀ {b j:Nat} {v:Value},w.cell? ⟨b,j,none⟩=some v→W.cell? ⟨b,j,none⟩=some v:=fun {b j v} e=>(hb.cell (p:=⟨b,j,none⟩) (World.block_lt_of_cell? w _ e)).trans e
 have t0:=z0c hbx 0;have t1:=z0c hbx 1;have t2:=z0c hbx 2;have t3:=z0c hbx 3;have t4:=z0c hbx 4;have t5:=z0c hbx 5;have t6:=z0c hbx 6;simp at t0 t1 t2 t3 t4 t5 t6;have ft:=z0m hbx;have x0:=hold a0;have xc0:=hold c0;have xd0:=hold d0;have xt0:=hold tx0;clear a0 c0 d0 c0' d0' hold lb tx0
 have HC:Hid (∀ k,Calls Tryd.prog 29 #[.pointer (some ⟨a,0,none⟩),.agg #[.int .i64 (p1:Nat),.int .i64 1,.int .i64 (p3:Nat),.int .i64 p4,.int .i64 p5,.int .i64 p6,.pointer p7]] ((W.drewN k).setCell ⟨w.heap.size,1,none⟩ (.int .i64 1)) (fun e w'=>e= .returned (.tuple #[])∧Hid (Q e w'))):=Lib.hid fun k=>(by
  have hb2:Below w.heap.size w ((W.drewN k).setCell ⟨w.heap.size,1,none⟩ (.int .i64 1)):=(Below.drews hb k).setCell (p:=⟨w.heap.size,1,none⟩) (Nat.le_refl _) _;have h1:=z01 (fb:=c.fb) ⟨{ t.x with done:=1 },t.tried,t.tl⟩ (HH.out.next hb2) (by have:=HNK.out.2;omega)
  have e:trkV ⟨{ t.x with done:=1 },t.tried,t.tl⟩= .agg #[.int .i64 (p1:Nat),.int .i64 1,.int .i64 (p3:Nat),.int .i64 p4,.int .i64 p5,.int .i64 p6,.pointer p7]:=by
   obtain⟨y1,y2,y3,y4,y5,y6,y7⟩:=H0.out;unfold trkV;rw[y1,y3,y4,y5,y6,y7];try rfl
  rw[HA.out];rw[e] at h1;refine h1.mono fun e w' h=>⟨h.1,Lib.hid ?_⟩
  rw[HQ.out];exact z09 HH.out hb2 (by rw[HE.out]) (by rw[HE.out];exact h))
 clear hb hbx hW;go_wp2;go_quiet (fail);go_wp2_with (first | (go_at_call 29;((with_reducible refine(HC.out _).mono ?_));rintro _ w' ⟨rfl,hq⟩) | fail)
 go_end0
 exact hq.out
theorem x2f {c:Cx} {w:World} {o:WO} (t:Trk) (nd:Nd) (hfi:FinAt c w) (h:WaysAt c.fb w o) (hl:o.tr.length≤900000000000) (hn:c.T[t.x.part]?=some nd) (hk:nd.r.kind=3) (hz:t.x.place<c.s.size):
  Calls Tryd.prog 41 #[.pointer (some ⟨o.a,0,none⟩),trkV t] w (EntPost c o t (entN c.s.data.toList c.lim nd t.x) w):=by
 have HE:Hid (entN c.s.data.toList c.lim nd t.x=([],.keep)):=Lib.hid (by rw[ent_x (.inr (.inr hk)),if_pos (by rw[z0o];omega)]);have tx0:w.cell? ⟨c.fb,1,none⟩=some (.string c.s):=(z0c hfi.box 1).trans rfl;have hN:t.x.part<c.T.length:=(List.getElem?_eq_some_iff.mp hn).1;obtain⟨R,rc,K,kc,hat,hin⟩:=hfi.parts.2 _ _ hn;have a0:=hat.1;have c0:w.cell? ⟨o.a,0,none⟩=some (.pointer (some ⟨c.fb,0,none⟩)):=(z0c h.box 0).trans rfl;have d0:w.cell? ⟨c.fb,0,none⟩=some (.slice (some ⟨c.pb,0,none⟩) c.T.length c.pc):=(z0c hfi.box 0).trans rfl;have lb:∀ {b j:Nat} {v:Value},w.cell? ⟨b,j,none⟩=some v→∀ o',(w.alloc o').cell? ⟨b,j,none⟩=some v:=fun {b j v} e o'=>((z0b w o').cell (p:=⟨b,j,none⟩) (World.block_lt_of_cell? w _ e)).trans e
 obtain⟨p1,h1⟩:∃ x:Nat,x=t.x.part:=⟨_,rfl⟩;obtain⟨p2,h2⟩:∃ x:Int,x=(t.x.done:Nat):=⟨_,rfl⟩;obtain⟨p3,h3⟩:∃ x:Nat,x=t.x.place:=⟨_,rfl⟩;obtain⟨p4,h4⟩:∃ x:Int,x=t.x.mover:=⟨_,rfl⟩;obtain⟨p5,h5⟩:∃ x:Int,x=(t.x.count:Nat):=⟨_,rfl⟩;obtain⟨p6,h6⟩:∃ x:Int,x=(t.tried:Nat):=⟨_,rfl⟩;obtain⟨p7,h7⟩:∃ x,Value.pointer x=pv t.tl:=⟨_,rfl⟩;have H0:=Lib.hid (And.intro h1 (And.intro h2 (And.intro h3 (And.intro h4 (And.intro h5 (And.intro h6 h7))))));obtain⟨Q,hQ⟩:∃ Q,Q=EntPost c o t (entN c.s.data.toList c.lim nd t.x) w:=⟨_,rfl⟩;rw[←hQ];unfold trkV;rw[←h1,←h2,←h3,←h4,←h5,←h6,←h7];rw[←h1] at hN;obtain⟨N,hNN⟩:∃ N,N=c.T.length:=⟨_,rfl⟩;rw[←hNN] at d0 hN;clear hNN;obtain⟨a,ha⟩:∃ a,a=o.a:=⟨_,rfl⟩;rw[←ha] at c0 ⊢;have HA:=Lib.hid ha;have c0':=lb c0;have d0':=lb d0;have HQ:=Lib.hid hQ;have HFI:=Lib.hid hfi;have HH:=Lib.hid h;rw[←h1] at a0;rw[hk] at a0;have hz4:decide ((p3:Int)<(c.s.size:Int))=true:=by simp;omega
 have hz5:decide (p3<c.s.size)=true:=by simp;omega
 clear hz;have HAT:=Lib.hid hat;have HNK:=Lib.hid (And.intro hn hl);clear h1 h2 h3 h4 h5 h6 h7 hQ hat hin hn hl ha;go_enter Tryd.func41,Tryd.ntmps41;go_wp2;go_quiet (fail)
 rename_i hK
 refine hK _ _ ?_;clear hK;obtain⟨W,hW⟩:∃ W,W=((w.alloc (.cells #[.int .i64 (p1:Nat),.int .i64 p2,.int .i64 (p3:Nat),.int .i64 p4,.int .i64 p5,.int .i64 p6,.pointer p7] 89)).drewN nq):=⟨_,rfl⟩;have hb:Below w.heap.size w W:=by rw[hW];exact(z0b w _).trans ⟨rfl,rfl,rfl,Nat.le_refl _,fun _ _=>rfl⟩
 have hbx:W.heap[w.heap.size]?=some (.cells #[.int .i64 (p1:Nat),.int .i64 p2,.int .i64 (p3:Nat),.int .i64 p4,.int .i64 p5,.int .i64 p6,.pointer p7] 89):=by rw[hW];exact heap_alloc_new w _
 rw[←hW];have hold:∀ {b j:Nat} {v:Value},w.cell? ⟨b,j,none⟩=some v→W.cell? ⟨b,j,none⟩=some v:=fun {b j v} e=>(hb.cell (p:=⟨b,j,none⟩) (World.block_lt_of_cell? w _ e)).trans e
 have t0:=z0c hbx 0;have t1:=z0c hbx 1;have t2:=z0c hbx 2;have t3:=z0c hbx 3;have t4:=z0c hbx 4;have t5:=z0c hbx 5;have t6:=z0c hbx 6;simp at t0 t1 t2 t3 t4 t5 t6;have ft:=z0m hbx;have x0:=hold a0;have xc0:=hold c0;have xd0:=hold d0;have xt0:=hold tx0;clear a0 c0 d0 c0' d0' hold lb tx0
 have HNO:Hid (∀ k,Q (.returned (.tuple #[])) (W.drewN k)):=Lib.hid fun k=>by
  rw[HQ.out];exact z4z HH.out (Below.drews hb k) (by rw[HE.out]) (by rw[HE.out])
 clear hb hbx hW;go_wp2;go_quiet (fail);go_wp2
 go_end0
 exact HNO.out _
end
section
set_option linter.unusedSimpArgs false
set_option linter.unusedVariables false
theorem x2i {c:Cx} {w:World} {o:WO} (t:Trk) (nd:Nd) (hfi:FinAt c w) (h:WaysAt c.fb w o) (hl:o.tr.length≤900000000000) (hn:c.T[t.x.part]?=some nd) (hk:nd.r.kind=1) (hz:c.lim≤t.x.place):
  Calls Tryd.prog 41 #[.pointer (some ⟨o.a,0,none⟩),trkV t] w (EntPost c o t (entN c.s.data.toList c.lim nd t.x) w):=by
 have HE:Hid (entN c.s.data.toList c.lim nd t.x=([],.keep)):=Lib.hid (by rw[ent_1 hk,if_neg (by omega)]);have tx0:w.cell? ⟨c.fb,1,none⟩=some (.string c.s):=(z0c hfi.box 1).trans rfl;have tl0:w.cell? ⟨c.fb,2,none⟩=some (.int .i64 (c.lim:Nat)):=(z0c hfi.box 2).trans rfl;have hN:t.x.part<c.T.length:=(List.getElem?_eq_some_iff.mp hn).1;obtain⟨R,rc,K,kc,hat,hin⟩:=hfi.parts.2 _ _ hn;have a0:=hat.1;have c0:w.cell? ⟨o.a,0,none⟩=some (.pointer (some ⟨c.fb,0,none⟩)):=(z0c h.box 0).trans rfl;have d0:w.cell? ⟨c.fb,0,none⟩=some (.slice (some ⟨c.pb,0,none⟩) c.T.length c.pc):=(z0c hfi.box 0).trans rfl;have lb:∀ {b j:Nat} {v:Value},w.cell? ⟨b,j,none⟩=some v→∀ o',(w.alloc o').cell? ⟨b,j,none⟩=some v:=fun {b j v} e o'=>((z0b w o').cell (p:=⟨b,j,none⟩) (World.block_lt_of_cell? w _ e)).trans e
 obtain⟨p1,h1⟩:∃ x:Nat,x=t.x.part:=⟨_,rfl⟩;obtain⟨p2,h2⟩:∃ x:Int,x=(t.x.done:Nat):=⟨_,rfl⟩;obtain⟨p3,h3⟩:∃ x:Nat,x=t.x.place:=⟨_,rfl⟩;obtain⟨p4,h4⟩:∃ x:Int,x=t.x.mover:=⟨_,rfl⟩;obtain⟨p5,h5⟩:∃ x:Int,x=(t.x.count:Nat):=⟨_,rfl⟩;obtain⟨p6,h6⟩:∃ x:Int,x=(t.tried:Nat):=⟨_,rfl⟩;obtain⟨p7,h7⟩:∃ x,Value.pointer x=pv t.tl:=⟨_,rfl⟩;have H0:=Lib.hid (And.intro h1 (And.intro h2 (And.intro h3 (And.intro h4 (And.intro h5 (And.intro h6 h7))))));obtain⟨Q,hQ⟩:∃ Q,Q=EntPost c o t (entN c.s.data.toList c.lim nd t.x) w:=⟨_,rfl⟩;rw[←hQ];unfold trkV;rw[←h1,←h2,←h3,←h4,←h5,←h6,←h7];rw[←h1] at hN;obtain⟨N,hNN⟩:∃ N,N=c.T.length:=⟨_,rfl⟩;rw[←hNN] at d0 hN;clear hNN;obtain⟨a,ha⟩:∃ a,a=o.a:=⟨_,rfl⟩;rw[←ha] at c0 ⊢;have HA:=Lib.hid ha;have c0':=lb c0;have d0':=lb d0;have HQ:=Lib.hid hQ;have HFI:=Lib.hid hfi;have HH:=Lib.hid h;rw[←h1] at a0;rw[hk] at a0;have hz4:decide ((c.lim:Int)≤(p3:Int))=true:=by simp;omega
 have hz5:decide (c.lim≤p3)=true:=by simp;omega
 clear hz;have HAT:=Lib.hid hat;have HNK:=Lib.hid (And.intro hn hl);clear h1 h2 h3 h4 h5 h6 h7 hQ hat hin hn hl ha;go_enter Tryd.func41,Tryd.ntmps41;go_wp2;go_quiet (fail)
 rename_i hK
 refine hK _ _ ?_;clear hK;obtain⟨W,hW⟩:∃ W,W=((w.alloc (.cells #[.int .i64 (p1:Nat),.int .i64 p2,.int .i64 (p3:Nat),.int .i64 p4,.int .i64 p5,.int .i64 p6,.pointer p7] 89)).drewN nq):=⟨_,rfl⟩;have hb:Below w.heap.size w W:=by rw[hW];exact(z0b w _).trans ⟨rfl,rfl,rfl,Nat.le_refl _,fun _ _=>rfl⟩
 have hbx:W.heap[w.heap.size]?=some (.cells #[.int .i64 (p1:Nat),.int .i64 p2,.int .i64 (p3:Nat),.int .i64 p4,.int .i64 p5,.int .i64 p6,.pointer p7] 89):=by rw[hW];exact heap_alloc_new w _
 rw[←hW];have hold:∀ {b j:Nat} {v:Value},w.cell? ⟨b,j,none⟩=some v→W.cell? ⟨b,j,none⟩=some v:=fun {b j v} e=>(hb.cell (p:=⟨b,j,none⟩) (World.block_lt_of_cell? w _ e)).trans e
 have t0:=z0c hbx 0;have t1:=z0c hbx 1;have t2:=z0c hbx 2;have t3:=z0c hbx 3;have t4:=z0c hbx 4;have t5:=z0c hbx 5;have t6:=z0c hbx 6;simp at t0 t1 t2 t3 t4 t5 t6;have ft:=z0m hbx;have x0:=hold a0;have xc0:=hold c0;have xd0:=hold d0;have xt0:=hold tx0;have xl0:=hold tl0;clear a0 c0 d0 c0' d0' hold lb tx0 tl0
 have HNO:Hid (∀ k,Q (.returned (.tuple #[])) (W.drewN k)):=Lib.hid fun k=>by
  rw[HQ.out];exact z4z HH.out (Below.drews hb k) (by rw[HE.out]) (by rw[HE.out])
 clear hb hbx hW;go_wp2;go_quiet (fail);go_wp2
 go_end0
 exact HNO.out _
theorem x2k {c:Cx} {w:World} {o:WO} (t:Trk) (nd:Nd) (hfi:FinAt c w) (h:WaysAt c.fb w o) (hl:o.tr.length≤900000000000) (hn:c.T[t.x.part]?=some nd) (hk:nd.r.kind=1) (hz:t.x.place<c.lim) (hls:c.lim≤c.s.size) (hsz:c.s.size≤1000000) (hh:hasQ c.s.data.toList nd.r t.x.place=false):
  Calls Tryd.prog 41 #[.pointer (some ⟨o.a,0,none⟩),trkV t] w (EntPost c o t (entN c.s.data.toList c.lim nd t.x) w):=by
 have HE:Hid (entN c.s.data.toList c.lim nd t.x=([],.keep)):=Lib.hid (by rw[ent_1 hk,if_neg (by rw[hh];simp)]);have tx0:w.cell? ⟨c.fb,1,none⟩=some (.string c.s):=(z0c hfi.box 1).trans rfl;have tl0:w.cell? ⟨c.fb,2,none⟩=some (.int .i64 (c.lim:Nat)):=(z0c hfi.box 2).trans rfl;have hN:t.x.part<c.T.length:=(List.getElem?_eq_some_iff.mp hn).1;obtain⟨R,rc,K,kc,hat,hin⟩:=hfi.parts.2 _ _ hn;have a0:=hat.1;have c0:w.cell? ⟨o.a,0,none⟩=some (.pointer (some ⟨c.fb,0,none⟩)):=(z0c h.box 0).trans rfl;have d0:w.cell? ⟨c.fb,0,none⟩=some (.slice (some ⟨c.pb,0,none⟩) c.T.length c.pc):=(z0c hfi.box 0).trans rfl;have lb:∀ {b j:Nat} {v:Value},w.cell? ⟨b,j,none⟩=some v→∀ o',(w.alloc o').cell? ⟨b,j,none⟩=some v:=fun {b j v} e o'=>((z0b w o').cell (p:=⟨b,j,none⟩) (World.block_lt_of_cell? w _ e)).trans e
 obtain⟨p1,h1⟩:∃ x:Nat,x=t.x.part:=⟨_,rfl⟩;obtain⟨p2,h2⟩:∃ x:Int,x=(t.x.done:Nat):=⟨_,rfl⟩;obtain⟨p3,h3⟩:∃ x:Nat,x=t.x.place:=⟨_,rfl⟩;obtain⟨p4,h4⟩:∃ x:Int,x=t.x.mover:=⟨_,rfl⟩;obtain⟨p5,h5⟩:∃ x:Int,x=(t.x.count:Nat):=⟨_,rfl⟩;obtain⟨p6,h6⟩:∃ x:Int,x=(t.tried:Nat):=⟨_,rfl⟩;obtain⟨p7,h7⟩:∃ x,Value.pointer x=pv t.tl:=⟨_,rfl⟩;have H0:=Lib.hid (And.intro h1 (And.intro h2 (And.intro h3 (And.intro h4 (And.intro h5 (And.intro h6 h7))))));obtain⟨Q,hQ⟩:∃ Q,Q=EntPost c o t (entN c.s.data.toList c.lim nd t.x) w:=⟨_,rfl⟩;rw[←hQ];unfold trkV;rw[←h1,←h2,←h3,←h4,←h5,←h6,←h7];rw[←h1] at hN;obtain⟨N,hNN⟩:∃ N,N=c.T.length:=⟨_,rfl⟩;rw[←hNN] at d0 hN;clear hNN;obtain⟨a,ha⟩:∃ a,a=o.a:=⟨_,rfl⟩;rw[←ha] at c0 ⊢;have HA:=Lib.hid ha;have c0':=lb c0;have d0':=lb d0;have HQ:=Lib.hid hQ;have HFI:=Lib.hid hfi;have HH:=Lib.hid h;rw[←h1] at a0;rw[hk] at a0;have hz4:decide ((c.lim:Int)≤(p3:Int))=false:=by simp;omega
 have hz5:decide (c.lim≤p3)=false:=by simp;omega
 have hps:p3<c.s.size:=by omega
 have HHQ:Hid (mem nd.r.set (c.s[p3]).toNat=false):=Lib.hid (by
  rw[←h3] at hh;unfold hasQ at hh;rw[z2g c.s p3 hps] at hh;exact hh)
 have hp9:p3≤1000000:=by omega
 clear hz hh hls hsz;have HAT:=Lib.hid hat;have HNK:=Lib.hid (And.intro hn hl);clear h1 h2 h3 h4 h5 h6 h7 hQ hat hin hn hl ha;go_enter Tryd.func41,Tryd.ntmps41;go_wp2;go_quiet (fail)
 rename_i hK
 refine hK _ _ ?_;clear hK;obtain⟨W,hW⟩:∃ W,W=((w.alloc (.cells #[.int .i64 (p1:Nat),.int .i64 p2,.int .i64 (p3:Nat),.int .i64 p4,.int .i64 p5,.int .i64 p6,.pointer p7] 89)).drewN nq):=⟨_,rfl⟩;have hb:Below w.heap.size w W:=by rw[hW];exact(z0b w _).trans ⟨rfl,rfl,rfl,Nat.le_refl _,fun _ _=>rfl⟩
 have hbx:W.heap[w.heap.size]?=some (.cells #[.int .i64 (p1:Nat),.int .i64 p2,.int .i64 (p3:Nat),.int .i64 p4,.int .i64 p5,.int .i64 p6,.pointer p7] 89):=by rw[hW];exact heap_alloc_new w _
 rw[←hW];have hold:∀ {b j:Nat} {v:Value},w.cell? ⟨b,j,none⟩=some v→W.cell? ⟨b,j,none⟩=some v:=fun {b j v} e=>(hb.cell (p:=⟨b,j,none⟩) (World.block_lt_of_cell? w _ e)).trans e
 have t0:=z0c hbx 0;have t1:=z0c hbx 1;have t2:=z0c hbx 2;have t3:=z0c hbx 3;have t4:=z0c hbx 4;have t5:=z0c hbx 5;have t6:=z0c hbx 6;simp at t0 t1 t2 t3 t4 t5 t6;have ft:=z0m hbx;have x0:=hold a0;have xc0:=hold c0;have xd0:=hold d0;have xt0:=hold tx0;have xl0:=hold tl0;clear a0 c0 d0 c0' d0' hold lb tx0 tl0
 have HC58:Hid (∀ k,Calls Tryd.prog 58 #[.pointer (some ⟨c.pb,p1 * 14,none⟩),.int .u8 (c.s[p3].toNat:Nat)] (W.drewN k) fun e w'=>e= .returned (.bool false)∧w'=W.drewN k):=Lib.hid fun k=>by
  have h14:=((HFI.out.next (Below.drews hb k)).parts.2 _ _ HNK.out.1);obtain⟨R',rc',K',kc',hat',_⟩:=h14;rw[←H0.out.1] at hat';refine(z6m hat' (c.s[p3]).toNat (by have:=(c.s[p3]).toNat_lt;omega)).mono fun e w' h=>⟨by rw[h.1,HHQ.out],h.2⟩
 have HNO:Hid (∀ k,Q (.returned (.tuple #[])) (W.drewN k)):=Lib.hid fun k=>by
  rw[HQ.out];exact z4z HH.out (Below.drews hb k) (by rw[HE.out]) (by rw[HE.out])
 clear hb hbx hW;go_wp2;go_quiet ((go_at_call 58;exact Calls.quiet_of_same (HC58.out _)));go_wp2
 go_end0
 exact HNO.out _
theorem x1h {c:Cx} {w:World} {o:WO} (t:Trk) (nd:Nd) (hfi:FinAt c w) (h:WaysAt c.fb w o) (hl:o.tr.length≤900000000000) (hn:c.T[t.x.part]?=some nd) (hk:nd.r.kind=1) (hz:t.x.place<c.lim) (hls:c.lim≤c.s.size) (hsz:c.s.size≤1000000) (hh:hasQ c.s.data.toList nd.r t.x.place=true):
  Calls Tryd.prog 41 #[.pointer (some ⟨o.a,0,none⟩),trkV t] w (EntPost c o t (entN c.s.data.toList c.lim nd t.x) w):=by
 have HE:Hid (entN c.s.data.toList c.lim nd t.x=([⟨t.x.part,1,t.x.place+1, -1,t.x.count⟩],.keep)):=Lib.hid (by rw[ent_1 hk,if_pos ⟨hz,hh⟩]);have tx0:w.cell? ⟨c.fb,1,none⟩=some (.string c.s):=(z0c hfi.box 1).trans rfl;have tl0:w.cell? ⟨c.fb,2,none⟩=some (.int .i64 (c.lim:Nat)):=(z0c hfi.box 2).trans rfl;have hN:t.x.part<c.T.length:=(List.getElem?_eq_some_iff.mp hn).1;obtain⟨R,rc,K,kc,hat,hin⟩:=hfi.parts.2 _ _ hn;have a0:=hat.1;have c0:w.cell? ⟨o.a,0,none⟩=some (.pointer (some ⟨c.fb,0,none⟩)):=(z0c h.box 0).trans rfl;have d0:w.cell? ⟨c.fb,0,none⟩=some (.slice (some ⟨c.pb,0,none⟩) c.T.length c.pc):=(z0c hfi.box 0).trans rfl;have lb:∀ {b j:Nat} {v:Value},w.cell? ⟨b,j,none⟩=some v→∀ o',(w.alloc o').cell? ⟨b,j,none⟩=some v:=fun {b j v} e o'=>((z0b w o').cell (p:=⟨b,j,none⟩) (World.block_lt_of_cell? w _ e)).trans e
 obtain⟨p1,h1⟩:∃ x:Nat,x=t.x.part:=⟨_,rfl⟩;obtain⟨p2,h2⟩:∃ x:Int,x=(t.x.done:Nat):=⟨_,rfl⟩;obtain⟨p3,h3⟩:∃ x:Nat,x=t.x.place:=⟨_,rfl⟩;obtain⟨p4,h4⟩:∃ x:Int,x=t.x.mover:=⟨_,rfl⟩;obtain⟨p5,h5⟩:∃ x:Int,x=(t.x.count:Nat):=⟨_,rfl⟩;obtain⟨p6,h6⟩:∃ x:Int,x=(t.tried:Nat):=⟨_,rfl⟩;obtain⟨p7,h7⟩:∃ x,Value.pointer x=pv t.tl:=⟨_,rfl⟩;have H0:=Lib.hid (And.intro h1 (And.intro h2 (And.intro h3 (And.intro h4 (And.intro h5 (And.intro h6 h7))))));obtain⟨Q,hQ⟩:∃ Q,Q=EntPost c o t (entN c.s.data.toList c.lim nd t.x) w:=⟨_,rfl⟩;rw[←hQ];unfold trkV;rw[←h1,←h2,←h3,←h4,←h5,←h6,←h7];rw[←h1] at hN;obtain⟨N,hNN⟩:∃ N,N=c.T.length:=⟨_,rfl⟩;rw[←hNN] at d0 hN;clear hNN;obtain⟨a,ha⟩:∃ a,a=o.a:=⟨_,rfl⟩;rw[←ha] at c0 ⊢;have HA:=Lib.hid ha;have c0':=lb c0;have d0':=lb d0;have HQ:=Lib.hid hQ;have HFI:=Lib.hid hfi;have HH:=Lib.hid h;rw[←h1] at a0;rw[hk] at a0;have hz4:decide ((c.lim:Int)≤(p3:Int))=false:=by simp;omega
 have hz5:decide (c.lim≤p3)=false:=by simp;omega
 have hps:p3<c.s.size:=by omega
 have HHQ:Hid (mem nd.r.set (c.s[p3]).toNat=true):=Lib.hid (by
  rw[←h3] at hh;unfold hasQ at hh;rw[z2g c.s p3 hps] at hh;exact hh)
 have hp9:p3≤1000000:=by omega
 clear hz hh hls hsz;have HAT:=Lib.hid hat;have HNK:=Lib.hid (And.intro hn hl);clear h1 h2 h3 h4 h5 h6 h7 hQ hat hin hn hl ha;go_enter Tryd.func41,Tryd.ntmps41;go_wp2;go_quiet (fail)
 rename_i hK
 refine hK _ _ ?_;clear hK;obtain⟨W,hW⟩:∃ W,W=((w.alloc (.cells #[.int .i64 (p1:Nat),.int .i64 p2,.int .i64 (p3:Nat),.int .i64 p4,.int .i64 p5,.int .i64 p6,.pointer p7] 89)).drewN nq):=⟨_,rfl⟩;have hb:Below w.heap.size w W:=by rw[hW];exact(z0b w _).trans ⟨rfl,rfl,rfl,Nat.le_refl _,fun _ _=>rfl⟩
 have hbx:W.heap[w.heap.size]?=some (.cells #[.int .i64 (p1:Nat),.int .i64 p2,.int .i64 (p3:Nat),.int .i64 p4,.int .i64 p5,.int .i64 p6,.pointer p7] 89):=by rw[hW];exact heap_alloc_new w _
 rw[←hW];have hold:∀ {b j:Nat} {v:Value},w.cell? ⟨b,j,none⟩=some v→W.cell? ⟨b,j,none⟩=some v:=fun {b j v} e=>(hb.cell (p:=⟨b,j,none⟩) (World.block_lt_of_cell? w _ e)).trans e
 have t0:=z0c hbx 0;have t1:=z0c hbx 1;have t2:=z0c hbx 2;have t3:=z0c hbx 3;have t4:=z0c hbx 4;have t5:=z0c hbx 5;have t6:=z0c hbx 6;simp at t0 t1 t2 t3 t4 t5 t6;have ft:=z0m hbx;have x0:=hold a0;have xc0:=hold c0;have xd0:=hold d0;have xt0:=hold tx0;have xl0:=hold tl0;clear a0 c0 d0 c0' d0' hold lb tx0 tl0
 have HC58:Hid (∀ k,Calls Tryd.prog 58 #[.pointer (some ⟨c.pb,p1 * 14,none⟩),.int .u8 (c.s[p3].toNat:Nat)] (W.drewN k) fun e w'=>e= .returned (.bool true)∧w'=W.drewN k):=Lib.hid fun k=>by
  have h14:=((HFI.out.next (Below.drews hb k)).parts.2 _ _ HNK.out.1);obtain⟨R',rc',K',kc',hat',_⟩:=h14;rw[←H0.out.1] at hat';refine(z6m hat' (c.s[p3]).toNat (by have:=(c.s[p3]).toNat_lt;omega)).mono fun e w' h=>⟨by rw[h.1,HHQ.out],h.2⟩
 have HC:Hid (∀ k,Calls Tryd.prog 29 #[.pointer (some ⟨a,0,none⟩),.agg #[.int .i64 (p1:Nat),.int .i64 1,.int .i64 ((p3:Int)+1),.int .i64 (-1),.int .i64 p5,.int .i64 p6,.pointer p7]] ((((W.drewN k).setCell ⟨w.heap.size,1,none⟩ (.int .i64 1)).setCell ⟨w.heap.size,2,none⟩ (.int .i64 ((p3:Int)+1))).setCell ⟨w.heap.size,3,none⟩ (.int .i64 (-1))) (fun e w'=>e= .returned (.tuple #[])∧Hid (Q e w'))):=Lib.hid fun k=>(by
  have hb2:Below w.heap.size w ((((W.drewN k).setCell ⟨w.heap.size,1,none⟩ (.int .i64 1)).setCell ⟨w.heap.size,2,none⟩ (.int .i64 ((p3:Int)+1))).setCell ⟨w.heap.size,3,none⟩ (.int .i64 (-1))):=(((Below.drews hb k).setCell (p:=⟨w.heap.size,1,none⟩) (Nat.le_refl _) _).setCell (p:=⟨w.heap.size,2,none⟩) (Nat.le_refl _) _).setCell (p:=⟨w.heap.size,3,none⟩) (Nat.le_refl _) _;have h1:=z01 (fb:=c.fb) ⟨⟨t.x.part,1,t.x.place+1, -1,t.x.count⟩,t.tried,t.tl⟩ (HH.out.next hb2) (by have:=HNK.out.2;omega)
  have e:trkV ⟨⟨t.x.part,1,t.x.place+1, -1,t.x.count⟩,t.tried,t.tl⟩= .agg #[.int .i64 (p1:Nat),.int .i64 1,.int .i64 ((p3:Int)+1),.int .i64 (-1),.int .i64 p5,.int .i64 p6,.pointer p7]:=by
   obtain⟨y1,y2,y3,y4,y5,y6,y7⟩:=H0.out;unfold trkV;rw[y1,y3,y5,y6,y7];try rfl
  rw[HA.out];rw[e] at h1;refine h1.mono fun e w' h=>⟨h.1,Lib.hid ?_⟩
  rw[HQ.out];exact z09 HH.out hb2 (by rw[HE.out]) (by rw[HE.out];exact h))
 clear hb hbx hW;go_wp2;go_quiet ((go_at_call 58;exact Calls.quiet_of_same (HC58.out _)));go_wp2_with (first | (go_at_call 29;((with_reducible refine(HC.out _).mono ?_));rintro _ w' ⟨rfl,hq⟩) | fail)
 go_end0
 exact hq.out
end
section
set_option linter.unusedSimpArgs false
set_option linter.unusedVariables false
abbrev ldTl:Op:= .load 56 (.tmp 75)
theorem x4f {c:Cx} {w:World} {o:WO} (t:Trk) (nd:Nd) (hfi:FinAt c w) (h:WaysAt c.fb w o) (hl:o.tr.length≤900000000000) (hn:c.T[t.x.part]?=some nd) (hk:nd.r.kind=7) {q:Nat} (hq:nd.kids[0]?=some q) (hkl:nd.kids.length≤1000000) (hnn:0≤nd.r.num∧nd.r.num<10):
  Calls Tryd.prog 41 #[.pointer (some ⟨o.a,0,none⟩),trkV t] w (EntPost c o t (entN c.s.data.toList c.lim nd t.x) w):=by
 obtain⟨R,rc,K,kc,hat,hin⟩:=hfi.parts.2 _ _ hn;obtain⟨g,rfl,hg1,hg2⟩:=hin _ _ hq;have a8:=hat.2.2.2.2.2.2.2.2.1;have a9:=hat.2.2.2.2.2.2.2.2.2.1;have hj:0<nd.kids.length:=(List.getElem?_eq_some_iff.mp hq).1;obtain⟨L,hL⟩:∃ L,L=nd.kids.length:=⟨_,rfl⟩;rw[←hL] at a9 hj hkl;clear hL;obtain⟨nn,hnn2⟩:∃ nn,nn=nd.r.num:=⟨_,rfl⟩;rw[←hnn2] at a8 hnn
 have HE:Hid (entN c.s.data.toList c.lim nd t.x=([atPart t.x q],.beg nn)):=Lib.hid (by
  rw[ent_7 hk,←hnn2]
  have:nd.kids.headD 0=q:=by
   cases hh:nd.kids with
   | nil=>rw[hh] at hq;simp at hq
   | cons z l=>rw[hh] at hq;simp at hq;subst hq;rfl
  rw[this];rfl)
 clear hnn2;have hN:t.x.part<c.T.length:=(List.getElem?_eq_some_iff.mp hn).1;have a0:=hat.1;have c0:w.cell? ⟨o.a,0,none⟩=some (.pointer (some ⟨c.fb,0,none⟩)):=(z0c h.box 0).trans rfl;have d0:w.cell? ⟨c.fb,0,none⟩=some (.slice (some ⟨c.pb,0,none⟩) c.T.length c.pc):=(z0c hfi.box 0).trans rfl;have lb:∀ {b j:Nat} {v:Value},w.cell? ⟨b,j,none⟩=some v→∀ o',(w.alloc o').cell? ⟨b,j,none⟩=some v:=fun {b j v} e o'=>((z0b w o').cell (p:=⟨b,j,none⟩) (World.block_lt_of_cell? w _ e)).trans e
 obtain⟨p1,h1⟩:∃ x:Nat,x=t.x.part:=⟨_,rfl⟩;obtain⟨p2,h2⟩:∃ x:Int,x=(t.x.done:Nat):=⟨_,rfl⟩;obtain⟨p3,h3⟩:∃ x:Nat,x=t.x.place:=⟨_,rfl⟩;obtain⟨p4,h4⟩:∃ x:Int,x=t.x.mover:=⟨_,rfl⟩;obtain⟨p5,h5⟩:∃ x:Int,x=(t.x.count:Nat):=⟨_,rfl⟩;obtain⟨p6,h6⟩:∃ x:Int,x=(t.tried:Nat):=⟨_,rfl⟩;obtain⟨p7,h7⟩:∃ x,Value.pointer x=pv t.tl:=⟨_,rfl⟩;have H0:=Lib.hid (And.intro h1 (And.intro h2 (And.intro h3 (And.intro h4 (And.intro h5 (And.intro h6 h7))))));obtain⟨Q,hQ⟩:∃ Q,Q=EntPost c o t (entN c.s.data.toList c.lim nd t.x) w:=⟨_,rfl⟩;rw[←hQ];unfold trkV;rw[←h1,←h2,←h3,←h4,←h5,←h6,←h7];rw[←h1] at hN;obtain⟨N,hNN⟩:∃ N,N=c.T.length:=⟨_,rfl⟩;rw[←hNN] at d0 hN;clear hNN;obtain⟨a,ha⟩:∃ a,a=o.a:=⟨_,rfl⟩;rw[←ha] at c0 ⊢;have HA:=Lib.hid ha;have c0':=lb c0;have d0':=lb d0;have HQ:=Lib.hid hQ;have HFI:=Lib.hid hfi;have HH:=Lib.hid h;rw[←h1] at a0 a8 a9;rw[hk] at a0;have HAT:=Lib.hid hat;have HNK:=Lib.hid (And.intro hn hl);clear h1 h2 h3 h4 h5 h6 h7 hQ hat hin hn hl ha hg1 hq hk;go_enter Tryd.func41,Tryd.ntmps41;go_wp2;go_quiet (fail)
 rename_i hK
 refine hK _ _ ?_;clear hK;obtain⟨W,hW⟩:∃ W,W=((w.alloc (.cells #[.int .i64 (p1:Nat),.int .i64 p2,.int .i64 (p3:Nat),.int .i64 p4,.int .i64 p5,.int .i64 p6,.pointer p7] 89)).drewN nq):=⟨_,rfl⟩;have hb:Below w.heap.size w W:=by rw[hW];exact(z0b w _).trans ⟨rfl,rfl,rfl,Nat.le_refl _,fun _ _=>rfl⟩
 have hbx:W.heap[w.heap.size]?=some (.cells #[.int .i64 (p1:Nat),.int .i64 p2,.int .i64 (p3:Nat),.int .i64 p4,.int .i64 p5,.int .i64 p6,.pointer p7] 89):=by rw[hW];exact heap_alloc_new w _
 rw[←hW];have hold:∀ {b j:Nat} {v:Value},w.cell? ⟨b,j,none⟩=some v→W.cell? ⟨b,j,none⟩=some v:=fun {b j v} e=>(hb.cell (p:=⟨b,j,none⟩) (World.block_lt_of_cell? w _ e)).trans e
 have t0:=z0c hbx 0;have t1:=z0c hbx 1;have t2:=z0c hbx 2;have t3:=z0c hbx 3;have t4:=z0c hbx 4;have t5:=z0c hbx 5;have t6:=z0c hbx 6;simp at t0 t1 t2 t3 t4 t5 t6;have ft:=z0m hbx;have x0:=hold a0;have xc0:=hold c0;have xd0:=hold d0;have x8:=hold a8;have x9:=hold a9;have xg:=hold hg2;have hlt8:=World.block_lt_of_cell? w _ a8;have hltg:=World.block_lt_of_cell? w _ hg2;dsimp only at hlt8 hltg;have hsz:w.heap.size<W.heap.size:=(Array.getElem?_eq_some_iff.mp hbx).1;have HS1:Hid ((W.drew).cell? ⟨c.pb,p1 * 14+8,none⟩=some (.int .i64 nn)∧(W.drew).cell? ⟨c.pb,p1 * 14+9,none⟩=some (.slice (some ⟨g,0,none⟩) L kc)∧(W.drew).cell? ⟨g,0,none⟩=some (.int .i64 (q:Nat))∧(W.drew).cell? ⟨w.heap.size,2,none⟩=some (.int .i64 (p3:Nat))):=Lib.hid ⟨x8,x9,xg,t2⟩
 have HSW:Hid (∀ w2:World,Below W.heap.size W w2→((w2).cell? ⟨c.pb,p1 * 14+8,none⟩=some (.int .i64 nn)∧(w2).cell? ⟨c.pb,p1 * 14+9,none⟩=some (.slice (some ⟨g,0,none⟩) L kc)∧(w2).cell? ⟨g,0,none⟩=some (.int .i64 (q:Nat))∧(w2).cell? ⟨w.heap.size,2,none⟩=some (.int .i64 (p3:Nat)))∧w2.cell? ⟨w.heap.size,0,none⟩=some (.int .i64 (p1:Nat))∧w2.cell? ⟨w.heap.size,6,none⟩=some (.pointer p7)∧(∀ j,w2.frozen? ⟨w.heap.size,j,none⟩=false)∧(∀ v,(w2.setCell ⟨w.heap.size,0,none⟩ v).cell? ⟨c.pb,p1 * 14+8,none⟩=some (.int .i64 nn)∧(w2.setCell ⟨w.heap.size,0,none⟩ v).cell? ⟨c.pb,p1 * 14+9,none⟩=some (.slice (some ⟨g,0,none⟩) L kc)∧(w2.setCell ⟨w.heap.size,0,none⟩ v).cell? ⟨g,0,none⟩=some (.int .i64 (q:Nat))∧(w2.setCell ⟨w.heap.size,0,none⟩ v).cell? ⟨w.heap.size,2,none⟩=some (.int .i64 (p3:Nat)))∧∀ v z,((w2.setCell ⟨w.heap.size,0,none⟩ v).setCell ⟨w.heap.size,6,none⟩ z).cell? ⟨c.pb,p1 * 14+8,none⟩=some (.int .i64 nn)∧((w2.setCell ⟨w.heap.size,0,none⟩ v).setCell ⟨w.heap.size,6,none⟩ z).cell? ⟨c.pb,p1 * 14+9,none⟩=some (.slice (some ⟨g,0,none⟩) L kc)∧((w2.setCell ⟨w.heap.size,0,none⟩ v).setCell ⟨w.heap.size,6,none⟩ z).cell? ⟨g,0,none⟩=some (.int .i64 (q:Nat))∧((w2.setCell ⟨w.heap.size,0,none⟩ v).setCell ⟨w.heap.size,6,none⟩ z).cell? ⟨w.heap.size,2,none⟩=some (.int .i64 (p3:Nat))):=Lib.hid fun w2 h2=>by
  have k:∀ {b j:Nat} {v:Value},W.cell? ⟨b,j,none⟩=some v→w2.cell? ⟨b,j,none⟩=some v:=fun {b j v} e=>(h2.cell (p:=⟨b,j,none⟩) (World.block_lt_of_cell? W _ e)).trans e
  have o1:∀ (U:World) (b j i:Nat) (v:Value),b≠w.heap.size∨j≠i→(U.setCell ⟨w.heap.size,i,none⟩ v).cell? ⟨b,j,none⟩=U.cell? ⟨b,j,none⟩:=fun U b j i v hh=>World.cell?_setCell_other _ _ _ _ (fun e=>by injection e with e1 e2;omega)
  have hf2:=z0m ((h2.block w.heap.size hsz).trans hbx);refine⟨⟨k x8,k x9,k xg,k t2⟩,k t0,k t6,hf2,fun v=>⟨?_,?_,?_,?_⟩,fun v z=>⟨?_,?_,?_,?_⟩⟩
  ·rw[o1 _ _ _ _ _ (.inl (by omega))];exact k x8
  ·rw[o1 _ _ _ _ _ (.inl (by omega))];exact k x9
  ·rw[o1 _ _ _ _ _ (.inl (by omega))];exact k xg
  ·rw[o1 _ _ _ _ _ (.inr (by omega))];exact k t2
  ·rw[o1 _ _ _ _ _ (.inl (by omega)),o1 _ _ _ _ _ (.inl (by omega))];exact k x8
  ·rw[o1 _ _ _ _ _ (.inl (by omega)),o1 _ _ _ _ _ (.inl (by omega))];exact k x9
  ·rw[o1 _ _ _ _ _ (.inl (by omega)),o1 _ _ _ _ _ (.inl (by omega))];exact k xg
  ·rw[o1 _ _ _ _ _ (.inr (by omega)),o1 _ _ _ _ _ (.inr (by omega))];exact k t2
 have HU4:Hid (∀ (w2:World) u,Below W.heap.size W w2→((w2.setCell ⟨w.heap.size,0,none⟩ (.int .i64 (q:Nat))).setCell ⟨w.heap.size,6,none⟩ (.pointer u)).heap[w.heap.size]?=some (.cells #[.int .i64 (q:Nat),.int .i64 p2,.int .i64 (p3:Nat),.int .i64 p4,.int .i64 p5,.int .i64 p6,.pointer u] 89)):=Lib.hid fun w2 u h2=>by
  have e1:=heap_setCell_same w2 w.heap.size 0 _ 89 (.int .i64 (q:Nat)) ((h2.block w.heap.size hsz).trans hbx);exact heap_setCell_same _ w.heap.size 6 _ 89 (.pointer u) e1
 have HBG:Hid (Calls Tryd.prog 56 #[.pointer p7,.int .i64 nn,.int .i64 (p3:Nat)] W.drew fun e w2=>∃ u,e= .returned (.pointer u)∧Hid (∃ p',.pointer u=pv p'∧Below W.heap.size W w2∧∀ l,TrailP w t.tl l→TrailP w2 p' (mark true nn p3 l))):=Lib.hid (by
  have h1:=y34 t.tl nn p3 hnn W.drew;rw[←H0.out.2.2.2.2.2.2] at h1;refine h1.mono fun e w2 ⟨p',g1,g2,g3⟩=>⟨_,g1,Lib.hid ⟨p',rfl,(Below.refl _ _).drew.trans g2,fun l hl=>g3 l ?_⟩⟩
  exact hl.keep (S:=fun _=>False) (.of_below hb.drew) fun _ h=>h.elim)
 have HC:Hid (∀ (w2:World) u,Hid (∃ p',.pointer u=pv p'∧Below W.heap.size W w2∧∀ l,TrailP w t.tl l→TrailP w2 p' (mark true nn p3 l))→Calls Tryd.prog 29 #[.pointer (some ⟨a,0,none⟩),.agg #[.int .i64 (q:Nat),.int .i64 p2,.int .i64 (p3:Nat),.int .i64 p4,.int .i64 p5,.int .i64 p6,.pointer u]] ((w2.setCell ⟨w.heap.size,0,none⟩ (.int .i64 (q:Nat))).setCell ⟨w.heap.size,6,none⟩ (.pointer u)) (fun e w'=>e= .returned (.tuple #[])∧Hid (Q e w'))):=Lib.hid fun w2 u hw2=>(by
  obtain⟨p',g1,g2,g3⟩:=hw2.out;have hb2:Below w.heap.size w ((w2.setCell ⟨w.heap.size,0,none⟩ (.int .i64 (q:Nat))).setCell ⟨w.heap.size,6,none⟩ (.pointer u)):=((hb.trans (g2.mono hb.size)).setCell (p:=⟨w.heap.size,0,none⟩) (Nat.le_refl _) _).setCell (p:=⟨w.heap.size,6,none⟩) (Nat.le_refl _) _;have h1:=z01 (fb:=c.fb) ⟨atPart t.x q,t.tried,p'⟩ (HH.out.next hb2) (by have:=HNK.out.2;omega)
  have e:trkV ⟨atPart t.x q,t.tried,p'⟩= .agg #[.int .i64 (q:Nat),.int .i64 p2,.int .i64 (p3:Nat),.int .i64 p4,.int .i64 p5,.int .i64 p6,.pointer u]:=by
   obtain⟨y1,y2,y3,y4,y5,y6,y7⟩:=H0.out;unfold trkV;rw[g1,atPart,y2,y3,y4,y5,y6];try rfl
  rw[HA.out];rw[e] at h1;refine h1.mono fun e w' h=>⟨h.1,Lib.hid ?_⟩
  rw[HQ.out];obtain⟨v2,h2⟩:=h.2.out;have hm:=Mt.pre HH.out hb2 h2;refine⟨h.1,Lib.hid ⟨v2,p',by rw[HE.out];exact hm,fun l hl=>?_⟩⟩;rw[HE.out,←H0.out.2.2.1];have hT:=g3 l hl;have hfr:Frm (fun b=>b=w.heap.size) w2 ((w2.setCell ⟨w.heap.size,0,none⟩ (.int .i64 (q:Nat))).setCell ⟨w.heap.size,6,none⟩ (.pointer u)):=(Frm.set (S:=fun b=>b=w.heap.size) (b:=w.heap.size) rfl 0 w2 _).trans (Frm.set (S:=fun b=>b=w.heap.size) (b:=w.heap.size) rfl 6 _ _) fun _ _ h=>h
  have hno:NoMark (fun b=>b=w.heap.size) w2:=fun b hbq X hX=>by
   subst hbq;rw[(g2.block w.heap.size hsz).trans hbx] at hX;simp at hX
  exact(hT.keep hfr hno).keep h2.fr ((HH.out.next hb2).noMark))
 clear a0 a8 a9 hg2 c0 d0 c0' d0' hold lb hb hbx hW hlt8 hltg x8 x9 xg;go_wp2;rw[show Op.load 56 (.tmp 75)=ldTl from rfl]
 go_region_held3 (fun w'=>w'.cell? ⟨c.pb,p1 * 14+8,none⟩=some (.int .i64 nn)∧w'.cell? ⟨c.pb,p1 * 14+9,none⟩=some (.slice (some ⟨g,0,none⟩) L kc)∧w'.cell? ⟨g,0,none⟩=some (.int .i64 (q:Nat))∧w'.cell? ⟨w.heap.size,2,none⟩=some (.int .i64 (p3:Nat))) (first | exact HS1.out | exact hs2 | exact hs3.out | exact hs4.out) (first | (go_at_call 56;(with_reducible refine(HBG.out).mono ?_);rintro _ w2 ⟨u,rfl,HB2⟩;have HX2:=Lib.hid (HSW.out w2 (HB2.out.choose_spec.2.1));have HC2:=Lib.hid (HC.out w2 u HB2);have hs2:=HX2.out.1;have r0:=HX2.out.2.1;have r6:=HX2.out.2.2.1;have rf:=HX2.out.2.2.2.1;have hs3:=Lib.hid (HX2.out.2.2.2.2.1 (.int .i64 (q:Nat)));have hs4:=Lib.hid (HX2.out.2.2.2.2.2 (.int .i64 (q:Nat)) (.pointer u));have hu4:=HU4.out w2 u (HB2.out.choose_spec.2.1);have u0:=(z0c hu4 0).trans rfl;have u1:=(z0c hu4 1).trans rfl;have u2:=(z0c hu4 2).trans rfl;have u3:=(z0c hu4 3).trans rfl;have u4:=(z0c hu4 4).trans rfl;have u5:=(z0c hu4 5).trans rfl;have u6:=(z0c hu4 6).trans rfl;clear hu4) | fail)
 all_goals go_wp2_with (first | (go_at_call 29;((with_reducible refine(HC2.out).mono ?_));rintro _ w' ⟨rfl,hq⟩) | fail)
 all_goals go_end0
 all_goals exact hq.out
end
end Go.Proofs.YtejgbpbljdhndaaDoor
