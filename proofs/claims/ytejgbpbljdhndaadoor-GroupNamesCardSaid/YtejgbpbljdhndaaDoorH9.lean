import Derived.BigQuiet
import Derived.Test.YtejgbpbljdhndaaDoorH32
import Derived.Deep.Cut
namespace Go.Proofs.YtejgbpbljdhndaaDoor
open Go Go.RowKit
set_option maxRecDepth 100000
set_option maxHeartbeats 4000000
section
open Go.ChangeMaps (setBlock heap_setBlock_same heap_setBlock_other)
set_option linter.unusedSimpArgs false
theorem x3p (w:World):(zeroValue 22).run Tryd.prog w= .ok (.int .u64 0) w:=by kernel_rfl
theorem orU (a b:Nat) (ha:a<18446744073709551616) (hb:b<18446744073709551616) {v:Nat} (h:v=a ||| b):bits .or .u64 (a:Int) (b:Int)=(v:Int):=by rw[h];exact bits_or_u64_nat a b ha hb
theorem y4u {a m:Nat} {w:World} {X:Array Value} {f:Value→Option Value} (P:Bool→World→Prop) (p1 p2 p4 p5 p6:Int) (i n:Nat) (p7:Option Addr) (hbox:w.heap[a]?=some (.cells X 86)) (h3:X[3]?=some (.map (some m))) (hi:i<64) (hn:n<18446744073709551616)
  (hf:MapIs 121 w m f) (hv:(f (.agg #[.int .i64 p1,.int .i64 p2,.int .i64 p4,.int .i64 p5,.int .i64 0])).getD (.int .u64 0)= .int .u64 (n:Nat))
  (hkey:∃ l,keyOf Tryd.prog 121 (.agg #[.int .i64 p1,.int .i64 p2,.int .i64 p4,.int .i64 p5,.int .i64 0])=some l)
  (HC:∀ (W W':World),Below w.heap.size w W→MapIs 121 W' m (updF f (.agg #[.int .i64 p1,.int .i64 p2,.int .i64 p4,.int .i64 p5,.int .i64 0]) (.int .u64 (n ||| 2 ^ i:Nat)))→W.grownBy W' (some m)→P (decide (n &&& 2 ^ i=0)) W'):
  Calls Tryd.prog 40 #[.pointer (some ⟨a,0,none⟩),.agg #[.int .i64 p1,.int .i64 p2,.int .i64 (i:Nat),.int .i64 p4,.int .i64 p5,.int .i64 p6,.pointer p7]] w fun e w'=>∃ b,e= .returned (.bool b)∧Hid (P b w'):=by
 have e1:(i:Int) / 64=0:=by omega
 have e2:(i:Int) % 64=(i:Int):=by omega
 obtain⟨kl,hkl⟩:=hkey;have c3:w.cell? ⟨a,3,none⟩=some (.map (some m)):=(z0c hbox 3).trans h3;have hal:a<w.heap.size:=(Array.getElem?_eq_some_iff.mp hbox).1;have hp:=z6a i hi;obtain⟨k,hk⟩:∃ k:Nat,k=2 ^ i:=⟨_,rfl⟩;have hk64:k<18446744073709551616:=by rw[hk];exact Nat.pow_lt_pow_right (by omega) hi
 rw[←hk] at hp HC;obtain⟨v,hv2⟩:∃ v,v=n ||| k:=⟨_,rfl⟩
 have hor:=orU n k hn hk64 hv2;obtain⟨u,hu⟩:∃ u,u=n &&& k:=⟨_,rfl⟩;have hand:=and64 n k hn hk64 hu;rw[←hv2,←hu] at HC;have hml:=hf.lt;have HBX:=Lib.hid hbox;have HH3:=Lib.hid h3;have HF:=Lib.hid hf;have HCC:=Lib.hid HC;have HKL:=Lib.hid hkl;have HV:=Lib.hid hv;clear hk hv2 hu hbox h3 hf HC hkl hv;go_enter Tryd.func40,Tryd.ntmps40;go_wp2;obtain⟨W,hW⟩:∃ W,W=((w.alloc (.cells #[.int .i64 p1,.int .i64 p2,.int .i64 (i:Nat),.int .i64 p4,.int .i64 p5,.int .i64 p6,.pointer p7] 89)).alloc (.cells #[.int .i64 p1,.int .i64 p2,.int .i64 p4,.int .i64 p5,.int .i64 0] 121)):=⟨_,rfl⟩;have hb:Below w.heap.size w W:=by rw[hW];exact(z0b w _).alloc (by simp) _
 have hx:W.heap[w.heap.size+1]?=some (.cells #[.int .i64 p1,.int .i64 p2,.int .i64 p4,.int .i64 p5,.int .i64 0] 121):=by
  rw[hW];have:=heap_alloc_new (w.alloc (.cells #[.int .i64 p1,.int .i64 p2,.int .i64 (i:Nat),.int .i64 p4,.int .i64 p5,.int .i64 p6,.pointer p7] 89)) (.cells #[.int .i64 p1,.int .i64 p2,.int .i64 p4,.int .i64 p5,.int .i64 0] 121);rw[World.size_alloc] at this;exact this
 rw[←hW];clear hW;have hWb:W.heap[a]?=some (.cells X 86):=(hb.block a hal).trans HBX.out;have hWf:MapIs 121 W m f:=HF.out.keep (hb.block m hml);have d3:W.cell? ⟨a,3,none⟩=some (.map (some m)):=(z0c hWb 3).trans HH3.out;have x0:W.cell? ⟨w.heap.size+1,0,none⟩=some (.int .i64 p1):=(z0c hx 0).trans rfl;have x1:W.cell? ⟨w.heap.size+1,1,none⟩=some (.int .i64 p2):=(z0c hx 1).trans rfl;have x2:W.cell? ⟨w.heap.size+1,2,none⟩=some (.int .i64 p4):=(z0c hx 2).trans rfl;have x3:W.cell? ⟨w.heap.size+1,3,none⟩=some (.int .i64 p5):=(z0c hx 3).trans rfl;have x4:W.cell? ⟨w.heap.size+1,4,none⟩=some (.int .i64 0):=(z0c hx 4).trans rfl
 have hlk:∀ q,(Instr.lookup 82 (.map (some m)) (.agg #[.int .i64 p1,.int .i64 p2,.int .i64 p4,.int .i64 p5,.int .i64 0]) false).run Tryd.prog (W.drewN q)= .ok (.int .u64 (n:Nat)) (W.drewN q):=fun q=>by
  have:=MapIs.look (w:=W.drewN q) (k:=121) (e:=22) (t:=82) (hWf.keep rfl) x0r Tryd.underlying82 (x3p _) HKL.out false;rw[HV.out] at this;exact this
 have HWF:=Lib.hid hWf;have HWB:=Lib.hid hb;clear hWb hx hb hWf c3;go_quiet (fail);go_wp2;obtain⟨V,hV⟩:∃ V,V=W.drewN (nq+1):=⟨_,rfl⟩;obtain⟨ob,hrun,hm2,hoth⟩:=MapIs.store (w:=V) (k:=121) (e:=22) (t:=82) (key:= .agg #[.int .i64 p1,.int .i64 p2,.int .i64 p4,.int .i64 p5,.int .i64 0]) (val:= .int .u64 (v:Nat)) (HWF.out.keep (by rw[hV];rfl)) x0r Tryd.underlying82 HKL.out
 have HPP:Hid (P (decide (u=0)) (setBlock V m ob)):=Lib.hid (by
  refine HCC.out V _ (by rw[hV];exact HWB.out.trans ⟨rfl,rfl,rfl,Nat.le_refl _,fun _ _=>rfl⟩) hm2 ⟨rfl,rfl,rfl,?_,fun j _ hj=>hoth j fun e=>hj (by rw[e])⟩;simp[setBlock])
 clear hm2 hoth hlk;rw[hV] at hrun HPP;clear hV
 go_region
 all_goals go_wp2
 all_goals go_ret
 all_goals (refine⟨(u:Int)==0,rfl,?_⟩;rw[show ((u:Int)==0)=decide (u=0) by rw[Bool.eq_iff_iff];simp];exact HPP)
def SpoOk (x:Spo):Prop:=x.part≤1000000∧x.done≤1000000∧x.place<64∧ -1000000≤x.mover∧x.mover≤1000000∧x.count≤1000000
theorem y52 {x y:Spo} (h:crowdV x=crowdV y) (hp:x.place=y.place):x=y:=by
 obtain⟨x1,x2,x3,x4,x5⟩:=x;obtain⟨y1,y2,y3,y4,y5⟩:=y;unfold crowdV at h;simp at h hp ⊢;omega
theorem wf64 {a:Int} (h: -1000000≤a) (h':a≤1000000):(Lit.int .i64 a).wf=true:=WalkArith.wf_i64 (by omega)
theorem x2s (n i:Nat):n &&& 2 ^ i=0 ↔ n.testBit i=false:=by
 constructor
 ·intro h
  have:=congrArg (fun z=>z.testBit i) h;simpa[Nat.testBit_and,Nat.testBit_two_pow] using this
 ·intro h
  refine Nat.eq_of_testBit_eq fun j=>?_
  rw[Nat.testBit_and,Nat.testBit_two_pow,Nat.zero_testBit];by_cases hj:i=j
  ·subst hj;rw[h];rfl
  ·simp[hj]
theorem y5l {fb m:Nat} {w:World} {o:WO} (t:Trk) (h:WaysAt fb w o) (hm:o.mp=some m) (ht:SpoOk t.x):
  Calls Tryd.prog 40 #[.pointer (some ⟨o.a,0,none⟩),trkV t] w fun e w'=>∃ b,e= .returned (.bool b)∧Hid ((b=true ↔ ¬ o.C t.x)∧Mt fb o w { o with C:=fun y=>o.C y∨y=t.x } w'):=by
 obtain⟨hfm,f,h1,h2,h3⟩:=h.met m hm;obtain⟨t1,t2,t3,t4,t5,t6⟩:=ht;have ap:=h.apart
 obtain⟨n,hn,hv⟩:∃ n:Nat,n<18446744073709551616∧(f (crowdV t.x)).getD (.int .u64 0)= .int .u64 (n:Nat):=by
  cases hf:f (crowdV t.x) with
  | none=>exact⟨0,by omega,rfl⟩
  | some v=>obtain⟨n,g1,rfl⟩:=h2 _ _ hf;exact⟨n,g1,rfl⟩
 have hC:∀ x:Spo,x.place<64→crowdV x=crowdV t.x→(o.C x ↔ n.testBit x.place=true):=fun x hx e=>by
  rw[h3 x hx,e]
  constructor
  ·rintro⟨n',g1,g2⟩
   rw[g1] at hv;have:n'=n:=by simp at hv;omega
   rw[←this];exact g2
  ·intro g
   cases hf:f (crowdV t.x) with
   | none=>
     rw[hf] at hv;have:n=0:=by simpa using hv.symm
     rw[this] at g;simp at g
   | some v=>
     obtain⟨n',g1,rfl⟩:=h2 _ _ hf;rw[hf] at hv;have:n'=n:=by simp at hv;omega
     exact⟨n',rfl,by rw[this];exact g⟩
 have hkey:∃ l,keyOf Tryd.prog 121 (crowdV t.x)=some l:=x27 (wf64 (by omega) (by omega)) (wf64 (by omega) (by omega)) (wf64 t4 t5) (wf64 (by omega) (by omega)) (wf64 (by omega) (by omega));refine y4u (X:=#[.pointer (some ⟨fb,0,none⟩),.int .i64 (o.part:Nat),o.tv,.map o.mp,o.fv]) (fun b w'=>(b=true ↔ ¬ o.C t.x)∧Mt fb o w { o with C:=fun y=>o.C y∨y=t.x } w') _ _ _ _ _ t.x.place n _ h.box (by rw[hm];rfl) t3 hn h1 hv hkey fun W W' hb g1 g2=>⟨?_,?_⟩
 ·rw[decide_eq_true_iff,hC t.x t3 rfl,x2s]
  simp
 ·have keep:∀ k,k<w.heap.size→k≠m→W'.heap[k]?=w.heap[k]?:=fun k hk hne=>(g2.block k (Nat.lt_of_lt_of_le hk hb.size) (fun e=>hne (by injection e))).trans (hb.block k hk)
  have hk4:∀ {b:Nat},o.own b→b<w.heap.size:=fun hb=>(h.kind hb).2.1
  refine⟨⟨g2.os.trans hb.os,g2.tape.trans hb.tape,g2.output.trans hb.output,Nat.le_trans hb.size g2.size,fun k hk hne=>keep k hk fun e=>hne (.inr (.inr (.inr (by rw[hm,e]))))⟩,⟨?_,h.gt,?_,?_,?_⟩,fun b hb=> .inl hb,rfl,rfl⟩
  ·exact(keep _ (hk4 (.inl rfl)) fun e=>ap.ma (by rw[hm,e])).trans h.box
  ·exact rowK h.tr fun b hb=>keep b (hk4 (.inr (.inl hb))) fun e=>ap.tm b hb (by rw[hm,e])
  ·exact rowK h.found fun b hb=>keep b (hk4 (.inr (.inr (.inl hb)))) fun e=>ap.fm b hb (by rw[hm,e])
  ·intro m' hm'
   have:m'=m:=by rw[hm] at hm';injection hm' with hm';exact hm'.symm
   subst this;refine⟨hfm,_,g1,fun key v hkv=>?_,fun x hx=>?_⟩
   ·by_cases hk:key=crowdV t.x
    ·subst hk
     have e:=z3z f (crowdV t.x) (.int .u64 (n ||| 2 ^ t.x.place:Nat));unfold crowdV at hkv e;rw[e] at hkv;injection hkv with hkv
     exact⟨_,Nat.or_lt_two_pow hn (Nat.pow_lt_pow_right (by omega) t3),hkv.symm⟩
    ·have e:=z17 f (v:= .int .u64 (n ||| 2 ^ t.x.place:Nat)) hk
     unfold crowdV at hkv e;rw[e] at hkv;exact h2 key v hkv
   ·show (o.C x∨x=t.x) ↔ _
    by_cases hk:crowdV x=crowdV t.x
    ·have e:=z3z f (crowdV t.x) (.int .u64 (n ||| 2 ^ t.x.place:Nat))
     rw[hC x hx hk,hk];unfold crowdV at e ⊢;rw[e]
     constructor
     ·intro g
      refine⟨_,rfl,?_⟩;rw[Nat.testBit_or,Bool.or_eq_true,Nat.testBit_two_pow]
      rcases g with g | g
      ·exact .inl g
      ·rw[g];exact .inr (by simp)
     ·rintro⟨n',g1,g2⟩
      injection g1 with g1
      have:n'=n ||| 2 ^ t.x.place:=by injection g1 with _ g1;omega
      rw[this,Nat.testBit_or,Bool.or_eq_true,Nat.testBit_two_pow] at g2
      rcases g2 with g2 | g2
      ·exact .inl g2
      ·exact .inr (y52 hk (by simp at g2;exact g2.symm))
    ·have e:=z17 f (v:= .int .u64 (n ||| 2 ^ t.x.place:Nat)) hk
     have hne:¬ x=t.x:=fun q=>hk (by rw[q])
     rw[or_iff_left hne,h3 x hx];unfold crowdV at e ⊢;rw[e]
end
section
set_option linter.unusedSimpArgs false
def fresh (tl:Option Nat) (y:Spo):Trk:=⟨y,0,tl⟩
theorem FinAt.mt {c:Cx} {w w':World} {o o':WO} (h:FinAt c w) (hw:WaysAt c.fb w o) (hm:Mt c.fb o w o' w'):FinAt c w':=h.keep hm.fr fun b hb hq=>by have:=(hw.kind hq).1;have:=hb.1;omega
theorem FinAt.next {c:Cx} {w w':World} (h:FinAt c w) (hb:Below w.heap.size w w'):FinAt c w':=h.keep (S:=fun _=>False) (.of_below hb) fun _ _ h=>h
theorem WaysAt.next {fb:Nat} {w w':World} {o:WO} (h:WaysAt fb w o) (hb:Below w.heap.size w w'):WaysAt fb w' o:=h.keep fun b hq=>hb.block b (h.kind hq).2.1
theorem Mt.of_below {fb:Nat} {w w':World} {o:WO} (h:WaysAt fb w o) (hb:Below w.heap.size w w'):Mt fb o w o w':=⟨.of_below hb,h.next hb,fun _ h=> .inl h,rfl,rfl⟩
theorem z7n {c:Cx} {w:World} {o:WO} (t:Trk) (n:Nat) (nd:Nd) (hfi:FinAt c w) (h:WaysAt c.fb w o) (hl:o.tr.length≤900000000000) (hn:c.T[t.x.part]?=some nd) (hF:Fine nd.r) (hk:nd.r.kind=6) (hlen:nd.kids.length=nd.r.kids.length):
  Calls Tryd.prog 63 #[.pointer (some ⟨o.a,0,none⟩),trkV t,.int .i64 (n:Nat)] w (PushPost c.fb o ((repN nd t.x n).map (fresh t.tl)) w):=by
 obtain⟨⟨r1,hr1⟩,_⟩:=hF.six hk;have hN:t.x.part<c.T.length:=(List.getElem?_eq_some_iff.mp hn).1;obtain⟨R,rc,K,kc,hat,hin⟩:=hfi.parts.2 _ _ hn;have hkl:nd.kids.length=1:=by rw[hlen,hr1];rfl
 obtain⟨q,hq⟩:∃ q,nd.kids=[q]:=by
  match hh:nd.kids,hkl with
  | [q],_=>exact⟨q,rfl⟩
 obtain⟨g,rfl,hg1,hg2⟩:=hin 0 q (by rw[hq];rfl);have a6:=hat.2.2.2.2.2.2.1;have a9:=hat.2.2.2.2.2.2.2.2.2.1;have a12:=hat.2.2.2.2.2.2.2.2.2.2.2.2.1;rw[hkl] at a9;have hoa:=h.kind (b:=o.a) (.inl rfl);have c0:w.cell? ⟨o.a,0,none⟩=some (.pointer (some ⟨c.fb,0,none⟩)):=(z0c h.box 0).trans rfl;have d0:w.cell? ⟨c.fb,0,none⟩=some (.slice (some ⟨c.pb,0,none⟩) c.T.length c.pc):=(z0c hfi.box 0).trans rfl;have lb:∀ {b:Nat} {j:Nat} {v:Value},w.cell? ⟨b,j,none⟩=some v→∀ o',(w.alloc o').cell? ⟨b,j,none⟩=some v:=fun {b j v} e o'=>((z0b w o').cell (p:=⟨b,j,none⟩) (World.block_lt_of_cell? w _ e)).trans e
 have c0':=lb c0;have d0':=lb d0;obtain⟨p1,h1⟩:∃ x:Nat,x=t.x.part:=⟨_,rfl⟩;obtain⟨p2,h2⟩:∃ x:Int,x=(t.x.done:Nat):=⟨_,rfl⟩;obtain⟨p3,h3⟩:∃ x:Int,x=(t.x.place:Nat):=⟨_,rfl⟩;obtain⟨p4,h4⟩:∃ x:Int,x=t.x.mover:=⟨_,rfl⟩;obtain⟨p5,h5⟩:∃ x:Int,x=(t.x.count:Nat):=⟨_,rfl⟩;obtain⟨p6,h6⟩:∃ x:Int,x=(t.tried:Nat):=⟨_,rfl⟩;obtain⟨p7,h7⟩:∃ x,Value.pointer x=pv t.tl:=⟨_,rfl⟩;unfold trkV;rw[←h1,←h2,←h3,←h4,←h5,←h6,←h7];have H0:=Lib.hid (And.intro h1 (And.intro h2 (And.intro h3 (And.intro h4 (And.intro h5 (And.intro h6 h7))))));rw[←h1] at hN a6 a9 a12;clear h1 h2 h3 h4 h5 h6 h7;obtain⟨N,hNN⟩:∃ N,N=c.T.length:=⟨_,rfl⟩;rw[←hNN] at d0 d0' hN;clear hNN;obtain⟨a,ha⟩:∃ a,a=o.a:=⟨_,rfl⟩;rw[←ha] at c0 c0' ⊢;have HA:=Lib.hid ha;clear ha;obtain⟨Q,hQ⟩:∃ Q,Q=PushPost c.fb o ((repN nd t.x n).map (fresh t.tl)) w:=⟨_,rfl⟩;rw[←hQ];have HQ:=Lib.hid hQ;have HFI:=Lib.hid hfi;have HH:=Lib.hid h;have HNK:=Lib.hid (And.intro hn (And.intro hF (And.intro hk (And.intro hq hl))));clear hQ hfi h hat hin lb hoa hn hF hk hq hl hlen hkl hr1 hg1;go_enter Tryd.func63,Tryd.ntmps63;go_wp2;go_quiet (fail);obtain⟨W,hW⟩:∃ W,W=((w.alloc (.cells #[.int .i64 (p1:Nat),.int .i64 p2,.int .i64 p3,.int .i64 p4,.int .i64 p5,.int .i64 p6,.pointer p7] 89)).drewN nq):=⟨_,rfl⟩;have hb:Below w.heap.size w W:=by rw[hW];exact(z0b w _).trans ⟨rfl,rfl,rfl,Nat.le_refl _,fun _ _=>rfl⟩
 have hbx:W.heap[w.heap.size]?=some (.cells #[.int .i64 (p1:Nat),.int .i64 p2,.int .i64 p3,.int .i64 p4,.int .i64 p5,.int .i64 p6,.pointer p7] 89):=by rw[hW];exact heap_alloc_new w _
 have hsz:W.heap.size=w.heap.size+1:=by rw[hW];simp[World.drewN]
 rw[←hW];clear hW;have hold:∀ {b j:Nat} {v:Value},w.cell? ⟨b,j,none⟩=some v→W.cell? ⟨b,j,none⟩=some v:=fun {b j v} e=>(hb.cell (p:=⟨b,j,none⟩) (World.block_lt_of_cell? w _ e)).trans e
 have b0:=z0c hbx 0;have b1:=z0c hbx 1;have b2:=z0c hbx 2;have b3:=z0c hbx 3;have b4:=z0c hbx 4;have b5:=z0c hbx 5;have b6:=z0c hbx 6;simp at b0 b1 b2 b3 b4 b5 b6;have f:=z0m hbx;have e6:=hold a6;have e9:=hold a9;have e12:=hold a12;have eg:=hold hg2;have al:∀ {b j:Nat} {v:Value},W.cell? ⟨b,j,none⟩=some v→∀ o',(W.alloc o').cell? ⟨b,j,none⟩=some v:=fun {b j v} e o'=>((z0b W o').cell (p:=⟨b,j,none⟩) (World.block_lt_of_cell? W _ e)).trans e
 have g6:=al e6;have g9:=al e9;have g12:=al e12;have gg:=al eg;have gb4:=al b4;have gb0:=al b0;have gb1:=al b1;clear al e6 g6;obtain⟨cq,hcq⟩:∃ cq,cq=cntQ nd.r:=⟨_,rfl⟩;rw[←hcq] at e12 g12;have HCQ:=Lib.hid hcq;have HB:=Lib.hid (And.intro hb (And.intro hbx hsz));clear hcq hb hbx hold d0 d0' c0 c0' a6 a9 a12 hg2
 rename_i hK
 refine hK _ _ ?_;clear hK
 go_upto_if 30 with (fail)
 go_cut [] from 31 (fun wx=>Hid (Below w.heap.size w wx∧wx.heap[w.heap.size]?=some (.cells #[.int .i64 (p1:Nat),.int .i64 p2,.int .i64 p3,.int .i64 p4,.int .i64 (if cq=true then 0 else p5),.int .i64 p6,.pointer p7] 89)∧
  wx.heap[w.heap.size+1]?=some (.cells #[.int .i64 (q:Nat),.int .i64 0,.int .i64 p3,.int .i64 p4,.int .i64 (if cq=true then (n:Int) else p5),.int .i64 p6,.pointer p7] 89)))
 case first=>
  have hWl:w.heap.size<W.heap.size:=by rw[HB.out.2.2];omega
  cases cq with
  | false=>
    go_wp2
    go_meet
    refine Lib.hid ⟨HB.out.1.alloc (by omega) _,((z0b W _).block _ hWl).trans HB.out.2.1,?_⟩;have:=heap_alloc_new W (.cells #[.int .i64 (q:Nat),.int .i64 0,.int .i64 p3,.int .i64 p4,.int .i64 p5,.int .i64 p6,.pointer p7] 89);rw[HB.out.2.2] at this;exact this
  | true=>
    go_wp2
    go_meet
    refine Lib.hid ⟨(HB.out.1.setCell (p:=⟨w.heap.size,4,none⟩) (Nat.le_refl _) _).alloc (by simp;omega) _,?_,?_⟩
    ·have h1:=heap_setCell_same W w.heap.size 4 _ 89 (.int .i64 0) HB.out.2.1
     exact((z0b (W.setCell ⟨w.heap.size,4,none⟩ (.int .i64 0)) _).block _ (by simp;omega)).trans h1
    ·have:=heap_alloc_new (W.setCell ⟨w.heap.size,4,none⟩ (.int .i64 0)) (.cells #[.int .i64 (q:Nat),.int .i64 0,.int .i64 p3,.int .i64 p4,.int .i64 (n:Nat),.int .i64 p6,.pointer p7] 89)
     rw[World.size_setCell,HB.out.2.2] at this;exact this
 case rest=>
  obtain⟨r5,hr5⟩:∃ r5,r5=(if cq=true then 0 else p5):=⟨_,rfl⟩;obtain⟨ck,hck⟩:∃ ck,ck=(if cq=true then (n:Int) else p5):=⟨_,rfl⟩;rw[←hr5,←hck] at hcut;have HR5:=Lib.hid (And.intro hr5 hck);have HW:=hcut
  have x6:wc.cell? ⟨c.pb,p1 * 14+6,none⟩=some (.int .i64 nd.r.lo):=by
   have hh:=HFI.out.parts.2 _ _ HNK.out.1;obtain⟨R',rc',K',kc',hat,_⟩:=hh;rw[←H0.out.1] at hat;exact(HW.out.1.cell (p:=⟨c.pb,p1 * 14+6,none⟩) (World.block_lt_of_cell? w _ hat.2.2.2.2.2.2.1)).trans hat.2.2.2.2.2.2.1
  have t0:=z0c HW.out.2.1 0;have t1:=z0c HW.out.2.1 1;have t2:=z0c HW.out.2.1 2;have t3:=z0c HW.out.2.1 3;have t4:=z0c HW.out.2.1 4;have t5:=z0c HW.out.2.1 5;have t6:=z0c HW.out.2.1 6;have k0:=z0c HW.out.2.2 0;have k1:=z0c HW.out.2.2 1;have k2:=z0c HW.out.2.2 2;have k3:=z0c HW.out.2.2 3;have k4:=z0c HW.out.2.2 4;have k5:=z0c HW.out.2.2 5;have k6:=z0c HW.out.2.2 6;simp at t0 t1 t2 t3 t4 t5 t6 k0 k1 k2 k3 k4 k5 k6;have ft:=z0m HW.out.2.1;have fk:=z0m HW.out.2.2
  have HE:Hid (∀ U,Below w.heap.size w U→Calls Tryd.prog 29 #[.pointer (some ⟨a,0,none⟩),.agg #[.int .i64 (p1:Nat),.int .i64 1,.int .i64 p3,.int .i64 p4,.int .i64 r5,.int .i64 p6,.pointer p7]] U (PushPost c.fb o [fresh t.tl (endN nd t.x)] U)):=Lib.hid fun U hb=>by
   have h1:=z01 (fb:=c.fb) (w:=U) (o:=o) ⟨endN nd t.x,t.tried,t.tl⟩ (HH.out.next hb) (by have:=HNK.out.2.2.2.2;omega)
   have e:trkV ⟨endN nd t.x,t.tried,t.tl⟩= .agg #[.int .i64 (p1:Nat),.int .i64 1,.int .i64 p3,.int .i64 p4,.int .i64 r5,.int .i64 p6,.pointer p7]:=by
    obtain⟨q1,q2,q3,q4,q5,q6,q7⟩:=H0.out;unfold trkV endN;rw[q1,q3,q4,q6,q7,HR5.out.1,HCQ.out,q5]
    cases cntQ nd.r <;> rfl
   rw[e,←HA.out] at h1;exact h1
  have HKd:Hid (∀ U o' mv,WaysAt c.fb U o'→o'.a=o.a→o'.tr.length≤1000000000000→mv=(if nd.r.lo≤n then (p1:Int) else p4)→Calls Tryd.prog 29 #[.pointer (some ⟨a,0,none⟩),.agg #[.int .i64 (q:Nat),.int .i64 0,.int .i64 p3,.int .i64 mv,.int .i64 ck,.int .i64 p6,.pointer p7]] U (PushPost c.fb o' [fresh t.tl (kidN nd t.x n)] U)):=Lib.hid fun U o' mv hU ha hl' hmv=>by
   have h1:=z01 (fb:=c.fb) (w:=U) (o:=o') ⟨kidN nd t.x n,t.tried,t.tl⟩ hU hl'
   have e:trkV ⟨kidN nd t.x n,t.tried,t.tl⟩= .agg #[.int .i64 (q:Nat),.int .i64 0,.int .i64 p3,.int .i64 mv,.int .i64 ck,.int .i64 p6,.pointer p7]:=by
    obtain⟨q1,q2,q3,q4,q5,q6,q7⟩:=H0.out;unfold trkV kidN;rw[q3,q6,q7,HR5.out.2,HCQ.out,q5,hmv,q1,q4,HNK.out.2.2.2.1]
    cases cntQ nd.r <;> rfl
   rw[e,ha,←HA.out] at h1;exact h1
  have HM:Hid (∀ U,FinAt c U→Calls Tryd.prog 59 #[.pointer (some ⟨c.pb,p1 * 14,none⟩),.int .i64 (n:Nat)] U fun e w'=>e= .returned (.bool (moreQ nd.r n))∧U=w'):=Lib.hid fun U hU=>by
   obtain⟨R',rc',K',kc',hat,_⟩:=hU.parts.2 _ _ HNK.out.1;rw[←H0.out.1] at hat;exact(y2o hat n).mono fun e w' ⟨q1,q2⟩=>⟨q1,q2.symm⟩
  have HFW:Hid (FinAt c wc):=Lib.hid (HFI.out.next HW.out.1);have HWW:Hid (WaysAt c.fb wc o):=Lib.hid (HH.out.next HW.out.1);obtain⟨lo,hlo⟩:∃ lo,lo=nd.r.lo:=⟨_,rfl⟩;obtain⟨mq,hmq⟩:∃ mq,mq=moreQ nd.r n:=⟨_,rfl⟩;rw[←hlo] at x6 HKd;rw[←hmq] at HM;have HLM:=Lib.hid (And.intro hlo hmq);clear hlo hmq hr5 hck hcut;by_cases hle:lo≤(n:Int)
  ·obtain⟨U1,hU1⟩:∃ U1,U1=((wc.setCell ⟨w.heap.size+1,3,none⟩ (.int .i64 (p1:Nat))).setCell ⟨w.heap.size,1,none⟩ (.int .i64 1)):=⟨_,rfl⟩
   have hbU:Below w.heap.size w U1:=by rw[hU1];exact(HW.out.1.setCell (p:=⟨w.heap.size+1,3,none⟩) (by show w.heap.size≤w.heap.size+1;omega) _).setCell (p:=⟨w.heap.size,1,none⟩) (Nat.le_refl _) _
   have hkU:U1.heap[w.heap.size+1]?=some (.cells #[.int .i64 (q:Nat),.int .i64 0,.int .i64 p3,.int .i64 (p1:Nat),.int .i64 ck,.int .i64 p6,.pointer p7] 89):=by
    rw[hU1];exact(Below.heap_setCell _ _ _ _ (by show w.heap.size+1≠w.heap.size;omega)).trans (heap_setCell_same wc (w.heap.size+1) 3 _ 89 (.int .i64 (p1:Nat)) HW.out.2.2)
   have HE1:=Lib.hid (HE.out U1 hbU)
   have HT2:Hid (∀ w2,Hid (∃ v',Mt c.fb o U1 { o with tv:=v',tr:=o.tr++[fresh t.tl (endN nd t.x)] } w2)→FinAt c w2∧(∃ o',WaysAt c.fb w2 o'∧o'.a=o.a∧o'.tr.length≤1000000000000∧∃ v',o'={ o with tv:=v',tr:=o.tr++[fresh t.tl (endN nd t.x)] }∧Mt c.fb o w o' w2)∧w2.heap[w.heap.size+1]?=some (.cells #[.int .i64 (q:Nat),.int .i64 0,.int .i64 p3,.int .i64 (p1:Nat),.int .i64 ck,.int .i64 p6,.pointer p7] 89)):=Lib.hid fun w2 ⟨v',hm⟩=>by
    have hwU:=HH.out.next hbU
    refine⟨(HFI.out.next hbU).mt hwU hm,⟨_,hm.at_,rfl,?_,v',rfl,Mt.pre HH.out hbU hm⟩,?_⟩
    ·have:=HNK.out.2.2.2.2;simp;omega
    ·have h1:=(Array.getElem?_eq_some_iff.mp hkU).1
     rw[hm.fr.block _ h1 fun hq=>by have:=(HH.out.kind hq).2.1;omega];exact hkU
   rw[hU1] at HE1;clear hbU hkU
   cases mq with
   | false=>
     go_wp2_with (first | (go_at_call 29;((with_reducible refine(HE1.out).mono ?_));rintro _ w2 ⟨rfl,HP⟩;rw[←hU1] at HP;have HQ2:=Lib.hid (HT2.out w2 HP)) | (go_at_call 59;((with_reducible refine(HM.out _ HQ2.out.1).mono ?_));rintro _ _ ⟨rfl,rfl⟩) | fail)
     go_end0
     rw[HQ.out];obtain⟨o2,g1,g2,g3,v',g4,g5⟩:=HQ2.out.2.1;have e:repN nd t.x n=[endN nd t.x]:=by unfold repN;rw[←HLM.out.1,if_pos hle,←HLM.out.2];rfl
     rw[e];exact⟨rfl,Lib.hid ⟨v',by rw[g4] at g5;exact g5⟩⟩
   | true=>
     go_wp2_with (first | (go_at_call 29;((with_reducible refine(HE1.out).mono ?_));rintro _ w2 ⟨rfl,HP⟩;rw[←hU1] at HP;have HQ2:=Lib.hid (HT2.out w2 HP);obtain⟨o2,g1,g2,g3,g4⟩:=HQ2.out.2.1;have HK2:=Lib.hid (HKd.out w2 o2 (p1:Nat) g1 g2 g3 (by rw[if_pos hle]));have G4:=Lib.hid g4;have z0:=z0c HQ2.out.2.2 0;have z1:=z0c HQ2.out.2.2 1;have z2:=z0c HQ2.out.2.2 2;have z3:=z0c HQ2.out.2.2 3;have z4:=z0c HQ2.out.2.2 4;have z5:=z0c HQ2.out.2.2 5;have z6:=z0c HQ2.out.2.2 6;simp at z0 z1 z2 z3 z4 z5 z6;clear g1 g2 g3 g4) | (go_at_call 59;((with_reducible refine(HM.out _ HQ2.out.1).mono ?_));rintro _ _ ⟨rfl,rfl⟩) | (go_at_call 29;((with_reducible refine(HK2.out).mono ?_));rintro _ w3 ⟨rfl,HP3⟩) | fail)
     go_end0
     rw[HQ.out];obtain⟨v',g4,g5⟩:=G4.out;obtain⟨v2,g6⟩:=HP3.out;have e:repN nd t.x n=[endN nd t.x,kidN nd t.x n]:=by unfold repN;rw[←HLM.out.1,if_pos hle,←HLM.out.2];rfl
     rw[e];refine⟨rfl,Lib.hid ⟨v2,?_⟩⟩;have:=g5.trans g6;rw[g4] at this;simpa using this
  ·have HK1:=Lib.hid (HKd.out wc o p4 HWW.out rfl (by have:=HNK.out.2.2.2.2;omega) (by rw[if_neg hle]))
   cases mq with
   | false=>
     go_wp2_with (first | (go_at_call 59;((with_reducible refine(HM.out _ HFW.out).mono ?_));rintro _ _ ⟨rfl,rfl⟩) | fail)
     go_end0
     rw[HQ.out];have e:repN nd t.x n=[]:=by unfold repN;rw[←HLM.out.1,if_neg (by omega),←HLM.out.2];rfl
     rw[e];refine⟨rfl,Lib.hid ⟨o.tv,?_⟩⟩;have:=Mt.of_below HH.out HW.out.1;simpa using this
   | true=>
     go_wp2_with (first | (go_at_call 59;((with_reducible refine(HM.out _ HFW.out).mono ?_));rintro _ _ ⟨rfl,rfl⟩) | (go_at_call 29;((with_reducible refine(HK1.out).mono ?_));rintro _ w3 ⟨rfl,HP3⟩) | fail)
     go_end0
     rw[HQ.out];obtain⟨v2,g6⟩:=HP3.out;have e:repN nd t.x n=[kidN nd t.x n]:=by unfold repN;rw[←HLM.out.1,if_neg (by omega),←HLM.out.2];rfl
     rw[e];exact⟨rfl,Lib.hid ⟨v2,Mt.pre HH.out HW.out.1 g6⟩⟩
end
section
set_option linter.unusedSimpArgs false
def atPart (x:Spo) (q:Nat):Spo:={ x with part:=q }
abbrev ldTk:Op:= .load 83 (.tmp 35)
structure AppAt (fb:Nat) (W:World) (o:WO) (t:Trk) (b:Nat) (A:Option Addr) (N ac:Nat) (w5:World) (g cap:Nat):Prop where
 mt:Mt fb o W { o with tv:= .slice (some ⟨g,0,none⟩) (N+1) cap,tr:=o.tr++[t] } (w5.setCell ⟨o.a,2,none⟩ (.slice (some ⟨g,0,none⟩) (N+1) cap))
 c2:w5.cell? ⟨o.a,2,none⟩=some (.slice A N ac)
 f2:w5.frozen? ⟨o.a,2,none⟩=false
 box:w5.heap[b]?=W.heap[b]?
 box2:(w5.setCell ⟨o.a,2,none⟩ (.slice (some ⟨g,0,none⟩) (N+1) cap)).heap[b]?=W.heap[b]?
theorem Mt.box {fb b j:Nat} {v:Value} {o o':WO} {w w1:World} (h:Mt fb o w o' w1) (hb:w.heap.size≤b) (hn:¬ o'.own b):Mt fb o w o' (w1.setCell ⟨b,j,none⟩ v):=by
 have k:∀ i,i≠b→(w1.setCell ⟨b,j,none⟩ v).heap[i]?=w1.heap[i]?:=fun i hi=>Below.heap_setCell _ _ _ _ hi
 exact⟨⟨h.fr.os,h.fr.tape,h.fr.output,by rw[World.size_setCell];exact h.fr.size,fun i hi hq=>(k i (by omega)).trans (h.fr.block i hi hq)⟩,h.at_.keep fun i hi=>k i fun e=>hn (e ▸ hi),h.own,h.a,h.part⟩
theorem y6o {fb b:Nat} {W W2 w5:World} {o:WO} {t:Trk} {A:Option Addr} {ac:Nat} (h:WaysAt fb W o) (hv:o.tv= .slice A o.tr.length ac) (hb:¬ o.own b) (hbl:b<W.heap.size) (hW:Below W.heap.size W W2) (hs:W.heap.size<W2.heap.size) {g cap:Nat}
  (hown:w5.ownsRow (fb+1) 89 7 (.slice (some ⟨g,0,none⟩) (o.tr.length+1) cap) (o.tr.length+1) (o.tr.flatMap trkC++trkC t)) (hg:W2.grownBy w5 o.tv.ownBlock) (hat:o.tv.ownBlock=some g∨g=W2.heap.size):AppAt fb W o t b A o.tr.length ac w5 g cap:=by
 obtain⟨h1,h2,h3⟩:=y57 (t:=t) h hW hs hown hg hat;have e:w5.heap[b]?=W.heap[b]?:=(hg.block b (by omega) fun e=>hb (.inr (.inl e.symm))).trans (hW.block b hbl);exact⟨h1,(z0c (h2.trans h.box) 2).trans (by rw[hv];rfl),z0m (h2.trans h.box) 2,e,(Below.heap_setCell _ _ _ _ (fun q=>hb (.inl q))).trans e⟩
theorem y33 {c:Cx} {w:World} {o:WO} (t:Trk) (q:Nat) (nd:Nd) (hfi:FinAt c w) (h:WaysAt c.fb w o) (hl:o.tr.length≤900000000000) (hn:c.T[t.x.part]?=some nd) (hkl:nd.kids.length≤1000000) (hq:nd.kids[t.tried]?=some q):
  Calls Tryd.prog 55 #[.pointer (some ⟨o.a,0,none⟩),trkV t] w (PushPost c.fb o ((if t.tried+1<nd.kids.length then [{ t with tried:=t.tried+1 }] else [])++[fresh t.tl (atPart t.x q)]) w):=by
 have hN:t.x.part<c.T.length:=(List.getElem?_eq_some_iff.mp hn).1;have hj:t.tried<nd.kids.length:=(List.getElem?_eq_some_iff.mp hq).1;obtain⟨R,rc,K,kc,hat,hin⟩:=hfi.parts.2 _ _ hn;obtain⟨g,rfl,hg1,hg2⟩:=hin _ _ hq;obtain⟨A,ac,hv⟩:=z1k h.tr;have a9:=hat.2.2.2.2.2.2.2.2.2.1;have c0:w.cell? ⟨o.a,0,none⟩=some (.pointer (some ⟨c.fb,0,none⟩)):=(z0c h.box 0).trans rfl;have d0:w.cell? ⟨c.fb,0,none⟩=some (.slice (some ⟨c.pb,0,none⟩) c.T.length c.pc):=(z0c hfi.box 0).trans rfl;have lb:∀ {b j:Nat} {v:Value},w.cell? ⟨b,j,none⟩=some v→∀ o',(w.alloc o').cell? ⟨b,j,none⟩=some v:=fun {b j v} e o'=>((z0b w o').cell (p:=⟨b,j,none⟩) (World.block_lt_of_cell? w _ e)).trans e
 obtain⟨p1,h1⟩:∃ x:Nat,x=t.x.part:=⟨_,rfl⟩;obtain⟨p2,h2⟩:∃ x:Int,x=(t.x.done:Nat):=⟨_,rfl⟩;obtain⟨p3,h3⟩:∃ x:Int,x=(t.x.place:Nat):=⟨_,rfl⟩;obtain⟨p4,h4⟩:∃ x:Int,x=t.x.mover:=⟨_,rfl⟩;obtain⟨p5,h5⟩:∃ x:Int,x=(t.x.count:Nat):=⟨_,rfl⟩;obtain⟨p6,h6⟩:∃ x:Nat,x=t.tried:=⟨_,rfl⟩;obtain⟨p7,h7⟩:∃ x,Value.pointer x=pv t.tl:=⟨_,rfl⟩;unfold trkV;rw[←h1,←h2,←h3,←h4,←h5,←h6,←h7];have H0:=Lib.hid (And.intro h1 (And.intro h2 (And.intro h3 (And.intro h4 (And.intro h5 (And.intro h6 h7))))));obtain⟨L,hL⟩:∃ L,L=nd.kids.length:=⟨_,rfl⟩;rw[←h1] at hN a9;rw[←h6] at hg2 hj;rw[←hL] at a9 hj hkl;obtain⟨Q,hQ⟩:∃ Q,Q=PushPost c.fb o ((if t.tried+1<nd.kids.length then [{ t with tried:=t.tried+1 }] else [])++[fresh t.tl (atPart t.x q)]) w:=⟨_,rfl⟩;rw[←h6,←hL] at hQ;rw[←hL,←hQ];have HLL:=Lib.hid hL;clear h1 h2 h3 h4 h5 h6 h7 hL;obtain⟨N,hNN⟩:∃ N,N=c.T.length:=⟨_,rfl⟩;rw[←hNN] at d0 hN;clear hNN;obtain⟨a,ha⟩:∃ a,a=o.a:=⟨_,rfl⟩;rw[←ha] at c0 ⊢;have HA:=Lib.hid ha;have c0':=lb c0;have d0':=lb d0;have a9':=lb a9;have g':=lb hg2;have HQ:=Lib.hid hQ;have HFI:=Lib.hid hfi;have HH:=Lib.hid h;have HNK:=Lib.hid (And.intro hn (And.intro hv hl));clear hQ hfi h hat hin lb hn hq hl hg1 c0 d0 a9 hg2 ha hv;go_enter Tryd.func55,Tryd.ntmps55;go_wp2;go_quiet (fail)
 rename_i hK
 refine hK _ _ ?_;clear hK
 go_upto_if 31 with (fail)
 obtain⟨W,hW⟩:∃ W,W=(((w.alloc (.cells #[.int .i64 (p1:Nat),.int .i64 p2,.int .i64 p3,.int .i64 p4,.int .i64 p5,.int .i64 (p6:Nat),.pointer p7] 89)).drewN nq).setCell ⟨w.heap.size,5,none⟩ (.int .i64 ((p6:Int)+1))):=⟨_,rfl⟩
 have hb:Below w.heap.size w W:=by
  rw[hW];have hd0:Below w.heap.size w ((w.alloc (.cells #[.int .i64 (p1:Nat),.int .i64 p2,.int .i64 p3,.int .i64 p4,.int .i64 p5,.int .i64 (p6:Nat),.pointer p7] 89)).drewN nq):=(z0b w _).trans ⟨rfl,rfl,rfl,Nat.le_refl _,fun _ _=>rfl⟩;exact hd0.setCell (p:=⟨w.heap.size,5,none⟩) (Nat.le_refl _) _
 have hbx:W.heap[w.heap.size]?=some (.cells #[Value.int .i64 (p1:Nat),.int .i64 p2,.int .i64 p3,.int .i64 p4,.int .i64 p5,.int .i64 (p6+1:Int),.pointer p7] 89):=by
  rw[hW];have h0:((w.alloc (.cells #[.int .i64 (p1:Nat),.int .i64 p2,.int .i64 p3,.int .i64 p4,.int .i64 p5,.int .i64 (p6:Nat),.pointer p7] 89)).drewN nq).heap[w.heap.size]?=some (.cells #[.int .i64 (p1:Nat),.int .i64 p2,.int .i64 p3,.int .i64 p4,.int .i64 p5,.int .i64 (p6:Nat),.pointer p7] 89):=heap_alloc_new w _;exact heap_setCell_same _ w.heap.size 5 _ 89 (.int .i64 ((p6:Int)+1)) h0
 rw[←hW];have hsz:w.heap.size<W.heap.size:=(Array.getElem?_eq_some_iff.mp hbx).1;have HW:=Lib.hid (And.intro hb (And.intro hbx hsz));have HWW:=Lib.hid (HH.out.next hb);have HNO:Hid (¬ o.own w.heap.size):=Lib.hid fun hq=>by have:=(HH.out.kind hq).2.1;omega
 clear hW hb hbx;clear c0' d0' a9' g'
 have HS:Hid (∀ U:World,U.heap[w.heap.size]?=some (.cells #[Value.int .i64 (p1:Nat),.int .i64 p2,.int .i64 p3,.int .i64 p4,.int .i64 p5,.int .i64 (p6+1:Int),.pointer p7] 89)→
   U.cell? ⟨w.heap.size,0,none⟩=some (.int .i64 (p1:Nat))∧U.cell? ⟨w.heap.size,1,none⟩=some (.int .i64 p2)∧U.cell? ⟨w.heap.size,2,none⟩=some (.int .i64 p3)∧U.cell? ⟨w.heap.size,3,none⟩=some (.int .i64 p4)∧U.cell? ⟨w.heap.size,4,none⟩=some (.int .i64 p5)∧U.cell? ⟨w.heap.size,5,none⟩=some (.int .i64 (p6+1:Int))∧U.cell? ⟨w.heap.size,6,none⟩=some (.pointer p7)):=Lib.hid fun U e2=>by
  have l:=z0c e2;exact⟨(l 0).trans rfl,(l 1).trans rfl,(l 2).trans rfl,(l 3).trans rfl,(l 4).trans rfl,(l 5).trans rfl,(l 6).trans rfl⟩
 obtain⟨nx,hnx⟩:∃ nx:List Trk,nx=if p6+1<L then [{ t with tried:=p6+1 }] else []:=⟨_,rfl⟩
 rw[←hnx] at HQ;have HNX:=Lib.hid hnx;clear hnx;generalize hbl:decide ((p6:Int)+1<(L:Int))=bl
 go_cut [] from 32 (fun wx=>Hid (∃ v',Mt c.fb o W { o with tv:=v',tr:=o.tr++nx } wx∧wx.heap[w.heap.size]?=some (.cells #[Value.int .i64 (p1:Nat),.int .i64 p2,.int .i64 p3,.int .i64 p4,.int .i64 p5,.int .i64 (p6+1:Int),.pointer p7] 89)))
 case first=>
  cases bl with
  | true=>
    have hlt:p6+1<L:=by simp at hbl;omega
    obtain⟨i0,hi0,hz0,hz1,hz2⟩:=info_parts y1z;obtain⟨TN,hTN⟩:∃ TN,TN=o.tr.length:=⟨_,rfl⟩;obtain⟨B,hB⟩:∃ B,B=c.fb+1:=⟨_,rfl⟩;obtain⟨cs,hcs⟩:∃ cs,cs=o.tr.flatMap trkC:=⟨_,rfl⟩;have hv:=HNK.out.2.1;have hTl:TN≤900000000000:=by rw[hTN];exact HNK.out.2.2
    have hbox:=HWW.out.box;rw[←HA.out] at hbox;have hal:a<W.heap.size:=(Array.getElem?_eq_some_iff.mp hbox).1;have hca:W.cell? ⟨a,2,none⟩=some (.slice A TN ac):=(z0c hbox 2).trans (by rw[hv,hTN];rfl);have l0:∀ o',(W.alloc o').cell? ⟨a,2,none⟩=some (.slice A TN ac):=fun o'=>((z0b W o').cell (p:=⟨a,2,none⟩) hal).trans hca
    have l1:∀ o',(W.drew.alloc o').cell? ⟨a,2,none⟩=some (.slice A TN ac):=fun o'=>(((Below.refl W.heap.size W).drew.alloc (by simp) o').cell (p:=⟨a,2,none⟩) hal).trans hca
    have HS1:=Lib.hid (HS.out W.drew HW.out.2.1);have hb2:Below W.heap.size W (W.drew.alloc (.cells #[Value.int .i64 (p1:Nat),.int .i64 p2,.int .i64 p3,.int .i64 p4,.int .i64 p5,.int .i64 (p6+1:Int),.pointer p7] 89)):=(Below.refl _ _).drew.alloc (by simp) _;have HS2:=Lib.hid (HS.out (W.drew.alloc (.cells #[Value.int .i64 (p1:Nat),.int .i64 p2,.int .i64 p3,.int .i64 p4,.int .i64 p5,.int .i64 (p6+1:Int),.pointer p7] 89)) ((hb2.block _ hsz).trans HW.out.2.1))
    have HR2:Hid ((W.drew.alloc (.cells #[Value.int .i64 (p1:Nat),.int .i64 p2,.int .i64 p3,.int .i64 p4,.int .i64 p5,.int .i64 (p6+1:Int),.pointer p7] 89)).ownsRow B 89 7 (.slice A TN ac) TN cs):=Lib.hid (by
     have:=z1x HWW.out.tr hb2;rw[hv,←hTN,←hB,←hcs] at this;exact this)
    have HN2:Hid (∀ (j:Nat) (u:Value),#[Value.int .i64 (p1:Nat),.int .i64 p2,.int .i64 p3,.int .i64 p4,.int .i64 p5,.int .i64 (p6+1:Int),.pointer p7].toList[j]?=some u→(W.drew.alloc (.cells #[Value.int .i64 (p1:Nat),.int .i64 p2,.int .i64 p3,.int .i64 p4,.int .i64 p5,.int .i64 (p6+1:Int),.pointer p7] 89)).cell? ((⟨W.heap.size,0,none⟩:Addr).add j)=some u):=Lib.hid fun j u hu=>z0l W.drew 89 #[Value.int .i64 (p1:Nat),.int .i64 p2,.int .i64 p3,.int .i64 p4,.int .i64 p5,.int .i64 (p6+1:Int),.pointer p7] j u hu
    have HO:=Lib.hid (z44 (p1:Nat) p2 p3 p4 p5 (p6+1:Int) p7)
    have HT:Hid (∀ (g5 cap:Nat) (w5:World),w5.ownsRow B 89 7 (.slice (some ⟨g5,0,none⟩) (TN+1) cap) (TN+1) (cs++[Value.int .i64 (p1:Nat),.int .i64 p2,.int .i64 p3,.int .i64 p4,.int .i64 p5,.int .i64 (p6+1:Int),.pointer p7])→(W.drew.alloc (.cells #[Value.int .i64 (p1:Nat),.int .i64 p2,.int .i64 p3,.int .i64 p4,.int .i64 p5,.int .i64 (p6+1:Int),.pointer p7] 89)).grownBy w5 (Value.slice A TN ac).ownBlock→((Value.slice A TN ac).ownBlock=some g5∨g5=(W.drew.alloc (.cells #[Value.int .i64 (p1:Nat),.int .i64 p2,.int .i64 p3,.int .i64 p4,.int .i64 p5,.int .i64 (p6+1:Int),.pointer p7] 89)).heap.size)→
      AppAt c.fb W o { t with tried:=p6+1 } w.heap.size A TN ac w5 g5 cap):=Lib.hid fun g5 cap w5 q1 q2 q3=>by
     have e:trkC { t with tried:=p6+1 }=[Value.int .i64 (p1:Nat),.int .i64 p2,.int .i64 p3,.int .i64 p4,.int .i64 p5,.int .i64 (p6+1:Int),.pointer p7]:=by
      obtain⟨y1,y2,y3,y4,y5,y6,y7⟩:=H0.out;unfold trkC;rw[y1,y2,y3,y4,y5,y7];rfl
     rw[←e] at q1;subst hTN hB hcs;rw[←hv] at q2 q3;exact y6o HWW.out hv HNO.out hsz hb2 (by simp) q1 q2 q3
    have HSZ:Hid (B≤(W.drew.alloc (.cells #[Value.int .i64 (p1:Nat),.int .i64 p2,.int .i64 p3,.int .i64 p4,.int .i64 p5,.int .i64 (p6+1:Int),.pointer p7] 89)).heap.size):=Lib.hid (by have:=HWW.out.gt;rw[←HA.out] at this;simp;omega);clear hbox hal hb2 hTN hB hcs hv;go_wp2;rw[show Op.load 83 (.tmp 35)=ldTk from rfl]
    go_region_held3 (fun w'=>w'.cell? ⟨w.heap.size,0,none⟩=some (.int .i64 (p1:Nat))∧w'.cell? ⟨w.heap.size,1,none⟩=some (.int .i64 p2)∧w'.cell? ⟨w.heap.size,2,none⟩=some (.int .i64 p3)∧w'.cell? ⟨w.heap.size,3,none⟩=some (.int .i64 p4)∧w'.cell? ⟨w.heap.size,4,none⟩=some (.int .i64 p5)∧w'.cell? ⟨w.heap.size,5,none⟩=some (.int .i64 (p6+1:Int))∧w'.cell? ⟨w.heap.size,6,none⟩=some (.pointer p7)) (first | exact HS1.out | exact HS2.out | exact hs5 | exact hs6) (first | (refine step_append_lies _ rfl (.tmp 36) (.tmp 38) 83 rfl B 89 i0 (.agg #[.int .i64 0,.int .i64 0,.int .i64 0,.int .i64 0,.int .i64 0,.int .i64 0,.pointer none]) 7 56 Tryd.underlying83 hi0 hz0 hz1 hz2 rfl (by decide) _ _ _ rfl HR2.out ⟨W.heap.size,0,none⟩ 1 1 [Value.int .i64 (p1:Nat),.int .i64 p2,.int .i64 p3,.int .i64 p4,.int .i64 p5,.int .i64 (p6+1:Int),.pointer p7] rfl rfl HN2.out HO.out (by decide) (by unfold maxLen;omega) (by omega) HSZ.out _ rfl ?_;intro g5 cap5 w5 hown hgrow hat hlt5;have HD:=Lib.hid (HT.out g5 cap5 w5 hown hgrow hat);have hf5:=HD.out.f2;have hc5:=HD.out.c2;have hs6:=HS.out _ (HD.out.box2.trans HW.out.2.1);rw[←HA.out] at hf5 hc5 hs6;have hs5:=HS.out w5 (HD.out.box.trans HW.out.2.1);clear hown hgrow hat hlt5) | fail)
    all_goals go_wp2
    all_goals go_meet
    all_goals (refine Lib.hid ⟨.slice (some ⟨g5,0,none⟩) (TN+1) cap5,?_,?_⟩)
    all_goals (first | (rw[HNX.out,if_pos hlt,HA.out];exact HD.out.mt) | (rw[HA.out];exact HD.out.box2.trans HW.out.2.1))
  | false=>
    have hlt:¬ p6+1<L:=by simp at hbl;omega
    go_wp2
    go_meet
    refine Lib.hid ⟨o.tv,?_,HW.out.2.1⟩;rw[HNX.out,if_neg hlt,List.append_nil];exact Mt.refl HWW.out
 case rest=>
  obtain⟨v',hm,hx⟩:=hcut.out;have t0:=z0c hx 0;have t1:=z0c hx 1;have t2:=z0c hx 2;have t3:=z0c hx 3;have t4:=z0c hx 4;have t5:=z0c hx 5;have t6:=z0c hx 6;simp at t0 t1 t2 t3 t4 t5 t6;have ft:=z0m hx;have hnew:¬ ({ o with tv:=v',tr:=o.tr++nx }:WO).own w.heap.size:=fun hb=>(hm.own _ hb).elim HNO.out fun h=>by have:=HW.out.2.2;omega
  have hm2:=(Mt.pre HH.out HW.out.1 hm).box (j:=0) (v:= .int .i64 (q:Nat)) (Nat.le_refl _) hnew
  have HP:Hid (Calls Tryd.prog 29 #[.pointer (some ⟨a,0,none⟩),.agg #[.int .i64 (q:Nat),.int .i64 p2,.int .i64 p3,.int .i64 p4,.int .i64 p5,.int .i64 (p6+1:Int),.pointer p7]] (wc.setCell ⟨w.heap.size,0,none⟩ (.int .i64 (q:Nat))) (fun e w'=>e= .returned (.tuple #[])∧Hid (Q e w'))):=Lib.hid (by
   have h1:=z01 (fb:=c.fb) ⟨atPart t.x q,t.tried+1,t.tl⟩ hm2.at_ (by
    have:=HNK.out.2.2;have hnl:nx.length≤1:=by rw[HNX.out];split <;> simp
    simp;omega)
   have e:trkV ⟨atPart t.x q,t.tried+1,t.tl⟩= .agg #[.int .i64 (q:Nat),.int .i64 p2,.int .i64 p3,.int .i64 p4,.int .i64 p5,.int .i64 (p6+1:Int),.pointer p7]:=by
    obtain⟨y1,y2,y3,y4,y5,y6,y7⟩:=H0.out;unfold trkV atPart;rw[y2,y3,y4,y5,y6,y7];rfl
   rw[e] at h1;rw[HA.out];refine h1.mono fun e w' h=>⟨h.1,Lib.hid ?_⟩
   rw[HQ.out];obtain⟨v2,h2⟩:=h.2.out;refine⟨h.1,Lib.hid ⟨v2,?_⟩⟩;have:=hm2.trans h2;rw[←List.append_assoc];exact this)
  clear hm hx hm2 hnew hcut;go_wp2_with (first | (go_at_call 29;((with_reducible refine(HP.out).mono ?_));rintro _ w' ⟨rfl,hq⟩) | fail)
  go_end0
  exact hq.out
end
section
set_option linter.unusedSimpArgs false
theorem y49 {c:Cx} {w:World} {o:WO} (t:Trk) (nd:Nd) (hfi:FinAt c w) (h:WaysAt c.fb w o) (hl:o.tr.length≤900000000000) (hn:c.T[t.x.part]?=some nd) (hF:Fine nd.r) (hk:nd.r.kind=6) (hlen:nd.kids.length=nd.r.kids.length):
  Calls Tryd.prog 57 #[.pointer (some ⟨o.a,0,none⟩),trkV t] w (PushPost c.fb o ((if apartQ nd.r=true then [{ t.x with done:=2 }] else repN nd t.x 0).map (fresh t.tl)) w):=by
 have hN:t.x.part<c.T.length:=(List.getElem?_eq_some_iff.mp hn).1;obtain⟨R,rc,K,kc,hat,hin⟩:=hfi.parts.2 _ _ hn;have a13:=hat.2.2.2.2.2.2.2.2.2.2.2.2.2;have c0:w.cell? ⟨o.a,0,none⟩=some (.pointer (some ⟨c.fb,0,none⟩)):=(z0c h.box 0).trans rfl;have d0:w.cell? ⟨c.fb,0,none⟩=some (.slice (some ⟨c.pb,0,none⟩) c.T.length c.pc):=(z0c hfi.box 0).trans rfl;have lb:∀ {b j:Nat} {v:Value},w.cell? ⟨b,j,none⟩=some v→∀ o',(w.alloc o').cell? ⟨b,j,none⟩=some v:=fun {b j v} e o'=>((z0b w o').cell (p:=⟨b,j,none⟩) (World.block_lt_of_cell? w _ e)).trans e
 obtain⟨p1,h1⟩:∃ x:Nat,x=t.x.part:=⟨_,rfl⟩;obtain⟨p2,h2⟩:∃ x:Int,x=(t.x.done:Nat):=⟨_,rfl⟩;obtain⟨p3,h3⟩:∃ x:Nat,x=t.x.place:=⟨_,rfl⟩;obtain⟨p4,h4⟩:∃ x:Int,x=t.x.mover:=⟨_,rfl⟩;obtain⟨p5,h5⟩:∃ x:Int,x=(t.x.count:Nat):=⟨_,rfl⟩;obtain⟨p6,h6⟩:∃ x:Int,x=(t.tried:Nat):=⟨_,rfl⟩;obtain⟨p7,h7⟩:∃ x,Value.pointer x=pv t.tl:=⟨_,rfl⟩;have H0:=Lib.hid (And.intro h1 (And.intro h2 (And.intro h3 (And.intro h4 (And.intro h5 (And.intro h6 h7))))));obtain⟨Q,hQ⟩:∃ Q,Q=PushPost c.fb o ((if apartQ nd.r=true then [{ t.x with done:=2 }] else repN nd t.x 0).map (fresh t.tl)) w:=⟨_,rfl⟩;rw[←hQ];unfold trkV;rw[←h1,←h2,←h3,←h4,←h5,←h6,←h7];rw[←h1] at hN;obtain⟨N,hNN⟩:∃ N,N=c.T.length:=⟨_,rfl⟩;rw[←hNN] at d0 hN;clear hNN;obtain⟨a,ha⟩:∃ a,a=o.a:=⟨_,rfl⟩;rw[←ha] at c0 ⊢;have HA:=Lib.hid ha;have c0':=lb c0;have d0':=lb d0;have HQ:=Lib.hid hQ;have HFI:=Lib.hid hfi;have HH:=Lib.hid h;rw[←h1] at a13;have a13':=lb a13;have HNK:=Lib.hid (And.intro hn (And.intro hF (And.intro hk (And.intro hlen hl))));obtain⟨ap,hap⟩:∃ ap,ap=apartQ nd.r:=⟨_,rfl⟩;rw[←hap] at a13';have HAP:=Lib.hid hap;clear hap a13 h1 h2 h3 h4 h5 h6 h7 hQ hfi h hat hin lb hn hF hk hlen hl c0 d0 ha;go_enter Tryd.func57,Tryd.ntmps57;go_wp2
 cases ap with
 | false=>
   go_quiet (fail)
   rename_i hK
   refine hK _ _ ?_;clear hK;obtain⟨W,hW⟩:∃ W,W=((w.alloc (.cells #[.int .i64 (p1:Nat),.int .i64 p2,.int .i64 (p3:Nat),.int .i64 p4,.int .i64 p5,.int .i64 p6,.pointer p7] 89)).drewN nq):=⟨_,rfl⟩;have hb:Below w.heap.size w W:=by rw[hW];exact(z0b w _).trans ⟨rfl,rfl,rfl,Nat.le_refl _,fun _ _=>rfl⟩
   have hbx:W.heap[w.heap.size]?=some (.cells #[.int .i64 (p1:Nat),.int .i64 p2,.int .i64 (p3:Nat),.int .i64 p4,.int .i64 p5,.int .i64 p6,.pointer p7] 89):=by rw[hW];exact heap_alloc_new w _
   rw[←hW];have t0:=z0c hbx 0;have t1:=z0c hbx 1;have t2:=z0c hbx 2;have t3:=z0c hbx 3;have t4:=z0c hbx 4;have t5:=z0c hbx 5;have t6:=z0c hbx 6;simp at t0 t1 t2 t3 t4 t5 t6
   have HC:Hid (Calls Tryd.prog 63 #[.pointer (some ⟨a,0,none⟩),.agg #[.int .i64 (p1:Nat),.int .i64 p2,.int .i64 (p3:Nat),.int .i64 p4,.int .i64 p5,.int .i64 p6,.pointer p7],.int .i64 0] W (fun e w'=>e= .returned (.tuple #[])∧Hid (Q e w'))):=Lib.hid (by
    have h1:=z7n t 0 nd (HFI.out.next hb) (HH.out.next hb) HNK.out.2.2.2.2 HNK.out.1 HNK.out.2.1 HNK.out.2.2.1 HNK.out.2.2.2.1
    have e:trkV t= .agg #[.int .i64 (p1:Nat),.int .i64 p2,.int .i64 (p3:Nat),.int .i64 p4,.int .i64 p5,.int .i64 p6,.pointer p7]:=by
     obtain⟨y1,y2,y3,y4,y5,y6,y7⟩:=H0.out;unfold trkV;rw[y1,y2,y3,y4,y5,y6,y7]
    rw[HA.out];rw[e] at h1;refine h1.mono fun e w' h=>⟨h.1,Lib.hid ?_⟩
    rw[HQ.out,←HAP.out];obtain⟨v2,h2⟩:=h.2.out;exact⟨h.1,Lib.hid ⟨v2,Mt.pre HH.out hb h2⟩⟩)
   clear hb hbx hW;go_wp2_with (first | (go_at_call 63;((with_reducible refine(HC.out).mono ?_));rintro _ w' ⟨rfl,hq⟩) | fail)
   go_end0
   exact hq.out
 | true=>
   go_quiet (fail)
   rename_i hK
   refine hK _ _ ?_;clear hK;obtain⟨W,hW⟩:∃ W,W=((w.alloc (.cells #[.int .i64 (p1:Nat),.int .i64 p2,.int .i64 (p3:Nat),.int .i64 p4,.int .i64 p5,.int .i64 p6,.pointer p7] 89)).drewN nq):=⟨_,rfl⟩;have hb:Below w.heap.size w W:=by rw[hW];exact(z0b w _).trans ⟨rfl,rfl,rfl,Nat.le_refl _,fun _ _=>rfl⟩
   have hbx:W.heap[w.heap.size]?=some (.cells #[.int .i64 (p1:Nat),.int .i64 p2,.int .i64 (p3:Nat),.int .i64 p4,.int .i64 p5,.int .i64 p6,.pointer p7] 89):=by rw[hW];exact heap_alloc_new w _
   rw[←hW];have t0:=z0c hbx 0;have t1:=z0c hbx 1;have t2:=z0c hbx 2;have t3:=z0c hbx 3;have t4:=z0c hbx 4;have t5:=z0c hbx 5;have t6:=z0c hbx 6;simp at t0 t1 t2 t3 t4 t5 t6;have ft:=z0m hbx
   have HC:Hid (Calls Tryd.prog 29 #[.pointer (some ⟨a,0,none⟩),.agg #[.int .i64 (p1:Nat),.int .i64 2,.int .i64 (p3:Nat),.int .i64 p4,.int .i64 p5,.int .i64 p6,.pointer p7]] (W.setCell ⟨w.heap.size,1,none⟩ (.int .i64 2)) (fun e w'=>e= .returned (.tuple #[])∧Hid (Q e w'))):=Lib.hid (by
    have hb2:Below w.heap.size w (W.setCell ⟨w.heap.size,1,none⟩ (.int .i64 2)):=hb.setCell (p:=⟨w.heap.size,1,none⟩) (Nat.le_refl _) _;have h1:=z01 (fb:=c.fb) ⟨{ t.x with done:=2 },t.tried,t.tl⟩ (HH.out.next hb2) (by have:=HNK.out.2.2.2.2;omega)
    have e:trkV ⟨{ t.x with done:=2 },t.tried,t.tl⟩= .agg #[.int .i64 (p1:Nat),.int .i64 2,.int .i64 (p3:Nat),.int .i64 p4,.int .i64 p5,.int .i64 p6,.pointer p7]:=by
     obtain⟨y1,y2,y3,y4,y5,y6,y7⟩:=H0.out;unfold trkV;rw[y1,y3,y4,y5,y6,y7];rfl
    rw[HA.out];rw[e] at h1;refine h1.mono fun e w' h=>⟨h.1,Lib.hid ?_⟩
    rw[HQ.out,←HAP.out];obtain⟨v2,h2⟩:=h.2.out;exact⟨h.1,Lib.hid ⟨v2,Mt.pre HH.out hb2 h2⟩⟩)
   clear hb hbx hW;go_wp2_with (first | (go_at_call 29;((with_reducible refine(HC.out).mono ?_));rintro _ w' ⟨rfl,hq⟩) | fail)
   go_end0
   exact hq.out
end
section
set_option linter.unusedSimpArgs false
set_option linter.unusedVariables false
def EntPost (c:Cx) (o:WO) (t:Trk) (r:List Spo × Lab) (w:World) (e:Ending) (w':World):Prop:=
 e= .returned (.tuple #[])∧Hid (∃ v' tl',Mt c.fb o w { o with tv:=v',tr:=o.tr++r.1.map (fresh tl') } w'∧∀ l,TrailP w t.tl l→TrailP w' tl' (r.2.put t.x.place l))
theorem z09 {c:Cx} {o:WO} {t:Trk} {r:List Spo × Lab} {w U w':World} {e:Ending} (h:WaysAt c.fb w o) (hb:Below w.heap.size w U) (hr:r.2= .keep) (hp:PushPost c.fb o (r.1.map (fresh t.tl)) U e w'):EntPost c o t r w e w':=by
 obtain⟨h1,h2⟩:=hp;obtain⟨v',hm⟩:=h2.out;have hm2:=Mt.pre h hb hm;exact⟨h1,Lib.hid ⟨v',t.tl,hm2,fun l hl=>by rw[hr];exact hl.keep hm2.fr h.noMark⟩⟩
theorem z4z {c:Cx} {o:WO} {t:Trk} {r:List Spo × Lab} {w U:World} (h:WaysAt c.fb w o) (hb:Below w.heap.size w U) (h1:r.1=[]) (hr:r.2= .keep):EntPost c o t r w (.returned (.tuple #[])) U:=by
 have hm:=Mt.of_below h hb;refine⟨rfl,Lib.hid ⟨o.tv,t.tl,?_,fun l hl=>by rw[hr];exact hl.keep hm.fr h.noMark⟩⟩;rw[h1];simpa using hm
theorem x29 {c:Cx} {w:World} {o:WO} (t:Trk) (nd:Nd) (hfi:FinAt c w) (h:WaysAt c.fb w o) (hl:o.tr.length≤900000000000) (hn:c.T[t.x.part]?=some nd) (hk:nd.r.kind=4) {q:Nat} (hq:nd.kids[0]?=some q) (hkl:nd.kids.length≤1000000):
  Calls Tryd.prog 41 #[.pointer (some ⟨o.a,0,none⟩),trkV t] w (EntPost c o t (entN c.s.data.toList c.lim nd t.x) w):=by
 obtain⟨R,rc,K,kc,hat,hin⟩:=hfi.parts.2 _ _ hn;obtain⟨g,rfl,hg1,hg2⟩:=hin _ _ hq;have a9:=hat.2.2.2.2.2.2.2.2.2.1;have hj:0<nd.kids.length:=(List.getElem?_eq_some_iff.mp hq).1;obtain⟨L,hL⟩:∃ L,L=nd.kids.length:=⟨_,rfl⟩;rw[←hL] at a9 hj hkl;clear hL
 have HE:Hid (entN c.s.data.toList c.lim nd t.x=([atPart t.x q],.keep)):=Lib.hid (by
  rw[ent_4 hk]
  have:nd.kids.headD 0=q:=by
   cases hh:nd.kids with
   | nil=>rw[hh] at hq;simp at hq
   | cons z l=>rw[hh] at hq;simp at hq;subst hq;rfl
  rw[this];rfl)
 have hN:t.x.part<c.T.length:=(List.getElem?_eq_some_iff.mp hn).1;have a0:=hat.1;have c0:w.cell? ⟨o.a,0,none⟩=some (.pointer (some ⟨c.fb,0,none⟩)):=(z0c h.box 0).trans rfl;have d0:w.cell? ⟨c.fb,0,none⟩=some (.slice (some ⟨c.pb,0,none⟩) c.T.length c.pc):=(z0c hfi.box 0).trans rfl;have lb:∀ {b j:Nat} {v:Value},w.cell? ⟨b,j,none⟩=some v→∀ o',(w.alloc o').cell? ⟨b,j,none⟩=some v:=fun {b j v} e o'=>((z0b w o').cell (p:=⟨b,j,none⟩) (World.block_lt_of_cell? w _ e)).trans e
 obtain⟨p1,h1⟩:∃ x:Nat,x=t.x.part:=⟨_,rfl⟩;obtain⟨p2,h2⟩:∃ x:Int,x=(t.x.done:Nat):=⟨_,rfl⟩;obtain⟨p3,h3⟩:∃ x:Nat,x=t.x.place:=⟨_,rfl⟩;obtain⟨p4,h4⟩:∃ x:Int,x=t.x.mover:=⟨_,rfl⟩;obtain⟨p5,h5⟩:∃ x:Int,x=(t.x.count:Nat):=⟨_,rfl⟩;obtain⟨p6,h6⟩:∃ x:Int,x=(t.tried:Nat):=⟨_,rfl⟩;obtain⟨p7,h7⟩:∃ x,Value.pointer x=pv t.tl:=⟨_,rfl⟩;have H0:=Lib.hid (And.intro h1 (And.intro h2 (And.intro h3 (And.intro h4 (And.intro h5 (And.intro h6 h7))))));obtain⟨Q,hQ⟩:∃ Q,Q=EntPost c o t (entN c.s.data.toList c.lim nd t.x) w:=⟨_,rfl⟩;rw[←hQ];unfold trkV;rw[←h1,←h2,←h3,←h4,←h5,←h6,←h7];rw[←h1] at hN;obtain⟨N,hNN⟩:∃ N,N=c.T.length:=⟨_,rfl⟩;rw[←hNN] at d0 hN;clear hNN;obtain⟨a,ha⟩:∃ a,a=o.a:=⟨_,rfl⟩;rw[←ha] at c0 ⊢;have HA:=Lib.hid ha;have c0':=lb c0;have d0':=lb d0;have HQ:=Lib.hid hQ;have HFI:=Lib.hid hfi;have HH:=Lib.hid h;rw[←h1] at a0 a9;rw[hk] at a0;have HAT:=Lib.hid hat;have HNK:=Lib.hid (And.intro hn hl);clear h1 h2 h3 h4 h5 h6 h7 hQ hat hin hn hl ha hg1 hq hk;go_enter Tryd.func41,Tryd.ntmps41;go_wp2;go_quiet (fail)
 rename_i hK
 refine hK _ _ ?_;clear hK;obtain⟨W,hW⟩:∃ W,W=((w.alloc (.cells #[.int .i64 (p1:Nat),.int .i64 p2,.int .i64 (p3:Nat),.int .i64 p4,.int .i64 p5,.int .i64 p6,.pointer p7] 89)).drewN nq):=⟨_,rfl⟩;have hb:Below w.heap.size w W:=by rw[hW];exact(z0b w _).trans ⟨rfl,rfl,rfl,Nat.le_refl _,fun _ _=>rfl⟩
 have hbx:W.heap[w.heap.size]?=some (.cells #[.int .i64 (p1:Nat),.int .i64 p2,.int .i64 (p3:Nat),.int .i64 p4,.int .i64 p5,.int .i64 p6,.pointer p7] 89):=by rw[hW];exact heap_alloc_new w _
 rw[←hW];have hold:∀ {b j:Nat} {v:Value},w.cell? ⟨b,j,none⟩=some v→W.cell? ⟨b,j,none⟩=some v:=fun {b j v} e=>(hb.cell (p:=⟨b,j,none⟩) (World.block_lt_of_cell? w _ e)).trans e
 have t0:=z0c hbx 0;have t1:=z0c hbx 1;have t2:=z0c hbx 2;have t3:=z0c hbx 3;have t4:=z0c hbx 4;have t5:=z0c hbx 5;have t6:=z0c hbx 6;simp at t0 t1 t2 t3 t4 t5 t6;have ft:=z0m hbx;have x0:=hold a0;have xc0:=hold c0;have xd0:=hold d0;have x9:=hold a9;have xg:=hold hg2;clear a0 a9 hg2 c0 d0 c0' d0' hold lb
 have HC:Hid (Calls Tryd.prog 29 #[.pointer (some ⟨a,0,none⟩),.agg #[.int .i64 (q:Nat),.int .i64 p2,.int .i64 (p3:Nat),.int .i64 p4,.int .i64 p5,.int .i64 p6,.pointer p7]] (W.setCell ⟨w.heap.size,0,none⟩ (.int .i64 (q:Nat))) (fun e w'=>e= .returned (.tuple #[])∧Hid (Q e w'))):=Lib.hid (by
  have hb2:Below w.heap.size w (W.setCell ⟨w.heap.size,0,none⟩ (.int .i64 (q:Nat))):=hb.setCell (p:=⟨w.heap.size,0,none⟩) (Nat.le_refl _) _;have h1:=z01 (fb:=c.fb) ⟨atPart t.x q,t.tried,t.tl⟩ (HH.out.next hb2) (by have:=HNK.out.2;omega)
  have e:trkV ⟨atPart t.x q,t.tried,t.tl⟩= .agg #[.int .i64 (q:Nat),.int .i64 p2,.int .i64 (p3:Nat),.int .i64 p4,.int .i64 p5,.int .i64 p6,.pointer p7]:=by
   obtain⟨y1,y2,y3,y4,y5,y6,y7⟩:=H0.out;unfold trkV;rw[atPart,y2,y3,y4,y5,y6,y7];try rfl
  rw[HA.out];rw[e] at h1;refine h1.mono fun e w' h=>⟨h.1,Lib.hid ?_⟩
  rw[HQ.out];exact z09 HH.out hb2 (by rw[HE.out]) (by rw[HE.out];exact h))
 clear hb hbx hW;go_wp2_with (first | (go_at_call 29;((with_reducible refine(HC.out).mono ?_));rintro _ w' ⟨rfl,hq⟩) | fail)
 go_end0
 exact hq.out
theorem x3d {c:Cx} {w:World} {o:WO} (t:Trk) (nd:Nd) (hfi:FinAt c w) (h:WaysAt c.fb w o) (hl:o.tr.length≤900000000000) (hn:c.T[t.x.part]?=some nd) (hk:nd.r.kind=5) {q:Nat} (hkl:nd.kids.length≤1000000) (hq:nd.kids[t.tried]?=some q):
  Calls Tryd.prog 41 #[.pointer (some ⟨o.a,0,none⟩),trkV t] w (PushPost c.fb o ((if t.tried+1<nd.kids.length then [{ t with tried:=t.tried+1 }] else [])++[fresh t.tl (atPart t.x q)]) w):=by
 have hN:t.x.part<c.T.length:=(List.getElem?_eq_some_iff.mp hn).1;obtain⟨R,rc,K,kc,hat,hin⟩:=hfi.parts.2 _ _ hn;have a0:=hat.1;have c0:w.cell? ⟨o.a,0,none⟩=some (.pointer (some ⟨c.fb,0,none⟩)):=(z0c h.box 0).trans rfl;have d0:w.cell? ⟨c.fb,0,none⟩=some (.slice (some ⟨c.pb,0,none⟩) c.T.length c.pc):=(z0c hfi.box 0).trans rfl;have lb:∀ {b j:Nat} {v:Value},w.cell? ⟨b,j,none⟩=some v→∀ o',(w.alloc o').cell? ⟨b,j,none⟩=some v:=fun {b j v} e o'=>((z0b w o').cell (p:=⟨b,j,none⟩) (World.block_lt_of_cell? w _ e)).trans e
 obtain⟨p1,h1⟩:∃ x:Nat,x=t.x.part:=⟨_,rfl⟩;obtain⟨p2,h2⟩:∃ x:Int,x=(t.x.done:Nat):=⟨_,rfl⟩;obtain⟨p3,h3⟩:∃ x:Nat,x=t.x.place:=⟨_,rfl⟩;obtain⟨p4,h4⟩:∃ x:Int,x=t.x.mover:=⟨_,rfl⟩;obtain⟨p5,h5⟩:∃ x:Int,x=(t.x.count:Nat):=⟨_,rfl⟩;obtain⟨p6,h6⟩:∃ x:Int,x=(t.tried:Nat):=⟨_,rfl⟩;obtain⟨p7,h7⟩:∃ x,Value.pointer x=pv t.tl:=⟨_,rfl⟩;have H0:=Lib.hid (And.intro h1 (And.intro h2 (And.intro h3 (And.intro h4 (And.intro h5 (And.intro h6 h7))))));obtain⟨Q,hQ⟩:∃ Q,Q=PushPost c.fb o ((if t.tried+1<nd.kids.length then [{ t with tried:=t.tried+1 }] else [])++[fresh t.tl (atPart t.x q)]) w:=⟨_,rfl⟩;rw[←hQ];unfold trkV;rw[←h1,←h2,←h3,←h4,←h5,←h6,←h7];rw[←h1] at hN;obtain⟨N,hNN⟩:∃ N,N=c.T.length:=⟨_,rfl⟩;rw[←hNN] at d0 hN;clear hNN;obtain⟨a,ha⟩:∃ a,a=o.a:=⟨_,rfl⟩;rw[←ha] at c0 ⊢;have HA:=Lib.hid ha;have c0':=lb c0;have d0':=lb d0;have HQ:=Lib.hid hQ;have HFI:=Lib.hid hfi;have HH:=Lib.hid h;rw[←h1] at a0;rw[hk] at a0;have HAT:=Lib.hid hat;have HNK:=Lib.hid (And.intro hn hl);clear h1 h2 h3 h4 h5 h6 h7 hQ hat hin hn hl ha hk;go_enter Tryd.func41,Tryd.ntmps41;go_wp2;go_quiet (fail)
 rename_i hK
 refine hK _ _ ?_;clear hK;obtain⟨W,hW⟩:∃ W,W=((w.alloc (.cells #[.int .i64 (p1:Nat),.int .i64 p2,.int .i64 (p3:Nat),.int .i64 p4,.int .i64 p5,.int .i64 p6,.pointer p7] 89)).drewN nq):=⟨_,rfl⟩;have hb:Below w.heap.size w W:=by rw[hW];exact(z0b w _).trans ⟨rfl,rfl,rfl,Nat.le_refl _,fun _ _=>rfl⟩
 have hbx:W.heap[w.heap.size]?=some (.cells #[.int .i64 (p1:Nat),.int .i64 p2,.int .i64 (p3:Nat),.int .i64 p4,.int .i64 p5,.int .i64 p6,.pointer p7] 89):=by rw[hW];exact heap_alloc_new w _
 rw[←hW];have hold:∀ {b j:Nat} {v:Value},w.cell? ⟨b,j,none⟩=some v→W.cell? ⟨b,j,none⟩=some v:=fun {b j v} e=>(hb.cell (p:=⟨b,j,none⟩) (World.block_lt_of_cell? w _ e)).trans e
 have t0:=z0c hbx 0;have t1:=z0c hbx 1;have t2:=z0c hbx 2;have t3:=z0c hbx 3;have t4:=z0c hbx 4;have t5:=z0c hbx 5;have t6:=z0c hbx 6;simp at t0 t1 t2 t3 t4 t5 t6;have ft:=z0m hbx;have x0:=hold a0;have xc0:=hold c0;have xd0:=hold d0;clear a0 c0 d0 c0' d0' hold lb
 have HC:Hid (Calls Tryd.prog 55 #[.pointer (some ⟨a,0,none⟩),.agg #[.int .i64 (p1:Nat),.int .i64 p2,.int .i64 (p3:Nat),.int .i64 p4,.int .i64 p5,.int .i64 p6,.pointer p7]] W (fun e w'=>e= .returned (.tuple #[])∧Hid (Q e w'))):=Lib.hid (by
  have h1:=y33 t q nd (HFI.out.next hb) (HH.out.next hb) HNK.out.2 HNK.out.1 hkl hq
  have e:trkV t= .agg #[.int .i64 (p1:Nat),.int .i64 p2,.int .i64 (p3:Nat),.int .i64 p4,.int .i64 p5,.int .i64 p6,.pointer p7]:=by
   obtain⟨y1,y2,y3,y4,y5,y6,y7⟩:=H0.out;unfold trkV;rw[y1,y2,y3,y4,y5,y6,y7]
  rw[HA.out];rw[e] at h1;refine h1.mono fun e w' h=>⟨h.1,Lib.hid ?_⟩
  rw[HQ.out];obtain⟨v2,h2⟩:=h.2.out;exact⟨h.1,Lib.hid ⟨v2,Mt.pre HH.out hb h2⟩⟩)
 clear hb hbx hW hq hkl;go_wp2_with (first | (go_at_call 55;((with_reducible refine(HC.out).mono ?_));rintro _ w' ⟨rfl,hq⟩) | fail)
 go_end0
 exact hq.out
theorem x3u {c:Cx} {w:World} {o:WO} (t:Trk) (nd:Nd) (hfi:FinAt c w) (h:WaysAt c.fb w o) (hl:o.tr.length≤900000000000) (hn:c.T[t.x.part]?=some nd) (hk:nd.r.kind=6) (hF:Fine nd.r) (hlen:nd.kids.length=nd.r.kids.length):
  Calls Tryd.prog 41 #[.pointer (some ⟨o.a,0,none⟩),trkV t] w (EntPost c o t (entN c.s.data.toList c.lim nd t.x) w):=by
 have HE:Hid (entN c.s.data.toList c.lim nd t.x=(if apartQ nd.r=true then [{ t.x with done:=2 }] else repN nd t.x 0,.keep)):=Lib.hid (ent_6 hk);have hN:t.x.part<c.T.length:=(List.getElem?_eq_some_iff.mp hn).1;obtain⟨R,rc,K,kc,hat,hin⟩:=hfi.parts.2 _ _ hn;have a0:=hat.1;have c0:w.cell? ⟨o.a,0,none⟩=some (.pointer (some ⟨c.fb,0,none⟩)):=(z0c h.box 0).trans rfl;have d0:w.cell? ⟨c.fb,0,none⟩=some (.slice (some ⟨c.pb,0,none⟩) c.T.length c.pc):=(z0c hfi.box 0).trans rfl;have lb:∀ {b j:Nat} {v:Value},w.cell? ⟨b,j,none⟩=some v→∀ o',(w.alloc o').cell? ⟨b,j,none⟩=some v:=fun {b j v} e o'=>((z0b w o').cell (p:=⟨b,j,none⟩) (World.block_lt_of_cell? w _ e)).trans e
 obtain⟨p1,h1⟩:∃ x:Nat,x=t.x.part:=⟨_,rfl⟩;obtain⟨p2,h2⟩:∃ x:Int,x=(t.x.done:Nat):=⟨_,rfl⟩;obtain⟨p3,h3⟩:∃ x:Nat,x=t.x.place:=⟨_,rfl⟩;obtain⟨p4,h4⟩:∃ x:Int,x=t.x.mover:=⟨_,rfl⟩;obtain⟨p5,h5⟩:∃ x:Int,x=(t.x.count:Nat):=⟨_,rfl⟩;obtain⟨p6,h6⟩:∃ x:Int,x=(t.tried:Nat):=⟨_,rfl⟩;obtain⟨p7,h7⟩:∃ x,Value.pointer x=pv t.tl:=⟨_,rfl⟩;have H0:=Lib.hid (And.intro h1 (And.intro h2 (And.intro h3 (And.intro h4 (And.intro h5 (And.intro h6 h7))))));obtain⟨Q,hQ⟩:∃ Q,Q=EntPost c o t (entN c.s.data.toList c.lim nd t.x) w:=⟨_,rfl⟩;rw[←hQ];unfold trkV;rw[←h1,←h2,←h3,←h4,←h5,←h6,←h7];rw[←h1] at hN;obtain⟨N,hNN⟩:∃ N,N=c.T.length:=⟨_,rfl⟩;rw[←hNN] at d0 hN;clear hNN;obtain⟨a,ha⟩:∃ a,a=o.a:=⟨_,rfl⟩;rw[←ha] at c0 ⊢;have HA:=Lib.hid ha;have c0':=lb c0;have d0':=lb d0;have HQ:=Lib.hid hQ;have HFI:=Lib.hid hfi;have HH:=Lib.hid h;rw[←h1] at a0;rw[hk] at a0;have HAT:=Lib.hid hat;have HNK:=Lib.hid (And.intro hn hl);have HK6:=Lib.hid (And.intro hk (And.intro hF hlen));clear h1 h2 h3 h4 h5 h6 h7 hQ hat hin hn hl ha hk hF hlen;go_enter Tryd.func41,Tryd.ntmps41;go_wp2;go_quiet (fail)
 rename_i hK
 refine hK _ _ ?_;clear hK;obtain⟨W,hW⟩:∃ W,W=((w.alloc (.cells #[.int .i64 (p1:Nat),.int .i64 p2,.int .i64 (p3:Nat),.int .i64 p4,.int .i64 p5,.int .i64 p6,.pointer p7] 89)).drewN nq):=⟨_,rfl⟩;have hb:Below w.heap.size w W:=by rw[hW];exact(z0b w _).trans ⟨rfl,rfl,rfl,Nat.le_refl _,fun _ _=>rfl⟩
 have hbx:W.heap[w.heap.size]?=some (.cells #[.int .i64 (p1:Nat),.int .i64 p2,.int .i64 (p3:Nat),.int .i64 p4,.int .i64 p5,.int .i64 p6,.pointer p7] 89):=by rw[hW];exact heap_alloc_new w _
 rw[←hW];have hold:∀ {b j:Nat} {v:Value},w.cell? ⟨b,j,none⟩=some v→W.cell? ⟨b,j,none⟩=some v:=fun {b j v} e=>(hb.cell (p:=⟨b,j,none⟩) (World.block_lt_of_cell? w _ e)).trans e
 have t0:=z0c hbx 0;have t1:=z0c hbx 1;have t2:=z0c hbx 2;have t3:=z0c hbx 3;have t4:=z0c hbx 4;have t5:=z0c hbx 5;have t6:=z0c hbx 6;simp at t0 t1 t2 t3 t4 t5 t6;have ft:=z0m hbx;have x0:=hold a0;have xc0:=hold c0;have xd0:=hold d0;clear a0 c0 d0 c0' d0' hold lb
 have HC:Hid (Calls Tryd.prog 57 #[.pointer (some ⟨a,0,none⟩),.agg #[.int .i64 (p1:Nat),.int .i64 p2,.int .i64 (p3:Nat),.int .i64 p4,.int .i64 p5,.int .i64 p6,.pointer p7]] W (fun e w'=>e= .returned (.tuple #[])∧Hid (Q e w'))):=Lib.hid (by
  have h1:=y49 t nd (HFI.out.next hb) (HH.out.next hb) HNK.out.2 HNK.out.1 HK6.out.2.1 HK6.out.1 HK6.out.2.2
  have e:trkV t= .agg #[.int .i64 (p1:Nat),.int .i64 p2,.int .i64 (p3:Nat),.int .i64 p4,.int .i64 p5,.int .i64 p6,.pointer p7]:=by
   obtain⟨y1,y2,y3,y4,y5,y6,y7⟩:=H0.out;unfold trkV;rw[y1,y2,y3,y4,y5,y6,y7]
  rw[HA.out];rw[e] at h1;refine h1.mono fun e w' h=>⟨h.1,Lib.hid ?_⟩
  rw[HQ.out];exact z09 HH.out hb (by rw[HE.out]) (by rw[HE.out];exact h))
 clear hb hbx hW;go_wp2_with (first | (go_at_call 57;((with_reducible refine(HC.out).mono ?_));rintro _ w' ⟨rfl,hq⟩) | fail)
 go_end0
 exact hq.out
end
end Go.Proofs.YtejgbpbljdhndaaDoor
