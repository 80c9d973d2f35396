import Derived.Test.YtngfihoempcplaaGreatDoorCf
import Derived.Test.YtngfihoempcplaaGreatDoorSc22
import Derived.Deep.Slices
import Derived.Deep.LoopGhost
namespace Go.Proofs.YtngfihoempcplaaGreatDoor
open Go Go.RowKit
set_option maxRecDepth 100000
set_option maxHeartbeats 8000000
theorem z1a {α β:Type} {R:Rz α} {f:α→Nat→Rz β} {g:Nat→Rz β} (h:∀ y j,R= .ok y j→f y j=g j):R.then f=gate R.err R.at g:=by
 cases R with
 | ok y j=>exact h y j rfl
 | bad j d=>cases d <;> rfl
def RuS (b:Nat) (w:World) (A:OA) (n c:Nat) (l:List Tok) (R:Rz Ru) (e:Ending) (w':World):Prop:=
 ∃ (r:Ru) (A':OA) (c':Nat),e= .returned (valR r A' c')∧StepS b w A n c l R.at R.err w'∧(∀ y j,R= .ok y j→y=r)∧(R.err=0→KidR (NwX b w.heap.size w'.heap.size) w' A' r)
theorem z6k {b:Nat} {w w':World} {A:OA} {n c:Nat} {l:List Tok} {pl:Int} {Q:Int→Int→Int→Bs→Prop} {R3:Rz (List Cm)} {R:Rz Ru} {e:Ending} (hR:∀ kd q pk pt,Q kd q pk pt→R=R3.then fun b m=> .ok (.mk kd q pk pt b pl) m) (h:RulP b w A n c l pl Q R3 e w'):RuS b w A n c l R e w':=by
 obtain⟨kd,q,pk,pt,A',xs,c',rfl,hs,hq,hx,hr⟩:=h;have hm:=z33 hx (fun b=>Ru.mk kd q pk pt b pl);rw[hR _ _ _ _ hq];refine⟨.mk kd q pk pt xs pl,A',c',rfl,by rw[hm.1,hm.2.1];exact hs,fun y j hy=>(hm.2.2 y j hy).1,fun h0=>?_⟩;rw[hm.2.1] at h0;exact z2j.2 (hr h0)
theorem y46 {l:List Tok} {told:Bool} {k o:Nat} (h:(nxo l k o).kind=5):gate o k (headF l told)=(gate o k (patF l)).then fun p j=> .ok (1,p.1,p.2) j:=by
 have ho:o=0:=by
  by_cases ho:o=0
  ·exact ho
  ·unfold nxo at h;rw[if_neg ho] at h;cases h
 subst ho;rw[z0f,z0f];exact if_pos h
theorem y1s {l:List Tok} {told:Bool} {k o:Nat} (h:¬ (nxo l k o).kind=5):gate o k (headF l told)=(gate o k (rwordF l told)).then fun x j=> .ok (x,0,[]) j:=by
 by_cases ho:o=0
 ·subst ho
  rw[z0f,z0f];exact if_neg h
 ·unfold gate;rw[if_neg ho,if_neg ho];rfl
theorem x0i (b:Nat) (A:OA) (n c:Nat) (l:List Tok) (blk:Nat→Nat→Rz (List Cm)) (k0:Nat) (HB:BlkC b A n c l blk k0) (d k o:Nat) (w:World) (hk:o=0→k0≤k∧d≤16) (hd:d≤99) (h:RdS b w A n c l k o):
  Cz 104 #[pP b,d] w (RuS b w A n c l (gate o k (ruleF l blk d))):=by
 have hlen:=h.len;have hkn:k≤l.length:=by have:=h.le;omega
 have KN:=nextC b A n c l k o;have blo:∀ {k2 o2:Nat},(o2=0→k0≤k2∧d≤16)→BloC b A n c l d k2 o2 (gate o2 k2 (blk d)):=fun {k2 o2} hz=>zz fun w' h'=>HB d k2 o2 w' hz hd h'
 cases hv:isO l 5 [105] k o with
 | true=>
   obtain⟨rfl,ht⟩:=z16 (by decide) hv;have KT:=z4n (b:=b) (A:=A) (n:=n) (c:=c) (W:=⟨#[105]⟩) (by decide) hv;have KK:=kindC b A n c l 2 (k+1) 0 (by decide) (z0f _ _);have hin:=z5d (l:=l) (kd:=2) (k:=k+1) (by decide) (z1q ht (by decide))
   have eR:∀ q,(∀ y j,kindF l 2 (k+1)= .ok y j→y.n=q)→gate 0 k (ruleF l blk d)=(gate (kindF l 2 (k+1)).err (kindF l 2 (k+1)).at (headF l true)).then fun h j=>(blk d j).then fun b m=> .ok (.mk h.1 q h.2.1 h.2.2 b (nxo l k 0).pl) m:=fun q hq=>by
    rw[←z1k,z0f];have e1:peerF l k=(kindF l 2 (k+1)).then fun t j=> .ok t.n j:=if_pos ht
    have e2:isT l 5 [105] k=true:=ht;unfold ruleF;rw[e1,e2,Rz.then_assoc];exact z1a fun y j hy=>by rw[←hq y j hy];rfl
   generalize hR1:kindF l 2 (k+1)=R1 at KK eR hin;by_cases hf:(nxo l R1.at R1.err).kind=5
   ·have KP:PatC b A n c l R1.at R1.err (gate R1.err R1.at (patF l)):=zz fun w' h'=>y5g b w' A n c l _ _ h'
    have hz:(gate R1.err R1.at (patF l)).err=0→k0≤(gate R1.err R1.at (patF l)).at∧d≤16:=fun he=>by
     obtain⟨e1,p,e2⟩:=z0w R1.err_cases he;have hk':=hk rfl
     cases R1 with
     | bad j dd=>cases dd <;> cases e1
     | ok t j=>
       have h1:=hin.1;have h2:=z0r (y3a hin.2) e2;exact⟨by have:=h2.1;omega,hk'.2⟩
    refine(x00 b w A n c l d k 0 h _ _ _ R1 _ KN KT KK (nextC b A n c l R1.at R1.err) hf KP (blo hz)).mono fun e w' hh=>z6k (fun kd q pk pt hQ=>?_) hh
    obtain⟨h1,rfl,h2⟩:=hQ;rw[eR q h1,y46 hf,Rz.then_assoc];exact(z1a (g:=fun j=>(blk d j).then fun b m=> .ok (.mk 1 q pk pt b (nxo l k 0).pl) m) fun y j hy=>by have:=h2 y j hy;subst this;rfl).trans (z1k _ _ _ _)
   ·have KP:RwC b A n c l true R1.at R1.err (gate R1.err R1.at (rwordF l true)):=zz fun w' h'=>z8p true b w' A n c l _ _ h'
    have hz:(gate R1.err R1.at (rwordF l true)).err=0→k0≤(gate R1.err R1.at (rwordF l true)).at∧d≤16:=fun he=>by
     obtain⟨e1,p,e2⟩:=z0w R1.err_cases he;have hk':=hk rfl
     cases R1 with
     | bad j dd=>cases dd <;> cases e1
     | ok t j=>
       have h1:=hin.1;have h2:=z0r (z77 hin.2) e2;exact⟨by have:=h2.1;omega,hk'.2⟩
    refine(x1k b w A n c l d k 0 h _ _ _ R1 _ KN KT KK (nextC b A n c l R1.at R1.err) hf KP (blo hz)).mono fun e w' hh=>z6k (fun kd q pk pt hQ=>?_) hh
    obtain⟨h1,rfl,rfl,h2⟩:=hQ;rw[eR q h1,y1s hf,Rz.then_assoc];exact(z1a (g:=fun j=>(blk d j).then fun b m=> .ok (.mk kd q 0 [] b (nxo l k 0).pl) m) fun y j hy=>by have:=h2 y j hy;subst this;rfl).trans (z1k _ _ _ _)
 | false=>
   have KT:=z4o (b:=b) (A:=A) (n:=n) (c:=c) (W:=⟨#[105]⟩) (by decide) hv
   have eR:gate o k (ruleF l blk d)=(gate o k (headF l false)).then fun h j=>(blk d j).then fun b m=> .ok (.mk h.1 (-1) h.2.1 h.2.2 b (nxo l k o).pl) m:=by
    by_cases ho:o=0
    ·subst ho
     rw[z0f,z0f];have e1:peerF l k= .ok (-1) k:=if_neg (by rw[←z1v,hv];decide);have e2:isT l 5 [105] k=false:=hv;unfold ruleF;rw[e1,e2];rfl
    ·unfold gate;rw[if_neg ho,if_neg ho];rfl
   by_cases hf:(nxo l k o).kind=5
   ·have KP:PatC b A n c l k o (gate o k (patF l)):=zz fun w' h'=>y5g b w' A n c l _ _ h'
    have hz:(gate o k (patF l)).err=0→k0≤(gate o k (patF l)).at∧d≤16:=fun he=>by
     obtain⟨e1,p,e2⟩:=z0w h.oks he;have hk':=hk e1;have h2:=z0r (y3a hkn) e2;exact⟨by have:=h2.1;omega,hk'.2⟩
    refine(x2s b w A n c l d k o h _ _ _ _ KN KT (nextC b A n c l k o) hf KP (blo hz)).mono fun e w' hh=>z6k (fun kd q pk pt hQ=>?_) hh
    obtain⟨rfl,rfl,h2⟩:=hQ;rw[eR,y46 hf,Rz.then_assoc];exact(z1a (g:=fun j=>(blk d j).then fun b m=> .ok (.mk 1 (-1) pk pt b (nxo l k o).pl) m) fun y j hy=>by have:=h2 y j hy;subst this;rfl).trans (z1k _ _ _ _)
   ·have KP:RwC b A n c l false k o (gate o k (rwordF l false)):=zz fun w' h'=>z8p false b w' A n c l _ _ h'
    have hz:(gate o k (rwordF l false)).err=0→k0≤(gate o k (rwordF l false)).at∧d≤16:=fun he=>by
     obtain⟨e1,p,e2⟩:=z0w h.oks he;have hk':=hk e1;have h2:=z0r (z77 hkn) e2;exact⟨by have:=h2.1;omega,hk'.2⟩
    refine(x0t b w A n c l d k o h _ _ _ _ KN KT (nextC b A n c l k o) hf KP (blo hz)).mono fun e w' hh=>z6k (fun kd q pk pt hQ=>?_) hh
    obtain⟨rfl,rfl,rfl,h2⟩:=hQ;rw[eR,y1s hf,Rz.then_assoc];exact(z1a (g:=fun j=>(blk d j).then fun b m=> .ok (.mk kd (-1) 0 [] b (nxo l k o).pl) m) fun y j hy=>by have:=h2 y j hy;subst this;rfl).trans (z1k _ _ _ _)
section
theorem z6o (a:Addr) (m n:Nat):(a.add m).add n=a.add (m+n):=by
 unfold Addr.add;by_cases h1:m=0
 ·subst h1;simp
 ·by_cases h2:n=0
  ·subst h2;simp
  ·simp[h1,h2];omega
def OwX (b lo hi:Nat) (g:Option Nat):Nat→Prop:=fun q=>q<b∨(lo≤q∧q<hi∧g≠some q)
structure RoG {α:Type} (cf:α→List Value) (s e:Nat) (KP:(Nat→Prop)→World→α→Prop) (b:Nat) (w W:World) (A:OA) (n c:Nat) (l:List Tok) (k o:Nat) (v:Value) (es:List α):Prop where
 cx:Cx b w W A n c l k o []
 row:W.ownsRow w.heap.size e s v es.length (es.flatMap cf)
 kids:o=0→∀ x∈es,KP (OwX b w.heap.size W.heap.size v.ownBlock) W x
def Mono {α:Type} (KP:(Nat→Prop)→World→α→Prop):Prop:=∀ (P Q:Nat→Prop) (w w':World) (x:α),(∀ p:Addr,P p.block→w'.cell? p=w.cell? p)→(∀ k,P k→Q k)→KP P w x→KP Q w' x
section
variable {α:Type} {cf:α→List Value} {s e:Nat} {KP:(Nat→Prop)→World→α→Prop} {b:Nat} {w W W':World} {A:OA} {n c:Nat} {l:List Tok} {k o k' o':Nat} {v:Value} {es:List α}
theorem RdS.lowB {B:Nat} (h:RdS b w A n c l k o) (hB:b<B) (hb:Below B w W):RdS b W A n c l k o:=
 ⟨(hb.cell (p:=⟨b,0,none⟩) hB).trans h.c0,(hb.cell (p:=⟨b,1,none⟩) hB).trans h.c1,(hb.cell (p:=⟨b,2,none⟩) hB).trans h.c2,(hb.frozen (p:=⟨b,1,none⟩) hB).trans h.f1,(hb.frozen (p:=⟨b,2,none⟩) hB).trans h.f2,
   h.row.keep (hb.mono (Nat.le_of_lt hB)),fun w2 h2=>h.giv w2 ((hb.mono (Nat.le_of_lt hB)).trans h2),h.fit,h.le,h.oks,h.few⟩
theorem RoG.start (h:RdS b w A n c l k o):RoG cf s e KP b w w A n c l k o (.slice none 0 0) []:=⟨Cx.start h,World.ownsRow_nil _ _ _ _,by simp⟩
theorem RoG.own (h:RoG cf s e KP b w W A n c l k o v es):∀ g,v.ownBlock=some g→w.heap.size≤g∧g<W.heap.size:=h.row.lt
theorem RoG.call (h:RoG cf s e KP b w W A n c l k o v es) (hK:Mono KP) (hs:StepS b W A n c l k' o' W') (ho:o'=0→o=0):RoG cf s e KP b w W' A n c l k' o' v es:=by
 have hlt:=h.cx.lt;refine⟨h.cx.call hs,h.row.kept hs.1 ?_,fun h0 x hx=>hK _ _ W W' x (fun p hp=>?_) (fun q hq=>?_) (h.kids (ho h0) x hx)⟩
 ·cases hv:v.ownBlock with
  | none=>exact .inl rfl
  | some g=>exact .inr fun e=>by injection e with e;have:=(h.own g hv).1;omega
 ·refine World.cell?_of_block (hs.1.block p.block ?_ (fun e=>?_))
  ·rcases hp with h1 | h1
   ·have:=h.cx.gr.size;omega
   ·exact h1.2.1
  ·injection e with e
   rcases hp with h1 | h1 <;> omega
 ·exact hq.imp id fun h1=>⟨h1.1,Nat.lt_of_lt_of_le h1.2.1 hs.1.size,h1.2.2⟩
theorem RoG.below (h:RoG cf s e KP b w W A n c l k o v es) (hK:Mono KP) (hb:Below W.heap.size W W'):RoG cf s e KP b w W' A n c l k o v es:=h.call hK ⟨z0g hb,h.cx.rd.low hb⟩ id
theorem RoG.push (h:RoG cf s e KP b w W A n c l k o v es) (hK:Mono KP) {x:α} (hx:o=0→KP (OwX b w.heap.size W.heap.size v.ownBlock) W x) {g cap:Nat} (hr:W'.ownsRow w.heap.size e s (.slice (some ⟨g,0,none⟩) (es.length+1) cap) (es.length+1) (es.flatMap cf++cf x))
  (hg:W.grownBy W' v.ownBlock) (hv:v.ownBlock=some g∨g=W.heap.size):RoG cf s e KP b w W' A n c l k o (.slice (some ⟨g,0,none⟩) (es.length+1) cap) (es++[x]):=by
 have hlt:=h.cx.lt;have hsz:=h.cx.gr.size;have hgs:=hg.size;have own:∀ i,i<w.heap.size→some i≠v.ownBlock:=fun i hi e=>by have:=(h.own i e.symm).1;omega
 have keep:∀ i,i<w.heap.size→W'.heap[i]?=W.heap[i]?:=fun i hi=>hg.block i (by omega) (fun e=>own i hi e)
 have hbb:Below (b+1) W W':=⟨hg.os,hg.tape,hg.output,hg.size,fun i hi=>keep i (by omega)⟩
 have hcell:∀ p:Addr,OwX b w.heap.size W.heap.size v.ownBlock p.block→W'.cell? p=W.cell? p:=fun p hp=>World.cell?_of_block (by
  rcases hp with h1 | h1
  ·exact keep _ (by omega)
  ·exact hg.block _ h1.2.1 (fun e=>h1.2.2 e.symm))
 have hP:∀ q,OwX b w.heap.size W.heap.size v.ownBlock q→OwX b w.heap.size W'.heap.size (Value.ownBlock (.slice (some ⟨g,0,none⟩) (es.length+1) cap)) q:=fun q hq=>hq.imp id fun h1=>⟨h1.1,by omega,fun e=>by
  have e:g=q:=by injection e
  rcases hv with hv | hv
  ·rw[hv] at h1;exact h1.2.2 (by rw[e])
  ·have:=h1.2.1;omega⟩
 refine⟨⟨hlt,h.cx.rd.lowB (by omega) hbb,⟨hg.os.trans h.cx.gr.os,hg.tape.trans h.cx.gr.tape,hg.output.trans h.cx.gr.output,by omega,fun i hi hn=>(keep i hi).trans (h.cx.gr.block i hi hn)⟩,by simp,List.Pairwise.nil⟩,?_,fun h0 y hy=>?_⟩
 ·rw[List.length_append,List.flatMap_append]
  simpa using hr
 ·rcases List.mem_append.1 hy with hy | hy
  ·exact hK _ _ W W' y hcell hP (h.kids h0 y hy)
  ·rw[List.mem_singleton] at hy
   subst hy;exact hK _ _ W W' y hcell hP (hx h0)
theorem RoG.box (h:RoG cf s e KP b w W A n c l k o v es) (hK:Mono KP) (x:Obj):RoG cf s e KP b w (W.alloc x) A n c l k o v es:=h.below hK (bR.alloc nR _)
theorem RoG.one (h:Cx b w W A n c l k o []) (hK:Mono KP) {x:α} (hx:o=0→KP (NwX b w.heap.size W.heap.size) W x) (hl:(cf x).length=1 * s):RoG cf s e KP b w (W.alloc (.cells (cf x).toArray e)) A n c l k o (.slice (some ⟨W.heap.size,0,none⟩) 1 1) [x]:=by
 have hb:Below W.heap.size W (W.alloc (.cells (cf x).toArray e)):=bR.alloc nR _;refine⟨h.below hb,?_,fun h0 y hy=>?_⟩
 ·have:=World.ownsRow_lit (e:=e) (size:=s) (base:=w.heap.size) W (cf x).toArray 1 h.gr.size (by decide) (by simpa using hl)
  simpa using this
 ·rw[List.mem_singleton] at hy
  subst hy;refine hK _ _ W _ y (fun p hp=>?_) (fun q hq=>?_) (hx h0)
  ·refine World.cell?_of_block (hb.block _ ?_)
   have:=h.lt;have:=h.gr.size
   rcases hp with hp | hp <;> omega
  ·refine hq.imp id fun h1=>⟨h1.1,by have:=hb.size;omega,fun e=>by injection e with e;have:=h1.2;simp only at e;omega⟩
theorem OwX.of_new {b lo m hi:Nat} {g:Option Nat} (hlo:lo≤m) (hg:∀ q,g=some q→q<m):∀ q,NwX b m hi q→OwX b lo hi g q:=fun q hq=>hq.imp id fun h=>⟨by omega,h.2,fun e=>by have:=hg q e;omega⟩
theorem OwX.all {b lo hi:Nat} {g:Option Nat}:∀ q,OwX b lo hi g q→NwX b lo hi q:=fun _ hq=>hq.imp id fun h=>⟨h.1,h.2.1⟩
end
abbrev XC:=Cm × Lk
abbrev cfC (x:XC):List Value:=cellsC x.1 x.2
abbrev KPC (P:Nat→Prop) (w:World) (x:XC):Prop:=KidC P w x.2 x.1
theorem monoC:Mono KPC:=fun _ _ _ _ _ hs hPQ h=>h.of hs hPQ
abbrev XU:=Ru × OA × Nat
abbrev cfU (x:XU):List Value:=cellsR x.1 x.2.1 x.2.2
abbrev KPU (P:Nat→Prop) (w:World) (x:XU):Prop:=KidR P w x.2.1 x.1
theorem monoU:Mono KPU:=fun _ _ _ _ _ hs hPQ h=>h.of hs hPQ
theorem z62 {α:Type} {cf:α→List Value} {s:Nat} (hs:∀ x,(cf x).length=s):∀ (es:List α) (j:Nat) (x:α),es[j]?=some x→∀ i u,(cf x)[i]?=some u→(es.flatMap cf)[j * s+i]?=some u
 | [],j,x,h,_,_,_=>by simp at h
 | y::es,0,x,h,i,u,hu=>by
   injection h with h;subst h
   rw[List.flatMap_cons,List.getElem?_append_left (by rw[Nat.zero_mul,Nat.zero_add];exact(List.getElem?_eq_some_iff.1 hu).1),Nat.zero_mul,Nat.zero_add];exact hu
 | y::es,j+1,x,h,i,u,hu=>by
   have:=z62 hs es j x (by simpa using h) i u hu;rw[List.flatMap_cons,List.getElem?_append_right (by rw[hs,Nat.add_mul];omega),hs,show (j+1) * s+i - s=j * s+i by rw[Nat.add_mul];omega];exact this
theorem x1c {b:Nat} {w W:World} {A:OA} {n c:Nat} {l:List Tok} {k o:Nat} {v:Value} {es:List XC} (h:RoG cfC 13 41 KPC b w W A n c l k o v es):∃ A' c',v= .slice A' (es.map (·.1)).length c'∧(o=0→RowC (NwX b w.heap.size W.heap.size) W A' (es.map (·.1))):=by
 rcases h.row.2 with ⟨rfl,h0⟩ | ⟨g,cap,cur,rfl,hb,hg,_⟩
 ·have:es=[]:=List.eq_nil_of_length_eq_zero h0
  subst this;exact⟨none,0,rfl,fun _=> .inl rfl⟩
 ·refine⟨_,_,by rw[List.length_map],fun h0=> .inr ⟨_,rfl,.inr ⟨hb,(Array.getElem?_eq_some_iff.1 hg).1⟩,z2o.2 fun j c hj=>?_⟩⟩
  rw[List.getElem?_map,Option.map_eq_some_iff] at hj;obtain⟨x,hx,rfl⟩:=hj;refine⟨x.2,fun i u hu=>?_,(h.kids h0 x (List.mem_of_getElem? hx)).of (fun _ _=>rfl) OwX.all⟩;rw[z6o,Nat.zero_add];exact h.row.cells (g:=g) rfl _ _ (z62 (cf:=cfC) (fun _=>rfl) es j x hx i u hu)
theorem y4y {b:Nat} {w W:World} {A:OA} {n c:Nat} {l:List Tok} {k o:Nat} {v:Value} {es:List XU} (h:RoG cfU 6 65 KPU b w W A n c l k o v es):∃ A' c',v= .slice A' (es.map (·.1)).length c'∧(o=0→RowU (NwX b w.heap.size W.heap.size) W A' (es.map (·.1))):=by
 rcases h.row.2 with ⟨rfl,h0⟩ | ⟨g,cap,cur,rfl,hb,hg,_⟩
 ·have:es=[]:=List.eq_nil_of_length_eq_zero h0
  subst this;exact⟨none,0,rfl,fun _=> .inl rfl⟩
 ·refine⟨_,_,by rw[List.length_map],fun h0=> .inr ⟨_,rfl,.inr ⟨hb,(Array.getElem?_eq_some_iff.1 hg).1⟩,z2r.2 fun j c hj=>?_⟩⟩
  rw[List.getElem?_map,Option.map_eq_some_iff] at hj;obtain⟨x,hx,rfl⟩:=hj;refine⟨x.2.1,x.2.2,fun i u hu=>?_,(h.kids h0 x (List.mem_of_getElem? hx)).of (fun _ _=>rfl) OwX.all⟩;rw[z6o,Nat.zero_add];exact h.row.cells (g:=g) rfl _ _ (z62 (cf:=cfU) (fun _=>rfl) es j x hx i u hu)
theorem infoC:(Tryz.prog.info? 41).map (fun i=>(i.zero,i.size,i.bytes))=some (some (.agg #[oZ,oS,oZ,(),oZ,oZ,oS,oS,(),(),(),(),oZ]),13,208):=by kernel_rfl
theorem infoU:(Tryz.prog.info? 65).map (fun i=>(i.zero,i.size,i.bytes))=some (some (.agg #[oZ,oZ,oZ,oS,(),oZ]),6,72):=by kernel_rfl
theorem oneC (x:XC):∀ u∈cfC x,u.oneCell'=true:=by
 intro u hu;simp only[cfC,cellsC,List.mem_cons,List.not_mem_nil,or_false] at hu
 rcases hu with rfl | rfl | rfl | rfl | rfl | rfl | rfl | rfl | rfl | rfl | rfl | rfl | rfl <;> rfl
theorem oneU (x:XU):∀ u∈cfU x,u.oneCell'=true:=by
 intro u hu;simp only[cfU,cellsR,List.mem_cons,List.not_mem_nil,or_false] at hu
 rcases hu with rfl | rfl | rfl | rfl | rfl | rfl <;> rfl
end
def restF (l:List Tok) (blk:Nat→Nat→Rz (List Cm)) (d N k:Nat):Rz (List Ru):=if isT l 4 [125] k then .ok [] (k+1) else rulesL l blk d N k
theorem z3h (l:List Tok) (blk:Nat→Nat→Rz (List Cm)) (d N k:Nat):rulesL l blk d (N+1) k=(ruleF l blk d k).then fun r i=>(restF l blk d N i).then fun rs m=> .ok (r::rs) m:=by
 rw[rulesL]
 congr 1
 funext r i
 unfold restF
 split <;> rfl
def RusS (b:Nat) (w:World) (A:OA) (n c:Nat) (l:List Tok) (R:Rz (List Ru)) (e:Ending) (w':World):Prop:=
 ∃ (A':OA) (us:List Ru) (c':Nat),e= .returned (.slice A' us.length c')∧StepS b w A n c l R.at R.err w'∧(∀ y j,R= .ok y j→y=us)∧(R.err=0→RowU (NwX b w.heap.size w'.heap.size) w' A' us)
abbrev RulC (b:Nat) (A:OA) (n c:Nat) (l:List Tok) (z:Int) (k o:Nat) (R:Rz Ru):Prop:=Hid (∀ w',RdS b w' A n c l k o→Cz 104 #[pP b,z] w' fun e w2=>
 ∃ (r:Ru) (A':OA) (c':Nat),e= .returned (.agg #[r.kind,r.peer,r.pk,r.pt,.slice A' r.body.length c',r.pl])∧StepS b w' A n c l R.at R.err w2∧(∀ y j,R= .ok y j→y=r)∧(R.err=0→KidR (NwX b w'.heap.size w2.heap.size) w2 A' r))
structure RuI (b:Nat) (w:World) (A:OA) (n c:Nat) (l:List Tok) (blk:Nat→Nat→Rz (List Cm)) (k0 d:Nat) (R:Rz (List Ru)) (M:Nat) (v:Value) (wr:World) (es:List XU) (k o:Nat):Prop where
 row:RoG cfU 6 65 KPU b w wr A n c l k o v es
 eq:R=(gate o k (restF l blk d M)).then fun rs m=> .ok (es.map (·.1)++rs) m
 fuel:o=0→n<k+M∧k0≤k∧d≤16
 len:es.length+M=n+1
theorem RuI.stop {b:Nat} {w wr w':World} {A:OA} {n c:Nat} {l:List Tok} {blk:Nat→Nat→Rz (List Cm)} {k0 d:Nat} {R:Rz (List Ru)} {M:Nat} {v:Value} {es:List XU} {k o:Nat} (h:RuI b w A n c l blk k0 d R M v wr es k o) (ho:¬ o=0) (hb:Below wr.heap.size wr w'):RusS b w A n c l R (.returned v) w':=by
 have hR:=h.row.below monoU hb;obtain⟨A',c',rfl,_⟩:=y4y hR;have ho2:=h.row.cx.rd.oks.resolve_left ho
 have e1:R.at=k∧R.err=o∧∀ y j,R≠ .ok y j:=by
  rw[h.eq]
  rcases ho2 with rfl | rfl <;> exact⟨rfl,rfl,fun _ _ e=>by cases e⟩
 refine⟨A',es.map (·.1),c',rfl,?_,fun y j e=>absurd e (e1.2.2 y j),fun e=>absurd (e1.2.1.symm.trans e) ho⟩;rw[e1.1,e1.2.1];exact hR.cx.step
theorem RuI.shut {b:Nat} {w wr w':World} {A:OA} {n c:Nat} {l:List Tok} {blk:Nat→Nat→Rz (List Cm)} {k0 d:Nat} {R:Rz (List Ru)} {M:Nat} {v:Value} {es:List XU} {k:Nat} (h:RuI b w A n c l blk k0 d R M v wr es k 0) (ht:isT l 4 [125] k=true) (hs:StepS b wr A n c l (k+1) 0 w'):RusS b w A n c l R (.returned v) w':=by
 have hR:=h.row.call monoU hs fun _=>rfl
 obtain⟨A',c',rfl,hk⟩:=y4y hR
 have e1:R= .ok (es.map (·.1)) (k+1):=by
  rw[h.eq,z0f];unfold restF;rw[if_pos ht];show Rz.ok (es.map (·.1)++[]) (k+1)=_;rw[List.append_nil]
 rw[e1];exact⟨A',es.map (·.1),c',rfl,hR.cx.step,fun y j e=>by injection e with e;exact e.symm,fun _=>hk rfl⟩
theorem RuI.step {b:Nat} {w wr w':World} {A:OA} {n c:Nat} {l:List Tok} {blk:Nat→Nat→Rz (List Cm)} {k0 d:Nat} {R:Rz (List Ru)} {M:Nat} {v:Value} {es:List XU} {k:Nat} (h:RuI b w A n c l blk k0 d R M v wr es k 0) (hs:StepS b wr A n c l k 0 w'):RuI b w A n c l blk k0 d R M v w' es k 0:=⟨h.row.call monoU hs fun _=>rfl,h.eq,h.fuel,h.len⟩
theorem RuI.more {b:Nat} {w wr w2 w3:World} {A:OA} {n c:Nat} {l:List Tok} {blk:Nat→Nat→Rz (List Cm)} (hB:BlkIn l blk) {k0 d:Nat} {R:Rz (List Ru)} {M:Nat} {v:Value} {es:List XU} {k:Nat} (h:RuI b w A n c l blk k0 d R (M+1) v wr es k 0) (ht:isT l 4 [125] k=false) {r:Ru} {A2:OA} {c2:Nat}
  (hs:StepS b wr A n c l (ruleF l blk d k).at (ruleF l blk d k).err w2) (hv:∀ y j,ruleF l blk d k= .ok y j→y=r) (hk:(ruleF l blk d k).err=0→KidR (NwX b wr.heap.size w2.heap.size) w2 A2 r)
  {g cap:Nat} (hr:w3.ownsRow w.heap.size 65 6 (.slice (some ⟨g,0,none⟩) (es.length+1) cap) (es.length+1) (es.flatMap cfU++cfU (r,A2,c2))) (o:Obj) (hg:(w2.alloc o).grownBy w3 v.ownBlock) (hvg:v.ownBlock=some g∨g=w2.heap.size+1):
  RuI b w A n c l blk k0 d R M (.slice (some ⟨g,0,none⟩) (es.length+1) cap) w3 (es++[(r,A2,c2)]) (ruleF l blk d k).at (ruleF l blk d k).err:=by
 have hf:=h.fuel rfl;have hlen:=h.row.cx.rd.len;have hkn:k≤l.length:=by have:=h.row.cx.rd.le;omega
 have hin:=y4i hB (d:=d) hkn;refine⟨?_,?_,fun h0=>?_,by have:=h.len;simp;omega⟩
 ·refine((h.row.call monoU hs fun _=>rfl).box monoU o).push monoU (x:=(r,A2,c2)) (fun h0=>?_) hr hg (by simpa using hvg)
  have hown:=h.row.own
  exact((hk h0).of (w':=w2.alloc o) (fun p hp=>World.cell?_of_block (((Below.refl w2.heap.size w2).alloc nR o).block _ (by have:=hs.1.size;have:=h.row.cx.lt;have:=h.row.cx.gr.size;rcases hp with hp | hp <;> omega))) fun _ h=>h).of (fun _ _=>rfl) fun q hq=>
   OwX.of_new (g:=v.ownBlock) h.row.cx.gr.size (fun q hq=>(hown q hq).2) q (NwX.wide nR (by simp) q hq)
 ·rw[h.eq,z0f]
  unfold restF;rw[if_neg (by rw[ht];decide),z3h,Rz.then_assoc];refine(z1a (g:=fun i=>(restF l blk d M i).then fun rs m=> .ok ((es++[(r,A2,c2)]).map (·.1)++rs) m) fun y j hy=>?_).trans (z1k _ _ _ _);rw[hv y j hy,Rz.then_assoc];simp only[List.map_append,List.map_cons,List.map_nil,List.append_assoc,List.singleton_append]
  rfl
 ·cases hq:ruleF l blk d k with
  | bad j dd=>rw[hq] at h0;cases dd <;> cases h0
  | ok y j=>
    have h1:=z5t hB hkn hq;show n<j+M∧k0≤j∧d≤16;omega
theorem rulC (b:Nat) (A:OA) (n c:Nat) (l:List Tok) (blk:Nat→Nat→Rz (List Cm)) (k0:Nat) (HB:BlkC b A n c l blk k0) (d k o:Nat) (z:Int) (hz:z=d) (hk:o=0→k0≤k∧d≤16) (hd:d≤99) {R:Rz Ru} (hR:gate o k (ruleF l blk d)=R):RulC b A n c l z k o R:=zz fun w' h'=>by
 subst hz hR;exact x0i b A n c l blk k0 HB d k o w' hk hd h'
theorem RuI.first {b:Nat} {w w1 w2:World} {A:OA} {n c:Nat} {l:List Tok} {blk:Nat→Nat→Rz (List Cm)} (hB:BlkIn l blk) {k0 d k o:Nat} {R:Rz (List Ru)} (hR:R=gate o k (rulesL l blk d (l.length+1))) (h:Cx b w w1 A n c l k o []) (hk:o=0→k0≤k∧d≤16) {r:Ru} {A2:OA} {c2:Nat}
  (hs:StepS b w1 A n c l (gate o k (ruleF l blk d)).at (gate o k (ruleF l blk d)).err w2) (hv:∀ y j,gate o k (ruleF l blk d)= .ok y j→y=r) (hkk:(gate o k (ruleF l blk d)).err=0→KidR (NwX b w1.heap.size w2.heap.size) w2 A2 r):
  RuI b w A n c l blk k0 d R n (.slice (some ⟨w2.heap.size,0,none⟩) 1 1) (w2.alloc (.cells (cfU (r,A2,c2)).toArray 65)) [(r,A2,c2)] (gate o k (ruleF l blk d)).at (gate o k (ruleF l blk d)).err:=by
 have hlen:=h.rd.len;have hkn:k≤l.length:=by have:=h.rd.le;omega
 refine⟨RoG.one (h.call hs) monoU (x:=(r,A2,c2)) (fun h0=>(hkk h0).of (fun _ _=>rfl) fun q hq=>NwX.wide h.gr.size nR q hq) rfl,?_,fun h0=>?_,by simp;omega⟩
 ·rw[hR]
  have e:(fun k=>rulesL l blk d (l.length+1) k)=fun k=>(ruleF l blk d k).then fun r i=>(restF l blk d l.length i).then fun rs m=> .ok (r::rs) m:=by
   funext k;exact z3h l blk d l.length k
  rw[show gate o k (rulesL l blk d (l.length+1))=gate o k (fun k=>rulesL l blk d (l.length+1) k) from rfl,e,z1k];refine(z1a (g:=fun i=>(restF l blk d n i).then fun rs m=> .ok ([(r,A2,c2)].map (·.1)++rs) m) fun y j hy=>?_).trans (z1k _ _ _ _);rw[hv y j hy,hlen.1];rfl
 ·obtain⟨e0,y,hy⟩:=z0w h.rd.oks h0
  have h1:=z5t hB hkn hy;have h2:=hk e0;omega
theorem y60 (b:Nat) (A:OA) (n c:Nat) (l:List Tok) (blk:Nat→Nat→Rz (List Cm)) (hIn:BlkIn l blk) (k0:Nat) (HB:BlkC b A n c l blk k0) (d k o:Nat) (w:World) (hk:o=0→k0≤k∧d≤16) (hd:d≤98) (h:RdS b w A n c l k o):
  Cz 62 #[pP b,d] w (RusS b w A n c l (gate o k (rulesF l blk d))):=by
 have H:=zz (Cx.start h);have hn:=h.few;have K1:Hid (∀ w',RdS b w' A n c l k o→Cz 102 #[pP b,d] w' fun e w2=>e= .returned (.tuple #[])∧StepS b w' A n c l (gate o k (braceF l d)).at (gate o k (braceF l d)).err w2):=zz fun w' h'=>z8z d b w' A n c l k o h'
 have hz:(gate o k (braceF l d)).err=0→k0≤(gate o k (braceF l d)).at∧d+1≤16:=fun he=>by
  obtain⟨ho,u,hu⟩:=z0w h.oks he;have h1:=z3c hu;have h2:=hk ho;omega
 obtain⟨R,hR⟩:∃ R,R=gate o k (rulesF l blk d):=⟨_,rfl⟩;rw[←hR]
 have hR2:R=gate (gate o k (braceF l d)).err (gate o k (braceF l d)).at (rulesL l blk (d+1) (l.length+1)):=by
  rw[hR,show gate o k (rulesF l blk d)=gate o k (fun k=>(braceF l d k).then fun _ i=>rulesL l blk (d+1) (l.length+1) i) from rfl,z1k];exact z1a fun _ _ _=>rfl
 clear hR;have HR2:=zz hR2;clear hR2;generalize gate o k (braceF l d)=R0 at K1 hz HR2;have HZ:=zz hz;have K2:=rulC b A n c l blk k0 HB (d+1) R0.at R0.err ((d:Int)+1) (by omega) (by exact hz) (by omega) rfl;have KM:Hid (∀ k',k0≤k'→d+1≤16→RulC b A n c l ((d:Int)+1) k' 0 (ruleF l blk (d+1) k')):=zz fun k' h1 h2=>rulC b A n c l blk k0 HB (d+1) k' 0 ((d:Int)+1) (by omega) (fun _=>⟨h1,h2⟩) (by omega) (z0f _ _)
 have HI:=zz hIn;obtain⟨i0,hi0,hz0,hz1,hz2⟩:=info_parts infoU;clear hz hk h HB hIn;go_enter Tryz.func62,Tryz.ntmps62;go_wp2_with (first | (go_at_call 102;go_must ((with_reducible refine(K1.out _ H.out.rd).mono ?_);rintro e w1 ⟨rfl,hs1⟩;have HC:=zz (H.out.call hs1);clear hs1)) | (go_at_call 104;go_must ((with_reducible refine(K2.out _ HC.out.rd).mono ?_);rintro e w2 ⟨r,A2,c2,rfl,hs2,hv2,hk2⟩;have HF:=zz (RuI.first (c2:=c2) HI.out HR2.out HC.out HZ.out hs2 hv2 hk2);clear hs2 hv2 hk2)))
 go_loopg [5] n (fun M v wr=>∃ (es:List XU) (k' o' M':Nat),Hid (M=M')∧Hid (RuI b w A n c l blk k0 (d+1) R M' v wr es k' o'))
 case atStart=>exact⟨_,_,_,_,zz rfl,HF⟩
 case round=>
  obtain⟨es,k',o',M',HMM,HJ⟩:=hrel;obtain⟨x0,x1,x2,x3,x4⟩:=HJ.out.row.cx.rd.five;by_cases o0:o'=0
  ·subst o0
   have hf:=HJ.out.fuel rfl
   cases hv:isO l 4 [125] k' 0 with
   | true=>
     have KT:=z4n (b:=b) (A:=A) (n:=n) (c:=c) (W:=⟨#[125]⟩) (by decide) hv;have HV:=zz hv;clear hv hf;go_wp2_with (go_at_call 61;go_must ((with_reducible refine(KT.out _ HJ.out.row.cx.rd).mono ?_);rintro e w3 ⟨rfl,hs3⟩;have HS3:=zz hs3;clear hs3));go_ret;exact HJ.out.shut HV.out HS3.out
   | false=>
     have KT:=z4o (b:=b) (A:=A) (n:=n) (c:=c) (W:=⟨#[125]⟩) (by decide) hv;have HV:=zz hv;obtain⟨M2,rfl⟩:∃ M2,M'=M2+1:=⟨M' - 1,by have:=HJ.out.row.cx.rd.le;omega⟩;have K3:=KM.out k' hf.2.1 hf.2.2;have hel:es.length≤4001:=by have:=HJ.out.len;omega
     have HEL:=zz hel;clear hv hf hel;go_wp2_with (first | (go_at_call 61;go_must ((with_reducible refine(KT.out _ HJ.out.row.cx.rd).mono ?_);rintro e w3 ⟨rfl,hs3⟩;have HJ3:=zz (HJ.out.step hs3);clear hs3)) | (go_at_call 104;go_must ((with_reducible refine(K3.out _ HJ3.out.row.cx.rd).mono ?_);rintro e w4 ⟨r2,A4,c4,rfl,hs4,hv4,hk4⟩;have HRW:=zz ((HJ3.out.row.call monoU hs4 fun _=>rfl).box monoU (.cells #[r2.kind,r2.peer,r2.pk,r2.pt,.slice A4 r2.body.length c4,r2.pl] 65));have HS4:=zz hs4;have HV4:=zz hv4;have HK4:=zz hk4;clear hs4 hv4 hk4)) | (at_builtin;refine wpList_append_lies _ rfl (.tmp 24) (.tmp 29) 39 rfl w.heap.size 65 i0 (.agg #[oZ,oZ,oZ,oS,(),oZ]) 6 72 Tryz.underlying39 hi0 hz0 hz1 hz2 rfl (by decide) _ es.length (es.flatMap cfU) rfl HRW.out.row ⟨w4.heap.size,0,none⟩ 1 1 [r2.kind,r2.peer,r2.pk,r2.pt,.slice A4 r2.body.length c4,r2.pl] rfl rfl (fun j u hu=>z0k w4 65 #[r2.kind,r2.peer,r2.pk,r2.pt,.slice A4 r2.body.length c4,r2.pl] j u hu) (oneU (r2,A4,c4)) (by decide) (by have:=HEL.out;unfold maxLen;omega) (by have:=HEL.out;omega) HRW.out.cx.gr.size (w4.heap.size+1) (by simp) ?_;intro g cap w5 ho hg hvg hgl;have HN:=zz (HJ3.out.more HI.out HV.out HS4.out HV4.out HK4.out ho _ hg hvg);clear ho hg hvg hgl))
     go_roundg M2
     case measure=>rw[HMM.out];exact Nat.lt_succ_self _
     case rel=>exact⟨_,_,_,_,zz rfl,HN⟩
  ·obtain⟨b1,b2,b3,b4⟩:=z1y o0
   have O0:=zz o0;clear o0;go_wp2;go_ret;exact HJ.out.stop O0.out bR
section
theorem Cx.put13 {b:Nat} {w W:World} {A:OA} {n c:Nat} {l:List Tok} {k o:Nat} {bs:List (Nat × List Value)} (h:Cx b w W A n c l k o bs) (i q:Nat) (u0 u1 u2 u3 u4 u5 u6 u7 u8 u9 u10 u11 u12:Value) (hi:bs[i]?=some (q,[u0,u1,u2,u3,u4,u5,u6,u7,u8,u9,u10,u11,u12])) (v0 v1 v2 v3 v4 v5 v6 v7 v8 v9 v10 v11 v12:Value):
  Cx b w (((((((((((((W.setCell ⟨q,0,none⟩ v0).setCell ⟨q,1,none⟩ v1).setCell ⟨q,2,none⟩ v2).setCell ⟨q,3,none⟩ v3).setCell ⟨q,4,none⟩ v4).setCell ⟨q,5,none⟩ v5).setCell ⟨q,6,none⟩ v6).setCell ⟨q,7,none⟩ v7).setCell ⟨q,8,none⟩ v8).setCell ⟨q,9,none⟩ v9).setCell ⟨q,10,none⟩ v10).setCell ⟨q,11,none⟩ v11).setCell ⟨q,12,none⟩ v12) A n c l k o (bs.set i (q,[v0,v1,v2,v3,v4,v5,v6,v7,v8,v9,v10,v11,v12])):=by
 have hl:=(List.getElem?_eq_some_iff.1 hi).1;have e:∀ x:Nat × List Value,(bs.set i x)[i]?=some x:=fun x=>List.getElem?_set_self hl
 have h0:=h.put i q _ hi 0 (by simp) v0;have h1:=h0.put i q _ (by first | exact e _ | (simp only[List.set_set];exact e _)) 1 (by simp) v1;have h2:=h1.put i q _ (by first | exact e _ | (simp only[List.set_set];exact e _)) 2 (by simp) v2;have h3:=h2.put i q _ (by first | exact e _ | (simp only[List.set_set];exact e _)) 3 (by simp) v3;have h4:=h3.put i q _ (by first | exact e _ | (simp only[List.set_set];exact e _)) 4 (by simp) v4;have h5:=h4.put i q _ (by first | exact e _ | (simp only[List.set_set];exact e _)) 5 (by simp) v5;have h6:=h5.put i q _ (by first | exact e _ | (simp only[List.set_set];exact e _)) 6 (by simp) v6;have h7:=h6.put i q _ (by first | exact e _ | (simp only[List.set_set];exact e _)) 7 (by simp) v7;have h8:=h7.put i q _ (by first | exact e _ | (simp only[List.set_set];exact e _)) 8 (by simp) v8;have h9:=h8.put i q _ (by first | exact e _ | (simp only[List.set_set];exact e _)) 9 (by simp) v9;have h10:=h9.put i q _ (by first | exact e _ | (simp only[List.set_set];exact e _)) 10 (by simp) v10;have h11:=h10.put i q _ (by first | exact e _ | (simp only[List.set_set];exact e _)) 11 (by simp) v11;have h12:=h11.put i q _ (by first | exact e _ | (simp only[List.set_set];exact e _)) 12 (by simp) v12;simp only[List.set_set] at h12;exact h12
abbrev zeroC:List Value:=[oZ,oS,oZ,(),oZ,oZ,oS,oS,(),(),(),(),oZ]
def CmdS (b:Nat) (w:World) (A:OA) (n c:Nat) (l:List Tok) (R:Rz Cm) (e:Ending) (w':World):Prop:=
 ∃ (x:Cm) (lk:Lk),e= .returned (valC x lk)∧StepS b w A n c l R.at R.err w'∧(∀ y j,R= .ok y j→y=x)∧(R.err=0→KidC (NwX b w.heap.size w'.heap.size) w' lk x)
def MonoP (RP:(Nat→Prop)→World→Prop):Prop:=∀ (P Q:Nat→Prop) (w w':World),(∀ p:Addr,P p.block→w'.cell? p=w.cell? p)→(∀ k,P k→Q k)→RP P w→RP Q w'
def Hd (b q:Nat) (RP:(Nat→Prop)→World→Prop) (W:World):Prop:=∃ lo hi,b<lo∧q<lo∧lo≤hi∧hi≤W.heap.size∧RP (NwX b lo hi) W
section
variable {b q:Nat} {RP:(Nat→Prop)→World→Prop} {W W':World}
theorem Hd.put (h:Hd b q RP W) (hm:MonoP RP) {p:Nat} (hp:p≤q) (hb:b≤p) (j:Nat) (u:Value):Hd b q RP (W.setCell ⟨p,j,none⟩ u):=by
 obtain⟨lo,hi,h1,h2,h3,h4,h5⟩:=h;exact⟨lo,hi,h1,h2,h3,by simpa[World.setCell] using h4,hm _ _ W _ (NwX.set (by omega) hb) (fun _ h=>h) h5⟩
theorem Hd.call (h:Hd b q RP W) (hm:MonoP RP) (hg:W.grownBy W' (some b)):Hd b q RP W':=by
 obtain⟨lo,hi,h1,h2,h3,h4,h5⟩:=h;exact⟨lo,hi,h1,h2,h3,Nat.le_trans h4 hg.size,hm _ _ W _ (NwX.cell hg h1 h4 (by omega)) (fun _ h=>h) h5⟩
theorem Hd.put13 (h:Hd b q RP W) (hm:MonoP RP) {p:Nat} (hp:p≤q) (hb:b≤p) (v0 v1 v2 v3 v4 v5 v6 v7 v8 v9 v10 v11 v12:Value):
  Hd b q RP (((((((((((((W.setCell ⟨p,0,none⟩ v0).setCell ⟨p,1,none⟩ v1).setCell ⟨p,2,none⟩ v2).setCell ⟨p,3,none⟩ v3).setCell ⟨p,4,none⟩ v4).setCell ⟨p,5,none⟩ v5).setCell ⟨p,6,none⟩ v6).setCell ⟨p,7,none⟩ v7).setCell ⟨p,8,none⟩ v8).setCell ⟨p,9,none⟩ v9).setCell ⟨p,10,none⟩ v10).setCell ⟨p,11,none⟩ v11).setCell ⟨p,12,none⟩ v12):=
 ((((((((((((h.put hm hp hb 0 v0).put hm hp hb 1 v1).put hm hp hb 2 v2).put hm hp hb 3 v3).put hm hp hb 4 v4).put hm hp hb 5 v5).put hm hp hb 6 v6).put hm hp hb 7 v7).put hm hp hb 8 v8).put hm hp hb 9 v9).put hm hp hb 10 v10).put hm hp hb 11 v11).put hm hp hb 12 v12
theorem Hd.fin (h:Hd b q RP W) (hm:MonoP RP) {lo:Nat} (hl:lo≤q):RP (NwX b lo W.heap.size) W:=by
 obtain⟨lo',hi,h1,h2,h3,h4,h5⟩:=h;exact hm _ _ W _ (fun _ _=>rfl) (NwX.wide (by omega) h4) h5
end
abbrev PtP (R:Rz Tok) (A:OA) (ps:List Pt):(Nat→Prop)→World→Prop:=fun P W=>R.err=0→RdP P W A ps
abbrev ExP (R:Rz Ex) (A:OA) (x:Ex):(Nat→Prop)→World→Prop:=fun P W=>R.err=0→KidsX P W A x
abbrev CsP (R:Rz (List Cm)) (A:OA) (xs:List Cm):(Nat→Prop)→World→Prop:=fun P W=>R.err=0→RowC P W A xs
abbrev UsP (R:Rz (List Ru)) (A:OA) (xs:List Ru):(Nat→Prop)→World→Prop:=fun P W=>R.err=0→RowU P W A xs
theorem z3q (R:Rz Tok) (A:OA) (ps:List Pt):MonoP (PtP R A ps):=fun _ _ _ _ hs hP h h0=>(h h0).of hs hP
theorem z0l (R:Rz Ex) (A:OA) (x:Ex):MonoP (ExP R A x):=fun _ _ _ _ hs hP h h0=>z4y hs hP _ _ (h h0)
theorem z03 (R:Rz (List Cm)) (A:OA) (xs:List Cm):MonoP (CsP R A xs):=fun _ _ _ _ hs hP h h0=>(h h0).of hs hP
theorem z15 (R:Rz (List Ru)) (A:OA) (xs:List Ru):MonoP (UsP R A xs):=fun _ _ _ _ hs hP h h0=>(h h0).of hs hP
theorem z1f {b q:Nat} {RP:(Nat→Prop)→World→Prop} {W W':World} (hb:b<W.heap.size) (hq:q<W.heap.size) (hz:W.heap.size≤W'.heap.size) (h:RP (NwX b W.heap.size W'.heap.size) W'):Hd b q RP W':=⟨W.heap.size,W'.heap.size,hb,hq,hz,Nat.le_refl _,h⟩
abbrev NamC (b:Nat) (A:OA) (n c:Nat) (l:List Tok) (k o:Nat) (R:Rz Bs):Prop:=Hid (∀ w',RdS b w' A n c l k o→Cz 56 #[pP b] w' fun e w2=>∃ s:Bs,e= .returned (.string ⟨s.toArray⟩)∧StepS b w' A n c l R.at R.err w2∧∀ y j,R= .ok y j→y=s)
abbrev NmC (b:Nat) (A:OA) (n c:Nat) (l:List Tok) (kind:Int) (k o:Nat) (R:Rz Int):Prop:=Hid (∀ w',RdS b w' A n c l k o→Cz 57 #[pP b,kind] w' fun e w2=>∃ z:Int,e= .returned (.int .i64 z)∧StepS b w' A n c l R.at R.err w2∧∀ y j,R= .ok y j→y=z)
abbrev ConC (b:Nat) (A:OA) (n c:Nat) (l:List Tok) (k o:Nat) (R:Rz Ex):Prop:=Hid (∀ w',RdS b w' A n c l k o→Cz 59 #[pP b] w' fun e w2=>∃ (x:Ex) (A':OA) (c':Nat),
 e= .returned (.agg #[x.kind,x.n,x.name,x.op,.slice A' x.kids.length c'])∧StepS b w' A n c l R.at R.err w2∧∀ y j,R= .ok y j→y=x∧KidsX (FrX w'.heap.size w2.heap.size) w2 A' x)
abbrev RusC (b:Nat) (A:OA) (n c:Nat) (l:List Tok) (d k o:Nat) (R:Rz (List Ru)):Prop:=Hid (∀ w',RdS b w' A n c l k o→Cz 62 #[pP b,d] w' fun e w2=>
 ∃ (A':OA) (us:List Ru) (c':Nat),e= .returned (.slice A' us.length c')∧StepS b w' A n c l R.at R.err w2∧(∀ y j,R= .ok y j→y=us)∧(R.err=0→RowU (NwX b w'.heap.size w2.heap.size) w2 A' us))
abbrev KowC (W:BA) (z:Int):Prop:=Hid (∀ w',Cz 54 #[W] w' fun e w2=>e= .returned (.int .i64 z)∧w'=w2)
abbrev FofC (z:Int) (S:BA) (f:Int):Prop:=Hid (∀ w',Cz 55 #[z] w' fun e w2=>e= .returned (.tuple #[S,f])∧w'=w2)
theorem z04 {α:Type} {R:Rz α} (h:R.err=0):∃ x j,R= .ok x j:=by
 cases R with
 | ok x j=>exact⟨x,j,rfl⟩
 | bad j d=>cases d <;> cases h
end
theorem x4z (b:Nat) (w:World) (A:OA) (n c:Nat) (l:List Tok) (d k:Nat) (h:RdS b w A n c l k 0) (t:Tok) (KN:NextC b A n c l k 0 t) (KF:KowC ⟨t.word.toArray⟩ 0) (KR:RefC b A n c l 1 k 0 1):
  Cz 32 #[pP b,d] w (CmdS b w A n c l (.bad k false)):=by
 have H:=zz (Cx.start h);have hlt:=h.lt;unfold NextC at KN;obtain⟨T,hT⟩:∃ T:BA,T=⟨t.word.toArray⟩:=⟨_,rfl⟩;rw[←hT] at KN KF;generalize t.kind=kd at KN;generalize t.pl=pl at KN ⊢;clear h hT;unfold CmdS;go_enter Tryz.func32,Tryz.ntmps32;go_wp2_with (first | (go_at_call 31;go_must ((with_reducible refine(KN.out _ (H.out.rd.box _)).mono ?_);rintro e w1 ⟨A1,c1,rfl,hb1,hr1⟩;have HA:=zz (((H.out.alloc 41 zeroC (by simp)).below hb1).alloc 53 [kd,T,t.n,.slice A1 t.parts.length c1,pl] (by simp));obtain⟨q0,q1,q2,q3⟩:=HA.out.two;clear hb1 hr1)));obtain⟨W0,HW0,hz0,hW0⟩:∃ W0,Hid (Cx b w W0 A n c l k 0 [(w1.heap.size,[kd,T,t.n,.slice A1 t.parts.length c1,pl]),(w.heap.size,zeroC)])∧W0.heap.size=w1.heap.size+1∧W0=w1.alloc (.cells #[kd,T,t.n,.slice A1 t.parts.length c1,pl] 53):=⟨_,HA,by simp,rfl⟩;rw[←hW0];clear hW0 HA q3;obtain⟨_,d1,_,_,d4⟩:=(HW0.out.drew.box 0 w1.heap.size _ rfl).all5;obtain⟨_,a1,_,_,a4⟩:=((HW0.out.alloc 41 zeroC (by simp)).drew.box 1 w1.heap.size _ rfl).all5;obtain⟨_,e1,_,_,e4⟩:=((HW0.out.alloc 41 [oZ,oS,oZ,(),oZ,oZ,oS,oS,(),(),(),(),pl] (by simp)).drew.box 1 w1.heap.size _ rfl).all5
 go_region_held3 (fun W'=>W'.cell? ⟨w1.heap.size,1,none⟩=some (.string T)∧W'.cell? ⟨w1.heap.size,4,none⟩=some (.int .i64 pl))
  (first | (with_reducible exact⟨d1,d4⟩) | (with_reducible exact⟨a1,a4⟩) | (with_reducible exact⟨e1,e4⟩))
  (first
   | (go_at_call 54;((with_reducible refine(KF.out _).mono ?_));rintro e w2 ⟨rfl,rfl⟩))
 all_goals obtain⟨W,HW,hW⟩:∃ W,Hid (Cx b w W A n c l k 0 [(w1.heap.size+1,[oZ,oS,oZ,(),oZ,oZ,oS,oS,(),(),(),(),pl]),(w1.heap.size,[kd,T,t.n,.slice A1 t.parts.length c1,pl]),(w.heap.size,zeroC)])∧W=(W0.alloc (.cells #[oZ,oS,oZ,(),oZ,oZ,oS,oS,(),(),(),(),pl] 41)).drew:=⟨_,zz (by rw[←hz0];exact(HW0.out.alloc 41 [oZ,oS,oZ,(),oZ,oZ,oS,oS,(),(),(),(),pl] (by simp)).drew),rfl⟩
 all_goals rw[←hW]
 all_goals clear hW HW0 hz0
 all_goals obtain⟨q,hq⟩:∃ q,q=w1.heap.size+1:=⟨_,rfl⟩
 all_goals rw[←hq] at HW ⊢
 all_goals clear hq
 all_goals obtain⟨q0,q1,q2,q3,q4⟩:=HW.out.three
 all_goals have p0:=(HW.out.box 0 q _ rfl).at_ 0 _ rfl
 all_goals go_wp2_with (first | (go_at_call 17;go_must ((with_reducible refine(KR.out _ HW.out.rd).mono ?_);rintro e w4 ⟨rfl,hs4⟩;have HR:=zz (HW.out.call hs4);obtain⟨q0,q1,q2,q3,q4⟩:=HR.out.three;obtain⟨g0,g1,g2,g3,g4,g5,g6,g7,g8,g9,g10,g11,g12⟩:=(HR.out.box 2 w.heap.size zeroC rfl).all13;obtain⟨j0,j1,j2,j3,j4,j5,j6,j7,j8,j9',j10,j11,j12⟩:=(HR.out.box 2 w.heap.size zeroC rfl).fre13;clear hs4)))
 all_goals have HL:=HR.out.put13 2 w.heap.size _ _ _ _ _ _ _ _ _ _ _ _ _ rfl (.int .i64 0) oS oZ () oZ oZ oS oS () () () () oZ
 all_goals obtain⟨r0,r1,r2,r3,r4,r5,r6,r7,r8,r9,r10,r11,r12⟩:=(HL.box 2 w.heap.size _ rfl).all13
 all_goals exact bodyPost_ret (v:= .agg #[oZ,oS,oZ,(),oZ,oZ,oS,oS,(),(),(),(),oZ]) (by simp[results,Tryz.results32,go_sem,r0,r1,r2,r3,r4,r5,r6,r7,r8,r9,r10,r11,r12]) rfl ⟨.mk 0 [] 0 [] exNone [] [] [] 0,⟨none,0,none,0,none,0,none,0,none,0⟩,rfl,HL.step,(fun y j e=>by cases e),fun h0=>by cases h0⟩
end Go.Proofs.YtngfihoempcplaaGreatDoor
