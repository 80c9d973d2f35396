import Derived.Deep.AppendLies
import Derived.Test.YtejgbpbljdhndaaDoorH16
import Derived.Test.YtejgbpbljdhndaaDoorSetW
import Derived.Deep.CutRange
import Derived.Deep.RegionHeld3
import Derived.BigRegion
import Derived.Test.YtejgbpbljdhndaaDoorQTail
import Derived.Test.YtejgbpbljdhndaaDoorH22
namespace Go.Proofs.YtejgbpbljdhndaaDoor
open Go Go.RowKit
set_option maxRecDepth 100000
set_option maxHeartbeats 16000000
section
set_option linter.unusedSimpArgs false
theorem y1i {w w':World} {b:Nat} (h:w'.heap[b]?=w.heap[b]?) (j:Nat):w'.frozen? ⟨b,j,none⟩=w.frozen? ⟨b,j,none⟩:=World.frozen?_of_block h
theorem z8f {w:World} {B e s n:Nat} {v:Value} {xs:List Value} (h:w.ownsRow B e s v n xs) {g:Nat} (hg:v.ownBlock=some g):g<w.heap.size∧B≤g:=by
 rcases h.2 with ⟨hv,_⟩ | ⟨g',cap,cur,hv,hB,hg',_⟩
 ·rw[hv] at hg;simp[Value.ownBlock] at hg
 ·have:g'=g:=by rw[hv] at hg;simpa[Value.ownBlock] using hg
  subst this;exact⟨(Array.getElem?_eq_some_iff.1 hg').1,hB⟩
structure PtFr (B:Nat) (v:Value) (w:World) (v':Value) (w':World):Prop where
 below:Below B w w'
 own:∀ k,k<w.heap.size→v.ownBlock≠some k→w'.heap[k]?=w.heap[k]?
 vk:∀ g,v'.ownBlock=some g→v.ownBlock=some g∨w.heap.size≤g
theorem PtFr.trans {B:Nat} {v v' v'':Value} {w w' w'':World} (h:PtFr B v w v' w') (h':PtFr B v' w' v'' w''):PtFr B v w v'' w'':=by
 have hz:=h.below.size;refine⟨h.below.trans h'.below,fun k hk h2=>?_,fun g hg=>?_⟩
 ·rw[h'.own k (by omega) (fun h4=>(h.vk k h4).elim h2 (by omega)),h.own k hk h2]
 ·rcases h'.vk g hg with h1 | h1
  ·exact h.vk g h1
  ·exact .inr (by omega)
def PaPost (B:Nat) (r:Re) (p:Nat) (w:World) (v:Value) (N C:Nat) (cs:List Value) (e:Ending) (w':World):Prop:=
 ∃ (v':Value) (cs1:List Value),e= .returned v'∧w'.ownsRow B 103 14 v' (N+sizeE r) (cs++cs1)∧PCs (fun b=>w.heap.size≤b∧b<w'.heap.size∧v'.ownBlock≠some b) w' N cs1 (tabE r N p 0 C)∧PtFr B v w v' w'
structure PtS (B N:Nat) (cs:List Value) (v0:Value) (w0:World) (X:Nat→Prop) (v:Value) (rt cs1:List Value) (T1:List Nd) (w:World):Prop where
 row:w.ownsRow B 103 14 v (N+1+T1.length) (cs++(rt++cs1))
 cl:cs.length=N * 14
 rl:rt.length=14
 tcs:PCs (fun b=>w0.heap.size≤b∧b<w.heap.size∧v.ownBlock≠some b∧¬ X b) w (N+1) cs1 T1
 fr:PtFr B v0 w0 v w
 x:∀ b,X b→w0.heap.size≤b∧b<w.heap.size∧v.ownBlock≠some b
section
variable {B N:Nat} {cs:List Value} {v0:Value} {w0:World} {X:Nat→Prop} {v:Value} {rt cs1:List Value} {T1:List Nd} {w W:World}
theorem PtS.below (h:PtS B N cs v0 w0 X v rt cs1 T1 w) (hB:B≤w0.heap.size) (hb:Below w.heap.size w W) {X':Nat→Prop} (hX:∀ b,X' b→X b∨(w.heap.size≤b∧b<W.heap.size)):PtS B N cs v0 w0 X' v rt cs1 T1 W:=by
 have hz:=hb.size;have hz0:=h.fr.below.size;have hv:∀ g,v.ownBlock=some g→g<w.heap.size:=fun g hg=>(z8f h.row hg).1
 refine⟨z1x h.row hb,h.cl,h.rl,h.tcs.keep (fun b ⟨k1,k2,k3,k4⟩=>⟨⟨k1,by omega,k3,fun hx=>(hX b hx).elim k4 (by omega)⟩,hb.block b k2⟩),h.fr.trans ⟨hb.mono (by omega),fun k hk _=>hb.block k hk,fun _ h=> .inl h⟩,fun b hx=>?_⟩
 rcases hX b hx with h1 | ⟨h1,h2⟩
 ·obtain⟨k1,k2,k3⟩:=h.x b h1
  exact⟨k1,by omega,k3⟩
 ·exact⟨by omega,h2,fun e=>by have:=hv b e;omega⟩
theorem PtS.block (h:PtS B N cs v0 w0 X v rt cs1 T1 w):∃ g cap,v= .slice (some ⟨g,0,none⟩) (N+1+T1.length) cap∧N+1+T1.length≤cap∧B≤g∧g<w.heap.size∧(∀ j,w.frozen? ⟨g,j,none⟩=false)∧∀ (j:Nat) (u:Value),(cs++(rt++cs1))[j]?=some u→w.cell? ⟨g,j,none⟩=some u:=by
 rcases h.row.2 with ⟨_,e⟩ | ⟨g,cap,cur,hv,hB,hg,hcap,_⟩
 ·omega
 ·refine⟨g,cap,hv,by have:=hcap;omega,hB,(Array.getElem?_eq_some_iff.1 hg).1,z0m hg,fun j u hu=>?_⟩
  have:=h.row.cells (g:=g) (by rw[hv];rfl) _ _ hu;rw[Addr.add_lit,Nat.zero_add] at this;exact this
theorem PtS.blk {g cap m:Nat} (h:PtS B N cs v0 w0 X (.slice (some ⟨g,0,none⟩) m cap) rt cs1 T1 w):m=N+1+T1.length∧m≤cap∧B≤g∧g<w.heap.size∧(∀ j,w.frozen? ⟨g,j,none⟩=false)∧∀ (j:Nat) (u:Value),(cs++(rt++cs1))[j]?=some u→w.cell? ⟨g,j,none⟩=some u:=by
 obtain⟨g',cap',hv,hc,h1⟩:=h.block;injection hv with hv e1 e2
 injection hv with hv
 injection hv with hv _ _
 subst hv;subst e1 e2;exact⟨rfl,hc,h1⟩
theorem PtS.put {g cap i:Nat} {u:Value} {rt' cs1':List Value} {T1':List Nd} (h:PtS B N cs v0 w0 X v rt cs1 T1 w) (hv:v= .slice (some ⟨g,0,none⟩) (N+1+T1.length) cap) (hB:B≤g) (hset:(cs++(rt++cs1)).set i u=cs++(rt'++cs1')) (hl:rt'.length=14) (hT:T1'.length=T1.length)
  (ht:∀ (P:Nat→Prop) (w:World),PCs P w (N+1) cs1 T1→PCs P w (N+1) cs1' T1'):PtS B N cs v0 w0 X v rt' cs1' T1' (w.setCell ⟨g,i,none⟩ u):=by
 have hs:∀ k,k≠g→(w.setCell ⟨g,i,none⟩ u).heap[k]?=w.heap[k]?:=fun k hk=>Below.heap_setCell _ _ _ _ hk
 have hz:(w.setCell ⟨g,i,none⟩ u).heap.size=w.heap.size:=by simp
 have hvo:v.ownBlock=some g:=by rw[hv];rfl
 have hrow:=h.row;rw[hv] at hrow;have hst:=(hrow.stored i u).1;rw[hset,←hv,←hT] at hst;refine⟨hst,h.cl,hl,ht _ _ (h.tcs.keep (fun b ⟨k1,k2,k3,k4⟩=>⟨⟨k1,by omega,k3,k4⟩,hs b (fun e=>k3 (by rw[hvo,e]))⟩)),?_,fun b hx=>by rw[hz];exact h.x b hx⟩;refine⟨h.fr.below.setCell hB _,fun k hk hk2=>?_,h.fr.vk⟩;rw[hs k (fun e=>(h.fr.vk g hvo).elim (fun e2=>hk2 (by rw[e];exact e2)) (by omega))];exact h.fr.own k hk hk2
theorem x2q {i q:Nat} {u:Value} (hc:cs.length=N * 14) (hr:rt.length=14) (hq:q<14) (hi:i=N * 14+q):(cs++(rt++cs1)).set i u=cs++(rt.set q u++cs1):=by
 rw[List.set_append_right _ _ (by omega),List.set_append_left _ _ (by omega)]
 congr 3;omega
theorem y9w {i k:Nat} {u:Value} (hc:cs.length=N * 14) (hr:rt.length=14) (hi:i=(N+1) * 14+k):(cs++(rt++cs1)).set i u=cs++(rt++cs1.set k u):=by
 rw[List.set_append_right _ _ (by omega),List.set_append_right _ _ (by omega)]
 congr 3;omega
theorem PtS.xset {b i:Nat} {u:Value} (h:PtS B N cs v0 w0 X v rt cs1 T1 w) (hB:B≤w0.heap.size) (hx:X b):PtS B N cs v0 w0 X v rt cs1 T1 (w.setCell ⟨b,i,none⟩ u):=by
 have hs:∀ k,k≠b→(w.setCell ⟨b,i,none⟩ u).heap[k]?=w.heap[k]?:=fun k hk=>Below.heap_setCell _ _ _ _ hk
 have hz:(w.setCell ⟨b,i,none⟩ u).heap.size=w.heap.size:=by simp
 obtain⟨x1,x2,x3⟩:=h.x b hx;refine⟨rowK h.row (fun g hg=>hs g (fun e=>x3 (by rw[←e];exact hg))),h.cl,h.rl,h.tcs.keep (fun k ⟨k1,k2,k3,k4⟩=>⟨⟨k1,by omega,k3,k4⟩,hs k (fun e=>k4 (by rw[e];exact hx))⟩),?_,fun k hk=>by rw[hz];exact h.x k hk⟩;refine⟨h.fr.below.setCell (by show B≤b;omega) _,fun k hk hk2=>?_,h.fr.vk⟩;rw[hs k (by omega)];exact h.fr.own k hk hk2
theorem PtS.child {r:Re} {p C:Nat} {e:Ending} (h:PtS B N cs v0 w0 X v rt cs1 T1 w) (hp:PaPost B r p w v (N+1+T1.length) C (cs++(rt++cs1)) e W):
  ∃ v' cs2,e= .returned v'∧PtS B N cs v0 w0 X v' rt (cs1++cs2) (T1++tabE r (N+1+T1.length) p 0 C) W∧∀ b,X b→W.heap[b]?=w.heap[b]?:=by
 obtain⟨v',cs2,rfl,h2,h3,h5⟩:=hp;have hz:=h5.below.size;have hz0:=h.fr.below.size
 have hX:∀ b,X b→W.heap[b]?=w.heap[b]?:=fun b hx=>by
  obtain⟨x1,x2,x3⟩:=h.x b hx;exact h5.own b x2 x3
 have hv':∀ b,b<w.heap.size→v.ownBlock≠some b→v'.ownBlock≠some b:=fun b hb hne e=>(h5.vk b e).elim hne (by omega)
 refine⟨v',cs2,rfl,⟨?_,h.cl,h.rl,?_,h.fr.trans h5,fun b hx=>?_⟩,hX⟩
 ·rw[List.length_append,z25,show cs++(rt++(cs1++cs2))=cs++(rt++cs1)++cs2 by simp,show N+1+(T1.length+sizeE r)=N+1+T1.length+sizeE r by omega]
  exact h2
 ·refine PCs.app (h.tcs.keep (fun b ⟨k1,k2,k3,k4⟩=>⟨⟨k1,by omega,hv' b k2 k3,k4⟩,h5.own b k2 k3⟩)) (h3.keep (fun b ⟨k1,k2,k3⟩=>⟨⟨by omega,k2,k3,fun hx=>by have:=(h.x b hx).2.1;omega⟩,rfl⟩)) rfl
 ·obtain⟨x1,x2,x3⟩:=h.x b hx
  exact⟨x1,by omega,hv' b x2 x3⟩
end
def rt14 (r:Re) (pi:Int) (R:Option Addr) (rc:Nat) (kv:Value) (e0 e1:Bool):List Value:=[.int .i64 r.kind,.int .u64 r.set.1.toNat,.int .u64 r.set.2.1.toNat,.int .u64 r.set.2.2.1.toNat,.int .u64 r.set.2.2.2.toNat,.slice R r.kids.length rc,.int .i64 r.lo,.int .i64 r.hi,.int .i64 r.num,kv,.int .i64 pi,.int .i64 0,.bool e0,.bool e1]
theorem x1c:(Tryd.prog.info? 103).map (fun i=>(i.zero,i.size,i.bytes))=some (some (.agg #[.int .i64 0,.int .u64 0,.int .u64 0,.int .u64 0,.int .u64 0,.slice none 0 0,.int .i64 0,.int .i64 0,.int .i64 0,.slice none 0 0,.int .i64 0,.int .i64 0,.bool false,.bool false]),14,136):=by kernel_rfl
theorem x3g:(Tryd.prog.info? 3).map (fun i=>(i.zero,i.size,i.bytes))=some (some (.int .i64 0),1,8):=by kernel_rfl
theorem y83 {B N g cap:Nat} {v:Value} {w W w3:World} {cs rt:List Value} {X:Nat→Prop} (hrow:w.ownsRow B 103 14 v N cs) (hB:B≤w.heap.size) (hb:Below w.heap.size w W) (hown:w3.ownsRow B 103 14 (.slice (some ⟨g,0,none⟩) (N+1) cap) (N+1) (cs++rt)) (hg:W.grownBy w3 v.ownBlock)
  (hat:v.ownBlock=some g∨g=W.heap.size) (hrl:rt.length=14) (hX:∀ b,X b→w.heap.size≤b∧b<W.heap.size):
  PtS B N cs v w X (.slice (some ⟨g,0,none⟩) (N+1) cap) rt [] [] w3∧∀ b,X b→w3.heap[b]?=W.heap[b]?:=by
 have hz:=hg.size;have hzb:=hb.size;have hW:∀ k,k<W.heap.size→v.ownBlock≠some k→w3.heap[k]?=W.heap[k]?:=fun k hk hne=>hg.block k hk (fun e=>hne e.symm)
 have hlt:∀ b,v.ownBlock=some b→b<w.heap.size:=fun b hb=>(z8f hrow hb).1
 refine⟨⟨?_,?_,hrl,PCs.nil _ _ _,⟨?_,fun k hk h2=>?_,fun g' hg'=>?_⟩,fun b hb=>?_⟩,fun b hb=>?_⟩
 ·rw[List.append_nil];exact hown
 ·have:=hrow.1;omega
 ·exact((hb.mono (by omega)).grown hg (by omega) fun k hk=>(z8f hrow hk).2)
 ·rw[hW k (by omega) h2];exact hb.block k hk
 ·have:g=g':=by simpa[Value.ownBlock] using hg'
  subst this
  rcases hat with h | h
  ·exact .inl h
  ·exact .inr (by omega)
 ·obtain⟨h1,h2⟩:=hX b hb
  refine⟨h1,by omega,fun e=>?_⟩;have:g=b:=by simpa[Value.ownBlock] using e
  rcases hat with h | h
  ·have:=hlt _ h;omega
  ·omega
 ·obtain⟨h1,h2⟩:=hX b hb
  exact hW b h2 fun e=>by have:=hlt _ e;omega
structure KidN (w:World) (KB ln N:Nat) (ks:List Re) (j:Nat):Prop where
 lt:KB<w.heap.size
 f:∀ i,w.frozen? ⟨KB,i,none⟩=false
 any:∀ i,i<ln→∃ u:Int,w.cell? ⟨KB,i,none⟩=some (.int .i64 u)
 at_:∀ i,i<j→w.cell? ⟨KB,i,none⟩=some (.int .i64 (N+1+sizeL (ks.take i):Nat))
section
variable {w W:World} {KB ln N j:Nat} {ks:List Re}
theorem KidN.keep (h:KidN w KB ln N ks j) (hs:W.heap[KB]?=w.heap[KB]?):KidN W KB ln N ks j:=by
 refine⟨?_,fun i=>(y1i hs i).trans (h.f i),fun i hi=>?_,fun i hi=>(World.cell?_of_block hs).trans (h.at_ i hi)⟩
 ·have h1:w.heap[KB]?=some (w.heap[KB]'h.lt):=Array.getElem?_eq_getElem h.lt
  rw[h1] at hs;exact(Array.getElem?_eq_some_iff.1 hs).1
 ·obtain⟨u,hu⟩:=h.any i hi
  exact⟨u,(World.cell?_of_block hs).trans hu⟩
theorem KidN.set (h:KidN w KB ln N ks j) (hj:j<ln) {u:Int} (hu:u=(N+1+sizeL (ks.take j):Nat)):KidN (w.setCell ⟨KB,j,none⟩ (.int .i64 u)) KB ln N ks (j+1):=by
 obtain⟨u0,hu0⟩:=h.any j hj;have hs:=World.cell?_setCell_same w ⟨KB,j,none⟩ (.int .i64 u) hu0;have ho:∀ i,i≠j→(w.setCell ⟨KB,j,none⟩ (.int .i64 u)).cell? ⟨KB,i,none⟩=w.cell? ⟨KB,i,none⟩:=fun i hi=>World.cell?_setCell_other _ _ _ _ (by intro e;injection e with _ e;exact hi e.symm)
 refine⟨by simpa using h.lt,fun i=>by rw[World.frozen?_setCell];exact h.f i,fun i hi=>?_,fun i hi=>?_⟩
 ·by_cases e:i=j
  ·subst e;exact⟨u,hs⟩
  ·obtain⟨u1,hu1⟩:=h.any i hi
   exact⟨u1,(ho i e).trans hu1⟩
 ·by_cases e:i=j
  ·subst e;rw[hs,hu]
  ·exact(ho i e).trans (h.at_ i (by omega))
theorem y85 {z:Value} {n t:Nat} (ht:t<n):(madeCells #[z] n)[t]?=some z:=by simp[madeCells,ht,Nat.mod_one]
theorem y5o (hw:w.heap[KB]?=some (.cells (madeCells #[.int .i64 0] ln) 3)):KidN w KB ln N ks 0:=
 ⟨(Array.getElem?_eq_some_iff.1 hw).1,z0m hw,fun i hi=>⟨0,by rw[z0c hw,y85 hi]⟩,fun i hi=>by omega⟩
end
section
variable {B N:Nat} {cs:List Value} {v0:Value} {w0:World} {X:Nat→Prop} {v:Value} {rt cs1:List Value} {C:Nat} {w W:World} {ks:List Re} {q:Bool} {p:Nat}
theorem y5p {j n c:Nat} {x:Re} (hx:ks[j]?=some x) (hq:q=false∨j=0):tabL (ks.take j) q n p c++tabE x (n+sizeL (ks.take j)) p 0 (c+cntL (ks.take j))=tabL (ks.take (j+1)) q n p c:=by
 rw[z5k hx]
 rcases hq with rfl | rfl
 ·rw[z9k]
 ·simp only[List.take_zero,List.nil_append,z5d]
  simp[tabL,sizeL,cntL]
theorem y5g {j g cap m c:Nat} {x:Re} (hx:ks[j+1]?=some x) (h:PtS B N cs v0 w0 X (.slice (some ⟨g,0,none⟩) m cap) rt cs1 (tabL (ks.take (j+1)) true (N+1) p c) w):
  (∃ u:Value,w.cell? ⟨g,(N+1+sizeL (ks.take j)) * 14+11,none⟩=some u)∧∃ cs1' T1',PtS B N cs v0 w0 X (.slice (some ⟨g,0,none⟩) m cap) rt cs1' T1' (w.setCell ⟨g,(N+1+sizeL (ks.take j)) * 14+11,none⟩ (.int .i64 (N+1+sizeL (ks.take (j+1)):Nat)))∧
   T1'.length=sizeL (ks.take (j+1))∧T1'++tabE x (N+1+sizeL (ks.take (j+1))) p 0 (c+cntL (ks.take (j+1)))=tabL (ks.take (j+1+1)) true (N+1) p c:=by
 have hj:j+1<ks.length:=(List.getElem?_eq_some_iff.1 hx).1;obtain⟨y,hy⟩:∃ y,ks[j]?=some y:=⟨_,List.getElem?_eq_getElem (by omega)⟩;have e1:=z5k hy;have e2:=z5k hx;obtain⟨z,h1,h2⟩:=z97 (ks.take j) y x (N+1) p c;rw[←e1] at h1 h2;rw[←e2] at h2;have hlt:=(List.getElem?_eq_some_iff.1 h1).1;obtain⟨hm,_,hBg,hgl,hfg,hcell⟩:=h.blk;have hcl:=h.cl;have hc1:=h.tcs.len;have hin:sizeL (ks.take j) * 14+11<cs1.length:=by rw[hc1];omega
 refine⟨⟨cs1[sizeL (ks.take j) * 14+11]'hin,hcell _ _ ?_⟩,cs1.set (sizeL (ks.take j) * 14+11) (.int .i64 (N+1+sizeL (ks.take (j+1)):Nat)),(tabL (ks.take (j+1)) true (N+1) p c).set (sizeL (ks.take j)) { z with nx:=N+1+sizeL (ks.take (j+1)) },?_,by rw[List.length_set,z2d],h2.symm⟩
 ·rw[List.getElem?_append_right (by omega),List.getElem?_append_right (by rw[h.rl];omega),hcl,h.rl,show (N+1+sizeL (ks.take j)) * 14+11 - N * 14 - 14=sizeL (ks.take j) * 14+11 by omega]
  exact List.getElem?_eq_getElem hin
 ·exact h.put (g:=g) (cap:=cap) (by rw[←hm]) hBg (y9w hcl h.rl (by omega)) h.rl (by rw[List.length_set]) (fun P w ht=>ht.setNx h1 _)
theorem x4b {g cap KB ln kc rc c:Nat} {R:Option Addr} {r:Re} {pp:Nat} {pi:Int} (h:PtS B N cs v0 w0 X (.slice (some ⟨g,0,none⟩) (N+1+sizeL r.kids) cap) (rt14 r pi R rc (.slice (some ⟨KB,0,none⟩) ln kc) (cntQ r) (apartQ r)) cs1 (tabL r.kids (decide (r.kind=4)) (N+1) N c) w) (hc:c=if cntQ r=true then C+1 else C) (hk:KidN w KB ln N r.kids ln) (hl:ln=r.kids.length) (hx:X KB)
  (hpi:pi=if N=0 then -1 else (pp:Int)):PaPost B r pp w0 v0 N C cs (.returned (.slice (some ⟨g,0,none⟩) (N+1+sizeL r.kids) cap)) w:=by
 subst hc;obtain⟨x1,x2,x3⟩:=h.x KB hx
 have htab:tabE r N pp 0 C=⟨r,kidsAt (N+1) r.kids,pp,0,if cntQ r=true then C+1 else 0⟩::tabL r.kids (decide (r.kind=4)) (N+1) N (if cntQ r=true then C+1 else C):=by
  cases r;rw[tabE];rfl
 refine⟨_,rt14 r pi R rc (.slice (some ⟨KB,0,none⟩) ln kc) (cntQ r) (apartQ r)++cs1,rfl,?_,?_,h.fr⟩
 ·have:=h.row
  rw[z2d] at this;rw[z28,←Nat.add_assoc];exact this
 ·rw[htab,←List.singleton_append]
  refine PCs.app (M:=N+1) ?_ (h.tcs.keep (fun b ⟨k1,k2,k3,_⟩=>⟨⟨k1,k2,k3⟩,rfl⟩)) rfl
  have hone:=PCs.one (P:=fun b=>w0.heap.size≤b∧b<w.heap.size∧(Value.slice (some ⟨g,0,none⟩) (N+1+sizeL r.kids) cap).ownBlock≠some b) (w:=w) (N:=N) (x:=⟨r,kidsAt (N+1) r.kids,pp,0,if cntQ r=true then C+1 else 0⟩) (R:=R) (rc:=rc) (K:=some ⟨KB,0,none⟩) (c:=kc) (fun i m hi=>by
   have hil:=(List.getElem?_eq_some_iff.1 hi).1;rw[z2p] at hil;rw[z7q _ _ _ hil] at hi;injection hi with hi
   refine⟨KB,rfl,⟨x1,x2,x3⟩,?_⟩;rw[←hi];exact hk.at_ i (by omega))
  have e:rt14 r pi R rc (.slice (some ⟨KB,0,none⟩) ln kc) (cntQ r) (apartQ r)=nd14 ⟨r,kidsAt (N+1) r.kids,pp,0,if cntQ r=true then C+1 else 0⟩ (parQ N ⟨r,kidsAt (N+1) r.kids,pp,0,if cntQ r=true then C+1 else 0⟩) R rc (some ⟨KB,0,none⟩) kc:=by
   unfold rt14 nd14 parQ;simp only[z2p];rw[←hl,hpi]
   rfl
  rw[e];exact hone
end
end
section
set_option linter.unusedSimpArgs false
structure PaBox (w W:World) (KB PB ln:Nat) (X9 X14:Array Value):Prop where
 b4:W.heap[w.heap.size]?=some (.cells X9 27)
 bp:W.heap[PB]?=some (.cells X14 103)
 bk:W.heap[KB]?=some (.cells (madeCells #[.int .i64 0] ln) 3)
 low:Below w.heap.size w W
 ne:w.heap.size<KB∧w.heap.size<PB∧KB≠PB
theorem pbox1 (w:World) (X9 Y:Array Value) (ln:Nat):PaBox w ((((w.alloc (.cells X9 27)).alloc (.cells (madeCells #[.int .i64 0] ln) 3)).alloc (.cells Y 103)).drew) (w.heap.size+1) (w.heap.size+1+1) ln X9 Y:=by
 have e1:=heap_alloc_new (w.alloc (.cells X9 27)) (.cells (madeCells #[.int .i64 0] ln) 3);have e2:=heap_alloc_new ((w.alloc (.cells X9 27)).alloc (.cells (madeCells #[.int .i64 0] ln) 3)) (.cells Y 103);simp only[World.size_alloc] at e1 e2;refine⟨?_,e2,?_,(((z0b w _).alloc (by simp) _).alloc (by simp;omega) _).drew,by omega,by omega,by omega⟩
 ·show (World.alloc _ _).heap[w.heap.size]?=_
  rw[(z0b _ _).block _ (by simp;omega),(z0b _ _).block _ (by simp),heap_alloc_new]
 ·show (World.alloc _ _).heap[w.heap.size+1]?=_
  rw[(z0b _ _).block _ (by simp)];exact e1
theorem pbox2 (w:World) (X9 Y:Array Value) (ln:Nat):PaBox w ((((w.alloc (.cells X9 27)).alloc (.cells Y 103)).alloc (.cells (madeCells #[.int .i64 0] ln) 3)).drew) (w.heap.size+1+1) (w.heap.size+1) ln X9 Y:=by
 have e1:=heap_alloc_new (w.alloc (.cells X9 27)) (.cells Y 103);have e2:=heap_alloc_new ((w.alloc (.cells X9 27)).alloc (.cells Y 103)) (.cells (madeCells #[.int .i64 0] ln) 3);simp only[World.size_alloc] at e1 e2;refine⟨?_,?_,e2,(((z0b w _).alloc (by simp) _).alloc (by simp;omega) _).drew,by omega,by omega,by omega⟩
 ·show (World.alloc _ _).heap[w.heap.size]?=_
  rw[(z0b _ _).block _ (by simp;omega),(z0b _ _).block _ (by simp),heap_alloc_new]
 ·show (World.alloc _ _).heap[w.heap.size+1]?=_
  rw[(z0b _ _).block _ (by simp)];exact e1
def X3 (w:World) (KB PB:Nat):Nat→Prop:=fun b=>b=w.heap.size∨b=KB∨b=PB
structure PaI (B N:Nat) (cs:List Value) (v:Value) (w:World) (KB PB ln:Nat) (X9 X14:Array Value) (rt:List Value) (ks:List Re) (T:List Nd) (j M g cap:Nat) (cs1:List Value) (wr:World):Prop where
 mm:M=N+1+T.length
 pt:PtS B N cs v w (X3 w KB PB) (.slice (some ⟨g,0,none⟩) M cap) rt cs1 T wr
 b4:wr.heap[w.heap.size]?=some (.cells X9 27)
 bp:wr.heap[PB]?=some (.cells X14 103)
 kn:KidN wr KB ln N ks j
 ne:w.heap.size<KB∧w.heap.size<PB∧KB≠PB
 bb:B≤w.heap.size
section
variable {B N:Nat} {cs:List Value} {v:Value} {w:World} {KB PB ln:Nat} {X9 X14:Array Value} {rt:List Value} {ks:List Re} {T:List Nd} {j M g cap:Nat} {cs1:List Value} {wr W:World}
theorem PaI.own (h:PaI B N cs v w KB PB ln X9 X14 rt ks T j M g cap cs1 wr):g≠w.heap.size∧g≠KB∧g≠PB∧w.heap.size<wr.heap.size∧KB<wr.heap.size∧PB<wr.heap.size∧g<wr.heap.size:=by
 have hx:=h.pt.x;have h1:=hx w.heap.size (.inl rfl);have h2:=hx KB (.inr (.inl rfl));have h3:=hx PB (.inr (.inr rfl));have e:∀ b,(Value.slice (some ⟨g,0,none⟩) M cap).ownBlock≠some b→g≠b:=fun b hb e=>hb (by rw[e];rfl)
 exact⟨e _ h1.2.2,e _ h2.2.2,e _ h3.2.2,h1.2.1,h2.2.1,h3.2.1,h.pt.blk.2.2.2.1⟩
theorem PaI.next (h:PaI B N cs v w KB PB ln X9 X14 rt ks T j M g cap cs1 wr) (hb:Below wr.heap.size wr W):PaI B N cs v w KB PB ln X9 X14 rt ks T j M g cap cs1 W:=by
 obtain⟨_,_,_,l1,l2,l3,_⟩:=h.own;exact⟨h.mm,h.pt.below h.bb hb fun b hb=> .inl hb,(hb.block _ l1).trans h.b4,(hb.block _ l3).trans h.bp,h.kn.keep (hb.block _ l2),h.ne,h.bb⟩
theorem PaI.kid (h:PaI B N cs v w KB PB ln X9 X14 rt ks T j M g cap cs1 wr) (hj:j<ln) (hT:T.length=sizeL (ks.take j)):PaI B N cs v w KB PB ln X9 X14 rt ks T (j+1) M g cap cs1 (wr.setCell ⟨KB,j,none⟩ (.int .i64 (M:Nat))):=by
 obtain⟨n1,n2,n3⟩:=h.ne;have hs:∀ k,k≠KB→(wr.setCell ⟨KB,j,none⟩ (.int .i64 (M:Nat))).heap[k]?=wr.heap[k]?:=fun k hk=>Below.heap_setCell _ _ _ _ hk
 exact⟨h.mm,h.pt.xset h.bb (.inr (.inl rfl)),(hs _ (by omega)).trans h.b4,(hs _ (by omega)).trans h.bp,h.kn.set hj (by rw[h.mm,hT]),h.ne,h.bb⟩
theorem PaI.tell {p c i:Nat} {x:Re} (hx:ks[i+1]?=some x) (h:PaI B N cs v w KB PB ln X9 X14 rt ks (tabL (ks.take (i+1)) true (N+1) p c) j M g cap cs1 wr):
  (∃ u:Value,wr.cell? ⟨g,(N+1+sizeL (ks.take i)) * 14+11,none⟩=some u)∧∃ cs1' T1',PaI B N cs v w KB PB ln X9 X14 rt ks T1' j M g cap cs1' (wr.setCell ⟨g,(N+1+sizeL (ks.take i)) * 14+11,none⟩ (.int .i64 (M:Nat)))∧
   T1'.length=sizeL (ks.take (i+1))∧T1'++tabE x (N+1+sizeL (ks.take (i+1))) p 0 (c+cntL (ks.take (i+1)))=tabL (ks.take (i+1+1)) true (N+1) p c:=by
 obtain⟨o1,o2,o3,_⟩:=h.own;obtain⟨u,cs1',T1',h1,h2,h3⟩:=y5g hx h.pt;have hM:M=N+1+sizeL (ks.take (i+1)):=by rw[h.mm,z2d]
 rw[←hM] at h1;have hs:∀ k,k≠g→(wr.setCell ⟨g,(N+1+sizeL (ks.take i)) * 14+11,none⟩ (.int .i64 (M:Nat))).heap[k]?=wr.heap[k]?:=fun k hk=>Below.heap_setCell _ _ _ _ hk
 exact⟨u,cs1',T1',⟨by rw[hM,h2],h1,(hs _ (Ne.symm o1)).trans h.b4,(hs _ (Ne.symm o3)).trans h.bp,h.kn.keep (hs _ (Ne.symm o2)),h.ne,h.bb⟩,h2,h3⟩
theorem PaI.call {x:Re} {p c:Nat} {e:Ending} {q:Bool} (h:PaI B N cs v w KB PB ln X9 X14 rt ks T (j+1) M g cap cs1 wr) (hT:T.length=sizeL (ks.take j)) (hE:T++tabE x (N+1+sizeL (ks.take j)) p 0 (c+cntL (ks.take j))=tabL (ks.take (j+1)) q (N+1) p c)
  (hp:PaPost B x p wr (.slice (some ⟨g,0,none⟩) M cap) M (c+cntL (ks.take j)) (cs++(rt++cs1)) e W):
  ∃ g' cap' M' cs2,e= .returned (.slice (some ⟨g',0,none⟩) (M':Nat) cap')∧PaI B N cs v w KB PB ln X9 X14 rt ks (tabL (ks.take (j+1)) q (N+1) p c) (j+1) M' g' cap' cs2 W:=by
 obtain⟨_,_,_,l1,l2,l3,_⟩:=h.own;rw[h.mm] at hp;obtain⟨v',cs2,rfl,h2,h3⟩:=PtS.child (by have:=h.pt;rw[h.mm] at this;exact this) hp;rw[hT,hE] at h2;obtain⟨g',cap',rfl,_⟩:=h2.block;exact⟨g',cap',_,cs1++cs2,rfl,rfl,h2,(h3 _ (.inl rfl)).trans h.b4,(h3 _ (.inr (.inr rfl))).trans h.bp,h.kn.keep (h3 _ (.inr (.inl rfl))),h.ne,h.bb⟩
theorem PaI.root {q:Nat} {u:Value} {rt':List Value} (h:PaI B N cs v w KB PB ln X9 X14 rt ks T j M g cap cs1 wr) (hq:q<14) (hrt:rt.set q u=rt'):PaI B N cs v w KB PB ln X9 X14 rt' ks T j M g cap cs1 (wr.setCell ⟨g,N * 14+q,none⟩ u):=by
 obtain⟨o1,o2,o3,_⟩:=h.own;have hs:∀ k,k≠g→(wr.setCell ⟨g,N * 14+q,none⟩ u).heap[k]?=wr.heap[k]?:=fun k hk=>Below.heap_setCell _ _ _ _ hk
 refine⟨h.mm,h.pt.put (g:=g) (cap:=cap) (by rw[h.mm]) h.pt.blk.2.2.1 (by rw[x2q h.pt.cl h.pt.rl hq rfl,hrt]) (by rw[←hrt,List.length_set];exact h.pt.rl) rfl (fun _ _ q=>q),(hs _ (Ne.symm o1)).trans h.b4,(hs _ (Ne.symm o3)).trans h.bp,h.kn.keep (hs _ (Ne.symm o2)),h.ne,h.bb⟩
theorem PaI.cell {q:Nat} {u:Value} (h:PaI B N cs v w KB PB ln X9 X14 rt ks T j M g cap cs1 wr) (hu:rt[q]?=some u):wr.cell? ⟨g,N * 14+q,none⟩=some u:=by
 have hq:q<14:=by rw[←h.pt.rl];exact(List.getElem?_eq_some_iff.1 hu).1
 have hcl:=h.pt.cl;refine h.pt.blk.2.2.2.2.2 _ _ ?_;rw[List.getElem?_append_right (by omega),hcl,Nat.add_sub_cancel_left,List.getElem?_append_left (by rw[h.pt.rl];exact hq)];exact hu
theorem PaI.rest (h:PaI B N cs v w KB PB ln X9 X14 rt ks T j M g cap cs1 wr):∀ i u,cs1[i]?=some u→wr.cell? ⟨g,(N+1) * 14+i,none⟩=some u:=fun i u hu=>by
 have hcl:=h.pt.cl;have hrl:=h.pt.rl;refine h.pt.blk.2.2.2.2.2 _ _ ?_;rw[List.getElem?_append_right (by omega),List.getElem?_append_right (by omega),hcl,hrl,show (N+1) * 14+i - N * 14 - 14=i by omega];exact hu
end
end
section
set_option linter.unusedSimpArgs false
theorem y6c {B:Nat} (r:Re):∀ (A:Option Addr) (c p:Nat) (pi:Int) (w:World) (v:Value) (N C:Nat) (cs:List Value),Kids (Lt B) w A r→w.ownsRow B 103 14 v N cs→B≤w.heap.size→N+sizeE r≤1000→pi=(if N=0 then -1 else (p:Int))→
  Calls Tryd.prog 28 #[v,valR r A c,.int .i64 pi] w (PaPost B r p w v N C cs):=by
 induction r using Re.ind with
 | h k S ks lo hi n ih=>
   intro A c p pi w v N C cs hk hrow hB hN hpi;obtain⟨A0,c0,hv0⟩:=z1k hrow;obtain⟨i0,hi0,hz0,hz1,hz2⟩:=info_parts x1c;obtain⟨r,hr⟩:∃ r,r=Re.mk k S ks lo hi n:=⟨_,rfl⟩;have HR:=Lib.hid hr;have HROW:=Lib.hid (And.intro hrow hv0);have HK:=Lib.hid hk;have HI:=Lib.hid ih;have HBB:=Lib.hid hB;have HPI:=Lib.hid hpi;have HS:Hid (N+sizeE r≤1000):=Lib.hid (by rw[hr];exact hN);have hN1:N+1≤1000:=by rw[sizeE] at hN;omega
   have HPO:Hid (∀ e w',PaPost B r p w v N C cs e w'→PaPost B (Re.mk k S ks lo hi n) p w v N C cs e w'):=Lib.hid fun e w' h=>by rw[←hr];exact h
   suffices hs:Calls Tryd.prog 28 #[v,valR (Re.mk k S ks lo hi n) A c,.int .i64 pi] w fun e w'=>Hid (PaPost B r p w v N C cs e w') from hs.mono fun e w' h=>HPO.out e w' h.out
   simp only[valR];rw[hv0];obtain⟨ln,hln⟩:∃ ln,ln=ks.length:=⟨_,rfl⟩;rw[←hln];have HL:=Lib.hid hln;obtain⟨s0,hs0⟩:∃ s0:Int,s0=S.1.toNat:=⟨_,rfl⟩;obtain⟨s1,hs1⟩:∃ s1:Int,s1=S.2.1.toNat:=⟨_,rfl⟩;obtain⟨s2,hs2⟩:∃ s2:Int,s2=S.2.2.1.toNat:=⟨_,rfl⟩;obtain⟨s3,hs3⟩:∃ s3:Int,s3=S.2.2.2.toNat:=⟨_,rfl⟩;rw[←hs0,←hs1,←hs2,←hs3];have HRT:Hid (∀ (pi:Int) (kv:Value) (e0 e1:Bool),rt14 r pi A c kv e0 e1=[.int .i64 k,.int .u64 s0,.int .u64 s1,.int .u64 s2,.int .u64 s3,.slice A ln c,.int .i64 lo,.int .i64 hi,.int .i64 n,kv,.int .i64 pi,.int .i64 0,.bool e0,.bool e1]):=Lib.hid fun pi kv e0 e1=>by rw[hr,hs0,hs1,hs2,hs3,hln];rfl
   have hln9:ln≤1000:=by
    have:=HS.out;rw[z28,hr] at this;have h2:=z00 ks;simp only[Re.kids] at this;omega
   have hmk:=run_make_row' (P:=Tryd.prog) 101 3 (.int .i64 0) 8 Tryd.underlying101 x3g rfl .i64 .i64 ln (by omega) (by omega);obtain⟨W,hW⟩:∃ W,W=w.alloc (.cells #[.int .i64 k,.int .u64 s0,.int .u64 s1,.int .u64 s2,.int .u64 s3,.slice A ln c,.int .i64 lo,.int .i64 hi,.int .i64 n] 27):=⟨_,rfl⟩;have hbx:W.heap[w.heap.size]?=some (.cells #[.int .i64 k,.int .u64 s0,.int .u64 s1,.int .u64 s2,.int .u64 s3,.slice A ln c,.int .i64 lo,.int .i64 hi,.int .i64 n] 27):=by rw[hW];exact heap_alloc_new w _
   have HSQ:Hid (∀ U:World,U.heap[w.heap.size]?=some (.cells #[.int .i64 k,.int .u64 s0,.int .u64 s1,.int .u64 s2,.int .u64 s3,.slice A ln c,.int .i64 lo,.int .i64 hi,.int .i64 n] 27)→U.cell? ⟨w.heap.size,0,none⟩=some (.int .i64 k)∧U.cell? ⟨w.heap.size,1,none⟩=some (.int .u64 s0)∧U.cell? ⟨w.heap.size,2,none⟩=some (.int .u64 s1)∧U.cell? ⟨w.heap.size,3,none⟩=some (.int .u64 s2)∧U.cell? ⟨w.heap.size,4,none⟩=some (.int .u64 s3)∧U.cell? ⟨w.heap.size,5,none⟩=some (.slice A ln c)∧U.cell? ⟨w.heap.size,6,none⟩=some (.int .i64 lo)∧U.cell? ⟨w.heap.size,7,none⟩=some (.int .i64 hi)∧U.cell? ⟨w.heap.size,8,none⟩=some (.int .i64 n)):=Lib.hid fun U hU=>by
    have l:=z0c hU;exact⟨(l 0).trans rfl,(l 1).trans rfl,(l 2).trans rfl,(l 3).trans rfl,(l 4).trans rfl,(l 5).trans rfl,(l 6).trans rfl,(l 7).trans rfl,(l 8).trans rfl⟩
   have HSW:Hid (∀ U:World,Below W.heap.size W U→U.heap[w.heap.size]?=some (.cells #[.int .i64 k,.int .u64 s0,.int .u64 s1,.int .u64 s2,.int .u64 s3,.slice A ln c,.int .i64 lo,.int .i64 hi,.int .i64 n] 27)):=Lib.hid fun U hU=>by rw[hU.block _ (Array.getElem?_eq_some_iff.1 hbx).1];exact hbx
   have HW:=Lib.hid hW
   have HP1:Hid (∀ Y:Array Value,Hid (PaBox w ((((W.alloc (.cells (madeCells #[.int .i64 0] ln) 3)).alloc (.cells Y 103)).drew)) W.heap.size (W.heap.size+1) ln #[.int .i64 k,.int .u64 s0,.int .u64 s1,.int .u64 s2,.int .u64 s3,.slice A ln c,.int .i64 lo,.int .i64 hi,.int .i64 n] Y)):=Lib.hid fun Y=>Lib.hid (by
    have e:W.heap.size=w.heap.size+1:=by rw[hW];simp
    rw[e,hW];exact pbox1 w _ Y ln)
   have HP2:Hid (∀ Y:Array Value,Hid (PaBox w ((((W.alloc (.cells Y 103)).alloc (.cells (madeCells #[.int .i64 0] ln) 3)).drew)) (W.heap.size+1) W.heap.size ln #[.int .i64 k,.int .u64 s0,.int .u64 s1,.int .u64 s2,.int .u64 s3,.slice A ln c,.int .i64 lo,.int .i64 hi,.int .i64 n] Y)):=Lib.hid fun Y=>Lib.hid (by
    have e:W.heap.size=w.heap.size+1:=by rw[hW];simp
    rw[e,hW];exact pbox2 w _ Y ln)
   clear hr hrow hk ih hB hN hpi hln hs0 hs1 hs2 hs3 hv0 hbx hW;go_enter Tryd.func28,Tryd.ntmps28
   go_upto_region 2 with (fail)
   rw[←HW.out];obtain⟨y0,y1,y2,y3,y4,y5,y6,y7,y8⟩:=HSQ.out W (HSW.out W (Below.refl _ _))
   go_cut [8] from 9 to 95 (fun t8 wx=>∃ KB PB:Nat,t8= .pointer (some ⟨PB,0,none⟩)∧Hid (PaBox w wx KB PB ln #[.int .i64 k,.int .u64 s0,.int .u64 s1,.int .u64 s2,.int .u64 s3,.slice A ln c,.int .i64 lo,.int .i64 hi,.int .i64 n] #[.int .i64 k,.int .u64 s0,.int .u64 s1,.int .u64 s2,.int .u64 s3,.slice A ln c,.int .i64 lo,.int .i64 hi,.int .i64 n,.slice (some ⟨KB,0,none⟩) ln ln,.int .i64 pi,.int .i64 0,.bool false,.bool false]))
   case first=>
    have q1:=fun o=>HSQ.out (W.alloc o) (HSW.out _ (z0b W o))
    have q2:=fun o=>HSQ.out (W.drew.alloc o) (HSW.out _ ((Below.refl _ W).drew.alloc (by simp) o))
    have q3:=fun o o'=>HSQ.out ((W.drew.alloc o).alloc o') (HSW.out _ (((Below.refl _ W).drew.alloc (by simp) o).alloc (by simp) o'))
    have q4:=fun o o'=>HSQ.out ((W.alloc o).alloc o') (HSW.out _ ((z0b W o).alloc (by simp) o'))
    have q5:=fun o o'=>HSQ.out ((W.alloc o).drew.alloc o') (HSW.out _ ((z0b W o).drew.alloc (by simp) o'))
    go_region
    all_goals (try go_wp2_with fail)
    all_goals go_meet
    all_goals (first | exact⟨_,_,rfl,HP1.out _⟩ | exact⟨_,_,rfl,HP2.out _⟩)
   case rest=>
    obtain⟨KB,PB,rfl,HX⟩:=hcut;have HNE:=Lib.hid HX.out.ne;have HZ:Hid (KB<wc.heap.size∧PB<wc.heap.size):=Lib.hid ⟨(Array.getElem?_eq_some_iff.1 HX.out.bk).1,(Array.getElem?_eq_some_iff.1 HX.out.bp).1⟩;obtain⟨kv,hkv⟩:∃ kv:Value,kv= .slice (some ⟨KB,0,none⟩) ln ln:=⟨_,rfl⟩;have HKV:=Lib.hid hkv
    have HXP:Hid (∀ U:World,U.heap[PB]?=some (.cells #[.int .i64 k,.int .u64 s0,.int .u64 s1,.int .u64 s2,.int .u64 s3,.slice A ln c,.int .i64 lo,.int .i64 hi,.int .i64 n,.slice (some ⟨KB,0,none⟩) ln ln,.int .i64 pi,.int .i64 0,.bool false,.bool false] 103)→U.cell? ⟨PB,0,none⟩=some (.int .i64 k)∧U.cell? ⟨PB,1,none⟩=some (.int .u64 s0)∧U.cell? ⟨PB,2,none⟩=some (.int .u64 s1)∧U.cell? ⟨PB,3,none⟩=some (.int .u64 s2)∧U.cell? ⟨PB,4,none⟩=some (.int .u64 s3)∧U.cell? ⟨PB,5,none⟩=some (.slice A ln c)∧U.cell? ⟨PB,6,none⟩=some (.int .i64 lo)∧U.cell? ⟨PB,7,none⟩=some (.int .i64 hi)∧U.cell? ⟨PB,8,none⟩=some (.int .i64 n)∧U.cell? ⟨PB,9,none⟩=some (.slice (some ⟨KB,0,none⟩) ln ln)∧U.cell? ⟨PB,10,none⟩=some (.int .i64 pi)∧U.cell? ⟨PB,11,none⟩=some (.int .i64 0)∧U.cell? ⟨PB,12,none⟩=some (.bool false)∧U.cell? ⟨PB,13,none⟩=some (.bool false)):=Lib.hid fun U hU=>by
     have l:=z0c hU;exact⟨(l 0).trans rfl,(l 1).trans rfl,(l 2).trans rfl,(l 3).trans rfl,(l 4).trans rfl,(l 5).trans rfl,(l 6).trans rfl,(l 7).trans rfl,(l 8).trans rfl,(l 9).trans rfl,(l 10).trans rfl,(l 11).trans rfl,(l 12).trans rfl,(l 13).trans rfl⟩
    obtain⟨p0,p1,p2,p3,p4,p5,p6,p7,p8,p9,p10,p11,p12,p13⟩:=HXP.out wc HX.out.bp;have HROW2:Hid (∀ o,(wc.alloc o).ownsRow B 103 14 (.slice A0 N c0) N cs):=Lib.hid fun o=>z1x (by rw[←HROW.out.2];exact HROW.out.1) (HX.out.low.trans ((z0b wc o).mono HX.out.low.size))
    have HNW:Hid (∀ (j:Nat) (u:Value),[Value.int .i64 k,.int .u64 s0,.int .u64 s1,.int .u64 s2,.int .u64 s3,.slice A ln c,.int .i64 lo,.int .i64 hi,.int .i64 n,.slice (some ⟨KB,0,none⟩) ln ln,.int .i64 pi,.int .i64 0,.bool false,.bool false][j]?=some u→(wc.alloc (.cells #[Value.int .i64 k,.int .u64 s0,.int .u64 s1,.int .u64 s2,.int .u64 s3,.slice A ln c,.int .i64 lo,.int .i64 hi,.int .i64 n,.slice (some ⟨KB,0,none⟩) ln ln,.int .i64 pi,.int .i64 0,.bool false,.bool false] 103)).cell? ((⟨wc.heap.size,0,none⟩:Addr).add j)=some u):=Lib.hid (z0l wc 103 #[Value.int .i64 k,.int .u64 s0,.int .u64 s1,.int .u64 s2,.int .u64 s3,.slice A ln c,.int .i64 lo,.int .i64 hi,.int .i64 n,.slice (some ⟨KB,0,none⟩) ln ln,.int .i64 pi,.int .i64 0,.bool false,.bool false])
    have HO:Hid (∀ u∈[Value.int .i64 k,.int .u64 s0,.int .u64 s1,.int .u64 s2,.int .u64 s3,.slice A ln c,.int .i64 lo,.int .i64 hi,.int .i64 n,.slice (some ⟨KB,0,none⟩) ln ln,.int .i64 pi,.int .i64 0,.bool false,.bool false],u.oneCell'=true):=Lib.hid fun u hu=>by
     simp only[List.mem_cons,List.not_mem_nil,or_false] at hu
     rcases hu with rfl | rfl | rfl | rfl | rfl | rfl | rfl | rfl | rfl | rfl | rfl | rfl | rfl | rfl <;> rfl
    have HSZ:Hid (∀ o,B≤(wc.alloc o).heap.size):=Lib.hid fun o=>by have:=HBB.out;have:=HX.out.low.size;simp;omega
    obtain⟨rt,hrt⟩:∃ rt,rt=rt14 r pi A c kv false false:=⟨_,rfl⟩;have HRT0:=Lib.hid hrt;obtain⟨Y9,hY9⟩:∃ Y9:Array Value,Y9=#[.int .i64 k,.int .u64 s0,.int .u64 s1,.int .u64 s2,.int .u64 s3,.slice A ln c,.int .i64 lo,.int .i64 hi,.int .i64 n]:=⟨_,rfl⟩;obtain⟨Y14,hY14⟩:∃ Y14:Array Value,Y14=#[.int .i64 k,.int .u64 s0,.int .u64 s1,.int .u64 s2,.int .u64 s3,.slice A ln c,.int .i64 lo,.int .i64 hi,.int .i64 n,.slice (some ⟨KB,0,none⟩) ln ln,.int .i64 pi,.int .i64 0,.bool false,.bool false]:=⟨_,rfl⟩;have HY:=Lib.hid (And.intro hY9 hY14);clear hY9 hY14
    have HST:Hid (∀ (g cap:Nat) (w3:World) (o:Obj),w3.ownsRow B 103 14 (.slice (some ⟨g,0,none⟩) (N+1) cap) (N+1) (cs++[Value.int .i64 k,.int .u64 s0,.int .u64 s1,.int .u64 s2,.int .u64 s3,.slice A ln c,.int .i64 lo,.int .i64 hi,.int .i64 n,.slice (some ⟨KB,0,none⟩) ln ln,.int .i64 pi,.int .i64 0,.bool false,.bool false])→(wc.alloc o).grownBy w3 (Value.slice A0 N c0).ownBlock→((Value.slice A0 N c0).ownBlock=some g∨g=(wc.alloc o).heap.size)→PaI B N cs v w KB PB ln Y9 Y14 rt ks [] 0 (N+1) g cap [] w3):=Lib.hid fun g cap w3 o q1 q2 q3=>by
     have hz:=HX.out.low.size;obtain⟨n1,n2,n3⟩:=HNE.out;obtain⟨z1,z2⟩:=HZ.out;have hbo:=z0b wc o;have hzo:(wc.alloc o).heap.size=wc.heap.size+1:=by simp
     obtain⟨f1,f2⟩:=y83 (X:=X3 w KB PB) HROW.out.1 HBB.out (HX.out.low.trans (hbo.mono hz)) q1 (by rw[HROW.out.2];exact q2) (by rw[HROW.out.2];exact q3) rfl (fun b hb=>by rcases hb with rfl | rfl | rfl <;> omega);have bl:∀ b,X3 w KB PB b→w3.heap[b]?=wc.heap[b]?:=fun b hb=>(f2 b hb).trans (hbo.block b (by rcases hb with rfl | rfl | rfl <;> omega))
     refine⟨rfl,?_,(bl _ (.inl rfl)).trans (by rw[HY.out.1];exact HX.out.b4),(bl _ (.inr (.inr rfl))).trans (by rw[HY.out.2];exact HX.out.bp),y5o ((bl _ (.inr (.inl rfl))).trans HX.out.bk),HNE.out,HBB.out⟩;rw[HRT0.out,HRT.out,HKV.out];exact f1
    clear hkv hrt HX
    go_wp2_with (first
     | (refine wpList_append_lies _ rfl (.tmp 20) (.tmp 22) 74 rfl B 103 i0 (.agg #[.int .i64 0,.int .u64 0,.int .u64 0,.int .u64 0,.int .u64 0,.slice none 0 0,.int .i64 0,.int .i64 0,.int .i64 0,.slice none 0 0,.int .i64 0,.int .i64 0,.bool false,.bool false]) 14 136 Tryd.underlying74 hi0 hz0 hz1 hz2 rfl (by decide) _ _ _ rfl (HROW2.out _) ⟨wc.heap.size,0,none⟩ 1 1 [.int .i64 k,.int .u64 s0,.int .u64 s1,.int .u64 s2,.int .u64 s3,.slice A ln c,.int .i64 lo,.int .i64 hi,.int .i64 n,.slice (some ⟨KB,0,none⟩) ln ln,.int .i64 pi,.int .i64 0,.bool false,.bool false] rfl rfl HNW.out HO.out (by decide) (by unfold maxLen;omega) (by omega) (HSZ.out _) _ rfl ?_;intro g3 cap3 w5 hown hgrow hat hlt;have HD:=Lib.hid (HST.out g3 cap3 w5 _ hown hgrow hat);obtain⟨x0,x1,x2,x3,x4,x5,x6,x7,x8⟩:=HSQ.out w5 (by rw[←HY.out.1];exact HD.out.b4);clear hown hgrow hat hlt)
     | fail)
    obtain⟨q4,hq4⟩:∃ q4,q4=decide (k=4):=⟨_,rfl⟩;obtain⟨C1,hC1⟩:∃ C1,C1=if cntQ r=true then C+1 else C:=⟨_,rfl⟩
    have HQ4:=Lib.hid hq4;have HC1:=Lib.hid hC1;have HD0:Hid (PaI B N cs v w KB PB ln Y9 Y14 rt ks (tabL (ks.take 0) q4 (N+1) N C1) 0 (N+1) g3 cap3 [] w5):=Lib.hid (by simpa[tabL] using HD.out)
    have HKD:Hid (∀ (j M g cap:Nat) (cs1:List Value) (T1:List Nd) (x:Re) (A':Option Addr) (c':Nat) (U:World),ks[j]?=some x→Kids (Lt B) U A' x→PaI B N cs v w KB PB ln Y9 Y14 rt ks T1 (j+1) M g cap cs1 U→T1.length=sizeL (ks.take j)→T1++tabE x (N+1+sizeL (ks.take j)) N 0 (C1+cntL (ks.take j))=tabL (ks.take (j+1)) q4 (N+1) N C1→
      Calls Tryd.prog 28 #[.slice (some ⟨g,0,none⟩) M cap,valR x A' c',.int .i64 (N:Nat)] U fun e w'=>∃ g' cap' M' cs2,e= .returned (.slice (some ⟨g',0,none⟩) (M':Nat) cap')∧Hid (PaI B N cs v w KB PB ln Y9 Y14 rt ks (tabL (ks.take (j+1)) q4 (N+1) N C1) (j+1) M' g' cap' cs2 w')):=Lib.hid fun j M g cap cs1 T1 x A' c' U hx hk h hT hE=>by
     have hmem:=List.mem_of_getElem? hx;have hM:=h.mm;have hz:=HS.out;rw[z28,HR.out] at hz;simp only[Re.kids] at hz;have hsn:=z1c hx;have hst:=z06 ks (j+1);have hrow2:=h.pt.row;rw[←h.mm] at hrow2;have hcall:=HI.out x hmem A' c' N (N:Nat) U (.slice (some ⟨g,0,none⟩) M cap) M (C1+cntL (ks.take j)) (cs++(rt++cs1)) hk hrow2 (Nat.le_trans h.bb (by have:=h.own;omega)) (by omega) (by rw[if_neg (by omega)]);refine hcall.mono fun e w' hp=>?_
     obtain⟨g',cap',M',cs2,e1,e2⟩:=h.call hT hE hp;exact⟨g',cap',M',cs2,e1,Lib.hid e2⟩
    clear hq4 hC1 HST HROW2 HNW HO HSZ hmk p0 p1 p2 p3 p4 p5 p6 p7 p8 p9 p10 p11 p12 p13 y0 y1 y2 y3 y4 y5 y6 y7 y8 x0 x1 x2 x3 x4 x6 x7 x8 hi0 hz0 hz1 hz2
    go_loopw [0,27] (fun v0 v27 wr=>∃ (j M g cap:Nat) (cs1:List Value),j≤ln∧v0= .slice (some ⟨g,0,none⟩) M cap∧v27= .int .i64 (j:Nat)∧Hid (PaI B N cs v w KB PB ln Y9 Y14 rt ks (tabL (ks.take j) q4 (N+1) N C1) j M g cap cs1 wr)) (fun _ v27 _=>ln - (intOf v27).toNat)
    case atStart=>exact⟨0,N+1,g3,cap3,[],Nat.zero_le _,rfl,rfl,HD0⟩
    case round=>
     obtain⟨j,M,g2,cap2,cs1,hj,rfl,rfl,HA⟩:=hrel;by_cases a:j<ln
     ·obtain⟨x,hx⟩:=z0u HL.out a
      obtain⟨ad,A',c',rfl,hpB,h9,hkr⟩:=z2t (x:=x) (k:=j) HK.out hx;have HAJ:=Lib.hid a;have HJX:=Lib.hid hx;have HKR:=Lib.hid hkr;have hlt:∀ p:Addr,p.block<B→wr.cell? p=w.cell? p:=fun p hp=>HA.out.pt.fr.below.cell hp
      have h9':=h9.keep (w':=wr) (fun o=>hlt _ (by show (ad.add (j * 9)).block<B;rw[z0j];exact hpB)) (hlt _ (by rw[z0j];exact hpB));obtain⟨k',S',ks',lo',hi',n'⟩:=x;obtain⟨d0,d1,d2,d3,d4,d5,d6,d7,d8⟩:=h9';obtain⟨W0,hW0⟩:∃ W0,W0=wr.alloc (.cells #[.int .i64 k',.int .u64 S'.1.toNat,.int .u64 S'.2.1.toNat,.int .u64 S'.2.2.1.toNat,.int .u64 S'.2.2.2.toNat,.slice A' ks'.length c',.int .i64 lo',.int .i64 hi',.int .i64 n'] 27):=⟨_,rfl⟩;have HA0:Hid (PaI B N cs v w KB PB ln Y9 Y14 rt ks (tabL (ks.take j) q4 (N+1) N C1) j M g2 cap2 cs1 W0):=Lib.hid (by rw[hW0];exact HA.out.next (z0b wr _));have hkb0:W0.heap[wr.heap.size]?=some (.cells #[.int .i64 k',.int .u64 S'.1.toNat,.int .u64 S'.2.1.toNat,.int .u64 S'.2.2.1.toNat,.int .u64 S'.2.2.2.toNat,.slice A' ks'.length c',.int .i64 lo',.int .i64 hi',.int .i64 n'] 27):=by rw[hW0];exact heap_alloc_new wr _
      have HW0:=Lib.hid hW0;have HKB0:=Lib.hid hkb0;clear hx hkr h9 hpB hlt hW0 hkb0
      go_upto_region 7 with (fail)
      rw[←HW0.out];obtain⟨p0,p1,p2,p3,p4,p5,p6,p7,p8,p9,p10,p11,p12,p13⟩:=HXP.out W0 (by rw[←HY.out.2];exact HA0.out.bp);obtain⟨uj,kj⟩:=HA0.out.kn.any j a;have kf:=HA0.out.kn.f j
      have hM9:M≤1000000:=by
       have h1:=HS.out;rw[z28,HR.out] at h1;have h2:=z06 ks j;have h3:=HA0.out.mm;rw[z2d] at h3;simp only[Re.kids] at h1;omega
      obtain⟨W1,hW1⟩:∃ W1,W1=W0.setCell ⟨KB,j,none⟩ (.int .i64 (M:Nat)):=⟨_,rfl⟩;have HA1:Hid (PaI B N cs v w KB PB ln Y9 Y14 rt ks (tabL (ks.take j) q4 (N+1) N C1) (j+1) M g2 cap2 cs1 W1):=Lib.hid (by rw[hW1];exact HA0.out.kid a (z2d _ _ _ _ _))
      have HKB1:Hid (wr.heap.size≠KB∧W1.heap[wr.heap.size]?=some (.cells #[.int .i64 k',.int .u64 S'.1.toNat,.int .u64 S'.2.1.toNat,.int .u64 S'.2.2.1.toNat,.int .u64 S'.2.2.2.toNat,.slice A' ks'.length c',.int .i64 lo',.int .i64 hi',.int .i64 n'] 27)):=Lib.hid (by
       have hne:wr.heap.size≠KB:=by have:=HA.out.own;omega
       refine⟨hne,?_⟩;rw[hW1,Below.heap_setCell _ _ _ _ (by exact hne)];exact HKB0.out)
      have HW1:=Lib.hid hW1;clear hW1 d0 d1 d2 d3 d4 d5 d6 d7 d8
      go_upto_region 8 with (fail)
      rw[←HW1.out];clear p0 p1 p2 p3 p4 p5 p6 p7 p8 p9 p10 p11 p12 p13 kj kf;have x0:W1.cell? ⟨w.heap.size,0,none⟩=some (.int .i64 k):=(z0c HA1.out.b4 0).trans (by rw[HY.out.1];rfl);have e0:W1.cell? ⟨wr.heap.size,0,none⟩=some (.int .i64 k'):=(z0c HKB1.out.2 0).trans rfl;have e1:W1.cell? ⟨wr.heap.size,1,none⟩=some (.int .u64 S'.1.toNat):=(z0c HKB1.out.2 1).trans rfl;have e2:W1.cell? ⟨wr.heap.size,2,none⟩=some (.int .u64 S'.2.1.toNat):=(z0c HKB1.out.2 2).trans rfl;have e3:W1.cell? ⟨wr.heap.size,3,none⟩=some (.int .u64 S'.2.2.1.toNat):=(z0c HKB1.out.2 3).trans rfl;have e4:W1.cell? ⟨wr.heap.size,4,none⟩=some (.int .u64 S'.2.2.2.toNat):=(z0c HKB1.out.2 4).trans rfl;have e5:W1.cell? ⟨wr.heap.size,5,none⟩=some (.slice A' ks'.length c'):=(z0c HKB1.out.2 5).trans rfl;have e6:W1.cell? ⟨wr.heap.size,6,none⟩=some (.int .i64 lo'):=(z0c HKB1.out.2 6).trans rfl;have e7:W1.cell? ⟨wr.heap.size,7,none⟩=some (.int .i64 hi'):=(z0c HKB1.out.2 7).trans rfl;have e8:W1.cell? ⟨wr.heap.size,8,none⟩=some (.int .i64 n'):=(z0c HKB1.out.2 8).trans rfl;have HKU:Hid (∀ U T1 j g cap cs1,PaI B N cs v w KB PB ln Y9 Y14 rt ks T1 j M g cap cs1 U→Kids (Lt B) U A' (.mk k' S' ks' lo' hi' n')):=Lib.hid fun U T1 j g cap cs1 h=>HKR.out.keep h.pt.fr.below
      by_cases hj0:q4=false∨j=0
      ·have HCL:Hid (Calls Tryd.prog 28 #[.slice (some ⟨g2,0,none⟩) M cap2,.agg #[.int .i64 k',.int .u64 S'.1.toNat,.int .u64 S'.2.1.toNat,.int .u64 S'.2.2.1.toNat,.int .u64 S'.2.2.2.toNat,.slice A' ks'.length c',.int .i64 lo',.int .i64 hi',.int .i64 n'],.int .i64 (N:Nat)] W1 fun e w'=>∃ g' cap' M' cs2,e= .returned (.slice (some ⟨g',0,none⟩) (M':Nat) cap')∧Hid (PaI B N cs v w KB PB ln Y9 Y14 rt ks (tabL (ks.take (j+1)) q4 (N+1) N C1) (j+1) M' g' cap' cs2 w')):=Lib.hid (by
        have f1:=HKU.out _ _ _ _ _ _ HA1.out;have f2:=z2d (ks.take j) q4 (N+1) N C1;have f3:=y5p (n:=N+1) (p:=N) (c:=C1) HJX.out hj0;have f5:=HKD.out j M g2 cap2 cs1 (tabL (ks.take j) q4 (N+1) N C1) (.mk k' S' ks' lo' hi' n') A' c' W1 HJX.out f1 HA1.out f2 f3;simp only[valR] at f5;exact f5)
       by_cases hjz:j=0
       ·subst hjz
        clear hj0;go_wp2_with (first | (go_at_call 28;((with_reducible refine(HCL.out).mono ?_));rintro _ w2 ⟨g4,cap4,M4,cs4,rfl,HA4⟩) | fail)
        go_roundw
        case rel=>exact⟨0+1,M4,g4,cap4,cs4,by have:=HAJ.out;omega,rfl,by go_num,HA4⟩
        case measure=>simp[intOf];have:=HAJ.out;omega
       ·have hk4:(k==4)=false:=by
         have:=hj0.resolve_right hjz;rw[HQ4.out] at this;simpa using this
        have hk4':¬ k=4:=by simpa using hk4
        have hjp:0<j:=by omega
        have hjd:decide ((0:Int)<(j:Int))=true:=by simp;omega
        clear hj0;go_wp2_with (first | (go_at_call 28;((with_reducible refine(HCL.out).mono ?_));rintro _ w2 ⟨g4,cap4,M4,cs4,rfl,HA4⟩) | fail)
        go_roundw
        case rel=>exact⟨j+1,M4,g4,cap4,cs4,by have:=HAJ.out;omega,rfl,by go_num,HA4⟩
        case measure=>simp[intOf];have:=HAJ.out;omega
      ·have hjz:¬ j=0:=fun e=>hj0 (.inr e)
       have hq4:q4=true:=by cases q4 with
        | false=>exact absurd (.inl rfl) hj0
        | true=>rfl
       subst hq4;have hk4:k=4:=by have:=HQ4.out;simpa using this.symm
       have hk4b:(k==4)=true:=by simp[hk4]
       obtain⟨i,rfl⟩:∃ i,j=i+1:=⟨j - 1,by omega⟩;obtain⟨⟨ut,hut⟩,cs5,T5,h5,h5l,h5e⟩:=PaI.tell HJX.out HA1.out;have b1:=HA1.out.kn.at_ i (by omega)
       have b2:=HA1.out.kn.at_ (i+1) (by omega)
       have hMM:=HA1.out.mm;rw[z2d] at hMM;rw[←hMM] at b2;obtain⟨M1,hM1⟩:∃ M1,M1=N+1+sizeL (ks.take i):=⟨_,rfl⟩;rw[←hM1] at b1 hut h5
       have hM1M:M1<M:=by
        obtain⟨y,hy⟩:∃ y,ks[i]?=some y:=⟨_,List.getElem?_eq_getElem (by have:=(List.getElem?_eq_some_iff.1 HJX.out).1;omega)⟩;have h2:=z1c hy;have:=z6v y;omega
       have f9:=HA1.out.pt.blk.2.2.2.2.1 (M1 * 14+11);obtain⟨p0,p1,p2,p3,p4,p5,p6,p7,p8,p9,p10,p11,p12,p13⟩:=HXP.out W1 (by rw[←HY.out.2];exact HA1.out.bp);have H5:Hid (PaI B N cs v w KB PB ln Y9 Y14 rt ks T5 (i+1+1) M g2 cap2 cs5 ((W1.setCell ⟨g2,M1 * 14+11,none⟩ (.int .i64 (M:Nat))).drew)):=Lib.hid (h5.next ⟨rfl,rfl,rfl,Nat.le_refl _,fun _ _=>rfl⟩)
       have HB5:Hid (((W1.setCell ⟨g2,M1 * 14+11,none⟩ (.int .i64 (M:Nat))).drew).heap[wr.heap.size]?=some (.cells #[.int .i64 k',.int .u64 S'.1.toNat,.int .u64 S'.2.1.toNat,.int .u64 S'.2.2.1.toNat,.int .u64 S'.2.2.2.toNat,.slice A' ks'.length c',.int .i64 lo',.int .i64 hi',.int .i64 n'] 27)):=Lib.hid (by
        show (W1.setCell ⟨g2,M1 * 14+11,none⟩ (.int .i64 (M:Nat))).heap[wr.heap.size]?=_;rw[Below.heap_setCell _ _ _ _ (by show wr.heap.size≠g2;have:=HA.out.own;omega)];exact HKB1.out.2)
       have HCL:Hid (Calls Tryd.prog 28 #[.slice (some ⟨g2,0,none⟩) M cap2,.agg #[.int .i64 k',.int .u64 S'.1.toNat,.int .u64 S'.2.1.toNat,.int .u64 S'.2.2.1.toNat,.int .u64 S'.2.2.2.toNat,.slice A' ks'.length c',.int .i64 lo',.int .i64 hi',.int .i64 n'],.int .i64 (N:Nat)] ((W1.setCell ⟨g2,M1 * 14+11,none⟩ (.int .i64 (M:Nat))).drew) fun e w'=>∃ g' cap' M' cs2,e= .returned (.slice (some ⟨g',0,none⟩) (M':Nat) cap')∧Hid (PaI B N cs v w KB PB ln Y9 Y14 rt ks (tabL (ks.take (i+1+1)) true (N+1) N C1) (i+1+1) M' g' cap' cs2 w')):=Lib.hid (by
        have f1:=HKU.out _ _ _ _ _ _ H5.out;have f5:=HKD.out (i+1) M g2 cap2 cs5 T5 (.mk k' S' ks' lo' hi' n') A' c' _ HJX.out f1 H5.out h5l h5e;simp only[valR] at f5;exact f5)
       clear hM1 hMM h5 h5l h5e hj0 hk4 hjz;have hkg:wr.heap.size≠g2:=by have:=HA.out.own;omega
       have hkg2:g2≠wr.heap.size:=fun e=>hkg e.symm
       go_upto_region 9 with (fail)
       refine z0t 14 (by kernel_rfl) (by kernel_rfl) ?_;simp only[List.take_succ_cons,List.take_zero,List.drop_succ_cons,List.drop_zero]
       repeat (go_big_quiet_step (fail))
       refine wpQuiet_nil ?_;go_wp2_with (first | (go_at_call 28;((with_reducible refine(HCL.out).mono ?_));rintro _ w2 ⟨g4,cap4,M4,cs4,rfl,HA4⟩) | fail)
       go_roundw
       case rel=>exact⟨i+1+1,M4,g4,cap4,cs4,by have:=HAJ.out;omega,rfl,by go_num,HA4⟩
       case measure=>simp[intOf];have:=HAJ.out;omega
     ·obtain rfl:j=ln:=by omega
      have hks:ks.take j=ks:=List.take_of_length_le (by have:=HL.out;omega);rw[hks] at HA;obtain⟨cq,hcq⟩:∃ cq,cq=cntQ r:=⟨_,rfl⟩;have HCQ:=Lib.hid hcq;have hcq2:cq=(decide (k=6) && (decide (1<hi) || (decide (hi<0) && decide (1<lo)))):=by rw[hcq,HR.out];rfl
      have HEND:Hid (∀ (g cap:Nat) (cs1:List Value) (U:World),PaI B N cs v w KB PB j Y9 Y14 (rt14 r pi A c kv cq (apartQ r)) ks (tabL ks q4 (N+1) N C1) j M g cap cs1 U→PaPost B r p w v N C cs (.returned (.slice (some ⟨g,0,none⟩) M cap)) U):=Lib.hid fun g cap cs1 U h=>by
       have hM:=h.mm;rw[z2d] at hM;have hkk:r.kids=ks:=by rw[HR.out];rfl
       have e4:q4=decide (r.kind=4):=by rw[HQ4.out,HR.out];rfl
       have hpt:=h.pt;have hkn:=h.kn;rw[hM,←hkk,e4,HKV.out,HCQ.out] at hpt;rw[←hkk] at hkn;rw[hM,←hkk];exact x4b hpt HC1.out hkn (by rw[hkk];exact HL.out) (.inr (.inl rfl)) HPI.out
      have HNO:Hid (cq=false→PaPost B r p w v N C cs (.returned (.slice (some ⟨g2,0,none⟩) M cap2)) wr):=Lib.hid fun e=>by
       refine HEND.out g2 cap2 cs1 wr ?_;have ea:apartQ r=false:=by unfold apartQ;rw[←HCQ.out,e];rfl
       rw[ea,e,←HRT0.out];exact HA.out
      have HYES:Hid (cq=true→∃ W2 ap,W2=wr.setCell ⟨g2,N * 14+12,none⟩ (.bool true)∧wr.cell? ⟨g2,N * 14+12,none⟩=some (.bool false)∧wr.frozen? ⟨g2,N * 14+12,none⟩=false∧N+1≤M∧M≤cap2∧M≤1000000∧
        Hid (∀ (A':Option Addr) (cap':Nat),(cap2=N+1∨A'=some ⟨g2,(N+1) * 14,none⟩)→Calls Tryd.prog 38 #[.slice A' (M - (N+1)) cap',.func (.func 39) #[] #[]] W2 fun e w'=>e= .returned (.bool ap)∧w'.cell? ⟨g2,N * 14+13,none⟩=some (.bool false)∧w'.frozen? ⟨g2,N * 14+13,none⟩=false∧
         Hid (PaPost B r p w v N C cs (.returned (.slice (some ⟨g2,0,none⟩) M cap2)) (w'.setCell ⟨g2,N * 14+13,none⟩ (.bool ap))))):=Lib.hid fun e=>by
       have hM:=HA.out.mm;have hMT:=z2d ks q4 (N+1) N C1;have hz:=HS.out;rw[z28,HR.out] at hz;simp only[Re.kids] at hz;obtain⟨_,hcap,_,_,hfr,_⟩:=HA.out.pt.blk;have hrt2:rt.set 12 (.bool true)=rt14 r pi A c kv true false:=by rw[HRT0.out];rfl
       have hA2:=HA.out.root (q:=12) (u:= .bool true) (by decide) hrt2
       have hap:anyC (tabL ks q4 (N+1) N C1)=apartQ r:=by
        rw[y0b];unfold apartQ;rw[←HCQ.out,e,HR.out];rfl
       refine⟨_,apartQ r,rfl,HA.out.cell (q:=12) (by rw[HRT0.out];rfl),hfr _,by omega,hcap,by omega,Lib.hid fun A' cap' hA'=>?_⟩;have hcall:=z9b (tabL ks q4 (N+1) N C1) (N+1) cs1 A' cap' _ hA2.pt.tcs (fun hne=>⟨g2,(N+1) * 14,hA'.resolve_left (fun e=>hne (List.eq_nil_of_length_eq_zero (by omega))),hA2.rest⟩) (by omega);rw[hap,show (tabL ks q4 (N+1) N C1).length=M - (N+1) by omega] at hcall;refine hcall.mono fun e' w' ⟨q1,q2⟩=>?_
       have hA3:=hA2.next q2
       have hrt3:(rt14 r pi A c kv true false).set 13 (.bool (apartQ r))=rt14 r pi A c kv true (apartQ r):=rfl;refine⟨q1,hA3.cell (q:=13) rfl,hA3.pt.blk.2.2.2.2.1 _,Lib.hid (HEND.out g2 cap2 cs1 _ ?_)⟩;rw[e];exact hA3.root (q:=13) (by decide) hrt3
      obtain⟨x0,x1,x2,x3,x4,x5,x6,x7,x8⟩:=HSQ.out wr (by rw[←HY.out.1];exact HA.out.b4);have HK6:=Lib.hid hcq2;clear hks hcq hcq2 x1 x2 x3 x4 x5 x8;by_cases hk6:k=6
      ·have k6:(k==6)=true:=by simp[hk6]
       by_cases hh1:1<hi
       ·have u1:decide (1<hi)=true:=by simp[hh1]
        have hq1:cq=true:=by rw[HK6.out];simp[hk6,hh1]
        subst hq1;obtain⟨W2,ap,hW2,w0,w1,hNM,hMc,hM9,K38⟩:=HYES.out rfl;have HW2:=Lib.hid hW2;have hNM2:N<M:=by omega
        have hNM3:(N:Int)<(M:Int):=by omega
        have hNM4:(N:Int)+1≤(M:Int):=by omega
        have hcap3:N+1≤cap2:=by omega
        clear hk6 hW2
        go_upto_region 14 with (fail)
        rw[←HW2.out];go_wp2_with (first | (go_at_call 38;((with_reducible refine(K38.out _ _ (by first | exact .inr rfl | exact .inl (by assumption))).mono ?_));rintro _ w3 ⟨rfl,cc0,cf0,HQ⟩) | fail)
        all_goals go_ret
        all_goals exact Lib.hid (by rw[←HROW.out.2];first | exact HQ.out | ((have hc2:cap2=N+1:=by assumption);have hq2:=HQ.out;rw[hc2] at hq2;exact hq2))
       ·have u1:decide (1<hi)=false:=by simp;omega
        by_cases hh2:hi<0
        ·have u2:decide (hi<0)=true:=by simp[hh2]
         by_cases hh3:1<lo
         ·have u3:decide (1<lo)=true:=by simp[hh3]
          have hq1:cq=true:=by rw[HK6.out];simp[hk6,hh1,hh2,hh3]
          subst hq1;obtain⟨W2,ap,hW2,w0,w1,hNM,hMc,hM9,K38⟩:=HYES.out rfl;have HW2:=Lib.hid hW2;have hNM2:N<M:=by omega
          have hNM3:(N:Int)<(M:Int):=by omega
          have hNM4:(N:Int)+1≤(M:Int):=by omega
          have hcap3:N+1≤cap2:=by omega
          clear hk6 hW2
          go_upto_region 14 with (fail)
          rw[←HW2.out];go_wp2_with (first | (go_at_call 38;((with_reducible refine(K38.out _ _ (by first | exact .inr rfl | exact .inl (by assumption))).mono ?_));rintro _ w3 ⟨rfl,cc0,cf0,HQ⟩) | fail)
          all_goals go_ret
          all_goals exact Lib.hid (by rw[←HROW.out.2];first | exact HQ.out | ((have hc2:cap2=N+1:=by assumption);have hq2:=HQ.out;rw[hc2] at hq2;exact hq2))
         ·have u3:decide (1<lo)=false:=by simp;omega
          have hq0:cq=false:=by rw[HK6.out];simp[hk6,hh1,hh2,hh3]
          subst hq0;clear hk6;go_wp2;go_ret;exact Lib.hid (by rw[←HROW.out.2];exact HNO.out trivial)
        ·have u2:decide (hi<0)=false:=by simp;omega
         have hq0:cq=false:=by rw[HK6.out];simp[hk6,hh1,hh2]
         subst hq0;clear hk6;go_wp2;go_ret;exact Lib.hid (by rw[←HROW.out.2];exact HNO.out trivial)
      ·have k6:(k==6)=false:=by simp[hk6]
       have hq0:cq=false:=by rw[HK6.out];simp[hk6]
       subst hq0;clear hk6;go_wp2;go_ret;exact Lib.hid (by rw[←HROW.out.2];exact HNO.out trivial)
end
section
set_option linter.unusedSimpArgs false
set_option linter.unusedVariables false
def TimeOk (c:Cx) (t:Trk) (nd:Nd) (O':Tab) (w':World) (ps:List Trk):Prop:=∃ o1 j f tl',O' (nd.kids.headD 0) t.x.place=some o1∧t.tried<j∧j≤64∧o1.found[j - 1]?=some f∧timeQ nd t.x f.stop=true∧
 (∀ (i':Nat) (g:Way1),t.tried≤i'→i'<j - 1→o1.found[i']?=some g→timeQ nd t.x g.stop=false)∧FoundOk c w' (nd.kids.headD 0) t.x.place f∧ps=[{ t with tried:=j },fresh tl' (timeN nd t.x f.stop)]∧
 ∀ l le,TrailP w' t.tl l→TrailP w' f.tl le→∃ l',TrailP w' tl' l'∧SameE l' (le++l)
def StopOk (c:Cx) (t:Trk) (nd:Nd) (O':Tab) (ps:List Trk):Prop:=ps=(if nd.r.lo≤((t.x.done - 2:Nat):Int) then [fresh t.tl { t.x with done:=1 }] else [])∧
 ∀ kd k,c.T[nd.kids.headD 0]?=some kd→Way c.bs true true kd.r t.x.place k→k≤c.lim→timeQ nd t.x k=true→∃ (i':Nat) (f:Way1) (o1:WO),O' (nd.kids.headD 0) t.x.place=some o1∧i'<t.tried∧o1.found[i']?=some f∧f.stop=k
def RapOk (c:Cx) (p i:Nat) (t:Trk) (nd:Nd) (o:WO) (w:World) (O:Tab) (w':World):Prop:=∃ O' v' ps,O' p i=some { o with tv:=v',tr:=o.tr++ps }∧FInv c (butS p i) w' O'∧Post c p w O w' O'∧(TimeOk c t nd O' w' ps∨StopOk c t nd O' ps)
structure RaI (c:Cx) (p i:Nat) (nd:Nd) (t:Trk) (w:World) (O:Tab) (X:Array Value) (wr:World) (O1:Tab) (j:Nat):Prop where
 inv:FInv c (butS p i) wr O1
 post:Post c (p+1) w O wr O1
 ge:t.tried≤j
 le:j≤64
 box:wr.heap[w.heap.size]?=some (.cells (X.setIfInBounds 5 (.int .i64 (j:Nat))) 89)
 free:∀ q j' o',O1 q j'=some o'→¬ o'.own w.heap.size
 seen:j=0∨∃ o1,O1 (nd.kids.headD 0) t.x.place=some o1∧j≤o1.found.length
 skip:∀ (o1:WO) (i':Nat) (g:Way1),O1 (nd.kids.headD 0) t.x.place=some o1→t.tried≤i'→i'<j→o1.found[i']?=some g→timeQ nd t.x g.stop=false
section
variable {c:Cx} {p i:Nat} {nd:Nd} {t:Trk} {w wr w':World} {O O1 O2:Tab} {X:Array Value} {j:Nat}
theorem y5f {Q:Nat} {B:Nat} {Y:Array Value} (h:FInv c (butS p i) wr O1) (hp:Post c Q wr O1 w' O2) (hb:wr.heap[B]?=some (.cells Y 89)) (hf:∀ q j' o',O1 q j'=some o'→¬ o'.own B) (hs:B<wr.heap.size):w'.heap[B]?=some (.cells Y 89)∧∀ q j' o',O2 q j'=some o'→¬ o'.own B:=by
 refine⟨?_,fun q j' o' ho hq=>?_⟩
 ·rw[hp.fr.block _ hs]
  ·exact hb
  ·rintro(e | ⟨q,j',o',_,g1,g2⟩)
   ·obtain⟨f,⟨es,clock,k1,_⟩,_⟩:=h.known
    rw[←e,hb] at k1;simp at k1
   ·exact hf q j' o' g1 g2
 ·rcases hp.own q j' o' ho _ hq with ⟨o4,g1,g2⟩ | g1
  ·exact hf q j' o4 g1 g2
  ·omega
theorem RaI.step (h:RaI c p i nd t w O X wr O1 j) {q:Nat} (hq:p<q) (hp:Post c q wr O1 w' O2) (hi:FInv c (geS q) w' O2):RaI c p i nd t w O X w' O2 j:=by
 have hl:=(Array.getElem?_eq_some_iff.mp h.box).1;obtain⟨b1,b2⟩:=y5f h.inv hp h.box h.free hl;refine⟨h.inv.lift hi hp,h.post.trans (hp.down (by omega)),h.ge,h.le,b1,b2,?_,fun o1 i' g ho h1 h2 hg=>?_⟩
 ·rcases h.seen with h0 | ⟨o1,h1,h2⟩
  ·exact .inl h0
  ·obtain⟨o2,g1,_,more,g3⟩:=hp.mono _ _ _ h1
   exact .inr ⟨o2,g1,by rw[g3,List.length_append];omega⟩
 ·rcases h.seen with h0 | ⟨o2,k1,k2⟩
  ·omega
  ·obtain⟨o3,g1,_,more,g3⟩:=hp.mono _ _ _ k1
   rw[ho] at g1;injection g1 with g1;subst g1
   rw[g3,List.getElem?_append_left (by omega)] at hg;exact h.skip o2 i' g k1 h1 h2 hg
theorem RaI.next (h:RaI c p i nd t w O X wr O1 j) (hb:Below wr.heap.size wr w'):RaI c p i nd t w O X w' O1 j:=
 ⟨h.inv.next hb,h.post.trans (.of_below hb),h.ge,h.le,by rw[hb.block _ (Array.getElem?_eq_some_iff.mp h.box).1];exact h.box,h.free,h.seen,h.skip⟩
theorem RaI.tried (h:RaI c p i nd t w O X wr O1 j) (hX:X.size=7) {o1:WO} (ho:O1 (nd.kids.headD 0) t.x.place=some o1) {f:Way1} (hf:o1.found[j]?=some f) (hj:j+1≤64) (hq:timeQ nd t.x f.stop=false) (hm:c.fb<w.heap.size):
  RaI c p i nd t w O X (wr.setCell ⟨w.heap.size,5,none⟩ (.int .i64 ((j:Int)+1))) O1 (j+1):=by
 have hjl:=(List.getElem?_eq_some_iff.mp hf).1;have hfr:Frm (fun k=>k=w.heap.size) wr (wr.setCell ⟨w.heap.size,5,none⟩ (.int .i64 ((j:Int)+1))):=Frm.set (S:=fun k=>k=w.heap.size) (b:=w.heap.size) rfl 5 _ _;refine⟨h.inv.frm hfr hm h.free (fun Y hY=>by rw[h.box] at hY;simp at hY),h.post.frm hfr (Nat.le_refl _),Nat.le_succ_of_le h.ge,hj,?_,h.free,.inr ⟨o1,ho,by omega⟩,fun o2 i' g ho2 h1 h2 hg=>?_⟩
 ·rw[heap_setCell_same _ _ _ _ _ _ h.box]
  simp[Array.setIfInBounds_setIfInBounds]
 ·rw[ho] at ho2;injection ho2 with ho2;subst ho2
  by_cases he:i'=j
  ·subst he;rw[hf] at hg;injection hg with hg;subst hg;exact hq
  ·exact h.skip o1 i' g ho h1 (by omega) hg
end
end
end Go.Proofs.YtejgbpbljdhndaaDoor
