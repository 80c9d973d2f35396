import Derived.Test.YtejgbpbljdhndaaDoorH25
import Derived.Test.YtejgbpbljdhndaaDoorH26
import Derived.WalkSmall
import Derived.Deep.LoopGhost
import Derived.Deep.CutRange
import Derived.IntWalk
import Derived.Test.YtejgbpbljdhndaaDoorH23
import Derived.Test.YtejgbpbljdhndaaDoorParts
import Derived.Test.YtejgbpbljdhndaaDoorF3
import Derived.Test.YtejgbpbljdhndaaDoorH16
namespace Go.Proofs.YtejgbpbljdhndaaDoor
open Go Go.RowKit
set_option maxRecDepth 100000
set_option maxHeartbeats 8000000
section
set_option linter.unusedSimpArgs false
set_option linter.unusedVariables false
section
variable {c:Cx} {p i:Nat} {wr W2 w':World} {O1:Tab} {o1 o2 o':WO} {pre:List Trk} {t:Trk}
theorem x0x (HX:CxOk c) (h:Pop c p i wr O1 o1 pre t W2 o2) (HN:∀ q,p<q→NthC c q) (hd:2≤t.x.done):
  Calls Tryd.prog 42 #[.pointer (some ⟨o2.a,0,none⟩),trkV t] W2 fun e w'=>e= .returned (.tuple #[])∧Hid (Nxt c p i wr O1 o1 w'):=by
 obtain⟨⟨l,hl1,hl2⟩,hmv,hpl⟩:=h.tk;obtain⟨nd,hn⟩:∃ nd,c.T[t.x.part]?=some nd:=by obtain⟨_,⟨nd,a,_⟩,_⟩:=hl2;exact⟨nd,a⟩
 have hk:=y9m hl2 hd hn;have hbd:=(h.tk.bd HX.T).1;have hge:=hbd.ge;rw[h.part] at hge;have htp:∀ p l,TrailP wr p l→TrailP W2 p l:=fun _ l hl=>hl.keep h.mt.fr (h.h.at_ _ i o1 h.ho).2.noMark
 obtain⟨k1,k2⟩:=h.h.upd h.ho (fun hb=>hb.2 ⟨rfl,rfl⟩) h.mt ⟨[],by rw[h.f2];simp⟩;have hF:=HX.T.fine hn;obtain⟨⟨x0,hx0⟩,_⟩:=hF.six hk;have hL:=HX.T.len hn;obtain⟨q,hq⟩:∃ q,nd.kids[0]?=some q:=⟨_,List.getElem?_eq_getElem (by rw[hL,hx0];simp)⟩;obtain⟨kd,hkd,_,_,_,hpq⟩:=HX.T.kid hn hq
 have hqd:nd.kids.headD 0=q:=by
  cases hks:nd.kids with
  | nil=>rw[hks] at hq;simp at hq
  | cons z zs=>rw[hks] at hq;simp at hq;simp[hq]
 have h64:t.tried≤64∧(t.tried=0∨∃ o3,updO O1 p i o2 (nd.kids.headD 0) t.x.place=some o3∧t.tried≤o3.found.length):=by
  by_cases h0:t.tried=0
  ·exact⟨by omega,.inl h0⟩
  ·obtain⟨_,g2,_,_,ff⟩:=h.oi.tk2 t (by rw[h.htr];simp) (by omega)
   obtain⟨nd',g3,o3,g4,g5,_⟩:=ff hd;rw[hn] at g3;injection g3 with g3;subst g3
   exact⟨g2,.inr ⟨o3,by rw[z02 _ _ (fun e=>by injection e with e1 _;rw[hqd] at e1;omega)];exact g4,g5⟩⟩
 refine(x1i HX t nd HN k1 (z0s _ _ _ _) (h.len HX) hn hge hk hd (by have:=hbd.done;omega) hpl ⟨l,htp _ _ hl1⟩ h64.1 h64.2).mono fun e w' ⟨e1,e2⟩=>⟨e1,?_⟩
 obtain⟨O',v',ps,g1,g2,g3,g4⟩:=e2.out;have hat:=(g2.at_ p i _ g1).2;have hpost:=k2.trans g3;have hC:∀ y,({ o2 with tv:=v',tr:=o2.tr++ps }:WO).C y ↔ o1.C y∨y=t.x:=h.C2;have htp3:=h.h.trails hpost;have hpart:({ o2 with tv:=v',tr:=o2.tr++ps }:WO).part=o1.part:=h.mt.part;have fin:Next c wr O1 o1 i { o2 with tv:=v',tr:=o2.tr++ps } w' O' []→Hid (Nxt c p i wr O1 o1 w'):=fun hN=>Lib.hid ⟨O',_,g1,g2,hpost,hN.inv,h.f2,hN.less⟩
 rcases g4 with ⟨o3,j,f,tl',a1,a2,a3,a4,a5,a6,a7,a8,a9⟩ | ⟨a1,a2⟩
 ·exact fin (y8n HX.T h.oi h.htr h.hc hd hn (by rw[hqd];exact hkd) a1 a2 a3 a4 a5 a6 a7 hat hpart hC (by show o2.tr++ps=_;rw[h.tr2,a8]) h.f2 h.mp2 htp3 hpost.mono a9)
 ·exact fin (y99 HX.T h.oi h.htr h.hc hd hn a2 hat hpart hC (by show o2.tr++ps=_;rw[h.tr2,a1]) h.f2 h.mp2 htp3 hpost.mono)
theorem Pop.next {V:World} (h:Pop c p i wr O1 o1 pre t W2 o2) (hb:Below W2.heap.size W2 V):Pop c p i wr O1 o1 pre t V o2:=
 ⟨h.h,h.ho,h.oi,h.htr,h.mt.trans ⟨.of_below hb,h.mt.at_.next hb,fun _ q=> .inl q,rfl,rfl⟩,h.tr2,h.C2,h.f2,h.mp2,h.hc⟩
theorem x2v (HX:CxOk c) (h:FInv c (butS p i) wr O1) (ho:O1 p i=some o1) (oi:OInv c wr O1 o1 i []) (htr:o1.tr=pre++[t]) (mt:Mt c.fb o1 wr o2 W2) (tr2:o2.tr=pre) (C2:∀ y,o2.C y ↔ o1.C y∨y=t.x) (f2:o2.found=o1.found) (mp2:o2.mp=o1.mp) (h0:t.tried=0) (hc:o1.C t.x):Nxt c p i wr O1 o1 W2:=by
 obtain⟨k1,k2⟩:=h.upd ho (fun hb=>hb.2 ⟨rfl,rfl⟩) mt ⟨[],by rw[f2];simp⟩;have hN:=y8o HX.T oi htr h0 hc mt.at_ mt.part C2 tr2 f2 mp2 (h.trails k2)
 exact⟨_,o2,z0s _ _ _ _,k1,k2,hN.inv.keep mt.at_ (fun _ _ q=>q) k2.mono,f2,hN.less⟩
theorem x0u (HX:CxOk c) (h:Pop c p i wr O1 o1 pre t W2 o2) (hd:t.x.done=1) (hpt:t.x.part=p):
  ∃ O' o',O' p i=some o'∧FInv c (butS p i) W2 O'∧Post c p wr O1 W2 O'∧o'.found=o1.found∧OInv c W2 O' o' i [⟨t.x.place,t.tl⟩]:=by
 obtain⟨k1,k2⟩:=h.h.upd h.ho (fun hb=>hb.2 ⟨rfl,rfl⟩) h.mt ⟨[],by rw[h.f2];simp⟩
 have hnc:¬ o1.C t.x:=by
  rcases h.hc with ⟨_,h0⟩ | h0
  ·exact h0
  ·obtain⟨_,_,g,_⟩:=h.oi.tk2 t (by rw[h.htr];simp) h0
   exact absurd hd g
 have hN:=x05 HX.T h.oi h.htr hnc hd (by rw[h.part];exact hpt) h.mt.at_ h.mt.part h.C2 h.tr2 h.f2 h.mp2 (h.h.trails k2)
 exact⟨_,o2,z0s _ _ _ _,k1,k2,h.f2,hN.inv.keep h.mt.at_ (fun _ _ q=>q) k2.mono⟩
end
end
section
set_option linter.unusedSimpArgs false
set_option linter.unusedVariables false
theorem x1q {fb:Nat} {w:World} {o:WO} {pre:List Trk} {t:Trk} (h:WaysAt fb w o) (htr:o.tr=pre++[t]):∃ g cap,o.tv= .slice (some ⟨g,0,none⟩) (pre.length+1) cap∧pre.length+1≤cap∧cap≤maxLen∧∀ (k:Nat) (v:Value),(trkC t)[k]?=some v→w.cell? ⟨g,pre.length * 7+k,none⟩=some v:=by
 have hr:=h.tr;rw[htr] at hr
 rcases hr.2 with ⟨_,h0⟩ | ⟨g,cap,cur,hv,_,_,hc,hc2,_⟩
 ·simp at h0
 ·have hl:(pre++[t]).length=pre.length+1:=by simp
  rw[hl] at hv hc;refine⟨g,cap,hv,hc,hc2,fun k v hk=>?_⟩
  have hcs:=hr.cells (g:=g) (by rw[hv];rfl) (pre.length * 7+k) v (by
   rw[List.flatMap_append,List.getElem?_append_right (by rw[z8z];omega),z8z,show pre.length * 7+k - pre.length * 7=k by omega];simpa using hk)
  have hadd:∀ j,(⟨g,0,none⟩:Addr).add j=⟨g,j,none⟩:=fun j=>by unfold Addr.add;split <;> simp_all
  rw[hadd] at hcs;exact hcs
theorem x4c {fb:Nat} {w:World} {o:WO} {pre:List Trk} {t:Trk} (h:WaysAt fb w o) (htr:o.tr=pre++[t]) {g cap:Nat} (hv:o.tv= .slice (some ⟨g,0,none⟩) (pre.length+1) cap):
  Mt fb o w { o with tv:= .slice (some ⟨g,0,none⟩) pre.length cap,tr:=pre } (w.setCell ⟨o.a,2,none⟩ (.slice (some ⟨g,0,none⟩) pre.length cap)):=by
 have ap:=h.apart;have hset:∀ k,k≠o.a→(w.setCell ⟨o.a,2,none⟩ (.slice (some ⟨g,0,none⟩) pre.length cap)).heap[k]?=w.heap[k]?:=fun k hk=>Below.heap_setCell _ _ _ _ hk
 have hrow:=h.tr;rw[htr,hv] at hrow;refine⟨Frm.set (.inl rfl) 2 _ _,⟨?_,h.gt,?_,?_,?_⟩,?_,rfl,rfl⟩
 ·rw[heap_setCell_same _ _ _ _ _ _ h.box];rfl
 ·have h1:=ownsRow_pop (n:=pre.length) (xs:=pre.flatMap trkC) (last:=trkC t) (z8z pre) (by
   simpa[List.flatMap_append] using hrow)
  exact rowK h1 fun b hb=>hset b fun e=>ap.ta (by rw[hv,←e];exact hb)
 ·exact rowK h.found fun b hb=>hset b fun e=>ap.fa (by rw[hb,e])
 ·intro m hm
  obtain⟨q1,f,q2,q3⟩:=h.met m hm;exact⟨q1,f,q2.keep (hset m fun e=>ap.ma (by rw[hm,e])),q3⟩
 ·rintro b (rfl | hb | hb | hb)
  ·exact .inl (.inl rfl)
  ·exact .inl (.inr (.inl (by rw[hv];exact hb)))
  ·exact .inl (.inr (.inr (.inl hb)))
  ·exact .inl (.inr (.inr (.inr hb)))
theorem y9d {fb:Nat} {w:World} {o:WO} (h:WaysAt fb w o) (htr:o.tr=[]):Mt fb o w { o with tv:= .slice none 0 0,mp:=none } ((w.setCell ⟨o.a,2,none⟩ (.slice none 0 0)).setCell ⟨o.a,3,none⟩ (.map none)):=by
 have ap:=h.apart;have hset:∀ k,k≠o.a→((w.setCell ⟨o.a,2,none⟩ (.slice none 0 0)).setCell ⟨o.a,3,none⟩ (.map none)).heap[k]?=w.heap[k]?:=fun k hk=>(Below.heap_setCell _ _ _ _ hk).trans (Below.heap_setCell _ _ _ _ hk)
 refine⟨(Frm.set (S:=o.own) (b:=o.a) (.inl rfl) 2 _ _).trans (Frm.set (S:=o.own) (b:=o.a) (.inl rfl) 3 _ _) fun _ _ q=>q,⟨?_,h.gt,?_,?_,fun m hm=>by cases hm⟩,?_,rfl,rfl⟩
 ·have e1:=heap_setCell_same w o.a 2 _ 86 (.slice none 0 0) h.box
  exact heap_setCell_same _ o.a 3 _ 86 (.map none) e1
 ·show World.ownsRow _ _ _ _ _ o.tr.length (o.tr.flatMap trkC)
  rw[htr];exact World.ownsRow_nil _ _ _ _
 ·exact rowK h.found fun b hb=>hset b fun e=>ap.fa (by rw[hb,e])
 ·rintro b (rfl | hb | hb | hb)
  ·exact .inl (.inl rfl)
  ·cases hb
  ·exact .inl (.inr (.inr (.inl hb)))
  ·cases hb
theorem OInv.clear {c:Cx} {w w':World} {O O':Tab} {o:WO} {i:Nat} (h:OInv c w O o i []) (htr:o.tr=[]) (hat:WaysAt c.fb w' { o with tv:= .slice none 0 0,mp:=none }) (htp:∀ p l,TrailP w p l→TrailP w' p l):OInv c w' O' { o with tv:= .slice none 0 0,mp:=none } i []:=by
 refine⟨h.nd,h.start,hat,fun t ht=>?_,fun t ht _=>?_,h.cb,fun f hf=>?_,h.nodup,fun hne=>absurd htr hne,h.init,fun x nd hx hn=>(h.spec x nd hx hn).keep (fun _ q=>q) (fun _ q _ _=>q) rfl,h.fin,h.ms⟩
 ·have ht':t∈o.tr:=ht
  rw[htr] at ht';cases ht'
 ·have ht':t∈o.tr:=ht
  rw[htr] at ht';cases ht'
 ·obtain⟨⟨a,l,e,nd,b,d⟩,g⟩:=h.fd f hf
  exact⟨⟨a,l,e,nd,htp _ _ b,d⟩,g⟩
structure NxI (c:Cx) (p i:Nat) (o:WO) (w:World) (O:Tab) (wr:World) (O1:Tab) (o1:WO):Prop where
 inv:FInv c (butS p i) wr O1
 ho:O1 p i=some o1
 oi:OInv c wr O1 o1 i []
 post:Post c p w O wr O1
 fd:o1.found=o.found
 a:o1.a=o.a
 res:wr.heap[w.heap.size]?=some (.cells #[.int .i64 0,.pointer none] 58)
 free:∀ q j o',O1 q j=some o'→¬ o'.own w.heap.size
section
variable {c:Cx} {p i:Nat} {o:WO} {w:World} {O:Tab} {wr:World} {O1:Tab} {o1:WO}
theorem NxI.nxt {w':World} (h:NxI c p i o w O wr O1 o1) (hn:Nxt c p i wr O1 o1 w'):∃ O' o',NxI c p i o w O w' O' o'∧meas c o'<meas c o1:=by
 obtain⟨O',o',k1,k2,k3,k4,k5,k6⟩:=hn;have hl:=(Array.getElem?_eq_some_iff.mp h.res).1;obtain⟨o3,g1,g2,_⟩:=k3.mono _ _ _ h.ho;rw[k1] at g1;injection g1 with g1;subst g1
 refine⟨O',o',⟨k2,k1,k4,h.post.trans k3,k5.trans h.fd,g2.trans h.a,?_,fun q j o3 h3 hb=>?_⟩,k6⟩
 ·rw[k3.fr.block _ hl]
  ·exact h.res
  ·rintro(e | ⟨q,j,o3,_,g1,g3⟩)
   ·obtain⟨f,⟨es,clock,z1,_⟩,_⟩:=h.inv.known
    rw[←e,h.res] at z1;simp at z1
   ·exact h.free q j o3 g1 g3
 ·rcases k3.own q j o3 h3 _ hb with ⟨o4,g1,g3⟩ | g1
  ·exact h.free q j o4 g1 g3
  ·omega
theorem NxI.next {w':World} (h:NxI c p i o w O wr O1 o1) (hb:Below wr.heap.size wr w'):NxI c p i o w O w' O1 o1:=
 ⟨h.inv.next hb,h.ho,h.oi.keep ((h.inv.at_ p i o1 h.ho).2.next hb) (z1f hb) (MonoT.refl _),h.post.trans (.of_below hb),h.fd,h.a,by rw[hb.block _ (Array.getElem?_eq_some_iff.mp h.res).1];exact h.res,h.free⟩
end
end
section
set_option linter.unusedSimpArgs false
set_option linter.unusedVariables false
structure Bx2 (B:Nat) (U:World) (O:Tab) (T4:Nat) (Y:Array Value):Prop where
 box:U.heap[T4]?=some (.cells Y 89)
 free:∀ q j o,O q j=some o→¬ o.own T4
 gt:B<T4
theorem y8h {c:Cx} (HX:CxOk c) {p:Nat} (HN:∀ q,p<q→NthC c q):NextC c p:=by
 intro w O i o h ho;obtain⟨a,ha⟩:∃ a,a=o.a:=⟨_,rfl⟩;rw[←ha];have HI0:Hid (∃ O1 o1,NxI c p i o w O (w.alloc (.cells #[.int .i64 0,.pointer none] 58)) O1 o1∧meas c o1=meas c o):=Lib.hid ⟨O,o,⟨(h.next (z0b _ _)).up (fun q j hq=>hq.1),ho,(h.obj p i o ho (Nat.le_refl _)).keep ((h.at_ p i o ho).2.next (z0b _ _)) (z1f (z0b _ _)) (MonoT.refl _),.of_below (z0b _ _),rfl,rfl,heap_alloc_new w _,fun q j o1 h1 hb=>by have:=((h.at_ q j o1 h1).2.kind hb).2.1;omega⟩,rfl⟩;have HNC:=Lib.hid HN;have HXO:=Lib.hid HX;have HA:=Lib.hid ha;have HH:=Lib.hid (And.intro h ho);clear h ho HN HX ha;go_enter Tryd.func30,Tryd.ntmps30;go_wp2
 go_loopg [4] (meas c o) (fun k _ wr=>Hid (∃ O1 o1,NxI c p i o w O wr O1 o1∧meas c o1=k))
 case atStart=>exact HI0
 case round=>
  obtain⟨O1,o1,hI,hk⟩:=hrel.out;have HI:=Lib.hid hI;have HK:=Lib.hid hk;have hbox:=(hI.inv.at_ p i o1 hI.ho).2.box;have hoa:o1.a=a:=by rw[hI.a,HA.out]
  rw[hoa] at hbox;have hal:a<wr.heap.size:=(Array.getElem?_eq_some_iff.mp hbox).1;have fa:=z0m hbox
  rcases List.eq_nil_or_concat o1.tr with htr | ⟨pre,t,htr⟩
  ·obtain⟨A,cc,hv⟩:=z1k (hI.inv.at_ p i o1 hI.ho).2.tr
   rw[htr] at hv;have c2:wr.cell? ⟨a,2,none⟩=some (.slice A 0 cc):=(z0c hbox 2).trans (by rw[hv];rfl);have c3:wr.cell? ⟨a,3,none⟩=some (.map o1.mp):=(z0c hbox 3).trans rfl;have r0:=(z0c hI.res 0).trans rfl;have r1:=(z0c hI.res 1).trans rfl;have fr:=z0m hI.res;have hne:a≠w.heap.size:=fun e=>hI.free p i o1 hI.ho (.inl (by rw[hoa];exact e.symm))
   have hm:=y9d (hI.inv.at_ p i o1 hI.ho).2 htr;rw[hoa] at hm;obtain⟨W1,hW1⟩:∃ W1,W1=((wr.setCell ⟨a,2,none⟩ (.slice none 0 0)).setCell ⟨a,3,none⟩ (.map none)):=⟨_,rfl⟩
   have hb1:W1.heap[w.heap.size]?=some (.cells #[.int .i64 0,.pointer none] 58):=by
    rw[hW1];exact((Below.heap_setCell _ _ _ _ hne.symm).trans (Below.heap_setCell _ _ _ _ hne.symm)).trans hI.res
   have q0:=(z0c hb1 0).trans rfl;have q1:=(z0c hb1 1).trans rfl
   have HFIN:Hid (NextOk c p i o w O ((((wr.setCell ⟨a,2,none⟩ (.slice none 0 0)).setCell ⟨a,3,none⟩ (.map none)).setCell ⟨w.heap.size,0,none⟩ (.int .i64 0)).setCell ⟨w.heap.size,1,none⟩ (.pointer none)) 0 none false):=Lib.hid (by
    rw[←hW1] at hm ⊢;obtain⟨k1,k2⟩:=hI.inv.upd (o':={ o1 with tv:= .slice none 0 0,mp:=none }) hI.ho (fun hb=>hb.2 ⟨rfl,rfl⟩) (by rw[←hoa] at hm;exact hm) ⟨[],by simp⟩;have hpost:=hI.post.trans k2
    have hfree:∀ q j o3,updO O1 p i { o1 with tv:= .slice none 0 0,mp:=none } q j=some o3→¬ o3.own w.heap.size:=fun q j o3 h3 hb=>by
     rcases k2.own q j o3 h3 _ hb with ⟨o4,z1,z2⟩ | z1
     ·exact hI.free q j o4 z1 z2
     ·have:=(Array.getElem?_eq_some_iff.mp hI.res).1;omega
    have hfr:Frm (fun k=>k=w.heap.size) W1 ((W1.setCell ⟨w.heap.size,0,none⟩ (.int .i64 0)).setCell ⟨w.heap.size,1,none⟩ (.pointer none)):=(Frm.set (S:=fun k=>k=w.heap.size) (b:=w.heap.size) rfl 0 _ _).trans (Frm.set (S:=fun k=>k=w.heap.size) (b:=w.heap.size) rfl 1 _ _) fun _ _ q=>q
    have hno:∀ Y,W1.heap[w.heap.size]?≠some (.cells Y 108):=fun Y hY=>by rw[hb1] at hY;simp at hY
    have hfb:c.fb<w.heap.size:=(Array.getElem?_eq_some_iff.mp HH.out.1.fin.box).1;have hi2:=k1.frm hfr hfb hfree hno;have htp:∀ p l,TrailP wr p l→TrailP ((W1.setCell ⟨w.heap.size,0,none⟩ (.int .i64 0)).setCell ⟨w.heap.size,1,none⟩ (.pointer none)) p l:=fun p l ht=>(hI.inv.trails k2 p l ht).keep hfr fun k hk Z hZ=>by subst hk;exact hno Z hZ
    refine⟨_,_,z0s _ _ _ _,hi2,hpost.frm hfr (Nat.le_refl _),hI.fd,hI.a,fun e=>(by cases e),fun _=>⟨hI.oi.clear htr (hi2.at_ p i _ (z0s _ _ _ _)).2 htp,htr,rfl,rfl⟩⟩)
   have HLL:Hid (((((wr.setCell ⟨a,2,none⟩ (.slice none 0 0)).setCell ⟨a,3,none⟩ (.map none)).setCell ⟨w.heap.size,0,none⟩ (.int .i64 0)).setCell ⟨w.heap.size,1,none⟩ (.pointer none)).cell? ⟨w.heap.size,0,none⟩=some (.int .i64 0)∧((((wr.setCell ⟨a,2,none⟩ (.slice none 0 0)).setCell ⟨a,3,none⟩ (.map none)).setCell ⟨w.heap.size,0,none⟩ (.int .i64 0)).setCell ⟨w.heap.size,1,none⟩ (.pointer none)).cell? ⟨w.heap.size,1,none⟩=some (.pointer none)):=Lib.hid (by
    rw[←hW1];refine⟨?_,?_⟩
    ·rw[World.cell?_setCell_other _ _ _ _ (by simp)]
     exact World.cell?_setCell_same _ _ _ q0
    ·exact World.cell?_setCell_same _ _ _ ((World.cell?_setCell_other _ _ _ _ (by simp)).trans q1))
   clear hI hk hbox hrel htr hv hm hb1 q0 q1 hoa hW1;go_wp2;obtain⟨l0,l1⟩:=HLL.out
   (try simp only[Exit.inBlock,Exit.then])
   exact bodyPost_ret (v:= .tuple #[.agg #[.int .i64 0,.pointer none],.bool false]) (by simp[results,Tryd.results30,go_sem,l0,l1]) rfl ⟨_,_,_,rfl,HFIN⟩
  ·rw[List.concat_eq_append] at htr
   obtain⟨g,cap,hv,hcap,hcm,hcs⟩:=x1q (hI.inv.at_ p i o1 hI.ho).2 htr;obtain⟨n,hn⟩:∃ n,n=pre.length:=⟨_,rfl⟩;have hn9:n≤900000000000:=by have:=x0h HXO.out hI.oi;rw[htr] at this;simp at this;omega
   rw[←hn] at hv hcs hcap;obtain⟨L,hL⟩:∃ L,L=n+1:=⟨_,rfl⟩;have HL:=Lib.hid hL;have c2:wr.cell? ⟨a,2,none⟩=some (.slice (some ⟨g,0,none⟩) L cap):=(z0c hbox 2).trans (by rw[hv,hL];rfl);obtain⟨p1,h1⟩:∃ x:Nat,x=t.x.part:=⟨_,rfl⟩;obtain⟨p2,h2⟩:∃ x:Nat,x=t.x.done:=⟨_,rfl⟩;obtain⟨p3,h3⟩:∃ x:Nat,x=t.x.place:=⟨_,rfl⟩;obtain⟨p4,h4⟩:∃ x:Int,x=t.x.mover:=⟨_,rfl⟩;obtain⟨p5,h5⟩:∃ x:Int,x=(t.x.count:Nat):=⟨_,rfl⟩;obtain⟨p6,h6⟩:∃ x:Nat,x=t.tried:=⟨_,rfl⟩;obtain⟨p7,h7⟩:∃ x,Value.pointer x=pv t.tl:=⟨_,rfl⟩;have hC:trkC t=[.int .i64 (p1:Nat),.int .i64 (p2:Nat),.int .i64 (p3:Nat),.int .i64 p4,.int .i64 p5,.int .i64 (p6:Nat),.pointer p7]:=by unfold trkC;rw[←h1,←h2,←h3,←h4,←h5,←h6,←h7]
   have H0:=Lib.hid (And.intro h1 (And.intro h2 (And.intro h3 (And.intro h4 (And.intro h5 (And.intro h6 (And.intro h7 hC)))))));have HTR:=Lib.hid (And.intro htr (And.intro hn (And.intro hv (And.intro hoa (And.intro hcap hcm)))));rw[hC] at hcs;have e0:wr.cell? ⟨g,n * 7,none⟩=some (.int .i64 (p1:Nat)):=hcs 0 _ rfl;have e1:wr.cell? ⟨g,n * 7+1,none⟩=some (.int .i64 (p2:Nat)):=hcs 1 _ rfl;have e2:wr.cell? ⟨g,n * 7+2,none⟩=some (.int .i64 (p3:Nat)):=hcs 2 _ rfl;have e3:wr.cell? ⟨g,n * 7+3,none⟩=some (.int .i64 p4):=hcs 3 _ rfl;have e4:wr.cell? ⟨g,n * 7+4,none⟩=some (.int .i64 p5):=hcs 4 _ rfl;have e5:wr.cell? ⟨g,n * 7+5,none⟩=some (.int .i64 (p6:Nat)):=hcs 5 _ rfl;have e6:wr.cell? ⟨g,n * 7+6,none⟩=some (.pointer p7):=hcs 6 _ rfl;have hgl:g<wr.heap.size:=World.block_lt_of_cell? wr _ e0;have HS1:Hid (wr.drew.cell? ⟨a,2,none⟩=some (.slice (some ⟨g,0,none⟩) L cap)∧wr.drew.cell? ⟨g,n * 7,none⟩=some (.int .i64 (p1:Nat))∧wr.drew.cell? ⟨g,n * 7+1,none⟩=some (.int .i64 (p2:Nat))∧wr.drew.cell? ⟨g,n * 7+2,none⟩=some (.int .i64 (p3:Nat))∧wr.drew.cell? ⟨g,n * 7+3,none⟩=some (.int .i64 p4)∧wr.drew.cell? ⟨g,n * 7+4,none⟩=some (.int .i64 p5)∧wr.drew.cell? ⟨g,n * 7+5,none⟩=some (.int .i64 (p6:Nat))∧wr.drew.cell? ⟨g,n * 7+6,none⟩=some (.pointer p7)):=Lib.hid ⟨c2,e0,e1,e2,e3,e4,e5,e6⟩
   have HS2:Hid (∀ o',Hid ((wr.alloc o').cell? ⟨a,2,none⟩=some (.slice (some ⟨g,0,none⟩) L cap)∧(wr.alloc o').cell? ⟨g,n * 7,none⟩=some (.int .i64 (p1:Nat))∧(wr.alloc o').cell? ⟨g,n * 7+1,none⟩=some (.int .i64 (p2:Nat))∧(wr.alloc o').cell? ⟨g,n * 7+2,none⟩=some (.int .i64 (p3:Nat))∧(wr.alloc o').cell? ⟨g,n * 7+3,none⟩=some (.int .i64 p4)∧(wr.alloc o').cell? ⟨g,n * 7+4,none⟩=some (.int .i64 p5)∧(wr.alloc o').cell? ⟨g,n * 7+5,none⟩=some (.int .i64 (p6:Nat))∧(wr.alloc o').cell? ⟨g,n * 7+6,none⟩=some (.pointer p7))∧Hid ((wr.alloc o').drew.cell? ⟨a,2,none⟩=some (.slice (some ⟨g,0,none⟩) L cap)∧(wr.alloc o').drew.cell? ⟨g,n * 7,none⟩=some (.int .i64 (p1:Nat))∧(wr.alloc o').drew.cell? ⟨g,n * 7+1,none⟩=some (.int .i64 (p2:Nat))∧(wr.alloc o').drew.cell? ⟨g,n * 7+2,none⟩=some (.int .i64 (p3:Nat))∧(wr.alloc o').drew.cell? ⟨g,n * 7+3,none⟩=some (.int .i64 p4)∧(wr.alloc o').drew.cell? ⟨g,n * 7+4,none⟩=some (.int .i64 p5)∧(wr.alloc o').drew.cell? ⟨g,n * 7+5,none⟩=some (.int .i64 (p6:Nat))∧(wr.alloc o').drew.cell? ⟨g,n * 7+6,none⟩=some (.pointer p7))∧Hid ((wr.drew.alloc o').cell? ⟨a,2,none⟩=some (.slice (some ⟨g,0,none⟩) L cap)∧(wr.drew.alloc o').cell? ⟨g,n * 7,none⟩=some (.int .i64 (p1:Nat))∧(wr.drew.alloc o').cell? ⟨g,n * 7+1,none⟩=some (.int .i64 (p2:Nat))∧(wr.drew.alloc o').cell? ⟨g,n * 7+2,none⟩=some (.int .i64 (p3:Nat))∧(wr.drew.alloc o').cell? ⟨g,n * 7+3,none⟩=some (.int .i64 p4)∧(wr.drew.alloc o').cell? ⟨g,n * 7+4,none⟩=some (.int .i64 p5)∧(wr.drew.alloc o').cell? ⟨g,n * 7+5,none⟩=some (.int .i64 (p6:Nat))∧(wr.drew.alloc o').cell? ⟨g,n * 7+6,none⟩=some (.pointer p7))):=Lib.hid fun o'=>by
    have k:∀ {U:World} {b j:Nat} {v:Value},Below wr.heap.size wr U→wr.cell? ⟨b,j,none⟩=some v→U.cell? ⟨b,j,none⟩=some v:=fun {U b j v} hb e=>(hb.cell (p:=⟨b,j,none⟩) (World.block_lt_of_cell? wr _ e)).trans e
    have all:∀ U:World,Below wr.heap.size wr U→U.cell? ⟨a,2,none⟩=some (.slice (some ⟨g,0,none⟩) L cap)∧U.cell? ⟨g,n * 7,none⟩=some (.int .i64 (p1:Nat))∧U.cell? ⟨g,n * 7+1,none⟩=some (.int .i64 (p2:Nat))∧U.cell? ⟨g,n * 7+2,none⟩=some (.int .i64 (p3:Nat))∧U.cell? ⟨g,n * 7+3,none⟩=some (.int .i64 p4)∧U.cell? ⟨g,n * 7+4,none⟩=some (.int .i64 p5)∧U.cell? ⟨g,n * 7+5,none⟩=some (.int .i64 (p6:Nat))∧U.cell? ⟨g,n * 7+6,none⟩=some (.pointer p7):=fun U hb=>⟨k hb c2,k hb e0,k hb e1,k hb e2,k hb e3,k hb e4,k hb e5,k hb e6⟩
    exact⟨Lib.hid (all _ (z0b _ _)),Lib.hid (all _ (z0b _ _).drew),Lib.hid (all _ ((Below.refl _ _).drew.alloc (by simp) _))⟩
   have hlt:n<L:=by omega
   have hlti:(n:Int)<(L:Int):=by omega
   have hL0:0<L:=by omega
   have hL0i:(0:Int)<(L:Int):=by omega
   have hL9:L≤900000000001:=by omega
   have hL1:(L:Int) - 1=(n:Int):=by omega
   have hwn:IntKind.i64.wrap (n:Int)=(n:Int):=IntWalk.i64_in _ (by omega);clear hL;have HE2:Hid (∀ U:World,Below wr.heap.size wr U→U.heap[wr.heap.size]?=some (.cells #[.int .i64 (p1:Nat),.int .i64 (p2:Nat),.int .i64 (p3:Nat),.int .i64 p4,.int .i64 p5,.int .i64 (p6:Nat),.pointer p7] 89)→Hid (NxI c p i o w O U O1 o1∧Bx2 w.heap.size U O1 wr.heap.size #[.int .i64 (p1:Nat),.int .i64 (p2:Nat),.int .i64 (p3:Nat),.int .i64 p4,.int .i64 p5,.int .i64 (p6:Nat),.pointer p7])):=Lib.hid fun U h1 h2=>Lib.hid ⟨hI.next h1,h2,fun q j o3 h3 hb=>(by have:=((hI.inv.at_ q j o3 h3).2.kind hb).2.1;omega),(Array.getElem?_eq_some_iff.mp hI.res).1⟩
   clear hn hcs hC hbox hv htr hI hk hrel h1 h2 h3 h4 h5 h6 h7
   go_upto_region 2 with (fail)
   go_cut [4] from 5 to 75 (fun t4 wx=>∃ T4:Nat,t4= .pointer (some ⟨T4,0,none⟩)∧Hid (NxI c p i o w O wx O1 o1∧Bx2 w.heap.size wx O1 T4 #[.int .i64 (p1:Nat),.int .i64 (p2:Nat),.int .i64 (p3:Nat),.int .i64 p4,.int .i64 p5,.int .i64 (p6:Nat),.pointer p7]))
   case first=>
    go_region_held3 (fun w'=>w'.cell? ⟨a,2,none⟩=some (.slice (some ⟨g,0,none⟩) L cap)∧w'.cell? ⟨g,n * 7,none⟩=some (.int .i64 (p1:Nat))∧w'.cell? ⟨g,n * 7+1,none⟩=some (.int .i64 (p2:Nat))∧w'.cell? ⟨g,n * 7+2,none⟩=some (.int .i64 (p3:Nat))∧w'.cell? ⟨g,n * 7+3,none⟩=some (.int .i64 p4)∧w'.cell? ⟨g,n * 7+4,none⟩=some (.int .i64 p5)∧w'.cell? ⟨g,n * 7+5,none⟩=some (.int .i64 (p6:Nat))∧w'.cell? ⟨g,n * 7+6,none⟩=some (.pointer p7)) (first | (with_reducible exact HS1.out) | (with_reducible exact(HS2.out _).1.out) | (with_reducible exact(HS2.out _).2.1.out) | (with_reducible exact(HS2.out _).2.2.out)) (fail)
    all_goals go_wp2
    all_goals go_meet
    all_goals (first | exact⟨_,rfl,HE2.out _ ((Below.refl _ _).drew.alloc (by simp) _) (heap_alloc_new wr.drew _)⟩ | exact⟨_,rfl,HE2.out _ (z0b _ _).drew (heap_alloc_new wr _)⟩ | go_outline)
   case rest=>
    obtain⟨T4,rfl,HB⟩:=hcut;have hbox:=(HB.out.1.inv.at_ p i o1 HB.out.1.ho).2.box;rw[HTR.out.2.2.2.1] at hbox;have fa:=z0m hbox;have c2:wc.cell? ⟨a,2,none⟩=some (.slice (some ⟨g,0,none⟩) L cap):=(z0c hbox 2).trans (by rw[HTR.out.2.2.1,HL.out];rfl);have hncap:n≤cap:=by have:=HTR.out.2.2.2.2.1;omega
    have HE3:Hid (∀ U:World,Below wc.heap.size wc U→Hid (∃ U',NxI c p i o w O U' O1 o1∧Mt c.fb o1 U' { o1 with tv:= .slice (some ⟨g,0,none⟩) n cap,tr:=pre } (U.setCell ⟨a,2,none⟩ (.slice (some ⟨g,0,none⟩) n cap))∧Bx2 w.heap.size (U.setCell ⟨a,2,none⟩ (.slice (some ⟨g,0,none⟩) n cap)) O1 T4 #[.int .i64 (p1:Nat),.int .i64 (p2:Nat),.int .i64 (p3:Nat),.int .i64 p4,.int .i64 p5,.int .i64 (p6:Nat),.pointer p7]∧T4<U'.heap.size)):=Lib.hid fun U hU=>by
     have h1:=HB.out.1.next hU
     have h2:=x4c (h1.inv.at_ p i o1 h1.ho).2 HTR.out.1 (g:=g) (cap:=cap) (by rw[←HTR.out.2.1];exact HTR.out.2.2.1);rw[←HTR.out.2.1] at h2;rw[←HTR.out.2.2.2.1];have hlt4:=(Array.getElem?_eq_some_iff.mp HB.out.2.box).1;refine Lib.hid ⟨U,h1,h2,⟨?_,HB.out.2.free,HB.out.2.gt⟩,Nat.lt_of_lt_of_le hlt4 hU.size⟩;rw[Below.heap_setCell _ _ _ _ (fun e=>HB.out.2.free p i o1 HB.out.1.ho (.inl e)),hU.block _ hlt4];exact HB.out.2.box
    clear hbox
    go_upto_region 3 with (fail)
    go_cut [] from 5 to 75 (fun wx=>Hid (∃ U',NxI c p i o w O U' O1 o1∧Mt c.fb o1 U' { o1 with tv:= .slice (some ⟨g,0,none⟩) n cap,tr:=pre } wx∧Bx2 w.heap.size wx O1 T4 #[.int .i64 (p1:Nat),.int .i64 (p2:Nat),.int .i64 (p3:Nat),.int .i64 p4,.int .i64 p5,.int .i64 (p6:Nat),.pointer p7]∧T4<U'.heap.size))
    case first=>
     go_region
     all_goals go_wp2
     all_goals go_meet
     all_goals (first | exact HE3.out _ (Below.refl _ _).drew | exact HE3.out _ (Below.refl _ _) | go_outline)
    case rest=>
     obtain⟨X,rfl⟩:∃ X,X=wc:=⟨_,rfl⟩;obtain⟨U',hN,hM,hB,hT4U⟩:=hcut.out;have HN:=Lib.hid hN;have HM:=Lib.hid hM;have HBX:=Lib.hid hB.box;have HBf:=Lib.hid (And.intro hB.free hB.gt);have hat2:=hM.at_
     have hsz4:=(Array.getElem?_eq_some_iff.mp hB.box).1;clear hcut fa c2 HE3 HB;by_cases h60:p6=0
     ·subst h60
      have HTV:Hid (trkV t= .agg #[.int .i64 (p1:Nat),.int .i64 (p2:Nat),.int .i64 (p3:Nat),.int .i64 p4,.int .i64 p5,.int .i64 0,.pointer p7]):=Lib.hid (by
       obtain⟨z1,z2,z3,z4,z5,z6,z7,_⟩:=H0.out;unfold trkV;rw[z1,z2,z3,z4,z5,←z6,z7];rfl)
      have HC40:Hid (Calls Tryd.prog 40 #[.pointer (some ⟨a,0,none⟩),.agg #[.int .i64 (p1:Nat),.int .i64 (p2:Nat),.int .i64 (p3:Nat),.int .i64 p4,.int .i64 p5,.int .i64 0,.pointer p7]] X fun e w'=>∃ b,e= .returned (.bool b)∧Hid ((b=true ↔ ¬ o1.C t.x)∧Mt c.fb o1 U' { o1 with tv:= .slice (some ⟨g,0,none⟩) n cap,tr:=pre,C:=fun y=>o1.C y∨y=t.x } w'∧w'.heap[T4]?=some (.cells #[.int .i64 (p1:Nat),.int .i64 (p2:Nat),.int .i64 (p3:Nat),.int .i64 p4,.int .i64 p5,.int .i64 0,.pointer p7] 89))):=Lib.hid (by
       obtain⟨m,hmp⟩:=hN.oi.mp (by rw[HTR.out.1];simp);have hspo:=(hN.oi.tk t (by rw[HTR.out.1];simp)).spo HXO.out.T HXO.out.len (Nat.le_trans HXO.out.lim HXO.out.size);have h1:=y5l t hat2 hmp hspo;rw[HTV.out] at h1;rw[←HTR.out.2.2.2.1];refine h1.mono fun e w' ⟨b,g1,g2⟩=>⟨b,g1,Lib.hid ⟨g2.out.1,hM.trans g2.out.2,?_⟩⟩
       rw[g2.out.2.fr.block _ hsz4]
       ·exact HBX.out
       ·intro hq
        rcases hM.own _ hq with k | k
        ·exact HBf.out.1 p i o1 hN.ho k
        ·omega)
      have HNX:Hid (∀ w',Nxt c p i U' O1 o1 w'→Hid (∃ O' o',NxI c p i o w O w' O' o'∧meas c o'<gk)):=Lib.hid fun w' h=>by
       obtain⟨O',o',g1,g2⟩:=HN.out.nxt h;exact Lib.hid ⟨O',o',g1,by rw[←HK.out];exact g2⟩
      clear hM;clear hN hB hat2;have hb7:=z0c HBX.out;have y0:=(hb7 0).trans rfl;have y1:=(hb7 1).trans rfl;have y2:=(hb7 2).trans rfl;have y3:=(hb7 3).trans rfl;have y4:=(hb7 4).trans rfl;have y5:=(hb7 5).trans rfl;have y6:=(hb7 6).trans rfl;clear hb7;by_cases hc:o1.C t.x
      ·have HC40a:Hid (Calls Tryd.prog 40 #[.pointer (some ⟨a,0,none⟩),.agg #[.int .i64 (p1:Nat),.int .i64 (p2:Nat),.int .i64 (p3:Nat),.int .i64 p4,.int .i64 p5,.int .i64 0,.pointer p7]] X fun e w'=>e= .returned (.bool false)∧Hid (∃ O' o',NxI c p i o w O w' O' o'∧meas c o'<gk)):=Lib.hid (HC40.out.mono fun e w' ⟨b,g1,g2⟩=>by
        have hb:b=false:=by
         cases b with
         | false=>rfl
         | true=>exact absurd hc (g2.out.1.1 rfl)
        subst hb;exact⟨g1,HNX.out w' (x2v HXO.out HN.out.inv HN.out.ho HN.out.oi HTR.out.1 g2.out.2.1 rfl (fun _=>Iff.rfl) rfl rfl H0.out.2.2.2.2.2.1.symm hc)⟩)
       clear hc;go_wp2_with (first | (go_at_call 40;((with_reducible refine(HC40a.out).mono ?_));rintro _ w' ⟨rfl,hq⟩) | fail);obtain⟨O',o',g1,g2⟩:=hq.out
       go_roundg (meas c o')
       case measure=>exact g2
       case rel=>exact Lib.hid ⟨O',o',g1,rfl⟩
      ·have HC40b:Hid (Calls Tryd.prog 40 #[.pointer (some ⟨a,0,none⟩),.agg #[.int .i64 (p1:Nat),.int .i64 (p2:Nat),.int .i64 (p3:Nat),.int .i64 p4,.int .i64 p5,.int .i64 0,.pointer p7]] X fun e w'=>e= .returned (.bool true)∧Hid (Pop c p i U' O1 o1 pre t w' { o1 with tv:= .slice (some ⟨g,0,none⟩) n cap,tr:=pre,C:=fun y=>o1.C y∨y=t.x }∧w'.heap[T4]?=some (.cells #[.int .i64 (p1:Nat),.int .i64 (p2:Nat),.int .i64 (p3:Nat),.int .i64 p4,.int .i64 p5,.int .i64 0,.pointer p7] 89))):=Lib.hid (HC40.out.mono fun e w' ⟨b,g1,g2⟩=>by
        have hb:b=true:=g2.out.1.2 hc;subst hb;exact⟨g1,Lib.hid ⟨⟨HN.out.inv,HN.out.ho,HN.out.oi,HTR.out.1,g2.out.2.1,rfl,fun _=>Iff.rfl,rfl,rfl,.inl ⟨H0.out.2.2.2.2.2.1.symm,hc⟩⟩,g2.out.2.2⟩⟩)
       clear hc HBX
       go_upto_if 45 with (first | (go_at_call 40;((with_reducible refine(HC40b.out).mono ?_));rintro _ w2 ⟨rfl,HK2⟩) | fail)
       clear y0 y1 y2 y3 y4 y5 y6;have HP:=Lib.hid HK2.out.1;have HBX:=Lib.hid HK2.out.2;have hb7:=z0c HBX.out;have y0:=(hb7 0).trans rfl;have y1:=(hb7 1).trans rfl;have y2:=(hb7 2).trans rfl;have y3:=(hb7 3).trans rfl;have y4:=(hb7 4).trans rfl;have y5:=(hb7 5).trans rfl;have y6:=(hb7 6).trans rfl
       have HTV:Hid (trkV t= .agg #[.int .i64 (p1:Nat),.int .i64 (p2:Nat),.int .i64 (p3:Nat),.int .i64 p4,.int .i64 p5,.int .i64 0,.pointer p7]):=Lib.hid (by
        obtain⟨z1,z2,z3,z4,z5,z6,z7,_⟩:=H0.out;unfold trkV;rw[z1,z2,z3,z4,z5,←z6,z7];try rfl)
       have HNX:Hid (∀ w',Nxt c p i U' O1 o1 w'→Hid (∃ O' o',NxI c p i o w O w' O' o'∧meas c o'<gk)):=Lib.hid fun w' h=>by
        obtain⟨O',o',g1,g2⟩:=HN.out.nxt h;exact Lib.hid ⟨O',o',g1,by rw[←HK.out];exact g2⟩
       clear hb7
       rcases Nat.lt_trichotomy p2 1 with hp2 | hp2 | hp2
       ·have hp20:p2=0:=by omega
        subst hp20
        have HC41:Hid (Calls Tryd.prog 41 #[.pointer (some ⟨a,0,none⟩),.agg #[.int .i64 (p1:Nat),.int .i64 0,.int .i64 (p3:Nat),.int .i64 p4,.int .i64 p5,.int .i64 0,.pointer p7]] w2 fun e w'=>e= .returned (.tuple #[])∧Hid (∃ O' o',NxI c p i o w O w' O' o'∧meas c o'<gk)):=Lib.hid (by
         have h1:=y2d HXO.out HP.out H0.out.2.1.symm;rw[HTV.out,HP.out.mt.a,HTR.out.2.2.2.1] at h1;exact h1.mono fun e w' ⟨g1,g2⟩=>⟨g1,HNX.out w' g2.out⟩)
        go_wp2_with (first | (go_at_call 41;((with_reducible refine(HC41.out).mono ?_));rintro _ w' ⟨rfl,hq⟩) | fail);obtain⟨O',o',g1,g2⟩:=hq.out
        go_roundg (meas c o')
        case measure=>exact g2
        case rel=>exact Lib.hid ⟨O',o',g1,rfl⟩
       ·subst hp2
        have HB2:Hid (w2.heap[w.heap.size]?=some (.cells #[.int .i64 0,.pointer none] 58)):=Lib.hid (by
         rw[HP.out.mt.fr.block _ (Array.getElem?_eq_some_iff.mp HN.out.res).1 (fun hq=>HN.out.free p i o1 HN.out.ho hq)];exact HN.out.res)
        have hbx2:=HP.out.mt.at_.box
        rw[HP.out.mt.a,HTR.out.2.2.2.1,HP.out.mt.part,HP.out.part] at hbx2;have y8:w2.cell? ⟨a,1,none⟩=some (.int .i64 (p:Nat)):=(z0c hbx2 1).trans rfl;have HPD:=Lib.hid (HP.out.next ((Below.refl w2.heap.size w2).drew));clear hbx2;by_cases hpp:p1=p
        ·have HFIN:Hid (∀ V:World,Below w2.heap.size w2 V→Hid (NextOk c p i o w O ((V.setCell ⟨w.heap.size,0,none⟩ (.int .i64 (p3:Nat))).setCell ⟨w.heap.size,1,none⟩ (.pointer p7)) (p3:Nat) p7 true)):=Lib.hid fun V hV=>Lib.hid (by
          have hPV:=HP.out.next hV
          obtain⟨O',o',g1,g2,g3,g4,g5⟩:=x0u HXO.out hPV H0.out.2.1.symm (by rw[←H0.out.1];exact hpp);have hpost:=HN.out.post.trans g3
          have hfree:∀ q j o3,O' q j=some o3→¬ o3.own w.heap.size:=fun q j o3 h3 hb=>by
           rcases g3.own q j o3 h3 _ hb with ⟨o4,k1,k2⟩ | k1
           ·exact HN.out.free q j o4 k1 k2
           ·have:=(Array.getElem?_eq_some_iff.mp HN.out.res).1;omega
          have hbV:V.heap[w.heap.size]?=some (.cells #[.int .i64 0,.pointer none] 58):=(hV.block _ (Array.getElem?_eq_some_iff.mp HB2.out).1).trans HB2.out;have hfr:Frm (fun k=>k=w.heap.size) V ((V.setCell ⟨w.heap.size,0,none⟩ (.int .i64 (p3:Nat))).setCell ⟨w.heap.size,1,none⟩ (.pointer p7)):=(Frm.set (S:=fun k=>k=w.heap.size) (b:=w.heap.size) rfl 0 _ _).trans (Frm.set (S:=fun k=>k=w.heap.size) (b:=w.heap.size) rfl 1 _ _) fun _ _ q=>q
          have hno:∀ Y,V.heap[w.heap.size]?≠some (.cells Y 108):=fun Y hY=>by rw[hbV] at hY;simp at hY
          have hfb:c.fb<w.heap.size:=(Array.getElem?_eq_some_iff.mp HH.out.1.fin.box).1;have hi2:=g2.frm hfr hfb hfree hno;obtain⟨o5,m1,m2,_⟩:=hpost.mono _ _ _ HH.out.2;rw[g1] at m1;injection m1 with m1;subst m1
          refine⟨O',o',g1,hi2,hpost.frm hfr (Nat.le_refl _),g4.trans HN.out.fd,m2,fun _=>⟨⟨t.x.place,t.tl⟩,by rw[H0.out.2.2.1],H0.out.2.2.2.2.2.2.1,?_⟩,fun e=>by cases e⟩;exact g5.keep (hi2.at_ p i o' g1).2 (fun p l ht=>ht.keep hfr fun k hk Z hZ=>by subst hk;exact hno Z hZ) (MonoT.refl _))
         have HLL:Hid (∀ V:World,Below w2.heap.size w2 V→V.cell? ⟨w.heap.size,0,none⟩=some (.int .i64 0)∧V.cell? ⟨w.heap.size,1,none⟩=some (.pointer none)∧(∀ k,V.frozen? ⟨w.heap.size,k,none⟩=false)∧Hid (((V.setCell ⟨w.heap.size,0,none⟩ (.int .i64 (p3:Nat))).setCell ⟨w.heap.size,1,none⟩ (.pointer p7)).cell? ⟨w.heap.size,0,none⟩=some (.int .i64 (p3:Nat))∧((V.setCell ⟨w.heap.size,0,none⟩ (.int .i64 (p3:Nat))).setCell ⟨w.heap.size,1,none⟩ (.pointer p7)).cell? ⟨w.heap.size,1,none⟩=some (.pointer p7))):=Lib.hid fun V hV=>by
          have hbV:V.heap[w.heap.size]?=some (.cells #[.int .i64 0,.pointer none] 58):=(hV.block _ (Array.getElem?_eq_some_iff.mp HB2.out).1).trans HB2.out;have q0:=(z0c hbV 0).trans rfl;have q1:=(z0c hbV 1).trans rfl;refine⟨q0,q1,z0m hbV,Lib.hid ⟨?_,?_⟩⟩
          ·rw[World.cell?_setCell_other _ _ _ _ (by simp)]
           exact World.cell?_setCell_same _ _ _ q0
          ·exact World.cell?_setCell_same _ _ _ ((World.cell?_setCell_other _ _ _ _ (by simp)).trans q1)
         subst hpp
         go_upto_region 10 with (fail)
         go_region
         all_goals (
          have HF1:=HFIN.out w2.drew (Below.refl _ _).drew;have hl1:=HLL.out w2 (Below.refl _ _);have q0:=hl1.1;have q1:=hl1.2.1;have qf:=hl1.2.2.1;have HL2:=hl1.2.2.2;have HM0:=Lib.hid (World.cell?_setCell_same w2 ⟨w.heap.size,0,none⟩ (.int .i64 (p3:Nat)) q0);clear hl1;go_wp2;obtain⟨l0,l1⟩:=HL2.out;have l2:=HM0.out
          (try simp only[Exit.inBlock,Exit.then])
          exact bodyPost_ret (v:= .tuple #[.agg #[.int .i64 (p3:Nat),.pointer p7],.bool true]) (by simp[results,Tryd.results30,go_sem,l0,l1,l2]) rfl ⟨_,_,_,rfl,HF1⟩)
        ·have HC43:Hid (Calls Tryd.prog 43 #[.pointer (some ⟨a,0,none⟩),.agg #[.int .i64 (p1:Nat),.int .i64 1,.int .i64 (p3:Nat),.int .i64 p4,.int .i64 p5,.int .i64 0,.pointer p7]] w2.drew fun e w'=>e= .returned (.tuple #[])∧Hid (∃ O' o',NxI c p i o w O w' O' o'∧meas c o'<gk)):=Lib.hid (by
          have hnc:¬ o1.C t.x:=by
           rcases HP.out.hc with ⟨_,h0⟩ | h0
           ·exact h0
           ·obtain⟨_,_,g,_⟩:=HP.out.oi.tk2 t (by rw[HTR.out.1];simp) h0
            exact absurd H0.out.2.1.symm g
          have h1:=y1r HXO.out HPD.out H0.out.2.1.symm (by rw[HP.out.part,←H0.out.1];exact hpp) hnc;rw[HTV.out,HP.out.mt.a,HTR.out.2.2.2.1] at h1;exact h1.mono fun e w' ⟨g1,g2⟩=>⟨g1,HNX.out w' g2.out⟩)
         have hppi:((p1:Int)==(p:Int))=false:=by simp;omega
         have hppj:¬ (p1:Int)=(p:Int):=by omega
         go_upto_region 10 with (fail)
         go_region
         all_goals (
          go_wp2_with (first | (go_at_call 43;((with_reducible refine(HC43.out).mono ?_));rintro _ w' ⟨rfl,hq⟩) | fail);obtain⟨O',o',g1,g2⟩:=hq.out
          go_roundg (meas c o')
          case measure=>exact g2
          case rel=>exact Lib.hid ⟨O',o',g1,rfl⟩)
       ·have HC42:Hid (Calls Tryd.prog 42 #[.pointer (some ⟨a,0,none⟩),.agg #[.int .i64 (p1:Nat),.int .i64 (p2:Nat),.int .i64 (p3:Nat),.int .i64 p4,.int .i64 p5,.int .i64 0,.pointer p7]] w2 fun e w'=>e= .returned (.tuple #[])∧Hid (∃ O' o',NxI c p i o w O w' O' o'∧meas c o'<gk)):=Lib.hid (by
         have h1:=x0x HXO.out HP.out HNC.out (by rw[←H0.out.2.1];omega);rw[HTV.out,HP.out.mt.a,HTR.out.2.2.2.1] at h1;exact h1.mono fun e w' ⟨g1,g2⟩=>⟨g1,HNX.out w' g2.out⟩)
        have hp2i:(2:Int)≤(p2:Int):=by omega
        have hp2n:2≤p2:=by omega
        have hp20:((p2:Int)==0)=false:=by simp;omega
        have hp20':(p2:Int)≠0:=by omega
        have hp20n:p2≠0:=by omega
        go_wp2_with (first | (go_at_call 42;((with_reducible refine(HC42.out).mono ?_));rintro _ w' ⟨rfl,hq⟩) | fail);obtain⟨O',o',g1,g2⟩:=hq.out
        go_roundg (meas c o')
        case measure=>exact g2
        case rel=>exact Lib.hid ⟨O',o',g1,rfl⟩
     ·have HP:Hid (Pop c p i U' O1 o1 pre t X { o1 with tv:= .slice (some ⟨g,0,none⟩) n cap,tr:=pre }):=Lib.hid (by
       have h6:0<t.tried:=by rw[←H0.out.2.2.2.2.2.1];omega
       have hC:=(hN.oi.tk2 t (by rw[HTR.out.1];simp) h6).1;exact⟨hN.inv,hN.ho,hN.oi,HTR.out.1,hM,rfl,fun y=>⟨.inl,fun h=>h.elim id fun e=>e ▸ hC⟩,rfl,rfl,.inr h6⟩)
      have h60i:((p6:Int)==0)=false:=by simp;omega
      clear hN hM hB hat2;have hb7:=z0c HBX.out;have y0:=(hb7 0).trans rfl;have y1:=(hb7 1).trans rfl;have y2:=(hb7 2).trans rfl;have y3:=(hb7 3).trans rfl;have y4:=(hb7 4).trans rfl;have y5:=(hb7 5).trans rfl;have y6:=(hb7 6).trans rfl
      have HTV:Hid (trkV t= .agg #[.int .i64 (p1:Nat),.int .i64 (p2:Nat),.int .i64 (p3:Nat),.int .i64 p4,.int .i64 p5,.int .i64 (p6:Nat),.pointer p7]):=Lib.hid (by
       obtain⟨z1,z2,z3,z4,z5,z6,z7,_⟩:=H0.out;unfold trkV;rw[z1,z2,z3,z4,z5,z6,z7];try rfl)
      have HNX:Hid (∀ w',Nxt c p i U' O1 o1 w'→Hid (∃ O' o',NxI c p i o w O w' O' o'∧meas c o'<gk)):=Lib.hid fun w' h=>by
       obtain⟨O',o',g1,g2⟩:=HN.out.nxt h;exact Lib.hid ⟨O',o',g1,by rw[←HK.out];exact g2⟩
      clear hb7
      rcases Nat.lt_trichotomy p2 1 with hp2 | hp2 | hp2
      ·have hp20:p2=0:=by omega
       subst hp20
       have HC41:Hid (Calls Tryd.prog 41 #[.pointer (some ⟨a,0,none⟩),.agg #[.int .i64 (p1:Nat),.int .i64 0,.int .i64 (p3:Nat),.int .i64 p4,.int .i64 p5,.int .i64 (p6:Nat),.pointer p7]] X fun e w'=>e= .returned (.tuple #[])∧Hid (∃ O' o',NxI c p i o w O w' O' o'∧meas c o'<gk)):=Lib.hid (by
        have h1:=y2d HXO.out HP.out H0.out.2.1.symm;rw[HTV.out,HP.out.mt.a,HTR.out.2.2.2.1] at h1;exact h1.mono fun e w' ⟨g1,g2⟩=>⟨g1,HNX.out w' g2.out⟩)
       go_wp2_with (first | (go_at_call 41;((with_reducible refine(HC41.out).mono ?_));rintro _ w' ⟨rfl,hq⟩) | fail);obtain⟨O',o',g1,g2⟩:=hq.out
       go_roundg (meas c o')
       case measure=>exact g2
       case rel=>exact Lib.hid ⟨O',o',g1,rfl⟩
      ·subst hp2
       have HB2:Hid (X.heap[w.heap.size]?=some (.cells #[.int .i64 0,.pointer none] 58)):=Lib.hid (by
        rw[HP.out.mt.fr.block _ (Array.getElem?_eq_some_iff.mp HN.out.res).1 (fun hq=>HN.out.free p i o1 HN.out.ho hq)];exact HN.out.res)
       have hbx2:=HP.out.mt.at_.box
       rw[HP.out.mt.a,HTR.out.2.2.2.1,HP.out.mt.part,HP.out.part] at hbx2;have y8:X.cell? ⟨a,1,none⟩=some (.int .i64 (p:Nat)):=(z0c hbx2 1).trans rfl;have HPD:=Lib.hid (HP.out.next ((Below.refl X.heap.size X).drew));clear hbx2;by_cases hpp:p1=p
       ·have HFIN:Hid (∀ V:World,Below X.heap.size X V→Hid (NextOk c p i o w O ((V.setCell ⟨w.heap.size,0,none⟩ (.int .i64 (p3:Nat))).setCell ⟨w.heap.size,1,none⟩ (.pointer p7)) (p3:Nat) p7 true)):=Lib.hid fun V hV=>Lib.hid (by
         have hPV:=HP.out.next hV
         obtain⟨O',o',g1,g2,g3,g4,g5⟩:=x0u HXO.out hPV H0.out.2.1.symm (by rw[←H0.out.1];exact hpp);have hpost:=HN.out.post.trans g3
         have hfree:∀ q j o3,O' q j=some o3→¬ o3.own w.heap.size:=fun q j o3 h3 hb=>by
          rcases g3.own q j o3 h3 _ hb with ⟨o4,k1,k2⟩ | k1
          ·exact HN.out.free q j o4 k1 k2
          ·have:=(Array.getElem?_eq_some_iff.mp HN.out.res).1;omega
         have hbV:V.heap[w.heap.size]?=some (.cells #[.int .i64 0,.pointer none] 58):=(hV.block _ (Array.getElem?_eq_some_iff.mp HB2.out).1).trans HB2.out;have hfr:Frm (fun k=>k=w.heap.size) V ((V.setCell ⟨w.heap.size,0,none⟩ (.int .i64 (p3:Nat))).setCell ⟨w.heap.size,1,none⟩ (.pointer p7)):=(Frm.set (S:=fun k=>k=w.heap.size) (b:=w.heap.size) rfl 0 _ _).trans (Frm.set (S:=fun k=>k=w.heap.size) (b:=w.heap.size) rfl 1 _ _) fun _ _ q=>q
         have hno:∀ Y,V.heap[w.heap.size]?≠some (.cells Y 108):=fun Y hY=>by rw[hbV] at hY;simp at hY
         have hfb:c.fb<w.heap.size:=(Array.getElem?_eq_some_iff.mp HH.out.1.fin.box).1;have hi2:=g2.frm hfr hfb hfree hno;obtain⟨o5,m1,m2,_⟩:=hpost.mono _ _ _ HH.out.2;rw[g1] at m1;injection m1 with m1;subst m1
         refine⟨O',o',g1,hi2,hpost.frm hfr (Nat.le_refl _),g4.trans HN.out.fd,m2,fun _=>⟨⟨t.x.place,t.tl⟩,by rw[H0.out.2.2.1],H0.out.2.2.2.2.2.2.1,?_⟩,fun e=>by cases e⟩;exact g5.keep (hi2.at_ p i o' g1).2 (fun p l ht=>ht.keep hfr fun k hk Z hZ=>by subst hk;exact hno Z hZ) (MonoT.refl _))
        have HLL:Hid (∀ V:World,Below X.heap.size X V→V.cell? ⟨w.heap.size,0,none⟩=some (.int .i64 0)∧V.cell? ⟨w.heap.size,1,none⟩=some (.pointer none)∧(∀ k,V.frozen? ⟨w.heap.size,k,none⟩=false)∧Hid (((V.setCell ⟨w.heap.size,0,none⟩ (.int .i64 (p3:Nat))).setCell ⟨w.heap.size,1,none⟩ (.pointer p7)).cell? ⟨w.heap.size,0,none⟩=some (.int .i64 (p3:Nat))∧((V.setCell ⟨w.heap.size,0,none⟩ (.int .i64 (p3:Nat))).setCell ⟨w.heap.size,1,none⟩ (.pointer p7)).cell? ⟨w.heap.size,1,none⟩=some (.pointer p7))):=Lib.hid fun V hV=>by
         have hbV:V.heap[w.heap.size]?=some (.cells #[.int .i64 0,.pointer none] 58):=(hV.block _ (Array.getElem?_eq_some_iff.mp HB2.out).1).trans HB2.out;have q0:=(z0c hbV 0).trans rfl;have q1:=(z0c hbV 1).trans rfl;refine⟨q0,q1,z0m hbV,Lib.hid ⟨?_,?_⟩⟩
         ·rw[World.cell?_setCell_other _ _ _ _ (by simp)]
          exact World.cell?_setCell_same _ _ _ q0
         ·exact World.cell?_setCell_same _ _ _ ((World.cell?_setCell_other _ _ _ _ (by simp)).trans q1)
        subst hpp
        go_upto_region 10 with (fail)
        go_region
        all_goals (
         have HF1:=HFIN.out X.drew (Below.refl _ _).drew;have hl1:=HLL.out X (Below.refl _ _);have q0:=hl1.1;have q1:=hl1.2.1;have qf:=hl1.2.2.1;have HL2:=hl1.2.2.2;have HM0:=Lib.hid (World.cell?_setCell_same X ⟨w.heap.size,0,none⟩ (.int .i64 (p3:Nat)) q0);clear hl1;go_wp2;obtain⟨l0,l1⟩:=HL2.out;have l2:=HM0.out
         (try simp only[Exit.inBlock,Exit.then])
         exact bodyPost_ret (v:= .tuple #[.agg #[.int .i64 (p3:Nat),.pointer p7],.bool true]) (by simp[results,Tryd.results30,go_sem,l0,l1,l2]) rfl ⟨_,_,_,rfl,HF1⟩)
       ·have HC43:Hid (Calls Tryd.prog 43 #[.pointer (some ⟨a,0,none⟩),.agg #[.int .i64 (p1:Nat),.int .i64 1,.int .i64 (p3:Nat),.int .i64 p4,.int .i64 p5,.int .i64 (p6:Nat),.pointer p7]] X.drew fun e w'=>e= .returned (.tuple #[])∧Hid (∃ O' o',NxI c p i o w O w' O' o'∧meas c o'<gk)):=Lib.hid (by
         have hnc:¬ o1.C t.x:=by
          rcases HP.out.hc with ⟨_,h0⟩ | h0
          ·exact h0
          ·obtain⟨_,_,g,_⟩:=HP.out.oi.tk2 t (by rw[HTR.out.1];simp) h0
           exact absurd H0.out.2.1.symm g
         have h1:=y1r HXO.out HPD.out H0.out.2.1.symm (by rw[HP.out.part,←H0.out.1];exact hpp) hnc;rw[HTV.out,HP.out.mt.a,HTR.out.2.2.2.1] at h1;exact h1.mono fun e w' ⟨g1,g2⟩=>⟨g1,HNX.out w' g2.out⟩)
        have hppi:((p1:Int)==(p:Int))=false:=by simp;omega
        have hppj:¬ (p1:Int)=(p:Int):=by omega
        go_upto_region 10 with (fail)
        go_region
        all_goals (
         go_wp2_with (first | (go_at_call 43;((with_reducible refine(HC43.out).mono ?_));rintro _ w' ⟨rfl,hq⟩) | fail);obtain⟨O',o',g1,g2⟩:=hq.out
         go_roundg (meas c o')
         case measure=>exact g2
         case rel=>exact Lib.hid ⟨O',o',g1,rfl⟩)
      ·have HC42:Hid (Calls Tryd.prog 42 #[.pointer (some ⟨a,0,none⟩),.agg #[.int .i64 (p1:Nat),.int .i64 (p2:Nat),.int .i64 (p3:Nat),.int .i64 p4,.int .i64 p5,.int .i64 (p6:Nat),.pointer p7]] X fun e w'=>e= .returned (.tuple #[])∧Hid (∃ O' o',NxI c p i o w O w' O' o'∧meas c o'<gk)):=Lib.hid (by
        have h1:=x0x HXO.out HP.out HNC.out (by rw[←H0.out.2.1];omega);rw[HTV.out,HP.out.mt.a,HTR.out.2.2.2.1] at h1;exact h1.mono fun e w' ⟨g1,g2⟩=>⟨g1,HNX.out w' g2.out⟩)
       have hp2i:(2:Int)≤(p2:Int):=by omega
       have hp2n:2≤p2:=by omega
       have hp20:((p2:Int)==0)=false:=by simp;omega
       have hp20':(p2:Int)≠0:=by omega
       have hp20n:p2≠0:=by omega
       go_wp2_with (first | (go_at_call 42;((with_reducible refine(HC42.out).mono ?_));rintro _ w' ⟨rfl,hq⟩) | fail);obtain⟨O',o',g1,g2⟩:=hq.out
       go_roundg (meas c o')
       case measure=>exact g2
       case rel=>exact Lib.hid ⟨O',o',g1,rfl⟩
end
theorem y4r {c:Cx} (HX:CxOk c):∀ k p,c.T.length≤p+k→NthC c p
 | 0,p,h=>fun w O i o n hi ho _=>by
   obtain⟨nd,hn⟩:=(hi.obj p i o ho (Nat.le_refl _)).nd;rw[(hi.at_ p i o ho).1] at hn;have:=(List.getElem?_eq_some_iff.mp hn).1;omega
 | k+1,p,h=>x01 HX (y8h HX fun q hq=>y4r HX k q (by omega))
theorem x35 {c:Cx} (HX:CxOk c) (p:Nat):NthC c p:=y4r HX c.T.length p (by omega)
section
set_option linter.unusedSimpArgs false
theorem y69 (R:Re):∀ {lv d g g':Nat},form R lv d g=some g'→∀ {T:List Nd} {n p nx c:Nat},Sub T n R p nx c→∀ m,n≤m→m<n+sizeE R→∃ r p' nx' c',Sub T m r p' nx' c'∧∃ lv d g g',form r lv d g=some g':=by
 induction R using Re.ind with
 | h k S ks lo hi n0 ih=>
   intro lv d g g' hf T n p nx c h m h1 h2;by_cases hm:m=n
   ·subst hm;exact⟨_,_,_,_,h,_,_,_,_,hf⟩
   ·have hk:=z52 h
    rw[sizeE] at h2
    have hkids:∃ lv d g g',formL ks lv d g=some g':=by
     rw[form] at hf
     split at hf
     ·split at hf
      ·split at hf
       ·exact⟨_,_,_,_,hf⟩
       ·cases hf
      ·exact⟨_,_,_,_,hf⟩
     ·cases hf
    obtain⟨lv',d',q0,q1,hkids⟩:=hkids;have hkid:=y0u hkids
    have hL:∀ (l:List Re),(∀ r∈l,r∈ks)→∀ a c q,SubL T a l q n c→a≤m→m<a+sizeL l→∃ r' p' nx' c',Sub T m r' p' nx' c'∧∃ lv d g g',form r' lv d g=some g':=by
     intro l
     induction l with
     | nil=>intro _ a c q _ h3 h4;rw[sizeL] at h4;omega
     | cons x l ihl=>
       intro hx a c q h3 h4 h5;obtain⟨s1,s2⟩:=z5c h3;rw[sizeL] at h5;by_cases hc:m<a+sizeE x
       ·obtain⟨z,z',hz⟩:=hkid x (hx x (List.mem_cons_self ..))
        exact ih x (hx x (List.mem_cons_self ..)) hz s1 m h4 hc
       ·exact ihl (fun y hy=>hx y (List.mem_cons_of_mem _ hy)) _ _ _ s2 (by omega) (by omega)
    exact hL ks (fun _ h=>h) _ _ _ hk (by omega) (by omega)
theorem y9c {r:Re} {lv d g g':Nat} (h:form r lv d g=some g') (hk:r.kind=7):0≤r.num∧r.num<10:=by
 cases r with
 | mk k S ks lo hi n=>
   have hk:k=7:=hk;subst hk;rw[form] at h
   split at h
   ·rw[if_pos rfl] at h
    split at h
    ·rename_i h1
     show 0≤n∧n<10;rw[h1.1];unfold num
     split <;> omega
    ·cases h
   ·cases h
theorem cx_ok {r:Re} (hr:RightP r) (hz:sizeE r≤60) {c:Cx} (hT:c.T=tabE r 0 0 0 0) (hl:c.lim≤c.s.size) (hs:c.s.size≤60):CxOk c:=by
 obtain⟨⟨g,hg⟩,_⟩:=hr;have hF:=z36 r (by decide) hg
 have part:∀ {p:Nat} {nd:Nd},c.T[p]?=some nd→∃ r' a b cc,Sub c.T p r' a b cc∧(∃ lv d g g',form r' lv d g=some g')∧nd=ndOf r' p a b cc:=fun {p nd} h=>by
  rw[hT] at h ⊢;have hp:=(List.getElem?_eq_some_iff.mp h).1;rw[z25] at hp;obtain⟨r',a,b,cc,h1,h2⟩:=y69 r hg (T:=tabE r 0 0 0 0) (n:=0) (p:=0) (nx:=0) (c:=0) ⟨[],by simp⟩ p (Nat.zero_le _) (by omega);have:=y2y h1;rw[h] at this;injection this with this
  exact⟨r',a,b,cc,h1,h2,this⟩
 refine⟨by rw[hT];exact tab_f r hF,hl,hs,by rw[hT,z25];omega,fun p nd h hk=>?_,fun p nd h=>?_⟩
 ·obtain⟨r',a,b,cc,_,⟨_,_,_,_,h2⟩,rfl⟩:=part h
  exact y9c h2 hk
 ·obtain⟨r',a,b,cc,⟨z,h1⟩,_,rfl⟩:=part h
  have e:=congrArg List.length h1;rw[List.length_drop,List.length_append,z25,hT,z25,z28 r'] at e;have:=z00 r'.kids;show (kidsAt (p+1) r'.kids).length≤64;rw[z2p];omega
def FinderOk (r:Re) (s:ByteArray) (lim:Nat) (w:World) (c:Cx) (w':World):Prop:=CxOk c∧c.T=tabE r 0 0 0 0∧c.s=s∧c.lim=lim∧FInv c (geS 0) w' (fun _ _=>none)∧Below w.heap.size w w'∧w.heap.size≤c.km
theorem y7l {B:Nat} {r:Re} {s:ByteArray} {lim:Nat} {w w1 w2:World} {g cap:Nat} {cs1:List Value} (hr:RightP r) (hz:sizeE r≤60) (hl:lim≤s.size) (hs:s.size≤60) (hb1:Below w.heap.size w w1)
  (hrow:w2.ownsRow B 103 14 (.slice (some ⟨g,0,none⟩) (sizeE r) cap) (sizeE r) cs1) (hT:PCs (fun b=>w1.heap.size≤b∧b<w2.heap.size∧(Value.slice (some ⟨g,0,none⟩) (sizeE r) cap).ownBlock≠some b) w2 0 cs1 (tabE r 0 0 0 0)) (hfr:Below w1.heap.size w1 w2):
  FinderOk r s lim w ⟨w2.heap.size+1,w2.heap.size,g,cap,tabE r 0 0 0 0,s,lim⟩ ((w2.alloc (.map #[] 0)).alloc (.cells #[.slice (some ⟨g,0,none⟩) (sizeE r) cap,.string s,.int .i64 (lim:Nat),.map (some w2.heap.size)] 78)):=by
 have e1:=heap_alloc_new w2 (.map #[] 0);have e2:=heap_alloc_new (w2.alloc (.map #[] 0)) (.cells #[.slice (some ⟨g,0,none⟩) (sizeE r) cap,.string s,.int .i64 (lim:Nat),.map (some w2.heap.size)] 78);simp only[World.size_alloc] at e2;have hgl:g<w2.heap.size:=(z8f hrow rfl).1;have hb2:Below w2.heap.size w2 ((w2.alloc (.map #[] 0)).alloc (.cells #[.slice (some ⟨g,0,none⟩) (sizeE r) cap,.string s,.int .i64 (lim:Nat),.map (some w2.heap.size)] 78)):=(z0b w2 _).alloc (by simp) _;have hz1:=hb1.size;have hz2:=hfr.size
 have hcell:∀ (j:Nat) (v:Value),cs1[j]?=some v→w2.cell? ⟨g,j,none⟩=some v:=fun j v hv=>by
  have:=hrow.cells (g:=g) rfl j v hv;rw[Addr.add_lit,Nat.zero_add] at this;exact this
 have hp2:PartsAt (fun b=>b<w2.heap.size) w2 g (tabE r 0 0 0 0):=hT.parts hcell (fun b hb=>hb.2.1) hgl;have hp3:PartsAt (fun b=>b<w2.heap.size) ((w2.alloc (.map #[] 0)).alloc (.cells #[.slice (some ⟨g,0,none⟩) (sizeE r) cap,.string s,.int .i64 (lim:Nat),.map (some w2.heap.size)] 78)) g (tabE r 0 0 0 0):=hp2.keep fun b hb=>hb2.block b hb
 refine⟨cx_ok hr hz rfl hl hs,rfl,rfl,rfl,⟨⟨?_,⟨?_,fun n x hx=>?_⟩,by show w2.heap.size<w2.heap.size+1;omega⟩,⟨fun _=>none,?_,fun p i=>rfl⟩,fun p i o ho=>(by cases ho),fun p i o ho=>(by cases ho),fun p i o p' i' o' ho=>(by cases ho)⟩,hb1.trans ((hfr.mono hz1).trans (hb2.mono (by omega))),by show w.heap.size≤w2.heap.size;omega⟩
 ·show _=some (Obj.cells #[.slice (some ⟨g,0,none⟩) (tabE r 0 0 0 0).length cap,.string s,.int .i64 (lim:Nat),.map (some w2.heap.size)] 78)
  rw[z25];exact e2
 ·exact⟨by show g≤w2.heap.size+1;omega,by show g≠w2.heap.size;omega⟩
 ·obtain⟨R,rc,K,c,h1,h2⟩:=hp3.2 n x hx
  refine⟨R,rc,K,c,h1,fun i m hi=>?_⟩;obtain⟨g',k1,k2,k3⟩:=h2 i m hi;exact⟨g',k1,⟨by show g'≤w2.heap.size+1;omega,by show g'≠w2.heap.size;omega⟩,k3⟩
 ·have:=MapIs.made 80 w2
  exact this.keep ((z0b (w2.alloc (.map #[] 0)) _).block w2.heap.size (by simp))
theorem y32 (r:Re) (A:Option Addr) (c0:Nat) (s:ByteArray) (lim B:Nat) (w:World) (hk:Kids (Lt B) w A r) (hB:B≤w.heap.size) (hr:RightP r) (hz:sizeE r≤60) (hl:lim≤s.size) (hs:s.size≤60):
  Calls Tryd.prog 15 #[valR r A c0,.string s,.int .i64 (lim:Nat)] w fun e w'=>∃ c:Cx,e= .returned (.pointer (some ⟨c.fb,0,none⟩))∧Hid (FinderOk r s lim w c w'):=by
 obtain⟨k,S,ks,lo,hi,n⟩:=r;obtain⟨r,hrr⟩:∃ r,r=Re.mk k S ks lo hi n:=⟨_,rfl⟩;obtain⟨N,hN⟩:∃ N,N=sizeE r:=⟨_,rfl⟩
 have K28:Hid (∀ W,Below w.heap.size w W→Calls Tryd.prog 28 #[.slice none 0 0,valR (Re.mk k S ks lo hi n) A c0,.int .i64 (-1)] W fun e w2=>∃ g cap,e= .returned (.slice (some ⟨g,0,none⟩) N cap)∧Hid (FinderOk r s lim w ⟨w2.heap.size+1,w2.heap.size,g,cap,tabE r 0 0 0 0,s,lim⟩ ((w2.alloc (.map #[] 0)).alloc (.cells #[.slice (some ⟨g,0,none⟩) N cap,.string s,.int .i64 (lim:Nat),.map (some w2.heap.size)] 78)))):=Lib.hid fun W hW=>by
  have hzW:=hW.size;have h:=y6c (B:=W.heap.size) (Re.mk k S ks lo hi n) A c0 0 (-1) W (.slice none 0 0) 0 0 [] ((hk.keep (hW.mono hB)).up (by omega)) (World.ownsRow_nil _ _ _ _) (Nat.le_refl _) (by omega) rfl;refine h.mono fun e w2 hp=>?_
  rw[←hrr] at hp hr hz;obtain⟨v',cs1,rfl,h1,h2,h3⟩:=hp;rw[Nat.zero_add] at h1;obtain⟨g,cap,rfl,_⟩:=h1.form (z6v r);rw[hN];exact⟨g,cap,rfl,Lib.hid (y7l hr hz hl hs hW h1 h2 h3.below)⟩
 simp only[valR] at K28 ⊢;rw[←hrr];obtain⟨s0,hs0⟩:∃ s0:Int,s0=S.1.toNat:=⟨_,rfl⟩;obtain⟨s1,hs1⟩:∃ s1:Int,s1=S.2.1.toNat:=⟨_,rfl⟩;obtain⟨s2,hs2⟩:∃ s2:Int,s2=S.2.2.1.toNat:=⟨_,rfl⟩;obtain⟨s3,hs3⟩:∃ s3:Int,s3=S.2.2.2.toNat:=⟨_,rfl⟩;obtain⟨m,hm⟩:∃ m,m=ks.length:=⟨_,rfl⟩;rw[←hs0,←hs1,←hs2,←hs3,←hm] at K28 ⊢;have hmm:=@run_makeMap Tryd.prog;have HB:=Lib.hid (z0b w);clear hk hB hr hz hl hs hs0 hs1 hs2 hs3 hm hrr hN;go_enter Tryd.func15,Tryd.ntmps15;go_wp2_with (first | (go_at_call 28;((with_reducible refine(K28.out _ (HB.out _)).mono ?_));rintro _ w2 ⟨g,cap,rfl,HQ⟩) | fail);go_ret;exact⟨_,rfl,HQ⟩
end
section
set_option linter.unusedSimpArgs false
structure FindFull (s:Bs) (r:Re) (i k:Nat) (M:Nat→Int × Int) (ok:Bool):Prop where
 no:ok=false→¬ (RightP r∧i≤k∧Way s true true r i k)∧∀ n,M n=(0,0)
 yes:ok=true→RightP r∧i≤k∧∃ l l',Der s r i k l∧SameE l' l∧M=matM i k l'
theorem FindFull.ok {s:Bs} {r:Re} {i k:Nat} {M:Nat→Int × Int} {ok:Bool} (h:FindFull s r i k M ok):FindOk s r i k M ok:=by
 refine⟨⟨fun e=>?_,fun e=>?_⟩,fun e=>(h.no e).2,fun e=>?_,fun e n h0 h9=>?_⟩
 ·obtain⟨h1,h2,l,l',h3,_⟩:=h.yes e
  exact⟨h1,h2,z6w s r i k l h3⟩
 ·cases ok with
  | true=>rfl
  | false=>exact absurd e (h.no rfl).1
 ·obtain⟨_,_,l,l',_,_,rfl⟩:=h.yes e
  unfold matM;rw[if_pos rfl]
 ·obtain⟨h1,_,l,l',h3,h4,rfl⟩:=h.yes e
  have hm:matM i k l' n=(lastOf true n l',lastOf false n l'):=by unfold matM;rw[if_neg (by omega)]
  rw[hm]
  rcases y6f h1.1 h3 h4 n h0 h9 with ⟨q1,q2⟩ | ⟨a,b,q1,q2,q3,q4,q5,q6⟩
  ·exact .inl (by rw[q1,q2])
  ·exact .inr ⟨a,b,by rw[q1,q2],q3,q4,q5,q6⟩
structure FindI (c:Cx) (i k n:Nat) (w:World) (RB a:Nat) (wr:World) (O:Tab) (o:WO):Prop where
 ho:O 0 i=some o
 inv:FInv c (geS 0) wr O
 le:n≤o.found.length
 no:∀ m f,m<n→o.found[m]?=some f→f.stop≠k
 a:o.a=a
 res:∃ cs,wr.heap[RB]?=some (.cells cs 35)∧cs.size=20
 low:Below w.heap.size w wr
 rb:RB<c.km∧w.heap.size≤c.km
section
variable {c:Cx} {i k n:Nat} {w:World} {RB a:Nat} {wr w':World} {O O':Tab} {o o':WO}
theorem Post.below {c:Cx} {w wr w':World} {O O':Tab} {S:Nat→Nat→Prop} (hl:Below w.heap.size w wr) (hi:FInv c S wr O) (hkm:w.heap.size≤c.km) (h:Post c 0 wr O w' O'):Below w.heap.size w w':=by
 refine hl.trans (h.fr.below hl.size fun b hb q=>?_)
 rcases q with q | ⟨q,j,o,_,h1,h2⟩
 ·omega
 ·have:=((hi.at_ q j o h1).2.kind h2).1;have:=hi.fin.km;omega
theorem FindI.post (h:FindI c i k n w RB a wr O o) (hp:Post c 0 wr O w' O') (hi:FInv c (geS 0) w' O') (ho:O' 0 i=some o'):FindI c i k n w RB a w' O' o':=by
 obtain⟨o2,h1,h2,more,h3⟩:=hp.mono 0 i o h.ho;rw[ho] at h1;injection h1 with h1;subst h1
 obtain⟨cs,h4,h5⟩:=h.res;refine⟨ho,hi,by rw[h3,List.length_append];have:=h.le;omega,fun m f hm hf=>?_,h2.trans h.a,⟨cs,?_,h5⟩,Post.below h.low h.inv h.rb.2 hp,h.rb⟩
 ·rw[h3,List.getElem?_append_left (by have:=h.le;omega)] at hf
  exact h.no m f hm hf
 ·rw[hp.fr.block RB (Array.getElem?_eq_some_iff.1 h4).1]
  ·exact h4
  ·rintro(q | ⟨q,j,o1,_,q1,q2⟩)
   ·have:=h.rb;omega
   ·have:=((h.inv.at_ q j o1 q1).2.kind q2).1;have:=h.inv.fin.km;have:=h.rb;omega
theorem FindI.next (h:FindI c i k n w RB a wr O o) (hb:Below wr.heap.size wr w'):FindI c i k n w RB a w' O o:=
 h.post (.of_below hb) (h.inv.next hb) h.ho
theorem FindI.more {f:Way1} (h:FindI c i k n w RB a wr O o) (hf:o.found[n]?=some f) (hs:f.stop≠k):FindI c i k (n+1) w RB a wr O o:=
 ⟨h.ho,h.inv,by have:=(List.getElem?_eq_some_iff.1 hf).1;omega,fun m g hm hg=>by
  by_cases e:m=n
  ·subst e;rw[hf] at hg;injection hg with hg;subst hg;exact hs
  ·exact h.no m g (by omega) hg,h.a,h.res,h.low,h.rb⟩
theorem FindI.few (h:FindI c i k n w RB a wr O o):o.found.length≤c.lim+1:=by
 have:=(h.inv.obj 0 i o h.ho (Nat.zero_le _)).few;simpa using this
theorem z86 (r:Re):(tabE r 0 0 0 0)[0]?=some (ndOf r 0 0 0 0):=y2y ⟨[],by simp⟩
theorem FindI.none {r:Re} (h:FindI c i k n w RB a wr O o) (HX:CxOk c) (hT:c.T=tabE r 0 0 0 0) (hk:k≤c.lim) (htr:o.tr=[]) (hl:o.found.length≤n):¬ Way c.bs true true r i k:=fun hw=>by
 have hobj:=h.inv.obj 0 i o h.ho (Nat.zero_le _);have hp:=(h.inv.at_ 0 i o h.ho).1;obtain⟨f,h1,h2⟩:=hobj.all HX.T htr (nd:=ndOf r 0 0 0 0) (by rw[hp,hT];exact z86 r) hw hk;obtain⟨m,hm⟩:=List.getElem?_of_mem h1;exact h.no m f (by have:=(List.getElem?_eq_some_iff.1 hm).1;omega) hm h2
theorem FindI.hit {r:Re} {f:Way1} (h:FindI c i k n w RB a wr O o) (hT:c.T=tabE r 0 0 0 0) (hf:o.found[n]?=some f):∃ l e,TrailP wr f.tl l∧Der c.bs r i f.stop e∧SameE l e:=by
 have hobj:=h.inv.obj 0 i o h.ho (Nat.zero_le _);have hp:=(h.inv.at_ 0 i o h.ho).1;obtain⟨⟨_,l,e,nd,h1,h2,h3,h4⟩,_⟩:=hobj.fd f (by simpa using List.mem_of_getElem? hf);rw[hp,hT,z86] at h2;injection h2 with h2;subst h2
 exact⟨l,e,h1,h3,h4⟩
end
end
end Go.Proofs.YtejgbpbljdhndaaDoor
