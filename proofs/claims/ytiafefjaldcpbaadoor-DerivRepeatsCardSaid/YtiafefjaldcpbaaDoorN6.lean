import Derived.Test.YtiafefjaldcpbaaDoorA6
import Derived.Test.YtiafefjaldcpbaaDoorK19
import Derived.Test.YtiafefjaldcpbaaDoorA5
import Derived.Test.YtiafefjaldcpbaaDoorGoes
namespace Go.Proofs.YtiafefjaldcpbaaDoor
open Go Go.RowKit
set_option maxRecDepth 100000
set_option maxHeartbeats 8000000
section
theorem cntE_le (r:Re):cntE r≤sizeE r:=by
 induction r using Re.ind with
 | h k S ks lo hi n ih=>
   rw[cntE,sizeE]
   have:cntL ks≤sizeL ks:=by
    induction ks with
    | nil=>simp[cntL,sizeL]
    | cons x l ih2=>
      rw[cntL,sizeL];have:=ih x (by simp);have:=ih2 (fun r hr=>ih r (by simp[hr]));omega
   split <;> omega
structure MacAt (R:Re) (B b:Nat) (M:MS) (md n:Nat) (PA:Addr) (pc:Nat) (TA:Addr) (tp:Nat) (vw:Value) (X:Nat→Prop) (w:World):Prop where
 mac:MacC w b PA (sizeE R) pc (cntE R) vw TA M.turns.length tp md M.over
 parts:PartsAt (fun k=>(k<w.heap.size∧k≠b)∧¬ X k) w PA (tabE R 0 0 0 0)
 turns:TurnsAt (fun k=>(k<w.heap.size∧k≠b)∧¬ X k) w TA M.turns
 row:w.ownsRow B 65 2 vw M.waits.length (cellsW M.waits)
 vb:vw.ownBlock≠some b
 vx:¬ X b∧(∀ g,vw.ownBlock=some g→¬ X g)∧∀ k,X k→k<w.heap.size
 bB:B≤b∧b<w.heap.size
 len:M.turns.length≤n
 ws:∀ (t:Nat) (ws:List (Nat × Nat)),M.turns[t]?=some ws→ws.length≤1000000
 wl:M.waits.length≤1000000000
def Mac (R:Re) (B b:Nat) (M:MS) (md n:Nat) (X:Nat→Prop) (w:World):Prop:=∃ PA pc TA tp vw,MacAt R B b M md n PA pc TA tp vw X w
section
variable {R:Re} {B b md n pc tp:Nat} {M:MS} {PA TA:Addr} {vw:Value} {X:Nat→Prop} {w W:World}
theorem MacAt.below (h:MacAt R B b M md n PA pc TA tp vw X w) (hb:Below w.heap.size w W):MacAt R B b M md n PA pc TA tp vw X W:=by
 obtain⟨b1,b2⟩:=h.bB;have hz:=hb.size;have c:∀ j,W.cell? ⟨b,j,none⟩=w.cell? ⟨b,j,none⟩:=fun j=>hb.cell (p:=⟨b,j,none⟩) b2
 have hs:SameOn (fun k=>(k<w.heap.size∧k≠b)∧¬ X k) w W:=fun a ha=>hb.cell ha.1.1
 refine⟨⟨(c 0).trans h.mac.c0,(c 1).trans h.mac.c1,(c 2).trans h.mac.c2,(c 3).trans h.mac.c3,(c 4).trans h.mac.c4,(c 5).trans h.mac.c5,fun j=>(hb.frozen (p:=⟨b,j,none⟩) b2).trans (h.mac.f j)⟩,?_,?_,below_kept h.row hb,h.vb,⟨h.vx.1,h.vx.2.1,fun k hk=>by have:=h.vx.2.2 k hk;omega⟩,⟨b1,by omega⟩,h.len,h.ws,h.wl⟩
 ·have hp:=h.parts.keep hs
  exact⟨⟨⟨by have:=hp.1.1.1;omega,hp.1.1.2⟩,hp.1.2⟩,fun n x hx=>by
   obtain⟨K,c,h1,h2⟩:=hp.2 n x hx;exact⟨K,c,h1,fun i m hi=>by obtain⟨ad,k1,⟨⟨k2,k3⟩,k5⟩,k4⟩:=h2 i m hi;exact⟨ad,k1,⟨⟨by omega,k3⟩,k5⟩,k4⟩⟩⟩
 ·have hp:=h.turns.keep hs
  exact⟨⟨⟨by have:=hp.1.1.1;omega,hp.1.1.2⟩,hp.1.2⟩,fun n x hx=>by
   obtain⟨K,c,h1,h2⟩:=hp.2 n x hx;exact⟨K,c,h1,fun i m hi=>by obtain⟨ad,k1,⟨⟨k2,k3⟩,k5⟩,k4⟩:=h2 i m hi;exact⟨ad,k1,⟨⟨by omega,k3⟩,k5⟩,k4⟩⟩⟩
theorem MacAt.same {X':Nat→Prop} (h:MacAt R B b M md n PA pc TA tp vw X w) (hs:∀ k,k<w.heap.size→¬ X k→W.heap[k]?=w.heap[k]?) (hz:w.heap.size≤W.heap.size) (hX:∀ k,X' k→X k∨(w.heap.size≤k∧k<W.heap.size)):MacAt R B b M md n PA pc TA tp vw X' W:=by
 obtain⟨b1,b2⟩:=h.bB;obtain⟨v1,v2,v3⟩:=h.vx;have eb:=hs b b2 v1;have c:∀ j,W.cell? ⟨b,j,none⟩=w.cell? ⟨b,j,none⟩:=fun j=>cell_same (p:=⟨b,j,none⟩) eb
 have hso:SameOn (fun k=>(k<w.heap.size∧k≠b)∧¬ X k) w W:=fun a ha=>cell_same (hs _ ha.1.1 ha.2)
 have up:∀ k,(k<w.heap.size∧k≠b)∧¬ X k→(k<W.heap.size∧k≠b)∧¬ X' k:=fun k ⟨⟨k1,k2⟩,k3⟩=>⟨⟨by omega,k2⟩,fun hx=>(hX k hx).elim k3 (by omega)⟩
 have nx:∀ k,k<w.heap.size→¬ X k→¬ X' k:=fun k hk hk2 hx=>(hX k hx).elim hk2 (by omega)
 have hvl:∀ g,vw.ownBlock=some g→g<w.heap.size:=fun g hg=>(row_lt h.row hg).1
 refine⟨⟨(c 0).trans h.mac.c0,(c 1).trans h.mac.c1,(c 2).trans h.mac.c2,(c 3).trans h.mac.c3,(c 4).trans h.mac.c4,(c 5).trans h.mac.c5,fun j=>(frozen_same eb j).trans (h.mac.f j)⟩,?_,?_,ownsRow_same h.row (fun g hg=>hs g (hvl g hg) (v2 g hg)),h.vb,⟨nx b b2 v1,fun g hg=>nx g (hvl g hg) (v2 g hg),fun k hk=>(hX k hk).elim (fun h=>by have:=v3 k h;omega) (fun h=>h.2)⟩,⟨b1,by omega⟩,h.len,h.ws,h.wl⟩
 ·have hp:=h.parts.keep hso
  exact⟨up _ hp.1,fun n x hx=>by
   obtain⟨K,c,h1,h2⟩:=hp.2 n x hx;exact⟨K,c,h1,fun i m hi=>by obtain⟨ad,k1,k2,k4⟩:=h2 i m hi;exact⟨ad,k1,up _ k2,k4⟩⟩⟩
 ·have hp:=h.turns.keep hso
  exact⟨up _ hp.1,fun n x hx=>by
   obtain⟨K,c,h1,h2⟩:=hp.2 n x hx;exact⟨K,c,h1,fun i m hi=>by obtain⟨ad,k1,k2,k4⟩:=h2 i m hi;exact⟨ad,k1,up _ k2,k4⟩⟩⟩
theorem MacAt.mode (h:MacAt R B b M md n PA pc TA tp vw X w) (md':Nat):MacAt R B b M md' n PA pc TA tp vw X (w.setCell ⟨b,4,none⟩ (.int .i64 (md':Nat))):=by
 obtain⟨b1,b2⟩:=h.bB;have hz:(w.setCell ⟨b,4,none⟩ (.int .i64 (md':Nat))).heap.size=w.heap.size:=by simp
 have hs:∀ k,k≠b→(w.setCell ⟨b,4,none⟩ (.int .i64 (md':Nat))).heap[k]?=w.heap[k]?:=fun k hk=>Below.heap_setCell _ _ _ _ hk
 have c:∀ j,j≠4→(w.setCell ⟨b,4,none⟩ (.int .i64 (md':Nat))).cell? ⟨b,j,none⟩=w.cell? ⟨b,j,none⟩:=fun j hj=>World.cell?_setCell_other _ _ _ _ (by intro e;injection e with _ e;exact hj e.symm)
 have hso:SameOn (fun k=>(k<w.heap.size∧k≠b)∧¬ X k) w (w.setCell ⟨b,4,none⟩ (.int .i64 (md':Nat))):=fun a ha=>cell_same (hs _ ha.1.2)
 refine⟨⟨(c 0 (by decide)).trans h.mac.c0,(c 1 (by decide)).trans h.mac.c1,(c 2 (by decide)).trans h.mac.c2,(c 3 (by decide)).trans h.mac.c3,World.cell?_setCell_same _ _ _ h.mac.c4,(c 5 (by decide)).trans h.mac.c5,fun j=>by rw[World.frozen?_setCell];exact h.mac.f j⟩,by rw[hz];exact h.parts.keep hso,by rw[hz];exact h.turns.keep hso,ownsRow_same h.row (fun g hg=>hs g (fun e=>h.vb (by rw[←e];exact hg))),h.vb,⟨h.vx.1,h.vx.2.1,fun k hk=>by rw[hz];exact h.vx.2.2 k hk⟩,⟨b1,by rw[hz];exact b2⟩,h.len,h.ws,h.wl⟩
theorem MacAt.ctx (h:MacAt R B b M md n PA pc TA tp vw X w) (hR:Fine R) (ht:TurnsOk M.turns) (hn:n≤100000) (hz:sizeE R≤1000) {bg en:Bool} (L:Nat):Ctx (pmOf R bg en M.turns) ⟨w.heap.size,L,PA,pc,TA,tp⟩ w∧(pmOf R bg en M.turns).all * (pmOf R bg en M.turns).T.length≤200000000:=by
 have hl:(pmOf R bg en M.turns).T.length=sizeE R:=tab_len _ _ _ _ _;have hc:=cntE_le R
 have hall:(pmOf R bg en M.turns).all≤101000:=by
  show M.turns.length+cntE R≤101000;have:=h.len;omega
 refine⟨⟨?_,?_,tabC_of hR ht,⟨by omega,by omega,by rw[hl];exact sizeE_pos R,h.ws⟩⟩,?_⟩
 ·exact⟨h.parts.1.1.1,fun n x hx=>by
   obtain⟨K,c,h1,h2⟩:=h.parts.2 n x hx;exact⟨K,c,h1,fun i m hi=>by obtain⟨ad,k1,⟨⟨k2,k3⟩,_⟩,k4⟩:=h2 i m hi;exact⟨ad,k1,k2,k4⟩⟩⟩
 ·exact⟨h.turns.1.1.1,fun n x hx=>by
   obtain⟨K,c,h1,h2⟩:=h.turns.2 n x hx;exact⟨K,c,h1,fun i m hi=>by obtain⟨ad,k1,⟨⟨k2,k3⟩,_⟩,k4⟩:=h2 i m hi;exact⟨ad,k1,k2,k4⟩⟩⟩
 ·have:=Nat.mul_le_mul hall (show (pmOf R bg en M.turns).T.length≤1000 by omega)
  omega
theorem mac_gone {w1:World} {Tt:Turns} {S:LS} {cB all n':Nat} {vw':Value} {md':Nat} (h:MacAt R B b M md n PA pc TA tp vw X w) (hcB:w.heap.size≤cB) (hb:Below w.heap.size w w1) (hg:GonePost b cB PA (sizeE R) pc (cntE R) vw' md' all Tt S.waits S.over X w1 W) (hn:1+all≤n') (hwl:S.waits.length≤1000000000) (hvw:∀ g,vw'.ownBlock=some g→cB≤g):
  ∃ ws' K,Kept Tt S.waits ws' K∧Mac R B b ⟨ws',K,S.over⟩ md' n' X W∧Below B w W∧∀ k,k<w.heap.size→k≠b→W.heap[k]?=w.heap[k]?:=by
 obtain⟨ws',K,g,cap,k1,k2,k3,k4,k5,k6,k7,k8,k9⟩:=hg;obtain⟨b1,b2⟩:=h.bB;have hz:=hb.size;have hsm:∀ k,k<w.heap.size→k≠b→W.heap[k]?=w.heap[k]?:=fun k hk hkb=>(k8 k (by omega) hkb).trans (hb.block k hk)
 have hso:SameOn (fun k=>(k<w.heap.size∧k≠b)∧¬ X k) w W:=fun a ha=>cell_same (hsm _ ha.1.1 ha.1.2)
 refine⟨ws',K,k4,⟨PA,pc,⟨g,0,none⟩,cap,vw',⟨k1,?_,k5,⟨k2.1,?_⟩,fun e=>by have:=hvw b e;omega,⟨h.vx.1,fun g hg hx=>by have:=h.vx.2.2 g hx;have:=hvw g hg;omega,fun k hk=>by have:=h.vx.2.2 k hk;have:=k9.1;omega⟩,⟨b1,by have:=k9.1;omega⟩,by show K.length≤n';omega,k7,by show ws'.length≤_;omega⟩⟩,⟨k9.2.1.trans hb.os,k9.2.2.1.trans hb.tape,k9.2.2.2.trans hb.output,by have:=k9.1;omega,fun k hk=>hsm k (by omega) (by omega)⟩,hsm⟩
 ·have hp:=h.parts.keep hso
  have hz9:=k9.1
  exact⟨⟨⟨by have:=hp.1.1.1;omega,hp.1.1.2⟩,hp.1.2⟩,fun n x hx=>by
   obtain⟨K,c,h1,h2⟩:=hp.2 n x hx;exact⟨K,c,h1,fun i m hi=>by obtain⟨ad,k1,⟨⟨k2,k3⟩,k5⟩,k4⟩:=h2 i m hi;exact⟨ad,k1,⟨⟨by omega,k3⟩,k5⟩,k4⟩⟩⟩
 ·exact k2.2.imp id (fun ⟨gg,cc,cur,a,b,r⟩=>⟨gg,cc,cur,a,by omega,r⟩)
theorem runW_skip {Q:Pm} {P:Nd→Bool} {l:List (Nat × Nat)} {S S':LS} {w:Nat × Nat} {x:Nd} (h:RunW Q P l S S') (hx:Q.T[w.1]?=some x) (hp:P x=false):RunW Q P (l++[w]) S S':=by
 induction h with
 | nil=>exact .skip hx hp .nil
 | skip a1 a2 _ ih=>exact .skip a1 a2 ih
 | take a1 a2 a3 _ ih=>exact .take a1 a2 a3 ih
theorem runW_take {Q:Pm} {P:Nd→Bool} {l:List (Nat × Nat)} {S S' S'':LS} {w:Nat × Nat} {x:Nd} (h:RunW Q P l S S') (hx:Q.T[w.1]?=some x) (hp:P x=true) (hr:Run Q (.fin w.1 w.2) S' S''):RunW Q P (l++[w]) S S'':=by
 induction h with
 | nil=>exact .take hx hp hr .nil
 | skip a1 a2 _ ih=>exact .skip a1 a2 (ih hr)
 | take a1 a2 a3 _ ih=>exact .take a1 a2 a3 (ih hr)
theorem sum_le3:∀ (l:List Nat),(∀ (i x:Nat),l[i]?=some x→x<4)→l.sum≤3 * l.length
 | [],_=>by simp
 | a::l,h=>by
   have h0:=h 0 a rfl;have:=sum_le3 l (fun i x hx=>h (i+1) x (by simpa using hx));rw[List.sum_cons,List.length_cons];omega
theorem waits_le {Q:Pm} {S:LS} (ho:OkS Q S) (hs:Sml S) (hq:Q.all * Q.T.length≤200000000):S.waits.length≤1000000000:=by
 have h1:=sum_le3 S.did hs.1;have h2:=hs.2;rw[ho.dlen] at h1;omega
theorem s0_sml (Q:Pm):Sml (S0 Q):=by
 refine⟨fun i x h=>?_,by simp[S0]⟩;unfold S0 at h;simp only[List.getElem?_replicate] at h
 split at h
 ·injection h with h;omega
 ·cases h
end
end
section
section
variable {R:Re} {B b md n pc tp:Nat} {M:MS} {PA TA:Addr} {vw:Value} {X:Nat→Prop} {w:World}
structure Way1 (Q:Pm) (c:LkP) (P:Nd→Bool) (l:List (Nat × Nat)) (w0 wr:World) (S:LS):Prop where
 run:RunW Q P l (S0 Q) S
 st:LSt Q c w0 wr S
 kid:KidI Q S
theorem Way1.skip {Q:Pm} {c:LkP} {P:Nd→Bool} {l:List (Nat × Nat)} {w0 wr W:World} {S:LS} {y:Nat × Nat} {x:Nd} (h:Way1 Q c P l w0 wr S) (hx:Q.T[y.1]?=some x) (hp:P x=false) (hb:Below wr.heap.size wr W) (hcb:c.B≤wr.heap.size):Way1 Q c P (l++[y]) w0 W S:=by
 obtain⟨DB,BB,ab,vw,hl⟩:=h.st.lk;exact⟨runW_skip h.run hx hp,⟨h.st.below.trans (hb.mono hcb),⟨DB,BB,ab,vw,hl.below hb⟩,h.st.ok,h.st.sml⟩,h.kid⟩
theorem Way1.next {Q:Pm} {c:LkP} {P:Nd→Bool} {l:List (Nat × Nat)} {w0 wr W:World} {S:LS} {y:Nat × Nat} {x:Nd} (h:Way1 Q c P l w0 wr S) (hc:Ctx Q c w0) (hx:Q.T[y.1]?=some x) (hp:P x=true) (hv:VN Q y.1 y.2) (hb:Below wr.heap.size wr W) (hcb:c.B≤wr.heap.size):
  Calls Tryd.prog 31 #[.pointer (some ⟨c.L,0,none⟩),.int .i64 (y.1:Nat),.int .i64 (y.2:Nat)] W fun e w'=>e= .returned (.tuple #[])∧∃ S',Way1 Q c P (l++[y]) w0 w' S':=by
 obtain⟨DB,BB,ab,vw,hl⟩:=h.st.lk;have hs:LSt Q c w0 W S:=⟨h.st.below.trans (hb.mono hcb),⟨DB,BB,ab,vw,hl.below hb⟩,h.st.ok,h.st.sml⟩;refine(finish_any hc hs hv h.kid).mono ?_;rintro e w' ⟨rfl,S',hr,hl',hb'⟩;obtain⟨o1,o2,o3,_⟩:=run_after hc.tab hr hv h.st.ok h.kid h.st.sml;exact⟨rfl,S',runW_take h.run hx hp hr,⟨hb',hl',o1,o3⟩,o2⟩
theorem MacAt.look (h:MacAt R B b M md n PA pc TA tp vw X w) (hR:Fine R) (ht:TurnsOk M.turns) (hn:n≤100000) (hz:sizeE R≤1000) (bg en:Bool) (P:Nd→Bool):
  Calls Tryd.prog 23 #[.pointer (some ⟨b,0,none⟩),.int .i64 (modeN bg en:Nat)] w fun e w'=>∃ L,e= .returned (.pointer (some ⟨L,0,none⟩))∧Way1 (pmOf R bg en M.turns) ⟨w.heap.size,L,PA,pc,TA,tp⟩ P [] w w' (S0 (pmOf R bg en M.turns))∧Below w.heap.size w w':=by
 obtain⟨hctx,_⟩:=h.ctx hR ht hn hz (bg:=bg) (en:=en) 0;have hl:(pmOf R bg en M.turns).T.length=sizeE R:=tab_len _ _ _ _ _;have hm:=h.mac;rw[←hl] at hm;have hall:(pmOf R bg en M.turns).C≤(pmOf R bg en M.turns).all:=by show cntE R≤M.turns.length+cntE R;omega
 refine(look_any (Q:=pmOf R bg en M.turns) hm hctx.szs hall).mono ?_;rintro e w' ⟨L,rfl,h1,h2⟩;exact⟨L,rfl,⟨.nil,⟨h2,h1,s0_ok _,s0_sml _⟩,s0_kid _⟩,h2⟩
theorem MacAt.goon {L:Nat} {Q:Pm} {w0 wr:World} {S:LS} {bg en:Bool} (hQ:Q=pmOf R bg en M.turns) (h:MacAt R B b M md n PA pc TA tp vw X w0) (hR:Fine R) (ht:TurnsOk M.turns) (hn:n≤100000) (hz:sizeE R≤1000) (hok:OkS Q S) (hnz:Nz Q S) (hs:LSt Q ⟨w0.heap.size,L,PA,pc,TA,tp⟩ w0 wr S):
  Calls Tryd.prog 25 #[.pointer (some ⟨b,0,none⟩),.pointer (some ⟨L,0,none⟩)] wr fun e w'=>e= .returned (.tuple #[])∧∃ ws' K,Kept (allT M.turns S) S.waits ws' K∧Mac R B b ⟨ws',K,S.over⟩ md (n+cntE R+1) X w'∧Below B w0 w'∧∀ k,k<w0.heap.size→k≠b→w'.heap[k]?=w0.heap[k]?:=by
 subst hQ;obtain⟨hctx,hq⟩:=h.ctx hR ht hn hz (bg:=bg) (en:=en) L;obtain⟨DB,BB,ab,vw',hl⟩:=hs.lk;have hwl:=waits_le hok hs.sml hq;have hpos:0<M.turns.length:=(List.getElem?_eq_some_iff.1 ht.zero).1;have hb:=hs.below;have hbz:=hb.size;have hb9:=h.below hb;refine(gone_any (tc:=M.turns) (md:=md) hl hok hnz hctx.szs rfl ht rfl (hctx.turns.keep (same_below hb)) hbz hb9.mac h.bB.2 hwl (by show 0<M.turns.length+cntE R;omega) X (fun k hk=>by have:=h.vx.2.2 k hk;have:k<w0.heap.size:=this;omega)).mono ?_;rintro e w' ⟨rfl,hg⟩;exact⟨rfl,mac_gone h (Nat.le_refl _) hb hg (by show 1+(M.turns.length+cntE R)≤_;have:=h.len;omega) hwl (fun g hg'=>(row_lt hl.waits hg').2)⟩
theorem next_any (h:MacAt R B b M md n PA pc TA tp vw X w) (hR:Fine R) (ht:TurnsOk M.turns) (hw:∀ n t,(n,t)∈M.waits→t<M.turns.length∧∃ x,(tabE R 0 0 0 0)[n]?=some x) (hn:n≤100000) (hz:sizeE R≤1000) (c:Nat) (hc:c<256):
  Calls Tryd.prog 19 #[.pointer (some ⟨b,0,none⟩),.int .u8 (c:Nat)] w fun e w'=>e= .returned (.tuple #[])∧∃ S ws' K,RunW (pmOf R false false M.turns) (fun x=>mem x.r.set c) M.waits (S0 (pmOf R false false M.turns)) S∧Kept (allT M.turns S) S.waits ws' K∧Mac R B b ⟨ws',K,S.over⟩ 0 (n+cntE R+1) X w'∧Below B w w'∧∀ k,k<w.heap.size→k≠b→w'.heap[k]?=w.heap[k]?:=by
 obtain⟨Q,hQ⟩:∃ Q,Q=pmOf R false false M.turns:=⟨_,rfl⟩;obtain⟨P,hP⟩:∃ P:Nd→Bool,P=fun x=>mem x.r.set c:=⟨_,rfl⟩
 have hm4:=h.mac.c4;have f4:=h.mac.f 4;obtain⟨W1,hW1⟩:∃ W1,W1=w.setCell ⟨b,4,none⟩ (.int .i64 0):=⟨_,rfl⟩;have h1:MacAt R B b M 0 n PA pc TA tp vw X W1:=by rw[hW1];exact h.mode 0
 have hW1z:W1.heap.size=w.heap.size:=by rw[hW1];simp
 have hW1s:∀ k,k≠b→W1.heap[k]?=w.heap[k]?:=fun k hk=>by rw[hW1];exact Below.heap_setCell _ _ _ _ hk
 have hBW:Below B w W1:=by rw[hW1];exact(Below.refl _ _).setCell h.bB.1 _
 obtain⟨N,hN⟩:∃ N,N=M.waits.length:=⟨_,rfl⟩;obtain⟨A,cap,hvw⟩:∃ A cap,vw= .slice A N cap:=by rw[hN];exact row_slice h1.row
 have HLK:Hid (Calls Tryd.prog 23 #[.pointer (some ⟨b,0,none⟩),.int .i64 0] W1 fun e w'=>∃ L,e= .returned (.pointer (some ⟨L,0,none⟩))∧Hid (Way1 Q ⟨W1.heap.size,L,PA,pc,TA,tp⟩ P [] W1 w' (S0 Q))∧w'.cell? ⟨b,2,none⟩=some (.slice A N cap)):=Lib.hid (by
  rw[hQ];refine(h1.look hR ht hn hz false false P).mono ?_;rintro e w' ⟨L,rfl,k1,k2⟩;exact⟨L,rfl,Lib.hid k1,by rw[←hvw];exact(h1.below k2).mac.c2⟩)
 have HRD:Hid (∀ (L j:Nat) (wr:World) (S:LS),Way1 Q ⟨W1.heap.size,L,PA,pc,TA,tp⟩ P (M.waits.take j) W1 wr S→j<N→∃ (p y1 y2:Nat) (q:Bool),A=some ⟨p,0,none⟩∧wr.cell? ⟨p,j * 2,none⟩=some (.int .i64 (y1:Nat))∧wr.cell? ⟨p,j * 2+1,none⟩=some (.int .i64 (y2:Nat))∧(∀ o,(wr.alloc o).cell? ⟨b,0,none⟩=some (.slice (some PA) (sizeE R) pc))∧y1<sizeE R∧
   (∀ (o:Obj) (m:Nat),Calls Tryd.prog 30 #[.pointer (some (PA.add (y1 * 15))),.int .u8 (c:Nat)] ((wr.alloc o).drewN m) fun e w'=>e= .returned (.bool q)∧∃ k,w'=((wr.alloc o).drewN m).drewN k)∧
   (q=false→∀ W,Below wr.heap.size wr W→Way1 Q ⟨W1.heap.size,L,PA,pc,TA,tp⟩ P (M.waits.take (j+1)) W1 W S)∧
   (q=true→∀ W,Below wr.heap.size wr W→Calls Tryd.prog 31 #[.pointer (some ⟨L,0,none⟩),.int .i64 (y1:Nat),.int .i64 (y2:Nat)] W fun e w'=>e= .returned (.tuple #[])∧∃ S',Way1 Q ⟨W1.heap.size,L,PA,pc,TA,tp⟩ P (M.waits.take (j+1)) W1 w' S')):=Lib.hid fun L j wr S hwy hj=>by
  have hb:=hwy.st.below;have hbz:=hb.size;have h2:=h1.below hb;rw[hN] at hj;obtain⟨y,hy⟩:∃ y,M.waits[j]?=some y:=⟨_,List.getElem?_eq_getElem hj⟩;obtain⟨t1,x,hx⟩:=hw y.1 y.2 (List.mem_of_getElem? hy)
  have htk:M.waits.take (j+1)=M.waits.take j++[y]:=by
   obtain⟨hk,e⟩:=List.getElem?_eq_some_iff.1 hy;rw[List.take_succ_eq_append_getElem hk,e]
  have hxQ:Q.T[y.1]?=some x:=by rw[hQ];exact hx
  have hlt:y.1<sizeE R:=by have:=(List.getElem?_eq_some_iff.1 hx).1;rwa [tab_len] at this
  have hctx:=(h1.ctx hR ht hn hz (bg:=false) (en:=false) L).1;rw[←hQ] at hctx;have hvn:VN Q y.1 y.2:=by rw[hQ];exact⟨(List.getElem?_eq_some_iff.1 hx).1,.inl t1⟩
  obtain⟨p,hp⟩:∃ p,A=some ⟨p,0,none⟩:=by
   rcases h2.row.2 with ⟨_,e⟩ | ⟨p,cc,cur,hv,_⟩
   ·omega
   ·rw[hvw] at hv;injection hv with hv;exact⟨p,hv⟩
  have hown:vw.ownBlock=some p:=by rw[hvw,hp];rfl
  obtain⟨a1,a2⟩:=cellsW_at hy;have b1:=h2.row.cells hown _ _ a1;have b2:=h2.row.cells hown _ _ a2;rw[Addr.add_lit,Nat.zero_add] at b1 b2;refine⟨p,y.1,y.2,P x,hp,b1,b2,fun o=>((one_box wr o).cell (p:=⟨b,0,none⟩) h2.bB.2).trans h2.mac.c0,hlt,fun o m=>?_,fun hq W hW=>by rw[htk];exact hwy.skip hxQ hq hW hbz,fun hq W hW=>by rw[htk];exact hwy.next hctx hxQ hq hvn hW hbz⟩;have h3:=h2.below ((one_box wr o).trans (below_dn _ _ m));obtain⟨K,kk,h15,_⟩:=h3.parts.2 _ x hx;refine(parthas_any (PA.add (y.1 * 15)) x K kk _ c hc h15).mono ?_;rintro e w' ⟨rfl,rfl⟩;exact⟨by rw[hP],0,rfl⟩
 have HEND:Hid (∀ (L:Nat) (wr:World) (S:LS),Way1 Q ⟨W1.heap.size,L,PA,pc,TA,tp⟩ P (M.waits.take N) W1 wr S→Calls Tryd.prog 25 #[.pointer (some ⟨b,0,none⟩),.pointer (some ⟨L,0,none⟩)] wr fun e w'=>e= .returned (.tuple #[])∧Hid (∃ S ws' K,RunW Q P M.waits (S0 Q) S∧Kept (allT M.turns S) S.waits ws' K∧Mac R B b ⟨ws',K,S.over⟩ 0 (n+cntE R+1) X w'∧Below B w w'∧∀ k,k<w.heap.size→k≠b→w'.heap[k]?=w.heap[k]?)):=Lib.hid fun L wr S hwy=>by
  have hrun:=hwy.run;rw[List.take_of_length_le (by omega)] at hrun
  have hnz:Nz Q S:=by
   refine runW_nz (Q:=Q) ?_ hrun ?_ (s0_nz Q)
   ·rw[hQ];intro t ws hws y hy
    have:=(ht.cons t ws hws y hy).1;have h2:t<M.turns.length:=(List.getElem?_eq_some_iff.1 hws).1;show y.1<M.turns.length;omega
   ·rw[hQ];intro y hy;exact(hw y.1 y.2 hy).1
  refine(h1.goon hQ hR ht hn hz hwy.st.ok hnz hwy.st).mono ?_;rintro e w' ⟨rfl,ws',K,k1,k2,k3,k4⟩;exact⟨rfl,Lib.hid ⟨S,ws',K,hrun,k1,k2,hBW.trans k3,fun k hk hkb=>(k4 k (by rw[hW1z];exact hk) hkb).trans (hW1s k hkb)⟩⟩
 have hN9:N≤1000000000:=by rw[hN];exact h.wl
 have hz9:sizeE R≤1000:=hz;obtain⟨SZ,hSZ⟩:∃ v,v=sizeE R:=⟨_,rfl⟩;rw[←hSZ] at HRD hz9;rw[←hQ,←hP]
 suffices hs:Calls Tryd.prog 19 #[.pointer (some ⟨b,0,none⟩),.int .u8 (c:Nat)] w fun e w'=>e= .returned (.tuple #[])∧Hid (∃ S ws' K,RunW Q P M.waits (S0 Q) S∧Kept (allT M.turns S) S.waits ws' K∧Mac R B b ⟨ws',K,S.over⟩ 0 (n+cntE R+1) X w'∧Below B w w'∧∀ k,k<w.heap.size→k≠b→w'.heap[k]?=w.heap[k]?) from hs.mono fun e w' ⟨h1,h2⟩=>⟨h1,h2.out⟩
 have HW1:=Lib.hid hW1;rw[hW1] at HLK;have hbox:(w.setCell ⟨b,4,none⟩ (.int .i64 0)).cell? ⟨b,4,none⟩=some (.int .i64 0):=World.cell?_setCell_same _ _ _ hm4;clear hW1z hW1s hSZ hQ hP hN hvw h1 hBW h hR ht hw hn hz hW1;go_enter Tryd.func19,Tryd.ntmps19;go_wp2_with (go_at_call 23;((with_reducible refine(HLK.out).mono ?_));rintro e w2 ⟨L,rfl,HWY,k2⟩);rw[←HW1.out] at HWY
 go_loopw [23] (fun i wr=>∃ (j:Nat) (S:LS),j≤N∧i= .int .i64 (j:Nat)∧Hid (Way1 Q ⟨W1.heap.size,L,PA,pc,TA,tp⟩ P (M.waits.take j) W1 wr S)) (fun i _=>N - (intOf i).toNat)
 case atStart=>exact⟨0,_,Nat.zero_le _,rfl,by rw[List.take_zero];exact HWY⟩
 case round=>
  obtain⟨j,S,hj,rfl,HWJ⟩:=hrel;by_cases a:j<N
  ·obtain⟨p,y1,y2,q,rfl,d0,d1,d2,hy1,h30,hskip,hfin⟩:=HRD.out L j wr S HWJ.out a
   have HJ:=Lib.hid a;have H30:=Lib.hid h30;have HSK:=Lib.hid hskip;have HFI:=Lib.hid hfin;clear h30 hskip hfin
   cases q with
   | false=>
     go_wp2;go_quiet (first | exact Calls.quiet_of (H30.out _ _) | fail);go_wp2
     go_roundw
     case rel=>exact⟨j+1,S,by have:=HJ.out;omega,by go_num,Lib.hid (HSK.out (by trivial) _ ((one_box wr _).trans (below_dn _ _ _)))⟩
     case measure=>have:=HJ.out;simp[intOf];omega
   | true=>
     go_wp2;go_quiet (first | exact Calls.quiet_of (H30.out _ _) | fail);have HF2:Hid (Calls Tryd.prog 31 #[.pointer (some ⟨L,0,none⟩),.int .i64 (y1:Nat),.int .i64 (y2:Nat)] ((wr.alloc (.cells #[.int .i64 y1,.int .i64 y2] 65)).drewN nq) fun e w'=>e= .returned (.tuple #[])∧∃ S',Hid (Way1 Q ⟨W1.heap.size,L,PA,pc,TA,tp⟩ P (M.waits.take (j+1)) W1 w' S')):=Lib.hid ((HFI.out (by trivial) _ ((one_box wr _).trans (below_dn _ _ _))).mono fun e w' ⟨a,S',b⟩=>⟨a,S',Lib.hid b⟩);go_wp2_with (go_at_call 31;((with_reducible refine(HF2.out).mono ?_));rintro e w3 ⟨rfl,S3,HW3⟩)
     go_roundw
     case rel=>exact⟨j+1,S3,by have:=HJ.out;omega,by go_num,HW3⟩
     case measure=>have:=HJ.out;simp[intOf];omega
  ·obtain rfl:j=N:=by omega
   have HE2:=Lib.hid (HEND.out L wr S HWJ.out);go_wp2_with (go_at_call 25;((with_reducible refine(HE2.out).mono ?_));rintro e w3 ⟨rfl,hh⟩)
   go_end0
   exact⟨rfl,hh⟩
end
end
section
section
variable {R:Re} {B b md n pc tp:Nat} {M:MS} {PA TA:Addr} {vw:Value} {X:Nat→Prop} {w:World}
theorem or2_64 (bg:Bool):bits .or .i64 (modeN bg false:Nat) 2=(modeN bg true:Nat):=by cases bg <;> decide
def AccPost (R:Re) (bg e:Bool) (M:MS) (v:Bool):Prop:=(M.over=true∨e=false→v=M.over)∧(M.over=false→e=true→∃ S,RunW (pmOf R bg true M.turns) (fun x=>decide (x.r.kind=3)) M.waits (S0 (pmOf R bg true M.turns)) S∧v=S.over)
theorem acc_over (h:MacAt R B b M md n PA pc TA tp vw X w) (bg e:Bool) (hov:M.over=true∨e=false):
  Calls Tryd.prog 20 #[.pointer (some ⟨b,0,none⟩),.bool e] w fun e' w'=>∃ v,e'= .returned (.bool v)∧AccPost R bg e M v∧Below w.heap.size w w':=by
 have c5:=h.mac.c5;have HP:Hid (AccPost R bg e M M.over):=Lib.hid ⟨fun _=>rfl,fun h1 h2=>by rcases hov with h | h <;> simp_all⟩;have HB:Hid (∀ m,Below w.heap.size w (w.drewN m)):=Lib.hid fun m=>below_dn _ _ _
 obtain⟨ov,hov2⟩:∃ v,v=M.over:=⟨_,rfl⟩;rw[←hov2] at c5 HP hov;clear h hov2
 cases ov with
 | true=>
   clear hov;go_enter Tryd.func20,Tryd.ntmps20;go_wp2;go_ret;exact⟨true,rfl,HP.out,HB.out 0⟩
 | false=>
   have he:e=false:=by rcases hov with h | h <;> simp_all
   subst he;clear hov;go_enter Tryd.func20,Tryd.ntmps20;go_wp2;go_ret;exact⟨false,rfl,HP.out,HB.out 0⟩
theorem acc_end (h:MacAt R B b M md n PA pc TA tp vw X w) (hR:Fine R) (ht:TurnsOk M.turns) (hw:∀ n t,(n,t)∈M.waits→t<M.turns.length∧∃ x,(tabE R 0 0 0 0)[n]?=some x) (hn:n≤100000) (hz:sizeE R≤1000) (bg:Bool) (hmd:md=modeN bg false) (hov:M.over=false):
  Calls Tryd.prog 20 #[.pointer (some ⟨b,0,none⟩),.bool true] w fun e' w'=>∃ v,e'= .returned (.bool v)∧AccPost R bg true M v∧Below w.heap.size w w':=by
 obtain⟨Q,hQ⟩:∃ Q,Q=pmOf R bg true M.turns:=⟨_,rfl⟩;obtain⟨P,hP⟩:∃ P:Nd→Bool,P=fun x=>decide (x.r.kind=3):=⟨_,rfl⟩
 have hm4:=h.mac.c4;have hm5:=h.mac.c5;rw[hov] at hm5;rw[hmd] at hm4;have hor:=or2_64 bg;obtain⟨W1,hW1⟩:∃ W1,W1=w:=⟨_,rfl⟩;have h1:MacAt R B b M md n PA pc TA tp vw X W1:=by rw[hW1];exact h
 obtain⟨mq,hmq⟩:∃ v,v=modeN bg true:=⟨_,rfl⟩;obtain⟨m0,hm0⟩:∃ v,v=modeN bg false:=⟨_,rfl⟩;rw[←hmq,←hm0] at hor;rw[←hm0] at hm4;obtain⟨N,hN⟩:∃ N,N=M.waits.length:=⟨_,rfl⟩;obtain⟨A,cap,hvw⟩:∃ A cap,vw= .slice A N cap:=by rw[hN];exact row_slice h1.row
 have HLK:Hid (Calls Tryd.prog 23 #[.pointer (some ⟨b,0,none⟩),.int .i64 (mq:Nat)] W1 fun e w'=>∃ L,e= .returned (.pointer (some ⟨L,0,none⟩))∧Hid (Way1 Q ⟨W1.heap.size,L,PA,pc,TA,tp⟩ P [] W1 w' (S0 Q))∧w'.cell? ⟨b,2,none⟩=some (.slice A N cap)):=Lib.hid (by
  rw[hQ,hmq];refine(h1.look hR ht hn hz bg true P).mono ?_;rintro e w' ⟨L,rfl,k1,k2⟩;exact⟨L,rfl,Lib.hid k1,by rw[←hvw];exact(h1.below k2).mac.c2⟩)
 have HRD:Hid (∀ (L j:Nat) (wr:World) (S:LS),Way1 Q ⟨W1.heap.size,L,PA,pc,TA,tp⟩ P (M.waits.take j) W1 wr S→j<N→∃ (p y1 y2:Nat) (q:Bool),A=some ⟨p,0,none⟩∧wr.cell? ⟨p,j * 2,none⟩=some (.int .i64 (y1:Nat))∧wr.cell? ⟨p,j * 2+1,none⟩=some (.int .i64 (y2:Nat))∧(∀ o,(wr.alloc o).cell? ⟨b,0,none⟩=some (.slice (some PA) (sizeE R) pc))∧y1<sizeE R∧
   (∃ kd:Int,(∀ o,(wr.alloc o).cell? (PA.add (y1 * 15))=some (.int .i64 kd))∧(kd==3)=q)∧
   (q=false→∀ W,Below wr.heap.size wr W→Way1 Q ⟨W1.heap.size,L,PA,pc,TA,tp⟩ P (M.waits.take (j+1)) W1 W S)∧
   (q=true→∀ W,Below wr.heap.size wr W→Calls Tryd.prog 31 #[.pointer (some ⟨L,0,none⟩),.int .i64 (y1:Nat),.int .i64 (y2:Nat)] W fun e w'=>e= .returned (.tuple #[])∧∃ S',Way1 Q ⟨W1.heap.size,L,PA,pc,TA,tp⟩ P (M.waits.take (j+1)) W1 w' S')):=Lib.hid fun L j wr S hwy hj=>by
  have hb:=hwy.st.below;have hbz:=hb.size;have h2:=h1.below hb;rw[hN] at hj;obtain⟨y,hy⟩:∃ y,M.waits[j]?=some y:=⟨_,List.getElem?_eq_getElem hj⟩;obtain⟨t1,x,hx⟩:=hw y.1 y.2 (List.mem_of_getElem? hy)
  have htk:M.waits.take (j+1)=M.waits.take j++[y]:=by
   obtain⟨hk,e⟩:=List.getElem?_eq_some_iff.1 hy;rw[List.take_succ_eq_append_getElem hk,e]
  have hxQ:Q.T[y.1]?=some x:=by rw[hQ];exact hx
  have hlt:y.1<sizeE R:=by have:=(List.getElem?_eq_some_iff.1 hx).1;rwa [tab_len] at this
  have hctx:=(h1.ctx hR ht hn hz (bg:=bg) (en:=true) L).1;rw[←hQ] at hctx;have hvn:VN Q y.1 y.2:=by rw[hQ];exact⟨(List.getElem?_eq_some_iff.1 hx).1,.inl t1⟩
  obtain⟨p,hp⟩:∃ p,A=some ⟨p,0,none⟩:=by
   rcases h2.row.2 with ⟨_,e⟩ | ⟨p,cc,cur,hv,_⟩
   ·omega
   ·rw[hvw] at hv;injection hv with hv;exact⟨p,hv⟩
  have hown:vw.ownBlock=some p:=by rw[hvw,hp];rfl
  obtain⟨a1,a2⟩:=cellsW_at hy;have b1:=h2.row.cells hown _ _ a1;have b2:=h2.row.cells hown _ _ a2;rw[Addr.add_lit,Nat.zero_add] at b1 b2;refine⟨p,y.1,y.2,P x,hp,b1,b2,fun o=>((one_box wr o).cell (p:=⟨b,0,none⟩) h2.bB.2).trans h2.mac.c0,hlt,?_,fun hq W hW=>by rw[htk];exact hwy.skip hxQ hq hW hbz,fun hq W hW=>by rw[htk];exact hwy.next hctx hxQ hq hvn hW hbz⟩
  have hkd:∀ o,(wr.alloc o).cell? (PA.add (y.1 * 15))=some (.int .i64 x.r.kind):=fun o=>by
   obtain⟨K,kk,h15,_⟩:=(h2.below (one_box wr o)).parts.2 _ x hx;exact h15.1
  refine⟨x.r.kind,hkd,?_⟩;rw[hP];by_cases hk3:x.r.kind=3 <;> simp[hk3]
 have HEND:Hid (∀ (L:Nat) (wr:World) (S:LS),Way1 Q ⟨W1.heap.size,L,PA,pc,TA,tp⟩ P (M.waits.take N) W1 wr S→∃ v,wr.cell? ⟨L,6,none⟩=some (.bool v)∧Hid (AccPost R bg true M v)∧Hid (Below W1.heap.size W1 wr)):=Lib.hid fun L wr S hwy=>by
  have hrun:=hwy.run;rw[List.take_of_length_le (by omega)] at hrun;obtain⟨DB,BB,ab,vw',hl⟩:=hwy.st.lk;refine⟨S.over,hl.c6,Lib.hid ⟨fun h=>?_,fun _ _=>⟨S,?_,rfl⟩⟩,Lib.hid hwy.st.below⟩
  ·rcases h with h | h
   ·rw[hov] at h;cases h
   ·cases h
  ·rw[←hQ,←hP];exact hrun
 have hN9:N≤1000000000:=by rw[hN];exact h.wl
 have hz9:sizeE R≤1000:=hz;obtain⟨SZ,hSZ⟩:∃ v,v=sizeE R:=⟨_,rfl⟩;rw[←hSZ] at HRD hz9;subst hW1;clear hSZ hQ hP hN hvw h1 h hR ht hw hn hz hmd hov hmq hm0
 suffices hs:Calls Tryd.prog 20 #[.pointer (some ⟨b,0,none⟩),.bool true] W1 fun e' w'=>∃ v,e'= .returned (.bool v)∧Hid (AccPost R bg true M v)∧Hid (Below W1.heap.size W1 w') from hs.mono fun e w' ⟨v,h1,h2,h3⟩=>⟨v,h1,h2.out,h3.out⟩
 go_enter Tryd.func20,Tryd.ntmps20;go_wp2_with (go_at_call 23;((with_reducible refine(HLK.out).mono ?_));rintro e w2 ⟨L,rfl,HWY,k2⟩)
 go_loopw [34] (fun i wr=>∃ (j:Nat) (S:LS),j≤N∧i= .int .i64 (j:Nat)∧Hid (Way1 Q ⟨W1.heap.size,L,PA,pc,TA,tp⟩ P (M.waits.take j) W1 wr S)) (fun i _=>N - (intOf i).toNat)
 case atStart=>exact⟨0,_,Nat.zero_le _,rfl,by rw[List.take_zero];exact HWY⟩
 case round=>
  obtain⟨j,S,hj,rfl,HWJ⟩:=hrel;by_cases a:j<N
  ·obtain⟨p,y1,y2,q,rfl,d0,d1,d2,hy1,⟨kd,hkd,hkq⟩,hskip,hfin⟩:=HRD.out L j wr S HWJ.out a
   have HJ:=Lib.hid a;have HSK:=Lib.hid hskip;have HFI:=Lib.hid hfin;clear hskip hfin
   cases q with
   | false=>
     go_wp2;go_quiet (fail);go_wp2
     go_roundw
     case rel=>exact⟨j+1,S,by have:=HJ.out;omega,by go_num,Lib.hid (HSK.out (by trivial) _ ((one_box wr _).trans (below_dn _ _ _)))⟩
     case measure=>have:=HJ.out;simp[intOf];omega
   | true=>
     go_wp2;go_quiet (fail);have HF2:Hid (Calls Tryd.prog 31 #[.pointer (some ⟨L,0,none⟩),.int .i64 (y1:Nat),.int .i64 (y2:Nat)] ((wr.alloc (.cells #[.int .i64 y1,.int .i64 y2] 65)).drewN nq) fun e w'=>e= .returned (.tuple #[])∧∃ S',Hid (Way1 Q ⟨W1.heap.size,L,PA,pc,TA,tp⟩ P (M.waits.take (j+1)) W1 w' S')):=Lib.hid ((HFI.out (by trivial) _ ((one_box wr _).trans (below_dn _ _ _))).mono fun e w' ⟨a,S',b⟩=>⟨a,S',Lib.hid b⟩);go_wp2_with (go_at_call 31;((with_reducible refine(HF2.out).mono ?_));rintro e w3 ⟨rfl,S3,HW3⟩)
     go_roundw
     case rel=>exact⟨j+1,S3,by have:=HJ.out;omega,by go_num,HW3⟩
     case measure=>have:=HJ.out;simp[intOf];omega
  ·obtain rfl:j=N:=by omega
   obtain⟨v,hv6,hv,hbv⟩:=HEND.out L wr S HWJ.out;go_wp2;go_ret;exact⟨v,rfl,hv,hbv⟩
theorem accepts_any (h:Mac R B b M md n X w) (hR:Fine R) (ht:TurnsOk M.turns) (hw:∀ n t,(n,t)∈M.waits→t<M.turns.length∧∃ x,(tabE R 0 0 0 0)[n]?=some x) (hn:n≤100000) (hz:sizeE R≤1000) (bg e:Bool) (hmd:md=modeN bg false):
  Calls Tryd.prog 20 #[.pointer (some ⟨b,0,none⟩),.bool e] w fun e' w'=>∃ v,e'= .returned (.bool v)∧AccPost R bg e M v∧Below w.heap.size w w':=by
 obtain⟨PA,pc,TA,tp,vw,h⟩:=h;by_cases hov:M.over=true∨e=false
 ·exact acc_over h bg e hov
 ·have h1:M.over=false:=by cases hh:M.over with
   | false=>rfl
   | true=>exact absurd (.inl hh) hov
  have h2:e=true:=by cases e with
   | true=>rfl
   | false=>exact absurd (.inr rfl) hov
  subst h2;exact acc_end h hR ht hw hn hz bg hmd h1
theorem alive_any (h:Mac R B b M md n X w):Calls Tryd.prog 15 #[.pointer (some ⟨b,0,none⟩)] w fun e' w'=>e'= .returned (.bool (M.over || decide (0<M.waits.length)))∧w'=w:=by
 obtain⟨PA,pc,TA,tp,vw,h⟩:=h;have c5:=h.mac.c5;have c2:=h.mac.c2;obtain⟨N,hN⟩:∃ N,N=M.waits.length:=⟨_,rfl⟩;obtain⟨A,cap,hvw⟩:∃ A cap,vw= .slice A N cap:=by rw[hN];exact row_slice h.row
 obtain⟨ov,hov⟩:∃ v,v=M.over:=⟨_,rfl⟩;rw[←hov] at c5 ⊢;rw[←hN];rw[hvw] at c2;clear h hov hN hvw
 cases ov with
 | true=>
   go_enter Tryd.func15,Tryd.ntmps15;go_wp2;go_ret;exact⟨rfl,rfl⟩
 | false=>
   obtain⟨q,hq⟩:∃ q,q=decide (0<N):=⟨_,rfl⟩;have b1:decide (0<(N:Int))=q:=by rw[hq];by_cases h:0<N <;> simp
   have HQ:=Lib.hid hq;clear hq;go_enter Tryd.func15,Tryd.ntmps15;go_wp2;go_ret;exact⟨ret_bool (by first | simp | (rw[HQ.out];simp)),rfl⟩
end
end
section
theorem may_right (r:Re):mayE r=true ↔ RightP r:=by
 unfold mayE RightP
 cases hf:form r 3 0 0 with
 | none=>simp
 | some g=>simp
theorem right_fine {r:Re} (h:RightP r):Fine r:=by
 obtain⟨⟨g,hg⟩,_⟩:=h;exact good_of_form r (by decide) hg
section
variable {R:Re} {B mb:Nat} {w1 w3:World} {e:Ending}
theorem new_mac (hp:AddPost B mb R 0 w1 (.slice none 0 0) 0 0 [] e w3) (c2:w1.cell? ⟨mb,2,none⟩=some (.slice none 0 0)) (c3:w1.cell? ⟨mb,3,none⟩=some (.slice none 0 0)) (c4:w1.cell? ⟨mb,4,none⟩=some (.int .i64 0)) (c5:w1.cell? ⟨mb,5,none⟩=some (.bool false)) (hB:B≤mb) (hmb:mb<w1.heap.size):
  e= .returned (.int .i64 0)∧(∃ PA pc,MacAt R B mb ⟨[],[[]],false⟩ 0 1 PA pc ⟨w3.heap.size,0,none⟩ 1 (.slice none 0 0) (fun _=>False) ((w3.alloc (.cells #[.slice none 0 0] 93)).setCell ⟨mb,3,none⟩ (.slice (some ⟨w3.heap.size,0,none⟩) 1 1)))∧Below B w1 ((w3.alloc (.cells #[.slice none 0 0] 93)).setCell ⟨mb,3,none⟩ (.slice (some ⟨w3.heap.size,0,none⟩) 1 1))∧(∀ o,(w3.alloc o).cell? ⟨mb,3,none⟩=some (.slice none 0 0))∧∀ o,(w3.alloc o).frozen? ⟨mb,3,none⟩=false:=by
 obtain⟨v',cs1,rfl,h2,h3,h4,h5⟩:=hp;have hz:=h5.below.size;have hpos:=sizeE_pos R;rw[Nat.zero_add,List.nil_append] at h2
 obtain⟨g,cap,cur,hv,hgB,hg,_⟩:∃ g cap cur,v'= .slice (some ⟨g,0,none⟩) (sizeE R) cap∧B≤g∧w3.heap[g]?=some (.cells cur 68)∧True:=by
  rcases h2.2 with ⟨_,e⟩ | ⟨g,cap,cur,hv,hgB,hg,_⟩
  ·omega
  ·exact⟨g,cap,cur,hv,hgB,hg,trivial⟩
 have hown:v'.ownBlock=some g:=by rw[hv];rfl
 have hg1:w1.heap.size≤g:=by
  rcases h5.vk g hown with h | h
  ·simp[Value.ownBlock] at h
  ·exact h
 have hg3:g<w3.heap.size:=(Array.getElem?_eq_some_iff.1 hg).1;obtain⟨W4,hW4⟩:∃ W4,W4=w3.alloc (.cells #[.slice none 0 0] 93):=⟨_,rfl⟩;have hb4:Below w3.heap.size w3 W4:=by rw[hW4];exact one_box _ _
 have hz4:W4.heap.size=w3.heap.size+1:=by rw[hW4];simp
 have hV:W4.heap[w3.heap.size]?=some (.cells #[.slice none 0 0] 93):=by rw[hW4];exact heap_alloc_new _ _
 have hm3:mb<w3.heap.size:=by omega
 have al:∀ j,W4.cell? ⟨mb,j,none⟩=w3.cell? ⟨mb,j,none⟩:=fun j=>hb4.cell (p:=⟨mb,j,none⟩) hm3
 rw[←hW4];have hs:∀ k,k≠mb→(W4.setCell ⟨mb,3,none⟩ (.slice (some ⟨w3.heap.size,0,none⟩) 1 1)).heap[k]?=W4.heap[k]?:=fun k hk=>Below.heap_setCell _ _ _ _ hk
 have hzz:(W4.setCell ⟨mb,3,none⟩ (.slice (some ⟨w3.heap.size,0,none⟩) 1 1)).heap.size=w3.heap.size+1:=by simp[hz4]
 have o:∀ j,j≠3→(W4.setCell ⟨mb,3,none⟩ (.slice (some ⟨w3.heap.size,0,none⟩) 1 1)).cell? ⟨mb,j,none⟩=w3.cell? ⟨mb,j,none⟩:=fun j hj=>(World.cell?_setCell_other _ _ _ _ (by intro e;injection e with _ e;exact hj e.symm)).trans (al j)
 have k3:w3.cell? ⟨mb,3,none⟩=some (.slice none 0 0):=(h5.mc 3 (by decide)).trans c3;refine⟨rfl,⟨⟨g,0,none⟩,cap,⟨⟨?_,?_,?_,?_,?_,?_,fun j=>?_⟩,?_,?_,World.ownsRow_nil _ _ _ _,by simp[Value.ownBlock],⟨fun h=>h,fun _ _ h=>h,fun _ h=>h.elim⟩,⟨hB,by omega⟩,Nat.le_refl _,fun t ws ht=>?_,by simp⟩⟩,?_,fun o=>?_,fun o=>?_⟩
 ·rw[o 0 (by decide),h4.c0,hv]
 ·rw[o 1 (by decide),h4.c1,Nat.zero_add]
 ·rw[o 2 (by decide),h5.mc 2 (by decide)];exact c2
 ·exact World.cell?_setCell_same _ _ _ ((al 3).trans k3)
 ·rw[o 4 (by decide),h5.mc 4 (by decide)];exact c4
 ·rw[o 5 (by decide),h5.mc 5 (by decide)];exact c5
 ·rw[World.frozen?_setCell,hb4.frozen (p:=⟨mb,j,none⟩) hm3];exact h4.f j
 ·have hkeep:TCs (fun k=>(k<w3.heap.size+1∧k≠mb)∧¬ False) (W4.setCell ⟨mb,3,none⟩ (.slice (some ⟨w3.heap.size,0,none⟩) 1 1)) cs1 (tabE R 0 0 0 0):=h3.keep (fun b ⟨k1,k2,_⟩=>⟨⟨⟨by omega,by omega⟩,fun h=>h⟩,(hs b (by omega)).trans (hb4.block b k2)⟩)
  refine hkeep.parts (fun j v hj=>?_) (fun b hb=>by rw[hzz];exact hb) ⟨⟨by rw[hzz];omega,by omega⟩,fun h=>h⟩;have:=h2.cells hown _ _ hj;rw[Addr.add_lit,Nat.zero_add] at this;rw[cell_same (p:=⟨g,j,none⟩) ((hs g (by omega)).trans (hb4.block g hg3))];exact this
 ·refine⟨⟨⟨by rw[hzz];show w3.heap.size<_;omega,by show w3.heap.size≠mb;omega⟩,fun h=>h⟩,fun t ws ht=>?_⟩
  cases t with
  | zero=>
    injection ht with ht;subst ht
    refine⟨none,0,?_,fun i x hi=>by simp at hi⟩;rw[Addr.add_lit,Nat.zero_add,cell_same (p:=⟨w3.heap.size,0,none⟩) (hs w3.heap.size (by omega)),row_cell hV];rfl
  | succ t=>simp at ht
 ·cases t with
  | zero=>injection ht with ht;subst ht;exact Nat.zero_le _
  | succ t=>simp at ht
 ·exact(h5.below.trans (hb4.mono (by omega))).setCell hB _
 ·exact((one_box w3 o).cell (p:=⟨mb,3,none⟩) hm3).trans k3
 ·exact((one_box w3 o).frozen (p:=⟨mb,3,none⟩) hm3).trans (h4.f 3)
end
end
section
def NewPost (R:Re) (bg:Bool) (B b:Nat) (w w':World):Prop:=∃ S ws' K,Run (pmOf R bg false [[]]) (.ent 0 0) (S0 (pmOf R bg false [[]])) S∧Kept (allT [[]] S) S.waits ws' K∧Mac R B b ⟨ws',K,S.over⟩ (modeN bg false) (1+cntE R+1) (fun _=>False) w'∧Below B w w'
section
variable {R:Re} {B b pc tp:Nat} {PA TA:Addr} {vw:Value} {W:World}
theorem new_look (bg:Bool) (h:MacAt R B b ⟨[],[[]],false⟩ (modeN bg false) 1 PA pc TA tp vw (fun _=>False) W) (hR:Fine R) (hz:sizeE R≤1000):
  Calls Tryd.prog 23 #[.pointer (some ⟨b,0,none⟩),.int .i64 (modeN bg false:Nat)] W fun e w1=>∃ L,e= .returned (.pointer (some ⟨L,0,none⟩))∧Hid (Calls Tryd.prog 24 #[.pointer (some ⟨L,0,none⟩),.int .i64 0,.int .i64 0] w1 fun e w2=>e= .returned (.tuple #[])∧Hid (Calls Tryd.prog 25 #[.pointer (some ⟨b,0,none⟩),.pointer (some ⟨L,0,none⟩)] w2 fun e w3=>e= .returned (.tuple #[])∧Hid (NewPost R bg B b W w3))):=by
 have ht:TurnsOk ([[]]:Turns):=turns_one;refine(h.look hR ht (by decide) hz bg false (fun _=>false)).mono ?_;rintro e w1 ⟨L,rfl,hwy,_⟩;obtain⟨hctx,_⟩:=h.ctx hR ht (by decide) hz (bg:=bg) (en:=false) L;have hx0:=sub_at (T:=tabE R 0 0 0 0) (n:=0) (r:=R) (p:=0) (nx:=0) (c:=0) ⟨[],by simp⟩;have hv:VN (pmOf R bg false [[]]) 0 0:=⟨(List.getElem?_eq_some_iff.1 hx0).1,.inl (by show 0<[[]].length;decide)⟩;have hkid:=KidI.mark (w:=1) (s0_kid (pmOf R bg false [[]])) (s0_ok _) hv.1 (hv.lt hctx.tab);refine⟨L,rfl,Lib.hid ((enter_any hctx hwy.st hv hkid).mono ?_)⟩;rintro e w2 ⟨rfl,S,hr,hl,hb⟩;obtain⟨o1,o2,o3,_⟩:=run_after hctx.tab hr hv (s0_ok _) hkid (s0_sml _)
 have hnz:=(run_nz (Q:=pmOf R bg false [[]]) (fun t ws hws y hy=>by
  have h1:=(ht.cons t ws hws y hy).1;have h2:t<[[]].length:=(List.getElem?_eq_some_iff.1 hws).1;show y.1<[[]].length;omega) hr (s0_nz _) (.inl (by show 0<[[]].length;decide))).1
 refine⟨rfl,Lib.hid ((h.goon rfl hR ht (by decide) hz o1 hnz ⟨hb,hl,o1,o3⟩).mono ?_)⟩;rintro e w3 ⟨rfl,ws',K,k1,k2,k3,_⟩;exact⟨rfl,Lib.hid ⟨S,ws',K,hr,k1,k2,k3⟩⟩
end
theorem new_yes (R:Re) (A:Option Addr) (c:Nat) (w:World) (hk:Kids (Lt w.heap.size) w A R) (hs:sizeE R≤600) (hr:RightP R) (bg:Bool):
  Calls Tryd.prog 14 #[valR R A c,.bool bg] w fun e w'=>e= .returned (.pointer (some ⟨w.heap.size+1,0,none⟩))∧NewPost R bg w.heap.size (w.heap.size+1) w w':=by
 obtain⟨k,S,ks,lo,hi,n⟩:=R;obtain⟨r,hrr⟩:∃ r,r=Re.mk k S ks lo hi n:=⟨_,rfl⟩;have HR:=Lib.hid hrr;have hmay:mayE r=true:=(may_right r).2 (by rw[hrr];exact hr);have hfine:Fine r:=by rw[hrr];exact right_fine hr
 have hs2:sizeE r≤600:=by rw[hrr];exact hs
 have hk2:Kids (Lt w.heap.size) w A r:=by rw[hrr];exact hk
 simp only[valR];rw[←hrr];obtain⟨ln,hln⟩:∃ ln,ln=ks.length:=⟨_,rfl⟩;obtain⟨s0,hs0⟩:∃ s0:Int,s0=S.1.toNat:=⟨_,rfl⟩;obtain⟨s1,hs1⟩:∃ s1:Int,s1=S.2.1.toNat:=⟨_,rfl⟩;obtain⟨s2,hs2'⟩:∃ s2:Int,s2=S.2.2.1.toNat:=⟨_,rfl⟩;obtain⟨s3,hs3⟩:∃ s3:Int,s3=S.2.2.2.toNat:=⟨_,rfl⟩;have hval:valR r A c= .agg #[.int .i64 k,.int .u64 s0,.int .u64 s1,.int .u64 s2,.int .u64 s3,.slice A ln c,.int .i64 lo,.int .i64 hi,.int .i64 n]:=by rw[hrr,hln,hs0,hs1,hs2',hs3];rfl
 rw[←hln,←hs0,←hs1,←hs2',←hs3];obtain⟨W1,hW1⟩:∃ W1,W1=(w.alloc (.cells #[.int .i64 k,.int .u64 s0,.int .u64 s1,.int .u64 s2,.int .u64 s3,.slice A ln c,.int .i64 lo,.int .i64 hi,.int .i64 n] 29)).alloc (.cells #[.slice none 0 0,.int .i64 0,.slice none 0 0,.slice none 0 0,.int .i64 0,.bool false] 54):=⟨_,rfl⟩;have hb1:Below w.heap.size w W1:=by rw[hW1];exact(one_box w _).alloc (by simp) _
 have hz1:W1.heap.size=w.heap.size+1+1:=by rw[hW1];simp
 obtain⟨hg1,hg2,_⟩:=heap3 w 0 (.cells #[.int .i64 k,.int .u64 s0,.int .u64 s1,.int .u64 s2,.int .u64 s3,.slice A ln c,.int .i64 lo,.int .i64 hi,.int .i64 n] 29) (.cells #[.slice none 0 0,.int .i64 0,.slice none 0 0,.slice none 0 0,.int .i64 0,.bool false] 54) (.cells #[] 0)
 have hrb:W1.heap[w.heap.size]?=some (.cells #[.int .i64 k,.int .u64 s0,.int .u64 s1,.int .u64 s2,.int .u64 s3,.slice A ln c,.int .i64 lo,.int .i64 hi,.int .i64 n] 29):=by
  have h2:(W1.alloc (.cells #[] 0)).heap[w.heap.size]?=W1.heap[w.heap.size]?:=Below.heap_alloc _ _ _ (by omega);rw[←h2,hW1];exact hg1
 have hmb:W1.heap[w.heap.size+1]?=some (.cells #[.slice none 0 0,.int .i64 0,.slice none 0 0,.slice none 0 0,.int .i64 0,.bool false] 54):=by
  have h2:(W1.alloc (.cells #[] 0)).heap[w.heap.size+1]?=W1.heap[w.heap.size+1]?:=Below.heap_alloc _ _ _ (by omega);rw[←h2,hW1];exact hg2
 have HMAY:Hid (Calls Tryd.prog 21 #[.agg #[.int .i64 k,.int .u64 s0,.int .u64 s1,.int .u64 s2,.int .u64 s3,.slice A ln c,.int .i64 lo,.int .i64 hi,.int .i64 n]] W1 fun e w2=>e= .returned (.bool true)∧Hid (Below W1.heap.size W1 w2)∧(∀ j,w2.cell? ⟨w.heap.size,j,none⟩=W1.cell? ⟨w.heap.size,j,none⟩)):=Lib.hid (by
  have:=may_any r A c W1 (hk2.next hb1) hs2;rw[hmay,hval] at this;refine this.mono ?_;rintro e w2 ⟨rfl,hb⟩;exact⟨rfl,Lib.hid hb,fun j=>hb.cell (p:=⟨w.heap.size,j,none⟩) (by show w.heap.size<_;omega)⟩)
 have HADD:Hid (∀ w2,Below W1.heap.size W1 w2→Calls Tryd.prog 22 #[.pointer (some ⟨w.heap.size+1,0,none⟩),.agg #[.int .i64 k,.int .u64 s0,.int .u64 s1,.int .u64 s2,.int .u64 s3,.slice A ln c,.int .i64 lo,.int .i64 hi,.int .i64 n],.int .i64 0] w2 fun e w3=>e= .returned (.int .i64 0)∧(∀ o,(w3.alloc o).cell? ⟨w.heap.size+1,3,none⟩=some (.slice none 0 0))∧(∀ o j,(w3.alloc o).frozen? ⟨w.heap.size+1,j,none⟩=false)∧(∀ o,(w3.alloc o).cell? ⟨w.heap.size+1,4,none⟩=some (.int .i64 0))∧
   Hid (∃ PA pc,MacAt r w.heap.size (w.heap.size+1) ⟨[],[[]],false⟩ 0 1 PA pc ⟨w3.heap.size,0,none⟩ 1 (.slice none 0 0) (fun _=>False) ((w3.alloc (.cells #[.slice none 0 0] 93)).setCell ⟨w.heap.size+1,3,none⟩ (.slice (some ⟨w3.heap.size,0,none⟩) 1 1)))∧Hid (Below w.heap.size w ((w3.alloc (.cells #[.slice none 0 0] 93)).setCell ⟨w.heap.size+1,3,none⟩ (.slice (some ⟨w3.heap.size,0,none⟩) 1 1)))):=Lib.hid fun w2 hb2=>by
  have hm2:w2.heap[w.heap.size+1]?=some (.cells #[.slice none 0 0,.int .i64 0,.slice none 0 0,.slice none 0 0,.int .i64 0,.bool false] 54):=by rw[hb2.block _ (by omega)];exact hmb
  have l:=row_cell hm2;have hsz:=hb2.size;have hce:=cntE_le r;have:=add_any (B:=w.heap.size) (mb:=w.heap.size+1) r A c 0 w2 (.slice none 0 0) 0 0 [] (hk2.keep (hb1.trans (hb2.mono (by omega)))) ⟨(l 0).trans rfl,(l 1).trans rfl,row_free hm2⟩ (World.ownsRow_nil _ _ _ _) (by simp[Value.ownBlock]) (by omega) (by omega) (by omega) (by omega) (by decide);rw[hval] at this;refine this.mono ?_;intro e w3 hp;have hmc:=hp;obtain⟨rfl,h1,h2,h3,h4⟩:=new_mac hp ((l 2).trans rfl) ((l 3).trans rfl) ((l 4).trans rfl) ((l 5).trans rfl) (by omega) (by omega);obtain⟨v',cs1,_,_,_,g4,g5⟩:=hmc;have hz3:=g5.below.size;refine⟨rfl,h3,fun o j=>((one_box w3 o).frozen (p:=⟨w.heap.size+1,j,none⟩) (by show w.heap.size+1<_;omega)).trans (g4.f j),fun o=>((one_box w3 o).cell (p:=⟨w.heap.size+1,4,none⟩) (by show w.heap.size+1<_;omega)).trans ((g5.mc 4 (by decide)).trans ((l 4).trans rfl)),Lib.hid h1,Lib.hid (hb1.trans ((hb2.mono (by omega)).trans h2))⟩
 have HLK:Hid (∀ (W:World) (PA:Addr) (pc:Nat) (TA:Addr) (tp:Nat) (vw:Value),MacAt r w.heap.size (w.heap.size+1) ⟨[],[[]],false⟩ (modeN bg false) 1 PA pc TA tp vw (fun _=>False) W→Below w.heap.size w W→Calls Tryd.prog 23 #[.pointer (some ⟨w.heap.size+1,0,none⟩),.int .i64 (modeN bg false:Nat)] W fun e w1=>∃ L,e= .returned (.pointer (some ⟨L,0,none⟩))∧Hid (Calls Tryd.prog 24 #[.pointer (some ⟨L,0,none⟩),.int .i64 0,.int .i64 0] w1 fun e w2=>e= .returned (.tuple #[])∧Hid (Calls Tryd.prog 25 #[.pointer (some ⟨w.heap.size+1,0,none⟩),.pointer (some ⟨L,0,none⟩)] w2 fun e w3=>e= .returned (.tuple #[])∧Hid (NewPost r bg w.heap.size (w.heap.size+1) w w3)))):=Lib.hid fun W PA pc TA tp vw hm hb=>by
  refine(new_look bg hm hfine (by omega)).mono ?_;rintro e w1 ⟨L,rfl,H⟩;refine⟨L,rfl,Lib.hid (H.out.mono ?_)⟩;rintro e w2 ⟨rfl,H2⟩;refine⟨rfl,Lib.hid (H2.out.mono ?_)⟩;rintro e w3 ⟨rfl,H3⟩;obtain⟨S,ws',K,k1,k2,k3,k4⟩:=H3.out;exact⟨rfl,Lib.hid ⟨S,ws',K,k1,k2,k3,hb.trans k4⟩⟩
 have l:=row_cell hrb;have y0:=(l 0).trans rfl;have y1:=(l 1).trans rfl;have y2:=(l 2).trans rfl;have y3:=(l 3).trans rfl;have y4:=(l 4).trans rfl;have y5:=(l 5).trans rfl;have y6:=(l 6).trans rfl;have y7:=(l 7).trans rfl;have y8:=(l 8).trans rfl;have HY:Hid (W1.cell? ⟨w.heap.size,0,none⟩=some (.int .i64 k)∧W1.cell? ⟨w.heap.size,1,none⟩=some (.int .u64 s0)∧W1.cell? ⟨w.heap.size,2,none⟩=some (.int .u64 s1)∧W1.cell? ⟨w.heap.size,3,none⟩=some (.int .u64 s2)∧W1.cell? ⟨w.heap.size,4,none⟩=some (.int .u64 s3)∧W1.cell? ⟨w.heap.size,5,none⟩=some (.slice A ln c)∧W1.cell? ⟨w.heap.size,6,none⟩=some (.int .i64 lo)∧W1.cell? ⟨w.heap.size,7,none⟩=some (.int .i64 hi)∧W1.cell? ⟨w.heap.size,8,none⟩=some (.int .i64 n)):=Lib.hid ⟨y0,y1,y2,y3,y4,y5,y6,y7,y8⟩;rw[hW1] at HMAY;have HW1:=Lib.hid hW1
 suffices hs:Calls Tryd.prog 14 #[.agg #[.int .i64 k,.int .u64 s0,.int .u64 s1,.int .u64 s2,.int .u64 s3,.slice A ln c,.int .i64 lo,.int .i64 hi,.int .i64 n],.bool bg] w fun e w'=>e= .returned (.pointer (some ⟨w.heap.size+1,0,none⟩))∧Hid (NewPost r bg w.heap.size (w.heap.size+1) w w') from hs.mono fun e w' ⟨h1,h2⟩=>⟨h1,h2.out⟩
 clear hW1 hb1 hz1 hg1 hg2 hrb hmb l y0 y1 y2 y3 y4 y5 y6 y7 y8 hval hs0 hs1 hs2' hs3 hln hk2 hs2 hfine hmay hrr hk hs hr
 cases bg with
 | false=>
   have e0:((modeN false false:Nat):Int)=0:=rfl;rw[e0] at HLK;clear e0;go_enter Tryd.func14,Tryd.ntmps14
   go_wp2_with (first
    | (go_at_call 21;((with_reducible refine(HMAY.out).mono ?_));rintro e w2 ⟨rfl,HB2,hc2⟩;rw[←HW1.out] at HB2;rw[←HW1.out] at hc2;obtain⟨y0,y1,y2,y3,y4,y5,y6,y7,y8⟩:=HY.out;have x0:=(hc2 0).trans y0;have x1:=(hc2 1).trans y1;have x2:=(hc2 2).trans y2;have x3:=(hc2 3).trans y3;have x4:=(hc2 4).trans y4;have x5:=(hc2 5).trans y5;have x6:=(hc2 6).trans y6;have x7:=(hc2 7).trans y7;have x8:=(hc2 8).trans y8;clear hc2 y0 y1 y2 y3 y4 y5 y6 y7 y8)
    | (go_at_call 22;((with_reducible refine(HADD.out _ HB2.out).mono ?_));rintro e w3 ⟨rfl,m3,mf,m4,HMM,HBW⟩;obtain⟨PA,pc,hmm⟩:=HMM.out;have HL2:=Lib.hid (HLK.out _ _ _ _ _ _ hmm HBW.out);clear hmm)
    | (go_at_call 23;(refine(HL2.out).mono ?_);rintro e w4 ⟨L,rfl,HE⟩)
    | (go_at_call 24;(refine(HE.out).mono ?_);rintro e w5 ⟨rfl,HG⟩)
    | (go_at_call 25;(refine(HG.out).mono ?_);rintro e w6 ⟨rfl,HN⟩))
   go_ret
   first | exact⟨rfl,HN⟩ | exact⟨trivial,HN⟩ | (trace_state;exact HN)
 | true=>
   have e0:((modeN true false:Nat):Int)=1:=rfl;rw[e0] at HLK;clear e0;go_enter Tryd.func14,Tryd.ntmps14
   go_wp2_with (first
    | (go_at_call 21;((with_reducible refine(HMAY.out).mono ?_));rintro e w2 ⟨rfl,HB2,hc2⟩;rw[←HW1.out] at HB2;rw[←HW1.out] at hc2;obtain⟨y0,y1,y2,y3,y4,y5,y6,y7,y8⟩:=HY.out;have x0:=(hc2 0).trans y0;have x1:=(hc2 1).trans y1;have x2:=(hc2 2).trans y2;have x3:=(hc2 3).trans y3;have x4:=(hc2 4).trans y4;have x5:=(hc2 5).trans y5;have x6:=(hc2 6).trans y6;have x7:=(hc2 7).trans y7;have x8:=(hc2 8).trans y8;clear hc2 y0 y1 y2 y3 y4 y5 y6 y7 y8)
    | (go_at_call 22;((with_reducible refine(HADD.out _ HB2.out).mono ?_));rintro e w3 ⟨rfl,m3,mf,m4,HMM,HBW⟩;obtain⟨PA,pc,hmm⟩:=HMM.out;have hmm1:=hmm.mode 1;have HL2:=Lib.hid (HLK.out _ _ _ _ _ _ hmm1 (HBW.out.setCell (show w.heap.size≤w.heap.size+1 by omega) _));clear hmm1;clear hmm)
    | (go_at_call 23;(refine(HL2.out).mono ?_);rintro e w4 ⟨L,rfl,HE⟩)
    | (go_at_call 24;(refine(HE.out).mono ?_);rintro e w5 ⟨rfl,HG⟩)
    | (go_at_call 25;(refine(HG.out).mono ?_);rintro e w6 ⟨rfl,HN⟩))
   go_ret
   first | exact⟨rfl,HN⟩ | exact⟨trivial,HN⟩ | (trace_state;exact HN)
end
section
def MatI (R:Re) (s:ByteArray) (bg e:Bool) (B b i:Nat) (M:MS) (X:Nat→Prop) (w wr:World):Prop:=Mac R B b M (modeN (bg && decide (i=0)) false) (1+(i+1) * (cntE R+1)) X wr∧StOk R s.data.toList bg e i M∧Below B w wr
section
variable {R:Re} {s:ByteArray} {bg e:Bool} {B b i:Nat} {M:MS} {X:Nat→Prop} {w wr:World}
theorem mat_n (hs:sizeE R≤600) (hl:s.size≤100) (hi:i≤s.size):1+(i+1) * (cntE R+1)≤100000:=by
 have h1:=cntE_le R;have h2:(i+1) * (cntE R+1)≤101 * 601:=Nat.mul_le_mul (by omega) (by omega);omega
theorem mat_waits (h:StOk R s.data.toList bg e i M):∀ n t,(n,t)∈M.waits→t<M.turns.length∧∃ x,(tabE R 0 0 0 0)[n]?=some x:=fun n t hm=>by
 obtain⟨h1,x,h2,_⟩:=h.waits n t hm;exact⟨h1,x,h2⟩
theorem mat_new (hr:RightP R) (hp:NewPost R bg B b w wr):∃ M,MatI R s bg e B b 0 M (fun _=>False) w wr:=by
 obtain⟨S,ws',K,h1,h2,h3,h4⟩:=hp;have hf:=right_fine hr;refine⟨⟨ws',K,S.over⟩,?_,st_new hf h1 h2,h4⟩;have e1:(bg && decide ((0:Nat)=0))=bg:=by simp
 rw[e1,Nat.zero_add,Nat.one_mul,show 1+(cntE R+1)=1+cntE R+1 by omega];exact h3
theorem mat_next (hr:RightP R) (hs:sizeE R≤600) (hl:s.size≤100) (hi:i<s.size) (h:MatI R s bg e B b i M X w wr):
  Calls Tryd.prog 19 #[.pointer (some ⟨b,0,none⟩),.int .u8 (s[i].toNat:Nat)] wr fun e' w'=>e'= .returned (.tuple #[])∧∃ M',MatI R s bg e B b (i+1) M' X w w'∧∀ k,k<wr.heap.size→k≠b→w'.heap[k]?=wr.heap[k]?:=by
 obtain⟨⟨PA,pc,TA,tp,vw,hm⟩,hst,hb⟩:=h;have hf:=right_fine hr;refine(next_any hm hf hst.turns (mat_waits hst) (mat_n hs hl (by omega)) (by omega) s[i].toNat (UInt8.toNat_lt _)).mono ?_;rintro e' w' ⟨rfl,S,ws',K,h1,h2,h3,h4,h5⟩;refine⟨rfl,⟨ws',K,S.over⟩,⟨?_,st_next hf hst (get_at s i hi) h1 h2,hb.trans h4⟩,h5⟩;have e1:(bg && decide (i+1=0))=false:=by simp
 rw[e1,show 1+(i+1+1) * (cntE R+1)=1+(i+1) * (cntE R+1)+cntE R+1 by rw[Nat.add_mul (i+1) 1];omega];exact h3
theorem mat_acc (hr:RightP R) (hs:sizeE R≤600) (hl:s.size≤100) (hi:i≤s.size) (h:MatI R s bg e B b i M X w wr) (hd:i=s.size∨(M.over || decide (0<M.waits.length))=false) (hB:B≤wr.heap.size):
  Calls Tryd.prog 20 #[.pointer (some ⟨b,0,none⟩),.bool e] wr fun e' w'=>∃ v,e'= .returned (.bool v)∧(v=true ↔ Way s.data.toList bg e R 0 s.size)∧Below B w w':=by
 obtain⟨hm,hst,hb⟩:=h;have hf:=right_fine hr;have hlen:=len_data s;refine(accepts_any hm hf hst.turns (mat_waits hst) (mat_n hs hl hi) (by omega) (bg && decide (i=0)) e rfl).mono ?_;rintro e' w' ⟨v,rfl,⟨a1,a2⟩,h2⟩;refine⟨v,rfl,?_,hb.trans (h2.mono hB)⟩
 rcases hd with hd | hd
 ·subst hd
  by_cases hov:M.over=true
  ·rw[a1 (.inl hov)]
   exact⟨fun _=>st_yes hst hov,fun _=>hov⟩
  ·have hov':M.over=false:=by simpa using hov
   cases e with
   | false=>
     rw[a1 (.inr rfl)];exact(st_over hst (by simp)).symm
   | true=>
     obtain⟨S,hrun,hv⟩:=a2 hov' rfl;rw[hv];exact(st_end hf hst rfl hlen.symm hov' rfl hrun).symm
 ·simp only[Bool.or_eq_false_iff,decide_eq_false_iff_not,Nat.not_lt,Nat.le_zero_eq,List.length_eq_zero_iff] at hd
  obtain⟨hov,hw⟩:=hd;have hno:¬ Way s.data.toList bg e R 0 s.size:=st_dead hst hov hw hi
  have hv:v=false:=by
   cases e with
   | false=>rw[a1 (.inr rfl)];exact hov
   | true=>
     obtain⟨S,hrun,hv⟩:=a2 hov rfl;rw[hw] at hrun
     cases hrun
     rw[hv];rfl
  rw[hv];exact⟨fun h=>(by cases h),fun h=>absurd h hno⟩
end
theorem match_yes (R:Re) (A:Option Addr) (c:Nat) (w:World) (hk:Kids (Lt w.heap.size) w A R) (hs:sizeE R≤600) (hr:RightP R) (s:ByteArray) (hl:s.size≤100) (bg e:Bool):
  Calls Tryd.prog 9 #[valR R A c,.string s,.bool bg,.bool e] w fun e' w'=>∃ v,e'= .returned (.bool v)∧(v=true ↔ Way s.data.toList bg e R 0 s.size)∧Below w.heap.size w w':=by
 obtain⟨k,S,ks,lo,hi,n⟩:=R;obtain⟨r,hrr⟩:∃ r,r=Re.mk k S ks lo hi n:=⟨_,rfl⟩;rw[←hrr] at hk hs hr ⊢;obtain⟨ln,hln⟩:∃ ln,ln=ks.length:=⟨_,rfl⟩;obtain⟨s0,hs0⟩:∃ s0:Int,s0=S.1.toNat:=⟨_,rfl⟩;obtain⟨s1,hs1⟩:∃ s1:Int,s1=S.2.1.toNat:=⟨_,rfl⟩;obtain⟨s2,hs2'⟩:∃ s2:Int,s2=S.2.2.1.toNat:=⟨_,rfl⟩;obtain⟨s3,hs3⟩:∃ s3:Int,s3=S.2.2.2.toNat:=⟨_,rfl⟩;have hval:valR r A c= .agg #[.int .i64 k,.int .u64 s0,.int .u64 s1,.int .u64 s2,.int .u64 s3,.slice A ln c,.int .i64 lo,.int .i64 hi,.int .i64 n]:=by rw[hrr,hln,hs0,hs1,hs2',hs3];rfl
 rw[hval];obtain⟨W1,hW1⟩:∃ W1,W1=w.alloc (.cells #[.int .i64 k,.int .u64 s0,.int .u64 s1,.int .u64 s2,.int .u64 s3,.slice A ln c,.int .i64 lo,.int .i64 hi,.int .i64 n] 29):=⟨_,rfl⟩;have hb1:Below w.heap.size w W1:=by rw[hW1];exact one_box w _
 have hz1:W1.heap.size=w.heap.size+1:=by rw[hW1];simp
 obtain⟨bb,hbb⟩:∃ bb,bb=w.heap.size+1+1:=⟨_,rfl⟩
 have HNEW:Hid (Calls Tryd.prog 14 #[.agg #[.int .i64 k,.int .u64 s0,.int .u64 s1,.int .u64 s2,.int .u64 s3,.slice A ln c,.int .i64 lo,.int .i64 hi,.int .i64 n],.bool bg] W1 fun e' w'=>e'= .returned (.pointer (some ⟨bb,0,none⟩))∧∃ M,Hid (MatI r s bg e w.heap.size bb 0 M (fun _=>False) w w')):=Lib.hid (by
  have:=new_yes r A c W1 (hk.next hb1) hs hr bg;rw[hval,hz1,←hbb] at this;refine this.mono ?_;rintro e' w' ⟨rfl,hp⟩;obtain⟨M,⟨PA,pc,TA,tp,vw,h1⟩,h2,h3⟩:=mat_new (s:=s) (e:=e) hr hp;refine⟨rfl,M,Lib.hid ⟨⟨PA,pc,TA,tp,vw,⟨h1.mac,h1.parts,h1.turns,⟨h1.row.1,h1.row.2.imp id (fun ⟨gg,cc,cur,a,b,r⟩=>⟨gg,cc,cur,a,by omega,r⟩)⟩,h1.vb,h1.vx,⟨by have:=h1.bB;omega,h1.bB.2⟩,h1.len,h1.ws,h1.wl⟩⟩,h2,hb1.trans (h3.mono (by omega))⟩⟩)
 have HAL:Hid (∀ (i:Nat) (M:MS) (wr:World),MatI r s bg e w.heap.size bb i M (fun _=>False) w wr→Calls Tryd.prog 15 #[.pointer (some ⟨bb,0,none⟩)] wr fun e' w'=>e'= .returned (.bool (M.over || decide (0<M.waits.length)))∧w'=wr):=Lib.hid fun i M wr h=>alive_any h.1
 have HNX:Hid (∀ (i:Nat) (M:MS) (wr:World) (hi:i<s.size),MatI r s bg e w.heap.size bb i M (fun _=>False) w wr→Calls Tryd.prog 19 #[.pointer (some ⟨bb,0,none⟩),.int .u8 (s[i].toNat:Nat)] wr fun e' w'=>e'= .returned (.tuple #[])∧∃ M',Hid (MatI r s bg e w.heap.size bb (i+1) M' (fun _=>False) w w')):=Lib.hid fun i M wr hi h=>(mat_next hr hs hl hi h).mono fun e' w' ⟨a,M',b,_⟩=>⟨a,M',Lib.hid b⟩
 have HAC:Hid (∀ (i:Nat) (M:MS) (wr:World),i≤s.size→MatI r s bg e w.heap.size bb i M (fun _=>False) w wr→(i=s.size∨(M.over || decide (0<M.waits.length))=false)→Calls Tryd.prog 20 #[.pointer (some ⟨bb,0,none⟩),.bool e] wr fun e' w'=>∃ v,e'= .returned (.bool v)∧Hid (v=true ↔ Way s.data.toList bg e r 0 s.size)∧Hid (Below w.heap.size w w')):=Lib.hid fun i M wr hi h hd=>(mat_acc hr hs hl hi h hd h.2.2.size).mono fun e' w' ⟨v,a,b,c⟩=>⟨v,a,Lib.hid b,Lib.hid c⟩
 suffices hs:Calls Tryd.prog 9 #[.agg #[.int .i64 k,.int .u64 s0,.int .u64 s1,.int .u64 s2,.int .u64 s3,.slice A ln c,.int .i64 lo,.int .i64 hi,.int .i64 n],.string s,.bool bg,.bool e] w fun e' w'=>∃ v,e'= .returned (.bool v)∧Hid (v=true ↔ Way s.data.toList bg e r 0 s.size)∧Hid (Below w.heap.size w w') from hs.mono fun e' w' ⟨v,h1,h2,h3⟩=>⟨v,h1,h2.out,h3.out⟩
 rw[hW1] at HNEW;clear hbb hz1 hb1 hW1 hval hs0 hs1 hs2' hs3 hln hk hs hr hrr;go_enter Tryd.func9,Tryd.ntmps9;go_wp2_with (go_at_call 14;((with_reducible refine(HNEW.out).mono ?_));rintro e1 w2 ⟨rfl,M0,HM0⟩)
 go_loopw [10] (fun i wr=>∃ (j:Nat) (M:MS),j≤s.size∧i= .int .i64 (j:Nat)∧Hid (MatI r s bg e w.heap.size bb j M (fun _=>False) w wr)) (fun i _=>s.size - (intOf i).toNat)
 case atStart=>exact⟨0,M0,Nat.zero_le _,rfl,HM0⟩
 case round=>
  obtain⟨j,M,hj,rfl,HMJ⟩:=hrel;by_cases a:j<s.size
  ·have HJ:=Lib.hid a
   have hal:=HAL.out j M wr HMJ.out;obtain⟨al,hal2⟩:∃ al,al=(M.over || decide (0<M.waits.length)):=⟨_,rfl⟩;rw[←hal2] at hal;have HA:=Lib.hid hal;have HA2:=Lib.hid hal2;clear hal hal2
   cases al with
   | true=>
     have HNX2:=Lib.hid (HNX.out j M wr a HMJ.out);go_wp2_with (first | (go_at_call 15;((with_reducible refine(HA.out).mono ?_));rintro e1 w3 ⟨rfl,rfl⟩) | (go_at_call 19;((with_reducible refine(HNX2.out).mono ?_));rintro e1 w4 ⟨rfl,M4,HM4⟩))
     go_roundw
     case rel=>exact⟨j+1,M4,by have:=HJ.out;omega,by go_num,HM4⟩
     case measure=>have:=HJ.out;simp[intOf];omega
   | false=>
     have HAC2:=Lib.hid (HAC.out j M wr hj HMJ.out (.inr HA2.out.symm));go_wp2_with (first | (go_at_call 15;((with_reducible refine(HA.out).mono ?_));rintro e1 w3 ⟨rfl,rfl⟩) | (go_at_call 20;((with_reducible refine(HAC2.out).mono ?_));rintro e1 w4 ⟨v,rfl,HV,HB4⟩));go_ret;exact⟨v,rfl,HV,HB4⟩
  ·have HAC2:=Lib.hid (HAC.out j M wr hj HMJ.out (.inl (by omega)))
   go_wp2_with (go_at_call 20;((with_reducible refine(HAC2.out).mono ?_));rintro e1 w4 ⟨v,rfl,HV,HB4⟩);go_ret;exact⟨v,rfl,HV,HB4⟩
end
end Go.Proofs.YtiafefjaldcpbaaDoor
