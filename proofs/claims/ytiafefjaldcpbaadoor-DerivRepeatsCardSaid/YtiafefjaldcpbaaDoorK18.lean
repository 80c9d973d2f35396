import Derived.Test.YtiafefjaldcpbaaDoorK15
namespace Go.Proofs.YtiafefjaldcpbaaDoor
open Go Go.RowKit
theorem turns_one:TurnsOk [[]]:=by
 refine⟨rfl,fun t ws h w hw=>?_,fun t ws h h0=>?_⟩
 ·cases t with
  | zero=>injection h with h;subst h;cases hw
  | succ t=>simp at h
 ·cases t with
  | zero=>exact absurd rfl h0
  | succ t=>simp at h
theorem kinv_start {T:Turns} {all:Nat} (h:0<all):KInv (fun k=>k=0) T all (List.replicate all 0) [[]]:=by
 refine⟨by simp,rfl,fun k hk=>by subst hk;rw[List.getElem?_replicate,if_pos h],turns_one,by simp,fun t ws hw=>?_,fun n m hn hm=>?_⟩
 ·cases t with
  | zero=>injection hw with hw;subst hw;exact Nat.zero_le _
  | succ t=>simp at hw
 ·rw[List.getElem?_replicate] at hn
  split at hn
  ·injection hn with hn;exact absurd hn.symm hm
  ·cases hn
theorem km_start {B KB TB VB L all:Nat} {w:World} (h1:w.heap[TB]?=some (.cells (madeCells #[.int .i64 0] all) 3)) (h2:w.heap[VB]?=some (.cells #[.slice none 0 0] 93)) (h3:w.heap[KB]?=some (.cells #[.pointer (some ⟨L,0,none⟩),.slice (some ⟨TB,0,none⟩) all all,.slice (some ⟨VB,0,none⟩) 1 1] 80))
  (hB:B≤TB∧B≤VB∧B≤KB∧KB≠TB∧KB≠VB∧TB≠VB):KM (fun _=>False) B KB TB L all (.slice (some ⟨VB,0,none⟩) 1 1) w (List.replicate all 0) [[]]:=by
 obtain⟨a1,a2,a3,a4,a5,a6⟩:=hB;have l:=row_cell h3;have sK:=(Array.getElem?_eq_some_iff.1 h3).1;have sT:=(Array.getElem?_eq_some_iff.1 h1).1;have sV:=(Array.getElem?_eq_some_iff.1 h2).1;refine⟨(l 0).trans rfl,(l 1).trans rfl,(l 2).trans rfl,row_free h3,fun n m hn=>?_,row_free h1,⟨[.slice none 0 0],⟨rfl,.inr ⟨VB,1,_,rfl,a2,h2,Nat.le_refl _,by decide,rfl,rfl⟩⟩,fun t ws ht=>?_⟩,⟨a3,a1,a4,sK,sT⟩,⟨?_,?_⟩,⟨fun h=>h,fun h=>h,fun g hg=>?_⟩⟩
 ·rw[List.getElem?_replicate] at hn
  split at hn
  ·rename_i hi
   injection hn with hn;subst hn
   rw[row_cell h1,made_at hi];rfl
  ·cases hn
 ·cases t with
  | zero=>injection ht with ht;subst ht;exact⟨none,0,rfl,fun i x hi=>by simp at hi⟩
  | succ t=>simp at ht
 ·intro e;exact a5 (by simpa[Value.ownBlock] using e.symm)
 ·intro e;exact a6 (by simpa[Value.ownBlock] using e.symm)
 ·have:VB=g:=by simpa[Value.ownBlock] using hg
  subst this;exact⟨fun h=>h,sV,a2⟩
theorem src_of {Q:Pm} {c:LkP} {DB BB:Nat} {ab:Nat→Nat} {vw:Value} {w:World} {S:LS} (h:LkC Q c DB BB ab vw w S) (ho:OkS Q S) (hl:Q.old=Q.tc.length) (hz:Szs Q) (hta:TurnsAt (Lt c.B) w c.TA Q.tc) (hw:∀ g,vw.ownBlock=some g→c.B≤g) (hcb:c.B≤w.heap.size):
  SrcAt (fun b=>b<w.heap.size∧vw.ownBlock≠some b) w c.L BB c.TA c.tp Q.C Q.all ab Q.tc S.begun:=by
 obtain⟨x1,x2,x3⟩:=h.b3;obtain⟨y1,y2,y3⟩:=h.b2;have hall:=hz.all;unfold Pm.all at hall;have up:∀ b,Lt c.B b→b<w.heap.size∧vw.ownBlock≠some b:=fun b hb=>⟨Nat.lt_of_lt_of_le hb hcb,fun e=>by have:=hw b e;have h9:b<c.B:=hb;omega⟩
 refine⟨by rw[←hl];exact h.c2,h.c3,⟨⟨x1,y1⟩,⟨x3,y3⟩⟩,⟨up _ hta.1,fun t ws ht=>?_⟩,h.beg,fun k arr hk hne=>?_,fun b hb=>hb.1,⟨by omega,hz.all,by omega,ho.blen⟩⟩
 ·obtain⟨A,cc,g1,g2⟩:=hta.2 t ws ht
  refine⟨A,cc,g1,fun i x hi=>?_⟩;obtain⟨ad,k1,k2,k3,k4⟩:=g2 i x hi;exact⟨ad,k1,up _ k2,k3,k4⟩
 ·obtain⟨g1,g2,g3,g4,g5,g6,g7,g8⟩:=h.arr k arr hk hne
  exact⟨⟨g4,g8⟩,(ho.arr _ _ hk hne).1,g1⟩
section
theorem cellsW_at {l:List (Nat × Nat)} {i:Nat} {x:Nat × Nat} (h:l[i]?=some x):(cellsW l)[i * 2]?=some (.int .i64 x.1)∧(cellsW l)[i * 2+1]?=some (.int .i64 x.2):=by
 induction l generalizing i with
 | nil=>simp at h
 | cons a r ih=>
   cases i with
   | zero=>injection h with h;subst h;exact⟨rfl,rfl⟩
   | succ i=>
     have:=ih (i:=i) (by simpa using h);rw[show (i+1) * 2=i * 2+1+1 by omega];exact⟨this.1,this.2⟩
theorem set_w {l:List (Nat × Nat)} {p:Nat} {x:Nat × Nat} (hx:l[p]?=some x) (z:Nat):cellsW (l.set p (x.1,z))=(cellsW l).set (p * 2+1) (.int .i64 z):=by
 induction l generalizing p with
 | nil=>simp at hx
 | cons a r ih=>
   cases p with
   | zero=>injection hx with hx;subst hx;rfl
   | succ p=>
     have:=ih (p:=p) (by simpa using hx);rw[List.set_cons_succ,show (p+1) * 2+1=p * 2+1+1+1 by omega];show [Value.int .i64 a.1,Value.int .i64 a.2]++cellsW (r.set p (x.1,z))=([Value.int .i64 a.1,Value.int .i64 a.2]++cellsW r).set (p * 2+1+1+1) _;rw[this];rfl
structure NewW (T K:Turns) (ws:List (Nat × Nat)) (i:Nat) (cur:List (Nat × Nat)):Prop where
 len:cur.length=ws.length
 old:∀ j:Nat,i≤j→cur[j]?=ws[j]?
 new:∀ (j:Nat) (p:Nat × Nat),j<i→cur[j]?=some p→∃ t,ws[j]?=some (p.1,t)∧KRes T K t p.2
theorem NewW.start (T K:Turns) (ws:List (Nat × Nat)):NewW T K ws 0 ws:=⟨rfl,fun _ _=>rfl,fun j p h=>by omega⟩
theorem NewW.ext {T K X:Turns} (hk:TurnsOk K) {ws cur:List (Nat × Nat)} {i:Nat} (h:NewW T K ws i cur):NewW T (K++X) ws i cur:=
 ⟨h.len,h.old,fun j p hj hp=>by obtain⟨t,h1,h2⟩:=h.new j p hj hp;exact⟨t,h1,h2.ext hk⟩⟩
theorem NewW.set {T K:Turns} {ws cur:List (Nat × Nat)} {i n t m:Nat} (h:NewW T K ws i cur) (hi:ws[i]?=some (n,t)) (hr:KRes T K t m):NewW T K ws (i+1) (cur.set i (n,m)):=by
 have hil:=(List.getElem?_eq_some_iff.1 hi).1;refine⟨by rw[List.length_set];exact h.len,fun j hj=>by rw[List.getElem?_set_ne (by omega)];exact h.old j (by omega),fun j p hj hp=>?_⟩;by_cases he:i=j
 ·subst he
  rw[List.getElem?_set_self (by rw[h.len];exact hil)] at hp;injection hp with hp;subst hp
  exact⟨t,hi,hr⟩
 ·rw[List.getElem?_set_ne he] at hp
  exact h.new j p (by omega) hp
theorem NewW.kept {T K:Turns} {ws cur:List (Nat × Nat)} (h:NewW T K ws ws.length cur) (hk:TurnsOk K):Kept T ws cur K:=by
 refine⟨hk,fun n t' hm=>?_,fun n t hm=>?_⟩
 ·obtain⟨j,hj,he⟩:=List.getElem_of_mem hm
  have hj':j<ws.length:=by rw[←h.len];exact hj
  obtain⟨t,h1,h2⟩:=h.new j (n,t') hj' (by rw[List.getElem?_eq_getElem hj,he]);exact⟨h2.lt,t,List.mem_of_getElem? h1,h2.of⟩
 ·obtain⟨j,hj,he⟩:=List.getElem_of_mem hm
  have hj':j<cur.length:=by rw[h.len];exact hj
  obtain⟨t',h1,h2⟩:=h.new j cur[j] hj (List.getElem?_eq_getElem hj');rw[List.getElem?_eq_getElem hj,he] at h1;injection h1 with h1
  injection h1 with h3 h4
  subst h4;exact⟨cur[j].2,by rw[h3];exact List.getElem_mem hj',h2.of⟩
theorem km_start_x {X:Nat→Prop} {B KB TB VB L all:Nat} {w:World} (h1:w.heap[TB]?=some (.cells (madeCells #[.int .i64 0] all) 3)) (h2:w.heap[VB]?=some (.cells #[.slice none 0 0] 93)) (h3:w.heap[KB]?=some (.cells #[.pointer (some ⟨L,0,none⟩),.slice (some ⟨TB,0,none⟩) all all,.slice (some ⟨VB,0,none⟩) 1 1] 80))
  (hB:B≤TB∧B≤VB∧B≤KB∧KB≠TB∧KB≠VB∧TB≠VB) (hX:∀ b,X b→b<B):KM X B KB TB L all (.slice (some ⟨VB,0,none⟩) 1 1) w (List.replicate all 0) [[]]:=by
 have h:=km_start h1 h2 h3 hB;obtain⟨b1,b2,b3⟩:=h.b3;obtain⟨cs,r1,r2⟩:=h.row;refine⟨h.k0,h.k1,h.k2,h.f,h.to_,h.ft,⟨cs,r1,fun t ws ht=>?_⟩,h.b1,h.b2,⟨fun h=>by have:=hX _ h;omega,fun h=>by have:=hX _ h;omega,fun g hg=>⟨fun h=>by have:=hX _ h;have:=(b3 g hg).2.2;omega,(b3 g hg).2⟩⟩⟩;obtain⟨A,c,g1,g2⟩:=r2 t ws ht;refine⟨A,c,g1,fun i x hi=>?_⟩
 cases t with
 | zero=>injection ht with ht;subst ht;simp at hi
 | succ t=>simp at ht
structure GoP where
 mb:Nat
 cB:Nat
 KB:Nat
 TB:Nat
 L:Nat
 all:Nat
 vw:Value
 ws:List (Nat × Nat)
 T:Turns
 Y:Nat→Prop
def GoX (g:GoP) (b:Nat):Prop:=g.vw.ownBlock=some b∨b=g.mb∨g.Y b
def GoAt (g:GoP) (w0:World) (i:Nat) (wr:World):Prop:=∃ (vk:Value) (to:List Nat) (K:Turns) (cur:List (Nat × Nat)),NewW g.T K g.ws i cur∧KM (GoX g) w0.heap.size g.KB g.TB g.L g.all vk wr to K∧KInv (fun k=>k=0) g.T g.all to K∧
 wr.ownsRow g.cB 65 2 g.vw g.ws.length (cellsW cur)∧(∀ k,k<w0.heap.size→g.vw.ownBlock≠some k→wr.heap[k]?=w0.heap[k]?)∧Below g.cB w0 wr∧g.cB≤w0.heap.size
def GoMid (g:GoP) (w0:World) (i n m:Nat) (wr:World):Prop:=∃ (vk:Value) (to:List Nat) (K:Turns) (cur:List (Nat × Nat)),NewW g.T K g.ws i cur∧KRes g.T K n m∧KM (GoX g) w0.heap.size g.KB g.TB g.L g.all vk wr to K∧KInv (fun k=>k=0) g.T g.all to K∧
 wr.ownsRow g.cB 65 2 g.vw g.ws.length (cellsW cur)∧(∀ k,k<w0.heap.size→g.vw.ownBlock≠some k→wr.heap[k]?=w0.heap[k]?)∧Below g.cB w0 wr∧g.cB≤w0.heap.size
section
variable {g:GoP} {w0 W W':World} {i n m:Nat}
theorem GoAt.below (h:GoAt g w0 i W) (hb:Below W.heap.size W W'):GoAt g w0 i W':=by
 obtain⟨vk,to,K,cur,h1,h2,h3,h4,h5,h6⟩:=h;have hz6:=h6.1.size;exact⟨vk,to,K,cur,h1,(h2.same (fun k hk _=>hb.block k hk) hb.size).less (fun b h=> .inl h),h3,below_kept h4 hb,fun k hk hv=>by rw[hb.block k (by omega)];exact h5 k hk hv,h6.1.trans (hb.mono (by have:=h6.2;omega)),h6.2⟩
theorem GoAt.src {L BB tp C all:Nat} {TA:Addr} {ab:Nat→Nat} {tc:Turns} {begun:List (List Nat)} (h:GoAt g w0 i W) (hs:SrcAt (fun b=>b<w0.heap.size∧g.vw.ownBlock≠some b) w0 L BB TA tp C all ab tc begun):SrcAt (fun b=>b<w0.heap.size∧g.vw.ownBlock≠some b) W L BB TA tp C all ab tc begun:=by
 obtain⟨vk,to,K,cur,h1,h2,h3,h4,h5,h6⟩:=h;exact hs.keep (fun a ha=>cell_same (h5 a.block ha.1 ha.2)) h6.1.size
theorem GoAt.call {BB tp C:Nat} {TA:Addr} {ab:Nat→Nat} {tc:Turns} {begun:List (List Nat)} (h:GoAt g w0 i W) (hmb:g.mb<w0.heap.size∧∀ b,g.Y b→b<w0.heap.size) (hw:∀ b,g.vw.ownBlock=some b→b<w0.heap.size) (hs:SrcAt (fun b=>b<w0.heap.size∧g.vw.ownBlock≠some b) w0 g.L BB TA tp C g.all ab tc begun)
  (hk:KeepAt (fun b=>b<w0.heap.size∧g.vw.ownBlock≠some b) w0.heap.size g.KB g.TB g.L BB g.all TA tp C ab tc begun g.T n):
  Calls Tryd.prog 37 #[.pointer (some ⟨g.KB,0,none⟩),.int .i64 (n:Nat)] W fun e w'=>∃ m:Nat,e= .returned (.int .i64 m)∧GoMid g w0 i n m w':=by
 have hs':=h.src hs;obtain⟨vk,to,K,cur,h1,h2,h3,h4,h5,h6⟩:=h;refine(hk (GoX g) (fun k=>k=0) vk W to K (fun k hk=> .inl hk) (fun b hb=>Nat.lt_of_lt_of_le (hb.elim (hw b) (fun h=>h.elim (fun e=>by rw[e];exact hmb.1) (hmb.2 b))) h6.1.size) h2 hs' h3).mono ?_;rintro e w' ⟨m,vk',to',Y,e1,e2,e3,e4,e5⟩;have hk':∀ k,k<w0.heap.size→w'.heap[k]?=W.heap[k]?:=fun k hk=>e5.below.block k hk
 refine⟨m,e1,vk',to',K++Y,cur,h1.ext h3.turns,e4,e2,e3,ownsRow_same h4 (fun g hg=>hk' g (hw g hg)),fun k hk hv=>by rw[hk' k hk];exact h5 k hk hv,h6.1.trans (e5.below.mono h6.2),h6.2⟩
theorem GoMid.store {p n t cap:Nat} (h:GoMid g w0 i t m W) (hi:g.ws[i]?=some (n,t)) (hv:g.vw= .slice (some ⟨p,0,none⟩) g.ws.length cap):GoAt g w0 (i+1) (W.setCell ⟨p,i * 2+1,none⟩ (.int .i64 m)):=by
 obtain⟨vk,to,K,cur,h1,h0,h2,h3,h4,h5,h6⟩:=h;have hown:g.vw.ownBlock=some p:=by rw[hv];rfl
 have hc:cur[i]?=some (n,t):=(h1.old i (Nat.le_refl _)).trans hi;refine⟨vk,to,K,cur.set i (n,m),h1.set hi h0,?_,h3,?_,fun k hk hne=>?_,h6.1.setCell (row_lt h4 hown).2 _,h6.2⟩
 ·exact(h2.same (fun k hk hx=>Below.heap_setCell _ _ _ _ (fun e=>hx (.inl (by rw[hown,e])))) (by simp)).less fun b hb=> .inl hb
 ·rw[show cur.set i (n,m)=cur.set i ((n,t).1,m) from rfl,set_w hc]
  rw[hv] at h4 ⊢;exact(h4.stored (i * 2+1) (.int .i64 m)).1
 ·rw[Below.heap_setCell _ _ _ _ (fun e=>hne (by rw[hown,e]))];exact h5 k hk hne
end
end
section
def GonePost (b cB:Nat) (PA:Addr) (P pc C:Nat) (vw:Value) (md all:Nat) (T:Turns) (ws:List (Nat × Nat)) (ov:Bool) (Y:Nat→Prop) (w w':World):Prop:=
 ∃ (ws':List (Nat × Nat)) (K:Turns) (g cap:Nat),MacC w' b PA P pc C vw ⟨g,0,none⟩ K.length cap md ov∧w'.ownsRow cB 65 2 vw ws'.length (cellsW ws')∧ws'.length=ws.length∧Kept T ws ws' K∧TurnsAt (fun k=>(k<w'.heap.size∧k≠b)∧¬ Y k) w' ⟨g,0,none⟩ K∧
  K.length≤1+all∧(∀ (t:Nat) (ws:List (Nat × Nat)),K[t]?=some ws→ws.length≤1000000)∧(∀ k,k<cB→k≠b→w'.heap[k]?=w.heap[k]?)∧w.heap.size≤w'.heap.size∧w'.os=w.os∧w'.tape=w.tape∧w'.output=w.output
theorem km_turns' {X:Nat→Prop} {B KB TB L all:Nat} {w:World} {vk:Value} {K:Turns} {to:List Nat} (h:KM X B KB TB L all vk w to K) (h0:0<K.length):∃ g cap,vk= .slice (some ⟨g,0,none⟩) K.length cap∧B≤g∧g<w.heap.size∧∀ t ws,K[t]?=some ws→∃ A c,w.cell? ⟨g,t,none⟩=some (.slice A ws.length c)∧WsAt (fun k=>k<w.heap.size∧¬ X k) w A ws:=by
 obtain⟨cs,r1,r2⟩:=h.row
 rcases r1.2 with ⟨_,e⟩ | ⟨g,cap,cur,hv,hB,hg,_⟩
 ·omega
 ·refine⟨g,cap,hv,hB,(Array.getElem?_eq_some_iff.1 hg).1,fun t ws ht=>?_⟩
  obtain⟨A,c,h1,h2⟩:=r2 t ws ht;have:=r1.cells (g:=g) (by rw[hv];rfl) _ _ h1;rw[Addr.add_lit,Nat.zero_add] at this
  exact⟨A,c,this,fun i x hi=>by
   obtain⟨ad,k1,⟨k2,k3,_⟩,k4,k5⟩:=h2 i x hi;exact⟨ad,k1,⟨k2,k3⟩,k4,k5⟩⟩
theorem three_put {W:World} {b i1 i2 i3:Nat} {u1 u2 u3 x1 x2 x3:Value} (h1:W.cell? ⟨b,i1,none⟩=some x1) (h2:W.cell? ⟨b,i2,none⟩=some x2) (h3:W.cell? ⟨b,i3,none⟩=some x3) (d1:i1≠i2) (d2:i1≠i3) (d3:i2≠i3):
  (∀ k,k≠b→(((W.setCell ⟨b,i1,none⟩ u1).setCell ⟨b,i2,none⟩ u2).setCell ⟨b,i3,none⟩ u3).heap[k]?=W.heap[k]?)∧(((W.setCell ⟨b,i1,none⟩ u1).setCell ⟨b,i2,none⟩ u2).setCell ⟨b,i3,none⟩ u3).heap.size=W.heap.size∧
  (∀ j,(((W.setCell ⟨b,i1,none⟩ u1).setCell ⟨b,i2,none⟩ u2).setCell ⟨b,i3,none⟩ u3).frozen? ⟨b,j,none⟩=W.frozen? ⟨b,j,none⟩)∧
  (∀ j,(((W.setCell ⟨b,i1,none⟩ u1).setCell ⟨b,i2,none⟩ u2).setCell ⟨b,i3,none⟩ u3).cell? ⟨b,j,none⟩=if j=i1 then some u1 else if j=i2 then some u2 else if j=i3 then some u3 else W.cell? ⟨b,j,none⟩):=by
 refine⟨fun k hk=>?_,by simp,fun j=>by rw[World.frozen?_setCell,World.frozen?_setCell,World.frozen?_setCell],fun j=>?_⟩
 ·rw[Below.heap_setCell _ _ _ _ hk,Below.heap_setCell _ _ _ _ hk,Below.heap_setCell _ _ _ _ hk]
 ·have o:∀ (W:World) (i:Nat) (u:Value),j≠i→(W.setCell ⟨b,i,none⟩ u).cell? ⟨b,j,none⟩=W.cell? ⟨b,j,none⟩:=fun W i u hj=>World.cell?_setCell_other _ _ _ _ (by intro e;injection e with _ e;omega)
  have o2:∀ (W:World) (i i':Nat) (u:Value),i'≠i→(W.setCell ⟨b,i,none⟩ u).cell? ⟨b,i',none⟩=W.cell? ⟨b,i',none⟩:=fun W i i' u hj=>World.cell?_setCell_other _ _ _ _ (by intro e;injection e with _ e;omega)
  by_cases e1:j=i1
  ·subst e1;rw[if_pos rfl,o _ _ _ d2,o _ _ _ d1];exact World.cell?_setCell_same _ _ _ h1
  ·rw[if_neg e1]
   by_cases e2:j=i2
   ·subst e2;rw[if_pos rfl,o _ _ _ d3];exact World.cell?_setCell_same (u:=x2) _ _ _ ((o2 _ _ _ _ (fun e=>d1 e.symm)).trans h2)
   ·rw[if_neg e2]
    by_cases e3:j=i3
    ·subst e3;rw[if_pos rfl];exact World.cell?_setCell_same (u:=x3) _ _ _ (((o2 _ _ _ _ (fun e=>d3 e.symm)).trans (o2 _ _ _ _ (fun e=>d2 e.symm))).trans h3)
    ·rw[if_neg e3,o _ _ _ e3,o _ _ _ e2,o _ _ _ e1]
section
variable {g:GoP} {w0 W X:World} {b pc C P tp md old:Nat} {PA TA:Addr} {ov ov':Bool} {vm vk:Value}
theorem go_end (h:GoAt g w0 g.ws.length W) (hk2:W.cell? ⟨g.KB,2,none⟩=some vk) (hm:MacC w0 b PA P pc C vm TA old tp md ov') (hb:b<g.cB) (hmb:g.mb=b) (hcB:g.cB≤w0.heap.size) (hvo:∀ k,g.vw.ownBlock=some k→g.cB≤k∧k<w0.heap.size) (hY:∀ b,g.Y b→b<w0.heap.size)
  (x1:∀ k,k≠b→X.heap[k]?=W.heap[k]?) (x2:X.heap.size=W.heap.size) (x3:∀ j,X.frozen? ⟨b,j,none⟩=W.frozen? ⟨b,j,none⟩) (x4:∀ j,X.cell? ⟨b,j,none⟩=if j=2 then some g.vw else if j=3 then some vk else if j=5 then some (.bool ov) else W.cell? ⟨b,j,none⟩) (x5:X.os=W.os∧X.tape=W.tape∧X.output=W.output):
  GonePost b g.cB PA P pc C g.vw md g.all g.T g.ws ov g.Y w0 X:=by
 obtain⟨vk',to,K,cur,h1,h2,h3,h4,h5,h6⟩:=h;have hz6:=h6.1.size;have:vk'=vk:=by have:=h2.k2;rw[hk2] at this;injection this with this;exact this.symm
 subst this;have hpos:=(List.getElem?_eq_some_iff.1 h3.turns.zero).1;obtain⟨g',cap,hv,hB,hlt,hts⟩:=km_turns' h2 hpos;have hbo:g.vw.ownBlock≠some b:=fun e=>by have:=(hvo b e).1;omega
 have eb:W.heap[b]?=w0.heap[b]?:=h5 b (by omega) hbo;have cb:∀ j,W.cell? ⟨b,j,none⟩=w0.cell? ⟨b,j,none⟩:=fun j=>cell_same (p:=⟨b,j,none⟩) eb
 refine⟨cur,K,g',cap,⟨?_,?_,?_,?_,?_,?_,fun j=>by rw[x3,frozen_same eb];exact hm.f j⟩,?_,h1.len,h1.kept h3.turns,⟨⟨⟨by rw[x2];exact hlt,by show g'≠b;omega⟩,fun h=>by have h9:g'<w0.heap.size:=hY _ h;omega⟩,fun t ws ht=>?_⟩,?_,h3.ws,fun k hk hkb=>?_,by rw[x2];exact h6.1.size,x5.1.trans h6.1.os,x5.2.1.trans h6.1.tape,x5.2.2.trans h6.1.output⟩
 ·rw[x4];exact(cb 0).trans hm.c0
 ·rw[x4];exact(cb 1).trans hm.c1
 ·rw[x4];rfl
 ·rw[x4,hv];rfl
 ·rw[x4];exact(cb 4).trans hm.c4
 ·rw[x4];rfl
 ·rw[h1.len];exact ownsRow_same h4 (fun k hk=>x1 k (fun e=>hbo (by rw[←e];exact hk)))
 ·obtain⟨A,c,q1,q2⟩:=hts t ws ht
  have hgb:g'≠b:=by omega
  refine⟨A,c,?_,fun i x hi=>?_⟩
  ·rw[Addr.add_lit,Nat.zero_add,cell_same (p:=⟨g',t,none⟩) (x1 g' hgb)];exact q1
  ·obtain⟨ad,k1,⟨k2,k3⟩,k4,k5⟩:=q2 i x hi
   have hne:ad.block≠b:=fun e=>k3 (.inr (.inl (by rw[hmb];exact e)))
   exact⟨ad,k1,⟨⟨by rw[x2];exact k2,hne⟩,fun h=>k3 (.inr (.inr h))⟩,by rw[←k4];exact cell_same (by rw[block_of_add];exact x1 _ hne),by rw[←k5];exact cell_same (by show X.heap[(ad.add (i * 2)).block]?=_;rw[block_of_add];exact x1 _ hne)⟩
 ·have:=h3.cnt
  have h9:=List.length_filter_le (fun x=>decide (x≠0)) to;rw[h3.len] at h9;omega
 ·rw[x1 k hkb];exact h5 k (by omega) (fun e=>by have:=(hvo k e).1;omega)
end
end
end Go.Proofs.YtiafefjaldcpbaaDoor
