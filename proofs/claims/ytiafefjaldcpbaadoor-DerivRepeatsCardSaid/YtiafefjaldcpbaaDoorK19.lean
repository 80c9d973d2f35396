import Derived.Deep.CutRange
import Derived.Deep.RegionWith
import Derived.BigRegion
import Derived.Test.YtiafefjaldcpbaaDoorK18
namespace Go.Proofs.YtiafefjaldcpbaaDoor
open Go Go.RowKit
set_option maxRecDepth 100000
set_option maxHeartbeats 8000000
section
theorem info3:(Tryd.prog.info? 3).map (fun i=>(i.zero,i.size,i.bytes))=some (some (.int .i64 0),1,8):=by kernel_rfl
section
variable {g:GoP} {w:World}
theorem heap3d (w:World) (o1 o2 o3:Obj):(((w.alloc o1).alloc o2).alloc o3).drew.heap[w.heap.size]?=some o1∧(((w.alloc o1).alloc o2).alloc o3).drew.heap[w.heap.size+1]?=some o2∧(((w.alloc o1).alloc o2).alloc o3).drew.heap[w.heap.size+1+1]?=some o3∧Below w.heap.size w (((w.alloc o1).alloc o2).alloc o3).drew:=by
 obtain⟨g1,g2,g3⟩:=heap3 w 0 o1 o2 o3;exact⟨g1,g2,g3,(((one_box w o1).alloc (by simp) _).alloc (by simp;omega) _).drew⟩
theorem go_start {W:World} {VB:Nat} (hb:Below w.heap.size w W) (h1:W.heap[g.TB]?=some (.cells (madeCells #[.int .i64 0] g.all) 3)) (h2:W.heap[VB]?=some (.cells #[.slice none 0 0] 93)) (h3:W.heap[g.KB]?=some (.cells #[.pointer (some ⟨g.L,0,none⟩),.slice (some ⟨g.TB,0,none⟩) g.all g.all,.slice (some ⟨VB,0,none⟩) 1 1] 80))
  (hB:w.heap.size≤g.TB∧w.heap.size≤VB∧w.heap.size≤g.KB∧g.KB≠g.TB∧g.KB≠VB∧g.TB≠VB) (hX:∀ b,GoX g b→b<w.heap.size) (h0:0<g.all) (hr:w.ownsRow g.cB 65 2 g.vw g.ws.length (cellsW g.ws)) (hcB:g.cB≤w.heap.size):GoAt g w 0 W:=
 ⟨_,List.replicate g.all 0,[[]],g.ws,NewW.start _ _ _,km_start_x h1 h2 h3 hB hX,kinv_start h0,below_kept hr hb,fun k hk _=>hb.block k hk,hb.mono hcB,hcB⟩
theorem GoAt.read {i n t p cap:Nat} {W:World} (h:GoAt g w i W) (hi:g.ws[i]?=some (n,t)) (hv:g.vw= .slice (some ⟨p,0,none⟩) g.ws.length cap):W.cell? ⟨p,i * 2,none⟩=some (.int .i64 n)∧W.cell? ⟨p,i * 2+1,none⟩=some (.int .i64 t)∧∀ j,W.frozen? ⟨p,j,none⟩=false:=by
 obtain⟨vk,tk,K,cur,h1,h2,h3,h4,h5,h6⟩:=h;have hc:cur[i]?=some (n,t):=(h1.old i (Nat.le_refl _)).trans hi;obtain⟨a1,a2⟩:=cellsW_at hc;have hil:=(List.getElem?_eq_some_iff.1 hi).1;have hown:g.vw.ownBlock=some p:=by rw[hv];rfl
 have b1:=h4.cells hown _ _ a1;have b2:=h4.cells hown _ _ a2;rw[Addr.add_lit,Nat.zero_add] at b1 b2;refine⟨b1,b2,?_⟩
 rcases h4.2 with ⟨_,e⟩ | ⟨p',cap',cur',hv',_,hg,_⟩
 ·omega
 ·have:p'=p:=by rw[hv'] at hown;simpa[Value.ownBlock] using hown
  subst this;exact row_free hg
theorem GoAt.vk {i:Nat} {W:World} (h:GoAt g w i W):(∃ q cap KL,W.cell? ⟨g.KB,2,none⟩=some (.slice (some ⟨q,0,none⟩) KL cap))∧w.heap.size≤g.KB:=by
 obtain⟨vk,tk,K,cur,h1,h2,h3,h4,h5,h6⟩:=h;obtain⟨q,cap,hv,_⟩:=km_turns' h2 (List.getElem?_eq_some_iff.1 h3.turns.zero).1;exact⟨⟨q,cap,_,by rw[←hv];exact h2.k2⟩,h2.b1.1⟩
theorem GoMid.kept {i n m:Nat} {W:World} (h:GoMid g w i n m W):(∀ k,k<w.heap.size→g.vw.ownBlock≠some k→W.heap[k]?=w.heap[k]?)∧w.heap.size≤W.heap.size:=by
 obtain⟨vk,tk,K,cur,h1,h0,h2,h3,h4,h5,h6⟩:=h;exact⟨h5,h6.1.size⟩
theorem GoAt.kept {i:Nat} {W:World} (h:GoAt g w i W):(∀ k,k<w.heap.size→g.vw.ownBlock≠some k→W.heap[k]?=w.heap[k]?)∧w.heap.size≤W.heap.size:=by
 obtain⟨vk,tk,K,cur,h1,h2,h3,h4,h5,h6⟩:=h;exact⟨h5,h6.1.size⟩
theorem GoMid.free {i n m p cap:Nat} {W:World} (h:GoMid g w i n m W) (hi:i<g.ws.length) (hv:g.vw= .slice (some ⟨p,0,none⟩) g.ws.length cap):(∃ u,W.cell? ⟨p,i * 2+1,none⟩=some (.int .i64 u))∧∀ j,W.frozen? ⟨p,j,none⟩=false:=by
 obtain⟨vk,tk,K,cur,h1,h0,h2,h3,h4,h5,h6⟩:=h;have hown:g.vw.ownBlock=some p:=by rw[hv];rfl
 obtain⟨x,hx⟩:∃ x,cur[i]?=some x:=⟨_,List.getElem?_eq_getElem (by rw[h1.len];exact hi)⟩;obtain⟨_,a2⟩:=cellsW_at hx;have b2:=h4.cells hown _ _ a2;rw[Addr.add_lit,Nat.zero_add] at b2;refine⟨⟨_,b2⟩,?_⟩
 rcases h4.2 with ⟨_,e⟩ | ⟨p',cap',cur',hv',_,hg,_⟩
 ·omega
 ·have:p'=p:=by rw[hv'] at hown;simpa[Value.ownBlock] using hown
  subst this;exact row_free hg
end
theorem gone_any {Q:Pm} {c:LkP} {DB BB:Nat} {ab:Nat→Nat} {vw vm:Value} {w:World} {S:LS} {b P pc C tp md old:Nat} {PA TA:Addr} {ov:Bool} {tc:Turns} (h:LkC Q c DB BB ab vw w S) (ho:OkS Q S) (hnz:Nz Q S) (hz:Szs Q) (hq:Q.tc=tc) (ht:TurnsOk tc) (hl:Q.old=tc.length) (hta:TurnsAt (Lt c.B) w c.TA tc) (hcB:c.B≤w.heap.size)
  (hm:MacC w b PA P pc C vm TA old tp md ov) (hb:b<c.B) (hws:S.waits.length≤1000000000) (ht0:0<Q.all) (Y:Nat→Prop) (hY:∀ b,Y b→b<w.heap.size):
  Calls Tryd.prog 25 #[.pointer (some ⟨b,0,none⟩),.pointer (some ⟨c.L,0,none⟩)] w fun e w'=>e= .returned (.tuple #[])∧GonePost b c.B PA P pc C vw md Q.all (allT tc S) S.waits S.over Y w w':=by
 subst hq;obtain⟨q1,q2,q3⟩:=h.b3;obtain⟨p1,p2,p3⟩:=h.b2;obtain⟨r1,r2,r3,_⟩:=h.b1
 have hvo:∀ k,vw.ownBlock=some k→c.B≤k∧k<w.heap.size:=fun k hk=>by
  obtain⟨a1,a2⟩:=row_lt h.waits hk;exact⟨a2,a1⟩
 have hsrc:=src_of h ho hl hz hta (fun k hk=>(hvo k hk).1) hcB;obtain⟨N,hN⟩:∃ N,N=S.waits.length:=⟨_,rfl⟩;obtain⟨A,cap,hvw⟩:∃ A cap,vw= .slice A N cap:=by rw[hN];exact row_slice h.waits
 obtain⟨G,hG⟩:∃ G:Nat→Nat→GoP,G=fun TB KB=>⟨b,c.B,KB,TB,c.L,Q.all,vw,S.waits,allT Q.tc S,Y⟩:=⟨_,rfl⟩
 have HS:Hid (∀ (X:World) (TB VB KB:Nat),Below w.heap.size w X→X.heap[TB]?=some (.cells (madeCells #[.int .i64 0] Q.all) 3)→X.heap[VB]?=some (.cells #[.slice none 0 0] 93)→X.heap[KB]?=some (.cells #[.pointer (some ⟨c.L,0,none⟩),.slice (some ⟨TB,0,none⟩) Q.all Q.all,.slice (some ⟨VB,0,none⟩) 1 1] 80)→
   (w.heap.size≤TB∧w.heap.size≤VB∧w.heap.size≤KB∧KB≠TB∧KB≠VB∧TB≠VB)→GoAt (G TB KB) w 0 X):=Lib.hid fun X TB VB KB hX g1 g2 g3 hd=>by
  rw[hG];exact go_start hX g1 g2 g3 hd (fun k hk=>hk.elim (fun e=>(hvo k e).2) (fun h=>h.elim (fun e=>by rw[e];show b<_;omega) (hY k))) ht0 h.waits hcB
 have HL:Hid (∀ W:World,(∀ k,k<w.heap.size→vw.ownBlock≠some k→W.heap[k]?=w.heap[k]?)→w.heap.size≤W.heap.size→∀ o,(W.alloc o).cell? ⟨c.L,5,none⟩=some (.slice A N cap)∧W.cell? ⟨c.L,5,none⟩=some (.slice A N cap)∧W.cell? ⟨c.L,6,none⟩=some (.bool S.over)):=Lib.hid fun W hW hs o=>by
  have e:=hW c.L q1 p1;have e2:=(one_box W o).cell (p:=⟨c.L,5,none⟩) (show c.L<W.heap.size by omega);have c5:=(cell_same (p:=⟨c.L,5,none⟩) e).trans h.c5;rw[hvw] at c5;exact⟨e2.trans c5,c5,(cell_same (p:=⟨c.L,6,none⟩) e).trans h.c6⟩
 have HM:Hid (∀ W:World,(∀ k,k<w.heap.size→vw.ownBlock≠some k→W.heap[k]?=w.heap[k]?)→(∀ j,W.cell? ⟨b,j,none⟩=w.cell? ⟨b,j,none⟩)∧∀ j,W.frozen? ⟨b,j,none⟩=false):=Lib.hid fun W hW=>by
  have e:=hW b (by omega) (fun e=>by have:=(hvo b e).1;omega);exact⟨fun j=>cell_same (p:=⟨b,j,none⟩) e,fun j=>(frozen_same e j).trans (hm.f j)⟩
 have HC:Hid (∀ (TB KB i t n:Nat) (W W':World),S.waits[i]?=some (n,t)→GoAt (G TB KB) w i W→Below W.heap.size W W'→Calls Tryd.prog 37 #[.pointer (some ⟨KB,0,none⟩),.int .i64 (t:Nat)] W' fun e w'=>∃ m:Nat,e= .returned (.int .i64 m)∧GoMid (G TB KB) w i t m w'):=Lib.hid fun TB KB i t n W W' hi hat hbw=>by
  have hk:=keep_look (P:=fun k=>k<w.heap.size∧vw.ownBlock≠some k) (B:=w.heap.size) (KB:=KB) (TB:=TB) (L:=c.L) (BB:=BB) (tp:=c.tp) (TA:=c.TA) (ab:=ab) (fun k hk=>hk.1) ht hl ho hnz hz rfl (n:=t) (hnz.waits n t (List.mem_of_getElem? hi));rw[hG] at hat ⊢;exact(hat.below hbw).call (g:=⟨b,c.B,KB,TB,c.L,Q.all,vw,S.waits,allT Q.tc S,Y⟩) ⟨by show b<_;omega,hY⟩ (fun k hk=>(hvo k hk).2) hsrc hk
 have HE:Hid (∀ (TB KB:Nat) (W X:World) (vk:Value),GoAt (G TB KB) w N W→W.cell? ⟨KB,2,none⟩=some vk→((∀ k,k≠b→X.heap[k]?=W.heap[k]?)∧X.heap.size=W.heap.size∧(∀ j,X.frozen? ⟨b,j,none⟩=W.frozen? ⟨b,j,none⟩)∧∀ j,X.cell? ⟨b,j,none⟩=if j=2 then some (.slice A N cap) else if j=3 then some vk else if j=5 then some (.bool S.over) else W.cell? ⟨b,j,none⟩)→(X.os=W.os∧X.tape=W.tape∧X.output=W.output)→
   GonePost b c.B PA P pc C vw md Q.all (allT Q.tc S) S.waits S.over Y w X.drew):=Lib.hid fun TB KB W X vk hat hk2 ⟨x1,x2,x3,x4⟩ x5=>by
  rw[hG,hN] at hat;rw[←hvw] at x4;exact go_end (X:=X.drew) (g:=⟨b,c.B,KB,TB,c.L,Q.all,vw,S.waits,allT Q.tc S,Y⟩) hat hk2 hm hb rfl hcB hvo hY x1 x2 x3 x4 x5
 have HRD:Hid (∀ (TB KB j n t:Nat) (p:Nat) (W:World),A=some ⟨p,0,none⟩→S.waits[j]?=some (n,t)→GoAt (G TB KB) w j W→W.cell? ⟨p,j * 2,none⟩=some (.int .i64 n)∧W.cell? ⟨p,j * 2+1,none⟩=some (.int .i64 t)):=Lib.hid fun TB KB j n t p W hA hi hat=>by
  rw[hG] at hat;obtain⟨a1,a2,_⟩:=hat.read (p:=p) (cap:=cap) hi (by show vw=_;rw[hvw,hN,hA]);exact⟨a1,a2⟩
 have HST:Hid (∀ (TB KB j n t m:Nat) (p:Nat) (W:World),A=some ⟨p,0,none⟩→S.waits[j]?=some (n,t)→GoMid (G TB KB) w j t m W→(∃ u:Int,W.cell? ⟨p,j * 2+1,none⟩=some (.int .i64 u))∧(∀ j,W.frozen? ⟨p,j,none⟩=false)∧GoAt (G TB KB) w (j+1) (W.setCell ⟨p,j * 2+1,none⟩ (.int .i64 m))):=Lib.hid fun TB KB j n t m p W hA hi hat=>by
  rw[hG] at hat ⊢;have hv:vw= .slice (some ⟨p,0,none⟩) S.waits.length cap:=by rw[hvw,hN,hA]
  obtain⟨⟨u,a1⟩,a2⟩:=hat.free (p:=p) (cap:=cap) (List.getElem?_eq_some_iff.1 hi).1 hv;exact⟨⟨u,a1⟩,a2,hat.store hi hv⟩
 have HAS:Hid (∀ (TB KB j:Nat) (W:World),j<N→GoAt (G TB KB) w j W→∃ p n t,A=some ⟨p,0,none⟩∧S.waits[j]?=some (n,t)):=Lib.hid fun TB KB j W hj _=>by
  rw[hN] at hj
  have hs:∃ p,A=some ⟨p,0,none⟩:=by
   rcases h.waits.2 with ⟨_,e⟩ | ⟨p,cc,cur,hv,_⟩
   ·omega
   ·rw[hvw] at hv;injection hv with hv;exact⟨p,hv⟩
  obtain⟨p,hp⟩:=hs;exact⟨p,_,_,hp,List.getElem?_eq_getElem hj⟩
 have HK:Hid (∀ (TB KB j:Nat) (W:World),GoAt (G TB KB) w j W→(∀ k,k<w.heap.size→vw.ownBlock≠some k→W.heap[k]?=w.heap[k]?)∧w.heap.size≤W.heap.size∧(∃ q cap KL,W.cell? ⟨KB,2,none⟩=some (.slice (some ⟨q,0,none⟩) KL cap))∧w.heap.size≤KB):=Lib.hid fun TB KB j W hat=>by
  have h2:=hat.vk;have h1:=hat.kept;rw[hG] at h1 h2;exact⟨h1.1,h1.2,h2⟩
 have HKM:Hid (∀ (TB KB j n m:Nat) (W:World),GoMid (G TB KB) w j n m W→(∀ k,k<w.heap.size→vw.ownBlock≠some k→W.heap[k]?=w.heap[k]?)∧w.heap.size≤W.heap.size):=Lib.hid fun TB KB j n m W hat=>by
  have h1:=hat.kept;rw[hG] at h1;exact h1
 have l2:=h.c2;have l3:=h.c3;have hz1:=hz.all;have e1:(Q.old:Int)+(Q.C:Int)=(Q.all:Int):=by unfold Pm.all;push_cast;rfl
 obtain⟨AL,hAL⟩:∃ v,v=Q.all:=⟨_,rfl⟩;obtain⟨O,hO⟩:∃ v,v=Q.old:=⟨_,rfl⟩;obtain⟨C0,hC0⟩:∃ v,v=Q.C:=⟨_,rfl⟩;obtain⟨L,hL⟩:∃ v,v=c.L:=⟨_,rfl⟩;obtain⟨ovr,hovr⟩:∃ v,v=S.over:=⟨_,rfl⟩;rw[←hO,←hL] at l2;rw[←hC0,←hL] at l3;rw[←hAL,←hO,←hC0] at e1;rw[←hAL] at hz1 HS;rw[←hL] at HS HL q1 ⊢;rw[←hovr] at HL HE ⊢;have hmk:=run_make_row' (P:=Tryd.prog) 37 3 (.int .i64 0) 8 Tryd.underlying37 info3 rfl .i64 .i64 AL (by omega) (by omega);have k2:∀ o,(w.alloc o).cell? ⟨L,2,none⟩=some (.slice (some c.TA) O c.tp):=fun o=>((one_box w o).cell (p:=⟨L,2,none⟩) q1).trans l2
 have k3:∀ o,(w.alloc o).cell? ⟨L,3,none⟩=some (.slice (some ⟨BB,0,none⟩) C0 C0):=fun o=>((one_box w o).cell (p:=⟨L,3,none⟩) q1).trans l3
 have k4:∀ o o',((w.alloc o).alloc o').cell? ⟨L,2,none⟩=some (.slice (some c.TA) O c.tp):=fun o o'=>(((one_box w o).alloc (by simp) o').cell (p:=⟨L,2,none⟩) q1).trans l2
 have k5:∀ o o',((w.alloc o).alloc o').cell? ⟨L,3,none⟩=some (.slice (some ⟨BB,0,none⟩) C0 C0):=fun o o'=>(((one_box w o).alloc (by simp) o').cell (p:=⟨L,3,none⟩) q1).trans l3
 have HN:Hid (N≤1000000000):=Lib.hid (by omega);have HMC:=Lib.hid hm;have HBL:Hid (b≠L∧b<w.heap.size):=Lib.hid (by rw[hL];omega);have hO1:O≤1000000∧C0≤1000000:=by omega
 obtain⟨hO1,hO2⟩:=hO1;clear hAL hO hC0 hL hovr h ho hnz hz ht hl hta hcB hm hb hws ht0 q1 q2 q3 p1 p2 p3 r1 r2 r3 hvo hY hsrc hN hvw hG
 suffices hs:Calls Tryd.prog 25 #[.pointer (some ⟨b,0,none⟩),.pointer (some ⟨L,0,none⟩)] w fun e w'=>e= .returned (.tuple #[])∧Hid (GonePost b c.B PA P pc C vw md Q.all (allT Q.tc S) S.waits ovr Y w w') from hs.mono fun e w' ⟨h1,h2⟩=>⟨h1,h2.out⟩
 go_enter Tryd.func25,Tryd.ntmps25;go_wp2
 go_cut [4] from 7 (fun kp wx=>∃ TB KB,kp= .pointer (some ⟨KB,0,none⟩)∧GoAt (G TB KB) w 0 wx)
 case first=>
  go_region
  all_goals (try go_wp2_with fail)
  all_goals go_meet
  all_goals (obtain⟨g1,g2,g3,hbw⟩:=heap3d w _ _ _)
  all_goals first
   | exact⟨_,_,rfl,HS.out _ _ _ _ hbw g1 g2 g3 (by omega)⟩
   | exact⟨_,_,rfl,HS.out _ _ _ _ hbw g1 g3 g2 (by omega)⟩
   | exact⟨_,_,rfl,HS.out _ _ _ _ hbw g2 g1 g3 (by omega)⟩
   | exact⟨_,_,rfl,HS.out _ _ _ _ hbw g2 g3 g1 (by omega)⟩
   | exact⟨_,_,rfl,HS.out _ _ _ _ hbw g3 g1 g2 (by omega)⟩
   | exact⟨_,_,rfl,HS.out _ _ _ _ hbw g3 g2 g1 (by omega)⟩
 case rest=>
  obtain⟨TB,KB,rfl,hat0⟩:=hcut;have HAT0:=Lib.hid hat0;obtain⟨hk0,hs0,_⟩:=HK.out _ _ _ _ hat0;obtain⟨_,l5,_⟩:=HL.out wc hk0 hs0 (.cells #[] 0);clear hat0 hk0 hs0 HS hmk k2 k3 k4 k5 l2 l3 e1 hO1 hO2 hz1;have hN9:N≤1000000000:=HN.out;go_wp2
  go_loopw [27] (fun i wr=>∃ j:Nat,j≤N∧i= .int .i64 (j:Nat)∧GoAt (G TB KB) w j wr) (fun i _=>N - (intOf i).toNat)
  case atStart=>exact⟨0,Nat.zero_le _,rfl,HAT0.out⟩
  case round=>
   obtain⟨j,hj,rfl,hat⟩:=hrel;have HAT:=Lib.hid hat;obtain⟨hk0,hs0,hvk⟩:=HK.out _ _ _ _ hat;have hL5:=HL.out wr hk0 hs0;by_cases a:j<N
   ·obtain⟨p,n,t,hA,hi⟩:=HAS.out _ _ _ _ a hat
    subst hA;obtain⟨d0,d1⟩:=HRD.out _ _ _ _ _ _ _ rfl hi hat;have HI:=Lib.hid hi;have HJ:=Lib.hid a;have l51:∀ o,(wr.alloc o).cell? ⟨L,5,none⟩=some (.slice (some ⟨p,0,none⟩) N cap):=fun o=>(hL5 o).1
    have HCL:Hid (Calls Tryd.prog 37 #[.pointer (some ⟨KB,0,none⟩),.int .i64 (t:Nat)] (wr.alloc (.cells #[.int .i64 n,.int .i64 t] 65)).drew fun e w'=>∃ m:Nat,e= .returned (.int .i64 m)∧Hid (GoMid (G TB KB) w j t m w')):=Lib.hid ((HC.out _ _ _ _ _ _ _ hi hat (one_box wr _).drew).mono fun e w' ⟨m,h1,h2⟩=>⟨m,h1,Lib.hid h2⟩);clear hat hk0 hs0 hvk hL5 hi;go_wp2
    go_region_with (go_at_call 37;((with_reducible refine(HCL.out).mono ?_));rintro e w2 ⟨m,rfl,hmid⟩;obtain⟨hk1,hs1⟩:=HKM.out _ _ _ _ _ _ hmid.out;obtain⟨_,l52,_⟩:=HL.out w2 hk1 hs1 (.cells #[] 0);obtain⟨⟨u,s1⟩,s2,hst⟩:=HST.out _ _ _ _ _ _ _ _ rfl HI.out hmid.out;have s3:=s2 (j * 2+1);have HST2:=Lib.hid hst;clear hst hk1 hs1 s2)
    all_goals (try go_wp2_with fail)
    all_goals go_roundw
    all_goals first
     | exact⟨j+1,by have:=HJ.out;omega,by go_num,HST2.out⟩
     | (simp[intOf];have:=HJ.out;omega)
   ·obtain rfl:j=N:=by omega
    obtain⟨⟨q,kc,KL,kk⟩,hkb⟩:=hvk;have HKK:=Lib.hid kk;obtain⟨_,l5,l6⟩:=hL5 (.cells #[] 0);obtain⟨mc,mf⟩:=HM.out wr hk0;have m2:=(mc 2).trans HMC.out.c2;have m3:=(mc 3).trans HMC.out.c3;have m5:=(mc 5).trans HMC.out.c5;have f2:=mf 2;have f3:=mf 3;have f5:=mf 5;have hne1:=HBL.out.1;have hne2:b≠KB:=by have:=HBL.out.2;omega
    clear hat hk0 hs0 hL5 mc mf hkb a;go_wp2
    go_region
    go_end0
    exact⟨rfl,Lib.hid (HE.out TB KB _ _ _ HAT.out HKK.out (three_put m2 m3 m5 (by decide) (by decide) (by decide)) ⟨rfl,rfl,rfl⟩)⟩
end
end Go.Proofs.YtiafefjaldcpbaaDoor
