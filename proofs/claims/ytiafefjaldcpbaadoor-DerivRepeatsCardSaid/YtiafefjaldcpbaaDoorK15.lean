import Derived.Test.YtiafefjaldcpbaaDoorGoes
import Derived.Deep.AppendLies
namespace Go.Proofs.YtiafefjaldcpbaaDoor
open Go Go.RowKit
set_option maxRecDepth 100000
set_option maxHeartbeats 4000000
section
abbrev RowTu (B:Nat) (w0 w:World) (v:Value) (l:List (Nat × Nat)):Prop:=Row1 98 2 B w0 w v l.length (cellsU l)
theorem Row1.turn {B:Nat} {w0 w w':World} {v v':Value} {l:List (Nat × Nat)} {p:Nat × Nat} (h:RowTu B w0 w v l) (ho:w'.ownsRow B 98 2 v' (l.length+1) (cellsU l++[.int .i64 p.1,.int .u64 p.2])) (hg:w.grownBy w' v.ownBlock):RowTu B w0 w' v' (l++[p]):=by
 have:=h.grown ho hg;unfold RowTu;rw[cellsU_app,List.length_append];exact this
structure SrcAt (P:Nat→Prop) (w:World) (L BB:Nat) (TA:Addr) (tp C all:Nat) (ab:Nat→Nat) (tc:Turns) (begun:List (List Nat)):Prop where
 l2:w.cell? ⟨L,2,none⟩=some (.slice (some TA) tc.length tp)
 l3:w.cell? ⟨L,3,none⟩=some (.slice (some ⟨BB,0,none⟩) C C)
 pl:P L∧P BB
 ta:TurnsAt P w TA tc
 beg:∀ (k:Nat) (arr:List Nat),begun[k]?=some arr→w.cell? ⟨BB,k,none⟩=some (if arr=[] then .slice none 0 0 else .slice (some ⟨ab k,0,none⟩) all all)
 arr:∀ (k:Nat) (arr:List Nat),begun[k]?=some arr→arr≠[]→P (ab k)∧arr.length=all∧∀ (t ts:Nat),arr[t]?=some ts→w.cell? ⟨ab k,t,none⟩=some (.int .u64 ts)
 lt:∀ b,P b→b<w.heap.size
 sz:tc.length≤1000000∧all≤1000000∧C≤1000000∧begun.length=C
theorem SrcAt.keep {P:Nat→Prop} {w w':World} {L BB tp C all:Nat} {TA:Addr} {ab:Nat→Nat} {tc:Turns} {begun:List (List Nat)} (h:SrcAt P w L BB TA tp C all ab tc begun) (hs:SameOn P w w') (hz:w.heap.size≤w'.heap.size):SrcAt P w' L BB TA tp C all ab tc begun:=
 ⟨(hs _ h.pl.1).trans h.l2,(hs _ h.pl.1).trans h.l3,h.pl,h.ta.keep hs,fun k arr hk=>(hs ⟨BB,k,none⟩ h.pl.2).trans (h.beg k arr hk),fun k arr hk hne=>by
   obtain⟨a1,a2,a3⟩:=h.arr k arr hk hne;exact⟨a1,a2,fun t ts ht=>(hs ⟨ab k,t,none⟩ a1).trans (a3 t ts ht)⟩,fun b hb=>Nat.lt_of_lt_of_le (h.lt b hb) hz,h.sz⟩
def TofPost (P:Nat→Prop) (w:World) (ws:List (Nat × Nat)) (e:Ending) (w':World):Prop:=
 ∃ A c,e= .returned (.slice A ws.length c)∧WsAt (fun b=>b<w'.heap.size∧(P b∨w.heap.size≤b)) w' A ws∧Below w.heap.size w w'
theorem fm_congr {α β:Type} {f g:α→Option β}:∀ (l:List α),(∀ x,x∈l→f x=g x)→l.filterMap f=l.filterMap g
 | [],_=>rfl
 | a::r,h=>by rw[List.filterMap_cons,List.filterMap_cons,h a (List.mem_cons_self ..),fm_congr r (fun x hx=>h x (List.mem_cons_of_mem _ hx))]
theorem newT_take {arr:List Nat} {k:Nat} {ts:Nat} (h:arr[k]?=some ts):newT (arr.take (k+1))=newT (arr.take k)++if ts=0 then [] else [(k,ts)]:=by
 have hk:=(List.getElem?_eq_some_iff.1 h).1;have hl1:(arr.take (k+1)).length=k+1:=by rw[List.length_take];omega
 have hl0:(arr.take k).length=k:=by rw[List.length_take];omega
 unfold newT;rw[hl1,hl0,List.range_succ,List.filterMap_append]
 congr 1
 ·refine fm_congr _ fun t ht=>?_
  rw[List.mem_range] at ht;rw[List.getElem?_take,List.getElem?_take,if_pos (by omega),if_pos ht]
 ·rw[List.filterMap_cons,List.filterMap_nil,List.getElem?_take,if_pos (by omega),h]
  by_cases h0:ts=0
  ·simp[h0]
  ·simp[h0]
theorem newT_len (arr:List Nat):(newT arr).length≤arr.length:=by
 unfold newT
 have:=List.length_filterMap_le (fun t=>match arr[t]? with
  | some ts=>if ts=0 then none else some (t,ts)
  | none=>none) (List.range arr.length)
 rw[List.length_range] at this;exact this
section
variable {P:Nat→Prop} {w:World} {L BB TB KB tp C all:Nat} {TA:Addr} {ab:Nat→Nat} {tc:Turns} {begun:List (List Nat)}
theorem tof_old (h:SrcAt P w L BB TA tp C all ab tc begun) (hk0:w.cell? ⟨KB,0,none⟩=some (.pointer (some ⟨L,0,none⟩))) {n:Nat} {ws:List (Nat × Nat)} (hw:tc[n]?=some ws):
  Calls Tryd.prog 46 #[.pointer (some ⟨KB,0,none⟩),.int .i64 n] w (TofPost P w ws):=by
 obtain⟨A,c,h1,h2⟩:=h.ta.2 n ws hw;have hn:=(List.getElem?_eq_some_iff.1 hw).1;have l2:=h.l2;obtain⟨N,hN⟩:∃ N,N=tc.length:=⟨_,rfl⟩;rw[←hN] at hn l2;have hN1:N≤1000000:=by rw[hN];exact h.sz.1
 obtain⟨ln,hln⟩:∃ v,v=ws.length:=⟨_,rfl⟩
 have HE:Hid (∀ m,TofPost P w ws (.returned (.slice A ln c)) (w.drewN m)):=Lib.hid fun m=>⟨A,c,by rw[hln],fun i x hi=>by
  obtain⟨ad,k1,k2,k3,k4⟩:=h2 i x hi;exact⟨ad,k1,⟨h.lt _ k2,.inl k2⟩,k3,k4⟩,below_dn _ _ _⟩
 rw[←hln] at h1;have b1:decide ((n:Int)<(N:Int))=true:=by simp;omega
 have b1':decide (n<N)=true:=by simp;omega
 clear h hw h2 hN hln;go_enter Tryd.func46,Tryd.ntmps46;go_wp2;go_ret;exact HE.out 0
theorem two_u (x y:Int):∀ u∈[Value.int .i64 x,Value.int .u64 y],u.oneCell'=true:=by
 intro u hu;simp only[List.mem_cons,List.not_mem_nil,or_false] at hu
 rcases hu with rfl | rfl <;> rfl
theorem tof_new (h:SrcAt P w L BB TA tp C all ab tc begun) (hk0:w.cell? ⟨KB,0,none⟩=some (.pointer (some ⟨L,0,none⟩))) {n k:Nat} {arr:List Nat} (ha:begun[k]?=some arr) (hne:arr≠[]) (hn:n=tc.length+k):
  Calls Tryd.prog 46 #[.pointer (some ⟨KB,0,none⟩),.int .i64 n] w (TofPost P w (newT arr)):=by
 obtain⟨p1,p2,p3⟩:=h.arr k arr ha hne;have hb:=h.beg k arr ha;rw[if_neg hne] at hb;have l2:=h.l2;have l3:=h.l3;obtain⟨z1,z2,z3,z4⟩:=h.sz;have hkC:k<C:=by rw[←z4];exact(List.getElem?_eq_some_iff.1 ha).1
 obtain⟨N,hN⟩:∃ N,N=tc.length:=⟨_,rfl⟩;rw[←hN] at hn l2 z1;have e0:(n:Int) - (N:Int)=(k:Int):=by omega
 have hn1:n≤2000000:=by omega
 have b1:decide ((n:Int)<(N:Int))=false:=by simp;omega
 have b1':decide (n<N)=false:=by simp;omega
 obtain⟨i0,hi0,hz0,hz1,hz2⟩:=info_parts info98;have HG:Hid (∀ wr,Below w.heap.size w wr→∀ (t ts:Nat),arr[t]?=some ts→wr.cell? ⟨ab k,t,none⟩=some (.int .u64 ts)):=Lib.hid fun wr hb t ts ht=>(hb.cell (p:=⟨ab k,t,none⟩) (h.lt _ p1)).trans (p3 t ts ht)
 have HA:=Lib.hid p2
 have HE:Hid (∀ v wr,RowTu w.heap.size w wr v (newT arr)→TofPost P w (newT arr) (.returned v) wr):=Lib.hid fun v wr hr=>by
  obtain⟨A,c,hv⟩:=row_slice hr.row;have hw:=wsAt_own hr.row hv;refine⟨A,c,by rw[hv],fun i x hi=>?_,hr.below⟩;obtain⟨ad,k1,k2,k3,k4⟩:=hw i x hi;refine⟨ad,k1,⟨k2,.inr ?_⟩,k3,k4⟩;subst hv;subst k1
  rcases hr.row.2 with ⟨hv,_⟩ | ⟨g,cap,cur,hv,hB,_⟩
  ·cases hv
  ·injection hv with h1 _ _
   injection h1 with h1;subst h1;exact hB
 clear h ha hne p1 p2 p3 z1 z4 hN hn
 suffices hs:Calls Tryd.prog 46 #[.pointer (some ⟨KB,0,none⟩),.int .i64 n] w fun e w'=>Hid (TofPost P w (newT arr) e w') from hs.mono fun e w' h=>h.out
 go_enter Tryd.func46,Tryd.ntmps46;go_wp2
 go_loopw [6,43] (fun v i wr=>∃ k:Nat,k≤all∧i= .int .i64 k∧RowTu w.heap.size w wr v (newT (arr.take k))) (fun _ i _=>all - (intOf i).toNat)
 case atStart=>exact⟨0,Nat.zero_le _,rfl,by rw[List.take_zero];exact Row1.nil 98 2 w⟩
 case round=>
  obtain⟨j,hj,rfl,hr⟩:=hrel;have HT:=Lib.hid hr;clear hr;by_cases a:j<all
  ·obtain⟨ts,hts⟩:=get_of_lt HA.out.symm a
   have c0:=HG.out wr HT.out.below j ts hts;have HX:=Lib.hid (newT_take hts);have HJ:=Lib.hid a;have hlen:(newT (arr.take j)).length≤1000000:=by have:=newT_len (arr.take j);rw[List.length_take] at this;omega
   have hsz:=HT.out.size;clear hts;by_cases h0:ts=0
   ·subst h0
    go_wp2
    go_roundw
    case rel=>exact⟨j+1,by have:=HJ.out;omega,by go_num,by rw[HX.out,if_pos rfl,List.append_nil];exact HT.out⟩
    case measure=>have:=HJ.out;simp[intOf];omega
   ·have b2:((ts:Int) != 0)=true:=by simp;omega
    have b2':(ts != 0)=true:=by simp;omega
    have HX2:Hid (newT (arr.take (j+1))=newT (arr.take j)++[(j,ts)]):=Lib.hid (by rw[HX.out,if_neg h0]);clear h0;go_wp2_with (at_builtin;refine wpList_append_own _ rfl (.tmp 50) (.tmp 54) 93 rfl w.heap.size 98 i0 (.agg #[.int .i64 0,.int .u64 0]) 2 16 Tryd.underlying93 hi0 hz0 hz1 hz2 rfl (by decide) _ _ _ rfl (HT.out.alloc _).row ⟨wr.heap.size,0,none⟩ 1 1 [.int .i64 j,.int .u64 ts] rfl rfl (fun i u hu=>new_cells wr 98 #[.int .i64 j,.int .u64 ts] i u hu) (two_u _ _) (by unfold maxLen;omega) (by omega) (HT.out.alloc _).size ?_;intro v2 w3 hown' hgrow _)
    go_roundw
    case rel=>exact⟨j+1,by have:=HJ.out;omega,by go_num,by rw[HX2.out];exact(HT.out.alloc _).turn (p:=(j,ts)) hown' hgrow⟩
    case measure=>have:=HJ.out;simp[intOf];omega
  ·have HX:Hid (arr.take j=arr):=Lib.hid (List.take_of_length_le (by have:=HA.out;omega))
   clear HG;go_wp2;go_ret;exact Lib.hid (HE.out _ _ (by rw[←HX.out];exact HT.out))
end
end
structure KM (X:Nat→Prop) (B KB TB L all:Nat) (vk:Value) (w:World) (to:List Nat) (K:Turns):Prop where
 k0:w.cell? ⟨KB,0,none⟩=some (.pointer (some ⟨L,0,none⟩))
 k1:w.cell? ⟨KB,1,none⟩=some (.slice (some ⟨TB,0,none⟩) all all)
 k2:w.cell? ⟨KB,2,none⟩=some vk
 f:∀ j,w.frozen? ⟨KB,j,none⟩=false
 to_:∀ (n m:Nat),to[n]?=some m→w.cell? ⟨TB,n,none⟩=some (.int .i64 m)
 ft:∀ j,w.frozen? ⟨TB,j,none⟩=false
 row:∃ cs,w.ownsRow B 93 1 vk K.length cs∧∀ (t:Nat) (ws:List (Nat × Nat)),K[t]?=some ws→∃ A c,cs[t]?=some (.slice A ws.length c)∧WsAt (fun b=>b<w.heap.size∧¬ X b∧b≠KB∧b≠TB∧vk.ownBlock≠some b) w A ws
 b1:B≤KB∧B≤TB∧KB≠TB∧KB<w.heap.size∧TB<w.heap.size
 b2:vk.ownBlock≠some KB∧vk.ownBlock≠some TB
 b3:¬ X KB∧¬ X TB∧∀ g,vk.ownBlock=some g→¬ X g∧g<w.heap.size∧B≤g
theorem cell_same {w w':World} {p:Addr} (h:w'.heap[p.block]?=w.heap[p.block]?):w'.cell? p=w.cell? p:=World.cell?_of_block (w:=w) h
theorem frozen_same {w w':World} {b:Nat} (h:w'.heap[b]?=w.heap[b]?) (j:Nat):w'.frozen? ⟨b,j,none⟩=w.frozen? ⟨b,j,none⟩:=by unfold World.frozen?;rw[h]
theorem ownsRow_same {w w':World} {B e s n:Nat} {v:Value} {xs:List Value} (h:w.ownsRow B e s v n xs) (hb:∀ g,v.ownBlock=some g→w'.heap[g]?=w.heap[g]?):w'.ownsRow B e s v n xs:=by
 refine⟨h.1,?_⟩
 rcases h.2 with h1 | ⟨g,cap,cur,hv,h2,h3,h4⟩
 ·exact .inl h1
 ·exact .inr ⟨g,cap,cur,hv,h2,by rw[hb g (by rw[hv];rfl)];exact h3,h4⟩
theorem KM.same {X:Nat→Prop} {B KB TB L all:Nat} {vk:Value} {w w':World} {to:List Nat} {K:Turns} (h:KM X B KB TB L all vk w to K) (hs:∀ k,k<w.heap.size→¬ X k→w'.heap[k]?=w.heap[k]?) (hz:w.heap.size≤w'.heap.size):
  KM (fun b=>X b∨w.heap.size≤b) B KB TB L all vk w' to K:=by
 obtain⟨a1,a2,a3,a4,a5⟩:=h.b1;obtain⟨b1,b2,b3⟩:=h.b3;have eK:=hs KB a4 b1;have eT:=hs TB a5 b2;obtain⟨cs,r1,r2⟩:=h.row
 refine⟨(cell_same (p:=⟨KB,_,none⟩) eK).trans h.k0,(cell_same (p:=⟨KB,_,none⟩) eK).trans h.k1,(cell_same (p:=⟨KB,_,none⟩) eK).trans h.k2,fun j=>(frozen_same eK j).trans (h.f j),fun n m hn=>(cell_same (p:=⟨TB,_,none⟩) eT).trans (h.to_ n m hn),fun j=>(frozen_same eT j).trans (h.ft j),⟨cs,ownsRow_same r1 (fun g hg=>hs g (b3 g hg).2.1 (b3 g hg).1),fun t ws ht=>?_⟩,
  ⟨a1,a2,a3,by omega,by omega⟩,h.b2,⟨fun h1=>h1.elim b1 (by omega),fun h1=>h1.elim b2 (by omega),fun g hg=>⟨fun h1=>h1.elim (b3 g hg).1 (by have:=(b3 g hg).2.1;omega),by have:=(b3 g hg).2.1;omega,(b3 g hg).2.2⟩⟩⟩
 obtain⟨A,c,h1,h2⟩:=r2 t ws ht;refine⟨A,c,h1,fun i x hi=>?_⟩;obtain⟨ad,k1,⟨k2,k3,k4⟩,k5,k6⟩:=h2 i x hi;have e:=hs ad.block k2 k3;refine⟨ad,k1,⟨by omega,fun h1=>h1.elim k3 (by omega),k4⟩,?_,?_⟩
 ·rw[←k5];exact cell_same (by rw[block_of_add];exact e)
 ·rw[←k6];exact cell_same (by show _=w.heap[(ad.add (i * 2)).block]?;rw[block_of_add];exact e)
theorem KM.less {X X':Nat→Prop} {B KB TB L all:Nat} {vk:Value} {w:World} {to:List Nat} {K:Turns} (h:KM X B KB TB L all vk w to K) (hx:∀ b,X' b→X b):KM X' B KB TB L all vk w to K:=by
 obtain⟨b1,b2,b3⟩:=h.b3;obtain⟨cs,r1,r2⟩:=h.row;refine⟨h.k0,h.k1,h.k2,h.f,h.to_,h.ft,⟨cs,r1,fun t ws ht=>?_⟩,h.b1,h.b2,⟨fun h=>b1 (hx _ h),fun h=>b2 (hx _ h),fun g hg=>⟨fun h=>(b3 g hg).1 (hx _ h),(b3 g hg).2⟩⟩⟩;obtain⟨A,c,h1,h2⟩:=r2 t ws ht;refine⟨A,c,h1,fun i x hi=>?_⟩;obtain⟨ad,k1,⟨k2,k3,k4⟩,k5,k6⟩:=h2 i x hi;exact⟨ad,k1,⟨k2,fun h=>k3 (hx _ h),k4⟩,k5,k6⟩
structure KFr (B KB TB:Nat) (vk:Value) (w:World) (vk':Value) (w':World):Prop where
 below:Below B w w'
 own:∀ k,k<w.heap.size→k≠KB→k≠TB→vk.ownBlock≠some k→w'.heap[k]?=w.heap[k]?
 vk:∀ g,vk'.ownBlock=some g→vk.ownBlock=some g∨w.heap.size≤g
theorem KFr.refl (B KB TB:Nat) (vk:Value) (w:World):KFr B KB TB vk w vk w:=⟨Below.refl _ _,fun _ _ _ _ _=>rfl,fun _ h=> .inl h⟩
theorem KFr.trans {B KB TB:Nat} {v v' v'':Value} {w w' w'':World} (h:KFr B KB TB v w v' w') (h':KFr B KB TB v' w' v'' w''):KFr B KB TB v w v'' w'':=by
 have hz:=h.below.size;refine⟨h.below.trans h'.below,fun k hk h1 h2 h3=>?_,fun g hg=>?_⟩
 ·rw[h'.own k (by omega) h1 h2 (fun h4=>(h.vk k h4).elim h3 (by omega)),h.own k hk h1 h2 h3]
 ·rcases h'.vk g hg with h1 | h1
  ·exact h.vk g h1
  ·exact .inr (by omega)
theorem KFr.beyond {B KB TB:Nat} {v v':Value} {w w' w'':World} (h:KFr B KB TB v w v' w') (hB:B≤w.heap.size) (h':Below w.heap.size w' w''):KFr B KB TB v w v' w'':=
 ⟨h.below.trans (h'.mono hB),fun k hk h1 h2 h3=>by rw[h'.block k hk];exact h.own k hk h1 h2 h3,h.vk⟩
def KeepPost (X Z:Nat→Prop) (B KB TB L all:Nat) (T:Turns) (w:World) (vk:Value) (K:Turns) (n:Nat) (e:Ending) (w':World):Prop:=
 ∃ (m:Nat) (vk':Value) (to':List Nat) (Y:Turns),e= .returned (.int .i64 m)∧KM X B KB TB L all vk' w' to' (K++Y)∧KInv Z T all to' (K++Y)∧KRes T (K++Y) n m∧KFr B KB TB vk w vk' w'
def KeepAt (P:Nat→Prop) (B KB TB L BB all:Nat) (TA:Addr) (tp C:Nat) (ab:Nat→Nat) (tc:Turns) (begun:List (List Nat)) (T:Turns) (n:Nat):Prop:=
 ∀ (X Z:Nat→Prop) (vk:Value) (w:World) (to:List Nat) (K:Turns),(∀ k,Z k→k=0∨n<k)→(∀ b,X b→b<w.heap.size)→KM X B KB TB L all vk w to K→SrcAt P w L BB TA tp C all ab tc begun→KInv Z T all to K→
  Calls Tryd.prog 37 #[.pointer (some ⟨KB,0,none⟩),.int .i64 (n:Nat)] w (KeepPost X Z B KB TB L all T w vk K n)
def AnewPost (X Z:Nat→Prop) (B KB TB L all:Nat) (T:Turns) (w:World) (vk:Value) (K:Turns) (ws:List (Nat × Nat)) (e:Ending) (w':World):Prop:=
 ∃ (v vk':Value) (to':List Nat) (Y:Turns) (kept:List (Nat × Nat)),e= .returned v∧w'.ownsRow w.heap.size 98 2 v kept.length (cellsU kept)∧KM (fun b=>X b∨v.ownBlock=some b) B KB TB L all vk' w' to' (K++Y)∧KInv Z T all to' (K++Y)∧NewI T (K++Y) ws kept∧KFr B KB TB vk w vk' w'
theorem KInv.keep_nil {Z:Nat→Prop} {T:Turns} {all:Nat} {to:List Nat} {K:Turns} (h:KInv Z T all to K):KInv Z T all to (K++[]):=by rw[List.append_nil];exact h
section
section
variable {X Z:Nat→Prop} {B KB TB L all:Nat} {T:Turns} {w:World} {vk:Value} {K:Turns}
def AnewAt (X Z:Nat→Prop) (B KB TB L all:Nat) (T:Turns) (w:World) (vk:Value) (K:Turns) (pre kept:List (Nat × Nat)) (v:Value) (wr:World):Prop:=
 ∃ (vkr:Value) (tor:List Nat) (Y:Turns),wr.ownsRow w.heap.size 98 2 v kept.length (cellsU kept)∧KM (fun b=>X b∨v.ownBlock=some b) B KB TB L all vkr wr tor (K++Y)∧KInv Z T all tor (K++Y)∧NewI T (K++Y) pre kept∧KFr B KB TB vk w vkr wr
def MidAt (X Z:Nat→Prop) (B KB TB L all:Nat) (T:Turns) (w:World) (vk:Value) (K:Turns) (pre kept:List (Nat × Nat)) (v:Value) (n m:Nat) (wr:World):Prop:=
 ∃ (vkr:Value) (tor:List Nat) (Y:Turns),wr.ownsRow w.heap.size 98 2 v kept.length (cellsU kept)∧KM (fun b=>X b∨v.ownBlock=some b) B KB TB L all vkr wr tor (K++Y)∧KInv Z T all tor (K++Y)∧NewI T (K++Y) pre kept∧KRes T (K++Y) n m∧KFr B KB TB vk w vkr wr
theorem row_lt {W:World} {b e s n:Nat} {v:Value} {xs:List Value} (h:W.ownsRow b e s v n xs) {g:Nat} (hg:v.ownBlock=some g):g<W.heap.size∧b≤g:=by
 rcases h.2 with ⟨hv,_⟩ | ⟨g',cap,cur,hv,h2,h3,_⟩
 ·rw[hv] at hg;simp[Value.ownBlock] at hg
 ·have:g'=g:=by rw[hv] at hg;simpa[Value.ownBlock] using hg
  subst this;exact⟨(Array.getElem?_eq_some_iff.1 h3).1,h2⟩
theorem mid_below {pre kept:List (Nat × Nat)} {v:Value} {n m:Nat} {W W':World} (hw:w.heap.size≤W.heap.size) (hB:B≤w.heap.size) (h:MidAt X Z B KB TB L all T w vk K pre kept v n m W) (hb:Below W.heap.size W W'):MidAt X Z B KB TB L all T w vk K pre kept v n m W':=by
 obtain⟨vkr,tor,Y,h1,h2,h3,h4,h5,h6⟩:=h;exact⟨vkr,tor,Y,below_kept h1 hb,(h2.same (fun k hk _=>hb.block k hk) hb.size).less (fun b h=> .inl h),h3,h4,h5,h6.beyond hB (hb.mono hw)⟩
theorem mid_of {pre kept:List (Nat × Nat)} {v:Value} {n:Nat} {vkr:Value} {tor:List Nat} {Y:Turns} {W W':World} {e:Ending} (hrow:W.ownsRow w.heap.size 98 2 v kept.length (cellsU kept)) (hkm:KM (fun b=>X b∨v.ownBlock=some b) B KB TB L all vkr W tor (K++Y))
  (hki:KInv Z T all tor (K++Y)) (hn:NewI T (K++Y) pre kept) (hf:KFr B KB TB vk w vkr W) (hp:KeepPost (fun b=>X b∨v.ownBlock=some b) Z B KB TB L all T W vkr (K++Y) n e W'):
  ∃ m:Nat,e= .returned (.int .i64 m)∧MidAt X Z B KB TB L all T w vk K pre kept v n m W'∧(∀ k,k<W.heap.size→k≠KB→k≠TB→vkr.ownBlock≠some k→W'.heap[k]?=W.heap[k]?)∧W.heap.size≤W'.heap.size:=by
 obtain⟨m,vk',to',Y',h1,h2,h3,h4,h5⟩:=hp;rw[List.append_assoc] at h2 h3 h4;refine⟨m,h1,⟨vk',to',Y++Y',?_,h2,h3,by rw[←List.append_assoc];exact hn.ext hki.turns,h4,hf.trans h5⟩,h5.own,h5.below.size⟩;refine ownsRow_same hrow fun g hg=>?_
 obtain⟨b1,b2,b3⟩:=hkm.b3;exact h5.own g (row_lt hrow hg).1 (fun e=>b1 (.inr (by rw[←e];exact hg))) (fun e=>b2 (.inr (by rw[←e];exact hg))) (fun e=>(b3 g e).1 (.inr hg))
theorem mid_ins {pre kept:List (Nat × Nat)} {v v':Value} {y:Nat × Nat} {m p:Nat} {W W':World} (hw:w.heap.size≤W.heap.size) (hB:B≤w.heap.size) (h:MidAt X Z B KB TB L all T w vk K pre kept v y.1 m W) (h2:y.2<512) (h3:y.2≠0)
  (hr:W'.ownsRow w.heap.size 98 2 v' (kept.length+1) (cellsU (insAt kept p (m,y.2)))) (hg:W.grownBy W' v.ownBlock) (hv:∀ g,v'.ownBlock=some g→v.ownBlock=some g∨W.heap.size≤g):AnewAt X Z B KB TB L all T w vk K (pre++[y]) (insAt kept p (m,y.2)) v' W':=by
 obtain⟨vkr,tor,Y,h1,k2,k3,k4,k5,k6⟩:=h;refine⟨vkr,tor,Y,by rw[insAt_length];exact hr,?_,k3,k4.ins k5 h2 h3 p,k6.beyond hB ?_⟩
 ·refine(k2.same (fun k hk hx=>hg.block k hk (fun e=>hx (.inr e.symm))) hg.size).less fun b hb=>?_
  rcases hb with hb | hb
  ·exact .inl (.inl hb)
  ·rcases hv b hb with h | h
   ·exact .inl (.inr h)
   ·exact .inr h
 ·exact(Below.refl _ _).grown hg hw fun k hk=>(row_lt h1 hk).2
theorem set_u {kept:List (Nat × Nat)} {p:Nat} {x:Nat × Nat} (hx:kept[p]?=some x) (z:Nat):cellsU (kept.set p (x.1,z))=(cellsU kept).set (p * 2+1) (.int .u64 z):=by
 induction kept generalizing p with
 | nil=>simp at hx
 | cons a r ih=>
   cases p with
   | zero=>injection hx with hx;subst hx;rfl
   | succ p=>
     have:=ih (p:=p) (by simpa using hx);rw[List.set_cons_succ,show (p+1) * 2+1=p * 2+1+1+1 by omega];show [Value.int .i64 a.1,Value.int .u64 a.2]++cellsU (r.set p (x.1,z))=([Value.int .i64 a.1,Value.int .u64 a.2]++cellsU r).set (p * 2+1+1+1) _;rw[this];rfl
theorem mid_met {pre kept:List (Nat × Nat)} {g cap:Nat} {y x:Nat × Nat} {m p:Nat} {W:World} (hB:B≤w.heap.size) (h:MidAt X Z B KB TB L all T w vk K pre kept (.slice (some ⟨g,0,none⟩) kept.length cap) y.1 m W) (h2:y.2<512) (hx:kept[p]?=some x) (hxm:x.1=m):
  AnewAt X Z B KB TB L all T w vk K (pre++[y]) (kept.set p (x.1,x.2 ||| y.2)) (.slice (some ⟨g,0,none⟩) kept.length cap) (W.setCell ⟨g,p * 2+1,none⟩ (.int .u64 (x.2 ||| y.2:Nat))):=by
 obtain⟨vkr,tor,Y,h1,k2,k3,k4,k5,k6⟩:=h;have hg:=(row_lt h1 (g:=g) rfl);have hp:=(List.getElem?_eq_some_iff.1 hx).1;have hz:(W.setCell ⟨g,p * 2+1,none⟩ (.int .u64 (x.2 ||| y.2:Nat))).heap.size=W.heap.size:=by simp
 subst hxm;refine⟨vkr,tor,Y,?_,?_,k3,k4.met k5 h2 hx,k6.beyond hB ?_⟩
 ·rw[List.length_set,set_u hx]
  exact(h1.stored (p * 2+1) (.int .u64 (x.2 ||| y.2:Nat))).1
 ·refine(k2.same (fun k hk hx=>Below.heap_setCell _ _ _ _ (fun e=>hx (.inr (by rw[e];rfl)))) (by omega)).less fun b hb=> .inl hb
 ·exact(Below.refl _ _).setCell hg.2 _
end
end
section
section
variable {X Z P:Nat→Prop} {B KB TB L BB all tp C:Nat} {T:Turns} {w:World} {vk:Value} {K:Turns} {TA:Addr} {ab:Nat→Nat} {tc:Turns} {begun:List (List Nat)}
theorem keep_within {y:Nat × Nat} (hZ:∀ k,Z k→k=0∨y.1<k) (hX:∀ b,X b→b<w.heap.size) (hs:SrcAt P w L BB TA tp C all ab tc begun) (hP:∀ b,P b→b<B) (hB:B≤w.heap.size) (HK:KeepAt P B KB TB L BB all TA tp C ab tc begun T y.1)
  {pre kept:List (Nat × Nat)} {v:Value} {wr:World} (hz:w.heap.size≤wr.heap.size) (h:AnewAt X Z B KB TB L all T w vk K pre kept v wr):
  Calls Tryd.prog 37 #[.pointer (some ⟨KB,0,none⟩),.int .i64 (y.1:Nat)] (wr.alloc (.cells #[.int .i64 (y.1:Nat),.int .u64 (y.2:Nat)] 98)) fun e w'=>∃ m:Nat,e= .returned (.int .i64 m)∧MidAt X Z B KB TB L all T w vk K pre kept v y.1 m w'∧
   w'.cell? ⟨wr.heap.size,0,none⟩=some (.int .i64 (y.1:Nat))∧w'.cell? ⟨wr.heap.size,1,none⟩=some (.int .u64 (y.2:Nat))∧wr.heap.size+1≤w'.heap.size:=by
 obtain⟨W,hW⟩:∃ W,W=wr.alloc (.cells #[.int .i64 (y.1:Nat),.int .u64 (y.2:Nat)] 98):=⟨_,rfl⟩;have hb:Below wr.heap.size wr W:=by rw[hW];exact one_box wr _
 have hnew:W.heap[wr.heap.size]?=some (.cells #[.int .i64 (y.1:Nat),.int .u64 (y.2:Nat)] 98):=by rw[hW];exact heap_alloc_new wr _
 have hsz:W.heap.size=wr.heap.size+1:=by rw[hW];simp
 rw[←hW];obtain⟨vkr,tor,Y,g1,g2,h3,h4,g5⟩:=h;have gb:=g2.b1;have gv:=g2.b3.2.2;have h1:=below_kept g1 hb;have h2:=(g2.same (fun k hk _=>hb.block k hk) hb.size).less (X':=fun b=>X b∨v.ownBlock=some b) (fun b h=> .inl h);have h5:=g5.beyond hB (hb.mono hz);refine(HK (fun b=>X b∨v.ownBlock=some b) Z vkr W tor (K++Y) hZ ?_ h2 (hs.keep (fun a ha=>?_) h5.below.size) h3).mono ?_
 ·intro b hb
  rcases hb with hb | hb
  ·have:=hX b hb;omega
  ·exact(row_lt h1 hb).1
 ·exact h5.below.cell (p:=a) (hP _ ha)
 ·intro e w' hp
  obtain⟨m,e1,e2,e3,e4⟩:=mid_of h1 h2 h3 h4 h5 hp
  have hk:w'.heap[wr.heap.size]?=some (.cells #[.int .i64 (y.1:Nat),.int .u64 (y.2:Nat)] 98):=by
   rw[e3 wr.heap.size (by omega) (by omega) (by omega) (fun e=>by have:=(gv _ e).2.1;omega),hnew]
  exact⟨m,e1,e2,by rw[row_cell hk];rfl,by rw[row_cell hk];rfl,by omega⟩
theorem anew_any {to:List Nat} {A:Option Addr} {c:Nat} {ws:List (Nat × Nat)} (hZ:∀ y,y∈ws→∀ k,Z k→k=0∨y.1<k) (hX:∀ b,X b→b<w.heap.size) (hm:KM X B KB TB L all vk w to K) (hs:SrcAt P w L BB TA tp C all ab tc begun) (hi:KInv Z T all to K) (hP:∀ b,P b→b<B) (hB:B≤w.heap.size)
  (hW:WsAt (fun b=>b<w.heap.size∧b≠KB∧b≠TB∧vk.ownBlock≠some b) w A ws) (hl:ws.length≤1000000) (hy:∀ y,y∈ws→y.2<512∧y.2≠0) (HK:∀ y,y∈ws→KeepAt P B KB TB L BB all TA tp C ab tc begun T y.1):
  Calls Tryd.prog 45 #[.pointer (some ⟨KB,0,none⟩),.slice A ws.length c] w (AnewPost X Z B KB TB L all T w vk K ws):=by
 have HSTART:Hid (AnewAt X Z B KB TB L all T w vk K [] [] (.slice none 0 0) w):=Lib.hid ⟨vk,to,[],World.ownsRow_nil _ _ _ _,by rw[List.append_nil];exact hm.less (fun b h=>h.elim id (fun h=>by simp[Value.ownBlock] at h)),hi.keep_nil,NewI.nil _ _,KFr.refl _ _ _ _ _⟩
 have HWR:Hid (∀ pre kept v wr,AnewAt X Z B KB TB L all T w vk K pre kept v wr→w.heap.size≤wr.heap.size∧WsAt (fun _=>True) wr A ws∧kept.length≤pre.length):=Lib.hid fun pre kept v wr h=>by
  obtain⟨vkr,tor,Y,g1,g2,h3,h4,g5⟩:=h;refine⟨g5.below.size,fun i x hi=>?_,h4.len⟩;obtain⟨ad,k1,⟨k2,k3,k4,k5⟩,k6,k7⟩:=hW i x hi;have e:=g5.own ad.block k2 k3 k4 k5;exact⟨ad,k1,trivial,by rw[←k6];exact cell_same (by rw[block_of_add];exact e),by rw[←k7];exact cell_same (by show _=w.heap[(ad.add (i * 2)).block]?;rw[block_of_add];exact e)⟩
 have HC:Hid (∀ y,y∈ws→∀ pre kept v wr,AnewAt X Z B KB TB L all T w vk K pre kept v wr→Calls Tryd.prog 37 #[.pointer (some ⟨KB,0,none⟩),.int .i64 (y.1:Nat)] (wr.alloc (.cells #[.int .i64 (y.1:Nat),.int .u64 (y.2:Nat)] 98)) fun e w'=>∃ m:Nat,e= .returned (.int .i64 m)∧MidAt X Z B KB TB L all T w vk K pre kept v y.1 m w'∧
  w'.cell? ⟨wr.heap.size,0,none⟩=some (.int .i64 (y.1:Nat))∧w'.cell? ⟨wr.heap.size,1,none⟩=some (.int .u64 (y.2:Nat))∧wr.heap.size+1≤w'.heap.size):=Lib.hid fun y hy pre kept v wr h=>keep_within (hZ y hy) hX hs hP hB (HK y hy) (HWR.out _ _ _ _ h).1 h
 have HEND:Hid (∀ kept v wr,AnewAt X Z B KB TB L all T w vk K ws kept v wr→AnewPost X Z B KB TB L all T w vk K ws (.returned v) wr):=Lib.hid fun kept v wr h=>by
  obtain⟨vkr,tor,Y,g1,g2,h3,h4,g5⟩:=h;exact⟨v,vkr,tor,Y,kept,rfl,g1,g2,h3,h4,g5⟩
 obtain⟨n,hn⟩:∃ n,n=ws.length:=⟨_,rfl⟩;have HN:=Lib.hid hn;have HY:=Lib.hid hy;have HB:=Lib.hid hB;rw[←hn] at hl ⊢;clear hZ hX hm hs hi hP hB hW hy HK hn
 suffices hs:Calls Tryd.prog 45 #[.pointer (some ⟨KB,0,none⟩),.slice A n c] w fun e w'=>Hid (AnewPost X Z B KB TB L all T w vk K ws e w') from hs.mono fun e w' h=>h.out
 go_enter Tryd.func45,Tryd.ntmps45;go_wp2
 go_loopw [5,13] (fun v i wr=>∃ j kept,j≤n∧i= .int .i64 (j:Nat)∧AnewAt X Z B KB TB L all T w vk K (ws.take j) kept v wr) (fun _ i _=>n - (intOf i).toNat)
 case atStart=>exact⟨0,[],Nat.zero_le _,rfl,by rw[List.take_zero];exact HSTART.out⟩
 case round=>
  obtain⟨j,kept,hj,rfl,hat⟩:=hrel;have HAT:=Lib.hid hat;obtain⟨hz,hwr,hlen⟩:=HWR.out _ _ _ _ hat;by_cases a:j<n
  ·obtain⟨y,hyj⟩:=get_of_lt HN.out a
   obtain⟨ad,rfl,_,d0,d1⟩:=hwr j y hyj;have HCL:=Lib.hid (HC.out y (List.mem_of_getElem? hyj) _ _ _ _ hat);have HYJ:=Lib.hid hyj;have HJ:=Lib.hid a;have HZ:=Lib.hid hz;clear hyj hat hwr hz;go_wp2_with (go_at_call 37;((with_reducible refine(HCL.out).mono ?_));rintro e w2 ⟨m,rfl,hmid,q0,q1,hsz⟩;have HMID:=Lib.hid hmid;have HSZ:=Lib.hid hsz;clear hmid hsz);have HTK:Hid (ws.take (j+1)=ws.take j++[y]):=Lib.hid (by rw[List.take_add_one,HYJ.out];rfl);have HYB:=Lib.hid (HY.out y (List.mem_of_getElem? HYJ.out));have HRW:Hid (∃ A c,u5= .slice A kept.length c):=Lib.hid (by obtain⟨_,_,_,hrow,_⟩:=HMID.out;exact row_slice hrow);obtain⟨Av,cv,hv⟩:=HRW.out;subst hv;clear HRW;have hkl:kept.length≤1000000:=by rw[List.length_take] at hlen;omega
   have HWS:Hid (WsAt (Lt w2.heap.size) w2 Av kept):=Lib.hid (by obtain⟨_,_,_,hrow,_⟩:=HMID.out;exact wsAt_own hrow rfl);refine(binSearch_any Av cv m kept w2 HWS.out hkl).mono ?_;rintro e w3 ⟨p,f,rfl,hbin,hb⟩;have HBIN:=Lib.hid hbin;have HM3:=Lib.hid (mid_below (by have:=HZ.out;have:=HSZ.out;omega) HB.out HMID.out hb);have q2:=(hb.cell (p:=⟨wr.heap.size,0,none⟩) (show wr.heap.size<w2.heap.size by have:=HSZ.out;omega)).trans q0;have q3:=(hb.cell (p:=⟨wr.heap.size,1,none⟩) (show wr.heap.size<w2.heap.size by have:=HSZ.out;omega)).trans q1;have HZ3:Hid (w.heap.size≤w3.heap.size∧wr.heap.size<w3.heap.size):=Lib.hid (by have:=HZ.out;have:=HSZ.out;have:=hb.size;omega);have hrow3:w3.ownsRow w.heap.size 98 2 (.slice Av kept.length cv) kept.length (cellsU kept):=by obtain⟨_,_,_,hrow,_⟩:=HM3.out;exact hrow
   clear hbin hb q0 q1
   cases f with
   | true=>
     obtain⟨x,hx,hxm⟩:=HBIN.out.2 rfl;have hpk:=(List.getElem?_eq_some_iff.1 hx).1;obtain⟨_,x2⟩:=cellsU_at hx;have hx512:x.2<512:=by obtain⟨_,_,_,_,_,_,hni,_⟩:=HM3.out;exact(hni.ok x (List.mem_of_getElem? hx)).2.1
     have hy512:=HYB.out.1;have hor:=or64 x.2 y.2 (by omega) (by omega) (v:=x.2 ||| y.2) rfl
     rcases hrow3.2 with ⟨_,h0⟩ | ⟨g,cap,cur,hv,_,hg,_⟩
     ·omega
     injection hv with hv _ hcv
     subst hv;subst hcv;have k1:=hrow3.cells (g:=g) rfl _ _ x2;rw[Addr.add_lit,Nat.zero_add] at k1;have k2:=row_free hg (p * 2+1)
     have HE:Hid (∀ k,AnewAt X Z B KB TB L all T w vk K (ws.take (j+1)) (kept.set p (x.1,x.2 ||| y.2)) (.slice (some ⟨g,0,none⟩) kept.length cv) ((w3.drewN k).setCell ⟨g,p * 2+1,none⟩ (.int .u64 (x.2 ||| y.2:Nat)))):=Lib.hid fun k=>by
      rw[HTK.out];exact mid_met HB.out (mid_below HZ3.out.1 HB.out HM3.out (below_dn _ _ _)) HYB.out.1 hx hxm
     obtain⟨z,hz⟩:∃ z,z=x.2 ||| y.2:=⟨_,rfl⟩
     obtain⟨xx,hxx⟩:∃ z,z=x.2:=⟨_,rfl⟩;obtain⟨kl,hkl2⟩:∃ v,v=kept.length:=⟨_,rfl⟩;rw[←hz,←hkl2] at HE;rw[←hz,←hxx] at hor;rw[←hxx] at k1;rw[←hkl2] at hkl hpk ⊢;clear hrow3 hx hxm x2 hx512 hy512 hz hxx hkl2 hlen hg;go_wp2;refine wp_region_quiet_tail 10 (by kernel_rfl) (by kernel_rfl) ?_;simp only[List.take_succ_cons,List.take_zero,List.drop_succ_cons,List.drop_zero]
     repeat (go_big_quiet_step (fail))
     refine wpQuiet_nil ?_;go_wp2
     go_roundw
     case rel=>exact⟨j+1,_,by have:=HJ.out;omega,by go_num,HE.out 1⟩
     case measure=>have:=HJ.out;simp[intOf];omega
   | false=>
     have HI:Hid (Calls Tryd.prog 66 #[.slice Av kept.length cv,.int .i64 (p:Nat),.slice (some ⟨w3.heap.size,0,none⟩) 1 1] (w3.alloc (.cells #[.int .i64 (m:Nat),.int .u64 (y.2:Nat)] 98)) fun e w4=>∃ v',e= .returned v'∧AnewAt X Z B KB TB L all T w vk K (ws.take (j+1)) (insAt kept p (m,y.2)) v' w4):=Lib.hid (by
      have hb:=one_box w3 (.cells #[.int .i64 (m:Nat),.int .u64 (y.2:Nat)] 98);have hnew:=heap_alloc_new w3 (.cells #[.int .i64 (m:Nat),.int .u64 (y.2:Nat)] 98);have hzz:=HZ3.out;refine(insert_any (B:=w.heap.size) (x:=(m,y.2)) (below_kept hrow3 hb) (by simp;omega) HBIN.out.1 hkl hnew (fun g hg=>by have:=(row_lt hrow3 hg).1;omega) (by rw[row_cell hnew];rfl) (by rw[row_cell hnew];rfl)).mono ?_;rintro e w4 ⟨v',rfl,g1,g2,g3⟩;refine⟨v',rfl,?_⟩;rw[HTK.out];exact mid_ins (by simp;omega) HB.out (mid_below (by omega) HB.out HM3.out hb) HYB.out.1 HYB.out.2 g1 g2 g3)
     obtain⟨kl,hkl2⟩:∃ v,v=kept.length:=⟨_,rfl⟩;rw[←hkl2] at HI hkl ⊢;clear hrow3 hkl2 hlen;go_wp2_with (go_at_call 66;((with_reducible refine(HI.out).mono ?_));rintro e w4 ⟨v',rfl,hat'⟩;have HAT':=Lib.hid hat';clear hat')
     go_roundw
     case rel=>exact⟨j+1,_,by have:=HJ.out;omega,by go_num,HAT'.out⟩
     case measure=>have:=HJ.out;simp[intOf];omega
  ·have HX:Hid (ws.take j=ws):=Lib.hid (List.take_of_length_le (by have:=HN.out;omega))
   clear hwr hz hat;go_wp2;go_ret;exact Lib.hid (HEND.out _ _ _ (by rw[←HX.out];exact HAT.out))
end
end
section
section
variable {X Z:Nat→Prop} {B KB TB L all:Nat} {T:Turns} {w:World} {vk:Value} {K:Turns} {to:List Nat}
theorem km_turns (h:KM X B KB TB L all vk w to K) (h0:0<K.length):∃ g cap,vk= .slice (some ⟨g,0,none⟩) K.length cap∧TurnsAt (Lt w.heap.size) w ⟨g,0,none⟩ K:=by
 obtain⟨cs,r1,r2⟩:=h.row
 rcases r1.2 with ⟨_,e⟩ | ⟨g,cap,cur,hv,hB,hg,_⟩
 ·omega
 ·refine⟨g,cap,hv,(Array.getElem?_eq_some_iff.1 hg).1,fun t ws ht=>?_⟩
  obtain⟨A,c,h1,h2⟩:=r2 t ws ht;have:=r1.cells (g:=g) (by rw[hv];rfl) _ _ h1
  exact⟨A,c,this,fun i x hi=>by
   obtain⟨ad,k1,⟨k2,_⟩,k3,k4⟩:=h2 i x hi;exact⟨ad,k1,k2,k3,k4⟩⟩
theorem KM.set_to (h:KM X B KB TB L all vk w to K) {n m:Nat} (hn:n<to.length):KM X B KB TB L all vk (w.setCell ⟨TB,n,none⟩ (.int .i64 m)) (to.set n m) K:=by
 obtain⟨a1,a2,a3,a4,a5⟩:=h.b1;have hz:(w.setCell ⟨TB,n,none⟩ (.int .i64 m)).heap.size=w.heap.size:=by simp
 have ho:∀ k,k≠TB→(w.setCell ⟨TB,n,none⟩ (.int .i64 m)).heap[k]?=w.heap[k]?:=fun k hk=>Below.heap_setCell _ _ _ _ hk
 obtain⟨cs,r1,r2⟩:=h.row;have hfr:=h.ft;refine⟨(cell_same (p:=⟨KB,_,none⟩) (ho KB a3)).trans h.k0,(cell_same (p:=⟨KB,_,none⟩) (ho KB a3)).trans h.k1,(cell_same (p:=⟨KB,_,none⟩) (ho KB a3)).trans h.k2,fun j=>(frozen_same (ho KB a3) j).trans (h.f j),fun k q hq=>?_,fun j=>?_,⟨cs,ownsRow_same r1 (fun g hg=>ho g (fun e=>h.b2.2 (by rw[hg,e]))),fun t ws ht=>?_⟩,⟨a1,a2,a3,by omega,by omega⟩,h.b2,⟨h.b3.1,h.b3.2.1,fun g hg=>by rw[hz];exact h.b3.2.2 g hg⟩⟩
 ·by_cases e:n=k
  ·subst e
   rw[List.getElem?_set_self hn] at hq;injection hq with hq;subst hq
   exact World.cell?_setCell_same w _ _ (h.to_ n _ (List.getElem?_eq_getElem hn))
  ·rw[List.getElem?_set_ne e] at hq
   rw[World.cell?_setCell_other w _ _ _ (by intro e2;injection e2 with _ e3;exact e e3)];exact h.to_ k q hq
 ·rw[World.frozen?_setCell];exact h.ft j
 ·obtain⟨A,c,h1,h2⟩:=r2 t ws ht
  refine⟨A,c,h1,fun i x hi=>?_⟩;obtain⟨ad,k1,⟨k2,k3,k4,k5,k6⟩,k7,k8⟩:=h2 i x hi;have e:=ho ad.block k5;exact⟨ad,k1,⟨by omega,k3,k4,k5,k6⟩,by rw[←k7];exact cell_same (by rw[block_of_add];exact e),by rw[←k8];exact cell_same (by show _=w.heap[(ad.add (i * 2)).block]?;rw[block_of_add];exact e)⟩
theorem KM.push {X':Nat→Prop} {g cap:Nat} {kept:List (Nat × Nat)} {A:Option Addr} {c:Nat} {W:World} {cs:List Value} {vk':Value} (h:KM X' B KB TB L all vk w to K) (hX:∀ b,X b→X' b) (hcs:w.ownsRow B 93 1 vk K.length cs∧∀ (t:Nat) (ws:List (Nat × Nat)),K[t]?=some ws→∃ A c,cs[t]?=some (.slice A ws.length c)∧WsAt (fun b=>b<w.heap.size∧¬ X' b∧b≠KB∧b≠TB∧vk.ownBlock≠some b) w A ws)
  (hA:WsAt (fun b=>b<w.heap.size∧¬ X b∧b≠KB∧b≠TB∧vk.ownBlock≠some b) w A kept)
  (ho:W.ownsRow B 93 1 vk' (K.length+1) (cs++[.slice A kept.length c])) (hg:w.grownBy W vk.ownBlock) (hv:vk'= .slice (some ⟨g,0,none⟩) (K.length+1) cap) (hgg:vk.ownBlock=some g∨g=w.heap.size) (hXw:∀ b,X b→b<w.heap.size):
  KM X B KB TB L all vk' (W.setCell ⟨KB,2,none⟩ vk') to (K++[kept]):=by
 obtain⟨a1,a2,a3,a4,a5⟩:=h.b1;obtain⟨b1,b2,b3⟩:=h.b3;have hsz:=hg.size;have hz:(W.setCell ⟨KB,2,none⟩ vk').heap.size=W.heap.size:=by simp
 have hW:∀ k,k<w.heap.size→vk.ownBlock≠some k→W.heap[k]?=w.heap[k]?:=fun k hk hne=>hg.block k hk (fun e=>hne e.symm)
 have hset:∀ k,k≠KB→(W.setCell ⟨KB,2,none⟩ vk').heap[k]?=W.heap[k]?:=fun k hk=>Below.heap_setCell _ _ _ _ hk
 have hno:∀ k,k<w.heap.size→vk.ownBlock≠some k→g≠k:=fun k hk hne e=>by
  subst e
  rcases hgg with h1 | h1
  ·exact hne h1
  ·omega
 have hvo:∀ k,vk'.ownBlock=some k→g=k:=fun k hk=>by rw[hv] at hk;simpa[Value.ownBlock] using hk
 have gK:=hno KB a4 h.b2.1;have gT:=hno TB a5 h.b2.2;have eK:=hW KB a4 h.b2.1;have eT:(W.setCell ⟨KB,2,none⟩ vk').heap[TB]?=w.heap[TB]?:=(hset TB (fun e=>a3 e.symm)).trans (hW TB a5 h.b2.2);have hgW:g<W.heap.size∧B≤g:=row_lt ho (by rw[hv];rfl);have cellK:∀ j,W.cell? ⟨KB,j,none⟩=w.cell? ⟨KB,j,none⟩:=fun j=>cell_same (p:=⟨KB,j,none⟩) eK
 have keepW:∀ {A:Option Addr} {ws:List (Nat × Nat)} {P:Nat→Prop},(∀ b,P b→b<w.heap.size∧¬ X b∧b≠KB∧b≠TB∧vk.ownBlock≠some b)→WsAt P w A ws→WsAt (fun b=>b<(W.setCell ⟨KB,2,none⟩ vk').heap.size∧¬ X b∧b≠KB∧b≠TB∧vk'.ownBlock≠some b) (W.setCell ⟨KB,2,none⟩ vk') A ws:=by
  intro A ws P hP hw i x hi;obtain⟨ad,k1,k2,k3,k4⟩:=hw i x hi;obtain⟨q1,q2,q3,q4,q5⟩:=hP _ k2;have e:=(hset ad.block q3).trans (hW ad.block q1 q5);refine⟨ad,k1,⟨by omega,q2,q3,q4,fun e2=>?_⟩,by rw[←k3];exact cell_same (by rw[block_of_add];exact e),by rw[←k4];exact cell_same (by show _=w.heap[(ad.add (i * 2)).block]?;rw[block_of_add];exact e)⟩;rw[hv] at e2;have:g=ad.block:=by simpa[Value.ownBlock] using e2
  exact hno _ q1 q5 this
 refine⟨?_,?_,?_,fun j=>?_,fun n m hn=>(cell_same (p:=⟨TB,n,none⟩) eT).trans (h.to_ n m hn),fun j=>(frozen_same eT j).trans (h.ft j),⟨cs++[.slice A kept.length c],?_,fun t ws ht=>?_⟩,⟨a1,a2,a3,by omega,by omega⟩,⟨?_,?_⟩,⟨fun h=>b1 (hX _ h),fun h=>b2 (hX _ h),fun g' hg'=>?_⟩⟩
 ·rw[World.cell?_setCell_other W _ _ _ (by intro e;injection e with _ e;cases e),cellK];exact h.k0
 ·rw[World.cell?_setCell_other W _ _ _ (by intro e;injection e with _ e;cases e),cellK];exact h.k1
 ·exact World.cell?_setCell_same W _ _ ((cellK 2).trans h.k2)
 ·rw[World.frozen?_setCell];exact(frozen_same eK j).trans (h.f j)
 ·rw[List.length_append];exact ownsRow_same ho (fun g' hg'=>hset g' (fun e=>gK ((hvo g' hg').trans e)))
 ·by_cases hlt:t<K.length
  ·rw[List.getElem?_append_left hlt] at ht
   obtain⟨A',c',h1,h2⟩:=hcs.2 t ws ht;refine⟨A',c',?_,keepW (fun b hb=>⟨hb.1,fun h=>hb.2.1 (hX _ h),hb.2.2⟩) h2⟩;rw[List.getElem?_append_left (List.getElem?_eq_some_iff.1 h1).1];exact h1
  ·have h2:=(List.getElem?_eq_some_iff.1 ht).1
   simp only[List.length_append,List.length_singleton] at h2;have h3:t=K.length:=by omega
   subst h3;rw[List.getElem?_append_right (Nat.le_refl _)] at ht;simp only[Nat.sub_self,List.getElem?_cons_zero] at ht;injection ht with ht;subst ht
   have hl:cs.length=K.length:=by have:=hcs.1.1;simpa using this
   refine⟨A,c,?_,keepW (fun b hb=>hb) hA⟩;rw[List.getElem?_append_right (by omega),hl];simp
 ·rw[hv];intro e;exact gK (by simpa[Value.ownBlock] using e)
 ·rw[hv];intro e;exact gT (by simpa[Value.ownBlock] using e)
 ·rw[hv] at hg'
  have:g=g':=by simpa[Value.ownBlock] using hg'
  subst this;refine⟨fun hx=>?_,by omega,hgW.2⟩
  rcases hgg with h1 | h1
  ·exact(b3 g h1).1 (hX _ hx)
  ·have:=hXw g hx;omega
end
end
section
section
variable {X Z P:Nat→Prop} {B KB TB L BB all tp C:Nat} {T:Turns} {w:World} {vk:Value} {K:Turns} {to:List Nat} {TA:Addr} {ab:Nat→Nat} {tc:Turns} {begun:List (List Nat)}
theorem keep_old {n m:Nat} (hn:to[n]?=some m) (h0:n=0∨m≠0) (hm:KM X B KB TB L all vk w to K) (hi:KInv Z T all to K) (hT:T[0]?=some []):
  Calls Tryd.prog 37 #[.pointer (some ⟨KB,0,none⟩),.int .i64 n] w (KeepPost X Z B KB TB L all T w vk K n):=by
 have k1:=hm.k1;have kn:=hm.to_ n m hn;have hlt:n<all:=by rw[←hi.len];exact(List.getElem?_eq_some_iff.1 hn).1
 have HE:Hid (∀ W,Below w.heap.size w W→KeepPost X Z B KB TB L all T w vk K n (.returned (.int .i64 m)) W):=Lib.hid fun W hb=>by
  refine⟨m,vk,to,[],rfl,by rw[List.append_nil];exact(hm.same (fun k hk _=>hb.block k hk) hb.size).less (fun b h=> .inl h),hi.keep_nil,?_,(KFr.refl _ _ _ _ _).beyond (by have:=hm.b1;omega) hb⟩;rw[List.append_nil];by_cases h:n=0
  ·subst h
   rw[hi.zero 0 hi.z0] at hn;injection hn with hn;subst hn
   exact KRes.zero hi.turns hT
  ·have hm0:m≠0:=h0.resolve_left h
   obtain⟨a,b⟩:=hi.of n m hn hm0;exact⟨a,fun _=>hm0,b⟩
 suffices hs:Calls Tryd.prog 37 #[.pointer (some ⟨KB,0,none⟩),.int .i64 n] w fun e w'=>Hid (KeepPost X Z B KB TB L all T w vk K n e w') from hs.mono fun e w' h=>h.out
 by_cases hz:n=0
 ·subst hz
  clear hm hi hT h0 hn;go_enter Tryd.func37,Tryd.ntmps37;go_wp2;go_ret;exact Lib.hid (HE.out _ (Below.refl _ _))
 ·have hm0:m≠0:=h0.resolve_left hz
  have b1:((n:Int)==0)=false:=by simp;omega
  have b2:((m:Int) != 0)=true:=by simp;omega
  have b1':(n==0)=false:=by simp;omega
  have b2':(m != 0)=true:=by simp;omega
  clear hm hi hT h0 hn hz hm0;go_enter Tryd.func37,Tryd.ntmps37;go_wp2;go_ret;exact Lib.hid (HE.out _ (Below.refl _ _))
theorem anew_of {n:Nat} {ws:List (Nat × Nat)} (hX:∀ b,X b→b<w.heap.size) (hn:to[n]?=some 0) (hm:KM X B KB TB L all vk w to K) (hs:SrcAt P w L BB TA tp C all ab tc begun) (hi:KInv Z T all to K) (hZ:∀ k,Z k→k=0∨n<k) (hP:∀ b,P b→b<B) (hB:B≤w.heap.size)
  (hlen:ws.length≤1000000) (hy:∀ y,y∈ws→y.1<n∧y.2<512∧y.2≠0) (HK:∀ y,y∈ws→KeepAt P B KB TB L BB all TA tp C ab tc begun T y.1)
  {A:Option Addr} {c:Nat} {w1:World} (hA:WsAt (fun b=>b<w1.heap.size∧(P b∨w.heap.size≤b)) w1 A ws) (hb:Below w.heap.size w w1):
  Calls Tryd.prog 45 #[.pointer (some ⟨KB,0,none⟩),.slice A ws.length c] w1 fun e w2=>∃ (A':Option Addr) (c' g cap:Nat) (vk':Value) (to':List Nat) (Y:Turns) (kept:List (Nat × Nat)),e= .returned (.slice A' kept.length c')∧vk'= .slice (some ⟨g,0,none⟩) (K++Y).length cap∧
   w2.ownsRow w1.heap.size 98 2 (.slice A' kept.length c') kept.length (cellsU kept)∧KM (fun b=>X b∨(Value.slice A' kept.length c').ownBlock=some b) B KB TB L all vk' w2 to' (K++Y)∧KInv (fun k=>Z k∨k=n) T all to' (K++Y)∧NewI T (K++Y) ws kept∧KFr B KB TB vk w vk' w2:=by
 obtain⟨a1,a2,a3,a4,a5⟩:=hm.b1;have b3:=hm.b3.2.2;have hsz:=hb.size;have hi2:KInv (fun k=>Z k∨k=n) T all to K:=⟨hi.len,.inl hi.z0,fun k hk=>hk.elim (hi.zero k) (fun e=>by rw[e];exact hn),hi.turns,hi.cnt,hi.ws,hi.of⟩;refine(anew_any (X:=X) (Z:=fun k=>Z k∨k=n) (fun y hyw k hk=>?_) (fun b hx=>Nat.lt_of_lt_of_le (hX b hx) hsz) ((hm.same (fun k hk _=>hb.block k hk) hsz).less (fun b h=> .inl h)) (hs.keep (fun a ha=>hb.cell (p:=a) (by have:=hP _ ha;omega)) hsz) hi2 hP (by omega) (fun i x hx=>?_) hlen (fun y hyw=>(hy y hyw).2) HK).mono ?_
 ·have:=(hy y hyw).1
  rcases hk with hk | hk
  ·rcases hZ k hk with h | h
   ·exact .inl h
   ·exact .inr (by omega)
  ·exact .inr (by omega)
 ·obtain⟨ad,q1,⟨q2,q3⟩,q4,q5⟩:=hA i x hx
  refine⟨ad,q1,⟨q2,?_⟩,q4,q5⟩
  rcases q3 with q3 | q3
  ·have:=hP _ q3
   exact⟨by omega,by omega,fun e=>by have:=(b3 _ e).2.2;omega⟩
  ·exact⟨by omega,by omega,fun e=>by have:=(b3 _ e).2.1;omega⟩
 ·rintro e w2 ⟨v,vk',to',Y,kept,rfl,g1,g2,g3,g4,g5⟩
  obtain⟨A',c',rfl⟩:=row_slice g1;obtain⟨g,cap,h1,_⟩:=km_turns g2 (by have:=(List.getElem?_eq_some_iff.1 g3.turns.zero).1;exact this);exact⟨A',c',g,cap,vk',to',Y,kept,rfl,h1,g1,g2,g3,g4,((KFr.refl B KB TB vk w).beyond hB hb).trans g5⟩
end
end
section
section
variable {X Z P:Nat→Prop} {B KB TB L BB all tp C:Nat} {T:Turns} {w:World} {vk:Value} {K:Turns} {to:List Nat} {TA:Addr} {ab:Nat→Nat} {tc:Turns} {begun:List (List Nat)}
def Aft (X Z:Nat→Prop) (B KB TB L all:Nat) (T:Turns) (w:World) (vk:Value) (K:Turns) (n:Nat) (ws:List (Nat × Nat)) (w2:World) (A':Option Addr) (c' kl g cap KL:Nat):Prop:=
 ∃ (to':List Nat) (Y:Turns) (kept:List (Nat × Nat)),kl=kept.length∧KL=(K++Y).length∧w2.ownsRow w.heap.size 98 2 (.slice A' kept.length c') kept.length (cellsU kept)∧KM (fun b=>X b∨(Value.slice A' kept.length c').ownBlock=some b) B KB TB L all (.slice (some ⟨g,0,none⟩) KL cap) w2 to' (K++Y)∧
  KInv (fun k=>Z k∨k=n) T all to' (K++Y)∧NewI T (K++Y) ws kept∧KFr B KB TB vk w (.slice (some ⟨g,0,none⟩) KL cap) w2
theorem KInv.less {Z':Nat→Prop} (h:KInv Z' T all to K) (h0:Z 0) (hz:∀ k,Z k→Z' k):KInv Z T all to K:=⟨h.len,h0,fun k hk=>h.zero k (hz k hk),h.turns,h.cnt,h.ws,h.of⟩
theorem aft_index {n:Nat} {ws:List (Nat × Nat)} {w2:World} {A':Option Addr} {c' kl g cap KL:Nat} (h:Aft X Z B KB TB L all T w vk K n ws w2 A' c' kl g cap KL) (hw:T[n]?=some ws) (hne:ws≠[]) (hlen:ws.length≤1000000) (hn0:n≠0) (hZ:∀ k,Z k→k=0∨n<k) (hz0:Z 0) (hall:all≤1000000) (hB:B≤w.heap.size) (hna:n<all):
  Calls Tryd.prog 49 #[.slice (some ⟨g,0,none⟩) KL cap,.func (.func 47) #[] #[.pointer (some ⟨w2.heap.size,0,none⟩)]] (w2.alloc (.cells #[.slice A' kl c'] 93)) fun e w'=>∃ r:Int,e= .returned (.int .i64 r)∧
   (r= -1∨∃ i:Nat,r=i∧∀ W,Below w2.heap.size (w2.alloc (.cells #[.slice A' kl c'] 93)) W→KeepPost X Z B KB TB L all T w vk K n (.returned (.int .i64 i)) (W.setCell ⟨TB,n,none⟩ (.int .i64 i)))∧∃ m,w'=(w2.alloc (.cells #[.slice A' kl c'] 93)).drewN m:=by
 obtain⟨to',Y,kept,rfl,rfl,g1,g2,g3,g4,g5⟩:=h;obtain⟨W3,hW3⟩:∃ W3,W3=w2.alloc (.cells #[.slice A' kept.length c'] 93):=⟨_,rfl⟩;have hb:Below w2.heap.size w2 W3:=by rw[hW3];exact one_box w2 _
 have hbox:W3.cell? ⟨w2.heap.size,0,none⟩=some (.slice A' kept.length c'):=by rw[hW3,row_cell (heap_alloc_new w2 _)];rfl
 rw[←hW3];have hpos:=(List.getElem?_eq_some_iff.1 g3.turns.zero).1;obtain⟨g',cap',hv,ht⟩:=km_turns g2 hpos;simp only[Value.slice.injEq,Option.some.injEq,Addr.mk.injEq,and_true,true_and] at hv;obtain⟨rfl,rfl⟩:=hv;have hzn:=g3.zero n (.inr rfl);refine(indexFunc_any (P:=Lt w2.heap.size) ⟨g,0,none⟩ A' cap c' w2.heap.size (K++Y) kept W3 (ht.keep (same_below hb)) ((wsAt_own g1 rfl).keep (same_below hb)) hbox (by have:=cnt_lt g3 hzn;omega) g3.ws (by have:=g4.len;omega)).mono ?_;rintro e w' ⟨r,rfl,hr,m,rfl⟩;refine⟨r,rfl,?_,m,rfl⟩
 rcases hr with hr | ⟨i,hri,hk⟩
 ·exact .inl hr
 ·refine .inr ⟨i,hri,fun W hW=>?_⟩
  have hnz:¬ Z n:=fun h=>by rcases hZ n h with h | h <;> omega
  obtain⟨q1,q2⟩:=keep_found (g3.less hz0 (fun k h=> .inl h)) hnz g4 hw hne hn0 hzn hk;have hbW:=hb.trans hW;have hm:=((g2.same (fun k hk _=>hbW.block k hk) hbW.size).less (X':=X) (fun b h=> .inl (.inl h))).set_to (n:=n) (m:=i) (by rw[g3.len];exact hna);have hb1:=g2.b1;refine⟨i,_,_,Y,rfl,hm,q1,q2,?_⟩;have f1:=g5.beyond hB (hbW.mono g5.below.size);refine⟨f1.below.setCell hb1.2.1 _,fun k hk h1 h2 h3=>?_,f1.vk⟩;rw[Below.heap_setCell _ _ _ _ h2];exact f1.own k hk h1 h2 h3
end
end
section
section
variable {X Z P:Nat→Prop} {B KB TB L BB all tp C:Nat} {T:Turns} {w:World} {vk:Value} {K:Turns} {to:List Nat} {TA:Addr} {ab:Nat→Nat} {tc:Turns} {begun:List (List Nat)}
theorem aft_push {n:Nat} {ws:List (Nat × Nat)} {w2 W:World} {A':Option Addr} {c' kl g cap KL:Nat} (h:Aft X Z B KB TB L all T w vk K n ws w2 A' c' kl g cap KL) (hw:T[n]?=some ws) (hne:ws≠[]) (hlen:ws.length≤1000000) (hn0:n≠0) (hZ:∀ k,Z k→k=0∨n<k) (hz0:Z 0) (hX:∀ b,X b→b<w.heap.size) (hB:B≤w.heap.size) (hna:n<all)
  (hW:Below w2.heap.size w2 W):∃ cs,W.ownsRow B 93 1 (.slice (some ⟨g,0,none⟩) KL cap) KL cs∧KL≤all∧∀ (g3 cap3:Nat) (W':World),W'.ownsRow B 93 1 (.slice (some ⟨g3,0,none⟩) (KL+1) cap3) (KL+1) (cs++[.slice A' kl c'])→W.grownBy W' (some g)→(some g=some g3∨g3=W.heap.size)→
   W'.cell? ⟨KB,2,none⟩=some (.slice (some ⟨g,0,none⟩) KL cap)∧W'.frozen? ⟨KB,2,none⟩=false∧(W'.setCell ⟨KB,2,none⟩ (.slice (some ⟨g3,0,none⟩) (KL+1) cap3)).cell? ⟨KB,1,none⟩=some (.slice (some ⟨TB,0,none⟩) all all)∧
   (W'.setCell ⟨KB,2,none⟩ (.slice (some ⟨g3,0,none⟩) (KL+1) cap3)).cell? ⟨TB,n,none⟩=some (.int .i64 0)∧(W'.setCell ⟨KB,2,none⟩ (.slice (some ⟨g3,0,none⟩) (KL+1) cap3)).frozen? ⟨TB,n,none⟩=false∧
   ∀ m,KeepPost X Z B KB TB L all T w vk K n (.returned (.int .i64 KL)) (((W'.setCell ⟨KB,2,none⟩ (.slice (some ⟨g3,0,none⟩) (KL+1) cap3)).drewN m).setCell ⟨TB,n,none⟩ (.int .i64 KL)):=by
 obtain⟨to',Y,kept,rfl,rfl,g1,g2,g3,g4,g5⟩:=h;have hzn:=g3.zero n (.inr rfl);have hnz:¬ Z n:=fun h=>by rcases hZ n h with h | h <;> omega
 have gW:=(g2.same (fun k hk _=>hW.block k hk) hW.size).less (X':=fun b=>X b∨(Value.slice A' kept.length c').ownBlock=some b) (fun b h=> .inl h);obtain⟨cs,hcs⟩:=gW.row;refine⟨cs,hcs.1,cnt_lt g3 hzn,fun q3 cap3 W' ho hg hgg=>?_⟩;have g1W:=below_kept g1 hW;obtain⟨x1,x2,x3⟩:=gW.b3;have hsw:=g5.below.size
 have hA:WsAt (fun b=>b<W.heap.size∧¬ X b∧b≠KB∧b≠TB∧(Value.slice (some ⟨g,0,none⟩) (K++Y).length cap).ownBlock≠some b) W A' kept:=fun i x hi=>by
  obtain⟨ad,k1,k2,k3,k4⟩:=wsAt_own g1W rfl i x hi;subst k1
  have hown:(Value.slice (some ad) kept.length c').ownBlock=some ad.block:=by
   rcases g1W.2 with ⟨e,_⟩ | ⟨gg,cc,cur,e,_⟩
   ·cases e
   ·simp only[Value.slice.injEq,Option.some.injEq] at e
    obtain⟨rfl,_⟩:=e;rfl
  have hge:=(row_lt g1W hown).2;exact⟨ad,rfl,⟨k2,fun h=>by have:=hX _ h;omega,fun e=>x1 (.inr (by rw[hown,e])),fun e=>x2 (.inr (by rw[hown,e])),fun e=>(x3 _ e).1 (.inr hown)⟩,k3,k4⟩
 have hm:=gW.push (X:=X) (kept:=kept) (c:=c') (fun b h=> .inl h) hcs hA ho hg rfl hgg (fun b h=>by have:=hX b h;have:=hW.size;omega);have e1:=hm.k1;have e2:=hm.to_ n 0 hzn;have e3:=hm.ft n;obtain⟨b1,b2,b3,b4,b5⟩:=gW.b1;have eKB:W'.heap[KB]?=W.heap[KB]?:=hg.block KB b4 (fun e=>gW.b2.1 e.symm);refine⟨(cell_same (p:=⟨KB,2,none⟩) eKB).trans gW.k2,(frozen_same eKB 2).trans (gW.f 2),e1,e2,e3,fun m=>?_⟩;obtain⟨q1,q2⟩:=keep_push (g3.less hz0 (fun k h=> .inl h)) hnz g4 hw hne hn0 hzn hlen;have hm2:=((hm.same (w':=(W'.setCell ⟨KB,2,none⟩ (.slice (some ⟨q3,0,none⟩) ((K++Y).length+1) cap3)).drewN m) (fun k _ _=>rfl) (Nat.le_refl _)).less (X':=X) (fun b h=> .inl h)).set_to (n:=n) (m:=(K++Y).length) (by rw[g3.len];exact hna);rw[List.append_assoc] at q1 q2 hm2;refine⟨(K++Y).length,_,_,Y++[kept],rfl,hm2,q1,q2,?_⟩;have f1:=g5.beyond hB (hW.mono hsw);have hgs:=hg.size;refine⟨?_,fun k hk h1 h2 h3=>?_,fun k hk=>?_⟩
 ·have hBg:B≤g:=(row_lt hcs.1 (g:=g) rfl).2
  have:=(f1.below.grown hg (by have:=hW.size;omega) (fun k hk=>by injection hk with hk;omega)).setCell (p:=⟨KB,2,none⟩) b1 (.slice (some ⟨q3,0,none⟩) ((K++Y).length+1) cap3);exact(below_drewN this m).setCell (p:=⟨TB,n,none⟩) b2 _
 ·rw[Below.heap_setCell _ _ _ _ h2]
  show (W'.setCell ⟨KB,2,none⟩ _).heap[k]?=_;rw[Below.heap_setCell _ _ _ _ h1]
  have hkg:some g≠some k:=fun e=>by
   rcases f1.vk k e with h4 | h4
   ·exact h3 h4
   ·omega
  rw[hg.block k (by have:=hW.size;omega) (fun e=>hkg e.symm)];exact f1.own k hk h1 h2 h3
 ·have hk2:q3=k:=by simpa[Value.ownBlock] using hk
  subst hk2
  rcases hgg with h4 | h4
  ·exact f1.vk q3 h4
  ·exact .inr (by have:=hW.size;omega)
end
end
section
theorem info93:(Tryd.prog.info? 93).map (fun i=>(i.zero,i.size,i.bytes))=some (some (.slice none 0 0),1,24):=by kernel_rfl
section
variable {X Z P:Nat→Prop} {B KB TB L BB all tp C:Nat} {T:Turns} {w:World} {vk:Value} {K:Turns} {to:List Nat} {TA:Addr} {ab:Nat→Nat} {tc:Turns} {begun:List (List Nat)}
theorem keep_new {n:Nat} {ws:List (Nat × Nat)} (hX:∀ b,X b→b<w.heap.size) (hn0:n≠0) (hn:to[n]?=some 0) (hm:KM X B KB TB L all vk w to K) (hs:SrcAt P w L BB TA tp C all ab tc begun) (hi:KInv Z T all to K) (hZ:∀ k,Z k→k=0∨n<k) (hP:∀ b,P b→b<B) (hB:B≤w.heap.size)
  (hw:T[n]?=some ws) (hne:ws≠[]) (hlen:ws.length≤1000000) (hy:∀ y,y∈ws→y.1<n∧y.2<512∧y.2≠0) (HT:Calls Tryd.prog 46 #[.pointer (some ⟨KB,0,none⟩),.int .i64 n] w (TofPost P w ws)) (HK:∀ y,y∈ws→KeepAt P B KB TB L BB all TA tp C ab tc begun T y.1) (hall:all≤1000000):
  Calls Tryd.prog 37 #[.pointer (some ⟨KB,0,none⟩),.int .i64 n] w (KeepPost X Z B KB TB L all T w vk K n):=by
 have k1:=hm.k1;have kn:=hm.to_ n 0 hn;have hlt:n<all:=by rw[←hi.len];exact(List.getElem?_eq_some_iff.1 hn).1
 obtain⟨ln,hln⟩:∃ v,v=ws.length:=⟨_,rfl⟩
 have HAN:Hid (∀ (A:Option Addr) (c:Nat) (w1:World),WsAt (fun b=>b<w1.heap.size∧(P b∨w.heap.size≤b)) w1 A ws→Below w.heap.size w w1→Calls Tryd.prog 45 #[.pointer (some ⟨KB,0,none⟩),.slice A ln c] w1 fun e w2=>∃ (A':Option Addr) (c' kl g cap KL:Nat),e= .returned (.slice A' kl c')∧
   Hid (Aft X Z B KB TB L all T w vk K n ws w2 A' c' kl g cap KL)∧(∀ o,(w2.alloc o).cell? ⟨KB,1,none⟩=some (.slice (some ⟨TB,0,none⟩) all all))∧(∀ o,(w2.alloc o).cell? ⟨KB,2,none⟩=some (.slice (some ⟨g,0,none⟩) KL cap))∧(∀ o,(w2.alloc o).cell? ⟨TB,n,none⟩=some (.int .i64 0))∧(∀ o,(w2.alloc o).frozen? ⟨TB,n,none⟩=false)∧KL≤1000000∧kl≤1000000):=Lib.hid fun A c w1 h1 h2=>by
  rw[hln];refine(anew_of hX hn hm hs hi hZ hP hB hlen hy HK h1 h2).mono ?_;rintro e w2 ⟨A',c',g,cap,vk',to',Y,kept,rfl,rfl,g1,g2,g3,g4,g5⟩;have hb:=fun o=>one_box w2 o
  obtain⟨b1,b2,b3,b4,b5⟩:=g2.b1;refine⟨A',c',kept.length,g,cap,(K++Y).length,rfl,Lib.hid ⟨to',Y,kept,rfl,rfl,⟨g1.1,g1.2.imp id (fun ⟨gg,cc,cur,a,b,r⟩=>⟨gg,cc,cur,a,Nat.le_trans h2.size b,r⟩)⟩,g2,g3,g4,g5⟩,fun o=>((hb o).cell (p:=⟨KB,1,none⟩) b4).trans g2.k1,fun o=>((hb o).cell (p:=⟨KB,2,none⟩) b4).trans g2.k2,fun o=>((hb o).cell (p:=⟨TB,n,none⟩) b5).trans (g2.to_ n 0 (g3.zero n (.inr rfl))),fun o=>((hb o).frozen (p:=⟨TB,n,none⟩) b5).trans (g2.ft n),?_,by have:=g4.len;omega⟩;have:=cnt_lt g3 (g3.zero n (.inr rfl));omega
 have HT2:Hid (Calls Tryd.prog 46 #[.pointer (some ⟨KB,0,none⟩),.int .i64 n] w fun e w1=>∃ A c,e= .returned (.slice A ln c)∧Hid (WsAt (fun b=>b<w1.heap.size∧(P b∨w.heap.size≤b)) w1 A ws∧Below w.heap.size w w1)):=Lib.hid (HT.mono fun e w1 ⟨A,c,h1,h2,h3⟩=>⟨A,c,by rw[hln];exact h1,Lib.hid ⟨h2,h3⟩⟩);have HIX:Hid (∀ w2 A' c' kl g cap KL,Aft X Z B KB TB L all T w vk K n ws w2 A' c' kl g cap KL→_):=Lib.hid fun w2 A' c' kl g cap KL h=>aft_index h hw hne hlen hn0 hZ hi.z0 hall hB hlt
 have HPU:Hid (∀ w2 W A' c' kl g cap KL,Aft X Z B KB TB L all T w vk K n ws w2 A' c' kl g cap KL→Below w2.heap.size w2 W→_):=Lib.hid fun w2 W A' c' kl g cap KL h hW=>aft_push h hw hne hlen hn0 hZ hi.z0 hX hB hlt hW
 have hBw:=hB;have b1:((n:Int)==0)=false:=by simp;omega
 have b1':(n==0)=false:=by simp;omega
 obtain⟨i0,hi0,hz0,hz1,hz2⟩:=info_parts info93;clear hX hn0 hn hm hs hi hZ hP hB hw hne hlen hy HT HK hln
 suffices hs:Calls Tryd.prog 37 #[.pointer (some ⟨KB,0,none⟩),.int .i64 n] w fun e w'=>Hid (KeepPost X Z B KB TB L all T w vk K n e w') from hs.mono fun e w' h=>h.out
 go_enter Tryd.func37,Tryd.ntmps37;go_wp2_with (first | (go_at_call 46;((with_reducible refine(HT2.out).mono ?_));rintro e w1 ⟨A,c,rfl,hh⟩;have HC:=Lib.hid (HAN.out A c w1 hh.out.1 hh.out.2);clear hh) | (go_at_call 45;((with_reducible refine(HC.out).mono ?_));rintro e w2 ⟨A',c',kl,g,cap,KL,rfl,HAF,c1,c2,c3,f3,hKL,hkl⟩));refine(HIX.out _ _ _ _ _ _ _ HAF.out).mono ?_;rintro e w4 ⟨r,rfl,hr,m,rfl⟩
 rcases hr with rfl | ⟨i,rfl,hf⟩
 ·obtain⟨cs,hrow,_,hpush⟩:=HPU.out w2 (((w2.alloc (.cells #[.slice A' kl c'] 93)).drewN (m+1)).alloc (.cells #[.slice A' kl c'] 93)) A' c' kl g cap KL HAF.out (((one_box w2 _).trans (below_dn _ _ _)).trans ((one_box _ _).mono (by simp)))
  have HROW:=Lib.hid hrow;have HPUSH:=Lib.hid hpush;have hsz:((w2.alloc (.cells #[.slice A' kl c'] 93)).drewN (m+1)).heap.size=w2.heap.size+1:=by simp
  have HN:Hid (∀ (j:Nat) (u:Value),[Value.slice A' kl c'][j]?=some u→(((w2.alloc (.cells #[.slice A' kl c'] 93)).drewN (m+1)).alloc (.cells #[.slice A' kl c'] 93)).cell? ((⟨w2.heap.size+1,0,none⟩:Addr).add j)=some u):=Lib.hid fun j u hu=>by
   have:=new_cells ((w2.alloc (.cells #[.slice A' kl c'] 93)).drewN (m+1)) 93 #[.slice A' kl c'] j u hu;rw[hsz] at this;exact this
  have HO:Hid (∀ u∈[Value.slice A' kl c'],u.oneCell'=true):=Lib.hid fun u hu=>by
   rw[List.mem_singleton] at hu;subst hu;rfl
  have HBS:Hid (B≤(((w2.alloc (.cells #[.slice A' kl c'] 93)).drewN (m+1)).alloc (.cells #[.slice A' kl c'] 93)).heap.size):=Lib.hid (by
   obtain⟨_,_,_,_,_,_,_,_,_,hfr⟩:=HAF.out;have:=hfr.below.size;simp;omega)
  have c4:(((w2.alloc (.cells #[.slice A' kl c'] 93)).drewN (m+1)).alloc (.cells #[.slice A' kl c'] 93)).cell? ⟨KB,2,none⟩=some (.slice (some ⟨g,0,none⟩) KL cap):=by
   obtain⟨_,_,_,_,_,_,hkm,_⟩:=HAF.out;have hb1:=hkm.b1;exact((((one_box w2 _).trans (below_dn _ _ _)).trans ((one_box _ _).mono (by simp))).cell (p:=⟨KB,2,none⟩) hb1.2.2.2.1).trans hkm.k2
  clear hrow hpush hsz;go_wp2
  go_region_law (refine step_append_lies _ rfl (.tmp 50) (.tmp 52) 52 rfl B 93 i0 (.slice none 0 0) 1 24 Tryd.underlying52 hi0 hz0 hz1 hz2 rfl (by decide) _ _ _ rfl HROW.out ⟨w2.heap.size+1,0,none⟩ 1 1 [.slice A' kl c'] rfl rfl HN.out HO.out (by decide) (by unfold maxLen;omega) (by omega) HBS.out _ rfl ?_;intro g3 cap3 w5 hown hgrow hat hlt;obtain⟨d1,d2,d3,d4,d5,d6⟩:=HPUSH.out g3 cap3 w5 hown hgrow hat;have HE:=Lib.hid d6;clear d6 hown hgrow hat hlt)
  all_goals (go_wp2;go_ret;exact Lib.hid (HE.out 0))
 ·have HF:=Lib.hid hf
  have b5:decide ((i:Int)<0)=false:=by simp
  clear hf;go_wp2;go_ret;exact Lib.hid (HF.out _ (below_dn _ _ _))
end
end
section
section
variable {P:Nat→Prop} {B KB TB L BB all tp C:Nat} {T:Turns} {TA:Addr} {ab:Nat→Nat} {tc:Turns} {begun:List (List Nat)}
theorem keep_any (hP:∀ b,P b→b<B) {Lv:Nat→Prop} (hT:Srcs T Lv) (hL:∀ n,Lv n→n<all)
  (hO:∀ n ws,Lv n→T[n]?=some ws→tc[n]?=some ws∨∃ k arr,n=tc.length+k∧begun[k]?=some arr∧arr≠[]∧ws=newT arr)
  (hws:∀ (n:Nat) (ws:List (Nat × Nat)),T[n]?=some ws→ws.length≤1000000) (n:Nat):Lv n→KeepAt P B KB TB L BB all TA tp C ab tc begun T n:=by
 induction n using Nat.strongRecOn with
 | ind n ih=>
   intro hn X Z vk w to K hZ hX hm hs hi;obtain⟨m,hmn⟩:∃ m,to[n]?=some m:=⟨_,List.getElem?_eq_getElem (by rw[hi.len];exact hL n hn)⟩;by_cases h:n=0∨m≠0
   ·exact keep_old hmn h hm hi hT.zero
   ·have h0:n≠0:=fun e=>h (.inl e)
    have hm0:m=0:=Classical.not_not.1 fun e=>h (.inr e)
    subst hm0;obtain⟨ws,q1,q2,q3⟩:=hT.one n hn h0;have hb1:=hm.b1;refine keep_new hX h0 hmn hm hs hi hZ hP (by omega) q1 q2 (hws n ws q1) (fun y hy=>⟨(q3 y hy).1,(q3 y hy).2.1,(q3 y hy).2.2.1⟩) ?_ (fun y hy=>ih y.1 (q3 y hy).1 (q3 y hy).2.2.2) hs.sz.2.1
    rcases hO n ws hn q1 with h1 | ⟨k,arr,h1,h2,h3,rfl⟩
    ·exact tof_old hs hm.k0 h1
    ·exact tof_new hs hm.k0 h2 h3 h1
end
theorem keep_look {P:Nat→Prop} {B KB TB L BB tp:Nat} {TA:Addr} {ab:Nat→Nat} {Q:Pm} {tc:Turns} {S:LS} (hP:∀ b,P b→b<B) (ht:TurnsOk tc) (hl:Q.old=tc.length) (ho:OkS Q S) (hz:Nz Q S) (hsz:Szs Q) (hq:Q.tc=tc) {n:Nat} (hn:Liv Q S n):
  KeepAt P B KB TB L BB Q.all TA tp Q.C ab tc S.begun (allT tc S) n:=by
 refine keep_any hP (srcs_of ht hl ho hz) (fun n hn=>hn.lt hz) (fun n ws hn hw=>?_) (fun n ws hw=>?_) n hn
 ·by_cases hlt:n<tc.length
  ·rw[allT_old hlt] at hw;exact .inl hw
  ·rcases hn with hn | ⟨arr,h1,h2⟩
   ·omega
   ·refine .inr ⟨n - tc.length,arr,by omega,by rw[hl] at h1;exact h1,h2,?_⟩
    have:=allT_new (tc:=tc) (S:=S) (c:=n - tc.length);rw[show tc.length+(n - tc.length)=n by omega,hw] at this;rw[hl] at h1;rw[h1] at this;injection this
 ·by_cases hlt:n<tc.length
  ·rw[allT_old hlt] at hw;exact hsz.ws n ws (by rw[hq];exact hw)
  ·have:=allT_new (tc:=tc) (S:=S) (c:=n - tc.length)
   rw[show tc.length+(n - tc.length)=n by omega,hw] at this
   cases harr:S.begun[n - tc.length]? with
   | none=>rw[harr] at this;cases this
   | some arr=>
     rw[harr] at this;injection this with this
     rw[this];have h3:=newT_len arr;by_cases h0:arr=[]
     ·subst h0;rw[List.length_nil] at h3;omega
     ·have:=(ho.arr _ _ harr h0).1
      have:=hsz.all;omega
end
end Go.Proofs.YtiafefjaldcpbaaDoor
