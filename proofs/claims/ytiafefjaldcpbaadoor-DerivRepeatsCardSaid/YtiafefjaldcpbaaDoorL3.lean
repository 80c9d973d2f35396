import Derived.Deep.DeepMust
import Derived.Test.YtiafefjaldcpbaaDoorV14
import Derived.Test.YtiafefjaldcpbaaDoorTree2
import Derived.Test.YtiafefjaldcpbaaDoorQTail
import Derived.Deep.AppendLies
import Derived.Test.YtiafefjaldcpbaaDoorQBelow
import Derived.Laws.Bits64b
import Derived.Deep.OwnRows
import Derived.BigRegion
import Derived.Laws.BitsAllLaws
namespace Go.Proofs.YtiafefjaldcpbaaDoor
open Go Go.RowKit
set_option maxRecDepth 100000
set_option maxHeartbeats 2000000
def At15 (w:World) (a:Addr) (x:Nd) (K:Option Addr) (c:Nat):Prop:=
 w.cell? a=some (.int .i64 x.r.kind)∧w.cell? ⟨a.block,a.off+1,none⟩=some (.int .u64 x.r.set.1.toNat)∧w.cell? ⟨a.block,a.off+2,none⟩=some (.int .u64 x.r.set.2.1.toNat)∧
 w.cell? ⟨a.block,a.off+3,none⟩=some (.int .u64 x.r.set.2.2.1.toNat)∧w.cell? ⟨a.block,a.off+4,none⟩=some (.int .u64 x.r.set.2.2.2.toNat)∧
 w.cell? ⟨a.block,a.off+5,none⟩=some (.int .i64 x.r.lo)∧w.cell? ⟨a.block,a.off+6,none⟩=some (.int .i64 x.r.hi)∧
 w.cell? ⟨a.block,a.off+7,none⟩=some (.slice K x.kids.length c)∧w.cell? ⟨a.block,a.off+8,none⟩=some (.int .i64 x.par)∧
 w.cell? ⟨a.block,a.off+9,none⟩=some (.int .i64 x.nx)∧w.cell? ⟨a.block,a.off+10,none⟩=some (.int .i64 x.cn)∧
 w.cell? ⟨a.block,a.off+11,none⟩=some (.bool (emptyE false false x.r))∧w.cell? ⟨a.block,a.off+12,none⟩=some (.bool (emptyE true false x.r))∧
 w.cell? ⟨a.block,a.off+13,none⟩=some (.bool (emptyE false true x.r))∧w.cell? ⟨a.block,a.off+14,none⟩=some (.bool (emptyE true true x.r))
theorem At15.keep {w w':World} {a:Addr} {x:Nd} {K:Option Addr} {c:Nat} (h:At15 w a x K c) (hs:∀ o,w'.cell? ⟨a.block,o,none⟩=w.cell? ⟨a.block,o,none⟩) (h0:w'.cell? a=w.cell? a):At15 w' a x K c:=by
 obtain⟨a0,a1,a2,a3,a4,a5,a6,a7,a8,a9,a10,a11,a12,a13,a14⟩:=h;exact⟨h0.trans a0,(hs _).trans a1,(hs _).trans a2,(hs _).trans a3,(hs _).trans a4,(hs _).trans a5,(hs _).trans a6,(hs _).trans a7,(hs _).trans a8,(hs _).trans a9,(hs _).trans a10,(hs _).trans a11,(hs _).trans a12,(hs _).trans a13,(hs _).trans a14⟩
def IntsAt (P:Nat→Prop) (w:World) (K:Option Addr) (l:List Nat):Prop:=∀ (i m:Nat),l[i]?=some m→∃ ad,K=some ad∧P ad.block∧w.cell? (ad.add i)=some (.int .i64 m)
theorem IntsAt.keep {P:Nat→Prop} {w w':World} {K:Option Addr} {l:List Nat} (h:IntsAt P w K l) (hs:SameOn P w w'):IntsAt P w' K l:=fun i m hi=>by
 obtain⟨ad,h1,h2,h3⟩:=h i m hi;exact⟨ad,h1,h2,(hs _ (by rw[block_of_add];exact h2)).trans h3⟩
def PartsAt (P:Nat→Prop) (w:World) (ad:Addr) (T:List Nd):Prop:=P ad.block∧∀ n x,T[n]?=some x→∃ K c,At15 w (ad.add (n * 15)) x K c∧IntsAt P w K x.kids
theorem PartsAt.keep {P:Nat→Prop} {w w':World} {ad:Addr} {T:List Nd} (h:PartsAt P w ad T) (hs:SameOn P w w'):PartsAt P w' ad T:=⟨h.1,fun n x hx=>by
 obtain⟨K,c,h1,h2⟩:=h.2 n x hx;exact⟨K,c,h1.keep (fun o=>hs _ (by show P (ad.add (n * 15)).block;rw[block_of_add];exact h.1)) (hs _ (by rw[block_of_add];exact h.1)),h2.keep hs⟩⟩
def WsAt (P:Nat→Prop) (w:World) (A:Option Addr) (ws:List (Nat × Nat)):Prop:=∀ i x,ws[i]?=some x→∃ ad,A=some ad∧P ad.block∧w.cell? (ad.add (i * 2))=some (.int .i64 x.1)∧w.cell? ⟨(ad.add (i * 2)).block,(ad.add (i * 2)).off+1,none⟩=some (.int .u64 x.2)
theorem WsAt.keep {P:Nat→Prop} {w w':World} {A:Option Addr} {ws:List (Nat × Nat)} (h:WsAt P w A ws) (hs:SameOn P w w'):WsAt P w' A ws:=fun i x hi=>by
 obtain⟨ad,h1,h2,h3,h4⟩:=h i x hi;exact⟨ad,h1,h2,(hs _ (by rw[block_of_add];exact h2)).trans h3,(hs _ (by show P (ad.add (i * 2)).block;rw[block_of_add];exact h2)).trans h4⟩
def TurnsAt (P:Nat→Prop) (w:World) (ad:Addr) (tc:Turns):Prop:=P ad.block∧∀ t ws,tc[t]?=some ws→∃ A c,w.cell? (ad.add t)=some (.slice A ws.length c)∧WsAt P w A ws
theorem TurnsAt.keep {P:Nat→Prop} {w w':World} {ad:Addr} {tc:Turns} (h:TurnsAt P w ad tc) (hs:SameOn P w w'):TurnsAt P w' ad tc:=⟨h.1,fun t ws ht=>by
 obtain⟨A,c,h1,h2⟩:=h.2 t ws ht;exact⟨A,c,(hs _ (by rw[block_of_add];exact h.1)).trans h1,h2.keep hs⟩⟩
theorem top_any (a:Addr) (x:Nd) (K:Option Addr) (c:Nat) (w:World) (h:At15 w a x K c) (hb:Bds x.r):
  Calls Tryd.prog 61 #[.pointer (some a)] w fun e w'=>e= .returned (.int .i64 (topQ x.r))∧w'=w:=by
 have a5:=h.2.2.2.2.2.1;have a6:=h.2.2.2.2.2.2.1;clear h;obtain⟨v,hv⟩:∃ v:Int,v=topQ x.r:=⟨_,rfl⟩;rw[←hv];unfold topQ at hv;unfold Bds at hb;obtain⟨lo,hlo⟩:∃ lo,lo=x.r.lo:=⟨_,rfl⟩;obtain⟨hi,hhi⟩:∃ hi,hi=x.r.hi:=⟨_,rfl⟩;rw[←hlo] at a5 hv hb;rw[←hhi] at a6 hv hb;by_cases h0:hi<0
 ·rw[if_pos h0] at hv
  replace hv:v=lo:=by omega
  subst hv;clear hlo hhi;go_enter Tryd.func61,Tryd.ntmps61;go_wp2;go_ret;exact⟨rfl,rfl⟩
 ·rw[if_neg h0] at hv
  replace hv:v=hi:=by omega
  subst hv;clear hlo hhi;go_enter Tryd.func61,Tryd.ntmps61;go_wp2;go_ret;exact⟨rfl,rfl⟩
section
structure LkP where
 B:Nat
 L:Nat
 PA:Addr
 pc:Nat
 TA:Addr
 tp:Nat
def modeN (B E:Bool):Nat:=(if B=true then 1 else 0)+(if E=true then 2 else 0)
def cellsW (l:List (Nat × Nat)):List Value:=l.flatMap fun p=>[.int .i64 p.1,.int .i64 p.2]
theorem cellsW_snoc (a:List (Nat × Nat)) (n t:Nat):cellsW (a++[(n,t)])=cellsW a++[.int .i64 n,.int .i64 t]:=by simp[cellsW]
structure LkC (Q:Pm) (c:LkP) (DB BB:Nat) (ab:Nat→Nat) (vw:Value) (w:World) (S:LS):Prop where
 c0:w.cell? ⟨c.L,0,none⟩=some (.slice (some c.PA) Q.T.length c.pc)
 c1:w.cell? ⟨c.L,1,none⟩=some (.int .i64 (modeN Q.B Q.E:Nat))
 c2:w.cell? ⟨c.L,2,none⟩=some (.slice (some c.TA) Q.old c.tp)
 c3:w.cell? ⟨c.L,3,none⟩=some (.slice (some ⟨BB,0,none⟩) Q.C Q.C)
 c4:w.cell? ⟨c.L,4,none⟩=some (.slice (some ⟨DB,0,none⟩) (Q.all * Q.T.length) (Q.all * Q.T.length))
 c5:w.cell? ⟨c.L,5,none⟩=some vw
 c6:w.cell? ⟨c.L,6,none⟩=some (.bool S.over)
 f:∀ j,w.frozen? ⟨c.L,j,none⟩=false
 did:∀ (i x:Nat),S.did[i]?=some x→w.cell? ⟨DB,i,none⟩=some (.int .u8 x)
 fd:∀ j,w.frozen? ⟨DB,j,none⟩=false
 beg:∀ (k:Nat) (arr:List Nat),S.begun[k]?=some arr→w.cell? ⟨BB,k,none⟩=some (if arr=[] then .slice none 0 0 else .slice (some ⟨ab k,0,none⟩) Q.all Q.all)
 fb:∀ j,w.frozen? ⟨BB,j,none⟩=false
 arr:∀ (k:Nat) (arr:List Nat),S.begun[k]?=some arr→arr≠[]→(∀ (t ts:Nat),arr[t]?=some ts→w.cell? ⟨ab k,t,none⟩=some (.int .u64 ts))∧(∀ j,w.frozen? ⟨ab k,j,none⟩=false)∧c.B≤ab k∧ab k<w.heap.size∧ab k≠c.L∧ab k≠DB∧ab k≠BB∧vw.ownBlock≠some (ab k)
 inj:∀ (k k':Nat) (a a':List Nat),S.begun[k]?=some a→S.begun[k']?=some a'→a≠[]→a'≠[]→ab k=ab k'→k=k'
 waits:w.ownsRow c.B 65 2 vw S.waits.length (cellsW S.waits)
 b1:c.B≤c.L∧c.B≤DB∧c.B≤BB∧c.L≠DB∧c.L≠BB∧DB≠BB
 b2:vw.ownBlock≠some c.L∧vw.ownBlock≠some DB∧vw.ownBlock≠some BB
 b3:c.L<w.heap.size∧DB<w.heap.size∧BB<w.heap.size
def Lk (Q:Pm) (c:LkP) (w:World) (S:LS):Prop:=∃ DB BB ab vw,LkC Q c DB BB ab vw w S
section
variable {Q:Pm} {c:LkP} {DB BB:Nat} {ab:Nat→Nat} {vw:Value} {w:World} {S:LS}
theorem LkC.same {w':World} (h:LkC Q c DB BB ab vw w S) (hb:∀ k,c.B≤k→k<w.heap.size→w'.heap[k]?=w.heap[k]?) (hz:w.heap.size≤w'.heap.size):LkC Q c DB BB ab vw w' S:=by
 obtain⟨b3,b4,b5⟩:=h.b3;obtain⟨g1,g2,g3,_⟩:=h.b1;have cL:∀ j,w'.cell? ⟨c.L,j,none⟩=w.cell? ⟨c.L,j,none⟩:=fun j=>World.cell?_of_block (hb _ g1 b3)
 have cD:∀ j,w'.cell? ⟨DB,j,none⟩=w.cell? ⟨DB,j,none⟩:=fun j=>World.cell?_of_block (hb _ g2 b4)
 have cB:∀ j,w'.cell? ⟨BB,j,none⟩=w.cell? ⟨BB,j,none⟩:=fun j=>World.cell?_of_block (hb _ g3 b5)
 have fL:∀ j,w'.frozen? ⟨c.L,j,none⟩=w.frozen? ⟨c.L,j,none⟩:=fun j=>World.frozen?_of_block (hb _ g1 b3)
 have fD:∀ j,w'.frozen? ⟨DB,j,none⟩=w.frozen? ⟨DB,j,none⟩:=fun j=>World.frozen?_of_block (hb _ g2 b4)
 have fB:∀ j,w'.frozen? ⟨BB,j,none⟩=w.frozen? ⟨BB,j,none⟩:=fun j=>World.frozen?_of_block (hb _ g3 b5)
 refine⟨(cL _).trans h.c0,(cL _).trans h.c1,(cL _).trans h.c2,(cL _).trans h.c3,(cL _).trans h.c4,(cL _).trans h.c5,(cL _).trans h.c6,fun j=>(fL j).trans (h.f j),fun i x hx=>(cD i).trans (h.did i x hx),fun j=>(fD j).trans (h.fd j),
  fun k a ha=>(cB k).trans (h.beg k a ha),fun j=>(fB j).trans (h.fb j),fun k a ha hne=>?_,h.inj,?_,h.b1,h.b2,by omega⟩
 ·obtain⟨a1,a2,a3,a4,a5⟩:=h.arr k a ha hne
  exact⟨fun t ts ht=>(World.cell?_of_block (hb _ a3 a4)).trans (a1 t ts ht),fun j=>(World.frozen?_of_block (hb _ a3 a4)).trans (a2 j),a3,by omega,a5⟩
 ·refine⟨h.waits.1,?_⟩
  rcases h.waits.2 with h1 | ⟨g,cap,cur,h1,h2,h3,h4⟩
  ·exact .inl h1
  ·exact .inr ⟨g,cap,cur,h1,h2,(hb g h2 (Array.getElem?_eq_some_iff.1 h3).1).trans h3,h4⟩
theorem LkC.below {w':World} (h:LkC Q c DB BB ab vw w S) (hb:Below w.heap.size w w'):LkC Q c DB BB ab vw w' S:=h.same (fun k _ hk=>hb.block k hk) hb.size
theorem LkC.drews (h:LkC Q c DB BB ab vw w S) (m:Nat):LkC Q c DB BB ab vw (w.drewN m) S:=h.same (fun _ _ _=>rfl) (Nat.le_refl _)
theorem LkC.alloc (h:LkC Q c DB BB ab vw w S) (o:Obj):LkC Q c DB BB ab vw (w.alloc o) S:=h.below ((Below.refl _ _).alloc (Nat.le_refl _) _)
theorem row_set {e s n:Nat} {v u:Value} {xs:List Value} {B:Nat} (h:w.ownsRow B e s v n xs) {p:Addr} (hp:v.ownBlock≠some p.block):(w.setCell p u).ownsRow B e s v n xs:=by
 refine⟨h.1,?_⟩
 rcases h.2 with h1 | ⟨g,cap,cur,h1,h2,h3,h4⟩
 ·exact .inl h1
 ·subst h1
  refine .inr ⟨g,cap,cur,rfl,h2,?_,h4⟩;rw[Below.heap_setCell _ _ _ _ (fun e=>hp (by rw[←e];rfl))];exact h3
theorem size_setc (w:World) (p:Addr) (u:Value):(w.setCell p u).heap.size=w.heap.size:=by simp[World.setCell]
theorem LkC.mark (h:LkC Q c DB BB ab vw w S) {i v:Nat} (hi:i<S.did.length):LkC Q c DB BB ab vw (w.setCell ⟨DB,i,none⟩ (.int .u8 v)) { S with did:=S.did.set i v }:=by
 obtain⟨g1,g2,g3,g4,g5,g6⟩:=h.b1;have o:∀ (b:Nat) (j:Nat),b≠DB→(w.setCell ⟨DB,i,none⟩ (.int .u8 v)).cell? ⟨b,j,none⟩=w.cell? ⟨b,j,none⟩:=fun b j hb=>World.cell?_setCell_other _ _ _ _ (by simp <;> omega)
 refine⟨(o _ _ g4).trans h.c0,(o _ _ g4).trans h.c1,(o _ _ g4).trans h.c2,(o _ _ g4).trans h.c3,(o _ _ g4).trans h.c4,(o _ _ g4).trans h.c5,(o _ _ g4).trans h.c6,fun j=>by rw[World.frozen?_setCell];exact h.f j,?_,fun j=>by rw[World.frozen?_setCell];exact h.fd j,
  fun k a ha=>(o _ _ (by omega)).trans (h.beg k a ha),fun j=>by rw[World.frozen?_setCell];exact h.fb j,fun k a ha hne=>?_,h.inj,row_set h.waits h.b2.2.1,h.b1,h.b2,by rw[size_setc];exact h.b3⟩
 ·intro i' x hx
  simp only[List.getElem?_set] at hx
  split at hx
  ·rename_i he
   subst he;injection hx with hx;subst hx
   exact World.cell?_setCell_same _ _ _ (h.did i _ (List.getElem?_eq_getElem hi))
  ·rename_i he
   exact(World.cell?_setCell_other _ _ _ _ (by simp <;> omega)).trans (h.did i' x hx)
 ·obtain⟨a1,a2,a3,a4,a5,a6,a7⟩:=h.arr k a ha hne
  exact⟨fun t ts ht=>(o _ _ a6).trans (a1 t ts ht),fun j=>by rw[World.frozen?_setCell];exact a2 j,a3,by rw[size_setc];exact a4,a5,a6,a7⟩
theorem LkC.end_ (h:LkC Q c DB BB ab vw w S):LkC Q c DB BB ab vw (w.setCell ⟨c.L,6,none⟩ (.bool true)) (ends S):=by
 obtain⟨g1,g2,g3,g4,g5,g6⟩:=h.b1;have o:∀ (b:Nat) (j:Nat),b≠c.L→(w.setCell ⟨c.L,6,none⟩ (.bool true)).cell? ⟨b,j,none⟩=w.cell? ⟨b,j,none⟩:=fun b j hb=>World.cell?_setCell_other _ _ _ _ (by simp <;> omega)
 have o':∀ (j:Nat),j≠6→(w.setCell ⟨c.L,6,none⟩ (.bool true)).cell? ⟨c.L,j,none⟩=w.cell? ⟨c.L,j,none⟩:=fun j hb=>World.cell?_setCell_other _ _ _ _ (by simp <;> omega)
 refine⟨(o' _ (by decide)).trans h.c0,(o' _ (by decide)).trans h.c1,(o' _ (by decide)).trans h.c2,(o' _ (by decide)).trans h.c3,(o' _ (by decide)).trans h.c4,(o' _ (by decide)).trans h.c5,World.cell?_setCell_same _ _ _ h.c6,fun j=>by rw[World.frozen?_setCell];exact h.f j,
  fun i x hx=>(o _ _ (by omega)).trans (h.did i x hx),fun j=>by rw[World.frozen?_setCell];exact h.fd j,
  fun k a ha=>(o _ _ (by omega)).trans (h.beg k a ha),fun j=>by rw[World.frozen?_setCell];exact h.fb j,fun k a ha hne=>?_,h.inj,row_set h.waits h.b2.1,h.b1,h.b2,by rw[size_setc];exact h.b3⟩
 obtain⟨a1,a2,a3,a4,a5,a6,a7⟩:=h.arr k a ha hne;exact⟨fun t ts ht=>(o _ _ a5).trans (a1 t ts ht),fun j=>by rw[World.frozen?_setCell];exact a2 j,a3,by rw[size_setc];exact a4,a5,a6,a7⟩
theorem LkC.wait_ (h:LkC Q c DB BB ab vw w S) {w1:World} {g cap n t:Nat} (hown:w1.ownsRow c.B 65 2 (.slice (some ⟨g,0,none⟩) (S.waits.length+1) cap) (S.waits.length+1) (cellsW S.waits++[.int .i64 n,.int .i64 t])) (hg:w.grownBy w1 vw.ownBlock)
  (hat:vw.ownBlock=some g∨w.heap.size≤g):LkC Q c DB BB ab (.slice (some ⟨g,0,none⟩) (S.waits.length+1) cap) (w1.setCell ⟨c.L,5,none⟩ (.slice (some ⟨g,0,none⟩) (S.waits.length+1) cap)) (wait S n t):=by
 obtain⟨g1,g2,g3,g4,g5,g6⟩:=h.b1;obtain⟨p1,p2,p3⟩:=h.b2;obtain⟨q1,q2,q3⟩:=h.b3
 have gne:∀ b,b<w.heap.size→vw.ownBlock≠some b→g≠b:=fun b hb hv e=>by
  rcases hat with h1 | h1
  ·rw[h1,e] at hv;exact hv rfl
  ·omega
 have bl:∀ b,b<w.heap.size→vw.ownBlock≠some b→w1.heap[b]?=w.heap[b]?:=fun b hb hv=>hg.block b hb (fun e=>hv e.symm)
 have o:∀ (b:Nat) (j:Nat),b<w.heap.size→vw.ownBlock≠some b→b≠c.L→(w1.setCell ⟨c.L,5,none⟩ (.slice (some ⟨g,0,none⟩) (S.waits.length+1) cap)).cell? ⟨b,j,none⟩=w.cell? ⟨b,j,none⟩:=fun b j hb hv hn=>
  (World.cell?_setCell_other _ _ _ _ (by simp <;> omega)).trans (World.cell?_of_block (bl b hb hv))
 have o':∀ (j:Nat),j≠5→(w1.setCell ⟨c.L,5,none⟩ (.slice (some ⟨g,0,none⟩) (S.waits.length+1) cap)).cell? ⟨c.L,j,none⟩=w.cell? ⟨c.L,j,none⟩:=fun j hb=>
  (World.cell?_setCell_other _ _ _ _ (by simp <;> omega)).trans (World.cell?_of_block (bl _ q1 p1))
 have fr:∀ (b:Nat) (j:Nat),b<w.heap.size→vw.ownBlock≠some b→(w1.setCell ⟨c.L,5,none⟩ (.slice (some ⟨g,0,none⟩) (S.waits.length+1) cap)).frozen? ⟨b,j,none⟩=w.frozen? ⟨b,j,none⟩:=fun b j hb hv=>by
  rw[World.frozen?_setCell];exact World.frozen?_of_block (bl b hb hv)
 refine⟨(o' _ (by decide)).trans h.c0,(o' _ (by decide)).trans h.c1,(o' _ (by decide)).trans h.c2,(o' _ (by decide)).trans h.c3,(o' _ (by decide)).trans h.c4,World.cell?_setCell_same (u:=vw) _ _ _ ((World.cell?_of_block (bl _ q1 p1)).trans h.c5),(o' _ (by decide)).trans h.c6,fun j=>(fr _ j q1 p1).trans (h.f j),
  fun i x hx=>(o _ _ q2 p2 (by omega)).trans (h.did i x hx),fun j=>(fr _ j q2 p2).trans (h.fd j),fun k a ha=>(o _ _ q3 p3 (by omega)).trans (h.beg k a ha),fun j=>(fr _ j q3 p3).trans (h.fb j),fun k a ha hne=>?_,h.inj,?_,h.b1,?_,?_⟩
 ·obtain⟨a1,a2,a3,a4,a5,a6,a7,a8⟩:=h.arr k a ha hne
  refine⟨fun t ts ht=>(o _ _ a4 a8 a5).trans (a1 t ts ht),fun j=>(fr _ j a4 a8).trans (a2 j),a3,?_,a5,a6,a7,?_⟩
  ·rw[size_setc];have:=hg.size;omega
  ·intro e;injection e with e;exact gne _ a4 a8 e
 ·have:cellsW (wait S n t).waits=cellsW S.waits++[.int .i64 n,.int .i64 t]:=cellsW_snoc _ _ _
  rw[this];have e2:(wait S n t).waits.length=S.waits.length+1:=by unfold wait;simp
  rw[e2];exact row_set hown (by show some g≠some c.L;intro e;injection e with e;exact gne _ q1 p1 e)
 ·refine⟨?_,?_,?_⟩ <;> (intro e;injection e with e)
  ·exact gne _ q1 p1 e
  ·exact gne _ q2 p2 e
  ·exact gne _ q3 p3 e
 ·rw[size_setc];have:=hg.size;omega
theorem LkC.addOld (h:LkC Q c DB BB ab vw w S) {k t v:Nat} {arr:List Nat} (ha:S.begun[k]?=some arr) (hne:arr≠[]) (ht:t<arr.length):
  LkC Q c DB BB ab vw (w.setCell ⟨ab k,t,none⟩ (.int .u64 v)) { S with begun:=S.begun.set k (arr.set t v) }:=by
 obtain⟨g1,g2,g3,g4,g5,g6⟩:=h.b1;obtain⟨a1,a2,a3,a4,a5,a6,a7,a8⟩:=h.arr k arr ha hne;have o:∀ (b:Nat) (j:Nat),b≠ab k→(w.setCell ⟨ab k,t,none⟩ (.int .u64 v)).cell? ⟨b,j,none⟩=w.cell? ⟨b,j,none⟩:=fun b j hb=>World.cell?_setCell_other _ _ _ _ (by simp <;> omega)
 have hk:k<S.begun.length:=(List.getElem?_eq_some_iff.1 ha).1
 have hset:∀ (k':Nat) (a':List Nat),(S.begun.set k (arr.set t v))[k']?=some a'→(k'=k∧a'=arr.set t v)∨(k'≠k∧S.begun[k']?=some a'):=by
  intro k' a' h1;rw[List.getElem?_set] at h1
  split at h1
  ·rename_i he;injection h1 with h1;exact .inl ⟨he.symm,h1.symm⟩
  ·rename_i he;exact .inr ⟨fun e=>he e.symm,h1⟩
 have hne':arr.set t v≠[]:=by intro e;have:=congrArg List.length e;rw[List.length_set] at this;exact hne (List.eq_nil_of_length_eq_zero this)
 refine⟨(o _ _ a5.symm).trans h.c0,(o _ _ a5.symm).trans h.c1,(o _ _ a5.symm).trans h.c2,(o _ _ a5.symm).trans h.c3,(o _ _ a5.symm).trans h.c4,(o _ _ a5.symm).trans h.c5,(o _ _ a5.symm).trans h.c6,fun j=>by rw[World.frozen?_setCell];exact h.f j,
  fun i x hx=>(o _ _ a6.symm).trans (h.did i x hx),fun j=>by rw[World.frozen?_setCell];exact h.fd j,?_,fun j=>by rw[World.frozen?_setCell];exact h.fb j,?_,?_,row_set h.waits (by exact a8),h.b1,h.b2,by rw[size_setc];exact h.b3⟩
 ·intro k' a' h1
  refine(o _ _ a7.symm).trans ?_
  rcases hset k' a' h1 with ⟨rfl,rfl⟩ | ⟨h2,h3⟩
  ·rw[if_neg hne'];have:=h.beg _ _ ha;rw[if_neg hne] at this;exact this
  ·exact h.beg _ _ h3
 ·intro k' a' h1 h2
  rcases hset k' a' h1 with ⟨rfl,rfl⟩ | ⟨h3,h4⟩
  ·refine⟨fun t' ts ht'=>?_,fun j=>by rw[World.frozen?_setCell];exact a2 j,a3,by rw[size_setc];exact a4,a5,a6,a7,a8⟩
   rw[List.getElem?_set] at ht'
   split at ht'
   ·rename_i he
    subst he;injection ht' with ht';subst ht'
    exact World.cell?_setCell_same _ _ _ (a1 t _ (List.getElem?_eq_getElem ht))
   ·rename_i he
    exact(World.cell?_setCell_other _ _ _ _ (by simp <;> omega)).trans (a1 t' ts ht')
  ·obtain⟨e1,e2,e3,e4,e5,e6,e7,e8⟩:=h.arr k' a' h4 h2
   have hab:ab k'≠ab k:=fun e=>h3 (h.inj k' k a' arr h4 ha h2 hne e)
   exact⟨fun t' ts ht'=>(o _ _ hab).trans (e1 t' ts ht'),fun j=>by rw[World.frozen?_setCell];exact e2 j,e3,by rw[size_setc];exact e4,e5,e6,e7,e8⟩
 ·intro k1 k2 x1 x2 h1 h2 n1 n2 he
  have c1:∃ a,S.begun[k1]?=some a∧a≠[]:=by
   rcases hset k1 x1 h1 with ⟨rfl,_⟩ | ⟨_,h4⟩
   ·exact⟨arr,ha,hne⟩
   ·exact⟨x1,h4,n1⟩
  have c2:∃ a,S.begun[k2]?=some a∧a≠[]:=by
   rcases hset k2 x2 h2 with ⟨rfl,_⟩ | ⟨_,h4⟩
   ·exact⟨arr,ha,hne⟩
   ·exact⟨x2,h4,n2⟩
  obtain⟨y1,z1,z2⟩:=c1;obtain⟨y2,z3,z4⟩:=c2;exact h.inj k1 k2 y1 y2 z1 z3 z2 z4 he
theorem LkC.addNew (h:LkC Q c DB BB ab vw w S) {w1:World} {nb k t ts:Nat} (hb:Below w.heap.size w w1) (hn:w.heap.size≤nb) (hn2:nb<w1.heap.size) (hz:∀ i,i<Q.all→w1.cell? ⟨nb,i,none⟩=some (.int .u64 0)) (hf:∀ j,w1.frozen? ⟨nb,j,none⟩=false)
  (ha:S.begun[k]?=some []) (ht:t<Q.all) (hB:c.B≤w.heap.size):
  LkC Q c DB BB (fun k'=>if k'=k then nb else ab k') vw ((w1.setCell ⟨BB,k,none⟩ (.slice (some ⟨nb,0,none⟩) Q.all Q.all)).setCell ⟨nb,t,none⟩ (.int .u64 ts)) { S with begun:=S.begun.set k ((List.replicate Q.all 0).set t ts) }:=by
 have h1:=h.below hb;obtain⟨g1,g2,g3,g4,g5,g6⟩:=h.b1;obtain⟨q1,q2,q3⟩:=h.b3;have hw:∀ b,vw.ownBlock=some b→b<w.heap.size:=fun b hb=>(h.waits.lt b hb).2
 have o:∀ (b:Nat) (j:Nat),b≠BB→b≠nb→((w1.setCell ⟨BB,k,none⟩ (.slice (some ⟨nb,0,none⟩) Q.all Q.all)).setCell ⟨nb,t,none⟩ (.int .u64 ts)).cell? ⟨b,j,none⟩=w1.cell? ⟨b,j,none⟩:=fun b j h2 h3=>
  (World.cell?_setCell_other _ _ _ _ (by simp <;> omega)).trans (World.cell?_setCell_other _ _ _ _ (by simp <;> omega))
 have fr:∀ a,((w1.setCell ⟨BB,k,none⟩ (.slice (some ⟨nb,0,none⟩) Q.all Q.all)).setCell ⟨nb,t,none⟩ (.int .u64 ts)).frozen? a=w1.frozen? a:=fun a=>by rw[World.frozen?_setCell,World.frozen?_setCell]
 have sz:((w1.setCell ⟨BB,k,none⟩ (.slice (some ⟨nb,0,none⟩) Q.all Q.all)).setCell ⟨nb,t,none⟩ (.int .u64 ts)).heap.size=w1.heap.size:=by rw[size_setc,size_setc]
 have hk:k<S.begun.length:=(List.getElem?_eq_some_iff.1 ha).1
 have hset:∀ (k':Nat) (a':List Nat),(S.begun.set k ((List.replicate Q.all 0).set t ts))[k']?=some a'→(k'=k∧a'=(List.replicate Q.all 0).set t ts)∨(k'≠k∧S.begun[k']?=some a'):=by
  intro k' a' h1;rw[List.getElem?_set] at h1
  split at h1
  ·rename_i he;injection h1 with h1;exact .inl ⟨he.symm,h1.symm⟩
  ·rename_i he;exact .inr ⟨fun e=>he e.symm,h1⟩
 have hne':(List.replicate Q.all 0).set t ts≠[]:=by intro e;have:=congrArg List.length e;rw[List.length_set,List.length_replicate,List.length_nil] at this;omega
 refine⟨(o _ _ g5 (by omega)).trans h1.c0,(o _ _ g5 (by omega)).trans h1.c1,(o _ _ g5 (by omega)).trans h1.c2,(o _ _ g5 (by omega)).trans h1.c3,(o _ _ g5 (by omega)).trans h1.c4,(o _ _ g5 (by omega)).trans h1.c5,(o _ _ g5 (by omega)).trans h1.c6,fun j=>(fr _).trans (h1.f j),
  fun i x hx=>(o _ _ g6 (by omega)).trans (h1.did i x hx),fun j=>(fr _).trans (h1.fd j),?_,fun j=>(fr _).trans (h1.fb j),?_,?_,?_,h.b1,h.b2,by rw[sz];exact h1.b3⟩
 ·intro k' a' h2
  rcases hset k' a' h2 with ⟨rfl,rfl⟩ | ⟨h3,h4⟩
  ·rw[if_neg hne',if_pos rfl]
   exact(World.cell?_setCell_other _ _ _ _ (by simp <;> omega)).trans (World.cell?_setCell_same _ _ _ (h1.beg k' _ ha))
  ·rw[if_neg h3]
   exact((World.cell?_setCell_other _ _ _ _ (by simp <;> omega)).trans (World.cell?_setCell_other _ _ _ _ (by simp <;> omega))).trans (h1.beg k' a' h4)
 ·intro k' a' h2 h3
  rcases hset k' a' h2 with ⟨rfl,rfl⟩ | ⟨h4,h5⟩
  ·rw[if_pos rfl]
   refine⟨?_,fun j=>(fr _).trans (hf j),by omega,by rw[sz];exact hn2,by omega,by omega,by omega,fun e=>by have:=hw nb e;omega⟩;intro t' ts' ht';rw[List.getElem?_set] at ht'
   split at ht'
   ·rename_i he
    subst he;rw[List.length_replicate,if_pos ht] at ht';injection ht' with ht';subst ht'
    exact World.cell?_setCell_same (u:= .int .u64 0) _ _ _ ((World.cell?_setCell_other _ _ _ _ (by simp <;> omega)).trans (hz t ht))
   ·rename_i he
    rw[List.getElem?_replicate] at ht'
    split at ht'
    ·rename_i hlt
     injection ht' with ht';subst ht'
     exact(World.cell?_setCell_other _ _ _ _ (by simp <;> omega)).trans ((World.cell?_setCell_other _ _ _ _ (by simp <;> omega)).trans (hz t' hlt))
    ·cases ht'
  ·rw[if_neg h4]
   obtain⟨e1,e2,e3,e4,e5,e6,e7,e8⟩:=h1.arr k' a' h5 h3;have e4':=(h.arr k' a' h5 h3).2.2.2.1;exact⟨fun t' ts' ht'=>(o _ _ e7 (by omega)).trans (e1 t' ts' ht'),fun j=>(fr _).trans (e2 j),e3,by rw[sz];exact e4,e5,e6,e7,e8⟩
 ·intro k1 k2 x1 x2 h2 h3 n1 n2 he
  rcases hset k1 x1 h2 with ⟨rfl,_⟩ | ⟨m1,m2⟩
  ·rcases hset k2 x2 h3 with ⟨rfl,_⟩ | ⟨m3,m4⟩
   ·rfl
   ·rw[if_pos rfl,if_neg m3] at he
    have:=(h.arr k2 x2 m4 n2).2.2.2.1;omega
  ·rcases hset k2 x2 h3 with ⟨rfl,_⟩ | ⟨m3,m4⟩
   ·rw[if_neg m1,if_pos rfl] at he
    have:=(h.arr k1 x1 m2 n1).2.2.2.1;omega
   ·rw[if_neg m1,if_neg m3] at he
    exact h.inj k1 k2 x1 x2 m2 m4 n1 n2 he
 ·exact row_set (row_set h1.waits h.b2.2.2) (fun e=>by have:=hw nb e;omega)
end
end
structure Szs (Q:Pm):Prop where
 all:Q.all≤1000000
 len:Q.T.length≤1000
 pos:0<Q.T.length
 ws:∀ (t:Nat) (l:List (Nat × Nat)),Q.tc[t]?=some l→l.length≤1000000
theorem idx_le {Q:Pm} (hz:Szs Q) {n t:Nat} (hn:n<Q.T.length) (ht:t<Q.all):t * Q.T.length≤1000000000∧t * Q.T.length+n<Q.all * Q.T.length∧Q.all * Q.T.length≤1000000000:=by
 have h1:Q.all * Q.T.length≤1000000 * 1000:=Nat.mul_le_mul hz.all hz.len;have h2:=idx_lt hn ht;omega
theorem below_dn (B:Nat) (w:World) (m:Nat):Below B w (w.drewN m):=⟨rfl,rfl,rfl,Nat.le_refl _,fun _ _=>rfl⟩
theorem and8 {x w:Nat} (hx:x<4) (hw:w=1∨w=2):bits .and .u8 (x:Int) (w:Int)=((x &&& w:Nat):Int):=by
 have:x=0∨x=1∨x=2∨x=3:=by omega
 rcases this with rfl | rfl | rfl | rfl <;> rcases hw with rfl | rfl <;> decide
theorem or8 {x w:Nat} (hx:x<4) (hw:w=1∨w=2):bits .or .u8 (x:Int) (w:Int)=((x ||| w:Nat):Int):=by
 have:x=0∨x=1∨x=2∨x=3:=by omega
 rcases this with rfl | rfl | rfl | rfl <;> rcases hw with rfl | rfl <;> decide
theorem isnew_old {Q:Pm} {c:LkP} {DB BB:Nat} {ab:Nat→Nat} {vw:Value} {w:World} {S:LS} (h:LkC Q c DB BB ab vw w S) (ho:OkS Q S) (hs:Sml S) (hz:Szs Q) {n t wh:Nat} (hn:n<Q.T.length) (ht:t<Q.all) (hw:wh=1∨wh=2) (hh:has Q S n t wh):
  Calls Tryd.prog 35 #[.pointer (some ⟨c.L,0,none⟩),.int .i64 n,.int .i64 t,.int .u8 wh] w fun e w'=>e= .returned (.bool false)∧∃ m,w'=w.drewN m:=by
 obtain⟨P,hP⟩:∃ P,P=Q.T.length:=⟨_,rfl⟩;obtain⟨N,hN⟩:∃ N,N=Q.all * Q.T.length:=⟨_,rfl⟩;obtain⟨i1,i2,i3⟩:=idx_le hz hn ht;have c0:=h.c0;have c4:=h.c4;have hi:t * Q.T.length+n<S.did.length:=by rw[ho.dlen];exact i2
 have hd:=List.getElem?_eq_getElem hi;have hx4:=hs.1 _ _ hd;have cd:=h.did _ _ hd;unfold has at_ at hh
 rw[hd,Option.getD_some] at hh;obtain⟨x,hx⟩:∃ x,x=S.did[t * Q.T.length+n]:=⟨_,rfl⟩;rw[←hx] at hh cd hx4;rw[←hN] at c4 i2 i3;obtain⟨q,hq⟩:∃ q,q=t * Q.T.length:=⟨_,rfl⟩;rw[←hq] at i1 i2 cd;rw[←hP] at c0 hq;have e1:(t:Int) * (P:Int)=(q:Int):=by rw[hq];push_cast;rfl
 have e2:=and8 hx4 hw;have hy:((x &&& wh:Nat):Int)≠0:=by omega
 obtain⟨y,hy2⟩:∃ y:Int,y=((x &&& wh:Nat):Int):=⟨_,rfl⟩;rw[←hy2] at e2 hy;have hib:q+n<N:=i2;have hq0:(q:Int)≤1000000000:=by omega
 have hn0:(n:Int)≤1000000000:=by omega
 clear hh hs hx hq hP hN hy2 hd hx4 hw i2 hi ho
 suffices hs:Calls Tryd.prog 35 #[.pointer (some ⟨c.L,0,none⟩),.int .i64 n,.int .i64 t,.int .u8 wh] w fun e w'=>e= .returned (.bool false)∧Hid (∃ m,w'=w.drewN m) from hs.mono fun e w' ⟨a,b⟩=>⟨a,b.out⟩
 clear h;go_enter Tryd.func35,Tryd.ntmps35;go_wp2;go_quiet (fail);go_wp2;go_ret;exact⟨rfl,Lib.hid ⟨_,rfl⟩⟩
theorem isnew_new {Q:Pm} {c:LkP} {DB BB:Nat} {ab:Nat→Nat} {vw:Value} {w:World} {S:LS} (h:LkC Q c DB BB ab vw w S) (ho:OkS Q S) (hs:Sml S) (hz:Szs Q) {n t wh:Nat} (hn:n<Q.T.length) (ht:t<Q.all) (hw:wh=1∨wh=2) (hh:¬ has Q S n t wh):
  Calls Tryd.prog 35 #[.pointer (some ⟨c.L,0,none⟩),.int .i64 n,.int .i64 t,.int .u8 wh] w fun e w'=>e= .returned (.bool true)∧LkC Q c DB BB ab vw w' (mark Q S n t wh)∧Below c.B w w':=by
 obtain⟨P,hP⟩:∃ P,P=Q.T.length:=⟨_,rfl⟩;obtain⟨N,hN⟩:∃ N,N=Q.all * Q.T.length:=⟨_,rfl⟩;obtain⟨i1,i2,i3⟩:=idx_le hz hn ht;have c0:=h.c0;have c4:=h.c4;have hi:t * Q.T.length+n<S.did.length:=by rw[ho.dlen];exact i2
 have hd:=List.getElem?_eq_getElem hi;have hx4:=hs.1 _ _ hd;have cd:=h.did _ _ hd;have fd:=h.fd (t * Q.T.length+n);have HM:Hid (∀ m,LkC Q c DB BB ab vw ((w.drewN m).setCell ⟨DB,t * Q.T.length+n,none⟩ (.int .u8 (at_ Q S n t ||| wh:Nat))) (mark Q S n t wh)):=Lib.hid fun m=>(h.drews m).mark hi
 have HB:=Lib.hid h.b1.2.1;unfold has at hh;have hat:at_ Q S n t=S.did[t * Q.T.length+n]:=by unfold at_;rw[hd];rfl
 rw[hat] at HM hh;obtain⟨x,hx⟩:∃ x,x=S.did[t * Q.T.length+n]:=⟨_,rfl⟩;rw[←hx] at hh cd hx4 HM;rw[←hN] at c4 i2 i3;obtain⟨q,hq⟩:∃ q,q=t * Q.T.length:=⟨_,rfl⟩;rw[←hq] at i1 i2 cd HM fd;rw[←hP] at c0 hq;have e1:(t:Int) * (P:Int)=(q:Int):=by rw[hq];push_cast;rfl
 have e2:=and8 hx4 hw;have e3:=or8 hx4 hw;have hy:x &&& wh=0:=by omega
 rw[hy] at e2;obtain⟨y,hy2⟩:∃ y:Nat,y=x ||| wh:=⟨_,rfl⟩
 rw[←hy2] at e3 HM;obtain⟨i,hi2⟩:∃ i,i=q+n:=⟨_,rfl⟩;rw[←hi2] at cd HM i2 fd;have e4:(q:Int)+(n:Int)=(i:Int):=by omega
 have hib:i<N:=i2;have hq0:(q:Int)≤1000000000:=by omega
 have hn0:(n:Int)≤1000000000:=by omega
 clear hh hs hx hq hP hN hd hx4 hw i2 hi ho hat hy hy2 hi2;clear h;go_enter Tryd.func35,Tryd.ntmps35;go_wp2;go_quiet (fail);go_wp2;go_ret;exact⟨rfl,HM.out _,(below_dn c.B w _).setCell HB.out _⟩
structure Ctx (Q:Pm) (c:LkP) (w0:World):Prop where
 parts:PartsAt (Lt c.B) w0 c.PA Q.T
 turns:TurnsAt (Lt c.B) w0 c.TA Q.tc
 tab:TabC Q
 szs:Szs Q
structure LSt (Q:Pm) (c:LkP) (w0 w:World) (S:LS):Prop where
 below:Below c.B w0 w
 lk:Lk Q c w S
 ok:OkS Q S
 sml:Sml S
def PostLk (Q:Pm) (c:LkP) (w0:World) (tk:Tk) (S:LS) (e:Ending) (w':World):Prop:=e= .returned (.tuple #[])∧∃ S',Run Q tk S S'∧Lk Q c w' S'∧Below c.B w0 w'
def EntAt (Q:Pm) (c:LkP) (w0:World) (S:LS):Prop:=∀ w n t,LSt Q c w0 w S→VN Q n t→KidI Q (mark Q S n t 1)→Calls Tryd.prog 24 #[.pointer (some ⟨c.L,0,none⟩),.int .i64 (n:Nat),.int .i64 (t:Nat)] w (PostLk Q c w0 (.ent n t) S)
def FinAt (Q:Pm) (c:LkP) (w0:World) (S:LS):Prop:=∀ w n t,LSt Q c w0 w S→VN Q n t→KidI Q S→Calls Tryd.prog 31 #[.pointer (some ⟨c.L,0,none⟩),.int .i64 (n:Nat),.int .i64 (t:Nat)] w (PostLk Q c w0 (.fin n t) S)
theorem Ctx.part {Q:Pm} {c:LkP} {w0 w:World} (h:Ctx Q c w0) (hb:Below c.B w0 w) {n:Nat} {x:Nd} (hx:Q.T[n]?=some x):∃ K k,At15 w (c.PA.add (n * 15)) x K k∧IntsAt (Lt c.B) w K x.kids:=
 (h.parts.keep (same_below hb)).2 n x hx
theorem or64 (a b:Nat) (ha:a<18446744073709551616) (hb:b<18446744073709551616) {v:Nat} (h:v=a ||| b):bits .or .u64 (a:Int) (b:Int)=(v:Int):=by rw[h];exact bits_or_u64_nat a b ha hb
theorem btn_old {Q:Pm} {c:LkP} {w0 w:World} {S:LS} (hc:Ctx Q c w0) (hs:LSt Q c w0 w S) {n t ts:Nat} {x:Nd} {arr:List Nat} (hx:Q.T[n]?=some x) (hcn:x.cn≠0) (ha:S.begun[x.cn - 1]?=some arr) (hne:arr≠[]) (hv:VN Q n t) (hts:ts<512):
  Calls Tryd.prog 62 #[.pointer (some ⟨c.L,0,none⟩),.int .i64 n,.int .i64 t,.int .u64 ts] w (PostLk Q c w0 (.btn n t ts) S):=by
 obtain⟨DB,BB,ab,vw,h⟩:=hs.lk;have ht:=hv.lt hc.tab;obtain⟨g1,g2⟩:=hs.ok.arr _ _ ha hne;have hta:t<arr.length:=by omega
 have hat:=List.getElem?_eq_getElem hta;have hold:=(g2 _ _ hat).1;obtain⟨m1,m2,m3,_⟩:=h.arr _ _ ha hne;have ca:=m1 _ _ hat;have fa:=m2 t;have cb:=h.beg _ _ ha;rw[if_neg hne] at cb;have c0:=h.c0;have c3:=h.c3;obtain⟨K,kk,⟨_,_,_,_,_,_,_,_,_,_,p10,_⟩,_⟩:=hc.part hs.below hx
 have HE:Hid (∀ m,PostLk Q c w0 (.btn n t ts) S (.returned (.tuple #[])) ((w.drewN m).setCell ⟨ab (x.cn - 1),t,none⟩ (.int .u64 (arr[t] ||| ts:Nat)))):=Lib.hid fun m=>by
  refine⟨rfl,_,.btn_old hx hcn ha hne,⟨DB,BB,ab,vw,?_⟩,(hs.below.trans (below_dn _ _ _)).setCell m3 _⟩;have:=(h.drews m).addOld (v:=arr[t] ||| ts) ha hne hta;unfold addB;rw[hat,Option.getD_some];exact this
 obtain⟨o,ho⟩:∃ o,o=arr[t]:=⟨_,rfl⟩;rw[←ho] at ca HE hold;obtain⟨y,hy⟩:∃ y,y=o ||| ts:=⟨_,rfl⟩
 rw[←hy] at HE;have e3:=or64 o ts (by omega) (by omega) hy;obtain⟨k,hk⟩:∃ k,k=x.cn - 1:=⟨_,rfl⟩;rw[←hk] at ca fa cb HE;obtain⟨q,hq⟩:∃ q,q=x.cn:=⟨_,rfl⟩;rw[←hq] at p10 hk;have e1:(q:Int) - 1=(k:Int):=by omega
 have hkC:k<Q.C:=by have:=hc.tab.cn n x hx;omega
 have hnP:n<Q.T.length:=hv.1;obtain⟨P,hP⟩:∃ P,P=Q.T.length:=⟨_,rfl⟩;rw[←hP] at c0 hnP;have hz2:=hc.szs.len;have hz1:=hc.szs.all;have hCA:Q.C≤Q.all:=by unfold Pm.all;omega
 obtain⟨C,hC⟩:∃ C,C=Q.C:=⟨_,rfl⟩;obtain⟨A,hA⟩:∃ A,A=Q.all:=⟨_,rfl⟩;rw[←hC] at c3 hkC hCA;rw[←hA] at cb ht hz1 hCA;have hq1:q≤1000001:=by omega
 clear hP hC hA hk hq hy ho g1 g2 hta hat hold m1 m2 m3 hx hcn ha hne hv hts hz2 hc hs h;go_enter Tryd.func62,Tryd.ntmps62;go_wp2;go_quiet (fail);go_wp2
 go_end0
 exact HE.out _
theorem LkC.drew {Q:Pm} {c:LkP} {DB BB:Nat} {ab:Nat→Nat} {vw:Value} {w:World} {S:LS} (h:LkC Q c DB BB ab vw w S):LkC Q c DB BB ab vw w.drew S:=h.drews 1
theorem made_get {z:Value} {n t:Nat} (ht:t<n):(madeCells #[z] n).toList[t]?=some z:=by
 unfold madeCells;rw[Array.getElem?_toList,Array.getElem?_map,Array.getElem?_range,if_pos ht];simp[Nat.mod_one]
theorem made_cell (w:World) (m T:Nat) (z:Value) {n t:Nat} (ht:t<n):((w.drewN m).alloc (.cells (madeCells #[z] n) T)).cell? ⟨w.heap.size,t,none⟩=some z:=by
 have:=new_cells (w.drewN m) T (madeCells #[z] n) t z (made_get ht);rw[show ((⟨(w.drewN m).heap.size,0,none⟩:Addr).add t)=⟨w.heap.size,t,none⟩ by unfold Addr.add;split <;> simp_all <;> rfl] at this;exact this
theorem made_free (w:World) (m T:Nat) (z:Value) (n j:Nat):((w.drewN m).alloc (.cells (madeCells #[z] n) T)).frozen? ⟨w.heap.size,j,none⟩=false:=by
 have:((w.drewN m).alloc (.cells (madeCells #[z] n) T)).heap[w.heap.size]?=some (.cells (madeCells #[z] n) T):=heap_alloc_new (w.drewN m) _;unfold World.frozen?;rw[this];simp
theorem info90:(Tryd.prog.info? 90).map (fun i=>(i.zero,i.size,i.bytes))=some (some (.int .u64 0),1,8):=by kernel_rfl
theorem btn_new {Q:Pm} {c:LkP} {w0 w:World} {S:LS} (hc:Ctx Q c w0) (hs:LSt Q c w0 w S) (hI:KidI Q S) (HE:∀ S',left S'≤left S→EntAt Q c w0 S') {n t ts:Nat} {x:Nd} (hx:Q.T[n]?=some x) (hcn:x.cn≠0) (ha:S.begun[x.cn - 1]?=some []) (hv:VN Q n t) (hts:ts<512):
  Calls Tryd.prog 62 #[.pointer (some ⟨c.L,0,none⟩),.int .i64 n,.int .i64 t,.int .u64 ts] w (PostLk Q c w0 (.btn n t ts) S):=by
 obtain⟨DB,BB,ab,vw,h⟩:=hs.lk;have ht:=hv.lt hc.tab;have cb:=h.beg _ _ ha;rw[if_pos rfl] at cb;have fb:=h.fb (x.cn - 1);have c0:=h.c0;have c2:=h.c2;have c3:=h.c3;obtain⟨K,kk,⟨_,_,_,_,_,_,_,p7,_,_,p10,_⟩,hK⟩:=hc.part hs.below hx;obtain⟨y,k1,k2,k3,k4,k5,k6⟩:=hc.tab.ok.kid1 hx (cn_6 hc.tab.ok hx hcn);obtain⟨ad,rfl,had,ck⟩:=hK 0 (n+1) (by rw[k1];rfl);rw[k1] at p7;obtain⟨k,hk⟩:∃ k,k=x.cn - 1:=⟨_,rfl⟩;rw[←hk] at cb fb;obtain⟨q,hq⟩:∃ q,q=x.cn:=⟨_,rfl⟩;rw[←hq] at p10 hk;have e1:(q:Int) - 1=(k:Int):=by omega
 have hkC:k<Q.C:=by have:=hc.tab.cn n x hx;omega
 have hnP:n<Q.T.length:=hv.1;obtain⟨P,hP⟩:∃ P,P=Q.T.length:=⟨_,rfl⟩;rw[←hP] at c0 hnP;have hz2:=hc.szs.len;have hz1:=hc.szs.all;have e2:(Q.old:Int)+(Q.C:Int)=(Q.all:Int):=by unfold Pm.all;push_cast;rfl
 have hCA:Q.C≤Q.all:=by unfold Pm.all;omega
 have hoA:Q.old≤Q.all:=by unfold Pm.all;omega
 obtain⟨C,hC⟩:∃ C,C=Q.C:=⟨_,rfl⟩;obtain⟨A,hA⟩:∃ A,A=Q.all:=⟨_,rfl⟩;obtain⟨o,ho⟩:∃ o,o=Q.old:=⟨_,rfl⟩;rw[←hC] at c3 hkC hCA e2;rw[←hA] at ht hz1 hCA e2 hoA;rw[←ho] at c2 e2 hoA;have hq1:q≤1000001:=by omega
 have hmk:=run_make_row' (P:=Tryd.prog) 117 90 (.int .u64 0) 8 Tryd.underlying117 info90 rfl .i64 .i64 A (by omega) (by omega);have cbA:∀ o m,((w.drewN m).alloc o).cell? ⟨BB,k,none⟩=some (.slice none 0 0):=fun o m=>(((below_dn w.heap.size w m).alloc (Nat.le_refl _) o).cell (p:=⟨BB,k,none⟩) h.b3.2.2).trans cb
 have fbA:∀ o m,((w.drewN m).alloc o).frozen? ⟨BB,k,none⟩=false:=fun o m=>(((below_dn w.heap.size w m).alloc (Nat.le_refl _) o).frozen (p:=⟨BB,k,none⟩) h.b3.2.2).trans fb
 obtain⟨v,hv2⟩:∃ v,v=Q.old+x.cn:=⟨_,rfl⟩;obtain⟨u,hu⟩:∃ u,u=Q.old+x.cn - 1:=⟨_,rfl⟩;have e5:(o:Int)+(q:Int)=(v:Int):=by omega
 have e6:(v:Int) - 1=(u:Int):=by omega
 have hvb:v≤3000000:=by omega
 have hBH:c.B≤w.heap.size:=by have:=h.b1.1;have:=h.b3.1;omega
 have hkk':x.cn - 1=k:=by omega
 have HX:Hid (∀ m,LkC Q c DB BB (fun k'=>if k'=k then w.heap.size else ab k') vw ((((w.drewN m).alloc (.cells (madeCells #[.int .u64 0] A) 90)).setCell ⟨BB,k,none⟩ (.slice (some ⟨w.heap.size,0,none⟩) A A)).setCell ⟨w.heap.size,t,none⟩ (.int .u64 ts)) (addB S (x.cn - 1) t ts (List.replicate Q.all 0))):=Lib.hid fun m=>by
  have:=h.addNew (w1:=(w.drewN m).alloc (.cells (madeCells #[.int .u64 0] A) 90)) (nb:=w.heap.size) (k:=k) (t:=t) (ts:=ts) ((below_dn _ _ _).alloc (Nat.le_refl _) _) (Nat.le_refl _) (by simp) (fun i hi=>made_cell w m 90 _ (by omega)) (fun j=>made_free w m 90 _ A j) (by rw[←hkk'];exact ha) (by omega) hBH;rw[←hA] at this;unfold addB;rw[hkk',←hA,List.getElem?_replicate,if_pos ht,Option.getD_some,Nat.zero_or];exact this
 have HB:Hid (∀ m,Below c.B w0 ((((w.drewN m).alloc (.cells (madeCells #[.int .u64 0] A) 90)).setCell ⟨BB,k,none⟩ (.slice (some ⟨w.heap.size,0,none⟩) A A)).setCell ⟨w.heap.size,t,none⟩ (.int .u64 ts))):=Lib.hid fun m=>
  ((hs.below.trans (((below_dn c.B w m).alloc hBH _))).setCell h.b1.2.2.1 _).setCell hBH _
 have HG:Hid (∀ W,Below c.B w0 W→LkC Q c DB BB (fun k'=>if k'=k then w.heap.size else ab k') vw W (addB S (x.cn - 1) t ts (List.replicate Q.all 0))→
   W.cell? ⟨(c.PA.add (n * 15)).block,(c.PA.add (n * 15)).off+7,none⟩=some (.slice (some ad) 1 kk)∧W.cell? ⟨(c.PA.add (n * 15)).block,(c.PA.add (n * 15)).off+10,none⟩=some (.int .i64 (q:Nat))∧W.cell? ad=some (.int .i64 ((n+1:Nat):Int))∧W.cell? ⟨c.L,2,none⟩=some (.slice (some c.TA) o c.tp)):=Lib.hid fun W hb hl=>by
  have hbl:∀ a:Addr,a.block<c.B→W.cell? a=w.cell? a:=fun a ha=>(hb.cell ha).trans (hs.below.cell ha).symm
  have hpl:(c.PA.add (n * 15)).block<c.B:=by rw[block_of_add];exact hc.parts.1
  exact⟨(hbl ⟨(c.PA.add (n * 15)).block,_,none⟩ hpl).trans p7,(hbl ⟨(c.PA.add (n * 15)).block,_,none⟩ hpl).trans p10,(hbl _ had).trans (by rw[show ad.add 0=ad by simp[Addr.add]] at ck;exact ck),hl.c2.trans (by rw[ho])⟩
 have hlt2:=(VN.new hx hcn k2 (by omega) k5)
 have HK:Hid (∀ W,LkC Q c DB BB (fun k'=>if k'=k then w.heap.size else ab k') vw W (addB S (x.cn - 1) t ts (List.replicate Q.all 0))→Below c.B w0 W→Calls Tryd.prog 24 #[.pointer (some ⟨c.L,0,none⟩),.int .i64 ((n+1:Nat):Int),.int .i64 (u:Nat)] W (PostLk Q c w0 (.btn n t ts) S)):=Lib.hid fun W hl hb=>by
  have ho':OkS Q (addB S (x.cn - 1) t ts (List.replicate Q.all 0)):=by
   refine addB_ok hs.ok hx hc.tab hcn hv hts (List.length_replicate ..) ?_;intro t' ts' ht';rw[List.getElem?_replicate] at ht'
   split at ht'
   ·injection ht' with ht';subst ht';exact⟨by decide,fun q=>absurd rfl q⟩
   ·cases ht'
  have le:=addB_le (Q:=Q) (t:=t) (ts:=ts) (arr:=List.replicate Q.all 0) (.inr ha)
  have:=HE (addB S (x.cn - 1) t ts (List.replicate Q.all 0)) (Nat.le_refl _) W (n+1) u ⟨hb,⟨_,_,_,_,hl⟩,ho',hs.sml⟩ (by rw[hu];exact hlt2) (by
   intro n' x' hx' hc' arr' ha' hne' m hm;by_cases hcc:x.cn - 1=x'.cn - 1
   ·have hnn:n=n':=hc.tab.ok.one _ _ _ _ hx hx' hcn (by omega)
    subst hnn;rw[hx] at hx';injection hx' with hx';subst hx'
    rw[k1] at hm;injection hm with hm;subst hm
    rw[hu];exact(new_mark1 ho' hlt2.1 (hlt2.lt hc.tab)).2.2
   ·change (addB S (x.cn - 1) t ts (List.replicate Q.all 0)).begun[x'.cn - 1]?=some arr' at ha'
    unfold addB at ha';simp only at ha';rw[List.getElem?_set_ne hcc] at ha';refine(hI n' x' hx' hc' arr' ha' hne' m hm).le (le.trans ?_);rw[hu];exact LeS.mark ho' hlt2.1 (hlt2.lt hc.tab))
  refine this.mono ?_;rintro e w' ⟨he,S',hr,hl',hb'⟩;refine⟨he,S',.btn_new hx hcn ha k1 ?_,hl',hb'⟩;rw[hu] at hr;exact hr
 have hqB:=h.b3.2.2;have nA:∀ m v,(((w.drewN m).alloc (.cells (madeCells #[.int .u64 0] A) 90)).setCell ⟨BB,k,none⟩ v).cell? ⟨w.heap.size,t,none⟩=some (.int .u64 0):=fun m v=>(World.cell?_setCell_other _ _ _ _ (by simp <;> omega)).trans (made_cell w m 90 _ ht)
 have nF:∀ m v,(((w.drewN m).alloc (.cells (madeCells #[.int .u64 0] A) 90)).setCell ⟨BB,k,none⟩ v).frozen? ⟨w.heap.size,t,none⟩=false:=fun m v=>by rw[World.frozen?_setCell];exact made_free w m 90 _ A t
 clear hqB;obtain⟨m,hm⟩:∃ m,m=n+1:=⟨_,rfl⟩;rw[←hm,show ad.add 0=ad by simp[Addr.add]] at ck
 change w.cell? ⟨(c.PA.add (n * 15)).block,(c.PA.add (n * 15)).off+7,none⟩=some (.slice (some ad) 1 kk) at p7
 rw[←hm] at HG HK;clear hm;clear hv2 hu hkk' hlt2 hBH;clear hP hC hA ho hq hk k1 k2 k3 k4 k5 k6 hx hcn ha hv hts hz2 hc hs h hI HE hK;go_enter Tryd.func62,Tryd.ntmps62;go_wp2;go_quiet (fail);go_wp2
 go_region
 go_wp2;obtain⟨W,hW⟩:∃ W,W=((((w.drewN (nq+1)).alloc (.cells (madeCells #[.int .u64 0] A) 90)).setCell ⟨BB,k,none⟩ (.slice (some ⟨w.heap.size,0,none⟩) A A)).setCell ⟨w.heap.size,t,none⟩ (.int .u64 ts)):=⟨_,rfl⟩;have hl:=HX.out (nq+1);have hb:=HB.out (nq+1);rw[←hW] at hl hb;rw[←hW];have HL:=Lib.hid hl;have HBW:=Lib.hid hb;obtain⟨d7,d10,dk,d2⟩:=HG.out W hb hl;clear hW hl hb nA nF cbA fbA cb fb c2 c3 p7 p10 ck hmk;refine wp_region_quiet_tail 18 (by kernel_rfl) (by kernel_rfl) ?_;simp only[List.take_succ_cons,List.take_zero,List.drop_succ_cons,List.drop_zero]
 repeat (go_big_quiet_step (fail))
 refine wpQuiet_nil ?_;go_wp2_with (go_at_call 24;((with_reducible refine(HK.out _ HL.out.drew HBW.out.drew).mono ?_));rintro e w5 ⟨rfl,h5⟩)
 go_end0
 exact⟨rfl,h5⟩
theorem at15_empty {w:World} {a:Addr} {x:Nd} {K:Option Addr} {k:Nat} (h:At15 w a x K k) (B E:Bool):w.cell? ⟨a.block,a.off+11+modeN B E,none⟩=some (.bool (emptyE B E x.r)):=by
 obtain⟨_,_,_,_,_,_,_,_,_,_,_,a11,a12,a13,a14⟩:=h
 cases B <;> cases E
 ·exact a11
 ·exact a13
 ·exact a12
 ·exact a14
theorem modeN_lt (B E:Bool):modeN B E<4:=by cases B <;> cases E <;> decide
theorem wrapU (x:Int):IntKind.u64.wrap x=x % 18446744073709551616:=by simp[IntKind.wrap,IntKind.bits,IntKind.signed]
theorem wrapU_nat {x:Nat} (h:x<18446744073709551616):IntKind.u64.wrap (x:Int)=(x:Int):=by rw[wrapU];omega
theorem wrapU_pow {n:Nat} (h:n≤8):IntKind.u64.wrap (2 ^ n)=((2 ^ n:Nat):Int):=by
 have:(2:Int) ^ n=((2 ^ n:Nat):Int):=by push_cast;rfl
 rw[this];apply wrapU_nat;have:2 ^ n≤2 ^ 8:=Nat.pow_le_pow_right (by decide) h;omega
theorem wrapU_neg {x:Nat} (h:x<18446744073709551616):IntKind.u64.wrap (-(x:Int))=((negW x:Nat):Int):=by rw[wrapU];unfold negW;omega
theorem negW_lt (x:Nat):negW x<18446744073709551616:=Nat.mod_lt _ (by decide)
theorem and64' (a b:Nat) (ha:a<18446744073709551616) (hb:b<18446744073709551616):bits .and .u64 (a:Int) (b:Int)=((a &&& b:Nat):Int):=bits_and_u64_nat a b ha hb
theorem and_lt64 {a b:Nat} (h:a<18446744073709551616):a &&& b<18446744073709551616:=Nat.lt_of_le_of_lt Nat.and_le_left h
theorem or_lt64 {a b:Nat} (h:a<18446744073709551616) (h':b<18446744073709551616):a ||| b<18446744073709551616:=Nat.or_lt_two_pow (n:=64) h h'
theorem up_steps {a:Nat} (h:a<1024):∃ g1 g2 g3:Nat,IntKind.u64.wrap (-(a:Int))=(g1:Int)∧bits .and .u64 (a:Int) (g1:Int)=(g2:Int)∧IntKind.u64.wrap (-(g2:Int))=(g3:Int)∧bits .or .u64 (a:Int) (g3:Int)=((upTo a:Nat):Int)∧upTo a<18446744073709551616:=by
 have ha:a<18446744073709551616:=by omega
 refine⟨negW a,a &&& negW a,negW (a &&& negW a),wrapU_neg ha,and64' _ _ ha (negW_lt _),wrapU_neg (and_lt64 ha),or64 _ _ ha (negW_lt _) rfl,or_lt64 ha (negW_lt _)⟩
theorem top_steps {a n:Nat} (ha:a<18446744073709551616) (hn:n≤8):∃ r1 r2:Nat,IntKind.u64.wrap (2 * 2 ^ n)=(r1:Int)∧IntKind.u64.wrap ((r1:Int) - 1)=(r2:Int)∧bits .and .u64 (a:Int) (r2:Int)=((a &&& ((2 <<< n) - 1):Nat):Int):=by
 have h1:2 ^ (n+1)≤2 ^ 9:=Nat.pow_le_pow_right (by decide) (by omega);have h0:0<2 ^ (n+1):=Nat.pow_pos (by decide);have e:2 <<< n=2 ^ (n+1):=by rw[Nat.shiftLeft_eq,Nat.pow_succ];omega
 refine⟨2 ^ (n+1),2 ^ (n+1) - 1,?_,?_,?_⟩
 ·have:(2:Int) * 2 ^ n=((2 ^ (n+1):Nat):Int):=by push_cast;rw[Int.pow_succ];omega
  rw[this];exact wrapU_nat (by omega)
 ·have:((2 ^ (n+1):Nat):Int) - 1=((2 ^ (n+1) - 1:Nat):Int):=by omega
  rw[this];exact wrapU_nat (by omega)
 ·rw[e];exact and64' _ _ ha (by omega)
theorem andNot_bits {a p:Nat} (ha:a<512) (hp:p<512):bits .andNot .u64 (a:Int) (p:Int)=((a ^^^ (a &&& p):Nat):Int):=by
 rw[u64_andNot_nat a p (by omega) (by omega)]
 congr 1
 apply Nat.eq_of_testBit_eq;intro k;have e:18446744073709551615 - p=2 ^ 64 - (p+1):=by omega
 rw[e,Nat.testBit_and,Nat.testBit_two_pow_sub_succ (by omega),Nat.testBit_xor,Nat.testBit_and];by_cases hk:k<64
 ·cases a.testBit k <;> cases p.testBit k <;> simp[hk]
 ·rw[Nat.testBit_lt_two_pow (x:=a) (Nat.lt_of_lt_of_le ha (Nat.le_trans (by decide:512≤2 ^ 64) (Nat.pow_le_pow_right (by decide) (by omega))))];simp
theorem shr_div (a n:Nat):(a:Int) / 2 ^ n=((a >>> n:Nat):Int):=by
 rw[Nat.shiftRight_eq_div_pow];push_cast;rfl
end Go.Proofs.YtiafefjaldcpbaaDoor
