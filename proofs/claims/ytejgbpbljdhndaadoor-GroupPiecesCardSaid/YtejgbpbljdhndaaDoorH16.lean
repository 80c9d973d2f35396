import Derived.Test.YtejgbpbljdhndaaDoorH32
import Derived.Deep.MidRow
import Derived.Deep.Cut
import Derived.Test.YtejgbpbljdhndaaDoorG13
import Derived.Test.YtejgbpbljdhndaaDoorClone
import Derived.Test.YtejgbpbljdhndaaDoorParts
import Derived.Test.YtejgbpbljdhndaaDoorF9
namespace Go.Proofs.YtejgbpbljdhndaaDoor
open Go Go.RowKit
set_option maxRecDepth 100000
set_option maxHeartbeats 8000000
section
set_option linter.unusedSimpArgs false
theorem y2p:∀ (N k:Nat),k<N→∀ (p:Option Nat) (l:Evs) (w:World) (b:Nat) (F:Bool→Nat→Int),TrailN w p l k→CutsAt w b F→(∀ q n, -1≤F q n)→
  Calls Tryd.prog 31 #[pv p,.pointer (some ⟨b,0,none⟩)] w (TellPost w b (updC F l))
 | 0,k,hk=>by omega
 | N+1,k,hk=>by
   intro p l w b F ht hC hF;have IH:=Lib.hid (y2p N);obtain⟨G,hG⟩:∃ G,G=updC F l:=⟨_,rfl⟩;rw[←hG];obtain⟨v,hv⟩:∃ v,.pointer v=pv p:=⟨_,rfl⟩;have HI0:Hid (∃ p',.pointer v=pv p'∧TellI w b G k p' w):=Lib.hid ⟨p,hv,l,F,ht,hC,hF,hG.symm,Frm.refl _ _⟩;rw[←hv];have HK:=Lib.hid hk;clear ht hC hF hG hv hk;go_enter Tryd.func31,Tryd.ntmps31;go_wp2
   go_loopg [0] k (fun kk v wr=>∃ u,v= .pointer u∧Hid (kk≤k∧∃ p',.pointer u=pv p'∧TellI w b G kk p' wr))
   case atStart=>exact⟨_,rfl,Lib.hid ⟨Nat.le_refl _,HI0.out⟩⟩
   case round=>
    obtain⟨u,rfl,HR⟩:=hrel;obtain⟨hkk,p',hu,hT⟩:=HR.out
    cases p' with
    | none=>
      obtain rfl:u=none:=by simpa[pv] using hu
      have HFIN:Hid (TellPost w b G (.returned (.tuple #[])) wr):=Lib.hid (by
       obtain⟨l1,F1,h1,h2,h3,h4,h5⟩:=hT
       cases h1
       rw[y94 h3] at h4;exact⟨rfl,Lib.hid ⟨h4 ▸ h2,h5⟩⟩)
      clear hT hu hkk HR;go_wp2
      (try simp only[Exit.inBlock,Exit.then])
      refine bodyPost_ret (results_none (by rfl) _ _ _) rfl ?_;exact HFIN.out
    | some a=>
      obtain rfl:u=some ⟨a,0,none⟩:=by simpa[pv] using hu
      obtain⟨l1,F1,h1,h2,h3,h4,h5⟩:=hT
      rcases h1.inv with ⟨p2,m,x,y,l2,k2,g1,g2,g3,g4,g5,g6,g7⟩ | ⟨b2,p2,l2,l3,k2,k3,g1,g2,g3,g4,g5⟩
      ·obtain⟨v2,hv2⟩:∃ v2,Value.pointer v2=pv p2:=⟨_,rfl⟩
       rw[←hv2] at g1;have c0:wr.cell? ⟨a,0,none⟩=some (.pointer v2):=(z0c g1 0).trans rfl;have c1:wr.cell? ⟨a,1,none⟩=some (.pointer none):=(z0c g1 1).trans rfl;have c2:wr.cell? ⟨a,2,none⟩=some (.int .i64 (m:Nat)):=(z0c g1 2).trans rfl;have c3:wr.cell? ⟨a,3,none⟩=some (.int .i64 x):=(z0c g1 3).trans rfl;have c4:wr.cell? ⟨a,4,none⟩=some (.int .i64 y):=(z0c g1 4).trans rfl;obtain⟨e0,e1,fr⟩:=h2.cells g2;have hne:a≠b:=fun e=>h2.noMark a e _ g1
       have hs4:∀ n,_:=fun n=>y6j (wr:=wr.drewN n) (h2.keep rfl) g2 x y
       have hm0:(0:Int)≤(m:Int):=by omega
       have hm1:(m:Int)<10:=by omega
       have HEND:Hid (∀ w',CutsAt w' b (setF F1 m x y)→Frm (fun k=>k=b) wr w'→∃ k',k'<gk∧(k'≤k∧∃ p',Value.pointer v2=pv p'∧TellI w b G k' p' w')):=Lib.hid fun w' q1 q2=>
        ⟨k2,by omega,by omega,p2,hv2,TellI.mark h3 h2 h5 h4 g3 g5 g6 g7 q1 q2⟩
       obtain⟨X,hX⟩:∃ X,X=F1 true m:=⟨_,rfl⟩;obtain⟨Y,hY⟩:∃ Y,Y=F1 false m:=⟨_,rfl⟩;rw[←hX] at e0;rw[←hY] at e1;rw[←hX,←hY] at hs4;have HS:=Lib.hid hs4;have HFr:Hid (∀ n,Frm (fun k=>k=b) wr (wr.drewN n)):=Lib.hid fun n=> .of_below ⟨rfl,rfl,rfl,Nat.le_refl _,fun _ _=>rfl⟩
       have HSt:Hid (∀ (U:World) (o:Nat) (u:Value),Frm (fun k=>k=b) wr U→Frm (fun k=>k=b) wr (U.setCell ⟨b,o,none⟩ u)):=Lib.hid fun U o u h=>h.trans (Frm.set (S:=fun k=>k=b) (b:=b) rfl o U u) fun _ _ q=>q
       clear h1 h2 h3 h4 h5 g1 g2 g3 g4 g5 g6 g7 hX hY hv2 hs4 hu hkk HR;by_cases hY0:Y<0
       ·have d1:decide (Y<0)=true:=by simpa using hY0
        by_cases hX0:X<0
        ·have d2:decide (X<0)=true:=by simpa using hX0
         go_wp2;go_quiet (fail);go_wp2;obtain⟨k',q1,q2⟩:=HEND.out _ ((HS.out nq).1 hY0 hX0) (HSt.out _ _ _ (HSt.out _ _ _ (HFr.out nq)))
         go_roundg k'
         case measure=>exact q1
         case rel=>exact⟨_,rfl,Lib.hid q2⟩
        ·have d2:decide (X<0)=false:=by simpa using hX0
         go_wp2;go_quiet (fail);go_wp2;obtain⟨k',q1,q2⟩:=HEND.out _ ((HS.out nq).2.1 hY0 hX0) (HSt.out _ _ _ (HFr.out nq))
         go_roundg k'
         case measure=>exact q1
         case rel=>exact⟨_,rfl,Lib.hid q2⟩
       ·have d1:decide (Y<0)=false:=by simpa using hY0
        by_cases hX0:X<0
        ·have d2:decide (X<0)=true:=by simpa using hX0
         go_wp2;go_quiet (fail);go_wp2;obtain⟨k',q1,q2⟩:=HEND.out _ ((HS.out nq).2.2.1 hY0 hX0) (HSt.out _ _ _ (HFr.out nq))
         go_roundg k'
         case measure=>exact q1
         case rel=>exact⟨_,rfl,Lib.hid q2⟩
        ·have d2:decide (X<0)=false:=by simpa using hX0
         go_wp2;go_quiet (fail);go_wp2;obtain⟨k',q1,q2⟩:=HEND.out _ ((HS.out nq).2.2.2 hY0 hX0) (HFr.out nq)
         go_roundg k'
         case measure=>exact q1
         case rel=>exact⟨_,rfl,Lib.hid q2⟩
      ·obtain⟨v2,hv2⟩:∃ v2,Value.pointer v2=pv p2:=⟨_,rfl⟩
       rw[←hv2] at g1;have c0:wr.cell? ⟨a,0,none⟩=some (.pointer v2):=(z0c g1 0).trans rfl;have c1:wr.cell? ⟨a,1,none⟩=some (.pointer (some ⟨b2,0,none⟩)):=(z0c g1 1).trans rfl
       have K31:Hid (Calls Tryd.prog 31 #[.pointer (some ⟨b2,0,none⟩),.pointer (some ⟨b,0,none⟩)] wr fun e w2=>e= .returned (.tuple #[])∧w2.cell? ⟨a,0,none⟩=some (.pointer v2)∧Hid (∃ k',k'<gk∧(k'≤k∧∃ p',Value.pointer v2=pv p'∧TellI w b G k' p' w2))):=Lib.hid (by
        have hkN:=HK.out;refine(IH.out k3 (by omega) (some b2) l3 wr b F1 g3 h2 h3).mono fun e w2 hp=>?_
        obtain⟨q1,q2⟩:=hp;obtain⟨q2,q3⟩:=q2.out;have hab:a≠b:=fun e=>h2.noMark a e _ g1
        have ha:=q3.block a (Array.getElem?_eq_some_iff.mp g1).1 hab;refine⟨q1,(World.cell?_of_block ha).trans c0,Lib.hid ⟨k2,by omega,by omega,p2,hv2,l2,updC F1 l3,g2.keep q3 h2.noMark,q2,x02 h3 l3,?_,h5.trans q3 fun _ _ q=>q⟩⟩;rw[z8a,←g4];exact h4)
       clear h1 h2 h3 h4 h5 g1 g2 g3 g4 g5 hv2 hu hkk HR;go_wp2_with (first | (go_at_call 31;((with_reducible refine(K31.out).mono ?_));rintro _ w2 ⟨rfl,cc0,HQ⟩) | fail);obtain⟨k',q1,q2⟩:=HQ.out
       go_roundg k'
       case measure=>exact q1
       case rel=>exact⟨_,rfl,Lib.hid q2⟩
end
section
set_option linter.unusedSimpArgs false
def cutF (F:Bool→Nat→Int) (n:Nat):Int × Int:=(F true n,F false n)
theorem CutsAt.heap {w:World} {b:Nat} {F:Bool→Nat→Int} (h:CutsAt w b F):w.heap[b]?=some (.cells (cutsA (cutF F)) 35):=by
 obtain⟨cs,h1,h2,h3⟩:=h;rw[h1]
 congr 2
 apply Array.ext_getElem?;intro i;by_cases hi:i<20
 ·obtain⟨g1,g2⟩:=h3 (i / 2) (by omega)
  obtain⟨k1,k2⟩:=z19 (cutF F) (n:=i / 2) (by omega)
  rcases(show i=i / 2 * 2∨i=i / 2 * 2+1 by omega) with e | e
  ·rw[e,g1,k1];rfl
  ·rw[e,g2,k2];rfl
 ·rw[Array.getElem?_eq_none (by omega),Array.getElem?_eq_none (by rw[y0t];omega)]
def matM (i k:Nat) (l:Evs) (n:Nat):Int × Int:=if n=0 then ((i:Int),(k:Int)) else (lastOf true n l,lastOf false n l)
def F1 (i k:Nat):Bool→Nat→Int:=fun q n=>if n=0 then (if q=true then (i:Int) else (k:Int)) else -1
theorem F1_ge (i k:Nat):∀ q n, -1≤F1 i k q n:=fun q n=>by unfold F1;(repeat' split) <;> omega
theorem x1o (i k:Nat) (l:Evs):cutF (updC (F1 i k) l)=matM i k l:=by
 funext n
 unfold cutF updC F1 matM;by_cases h:n=0
 ·have h1:¬ (i:Int)<0:=by omega
  have h2:¬ (k:Int)<0:=by omega
  simp[h,h1,h2]
 ·simp[h]
theorem z0y {ops:Array Oper} {rest:List Oper} {op:Oper} {a:Act} {w:World} {Q:Exit→Act→World→Prop} (hgd:op.guard=none) (ty:TypeId) (x y:Operand) (ho:op.op= .store ty x y)
  (b:Nat) (old cells:Array Value) (t:TypeId) (hx:a.eval x= .pointer (some ⟨b,0,none⟩)) (hy:a.eval y= .agg cells) (hg:w.heap[b]?=some (.cells old t)) (hs:old.size=cells.size)
  (hi:(Tryd.prog.info? ty).map (·.size)=some cells.size) (h1:cells.all (·.oneCell')=true)
  (h:wpList Tryd.prog ops Q rest (a.put op.dst undef) (w.setRow b cells)):wpList Tryd.prog ops Q (op::rest) a w:=
 wpList_plain hgd fun _ hK=>by
  unfold Oper.wp execOp;simp only[ho,hx,hy,Instr.storeAt,Instr.sureAddr,Sem.run_bind,Sem.run_pure,Result.andThen_ok,run_storeVar_row w b t ty old cells hg hi hs h1];exact hK _ _ h
theorem z2i:(Tryd.prog.info? 35).map (·.size)=some 20:=by kernel_rfl
theorem y1g {W:World} {MB t:Nat} {M:Nat→Int × Int} (h:W.heap[MB]?=some (.cells (cutsA M) t)):W.rangeAt MB 0 (cutsA M).toList:=fun q v hq=>by
 rw[Nat.zero_add];exact(cell_of_row W MB q _ t (0,0) h).trans (by rw[←Array.getElem?_toList];exact hq)
theorem z5x {P:Program} {fn:Func} {a:Tmp} {t:TypeId} (h:fn.results=#[.cell a t]) (tmps:Array Value) {p:Addr} {v:Value} {w:World} (ht:tmps.getD a undef= .pointer (some p)) (hl:(loadVar t p).run P w= .ok v w):(results fn tmps).run P w= .ok v w:=by
 have ht':tmps[a]?.getD undef= .pointer (some p):=by simpa using ht
 simp[results,h,asAddr,ht',hl,Result.andThen]
theorem z1u {P:Program} {fn:Func} {a u:Tmp} {t:TypeId} (h:fn.results=#[.cell a t,.tmp u]) (tmps:Array Value) {p:Addr} {v x:Value} {w:World} (ht:tmps.getD a undef= .pointer (some p)) (hu:tmps.getD u undef=x) (hl:(loadVar t p).run P w= .ok v w):(results fn tmps).run P w= .ok (.tuple #[v,x]) w:=by
 have ht':tmps[a]?.getD undef= .pointer (some p):=by simpa using ht
 have hu':tmps[u]?.getD undef=x:=by simpa using hu
 simp[results,h,asAddr,ht',hu',hl,Result.andThen]
structure MatI (w wr:World) (st:Nat) (u:Option Addr) (F:Bool→Nat→Int):Prop where
 way:wr.heap[w.heap.size]?=some (.cells #[.int .i64 (st:Nat),.pointer u] 58)
 res:∃ cs,wr.heap[w.heap.size+1]?=some (.cells cs 35)∧cs.size=20
 cuts:CutsAt wr (w.heap.size+2) F
 low:Below w.heap.size w wr
theorem MatI.step {w wr w':World} {st:Nat} {u:Option Addr} {F F':Bool→Nat→Int} (h:MatI w wr st u F) (hc:CutsAt w' (w.heap.size+2) F') (hf:Frm (fun k=>k=w.heap.size+2) wr w'):MatI w w' st u F':=by
 obtain⟨cs,h1,h2⟩:=h.res;refine⟨(hf.block _ (Array.getElem?_eq_some_iff.mp h.way).1 (by omega)).trans h.way,⟨cs,(hf.block _ (Array.getElem?_eq_some_iff.mp h1).1 (by omega)).trans h1,h2⟩,hc,h.low.trans (hf.below h.low.size fun b hb e=>by omega)⟩
def z20:Array Value:=#[.int .i64 0,.int .i64 0,.int .i64 0,.int .i64 0,.int .i64 0,.int .i64 0,.int .i64 0,.int .i64 0,.int .i64 0,.int .i64 0,.int .i64 0,.int .i64 0,.int .i64 0,.int .i64 0,.int .i64 0,.int .i64 0,.int .i64 0,.int .i64 0,.int .i64 0,.int .i64 0]
def F0 (q:Nat):Bool→Nat→Int:=fun _ n=>if n<q then -1 else 0
theorem y6a (w:World) (st:Nat) (v:Option Addr):MatI w (((w.alloc (.cells #[.int .i64 (st:Nat),.pointer v] 58)).alloc (.cells z20 35)).alloc (.cells z20 35)) st v (F0 0):=by
 have e1:=heap_alloc_new (w.alloc (.cells #[.int .i64 (st:Nat),.pointer v] 58)) (.cells z20 35);have e2:=heap_alloc_new ((w.alloc (.cells #[.int .i64 (st:Nat),.pointer v] 58)).alloc (.cells z20 35)) (.cells z20 35);simp only[World.size_alloc] at e1 e2;refine⟨?_,⟨z20,?_,rfl⟩,⟨z20,e2,rfl,fun n hn=>?_⟩,((z0b w _).alloc (by simp) _).alloc (by simp;omega) _⟩
 ·rw[(z0b _ _).block _ (by simp;omega),(z0b _ _).block _ (by simp),heap_alloc_new]
 ·rw[(z0b _ _).block _ (by simp)];exact e1
 ·unfold F0
  rw[if_neg (by omega)];have:n=0∨n=1∨n=2∨n=3∨n=4∨n=5∨n=6∨n=7∨n=8∨n=9:=by omega
  rcases this with rfl | rfl | rfl | rfl | rfl | rfl | rfl | rfl | rfl | rfl <;> exact⟨rfl,rfl⟩
theorem x25 {w:World} {b q:Nat} (h:CutsAt w b (F0 q)) (hq:q<10):CutsAt ((w.setCell ⟨b,q * 2,none⟩ (.int .i64 (-1))).setCell ⟨b,q * 2+1,none⟩ (.int .i64 (-1))) b (F0 (q+1)):=by
 have:=(h.set true q hq (-1)).set false q hq (-1);simp only[Bool.false_eq_true,if_false,if_true,Nat.add_zero] at this;refine this.to fun z n=>?_
 unfold F0;by_cases e:n=q
 ·subst e
  cases z <;> simp
 ·by_cases h1:n<q
  ·cases z <;> simp[e,h1,show n<q+1 by omega]
  ·cases z <;> simp[e,h1,show ¬ n<q+1 by omega]
theorem x38 {w:World} {b i k:Nat} (h:CutsAt w b (F0 10)):CutsAt ((w.setCell ⟨b,0,none⟩ (.int .i64 (i:Nat))).setCell ⟨b,1,none⟩ (.int .i64 (k:Nat))) b (F1 i k):=by
 have:=(h.set true 0 (by omega) (i:Nat)).set false 0 (by omega) (k:Nat);simp only[Bool.false_eq_true,if_false,if_true,Nat.add_zero] at this;obtain⟨cs,g1,g2,g3⟩:=this;refine⟨cs,g1,g2,fun n hn=>?_⟩;obtain⟨k1,k2⟩:=g3 n hn;rw[k1,k2];unfold F1 F0;by_cases e:n=0
 ·subst e;simp
 ·simp[e,hn]
theorem y6y (st i:Nat) (tl:Option Nat) (l:Evs) (w:World) (ht:TrailP w tl l):
  Calls Tryd.prog 18 #[.agg #[.int .i64 (st:Nat),pv tl],.int .i64 (i:Nat)] w fun e w'=>e= .returned (.agg (cutsA (matM i st l)))∧Below w.heap.size w w':=by
 obtain⟨v,hv⟩:∃ v,Value.pointer v=pv tl:=⟨_,rfl⟩;have HT:=Lib.hid ht;have HV:=Lib.hid hv;obtain⟨M,hM⟩:∃ M,M=matM i st l:=⟨_,rfl⟩;have HMM:=Lib.hid hM;rw[←hv,←hM];clear ht hv hM;go_enter Tryd.func18,Tryd.ntmps18;go_wp2;have HI0:Hid (MatI w (((w.alloc (.cells #[.int .i64 (st:Nat),.pointer v] 58)).alloc (.cells z20 35)).alloc (.cells z20 35)) st v (F0 0)):=Lib.hid (y6a w st v);unfold z20 at HI0;generalize hMB:w.heap.size+1+1=MB;generalize hRB:w.heap.size+1=RB;have HMB:Hid (w.heap.size+1+1=MB∧w.heap.size+1=RB):=Lib.hid ⟨hMB,hRB⟩;clear hMB hRB
 go_loopw [7] (fun v7 wr=>∃ q:Nat,q≤10∧v7= .int .i64 (q:Nat)∧Hid (MatI w wr st v (F0 q))) (fun v7 _=>10 - (intOf v7).toNat)
 case atStart=>exact⟨0,by omega,rfl,HI0⟩
 case round=>
  obtain⟨q,hq,rfl,HI⟩:=hrel;by_cases a:q<10
  ·have hC:CutsAt wr MB (F0 q):=by rw[←HMB.out.1];exact HI.out.cuts
   obtain⟨c0,c1,fr⟩:=hC.cells a
   have HN:Hid (MatI w ((wr.setCell ⟨MB,q * 2,none⟩ (.int .i64 (-1))).setCell ⟨MB,q * 2+1,none⟩ (.int .i64 (-1))) st v (F0 (q+1))):=Lib.hid (by
    refine HI.out.step (by rw[show w.heap.size+2=MB from HMB.out.1];exact x25 hC a) ?_;have e:w.heap.size+2=MB:=HMB.out.1;rw[e];exact(Frm.set (S:=fun k=>k=MB) rfl _ _ _).trans (Frm.set (S:=fun k=>k=MB) (b:=MB) rfl _ _ _) fun _ _ q=>q)
   clear hC;go_wp2
   go_roundw
   case rel=>exact⟨q+1,by omega,by go_num,HN⟩
   case measure=>simp[intOf];omega
  ·have hq10:q=10:=by omega
   subst hq10;have hC:CutsAt wr MB (F0 10):=by rw[←HMB.out.1];exact HI.out.cuts
   obtain⟨y0,hy0⟩:∃ y0,y0=F0 10 true 0:=⟨_,rfl⟩;obtain⟨y1,hy1⟩:∃ y1,y1=F0 10 false 0:=⟨_,rfl⟩;obtain⟨c0,c1,fr⟩:=hC.cells (m:=0) (by omega);rw[←hy0] at c0;rw[←hy1] at c1;have c0:wr.cell? ⟨MB,0,none⟩=some (.int .i64 y0):=c0;have c1:wr.cell? ⟨MB,1,none⟩=some (.int .i64 y1):=c1;clear hy0 hy1;have d0:wr.cell? ⟨w.heap.size,0,none⟩=some (.int .i64 (st:Nat)):=(z0c HI.out.way 0).trans rfl;have d1:wr.cell? ⟨w.heap.size,1,none⟩=some (.pointer v):=(z0c HI.out.way 1).trans rfl;obtain⟨U,hU⟩:∃ U,U=(wr.setCell ⟨MB,0,none⟩ (.int .i64 (i:Nat))).setCell ⟨MB,1,none⟩ (.int .i64 (st:Nat)):=⟨_,rfl⟩
   have HU:Hid (MatI w U st v (F1 i st)):=Lib.hid (by
    have e:w.heap.size+2=MB:=HMB.out.1;rw[hU];refine HI.out.step (by rw[e];exact x38 hC) ?_;rw[e];exact(Frm.set (S:=fun k=>k=MB) rfl _ _ _).trans (Frm.set (S:=fun k=>k=MB) (b:=MB) rfl _ _ _) fun _ _ q=>q)
   have K31:Hid (Calls Tryd.prog 31 #[.pointer v,.pointer (some ⟨MB,0,none⟩)] U fun e w'=>e= .returned (.tuple #[])∧Hid (MatI w w' st v (updC (F1 i st) l))):=Lib.hid (by
    have eMB:w.heap.size+2=MB:=HMB.out.1;obtain⟨k,hk⟩:=(HT.out.keep (S:=fun _=>False) (.of_below HU.out.low) fun _ q=>q.elim).num;have hC:=HU.out.cuts;rw[eMB] at hC;rw[HV.out];refine(y2p (k+1) k (by omega) tl l U MB (F1 i st) hk hC (F1_ge _ _)).mono fun e w' hp=>⟨hp.1,Lib.hid ?_⟩
    obtain⟨q1,q2⟩:=hp.2.out;exact HU.out.step (by rw[eMB];exact q1) (by rw[eMB];exact q2))
   have du:U.cell? ⟨w.heap.size,1,none⟩=some (.pointer v):=(z0c HU.out.way 1).trans rfl;have HUU:=Lib.hid hU;clear hC hU
   go_upto_region 8 with (fail)
   rw[←HUU.out]
   go_upto_region 9 with (first | (go_at_call 31;((with_reducible refine(K31.out).mono ?_));rintro _ w2 ⟨rfl,HQ⟩) | fail)
   have HE:Hid (w2.heap[MB]?=some (.cells (cutsA M) 35)∧(∃ old,w2.heap[RB]?=some (.cells old 35)∧old.size=(cutsA M).size)∧Below w.heap.size w (w2.setRow RB (cutsA M))∧(w2.setRow RB (cutsA M)).heap[RB]?=some (.cells (cutsA M) 35)):=Lib.hid (by
    obtain⟨e1,e2⟩:=HMB.out;obtain⟨cs,h1,h2⟩:=HQ.out.res;rw[e2] at h1;refine⟨?_,⟨cs,h1,h2⟩,below_setRow HQ.out.low (by omega) _,setRow_heap _ _ _ _ _ _ h1⟩;have:=HQ.out.cuts.heap;rw[x1o,←HMM.out] at this;rw[←e1];exact this)
   obtain⟨old,hold,hsz⟩:=HE.out.2.1;have HRB:=Lib.hid (y1g HE.out.1);have HOL:=Lib.hid (And.intro hold hsz);clear hold hsz c0 c1 d0 d1 du fr;go_wp2_with (first | (refine wpList_load_mid rfl 35 (.tmp 5) rfl MB 0 rfl (cutsA M).toList _ HRB.out Tryd.underlying35 rfl z2i ?_;simp only[Array.toArray_toList]) | (refine z0y rfl 35 (.tmp 4) (.tmp 24) rfl RB old (cutsA M) 35 rfl rfl HOL.out.1 HOL.out.2 z2i (z5e M) ?_) | fail);have HLV:(loadVar 35 ⟨RB,0,none⟩).run Tryd.prog (w2.setRow RB (cutsA M))= .ok (.agg (cutsA M)) (w2.setRow RB (cutsA M)):=run_loadVar_row _ RB 35 35 (cutsA M) (0,0) _ HE.out.2.2.2 Tryd.underlying35 rfl z2i
   (try simp only[Exit.inBlock,Exit.then])
   exact bodyPost_ret (v:= .agg (cutsA M)) (z5x rfl _ rfl HLV) rfl ⟨rfl,HE.out.2.2.1⟩
end
section
set_option linter.unusedSimpArgs false
theorem y50 (s:ByteArray) (w:World) (h:s.size≤1000):Calls Tryd.prog 24 #[.string s] w fun e w'=>e= .returned (.string s)∧Below w.heap.size w w':=by
 have H:=Lib.hid (fun w=>Tryd.stringslite_Clone s w (by omega));clear h;go_enter Tryd.func24,Tryd.ntmps24;go_wp2_with (first | (go_at_call 33;((with_reducible refine(H.out _).mono ?_));rintro _ w2 ⟨rfl,HB⟩) | fail);go_ret;exact⟨rfl,HB⟩
theorem z88:(Tryd.prog.info? 45).map (·.size)=some 10:=by kernel_rfl
theorem x2r:(Tryd.prog.info? 33).map (·.size)=some 20:=by kernel_rfl
theorem y4y (L:Nat→Int × Int) {q:Nat} (hq:q<10) (W:World):(Instr.index 33 (.agg (cutsA L)) (.int .i64 (q:Nat))).run Tryd.prog W= .ok (.agg #[.int .i64 (L q).1,.int .i64 (L q).2]) W:=by
 rcases z3b hq with rfl | rfl | rfl | rfl | rfl | rfl | rfl | rfl | rfl | rfl <;> simp[Instr.index,run_underlying Tryd.underlying33,asIntOf,go_sem,cutsA]
theorem y6i (s:ByteArray) (M:Nat→Int × Int):(strsA s M).size=10:=rfl
theorem y71 (s:ByteArray) (M:Nat→Int × Int) {n:Nat} (hn:n<10) (c:Int × Int):(strsA s M).setIfInBounds n (.string (pieceN s c))=strsA s (updM M n c):=by
 rcases z3b hn with rfl | rfl | rfl | rfl | rfl | rfl | rfl | rfl | rfl | rfl <;> rfl
theorem y2n (s:ByteArray) (M:Nat→Int × Int):(strsA s M).all (·.oneCell')=true:=by unfold strsA;simp[Value.oneCell']
def z10:Array Value:=#[.string ⟨#[]⟩,.string ⟨#[]⟩,.string ⟨#[]⟩,.string ⟨#[]⟩,.string ⟨#[]⟩,.string ⟨#[]⟩,.string ⟨#[]⟩,.string ⟨#[]⟩,.string ⟨#[]⟩,.string ⟨#[]⟩]
theorem z8p (s:ByteArray):pieceN s (-1, -1)=⟨#[]⟩:=by unfold pieceN;simp
theorem y11 {s:ByteArray} {M M':Nat→Int × Int} (h:∀ n,n<10→M n=M' n):strsA s M=strsA s M':=by
 unfold strsA;rw[h 0 (by omega),h 1 (by omega),h 2 (by omega),h 3 (by omega),h 4 (by omega),h 5 (by omega),h 6 (by omega),h 7 (by omega),h 8 (by omega),h 9 (by omega)]
def uptoM (M:Nat→Int × Int) (q:Nat) (n:Nat):Int × Int:=if n<q then M n else (-1, -1)
theorem y4q (s:ByteArray) (M:Nat→Int × Int):strsA s (uptoM M 0)=z10:=by
 unfold strsA uptoM;simp only[show ¬ (0:Nat)<0 by omega,show ∀ n:Nat,¬ n<0 by omega,if_false,z8p]
 rfl
theorem y1x (s:ByteArray) (M:Nat→Int × Int) {q:Nat} (hq:q<10):(strsA s (uptoM M q)).setIfInBounds q (.string (pieceN s (M q)))=strsA s (uptoM M (q+1)):=by
 rw[y71 s _ hq];refine y11 fun n _=>?_
 unfold updM uptoM;by_cases e:n=q
 ·subst e;rw[if_pos rfl,if_pos (by omega)]
 ·rw[if_neg e]
  by_cases h:n<q
  ·rw[if_pos h,if_pos (by omega)]
  ·rw[if_neg h,if_neg (by omega)]
theorem y5i (s:ByteArray) (M:Nat→Int × Int) {q:Nat} (hq:q<10) (h:pieceN s (M q)=⟨#[]⟩):strsA s (uptoM M q)=strsA s (uptoM M (q+1)):=by
 rw[←y1x s M hq,h];apply Array.ext_getElem?;intro i;by_cases e:i=q
 ·subst e
  rw[Array.getElem?_setIfInBounds_self_of_lt (by rw[y6i];omega),z47 s _ hq];unfold uptoM;rw[if_neg (by omega),z8p]
 ·rw[Array.getElem?_setIfInBounds_ne (Ne.symm e)]
structure NamI (w wr:World) (s:ByteArray) (M:Nat→Int × Int) (q:Nat):Prop where
 res:∃ cs,wr.heap[w.heap.size+1]?=some (.cells cs 45)∧cs.size=10
 row:wr.heap[w.heap.size+2]?=some (.cells (strsA s (uptoM M q)) 45)
 low:Below w.heap.size w wr
theorem NamI.next {w wr w':World} {s:ByteArray} {M:Nat→Int × Int} {q:Nat} (h:NamI w wr s M q) (hb:Below wr.heap.size wr w'):NamI w w' s M q:=by
 obtain⟨cs,h1,h2⟩:=h.res;exact⟨⟨cs,(hb.block _ (Array.getElem?_eq_some_iff.mp h1).1).trans h1,h2⟩,(hb.block _ (Array.getElem?_eq_some_iff.mp h.row).1).trans h.row,h.low.trans (hb.mono h.low.size)⟩
theorem NamI.skip {w wr:World} {s:ByteArray} {M:Nat→Int × Int} {q:Nat} (h:NamI w wr s M q) (hq:q<10) (hp:pieceN s (M q)=⟨#[]⟩):NamI w wr s M (q+1):=⟨h.res,by rw[←y5i s M hq hp];exact h.row,h.low⟩
theorem NamI.set {w wr:World} {s:ByteArray} {M:Nat→Int × Int} {q:Nat} (h:NamI w wr s M q) (hq:q<10) {p:ByteArray} (hp:pieceN s (M q)=p):NamI w (wr.setCell ⟨w.heap.size+2,q,none⟩ (.string p)) s M (q+1):=by
 obtain⟨cs,h1,h2⟩:=h.res;refine⟨⟨cs,?_,h2⟩,?_,h.low.setCell (by show w.heap.size≤w.heap.size+2;omega) _⟩
 ·rw[heap_setCell_other _ _ _ _ (by show w.heap.size+1≠w.heap.size+2;omega)];exact h1
 ·rw[heap_setCell_same _ _ _ _ 45 _ h.row,←hp,y1x s M hq]
theorem y7g (w:World) (s:ByteArray) (M:Nat→Int × Int) (o:Obj):NamI w (((w.alloc o).alloc (.cells z10 45)).alloc (.cells z10 45)) s M 0:=by
 have e1:=heap_alloc_new (w.alloc o) (.cells z10 45);have e2:=heap_alloc_new ((w.alloc o).alloc (.cells z10 45)) (.cells z10 45);simp only[World.size_alloc] at e1 e2;refine⟨⟨z10,?_,rfl⟩,by rw[y4q];exact e2,((z0b w _).alloc (by simp) _).alloc (by simp;omega) _⟩;rw[(z0b _ _).block _ (by simp)];exact e1
theorem y0m:NamesC:=by
 intro M s w hs;have HI0:Hid (NamI w (((w.alloc (.cells (cutsA M) 35)).alloc (.cells z10 45)).alloc (.cells z10 45)) s M 0):=Lib.hid (y7g w s M _)
 have HR35:Hid ((((w.alloc (.cells (cutsA M) 35)).alloc (.cells z10 45)).alloc (.cells z10 45)).rangeAt w.heap.size 0 (cutsA M).toList):=Lib.hid (y1g (t:=35) (by
  rw[(z0b _ _).block _ (by simp;omega),(z0b _ _).block _ (by simp),heap_alloc_new]))
 unfold z10 at HI0 HR35;go_enter Tryd.func11,Tryd.ntmps11;go_wp2_with (first | (refine wpList_load_mid rfl 33 (.tmp 8) rfl w.heap.size 0 rfl (cutsA M).toList _ HR35.out Tryd.underlying33 rfl x2r ?_;simp only[Array.toArray_toList]) | fail);generalize hMB:w.heap.size+1+1=MB;generalize hRB:w.heap.size+1=RB;have HMB:Hid (w.heap.size+1+1=MB∧w.heap.size+1=RB):=Lib.hid ⟨hMB,hRB⟩;clear hMB hRB HR35;have HSZ:=Lib.hid hs;have hs40:s.size≤40:=hs;clear hs
 go_loopw [10] (fun v wr=>∃ q:Nat,q≤10∧v= .int .i64 (q:Nat)∧Hid (NamI w wr s M q)) (fun v _=>10 - (intOf v).toNat)
 case atStart=>exact⟨0,by omega,rfl,HI0⟩
 case round=>
  obtain⟨q,hq,rfl,HI⟩:=hrel;by_cases a:q<10
  ·have hix:=fun W=>y4y M a W
   obtain⟨x,hx⟩:∃ x,x=(M q).1:=⟨_,rfl⟩;obtain⟨y,hy⟩:∃ y,y=(M q).2:=⟨_,rfl⟩;have hpc:pieceN s (M q)=if 0≤x∧x≤y∧y≤s.size then s.extract x.toNat y.toNat else ⟨#[]⟩:=by unfold pieceN;rw[←hx,←hy]
   rw[←hx,←hy] at hix;clear hx hy;by_cases x0:0≤x
   ·have u1:decide ((0:Int)≤x)=true:=by simp[x0]
    by_cases xy:x≤y
    ·have u2:decide (x≤y)=true:=by simp[xy]
     by_cases yl:y≤(s.size:Int)
     ·have u3:decide (y≤(s.size:Int))=true:=by simp[yl]
      rw[if_pos ⟨x0,xy,yl⟩] at hpc;obtain⟨X,rfl⟩:∃ X:Nat,x=(X:Int):=⟨x.toNat,by omega⟩;obtain⟨Y,rfl⟩:∃ Y:Nat,y=(Y:Int):=⟨y.toNat,by omega⟩;simp only[Int.toNat_natCast] at hpc;have hXY:X≤Y:=by omega
      have hYs:Y≤s.size:=by omega
      have HMR:Hid (∀ o,MB<(wr.alloc o).heap.size∧NamI w (wr.alloc o) s M q):=Lib.hid fun o=>⟨by have e1:w.heap.size+2=MB:=HMB.out.1;have:=(Array.getElem?_eq_some_iff.mp HI.out.row).1;simp;omega,HI.out.next (z0b wr o)⟩
      have K24:Hid (∀ o,Calls Tryd.prog 24 #[.string (s.extract X Y)] (wr.alloc o) fun e w'=>e= .returned (.string (s.extract X Y))∧w'.cell? ⟨MB,q,none⟩=some (.string ⟨#[]⟩)∧w'.frozen? ⟨MB,q,none⟩=false∧Hid (NamI w (w'.setCell ⟨MB,q,none⟩ (.string (s.extract X Y))) s M (q+1))):=Lib.hid fun o=>by
       have hsz:(s.extract X Y).size≤1000:=by have:=HSZ.out;simp[ByteArray.size_extract];omega
       refine(y50 _ (wr.alloc o) hsz).mono fun e w' ⟨q1,q2⟩=>?_
       have hN:=(HMR.out o).2.next q2
       have e1:w.heap.size+2=MB:=HMB.out.1;have hrow:=hN.row;rw[e1] at hrow;have hg:=z47 s (uptoM M q) a;refine⟨q1,(z0c hrow q).trans (hg.trans (by unfold uptoM;rw[if_neg (by omega),z8p])),z0m hrow q,Lib.hid ?_⟩;rw[←e1];exact hN.set a hpc
      clear hpc;go_wp2_with (first | (go_at_call 24;((with_reducible refine(K24.out _).mono ?_));rintro _ w2 ⟨rfl,cc0,cf0,HQ⟩) | fail)
      go_roundw
      case rel=>exact⟨q+1,by omega,by go_num,HQ⟩
      case measure=>simp[intOf];omega
     ·have u3:decide (y≤(s.size:Int))=false:=by simp;omega
      rw[if_neg (fun h=>yl h.2.2)] at hpc;have HN:Hid (∀ o,NamI w (wr.alloc o) s M (q+1)):=Lib.hid fun o=>(HI.out.skip a hpc).next (z0b wr o)
      clear hpc;go_wp2
      go_roundw
      case rel=>exact⟨q+1,by omega,by go_num,Lib.hid (HN.out _)⟩
      case measure=>simp[intOf];omega
    ·have u2:decide (x≤y)=false:=by simp;omega
     rw[if_neg (fun h=>xy h.2.1)] at hpc;have HN:Hid (∀ o,NamI w (wr.alloc o) s M (q+1)):=Lib.hid fun o=>(HI.out.skip a hpc).next (z0b wr o)
     clear hpc;go_wp2
     go_roundw
     case rel=>exact⟨q+1,by omega,by go_num,Lib.hid (HN.out _)⟩
     case measure=>simp[intOf];omega
   ·have u1:decide ((0:Int)≤x)=false:=by simp;omega
    rw[if_neg (fun h=>x0 h.1)] at hpc;have HN:Hid (∀ o,NamI w (wr.alloc o) s M (q+1)):=Lib.hid fun o=>(HI.out.skip a hpc).next (z0b wr o)
    clear hpc;go_wp2
    go_roundw
    case rel=>exact⟨q+1,by omega,by go_num,Lib.hid (HN.out _)⟩
    case measure=>simp[intOf];omega
  ·have hq10:q=10:=by omega
   subst hq10
   have HE:Hid (wr.heap[MB]?=some (.cells (strsA s M) 45)∧(∃ old,wr.heap[RB]?=some (.cells old 45)∧old.size=(strsA s M).size)∧Below w.heap.size w (wr.setRow RB (strsA s M))∧(wr.setRow RB (strsA s M)).heap[RB]?=some (.cells (strsA s M) 45)):=Lib.hid (by
    obtain⟨e1,e2⟩:=HMB.out;obtain⟨cs,h1,h2⟩:=HI.out.res;rw[e2] at h1;refine⟨?_,⟨cs,h1,h2⟩,below_setRow HI.out.low (by omega) _,setRow_heap _ _ _ _ _ _ h1⟩;have h3:=HI.out.row;rw[y11 (M':=M) (fun n hn=>by unfold uptoM;rw[if_pos hn])] at h3;rw[←e1];exact h3)
   obtain⟨old,hold,hsz⟩:=HE.out.2.1
   have HRB:Hid (wr.rangeAt MB 0 (strsA s M).toList):=Lib.hid fun q v hq=>by
    rw[Nat.zero_add];exact(cell_of_row wr MB q _ 45 (0,0) HE.out.1).trans (by rw[←Array.getElem?_toList];exact hq)
   have HOL:=Lib.hid (And.intro hold hsz);clear hold hsz;go_wp2_with (first | (refine wpList_load_mid rfl 45 (.tmp 5) rfl MB 0 rfl (strsA s M).toList _ HRB.out Tryd.underlying45 rfl z88 ?_;simp only[Array.toArray_toList]) | (refine z0y rfl 45 (.tmp 4) (.tmp 41) rfl RB old (strsA s M) 45 rfl rfl HOL.out.1 HOL.out.2 z88 (y2n s M) ?_) | fail);have HLV:(loadVar 45 ⟨RB,0,none⟩).run Tryd.prog (wr.setRow RB (strsA s M))= .ok (.agg (strsA s M)) (wr.setRow RB (strsA s M)):=run_loadVar_row _ RB 45 45 (strsA s M) (0,0) _ HE.out.2.2.2 Tryd.underlying45 rfl z88
   (try simp only[Exit.inBlock,Exit.then])
   exact bodyPost_ret (v:= .agg (strsA s M)) (z5x rfl _ rfl HLV) rfl ⟨rfl,HE.out.2.2.1⟩
end
def bG (c:Nat):Re:= .mk 1 (ins none4 c) [] 0 0 0
def rG:Re:= .mk 4 none4 [.mk 7 none4 [.mk 5 none4 [bG 97,.mk 4 none4 [bG 97,bG 98] 0 0 0] 0 0 0] 0 0 1,.mk 7 none4 [.mk 5 none4 [bG 99,.mk 4 none4 [bG 98,bG 99,bG 100] 0 0 0] 0 0 0] 0 0 2] 0 0 0
theorem y4t:form rG 3 0 0=some 2:=by decide+kernel
theorem y1e:textE rG=[40,97,124,97,98,41,40,99,124,98,99,100,41]:=by decide+kernel
theorem x1s:sizeE rG≤60:=by decide+kernel
theorem y75:RightP rG:=⟨⟨2,y4t⟩,by rw[y1e];decide⟩
theorem x13:parseE [40,97,124,97,98,41,40,99,124,98,99,100,41]=(some rG,0,0):=by
 have:=z61 y4t (by rw[y1e];decide);rw[y1e] at this;exact this
theorem y2v:∀ c,c∈[97,98,99,100]→∀ n,n<256→mem (ins none4 c) n=decide (n=c):=by decide+kernel
theorem der_b {s:Bs} {c i j:Nat} {l:Evs} (hc:c∈[97,98,99,100]):Der s (bG c) i j l ↔ (∃ x:UInt8,s[i]?=some x∧x.toNat=c∧j=i+1)∧l=[]:=by
 unfold bG;rw[Der];simp only[show ¬ ((1:Int)=0) by decide,if_false,if_true];refine and_congr_left fun _=>⟨?_,?_⟩
 ·rintro⟨x,h1,h2,h3⟩
  rw[y2v c hc _ (UInt8.toNat_lt x)] at h2;exact⟨x,h1,by simpa using h2,h3⟩
 ·rintro⟨x,h1,h2,h3⟩
  exact⟨x,h1,by rw[y2v c hc _ (UInt8.toNat_lt x)];simpa using h2,h3⟩
theorem x0g {s:Bs} {S:S4} {ks:List Re} {lo hi n:Int} {i j:Nat} {l:Evs}:Der s (.mk 4 S ks lo hi n) i j l ↔ DerL s ks i j l:=by rw[Der];simp
theorem x0m {s:Bs} {S:S4} {ks:List Re} {lo hi n:Int} {i j:Nat} {l:Evs}:Der s (.mk 5 S ks lo hi n) i j l ↔ DerA s ks i j l:=by rw[Der];simp
theorem x0v {s:Bs} {S:S4} {ks:List Re} {lo hi n:Int} {i j:Nat} {l:Evs}:Der s (.mk 7 S ks lo hi n) i j l ↔ ∃ l',DerL s ks i j l'∧l=mark false n j (l'++mark true n i []):=by rw[Der];simp
def lG:Evs:=[⟨false,2,4⟩,⟨true,2,1⟩,⟨false,1,1⟩,⟨true,1,0⟩]
theorem x3m:Der [97,98,99,100] rG 0 4 lG:=by
 unfold rG lG;simp only[x0g,x0m,x0v,DerL,DerA,or_false];refine⟨1,[⟨false,1,1⟩,⟨true,1,0⟩],[⟨false,2,4⟩,⟨true,2,1⟩],⟨[],⟨1,[],[],.inl ((der_b (by decide)).2 ⟨⟨97,rfl,rfl,rfl⟩,rfl⟩),⟨rfl,rfl⟩,rfl⟩,rfl⟩,⟨4,[⟨false,2,4⟩,⟨true,2,1⟩],[],⟨[],⟨4,[],[],.inr ⟨2,[],[],(der_b (by decide)).2 ⟨⟨98,rfl,rfl,rfl⟩,rfl⟩,⟨3,[],[],(der_b (by decide)).2 ⟨⟨99,rfl,rfl,rfl⟩,rfl⟩,⟨4,[],[],(der_b (by decide)).2 ⟨⟨100,rfl,rfl,rfl⟩,rfl⟩,⟨rfl,rfl⟩,rfl⟩,rfl⟩,rfl⟩,⟨rfl,rfl⟩,rfl⟩,rfl⟩,⟨rfl,rfl⟩,rfl⟩,rfl⟩
theorem x1w {l:Evs} (h:Der [97,98,99,100] rG 0 4 l):l=lG:=by
 unfold rG at h;simp only[x0g,x0m,x0v,DerL,DerA,or_false] at h;obtain⟨m,l1,l2,⟨a1,⟨m1,b1,b2,h1,⟨rfl,rfl⟩,rfl⟩,rfl⟩,⟨m2,c1,c2,⟨d1,⟨m3,e1,e2,h2,⟨rfl,rfl⟩,rfl⟩,rfl⟩,⟨rfl,rfl⟩,rfl⟩,rfl⟩:=h
 have hm:(m1=1∨m1=2)∧a1=[]:=by
  rcases h1 with h3 | ⟨a,x1,x2,h3,⟨b,y1,y2,h4,⟨rfl,rfl⟩,rfl⟩,rfl⟩
  ·obtain⟨⟨x,g1,g2,rfl⟩,rfl⟩:=(der_b (by decide)).1 h3
   exact⟨.inl rfl,rfl⟩
  ·obtain⟨⟨x,g1,g2,rfl⟩,rfl⟩:=(der_b (by decide)).1 h3
   obtain⟨⟨y,g3,g4,rfl⟩,rfl⟩:=(der_b (by decide)).1 h4;exact⟨.inr rfl,rfl⟩
 obtain⟨hm,rfl⟩:=hm
 rcases h2 with h2 | ⟨a,x1,x2,h3,⟨b,y1,y2,h4,⟨c,z1,z2,h5,⟨h6,rfl⟩,rfl⟩,rfl⟩,rfl⟩
 ·obtain⟨⟨x,g1,g2,g3⟩,rfl⟩:=(der_b (by decide)).1 h2
  omega
 ·obtain⟨⟨x,g1,g2,rfl⟩,rfl⟩:=(der_b (by decide)).1 h3
  obtain⟨⟨y,g3,g4,rfl⟩,rfl⟩:=(der_b (by decide)).1 h4;obtain⟨⟨z,g5,g6,rfl⟩,rfl⟩:=(der_b (by decide)).1 h5;obtain rfl:m1=1:=by omega
  rfl
theorem y9f {l l':Evs} (h:Der [97,98,99,100] rG 0 4 l) (he:SameE l' l):matM 0 4 l' 0=(0,4)∧matM 0 4 l' 1=(0,1)∧matM 0 4 l' 2=(1,4)∧matM 0 4 l' 3=(-1, -1):=by
 have:=x1w h;subst this;refine⟨rfl,?_,?_,?_⟩ <;>
 ·unfold matM
  rw[if_neg (by decide),he,he]
  rfl
theorem x1j (r:Re):∃ (k s0 s1 s2 s3:Int) (m:Nat) (lo hi n:Int),∀ A c,valR r A c= .agg #[.int .i64 k,.int .u64 s0,.int .u64 s1,.int .u64 s2,.int .u64 s3,.slice A m c,.int .i64 lo,.int .i64 hi,.int .i64 n]:=by
 obtain⟨k,S,ks,lo,hi,n⟩:=r;exact⟨_,_,_,_,_,_,_,_,_,fun A c=>rfl⟩
theorem x2g:pieceN ⟨#[97,98,99,100]⟩ (0,4)=⟨#[97,98,99,100]⟩:=by decide+kernel
theorem x2u:pieceN ⟨#[97,98,99,100]⟩ (0,1)=⟨#[97]⟩:=by decide+kernel
theorem x2m:pieceN ⟨#[97,98,99,100]⟩ (1,4)=⟨#[98,99,100]⟩:=by decide+kernel
section
set_option linter.unusedSimpArgs false
theorem z5k {l:List Re} {k:Nat} {r:Re} (h:l[k]?=some r):l.take (k+1)=l.take k++[r]:=by
 obtain⟨hk,e⟩:=List.getElem?_eq_some_iff.1 h;rw[List.take_succ_eq_append_getElem hk,e]
theorem z7q:∀ (l:List Re) (n j:Nat),j<l.length→(kidsAt n l)[j]?=some (n+sizeL (l.take j))
 | [],n,j,h=>by simp at h
 | r::l,n,0,_=>by rw[kidsAt];simp[sizeL]
 | r::l,n,j+1,h=>by
   rw[kidsAt,List.getElem?_cons_succ,z7q l _ j (by simpa using h),List.take_succ_cons,sizeL]
   congr 1;omega
theorem y9l (r:Re) (n p c v:Nat):∃ x,(tabE r n p 0 c)[0]?=some x∧tabE r n p v c=(tabE r n p 0 c).set 0 { x with nx:=v }:=by
 cases r with
 | mk k S ks lo hi g=>exact⟨_,by rw[tabE];rfl,by rw[tabE,tabE];rfl⟩
theorem z9k (l:List Re) (r:Re):∀ (n p c:Nat),tabL (l++[r]) false n p c=tabL l false n p c++tabE r (n+sizeL l) p 0 (c+cntL l):=by
 induction l with
 | nil=>intro n p c;rw[List.nil_append,tabL,tabL,tabL,sizeL,cntL];simp
 | cons a l ih=>
   intro n p c;rw[List.cons_append,tabL,tabL,ih,sizeL,cntL,List.append_assoc];simp only[Bool.false_eq_true,false_and,if_false];rw[Nat.add_assoc n,Nat.add_assoc c]
theorem z5d (q:Bool) (r:Re) (n p c:Nat):tabL [r] q n p c=tabE r n p 0 c:=by
 rw[tabL,tabL];simp
theorem z97 (l:List Re) (y r:Re):∀ (n p c:Nat),∃ x,(tabL (l++[y]) true n p c)[sizeL l]?=some x∧
  tabL (l++[y]++[r]) true n p c=(tabL (l++[y]) true n p c).set (sizeL l) { x with nx:=n+sizeL (l++[y]) }++tabE r (n+sizeL (l++[y])) p 0 (c+cntL (l++[y])):=by
 induction l with
 | nil=>
   intro n p c;obtain⟨x,h1,h2⟩:=y9l y n p c (n+sizeE y);refine⟨x,?_,?_⟩
   ·rw[List.nil_append,z5d,sizeL];exact h1
   ·rw[List.nil_append,z5d,List.singleton_append,tabL,z5d,if_pos (by simp),h2]
    simp[sizeL,cntL]
 | cons a l ih=>
   intro n p c;obtain⟨x,h1,h2⟩:=ih (n+sizeE a) p (c+cntE a);have hne:l++[y]≠[]:=by simp
   have hne2:l++[y]++[r]≠[]:=by simp
   have hl:(tabE a n p (n+sizeE a) c).length=sizeE a:=z25 _ _ _ _ _;refine⟨x,?_,?_⟩
   ·rw[List.cons_append,tabL,if_pos ⟨rfl,hne⟩,sizeL,List.getElem?_append_right (by rw[hl];omega),hl,Nat.add_sub_cancel_left]
    exact h1
   ·rw[List.cons_append,List.cons_append,tabL,if_pos ⟨rfl,hne2⟩,h2,tabL,if_pos ⟨rfl,hne⟩,sizeL,sizeL,cntL,List.set_append_right _ _ (by rw[hl];omega),hl,Nat.add_sub_cancel_left,List.append_assoc]
    rw[show n+sizeE a+sizeL (l++[y])=n+(sizeE a+sizeL (l++[y])) by omega,show c+cntE a+cntL (l++[y])=c+(cntE a+cntL (l++[y])) by omega]
theorem z28 (r:Re):sizeE r=1+sizeL r.kids:=by cases r;rw[sizeE];rfl
def anyC (T:List Nd):Bool:=T.any fun x=>cntQ x.r
theorem z8y (T T':List Nd):anyC (T++T')=(anyC T || anyC T'):=by unfold anyC;rw[List.any_append]
theorem y9t (r:Re):∀ n p nx c,anyC (tabE r n p nx c)=decide (0<cntE r):=by
 induction r using Re.ind with
 | h k S ks lo hi g ih=>
   intro n p nx c
   have hL:∀ (l:List Re),(∀ r∈l,r∈ks)→∀ q n p c,anyC (tabL l q n p c)=decide (0<cntL l):=by
    intro l
    induction l with
    | nil=>intro _ q n p c;rw[tabL,cntL];rfl
    | cons x l ihl=>
      intro hx q n p c;rw[tabL,cntL,z8y,ih x (hx x (List.mem_cons_self ..)),ihl fun y hy=>hx y (List.mem_cons_of_mem _ hy)];rw[Bool.eq_iff_iff];simp;omega
   rw[tabE,cntE];have e:anyC (⟨.mk k S ks lo hi g,kidsAt (n+1) ks,p,nx,if cntQ (.mk k S ks lo hi g)=true then c+1 else 0⟩::tabL ks (decide (k=4)) (n+1) n (if cntQ (.mk k S ks lo hi g)=true then c+1 else c))=(cntQ (.mk k S ks lo hi g) || anyC (tabL ks (decide (k=4)) (n+1) n (if cntQ (.mk k S ks lo hi g)=true then c+1 else c))):=rfl;rw[e,hL ks fun _ h=>h]
   cases cntQ (.mk k S ks lo hi g) <;> simp <;> omega
theorem y0b:∀ (l:List Re) (q:Bool) (n p c:Nat),anyC (tabL l q n p c)=decide (0<cntL l)
 | [],q,n,p,c=>by rw[tabL,cntL];rfl
 | x::l,q,n,p,c=>by
   rw[tabL,cntL,z8y,y9t,y0b l];rw[Bool.eq_iff_iff];simp;omega
def nd14 (x:Nd) (q:Int) (R:Option Addr) (rc:Nat) (K:Option Addr) (c:Nat):List Value:=[.int .i64 x.r.kind,.int .u64 x.r.set.1.toNat,.int .u64 x.r.set.2.1.toNat,.int .u64 x.r.set.2.2.1.toNat,.int .u64 x.r.set.2.2.2.toNat,.slice R x.r.kids.length rc,.int .i64 x.r.lo,.int .i64 x.r.hi,.int .i64 x.r.num,.slice K x.kids.length c,.int .i64 q,.int .i64 x.nx,.bool (cntQ x.r),.bool (apartQ x.r)]
structure PCs (P:Nat→Prop) (w:World) (N:Nat) (cs:List Value) (T:List Nd):Prop where
 len:cs.length=T.length * 14
 at_:∀ (n:Nat) (x:Nd),T[n]?=some x→∃ R rc K c,(∀ j,j<14→cs[n * 14+j]?=(nd14 x (parQ (N+n) x) R rc K c)[j]?)∧IntsAt P w K x.kids
theorem PCs.nil (P:Nat→Prop) (w:World) (N:Nat):PCs P w N [] []:=⟨rfl,fun n x h=>by simp at h⟩
theorem PCs.one {P:Nat→Prop} {w:World} {N:Nat} {x:Nd} {R K:Option Addr} {rc c:Nat} (h:IntsAt P w K x.kids):PCs P w N (nd14 x (parQ N x) R rc K c) [x]:=by
 refine⟨rfl,fun n y hy=>?_⟩
 cases n with
 | zero=>injection hy with hy;subst hy;exact⟨R,rc,K,c,fun j _=>by rw[Nat.zero_mul,Nat.zero_add];rfl,h⟩
 | succ n=>simp at hy
theorem PCs.app {P:Nat→Prop} {w:World} {N M:Nat} {cs cs':List Value} {T T':List Nd} (h:PCs P w N cs T) (h':PCs P w M cs' T') (hM:M=N+T.length):PCs P w N (cs++cs') (T++T'):=by
 subst hM;refine⟨by rw[List.length_append,List.length_append,h.len,h'.len];omega,fun n x hx=>?_⟩;by_cases hn:n<T.length
 ·rw[List.getElem?_append_left hn] at hx
  obtain⟨R,rc,K,c,h1,h2⟩:=h.at_ n x hx
  exact⟨R,rc,K,c,fun j hj=>by rw[List.getElem?_append_left (by rw[h.len];omega)];exact h1 j hj,h2⟩
 ·rw[List.getElem?_append_right (by omega)] at hx
  obtain⟨R,rc,K,c,h1,h2⟩:=h'.at_ _ x hx
  refine⟨R,rc,K,c,fun j hj=>?_,h2⟩;rw[List.getElem?_append_right (by rw[h.len];omega),h.len,show n * 14+j - T.length * 14=(n - T.length) * 14+j by omega,h1 j hj,show N+T.length+(n - T.length)=N+n by omega]
theorem PCs.keep {P P':Nat→Prop} {w w':World} {N:Nat} {cs:List Value} {T:List Nd} (h:PCs P w N cs T) (hs:∀ b,P b→P' b∧w'.heap[b]?=w.heap[b]?):PCs P' w' N cs T:=by
 refine⟨h.len,fun n x hx=>?_⟩;obtain⟨R,rc,K,c,h1,h2⟩:=h.at_ n x hx
 refine⟨R,rc,K,c,h1,fun i m hi=>?_⟩;obtain⟨g,g1,g2,g3⟩:=h2 i m hi;obtain⟨q1,q2⟩:=hs _ g2;exact⟨g,g1,q1,(World.cell?_of_block q2).trans g3⟩
theorem PCs.setNx {P:Nat→Prop} {w:World} {N:Nat} {cs:List Value} {T:List Nd} (h:PCs P w N cs T) {k:Nat} {y:Nd} (hy:T[k]?=some y) (v:Nat):PCs P w N (cs.set (k * 14+11) (.int .i64 v)) (T.set k { y with nx:=v }):=by
 have hk:=(List.getElem?_eq_some_iff.1 hy).1;refine⟨by rw[List.length_set,List.length_set];exact h.len,fun n x hx=>?_⟩;by_cases he:k=n
 ·subst he
  rw[List.getElem?_set_self hk] at hx;injection hx with hx;subst hx
  obtain⟨R,rc,K,c,h1,h2⟩:=h.at_ k y hy
  refine⟨R,rc,K,c,fun j hj=>?_,h2⟩;by_cases h9:j=11
  ·subst h9
   rw[List.getElem?_set_self (by rw[h.len];omega)];rfl
  ·rw[List.getElem?_set_ne (by omega),h1 j hj]
   have:j=0∨j=1∨j=2∨j=3∨j=4∨j=5∨j=6∨j=7∨j=8∨j=9∨j=10∨j=12∨j=13:=by omega
   rcases this with rfl | rfl | rfl | rfl | rfl | rfl | rfl | rfl | rfl | rfl | rfl | rfl | rfl <;> rfl
 ·rw[List.getElem?_set_ne he] at hx
  obtain⟨R,rc,K,c,h1,h2⟩:=h.at_ n x hx
  exact⟨R,rc,K,c,fun j hj=>by rw[List.getElem?_set_ne (by omega)];exact h1 j hj,h2⟩
theorem PCs.parts {P P':Nat→Prop} {w:World} {cs:List Value} {T:List Nd} (h:PCs P w 0 cs T) {g:Nat} (hc:∀ (j:Nat) (v:Value),cs[j]?=some v→w.cell? ⟨g,j,none⟩=some v) (hp:∀ b,P b→P' b) (hg:P' g):PartsAt P' w g T:=by
 refine⟨hg,fun n x hx=>?_⟩;obtain⟨R,rc,K,c,h1,h2⟩:=h.at_ n x hx
 rw[Nat.zero_add] at h1
 have hcell:∀ (j:Nat) (v:Value),(nd14 x (parQ n x) R rc K c)[j]?=some v→w.cell? ⟨g,n * 14+j,none⟩=some v:=fun j v hv=>by
  have hj:j<14:=(List.getElem?_eq_some_iff.1 hv).1;exact hc _ _ ((h1 j hj).trans hv)
 refine⟨R,rc,K,c,⟨hcell 0 _ rfl,hcell 1 _ rfl,hcell 2 _ rfl,hcell 3 _ rfl,hcell 4 _ rfl,hcell 5 _ rfl,hcell 6 _ rfl,hcell 7 _ rfl,hcell 8 _ rfl,hcell 9 _ rfl,hcell 10 _ rfl,hcell 11 _ rfl,hcell 12 _ rfl,hcell 13 _ rfl⟩,fun i m hi=>?_⟩;obtain⟨g',g1,g2,g3⟩:=h2 i m hi;exact⟨g',g1,hp _ g2,g3⟩
theorem y4i (v0 v1 v2 v3 v4 v5 v6 v7 v8 v9 v10 v11 v13:Value) (b:Bool) (w:World):Calls Tryd.prog 39 #[.agg #[v0,v1,v2,v3,v4,v5,v6,v7,v8,v9,v10,v11,.bool b,v13]] w fun e w'=>e= .returned (.bool b)∧Below w.heap.size w w':=by
 go_enter Tryd.func39,Tryd.ntmps39;go_wp2;go_ret;exact⟨rfl,z0b _ _⟩
theorem y3g {P:Nat→Prop} (T:List Nd) (N:Nat) (cs:List Value) (A:Option Addr) (cap:Nat) (w:World) (hT:PCs P w N cs T) (hA:T≠[]→∃ g o,A=some ⟨g,o,none⟩∧∀ j u,cs[j]?=some u→w.cell? ⟨g,o+j,none⟩=some u) (hl:T.length≤1000000):
  Calls Tryd.prog 54 #[.slice A T.length cap,.func (.func 39) #[] #[]] w fun e w'=>∃ z:Int,e= .returned (.int .i64 z)∧Hid (decide (0≤z)=anyC T∧Below w.heap.size w w'):=by
 obtain⟨n,hn⟩:∃ n,n=T.length:=⟨_,rfl⟩;rw[←hn];have HT:=Lib.hid (And.intro hT (And.intro hA hn));have hl9:n≤1000000:=by omega
 clear hT hA hl hn;go_enter Tryd.func54,Tryd.ntmps54;go_wp2
 go_loopw [8] (fun v wr=>∃ k:Nat,k≤n∧v= .int .i64 (k:Nat)∧Hid (Below w.heap.size w wr∧anyC (T.take k)=false)) (fun v _=>n - (intOf v).toNat)
 case atStart=>exact⟨0,by omega,rfl,Lib.hid ⟨Below.refl _ _,rfl⟩⟩
 case round=>
  obtain⟨k,hk,rfl,HI⟩:=hrel;by_cases a:k<n
  ·obtain⟨x,hx⟩:∃ x,T[k]?=some x:=⟨_,List.getElem?_eq_getElem (by have:=HT.out.2.2;omega)⟩
   obtain⟨g,o,rfl,hc⟩:=HT.out.2.1 (by intro e;rw[e] at hx;simp at hx);obtain⟨R,rc,K,c,h1,_⟩:=HT.out.1.at_ k x hx
   have hcell:∀ (j:Nat) (v:Value),(nd14 x (parQ (N+k) x) R rc K c)[j]?=some v→wr.cell? ⟨g,o+k * 14+j,none⟩=some v:=fun j v hv=>by
    have hj:j<14:=(List.getElem?_eq_some_iff.1 hv).1;have h2:=hc _ _ ((h1 j hj).trans hv);rw[←Nat.add_assoc] at h2;exact(HI.out.1.cell (p:=⟨g,o+k * 14+j,none⟩) (World.block_lt_of_cell? w _ h2)).trans h2
   have c0:wr.cell? ⟨g,o+k * 14,none⟩=some (.int .i64 x.r.kind):=hcell 0 _ rfl;have c1:=hcell 1 _ rfl;have c2:=hcell 2 _ rfl;have c3:=hcell 3 _ rfl;have c4:=hcell 4 _ rfl;have c5:=hcell 5 _ rfl;have c6:=hcell 6 _ rfl;have c7:=hcell 7 _ rfl;have c8:=hcell 8 _ rfl;have c9:=hcell 9 _ rfl;have c10:=hcell 10 _ rfl;have c11:=hcell 11 _ rfl;have c12:=hcell 12 _ rfl;have c13:=hcell 13 _ rfl;obtain⟨b,hb⟩:∃ b,b=cntQ x.r:=⟨_,rfl⟩;rw[←hb] at c12;have hadd:(⟨g,o,none⟩:Addr).add (k * 14)=⟨g,o+k * 14,none⟩:=by unfold Addr.add;split <;> simp_all
   have HX:=Lib.hid (And.intro hx hb)
   have htk:T.take (k+1)=T.take k++[x]:=by
    obtain⟨hk,e⟩:=List.getElem?_eq_some_iff.1 hx;rw[List.take_succ_eq_append_getElem hk,e]
   have HYES:Hid (b=true→∀ w',Below wr.heap.size wr w'→decide ((0:Int)≤(k:Nat))=anyC T∧Below w.heap.size w w'):=Lib.hid fun e w' hb'=>by
    refine⟨?_,HI.out.1.trans (hb'.mono HI.out.1.size)⟩;have:anyC T=true:=by unfold anyC;rw[List.any_eq_true];exact⟨x,List.mem_of_getElem? hx,by rw[←hb];exact e⟩
    rw[this];simp
   have HNO:Hid (b=false→∀ w',Below wr.heap.size wr w'→Below w.heap.size w w'∧anyC (T.take (k+1))=false):=Lib.hid fun e w' hb'=>by
    refine⟨HI.out.1.trans (hb'.mono HI.out.1.size),?_⟩;rw[htk,z8y,HI.out.2,Bool.false_or];show (cntQ x.r || false)=false;rw[←hb,e];rfl
   clear hx hc h1 hcell hb htk
   cases b with
   | true=>
     go_wp2_with (first | (go_at_call 39;((with_reducible refine(y4i _ _ _ _ _ _ _ _ _ _ _ _ _ _ _).mono ?_));rintro _ w2 ⟨rfl,HB⟩) | fail);go_ret;exact⟨_,rfl,Lib.hid (HYES.out trivial _ HB)⟩
   | false=>
     go_wp2_with (first | (go_at_call 39;((with_reducible refine(y4i _ _ _ _ _ _ _ _ _ _ _ _ _ _ _).mono ?_));rintro _ w2 ⟨rfl,HB⟩) | fail)
     go_roundw
     case rel=>exact⟨k+1,by omega,by go_num,Lib.hid (HNO.out trivial _ HB)⟩
     case measure=>simp[intOf];omega
  ·have hkn:k=n:=by omega
   subst hkn
   have HE:Hid (decide ((0:Int)≤ -1)=anyC T∧Below w.heap.size w wr):=Lib.hid (by
    have:=HI.out.2;rw[List.take_of_length_le (by have:=HT.out.2.2;omega)] at this;exact⟨by rw[this];rfl,HI.out.1⟩)
   go_wp2;go_ret;exact⟨_,rfl,HE⟩
theorem z9b {P:Nat→Prop} (T:List Nd) (N:Nat) (cs:List Value) (A:Option Addr) (cap:Nat) (w:World) (hT:PCs P w N cs T) (hA:T≠[]→∃ g o,A=some ⟨g,o,none⟩∧∀ j u,cs[j]?=some u→w.cell? ⟨g,o+j,none⟩=some u) (hl:T.length≤1000000):
  Calls Tryd.prog 38 #[.slice A T.length cap,.func (.func 39) #[] #[]] w fun e w'=>e= .returned (.bool (anyC T))∧Below w.heap.size w w':=by
 have K:=Lib.hid (y3g T N cs A cap w hT hA hl);obtain⟨n,hn⟩:∃ n,n=T.length:=⟨_,rfl⟩;obtain⟨v,hv⟩:∃ v,v=anyC T:=⟨_,rfl⟩;rw[←hn,←hv] at K;rw[←hn,←hv];clear hT hA hl hn hv;go_enter Tryd.func38,Tryd.ntmps38;go_wp2_with (first | (go_at_call 54;((with_reducible refine(K.out).mono ?_));rintro _ w2 ⟨z,rfl,HZ⟩;have hz:=HZ.out.1) | fail);go_ret;subst hz;exact⟨rfl,HZ.out.2⟩
end
abbrev Tab:=Nat→Nat→Option WO
def Cx.bs (c:Cx):Bs:=c.s.data.toList
def MonoT (O O':Tab):Prop:=∀ q j o,O q j=some o→∃ o',O' q j=some o'∧o'.a=o.a∧∃ more,o'.found=o.found++more
theorem MonoT.refl (O:Tab):MonoT O O:=fun _ _ o h=>⟨o,h,rfl,[],by simp⟩
theorem MonoT.trans {O O' O2:Tab} (h:MonoT O O') (k:MonoT O' O2):MonoT O O2:=fun q j o ho=>by
 obtain⟨o1,a1,a2,m1,a3⟩:=h q j o ho;obtain⟨o2,b1,b2,m2,b3⟩:=k q j o1 a1;exact⟨o2,b1,b2.trans a2,m1++m2,by rw[b3,a3,List.append_assoc]⟩
def Pend (o:WO) (y:Spo):Prop:=∃ t∈o.tr,t.x=y∧t.tried=0
def DoneP (o:WO) (y:Spo):Prop:=o.C y∨Pend o y
def HalfT (O:Tab) (o:WO) (x:Spo) (nd:Nd) (k:Nat):Prop:=∃ o',O (nd.kids.headD 0) x.place=some o'∧k≤o'.found.length∧∀ (i:Nat) (f:Way1),i<k→o'.found[i]?=some f→timeQ nd x f.stop=true→DoneP o (timeN nd x f.stop)
def FullT (c:Cx) (o:WO) (x:Spo) (nd:Nd):Prop:=
 (∀ kd j,c.T[nd.kids.headD 0]?=some kd→Way c.bs true true kd.r x.place j→j≤c.lim→timeQ nd x j=true→DoneP o (timeN nd x j))∧(nd.r.lo≤((x.done - 2:Nat):Int)→DoneP o { x with done:=1 })
structure SpecC (c:Cx) (o:WO) (x:Spo) (nd:Nd):Prop where
 ent:x.done=0→∀ i y,(entN c.bs c.lim nd x).1[i]?=some y→DoneP o y∨∃ t∈o.tr,t.x=x∧0<t.tried∧t.tried≤i
 lea:x.done=1→x.part≠o.part→∀ y∈(leaN c.T nd x).1,DoneP o y
 tim:2≤x.done→(∃ t∈o.tr,t.x=x∧0<t.tried)∨FullT c o x nd
theorem HalfT.keep {O O':Tab} {o o':WO} {x:Spo} {nd:Nd} {k:Nat} (h:HalfT O o x nd k) (hd:∀ y,DoneP o y→DoneP o' y) (hO:MonoT O O'):HalfT O' o' x nd k:=by
 obtain⟨o1,q4,q5,q6⟩:=h;obtain⟨o2,g1,_,more,g3⟩:=hO _ _ _ q4;refine⟨o2,g1,by rw[g3,List.length_append];omega,fun i f hi hf hq=>hd _ (q6 i f hi ?_ hq)⟩;rw[g3,List.getElem?_append_left (by omega)] at hf;exact hf
theorem SpecC.keep {c:Cx} {o o':WO} {x:Spo} {nd:Nd} (h:SpecC c o x nd) (hd:∀ y,DoneP o y→DoneP o' y) (ht:∀ t∈o.tr,t.x=x→0<t.tried→t∈o'.tr) (hp:o'.part=o.part):SpecC c o' x nd:=by
 refine⟨fun h0 i y hy=>?_,fun h1 h2 y hy=>hd y (h.lea h1 (by rw[←hp];exact h2) y hy),fun h2=>?_⟩
 ·rcases h.ent h0 i y hy with q | ⟨t,q1,q2,q3,q4⟩
  ·exact .inl (hd y q)
  ·exact .inr ⟨t,ht t q1 q2 q3,q2,q3,q4⟩
 ·rcases h.tim h2 with ⟨t,q1,q2,q3⟩ | ⟨q1,q2⟩
  ·exact .inl ⟨t,ht t q1 q2 q3,q2,q3⟩
  ·exact .inr ⟨fun kd j a b c' d=>hd _ (q1 kd j a b c' d),fun a=>hd _ (q2 a)⟩
def wt (t:Trk):Nat:=if t.tried=0 then 1 else 2 * (65 - t.tried)+1
noncomputable def meas (c:Cx) (o:WO):Nat:=leftS c.T.length c.lim o.C * 138+(o.tr.map wt).sum
def FoundOk (c:Cx) (w:World) (part p0:Nat) (f:Way1):Prop:=f.stop≤c.lim∧∃ l e nd,TrailP w f.tl l∧c.T[part]?=some nd∧Der c.bs nd.r p0 f.stop e∧SameE l e
def TrkOk (c:Cx) (w:World) (part p0:Nat) (t:Trk):Prop:=(∃ l,TrailP w t.tl l∧HoldS c.T c.bs part p0 t.x l)∧MvOk c.T part t.x∧t.x.place≤c.lim
def TriedOk (c:Cx) (O:Tab) (o:WO) (t:Trk):Prop:=o.C t.x∧t.tried≤64∧t.x.done≠1∧(t.x.done=0→∃ nd,c.T[t.x.part]?=some nd∧nd.r.kind=5∧t.tried<nd.kids.length)∧
 (2≤t.x.done→∃ nd,c.T[t.x.part]?=some nd∧HalfT O o t.x nd t.tried)
structure OInv (c:Cx) (w:World) (O:Tab) (o:WO) (p0:Nat) (ex:List Way1):Prop where
 nd:∃ nd,c.T[o.part]?=some nd
 start:p0≤c.lim
 at_:WaysAt c.fb w o
 tk:∀ t∈o.tr,TrkOk c w o.part p0 t
 tk2:∀ t∈o.tr,0<t.tried→TriedOk c O o t
 cb:∀ x,o.C x→BdS c.T c.lim o.part x∧(x.part=o.part→x.done=1→x.count=0∧x.mover= -1)
 fd:∀ f∈o.found++ex,FoundOk c w o.part p0 f∧o.C ⟨o.part,1,f.stop, -1,0⟩
 nodup:((o.found++ex).map (·.stop)).Nodup
 mp:o.tr≠[]→∃ m,o.mp=some m
 init:DoneP o ⟨o.part,0,p0, -1,0⟩
 spec:∀ x nd,o.C x→c.T[x.part]?=some nd→SpecC c o x nd
 fin:∀ x,o.C x→x.part=o.part→x.done=1→∃ f∈o.found++ex,f.stop=x.place
 ms:meas c o≤topS c.T.length c.lim * 138+1
theorem DoneP.of {o o':WO} {pre ps:List Trk} {t:Trk} (htr:o.tr=pre++[t]) (htr':o'.tr=pre++ps) (hC:∀ y,o'.C y ↔ o.C y∨y=t.x) {y:Spo} (h:DoneP o y):DoneP o' y:=by
 rcases h with h | ⟨t',h1,h2,h3⟩
 ·exact .inl ((hC y).2 (.inl h))
 ·rw[htr,List.mem_append,List.mem_singleton] at h1
  rcases h1 with h1 | rfl
  ·exact .inr ⟨t',by rw[htr',List.mem_append];exact .inl h1,h2,h3⟩
  ·exact .inl ((hC y).2 (.inr h2.symm))
theorem OInv.step {c:Cx} {w w':World} {O O':Tab} {o o':WO} {p0:Nat} {pre ps:List Trk} {t:Trk} {ex:List Way1} (h:OInv c w O o p0 []) (htr:o.tr=pre++[t]) (hat:WaysAt c.fb w' o') (hp:o'.part=o.part) (hC:∀ y,o'.C y ↔ o.C y∨y=t.x)
  (hbx:BdS c.T c.lim o.part t.x∧(t.x.part=o.part→t.x.done=1→t.x.count=0∧t.x.mover= -1)) (htr':o'.tr=pre++ps) (hfd:o'.found=o.found) (hmp:o'.mp=o.mp) (htp:∀ p l,TrailP w p l→TrailP w' p l) (hO:MonoT O O')
  (hps:∀ t'∈ps,TrkOk c w' o.part p0 t') (hps2:∀ t'∈ps,0<t'.tried→t'.x=t.x∧TriedOk c O' o' t')
  (hspec:∀ nd,c.T[t.x.part]?=some nd→SpecC c o' t.x nd) (hfin:t.x.part=o.part→t.x.done=1→∃ f∈o.found++ex,f.stop=t.x.place)
  (hex:∀ f∈ex,FoundOk c w' o.part p0 f∧o'.C ⟨o.part,1,f.stop, -1,0⟩) (hnd:((o.found++ex).map (·.stop)).Nodup) (hms:meas c o'≤meas c o):OInv c w' O' o' p0 ex:=by
 have hd:∀ y,DoneP o y→DoneP o' y:=fun y hy=>hy.of htr htr' hC
 have found:∀ f,FoundOk c w o.part p0 f→FoundOk c w' o.part p0 f:=fun f ⟨a,l,e,nd,b,d⟩=>⟨a,l,e,nd,htp _ _ b,d⟩
 refine⟨by rw[hp];exact h.nd,h.start,hat,fun t' ht'=>?_,fun t' ht' h0=>?_,fun x hx=>?_,fun f hf=>?_,by rw[hfd];exact hnd,fun hne=>?_,by rw[hp];exact hd _ h.init,fun x nd hx hn=>?_,fun x hx h1 h2=>?_,Nat.le_trans hms h.ms⟩
 ·rw[hp]
  rw[htr',List.mem_append] at ht'
  rcases ht' with ht' | ht'
  ·obtain⟨⟨l,a,b⟩,d⟩:=h.tk t' (by rw[htr,List.mem_append];exact .inl ht')
   exact⟨⟨l,htp _ _ a,b⟩,d⟩
  ·exact hps t' ht'
 ·rw[htr',List.mem_append] at ht'
  rcases ht' with ht' | ht'
  ·obtain⟨a,b,d,e,f⟩:=h.tk2 t' (by rw[htr,List.mem_append];exact .inl ht') h0
   refine⟨(hC _).2 (.inl a),b,d,e,fun g=>?_⟩;obtain⟨nd,q1,q2⟩:=f g;exact⟨nd,q1,q2.keep hd hO⟩
  ·exact(hps2 t' ht' h0).2
 ·rw[hp]
  rcases(hC x).1 hx with hx | rfl
  ·exact h.cb x hx
  ·exact hbx
 ·rw[hp]
  rw[hfd,List.mem_append] at hf
  rcases hf with hf | hf
  ·obtain⟨a,b⟩:=h.fd f (by simpa using hf)
   exact⟨found f a,(hC _).2 (.inl b)⟩
  ·exact hex f hf
 ·rw[hmp]
  exact h.mp (by rw[htr];simp)
 ·rcases(hC x).1 hx with hx | rfl
  ·by_cases hxt:x=t.x
   ·subst hxt;exact hspec nd hn
   ·refine(h.spec x nd hx hn).keep hd (fun t' ht' e _=>?_) hp
    rw[htr,List.mem_append,List.mem_singleton] at ht'
    rcases ht' with ht' | rfl
    ·rw[htr',List.mem_append];exact .inl ht'
    ·exact absurd e.symm hxt
  ·exact hspec nd hn
 ·rw[hfd]
  rw[hp] at h1
  rcases(hC x).1 hx with hx | rfl
  ·obtain⟨f,g1,g2⟩:=h.fin x hx h1 h2
   exact⟨f,by rw[List.mem_append];exact .inl (by simpa using g1),g2⟩
  ·exact hfin h1 h2
theorem OInv.keep {c:Cx} {w w':World} {O O':Tab} {o:WO} {p0:Nat} {ex:List Way1} (h:OInv c w O o p0 ex) (hat:WaysAt c.fb w' o) (htp:∀ p l,TrailP w p l→TrailP w' p l) (hO:MonoT O O'):OInv c w' O' o p0 ex:=by
 refine⟨h.nd,h.start,hat,fun t ht=>?_,fun t ht h0=>?_,h.cb,fun f hf=>?_,h.nodup,h.mp,h.init,fun x nd hx hn=>h.spec x nd hx hn,h.fin,h.ms⟩
 ·obtain⟨⟨l,a,b⟩,d⟩:=h.tk t ht
  exact⟨⟨l,htp _ _ a,b⟩,d⟩
 ·obtain⟨a,b,d,e,f⟩:=h.tk2 t ht h0
  refine⟨a,b,d,e,fun g=>?_⟩;obtain⟨nd,q1,q2⟩:=f g;exact⟨nd,q1,q2.keep (fun _ q=>q) hO⟩
 ·obtain⟨⟨a,l,e,nd,b,d⟩,g⟩:=h.fd f hf
  exact⟨⟨a,l,e,nd,htp _ _ b,d⟩,g⟩
theorem OInv.all {c:Cx} {w:World} {O:Tab} {o:WO} {p0:Nat} (hT:TabF c.T) (h:OInv c w O o p0 []) (htr:o.tr=[]) {nd:Nd} (hn:c.T[o.part]?=some nd) {k:Nat} (hw:Way c.bs true true nd.r p0 k) (hk:k≤c.lim):∃ f∈o.found,f.stop=k:=by
 have hd:∀ y,DoneP o y→o.C y:=fun y hy=>hy.elim id fun ⟨t,a,_⟩=>by rw[htr] at a;cases a
 have hC:ShutC c.T c.bs c.lim o.part p0 o.C:=by
  refine⟨hd _ h.init,fun x nd hx hn h0 y hy=>?_,fun x nd hx hn h1 hne y hy=>hd _ ((h.spec x nd hx hn).lea h1 hne y hy),fun x nd kd j hx hn h2 hq hw hj ht=>?_,fun x nd hx hn h2 hl=>?_⟩
  ·obtain⟨i,hi⟩:=List.getElem?_of_mem hy
   rcases(h.spec x nd hx hn).ent h0 i y hi with q | ⟨t,a,_⟩
   ·exact hd _ q
   ·rw[htr] at a;cases a
  ·rcases(h.spec x nd hx hn).tim h2 with ⟨t,a,_⟩ | q
   ·rw[htr] at a;cases a
   ·exact hd _ (q.1 kd j hq hw hj ht)
  ·rcases(h.spec x nd hx hn).tim h2 with ⟨t,a,_⟩ | q
   ·rw[htr] at a;cases a
   ·exact hd _ (q.2 hl)
 obtain⟨f,h1,h2⟩:=h.fin _ (y8w hT hC hn hw hk) rfl rfl;exact⟨f,by simpa using h1,h2⟩
theorem OInv.few {c:Cx} {w:World} {O:Tab} {o:WO} {p0:Nat} {ex:List Way1} (h:OInv c w O o p0 ex):(o.found++ex).length≤c.lim+1:=by
 have:=y29 h.nodup (n:=c.lim) fun x hx=>by
  obtain⟨f,h1,rfl⟩:=List.mem_map.1 hx;exact(h.fd f h1).1.1
 rwa [List.length_map] at this
end Go.Proofs.YtejgbpbljdhndaaDoor
