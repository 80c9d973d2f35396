import Derived.Test.YtejgbpbljdhndaaDoorH41
import Derived.Test.YtejgbpbljdhndaaDoorPrint2
import Derived.Test.YtejgbpbljdhndaaDoorH16
import Derived.Test.YtejgbpbljdhndaaDoorD9
namespace Go.Proofs.YtejgbpbljdhndaaDoor
open Go Go.RowKit
set_option maxRecDepth 100000
set_option maxHeartbeats 8000000
section
set_option linter.unusedSimpArgs false
theorem z6l (r:Re):mayE r=true ↔ RightP r:=by
 unfold mayE RightP
 cases form r 3 0 0 with
 | none=>simp
 | some g=>simp
def FindPost (r:Re) (s:ByteArray) (i k:Nat) (w:World) (e:Ending) (w':World):Prop:=∃ (M:Nat→Int × Int) (ok:Bool),e= .returned (.tuple #[.agg (cutsA M),.bool ok])∧Hid (FindFull s.data.toList r i k M ok∧Below w.heap.size w w')
theorem x15:cutsA (fun _=>(0,0))=zM:=rfl
theorem y7a:zM.all (·.oneCell')=true:=by rw[←x15];exact z5e _
theorem y0k (r:Re) (A:Option Addr) (c0:Nat) (s:ByteArray) (i k:Nat) (w:World) (hk:Kids (Lt w.heap.size) w A r) (hz:sizeE r≤60) (hs:s.size≤20) (hi:i≤s.size) (hks:k≤s.size):
  Calls Tryd.prog 7 #[valR r A c0,.string s,.int .i64 (i:Nat),.int .i64 (k:Nat)] w (FindPost r s i k w):=by
 have K14:Hid (∀ W,Below w.heap.size w W→Calls Tryd.prog 14 #[valR r A c0] W fun e w'=>e= .returned (.bool (mayE r))∧Below W.heap.size W w'):=Lib.hid fun W hW=>x09 r A c0 W (hk.next hW) (by omega)
 have K15:Hid (mayE r=true→∀ W,Below w.heap.size w W→Calls Tryd.prog 15 #[valR r A c0,.string s,.int .i64 (k:Nat)] W fun e w'=>∃ c:Cx,e= .returned (.pointer (some ⟨c.fb,0,none⟩))∧Hid (FinderOk r s k W c w')):=Lib.hid fun hm W hW=>y32 r A c0 s k W.heap.size W (hk.next hW) (Nat.le_refl _) ((z6l r).mp hm) hz hks (by omega)
 have HNO:Hid ((¬ i≤k∨mayE r=false)→∀ W,Below w.heap.size w W→FindPost r s i k w (.returned (.tuple #[.agg zM,.bool false])) W):=Lib.hid fun h W hW=>by
  refine⟨fun _=>(0,0),false,rfl,Lib.hid ⟨⟨fun _=>⟨fun ⟨h1,h2,_⟩=>?_,fun _=>rfl⟩,fun e=>(by cases e)⟩,hW⟩⟩
  rcases h with h | h
  ·exact h h2
  ·rw[(z6l r).mpr h1] at h;cases h
 have HRI:Hid (mayE r=true→RightP r):=Lib.hid (z6l r).mp;obtain⟨mb,hmb⟩:∃ mb,mb=mayE r:=⟨_,rfl⟩;rw[←hmb] at K14 K15 HNO HRI;obtain⟨kx,S,ks,lo,hi',n⟩:=r;obtain⟨r,hrr⟩:∃ r,r=Re.mk kx S ks lo hi' n:=⟨_,rfl⟩;simp only[valR] at K14 K15 ⊢;rw[←hrr] at K15 HNO HRI ⊢;obtain⟨s0,hs0⟩:∃ s0:Int,s0=S.1.toNat:=⟨_,rfl⟩;obtain⟨s1,hs1⟩:∃ s1:Int,s1=S.2.1.toNat:=⟨_,rfl⟩;obtain⟨s2,hs2⟩:∃ s2:Int,s2=S.2.2.1.toNat:=⟨_,rfl⟩;obtain⟨s3,hs3⟩:∃ s3:Int,s3=S.2.2.2.toNat:=⟨_,rfl⟩;obtain⟨m,hm⟩:∃ m,m=ks.length:=⟨_,rfl⟩;rw[←hs0,←hs1,←hs2,←hs3,←hm] at K14 K15 ⊢;have HB0:Hid (∀ o o',Below w.heap.size w ((w.alloc o).alloc o')):=Lib.hid fun o o'=>(z0b w o).alloc (by simp) o'
 have HBX:Hid (∀ (W:World),Below (((w.alloc (.cells #[.int .i64 kx,.int .u64 s0,.int .u64 s1,.int .u64 s2,.int .u64 s3,.slice A m c0,.int .i64 lo,.int .i64 hi',.int .i64 n] 27)).alloc (.cells zM 35)).heap.size) ((w.alloc (.cells #[.int .i64 kx,.int .u64 s0,.int .u64 s1,.int .u64 s2,.int .u64 s3,.slice A m c0,.int .i64 lo,.int .i64 hi',.int .i64 n] 27)).alloc (.cells zM 35)) W→
   W.heap[w.heap.size]?=some (.cells #[.int .i64 kx,.int .u64 s0,.int .u64 s1,.int .u64 s2,.int .u64 s3,.slice A m c0,.int .i64 lo,.int .i64 hi',.int .i64 n] 27)∧W.heap[w.heap.size+1]?=some (.cells zM 35)):=Lib.hid fun W hW=>by
  have e1:=heap_alloc_new (w.alloc (.cells #[.int .i64 kx,.int .u64 s0,.int .u64 s1,.int .u64 s2,.int .u64 s3,.slice A m c0,.int .i64 lo,.int .i64 hi',.int .i64 n] 27)) (.cells zM 35);simp only[World.size_alloc] at e1;refine⟨?_,?_⟩
  ·rw[hW.block _ (by simp;omega),(z0b _ _).block _ (by simp),heap_alloc_new]
  ·rw[hW.block _ (by simp)];exact e1
 have hi0:¬ (i:Int)<0:=by omega
 have hi1:decide ((i:Int)<0)=false:=by simp
 have hk1:decide ((k:Int) > (s.size:Int))=false:=by simp;omega
 have hk2:decide ((s.size:Int)<(k:Int))=false:=by simp;omega
 have hk3:decide (s.size<k)=false:=by simp;omega
 have HIK:Hid (i≤20∧k≤20):=Lib.hid ⟨by omega,by omega⟩;clear hk hz hi hmb hs0 hs1 hs2 hs3 hm hrr hks;unfold zM at HBX HNO;by_cases hik:i≤k
 ·have hik1:decide ((k:Int)<(i:Int))=false:=by simp;omega
  have hik2:decide (k<i)=false:=by simp;omega
  cases mb with
  | false=>
    go_enter Tryd.func7,Tryd.ntmps7;go_wp2_with (first | (go_at_call 14;((with_reducible refine(K14.out _ (HB0.out _ _)).mono ?_));rintro _ w2 ⟨rfl,HB2⟩;have HW2:=Lib.hid (HBX.out w2 HB2)) | (refine z0y rfl 35 (.tmp 8) (.tmp 32) rfl (w.heap.size+1) zM zM 35 rfl rfl HW2.out.2 rfl z2i y7a ?_) | fail);have HLV:(loadVar 35 ⟨w.heap.size+1,0,none⟩).run Tryd.prog (w2.setRow (w.heap.size+1) zM)= .ok (.agg zM) (w2.setRow (w.heap.size+1) zM):=run_loadVar_row _ _ 35 35 zM (0,0) _ (setRow_heap _ _ _ _ _ _ HW2.out.2) Tryd.underlying35 rfl z2i
    (try simp only[Exit.inBlock,Exit.then])
    exact bodyPost_ret (v:= .tuple #[.agg zM,.bool false]) (z1u rfl _ rfl rfl HLV) rfl (HNO.out (.inr trivial) _ (below_setRow ((HB0.out _ _).trans (HB2.mono (by simp;omega))) (by omega) _))
  | true=>
    have K16:Hid (∀ (W:World) (c:Cx) (w3:World),Below w.heap.size w W→(∃ cs,W.heap[w.heap.size+1]?=some (.cells cs 35)∧cs.size=20)→FinderOk r s k W c w3→Calls Tryd.prog 16 #[.pointer (some ⟨c.fb,0,none⟩),.int .i64 0,.int .i64 (i:Nat)] w3 fun e w'=>∃ va,e= .returned (.pointer (some ⟨va,0,none⟩))∧Hid (∃ O o,FindI c i k 0 w (w.heap.size+1) va w' O o)):=Lib.hid fun W c w3 hW hres h=>by
     obtain⟨h1,h2,h3,h4,h5,h6,h7⟩:=h;have hzW:=hW.size;obtain⟨cs,hc1,hc2⟩:=hres;have hlt:=(Array.getElem?_eq_some_iff.1 hc1).1;have hw:=z74 (c:=c) (q:=0) (pl:=i) (by omega) (by have:=HIK.out;omega) h5 ⟨_,by rw[h2];exact z86 r⟩ (by rw[h4];exact hik);refine hw.mono fun e w' ⟨va,e1,e2⟩=>⟨va,e1,Lib.hid ?_⟩
     obtain⟨O',o',g1,g2,g3,g4⟩:=e2.out;have hl3:=hW.trans (h6.mono hzW);refine⟨O',o',g4,g2,Nat.zero_le _,fun m f hm=>(by omega),g1,⟨cs,?_,hc2⟩,Post.below hl3 h5 (by omega) g3,by omega,by omega⟩;rw[g3.fr.block _ (by have:=h6.size;omega),h6.block _ hlt]
     ·exact hc1
     ·rintro(q | ⟨q,j,o1,_,q1,q2⟩)
      ·omega
      ·cases q1
    go_enter Tryd.func7,Tryd.ntmps7
    go_upto_region 3 with (first | (go_at_call 14;((with_reducible refine(K14.out _ (HB0.out _ _)).mono ?_));rintro _ w2 ⟨rfl,HB2⟩) | fail)
    have HL2:Hid (Below w.heap.size w w2):=Lib.hid ((HB0.out _ _).trans (HB2.mono (by simp;omega)));have HW2:=Lib.hid (HBX.out w2 HB2);have x0:w2.cell? ⟨w.heap.size,0,none⟩=some (.int .i64 kx):=(z0c HW2.out.1 0).trans rfl;have x1:w2.cell? ⟨w.heap.size,1,none⟩=some (.int .u64 s0):=(z0c HW2.out.1 1).trans rfl;have x2:w2.cell? ⟨w.heap.size,2,none⟩=some (.int .u64 s1):=(z0c HW2.out.1 2).trans rfl;have x3:w2.cell? ⟨w.heap.size,3,none⟩=some (.int .u64 s2):=(z0c HW2.out.1 3).trans rfl;have x4:w2.cell? ⟨w.heap.size,4,none⟩=some (.int .u64 s3):=(z0c HW2.out.1 4).trans rfl;have x5:w2.cell? ⟨w.heap.size,5,none⟩=some (.slice A m c0):=(z0c HW2.out.1 5).trans rfl;have x6:w2.cell? ⟨w.heap.size,6,none⟩=some (.int .i64 lo):=(z0c HW2.out.1 6).trans rfl;have x7:w2.cell? ⟨w.heap.size,7,none⟩=some (.int .i64 hi'):=(z0c HW2.out.1 7).trans rfl;have x8:w2.cell? ⟨w.heap.size,8,none⟩=some (.int .i64 n):=(z0c HW2.out.1 8).trans rfl
    go_upto_region 4 with (first | (go_at_call 15;((with_reducible refine(K15.out trivial _ HL2.out).mono ?_));rintro _ w3 ⟨c,rfl,HF⟩;have HXO:=Lib.hid HF.out.1;have HT:=Lib.hid HF.out.2;obtain⟨fb,hfb⟩:∃ fb,fb=c.fb:=⟨_,rfl⟩;have K16b:=Lib.hid (K16.out w2 c w3 HL2.out ⟨_,HW2.out.2,rfl⟩ HF.out);rw[←hfb] at K16b ⊢;clear hfb) | (go_at_call 16;((with_reducible refine(K16b.out).mono ?_));rintro _ w4 ⟨va,rfl,HI0⟩) | fail)
    obtain⟨RB,hRB⟩:∃ RB,RB=w.heap.size+1:=⟨_,rfl⟩;have HRB1:Hid (w.heap.size≤RB):=Lib.hid (by omega);rw[←hRB] at HI0 ⊢
    have HEND:Hid (∀ (n:Nat) (wr:World) (O:Tab) (o:WO) (w5:World) (st:Int) (u:Option Addr) (ok:Bool),FindI c i k n w RB va wr O o→NthOk c 0 i n wr O w5 st u ok→∀ bx,∃ O' o',FindI c i k n w RB va (w5.alloc bx) O' o'∧(ok=false→∀ W,Below w.heap.size w W→FindPost r s i k w (.returned (.tuple #[.agg zM,.bool false])) W)∧
      (ok=true→∃ f,o'.found[n]?=some f∧st=(f.stop:Nat)∧ .pointer u=pv f.tl∧n≤20∧∃ l e,TrailP (w5.alloc bx) f.tl l∧Der c.bs r i f.stop e∧SameE l e)):=Lib.hid fun n wr O o w5 st u ok h hn bx=>by
     obtain⟨O',o',g1,g2,g3,g4,g5⟩:=hn;obtain⟨hT,hs',hlim,_⟩:=HT.out;have h1:=(h.post g3 g2 g1).next (z0b w5 bx)
     refine⟨O',o',h1,fun e W hW=>?_,fun e=>?_⟩
     ·obtain⟨q1,q2,_⟩:=g5 e
      refine⟨fun _=>(0,0),false,rfl,Lib.hid ⟨⟨fun _=>⟨fun ⟨_,_,hw⟩=>?_,fun _=>rfl⟩,fun e=>(by cases e)⟩,hW⟩⟩;refine h1.none HXO.out hT (by omega) q1 q2 ?_;unfold Cx.bs;rw[hs'];exact hw
     ·obtain⟨f,q1,q2,q3⟩:=g4 e
      refine⟨f,q1,q2,q3,?_,h1.hit hT q1⟩;have:=h1.few;have:=(List.getElem?_eq_some_iff.1 q1).1;have:=HIK.out;omega
    have hik9:k≤20:=HIK.out.2;clear hRB x0 x1 x2 x3 x4 x5 x6 x7 x8;go_wp2
    go_loopw [11] (fun v wr=>∃ n:Nat,n≤21∧v= .int .i64 (n:Nat)∧Hid (∃ O o,FindI c i k n w RB va wr O o)) (fun v _=>22 - (intOf v).toNat)
    case atStart=>exact⟨0,by omega,rfl,HI0⟩
    case round=>
     obtain⟨q,hq,rfl,HI⟩:=hrel;obtain⟨O,o,hI⟩:=HI.out;have HIo:=Lib.hid hI
     have K17:Hid (Calls Tryd.prog 17 #[.pointer (some ⟨va,0,none⟩),.int .i64 (q:Nat)] wr fun e w'=>∃ st u ok,e= .returned (.tuple #[.agg #[.int .i64 st,.pointer u],.bool ok])∧Hid (NthOk c 0 i q wr O w' st u ok)):=Lib.hid (by
      have:=x35 HXO.out 0 wr O i o q hI.inv hI.ho hI.le;rw[hI.a] at this;exact this)
     clear hI
     go_upto_region 7 with (first | (go_at_call 17;((with_reducible refine(K17.out).mono ?_));rintro _ w5 ⟨st,u,ok,rfl,HN⟩) | fail)
     obtain⟨O5,o5,hI5,hno,hyes⟩:=HEND.out q wr O o w5 st u ok HIo.out HN.out (.cells #[.int .i64 st,.pointer u] 58);obtain⟨old,hold,hosz⟩:=hI5.res;have HOL:=Lib.hid (And.intro hold hosz);have HLW:=Lib.hid hI5.low;obtain⟨W5,hW5⟩:∃ W5,W5=w5.alloc (.cells #[.int .i64 st,.pointer u] 58):=⟨_,rfl⟩;have hb0:W5.heap[w5.heap.size]?=some (.cells #[.int .i64 st,.pointer u] 58):=by rw[hW5];exact heap_alloc_new _ _
     have z0:W5.cell? ⟨w5.heap.size,0,none⟩=some (.int .i64 st):=(z0c hb0 0).trans rfl;have z1:W5.cell? ⟨w5.heap.size,1,none⟩=some (.pointer u):=(z0c hb0 1).trans rfl;have HRB2:Hid (w.heap.size≤RB):=HRB1;rw[←hW5] at HOL HLW hI5 hyes ⊢;have HI5:=Lib.hid hI5;clear hI5 hW5 hold hb0
     cases ok with
     | false=>
       have HF:=Lib.hid (hno rfl);clear hyes hno;go_wp2_with (first | (refine z0y rfl 35 (.tmp 8) (.tmp 49) rfl RB old zM 35 rfl rfl HOL.out.1 HOL.out.2 z2i y7a ?_) | fail);have HLV:(loadVar 35 ⟨RB,0,none⟩).run Tryd.prog (W5.setRow RB zM)= .ok (.agg zM) (W5.setRow RB zM):=run_loadVar_row _ RB 35 35 zM (0,0) _ (setRow_heap _ _ _ _ _ _ HOL.out.1) Tryd.underlying35 rfl z2i
       (try simp only[Exit.inBlock,Exit.then])
       exact bodyPost_ret (v:= .tuple #[.agg zM,.bool false]) (z1u rfl _ rfl rfl HLV) rfl (HF.out _ (below_setRow HLW.out HRB2.out _))
     | true=>
       obtain⟨f,y1,y2,y3,y4,y5⟩:=hyes rfl;clear hno;obtain⟨fs,hfs⟩:∃ fs,fs=f.stop:=⟨_,rfl⟩;rw[←hfs] at y2;subst y2;have HY:=Lib.hid (And.intro y1 (And.intro hfs (And.intro y3 y5)));clear hyes y1 y3 y5 hfs;by_cases hfk:fs=k
       ·have e1:((fs:Int)==(k:Int))=true:=by simp[hfk]
        have e2:(fs==k)=true:=by simp[hfk]
        obtain⟨hf1,hf2,hf3,l,e,hf4,hf5,hf6⟩:=HY.out;obtain⟨M,hM⟩:∃ M,M=matM i k l:=⟨_,rfl⟩
        have K18:Hid (Calls Tryd.prog 18 #[.agg #[.int .i64 (fs:Nat),.pointer u],.int .i64 (i:Nat)] W5 fun e w'=>e= .returned (.agg (cutsA M))∧Hid (Below w.heap.size w (w'.setRow RB (cutsA M))∧∃ old',w'.heap[RB]?=some (.cells old' 35)∧old'.size=(cutsA M).size)):=Lib.hid (by
         have h:=y6y fs i f.tl l W5 hf4;rw[←hf3,hfk,←hM] at h;rw[hfk];refine h.mono fun e w' ⟨q1,q2⟩=>⟨q1,Lib.hid ⟨below_setRow (HLW.out.trans (q2.mono HLW.out.size)) HRB2.out _,old,(q2.block _ (Array.getElem?_eq_some_iff.1 HOL.out.1).1).trans HOL.out.1,HOL.out.2⟩⟩)
        have HFIN:Hid (FindFull s.data.toList r i k M true):=Lib.hid (by
         refine⟨fun e=>(by cases e),fun _=>⟨HRI.out trivial,hik,e,l,?_,hf6,hM⟩⟩;rw[←hf2,hfk] at hf5;have hb:c.bs=s.data.toList:=by unfold Cx.bs;rw[HT.out.2.1]
         rw[←hb];exact hf5)
        clear hfk hf1 hf2 hf3 hf4 hf5 hf6 hM;go_wp2_with (first | (go_at_call 18;((with_reducible refine(K18.out).mono ?_));rintro _ w6 ⟨rfl,HQ⟩;obtain⟨old2,ho2,ho3⟩:=HQ.out.2;have HO2:=Lib.hid (And.intro ho2 ho3);clear ho2 ho3) | (refine z0y rfl 35 (.tmp 8) (.tmp 56) rfl RB old2 (cutsA M) 35 rfl rfl HO2.out.1 HO2.out.2 z2i (z5e M) ?_) | fail);have HLV:(loadVar 35 ⟨RB,0,none⟩).run Tryd.prog (w6.setRow RB (cutsA M))= .ok (.agg (cutsA M)) (w6.setRow RB (cutsA M)):=run_loadVar_row _ RB 35 35 (cutsA M) (0,0) _ (setRow_heap _ _ _ _ _ _ HO2.out.1) Tryd.underlying35 rfl z2i
        (try simp only[Exit.inBlock,Exit.then])
        exact bodyPost_ret (v:= .tuple #[.agg (cutsA M),.bool true]) (z1u rfl _ rfl rfl HLV) rfl ⟨M,true,rfl,Lib.hid ⟨HFIN.out,HQ.out.1⟩⟩
       ·have e1:((fs:Int)==(k:Int))=false:=by simp;omega
        have e2:(fs==k)=false:=by simp;omega
        have HNX:Hid (∃ O o,FindI c i k (q+1) w RB va W5 O o):=Lib.hid ⟨O5,o5,HI5.out.more HY.out.1 (by rw[←HY.out.2.1];exact hfk)⟩;clear hfk;go_wp2
        go_roundw
        case rel=>exact⟨q+1,by omega,by go_num,HNX⟩
        case measure=>simp[intOf];omega
 ·have hik1:decide ((k:Int)<(i:Int))=true:=by simp;omega
  have hik2:decide (k<i)=true:=by simp;omega
  have HNI:=Lib.hid hik;clear hik;go_enter Tryd.func7,Tryd.ntmps7;obtain⟨W2,hW2⟩:∃ W2,W2=((w.alloc (.cells #[.int .i64 kx,.int .u64 s0,.int .u64 s1,.int .u64 s2,.int .u64 s3,.slice A m c0,.int .i64 lo,.int .i64 hi',.int .i64 n] 27)).alloc (.cells zM 35)):=⟨_,rfl⟩;have HW2:Hid (W2.heap[w.heap.size+1]?=some (.cells zM 35)):=Lib.hid (by rw[hW2];exact(HBX.out _ (Below.refl _ _)).2);have HL2:Hid (Below w.heap.size w W2):=Lib.hid (by rw[hW2];exact HB0.out _ _);unfold zM at hW2
  go_upto_region 2 with (fail)
  rw[←hW2];clear hW2;go_wp2_with (first | (refine z0y rfl 35 (.tmp 8) (.tmp 32) rfl (w.heap.size+1) zM zM 35 rfl rfl HW2.out rfl z2i y7a ?_) | fail);have HLV:(loadVar 35 ⟨w.heap.size+1,0,none⟩).run Tryd.prog (W2.setRow (w.heap.size+1) zM)= .ok (.agg zM) (W2.setRow (w.heap.size+1) zM):=run_loadVar_row _ _ 35 35 zM (0,0) _ (setRow_heap _ _ _ _ _ _ HW2.out) Tryd.underlying35 rfl z2i
  (try simp only[Exit.inBlock,Exit.then])
  exact bodyPost_ret (v:= .tuple #[.agg zM,.bool false]) (z1u rfl _ rfl rfl HLV) rfl (HNO.out (.inl HNI.out) _ (below_setRow HL2.out (by omega) _))
theorem y74:FindC:=fun r A c s i k w hk hz hs hi hks=>(y0k r A c s i k w hk hz hs hi hks).mono fun _ _ ⟨M,ok,h1,h2⟩=>⟨M,ok,h1,Lib.hid ⟨h2.out.1.ok,h2.out.2⟩⟩
end
section
set_option linter.unusedSimpArgs false
theorem bstG {w w1 w2:World} (h:Below w.heap.size w w1) (hb:Below w1.heap.size w1 w2):Below w.heap.size w w2:=h.trans (hb.mono h.size)
theorem y9p (w:World):Calls Tryd.prog 12 #[.string ⟨#[40,97,124,97,98,41,40,99,124,98,99,100,41]⟩] w fun e w'=>∃ A c,e= .returned (.tuple #[valR rG A c,.int .i64 0,.int .i64 0])∧Kids (Lt w'.heap.size) w' A rG∧Below w.heap.size w w':=by
 have h:=y3u ⟨#[40,97,124,97,98,41,40,99,124,98,99,100,41]⟩ w;have e:(ByteArray.mk #[40,97,124,97,98,41,40,99,124,98,99,100,41]).data.toList=[40,97,124,97,98,41,40,99,124,98,99,100,41]:=rfl;rw[e,x13] at h;refine h.mono fun e w' ⟨hb,A,c,he,hk⟩=>⟨A,c,he,?_,hb⟩
 exact z05 (fun _ _=>rfl) (fun k h=>by unfold Fr at h;unfold Lt;omega) rG A hk
theorem x1l (A:Option Addr) (c:Nat) (w:World) (hk:Kids (Lt w.heap.size) w A rG):Calls Tryd.prog 7 #[valR rG A c,.string ⟨#[97,98,99,100]⟩,.int .i64 0,.int .i64 4] w fun e w'=>∃ M,e= .returned (.tuple #[.agg (cutsA M),.bool true])∧Hid ((M 0=(0,4)∧M 1=(0,1)∧M 2=(1,4)∧M 3=(-1, -1))∧Below w.heap.size w w'):=by
 have h:=y0k rG A c ⟨#[97,98,99,100]⟩ 0 4 w hk x1s (by decide) (by decide) (by decide);refine h.mono fun e w' ⟨M,ok,h1,h2⟩=>⟨M,?_⟩
 obtain⟨hf,hb⟩:=h2.out
 cases ok with
 | false=>exact absurd ⟨y75,by decide,z6w _ _ _ _ _ x3m⟩ (hf.no rfl).1
 | true=>
   obtain⟨_,_,l,l',q1,q2,rfl⟩:=hf.yes rfl;exact⟨h1,Lib.hid ⟨y9f q1 q2,hb⟩⟩
theorem y0q:AwC:=by
 intro w;obtain⟨k,s0,s1,s2,s3,m,lo,hi,n,hv⟩:=x1j rG;have K12:=Lib.hid (y9p w);have K7:=Lib.hid x1l;have K11:=Lib.hid (fun M W=>y0m M ⟨#[97,98,99,100]⟩ W (by decide));simp only[hv] at K12 K7;clear hv;have hst1:=z6e;have hst2:=z5r;go_enter Tryd.func5,Tryd.ntmps5
 go_upto_region 2 with (first | (go_at_call 12;((with_reducible refine(K12.out).mono ?_));rintro _ w1 ⟨A,c,rfl,hk1,hb1⟩;have H1:=Lib.hid (And.intro hk1 hb1);clear hk1 hb1) | fail)
 have HK7:Hid (Calls Tryd.prog 7 #[.agg #[.int .i64 k,.int .u64 s0,.int .u64 s1,.int .u64 s2,.int .u64 s3,.slice A m c,.int .i64 lo,.int .i64 hi,.int .i64 n],.string ⟨#[97,98,99,100]⟩,.int .i64 0,.int .i64 4] (w1.alloc (.cells #[.int .i64 k,.int .u64 s0,.int .u64 s1,.int .u64 s2,.int .u64 s3,.slice A m c,.int .i64 lo,.int .i64 hi,.int .i64 n] 27)) fun e w'=>∃ M,e= .returned (.tuple #[.agg (cutsA M),.bool true])∧Hid ((M 0=(0,4)∧M 1=(0,1)∧M 2=(1,4)∧M 3=(-1, -1))∧Below w.heap.size w w')):=Lib.hid (by
  refine(K7.out A c _ (H1.out.1.next (z0b w1 _))).mono fun e w' ⟨M,h1,h2⟩=>⟨M,h1,Lib.hid ⟨h2.out.1,bstG (bstG H1.out.2 (z0b w1 _)) h2.out.2⟩⟩)
 go_upto_region 3 with (first | (go_at_call 7;((with_reducible refine(HK7.out).mono ?_));rintro _ w2 ⟨M,rfl,HM⟩) | fail)
 have HRA:Hid ((w2.alloc (.cells (cutsA M) 35)).rangeAt w2.heap.size 0 (cutsA M).toList):=Lib.hid (y1g (t:=35) (heap_alloc_new w2 _));have HK11:Hid (Calls Tryd.prog 11 #[.agg (cutsA M),.string ⟨#[97,98,99,100]⟩] (w2.alloc (.cells (cutsA M) 35)) fun e w'=>e= .returned (.agg (strsA ⟨#[97,98,99,100]⟩ M))∧Hid (w'.heap[w2.heap.size]?=some (.cells (cutsA M) 35)∧Below w.heap.size w w')):=Lib.hid ((K11.out M _).mono fun e w' ⟨h1,h2⟩=>⟨h1,Lib.hid ⟨by rw[h2.block _ (by simp),heap_alloc_new],bstG (bstG HM.out.2 (z0b w2 _)) h2⟩⟩);obtain⟨sv,hsv⟩:∃ sv,sv=strsA ⟨#[97,98,99,100]⟩ M:=⟨_,rfl⟩;have hs1:sv.all (·.oneCell')=true:=by rw[hsv];exact y2n _ _
 have hs2:sv.size=10:=by rw[hsv];rfl
 have HSV:=Lib.hid hsv;have HS12:Hid (sv.all (·.oneCell')=true∧z10.size=sv.size∧(Tryd.prog.info? 45).map (·.size)=some sv.size):=Lib.hid ⟨hs1,hs2.symm,by rw[hs2];exact z88⟩;rw[←hsv] at HK11;clear hsv hs1 hs2
 go_upto_region 4 with (first | (refine wpList_load_mid rfl 35 (.tmp 4) rfl w2.heap.size 0 rfl (cutsA M).toList _ HRA.out Tryd.underlying35 rfl z2i ?_;simp only[Array.toArray_toList]) | (go_at_call 11;((with_reducible refine(HK11.out).mono ?_));rintro _ w3 ⟨rfl,HQ⟩) | (refine z0y rfl 45 (.tmp 6) (.tmp 18) rfl w3.heap.size z10 sv 45 rfl rfl (heap_alloc_new w3 _) HS12.out.2.1 HS12.out.2.2 HS12.out.1 ?_) | fail)
 obtain⟨W4,hW4⟩:∃ W4,W4=(w3.alloc (.cells z10 45)).setRow w3.heap.size sv:=⟨_,rfl⟩;have hlt:=(Array.getElem?_eq_some_iff.1 HQ.out.1).1;have hr1:W4.heap[w3.heap.size]?=some (.cells sv 45):=by rw[hW4];exact setRow_heap _ _ _ _ _ _ (heap_alloc_new w3 _)
 have hr2:W4.heap[w2.heap.size]?=some (.cells (cutsA M) 35):=by
  rw[hW4,setRow_other _ _ _ _ (by omega),(z0b w3 _).block _ hlt];exact HQ.out.1
 have HL4:Hid (Below w.heap.size w W4):=Lib.hid (by rw[hW4];exact below_setRow (bstG HQ.out.2 (z0b w3 _)) HQ.out.2.size _);obtain⟨⟨m0,m1,m2,m3⟩,_⟩:=HM.out;have a0:W4.cell? ⟨w3.heap.size,0,none⟩=some (.string ⟨#[97,98,99,100]⟩):=(z0c hr1 0).trans (by rw[HSV.out,z47 _ _ (by decide),m0,x2g]);have a1:W4.cell? ⟨w3.heap.size,1,none⟩=some (.string ⟨#[97]⟩):=(z0c hr1 1).trans (by rw[HSV.out,z47 _ _ (by decide),m1,x2u]);have a2:W4.cell? ⟨w3.heap.size,2,none⟩=some (.string ⟨#[98,99,100]⟩):=(z0c hr1 2).trans (by rw[HSV.out,z47 _ _ (by decide),m2,x2m]);have b0:W4.cell? ⟨w2.heap.size,6,none⟩=some (.int .i64 (-1)):=(z0c hr2 6).trans (by have:=(z19 M (n:=3) (by decide)).1;rw[m3] at this;exact this);have b1:W4.cell? ⟨w2.heap.size,7,none⟩=some (.int .i64 (-1)):=(z0c hr2 7).trans (by have:=(z19 M (n:=3) (by decide)).2;rw[m3] at this;exact this);have hce:∀ W,(binOp .eql 32 (.agg #[.int .i64 (-1),.int .i64 (-1)]) (.agg #[.int .i64 (-1),.int .i64 (-1)])).run Tryd.prog W= .ok (.bool true) W:=fun W=>by rw[y7k];rfl
 unfold z10 at hW4;rw[←hW4];clear hr1 hr2 m0 m1 m2 m3 hW4 hlt hst1 hst2;go_wp2;go_ret;exact⟨rfl,HL4.out⟩
end
end Go.Proofs.YtejgbpbljdhndaaDoor
