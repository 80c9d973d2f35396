import Derived.Test.YtiafefjaldcpbaaDoorN15
namespace Go.Proofs.YtiafefjaldcpbaaDoor
open Go Go.RowKit
set_option maxRecDepth 100000
set_option maxHeartbeats 4000000
theorem bbx {w w1:World} (h:Below w.heap.size w w1) (o:Obj):Below w.heap.size w (w1.alloc o):=h.alloc h.size o
structure RdQ (st:ByteArray) (r:Re) (v:Option Addr→Nat→Value):Prop where
 read:∀ W,Calls Tryd.prog 7 #[.string st] W fun e w'=>∃ A c,e= .returned (.tuple #[v A c,.int .i64 0,.int .i64 0])∧Hid (Kids (Lt w'.heap.size) w' A r)∧Hid (Below W.heap.size W w')
 right:∀ W A c,Kids (Lt W.heap.size) W A r→Calls Tryd.prog 8 #[v A c] W fun e w'=>e= .returned (.bool (rightB r))∧Hid (Below W.heap.size W w')
 mat:∀ W A c,Kids (Lt W.heap.size) W A r→∀ t:ByteArray,t.size≤100→RetV 9 #[v A c,.string t,.bool false,.bool false] (.bool (matB r t.data.toList)) W
theorem rdq_of {st:ByteArray} {r:Re} (h:parseE st.data.toList=(some r,0,0)):RdQ st r (fun A c=>valR r A c):=by
 have hs:sizeE r≤600:=by have:=(parse_made h).2.2;omega
 refine⟨fun W=>(parse_yes h W).mono fun e w' ⟨A,c,h1,h2,h3⟩=>⟨A,c,h1,Lib.hid (lt_fr h2),Lib.hid h3⟩,fun W A c hk=>(right_c r A c W hk hs W (Below.refl _ _)).mono fun e w' ⟨h1,h2⟩=>⟨h1,Lib.hid h2⟩,fun W A c hk t ht=>match_c r A c W hk hs t ht⟩
theorem er_ne {er:Int} {q n:Nat} (h:er=1∨er=8∧q<n):¬ er=0:=by rcases h with h | h <;> omega
theorem str_1 (a:ByteArray):((⟨#[40]⟩++a)++⟨#[41]⟩:ByteArray).data.toList=brk a.data.toList:=by simp[brk]
structure IsAt (w:World) (okb sb:Nat) (s:ByteArray) (ok:Bool):Prop where
 c1:w.cell? ⟨okb,0,none⟩=some (.bool ok)
 f1:w.frozen? ⟨okb,0,none⟩=false
 c2:w.cell? ⟨sb,0,none⟩=some (.string s)
theorem IsAt.below {w W:World} {okb sb:Nat} {s:ByteArray} {ok:Bool} (h:IsAt w okb sb s ok) (hb:Below w.heap.size w W):IsAt W okb sb s ok:=
 ⟨(hb.cell (World.block_lt_of_cell? w _ h.c1)).trans h.c1,(hb.frozen (World.block_lt_of_cell? w _ h.c1)).trans h.f1,(hb.cell (World.block_lt_of_cell? w _ h.c2)).trans h.c2⟩
theorem IsAt.put {w:World} {okb sb:Nat} {s:ByteArray} {ok:Bool} (h:IsAt w okb sb s ok) (hne:okb≠sb) (o:Bool):IsAt (w.setCell ⟨okb,0,none⟩ (.bool o)) okb sb s o:=
 ⟨World.cell?_setCell_same _ _ _ h.c1,by rw[World.frozen?_setCell];exact h.f1,(World.cell?_setCell_other _ _ _ _ (by intro e;injection e with e;exact hne e)).trans h.c2⟩
theorem is_c {p s:ByteArray} {r:Re} (hp:parseE p.data.toList=(some r,0,0)) (hs:s.size≤100) {okb sb:Nat} {ok:Bool} {w:World} (h:IsAt w okb sb s ok) (hne:okb≠sb):
  Calls Tryd.prog 10 #[.string p,.pointer (some ⟨okb,0,none⟩),.pointer (some ⟨sb,0,none⟩)] w fun e w'=>e= .returned (.bool (matB r s.data.toList))∧IsAt w' okb sb s (ok && rightB r)∧∀ B,B≤okb→Below B w w':=by
 have Q:=rdq_of hp;obtain⟨k,a,b,d,e,m,l,g,n,v⟩:=val_re r;simp only[v] at Q;have hlt:okb<w.heap.size:=World.block_lt_of_cell? w _ h.c1;have KP:Hid (Calls Tryd.prog 7 #[.string p] w fun e' w'=>∃ A c,e'= .returned (.tuple #[.agg #[.int .i64 k,.int .u64 a,.int .u64 b,.int .u64 d,.int .u64 e,.slice A m c,.int .i64 l,.int .i64 g,.int .i64 n],.int .i64 0,.int .i64 0])∧Hid (Kids (Fr w.heap.size w'.heap.size) w' A r)∧Hid (Below w.heap.size w w')):=Lib.hid ((parse_yes hp w).mono fun e' w' ⟨A,c,h1,h2,h3⟩=>⟨A,c,by rw[h1,v],Lib.hid h2,Lib.hid h3⟩)
 have HB0:Hid (∀ (w1:World) (A:Option Addr) (c:Nat),Kids (Fr w.heap.size w1.heap.size) w1 A r→Below w.heap.size w w1→IsAt (w1.alloc (.cells #[.int .i64 k,.int .u64 a,.int .u64 b,.int .u64 d,.int .u64 e,.slice A m c,.int .i64 l,.int .i64 g,.int .i64 n] 29)) okb sb s ok∧(w1.heap.size≠okb∧okb≠w1.heap.size)∧∀ W,Below (w1.alloc (.cells #[.int .i64 k,.int .u64 a,.int .u64 b,.int .u64 d,.int .u64 e,.slice A m c,.int .i64 l,.int .i64 g,.int .i64 n] 29)).heap.size (w1.alloc (.cells #[.int .i64 k,.int .u64 a,.int .u64 b,.int .u64 d,.int .u64 e,.slice A m c,.int .i64 l,.int .i64 g,.int .i64 n] 29)) W→Kids (Lt W.heap.size) W A r∧IsAt W okb sb s ok∧Box9 W w1.heap.size (.int .i64 k) (.int .u64 a) (.int .u64 b) (.int .u64 d) (.int .u64 e) (.slice A m c) (.int .i64 l) (.int .i64 g) (.int .i64 n)∧∀ u,Kids (Lt (W.setCell ⟨okb,0,none⟩ u).heap.size) (W.setCell ⟨okb,0,none⟩ u) A r):=Lib.hid fun w1 A c hk hb=>by
  have hz:=hb.size;have hi:=h.below (bbx hb (.cells #[.int .i64 k,.int .u64 a,.int .u64 b,.int .u64 d,.int .u64 e,.slice A m c,.int .i64 l,.int .i64 g,.int .i64 n] 29));refine⟨hi,⟨by omega,by omega⟩,fun W hW=>⟨((lt_fr hk).next (one_box w1 _)).next hW,hi.below hW,(Box9.new w1 (.int .i64 k) (.int .u64 a) (.int .u64 b) (.int .u64 d) (.int .u64 e) (.slice A m c) (.int .i64 l) (.int .i64 g) (.int .i64 n)).keep hW,fun u=>?_⟩⟩;have hzW:=hW.size;have hz1:(w1.alloc (.cells #[.int .i64 k,.int .u64 a,.int .u64 b,.int .u64 d,.int .u64 e,.slice A m c,.int .i64 l,.int .i64 g,.int .i64 n] 29)).heap.size=w1.heap.size+1:=by simp
  refine kids_of (P:=Fr w.heap.size w1.heap.size) (w:=w1) (fun q hq=>?_) (fun k hk=>?_) r A hk
  ·obtain⟨g1,g2⟩:=hq
   have e1:(W.setCell ⟨okb,0,none⟩ u).heap[q.block]?=W.heap[q.block]?:=Below.heap_setCell _ _ _ _ (by show q.block≠okb;omega);exact cell_same ((e1.trans (hW.block _ (by omega))).trans ((one_box w1 _).block _ g2))
  ·have hk2:k<w1.heap.size:=hk.2
   show k<(W.setCell ⟨okb,0,none⟩ u).heap.size;rw[size_setc];omega
 have KR:=Lib.hid Q.right;have KM:Hid (∀ W A c,Kids (Lt W.heap.size) W A r→Calls Tryd.prog 9 #[.agg #[.int .i64 k,.int .u64 a,.int .u64 b,.int .u64 d,.int .u64 e,.slice A m c,.int .i64 l,.int .i64 g,.int .i64 n],.string s,.bool false,.bool false] W fun e' w'=>e'= .returned (.bool (matB r s.data.toList))∧Hid (Below W.heap.size W w')):=Lib.hid fun W A c hk=>(Q.mat W A c hk s hs W (Below.refl _ _)).mono fun e' w' ⟨h1,h2⟩=>⟨h1,Lib.hid h2⟩
 obtain⟨rb,hrb⟩:∃ rb,rb=rightB r:=⟨_,rfl⟩;obtain⟨mv,hmv⟩:∃ mv,mv=matB r s.data.toList:=⟨_,rfl⟩;rw[←hrb] at KR ⊢;rw[←hmv] at KM ⊢;have HOK:Hid (okb<w.heap.size):=Lib.hid hlt;have HNE:Hid (okb≠sb):=Lib.hid hne
 suffices hsf:Calls Tryd.prog 10 #[.string p,.pointer (some ⟨okb,0,none⟩),.pointer (some ⟨sb,0,none⟩)] w fun e w'=>e= .returned (.bool mv)∧Hid (IsAt w' okb sb s (ok && rb)∧∀ B,B≤okb→Below B w w') from hsf.mono fun e w' ⟨h1,h2⟩=>⟨h1,h2.out⟩
 clear hp Q v hs h hrb hmv hlt;have hne2:sb≠okb:=fun e=>hne e.symm
 cases ok with
 | true=>
   go_enter Tryd.func10,Tryd.ntmps10
   go_wp2_with (first
    | (go_at_call 7;(with_reducible refine(KP.out).mono ?_);rintro _ w1 ⟨A,c,rfl,HK,HB⟩;obtain⟨hi,hn9,hall⟩:=HB0.out w1 A c HK.out HB.out;have HALL:=Lib.hid hall;obtain⟨n1,n2⟩:=hn9;obtain⟨i1,i2,i3⟩:=hi;have HR2:=Lib.hid (KR.out _ A c (hall _ (Below.refl _ _)).1);have HM2:=Lib.hid (KM.out _ A c ((hall _ (Below.refl _ _)).2.2.2 (.bool false)));clear hall)
    | (go_at_call 8;(with_reducible refine(HR2.out).mono ?_);rintro _ w2 ⟨rfl,HB2⟩;clear i1 i2 i3;obtain⟨_,⟨i1,i2,i3⟩,⟨x0,x1,x2,x3,x4,x5,x6,x7,x8,_⟩,hks⟩:=HALL.out _ HB2.out;have HM3:=Lib.hid (KM.out _ A c (hks (.bool rb)));clear hks)
    | (go_at_call 9;(with_reducible refine(HM3.out).mono ?_);rintro _ w3 ⟨rfl,HB3⟩))
   go_ret;refine⟨rfl,Lib.hid ⟨?_,fun B hB=>?_⟩⟩
   ·exact((HALL.out _ HB2.out).2.1.put HNE.out rb).below HB3.out
   ·have hk:=HOK.out
    have z1:=HB.out.size;have z2:=HB2.out.size;have z3:(w1.alloc (.cells #[.int .i64 k,.int .u64 a,.int .u64 b,.int .u64 d,.int .u64 e,.slice A m c,.int .i64 l,.int .i64 g,.int .i64 n] 29)).heap.size=w1.heap.size+1:=by simp
    have z4:(w2.setCell ⟨okb,0,none⟩ (.bool rb)).heap.size=w2.heap.size:=by simp
    exact((((HB.out.mono (by omega)).trans ((one_box w1 _).mono (by omega))).trans (HB2.out.mono (by omega))).setCell hB _).trans (HB3.out.mono (by omega))
 | false=>
   go_enter Tryd.func10,Tryd.ntmps10
   go_wp2_with (first
    | (go_at_call 7;(with_reducible refine(KP.out).mono ?_);rintro _ w1 ⟨A,c,rfl,HK,HB⟩;obtain⟨hi,hn9,hall⟩:=HB0.out w1 A c HK.out HB.out;have HALL:=Lib.hid hall;obtain⟨n1,n2⟩:=hn9;obtain⟨i1,i2,i3⟩:=hi;have HR2:=Lib.hid (KR.out _ A c (hall _ (Below.refl _ _)).1);have HM2:=Lib.hid (KM.out _ A c ((hall _ (Below.refl _ _)).2.2.2 (.bool false)));clear hall)
    | (go_at_call 9;(with_reducible refine(HM2.out).mono ?_);rintro _ w3 ⟨rfl,HB3⟩))
   go_ret;refine⟨rfl,Lib.hid ⟨?_,fun B hB=>?_⟩⟩
   ·exact((HALL.out _ (Below.refl _ _)).2.1.put HNE.out false).below HB3.out
   ·have hk:=HOK.out
    have z1:=HB.out.size;have z3:(w1.alloc (.cells #[.int .i64 k,.int .u64 a,.int .u64 b,.int .u64 d,.int .u64 e,.slice A m c,.int .i64 l,.int .i64 g,.int .i64 n] 29)).heap.size=w1.heap.size+1:=by simp
    have z4:((w1.alloc (.cells #[.int .i64 k,.int .u64 a,.int .u64 b,.int .u64 d,.int .u64 e,.slice A m c,.int .i64 l,.int .i64 g,.int .i64 n] 29)).setCell ⟨okb,0,none⟩ (.bool false)).heap.size=(w1.alloc (.cells #[.int .i64 k,.int .u64 a,.int .u64 b,.int .u64 d,.int .u64 e,.slice A m c,.int .i64 l,.int .i64 g,.int .i64 n] 29)).heap.size:=by simp
    exact((((HB.out.mono (by omega)).trans ((one_box w1 _).mono (by omega)))).setCell hB _).trans (HB3.out.mono (by omega))
end Go.Proofs.YtiafefjaldcpbaaDoor
