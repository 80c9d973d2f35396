import Derived.Test.YtngfihoempcplaaGreatDoorCf
import Derived.Test.YtngfihoempcplaaGreatDoorSmQ8
import Derived.Test.YtngfihoempcplaaGreatDoorSmQ16
import Derived.Test.YtngfihoempcplaaGreatDoorSm4
import Derived.Test.YtngfihoempcplaaGreatDoorEx30
namespace Go.Proofs.YtngfihoempcplaaGreatDoor
open Go Go.RowKit
set_option maxHeartbeats 2000000
theorem kn_of {nm:Bs} (h:okNm nm):Hid (∀ w',Cz 78 #[nm] w' fun e w2=>e= .returned true∧w'=w2):=zz fun w'=>by
 obtain⟨h1,h2,h3⟩:=h
 cases nm with
 | nil=>exact absurd h1 (by decide)
 | cons c t=>exact y32 ⟨(c::t).toArray⟩ (by show (c::t).toArray.size≤_;simp only[List.size_toArray];omega) (by show isName ((c::t).toArray).toList=true;simpa using h1) (by show 0<(c::t).toArray.size;simp) (h3 c t rfl) w'
theorem kq_of {w:World} {A:OA} {ps:List Pt} {c:Nat} (k:RdP (LtX w.heap.size) w A ps) (h:okTx ps):Hid (∀ w',Below w.heap.size w w'→Cz 80 #[.slice A ps.length c] w' fun e w2=>e= .returned true∧Below w'.heap.size w' w2):=zz fun w' hw=>by
 have:=y0b A ps.length c ps w' (z5e.1 (k.next hw)) h.2.1 h.2.2;rw[h.1] at this;exact this
theorem kx_of {w:World} {A:OA} {x:Ex} {c:Nat} (k:KidsX (LtX w.heap.size) w A x) (h:okCo x):Hid (∀ w',Below w.heap.size w w'→Cz 81 #[.agg #[x.kind,x.n,x.name,x.op,.slice A x.kids.length c]] w' fun e w2=>e= .returned true∧Below w'.heap.size w' w2):=zz fun w' hw=>by
 have:=y4m x A c w' (k.next hw) h.2.1 h.2.2;rw[h.1,z4q] at this;exact this
theorem kb_of {w:World} {A:OA} {b:List Cm} {c:Nat} {o:Int} (hb:∀ x∈b,PMc x) (h0:0≤o) (h1:o<16) (hl:b.length≤1000000) (hy:∀ x∈b,MyC (o+1) x) (k:RowC (LtX w.heap.size) w A b):Hid (∀ w',Below w.heap.size w w'→Cz 82 #[.slice A b.length c,o] w' fun e w2=>e= .returned true∧Below w'.heap.size w' w2):=zz fun w' hw=>
 z8y b hb o A c w' h0 h1 hy (k.next hw) hl
theorem ku_of {w:World} {A:OA} {b:List Ru} {c:Nat} {o:Int} (hb:∀ x∈b,PMr x) (h0:0≤o) (h1:o<16) (hne:b≠[]) (hl:b.length≤1000000) (hy:∀ x∈b,MyR (o+1) x) (k:RowU (LtX w.heap.size) w A b):Hid (∀ w',Below w.heap.size w w'→Cz 83 #[.slice A b.length c,o] w' fun e w2=>e= .returned true∧Below w'.heap.size w' w2):=zz fun w' hw=>
 y3l b hb o A c w' h0 h1 hne hy (k.next hw) hl
theorem x0z (k:Int) (nm:Bs) (n:Int) (ps:List Pt) (x:Ex) (b e:List Cm) (u:List Ru) (p:Int) (hb:∀ c∈b,PMc c) (he:∀ c∈e,PMc c) (hu:∀ r∈u,PMr r):PMc (.mk k nm n ps x b e u p):=by
 intro o lk w h0 h1 hy hk;rw[z0u] at hk;obtain⟨k1,k3,k4,k5,k6⟩:=hk;obtain⟨lp,lcp,lx,lcx,lb,lcb,le,lce,lu,lcu⟩:=lk
 cases hy with
 | k1 a1 a2=>exact x4x _ _ _ _ _ _ _ _ _ _ _ _ _ o w (kn_of a1) (kq_of k1 a2)
 | k2 a1 a2=>exact x41 _ _ _ _ _ _ _ _ _ _ _ _ _ _ _ _ _ o w (kn_of a1) (kx_of k3 a2)
 | k3 a1 a2=>exact x48 _ _ _ _ _ _ _ _ _ _ _ _ _ o w (kn_of a1) a2
 | k4 a1 a2 a3 a4 a5 a6=>exact x5d _ _ _ _ _ _ _ _ _ _ _ _ _ _ _ _ _ _ o w (kx_of k3 a1) (kb_of hb h0 a2 a3 a5 k4) (kb_of he h0 a2 a4 a6 k5)
 | k5 a1 a2 a3 a4=>exact x5c _ _ _ _ _ _ _ _ _ _ _ _ _ _ _ _ _ o w (kx_of k3 a1) (kb_of hb h0 a2 a3 a4 k4)
 | k6 a1 a2 a3 a4=>exact x47 _ _ _ _ _ _ _ _ _ _ _ _ _ o w (kn_of a1) (kb_of hb h0 a2 a3 a4 k4)
 | k7 a1=>exact x5m _ _ _ _ _ _ _ _ _ _ _ _ o w (kn_of a1)
 | k8 a1=>exact x46 _ _ _ _ _ _ _ _ _ _ _ _ o w a1
 | k9 a1=>exact x5g _ _ _ _ _ _ _ _ _ _ _ _ o w a1
 | k10 a1=>exact x3z _ _ _ _ _ _ _ _ _ _ _ _ o w (kq_of k1 a1)
 | k11 a1=>exact x3a _ _ _ _ _ _ _ _ _ _ _ _ o w a1
 | k12 a1 a2 a3 a4=>exact x3f _ _ _ _ _ _ _ _ _ _ _ _ o w (ku_of hu h0 a2 a1 a3 a4 k6)
 | k13 a1 a2 a3 a4=>exact x3x _ _ _ _ _ _ _ _ _ _ _ _ o w (ku_of hu h0 a2 a1 a3 a4 k6)
 | k14 a1 a2 a3 a4=>exact x3o _ _ _ _ _ _ _ _ _ _ _ _ o w (ku_of hu h0 a2 a1 a3 a4 k6)
 | k15=>exact x29 _ _ _ _ _ _ _ _ _ _ _ o w
 | k16=>exact x4q _ _ _ _ _ _ _ _ _ _ _ o w
theorem x17 (k q pk:Int) (pt:Bs) (b:List Cm) (p:Int) (hb:∀ c∈b,PMc c):PMr (.mk k q pk pt b p):=by
 intro o A c w h0 h1 hy hk
 cases hy with
 | mk a1 a2 a3 a4=>exact z8y b hb o A c w h0 a2 a4 (z2j.1 hk) a3
theorem x49:(∀ c,PMc c)∧∀ r,PMr r:=Cm.ind2 (P:=PMc) (Q:=PMr) x0z x17
theorem y0z (b:List Cm) (A:OA) (c:Nat) (w:World) (hk:RowC (LtX w.heap.size) w A b) (hy:∀ x∈b,MyC 0 x) (hl:b.length≤1000000):
  Cz 10 #[.slice A b.length c] w fun e w'=>e= .returned true∧Below w.heap.size w w':=by
 have K:Hid (∀ w',Below w.heap.size w w'→Cz 23 #[.slice A b.length c,oZ] w' fun e w2=>e= .returned true∧Below w'.heap.size w' w2):=zz fun w' hw=>z6y b (fun x _=>x49.1 x) 0 A c w' (by decide) (by decide) hy (hk.next hw) hl
 generalize b.length=n at K;clear hk hy hl;go_enter Tryz.func10,Tryz.ntmps10;go_wp2_with (go_at_call 23;go_must ((with_reducible refine(K.out _ bR).mono ?_);rintro e w3 ⟨rfl,hb3⟩;have HB3:=zz hb3;clear hb3));go_ret;exact⟨rfl,HB3.out⟩
end Go.Proofs.YtngfihoempcplaaGreatDoor
