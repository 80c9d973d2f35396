import Derived.Test.YtngfihoempcplaaGreatDoorCf
import Derived.Test.YtngfihoempcplaaGreatDoorSc42
import Derived.Test.YtngfihoempcplaaGreatDoorSm5
import Derived.Test.YtngfihoempcplaaGreatDoorSp8
import Derived.Test.YtngfihoempcplaaGreatDoorSc36
namespace Go.Proofs.YtngfihoempcplaaGreatDoor
open Go Go.RowKit
set_option maxRecDepth 100000
set_option maxHeartbeats 4000000
theorem my_A:∀ x∈[cmA],MyC 0 x:=by
 intro x h;rw[List.mem_singleton.1 h];have hx:MyC 2 cmExit:= .k16;refine .k12 (by simp) (by decide) (by simp) fun r hr=>?_
 rcases List.mem_cons.1 hr with rfl | hr
 ·exact .mk (.inl ⟨rfl,by decide,.inr (.inr rfl)⟩) (by decide) (by simp) fun c hc=>by cases hc
 ·rw[List.mem_singleton.1 hr]
  exact .mk (.inr (.inl ⟨rfl,by decide,rfl,rfl⟩)) (by decide) (by simp) fun c hc=>by rw[List.mem_singleton.1 hc];exact hx
theorem fit_A:∀ x∈[cmA],FitC x:=by
 intro x h;rw[List.mem_singleton.1 h];have h0:sizeX exNone≤1000000:=by decide
 have h1:nmX exNone≤1000000:=by decide
 have hx:FitC cmExit:= .mk (by simp) (by simp) (by simp) h0 h1 (by simp) (by simp) (by simp) (by simp) (by simp) (by simp);refine .mk (by simp) (by simp) (by simp) h0 h1 (by simp) (by simp) (by simp) (by simp) (by simp) fun r hr=>?_
 rcases List.mem_cons.1 hr with rfl | hr
 ·exact .mk (by simp) (by simp) (by simp)
 ·rw[List.mem_singleton.1 hr]
  exact .mk (by simp) (by simp) fun c hc=>by rw[List.mem_singleton.1 hc];exact hx
theorem ct_A:ctL [cmA]=2:=by decide
theorem z89 (w:World) (hG:Given w):Cz 5 #[] w fun e w'=>e= .returned true∧Below w.heap.size w w':=by
 have HG:=zz hG
 have K1:Hid (Cz 6 #[.string ⟨#[101,120,112,101,99,116,32,123,45,114,101,32,34,97,42,34,32,123,125,32,101,111,102,32,123,101,120,105,116,125,125]⟩] w fun e w'=>∃ A c,e= .returned (.tuple #[.slice A 1 c,oZ,oZ])∧Below w.heap.size w w'∧RowC (LtX w'.heap.size) w' A [cmA]):=zz (by
  have:=z5r SA (by decide) w hG;rw[parA] at this;exact this)
 have K2:Hid (∀ w' A c,Below w.heap.size w w'→RowC (LtX w'.heap.size) w' A [cmA]→Cz 13 #[.slice A 1 c] w' fun e w2=>e= .returned (.tuple #[.string ⟨#[101,120,112,101,99,116,32,123,32,45,114,101,32,34,97,42,34,32,123,32,125,32,101,111,102,32,123,32,101,120,105,116,32,125,32,125]⟩,oZ])∧Below w'.heap.size w' w2):=zz fun w' A c hw hk=>
  x1o A c w' hk (HG.out.below hw) (zz fun w2 h2=>y0z [cmA] A c w2 (hk.next h2) my_A (by simp))
 have K3:Hid (∀ w',Below w.heap.size w w'→Cz 6 #[.string ⟨#[115,101,110,100,32,53]⟩] w' fun e w2=>∃ A c,e= .returned (.tuple #[.slice A 0 c,iI 5,iI 1])∧Below w'.heap.size w' w2):=zz fun w' hw=>by
  have:=z5r SB (by decide) w' (HG.out.below hw);rw[parB] at this;refine this.mono ?_;rintro e w2 ⟨A,c,h1,h2,_⟩;exact⟨A,c,h1,h2⟩
 have K4:Hid (∀ W A c,RowC (LtX W.heap.size) W A [cmA]→∀ w',Below W.heap.size W w'→Cz 14 #[.slice A 1 c] w' fun e w2=>e= .returned (.int .i64 2)∧Below w'.heap.size w' w2):=zz fun W A c hk w' hw=>by
  have:=y5o [cmA] A c w' (hk.next hw) fit_A (by rw[ct_A];decide);rw[ct_A] at this;exact this
 have K5:Hid (∀ W A c,RowC (LtX W.heap.size) W A [cmA]→∀ w',Below W.heap.size W w'→Cz 12 #[.slice A 1 c,.slice A 1 c] w' fun e w2=>e= .returned true∧Below w'.heap.size w' w2):=zz fun W A c hk w' hw=>by
  have:=y6c [cmA] [cmA] A A c c w' (hk.next hw) (hk.next hw) fit_A fit_A (by simp);rw[z0v rfl] at this;exact this
 clear hG;go_enter Tryz.func5,Tryz.ntmps5
 go_wp2_with (first
  | (go_at_call 6;((with_reducible refine K1.out.mono ?_);rintro e w1 ⟨A1,c1,rfl,hb1,hk1⟩;have HB1:=zz hb1;have HK1:=zz hk1;clear hb1 hk1))
  | (go_at_call 13;go_must ((with_reducible refine(K2.out _ _ _ HB1.out HK1.out).mono ?_);rintro e w2 ⟨rfl,hb2⟩;have HK2:=zz (HK1.out.next hb2);have HB2:=zz (HB1.out.trans (hb2.mono HB1.out.size));clear hb2))
  | (go_at_call 6;go_must ((with_reducible refine(K3.out _ HB2.out).mono ?_);rintro e w3 ⟨A3,c3,rfl,hb3⟩;have HK3:=zz (HK2.out.next hb3);have HB3:=zz (HB2.out.trans (hb3.mono HB2.out.size));clear hb3))
  | (go_at_call 14;go_must ((with_reducible refine(K4.out _ _ _ HK3.out _ bR).mono ?_);rintro e w4 ⟨rfl,hb4⟩;have HK4:=zz (HK3.out.next hb4);have HB4:=zz (HB3.out.trans (hb4.mono HB3.out.size));clear hb4))
  | (go_at_call 12;go_must ((with_reducible refine(K5.out _ _ _ HK4.out _ bR).mono ?_);rintro e w5 ⟨rfl,hb5⟩;have HB5:=zz (HB4.out.trans (hb5.mono HB4.out.size));clear hb5)))
 go_ret;exact⟨rfl,HB5.out⟩
end Go.Proofs.YtngfihoempcplaaGreatDoor
