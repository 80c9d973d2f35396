/- The walk of the statement EreSames, for every two expressions. -/
import Derived.Test.YtccheljfbjllhaaDoorLawGoes
import Derived.Test.YtccheljfbjllhaaDoorRSame
namespace Go.Proofs.YtccheljfbjllhaaDoor
open Go Go.RowKit

theorem val_form (x : Re) (A : Option Addr) (c : Nat) : ∃ (k s0 s1 s2 s3 : Int) (m : Nat) (lo hi n : Int), valR x A c = .agg #[.int .i64 k, .int .u64 s0, .int .u64 s1, .int .u64 s2, .int .u64 s3, .slice A m c, .int .i64 lo, .int .i64 hi, .int .i64 n] := by
  obtain ⟨k, S, ks, lo, hi, n⟩ := x
  exact ⟨_, _, _, _, _, _, _, _, _, rfl⟩
abbrev BoolC (f : Nat) (args : Array Value) (v : Bool) (w : World) : Prop := ∀ W, Below w.heap.size w W → Calls Tryd.prog f args W fun e w' => e = .returned (.bool v) ∧ Below W.heap.size W w'
theorem small_c (x : Re) (A : Option Addr) (c most : Nat) (z : Int) (hz : z = most) (w : World) (hk : Kids (Lt w.heap.size) w A x) (hm : most ≤ 120) (v : Bool) (hv : decide (sizeE x ≤ most) = v) : BoolC 8 #[valR x A c, .int .i64 z] v w := fun W hb => by
  have := small_any x A c most W (hk.next hb) hm
  rw [hv, ← hz] at this; exact this
theorem same_c (x y : Re) (A A_ : Option Addr) (c c_ : Nat) (w : World) (hk : Kids (Lt w.heap.size) w A x) (hk_ : Kids (Lt w.heap.size) w A_ y) (hx : sizeE x ≤ 1000000) (hy : sizeE y ≤ 1000000) : BoolC 18 #[valR x A c, valR y A_ c_] (sameB x y) w := fun W hb =>
  same_any x y A A_ c c_ W (hk.next hb) (hk_.next hb) hx hy
theorem rsame_c (x y : Re) (A A_ : Option Addr) (c c_ : Nat) (w : World) (hk : Kids (Lt w.heap.size) w A x) (hk_ : Kids (Lt w.heap.size) w A_ y) (hx : sizeE x ≤ 1000000) (hy : sizeE y ≤ 1000000) : BoolC 15 #[valR x A c, valR y A_ c_] (sameB x y) w := fun W hb =>
  rsame_any x y A A_ c c_ W (hk.next hb) (hk_.next hb) hx hy
theorem BoolC.bw {f : Nat} {args : Array Value} {v : Bool} {w : World} (h : BoolC f args v w) {W : World} (hb : Below w.heap.size w W) (n : Bw W) : Calls Tryd.prog f args n.at fun e w'' => e = .returned (.bool v) ∧ ∃ m : Bw W, w'' = m.at :=
  bw_calls (h n.at (hb.trans (n.2.mono hb.size)))
set_option maxRecDepth 100000 in
set_option maxHeartbeats 4000000 in
theorem sames_full (x y : Re) (A A_ : Option Addr) (c c_ : Nat) (w : World) (hk : Kids (Lt w.heap.size) w A x) (hk_ : Kids (Lt w.heap.size) w A_ y) (hx : sizeE x ≤ 60) (hy : sizeE y ≤ 60) :
    Calls Tryd.prog 6 #[valR x A c, valR y A_ c_] w fun e w' => e = .returned (.bool true) ∧ Below w.heap.size w w' := by
  have KA := Lib.hid awake_any
  have K8 := Lib.hid (small_c x A c 60 60 rfl w hk (by omega) true (decide_eq_true hx))
  have K8_ := Lib.hid (small_c y A_ c_ 60 60 rfl w hk_ (by omega) true (decide_eq_true hy))
  have KS := Lib.hid (same_c x y A A_ c c_ w hk hk_ (by omega) (by omega))
  have KD := Lib.hid (rsame_c x y A A_ c c_ w hk hk_ (by omega) (by omega))
  have KXX := Lib.hid (same_c x x A A c c w hk hk (by omega) (by omega))
  have KYY := Lib.hid (same_c y y A_ A_ c_ c_ w hk_ hk_ (by omega) (by omega))
  rw [sameB_yes rfl] at KXX KYY
  obtain ⟨v, hv⟩ : ∃ v, v = sameB x y := ⟨_, rfl⟩
  rw [← hv] at KS KD
  clear hv hk hk_ hx hy
  obtain ⟨k, s0, s1, s2, s3, m, lo, hi, n, e1⟩ := val_form x A c
  obtain ⟨k_, z0, z1, z2, z3, m_, lo_, hi_, n_, e2⟩ := val_form y A_ c_
  rw [e1] at K8 KS KD KXX ⊢
  rw [e2] at K8_ KS KD KYY ⊢
  clear e1 e2
  have HX0 : Hid (Box9 ((w.alloc (.cells #[.int .i64 k, .int .u64 s0, .int .u64 s1, .int .u64 s2, .int .u64 s3, .slice A m c, .int .i64 lo, .int .i64 hi, .int .i64 n] 27)).alloc (.cells #[.int .i64 k_, .int .u64 z0, .int .u64 z1, .int .u64 z2, .int .u64 z3, .slice A_ m_ c_, .int .i64 lo_, .int .i64 hi_, .int .i64 n_] 27)) w.heap.size (.int .i64 k) (.int .u64 s0) (.int .u64 s1) (.int .u64 s2) (.int .u64 s3) (.slice A m c) (.int .i64 lo) (.int .i64 hi) (.int .i64 n)) := Lib.hid ((Box9.new w (.int .i64 k) (.int .u64 s0) (.int .u64 s1) (.int .u64 s2) (.int .u64 s3) (.slice A m c) (.int .i64 lo) (.int .i64 hi) (.int .i64 n)).below (one_box _ _))
  have HY0 : Hid (Box9 ((w.alloc (.cells #[.int .i64 k, .int .u64 s0, .int .u64 s1, .int .u64 s2, .int .u64 s3, .slice A m c, .int .i64 lo, .int .i64 hi, .int .i64 n] 27)).alloc (.cells #[.int .i64 k_, .int .u64 z0, .int .u64 z1, .int .u64 z2, .int .u64 z3, .slice A_ m_ c_, .int .i64 lo_, .int .i64 hi_, .int .i64 n_] 27)) (w.heap.size + 1) (.int .i64 k_) (.int .u64 z0) (.int .u64 z1) (.int .u64 z2) (.int .u64 z3) (.slice A_ m_ c_) (.int .i64 lo_) (.int .i64 hi_) (.int .i64 n_)) := Lib.hid (by
    have := Box9.new (w.alloc (.cells #[.int .i64 k, .int .u64 s0, .int .u64 s1, .int .u64 s2, .int .u64 s3, .slice A m c, .int .i64 lo, .int .i64 hi, .int .i64 n] 27)) (.int .i64 k_) (.int .u64 z0) (.int .u64 z1) (.int .u64 z2) (.int .u64 z3) (.slice A_ m_ c_) (.int .i64 lo_) (.int .i64 hi_) (.int .i64 n_)
    simpa using this)
  go_enter Tryd.func6, Tryd.ntmps6
  go_wp2_with (first
    | (go_at_call 7; ((with_reducible refine (KA.out _).mono ?_)); rintro _ w1 ⟨rfl, hb1⟩; have B1 := Lib.hid (bstep (two_boxes w _ _) hb1); have X1 := Lib.hid (HX0.out.below hb1); have Y1 := Lib.hid (HY0.out.below hb1); obtain ⟨x0, x1, x2, x3, x4, x5, x6, x7, x8, _⟩ := X1.out; clear hb1)
    | (go_at_call 8; ((with_reducible refine (K8.out _ B1.out).mono ?_)); rintro _ w2 ⟨rfl, hb2⟩; have B2 := Lib.hid (bstep B1.out hb2); have X2 := Lib.hid (X1.out.below hb2); have Y2 := Lib.hid (Y1.out.below hb2); obtain ⟨y0, y1, y2, y3, y4, y5, y6, y7, y8, _⟩ := Y2.out; clear hb2)
    | (go_at_call 8; ((with_reducible refine (K8_.out _ B2.out).mono ?_)); rintro _ w3 ⟨rfl, hb3⟩; have B3 := Lib.hid (bstep B2.out hb3); have X3 := Lib.hid (X2.out.below hb3); have Y3 := Lib.hid (Y2.out.below hb3); clear hb3))
  obtain ⟨x0, x1, x2, x3, x4, x5, x6, x7, x8, _⟩ := X3.out
  obtain ⟨y0, y1, y2, y3, y4, y5, y6, y7, y8, _⟩ := Y3.out
  have hne := bw_some w3
  have p0 := bw_cell x0; have p1 := bw_cell x1; have p2 := bw_cell x2; have p3 := bw_cell x3; have p4 := bw_cell x4; have p5 := bw_cell x5; have p6 := bw_cell x6; have p7 := bw_cell x7; have p8 := bw_cell x8;
  have q0 := bw_cell y0; have q1 := bw_cell y1; have q2 := bw_cell y2; have q3 := bw_cell y3; have q4 := bw_cell y4; have q5 := bw_cell y5; have q6 := bw_cell y6; have q7 := bw_cell y7; have q8 := bw_cell y8;
  refine wp_region_below (by kernel_rfl) (by kernel_rfl) ?_
  repeat (go_big_quiet_step (first | (go_at_call 18; with_reducible exact KS.out.bw B3.out _) | (go_at_call 18; with_reducible exact KXX.out.bw B3.out _) | (go_at_call 18; with_reducible exact KYY.out.bw B3.out _) | (go_at_call 15; with_reducible exact KD.out.bw B3.out _)))
  refine wpQuiet_nil ?_
  intro w4 hw4
  obtain ⟨m4, rfl⟩ := hw4
  have HB4 := Lib.hid (bstep B3.out m4.2)
  go_wp2
  go_ret
  exact ⟨rfl, HB4.out⟩
set_option maxRecDepth 100000 in
set_option maxHeartbeats 4000000 in
theorem sames_x (x y : Re) (A A_ : Option Addr) (c c_ : Nat) (w : World) (hk : Kids (Lt w.heap.size) w A x) (_ : Kids (Lt w.heap.size) w A_ y) (hx : ¬ sizeE x ≤ 60) :
    Calls Tryd.prog 6 #[valR x A c, valR y A_ c_] w fun e w' => e = .returned (.bool true) ∧ Below w.heap.size w w' := by
  have KA := Lib.hid awake_any
  have K8 := Lib.hid (small_c x A c 60 60 rfl w hk (by omega) false (decide_eq_false hx))
  
  clear hk hx
  obtain ⟨k, s0, s1, s2, s3, m, lo, hi, n, e1⟩ := val_form x A c
  obtain ⟨k_, z0, z1, z2, z3, m_, lo_, hi_, n_, e2⟩ := val_form y A_ c_
  rw [e1] at K8 ⊢
  rw [e2]
  clear e1 e2
  have HX0 : Hid (Box9 ((w.alloc (.cells #[.int .i64 k, .int .u64 s0, .int .u64 s1, .int .u64 s2, .int .u64 s3, .slice A m c, .int .i64 lo, .int .i64 hi, .int .i64 n] 27)).alloc (.cells #[.int .i64 k_, .int .u64 z0, .int .u64 z1, .int .u64 z2, .int .u64 z3, .slice A_ m_ c_, .int .i64 lo_, .int .i64 hi_, .int .i64 n_] 27)) w.heap.size (.int .i64 k) (.int .u64 s0) (.int .u64 s1) (.int .u64 s2) (.int .u64 s3) (.slice A m c) (.int .i64 lo) (.int .i64 hi) (.int .i64 n)) := Lib.hid ((Box9.new w (.int .i64 k) (.int .u64 s0) (.int .u64 s1) (.int .u64 s2) (.int .u64 s3) (.slice A m c) (.int .i64 lo) (.int .i64 hi) (.int .i64 n)).below (one_box _ _))
  have HY0 : Hid (Box9 ((w.alloc (.cells #[.int .i64 k, .int .u64 s0, .int .u64 s1, .int .u64 s2, .int .u64 s3, .slice A m c, .int .i64 lo, .int .i64 hi, .int .i64 n] 27)).alloc (.cells #[.int .i64 k_, .int .u64 z0, .int .u64 z1, .int .u64 z2, .int .u64 z3, .slice A_ m_ c_, .int .i64 lo_, .int .i64 hi_, .int .i64 n_] 27)) (w.heap.size + 1) (.int .i64 k_) (.int .u64 z0) (.int .u64 z1) (.int .u64 z2) (.int .u64 z3) (.slice A_ m_ c_) (.int .i64 lo_) (.int .i64 hi_) (.int .i64 n_)) := Lib.hid (by
    have := Box9.new (w.alloc (.cells #[.int .i64 k, .int .u64 s0, .int .u64 s1, .int .u64 s2, .int .u64 s3, .slice A m c, .int .i64 lo, .int .i64 hi, .int .i64 n] 27)) (.int .i64 k_) (.int .u64 z0) (.int .u64 z1) (.int .u64 z2) (.int .u64 z3) (.slice A_ m_ c_) (.int .i64 lo_) (.int .i64 hi_) (.int .i64 n_)
    simpa using this)
  go_enter Tryd.func6, Tryd.ntmps6
  go_wp2_with (first
    | (go_at_call 7; ((with_reducible refine (KA.out _).mono ?_)); rintro _ w1 ⟨rfl, hb1⟩; have B1 := Lib.hid (bstep (two_boxes w _ _) hb1); have X1 := Lib.hid (HX0.out.below hb1); have Y1 := Lib.hid (HY0.out.below hb1); obtain ⟨x0, x1, x2, x3, x4, x5, x6, x7, x8, _⟩ := X1.out; clear hb1)
    | (go_at_call 8; ((with_reducible refine (K8.out _ B1.out).mono ?_)); rintro _ w2 ⟨rfl, hb2⟩; have B2 := Lib.hid (bstep B1.out hb2); have X2 := Lib.hid (X1.out.below hb2); have Y2 := Lib.hid (Y1.out.below hb2); obtain ⟨y0, y1, y2, y3, y4, y5, y6, y7, y8, _⟩ := Y2.out; clear hb2))
  go_ret
  exact ⟨rfl, B2.out⟩
set_option maxRecDepth 100000 in
set_option maxHeartbeats 4000000 in
theorem sames_y (x y : Re) (A A_ : Option Addr) (c c_ : Nat) (w : World) (hk : Kids (Lt w.heap.size) w A x) (hk_ : Kids (Lt w.heap.size) w A_ y) (hx : sizeE x ≤ 60) (hy : ¬ sizeE y ≤ 60) :
    Calls Tryd.prog 6 #[valR x A c, valR y A_ c_] w fun e w' => e = .returned (.bool true) ∧ Below w.heap.size w w' := by
  have KA := Lib.hid awake_any
  have K8 := Lib.hid (small_c x A c 60 60 rfl w hk (by omega) true (decide_eq_true hx))
  have K8_ := Lib.hid (small_c y A_ c_ 60 60 rfl w hk_ (by omega) false (decide_eq_false hy))
  clear hk hk_ hx hy
  obtain ⟨k, s0, s1, s2, s3, m, lo, hi, n, e1⟩ := val_form x A c
  obtain ⟨k_, z0, z1, z2, z3, m_, lo_, hi_, n_, e2⟩ := val_form y A_ c_
  rw [e1] at K8 ⊢
  rw [e2] at K8_ ⊢
  clear e1 e2
  have HX0 : Hid (Box9 ((w.alloc (.cells #[.int .i64 k, .int .u64 s0, .int .u64 s1, .int .u64 s2, .int .u64 s3, .slice A m c, .int .i64 lo, .int .i64 hi, .int .i64 n] 27)).alloc (.cells #[.int .i64 k_, .int .u64 z0, .int .u64 z1, .int .u64 z2, .int .u64 z3, .slice A_ m_ c_, .int .i64 lo_, .int .i64 hi_, .int .i64 n_] 27)) w.heap.size (.int .i64 k) (.int .u64 s0) (.int .u64 s1) (.int .u64 s2) (.int .u64 s3) (.slice A m c) (.int .i64 lo) (.int .i64 hi) (.int .i64 n)) := Lib.hid ((Box9.new w (.int .i64 k) (.int .u64 s0) (.int .u64 s1) (.int .u64 s2) (.int .u64 s3) (.slice A m c) (.int .i64 lo) (.int .i64 hi) (.int .i64 n)).below (one_box _ _))
  have HY0 : Hid (Box9 ((w.alloc (.cells #[.int .i64 k, .int .u64 s0, .int .u64 s1, .int .u64 s2, .int .u64 s3, .slice A m c, .int .i64 lo, .int .i64 hi, .int .i64 n] 27)).alloc (.cells #[.int .i64 k_, .int .u64 z0, .int .u64 z1, .int .u64 z2, .int .u64 z3, .slice A_ m_ c_, .int .i64 lo_, .int .i64 hi_, .int .i64 n_] 27)) (w.heap.size + 1) (.int .i64 k_) (.int .u64 z0) (.int .u64 z1) (.int .u64 z2) (.int .u64 z3) (.slice A_ m_ c_) (.int .i64 lo_) (.int .i64 hi_) (.int .i64 n_)) := Lib.hid (by
    have := Box9.new (w.alloc (.cells #[.int .i64 k, .int .u64 s0, .int .u64 s1, .int .u64 s2, .int .u64 s3, .slice A m c, .int .i64 lo, .int .i64 hi, .int .i64 n] 27)) (.int .i64 k_) (.int .u64 z0) (.int .u64 z1) (.int .u64 z2) (.int .u64 z3) (.slice A_ m_ c_) (.int .i64 lo_) (.int .i64 hi_) (.int .i64 n_)
    simpa using this)
  go_enter Tryd.func6, Tryd.ntmps6
  go_wp2_with (first
    | (go_at_call 7; ((with_reducible refine (KA.out _).mono ?_)); rintro _ w1 ⟨rfl, hb1⟩; have B1 := Lib.hid (bstep (two_boxes w _ _) hb1); have X1 := Lib.hid (HX0.out.below hb1); have Y1 := Lib.hid (HY0.out.below hb1); obtain ⟨x0, x1, x2, x3, x4, x5, x6, x7, x8, _⟩ := X1.out; clear hb1)
    | (go_at_call 8; ((with_reducible refine (K8.out _ B1.out).mono ?_)); rintro _ w2 ⟨rfl, hb2⟩; have B2 := Lib.hid (bstep B1.out hb2); have X2 := Lib.hid (X1.out.below hb2); have Y2 := Lib.hid (Y1.out.below hb2); obtain ⟨y0, y1, y2, y3, y4, y5, y6, y7, y8, _⟩ := Y2.out; clear hb2)
    | (go_at_call 8; ((with_reducible refine (K8_.out _ B2.out).mono ?_)); rintro _ w3 ⟨rfl, hb3⟩; have B3 := Lib.hid (bstep B2.out hb3); have X3 := Lib.hid (X2.out.below hb3); have Y3 := Lib.hid (Y2.out.below hb3); clear hb3))
  go_ret
  exact ⟨rfl, B3.out⟩
theorem walk_sames (x y : Re) (A A_ : Option Addr) (c c_ : Nat) (w : World) (hk : Kids (Lt w.heap.size) w A x) (hk_ : Kids (Lt w.heap.size) w A_ y) :
    Calls Tryd.prog 6 #[valR x A c, valR y A_ c_] w fun e w' => e = .returned (.bool true) ∧ Below w.heap.size w w' := by
  by_cases hx : sizeE x ≤ 60
  · by_cases hy : sizeE y ≤ 60
    · exact sames_full x y A A_ c c_ w hk hk_ hx hy
    · exact sames_y x y A A_ c c_ w hk hk_ hx hy
  · exact sames_x x y A A_ c c_ w hk hk_ hx
end Go.Proofs.YtccheljfbjllhaaDoor
