/- The walk of the statement EreBack, for every expression. -/
import Derived.Test.YtccheljfbjllhaaDoorLawSames
import Derived.Test.YtccheljfbjllhaaDoorRPrint
import Derived.Test.YtccheljfbjllhaaDoorPlain
namespace Go.Proofs.YtccheljfbjllhaaDoor
open Go Go.RowKit

theorem val_all (x : Re) : ∃ (k s0 s1 s2 s3 : Int) (m : Nat) (lo hi n : Int), ∀ (A : Option Addr) (c : Nat), valR x A c = .agg #[.int .i64 k, .int .u64 s0, .int .u64 s1, .int .u64 s2, .int .u64 s3, .slice A m c, .int .i64 lo, .int .i64 hi, .int .i64 n] := by
  obtain ⟨k, S, ks, lo, hi, n⟩ := x
  exact ⟨_, _, _, _, _, _, _, _, _, fun _ _ => rfl⟩
abbrev RetC (f : Nat) (args : Array Value) (v : Value) (w : World) : Prop := ∀ W, Below w.heap.size w W → Calls Tryd.prog f args W fun e w' => e = .returned v ∧ Below W.heap.size W w'
theorem RetC.bw {f : Nat} {args : Array Value} {v : Value} {w : World} (h : RetC f args v w) {W : World} (hb : Below w.heap.size w W) (n : Bw W) : Calls Tryd.prog f args n.at fun e w'' => e = .returned v ∧ ∃ m : Bw W, w'' = m.at :=
  bw_calls (h n.at (hb.trans (n.2.mono hb.size)))
theorem print_c (x : Re) (A : Option Addr) (c : Nat) (w : World) (hk : Kids (Lt w.heap.size) w A x) (hs : sizeE x ≤ 600) (R1 : ByteArray) (R2 : Int) (h : printE x = (R1, R2)) : RetC 9 #[valR x A c] (.tuple #[.string R1, .int .i64 R2]) w := fun W hb => by
  have := print_any x A c W (hk.next hb) hs
  rw [h] at this; exact this
theorem rprint_c (x : Re) (A : Option Addr) (c : Nat) (w : World) (hk : Kids (Lt w.heap.size) w A x) (hs : sizeE x ≤ 600) (R1 : ByteArray) (R2 : Int) (h : printE x = (R1, R2)) : RetC 10 #[valR x A c] (.tuple #[.string R1, .int .i64 R2]) w := fun W hb => by
  have := rprint_any x A c W (hk.next hb) hs
  rw [h] at this; exact this
theorem may_c (x : Re) (A : Option Addr) (c : Nat) (w : World) (hk : Kids (Lt w.heap.size) w A x) (hs : sizeE x ≤ 600) (b : Bool) (h : mayE x = b) : RetC 11 #[valR x A c] (.bool b) w := fun W hb => by
  have := may_any x A c W (hk.next hb) hs
  rw [h] at this; exact this
theorem groups_c (x : Re) (A : Option Addr) (c : Nat) (w : World) (hk : Kids (Lt w.heap.size) w A x) (hs : sizeE x ≤ 1000000) (g : Nat) (h : groups x = g) : RetC 12 #[valR x A c] (.int .i64 g) w := fun W hb => by
  have := groups_any x A c W (hk.next hb) hs
  rw [h] at this; exact this
theorem rgroups_c (x : Re) (A : Option Addr) (c : Nat) (w : World) (hk : Kids (Lt w.heap.size) w A x) (hs : sizeE x ≤ 1000000) (g : Nat) (h : groups x = g) : RetC 13 #[valR x A c] (.int .i64 g) w := fun W hb => by
  have := rgroups_any x A c W (hk.next hb) hs
  rw [h] at this; exact this
theorem may_of {x : Re} {R1 : ByteArray} {R2 : Int} (h : printE x = (R1, R2)) : mayE x = (R2 == 0) := by
  unfold printE at h
  unfold mayE
  cases hf : form x 3 0 0 with
  | none => rw [hf] at h; injection h with _ h; subst h; rfl
  | some g =>
    rw [hf] at h
    dsimp only at h ⊢
    by_cases hl : 200 < (textE x).length
    · rw [if_pos hl] at h; injection h with _ h; subst h; simp; omega
    · rw [if_neg hl] at h; injection h with _ h; subst h; simp; omega
theorem print_yes {x : Re} {R1 : ByteArray} (h : printE x = (R1, 0)) : R1 = ⟨(textE x).toArray⟩ ∧ (textE x).length ≤ 200 ∧ ∃ g, form x 3 0 0 = some g := by
  unfold printE at h
  cases hf : form x 3 0 0 with
  | none => rw [hf] at h; injection h with _ h; cases h
  | some g =>
    rw [hf] at h
    dsimp only at h
    by_cases hl : 200 < (textE x).length
    · rw [if_pos hl] at h; injection h with _ h; cases h
    · rw [if_neg hl] at h; injection h with h _; exact ⟨h.symm, by omega, g, rfl⟩
set_option maxRecDepth 100000 in
set_option maxHeartbeats 4000000 in
theorem back_not (x : Re) (A : Option Addr) (c : Nat) (w : World) (hk : Kids (Lt w.heap.size) w A x) (hx : ¬ sizeE x ≤ 120) :
    Calls Tryd.prog 3 #[valR x A c] w fun e w' => e = .returned (.bool true) ∧ Below w.heap.size w w' := by
  have KA := Lib.hid awake_any
  have K8 := Lib.hid (small_c x A c 120 120 rfl w hk (by omega) false (decide_eq_false hx))
  clear hk hx
  obtain ⟨k, s0, s1, s2, s3, m, lo, hi, n, e1⟩ := val_all x
  rw [e1] at K8 ⊢
  clear e1
  have HX0 : Hid (Box9 (w.alloc (.cells #[.int .i64 k, .int .u64 s0, .int .u64 s1, .int .u64 s2, .int .u64 s3, .slice A m c, .int .i64 lo, .int .i64 hi, .int .i64 n] 27)) w.heap.size (.int .i64 k) (.int .u64 s0) (.int .u64 s1) (.int .u64 s2) (.int .u64 s3) (.slice A m c) (.int .i64 lo) (.int .i64 hi) (.int .i64 n)) := Lib.hid (Box9.new w (.int .i64 k) (.int .u64 s0) (.int .u64 s1) (.int .u64 s2) (.int .u64 s3) (.slice A m c) (.int .i64 lo) (.int .i64 hi) (.int .i64 n))
  go_enter Tryd.func3, Tryd.ntmps3
  go_wp2_with (first
    | (go_at_call 7; ((with_reducible refine (KA.out _).mono ?_)); rintro _ w1 ⟨rfl, hb1⟩; have B1 := Lib.hid (bstep (one_box w _) hb1); have X1 := Lib.hid (HX0.out.below hb1); obtain ⟨x0, x1, x2, x3, x4, x5, x6, x7, x8, _⟩ := X1.out; clear hb1)
    | (go_at_call 8; ((with_reducible refine (K8.out _ B1.out).mono ?_)); rintro _ w2 ⟨rfl, hb2⟩; have B2 := Lib.hid (bstep B1.out hb2); have X2 := Lib.hid (X1.out.below hb2); obtain ⟨x0, x1, x2, x3, x4, x5, x6, x7, x8, _⟩ := X2.out; clear hb2))
  go_ret
  exact ⟨rfl, B2.out⟩
set_option maxRecDepth 100000 in
set_option maxHeartbeats 4000000 in
theorem back_fail (x : Re) (A : Option Addr) (c : Nat) (w : World) (hk : Kids (Lt w.heap.size) w A x) (hx : sizeE x ≤ 120) (R1 : ByteArray) (R2 : Int) (hR : printE x = (R1, R2)) (h0 : ¬ R2 = 0) :
    Calls Tryd.prog 3 #[valR x A c] w fun e w' => e = .returned (.bool true) ∧ Below w.heap.size w w' := by
  have KA := Lib.hid awake_any
  have K8 := Lib.hid (small_c x A c 120 120 rfl w hk (by omega) true (decide_eq_true hx))
  have K9 := Lib.hid (print_c x A c w hk (by omega) R1 R2 hR)
  have K10 := Lib.hid (rprint_c x A c w hk (by omega) R1 R2 hR)
  have K11 := Lib.hid (may_c x A c w hk (by omega) false (by rw [may_of hR]; simpa using h0))
  obtain ⟨g, hg⟩ : ∃ g, groups x = g := ⟨_, rfl⟩
  have K12 := Lib.hid (groups_c x A c w hk (by omega) g hg)
  have K13 := Lib.hid (rgroups_c x A c w hk (by omega) g hg)
  have t0 : (R2 == 0) = false := by simpa using h0
  have t1 : (R2 != 0) = true := by simpa using h0
  clear hk hx hR hg
  obtain ⟨k, s0, s1, s2, s3, m, lo, hi, n, e1⟩ := val_all x
  rw [e1] at K8 K9 K10 K11 K12 K13 ⊢
  clear e1
  have HX0 : Hid (Box9 (w.alloc (.cells #[.int .i64 k, .int .u64 s0, .int .u64 s1, .int .u64 s2, .int .u64 s3, .slice A m c, .int .i64 lo, .int .i64 hi, .int .i64 n] 27)) w.heap.size (.int .i64 k) (.int .u64 s0) (.int .u64 s1) (.int .u64 s2) (.int .u64 s3) (.slice A m c) (.int .i64 lo) (.int .i64 hi) (.int .i64 n)) := Lib.hid (Box9.new w (.int .i64 k) (.int .u64 s0) (.int .u64 s1) (.int .u64 s2) (.int .u64 s3) (.slice A m c) (.int .i64 lo) (.int .i64 hi) (.int .i64 n))
  go_enter Tryd.func3, Tryd.ntmps3
  go_wp2_with (first
    | (go_at_call 7; ((with_reducible refine (KA.out _).mono ?_)); rintro _ w1 ⟨rfl, hb1⟩; have B1 := Lib.hid (bstep (one_box w _) hb1); have X1 := Lib.hid (HX0.out.below hb1); obtain ⟨x0, x1, x2, x3, x4, x5, x6, x7, x8, _⟩ := X1.out; clear hb1)
    | (go_at_call 8; ((with_reducible refine (K8.out _ B1.out).mono ?_)); rintro _ w2 ⟨rfl, hb2⟩; have B2 := Lib.hid (bstep B1.out hb2); have X2 := Lib.hid (X1.out.below hb2); obtain ⟨x0, x1, x2, x3, x4, x5, x6, x7, x8, _⟩ := X2.out; clear hb2)
    | (go_at_call 9; ((with_reducible refine (K9.out _ B2.out).mono ?_)); rintro _ w3 ⟨rfl, hb3⟩; have B3 := Lib.hid (bstep B2.out hb3); have X3 := Lib.hid (X2.out.below hb3); obtain ⟨x0, x1, x2, x3, x4, x5, x6, x7, x8, _⟩ := X3.out; clear hb3)
    | (go_at_call 10; ((with_reducible refine (K10.out _ B3.out).mono ?_)); rintro _ w4 ⟨rfl, hb4⟩; have B4 := Lib.hid (bstep B3.out hb4); have X4 := Lib.hid (X3.out.below hb4); obtain ⟨x0, x1, x2, x3, x4, x5, x6, x7, x8, _⟩ := X4.out; clear hb4))
  have hne := bw_some w4
  have p0 := bw_cell x0; have p1 := bw_cell x1; have p2 := bw_cell x2; have p3 := bw_cell x3; have p4 := bw_cell x4; have p5 := bw_cell x5; have p6 := bw_cell x6; have p7 := bw_cell x7; have p8 := bw_cell x8;
  refine wp_region_below (by kernel_rfl) (by kernel_rfl) ?_
  repeat (go_big_quiet_step (first | (go_at_call 11; with_reducible exact K11.out.bw B4.out _) | (go_at_call 12; with_reducible exact K12.out.bw B4.out _) | (go_at_call 13; with_reducible exact K13.out.bw B4.out _)))
  refine wpQuiet_nil ?_
  intro w5 hw5
  obtain ⟨m5, rfl⟩ := hw5
  obtain ⟨w6, hw6⟩ : ∃ x, x = m5.at := ⟨_, rfl⟩
  have B6 := Lib.hid (bstep B4.out m5.2)
  have X6 := Lib.hid (X4.out.below m5.2)
  have hw6' : w6 = m5.1 := hw6
  rw [← hw6'] at B6 X6
  rw [← hw6]
  clear hw6 hw6' p0 p1 p2 p3 p4 p5 p6 p7 p8
  go_wp2
  go_ret
  exact ⟨rfl, B6.out⟩
set_option maxRecDepth 100000 in
set_option maxHeartbeats 4000000 in
theorem back_yes (x : Re) (A : Option Addr) (c : Nat) (w : World) (hk : Kids (Lt w.heap.size) w A x) (hx : sizeE x ≤ 120) (R1 : ByteArray) (hR : printE x = (R1, 0)) :
    Calls Tryd.prog 3 #[valR x A c] w fun e w' => e = .returned (.bool true) ∧ Below w.heap.size w w' := by
  have KA := Lib.hid awake_any
  have K8 := Lib.hid (small_c x A c 120 120 rfl w hk (by omega) true (decide_eq_true hx))
  have K9 := Lib.hid (print_c x A c w hk (by omega) R1 0 hR)
  have K10 := Lib.hid (rprint_c x A c w hk (by omega) R1 0 hR)
  have K11 := Lib.hid (may_c x A c w hk (by omega) true (by rw [may_of hR]; rfl))
  obtain ⟨g, hg⟩ : ∃ g, groups x = g := ⟨_, rfl⟩
  have K12 := Lib.hid (groups_c x A c w hk (by omega) g hg)
  have K13 := Lib.hid (rgroups_c x A c w hk (by omega) g hg)
  obtain ⟨hR1, hlen, g', hf⟩ := print_yes hR
  have hpt : parseE R1.data.toList = (some x, 0, 0) := by rw [hR1]; exact parse_text_form hf hlen
  have K14 := Lib.hid (parse_some hpt)
  have K15 : Hid (∀ (A' : Option Addr) (c' : Nat) (W : World), Below w.heap.size w W → Kids (Lt W.heap.size) W A' x → Calls Tryd.prog 15 #[valR x A' c', valR x A c] W fun e w' => e = .returned (.bool true) ∧ Below W.heap.size W w') := Lib.hid fun A' c' W hb hkk => by
    have := rsame_any x x A' A c' c W hkk (hk.next hb) (by omega) (by omega)
    rw [sameB_yes rfl] at this; exact this
  clear hk hx hR hg hR1 hlen hf hpt
  obtain ⟨k, s0, s1, s2, s3, m, lo, hi, n, e1⟩ := val_all x
  have HV := Lib.hid e1
  simp only [e1] at K15
  rw [e1] at K8 K9 K10 K11 K12 K13 ⊢
  clear e1
  have HX0 : Hid (Box9 (w.alloc (.cells #[.int .i64 k, .int .u64 s0, .int .u64 s1, .int .u64 s2, .int .u64 s3, .slice A m c, .int .i64 lo, .int .i64 hi, .int .i64 n] 27)) w.heap.size (.int .i64 k) (.int .u64 s0) (.int .u64 s1) (.int .u64 s2) (.int .u64 s3) (.slice A m c) (.int .i64 lo) (.int .i64 hi) (.int .i64 n)) := Lib.hid (Box9.new w (.int .i64 k) (.int .u64 s0) (.int .u64 s1) (.int .u64 s2) (.int .u64 s3) (.slice A m c) (.int .i64 lo) (.int .i64 hi) (.int .i64 n))
  go_enter Tryd.func3, Tryd.ntmps3
  go_wp2_with (first
    | (go_at_call 7; ((with_reducible refine (KA.out _).mono ?_)); rintro _ w1 ⟨rfl, hb1⟩; have B1 := Lib.hid (bstep (one_box w _) hb1); have X1 := Lib.hid (HX0.out.below hb1); obtain ⟨x0, x1, x2, x3, x4, x5, x6, x7, x8, _⟩ := X1.out; clear hb1)
    | (go_at_call 8; ((with_reducible refine (K8.out _ B1.out).mono ?_)); rintro _ w2 ⟨rfl, hb2⟩; have B2 := Lib.hid (bstep B1.out hb2); have X2 := Lib.hid (X1.out.below hb2); obtain ⟨x0, x1, x2, x3, x4, x5, x6, x7, x8, _⟩ := X2.out; clear hb2)
    | (go_at_call 9; ((with_reducible refine (K9.out _ B2.out).mono ?_)); rintro _ w3 ⟨rfl, hb3⟩; have B3 := Lib.hid (bstep B2.out hb3); have X3 := Lib.hid (X2.out.below hb3); obtain ⟨x0, x1, x2, x3, x4, x5, x6, x7, x8, _⟩ := X3.out; clear hb3)
    | (go_at_call 10; ((with_reducible refine (K10.out _ B3.out).mono ?_)); rintro _ w4 ⟨rfl, hb4⟩; have B4 := Lib.hid (bstep B3.out hb4); have X4 := Lib.hid (X3.out.below hb4); obtain ⟨x0, x1, x2, x3, x4, x5, x6, x7, x8, _⟩ := X4.out; clear hb4))
  have hne := bw_some w4
  have p0 := bw_cell x0; have p1 := bw_cell x1; have p2 := bw_cell x2; have p3 := bw_cell x3; have p4 := bw_cell x4; have p5 := bw_cell x5; have p6 := bw_cell x6; have p7 := bw_cell x7; have p8 := bw_cell x8;
  refine wp_region_below (by kernel_rfl) (by kernel_rfl) ?_
  repeat (go_big_quiet_step (first | (go_at_call 11; with_reducible exact K11.out.bw B4.out _) | (go_at_call 12; with_reducible exact K12.out.bw B4.out _) | (go_at_call 13; with_reducible exact K13.out.bw B4.out _)))
  refine wpQuiet_nil ?_
  intro w5 hw5
  obtain ⟨m5, rfl⟩ := hw5
  obtain ⟨w6, hw6⟩ : ∃ x, x = m5.at := ⟨_, rfl⟩
  have B6 := Lib.hid (bstep B4.out m5.2)
  have X6 := Lib.hid (X4.out.below m5.2)
  have hw6' : w6 = m5.1 := hw6
  rw [← hw6'] at B6 X6
  rw [← hw6]
  clear hw6 hw6' p0 p1 p2 p3 p4 p5 p6 p7 p8
  go_wp2_with (first
    | (go_at_call 14; ((with_reducible refine (K14.out _).mono ?_)); rintro _ w7 ⟨⟨A', c', he, hkid⟩, hb7⟩; rw [HV.out] at he; subst he; have B8 := Lib.hid (bbox (bstep B6.out hb7) (.cells #[.int .i64 k, .int .u64 s0, .int .u64 s1, .int .u64 s2, .int .u64 s3, .slice A' m c', .int .i64 lo, .int .i64 hi, .int .i64 n] 27)); have X8 := Lib.hid ((X6.out.below hb7).below (one_box w7 (.cells #[.int .i64 k, .int .u64 s0, .int .u64 s1, .int .u64 s2, .int .u64 s3, .slice A' m c', .int .i64 lo, .int .i64 hi, .int .i64 n] 27))); have Y8 := Lib.hid (Box9.new w7 (.int .i64 k) (.int .u64 s0) (.int .u64 s1) (.int .u64 s2) (.int .u64 s3) (.slice A' m c') (.int .i64 lo) (.int .i64 hi) (.int .i64 n)); have HK8 := Lib.hid ((lt_of_fr hkid).next (one_box w7 (.cells #[.int .i64 k, .int .u64 s0, .int .u64 s1, .int .u64 s2, .int .u64 s3, .slice A' m c', .int .i64 lo, .int .i64 hi, .int .i64 n] 27))); obtain ⟨x0, x1, x2, x3, x4, x5, x6, x7, x8, _⟩ := X8.out; obtain ⟨y0, y1, y2, y3, y4, y5, y6, y7, y8, _⟩ := Y8.out; clear hb7 hkid)
    | (go_at_call 15; ((with_reducible refine (K15.out _ _ _ B8.out HK8.out).mono ?_)); rintro _ w9 ⟨rfl, hb9⟩; have B9 := Lib.hid (bstep B8.out hb9); clear hb9))
  go_ret
  exact ⟨rfl, B9.out⟩
theorem walk_back (x : Re) (A : Option Addr) (c : Nat) (w : World) (hk : Kids (Lt w.heap.size) w A x) :
    Calls Tryd.prog 3 #[valR x A c] w fun e w' => e = .returned (.bool true) ∧ Below w.heap.size w w' := by
  by_cases hx : sizeE x ≤ 120
  · rcases hR : printE x with ⟨R1, R2⟩
    by_cases h0 : R2 = 0
    · subst h0
      exact back_yes x A c w hk hx R1 hR
    · exact back_fail x A c w hk hx R1 R2 hR h0
  · exact back_not x A c w hk hx
end Go.Proofs.YtccheljfbjllhaaDoor
