/- Contracts of the document's own sums, differences and signs, for all numbers of 64 bits. -/
import Derived.Test.YtglbhbnbbpljnaaDoorSums
namespace Go.Proofs.YtglbhbnbbpljnaaDoor
open Go Go.RowKit

theorem of_ok (s : Bool) (m n : Int) (h0 : 0 ≤ m) (hn : n = if s = true then -m else m) (hr : -9223372036854775808 ≤ n ∧ n ≤ 9223372036854775807) (w : World) :
    Calls Tryd.prog 25 #[.bool s, .int .u64 m] w fun e w' => e = .returned (.tuple #[.int .i64 n, .int .i64 0]) ∧ w = w' := by
  cases s
  · simp at hn; subst hn
    exact of_pos n h0 hr.2 w
  · simp at hn; subst hn
    by_cases g : m = 9223372036854775808
    · subst g
      exact of_least w
    · exact of_neg m h0 (by omega) w
theorem of_no (s : Bool) (m n : Int) (h0 : 0 ≤ m) (hn : n = if s = true then -m else m) (hr : ¬ (-9223372036854775808 ≤ n ∧ n ≤ 9223372036854775807)) (w : World) :
    Calls Tryd.prog 25 #[.bool s, .int .u64 m] w fun e w' => e = .returned (.tuple #[.int .i64 0, .int .i64 3]) ∧ w = w' := by
  cases s
  · simp at hn; subst hn
    exact of_no_pos n (by omega) w
  · simp at hn; subst hn
    exact of_no_neg m (by omega) w

theorem of_negs (m : Int) (h0 : 0 ≤ m) (h1 : m ≤ 9223372036854775808) (w : World) :
    Calls Tryd.prog 25 #[.bool true, .int .u64 m] w fun e w' => e = .returned (.tuple #[.int .i64 (-m), .int .i64 0]) ∧ w = w' := by
  by_cases g : m = 9223372036854775808
  · subst g
    exact of_least w
  · exact of_neg m h0 (by omega) w
theorem mag_any (a : Int) (ha : -9223372036854775808 ≤ a ∧ a ≤ 9223372036854775807) (w : World) :
    Calls Tryd.prog 24 #[.int .i64 a] w fun e w' => e = .returned (.int .u64 (if a < 0 then -a else a)) ∧ w = w' := by
  by_cases h : a < 0
  · rw [if_pos h]; exact mag_neg a h ha.1 w
  · rw [if_neg h]; exact mag_pos a (by omega) ha.2 w

theorem radd_ok_nn (a b : Int) (ha : -9223372036854775808 ≤ a ∧ a ≤ 9223372036854775807) (hb : -9223372036854775808 ≤ b ∧ b ≤ 9223372036854775807) (h1 : a < 0) (h2 : b < 0)
    (h : -9223372036854775808 ≤ a + b ∧ a + b ≤ 9223372036854775807) (w : World) :
    Calls Tryd.prog 12 #[.int .i64 a, .int .i64 b] w fun e w' => e = .returned (.tuple #[.int .i64 (a + b), .int .i64 0]) ∧ w = w' := by
  obtain ⟨a1, a2⟩ := ha
  obtain ⟨b1, b2⟩ := hb
  have d1 : decide (a < 0) = true := by simp; omega
  have d2 : decide (b < 0) = true := by simp; omega
  go_enter Tryd.func12, Tryd.ntmps12
  go_wp2_with (first | (go_at_call 24; ((with_reducible refine (mag_pos _ ?_ ?_ _).mono ?_)); (omega); (omega); rintro e w' ⟨rfl, rfl⟩) | (go_at_call 24; ((with_reducible refine (mag_neg _ ?_ ?_ _).mono ?_)); (omega); (omega); rintro e w' ⟨rfl, rfl⟩) | (go_at_call 25; ((with_reducible refine (of_pos _ ?_ ?_ _).mono ?_)); (omega); (omega); rintro e w' ⟨rfl, rfl⟩) | (go_at_call 25; ((with_reducible refine (of_negs _ ?_ ?_ _).mono ?_)); (omega); (omega); rintro e w' ⟨rfl, rfl⟩))
  all_goals (go_ret2; exact ⟨by first | rfl | exact ret_two (by omega) rfl, rfl⟩)
theorem radd_ok_np (a b : Int) (ha : -9223372036854775808 ≤ a ∧ a ≤ 9223372036854775807) (hb : -9223372036854775808 ≤ b ∧ b ≤ 9223372036854775807) (h1 : a < 0) (h2 : ¬ b < 0)
    (h : -9223372036854775808 ≤ a + b ∧ a + b ≤ 9223372036854775807) (w : World) :
    Calls Tryd.prog 12 #[.int .i64 a, .int .i64 b] w fun e w' => e = .returned (.tuple #[.int .i64 (a + b), .int .i64 0]) ∧ w = w' := by
  obtain ⟨a1, a2⟩ := ha
  obtain ⟨b1, b2⟩ := hb
  have d1 : decide (a < 0) = true := by simp; omega
  have d2 : decide (b < 0) = false := by simp; omega
  go_enter Tryd.func12, Tryd.ntmps12
  go_wp2_with (first | (go_at_call 24; ((with_reducible refine (mag_pos _ ?_ ?_ _).mono ?_)); (omega); (omega); rintro e w' ⟨rfl, rfl⟩) | (go_at_call 24; ((with_reducible refine (mag_neg _ ?_ ?_ _).mono ?_)); (omega); (omega); rintro e w' ⟨rfl, rfl⟩) | (go_at_call 25; ((with_reducible refine (of_pos _ ?_ ?_ _).mono ?_)); (omega); (omega); rintro e w' ⟨rfl, rfl⟩) | (go_at_call 25; ((with_reducible refine (of_negs _ ?_ ?_ _).mono ?_)); (omega); (omega); rintro e w' ⟨rfl, rfl⟩))
  all_goals (go_ret2; exact ⟨by first | rfl | exact ret_two (by omega) rfl, rfl⟩)
theorem radd_ok_pn (a b : Int) (ha : -9223372036854775808 ≤ a ∧ a ≤ 9223372036854775807) (hb : -9223372036854775808 ≤ b ∧ b ≤ 9223372036854775807) (h1 : ¬ a < 0) (h2 : b < 0)
    (h : -9223372036854775808 ≤ a + b ∧ a + b ≤ 9223372036854775807) (w : World) :
    Calls Tryd.prog 12 #[.int .i64 a, .int .i64 b] w fun e w' => e = .returned (.tuple #[.int .i64 (a + b), .int .i64 0]) ∧ w = w' := by
  obtain ⟨a1, a2⟩ := ha
  obtain ⟨b1, b2⟩ := hb
  have d1 : decide (a < 0) = false := by simp; omega
  have d2 : decide (b < 0) = true := by simp; omega
  go_enter Tryd.func12, Tryd.ntmps12
  go_wp2_with (first | (go_at_call 24; ((with_reducible refine (mag_pos _ ?_ ?_ _).mono ?_)); (omega); (omega); rintro e w' ⟨rfl, rfl⟩) | (go_at_call 24; ((with_reducible refine (mag_neg _ ?_ ?_ _).mono ?_)); (omega); (omega); rintro e w' ⟨rfl, rfl⟩) | (go_at_call 25; ((with_reducible refine (of_pos _ ?_ ?_ _).mono ?_)); (omega); (omega); rintro e w' ⟨rfl, rfl⟩) | (go_at_call 25; ((with_reducible refine (of_negs _ ?_ ?_ _).mono ?_)); (omega); (omega); rintro e w' ⟨rfl, rfl⟩))
  all_goals (go_ret2; exact ⟨by first | rfl | exact ret_two (by omega) rfl, rfl⟩)
theorem radd_ok_pp (a b : Int) (ha : -9223372036854775808 ≤ a ∧ a ≤ 9223372036854775807) (hb : -9223372036854775808 ≤ b ∧ b ≤ 9223372036854775807) (h1 : ¬ a < 0) (h2 : ¬ b < 0)
    (h : -9223372036854775808 ≤ a + b ∧ a + b ≤ 9223372036854775807) (w : World) :
    Calls Tryd.prog 12 #[.int .i64 a, .int .i64 b] w fun e w' => e = .returned (.tuple #[.int .i64 (a + b), .int .i64 0]) ∧ w = w' := by
  obtain ⟨a1, a2⟩ := ha
  obtain ⟨b1, b2⟩ := hb
  have d1 : decide (a < 0) = false := by simp; omega
  have d2 : decide (b < 0) = false := by simp; omega
  go_enter Tryd.func12, Tryd.ntmps12
  go_wp2_with (first | (go_at_call 24; ((with_reducible refine (mag_pos _ ?_ ?_ _).mono ?_)); (omega); (omega); rintro e w' ⟨rfl, rfl⟩) | (go_at_call 24; ((with_reducible refine (mag_neg _ ?_ ?_ _).mono ?_)); (omega); (omega); rintro e w' ⟨rfl, rfl⟩) | (go_at_call 25; ((with_reducible refine (of_pos _ ?_ ?_ _).mono ?_)); (omega); (omega); rintro e w' ⟨rfl, rfl⟩) | (go_at_call 25; ((with_reducible refine (of_negs _ ?_ ?_ _).mono ?_)); (omega); (omega); rintro e w' ⟨rfl, rfl⟩))
  all_goals (go_ret2; exact ⟨by first | rfl | exact ret_two (by omega) rfl, rfl⟩)
theorem radd_ok (a b : Int) (ha : -9223372036854775808 ≤ a ∧ a ≤ 9223372036854775807) (hb : -9223372036854775808 ≤ b ∧ b ≤ 9223372036854775807)
    (h : -9223372036854775808 ≤ a + b ∧ a + b ≤ 9223372036854775807) (w : World) :
    Calls Tryd.prog 12 #[.int .i64 a, .int .i64 b] w fun e w' => e = .returned (.tuple #[.int .i64 (a + b), .int .i64 0]) ∧ w = w' := by
  by_cases h1 : a < 0 <;> by_cases h2 : b < 0
  · exact radd_ok_nn a b ha hb h1 h2 h w
  · exact radd_ok_np a b ha hb h1 h2 h w
  · exact radd_ok_pn a b ha hb h1 h2 h w
  · exact radd_ok_pp a b ha hb h1 h2 h w
theorem radd_no_nn (a b : Int) (ha : -9223372036854775808 ≤ a ∧ a ≤ 9223372036854775807) (hb : -9223372036854775808 ≤ b ∧ b ≤ 9223372036854775807) (h1 : a < 0) (h2 : b < 0)
    (h : ¬ (-9223372036854775808 ≤ a + b ∧ a + b ≤ 9223372036854775807)) (w : World) :
    Calls Tryd.prog 12 #[.int .i64 a, .int .i64 b] w fun e w' => e = .returned (.tuple #[.int .i64 0, .int .i64 3]) ∧ w = w' := by
  obtain ⟨a1, a2⟩ := ha
  obtain ⟨b1, b2⟩ := hb
  by_cases hx : -18446744073709551615 ≤ a + b
  · have d1 : decide (a < 0) = true := by simp; omega
    have d2 : decide (b < 0) = true := by simp; omega
    go_enter Tryd.func12, Tryd.ntmps12
    go_wp2_with (first | (go_at_call 24; ((with_reducible refine (mag_pos _ ?_ ?_ _).mono ?_)); (omega); (omega); rintro e w' ⟨rfl, rfl⟩) | (go_at_call 24; ((with_reducible refine (mag_neg _ ?_ ?_ _).mono ?_)); (omega); (omega); rintro e w' ⟨rfl, rfl⟩) | (go_at_call 25; ((with_reducible refine (of_no_pos _ ?_ _).mono ?_)); (omega); rintro e w' ⟨rfl, rfl⟩) | (go_at_call 25; ((with_reducible refine (of_no_neg _ ?_ _).mono ?_)); (omega); rintro e w' ⟨rfl, rfl⟩))
    all_goals (go_ret2; exact ⟨by first | rfl | exact ret_two (by omega) rfl, rfl⟩)
  · obtain rfl : a = -9223372036854775808 := by omega
    obtain rfl : b = -9223372036854775808 := by omega
    clear hx h h1 h2 a1 a2 b1 b2
    go_enter Tryd.func12, Tryd.ntmps12
    go_wp2_with (first | (go_at_call 24; ((with_reducible refine (mag_pos _ ?_ ?_ _).mono ?_)); (omega); (omega); rintro e w' ⟨rfl, rfl⟩) | (go_at_call 24; ((with_reducible refine (mag_neg _ ?_ ?_ _).mono ?_)); (omega); (omega); rintro e w' ⟨rfl, rfl⟩) | (go_at_call 25; ((with_reducible refine (of_no_pos _ ?_ _).mono ?_)); (omega); rintro e w' ⟨rfl, rfl⟩) | (go_at_call 25; ((with_reducible refine (of_no_neg _ ?_ _).mono ?_)); (omega); rintro e w' ⟨rfl, rfl⟩))
    all_goals (go_ret2; exact ⟨by first | rfl | exact ret_two (by omega) rfl, rfl⟩)
theorem radd_no_np (a b : Int) (ha : -9223372036854775808 ≤ a ∧ a ≤ 9223372036854775807) (hb : -9223372036854775808 ≤ b ∧ b ≤ 9223372036854775807) (h1 : a < 0) (h2 : ¬ b < 0)
    (h : ¬ (-9223372036854775808 ≤ a + b ∧ a + b ≤ 9223372036854775807)) (w : World) :
    Calls Tryd.prog 12 #[.int .i64 a, .int .i64 b] w fun e w' => e = .returned (.tuple #[.int .i64 0, .int .i64 3]) ∧ w = w' := by
  exfalso; omega
theorem radd_no_pn (a b : Int) (ha : -9223372036854775808 ≤ a ∧ a ≤ 9223372036854775807) (hb : -9223372036854775808 ≤ b ∧ b ≤ 9223372036854775807) (h1 : ¬ a < 0) (h2 : b < 0)
    (h : ¬ (-9223372036854775808 ≤ a + b ∧ a + b ≤ 9223372036854775807)) (w : World) :
    Calls Tryd.prog 12 #[.int .i64 a, .int .i64 b] w fun e w' => e = .returned (.tuple #[.int .i64 0, .int .i64 3]) ∧ w = w' := by
  exfalso; omega
theorem radd_no_pp (a b : Int) (ha : -9223372036854775808 ≤ a ∧ a ≤ 9223372036854775807) (hb : -9223372036854775808 ≤ b ∧ b ≤ 9223372036854775807) (h1 : ¬ a < 0) (h2 : ¬ b < 0)
    (h : ¬ (-9223372036854775808 ≤ a + b ∧ a + b ≤ 9223372036854775807)) (w : World) :
    Calls Tryd.prog 12 #[.int .i64 a, .int .i64 b] w fun e w' => e = .returned (.tuple #[.int .i64 0, .int .i64 3]) ∧ w = w' := by
  obtain ⟨a1, a2⟩ := ha
  obtain ⟨b1, b2⟩ := hb
  have d1 : decide (a < 0) = false := by simp; omega
  have d2 : decide (b < 0) = false := by simp; omega
  go_enter Tryd.func12, Tryd.ntmps12
  go_wp2_with (first | (go_at_call 24; ((with_reducible refine (mag_pos _ ?_ ?_ _).mono ?_)); (omega); (omega); rintro e w' ⟨rfl, rfl⟩) | (go_at_call 24; ((with_reducible refine (mag_neg _ ?_ ?_ _).mono ?_)); (omega); (omega); rintro e w' ⟨rfl, rfl⟩) | (go_at_call 25; ((with_reducible refine (of_no_pos _ ?_ _).mono ?_)); (omega); rintro e w' ⟨rfl, rfl⟩) | (go_at_call 25; ((with_reducible refine (of_no_neg _ ?_ _).mono ?_)); (omega); rintro e w' ⟨rfl, rfl⟩))
  all_goals (go_ret2; exact ⟨by first | rfl | exact ret_two (by omega) rfl, rfl⟩)
theorem radd_no (a b : Int) (ha : -9223372036854775808 ≤ a ∧ a ≤ 9223372036854775807) (hb : -9223372036854775808 ≤ b ∧ b ≤ 9223372036854775807)
    (h : ¬ (-9223372036854775808 ≤ a + b ∧ a + b ≤ 9223372036854775807)) (w : World) :
    Calls Tryd.prog 12 #[.int .i64 a, .int .i64 b] w fun e w' => e = .returned (.tuple #[.int .i64 0, .int .i64 3]) ∧ w = w' := by
  by_cases h1 : a < 0 <;> by_cases h2 : b < 0
  · exact radd_no_nn a b ha hb h1 h2 h w
  · exact radd_no_np a b ha hb h1 h2 h w
  · exact radd_no_pn a b ha hb h1 h2 h w
  · exact radd_no_pp a b ha hb h1 h2 h w
theorem rsub_ok (a b : Int) (ha : -9223372036854775808 ≤ a ∧ a ≤ 9223372036854775807) (hb : -9223372036854775808 ≤ b ∧ b ≤ 9223372036854775807)
    (h : -9223372036854775808 ≤ a - b ∧ a - b ≤ 9223372036854775807) (w : World) :
    Calls Tryd.prog 13 #[.int .i64 a, .int .i64 b] w fun e w' => e = .returned (.tuple #[.int .i64 (a - b), .int .i64 0]) ∧ w = w' := by
  obtain ⟨a1, a2⟩ := ha
  obtain ⟨b1, b2⟩ := hb
  by_cases h1 : b = -9223372036854775808 <;> by_cases h2 : 0 ≤ a
  all_goals try (exfalso; omega)
  all_goals
    first | subst h1 | skip
    go_enter Tryd.func13, Tryd.ntmps13
    go_wp2_with (first | (go_at_call 24; ((with_reducible refine (mag_pos _ ?_ ?_ _).mono ?_)); (omega); (omega); rintro e w' ⟨rfl, rfl⟩) | (go_at_call 24; ((with_reducible refine (mag_neg _ ?_ ?_ _).mono ?_)); (omega); (omega); rintro e w' ⟨rfl, rfl⟩) | (go_at_call 25; ((with_reducible refine (of_pos _ ?_ ?_ _).mono ?_)); (omega); (omega); rintro e w' ⟨rfl, rfl⟩) | (go_at_call 25; ((with_reducible refine (of_negs _ ?_ ?_ _).mono ?_)); (omega); (omega); rintro e w' ⟨rfl, rfl⟩) | (go_at_call 12; ((with_reducible refine (radd_ok _ _ ⟨?_, ?_⟩ ⟨?_, ?_⟩ ?_ _).mono ?_)); (omega); (omega); (omega); (omega); (omega); rintro e w' ⟨rfl, rfl⟩))
    go_ret2
    exact ⟨by first | rfl | exact ret_two (by omega) rfl, rfl⟩
theorem rneg_ok (a : Int) (ha : -9223372036854775808 ≤ a ∧ a ≤ 9223372036854775807)
    (h : -9223372036854775808 ≤ -a ∧ -a ≤ 9223372036854775807) (w : World) :
    Calls Tryd.prog 14 #[.int .i64 a] w fun e w' => e = .returned (.tuple #[.int .i64 (-a), .int .i64 0]) ∧ w = w' := by
  obtain ⟨a1, a2⟩ := ha
  by_cases h1 : a < 0 <;> by_cases h2 : 0 < a
  all_goals try (exfalso; omega)
  all_goals
    go_enter Tryd.func14, Tryd.ntmps14
    go_wp2_with (first | (go_at_call 24; ((with_reducible refine (mag_pos _ ?_ ?_ _).mono ?_)); (omega); (omega); rintro e w' ⟨rfl, rfl⟩) | (go_at_call 24; ((with_reducible refine (mag_neg _ ?_ ?_ _).mono ?_)); (omega); (omega); rintro e w' ⟨rfl, rfl⟩) | (go_at_call 25; ((with_reducible refine (of_pos _ ?_ ?_ _).mono ?_)); (omega); (omega); rintro e w' ⟨rfl, rfl⟩) | (go_at_call 25; ((with_reducible refine (of_negs _ ?_ ?_ _).mono ?_)); (omega); (omega); rintro e w' ⟨rfl, rfl⟩))
    go_ret2
    exact ⟨by first | rfl | exact ret_two (by omega) rfl, rfl⟩
theorem rsub_no (a b : Int) (ha : -9223372036854775808 ≤ a ∧ a ≤ 9223372036854775807) (hb : -9223372036854775808 ≤ b ∧ b ≤ 9223372036854775807)
    (h : ¬ (-9223372036854775808 ≤ a - b ∧ a - b ≤ 9223372036854775807)) (w : World) :
    Calls Tryd.prog 13 #[.int .i64 a, .int .i64 b] w fun e w' => e = .returned (.tuple #[.int .i64 0, .int .i64 3]) ∧ w = w' := by
  obtain ⟨a1, a2⟩ := ha
  obtain ⟨b1, b2⟩ := hb
  by_cases h1 : b = -9223372036854775808 <;> by_cases h2 : 0 ≤ a
  all_goals try (exfalso; omega)
  all_goals
    first | subst h1 | skip
    go_enter Tryd.func13, Tryd.ntmps13
    go_wp2_with (first | (go_at_call 24; ((with_reducible refine (mag_pos _ ?_ ?_ _).mono ?_)); (omega); (omega); rintro e w' ⟨rfl, rfl⟩) | (go_at_call 24; ((with_reducible refine (mag_neg _ ?_ ?_ _).mono ?_)); (omega); (omega); rintro e w' ⟨rfl, rfl⟩) | (go_at_call 25; ((with_reducible refine (of_no_pos _ ?_ _).mono ?_)); (omega); rintro e w' ⟨rfl, rfl⟩) | (go_at_call 25; ((with_reducible refine (of_no_neg _ ?_ _).mono ?_)); (omega); rintro e w' ⟨rfl, rfl⟩) | (go_at_call 12; ((with_reducible refine (radd_no _ _ ⟨?_, ?_⟩ ⟨?_, ?_⟩ ?_ _).mono ?_)); (omega); (omega); (omega); (omega); (omega); rintro e w' ⟨rfl, rfl⟩))
    go_ret2
    exact ⟨by first | rfl | exact ret_two (by omega) rfl, rfl⟩
theorem rneg_no (a : Int) (ha : -9223372036854775808 ≤ a ∧ a ≤ 9223372036854775807)
    (h : ¬ (-9223372036854775808 ≤ -a ∧ -a ≤ 9223372036854775807)) (w : World) :
    Calls Tryd.prog 14 #[.int .i64 a] w fun e w' => e = .returned (.tuple #[.int .i64 0, .int .i64 3]) ∧ w = w' := by
  obtain ⟨a1, a2⟩ := ha
  by_cases h1 : a < 0 <;> by_cases h2 : 0 < a
  all_goals try (exfalso; omega)
  all_goals
    go_enter Tryd.func14, Tryd.ntmps14
    go_wp2_with (first | (go_at_call 24; ((with_reducible refine (mag_pos _ ?_ ?_ _).mono ?_)); (omega); (omega); rintro e w' ⟨rfl, rfl⟩) | (go_at_call 24; ((with_reducible refine (mag_neg _ ?_ ?_ _).mono ?_)); (omega); (omega); rintro e w' ⟨rfl, rfl⟩) | (go_at_call 25; ((with_reducible refine (of_no_pos _ ?_ _).mono ?_)); (omega); rintro e w' ⟨rfl, rfl⟩) | (go_at_call 25; ((with_reducible refine (of_no_neg _ ?_ _).mono ?_)); (omega); rintro e w' ⟨rfl, rfl⟩))
    go_ret2
    exact ⟨by first | rfl | exact ret_two (by omega) rfl, rfl⟩
end Go.Proofs.YtglbhbnbbpljnaaDoor
