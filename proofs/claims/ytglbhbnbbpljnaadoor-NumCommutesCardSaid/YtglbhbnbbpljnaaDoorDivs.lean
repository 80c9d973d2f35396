/- Contracts of num.Mul, num.Div, num.Mod, for all numbers of 64 bits. -/
import Derived.Test.YtglbhbnbbpljnaaDoorSums
import Derived.Test.YtglbhbnbbpljnaaDoorQuo
import Derived.Lib.Hide
namespace Go.Proofs.YtglbhbnbbpljnaaDoor
open Go Go.RowKit
theorem down_yes (r b : Int) (h0 : (r == 0) = false) (h : r < 0 ∧ 0 ≤ b ∨ 0 ≤ r ∧ b < 0) (w : World) :
    Calls Tryd.prog 26 #[.int .i64 r, .int .i64 b] w fun e w' => e = .returned (.bool true) ∧ w = w' := by
  have h0' : (r != 0) = true := by simpa using h0
  rcases h with ⟨h1, h2⟩ | ⟨h1, h2⟩
  · have d1 : decide (r < 0) = true := by simpa using h1
    have d2 : decide (b < 0) = false := by simpa using h2
    go_enter Tryd.func26, Tryd.ntmps26
    go_wp2
    go_ret
    exact ⟨rfl, rfl⟩
  · have d1 : decide (r < 0) = false := by simpa using h1
    have d2 : decide (b < 0) = true := by simpa using h2
    go_enter Tryd.func26, Tryd.ntmps26
    go_wp2
    go_ret
    exact ⟨rfl, rfl⟩
theorem down_no (r b : Int) (h : r = 0 ∨ r < 0 ∧ b < 0 ∨ 0 ≤ r ∧ 0 ≤ b) (w : World) :
    Calls Tryd.prog 26 #[.int .i64 r, .int .i64 b] w fun e w' => e = .returned (.bool false) ∧ w = w' := by
  by_cases h0 : r = 0
  · subst h0
    go_enter Tryd.func26, Tryd.ntmps26
    go_wp2
    go_ret
    exact ⟨rfl, rfl⟩
  · have h0' : (r != 0) = true := by simpa using h0
    rcases h with h1 | ⟨h1, h2⟩ | ⟨h1, h2⟩
    · exact absurd h1 h0
    · have d1 : decide (r < 0) = true := by simpa using h1
      have d2 : decide (b < 0) = true := by simpa using h2
      go_enter Tryd.func26, Tryd.ntmps26
      go_wp2
      go_ret
      exact ⟨rfl, rfl⟩
    · have d1 : decide (r < 0) = false := by simpa using h1
      have d2 : decide (b < 0) = false := by simpa using h2
      go_enter Tryd.func26, Tryd.ntmps26
      go_wp2
      go_ret
      exact ⟨rfl, rfl⟩
theorem div_zero (a : Int) (w : World) :
    Calls Tryd.prog 16 #[.int .i64 a, .int .i64 0] w fun e w' => e = .returned (.tuple #[.int .i64 0, .int .i64 4]) ∧ w = w' := by
  go_enter Tryd.func16, Tryd.ntmps16
  go_wp2
  go_ret2
  exact ⟨rfl, rfl⟩
theorem mod_zero (a : Int) (w : World) :
    Calls Tryd.prog 17 #[.int .i64 a, .int .i64 0] w fun e w' => e = .returned (.tuple #[.int .i64 0, .int .i64 4]) ∧ w = w' := by
  go_enter Tryd.func17, Tryd.ntmps17
  go_wp2
  go_ret2
  exact ⟨rfl, rfl⟩
theorem div_least (w : World) :
    Calls Tryd.prog 16 #[.int .i64 (-9223372036854775808), .int .i64 (-1)] w fun e w' => e = .returned (.tuple #[.int .i64 0, .int .i64 3]) ∧ w = w' := by
  go_enter Tryd.func16, Tryd.ntmps16
  go_wp2_with (go_at_call 11; ((with_reducible refine (neg_no _).mono ?_)); rintro e w' ⟨rfl, rfl⟩)
  go_ret2
  exact ⟨rfl, rfl⟩
theorem div_minus (a : Int) (ha : -9223372036854775807 ≤ a ∧ a ≤ 9223372036854775807) (w : World) :
    Calls Tryd.prog 16 #[.int .i64 a, .int .i64 (-1)] w fun e w' => e = .returned (.tuple #[.int .i64 (-a), .int .i64 0]) ∧ w = w' := by
  go_enter Tryd.func16, Tryd.ntmps16
  go_wp2_with (go_at_call 11; ((with_reducible refine (neg_ok _ ha _).mono ?_)); rintro e w' ⟨rfl, rfl⟩)
  go_ret2
  exact ⟨rfl, rfl⟩
theorem div_any (a b : Int) (h0 : (b == 0) = false) (h1 : (b == -1) = false) (hq : wrap64 (a.tdiv b) = a.tdiv b)
    (hr : a.tmod b = 0 ∨ a.tmod b < 0 ∧ b < 0 ∨ 0 ≤ a.tmod b ∧ 0 ≤ b) (w : World) :
    Calls Tryd.prog 16 #[.int .i64 a, .int .i64 b] w fun e w' => e = .returned (.tuple #[.int .i64 (a.tdiv b), .int .i64 0]) ∧ w = w' := by
  have h2 : ¬ b = 0 := by simpa using h0
  have HQ := Lib.hid hq
  have HR := Lib.hid hr
  clear hq hr
  go_enter Tryd.func16, Tryd.ntmps16
  go_wp2_with (go_at_call 26; ((with_reducible refine (down_no _ _ HR.out _).mono ?_)); rintro e w' ⟨rfl, rfl⟩)
  go_ret2
  exact ⟨ret_two HQ.out rfl, rfl⟩
theorem div_down (a b : Int) (h0 : (b == 0) = false) (h1 : (b == -1) = false) (hq : wrap64 (wrap64 (a.tdiv b) - 1) = a.tdiv b - 1)
    (hr0 : (a.tmod b == 0) = false) (hr : a.tmod b < 0 ∧ 0 ≤ b ∨ 0 ≤ a.tmod b ∧ b < 0) (w : World) :
    Calls Tryd.prog 16 #[.int .i64 a, .int .i64 b] w fun e w' => e = .returned (.tuple #[.int .i64 (a.tdiv b - 1), .int .i64 0]) ∧ w = w' := by
  have h2 : ¬ b = 0 := by simpa using h0
  have HQ := Lib.hid hq
  have HR0 := Lib.hid hr0
  have HR := Lib.hid hr
  clear hq hr0 hr
  go_enter Tryd.func16, Tryd.ntmps16
  go_wp2_with (go_at_call 26; ((with_reducible refine (down_yes _ _ HR0.out HR.out _).mono ?_)); rintro e w' ⟨rfl, rfl⟩)
  go_ret2
  exact ⟨ret_two HQ.out rfl, rfl⟩
theorem mod_any (a b : Int) (h0 : (b == 0) = false) (hr : a.tmod b = 0 ∨ a.tmod b < 0 ∧ b < 0 ∨ 0 ≤ a.tmod b ∧ 0 ≤ b) (w : World) :
    Calls Tryd.prog 17 #[.int .i64 a, .int .i64 b] w fun e w' => e = .returned (.tuple #[.int .i64 (a.tmod b), .int .i64 0]) ∧ w = w' := by
  have h2 : ¬ b = 0 := by simpa using h0
  have HR := Lib.hid hr
  clear hr
  go_enter Tryd.func17, Tryd.ntmps17
  go_wp2_with (go_at_call 26; ((with_reducible refine (down_no _ _ HR.out _).mono ?_)); rintro e w' ⟨rfl, rfl⟩)
  go_ret2
  exact ⟨rfl, rfl⟩
theorem mod_down (a b : Int) (h0 : (b == 0) = false) (hq : wrap64 (a.tmod b + b) = a.tmod b + b)
    (hr0 : (a.tmod b == 0) = false) (hr : a.tmod b < 0 ∧ 0 ≤ b ∨ 0 ≤ a.tmod b ∧ b < 0) (w : World) :
    Calls Tryd.prog 17 #[.int .i64 a, .int .i64 b] w fun e w' => e = .returned (.tuple #[.int .i64 (a.tmod b + b), .int .i64 0]) ∧ w = w' := by
  have h2 : ¬ b = 0 := by simpa using h0
  have HQ := Lib.hid hq
  have HR0 := Lib.hid hr0
  have HR := Lib.hid hr
  clear hq hr0 hr
  go_enter Tryd.func17, Tryd.ntmps17
  go_wp2_with (go_at_call 26; ((with_reducible refine (down_yes _ _ HR0.out HR.out _).mono ?_)); rintro e w' ⟨rfl, rfl⟩)
  go_ret2
  exact ⟨ret_two HQ.out rfl, rfl⟩
end Go.Proofs.YtglbhbnbbpljnaaDoor
