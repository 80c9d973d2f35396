/- The walks of the statements on sums, products and rules, for all numbers of 64 bits, where the library's table and errors lie as laid. -/
import Derived.Test.YtglbhbnbbpljnaaDoorAwake
import Derived.Test.YtglbhbnbbpljnaaDoorMuls
namespace Go.Proofs.YtglbhbnbbpljnaaDoor
open Go Go.RowKit
set_option linter.unusedVariables false
theorem add_meet (a b : Int) (ha : -9223372036854775808 ≤ a ∧ a ≤ 9223372036854775807) (hb : -9223372036854775808 ≤ b ∧ b ≤ 9223372036854775807) : ∃ x e : Int, (∀ w, Calls Tryd.prog 9 #[.int .i64 a, .int .i64 b] w fun e' w' => e' = .returned (.tuple #[.int .i64 x, .int .i64 e]) ∧ w = w') ∧ ∀ w, Calls Tryd.prog 12 #[.int .i64 a, .int .i64 b] w fun e' w' => e' = .returned (.tuple #[.int .i64 x, .int .i64 e]) ∧ w = w' := by
  by_cases h : -9223372036854775808 ≤ a + b ∧ a + b ≤ 9223372036854775807
  · exact ⟨a + b, 0, fun w => add_ok a b ha hb h w, fun w => radd_ok a b ha hb h w⟩
  · exact ⟨0, 3, fun w => add_no a b ha hb h w, fun w => radd_no a b ha hb h w⟩
theorem sub_meet (a b : Int) (ha : -9223372036854775808 ≤ a ∧ a ≤ 9223372036854775807) (hb : -9223372036854775808 ≤ b ∧ b ≤ 9223372036854775807) : ∃ x e : Int, (∀ w, Calls Tryd.prog 10 #[.int .i64 a, .int .i64 b] w fun e' w' => e' = .returned (.tuple #[.int .i64 x, .int .i64 e]) ∧ w = w') ∧ ∀ w, Calls Tryd.prog 13 #[.int .i64 a, .int .i64 b] w fun e' w' => e' = .returned (.tuple #[.int .i64 x, .int .i64 e]) ∧ w = w' := by
  by_cases h : -9223372036854775808 ≤ a - b ∧ a - b ≤ 9223372036854775807
  · exact ⟨a - b, 0, fun w => sub_ok a b ha hb h w, fun w => rsub_ok a b ha hb h w⟩
  · exact ⟨0, 3, fun w => sub_no a b ha hb h w, fun w => rsub_no a b ha hb h w⟩
theorem mul_meet (a b : Int) (ha : -9223372036854775808 ≤ a ∧ a ≤ 9223372036854775807) (hb : -9223372036854775808 ≤ b ∧ b ≤ 9223372036854775807) : ∃ x e : Int, (∀ w, Calls Tryd.prog 15 #[.int .i64 a, .int .i64 b] w fun e' w' => e' = .returned (.tuple #[.int .i64 x, .int .i64 e]) ∧ w = w') ∧ ∀ w, Calls Tryd.prog 18 #[.int .i64 a, .int .i64 b] w fun e' w' => e' = .returned (.tuple #[.int .i64 x, .int .i64 e]) ∧ w = w' := by
  by_cases h : -9223372036854775808 ≤ a * b ∧ a * b ≤ 9223372036854775807
  · exact ⟨a * b, 0, fun w => mul_ok a b ha hb h w, fun w => rmul_ok a b ha hb h w⟩
  · exact ⟨0, 3, fun w => mul_no a b ha hb h w, fun w => rmul_no a b ha hb h w⟩
theorem neg_meet (a : Int) (ha : -9223372036854775808 ≤ a ∧ a ≤ 9223372036854775807) : ∃ x e : Int, (∀ w, Calls Tryd.prog 11 #[.int .i64 a] w fun e' w' => e' = .returned (.tuple #[.int .i64 x, .int .i64 e]) ∧ w = w') ∧ ∀ w, Calls Tryd.prog 14 #[.int .i64 a] w fun e' w' => e' = .returned (.tuple #[.int .i64 x, .int .i64 e]) ∧ w = w' := by
  by_cases h : -9223372036854775808 ≤ -a ∧ -a ≤ 9223372036854775807
  · exact ⟨-a, 0, fun w => neg_ok a (by omega) w, fun w => rneg_ok a ha h w⟩
  · obtain rfl : a = -9223372036854775808 := by omega
    exact ⟨0, 3, fun w => neg_no w, fun w => rneg_no _ ha h w⟩
theorem div_meet (a b : Int) (ha : -9223372036854775808 ≤ a ∧ a ≤ 9223372036854775807) (hb : -9223372036854775808 ≤ b ∧ b ≤ 9223372036854775807) : ∃ x y e f : Int, (∀ w, Calls Tryd.prog 16 #[.int .i64 a, .int .i64 b] w fun e' w' => e' = .returned (.tuple #[.int .i64 x, .int .i64 e]) ∧ w = w') ∧ (∀ w, Calls Tryd.prog 17 #[.int .i64 a, .int .i64 b] w fun e' w' => e' = .returned (.tuple #[.int .i64 y, .int .i64 f]) ∧ w = w') ∧ (∀ w, Calls Tryd.prog 19 #[.int .i64 a, .int .i64 b] w fun e' w' => e' = .returned (.tuple #[.int .i64 x, .int .i64 y, .int .i64 e]) ∧ w = w') ∧ (b = 0 → f = 4) ∧ (b ≠ 0 → f = 0) := by
  by_cases h : b = 0
  · subst h
    exact ⟨0, 0, 4, 4, fun w => div_zero a w, fun w => mod_zero a w, fun w => rdiv_zero a w, fun _ => rfl, fun h => absurd rfl h⟩
  · by_cases h1 : a = -9223372036854775808 ∧ b = -1
    · obtain ⟨rfl, rfl⟩ := h1
      exact ⟨0, 0, 3, 0, fun w => div_least w, fun w => mod_ok _ _ h ha hb w, fun w => rdiv_no w, fun h2 => absurd h2 h, fun _ => rfl⟩
    · exact ⟨qF a b, rF a b, 0, 0, fun w => div_ok a b h h1 ha hb w, fun w => mod_ok a b h ha hb w, fun w => rdiv_ok a b h h1 ha hb w, fun h2 => absurd h2 h, fun _ => rfl⟩
theorem walk_sums (a b : Int) (ha : -9223372036854775808 ≤ a ∧ a ≤ 9223372036854775807) (hb : -9223372036854775808 ≤ b ∧ b ≤ 9223372036854775807) (w : World) (hG : Given w) :
    Calls Tryd.prog 3 #[.int .i64 a, .int .i64 b] w fun e w' => e = .returned (.bool true) ∧ Below w.heap.size w w' := by
  obtain ⟨x, e, k1, k2⟩ := add_meet a b ha hb
  obtain ⟨y, f, k3, k4⟩ := sub_meet a b ha hb
  obtain ⟨z, g, k5, k6⟩ := neg_meet a ha
  have KA := Lib.hid (awake_any w hG)
  have K1 := Lib.hid k1
  have K2 := Lib.hid k2
  have K3 := Lib.hid k3
  have K4 := Lib.hid k4
  have K5 := Lib.hid k5
  have K6 := Lib.hid k6
  clear k1 k2 k3 k4 k5 k6 hG ha hb
  go_enter Tryd.func3, Tryd.ntmps3
  go_wp2_with (first | (go_at_call 8; ((with_reducible refine KA.out.mono ?_)); rintro e' w1 ⟨rfl, hb1⟩) | (go_at_call 9; ((with_reducible refine (K1.out _).mono ?_)); rintro e' w' ⟨rfl, rfl⟩) | (go_at_call 12; ((with_reducible refine (K2.out _).mono ?_)); rintro e' w' ⟨rfl, rfl⟩) | (go_at_call 10; ((with_reducible refine (K3.out _).mono ?_)); rintro e' w' ⟨rfl, rfl⟩) | (go_at_call 13; ((with_reducible refine (K4.out _).mono ?_)); rintro e' w' ⟨rfl, rfl⟩) | (go_at_call 11; ((with_reducible refine (K5.out _).mono ?_)); rintro e' w' ⟨rfl, rfl⟩) | (go_at_call 14; ((with_reducible refine (K6.out _).mono ?_)); rintro e' w' ⟨rfl, rfl⟩))
  go_ret
  exact ⟨rfl, hb1⟩
theorem walk_times (a b : Int) (ha : -9223372036854775808 ≤ a ∧ a ≤ 9223372036854775807) (hb : -9223372036854775808 ≤ b ∧ b ≤ 9223372036854775807) (w : World) (hG : Given w) :
    Calls Tryd.prog 4 #[.int .i64 a, .int .i64 b] w fun e w' => e = .returned (.bool true) ∧ Below w.heap.size w w' := by
  obtain ⟨x, e, k1, k2⟩ := mul_meet a b ha hb
  obtain ⟨y, z, f, g, k3, k4, k5, g1, g2⟩ := div_meet a b ha hb
  have KA := Lib.hid (awake_any w hG)
  have K1 := Lib.hid k1
  have K2 := Lib.hid k2
  have K3 := Lib.hid k3
  have K4 := Lib.hid k4
  have K5 := Lib.hid k5
  clear k1 k2 k3 k4 k5 hG ha hb
  by_cases h : b = 0
  · obtain rfl := g1 h
    subst h
    clear g1 g2
    go_enter Tryd.func4, Tryd.ntmps4
    go_wp2_with (first | (go_at_call 8; ((with_reducible refine KA.out.mono ?_)); rintro e' w1 ⟨rfl, hb1⟩) | (go_at_call 15; ((with_reducible refine (K1.out _).mono ?_)); rintro e' w' ⟨rfl, rfl⟩) | (go_at_call 18; ((with_reducible refine (K2.out _).mono ?_)); rintro e' w' ⟨rfl, rfl⟩) | (go_at_call 16; ((with_reducible refine (K3.out _).mono ?_)); rintro e' w' ⟨rfl, rfl⟩) | (go_at_call 17; ((with_reducible refine (K4.out _).mono ?_)); rintro e' w' ⟨rfl, rfl⟩) | (go_at_call 19; ((with_reducible refine (K5.out _).mono ?_)); rintro e' w' ⟨rfl, rfl⟩))
    go_ret
    exact ⟨rfl, hb1⟩
  · obtain rfl := g2 h
    have h0 : (b == 0) = false := by simpa using h
    have h1 : (b != 0) = true := by simpa using h
    clear g1 g2
    go_enter Tryd.func4, Tryd.ntmps4
    go_wp2_with (first | (go_at_call 8; ((with_reducible refine KA.out.mono ?_)); rintro e' w1 ⟨rfl, hb1⟩) | (go_at_call 15; ((with_reducible refine (K1.out _).mono ?_)); rintro e' w' ⟨rfl, rfl⟩) | (go_at_call 18; ((with_reducible refine (K2.out _).mono ?_)); rintro e' w' ⟨rfl, rfl⟩) | (go_at_call 16; ((with_reducible refine (K3.out _).mono ?_)); rintro e' w' ⟨rfl, rfl⟩) | (go_at_call 17; ((with_reducible refine (K4.out _).mono ?_)); rintro e' w' ⟨rfl, rfl⟩) | (go_at_call 19; ((with_reducible refine (K5.out _).mono ?_)); rintro e' w' ⟨rfl, rfl⟩))
    go_ret
    exact ⟨rfl, hb1⟩
end Go.Proofs.YtglbhbnbbpljnaaDoor
