/- The walks of the statements on rules and orders, for all numbers of 64 bits, where the library's table and errors lie as laid. -/
import Derived.Test.YtglbhbnbbpljnaaDoorLaws
namespace Go.Proofs.YtglbhbnbbpljnaaDoor
open Go Go.RowKit
set_option linter.unusedVariables false
/-- A difference that fits, undone by a sum. -/
theorem undo (a b : Int) (ha : -9223372036854775808 ≤ a ∧ a ≤ 9223372036854775807) (hb : -9223372036854775808 ≤ b ∧ b ≤ 9223372036854775807) (h : -9223372036854775808 ≤ a - b ∧ a - b ≤ 9223372036854775807) (w : World) : Calls Tryd.prog 9 #[.int .i64 (a - b), .int .i64 b] w fun e' w' => e' = .returned (.tuple #[.int .i64 a, .int .i64 0]) ∧ w = w' := by
  have h1 : a - b + b = a := by omega
  have := add_ok (a - b) b h hb (by omega) w
  rw [h1] at this; exact this
theorem rules_zero (a : Int) (ha : -9223372036854775808 ≤ a ∧ a ≤ 9223372036854775807) (x e : Int) (sub : ∀ w, Calls Tryd.prog 10 #[.int .i64 a, .int .i64 0] w fun e' w' => e' = .returned (.tuple #[.int .i64 x, .int .i64 e]) ∧ w = w')
    (hs : e = 0 ∧ (∀ w, Calls Tryd.prog 9 #[.int .i64 x, .int .i64 0] w fun e' w' => e' = .returned (.tuple #[.int .i64 a, .int .i64 0]) ∧ w = w') ∨ e = 3) (w : World) (hG : Given w) :
    Calls Tryd.prog 5 #[.int .i64 a, .int .i64 0] w fun e w' => e = .returned (.bool true) ∧ Below w.heap.size w w' := by
  have KA := Lib.hid (awake_any w hG)
  have K1 := Lib.hid sub
  have K2 := Lib.hid (div_zero a)
  have K3 := Lib.hid (mod_zero a)
  clear sub hG ha
  rcases hs with ⟨rfl, add⟩ | rfl
  · have K4 := Lib.hid add
    clear add
    go_enter Tryd.func5, Tryd.ntmps5
    go_wp2_with (first | (go_at_call 8; ((with_reducible refine KA.out.mono ?_)); rintro e' w1 ⟨rfl, hb1⟩) | (go_at_call 10; ((with_reducible refine (K1.out _).mono ?_)); rintro e' w' ⟨rfl, rfl⟩) | (go_at_call 16; ((with_reducible refine (K2.out _).mono ?_)); rintro e' w' ⟨rfl, rfl⟩) | (go_at_call 17; ((with_reducible refine (K3.out _).mono ?_)); rintro e' w' ⟨rfl, rfl⟩) | (go_at_call 9; ((with_reducible refine (K4.out _).mono ?_)); rintro e' w' ⟨rfl, rfl⟩))
    go_ret
    exact ⟨rfl, hb1⟩
  · go_enter Tryd.func5, Tryd.ntmps5
    go_wp2_with (first | (go_at_call 8; ((with_reducible refine KA.out.mono ?_)); rintro e' w1 ⟨rfl, hb1⟩) | (go_at_call 10; ((with_reducible refine (K1.out _).mono ?_)); rintro e' w' ⟨rfl, rfl⟩) | (go_at_call 16; ((with_reducible refine (K2.out _).mono ?_)); rintro e' w' ⟨rfl, rfl⟩) | (go_at_call 17; ((with_reducible refine (K3.out _).mono ?_)); rintro e' w' ⟨rfl, rfl⟩))
    go_ret
    exact ⟨rfl, hb1⟩
theorem rules_least (x e : Int) (sub : ∀ w, Calls Tryd.prog 10 #[.int .i64 (-9223372036854775808), .int .i64 (-1)] w fun e' w' => e' = .returned (.tuple #[.int .i64 x, .int .i64 e]) ∧ w = w')
    (hs : e = 0 ∧ (∀ w, Calls Tryd.prog 9 #[.int .i64 x, .int .i64 (-1)] w fun e' w' => e' = .returned (.tuple #[.int .i64 (-9223372036854775808), .int .i64 0]) ∧ w = w') ∨ e = 3) (w : World) (hG : Given w) :
    Calls Tryd.prog 5 #[.int .i64 (-9223372036854775808), .int .i64 (-1)] w fun e w' => e = .returned (.bool true) ∧ Below w.heap.size w w' := by
  have KA := Lib.hid (awake_any w hG)
  have K1 := Lib.hid sub
  have K2 := Lib.hid div_least
  have km : ∀ w, Calls Tryd.prog 17 #[.int .i64 (-9223372036854775808), .int .i64 (-1)] w fun e' w' => e' = .returned (.tuple #[.int .i64 0, .int .i64 0]) ∧ w = w' := fun w => mod_ok (-9223372036854775808) (-1) (by omega) (by omega) (by omega) w
  have K3 := Lib.hid km
  clear sub hG km
  rcases hs with ⟨rfl, add⟩ | rfl
  · have K4 := Lib.hid add
    clear add
    go_enter Tryd.func5, Tryd.ntmps5
    go_wp2_with (first | (go_at_call 8; ((with_reducible refine KA.out.mono ?_)); rintro e' w1 ⟨rfl, hb1⟩) | (go_at_call 10; ((with_reducible refine (K1.out _).mono ?_)); rintro e' w' ⟨rfl, rfl⟩) | (go_at_call 16; ((with_reducible refine (K2.out _).mono ?_)); rintro e' w' ⟨rfl, rfl⟩) | (go_at_call 17; ((with_reducible refine (K3.out _).mono ?_)); rintro e' w' ⟨rfl, rfl⟩) | (go_at_call 9; ((with_reducible refine (K4.out _).mono ?_)); rintro e' w' ⟨rfl, rfl⟩))
    go_ret
    exact ⟨rfl, hb1⟩
  · go_enter Tryd.func5, Tryd.ntmps5
    go_wp2_with (first | (go_at_call 8; ((with_reducible refine KA.out.mono ?_)); rintro e' w1 ⟨rfl, hb1⟩) | (go_at_call 10; ((with_reducible refine (K1.out _).mono ?_)); rintro e' w' ⟨rfl, rfl⟩) | (go_at_call 16; ((with_reducible refine (K2.out _).mono ?_)); rintro e' w' ⟨rfl, rfl⟩) | (go_at_call 17; ((with_reducible refine (K3.out _).mono ?_)); rintro e' w' ⟨rfl, rfl⟩))
    go_ret
    exact ⟨rfl, hb1⟩
theorem rules_any (a b q r : Int) (x e : Int) (sub : ∀ w, Calls Tryd.prog 10 #[.int .i64 a, .int .i64 b] w fun e' w' => e' = .returned (.tuple #[.int .i64 x, .int .i64 e]) ∧ w = w')
    (hs : e = 0 ∧ (∀ w, Calls Tryd.prog 9 #[.int .i64 x, .int .i64 b] w fun e' w' => e' = .returned (.tuple #[.int .i64 a, .int .i64 0]) ∧ w = w') ∨ e = 3)
    (kd : ∀ w, Calls Tryd.prog 16 #[.int .i64 a, .int .i64 b] w fun e' w' => e' = .returned (.tuple #[.int .i64 q, .int .i64 0]) ∧ w = w') (km : ∀ w, Calls Tryd.prog 17 #[.int .i64 a, .int .i64 b] w fun e' w' => e' = .returned (.tuple #[.int .i64 r, .int .i64 0]) ∧ w = w')
    (hp : 0 < b → 0 ≤ r ∧ r < b) (hn : b < 0 → r ≤ 0 ∧ b < r) (hb0 : ¬ b = 0) (hr : wrap64 (wrap64 (q * b) + r) = a) (w : World) (hG : Given w) :
    Calls Tryd.prog 5 #[.int .i64 a, .int .i64 b] w fun e w' => e = .returned (.bool true) ∧ Below w.heap.size w w' := by
  have KA := Lib.hid (awake_any w hG)
  have K1 := Lib.hid sub
  have K2 := Lib.hid kd
  have K3 := Lib.hid km
  have HR := Lib.hid hr
  clear sub kd km hG hr
  have hsign : 0 < b ∨ b < 0 := by omega
  rcases hs with ⟨rfl, add⟩ | rfl
  · have K4 := Lib.hid add
    clear add
    rcases hsign with hp0 | hn0
    · obtain ⟨r1, r2⟩ := hp hp0
      have n1 : ¬ b < 0 := by omega
      clear hp hn hb0
      go_enter Tryd.func5, Tryd.ntmps5
      go_wp2_with (first | (go_at_call 8; ((with_reducible refine KA.out.mono ?_)); rintro e' w1 ⟨rfl, hb1⟩) | (go_at_call 10; ((with_reducible refine (K1.out _).mono ?_)); rintro e' w' ⟨rfl, rfl⟩) | (go_at_call 16; ((with_reducible refine (K2.out _).mono ?_)); rintro e' w' ⟨rfl, rfl⟩) | (go_at_call 17; ((with_reducible refine (K3.out _).mono ?_)); rintro e' w' ⟨rfl, rfl⟩) | (go_at_call 9; ((with_reducible refine (K4.out _).mono ?_)); rintro e' w' ⟨rfl, rfl⟩))
      go_ret
      exact ⟨by rw [HR.out]; simp, hb1⟩
    · obtain ⟨r1, r2⟩ := hn hn0
      have n1 : ¬ 0 < b := by omega
      clear hp hn hb0
      go_enter Tryd.func5, Tryd.ntmps5
      go_wp2_with (first | (go_at_call 8; ((with_reducible refine KA.out.mono ?_)); rintro e' w1 ⟨rfl, hb1⟩) | (go_at_call 10; ((with_reducible refine (K1.out _).mono ?_)); rintro e' w' ⟨rfl, rfl⟩) | (go_at_call 16; ((with_reducible refine (K2.out _).mono ?_)); rintro e' w' ⟨rfl, rfl⟩) | (go_at_call 17; ((with_reducible refine (K3.out _).mono ?_)); rintro e' w' ⟨rfl, rfl⟩) | (go_at_call 9; ((with_reducible refine (K4.out _).mono ?_)); rintro e' w' ⟨rfl, rfl⟩))
      go_ret
      exact ⟨by rw [HR.out]; simp, hb1⟩
  · rcases hsign with hp0 | hn0
    · obtain ⟨r1, r2⟩ := hp hp0
      have n1 : ¬ b < 0 := by omega
      clear hp hn hb0
      go_enter Tryd.func5, Tryd.ntmps5
      go_wp2_with (first | (go_at_call 8; ((with_reducible refine KA.out.mono ?_)); rintro e' w1 ⟨rfl, hb1⟩) | (go_at_call 10; ((with_reducible refine (K1.out _).mono ?_)); rintro e' w' ⟨rfl, rfl⟩) | (go_at_call 16; ((with_reducible refine (K2.out _).mono ?_)); rintro e' w' ⟨rfl, rfl⟩) | (go_at_call 17; ((with_reducible refine (K3.out _).mono ?_)); rintro e' w' ⟨rfl, rfl⟩))
      go_ret
      exact ⟨by rw [HR.out]; simp, hb1⟩
    · obtain ⟨r1, r2⟩ := hn hn0
      have n1 : ¬ 0 < b := by omega
      clear hp hn hb0
      go_enter Tryd.func5, Tryd.ntmps5
      go_wp2_with (first | (go_at_call 8; ((with_reducible refine KA.out.mono ?_)); rintro e' w1 ⟨rfl, hb1⟩) | (go_at_call 10; ((with_reducible refine (K1.out _).mono ?_)); rintro e' w' ⟨rfl, rfl⟩) | (go_at_call 16; ((with_reducible refine (K2.out _).mono ?_)); rintro e' w' ⟨rfl, rfl⟩) | (go_at_call 17; ((with_reducible refine (K3.out _).mono ?_)); rintro e' w' ⟨rfl, rfl⟩))
      go_ret
      exact ⟨by rw [HR.out]; simp, hb1⟩
theorem walk_rules (a b : Int) (ha : -9223372036854775808 ≤ a ∧ a ≤ 9223372036854775807) (hb : -9223372036854775808 ≤ b ∧ b ≤ 9223372036854775807) (w : World) (hG : Given w) :
    Calls Tryd.prog 5 #[.int .i64 a, .int .i64 b] w fun e w' => e = .returned (.bool true) ∧ Below w.heap.size w w' := by
  obtain ⟨x, e, sub, hs⟩ : ∃ x e : Int, (∀ w, Calls Tryd.prog 10 #[.int .i64 a, .int .i64 b] w fun e' w' => e' = .returned (.tuple #[.int .i64 x, .int .i64 e]) ∧ w = w') ∧ (e = 0 ∧ (∀ w, Calls Tryd.prog 9 #[.int .i64 x, .int .i64 b] w fun e' w' => e' = .returned (.tuple #[.int .i64 a, .int .i64 0]) ∧ w = w') ∨ e = 3) := by
    by_cases h : -9223372036854775808 ≤ a - b ∧ a - b ≤ 9223372036854775807
    · exact ⟨a - b, 0, fun w => sub_ok a b ha hb h w, Or.inl ⟨rfl, fun w => undo a b ha hb h w⟩⟩
    · exact ⟨0, 3, fun w => sub_no a b ha hb h w, Or.inr rfl⟩
  by_cases h0 : b = 0
  · subst h0; exact rules_zero a ha x e sub hs w hG
  · by_cases h1 : a = -9223372036854775808 ∧ b = -1
    · obtain ⟨rfl, rfl⟩ := h1; exact rules_least x e sub hs w hG
    · obtain ⟨p1, p2⟩ := rest_bd a b h0
      refine rules_any a b (qF a b) (rF a b) x e sub hs (fun w => div_ok a b h0 h1 ha hb w) (fun w => mod_ok a b h0 ha hb w) p1 p2 h0 ?_ w hG
      have hr := rule a b h0
      generalize qF a b * b = n at *
      unfold wrap64
      omega
theorem walk_commutes (a b : Int) (ha : -9223372036854775808 ≤ a ∧ a ≤ 9223372036854775807) (hb : -9223372036854775808 ≤ b ∧ b ≤ 9223372036854775807) (w : World) (hG : Given w) :
    Calls Tryd.prog 7 #[.int .i64 a, .int .i64 b] w fun e w' => e = .returned (.bool true) ∧ Below w.heap.size w w' := by
  obtain ⟨x, e, k1, k2⟩ : ∃ x e : Int, (∀ w, Calls Tryd.prog 9 #[.int .i64 a, .int .i64 b] w fun e' w' => e' = .returned (.tuple #[.int .i64 x, .int .i64 e]) ∧ w = w') ∧ ∀ w, Calls Tryd.prog 9 #[.int .i64 b, .int .i64 a] w fun e' w' => e' = .returned (.tuple #[.int .i64 x, .int .i64 e]) ∧ w = w' := by
    by_cases h : -9223372036854775808 ≤ a + b ∧ a + b ≤ 9223372036854775807
    · exact ⟨a + b, 0, fun w => add_ok a b ha hb h w, fun w => by rw [show a + b = b + a by omega]; exact add_ok b a hb ha (by omega) w⟩
    · exact ⟨0, 3, fun w => add_no a b ha hb h w, fun w => add_no b a hb ha (by omega) w⟩
  obtain ⟨y, f, k3, k4⟩ : ∃ x e : Int, (∀ w, Calls Tryd.prog 15 #[.int .i64 a, .int .i64 b] w fun e' w' => e' = .returned (.tuple #[.int .i64 x, .int .i64 e]) ∧ w = w') ∧ ∀ w, Calls Tryd.prog 15 #[.int .i64 b, .int .i64 a] w fun e' w' => e' = .returned (.tuple #[.int .i64 x, .int .i64 e]) ∧ w = w' := by
    by_cases h : -9223372036854775808 ≤ a * b ∧ a * b ≤ 9223372036854775807
    · exact ⟨a * b, 0, fun w => mul_ok a b ha hb h w, fun w => by rw [Int.mul_comm a b] at h ⊢; exact mul_ok b a hb ha h w⟩
    · exact ⟨0, 3, fun w => mul_no a b ha hb h w, fun w => by rw [Int.mul_comm a b] at h; exact mul_no b a hb ha h w⟩
  have k5 : ∀ w, Calls Tryd.prog 15 #[.int .i64 a, .int .i64 0] w fun e' w' => e' = .returned (.tuple #[.int .i64 0, .int .i64 0]) ∧ w = w' := fun w => by
    have := mul_ok a 0 ha (by omega) (by rw [Int.mul_zero]; omega) w
    rw [Int.mul_zero] at this; exact this
  have k6 : ∀ w, Calls Tryd.prog 15 #[.int .i64 1, .int .i64 a] w fun e' w' => e' = .returned (.tuple #[.int .i64 a, .int .i64 0]) ∧ w = w' := fun w => by
    have := mul_ok 1 a (by omega) ha (by rw [Int.one_mul]; exact ha) w
    rw [Int.one_mul] at this; exact this
  obtain ⟨z, g, k7, k8⟩ : ∃ x e : Int, (∀ w, Calls Tryd.prog 15 #[.int .i64 a, .int .i64 (-1)] w fun e' w' => e' = .returned (.tuple #[.int .i64 x, .int .i64 e]) ∧ w = w') ∧ ∀ w, Calls Tryd.prog 11 #[.int .i64 a] w fun e' w' => e' = .returned (.tuple #[.int .i64 x, .int .i64 e]) ∧ w = w' := by
    have e : a * -1 = -a := by omega
    by_cases h : -9223372036854775808 ≤ -a ∧ -a ≤ 9223372036854775807
    · exact ⟨-a, 0, fun w => by have := mul_ok a (-1) ha (by omega) (by rw [e]; exact h) w; rw [e] at this; exact this, fun w => neg_ok a (by omega) w⟩
    · refine ⟨0, 3, fun w => mul_no a (-1) ha (by omega) (by rw [e]; exact h) w, fun w => ?_⟩
      obtain rfl : a = -9223372036854775808 := by omega
      exact neg_no w
  have KA := Lib.hid (awake_any w hG)
  have K1 := Lib.hid k1
  have K2 := Lib.hid k2
  have K3 := Lib.hid k3
  have K4 := Lib.hid k4
  have K5 := Lib.hid k5
  have K6 := Lib.hid k6
  have K7 := Lib.hid k7
  have K8 := Lib.hid k8
  clear k1 k2 k3 k4 k5 k6 k7 k8 hG ha hb
  go_enter Tryd.func7, Tryd.ntmps7
  go_wp2_with (first | (go_at_call 8; ((with_reducible refine KA.out.mono ?_)); rintro e' w1 ⟨rfl, hb1⟩) | (go_at_call 9; ((with_reducible refine (K1.out _).mono ?_)); rintro e' w' ⟨rfl, rfl⟩) | (go_at_call 9; ((with_reducible refine (K2.out _).mono ?_)); rintro e' w' ⟨rfl, rfl⟩) | (go_at_call 15; ((with_reducible refine (K3.out _).mono ?_)); rintro e' w' ⟨rfl, rfl⟩) | (go_at_call 15; ((with_reducible refine (K4.out _).mono ?_)); rintro e' w' ⟨rfl, rfl⟩) | (go_at_call 15; ((with_reducible refine (K5.out _).mono ?_)); rintro e' w' ⟨rfl, rfl⟩) | (go_at_call 15; ((with_reducible refine (K6.out _).mono ?_)); rintro e' w' ⟨rfl, rfl⟩) | (go_at_call 15; ((with_reducible refine (K7.out _).mono ?_)); rintro e' w' ⟨rfl, rfl⟩) | (go_at_call 11; ((with_reducible refine (K8.out _).mono ?_)); rintro e' w' ⟨rfl, rfl⟩))
  go_ret
  exact ⟨rfl, hb1⟩
end Go.Proofs.YtglbhbnbbpljnaaDoor
