/- Contracts of num.Div and num.Mod and of the document's own quotients, by the plain quotient and rest, for all numbers of 64 bits. -/
import Derived.Test.YtglbhbnbbpljnaaDoorDivs
import Derived.Test.YtglbhbnbbpljnaaDoorRefs
namespace Go.Proofs.YtglbhbnbbpljnaaDoor
open Go Go.RowKit
set_option linter.unusedVariables false
theorem qN_bd (a b : Int) (hb : ¬ b = 0) (ha : -9223372036854775808 ≤ a ∧ a ≤ 9223372036854775807) : 0 ≤ qN a b ∧ qN a b ≤ 9223372036854775808 ∧ (qN a b = 9223372036854775808 → a = -9223372036854775808 ∧ (b = 1 ∨ b = -1)) := by
  obtain ⟨h1, h2, h3, h4, h5⟩ := parts a b hb
  refine ⟨h1, by omega, fun h => ?_⟩
  by_cases h6 : 2 ≤ b.natAbs
  · have := half_q a b h6; omega
  · omega
theorem div_ok (a b : Int) (hb0 : ¬ b = 0) (hne : ¬ (a = -9223372036854775808 ∧ b = -1)) (ha : -9223372036854775808 ≤ a ∧ a ≤ 9223372036854775807) (hb : -9223372036854775808 ≤ b ∧ b ≤ 9223372036854775807) (w : World) :
    Calls Tryd.prog 16 #[.int .i64 a, .int .i64 b] w fun e w' => e = .returned (.tuple #[.int .i64 (qF a b), .int .i64 0]) ∧ w = w' := by
  by_cases h1 : b = -1
  · subst h1
    have e : qF a (-1) = -a := by
      have h := rule a (-1) (by omega)
      have h2 := rest_bd a (-1) (by omega)
      omega
    rw [e]; exact div_minus a (by omega) w
  · obtain ⟨h1, h2, h3, h4, h5⟩ := parts a b hb0
    obtain ⟨c1, c2, c3⟩ := qN_bd a b hb0 ha
    by_cases hd : (a < 0 ∧ 0 ≤ b ∨ 0 ≤ a ∧ b < 0) ∧ ¬ rN a b = 0
    · obtain ⟨hd, hr⟩ := hd
      have e1 : a.tdiv b = - qN a b := by rw [tdiv_form, if_pos hd]
      have e2 : qF a b = a.tdiv b - 1 := by unfold qF; rw [if_pos hd, if_neg hr, e1]
      have e3 := tmod_form a b
      have c4 : 2 ≤ b.natAbs := by
        by_cases c4 : 2 ≤ b.natAbs
        · exact c4
        · omega
      have c5 := half_q a b c4
      rw [e2]
      refine div_down a b (by simpa using hb0) (by simpa using ‹¬ b = -1›) ?_ ?_ ?_ w
      · rw [e1, IntWalk.wrap64_in (- qN a b) (by omega), IntWalk.wrap64_in (- qN a b - 1) (by omega)]
      · have : ¬ a.tmod b = 0 := by rw [e3]; split <;> omega
        simpa using this
      · rw [e3]; split <;> omega
    · have e1 : qF a b = a.tdiv b := by
        rw [tdiv_form]; unfold qF
        by_cases hd' : (a < 0 ∧ 0 ≤ b ∨ 0 ≤ a ∧ b < 0)
        · rw [if_pos hd', if_pos hd', if_pos (by omega)]
        · rw [if_neg hd', if_neg hd']
      have e3 := tmod_form a b
      rw [e1]
      refine div_any a b (by simpa using hb0) (by simpa using ‹¬ b = -1›) ?_ ?_ w
      · apply IntWalk.wrap64_in; rw [tdiv_form]; split <;> omega
      · rw [e3]; split <;> omega
theorem mod_ok (a b : Int) (hb0 : ¬ b = 0) (ha : -9223372036854775808 ≤ a ∧ a ≤ 9223372036854775807) (hb : -9223372036854775808 ≤ b ∧ b ≤ 9223372036854775807) (w : World) :
    Calls Tryd.prog 17 #[.int .i64 a, .int .i64 b] w fun e w' => e = .returned (.tuple #[.int .i64 (rF a b), .int .i64 0]) ∧ w = w' := by
  obtain ⟨h1, h2, h3, h4, h5⟩ := parts a b hb0
  have e3 := tmod_form a b
  by_cases hd : (a < 0 ∧ 0 ≤ b ∨ 0 ≤ a ∧ b < 0) ∧ ¬ rN a b = 0
  · obtain ⟨hd, hr⟩ := hd
    have e2 : rF a b = a.tmod b + b := by unfold rF; rw [if_pos hd, if_neg hr, e3]; split <;> split <;> omega
    rw [e2]
    refine mod_down a b (by simpa using hb0) ?_ ?_ ?_ w
    · apply IntWalk.wrap64_in; rw [e3]; split <;> omega
    · have : ¬ a.tmod b = 0 := by rw [e3]; split <;> omega
      simpa using this
    · rw [e3]; split <;> omega
  · have e1 : rF a b = a.tmod b := by
      rw [e3]; unfold rF
      by_cases hd' : (a < 0 ∧ 0 ≤ b ∨ 0 ≤ a ∧ b < 0)
      · rw [if_pos hd', if_pos (by omega)]; split <;> omega
      · rw [if_neg hd']; split <;> split <;> omega
    rw [e1]
    refine mod_any a b (by simpa using hb0) ?_ w
    rw [e3]; split <;> omega

/-! The document's own quotients. -/
theorem rdiv_zero (a : Int) (w : World) :
    Calls Tryd.prog 19 #[.int .i64 a, .int .i64 0] w fun e w' => e = .returned (.tuple #[.int .i64 0, .int .i64 0, .int .i64 4]) ∧ w = w' := by
  go_enter Tryd.func19, Tryd.ntmps19
  go_wp2
  go_ret3
  exact ⟨rfl, rfl⟩
theorem rdiv_same (a b x y q r : Int) (s sa sb : Bool) (n left : Int) (hb0 : ¬ b = 0) (hsa : decide (a < 0) = sa) (hs' : (!sa == sb) = false) (hsb : decide (b < 0) = sb) (hss : s = false)
    (hx : x = if a < 0 then -a else a) (hy : y = if b < 0 then -b else b) (ha : -9223372036854775808 ≤ a ∧ a ≤ 9223372036854775807) (hb : -9223372036854775808 ≤ b ∧ b ≤ 9223372036854775807)
    (hq : x / y = q) (hr : x % y = r) (q0 : 0 ≤ q) (q1 : q ≤ 9223372036854775808) (r0 : 0 ≤ r) (r1 : r < y) 
    (hn : n = if s = true then -(q) else q) (hnr : -9223372036854775808 ≤ n ∧ n ≤ 9223372036854775807)
    (hl : left = if sb = true then -(r) else r) (hlr : -9223372036854775808 ≤ left ∧ left ≤ 9223372036854775807) (w : World) :
    Calls Tryd.prog 19 #[.int .i64 a, .int .i64 b] w fun e w' => e = .returned (.tuple #[.int .i64 n, .int .i64 left, .int .i64 0]) ∧ w = w' := by
  have k1 : ∀ w, Calls Tryd.prog 24 #[.int .i64 a] w fun e w' => e = .returned (.int .u64 x) ∧ w = w' := fun w => by rw [hx]; exact mag_any a ha w
  have k2 : ∀ w, Calls Tryd.prog 24 #[.int .i64 b] w fun e w' => e = .returned (.int .u64 y) ∧ w = w' := fun w => by rw [hy]; exact mag_any b hb w
  have x0 : 0 ≤ x := by rw [hx]; split <;> omega
  have y0 : 1 ≤ y := by omega
  have x2 : x ≤ 9223372036854775808 := by rw [hx]; split <;> omega
  have y2 : y ≤ 9223372036854775808 := by rw [hy]; split <;> omega
  have hbz : (b == 0) = false := by simpa using hb0
  have m0 : 0 ≤ q := by omega
  have m1 : 0 ≤ r := by omega
  have kn : ∀ w, Calls Tryd.prog 25 #[.bool false, .int .u64 (q)] w fun e w' => e = .returned (.tuple #[.int .i64 n, .int .i64 0]) ∧ w = w' := fun w => by rw [← hss]; exact of_ok s (q) n m0 hn hnr w
  have kl : ∀ w, Calls Tryd.prog 25 #[.bool sb, .int .u64 (r)] w fun e w' => e = .returned (.tuple #[.int .i64 left, .int .i64 0]) ∧ w = w' := fun w => of_ok sb (r) left m1 hl hlr w
  have K1 := Lib.hid k1
  have K2 := Lib.hid k2
  have KN := Lib.hid kn
  have KL := Lib.hid kl
  clear hx hy k1 k2 kn kl ha hb hn hnr hl hlr hss
  go_enter Tryd.func19, Tryd.ntmps19
  go_wp2_with (first | (go_at_call 24; ((with_reducible refine (K1.out _).mono ?_)); rintro e w' ⟨rfl, rfl⟩) | (go_at_call 24; ((with_reducible refine (K2.out _).mono ?_)); rintro e w' ⟨rfl, rfl⟩) | (go_at_call 25; ((with_reducible refine (KL.out _).mono ?_)); rintro e w' ⟨rfl, rfl⟩) | (go_at_call 25; ((with_reducible refine (KN.out _).mono ?_)); rintro e w' ⟨rfl, rfl⟩))
  go_ret3
  exact ⟨rfl, rfl⟩
theorem rdiv_same_no (a b x y q r : Int) (s sa sb : Bool) (n left : Int) (hb0 : ¬ b = 0) (hsa : decide (a < 0) = sa) (hs' : (!sa == sb) = false) (hsb : decide (b < 0) = sb) (hss : s = false)
    (hx : x = if a < 0 then -a else a) (hy : y = if b < 0 then -b else b) (ha : -9223372036854775808 ≤ a ∧ a ≤ 9223372036854775807) (hb : -9223372036854775808 ≤ b ∧ b ≤ 9223372036854775807)
    (hq : x / y = q) (hr : x % y = r) (q0 : 0 ≤ q) (q1 : q ≤ 9223372036854775808) (r0 : 0 ≤ r) (r1 : r < y) 
    (hn : n = if s = true then -(q) else q) (hnr : ¬ (-9223372036854775808 ≤ n ∧ n ≤ 9223372036854775807))
    (hl : left = if sb = true then -(r) else r) (hlr : -9223372036854775808 ≤ left ∧ left ≤ 9223372036854775807) (w : World) :
    Calls Tryd.prog 19 #[.int .i64 a, .int .i64 b] w fun e w' => e = .returned (.tuple #[.int .i64 0, .int .i64 left, .int .i64 3]) ∧ w = w' := by
  have k1 : ∀ w, Calls Tryd.prog 24 #[.int .i64 a] w fun e w' => e = .returned (.int .u64 x) ∧ w = w' := fun w => by rw [hx]; exact mag_any a ha w
  have k2 : ∀ w, Calls Tryd.prog 24 #[.int .i64 b] w fun e w' => e = .returned (.int .u64 y) ∧ w = w' := fun w => by rw [hy]; exact mag_any b hb w
  have x0 : 0 ≤ x := by rw [hx]; split <;> omega
  have y0 : 1 ≤ y := by omega
  have x2 : x ≤ 9223372036854775808 := by rw [hx]; split <;> omega
  have y2 : y ≤ 9223372036854775808 := by rw [hy]; split <;> omega
  have hbz : (b == 0) = false := by simpa using hb0
  have m0 : 0 ≤ q := by omega
  have m1 : 0 ≤ r := by omega
  have kn : ∀ w, Calls Tryd.prog 25 #[.bool false, .int .u64 (q)] w fun e w' => e = .returned (.tuple #[.int .i64 0, .int .i64 3]) ∧ w = w' := fun w => by rw [← hss]; exact of_no s (q) n m0 hn hnr w
  have kl : ∀ w, Calls Tryd.prog 25 #[.bool sb, .int .u64 (r)] w fun e w' => e = .returned (.tuple #[.int .i64 left, .int .i64 0]) ∧ w = w' := fun w => of_ok sb (r) left m1 hl hlr w
  have K1 := Lib.hid k1
  have K2 := Lib.hid k2
  have KN := Lib.hid kn
  have KL := Lib.hid kl
  clear hx hy k1 k2 kn kl ha hb hn hnr hl hlr hss
  go_enter Tryd.func19, Tryd.ntmps19
  go_wp2_with (first | (go_at_call 24; ((with_reducible refine (K1.out _).mono ?_)); rintro e w' ⟨rfl, rfl⟩) | (go_at_call 24; ((with_reducible refine (K2.out _).mono ?_)); rintro e w' ⟨rfl, rfl⟩) | (go_at_call 25; ((with_reducible refine (KL.out _).mono ?_)); rintro e w' ⟨rfl, rfl⟩) | (go_at_call 25; ((with_reducible refine (KN.out _).mono ?_)); rintro e w' ⟨rfl, rfl⟩))
  go_ret3
  exact ⟨rfl, rfl⟩
theorem rdiv_even (a b x y q r : Int) (s sa sb : Bool) (n left : Int) (hb0 : ¬ b = 0) (hsa : decide (a < 0) = sa) (hs' : (!sa == sb) = true) (hsb : decide (b < 0) = sb) (hss : s = true)
    (hx : x = if a < 0 then -a else a) (hy : y = if b < 0 then -b else b) (ha : -9223372036854775808 ≤ a ∧ a ≤ 9223372036854775807) (hb : -9223372036854775808 ≤ b ∧ b ≤ 9223372036854775807)
    (hq : x / y = q) (hr : x % y = r) (q0 : 0 ≤ q) (q1 : q ≤ 9223372036854775808) (r0 : 0 ≤ r) (r1 : r < y) (hr0 : ¬ 0 < r) 
    (hn : n = if s = true then -(q) else q) (hnr : -9223372036854775808 ≤ n ∧ n ≤ 9223372036854775807)
    (hl : left = if sb = true then -(r) else r) (hlr : -9223372036854775808 ≤ left ∧ left ≤ 9223372036854775807) (w : World) :
    Calls Tryd.prog 19 #[.int .i64 a, .int .i64 b] w fun e w' => e = .returned (.tuple #[.int .i64 n, .int .i64 left, .int .i64 0]) ∧ w = w' := by
  have k1 : ∀ w, Calls Tryd.prog 24 #[.int .i64 a] w fun e w' => e = .returned (.int .u64 x) ∧ w = w' := fun w => by rw [hx]; exact mag_any a ha w
  have k2 : ∀ w, Calls Tryd.prog 24 #[.int .i64 b] w fun e w' => e = .returned (.int .u64 y) ∧ w = w' := fun w => by rw [hy]; exact mag_any b hb w
  have x0 : 0 ≤ x := by rw [hx]; split <;> omega
  have y0 : 1 ≤ y := by omega
  have x2 : x ≤ 9223372036854775808 := by rw [hx]; split <;> omega
  have y2 : y ≤ 9223372036854775808 := by rw [hy]; split <;> omega
  have hbz : (b == 0) = false := by simpa using hb0
  have m0 : 0 ≤ q := by omega
  have m1 : 0 ≤ r := by omega
  have kn : ∀ w, Calls Tryd.prog 25 #[.bool true, .int .u64 (q)] w fun e w' => e = .returned (.tuple #[.int .i64 n, .int .i64 0]) ∧ w = w' := fun w => by rw [← hss]; exact of_ok s (q) n m0 hn hnr w
  have kl : ∀ w, Calls Tryd.prog 25 #[.bool sb, .int .u64 (r)] w fun e w' => e = .returned (.tuple #[.int .i64 left, .int .i64 0]) ∧ w = w' := fun w => of_ok sb (r) left m1 hl hlr w
  have K1 := Lib.hid k1
  have K2 := Lib.hid k2
  have KN := Lib.hid kn
  have KL := Lib.hid kl
  clear hx hy k1 k2 kn kl ha hb hn hnr hl hlr hss
  go_enter Tryd.func19, Tryd.ntmps19
  go_wp2_with (first | (go_at_call 24; ((with_reducible refine (K1.out _).mono ?_)); rintro e w' ⟨rfl, rfl⟩) | (go_at_call 24; ((with_reducible refine (K2.out _).mono ?_)); rintro e w' ⟨rfl, rfl⟩) | (go_at_call 25; ((with_reducible refine (KL.out _).mono ?_)); rintro e w' ⟨rfl, rfl⟩) | (go_at_call 25; ((with_reducible refine (KN.out _).mono ?_)); rintro e w' ⟨rfl, rfl⟩))
  go_ret3
  exact ⟨rfl, rfl⟩
theorem rdiv_down (a b x y q r : Int) (s sa sb : Bool) (n left : Int) (hb0 : ¬ b = 0) (hsa : decide (a < 0) = sa) (hs' : (!sa == sb) = true) (hsb : decide (b < 0) = sb) (hss : s = true)
    (hx : x = if a < 0 then -a else a) (hy : y = if b < 0 then -b else b) (ha : -9223372036854775808 ≤ a ∧ a ≤ 9223372036854775807) (hb : -9223372036854775808 ≤ b ∧ b ≤ 9223372036854775807)
    (hq : x / y = q) (hr : x % y = r) (q0 : 0 ≤ q) (q1 : q ≤ 9223372036854775808) (r0 : 0 ≤ r) (r1 : r < y) (hr0 : 0 < r) 
    (hn : n = if s = true then -(q + 1) else q + 1) (hnr : -9223372036854775808 ≤ n ∧ n ≤ 9223372036854775807)
    (hl : left = if sb = true then -(y - r) else y - r) (hlr : -9223372036854775808 ≤ left ∧ left ≤ 9223372036854775807) (w : World) :
    Calls Tryd.prog 19 #[.int .i64 a, .int .i64 b] w fun e w' => e = .returned (.tuple #[.int .i64 n, .int .i64 left, .int .i64 0]) ∧ w = w' := by
  have k1 : ∀ w, Calls Tryd.prog 24 #[.int .i64 a] w fun e w' => e = .returned (.int .u64 x) ∧ w = w' := fun w => by rw [hx]; exact mag_any a ha w
  have k2 : ∀ w, Calls Tryd.prog 24 #[.int .i64 b] w fun e w' => e = .returned (.int .u64 y) ∧ w = w' := fun w => by rw [hy]; exact mag_any b hb w
  have x0 : 0 ≤ x := by rw [hx]; split <;> omega
  have y0 : 1 ≤ y := by omega
  have x2 : x ≤ 9223372036854775808 := by rw [hx]; split <;> omega
  have y2 : y ≤ 9223372036854775808 := by rw [hy]; split <;> omega
  have hbz : (b == 0) = false := by simpa using hb0
  have m0 : 0 ≤ q + 1 := by omega
  have m1 : 0 ≤ y - r := by omega
  have kn : ∀ w, Calls Tryd.prog 25 #[.bool true, .int .u64 (q + 1)] w fun e w' => e = .returned (.tuple #[.int .i64 n, .int .i64 0]) ∧ w = w' := fun w => by rw [← hss]; exact of_ok s (q + 1) n m0 hn hnr w
  have kl : ∀ w, Calls Tryd.prog 25 #[.bool sb, .int .u64 (y - r)] w fun e w' => e = .returned (.tuple #[.int .i64 left, .int .i64 0]) ∧ w = w' := fun w => of_ok sb (y - r) left m1 hl hlr w
  have K1 := Lib.hid k1
  have K2 := Lib.hid k2
  have KN := Lib.hid kn
  have KL := Lib.hid kl
  clear hx hy k1 k2 kn kl ha hb hn hnr hl hlr hss
  go_enter Tryd.func19, Tryd.ntmps19
  go_wp2_with (first | (go_at_call 24; ((with_reducible refine (K1.out _).mono ?_)); rintro e w' ⟨rfl, rfl⟩) | (go_at_call 24; ((with_reducible refine (K2.out _).mono ?_)); rintro e w' ⟨rfl, rfl⟩) | (go_at_call 25; ((with_reducible refine (KL.out _).mono ?_)); rintro e w' ⟨rfl, rfl⟩) | (go_at_call 25; ((with_reducible refine (KN.out _).mono ?_)); rintro e w' ⟨rfl, rfl⟩))
  go_ret3
  exact ⟨rfl, rfl⟩
theorem abs_cast (a : Int) : (if a < 0 then -a else a) = (a.natAbs : Int) := by split <;> omega
theorem quo_is (a b x y : Int) (hx : x = if a < 0 then -a else a) (hy : y = if b < 0 then -b else b) : x / y = qN a b ∧ x % y = rN a b := by
  rw [hx, hy, abs_cast, abs_cast]
  exact ⟨rfl, rfl⟩
theorem rdiv_ok (a b : Int) (hb0 : ¬ b = 0) (hne : ¬ (a = -9223372036854775808 ∧ b = -1)) (ha : -9223372036854775808 ≤ a ∧ a ≤ 9223372036854775807) (hb : -9223372036854775808 ≤ b ∧ b ≤ 9223372036854775807) (w : World) :
    Calls Tryd.prog 19 #[.int .i64 a, .int .i64 b] w fun e w' => e = .returned (.tuple #[.int .i64 (qF a b), .int .i64 (rF a b), .int .i64 0]) ∧ w = w' := by
  obtain ⟨x, hx⟩ : ∃ x : Int, x = if a < 0 then -a else a := ⟨_, rfl⟩
  obtain ⟨y, hy⟩ : ∃ y : Int, y = if b < 0 then -b else b := ⟨_, rfl⟩
  obtain ⟨e1, e2⟩ := quo_is a b x y hx hy
  obtain ⟨h1, h2, h3, h4, h5⟩ := parts a b hb0
  obtain ⟨c1, c2, c3⟩ := qN_bd a b hb0 ha
  have hyn : rN a b < y := by rw [hy, abs_cast]; exact h4
  have yb : y = if b < 0 then -b else b := hy
  obtain ⟨sa, hsa⟩ : ∃ s : Bool, decide (a < 0) = s := ⟨_, rfl⟩
  obtain ⟨sb, hsb⟩ : ∃ s : Bool, decide (b < 0) = s := ⟨_, rfl⟩
  have ea : sa = true ↔ a < 0 := by rw [← hsa]; simp
  have eb : sb = true ↔ b < 0 := by rw [← hsb]; simp
  have hbd := rest_bd a b hb0
  have q3 : qN a b + 1 ≤ 9223372036854775808 ∨ rN a b = 0 ∨ ¬ (a < 0 ∧ 0 ≤ b ∨ 0 ≤ a ∧ b < 0) := by
    by_cases h6 : 2 ≤ b.natAbs
    · have := half_q a b h6; omega
    · omega
  by_cases hd : (a < 0 ∧ 0 ≤ b ∨ 0 ≤ a ∧ b < 0)
  · have ediff : (!sa == sb) = true := by
      cases sa <;> cases sb <;> simp at ea eb ⊢ <;> omega
    by_cases hr : rN a b = 0
    · refine rdiv_even a b x y (qN a b) (rN a b) true sa sb (qF a b) (rF a b) hb0 hsa ediff hsb rfl hx hy ha hb e1 e2 c1 c2 h3 hyn (by omega) ?_ ?_ ?_ ?_ w
      · unfold qF; rw [if_pos hd, if_pos hr, if_pos rfl]
      · unfold qF; rw [if_pos hd, if_pos hr]; omega
      · unfold rF; rw [if_pos hd, if_pos hr, hr]; split <;> rfl
      · unfold rF; rw [if_pos hd, if_pos hr]; omega
    · refine rdiv_down a b x y (qN a b) (rN a b) true sa sb (qF a b) (rF a b) hb0 hsa ediff hsb rfl hx hy ha hb e1 e2 c1 c2 h3 hyn (by omega) ?_ ?_ ?_ ?_ w
      · unfold qF; rw [if_pos hd, if_neg hr, if_pos rfl]; omega
      · unfold qF; rw [if_pos hd, if_neg hr]; omega
      · unfold rF; rw [if_pos hd, if_neg hr]
        by_cases hbn : b < 0
        · rw [if_pos hbn, if_pos (eb.2 hbn), yb, if_pos hbn]; omega
        · rw [if_neg hbn, if_neg (fun h => hbn (eb.1 h)), yb, if_neg hbn]
      · omega
  · have ediff : (!sa == sb) = false := by
      cases sa <;> cases sb <;> simp at ea eb ⊢ <;> omega
    have qb : qN a b ≤ 9223372036854775807 := by omega
    refine rdiv_same a b x y (qN a b) (rN a b) false sa sb (qF a b) (rF a b) hb0 hsa ediff hsb rfl hx hy ha hb e1 e2 c1 c2 h3 hyn ?_ ?_ ?_ ?_ w
    · unfold qF; rw [if_neg hd]; rfl
    · unfold qF; rw [if_neg hd]; omega
    · unfold rF; rw [if_neg hd]
      by_cases hbn : b < 0
      · rw [if_pos hbn, if_pos (eb.2 hbn)]
      · rw [if_neg hbn, if_neg (fun h => hbn (eb.1 h))]
    · omega
theorem rdiv_no (w : World) :
    Calls Tryd.prog 19 #[.int .i64 (-9223372036854775808), .int .i64 (-1)] w fun e w' => e = .returned (.tuple #[.int .i64 0, .int .i64 0, .int .i64 3]) ∧ w = w' :=
  rdiv_same_no (-9223372036854775808) (-1) 9223372036854775808 1 9223372036854775808 0 false true true 9223372036854775808 0 (by omega) rfl rfl rfl rfl rfl rfl (by omega) (by omega) rfl rfl (by omega) (by omega) (by omega) (by omega) rfl (by omega) rfl (by omega) w
end Go.Proofs.YtglbhbnbbpljnaaDoor
