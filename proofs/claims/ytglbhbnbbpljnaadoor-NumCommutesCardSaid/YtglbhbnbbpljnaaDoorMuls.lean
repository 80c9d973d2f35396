/- Contracts of num.Mul and of the document's own products, for all numbers of 64 bits. -/
import Derived.Test.YtglbhbnbbpljnaaDoorRefs
import Derived.Test.YtglbhbnbbpljnaaDoorQuo
namespace Go.Proofs.YtglbhbnbbpljnaaDoor
open Go Go.RowKit
theorem mul_zero (b : Int) (w : World) :
    Calls Tryd.prog 15 #[.int .i64 0, .int .i64 b] w fun e w' => e = .returned (.tuple #[.int .i64 0, .int .i64 0]) ∧ w = w' := by
  go_enter Tryd.func15, Tryd.ntmps15
  go_wp2
  go_ret2
  exact ⟨rfl, rfl⟩
theorem mul_minus (b : Int) (hb : -9223372036854775807 ≤ b ∧ b ≤ 9223372036854775807) (w : World) :
    Calls Tryd.prog 15 #[.int .i64 (-1), .int .i64 b] w fun e w' => e = .returned (.tuple #[.int .i64 (-b), .int .i64 0]) ∧ w = w' := by
  go_enter Tryd.func15, Tryd.ntmps15
  go_wp2_with (go_at_call 11; ((with_reducible refine (neg_ok _ hb _).mono ?_)); rintro e w' ⟨rfl, rfl⟩)
  go_ret2
  exact ⟨rfl, rfl⟩
theorem mul_least (w : World) :
    Calls Tryd.prog 15 #[.int .i64 (-1), .int .i64 (-9223372036854775808)] w fun e w' => e = .returned (.tuple #[.int .i64 0, .int .i64 3]) ∧ w = w' := by
  go_enter Tryd.func15, Tryd.ntmps15
  go_wp2_with (go_at_call 11; ((with_reducible refine (neg_no _).mono ?_)); rintro e w' ⟨rfl, rfl⟩)
  go_ret2
  exact ⟨rfl, rfl⟩
theorem mul_fits (a b p : Int) (h0 : (a == 0) = false) (h1 : (a == -1) = false) (hp : wrap64 (a * b) = p) (ht : (wrap64 (p.tdiv a) != b) = false) (w : World) :
    Calls Tryd.prog 15 #[.int .i64 a, .int .i64 b] w fun e w' => e = .returned (.tuple #[.int .i64 p, .int .i64 0]) ∧ w = w' := by
  have h2 : ¬ a = 0 := by simpa using h0
  go_enter Tryd.func15, Tryd.ntmps15
  go_wp2
  go_ret2
  exact ⟨by first | rfl | exact ret_two hp rfl, rfl⟩
theorem mul_over (a b p : Int) (h0 : (a == 0) = false) (h1 : (a == -1) = false) (hp : wrap64 (a * b) = p) (ht : (wrap64 (p.tdiv a) != b) = true) (w : World) :
    Calls Tryd.prog 15 #[.int .i64 a, .int .i64 b] w fun e w' => e = .returned (.tuple #[.int .i64 0, .int .i64 3]) ∧ w = w' := by
  have h2 : ¬ a = 0 := by simpa using h0
  go_enter Tryd.func15, Tryd.ntmps15
  go_wp2
  go_ret2
  exact ⟨rfl, rfl⟩
theorem tdiv_bd (p a : Int) (h0 : ¬ a = 0) (h1 : ¬ a = -1) (hp : -9223372036854775808 ≤ p ∧ p ≤ 9223372036854775807) : wrap64 (p.tdiv a) = p.tdiv a := by
  apply IntWalk.wrap64_in
  rw [tdiv_form]
  obtain ⟨q1, q2, _, _, _⟩ := parts p a h0
  by_cases h : 2 ≤ a.natAbs
  · have := half_q p a h; split <;> omega
  · obtain rfl : a = 1 := by omega
    split <;> omega
theorem prod_test (a b : Int) (h0 : ¬ a = 0) (h1 : ¬ a = -1) (ha : -9223372036854775808 ≤ a ∧ a ≤ 9223372036854775807) :
    (wrap64 ((wrap64 (a * b)).tdiv a) = b ↔ -9223372036854775808 ≤ a * b ∧ a * b ≤ 9223372036854775807) := by
  rw [tdiv_bd _ a h0 h1 (wrap64_bd _)]
  constructor
  · intro h
    have e := Int.mul_tdiv_add_tmod (wrap64 (a * b)) a
    rw [h, tmod_form] at e
    obtain ⟨_, _, r1, r2, _⟩ := parts (wrap64 (a * b)) a h0
    have hb := wrap64_bd (a * b)
    have hw : wrap64 (a * b) = (a * b + 9223372036854775808) % 18446744073709551616 - 9223372036854775808 := by simp only [wrap64]
    generalize a * b = n at *
    generalize rN (wrap64 n) a = r at *
    split at e <;> omega
  · intro h
    rw [IntWalk.wrap64_in _ h]
    exact Int.mul_tdiv_cancel_left b h0
theorem mul_ok (a b : Int) (ha : -9223372036854775808 ≤ a ∧ a ≤ 9223372036854775807) (hb : -9223372036854775808 ≤ b ∧ b ≤ 9223372036854775807)
    (h : -9223372036854775808 ≤ a * b ∧ a * b ≤ 9223372036854775807) (w : World) :
    Calls Tryd.prog 15 #[.int .i64 a, .int .i64 b] w fun e w' => e = .returned (.tuple #[.int .i64 (a * b), .int .i64 0]) ∧ w = w' := by
  by_cases h0 : a = 0
  · subst h0; rw [Int.zero_mul]; exact mul_zero b w
  · by_cases h1 : a = -1
    · subst h1
      rw [show -1 * b = -b by omega]
      exact mul_minus b (by omega) w
    · refine mul_fits a b (a * b) (by simpa using h0) (by simpa using h1) (IntWalk.wrap64_in _ h) ?_ w
      have := (prod_test a b h0 h1 ha).2 h
      rw [IntWalk.wrap64_in _ h] at this
      simp [this]
theorem mul_no (a b : Int) (ha : -9223372036854775808 ≤ a ∧ a ≤ 9223372036854775807) (hb : -9223372036854775808 ≤ b ∧ b ≤ 9223372036854775807)
    (h : ¬ (-9223372036854775808 ≤ a * b ∧ a * b ≤ 9223372036854775807)) (w : World) :
    Calls Tryd.prog 15 #[.int .i64 a, .int .i64 b] w fun e w' => e = .returned (.tuple #[.int .i64 0, .int .i64 3]) ∧ w = w' := by
  by_cases h0 : a = 0
  · subst h0; omega
  · by_cases h1 : a = -1
    · subst h1
      obtain rfl : b = -9223372036854775808 := by omega
      exact mul_least w
    · refine mul_over a b _ (by simpa using h0) (by simpa using h1) rfl ?_ w
      have := mt (prod_test a b h0 h1 ha).1 h
      simpa using this

/-! The document's own products. -/
/-- What the product of two sizes comes to, in halves of 32 bits. -/
structure Halves (x y H L : Int) : Prop where
  h : H = x / 4294967296 * y
  l : L = x % 4294967296 * y
  h0 : 0 ≤ H
  h1 : H ≤ 9223372036854775808
  l0 : 0 ≤ L
  l1 : L ≤ 18446744073709551615
  all : x * y = H * 4294967296 + L
  low : H = 2147483648 → L < 9223372036854775808
theorem halves (x y : Int) (x0 : 0 ≤ x) (x1 : x ≤ 9223372036854775808) (y0 : 0 ≤ y) (y1 : y < 4294967296) : Halves x y (x / 4294967296 * y) (x % 4294967296 * y) := by
  have a1 : 0 ≤ x / 4294967296 := by omega
  have a2 : x / 4294967296 ≤ 2147483648 := by omega
  have b1 : 0 ≤ x % 4294967296 := by omega
  have b2 : x % 4294967296 ≤ 4294967295 := by omega
  have e : x = x / 4294967296 * 4294967296 + x % 4294967296 := by omega
  have m1 : x / 4294967296 * y ≤ 2147483648 * 4294967296 := Int.mul_le_mul a2 (by omega) y0 (by omega)
  have m2 : x % 4294967296 * y ≤ 4294967295 * 4294967295 := Int.mul_le_mul b2 (by omega) y0 (by omega)
  refine ⟨rfl, rfl, Int.mul_nonneg a1 y0, by omega, Int.mul_nonneg b1 y0, by omega, ?_, ?_⟩
  · have := congrArg (· * y) e
    simp only [Int.add_mul] at this
    rw [this, Int.mul_assoc, Int.mul_assoc, Int.mul_comm 4294967296 y]
  · intro h
    have c : 1 ≤ x / 4294967296 := by
      by_cases z : x / 4294967296 = 0
      · rw [z] at h; omega
      · omega
    have y3 : 1 * y ≤ x / 4294967296 * y := Int.mul_le_mul_of_nonneg_right c y0
    have m3 : x % 4294967296 * y ≤ 4294967295 * 2147483648 := Int.mul_le_mul b2 (by omega) y0 (by omega)
    omega
theorem sign_mul (a b x y : Int) (s : Bool) (hs : (decide (a < 0) != decide (b < 0)) = s) (hx : x = if a < 0 then -a else a) (hy : y = if b < 0 then -b else b) : a * b = if s = true then -(x * y) else x * y := by
  subst hx hy hs
  by_cases h1 : a < 0 <;> by_cases h2 : b < 0 <;> simp [h1, h2, Int.neg_mul, Int.mul_neg]
theorem rmul_both (a b x y : Int) (hx : x = if a < 0 then -a else a) (hy : y = if b < 0 then -b else b) (ha : -9223372036854775808 ≤ a ∧ a ≤ 9223372036854775807) (hb : -9223372036854775808 ≤ b ∧ b ≤ 9223372036854775807)
    (h1 : 4294967296 ≤ x) (h2 : 4294967296 ≤ y) (w : World) :
    Calls Tryd.prog 18 #[.int .i64 a, .int .i64 b] w fun e w' => e = .returned (.tuple #[.int .i64 0, .int .i64 3]) ∧ w = w' := by
  have k1 : ∀ w, Calls Tryd.prog 24 #[.int .i64 a] w fun e w' => e = .returned (.int .u64 x) ∧ w = w' := fun w => by rw [hx]; exact mag_any a ha w
  have k2 : ∀ w, Calls Tryd.prog 24 #[.int .i64 b] w fun e w' => e = .returned (.int .u64 y) ∧ w = w' := fun w => by rw [hy]; exact mag_any b hb w
  have x2 : x ≤ 9223372036854775808 := by rw [hx]; split <;> omega
  have y2 : y ≤ 9223372036854775808 := by rw [hy]; split <;> omega
  have t1 : 0 < x / 4294967296 := by omega
  have t2 : 0 < y / 4294967296 := by omega
  have K1 := Lib.hid k1
  have K2 := Lib.hid k2
  clear hx hy k1 k2 ha hb
  go_enter Tryd.func18, Tryd.ntmps18
  go_wp2_with (first | (go_at_call 24; ((with_reducible refine (K1.out _).mono ?_)); rintro e w' ⟨rfl, rfl⟩) | (go_at_call 24; ((with_reducible refine (K2.out _).mono ?_)); rintro e w' ⟨rfl, rfl⟩))
  all_goals (go_ret2; exact ⟨rfl, rfl⟩)
theorem rmul_ge_high (a b x y H L : Int) (s : Bool) (hs : (decide (a < 0) != decide (b < 0)) = s) (hx : x = if a < 0 then -a else a) (hy : y = if b < 0 then -b else b) (ha : -9223372036854775808 ≤ a ∧ a ≤ 9223372036854775807) (hb : -9223372036854775808 ≤ b ∧ b ≤ 9223372036854775807)
    (hlt : ¬ x < y) (hH : Halves x y H L) (hy1 : y < 4294967296)
    (hc : 2147483649 ≤ H) (w : World) :
    Calls Tryd.prog 18 #[.int .i64 a, .int .i64 b] w fun e w' => e = .returned (.tuple #[.int .i64 0, .int .i64 3]) ∧ w = w' := by
  have k1 : ∀ w, Calls Tryd.prog 24 #[.int .i64 a] w fun e w' => e = .returned (.int .u64 x) ∧ w = w' := fun w => by rw [hx]; exact mag_any a ha w
  have k2 : ∀ w, Calls Tryd.prog 24 #[.int .i64 b] w fun e w' => e = .returned (.int .u64 y) ∧ w = w' := fun w => by rw [hy]; exact mag_any b hb w
  have x0 : 0 ≤ x := by rw [hx]; split <;> omega
  have y0 : 0 ≤ y := by rw [hy]; split <;> omega
  have x2 : x ≤ 9223372036854775808 := by rw [hx]; split <;> omega
  have y2 : y ≤ 9223372036854775808 := by rw [hy]; split <;> omega
  obtain ⟨eh, el, q0, q1, q2, q3, _, _⟩ := hH
  have t0 : y / 4294967296 = 0 := by omega
  have hs' : (!decide (a < 0) == decide (b < 0)) = s := by rw [← hs]; rfl
  have K1 := Lib.hid k1
  have K2 := Lib.hid k2
  have EH := eh.symm
  have EL := el.symm
  clear hx hy k1 k2 ha hb eh el hs
  go_enter Tryd.func18, Tryd.ntmps18
  go_wp2_with (first | (go_at_call 24; ((with_reducible refine (K1.out _).mono ?_)); rintro e w' ⟨rfl, rfl⟩) | (go_at_call 24; ((with_reducible refine (K2.out _).mono ?_)); rintro e w' ⟨rfl, rfl⟩))
  all_goals (go_ret2; exact ⟨rfl, rfl⟩)
theorem rmul_ge_mid (a b x y H L : Int) (s : Bool) (hs : (decide (a < 0) != decide (b < 0)) = s) (hx : x = if a < 0 then -a else a) (hy : y = if b < 0 then -b else b) (ha : -9223372036854775808 ≤ a ∧ a ≤ 9223372036854775807) (hb : -9223372036854775808 ≤ b ∧ b ≤ 9223372036854775807)
    (hlt : ¬ x < y) (hH : Halves x y H L) (hy1 : y < 4294967296)
    (hc : H < 2147483649) (hd : 9223372036854775808 < L) (w : World) :
    Calls Tryd.prog 18 #[.int .i64 a, .int .i64 b] w fun e w' => e = .returned (.tuple #[.int .i64 0, .int .i64 3]) ∧ w = w' := by
  have k1 : ∀ w, Calls Tryd.prog 24 #[.int .i64 a] w fun e w' => e = .returned (.int .u64 x) ∧ w = w' := fun w => by rw [hx]; exact mag_any a ha w
  have k2 : ∀ w, Calls Tryd.prog 24 #[.int .i64 b] w fun e w' => e = .returned (.int .u64 y) ∧ w = w' := fun w => by rw [hy]; exact mag_any b hb w
  have x0 : 0 ≤ x := by rw [hx]; split <;> omega
  have y0 : 0 ≤ y := by rw [hy]; split <;> omega
  have x2 : x ≤ 9223372036854775808 := by rw [hx]; split <;> omega
  have y2 : y ≤ 9223372036854775808 := by rw [hy]; split <;> omega
  obtain ⟨eh, el, q0, q1, q2, q3, _, _⟩ := hH
  have t0 : y / 4294967296 = 0 := by omega
  have hs' : (!decide (a < 0) == decide (b < 0)) = s := by rw [← hs]; rfl
  have K1 := Lib.hid k1
  have K2 := Lib.hid k2
  have EH := eh.symm
  have EL := el.symm
  clear hx hy k1 k2 ha hb eh el hs
  go_enter Tryd.func18, Tryd.ntmps18
  go_wp2_with (first | (go_at_call 24; ((with_reducible refine (K1.out _).mono ?_)); rintro e w' ⟨rfl, rfl⟩) | (go_at_call 24; ((with_reducible refine (K2.out _).mono ?_)); rintro e w' ⟨rfl, rfl⟩))
  all_goals (go_ret2; exact ⟨rfl, rfl⟩)
theorem rmul_ge_ok (a b x y H L : Int) (s : Bool) (hs : (decide (a < 0) != decide (b < 0)) = s) (n : Int) (hx : x = if a < 0 then -a else a) (hy : y = if b < 0 then -b else b) (ha : -9223372036854775808 ≤ a ∧ a ≤ 9223372036854775807) (hb : -9223372036854775808 ≤ b ∧ b ≤ 9223372036854775807)
    (hlt : ¬ x < y) (hH : Halves x y H L) (hy1 : y < 4294967296)
    (hc : H < 2147483649) (hd : L ≤ 9223372036854775808) (hf : H * 4294967296 + L ≤ 9223372036854775808) (hn : n = if s = true then -(H * 4294967296 + L) else H * 4294967296 + L) (hr : -9223372036854775808 ≤ n ∧ n ≤ 9223372036854775807) (w : World) :
    Calls Tryd.prog 18 #[.int .i64 a, .int .i64 b] w fun e w' => e = .returned (.tuple #[.int .i64 n, .int .i64 0]) ∧ w = w' := by
  have k1 : ∀ w, Calls Tryd.prog 24 #[.int .i64 a] w fun e w' => e = .returned (.int .u64 x) ∧ w = w' := fun w => by rw [hx]; exact mag_any a ha w
  have k2 : ∀ w, Calls Tryd.prog 24 #[.int .i64 b] w fun e w' => e = .returned (.int .u64 y) ∧ w = w' := fun w => by rw [hy]; exact mag_any b hb w
  have x0 : 0 ≤ x := by rw [hx]; split <;> omega
  have y0 : 0 ≤ y := by rw [hy]; split <;> omega
  have x2 : x ≤ 9223372036854775808 := by rw [hx]; split <;> omega
  have y2 : y ≤ 9223372036854775808 := by rw [hy]; split <;> omega
  obtain ⟨eh, el, q0, q1, q2, q3, _, _⟩ := hH
  have t0 : y / 4294967296 = 0 := by omega
  have hs' : (!decide (a < 0) == decide (b < 0)) = s := by rw [← hs]; rfl
  have m0 : 0 ≤ H * 4294967296 + L := by omega
  have HN := Lib.hid hn
  have HR := Lib.hid hr
  have K1 := Lib.hid k1
  have K2 := Lib.hid k2
  have EH := eh.symm
  have EL := el.symm
  clear hx hy k1 k2 ha hb eh el hs hn hr
  go_enter Tryd.func18, Tryd.ntmps18
  go_wp2_with (first | (go_at_call 24; ((with_reducible refine (K1.out _).mono ?_)); rintro e w' ⟨rfl, rfl⟩) | (go_at_call 24; ((with_reducible refine (K2.out _).mono ?_)); rintro e w' ⟨rfl, rfl⟩) | (go_at_call 25; ((with_reducible refine (of_ok _ _ n m0 HN.out HR.out _).mono ?_)); rintro e w' ⟨rfl, rfl⟩))
  all_goals (go_ret2; exact ⟨rfl, rfl⟩)
theorem rmul_ge_no (a b x y H L : Int) (s : Bool) (hs : (decide (a < 0) != decide (b < 0)) = s) (n : Int) (hx : x = if a < 0 then -a else a) (hy : y = if b < 0 then -b else b) (ha : -9223372036854775808 ≤ a ∧ a ≤ 9223372036854775807) (hb : -9223372036854775808 ≤ b ∧ b ≤ 9223372036854775807)
    (hlt : ¬ x < y) (hH : Halves x y H L) (hy1 : y < 4294967296)
    (hc : H < 2147483649) (hd : L ≤ 9223372036854775808) (hn : n = if s = true then -(H * 4294967296 + L) else H * 4294967296 + L) (hr : ¬ (-9223372036854775808 ≤ n ∧ n ≤ 9223372036854775807)) (w : World) :
    Calls Tryd.prog 18 #[.int .i64 a, .int .i64 b] w fun e w' => e = .returned (.tuple #[.int .i64 0, .int .i64 3]) ∧ w = w' := by
  have k1 : ∀ w, Calls Tryd.prog 24 #[.int .i64 a] w fun e w' => e = .returned (.int .u64 x) ∧ w = w' := fun w => by rw [hx]; exact mag_any a ha w
  have k2 : ∀ w, Calls Tryd.prog 24 #[.int .i64 b] w fun e w' => e = .returned (.int .u64 y) ∧ w = w' := fun w => by rw [hy]; exact mag_any b hb w
  have x0 : 0 ≤ x := by rw [hx]; split <;> omega
  have y0 : 0 ≤ y := by rw [hy]; split <;> omega
  have x2 : x ≤ 9223372036854775808 := by rw [hx]; split <;> omega
  have y2 : y ≤ 9223372036854775808 := by rw [hy]; split <;> omega
  obtain ⟨eh, el, q0, q1, q2, q3, _, _⟩ := hH
  have t0 : y / 4294967296 = 0 := by omega
  have hs' : (!decide (a < 0) == decide (b < 0)) = s := by rw [← hs]; rfl
  have m0 : 0 ≤ H * 4294967296 + L := by omega
  have HN := Lib.hid hn
  have HR := Lib.hid hr
  have K1 := Lib.hid k1
  have K2 := Lib.hid k2
  have EH := eh.symm
  have EL := el.symm
  clear hx hy k1 k2 ha hb eh el hs hn hr
  go_enter Tryd.func18, Tryd.ntmps18
  go_wp2_with (first | (go_at_call 24; ((with_reducible refine (K1.out _).mono ?_)); rintro e w' ⟨rfl, rfl⟩) | (go_at_call 24; ((with_reducible refine (K2.out _).mono ?_)); rintro e w' ⟨rfl, rfl⟩) | (go_at_call 25; ((with_reducible refine (of_no _ _ n m0 HN.out HR.out _).mono ?_)); rintro e w' ⟨rfl, rfl⟩))
  all_goals (go_ret2; exact ⟨rfl, rfl⟩)
theorem rmul_lt_high (a b x y H L : Int) (s : Bool) (hs : (decide (a < 0) != decide (b < 0)) = s) (hx : x = if a < 0 then -a else a) (hy : y = if b < 0 then -b else b) (ha : -9223372036854775808 ≤ a ∧ a ≤ 9223372036854775807) (hb : -9223372036854775808 ≤ b ∧ b ≤ 9223372036854775807)
    (hlt : x < y) (hH : Halves y x H L) (hy1 : x < 4294967296)
    (hc : 2147483649 ≤ H) (w : World) :
    Calls Tryd.prog 18 #[.int .i64 a, .int .i64 b] w fun e w' => e = .returned (.tuple #[.int .i64 0, .int .i64 3]) ∧ w = w' := by
  have k1 : ∀ w, Calls Tryd.prog 24 #[.int .i64 a] w fun e w' => e = .returned (.int .u64 x) ∧ w = w' := fun w => by rw [hx]; exact mag_any a ha w
  have k2 : ∀ w, Calls Tryd.prog 24 #[.int .i64 b] w fun e w' => e = .returned (.int .u64 y) ∧ w = w' := fun w => by rw [hy]; exact mag_any b hb w
  have x0 : 0 ≤ x := by rw [hx]; split <;> omega
  have y0 : 0 ≤ y := by rw [hy]; split <;> omega
  have x2 : x ≤ 9223372036854775808 := by rw [hx]; split <;> omega
  have y2 : y ≤ 9223372036854775808 := by rw [hy]; split <;> omega
  obtain ⟨eh, el, q0, q1, q2, q3, _, _⟩ := hH
  have t0 : x / 4294967296 = 0 := by omega
  have hs' : (!decide (a < 0) == decide (b < 0)) = s := by rw [← hs]; rfl
  have K1 := Lib.hid k1
  have K2 := Lib.hid k2
  have EH := eh.symm
  have EL := el.symm
  clear hx hy k1 k2 ha hb eh el hs
  go_enter Tryd.func18, Tryd.ntmps18
  go_wp2_with (first | (go_at_call 24; ((with_reducible refine (K1.out _).mono ?_)); rintro e w' ⟨rfl, rfl⟩) | (go_at_call 24; ((with_reducible refine (K2.out _).mono ?_)); rintro e w' ⟨rfl, rfl⟩))
  all_goals (go_ret2; exact ⟨rfl, rfl⟩)
theorem rmul_lt_mid (a b x y H L : Int) (s : Bool) (hs : (decide (a < 0) != decide (b < 0)) = s) (hx : x = if a < 0 then -a else a) (hy : y = if b < 0 then -b else b) (ha : -9223372036854775808 ≤ a ∧ a ≤ 9223372036854775807) (hb : -9223372036854775808 ≤ b ∧ b ≤ 9223372036854775807)
    (hlt : x < y) (hH : Halves y x H L) (hy1 : x < 4294967296)
    (hc : H < 2147483649) (hd : 9223372036854775808 < L) (w : World) :
    Calls Tryd.prog 18 #[.int .i64 a, .int .i64 b] w fun e w' => e = .returned (.tuple #[.int .i64 0, .int .i64 3]) ∧ w = w' := by
  have k1 : ∀ w, Calls Tryd.prog 24 #[.int .i64 a] w fun e w' => e = .returned (.int .u64 x) ∧ w = w' := fun w => by rw [hx]; exact mag_any a ha w
  have k2 : ∀ w, Calls Tryd.prog 24 #[.int .i64 b] w fun e w' => e = .returned (.int .u64 y) ∧ w = w' := fun w => by rw [hy]; exact mag_any b hb w
  have x0 : 0 ≤ x := by rw [hx]; split <;> omega
  have y0 : 0 ≤ y := by rw [hy]; split <;> omega
  have x2 : x ≤ 9223372036854775808 := by rw [hx]; split <;> omega
  have y2 : y ≤ 9223372036854775808 := by rw [hy]; split <;> omega
  obtain ⟨eh, el, q0, q1, q2, q3, _, _⟩ := hH
  have t0 : x / 4294967296 = 0 := by omega
  have hs' : (!decide (a < 0) == decide (b < 0)) = s := by rw [← hs]; rfl
  have K1 := Lib.hid k1
  have K2 := Lib.hid k2
  have EH := eh.symm
  have EL := el.symm
  clear hx hy k1 k2 ha hb eh el hs
  go_enter Tryd.func18, Tryd.ntmps18
  go_wp2_with (first | (go_at_call 24; ((with_reducible refine (K1.out _).mono ?_)); rintro e w' ⟨rfl, rfl⟩) | (go_at_call 24; ((with_reducible refine (K2.out _).mono ?_)); rintro e w' ⟨rfl, rfl⟩))
  all_goals (go_ret2; exact ⟨rfl, rfl⟩)
theorem rmul_lt_ok (a b x y H L : Int) (s : Bool) (hs : (decide (a < 0) != decide (b < 0)) = s) (n : Int) (hx : x = if a < 0 then -a else a) (hy : y = if b < 0 then -b else b) (ha : -9223372036854775808 ≤ a ∧ a ≤ 9223372036854775807) (hb : -9223372036854775808 ≤ b ∧ b ≤ 9223372036854775807)
    (hlt : x < y) (hH : Halves y x H L) (hy1 : x < 4294967296)
    (hc : H < 2147483649) (hd : L ≤ 9223372036854775808) (hf : H * 4294967296 + L ≤ 9223372036854775808) (hn : n = if s = true then -(H * 4294967296 + L) else H * 4294967296 + L) (hr : -9223372036854775808 ≤ n ∧ n ≤ 9223372036854775807) (w : World) :
    Calls Tryd.prog 18 #[.int .i64 a, .int .i64 b] w fun e w' => e = .returned (.tuple #[.int .i64 n, .int .i64 0]) ∧ w = w' := by
  have k1 : ∀ w, Calls Tryd.prog 24 #[.int .i64 a] w fun e w' => e = .returned (.int .u64 x) ∧ w = w' := fun w => by rw [hx]; exact mag_any a ha w
  have k2 : ∀ w, Calls Tryd.prog 24 #[.int .i64 b] w fun e w' => e = .returned (.int .u64 y) ∧ w = w' := fun w => by rw [hy]; exact mag_any b hb w
  have x0 : 0 ≤ x := by rw [hx]; split <;> omega
  have y0 : 0 ≤ y := by rw [hy]; split <;> omega
  have x2 : x ≤ 9223372036854775808 := by rw [hx]; split <;> omega
  have y2 : y ≤ 9223372036854775808 := by rw [hy]; split <;> omega
  obtain ⟨eh, el, q0, q1, q2, q3, _, _⟩ := hH
  have t0 : x / 4294967296 = 0 := by omega
  have hs' : (!decide (a < 0) == decide (b < 0)) = s := by rw [← hs]; rfl
  have m0 : 0 ≤ H * 4294967296 + L := by omega
  have HN := Lib.hid hn
  have HR := Lib.hid hr
  have K1 := Lib.hid k1
  have K2 := Lib.hid k2
  have EH := eh.symm
  have EL := el.symm
  clear hx hy k1 k2 ha hb eh el hs hn hr
  go_enter Tryd.func18, Tryd.ntmps18
  go_wp2_with (first | (go_at_call 24; ((with_reducible refine (K1.out _).mono ?_)); rintro e w' ⟨rfl, rfl⟩) | (go_at_call 24; ((with_reducible refine (K2.out _).mono ?_)); rintro e w' ⟨rfl, rfl⟩) | (go_at_call 25; ((with_reducible refine (of_ok _ _ n m0 HN.out HR.out _).mono ?_)); rintro e w' ⟨rfl, rfl⟩))
  all_goals (go_ret2; exact ⟨rfl, rfl⟩)
theorem rmul_lt_no (a b x y H L : Int) (s : Bool) (hs : (decide (a < 0) != decide (b < 0)) = s) (n : Int) (hx : x = if a < 0 then -a else a) (hy : y = if b < 0 then -b else b) (ha : -9223372036854775808 ≤ a ∧ a ≤ 9223372036854775807) (hb : -9223372036854775808 ≤ b ∧ b ≤ 9223372036854775807)
    (hlt : x < y) (hH : Halves y x H L) (hy1 : x < 4294967296)
    (hc : H < 2147483649) (hd : L ≤ 9223372036854775808) (hn : n = if s = true then -(H * 4294967296 + L) else H * 4294967296 + L) (hr : ¬ (-9223372036854775808 ≤ n ∧ n ≤ 9223372036854775807)) (w : World) :
    Calls Tryd.prog 18 #[.int .i64 a, .int .i64 b] w fun e w' => e = .returned (.tuple #[.int .i64 0, .int .i64 3]) ∧ w = w' := by
  have k1 : ∀ w, Calls Tryd.prog 24 #[.int .i64 a] w fun e w' => e = .returned (.int .u64 x) ∧ w = w' := fun w => by rw [hx]; exact mag_any a ha w
  have k2 : ∀ w, Calls Tryd.prog 24 #[.int .i64 b] w fun e w' => e = .returned (.int .u64 y) ∧ w = w' := fun w => by rw [hy]; exact mag_any b hb w
  have x0 : 0 ≤ x := by rw [hx]; split <;> omega
  have y0 : 0 ≤ y := by rw [hy]; split <;> omega
  have x2 : x ≤ 9223372036854775808 := by rw [hx]; split <;> omega
  have y2 : y ≤ 9223372036854775808 := by rw [hy]; split <;> omega
  obtain ⟨eh, el, q0, q1, q2, q3, _, _⟩ := hH
  have t0 : x / 4294967296 = 0 := by omega
  have hs' : (!decide (a < 0) == decide (b < 0)) = s := by rw [← hs]; rfl
  have m0 : 0 ≤ H * 4294967296 + L := by omega
  have HN := Lib.hid hn
  have HR := Lib.hid hr
  have K1 := Lib.hid k1
  have K2 := Lib.hid k2
  have EH := eh.symm
  have EL := el.symm
  clear hx hy k1 k2 ha hb eh el hs hn hr
  go_enter Tryd.func18, Tryd.ntmps18
  go_wp2_with (first | (go_at_call 24; ((with_reducible refine (K1.out _).mono ?_)); rintro e w' ⟨rfl, rfl⟩) | (go_at_call 24; ((with_reducible refine (K2.out _).mono ?_)); rintro e w' ⟨rfl, rfl⟩) | (go_at_call 25; ((with_reducible refine (of_no _ _ n m0 HN.out HR.out _).mono ?_)); rintro e w' ⟨rfl, rfl⟩))
  all_goals (go_ret2; exact ⟨rfl, rfl⟩)
theorem rmul_ok (a b : Int) (ha : -9223372036854775808 ≤ a ∧ a ≤ 9223372036854775807) (hb : -9223372036854775808 ≤ b ∧ b ≤ 9223372036854775807)
    (h : -9223372036854775808 ≤ a * b ∧ a * b ≤ 9223372036854775807) (w : World) :
    Calls Tryd.prog 18 #[.int .i64 a, .int .i64 b] w fun e w' => e = .returned (.tuple #[.int .i64 (a * b), .int .i64 0]) ∧ w = w' := by
  obtain ⟨x, hx⟩ : ∃ x : Int, x = if a < 0 then -a else a := ⟨_, rfl⟩
  obtain ⟨y, hy⟩ : ∃ y : Int, y = if b < 0 then -b else b := ⟨_, rfl⟩
  obtain ⟨s, hs⟩ : ∃ s : Bool, (decide (a < 0) != decide (b < 0)) = s := ⟨_, rfl⟩
  have hm := sign_mul a b x y s hs hx hy
  have x0 : 0 ≤ x := by rw [hx]; split <;> omega
  have y0 : 0 ≤ y := by rw [hy]; split <;> omega
  have x2 : x ≤ 9223372036854775808 := by rw [hx]; split <;> omega
  have y2 : y ≤ 9223372036854775808 := by rw [hy]; split <;> omega
  by_cases hbig : 4294967296 ≤ x ∧ 4294967296 ≤ y
  · have hp : 4294967296 * 4294967296 ≤ x * y := Int.mul_le_mul hbig.1 hbig.2 (by omega) x0
    exfalso; rw [hm] at h; split at h <;> omega
  by_cases hlt : x < y
  · have hH := halves y x y0 y2 x0 (by omega)
    have hall := hH.all
    have hlow := hH.low
    have q0 := hH.h0
    have q1 := hH.h1
    have q2 := hH.l0
    have q3 := hH.l1
    have hxy : x * y = y / 4294967296 * x * 4294967296 + y % 4294967296 * x := by rw [← hall]; exact Int.mul_comm _ _
    have hn := hm
    rw [hxy] at hn
    generalize y / 4294967296 * x = H at *
    generalize y % 4294967296 * x = L at *
    by_cases hc : 2147483649 ≤ H
    · exfalso; rw [hn] at h; split at h <;> omega
    · by_cases hd : 9223372036854775808 < L
      · exfalso; rw [hn] at h; split at h <;> omega
      · have hf : H * 4294967296 + L ≤ 9223372036854775808 := by rw [hn] at h; split at h <;> omega
        exact rmul_lt_ok a b x y H L s hs (a * b) hx hy ha hb hlt hH (by omega) (by omega) (by omega) hf hn h w
  · have hH := halves x y x0 x2 y0 (by omega)
    have hall := hH.all
    have hlow := hH.low
    have q0 := hH.h0
    have q1 := hH.h1
    have q2 := hH.l0
    have q3 := hH.l1
    have hxy : x * y = x / 4294967296 * y * 4294967296 + x % 4294967296 * y := by rw [← hall]
    have hn := hm
    rw [hxy] at hn
    generalize x / 4294967296 * y = H at *
    generalize x % 4294967296 * y = L at *
    by_cases hc : 2147483649 ≤ H
    · exfalso; rw [hn] at h; split at h <;> omega
    · by_cases hd : 9223372036854775808 < L
      · exfalso; rw [hn] at h; split at h <;> omega
      · have hf : H * 4294967296 + L ≤ 9223372036854775808 := by rw [hn] at h; split at h <;> omega
        exact rmul_ge_ok a b x y H L s hs (a * b) hx hy ha hb hlt hH (by omega) (by omega) (by omega) hf hn h w
theorem rmul_no (a b : Int) (ha : -9223372036854775808 ≤ a ∧ a ≤ 9223372036854775807) (hb : -9223372036854775808 ≤ b ∧ b ≤ 9223372036854775807)
    (h : ¬ (-9223372036854775808 ≤ a * b ∧ a * b ≤ 9223372036854775807)) (w : World) :
    Calls Tryd.prog 18 #[.int .i64 a, .int .i64 b] w fun e w' => e = .returned (.tuple #[.int .i64 0, .int .i64 3]) ∧ w = w' := by
  obtain ⟨x, hx⟩ : ∃ x : Int, x = if a < 0 then -a else a := ⟨_, rfl⟩
  obtain ⟨y, hy⟩ : ∃ y : Int, y = if b < 0 then -b else b := ⟨_, rfl⟩
  obtain ⟨s, hs⟩ : ∃ s : Bool, (decide (a < 0) != decide (b < 0)) = s := ⟨_, rfl⟩
  have hm := sign_mul a b x y s hs hx hy
  have x0 : 0 ≤ x := by rw [hx]; split <;> omega
  have y0 : 0 ≤ y := by rw [hy]; split <;> omega
  have x2 : x ≤ 9223372036854775808 := by rw [hx]; split <;> omega
  have y2 : y ≤ 9223372036854775808 := by rw [hy]; split <;> omega
  by_cases hbig : 4294967296 ≤ x ∧ 4294967296 ≤ y
  · have hp : 4294967296 * 4294967296 ≤ x * y := Int.mul_le_mul hbig.1 hbig.2 (by omega) x0
    exact rmul_both a b x y hx hy ha hb hbig.1 hbig.2 w
  by_cases hlt : x < y
  · have hH := halves y x y0 y2 x0 (by omega)
    have hall := hH.all
    have hlow := hH.low
    have q0 := hH.h0
    have q1 := hH.h1
    have q2 := hH.l0
    have q3 := hH.l1
    have hxy : x * y = y / 4294967296 * x * 4294967296 + y % 4294967296 * x := by rw [← hall]; exact Int.mul_comm _ _
    have hn := hm
    rw [hxy] at hn
    generalize y / 4294967296 * x = H at *
    generalize y % 4294967296 * x = L at *
    by_cases hc : 2147483649 ≤ H
    · exact rmul_lt_high a b x y H L s hs hx hy ha hb hlt hH (by omega) hc w
    · by_cases hd : 9223372036854775808 < L
      · exact rmul_lt_mid a b x y H L s hs hx hy ha hb hlt hH (by omega) (by omega) hd w
      · exact rmul_lt_no a b x y H L s hs (a * b) hx hy ha hb hlt hH (by omega) (by omega) (by omega) hn h w
  · have hH := halves x y x0 x2 y0 (by omega)
    have hall := hH.all
    have hlow := hH.low
    have q0 := hH.h0
    have q1 := hH.h1
    have q2 := hH.l0
    have q3 := hH.l1
    have hxy : x * y = x / 4294967296 * y * 4294967296 + x % 4294967296 * y := by rw [← hall]
    have hn := hm
    rw [hxy] at hn
    generalize x / 4294967296 * y = H at *
    generalize x % 4294967296 * y = L at *
    by_cases hc : 2147483649 ≤ H
    · exact rmul_ge_high a b x y H L s hs hx hy ha hb hlt hH (by omega) hc w
    · by_cases hd : 9223372036854775808 < L
      · exact rmul_ge_mid a b x y H L s hs hx hy ha hb hlt hH (by omega) (by omega) hd w
      · exact rmul_ge_no a b x y H L s hs (a * b) hx hy ha hb hlt hH (by omega) (by omega) (by omega) hn h w
end Go.Proofs.YtglbhbnbbpljnaaDoor
