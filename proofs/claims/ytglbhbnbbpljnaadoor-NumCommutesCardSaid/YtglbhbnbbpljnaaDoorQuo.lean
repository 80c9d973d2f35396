/- Plain facts on quotients brought down, and what they leave, for all whole numbers. -/
import Derived.Test.YtglbhbnbbpljnaaDoorPlain
namespace Go.Proofs.YtglbhbnbbpljnaaDoor
open Go Go.RowKit
def qN (a b : Int) : Int := ((a.natAbs / b.natAbs : Nat) : Int)
def rN (a b : Int) : Int := ((a.natAbs % b.natAbs : Nat) : Int)
def qF (a b : Int) : Int := if a < 0 ∧ 0 ≤ b ∨ 0 ≤ a ∧ b < 0 then (if rN a b = 0 then - qN a b else - qN a b - 1) else qN a b
def rF (a b : Int) : Int := if a < 0 ∧ 0 ≤ b ∨ 0 ≤ a ∧ b < 0 then (if rN a b = 0 then 0 else (if b < 0 then rN a b + b else b - rN a b)) else (if b < 0 then - rN a b else rN a b)
theorem tdiv_form (a b : Int) : a.tdiv b = if a < 0 ∧ 0 ≤ b ∨ 0 ≤ a ∧ b < 0 then - qN a b else qN a b := by
  unfold qN
  obtain ⟨m, rfl | rfl⟩ := Int.eq_nat_or_neg a <;> obtain ⟨n, rfl | rfl⟩ := Int.eq_nat_or_neg b
  · rw [if_neg (by omega)]; simp
  · by_cases hn : n = 0
    · subst hn; simp
    · rw [if_pos (by omega)]; simp [Int.tdiv_neg]
  · by_cases hm : m = 0
    · subst hm; simp
    · rw [if_pos (by omega)]; simp [Int.neg_tdiv]
  · by_cases hm : m = 0
    · subst hm; simp
    · by_cases hn : n = 0
      · subst hn; simp
      · rw [if_neg (by omega)]; simp [Int.neg_tdiv, Int.tdiv_neg]
theorem tmod_nat (m n : Nat) : (m : Int).tmod n = (m : Int) % n := Int.tmod_eq_emod_of_nonneg (by omega)
theorem tmod_form (a b : Int) : a.tmod b = if a < 0 then - rN a b else rN a b := by
  unfold rN
  obtain ⟨m, rfl | rfl⟩ := Int.eq_nat_or_neg a <;> obtain ⟨n, rfl | rfl⟩ := Int.eq_nat_or_neg b
  · rw [if_neg (by omega)]; simp [tmod_nat]
  · rw [if_neg (by omega)]; simp [Int.tmod_neg, tmod_nat]
  · by_cases hm : m = 0
    · subst hm; simp
    · rw [if_pos (by omega)]; simp [Int.neg_tmod, tmod_nat]
  · by_cases hm : m = 0
    · subst hm; simp
    · rw [if_pos (by omega)]; simp [Int.neg_tmod, Int.tmod_neg, tmod_nat]
theorem parts (a b : Int) (hb : b ≠ 0) : 0 ≤ qN a b ∧ qN a b ≤ a.natAbs ∧ 0 ≤ rN a b ∧ rN a b < b.natAbs ∧ qN a b * b.natAbs + rN a b = a.natAbs := by
  have h0 : 0 < b.natAbs := by omega
  have h1 := Nat.div_le_self a.natAbs b.natAbs
  have h2 := Nat.mod_lt a.natAbs h0
  have h3 := Nat.div_add_mod a.natAbs b.natAbs
  unfold qN rN
  rw [Nat.mul_comm] at h3
  refine ⟨Int.natCast_nonneg _, Int.ofNat_le.2 h1, Int.natCast_nonneg _, Int.ofNat_lt.2 h2, ?_⟩
  exact_mod_cast h3
theorem half_q (a b : Int) (hb : 2 ≤ b.natAbs) : 2 * qN a b ≤ a.natAbs := by
  unfold qN
  have h1 : a.natAbs / b.natAbs ≤ a.natAbs / 2 := Nat.div_le_div_left hb (by decide)
  omega
/-- The rule: the quotient times the divisor, and what is left, come to the number. -/
theorem rule (a b : Int) (hb : b ≠ 0) : qF a b * b + rF a b = a := by
  obtain ⟨h1, h2, h3, h4, h5⟩ := parts a b hb
  unfold qF rF
  generalize qN a b = q at *
  generalize rN a b = r at *
  by_cases ha : a < 0 <;> by_cases hb' : b < 0
  · have c : ¬ (a < 0 ∧ 0 ≤ b ∨ 0 ≤ a ∧ b < 0) := by omega
    rw [if_neg c, if_neg c, if_pos hb']
    rw [show (b.natAbs : Int) = -b by omega, Int.mul_neg] at h5
    omega
  · have c : a < 0 ∧ 0 ≤ b ∨ 0 ≤ a ∧ b < 0 := by omega
    rw [if_pos c, if_pos c]
    rw [show (b.natAbs : Int) = b by omega] at h5
    by_cases hr : r = 0
    · rw [if_pos hr, if_pos hr, Int.neg_mul]; omega
    · rw [if_neg hr, if_neg hr, if_neg hb', Int.sub_mul, Int.neg_mul, Int.one_mul]; omega
  · have c : a < 0 ∧ 0 ≤ b ∨ 0 ≤ a ∧ b < 0 := by omega
    rw [if_pos c, if_pos c]
    rw [show (b.natAbs : Int) = -b by omega, Int.mul_neg] at h5
    by_cases hr : r = 0
    · rw [if_pos hr, if_pos hr, Int.neg_mul]; omega
    · rw [if_neg hr, if_neg hr, if_pos hb', Int.sub_mul, Int.neg_mul, Int.one_mul]; omega
  · have c : ¬ (a < 0 ∧ 0 ≤ b ∨ 0 ≤ a ∧ b < 0) := by omega
    rw [if_neg c, if_neg c, if_neg hb']
    rw [show (b.natAbs : Int) = b by omega] at h5
    omega
theorem rest_bd (a b : Int) (hb : b ≠ 0) : (0 < b → 0 ≤ rF a b ∧ rF a b < b) ∧ (b < 0 → rF a b ≤ 0 ∧ b < rF a b) := by
  obtain ⟨h1, h2, h3, h4, h5⟩ := parts a b hb
  unfold rF
  constructor <;> intro h <;> (repeat' split) <;> omega
end Go.Proofs.YtglbhbnbbpljnaaDoor
