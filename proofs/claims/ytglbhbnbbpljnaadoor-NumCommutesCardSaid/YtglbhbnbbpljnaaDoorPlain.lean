/- Plain facts on 64-bit numbers, with no condition: the sign of a bitwise 'and' and 'xor' of two numbers. -/
import Derived.WalkKit
namespace Go.Proofs.YtglbhbnbbpljnaaDoor
open Go Go.RowKit

theorem wrap_toInt (x : BitVec 64) : IntKind.i64.wrap (x.toNat : Int) = x.toInt := by
  rw [IntKind.wrap_i64, BitVec.toInt_eq_toNat_cond]
  have := x.isLt
  split <;> omega
theorem ofInt_toInt (a : Int) (h : -9223372036854775808 ≤ a ∧ a ≤ 9223372036854775807) : (BitVec.ofInt 64 a).toInt = a := by
  rw [BitVec.toInt_ofInt, Int.bmod_def]; simp; split <;> omega
theorem msb_ofInt (a : Int) (h : -9223372036854775808 ≤ a ∧ a ≤ 9223372036854775807) : (BitVec.ofInt 64 a).msb = decide (a < 0) := by
  rw [BitVec.msb_eq_toInt, ofInt_toInt a h]
theorem xor_val (a b : Int) : bits .xor .i64 a b = (BitVec.ofInt 64 a ^^^ BitVec.ofInt 64 b).toInt := wrap_toInt _
theorem and_val (a b : Int) : bits .and .i64 a b = (BitVec.ofInt 64 a &&& BitVec.ofInt 64 b).toInt := wrap_toInt _
theorem xor_neg (a b : Int) (ha : -9223372036854775808 ≤ a ∧ a ≤ 9223372036854775807) (hb : -9223372036854775808 ≤ b ∧ b ≤ 9223372036854775807) :
    decide (bits .xor .i64 a b < 0) = (decide (a < 0) ^^ decide (b < 0)) := by
  rw [xor_val, ← BitVec.msb_eq_toInt, BitVec.msb_xor, msb_ofInt a ha, msb_ofInt b hb]
theorem xor_bd (a b : Int) : -9223372036854775808 ≤ bits .xor .i64 a b ∧ bits .xor .i64 a b ≤ 9223372036854775807 := by
  rw [xor_val]
  generalize BitVec.ofInt 64 a ^^^ BitVec.ofInt 64 b = X
  have h1 := BitVec.le_toInt X
  have h2 := BitVec.toInt_lt (x := X)
  simp at h1 h2
  omega
theorem and_neg (a b : Int) (ha : -9223372036854775808 ≤ a ∧ a ≤ 9223372036854775807) (hb : -9223372036854775808 ≤ b ∧ b ≤ 9223372036854775807) :
    decide (bits .and .i64 a b < 0) = (decide (a < 0) && decide (b < 0)) := by
  rw [and_val, ← BitVec.msb_eq_toInt, BitVec.msb_and, msb_ofInt a ha, msb_ofInt b hb]
/-- The test of 'Add' and 'Sub': three numbers x, y, s. -/
theorem signs (x y s t : Int) (hx : -9223372036854775808 ≤ x ∧ x ≤ 9223372036854775807) (hy : -9223372036854775808 ≤ y ∧ y ≤ 9223372036854775807)
    (hs : -9223372036854775808 ≤ s ∧ s ≤ 9223372036854775807) (ht : -9223372036854775808 ≤ t ∧ t ≤ 9223372036854775807) :
    bits .and .i64 (bits .xor .i64 x y) (bits .xor .i64 s t) < 0 ↔ ((x < 0 ∧ 0 ≤ y ∨ 0 ≤ x ∧ y < 0) ∧ (s < 0 ∧ 0 ≤ t ∨ 0 ≤ s ∧ t < 0)) := by
  have h1 := and_neg _ _ (xor_bd x y) (xor_bd s t)
  rw [xor_neg x y hx hy, xor_neg s t hs ht] at h1
  have e : bits .and .i64 (bits .xor .i64 x y) (bits .xor .i64 s t) < 0 ↔ ((decide (x < 0) ^^ decide (y < 0)) && (decide (s < 0) ^^ decide (t < 0))) = true := by rw [← h1, decide_eq_true_iff]
  rw [e]
  by_cases a : x < 0 <;> by_cases b : y < 0 <;> by_cases c : s < 0 <;> by_cases d : t < 0 <;> simp [a, b, c, d] <;> omega
theorem wrap64_bd (n : Int) : -9223372036854775808 ≤ wrap64 n ∧ wrap64 n ≤ 9223372036854775807 := by unfold wrap64; omega
theorem ret_int {k : IntKind} {a b : Int} (h : a = b) : Ending.returned (.int k a) = .returned (.int k b) := by rw [h]
theorem ret_two {k l : IntKind} {a b c d : Int} (h : a = b) (g : c = d) : Ending.returned (.tuple #[.int k a, .int l c]) = .returned (.tuple #[.int k b, .int l d]) := by rw [h, g]
end Go.Proofs.YtglbhbnbbpljnaaDoor
