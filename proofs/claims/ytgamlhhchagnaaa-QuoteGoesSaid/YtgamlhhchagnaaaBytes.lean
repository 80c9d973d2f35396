/- Contracts of the functions on one byte, for every byte. -/
import Derived.Test.YtgamlhhchagnaaaRows
import Derived.Test.YtgamlhhchagnaaaPlain3
import Derived.Test.YtgamlhhchagnaaaShelf
import Derived.WalkKit
import Derived.WalkSpells
import Derived.WalkLawsBesides
import Derived.Lib.Hide
import Derived.Outline
namespace Go.Proofs.Ytgamlhhchagnaaa
open Go Go.RowKit

theorem ret_int {k : IntKind} {a b : Int} (h : a = b) : Ending.returned (.int k a) = .returned (.int k b) := by rw [h]
theorem ret_bool {a b : Bool} (h : a = b) : Ending.returned (.bool a) = .returned (.bool b) := by rw [h]
theorem isdig_any (c : UInt8) (w : World) : Calls Try.prog 35 #[.int .u8 c.toNat] w fun e w' => e = .returned (.bool (isDig c)) ∧ w = w' := by
  obtain ⟨n, hn⟩ : ∃ n : Int, n = c.toNat := ⟨_, rfl⟩
  have e : isDig c = decide (48 ≤ n ∧ n ≤ 57) := by rw [hn]; rfl
  rw [e, ← hn]
  clear e hn
  by_cases h1 : 48 ≤ n <;> by_cases h2 : n ≤ 57
  all_goals
    go_enter Try.func35, Try.ntmps35
    go_wp2
    go_ret
    exact ⟨ret_bool (by simp [h1, h2]), rfl⟩
theorem islow_any (c : UInt8) (w : World) : Calls Try.prog 36 #[.int .u8 c.toNat] w fun e w' => e = .returned (.bool (isLow c)) ∧ w = w' := by
  obtain ⟨n, hn⟩ : ∃ n : Int, n = c.toNat := ⟨_, rfl⟩
  have e : isLow c = decide (97 ≤ n ∧ n ≤ 122) := by rw [hn]; rfl
  rw [e, ← hn]
  clear e hn
  by_cases h1 : 97 ≤ n <;> by_cases h2 : n ≤ 122
  all_goals
    go_enter Try.func36, Try.ntmps36
    go_wp2
    go_ret
    exact ⟨ret_bool (by simp [h1, h2]), rfl⟩
theorem isin_any (c : UInt8) (w : World) : Calls Try.prog 37 #[.int .u8 c.toNat] w fun e w' => e = .returned (.bool (isIn c)) ∧ w = w' := by
  have KD := fun w => isdig_any c w
  have KL := fun w => islow_any c w
  have e : isIn c = (isLow c || isDig c || decide ((c.toNat : Int) = 95)) := rfl
  rw [e]
  clear e
  generalize isDig c = d at KD ⊢
  generalize isLow c = l at KL ⊢
  have HD := Lib.hid KD
  have HL := Lib.hid KL
  clear KD KL
  obtain ⟨n, hn⟩ : ∃ n : Int, n = c.toNat := ⟨_, rfl⟩
  rw [← hn] at HD HL ⊢
  clear hn
  by_cases h : n = 95
  · subst h
    cases d <;> cases l
    all_goals
      go_enter Try.func37, Try.ntmps37
      go_wp2_with (first | (go_at_call 36; ((with_reducible refine (HL.out _).mono ?_)); rintro e w' ⟨rfl, rfl⟩) | (go_at_call 35; ((with_reducible refine (HD.out _).mono ?_)); rintro e w' ⟨rfl, rfl⟩))
      go_ret
      exact ⟨rfl, rfl⟩
  · have hb : (n == 95) = false := by simpa using h
    have hd : decide (n = 95) = false := by simpa using h
    cases d <;> cases l
    all_goals
      go_enter Try.func37, Try.ntmps37
      go_wp2_with (first | (go_at_call 36; ((with_reducible refine (HL.out _).mono ?_)); rintro e w' ⟨rfl, rfl⟩) | (go_at_call 35; ((with_reducible refine (HD.out _).mono ?_)); rintro e w' ⟨rfl, rfl⟩))
      go_ret
      exact ⟨ret_bool (by simp [hd]), rfl⟩
end Go.Proofs.Ytgamlhhchagnaaa
