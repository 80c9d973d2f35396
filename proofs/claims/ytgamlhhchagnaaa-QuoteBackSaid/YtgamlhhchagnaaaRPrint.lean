/- The document's own text of parts: its contract, for every list of parts whose text is no longer than a million bytes. -/
import Derived.Test.YtgamlhhchagnaaaPrint
namespace Go.Proofs.Ytgamlhhchagnaaa
open Go Go.RowKit

theorem ret_st {a b : ByteArray} (h : a = b) : Ending.returned (.string a) = .returned (.string b) := by rw [h]
theorem hex_any (a : Nat) (ha : a < 16) (w : World) : Calls Try.prog 33 #[.int .u8 a] w fun e w' => e = .returned (.string ⟨#[hexC a]⟩) ∧ Below w.heap.size w w' := by
  have hone := fun (c : UInt8) (W : World) => one_byte W (c.toNat : Int) c rfl
  have a0 : (0 : Int) ≤ a ∧ (a : Int) < 16 := by omega
  go_enter Try.func33, Try.ntmps33
  go_wp2
  go_ret
  refine ⟨ret_st ?_, (Below.refl _ _).alloc (Nat.le_refl _) _⟩
  have := hexC_at a ha ha
  show (⟨#[hexSet[a]]⟩ : ByteArray) = _
  rw [this]
set_option maxHeartbeats 1000000 in
theorem byte_any (c : UInt8) (w : World) : Calls Try.prog 23 #[.int .u8 c.toNat] w fun e w' => e = .returned (.string ⟨(prB c).toArray⟩) ∧ Below w.heap.size w w' := by
  have hone := fun (c : UInt8) (W : World) => one_byte W (c.toNat : Int) c rfl
  have c256 := UInt8.toNat_lt c
  obtain ⟨R, hR⟩ : ∃ R : ByteArray, R = ⟨(prB c).toArray⟩ := ⟨_, rfl⟩
  rw [← hR]
  have HR := Lib.hid hR
  clear hR
  by_cases h1 : c = 10
  · subst h1
    go_enter Try.func23, Try.ntmps23
    go_wp2
    go_ret
    exact ⟨ret_st (by rw [HR.out]; rfl), Below.refl _ _⟩
  by_cases h2 : c = 13
  · subst h2
    go_enter Try.func23, Try.ntmps23
    go_wp2
    go_ret
    exact ⟨ret_st (by rw [HR.out]; rfl), Below.refl _ _⟩
  by_cases h3 : c = 9
  · subst h3
    go_enter Try.func23, Try.ntmps23
    go_wp2
    go_ret
    exact ⟨ret_st (by rw [HR.out]; rfl), Below.refl _ _⟩
  have f1 : ((c.toNat : Int) == 10) = false := byte_ne (n := 10) h1 (by omega)
  have f2 : ((c.toNat : Int) == 13) = false := byte_ne (n := 13) h2 (by omega)
  have f3 : ((c.toNat : Int) == 9) = false := byte_ne (n := 9) h3 (by omega)
  by_cases h4 : c = 34
  · have g4 : ((c.toNat : Int) == 34) = true := byte_eq (n := 34) h4 (by omega)
    have HE : Hid (prB c = [92, c]) := by apply Lib.hid; rw [h4]; rfl
    clear h1 h2 h3 h4
    go_enter Try.func23, Try.ntmps23
    go_wp2
    go_ret
    exact ⟨ret_st (by rw [HR.out, HE.out]; rfl), (Below.refl _ _).alloc (Nat.le_refl _) _⟩
  have f4 : ((c.toNat : Int) == 34) = false := byte_ne (n := 34) h4 (by omega)
  by_cases h5 : c = 92
  · have g5 : ((c.toNat : Int) == 92) = true := byte_eq (n := 92) h5 (by omega)
    have HE : Hid (prB c = [92, c]) := by apply Lib.hid; rw [h5]; rfl
    clear h1 h2 h3 h4 h5
    go_enter Try.func23, Try.ntmps23
    go_wp2
    go_ret
    exact ⟨ret_st (by rw [HR.out, HE.out]; rfl), (Below.refl _ _).alloc (Nat.le_refl _) _⟩
  have f5 : ((c.toNat : Int) == 92) = false := byte_ne (n := 92) h5 (by omega)
  by_cases h6 : c = 36
  · have g6 : ((c.toNat : Int) == 36) = true := byte_eq (n := 36) h6 (by omega)
    have HE : Hid (prB c = [92, c]) := by apply Lib.hid; rw [h6]; rfl
    clear h1 h2 h3 h4 h5 h6
    go_enter Try.func23, Try.ntmps23
    go_wp2
    go_ret
    exact ⟨ret_st (by rw [HR.out, HE.out]; rfl), (Below.refl _ _).alloc (Nat.le_refl _) _⟩
  have f6 : ((c.toNat : Int) == 36) = false := byte_ne (n := 36) h6 (by omega)
  by_cases hp : plainB c = true
  · have HE : Hid (prB c = [c]) := by apply Lib.hid; unfold prB; rw [if_pos hp]
    have hx : 32 ≤ (c.toNat : Int) ∧ (c.toNat : Int) ≤ 126 := by
      have := hp; unfold plainB at this; simp at this; omega
    obtain ⟨x1, x2⟩ := hx
    clear h1 h2 h3 h4 h5 h6 hp
    go_enter Try.func23, Try.ntmps23
    go_wp2
    go_ret
    exact ⟨ret_st (by rw [HR.out, HE.out]), (Below.refl _ _).alloc (Nat.le_refl _) _⟩
  · have HE : Hid (prB c = [92, 120, hexC (c.toNat / 16), hexC (c.toNat % 16)]) := by apply Lib.hid; unfold prB; simp [hp, h1, h2, h3, h4, h5, h6]
    have hx : ((c.toNat : Int) < 32 ∧ decide (126 < (c.toNat : Int)) = false) ∨ (32 ≤ (c.toNat : Int) ∧ 126 < (c.toNat : Int)) := by
      have e4 : ¬ (c.toNat : Int) = 34 := by simpa using f4
      have e5 : ¬ (c.toNat : Int) = 92 := by simpa using f5
      have e6 : ¬ (c.toNat : Int) = 36 := by simpa using f6
      have := hp; unfold plainB at this; simp at this; simp; omega
    obtain ⟨a, ha⟩ : ∃ a, a = c.toNat / 16 := ⟨_, rfl⟩
    obtain ⟨b, hb⟩ : ∃ b, b = c.toNat % 16 := ⟨_, rfl⟩
    rw [← ha, ← hb] at HE
    have e1 : (c.toNat : Int) / 16 = (a : Int) := by omega
    have e2 : (c.toNat : Int) % 16 = (b : Int) := by omega
    have KA := Lib.hid fun w => hex_any a (by omega) w
    have KB := Lib.hid fun w => hex_any b (by omega) w
    clear h1 h2 h3 h4 h5 h6 hp ha hb
    rcases hx with ⟨hx, hx2⟩ | ⟨hx, hx2⟩
    all_goals
      go_enter Try.func23, Try.ntmps23
      go_wp2_with (go_at_call 33; (first | ((with_reducible refine (KA.out _).mono ?_); rintro e w1 ⟨rfl, hb1⟩) | ((with_reducible refine (KB.out _).mono ?_); rintro e w2 ⟨rfl, hb2⟩)))
      go_ret
      exact ⟨ret_st (by rw [HR.out, HE.out]; rfl), hb1.trans (hb2.mono hb1.size)⟩
end Go.Proofs.Ytgamlhhchagnaaa
