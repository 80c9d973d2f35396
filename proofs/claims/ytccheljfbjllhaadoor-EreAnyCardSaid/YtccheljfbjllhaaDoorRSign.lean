/- The document's own text of a repeat's sign: its contract. -/
import Derived.Test.YtccheljfbjllhaaDoorRItems
import Derived.Test.YtccheljfbjllhaaDoorRSame
namespace Go.Proofs.YtccheljfbjllhaaDoor
open Go Go.RowKit

theorem dig_wrap (i : Nat) (hi : i ≤ 8) : wrap64 (48 + (i : Int)) % 256 = ((dig i).toNat : Int) := by
  have e : wrap64 (48 + (i : Int)) = 48 + i := by unfold wrap64; omega
  unfold dig
  rw [e, UInt8.toNat_ofNat', Nat.mod_eq_of_lt (by omega)]
  omega
set_option maxRecDepth 100000 in
set_option maxHeartbeats 1000000 in
theorem rsign_any (lo hi : Int) (hb : bound lo hi = true) (w : World) : Calls Tryd.prog 27 #[.int .i64 lo, .int .i64 hi] w fun e w' => e = .returned (.string ⟨(signT lo hi).toArray⟩) ∧ Below w.heap.size w w' := by
  unfold bound at hb
  simp only [Bool.and_eq_true, Bool.or_eq_true, decide_eq_true_eq] at hb
  obtain ⟨h0, h8, hh⟩ := hb
  obtain ⟨i, rfl⟩ : ∃ i : Nat, lo = i := ⟨lo.toNat, by omega⟩
  by_cases c1 : (i : Int) = 0 ∧ hi = -1
  · have e : signT i hi = [42] := by unfold signT; rw [if_pos c1]
    rw [e]
    obtain ⟨c1, rfl⟩ := c1
    obtain rfl : i = 0 := by omega
    clear e h0 h8 hh c1
    go_enter Tryd.func27, Tryd.ntmps27
    go_wp2
    go_ret
    exact ⟨rfl, Below.refl _ _⟩
  · by_cases c2 : (i : Int) = 1 ∧ hi = -1
    · have e : signT i hi = [43] := by unfold signT; rw [if_neg c1, if_pos c2]
      rw [e]
      obtain ⟨c2, rfl⟩ := c2
      obtain rfl : i = 1 := by omega
      clear e h0 h8 hh c1 c2
      go_enter Tryd.func27, Tryd.ntmps27
      go_wp2
      go_ret
      exact ⟨rfl, Below.refl _ _⟩
    · by_cases c3 : (i : Int) = 0 ∧ hi = 1
      · have e : signT i hi = [63] := by unfold signT; rw [if_neg c1, if_neg c2, if_pos c3]
        rw [e]
        obtain ⟨c3, rfl⟩ := c3
        obtain rfl : i = 0 := by omega
        clear e h0 h8 hh c1 c2 c3
        go_enter Tryd.func27, Tryd.ntmps27
        go_wp2
        go_ret
        exact ⟨rfl, Below.refl _ _⟩
      · have hw := dig_wrap i (by omega)
        have hone := fun (W : World) => one_byte W ((dig i).toNat : Int) (dig i) rfl
        have h48 := fun (W : World) => one_byte W 48 48 rfl
        have h49 := fun (W : World) => one_byte W 49 49 rfl
        obtain ⟨D, hD⟩ : ∃ D, D = dig i := ⟨_, rfl⟩
        have HD1 : Hid (i = 1 → D = 49) := Lib.hid (by intro h; rw [hD, h]; rfl)
        have HD0 : Hid (i = 0 → D = 48) := Lib.hid (by intro h; rw [hD, h]; rfl)
        obtain ⟨Z, hZ⟩ : ∃ Z : Int, Z = (D.toNat : Int) := ⟨_, rfl⟩
        rw [← hD, ← hZ] at hw hone
        by_cases c4 : hi = i
        · have e : signT i hi = [123, D, 125] := by unfold signT; rw [if_neg c1, if_neg c2, if_neg c3, if_pos c4, hD]
          rw [e]
          subst c4
          have b1 : ((i : Int) == -1) = false := by first | (simp; done) | (simp; omega)
          have b3 : (((i : Int) == 0) && ((i : Int) == 1)) = false := by first | (simp; done) | (simp; omega)
          clear e h0 h8 hh c1 c2 c3 hD hZ
          by_cases z0 : (i : Int) = 0
          · obtain rfl : i = 0 := by omega
            obtain rfl := HD0.out rfl
            clear hw hone
            go_enter Tryd.func27, Tryd.ntmps27
            go_wp2
            all_goals (
              go_ret
              exact ⟨rfl, (Below.refl _ _).alloc (Nat.le_refl _) _⟩)
          · by_cases z1 : i = 1
            · subst z1
              obtain rfl := HD1.out rfl
              clear hw hone
              go_enter Tryd.func27, Tryd.ntmps27
              go_wp2
              all_goals (
                go_ret
                exact ⟨rfl, (Below.refl _ _).alloc (Nat.le_refl _) _⟩)
            · have b0 : ((i : Int) == 0) = false := by first | (simp; done) | (simp; omega)
              have b0' : (i == 0) = false := by first | (simp; done) | (simp; omega)
              have b4 : ((i : Int) == 1) = false := by first | (simp; done) | (simp; omega)
              have b4' : (i == 1) = false := by first | (simp; done) | (simp; omega)
              clear z0 z1
              go_enter Tryd.func27, Tryd.ntmps27
              go_wp2
              all_goals (
                go_ret
                exact ⟨rfl, (Below.refl _ _).alloc (Nat.le_refl _) _⟩)
        · by_cases c5 : hi = -1
          · have e : signT i hi = [123, D, 44, 125] := by unfold signT; rw [if_neg c1, if_neg c2, if_neg c3, if_neg c4, if_pos c5, hD]
            rw [e]
            subst c5
            have b0 : ((i : Int) == 0) = false := by first | (simp; done) | (simp; omega)
            have b1 : ((i : Int) == 1) = false := by first | (simp; done) | (simp; omega)
            have b2 : ((-1 : Int) != (i : Int)) = true := by first | (simp; done) | (simp; omega)
            have b0' : (i == 0) = false := by first | (simp; done) | (simp; omega)
            have b1' : (i == 1) = false := by first | (simp; done) | (simp; omega)
            clear e h0 h8 hh c1 c2 c3 c4 hD hZ
            go_enter Tryd.func27, Tryd.ntmps27
            go_wp2
            all_goals (
              go_ret
              exact ⟨rfl, (Below.refl _ _).alloc (Nat.le_refl _) _⟩)
          · obtain ⟨j, rfl⟩ : ∃ j : Nat, hi = j := ⟨hi.toNat, by omega⟩
            have hw2 := dig_wrap j (by omega)
            have hone2 := fun (W : World) => one_byte W ((dig j).toNat : Int) (dig j) rfl
            have e : signT i j = [123, D, 44, dig j, 125] := by unfold signT; rw [if_neg c1, if_neg c2, if_neg c3, if_neg c4, if_neg c5, hD]
            rw [e]
            obtain ⟨D2, hD2⟩ : ∃ D, D = dig j := ⟨_, rfl⟩
            obtain ⟨Z2, hZ2⟩ : ∃ Z : Int, Z = (D2.toNat : Int) := ⟨_, rfl⟩
            rw [← hD2, ← hZ2] at hw2 hone2
            rw [← hD2]
            have hone3 : ∀ (o : Obj), (convert 49 9 (.slice (some ⟨w.heap.size + 1, 0, none⟩) 1 1)).run Tryd.prog ((w.alloc o).alloc (.cells #[.int .u8 Z2] 5)) = .ok (.string ⟨#[D2]⟩) ((w.alloc o).alloc (.cells #[.int .u8 Z2] 5)) := fun o => by
              have := hone2 (w.alloc o)
              rwa [World.size_alloc] at this
            clear hone2
            have b1 : ((j : Int) == -1) = false := by first | (simp; done) | (simp; omega)
            have b2 : ((j : Int) != (i : Int)) = true := by first | (simp; done) | (simp; omega)
            have b2' : (j != i) = true := by first | (simp; done) | (simp; omega)
            have hlt : (i : Int) < j := by omega
            clear e h0 h8 hh c1 c2 c4 c5 hD hZ hD2 hZ2
            by_cases z0 : i = 0
            · subst z0
              obtain rfl := HD0.out rfl
              clear hw hone
              have b3 : ((j : Int) == 1) = false := by first | (simp; done) | (simp; omega)
              have b3' : (j == 1) = false := by first | (simp; done) | (simp; omega)
              clear c3
              go_enter Tryd.func27, Tryd.ntmps27
              go_wp2
              all_goals (
                go_ret
                exact ⟨rfl, two_boxes _ _ _⟩)
            · by_cases z1 : i = 1
              · subst z1
                obtain rfl := HD1.out rfl
                clear hw hone c3 z0
                go_enter Tryd.func27, Tryd.ntmps27
                go_wp2
                all_goals (
                  go_ret
                  exact ⟨rfl, two_boxes _ _ _⟩)
              have b4 : ((i : Int) == 1) = false := by first | (simp; done) | (simp; omega)
              have b4' : (i == 1) = false := by first | (simp; done) | (simp; omega)
              have b0 : ((i : Int) == 0) = false := by first | (simp; done) | (simp; omega)
              have b0' : (i == 0) = false := by first | (simp; done) | (simp; omega)
              clear c3 z0 z1
              go_enter Tryd.func27, Tryd.ntmps27
              go_wp2
              all_goals (
                go_ret
                exact ⟨rfl, two_boxes _ _ _⟩)
end Go.Proofs.YtccheljfbjllhaaDoor
