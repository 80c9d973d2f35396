/- The contract of the statements' own first look, where the library's table and errors lie as laid; and from what the rows list to that. -/
import Derived.Test.YtglbhbnbbpljnaaDoorParse
import Derived.Test.YtglbhbnbbpljnaaDoorQuos
import Derived.Lib.ItoaNum
namespace Go.Proofs.YtglbhbnbbpljnaaDoor
open Go Go.RowKit
theorem twelve_form : formL [45, 49, 50] = true := by decide
theorem twelve_val : Lib.parseIntB 64 [45, 49, 50] = .ok (-12) := by decide
theorem twelve_text : Lib.itoa (-12) = [45, 49, 50] := by
  unfold Lib.itoa; rw [if_pos (by decide)]
  rw [show (-12 : Int).natAbs = 12 from rfl, Lib.decDigits_two (by decide) (by decide)]; rfl
theorem awake_any (w : World) (hG : Given w) :
    Calls Tryd.prog 8 #[] w fun e w' => e = .returned (.bool true) ∧ Below w.heap.size w w' := by
  have k16 : ∀ w, Calls Tryd.prog 16 #[.int .i64 (-7), .int .i64 2] w fun e w' => e = .returned (.tuple #[.int .i64 (-4), .int .i64 0]) ∧ w = w' := fun w => div_ok (-7) 2 (by omega) (by omega) (by omega) (by omega) w
  have k17 : ∀ w, Calls Tryd.prog 17 #[.int .i64 (-7), .int .i64 2] w fun e w' => e = .returned (.tuple #[.int .i64 1, .int .i64 0]) ∧ w = w' := fun w => mod_ok (-7) 2 (by omega) (by omega) (by omega) w
  have k21 : ∀ w, Calls Tryd.prog 21 #[.string ⟨#[45, 49, 50]⟩] w fun e w' => e = .returned (.tuple #[.int .i64 (-12), .int .i64 0]) ∧ Below w.heap.size w w' := fun w => parse_ok ⟨#[45, 49, 50]⟩ (-12) twelve_form twelve_val (by decide) w
  have k20 : ∀ w', Below w.heap.size w w' → Calls Tryd.prog 20 #[.int .i64 (-12)] w' fun e w2 => e = .returned (.string ⟨#[45, 49, 50]⟩) ∧ Below w'.heap.size w' w2 := fun w' hb => by
    have := print_any (-12) (by omega) w' (hG.below hb)
    rw [twelve_text] at this; exact this
  have K16 := Lib.hid k16
  have K17 := Lib.hid k17
  have K20 := Lib.hid k20
  have K21 := Lib.hid k21
  clear k16 k17 k20 k21 hG
  go_enter Tryd.func8, Tryd.ntmps8
  go_wp2_with (first | (go_at_call 16; ((with_reducible refine (K16.out _).mono ?_)); rintro e w' ⟨rfl, rfl⟩) | (go_at_call 17; ((with_reducible refine (K17.out _).mono ?_)); rintro e w' ⟨rfl, rfl⟩) | (go_at_call 21; ((with_reducible refine (K21.out _).mono ?_)); rintro e w1 ⟨rfl, hb1⟩) | (go_at_call 20; ((with_reducible refine (K20.out _ hb1).mono ?_)); rintro e w2 ⟨rfl, hb2⟩))
  go_ret
  exact ⟨rfl, hb1.trans (hb2.mono hb1.size)⟩
end Go.Proofs.YtglbhbnbbpljnaaDoor
