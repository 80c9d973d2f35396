/- awake answers true. -/
import Derived.Test.YtccheljfbjllhaaDoorWake
import Derived.Test.YtccheljfbjllhaaDoorParse
import Derived.Test.YtccheljfbjllhaaDoorTree2
namespace Go.Proofs.YtccheljfbjllhaaDoor
open Go Go.RowKit

theorem parse_wake (w : World) : Calls Tryd.prog 14 #[.string ⟨#[40, 97, 124, 98, 41, 42, 36]⟩] w fun e w' => (∃ A c, e = .returned (.tuple #[.agg #[.int .i64 4, .int .u64 0, .int .u64 0, .int .u64 0, .int .u64 0, .slice A 2 c, .int .i64 0, .int .i64 0, .int .i64 0], .int .i64 0, .int .i64 0]) ∧ Kids (Fr w.heap.size w'.heap.size) w' A rWake) ∧ Below w.heap.size w w' := by
  have := parse_any ⟨#[40, 97, 124, 98, 41, 42, 36]⟩ w
  rw [show parseE (ByteArray.mk #[40, 97, 124, 98, 41, 42, 36]).data.toList = (some rWake, 0, 0) from wake_read] at this
  exact this.mono fun e w' ⟨h1, A, c, h2, h3⟩ => ⟨⟨A, c, h2, h3⟩, h1⟩
theorem parse_star (w : World) : Calls Tryd.prog 14 #[.string ⟨#[97, 42, 42]⟩] w fun e w' => e = .returned (.tuple #[.agg #[.int .i64 0, .int .u64 0, .int .u64 0, .int .u64 0, .int .u64 0, .slice none 0 0, .int .i64 0, .int .i64 0, .int .i64 0], .int .i64 2, .int .i64 1]) ∧ Below w.heap.size w w' := by
  have := parse_any ⟨#[97, 42, 42]⟩ w
  rw [show parseE (ByteArray.mk #[97, 42, 42]).data.toList = (none, 2, 1) from star_bad] at this
  exact this.mono fun e w' ⟨h1, h2⟩ => ⟨h2, h1⟩
theorem print_wake (A : Option Addr) (c : Nat) (w : World) (hk : Kids (Lt w.heap.size) w A rWake) : Calls Tryd.prog 9 #[.agg #[.int .i64 4, .int .u64 0, .int .u64 0, .int .u64 0, .int .u64 0, .slice A 2 c, .int .i64 0, .int .i64 0, .int .i64 0]] w fun e w' => e = .returned (.tuple #[.string ⟨#[40, 97, 124, 98, 41, 42, 36]⟩, .int .i64 0]) ∧ Below w.heap.size w w' := by
  have := print_any rWake A c w hk (by rw [wake_size]; omega)
  rw [wake_print] at this
  exact this
theorem groups_wake (A : Option Addr) (c : Nat) (w : World) (hk : Kids (Lt w.heap.size) w A rWake) : Calls Tryd.prog 12 #[.agg #[.int .i64 4, .int .u64 0, .int .u64 0, .int .u64 0, .int .u64 0, .slice A 2 c, .int .i64 0, .int .i64 0, .int .i64 0]] w fun e w' => e = .returned (.int .i64 1) ∧ Below w.heap.size w w' := by
  have := groups_any rWake A c w hk (by rw [wake_size]; omega)
  rw [wake_groups] at this
  exact this
theorem same_wake (A : Option Addr) (c : Nat) (w : World) (hk : Kids (Lt w.heap.size) w A rWake) : Calls Tryd.prog 18 #[.agg #[.int .i64 4, .int .u64 0, .int .u64 0, .int .u64 0, .int .u64 0, .slice A 2 c, .int .i64 0, .int .i64 0, .int .i64 0], .agg #[.int .i64 4, .int .u64 0, .int .u64 0, .int .u64 0, .int .u64 0, .slice A 2 c, .int .i64 0, .int .i64 0, .int .i64 0]] w fun e w' => e = .returned (.bool true) ∧ Below w.heap.size w w' := by
  have := same_any rWake rWake A A c c w hk hk (by rw [wake_size]; omega) (by rw [wake_size]; omega)
  rw [sameB_yes rfl] at this
  exact this
theorem Box9.below {w w' : World} {c : Nat} {v0 v1 v2 v3 v4 v5 v6 v7 v8 : Value} (h : Box9 w c v0 v1 v2 v3 v4 v5 v6 v7 v8) (hb : Below w.heap.size w w') : Box9 w' c v0 v1 v2 v3 v4 v5 v6 v7 v8 := h.grown (b := c + 1) (grown_below hb) (by omega)
theorem lt_of_fr {lo hi : Nat} {w : World} {A : Option Addr} {r : Re} (h : Kids (Fr lo hi) w A r) : Kids (Lt hi) w A r := kids_of (fun _ _ => rfl) (fun _ hk => hk.2) r A h
set_option maxRecDepth 100000 in
set_option maxHeartbeats 4000000 in
theorem awake_any (w : World) : Calls Tryd.prog 7 #[] w fun e w' => e = .returned (.bool true) ∧ Below w.heap.size w w' := by
  have K1 := Lib.hid parse_wake
  have K2 := Lib.hid parse_star
  have K9 := Lib.hid print_wake
  have K12 := Lib.hid groups_wake
  have K18 := Lib.hid same_wake
  go_enter Tryd.func7, Tryd.ntmps7
  go_wp2_with (first
    | (go_at_call 14; (with_reducible refine (K1.out _).mono ?_); rintro _ w1 ⟨⟨A, c, rfl, hkid⟩, hb1⟩; have HB := Lib.hid (hb1.trans ((one_box w1 (.cells #[.int .i64 4, .int .u64 0, .int .u64 0, .int .u64 0, .int .u64 0, .slice A 2 c, .int .i64 0, .int .i64 0, .int .i64 0] 27)).mono hb1.size)); have HK := Lib.hid ((lt_of_fr hkid).next (one_box w1 (.cells #[.int .i64 4, .int .u64 0, .int .u64 0, .int .u64 0, .int .u64 0, .slice A 2 c, .int .i64 0, .int .i64 0, .int .i64 0] 27))); have HX := Lib.hid (Box9.new w1 (.int .i64 4) (.int .u64 0) (.int .u64 0) (.int .u64 0) (.int .u64 0) (.slice A 2 c) (.int .i64 0) (.int .i64 0) (.int .i64 0)); obtain ⟨x0, x1, x2, x3, x4, x5, x6, x7, x8, _⟩ := HX.out; clear hb1 hkid)
    | (go_at_call 9; (with_reducible refine (K9.out _ _ _ HK.out).mono ?_); rintro _ w2 ⟨rfl, hb2⟩; have HB2 := Lib.hid (HB.out.trans (hb2.mono HB.out.size)); have HK2 := Lib.hid (HK.out.next hb2); have HX2 := Lib.hid (HX.out.below hb2); clear hb2)
    | (go_at_call 14; (with_reducible refine (K2.out _).mono ?_); rintro _ w3 ⟨rfl, hb3⟩; have h4 := hb3.trans ((one_box w3 (.cells #[.int .i64 0, .int .u64 0, .int .u64 0, .int .u64 0, .int .u64 0, .slice none 0 0, .int .i64 0, .int .i64 0, .int .i64 0] 27)).mono hb3.size); have HB4 := Lib.hid (HB2.out.trans (h4.mono HB2.out.size)); have HK4 := Lib.hid (HK2.out.next h4); have HX4 := Lib.hid (HX2.out.below h4); obtain ⟨x0, x1, x2, x3, x4, x5, x6, x7, x8, _⟩ := HX4.out; clear hb3 h4)
    | (go_at_call 12; (with_reducible refine (K12.out _ _ _ HK4.out).mono ?_); rintro _ w5 ⟨rfl, hb5⟩; have HB6 := Lib.hid (HB4.out.trans (hb5.mono HB4.out.size)); have HK6 := Lib.hid (HK4.out.next hb5); have HX6 := Lib.hid (HX4.out.below hb5); obtain ⟨x0, x1, x2, x3, x4, x5, x6, x7, x8, _⟩ := HX6.out; clear hb5)
    | (go_at_call 18; (with_reducible refine (K18.out _ _ _ HK6.out).mono ?_); rintro _ w7 ⟨rfl, hb7⟩; have HB8 := Lib.hid (HB6.out.trans (hb7.mono HB6.out.size)); clear hb7))
  go_ret
  exact ⟨rfl, HB8.out⟩
end Go.Proofs.YtccheljfbjllhaaDoor
