/- The walk of the statement on texts, for all numbers of 64 bits and all strings, where the library's table and errors lie as laid. -/
import Derived.Test.YtglbhbnbbpljnaaDoorAwake
import Derived.Test.YtglbhbnbbpljnaaDoorBoth
import Derived.Test.YtglbhbnbbpljnaaDoorRPrint
namespace Go.Proofs.YtglbhbnbbpljnaaDoor
open Go Go.RowKit
set_option linter.unusedVariables false
theorem texts_long (n : Int) (s : ByteArray) (hl : 40 < s.size) (hs : s.size ≤ 9223372036854775807) (w : World) (hG : Given w) :
    Calls Tryd.prog 6 #[.int .i64 n, .string s] w fun e w' => e = .returned (.bool true) ∧ Below w.heap.size w w' := by
  have KA := Lib.hid (awake_any w hG)
  clear hG
  go_enter Tryd.func6, Tryd.ntmps6
  go_wp2_with (go_at_call 8; ((with_reducible refine KA.out.mono ?_)); rintro e' w1 ⟨rfl, hb1⟩)
  go_ret
  exact ⟨rfl, hb1⟩
theorem texts_short (n : Int) (hn : -9223372036854775808 ≤ n ∧ n ≤ 9223372036854775807) (s : ByteArray) (hl : ¬ 40 < s.size) (w : World) (hG : Given w) :
    Calls Tryd.prog 6 #[.int .i64 n, .string s] w fun e w' => e = .returned (.bool true) ∧ Below w.heap.size w w' := by
  obtain ⟨x, f, hx⟩ := specL_some s.data.toList
  obtain ⟨hxr, hback⟩ := spec_back _ x f hx
  obtain ⟨t, ht⟩ : ∃ t : ByteArray, t = ⟨(Lib.itoa n).toArray⟩ := ⟨_, rfl⟩
  have htl : t.data.toList = Lib.itoa n := by rw [ht]
  have hts : t.size ≤ 1000 := by
    have e : t.size = t.data.toList.length := (Array.length_toList).symm
    rw [e, htl]
    have d20 : ∀ u, u < 10 ^ 20 → (Lib.decDigits u).length ≤ 20 := fun u hu => by rw [Lib.decDigits_length]; exact nd_le 19 _ hu
    unfold Lib.itoa
    split
    · have := d20 n.natAbs (by omega); rw [List.length_cons]; omega
    · have := d20 n.toNat (by omega); omega
  have KA := Lib.hid (awake_any w hG)
  have K20 : Hid (∀ w', Below w.heap.size w w' → Calls Tryd.prog 20 #[.int .i64 n] w' fun e w2 => e = .returned (.string t) ∧ Below w'.heap.size w' w2) :=
    Lib.hid fun w' hb => by rw [ht]; exact print_any n hn w' (hG.below hb)
  have K21 : Hid (∀ w', Below w.heap.size w w' → Calls Tryd.prog 21 #[.string t] w' fun e w2 => e = .returned (.tuple #[.int .i64 n, .int .i64 0]) ∧ Below w'.heap.size w' w2) :=
    Lib.hid fun w' hb => parse_any t hts n 0 (by rw [htl]; exact spec_text n hn) w' (hG.below hb)
  have K21s : Hid (∀ w', Below w.heap.size w w' → Calls Tryd.prog 21 #[.string s] w' fun e w2 => e = .returned (.tuple #[.int .i64 x, .int .i64 f]) ∧ Below w'.heap.size w' w2) :=
    Lib.hid fun w' hb => parse_any s (by omega) x f hx w' (hG.below hb)
  have K22 : Hid (∀ w', Calls Tryd.prog 22 #[.string s] w' fun e w2 => e = .returned (.tuple #[.int .i64 x, .int .i64 f]) ∧ w' = w2) :=
    Lib.hid fun w' => rparse_any s (by omega) x f hx w'
  have K23 : Hid (∀ w', Calls Tryd.prog 23 #[.int .i64 n] w' fun e w2 => e = .returned (.string t) ∧ Below w'.heap.size w' w2) :=
    Lib.hid fun w' => by rw [ht]; exact rprint_any n hn w'
  by_cases hf : f = 0
  · subst hf
    have K20x : Hid (∀ w', Below w.heap.size w w' → Calls Tryd.prog 20 #[.int .i64 x] w' fun e w2 => e = .returned (.string s) ∧ Below w'.heap.size w' w2) :=
      Lib.hid fun w' hb => by rw [ba_of s _ (hback rfl).symm]; exact print_any x hxr w' (hG.below hb)
    clear hx hback ht htl hG hn hxr hts
    go_enter Tryd.func6, Tryd.ntmps6
    go_wp2_with (first | (go_at_call 8; ((with_reducible refine KA.out.mono ?_)); rintro e' w1 ⟨rfl, hb1⟩) | (go_at_call 20; ((with_reducible refine (K20.out _ hb1).mono ?_)); rintro e' w2 ⟨rfl, hb2⟩; have h2 := hb1.trans (hb2.mono hb1.size); clear hb2) | (go_at_call 21; ((with_reducible refine (K21.out _ h2).mono ?_)); rintro e' w3 ⟨rfl, hb3⟩; have h3 := h2.trans (hb3.mono h2.size); clear hb3) | (go_at_call 21; ((with_reducible refine (K21s.out _ h3).mono ?_)); rintro e' w4 ⟨rfl, hb4⟩; have h4 := h3.trans (hb4.mono h3.size); clear hb4) | (go_at_call 22; ((with_reducible refine (K22.out _).mono ?_)); rintro e' w5 ⟨rfl, rfl⟩) | (go_at_call 23; ((with_reducible refine (K23.out _).mono ?_)); rintro e' w6 ⟨rfl, hb6⟩; have h6 := h4.trans (hb6.mono h4.size); clear hb6) | (go_at_call 20; ((with_reducible refine (K20x.out _ h6).mono ?_)); rintro e' w7 ⟨rfl, hb7⟩; have h7 := h6.trans (hb7.mono h6.size); clear hb7))
    go_ret
    exact ⟨rfl, h7⟩
  · have hf0 : (f == 0) = false := by simpa using hf
    have hf1 : (f != 0) = true := by simpa using hf
    clear hx hback ht htl hG hn hxr hts hf
    go_enter Tryd.func6, Tryd.ntmps6
    go_wp2_with (first | (go_at_call 8; ((with_reducible refine KA.out.mono ?_)); rintro e' w1 ⟨rfl, hb1⟩) | (go_at_call 20; ((with_reducible refine (K20.out _ hb1).mono ?_)); rintro e' w2 ⟨rfl, hb2⟩; have h2 := hb1.trans (hb2.mono hb1.size); clear hb2) | (go_at_call 21; ((with_reducible refine (K21.out _ h2).mono ?_)); rintro e' w3 ⟨rfl, hb3⟩; have h3 := h2.trans (hb3.mono h2.size); clear hb3) | (go_at_call 21; ((with_reducible refine (K21s.out _ h3).mono ?_)); rintro e' w4 ⟨rfl, hb4⟩; have h4 := h3.trans (hb4.mono h3.size); clear hb4) | (go_at_call 22; ((with_reducible refine (K22.out _).mono ?_)); rintro e' w5 ⟨rfl, rfl⟩) | (go_at_call 23; ((with_reducible refine (K23.out _).mono ?_)); rintro e' w6 ⟨rfl, hb6⟩; have h6 := h4.trans (hb6.mono h4.size); clear hb6))
    go_ret
    exact ⟨rfl, h6⟩
theorem walk_texts (n : Int) (s : ByteArray) (hn : -9223372036854775808 ≤ n ∧ n ≤ 9223372036854775807) (hs : s.size ≤ maxLen) (w : World) (hG : Given w) :
    Calls Tryd.prog 6 #[.int .i64 n, .string s] w fun e w' => e = .returned (.bool true) ∧ Below w.heap.size w w' := by
  by_cases hl : 40 < s.size
  · exact texts_long n s hl (by unfold maxLen at hs; omega) w hG
  · exact texts_short n hn s hl w hG
end Go.Proofs.YtglbhbnbbpljnaaDoor
