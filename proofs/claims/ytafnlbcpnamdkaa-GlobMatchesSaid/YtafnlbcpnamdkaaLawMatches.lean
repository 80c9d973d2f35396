/- The walk of the statement GlobMatches, for every two lists of pieces and every text. -/
import Derived.Test.YtafnlbcpnamdkaaLawAny
namespace Go.Proofs.Ytafnlbcpnamdkaa
open Go Go.RowKit

set_option maxHeartbeats 1000000 in
theorem matches_full (A A' : Option Addr) (n c n' c' : Nat) (l l' : List Gl) (s : ByteArray) (w : World) (h : RdG w.heap.size w A n l) (h' : RdG w.heap.size w A' n' l') (hc : Cap A n c) (hc' : Cap A' n' c')
    (hs : smallG l = true) (hs' : smallG l' = true) (h60 : ¬ 60 < s.size) :
    Calls Try.prog 5 #[.slice A n c, .slice A' n' c', .string s] w fun e w' => e = .returned (.bool true) ∧ Below w.heap.size w w' := by
  obtain ⟨s1, s2⟩ := small_n hs
  obtain ⟨s1', s2'⟩ := small_n hs'
  have hn := h.1
  have hn' := h'.1
  have KA := Lib.hid (awake_any w)
  obtain ⟨x, hx⟩ : ∃ x, x = (may l && mat l s.data.toList) := ⟨_, rfl⟩
  obtain ⟨x', hx'⟩ : ∃ x, x = (may l' && mat l' s.data.toList) := ⟨_, rfl⟩
  obtain ⟨y, hy⟩ : ∃ y, y = sameB l l' := ⟨_, rfl⟩
  have K8 : Hid (∀ w2, Below w.heap.size w w2 → Calls Try.prog 8 #[.slice A n c] w2 fun e w' => e = .returned (.bool true) ∧ Below w2.heap.size w2 w') := Lib.hid fun w2 hb => by
    have := small_any A n c l w2 (h.next hb) (by omega); rw [hs] at this; exact this
  have K8' : Hid (∀ w2, Below w.heap.size w w2 → Calls Try.prog 8 #[.slice A' n' c'] w2 fun e w' => e = .returned (.bool true) ∧ Below w2.heap.size w2 w') := Lib.hid fun w2 hb => by
    have := small_any A' n' c' l' w2 (h'.next hb) (by omega); rw [hs'] at this; exact this
  have K17 : Hid (∀ w2, Below w.heap.size w w2 → Calls Try.prog 17 #[.slice A n c, .string s] w2 fun e w' => e = .returned (.bool x) ∧ Below w2.heap.size w2 w') := Lib.hid fun w2 hb => by
    rw [hx]; exact match_any A n c l s w2 (h.next hb) hc.1 hc.2.1 hc.2.2 hs (by omega)
  have K17' : Hid (∀ w2, Below w.heap.size w w2 → Calls Try.prog 17 #[.slice A' n' c', .string s] w2 fun e w' => e = .returned (.bool x') ∧ Below w2.heap.size w2 w') := Lib.hid fun w2 hb => by
    rw [hx']; exact match_any A' n' c' l' s w2 (h'.next hb) hc'.1 hc'.2.1 hc'.2.2 hs' (by omega)
  have K18 : Hid (∀ w2, Below w.heap.size w w2 → Calls Try.prog 18 #[.slice A n c, .string s] w2 fun e w' => e = .returned (.bool x) ∧ Below w2.heap.size w2 w') := Lib.hid fun w2 hb => by
    rw [hx]; exact rmatch_any A n c l s w2 (h.next hb) hs (by omega)
  have K18' : Hid (∀ w2, Below w.heap.size w w2 → Calls Try.prog 18 #[.slice A' n' c', .string s] w2 fun e w' => e = .returned (.bool x') ∧ Below w2.heap.size w2 w') := Lib.hid fun w2 hb => by
    rw [hx']; exact rmatch_any A' n' c' l' s w2 (h'.next hb) hs' (by omega)
  have K15 : Hid (∀ w2, Below w.heap.size w w2 → Calls Try.prog 15 #[.slice A n c, .slice A' n' c'] w2 fun e w' => e = .returned (.bool y) ∧ Below w2.heap.size w2 w') := Lib.hid fun w2 hb => by
    rw [hy]; exact same_any A A' n n' c c' l l' w2 (h.next hb) (h'.next hb) (by omega) (by omega) (fun g hg => Nat.le_trans (s2 g hg) (by omega)) (fun g hg => Nat.le_trans (s2' g hg) (by omega))
  have K14 : Hid (∀ w2, Below w.heap.size w w2 → Calls Try.prog 14 #[.slice A n c, .slice A' n' c'] w2 fun e w' => e = .returned (.bool y) ∧ Below w2.heap.size w2 w') := Lib.hid fun w2 hb => by
    rw [hy]; exact rsame_any A A' n n' c c' l l' w2 (h.next hb) (h'.next hb) (by omega) (by omega) (fun g hg => Nat.le_trans (s2 g hg) (by omega)) (fun g hg => Nat.le_trans (s2' g hg) (by omega))
  clear hx hx' hy h h' hc hc' hs hs' s1 s2 s1' s2' hn hn'
  go_enter Try.func5, Try.ntmps5
  go_wp2_with (first
    | (go_at_call 7; ((with_reducible refine (KA.out).mono ?_)); rintro e w0 ⟨rfl, hb0⟩; have Z0 := Lib.hid hb0; clear hb0)
    | (go_at_call 8; ((with_reducible refine (K8.out _ Z0.out).mono ?_)); rintro e w1 ⟨rfl, hb1⟩; have Z1 := Lib.hid (Z0.out.trans (hb1.mono Z0.out.size)); clear hb1)
    | (go_at_call 8; ((with_reducible refine (K8'.out _ Z1.out).mono ?_)); rintro e w2 ⟨rfl, hb2⟩; have Z2 := Lib.hid (Z1.out.trans (hb2.mono Z1.out.size)); clear hb2)
    | (go_at_call 17; ((with_reducible refine (K17.out _ Z2.out).mono ?_)); rintro e w3 ⟨rfl, hb3⟩; have Z3 := Lib.hid (Z2.out.trans (hb3.mono Z2.out.size)); clear hb3)
    | (go_at_call 18; ((with_reducible refine (K18.out _ Z3.out).mono ?_)); rintro e w4 ⟨rfl, hb4⟩; have Z4 := Lib.hid (Z3.out.trans (hb4.mono Z3.out.size)); clear hb4)
    | (go_at_call 17; ((with_reducible refine (K17'.out _ Z4.out).mono ?_)); rintro e w5 ⟨rfl, hb5⟩; have Z5 := Lib.hid (Z4.out.trans (hb5.mono Z4.out.size)); clear hb5)
    | (go_at_call 18; ((with_reducible refine (K18'.out _ Z5.out).mono ?_)); rintro e w6 ⟨rfl, hb6⟩; have Z6 := Lib.hid (Z5.out.trans (hb6.mono Z5.out.size)); clear hb6)
    | (go_at_call 15; ((with_reducible refine (K15.out _ Z6.out).mono ?_)); rintro e w7 ⟨rfl, hb7⟩; have Z7 := Lib.hid (Z6.out.trans (hb7.mono Z6.out.size)); clear hb7)
    | (go_at_call 14; ((with_reducible refine (K14.out _ Z7.out).mono ?_)); rintro e w8 ⟨rfl, hb8⟩; have Z8 := Lib.hid (Z7.out.trans (hb8.mono Z7.out.size)); clear hb8))
  go_ret
  exact ⟨ret_bool (by simp), Z8.out⟩
set_option maxHeartbeats 1000000 in
theorem matches_long (A A' : Option Addr) (n c n' c' : Nat) (l l' : List Gl) (s : ByteArray) (w : World) (h : RdG w.heap.size w A n l) (h' : RdG w.heap.size w A' n' l') (hm : n ≤ 9223372036854775807) (hm' : n' ≤ 9223372036854775807)
    (h60 : 60 < s.size) :
    Calls Try.prog 5 #[.slice A n c, .slice A' n' c', .string s] w fun e w' => e = .returned (.bool true) ∧ Below w.heap.size w w' := by
  have KA := Lib.hid (awake_any w)
  obtain ⟨x, hx⟩ : ∃ x, x = smallG l := ⟨_, rfl⟩
  obtain ⟨x', hx'⟩ : ∃ x, x = smallG l' := ⟨_, rfl⟩
  have K8 : Hid (∀ w2, Below w.heap.size w w2 → Calls Try.prog 8 #[.slice A n c] w2 fun e w' => e = .returned (.bool x) ∧ Below w2.heap.size w2 w') := Lib.hid fun w2 hb => by
    rw [hx]; exact small_any A n c l w2 (h.next hb) hm
  have K8' : Hid (∀ w2, Below w.heap.size w w2 → Calls Try.prog 8 #[.slice A' n' c'] w2 fun e w' => e = .returned (.bool x') ∧ Below w2.heap.size w2 w') := Lib.hid fun w2 hb => by
    rw [hx']; exact small_any A' n' c' l' w2 (h'.next hb) hm'
  clear hx hx' h h'
  cases x
  · go_enter Try.func5, Try.ntmps5
    go_wp2_with (first
      | (go_at_call 7; ((with_reducible refine (KA.out).mono ?_)); rintro e w0 ⟨rfl, hb0⟩; have Z0 := Lib.hid hb0; clear hb0)
      | (go_at_call 8; ((with_reducible refine (K8.out _ Z0.out).mono ?_)); rintro e w1 ⟨rfl, hb1⟩; have Z1 := Lib.hid (Z0.out.trans (hb1.mono Z0.out.size)); clear hb1))
    go_ret
    exact ⟨rfl, Z1.out⟩
  · cases x'
    all_goals
      go_enter Try.func5, Try.ntmps5
      go_wp2_with (first
        | (go_at_call 7; ((with_reducible refine (KA.out).mono ?_)); rintro e w0 ⟨rfl, hb0⟩; have Z0 := Lib.hid hb0; clear hb0)
        | (go_at_call 8; ((with_reducible refine (K8.out _ Z0.out).mono ?_)); rintro e w1 ⟨rfl, hb1⟩; have Z1 := Lib.hid (Z0.out.trans (hb1.mono Z0.out.size)); clear hb1)
        | (go_at_call 8; ((with_reducible refine (K8'.out _ Z1.out).mono ?_)); rintro e w2 ⟨rfl, hb2⟩; have Z2 := Lib.hid (Z1.out.trans (hb2.mono Z1.out.size)); clear hb2))
      go_ret
      exact ⟨rfl, Z2.out⟩
set_option maxHeartbeats 1000000 in
theorem matches_not (A A' : Option Addr) (n c n' c' : Nat) (l l' : List Gl) (s : ByteArray) (w : World) (h : RdG w.heap.size w A n l) (h' : RdG w.heap.size w A' n' l') (hm : n ≤ 9223372036854775807) (hm' : n' ≤ 9223372036854775807)
    (hs : (smallG l && smallG l') = false) (_ : s.size ≤ 9223372036854775807) :
    Calls Try.prog 5 #[.slice A n c, .slice A' n' c', .string s] w fun e w' => e = .returned (.bool true) ∧ Below w.heap.size w w' := by
  have KA := Lib.hid (awake_any w)
  obtain ⟨x, hx⟩ : ∃ x, x = smallG l := ⟨_, rfl⟩
  obtain ⟨x', hx'⟩ : ∃ x, x = smallG l' := ⟨_, rfl⟩
  rw [← hx, ← hx'] at hs
  have K8 : Hid (∀ w2, Below w.heap.size w w2 → Calls Try.prog 8 #[.slice A n c] w2 fun e w' => e = .returned (.bool x) ∧ Below w2.heap.size w2 w') := Lib.hid fun w2 hb => by
    rw [hx]; exact small_any A n c l w2 (h.next hb) hm
  have K8' : Hid (∀ w2, Below w.heap.size w w2 → Calls Try.prog 8 #[.slice A' n' c'] w2 fun e w' => e = .returned (.bool x') ∧ Below w2.heap.size w2 w') := Lib.hid fun w2 hb => by
    rw [hx']; exact small_any A' n' c' l' w2 (h'.next hb) hm'
  clear hx hx' h h'
  cases x
  · clear hs
    go_enter Try.func5, Try.ntmps5
    go_wp2_with (first
      | (go_at_call 7; ((with_reducible refine (KA.out).mono ?_)); rintro e w0 ⟨rfl, hb0⟩; have Z0 := Lib.hid hb0; clear hb0)
      | (go_at_call 8; ((with_reducible refine (K8.out _ Z0.out).mono ?_)); rintro e w1 ⟨rfl, hb1⟩; have Z1 := Lib.hid (Z0.out.trans (hb1.mono Z0.out.size)); clear hb1))
    go_ret
    exact ⟨rfl, Z1.out⟩
  · cases x'
    · clear hs
      go_enter Try.func5, Try.ntmps5
      go_wp2_with (first
        | (go_at_call 7; ((with_reducible refine (KA.out).mono ?_)); rintro e w0 ⟨rfl, hb0⟩; have Z0 := Lib.hid hb0; clear hb0)
        | (go_at_call 8; ((with_reducible refine (K8.out _ Z0.out).mono ?_)); rintro e w1 ⟨rfl, hb1⟩; have Z1 := Lib.hid (Z0.out.trans (hb1.mono Z0.out.size)); clear hb1)
        | (go_at_call 8; ((with_reducible refine (K8'.out _ Z1.out).mono ?_)); rintro e w2 ⟨rfl, hb2⟩; have Z2 := Lib.hid (Z1.out.trans (hb2.mono Z1.out.size)); clear hb2))
      go_ret
      exact ⟨rfl, Z2.out⟩
    · simp at hs
theorem walk_matches (A A' : Option Addr) (n c n' c' : Nat) (l l' : List Gl) (s : ByteArray) (w : World) (h : RdG w.heap.size w A n l) (h' : RdG w.heap.size w A' n' l') (hc : Cap A n c) (hc' : Cap A' n' c') (hsz : s.size ≤ 9223372036854775807) :
    Calls Try.prog 5 #[.slice A n c, .slice A' n' c', .string s] w fun e w' => e = .returned (.bool true) ∧ Below w.heap.size w w' := by
  have m1 : n ≤ 9223372036854775807 := by have := hc.1; have := hc.2.1; unfold maxLen at this; omega
  have m2 : n' ≤ 9223372036854775807 := by have := hc'.1; have := hc'.2.1; unfold maxLen at this; omega
  by_cases h60 : 60 < s.size
  · exact matches_long A A' n c n' c' l l' s w h h' m1 m2 h60
  · by_cases hs : (smallG l && smallG l') = true
    · rw [Bool.and_eq_true] at hs
      exact matches_full A A' n c n' c' l l' s w h h' hc hc' hs.1 hs.2 h60
    · exact matches_not A A' n c n' c' l l' s w h h' m1 m2 (Bool.eq_false_iff.2 hs) hsz
end Go.Proofs.Ytafnlbcpnamdkaa
