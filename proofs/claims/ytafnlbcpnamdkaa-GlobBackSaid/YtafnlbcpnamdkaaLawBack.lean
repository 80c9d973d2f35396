/- The walk of the statement GlobBack, for every list of pieces. -/
import Derived.Test.YtafnlbcpnamdkaaLawAny
namespace Go.Proofs.Ytafnlbcpnamdkaa
open Go Go.RowKit

theorem prints_of {R : ByteArray × Int} {gs : List Gl} (h : printR gs = R) (A : Option Addr) (n c : Nat) (w : World) (hr : RdG w.heap.size w A n gs) (hs : smallG gs = true) :
    Calls Try.prog 9 #[.slice A n c] w fun e w' => e = .returned (.tuple #[.string R.1, .int .i64 R.2]) ∧ Below w.heap.size w w' := by
  subst h; exact print_any A n c gs w hr hs
theorem printR_no {gs : List Gl} (h : may gs = false) : printR gs = (⟨#[]⟩, 5) := by unfold printR; rw [h]; rfl
theorem printR_long {gs : List Gl} (h : may gs = true) (h2 : 200 < (text gs).length) : printR gs = (⟨#[]⟩, 2) := by unfold printR; rw [if_pos h, if_pos h2]
theorem printR_yes {gs : List Gl} (h : may gs = true) (h2 : ¬ 200 < (text gs).length) : printR gs = (⟨(text gs).toArray⟩, 0) := by unfold printR; rw [if_pos h, if_neg h2]
set_option maxHeartbeats 1000000 in
theorem back_not (A : Option Addr) (n c : Nat) (gs : List Gl) (w : World) (h : RdG w.heap.size w A n gs) (hm : n ≤ 9223372036854775807) (hs : smallG gs = false) :
    Calls Try.prog 3 #[.slice A n c] w fun e w' => e = .returned (.bool true) ∧ Below w.heap.size w w' := by
  have KA := Lib.hid (awake_any w)
  have K8 : Hid (∀ w2, Below w.heap.size w w2 → Calls Try.prog 8 #[.slice A n c] w2 fun e w' => e = .returned (.bool false) ∧ Below w2.heap.size w2 w') := Lib.hid fun w2 hb => by
    have := small_any A n c gs w2 (h.next hb) hm; rw [hs] at this; exact this
  clear h hs
  go_enter Try.func3, Try.ntmps3
  go_wp2_with (first
    | (go_at_call 7; ((with_reducible refine (KA.out).mono ?_)); rintro e w0 ⟨rfl, hb0⟩; have Z0 := Lib.hid hb0; clear hb0)
    | (go_at_call 8; ((with_reducible refine (K8.out _ Z0.out).mono ?_)); rintro e w1 ⟨rfl, hb1⟩; have Z1 := Lib.hid (Z0.out.trans (hb1.mono Z0.out.size)); clear hb1))
  go_ret
  exact ⟨rfl, Z1.out⟩
set_option maxRecDepth 100000 in
set_option maxHeartbeats 2000000 in
theorem back_no (A : Option Addr) (n c : Nat) (gs : List Gl) (w : World) (h : RdG w.heap.size w A n gs) (hs : smallG gs = true) (hm : may gs = false) :
    Calls Try.prog 3 #[.slice A n c] w fun e w' => e = .returned (.bool true) ∧ Below w.heap.size w w' := by
  obtain ⟨s1, s2⟩ := small_n hs
  have hn := h.1
  have KA := Lib.hid (awake_any w)
  have K8 : Hid (∀ w2, Below w.heap.size w w2 → Calls Try.prog 8 #[.slice A n c] w2 fun e w' => e = .returned (.bool true) ∧ Below w2.heap.size w2 w') := Lib.hid fun w2 hb => by
    have := small_any A n c gs w2 (h.next hb) (by omega); rw [hs] at this; exact this
  have K9 : Hid (∀ w2, Below w.heap.size w w2 → Calls Try.prog 9 #[.slice A n c] w2 fun e w' => e = .returned (.tuple #[.string ⟨#[]⟩, .int .i64 5]) ∧ Below w2.heap.size w2 w') := Lib.hid fun w2 hb =>
    prints_of (printR_no hm) A n c w2 (h.next hb) hs
  have K10 : Hid (∀ w2, Below w.heap.size w w2 → Calls Try.prog 10 #[.slice A n c] w2 fun e w' => e = .returned (.bool false) ∧ Below w2.heap.size w2 w') := Lib.hid fun w2 hb => by
    have := rmay_any A n c gs w2 (h.next hb) (by omega) (fun g hg => Nat.le_trans (s2 g hg) (by omega)); rw [hm] at this; exact this
  have K11 : Hid (∀ w2, Below w.heap.size w w2 → Calls Try.prog 11 #[.slice A n c] w2 fun e w' => e = .returned (.bool false) ∧ Below w2.heap.size w2 w') := Lib.hid fun w2 hb => by
    have := may_any A n c gs w2 (h.next hb) (by omega) (fun g hg => Nat.le_trans (s2 g hg) (by omega)); rw [hm] at this; exact this
  clear h hs hm s1 s2 hn
  go_enter Try.func3, Try.ntmps3
  go_wp2_with (first
    | (go_at_call 7; ((with_reducible refine (KA.out).mono ?_)); rintro e w0 ⟨rfl, hb0⟩; have Z0 := Lib.hid hb0; clear hb0)
    | (go_at_call 8; ((with_reducible refine (K8.out _ Z0.out).mono ?_)); rintro e w1 ⟨rfl, hb1⟩; have Z1 := Lib.hid (Z0.out.trans (hb1.mono Z0.out.size)); clear hb1)
    | (go_at_call 9; ((with_reducible refine (K9.out _ Z1.out).mono ?_)); rintro e w2 ⟨rfl, hb2⟩; have Z2 := Lib.hid (Z1.out.trans (hb2.mono Z1.out.size)); clear hb2)
    | (go_at_call 10; ((with_reducible refine (K10.out _ Z2.out).mono ?_)); rintro e w3 ⟨rfl, hb3⟩; have Z3 := Lib.hid (Z2.out.trans (hb3.mono Z2.out.size)); clear hb3)
    | (go_at_call 11; ((with_reducible refine (K11.out _ Z3.out).mono ?_)); rintro e w4 ⟨rfl, hb4⟩; have Z4 := Lib.hid (Z3.out.trans (hb4.mono Z3.out.size)); clear hb4))
  go_ret
  exact ⟨rfl, Z4.out⟩
set_option maxRecDepth 100000 in
set_option maxHeartbeats 2000000 in
theorem back_long (A : Option Addr) (n c : Nat) (gs : List Gl) (w : World) (h : RdG w.heap.size w A n gs) (hs : smallG gs = true) (hm : may gs = true) (h200 : 200 < (text gs).length) :
    Calls Try.prog 3 #[.slice A n c] w fun e w' => e = .returned (.bool true) ∧ Below w.heap.size w w' := by
  obtain ⟨s1, s2⟩ := small_n hs
  have hn := h.1
  have KA := Lib.hid (awake_any w)
  have K8 : Hid (∀ w2, Below w.heap.size w w2 → Calls Try.prog 8 #[.slice A n c] w2 fun e w' => e = .returned (.bool true) ∧ Below w2.heap.size w2 w') := Lib.hid fun w2 hb => by
    have := small_any A n c gs w2 (h.next hb) (by omega); rw [hs] at this; exact this
  have K9 : Hid (∀ w2, Below w.heap.size w w2 → Calls Try.prog 9 #[.slice A n c] w2 fun e w' => e = .returned (.tuple #[.string ⟨#[]⟩, .int .i64 2]) ∧ Below w2.heap.size w2 w') := Lib.hid fun w2 hb =>
    prints_of (printR_long hm h200) A n c w2 (h.next hb) hs
  have K10 : Hid (∀ w2, Below w.heap.size w w2 → Calls Try.prog 10 #[.slice A n c] w2 fun e w' => e = .returned (.bool true) ∧ Below w2.heap.size w2 w') := Lib.hid fun w2 hb => by
    have := rmay_any A n c gs w2 (h.next hb) (by omega) (fun g hg => Nat.le_trans (s2 g hg) (by omega)); rw [hm] at this; exact this
  have K11 : Hid (∀ w2, Below w.heap.size w w2 → Calls Try.prog 11 #[.slice A n c] w2 fun e w' => e = .returned (.bool true) ∧ Below w2.heap.size w2 w') := Lib.hid fun w2 hb => by
    have := may_any A n c gs w2 (h.next hb) (by omega) (fun g hg => Nat.le_trans (s2 g hg) (by omega)); rw [hm] at this; exact this
  obtain ⟨T, hT⟩ : ∃ T : ByteArray, T = ⟨(text gs).toArray⟩ := ⟨_, rfl⟩
  have K12 : Hid (∀ w2, Below w.heap.size w w2 → Calls Try.prog 12 #[.slice A n c] w2 fun e w' => e = .returned (.string T) ∧ Below w2.heap.size w2 w') := Lib.hid fun w2 hb => by
    rw [hT]; exact rprint_any A n c gs w2 (h.next hb) hs hm
  have hTs : 200 < T.size := by rw [← len_data, hT]; exact h200
  have hTs2 : T.size ≤ 20000 := st_size (l := text gs) (by rw [hT]) (by have := text_len gs s2; omega)
  clear h hs hm s1 s2 hn hT h200
  go_enter Try.func3, Try.ntmps3
  go_wp2_with (first
    | (go_at_call 7; ((with_reducible refine (KA.out).mono ?_)); rintro e w0 ⟨rfl, hb0⟩; have Z0 := Lib.hid hb0; clear hb0)
    | (go_at_call 8; ((with_reducible refine (K8.out _ Z0.out).mono ?_)); rintro e w1 ⟨rfl, hb1⟩; have Z1 := Lib.hid (Z0.out.trans (hb1.mono Z0.out.size)); clear hb1)
    | (go_at_call 9; ((with_reducible refine (K9.out _ Z1.out).mono ?_)); rintro e w2 ⟨rfl, hb2⟩; have Z2 := Lib.hid (Z1.out.trans (hb2.mono Z1.out.size)); clear hb2)
    | (go_at_call 10; ((with_reducible refine (K10.out _ Z2.out).mono ?_)); rintro e w3 ⟨rfl, hb3⟩; have Z3 := Lib.hid (Z2.out.trans (hb3.mono Z2.out.size)); clear hb3)
    | (go_at_call 12; ((with_reducible refine (K12.out _ Z3.out).mono ?_)); rintro e w4 ⟨rfl, hb4⟩; have Z4 := Lib.hid (Z3.out.trans (hb4.mono Z3.out.size)); clear hb4)
    | (go_at_call 11; ((with_reducible refine (K11.out _ Z4.out).mono ?_)); rintro e w5 ⟨rfl, hb5⟩; have Z5 := Lib.hid (Z4.out.trans (hb5.mono Z4.out.size)); clear hb5))
  go_ret
  exact ⟨rfl, Z5.out⟩
set_option maxRecDepth 100000 in
set_option maxHeartbeats 2000000 in
theorem back_yes (A : Option Addr) (n c : Nat) (gs : List Gl) (w : World) (h : RdG w.heap.size w A n gs) (hs : smallG gs = true) (hm : may gs = true) (h200 : ¬ 200 < (text gs).length) :
    Calls Try.prog 3 #[.slice A n c] w fun e w' => e = .returned (.bool true) ∧ Below w.heap.size w w' := by
  obtain ⟨s1, s2⟩ := small_n hs
  obtain rfl := h.1
  have KA := Lib.hid (awake_any w)
  have K8 : Hid (∀ w2, Below w.heap.size w w2 → Calls Try.prog 8 #[.slice A gs.length c] w2 fun e w' => e = .returned (.bool true) ∧ Below w2.heap.size w2 w') := Lib.hid fun w2 hb => by
    have := small_any A gs.length c gs w2 (h.next hb) (by omega); rw [hs] at this; exact this
  obtain ⟨T, hT⟩ : ∃ T : ByteArray, T = ⟨(text gs).toArray⟩ := ⟨_, rfl⟩
  have K9 : Hid (∀ w2, Below w.heap.size w w2 → Calls Try.prog 9 #[.slice A gs.length c] w2 fun e w' => e = .returned (.tuple #[.string T, .int .i64 0]) ∧ Below w2.heap.size w2 w') := Lib.hid fun w2 hb => by
    rw [hT]; exact prints_of (printR_yes hm h200) A gs.length c w2 (h.next hb) hs
  have K10 : Hid (∀ w2, Below w.heap.size w w2 → Calls Try.prog 10 #[.slice A gs.length c] w2 fun e w' => e = .returned (.bool true) ∧ Below w2.heap.size w2 w') := Lib.hid fun w2 hb => by
    have := rmay_any A gs.length c gs w2 (h.next hb) (by omega) (fun g hg => Nat.le_trans (s2 g hg) (by omega)); rw [hm] at this; exact this
  have K11 : Hid (∀ w2, Below w.heap.size w w2 → Calls Try.prog 11 #[.slice A gs.length c] w2 fun e w' => e = .returned (.bool true) ∧ Below w2.heap.size w2 w') := Lib.hid fun w2 hb => by
    have := may_any A gs.length c gs w2 (h.next hb) (by omega) (fun g hg => Nat.le_trans (s2 g hg) (by omega)); rw [hm] at this; exact this
  have K12 : Hid (∀ w2, Below w.heap.size w w2 → Calls Try.prog 12 #[.slice A gs.length c] w2 fun e w' => e = .returned (.string T) ∧ Below w2.heap.size w2 w') := Lib.hid fun w2 hb => by
    rw [hT]; exact rprint_any A gs.length c gs w2 (h.next hb) hs hm
  have hTs : ¬ 200 < T.size := by rw [← len_data, hT]; exact h200
  have hpt : parse T.data.toList = (some gs, 0, 0) := by rw [hT]; exact parse_text gs hm (by omega)
  have K13 := Lib.hid fun w => parse_read T (by omega) (some gs) 0 0 gs rfl hpt w
  have K14 : Hid (∀ A' c' w2, Below w.heap.size w w2 → RdG w2.heap.size w2 A' gs.length gs → Calls Try.prog 14 #[.slice A' gs.length c', .slice A gs.length c] w2 fun e w' => e = .returned (.bool true) ∧ Below w2.heap.size w2 w') :=
    Lib.hid fun A' c' w2 hb hr => rsame_read gs (by omega) (fun g hg => Nat.le_trans (s2 g hg) (by omega)) A' A c' c w2 hr (h.next hb)
  have K15 : Hid (∀ A' c' w2, Below w.heap.size w w2 → RdG w2.heap.size w2 A' gs.length gs → Calls Try.prog 15 #[.slice A' gs.length c', .slice A gs.length c] w2 fun e w' => e = .returned (.bool true) ∧ Below w2.heap.size w2 w') :=
    Lib.hid fun A' c' w2 hb hr => by
      have := same_any A' A gs.length gs.length c' c gs gs w2 hr (h.next hb) (by omega) (by omega) (fun g hg => Nat.le_trans (s2 g hg) (by omega)) (fun g hg => Nat.le_trans (s2 g hg) (by omega))
      rw [sameB_self] at this; exact this
  clear h hs hm s2 hT h200 hpt
  go_enter Try.func3, Try.ntmps3
  go_wp2_with (first
    | (go_at_call 7; ((with_reducible refine (KA.out).mono ?_)); rintro e w0 ⟨rfl, hb0⟩; have Z0 := Lib.hid hb0; clear hb0)
    | (go_at_call 8; ((with_reducible refine (K8.out _ Z0.out).mono ?_)); rintro e w1 ⟨rfl, hb1⟩; have Z1 := Lib.hid (Z0.out.trans (hb1.mono Z0.out.size)); clear hb1)
    | (go_at_call 9; ((with_reducible refine (K9.out _ Z1.out).mono ?_)); rintro e w2 ⟨rfl, hb2⟩; have Z2 := Lib.hid (Z1.out.trans (hb2.mono Z1.out.size)); clear hb2)
    | (go_at_call 10; ((with_reducible refine (K10.out _ Z2.out).mono ?_)); rintro e w3 ⟨rfl, hb3⟩; have Z3 := Lib.hid (Z2.out.trans (hb3.mono Z2.out.size)); clear hb3)
    | (go_at_call 12; ((with_reducible refine (K12.out _ Z3.out).mono ?_)); rintro e w4 ⟨rfl, hb4⟩; have Z4 := Lib.hid (Z3.out.trans (hb4.mono Z3.out.size)); clear hb4)
    | (go_at_call 13; ((with_reducible refine (K13.out _).mono ?_)); rintro e w5 ⟨A5, c5, rfl, hr5, hc5, hb5⟩; have Z5 := Lib.hid (Z4.out.trans (hb5.mono Z4.out.size)); have HR5 := Lib.hid hr5; clear hb5 hr5 hc5)
    | (go_at_call 11; ((with_reducible refine (K11.out _ Z5.out).mono ?_)); rintro e w6 ⟨rfl, hb6⟩; have Z6 := Lib.hid (Z5.out.trans (hb6.mono Z5.out.size)); have HR6 := Lib.hid (HR5.out.next hb6); clear hb6)
    | (go_at_call 14; ((with_reducible refine (K14.out _ _ _ Z6.out HR6.out).mono ?_)); rintro e w7 ⟨rfl, hb7⟩; have Z7 := Lib.hid (Z6.out.trans (hb7.mono Z6.out.size)); have HR7 := Lib.hid (HR6.out.next hb7); clear hb7)
    | (go_at_call 15; ((with_reducible refine (K15.out _ _ _ Z7.out HR7.out).mono ?_)); rintro e w8 ⟨rfl, hb8⟩; have Z8 := Lib.hid (Z7.out.trans (hb8.mono Z7.out.size)); clear hb8))
  go_ret
  exact ⟨rfl, Z8.out⟩
theorem walk_back (A : Option Addr) (n c : Nat) (gs : List Gl) (w : World) (h : RdG w.heap.size w A n gs) (hm : n ≤ 9223372036854775807) :
    Calls Try.prog 3 #[.slice A n c] w fun e w' => e = .returned (.bool true) ∧ Below w.heap.size w w' := by
  by_cases hs : smallG gs = true
  · by_cases hy : may gs = true
    · by_cases h200 : 200 < (text gs).length
      · exact back_long A n c gs w h hs hy h200
      · exact back_yes A n c gs w h hs hy h200
    · exact back_no A n c gs w h hs (Bool.eq_false_iff.2 hy)
  · exact back_not A n c gs w h hm (Bool.eq_false_iff.2 hs)
end Go.Proofs.Ytafnlbcpnamdkaa
