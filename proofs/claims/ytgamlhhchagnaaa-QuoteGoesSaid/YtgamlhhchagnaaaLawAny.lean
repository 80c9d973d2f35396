/- The walk of the statement QuoteAny, for every text. -/
import Derived.Test.YtgamlhhchagnaaaAwake
namespace Go.Proofs.Ytgamlhhchagnaaa
open Go Go.RowKit

theorem goN_len (r : Bs) (pos : Nat) (ps : List Pt) (t : Bs) : ∀ out, (goN r pos ps t).1 = some out → out.length ≤ ps.length + 1 + 2 * r.length := by
  refine goN_ind (P := fun r pos ps t => ∀ out, (goN r pos ps t).1 = some out → out.length ≤ ps.length + 1 + 2 * r.length) ?_ ?_ ?_ ?_ (r.length + 1) r pos ps t (Nat.lt_succ_self _)
  · intro r k pos ps t h out ho
    rw [goN_bad h] at ho; cases ho
  · intro r pos ps t h out ho
    rw [goN_stop h] at ho; injection ho with ho; subst ho
    have := flush_len ps t; omega
  · intro r nm k pos ps t h h0 h1 ih out ho
    rw [goN_var h] at ho
    have := ih out ho
    have h2 := flush_len ps t
    rw [List.length_append, List.length_drop] at this
    simp at this; omega
  · intro r c k pos ps t h h0 h1 ih out ho
    rw [goN_byte h] at ho
    have := ih out ho
    rw [List.length_drop] at this; omega
theorem parse_len (l : Bs) (out : List Pt) (h : (parse l).1 = some out) : out.length ≤ 1 + 2 * l.length := by
  cases l with
  | nil => simp [parse] at h
  | cons c r =>
    by_cases hc : c = 34
    · subst hc
      rw [parse_quote] at h
      have := goN_len r 1 [] [] out h
      simp at this ⊢; omega
    · rw [parse_no c r hc] at h; cases h
theorem may_names : ∀ (b : Bool) (ps : List Pt), may b ps = true → ∀ p ∈ ps, p.1.length ≤ 8
  | _, [], _, p, hp => by simp at hp
  | b, q :: r, h, p, hp => by
    rw [may_cons, Bool.and_eq_true] at h
    rcases List.mem_cons.1 hp with rfl | hp
    · have h1 := h.1
      unfold okP at h1
      split at h1
      · rename_i e; rw [e]; simp
      · rw [Bool.and_eq_true] at h1
        have h2 := h1.2
        unfold isName at h2
        simp at h2
        have := (nameLen_le p.1).2
        omega
    · exact may_names _ r h.2 p hp
theorem Rd.onto {w w' : World} {A : Option Addr} {n : Nat} {ps : List Pt} (h : Rd w.heap.size w A n ps) (hb : Below w.heap.size w w') : Rd w'.heap.size w' A n ps :=
  ⟨h.1, fun hn => by
    obtain ⟨ad, e, hr⟩ := h.2 hn
    exact ⟨ad, e, Nat.lt_of_lt_of_le hr.1 hb.size, (hr.keep hb).2⟩⟩
set_option maxHeartbeats 1000000 in
theorem any_some (s : ByteArray) (hs : ¬ 80 < s.size) (ps : List Pt) (m : Nat) (h : parse s.data.toList = (some ps, m)) (w : World) :
    Calls Try.prog 4 #[.string s] w fun e w' => e = .returned (.bool true) ∧ Below w.heap.size w w' := by
  have hm := parse_may s.data.toList ps (by rw [h])
  have hl := parse_len s.data.toList ps (by rw [h])
  rw [len_data] at hl
  have hn8 := may_names false ps hm
  obtain ⟨n, hn⟩ : ∃ n, n = ps.length := ⟨_, rfl⟩
  have KA := Lib.hid (awake_any w)
  have K11 : Hid (∀ w, Calls Try.prog 11 #[.string s] w (Read w ps m)) := Lib.hid (parse_read s (by omega) ps m h)
  have K15 : Hid (∀ w, Calls Try.prog 15 #[.string s] w (Read w ps m)) := Lib.hid (rparse_read s (by omega) ps m h)
  have K14 : Hid (∀ A A' c c' w, Rd w.heap.size w A ps.length ps → Rd w.heap.size w A' ps.length ps → Calls Try.prog 14 #[.slice A ps.length c, .slice A' ps.length c'] w fun e w' => e = .returned (.bool true) ∧ Below w.heap.size w w') :=
    Lib.hid fun A A' c c' w h1 h2 => same_any A A' ps.length c c' ps w h1 h2 (by omega)
  have K10 : Hid (∀ A c w, Rd w.heap.size w A ps.length ps → Calls Try.prog 10 #[.slice A ps.length c] w fun e w' => e = .returned (.bool true) ∧ Below w.heap.size w w') :=
    Lib.hid fun A c w h1 => by have := may_any A ps.length c ps w h1 (by omega) (fun p hp => Nat.le_trans (hn8 p hp) (by omega)); rw [hm] at this; exact this
  have K16 := Lib.hid fun w => name_any s (by omega) w
  have K17 := Lib.hid fun w => rname_any s (by omega) w
  obtain ⟨v, hv⟩ : ∃ v, v = isName s.data.toList := ⟨_, rfl⟩
  rw [← hv] at K16 K17
  clear h hm hl hn8 hv hn
  cases v
  all_goals
    go_enter Try.func4, Try.ntmps4
    go_wp2_with (first | (go_at_call 6; ((with_reducible refine (KA.out).mono ?_)); rintro e w0 ⟨rfl, hb0⟩) | (go_at_call 11; ((with_reducible refine (K11.out _).mono ?_)); rintro e w1 ⟨A, c, rfl, hr1, hb1⟩; have HR1 := Lib.hid hr1; clear hr1) | (go_at_call 15; ((with_reducible refine (K15.out _).mono ?_)); rintro e w2 ⟨A', c', rfl, hr2, hb2⟩; have HR2 := Lib.hid hr2; clear hr2) | (go_at_call 14; ((with_reducible refine (K14.out _ _ _ _ _ (HR1.out.onto hb2) HR2.out).mono ?_)); rintro e w3 ⟨rfl, hb3⟩) | (go_at_call 16; ((with_reducible refine (K16.out _).mono ?_)); rintro e w4 ⟨rfl, rfl⟩) | (go_at_call 17; ((with_reducible refine (K17.out _).mono ?_)); rintro e w4 ⟨rfl, rfl⟩) | (go_at_call 10; ((with_reducible refine (K10.out _ _ _ ((HR1.out.onto hb2).onto hb3)).mono ?_)); rintro e w5 ⟨rfl, hb5⟩))
    go_ret
    have z1 := hb0.trans (hb1.mono hb0.size)
    have z2 := z1.trans (hb2.mono z1.size)
    have z3 := z2.trans (hb3.mono z2.size)
    exact ⟨rfl, z3.trans (hb5.mono z3.size)⟩
set_option maxHeartbeats 1000000 in
theorem any_none (s : ByteArray) (hs : ¬ 80 < s.size) (m : Nat) (h : parse s.data.toList = (none, m)) (w : World) :
    Calls Try.prog 4 #[.string s] w fun e w' => e = .returned (.bool true) ∧ Below w.heap.size w w' := by
  have KA := Lib.hid (awake_any w)
  have K11 : Hid (∀ w, Calls Try.prog 11 #[.string s] w (NoRead w m)) := Lib.hid (parse_noread s (by omega) m h)
  have K15 : Hid (∀ w, Calls Try.prog 15 #[.string s] w (NoRead w m)) := Lib.hid (rparse_noread s (by omega) m h)
  have K14 : Hid (∀ A A' c c' w, Calls Try.prog 14 #[.slice A 0 c, .slice A' 0 c'] w fun e w' => e = .returned (.bool true) ∧ Below w.heap.size w w') :=
    Lib.hid fun A A' c c' w => same_any A A' 0 c c' [] w ⟨rfl, fun h => by omega⟩ ⟨rfl, fun h => by omega⟩ (by omega)
  have K16 := Lib.hid fun w => name_any s (by omega) w
  have K17 := Lib.hid fun w => rname_any s (by omega) w
  obtain ⟨v, hv⟩ : ∃ v, v = isName s.data.toList := ⟨_, rfl⟩
  rw [← hv] at K16 K17
  clear h hv
  cases v
  all_goals
    go_enter Try.func4, Try.ntmps4
    go_wp2_with (first | (go_at_call 6; ((with_reducible refine (KA.out).mono ?_)); rintro e w0 ⟨rfl, hb0⟩) | (go_at_call 11; ((with_reducible refine (K11.out _).mono ?_)); rintro e w1 ⟨A, c, rfl, hb1⟩) | (go_at_call 15; ((with_reducible refine (K15.out _).mono ?_)); rintro e w2 ⟨A', c', rfl, hb2⟩) | (go_at_call 14; ((with_reducible refine (K14.out _ _ _ _ _).mono ?_)); rintro e w3 ⟨rfl, hb3⟩) | (go_at_call 16; ((with_reducible refine (K16.out _).mono ?_)); rintro e w4 ⟨rfl, rfl⟩) | (go_at_call 17; ((with_reducible refine (K17.out _).mono ?_)); rintro e w4 ⟨rfl, rfl⟩))
    go_ret
    have z1 := hb0.trans (hb1.mono hb0.size)
    have z2 := z1.trans (hb2.mono z1.size)
    exact ⟨rfl, z2.trans (hb3.mono z2.size)⟩
theorem any_long (s : ByteArray) (hs : 80 < s.size) (w : World) :
    Calls Try.prog 4 #[.string s] w fun e w' => e = .returned (.bool true) ∧ Below w.heap.size w w' := by
  have KA := Lib.hid (awake_any w)
  go_enter Try.func4, Try.ntmps4
  go_wp2_with (go_at_call 6; ((with_reducible refine (KA.out).mono ?_)); rintro e w0 ⟨rfl, hb0⟩)
  go_ret
  exact ⟨rfl, hb0⟩
theorem walk_any (s : ByteArray) (w : World) : Calls Try.prog 4 #[.string s] w fun e w' => e = .returned (.bool true) ∧ Below w.heap.size w w' := by
  by_cases hs : 80 < s.size
  · exact any_long s hs w
  · obtain ⟨o, m, h⟩ : ∃ o m, parse s.data.toList = (o, m) := ⟨_, _, rfl⟩
    cases o with
    | none => exact any_none s hs m h w
    | some ps => exact any_some s hs ps m h w
end Go.Proofs.Ytgamlhhchagnaaa
