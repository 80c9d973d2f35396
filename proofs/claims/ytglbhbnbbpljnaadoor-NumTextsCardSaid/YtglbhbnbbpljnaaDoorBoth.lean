/- num.Parse and the document's own reading come to the same, for every string of at most 1,000 bytes; a number's text is read back to it. -/
import Derived.Test.YtglbhbnbbpljnaaDoorRParse
import Derived.Test.YtglbhbnbbpljnaaDoorParse
namespace Go.Proofs.YtglbhbnbbpljnaaDoor
open Go Go.RowKit
set_option linter.unusedVariables false
def specL (l : List UInt8) (n e : Int) : Prop := if formL l = true then specD (digL l) (negL l) n e else n = 0 ∧ e = 1
theorem specL_some (l : List UInt8) : ∃ n e, specL l n e := by
  unfold specL; split
  · exact specD_some _ _
  · exact ⟨0, 1, rfl, rfl⟩
theorem neg_minus (r : List UInt8) : negL (45 :: r) = true := by simp [negL, Lib.hasPrefix]
theorem neg_other (c : UInt8) (r : List UInt8) (h : ¬ c = 45) : negL (c :: r) = false := by
  have h' : ¬ (45 : UInt8) = c := fun e => h e.symm
  show ([45] : List UInt8).isPrefixOf (c :: r) = false
  simp only [List.isPrefixOf, Bool.and_true, beq_eq_false_iff_ne]
  exact h'
theorem dig_minus (r : List UInt8) : digL (45 :: r) = r := by simp [digL, Lib.trimPrefix, Lib.hasPrefix]
theorem dig_other (c : UInt8) (r : List UInt8) (h : ¬ c = 45) : digL (c :: r) = c :: r := by
  have := neg_other c r h
  unfold negL at this
  unfold digL Lib.trimPrefix; rw [this]; rfl
theorem isD_fun : isD = digB := funext isD_eq
theorem form_minus (r : List UInt8) : formL (45 :: r) = formD r true := by rw [formL, neg_minus, dig_minus]
theorem form_other (c : UInt8) (r : List UInt8) (h : ¬ c = 45) : formL (c :: r) = formD (c :: r) false := by rw [formL, neg_other c r h, dig_other c r h]
theorem spec_same (c : UInt8) (r : List UInt8) (neg : Bool) (hc : ¬ c = 48) (n e : Int) (hs : if formD (c :: r) neg = true then specD (c :: r) neg n e else n = 0 ∧ e = 1) : specD (c :: r) neg n e := by
  have hf : formD (c :: r) neg = (c :: r).all digB := by simp only [formD]; rw [if_neg hc, isD_fun]
  rw [hf] at hs
  split at hs
  · exact hs
  · unfold specD; rw [if_neg (by assumption)]; exact hs
theorem first_is (s : ByteArray) (c : UInt8) (r : List UInt8) (h : s.data.toList = c :: r) : ∃ hp : 0 < s.size, s[0] = c := by
  have h1 : 0 < s.size := by
    have e : s.size = s.data.toList.length := (Array.length_toList).symm
    rw [e, h]; simp
  refine ⟨h1, ?_⟩
  have : s.data.toList[0]'(by rw [h]; simp) = c := by simp [h]
  show s.data[0] = c
  simpa using this
theorem size_is (s : ByteArray) (l : List UInt8) (h : s.data.toList = l) : s.size = l.length := by rw [← h]; exact (Array.length_toList).symm
theorem rparse_any (s : ByteArray) (hm : s.size ≤ 1000) (n e : Int) (hs : specL s.data.toList n e) (w : World) :
    Calls Tryd.prog 22 #[.string s] w fun e' w' => e' = .returned (.tuple #[.int .i64 n, .int .i64 e]) ∧ w = w' := by
  unfold specL at hs
  cases hl : s.data.toList with
  | nil =>
    rw [hl, if_neg (by decide)] at hs
    obtain ⟨rfl, rfl⟩ := hs
    exact rparse_empty s (by rw [size_is s _ hl]; rfl) w
  | cons c r =>
    rw [hl] at hs
    have h1 := first_is s c r hl
    have hsz := size_is s _ hl
    by_cases hc : c = 45
    · subst hc
      rw [form_minus, neg_minus, dig_minus] at hs
      have hx : ∃ h : 0 < s.size, (s[0].toNat : Int) = 45 := by
        obtain ⟨hp, h1⟩ := h1; exact ⟨hp, by rw [h1]; rfl⟩
      cases r with
      | nil =>
        rw [if_neg (by decide)] at hs
        obtain ⟨rfl, rfl⟩ := hs
        exact rparse_dash s (by rw [hsz]; rfl) hx w
      | cons c2 r2 =>
        have hd : (s.extract 1 s.size).data.toList = c2 :: r2 := by
          rw [Lib.extract_data, hl]; simp [hsz]
        have h2 := first_is _ c2 r2 hd
        by_cases h48 : c2 = 48
        · subst h48
          have : formD (48 :: r2) true = false := by simp [formD]
          rw [this, if_neg (by decide)] at hs
          obtain ⟨rfl, rfl⟩ := hs
          exact rparse_lead_n s _ hm hx rfl h2 w
        · refine rparse_n_main s _ hm hx rfl ?_ n e ?_ w
          · obtain ⟨hp, h2⟩ := h2; exact ⟨hp, by rw [h2]; exact h48⟩
          · rw [hd]; exact spec_same c2 r2 true h48 n e hs
    · rw [form_other c r hc, neg_other c r hc, dig_other c r hc] at hs
      by_cases h48 : c = 48
      · subst h48
        cases r with
        | nil =>
          rw [if_pos (by decide)] at hs
          exact rparse_p_zero s hm h1 (by rw [hsz]; rfl) n e (by rw [hl]; exact hs) w
        | cons c2 r2 =>
          have : formD (48 :: c2 :: r2) false = false := by simp [formD]
          rw [this, if_neg (by decide)] at hs
          obtain ⟨rfl, rfl⟩ := hs
          exact rparse_lead_p s hm h1 (by rw [hsz]; simp) w
      · refine rparse_p_main s hm ?_ n e ?_ w
        · obtain ⟨hp, h1⟩ := h1; exact ⟨hp, by rw [h1]; exact ⟨h48, hc⟩⟩
        · rw [hl]; exact spec_same c r false h48 n e hs
/-- What the form says of the digits. -/
theorem form_says (d : List UInt8) (neg : Bool) (h : formD d neg = true) : d.all digB = true ∧ d ≠ [] ∧ (d.head? ≠ some 48 ∨ d = [48] ∧ neg = false) := by
  cases d with
  | nil => simp [formD] at h
  | cons c r =>
    simp only [formD] at h
    by_cases hc : c = 48
    · rw [if_pos hc] at h
      simp only [Bool.and_eq_true, List.isEmpty_iff, Bool.not_eq_true'] at h
      obtain ⟨rfl, rfl⟩ := h
      subst hc
      exact ⟨by decide, by simp, Or.inr ⟨rfl, rfl⟩⟩
    · rw [if_neg hc, isD_fun] at h
      exact ⟨h, by simp, Or.inl (by simpa using hc)⟩
theorem value_of (l : List UInt8) (hf : formL l = true) : ∃ v : Int, v = (if negL l = true then -(valN (digL l) : Int) else (valN (digL l) : Int)) ∧
    Lib.parseIntB 64 l = if -9223372036854775808 ≤ v ∧ v ≤ 9223372036854775807 then .ok v else .range := by
  refine ⟨_, rfl, ?_⟩
  obtain ⟨h1, h2, h3⟩ := form_says _ _ hf
  cases l with
  | nil => exact absurd rfl h2
  | cons c r =>
    by_cases hc : c = 45
    · subst hc
      rw [dig_minus] at h1 h2 ⊢
      rw [neg_minus, if_pos rfl, val_minus r h2 h1]
      by_cases hv : valN r ≤ 9223372036854775808
      · rw [if_pos hv, if_pos (by omega)]
      · rw [if_neg hv, if_neg (by omega)]
    · rw [dig_other c r hc] at h1 ⊢
      rw [neg_other c r hc, val_plain c r h1]
      simp only [Bool.false_eq_true, if_false]
      by_cases hv : valN (c :: r) < 9223372036854775808
      · rw [if_pos hv, if_pos (by omega)]
      · rw [if_neg hv, if_neg (by omega)]
theorem parse_any (s : ByteArray) (hm : s.size ≤ 1000) (n e : Int) (hs : specL s.data.toList n e) (w : World) (hG : Given w) :
    Calls Tryd.prog 21 #[.string s] w fun e' w' => e' = .returned (.tuple #[.int .i64 n, .int .i64 e]) ∧ Below w.heap.size w w' := by
  unfold specL at hs
  by_cases hf : formL s.data.toList = true
  · rw [if_pos hf] at hs
    obtain ⟨v, hv, hp⟩ := value_of _ hf
    obtain ⟨h1, _, _⟩ := form_says _ _ hf
    unfold specD at hs; rw [if_pos h1] at hs
    obtain ⟨v2, hv2, hs⟩ := hs
    obtain rfl : v2 = v := by rw [hv2, hv]
    split at hs
    · rename_i hr
      obtain ⟨rfl, rfl⟩ := hs
      rw [if_pos hr] at hp
      exact parse_ok s _ hf hp hm w
    · rename_i hr
      obtain ⟨rfl, rfl⟩ := hs
      rw [if_neg hr] at hp
      exact parse_over s hf hp hm w hG
  · rw [if_neg hf] at hs
    obtain ⟨rfl, rfl⟩ := hs
    exact (parse_form s (by simpa using hf) hm w).mono fun e' w' ⟨he, hw⟩ => ⟨he, by rw [hw]; exact Below.refl _ _⟩

/-! A number's text. -/
theorem dec_first (u : Nat) : ∃ c r, Lib.decDigits u = c :: r ∧ ¬ c = 45 := by
  obtain ⟨h1, _, h3, _⟩ := dec_facts u
  cases h : Lib.decDigits u with
  | nil => exact absurd h h3
  | cons c r =>
    rw [h] at h1
    simp only [List.all_cons, Bool.and_eq_true] at h1
    have := dig_bd h1.1
    exact ⟨c, r, rfl, fun e => by subst e; exact absurd this.1 (by decide)⟩
theorem form_dec (u : Nat) (neg : Bool) (h : u ≠ 0 ∨ neg = false) : formD (Lib.decDigits u) neg = true := by
  obtain ⟨h1, h2, h3, h4⟩ := dec_facts u
  by_cases hu : u = 0
  · subst hu
    rw [dec_small (by decide)]
    rcases h with h | h
    · exact absurd rfl h
    · subst h; decide
  · cases hd : Lib.decDigits u with
    | nil => exact absurd hd h3
    | cons c r =>
      have := h4 hu
      rw [hd] at this h1
      simp only [formD]
      rw [if_neg (by simpa using this), isD_fun]; exact h1
theorem spec_text (n : Int) (h : -9223372036854775808 ≤ n ∧ n ≤ 9223372036854775807) : specL (Lib.itoa n) n 0 := by
  unfold specL Lib.itoa
  by_cases hn : n < 0
  · rw [if_pos hn, form_minus, form_dec _ _ (Or.inl (by omega)), if_pos rfl, neg_minus, dig_minus]
    obtain ⟨h1, h2, _, _⟩ := dec_facts n.natAbs
    unfold specD; rw [if_pos h1, h2]
    exact ⟨n, by rw [if_pos rfl]; omega, by rw [if_pos h]; exact ⟨rfl, rfl⟩⟩
  · rw [if_neg hn]
    obtain ⟨h1, h2, _, _⟩ := dec_facts n.toNat
    obtain ⟨c, r, hd, hc⟩ := dec_first n.toNat
    have hf := form_dec n.toNat false (Or.inr rfl)
    rw [hd] at hf h1 h2 ⊢
    rw [form_other c r hc, hf, if_pos rfl, neg_other c r hc, dig_other c r hc]
    unfold specD; rw [if_pos h1, h2]
    exact ⟨n, by rw [if_neg (by decide)]; omega, by rw [if_pos h]; exact ⟨rfl, rfl⟩⟩
theorem spec_back (l : List UInt8) (n e : Int) (hs : specL l n e) : (-9223372036854775808 ≤ n ∧ n ≤ 9223372036854775807) ∧ (e = 0 → Lib.itoa n = l) := by
  unfold specL at hs
  split at hs
  · rename_i hf
    obtain ⟨h1, h2, h3⟩ := form_says _ _ hf
    unfold specD at hs; rw [if_pos h1] at hs
    obtain ⟨v, hv, hs⟩ := hs
    split at hs
    · rename_i hr
      obtain ⟨rfl, rfl⟩ := hs
      refine ⟨hr, fun _ => ?_⟩
      cases l with
      | nil => exact absurd rfl h2
      | cons c r =>
        by_cases hc : c = 45
        · subst hc
          rw [dig_minus] at h1 h2 h3 hv
          rw [neg_minus] at h3 hv
          rw [if_pos rfl] at hv
          have h4 : r.head? ≠ some 48 := by
            rcases h3 with h | h
            · exact h
            · exact absurd h.2 (by decide)
          have hpos : 0 < valN r := by
            cases r with
            | nil => exact absurd rfl h2
            | cons c2 r2 => exact valN_pos c2 r2 h1 (by simpa using h4)
          unfold Lib.itoa
          rw [if_pos (by omega), show n.natAbs = valN r by omega, dec_val r h1 h2 (Or.inl h4)]
        · rw [dig_other c r hc] at h1 h2 h3 hv
          rw [neg_other c r hc, if_neg (by decide)] at hv
          unfold Lib.itoa
          rw [if_neg (by omega), show n.toNat = valN (c :: r) by omega, dec_val _ h1 h2]
          rcases h3 with h | h
          · exact Or.inl h
          · exact Or.inr h.1
    · obtain ⟨rfl, rfl⟩ := hs
      exact ⟨by omega, fun h => absurd h (by decide)⟩
  · obtain ⟨rfl, rfl⟩ := hs
    exact ⟨by omega, fun h => absurd h (by decide)⟩
end Go.Proofs.YtglbhbnbbpljnaaDoor
