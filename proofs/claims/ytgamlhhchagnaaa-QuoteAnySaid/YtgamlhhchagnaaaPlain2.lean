/- Plain facts on lists of bytes: what a step looks at, what is behind makes no difference, and how a text is gone on with. -/
import Derived.Test.YtgamlhhchagnaaaPlain
namespace Go.Proofs.Ytgamlhhchagnaaa
open Go Go.RowKit

theorem isIn125 : isIn 125 = false := by decide
theorem tk_stop : ∀ (k : Nat) (r : Bs) (d : UInt8) (t : Bs), tk k r = r.length → isIn d = false → tk k (r ++ d :: t) = r.length
  | 0, r, d, t, h, _ => by simp [tk] at h; rw [List.length_eq_zero_iff.1 h.symm]; simp [tk]
  | k + 1, [], d, t, _, hd => by simp [tk_cons, hd]
  | k + 1, c :: r, d, t, h, hd => by
    rw [tk_cons] at h
    rw [List.cons_append, tk_cons]
    by_cases hc : isIn c = true
    · simp only [hc, if_true] at h ⊢
      rw [tk_stop k r d t (by simpa using h) hd]; simp
    · simp [hc] at h
theorem nameLen_stop (r : Bs) (d : UInt8) (t : Bs) (h : nameLen r = r.length) (h0 : r ≠ []) (hd : isIn d = false) : nameLen (r ++ d :: t) = r.length := by
  cases r with
  | nil => exact absurd rfl h0
  | cons c r =>
    rw [nameLen_cons] at h
    rw [List.cons_append, nameLen_cons]
    by_cases h1 : isDig c = true
    · simp only [h1, if_true] at h ⊢; exact h
    · by_cases h2 : isLow c = true
      · simp only [h1, h2, if_true] at h ⊢
        rw [if_neg (by simp)] at h ⊢
        rw [tk_stop 7 r d t (by simpa using h) hd]; simp
      · simp [h1, h2] at h
theorem nameLen_swap (r : Bs) (d : UInt8) (t t' : Bs) (h : nameLen (r ++ d :: t) = r.length) (h0 : r ≠ []) : nameLen (r ++ d :: t') = r.length := by
  have hl : 0 < r.length := List.length_pos_iff.2 h0
  have h1 := nameLen_take (r ++ d :: t) (r.length + 1) (by omega) (by omega) (by simp)
  have e : (r ++ d :: t).take (r.length + 1) = r ++ [d] := by
    rw [List.take_append, List.take_of_length_le (by omega)]; simp
  rw [e, h] at h1
  have h2 := nameLen_more (r ++ [d]) t' (by simp; omega)
  rw [h1] at h2
  rw [← h2]; simp
theorem nameLen_self (r : Bs) (d : UInt8) (t : Bs) (h : nameLen (r ++ d :: t) = r.length) (h0 : r ≠ []) : nameLen r = r.length := by
  have hl : 0 < r.length := List.length_pos_iff.2 h0
  have h1 := nameLen_take (r ++ d :: t) r.length (by omega) hl (by simp)
  rw [h] at h1
  simpa using h1
theorem var_form {r nm : Bs} {k : Nat} (h : stepVar r = .var nm k) : ∃ t, r = 123 :: (nm ++ 125 :: t) ∧ nameLen (nm ++ 125 :: t) = nm.length ∧ nm ≠ [] ∧ k = nm.length + 3 := by
  obtain ⟨n, hn, h0, hnm, hk, hl, hh, hd⟩ := stepVar_var h
  cases r with
  | nil => simp at hh
  | cons c r =>
    simp only [List.tail_cons, List.head?_cons, Option.some.injEq, List.length_cons] at hn hnm hh hd hl
    have hnl : nm.length = n := by rw [hnm, List.length_take]; omega
    have ht : r.drop n = 125 :: (r.drop n).tail := by
      cases hx : r.drop n with
      | nil => rw [hx] at hd; simp at hd
      | cons a b => rw [hx] at hd; simp at hd; simp [hd]
    have hr : r = nm ++ 125 :: (r.drop n).tail := by rw [← ht, hnm]; exact (List.take_append_drop n r).symm
    refine ⟨(r.drop n).tail, ?_, ?_, ?_, ?_⟩
    · rw [hh]; exact congrArg _ hr
    · rw [← hr, ← hn, hnl]
    · intro e; rw [e] at hnl; simp at hnl; omega
    · omega
theorem var_mk (nm t : Bs) (h : nameLen (nm ++ 125 :: t) = nm.length) (h0 : nm ≠ []) : stepVar (123 :: (nm ++ 125 :: t)) = .var nm (nm.length + 3) := by
  have hl : 0 < nm.length := List.length_pos_iff.2 h0
  unfold stepVar
  simp only [if_true, h]
  rw [if_neg (by omega)]
  simp
theorem esc_form {r : Bs} {b : UInt8} {k : Nat} (h : stepEsc r = .byte b k) : (∃ c t, r = c :: t ∧ c ≠ 120 ∧ escD c = some b ∧ k = 2) ∨ ∃ c d t, r = 120 :: c :: d :: t ∧ 0 ≤ hexD c ∧ 0 ≤ hexD d ∧ b = UInt8.ofNat (hexD c * 16 + hexD d).toNat ∧ k = 4 := by
  cases r with
  | nil => simp [stepEsc] at h
  | cons c r =>
    unfold stepEsc at h
    dsimp only at h
    split at h
    · rename_i hc
      subst hc
      cases r with
      | nil => simp [stepHex] at h
      | cons x r =>
        unfold stepHex at h
        dsimp only at h
        split at h
        · cases h
        · cases r with
          | nil => simp at h
          | cons y r =>
            dsimp only at h
            split at h
            · cases h
            · injection h with h1 h2
              exact .inr ⟨x, y, r, rfl, by omega, by omega, h1.symm, h2.symm⟩
    · rename_i hc
      split at h
      · rename_i b' hb
        injection h with h1 h2
        exact .inl ⟨c, r, rfl, hc, by rw [hb, h1], h2.symm⟩
      · cases h
theorem esc_mk (c b : UInt8) (t : Bs) (h : c ≠ 120) (hb : escD c = some b) : stepEsc (c :: t) = .byte b 2 := by
  unfold stepEsc; simp only; rw [if_neg h, hb]
theorem hex_mk (c d : UInt8) (t : Bs) (h : 0 ≤ hexD c) (hb : 0 ≤ hexD d) : stepEsc (120 :: c :: d :: t) = .byte (UInt8.ofNat (hexD c * 16 + hexD d).toNat) 4 := by
  have e : stepEsc (120 :: c :: d :: t) = if hexD c < 0 then .bad 2 else if hexD d < 0 then .bad 3 else .byte (UInt8.ofNat (hexD c * 16 + hexD d).toNat) 4 := rfl
  rw [e, if_neg (by omega), if_neg (by omega)]
/-- The ways on which a step goes on. -/
theorem byte_form {r : Bs} {b : UInt8} {k : Nat} (h : step r = .byte b k) : (∃ t, r = b :: t ∧ plainB b = true ∧ k = 1) ∨ (∃ c t, r = 92 :: c :: t ∧ c ≠ 120 ∧ escD c = some b ∧ k = 2) ∨
    ∃ c d t, r = 92 :: 120 :: c :: d :: t ∧ 0 ≤ hexD c ∧ 0 ≤ hexD d ∧ b = UInt8.ofNat (hexD c * 16 + hexD d).toNat ∧ k = 4 := by
  cases r with
  | nil => simp [step] at h
  | cons c r =>
    unfold step at h
    dsimp only at h
    split at h
    · cases h
    · split at h
      · exfalso
        unfold stepVar at h
        split at h
        · cases h
        · split at h
          · split at h
            · cases h
            · split at h
              · cases h
              · split at h <;> cases h
          · cases h
      · split at h
        · rename_i hc
          subst hc
          rcases esc_form h with ⟨c, t, rfl, h1⟩ | ⟨c, d, t, rfl, h1⟩
          · exact .inr (.inl ⟨c, t, rfl, h1⟩)
          · exact .inr (.inr ⟨c, d, t, rfl, h1⟩)
        · split at h
          · rename_i hp
            injection h with h1 h2
            subst h1
            exact .inl ⟨r, rfl, hp, h2.symm⟩
          · cases h
theorem plain_ne {b : UInt8} (h : plainB b = true) : b ≠ 34 ∧ b ≠ 36 ∧ b ≠ 92 := by
  refine ⟨?_, ?_, ?_⟩ <;> (rintro rfl; revert h; decide)
theorem step_plain (b : UInt8) (t : Bs) (h : plainB b = true) : step (b :: t) = .byte b 1 := by
  obtain ⟨h1, h2, h3⟩ := plain_ne h
  unfold step; simp [h1, h2, h3, h]
theorem step_esc (t : Bs) : step (92 :: t) = stepEsc t := by unfold step; simp
theorem step_dollar (t : Bs) : step (36 :: t) = stepVar t := by unfold step; simp
theorem step_quote (t : Bs) : step (34 :: t) = .stop := by unfold step; simp
theorem stop_form {r : Bs} (h : step r = .stop) : ∃ t, r = 34 :: t := by
  cases r with
  | nil => simp [step] at h
  | cons c r =>
    by_cases hc : c = 34
    · exact ⟨r, by rw [hc]⟩
    · exfalso
      unfold step at h
      dsimp only at h
      rw [if_neg hc] at h
      split at h
      · unfold stepVar at h
        split at h
        · cases h
        · split at h
          · split at h
            · cases h
            · split at h
              · cases h
              · split at h <;> cases h
          · cases h
      · split at h
        · unfold stepEsc at h
          split at h
          · cases h
          · split at h
            · unfold stepHex at h
              split at h
              · cases h
              · split at h
                · cases h
                · split at h
                  · cases h
                  · split at h <;> cases h
            · split at h <;> cases h
        · split at h <;> cases h
theorem svar_form {r nm : Bs} {k : Nat} (h : step r = .var nm k) : ∃ t, r = 36 :: 123 :: (nm ++ 125 :: t) ∧ nameLen (nm ++ 125 :: t) = nm.length ∧ nm ≠ [] ∧ k = nm.length + 3 := by
  cases r with
  | nil => simp [step] at h
  | cons c r =>
    unfold step at h
    dsimp only at h
    split at h
    · cases h
    · split at h
      · rename_i hc
        obtain ⟨t, hr, h1⟩ := var_form h
        exact ⟨t, by rw [hc, hr], h1⟩
      · exfalso
        split at h
        · unfold stepEsc at h
          split at h
          · cases h
          · split at h
            · unfold stepHex at h
              split at h
              · cases h
              · split at h
                · cases h
                · split at h
                  · cases h
                  · split at h <;> cases h
            · split at h <;> cases h
        · split at h <;> cases h
theorem step_var (nm t : Bs) (h : nameLen (nm ++ 125 :: t) = nm.length) (h0 : nm ≠ []) : step (36 :: 123 :: (nm ++ 125 :: t)) = .var nm (nm.length + 3) := by
  rw [step_dollar, var_mk nm t h h0]
/-- What a step takes, and that what is behind makes no difference. -/
theorem byte_local {r : Bs} {b : UInt8} {k : Nat} (h : step r = .byte b k) : 0 < k ∧ k ≤ r.length ∧ ∀ X, step (r.take k ++ X) = .byte b k := by
  rcases byte_form h with ⟨t, rfl, hp, rfl⟩ | ⟨c, t, rfl, hc, hb, rfl⟩ | ⟨c, d, t, rfl, hc, hd, rfl, rfl⟩
  · exact ⟨by omega, by simp, fun X => step_plain b X hp⟩
  · exact ⟨by omega, by simp, fun X => by simp only [List.take_succ_cons, List.take_zero, List.cons_append, List.nil_append]; rw [step_esc, esc_mk c b X hc hb]⟩
  · exact ⟨by omega, by simp, fun X => by simp only [List.take_succ_cons, List.take_zero, List.cons_append, List.nil_append]; rw [step_esc, hex_mk c d X hc hd]⟩
theorem var_local {r nm : Bs} {k : Nat} (h : step r = .var nm k) : 0 < k ∧ k ≤ r.length ∧ ∀ X, step (r.take k ++ X) = .var nm k := by
  obtain ⟨t, rfl, hn, h0, rfl⟩ := svar_form h
  refine ⟨by omega, by simp, fun X => ?_⟩
  have e : (36 :: 123 :: (nm ++ 125 :: t)).take (nm.length + 3) ++ X = 36 :: 123 :: (nm ++ 125 :: X) := by
    simp [List.take_append, List.take_of_length_le]
  rw [e]
  exact step_var nm X (nameLen_swap nm 125 t X hn h0) h0
theorem stop_local {r : Bs} (h : step r = .stop) : 1 ≤ r.length ∧ r.head? = some 34 := by
  obtain ⟨t, rfl⟩ := stop_form h
  simp
theorem bad_le {r : Bs} {k : Nat} (h : step r = .bad k) : k ≤ r.length := by
  cases r with
  | nil => simp [step] at h; omega
  | cons c r =>
    unfold step at h
    dsimp only at h
    split at h
    · cases h
    · split at h
      · have := stepVar_bad h; simp; omega
      · split at h
        · unfold stepEsc at h
          split at h
          · injection h with h; subst h; simp
          · split at h
            · unfold stepHex at h
              split at h
              · injection h with h; subst h; simp
              · split at h
                · injection h with h; subst h; simp
                · split at h
                  · injection h with h; subst h; simp
                  · split at h
                    · injection h with h; subst h; simp
                    · cases h
            · split at h
              · cases h
              · injection h with h; subst h; simp
        · split at h
          · cases h
          · injection h with h; subst h; simp
theorem bad_more {r : Bs} {k : Nat} (m : Bs) (h : step r = .bad k) (hk : k < r.length) : step (r ++ m) = .bad k := by
  cases r with
  | nil => simp at hk
  | cons c r =>
    unfold step at h ⊢
    simp only [List.cons_append]
    dsimp only at h
    split at h
    · cases h
    · rename_i h34
      rw [if_neg h34]
      split at h
      · rename_i h36
        rw [if_pos h36]
        cases r with
        | nil => simp [stepVar] at h; subst h; simp at hk
        | cons d r =>
          unfold stepVar at h ⊢
          simp only [List.cons_append]
          dsimp only at h
          split at h
          · rename_i hd
            rw [if_pos hd]
            split at h
            · rename_i hn
              injection h with h; subst h
              have hn' : nameLen (r ++ m) = 0 := by rw [nameLen_more r m (by simp at hk; omega)]; exact hn
              rw [if_pos hn']
            · rename_i hn
              have hle := nameLen_le r
              split at h
              · rename_i hx
                injection h with h; subst h
                have := congrArg List.length hx
                simp at this hk; omega
              · rename_i x t hx
                have hl := congrArg List.length hx
                simp at hl
                have hn' : nameLen (r ++ m) = nameLen r := nameLen_more r m (by omega)
                rw [hn', if_neg hn, List.drop_append_of_le_length (by omega), hx]
                simp only [List.cons_append]
                split at h
                · cases h
                · rename_i hx2
                  rw [if_neg hx2]; exact h
          · rename_i hd
            rw [if_neg hd]; exact h
      · rename_i h36
        rw [if_neg h36]
        split at h
        · rename_i h92
          rw [if_pos h92]
          cases r with
          | nil => simp [stepEsc] at h; subst h; simp at hk
          | cons d r =>
            unfold stepEsc at h ⊢
            simp only [List.cons_append]
            dsimp only at h
            split at h
            · rename_i hd
              rw [if_pos hd]
              cases r with
              | nil => simp [stepHex] at h; subst h; simp at hk
              | cons x r =>
                unfold stepHex at h ⊢
                simp only [List.cons_append]
                dsimp only at h
                split at h
                · rename_i hx
                  rw [if_pos hx]; exact h
                · rename_i hx
                  rw [if_neg hx]
                  cases r with
                  | nil => simp at h; subst h; simp at hk
                  | cons y r =>
                    simp only [List.cons_append]
                    dsimp only at h
                    split at h
                    · rename_i hy
                      rw [if_pos hy]; exact h
                    · cases h
            · rename_i hd
              rw [if_neg hd]
              exact h
        · rename_i h92
          rw [if_neg h92]
          exact h
/- The texts by which one may go on. -/
def ends : List Bs := [[34], [110, 34], [48, 48, 34], [48, 34], [123, 97, 125, 34], [97, 125, 34], [125, 34], [34, 34]]
def Goes (l : Bs) : Prop := step l = .stop ∨ (∃ c k, step l = .byte c k ∧ l.drop k = [34]) ∨ ∃ nm k, step l = .var nm k ∧ l.drop k = [34]
theorem esc120 : escD 120 = none := by decide
theorem bad_goes {r : Bs} {k : Nat} (h : step r = .bad k) : ∃ e ∈ ends, Goes (r.take k ++ e) := by
  have m0 : ([34] : Bs) ∈ ends := by decide
  have zero : ∃ e ∈ ends, Goes (r.take 0 ++ e) := ⟨[34], m0, .inl (by simp [step])⟩
  cases r with
  | nil => simp [step] at h; subst h; exact zero
  | cons c r =>
    unfold step at h
    dsimp only at h
    split at h
    · cases h
    · split at h
      · rename_i h36
        subst h36
        have one : ∃ e ∈ ends, Goes ((36 :: r).take 1 ++ e) := ⟨[123, 97, 125, 34], by decide, .inr (.inr ⟨[97], 4, by rfl, by rfl⟩)⟩
        cases r with
        | nil => simp [stepVar] at h; subst h; exact one
        | cons d r =>
          unfold stepVar at h
          dsimp only at h
          split at h
          · rename_i hd
            subst hd
            split at h
            · injection h with h; subst h
              exact ⟨[97, 125, 34], by decide, .inr (.inr ⟨[97], 4, by rfl, by rfl⟩)⟩
            · rename_i hn
              have hle := nameLen_le r
              have fin : ∃ e ∈ ends, Goes ((36 :: 123 :: r).take (2 + nameLen r) ++ e) := by
                refine ⟨[125, 34], by decide, .inr (.inr ⟨r.take (nameLen r), nameLen r + 3, ?_, ?_⟩)⟩
                · have e : (36 :: 123 :: r).take (2 + nameLen r) ++ [125, 34] = 36 :: 123 :: (r.take (nameLen r) ++ 125 :: [34]) := by
                    rw [Nat.add_comm]; simp
                  have hl : (r.take (nameLen r)).length = nameLen r := by rw [List.length_take]; omega
                  rw [e, step_var _ _ (nameLen_stop _ _ _ (by rw [nameLen_take r _ (Nat.le_refl _) (by omega) (by omega), hl]) (by intro e; rw [e] at hl; simp at hl; omega) isIn125) (by intro e; rw [e] at hl; simp at hl; omega), hl]
                · have e : (36 :: 123 :: r).take (2 + nameLen r) ++ [125, 34] = (36 :: 123 :: r).take (2 + nameLen r) ++ [125] ++ [34] := by simp
                  rw [e]
                  apply List.drop_left'
                  simp; omega
              split at h
              · injection h with h; subst h; exact fin
              · split at h
                · cases h
                · injection h with h; subst h; exact fin
          · injection h with h; subst h; exact one
      · split at h
        · rename_i h92
          subst h92
          have one : ∃ e ∈ ends, Goes ((92 :: r).take 1 ++ e) := ⟨[110, 34], by decide, .inr (.inl ⟨10, 2, by rfl, by rfl⟩)⟩
          cases r with
          | nil => simp [stepEsc] at h; subst h; exact one
          | cons d r =>
            unfold stepEsc at h
            dsimp only at h
            split at h
            · rename_i hd
              subst hd
              have two : ∃ e ∈ ends, Goes ((92 :: 120 :: r).take 2 ++ e) := ⟨[48, 48, 34], by decide, .inr (.inl ⟨0, 4, by rfl, by rfl⟩)⟩
              cases r with
              | nil => simp [stepHex] at h; subst h; exact two
              | cons x r =>
                unfold stepHex at h
                dsimp only at h
                split at h
                · injection h with h; subst h; exact two
                · rename_i hx
                  have three : ∃ e ∈ ends, Goes ((92 :: 120 :: x :: r).take 3 ++ e) := ⟨[48, 34], by decide, .inr (.inl ⟨UInt8.ofNat (hexD x * 16 + hexD 48).toNat, 4, by
                    simp only [List.take_succ_cons, List.take_zero, List.cons_append, List.nil_append]; rw [step_esc, hex_mk x 48 _ (by omega) (by decide)], by rfl⟩)⟩
                  split at h
                  · injection h with h; subst h; exact three
                  · split at h
                    · injection h with h; subst h; exact three
                    · cases h
            · split at h
              · cases h
              · injection h with h; subst h; exact one
        · split at h
          · cases h
          · injection h with h; subst h; exact zero
end Go.Proofs.Ytgamlhhchagnaaa
