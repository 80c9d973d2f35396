/- How reading goes on: what EreGoes leans on. -/
import Derived.Test.YtccheljfbjllhaaDoorStab4
namespace Go.Proofs.YtccheljfbjllhaaDoor
open Go Go.RowKit

/-- What reading a short text ends with. -/
theorem parse_ends (s : Bs) (hs : s.length ≤ 200) : (∃ x, parseE s = (some x, 0, 0)) ∨ ∃ q er, parseE s = (none, q, er) ∧ q ≤ s.length ∧ (er = 1 ∨ er = 8 ∧ q < s.length) := by
  unfold parseE
  rw [if_neg (by omega)]
  rcases ha : exC s 64 0 0 with ⟨q, e⟩ | ⟨x, q, g'⟩
  · obtain ⟨_, h2, h3⟩ := (exC_good s 64 0 0 (by omega)).1 q e ha
    exact .inr ⟨q, e, rfl, h2, h3⟩
  · dsimp only
    by_cases hq : q < s.length
    · rw [if_pos hq]; exact .inr ⟨q, 1, rfl, by omega, .inl rfl⟩
    · rw [if_neg hq]; exact .inl ⟨x, rfl⟩
/-- A fault ahead of the end stays, whatever stands behind it. -/
theorem parse_goes {s t : Bs} {q : Nat} {er : Int} (hs : s.length ≤ 200) (ht : t.length ≤ 200) (h : parseE s = (none, q, er)) (hq : q < s.length) (hqt : q < t.length) (ha : Ag s t (q + 1)) : parseE t = (none, q, er) := by
  unfold parseE at h ⊢
  rw [if_neg (by omega)] at h ⊢
  rcases hx : exC s 64 0 0 with ⟨p, e⟩ | ⟨x, p, g'⟩
  · rw [hx] at h
    injection h with _ h
    injection h with h1 h2
    subst h1 h2
    have e := exC_st 64 s t 0 0 (by omega) (by omega) (by dsimp only; rw [hx]; exact ha)
    dsimp only at e
    rw [e, hx]
  · rw [hx] at h
    dsimp only at h
    by_cases hp : p < s.length
    · rw [if_pos hp] at h
      injection h with _ h
      injection h with h1 h2
      subst h1 h2
      have e := exC_st 64 s t 0 0 (by omega) (by omega) (by dsimp only; rw [hx]; exact ha)
      dsimp only at e
      rw [e, hx]
      dsimp only
      rw [if_pos hqt]
    · rw [if_neg hp] at h; injection h with h _; cases h
theorem ag_append (s r : Bs) {q : Nat} (hq : q < s.length) : Ag s (s ++ r) (q + 1) := fun i hi => by rw [List.getElem?_append_left (by omega)]
theorem ag_take (s : Bs) (q : Nat) : Ag s (s.take (q + 1)) (q + 1) := fun i hi => by rw [List.getElem?_take, if_pos hi]
end Go.Proofs.YtccheljfbjllhaaDoor
