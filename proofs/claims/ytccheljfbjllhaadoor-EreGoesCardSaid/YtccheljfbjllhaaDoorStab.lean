/- What is read of a text depends on its bytes up to the place alone. -/
import Derived.Test.YtccheljfbjllhaaDoorRe
namespace Go.Proofs.YtccheljfbjllhaaDoor
open Go Go.RowKit

/-- Two texts agree on their first n places. -/
def Ag (s t : Bs) (n : Nat) : Prop := ∀ i, i < n → s[i]? = t[i]?
theorem Ag.le {s t : Bs} {n m : Nat} (h : Ag s t n) (hm : m ≤ n) : Ag s t m := fun i hi => h i (by omega)
def Res.at_ {α : Type} : Res α → Nat
  | .bad q => q
  | .ok _ q => q
def Ro.at_ {α : Type} : Ro α → Nat
  | .bad q _ => q
  | .ok _ q _ => q
theorem rb_get (sg s : Bs) (k : Nat) : rb sg s k = match s[k]? with
    | none => .bad k
    | some c => if c = 92 then (match s[k + 1]? with
        | none => .bad (k + 1)
        | some d => .ok d (k + 2)) else if c ∈ sg then .bad k else .ok c (k + 1) := by
  unfold rb
  rcases h : s.drop k with _ | ⟨c, r⟩
  · have : s[k]? = none := by rw [List.getElem?_eq_none]; simpa using h
    rw [this]
  · have h0 : s[k]? = some c := by
      have := List.getElem?_drop (xs := s) (i := k) (j := 0); rw [h] at this; simpa using this.symm
    have h1 : s[k + 1]? = r.head? := by
      have := List.getElem?_drop (xs := s) (i := k) (j := 1); rw [h] at this
      cases r <;> simpa using this.symm
    rw [h0, h1]
    dsimp only
    cases r <;> rfl
theorem rb_st {sg s t : Bs} {k : Nat} (h : Ag s t ((rb sg s k).at_ + 1)) : rb sg t k = rb sg s k := by
  rw [rb_get] at h
  rw [rb_get sg t, rb_get sg s]
  cases h0 : s[k]? with
  | none =>
    rw [h0] at h
    rw [← h k (by simp [Res.at_]), h0]
  | some c =>
    rw [h0] at h
    have hk : s[k]? = t[k]? := h k (by dsimp only; split <;> (try split) <;> simp [Res.at_] <;> omega)
    rw [← hk, h0]
    dsimp only at h ⊢
    by_cases hc : c = 92
    · rw [if_pos hc] at h
      rw [if_pos hc, if_pos hc]
      have hk1 : s[k + 1]? = t[k + 1]? := h (k + 1) (by split <;> simp [Res.at_])
      rw [← hk1]
    · rw [if_neg hc, if_neg hc]
theorem numb_st {s t : Bs} {k : Nat} (l : Int) (h : s[k]? = t[k]?) : numb t k l = numb s k l := by unfold numb; rw [h]
theorem closeB_st {s t : Bs} {k : Nat} (lo hi : Int) (h : s[k]? = t[k]?) : closeB t k lo hi = closeB s k lo hi := by unfold closeB; rw [h]
theorem bnds_st {s t : Bs} {k : Nat} (h : Ag s t ((bnds s k).at_ + 1)) (hk : k ≤ s.length) : bnds t k = bnds s k := by
  have hb := bnds_bd hk
  have hge : k ≤ (bnds s k).at_ := by revert hb; cases bnds s k <;> simp [Res.at_] <;> omega
  unfold bnds at h hge ⊢
  have e0 := h k (by omega)
  rw [numb_st 0 e0]
  cases h1 : numb s k 0 with
  | none => rfl
  | some lo =>
    rw [h1] at h
    dsimp only at h ⊢
    have e1 : s[k + 1]? = t[k + 1]? := by
      refine h (k + 1) ?_
      by_cases h2 : s[k + 1]? = some 44
      · rw [if_pos h2]
        by_cases h3 : s[k + 2]? = some 125
        · rw [if_pos h3]; simp [Res.at_]
        · rw [if_neg h3]
          cases numb s (k + 2) lo with
          | none => simp [Res.at_]
          | some hi => dsimp only; unfold closeB; split <;> simp [Res.at_] <;> omega
      · rw [if_neg h2]; unfold closeB; split <;> simp [Res.at_]
    by_cases h2 : s[k + 1]? = some 44
    · rw [if_pos h2] at h
      rw [if_pos h2, if_pos (by rw [← e1]; exact h2)]
      have e2 : s[k + 2]? = t[k + 2]? := by
        refine h (k + 2) ?_
        by_cases h3 : s[k + 2]? = some 125
        · rw [if_pos h3]; simp [Res.at_]
        · rw [if_neg h3]
          cases numb s (k + 2) lo with
          | none => simp [Res.at_]
          | some hi => dsimp only; unfold closeB; split <;> simp [Res.at_] <;> omega
      by_cases h3 : s[k + 2]? = some 125
      · rw [if_pos h3, if_pos (by rw [← e2]; exact h3)]
      · rw [if_neg h3] at h
        rw [if_neg h3, if_neg (by rw [← e2]; exact h3), numb_st lo e2]
        cases h4 : numb s (k + 2) lo with
        | none => rfl
        | some hi =>
          rw [h4] at h
          dsimp only at h ⊢
          exact closeB_st lo hi (h (k + 3) (by unfold closeB; split <;> simp [Res.at_]))
    · rw [if_neg h2] at h
      rw [if_neg h2, if_neg (by rw [← e1]; exact h2)]
      exact closeB_st lo lo e1
end Go.Proofs.YtccheljfbjllhaaDoor
