/- What is read of a text depends on its bytes up to the place alone: items, sets, atoms. -/
import Derived.Test.YtccheljfbjllhaaDoorStab
namespace Go.Proofs.YtccheljfbjllhaaDoor
open Go Go.RowKit

def Res.nd {α : Type} : Res α → Nat
  | .bad q => q + 1
  | .ok _ q => q
theorem rb_nd {sg s t : Bs} {k : Nat} (h : Ag s t (rb sg s k).nd) : rb sg t k = rb sg s k := by
  rw [rb_get] at h
  rw [rb_get sg t, rb_get sg s]
  cases h0 : s[k]? with
  | none =>
    rw [h0] at h
    rw [← h k (by simp [Res.nd]), h0]
  | some c =>
    rw [h0] at h
    have hk : s[k]? = t[k]? := h k (by dsimp only; split <;> (try split) <;> simp [Res.nd] <;> omega)
    rw [← hk, h0]
    dsimp only at h ⊢
    by_cases hc : c = 92
    · rw [if_pos hc] at h
      rw [if_pos hc, if_pos hc]
      have hk1 : s[k + 1]? = t[k + 1]? := h (k + 1) (by split <;> simp [Res.nd])
      rw [← hk1]
    · rw [if_neg hc, if_neg hc]
theorem item_st {s t : Bs} {k : Nat} (h : Ag s t ((item s k).at_ + 1)) (hk : k ≤ s.length) : item t k = item s k := by
  obtain ⟨N, hN⟩ : ∃ N, N = (item s k).at_ + 1 := ⟨_, rfl⟩
  rw [← hN] at h
  rcases h1 : rb sgI s k with q | ⟨lo, q⟩
  · have hv : item s k = .bad q := by unfold item; rw [h1]
    rw [hv] at hN ⊢
    have hr : rb sgI t k = .bad q := by rw [rb_nd (s := s) (by rw [h1]; exact h.le (by rw [hN]; exact Nat.le_refl _)), h1]
    unfold item; rw [hr]
  · have hq := rb_ok hk h1
    by_cases h2 : s[q]? = some 45
    · have hl := lt_of_get h2
      rcases h3 : rb sgI s (q + 1) with p | ⟨hi, p⟩
      · have hp := rb_bad (by omega) h3
        have hv : item s k = .bad p := by unfold item; rw [h1]; dsimp only; rw [if_pos h2, h3]
        rw [hv] at hN ⊢
        have hN' : N = p + 1 := hN
        have hr : rb sgI t k = .ok lo q := by rw [rb_nd (s := s) (by rw [h1]; exact h.le (by show q ≤ N; omega)), h1]
        have hr2 : rb sgI t (q + 1) = .bad p := by rw [rb_nd (s := s) (by rw [h3]; exact h.le (by show p + 1 ≤ N; omega)), h3]
        unfold item; rw [hr]; dsimp only; rw [if_pos (by rw [← h q (by omega)]; exact h2), hr2]
      · have hp := rb_ok (by omega) h3
        by_cases h4 : (hi.toNat : Int) < (lo.toNat : Int)
        · have hv : item s k = .bad (p - 1) := by unfold item; rw [h1]; dsimp only; rw [if_pos h2, h3]; dsimp only; rw [if_pos h4]
          rw [hv] at hN ⊢
          have hN' : N = p - 1 + 1 := hN
          have hr : rb sgI t k = .ok lo q := by rw [rb_nd (s := s) (by rw [h1]; exact h.le (by show q ≤ N; omega)), h1]
          have hr2 : rb sgI t (q + 1) = .ok hi p := by rw [rb_nd (s := s) (by rw [h3]; exact h.le (by show p ≤ N; omega)), h3]
          unfold item; rw [hr]; dsimp only; rw [if_pos (by rw [← h q (by omega)]; exact h2), hr2]; dsimp only; rw [if_pos h4]
        · have hv : item s k = .ok (lo, hi) p := by unfold item; rw [h1]; dsimp only; rw [if_pos h2, h3]; dsimp only; rw [if_neg h4]
          rw [hv] at hN ⊢
          have hN' : N = p + 1 := hN
          have hr : rb sgI t k = .ok lo q := by rw [rb_nd (s := s) (by rw [h1]; exact h.le (by show q ≤ N; omega)), h1]
          have hr2 : rb sgI t (q + 1) = .ok hi p := by rw [rb_nd (s := s) (by rw [h3]; exact h.le (by show p ≤ N; omega)), h3]
          unfold item; rw [hr]; dsimp only; rw [if_pos (by rw [← h q (by omega)]; exact h2), hr2]; dsimp only; rw [if_neg h4]
    · have hv : item s k = .ok (lo, lo) q := by unfold item; rw [h1]; dsimp only; rw [if_neg h2]
      rw [hv] at hN ⊢
      have hN' : N = q + 1 := hN
      have hr : rb sgI t k = .ok lo q := by rw [rb_nd (s := s) (by rw [h1]; exact h.le (by show q ≤ N; omega)), h1]
      unfold item; rw [hr]; dsimp only; rw [if_neg (by rw [← h q (by omega)]; exact h2)]
theorem goS_st {s t : Bs} : ∀ (n k : Nat) (acc : List Sp), s.length - k < n → k ≤ s.length → k ≤ t.length → Ag s t ((goS s k acc).at_ + 1) → goS t k acc = goS s k acc
  | 0, k, acc, hn, _, _, _ => by omega
  | n + 1, k, acc, hn, hk, hkt, h => by
    by_cases he : acc ≠ [] ∧ s[k]? = some 93
    · rw [goS_end he.1 he.2] at h ⊢
      have e := h k (by simp [Res.at_]; omega)
      rw [goS_end he.1 (by rw [← e]; exact he.2)]
    · rcases hi : item s k with q | ⟨sp, q⟩
      · have hb := item_bad hk hi
        rw [goS_bad he hi] at h ⊢
        have e := h k (by simp [Res.at_]; omega)
        have hit : item t k = .bad q := by rw [item_st (s := s) (by rw [hi]; exact h) hk, hi]
        rw [goS_bad (by rw [← e]; exact he) hit]
      · have hb := item_ok hk hi
        rw [goS_ok he hk hi] at h ⊢
        have hge : q ≤ (goS s q (acc ++ [sp])).at_ := by
          rcases hg : goS s q (acc ++ [sp]) with p | ⟨l, p⟩
          · exact (goS_badb hb.2 hg).1
          · exact Nat.le_of_lt (goS_okb hb.2 hg).1
        have e := h k (by omega)
        have hit : item t k = .ok sp q := by rw [item_st (s := s) (by rw [hi]; exact h.le (by show q + 1 ≤ _; omega)) hk, hi]
        have hbt := item_ok hkt hit
        rw [goS_ok (by rw [← e]; exact he) hkt hit]
        exact goS_st n q _ (by omega) hb.2 hbt.2 h
theorem cls_st {s t : Bs} {k : Nat} (h : Ag s t ((cls s k).at_ + 1)) (hk : k ≤ s.length) (hkt : k ≤ t.length) : cls t k = cls s k := by
  have hge : k ≤ (cls s k).at_ := by
    have := cls_bd hk
    revert this; cases cls s k <;> simp [Res.at_] <;> omega
  have e := h k (by omega)
  unfold cls at h ⊢
  by_cases h1 : s[k]? = some 94
  · have hl := lt_of_get h1
    have hlt : k < t.length := lt_of_get (by rw [← e]; exact h1)
    rw [if_pos h1] at h
    rw [if_pos h1, if_pos (by rw [← e]; exact h1)]
    rcases h2 : goS s (k + 1) [] with q | ⟨l, q⟩
    · rw [h2] at h; rw [goS_st (s := s) (t := t) _ (k + 1) [] (Nat.lt_succ_self _) (by omega) (by omega) (by rw [h2]; exact h), h2]
    · rw [h2] at h; rw [goS_st (s := s) (t := t) _ (k + 1) [] (Nat.lt_succ_self _) (by omega) (by omega) (by rw [h2]; exact h), h2]
  · rw [if_neg h1] at h
    rw [if_neg h1, if_neg (by rw [← e]; exact h1)]
    rcases h2 : goS s k [] with q | ⟨l, q⟩
    · rw [h2] at h; rw [goS_st (s := s) (t := t) _ k [] (Nat.lt_succ_self _) hk hkt (by rw [h2]; exact h), h2]
    · rw [h2] at h; rw [goS_st (s := s) (t := t) _ k [] (Nat.lt_succ_self _) hk hkt (by rw [h2]; exact h), h2]
end Go.Proofs.YtccheljfbjllhaaDoor
