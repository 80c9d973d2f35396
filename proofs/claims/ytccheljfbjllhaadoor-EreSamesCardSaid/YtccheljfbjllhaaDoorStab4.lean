/- What is read of a text depends on its bytes up to the place alone: rows, groups, the whole. -/
import Derived.Test.YtccheljfbjllhaaDoorStab3
namespace Go.Proofs.YtccheljfbjllhaaDoor
open Go Go.RowKit

theorem stops_st {s t : Bs} {k : Nat} (h : s[k]? = t[k]?) : stops t k = stops s k := by unfold stops; rw [h]
theorem rowL_ge {s : Bs} {pc : Rd} (hp : Good s pc) {k g : Nat} (acc : List Re) (hk : k ≤ s.length) : k ≤ (rowL pc s k g acc).at_ := by
  obtain ⟨h1, h2⟩ := rowL_good hp (s.length - k + 1) k g acc (by omega) hk
  rcases hr : rowL pc s k g acc with ⟨q, e⟩ | ⟨x, q, g'⟩
  · exact (h1 q e hr).1
  · exact (h2 x q g' hr).1
theorem rowL_st {pc : Fam} (hg : ∀ s, Good s (pc s)) (hs : St pc) {s t : Bs} : ∀ (n k g : Nat) (acc : List Re), s.length - k < n → k ≤ s.length → k ≤ t.length → Ag s t ((rowL (pc s) s k g acc).at_ + 1) → rowL (pc t) t k g acc = rowL (pc s) s k g acc
  | 0, k, g, acc, hn, _, _, _ => by omega
  | n + 1, k, g, acc, hn, hk, hkt, h => by
    have hge := rowL_ge (hg s) (g := g) acc hk
    have e := h k (by omega)
    have est := stops_st e
    cases hst : stops s k with
    | true =>
      rw [hst] at est
      rw [rowL_end hst, rowL_end est]
    | false =>
      rw [hst] at est
      have hks := not_stops hst
      have hkt' := not_stops est
      rcases ha : pc s k g with ⟨q, er⟩ | ⟨x, q, g'⟩
      · rw [rowL_bad hst ha] at h ⊢
        exact rowL_bad est (by rw [hs s t k g hks hkt' (by rw [ha]; exact h), ha])
      · have hq := (hg s k g hks).2 x q g' ha
        rw [rowL_ok hst ha hq] at h ⊢
        have hge2 := rowL_ge (hg s) (g := g') (acc ++ [x]) hq.2
        have hat : pc t k g = .ok x q g' := by rw [hs s t k g hks hkt' (by rw [ha]; exact h.le (by show q + 1 ≤ _; omega)), ha]
        have hqt := (hg t k g hkt').2 x q g' hat
        rw [rowL_ok est hat hqt]
        exact rowL_st hg hs n q g' _ (by omega) hq.2 hqt.2 h
theorem rowOf_st {pc : Fam} (hg : ∀ s, Good s (pc s)) (hs : St pc) : StE (fun s => rowOf (pc s) s) := by
  intro s t k g hk hkt h
  dsimp only at h ⊢
  unfold rowOf at h ⊢
  have hx : Ag s t ((rowL (pc s) s k g []).at_ + 1) := by
    rcases ha : rowL (pc s) s k g [] with ⟨q, e⟩ | ⟨x, q, g'⟩
    · rw [ha] at h; exact h
    · rw [ha] at h; exact h
  rw [rowL_st hg hs _ k g [] (Nat.lt_succ_self _) hk hkt hx]
theorem altL_ge {s : Bs} {rw_ : Rd} (hp : GoodE s rw_) {k g : Nat} (acc : List Re) (hk : k ≤ s.length) : k ≤ (altL rw_ s k g acc).at_ := by
  obtain ⟨h1, h2⟩ := altL_good hp (s.length - k + 1) k g acc (by omega) hk
  rcases hr : altL rw_ s k g acc with ⟨q, e⟩ | ⟨x, q, g'⟩
  · exact (h1 q e hr).1
  · exact (h2 x q g' hr).1
theorem altL_st {rw_ : Fam} (hg : ∀ s, GoodE s (rw_ s)) (hs : StE rw_) {s t : Bs} : ∀ (n k g : Nat) (acc : List Re), s.length - k < n → k ≤ s.length → k ≤ t.length → Ag s t ((altL (rw_ s) s k g acc).at_ + 1) → altL (rw_ t) t k g acc = altL (rw_ s) s k g acc
  | 0, k, g, acc, hn, _, _, _ => by omega
  | n + 1, k, g, acc, hn, hk, hkt, h => by
    rcases ha : rw_ s k g with ⟨q, er⟩ | ⟨x, q, g'⟩
    · rw [altL_bad ha] at h ⊢
      exact altL_bad (by rw [hs s t k g hk hkt (by rw [ha]; exact h), ha])
    · have hq := (hg s k g hk).2 x q g' ha
      by_cases hc : s[q]? = some 124
      · have hl := lt_of_get hc
        rw [altL_ok ha hc hq.1] at h ⊢
        have hge2 := altL_ge (hg s) (k := q + 1) (g := g') (acc ++ [x]) (by omega)
        have hat : rw_ t k g = .ok x q g' := by rw [hs s t k g hk hkt (by rw [ha]; exact h.le (by show q + 1 ≤ _; omega)), ha]
        have hct : t[q]? = some 124 := by rw [← h q (by omega)]; exact hc
        have hlt := lt_of_get hct
        rw [altL_ok hat hct hq.1]
        exact altL_st hg hs n (q + 1) g' _ (by omega) (by omega) (by omega) h
      · rw [altL_end ha hc] at h ⊢
        have hat : rw_ t k g = .ok x q g' := by rw [hs s t k g hk hkt (by rw [ha]; exact h), ha]
        exact altL_end hat (by rw [← h q (by simp [Ro.at_])]; exact hc)
theorem altOf_st {rw_ : Fam} (hg : ∀ s, GoodE s (rw_ s)) (hs : StE rw_) : StE (fun s => altOf (rw_ s) s) := by
  intro s t k g hk hkt h
  dsimp only at h ⊢
  unfold altOf at h ⊢
  have hx : Ag s t ((altL (rw_ s) s k g []).at_ + 1) := by
    rcases ha : altL (rw_ s) s k g [] with ⟨q, e⟩ | ⟨x, q, g'⟩
    · rw [ha] at h; exact h
    · rw [ha] at h; exact h
  rw [altL_st hg hs _ k g [] (Nat.lt_succ_self _) hk hkt hx]
theorem grpC_good (s : Bs) (m : Nat) : Good s (grpM (fun grp => pieceC grp s) s m) := grpM_good (fun _ h => pieceC_good h) m
theorem exC_stOf (m : Nat) (h : St (fun s => grpM (fun grp => pieceC grp s) s m)) : StE (fun s => exC s m) :=
  altOf_st (fun s => rowOf_good (pieceC_good (grpC_good s m))) (rowOf_st (fun s => pieceC_good (grpC_good s m)) (pieceC_st (fun s => grpC_good s m) h))
theorem grpC_st : ∀ m, St (fun s => grpM (fun grp => pieceC grp s) s m)
  | 0 => fun s t k g _ _ _ => rfl
  | m + 1 => by
    intro s t k g hk hkt h
    dsimp only at h ⊢
    rw [grpM_succ, grpM_succ]
    rw [grpM_succ] at h
    unfold grpR at h ⊢
    have hx : Ag s t ((exM (fun grp => pieceC grp s) s m (k + 1) (g + 1)).at_ + 1) := by
      rcases ha : exM (fun grp => pieceC grp s) s m (k + 1) (g + 1) with ⟨q, e⟩ | ⟨x, q, g'⟩
      · rw [ha] at h; exact h
      · rw [ha] at h
        dsimp only at h
        by_cases hc : s[q]? = some 41
        · rw [if_pos hc] at h; exact h.le (by show q + 1 ≤ q + 1 + 1; omega)
        · rw [if_neg hc] at h; exact h
    have e := exC_stOf m (grpC_st m) s t (k + 1) (g + 1) (by omega) (by omega) hx
    have e' : exM (fun grp => pieceC grp t) t m (k + 1) (g + 1) = exM (fun grp => pieceC grp s) s m (k + 1) (g + 1) := e
    rw [e']
    rcases ha : exM (fun grp => pieceC grp s) s m (k + 1) (g + 1) with ⟨q, e⟩ | ⟨x, q, g'⟩
    · rfl
    · rw [ha] at hx
      dsimp only
      have eq := hx q (Nat.lt_succ_self _)
      rw [eq]
theorem exC_st (m : Nat) : StE (fun s => exC s m) := exC_stOf m (grpC_st m)
end Go.Proofs.YtccheljfbjllhaaDoor
