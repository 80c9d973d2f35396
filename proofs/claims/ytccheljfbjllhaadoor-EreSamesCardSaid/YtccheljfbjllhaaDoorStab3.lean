/- What is read of a text depends on its bytes up to the place alone: expressions. -/
import Derived.Test.YtccheljfbjllhaaDoorStab2
namespace Go.Proofs.YtccheljfbjllhaaDoor
open Go Go.RowKit

abbrev Fam := Bs → Rd
def St (rd : Fam) : Prop := ∀ s t k g, k < s.length → k < t.length → Ag s t ((rd s k g).at_ + 1) → rd t k g = rd s k g
def StE (rd : Fam) : Prop := ∀ s t k g, k ≤ s.length → k ≤ t.length → Ag s t ((rd s k g).at_ + 1) → rd t k g = rd s k g
theorem good_ge {s : Bs} {rd : Rd} (h : Good s rd) {k g : Nat} (hk : k < s.length) : k ≤ (rd k g).at_ := by
  obtain ⟨h1, h2⟩ := h k g hk
  rcases hr : rd k g with ⟨q, e⟩ | ⟨x, q, g'⟩
  · exact (h1 q e hr).1
  · exact Nat.le_of_lt (h2 x q g' hr).1
theorem goodE_ge {s : Bs} {rd : Rd} (h : GoodE s rd) {k g : Nat} (hk : k ≤ s.length) : k ≤ (rd k g).at_ := by
  obtain ⟨h1, h2⟩ := h k g hk
  rcases hr : rd k g with ⟨q, e⟩ | ⟨x, q, g'⟩
  · exact (h1 q e hr).1
  · exact (h2 x q g' hr).1
theorem atomR_st {grp : Fam} (hg : ∀ s, Good s (grp s)) (hs : St grp) : St (fun s => atomR (grp s) s) := by
  intro s t k g hk hkt h
  have hge := good_ge (atomR_good (hg s)) (g := g) hk
  dsimp only at h ⊢
  have e := h k (by omega)
  unfold atomR at h ⊢
  rw [← e]
  by_cases h1 : s[k]? = some 94
  · rw [if_pos h1, if_pos h1]
  · rw [if_neg h1] at h
    rw [if_neg h1, if_neg h1]
    by_cases h2 : s[k]? = some 36
    · rw [if_pos h2, if_pos h2]
    · rw [if_neg h2] at h
      rw [if_neg h2, if_neg h2]
      by_cases h3 : s[k]? = some 46
      · rw [if_pos h3, if_pos h3]
      · rw [if_neg h3] at h
        rw [if_neg h3, if_neg h3]
        by_cases h4 : s[k]? = some 40
        · rw [if_pos h4] at h
          rw [if_pos h4, if_pos h4]
          exact hs s t k g hk hkt h
        · rw [if_neg h4] at h
          rw [if_neg h4, if_neg h4]
          by_cases h5 : s[k]? = some 91
          · rw [if_pos h5] at h
            rw [if_pos h5, if_pos h5]
            rcases hc : cls s (k + 1) with q | ⟨S, q⟩
            · rw [hc] at h; rw [cls_st (s := s) (t := t) (by rw [hc]; exact h) (by omega) (by omega), hc]
            · rw [hc] at h; rw [cls_st (s := s) (t := t) (by rw [hc]; exact h) (by omega) (by omega), hc]
          · rw [if_neg h5] at h
            rw [if_neg h5, if_neg h5]
            rcases hc : rb sgA s k with q | ⟨c, q⟩
            · rw [hc] at h; rw [rb_st (s := s) (t := t) (by rw [hc]; exact h), hc]
            · rw [hc] at h; rw [rb_st (s := s) (t := t) (by rw [hc]; exact h), hc]
theorem tailP_ge {s : Bs} {x : Re} {q g : Nat} (hq : q ≤ s.length) : q ≤ (tailP s x q g).at_ := by
  by_cases hk : 0 < q
  · obtain ⟨h1, h2⟩ := tailP_good (s := s) (x := x) (k := q - 1) (q := q) (g := g) (by omega) hq
    rcases hr : tailP s x q g with ⟨p, e⟩ | ⟨y, p, g'⟩
    · unfold tailP at hr
      split at hr
      · cases hr
      · split at hr
        · cases hr
        · split at hr
          · cases hr
          · split at hr
            · rename_i hc
              have hl := lt_of_get hc
              have hb := bnds_bd (s := s) (k := q + 1) (by omega)
              split at hr
              · rename_i p' hbd
                rw [hbd] at hb
                injection hr with hr
                show q ≤ p
                dsimp only at hb; omega
              · cases hr
            · cases hr
    · have := (h2 y p g' hr).1
      show q ≤ p
      omega
  · omega
theorem tailP_st {s t : Bs} {x : Re} {q g : Nat} (hq : q ≤ s.length) (h : Ag s t ((tailP s x q g).at_ + 1)) : tailP t x q g = tailP s x q g := by
  have hge := tailP_ge (x := x) (g := g) hq
  have e := h q (by omega)
  unfold tailP at h ⊢
  rw [← e]
  by_cases h1 : s[q]? = some 42
  · rw [if_pos h1, if_pos h1]
  · rw [if_neg h1] at h
    rw [if_neg h1, if_neg h1]
    by_cases h2 : s[q]? = some 43
    · rw [if_pos h2, if_pos h2]
    · rw [if_neg h2] at h
      rw [if_neg h2, if_neg h2]
      by_cases h3 : s[q]? = some 63
      · rw [if_pos h3, if_pos h3]
      · rw [if_neg h3] at h
        rw [if_neg h3, if_neg h3]
        by_cases h4 : s[q]? = some 123
        · have hl := lt_of_get h4
          rw [if_pos h4] at h
          rw [if_pos h4, if_pos h4]
          rcases hc : bnds s (q + 1) with p | ⟨b, p⟩
          · rw [hc] at h; rw [bnds_st (s := s) (t := t) (by rw [hc]; exact h) (by omega), hc]
          · rw [hc] at h; rw [bnds_st (s := s) (t := t) (by rw [hc]; exact h) (by omega), hc]
        · rw [if_neg h4, if_neg h4]
theorem pieceC_st {grp : Fam} (hg : ∀ s, Good s (grp s)) (hs : St grp) : St (fun s => pieceC (grp s) s) := by
  intro s t k g hk hkt h
  dsimp only at h ⊢
  unfold pieceC at h ⊢
  rcases ha : atomR (grp s) s k g with ⟨q, er⟩ | ⟨x, q, g'⟩
  · rw [ha] at h
    have := atomR_st hg hs s t k g hk hkt (by dsimp only; rw [ha]; exact h)
    dsimp only at this
    rw [this, ha]
  · have hq := (atomR_good (hg s) k g hk).2 x q g' ha
    rw [ha] at h
    dsimp only at h ⊢
    by_cases hr : rep x = true
    · rw [if_pos hr] at h
      have hge := tailP_ge (x := x) (g := g') hq.2
      have := atomR_st hg hs s t k g hk hkt (by dsimp only; rw [ha]; exact h.le (by show q + 1 ≤ _; omega))
      dsimp only at this
      rw [this, ha]
      dsimp only
      rw [if_pos hr, if_pos hr]
      exact tailP_st hq.2 h
    · rw [if_neg hr] at h
      have := atomR_st hg hs s t k g hk hkt (by dsimp only; rw [ha]; exact h)
      dsimp only at this
      rw [this, ha]
      dsimp only
      rw [if_neg hr, if_neg hr]
end Go.Proofs.YtccheljfbjllhaaDoor
