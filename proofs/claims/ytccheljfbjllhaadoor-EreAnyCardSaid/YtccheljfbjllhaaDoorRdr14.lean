/- The code's reader, tied together: how far the groups go, and the recursion. -/
import Derived.Test.YtccheljfbjllhaaDoorRdr13
namespace Go.Proofs.YtccheljfbjllhaaDoor
open Go Go.RowKit

def Gr (s : Bs) (rd : Rd) : Prop := ∀ k g x q g', k < s.length → g ≤ k → rd k g = .ok x q g' → g' ≤ q
def GrE (s : Bs) (rd : Rd) : Prop := ∀ k g x q g', k ≤ s.length → g ≤ k → rd k g = .ok x q g' → g' ≤ q
theorem atomR_gr {s : Bs} {grp : Rd} (hg : Good s grp) (h : Gr s grp) : Gr s (atomR grp s) := by
  intro k g x q g' hk hgk he
  have hq := (atomR_good hg k g hk).2 x q g' he
  unfold atomR at he
  split at he
  · injection he with _ _ he; omega
  · split at he
    · injection he with _ _ he; omega
    · split at he
      · injection he with _ _ he; omega
      · split at he
        · exact h k g x q g' hk hgk he
        · split at he
          · split at he
            · cases he
            · injection he with _ _ he; omega
          · split at he
            · cases he
            · injection he with _ _ he; omega
theorem tailP_gr {s : Bs} {x y : Re} {q g p g' : Nat} (_ : q ≤ s.length) (hg : g ≤ q) (h : tailP s x q g = .ok y p g') : g' ≤ p := by
  unfold tailP at h
  split at h
  · injection h with _ h1 h2; omega
  · split at h
    · injection h with _ h1 h2; omega
    · split at h
      · injection h with _ h1 h2; omega
      · split at h
        · rename_i hc
          have := lt_of_get hc
          have hb := bnds_bd (s := s) (k := q + 1) (by omega)
          split at h
          · cases h
          · rename_i b p' hbd
            rw [hbd] at hb
            injection h with _ h1 h2
            dsimp only at hb
            omega
        · injection h with _ h1 h2; omega
theorem pieceC_gr {s : Bs} {grp : Rd} (hg : Good s grp) (h : Gr s grp) : Gr s (pieceC grp s) := by
  intro k g x q g' hk hgk he
  unfold pieceC at he
  rcases ha : atomR grp s k g with ⟨q1, e⟩ | ⟨y, q1, g1⟩
  · rw [ha] at he; cases he
  · rw [ha] at he
    have h1 := atomR_gr hg h k g y q1 g1 hk hgk ha
    have h2 := (atomR_good hg k g hk).2 y q1 g1 ha
    dsimp only at he
    split at he
    · exact tailP_gr h2.2 h1 he
    · injection he with _ e1 e2; omega
theorem rowL_gr {s : Bs} {pc : Rd} (hp : Good s pc) (h : Gr s pc) : ∀ (n k g : Nat) (acc : List Re), s.length - k < n → k ≤ s.length → g ≤ k → ∀ x q g', rowL pc s k g acc = .ok x q g' → g' ≤ q
  | 0, k, g, acc, hn, hk, hgk, x, q, g', he => by omega
  | n + 1, k, g, acc, hn, hk, hgk, x, q, g', he => by
    cases hs : stops s k with
    | true => rw [rowL_end hs] at he; injection he with _ e1 e2; omega
    | false =>
      have hlt := not_stops hs
      rcases ha : pc k g with ⟨q1, e⟩ | ⟨y, q1, g1⟩
      · rw [rowL_bad hs ha] at he; cases he
      · have h2 := (hp k g hlt).2 y q1 g1 ha
        rw [rowL_ok hs ha h2] at he
        exact rowL_gr hp h n q1 g1 _ (by omega) h2.2 (h k g y q1 g1 hlt hgk ha) x q g' he
theorem rowOf_gr {s : Bs} {pc : Rd} (hp : Good s pc) (h : Gr s pc) : GrE s (rowOf pc s) := by
  intro k g x q g' hk hgk he
  unfold rowOf at he
  rcases ha : rowL pc s k g [] with ⟨q1, e⟩ | ⟨y, q1, g1⟩
  · rw [ha] at he; cases he
  · rw [ha] at he
    injection he with _ e1 e2
    have := rowL_gr hp h (s.length - k + 1) k g [] (by omega) hk hgk y q1 g1 ha
    omega
theorem altL_gr {s : Bs} {rw_ : Rd} (hp : GoodE s rw_) (h : GrE s rw_) : ∀ (n k g : Nat) (acc : List Re), s.length - k < n → k ≤ s.length → g ≤ k → ∀ x q g', altL rw_ s k g acc = .ok x q g' → g' ≤ q
  | 0, k, g, acc, hn, hk, hgk, x, q, g', he => by omega
  | n + 1, k, g, acc, hn, hk, hgk, x, q, g', he => by
    rcases ha : rw_ k g with ⟨q1, e⟩ | ⟨y, q1, g1⟩
    · rw [altL_bad ha] at he; cases he
    · have h2 := (hp k g hk).2 y q1 g1 ha
      have h3 := h k g y q1 g1 hk hgk ha
      by_cases hc : s[q1]? = some 124
      · have := lt_of_get hc
        rw [altL_ok ha hc h2.1] at he
        exact altL_gr hp h n (q1 + 1) g1 _ (by omega) (by omega) (by omega) x q g' he
      · rw [altL_end ha hc] at he
        injection he with _ e1 e2
        omega
theorem altOf_gr {s : Bs} {rw_ : Rd} (hp : GoodE s rw_) (h : GrE s rw_) : GrE s (altOf rw_ s) := by
  intro k g x q g' hk hgk he
  unfold altOf at he
  rcases ha : altL rw_ s k g [] with ⟨q1, e⟩ | ⟨y, q1, g1⟩
  · rw [ha] at he; cases he
  · rw [ha] at he
    injection he with _ e1 e2
    have := altL_gr hp h (s.length - k + 1) k g [] (by omega) hk hgk y q1 g1 ha
    omega
theorem grpC_gr (s : Bs) : ∀ m, Gr s (grpM (fun grp => pieceC grp s) s m)
  | 0 => by intro k g x q g' _ _ he; cases he
  | m + 1 => by
    have hp := pieceC_good (grpM_good (s := s) (fun _ h => pieceC_good h) m)
    have hx : GrE s (exM (fun grp => pieceC grp s) s m) := altOf_gr (rowOf_good hp) (rowOf_gr hp (pieceC_gr (grpM_good (fun _ h => pieceC_good h) m) (grpC_gr s m)))
    intro k g x q g' hk hgk he
    rw [grpM_succ] at he
    unfold grpR at he
    rcases ha : exM (fun grp => pieceC grp s) s m (k + 1) (g + 1) with ⟨q1, e⟩ | ⟨y, q1, g1⟩
    · rw [ha] at he; cases he
    · rw [ha] at he
      have := hx (k + 1) (g + 1) y q1 g1 (by omega) (by omega) ha
      dsimp only at he
      split at he
      · injection he with _ e1 e2; omega
      · cases he
theorem sane_of {s : ByteArray} {rd : Rd} (hg : Good s.data.toList rd) (h : Gr s.data.toList rd) : Sane s rd := by
  intro k g hk hgk
  obtain ⟨h1, h2⟩ := hg k g hk
  refine ⟨fun q er he => ?_, fun x q g' he => ⟨(h2 x q g' he).1, (h2 x q g' he).2, h k g x q g' hk hgk he⟩⟩
  rcases (h1 q er he).2.2 with e | e
  · exact .inl e
  · exact .inr e.1
theorem saneE_of {s : ByteArray} {rd : Rd} (hg : GoodE s.data.toList rd) (h : GrE s.data.toList rd) : SaneE s rd := by
  intro k g hk hgk
  obtain ⟨h1, h2⟩ := hg k g hk
  refine ⟨fun q er he => ?_, fun x q g' he => ⟨(h2 x q g' he).1, (h2 x q g' he).2, h k g x q g' hk hgk he⟩⟩
  rcases (h1 q er he).2.2 with e | e
  · exact .inl e
  · exact .inr e.1
/-- An expression, where groups are read. -/
theorem exC_of (s : ByteArray) (hs : s.size ≤ 200) (m o : Nat) (hgrp : RdC 62 s o (grpM (fun grp => pieceC grp s.data.toList) s.data.toList m)) : RdEC 23 s o (exC s.data.toList m) := by
  have g1 := grpM_good (s := s.data.toList) (pc := fun grp => pieceC grp s.data.toList) (fun _ h => pieceC_good h) m
  have g2 := grpC_gr s.data.toList m
  have hat := atom_any s o _ (by omega) hgrp (sane_of g1 g2)
  have hpi := piece_any s o _ (by omega) hat (sane_of (atomR_good g1) (atomR_gr g1 g2))
  have hro := row_any s o _ hs hpi (sane_of (pieceC_good g1) (pieceC_gr g1 g2))
  exact expr_any s o _ hs hro (saneE_of (rowOf_good (pieceC_good g1)) (rowOf_gr (pieceC_good g1) (pieceC_gr g1 g2)))
theorem grpC_of (s : ByteArray) (hs : s.size ≤ 200) : ∀ m o, m + o = 64 → RdC 62 s o (grpM (fun grp => pieceC grp s.data.toList) s.data.toList m)
  | 0, o, h => by
    obtain rfl : o = 64 := by omega
    exact group_zero s _
  | m + 1, o, h => by
    rw [grpM_succ]
    have g1 := grpM_good (s := s.data.toList) (pc := fun grp => pieceC grp s.data.toList) (fun _ h => pieceC_good h) m
    have g2 := grpC_gr s.data.toList m
    have hx := exC_of s hs m (o + 1) (grpC_of s hs m (o + 1) (by omega))
    exact group_any s o _ (by omega) (by omega) hx (saneE_of (altOf_good (rowOf_good (pieceC_good g1))) (altOf_gr (rowOf_good (pieceC_good g1)) (rowOf_gr (pieceC_good g1) (pieceC_gr g1 g2))))
theorem ex_any (s : ByteArray) (hs : s.size ≤ 200) : RdEC 23 s 0 (exC s.data.toList 64) := exC_of s hs 64 0 (grpC_of s hs 64 0 rfl)
end Go.Proofs.YtccheljfbjllhaaDoor
