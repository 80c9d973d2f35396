/- The document's own reader, tied together. -/
import Derived.Test.YtccheljfbjllhaaDoorD5
import Derived.Test.YtccheljfbjllhaaDoorD7
namespace Go.Proofs.YtccheljfbjllhaaDoor
open Go Go.RowKit

theorem pieceR_gr {s : Bs} {grp : Rd} (hg : Good s grp) (h : Gr s grp) : Gr s (pieceR grp s) := by
  intro k g x q g' hk hgk he
  unfold pieceR at he
  rcases ha : atomR grp s k g with ⟨q1, e⟩ | ⟨y, q1, g1⟩
  · rw [ha] at he; cases he
  · rw [ha] at he
    have h1 := atomR_gr hg h k g y q1 g1 hk hgk ha
    have h2 := (atomR_good hg k g hk).2 y q1 g1 ha
    dsimp only at he
    by_cases hr : rep y = true
    · rw [if_pos hr] at he
      exact tailP_gr h2.2 h1 he
    · rw [if_neg hr] at he
      by_cases hs : signAt s q1
      · rw [if_pos hs] at he; cases he
      · rw [if_neg hs] at he
        injection he with _ e1 e2; omega
theorem grpRR_gr (s : Bs) : ∀ m, Gr s (grpRR s m)
  | 0 => by intro k g x q g' _ _ he; cases he
  | m + 1 => by
    have hp := pieceR_good (grpM_good (s := s) (pc := fun grp => pieceR grp s) (fun _ h => pieceR_good h) m)
    have hx : GrE s (exM (fun grp => pieceR grp s) s m) := altOf_gr (rowOf_good hp) (rowOf_gr hp (pieceR_gr (grpM_good (fun _ h => pieceR_good h) m) (grpRR_gr s m)))
    intro k g x q g' hk hgk he
    unfold grpRR at he
    rw [grpM_succ] at he
    unfold grpR at he
    rcases ha : exM (fun grp => pieceR grp s) s m (k + 1) (g + 1) with ⟨q1, e⟩ | ⟨y, q1, g1⟩
    · rw [ha] at he; cases he
    · rw [ha] at he
      have := hx (k + 1) (g + 1) y q1 g1 (by omega) (by omega) ha
      dsimp only at he
      split at he
      · injection he with _ e1 e2; omega
      · cases he
theorem dex_of (s : ByteArray) (hs : s.size ≤ 200) (m d : Nat) (grp : Rd) (hgrp : grp = grpRR s.data.toList m) (hat : RdD 58 s d (atomR grp s.data.toList)) : RdED 24 s d (exR s.data.toList m) := by
  have g1 : Good s.data.toList grp := by rw [hgrp]; exact grpM_good (pc := fun grp => pieceR grp s.data.toList) (fun _ h => pieceR_good h) m
  have g2 : Gr s.data.toList grp := by rw [hgrp]; exact grpRR_gr s.data.toList m
  have hpi := dpiece_any s d grp hs hat (sane_of (atomR_good g1) (atomR_gr g1 g2))
  have hro := drow_any s d _ hs hpi (sane_of (pieceR_good g1) (pieceR_gr g1 g2)) (pieceR_good g1)
  have hex := dalt_any s d _ hs hro (saneE_of (rowOf_good (pieceR_good g1)) (rowOf_gr (pieceR_good g1) (pieceR_gr g1 g2))) (rowOf_good (pieceR_good g1))
  rw [hgrp] at hex
  exact hex
theorem saneR (s : ByteArray) (m : Nat) : SaneE s (exR s.data.toList m) := by
  have g1 := grpM_good (s := s.data.toList) (pc := fun grp => pieceR grp s.data.toList) (fun _ h => pieceR_good h) m
  have g2 := grpRR_gr s.data.toList m
  exact saneE_of (altOf_good (rowOf_good (pieceR_good g1))) (altOf_gr (rowOf_good (pieceR_good g1)) (rowOf_gr (pieceR_good g1) (pieceR_gr g1 g2)))
theorem dex_all (s : ByteArray) (hs : s.size ≤ 200) : ∀ m d, m + d = 64 → RdED 24 s d (exR s.data.toList m)
  | 0, d, h => by
    obtain rfl : d = 64 := by omega
    exact dex_of s hs 0 64 (grpD 64 (exR s.data.toList 0) s.data.toList) rfl (datom_any s 64 _ hs (by omega) (fun h => by omega) (saneR s 0))
  | m + 1, d, h => by
    refine dex_of s hs (m + 1) d (grpD d (exR s.data.toList m) s.data.toList) ?_ (datom_any s d _ hs (by omega) (fun _ => dex_all s hs m (d + 1) (by omega)) (saneR s m))
    unfold grpD
    rw [if_neg (by omega)]
    show _ = grpM _ s.data.toList (m + 1)
    rw [grpM_succ]
    rfl
end Go.Proofs.YtccheljfbjllhaaDoor
