/- The code's Print and May. -/
import Derived.Test.YtccheljfbjllhaaDoorARe3
namespace Go.Proofs.YtccheljfbjllhaaDoor
open Go Go.RowKit

theorem joinT_count {sep : Bs} {ks : List Re} (h : ∀ x ∈ ks, 1 ≤ (textE x).length + sep.length) : ks.length ≤ (joinT sep ks).length + 1 := by
  have tl : ∀ l : List Re, (∀ x ∈ l, 1 ≤ (textE x).length + sep.length) → l.length ≤ (tailT sep l).length := by
    intro l
    induction l with
    | nil => intro _; simp
    | cons x l ih =>
      intro hl
      have := ih (fun y hy => hl y (by simp [hy]))
      have := hl x (by simp)
      rw [tailT]; simp only [List.length_append, List.length_cons]; omega
  cases ks with
  | nil => simp
  | cons x l =>
    have := tl l (fun y hy => h y (by simp [hy]))
    rw [joinT]; simp only [List.length_append, List.length_cons]; omega
theorem textE_other {k : Int} {S : S4} {ks : List Re} {lo hi n : Int} (h1 : k ≠ 1) (h2 : k ≠ 2) (h3 : k ≠ 3) (h6 : k ≠ 6) (h7 : k ≠ 7) : textE (.mk k S ks lo hi n) = joinT (if k = 5 then [124] else []) ks := by
  rw [textE, if_neg h1, if_neg h2, if_neg h3, if_neg h7, if_neg h6]
set_option maxRecDepth 100000 in
set_option maxHeartbeats 4000000 in
theorem are_any (r : Re) : AReC r := by
  induction r using Re.ind with
  | h k S ks lo hi n ih =>
    by_cases k6 : k = 6
    · subst k6
      intro B w0 w v t A c lv d g g' h hk hf hlv hl
      have hks : ∃ x, ks = [x] := by
        have hf2 := hf
        rw [form] at hf2
        split at hf2
        · rename_i h1; exact ((told_kids h1.2).1 rfl).1
        · cases hf2
      obtain ⟨x, rfl⟩ := hks
      exact are_six S x lo hi n (ih x (by simp)) B w0 w v t A c lv d g g' h hk hf hlv hl
    · by_cases k7 : k = 7
      · subst k7
        intro B w0 w v t A c lv d g g' h hk hf hlv hl
        have hks : ∃ x, ks = [x] := by
          have hf2 := hf
          rw [form] at hf2
          split at hf2
          · rename_i h1; exact (told_kids h1.2).2.1 rfl
          · cases hf2
        obtain ⟨x, rfl⟩ := hks
        exact are_seven S x lo hi n (ih x (by simp)) B w0 w v t A c lv d g g' h hk hf hlv hl
      · intro B w0 w v t A c lv d g g' h hk hf hlv hl
        have hf2 := hf
        rw [form] at hf2
        split at hf2
        · rename_i hh
          obtain ⟨hlev, ht⟩ := hh
          have hkz := (told_kids ht).2.2
          obtain ⟨A0, c0, rfl⟩ := row_len h.row
          have H := Lib.hid h
          have HK := Lib.hid hk
          obtain ⟨j0, hj, hy0, hy1, hy2⟩ := info_parts info5
          by_cases h200 : t.length ≤ 200
          · have b200 : decide ((200 : Int) < (t.length : Int)) = false := by simp; omega
            have b200' : decide (200 < t.length) = false := by simp; omega
            have K33 := Lib.hid fun w1 h1 => aset_any B w0 w1 (.slice A0 t.length c0) t S (by omega) h1
            by_cases k1 : k = 1
            · subst k1
              have hte : textE (.mk 1 S ks lo hi n) = setText S := by rw [textE, if_pos rfl]
              rw [hte]
              simp only [valR]
              obtain ⟨m, hm⟩ : ∃ m, m = ks.length := ⟨_, rfl⟩
              rw [← hm]
              obtain ⟨s0, hs0⟩ : ∃ s0 : Int, s0 = S.1.toNat := ⟨_, rfl⟩
              obtain ⟨s1, hs1⟩ : ∃ s1 : Int, s1 = S.2.1.toNat := ⟨_, rfl⟩
              obtain ⟨s2, hs2⟩ : ∃ s2 : Int, s2 = S.2.2.1.toNat := ⟨_, rfl⟩
              obtain ⟨s3, hs3⟩ : ∃ s3 : Int, s3 = S.2.2.2.toNat := ⟨_, rfl⟩
              rw [← hs0, ← hs1, ← hs2, ← hs3] at K33 ⊢
              clear h hk hf hf2 hlev ht hkz hs0 hs1 hs2 hs3 hm ih hl hte
              go_enter Tryd.func21, Tryd.ntmps21
              go_wp2_with (go_at_call 33; ((with_reducible refine (K33.out _ (H.out.alloc _)).mono ?_)); rintro e w5 ⟨v5, rfl, hrow5, hk5, hk15⟩)
              go_ret
              exact ⟨_, _, rfl, CutT.refl _, hrow5, (KeptT.alloc w _).trans hk5, fun h1 => (Keeps1.below _ (one_box w _)).trans (hk15 h1)⟩
            · by_cases k2 : k = 2
              · subst k2
                have hte : textE (.mk 2 S ks lo hi n) = [94] := by rw [textE, if_neg k1, if_pos rfl]
                rw [hte]
                simp only [valR]
                obtain ⟨m, hm⟩ : ∃ m, m = ks.length := ⟨_, rfl⟩
                rw [← hm]
                clear h hk hf hf2 hlev ht hkz hm ih hl hte K33
                go_enter Tryd.func21, Tryd.ntmps21
                go_wp2_with (at_builtin; refine wpList_append_own _ rfl (.tmp 19) (.tmp 20) 49 rfl B 5 j0 (.int .u8 0) 1 1 Tryd.underlying49 hj hy0 hy1 hy2 rfl (by decide) _ _ _ rfl ((H.out.alloc _).alloc _).row ⟨w.heap.size + 1, 0, none⟩ 1 1 (byteCells [94]) rfl rfl (fun j u hu => new_cells2 _ _ 5 #[.int .u8 94] j u hu) (bytes_one _) (by unfold maxLen; omega) (by omega) ((H.out.alloc _).alloc _).size ?_; intro v5 w5 hown5 hgrow5 _)
                go_ret
                exact ⟨_, _, rfl, CutT.refl _, ((H.out.alloc _).alloc _).bytes [94] hown5 hgrow5, ((KeptT.alloc w _).trans (KeptT.alloc _ _)).trans (KeptT.grown ((H.out.alloc _).alloc _).row hgrow5), fun h1 => (Keeps1.below _ (two_boxes w _ _)).trans (Keeps1.grown hown5 (by omega) hgrow5)⟩
              · by_cases k3 : k = 3
                · subst k3
                  have hte : textE (.mk 3 S ks lo hi n) = [36] := by rw [textE, if_neg k1, if_neg k2, if_pos rfl]
                  rw [hte]
                  simp only [valR]
                  obtain ⟨m, hm⟩ : ∃ m, m = ks.length := ⟨_, rfl⟩
                  rw [← hm]
                  clear h hk hf hf2 hlev ht hkz hm ih hl hte K33
                  go_enter Tryd.func21, Tryd.ntmps21
                  go_wp2_with (at_builtin; refine wpList_append_own _ rfl (.tmp 24) (.tmp 25) 49 rfl B 5 j0 (.int .u8 0) 1 1 Tryd.underlying49 hj hy0 hy1 hy2 rfl (by decide) _ _ _ rfl ((H.out.alloc _).alloc _).row ⟨w.heap.size + 1, 0, none⟩ 1 1 (byteCells [36]) rfl rfl (fun j u hu => new_cells2 _ _ 5 #[.int .u8 36] j u hu) (bytes_one _) (by unfold maxLen; omega) (by omega) ((H.out.alloc _).alloc _).size ?_; intro v5 w5 hown5 hgrow5 _)
                  go_ret
                  exact ⟨_, _, rfl, CutT.refl _, ((H.out.alloc _).alloc _).bytes [36] hown5 hgrow5, ((KeptT.alloc w _).trans (KeptT.alloc _ _)).trans (KeptT.grown ((H.out.alloc _).alloc _).row hgrow5), fun h1 => (Keeps1.below _ (two_boxes w _ _)).trans (Keeps1.grown hown5 (by omega) hgrow5)⟩
                · have hte := textE_other (S := S) (ks := ks) (lo := lo) (hi := hi) (n := n) k1 k2 k3 k6 k7
                  by_cases k4 : k = 4
                  · subst k4
                    have hne1 : ∀ x ∈ ks, 1 ≤ (textE x).length := fun x hx => by
                      obtain ⟨i, hi1, hi2⟩ := List.getElem_of_mem hx
                      obtain ⟨g1, g2, hx2⟩ := formL_at (k := i) hf2 (r := x) (by rw [← hi2]; exact List.getElem?_eq_getElem hi1)
                      exact text_ne hx2
                    rw [hte, if_neg (by omega)] at hl ⊢
                    have hlen := joinT_count (sep := []) (fun x hx => Nat.le_trans (hne1 x hx) (Nat.le_add_right _ _))
                    have K34 := Lib.hid fun w1 (h1 : RowB B w0 w1 (.slice A0 t.length c0) t) => akids_any ks ih ⟨#[]⟩ (by show 0 ≤ 1; omega) B w0 w1 (.slice A0 t.length c0) t A c (levK 4) d g g' h1 (kids_kids hk) hf2 (by show 1 ≤ 3; omega) hl (by rw [List.length_append] at hl; have hlen : ks.length ≤ (joinT [] ks).length + 1 := hlen; omega) (fun _ => hne1)
                    simp only [valR]
                    obtain ⟨m, hm⟩ : ∃ m, m = ks.length := ⟨_, rfl⟩
                    rw [← hm] at K34 ⊢
                    have hJ : ((⟨#[]⟩ : ByteArray).data.toList) = ([] : Bs) := rfl
                    rw [hJ] at K34
                    obtain ⟨J, hJ2⟩ : ∃ J, J = joinT [] ks := ⟨_, rfl⟩
                    rw [← hJ2] at K34 ⊢
                    clear h hk hf hf2 hlev ht hkz hm ih hl hte K33 hne1 hlen hJ hJ2
                    go_enter Tryd.func21, Tryd.ntmps21
                    go_wp2_with (go_at_call 34; ((with_reducible refine (K34.out _ (H.out.alloc _)).mono ?_)); rintro e w5 ⟨v5, t5, rfl, hc5, hrow5, hk5, hk15⟩)
                    go_ret
                    exact ⟨_, _, rfl, hc5, hrow5, (KeptT.alloc w _).trans hk5, fun h1 => (Keeps1.below _ (one_box w _)).trans (hk15 h1)⟩
                  · by_cases k5 : k = 5
                    · subst k5
                      rw [hte, if_pos rfl] at hl ⊢
                      have hlen := joinT_count (sep := [124]) (ks := ks) (fun x hx => by simp)
                      have K34 := Lib.hid fun w1 (h1 : RowB B w0 w1 (.slice A0 t.length c0) t) => akids_any ks ih ⟨#[124]⟩ (by show 1 ≤ 1; omega) B w0 w1 (.slice A0 t.length c0) t A c (levK 5) d g g' h1 (kids_kids hk) hf2 (by show 2 ≤ 3; omega) hl (by rw [List.length_append] at hl; omega) (fun h0 => by exact absurd h0 (by decide))
                      simp only [valR]
                      obtain ⟨m, hm⟩ : ∃ m, m = ks.length := ⟨_, rfl⟩
                      rw [← hm] at K34 ⊢
                      have hJ : ((⟨#[124]⟩ : ByteArray).data.toList) = ([124] : Bs) := rfl
                      rw [hJ] at K34
                      obtain ⟨J, hJ2⟩ : ∃ J, J = joinT [124] ks := ⟨_, rfl⟩
                      rw [← hJ2] at K34 ⊢
                      clear h hk hf hf2 hlev ht hkz hm ih hl hte K33 hlen hJ hJ2
                      go_enter Tryd.func21, Tryd.ntmps21
                      go_wp2_with (go_at_call 34; ((with_reducible refine (K34.out _ (H.out.alloc _)).mono ?_)); rintro e w5 ⟨v5, t5, rfl, hc5, hrow5, hk5, hk15⟩)
                      go_ret
                      exact ⟨_, _, rfl, hc5, hrow5, (KeptT.alloc w _).trans hk5, fun h1 => (Keeps1.below _ (one_box w _)).trans (hk15 h1)⟩
                    · have hks := hkz k4 k5 k6 k7
                      subst hks
                      have e0 : textE (.mk k S [] lo hi n) = [] := by rw [hte, joinT]
                      rw [e0, List.append_nil]
                      simp only [valR]
                      have b1 : (k == 1) = false := by simp [k1]
                      have b2 : (k == 2) = false := by simp [k2]
                      have b3 : (k == 3) = false := by simp [k3]
                      have b4 : (k == 4) = false := by simp [k4]
                      have b5 : (k == 5) = false := by simp [k5]
                      have b6 : (k == 6) = false := by simp [k6]
                      have b7 : (k == 7) = false := by simp [k7]
                      clear h hk hf hf2 hlev ht hkz ih hl hte K33 e0 k1 k2 k3 k4 k5 k6 k7
                      go_enter Tryd.func21, Tryd.ntmps21
                      go_wp2
                      go_ret
                      exact ⟨_, t, rfl, CutT.refl _, H.out.alloc _, KeptT.alloc w _, fun _ => Keeps1.below _ (one_box w _)⟩
          · have b200 : decide ((200 : Int) < (t.length : Int)) = true := by simp; omega
            have b200' : decide (200 < t.length) = true := by simp; omega
            simp only [valR]
            obtain ⟨m, hm⟩ : ∃ m, m = ks.length := ⟨_, rfl⟩
            rw [← hm]
            obtain ⟨T, hT⟩ : ∃ T, T = textE (.mk k S ks lo hi n) := ⟨_, rfl⟩
            rw [← hT]
            clear h hk hf hf2 hlev ht hkz hm ih hl hT k6 k7
            go_enter Tryd.func21, Tryd.ntmps21
            go_wp2
            go_ret
            exact ⟨_, t, rfl, (CutT.refl t).past _ (by omega), H.out.alloc _, KeptT.alloc w _, fun _ => Keeps1.below _ (one_box w _)⟩
        · cases hf2
end Go.Proofs.YtccheljfbjllhaaDoor
