/- What is printed of a group: four orders of evaluation. -/
import Derived.Test.YtccheljfbjllhaaDoorARe2
namespace Go.Proofs.YtccheljfbjllhaaDoor
open Go Go.RowKit
attribute [local go_sem ↓] Go.wp_at_zero Go.wp_at_succ

/-- A box that holds a ), which isn't a row's own. -/
def Lit (w : World) (k : Nat) (v : Value) : Prop := w.heap[k]? = some (.cells #[.int .u8 41] 5 (0, 0)) ∧ some k ≠ v.ownBlock
theorem Lit.keeps {w w' : World} {v v' : Value} {k : Nat} (h : Lit w k v) (hk : Keeps1 w v w' v') : Lit w' k v' := hk k _ 5 h.1 h.2
theorem lit_new (w : World) {B n : Nat} {v : Value} {xs : List Value} (h : w.ownsRow B 5 1 v n xs) : Lit (w.alloc (.cells #[.int .u8 41] 5)) w.heap.size v :=
  ⟨heap_alloc_new w _, fun e => Nat.lt_irrefl _ (own_lt h e)⟩
theorem lit_new2 (w : World) (o : Obj) {B n : Nat} {v : Value} {xs : List Value} (h : (w.alloc o).ownsRow B 5 1 v n xs) : Lit ((w.alloc o).alloc (.cells #[.int .u8 41] 5)) (w.heap.size + 1) v := by
  have := lit_new (w.alloc o) h
  have e : (w.alloc o).heap.size = w.heap.size + 1 := by simp
  rw [e] at this
  exact this
theorem Lit.alloc {w : World} {k : Nat} {v : Value} (h : Lit w k v) (o : Obj) : Lit (w.alloc o) k v := ⟨by rw [Below.heap_alloc w o k (Array.getElem?_eq_some_iff.1 h.1).1]; exact h.1, h.2⟩
theorem Lit.grown {w w' : World} {k B L : Nat} {v v' : Value} {t : Bs} (h : Lit w k v) (hg : w.grownBy w' v.ownBlock) (ho : w'.ownsRow B 5 1 v' L (byteCells t ++ byteCells [40])) : Lit w' k v' := by
  have h1 : w'.heap[k]? = some (.cells #[.int .u8 41] 5 (0, 0)) := by rw [hg.block k (Array.getElem?_eq_some_iff.1 h.1).1 h.2]; exact h.1
  exact ⟨h1, lit_own ho h1⟩
set_option maxRecDepth 100000 in
set_option maxHeartbeats 4000000 in
theorem are_seven (S : S4) (x : Re) (lo hi n : Int) (hx : AReC x) : AReC (.mk 7 S [x] lo hi n) := by
  intro B w0 w v t A c lv d g g' h hk hf hlv hl
  have hx1 : ∃ g1 g2, form x 3 (d + 1) g1 = some g2 := by
    rw [form] at hf
    split at hf
    · rw [if_pos rfl] at hf
      split at hf
      · exact formL_at (k := 0) hf rfl
      · cases hf
    · cases hf
  obtain ⟨g1, g2, hf1⟩ := hx1
  have hte : textE (.mk 7 S [x] lo hi n) = [40] ++ (textE x ++ [41]) := by rw [textE, if_neg (by omega), if_neg (by omega), if_neg (by omega), if_pos rfl, joinT, tailT, List.append_nil]; rfl
  rw [hte] at hl ⊢
  simp only [List.length_append, List.length_singleton] at hl
  obtain ⟨ad, A', c', rfl, hp, h9, hkr⟩ := kids_at (k := 0) hk (r := .mk 7 S [x] lo hi n) (x := x) rfl
  have hadd : ad.add (0 * 9) = ad := by unfold Addr.add; simp
  rw [hadd] at h9
  have h9w := h9.keep (w' := w) (fun o => h.below.cell hp) (h.below.cell hp)
  have hltw : ad.block < w.heap.size := Nat.lt_of_lt_of_le hp h.size
  have h9a : ∀ o, At9 (w.alloc o) ad x A' c' := fun o => h9w.keep (fun o' => World.cell?_alloc_lt w o ⟨ad.block, o', none⟩ hltw) (World.cell?_alloc_lt w o ad hltw)
  have HA9 : Hid (∀ w', Below B w0 w' → At9 w' ad x A' c') := Lib.hid fun w' hb' => h9.keep (fun o => hb'.cell hp) (hb'.cell hp)
  have K : ∀ w1 v1, RowB B w0 w1 v1 (t ++ [40]) → Calls Tryd.prog 21 #[v1, valR x A' c'] w1 (WrtC B w0 w1 v1 (t ++ [40]) (t ++ [40] ++ textE x)) := fun w1 v1 h1 => hx B w0 w1 v1 _ A' c' 3 (d + 1) g1 g2 h1 hkr hf1 (by omega) (by simp only [List.length_append, List.length_singleton]; omega)
  obtain ⟨xT, hxT⟩ : ∃ xT, xT = textE x := ⟨_, rfl⟩
  rw [← hxT] at hl K ⊢
  have H := Lib.hid h
  obtain ⟨j0, hj, hy0, hy1, hy2⟩ := info_parts info5
  obtain ⟨k', S', ks', lo', hi', n'⟩ := x
  simp only [valR, List.length_singleton] at K ⊢
  have HKC := Lib.hid K
  obtain ⟨s0, hs0⟩ : ∃ s0 : Int, s0 = S.1.toNat := ⟨_, rfl⟩
  obtain ⟨s1, hs1⟩ : ∃ s1 : Int, s1 = S.2.1.toNat := ⟨_, rfl⟩
  obtain ⟨s2, hs2⟩ : ∃ s2 : Int, s2 = S.2.2.1.toNat := ⟨_, rfl⟩
  obtain ⟨s3, hs3⟩ : ∃ s3 : Int, s3 = S.2.2.2.toNat := ⟨_, rfl⟩
  rw [← hs0, ← hs1, ← hs2, ← hs3]
  obtain ⟨A0, c0, rfl⟩ := row_len h.row
  by_cases h200 : t.length ≤ 200
  · have b200 : decide ((200 : Int) < (t.length : Int)) = false := by simp; omega
    have b200' : decide (200 < t.length) = false := by simp; omega
    obtain ⟨w1, hw1⟩ : ∃ w1, w1 = w.alloc (.cells #[.int .i64 7, .int .u64 s0, .int .u64 s1, .int .u64 s2, .int .u64 s3, .slice (some ad) 1 c, .int .i64 lo, .int .i64 hi, .int .i64 n] 27) := ⟨_, rfl⟩
    have HW1 := Lib.hid hw1
    have H1 : Hid (RowB B w0 w1 (.slice A0 t.length c0) t) := Lib.hid (by rw [hw1]; exact h.alloc _)
    have HBX : Hid (∀ w', KeptT w1 w' → w'.cell? ⟨w.heap.size, 5, none⟩ = some (.slice (some ad) 1 c)) := Lib.hid fun w' hk' => by
      obtain ⟨_, _, _, _, _, q5, _⟩ := box9 (hw1 ▸ hk'); exact q5
    have e5 := HBX.out w1 (KeptT.refl _)
    have e5a : ∀ o, (w1.alloc o).cell? ⟨w.heap.size, 5, none⟩ = some (.slice (some ad) 1 c) := fun o => HBX.out _ (KeptT.alloc _ _)
    have e5b : ∀ o o', ((w1.alloc o).alloc o').cell? ⟨w.heap.size, 5, none⟩ = some (.slice (some ad) 1 c) := fun o o' => HBX.out _ ((KeptT.alloc _ _).trans (KeptT.alloc _ _))
    obtain ⟨u0, u1, u2, u3, u4, u5, u6, u7, u8⟩ := HA9.out _ H1.out.below
    have ua : ∀ o, At9 (w1.alloc o) ad (Re.mk k' S' ks' lo' hi' n') A' c' := fun o => HA9.out _ (H1.out.alloc o).below
    have ub : ∀ o o', At9 ((w1.alloc o).alloc o') ad (Re.mk k' S' ks' lo' hi' n') A' c' := fun o o' => HA9.out _ ((H1.out.alloc o).alloc o').below
    have HUA := Lib.hid ua
    have HUB := Lib.hid ub
    have HE5A := Lib.hid e5a
    have HE5B := Lib.hid e5b
    clear h hk hf hte hadd h9 hkr h9w h9a hf1 K hxT hs0 hs1 hs2 hs3 hx ua ub e5a e5b
    go_enter Tryd.func21, Tryd.ntmps21
    go_wp2
    rw [← HW1.out]
    clear hw1
    go_region_held3 (fun w' => w'.cell? ⟨w.heap.size, 5, none⟩ = some (.slice (some ad) 1 c) ∧ w'.cell? ad = some (.int .i64 k') ∧ w'.cell? ⟨ad.block, ad.off + 1, none⟩ = some (.int .u64 S'.1.toNat) ∧ w'.cell? ⟨ad.block, ad.off + 2, none⟩ = some (.int .u64 S'.2.1.toNat) ∧
        w'.cell? ⟨ad.block, ad.off + 3, none⟩ = some (.int .u64 S'.2.2.1.toNat) ∧ w'.cell? ⟨ad.block, ad.off + 4, none⟩ = some (.int .u64 S'.2.2.2.toNat) ∧ w'.cell? ⟨ad.block, ad.off + 5, none⟩ = some (.slice A' ks'.length c') ∧ w'.cell? ⟨ad.block, ad.off + 6, none⟩ = some (.int .i64 lo') ∧
        w'.cell? ⟨ad.block, ad.off + 7, none⟩ = some (.int .i64 hi') ∧ w'.cell? ⟨ad.block, ad.off + 8, none⟩ = some (.int .i64 n'))
      (first | go_keep | exact ⟨e5, u0, u1, u2, u3, u4, u5, u6, u7, u8⟩ | exact ⟨HE5A.out _, HUA.out _⟩ | exact ⟨HE5B.out _ _, HUB.out _ _⟩ | exact ⟨HBX.out _ (HK3.out.trans (KeptT.alloc _ _)), HA9.out _ (H3.out.alloc _).below⟩ | exact ⟨HBX.out _ (HK5.out.trans (KeptT.alloc _ _)), HA9.out _ (H5.out.alloc _).below⟩)
      (first
        | (go_at_call 21; ((with_reducible refine (HKC.out _ _ (by first | exact H3.out | exact H3.out.alloc _)).mono ?_)); rintro e w5 ⟨v5, t5, rfl, hc5, hrow5, hk5, hk15⟩; have HK5 : Hid (KeptT w1 w5) := Lib.hid (by first | exact HK3.out.trans hk5 | exact (HK3.out.trans (KeptT.alloc _ _)).trans hk5); have HK15 : Hid (1 ≤ t.length → Keeps1 w1 (.slice A0 t.length c0) w5 v5) := Lib.hid (by first | exact fun h => (HK13.out h).trans (hk15 (by simp)) | exact fun h => (HK13.out h).trans ((Keeps1.below _ (one_box w3 _)).trans (hk15 (by simp)))); (first | (have HL5 := Lib.hid (HL3.out.keeps (hk15 (by simp)))) | (have HL5 := Lib.hid ((lit_new w3 H3.out.row).keeps (hk15 (by simp)))) | skip); have e5 := HBX.out _ HK5.out; obtain ⟨u0, u1, u2, u3, u4, u5, u6, u7, u8⟩ := HA9.out _ hrow5.below; have H5 := Lib.hid hrow5; have HC5 := Lib.hid hc5; have hl5 : t5.length ≤ 900000 := (by have := HC5.out.2.2; simp only [List.length_append, List.length_singleton] at this; omega); clear hrow5 hc5 hk5 hk15)
        | ((refine step_append_own _ (by rfl) (.tmp 55) (.tmp 56) 49 (by rfl) B 5 j0 (.int .u8 0) 1 1 Tryd.underlying49 hj hy0 hy1 hy2 (by rfl) (by decide) _ _ _ (by rfl) (by first | exact (H1.out.drew.alloc _).row | exact ((H1.out.drew.alloc _).alloc _).row) _ 1 1 (byteCells [40]) (by rfl) (by rfl) (by first | exact fun j u hu => new_cells _ 5 #[.int .u8 40] j u hu | exact fun j u hu => new_under _ _ 5 #[.int .u8 40] j u hu | exact fun j u hu => new_cells2 _ _ 5 #[.int .u8 40] j u hu) (bytes_one _) (by unfold maxLen; omega) (by omega) (by first | exact (H1.out.drew.alloc _).size | exact ((H1.out.drew.alloc _).alloc _).size) ?_; intro v3 w3 hown3 hgrow3 _; have HK3 : Hid (KeptT w1 w3) := Lib.hid (by first | exact ((KeptT.drew w1).trans (KeptT.alloc _ _)).trans (KeptT.grown (H1.out.drew.alloc _).row hgrow3) | exact (((KeptT.drew w1).trans (KeptT.alloc _ _)).trans (KeptT.alloc _ _)).trans (KeptT.grown ((H1.out.drew.alloc _).alloc _).row hgrow3)); have H3 : Hid (RowB B w0 w3 v3 (t ++ [40])) := Lib.hid (by first | exact (H1.out.drew.alloc _).bytes [40] hown3 hgrow3 | exact ((H1.out.drew.alloc _).alloc _).bytes [40] hown3 hgrow3); have HK13 : Hid (1 ≤ t.length → Keeps1 w1 (.slice A0 t.length c0) w3 v3) := Lib.hid (by first | exact fun h => (Keeps1.below _ (one_box w1.drew _)).trans (Keeps1.grown hown3 (by omega) hgrow3) | exact fun h => (Keeps1.below _ (two_boxes w1.drew _ _)).trans (Keeps1.grown hown3 (by omega) hgrow3)); (first | (have HL3 : Hid (Lit w3 (w1.heap.size + 1) v3) := Lib.hid ((lit_new2 w1.drew _ (H1.out.drew.alloc _).row).grown hgrow3 hown3)) | (have HL3 : Hid (Lit w3 w1.heap.size v3) := Lib.hid (((lit_new w1.drew H1.out.drew.row).alloc _).grown hgrow3 hown3)) | skip); have e5 := HBX.out _ HK3.out; obtain ⟨u0, u1, u2, u3, u4, u5, u6, u7, u8⟩ := HA9.out _ H3.out.below; clear hown3 hgrow3))
        | ((refine step_append_own _ (by rfl) (.tmp 62) (.tmp 63) 49 (by rfl) B 5 j0 (.int .u8 0) 1 1 Tryd.underlying49 hj hy0 hy1 hy2 (by rfl) (by decide) _ _ _ (by rfl) (by first | exact H5.out.row | exact (H5.out.alloc _).row) _ 1 1 (byteCells [41]) (by rfl) (by rfl) (by first | exact fun j u hu => new_cells w5 5 #[.int .u8 41] j u hu | exact fun j u hu => lit_cell HL5.out.1 j u hu) (bytes_one _) (by unfold maxLen; omega) (by omega) (by first | exact H5.out.size | exact (H5.out.alloc _).size) ?_; intro v7 w7 hown7 hgrow7 _; have H7 : Hid (RowB B w0 w7 v7 (t5 ++ [41])) := Lib.hid (by first | exact H5.out.bytes [41] hown7 hgrow7 | exact (H5.out.alloc _).bytes [41] hown7 hgrow7); have HK7 : Hid (KeptT w1 w7) := Lib.hid (by first | exact HK5.out.trans (KeptT.grown H5.out.row hgrow7) | exact (HK5.out.trans (KeptT.alloc _ _)).trans (KeptT.grown (H5.out.alloc _).row hgrow7)); have HK17 : Hid (1 ≤ t5.length → Keeps1 w5 v5 w7 v7) := Lib.hid (by first | exact fun h => Keeps1.grown hown7 (by omega) hgrow7 | exact fun h => (Keeps1.below _ (one_box w5 _)).trans (Keeps1.grown hown7 (by omega) hgrow7)); have e5 := HBX.out _ HK7.out; obtain ⟨u0, u1, u2, u3, u4, u5, u6, u7, u8⟩ := HA9.out _ H7.out.below; clear hown7 hgrow7))
        | fail)
    all_goals (
      go_wp2
      go_ret
      refine ⟨_, t5 ++ [41], rfl, ?_, H7.out, ?_, fun h1 => ?_⟩
      · have := HC5.out.step (CutT.refl (t5 ++ [41]))
        rw [List.append_assoc, List.append_assoc] at this
        exact this
      · exact (show KeptT w w1 by rw [HW1.out]; exact KeptT.alloc w _).trans HK7.out
      · exact ((show Keeps1 w _ w1 _ by rw [HW1.out]; exact Keeps1.below _ (one_box w _)).trans (HK15.out h1)).trans (HK17.out (HC5.out.pos (by omega) (by simp only [List.length_append, List.length_singleton]; omega))))
  · have b200 : decide ((200 : Int) < (t.length : Int)) = true := by simp; omega
    have b200' : decide (200 < t.length) = true := by simp; omega
    clear h hk hf hte hadd h9 hkr h9w h9a hf1 K hxT hs0 hs1 hs2 hs3 hx
    go_enter Tryd.func21, Tryd.ntmps21
    go_wp2
    go_ret
    exact ⟨_, t, rfl, (CutT.refl t).past _ (by omega), H.out.alloc _, KeptT.alloc w _, fun _ => Keeps1.below _ (one_box w _)⟩
end Go.Proofs.YtccheljfbjllhaaDoor
