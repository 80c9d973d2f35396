/- The code's Print and May, for expressions of up to 600 kinds. -/
import Derived.Test.YtccheljfbjllhaaDoorPrint
import Derived.Laws.BytesArg
namespace Go.Proofs.YtccheljfbjllhaaDoor
open Go Go.RowKit

theorem signT_len (lo hi : Int) : (signT lo hi).length ≤ 5 := by
  unfold signT
  split
  · simp
  · split
    · simp
    · split
      · simp
      · split
        · simp
        · split <;> simp
theorem text_len (r : Re) : (textE r).length + 1 ≤ 1310 * sizeE r := by
  induction r using Re.ind with
  | h k S ks lo hi n ih =>
    have tl : ∀ (sep : Bs), sep.length ≤ 1 → ∀ l : List Re, (∀ x ∈ l, (textE x).length + 1 ≤ 1310 * sizeE x) → (tailT sep l).length ≤ 1310 * sizeL l := by
      intro sep hs l
      induction l with
      | nil => intro _; simp [tailT]
      | cons x l ih2 =>
        intro h
        have h1 := h x (by simp)
        have h2 := ih2 (fun y hy => h y (by simp [hy]))
        rw [tailT, sizeL]; simp only [List.length_append]; omega
    have jl : ∀ (sep : Bs), sep.length ≤ 1 → (joinT sep ks).length ≤ 1310 * sizeL ks := by
      intro sep hs
      cases ks with
      | nil => simp [joinT]
      | cons x l =>
        have h1 := ih x (by simp)
        have h2 := tl sep hs l (fun y hy => ih y (by simp [hy]))
        rw [joinT, sizeL]; simp only [List.length_append]; omega
    have j0 := jl [] (by simp)
    have j1 := jl [124] (by simp)
    have hs := setText_len S
    have hg := signT_len lo hi
    rw [textE, sizeE]
    split
    · omega
    · split
      · simp; omega
      · split
        · simp; omega
        · split
          · simp only [List.length_cons, List.length_append, List.length_nil]; omega
          · split
            · simp only [List.length_append]; omega
            · split <;> omega
def printE (r : Re) : ByteArray × Int := match form r 3 0 0 with
  | none => (⟨#[]⟩, 5)
  | some _ => if 200 < (textE r).length then (⟨#[]⟩, 2) else (⟨(textE r).toArray⟩, 0)
set_option maxRecDepth 100000 in
theorem text_conv {w : World} {B g cap : Nat} {t : Bs} (h : w.ownsRow B 5 1 (.slice (some ⟨g, 0, none⟩) t.length cap) t.length (byteCells t)) :
    (convert 49 9 (.slice (some ⟨g, 0, none⟩) t.length cap)).run Tryd.prog w = .ok (.string ⟨t.toArray⟩) w := by
  refine run_convert_bytes_back (P := Tryd.prog) w 49 9 5 ⟨g, 0, none⟩ cap t Tryd.underlying49 Tryd.underlying5 Tryd.underlying9 ?_
  intro j hj
  exact h.cells (g := g) rfl j _ (by simp [byteCells, Lib.byteCells, hj])
set_option maxRecDepth 100000 in
theorem nil_conv (w : World) : (convert 49 9 (.slice none 0 0)).run Tryd.prog w = .ok (.string ⟨#[]⟩) w := by
  rw [run_convert_bytes_string w 49 9 5 none 0 0 Tryd.underlying49 Tryd.underlying5 Tryd.underlying9]
  rfl
set_option maxRecDepth 100000 in
theorem conv_row {w : World} {B cap : Nat} {A : Option Addr} {t : Bs} (h : w.ownsRow B 5 1 (.slice A t.length cap) t.length (byteCells t)) : (convert 49 9 (.slice A t.length cap)).run Tryd.prog w = .ok (.string ⟨t.toArray⟩) w := by
  rcases row_form h with ⟨e, h0⟩ | ⟨g, cap', e, _⟩
  · have ht : t = [] := List.length_eq_zero_iff.1 h0
    injection e with e1 e2 e3
    subst e1 e3
    subst ht
    exact nil_conv w
  · injection e with e1 e2 e3
    subst e1 e3
    exact text_conv h
theorem shp_new (w : World) : Shp w.heap.size (w.alloc (.cells #[.int .i64 0] 47)) 0 := ⟨by simp [go_sem], by simp [go_sem]⟩
def PostW (w : World) (R : ByteArray × Int) (e : Ending) (w' : World) : Prop := e = .returned (.tuple #[.string R.1, .int .i64 R.2]) ∧ Below w.heap.size w w'
set_option maxRecDepth 100000 in
set_option maxHeartbeats 4000000 in
theorem print_any (r : Re) (A : Option Addr) (c : Nat) (w : World) (hk : Kids (Lt w.heap.size) w A r) (hs : sizeE r ≤ 600) :
    Calls Tryd.prog 9 #[valR r A c] w (PostW w (printE r)) := by
  obtain ⟨R, hR⟩ : ∃ R, R = printE r := ⟨_, rfl⟩
  rw [← hR]
  unfold printE at hR
  have htl := text_len r
  obtain ⟨F, hF⟩ : ∃ F, F = form r 3 0 0 := ⟨_, rfl⟩
  rw [← hF] at hR
  have K20 : Hid (∀ w1, Below w.heap.size w w1 → Shp (w.heap.size + 1) w1 0 → Calls Tryd.prog 20 #[.pointer (some ⟨w.heap.size + 1, 0, none⟩), valR r A c, .int .i64 3, .int .i64 0] w1 (PostF (w.heap.size + 1) w1 F)) := Lib.hid fun w1 h1 h2 => by
    rw [hF]
    exact fits_any r (w.heap.size + 1) 0 A c 3 0 w1 (hk.mk_off h1 (by omega)) h2 (by omega) (by omega) (by omega)
  have K21 : Hid (∀ w1 g, F = some g → Below w.heap.size w w1 → Calls Tryd.prog 21 #[.slice none 0 0, valR r A c] w1 (WrtC w1.heap.size w1 w1 (.slice none 0 0) [] (textE r))) := Lib.hid fun w1 g h1 h2 =>
    are_any r w1.heap.size w1 w1 (.slice none 0 0) [] A c 3 0 0 g (Row1.nil 5 1 w1) (hk.next h2) (hF.symm.trans h1) (by omega) (by simp; omega)
  obtain ⟨T, hT⟩ : ∃ T, T = textE r := ⟨_, rfl⟩
  rw [← hT] at hR K21 htl
  clear hk hF hT
  obtain ⟨k, S, ks, lo, hi, n⟩ := r
  simp only [valR] at K20 K21 ⊢
  obtain ⟨m, hm⟩ : ∃ m, m = ks.length := ⟨_, rfl⟩
  rw [← hm] at K20 K21 ⊢
  obtain ⟨s0, hs0⟩ : ∃ s0 : Int, s0 = S.1.toNat := ⟨_, rfl⟩
  obtain ⟨s1, hs1⟩ : ∃ s1 : Int, s1 = S.2.1.toNat := ⟨_, rfl⟩
  obtain ⟨s2, hs2⟩ : ∃ s2 : Int, s2 = S.2.2.1.toNat := ⟨_, rfl⟩
  obtain ⟨s3, hs3⟩ : ∃ s3 : Int, s3 = S.2.2.2.toNat := ⟨_, rfl⟩
  rw [← hs0, ← hs1, ← hs2, ← hs3] at K20 K21 ⊢
  have HBX : Hid (∀ w1, ((w.alloc (.cells #[.int .i64 k, .int .u64 s0, .int .u64 s1, .int .u64 s2, .int .u64 s3, .slice A m c, .int .i64 lo, .int .i64 hi, .int .i64 n] 27)).alloc (.cells #[.int .i64 0] 47)).grownBy w1 (some (w.heap.size + 1)) → ∀ j u, (#[.int .i64 k, .int .u64 s0, .int .u64 s1, .int .u64 s2, .int .u64 s3, .slice A m c, .int .i64 lo, .int .i64 hi, .int .i64 n] : Array Value)[j]? = some u → w1.cell? ⟨w.heap.size, j, none⟩ = some u) := Lib.hid fun w1 hg j u hu =>
    hg.cell (a := ⟨w.heap.size, j, none⟩) (box_first w _ _ 27 j u (by simpa using hu)) (by intro e; injection e with e; have : w.heap.size = w.heap.size + 1 := e; omega)
  have HSH : Hid (Shp (w.heap.size + 1) ((w.alloc (.cells #[.int .i64 k, .int .u64 s0, .int .u64 s1, .int .u64 s2, .int .u64 s3, .slice A m c, .int .i64 lo, .int .i64 hi, .int .i64 n] 27)).alloc (.cells #[.int .i64 0] 47)) 0) := Lib.hid (by have := shp_new (w.alloc (.cells #[.int .i64 k, .int .u64 s0, .int .u64 s1, .int .u64 s2, .int .u64 s3, .slice A m c, .int .i64 lo, .int .i64 hi, .int .i64 n] 27)); simpa using this)
  clear hm hs0 hs1 hs2 hs3
  cases F with
  | none =>
    have HX : Hid (R = (⟨#[]⟩, 5)) := Lib.hid hR
    clear hR
    go_enter Tryd.func9, Tryd.ntmps9
    go_wp2_with (go_at_call 20; ((with_reducible refine (K20.out _ (two_boxes _ _ _) HSH.out).mono ?_)); rintro e w1 ⟨hg1, rfl⟩)
    go_ret2
    rw [HX.out]
    exact ⟨rfl, below_grown (two_boxes _ _ _) hg1 (by simp; omega) (by omega)⟩
  | some g =>
    have HR := Lib.hid hR
    clear hR
    have K21 : Hid (∀ w1, Below w.heap.size w w1 → Calls Tryd.prog 21 #[.slice none 0 0, .agg #[.int .i64 k, .int .u64 s0, .int .u64 s1, .int .u64 s2, .int .u64 s3, .slice A m c, .int .i64 lo, .int .i64 hi, .int .i64 n]] w1 (WrtC w1.heap.size w1 w1 (.slice none 0 0) [] T)) := Lib.hid fun w1 h1 => K21.out w1 g rfl h1
    by_cases h200 : 200 < T.length
    · have HX : Hid (R = (⟨#[]⟩, 2)) := Lib.hid (by rw [HR.out]; exact if_pos h200)
      go_enter Tryd.func9, Tryd.ntmps9
      go_wp2_with (first | (go_at_call 20; ((with_reducible refine (K20.out _ (two_boxes _ _ _) HSH.out).mono ?_)); rintro e w1 ⟨hg1, rfl, _⟩; have HB1 := Lib.hid (below_grown (two_boxes _ _ _) hg1 (by simp; omega) (by omega)); have c0 := HBX.out _ hg1 0 _ rfl; have c1 := HBX.out _ hg1 1 _ rfl; have c2 := HBX.out _ hg1 2 _ rfl; have c3 := HBX.out _ hg1 3 _ rfl; have c4 := HBX.out _ hg1 4 _ rfl; have c5 := HBX.out _ hg1 5 _ rfl; have c6 := HBX.out _ hg1 6 _ rfl; have c7 := HBX.out _ hg1 7 _ rfl; have c8 := HBX.out _ hg1 8 _ rfl; clear hg1) | (go_at_call 21; ((with_reducible refine (K21.out _ HB1.out).mono ?_)); rintro e w2 ⟨v2, t2, rfl, hc2, hrow2, _, _⟩; obtain ⟨A2, c2', rfl⟩ := row_len hrow2.row; have h2 := hc2.2.1 h200; have hle2 := hc2.2.2; have HB2 := Lib.hid (HB1.out.trans (hrow2.below.mono HB1.out.size)); clear hc2 hrow2))
      go_ret2
      rw [HX.out]
      exact ⟨rfl, HB2.out⟩
    · have HX : Hid (R = (⟨T.toArray⟩, 0)) := Lib.hid (by rw [HR.out]; exact if_neg h200)
      go_enter Tryd.func9, Tryd.ntmps9
      go_wp2_with (first | (go_at_call 20; ((with_reducible refine (K20.out _ (two_boxes _ _ _) HSH.out).mono ?_)); rintro e w1 ⟨hg1, rfl, _⟩; have HB1 := Lib.hid (below_grown (two_boxes _ _ _) hg1 (by simp; omega) (by omega)); have c0 := HBX.out _ hg1 0 _ rfl; have c1 := HBX.out _ hg1 1 _ rfl; have c2 := HBX.out _ hg1 2 _ rfl; have c3 := HBX.out _ hg1 3 _ rfl; have c4 := HBX.out _ hg1 4 _ rfl; have c5 := HBX.out _ hg1 5 _ rfl; have c6 := HBX.out _ hg1 6 _ rfl; have c7 := HBX.out _ hg1 7 _ rfl; have c8 := HBX.out _ hg1 8 _ rfl; clear hg1) | (go_at_call 21; ((with_reducible refine (K21.out _ HB1.out).mono ?_)); rintro e w2 ⟨v2, t2, rfl, hc2, hrow2, _, _⟩; obtain rfl := hc2.1 (by omega); obtain ⟨A2, c2', rfl⟩ := row_len hrow2.row; have HB2 := Lib.hid (HB1.out.trans (hrow2.below.mono HB1.out.size)); have hcv := conv_row hrow2.row; clear hc2 hrow2))
      go_ret2
      rw [HX.out]
      exact ⟨rfl, HB2.out⟩
def mayE (r : Re) : Bool := match form r 3 0 0 with
  | none => false
  | some _ => decide ((textE r).length ≤ 200)
set_option maxRecDepth 100000 in
set_option maxHeartbeats 4000000 in
theorem may_any (r : Re) (A : Option Addr) (c : Nat) (w : World) (hk : Kids (Lt w.heap.size) w A r) (hs : sizeE r ≤ 600) :
    Calls Tryd.prog 11 #[valR r A c] w fun e w' => e = .returned (.bool (mayE r)) ∧ Below w.heap.size w w' := by
  have K9 : Hid (∀ w1, Below w.heap.size w w1 → Calls Tryd.prog 9 #[valR r A c] w1 (PostW w1 (printE r))) := Lib.hid fun w1 h1 => print_any r A c w1 (hk.next h1) hs
  obtain ⟨R, hR⟩ : ∃ R, R = printE r := ⟨_, rfl⟩
  rw [← hR] at K9
  have hm : mayE r = (R.2 == 0) := by
    rw [hR]; unfold mayE printE
    cases form r 3 0 0 with
    | none => rfl
    | some g =>
      by_cases h : 200 < (textE r).length
      · simp only [if_pos h]; simp; omega
      · simp only [if_neg h]; simp; omega
  rw [hm]
  clear hR hk hm
  obtain ⟨k, S, ks, lo, hi, n⟩ := r
  simp only [valR] at K9 ⊢
  obtain ⟨R1, R2⟩ := R
  go_enter Tryd.func11, Tryd.ntmps11
  go_wp2_with (go_at_call 9; ((with_reducible refine (K9.out _ (one_box _ _)).mono ?_)); rintro e w1 ⟨rfl, hb1⟩)
  go_ret
  exact ⟨rfl, (one_box _ _).trans (hb1.mono (by simp))⟩
end Go.Proofs.YtccheljfbjllhaaDoor
