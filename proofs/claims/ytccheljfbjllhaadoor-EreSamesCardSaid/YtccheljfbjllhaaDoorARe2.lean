/- What is printed of an expression, as far as it isn't too long: the code's way through all kinds. -/
import Derived.Test.YtccheljfbjllhaaDoorARe
namespace Go.Proofs.YtccheljfbjllhaaDoor
open Go Go.RowKit
attribute [local go_sem ↓] Go.wp_at_zero Go.wp_at_succ

theorem new_under (w : World) (o : Obj) (T : TypeId) (cs : Array Value) (j : Nat) (u : Value) (h : cs.toList[j]? = some u) : ((w.alloc (.cells cs T)).alloc o).cell? ((⟨w.heap.size, 0, none⟩ : Addr).add j) = some u := by
  have h0 := new_cells w T cs j u h
  exact (World.cell?_alloc_lt _ o ((⟨w.heap.size, 0, none⟩ : Addr).add j) (by rw [block_of_add]; simp)).trans h0
theorem byteCells_length (t : Bs) : (byteCells t).length = t.length := by simp [byteCells, Lib.byteCells]
/-- The box of a ) isn't the row that ends with a (. -/
theorem lit_own {w : World} {B L k : Nat} {v : Value} {t : Bs} (ho : w.ownsRow B 5 1 v L (byteCells t ++ byteCells [40])) (hl : w.heap[k]? = some (.cells #[.int .u8 41] 5 (0, 0))) : some k ≠ v.ownBlock := by
  intro e
  have hlen : L = t.length + 1 := by
    have := ho.1
    rw [List.length_append, byteCells_length, byteCells_length] at this
    simp at this; omega
  rcases ho.2 with ⟨rfl, _⟩ | ⟨g, cap, cur, rfl, _, hh, hc, _, hcs, htake⟩
  · simp [Value.ownBlock] at e
  · simp only [Value.ownBlock, Option.some.injEq] at e
    subst e
    rw [hl] at hh
    injection hh with hh
    injection hh with hh _
    subst hh
    simp at hcs
    have ht : t = [] := List.length_eq_zero_iff.1 (by omega)
    subst ht
    obtain rfl : L = 1 := by simpa using hlen
    simp [byteCells, Lib.byteCells] at htake
theorem lit_cell {w : World} {k : Nat} (hl : w.heap[k]? = some (.cells #[.int .u8 41] 5 (0, 0))) (j : Nat) (u : Value) (hu : (byteCells [41])[j]? = some u) : w.cell? ((⟨k, 0, none⟩ : Addr).add j) = some u := by
  have hadd : (⟨k, 0, none⟩ : Addr).add j = ⟨k, j, none⟩ := by unfold Addr.add; split <;> simp_all
  rw [hadd, cell_of_row _ _ j _ 5 (0, 0) hl]
  simp [byteCells, Lib.byteCells] at hu ⊢
  exact hu
theorem own_lt {w : World} {B n g : Nat} {v : Value} {xs : List Value} (h : w.ownsRow B 5 1 v n xs) (e : some g = v.ownBlock) : g < w.heap.size := by
  obtain ⟨cur, hh, _⟩ := own_heap h e
  exact (Array.getElem?_eq_some_iff.1 hh).1
theorem row_len {w : World} {B n : Nat} {v : Value} {xs : List Value} (h : w.ownsRow B 5 1 v n xs) : ∃ A0 c0, v = .slice A0 n c0 := by
  rcases row_form h with ⟨rfl, h0⟩ | ⟨g, cap, rfl, _⟩
  · exact ⟨none, 0, by rw [h0]⟩
  · exact ⟨_, _, rfl⟩
/-- What the law's region holds: the box's and the first Kid's cells. -/
def Held (wb : Nat) (ad : Addr) (A : Option Addr) (m c : Nat) (lo hi : Int) (r : Re) (A' : Option Addr) (c' : Nat) (w : World) : Prop :=
  w.cell? ⟨wb, 5, none⟩ = some (.slice A m c) ∧ w.cell? ⟨wb, 6, none⟩ = some (.int .i64 lo) ∧ w.cell? ⟨wb, 7, none⟩ = some (.int .i64 hi) ∧ At9 w ad r A' c'
theorem told_kids {k : Int} {S : S4} {ks : List Re} {lo hi n : Int} (h : told (.mk k S ks lo hi n) = true) : (k = 6 → (∃ x, ks = [x]) ∧ bound lo hi = true) ∧ (k = 7 → ∃ x, ks = [x]) ∧ (k ≠ 4 → k ≠ 5 → k ≠ 6 → k ≠ 7 → ks = []) := by
  simp only [told, Bool.and_eq_true] at h
  obtain ⟨_, _, h⟩ := h
  refine ⟨fun h6 => ?_, fun h7 => ?_, fun h4 h5 h6 h7 => ?_⟩
  · rw [if_pos h6, Bool.and_eq_true] at h
    rcases ks with _ | ⟨x, _ | ⟨y, t⟩⟩
    · simp at h
    · exact ⟨⟨x, rfl⟩, h.2⟩
    · simp at h
  · rw [if_neg (by omega), if_pos h7] at h
    simp only [Bool.and_eq_true, decide_eq_true_eq] at h
    exact List.length_eq_one_iff.1 h.2.2
  · rw [if_neg h6, if_neg h7, if_neg (by omega)] at h
    simp only [Bool.and_eq_true, decide_eq_true_eq] at h
    exact List.length_eq_zero_iff.1 h.2.2
set_option maxRecDepth 100000 in
set_option maxHeartbeats 4000000 in
theorem are_six (S : S4) (x : Re) (lo hi n : Int) (hx : AReC x) : AReC (.mk 6 S [x] lo hi n) := by
  intro B w0 w v t A c lv d g g' h hk hf hlv hl
  have hx1 : ∃ g1 g2, form x 0 d g1 = some g2 := by
    rw [form] at hf
    split at hf
    · rw [if_neg (by omega)] at hf
      exact formL_at (k := 0) hf rfl
    · cases hf
  have hb : bound lo hi = true := by
    rw [form] at hf
    split at hf
    · rename_i h1; exact ((told_kids h1.2).1 rfl).2
    · cases hf
  obtain ⟨g1, g2, hf1⟩ := hx1
  have hte : textE (.mk 6 S [x] lo hi n) = textE x ++ signT lo hi := by rw [textE, if_neg (by omega), if_neg (by omega), if_neg (by omega), if_neg (by omega), if_pos rfl, joinT, tailT, List.append_nil]
  rw [hte] at hl ⊢
  simp only [List.length_append] at hl
  have hsl := signT_ne lo hi
  obtain ⟨ad, A', c', rfl, hp, h9, hkr⟩ := kids_at (k := 0) hk (r := .mk 6 S [x] lo hi n) (x := x) rfl
  have hadd : ad.add (0 * 9) = ad := by unfold Addr.add; simp
  rw [hadd] at h9
  have h9w := h9.keep (w' := w) (fun o => h.below.cell hp) (h.below.cell hp)
  have hltw : ad.block < w.heap.size := Nat.lt_of_lt_of_le hp h.size
  have h9a : ∀ o, At9 (w.alloc o) ad x A' c' := fun o => h9w.keep (fun o' => World.cell?_alloc_lt w o ⟨ad.block, o', none⟩ hltw) (World.cell?_alloc_lt w o ad hltw)
  have HA9 : Hid (∀ w', Below B w0 w' → At9 w' ad x A' c') := Lib.hid fun w' hb' => h9.keep (fun o => hb'.cell hp) (hb'.cell hp)
  have K : ∀ w1, RowB B w0 w1 v t → Calls Tryd.prog 21 #[v, valR x A' c'] w1 (WrtC B w0 w1 v t (t ++ textE x)) := fun w1 h1 => hx B w0 w1 v t A' c' 0 d g1 g2 h1 hkr hf1 (by omega) (by rw [List.length_append]; omega)
  have KS : Hid (∀ w, Calls Tryd.prog 35 #[.int .i64 lo, .int .i64 hi] w fun e w' => e = .returned (.string ⟨(signT lo hi).toArray⟩) ∧ w = w') := Lib.hid fun w => (sign_any lo hi hb w).mono fun e w' ⟨a, b⟩ => ⟨a, b.symm⟩
  obtain ⟨sg, hsg⟩ : ∃ sg : ByteArray, sg = ⟨(signT lo hi).toArray⟩ := ⟨_, rfl⟩
  have hsgd : sg.data.toList = signT lo hi := by rw [hsg]
  have hsz : sg.size = (signT lo hi).length := by rw [← hsgd, len_data]
  rw [← hsg] at KS
  have HSB : Hid (Lib.strCells sg = byteCells (signT lo hi)) := Lib.hid (by rw [str_cells, hsgd])
  obtain ⟨sT, hsT⟩ : ∃ sT, sT = signT lo hi := ⟨_, rfl⟩
  obtain ⟨xT, hxT⟩ : ∃ xT, xT = textE x := ⟨_, rfl⟩
  rw [← hsT] at hl hsl hsz HSB ⊢
  rw [← hxT] at hl K ⊢
  have H := Lib.hid h
  obtain ⟨j0, hj, hy0, hy1, hy2⟩ := info_parts info5
  obtain ⟨k', S', ks', lo', hi', n'⟩ := x
  simp only [valR, List.length_singleton] at K ⊢
  have HKC := Lib.hid K
  obtain ⟨s0, hs0⟩ : ∃ s0 : Int, s0 = S.1.toNat := ⟨_, rfl⟩
  obtain ⟨s1, hs1⟩ : ∃ s1 : Int, s1 = S.2.1.toNat := ⟨_, rfl⟩
  obtain ⟨s2, hs2⟩ : ∃ s2 : Int, s2 = S.2.2.1.toNat := ⟨_, rfl⟩
  obtain ⟨s3, hs3⟩ : ∃ s3 : Int, s3 = S.2.2.2.toNat := ⟨_, rfl⟩
  rw [← hs0, ← hs1, ← hs2, ← hs3]
  obtain ⟨A0, c0, rfl⟩ := row_len h.row
  have H9A := Lib.hid h9a
  by_cases h200 : t.length ≤ 200
  · have b200 : decide ((200 : Int) < (t.length : Int)) = false := by simp; omega
    have b200' : decide (200 < t.length) = false := by simp; omega
    obtain ⟨e0, e1, e2, e3, e4, e5, e6, e7, e8⟩ := h9a (.cells #[.int .i64 6, .int .u64 s0, .int .u64 s1, .int .u64 s2, .int .u64 s3, .slice (some ad) 1 c, .int .i64 lo, .int .i64 hi, .int .i64 n] 27)
    clear h hk hf hb hte hadd h9 hkr h9w h9a hf1 K hsg hsgd hsT hxT hs0 hs1 hs2 hs3 hx
    go_enter Tryd.func21, Tryd.ntmps21
    go_wp2
    go_region_held3 (fun w' => (w'.cell? ⟨w.heap.size, 5, none⟩ = some (.slice (some ad) 1 c) ∧ w'.cell? ⟨w.heap.size, 6, none⟩ = some (.int .i64 lo) ∧ w'.cell? ⟨w.heap.size, 7, none⟩ = some (.int .i64 hi)) ∧ w'.cell? ad = some (.int .i64 k') ∧ w'.cell? ⟨ad.block, ad.off + 1, none⟩ = some (.int .u64 S'.1.toNat) ∧ w'.cell? ⟨ad.block, ad.off + 2, none⟩ = some (.int .u64 S'.2.1.toNat) ∧
        w'.cell? ⟨ad.block, ad.off + 3, none⟩ = some (.int .u64 S'.2.2.1.toNat) ∧ w'.cell? ⟨ad.block, ad.off + 4, none⟩ = some (.int .u64 S'.2.2.2.toNat) ∧ w'.cell? ⟨ad.block, ad.off + 5, none⟩ = some (.slice A' ks'.length c') ∧ w'.cell? ⟨ad.block, ad.off + 6, none⟩ = some (.int .i64 lo') ∧
        w'.cell? ⟨ad.block, ad.off + 7, none⟩ = some (.int .i64 hi') ∧ w'.cell? ⟨ad.block, ad.off + 8, none⟩ = some (.int .i64 n'))
      (first | go_keep | exact ⟨⟨q5, q6, q7⟩, u0, u1, u2, u3, u4, u5, u6, u7, u8⟩)
      (first
        | (go_at_call 21; ((with_reducible refine (HKC.out _ (H.out.alloc _).drew).mono ?_)); rintro e w5 ⟨v5, t5, rfl, hc5, hrow5, hk5, hk15⟩; obtain ⟨_, _, _, _, _, q5, q6, q7, _⟩ := box9 ((KeptT.drew _).trans hk5); obtain ⟨u0, u1, u2, u3, u4, u5, u6, u7, u8⟩ := HA9.out _ hrow5.below; have H5 := Lib.hid hrow5; have HC5 := Lib.hid hc5; have HK5 := Lib.hid hk5; have HK15 := Lib.hid hk15; have hl5 : t5.length ≤ 900000 := (by have := HC5.out.2.2; rw [List.length_append] at this; omega); clear hrow5 hc5 hk5 hk15)
        | (go_at_call 35; ((with_reducible refine (KS.out _).mono ?_)); rintro e w6 ⟨rfl, h6⟩; have H6 : Hid (RowB B w0 w6 v5 t5) := Lib.hid (h6 ▸ H5.out); have HK6 : Hid (KeptT _ w6) := Lib.hid (h6 ▸ HK5.out); have HK16 : Hid (1 ≤ t.length → Keeps1 _ _ w6 v5) := Lib.hid (h6 ▸ HK15.out); obtain ⟨_, _, _, _, _, q5, q6, q7, _⟩ := box9 ((KeptT.drew _).trans HK6.out); obtain ⟨u0, u1, u2, u3, u4, u5, u6, u7, u8⟩ := HA9.out _ H6.out.below; clear h6)
        | ((refine step_append_text _ (by rfl) (.tmp 46) (.tmp 51) 49 9 (by rfl) B 5 j0 Tryd.underlying49 Tryd.underlying9 hj hy0 hy1 hy2 _ _ _ (by rfl) H6.out.row sg (by rfl) (by rw [hsz]; unfold maxLen; omega) (by rw [hsz]; omega) H6.out.size ?_; intro v7 w7 hown7 hgrow7 _; obtain ⟨_, _, _, _, _, q5, q6, q7, _⟩ := box9 (((KeptT.drew _).trans HK6.out).trans (KeptT.grown H6.out.row hgrow7)); have hown8 := hown7; rw [HSB.out, hsz] at hown8; have H7 := Lib.hid (H6.out.bytes sT hown8 hgrow7); obtain ⟨u0, u1, u2, u3, u4, u5, u6, u7, u8⟩ := HA9.out _ H7.out.below; have HG7 := Lib.hid (KeptT.grown H6.out.row hgrow7); have HK17 : Hid (1 ≤ t5.length → Keeps1 _ v5 w7 v7) := Lib.hid (fun h1 => Keeps1.grown hown7 (by rw [hsz]; omega) hgrow7); clear hown7 hown8 hgrow7)))
    go_wp2
    go_ret
    refine ⟨_, t5 ++ sT, rfl, ?_, H7.out, (KeptT.alloc w _).trans ((KeptT.drew _).trans (HK6.out.trans HG7.out)), fun h1 => ((Keeps1.below _ (one_box w _)).trans (HK16.out h1)).trans (HK17.out (HC5.out.pos (by omega) (by rw [List.length_append]; omega)))⟩
    have := HC5.out.step (CutT.refl (t5 ++ sT))
    rw [List.append_assoc] at this
    exact this
  · have b200 : decide ((200 : Int) < (t.length : Int)) = true := by simp; omega
    have b200' : decide (200 < t.length) = true := by simp; omega
    clear h hk hf hb hte hadd h9 hkr h9w h9a hf1 K hsg hsgd hsT hxT hs0 hs1 hs2 hs3 hx
    go_enter Tryd.func21, Tryd.ntmps21
    go_wp2
    go_ret
    exact ⟨_, t, rfl, (CutT.refl t).past _ (by omega), H.out.alloc _, KeptT.alloc w _, fun _ => Keeps1.below _ (one_box w _)⟩
end Go.Proofs.YtccheljfbjllhaaDoor
