/- The code's reader: an atom. -/
import Derived.Test.YtccheljfbjllhaaDoorRdr7
namespace Go.Proofs.YtccheljfbjllhaaDoor
open Go Go.RowKit

/-- A function reads as rd does. -/
def RdC (fn : Nat) (s : ByteArray) (o : Nat) (rd : Rd) : Prop := ∀ (b : Nat) (w : World) (k g : Nat), Rdr b w s k g o → k < s.size → g ≤ k → Calls Tryd.prog fn #[.pointer (some ⟨b, 0, none⟩)] w (PostT b w s o (rd k g))
abbrev TreeBad (fn b : Nat) (s : ByteArray) (o k g q : Nat) (er : Int) : Prop := ∀ w, Rdr b w s k g o →
  Calls Tryd.prog fn #[.pointer (some ⟨b, 0, none⟩)] w fun e w' => (∃ x A c, e = .returned (.tuple #[valR x A c, .int .i64 er])) ∧ (∃ g', Rdr b w' s q g' o) ∧ w.grownBy w' (some b)
abbrev TreeOk (fn b : Nat) (s : ByteArray) (o k g q g' : Nat) (x : Re) : Prop := ∀ w, Rdr b w s k g o →
  Calls Tryd.prog fn #[.pointer (some ⟨b, 0, none⟩)] w fun e w' => (∃ A c, e = .returned (.tuple #[valR x A c, .int .i64 0]) ∧ Kids (Fr w.heap.size w'.heap.size) w' A x) ∧ Rdr b w' s q g' o ∧ w.grownBy w' (some b)
theorem tree_bad {fn : Nat} {s : ByteArray} {o : Nat} {rd : Rd} (h : RdC fn s o rd) (b : Nat) {k g q : Nat} {er : Int} (hk : k < s.size) (hg : g ≤ k) (hR : rd k g = .bad q er) : TreeBad fn b s o k g q er := fun w hr =>
  (by rw [← hR]; exact h b w k g hr hk hg : Calls _ _ _ _ (PostT b w s o (.bad q er))).mono fun _ _ ⟨h1, h2, _, h4⟩ => ⟨h2, h4, h1⟩
theorem tree_ok {fn : Nat} {s : ByteArray} {o : Nat} {rd : Rd} (h : RdC fn s o rd) (b : Nat) {k g q g' : Nat} {x : Re} (hk : k < s.size) (hg : g ≤ k) (hR : rd k g = .ok x q g') : TreeOk fn b s o k g q g' x := fun w hr =>
  (by rw [← hR]; exact h b w k g hr hk hg : Calls _ _ _ _ (PostT b w s o (.ok x q g'))).mono fun _ _ ⟨h1, h2, _, h4⟩ => ⟨h2, h4, h1⟩
/-- The error isn't 0; the groups don't outgrow the place. For it, the reader must be asked once. -/
def Sane (s : ByteArray) (rd : Rd) : Prop := ∀ k g, k < s.size → g ≤ k → (∀ q er, rd k g = .bad q er → er = 1 ∨ er = 8) ∧ ∀ x q g', rd k g = .ok x q g' → k < q ∧ q ≤ s.size ∧ g' ≤ q
abbrev SetBad (b : Nat) (s : ByteArray) (g o k q : Nat) : Prop := ∀ w, Rdr b w s k g o →
  Calls Tryd.prog 63 #[.pointer (some ⟨b, 0, none⟩)] w fun e w' => e = .returned (.tuple #[.agg #[.int .u64 0, .int .u64 0, .int .u64 0, .int .u64 0], .int .i64 1]) ∧ Rdr b w' s q g o ∧ w.grownBy w' (some b)
abbrev SetOk (b : Nat) (s : ByteArray) (g o k q : Nat) (S : S4) : Prop := ∀ w, Rdr b w s k g o →
  Calls Tryd.prog 63 #[.pointer (some ⟨b, 0, none⟩)] w fun e w' => e = .returned (.tuple #[.agg #[.int .u64 S.1.toNat, .int .u64 S.2.1.toNat, .int .u64 S.2.2.1.toNat, .int .u64 S.2.2.2.toNat], .int .i64 0]) ∧ Rdr b w' s q g o ∧ w.grownBy w' (some b)
theorem set_bad (b : Nat) {s : ByteArray} (g o : Nat) {k q : Nat} (hs : s.size ≤ 1000000) (hk : k ≤ s.size) (h : cls s.data.toList k = .bad q) : SetBad b s g o k q := fun w hr =>
  (by rw [← h]; exact set_any b w s k g o hr hs hk : Calls _ _ _ _ (PostC b w s g o (.bad q))).mono fun _ _ ⟨h1, h2, h3⟩ => ⟨h2, h3, h1⟩
theorem set_ok (b : Nat) {s : ByteArray} (g o : Nat) {k q : Nat} {S : S4} (hs : s.size ≤ 1000000) (hk : k ≤ s.size) (h : cls s.data.toList k = .ok S q) : SetOk b s g o k q S := fun w hr =>
  (by rw [← h]; exact set_any b w s k g o hr hs hk : Calls _ _ _ _ (PostC b w s g o (.ok S q))).mono fun _ _ ⟨h1, h2, h3⟩ => ⟨h2, h3, h1⟩
theorem looks36 : Looks ⟨#[36]⟩ [36] := all256 _ (by decide +kernel)
theorem looks46 : Looks ⟨#[46]⟩ [46] := all256 _ (by decide +kernel)
theorem looks40 : Looks ⟨#[40]⟩ [40] := all256 _ (by decide +kernel)
theorem looks41 : Looks ⟨#[41]⟩ [41] := all256 _ (by decide +kernel)
theorem looks91 : Looks ⟨#[91]⟩ [91] := all256 _ (by decide +kernel)
theorem looks42 : Looks ⟨#[42]⟩ [42] := all256 _ (by decide +kernel)
theorem looks43 : Looks ⟨#[43]⟩ [43] := all256 _ (by decide +kernel)
theorem looks63 : Looks ⟨#[63]⟩ [63] := all256 _ (by decide +kernel)
theorem looks123 : Looks ⟨#[123]⟩ [123] := all256 _ (by decide +kernel)
theorem looks124 : Looks ⟨#[124]⟩ [124] := all256 _ (by decide +kernel)
theorem looksA' : Looks ⟨#[92, 124, 40, 41, 42, 43, 63, 123, 46, 91, 94, 36]⟩ sgA := looksA
theorem addS_one (S : S4) (c : UInt8) : addS S (c, c) = ins S c.toNat := by
  unfold addS
  dsimp only
  rw [show c.toNat + 1 - c.toNat = 1 by omega]
  rfl
set_option maxRecDepth 100000 in
set_option maxHeartbeats 8000000 in
theorem atom_any (s : ByteArray) (o : Nat) (grp : Rd) (hs : s.size ≤ 1000000) (hgrp : RdC 62 s o grp) (hsane : Sane s grp) : RdC 56 s o (atomR grp s.data.toList) := by
  intro b w k g h hk hgk
  obtain ⟨R, hR⟩ : ∃ R, R = atomR grp s.data.toList k g := ⟨_, rfl⟩
  rw [← hR]
  unfold atomR at hR
  have hb := Lib.hid h.lt
  have HR := Lib.hid (h.below (one_box w (.cells #[.int .i64 0, .int .u64 0, .int .u64 0, .int .u64 0, .int .u64 0, .slice none 0 0, .int .i64 0, .int .i64 0, .int .i64 0] 27)))
  have HG := Lib.hid (grown_below (b := b) (one_box w (.cells #[.int .i64 0, .int .u64 0, .int .u64 0, .int .u64 0, .int .u64 0, .slice none 0 0, .int .i64 0, .int .i64 0, .int .i64 0] 27)))
  have HB := Lib.hid (Box9.new w (.int .i64 0) (.int .u64 0) (.int .u64 0) (.int .u64 0) (.int .u64 0) (.slice none 0 0) (.int .i64 0) (.int .i64 0) (.int .i64 0))
  have hsz : s.data.toList.length = s.size := rfl
  obtain ⟨k1, hk1⟩ : ∃ k1, k1 = k + 1 := ⟨_, rfl⟩
  have hk1s : k1 ≤ s.size := by omega
  have hgk1 : g ≤ k1 := by omega
  rw [← hk1] at hR
  clear h
  by_cases h94 : s.data.toList[k]? = some 94
  · rw [if_pos h94] at hR
    have KA := Lib.hid (skip_yes looks94 b g o hs h94 hk1)
    have HX := Lib.hid hR
    clear hR h94 hk1
    go_enter Tryd.func56, Tryd.ntmps56
    go_wp2_with ((go_at_call 36; (with_reducible refine (Hid.out KA _ (Hid.out HR)).mono ?_); go_must (rintro _ wvq ⟨heq, hr1q, hg1q⟩; subst heq; have hg2q := grown_trans (Hid.out HG) hg1q; have hb2q := Box9.grown (Hid.out HB) hg1q (Nat.ne_of_gt (Hid.out hb)); clear HR; have HR := Lib.hid hr1q; clear HG; have HG := Lib.hid hg2q; clear HB; have HB := Lib.hid hb2q; obtain ⟨c0, c1, _, c3, f1, _, f3⟩ := hr1q; obtain ⟨d0, d1, d2, d3, d4, d5, d6, d7, d8, _⟩ := hb2q; obtain ⟨e0, e1, e2, e3, e4, e5, e6, e7, e8⟩ := Box9.freed (Hid.out HB); clear hg1q hg2q)))
    obtain ⟨W3, hW3, hbx, hr, hgw⟩ := endT (.int .i64 2) (.int .u64 0) (.int .u64 0) (.int .u64 0) (.int .u64 0) (.slice none 0 0) (.int .i64 0) (.int .i64 0) (.int .i64 0) hb.out HR.out HG.out HB.out
    unfold put9 at hW3
    rw [← hW3]
    obtain ⟨l0, l1, l2, l3, l4, l5, l6, l7, l8, _⟩ := hbx
    exact bodyPost_ret (v := .tuple #[.agg #[.int .i64 2, .int .u64 0, .int .u64 0, .int .u64 0, .int .u64 0, .slice none 0 0, .int .i64 0, .int .i64 0, .int .i64 0], .int .i64 0]) (by simp [results, Tryd.results56, go_sem, l0, l1, l2, l3, l4, l5, l6, l7, l8]) rfl (postt_ok HX.out none 0 (by rfl) (Kids.leaf _ _ _ _ _ _ _ _) hgk1 hr hgw)
  · rw [if_neg h94] at hR
    have KA := Lib.hid (skip_no looks94 b g o hs h94)
    by_cases h36 : s.data.toList[k]? = some 36
    · rw [if_pos h36] at hR
      have KB := Lib.hid (skip_yes looks36 b g o hs h36 hk1)
      have HX := Lib.hid hR
      clear hR h94 h36 hk1
      go_enter Tryd.func56, Tryd.ntmps56
      go_wp2_with (first | (go_at_call 36; (with_reducible refine (Hid.out KA _ (Hid.out HR)).mono ?_); go_must (rintro _ wvq ⟨heq, hr1q, hg1q⟩; subst heq; have hg2q := grown_trans (Hid.out HG) hg1q; have hb2q := Box9.grown (Hid.out HB) hg1q (Nat.ne_of_gt (Hid.out hb)); clear HR; have HR := Lib.hid hr1q; clear HG; have HG := Lib.hid hg2q; clear HB; have HB := Lib.hid hb2q; obtain ⟨c0, c1, _, c3, f1, _, f3⟩ := hr1q; obtain ⟨d0, d1, d2, d3, d4, d5, d6, d7, d8, _⟩ := hb2q; obtain ⟨e0, e1, e2, e3, e4, e5, e6, e7, e8⟩ := Box9.freed (Hid.out HB); clear hg1q hg2q)) | (go_at_call 36; (with_reducible refine (Hid.out KB _ (Hid.out HR)).mono ?_); go_must (rintro _ wvq ⟨heq, hr1q, hg1q⟩; subst heq; have hg2q := grown_trans (Hid.out HG) hg1q; have hb2q := Box9.grown (Hid.out HB) hg1q (Nat.ne_of_gt (Hid.out hb)); clear HR; have HR := Lib.hid hr1q; clear HG; have HG := Lib.hid hg2q; clear HB; have HB := Lib.hid hb2q; obtain ⟨c0, c1, _, c3, f1, _, f3⟩ := hr1q; obtain ⟨d0, d1, d2, d3, d4, d5, d6, d7, d8, _⟩ := hb2q; obtain ⟨e0, e1, e2, e3, e4, e5, e6, e7, e8⟩ := Box9.freed (Hid.out HB); clear hg1q hg2q)))
      obtain ⟨W3, hW3, hbx, hr, hgw⟩ := endT (.int .i64 3) (.int .u64 0) (.int .u64 0) (.int .u64 0) (.int .u64 0) (.slice none 0 0) (.int .i64 0) (.int .i64 0) (.int .i64 0) hb.out HR.out HG.out HB.out
      unfold put9 at hW3
      rw [← hW3]
      obtain ⟨l0, l1, l2, l3, l4, l5, l6, l7, l8, _⟩ := hbx
      exact bodyPost_ret (v := .tuple #[.agg #[.int .i64 3, .int .u64 0, .int .u64 0, .int .u64 0, .int .u64 0, .slice none 0 0, .int .i64 0, .int .i64 0, .int .i64 0], .int .i64 0]) (by simp [results, Tryd.results56, go_sem, l0, l1, l2, l3, l4, l5, l6, l7, l8]) rfl (postt_ok HX.out none 0 (by rfl) (Kids.leaf _ _ _ _ _ _ _ _) hgk1 hr hgw)
    · rw [if_neg h36] at hR
      have KB := Lib.hid (skip_no looks36 b g o hs h36)
      by_cases h46 : s.data.toList[k]? = some 46
      · rw [if_pos h46] at hR
        have KC := Lib.hid (skip_yes looks46 b g o hs h46 hk1)
        obtain ⟨T, hT⟩ : ∃ T, T = compl none4 := ⟨_, rfl⟩
        have KO : Hid (∀ w, Calls Tryd.prog 47 #[.agg #[.int .u64 0, .int .u64 0, .int .u64 0, .int .u64 0]] w fun e w' => e = .returned (.agg #[.int .u64 T.1.toNat, .int .u64 T.2.1.toNat, .int .u64 T.2.2.1.toNat, .int .u64 T.2.2.2.toNat]) ∧ Below w.heap.size w w') := Lib.hid fun w => by rw [hT]; exact others_any none4 w
        rw [← hT] at hR
        have HX := Lib.hid hR
        clear hR h94 h36 h46 hk1 hT
        go_enter Tryd.func56, Tryd.ntmps56
        go_wp2_with (first | (go_at_call 36; (with_reducible refine (Hid.out KA _ (Hid.out HR)).mono ?_); go_must (rintro _ wvq ⟨heq, hr1q, hg1q⟩; subst heq; have hg2q := grown_trans (Hid.out HG) hg1q; have hb2q := Box9.grown (Hid.out HB) hg1q (Nat.ne_of_gt (Hid.out hb)); clear HR; have HR := Lib.hid hr1q; clear HG; have HG := Lib.hid hg2q; clear HB; have HB := Lib.hid hb2q; obtain ⟨c0, c1, _, c3, f1, _, f3⟩ := hr1q; obtain ⟨d0, d1, d2, d3, d4, d5, d6, d7, d8, _⟩ := hb2q; obtain ⟨e0, e1, e2, e3, e4, e5, e6, e7, e8⟩ := Box9.freed (Hid.out HB); clear hg1q hg2q)) | (go_at_call 36; (with_reducible refine (Hid.out KB _ (Hid.out HR)).mono ?_); go_must (rintro _ wvq ⟨heq, hr1q, hg1q⟩; subst heq; have hg2q := grown_trans (Hid.out HG) hg1q; have hb2q := Box9.grown (Hid.out HB) hg1q (Nat.ne_of_gt (Hid.out hb)); clear HR; have HR := Lib.hid hr1q; clear HG; have HG := Lib.hid hg2q; clear HB; have HB := Lib.hid hb2q; obtain ⟨c0, c1, _, c3, f1, _, f3⟩ := hr1q; obtain ⟨d0, d1, d2, d3, d4, d5, d6, d7, d8, _⟩ := hb2q; obtain ⟨e0, e1, e2, e3, e4, e5, e6, e7, e8⟩ := Box9.freed (Hid.out HB); clear hg1q hg2q)) | (go_at_call 36; (with_reducible refine (Hid.out KC _ (Hid.out HR)).mono ?_); go_must (rintro _ wvq ⟨heq, hr1q, hg1q⟩; subst heq; have hg2q := grown_trans (Hid.out HG) hg1q; have hb2q := Box9.grown (Hid.out HB) hg1q (Nat.ne_of_gt (Hid.out hb)); clear HR; have HR := Lib.hid hr1q; clear HG; have HG := Lib.hid hg2q; clear HB; have HB := Lib.hid hb2q; obtain ⟨c0, c1, _, c3, f1, _, f3⟩ := hr1q; obtain ⟨d0, d1, d2, d3, d4, d5, d6, d7, d8, _⟩ := hb2q; obtain ⟨e0, e1, e2, e3, e4, e5, e6, e7, e8⟩ := Box9.freed (Hid.out HB); clear hg1q hg2q)) | (go_at_call 47; (with_reducible refine (KO.out _).mono ?_); go_must (rintro _ wv ⟨rfl, hbl⟩; have hg1 := grown_below (b := b) hbl; have HR1 := Lib.hid (HR.out.below hbl); have HG1 := Lib.hid (grown_trans HG.out hg1); have HB1 := Lib.hid (HB.out.grown hg1 (Nat.ne_of_gt hb.out)); obtain ⟨d0, d1, d2, d3, d4, d5, d6, d7, d8, _⟩ := HB1.out; obtain ⟨e0, e1, e2, e3, e4, e5, e6, e7, e8⟩ := Box9.freed HB1.out; clear hg1 hbl)))
        obtain ⟨W3, hW3, hbx, hr, hgw⟩ := endT (.int .i64 1) (.int .u64 T.1.toNat) (.int .u64 T.2.1.toNat) (.int .u64 T.2.2.1.toNat) (.int .u64 T.2.2.2.toNat) (.slice none 0 0) (.int .i64 0) (.int .i64 0) (.int .i64 0) hb.out HR1.out HG1.out HB1.out
        unfold put9 at hW3
        rw [← hW3]
        obtain ⟨l0, l1, l2, l3, l4, l5, l6, l7, l8, _⟩ := hbx
        exact bodyPost_ret (v := .tuple #[.agg #[.int .i64 1, .int .u64 T.1.toNat, .int .u64 T.2.1.toNat, .int .u64 T.2.2.1.toNat, .int .u64 T.2.2.2.toNat, .slice none 0 0, .int .i64 0, .int .i64 0, .int .i64 0], .int .i64 0]) (by simp [results, Tryd.results56, go_sem, l0, l1, l2, l3, l4, l5, l6, l7, l8]) rfl (postt_ok HX.out none 0 (by rfl) (Kids.leaf _ _ _ _ _ _ _ _) hgk1 hr hgw)
      · rw [if_neg h46] at hR
        have KC := Lib.hid (skip_no looks46 b g o hs h46)
        by_cases h40 : s.data.toList[k]? = some 40
        · rw [if_pos h40] at hR
          have KD := Lib.hid (see_g (see_one looks40 b g o (decide_eq_true h40)))
          obtain ⟨sa1, sa2⟩ := hsane k g hk hgk
          rcases hgg : grp k g with ⟨q, er⟩ | ⟨x, q, g'⟩
          · have KG := Lib.hid (tree_bad hgrp b hk hgk hgg)
            have her := sa1 q er hgg
            rw [hgg] at hR
            have HX := Lib.hid hR
            have HER := Lib.hid her
            clear hR h94 h36 h46 h40 hk1 hgg sa1 sa2 her
            go_enter Tryd.func56, Tryd.ntmps56
            go_wp2_with (first | (go_at_call 36; (with_reducible refine (Hid.out KA _ (Hid.out HR)).mono ?_); go_must (rintro _ wvq ⟨heq, hr1q, hg1q⟩; subst heq; have hg2q := grown_trans (Hid.out HG) hg1q; have hb2q := Box9.grown (Hid.out HB) hg1q (Nat.ne_of_gt (Hid.out hb)); clear HR; have HR := Lib.hid hr1q; clear HG; have HG := Lib.hid hg2q; clear HB; have HB := Lib.hid hb2q; obtain ⟨c0, c1, _, c3, f1, _, f3⟩ := hr1q; obtain ⟨d0, d1, d2, d3, d4, d5, d6, d7, d8, _⟩ := hb2q; obtain ⟨e0, e1, e2, e3, e4, e5, e6, e7, e8⟩ := Box9.freed (Hid.out HB); clear hg1q hg2q)) | (go_at_call 36; (with_reducible refine (Hid.out KB _ (Hid.out HR)).mono ?_); go_must (rintro _ wvq ⟨heq, hr1q, hg1q⟩; subst heq; have hg2q := grown_trans (Hid.out HG) hg1q; have hb2q := Box9.grown (Hid.out HB) hg1q (Nat.ne_of_gt (Hid.out hb)); clear HR; have HR := Lib.hid hr1q; clear HG; have HG := Lib.hid hg2q; clear HB; have HB := Lib.hid hb2q; obtain ⟨c0, c1, _, c3, f1, _, f3⟩ := hr1q; obtain ⟨d0, d1, d2, d3, d4, d5, d6, d7, d8, _⟩ := hb2q; obtain ⟨e0, e1, e2, e3, e4, e5, e6, e7, e8⟩ := Box9.freed (Hid.out HB); clear hg1q hg2q)) | (go_at_call 36; (with_reducible refine (Hid.out KC _ (Hid.out HR)).mono ?_); go_must (rintro _ wvq ⟨heq, hr1q, hg1q⟩; subst heq; have hg2q := grown_trans (Hid.out HG) hg1q; have hb2q := Box9.grown (Hid.out HB) hg1q (Nat.ne_of_gt (Hid.out hb)); clear HR; have HR := Lib.hid hr1q; clear HG; have HG := Lib.hid hg2q; clear HB; have HB := Lib.hid hb2q; obtain ⟨c0, c1, _, c3, f1, _, f3⟩ := hr1q; obtain ⟨d0, d1, d2, d3, d4, d5, d6, d7, d8, _⟩ := hb2q; obtain ⟨e0, e1, e2, e3, e4, e5, e6, e7, e8⟩ := Box9.freed (Hid.out HB); clear hg1q hg2q)) | (go_at_call 49; (with_reducible refine (Hid.out KD _ (Hid.out HR)).mono ?_); go_must (rintro _ wvq ⟨heq, hr1q, hg1q⟩; subst heq; have hg2q := grown_trans (Hid.out HG) hg1q; have hb2q := Box9.grown (Hid.out HB) hg1q (Nat.ne_of_gt (Hid.out hb)); clear HR; have HR := Lib.hid hr1q; clear HG; have HG := Lib.hid hg2q; clear HB; have HB := Lib.hid hb2q; obtain ⟨c0, c1, _, c3, f1, _, f3⟩ := hr1q; obtain ⟨d0, d1, d2, d3, d4, d5, d6, d7, d8, _⟩ := hb2q; obtain ⟨e0, e1, e2, e3, e4, e5, e6, e7, e8⟩ := Box9.freed (Hid.out HB); clear hg1q hg2q)) | (go_at_call 62; (with_reducible refine (KG.out _ HR.out).mono ?_); go_must (rintro _ wv ⟨⟨⟨kx, S, ks, lo, hi, n⟩, A, c, he⟩, ⟨g2, hr1⟩, hg1⟩; have he2 : _ = Ending.returned (.tuple #[.agg #[.int .i64 kx, .int .u64 S.1.toNat, .int .u64 S.2.1.toNat, .int .u64 S.2.2.1.toNat, .int .u64 S.2.2.2.toNat, .slice A ks.length c, .int .i64 lo, .int .i64 hi, .int .i64 n], .int .i64 er]) := he; clear he; subst he2; have HW := Lib.hid (World.block_lt_of_cell? _ _ HB.out.c0); have HR1 := Lib.hid hr1; have HG1 := Lib.hid (grown_trans HG.out hg1); have HB1 := Lib.hid (HB.out.grown hg1 (Nat.ne_of_gt hb.out)); obtain ⟨d0, d1, d2, d3, d4, d5, d6, d7, d8, _⟩ := HB1.out; obtain ⟨e0, e1, e2, e3, e4, e5, e6, e7, e8⟩ := Box9.freed HB1.out; clear hg1 hr1)))
            obtain ⟨W3, hW3, hbx, hr, hgw⟩ := endT (.int .i64 kx) (.int .u64 S.1.toNat) (.int .u64 S.2.1.toNat) (.int .u64 S.2.2.1.toNat) (.int .u64 S.2.2.2.toNat) (.slice A ks.length c) (.int .i64 lo) (.int .i64 hi) (.int .i64 n) hb.out HR1.out HG1.out HB1.out
            unfold put9 at hW3
            rw [← hW3]
            obtain ⟨l0, l1, l2, l3, l4, l5, l6, l7, l8, _⟩ := hbx
            exact bodyPost_ret (v := .tuple #[.agg #[.int .i64 kx, .int .u64 S.1.toNat, .int .u64 S.2.1.toNat, .int .u64 S.2.2.1.toNat, .int .u64 S.2.2.2.toNat, .slice A ks.length c, .int .i64 lo, .int .i64 hi, .int .i64 n], .int .i64 er]) (by simp [results, Tryd.results56, go_sem, l0, l1, l2, l3, l4, l5, l6, l7, l8]) rfl (postt_bad HX.out (.mk kx S ks lo hi n) A c (by rfl) HER.out hr hgw)
          · obtain ⟨kx, S, ks, lo, hi, n⟩ := x
            have KG := Lib.hid (tree_ok hgrp b hk hgk hgg)
            have hq := sa2 _ q g' hgg
            rw [hgg] at hR
            have HX := Lib.hid hR
            have HQ := Lib.hid hq
            clear hR h94 h36 h46 h40 hk1 hgg sa1 sa2 hq
            go_enter Tryd.func56, Tryd.ntmps56
            go_wp2_with (first | (go_at_call 36; (with_reducible refine (Hid.out KA _ (Hid.out HR)).mono ?_); go_must (rintro _ wvq ⟨heq, hr1q, hg1q⟩; subst heq; have hg2q := grown_trans (Hid.out HG) hg1q; have hb2q := Box9.grown (Hid.out HB) hg1q (Nat.ne_of_gt (Hid.out hb)); clear HR; have HR := Lib.hid hr1q; clear HG; have HG := Lib.hid hg2q; clear HB; have HB := Lib.hid hb2q; obtain ⟨c0, c1, _, c3, f1, _, f3⟩ := hr1q; obtain ⟨d0, d1, d2, d3, d4, d5, d6, d7, d8, _⟩ := hb2q; obtain ⟨e0, e1, e2, e3, e4, e5, e6, e7, e8⟩ := Box9.freed (Hid.out HB); clear hg1q hg2q)) | (go_at_call 36; (with_reducible refine (Hid.out KB _ (Hid.out HR)).mono ?_); go_must (rintro _ wvq ⟨heq, hr1q, hg1q⟩; subst heq; have hg2q := grown_trans (Hid.out HG) hg1q; have hb2q := Box9.grown (Hid.out HB) hg1q (Nat.ne_of_gt (Hid.out hb)); clear HR; have HR := Lib.hid hr1q; clear HG; have HG := Lib.hid hg2q; clear HB; have HB := Lib.hid hb2q; obtain ⟨c0, c1, _, c3, f1, _, f3⟩ := hr1q; obtain ⟨d0, d1, d2, d3, d4, d5, d6, d7, d8, _⟩ := hb2q; obtain ⟨e0, e1, e2, e3, e4, e5, e6, e7, e8⟩ := Box9.freed (Hid.out HB); clear hg1q hg2q)) | (go_at_call 36; (with_reducible refine (Hid.out KC _ (Hid.out HR)).mono ?_); go_must (rintro _ wvq ⟨heq, hr1q, hg1q⟩; subst heq; have hg2q := grown_trans (Hid.out HG) hg1q; have hb2q := Box9.grown (Hid.out HB) hg1q (Nat.ne_of_gt (Hid.out hb)); clear HR; have HR := Lib.hid hr1q; clear HG; have HG := Lib.hid hg2q; clear HB; have HB := Lib.hid hb2q; obtain ⟨c0, c1, _, c3, f1, _, f3⟩ := hr1q; obtain ⟨d0, d1, d2, d3, d4, d5, d6, d7, d8, _⟩ := hb2q; obtain ⟨e0, e1, e2, e3, e4, e5, e6, e7, e8⟩ := Box9.freed (Hid.out HB); clear hg1q hg2q)) | (go_at_call 49; (with_reducible refine (Hid.out KD _ (Hid.out HR)).mono ?_); go_must (rintro _ wvq ⟨heq, hr1q, hg1q⟩; subst heq; have hg2q := grown_trans (Hid.out HG) hg1q; have hb2q := Box9.grown (Hid.out HB) hg1q (Nat.ne_of_gt (Hid.out hb)); clear HR; have HR := Lib.hid hr1q; clear HG; have HG := Lib.hid hg2q; clear HB; have HB := Lib.hid hb2q; obtain ⟨c0, c1, _, c3, f1, _, f3⟩ := hr1q; obtain ⟨d0, d1, d2, d3, d4, d5, d6, d7, d8, _⟩ := hb2q; obtain ⟨e0, e1, e2, e3, e4, e5, e6, e7, e8⟩ := Box9.freed (Hid.out HB); clear hg1q hg2q)) | (go_at_call 62; (with_reducible refine (KG.out _ HR.out).mono ?_); go_must (rintro _ wv ⟨⟨A, c, he, hkid⟩, hr1, hg1⟩; have he2 : _ = Ending.returned (.tuple #[.agg #[.int .i64 kx, .int .u64 S.1.toNat, .int .u64 S.2.1.toNat, .int .u64 S.2.2.1.toNat, .int .u64 S.2.2.2.toNat, .slice A ks.length c, .int .i64 lo, .int .i64 hi, .int .i64 n], .int .i64 0]) := he; clear he; subst he2; have HW := Lib.hid (World.block_lt_of_cell? _ _ HB.out.c0); have HR1 := Lib.hid hr1; have HG1 := Lib.hid (grown_trans HG.out hg1); have HB1 := Lib.hid (HB.out.grown hg1 (Nat.ne_of_gt hb.out)); have HKD := Lib.hid hkid; clear hkid; obtain ⟨d0, d1, d2, d3, d4, d5, d6, d7, d8, _⟩ := HB1.out; obtain ⟨e0, e1, e2, e3, e4, e5, e6, e7, e8⟩ := Box9.freed HB1.out; clear hg1 hr1)))
            obtain ⟨W3, hW3, hbx, hr, hgw⟩ := endT (.int .i64 kx) (.int .u64 S.1.toNat) (.int .u64 S.2.1.toNat) (.int .u64 S.2.2.1.toNat) (.int .u64 S.2.2.2.toNat) (.slice A ks.length c) (.int .i64 lo) (.int .i64 hi) (.int .i64 n) hb.out HR1.out HG1.out HB1.out
            have KK : Kids (Fr w.heap.size W3.heap.size) W3 A (.mk kx S ks lo hi n) := by
              have hw := HW.out
              have hs2 := congrArg (fun W => W.heap.size) hW3
              simp only [size_put9] at hs2
              rw [hs2, hW3]
              exact (HKD.out.put9 (.inl hw) _ _ _ _ _ _ _ _ _).wide (Nat.le_of_lt hw) (Nat.le_refl _)
            unfold put9 at hW3
            rw [← hW3]
            obtain ⟨l0, l1, l2, l3, l4, l5, l6, l7, l8, _⟩ := hbx
            exact bodyPost_ret (v := .tuple #[.agg #[.int .i64 kx, .int .u64 S.1.toNat, .int .u64 S.2.1.toNat, .int .u64 S.2.2.1.toNat, .int .u64 S.2.2.2.toNat, .slice A ks.length c, .int .i64 lo, .int .i64 hi, .int .i64 n], .int .i64 0]) (by simp [results, Tryd.results56, go_sem, l0, l1, l2, l3, l4, l5, l6, l7, l8]) rfl (postt_ok HX.out A c (by rfl) KK HQ.out.2.2 hr hgw)
        · rw [if_neg h40] at hR
          have KD := Lib.hid (see_g (see_one looks40 b g o (decide_eq_false h40)))
          by_cases h91 : s.data.toList[k]? = some 91
          · rw [if_pos h91] at hR
            have KE := Lib.hid (skip_yes looks91 b g o hs h91 hk1)
            rcases hcl : cls s.data.toList k1 with q | ⟨S, q⟩
            · have KF := Lib.hid (set_bad b g o hs hk1s hcl)
              rw [hcl] at hR
              have HX := Lib.hid hR
              clear hR h94 h36 h46 h40 h91 hk1 hcl
              go_enter Tryd.func56, Tryd.ntmps56
              go_wp2_with (first | (go_at_call 36; (with_reducible refine (Hid.out KA _ (Hid.out HR)).mono ?_); go_must (rintro _ wvq ⟨heq, hr1q, hg1q⟩; subst heq; have hg2q := grown_trans (Hid.out HG) hg1q; have hb2q := Box9.grown (Hid.out HB) hg1q (Nat.ne_of_gt (Hid.out hb)); clear HR; have HR := Lib.hid hr1q; clear HG; have HG := Lib.hid hg2q; clear HB; have HB := Lib.hid hb2q; obtain ⟨c0, c1, _, c3, f1, _, f3⟩ := hr1q; obtain ⟨d0, d1, d2, d3, d4, d5, d6, d7, d8, _⟩ := hb2q; obtain ⟨e0, e1, e2, e3, e4, e5, e6, e7, e8⟩ := Box9.freed (Hid.out HB); clear hg1q hg2q)) | (go_at_call 36; (with_reducible refine (Hid.out KB _ (Hid.out HR)).mono ?_); go_must (rintro _ wvq ⟨heq, hr1q, hg1q⟩; subst heq; have hg2q := grown_trans (Hid.out HG) hg1q; have hb2q := Box9.grown (Hid.out HB) hg1q (Nat.ne_of_gt (Hid.out hb)); clear HR; have HR := Lib.hid hr1q; clear HG; have HG := Lib.hid hg2q; clear HB; have HB := Lib.hid hb2q; obtain ⟨c0, c1, _, c3, f1, _, f3⟩ := hr1q; obtain ⟨d0, d1, d2, d3, d4, d5, d6, d7, d8, _⟩ := hb2q; obtain ⟨e0, e1, e2, e3, e4, e5, e6, e7, e8⟩ := Box9.freed (Hid.out HB); clear hg1q hg2q)) | (go_at_call 36; (with_reducible refine (Hid.out KC _ (Hid.out HR)).mono ?_); go_must (rintro _ wvq ⟨heq, hr1q, hg1q⟩; subst heq; have hg2q := grown_trans (Hid.out HG) hg1q; have hb2q := Box9.grown (Hid.out HB) hg1q (Nat.ne_of_gt (Hid.out hb)); clear HR; have HR := Lib.hid hr1q; clear HG; have HG := Lib.hid hg2q; clear HB; have HB := Lib.hid hb2q; obtain ⟨c0, c1, _, c3, f1, _, f3⟩ := hr1q; obtain ⟨d0, d1, d2, d3, d4, d5, d6, d7, d8, _⟩ := hb2q; obtain ⟨e0, e1, e2, e3, e4, e5, e6, e7, e8⟩ := Box9.freed (Hid.out HB); clear hg1q hg2q)) | (go_at_call 49; (with_reducible refine (Hid.out KD _ (Hid.out HR)).mono ?_); go_must (rintro _ wvq ⟨heq, hr1q, hg1q⟩; subst heq; have hg2q := grown_trans (Hid.out HG) hg1q; have hb2q := Box9.grown (Hid.out HB) hg1q (Nat.ne_of_gt (Hid.out hb)); clear HR; have HR := Lib.hid hr1q; clear HG; have HG := Lib.hid hg2q; clear HB; have HB := Lib.hid hb2q; obtain ⟨c0, c1, _, c3, f1, _, f3⟩ := hr1q; obtain ⟨d0, d1, d2, d3, d4, d5, d6, d7, d8, _⟩ := hb2q; obtain ⟨e0, e1, e2, e3, e4, e5, e6, e7, e8⟩ := Box9.freed (Hid.out HB); clear hg1q hg2q)) | (go_at_call 36; (with_reducible refine (Hid.out KE _ (Hid.out HR)).mono ?_); go_must (rintro _ wvq ⟨heq, hr1q, hg1q⟩; subst heq; have hg2q := grown_trans (Hid.out HG) hg1q; have hb2q := Box9.grown (Hid.out HB) hg1q (Nat.ne_of_gt (Hid.out hb)); clear HR; have HR := Lib.hid hr1q; clear HG; have HG := Lib.hid hg2q; clear HB; have HB := Lib.hid hb2q; obtain ⟨c0, c1, _, c3, f1, _, f3⟩ := hr1q; obtain ⟨d0, d1, d2, d3, d4, d5, d6, d7, d8, _⟩ := hb2q; obtain ⟨e0, e1, e2, e3, e4, e5, e6, e7, e8⟩ := Box9.freed (Hid.out HB); clear hg1q hg2q)) | (go_at_call 63; (with_reducible refine (KF.out _ HR.out).mono ?_); go_must (rintro _ wv ⟨rfl, hr1, hg1⟩; have ha := grown_below (b := b) (one_box wv (.cells #[.int .u64 0, .int .u64 0, .int .u64 0, .int .u64 0] 24)); have HR1 := Lib.hid (hr1.below (one_box wv (.cells #[.int .u64 0, .int .u64 0, .int .u64 0, .int .u64 0] 24))); have HG1 := Lib.hid (grown_trans (grown_trans HG.out hg1) ha); have HB1 := Lib.hid ((HB.out.grown hg1 (Nat.ne_of_gt hb.out)).grown ha (Nat.ne_of_gt hb.out)); obtain ⟨d0, d1, d2, d3, d4, d5, d6, d7, d8, _⟩ := HB1.out; obtain ⟨e0, e1, e2, e3, e4, e5, e6, e7, e8⟩ := Box9.freed HB1.out; clear hg1 ha hr1)))
              obtain ⟨W3, hW3, hbx, hr, hgw⟩ := endT (.int .i64 1) (.int .u64 0) (.int .u64 0) (.int .u64 0) (.int .u64 0) (.slice none 0 0) (.int .i64 0) (.int .i64 0) (.int .i64 0) hb.out HR1.out HG1.out HB1.out
              unfold put9 at hW3
              rw [← hW3]
              obtain ⟨l0, l1, l2, l3, l4, l5, l6, l7, l8, _⟩ := hbx
              exact bodyPost_ret (v := .tuple #[.agg #[.int .i64 1, .int .u64 0, .int .u64 0, .int .u64 0, .int .u64 0, .slice none 0 0, .int .i64 0, .int .i64 0, .int .i64 0], .int .i64 1]) (by simp [results, Tryd.results56, go_sem, l0, l1, l2, l3, l4, l5, l6, l7, l8]) rfl (postt_bad HX.out (rSet none4) none 0 (by rfl) (.inl rfl) hr hgw)
            · have KF := Lib.hid (set_ok b g o hs hk1s hcl)
              have hq := cls_bd (s := s.data.toList) (k := k1) hk1s
              rw [hcl] at hR hq
              have HX := Lib.hid hR
              have HQ : Hid (g ≤ q) := Lib.hid (by dsimp only at hq; omega)
              clear hR h94 h36 h46 h40 h91 hk1 hcl hq
              go_enter Tryd.func56, Tryd.ntmps56
              go_wp2_with (first | (go_at_call 36; (with_reducible refine (Hid.out KA _ (Hid.out HR)).mono ?_); go_must (rintro _ wvq ⟨heq, hr1q, hg1q⟩; subst heq; have hg2q := grown_trans (Hid.out HG) hg1q; have hb2q := Box9.grown (Hid.out HB) hg1q (Nat.ne_of_gt (Hid.out hb)); clear HR; have HR := Lib.hid hr1q; clear HG; have HG := Lib.hid hg2q; clear HB; have HB := Lib.hid hb2q; obtain ⟨c0, c1, _, c3, f1, _, f3⟩ := hr1q; obtain ⟨d0, d1, d2, d3, d4, d5, d6, d7, d8, _⟩ := hb2q; obtain ⟨e0, e1, e2, e3, e4, e5, e6, e7, e8⟩ := Box9.freed (Hid.out HB); clear hg1q hg2q)) | (go_at_call 36; (with_reducible refine (Hid.out KB _ (Hid.out HR)).mono ?_); go_must (rintro _ wvq ⟨heq, hr1q, hg1q⟩; subst heq; have hg2q := grown_trans (Hid.out HG) hg1q; have hb2q := Box9.grown (Hid.out HB) hg1q (Nat.ne_of_gt (Hid.out hb)); clear HR; have HR := Lib.hid hr1q; clear HG; have HG := Lib.hid hg2q; clear HB; have HB := Lib.hid hb2q; obtain ⟨c0, c1, _, c3, f1, _, f3⟩ := hr1q; obtain ⟨d0, d1, d2, d3, d4, d5, d6, d7, d8, _⟩ := hb2q; obtain ⟨e0, e1, e2, e3, e4, e5, e6, e7, e8⟩ := Box9.freed (Hid.out HB); clear hg1q hg2q)) | (go_at_call 36; (with_reducible refine (Hid.out KC _ (Hid.out HR)).mono ?_); go_must (rintro _ wvq ⟨heq, hr1q, hg1q⟩; subst heq; have hg2q := grown_trans (Hid.out HG) hg1q; have hb2q := Box9.grown (Hid.out HB) hg1q (Nat.ne_of_gt (Hid.out hb)); clear HR; have HR := Lib.hid hr1q; clear HG; have HG := Lib.hid hg2q; clear HB; have HB := Lib.hid hb2q; obtain ⟨c0, c1, _, c3, f1, _, f3⟩ := hr1q; obtain ⟨d0, d1, d2, d3, d4, d5, d6, d7, d8, _⟩ := hb2q; obtain ⟨e0, e1, e2, e3, e4, e5, e6, e7, e8⟩ := Box9.freed (Hid.out HB); clear hg1q hg2q)) | (go_at_call 49; (with_reducible refine (Hid.out KD _ (Hid.out HR)).mono ?_); go_must (rintro _ wvq ⟨heq, hr1q, hg1q⟩; subst heq; have hg2q := grown_trans (Hid.out HG) hg1q; have hb2q := Box9.grown (Hid.out HB) hg1q (Nat.ne_of_gt (Hid.out hb)); clear HR; have HR := Lib.hid hr1q; clear HG; have HG := Lib.hid hg2q; clear HB; have HB := Lib.hid hb2q; obtain ⟨c0, c1, _, c3, f1, _, f3⟩ := hr1q; obtain ⟨d0, d1, d2, d3, d4, d5, d6, d7, d8, _⟩ := hb2q; obtain ⟨e0, e1, e2, e3, e4, e5, e6, e7, e8⟩ := Box9.freed (Hid.out HB); clear hg1q hg2q)) | (go_at_call 36; (with_reducible refine (Hid.out KE _ (Hid.out HR)).mono ?_); go_must (rintro _ wvq ⟨heq, hr1q, hg1q⟩; subst heq; have hg2q := grown_trans (Hid.out HG) hg1q; have hb2q := Box9.grown (Hid.out HB) hg1q (Nat.ne_of_gt (Hid.out hb)); clear HR; have HR := Lib.hid hr1q; clear HG; have HG := Lib.hid hg2q; clear HB; have HB := Lib.hid hb2q; obtain ⟨c0, c1, _, c3, f1, _, f3⟩ := hr1q; obtain ⟨d0, d1, d2, d3, d4, d5, d6, d7, d8, _⟩ := hb2q; obtain ⟨e0, e1, e2, e3, e4, e5, e6, e7, e8⟩ := Box9.freed (Hid.out HB); clear hg1q hg2q)) | (go_at_call 63; (with_reducible refine (KF.out _ HR.out).mono ?_); go_must (rintro _ wv ⟨rfl, hr1, hg1⟩; have ha := grown_below (b := b) (one_box wv (.cells #[.int .u64 S.1.toNat, .int .u64 S.2.1.toNat, .int .u64 S.2.2.1.toNat, .int .u64 S.2.2.2.toNat] 24)); have HR1 := Lib.hid (hr1.below (one_box wv (.cells #[.int .u64 S.1.toNat, .int .u64 S.2.1.toNat, .int .u64 S.2.2.1.toNat, .int .u64 S.2.2.2.toNat] 24))); have HG1 := Lib.hid (grown_trans (grown_trans HG.out hg1) ha); have HB1 := Lib.hid ((HB.out.grown hg1 (Nat.ne_of_gt hb.out)).grown ha (Nat.ne_of_gt hb.out)); obtain ⟨d0, d1, d2, d3, d4, d5, d6, d7, d8, _⟩ := HB1.out; obtain ⟨e0, e1, e2, e3, e4, e5, e6, e7, e8⟩ := Box9.freed HB1.out; clear hg1 ha hr1)))
              obtain ⟨W3, hW3, hbx, hr, hgw⟩ := endT (.int .i64 1) (.int .u64 S.1.toNat) (.int .u64 S.2.1.toNat) (.int .u64 S.2.2.1.toNat) (.int .u64 S.2.2.2.toNat) (.slice none 0 0) (.int .i64 0) (.int .i64 0) (.int .i64 0) hb.out HR1.out HG1.out HB1.out
              unfold put9 at hW3
              rw [← hW3]
              obtain ⟨l0, l1, l2, l3, l4, l5, l6, l7, l8, _⟩ := hbx
              exact bodyPost_ret (v := .tuple #[.agg #[.int .i64 1, .int .u64 S.1.toNat, .int .u64 S.2.1.toNat, .int .u64 S.2.2.1.toNat, .int .u64 S.2.2.2.toNat, .slice none 0 0, .int .i64 0, .int .i64 0, .int .i64 0], .int .i64 0]) (by simp [results, Tryd.results56, go_sem, l0, l1, l2, l3, l4, l5, l6, l7, l8]) rfl (postt_ok HX.out none 0 (by rfl) (Kids.leaf _ _ _ _ _ _ _ _) HQ.out hr hgw)
          · rw [if_neg h91] at hR
            have KE := Lib.hid (skip_no looks91 b g o hs h91)
            rcases hby : rb sgA s.data.toList k with q | ⟨c, q⟩
            · have KF := Lib.hid (by_bad looksA' b g o hs (by omega) hby)
              obtain ⟨T, hT⟩ : ∃ T, T = addS none4 (0, 0) := ⟨_, rfl⟩
              have KS : Hid (∀ w, Calls Tryd.prog 65 #[.agg #[.int .u64 0, .int .u64 0, .int .u64 0, .int .u64 0], .int .u8 0, .int .u8 0] w fun e w' => e = .returned (.agg #[.int .u64 T.1.toNat, .int .u64 T.2.1.toNat, .int .u64 T.2.2.1.toNat, .int .u64 T.2.2.2.toNat]) ∧ Below w.heap.size w w') := Lib.hid fun w => by rw [hT]; exact span_any none4 0 0 w
              rw [hby] at hR
              have HX := Lib.hid hR
              clear hR h94 h36 h46 h40 h91 hk1 hby hT
              go_enter Tryd.func56, Tryd.ntmps56
              go_wp2_with (first | (go_at_call 36; (with_reducible refine (Hid.out KA _ (Hid.out HR)).mono ?_); go_must (rintro _ wvq ⟨heq, hr1q, hg1q⟩; subst heq; have hg2q := grown_trans (Hid.out HG) hg1q; have hb2q := Box9.grown (Hid.out HB) hg1q (Nat.ne_of_gt (Hid.out hb)); clear HR; have HR := Lib.hid hr1q; clear HG; have HG := Lib.hid hg2q; clear HB; have HB := Lib.hid hb2q; obtain ⟨c0, c1, _, c3, f1, _, f3⟩ := hr1q; obtain ⟨d0, d1, d2, d3, d4, d5, d6, d7, d8, _⟩ := hb2q; obtain ⟨e0, e1, e2, e3, e4, e5, e6, e7, e8⟩ := Box9.freed (Hid.out HB); clear hg1q hg2q)) | (go_at_call 36; (with_reducible refine (Hid.out KB _ (Hid.out HR)).mono ?_); go_must (rintro _ wvq ⟨heq, hr1q, hg1q⟩; subst heq; have hg2q := grown_trans (Hid.out HG) hg1q; have hb2q := Box9.grown (Hid.out HB) hg1q (Nat.ne_of_gt (Hid.out hb)); clear HR; have HR := Lib.hid hr1q; clear HG; have HG := Lib.hid hg2q; clear HB; have HB := Lib.hid hb2q; obtain ⟨c0, c1, _, c3, f1, _, f3⟩ := hr1q; obtain ⟨d0, d1, d2, d3, d4, d5, d6, d7, d8, _⟩ := hb2q; obtain ⟨e0, e1, e2, e3, e4, e5, e6, e7, e8⟩ := Box9.freed (Hid.out HB); clear hg1q hg2q)) | (go_at_call 36; (with_reducible refine (Hid.out KC _ (Hid.out HR)).mono ?_); go_must (rintro _ wvq ⟨heq, hr1q, hg1q⟩; subst heq; have hg2q := grown_trans (Hid.out HG) hg1q; have hb2q := Box9.grown (Hid.out HB) hg1q (Nat.ne_of_gt (Hid.out hb)); clear HR; have HR := Lib.hid hr1q; clear HG; have HG := Lib.hid hg2q; clear HB; have HB := Lib.hid hb2q; obtain ⟨c0, c1, _, c3, f1, _, f3⟩ := hr1q; obtain ⟨d0, d1, d2, d3, d4, d5, d6, d7, d8, _⟩ := hb2q; obtain ⟨e0, e1, e2, e3, e4, e5, e6, e7, e8⟩ := Box9.freed (Hid.out HB); clear hg1q hg2q)) | (go_at_call 49; (with_reducible refine (Hid.out KD _ (Hid.out HR)).mono ?_); go_must (rintro _ wvq ⟨heq, hr1q, hg1q⟩; subst heq; have hg2q := grown_trans (Hid.out HG) hg1q; have hb2q := Box9.grown (Hid.out HB) hg1q (Nat.ne_of_gt (Hid.out hb)); clear HR; have HR := Lib.hid hr1q; clear HG; have HG := Lib.hid hg2q; clear HB; have HB := Lib.hid hb2q; obtain ⟨c0, c1, _, c3, f1, _, f3⟩ := hr1q; obtain ⟨d0, d1, d2, d3, d4, d5, d6, d7, d8, _⟩ := hb2q; obtain ⟨e0, e1, e2, e3, e4, e5, e6, e7, e8⟩ := Box9.freed (Hid.out HB); clear hg1q hg2q)) | (go_at_call 36; (with_reducible refine (Hid.out KE _ (Hid.out HR)).mono ?_); go_must (rintro _ wvq ⟨heq, hr1q, hg1q⟩; subst heq; have hg2q := grown_trans (Hid.out HG) hg1q; have hb2q := Box9.grown (Hid.out HB) hg1q (Nat.ne_of_gt (Hid.out hb)); clear HR; have HR := Lib.hid hr1q; clear HG; have HG := Lib.hid hg2q; clear HB; have HB := Lib.hid hb2q; obtain ⟨c0, c1, _, c3, f1, _, f3⟩ := hr1q; obtain ⟨d0, d1, d2, d3, d4, d5, d6, d7, d8, _⟩ := hb2q; obtain ⟨e0, e1, e2, e3, e4, e5, e6, e7, e8⟩ := Box9.freed (Hid.out HB); clear hg1q hg2q)) | (go_at_call 64; (with_reducible refine (Hid.out KF _ (Hid.out HR)).mono ?_); go_must (rintro _ wvq ⟨heq, hr1q, hg1q⟩; subst heq; have hg2q := grown_trans (Hid.out HG) hg1q; have hb2q := Box9.grown (Hid.out HB) hg1q (Nat.ne_of_gt (Hid.out hb)); clear HR; have HR := Lib.hid hr1q; clear HG; have HG := Lib.hid hg2q; clear HB; have HB := Lib.hid hb2q; obtain ⟨c0, c1, _, c3, f1, _, f3⟩ := hr1q; obtain ⟨d0, d1, d2, d3, d4, d5, d6, d7, d8, _⟩ := hb2q; obtain ⟨e0, e1, e2, e3, e4, e5, e6, e7, e8⟩ := Box9.freed (Hid.out HB); clear hg1q hg2q)) | (go_at_call 65; (with_reducible refine (KS.out _).mono ?_); go_must (rintro _ wv ⟨rfl, hbl⟩; have hg1 := grown_below (b := b) hbl; have HR1 := Lib.hid (HR.out.below hbl); have HG1 := Lib.hid (grown_trans HG.out hg1); have HB1 := Lib.hid (HB.out.grown hg1 (Nat.ne_of_gt hb.out)); obtain ⟨d0, d1, d2, d3, d4, d5, d6, d7, d8, _⟩ := HB1.out; obtain ⟨e0, e1, e2, e3, e4, e5, e6, e7, e8⟩ := Box9.freed HB1.out; clear hg1 hbl)))
              obtain ⟨W3, hW3, hbx, hr, hgw⟩ := endT (.int .i64 1) (.int .u64 T.1.toNat) (.int .u64 T.2.1.toNat) (.int .u64 T.2.2.1.toNat) (.int .u64 T.2.2.2.toNat) (.slice none 0 0) (.int .i64 0) (.int .i64 0) (.int .i64 0) hb.out HR1.out HG1.out HB1.out
              unfold put9 at hW3
              rw [← hW3]
              obtain ⟨l0, l1, l2, l3, l4, l5, l6, l7, l8, _⟩ := hbx
              exact bodyPost_ret (v := .tuple #[.agg #[.int .i64 1, .int .u64 T.1.toNat, .int .u64 T.2.1.toNat, .int .u64 T.2.2.1.toNat, .int .u64 T.2.2.2.toNat, .slice none 0 0, .int .i64 0, .int .i64 0, .int .i64 0], .int .i64 1]) (by simp [results, Tryd.results56, go_sem, l0, l1, l2, l3, l4, l5, l6, l7, l8]) rfl (postt_bad HX.out (rSet T) none 0 (by rfl) (.inl rfl) hr hgw)
            · obtain ⟨x, hx⟩ : ∃ x : Int, x = (c.toNat : Int) := ⟨_, rfl⟩
              have KF := Lib.hid (by_ok looksA' b g o hs (by omega) hby hx)
              obtain ⟨T, hT⟩ : ∃ T, T = addS none4 (c, c) := ⟨_, rfl⟩
              have KS : Hid (∀ w, Calls Tryd.prog 65 #[.agg #[.int .u64 0, .int .u64 0, .int .u64 0, .int .u64 0], .int .u8 x, .int .u8 x] w fun e w' => e = .returned (.agg #[.int .u64 T.1.toNat, .int .u64 T.2.1.toNat, .int .u64 T.2.2.1.toNat, .int .u64 T.2.2.2.toNat]) ∧ Below w.heap.size w w') := Lib.hid fun w => by rw [hT, hx]; exact span_any none4 c c w
              have hq := rb_ok (by omega) hby
              rw [hby] at hR
              dsimp only at hR
              rw [← addS_one, ← hT] at hR
              have HX := Lib.hid hR
              have HQ : Hid (g ≤ q) := Lib.hid (by omega)
              clear hR h94 h36 h46 h40 h91 hk1 hby hT hx hq
              go_enter Tryd.func56, Tryd.ntmps56
              go_wp2_with (first | (go_at_call 36; (with_reducible refine (Hid.out KA _ (Hid.out HR)).mono ?_); go_must (rintro _ wvq ⟨heq, hr1q, hg1q⟩; subst heq; have hg2q := grown_trans (Hid.out HG) hg1q; have hb2q := Box9.grown (Hid.out HB) hg1q (Nat.ne_of_gt (Hid.out hb)); clear HR; have HR := Lib.hid hr1q; clear HG; have HG := Lib.hid hg2q; clear HB; have HB := Lib.hid hb2q; obtain ⟨c0, c1, _, c3, f1, _, f3⟩ := hr1q; obtain ⟨d0, d1, d2, d3, d4, d5, d6, d7, d8, _⟩ := hb2q; obtain ⟨e0, e1, e2, e3, e4, e5, e6, e7, e8⟩ := Box9.freed (Hid.out HB); clear hg1q hg2q)) | (go_at_call 36; (with_reducible refine (Hid.out KB _ (Hid.out HR)).mono ?_); go_must (rintro _ wvq ⟨heq, hr1q, hg1q⟩; subst heq; have hg2q := grown_trans (Hid.out HG) hg1q; have hb2q := Box9.grown (Hid.out HB) hg1q (Nat.ne_of_gt (Hid.out hb)); clear HR; have HR := Lib.hid hr1q; clear HG; have HG := Lib.hid hg2q; clear HB; have HB := Lib.hid hb2q; obtain ⟨c0, c1, _, c3, f1, _, f3⟩ := hr1q; obtain ⟨d0, d1, d2, d3, d4, d5, d6, d7, d8, _⟩ := hb2q; obtain ⟨e0, e1, e2, e3, e4, e5, e6, e7, e8⟩ := Box9.freed (Hid.out HB); clear hg1q hg2q)) | (go_at_call 36; (with_reducible refine (Hid.out KC _ (Hid.out HR)).mono ?_); go_must (rintro _ wvq ⟨heq, hr1q, hg1q⟩; subst heq; have hg2q := grown_trans (Hid.out HG) hg1q; have hb2q := Box9.grown (Hid.out HB) hg1q (Nat.ne_of_gt (Hid.out hb)); clear HR; have HR := Lib.hid hr1q; clear HG; have HG := Lib.hid hg2q; clear HB; have HB := Lib.hid hb2q; obtain ⟨c0, c1, _, c3, f1, _, f3⟩ := hr1q; obtain ⟨d0, d1, d2, d3, d4, d5, d6, d7, d8, _⟩ := hb2q; obtain ⟨e0, e1, e2, e3, e4, e5, e6, e7, e8⟩ := Box9.freed (Hid.out HB); clear hg1q hg2q)) | (go_at_call 49; (with_reducible refine (Hid.out KD _ (Hid.out HR)).mono ?_); go_must (rintro _ wvq ⟨heq, hr1q, hg1q⟩; subst heq; have hg2q := grown_trans (Hid.out HG) hg1q; have hb2q := Box9.grown (Hid.out HB) hg1q (Nat.ne_of_gt (Hid.out hb)); clear HR; have HR := Lib.hid hr1q; clear HG; have HG := Lib.hid hg2q; clear HB; have HB := Lib.hid hb2q; obtain ⟨c0, c1, _, c3, f1, _, f3⟩ := hr1q; obtain ⟨d0, d1, d2, d3, d4, d5, d6, d7, d8, _⟩ := hb2q; obtain ⟨e0, e1, e2, e3, e4, e5, e6, e7, e8⟩ := Box9.freed (Hid.out HB); clear hg1q hg2q)) | (go_at_call 36; (with_reducible refine (Hid.out KE _ (Hid.out HR)).mono ?_); go_must (rintro _ wvq ⟨heq, hr1q, hg1q⟩; subst heq; have hg2q := grown_trans (Hid.out HG) hg1q; have hb2q := Box9.grown (Hid.out HB) hg1q (Nat.ne_of_gt (Hid.out hb)); clear HR; have HR := Lib.hid hr1q; clear HG; have HG := Lib.hid hg2q; clear HB; have HB := Lib.hid hb2q; obtain ⟨c0, c1, _, c3, f1, _, f3⟩ := hr1q; obtain ⟨d0, d1, d2, d3, d4, d5, d6, d7, d8, _⟩ := hb2q; obtain ⟨e0, e1, e2, e3, e4, e5, e6, e7, e8⟩ := Box9.freed (Hid.out HB); clear hg1q hg2q)) | (go_at_call 64; (with_reducible refine (Hid.out KF _ (Hid.out HR)).mono ?_); go_must (rintro _ wvq ⟨heq, hr1q, hg1q⟩; subst heq; have hg2q := grown_trans (Hid.out HG) hg1q; have hb2q := Box9.grown (Hid.out HB) hg1q (Nat.ne_of_gt (Hid.out hb)); clear HR; have HR := Lib.hid hr1q; clear HG; have HG := Lib.hid hg2q; clear HB; have HB := Lib.hid hb2q; obtain ⟨c0, c1, _, c3, f1, _, f3⟩ := hr1q; obtain ⟨d0, d1, d2, d3, d4, d5, d6, d7, d8, _⟩ := hb2q; obtain ⟨e0, e1, e2, e3, e4, e5, e6, e7, e8⟩ := Box9.freed (Hid.out HB); clear hg1q hg2q)) | (go_at_call 65; (with_reducible refine (KS.out _).mono ?_); go_must (rintro _ wv ⟨rfl, hbl⟩; have hg1 := grown_below (b := b) hbl; have HR1 := Lib.hid (HR.out.below hbl); have HG1 := Lib.hid (grown_trans HG.out hg1); have HB1 := Lib.hid (HB.out.grown hg1 (Nat.ne_of_gt hb.out)); obtain ⟨d0, d1, d2, d3, d4, d5, d6, d7, d8, _⟩ := HB1.out; obtain ⟨e0, e1, e2, e3, e4, e5, e6, e7, e8⟩ := Box9.freed HB1.out; clear hg1 hbl)))
              obtain ⟨W3, hW3, hbx, hr, hgw⟩ := endT (.int .i64 1) (.int .u64 T.1.toNat) (.int .u64 T.2.1.toNat) (.int .u64 T.2.2.1.toNat) (.int .u64 T.2.2.2.toNat) (.slice none 0 0) (.int .i64 0) (.int .i64 0) (.int .i64 0) hb.out HR1.out HG1.out HB1.out
              unfold put9 at hW3
              rw [← hW3]
              obtain ⟨l0, l1, l2, l3, l4, l5, l6, l7, l8, _⟩ := hbx
              exact bodyPost_ret (v := .tuple #[.agg #[.int .i64 1, .int .u64 T.1.toNat, .int .u64 T.2.1.toNat, .int .u64 T.2.2.1.toNat, .int .u64 T.2.2.2.toNat, .slice none 0 0, .int .i64 0, .int .i64 0, .int .i64 0], .int .i64 0]) (by simp [results, Tryd.results56, go_sem, l0, l1, l2, l3, l4, l5, l6, l7, l8]) rfl (postt_ok HX.out none 0 (by rfl) (Kids.leaf _ _ _ _ _ _ _ _) HQ.out hr hgw)
end Go.Proofs.YtccheljfbjllhaaDoor
