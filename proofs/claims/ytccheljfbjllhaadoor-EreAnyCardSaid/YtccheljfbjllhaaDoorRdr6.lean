/- The code's reader: a set, its items and their ends. -/
import Derived.Test.YtccheljfbjllhaaDoorRdr5
namespace Go.Proofs.YtccheljfbjllhaaDoor
open Go Go.RowKit

def PostC (b : Nat) (w : World) (s : ByteArray) (g o : Nat) (R : Res S4) (e : Ending) (w' : World) : Prop := w.grownBy w' (some b) ∧ match R with
  | .bad q => e = .returned (.tuple #[setV4 none4, .int .i64 1]) ∧ Rdr b w' s q g o
  | .ok S q => e = .returned (.tuple #[setV4 S, .int .i64 0]) ∧ Rdr b w' s q g o
/-- How the loop of the set's items stands. -/
def LoopC (b : Nat) (w : World) (s : ByteArray) (g o : Nat) (R : Res (List Sp)) (f : Value) (wr : World) : Prop :=
  ∃ (q : Nat) (acc : List Sp), q ≤ s.size ∧ f = .bool acc.isEmpty ∧ goS s.data.toList q acc = R ∧ Rdr b wr s q g o ∧ w.grownBy wr (some b) ∧ Two w wr (allS acc)
theorem two_new (w : World) : Two w ((w.alloc (.cells #[.int .u64 0, .int .u64 0, .int .u64 0, .int .u64 0] 24)).alloc (.cells #[.int .u64 0, .int .u64 0, .int .u64 0, .int .u64 0] 24)) none4 :=
  ⟨set_boxed none4 w _, none_second w _, by simp⟩
/-- What is left at the end. -/
theorem endC {b : Nat} {w W : World} {s : ByteArray} {q g o : Nat} {S : S4} (T : S4) (hb : b < w.heap.size) (hr : Rdr b W s q g o) (hg : w.grownBy W (some b)) (ha : Two w W S) :
    ∃ W3, W3 = put4 W w.heap.size T ∧ SetAt W3 w.heap.size T ∧ Rdr b W3 s q g o ∧ w.grownBy W3 (some b) :=
  ⟨_, rfl, ha.left.all T, hr.put4 (by omega) T, grown_put4 hg (Nat.le_refl _) T⟩
theorem endC0 {b : Nat} {w W : World} {s : ByteArray} {q g o : Nat} {S : S4} (hb : b < w.heap.size) (hr : Rdr b W s q g o) (hg : w.grownBy W (some b)) (ha : Two w W S) :
    ∃ W3, W3 = (((W.setCell ⟨w.heap.size, 0, none⟩ (.int .u64 0)).setCell ⟨w.heap.size, 1, none⟩ (.int .u64 0)).setCell ⟨w.heap.size, 2, none⟩ (.int .u64 0)).setCell ⟨w.heap.size, 3, none⟩ (.int .u64 0) ∧ SetAt W3 w.heap.size none4 ∧ Rdr b W3 s q g o ∧ w.grownBy W3 (some b) :=
  endC none4 hb hr hg ha
theorem postc_ok {b : Nat} {w w' : World} {s : ByteArray} {g o q : Nat} {S : S4} {R : Res S4} (h : R = .ok S q) (hr : Rdr b w' s q g o) (hg : w.grownBy w' (some b)) : PostC b w s g o R (.returned (.tuple #[setV4 S, .int .i64 0])) w' := by subst h; exact ⟨hg, rfl, hr⟩
theorem postc_bad {b : Nat} {w w' : World} {s : ByteArray} {g o q : Nat} {R : Res S4} (h : R = .bad q) (hr : Rdr b w' s q g o) (hg : w.grownBy w' (some b)) : PostC b w s g o R (.returned (.tuple #[setV4 none4, .int .i64 1])) w' := by subst h; exact ⟨hg, rfl, hr⟩
set_option maxRecDepth 100000 in
set_option maxHeartbeats 8000000 in
theorem set_any (b : Nat) (w : World) (s : ByteArray) (k g o : Nat) (h : Rdr b w s k g o) (hs : s.size ≤ 1000000) (hk : k ≤ s.size) :
    Calls Tryd.prog 63 #[.pointer (some ⟨b, 0, none⟩)] w (PostC b w s g o (cls s.data.toList k)) := by
  obtain ⟨R, hR⟩ : ∃ R, R = cls s.data.toList k := ⟨_, rfl⟩
  rw [← hR]
  unfold cls at hR
  have hb := Lib.hid h.lt
  have HR := Lib.hid (h.below (two_boxes w (.cells #[.int .u64 0, .int .u64 0, .int .u64 0, .int .u64 0] 24) (.cells #[.int .u64 0, .int .u64 0, .int .u64 0, .int .u64 0] 24)))
  have HG := Lib.hid (grown_below (b := b) (two_boxes w (.cells #[.int .u64 0, .int .u64 0, .int .u64 0, .int .u64 0] 24) (.cells #[.int .u64 0, .int .u64 0, .int .u64 0, .int .u64 0] 24)))
  have HA := Lib.hid (two_new w)
  have hsz : s.data.toList.length = s.size := rfl
  have HSZ := Lib.hid hsz
  clear h
  by_cases h94 : s.data.toList[k]? = some 94
  · rw [if_pos h94] at hR
    obtain ⟨k1, hk1⟩ : ∃ k1, k1 = k + 1 := ⟨_, rfl⟩
    have h94lt := lt_of_get h94
    have KA := Lib.hid (skip_yes looks94 b g o hs h94 hk1)
    rw [← hk1] at hR
    have hk' : k1 ≤ s.size := by omega
    obtain ⟨G, hG⟩ : ∃ G, G = goS s.data.toList k1 [] := ⟨_, rfl⟩
    rw [← hG] at hR
    have HX := Lib.hid hR
    have HGO := Lib.hid hG.symm
    clear hR hG h94 h94lt hk1 hk hsz
    go_enter Tryd.func63, Tryd.ntmps63
    go_wp2_with ((go_at_call 36; (with_reducible refine (Hid.out KA _ (Hid.out HR)).mono ?_); go_must (rintro _ wvq ⟨heq, hr1q, hg1q⟩; subst heq; have hg2q := grown_trans (Hid.out HG) hg1q; have ha2q := Two.grown (Hid.out HA) (Hid.out hb) hg1q; clear HR; have HR := Lib.hid hr1q; clear HG; have HG := Lib.hid hg2q; clear HA; have HA := Lib.hid ha2q; obtain ⟨c0, c1, _, _, f1, _, _⟩ := hr1q; obtain ⟨d0, d1, d2, d3⟩ := ha2q.rest.four; obtain ⟨e0, e1, e2, e3⟩ := ha2q.rest.freed; obtain ⟨g0, g1, g2, g3⟩ := ha2q.left.four; obtain ⟨i0, i1, i2, i3⟩ := ha2q.left.freed; clear hg1q hg2q ha2q)))
    go_loopw [6] (fun f wr => LoopC b w s g o G f wr) (fun _ wr => gas b s.size wr)
    case atStart => exact ⟨k1, [], hk', rfl, HGO.out, HR.out, HG.out, HA.out⟩
    case round =>
      clear HR HG HA
      obtain ⟨q, acc, hq, rfl, hg, hr, hgr, htw⟩ := hrel
      have HGQ := Lib.hid hg
      have HR0 := Lib.hid hr
      have HR := Lib.hid hr
      have HG := Lib.hid hgr
      have HA := Lib.hid htw
      obtain ⟨c0, c1, _, _, f1, _, _⟩ := hr
      obtain ⟨d0, d1, d2, d3⟩ := htw.rest.four
      obtain ⟨e0, e1, e2, e3⟩ := htw.rest.freed
      obtain ⟨g0, g1, g2, g3⟩ := htw.left.four
      obtain ⟨i0, i1, i2, i3⟩ := htw.left.freed
      have HQ2 := Lib.hid hq
      clear hg hgr htw
      by_cases hex : acc ≠ [] ∧ s.data.toList[q]? = some 93
      · obtain ⟨q1, hq1⟩ : ∃ q1, q1 = q + 1 := ⟨_, rfl⟩
        have HGE : Hid (G = .ok acc q1) := Lib.hid (by rw [← HGQ.out, goS_end hex.1 hex.2, hq1])
        have KB := Lib.hid (skip_yes looks93 b g o hs hex.2 hq1)
        have hemp : acc.isEmpty = false := by cases acc with | nil => exact absurd rfl hex.1 | cons => rfl
        rw [hemp]
        obtain ⟨S, hS⟩ : ∃ S, S = allS acc := ⟨_, rfl⟩
        rw [← hS] at HA d0 d1 d2 d3
        have HS := Lib.hid hS
        clear hex hemp hq1 hS
        obtain ⟨T, hT⟩ : ∃ T, T = compl S := ⟨_, rfl⟩
        have KO : Hid (∀ w, Calls Tryd.prog 47 #[.agg #[.int .u64 S.1.toNat, .int .u64 S.2.1.toNat, .int .u64 S.2.2.1.toNat, .int .u64 S.2.2.2.toNat]] w fun e w' => e = .returned (.agg #[.int .u64 T.1.toNat, .int .u64 T.2.1.toNat, .int .u64 T.2.2.1.toNat, .int .u64 T.2.2.2.toNat]) ∧ Below w.heap.size w w') := Lib.hid fun w => by rw [hT]; exact others_any S w
        have HXE : Hid (R = .ok T q1) := Lib.hid (by rw [HX.out, HGE.out, hT, HS.out])
        clear hT
        go_wp2_with (first | (go_at_call 36; (with_reducible refine (Hid.out KB _ (Hid.out HR)).mono ?_); go_must (rintro _ wvq ⟨heq, hr1q, hg1q⟩; subst heq; have hg2q := grown_trans (Hid.out HG) hg1q; have ha2q := Two.grown (Hid.out HA) (Hid.out hb) hg1q; clear HR; have HR := Lib.hid hr1q; clear HG; have HG := Lib.hid hg2q; clear HA; have HA := Lib.hid ha2q; obtain ⟨c0, c1, _, _, f1, _, _⟩ := hr1q; obtain ⟨d0, d1, d2, d3⟩ := ha2q.rest.four; obtain ⟨e0, e1, e2, e3⟩ := ha2q.rest.freed; obtain ⟨g0, g1, g2, g3⟩ := ha2q.left.four; obtain ⟨i0, i1, i2, i3⟩ := ha2q.left.freed; clear hg1q hg2q ha2q)) | (go_at_call 47; (with_reducible refine (KO.out _).mono ?_); go_must (rintro _ wv ⟨rfl, hbl⟩; have hg1 := grown_below (b := b) hbl; have HR1 := Lib.hid (HR.out.below hbl); have HG1 := Lib.hid (grown_trans HG.out hg1); have ha1 := HA.out.grown hb.out hg1; have HA1 := Lib.hid ha1; obtain ⟨d0, d1, d2, d3⟩ := ha1.rest.four; obtain ⟨e0, e1, e2, e3⟩ := ha1.rest.freed; obtain ⟨g0, g1, g2, g3⟩ := ha1.left.four; obtain ⟨i0, i1, i2, i3⟩ := ha1.left.freed; clear ha1 hg1 hbl)))
        obtain ⟨W3, hW3, hl, hr, hgw⟩ := endC (S := T) T hb.out (HR1.out.put4 (c := w.heap.size + 1) (by have := hb.out; omega) T) (grown_put4 HG1.out (by omega) T) (HA1.out.put T)
        unfold put4 at hW3
        rw [← hW3]
        obtain ⟨l0, l1, l2, l3⟩ := hl.four
        exact bodyPost_ret (v := .tuple #[setV4 T, .int .i64 0]) (by unfold setV4; simp [results, Tryd.results63, go_sem, l0, l1, l2, l3]) rfl (postc_ok HXE.out hr hgw)
      · by_cases hac : acc = []
        · have hemp : acc.isEmpty = true := by rw [hac]; rfl
          rw [hemp]
          clear hac hemp
          rcases hit : item s.data.toList q with p | ⟨⟨lo, hi⟩, p⟩
          · have KI := Lib.hid (it_bad b g o hs hq hit)
            have HXE : Hid (R = .bad p) := Lib.hid (by rw [HX.out, ← HGQ.out, goS_bad hex hit])
            clear hex hit
            go_wp2_with (first | (go_at_call 76; (with_reducible refine (KI.out _ HR.out).mono ?_); go_must (rintro _ wv ⟨⟨x, y, rfl⟩, hr1, hg1⟩; have HR1 := Lib.hid hr1; have HG1 := Lib.hid (grown_trans HG.out hg1); have ha1 := HA.out.grown hb.out hg1; have HA1 := Lib.hid ha1; obtain ⟨g0, g1, g2, g3⟩ := ha1.left.four; obtain ⟨i0, i1, i2, i3⟩ := ha1.left.freed; clear ha1 hg1 hr1)))
            obtain ⟨W3, hW3, hl, hr, hgw⟩ := endC0 hb.out HR1.out HG1.out HA1.out
            rw [← hW3]
            obtain ⟨l0, l1, l2, l3⟩ := hl.four
            exact bodyPost_ret (v := .tuple #[setV4 none4, .int .i64 1]) (by unfold setV4; simp [results, Tryd.results63, go_sem, l0, l1, l2, l3]) rfl (postc_bad HXE.out hr hgw)
          · have KI := Lib.hid (it_ok b g o hs hq hit)
            obtain ⟨p1, p2⟩ := item_ok (by rw [HSZ.out]; exact hq) hit
            rw [HSZ.out] at p2
            have HGN : Hid (goS s.data.toList p (acc ++ [(lo, hi)]) = G) := Lib.hid (by rw [← goS_ok hex (by rw [HSZ.out]; exact hq) hit]; exact HGQ.out)
            obtain ⟨S, hS⟩ : ∃ S, S = allS acc := ⟨_, rfl⟩
            rw [← hS] at HA d0 d1 d2 d3
            obtain ⟨T, hT⟩ : ∃ T, T = addS S (lo, hi) := ⟨_, rfl⟩
            have KS : Hid (∀ w, Calls Tryd.prog 65 #[.agg #[.int .u64 S.1.toNat, .int .u64 S.2.1.toNat, .int .u64 S.2.2.1.toNat, .int .u64 S.2.2.2.toNat], .int .u8 lo.toNat, .int .u8 hi.toNat] w fun e w' => e = .returned (.agg #[.int .u64 T.1.toNat, .int .u64 T.2.1.toNat, .int .u64 T.2.2.1.toNat, .int .u64 T.2.2.2.toNat]) ∧ Below w.heap.size w w') := Lib.hid fun w => by rw [hT]; exact span_any S lo hi w
            have HTT : Hid (T = allS (acc ++ [(lo, hi)])) := Lib.hid (by rw [hT, hS, allS_snoc])
            have HP := Lib.hid p2
            have HP1 := Lib.hid p1
            clear hex hit hS hT p1 p2
            go_wp2_with (first | (go_at_call 76; (with_reducible refine (Hid.out KI _ (Hid.out HR)).mono ?_); go_must (rintro _ wvq ⟨heq, hr1q, hg1q⟩; subst heq; have hg2q := grown_trans (Hid.out HG) hg1q; have ha2q := Two.grown (Hid.out HA) (Hid.out hb) hg1q; clear HR; have HR := Lib.hid hr1q; clear HG; have HG := Lib.hid hg2q; clear HA; have HA := Lib.hid ha2q; obtain ⟨c0, c1, _, _, f1, _, _⟩ := hr1q; obtain ⟨d0, d1, d2, d3⟩ := ha2q.rest.four; obtain ⟨e0, e1, e2, e3⟩ := ha2q.rest.freed; obtain ⟨g0, g1, g2, g3⟩ := ha2q.left.four; obtain ⟨i0, i1, i2, i3⟩ := ha2q.left.freed; clear hg1q hg2q ha2q)) | (go_at_call 65; (with_reducible refine (KS.out _).mono ?_); go_must (rintro _ wv ⟨rfl, hbl⟩; have hg1 := grown_below (b := b) hbl; have HR1 := Lib.hid (HR.out.below hbl); have HG1 := Lib.hid (grown_trans HG.out hg1); have ha1 := HA.out.grown hb.out hg1; have HA1 := Lib.hid ha1; obtain ⟨d0, d1, d2, d3⟩ := ha1.rest.four; obtain ⟨e0, e1, e2, e3⟩ := ha1.rest.freed; clear ha1 hg1 hbl)))
            go_roundw
            case rel =>
              have hrw := HR1.out.put4 (c := w.heap.size + 1) (by have := hb.out; omega) T
              exact ⟨p, acc ++ [(lo, hi)], HP.out, by simp, HGN.out, hrw, grown_put4 HG1.out (by omega) T, by rw [← HTT.out]; exact HA1.out.put T⟩
            case measure =>
              have hrw := HR1.out.put4 (c := w.heap.size + 1) (by have := hb.out; omega) T
              have := gas_is (n := s.size) hrw
              unfold put4 at this
              rw [this, gas_is HR0.out]
              have := HP.out; have := HP1.out; omega
        · have hemp : acc.isEmpty = false := by cases acc with | nil => exact absurd rfl hac | cons => rfl
          have KB := Lib.hid (skip_no looks93 b g o hs (fun e => hex ⟨hac, e⟩))
          rw [hemp]
          clear hac hemp
          rcases hit : item s.data.toList q with p | ⟨⟨lo, hi⟩, p⟩
          · have KI := Lib.hid (it_bad b g o hs hq hit)
            have HXE : Hid (R = .bad p) := Lib.hid (by rw [HX.out, ← HGQ.out, goS_bad hex hit])
            clear hex hit
            go_wp2_with (first | (go_at_call 36; (with_reducible refine (Hid.out KB _ (Hid.out HR)).mono ?_); go_must (rintro _ wvq ⟨heq, hr1q, hg1q⟩; subst heq; have hg2q := grown_trans (Hid.out HG) hg1q; have ha2q := Two.grown (Hid.out HA) (Hid.out hb) hg1q; clear HR; have HR := Lib.hid hr1q; clear HG; have HG := Lib.hid hg2q; clear HA; have HA := Lib.hid ha2q; obtain ⟨c0, c1, _, _, f1, _, _⟩ := hr1q; obtain ⟨d0, d1, d2, d3⟩ := ha2q.rest.four; obtain ⟨e0, e1, e2, e3⟩ := ha2q.rest.freed; obtain ⟨g0, g1, g2, g3⟩ := ha2q.left.four; obtain ⟨i0, i1, i2, i3⟩ := ha2q.left.freed; clear hg1q hg2q ha2q)) | (go_at_call 76; (with_reducible refine (KI.out _ HR.out).mono ?_); go_must (rintro _ wv ⟨⟨x, y, rfl⟩, hr1, hg1⟩; have HR1 := Lib.hid hr1; have HG1 := Lib.hid (grown_trans HG.out hg1); have ha1 := HA.out.grown hb.out hg1; have HA1 := Lib.hid ha1; obtain ⟨g0, g1, g2, g3⟩ := ha1.left.four; obtain ⟨i0, i1, i2, i3⟩ := ha1.left.freed; clear ha1 hg1 hr1)))
            obtain ⟨W3, hW3, hl, hr, hgw⟩ := endC0 hb.out HR1.out HG1.out HA1.out
            rw [← hW3]
            obtain ⟨l0, l1, l2, l3⟩ := hl.four
            exact bodyPost_ret (v := .tuple #[setV4 none4, .int .i64 1]) (by unfold setV4; simp [results, Tryd.results63, go_sem, l0, l1, l2, l3]) rfl (postc_bad HXE.out hr hgw)
          · have KI := Lib.hid (it_ok b g o hs hq hit)
            obtain ⟨p1, p2⟩ := item_ok (by rw [HSZ.out]; exact hq) hit
            rw [HSZ.out] at p2
            have HGN : Hid (goS s.data.toList p (acc ++ [(lo, hi)]) = G) := Lib.hid (by rw [← goS_ok hex (by rw [HSZ.out]; exact hq) hit]; exact HGQ.out)
            obtain ⟨S, hS⟩ : ∃ S, S = allS acc := ⟨_, rfl⟩
            rw [← hS] at HA d0 d1 d2 d3
            obtain ⟨T, hT⟩ : ∃ T, T = addS S (lo, hi) := ⟨_, rfl⟩
            have KS : Hid (∀ w, Calls Tryd.prog 65 #[.agg #[.int .u64 S.1.toNat, .int .u64 S.2.1.toNat, .int .u64 S.2.2.1.toNat, .int .u64 S.2.2.2.toNat], .int .u8 lo.toNat, .int .u8 hi.toNat] w fun e w' => e = .returned (.agg #[.int .u64 T.1.toNat, .int .u64 T.2.1.toNat, .int .u64 T.2.2.1.toNat, .int .u64 T.2.2.2.toNat]) ∧ Below w.heap.size w w') := Lib.hid fun w => by rw [hT]; exact span_any S lo hi w
            have HTT : Hid (T = allS (acc ++ [(lo, hi)])) := Lib.hid (by rw [hT, hS, allS_snoc])
            have HP := Lib.hid p2
            have HP1 := Lib.hid p1
            clear hex hit hS hT p1 p2
            go_wp2_with (first | (go_at_call 36; (with_reducible refine (Hid.out KB _ (Hid.out HR)).mono ?_); go_must (rintro _ wvq ⟨heq, hr1q, hg1q⟩; subst heq; have hg2q := grown_trans (Hid.out HG) hg1q; have ha2q := Two.grown (Hid.out HA) (Hid.out hb) hg1q; clear HR; have HR := Lib.hid hr1q; clear HG; have HG := Lib.hid hg2q; clear HA; have HA := Lib.hid ha2q; obtain ⟨c0, c1, _, _, f1, _, _⟩ := hr1q; obtain ⟨d0, d1, d2, d3⟩ := ha2q.rest.four; obtain ⟨e0, e1, e2, e3⟩ := ha2q.rest.freed; obtain ⟨g0, g1, g2, g3⟩ := ha2q.left.four; obtain ⟨i0, i1, i2, i3⟩ := ha2q.left.freed; clear hg1q hg2q ha2q)) | (go_at_call 76; (with_reducible refine (Hid.out KI _ (Hid.out HR)).mono ?_); go_must (rintro _ wvq ⟨heq, hr1q, hg1q⟩; subst heq; have hg2q := grown_trans (Hid.out HG) hg1q; have ha2q := Two.grown (Hid.out HA) (Hid.out hb) hg1q; clear HR; have HR := Lib.hid hr1q; clear HG; have HG := Lib.hid hg2q; clear HA; have HA := Lib.hid ha2q; obtain ⟨c0, c1, _, _, f1, _, _⟩ := hr1q; obtain ⟨d0, d1, d2, d3⟩ := ha2q.rest.four; obtain ⟨e0, e1, e2, e3⟩ := ha2q.rest.freed; obtain ⟨g0, g1, g2, g3⟩ := ha2q.left.four; obtain ⟨i0, i1, i2, i3⟩ := ha2q.left.freed; clear hg1q hg2q ha2q)) | (go_at_call 65; (with_reducible refine (KS.out _).mono ?_); go_must (rintro _ wv ⟨rfl, hbl⟩; have hg1 := grown_below (b := b) hbl; have HR1 := Lib.hid (HR.out.below hbl); have HG1 := Lib.hid (grown_trans HG.out hg1); have ha1 := HA.out.grown hb.out hg1; have HA1 := Lib.hid ha1; obtain ⟨d0, d1, d2, d3⟩ := ha1.rest.four; obtain ⟨e0, e1, e2, e3⟩ := ha1.rest.freed; clear ha1 hg1 hbl)))
            go_roundw
            case rel =>
              have hrw := HR1.out.put4 (c := w.heap.size + 1) (by have := hb.out; omega) T
              exact ⟨p, acc ++ [(lo, hi)], HP.out, by simp, HGN.out, hrw, grown_put4 HG1.out (by omega) T, by rw [← HTT.out]; exact HA1.out.put T⟩
            case measure =>
              have hrw := HR1.out.put4 (c := w.heap.size + 1) (by have := hb.out; omega) T
              have := gas_is (n := s.size) hrw
              unfold put4 at this
              rw [this, gas_is HR0.out]
              have := HP.out; have := HP1.out; omega
  · rw [if_neg h94] at hR
    have KA := Lib.hid (skip_no looks94 b g o hs h94)
    have hk' : k ≤ s.size := hk
    obtain ⟨G, hG⟩ : ∃ G, G = goS s.data.toList k [] := ⟨_, rfl⟩
    rw [← hG] at hR
    have HX := Lib.hid hR
    have HGO := Lib.hid hG.symm
    clear hR hG h94 hk hsz
    go_enter Tryd.func63, Tryd.ntmps63
    go_wp2_with ((go_at_call 36; (with_reducible refine (Hid.out KA _ (Hid.out HR)).mono ?_); go_must (rintro _ wvq ⟨heq, hr1q, hg1q⟩; subst heq; have hg2q := grown_trans (Hid.out HG) hg1q; have ha2q := Two.grown (Hid.out HA) (Hid.out hb) hg1q; clear HR; have HR := Lib.hid hr1q; clear HG; have HG := Lib.hid hg2q; clear HA; have HA := Lib.hid ha2q; obtain ⟨c0, c1, _, _, f1, _, _⟩ := hr1q; obtain ⟨d0, d1, d2, d3⟩ := ha2q.rest.four; obtain ⟨e0, e1, e2, e3⟩ := ha2q.rest.freed; obtain ⟨g0, g1, g2, g3⟩ := ha2q.left.four; obtain ⟨i0, i1, i2, i3⟩ := ha2q.left.freed; clear hg1q hg2q ha2q)))
    go_loopw [6] (fun f wr => LoopC b w s g o G f wr) (fun _ wr => gas b s.size wr)
    case atStart => exact ⟨k, [], hk', rfl, HGO.out, HR.out, HG.out, HA.out⟩
    case round =>
      clear HR HG HA
      obtain ⟨q, acc, hq, rfl, hg, hr, hgr, htw⟩ := hrel
      have HGQ := Lib.hid hg
      have HR0 := Lib.hid hr
      have HR := Lib.hid hr
      have HG := Lib.hid hgr
      have HA := Lib.hid htw
      obtain ⟨c0, c1, _, _, f1, _, _⟩ := hr
      obtain ⟨d0, d1, d2, d3⟩ := htw.rest.four
      obtain ⟨e0, e1, e2, e3⟩ := htw.rest.freed
      obtain ⟨g0, g1, g2, g3⟩ := htw.left.four
      obtain ⟨i0, i1, i2, i3⟩ := htw.left.freed
      have HQ2 := Lib.hid hq
      clear hg hgr htw
      by_cases hex : acc ≠ [] ∧ s.data.toList[q]? = some 93
      · obtain ⟨q1, hq1⟩ : ∃ q1, q1 = q + 1 := ⟨_, rfl⟩
        have HGE : Hid (G = .ok acc q1) := Lib.hid (by rw [← HGQ.out, goS_end hex.1 hex.2, hq1])
        have KB := Lib.hid (skip_yes looks93 b g o hs hex.2 hq1)
        have hemp : acc.isEmpty = false := by cases acc with | nil => exact absurd rfl hex.1 | cons => rfl
        rw [hemp]
        obtain ⟨S, hS⟩ : ∃ S, S = allS acc := ⟨_, rfl⟩
        rw [← hS] at HA d0 d1 d2 d3
        have HS := Lib.hid hS
        clear hex hemp hq1 hS
        have HXE : Hid (R = .ok S q1) := Lib.hid (by rw [HX.out, HGE.out, HS.out])
        go_wp2_with ((go_at_call 36; (with_reducible refine (Hid.out KB _ (Hid.out HR)).mono ?_); go_must (rintro _ wvq ⟨heq, hr1q, hg1q⟩; subst heq; have hg2q := grown_trans (Hid.out HG) hg1q; have ha2q := Two.grown (Hid.out HA) (Hid.out hb) hg1q; clear HR; have HR := Lib.hid hr1q; clear HG; have HG := Lib.hid hg2q; clear HA; have HA := Lib.hid ha2q; obtain ⟨c0, c1, _, _, f1, _, _⟩ := hr1q; obtain ⟨d0, d1, d2, d3⟩ := ha2q.rest.four; obtain ⟨e0, e1, e2, e3⟩ := ha2q.rest.freed; obtain ⟨g0, g1, g2, g3⟩ := ha2q.left.four; obtain ⟨i0, i1, i2, i3⟩ := ha2q.left.freed; clear hg1q hg2q ha2q)))
        obtain ⟨W3, hW3, hl, hr, hgw⟩ := endC S hb.out HR.out HG.out HA.out
        unfold put4 at hW3
        rw [← hW3]
        obtain ⟨l0, l1, l2, l3⟩ := hl.four
        exact bodyPost_ret (v := .tuple #[setV4 S, .int .i64 0]) (by unfold setV4; simp [results, Tryd.results63, go_sem, l0, l1, l2, l3]) rfl (postc_ok HXE.out hr hgw)
      · by_cases hac : acc = []
        · have hemp : acc.isEmpty = true := by rw [hac]; rfl
          rw [hemp]
          clear hac hemp
          rcases hit : item s.data.toList q with p | ⟨⟨lo, hi⟩, p⟩
          · have KI := Lib.hid (it_bad b g o hs hq hit)
            have HXE : Hid (R = .bad p) := Lib.hid (by rw [HX.out, ← HGQ.out, goS_bad hex hit])
            clear hex hit
            go_wp2_with (first | (go_at_call 76; (with_reducible refine (KI.out _ HR.out).mono ?_); go_must (rintro _ wv ⟨⟨x, y, rfl⟩, hr1, hg1⟩; have HR1 := Lib.hid hr1; have HG1 := Lib.hid (grown_trans HG.out hg1); have ha1 := HA.out.grown hb.out hg1; have HA1 := Lib.hid ha1; obtain ⟨g0, g1, g2, g3⟩ := ha1.left.four; obtain ⟨i0, i1, i2, i3⟩ := ha1.left.freed; clear ha1 hg1 hr1)))
            obtain ⟨W3, hW3, hl, hr, hgw⟩ := endC0 hb.out HR1.out HG1.out HA1.out
            rw [← hW3]
            obtain ⟨l0, l1, l2, l3⟩ := hl.four
            exact bodyPost_ret (v := .tuple #[setV4 none4, .int .i64 1]) (by unfold setV4; simp [results, Tryd.results63, go_sem, l0, l1, l2, l3]) rfl (postc_bad HXE.out hr hgw)
          · have KI := Lib.hid (it_ok b g o hs hq hit)
            obtain ⟨p1, p2⟩ := item_ok (by rw [HSZ.out]; exact hq) hit
            rw [HSZ.out] at p2
            have HGN : Hid (goS s.data.toList p (acc ++ [(lo, hi)]) = G) := Lib.hid (by rw [← goS_ok hex (by rw [HSZ.out]; exact hq) hit]; exact HGQ.out)
            obtain ⟨S, hS⟩ : ∃ S, S = allS acc := ⟨_, rfl⟩
            rw [← hS] at HA d0 d1 d2 d3
            obtain ⟨T, hT⟩ : ∃ T, T = addS S (lo, hi) := ⟨_, rfl⟩
            have KS : Hid (∀ w, Calls Tryd.prog 65 #[.agg #[.int .u64 S.1.toNat, .int .u64 S.2.1.toNat, .int .u64 S.2.2.1.toNat, .int .u64 S.2.2.2.toNat], .int .u8 lo.toNat, .int .u8 hi.toNat] w fun e w' => e = .returned (.agg #[.int .u64 T.1.toNat, .int .u64 T.2.1.toNat, .int .u64 T.2.2.1.toNat, .int .u64 T.2.2.2.toNat]) ∧ Below w.heap.size w w') := Lib.hid fun w => by rw [hT]; exact span_any S lo hi w
            have HTT : Hid (T = allS (acc ++ [(lo, hi)])) := Lib.hid (by rw [hT, hS, allS_snoc])
            have HP := Lib.hid p2
            have HP1 := Lib.hid p1
            clear hex hit hS hT p1 p2
            go_wp2_with (first | (go_at_call 76; (with_reducible refine (Hid.out KI _ (Hid.out HR)).mono ?_); go_must (rintro _ wvq ⟨heq, hr1q, hg1q⟩; subst heq; have hg2q := grown_trans (Hid.out HG) hg1q; have ha2q := Two.grown (Hid.out HA) (Hid.out hb) hg1q; clear HR; have HR := Lib.hid hr1q; clear HG; have HG := Lib.hid hg2q; clear HA; have HA := Lib.hid ha2q; obtain ⟨c0, c1, _, _, f1, _, _⟩ := hr1q; obtain ⟨d0, d1, d2, d3⟩ := ha2q.rest.four; obtain ⟨e0, e1, e2, e3⟩ := ha2q.rest.freed; obtain ⟨g0, g1, g2, g3⟩ := ha2q.left.four; obtain ⟨i0, i1, i2, i3⟩ := ha2q.left.freed; clear hg1q hg2q ha2q)) | (go_at_call 65; (with_reducible refine (KS.out _).mono ?_); go_must (rintro _ wv ⟨rfl, hbl⟩; have hg1 := grown_below (b := b) hbl; have HR1 := Lib.hid (HR.out.below hbl); have HG1 := Lib.hid (grown_trans HG.out hg1); have ha1 := HA.out.grown hb.out hg1; have HA1 := Lib.hid ha1; obtain ⟨d0, d1, d2, d3⟩ := ha1.rest.four; obtain ⟨e0, e1, e2, e3⟩ := ha1.rest.freed; clear ha1 hg1 hbl)))
            go_roundw
            case rel =>
              have hrw := HR1.out.put4 (c := w.heap.size + 1) (by have := hb.out; omega) T
              exact ⟨p, acc ++ [(lo, hi)], HP.out, by simp, HGN.out, hrw, grown_put4 HG1.out (by omega) T, by rw [← HTT.out]; exact HA1.out.put T⟩
            case measure =>
              have hrw := HR1.out.put4 (c := w.heap.size + 1) (by have := hb.out; omega) T
              have := gas_is (n := s.size) hrw
              unfold put4 at this
              rw [this, gas_is HR0.out]
              have := HP.out; have := HP1.out; omega
        · have hemp : acc.isEmpty = false := by cases acc with | nil => exact absurd rfl hac | cons => rfl
          have KB := Lib.hid (skip_no looks93 b g o hs (fun e => hex ⟨hac, e⟩))
          rw [hemp]
          clear hac hemp
          rcases hit : item s.data.toList q with p | ⟨⟨lo, hi⟩, p⟩
          · have KI := Lib.hid (it_bad b g o hs hq hit)
            have HXE : Hid (R = .bad p) := Lib.hid (by rw [HX.out, ← HGQ.out, goS_bad hex hit])
            clear hex hit
            go_wp2_with (first | (go_at_call 36; (with_reducible refine (Hid.out KB _ (Hid.out HR)).mono ?_); go_must (rintro _ wvq ⟨heq, hr1q, hg1q⟩; subst heq; have hg2q := grown_trans (Hid.out HG) hg1q; have ha2q := Two.grown (Hid.out HA) (Hid.out hb) hg1q; clear HR; have HR := Lib.hid hr1q; clear HG; have HG := Lib.hid hg2q; clear HA; have HA := Lib.hid ha2q; obtain ⟨c0, c1, _, _, f1, _, _⟩ := hr1q; obtain ⟨d0, d1, d2, d3⟩ := ha2q.rest.four; obtain ⟨e0, e1, e2, e3⟩ := ha2q.rest.freed; obtain ⟨g0, g1, g2, g3⟩ := ha2q.left.four; obtain ⟨i0, i1, i2, i3⟩ := ha2q.left.freed; clear hg1q hg2q ha2q)) | (go_at_call 76; (with_reducible refine (KI.out _ HR.out).mono ?_); go_must (rintro _ wv ⟨⟨x, y, rfl⟩, hr1, hg1⟩; have HR1 := Lib.hid hr1; have HG1 := Lib.hid (grown_trans HG.out hg1); have ha1 := HA.out.grown hb.out hg1; have HA1 := Lib.hid ha1; obtain ⟨g0, g1, g2, g3⟩ := ha1.left.four; obtain ⟨i0, i1, i2, i3⟩ := ha1.left.freed; clear ha1 hg1 hr1)))
            obtain ⟨W3, hW3, hl, hr, hgw⟩ := endC0 hb.out HR1.out HG1.out HA1.out
            rw [← hW3]
            obtain ⟨l0, l1, l2, l3⟩ := hl.four
            exact bodyPost_ret (v := .tuple #[setV4 none4, .int .i64 1]) (by unfold setV4; simp [results, Tryd.results63, go_sem, l0, l1, l2, l3]) rfl (postc_bad HXE.out hr hgw)
          · have KI := Lib.hid (it_ok b g o hs hq hit)
            obtain ⟨p1, p2⟩ := item_ok (by rw [HSZ.out]; exact hq) hit
            rw [HSZ.out] at p2
            have HGN : Hid (goS s.data.toList p (acc ++ [(lo, hi)]) = G) := Lib.hid (by rw [← goS_ok hex (by rw [HSZ.out]; exact hq) hit]; exact HGQ.out)
            obtain ⟨S, hS⟩ : ∃ S, S = allS acc := ⟨_, rfl⟩
            rw [← hS] at HA d0 d1 d2 d3
            obtain ⟨T, hT⟩ : ∃ T, T = addS S (lo, hi) := ⟨_, rfl⟩
            have KS : Hid (∀ w, Calls Tryd.prog 65 #[.agg #[.int .u64 S.1.toNat, .int .u64 S.2.1.toNat, .int .u64 S.2.2.1.toNat, .int .u64 S.2.2.2.toNat], .int .u8 lo.toNat, .int .u8 hi.toNat] w fun e w' => e = .returned (.agg #[.int .u64 T.1.toNat, .int .u64 T.2.1.toNat, .int .u64 T.2.2.1.toNat, .int .u64 T.2.2.2.toNat]) ∧ Below w.heap.size w w') := Lib.hid fun w => by rw [hT]; exact span_any S lo hi w
            have HTT : Hid (T = allS (acc ++ [(lo, hi)])) := Lib.hid (by rw [hT, hS, allS_snoc])
            have HP := Lib.hid p2
            have HP1 := Lib.hid p1
            clear hex hit hS hT p1 p2
            go_wp2_with (first | (go_at_call 36; (with_reducible refine (Hid.out KB _ (Hid.out HR)).mono ?_); go_must (rintro _ wvq ⟨heq, hr1q, hg1q⟩; subst heq; have hg2q := grown_trans (Hid.out HG) hg1q; have ha2q := Two.grown (Hid.out HA) (Hid.out hb) hg1q; clear HR; have HR := Lib.hid hr1q; clear HG; have HG := Lib.hid hg2q; clear HA; have HA := Lib.hid ha2q; obtain ⟨c0, c1, _, _, f1, _, _⟩ := hr1q; obtain ⟨d0, d1, d2, d3⟩ := ha2q.rest.four; obtain ⟨e0, e1, e2, e3⟩ := ha2q.rest.freed; obtain ⟨g0, g1, g2, g3⟩ := ha2q.left.four; obtain ⟨i0, i1, i2, i3⟩ := ha2q.left.freed; clear hg1q hg2q ha2q)) | (go_at_call 76; (with_reducible refine (Hid.out KI _ (Hid.out HR)).mono ?_); go_must (rintro _ wvq ⟨heq, hr1q, hg1q⟩; subst heq; have hg2q := grown_trans (Hid.out HG) hg1q; have ha2q := Two.grown (Hid.out HA) (Hid.out hb) hg1q; clear HR; have HR := Lib.hid hr1q; clear HG; have HG := Lib.hid hg2q; clear HA; have HA := Lib.hid ha2q; obtain ⟨c0, c1, _, _, f1, _, _⟩ := hr1q; obtain ⟨d0, d1, d2, d3⟩ := ha2q.rest.four; obtain ⟨e0, e1, e2, e3⟩ := ha2q.rest.freed; obtain ⟨g0, g1, g2, g3⟩ := ha2q.left.four; obtain ⟨i0, i1, i2, i3⟩ := ha2q.left.freed; clear hg1q hg2q ha2q)) | (go_at_call 65; (with_reducible refine (KS.out _).mono ?_); go_must (rintro _ wv ⟨rfl, hbl⟩; have hg1 := grown_below (b := b) hbl; have HR1 := Lib.hid (HR.out.below hbl); have HG1 := Lib.hid (grown_trans HG.out hg1); have ha1 := HA.out.grown hb.out hg1; have HA1 := Lib.hid ha1; obtain ⟨d0, d1, d2, d3⟩ := ha1.rest.four; obtain ⟨e0, e1, e2, e3⟩ := ha1.rest.freed; clear ha1 hg1 hbl)))
            go_roundw
            case rel =>
              have hrw := HR1.out.put4 (c := w.heap.size + 1) (by have := hb.out; omega) T
              exact ⟨p, acc ++ [(lo, hi)], HP.out, by simp, HGN.out, hrw, grown_put4 HG1.out (by omega) T, by rw [← HTT.out]; exact HA1.out.put T⟩
            case measure =>
              have hrw := HR1.out.put4 (c := w.heap.size + 1) (by have := hb.out; omega) T
              have := gas_is (n := s.size) hrw
              unfold put4 at this
              rw [this, gas_is HR0.out]
              have := HP.out; have := HP1.out; omega
end Go.Proofs.YtccheljfbjllhaaDoor
