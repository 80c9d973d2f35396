/- The same expressions: the document's own answer. -/
import Derived.Test.YtccheljfbjllhaaDoorSame
import Derived.Test.YtccheljfbjllhaaDoorQBelow
namespace Go.Proofs.YtccheljfbjllhaaDoor
open Go Go.RowKit

/-- The nine cells of an expression, in all later worlds. -/
def At9B (w : World) (a : Addr) (r : Re) (A : Option Addr) (c : Nat) : Prop := match r with
  | .mk k S ks lo hi n =>
    (∀ x : Bw w, x.at.cell? a = some (.int .i64 k)) ∧ (∀ x : Bw w, x.at.cell? ⟨a.block, a.off + 1, none⟩ = some (.int .u64 S.1.toNat)) ∧ (∀ x : Bw w, x.at.cell? ⟨a.block, a.off + 2, none⟩ = some (.int .u64 S.2.1.toNat)) ∧
    (∀ x : Bw w, x.at.cell? ⟨a.block, a.off + 3, none⟩ = some (.int .u64 S.2.2.1.toNat)) ∧ (∀ x : Bw w, x.at.cell? ⟨a.block, a.off + 4, none⟩ = some (.int .u64 S.2.2.2.toNat)) ∧
    (∀ x : Bw w, x.at.cell? ⟨a.block, a.off + 5, none⟩ = some (.slice A ks.length c)) ∧ (∀ x : Bw w, x.at.cell? ⟨a.block, a.off + 6, none⟩ = some (.int .i64 lo)) ∧
    (∀ x : Bw w, x.at.cell? ⟨a.block, a.off + 7, none⟩ = some (.int .i64 hi)) ∧ (∀ x : Bw w, x.at.cell? ⟨a.block, a.off + 8, none⟩ = some (.int .i64 n))
theorem At9.later {w : World} {a : Addr} {r : Re} {A : Option Addr} {c : Nat} (h : At9 w a r A c) : At9B w a r A c := by
  obtain ⟨k, S, ks, lo, hi, n⟩ := r
  obtain ⟨a0, a1, a2, a3, a4, a5, a6, a7, a8⟩ := h
  exact ⟨bw_cell a0, bw_cell a1, bw_cell a2, bw_cell a3, bw_cell a4, bw_cell a5, bw_cell a6, bw_cell a7, bw_cell a8⟩
theorem two_boxes (w : World) (o o' : Obj) : Below w.heap.size w ((w.alloc o).alloc o') := ((Below.refl _ _).alloc (Nat.le_refl _) _).alloc (by simp) _
set_option maxRecDepth 100000 in
set_option maxHeartbeats 4000000 in
theorem rsame_any (x : Re) : SameC 15 x := by
  induction x using Re.ind with
  | h k S ks lo hi n ih =>
    intro y A A' c c' w hk hk' hs hs'
    obtain ⟨k2, S2, ks2, lo2, hi2, n2⟩ := y
    obtain ⟨v, hv⟩ : ∃ v, v = sameB (Re.mk k S ks lo hi n) (Re.mk k2 S2 ks2 lo2 hi2 n2) := ⟨_, rfl⟩
    rw [← hv]
    rw [sizeE] at hs hs'
    have HV := Lib.hid hv
    simp only [valR]
    have hz := fun W => set_neq S S2 W
    obtain ⟨m, hm⟩ : ∃ m, m = ks.length := ⟨_, rfl⟩
    obtain ⟨m2, hm2⟩ : ∃ m, m = ks2.length := ⟨_, rfl⟩
    have hmx := sizeL_len ks
    have hm9 : m ≤ 1000000 := by omega
    obtain ⟨s0, hs0⟩ : ∃ s0 : Int, s0 = S.1.toNat := ⟨_, rfl⟩
    obtain ⟨s1, hs1⟩ : ∃ s1 : Int, s1 = S.2.1.toNat := ⟨_, rfl⟩
    obtain ⟨s2, hs2⟩ : ∃ s2 : Int, s2 = S.2.2.1.toNat := ⟨_, rfl⟩
    obtain ⟨s3, hs3⟩ : ∃ s3 : Int, s3 = S.2.2.2.toNat := ⟨_, rfl⟩
    obtain ⟨z0, hz0⟩ : ∃ s0 : Int, s0 = S2.1.toNat := ⟨_, rfl⟩
    obtain ⟨z1, hz1⟩ : ∃ s1 : Int, s1 = S2.2.1.toNat := ⟨_, rfl⟩
    obtain ⟨z2, hz2⟩ : ∃ s2 : Int, s2 = S2.2.2.1.toNat := ⟨_, rfl⟩
    obtain ⟨z3, hz3⟩ : ∃ s3 : Int, s3 = S2.2.2.2.toNat := ⟨_, rfl⟩
    rw [← hm, ← hm2, ← hs0, ← hs1, ← hs2, ← hs3, ← hz0, ← hz1, ← hz2, ← hz3]
    rw [← hs0, ← hs1, ← hs2, ← hs3, ← hz0, ← hz1, ← hz2, ← hz3] at hz
    have HK := Lib.hid hk
    have HK' := Lib.hid hk'
    have HI := Lib.hid ih
    have HS := Lib.hid hs
    have HS' := Lib.hid hs'
    have HM := Lib.hid hm
    have HM' := Lib.hid hm2
    clear hv ih hk hk' hs hs' hs0 hs1 hs2 hs3 hz0 hz1 hz2 hz3 hm hm2 hmx
    by_cases f1 : k = k2
    · by_cases f2 : S = S2
      · by_cases f3 : lo = lo2
        · by_cases f4 : hi = hi2
          · by_cases f5 : n = n2
            · by_cases f6 : m = m2
              · have HX : Hid (∀ b, sameB ks ks2 = b → v = b) := Lib.hid (by
                  rintro b rfl
                  rw [HV.out]
                  by_cases hkk : ks = ks2
                  · rw [sameB_yes hkk, sameB_yes (re_eq f1 f2 hkk f3 f4 f5)]
                  · rw [sameB_no hkk, sameB_no (fun h => hkk (by injection h))])
                have g1 : (k != k2) = false := by simp [f1]
                have g2 : (!decide (S = S2)) = false := by simp [f2]
                have g3 : (lo != lo2) = false := by simp [f3]
                have g4 : (hi != hi2) = false := by simp [f4]
                have g5 : (n != n2) = false := by simp [f5]
                have g6 : ((m : Int) != (m2 : Int)) = false := by simp [f6]
                have g7 : (m != m2) = false := by simp [f6]
                simp only [g2] at hz
                subst f1 f3 f4 f5 f6
                clear f2 g2
                obtain ⟨o1, ho1⟩ : ∃ o : Obj, o = .cells #[.int .i64 k, .int .u64 s0, .int .u64 s1, .int .u64 s2, .int .u64 s3, .slice A m c, .int .i64 lo, .int .i64 hi, .int .i64 n] 27 := ⟨_, rfl⟩
                obtain ⟨o2, ho2⟩ : ∃ o : Obj, o = .cells #[.int .i64 k, .int .u64 z0, .int .u64 z1, .int .u64 z2, .int .u64 z3, .slice A' m c', .int .i64 lo, .int .i64 hi, .int .i64 n] 27 := ⟨_, rfl⟩
                have hbo : Below w.heap.size w ((w.alloc o1).alloc o2) := two_boxes w o1 o2
                have hc5 : ((w.alloc o1).alloc o2).cell? ⟨w.heap.size, 5, none⟩ = some (.slice A m c) := by rw [ho1]; simp [go_sem]
                have hd5 : ((w.alloc o1).alloc o2).cell? ⟨w.heap.size + 1, 5, none⟩ = some (.slice A' m c') := by rw [ho2]; simp [go_sem]
                have hsz : ((w.alloc o1).alloc o2).heap.size = w.heap.size + 2 := by simp
                obtain ⟨W2, hW2⟩ : ∃ W2, W2 = (w.alloc o1).alloc o2 := ⟨_, rfl⟩
                have HW2 : Hid (W2 = (w.alloc (.cells #[.int .i64 k, .int .u64 s0, .int .u64 s1, .int .u64 s2, .int .u64 s3, .slice A m c, .int .i64 lo, .int .i64 hi, .int .i64 n] 27)).alloc (.cells #[.int .i64 k, .int .u64 z0, .int .u64 z1, .int .u64 z2, .int .u64 z3, .slice A' m c', .int .i64 lo, .int .i64 hi, .int .i64 n] 27)) := Lib.hid (by rw [hW2, ho1, ho2])
                rw [← hW2] at hbo hc5 hd5 hsz
                have HBO := Lib.hid hbo
                have HC5 := Lib.hid hc5
                have HD5 := Lib.hid hd5
                clear ho1 ho2 hW2 hbo hc5 hd5
                go_enter Tryd.func15, Tryd.ntmps15
                go_wp2
                go_loopw [5] (fun i wr => ∃ j : Nat, j ≤ m ∧ i = .int .i64 j ∧ ks.take j = ks2.take j ∧ Below (w.heap.size + 2) W2 wr) (fun i _ => m - (intOf i).toNat)
                case atStart => exact ⟨0, by omega, rfl, rfl, by rw [HW2.out]; exact Below.refl _ _⟩
                case round =>
                  obtain ⟨j, hj, rfl, ht, hb1⟩ := hrel
                  have hb : Below w.heap.size w wr := HBO.out.trans (hb1.mono (by omega))
                  have c5 : wr.cell? ⟨w.heap.size, 5, none⟩ = some (.slice A m c) := (hb1.cell (p := ⟨w.heap.size, 5, none⟩) (by show w.heap.size < w.heap.size + 2; omega)).trans HC5.out
                  have d5 : wr.cell? ⟨w.heap.size + 1, 5, none⟩ = some (.slice A' m c') := (hb1.cell (p := ⟨w.heap.size + 1, 5, none⟩) (by show w.heap.size + 1 < w.heap.size + 2; omega)).trans HD5.out
                  have HB1 := Lib.hid hb1
                  have HT := Lib.hid ht
                  clear ht hb1
                  by_cases a : j < m
                  · obtain ⟨r, hr⟩ := get_of_lt HM.out a
                    obtain ⟨r', hr'⟩ := get_of_lt HM'.out a
                    obtain ⟨ad, B, b, rfl, hp, h9, hkr⟩ := kid_at HK.out hb hr
                    obtain ⟨ad', B', b', rfl, hp', h9', hkr'⟩ := kid_at HK'.out hb hr'
                    have hmem := List.mem_of_getElem? hr
                    have hsz1 := sizeL_mem hmem
                    have hsz2 := sizeL_mem (List.mem_of_getElem? hr')
                    have K : ∀ x : Bw wr, Calls Tryd.prog 15 #[valR r B b, valR r' B' b'] x.at fun e w' => e = .returned (.bool (sameB r r')) ∧ Below x.at.heap.size x.at w' := fun x =>
                      HI.out r hmem r' B B' b b' x.at (hkr.next (hb.trans (x.2.mono hb.size))) (hkr'.next (hb.trans (x.2.mono hb.size))) (by have := HS.out; omega) (by have := HS'.out; omega)
                    obtain ⟨v2, hv2⟩ : ∃ v2, v2 = sameB r r' := ⟨_, rfl⟩
                    rw [← hv2] at K
                    have HV2 := Lib.hid hv2
                    have HR := Lib.hid hr
                    have HR' := Lib.hid hr'
                    have q9 := h9.later
                    have q9' := h9'.later
                    have e5 := bw_cell c5
                    have f5 := bw_cell d5
                    clear hr hr' hv2 hkr hkr' hmem hsz1 hsz2 h9 h9'
                    obtain ⟨k', S', ks1, lo', hi', n'⟩ := r
                    obtain ⟨k2, S3, ks3, lo2, hi2, n2⟩ := r'
                    simp only [valR] at K
                    have HKC := Lib.hid K
                    obtain ⟨c0, c1, c2, c3, c4, c5', c6, c7, c8⟩ := q9
                    obtain ⟨d0, d1, d2, d3, d4, d5', d6, d7, d8⟩ := q9'
                    clear K
                    cases v2 with
                    | true =>
                      have HX : Hid (ks.take (j + 1) = ks2.take (j + 1)) := Lib.hid (by
                        have := sameB_of HV2.out.symm
                        rw [← this] at HR'
                        exact take_same HT.out HR.out HR'.out)
                      go_wp2
                      have hne := bw_some wr
                      refine wp_region_below (by kernel_rfl) (by kernel_rfl) ?_
                      repeat (go_big_quiet_step ((go_at_call 15; with_reducible exact bw_calls (HKC.out _))))
                      refine wpQuiet_nil ?_
                      intro w3 hw3
                      obtain ⟨m3, rfl⟩ := hw3
                      obtain ⟨w4, hw4⟩ : ∃ x, x = m3.at := ⟨_, rfl⟩
                      have HB3 : Hid (Below wr.heap.size wr w4) := Lib.hid (by rw [hw4]; exact m3.2)
                      rw [← hw4]
                      clear hw4
                      go_wp2
                      go_roundw
                      case rel => exact ⟨j + 1, by omega, by go_num, HX.out, HB1.out.trans (HB3.out.mono (by have := HB1.out.size; omega))⟩
                      case measure => simp [intOf]; omega
                    | false =>
                      have HX2 : Hid (v = false) := Lib.hid (HX.out _ (sameB_no (not_same HR.out HR'.out (sameB_not HV2.out.symm))))
                      go_wp2
                      have hne := bw_some wr
                      refine wp_region_below (by kernel_rfl) (by kernel_rfl) ?_
                      repeat (go_big_quiet_step ((go_at_call 15; with_reducible exact bw_calls (HKC.out _))))
                      refine wpQuiet_nil ?_
                      intro w3 hw3
                      obtain ⟨m3, rfl⟩ := hw3
                      obtain ⟨w4, hw4⟩ : ∃ x, x = m3.at := ⟨_, rfl⟩
                      have HB3 : Hid (Below wr.heap.size wr w4) := Lib.hid (by rw [hw4]; exact m3.2)
                      rw [← hw4]
                      clear hw4
                      go_wp2
                      go_ret
                      exact ⟨ret_bool HX2.out.symm, hb.trans (HB3.out.mono hb.size)⟩
                  · have HX2 : Hid (v = true) := by
                      apply Lib.hid; apply HX.out
                      have := HT.out
                      rw [List.take_of_length_le (by have := HM.out; omega), List.take_of_length_le (by have := HM'.out; omega)] at this
                      exact sameB_yes this
                    go_wp2
                    go_ret
                    exact ⟨ret_bool HX2.out.symm, hb⟩
              · have HX : Hid (v = false) := Lib.hid (by rw [HV.out]; exact sameB_no (fun h => f6 (by rw [HM.out, HM'.out]; congr 1; injection h)))
                have g1 : (k != k2) = false := by simp [f1]
                have g2 : (!decide (S = S2)) = false := by simp [f2]
                have g3 : (lo != lo2) = false := by simp [f3]
                have g4 : (hi != hi2) = false := by simp [f4]
                have g5 : (n != n2) = false := by simp [f5]
                have g6 : ((m : Int) != (m2 : Int)) = true := by simp; omega
                have g7 : (m != m2) = true := by simp [f6]
                simp only [g2] at hz
                subst f1 f3 f4 f5
                clear f2 g2 f6
                go_enter Tryd.func15, Tryd.ntmps15
                go_wp2
                go_ret
                exact ⟨ret_bool HX.out.symm, two_boxes _ _ _⟩
            · have HX : Hid (v = false) := Lib.hid (by rw [HV.out]; exact sameB_no (fun h => f5 (by injection h)))
              have g1 : (k != k2) = false := by simp [f1]
              have g2 : (!decide (S = S2)) = false := by simp [f2]
              have g3 : (lo != lo2) = false := by simp [f3]
              have g4 : (hi != hi2) = false := by simp [f4]
              have g5 : (n != n2) = true := by simp [f5]
              simp only [g2] at hz
              subst f1 f3 f4
              clear f2 g2 f5
              go_enter Tryd.func15, Tryd.ntmps15
              go_wp2
              go_ret
              exact ⟨ret_bool HX.out.symm, two_boxes _ _ _⟩
          · have HX : Hid (v = false) := Lib.hid (by rw [HV.out]; exact sameB_no (fun h => f4 (by injection h)))
            have g1 : (k != k2) = false := by simp [f1]
            have g2 : (!decide (S = S2)) = false := by simp [f2]
            have g3 : (lo != lo2) = false := by simp [f3]
            have g4 : (hi != hi2) = true := by simp [f4]
            simp only [g2] at hz
            subst f1 f3
            clear f2 g2 f4
            go_enter Tryd.func15, Tryd.ntmps15
            go_wp2
            go_ret
            exact ⟨ret_bool HX.out.symm, two_boxes _ _ _⟩
        · have HX : Hid (v = false) := Lib.hid (by rw [HV.out]; exact sameB_no (fun h => f3 (by injection h)))
          have g1 : (k != k2) = false := by simp [f1]
          have g2 : (!decide (S = S2)) = false := by simp [f2]
          have g3 : (lo != lo2) = true := by simp [f3]
          simp only [g2] at hz
          subst f1
          clear f2 g2 f3
          go_enter Tryd.func15, Tryd.ntmps15
          go_wp2
          go_ret
          exact ⟨ret_bool HX.out.symm, two_boxes _ _ _⟩
      · have HX : Hid (v = false) := Lib.hid (by rw [HV.out]; exact sameB_no (fun h => f2 (by injection h)))
        have g1 : (k != k2) = false := by simp [f1]
        have g2 : (!decide (S = S2)) = true := by simp [f2]
        simp only [g2] at hz
        subst f1
        clear f2 g2
        go_enter Tryd.func15, Tryd.ntmps15
        go_wp2
        go_ret
        exact ⟨ret_bool HX.out.symm, two_boxes _ _ _⟩
    · have HX : Hid (v = false) := Lib.hid (by rw [HV.out]; exact sameB_no (fun h => f1 (by injection h)))
      have g1 : (k != k2) = true := by simp [f1]
      clear f1
      go_enter Tryd.func15, Tryd.ntmps15
      go_wp2
      go_ret
      exact ⟨ret_bool HX.out.symm, two_boxes _ _ _⟩
end Go.Proofs.YtccheljfbjllhaaDoor
