/- The document's own reader: a piece. -/
import Derived.Test.YtccheljfbjllhaaDoorD5a
namespace Go.Proofs.YtccheljfbjllhaaDoor
open Go Go.RowKit

set_option maxRecDepth 100000 in
set_option maxHeartbeats 8000000 in
theorem dpiece_any (s : ByteArray) (d : Nat) (grp : Rd) (hs : s.size ≤ 200) (hat : RdD 58 s d (atomR grp s.data.toList)) (hsane : Sane s (atomR grp s.data.toList)) : RdD 51 s d (pieceR grp s.data.toList) := by
  intro b w k g h hst hk hgk
  obtain ⟨R, hR⟩ : ∃ R, R = pieceR grp s.data.toList k g := ⟨_, rfl⟩
  rw [← hR]
  have hsz : s.data.toList.length = s.size := rfl
  have hb := Lib.hid h.lt
  have HR := Lib.hid (h.low (one_box w (.cells #[.int .i64 0, .int .u64 0, .int .u64 0, .int .u64 0, .int .u64 0, .slice none 0 0, .int .i64 0, .int .i64 0, .int .i64 0] 27)))
  have HG : Hid (w.grownBy (w.alloc (.cells #[.int .i64 0, .int .u64 0, .int .u64 0, .int .u64 0, .int .u64 0, .slice none 0 0, .int .i64 0, .int .i64 0, .int .i64 0] 27)) (some b)) := Lib.hid (grown_below (one_box w _))
  have HB := Lib.hid (Box9.new w (.int .i64 0) (.int .u64 0) (.int .u64 0) (.int .u64 0) (.int .u64 0) (.slice none 0 0) (.int .i64 0) (.int .i64 0) (.int .i64 0))
  obtain ⟨sa1, sa2⟩ := hsane k g hk hgk
  clear h
  rcases hgg : atomR grp s.data.toList k g with ⟨q, er⟩ | ⟨x, q, g'⟩
  · have her := sa1 q er hgg
    obtain ⟨zz, hzz⟩ : ∃ zz : Nat, er = zz := ⟨er.toNat, by omega⟩
    have hz18 : zz = 1 ∨ zz = 8 := by omega
    have KG := Lib.hid (at_bad hat b hst hk hgk hgg hzz)
    have HX : Hid (R = .bad q er) := Lib.hid (by rw [hR]; unfold pieceR; rw [hgg])
    have HZ := Lib.hid hz18
    have HZZ := Lib.hid hzz
    have t0 : ((zz : Int) != 0) = true := by simp; omega
    have t0' : (zz != 0) = true := by simp; omega
    clear hR hgg sa1 sa2 her hz18 hzz hst
    go_enter Tryd.func51, Tryd.ntmps51
    go_wp2_with (go_at_call 58; (with_reducible refine (KG.out _ HR.out).mono ?_); go_must (rintro _ wx ⟨⟨⟨kx, S, ks, lo, hi, n⟩, A, c, he, hkid⟩, ⟨g2, hr1⟩, hg1⟩; have he2 : _ = Ending.returned (.agg #[.int .i64 kx, .int .u64 S.1.toNat, .int .u64 S.2.1.toNat, .int .u64 S.2.2.1.toNat, .int .u64 S.2.2.2.toNat, .slice A ks.length c, .int .i64 lo, .int .i64 hi, .int .i64 n]) := he; clear he; subst he2; have hsz1 := hg1.size; have HSZ : Hid (w.heap.size + 1 ≤ wx.heap.size) := Lib.hid (by simpa using hsz1); have ha := grown_below (b := b) (one_box wx (.cells #[.int .i64 kx, .int .u64 S.1.toNat, .int .u64 S.2.1.toNat, .int .u64 S.2.2.1.toNat, .int .u64 S.2.2.2.toNat, .slice A ks.length c, .int .i64 lo, .int .i64 hi, .int .i64 n] 27)); have hr2 := hr1.low (one_box wx (.cells #[.int .i64 kx, .int .u64 S.1.toNat, .int .u64 S.2.1.toNat, .int .u64 S.2.2.1.toNat, .int .u64 S.2.2.2.toNat, .slice A ks.length c, .int .i64 lo, .int .i64 hi, .int .i64 n] 27)); have hg2 := grown_trans (grown_trans HG.out hg1) ha; have hb2 := (HB.out.grown hg1 (Nat.ne_of_gt hb.out)).grown ha (Nat.ne_of_gt hb.out); have HPS : Hid (∀ W', (wx.alloc (.cells #[.int .i64 kx, .int .u64 S.1.toNat, .int .u64 S.2.1.toNat, .int .u64 S.2.2.1.toNat, .int .u64 S.2.2.2.toNat, .slice A ks.length c, .int .i64 lo, .int .i64 hi, .int .i64 n] 27)).grownBy W' (some b) → Box9 W' wx.heap.size (.int .i64 kx) (.int .u64 S.1.toNat) (.int .u64 S.2.1.toNat) (.int .u64 S.2.2.1.toNat) (.int .u64 S.2.2.2.toNat) (.slice A ks.length c) (.int .i64 lo) (.int .i64 hi) (.int .i64 n)) := Lib.hid (fun W' hg => (Box9.new wx (.int .i64 kx) (.int .u64 S.1.toNat) (.int .u64 S.2.1.toNat) (.int .u64 S.2.2.1.toNat) (.int .u64 S.2.2.2.toNat) (.slice A ks.length c) (.int .i64 lo) (.int .i64 hi) (.int .i64 n)).grown hg (Nat.ne_of_gt (Nat.lt_of_lt_of_le hb.out (Nat.le_trans (Nat.le_succ _) HSZ.out)))); have HKS : Hid (∀ W', (wx.alloc (.cells #[.int .i64 kx, .int .u64 S.1.toNat, .int .u64 S.2.1.toNat, .int .u64 S.2.2.1.toNat, .int .u64 S.2.2.2.toNat, .slice A ks.length c, .int .i64 lo, .int .i64 hi, .int .i64 n] 27)).grownBy W' (some b) → Kids (Fr (w.heap.size + 1) wx.heap.size) W' A (.mk kx S ks lo hi n)) := Lib.hid (fun W' hg => by have hk0 : Kids (Fr (w.heap.size + 1) wx.heap.size) wx A (.mk kx S ks lo hi n) := (by simpa using hkid); exact (hk0.grownF ha (.inl (Nat.lt_succ_of_lt hb.out)) (Nat.le_refl _)).grownF hg (.inl (Nat.lt_succ_of_lt hb.out)) (by simp)); have HGX : Hid ((wx.alloc (.cells #[.int .i64 kx, .int .u64 S.1.toNat, .int .u64 S.2.1.toNat, .int .u64 S.2.2.1.toNat, .int .u64 S.2.2.2.toNat, .slice A ks.length c, .int .i64 lo, .int .i64 hi, .int .i64 n] 27)).grownBy (wx.alloc (.cells #[.int .i64 kx, .int .u64 S.1.toNat, .int .u64 S.2.1.toNat, .int .u64 S.2.2.1.toNat, .int .u64 S.2.2.2.toNat, .slice A ks.length c, .int .i64 lo, .int .i64 hi, .int .i64 n] 27)) (some b)) := Lib.hid (grown_refl _ _); clear HR HG HB; have HR := Lib.hid hr2; have HG := Lib.hid hg2; have HB := Lib.hid hb2; obtain ⟨c0, c1, c2, c3, f1, f2, f3⟩ := hr2; obtain ⟨p0, p1, p2, p3, p4, p5, p6, p7, p8, _⟩ := HPS.out _ HGX.out; obtain ⟨d0, d1, d2, d3, d4, d5, d6, d7, d8, _⟩ := HB.out; obtain ⟨e0, e1, e2, e3, e4, e5, e6, e7, e8⟩ := Box9.freed HB.out; clear hr1 hg1 hsz1 ha hg2 hb2 hkid))
    go_quiet (fail)
    have hrq := HR.out.drews nq
    have hgq := grown_trans HG.out (grown_drews b nq _)
    have hbq := HB.out.low (below_drews _ nq)
    have hxq := grown_trans HGX.out (grown_drews b nq _)
    clear HR HG HB HGX
    have HR := Lib.hid hrq
    have HG := Lib.hid hgq
    have HB := Lib.hid hbq
    have HGX := Lib.hid hxq
    clear hrq hgq hbq hxq
    obtain ⟨c0, c1, c2, c3, f1, f2, f3⟩ := HR.out
    obtain ⟨d0, d1, d2, d3, d4, d5, d6, d7, d8, _⟩ := HB.out; obtain ⟨e0, e1, e2, e3, e4, e5, e6, e7, e8⟩ := Box9.freed HB.out
    obtain ⟨p0, p1, p2, p3, p4, p5, p6, p7, p8, _⟩ := HPS.out _ HGX.out
    go_wp2
    obtain ⟨W3, hW3, hbx, hr, hgw⟩ := endT (.int .i64 kx) (.int .u64 S.1.toNat) (.int .u64 S.2.1.toNat) (.int .u64 S.2.2.1.toNat) (.int .u64 S.2.2.2.toNat) (.slice A ks.length c) (.int .i64 lo) (.int .i64 hi) (.int .i64 n) hb.out HR.out HG.out HB.out
    have KK : Kids (Fr w.heap.size W3.heap.size) W3 A (.mk kx S ks lo hi n) := by
      have hs2 := hgw.size
      have hz := HSZ.out
      have hbw := hb.out
      have hsx := HGX.out.size
      have hs3 := congrArg (fun W => W.heap.size) hW3
      simp only [size_put9] at hs3
      have hs4 : (wx.alloc (.cells #[.int .i64 kx, .int .u64 S.1.toNat, .int .u64 S.2.1.toNat, .int .u64 S.2.2.1.toNat, .int .u64 S.2.2.2.toNat, .slice A ks.length c, .int .i64 lo, .int .i64 hi, .int .i64 n] 27)).heap.size = wx.heap.size + 1 := by simp
      rw [hW3]
      exact ((HKS.out _ HGX.out).put9 (.inl (by omega)) _ _ _ _ _ _ _ _ _).wide (by omega) (by rw [size_put9]; omega)
    unfold put9 at hW3
    rw [← hW3]
    obtain ⟨l0, l1, l2, l3, l4, l5, l6, l7, l8, _⟩ := hbx
    exact bodyPost_ret (v := .agg #[.int .i64 kx, .int .u64 S.1.toNat, .int .u64 S.2.1.toNat, .int .u64 S.2.2.1.toNat, .int .u64 S.2.2.2.toNat, .slice A ks.length c, .int .i64 lo, .int .i64 hi, .int .i64 n]) (by simp [results, Tryd.results51, go_sem, l0, l1, l2, l3, l4, l5, l6, l7, l8]) rfl (postd_bad HX.out (.mk kx S ks lo hi n) A c (by rfl) KK HZZ.out HZ.out hr hgw)
  · obtain ⟨kx, S, ks, lo, hi, n⟩ := x
    have KG := Lib.hid (at_ok hat b hst hk hgk hgg)
    obtain ⟨hq1, hq2, hq3⟩ := sa2 _ q g' hgg
    have HQ : Hid (g' ≤ q) := Lib.hid hq3
    have hqb : (q : Int) ≤ 200 := by omega
    by_cases a : q < s.size
    · have b1 : decide ((s.size : Int) ≤ (q : Int)) = false := by simp; omega
      have hget := get_at s q a
      obtain ⟨y, hy⟩ : ∃ y : Int, y = (s[q].toNat : Int) := ⟨_, rfl⟩
      have hyy : (s[q].toNat : Int) = y := hy.symm
      have lit : ∀ n : UInt8, y = (n.toNat : Int) → s[q] = n := fun n h => u8_eq (by rw [← hy]; exact h)
      by_cases g42 : y = 42
      · have f := g42
        have hc := lit 42 f
        rw [hc] at hget
        have hps := piece_sign hgg hget (by decide)
        by_cases hrep : rep (.mk kx S ks lo hi n) = true
        · rw [if_pos hrep] at hps
          have k23 : ¬ kx = 2 ∧ ¬ kx = 3 := by simpa [rep, Re.kind] using hrep
          have t2 : (kx == 2) = false := by simpa using k23.1
          have t3 : (kx == 3) = false := by simpa using k23.2
          unfold tailP at hps
          rw [hget, if_pos rfl] at hps
          have HX : Hid (R = .ok (.mk 6 none4 [.mk kx S ks lo hi n] 0 (-1) 0) (q + 1) g') := Lib.hid (by rw [hR, hps]; rfl)
          have HQ1 : Hid (g' ≤ q + 1) := Lib.hid (by omega)
          subst f
          clear hR hgg sa1 sa2 hst hget hy lit hc hps hrep k23 hq1 hq2 hq3 hsz
          go_enter Tryd.func51, Tryd.ntmps51
          go_wp2_with (go_at_call 58; (with_reducible refine (KG.out _ HR.out).mono ?_); go_must (rintro _ wx ⟨⟨A, c, he, hkid⟩, hr1, hg1⟩; have he2 : _ = Ending.returned (.agg #[.int .i64 kx, .int .u64 S.1.toNat, .int .u64 S.2.1.toNat, .int .u64 S.2.2.1.toNat, .int .u64 S.2.2.2.toNat, .slice A ks.length c, .int .i64 lo, .int .i64 hi, .int .i64 n]) := he; clear he; subst he2; have hsz1 := hg1.size; have HSZ : Hid (w.heap.size + 1 ≤ wx.heap.size) := Lib.hid (by simpa using hsz1); have ha := grown_below (b := b) (one_box wx (.cells #[.int .i64 kx, .int .u64 S.1.toNat, .int .u64 S.2.1.toNat, .int .u64 S.2.2.1.toNat, .int .u64 S.2.2.2.toNat, .slice A ks.length c, .int .i64 lo, .int .i64 hi, .int .i64 n] 27)); have hr2 := hr1.low (one_box wx (.cells #[.int .i64 kx, .int .u64 S.1.toNat, .int .u64 S.2.1.toNat, .int .u64 S.2.2.1.toNat, .int .u64 S.2.2.2.toNat, .slice A ks.length c, .int .i64 lo, .int .i64 hi, .int .i64 n] 27)); have hg2 := grown_trans (grown_trans HG.out hg1) ha; have hb2 := (HB.out.grown hg1 (Nat.ne_of_gt hb.out)).grown ha (Nat.ne_of_gt hb.out); have HPS : Hid (∀ W', (wx.alloc (.cells #[.int .i64 kx, .int .u64 S.1.toNat, .int .u64 S.2.1.toNat, .int .u64 S.2.2.1.toNat, .int .u64 S.2.2.2.toNat, .slice A ks.length c, .int .i64 lo, .int .i64 hi, .int .i64 n] 27)).grownBy W' (some b) → Box9 W' wx.heap.size (.int .i64 kx) (.int .u64 S.1.toNat) (.int .u64 S.2.1.toNat) (.int .u64 S.2.2.1.toNat) (.int .u64 S.2.2.2.toNat) (.slice A ks.length c) (.int .i64 lo) (.int .i64 hi) (.int .i64 n)) := Lib.hid (fun W' hg => (Box9.new wx (.int .i64 kx) (.int .u64 S.1.toNat) (.int .u64 S.2.1.toNat) (.int .u64 S.2.2.1.toNat) (.int .u64 S.2.2.2.toNat) (.slice A ks.length c) (.int .i64 lo) (.int .i64 hi) (.int .i64 n)).grown hg (Nat.ne_of_gt (Nat.lt_of_lt_of_le hb.out (Nat.le_trans (Nat.le_succ _) HSZ.out)))); have HKS : Hid (∀ W', (wx.alloc (.cells #[.int .i64 kx, .int .u64 S.1.toNat, .int .u64 S.2.1.toNat, .int .u64 S.2.2.1.toNat, .int .u64 S.2.2.2.toNat, .slice A ks.length c, .int .i64 lo, .int .i64 hi, .int .i64 n] 27)).grownBy W' (some b) → Kids (Fr (w.heap.size + 1) wx.heap.size) W' A (.mk kx S ks lo hi n)) := Lib.hid (fun W' hg => by have hk0 : Kids (Fr (w.heap.size + 1) wx.heap.size) wx A (.mk kx S ks lo hi n) := (by simpa using hkid); exact (hk0.grownF ha (.inl (Nat.lt_succ_of_lt hb.out)) (Nat.le_refl _)).grownF hg (.inl (Nat.lt_succ_of_lt hb.out)) (by simp)); have HGX : Hid ((wx.alloc (.cells #[.int .i64 kx, .int .u64 S.1.toNat, .int .u64 S.2.1.toNat, .int .u64 S.2.2.1.toNat, .int .u64 S.2.2.2.toNat, .slice A ks.length c, .int .i64 lo, .int .i64 hi, .int .i64 n] 27)).grownBy (wx.alloc (.cells #[.int .i64 kx, .int .u64 S.1.toNat, .int .u64 S.2.1.toNat, .int .u64 S.2.2.1.toNat, .int .u64 S.2.2.2.toNat, .slice A ks.length c, .int .i64 lo, .int .i64 hi, .int .i64 n] 27)) (some b)) := Lib.hid (grown_refl _ _); clear HR HG HB; have HR := Lib.hid hr2; have HG := Lib.hid hg2; have HB := Lib.hid hb2; obtain ⟨c0, c1, c2, c3, f1, f2, f3⟩ := hr2; obtain ⟨p0, p1, p2, p3, p4, p5, p6, p7, p8, _⟩ := HPS.out _ HGX.out; obtain ⟨d0, d1, d2, d3, d4, d5, d6, d7, d8, _⟩ := HB.out; obtain ⟨e0, e1, e2, e3, e4, e5, e6, e7, e8⟩ := Box9.freed HB.out; clear hr1 hg1 hsz1 ha hg2 hb2 hkid))
          go_quiet (fail)
          have hrq := HR.out.drews nq
          have hgq := grown_trans HG.out (grown_drews b nq _)
          have hbq := HB.out.low (below_drews _ nq)
          have hxq := grown_trans HGX.out (grown_drews b nq _)
          clear HR HG HB HGX
          have HR := Lib.hid hrq
          have HG := Lib.hid hgq
          have HB := Lib.hid hbq
          have HGX := Lib.hid hxq
          clear hrq hgq hbq hxq
          obtain ⟨c0, c1, c2, c3, f1, f2, f3⟩ := HR.out
          obtain ⟨d0, d1, d2, d3, d4, d5, d6, d7, d8, _⟩ := HB.out; obtain ⟨e0, e1, e2, e3, e4, e5, e6, e7, e8⟩ := Box9.freed HB.out
          obtain ⟨p0, p1, p2, p3, p4, p5, p6, p7, p8, _⟩ := HPS.out _ HGX.out
          go_wp2
          go_quiet (fail)
          have hrq := HR.out.drews nq
          have hgq := grown_trans HG.out (grown_drews b nq _)
          have hbq := HB.out.low (below_drews _ nq)
          have hxq := grown_trans HGX.out (grown_drews b nq _)
          simp only [World.drewN_drewN] at hrq hgq hbq hxq
          clear HR HG HB HGX
          have HR := Lib.hid hrq
          have HG := Lib.hid hgq
          have HB := Lib.hid hbq
          have HGX := Lib.hid hxq
          clear hrq hgq hbq hxq
          obtain ⟨c0, c1, c2, c3, f1, f2, f3⟩ := HR.out
          obtain ⟨d0, d1, d2, d3, d4, d5, d6, d7, d8, _⟩ := HB.out; obtain ⟨e0, e1, e2, e3, e4, e5, e6, e7, e8⟩ := Box9.freed HB.out
          obtain ⟨p0, p1, p2, p3, p4, p5, p6, p7, p8, _⟩ := HPS.out _ HGX.out
          have hpf := Box9.other (HPS.out _ HGX.out) (a := ⟨b, 1, none⟩) (Nat.ne_of_lt (Nat.lt_of_lt_of_le hb.out (Nat.le_trans (Nat.le_succ _) HSZ.out))) (.int .i64 ((q : Int) + 1))
          obtain ⟨P0, P1, P2, P3, P4, P5, P6, P7, P8, _⟩ := hpf
          have hbf := (Box9.other HB.out (a := ⟨b, 1, none⟩) (Nat.ne_of_lt hb.out) (.int .i64 ((q : Int) + 1))).low (one_box _ (.cells #[.int .i64 kx, .int .u64 S.1.toNat, .int .u64 S.2.1.toNat, .int .u64 S.2.2.1.toNat, .int .u64 S.2.2.2.toNat, .slice A ks.length c, .int .i64 lo, .int .i64 hi, .int .i64 n] 27))
          obtain ⟨E0, E1, E2, E3, E4, E5, E6, E7, E8⟩ := Box9.freed hbf
          obtain ⟨D0, D1, D2, D3, D4, D5, D6, D7, D8, _⟩ := hbf
          go_wp2
          have hre := (Rdr.incz HR.out ((q : Int) + 1) rfl).low (one_box _ (.cells #[.int .i64 kx, .int .u64 S.1.toNat, .int .u64 S.2.1.toNat, .int .u64 S.2.2.1.toNat, .int .u64 S.2.2.2.toNat, .slice A ks.length c, .int .i64 lo, .int .i64 hi, .int .i64 n] 27))
          have hge := grown_trans (grown_trans HG.out (grown_set b 1 _ (.int .i64 ((q : Int) + 1)))) (grown_below (one_box _ (.cells #[.int .i64 kx, .int .u64 S.1.toNat, .int .u64 S.2.1.toNat, .int .u64 S.2.2.1.toNat, .int .u64 S.2.2.2.toNat, .slice A ks.length c, .int .i64 lo, .int .i64 hi, .int .i64 n] 27)))
          have hbe := (Box9.other HB.out (a := ⟨b, 1, none⟩) (Nat.ne_of_lt hb.out) (.int .i64 ((q : Int) + 1))).low (one_box _ (.cells #[.int .i64 kx, .int .u64 S.1.toNat, .int .u64 S.2.1.toNat, .int .u64 S.2.2.1.toNat, .int .u64 S.2.2.2.toNat, .slice A ks.length c, .int .i64 lo, .int .i64 hi, .int .i64 n] 27))
          have hxe := grown_trans HGX.out (grown_set b 1 _ (.int .i64 ((q : Int) + 1)))
          obtain ⟨W3, hW3, hbx, hr, hgw⟩ := endT (.int .i64 6) (.int .u64 0) (.int .u64 0) (.int .u64 0) (.int .u64 0) (.slice (some ⟨wx.heap.size + 1, 0, none⟩) 1 1) (.int .i64 0) (.int .i64 (-1)) (.int .i64 0) hb.out hre hge hbe
          have KK : Kids (Fr w.heap.size W3.heap.size) W3 (some ⟨wx.heap.size + 1, 0, none⟩) (.mk 6 none4 [.mk kx S ks lo hi n] 0 (-1) 0) := by
            have hz := HSZ.out
            have hbw := hb.out
            have hs3 := congrArg (fun W => W.heap.size) hW3
            simp only [size_put9] at hs3
            have hs5 : W3.heap.size = wx.heap.size + 2 := by rw [hs3]; simp [World.setCell]
            rw [hs5, hW3]
            have hn9 := box_next hxe (.int .i64 kx) (.int .u64 S.1.toNat) (.int .u64 S.2.1.toNat) (.int .u64 S.2.2.1.toNat) (.int .u64 S.2.2.2.toNat) (.slice A ks.length c) (.int .i64 lo) (.int .i64 hi) (.int .i64 n)
            have hk9 := (HKS.out _ hxe).grownF (b := b) (grown_below (one_box _ (.cells #[.int .i64 kx, .int .u64 S.1.toNat, .int .u64 S.2.1.toNat, .int .u64 S.2.2.1.toNat, .int .u64 S.2.2.2.toNat, .slice A ks.length c, .int .i64 lo, .int .i64 hi, .int .i64 n] 27))) (.inl (Nat.lt_succ_of_lt hb.out)) (by have := hxe.size; first | (simp at this ⊢; done) | (simp at this ⊢; omega))
            refine kids_one (Box9.past (c := wx.heap.size + 1) (by simpa [World.setCell] using hn9) (by omega) _ _ _ _ _ _ _ _ _) ?_ ⟨by omega, by omega⟩ 6 none4 0 (-1) 0
            exact (hk9.put9 (.inl (by omega)) _ _ _ _ _ _ _ _ _).wide (by omega) (by omega)
          unfold put9 at hW3
          rw [← hW3]
          obtain ⟨l0, l1, l2, l3, l4, l5, l6, l7, l8, _⟩ := hbx
          exact bodyPost_ret (v := .agg #[.int .i64 6, .int .u64 0, .int .u64 0, .int .u64 0, .int .u64 0, .slice (some ⟨wx.heap.size + 1, 0, none⟩) 1 1, .int .i64 0, .int .i64 (-1), .int .i64 0]) (by simp [results, Tryd.results51, go_sem, l0, l1, l2, l3, l4, l5, l6, l7, l8]) rfl (postd_ok HX.out (some ⟨wx.heap.size + 1, 0, none⟩) 1 (by rfl) KK HQ1.out hr hgw)
        · rw [if_neg hrep] at hps
          have HX : Hid (R = .bad q 1) := Lib.hid (by rw [hR, hps])
          have k23 : kx = 2 ∨ kx = 3 := by
            by_cases h2 : kx = 2
            · exact .inl h2
            · by_cases h3 : kx = 3
              · exact .inr h3
              · exact absurd (by simp [rep, Re.kind, h2, h3]) hrep
          have KF := Lib.hid (fail_new 1 1 rfl b s q g')
          subst f
          clear hR hgg sa1 sa2 hst hget hy lit hc hps hrep hq1 hq2 hq3 hsz
          rcases k23 with k2 | k2
          · have t2 : (kx == 2) = true := by simpa using k2
            clear k2
            go_enter Tryd.func51, Tryd.ntmps51
            go_wp2_with (go_at_call 58; (with_reducible refine (KG.out _ HR.out).mono ?_); go_must (rintro _ wx ⟨⟨A, c, he, hkid⟩, hr1, hg1⟩; have he2 : _ = Ending.returned (.agg #[.int .i64 kx, .int .u64 S.1.toNat, .int .u64 S.2.1.toNat, .int .u64 S.2.2.1.toNat, .int .u64 S.2.2.2.toNat, .slice A ks.length c, .int .i64 lo, .int .i64 hi, .int .i64 n]) := he; clear he; subst he2; have hsz1 := hg1.size; have HSZ : Hid (w.heap.size + 1 ≤ wx.heap.size) := Lib.hid (by simpa using hsz1); have ha := grown_below (b := b) (one_box wx (.cells #[.int .i64 kx, .int .u64 S.1.toNat, .int .u64 S.2.1.toNat, .int .u64 S.2.2.1.toNat, .int .u64 S.2.2.2.toNat, .slice A ks.length c, .int .i64 lo, .int .i64 hi, .int .i64 n] 27)); have hr2 := hr1.low (one_box wx (.cells #[.int .i64 kx, .int .u64 S.1.toNat, .int .u64 S.2.1.toNat, .int .u64 S.2.2.1.toNat, .int .u64 S.2.2.2.toNat, .slice A ks.length c, .int .i64 lo, .int .i64 hi, .int .i64 n] 27)); have hg2 := grown_trans (grown_trans HG.out hg1) ha; have hb2 := (HB.out.grown hg1 (Nat.ne_of_gt hb.out)).grown ha (Nat.ne_of_gt hb.out); have HPS : Hid (∀ W', (wx.alloc (.cells #[.int .i64 kx, .int .u64 S.1.toNat, .int .u64 S.2.1.toNat, .int .u64 S.2.2.1.toNat, .int .u64 S.2.2.2.toNat, .slice A ks.length c, .int .i64 lo, .int .i64 hi, .int .i64 n] 27)).grownBy W' (some b) → Box9 W' wx.heap.size (.int .i64 kx) (.int .u64 S.1.toNat) (.int .u64 S.2.1.toNat) (.int .u64 S.2.2.1.toNat) (.int .u64 S.2.2.2.toNat) (.slice A ks.length c) (.int .i64 lo) (.int .i64 hi) (.int .i64 n)) := Lib.hid (fun W' hg => (Box9.new wx (.int .i64 kx) (.int .u64 S.1.toNat) (.int .u64 S.2.1.toNat) (.int .u64 S.2.2.1.toNat) (.int .u64 S.2.2.2.toNat) (.slice A ks.length c) (.int .i64 lo) (.int .i64 hi) (.int .i64 n)).grown hg (Nat.ne_of_gt (Nat.lt_of_lt_of_le hb.out (Nat.le_trans (Nat.le_succ _) HSZ.out)))); have HKS : Hid (∀ W', (wx.alloc (.cells #[.int .i64 kx, .int .u64 S.1.toNat, .int .u64 S.2.1.toNat, .int .u64 S.2.2.1.toNat, .int .u64 S.2.2.2.toNat, .slice A ks.length c, .int .i64 lo, .int .i64 hi, .int .i64 n] 27)).grownBy W' (some b) → Kids (Fr (w.heap.size + 1) wx.heap.size) W' A (.mk kx S ks lo hi n)) := Lib.hid (fun W' hg => by have hk0 : Kids (Fr (w.heap.size + 1) wx.heap.size) wx A (.mk kx S ks lo hi n) := (by simpa using hkid); exact (hk0.grownF ha (.inl (Nat.lt_succ_of_lt hb.out)) (Nat.le_refl _)).grownF hg (.inl (Nat.lt_succ_of_lt hb.out)) (by simp)); have HGX : Hid ((wx.alloc (.cells #[.int .i64 kx, .int .u64 S.1.toNat, .int .u64 S.2.1.toNat, .int .u64 S.2.2.1.toNat, .int .u64 S.2.2.2.toNat, .slice A ks.length c, .int .i64 lo, .int .i64 hi, .int .i64 n] 27)).grownBy (wx.alloc (.cells #[.int .i64 kx, .int .u64 S.1.toNat, .int .u64 S.2.1.toNat, .int .u64 S.2.2.1.toNat, .int .u64 S.2.2.2.toNat, .slice A ks.length c, .int .i64 lo, .int .i64 hi, .int .i64 n] 27)) (some b)) := Lib.hid (grown_refl _ _); clear HR HG HB; have HR := Lib.hid hr2; have HG := Lib.hid hg2; have HB := Lib.hid hb2; obtain ⟨c0, c1, c2, c3, f1, f2, f3⟩ := hr2; obtain ⟨p0, p1, p2, p3, p4, p5, p6, p7, p8, _⟩ := HPS.out _ HGX.out; obtain ⟨d0, d1, d2, d3, d4, d5, d6, d7, d8, _⟩ := HB.out; obtain ⟨e0, e1, e2, e3, e4, e5, e6, e7, e8⟩ := Box9.freed HB.out; clear hr1 hg1 hsz1 ha hg2 hb2 hkid))
            go_quiet (fail)
            have hrq := HR.out.drews nq
            have hgq := grown_trans HG.out (grown_drews b nq _)
            have hbq := HB.out.low (below_drews _ nq)
            have hxq := grown_trans HGX.out (grown_drews b nq _)
            clear HR HG HB HGX
            have HR := Lib.hid hrq
            have HG := Lib.hid hgq
            have HB := Lib.hid hbq
            have HGX := Lib.hid hxq
            clear hrq hgq hbq hxq
            obtain ⟨c0, c1, c2, c3, f1, f2, f3⟩ := HR.out
            obtain ⟨d0, d1, d2, d3, d4, d5, d6, d7, d8, _⟩ := HB.out; obtain ⟨e0, e1, e2, e3, e4, e5, e6, e7, e8⟩ := Box9.freed HB.out
            obtain ⟨p0, p1, p2, p3, p4, p5, p6, p7, p8, _⟩ := HPS.out _ HGX.out
            go_wp2
            go_quiet (fail)
            have hrq := HR.out.drews nq
            have hgq := grown_trans HG.out (grown_drews b nq _)
            have hbq := HB.out.low (below_drews _ nq)
            have hxq := grown_trans HGX.out (grown_drews b nq _)
            simp only [World.drewN_drewN] at hrq hgq hbq hxq
            clear HR HG HB HGX
            have HR := Lib.hid hrq
            have HG := Lib.hid hgq
            have HB := Lib.hid hbq
            have HGX := Lib.hid hxq
            clear hrq hgq hbq hxq
            obtain ⟨c0, c1, c2, c3, f1, f2, f3⟩ := HR.out
            obtain ⟨d0, d1, d2, d3, d4, d5, d6, d7, d8, _⟩ := HB.out; obtain ⟨e0, e1, e2, e3, e4, e5, e6, e7, e8⟩ := Box9.freed HB.out
            obtain ⟨p0, p1, p2, p3, p4, p5, p6, p7, p8, _⟩ := HPS.out _ HGX.out
            go_wp2_with (go_at_call 25; (with_reducible refine (Hid.out KF _ (Hid.out HR)).mono ?_); go_must (rintro _ wv ⟨he, hr1, hg1⟩; subst he; have hg2 := grown_trans (Hid.out HG) hg1; have hb2 := Box9.grown (Hid.out HB) hg1 (Nat.ne_of_gt (Hid.out hb)); have hx2 := grown_trans (Hid.out HGX) hg1; clear HGX; have HGX := Lib.hid hx2; obtain ⟨p0, p1, p2, p3, p4, p5, p6, p7, p8, _⟩ := HPS.out _ hx2; clear HR; have HR := Lib.hid hr1; clear HG; have HG := Lib.hid hg2; clear HB; have HB := Lib.hid hb2; obtain ⟨c0, c1, c2, c3, f1, f2, f3⟩ := hr1; obtain ⟨d0, d1, d2, d3, d4, d5, d6, d7, d8, _⟩ := HB.out; obtain ⟨e0, e1, e2, e3, e4, e5, e6, e7, e8⟩ := Box9.freed HB.out; clear hg1 hg2 hb2))
            obtain ⟨W3, hW3, hbx, hr, hgw⟩ := endT (.int .i64 kx) (.int .u64 S.1.toNat) (.int .u64 S.2.1.toNat) (.int .u64 S.2.2.1.toNat) (.int .u64 S.2.2.2.toNat) (.slice A ks.length c) (.int .i64 lo) (.int .i64 hi) (.int .i64 n) hb.out HR.out HG.out HB.out
            have KK : Kids (Fr w.heap.size W3.heap.size) W3 A (.mk kx S ks lo hi n) := by
              have hs2 := hgw.size
              have hz := HSZ.out
              have hbw := hb.out
              have hsx := HGX.out.size
              have hs3 := congrArg (fun W => W.heap.size) hW3
              simp only [size_put9] at hs3
              have hs4 : (wx.alloc (.cells #[.int .i64 kx, .int .u64 S.1.toNat, .int .u64 S.2.1.toNat, .int .u64 S.2.2.1.toNat, .int .u64 S.2.2.2.toNat, .slice A ks.length c, .int .i64 lo, .int .i64 hi, .int .i64 n] 27)).heap.size = wx.heap.size + 1 := by simp
              rw [hW3]
              exact ((HKS.out _ HGX.out).put9 (.inl (by omega)) _ _ _ _ _ _ _ _ _).wide (by omega) (by rw [size_put9]; omega)
            unfold put9 at hW3
            rw [← hW3]
            obtain ⟨l0, l1, l2, l3, l4, l5, l6, l7, l8, _⟩ := hbx
            exact bodyPost_ret (v := .agg #[.int .i64 kx, .int .u64 S.1.toNat, .int .u64 S.2.1.toNat, .int .u64 S.2.2.1.toNat, .int .u64 S.2.2.2.toNat, .slice A ks.length c, .int .i64 lo, .int .i64 hi, .int .i64 n]) (by simp [results, Tryd.results51, go_sem, l0, l1, l2, l3, l4, l5, l6, l7, l8]) rfl (postd_bad HX.out (.mk kx S ks lo hi n) A c (by rfl) KK (by rfl) (by exact .inl rfl) hr hgw)
          · have t2 : (kx == 3) = true := by simpa using k2
            have t3 : (kx == 2) = false := by simp; omega
            clear k2
            go_enter Tryd.func51, Tryd.ntmps51
            go_wp2_with (go_at_call 58; (with_reducible refine (KG.out _ HR.out).mono ?_); go_must (rintro _ wx ⟨⟨A, c, he, hkid⟩, hr1, hg1⟩; have he2 : _ = Ending.returned (.agg #[.int .i64 kx, .int .u64 S.1.toNat, .int .u64 S.2.1.toNat, .int .u64 S.2.2.1.toNat, .int .u64 S.2.2.2.toNat, .slice A ks.length c, .int .i64 lo, .int .i64 hi, .int .i64 n]) := he; clear he; subst he2; have hsz1 := hg1.size; have HSZ : Hid (w.heap.size + 1 ≤ wx.heap.size) := Lib.hid (by simpa using hsz1); have ha := grown_below (b := b) (one_box wx (.cells #[.int .i64 kx, .int .u64 S.1.toNat, .int .u64 S.2.1.toNat, .int .u64 S.2.2.1.toNat, .int .u64 S.2.2.2.toNat, .slice A ks.length c, .int .i64 lo, .int .i64 hi, .int .i64 n] 27)); have hr2 := hr1.low (one_box wx (.cells #[.int .i64 kx, .int .u64 S.1.toNat, .int .u64 S.2.1.toNat, .int .u64 S.2.2.1.toNat, .int .u64 S.2.2.2.toNat, .slice A ks.length c, .int .i64 lo, .int .i64 hi, .int .i64 n] 27)); have hg2 := grown_trans (grown_trans HG.out hg1) ha; have hb2 := (HB.out.grown hg1 (Nat.ne_of_gt hb.out)).grown ha (Nat.ne_of_gt hb.out); have HPS : Hid (∀ W', (wx.alloc (.cells #[.int .i64 kx, .int .u64 S.1.toNat, .int .u64 S.2.1.toNat, .int .u64 S.2.2.1.toNat, .int .u64 S.2.2.2.toNat, .slice A ks.length c, .int .i64 lo, .int .i64 hi, .int .i64 n] 27)).grownBy W' (some b) → Box9 W' wx.heap.size (.int .i64 kx) (.int .u64 S.1.toNat) (.int .u64 S.2.1.toNat) (.int .u64 S.2.2.1.toNat) (.int .u64 S.2.2.2.toNat) (.slice A ks.length c) (.int .i64 lo) (.int .i64 hi) (.int .i64 n)) := Lib.hid (fun W' hg => (Box9.new wx (.int .i64 kx) (.int .u64 S.1.toNat) (.int .u64 S.2.1.toNat) (.int .u64 S.2.2.1.toNat) (.int .u64 S.2.2.2.toNat) (.slice A ks.length c) (.int .i64 lo) (.int .i64 hi) (.int .i64 n)).grown hg (Nat.ne_of_gt (Nat.lt_of_lt_of_le hb.out (Nat.le_trans (Nat.le_succ _) HSZ.out)))); have HKS : Hid (∀ W', (wx.alloc (.cells #[.int .i64 kx, .int .u64 S.1.toNat, .int .u64 S.2.1.toNat, .int .u64 S.2.2.1.toNat, .int .u64 S.2.2.2.toNat, .slice A ks.length c, .int .i64 lo, .int .i64 hi, .int .i64 n] 27)).grownBy W' (some b) → Kids (Fr (w.heap.size + 1) wx.heap.size) W' A (.mk kx S ks lo hi n)) := Lib.hid (fun W' hg => by have hk0 : Kids (Fr (w.heap.size + 1) wx.heap.size) wx A (.mk kx S ks lo hi n) := (by simpa using hkid); exact (hk0.grownF ha (.inl (Nat.lt_succ_of_lt hb.out)) (Nat.le_refl _)).grownF hg (.inl (Nat.lt_succ_of_lt hb.out)) (by simp)); have HGX : Hid ((wx.alloc (.cells #[.int .i64 kx, .int .u64 S.1.toNat, .int .u64 S.2.1.toNat, .int .u64 S.2.2.1.toNat, .int .u64 S.2.2.2.toNat, .slice A ks.length c, .int .i64 lo, .int .i64 hi, .int .i64 n] 27)).grownBy (wx.alloc (.cells #[.int .i64 kx, .int .u64 S.1.toNat, .int .u64 S.2.1.toNat, .int .u64 S.2.2.1.toNat, .int .u64 S.2.2.2.toNat, .slice A ks.length c, .int .i64 lo, .int .i64 hi, .int .i64 n] 27)) (some b)) := Lib.hid (grown_refl _ _); clear HR HG HB; have HR := Lib.hid hr2; have HG := Lib.hid hg2; have HB := Lib.hid hb2; obtain ⟨c0, c1, c2, c3, f1, f2, f3⟩ := hr2; obtain ⟨p0, p1, p2, p3, p4, p5, p6, p7, p8, _⟩ := HPS.out _ HGX.out; obtain ⟨d0, d1, d2, d3, d4, d5, d6, d7, d8, _⟩ := HB.out; obtain ⟨e0, e1, e2, e3, e4, e5, e6, e7, e8⟩ := Box9.freed HB.out; clear hr1 hg1 hsz1 ha hg2 hb2 hkid))
            go_quiet (fail)
            have hrq := HR.out.drews nq
            have hgq := grown_trans HG.out (grown_drews b nq _)
            have hbq := HB.out.low (below_drews _ nq)
            have hxq := grown_trans HGX.out (grown_drews b nq _)
            clear HR HG HB HGX
            have HR := Lib.hid hrq
            have HG := Lib.hid hgq
            have HB := Lib.hid hbq
            have HGX := Lib.hid hxq
            clear hrq hgq hbq hxq
            obtain ⟨c0, c1, c2, c3, f1, f2, f3⟩ := HR.out
            obtain ⟨d0, d1, d2, d3, d4, d5, d6, d7, d8, _⟩ := HB.out; obtain ⟨e0, e1, e2, e3, e4, e5, e6, e7, e8⟩ := Box9.freed HB.out
            obtain ⟨p0, p1, p2, p3, p4, p5, p6, p7, p8, _⟩ := HPS.out _ HGX.out
            go_wp2
            go_quiet (fail)
            have hrq := HR.out.drews nq
            have hgq := grown_trans HG.out (grown_drews b nq _)
            have hbq := HB.out.low (below_drews _ nq)
            have hxq := grown_trans HGX.out (grown_drews b nq _)
            simp only [World.drewN_drewN] at hrq hgq hbq hxq
            clear HR HG HB HGX
            have HR := Lib.hid hrq
            have HG := Lib.hid hgq
            have HB := Lib.hid hbq
            have HGX := Lib.hid hxq
            clear hrq hgq hbq hxq
            obtain ⟨c0, c1, c2, c3, f1, f2, f3⟩ := HR.out
            obtain ⟨d0, d1, d2, d3, d4, d5, d6, d7, d8, _⟩ := HB.out; obtain ⟨e0, e1, e2, e3, e4, e5, e6, e7, e8⟩ := Box9.freed HB.out
            obtain ⟨p0, p1, p2, p3, p4, p5, p6, p7, p8, _⟩ := HPS.out _ HGX.out
            go_wp2_with (go_at_call 25; (with_reducible refine (Hid.out KF _ (Hid.out HR)).mono ?_); go_must (rintro _ wv ⟨he, hr1, hg1⟩; subst he; have hg2 := grown_trans (Hid.out HG) hg1; have hb2 := Box9.grown (Hid.out HB) hg1 (Nat.ne_of_gt (Hid.out hb)); have hx2 := grown_trans (Hid.out HGX) hg1; clear HGX; have HGX := Lib.hid hx2; obtain ⟨p0, p1, p2, p3, p4, p5, p6, p7, p8, _⟩ := HPS.out _ hx2; clear HR; have HR := Lib.hid hr1; clear HG; have HG := Lib.hid hg2; clear HB; have HB := Lib.hid hb2; obtain ⟨c0, c1, c2, c3, f1, f2, f3⟩ := hr1; obtain ⟨d0, d1, d2, d3, d4, d5, d6, d7, d8, _⟩ := HB.out; obtain ⟨e0, e1, e2, e3, e4, e5, e6, e7, e8⟩ := Box9.freed HB.out; clear hg1 hg2 hb2))
            obtain ⟨W3, hW3, hbx, hr, hgw⟩ := endT (.int .i64 kx) (.int .u64 S.1.toNat) (.int .u64 S.2.1.toNat) (.int .u64 S.2.2.1.toNat) (.int .u64 S.2.2.2.toNat) (.slice A ks.length c) (.int .i64 lo) (.int .i64 hi) (.int .i64 n) hb.out HR.out HG.out HB.out
            have KK : Kids (Fr w.heap.size W3.heap.size) W3 A (.mk kx S ks lo hi n) := by
              have hs2 := hgw.size
              have hz := HSZ.out
              have hbw := hb.out
              have hsx := HGX.out.size
              have hs3 := congrArg (fun W => W.heap.size) hW3
              simp only [size_put9] at hs3
              have hs4 : (wx.alloc (.cells #[.int .i64 kx, .int .u64 S.1.toNat, .int .u64 S.2.1.toNat, .int .u64 S.2.2.1.toNat, .int .u64 S.2.2.2.toNat, .slice A ks.length c, .int .i64 lo, .int .i64 hi, .int .i64 n] 27)).heap.size = wx.heap.size + 1 := by simp
              rw [hW3]
              exact ((HKS.out _ HGX.out).put9 (.inl (by omega)) _ _ _ _ _ _ _ _ _).wide (by omega) (by rw [size_put9]; omega)
            unfold put9 at hW3
            rw [← hW3]
            obtain ⟨l0, l1, l2, l3, l4, l5, l6, l7, l8, _⟩ := hbx
            exact bodyPost_ret (v := .agg #[.int .i64 kx, .int .u64 S.1.toNat, .int .u64 S.2.1.toNat, .int .u64 S.2.2.1.toNat, .int .u64 S.2.2.2.toNat, .slice A ks.length c, .int .i64 lo, .int .i64 hi, .int .i64 n]) (by simp [results, Tryd.results51, go_sem, l0, l1, l2, l3, l4, l5, l6, l7, l8]) rfl (postd_bad HX.out (.mk kx S ks lo hi n) A c (by rfl) KK (by rfl) (by exact .inl rfl) hr hgw)
      by_cases g43 : y = 43
      · have f := g43
        have hc := lit 43 f
        rw [hc] at hget
        have hps := piece_sign hgg hget (by decide)
        by_cases hrep : rep (.mk kx S ks lo hi n) = true
        · rw [if_pos hrep] at hps
          have k23 : ¬ kx = 2 ∧ ¬ kx = 3 := by simpa [rep, Re.kind] using hrep
          have t2 : (kx == 2) = false := by simpa using k23.1
          have t3 : (kx == 3) = false := by simpa using k23.2
          unfold tailP at hps
          rw [hget, if_neg (by decide), if_pos rfl] at hps
          have HX : Hid (R = .ok (.mk 6 none4 [.mk kx S ks lo hi n] 1 (-1) 0) (q + 1) g') := Lib.hid (by rw [hR, hps]; rfl)
          have HQ1 : Hid (g' ≤ q + 1) := Lib.hid (by omega)
          subst f
          clear hR hgg sa1 sa2 hst hget hy lit hc hps hrep k23 hq1 hq2 hq3 hsz
          go_enter Tryd.func51, Tryd.ntmps51
          go_wp2_with (go_at_call 58; (with_reducible refine (KG.out _ HR.out).mono ?_); go_must (rintro _ wx ⟨⟨A, c, he, hkid⟩, hr1, hg1⟩; have he2 : _ = Ending.returned (.agg #[.int .i64 kx, .int .u64 S.1.toNat, .int .u64 S.2.1.toNat, .int .u64 S.2.2.1.toNat, .int .u64 S.2.2.2.toNat, .slice A ks.length c, .int .i64 lo, .int .i64 hi, .int .i64 n]) := he; clear he; subst he2; have hsz1 := hg1.size; have HSZ : Hid (w.heap.size + 1 ≤ wx.heap.size) := Lib.hid (by simpa using hsz1); have ha := grown_below (b := b) (one_box wx (.cells #[.int .i64 kx, .int .u64 S.1.toNat, .int .u64 S.2.1.toNat, .int .u64 S.2.2.1.toNat, .int .u64 S.2.2.2.toNat, .slice A ks.length c, .int .i64 lo, .int .i64 hi, .int .i64 n] 27)); have hr2 := hr1.low (one_box wx (.cells #[.int .i64 kx, .int .u64 S.1.toNat, .int .u64 S.2.1.toNat, .int .u64 S.2.2.1.toNat, .int .u64 S.2.2.2.toNat, .slice A ks.length c, .int .i64 lo, .int .i64 hi, .int .i64 n] 27)); have hg2 := grown_trans (grown_trans HG.out hg1) ha; have hb2 := (HB.out.grown hg1 (Nat.ne_of_gt hb.out)).grown ha (Nat.ne_of_gt hb.out); have HPS : Hid (∀ W', (wx.alloc (.cells #[.int .i64 kx, .int .u64 S.1.toNat, .int .u64 S.2.1.toNat, .int .u64 S.2.2.1.toNat, .int .u64 S.2.2.2.toNat, .slice A ks.length c, .int .i64 lo, .int .i64 hi, .int .i64 n] 27)).grownBy W' (some b) → Box9 W' wx.heap.size (.int .i64 kx) (.int .u64 S.1.toNat) (.int .u64 S.2.1.toNat) (.int .u64 S.2.2.1.toNat) (.int .u64 S.2.2.2.toNat) (.slice A ks.length c) (.int .i64 lo) (.int .i64 hi) (.int .i64 n)) := Lib.hid (fun W' hg => (Box9.new wx (.int .i64 kx) (.int .u64 S.1.toNat) (.int .u64 S.2.1.toNat) (.int .u64 S.2.2.1.toNat) (.int .u64 S.2.2.2.toNat) (.slice A ks.length c) (.int .i64 lo) (.int .i64 hi) (.int .i64 n)).grown hg (Nat.ne_of_gt (Nat.lt_of_lt_of_le hb.out (Nat.le_trans (Nat.le_succ _) HSZ.out)))); have HKS : Hid (∀ W', (wx.alloc (.cells #[.int .i64 kx, .int .u64 S.1.toNat, .int .u64 S.2.1.toNat, .int .u64 S.2.2.1.toNat, .int .u64 S.2.2.2.toNat, .slice A ks.length c, .int .i64 lo, .int .i64 hi, .int .i64 n] 27)).grownBy W' (some b) → Kids (Fr (w.heap.size + 1) wx.heap.size) W' A (.mk kx S ks lo hi n)) := Lib.hid (fun W' hg => by have hk0 : Kids (Fr (w.heap.size + 1) wx.heap.size) wx A (.mk kx S ks lo hi n) := (by simpa using hkid); exact (hk0.grownF ha (.inl (Nat.lt_succ_of_lt hb.out)) (Nat.le_refl _)).grownF hg (.inl (Nat.lt_succ_of_lt hb.out)) (by simp)); have HGX : Hid ((wx.alloc (.cells #[.int .i64 kx, .int .u64 S.1.toNat, .int .u64 S.2.1.toNat, .int .u64 S.2.2.1.toNat, .int .u64 S.2.2.2.toNat, .slice A ks.length c, .int .i64 lo, .int .i64 hi, .int .i64 n] 27)).grownBy (wx.alloc (.cells #[.int .i64 kx, .int .u64 S.1.toNat, .int .u64 S.2.1.toNat, .int .u64 S.2.2.1.toNat, .int .u64 S.2.2.2.toNat, .slice A ks.length c, .int .i64 lo, .int .i64 hi, .int .i64 n] 27)) (some b)) := Lib.hid (grown_refl _ _); clear HR HG HB; have HR := Lib.hid hr2; have HG := Lib.hid hg2; have HB := Lib.hid hb2; obtain ⟨c0, c1, c2, c3, f1, f2, f3⟩ := hr2; obtain ⟨p0, p1, p2, p3, p4, p5, p6, p7, p8, _⟩ := HPS.out _ HGX.out; obtain ⟨d0, d1, d2, d3, d4, d5, d6, d7, d8, _⟩ := HB.out; obtain ⟨e0, e1, e2, e3, e4, e5, e6, e7, e8⟩ := Box9.freed HB.out; clear hr1 hg1 hsz1 ha hg2 hb2 hkid))
          go_quiet (fail)
          have hrq := HR.out.drews nq
          have hgq := grown_trans HG.out (grown_drews b nq _)
          have hbq := HB.out.low (below_drews _ nq)
          have hxq := grown_trans HGX.out (grown_drews b nq _)
          clear HR HG HB HGX
          have HR := Lib.hid hrq
          have HG := Lib.hid hgq
          have HB := Lib.hid hbq
          have HGX := Lib.hid hxq
          clear hrq hgq hbq hxq
          obtain ⟨c0, c1, c2, c3, f1, f2, f3⟩ := HR.out
          obtain ⟨d0, d1, d2, d3, d4, d5, d6, d7, d8, _⟩ := HB.out; obtain ⟨e0, e1, e2, e3, e4, e5, e6, e7, e8⟩ := Box9.freed HB.out
          obtain ⟨p0, p1, p2, p3, p4, p5, p6, p7, p8, _⟩ := HPS.out _ HGX.out
          go_wp2
          go_quiet (fail)
          have hrq := HR.out.drews nq
          have hgq := grown_trans HG.out (grown_drews b nq _)
          have hbq := HB.out.low (below_drews _ nq)
          have hxq := grown_trans HGX.out (grown_drews b nq _)
          simp only [World.drewN_drewN] at hrq hgq hbq hxq
          clear HR HG HB HGX
          have HR := Lib.hid hrq
          have HG := Lib.hid hgq
          have HB := Lib.hid hbq
          have HGX := Lib.hid hxq
          clear hrq hgq hbq hxq
          obtain ⟨c0, c1, c2, c3, f1, f2, f3⟩ := HR.out
          obtain ⟨d0, d1, d2, d3, d4, d5, d6, d7, d8, _⟩ := HB.out; obtain ⟨e0, e1, e2, e3, e4, e5, e6, e7, e8⟩ := Box9.freed HB.out
          obtain ⟨p0, p1, p2, p3, p4, p5, p6, p7, p8, _⟩ := HPS.out _ HGX.out
          have hpf := Box9.other (HPS.out _ HGX.out) (a := ⟨b, 1, none⟩) (Nat.ne_of_lt (Nat.lt_of_lt_of_le hb.out (Nat.le_trans (Nat.le_succ _) HSZ.out))) (.int .i64 ((q : Int) + 1))
          obtain ⟨P0, P1, P2, P3, P4, P5, P6, P7, P8, _⟩ := hpf
          have hbf := (Box9.other HB.out (a := ⟨b, 1, none⟩) (Nat.ne_of_lt hb.out) (.int .i64 ((q : Int) + 1))).low (one_box _ (.cells #[.int .i64 kx, .int .u64 S.1.toNat, .int .u64 S.2.1.toNat, .int .u64 S.2.2.1.toNat, .int .u64 S.2.2.2.toNat, .slice A ks.length c, .int .i64 lo, .int .i64 hi, .int .i64 n] 27))
          obtain ⟨E0, E1, E2, E3, E4, E5, E6, E7, E8⟩ := Box9.freed hbf
          obtain ⟨D0, D1, D2, D3, D4, D5, D6, D7, D8, _⟩ := hbf
          go_wp2
          have hre := (Rdr.incz HR.out ((q : Int) + 1) rfl).low (one_box _ (.cells #[.int .i64 kx, .int .u64 S.1.toNat, .int .u64 S.2.1.toNat, .int .u64 S.2.2.1.toNat, .int .u64 S.2.2.2.toNat, .slice A ks.length c, .int .i64 lo, .int .i64 hi, .int .i64 n] 27))
          have hge := grown_trans (grown_trans HG.out (grown_set b 1 _ (.int .i64 ((q : Int) + 1)))) (grown_below (one_box _ (.cells #[.int .i64 kx, .int .u64 S.1.toNat, .int .u64 S.2.1.toNat, .int .u64 S.2.2.1.toNat, .int .u64 S.2.2.2.toNat, .slice A ks.length c, .int .i64 lo, .int .i64 hi, .int .i64 n] 27)))
          have hbe := (Box9.other HB.out (a := ⟨b, 1, none⟩) (Nat.ne_of_lt hb.out) (.int .i64 ((q : Int) + 1))).low (one_box _ (.cells #[.int .i64 kx, .int .u64 S.1.toNat, .int .u64 S.2.1.toNat, .int .u64 S.2.2.1.toNat, .int .u64 S.2.2.2.toNat, .slice A ks.length c, .int .i64 lo, .int .i64 hi, .int .i64 n] 27))
          have hxe := grown_trans HGX.out (grown_set b 1 _ (.int .i64 ((q : Int) + 1)))
          obtain ⟨W3, hW3, hbx, hr, hgw⟩ := endT (.int .i64 6) (.int .u64 0) (.int .u64 0) (.int .u64 0) (.int .u64 0) (.slice (some ⟨wx.heap.size + 1, 0, none⟩) 1 1) (.int .i64 1) (.int .i64 (-1)) (.int .i64 0) hb.out hre hge hbe
          have KK : Kids (Fr w.heap.size W3.heap.size) W3 (some ⟨wx.heap.size + 1, 0, none⟩) (.mk 6 none4 [.mk kx S ks lo hi n] 1 (-1) 0) := by
            have hz := HSZ.out
            have hbw := hb.out
            have hs3 := congrArg (fun W => W.heap.size) hW3
            simp only [size_put9] at hs3
            have hs5 : W3.heap.size = wx.heap.size + 2 := by rw [hs3]; simp [World.setCell]
            rw [hs5, hW3]
            have hn9 := box_next hxe (.int .i64 kx) (.int .u64 S.1.toNat) (.int .u64 S.2.1.toNat) (.int .u64 S.2.2.1.toNat) (.int .u64 S.2.2.2.toNat) (.slice A ks.length c) (.int .i64 lo) (.int .i64 hi) (.int .i64 n)
            have hk9 := (HKS.out _ hxe).grownF (b := b) (grown_below (one_box _ (.cells #[.int .i64 kx, .int .u64 S.1.toNat, .int .u64 S.2.1.toNat, .int .u64 S.2.2.1.toNat, .int .u64 S.2.2.2.toNat, .slice A ks.length c, .int .i64 lo, .int .i64 hi, .int .i64 n] 27))) (.inl (Nat.lt_succ_of_lt hb.out)) (by have := hxe.size; first | (simp at this ⊢; done) | (simp at this ⊢; omega))
            refine kids_one (Box9.past (c := wx.heap.size + 1) (by simpa [World.setCell] using hn9) (by omega) _ _ _ _ _ _ _ _ _) ?_ ⟨by omega, by omega⟩ 6 none4 1 (-1) 0
            exact (hk9.put9 (.inl (by omega)) _ _ _ _ _ _ _ _ _).wide (by omega) (by omega)
          unfold put9 at hW3
          rw [← hW3]
          obtain ⟨l0, l1, l2, l3, l4, l5, l6, l7, l8, _⟩ := hbx
          exact bodyPost_ret (v := .agg #[.int .i64 6, .int .u64 0, .int .u64 0, .int .u64 0, .int .u64 0, .slice (some ⟨wx.heap.size + 1, 0, none⟩) 1 1, .int .i64 1, .int .i64 (-1), .int .i64 0]) (by simp [results, Tryd.results51, go_sem, l0, l1, l2, l3, l4, l5, l6, l7, l8]) rfl (postd_ok HX.out (some ⟨wx.heap.size + 1, 0, none⟩) 1 (by rfl) KK HQ1.out hr hgw)
        · rw [if_neg hrep] at hps
          have HX : Hid (R = .bad q 1) := Lib.hid (by rw [hR, hps])
          have k23 : kx = 2 ∨ kx = 3 := by
            by_cases h2 : kx = 2
            · exact .inl h2
            · by_cases h3 : kx = 3
              · exact .inr h3
              · exact absurd (by simp [rep, Re.kind, h2, h3]) hrep
          have KF := Lib.hid (fail_new 1 1 rfl b s q g')
          subst f
          clear hR hgg sa1 sa2 hst hget hy lit hc hps hrep hq1 hq2 hq3 hsz
          rcases k23 with k2 | k2
          · have t2 : (kx == 2) = true := by simpa using k2
            clear k2
            go_enter Tryd.func51, Tryd.ntmps51
            go_wp2_with (go_at_call 58; (with_reducible refine (KG.out _ HR.out).mono ?_); go_must (rintro _ wx ⟨⟨A, c, he, hkid⟩, hr1, hg1⟩; have he2 : _ = Ending.returned (.agg #[.int .i64 kx, .int .u64 S.1.toNat, .int .u64 S.2.1.toNat, .int .u64 S.2.2.1.toNat, .int .u64 S.2.2.2.toNat, .slice A ks.length c, .int .i64 lo, .int .i64 hi, .int .i64 n]) := he; clear he; subst he2; have hsz1 := hg1.size; have HSZ : Hid (w.heap.size + 1 ≤ wx.heap.size) := Lib.hid (by simpa using hsz1); have ha := grown_below (b := b) (one_box wx (.cells #[.int .i64 kx, .int .u64 S.1.toNat, .int .u64 S.2.1.toNat, .int .u64 S.2.2.1.toNat, .int .u64 S.2.2.2.toNat, .slice A ks.length c, .int .i64 lo, .int .i64 hi, .int .i64 n] 27)); have hr2 := hr1.low (one_box wx (.cells #[.int .i64 kx, .int .u64 S.1.toNat, .int .u64 S.2.1.toNat, .int .u64 S.2.2.1.toNat, .int .u64 S.2.2.2.toNat, .slice A ks.length c, .int .i64 lo, .int .i64 hi, .int .i64 n] 27)); have hg2 := grown_trans (grown_trans HG.out hg1) ha; have hb2 := (HB.out.grown hg1 (Nat.ne_of_gt hb.out)).grown ha (Nat.ne_of_gt hb.out); have HPS : Hid (∀ W', (wx.alloc (.cells #[.int .i64 kx, .int .u64 S.1.toNat, .int .u64 S.2.1.toNat, .int .u64 S.2.2.1.toNat, .int .u64 S.2.2.2.toNat, .slice A ks.length c, .int .i64 lo, .int .i64 hi, .int .i64 n] 27)).grownBy W' (some b) → Box9 W' wx.heap.size (.int .i64 kx) (.int .u64 S.1.toNat) (.int .u64 S.2.1.toNat) (.int .u64 S.2.2.1.toNat) (.int .u64 S.2.2.2.toNat) (.slice A ks.length c) (.int .i64 lo) (.int .i64 hi) (.int .i64 n)) := Lib.hid (fun W' hg => (Box9.new wx (.int .i64 kx) (.int .u64 S.1.toNat) (.int .u64 S.2.1.toNat) (.int .u64 S.2.2.1.toNat) (.int .u64 S.2.2.2.toNat) (.slice A ks.length c) (.int .i64 lo) (.int .i64 hi) (.int .i64 n)).grown hg (Nat.ne_of_gt (Nat.lt_of_lt_of_le hb.out (Nat.le_trans (Nat.le_succ _) HSZ.out)))); have HKS : Hid (∀ W', (wx.alloc (.cells #[.int .i64 kx, .int .u64 S.1.toNat, .int .u64 S.2.1.toNat, .int .u64 S.2.2.1.toNat, .int .u64 S.2.2.2.toNat, .slice A ks.length c, .int .i64 lo, .int .i64 hi, .int .i64 n] 27)).grownBy W' (some b) → Kids (Fr (w.heap.size + 1) wx.heap.size) W' A (.mk kx S ks lo hi n)) := Lib.hid (fun W' hg => by have hk0 : Kids (Fr (w.heap.size + 1) wx.heap.size) wx A (.mk kx S ks lo hi n) := (by simpa using hkid); exact (hk0.grownF ha (.inl (Nat.lt_succ_of_lt hb.out)) (Nat.le_refl _)).grownF hg (.inl (Nat.lt_succ_of_lt hb.out)) (by simp)); have HGX : Hid ((wx.alloc (.cells #[.int .i64 kx, .int .u64 S.1.toNat, .int .u64 S.2.1.toNat, .int .u64 S.2.2.1.toNat, .int .u64 S.2.2.2.toNat, .slice A ks.length c, .int .i64 lo, .int .i64 hi, .int .i64 n] 27)).grownBy (wx.alloc (.cells #[.int .i64 kx, .int .u64 S.1.toNat, .int .u64 S.2.1.toNat, .int .u64 S.2.2.1.toNat, .int .u64 S.2.2.2.toNat, .slice A ks.length c, .int .i64 lo, .int .i64 hi, .int .i64 n] 27)) (some b)) := Lib.hid (grown_refl _ _); clear HR HG HB; have HR := Lib.hid hr2; have HG := Lib.hid hg2; have HB := Lib.hid hb2; obtain ⟨c0, c1, c2, c3, f1, f2, f3⟩ := hr2; obtain ⟨p0, p1, p2, p3, p4, p5, p6, p7, p8, _⟩ := HPS.out _ HGX.out; obtain ⟨d0, d1, d2, d3, d4, d5, d6, d7, d8, _⟩ := HB.out; obtain ⟨e0, e1, e2, e3, e4, e5, e6, e7, e8⟩ := Box9.freed HB.out; clear hr1 hg1 hsz1 ha hg2 hb2 hkid))
            go_quiet (fail)
            have hrq := HR.out.drews nq
            have hgq := grown_trans HG.out (grown_drews b nq _)
            have hbq := HB.out.low (below_drews _ nq)
            have hxq := grown_trans HGX.out (grown_drews b nq _)
            clear HR HG HB HGX
            have HR := Lib.hid hrq
            have HG := Lib.hid hgq
            have HB := Lib.hid hbq
            have HGX := Lib.hid hxq
            clear hrq hgq hbq hxq
            obtain ⟨c0, c1, c2, c3, f1, f2, f3⟩ := HR.out
            obtain ⟨d0, d1, d2, d3, d4, d5, d6, d7, d8, _⟩ := HB.out; obtain ⟨e0, e1, e2, e3, e4, e5, e6, e7, e8⟩ := Box9.freed HB.out
            obtain ⟨p0, p1, p2, p3, p4, p5, p6, p7, p8, _⟩ := HPS.out _ HGX.out
            go_wp2
            go_quiet (fail)
            have hrq := HR.out.drews nq
            have hgq := grown_trans HG.out (grown_drews b nq _)
            have hbq := HB.out.low (below_drews _ nq)
            have hxq := grown_trans HGX.out (grown_drews b nq _)
            simp only [World.drewN_drewN] at hrq hgq hbq hxq
            clear HR HG HB HGX
            have HR := Lib.hid hrq
            have HG := Lib.hid hgq
            have HB := Lib.hid hbq
            have HGX := Lib.hid hxq
            clear hrq hgq hbq hxq
            obtain ⟨c0, c1, c2, c3, f1, f2, f3⟩ := HR.out
            obtain ⟨d0, d1, d2, d3, d4, d5, d6, d7, d8, _⟩ := HB.out; obtain ⟨e0, e1, e2, e3, e4, e5, e6, e7, e8⟩ := Box9.freed HB.out
            obtain ⟨p0, p1, p2, p3, p4, p5, p6, p7, p8, _⟩ := HPS.out _ HGX.out
            go_wp2_with (go_at_call 25; (with_reducible refine (Hid.out KF _ (Hid.out HR)).mono ?_); go_must (rintro _ wv ⟨he, hr1, hg1⟩; subst he; have hg2 := grown_trans (Hid.out HG) hg1; have hb2 := Box9.grown (Hid.out HB) hg1 (Nat.ne_of_gt (Hid.out hb)); have hx2 := grown_trans (Hid.out HGX) hg1; clear HGX; have HGX := Lib.hid hx2; obtain ⟨p0, p1, p2, p3, p4, p5, p6, p7, p8, _⟩ := HPS.out _ hx2; clear HR; have HR := Lib.hid hr1; clear HG; have HG := Lib.hid hg2; clear HB; have HB := Lib.hid hb2; obtain ⟨c0, c1, c2, c3, f1, f2, f3⟩ := hr1; obtain ⟨d0, d1, d2, d3, d4, d5, d6, d7, d8, _⟩ := HB.out; obtain ⟨e0, e1, e2, e3, e4, e5, e6, e7, e8⟩ := Box9.freed HB.out; clear hg1 hg2 hb2))
            obtain ⟨W3, hW3, hbx, hr, hgw⟩ := endT (.int .i64 kx) (.int .u64 S.1.toNat) (.int .u64 S.2.1.toNat) (.int .u64 S.2.2.1.toNat) (.int .u64 S.2.2.2.toNat) (.slice A ks.length c) (.int .i64 lo) (.int .i64 hi) (.int .i64 n) hb.out HR.out HG.out HB.out
            have KK : Kids (Fr w.heap.size W3.heap.size) W3 A (.mk kx S ks lo hi n) := by
              have hs2 := hgw.size
              have hz := HSZ.out
              have hbw := hb.out
              have hsx := HGX.out.size
              have hs3 := congrArg (fun W => W.heap.size) hW3
              simp only [size_put9] at hs3
              have hs4 : (wx.alloc (.cells #[.int .i64 kx, .int .u64 S.1.toNat, .int .u64 S.2.1.toNat, .int .u64 S.2.2.1.toNat, .int .u64 S.2.2.2.toNat, .slice A ks.length c, .int .i64 lo, .int .i64 hi, .int .i64 n] 27)).heap.size = wx.heap.size + 1 := by simp
              rw [hW3]
              exact ((HKS.out _ HGX.out).put9 (.inl (by omega)) _ _ _ _ _ _ _ _ _).wide (by omega) (by rw [size_put9]; omega)
            unfold put9 at hW3
            rw [← hW3]
            obtain ⟨l0, l1, l2, l3, l4, l5, l6, l7, l8, _⟩ := hbx
            exact bodyPost_ret (v := .agg #[.int .i64 kx, .int .u64 S.1.toNat, .int .u64 S.2.1.toNat, .int .u64 S.2.2.1.toNat, .int .u64 S.2.2.2.toNat, .slice A ks.length c, .int .i64 lo, .int .i64 hi, .int .i64 n]) (by simp [results, Tryd.results51, go_sem, l0, l1, l2, l3, l4, l5, l6, l7, l8]) rfl (postd_bad HX.out (.mk kx S ks lo hi n) A c (by rfl) KK (by rfl) (by exact .inl rfl) hr hgw)
          · have t2 : (kx == 3) = true := by simpa using k2
            have t3 : (kx == 2) = false := by simp; omega
            clear k2
            go_enter Tryd.func51, Tryd.ntmps51
            go_wp2_with (go_at_call 58; (with_reducible refine (KG.out _ HR.out).mono ?_); go_must (rintro _ wx ⟨⟨A, c, he, hkid⟩, hr1, hg1⟩; have he2 : _ = Ending.returned (.agg #[.int .i64 kx, .int .u64 S.1.toNat, .int .u64 S.2.1.toNat, .int .u64 S.2.2.1.toNat, .int .u64 S.2.2.2.toNat, .slice A ks.length c, .int .i64 lo, .int .i64 hi, .int .i64 n]) := he; clear he; subst he2; have hsz1 := hg1.size; have HSZ : Hid (w.heap.size + 1 ≤ wx.heap.size) := Lib.hid (by simpa using hsz1); have ha := grown_below (b := b) (one_box wx (.cells #[.int .i64 kx, .int .u64 S.1.toNat, .int .u64 S.2.1.toNat, .int .u64 S.2.2.1.toNat, .int .u64 S.2.2.2.toNat, .slice A ks.length c, .int .i64 lo, .int .i64 hi, .int .i64 n] 27)); have hr2 := hr1.low (one_box wx (.cells #[.int .i64 kx, .int .u64 S.1.toNat, .int .u64 S.2.1.toNat, .int .u64 S.2.2.1.toNat, .int .u64 S.2.2.2.toNat, .slice A ks.length c, .int .i64 lo, .int .i64 hi, .int .i64 n] 27)); have hg2 := grown_trans (grown_trans HG.out hg1) ha; have hb2 := (HB.out.grown hg1 (Nat.ne_of_gt hb.out)).grown ha (Nat.ne_of_gt hb.out); have HPS : Hid (∀ W', (wx.alloc (.cells #[.int .i64 kx, .int .u64 S.1.toNat, .int .u64 S.2.1.toNat, .int .u64 S.2.2.1.toNat, .int .u64 S.2.2.2.toNat, .slice A ks.length c, .int .i64 lo, .int .i64 hi, .int .i64 n] 27)).grownBy W' (some b) → Box9 W' wx.heap.size (.int .i64 kx) (.int .u64 S.1.toNat) (.int .u64 S.2.1.toNat) (.int .u64 S.2.2.1.toNat) (.int .u64 S.2.2.2.toNat) (.slice A ks.length c) (.int .i64 lo) (.int .i64 hi) (.int .i64 n)) := Lib.hid (fun W' hg => (Box9.new wx (.int .i64 kx) (.int .u64 S.1.toNat) (.int .u64 S.2.1.toNat) (.int .u64 S.2.2.1.toNat) (.int .u64 S.2.2.2.toNat) (.slice A ks.length c) (.int .i64 lo) (.int .i64 hi) (.int .i64 n)).grown hg (Nat.ne_of_gt (Nat.lt_of_lt_of_le hb.out (Nat.le_trans (Nat.le_succ _) HSZ.out)))); have HKS : Hid (∀ W', (wx.alloc (.cells #[.int .i64 kx, .int .u64 S.1.toNat, .int .u64 S.2.1.toNat, .int .u64 S.2.2.1.toNat, .int .u64 S.2.2.2.toNat, .slice A ks.length c, .int .i64 lo, .int .i64 hi, .int .i64 n] 27)).grownBy W' (some b) → Kids (Fr (w.heap.size + 1) wx.heap.size) W' A (.mk kx S ks lo hi n)) := Lib.hid (fun W' hg => by have hk0 : Kids (Fr (w.heap.size + 1) wx.heap.size) wx A (.mk kx S ks lo hi n) := (by simpa using hkid); exact (hk0.grownF ha (.inl (Nat.lt_succ_of_lt hb.out)) (Nat.le_refl _)).grownF hg (.inl (Nat.lt_succ_of_lt hb.out)) (by simp)); have HGX : Hid ((wx.alloc (.cells #[.int .i64 kx, .int .u64 S.1.toNat, .int .u64 S.2.1.toNat, .int .u64 S.2.2.1.toNat, .int .u64 S.2.2.2.toNat, .slice A ks.length c, .int .i64 lo, .int .i64 hi, .int .i64 n] 27)).grownBy (wx.alloc (.cells #[.int .i64 kx, .int .u64 S.1.toNat, .int .u64 S.2.1.toNat, .int .u64 S.2.2.1.toNat, .int .u64 S.2.2.2.toNat, .slice A ks.length c, .int .i64 lo, .int .i64 hi, .int .i64 n] 27)) (some b)) := Lib.hid (grown_refl _ _); clear HR HG HB; have HR := Lib.hid hr2; have HG := Lib.hid hg2; have HB := Lib.hid hb2; obtain ⟨c0, c1, c2, c3, f1, f2, f3⟩ := hr2; obtain ⟨p0, p1, p2, p3, p4, p5, p6, p7, p8, _⟩ := HPS.out _ HGX.out; obtain ⟨d0, d1, d2, d3, d4, d5, d6, d7, d8, _⟩ := HB.out; obtain ⟨e0, e1, e2, e3, e4, e5, e6, e7, e8⟩ := Box9.freed HB.out; clear hr1 hg1 hsz1 ha hg2 hb2 hkid))
            go_quiet (fail)
            have hrq := HR.out.drews nq
            have hgq := grown_trans HG.out (grown_drews b nq _)
            have hbq := HB.out.low (below_drews _ nq)
            have hxq := grown_trans HGX.out (grown_drews b nq _)
            clear HR HG HB HGX
            have HR := Lib.hid hrq
            have HG := Lib.hid hgq
            have HB := Lib.hid hbq
            have HGX := Lib.hid hxq
            clear hrq hgq hbq hxq
            obtain ⟨c0, c1, c2, c3, f1, f2, f3⟩ := HR.out
            obtain ⟨d0, d1, d2, d3, d4, d5, d6, d7, d8, _⟩ := HB.out; obtain ⟨e0, e1, e2, e3, e4, e5, e6, e7, e8⟩ := Box9.freed HB.out
            obtain ⟨p0, p1, p2, p3, p4, p5, p6, p7, p8, _⟩ := HPS.out _ HGX.out
            go_wp2
            go_quiet (fail)
            have hrq := HR.out.drews nq
            have hgq := grown_trans HG.out (grown_drews b nq _)
            have hbq := HB.out.low (below_drews _ nq)
            have hxq := grown_trans HGX.out (grown_drews b nq _)
            simp only [World.drewN_drewN] at hrq hgq hbq hxq
            clear HR HG HB HGX
            have HR := Lib.hid hrq
            have HG := Lib.hid hgq
            have HB := Lib.hid hbq
            have HGX := Lib.hid hxq
            clear hrq hgq hbq hxq
            obtain ⟨c0, c1, c2, c3, f1, f2, f3⟩ := HR.out
            obtain ⟨d0, d1, d2, d3, d4, d5, d6, d7, d8, _⟩ := HB.out; obtain ⟨e0, e1, e2, e3, e4, e5, e6, e7, e8⟩ := Box9.freed HB.out
            obtain ⟨p0, p1, p2, p3, p4, p5, p6, p7, p8, _⟩ := HPS.out _ HGX.out
            go_wp2_with (go_at_call 25; (with_reducible refine (Hid.out KF _ (Hid.out HR)).mono ?_); go_must (rintro _ wv ⟨he, hr1, hg1⟩; subst he; have hg2 := grown_trans (Hid.out HG) hg1; have hb2 := Box9.grown (Hid.out HB) hg1 (Nat.ne_of_gt (Hid.out hb)); have hx2 := grown_trans (Hid.out HGX) hg1; clear HGX; have HGX := Lib.hid hx2; obtain ⟨p0, p1, p2, p3, p4, p5, p6, p7, p8, _⟩ := HPS.out _ hx2; clear HR; have HR := Lib.hid hr1; clear HG; have HG := Lib.hid hg2; clear HB; have HB := Lib.hid hb2; obtain ⟨c0, c1, c2, c3, f1, f2, f3⟩ := hr1; obtain ⟨d0, d1, d2, d3, d4, d5, d6, d7, d8, _⟩ := HB.out; obtain ⟨e0, e1, e2, e3, e4, e5, e6, e7, e8⟩ := Box9.freed HB.out; clear hg1 hg2 hb2))
            obtain ⟨W3, hW3, hbx, hr, hgw⟩ := endT (.int .i64 kx) (.int .u64 S.1.toNat) (.int .u64 S.2.1.toNat) (.int .u64 S.2.2.1.toNat) (.int .u64 S.2.2.2.toNat) (.slice A ks.length c) (.int .i64 lo) (.int .i64 hi) (.int .i64 n) hb.out HR.out HG.out HB.out
            have KK : Kids (Fr w.heap.size W3.heap.size) W3 A (.mk kx S ks lo hi n) := by
              have hs2 := hgw.size
              have hz := HSZ.out
              have hbw := hb.out
              have hsx := HGX.out.size
              have hs3 := congrArg (fun W => W.heap.size) hW3
              simp only [size_put9] at hs3
              have hs4 : (wx.alloc (.cells #[.int .i64 kx, .int .u64 S.1.toNat, .int .u64 S.2.1.toNat, .int .u64 S.2.2.1.toNat, .int .u64 S.2.2.2.toNat, .slice A ks.length c, .int .i64 lo, .int .i64 hi, .int .i64 n] 27)).heap.size = wx.heap.size + 1 := by simp
              rw [hW3]
              exact ((HKS.out _ HGX.out).put9 (.inl (by omega)) _ _ _ _ _ _ _ _ _).wide (by omega) (by rw [size_put9]; omega)
            unfold put9 at hW3
            rw [← hW3]
            obtain ⟨l0, l1, l2, l3, l4, l5, l6, l7, l8, _⟩ := hbx
            exact bodyPost_ret (v := .agg #[.int .i64 kx, .int .u64 S.1.toNat, .int .u64 S.2.1.toNat, .int .u64 S.2.2.1.toNat, .int .u64 S.2.2.2.toNat, .slice A ks.length c, .int .i64 lo, .int .i64 hi, .int .i64 n]) (by simp [results, Tryd.results51, go_sem, l0, l1, l2, l3, l4, l5, l6, l7, l8]) rfl (postd_bad HX.out (.mk kx S ks lo hi n) A c (by rfl) KK (by rfl) (by exact .inl rfl) hr hgw)
      by_cases g63 : y = 63
      · have f := g63
        have hc := lit 63 f
        rw [hc] at hget
        have hps := piece_sign hgg hget (by decide)
        by_cases hrep : rep (.mk kx S ks lo hi n) = true
        · rw [if_pos hrep] at hps
          have k23 : ¬ kx = 2 ∧ ¬ kx = 3 := by simpa [rep, Re.kind] using hrep
          have t2 : (kx == 2) = false := by simpa using k23.1
          have t3 : (kx == 3) = false := by simpa using k23.2
          unfold tailP at hps
          rw [hget, if_neg (by decide), if_neg (by decide), if_pos rfl] at hps
          have HX : Hid (R = .ok (.mk 6 none4 [.mk kx S ks lo hi n] 0 1 0) (q + 1) g') := Lib.hid (by rw [hR, hps]; rfl)
          have HQ1 : Hid (g' ≤ q + 1) := Lib.hid (by omega)
          subst f
          clear hR hgg sa1 sa2 hst hget hy lit hc hps hrep k23 hq1 hq2 hq3 hsz
          go_enter Tryd.func51, Tryd.ntmps51
          go_wp2_with (go_at_call 58; (with_reducible refine (KG.out _ HR.out).mono ?_); go_must (rintro _ wx ⟨⟨A, c, he, hkid⟩, hr1, hg1⟩; have he2 : _ = Ending.returned (.agg #[.int .i64 kx, .int .u64 S.1.toNat, .int .u64 S.2.1.toNat, .int .u64 S.2.2.1.toNat, .int .u64 S.2.2.2.toNat, .slice A ks.length c, .int .i64 lo, .int .i64 hi, .int .i64 n]) := he; clear he; subst he2; have hsz1 := hg1.size; have HSZ : Hid (w.heap.size + 1 ≤ wx.heap.size) := Lib.hid (by simpa using hsz1); have ha := grown_below (b := b) (one_box wx (.cells #[.int .i64 kx, .int .u64 S.1.toNat, .int .u64 S.2.1.toNat, .int .u64 S.2.2.1.toNat, .int .u64 S.2.2.2.toNat, .slice A ks.length c, .int .i64 lo, .int .i64 hi, .int .i64 n] 27)); have hr2 := hr1.low (one_box wx (.cells #[.int .i64 kx, .int .u64 S.1.toNat, .int .u64 S.2.1.toNat, .int .u64 S.2.2.1.toNat, .int .u64 S.2.2.2.toNat, .slice A ks.length c, .int .i64 lo, .int .i64 hi, .int .i64 n] 27)); have hg2 := grown_trans (grown_trans HG.out hg1) ha; have hb2 := (HB.out.grown hg1 (Nat.ne_of_gt hb.out)).grown ha (Nat.ne_of_gt hb.out); have HPS : Hid (∀ W', (wx.alloc (.cells #[.int .i64 kx, .int .u64 S.1.toNat, .int .u64 S.2.1.toNat, .int .u64 S.2.2.1.toNat, .int .u64 S.2.2.2.toNat, .slice A ks.length c, .int .i64 lo, .int .i64 hi, .int .i64 n] 27)).grownBy W' (some b) → Box9 W' wx.heap.size (.int .i64 kx) (.int .u64 S.1.toNat) (.int .u64 S.2.1.toNat) (.int .u64 S.2.2.1.toNat) (.int .u64 S.2.2.2.toNat) (.slice A ks.length c) (.int .i64 lo) (.int .i64 hi) (.int .i64 n)) := Lib.hid (fun W' hg => (Box9.new wx (.int .i64 kx) (.int .u64 S.1.toNat) (.int .u64 S.2.1.toNat) (.int .u64 S.2.2.1.toNat) (.int .u64 S.2.2.2.toNat) (.slice A ks.length c) (.int .i64 lo) (.int .i64 hi) (.int .i64 n)).grown hg (Nat.ne_of_gt (Nat.lt_of_lt_of_le hb.out (Nat.le_trans (Nat.le_succ _) HSZ.out)))); have HKS : Hid (∀ W', (wx.alloc (.cells #[.int .i64 kx, .int .u64 S.1.toNat, .int .u64 S.2.1.toNat, .int .u64 S.2.2.1.toNat, .int .u64 S.2.2.2.toNat, .slice A ks.length c, .int .i64 lo, .int .i64 hi, .int .i64 n] 27)).grownBy W' (some b) → Kids (Fr (w.heap.size + 1) wx.heap.size) W' A (.mk kx S ks lo hi n)) := Lib.hid (fun W' hg => by have hk0 : Kids (Fr (w.heap.size + 1) wx.heap.size) wx A (.mk kx S ks lo hi n) := (by simpa using hkid); exact (hk0.grownF ha (.inl (Nat.lt_succ_of_lt hb.out)) (Nat.le_refl _)).grownF hg (.inl (Nat.lt_succ_of_lt hb.out)) (by simp)); have HGX : Hid ((wx.alloc (.cells #[.int .i64 kx, .int .u64 S.1.toNat, .int .u64 S.2.1.toNat, .int .u64 S.2.2.1.toNat, .int .u64 S.2.2.2.toNat, .slice A ks.length c, .int .i64 lo, .int .i64 hi, .int .i64 n] 27)).grownBy (wx.alloc (.cells #[.int .i64 kx, .int .u64 S.1.toNat, .int .u64 S.2.1.toNat, .int .u64 S.2.2.1.toNat, .int .u64 S.2.2.2.toNat, .slice A ks.length c, .int .i64 lo, .int .i64 hi, .int .i64 n] 27)) (some b)) := Lib.hid (grown_refl _ _); clear HR HG HB; have HR := Lib.hid hr2; have HG := Lib.hid hg2; have HB := Lib.hid hb2; obtain ⟨c0, c1, c2, c3, f1, f2, f3⟩ := hr2; obtain ⟨p0, p1, p2, p3, p4, p5, p6, p7, p8, _⟩ := HPS.out _ HGX.out; obtain ⟨d0, d1, d2, d3, d4, d5, d6, d7, d8, _⟩ := HB.out; obtain ⟨e0, e1, e2, e3, e4, e5, e6, e7, e8⟩ := Box9.freed HB.out; clear hr1 hg1 hsz1 ha hg2 hb2 hkid))
          go_quiet (fail)
          have hrq := HR.out.drews nq
          have hgq := grown_trans HG.out (grown_drews b nq _)
          have hbq := HB.out.low (below_drews _ nq)
          have hxq := grown_trans HGX.out (grown_drews b nq _)
          clear HR HG HB HGX
          have HR := Lib.hid hrq
          have HG := Lib.hid hgq
          have HB := Lib.hid hbq
          have HGX := Lib.hid hxq
          clear hrq hgq hbq hxq
          obtain ⟨c0, c1, c2, c3, f1, f2, f3⟩ := HR.out
          obtain ⟨d0, d1, d2, d3, d4, d5, d6, d7, d8, _⟩ := HB.out; obtain ⟨e0, e1, e2, e3, e4, e5, e6, e7, e8⟩ := Box9.freed HB.out
          obtain ⟨p0, p1, p2, p3, p4, p5, p6, p7, p8, _⟩ := HPS.out _ HGX.out
          go_wp2
          go_quiet (fail)
          have hrq := HR.out.drews nq
          have hgq := grown_trans HG.out (grown_drews b nq _)
          have hbq := HB.out.low (below_drews _ nq)
          have hxq := grown_trans HGX.out (grown_drews b nq _)
          simp only [World.drewN_drewN] at hrq hgq hbq hxq
          clear HR HG HB HGX
          have HR := Lib.hid hrq
          have HG := Lib.hid hgq
          have HB := Lib.hid hbq
          have HGX := Lib.hid hxq
          clear hrq hgq hbq hxq
          obtain ⟨c0, c1, c2, c3, f1, f2, f3⟩ := HR.out
          obtain ⟨d0, d1, d2, d3, d4, d5, d6, d7, d8, _⟩ := HB.out; obtain ⟨e0, e1, e2, e3, e4, e5, e6, e7, e8⟩ := Box9.freed HB.out
          obtain ⟨p0, p1, p2, p3, p4, p5, p6, p7, p8, _⟩ := HPS.out _ HGX.out
          have hpf := Box9.other (HPS.out _ HGX.out) (a := ⟨b, 1, none⟩) (Nat.ne_of_lt (Nat.lt_of_lt_of_le hb.out (Nat.le_trans (Nat.le_succ _) HSZ.out))) (.int .i64 ((q : Int) + 1))
          obtain ⟨P0, P1, P2, P3, P4, P5, P6, P7, P8, _⟩ := hpf
          have hbf := (Box9.other HB.out (a := ⟨b, 1, none⟩) (Nat.ne_of_lt hb.out) (.int .i64 ((q : Int) + 1))).low (one_box _ (.cells #[.int .i64 kx, .int .u64 S.1.toNat, .int .u64 S.2.1.toNat, .int .u64 S.2.2.1.toNat, .int .u64 S.2.2.2.toNat, .slice A ks.length c, .int .i64 lo, .int .i64 hi, .int .i64 n] 27))
          obtain ⟨E0, E1, E2, E3, E4, E5, E6, E7, E8⟩ := Box9.freed hbf
          obtain ⟨D0, D1, D2, D3, D4, D5, D6, D7, D8, _⟩ := hbf
          go_wp2
          have hre := (Rdr.incz HR.out ((q : Int) + 1) rfl).low (one_box _ (.cells #[.int .i64 kx, .int .u64 S.1.toNat, .int .u64 S.2.1.toNat, .int .u64 S.2.2.1.toNat, .int .u64 S.2.2.2.toNat, .slice A ks.length c, .int .i64 lo, .int .i64 hi, .int .i64 n] 27))
          have hge := grown_trans (grown_trans HG.out (grown_set b 1 _ (.int .i64 ((q : Int) + 1)))) (grown_below (one_box _ (.cells #[.int .i64 kx, .int .u64 S.1.toNat, .int .u64 S.2.1.toNat, .int .u64 S.2.2.1.toNat, .int .u64 S.2.2.2.toNat, .slice A ks.length c, .int .i64 lo, .int .i64 hi, .int .i64 n] 27)))
          have hbe := (Box9.other HB.out (a := ⟨b, 1, none⟩) (Nat.ne_of_lt hb.out) (.int .i64 ((q : Int) + 1))).low (one_box _ (.cells #[.int .i64 kx, .int .u64 S.1.toNat, .int .u64 S.2.1.toNat, .int .u64 S.2.2.1.toNat, .int .u64 S.2.2.2.toNat, .slice A ks.length c, .int .i64 lo, .int .i64 hi, .int .i64 n] 27))
          have hxe := grown_trans HGX.out (grown_set b 1 _ (.int .i64 ((q : Int) + 1)))
          obtain ⟨W3, hW3, hbx, hr, hgw⟩ := endT (.int .i64 6) (.int .u64 0) (.int .u64 0) (.int .u64 0) (.int .u64 0) (.slice (some ⟨wx.heap.size + 1, 0, none⟩) 1 1) (.int .i64 0) (.int .i64 1) (.int .i64 0) hb.out hre hge hbe
          have KK : Kids (Fr w.heap.size W3.heap.size) W3 (some ⟨wx.heap.size + 1, 0, none⟩) (.mk 6 none4 [.mk kx S ks lo hi n] 0 1 0) := by
            have hz := HSZ.out
            have hbw := hb.out
            have hs3 := congrArg (fun W => W.heap.size) hW3
            simp only [size_put9] at hs3
            have hs5 : W3.heap.size = wx.heap.size + 2 := by rw [hs3]; simp [World.setCell]
            rw [hs5, hW3]
            have hn9 := box_next hxe (.int .i64 kx) (.int .u64 S.1.toNat) (.int .u64 S.2.1.toNat) (.int .u64 S.2.2.1.toNat) (.int .u64 S.2.2.2.toNat) (.slice A ks.length c) (.int .i64 lo) (.int .i64 hi) (.int .i64 n)
            have hk9 := (HKS.out _ hxe).grownF (b := b) (grown_below (one_box _ (.cells #[.int .i64 kx, .int .u64 S.1.toNat, .int .u64 S.2.1.toNat, .int .u64 S.2.2.1.toNat, .int .u64 S.2.2.2.toNat, .slice A ks.length c, .int .i64 lo, .int .i64 hi, .int .i64 n] 27))) (.inl (Nat.lt_succ_of_lt hb.out)) (by have := hxe.size; first | (simp at this ⊢; done) | (simp at this ⊢; omega))
            refine kids_one (Box9.past (c := wx.heap.size + 1) (by simpa [World.setCell] using hn9) (by omega) _ _ _ _ _ _ _ _ _) ?_ ⟨by omega, by omega⟩ 6 none4 0 1 0
            exact (hk9.put9 (.inl (by omega)) _ _ _ _ _ _ _ _ _).wide (by omega) (by omega)
          unfold put9 at hW3
          rw [← hW3]
          obtain ⟨l0, l1, l2, l3, l4, l5, l6, l7, l8, _⟩ := hbx
          exact bodyPost_ret (v := .agg #[.int .i64 6, .int .u64 0, .int .u64 0, .int .u64 0, .int .u64 0, .slice (some ⟨wx.heap.size + 1, 0, none⟩) 1 1, .int .i64 0, .int .i64 1, .int .i64 0]) (by simp [results, Tryd.results51, go_sem, l0, l1, l2, l3, l4, l5, l6, l7, l8]) rfl (postd_ok HX.out (some ⟨wx.heap.size + 1, 0, none⟩) 1 (by rfl) KK HQ1.out hr hgw)
        · rw [if_neg hrep] at hps
          have HX : Hid (R = .bad q 1) := Lib.hid (by rw [hR, hps])
          have k23 : kx = 2 ∨ kx = 3 := by
            by_cases h2 : kx = 2
            · exact .inl h2
            · by_cases h3 : kx = 3
              · exact .inr h3
              · exact absurd (by simp [rep, Re.kind, h2, h3]) hrep
          have KF := Lib.hid (fail_new 1 1 rfl b s q g')
          subst f
          clear hR hgg sa1 sa2 hst hget hy lit hc hps hrep hq1 hq2 hq3 hsz
          rcases k23 with k2 | k2
          · have t2 : (kx == 2) = true := by simpa using k2
            clear k2
            go_enter Tryd.func51, Tryd.ntmps51
            go_wp2_with (go_at_call 58; (with_reducible refine (KG.out _ HR.out).mono ?_); go_must (rintro _ wx ⟨⟨A, c, he, hkid⟩, hr1, hg1⟩; have he2 : _ = Ending.returned (.agg #[.int .i64 kx, .int .u64 S.1.toNat, .int .u64 S.2.1.toNat, .int .u64 S.2.2.1.toNat, .int .u64 S.2.2.2.toNat, .slice A ks.length c, .int .i64 lo, .int .i64 hi, .int .i64 n]) := he; clear he; subst he2; have hsz1 := hg1.size; have HSZ : Hid (w.heap.size + 1 ≤ wx.heap.size) := Lib.hid (by simpa using hsz1); have ha := grown_below (b := b) (one_box wx (.cells #[.int .i64 kx, .int .u64 S.1.toNat, .int .u64 S.2.1.toNat, .int .u64 S.2.2.1.toNat, .int .u64 S.2.2.2.toNat, .slice A ks.length c, .int .i64 lo, .int .i64 hi, .int .i64 n] 27)); have hr2 := hr1.low (one_box wx (.cells #[.int .i64 kx, .int .u64 S.1.toNat, .int .u64 S.2.1.toNat, .int .u64 S.2.2.1.toNat, .int .u64 S.2.2.2.toNat, .slice A ks.length c, .int .i64 lo, .int .i64 hi, .int .i64 n] 27)); have hg2 := grown_trans (grown_trans HG.out hg1) ha; have hb2 := (HB.out.grown hg1 (Nat.ne_of_gt hb.out)).grown ha (Nat.ne_of_gt hb.out); have HPS : Hid (∀ W', (wx.alloc (.cells #[.int .i64 kx, .int .u64 S.1.toNat, .int .u64 S.2.1.toNat, .int .u64 S.2.2.1.toNat, .int .u64 S.2.2.2.toNat, .slice A ks.length c, .int .i64 lo, .int .i64 hi, .int .i64 n] 27)).grownBy W' (some b) → Box9 W' wx.heap.size (.int .i64 kx) (.int .u64 S.1.toNat) (.int .u64 S.2.1.toNat) (.int .u64 S.2.2.1.toNat) (.int .u64 S.2.2.2.toNat) (.slice A ks.length c) (.int .i64 lo) (.int .i64 hi) (.int .i64 n)) := Lib.hid (fun W' hg => (Box9.new wx (.int .i64 kx) (.int .u64 S.1.toNat) (.int .u64 S.2.1.toNat) (.int .u64 S.2.2.1.toNat) (.int .u64 S.2.2.2.toNat) (.slice A ks.length c) (.int .i64 lo) (.int .i64 hi) (.int .i64 n)).grown hg (Nat.ne_of_gt (Nat.lt_of_lt_of_le hb.out (Nat.le_trans (Nat.le_succ _) HSZ.out)))); have HKS : Hid (∀ W', (wx.alloc (.cells #[.int .i64 kx, .int .u64 S.1.toNat, .int .u64 S.2.1.toNat, .int .u64 S.2.2.1.toNat, .int .u64 S.2.2.2.toNat, .slice A ks.length c, .int .i64 lo, .int .i64 hi, .int .i64 n] 27)).grownBy W' (some b) → Kids (Fr (w.heap.size + 1) wx.heap.size) W' A (.mk kx S ks lo hi n)) := Lib.hid (fun W' hg => by have hk0 : Kids (Fr (w.heap.size + 1) wx.heap.size) wx A (.mk kx S ks lo hi n) := (by simpa using hkid); exact (hk0.grownF ha (.inl (Nat.lt_succ_of_lt hb.out)) (Nat.le_refl _)).grownF hg (.inl (Nat.lt_succ_of_lt hb.out)) (by simp)); have HGX : Hid ((wx.alloc (.cells #[.int .i64 kx, .int .u64 S.1.toNat, .int .u64 S.2.1.toNat, .int .u64 S.2.2.1.toNat, .int .u64 S.2.2.2.toNat, .slice A ks.length c, .int .i64 lo, .int .i64 hi, .int .i64 n] 27)).grownBy (wx.alloc (.cells #[.int .i64 kx, .int .u64 S.1.toNat, .int .u64 S.2.1.toNat, .int .u64 S.2.2.1.toNat, .int .u64 S.2.2.2.toNat, .slice A ks.length c, .int .i64 lo, .int .i64 hi, .int .i64 n] 27)) (some b)) := Lib.hid (grown_refl _ _); clear HR HG HB; have HR := Lib.hid hr2; have HG := Lib.hid hg2; have HB := Lib.hid hb2; obtain ⟨c0, c1, c2, c3, f1, f2, f3⟩ := hr2; obtain ⟨p0, p1, p2, p3, p4, p5, p6, p7, p8, _⟩ := HPS.out _ HGX.out; obtain ⟨d0, d1, d2, d3, d4, d5, d6, d7, d8, _⟩ := HB.out; obtain ⟨e0, e1, e2, e3, e4, e5, e6, e7, e8⟩ := Box9.freed HB.out; clear hr1 hg1 hsz1 ha hg2 hb2 hkid))
            go_quiet (fail)
            have hrq := HR.out.drews nq
            have hgq := grown_trans HG.out (grown_drews b nq _)
            have hbq := HB.out.low (below_drews _ nq)
            have hxq := grown_trans HGX.out (grown_drews b nq _)
            clear HR HG HB HGX
            have HR := Lib.hid hrq
            have HG := Lib.hid hgq
            have HB := Lib.hid hbq
            have HGX := Lib.hid hxq
            clear hrq hgq hbq hxq
            obtain ⟨c0, c1, c2, c3, f1, f2, f3⟩ := HR.out
            obtain ⟨d0, d1, d2, d3, d4, d5, d6, d7, d8, _⟩ := HB.out; obtain ⟨e0, e1, e2, e3, e4, e5, e6, e7, e8⟩ := Box9.freed HB.out
            obtain ⟨p0, p1, p2, p3, p4, p5, p6, p7, p8, _⟩ := HPS.out _ HGX.out
            go_wp2
            go_quiet (fail)
            have hrq := HR.out.drews nq
            have hgq := grown_trans HG.out (grown_drews b nq _)
            have hbq := HB.out.low (below_drews _ nq)
            have hxq := grown_trans HGX.out (grown_drews b nq _)
            simp only [World.drewN_drewN] at hrq hgq hbq hxq
            clear HR HG HB HGX
            have HR := Lib.hid hrq
            have HG := Lib.hid hgq
            have HB := Lib.hid hbq
            have HGX := Lib.hid hxq
            clear hrq hgq hbq hxq
            obtain ⟨c0, c1, c2, c3, f1, f2, f3⟩ := HR.out
            obtain ⟨d0, d1, d2, d3, d4, d5, d6, d7, d8, _⟩ := HB.out; obtain ⟨e0, e1, e2, e3, e4, e5, e6, e7, e8⟩ := Box9.freed HB.out
            obtain ⟨p0, p1, p2, p3, p4, p5, p6, p7, p8, _⟩ := HPS.out _ HGX.out
            go_wp2_with (go_at_call 25; (with_reducible refine (Hid.out KF _ (Hid.out HR)).mono ?_); go_must (rintro _ wv ⟨he, hr1, hg1⟩; subst he; have hg2 := grown_trans (Hid.out HG) hg1; have hb2 := Box9.grown (Hid.out HB) hg1 (Nat.ne_of_gt (Hid.out hb)); have hx2 := grown_trans (Hid.out HGX) hg1; clear HGX; have HGX := Lib.hid hx2; obtain ⟨p0, p1, p2, p3, p4, p5, p6, p7, p8, _⟩ := HPS.out _ hx2; clear HR; have HR := Lib.hid hr1; clear HG; have HG := Lib.hid hg2; clear HB; have HB := Lib.hid hb2; obtain ⟨c0, c1, c2, c3, f1, f2, f3⟩ := hr1; obtain ⟨d0, d1, d2, d3, d4, d5, d6, d7, d8, _⟩ := HB.out; obtain ⟨e0, e1, e2, e3, e4, e5, e6, e7, e8⟩ := Box9.freed HB.out; clear hg1 hg2 hb2))
            obtain ⟨W3, hW3, hbx, hr, hgw⟩ := endT (.int .i64 kx) (.int .u64 S.1.toNat) (.int .u64 S.2.1.toNat) (.int .u64 S.2.2.1.toNat) (.int .u64 S.2.2.2.toNat) (.slice A ks.length c) (.int .i64 lo) (.int .i64 hi) (.int .i64 n) hb.out HR.out HG.out HB.out
            have KK : Kids (Fr w.heap.size W3.heap.size) W3 A (.mk kx S ks lo hi n) := by
              have hs2 := hgw.size
              have hz := HSZ.out
              have hbw := hb.out
              have hsx := HGX.out.size
              have hs3 := congrArg (fun W => W.heap.size) hW3
              simp only [size_put9] at hs3
              have hs4 : (wx.alloc (.cells #[.int .i64 kx, .int .u64 S.1.toNat, .int .u64 S.2.1.toNat, .int .u64 S.2.2.1.toNat, .int .u64 S.2.2.2.toNat, .slice A ks.length c, .int .i64 lo, .int .i64 hi, .int .i64 n] 27)).heap.size = wx.heap.size + 1 := by simp
              rw [hW3]
              exact ((HKS.out _ HGX.out).put9 (.inl (by omega)) _ _ _ _ _ _ _ _ _).wide (by omega) (by rw [size_put9]; omega)
            unfold put9 at hW3
            rw [← hW3]
            obtain ⟨l0, l1, l2, l3, l4, l5, l6, l7, l8, _⟩ := hbx
            exact bodyPost_ret (v := .agg #[.int .i64 kx, .int .u64 S.1.toNat, .int .u64 S.2.1.toNat, .int .u64 S.2.2.1.toNat, .int .u64 S.2.2.2.toNat, .slice A ks.length c, .int .i64 lo, .int .i64 hi, .int .i64 n]) (by simp [results, Tryd.results51, go_sem, l0, l1, l2, l3, l4, l5, l6, l7, l8]) rfl (postd_bad HX.out (.mk kx S ks lo hi n) A c (by rfl) KK (by rfl) (by exact .inl rfl) hr hgw)
          · have t2 : (kx == 3) = true := by simpa using k2
            have t3 : (kx == 2) = false := by simp; omega
            clear k2
            go_enter Tryd.func51, Tryd.ntmps51
            go_wp2_with (go_at_call 58; (with_reducible refine (KG.out _ HR.out).mono ?_); go_must (rintro _ wx ⟨⟨A, c, he, hkid⟩, hr1, hg1⟩; have he2 : _ = Ending.returned (.agg #[.int .i64 kx, .int .u64 S.1.toNat, .int .u64 S.2.1.toNat, .int .u64 S.2.2.1.toNat, .int .u64 S.2.2.2.toNat, .slice A ks.length c, .int .i64 lo, .int .i64 hi, .int .i64 n]) := he; clear he; subst he2; have hsz1 := hg1.size; have HSZ : Hid (w.heap.size + 1 ≤ wx.heap.size) := Lib.hid (by simpa using hsz1); have ha := grown_below (b := b) (one_box wx (.cells #[.int .i64 kx, .int .u64 S.1.toNat, .int .u64 S.2.1.toNat, .int .u64 S.2.2.1.toNat, .int .u64 S.2.2.2.toNat, .slice A ks.length c, .int .i64 lo, .int .i64 hi, .int .i64 n] 27)); have hr2 := hr1.low (one_box wx (.cells #[.int .i64 kx, .int .u64 S.1.toNat, .int .u64 S.2.1.toNat, .int .u64 S.2.2.1.toNat, .int .u64 S.2.2.2.toNat, .slice A ks.length c, .int .i64 lo, .int .i64 hi, .int .i64 n] 27)); have hg2 := grown_trans (grown_trans HG.out hg1) ha; have hb2 := (HB.out.grown hg1 (Nat.ne_of_gt hb.out)).grown ha (Nat.ne_of_gt hb.out); have HPS : Hid (∀ W', (wx.alloc (.cells #[.int .i64 kx, .int .u64 S.1.toNat, .int .u64 S.2.1.toNat, .int .u64 S.2.2.1.toNat, .int .u64 S.2.2.2.toNat, .slice A ks.length c, .int .i64 lo, .int .i64 hi, .int .i64 n] 27)).grownBy W' (some b) → Box9 W' wx.heap.size (.int .i64 kx) (.int .u64 S.1.toNat) (.int .u64 S.2.1.toNat) (.int .u64 S.2.2.1.toNat) (.int .u64 S.2.2.2.toNat) (.slice A ks.length c) (.int .i64 lo) (.int .i64 hi) (.int .i64 n)) := Lib.hid (fun W' hg => (Box9.new wx (.int .i64 kx) (.int .u64 S.1.toNat) (.int .u64 S.2.1.toNat) (.int .u64 S.2.2.1.toNat) (.int .u64 S.2.2.2.toNat) (.slice A ks.length c) (.int .i64 lo) (.int .i64 hi) (.int .i64 n)).grown hg (Nat.ne_of_gt (Nat.lt_of_lt_of_le hb.out (Nat.le_trans (Nat.le_succ _) HSZ.out)))); have HKS : Hid (∀ W', (wx.alloc (.cells #[.int .i64 kx, .int .u64 S.1.toNat, .int .u64 S.2.1.toNat, .int .u64 S.2.2.1.toNat, .int .u64 S.2.2.2.toNat, .slice A ks.length c, .int .i64 lo, .int .i64 hi, .int .i64 n] 27)).grownBy W' (some b) → Kids (Fr (w.heap.size + 1) wx.heap.size) W' A (.mk kx S ks lo hi n)) := Lib.hid (fun W' hg => by have hk0 : Kids (Fr (w.heap.size + 1) wx.heap.size) wx A (.mk kx S ks lo hi n) := (by simpa using hkid); exact (hk0.grownF ha (.inl (Nat.lt_succ_of_lt hb.out)) (Nat.le_refl _)).grownF hg (.inl (Nat.lt_succ_of_lt hb.out)) (by simp)); have HGX : Hid ((wx.alloc (.cells #[.int .i64 kx, .int .u64 S.1.toNat, .int .u64 S.2.1.toNat, .int .u64 S.2.2.1.toNat, .int .u64 S.2.2.2.toNat, .slice A ks.length c, .int .i64 lo, .int .i64 hi, .int .i64 n] 27)).grownBy (wx.alloc (.cells #[.int .i64 kx, .int .u64 S.1.toNat, .int .u64 S.2.1.toNat, .int .u64 S.2.2.1.toNat, .int .u64 S.2.2.2.toNat, .slice A ks.length c, .int .i64 lo, .int .i64 hi, .int .i64 n] 27)) (some b)) := Lib.hid (grown_refl _ _); clear HR HG HB; have HR := Lib.hid hr2; have HG := Lib.hid hg2; have HB := Lib.hid hb2; obtain ⟨c0, c1, c2, c3, f1, f2, f3⟩ := hr2; obtain ⟨p0, p1, p2, p3, p4, p5, p6, p7, p8, _⟩ := HPS.out _ HGX.out; obtain ⟨d0, d1, d2, d3, d4, d5, d6, d7, d8, _⟩ := HB.out; obtain ⟨e0, e1, e2, e3, e4, e5, e6, e7, e8⟩ := Box9.freed HB.out; clear hr1 hg1 hsz1 ha hg2 hb2 hkid))
            go_quiet (fail)
            have hrq := HR.out.drews nq
            have hgq := grown_trans HG.out (grown_drews b nq _)
            have hbq := HB.out.low (below_drews _ nq)
            have hxq := grown_trans HGX.out (grown_drews b nq _)
            clear HR HG HB HGX
            have HR := Lib.hid hrq
            have HG := Lib.hid hgq
            have HB := Lib.hid hbq
            have HGX := Lib.hid hxq
            clear hrq hgq hbq hxq
            obtain ⟨c0, c1, c2, c3, f1, f2, f3⟩ := HR.out
            obtain ⟨d0, d1, d2, d3, d4, d5, d6, d7, d8, _⟩ := HB.out; obtain ⟨e0, e1, e2, e3, e4, e5, e6, e7, e8⟩ := Box9.freed HB.out
            obtain ⟨p0, p1, p2, p3, p4, p5, p6, p7, p8, _⟩ := HPS.out _ HGX.out
            go_wp2
            go_quiet (fail)
            have hrq := HR.out.drews nq
            have hgq := grown_trans HG.out (grown_drews b nq _)
            have hbq := HB.out.low (below_drews _ nq)
            have hxq := grown_trans HGX.out (grown_drews b nq _)
            simp only [World.drewN_drewN] at hrq hgq hbq hxq
            clear HR HG HB HGX
            have HR := Lib.hid hrq
            have HG := Lib.hid hgq
            have HB := Lib.hid hbq
            have HGX := Lib.hid hxq
            clear hrq hgq hbq hxq
            obtain ⟨c0, c1, c2, c3, f1, f2, f3⟩ := HR.out
            obtain ⟨d0, d1, d2, d3, d4, d5, d6, d7, d8, _⟩ := HB.out; obtain ⟨e0, e1, e2, e3, e4, e5, e6, e7, e8⟩ := Box9.freed HB.out
            obtain ⟨p0, p1, p2, p3, p4, p5, p6, p7, p8, _⟩ := HPS.out _ HGX.out
            go_wp2_with (go_at_call 25; (with_reducible refine (Hid.out KF _ (Hid.out HR)).mono ?_); go_must (rintro _ wv ⟨he, hr1, hg1⟩; subst he; have hg2 := grown_trans (Hid.out HG) hg1; have hb2 := Box9.grown (Hid.out HB) hg1 (Nat.ne_of_gt (Hid.out hb)); have hx2 := grown_trans (Hid.out HGX) hg1; clear HGX; have HGX := Lib.hid hx2; obtain ⟨p0, p1, p2, p3, p4, p5, p6, p7, p8, _⟩ := HPS.out _ hx2; clear HR; have HR := Lib.hid hr1; clear HG; have HG := Lib.hid hg2; clear HB; have HB := Lib.hid hb2; obtain ⟨c0, c1, c2, c3, f1, f2, f3⟩ := hr1; obtain ⟨d0, d1, d2, d3, d4, d5, d6, d7, d8, _⟩ := HB.out; obtain ⟨e0, e1, e2, e3, e4, e5, e6, e7, e8⟩ := Box9.freed HB.out; clear hg1 hg2 hb2))
            obtain ⟨W3, hW3, hbx, hr, hgw⟩ := endT (.int .i64 kx) (.int .u64 S.1.toNat) (.int .u64 S.2.1.toNat) (.int .u64 S.2.2.1.toNat) (.int .u64 S.2.2.2.toNat) (.slice A ks.length c) (.int .i64 lo) (.int .i64 hi) (.int .i64 n) hb.out HR.out HG.out HB.out
            have KK : Kids (Fr w.heap.size W3.heap.size) W3 A (.mk kx S ks lo hi n) := by
              have hs2 := hgw.size
              have hz := HSZ.out
              have hbw := hb.out
              have hsx := HGX.out.size
              have hs3 := congrArg (fun W => W.heap.size) hW3
              simp only [size_put9] at hs3
              have hs4 : (wx.alloc (.cells #[.int .i64 kx, .int .u64 S.1.toNat, .int .u64 S.2.1.toNat, .int .u64 S.2.2.1.toNat, .int .u64 S.2.2.2.toNat, .slice A ks.length c, .int .i64 lo, .int .i64 hi, .int .i64 n] 27)).heap.size = wx.heap.size + 1 := by simp
              rw [hW3]
              exact ((HKS.out _ HGX.out).put9 (.inl (by omega)) _ _ _ _ _ _ _ _ _).wide (by omega) (by rw [size_put9]; omega)
            unfold put9 at hW3
            rw [← hW3]
            obtain ⟨l0, l1, l2, l3, l4, l5, l6, l7, l8, _⟩ := hbx
            exact bodyPost_ret (v := .agg #[.int .i64 kx, .int .u64 S.1.toNat, .int .u64 S.2.1.toNat, .int .u64 S.2.2.1.toNat, .int .u64 S.2.2.2.toNat, .slice A ks.length c, .int .i64 lo, .int .i64 hi, .int .i64 n]) (by simp [results, Tryd.results51, go_sem, l0, l1, l2, l3, l4, l5, l6, l7, l8]) rfl (postd_bad HX.out (.mk kx S ks lo hi n) A c (by rfl) KK (by rfl) (by exact .inl rfl) hr hgw)
      by_cases g123 : y = 123
      · have f := g123
        have hc := lit 123 f
        rw [hc] at hget
        have hps := piece_sign hgg hget (by decide)
        by_cases hrep : rep (.mk kx S ks lo hi n) = true
        · rw [if_pos hrep] at hps
          have k23 : ¬ kx = 2 ∧ ¬ kx = 3 := by simpa [rep, Re.kind] using hrep
          have t2 : (kx == 2) = false := by simpa using k23.1
          have t3 : (kx == 3) = false := by simpa using k23.2
          unfold tailP at hps
          rw [hget, if_neg (by decide), if_neg (by decide), if_neg (by decide), if_pos rfl] at hps
          have hbd := bnds_bd (s := s.data.toList) (k := q + 1) (by omega)
          rcases hbn : bnds s.data.toList (q + 1) with p | ⟨pr, p⟩
          · rw [hbn] at hps hbd
            dsimp only at hps hbd
            have KB := Lib.hid (br_bad b g' hbn (by omega) (by omega))
            have HX : Hid (R = .bad p 1) := Lib.hid (by rw [hR, hps])
            subst f
            clear hR hgg sa1 sa2 hst hget hy lit hc hps hrep k23 hq1 hq2 hq3 hsz hbn hbd
            go_enter Tryd.func51, Tryd.ntmps51
            go_wp2_with (go_at_call 58; (with_reducible refine (KG.out _ HR.out).mono ?_); go_must (rintro _ wx ⟨⟨A, c, he, hkid⟩, hr1, hg1⟩; have he2 : _ = Ending.returned (.agg #[.int .i64 kx, .int .u64 S.1.toNat, .int .u64 S.2.1.toNat, .int .u64 S.2.2.1.toNat, .int .u64 S.2.2.2.toNat, .slice A ks.length c, .int .i64 lo, .int .i64 hi, .int .i64 n]) := he; clear he; subst he2; have hsz1 := hg1.size; have HSZ : Hid (w.heap.size + 1 ≤ wx.heap.size) := Lib.hid (by simpa using hsz1); have ha := grown_below (b := b) (one_box wx (.cells #[.int .i64 kx, .int .u64 S.1.toNat, .int .u64 S.2.1.toNat, .int .u64 S.2.2.1.toNat, .int .u64 S.2.2.2.toNat, .slice A ks.length c, .int .i64 lo, .int .i64 hi, .int .i64 n] 27)); have hr2 := hr1.low (one_box wx (.cells #[.int .i64 kx, .int .u64 S.1.toNat, .int .u64 S.2.1.toNat, .int .u64 S.2.2.1.toNat, .int .u64 S.2.2.2.toNat, .slice A ks.length c, .int .i64 lo, .int .i64 hi, .int .i64 n] 27)); have hg2 := grown_trans (grown_trans HG.out hg1) ha; have hb2 := (HB.out.grown hg1 (Nat.ne_of_gt hb.out)).grown ha (Nat.ne_of_gt hb.out); have HPS : Hid (∀ W', (wx.alloc (.cells #[.int .i64 kx, .int .u64 S.1.toNat, .int .u64 S.2.1.toNat, .int .u64 S.2.2.1.toNat, .int .u64 S.2.2.2.toNat, .slice A ks.length c, .int .i64 lo, .int .i64 hi, .int .i64 n] 27)).grownBy W' (some b) → Box9 W' wx.heap.size (.int .i64 kx) (.int .u64 S.1.toNat) (.int .u64 S.2.1.toNat) (.int .u64 S.2.2.1.toNat) (.int .u64 S.2.2.2.toNat) (.slice A ks.length c) (.int .i64 lo) (.int .i64 hi) (.int .i64 n)) := Lib.hid (fun W' hg => (Box9.new wx (.int .i64 kx) (.int .u64 S.1.toNat) (.int .u64 S.2.1.toNat) (.int .u64 S.2.2.1.toNat) (.int .u64 S.2.2.2.toNat) (.slice A ks.length c) (.int .i64 lo) (.int .i64 hi) (.int .i64 n)).grown hg (Nat.ne_of_gt (Nat.lt_of_lt_of_le hb.out (Nat.le_trans (Nat.le_succ _) HSZ.out)))); have HKS : Hid (∀ W', (wx.alloc (.cells #[.int .i64 kx, .int .u64 S.1.toNat, .int .u64 S.2.1.toNat, .int .u64 S.2.2.1.toNat, .int .u64 S.2.2.2.toNat, .slice A ks.length c, .int .i64 lo, .int .i64 hi, .int .i64 n] 27)).grownBy W' (some b) → Kids (Fr (w.heap.size + 1) wx.heap.size) W' A (.mk kx S ks lo hi n)) := Lib.hid (fun W' hg => by have hk0 : Kids (Fr (w.heap.size + 1) wx.heap.size) wx A (.mk kx S ks lo hi n) := (by simpa using hkid); exact (hk0.grownF ha (.inl (Nat.lt_succ_of_lt hb.out)) (Nat.le_refl _)).grownF hg (.inl (Nat.lt_succ_of_lt hb.out)) (by simp)); have HGX : Hid ((wx.alloc (.cells #[.int .i64 kx, .int .u64 S.1.toNat, .int .u64 S.2.1.toNat, .int .u64 S.2.2.1.toNat, .int .u64 S.2.2.2.toNat, .slice A ks.length c, .int .i64 lo, .int .i64 hi, .int .i64 n] 27)).grownBy (wx.alloc (.cells #[.int .i64 kx, .int .u64 S.1.toNat, .int .u64 S.2.1.toNat, .int .u64 S.2.2.1.toNat, .int .u64 S.2.2.2.toNat, .slice A ks.length c, .int .i64 lo, .int .i64 hi, .int .i64 n] 27)) (some b)) := Lib.hid (grown_refl _ _); clear HR HG HB; have HR := Lib.hid hr2; have HG := Lib.hid hg2; have HB := Lib.hid hb2; obtain ⟨c0, c1, c2, c3, f1, f2, f3⟩ := hr2; obtain ⟨p0, p1, p2, p3, p4, p5, p6, p7, p8, _⟩ := HPS.out _ HGX.out; obtain ⟨d0, d1, d2, d3, d4, d5, d6, d7, d8, _⟩ := HB.out; obtain ⟨e0, e1, e2, e3, e4, e5, e6, e7, e8⟩ := Box9.freed HB.out; clear hr1 hg1 hsz1 ha hg2 hb2 hkid))
            go_quiet (fail)
            have hrq := HR.out.drews nq
            have hgq := grown_trans HG.out (grown_drews b nq _)
            have hbq := HB.out.low (below_drews _ nq)
            have hxq := grown_trans HGX.out (grown_drews b nq _)
            clear HR HG HB HGX
            have HR := Lib.hid hrq
            have HG := Lib.hid hgq
            have HB := Lib.hid hbq
            have HGX := Lib.hid hxq
            clear hrq hgq hbq hxq
            obtain ⟨c0, c1, c2, c3, f1, f2, f3⟩ := HR.out
            obtain ⟨d0, d1, d2, d3, d4, d5, d6, d7, d8, _⟩ := HB.out; obtain ⟨e0, e1, e2, e3, e4, e5, e6, e7, e8⟩ := Box9.freed HB.out
            obtain ⟨p0, p1, p2, p3, p4, p5, p6, p7, p8, _⟩ := HPS.out _ HGX.out
            go_wp2
            go_quiet (fail)
            have hrq := HR.out.drews nq
            have hgq := grown_trans HG.out (grown_drews b nq _)
            have hbq := HB.out.low (below_drews _ nq)
            have hxq := grown_trans HGX.out (grown_drews b nq _)
            simp only [World.drewN_drewN] at hrq hgq hbq hxq
            clear HR HG HB HGX
            have HR := Lib.hid hrq
            have HG := Lib.hid hgq
            have HB := Lib.hid hbq
            have HGX := Lib.hid hxq
            clear hrq hgq hbq hxq
            obtain ⟨c0, c1, c2, c3, f1, f2, f3⟩ := HR.out
            obtain ⟨d0, d1, d2, d3, d4, d5, d6, d7, d8, _⟩ := HB.out; obtain ⟨e0, e1, e2, e3, e4, e5, e6, e7, e8⟩ := Box9.freed HB.out
            obtain ⟨p0, p1, p2, p3, p4, p5, p6, p7, p8, _⟩ := HPS.out _ HGX.out
            go_wp2_with (go_at_call 59; (with_reducible refine (Hid.out KB _ (Rdr.incz (Hid.out HR) _ ?_)).mono ?_); (omega); go_must (rintro _ wv ⟨he, hr1, hg1⟩; subst he; have hg2 := grown_trans (grown_trans (Hid.out HG) (grown_set b 1 _ _)) hg1; have hb2 := Box9.grown (Box9.other (Hid.out HB) (Nat.ne_of_lt (Hid.out hb)) _) hg1 (Nat.ne_of_gt (Hid.out hb)); have hx2 := grown_trans (grown_trans (Hid.out HGX) (grown_set b 1 _ _)) hg1; clear HGX; have HGX := Lib.hid hx2; obtain ⟨p0, p1, p2, p3, p4, p5, p6, p7, p8, _⟩ := HPS.out _ hx2; have hbf := (Box9.grown (Box9.other (Hid.out HB) (Nat.ne_of_lt (Hid.out hb)) _) hg1 (Nat.ne_of_gt (Hid.out hb))).low (one_box _ (.cells #[.int .i64 kx, .int .u64 S.1.toNat, .int .u64 S.2.1.toNat, .int .u64 S.2.2.1.toNat, .int .u64 S.2.2.2.toNat, .slice A ks.length c, .int .i64 lo, .int .i64 hi, .int .i64 n] 27)); obtain ⟨E0, E1, E2, E3, E4, E5, E6, E7, E8⟩ := Box9.freed hbf; obtain ⟨D0, D1, D2, D3, D4, D5, D6, D7, D8, _⟩ := hbf; clear HR; have HR := Lib.hid hr1; clear HG; have HG := Lib.hid hg2; clear HB; have HB := Lib.hid hb2; obtain ⟨c0, c1, c2, c3, f1, f2, f3⟩ := hr1; obtain ⟨d0, d1, d2, d3, d4, d5, d6, d7, d8, _⟩ := HB.out; obtain ⟨e0, e1, e2, e3, e4, e5, e6, e7, e8⟩ := Box9.freed HB.out; clear hg1 hg2 hb2))
            have hre := HR.out.low (one_box _ (.cells #[.int .i64 kx, .int .u64 S.1.toNat, .int .u64 S.2.1.toNat, .int .u64 S.2.2.1.toNat, .int .u64 S.2.2.2.toNat, .slice A ks.length c, .int .i64 lo, .int .i64 hi, .int .i64 n] 27))
            have hge := grown_trans HG.out (grown_below (one_box _ (.cells #[.int .i64 kx, .int .u64 S.1.toNat, .int .u64 S.2.1.toNat, .int .u64 S.2.2.1.toNat, .int .u64 S.2.2.2.toNat, .slice A ks.length c, .int .i64 lo, .int .i64 hi, .int .i64 n] 27)))
            have hbe := HB.out.low (one_box _ (.cells #[.int .i64 kx, .int .u64 S.1.toNat, .int .u64 S.2.1.toNat, .int .u64 S.2.2.1.toNat, .int .u64 S.2.2.2.toNat, .slice A ks.length c, .int .i64 lo, .int .i64 hi, .int .i64 n] 27))
            have hxe := HGX.out
            obtain ⟨W3, hW3, hbx, hr, hgw⟩ := endT (.int .i64 6) (.int .u64 0) (.int .u64 0) (.int .u64 0) (.int .u64 0) (.slice (some ⟨wv.heap.size, 0, none⟩) 1 1) (.int .i64 0) (.int .i64 0) (.int .i64 0) hb.out hre hge hbe
            have KK : Kids (Fr w.heap.size W3.heap.size) W3 (some ⟨wv.heap.size, 0, none⟩) (.mk 6 none4 [.mk kx S ks lo hi n] 0 0 0) := by
              have hz := HSZ.out
              have hbw := hb.out
              have hsx := hxe.size
              have hs4 : (wx.alloc (.cells #[.int .i64 kx, .int .u64 S.1.toNat, .int .u64 S.2.1.toNat, .int .u64 S.2.2.1.toNat, .int .u64 S.2.2.2.toNat, .slice A ks.length c, .int .i64 lo, .int .i64 hi, .int .i64 n] 27)).heap.size = wx.heap.size + 1 := by simp
              rw [hs4] at hsx
              have hs3 := congrArg (fun W => W.heap.size) hW3
              simp only [size_put9, World.size_alloc] at hs3
              rw [hs3, hW3]
              have hn9 := Box9.new wv (.int .i64 kx) (.int .u64 S.1.toNat) (.int .u64 S.2.1.toNat) (.int .u64 S.2.2.1.toNat) (.int .u64 S.2.2.2.toNat) (.slice A ks.length c) (.int .i64 lo) (.int .i64 hi) (.int .i64 n)
              have hk9 := (HKS.out _ hxe).grownF (b := b) (grown_below (one_box _ (.cells #[.int .i64 kx, .int .u64 S.1.toNat, .int .u64 S.2.1.toNat, .int .u64 S.2.2.1.toNat, .int .u64 S.2.2.2.toNat, .slice A ks.length c, .int .i64 lo, .int .i64 hi, .int .i64 n] 27))) (.inl (Nat.lt_succ_of_lt hb.out)) (by omega)
              refine kids_one (hn9.past (by omega) _ _ _ _ _ _ _ _ _) ?_ ⟨by omega, by omega⟩ 6 none4 0 0 0
              exact (hk9.put9 (.inl (by omega)) _ _ _ _ _ _ _ _ _).wide (by omega) (by omega)
            unfold put9 at hW3
            rw [← hW3]
            obtain ⟨l0, l1, l2, l3, l4, l5, l6, l7, l8, _⟩ := hbx
            exact bodyPost_ret (v := .agg #[.int .i64 6, .int .u64 0, .int .u64 0, .int .u64 0, .int .u64 0, .slice (some ⟨wv.heap.size, 0, none⟩) 1 1, .int .i64 0, .int .i64 0, .int .i64 0]) (by simp [results, Tryd.results51, go_sem, l0, l1, l2, l3, l4, l5, l6, l7, l8]) rfl (postd_bad HX.out (.mk 6 none4 [.mk kx S ks lo hi n] 0 0 0) (some ⟨wv.heap.size, 0, none⟩) 1 (by rfl) KK (by rfl) (by exact .inl rfl) hr hgw)
          · rw [hbn] at hps hbd
            dsimp only at hps hbd
            have KB := Lib.hid (br_ok b g' hbn (by omega) (by omega))
            have HX : Hid (R = .ok (.mk 6 none4 [.mk kx S ks lo hi n] pr.1 pr.2 0) p g') := Lib.hid (by rw [hR, hps]; rfl)
            have HQ1 : Hid (g' ≤ p) := Lib.hid (by omega)
            subst f
            clear hR hgg sa1 sa2 hst hget hy lit hc hps hrep k23 hq1 hq2 hq3 hsz hbn hbd
            go_enter Tryd.func51, Tryd.ntmps51
            go_wp2_with (go_at_call 58; (with_reducible refine (KG.out _ HR.out).mono ?_); go_must (rintro _ wx ⟨⟨A, c, he, hkid⟩, hr1, hg1⟩; have he2 : _ = Ending.returned (.agg #[.int .i64 kx, .int .u64 S.1.toNat, .int .u64 S.2.1.toNat, .int .u64 S.2.2.1.toNat, .int .u64 S.2.2.2.toNat, .slice A ks.length c, .int .i64 lo, .int .i64 hi, .int .i64 n]) := he; clear he; subst he2; have hsz1 := hg1.size; have HSZ : Hid (w.heap.size + 1 ≤ wx.heap.size) := Lib.hid (by simpa using hsz1); have ha := grown_below (b := b) (one_box wx (.cells #[.int .i64 kx, .int .u64 S.1.toNat, .int .u64 S.2.1.toNat, .int .u64 S.2.2.1.toNat, .int .u64 S.2.2.2.toNat, .slice A ks.length c, .int .i64 lo, .int .i64 hi, .int .i64 n] 27)); have hr2 := hr1.low (one_box wx (.cells #[.int .i64 kx, .int .u64 S.1.toNat, .int .u64 S.2.1.toNat, .int .u64 S.2.2.1.toNat, .int .u64 S.2.2.2.toNat, .slice A ks.length c, .int .i64 lo, .int .i64 hi, .int .i64 n] 27)); have hg2 := grown_trans (grown_trans HG.out hg1) ha; have hb2 := (HB.out.grown hg1 (Nat.ne_of_gt hb.out)).grown ha (Nat.ne_of_gt hb.out); have HPS : Hid (∀ W', (wx.alloc (.cells #[.int .i64 kx, .int .u64 S.1.toNat, .int .u64 S.2.1.toNat, .int .u64 S.2.2.1.toNat, .int .u64 S.2.2.2.toNat, .slice A ks.length c, .int .i64 lo, .int .i64 hi, .int .i64 n] 27)).grownBy W' (some b) → Box9 W' wx.heap.size (.int .i64 kx) (.int .u64 S.1.toNat) (.int .u64 S.2.1.toNat) (.int .u64 S.2.2.1.toNat) (.int .u64 S.2.2.2.toNat) (.slice A ks.length c) (.int .i64 lo) (.int .i64 hi) (.int .i64 n)) := Lib.hid (fun W' hg => (Box9.new wx (.int .i64 kx) (.int .u64 S.1.toNat) (.int .u64 S.2.1.toNat) (.int .u64 S.2.2.1.toNat) (.int .u64 S.2.2.2.toNat) (.slice A ks.length c) (.int .i64 lo) (.int .i64 hi) (.int .i64 n)).grown hg (Nat.ne_of_gt (Nat.lt_of_lt_of_le hb.out (Nat.le_trans (Nat.le_succ _) HSZ.out)))); have HKS : Hid (∀ W', (wx.alloc (.cells #[.int .i64 kx, .int .u64 S.1.toNat, .int .u64 S.2.1.toNat, .int .u64 S.2.2.1.toNat, .int .u64 S.2.2.2.toNat, .slice A ks.length c, .int .i64 lo, .int .i64 hi, .int .i64 n] 27)).grownBy W' (some b) → Kids (Fr (w.heap.size + 1) wx.heap.size) W' A (.mk kx S ks lo hi n)) := Lib.hid (fun W' hg => by have hk0 : Kids (Fr (w.heap.size + 1) wx.heap.size) wx A (.mk kx S ks lo hi n) := (by simpa using hkid); exact (hk0.grownF ha (.inl (Nat.lt_succ_of_lt hb.out)) (Nat.le_refl _)).grownF hg (.inl (Nat.lt_succ_of_lt hb.out)) (by simp)); have HGX : Hid ((wx.alloc (.cells #[.int .i64 kx, .int .u64 S.1.toNat, .int .u64 S.2.1.toNat, .int .u64 S.2.2.1.toNat, .int .u64 S.2.2.2.toNat, .slice A ks.length c, .int .i64 lo, .int .i64 hi, .int .i64 n] 27)).grownBy (wx.alloc (.cells #[.int .i64 kx, .int .u64 S.1.toNat, .int .u64 S.2.1.toNat, .int .u64 S.2.2.1.toNat, .int .u64 S.2.2.2.toNat, .slice A ks.length c, .int .i64 lo, .int .i64 hi, .int .i64 n] 27)) (some b)) := Lib.hid (grown_refl _ _); clear HR HG HB; have HR := Lib.hid hr2; have HG := Lib.hid hg2; have HB := Lib.hid hb2; obtain ⟨c0, c1, c2, c3, f1, f2, f3⟩ := hr2; obtain ⟨p0, p1, p2, p3, p4, p5, p6, p7, p8, _⟩ := HPS.out _ HGX.out; obtain ⟨d0, d1, d2, d3, d4, d5, d6, d7, d8, _⟩ := HB.out; obtain ⟨e0, e1, e2, e3, e4, e5, e6, e7, e8⟩ := Box9.freed HB.out; clear hr1 hg1 hsz1 ha hg2 hb2 hkid))
            go_quiet (fail)
            have hrq := HR.out.drews nq
            have hgq := grown_trans HG.out (grown_drews b nq _)
            have hbq := HB.out.low (below_drews _ nq)
            have hxq := grown_trans HGX.out (grown_drews b nq _)
            clear HR HG HB HGX
            have HR := Lib.hid hrq
            have HG := Lib.hid hgq
            have HB := Lib.hid hbq
            have HGX := Lib.hid hxq
            clear hrq hgq hbq hxq
            obtain ⟨c0, c1, c2, c3, f1, f2, f3⟩ := HR.out
            obtain ⟨d0, d1, d2, d3, d4, d5, d6, d7, d8, _⟩ := HB.out; obtain ⟨e0, e1, e2, e3, e4, e5, e6, e7, e8⟩ := Box9.freed HB.out
            obtain ⟨p0, p1, p2, p3, p4, p5, p6, p7, p8, _⟩ := HPS.out _ HGX.out
            go_wp2
            go_quiet (fail)
            have hrq := HR.out.drews nq
            have hgq := grown_trans HG.out (grown_drews b nq _)
            have hbq := HB.out.low (below_drews _ nq)
            have hxq := grown_trans HGX.out (grown_drews b nq _)
            simp only [World.drewN_drewN] at hrq hgq hbq hxq
            clear HR HG HB HGX
            have HR := Lib.hid hrq
            have HG := Lib.hid hgq
            have HB := Lib.hid hbq
            have HGX := Lib.hid hxq
            clear hrq hgq hbq hxq
            obtain ⟨c0, c1, c2, c3, f1, f2, f3⟩ := HR.out
            obtain ⟨d0, d1, d2, d3, d4, d5, d6, d7, d8, _⟩ := HB.out; obtain ⟨e0, e1, e2, e3, e4, e5, e6, e7, e8⟩ := Box9.freed HB.out
            obtain ⟨p0, p1, p2, p3, p4, p5, p6, p7, p8, _⟩ := HPS.out _ HGX.out
            go_wp2_with (go_at_call 59; (with_reducible refine (Hid.out KB _ (Rdr.incz (Hid.out HR) _ ?_)).mono ?_); (omega); go_must (rintro _ wv ⟨he, hr1, hg1⟩; subst he; have hg2 := grown_trans (grown_trans (Hid.out HG) (grown_set b 1 _ _)) hg1; have hb2 := Box9.grown (Box9.other (Hid.out HB) (Nat.ne_of_lt (Hid.out hb)) _) hg1 (Nat.ne_of_gt (Hid.out hb)); have hx2 := grown_trans (grown_trans (Hid.out HGX) (grown_set b 1 _ _)) hg1; clear HGX; have HGX := Lib.hid hx2; obtain ⟨p0, p1, p2, p3, p4, p5, p6, p7, p8, _⟩ := HPS.out _ hx2; have hbf := (Box9.grown (Box9.other (Hid.out HB) (Nat.ne_of_lt (Hid.out hb)) _) hg1 (Nat.ne_of_gt (Hid.out hb))).low (one_box _ (.cells #[.int .i64 kx, .int .u64 S.1.toNat, .int .u64 S.2.1.toNat, .int .u64 S.2.2.1.toNat, .int .u64 S.2.2.2.toNat, .slice A ks.length c, .int .i64 lo, .int .i64 hi, .int .i64 n] 27)); obtain ⟨E0, E1, E2, E3, E4, E5, E6, E7, E8⟩ := Box9.freed hbf; obtain ⟨D0, D1, D2, D3, D4, D5, D6, D7, D8, _⟩ := hbf; clear HR; have HR := Lib.hid hr1; clear HG; have HG := Lib.hid hg2; clear HB; have HB := Lib.hid hb2; obtain ⟨c0, c1, c2, c3, f1, f2, f3⟩ := hr1; obtain ⟨d0, d1, d2, d3, d4, d5, d6, d7, d8, _⟩ := HB.out; obtain ⟨e0, e1, e2, e3, e4, e5, e6, e7, e8⟩ := Box9.freed HB.out; clear hg1 hg2 hb2))
            have hre := HR.out.low (one_box _ (.cells #[.int .i64 kx, .int .u64 S.1.toNat, .int .u64 S.2.1.toNat, .int .u64 S.2.2.1.toNat, .int .u64 S.2.2.2.toNat, .slice A ks.length c, .int .i64 lo, .int .i64 hi, .int .i64 n] 27))
            have hge := grown_trans HG.out (grown_below (one_box _ (.cells #[.int .i64 kx, .int .u64 S.1.toNat, .int .u64 S.2.1.toNat, .int .u64 S.2.2.1.toNat, .int .u64 S.2.2.2.toNat, .slice A ks.length c, .int .i64 lo, .int .i64 hi, .int .i64 n] 27)))
            have hbe := HB.out.low (one_box _ (.cells #[.int .i64 kx, .int .u64 S.1.toNat, .int .u64 S.2.1.toNat, .int .u64 S.2.2.1.toNat, .int .u64 S.2.2.2.toNat, .slice A ks.length c, .int .i64 lo, .int .i64 hi, .int .i64 n] 27))
            have hxe := HGX.out
            obtain ⟨W3, hW3, hbx, hr, hgw⟩ := endT (.int .i64 6) (.int .u64 0) (.int .u64 0) (.int .u64 0) (.int .u64 0) (.slice (some ⟨wv.heap.size, 0, none⟩) 1 1) (.int .i64 pr.1) (.int .i64 pr.2) (.int .i64 0) hb.out hre hge hbe
            have KK : Kids (Fr w.heap.size W3.heap.size) W3 (some ⟨wv.heap.size, 0, none⟩) (.mk 6 none4 [.mk kx S ks lo hi n] pr.1 pr.2 0) := by
              have hz := HSZ.out
              have hbw := hb.out
              have hsx := hxe.size
              have hs4 : (wx.alloc (.cells #[.int .i64 kx, .int .u64 S.1.toNat, .int .u64 S.2.1.toNat, .int .u64 S.2.2.1.toNat, .int .u64 S.2.2.2.toNat, .slice A ks.length c, .int .i64 lo, .int .i64 hi, .int .i64 n] 27)).heap.size = wx.heap.size + 1 := by simp
              rw [hs4] at hsx
              have hs3 := congrArg (fun W => W.heap.size) hW3
              simp only [size_put9, World.size_alloc] at hs3
              rw [hs3, hW3]
              have hn9 := Box9.new wv (.int .i64 kx) (.int .u64 S.1.toNat) (.int .u64 S.2.1.toNat) (.int .u64 S.2.2.1.toNat) (.int .u64 S.2.2.2.toNat) (.slice A ks.length c) (.int .i64 lo) (.int .i64 hi) (.int .i64 n)
              have hk9 := (HKS.out _ hxe).grownF (b := b) (grown_below (one_box _ (.cells #[.int .i64 kx, .int .u64 S.1.toNat, .int .u64 S.2.1.toNat, .int .u64 S.2.2.1.toNat, .int .u64 S.2.2.2.toNat, .slice A ks.length c, .int .i64 lo, .int .i64 hi, .int .i64 n] 27))) (.inl (Nat.lt_succ_of_lt hb.out)) (by omega)
              refine kids_one (hn9.past (by omega) _ _ _ _ _ _ _ _ _) ?_ ⟨by omega, by omega⟩ 6 none4 pr.1 pr.2 0
              exact (hk9.put9 (.inl (by omega)) _ _ _ _ _ _ _ _ _).wide (by omega) (by omega)
            unfold put9 at hW3
            rw [← hW3]
            obtain ⟨l0, l1, l2, l3, l4, l5, l6, l7, l8, _⟩ := hbx
            exact bodyPost_ret (v := .agg #[.int .i64 6, .int .u64 0, .int .u64 0, .int .u64 0, .int .u64 0, .slice (some ⟨wv.heap.size, 0, none⟩) 1 1, .int .i64 pr.1, .int .i64 pr.2, .int .i64 0]) (by simp [results, Tryd.results51, go_sem, l0, l1, l2, l3, l4, l5, l6, l7, l8]) rfl (postd_ok HX.out (some ⟨wv.heap.size, 0, none⟩) 1 (by rfl) KK HQ1.out hr hgw)
        · rw [if_neg hrep] at hps
          have HX : Hid (R = .bad q 1) := Lib.hid (by rw [hR, hps])
          have k23 : kx = 2 ∨ kx = 3 := by
            by_cases h2 : kx = 2
            · exact .inl h2
            · by_cases h3 : kx = 3
              · exact .inr h3
              · exact absurd (by simp [rep, Re.kind, h2, h3]) hrep
          have KF := Lib.hid (fail_new 1 1 rfl b s q g')
          subst f
          clear hR hgg sa1 sa2 hst hget hy lit hc hps hrep hq1 hq2 hq3 hsz
          rcases k23 with k2 | k2
          · have t2 : (kx == 2) = true := by simpa using k2
            clear k2
            go_enter Tryd.func51, Tryd.ntmps51
            go_wp2_with (go_at_call 58; (with_reducible refine (KG.out _ HR.out).mono ?_); go_must (rintro _ wx ⟨⟨A, c, he, hkid⟩, hr1, hg1⟩; have he2 : _ = Ending.returned (.agg #[.int .i64 kx, .int .u64 S.1.toNat, .int .u64 S.2.1.toNat, .int .u64 S.2.2.1.toNat, .int .u64 S.2.2.2.toNat, .slice A ks.length c, .int .i64 lo, .int .i64 hi, .int .i64 n]) := he; clear he; subst he2; have hsz1 := hg1.size; have HSZ : Hid (w.heap.size + 1 ≤ wx.heap.size) := Lib.hid (by simpa using hsz1); have ha := grown_below (b := b) (one_box wx (.cells #[.int .i64 kx, .int .u64 S.1.toNat, .int .u64 S.2.1.toNat, .int .u64 S.2.2.1.toNat, .int .u64 S.2.2.2.toNat, .slice A ks.length c, .int .i64 lo, .int .i64 hi, .int .i64 n] 27)); have hr2 := hr1.low (one_box wx (.cells #[.int .i64 kx, .int .u64 S.1.toNat, .int .u64 S.2.1.toNat, .int .u64 S.2.2.1.toNat, .int .u64 S.2.2.2.toNat, .slice A ks.length c, .int .i64 lo, .int .i64 hi, .int .i64 n] 27)); have hg2 := grown_trans (grown_trans HG.out hg1) ha; have hb2 := (HB.out.grown hg1 (Nat.ne_of_gt hb.out)).grown ha (Nat.ne_of_gt hb.out); have HPS : Hid (∀ W', (wx.alloc (.cells #[.int .i64 kx, .int .u64 S.1.toNat, .int .u64 S.2.1.toNat, .int .u64 S.2.2.1.toNat, .int .u64 S.2.2.2.toNat, .slice A ks.length c, .int .i64 lo, .int .i64 hi, .int .i64 n] 27)).grownBy W' (some b) → Box9 W' wx.heap.size (.int .i64 kx) (.int .u64 S.1.toNat) (.int .u64 S.2.1.toNat) (.int .u64 S.2.2.1.toNat) (.int .u64 S.2.2.2.toNat) (.slice A ks.length c) (.int .i64 lo) (.int .i64 hi) (.int .i64 n)) := Lib.hid (fun W' hg => (Box9.new wx (.int .i64 kx) (.int .u64 S.1.toNat) (.int .u64 S.2.1.toNat) (.int .u64 S.2.2.1.toNat) (.int .u64 S.2.2.2.toNat) (.slice A ks.length c) (.int .i64 lo) (.int .i64 hi) (.int .i64 n)).grown hg (Nat.ne_of_gt (Nat.lt_of_lt_of_le hb.out (Nat.le_trans (Nat.le_succ _) HSZ.out)))); have HKS : Hid (∀ W', (wx.alloc (.cells #[.int .i64 kx, .int .u64 S.1.toNat, .int .u64 S.2.1.toNat, .int .u64 S.2.2.1.toNat, .int .u64 S.2.2.2.toNat, .slice A ks.length c, .int .i64 lo, .int .i64 hi, .int .i64 n] 27)).grownBy W' (some b) → Kids (Fr (w.heap.size + 1) wx.heap.size) W' A (.mk kx S ks lo hi n)) := Lib.hid (fun W' hg => by have hk0 : Kids (Fr (w.heap.size + 1) wx.heap.size) wx A (.mk kx S ks lo hi n) := (by simpa using hkid); exact (hk0.grownF ha (.inl (Nat.lt_succ_of_lt hb.out)) (Nat.le_refl _)).grownF hg (.inl (Nat.lt_succ_of_lt hb.out)) (by simp)); have HGX : Hid ((wx.alloc (.cells #[.int .i64 kx, .int .u64 S.1.toNat, .int .u64 S.2.1.toNat, .int .u64 S.2.2.1.toNat, .int .u64 S.2.2.2.toNat, .slice A ks.length c, .int .i64 lo, .int .i64 hi, .int .i64 n] 27)).grownBy (wx.alloc (.cells #[.int .i64 kx, .int .u64 S.1.toNat, .int .u64 S.2.1.toNat, .int .u64 S.2.2.1.toNat, .int .u64 S.2.2.2.toNat, .slice A ks.length c, .int .i64 lo, .int .i64 hi, .int .i64 n] 27)) (some b)) := Lib.hid (grown_refl _ _); clear HR HG HB; have HR := Lib.hid hr2; have HG := Lib.hid hg2; have HB := Lib.hid hb2; obtain ⟨c0, c1, c2, c3, f1, f2, f3⟩ := hr2; obtain ⟨p0, p1, p2, p3, p4, p5, p6, p7, p8, _⟩ := HPS.out _ HGX.out; obtain ⟨d0, d1, d2, d3, d4, d5, d6, d7, d8, _⟩ := HB.out; obtain ⟨e0, e1, e2, e3, e4, e5, e6, e7, e8⟩ := Box9.freed HB.out; clear hr1 hg1 hsz1 ha hg2 hb2 hkid))
            go_quiet (fail)
            have hrq := HR.out.drews nq
            have hgq := grown_trans HG.out (grown_drews b nq _)
            have hbq := HB.out.low (below_drews _ nq)
            have hxq := grown_trans HGX.out (grown_drews b nq _)
            clear HR HG HB HGX
            have HR := Lib.hid hrq
            have HG := Lib.hid hgq
            have HB := Lib.hid hbq
            have HGX := Lib.hid hxq
            clear hrq hgq hbq hxq
            obtain ⟨c0, c1, c2, c3, f1, f2, f3⟩ := HR.out
            obtain ⟨d0, d1, d2, d3, d4, d5, d6, d7, d8, _⟩ := HB.out; obtain ⟨e0, e1, e2, e3, e4, e5, e6, e7, e8⟩ := Box9.freed HB.out
            obtain ⟨p0, p1, p2, p3, p4, p5, p6, p7, p8, _⟩ := HPS.out _ HGX.out
            go_wp2
            go_quiet (fail)
            have hrq := HR.out.drews nq
            have hgq := grown_trans HG.out (grown_drews b nq _)
            have hbq := HB.out.low (below_drews _ nq)
            have hxq := grown_trans HGX.out (grown_drews b nq _)
            simp only [World.drewN_drewN] at hrq hgq hbq hxq
            clear HR HG HB HGX
            have HR := Lib.hid hrq
            have HG := Lib.hid hgq
            have HB := Lib.hid hbq
            have HGX := Lib.hid hxq
            clear hrq hgq hbq hxq
            obtain ⟨c0, c1, c2, c3, f1, f2, f3⟩ := HR.out
            obtain ⟨d0, d1, d2, d3, d4, d5, d6, d7, d8, _⟩ := HB.out; obtain ⟨e0, e1, e2, e3, e4, e5, e6, e7, e8⟩ := Box9.freed HB.out
            obtain ⟨p0, p1, p2, p3, p4, p5, p6, p7, p8, _⟩ := HPS.out _ HGX.out
            go_wp2_with (go_at_call 25; (with_reducible refine (Hid.out KF _ (Hid.out HR)).mono ?_); go_must (rintro _ wv ⟨he, hr1, hg1⟩; subst he; have hg2 := grown_trans (Hid.out HG) hg1; have hb2 := Box9.grown (Hid.out HB) hg1 (Nat.ne_of_gt (Hid.out hb)); have hx2 := grown_trans (Hid.out HGX) hg1; clear HGX; have HGX := Lib.hid hx2; obtain ⟨p0, p1, p2, p3, p4, p5, p6, p7, p8, _⟩ := HPS.out _ hx2; clear HR; have HR := Lib.hid hr1; clear HG; have HG := Lib.hid hg2; clear HB; have HB := Lib.hid hb2; obtain ⟨c0, c1, c2, c3, f1, f2, f3⟩ := hr1; obtain ⟨d0, d1, d2, d3, d4, d5, d6, d7, d8, _⟩ := HB.out; obtain ⟨e0, e1, e2, e3, e4, e5, e6, e7, e8⟩ := Box9.freed HB.out; clear hg1 hg2 hb2))
            obtain ⟨W3, hW3, hbx, hr, hgw⟩ := endT (.int .i64 kx) (.int .u64 S.1.toNat) (.int .u64 S.2.1.toNat) (.int .u64 S.2.2.1.toNat) (.int .u64 S.2.2.2.toNat) (.slice A ks.length c) (.int .i64 lo) (.int .i64 hi) (.int .i64 n) hb.out HR.out HG.out HB.out
            have KK : Kids (Fr w.heap.size W3.heap.size) W3 A (.mk kx S ks lo hi n) := by
              have hs2 := hgw.size
              have hz := HSZ.out
              have hbw := hb.out
              have hsx := HGX.out.size
              have hs3 := congrArg (fun W => W.heap.size) hW3
              simp only [size_put9] at hs3
              have hs4 : (wx.alloc (.cells #[.int .i64 kx, .int .u64 S.1.toNat, .int .u64 S.2.1.toNat, .int .u64 S.2.2.1.toNat, .int .u64 S.2.2.2.toNat, .slice A ks.length c, .int .i64 lo, .int .i64 hi, .int .i64 n] 27)).heap.size = wx.heap.size + 1 := by simp
              rw [hW3]
              exact ((HKS.out _ HGX.out).put9 (.inl (by omega)) _ _ _ _ _ _ _ _ _).wide (by omega) (by rw [size_put9]; omega)
            unfold put9 at hW3
            rw [← hW3]
            obtain ⟨l0, l1, l2, l3, l4, l5, l6, l7, l8, _⟩ := hbx
            exact bodyPost_ret (v := .agg #[.int .i64 kx, .int .u64 S.1.toNat, .int .u64 S.2.1.toNat, .int .u64 S.2.2.1.toNat, .int .u64 S.2.2.2.toNat, .slice A ks.length c, .int .i64 lo, .int .i64 hi, .int .i64 n]) (by simp [results, Tryd.results51, go_sem, l0, l1, l2, l3, l4, l5, l6, l7, l8]) rfl (postd_bad HX.out (.mk kx S ks lo hi n) A c (by rfl) KK (by rfl) (by exact .inl rfl) hr hgw)
          · have t2 : (kx == 3) = true := by simpa using k2
            have t3 : (kx == 2) = false := by simp; omega
            clear k2
            go_enter Tryd.func51, Tryd.ntmps51
            go_wp2_with (go_at_call 58; (with_reducible refine (KG.out _ HR.out).mono ?_); go_must (rintro _ wx ⟨⟨A, c, he, hkid⟩, hr1, hg1⟩; have he2 : _ = Ending.returned (.agg #[.int .i64 kx, .int .u64 S.1.toNat, .int .u64 S.2.1.toNat, .int .u64 S.2.2.1.toNat, .int .u64 S.2.2.2.toNat, .slice A ks.length c, .int .i64 lo, .int .i64 hi, .int .i64 n]) := he; clear he; subst he2; have hsz1 := hg1.size; have HSZ : Hid (w.heap.size + 1 ≤ wx.heap.size) := Lib.hid (by simpa using hsz1); have ha := grown_below (b := b) (one_box wx (.cells #[.int .i64 kx, .int .u64 S.1.toNat, .int .u64 S.2.1.toNat, .int .u64 S.2.2.1.toNat, .int .u64 S.2.2.2.toNat, .slice A ks.length c, .int .i64 lo, .int .i64 hi, .int .i64 n] 27)); have hr2 := hr1.low (one_box wx (.cells #[.int .i64 kx, .int .u64 S.1.toNat, .int .u64 S.2.1.toNat, .int .u64 S.2.2.1.toNat, .int .u64 S.2.2.2.toNat, .slice A ks.length c, .int .i64 lo, .int .i64 hi, .int .i64 n] 27)); have hg2 := grown_trans (grown_trans HG.out hg1) ha; have hb2 := (HB.out.grown hg1 (Nat.ne_of_gt hb.out)).grown ha (Nat.ne_of_gt hb.out); have HPS : Hid (∀ W', (wx.alloc (.cells #[.int .i64 kx, .int .u64 S.1.toNat, .int .u64 S.2.1.toNat, .int .u64 S.2.2.1.toNat, .int .u64 S.2.2.2.toNat, .slice A ks.length c, .int .i64 lo, .int .i64 hi, .int .i64 n] 27)).grownBy W' (some b) → Box9 W' wx.heap.size (.int .i64 kx) (.int .u64 S.1.toNat) (.int .u64 S.2.1.toNat) (.int .u64 S.2.2.1.toNat) (.int .u64 S.2.2.2.toNat) (.slice A ks.length c) (.int .i64 lo) (.int .i64 hi) (.int .i64 n)) := Lib.hid (fun W' hg => (Box9.new wx (.int .i64 kx) (.int .u64 S.1.toNat) (.int .u64 S.2.1.toNat) (.int .u64 S.2.2.1.toNat) (.int .u64 S.2.2.2.toNat) (.slice A ks.length c) (.int .i64 lo) (.int .i64 hi) (.int .i64 n)).grown hg (Nat.ne_of_gt (Nat.lt_of_lt_of_le hb.out (Nat.le_trans (Nat.le_succ _) HSZ.out)))); have HKS : Hid (∀ W', (wx.alloc (.cells #[.int .i64 kx, .int .u64 S.1.toNat, .int .u64 S.2.1.toNat, .int .u64 S.2.2.1.toNat, .int .u64 S.2.2.2.toNat, .slice A ks.length c, .int .i64 lo, .int .i64 hi, .int .i64 n] 27)).grownBy W' (some b) → Kids (Fr (w.heap.size + 1) wx.heap.size) W' A (.mk kx S ks lo hi n)) := Lib.hid (fun W' hg => by have hk0 : Kids (Fr (w.heap.size + 1) wx.heap.size) wx A (.mk kx S ks lo hi n) := (by simpa using hkid); exact (hk0.grownF ha (.inl (Nat.lt_succ_of_lt hb.out)) (Nat.le_refl _)).grownF hg (.inl (Nat.lt_succ_of_lt hb.out)) (by simp)); have HGX : Hid ((wx.alloc (.cells #[.int .i64 kx, .int .u64 S.1.toNat, .int .u64 S.2.1.toNat, .int .u64 S.2.2.1.toNat, .int .u64 S.2.2.2.toNat, .slice A ks.length c, .int .i64 lo, .int .i64 hi, .int .i64 n] 27)).grownBy (wx.alloc (.cells #[.int .i64 kx, .int .u64 S.1.toNat, .int .u64 S.2.1.toNat, .int .u64 S.2.2.1.toNat, .int .u64 S.2.2.2.toNat, .slice A ks.length c, .int .i64 lo, .int .i64 hi, .int .i64 n] 27)) (some b)) := Lib.hid (grown_refl _ _); clear HR HG HB; have HR := Lib.hid hr2; have HG := Lib.hid hg2; have HB := Lib.hid hb2; obtain ⟨c0, c1, c2, c3, f1, f2, f3⟩ := hr2; obtain ⟨p0, p1, p2, p3, p4, p5, p6, p7, p8, _⟩ := HPS.out _ HGX.out; obtain ⟨d0, d1, d2, d3, d4, d5, d6, d7, d8, _⟩ := HB.out; obtain ⟨e0, e1, e2, e3, e4, e5, e6, e7, e8⟩ := Box9.freed HB.out; clear hr1 hg1 hsz1 ha hg2 hb2 hkid))
            go_quiet (fail)
            have hrq := HR.out.drews nq
            have hgq := grown_trans HG.out (grown_drews b nq _)
            have hbq := HB.out.low (below_drews _ nq)
            have hxq := grown_trans HGX.out (grown_drews b nq _)
            clear HR HG HB HGX
            have HR := Lib.hid hrq
            have HG := Lib.hid hgq
            have HB := Lib.hid hbq
            have HGX := Lib.hid hxq
            clear hrq hgq hbq hxq
            obtain ⟨c0, c1, c2, c3, f1, f2, f3⟩ := HR.out
            obtain ⟨d0, d1, d2, d3, d4, d5, d6, d7, d8, _⟩ := HB.out; obtain ⟨e0, e1, e2, e3, e4, e5, e6, e7, e8⟩ := Box9.freed HB.out
            obtain ⟨p0, p1, p2, p3, p4, p5, p6, p7, p8, _⟩ := HPS.out _ HGX.out
            go_wp2
            go_quiet (fail)
            have hrq := HR.out.drews nq
            have hgq := grown_trans HG.out (grown_drews b nq _)
            have hbq := HB.out.low (below_drews _ nq)
            have hxq := grown_trans HGX.out (grown_drews b nq _)
            simp only [World.drewN_drewN] at hrq hgq hbq hxq
            clear HR HG HB HGX
            have HR := Lib.hid hrq
            have HG := Lib.hid hgq
            have HB := Lib.hid hbq
            have HGX := Lib.hid hxq
            clear hrq hgq hbq hxq
            obtain ⟨c0, c1, c2, c3, f1, f2, f3⟩ := HR.out
            obtain ⟨d0, d1, d2, d3, d4, d5, d6, d7, d8, _⟩ := HB.out; obtain ⟨e0, e1, e2, e3, e4, e5, e6, e7, e8⟩ := Box9.freed HB.out
            obtain ⟨p0, p1, p2, p3, p4, p5, p6, p7, p8, _⟩ := HPS.out _ HGX.out
            go_wp2_with (go_at_call 25; (with_reducible refine (Hid.out KF _ (Hid.out HR)).mono ?_); go_must (rintro _ wv ⟨he, hr1, hg1⟩; subst he; have hg2 := grown_trans (Hid.out HG) hg1; have hb2 := Box9.grown (Hid.out HB) hg1 (Nat.ne_of_gt (Hid.out hb)); have hx2 := grown_trans (Hid.out HGX) hg1; clear HGX; have HGX := Lib.hid hx2; obtain ⟨p0, p1, p2, p3, p4, p5, p6, p7, p8, _⟩ := HPS.out _ hx2; clear HR; have HR := Lib.hid hr1; clear HG; have HG := Lib.hid hg2; clear HB; have HB := Lib.hid hb2; obtain ⟨c0, c1, c2, c3, f1, f2, f3⟩ := hr1; obtain ⟨d0, d1, d2, d3, d4, d5, d6, d7, d8, _⟩ := HB.out; obtain ⟨e0, e1, e2, e3, e4, e5, e6, e7, e8⟩ := Box9.freed HB.out; clear hg1 hg2 hb2))
            obtain ⟨W3, hW3, hbx, hr, hgw⟩ := endT (.int .i64 kx) (.int .u64 S.1.toNat) (.int .u64 S.2.1.toNat) (.int .u64 S.2.2.1.toNat) (.int .u64 S.2.2.2.toNat) (.slice A ks.length c) (.int .i64 lo) (.int .i64 hi) (.int .i64 n) hb.out HR.out HG.out HB.out
            have KK : Kids (Fr w.heap.size W3.heap.size) W3 A (.mk kx S ks lo hi n) := by
              have hs2 := hgw.size
              have hz := HSZ.out
              have hbw := hb.out
              have hsx := HGX.out.size
              have hs3 := congrArg (fun W => W.heap.size) hW3
              simp only [size_put9] at hs3
              have hs4 : (wx.alloc (.cells #[.int .i64 kx, .int .u64 S.1.toNat, .int .u64 S.2.1.toNat, .int .u64 S.2.2.1.toNat, .int .u64 S.2.2.2.toNat, .slice A ks.length c, .int .i64 lo, .int .i64 hi, .int .i64 n] 27)).heap.size = wx.heap.size + 1 := by simp
              rw [hW3]
              exact ((HKS.out _ HGX.out).put9 (.inl (by omega)) _ _ _ _ _ _ _ _ _).wide (by omega) (by rw [size_put9]; omega)
            unfold put9 at hW3
            rw [← hW3]
            obtain ⟨l0, l1, l2, l3, l4, l5, l6, l7, l8, _⟩ := hbx
            exact bodyPost_ret (v := .agg #[.int .i64 kx, .int .u64 S.1.toNat, .int .u64 S.2.1.toNat, .int .u64 S.2.2.1.toNat, .int .u64 S.2.2.2.toNat, .slice A ks.length c, .int .i64 lo, .int .i64 hi, .int .i64 n]) (by simp [results, Tryd.results51, go_sem, l0, l1, l2, l3, l4, l5, l6, l7, l8]) rfl (postd_bad HX.out (.mk kx S ks lo hi n) A c (by rfl) KK (by rfl) (by exact .inl rfl) hr hgw)
      have hn : ∀ c ∈ sgR, s.data.toList[q]? ≠ some c := by
        intro c hc e
        rw [hget] at e
        injection e with e
        have : y = (c.toNat : Int) := by rw [hy, e]
        simp [sgR] at hc
        rcases hc with rfl | rfl | rfl | rfl
        · exact g42 this
        · exact g43 this
        · exact g63 this
        · exact g123 this
      have HX : Hid (R = .ok (.mk kx S ks lo hi n) q g') := Lib.hid (by rw [hR, piece_plain hgg hn])
      have e42 : (y != 42) = true := by simp; omega
      have e43 : (y != 43) = true := by simp; omega
      have e63 : (y != 63) = true := by simp; omega
      have e123 : (y != 123) = true := by simp; omega
      clear hR hgg sa1 sa2 hst hget hy lit hn hq1 hq2 hq3 hsz g42 g43 g63 g123
      go_enter Tryd.func51, Tryd.ntmps51
      go_wp2_with (go_at_call 58; (with_reducible refine (KG.out _ HR.out).mono ?_); go_must (rintro _ wx ⟨⟨A, c, he, hkid⟩, hr1, hg1⟩; have he2 : _ = Ending.returned (.agg #[.int .i64 kx, .int .u64 S.1.toNat, .int .u64 S.2.1.toNat, .int .u64 S.2.2.1.toNat, .int .u64 S.2.2.2.toNat, .slice A ks.length c, .int .i64 lo, .int .i64 hi, .int .i64 n]) := he; clear he; subst he2; have hsz1 := hg1.size; have HSZ : Hid (w.heap.size + 1 ≤ wx.heap.size) := Lib.hid (by simpa using hsz1); have ha := grown_below (b := b) (one_box wx (.cells #[.int .i64 kx, .int .u64 S.1.toNat, .int .u64 S.2.1.toNat, .int .u64 S.2.2.1.toNat, .int .u64 S.2.2.2.toNat, .slice A ks.length c, .int .i64 lo, .int .i64 hi, .int .i64 n] 27)); have hr2 := hr1.low (one_box wx (.cells #[.int .i64 kx, .int .u64 S.1.toNat, .int .u64 S.2.1.toNat, .int .u64 S.2.2.1.toNat, .int .u64 S.2.2.2.toNat, .slice A ks.length c, .int .i64 lo, .int .i64 hi, .int .i64 n] 27)); have hg2 := grown_trans (grown_trans HG.out hg1) ha; have hb2 := (HB.out.grown hg1 (Nat.ne_of_gt hb.out)).grown ha (Nat.ne_of_gt hb.out); have HPS : Hid (∀ W', (wx.alloc (.cells #[.int .i64 kx, .int .u64 S.1.toNat, .int .u64 S.2.1.toNat, .int .u64 S.2.2.1.toNat, .int .u64 S.2.2.2.toNat, .slice A ks.length c, .int .i64 lo, .int .i64 hi, .int .i64 n] 27)).grownBy W' (some b) → Box9 W' wx.heap.size (.int .i64 kx) (.int .u64 S.1.toNat) (.int .u64 S.2.1.toNat) (.int .u64 S.2.2.1.toNat) (.int .u64 S.2.2.2.toNat) (.slice A ks.length c) (.int .i64 lo) (.int .i64 hi) (.int .i64 n)) := Lib.hid (fun W' hg => (Box9.new wx (.int .i64 kx) (.int .u64 S.1.toNat) (.int .u64 S.2.1.toNat) (.int .u64 S.2.2.1.toNat) (.int .u64 S.2.2.2.toNat) (.slice A ks.length c) (.int .i64 lo) (.int .i64 hi) (.int .i64 n)).grown hg (Nat.ne_of_gt (Nat.lt_of_lt_of_le hb.out (Nat.le_trans (Nat.le_succ _) HSZ.out)))); have HKS : Hid (∀ W', (wx.alloc (.cells #[.int .i64 kx, .int .u64 S.1.toNat, .int .u64 S.2.1.toNat, .int .u64 S.2.2.1.toNat, .int .u64 S.2.2.2.toNat, .slice A ks.length c, .int .i64 lo, .int .i64 hi, .int .i64 n] 27)).grownBy W' (some b) → Kids (Fr (w.heap.size + 1) wx.heap.size) W' A (.mk kx S ks lo hi n)) := Lib.hid (fun W' hg => by have hk0 : Kids (Fr (w.heap.size + 1) wx.heap.size) wx A (.mk kx S ks lo hi n) := (by simpa using hkid); exact (hk0.grownF ha (.inl (Nat.lt_succ_of_lt hb.out)) (Nat.le_refl _)).grownF hg (.inl (Nat.lt_succ_of_lt hb.out)) (by simp)); have HGX : Hid ((wx.alloc (.cells #[.int .i64 kx, .int .u64 S.1.toNat, .int .u64 S.2.1.toNat, .int .u64 S.2.2.1.toNat, .int .u64 S.2.2.2.toNat, .slice A ks.length c, .int .i64 lo, .int .i64 hi, .int .i64 n] 27)).grownBy (wx.alloc (.cells #[.int .i64 kx, .int .u64 S.1.toNat, .int .u64 S.2.1.toNat, .int .u64 S.2.2.1.toNat, .int .u64 S.2.2.2.toNat, .slice A ks.length c, .int .i64 lo, .int .i64 hi, .int .i64 n] 27)) (some b)) := Lib.hid (grown_refl _ _); clear HR HG HB; have HR := Lib.hid hr2; have HG := Lib.hid hg2; have HB := Lib.hid hb2; obtain ⟨c0, c1, c2, c3, f1, f2, f3⟩ := hr2; obtain ⟨p0, p1, p2, p3, p4, p5, p6, p7, p8, _⟩ := HPS.out _ HGX.out; obtain ⟨d0, d1, d2, d3, d4, d5, d6, d7, d8, _⟩ := HB.out; obtain ⟨e0, e1, e2, e3, e4, e5, e6, e7, e8⟩ := Box9.freed HB.out; clear hr1 hg1 hsz1 ha hg2 hb2 hkid))
      go_quiet (fail)
      have hrq := HR.out.drews nq
      have hgq := grown_trans HG.out (grown_drews b nq _)
      have hbq := HB.out.low (below_drews _ nq)
      have hxq := grown_trans HGX.out (grown_drews b nq _)
      clear HR HG HB HGX
      have HR := Lib.hid hrq
      have HG := Lib.hid hgq
      have HB := Lib.hid hbq
      have HGX := Lib.hid hxq
      clear hrq hgq hbq hxq
      obtain ⟨c0, c1, c2, c3, f1, f2, f3⟩ := HR.out
      obtain ⟨d0, d1, d2, d3, d4, d5, d6, d7, d8, _⟩ := HB.out; obtain ⟨e0, e1, e2, e3, e4, e5, e6, e7, e8⟩ := Box9.freed HB.out
      obtain ⟨p0, p1, p2, p3, p4, p5, p6, p7, p8, _⟩ := HPS.out _ HGX.out
      go_wp2
      go_quiet (fail)
      have hrq := HR.out.drews nq
      have hgq := grown_trans HG.out (grown_drews b nq _)
      have hbq := HB.out.low (below_drews _ nq)
      have hxq := grown_trans HGX.out (grown_drews b nq _)
      simp only [World.drewN_drewN] at hrq hgq hbq hxq
      clear HR HG HB HGX
      have HR := Lib.hid hrq
      have HG := Lib.hid hgq
      have HB := Lib.hid hbq
      have HGX := Lib.hid hxq
      clear hrq hgq hbq hxq
      obtain ⟨c0, c1, c2, c3, f1, f2, f3⟩ := HR.out
      obtain ⟨d0, d1, d2, d3, d4, d5, d6, d7, d8, _⟩ := HB.out; obtain ⟨e0, e1, e2, e3, e4, e5, e6, e7, e8⟩ := Box9.freed HB.out
      obtain ⟨p0, p1, p2, p3, p4, p5, p6, p7, p8, _⟩ := HPS.out _ HGX.out
      go_wp2
      obtain ⟨W3, hW3, hbx, hr, hgw⟩ := endT (.int .i64 kx) (.int .u64 S.1.toNat) (.int .u64 S.2.1.toNat) (.int .u64 S.2.2.1.toNat) (.int .u64 S.2.2.2.toNat) (.slice A ks.length c) (.int .i64 lo) (.int .i64 hi) (.int .i64 n) hb.out HR.out HG.out HB.out
      have KK : Kids (Fr w.heap.size W3.heap.size) W3 A (.mk kx S ks lo hi n) := by
        have hs2 := hgw.size
        have hz := HSZ.out
        have hbw := hb.out
        have hsx := HGX.out.size
        have hs3 := congrArg (fun W => W.heap.size) hW3
        simp only [size_put9] at hs3
        have hs4 : (wx.alloc (.cells #[.int .i64 kx, .int .u64 S.1.toNat, .int .u64 S.2.1.toNat, .int .u64 S.2.2.1.toNat, .int .u64 S.2.2.2.toNat, .slice A ks.length c, .int .i64 lo, .int .i64 hi, .int .i64 n] 27)).heap.size = wx.heap.size + 1 := by simp
        rw [hW3]
        exact ((HKS.out _ HGX.out).put9 (.inl (by omega)) _ _ _ _ _ _ _ _ _).wide (by omega) (by rw [size_put9]; omega)
      unfold put9 at hW3
      rw [← hW3]
      obtain ⟨l0, l1, l2, l3, l4, l5, l6, l7, l8, _⟩ := hbx
      exact bodyPost_ret (v := .agg #[.int .i64 kx, .int .u64 S.1.toNat, .int .u64 S.2.1.toNat, .int .u64 S.2.2.1.toNat, .int .u64 S.2.2.2.toNat, .slice A ks.length c, .int .i64 lo, .int .i64 hi, .int .i64 n]) (by simp [results, Tryd.results51, go_sem, l0, l1, l2, l3, l4, l5, l6, l7, l8]) rfl (postd_ok HX.out A c (by rfl) KK HQ.out hr hgw)
    · have b1 : decide ((s.size : Int) ≤ (q : Int)) = true := by simp; omega
      have HX : Hid (R = .ok (.mk kx S ks lo hi n) q g') := Lib.hid (by rw [hR, piece_plain hgg (fun c _ => by rw [get_end s q a]; simp)])
      clear hR hgg sa1 sa2 hst hq1 hq2 hq3 hsz
      go_enter Tryd.func51, Tryd.ntmps51
      go_wp2_with (go_at_call 58; (with_reducible refine (KG.out _ HR.out).mono ?_); go_must (rintro _ wx ⟨⟨A, c, he, hkid⟩, hr1, hg1⟩; have he2 : _ = Ending.returned (.agg #[.int .i64 kx, .int .u64 S.1.toNat, .int .u64 S.2.1.toNat, .int .u64 S.2.2.1.toNat, .int .u64 S.2.2.2.toNat, .slice A ks.length c, .int .i64 lo, .int .i64 hi, .int .i64 n]) := he; clear he; subst he2; have hsz1 := hg1.size; have HSZ : Hid (w.heap.size + 1 ≤ wx.heap.size) := Lib.hid (by simpa using hsz1); have ha := grown_below (b := b) (one_box wx (.cells #[.int .i64 kx, .int .u64 S.1.toNat, .int .u64 S.2.1.toNat, .int .u64 S.2.2.1.toNat, .int .u64 S.2.2.2.toNat, .slice A ks.length c, .int .i64 lo, .int .i64 hi, .int .i64 n] 27)); have hr2 := hr1.low (one_box wx (.cells #[.int .i64 kx, .int .u64 S.1.toNat, .int .u64 S.2.1.toNat, .int .u64 S.2.2.1.toNat, .int .u64 S.2.2.2.toNat, .slice A ks.length c, .int .i64 lo, .int .i64 hi, .int .i64 n] 27)); have hg2 := grown_trans (grown_trans HG.out hg1) ha; have hb2 := (HB.out.grown hg1 (Nat.ne_of_gt hb.out)).grown ha (Nat.ne_of_gt hb.out); have HPS : Hid (∀ W', (wx.alloc (.cells #[.int .i64 kx, .int .u64 S.1.toNat, .int .u64 S.2.1.toNat, .int .u64 S.2.2.1.toNat, .int .u64 S.2.2.2.toNat, .slice A ks.length c, .int .i64 lo, .int .i64 hi, .int .i64 n] 27)).grownBy W' (some b) → Box9 W' wx.heap.size (.int .i64 kx) (.int .u64 S.1.toNat) (.int .u64 S.2.1.toNat) (.int .u64 S.2.2.1.toNat) (.int .u64 S.2.2.2.toNat) (.slice A ks.length c) (.int .i64 lo) (.int .i64 hi) (.int .i64 n)) := Lib.hid (fun W' hg => (Box9.new wx (.int .i64 kx) (.int .u64 S.1.toNat) (.int .u64 S.2.1.toNat) (.int .u64 S.2.2.1.toNat) (.int .u64 S.2.2.2.toNat) (.slice A ks.length c) (.int .i64 lo) (.int .i64 hi) (.int .i64 n)).grown hg (Nat.ne_of_gt (Nat.lt_of_lt_of_le hb.out (Nat.le_trans (Nat.le_succ _) HSZ.out)))); have HKS : Hid (∀ W', (wx.alloc (.cells #[.int .i64 kx, .int .u64 S.1.toNat, .int .u64 S.2.1.toNat, .int .u64 S.2.2.1.toNat, .int .u64 S.2.2.2.toNat, .slice A ks.length c, .int .i64 lo, .int .i64 hi, .int .i64 n] 27)).grownBy W' (some b) → Kids (Fr (w.heap.size + 1) wx.heap.size) W' A (.mk kx S ks lo hi n)) := Lib.hid (fun W' hg => by have hk0 : Kids (Fr (w.heap.size + 1) wx.heap.size) wx A (.mk kx S ks lo hi n) := (by simpa using hkid); exact (hk0.grownF ha (.inl (Nat.lt_succ_of_lt hb.out)) (Nat.le_refl _)).grownF hg (.inl (Nat.lt_succ_of_lt hb.out)) (by simp)); have HGX : Hid ((wx.alloc (.cells #[.int .i64 kx, .int .u64 S.1.toNat, .int .u64 S.2.1.toNat, .int .u64 S.2.2.1.toNat, .int .u64 S.2.2.2.toNat, .slice A ks.length c, .int .i64 lo, .int .i64 hi, .int .i64 n] 27)).grownBy (wx.alloc (.cells #[.int .i64 kx, .int .u64 S.1.toNat, .int .u64 S.2.1.toNat, .int .u64 S.2.2.1.toNat, .int .u64 S.2.2.2.toNat, .slice A ks.length c, .int .i64 lo, .int .i64 hi, .int .i64 n] 27)) (some b)) := Lib.hid (grown_refl _ _); clear HR HG HB; have HR := Lib.hid hr2; have HG := Lib.hid hg2; have HB := Lib.hid hb2; obtain ⟨c0, c1, c2, c3, f1, f2, f3⟩ := hr2; obtain ⟨p0, p1, p2, p3, p4, p5, p6, p7, p8, _⟩ := HPS.out _ HGX.out; obtain ⟨d0, d1, d2, d3, d4, d5, d6, d7, d8, _⟩ := HB.out; obtain ⟨e0, e1, e2, e3, e4, e5, e6, e7, e8⟩ := Box9.freed HB.out; clear hr1 hg1 hsz1 ha hg2 hb2 hkid))
      go_quiet (fail)
      have hrq := HR.out.drews nq
      have hgq := grown_trans HG.out (grown_drews b nq _)
      have hbq := HB.out.low (below_drews _ nq)
      have hxq := grown_trans HGX.out (grown_drews b nq _)
      clear HR HG HB HGX
      have HR := Lib.hid hrq
      have HG := Lib.hid hgq
      have HB := Lib.hid hbq
      have HGX := Lib.hid hxq
      clear hrq hgq hbq hxq
      obtain ⟨c0, c1, c2, c3, f1, f2, f3⟩ := HR.out
      obtain ⟨d0, d1, d2, d3, d4, d5, d6, d7, d8, _⟩ := HB.out; obtain ⟨e0, e1, e2, e3, e4, e5, e6, e7, e8⟩ := Box9.freed HB.out
      obtain ⟨p0, p1, p2, p3, p4, p5, p6, p7, p8, _⟩ := HPS.out _ HGX.out
      go_wp2
      obtain ⟨W3, hW3, hbx, hr, hgw⟩ := endT (.int .i64 kx) (.int .u64 S.1.toNat) (.int .u64 S.2.1.toNat) (.int .u64 S.2.2.1.toNat) (.int .u64 S.2.2.2.toNat) (.slice A ks.length c) (.int .i64 lo) (.int .i64 hi) (.int .i64 n) hb.out HR.out HG.out HB.out
      have KK : Kids (Fr w.heap.size W3.heap.size) W3 A (.mk kx S ks lo hi n) := by
        have hs2 := hgw.size
        have hz := HSZ.out
        have hbw := hb.out
        have hsx := HGX.out.size
        have hs3 := congrArg (fun W => W.heap.size) hW3
        simp only [size_put9] at hs3
        have hs4 : (wx.alloc (.cells #[.int .i64 kx, .int .u64 S.1.toNat, .int .u64 S.2.1.toNat, .int .u64 S.2.2.1.toNat, .int .u64 S.2.2.2.toNat, .slice A ks.length c, .int .i64 lo, .int .i64 hi, .int .i64 n] 27)).heap.size = wx.heap.size + 1 := by simp
        rw [hW3]
        exact ((HKS.out _ HGX.out).put9 (.inl (by omega)) _ _ _ _ _ _ _ _ _).wide (by omega) (by rw [size_put9]; omega)
      unfold put9 at hW3
      rw [← hW3]
      obtain ⟨l0, l1, l2, l3, l4, l5, l6, l7, l8, _⟩ := hbx
      exact bodyPost_ret (v := .agg #[.int .i64 kx, .int .u64 S.1.toNat, .int .u64 S.2.1.toNat, .int .u64 S.2.2.1.toNat, .int .u64 S.2.2.2.toNat, .slice A ks.length c, .int .i64 lo, .int .i64 hi, .int .i64 n]) (by simp [results, Tryd.results51, go_sem, l0, l1, l2, l3, l4, l5, l6, l7, l8]) rfl (postd_ok HX.out A c (by rfl) KK HQ.out hr hgw)
end Go.Proofs.YtccheljfbjllhaaDoor
