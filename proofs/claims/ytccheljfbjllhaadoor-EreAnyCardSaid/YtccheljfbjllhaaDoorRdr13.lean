/- The code's reader: an expression. -/
import Derived.Test.YtccheljfbjllhaaDoorRdr12
namespace Go.Proofs.YtccheljfbjllhaaDoor
open Go Go.RowKit

/-- What is still to be read, behind a row or ahead of the first one. -/
def nextA (rw_ : Rd) (s : Bs) (k g : Nat) (acc : List Re) : Ro (List Re) := if acc = [] then altL rw_ s k g [] else if s[k]? = some 124 then altL rw_ s (k + 1) g acc else .ok acc k g
theorem nextA_ok {rw_ : Rd} {s : Bs} {k g q g' : Nat} {x : Re} {acc : List Re} (h : rw_ k g = .ok x q g') (hq : k ≤ q) : nextA rw_ s q g' (acc ++ [x]) = altL rw_ s k g acc := by
  unfold nextA
  rw [if_neg (by simp)]
  by_cases hc : s[q]? = some 124
  · rw [if_pos hc, altL_ok h hc hq]
  · rw [if_neg hc, altL_end h hc]
def lenZ (v : Value) : Nat := match v with
  | .slice _ 0 _ => 1
  | _ => 0
/-- How the loop of an expression's rows stands. -/
def LoopA (rw_ : Rd) (b : Nat) (w : World) (s : ByteArray) (o : Nat) (R : Ro (List Re)) (v : Value) (wr : World) : Prop :=
  ∃ (k g : Nat) (l : List Rv), k ≤ s.size ∧ g ≤ k ∧ l.length ≤ k + 1 ∧ nextA rw_ s.data.toList k g (l.map (·.1)) = R ∧ Rdr b wr s k g o ∧ Trees b w wr v l
set_option maxRecDepth 100000 in
set_option maxHeartbeats 8000000 in
theorem expr_any (s : ByteArray) (o : Nat) (rw_ : Rd) (hs : s.size ≤ 200) (hrw : RdEC 37 s o rw_) (hsane : SaneE s rw_) : RdEC 23 s o (altOf rw_ s.data.toList) := by
  intro b w k0 g0 h hk0 hgk0
  obtain ⟨Q, hQ⟩ : ∃ Q, Q = altOf rw_ s.data.toList k0 g0 := ⟨_, rfl⟩
  rw [← hQ]
  unfold altOf at hQ
  obtain ⟨R, hR⟩ : ∃ R, R = altL rw_ s.data.toList k0 g0 [] := ⟨_, rfl⟩
  rw [← hR] at hQ
  have HQ := Lib.hid hQ
  have HR0 : Hid (nextA rw_ s.data.toList k0 g0 [] = R) := Lib.hid (by unfold nextA; rw [if_pos rfl]; exact hR.symm)
  have hb := Lib.hid h.lt
  have HR := Lib.hid (h.below (one_box w (.cells #[.int .i64 0, .int .u64 0, .int .u64 0, .int .u64 0, .int .u64 0, .slice none 0 0, .int .i64 0, .int .i64 0, .int .i64 0] 27)))
  have HT := Lib.hid (Trees.start h.lt)
  have hsz : s.data.toList.length = s.size := rfl
  have HSZ := Lib.hid hsz
  obtain ⟨i0, hi0, hz0, hz1, hz2⟩ := info_parts info27
  clear h hQ hR hsz
  go_enter Tryd.func23, Tryd.ntmps23
  go_wp2
  go_loopw [4] (fun v wr => LoopA rw_ b w s o R v wr) (fun v wr => gas b s.size wr * 2 + lenZ v)
  case atStart => exact ⟨k0, g0, [], hk0, hgk0, by simp, HR0.out, HR.out, HT.out⟩
  case round =>
    clear HR HT
    obtain ⟨k, g, l, hk, hgk, hlk, hg, hr, ht⟩ := hrel
    obtain ⟨A, c, rfl⟩ := row_slice ht.row
    have HG := Lib.hid hg
    have HR := Lib.hid hr
    have HRS := Lib.hid hr
    have HT := Lib.hid ht
    obtain ⟨c0, c1, _, _, f1, _, _⟩ := hr
    clear hg ht
    by_cases hl0 : l = []
    · subst hl0
      have HA : Hid (altL rw_ s.data.toList k g [] = R) := Lib.hid (by rw [← HG.out]; unfold nextA; rw [List.map_nil, if_pos rfl])
      have HLK : Hid (([] : List Rv).length = 0) := Lib.hid rfl
      have HMS : Hid (lenZ (.slice A ([] : List Rv).length c) = 1) := Lib.hid rfl
      have hkk := hk
      have hgkk := hgk
      clear hlk
      obtain ⟨sa1, sa2⟩ := hsane k g hkk hgkk
      rcases hp : rw_ k g with ⟨q, er⟩ | ⟨x, q, g'⟩
      · have KP := Lib.hid (treeE_bad hrw b hkk hgkk hp)
        have her := sa1 q er hp
        have er0 : (er == 0) = false := by rcases her with rfl | rfl <;> rfl
        have er0' : ¬ er = 0 := by omega
        have HX : Hid (Q = .bad q er) := Lib.hid (by rw [HQ.out, ← HA.out, altL_bad hp])
        have HER := Lib.hid her
        clear hp sa1 sa2 her
        go_wp2_with (first | (go_at_call 37; (with_reducible refine (KP.out _ HR.out).mono ?_); go_must (rintro _ wv ⟨⟨⟨kx, S, ks, lo, hi, n⟩, A', c', he⟩, ⟨g2, hr1⟩, hg1⟩; have he2 : _ = Ending.returned (.tuple #[.agg #[.int .i64 kx, .int .u64 S.1.toNat, .int .u64 S.2.1.toNat, .int .u64 S.2.2.1.toNat, .int .u64 S.2.2.2.toNat, .slice A' ks.length c', .int .i64 lo, .int .i64 hi, .int .i64 n], .int .i64 er]) := he; clear he; subst he2; have ht1 := (HT.out.next hg1).next (grown_below (one_box wv (.cells #[.int .i64 kx, .int .u64 S.1.toNat, .int .u64 S.2.1.toNat, .int .u64 S.2.2.1.toNat, .int .u64 S.2.2.2.toNat, .slice A' ks.length c', .int .i64 lo, .int .i64 hi, .int .i64 n] 27))); have HR1 := Lib.hid (hr1.below (one_box wv (.cells #[.int .i64 kx, .int .u64 S.1.toNat, .int .u64 S.2.1.toNat, .int .u64 S.2.2.1.toNat, .int .u64 S.2.2.2.toNat, .slice A' ks.length c', .int .i64 lo, .int .i64 hi, .int .i64 n] 27))); obtain ⟨d0, d1, d2, d3, d4, d5, d6, d7, d8, _⟩ := ht1.res; obtain ⟨e0, e1, e2, e3, e4, e5, e6, e7, e8⟩ := Box9.freed ht1.res; have HT1 := Lib.hid ht1; clear ht1 hg1 hr1)))
        obtain ⟨W3, hW3, hbx, hr, hgw⟩ := endT (.int .i64 0) (.int .u64 0) (.int .u64 0) (.int .u64 0) (.int .u64 0) (.slice none 0 0) (.int .i64 0) (.int .i64 0) (.int .i64 0) hb.out HR1.out HT1.out.grown HT1.out.res
        unfold put9 at hW3
        rw [← hW3]
        obtain ⟨l0, l1, l2, l3, l4, l5, l6, l7, l8, _⟩ := hbx
        exact bodyPost_ret (v := .tuple #[.agg #[.int .i64 0, .int .u64 0, .int .u64 0, .int .u64 0, .int .u64 0, .slice none 0 0, .int .i64 0, .int .i64 0, .int .i64 0], .int .i64 er]) (by simp [results, Tryd.results23, go_sem, l0, l1, l2, l3, l4, l5, l6, l7, l8]) rfl (postt_bad HX.out (mkRow []) none 0 (by rfl) HER.out hr hgw)
      · obtain ⟨kx, S, ks, lo, hi, n⟩ := x
        have KP := Lib.hid (treeE_ok hrw b hkk hgkk hp)
        obtain ⟨hq1, hq2, hq3⟩ := sa2 _ q g' hp
        have HX : Hid (nextA rw_ s.data.toList q g' ([] ++ [.mk kx S ks lo hi n]) = R) := Lib.hid (by rw [nextA_ok hp hq1]; exact HA.out)
        have HQ3 := Lib.hid (And.intro hq1 (And.intro hq2 hq3))
        clear hp sa1 sa2 hq1 hq2 hq3
        go_wp2_with (first | (go_at_call 37; (with_reducible refine (KP.out _ HR.out).mono ?_); go_must (rintro _ wv ⟨⟨A', c', he, hkid⟩, hr1, hg1⟩; have he2 : _ = Ending.returned (.tuple #[.agg #[.int .i64 kx, .int .u64 S.1.toNat, .int .u64 S.2.1.toNat, .int .u64 S.2.2.1.toNat, .int .u64 S.2.2.2.toNat, .slice A' ks.length c', .int .i64 lo, .int .i64 hi, .int .i64 n], .int .i64 0]) := he; clear he; subst he2; have ha1 := grown_below (b := b) (one_box wv (.cells #[.int .i64 kx, .int .u64 S.1.toNat, .int .u64 S.2.1.toNat, .int .u64 S.2.2.1.toNat, .int .u64 S.2.2.2.toNat, .slice A' ks.length c', .int .i64 lo, .int .i64 hi, .int .i64 n] 27)); have ha2 := grown_below (b := b) (one_box (wv.alloc (.cells #[.int .i64 kx, .int .u64 S.1.toNat, .int .u64 S.2.1.toNat, .int .u64 S.2.2.1.toNat, .int .u64 S.2.2.2.toNat, .slice A' ks.length c', .int .i64 lo, .int .i64 hi, .int .i64 n] 27)) (.cells #[.int .i64 kx, .int .u64 S.1.toNat, .int .u64 S.2.1.toNat, .int .u64 S.2.2.1.toNat, .int .u64 S.2.2.2.toNat, .slice A' ks.length c', .int .i64 lo, .int .i64 hi, .int .i64 n] 27)); have HR1 := Lib.hid ((hr1.below (one_box wv (.cells #[.int .i64 kx, .int .u64 S.1.toNat, .int .u64 S.2.1.toNat, .int .u64 S.2.2.1.toNat, .int .u64 S.2.2.2.toNat, .slice A' ks.length c', .int .i64 lo, .int .i64 hi, .int .i64 n] 27))).below (one_box (wv.alloc (.cells #[.int .i64 kx, .int .u64 S.1.toNat, .int .u64 S.2.1.toNat, .int .u64 S.2.2.1.toNat, .int .u64 S.2.2.2.toNat, .slice A' ks.length c', .int .i64 lo, .int .i64 hi, .int .i64 n] 27)) (.cells #[.int .i64 kx, .int .u64 S.1.toNat, .int .u64 S.2.1.toNat, .int .u64 S.2.2.1.toNat, .int .u64 S.2.2.2.toNat, .slice A' ks.length c', .int .i64 lo, .int .i64 hi, .int .i64 n] 27))); have HT1 := Lib.hid (((HT.out.next hg1).next ha1).next ha2); have hlo := HT.out.hb; have hlb := HT.out.base; have HK1 := Lib.hid (HT.out.fresh ((hkid.grownF ha1 (.inl (by omega)) (Nat.le_refl _)).grownF ha2 (.inl (by omega)) (by simp)) (by simp; omega)); obtain ⟨p0, p1, p2, p3, p4, p5, p6, p7, p8, _⟩ := Box9.new wv (.int .i64 kx) (.int .u64 S.1.toNat) (.int .u64 S.2.1.toNat) (.int .u64 S.2.2.1.toNat) (.int .u64 S.2.2.2.toNat) (.slice A' ks.length c') (.int .i64 lo) (.int .i64 hi) (.int .i64 n); clear ha1 ha2 hg1 hr1 hkid hlo hlb)) | (at_builtin; go_must (refine wpList_append_lies _ rfl (.tmp 23) (.tmp 25) 25 rfl (w.heap.size + 1) 27 i0 (.agg #[.int .i64 0, .int .u64 0, .int .u64 0, .int .u64 0, .int .u64 0, .slice none 0 0, .int .i64 0, .int .i64 0, .int .i64 0]) 9 88 Tryd.underlying25 hi0 hz0 hz1 hz2 rfl (by decide) _ _ _ rfl HT1.out.row ⟨wv.heap.size + 1, 0, none⟩ 1 1 [.int .i64 kx, .int .u64 S.1.toNat, .int .u64 S.2.1.toNat, .int .u64 S.2.2.1.toNat, .int .u64 S.2.2.2.toNat, .slice A' ks.length c', .int .i64 lo, .int .i64 hi, .int .i64 n] rfl rfl (fun j u hu => new_cells2 wv (.cells #[.int .i64 kx, .int .u64 S.1.toNat, .int .u64 S.2.1.toNat, .int .u64 S.2.2.1.toNat, .int .u64 S.2.2.2.toNat, .slice A' ks.length c', .int .i64 lo, .int .i64 hi, .int .i64 n] 27) 27 #[.int .i64 kx, .int .u64 S.1.toNat, .int .u64 S.2.1.toNat, .int .u64 S.2.2.1.toNat, .int .u64 S.2.2.2.toNat, .slice A' ks.length c', .int .i64 lo, .int .i64 hi, .int .i64 n] j u hu) (cellsT_one (.mk kx S ks lo hi n) A' c') (by omega) (by have := HLK.out; unfold maxLen; omega) (by have := HLK.out; omega) HT1.out.base _ rfl ?_); intro g3 cap3 w3 hown' hgrow hat hlt))
        go_roundw
        case rel =>
          refine ⟨q, g', [] ++ [(.mk kx S ks lo hi n, A', c')], HQ3.out.2.1, HQ3.out.2.2, by rw [List.length_append]; have := HQ3.out.1; have := HLK.out; simp, ?_, HT1.out.rdr hgrow HR1.out, HT1.out.push (x := (.mk kx S ks lo hi n, A', c')) HK1.out hown' hgrow hat (HT1.out.grow hgrow)⟩
          rw [List.map_append]
          exact HX.out
        case measure =>
          have h3 := HT1.out.rdr hgrow HR1.out
          rw [gas_is h3, gas_is HRS.out]
          have := HQ3.out
          have := HLK.out
          show (s.size - q) * 2 + 0 < (s.size - k) * 2 + 1
          omega
    · obtain ⟨m, hm⟩ : ∃ m, m = l.length := ⟨_, rfl⟩
      have hm1 : 1 ≤ m := by rw [hm]; cases l with | nil => exact absurd rfl hl0 | cons => simp
      have m0 : ((m : Int) == 0) = false := by simp; omega
      have m0' : ¬ (m : Int) = 0 := by omega
      have hmap : l.map (·.1) ≠ [] := by simpa using hl0
      by_cases h124 : s.data.toList[k]? = some 124
      · obtain ⟨k1, hk1⟩ : ∃ k1, k1 = k + 1 := ⟨_, rfl⟩
        have KS := Lib.hid (skip_yes looks124 b g o (by omega) h124 hk1)
        have hlt := lt_of_get h124
        have HLK : Hid (l.length + 1 ≤ k1 + 1 ∧ k + 1 = k1 ∧ k < s.size) := Lib.hid ⟨by omega, hk1.symm, by rw [← HSZ.out]; exact hlt⟩
        have HA : Hid (altL rw_ s.data.toList k1 g (l.map (·.1)) = R) := Lib.hid (by rw [← HG.out]; unfold nextA; rw [if_neg hmap, if_pos h124, hk1])
        have HMS : Hid (lenZ (.slice A l.length c) = lenZ (.slice A l.length c)) := Lib.hid rfl
        have hkk : k1 ≤ s.size := by have := HSZ.out; omega
        have hgkk : g ≤ k1 := by omega
        have hlm : l.length ≤ 1000 := by omega
        rw [← hm] at HT
        rw [← hm]
        clear hmap h124 hk1 hl0 hlt hm
        obtain ⟨sa1, sa2⟩ := hsane k1 g hkk hgkk
        rcases hp : rw_ k1 g with ⟨q, er⟩ | ⟨x, q, g'⟩
        · have KP := Lib.hid (treeE_bad hrw b hkk hgkk hp)
          have her := sa1 q er hp
          have er0 : (er == 0) = false := by rcases her with rfl | rfl <;> rfl
          have er0' : ¬ er = 0 := by omega
          have HX : Hid (Q = .bad q er) := Lib.hid (by rw [HQ.out, ← HA.out, altL_bad hp])
          have HER := Lib.hid her
          clear hp sa1 sa2 her
          go_wp2_with (first | (go_at_call 36; (with_reducible refine (KS.out _ HR.out).mono ?_); go_must (rintro _ wz ⟨rfl, hr1, hg1⟩; have ht1 := HT.out.next hg1; have HR9 := Lib.hid hr1; have HT9 := Lib.hid ht1; obtain ⟨d0, d1, d2, d3, d4, d5, d6, d7, d8, _⟩ := ht1.res; obtain ⟨e0, e1, e2, e3, e4, e5, e6, e7, e8⟩ := Box9.freed ht1.res; clear HR HT; have HR := HR9; have HT := HT9; clear hg1 hr1 ht1)) | (go_at_call 37; (with_reducible refine (KP.out _ HR.out).mono ?_); go_must (rintro _ wv ⟨⟨⟨kx, S, ks, lo, hi, n⟩, A', c', he⟩, ⟨g2, hr1⟩, hg1⟩; have he2 : _ = Ending.returned (.tuple #[.agg #[.int .i64 kx, .int .u64 S.1.toNat, .int .u64 S.2.1.toNat, .int .u64 S.2.2.1.toNat, .int .u64 S.2.2.2.toNat, .slice A' ks.length c', .int .i64 lo, .int .i64 hi, .int .i64 n], .int .i64 er]) := he; clear he; subst he2; have ht1 := (HT.out.next hg1).next (grown_below (one_box wv (.cells #[.int .i64 kx, .int .u64 S.1.toNat, .int .u64 S.2.1.toNat, .int .u64 S.2.2.1.toNat, .int .u64 S.2.2.2.toNat, .slice A' ks.length c', .int .i64 lo, .int .i64 hi, .int .i64 n] 27))); have HR1 := Lib.hid (hr1.below (one_box wv (.cells #[.int .i64 kx, .int .u64 S.1.toNat, .int .u64 S.2.1.toNat, .int .u64 S.2.2.1.toNat, .int .u64 S.2.2.2.toNat, .slice A' ks.length c', .int .i64 lo, .int .i64 hi, .int .i64 n] 27))); obtain ⟨d0, d1, d2, d3, d4, d5, d6, d7, d8, _⟩ := ht1.res; obtain ⟨e0, e1, e2, e3, e4, e5, e6, e7, e8⟩ := Box9.freed ht1.res; have HT1 := Lib.hid ht1; clear ht1 hg1 hr1)))
          obtain ⟨W3, hW3, hbx, hr, hgw⟩ := endT (.int .i64 0) (.int .u64 0) (.int .u64 0) (.int .u64 0) (.int .u64 0) (.slice none 0 0) (.int .i64 0) (.int .i64 0) (.int .i64 0) hb.out HR1.out HT1.out.grown HT1.out.res
          unfold put9 at hW3
          rw [← hW3]
          obtain ⟨l0, l1, l2, l3, l4, l5, l6, l7, l8, _⟩ := hbx
          exact bodyPost_ret (v := .tuple #[.agg #[.int .i64 0, .int .u64 0, .int .u64 0, .int .u64 0, .int .u64 0, .slice none 0 0, .int .i64 0, .int .i64 0, .int .i64 0], .int .i64 er]) (by simp [results, Tryd.results23, go_sem, l0, l1, l2, l3, l4, l5, l6, l7, l8]) rfl (postt_bad HX.out (mkRow []) none 0 (by rfl) HER.out hr hgw)
        · obtain ⟨kx, S, ks, lo, hi, n⟩ := x
          have KP := Lib.hid (treeE_ok hrw b hkk hgkk hp)
          obtain ⟨hq1, hq2, hq3⟩ := sa2 _ q g' hp
          have HX : Hid (nextA rw_ s.data.toList q g' (l.map (·.1) ++ [.mk kx S ks lo hi n]) = R) := Lib.hid (by rw [nextA_ok hp hq1]; exact HA.out)
          have HQ3 := Lib.hid (And.intro hq1 (And.intro hq2 hq3))
          clear hp sa1 sa2 hq1 hq2 hq3
          go_wp2_with (first | (go_at_call 36; (with_reducible refine (KS.out _ HR.out).mono ?_); go_must (rintro _ wz ⟨rfl, hr1, hg1⟩; have ht1 := HT.out.next hg1; have HR9 := Lib.hid hr1; have HT9 := Lib.hid ht1; obtain ⟨d0, d1, d2, d3, d4, d5, d6, d7, d8, _⟩ := ht1.res; obtain ⟨e0, e1, e2, e3, e4, e5, e6, e7, e8⟩ := Box9.freed ht1.res; clear HR HT; have HR := HR9; have HT := HT9; clear hg1 hr1 ht1)) | (go_at_call 37; (with_reducible refine (KP.out _ HR.out).mono ?_); go_must (rintro _ wv ⟨⟨A', c', he, hkid⟩, hr1, hg1⟩; have he2 : _ = Ending.returned (.tuple #[.agg #[.int .i64 kx, .int .u64 S.1.toNat, .int .u64 S.2.1.toNat, .int .u64 S.2.2.1.toNat, .int .u64 S.2.2.2.toNat, .slice A' ks.length c', .int .i64 lo, .int .i64 hi, .int .i64 n], .int .i64 0]) := he; clear he; subst he2; have ha1 := grown_below (b := b) (one_box wv (.cells #[.int .i64 kx, .int .u64 S.1.toNat, .int .u64 S.2.1.toNat, .int .u64 S.2.2.1.toNat, .int .u64 S.2.2.2.toNat, .slice A' ks.length c', .int .i64 lo, .int .i64 hi, .int .i64 n] 27)); have ha2 := grown_below (b := b) (one_box (wv.alloc (.cells #[.int .i64 kx, .int .u64 S.1.toNat, .int .u64 S.2.1.toNat, .int .u64 S.2.2.1.toNat, .int .u64 S.2.2.2.toNat, .slice A' ks.length c', .int .i64 lo, .int .i64 hi, .int .i64 n] 27)) (.cells #[.int .i64 kx, .int .u64 S.1.toNat, .int .u64 S.2.1.toNat, .int .u64 S.2.2.1.toNat, .int .u64 S.2.2.2.toNat, .slice A' ks.length c', .int .i64 lo, .int .i64 hi, .int .i64 n] 27)); have HR1 := Lib.hid ((hr1.below (one_box wv (.cells #[.int .i64 kx, .int .u64 S.1.toNat, .int .u64 S.2.1.toNat, .int .u64 S.2.2.1.toNat, .int .u64 S.2.2.2.toNat, .slice A' ks.length c', .int .i64 lo, .int .i64 hi, .int .i64 n] 27))).below (one_box (wv.alloc (.cells #[.int .i64 kx, .int .u64 S.1.toNat, .int .u64 S.2.1.toNat, .int .u64 S.2.2.1.toNat, .int .u64 S.2.2.2.toNat, .slice A' ks.length c', .int .i64 lo, .int .i64 hi, .int .i64 n] 27)) (.cells #[.int .i64 kx, .int .u64 S.1.toNat, .int .u64 S.2.1.toNat, .int .u64 S.2.2.1.toNat, .int .u64 S.2.2.2.toNat, .slice A' ks.length c', .int .i64 lo, .int .i64 hi, .int .i64 n] 27))); have HT1 := Lib.hid (((HT.out.next hg1).next ha1).next ha2); have hlo := HT.out.hb; have hlb := HT.out.base; have HK1 := Lib.hid (HT.out.fresh ((hkid.grownF ha1 (.inl (by omega)) (Nat.le_refl _)).grownF ha2 (.inl (by omega)) (by simp)) (by simp; omega)); obtain ⟨p0, p1, p2, p3, p4, p5, p6, p7, p8, _⟩ := Box9.new wv (.int .i64 kx) (.int .u64 S.1.toNat) (.int .u64 S.2.1.toNat) (.int .u64 S.2.2.1.toNat) (.int .u64 S.2.2.2.toNat) (.slice A' ks.length c') (.int .i64 lo) (.int .i64 hi) (.int .i64 n); clear ha1 ha2 hg1 hr1 hkid hlo hlb)) | (at_builtin; go_must (refine wpList_append_lies _ rfl (.tmp 23) (.tmp 25) 25 rfl (w.heap.size + 1) 27 i0 (.agg #[.int .i64 0, .int .u64 0, .int .u64 0, .int .u64 0, .int .u64 0, .slice none 0 0, .int .i64 0, .int .i64 0, .int .i64 0]) 9 88 Tryd.underlying25 hi0 hz0 hz1 hz2 rfl (by decide) _ _ _ rfl HT1.out.row ⟨wv.heap.size + 1, 0, none⟩ 1 1 [.int .i64 kx, .int .u64 S.1.toNat, .int .u64 S.2.1.toNat, .int .u64 S.2.2.1.toNat, .int .u64 S.2.2.2.toNat, .slice A' ks.length c', .int .i64 lo, .int .i64 hi, .int .i64 n] rfl rfl (fun j u hu => new_cells2 wv (.cells #[.int .i64 kx, .int .u64 S.1.toNat, .int .u64 S.2.1.toNat, .int .u64 S.2.2.1.toNat, .int .u64 S.2.2.2.toNat, .slice A' ks.length c', .int .i64 lo, .int .i64 hi, .int .i64 n] 27) 27 #[.int .i64 kx, .int .u64 S.1.toNat, .int .u64 S.2.1.toNat, .int .u64 S.2.2.1.toNat, .int .u64 S.2.2.2.toNat, .slice A' ks.length c', .int .i64 lo, .int .i64 hi, .int .i64 n] j u hu) (cellsT_one (.mk kx S ks lo hi n) A' c') (by omega) (by have := HLK.out; unfold maxLen; omega) (by have := HLK.out; omega) HT1.out.base _ rfl ?_); intro g3 cap3 w3 hown' hgrow hat hlt))
          go_roundw
          case rel =>
            refine ⟨q, g', l ++ [(.mk kx S ks lo hi n, A', c')], HQ3.out.2.1, HQ3.out.2.2, by rw [List.length_append]; have := HQ3.out.1; have := HLK.out; simp; omega, ?_, HT1.out.rdr hgrow HR1.out, HT1.out.push (x := (.mk kx S ks lo hi n, A', c')) HK1.out hown' hgrow hat (HT1.out.grow hgrow)⟩
            rw [List.map_append]
            exact HX.out
          case measure =>
            have h3 := HT1.out.rdr hgrow HR1.out
            rw [gas_is h3, gas_is HRS.out]
            have := HQ3.out
            have := HLK.out
            show (s.size - q) * 2 + 0 < (s.size - k) * 2 + _
            omega
      · have KS := Lib.hid (skip_no looks124 b g o (by omega) h124)
        have HX : Hid (Q = .ok (mkAlt (l.map (·.1))) k g) := Lib.hid (by rw [HQ.out, ← HG.out]; unfold nextA; rw [if_neg hmap, if_neg h124])
        clear hmap h124 hm m0 m0' hm1
        rcases l with _ | ⟨x, _ | ⟨y, r⟩⟩
        · exact absurd rfl hl0
        · obtain ⟨gx, cap, hv, _, hgx⟩ := HT.out.row.form (by simp)
          injection hv with hA _ hc
          subst hA hc
          obtain ⟨⟨kx, S, ks, lo, hi, n⟩, A', c'⟩ := x
          clear hgx
          go_wp2_with ((go_at_call 36; (with_reducible refine (KS.out _ HR.out).mono ?_); go_must (rintro _ wz ⟨rfl, hr1, hg1⟩; have ht1 := HT.out.next hg1; have HR9 := Lib.hid hr1; have HT9 := Lib.hid ht1; obtain ⟨d0, d1, d2, d3, d4, d5, d6, d7, d8, _⟩ := ht1.res; obtain ⟨e0, e1, e2, e3, e4, e5, e6, e7, e8⟩ := Box9.freed ht1.res; clear HR HT; have HR := HR9; have HT := HT9; obtain ⟨x0, x1, x2, x3, x4, x5, x6, x7, x8⟩ := at9_zero (ht1.at_ (i := 0) rfl); clear hg1 hr1 ht1)))
          obtain ⟨W3, hW3, hbx, hr, hgw⟩ := endT (.int .i64 kx) (.int .u64 S.1.toNat) (.int .u64 S.2.1.toNat) (.int .u64 S.2.2.1.toNat) (.int .u64 S.2.2.2.toNat) (.slice A' ks.length c') (.int .i64 lo) (.int .i64 hi) (.int .i64 n) hb.out HR.out HT.out.grown HT.out.res
          have KK : Kids (Fr w.heap.size W3.heap.size) W3 A' (.mk kx S ks lo hi n) := by
            have hs2 := congrArg (fun W => W.heap.size) hW3
            simp only [size_put9] at hs2
            rw [hs2, hW3]
            have hk1 := kids_of (Q := Fr (w.heap.size + 1) wz.heap.size) (fun _ _ => rfl) (fun k hk => ⟨hk.1, hk.2.1⟩) _ _ (HT.out.kids (Re.mk kx S ks lo hi n, A', c') (by simp))
            exact (hk1.put9 (.inl (by omega)) _ _ _ _ _ _ _ _ _).wide (by omega) (Nat.le_refl _)
          unfold put9 at hW3
          rw [← hW3]
          obtain ⟨l0, l1, l2, l3, l4, l5, l6, l7, l8, _⟩ := hbx
          exact bodyPost_ret (v := .tuple #[.agg #[.int .i64 kx, .int .u64 S.1.toNat, .int .u64 S.2.1.toNat, .int .u64 S.2.2.1.toNat, .int .u64 S.2.2.2.toNat, .slice A' ks.length c', .int .i64 lo, .int .i64 hi, .int .i64 n], .int .i64 0]) (by simp [results, Tryd.results23, go_sem, l0, l1, l2, l3, l4, l5, l6, l7, l8]) rfl (postt_ok HX.out A' c' (by rfl) KK hgk hr hgw)
        · obtain ⟨m, hm⟩ : ∃ m, m = (x :: y :: r).length := ⟨_, rfl⟩
          rw [← hm] at HT
          rw [← hm]
          have hm2 : 2 ≤ m := by rw [hm]; simp
          have m0 : ((m : Int) == 0) = false := by simp; omega
          have m1 : ((m : Int) == 1) = false := by simp; omega
          have HM := Lib.hid hm
          clear hm
          go_wp2_with ((go_at_call 36; (with_reducible refine (KS.out _ HR.out).mono ?_); go_must (rintro _ wz ⟨rfl, hr1, hg1⟩; have ht1 := HT.out.next hg1; have HR9 := Lib.hid hr1; have HT9 := Lib.hid ht1; obtain ⟨d0, d1, d2, d3, d4, d5, d6, d7, d8, _⟩ := ht1.res; obtain ⟨e0, e1, e2, e3, e4, e5, e6, e7, e8⟩ := Box9.freed ht1.res; clear HR HT; have HR := HR9; have HT := HT9; clear hg1 hr1 ht1)))
          obtain ⟨W3, hW3, hbx, hr, hgw⟩ := endT (.int .i64 5) (.int .u64 0) (.int .u64 0) (.int .u64 0) (.int .u64 0) (.slice A m c) (.int .i64 0) (.int .i64 0) (.int .i64 0) hb.out HR.out HT.out.grown HT.out.res
          have KK : Kids (Fr w.heap.size W3.heap.size) W3 A (mkAlt ((x :: y :: r).map (·.1))) := by
            have hs2 := congrArg (fun W => W.heap.size) hW3
            simp only [size_put9] at hs2
            rw [hs2, hW3]
            have hk1 := HT.out.whole1 5 none4 0 0 0
            exact (hk1.put9 (.inl (by omega)) _ _ _ _ _ _ _ _ _).wide (by omega) (Nat.le_refl _)
          unfold put9 at hW3
          rw [← hW3]
          obtain ⟨l0, l1, l2, l3, l4, l5, l6, l7, l8, _⟩ := hbx
          have hval : Value.tuple #[.agg #[.int .i64 5, .int .u64 0, .int .u64 0, .int .u64 0, .int .u64 0, .slice A m c, .int .i64 0, .int .i64 0, .int .i64 0], .int .i64 0] = .tuple #[valR (mkAlt ((x :: y :: r).map (·.1))) A c, .int .i64 0] := by rw [HM.out]; show _ = Value.tuple #[.agg #[.int .i64 5, .int .u64 0, .int .u64 0, .int .u64 0, .int .u64 0, .slice A (r.map (·.1)).length.succ.succ c, .int .i64 0, .int .i64 0, .int .i64 0], .int .i64 0]; rw [List.length_map]; rfl
          exact bodyPost_ret (v := .tuple #[.agg #[.int .i64 5, .int .u64 0, .int .u64 0, .int .u64 0, .int .u64 0, .slice A m c, .int .i64 0, .int .i64 0, .int .i64 0], .int .i64 0]) (by simp [results, Tryd.results23, go_sem, l0, l1, l2, l3, l4, l5, l6, l7, l8]) rfl (postt_ok HX.out A c hval KK hgk hr hgw)
end Go.Proofs.YtccheljfbjllhaaDoor
