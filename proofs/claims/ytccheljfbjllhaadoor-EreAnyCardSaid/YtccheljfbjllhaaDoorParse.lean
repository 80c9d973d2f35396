/- The contract of Parse. -/
import Derived.Test.YtccheljfbjllhaaDoorRdr14
namespace Go.Proofs.YtccheljfbjllhaaDoor
open Go Go.RowKit

def PostX (w : World) (R : Option Re × Nat × Int) (e : Ending) (w' : World) : Prop := Below w.heap.size w w' ∧ match R with
  | (none, q, er) => e = .returned (.tuple #[.agg #[.int .i64 0, .int .u64 0, .int .u64 0, .int .u64 0, .int .u64 0, .slice none 0 0, .int .i64 0, .int .i64 0, .int .i64 0], .int .i64 q, .int .i64 er])
  | (some x, _, _) => ∃ A c, e = .returned (.tuple #[valR x A c, .int .i64 0, .int .i64 0]) ∧ Kids (Fr w.heap.size w'.heap.size) w' A x
theorem postx_bad {w w' : World} {R : Option Re × Nat × Int} {q : Nat} {er : Int} {v : Value} (h : R = (none, q, er)) (hv : v = .tuple #[.agg #[.int .i64 0, .int .u64 0, .int .u64 0, .int .u64 0, .int .u64 0, .slice none 0 0, .int .i64 0, .int .i64 0, .int .i64 0], .int .i64 q, .int .i64 er]) (hb : Below w.heap.size w w') : PostX w R (.returned v) w' := by subst h hv; exact ⟨hb, rfl⟩
theorem postx_ok {w w' : World} {R : Option Re × Nat × Int} {x : Re} {v : Value} (h : R = (some x, 0, 0)) (A : Option Addr) (c : Nat) (hv : v = .tuple #[valR x A c, .int .i64 0, .int .i64 0]) (hk : Kids (Fr w.heap.size w'.heap.size) w' A x) (hb : Below w.heap.size w w') : PostX w R (.returned v) w' := by subst h hv; exact ⟨hb, A, c, rfl, hk⟩
theorem Box9.drew {w : World} {c : Nat} {v0 v1 v2 v3 v4 v5 v6 v7 v8 : Value} (h : Box9 w c v0 v1 v2 v3 v4 v5 v6 v7 v8) : Box9 w.drew c v0 v1 v2 v3 v4 v5 v6 v7 v8 := ⟨h.c0, h.c1, h.c2, h.c3, h.c4, h.c5, h.c6, h.c7, h.c8, h.fr⟩
theorem below_of_grown {b : Nat} {w w1 w' : World} (h1 : Below w.heap.size w w1) (hg : w1.grownBy w' (some b)) (hb : w.heap.size ≤ b) : Below w.heap.size w w' := below_grown h1 hg h1.size hb
theorem rdr_new (w : World) (o1 : Obj) (s : ByteArray) : Rdr (w.heap.size + 1) ((w.alloc o1).alloc (.cells #[.string s, .int .i64 0, .int .i64 0, .int .i64 0] 54)) s 0 0 0 := by
  refine ⟨?_, ?_, ?_, ?_, ?_, ?_, ?_⟩ <;> simp [go_sem]
theorem set_below {B : Nat} {w W : World} (h : Below B w W) {c : Nat} (hc : B ≤ c) (v0 v1 v2 v3 v4 v5 v6 v7 v8 : Value) : Below B w (put9 W c v0 v1 v2 v3 v4 v5 v6 v7 v8) := by
  unfold put9
  exact (((((((((h.setCell hc _).setCell hc _).setCell hc _).setCell hc _).setCell hc _).setCell hc _).setCell hc _).setCell hc _).setCell hc _)
set_option maxRecDepth 100000 in
set_option maxHeartbeats 4000000 in
theorem parse_any (s : ByteArray) (w : World) : Calls Tryd.prog 14 #[.string s] w (PostX w (parseE s.data.toList)) := by
  obtain ⟨R, hR⟩ : ∃ R, R = parseE s.data.toList := ⟨_, rfl⟩
  rw [← hR]
  unfold parseE at hR
  have hsz : s.data.toList.length = s.size := rfl
  rw [hsz] at hR
  have HN := Lib.hid (Box9.new w (.int .i64 0) (.int .u64 0) (.int .u64 0) (.int .u64 0) (.int .u64 0) (.slice none 0 0) (.int .i64 0) (.int .i64 0) (.int .i64 0))
  by_cases h200 : 200 < s.size
  · rw [if_pos h200] at hR
    have HX := Lib.hid hR
    obtain ⟨l0, l1, l2, l3, l4, l5, l6, l7, l8, _⟩ := HN.out
    have b1 : decide ((200 : Int) < (s.size : Int)) = true := by simp; omega
    clear hR hsz
    go_enter Tryd.func14, Tryd.ntmps14
    go_wp2
    exact bodyPost_ret (v := .tuple #[.agg #[.int .i64 0, .int .u64 0, .int .u64 0, .int .u64 0, .int .u64 0, .slice none 0 0, .int .i64 0, .int .i64 0, .int .i64 0], .int .i64 200, .int .i64 2]) (by simp [results, Tryd.results14, go_sem, l0, l1, l2, l3, l4, l5, l6, l7, l8]) rfl (postx_bad HX.out (by rfl) (one_box _ _))
  · rw [if_neg h200] at hR
    have b1 : decide ((200 : Int) < (s.size : Int)) = false := by simp; omega
    have hex := ex_any s (by omega)
    obtain ⟨sb, hsb⟩ : ∃ sb, sb = w.heap.size + 1 := ⟨_, rfl⟩
    have HR0 := Lib.hid (rdr_new w (.cells #[.int .i64 0, .int .u64 0, .int .u64 0, .int .u64 0, .int .u64 0, .slice none 0 0, .int .i64 0, .int .i64 0, .int .i64 0] 27) s)
    have HB0 := Lib.hid (HN.out.grown (b := w.heap.size + 1) (grown_below (one_box _ (.cells #[.string s, .int .i64 0, .int .i64 0, .int .i64 0] 54))) (by omega))
    have HW := Lib.hid (two_boxes w (.cells #[.int .i64 0, .int .u64 0, .int .u64 0, .int .u64 0, .int .u64 0, .slice none 0 0, .int .i64 0, .int .i64 0, .int .i64 0] 27) (.cells #[.string s, .int .i64 0, .int .i64 0, .int .i64 0] 54))
    clear hsb
    rcases hgg : exC s.data.toList 64 0 0 with ⟨q, er⟩ | ⟨x, q, g'⟩
    · have KP := Lib.hid (treeE_bad hex (w.heap.size + 1) (by omega) (by omega) hgg)
      have her := (exC_good s.data.toList 64 0 0 (by omega)).1 q er hgg
      have er0 : (er == 0) = false := by rcases her.2.2 with h | h <;> (first | (rw [h]; rfl) | (rw [h.1]; rfl))
      have er0' : ¬ er = 0 := by omega
      rw [hgg] at hR
      have HX := Lib.hid hR
      clear hR hsz hgg her
      go_enter Tryd.func14, Tryd.ntmps14
      go_wp2_with (go_at_call 23; (with_reducible refine (KP.out _ HR0.out).mono ?_); go_must (rintro _ wv ⟨⟨⟨kx, S, ks, lo, hi, n⟩, A, c, he⟩, ⟨g2, hr1⟩, hg1⟩; have he2 : _ = Ending.returned (.tuple #[.agg #[.int .i64 kx, .int .u64 S.1.toNat, .int .u64 S.2.1.toNat, .int .u64 S.2.2.1.toNat, .int .u64 S.2.2.2.toNat, .slice A ks.length c, .int .i64 lo, .int .i64 hi, .int .i64 n], .int .i64 er]) := he; clear he; subst he2; have HR1 := hr1.below (one_box wv (.cells #[.int .i64 kx, .int .u64 S.1.toNat, .int .u64 S.2.1.toNat, .int .u64 S.2.2.1.toNat, .int .u64 S.2.2.2.toNat, .slice A ks.length c, .int .i64 lo, .int .i64 hi, .int .i64 n] 27)); have HB1 := (HB0.out.grown hg1 (by omega)).grown (b := w.heap.size + 1) (grown_below (one_box wv (.cells #[.int .i64 kx, .int .u64 S.1.toNat, .int .u64 S.2.1.toNat, .int .u64 S.2.2.1.toNat, .int .u64 S.2.2.2.toNat, .slice A ks.length c, .int .i64 lo, .int .i64 hi, .int .i64 n] 27))) (by omega); have HW1 := Lib.hid ((below_of_grown HW.out hg1 (by omega)).trans ((one_box wv (.cells #[.int .i64 kx, .int .u64 S.1.toNat, .int .u64 S.2.1.toNat, .int .u64 S.2.2.1.toNat, .int .u64 S.2.2.2.toNat, .slice A ks.length c, .int .i64 lo, .int .i64 hi, .int .i64 n] 27)).mono (by have := HW.out.size; have := hg1.size; omega))); have HBX := Lib.hid HB1; obtain ⟨c0, c1, _, _, f1, _, _⟩ := HR1; obtain ⟨d0, d1, d2, d3, d4, d5, d6, d7, d8, _⟩ := HBX.out; obtain ⟨e0, e1, e2, e3, e4, e5, e6, e7, e8⟩ := Box9.freed HBX.out; clear HB1 hg1))
      go_region
      go_wp2
      have HBL := HW1.out
      obtain ⟨W3, hW3⟩ : ∃ W3, W3 = put9 (wv.alloc (.cells #[.int .i64 kx, .int .u64 S.1.toNat, .int .u64 S.2.1.toNat, .int .u64 S.2.2.1.toNat, .int .u64 S.2.2.2.toNat, .slice A ks.length c, .int .i64 lo, .int .i64 hi, .int .i64 n] 27)) w.heap.size (.int .i64 0) (.int .u64 0) (.int .u64 0) (.int .u64 0) (.int .u64 0) (.slice none 0 0) (.int .i64 0) (.int .i64 0) (.int .i64 0) := ⟨_, rfl⟩
      have hb3 : Box9 W3 w.heap.size (.int .i64 0) (.int .u64 0) (.int .u64 0) (.int .u64 0) (.int .u64 0) (.slice none 0 0) (.int .i64 0) (.int .i64 0) (.int .i64 0) := by rw [hW3]; exact HBX.out.put _ _ _ _ _ _ _ _ _
      have hbl : Below w.heap.size w W3 := by rw [hW3]; exact set_below HBL (Nat.le_refl _) _ _ _ _ _ _ _ _ _
      unfold put9 at hW3
      rw [← hW3]
      obtain ⟨l0, l1, l2, l3, l4, l5, l6, l7, l8, _⟩ := hb3.drew
      exact bodyPost_ret (v := .tuple #[.agg #[.int .i64 0, .int .u64 0, .int .u64 0, .int .u64 0, .int .u64 0, .slice none 0 0, .int .i64 0, .int .i64 0, .int .i64 0], .int .i64 q, .int .i64 er]) (by simp [results, Tryd.results14, go_sem, l0, l1, l2, l3, l4, l5, l6, l7, l8]) rfl (postx_bad HX.out (by rfl) hbl.drew)
    · obtain ⟨kx, S, ks, lo, hi, n⟩ := x
      have KP := Lib.hid (treeE_ok hex (w.heap.size + 1) (by omega) (by omega) hgg)
      have hq := (exC_good s.data.toList 64 0 0 (by omega)).2 _ q g' hgg
      rw [hgg] at hR
      dsimp only at hR
      by_cases hq2 : q < s.size
      · rw [if_pos hq2] at hR
        have HX := Lib.hid hR
        have b2 : decide ((q : Int) < (s.size : Int)) = true := by simp; omega
        clear hR hsz hgg hq
        go_enter Tryd.func14, Tryd.ntmps14
        go_wp2_with (go_at_call 23; (with_reducible refine (KP.out _ HR0.out).mono ?_); go_must (rintro _ wv ⟨⟨A, c, he, hkid⟩, hr1, hg1⟩; have he2 : _ = Ending.returned (.tuple #[.agg #[.int .i64 kx, .int .u64 S.1.toNat, .int .u64 S.2.1.toNat, .int .u64 S.2.2.1.toNat, .int .u64 S.2.2.2.toNat, .slice A ks.length c, .int .i64 lo, .int .i64 hi, .int .i64 n], .int .i64 0]) := he; clear he; subst he2; have HR1 := hr1.below (one_box wv (.cells #[.int .i64 kx, .int .u64 S.1.toNat, .int .u64 S.2.1.toNat, .int .u64 S.2.2.1.toNat, .int .u64 S.2.2.2.toNat, .slice A ks.length c, .int .i64 lo, .int .i64 hi, .int .i64 n] 27)); have HB1 := (HB0.out.grown hg1 (by omega)).grown (b := w.heap.size + 1) (grown_below (one_box wv (.cells #[.int .i64 kx, .int .u64 S.1.toNat, .int .u64 S.2.1.toNat, .int .u64 S.2.2.1.toNat, .int .u64 S.2.2.2.toNat, .slice A ks.length c, .int .i64 lo, .int .i64 hi, .int .i64 n] 27))) (by omega); have HW1 := Lib.hid ((below_of_grown HW.out hg1 (by omega)).trans ((one_box wv (.cells #[.int .i64 kx, .int .u64 S.1.toNat, .int .u64 S.2.1.toNat, .int .u64 S.2.2.1.toNat, .int .u64 S.2.2.2.toNat, .slice A ks.length c, .int .i64 lo, .int .i64 hi, .int .i64 n] 27)).mono (by have := HW.out.size; have := hg1.size; omega))); have HBX := Lib.hid HB1; obtain ⟨c0, c1, _, _, f1, _, _⟩ := HR1; obtain ⟨d0, d1, d2, d3, d4, d5, d6, d7, d8, _⟩ := HBX.out; obtain ⟨e0, e1, e2, e3, e4, e5, e6, e7, e8⟩ := Box9.freed HBX.out; have HKD := Lib.hid (((hkid.grownF (b := w.heap.size + 1) (grown_below (one_box wv (.cells #[.int .i64 kx, .int .u64 S.1.toNat, .int .u64 S.2.1.toNat, .int .u64 S.2.2.1.toNat, .int .u64 S.2.2.2.toNat, .slice A ks.length c, .int .i64 lo, .int .i64 hi, .int .i64 n] 27))) (.inl (by simp)) (Nat.le_refl _)))); obtain ⟨x0, x1, x2, x3, x4, x5, x6, x7, x8, _⟩ := Box9.new wv (.int .i64 kx) (.int .u64 S.1.toNat) (.int .u64 S.2.1.toNat) (.int .u64 S.2.2.1.toNat) (.int .u64 S.2.2.2.toNat) (.slice A ks.length c) (.int .i64 lo) (.int .i64 hi) (.int .i64 n); have HWS := Lib.hid hg1.size; clear HB1 hg1 hkid))
        go_region
        go_wp2
        have HBL := HW1.out
        obtain ⟨W3, hW3⟩ : ∃ W3, W3 = put9 (wv.alloc (.cells #[.int .i64 kx, .int .u64 S.1.toNat, .int .u64 S.2.1.toNat, .int .u64 S.2.2.1.toNat, .int .u64 S.2.2.2.toNat, .slice A ks.length c, .int .i64 lo, .int .i64 hi, .int .i64 n] 27)) w.heap.size (.int .i64 0) (.int .u64 0) (.int .u64 0) (.int .u64 0) (.int .u64 0) (.slice none 0 0) (.int .i64 0) (.int .i64 0) (.int .i64 0) := ⟨_, rfl⟩
        have hb3 : Box9 W3 w.heap.size (.int .i64 0) (.int .u64 0) (.int .u64 0) (.int .u64 0) (.int .u64 0) (.slice none 0 0) (.int .i64 0) (.int .i64 0) (.int .i64 0) := by rw [hW3]; exact HBX.out.put _ _ _ _ _ _ _ _ _
        have hbl : Below w.heap.size w W3 := by rw [hW3]; exact set_below HBL (Nat.le_refl _) _ _ _ _ _ _ _ _ _
        unfold put9 at hW3
        rw [← hW3]
        obtain ⟨l0, l1, l2, l3, l4, l5, l6, l7, l8, _⟩ := hb3
        exact bodyPost_ret (v := .tuple #[.agg #[.int .i64 0, .int .u64 0, .int .u64 0, .int .u64 0, .int .u64 0, .slice none 0 0, .int .i64 0, .int .i64 0, .int .i64 0], .int .i64 q, .int .i64 1]) (by simp [results, Tryd.results14, go_sem, l0, l1, l2, l3, l4, l5, l6, l7, l8]) rfl (postx_bad HX.out (by rfl) hbl.drew)
      · rw [if_neg hq2] at hR
        have HX := Lib.hid hR
        have b2 : decide ((q : Int) < (s.size : Int)) = false := by simp; omega
        clear hR hsz hgg hq
        go_enter Tryd.func14, Tryd.ntmps14
        go_wp2_with (go_at_call 23; (with_reducible refine (KP.out _ HR0.out).mono ?_); go_must (rintro _ wv ⟨⟨A, c, he, hkid⟩, hr1, hg1⟩; have he2 : _ = Ending.returned (.tuple #[.agg #[.int .i64 kx, .int .u64 S.1.toNat, .int .u64 S.2.1.toNat, .int .u64 S.2.2.1.toNat, .int .u64 S.2.2.2.toNat, .slice A ks.length c, .int .i64 lo, .int .i64 hi, .int .i64 n], .int .i64 0]) := he; clear he; subst he2; have HR1 := hr1.below (one_box wv (.cells #[.int .i64 kx, .int .u64 S.1.toNat, .int .u64 S.2.1.toNat, .int .u64 S.2.2.1.toNat, .int .u64 S.2.2.2.toNat, .slice A ks.length c, .int .i64 lo, .int .i64 hi, .int .i64 n] 27)); have HB1 := (HB0.out.grown hg1 (by omega)).grown (b := w.heap.size + 1) (grown_below (one_box wv (.cells #[.int .i64 kx, .int .u64 S.1.toNat, .int .u64 S.2.1.toNat, .int .u64 S.2.2.1.toNat, .int .u64 S.2.2.2.toNat, .slice A ks.length c, .int .i64 lo, .int .i64 hi, .int .i64 n] 27))) (by omega); have HW1 := Lib.hid ((below_of_grown HW.out hg1 (by omega)).trans ((one_box wv (.cells #[.int .i64 kx, .int .u64 S.1.toNat, .int .u64 S.2.1.toNat, .int .u64 S.2.2.1.toNat, .int .u64 S.2.2.2.toNat, .slice A ks.length c, .int .i64 lo, .int .i64 hi, .int .i64 n] 27)).mono (by have := HW.out.size; have := hg1.size; omega))); have HBX := Lib.hid HB1; obtain ⟨c0, c1, _, _, f1, _, _⟩ := HR1; obtain ⟨d0, d1, d2, d3, d4, d5, d6, d7, d8, _⟩ := HBX.out; obtain ⟨e0, e1, e2, e3, e4, e5, e6, e7, e8⟩ := Box9.freed HBX.out; have HKD := Lib.hid (((hkid.grownF (b := w.heap.size + 1) (grown_below (one_box wv (.cells #[.int .i64 kx, .int .u64 S.1.toNat, .int .u64 S.2.1.toNat, .int .u64 S.2.2.1.toNat, .int .u64 S.2.2.2.toNat, .slice A ks.length c, .int .i64 lo, .int .i64 hi, .int .i64 n] 27))) (.inl (by simp)) (Nat.le_refl _)))); obtain ⟨x0, x1, x2, x3, x4, x5, x6, x7, x8, _⟩ := Box9.new wv (.int .i64 kx) (.int .u64 S.1.toNat) (.int .u64 S.2.1.toNat) (.int .u64 S.2.2.1.toNat) (.int .u64 S.2.2.2.toNat) (.slice A ks.length c) (.int .i64 lo) (.int .i64 hi) (.int .i64 n); have HWS := Lib.hid hg1.size; clear HB1 hg1 hkid))
        obtain ⟨W3, hW3⟩ : ∃ W3, W3 = put9 (wv.alloc (.cells #[.int .i64 kx, .int .u64 S.1.toNat, .int .u64 S.2.1.toNat, .int .u64 S.2.2.1.toNat, .int .u64 S.2.2.2.toNat, .slice A ks.length c, .int .i64 lo, .int .i64 hi, .int .i64 n] 27)) w.heap.size (.int .i64 kx) (.int .u64 S.1.toNat) (.int .u64 S.2.1.toNat) (.int .u64 S.2.2.1.toNat) (.int .u64 S.2.2.2.toNat) (.slice A ks.length c) (.int .i64 lo) (.int .i64 hi) (.int .i64 n) := ⟨_, rfl⟩
        have hb3 : Box9 W3 w.heap.size (.int .i64 kx) (.int .u64 S.1.toNat) (.int .u64 S.2.1.toNat) (.int .u64 S.2.2.1.toNat) (.int .u64 S.2.2.2.toNat) (.slice A ks.length c) (.int .i64 lo) (.int .i64 hi) (.int .i64 n) := by rw [hW3]; exact HBX.out.put _ _ _ _ _ _ _ _ _
        have hbl : Below w.heap.size w W3 := by rw [hW3]; exact set_below HW1.out (Nat.le_refl _) _ _ _ _ _ _ _ _ _
        have KK : Kids (Fr w.heap.size W3.heap.size) W3 A (.mk kx S ks lo hi n) := by
          have hs2 := congrArg (fun W => W.heap.size) hW3
          simp only [size_put9] at hs2
          rw [hs2, hW3]
          exact (HKD.out.put9 (.inl (by simp; omega)) _ _ _ _ _ _ _ _ _).wide (by simp; omega) (by simp)
        unfold put9 at hW3
        rw [← hW3]
        obtain ⟨l0, l1, l2, l3, l4, l5, l6, l7, l8, _⟩ := hb3
        exact bodyPost_ret (v := .tuple #[.agg #[.int .i64 kx, .int .u64 S.1.toNat, .int .u64 S.2.1.toNat, .int .u64 S.2.2.1.toNat, .int .u64 S.2.2.2.toNat, .slice A ks.length c, .int .i64 lo, .int .i64 hi, .int .i64 n], .int .i64 0, .int .i64 0]) (by simp [results, Tryd.results14, go_sem, l0, l1, l2, l3, l4, l5, l6, l7, l8]) rfl (postx_ok HX.out A c (by rfl) KK hbl)
end Go.Proofs.YtccheljfbjllhaaDoor
