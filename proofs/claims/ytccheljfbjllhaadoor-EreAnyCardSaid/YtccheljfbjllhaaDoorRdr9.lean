/- The code's reader: a group. -/
import Derived.Test.YtccheljfbjllhaaDoorRdr8
namespace Go.Proofs.YtccheljfbjllhaaDoor
open Go Go.RowKit

def RdEC (fn : Nat) (s : ByteArray) (o : Nat) (rd : Rd) : Prop := ∀ (b : Nat) (w : World) (k g : Nat), Rdr b w s k g o → k ≤ s.size → g ≤ k → Calls Tryd.prog fn #[.pointer (some ⟨b, 0, none⟩)] w (PostT b w s o (rd k g))
theorem treeE_bad {fn : Nat} {s : ByteArray} {o : Nat} {rd : Rd} (h : RdEC fn s o rd) (b : Nat) {k g q : Nat} {er : Int} (hk : k ≤ s.size) (hg : g ≤ k) (hR : rd k g = .bad q er) : TreeBad fn b s o k g q er := fun w hr =>
  (by rw [← hR]; exact h b w k g hr hk hg : Calls _ _ _ _ (PostT b w s o (.bad q er))).mono fun _ _ ⟨h1, h2, _, h4⟩ => ⟨h2, h4, h1⟩
theorem treeE_ok {fn : Nat} {s : ByteArray} {o : Nat} {rd : Rd} (h : RdEC fn s o rd) (b : Nat) {k g q g' : Nat} {x : Re} (hk : k ≤ s.size) (hg : g ≤ k) (hR : rd k g = .ok x q g') : TreeOk fn b s o k g q g' x := fun w hr =>
  (by rw [← hR]; exact h b w k g hr hk hg : Calls _ _ _ _ (PostT b w s o (.ok x q g'))).mono fun _ _ ⟨h1, h2, _, h4⟩ => ⟨h2, h4, h1⟩
def SaneE (s : ByteArray) (rd : Rd) : Prop := ∀ k g, k ≤ s.size → g ≤ k → (∀ q er, rd k g = .bad q er → er = 1 ∨ er = 8) ∧ ∀ x q g', rd k g = .ok x q g' → k ≤ q ∧ q ≤ s.size ∧ g' ≤ q
theorem Rdr.shut {b : Nat} {w : World} {s : ByteArray} {k g o o1 : Nat} (h : Rdr b w s k g o1) (ho : o1 = o + 1) : Rdr b (w.setCell ⟨b, 3, none⟩ (.int .i64 ((o1 : Int) - 1))) s k g o := by
  have : (o1 : Int) - 1 = o := by omega
  rw [this]; exact h.open_ o
/-- One kid in a row of its own. -/
theorem kids_one {P : Nat → Prop} {w : World} {c : Nat} {kx : Int} {S : S4} {ks : List Re} {lo hi n : Int} {A : Option Addr} {cp : Nat}
    (hb : Box9 w c (.int .i64 kx) (.int .u64 S.1.toNat) (.int .u64 S.2.1.toNat) (.int .u64 S.2.2.1.toNat) (.int .u64 S.2.2.2.toNat) (.slice A ks.length cp) (.int .i64 lo) (.int .i64 hi) (.int .i64 n)) (hk : Kids P w A (.mk kx S ks lo hi n)) (hp : P c) (k : Int) (S' : S4) (lo' hi' n' : Int) : Kids P w (some ⟨c, 0, none⟩) (.mk k S' [.mk kx S ks lo hi n] lo' hi' n') := by
  rw [Kids]
  refine .inr ⟨_, rfl, hp, ?_⟩
  rw [KidsL]
  refine ⟨⟨A, cp, ?_, hk⟩, by rw [KidsL]; trivial⟩
  have e : (⟨c, 0, none⟩ : Addr).add (0 * 9) = ⟨c, 0, none⟩ := rfl
  rw [e]
  exact ⟨hb.c0, hb.c1, hb.c2, hb.c3, hb.c4, hb.c5, hb.c6, hb.c7, hb.c8⟩
theorem size_set (w : World) (a : Addr) (u : Value) : (w.setCell a u).heap.size = w.heap.size := by simp [World.setCell]
theorem Box9.past {w : World} {c c' : Nat} {v0 v1 v2 v3 v4 v5 v6 v7 v8 : Value} (h : Box9 w c v0 v1 v2 v3 v4 v5 v6 v7 v8) (hc : c ≠ c') (u0 u1 u2 u3 u4 u5 u6 u7 u8 : Value) : Box9 (put9 w c' u0 u1 u2 u3 u4 u5 u6 u7 u8) c v0 v1 v2 v3 v4 v5 v6 v7 v8 := by
  have e := block_put9 w c' u0 u1 u2 u3 u4 u5 u6 u7 u8 hc
  have k : ∀ j, (put9 w c' u0 u1 u2 u3 u4 u5 u6 u7 u8).cell? ⟨c, j, none⟩ = w.cell? ⟨c, j, none⟩ := fun j => World.cell?_of_block e
  have f : ∀ j, (put9 w c' u0 u1 u2 u3 u4 u5 u6 u7 u8).frozen? ⟨c, j, none⟩ = w.frozen? ⟨c, j, none⟩ := fun j => World.frozen?_of_block e
  exact ⟨(k _).trans h.c0, (k _).trans h.c1, (k _).trans h.c2, (k _).trans h.c3, (k _).trans h.c4, (k _).trans h.c5, (k _).trans h.c6, (k _).trans h.c7, (k _).trans h.c8, fun q hq => (f q).trans (h.fr q hq)⟩
set_option maxRecDepth 100000 in
theorem group_zero (s : ByteArray) (pc : Rd → Rd) : RdC 62 s 64 (grpM pc s.data.toList 0) := by
  intro b w k g h hk hgk
  obtain ⟨R, hR⟩ : ∃ R, R = grpM pc s.data.toList 0 k g := ⟨_, rfl⟩
  rw [← hR]
  have HX : Hid (R = .bad k 8) := Lib.hid hR
  have hb := Lib.hid h.lt
  have HR := Lib.hid (h.below (one_box w (.cells #[.int .i64 0, .int .u64 0, .int .u64 0, .int .u64 0, .int .u64 0, .slice none 0 0, .int .i64 0, .int .i64 0, .int .i64 0] 27)))
  have HG := Lib.hid (grown_below (b := b) (one_box w (.cells #[.int .i64 0, .int .u64 0, .int .u64 0, .int .u64 0, .int .u64 0, .slice none 0 0, .int .i64 0, .int .i64 0, .int .i64 0] 27)))
  have HB := Lib.hid (Box9.new w (.int .i64 0) (.int .u64 0) (.int .u64 0) (.int .u64 0) (.int .u64 0) (.slice none 0 0) (.int .i64 0) (.int .i64 0) (.int .i64 0))
  obtain ⟨c0, c1, _, c3, f1, f2, f3⟩ := HR.out
  clear hR h
  obtain ⟨l0, l1, l2, l3, l4, l5, l6, l7, l8, _⟩ := HB.out
  go_enter Tryd.func62, Tryd.ntmps62
  go_wp2
  exact bodyPost_ret (v := .tuple #[.agg #[.int .i64 0, .int .u64 0, .int .u64 0, .int .u64 0, .int .u64 0, .slice none 0 0, .int .i64 0, .int .i64 0, .int .i64 0], .int .i64 8]) (by simp [results, Tryd.results62, go_sem, l0, l1, l2, l3, l4, l5, l6, l7, l8]) rfl (postt_bad HX.out (mkRow []) none 0 (by rfl) (.inr rfl) HR.out HG.out)
set_option maxRecDepth 100000 in
set_option maxHeartbeats 8000000 in
theorem group_any (s : ByteArray) (o : Nat) (ex : Rd) (hs : s.size ≤ 1000000) (ho : o < 64) (hex : RdEC 23 s (o + 1) ex) (hsane : SaneE s ex) : RdC 62 s o (grpR ex s.data.toList) := by
  intro b w k g h hk hgk
  obtain ⟨R, hR⟩ : ∃ R, R = grpR ex s.data.toList k g := ⟨_, rfl⟩
  rw [← hR]
  unfold grpR at hR
  have hb := Lib.hid h.lt
  have HR := Lib.hid (h.below (one_box w (.cells #[.int .i64 0, .int .u64 0, .int .u64 0, .int .u64 0, .int .u64 0, .slice none 0 0, .int .i64 0, .int .i64 0, .int .i64 0] 27)))
  have HG := Lib.hid (grown_below (b := b) (one_box w (.cells #[.int .i64 0, .int .u64 0, .int .u64 0, .int .u64 0, .int .u64 0, .slice none 0 0, .int .i64 0, .int .i64 0, .int .i64 0] 27)))
  have HB := Lib.hid (Box9.new w (.int .i64 0) (.int .u64 0) (.int .u64 0) (.int .u64 0) (.int .u64 0) (.slice none 0 0) (.int .i64 0) (.int .i64 0) (.int .i64 0))
  have HR0 := Lib.hid HR.out
  have HGC : Hid (w.grownBy ((((w.alloc (.cells #[.int .i64 0, .int .u64 0, .int .u64 0, .int .u64 0, .int .u64 0, .slice none 0 0, .int .i64 0, .int .i64 0, .int .i64 0] 27)).setCell ⟨b, 1, none⟩ (.int .i64 ((k : Int) + 1))).setCell ⟨b, 2, none⟩ (.int .i64 ((g : Int) + 1))).setCell ⟨b, 3, none⟩ (.int .i64 ((o : Int) + 1))) (some b)) := Lib.hid (grown_trans (grown_trans (grown_trans HG.out (grown_set b 1 _ _)) (grown_set b 2 _ _)) (grown_set b 3 _ _))
  have HBC : Hid (Box9 ((((w.alloc (.cells #[.int .i64 0, .int .u64 0, .int .u64 0, .int .u64 0, .int .u64 0, .slice none 0 0, .int .i64 0, .int .i64 0, .int .i64 0] 27)).setCell ⟨b, 1, none⟩ (.int .i64 ((k : Int) + 1))).setCell ⟨b, 2, none⟩ (.int .i64 ((g : Int) + 1))).setCell ⟨b, 3, none⟩ (.int .i64 ((o : Int) + 1))) w.heap.size (.int .i64 0) (.int .u64 0) (.int .u64 0) (.int .u64 0) (.int .u64 0) (.slice none 0 0) (.int .i64 0) (.int .i64 0) (.int .i64 0)) := Lib.hid (((HB.out.other (a := ⟨b, 1, none⟩) (Nat.ne_of_lt hb.out) _).other (a := ⟨b, 2, none⟩) (Nat.ne_of_lt hb.out) _).other (a := ⟨b, 3, none⟩) (Nat.ne_of_lt hb.out) _)
  obtain ⟨k1, hk1⟩ : ∃ k1, k1 = k + 1 := ⟨_, rfl⟩
  obtain ⟨g1, hg1⟩ : ∃ g1, g1 = g + 1 := ⟨_, rfl⟩
  obtain ⟨o1, ho1⟩ : ∃ o1, o1 = o + 1 := ⟨_, rfl⟩
  have HK1 := Lib.hid hk1
  have HG1 := Lib.hid hg1
  have HO1 := Lib.hid ho1
  have hk1s : k1 ≤ s.size := by omega
  have hgk1 : g1 ≤ k1 := by omega
  have ho64 : ((o : Int) == 64) = false := by simp; omega
  have ho64' : ¬ (o : Int) = 64 := by omega
  have ho1a : (1 : Int) ≤ (o1 : Int) := by omega
  have ho1b : (o1 : Int) ≤ 64 := by omega
  have hgm : (g : Int) ≤ 1000000 := by omega
  have hkm : (k : Int) ≤ 1000000 := by omega
  obtain ⟨nn, hnn⟩ : ∃ nn, nn = num g1 := ⟨_, rfl⟩
  have KN : Hid (∀ w, Calls Tryd.prog 31 #[.int .i64 ((g : Int) + 1)] w fun e w' => e = .returned (.int .i64 nn) ∧ w = w') := Lib.hid fun w => by
    have := num_any g1 (by omega) w
    rw [← hnn, show ((g1 : Nat) : Int) = (g : Int) + 1 by omega] at this
    exact this
  rw [← hk1, ← hg1, ← hnn] at hR
  rw [← ho1] at hex
  obtain ⟨sa1, sa2⟩ := hsane k1 g1 hk1s hgk1
  obtain ⟨c0, c1, c2, c3, f1, f2, f3⟩ := HR.out
  clear h
  rcases hgg : ex k1 g1 with ⟨q, er⟩ | ⟨x, q, g'⟩
  · have KG := Lib.hid (treeE_bad hex b hk1s hgk1 hgg)
    have her := sa1 q er hgg
    have er0 : (er == 0) = false := by rcases her with rfl | rfl <;> rfl
    have er0' : ¬ er = 0 := by omega
    rw [hgg] at hR
    have HX := Lib.hid hR
    have HER := Lib.hid her
    clear hR hgg sa1 sa2 her hk1 hg1 ho1 hnn HR HG HB
    go_enter Tryd.func62, Tryd.ntmps62
    go_wp2_with (first | (go_at_call 31; (with_reducible refine (KN.out _).mono ?_); go_must (rintro _ wn ⟨rfl, rfl⟩)) | (go_at_call 23; refine (KG.out _ (by have e1 := HK1.out; have e2 := HG1.out; have e3 := HO1.out; subst e1 e2 e3; exact ((HR0.out.at_ (k + 1)).groups_ (g + 1)).open_ (o + 1))).mono ?_; go_must (rintro _ wv ⟨⟨⟨kx, S, ks, lo, hi, n⟩, A, c, he⟩, ⟨g2, hr1⟩, hg1⟩; have he2 : _ = Ending.returned (.tuple #[.agg #[.int .i64 kx, .int .u64 S.1.toNat, .int .u64 S.2.1.toNat, .int .u64 S.2.2.1.toNat, .int .u64 S.2.2.2.toNat, .slice A ks.length c, .int .i64 lo, .int .i64 hi, .int .i64 n], .int .i64 er]) := he; clear he; subst he2; have HW0 : Hid (w.heap.size + 1 ≤ wv.heap.size) := Lib.hid (by have := hg1.size; simpa [World.setCell] using this); have ha := grown_below (b := b) (one_box wv (.cells #[.int .i64 kx, .int .u64 S.1.toNat, .int .u64 S.2.1.toNat, .int .u64 S.2.2.1.toNat, .int .u64 S.2.2.2.toNat, .slice A ks.length c, .int .i64 lo, .int .i64 hi, .int .i64 n] 27)); have HVK : Hid (w.heap.size + 1 ≤ wv.heap.size ∧ wv.heap.size + 1 ≤ (wv.alloc (.cells #[.int .i64 kx, .int .u64 S.1.toNat, .int .u64 S.2.1.toNat, .int .u64 S.2.2.1.toNat, .int .u64 S.2.2.2.toNat, .slice A ks.length c, .int .i64 lo, .int .i64 hi, .int .i64 n] 27)).heap.size) := Lib.hid ⟨HW0.out, by simp⟩; have HR := Lib.hid (hr1.below (one_box wv (.cells #[.int .i64 kx, .int .u64 S.1.toNat, .int .u64 S.2.1.toNat, .int .u64 S.2.2.1.toNat, .int .u64 S.2.2.2.toNat, .slice A ks.length c, .int .i64 lo, .int .i64 hi, .int .i64 n] 27))); have HG := Lib.hid (grown_trans (grown_trans HGC.out hg1) ha); have HB := Lib.hid ((HBC.out.grown hg1 (Nat.ne_of_gt hb.out)).grown ha (Nat.ne_of_gt hb.out)); have HKB := Lib.hid (Box9.new wv (.int .i64 kx) (.int .u64 S.1.toNat) (.int .u64 S.2.1.toNat) (.int .u64 S.2.2.1.toNat) (.int .u64 S.2.2.2.toNat) (.slice A ks.length c) (.int .i64 lo) (.int .i64 hi) (.int .i64 n)); clear hg1 hr1 ha; have hvb : wv.heap.size ≠ b := (by have := HVK.out; have := hb.out; omega); have HKB2 := HKB.out.other (a := ⟨b, 3, none⟩) (Ne.symm hvb) (.int .i64 ((o1 : Int) - 1)); have HB2 := HB.out.other (a := ⟨b, 3, none⟩) (Nat.ne_of_lt hb.out) (.int .i64 ((o1 : Int) - 1)); have HR2 := HR.out.shut HO1.out; have HG2 := grown_trans HG.out (grown_set b 3 _ (.int .i64 ((o1 : Int) - 1))); obtain ⟨c0, c1, c2, c3, f1, f2, f3⟩ := HR.out; obtain ⟨p0, p1, p2, p3, p4, p5, p6, p7, p8, _⟩ := HKB2; have ha3 := fun W => grown_below (b := b) (one_box W (.cells #[.int .i64 kx, .int .u64 S.1.toNat, .int .u64 S.2.1.toNat, .int .u64 S.2.2.1.toNat, .int .u64 S.2.2.2.toNat, .slice A ks.length c, .int .i64 lo, .int .i64 hi, .int .i64 n] 27)); have HR3 := Lib.hid (HR2.below (one_box _ (.cells #[.int .i64 kx, .int .u64 S.1.toNat, .int .u64 S.2.1.toNat, .int .u64 S.2.2.1.toNat, .int .u64 S.2.2.2.toNat, .slice A ks.length c, .int .i64 lo, .int .i64 hi, .int .i64 n] 27))); have HG3 := Lib.hid (grown_trans HG2 (ha3 _)); have HB3 := Lib.hid (HB2.grown (ha3 _) (Nat.ne_of_gt hb.out)); obtain ⟨d0, d1, d2, d3, d4, d5, d6, d7, d8, _⟩ := HB3.out; obtain ⟨e0, e1, e2, e3, e4, e5, e6, e7, e8⟩ := Box9.freed HB3.out; clear HB2 HR2 HG2 ha3)))
    obtain ⟨W3, hW3, hbx, hr, hgw⟩ := endT (.int .i64 7) (.int .u64 0) (.int .u64 0) (.int .u64 0) (.int .u64 0) (.slice (some ⟨wv.heap.size + 1, 0, none⟩) 1 1) (.int .i64 0) (.int .i64 0) (.int .i64 nn) hb.out HR3.out HG3.out HB3.out
    unfold put9 at hW3
    rw [← hW3]
    obtain ⟨l0, l1, l2, l3, l4, l5, l6, l7, l8, _⟩ := hbx
    exact bodyPost_ret (v := .tuple #[.agg #[.int .i64 7, .int .u64 0, .int .u64 0, .int .u64 0, .int .u64 0, .slice (some ⟨wv.heap.size + 1, 0, none⟩) 1 1, .int .i64 0, .int .i64 0, .int .i64 nn], .int .i64 er]) (by simp [results, Tryd.results62, go_sem, l0, l1, l2, l3, l4, l5, l6, l7, l8]) rfl (postt_bad HX.out (.mk 7 none4 [.mk kx S ks lo hi n] 0 0 nn) (some ⟨wv.heap.size + 1, 0, none⟩) 1 (by rfl) HER.out hr hgw)
  · obtain ⟨kx, S, ks, lo, hi, n⟩ := x
    have KG := Lib.hid (treeE_ok hex b hk1s hgk1 hgg)
    have hq := sa2 _ q g' hgg
    rw [hgg] at hR
    dsimp only at hR
    obtain ⟨q1, hq1⟩ : ∃ q1, q1 = q + 1 := ⟨_, rfl⟩
    rw [← hq1] at hR
    have HQ1 : Hid (g' ≤ q1) := Lib.hid (by omega)
    by_cases h41 : s.data.toList[q]? = some 41
    · have KS := Lib.hid (skip_yes looks41 b g' o1 hs h41 hq1)
      rw [if_pos h41] at hR
      have HX := Lib.hid hR
      clear hR hgg sa1 sa2 hq hk1 hg1 ho1 hnn HR HG HB h41 hq1
      go_enter Tryd.func62, Tryd.ntmps62
      go_wp2_with (first | (go_at_call 31; (with_reducible refine (KN.out _).mono ?_); go_must (rintro _ wn ⟨rfl, rfl⟩)) | (go_at_call 23; refine (KG.out _ (by have e1 := HK1.out; have e2 := HG1.out; have e3 := HO1.out; subst e1 e2 e3; exact ((HR0.out.at_ (k + 1)).groups_ (g + 1)).open_ (o + 1))).mono ?_; go_must (rintro _ wv ⟨⟨A, c, he, hkid⟩, hr1, hg1⟩; have he2 : _ = Ending.returned (.tuple #[.agg #[.int .i64 kx, .int .u64 S.1.toNat, .int .u64 S.2.1.toNat, .int .u64 S.2.2.1.toNat, .int .u64 S.2.2.2.toNat, .slice A ks.length c, .int .i64 lo, .int .i64 hi, .int .i64 n], .int .i64 0]) := he; clear he; subst he2; have HW0 : Hid (w.heap.size + 1 ≤ wv.heap.size) := Lib.hid (by have := hg1.size; simpa [World.setCell] using this); have ha := grown_below (b := b) (one_box wv (.cells #[.int .i64 kx, .int .u64 S.1.toNat, .int .u64 S.2.1.toNat, .int .u64 S.2.2.1.toNat, .int .u64 S.2.2.2.toNat, .slice A ks.length c, .int .i64 lo, .int .i64 hi, .int .i64 n] 27)); have HVK : Hid (w.heap.size + 1 ≤ wv.heap.size ∧ wv.heap.size + 1 ≤ (wv.alloc (.cells #[.int .i64 kx, .int .u64 S.1.toNat, .int .u64 S.2.1.toNat, .int .u64 S.2.2.1.toNat, .int .u64 S.2.2.2.toNat, .slice A ks.length c, .int .i64 lo, .int .i64 hi, .int .i64 n] 27)).heap.size) := Lib.hid ⟨HW0.out, by simp⟩; have HR := Lib.hid (hr1.below (one_box wv (.cells #[.int .i64 kx, .int .u64 S.1.toNat, .int .u64 S.2.1.toNat, .int .u64 S.2.2.1.toNat, .int .u64 S.2.2.2.toNat, .slice A ks.length c, .int .i64 lo, .int .i64 hi, .int .i64 n] 27))); have HG := Lib.hid (grown_trans (grown_trans HGC.out hg1) ha); have HB := Lib.hid ((HBC.out.grown hg1 (Nat.ne_of_gt hb.out)).grown ha (Nat.ne_of_gt hb.out)); have HKB := Lib.hid (Box9.new wv (.int .i64 kx) (.int .u64 S.1.toNat) (.int .u64 S.2.1.toNat) (.int .u64 S.2.2.1.toNat) (.int .u64 S.2.2.2.toNat) (.slice A ks.length c) (.int .i64 lo) (.int .i64 hi) (.int .i64 n)); have HKD : Hid (Kids (Fr (w.heap.size + 1) wv.heap.size) _ A (.mk kx S ks lo hi n)) := Lib.hid (((hkid.wide (by simp [World.setCell]) (Nat.le_refl _)).grownF ha (.inl (by have := hb.out; omega)) (Nat.le_refl _))); clear hkid; obtain ⟨c0, c1, c2, c3, f1, f2, f3⟩ := HR.out; clear hg1 hr1 ha; skip)) | (go_at_call 36; (with_reducible refine (KS.out _ HR.out).mono ?_); go_must (rintro _ wz ⟨rfl, hr1, hg1⟩; have HR1 := Lib.hid hr1; have HG1 := Lib.hid (grown_trans HG.out hg1); have HB1 := Lib.hid (HB.out.grown hg1 (Nat.ne_of_gt hb.out)); have HKB1 := Lib.hid (HKB.out.grown hg1 (by have := HVK.out; have := hb.out; omega)); have HKD1 := Lib.hid (HKD.out.grownF hg1 (.inl (by have := hb.out; omega)) (by have := HVK.out; omega)); have HZS : Hid (wv.heap.size + 1 ≤ wz.heap.size) := Lib.hid (Nat.le_trans HVK.out.2 hg1.size); clear hg1 hr1 HR HG HB HKB HKD; have HR := HR1; have HG := HG1; have HB := HB1; have HKB := HKB1; have hvb : wv.heap.size ≠ b := (by have := HVK.out; have := hb.out; omega); have HKB2 := HKB.out.other (a := ⟨b, 3, none⟩) (Ne.symm hvb) (.int .i64 ((o1 : Int) - 1)); have HB2 := HB.out.other (a := ⟨b, 3, none⟩) (Nat.ne_of_lt hb.out) (.int .i64 ((o1 : Int) - 1)); have HR2 := HR.out.shut HO1.out; have HG2 := grown_trans HG.out (grown_set b 3 _ (.int .i64 ((o1 : Int) - 1))); obtain ⟨c0, c1, c2, c3, f1, f2, f3⟩ := HR.out; obtain ⟨p0, p1, p2, p3, p4, p5, p6, p7, p8, _⟩ := HKB2; have ha3 := fun W => grown_below (b := b) (one_box W (.cells #[.int .i64 kx, .int .u64 S.1.toNat, .int .u64 S.2.1.toNat, .int .u64 S.2.2.1.toNat, .int .u64 S.2.2.2.toNat, .slice A ks.length c, .int .i64 lo, .int .i64 hi, .int .i64 n] 27)); have HR3 := Lib.hid (HR2.below (one_box _ (.cells #[.int .i64 kx, .int .u64 S.1.toNat, .int .u64 S.2.1.toNat, .int .u64 S.2.2.1.toNat, .int .u64 S.2.2.2.toNat, .slice A ks.length c, .int .i64 lo, .int .i64 hi, .int .i64 n] 27))); have HG3 := Lib.hid (grown_trans HG2 (ha3 _)); have HB3 := Lib.hid (HB2.grown (ha3 _) (Nat.ne_of_gt hb.out)); obtain ⟨d0, d1, d2, d3, d4, d5, d6, d7, d8, _⟩ := HB3.out; obtain ⟨e0, e1, e2, e3, e4, e5, e6, e7, e8⟩ := Box9.freed HB3.out; clear HB2 HR2 HG2 ha3)))
      obtain ⟨W3, hW3, hbx, hr, hgw⟩ := endT (.int .i64 7) (.int .u64 0) (.int .u64 0) (.int .u64 0) (.int .u64 0) (.slice (some ⟨wz.heap.size, 0, none⟩) 1 1) (.int .i64 0) (.int .i64 0) (.int .i64 nn) hb.out HR3.out HG3.out HB3.out
      have KK : Kids (Fr w.heap.size W3.heap.size) W3 (some ⟨wz.heap.size, 0, none⟩) (.mk 7 none4 [.mk kx S ks lo hi n] 0 0 nn) := by
        have hs2 := congrArg (fun W => W.heap.size) hW3
        simp only [size_put9] at hs2
        have hbw := hb.out
        have hz := HZS.out
        have hv := HVK.out
        have hs3 : W3.heap.size = wz.heap.size + 1 := by rw [hs2]; simp [World.setCell]
        rw [hs3, hW3]
        have hn9 := Box9.new (wz.setCell ⟨b, 3, none⟩ (.int .i64 ((o1 : Int) - 1))) (.int .i64 kx) (.int .u64 S.1.toNat) (.int .u64 S.2.1.toNat) (.int .u64 S.2.2.1.toNat) (.int .u64 S.2.2.2.toNat) (.slice A ks.length c) (.int .i64 lo) (.int .i64 hi) (.int .i64 n)
        rw [size_set] at hn9
        refine kids_one (hn9.past (by omega) _ _ _ _ _ _ _ _ _) ?_ ⟨by omega, by omega⟩ 7 none4 0 0 nn
        have h1 := HKD1.out.setF (a := ⟨b, 3, none⟩) (.inl (by show b < _; omega)) (.int .i64 ((o1 : Int) - 1))
        have h2 := h1.grownF (b := b) (grown_below (one_box _ (.cells #[.int .i64 kx, .int .u64 S.1.toNat, .int .u64 S.2.1.toNat, .int .u64 S.2.2.1.toNat, .int .u64 S.2.2.2.toNat, .slice A ks.length c, .int .i64 lo, .int .i64 hi, .int .i64 n] 27))) (.inl (by omega)) (by rw [size_set]; omega)
        exact (h2.put9 (.inl (by omega)) _ _ _ _ _ _ _ _ _).wide (by omega) (by omega)
      unfold put9 at hW3
      rw [← hW3]
      obtain ⟨l0, l1, l2, l3, l4, l5, l6, l7, l8, _⟩ := hbx
      exact bodyPost_ret (v := .tuple #[.agg #[.int .i64 7, .int .u64 0, .int .u64 0, .int .u64 0, .int .u64 0, .slice (some ⟨wz.heap.size, 0, none⟩) 1 1, .int .i64 0, .int .i64 0, .int .i64 nn], .int .i64 0]) (by simp [results, Tryd.results62, go_sem, l0, l1, l2, l3, l4, l5, l6, l7, l8]) rfl (postt_ok HX.out (some ⟨wz.heap.size, 0, none⟩) 1 (by rfl) KK HQ1.out hr hgw)
    · have KS := Lib.hid (skip_no looks41 b g' o1 hs h41)
      rw [if_neg h41] at hR
      have HX := Lib.hid hR
      clear hR hgg sa1 sa2 hq hk1 hg1 ho1 hnn HR HG HB h41
      go_enter Tryd.func62, Tryd.ntmps62
      go_wp2_with (first | (go_at_call 31; (with_reducible refine (KN.out _).mono ?_); go_must (rintro _ wn ⟨rfl, rfl⟩)) | (go_at_call 23; refine (KG.out _ (by have e1 := HK1.out; have e2 := HG1.out; have e3 := HO1.out; subst e1 e2 e3; exact ((HR0.out.at_ (k + 1)).groups_ (g + 1)).open_ (o + 1))).mono ?_; go_must (rintro _ wv ⟨⟨A, c, he, hkid⟩, hr1, hg1⟩; have he2 : _ = Ending.returned (.tuple #[.agg #[.int .i64 kx, .int .u64 S.1.toNat, .int .u64 S.2.1.toNat, .int .u64 S.2.2.1.toNat, .int .u64 S.2.2.2.toNat, .slice A ks.length c, .int .i64 lo, .int .i64 hi, .int .i64 n], .int .i64 0]) := he; clear he; subst he2; have HW0 : Hid (w.heap.size + 1 ≤ wv.heap.size) := Lib.hid (by have := hg1.size; simpa [World.setCell] using this); have ha := grown_below (b := b) (one_box wv (.cells #[.int .i64 kx, .int .u64 S.1.toNat, .int .u64 S.2.1.toNat, .int .u64 S.2.2.1.toNat, .int .u64 S.2.2.2.toNat, .slice A ks.length c, .int .i64 lo, .int .i64 hi, .int .i64 n] 27)); have HVK : Hid (w.heap.size + 1 ≤ wv.heap.size ∧ wv.heap.size + 1 ≤ (wv.alloc (.cells #[.int .i64 kx, .int .u64 S.1.toNat, .int .u64 S.2.1.toNat, .int .u64 S.2.2.1.toNat, .int .u64 S.2.2.2.toNat, .slice A ks.length c, .int .i64 lo, .int .i64 hi, .int .i64 n] 27)).heap.size) := Lib.hid ⟨HW0.out, by simp⟩; have HR := Lib.hid (hr1.below (one_box wv (.cells #[.int .i64 kx, .int .u64 S.1.toNat, .int .u64 S.2.1.toNat, .int .u64 S.2.2.1.toNat, .int .u64 S.2.2.2.toNat, .slice A ks.length c, .int .i64 lo, .int .i64 hi, .int .i64 n] 27))); have HG := Lib.hid (grown_trans (grown_trans HGC.out hg1) ha); have HB := Lib.hid ((HBC.out.grown hg1 (Nat.ne_of_gt hb.out)).grown ha (Nat.ne_of_gt hb.out)); have HKB := Lib.hid (Box9.new wv (.int .i64 kx) (.int .u64 S.1.toNat) (.int .u64 S.2.1.toNat) (.int .u64 S.2.2.1.toNat) (.int .u64 S.2.2.2.toNat) (.slice A ks.length c) (.int .i64 lo) (.int .i64 hi) (.int .i64 n)); have HKD : Hid (Kids (Fr (w.heap.size + 1) wv.heap.size) _ A (.mk kx S ks lo hi n)) := Lib.hid (((hkid.wide (by simp [World.setCell]) (Nat.le_refl _)).grownF ha (.inl (by have := hb.out; omega)) (Nat.le_refl _))); clear hkid; obtain ⟨c0, c1, c2, c3, f1, f2, f3⟩ := HR.out; clear hg1 hr1 ha; skip)) | (go_at_call 36; (with_reducible refine (KS.out _ HR.out).mono ?_); go_must (rintro _ wz ⟨rfl, hr1, hg1⟩; have HR1 := Lib.hid hr1; have HG1 := Lib.hid (grown_trans HG.out hg1); have HB1 := Lib.hid (HB.out.grown hg1 (Nat.ne_of_gt hb.out)); have HKB1 := Lib.hid (HKB.out.grown hg1 (by have := HVK.out; have := hb.out; omega)); have HKD1 := Lib.hid (HKD.out.grownF hg1 (.inl (by have := hb.out; omega)) (by have := HVK.out; omega)); have HZS : Hid (wv.heap.size + 1 ≤ wz.heap.size) := Lib.hid (Nat.le_trans HVK.out.2 hg1.size); clear hg1 hr1 HR HG HB HKB HKD; have HR := HR1; have HG := HG1; have HB := HB1; have HKB := HKB1; have hvb : wv.heap.size ≠ b := (by have := HVK.out; have := hb.out; omega); have HKB2 := HKB.out.other (a := ⟨b, 3, none⟩) (Ne.symm hvb) (.int .i64 ((o1 : Int) - 1)); have HB2 := HB.out.other (a := ⟨b, 3, none⟩) (Nat.ne_of_lt hb.out) (.int .i64 ((o1 : Int) - 1)); have HR2 := HR.out.shut HO1.out; have HG2 := grown_trans HG.out (grown_set b 3 _ (.int .i64 ((o1 : Int) - 1))); obtain ⟨c0, c1, c2, c3, f1, f2, f3⟩ := HR.out; obtain ⟨p0, p1, p2, p3, p4, p5, p6, p7, p8, _⟩ := HKB2; have ha3 := fun W => grown_below (b := b) (one_box W (.cells #[.int .i64 kx, .int .u64 S.1.toNat, .int .u64 S.2.1.toNat, .int .u64 S.2.2.1.toNat, .int .u64 S.2.2.2.toNat, .slice A ks.length c, .int .i64 lo, .int .i64 hi, .int .i64 n] 27)); have HR3 := Lib.hid (HR2.below (one_box _ (.cells #[.int .i64 kx, .int .u64 S.1.toNat, .int .u64 S.2.1.toNat, .int .u64 S.2.2.1.toNat, .int .u64 S.2.2.2.toNat, .slice A ks.length c, .int .i64 lo, .int .i64 hi, .int .i64 n] 27))); have HG3 := Lib.hid (grown_trans HG2 (ha3 _)); have HB3 := Lib.hid (HB2.grown (ha3 _) (Nat.ne_of_gt hb.out)); obtain ⟨d0, d1, d2, d3, d4, d5, d6, d7, d8, _⟩ := HB3.out; obtain ⟨e0, e1, e2, e3, e4, e5, e6, e7, e8⟩ := Box9.freed HB3.out; clear HB2 HR2 HG2 ha3)))
      obtain ⟨W3, hW3, hbx, hr, hgw⟩ := endT (.int .i64 7) (.int .u64 0) (.int .u64 0) (.int .u64 0) (.int .u64 0) (.slice (some ⟨wz.heap.size, 0, none⟩) 1 1) (.int .i64 0) (.int .i64 0) (.int .i64 nn) hb.out HR3.out HG3.out HB3.out
      unfold put9 at hW3
      rw [← hW3]
      obtain ⟨l0, l1, l2, l3, l4, l5, l6, l7, l8, _⟩ := hbx
      exact bodyPost_ret (v := .tuple #[.agg #[.int .i64 7, .int .u64 0, .int .u64 0, .int .u64 0, .int .u64 0, .slice (some ⟨wz.heap.size, 0, none⟩) 1 1, .int .i64 0, .int .i64 0, .int .i64 nn], .int .i64 1]) (by simp [results, Tryd.results62, go_sem, l0, l1, l2, l3, l4, l5, l6, l7, l8]) rfl (postt_bad HX.out (.mk 7 none4 [.mk kx S ks lo hi n] 0 0 nn) (some ⟨wz.heap.size, 0, none⟩) 1 (by rfl) (.inl rfl) hr hgw)
end Go.Proofs.YtccheljfbjllhaaDoor
