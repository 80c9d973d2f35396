/- Expressions that are only read: the document's Groups, and the statements' Small. -/
import Derived.Test.YtccheljfbjllhaaDoorTree
namespace Go.Proofs.YtccheljfbjllhaaDoor
open Go Go.RowKit

theorem kid_at {w wr : World} {A : Option Addr} {r x : Re} {j : Nat} (h : Kids (Lt w.heap.size) w A r) (hb : Below w.heap.size w wr) (hx : r.kids[j]? = some x) :
    ∃ ad A' c', A = some ad ∧ ad.block < w.heap.size ∧ At9 wr (ad.add (j * 9)) x A' c' ∧ Kids (Lt w.heap.size) w A' x := by
  obtain ⟨ad, A', c', rfl, hp, h9, hkr⟩ := kids_at h hx
  exact ⟨ad, A', c', rfl, hp, h9.keep (fun o => hb.cell (by show (ad.add (j * 9)).block < _; rw [block_of_add]; exact hp)) (hb.cell (by rw [block_of_add]; exact hp)), hkr⟩
set_option maxRecDepth 100000 in
set_option maxHeartbeats 1000000 in
theorem rgroups_any (r : Re) : ∀ (A : Option Addr) (c : Nat) (w : World), Kids (Lt w.heap.size) w A r → sizeE r ≤ 1000000 → Calls Tryd.prog 13 #[valR r A c] w fun e w' => e = .returned (.int .i64 (groups r)) ∧ Below w.heap.size w w' := by
  induction r using Re.ind with
  | h k S ks lo hi n ih =>
    intro A c w hk hs
    simp only [valR]
    obtain ⟨G, hG⟩ : ∃ G : Int, G = groups (.mk k S ks lo hi n) := ⟨_, rfl⟩
    rw [← hG]
    obtain ⟨m, hm⟩ : ∃ m, m = ks.length := ⟨_, rfl⟩
    rw [← hm]
    have hmx := sizeL_len ks
    rw [sizeE] at hs
    have hm9 : m ≤ 1000000 := by omega
    obtain ⟨g0, hg0⟩ : ∃ g0 : Int, g0 = if k = 7 then 1 else 0 := ⟨_, rfl⟩
    have hGG : G = g0 + groupsL ks := by rw [hG, hg0, groups]; split <;> simp
    have HGG := Lib.hid hGG
    have HM := Lib.hid hm
    have HK := Lib.hid hk
    have HI := Lib.hid ih
    have HS := Lib.hid hs
    have hgb : 0 ≤ g0 ∧ g0 ≤ 1 := by rw [hg0]; split <;> omega
    obtain ⟨hgb0, hgb1⟩ := hgb
    have hcase : (k == 7) = true ∧ Hid (g0 = 1) ∨ (k == 7) = false ∧ Hid (g0 = 0) := by
      by_cases k7 : k = 7
      · rw [if_pos k7] at hg0; exact .inl ⟨by simp [k7], Lib.hid hg0⟩
      · rw [if_neg k7] at hg0; exact .inr ⟨by simp [k7], Lib.hid hg0⟩
    clear hk ih hG hGG hm hs hmx hg0
    obtain ⟨s0, hs0⟩ : ∃ s0 : Int, s0 = S.1.toNat := ⟨_, rfl⟩
    obtain ⟨s1, hs1⟩ : ∃ s1 : Int, s1 = S.2.1.toNat := ⟨_, rfl⟩
    obtain ⟨s2, hs2⟩ : ∃ s2 : Int, s2 = S.2.2.1.toNat := ⟨_, rfl⟩
    obtain ⟨s3, hs3⟩ : ∃ s3 : Int, s3 = S.2.2.2.toNat := ⟨_, rfl⟩
    rw [← hs0, ← hs1, ← hs2, ← hs3]
    clear hs0 hs1 hs2 hs3
    obtain ⟨o, ho⟩ : ∃ o : Obj, o = .cells #[.int .i64 k, .int .u64 s0, .int .u64 s1, .int .u64 s2, .int .u64 s3, .slice A m c, .int .i64 lo, .int .i64 hi, .int .i64 n] 27 := ⟨_, rfl⟩
    have hbo : Below w.heap.size w (w.alloc o) := (Below.refl _ _).alloc (Nat.le_refl _) _
    have hc5 : (w.alloc o).cell? ⟨w.heap.size, 5, none⟩ = some (.slice A m c) := by rw [ho]; simp [go_sem]
    rw [ho] at hbo hc5
    clear ho
    rcases hcase with ⟨b7, hz⟩ | ⟨b7, hz⟩
    all_goals (
      go_enter Tryd.func13, Tryd.ntmps13
      go_wp2
      go_loopw [3, 4] (fun g i wr => ∃ j : Nat, j ≤ m ∧ i = .int .i64 j ∧ g = .int .i64 (g0 + groupsL (ks.take j)) ∧ Below (w.heap.size + 1) (w.alloc (.cells #[.int .i64 k, .int .u64 s0, .int .u64 s1, .int .u64 s2, .int .u64 s3, .slice A m c, .int .i64 lo, .int .i64 hi, .int .i64 n] 27)) wr) (fun _ i _ => m - (intOf i).toNat)
      case atStart => exact ⟨0, by omega, rfl, by rw [hz.out]; rfl, Below.refl _ _⟩
      case round =>
        obtain ⟨j, hj, rfl, rfl, hb1⟩ := hrel
        have hb : Below w.heap.size w wr := hbo.trans (hb1.mono (by omega))
        have c5 : wr.cell? ⟨w.heap.size, 5, none⟩ = some (.slice A m c) := (hb1.cell (p := ⟨w.heap.size, 5, none⟩) (by show w.heap.size < w.heap.size + 1; omega)).trans hc5
        have hb1s := hb1.size
        have HB1 := Lib.hid hb1
        clear hb1
        by_cases a : j < m
        · obtain ⟨r, hr⟩ := get_of_lt HM.out a
          obtain ⟨ad, A', c', rfl, hp, h9, hkr⟩ := kid_at HK.out hb hr
          have hmem := List.mem_of_getElem? hr
          have hsz := sizeL_mem hmem
          have hso := HS.out
          have hgl := groupsL_le (ks.take j)
          have hsl := sizeL_take ks j
          have hgr := groups_le r
          have K : ∀ w2, Below w.heap.size w w2 → Calls Tryd.prog 13 #[valR r A' c'] w2 fun e w' => e = .returned (.int .i64 (groups r)) ∧ Below w2.heap.size w2 w' := fun w2 h2 =>
            HI.out r hmem A' c' w2 (hkr.next h2) (by omega)
          have HX := Lib.hid (groupsL_take hr)
          obtain ⟨k', S', ks', lo', hi', n'⟩ := r
          obtain ⟨gr, hgr2⟩ : ∃ gr : Nat, gr = groups (Re.mk k' S' ks' lo' hi' n') := ⟨_, rfl⟩
          rw [← hgr2] at K hgr HX
          obtain ⟨gl, hgl2⟩ : ∃ gl : Nat, gl = groupsL (ks.take j) := ⟨_, rfl⟩
          rw [← hgl2] at hgl HX ⊢
          simp only [valR] at K
          have HKC := Lib.hid K
          obtain ⟨d0, d1, d2, d3, d4, d5, d6, d7, d8⟩ := h9
          clear hr hkr hmem K hgr2 hgl2
          go_wp2_with (go_at_call 13; ((with_reducible refine (HKC.out _ hb).mono ?_)); rintro e w' ⟨rfl, hb2⟩)
          go_roundw
          case rel => exact ⟨j + 1, by omega, by go_num, by rw [HX.out]; push_cast; congr 1; omega, HB1.out.trans (hb2.mono (by simpa using HB1.out.size))⟩
          case measure => simp [intOf]; omega
        · have HE : Hid (ks.take j = ks) := Lib.hid (List.take_of_length_le (by have := HM.out; omega))
          rw [HE.out]
          go_wp2
          go_ret
          exact ⟨ret_int HGG.out.symm, hb⟩)
theorem sizeL_snoc {l : List Re} {k : Nat} {r : Re} (h : l[k]? = some r) : sizeL (l.take (k + 1)) = sizeL (l.take k) + sizeE r := by
  obtain ⟨hk, e⟩ := List.getElem?_eq_some_iff.1 h
  rw [List.take_succ_eq_append_getElem hk, e]
  have : ∀ a b : List Re, sizeL (a ++ b) = sizeL a + sizeL b := by
    intro a b
    induction a with
    | nil => simp [sizeL]
    | cons x a ih => rw [List.cons_append, sizeL, ih, sizeL]; omega
  rw [this]; simp [sizeL]
set_option maxRecDepth 100000 in
set_option maxHeartbeats 1000000 in
theorem count_any (r : Re) : ∀ (A : Option Addr) (c : Nat) (left : Nat) (w : World), Kids (Lt w.heap.size) w A r → left ≤ 120 →
    Calls Tryd.prog 19 #[valR r A c, .int .i64 left] w fun e w' => e = .returned (.int .i64 (max ((left : Int) - sizeE r) (-1))) ∧ Below w.heap.size w w' := by
  induction r using Re.ind with
  | h k S ks lo hi n ih =>
    intro A c left w hk hleft
    simp only [valR]
    obtain ⟨G, hG⟩ : ∃ G : Int, G = max ((left : Int) - sizeE (.mk k S ks lo hi n)) (-1) := ⟨_, rfl⟩
    rw [← hG]
    obtain ⟨m, hm⟩ : ∃ m, m = ks.length := ⟨_, rfl⟩
    rw [← hm]
    rw [sizeE] at hG
    have HGG := Lib.hid hG
    have HM := Lib.hid hm
    have HK := Lib.hid hk
    have HI := Lib.hid ih
    clear hk ih hG hm
    obtain ⟨s0, hs0⟩ : ∃ s0 : Int, s0 = S.1.toNat := ⟨_, rfl⟩
    obtain ⟨s1, hs1⟩ : ∃ s1 : Int, s1 = S.2.1.toNat := ⟨_, rfl⟩
    obtain ⟨s2, hs2⟩ : ∃ s2 : Int, s2 = S.2.2.1.toNat := ⟨_, rfl⟩
    obtain ⟨s3, hs3⟩ : ∃ s3 : Int, s3 = S.2.2.2.toNat := ⟨_, rfl⟩
    rw [← hs0, ← hs1, ← hs2, ← hs3]
    clear hs0 hs1 hs2 hs3
    obtain ⟨o, ho⟩ : ∃ o : Obj, o = .cells #[.int .i64 k, .int .u64 s0, .int .u64 s1, .int .u64 s2, .int .u64 s3, .slice A m c, .int .i64 lo, .int .i64 hi, .int .i64 n] 27 := ⟨_, rfl⟩
    have hbo : Below w.heap.size w (w.alloc o) := (Below.refl _ _).alloc (Nat.le_refl _) _
    have hc5 : (w.alloc o).cell? ⟨w.heap.size, 5, none⟩ = some (.slice A m c) := by rw [ho]; simp [go_sem]
    rw [ho] at hbo hc5
    clear ho
    go_enter Tryd.func19, Tryd.ntmps19
    go_wp2
    go_loopw [1, 11] (fun g i wr => ∃ j : Nat, j ≤ m ∧ j ≤ 121 ∧ i = .int .i64 j ∧ g = .int .i64 (max ((left : Int) - 1 - sizeL (ks.take j)) (-1)) ∧ Below (w.heap.size + 1) (w.alloc (.cells #[.int .i64 k, .int .u64 s0, .int .u64 s1, .int .u64 s2, .int .u64 s3, .slice A m c, .int .i64 lo, .int .i64 hi, .int .i64 n] 27)) wr) (fun _ i _ => m - (intOf i).toNat)
    case atStart => exact ⟨0, by omega, by omega, rfl, by simp [sizeL]; omega, Below.refl _ _⟩
    case round =>
      obtain ⟨j, hj, hj2, rfl, rfl, hb1⟩ := hrel
      have hb : Below w.heap.size w wr := hbo.trans (hb1.mono (by omega))
      have c5 : wr.cell? ⟨w.heap.size, 5, none⟩ = some (.slice A m c) := (hb1.cell (p := ⟨w.heap.size, 5, none⟩) (by show w.heap.size < w.heap.size + 1; omega)).trans hc5
      have HB1 := Lib.hid hb1
      clear hb1
      obtain ⟨z, hz⟩ : ∃ z : Int, z = max ((left : Int) - 1 - sizeL (ks.take j)) (-1) := ⟨_, rfl⟩
      rw [← hz]
      have hzm : -1 ≤ z := by rw [hz]; exact Int.le_max_right _ _
      by_cases a : j < m
      · obtain ⟨r, hr⟩ := get_of_lt HM.out a
        obtain ⟨ad, A', c', rfl, hp, h9, hkr⟩ := kid_at HK.out hb hr
        have hmem := List.mem_of_getElem? hr
        have HX := sizeL_snoc hr
        have htl := sizeL_take ks j
        have htl2 := sizeL_take ks (j + 1)
        have hjl : j ≤ sizeL (ks.take j) := by
          have := sizeL_len (ks.take j)
          rw [List.length_take, ← HM.out] at this; omega
        by_cases hneg : z < 0
        · have HX2 : Hid (z = G) := Lib.hid (by rw [HGG.out]; omega)
          clear hr hkr hmem h9 HX hjl hz htl htl2
          go_wp2
          go_ret
          exact ⟨ret_int HX2.out, hb⟩
        · obtain ⟨zn, hzn⟩ : ∃ zn : Nat, z = zn := ⟨z.toNat, by omega⟩
          subst hzn
          have K : ∀ w2, Below w.heap.size w w2 → Calls Tryd.prog 19 #[valR r A' c', .int .i64 zn] w2 fun e w' => e = .returned (.int .i64 (max ((zn : Int) - sizeE r) (-1))) ∧ Below w2.heap.size w2 w' := fun w2 h2 =>
            HI.out r hmem A' c' zn w2 (hkr.next h2) (by omega)
          have hj3 : j + 1 ≤ 121 := by omega
          have HX3 : Hid (max ((zn : Int) - sizeE r) (-1) = max ((left : Int) - 1 - sizeL (ks.take (j + 1))) (-1)) := Lib.hid (by rw [HX]; push_cast; omega)
          obtain ⟨k', S', ks', lo', hi', n'⟩ := r
          simp only [valR] at K
          have HKC := Lib.hid K
          obtain ⟨d0, d1, d2, d3, d4, d5, d6, d7, d8⟩ := h9
          clear hr hkr hmem K HX hjl hz htl htl2
          go_wp2_with (go_at_call 19; ((with_reducible refine (HKC.out _ hb).mono ?_)); rintro e w' ⟨rfl, hb2⟩)
          go_roundw
          case rel => exact ⟨j + 1, by omega, hj3, by go_num, by rw [HX3.out], HB1.out.trans (hb2.mono (by simpa using HB1.out.size))⟩
          case measure => simp [intOf]; omega
      · have HE : ks.take j = ks := List.take_of_length_le (by have := HM.out; omega)
        rw [HE] at hz
        have HX2 : Hid (z = G) := Lib.hid (by rw [HGG.out]; omega)
        clear HE hz
        go_wp2
        go_ret
        exact ⟨ret_int HX2.out, hb⟩
set_option maxRecDepth 100000 in
set_option maxHeartbeats 1000000 in
theorem small_any (r : Re) (A : Option Addr) (c : Nat) (most : Nat) (w : World) (hk : Kids (Lt w.heap.size) w A r) (hm : most ≤ 120) :
    Calls Tryd.prog 8 #[valR r A c, .int .i64 most] w fun e w' => e = .returned (.bool (decide (sizeE r ≤ most))) ∧ Below w.heap.size w w' := by
  have K : ∀ w2, Below w.heap.size w w2 → Calls Tryd.prog 19 #[valR r A c, .int .i64 most] w2 fun e w' => e = .returned (.int .i64 (max ((most : Int) - sizeE r) (-1))) ∧ Below w2.heap.size w2 w' := fun w2 h2 =>
    count_any r A c most w2 (hk.next h2) hm
  obtain ⟨z, hz⟩ : ∃ z : Int, z = max ((most : Int) - sizeE r) (-1) := ⟨_, rfl⟩
  rw [← hz] at K
  have hd : decide (sizeE r ≤ most) = decide (0 ≤ z) := by rw [decide_eq_decide, hz]; omega
  rw [hd]
  clear hz hd
  obtain ⟨k', S', ks', lo', hi', n'⟩ := r
  simp only [valR] at K ⊢
  have HKC := Lib.hid K
  clear K hk
  by_cases h0 : 0 ≤ z
  · go_enter Tryd.func8, Tryd.ntmps8
    go_wp2_with (go_at_call 19; ((with_reducible refine (HKC.out _ ((Below.refl _ _).alloc (Nat.le_refl _) _)).mono ?_)); rintro e w' ⟨rfl, hb2⟩)
    go_ret
    exact ⟨by simp [h0], ((Below.refl _ _).alloc (Nat.le_refl _) _).trans (hb2.mono (by simp))⟩
  · go_enter Tryd.func8, Tryd.ntmps8
    go_wp2_with (go_at_call 19; ((with_reducible refine (HKC.out _ ((Below.refl _ _).alloc (Nat.le_refl _) _)).mono ?_)); rintro e w' ⟨rfl, hb2⟩)
    go_ret
    exact ⟨by simp, ((Below.refl _ _).alloc (Nat.le_refl _) _).trans (hb2.mono (by simp))⟩
end Go.Proofs.YtccheljfbjllhaaDoor
