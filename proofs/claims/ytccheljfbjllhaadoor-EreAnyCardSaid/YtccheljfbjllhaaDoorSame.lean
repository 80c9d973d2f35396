/- The same expressions: the code's answer, by the standard library's slices.EqualFunc, and the document's own. -/
import Derived.Test.YtccheljfbjllhaaDoorTree2
import Derived.ChangeKeysEq
import Derived.Laws.StructEq
namespace Go.Proofs.YtccheljfbjllhaaDoor
open Go Go.RowKit
theorem info22 : (Tryd.prog.info? 22).map (fun i => (i.zero, i.size, i.bytes)) = some (some (.int .u64 0), 1, 8) := by kernel_rfl
theorem cells22 : Tryd.prog.cellsOf 22 = 1 := by kernel_rfl
theorem set_equal (a b c d a' b' c' d' : Int) (w : World) : (Op.equalIn 10000 24 (.agg #[.int .u64 a, .int .u64 b, .int .u64 c, .int .u64 d]) (.agg #[.int .u64 a', .int .u64 b', .int .u64 c', .int .u64 d'])).run Tryd.prog w = .ok (a == a' && (b == b' && (c == c' && d == d'))) w := by
  obtain ⟨i, hi, _⟩ := info_parts info22
  rw [run_equalIn_array w 9999 _ _ Tryd.underlying24 hi]
  have e : ∀ x y, (Op.equalIn 9999 22 (.int .u64 x) (.int .u64 y)).run Tryd.prog w = .ok (x == y) w := fun x y => run_equalIn_int (P := Tryd.prog) w 9998 22 .u64 .u64 x y Tryd.underlying22
  by_cases h1 : a = a' <;> by_cases h2 : b = b' <;> by_cases h3 : c = c' <;> by_cases h4 : d = d' <;> simp [Op.eqItems, List.range_succ, go_sem, h1, h2, h3, h4, cells22]
theorem words_eq (S T : S4) : (((S.1.toNat : Int) == (T.1.toNat : Int)) && (((S.2.1.toNat : Int) == (T.2.1.toNat : Int)) && (((S.2.2.1.toNat : Int) == (T.2.2.1.toNat : Int)) && ((S.2.2.2.toNat : Int) == (T.2.2.2.toNat : Int))))) = decide (S = T) := by
  rw [Bool.eq_iff_iff]
  simp only [Bool.and_eq_true, beq_iff_eq, decide_eq_true_eq]
  constructor
  · rintro ⟨h1, h2, h3, h4⟩
    exact Prod.ext (UInt64.toNat_inj.1 (by omega)) (Prod.ext (UInt64.toNat_inj.1 (by omega)) (Prod.ext (UInt64.toNat_inj.1 (by omega)) (UInt64.toNat_inj.1 (by omega))))
  · rintro rfl; exact ⟨rfl, rfl, rfl, rfl⟩
theorem set_eql (S T : S4) (w : World) : (binOp .eql 24 (.agg #[.int .u64 S.1.toNat, .int .u64 S.2.1.toNat, .int .u64 S.2.2.1.toNat, .int .u64 S.2.2.2.toNat]) (.agg #[.int .u64 T.1.toNat, .int .u64 T.2.1.toNat, .int .u64 T.2.2.1.toNat, .int .u64 T.2.2.2.toNat])).run Tryd.prog w = .ok (.bool (decide (S = T))) w := by
  rw [run_eql_struct, set_equal, words_eq]; rfl
theorem set_neq (S T : S4) (w : World) : (binOp .neq 24 (.agg #[.int .u64 S.1.toNat, .int .u64 S.2.1.toNat, .int .u64 S.2.2.1.toNat, .int .u64 S.2.2.2.toNat]) (.agg #[.int .u64 T.1.toNat, .int .u64 T.2.1.toNat, .int .u64 T.2.2.1.toNat, .int .u64 T.2.2.2.toNat])).run Tryd.prog w = .ok (.bool (!decide (S = T))) w := by
  rw [run_neq_struct, set_equal, words_eq]; rfl
/-- Decided, hidden from the walk. -/
noncomputable def sameB {α : Type} (a b : α) : Bool := @decide (a = b) (Classical.propDecidable _)
theorem sameB_no {α : Type} {a b : α} (h : a ≠ b) : sameB a b = false := @decide_eq_false _ (Classical.propDecidable _) h
theorem sameB_yes {α : Type} {a b : α} (h : a = b) : sameB a b = true := @decide_eq_true _ (Classical.propDecidable _) h
theorem sameB_of {α : Type} {a b : α} (h : sameB a b = true) : a = b := @of_decide_eq_true _ (Classical.propDecidable _) h
theorem sameB_not {α : Type} {a b : α} (h : sameB a b = false) : a ≠ b := fun e => by rw [sameB_yes e] at h; cases h
theorem take_same {α : Type} {a b : List α} {k : Nat} {p : α} (h : a.take k = b.take k) (h1 : a[k]? = some p) (h2 : b[k]? = some p) : a.take (k + 1) = b.take (k + 1) := by
  obtain ⟨hk, e⟩ := List.getElem?_eq_some_iff.1 h1
  obtain ⟨hk', e'⟩ := List.getElem?_eq_some_iff.1 h2
  rw [List.take_succ_eq_append_getElem hk, List.take_succ_eq_append_getElem hk', h, e, e']
theorem not_same {α : Type} {a b : List α} {k : Nat} {p q : α} (h1 : a[k]? = some p) (h2 : b[k]? = some q) (h : p ≠ q) : a ≠ b := by
  rintro rfl; rw [h1] at h2; injection h2 with h2; exact h h2
/-- Kids alone. -/
def kidsOf (ks : List Re) : Re := .mk 0 none4 ks 0 0 0
def SameC (f : Nat) (x : Re) : Prop := ∀ (y : Re) (A A' : Option Addr) (c c' : Nat) (w : World), Kids (Lt w.heap.size) w A x → Kids (Lt w.heap.size) w A' y → sizeE x ≤ 1000000 → sizeE y ≤ 1000000 →
  Calls Tryd.prog f #[valR x A c, valR y A' c'] w fun e w' => e = .returned (.bool (sameB x y)) ∧ Below w.heap.size w w'
set_option maxRecDepth 100000 in
set_option maxHeartbeats 1000000 in
theorem equalfunc_any (ks ks' : List Re) (hc : ∀ x ∈ ks, SameC 18 x) (A A' : Option Addr) (c c' : Nat) (w : World) (h : Kids (Lt w.heap.size) w A (kidsOf ks)) (h' : Kids (Lt w.heap.size) w A' (kidsOf ks')) (hs : sizeL ks ≤ 1000000) (hs' : sizeL ks' ≤ 1000000) :
    Calls Tryd.prog 28 #[.slice A ks.length c, .slice A' ks'.length c', .func (.func 18) #[] #[]] w fun e w' => e = .returned (.bool (sameB ks ks')) ∧ Below w.heap.size w w' := by
  obtain ⟨v, hv⟩ : ∃ v, v = sameB ks ks' := ⟨_, rfl⟩
  rw [← hv]
  obtain ⟨m, hm⟩ : ∃ m, m = ks.length := ⟨_, rfl⟩
  obtain ⟨m', hm'⟩ : ∃ m, m = ks'.length := ⟨_, rfl⟩
  rw [← hm, ← hm']
  have hmx := sizeL_len ks
  have hm9 : m ≤ 1000000 := by omega
  have HC := Lib.hid hc
  have HK := Lib.hid h
  have HK' := Lib.hid h'
  have HM := Lib.hid hm
  have HM' := Lib.hid hm'
  have HV := Lib.hid hv
  have HS := Lib.hid hs
  have HS' := Lib.hid hs'
  clear hc h h' hm hm' hv hs hs' hmx
  by_cases e : m = m'
  · subst e
    go_enter Tryd.func28, Tryd.ntmps28
    go_wp2
    go_loopw [17] (fun i wr => ∃ j : Nat, j ≤ m ∧ i = .int .i64 j ∧ ks.take j = ks'.take j ∧ Below w.heap.size w wr) (fun i _ => m - (intOf i).toNat)
    case atStart => exact ⟨0, by omega, rfl, rfl, Below.refl _ _⟩
    case round =>
      obtain ⟨j, hj, rfl, ht, hb⟩ := hrel
      have HT := Lib.hid ht
      clear ht
      by_cases a : j < m
      · obtain ⟨r, hr⟩ := get_of_lt HM.out a
        obtain ⟨r', hr'⟩ := get_of_lt HM'.out a
        obtain ⟨ad, B, b, rfl, hp, h9, hkr⟩ := kid_at HK.out hb hr
        obtain ⟨ad', B', b', rfl, hp', h9', hkr'⟩ := kid_at HK'.out hb hr'
        obtain ⟨o, ho⟩ : ∃ o : Obj, o = .cells (valR r B b).cells 27 := ⟨_, rfl⟩
        have hbo : Below wr.heap.size wr (wr.alloc o) := (Below.refl _ _).alloc (Nat.le_refl _) o
        have hlt' : (ad'.add (j * 9)).block < wr.heap.size := by rw [block_of_add]; have := hb.size; omega
        have g9 := h9'.keep (w' := wr.alloc o) (fun o => hbo.cell hlt') (hbo.cell hlt')
        have hmem := List.mem_of_getElem? hr
        have hsz := sizeL_mem hmem
        have hsz' := sizeL_mem (List.mem_of_getElem? hr')
        have K : ∀ w2, Below w.heap.size w w2 → Calls Tryd.prog 18 #[valR r B b, valR r' B' b'] w2 fun e w' => e = .returned (.bool (sameB r r')) ∧ Below w2.heap.size w2 w' := fun w2 h2 =>
          HC.out r hmem r' B B' b b' w2 (hkr.next h2) (hkr'.next h2) (by have := HS.out; omega) (by have := HS'.out; omega)
        rw [ho] at g9
        clear h9' ho hbo
        obtain ⟨v2, hv2⟩ : ∃ v2, v2 = sameB r r' := ⟨_, rfl⟩
        rw [← hv2] at K
        have HV2 := Lib.hid hv2
        have HR := Lib.hid hr
        have HR' := Lib.hid hr'
        clear hr hr' hv2 hkr hkr' hmem hsz hsz'
        obtain ⟨k', S', ks1, lo', hi', n'⟩ := r
        obtain ⟨k2, S2, ks2, lo2, hi2, n2⟩ := r'
        simp only [valR] at K g9
        simp only [Value.cells] at g9
        have HKC := Lib.hid K
        obtain ⟨c0, c1, c2, c3, c4, c5, c6, c7, c8⟩ := h9
        obtain ⟨d0, d1, d2, d3, d4, d5, d6, d7, d8⟩ := g9
        clear K
        cases v2 with
        | true =>
          have HX : Hid (ks.take (j + 1) = ks'.take (j + 1)) := Lib.hid (by
            have := sameB_of HV2.out.symm
            rw [← this] at HR'
            exact take_same HT.out HR.out HR'.out)
          go_wp2_with (go_at_call 18; ((with_reducible refine (HKC.out _ ((hb.alloc hb.size _).alloc (by simp; have := hb.size; omega) _)).mono ?_)); rintro e w' ⟨rfl, hb2⟩)
          go_roundw
          case rel => exact ⟨j + 1, by omega, by go_num, HX.out, ((hb.alloc hb.size _).alloc (by simp; have := hb.size; omega) _).trans (hb2.mono (by simp; have := hb.size; omega))⟩
          case measure => simp [intOf]; omega
        | false =>
          have HX : Hid (v = false) := Lib.hid (by rw [HV.out]; exact sameB_no (not_same HR.out HR'.out (sameB_not HV2.out.symm)))
          go_wp2_with (go_at_call 18; ((with_reducible refine (HKC.out _ ((hb.alloc hb.size _).alloc (by simp; have := hb.size; omega) _)).mono ?_)); rintro e w' ⟨rfl, hb2⟩)
          go_ret
          exact ⟨ret_bool HX.out.symm, ((hb.alloc hb.size _).alloc (by simp; have := hb.size; omega) _).trans (hb2.mono (by simp; have := hb.size; omega))⟩
      · have HX : Hid (v = true) := by
          apply Lib.hid; rw [HV.out]
          have := HT.out
          rw [List.take_of_length_le (by have := HM.out; omega), List.take_of_length_le (by have := HM'.out; omega)] at this
          exact sameB_yes this
        go_wp2
        go_ret
        exact ⟨ret_bool HX.out.symm, hb⟩
  · have b1 : ((m : Int) != (m' : Int)) = true := by simp; omega
    have b2 : (m != m') = true := by simp; omega
    have HX : Hid (v = false) := Lib.hid (by rw [HV.out]; exact sameB_no (fun h => e (by rw [HM.out, HM'.out, h])))
    clear e
    go_enter Tryd.func28, Tryd.ntmps28
    go_wp2
    go_ret
    exact ⟨ret_bool HX.out.symm, Below.refl _ _⟩
theorem re_eq {k k' lo lo' hi hi' n n' : Int} {S S' : S4} {ks ks' : List Re} (h1 : k = k') (h2 : S = S') (h3 : ks = ks') (h4 : lo = lo') (h5 : hi = hi') (h6 : n = n') : Re.mk k S ks lo hi n = Re.mk k' S' ks' lo' hi' n' := by rw [h1, h2, h3, h4, h5, h6]
theorem kids_kids {P : Nat → Prop} {w : World} {A : Option Addr} {k lo hi n : Int} {S : S4} {ks : List Re} (h : Kids P w A (.mk k S ks lo hi n)) : Kids P w A (kidsOf ks) := by
  unfold kidsOf; rw [Kids] at h ⊢; exact h
set_option maxRecDepth 100000 in
set_option maxHeartbeats 2000000 in
theorem same_any (x : Re) : SameC 18 x := by
  induction x using Re.ind with
  | h k S ks lo hi n ih =>
    intro y A A' c c' w hk hk' hs hs'
    obtain ⟨k2, S2, ks2, lo2, hi2, n2⟩ := y
    obtain ⟨v, hv⟩ : ∃ v, v = sameB (Re.mk k S ks lo hi n) (Re.mk k2 S2 ks2 lo2 hi2 n2) := ⟨_, rfl⟩
    rw [← hv]
    rw [sizeE] at hs hs'
    have HV := Lib.hid hv
    have K28 : ∀ w2, Below w.heap.size w w2 → Calls Tryd.prog 28 #[.slice A ks.length c, .slice A' ks2.length c', .func (.func 18) #[] #[]] w2 fun e w' => e = .returned (.bool (sameB ks ks2)) ∧ Below w2.heap.size w2 w' := fun w2 h2 =>
      equalfunc_any ks ks2 ih A A' c c' w2 ((kids_kids hk).next h2) ((kids_kids hk').next h2) (by omega) (by omega)
    simp only [valR]
    have hz := fun W => set_eql S S2 W
    obtain ⟨m, hm⟩ : ∃ m, m = ks.length := ⟨_, rfl⟩
    obtain ⟨m2, hm2⟩ : ∃ m, m = ks2.length := ⟨_, rfl⟩
    obtain ⟨q, hq⟩ : ∃ q, q = sameB ks ks2 := ⟨_, rfl⟩
    obtain ⟨s0, hs0⟩ : ∃ s0 : Int, s0 = S.1.toNat := ⟨_, rfl⟩
    obtain ⟨s1, hs1⟩ : ∃ s1 : Int, s1 = S.2.1.toNat := ⟨_, rfl⟩
    obtain ⟨s2, hs2⟩ : ∃ s2 : Int, s2 = S.2.2.1.toNat := ⟨_, rfl⟩
    obtain ⟨s3, hs3⟩ : ∃ s3 : Int, s3 = S.2.2.2.toNat := ⟨_, rfl⟩
    obtain ⟨z0, hz0⟩ : ∃ s0 : Int, s0 = S2.1.toNat := ⟨_, rfl⟩
    obtain ⟨z1, hz1⟩ : ∃ s1 : Int, s1 = S2.2.1.toNat := ⟨_, rfl⟩
    obtain ⟨z2, hz2⟩ : ∃ s2 : Int, s2 = S2.2.2.1.toNat := ⟨_, rfl⟩
    obtain ⟨z3, hz3⟩ : ∃ s3 : Int, s3 = S2.2.2.2.toNat := ⟨_, rfl⟩
    rw [← hm, ← hm2, ← hs0, ← hs1, ← hs2, ← hs3, ← hz0, ← hz1, ← hz2, ← hz3]
    rw [← hm, ← hm2, ← hq] at K28
    rw [← hs0, ← hs1, ← hs2, ← hs3, ← hz0, ← hz1, ← hz2, ← hz3] at hz
    have HQ := Lib.hid hq
    have HK28 := Lib.hid K28
    have hbb : Below w.heap.size w w := Below.refl _ _
    clear hv ih hk hk' hs hs' K28 hq hs0 hs1 hs2 hs3 hz0 hz1 hz2 hz3 hm hm2
    by_cases f1 : k = k2
    · by_cases f2 : S = S2
      · by_cases f3 : lo = lo2
        · by_cases f4 : hi = hi2
          · by_cases f5 : n = n2
            · have HX : Hid (q = v) := Lib.hid (by
                rw [HQ.out, HV.out]
                by_cases hkk : ks = ks2
                · rw [sameB_yes hkk, sameB_yes (re_eq f1 f2 hkk f3 f4 f5)]
                · rw [sameB_no hkk, sameB_no (fun h => hkk (by injection h))])
              have g1 : (k == k2) = true := by simp [f1]
              have g2 : decide (S = S2) = true := by simp [f2]
              have g3 : (lo == lo2) = true := by simp [f3]
              have g4 : (hi == hi2) = true := by simp [f4]
              have g5 : (n == n2) = true := by simp [f5]
              subst f1 f3 f4 f5
              simp only [g2] at hz
              clear f2 g2
              go_enter Tryd.func18, Tryd.ntmps18
              go_wp2_with (go_at_call 28; ((with_reducible refine (HK28.out _ (((Below.refl _ _).alloc (Nat.le_refl _) _).alloc (by simp) _)).mono ?_)); rintro e w' ⟨rfl, hb2⟩)
              go_ret
              exact ⟨ret_bool HX.out, (((Below.refl _ _).alloc (Nat.le_refl _) _).alloc (by simp) _).trans (hb2.mono (by simp; omega))⟩
            · have HX : Hid (v = false) := Lib.hid (by rw [HV.out]; exact sameB_no (fun h => f5 (by injection h)))
              have g1 : (k == k2) = true := by simp [f1]
              have g2 : decide (S = S2) = true := by simp [f2]
              have g3 : (lo == lo2) = true := by simp [f3]
              have g4 : (hi == hi2) = true := by simp [f4]
              have g5 : (n == n2) = false := by simp [f5]
              subst f1 f3 f4
              simp only [g2] at hz
              clear f2 g2 f5
              go_enter Tryd.func18, Tryd.ntmps18
              go_wp2
              go_ret
              exact ⟨ret_bool HX.out.symm, ((Below.refl _ _).alloc (Nat.le_refl _) _).alloc (by simp) _⟩
          · have HX : Hid (v = false) := Lib.hid (by rw [HV.out]; exact sameB_no (fun h => f4 (by injection h)))
            have g1 : (k == k2) = true := by simp [f1]
            have g2 : decide (S = S2) = true := by simp [f2]
            have g3 : (lo == lo2) = true := by simp [f3]
            have g4 : (hi == hi2) = false := by simp [f4]
            subst f1 f3
            simp only [g2] at hz
            clear f2 g2 f4
            go_enter Tryd.func18, Tryd.ntmps18
            go_wp2
            go_ret
            exact ⟨ret_bool HX.out.symm, ((Below.refl _ _).alloc (Nat.le_refl _) _).alloc (by simp) _⟩
        · have HX : Hid (v = false) := Lib.hid (by rw [HV.out]; exact sameB_no (fun h => f3 (by injection h)))
          have g1 : (k == k2) = true := by simp [f1]
          have g2 : decide (S = S2) = true := by simp [f2]
          have g3 : (lo == lo2) = false := by simp [f3]
          subst f1
          simp only [g2] at hz
          clear f2 g2 f3
          go_enter Tryd.func18, Tryd.ntmps18
          go_wp2
          go_ret
          exact ⟨ret_bool HX.out.symm, ((Below.refl _ _).alloc (Nat.le_refl _) _).alloc (by simp) _⟩
      · have HX : Hid (v = false) := Lib.hid (by rw [HV.out]; exact sameB_no (fun h => f2 (by injection h)))
        have g1 : (k == k2) = true := by simp [f1]
        have g2 : decide (S = S2) = false := by simp [f2]
        subst f1
        simp only [g2] at hz
        clear f2 g2
        go_enter Tryd.func18, Tryd.ntmps18
        go_wp2
        go_ret
        exact ⟨ret_bool HX.out.symm, ((Below.refl _ _).alloc (Nat.le_refl _) _).alloc (by simp) _⟩
    · have HX : Hid (v = false) := Lib.hid (by rw [HV.out]; exact sameB_no (fun h => f1 (by injection h)))
      have g1 : (k == k2) = false := by simp [f1]
      clear f1
      go_enter Tryd.func18, Tryd.ntmps18
      go_wp2
      go_ret
      exact ⟨ret_bool HX.out.symm, ((Below.refl _ _).alloc (Nat.le_refl _) _).alloc (by simp) _⟩
end Go.Proofs.YtccheljfbjllhaaDoor
