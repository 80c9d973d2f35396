/- What is printed of one set. -/
import Derived.Test.YtccheljfbjllhaaDoorAByte
namespace Go.Proofs.YtccheljfbjllhaaDoor
open Go Go.RowKit

theorem esc_len (sg : Bs) (c : UInt8) : (esc sg c).length ≤ 2 := by unfold esc; split <;> simp
theorem itemJ_len (p : Sp) : (itemJ p).length ≤ 5 := by
  unfold itemJ
  have := esc_len sgJ p.1
  have := esc_len sgJ p.2
  split <;> simp <;> omega
theorem itemsJ_len : ∀ l : List Sp, (l.flatMap itemJ).length ≤ 5 * l.length
  | [] => by simp
  | p :: l => by
    have := itemsJ_len l
    have := itemJ_len p
    rw [List.flatMap_cons, List.length_append, List.length_cons]; omega
theorem runsJ_len (S : S4) (n : Nat) (h : n ≤ 256) : ((runsTo S n).flatMap itemJ).length ≤ 1280 := by
  have := itemsJ_len (runsTo S n)
  have := runs_len S n
  omega
theorem setText_len (S : S4) : (setText S).length ≤ 1300 := by
  unfold setText
  split
  · simp
  · split
    · have := esc_len sgA (UInt8.ofNat (nxt S 0)); omega
    · split
      · simp
      · have := runsJ_len S 256 (by omega)
        unfold runs
        simp only [List.length_cons, List.length_append, List.length_nil]; omega
theorem str_cells (s : ByteArray) : Lib.strCells s = byteCells s.data.toList := rfl
/-- One run more. -/
theorem run_next {S : S4} {lo : Nat} (hlo : lo < 256) (hm : mem S lo = true) (h0 : lo = 0 ∨ mem S (lo - 1) = false) :
    ∃ hi : UInt8, lo ≤ hi.toNat ∧ nxt (compl S) lo = hi.toNat + 1 ∧ runsTo S (nxt S (nxt (compl S) lo)) = runsTo S lo ++ [(UInt8.ofNat lo, hi)] ∧ (nxt S (nxt (compl S) lo) < 256 → mem S (nxt S (nxt (compl S) lo)) = true ∧ mem S (nxt S (nxt (compl S) lo) - 1) = false) ∧ nxt S (nxt (compl S) lo) ≤ 256 ∧ lo < nxt S (nxt (compl S) lo) := by
  obtain ⟨b, hb⟩ : ∃ b, b = nxt (compl S) lo := ⟨_, rfl⟩
  rw [← hb]
  obtain ⟨h1, h2, h3, h4⟩ := nxt_is (compl S) lo (by omega)
  rw [← hb] at h1 h2 h3 h4
  have hin : ∀ x, lo ≤ x → x < b → mem S x = true := fun x a c => by have := h4 x a c; rw [mem_compl] at this; simpa using this
  have hlt : lo < b := by
    by_cases e : b = lo
    · have := h3 (by omega)
      rw [mem_compl, e, hm] at this; cases this
    · omega
  have hbo : b < 256 → mem S b = false := fun h => by have := h3 h; rw [mem_compl] at this; simpa using this
  obtain ⟨k1, k2, k3, k4⟩ := nxt_is S b h2
  refine ⟨UInt8.ofNat (b - 1), by rw [u8_nat (by omega)]; omega, by rw [u8_nat (by omega)]; omega, ?_, ?_, k2, by omega⟩
  · have hr := runs_run S lo h0 (b - 1 - lo) (by omega) (fun x a c => hin x a (by omega))
    rw [show lo + (b - 1 - lo) + 1 = b by omega, show lo + (b - 1 - lo) = b - 1 by omega] at hr
    rw [← hr]
    have := runs_gap S b (nxt S b - b) (fun x a c => k4 x a (by omega))
    rw [show b + (nxt S b - b) = nxt S b by omega] at this
    exact this
  · intro h
    refine ⟨k3 h, ?_⟩
    by_cases e : nxt S b = b
    · rw [e] at h
      have hm2 := k3 (by omega)
      rw [e] at hm2
      rw [hbo h] at hm2; cases hm2
    · exact k4 _ (by omega) (by omega)
theorem box_kept {w w' : World} {cs : Array Value} {T : TypeId} (h : KeptT (w.alloc (.cells cs T)) w') (ht : T ≠ 5) (j : Nat) : w'.cell? ⟨w.heap.size, j, none⟩ = cs[j]? := h.cell (heap_alloc_new w _) ht j
theorem size6 : (⟨#[91, 94, 0, 45, 255, 93]⟩ : ByteArray).size = 6 := rfl
theorem app_mid {α : Type} (a b c : List α) (x : α) : a ++ (b ++ x :: c) = a ++ b ++ [x] ++ c := by simp
def LoopJ (B : Nat) (w0 wb : World) (S : S4) (vt : Value) (t : Bs) (v i : Value) (w : World) : Prop := ∃ lo : Nat, lo ≤ 256 ∧ i = .int .i64 lo ∧ (lo < 256 → mem S lo = true ∧ (lo = 0 ∨ mem S (lo - 1) = false)) ∧ RowB B w0 w v (t ++ [91] ++ (runsTo S lo).flatMap itemJ) ∧ KeptT wb w ∧ (1 ≤ t.length → Keeps1 wb vt w v)
set_option maxRecDepth 100000 in
set_option maxHeartbeats 4000000 in
theorem aset_any (B : Nat) (w0 w : World) (vt : Value) (t : Bs) (S : S4) (ht : t.length ≤ 100000) (h : RowB B w0 w vt t) :
    Calls Tryd.prog 33 #[vt, .agg #[.int .u64 S.1.toNat, .int .u64 S.2.1.toNat, .int .u64 S.2.2.1.toNat, .int .u64 S.2.2.2.toNat]] w (Wrt B w0 w vt t (t ++ setText S)) := by
  obtain ⟨u, hu⟩ : ∃ u, u = setText S := ⟨_, rfl⟩
  rw [← hu]
  unfold setText at hu
  have H := Lib.hid h
  obtain ⟨j0, hj, hy0, hy1, hy2⟩ := info_parts info5
  have K44 := Lib.hid fun w => size_any S w
  have K46 := Lib.hid fun (c : Nat) (hc : c ≤ 256) w => first_any S c hc w
  have K46c := Lib.hid fun (c : Nat) (hc : c ≤ 256) w => first_any (compl S) c hc w
  have K47 := Lib.hid fun w => others_any S w
  simp only [setV4] at K47
  have hcs : ∀ w', KeptT (w.alloc (.cells #[.int .u64 S.1.toNat, .int .u64 S.2.1.toNat, .int .u64 S.2.2.1.toNat, .int .u64 S.2.2.2.toNat] 24)) w' → w'.cell? ⟨w.heap.size, 0, none⟩ = some (.int .u64 S.1.toNat) ∧ w'.cell? ⟨w.heap.size, 1, none⟩ = some (.int .u64 S.2.1.toNat) ∧ w'.cell? ⟨w.heap.size, 2, none⟩ = some (.int .u64 S.2.2.1.toNat) ∧ w'.cell? ⟨w.heap.size, 3, none⟩ = some (.int .u64 S.2.2.2.toNat) := fun w' hk => by
    refine ⟨box_kept hk (by decide) 0, box_kept hk (by decide) 1, box_kept hk (by decide) 2, box_kept hk (by decide) 3⟩
  have HCS := Lib.hid hcs
  clear hcs
  obtain ⟨s0, hs0⟩ : ∃ s0 : Int, s0 = S.1.toNat := ⟨_, rfl⟩
  obtain ⟨s1, hs1⟩ : ∃ s1 : Int, s1 = S.2.1.toNat := ⟨_, rfl⟩
  obtain ⟨s2, hs2⟩ : ∃ s2 : Int, s2 = S.2.2.1.toNat := ⟨_, rfl⟩
  obtain ⟨s3, hs3⟩ : ∃ s3 : Int, s3 = S.2.2.2.toNat := ⟨_, rfl⟩
  obtain ⟨z0, hz0⟩ : ∃ s0 : Int, s0 = (compl S).1.toNat := ⟨_, rfl⟩
  obtain ⟨z1, hz1⟩ : ∃ s1 : Int, s1 = (compl S).2.1.toNat := ⟨_, rfl⟩
  obtain ⟨z2, hz2⟩ : ∃ s2 : Int, s2 = (compl S).2.2.1.toNat := ⟨_, rfl⟩
  obtain ⟨z3, hz3⟩ : ∃ s3 : Int, s3 = (compl S).2.2.2.toNat := ⟨_, rfl⟩
  rw [← hs0, ← hs1, ← hs2, ← hs3] at K44 K46 K47 HCS ⊢
  rw [← hz0, ← hz1, ← hz2, ← hz3] at K46c K47
  obtain ⟨n, hn⟩ : ∃ n, n = cnt (mem S) 256 := ⟨_, rfl⟩
  rw [← hn] at K44 hu
  clear h hs0 hs1 hs2 hs3 hz0 hz1 hz2 hz3
  by_cases n0 : n = 0
  · rw [if_pos n0] at hu
    have b0 : ((n : Int) == 0) = true := by simp [n0]
    have b0' : (n == 0) = true := by simp [n0]
    have HU := Lib.hid hu
    clear hu hn n0
    go_enter Tryd.func33, Tryd.ntmps33
    go_wp2_with (first | (go_at_call 44; ((with_reducible refine (K44.out _).mono ?_)); rintro e w1 ⟨rfl, hb1⟩; have HB1 := Lib.hid ((one_box w _).trans (hb1.mono (by simp))); clear hb1) | (at_builtin; refine Lib.wpList_append_own_string _ rfl (.tmp 11) (.const (.string ⟨#[91, 94, 0, 45, 255, 93]⟩)) 49 9 rfl B 5 j0 Tryd.underlying49 Tryd.underlying9 hj hy0 hy1 hy2 _ _ _ rfl (H.out.beyond HB1.out).row _ rfl (by rw [size6]; unfold maxLen; omega) (by rw [size6]; omega) (H.out.beyond HB1.out).size ?_; intro v2 w3 hown' hgrow _))
    go_ret
    refine ⟨_, rfl, ?_, (KeptT.below HB1.out).trans (KeptT.grown (H.out.beyond HB1.out).row hgrow), fun hl => (Keeps1.below vt HB1.out).trans (Keeps1.grown hown' (by rw [size6]; omega) hgrow)⟩
    rw [HU.out]
    exact (H.out.beyond HB1.out).bytes [91, 94, 0, 45, 255, 93] hown' hgrow
  · rw [if_neg n0] at hu
    have b0 : ((n : Int) == 0) = false := by simp; omega
    have b0' : (n == 0) = false := by simp; omega
    by_cases n1 : n = 1
    · rw [if_pos n1] at hu
      have b1 : ((n : Int) == 1) = true := by simp [n1]
      have b1' : (n == 1) = true := by simp [n1]
      obtain ⟨c, hc1, hc2⟩ := runs_one (S := S) (by omega)
      have K46' : Hid (∀ w, Calls Tryd.prog 46 #[.agg #[.int .u64 s0, .int .u64 s1, .int .u64 s2, .int .u64 s3], .int .i64 0] w fun e w' => e = .returned (.int .i64 c.toNat) ∧ Below w.heap.size w w') := Lib.hid fun w => by have := K46.out 0 (by omega) w; rw [hc2] at this; exact this
      have K45 : Hid (∀ w1, RowB B w0 w1 vt t → Calls Tryd.prog 45 #[vt, .int .i64 c.toNat, .string ⟨#[92, 124, 40, 41, 42, 43, 63, 123, 46, 91, 94, 36]⟩] w1 (Wrt B w0 w1 vt t (t ++ esc sgA c))) := Lib.hid fun w1 h1 => abyte_any B w0 w1 vt t c setA sgA looksA (by omega) h1
      rw [hc2] at hu
      have HU : Hid (u = esc sgA c) := Lib.hid (by rw [hu]; simp)
      clear hu hn n0 n1 hc1 hc2
      go_enter Tryd.func33, Tryd.ntmps33
      go_wp2_with (first | (go_at_call 44; ((with_reducible refine (K44.out _).mono ?_)); rintro e w1 ⟨rfl, hb1⟩; have HB1 := Lib.hid ((one_box w _).trans (hb1.mono (by simp))); obtain ⟨c0, c1, c2, c3⟩ := HCS.out _ (KeptT.below hb1); clear hb1) | (go_at_call 46; ((with_reducible refine (K46'.out _).mono ?_)); rintro e w2 ⟨rfl, hb2⟩; have HB2 := Lib.hid (HB1.out.trans (hb2.mono HB1.out.size)); clear hb2) | (go_at_call 45; ((with_reducible refine (K45.out _ (H.out.beyond HB2.out)).mono ?_)); rintro e w3 ⟨v3, rfl, hrow3, hk3, hk4⟩))
      go_ret
      exact ⟨_, rfl, by rw [HU.out]; exact hrow3, (KeptT.below HB2.out).trans hk3, fun hl => (Keeps1.below vt HB2.out).trans (hk4 hl)⟩
    · rw [if_neg n1] at hu
      have b1 : ((n : Int) == 1) = false := by simp; omega
      have b1' : (n == 1) = false := by simp; omega
      by_cases n2 : n = 256
      · rw [if_pos n2] at hu
        have b2 : ((n : Int) == 256) = true := by simp [n2]
        have b2' : (n == 256) = true := by simp [n2]
        have HU := Lib.hid hu
        clear hu hn n0 n1 n2
        go_enter Tryd.func33, Tryd.ntmps33
        go_wp2_with (first | (go_at_call 44; ((with_reducible refine (K44.out _).mono ?_)); rintro e w1 ⟨rfl, hb1⟩; have HB1 := Lib.hid ((one_box w _).trans (hb1.mono (by simp))); clear hb1) | (at_builtin; refine wpList_append_own _ rfl (.tmp 21) (.tmp 22) 49 rfl B 5 j0 (.int .u8 0) 1 1 Tryd.underlying49 hj hy0 hy1 hy2 rfl (by decide) _ _ _ rfl ((H.out.beyond HB1.out).alloc _).row ⟨w1.heap.size, 0, none⟩ 1 1 (byteCells [46]) rfl rfl (fun j u hu => new_cells w1 5 #[.int .u8 46] j u hu) (bytes_one _) (by unfold maxLen; omega) (by omega) ((H.out.beyond HB1.out).alloc _).size ?_; intro v2 w3 hown' hgrow _))
        go_ret
        refine ⟨_, rfl, ?_, ((KeptT.below HB1.out).trans (KeptT.alloc _ _)).trans (KeptT.grown ((H.out.beyond HB1.out).alloc _).row hgrow), fun hl => ((Keeps1.below vt HB1.out).trans (Keeps1.below vt (one_box w1 _))).trans (Keeps1.grown hown' (by omega) hgrow)⟩
        rw [HU.out]
        exact ((H.out.beyond HB1.out).alloc _).bytes [46] hown' hgrow
      · rw [if_neg n2] at hu
        have b2 : ((n : Int) == 256) = false := by simp; omega
        have b2' : (n == 256) = false := by simp; omega
        have HU := Lib.hid hu
        have K46' : Hid (∀ w, Calls Tryd.prog 46 #[.agg #[.int .u64 s0, .int .u64 s1, .int .u64 s2, .int .u64 s3], .int .i64 0] w fun e w' => e = .returned (.int .i64 (nxt S 0)) ∧ Below w.heap.size w w') := Lib.hid fun w => K46.out 0 (by omega) w
        obtain ⟨l0, hl0⟩ : ∃ l0, l0 = nxt S 0 := ⟨_, rfl⟩
        have HL0 : Hid (l0 ≤ 256 ∧ (l0 < 256 → mem S l0 = true ∧ (l0 = 0 ∨ mem S (l0 - 1) = false)) ∧ runsTo S l0 = []) := Lib.hid (by
          obtain ⟨k1, k2, k3, k4⟩ := nxt_is S 0 (by omega)
          rw [← hl0] at k1 k2 k3 k4
          refine ⟨k2, fun hlt => ⟨k3 hlt, ?_⟩, ?_⟩
          · by_cases e : l0 = 0
            · exact .inl e
            · exact .inr (k4 _ (by omega) (by omega))
          · have := runs_gap S 0 l0 (fun x a b => k4 x a (by omega))
            rw [Nat.zero_add] at this; rw [this]; rfl)
        rw [← hl0] at K46'
        clear hu hn n0 n1 n2 hl0
        go_enter Tryd.func33, Tryd.ntmps33
        go_wp2_with (first | (go_at_call 44; ((with_reducible refine (K44.out _).mono ?_)); rintro e w1 ⟨rfl, hb1⟩; have HB1 := Lib.hid ((one_box w _).trans (hb1.mono (by simp))); have HKb := Lib.hid (KeptT.below hb1); have HK1b := Lib.hid (Keeps1.below vt hb1); clear hb1) | (at_builtin; refine wpList_append_own _ rfl (.tmp 24) (.tmp 25) 49 rfl B 5 j0 (.int .u8 0) 1 1 Tryd.underlying49 hj hy0 hy1 hy2 rfl (by decide) _ _ _ rfl ((H.out.beyond HB1.out).alloc _).row ⟨w1.heap.size, 0, none⟩ 1 1 (byteCells [91]) rfl rfl (fun j u hu => new_cells w1 5 #[.int .u8 91] j u hu) (bytes_one _) (by unfold maxLen; omega) (by omega) ((H.out.beyond HB1.out).alloc _).size ?_; intro v2 w3 hown' hgrow _; have H3 := Lib.hid (((H.out.beyond HB1.out).alloc _).bytes [91] hown' hgrow); have HK3 := Lib.hid ((HKb.out.trans (KeptT.alloc _ _)).trans (KeptT.grown ((H.out.beyond HB1.out).alloc _).row hgrow)); have HK13 : Hid (1 ≤ t.length → Keeps1 _ vt w3 v2) := Lib.hid (fun hl => (HK1b.out.trans (Keeps1.below vt (one_box w1 _))).trans (Keeps1.grown hown' (by omega) hgrow)); obtain ⟨c0, c1, c2, c3⟩ := HCS.out _ HK3.out; clear hown' hgrow) | (go_at_call 46; ((with_reducible refine (K46'.out _).mono ?_)); rintro e w4 ⟨rfl, hb4⟩; have H4 := Lib.hid (H3.out.beyond hb4); have HK4 := Lib.hid (HK3.out.trans (KeptT.below hb4)); have HK14 : Hid (1 ≤ t.length → Keeps1 _ vt w4 v2) := Lib.hid (fun hl => (HK13.out hl).trans (Keeps1.below v2 hb4)); clear hb4))
        go_loopw [0, 5] (fun v i wr => LoopJ B w0 (w.alloc (.cells #[.int .u64 s0, .int .u64 s1, .int .u64 s2, .int .u64 s3] 24)) S vt t v i wr) (fun _ i _ => 256 - (intOf i).toNat)
        case atStart => exact ⟨l0, HL0.out.1, rfl, HL0.out.2.1, by rw [HL0.out.2.2, List.flatMap_nil, List.append_nil]; exact H4.out, HK4.out, HK14.out⟩
        case round =>
          obtain ⟨lo, hlo, rfl, hm, hrow, hk, hk1⟩ := hrel
          have HT := Lib.hid hrow
          have HKT := Lib.hid hk
          have HK1 := Lib.hid hk1
          have hlen : (t ++ [91] ++ (runsTo S lo).flatMap itemJ).length ≤ 101300 := by
            have := runsJ_len S lo hlo
            simp only [List.length_append, List.length_singleton]; omega
          obtain ⟨d0, d1, d2, d3⟩ := HCS.out _ hk
          clear hrow hk hk1
          by_cases a : lo < 256
          · obtain ⟨hmm, hm0⟩ := hm a
            obtain ⟨hi, q1, q2, q3, q4, q5, q6⟩ := run_next a hmm hm0
            obtain ⟨nx, hnx⟩ : ∃ nx, nx = nxt S (nxt (compl S) lo) := ⟨_, rfl⟩
            rw [← hnx] at q3 q4 q5 q6
            have KC : Hid (∀ w, Calls Tryd.prog 46 #[.agg #[.int .u64 z0, .int .u64 z1, .int .u64 z2, .int .u64 z3], .int .i64 lo] w fun e w' => e = .returned (.int .i64 ((hi.toNat : Int) + 1)) ∧ Below w.heap.size w w') := Lib.hid fun w => by
              have := K46c.out lo hlo w
              rw [q2] at this; exact_mod_cast this
            have KN : Hid (∀ w, Calls Tryd.prog 46 #[.agg #[.int .u64 s0, .int .u64 s1, .int .u64 s2, .int .u64 s3], .int .i64 ((hi.toNat : Int) + 1)] w fun e w' => e = .returned (.int .i64 nx) ∧ Below w.heap.size w w') := Lib.hid fun w => by
              have := K46.out (hi.toNat + 1) (by have := hi.toNat_lt; omega) w
              rw [← q2, ← hnx, q2] at this; exact_mod_cast this
            obtain ⟨x, hx⟩ : ∃ x : UInt8, x = UInt8.ofNat lo := ⟨_, rfl⟩
            have hxl : x.toNat = lo := by rw [hx]; exact u8_nat a
            have KX : Hid (∀ w1 v1 t1, t1.length ≤ 1000000 → RowB B w0 w1 v1 t1 → Calls Tryd.prog 45 #[v1, .int .i64 lo, .string ⟨#[93, 45, 92, 94]⟩] w1 (Wrt B w0 w1 v1 t1 (t1 ++ esc sgJ x))) := Lib.hid fun w1 v1 t1 ht1 h1 => by rw [← hxl]; exact abyte_any B w0 w1 v1 t1 x setJ sgJ looksJ ht1 h1
            have KY : Hid (∀ w1 v1 t1, t1.length ≤ 1000000 → RowB B w0 w1 v1 t1 → Calls Tryd.prog 45 #[v1, .int .i64 hi.toNat, .string ⟨#[93, 45, 92, 94]⟩] w1 (Wrt B w0 w1 v1 t1 (t1 ++ esc sgJ hi))) := Lib.hid fun w1 v1 t1 ht1 h1 => abyte_any B w0 w1 v1 t1 hi setJ sgJ looksJ ht1 h1
            have hit : itemJ (x, hi) = esc sgJ x ++ if (lo : Int) < (hi.toNat : Int) then 45 :: esc sgJ hi else [] := by unfold itemJ; dsimp only; rw [hxl]
            have HQ3 : Hid ((runsTo S nx).flatMap itemJ = (runsTo S lo).flatMap itemJ ++ itemJ (x, hi)) := Lib.hid (by rw [q3, List.flatMap_append, ← hx]; simp)
            have HQ4 : Hid (nx < 256 → mem S nx = true ∧ (nx = 0 ∨ mem S (nx - 1) = false)) := Lib.hid fun h => ⟨(q4 h).1, .inr (q4 h).2⟩
            obtain ⟨y, hy⟩ : ∃ y : Nat, y = hi.toNat := ⟨_, rfl⟩
            have hy256 : y < 256 := by rw [hy]; exact hi.toNat_lt
            rw [← hy] at KC KN KY hit q1
            have hel := esc_len sgJ x
            obtain ⟨t1, ht1⟩ : ∃ t1, t1 = t ++ [91] ++ (runsTo S lo).flatMap itemJ := ⟨_, rfl⟩
            rw [← ht1] at HT hlen
            have HT1 := Lib.hid ht1
            clear hm hmm hm0 q2 q3 q4 hnx hx hxl hy ht1
            by_cases l1 : lo < y
            · rw [if_pos (by omega)] at hit
              have HI := Lib.hid hit
              clear hit
              have sx : ((y : Int) + 1 - 1) = (y : Int) := by omega
              go_wp2_with (first
                | (go_at_call 47; ((with_reducible refine (K47.out _).mono ?_)); rintro e w5 ⟨rfl, hb5⟩; have H5 := Lib.hid (HT.out.beyond hb5); have HK5 := Lib.hid (HKT.out.trans (KeptT.below hb5)); have HK15 : Hid (1 ≤ t.length → Keeps1 _ vt w5 _) := Lib.hid (fun hl => (HK1.out hl).trans (Keeps1.below _ hb5)); clear hb5)
                | (go_at_call 46; ((with_reducible refine (KC.out _).mono ?_)); rintro e w6 ⟨rfl, hb6⟩; have H6 := Lib.hid (H5.out.beyond hb6); have HK6 := Lib.hid (HK5.out.trans (KeptT.below hb6)); have HK16 : Hid (1 ≤ t.length → Keeps1 _ vt w6 _) := Lib.hid (fun hl => (HK15.out hl).trans (Keeps1.below _ hb6)); clear hb6)
                | (go_at_call 45; ((with_reducible refine (KX.out _ _ _ ?_ H6.out).mono ?_)); (omega); rintro e w7 ⟨v7, rfl, hrow7, hk7, hk17⟩; have H7 := Lib.hid hrow7; have HK7 := Lib.hid (HK6.out.trans hk7); have HK17 : Hid (1 ≤ t.length → Keeps1 _ vt w7 v7) := Lib.hid (fun hl => (HK16.out hl).trans (hk17 (by rw [HT1.out]; simp; omega))); have hl7 : (t1 ++ esc sgJ x).length ≤ 101302 := (by simp only [List.length_append]; omega); clear hrow7 hk7 hk17)
                | (at_builtin; refine wpList_append_own _ rfl (.tmp 42) (.tmp 43) 49 rfl B 5 j0 (.int .u8 0) 1 1 Tryd.underlying49 hj hy0 hy1 hy2 rfl (by decide) _ _ _ rfl (H7.out.alloc _).row ⟨w7.heap.size, 0, none⟩ 1 1 (byteCells [45]) rfl rfl (fun j u hu => new_cells w7 5 #[.int .u8 45] j u hu) (bytes_one _) (by unfold maxLen; omega) (by omega) (H7.out.alloc _).size ?_; intro v8 w8 hown8 hgrow8 _; have H8 := Lib.hid ((H7.out.alloc _).bytes [45] hown8 hgrow8); have HK8 := Lib.hid ((HK7.out.trans (KeptT.alloc _ _)).trans (KeptT.grown (H7.out.alloc _).row hgrow8)); have HK18 : Hid (1 ≤ t.length → Keeps1 _ vt w8 v8) := Lib.hid (fun hl => ((HK17.out hl).trans (Keeps1.below _ (one_box w7 _))).trans (Keeps1.grown hown8 (by rw [HT1.out]; simp; omega) hgrow8)); have hl8 := len_snoc hl7 (45 : UInt8); clear hown8 hgrow8)
                | (go_at_call 45; ((with_reducible refine (KY.out _ _ _ ?_ H8.out).mono ?_)); (omega); rintro e w9 ⟨v9, rfl, hrow9, hk9, hk19⟩; have H9 := Lib.hid hrow9; have HK9 := Lib.hid (HK8.out.trans hk9); have HK19 : Hid (1 ≤ t.length → Keeps1 _ vt w9 v9) := Lib.hid (fun hl => (HK18.out hl).trans (hk19 (by simp; omega))); obtain ⟨e0, e1, e2, e3⟩ := HCS.out _ HK9.out; clear hrow9 hk9 hk19)
                | (go_at_call 46; ((with_reducible refine (KN.out _).mono ?_)); rintro e w10 ⟨rfl, hb10⟩))
              go_roundw
              case rel => exact ⟨nx, q5, rfl, HQ4.out, by have := H9.out.beyond hb10; rw [HQ3.out, HI.out, ← List.append_assoc, ← HT1.out, app_mid]; exact this, HK9.out.trans (KeptT.below hb10), fun hl => (HK19.out hl).trans (Keeps1.below _ hb10)⟩
              case measure => simp [intOf]; omega
            · rw [if_neg (by omega), List.append_nil] at hit
              have HI := Lib.hid hit
              obtain rfl : lo = y := by omega
              clear hit
              have sx : ((lo : Int) + 1 - 1) = (lo : Int) := by omega
              go_wp2_with (first
                | (go_at_call 47; ((with_reducible refine (K47.out _).mono ?_)); rintro e w5 ⟨rfl, hb5⟩; have H5 := Lib.hid (HT.out.beyond hb5); have HK5 := Lib.hid (HKT.out.trans (KeptT.below hb5)); have HK15 : Hid (1 ≤ t.length → Keeps1 _ vt w5 _) := Lib.hid (fun hl => (HK1.out hl).trans (Keeps1.below _ hb5)); clear hb5)
                | (go_at_call 46; ((with_reducible refine (KC.out _).mono ?_)); rintro e w6 ⟨rfl, hb6⟩; have H6 := Lib.hid (H5.out.beyond hb6); have HK6 := Lib.hid (HK5.out.trans (KeptT.below hb6)); have HK16 : Hid (1 ≤ t.length → Keeps1 _ vt w6 _) := Lib.hid (fun hl => (HK15.out hl).trans (Keeps1.below _ hb6)); clear hb6)
                | (go_at_call 45; ((with_reducible refine (KX.out _ _ _ ?_ H6.out).mono ?_)); (omega); rintro e w7 ⟨v7, rfl, hrow7, hk7, hk17⟩; have H7 := Lib.hid hrow7; have HK7 := Lib.hid (HK6.out.trans hk7); have HK17 : Hid (1 ≤ t.length → Keeps1 _ vt w7 v7) := Lib.hid (fun hl => (HK16.out hl).trans (hk17 (by rw [HT1.out]; simp; omega))); obtain ⟨e0, e1, e2, e3⟩ := HCS.out _ HK7.out; clear hrow7 hk7 hk17)
                | (go_at_call 46; ((with_reducible refine (KN.out _).mono ?_)); rintro e w10 ⟨rfl, hb10⟩))
              go_roundw
              case rel => exact ⟨nx, q5, rfl, HQ4.out, by have := H7.out.beyond hb10; rw [HQ3.out, HI.out, ← List.append_assoc, ← HT1.out]; exact this, HK7.out.trans (KeptT.below hb10), fun hl => (HK17.out hl).trans (Keeps1.below _ hb10)⟩
              case measure => simp [intOf]; omega
          · obtain rfl : lo = 256 := by omega
            obtain ⟨t1, ht1⟩ : ∃ t1, t1 = t ++ [91] ++ (runsTo S 256).flatMap itemJ := ⟨_, rfl⟩
            rw [← ht1] at HT hlen
            have HT1 := Lib.hid ht1
            clear ht1 hm
            go_wp2_with (at_builtin; refine wpList_append_own _ rfl (.tmp 51) (.tmp 52) 49 rfl B 5 j0 (.int .u8 0) 1 1 Tryd.underlying49 hj hy0 hy1 hy2 rfl (by decide) _ _ _ rfl (HT.out.alloc _).row ⟨wr.heap.size, 0, none⟩ 1 1 (byteCells [93]) rfl rfl (fun j u hu => new_cells wr 5 #[.int .u8 93] j u hu) (bytes_one _) (by unfold maxLen; omega) (by omega) (HT.out.alloc _).size ?_; intro v8 w8 hown8 hgrow8 _)
            go_ret
            refine ⟨_, rfl, ?_, ((KeptT.alloc w _).trans HKT.out).trans ((KeptT.alloc _ _).trans (KeptT.grown (HT.out.alloc _).row hgrow8)), fun hl => ((Keeps1.below vt (one_box w _)).trans (HK1.out hl)).trans ((Keeps1.below _ (one_box wr _)).trans (Keeps1.grown hown8 (by rw [HT1.out]; simp; omega) hgrow8))⟩
            have := (HT.out.alloc _).bytes [93] hown8 hgrow8
            rw [HT1.out] at this
            rw [HU.out]
            unfold runs
            simpa using this
end Go.Proofs.YtccheljfbjllhaaDoor
