/- What is printed: rows of bytes that are appended to; one byte; one set; the sign of a repeat. -/
import Derived.Test.YtccheljfbjllhaaDoorSetW
import Derived.Test.YtccheljfbjllhaaDoorShelf2
import Derived.Lib.AppendStr
import Derived.Deep.RegionLaw
namespace Go.Proofs.YtccheljfbjllhaaDoor
open Go Go.RowKit

abbrev RowB (B : Nat) (w0 w : World) (v : Value) (t : Bs) : Prop := Row1 5 1 B w0 w v t.length (byteCells t)
theorem Row1.bytes {B : Nat} {w0 w w' : World} {v v' : Value} {t : Bs} (u : Bs) (h : RowB B w0 w v t) (ho : w'.ownsRow B 5 1 v' (t.length + u.length) (byteCells t ++ byteCells u)) (hg : w.grownBy w' v.ownBlock) : RowB B w0 w' v' (t ++ u) := by
  have := h.grown ho hg
  unfold RowB
  rw [List.length_append]
  simpa [byteCells, Lib.byteCells] using this
/-- What does not hold bytes is as it was. -/
def KeptT (w w' : World) : Prop := w.heap.size ≤ w'.heap.size ∧ ∀ (k : Nat) (cs : Array Value) (T : TypeId), w.heap[k]? = some (.cells cs T (0, 0)) → T ≠ 5 → w'.heap[k]? = some (.cells cs T (0, 0))
theorem KeptT.refl (w : World) : KeptT w w := ⟨Nat.le_refl _, fun _ _ _ h _ => h⟩
theorem KeptT.trans {a b c : World} (h : KeptT a b) (k : KeptT b c) : KeptT a c := ⟨Nat.le_trans h.1 k.1, fun i cs T hi ht => k.2 i cs T (h.2 i cs T hi ht) ht⟩
theorem KeptT.alloc (w : World) (o : Obj) : KeptT w (w.alloc o) := ⟨by simp, fun k cs T h _ => by rw [Below.heap_alloc w o k (Array.getElem?_eq_some_iff.1 h).1]; exact h⟩
theorem KeptT.drew (w : World) : KeptT w w.drew := ⟨Nat.le_refl _, fun _ _ _ h _ => h⟩
theorem KeptT.below {w w' : World} (h : Below w.heap.size w w') : KeptT w w' := ⟨h.size, fun k cs T hk _ => by rw [h.block k (Array.getElem?_eq_some_iff.1 hk).1]; exact hk⟩
theorem own_heap {w : World} {B n : Nat} {v : Value} {xs : List Value} (h : w.ownsRow B 5 1 v n xs) {k : Nat} (e : some k = v.ownBlock) : ∃ cur : Array Value, w.heap[k]? = some (.cells cur 5 (0, 0)) ∧ n ≤ cur.size := by
  rcases h.2 with ⟨rfl, _⟩ | ⟨g, cap, cur, rfl, _, hh, hc, _, hcs, _⟩
  · simp [Value.ownBlock] at e
  · simp only [Value.ownBlock, Option.some.injEq] at e
    subst e
    exact ⟨cur, hh, by simpa using (show n ≤ cur.size by rw [hcs]; omega)⟩
theorem KeptT.grown {w w' : World} {B n : Nat} {v : Value} {xs : List Value} (h : w.ownsRow B 5 1 v n xs) (hg : w.grownBy w' v.ownBlock) : KeptT w w' := by
  refine ⟨hg.size, fun k cs T hk ht => ?_⟩
  rw [hg.block k (Array.getElem?_eq_some_iff.1 hk).1 ?_]
  · exact hk
  · intro e
    obtain ⟨cur, hh, _⟩ := own_heap h e
    rw [hk] at hh
    injection hh with hh
    injection hh with _ ht'
    exact ht ht'
theorem KeptT.cell {w w' : World} {k : Nat} {cs : Array Value} {T : TypeId} (h : KeptT w w') (hk : w.heap[k]? = some (.cells cs T (0, 0))) (ht : T ≠ 5) (j : Nat) : w'.cell? ⟨k, j, none⟩ = cs[j]? :=
  cell_of_row w' k j cs T (0, 0) (h.2 k cs T hk ht)
/-- A box of one cell that isn't the row's own stays, and isn't the new row's own. -/
def Keeps1 (w : World) (v : Value) (w' : World) (v' : Value) : Prop := ∀ (k : Nat) (x : Value) (T : TypeId), w.heap[k]? = some (.cells #[x] T (0, 0)) → some k ≠ v.ownBlock → w'.heap[k]? = some (.cells #[x] T (0, 0)) ∧ some k ≠ v'.ownBlock
theorem Keeps1.refl (w : World) (v : Value) : Keeps1 w v w v := fun _ _ _ h h' => ⟨h, h'⟩
theorem Keeps1.trans {a b c : World} {u v x : Value} (h : Keeps1 a u b v) (k : Keeps1 b v c x) : Keeps1 a u c x := fun i y T hi hn => by
  obtain ⟨h1, h2⟩ := h i y T hi hn
  exact k i y T h1 h2
theorem Keeps1.below {w w' : World} (v : Value) (h : Below w.heap.size w w') : Keeps1 w v w' v := fun k x T hk hn => ⟨by rw [h.block k (Array.getElem?_eq_some_iff.1 hk).1]; exact hk, hn⟩
theorem Keeps1.grown {w w' : World} {B L : Nat} {v v' : Value} {xs' : List Value} (ho : w'.ownsRow B 5 1 v' L xs') (hL : 2 ≤ L) (hg : w.grownBy w' v.ownBlock) : Keeps1 w v w' v' := fun k x T hk hn => by
  have h1 : w'.heap[k]? = some (.cells #[x] T (0, 0)) := by rw [hg.block k (Array.getElem?_eq_some_iff.1 hk).1 hn]; exact hk
  refine ⟨h1, fun e => ?_⟩
  obtain ⟨cur, hh, hc⟩ := own_heap ho e
  rw [h1] at hh
  injection hh with hh
  injection hh with hcs
  subst hcs
  simp at hc; omega
theorem len_snoc {α : Type} {t : List α} {n : Nat} (h : t.length ≤ n) (c : α) : (t ++ [c]).length ≤ n + 1 := by rw [List.length_append]; simp; omega
/-- What appends leave. -/
def Wrt (B : Nat) (w0 w : World) (v : Value) (t t' : Bs) (e : Ending) (w' : World) : Prop := ∃ v', e = .returned v' ∧ RowB B w0 w' v' t' ∧ KeptT w w' ∧ (1 ≤ t.length → Keeps1 w v w' v')
def setA : ByteArray := ⟨#[92, 124, 40, 41, 42, 43, 63, 123, 46, 91, 94, 36]⟩
def setJ : ByteArray := ⟨#[93, 45, 92, 94]⟩
theorem looksA : Looks setA sgA := all256 _ (by decide +kernel)
theorem looksJ : Looks setJ sgJ := all256 _ (by decide +kernel)
set_option maxRecDepth 100000 in
set_option maxHeartbeats 1000000 in
theorem abyte_any (B : Nat) (w0 w : World) (vt : Value) (t : Bs) (c : UInt8) (set : ByteArray) (sg : Bs) (hlk : Looks set sg) (ht : t.length ≤ 1000000) (h : RowB B w0 w vt t) :
    Calls Tryd.prog 45 #[vt, .int .i64 c.toNat, .string set] w (Wrt B w0 w vt t (t ++ esc sg c)) := by
  have H := Lib.hid h
  obtain ⟨j0, hj, hy0, hy1, hy2⟩ := info_parts info5
  obtain ⟨v, hv⟩ : ∃ v, v = Lib.indexByte set.data.toList c := ⟨_, rfl⟩
  obtain ⟨l1, l2, l3⟩ := hlk c
  rw [← hv] at l1 l2 l3
  have K := Lib.hid fun w => idx_is set c v hv.symm w
  obtain ⟨y, hy⟩ : ∃ y : Int, y = (c.toNat : Int) := ⟨_, rfl⟩
  have hyb : 0 ≤ y ∧ y < 256 := by rw [hy]; have := c.toNat_lt; omega
  obtain ⟨hyb0, hyb1⟩ := hyb
  rw [← hy] at K ⊢
  have HY := Lib.hid hy
  by_cases hin : c ∈ sg
  · have he : esc sg c = [92, c] := by unfold esc; rw [if_pos hin]
    have h0 := l1.2 hin
    rw [he]
    clear h he hin l1 hv hlk hy
    go_enter Tryd.func45, Tryd.ntmps45
    go_wp2_with (first | (go_at_call 54; ((with_reducible refine (K.out _).mono ?_)); rintro e w1 ⟨rfl, rfl⟩) | (at_builtin; refine wpList_append_own _ rfl (.tmp 12) (.tmp 13) 49 rfl B 5 j0 (.int .u8 0) 1 1 Tryd.underlying49 hj hy0 hy1 hy2 rfl (by decide) _ _ _ rfl (H.out.alloc _).row ⟨w.heap.size, 0, none⟩ 1 1 (byteCells [92]) rfl rfl (fun j u hu => new_cells w 5 #[.int .u8 92] j u hu) (bytes_one _) (by unfold maxLen; omega) (by omega) (H.out.alloc _).size ?_; intro v2 w3 hown' hgrow _; have HG1 := Lib.hid ((KeptT.alloc w _).trans (KeptT.grown (H.out.alloc _).row hgrow)); have HK1 : Hid (1 ≤ t.length → Keeps1 w vt w3 v2) := Lib.hid (fun hl => (Keeps1.below vt (one_box w _)).trans (Keeps1.grown hown' (by omega) hgrow)); have H3 := Lib.hid ((H.out.alloc _).bytes [92] hown' hgrow); have hl3 := len_snoc ht (92 : UInt8); clear hown' hgrow) | (at_builtin; refine wpList_append_own _ rfl (.tmp 15) (.tmp 18) 49 rfl B 5 j0 (.int .u8 0) 1 1 Tryd.underlying49 hj hy0 hy1 hy2 rfl (by decide) _ _ _ rfl (H3.out.alloc _).row ⟨w3.heap.size, 0, none⟩ 1 1 (byteCells [c]) rfl rfl (fun j u hu => new_cells w3 5 #[.int .u8 y] j u (by rw [HY.out]; exact hu)) (bytes_one _) (by unfold maxLen; omega) (by omega) (H3.out.alloc _).size ?_; intro v4 w5 hown5 hgrow5 _))
    go_ret
    refine ⟨_, rfl, ?_, HG1.out.trans ((KeptT.alloc w3 _).trans (KeptT.grown (H3.out.alloc _).row hgrow5)), fun hl => (HK1.out hl).trans ((Keeps1.below v2 (one_box w3 _)).trans (Keeps1.grown hown5 (by first | (simp; done) | (simp; omega)) hgrow5))⟩
    have := (H3.out.alloc _).bytes [c] hown5 hgrow5
    simpa using this
  · have he : esc sg c = [c] := by unfold esc; rw [if_neg hin]
    have h0 : ¬ 0 ≤ v := fun x => hin (l1.1 x)
    rw [he]
    clear h he hin l1 hv hlk hy
    go_enter Tryd.func45, Tryd.ntmps45
    go_wp2_with (first | (go_at_call 54; ((with_reducible refine (K.out _).mono ?_)); rintro e w1 ⟨rfl, rfl⟩) | (at_builtin; refine wpList_append_own _ rfl (.tmp 15) (.tmp 18) 49 rfl B 5 j0 (.int .u8 0) 1 1 Tryd.underlying49 hj hy0 hy1 hy2 rfl (by decide) _ _ _ rfl (H.out.alloc _).row ⟨w.heap.size, 0, none⟩ 1 1 (byteCells [c]) rfl rfl (fun j u hu => new_cells w 5 #[.int .u8 y] j u (by rw [HY.out]; exact hu)) (bytes_one _) (by unfold maxLen; omega) (by omega) (H.out.alloc _).size ?_; intro v4 w5 hown5 hgrow5 _))
    go_ret
    exact ⟨_, rfl, (H.out.alloc _).bytes [c] hown5 hgrow5, (KeptT.alloc w _).trans (KeptT.grown (H.out.alloc _).row hgrow5), fun hl => (Keeps1.below vt (one_box w _)).trans (Keeps1.grown hown5 (by first | (simp; done) | (simp; omega)) hgrow5)⟩
theorem dig_digits (i : Nat) (hi : i ≤ 8) (w : World) : Calls Tryd.prog 48 #[.int .i64 i] w fun e w' => e = .returned (.string ⟨#[dig i]⟩) ∧ w' = w := by
  refine (Tryd.strconv_Itoa_small i (by omega) w).mono fun e w' ⟨h1, h2⟩ => ⟨?_, h2⟩
  rw [h1, Lib.decDigits, dif_pos (by omega)]
  unfold dig
  simp
set_option maxRecDepth 100000 in
set_option maxHeartbeats 1000000 in
theorem sign_any (lo hi : Int) (hb : bound lo hi = true) (w : World) : Calls Tryd.prog 35 #[.int .i64 lo, .int .i64 hi] w fun e w' => e = .returned (.string ⟨(signT lo hi).toArray⟩) ∧ w' = w := by
  unfold bound at hb
  simp only [Bool.and_eq_true, Bool.or_eq_true, decide_eq_true_eq] at hb
  obtain ⟨h0, h8, hh⟩ := hb
  obtain ⟨i, rfl⟩ : ∃ i : Nat, lo = i := ⟨lo.toNat, by omega⟩
  have K : Hid (∀ (x : Int) w, x = (i : Int) → Calls Tryd.prog 48 #[.int .i64 x] w fun e w' => e = .returned (.string ⟨#[dig i]⟩) ∧ w' = w) := Lib.hid fun x w h => by rw [h]; exact dig_digits i (by omega) w
  by_cases c1 : (i : Int) = 0 ∧ hi = -1
  · have e : signT i hi = [42] := by unfold signT; rw [if_pos c1]
    rw [e]
    obtain ⟨c1, rfl⟩ := c1
    obtain rfl : i = 0 := by omega
    clear e K h0 h8 hh c1
    go_enter Tryd.func35, Tryd.ntmps35
    go_wp2
    go_ret
    exact ⟨rfl, rfl⟩
  · by_cases c2 : (i : Int) = 1 ∧ hi = -1
    · have e : signT i hi = [43] := by unfold signT; rw [if_neg c1, if_pos c2]
      rw [e]
      obtain ⟨c2, rfl⟩ := c2
      obtain rfl : i = 1 := by omega
      clear e K h0 h8 hh c1 c2
      go_enter Tryd.func35, Tryd.ntmps35
      go_wp2
      go_ret
      exact ⟨rfl, rfl⟩
    · by_cases c3 : (i : Int) = 0 ∧ hi = 1
      · have e : signT i hi = [63] := by unfold signT; rw [if_neg c1, if_neg c2, if_pos c3]
        rw [e]
        obtain ⟨c3, rfl⟩ := c3
        obtain rfl : i = 0 := by omega
        clear e K h0 h8 hh c1 c2 c3
        go_enter Tryd.func35, Tryd.ntmps35
        go_wp2
        go_ret
        exact ⟨rfl, rfl⟩
      · by_cases c4 : hi = i
        · have e : signT i hi = [123, dig i, 125] := by unfold signT; rw [if_neg c1, if_neg c2, if_neg c3, if_pos c4]
          rw [e]
          subst c4
          have b1 : ((i : Int) == -1) = false := by first | (simp; done) | (simp; omega)
          have b3 : (((i : Int) == 0) && ((i : Int) == 1)) = false := by first | (simp; done) | (simp; omega)
          obtain ⟨d, hd⟩ : ∃ d, d = dig i := ⟨_, rfl⟩
          rw [← hd] at K ⊢
          clear e h0 h8 hh c1 c2 c3 hd
          by_cases z0 : (i : Int) = 0
          · obtain rfl : i = 0 := by omega
            go_enter Tryd.func35, Tryd.ntmps35
            go_wp2_with (go_at_call 48; ((with_reducible refine (K.out _ _ ?_).mono ?_)); (omega); rintro e w1 ⟨rfl, rfl⟩)
            all_goals (
              go_ret
              exact ⟨rfl, rfl⟩)
          · have b0 : ((i : Int) == 0) = false := by first | (simp; done) | (simp; omega)
            have b0' : (i == 0) = false := by first | (simp; done) | (simp; omega)
            go_enter Tryd.func35, Tryd.ntmps35
            go_wp2_with (go_at_call 48; ((with_reducible refine (K.out _ _ ?_).mono ?_)); (omega); rintro e w1 ⟨rfl, rfl⟩)
            all_goals (
              go_ret
              exact ⟨rfl, rfl⟩)
        · by_cases c5 : hi = -1
          · have e : signT i hi = [123, dig i, 44, 125] := by unfold signT; rw [if_neg c1, if_neg c2, if_neg c3, if_neg c4, if_pos c5]
            rw [e]
            subst c5
            have b0 : ((i : Int) == 0) = false := by first | (simp; done) | (simp; omega)
            have b1 : ((i : Int) == 1) = false := by first | (simp; done) | (simp; omega)
            have b2 : ((-1 : Int) == (i : Int)) = false := by first | (simp; done) | (simp; omega)
            have b0' : (i == 0) = false := by first | (simp; done) | (simp; omega)
            have b1' : (i == 1) = false := by first | (simp; done) | (simp; omega)
            obtain ⟨d, hd⟩ : ∃ d, d = dig i := ⟨_, rfl⟩
            rw [← hd] at K ⊢
            clear e h0 h8 hh c1 c2 c3 c4 hd
            go_enter Tryd.func35, Tryd.ntmps35
            go_wp2_with (go_at_call 48; ((with_reducible refine (K.out _ _ ?_).mono ?_)); (omega); rintro e w1 ⟨rfl, rfl⟩)
            all_goals (
              go_ret
              exact ⟨rfl, rfl⟩)
          · obtain ⟨j, rfl⟩ : ∃ j : Nat, hi = j := ⟨hi.toNat, by omega⟩
            have K2 : Hid (∀ (x : Int) w, x = (j : Int) → Calls Tryd.prog 48 #[.int .i64 x] w fun e w' => e = .returned (.string ⟨#[dig j]⟩) ∧ w' = w) := Lib.hid fun x w h => by rw [h]; exact dig_digits j (by omega) w
            have e : signT i j = [123, dig i, 44, dig j, 125] := by unfold signT; rw [if_neg c1, if_neg c2, if_neg c3, if_neg c4, if_neg c5]
            rw [e]
            have b1 : ((j : Int) == -1) = false := by first | (simp; done) | (simp; omega)
            have b2 : ((j : Int) == (i : Int)) = false := by first | (simp; done) | (simp; omega)
            have b2' : (j == i) = false := by first | (simp; done) | (simp; omega)
            obtain ⟨d, hd⟩ : ∃ d, d = dig i := ⟨_, rfl⟩
            obtain ⟨d2, hd2⟩ : ∃ d, d = dig j := ⟨_, rfl⟩
            rw [← hd] at K ⊢
            rw [← hd2] at K2 ⊢
            have hlt : (i : Int) < j := by omega
            clear e h0 h8 hh c1 c2 c4 c5 hd hd2
            by_cases z0 : i = 0
            · subst z0
              have b3 : ((j : Int) == 1) = false := by first | (simp; done) | (simp; omega)
              have b3' : (j == 1) = false := by first | (simp; done) | (simp; omega)
              clear c3
              go_enter Tryd.func35, Tryd.ntmps35
              go_wp2_with (first | (go_at_call 48; ((with_reducible refine (K.out _ _ ?_).mono ?_)); (omega); rintro e w1 ⟨rfl, rfl⟩) | (go_at_call 48; ((with_reducible refine (K2.out _ _ ?_).mono ?_)); (omega); rintro e w1 ⟨rfl, rfl⟩))
              all_goals (
                go_ret
                exact ⟨rfl, rfl⟩)
            · have b0 : ((i : Int) == 0) = false := by first | (simp; done) | (simp; omega)
              have b0' : (i == 0) = false := by first | (simp; done) | (simp; omega)
              clear c3 z0
              go_enter Tryd.func35, Tryd.ntmps35
              go_wp2_with (first | (go_at_call 48; ((with_reducible refine (K.out _ _ ?_).mono ?_)); (omega); rintro e w1 ⟨rfl, rfl⟩) | (go_at_call 48; ((with_reducible refine (K2.out _ _ ?_).mono ?_)); (omega); rintro e w1 ⟨rfl, rfl⟩))
              all_goals (
                go_ret
                exact ⟨rfl, rfl⟩)
end Go.Proofs.YtccheljfbjllhaaDoor
