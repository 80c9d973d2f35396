/- The contract of appendByte: what is printed of one byte. -/
import Derived.Test.YtafnlbcpnamdkaaRMay
import Derived.Deep.RegionLaw
namespace Go.Proofs.Ytafnlbcpnamdkaa
open Go Go.RowKit

abbrev RowB (B : Nat) (w0 w : World) (v : Value) (t : Bs) : Prop := Row1 5 1 B w0 w v t.length (byteCells t)
theorem Row1.bytes {B : Nat} {w0 w w' : World} {v v' : Value} {t : Bs} (u : Bs) (h : RowB B w0 w v t) (ho : w'.ownsRow B 5 1 v' (t.length + u.length) (byteCells t ++ byteCells u)) (hg : w.grownBy w' v.ownBlock) : RowB B w0 w' v' (t ++ u) := by
  have := h.grown ho hg
  unfold RowB
  rw [List.length_append]
  simpa [byteCells, Lib.byteCells] using this
/-- What does not hold bytes is as it was. -/
def KeptT (w w' : World) : Prop := w.heap.size ≤ w'.heap.size ∧ ∀ (k : Nat) (cs : Array Value) (T : TypeId), w.heap[k]? = some (.cells cs T (0, 0)) → T ≠ 5 → w'.heap[k]? = some (.cells cs T (0, 0))
theorem KeptT.refl (w : World) : KeptT w w := ⟨Nat.le_refl _, fun _ _ _ h _ => h⟩
theorem KeptT.trans {a b c : World} (h : KeptT a b) (k : KeptT b c) : KeptT a c := ⟨Nat.le_trans h.1 k.1, fun i cs T hi ht => k.2 i cs T (h.2 i cs T hi ht) ht⟩
theorem KeptT.alloc (w : World) (o : Obj) : KeptT w (w.alloc o) := ⟨by simp, fun k cs T h _ => by rw [Below.heap_alloc w o k (Array.getElem?_eq_some_iff.1 h).1]; exact h⟩
theorem KeptT.drew (w : World) : KeptT w w.drew := ⟨Nat.le_refl _, fun _ _ _ h _ => h⟩
theorem KeptT.grown {w w' : World} {B n : Nat} {v : Value} {xs : List Value} (h : w.ownsRow B 5 1 v n xs) (hg : w.grownBy w' v.ownBlock) : KeptT w w' := by
  refine ⟨hg.size, fun k cs T hk ht => ?_⟩
  rw [hg.block k (Array.getElem?_eq_some_iff.1 hk).1 ?_]
  · exact hk
  · intro e
    rcases h.2 with ⟨rfl, _⟩ | ⟨g, cap, cur, rfl, _, hh, _⟩
    · simp [Value.ownBlock] at e
    · simp only [Value.ownBlock, Option.some.injEq] at e
      subst e
      rw [hk] at hh
      injection hh with hh
      injection hh with _ ht'
      exact ht ht'
theorem KeptT.cell {w w' : World} {k : Nat} {cs : Array Value} {T : TypeId} (h : KeptT w w') (hk : w.heap[k]? = some (.cells cs T (0, 0))) (ht : T ≠ 5) (j : Nat) : w'.cell? ⟨k, j, none⟩ = cs[j]? :=
  cell_of_row w' k j cs T (0, 0) (h.2 k cs T hk ht)
theorem len_snoc {α : Type} {t : List α} {n : Nat} (h : t.length ≤ n) (c : α) : (t ++ [c]).length ≤ n + 1 := by rw [List.length_append]; simp; omega
/-- What appends leave. -/
def Wrote (B : Nat) (w0 w : World) (t : Bs) (e : Ending) (w' : World) : Prop := ∃ v', e = .returned v' ∧ RowB B w0 w' v' t ∧ KeptT w w'
set_option maxHeartbeats 1000000 in
theorem abyte_any (B : Nat) (w0 w : World) (vt : Value) (t : Bs) (c : UInt8) (set : ByteArray) (sg : Bs) (hlk : Looks set sg) (ht : t.length ≤ 1000000) (h : RowB B w0 w vt t) :
    Calls Try.prog 29 #[vt, .int .u8 c.toNat, .string set] w (Wrote B w0 w (t ++ esc sg c)) := by
  have H := Lib.hid h
  obtain ⟨j0, hj, hy0, hy1, hy2⟩ := info_parts info5
  obtain ⟨v, hv⟩ : ∃ v, v = Lib.indexByte set.data.toList c := ⟨_, rfl⟩
  obtain ⟨l1, l2, l3⟩ := hlk c
  rw [← hv] at l1 l2 l3
  have K := Lib.hid fun w => idx_is set c v hv.symm w
  by_cases hin : c ∈ sg
  · have he : esc sg c = [92, c] := by unfold esc; rw [if_pos hin]
    have h0 := l1.2 hin
    rw [he]
    clear h he hin l1 hv hlk
    go_enter Try.func29, Try.ntmps29
    go_wp2_with (first | (go_at_call 35; ((with_reducible refine (K.out _).mono ?_)); rintro e w1 ⟨rfl, rfl⟩) | (at_builtin; refine wpList_append_own _ rfl (.tmp 11) (.tmp 12) 41 rfl B 5 j0 (.int .u8 0) 1 1 Try.underlying41 hj hy0 hy1 hy2 rfl (by decide) _ _ _ rfl (H.out.alloc _).row ⟨w.heap.size, 0, none⟩ 1 1 (byteCells [92]) rfl rfl (fun j u hu => new_cells w 5 #[.int .u8 92] j u hu) (bytes_one _) (by unfold maxLen; omega) (by omega) (H.out.alloc _).size ?_; intro v2 w3 hown' hgrow _; have HG1 := Lib.hid ((KeptT.alloc w _).trans (KeptT.grown (H.out.alloc _).row hgrow)); have H3 := Lib.hid ((H.out.alloc _).bytes [92] hown' hgrow); have hl3 := len_snoc ht (92 : UInt8); clear hown' hgrow) | (at_builtin; refine wpList_append_own _ rfl (.tmp 14) (.tmp 16) 41 rfl B 5 j0 (.int .u8 0) 1 1 Try.underlying41 hj hy0 hy1 hy2 rfl (by decide) _ _ _ rfl (H3.out.alloc _).row ⟨w3.heap.size, 0, none⟩ 1 1 (byteCells [c]) rfl rfl (fun j u hu => new_cells w3 5 #[.int .u8 c.toNat] j u hu) (bytes_one _) (by unfold maxLen; omega) (by omega) (H3.out.alloc _).size ?_; intro v4 w5 hown5 hgrow5 _))
    go_ret
    refine ⟨_, rfl, ?_, HG1.out.trans ((KeptT.alloc w3 _).trans (KeptT.grown (H3.out.alloc _).row hgrow5))⟩
    have := (H3.out.alloc _).bytes [c] hown5 hgrow5
    simpa using this
  · have he : esc sg c = [c] := by unfold esc; rw [if_neg hin]
    have h0 : ¬ 0 ≤ v := fun x => hin (l1.1 x)
    rw [he]
    clear h he hin l1 hv hlk
    go_enter Try.func29, Try.ntmps29
    go_wp2_with (first | (go_at_call 35; ((with_reducible refine (K.out _).mono ?_)); rintro e w1 ⟨rfl, rfl⟩) | (at_builtin; refine wpList_append_own _ rfl (.tmp 14) (.tmp 16) 41 rfl B 5 j0 (.int .u8 0) 1 1 Try.underlying41 hj hy0 hy1 hy2 rfl (by decide) _ _ _ rfl (H.out.alloc _).row ⟨w.heap.size, 0, none⟩ 1 1 (byteCells [c]) rfl rfl (fun j u hu => new_cells w 5 #[.int .u8 c.toNat] j u hu) (bytes_one _) (by unfold maxLen; omega) (by omega) (H.out.alloc _).size ?_; intro v4 w5 hown5 hgrow5 _))
    go_ret
    exact ⟨_, rfl, (H.out.alloc _).bytes [c] hown5 hgrow5, (KeptT.alloc w _).trans (KeptT.grown (H.out.alloc _).row hgrow5)⟩
end Go.Proofs.Ytafnlbcpnamdkaa
