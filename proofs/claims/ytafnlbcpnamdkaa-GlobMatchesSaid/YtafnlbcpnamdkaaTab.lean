/- Words for the table of the document's own Match: two rows of truths. -/
import Derived.Test.YtafnlbcpnamdkaaMatch
import Derived.OwnWalk
namespace Go.Proofs.Ytafnlbcpnamdkaa
open Go Go.RowKit

def rowL (gs : List Gl) (s : Bs) (i N : Nat) : List Value := (List.range (N + 1)).map fun k => Value.bool (dp gs s i k)
def nextL (gs : List Gl) (s : Bs) (i k N : Nat) : List Value := (List.range (N + 1)).map fun j => Value.bool (decide (j < k) && dp gs s (i + 1) j)
theorem rowL_get {gs : List Gl} {s : Bs} {i N k : Nat} (hk : k ≤ N) : (rowL gs s i N)[k]? = some (.bool (dp gs s i k)) := by
  unfold rowL; rw [List.getElem?_map, List.getElem?_range (by omega)]; rfl
theorem nextL_get {gs : List Gl} {s : Bs} {i N k j : Nat} (hj : j ≤ N) : (nextL gs s i k N)[j]? = some (.bool (decide (j < k) && dp gs s (i + 1) j)) := by
  unfold nextL; rw [List.getElem?_map, List.getElem?_range (by omega)]; rfl
theorem nextL_set {gs : List Gl} {s : Bs} {i N k : Nat} : (nextL gs s i k N).set k (.bool (dp gs s (i + 1) k)) = nextL gs s i (k + 1) N := by
  apply List.ext_getElem?
  intro j
  rw [List.getElem?_set]
  unfold nextL
  by_cases hj : j < N + 1
  · rw [List.getElem?_map, List.getElem?_map, List.getElem?_range hj]
    by_cases e : k = j
    · subst e; simp [hj]
    · rw [if_neg e]
      have : decide (j < k + 1) = decide (j < k) := by rw [decide_eq_decide]; omega
      simp [this]
  · have h1 : ∀ f : Nat → Value, ((List.range (N + 1)).map f)[j]? = none := fun f => List.getElem?_eq_none (by simp; omega)
    rw [h1, h1]
    by_cases e : k = j
    · rw [if_pos e, if_neg (by simp; omega)]
    · rw [if_neg e]
theorem nextL_skip {gs : List Gl} {s : Bs} {i N k : Nat} (h : dp gs s (i + 1) k = false) : nextL gs s i k N = nextL gs s i (k + 1) N := by
  unfold nextL
  apply List.map_congr_left
  intro j _
  by_cases e : j = k
  · subst e; simp [h]
  · have : decide (j < k + 1) = decide (j < k) := by rw [decide_eq_decide]; omega
    rw [this]
theorem nextL_zero (gs : List Gl) (s : Bs) (i N : Nat) : nextL gs s i 0 N = (madeCells (Value.bool false).cells ((N + 1) * 1)).toList := by
  have e : (Value.bool false).cells = #[.bool false] := rfl
  rw [e, toList_madeCells_one, Nat.mul_one]
  apply List.ext_getElem?
  intro j
  unfold nextL
  by_cases hj : j < N + 1
  · rw [List.getElem?_map, List.getElem?_range hj, List.getElem?_replicate_of_lt hj]; simp
  · rw [List.getElem?_eq_none (by simp; omega), List.getElem?_eq_none (by simp; omega)]
theorem nextL_full (gs : List Gl) (s : Bs) (i N : Nat) : nextL gs s i (N + 1) N = rowL gs s (i + 1) N := by
  unfold nextL rowL
  apply List.map_congr_left
  intro j hj
  rw [List.mem_range] at hj
  simp [hj]
theorem rowL_zero (gs : List Gl) (s : Bs) (N : Nat) (hN : N = s.length) : ((madeCells (Value.bool false).cells ((N + 1) * 1)).toList).set 0 (.bool true) = rowL gs s 0 N := by
  have e : (Value.bool false).cells = #[.bool false] := rfl
  rw [e, toList_madeCells_one, Nat.mul_one]
  apply List.ext_getElem?
  intro j
  rw [List.getElem?_set]
  by_cases hj : j < N + 1
  · rw [rowL_get (by omega), dp_zero gs s j (by omega)]
    by_cases e : 0 = j
    · subst e; simp
    · rw [if_neg e, List.getElem?_replicate_of_lt hj, decide_eq_false (by omega)]
  · have h2 : (rowL gs s 0 N)[j]? = none := List.getElem?_eq_none (by simp [rowL]; omega)
    rw [h2, if_neg (by omega), List.getElem?_eq_none (by simp; omega)]
/-- A row of truths of the call's own. -/
abbrev rv (g N : Nat) : Value := .slice (some ⟨g, 0, none⟩) (N + 1) (N + 1)
structure Tab (B : Nat) (w0 w : World) (g x N : Nat) (xs ys : List Value) : Prop where
  row : w.ownsRow B 4 1 (rv g N) (N + 1) xs
  next : w.ownsRow B 4 1 (rv x N) (N + 1) ys
  ne : x ≠ g
  below : Below B w0 w
  size : B ≤ w.heap.size
theorem Tab.beyond {B : Nat} {w0 w w' : World} {g x N : Nat} {xs ys : List Value} (h : Tab B w0 w g x N xs ys) (hb : Below w.heap.size w w') : Tab B w0 w' g x N xs ys :=
  ⟨below_kept h.row hb, below_kept h.next hb, h.ne, h.below.trans (hb.mono h.size), Nat.le_trans h.size hb.size⟩
theorem Tab.set {B : Nat} {w0 w : World} {g x N : Nat} {xs ys : List Value} (h : Tab B w0 w g x N xs ys) (j : Nat) (u : Value) : Tab B w0 (w.setCell ⟨x, j, none⟩ u) g x N xs (ys.set j u) := by
  obtain ⟨h1, h2⟩ := h.next.stored j u
  refine ⟨h.row.kept h2 (.inr ?_), h1, h.ne, h.below.setCell (h.next.lt x rfl).1 u, Nat.le_trans h.size h2.size⟩
  intro e
  have e : some g = some x := e
  injection e with e
  exact h.ne e.symm
theorem Tab.rowAt {B : Nat} {w0 w : World} {g x N : Nat} {gs : List Gl} {s : Bs} {i : Nat} {ys : List Value} (h : Tab B w0 w g x N (rowL gs s i N) ys) {k : Nat} (hk : k ≤ N) : w.cell? ⟨g, k, none⟩ = some (.bool (dp gs s i k)) := by
  rw [h.row.cellAt k (by omega), rowL_get hk]
theorem Tab.nextAt {B : Nat} {w0 w : World} {g x N : Nat} {gs : List Gl} {s : Bs} {i k : Nat} {xs : List Value} (h : Tab B w0 w g x N xs (nextL gs s i k N)) {j : Nat} (hj : j ≤ N) : w.cell? ⟨x, j, none⟩ = some (.bool (decide (j < k) && dp gs s (i + 1) j)) := by
  rw [h.next.cellAt j (by omega), nextL_get hj]
theorem Tab.frozen {B : Nat} {w0 w : World} {g x N : Nat} {xs ys : List Value} (h : Tab B w0 w g x N xs ys) (j : Nat) : w.frozen? ⟨x, j, none⟩ = false := h.next.frozenAt j
theorem Tab.step {B : Nat} {w0 w : World} {g x N : Nat} {gs : List Gl} {s : Bs} {i k : Nat} {xs : List Value} {b : Bool} (h : Tab B w0 w g x N xs (nextL gs s i k N)) (hb : dp gs s (i + 1) k = b) : Tab B w0 (w.setCell ⟨x, k, none⟩ (.bool b)) g x N xs (nextL gs s i (k + 1) N) := by
  subst hb
  rw [← nextL_set]; exact h.set k _
theorem info4 : (Try.prog.info? 4).map (fun i => (i.zero, i.size, i.bytes)) = some (some (.bool false), 1, 1) := by kernel_rfl
theorem made_cell {B : Nat} {w : World} {g N : Nat} (h : w.ownsRow B 4 1 (rv g N) (N + 1) (madeCells (Value.bool false).cells ((N + 1) * 1)).toList) : w.cell? ⟨g, 0, none⟩ = some (.bool false) := by
  rw [h.cellAt 0 (by omega), show (Value.bool false).cells = #[.bool false] from rfl, toList_madeCells_one]
  rw [List.getElem?_replicate_of_lt (by omega)]
theorem cell_set_ne {w : World} {a b : Addr} {u : Value} (h : a.block ≠ b.block) : (w.setCell b u).cell? a = w.cell? a := World.cell?_of_block (Below.heap_setCell w b u a.block h)
/-- One row alone. -/
structure Row0 (B : Nat) (w0 w : World) (g N : Nat) (xs : List Value) : Prop where
  row : w.ownsRow B 4 1 (rv g N) (N + 1) xs
  below : Below B w0 w
  size : B ≤ w.heap.size
theorem Row0.made {B : Nat} {w0 w w' : World} {x N : Nat} {ys : List Value} (hb : Below B w0 w) (hs : B ≤ w.heap.size) (ho : w'.ownsRow B 4 1 (rv x N) (N + 1) ys) (hg : w.grownBy w' none) : Row0 B w0 w' x N ys :=
  ⟨ho, hb.grown hg hs (fun k h => by cases h), Nat.le_trans hs hg.size⟩
theorem Row0.set {B : Nat} {w0 w : World} {x N : Nat} {ys : List Value} (h : Row0 B w0 w x N ys) (j : Nat) (u : Value) : Row0 B w0 (w.setCell ⟨x, j, none⟩ u) x N (ys.set j u) := by
  obtain ⟨h1, h2⟩ := h.row.stored j u
  exact ⟨h1, h.below.setCell (h.row.lt x rfl).1 u, Nat.le_trans h.size h2.size⟩
theorem Row0.tab {B : Nat} {w0 w w' : World} {g N : Nat} {xs ys : List Value} (h : Row0 B w0 w g N xs) (ho : w'.ownsRow B 4 1 (rv w.heap.size N) (N + 1) ys) (hg : w.grownBy w' none) : Tab B w0 w' g w.heap.size N xs ys :=
  ⟨h.row.kept hg (.inr (by simp [Value.ownBlock])), ho, (by have := (h.row.lt g rfl).2; omega), h.below.grown hg h.size (fun k h => by cases h), Nat.le_trans h.size hg.size⟩
theorem Tab.out {B : Nat} {w0 w : World} {g x N : Nat} {xs ys : List Value} (h : Tab B w0 w g x N xs ys) : Row0 B w0 w x N ys := ⟨h.next, h.below, h.size⟩
end Go.Proofs.Ytafnlbcpnamdkaa
