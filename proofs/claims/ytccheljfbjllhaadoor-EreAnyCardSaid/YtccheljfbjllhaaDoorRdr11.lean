/- Rows of trees that are being made. -/
import Derived.Test.YtccheljfbjllhaaDoorRdr10
namespace Go.Proofs.YtccheljfbjllhaaDoor
open Go Go.RowKit

abbrev Rv := Re × Option Addr × Nat
def cellsT : Re → Option Addr → Nat → List Value
  | .mk k S ks lo hi n, A, c => [.int .i64 k, .int .u64 S.1.toNat, .int .u64 S.2.1.toNat, .int .u64 S.2.2.1.toNat, .int .u64 S.2.2.2.toNat, .slice A ks.length c, .int .i64 lo, .int .i64 hi, .int .i64 n]
theorem cellsT_length (r : Re) (A : Option Addr) (c : Nat) : (cellsT r A c).length = 9 := by cases r; rfl
theorem cellsT_one (r : Re) (A : Option Addr) (c : Nat) : ∀ u ∈ cellsT r A c, u.oneCell' = true := by
  obtain ⟨k, S, ks, lo, hi, n⟩ := r
  intro u hu
  simp only [cellsT, List.mem_cons, List.not_mem_nil, or_false] at hu
  rcases hu with rfl | rfl | rfl | rfl | rfl | rfl | rfl | rfl | rfl <;> rfl
def cellsR (l : List Rv) : List Value := l.flatMap fun x => cellsT x.1 x.2.1 x.2.2
theorem cellsR_length (l : List Rv) : (cellsR l).length = l.length * 9 := by
  induction l with
  | nil => rfl
  | cons p r ih => unfold cellsR at ih ⊢; rw [List.flatMap_cons, List.length_append, ih, cellsT_length]; simp; omega
theorem cellsR_snoc (l : List Rv) (x : Rv) : cellsR (l ++ [x]) = cellsR l ++ cellsT x.1 x.2.1 x.2.2 := by simp [cellsR]
theorem cellsR_at : ∀ (l : List Rv) (i : Nat) (x : Rv), l[i]? = some x → ∀ j u, (cellsT x.1 x.2.1 x.2.2)[j]? = some u → (cellsR l)[i * 9 + j]? = some u
  | [], i, x, h, j, u, _ => by simp at h
  | y :: l, 0, x, h, j, u, hu => by
    injection h with h; subst h
    have hj := (List.getElem?_eq_some_iff.1 hu).1
    unfold cellsR
    rw [List.flatMap_cons, Nat.zero_mul, Nat.zero_add, List.getElem?_append_left hj]; exact hu
  | y :: l, i + 1, x, h, j, u, hu => by
    have ih := cellsR_at l i x (by simpa using h) j u hu
    unfold cellsR at ih ⊢
    rw [List.flatMap_cons, List.getElem?_append_right (by rw [cellsT_length]; omega), cellsT_length, show (i + 1) * 9 + j - 9 = i * 9 + j by omega]
    exact ih
/-- Blocks of the call's own, but for the row's. -/
def Own (base : Nat) (W : World) (v : Value) : Nat → Prop := fun k => base ≤ k ∧ k < W.heap.size ∧ v.ownBlock ≠ some k
structure Trees (b : Nat) (w W : World) (v : Value) (l : List Rv) : Prop where
  hb : b < w.heap.size
  base : w.heap.size + 1 ≤ W.heap.size
  grown : w.grownBy W (some b)
  res : Box9 W w.heap.size (.int .i64 0) (.int .u64 0) (.int .u64 0) (.int .u64 0) (.int .u64 0) (.slice none 0 0) (.int .i64 0) (.int .i64 0) (.int .i64 0)
  row : W.ownsRow (w.heap.size + 1) 27 9 v l.length (cellsR l)
  kids : ∀ x ∈ l, Kids (Own (w.heap.size + 1) W v) W x.2.1 x.1
section
variable {b : Nat} {w W : World} {v : Value} {l : List Rv}
theorem Trees.start (hb : b < w.heap.size) : Trees b w (w.alloc (.cells #[.int .i64 0, .int .u64 0, .int .u64 0, .int .u64 0, .int .u64 0, .slice none 0 0, .int .i64 0, .int .i64 0, .int .i64 0] 27)) (.slice none 0 0) [] :=
  ⟨hb, by simp, grown_below (one_box w _), Box9.new w _ _ _ _ _ _ _ _ _, World.ownsRow_nil _ _ _ _, fun x hx => by simp at hx⟩
theorem Trees.next (t : Trees b w W v l) {W' : World} (hg : W.grownBy W' (some b)) : Trees b w W' v l := by
  have h1 := t.hb
  refine ⟨t.hb, Nat.le_trans t.base hg.size, grown_trans t.grown hg, t.res.grown hg (by omega), t.row.kept hg ?_, fun x hx => ?_⟩
  · cases ho : v.ownBlock with
    | none => exact .inl rfl
    | some g => right; have := (t.row.lt g ho).1; intro e; injection e with e; omega
  · refine kids_of (fun a ha => World.cell?_of_block (hg.block a.block ha.2.1 (fun e => ?_))) (fun k hk => ⟨hk.1, Nat.lt_of_lt_of_le hk.2.1 hg.size, hk.2.2⟩) _ _ (t.kids x hx)
    injection e with e
    have := ha.1
    omega
/-- What was made from now on isn't of the row. -/
theorem Trees.fresh (t : Trees b w W v l) {W' : World} {hi : Nat} {A : Option Addr} {r : Re} (hk : Kids (Fr W.heap.size hi) W' A r) (hh : hi ≤ W'.heap.size) : Kids (Own (w.heap.size + 1) W' v) W' A r :=
  kids_of (fun _ _ => rfl) (fun k hk => ⟨Nat.le_trans t.base hk.1, Nat.lt_of_lt_of_le hk.2 hh, fun e => by have := (t.row.lt k e).2; have := hk.1; omega⟩) r A hk
theorem Trees.push (t : Trees b w W v l) {W' : World} {x : Rv} {g cap : Nat} (hx : Kids (Own (w.heap.size + 1) W v) W x.2.1 x.1)
    (hown : W'.ownsRow (w.heap.size + 1) 27 9 (.slice (some ⟨g, 0, none⟩) (l.length + 1) cap) (l.length + 1) (cellsR l ++ cellsT x.1 x.2.1 x.2.2)) (hgrow : W.grownBy W' v.ownBlock) (hat : v.ownBlock = some g ∨ g = W.heap.size) (hgb : w.grownBy W' (some b)) :
    Trees b w W' (.slice (some ⟨g, 0, none⟩) (l.length + 1) cap) (l ++ [x]) := by
  have h1 := t.hb
  have own : (Value.slice (some ⟨g, 0, none⟩) (l.length + 1) cap).ownBlock = some g := rfl
  have hsame : SameOn (Own (w.heap.size + 1) W v) W W' := fun a ha => World.cell?_of_block (hgrow.block a.block ha.2.1 (fun e => ha.2.2 e.symm))
  have hpq : ∀ k, Own (w.heap.size + 1) W v k → Own (w.heap.size + 1) W' (.slice (some ⟨g, 0, none⟩) (l.length + 1) cap) k := fun k hk => by
    refine ⟨hk.1, Nat.lt_of_lt_of_le hk.2.1 hgrow.size, fun e => ?_⟩
    rw [own] at e
    injection e with e
    rcases hat with h | h
    · exact hk.2.2 (by rw [h, e])
    · have := hk.2.1; omega
  refine ⟨t.hb, Nat.le_trans t.base hgrow.size, hgb, ?_, by rw [List.length_append, cellsR_snoc]; exact hown, fun y hy => ?_⟩
  · have e : W'.heap[w.heap.size]? = W.heap[w.heap.size]? := hgrow.block _ (by have := t.base; omega) (fun e => by have := (t.row.lt _ e.symm).1; omega)
    have k : ∀ j, W'.cell? ⟨w.heap.size, j, none⟩ = W.cell? ⟨w.heap.size, j, none⟩ := fun j => World.cell?_of_block e
    have f : ∀ j, W'.frozen? ⟨w.heap.size, j, none⟩ = W.frozen? ⟨w.heap.size, j, none⟩ := fun j => World.frozen?_of_block e
    have h := t.res
    exact ⟨(k _).trans h.c0, (k _).trans h.c1, (k _).trans h.c2, (k _).trans h.c3, (k _).trans h.c4, (k _).trans h.c5, (k _).trans h.c6, (k _).trans h.c7, (k _).trans h.c8, fun q hq => (f q).trans (h.fr q hq)⟩
  · rcases List.mem_append.1 hy with hy | hy
    · exact kids_of hsame hpq _ _ (t.kids y hy)
    · rw [List.mem_singleton.1 hy]; exact kids_of hsame hpq _ _ hx
/-- Growing by the row alone grows by the box alone, for who only knew what was before. -/
theorem Trees.grow (t : Trees b w W v l) {W' : World} (hgrow : W.grownBy W' v.ownBlock) : w.grownBy W' (some b) :=
  ⟨hgrow.os.trans t.grown.os, hgrow.tape.trans t.grown.tape, hgrow.output.trans t.grown.output, Nat.le_trans t.grown.size hgrow.size, fun k hk hn =>
    (hgrow.block k (Nat.lt_of_lt_of_le hk t.grown.size) (fun e => by have := (t.row.lt k e.symm).1; omega)).trans (t.grown.block k hk hn)⟩
theorem Trees.at_ {ad : Addr} {n c : Nat} (t : Trees b w W (.slice (some ad) n c) l) {i : Nat} {x : Rv} (hi : l[i]? = some x) : At9 W (ad.add (i * 9)) x.1 x.2.1 x.2.2 := by
  have hne : 0 < l.length := by have := (List.getElem?_eq_some_iff.1 hi).1; omega
  have hc := cellsR_at l i x hi
  rcases t.row.2 with ⟨_, h0⟩ | ⟨g, cap, cur, hv, hb, hg, _⟩
  · omega
  · injection hv with hA _ _
    injection hA with hA
    subst hA
    have cell := t.row.cells (g := g) rfl
    obtain ⟨⟨k, S, ks, lo, h', n⟩, A, c'⟩ := x
    have at_ : ∀ j u, (cellsT (.mk k S ks lo h' n) A c')[j]? = some u → W.cell? ((⟨g, 0, none⟩ : Addr).add (i * 9 + j)) = some u := fun j u hu => cell _ _ (hc j u hu)
    have a0 : ∀ j u, 0 < j → (cellsT (.mk k S ks lo h' n) A c')[j]? = some u → W.cell? ⟨((⟨g, 0, none⟩ : Addr).add (i * 9)).block, ((⟨g, 0, none⟩ : Addr).add (i * 9)).off + j, none⟩ = some u := fun j u hj hu => by rw [add_one _ _ _ hj]; exact at_ j u hu
    exact ⟨at_ 0 _ rfl, a0 1 _ (by omega) rfl, a0 2 _ (by omega) rfl, a0 3 _ (by omega) rfl, a0 4 _ (by omega) rfl, a0 5 _ (by omega) rfl, a0 6 _ (by omega) rfl, a0 7 _ (by omega) rfl, a0 8 _ (by omega) rfl⟩
theorem kidsL_all {P : Nat → Prop} {W : World} {ad : Addr} : ∀ (l : List Rv) (i : Nat), (∀ j x, l[j]? = some x → At9 W (ad.add ((i + j) * 9)) x.1 x.2.1 x.2.2 ∧ Kids P W x.2.1 x.1) → KidsL P W ad i (l.map (·.1))
  | [], _, _ => by rw [List.map_nil, KidsL]; trivial
  | x :: l, i, h => by
    rw [List.map_cons, KidsL]
    refine ⟨⟨x.2.1, x.2.2, (h 0 x rfl)⟩, kidsL_all l (i + 1) fun j y hy => ?_⟩
    have := h (j + 1) y (by simpa using hy)
    rw [show i + (j + 1) = i + 1 + j by omega] at this
    exact this
theorem Trees.whole {A : Option Addr} {n c : Nat} (t : Trees b w W (.slice A n c) l) (k : Int) (S : S4) (lo hi m : Int) : Kids (Fr w.heap.size W.heap.size) W A (.mk k S (l.map (·.1)) lo hi m) := by
  rw [Kids]
  cases hl : l with
  | nil => exact .inl rfl
  | cons x r =>
    right
    rcases t.row.2 with ⟨_, h0⟩ | ⟨g, cap, cur, hv, hb, hg, _⟩
    · rw [hl] at h0; simp at h0
    · injection hv with hA h2 h3
      subst hA h2 h3
      have hlt := (t.row.lt g rfl)
      rw [← hl]
      refine ⟨_, rfl, ⟨Nat.le_of_succ_le hlt.1, hlt.2⟩, kidsL_all l 0 fun j x hx => ?_⟩
      rw [Nat.zero_add]
      exact ⟨t.at_ hx, kids_of (fun _ _ => rfl) (fun k hk => ⟨by have := hk.1; omega, hk.2.1⟩) _ _ (t.kids x (List.mem_of_getElem? hx))⟩
end
/-- Facts of nine cells, by their places. -/
theorem at9_zero {W : World} {g : Nat} {k : Int} {S : S4} {ks : List Re} {lo hi n : Int} {A : Option Addr} {c : Nat} (h : At9 W (⟨g, 0, none⟩ : Addr) (.mk k S ks lo hi n) A c) :
    W.cell? ⟨g, 0, none⟩ = some (.int .i64 k) ∧ W.cell? ⟨g, 1, none⟩ = some (.int .u64 S.1.toNat) ∧ W.cell? ⟨g, 2, none⟩ = some (.int .u64 S.2.1.toNat) ∧ W.cell? ⟨g, 3, none⟩ = some (.int .u64 S.2.2.1.toNat) ∧ W.cell? ⟨g, 4, none⟩ = some (.int .u64 S.2.2.2.toNat) ∧ W.cell? ⟨g, 5, none⟩ = some (.slice A ks.length c) ∧ W.cell? ⟨g, 6, none⟩ = some (.int .i64 lo) ∧ W.cell? ⟨g, 7, none⟩ = some (.int .i64 hi) ∧ W.cell? ⟨g, 8, none⟩ = some (.int .i64 n) := h
end Go.Proofs.YtccheljfbjllhaaDoor
