/- Words for expressions that are made: boxes of nine cells, trees that lie apart. -/
import Derived.Test.YtccheljfbjllhaaDoorRdr6
import Derived.Deep.AppendLies
namespace Go.Proofs.YtccheljfbjllhaaDoor
open Go Go.RowKit

/-- Blocks from one number up to another. -/
def Fr (lo hi : Nat) : Nat → Prop := fun k => lo ≤ k ∧ k < hi
theorem Kids.wide {lo hi lo' hi' : Nat} {w : World} {A : Option Addr} {r : Re} (h : Kids (Fr lo hi) w A r) (h1 : lo' ≤ lo) (h2 : hi ≤ hi') : Kids (Fr lo' hi') w A r :=
  kids_of (fun _ _ => rfl) (fun _ hk => ⟨Nat.le_trans h1 hk.1, Nat.lt_of_lt_of_le hk.2 h2⟩) r A h
theorem Kids.grownF {b lo hi : Nat} {w w' : World} {A : Option Addr} {r : Re} (h : Kids (Fr lo hi) w A r) (hg : w.grownBy w' (some b)) (hb : b < lo ∨ hi ≤ b) (hh : hi ≤ w.heap.size) : Kids (Fr lo hi) w' A r :=
  kids_of (fun a ha => World.cell?_of_block (hg.block a.block (Nat.lt_of_lt_of_le ha.2 hh) (fun e => by injection e with e; unfold Fr at ha; omega))) (fun _ hk => hk) r A h
theorem Kids.setF {lo hi : Nat} {w : World} {A : Option Addr} {r : Re} (h : Kids (Fr lo hi) w A r) {a : Addr} (ha : a.block < lo ∨ hi ≤ a.block) (u : Value) : Kids (Fr lo hi) (w.setCell a u) A r :=
  kids_of (fun c hc => World.cell?_setCell_other _ _ _ _ (fun e => by subst e; unfold Fr at hc; omega)) (fun _ hk => hk) r A h
theorem Kids.leaf (P : Nat → Prop) (w : World) (A : Option Addr) (k : Int) (S : S4) (lo hi n : Int) : Kids P w A (.mk k S [] lo hi n) := by rw [Kids]; exact .inl rfl
/-- Nine cells stored. -/
def put9 (W : World) (c : Nat) (v0 v1 v2 v3 v4 v5 v6 v7 v8 : Value) : World :=
  ((((((((W.setCell ⟨c, 0, none⟩ v0).setCell ⟨c, 1, none⟩ v1).setCell ⟨c, 2, none⟩ v2).setCell ⟨c, 3, none⟩ v3).setCell ⟨c, 4, none⟩ v4).setCell ⟨c, 5, none⟩ v5).setCell ⟨c, 6, none⟩ v6).setCell ⟨c, 7, none⟩ v7).setCell ⟨c, 8, none⟩ v8
/-- Nine cells of a box of one's own. -/
structure Box9 (w : World) (c : Nat) (v0 v1 v2 v3 v4 v5 v6 v7 v8 : Value) : Prop where
  c0 : w.cell? ⟨c, 0, none⟩ = some v0
  c1 : w.cell? ⟨c, 1, none⟩ = some v1
  c2 : w.cell? ⟨c, 2, none⟩ = some v2
  c3 : w.cell? ⟨c, 3, none⟩ = some v3
  c4 : w.cell? ⟨c, 4, none⟩ = some v4
  c5 : w.cell? ⟨c, 5, none⟩ = some v5
  c6 : w.cell? ⟨c, 6, none⟩ = some v6
  c7 : w.cell? ⟨c, 7, none⟩ = some v7
  c8 : w.cell? ⟨c, 8, none⟩ = some v8
  fr : ∀ q, q < 9 → w.frozen? ⟨c, q, none⟩ = false
theorem Box9.freed {w : World} {c : Nat} {v0 v1 v2 v3 v4 v5 v6 v7 v8 : Value} (h : Box9 w c v0 v1 v2 v3 v4 v5 v6 v7 v8) :
    w.frozen? ⟨c, 0, none⟩ = false ∧ w.frozen? ⟨c, 1, none⟩ = false ∧ w.frozen? ⟨c, 2, none⟩ = false ∧ w.frozen? ⟨c, 3, none⟩ = false ∧ w.frozen? ⟨c, 4, none⟩ = false ∧ w.frozen? ⟨c, 5, none⟩ = false ∧ w.frozen? ⟨c, 6, none⟩ = false ∧ w.frozen? ⟨c, 7, none⟩ = false ∧ w.frozen? ⟨c, 8, none⟩ = false :=
  ⟨h.fr 0 (by omega), h.fr 1 (by omega), h.fr 2 (by omega), h.fr 3 (by omega), h.fr 4 (by omega), h.fr 5 (by omega), h.fr 6 (by omega), h.fr 7 (by omega), h.fr 8 (by omega)⟩
theorem set_same (w : World) (c j : Nat) (u u' : Value) (h : w.cell? ⟨c, j, none⟩ = some u) : (w.setCell ⟨c, j, none⟩ u').cell? ⟨c, j, none⟩ = some u' := World.cell?_setCell_same _ _ _ h
theorem set_ne (w : World) (c j i : Nat) (u' : Value) (h : j ≠ i) : (w.setCell ⟨c, j, none⟩ u').cell? ⟨c, i, none⟩ = w.cell? ⟨c, i, none⟩ := World.cell?_setCell_other _ _ _ _ (fun e => by injection e with _ e; omega)
theorem Box9.put {w : World} {c : Nat} {u0 u1 u2 u3 u4 u5 u6 u7 u8 : Value} (h : Box9 w c u0 u1 u2 u3 u4 u5 u6 u7 u8) (v0 v1 v2 v3 v4 v5 v6 v7 v8 : Value) : Box9 (put9 w c v0 v1 v2 v3 v4 v5 v6 v7 v8) c v0 v1 v2 v3 v4 v5 v6 v7 v8 := by
  unfold put9
  refine ⟨?_, ?_, ?_, ?_, ?_, ?_, ?_, ?_, ?_, fun q hq => ?_⟩
  · repeat rw [set_ne _ _ _ _ _ (by omega)]
    exact set_same _ _ _ _ _ h.c0
  · repeat rw [set_ne _ _ _ _ _ (by omega)]
    exact set_same _ _ _ _ _ (by (repeat rw [set_ne _ _ _ _ _ (by omega)]); exact h.c1)
  · repeat rw [set_ne _ _ _ _ _ (by omega)]
    exact set_same _ _ _ _ _ (by (repeat rw [set_ne _ _ _ _ _ (by omega)]); exact h.c2)
  · repeat rw [set_ne _ _ _ _ _ (by omega)]
    exact set_same _ _ _ _ _ (by (repeat rw [set_ne _ _ _ _ _ (by omega)]); exact h.c3)
  · repeat rw [set_ne _ _ _ _ _ (by omega)]
    exact set_same _ _ _ _ _ (by (repeat rw [set_ne _ _ _ _ _ (by omega)]); exact h.c4)
  · repeat rw [set_ne _ _ _ _ _ (by omega)]
    exact set_same _ _ _ _ _ (by (repeat rw [set_ne _ _ _ _ _ (by omega)]); exact h.c5)
  · repeat rw [set_ne _ _ _ _ _ (by omega)]
    exact set_same _ _ _ _ _ (by (repeat rw [set_ne _ _ _ _ _ (by omega)]); exact h.c6)
  · repeat rw [set_ne _ _ _ _ _ (by omega)]
    exact set_same _ _ _ _ _ (by (repeat rw [set_ne _ _ _ _ _ (by omega)]); exact h.c7)
  · exact set_same _ _ _ _ _ (by (repeat rw [set_ne _ _ _ _ _ (by omega)]); exact h.c8)
  · simp only [World.frozen?_setCell]; exact h.fr q hq
theorem Box9.grown {b c : Nat} {w w' : World} {v0 v1 v2 v3 v4 v5 v6 v7 v8 : Value} (h : Box9 w c v0 v1 v2 v3 v4 v5 v6 v7 v8) (hg : w.grownBy w' (some b)) (hn : c ≠ b) : Box9 w' c v0 v1 v2 v3 v4 v5 v6 v7 v8 := by
  have hc : c < w.heap.size := World.block_lt_of_cell? w _ h.c0
  have e : w'.heap[c]? = w.heap[c]? := hg.block c hc (fun e => hn (by injection e))
  have k : ∀ j, w'.cell? ⟨c, j, none⟩ = w.cell? ⟨c, j, none⟩ := fun j => World.cell?_of_block e
  exact ⟨(k _).trans h.c0, (k _).trans h.c1, (k _).trans h.c2, (k _).trans h.c3, (k _).trans h.c4, (k _).trans h.c5, (k _).trans h.c6, (k _).trans h.c7, (k _).trans h.c8, fun q hq => (World.frozen?_of_block e).trans (h.fr q hq)⟩
theorem Box9.other {w : World} {c : Nat} {v0 v1 v2 v3 v4 v5 v6 v7 v8 : Value} (h : Box9 w c v0 v1 v2 v3 v4 v5 v6 v7 v8) {a : Addr} (ha : a.block ≠ c) (u : Value) : Box9 (w.setCell a u) c v0 v1 v2 v3 v4 v5 v6 v7 v8 := by
  have k : ∀ j, (w.setCell a u).cell? ⟨c, j, none⟩ = w.cell? ⟨c, j, none⟩ := fun j => World.cell?_setCell_other _ _ _ _ (fun e => ha (by rw [e]))
  exact ⟨(k _).trans h.c0, (k _).trans h.c1, (k _).trans h.c2, (k _).trans h.c3, (k _).trans h.c4, (k _).trans h.c5, (k _).trans h.c6, (k _).trans h.c7, (k _).trans h.c8, fun q hq => (World.frozen?_setCell ..).trans (h.fr q hq)⟩
/-- A new box. -/
theorem Box9.new (w : World) (v0 v1 v2 v3 v4 v5 v6 v7 v8 : Value) : Box9 (w.alloc (.cells #[v0, v1, v2, v3, v4, v5, v6, v7, v8] 27)) w.heap.size v0 v1 v2 v3 v4 v5 v6 v7 v8 := by
  have k : ∀ j u, [v0, v1, v2, v3, v4, v5, v6, v7, v8][j]? = some u → (w.alloc (.cells #[v0, v1, v2, v3, v4, v5, v6, v7, v8] 27)).cell? ⟨w.heap.size, j, none⟩ = some u := fun j u h => by
    have h0 := new_cells w 27 #[v0, v1, v2, v3, v4, v5, v6, v7, v8] j u h
    have hadd : (⟨w.heap.size, 0, none⟩ : Addr).add j = ⟨w.heap.size, j, none⟩ := by unfold Addr.add; split <;> simp_all
    rw [hadd] at h0; exact h0
  refine ⟨k 0 _ rfl, k 1 _ rfl, k 2 _ rfl, k 3 _ rfl, k 4 _ rfl, k 5 _ rfl, k 6 _ rfl, k 7 _ rfl, k 8 _ rfl, fun q hq => ?_⟩
  have h : q = 0 ∨ q = 1 ∨ q = 2 ∨ q = 3 ∨ q = 4 ∨ q = 5 ∨ q = 6 ∨ q = 7 ∨ q = 8 := by omega
  rcases h with rfl | rfl | rfl | rfl | rfl | rfl | rfl | rfl | rfl <;> simp [go_sem]
theorem Rdr.put9 {b : Nat} {w : World} {s : ByteArray} {k g o : Nat} (h : Rdr b w s k g o) {c : Nat} (hc : c ≠ b) (v0 v1 v2 v3 v4 v5 v6 v7 v8 : Value) : Rdr b (put9 w c v0 v1 v2 v3 v4 v5 v6 v7 v8) s k g o :=
  ((((((((h.other (a := ⟨c, 0, none⟩) hc _).other (a := ⟨c, 1, none⟩) hc _).other (a := ⟨c, 2, none⟩) hc _).other (a := ⟨c, 3, none⟩) hc _).other (a := ⟨c, 4, none⟩) hc _).other (a := ⟨c, 5, none⟩) hc _).other (a := ⟨c, 6, none⟩) hc _).other (a := ⟨c, 7, none⟩) hc _).other (a := ⟨c, 8, none⟩) hc _
theorem size_put9 (W : World) (c : Nat) (v0 v1 v2 v3 v4 v5 v6 v7 v8 : Value) : (put9 W c v0 v1 v2 v3 v4 v5 v6 v7 v8).heap.size = W.heap.size := by simp [put9, World.setCell]
theorem block_put9 (W : World) (c : Nat) (v0 v1 v2 v3 v4 v5 v6 v7 v8 : Value) {k : Nat} (hk : k ≠ c) : (put9 W c v0 v1 v2 v3 v4 v5 v6 v7 v8).heap[k]? = W.heap[k]? := by
  have e : ∀ (W : World) (j : Nat) (u : Value), (W.setCell ⟨c, j, none⟩ u).heap[k]? = W.heap[k]? := fun W j u => Below.heap_setCell _ _ _ _ hk
  unfold put9
  rw [e, e, e, e, e, e, e, e, e]
theorem grown_setc {b : Nat} {w W : World} (h : w.grownBy W (some b)) {c : Nat} (hc : w.heap.size ≤ c) (j : Nat) (u : Value) : w.grownBy (W.setCell ⟨c, j, none⟩ u) (some b) :=
  ⟨h.os, h.tape, h.output, by simpa [World.setCell] using h.size, fun k hk hn => (Below.heap_setCell _ _ _ _ (by show k ≠ c; omega)).trans (h.block k hk hn)⟩
theorem grown_put9 {b : Nat} {w W : World} (h : w.grownBy W (some b)) {c : Nat} (hc : w.heap.size ≤ c) (v0 v1 v2 v3 v4 v5 v6 v7 v8 : Value) : w.grownBy (put9 W c v0 v1 v2 v3 v4 v5 v6 v7 v8) (some b) := by
  unfold put9
  exact grown_setc (grown_setc (grown_setc (grown_setc (grown_setc (grown_setc (grown_setc (grown_setc (grown_setc h hc _ _) hc _ _) hc _ _) hc _ _) hc _ _) hc _ _) hc _ _) hc _ _) hc _ _
theorem Kids.put9 {lo hi : Nat} {w : World} {A : Option Addr} {r : Re} (h : Kids (Fr lo hi) w A r) {c : Nat} (hc : c < lo ∨ hi ≤ c) (v0 v1 v2 v3 v4 v5 v6 v7 v8 : Value) : Kids (Fr lo hi) (put9 w c v0 v1 v2 v3 v4 v5 v6 v7 v8) A r :=
  kids_of (fun a ha => World.cell?_of_block (block_put9 _ _ _ _ _ _ _ _ _ _ _ (by unfold Fr at ha; omega))) (fun _ hk => hk) r A h
/-- What is left at an end: the result's box is written. -/
theorem endT {b : Nat} {w W : World} {s : ByteArray} {q g o : Nat} {u0 u1 u2 u3 u4 u5 u6 u7 u8 : Value} (v0 v1 v2 v3 v4 v5 v6 v7 v8 : Value) (hb : b < w.heap.size) (hr : Rdr b W s q g o) (hg : w.grownBy W (some b)) (hx : Box9 W w.heap.size u0 u1 u2 u3 u4 u5 u6 u7 u8) :
    ∃ W3, W3 = put9 W w.heap.size v0 v1 v2 v3 v4 v5 v6 v7 v8 ∧ Box9 W3 w.heap.size v0 v1 v2 v3 v4 v5 v6 v7 v8 ∧ Rdr b W3 s q g o ∧ w.grownBy W3 (some b) :=
  ⟨_, rfl, hx.put _ _ _ _ _ _ _ _ _, hr.put9 (by omega) _ _ _ _ _ _ _ _ _, grown_put9 hg (Nat.le_refl _) _ _ _ _ _ _ _ _ _⟩
/-- What a reader of expressions leaves. -/
def PostT (b : Nat) (w : World) (s : ByteArray) (o : Nat) (R : Ro Re) (e : Ending) (w' : World) : Prop := w.grownBy w' (some b) ∧ match R with
  | .bad q er => (∃ x A c, e = .returned (.tuple #[valR x A c, .int .i64 er])) ∧ (er = 1 ∨ er = 8) ∧ ∃ g', Rdr b w' s q g' o
  | .ok x q g' => (∃ A c, e = .returned (.tuple #[valR x A c, .int .i64 0]) ∧ Kids (Fr w.heap.size w'.heap.size) w' A x) ∧ g' ≤ q ∧ Rdr b w' s q g' o
theorem postt_bad {b : Nat} {w w' : World} {s : ByteArray} {o q g' : Nat} {er : Int} {R : Ro Re} {v : Value} (h : R = .bad q er) (x : Re) (A : Option Addr) (c : Nat) (hv : v = .tuple #[valR x A c, .int .i64 er]) (he : er = 1 ∨ er = 8) (hr : Rdr b w' s q g' o) (hg : w.grownBy w' (some b)) : PostT b w s o R (.returned v) w' := by subst h hv; exact ⟨hg, ⟨x, A, c, rfl⟩, he, g', hr⟩
theorem postt_ok {b : Nat} {w w' : World} {s : ByteArray} {o q g' : Nat} {x : Re} {R : Ro Re} {v : Value} (h : R = .ok x q g') (A : Option Addr) (c : Nat) (hv : v = .tuple #[valR x A c, .int .i64 0]) (hk : Kids (Fr w.heap.size w'.heap.size) w' A x) (hq : g' ≤ q) (hr : Rdr b w' s q g' o) (hg : w.grownBy w' (some b)) : PostT b w s o R (.returned v) w' := by subst h hv; exact ⟨hg, ⟨A, c, rfl, hk⟩, hq, hr⟩
end Go.Proofs.YtccheljfbjllhaaDoor
