/- The code's reader: a set. -/
import Derived.Test.YtccheljfbjllhaaDoorRdr4
namespace Go.Proofs.YtccheljfbjllhaaDoor
open Go Go.RowKit

abbrev ItBad (b : Nat) (s : ByteArray) (g o k q : Nat) : Prop := ∀ w, Rdr b w s k g o →
  Calls Tryd.prog 76 #[.pointer (some ⟨b, 0, none⟩)] w fun e w' => (∃ x y : Int, e = .returned (.tuple #[.int .u8 x, .int .u8 y, .int .i64 1])) ∧ Rdr b w' s q g o ∧ w.grownBy w' (some b)
abbrev ItOk (b : Nat) (s : ByteArray) (g o k q : Nat) (lo hi : UInt8) : Prop := ∀ w, Rdr b w s k g o →
  Calls Tryd.prog 76 #[.pointer (some ⟨b, 0, none⟩)] w fun e w' => e = .returned (.tuple #[.int .u8 lo.toNat, .int .u8 hi.toNat, .int .i64 0]) ∧ Rdr b w' s q g o ∧ w.grownBy w' (some b)
theorem it_bad (b : Nat) {s : ByteArray} (g o : Nat) {k q : Nat} (hs : s.size ≤ 1000000) (hk : k ≤ s.size) (h : item s.data.toList k = .bad q) : ItBad b s g o k q := fun w hr =>
  (by rw [← h]; exact item_any b w s k g o hr hs hk : Calls _ _ _ _ (PostI b w s g o (.bad q))).mono fun _ _ ⟨h1, h2, h3⟩ => ⟨h2, h3, h1⟩
theorem it_ok (b : Nat) {s : ByteArray} (g o : Nat) {k q : Nat} {lo hi : UInt8} (hs : s.size ≤ 1000000) (hk : k ≤ s.size) (h : item s.data.toList k = .ok (lo, hi) q) : ItOk b s g o k q lo hi := fun w hr =>
  (by rw [← h]; exact item_any b w s k g o hr hs hk : Calls _ _ _ _ (PostI b w s g o (.ok (lo, hi) q))).mono fun _ _ ⟨h1, h2, h3⟩ => ⟨h2, h3, h1⟩
/-- A set's two boxes: what is left, what grows. -/
structure Two (w wr : World) (S : S4) : Prop where
  left : SetAt wr w.heap.size none4
  rest : SetAt wr (w.heap.size + 1) S
  size : w.heap.size + 2 ≤ wr.heap.size
theorem SetAt.grown {b c : Nat} {w w' : World} {S : S4} (h : SetAt w c S) (hg : w.grownBy w' (some b)) (hc : c < w.heap.size) (hn : c ≠ b) : SetAt w' c S := by
  have e : w'.heap[c]? = w.heap[c]? := hg.block c hc (fun e => hn (by injection e))
  refine ⟨fun q hq => ?_, fun q hq => ?_⟩
  · rw [← h.1 q hq]; exact World.cell?_of_block e
  · rw [← h.2 q hq]; exact World.frozen?_of_block e
theorem Two.grown {b : Nat} {w wr w' : World} {S : S4} (h : Two w wr S) (hb : b < w.heap.size) (hg : wr.grownBy w' (some b)) : Two w w' S :=
  ⟨h.left.grown hg (by have := h.size; omega) (by omega), h.rest.grown hg (by have := h.size; omega) (by omega), Nat.le_trans h.size hg.size⟩
/-- Four words stored. -/
def put4 (W : World) (c : Nat) (T : S4) : World := (((W.setCell ⟨c, 0, none⟩ (.int .u64 T.1.toNat)).setCell ⟨c, 1, none⟩ (.int .u64 T.2.1.toNat)).setCell ⟨c, 2, none⟩ (.int .u64 T.2.2.1.toNat)).setCell ⟨c, 3, none⟩ (.int .u64 T.2.2.2.toNat)
theorem Rdr.other {b : Nat} {w : World} {s : ByteArray} {k g o : Nat} (h : Rdr b w s k g o) {a : Addr} (ha : a.block ≠ b) (u : Value) : Rdr b (w.setCell a u) s k g o := by
  have c : ∀ j, (w.setCell a u).cell? ⟨b, j, none⟩ = w.cell? ⟨b, j, none⟩ := fun j => World.cell?_setCell_other _ _ _ _ (fun e => ha (by rw [e]))
  have f : ∀ j, (w.setCell a u).frozen? ⟨b, j, none⟩ = w.frozen? ⟨b, j, none⟩ := fun j => World.frozen?_setCell _ _ _ _
  exact ⟨(c _).trans h.c0, (c _).trans h.c1, (c _).trans h.c2, (c _).trans h.c3, (f _).trans h.f1, (f _).trans h.f2, (f _).trans h.f3⟩
theorem Rdr.put4 {b : Nat} {w : World} {s : ByteArray} {k g o : Nat} (h : Rdr b w s k g o) {c : Nat} (hc : c ≠ b) (T : S4) : Rdr b (put4 w c T) s k g o :=
  (((h.other (a := ⟨c, 0, none⟩) hc _).other (a := ⟨c, 1, none⟩) hc _).other (a := ⟨c, 2, none⟩) hc _).other (a := ⟨c, 3, none⟩) hc _
theorem grown_put4 {b : Nat} {w W : World} (h : w.grownBy W (some b)) {c : Nat} (hc : w.heap.size ≤ c) (T : S4) : w.grownBy (put4 W c T) (some b) := by
  refine ⟨h.os, h.tape, h.output, by simpa [Go.Proofs.YtccheljfbjllhaaDoor.put4, World.setCell] using h.size, fun k hk hn => ?_⟩
  have e : ∀ (W : World) (j : Nat) (u : Value), (W.setCell ⟨c, j, none⟩ u).heap[k]? = W.heap[k]? := fun W j u => Below.heap_setCell _ _ _ _ (by show k ≠ c; omega)
  rw [← h.block k hk hn]
  unfold Go.Proofs.YtccheljfbjllhaaDoor.put4
  rw [e, e, e, e]
theorem Two.put {w wr : World} {S : S4} (h : Two w wr S) (T : S4) : Two w (put4 wr (w.heap.size + 1) T) T :=
  ⟨by have := (((h.left.other (a := ⟨w.heap.size + 1, 0, none⟩) (by simp) (.int .u64 T.1.toNat)).other (a := ⟨w.heap.size + 1, 1, none⟩) (by simp) (.int .u64 T.2.1.toNat)).other (a := ⟨w.heap.size + 1, 2, none⟩) (by simp) (.int .u64 T.2.2.1.toNat)).other (a := ⟨w.heap.size + 1, 3, none⟩) (by simp) (.int .u64 T.2.2.2.toNat); exact this,
   h.rest.all T, by simpa [Go.Proofs.YtccheljfbjllhaaDoor.put4, World.setCell] using h.size⟩
/-- How much is left to read, by the reader's box. -/
def gas (b n : Nat) (w : World) : Nat := match w.cell? ⟨b, 1, none⟩ with
  | some (.int _ i) => n - i.toNat
  | _ => 0
theorem gas_is {b n : Nat} {w : World} {s : ByteArray} {k g o : Nat} (h : Rdr b w s k g o) : gas b n w = n - k := by unfold gas; rw [h.c1]; simp
end Go.Proofs.YtccheljfbjllhaaDoor
