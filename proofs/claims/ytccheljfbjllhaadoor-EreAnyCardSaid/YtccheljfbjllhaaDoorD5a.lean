/- The document's own reader: what a piece leans on. -/
import Derived.Test.YtccheljfbjllhaaDoorD4
namespace Go.Proofs.YtccheljfbjllhaaDoor
open Go Go.RowKit

abbrev AtBad (fn b : Nat) (s : ByteArray) (k g : Nat) (d : Int) (q z : Nat) : Prop := ∀ w, Rdr b w s k g 0 → Calls Tryd.prog fn #[.pointer (some ⟨b, 0, none⟩), .int .i64 d] w fun e w' => (∃ x A c, e = .returned (valR x A c) ∧ Kids (Fr w.heap.size w'.heap.size) w' A x) ∧ (∃ g2, Rdr b w' s q g2 z) ∧ w.grownBy w' (some b)
abbrev AtOk (fn b : Nat) (s : ByteArray) (k g : Nat) (d : Int) (q g' : Nat) (x : Re) : Prop := ∀ w, Rdr b w s k g 0 → Calls Tryd.prog fn #[.pointer (some ⟨b, 0, none⟩), .int .i64 d] w fun e w' => (∃ A c, e = .returned (valR x A c) ∧ Kids (Fr w.heap.size w'.heap.size) w' A x) ∧ Rdr b w' s q g' 0 ∧ w.grownBy w' (some b)
theorem at_bad {fn : Nat} {s : ByteArray} {d : Nat} {rd : Rd} (h : RdD fn s d rd) (b : Nat) {k g q z : Nat} {er : Int} (hst : stops s.data.toList k = false) (hk : k < s.size) (hg : g ≤ k) (hR : rd k g = .bad q er) (hz : er = z) : AtBad fn b s k g d q z := fun w hr => by
  have := h b w k g hr hst hk hg
  rw [hR] at this
  refine this.mono fun e w' ⟨h1, x, A, c, h2, h3, g', z', h4, _, h5⟩ => ⟨⟨x, A, c, h2, h3⟩, ⟨g', ?_⟩, h1⟩
  have : z' = z := by omega
  rw [← this]; exact h5
theorem at_ok {fn : Nat} {s : ByteArray} {d : Nat} {rd : Rd} (h : RdD fn s d rd) (b : Nat) {k g q g' : Nat} {x : Re} (hst : stops s.data.toList k = false) (hk : k < s.size) (hg : g ≤ k) (hR : rd k g = .ok x q g') : AtOk fn b s k g d q g' x := fun w hr => by
  have := h b w k g hr hst hk hg
  rw [hR] at this
  exact this.mono fun e w' ⟨h1, y, A, c, h2, h3, h4, _, h5⟩ => by subst h4; exact ⟨⟨A, c, h2, h3⟩, h5, h1⟩
abbrev BrT (b : Nat) (s : ByteArray) (k g : Nat) (lo hi : Int) (q z : Nat) : Prop := ∀ w, Rdr b w s k g 0 → Calls Tryd.prog 59 #[.pointer (some ⟨b, 0, none⟩)] w fun e w' => e = .returned (.tuple #[.int .i64 lo, .int .i64 hi]) ∧ Rdr b w' s q g z ∧ w.grownBy w' (some b)
theorem br_bad (b : Nat) {s : ByteArray} {k q : Nat} (g : Nat) (h : bnds s.data.toList k = .bad q) (hs : s.size ≤ 1000000) (hk : k ≤ s.size) : BrT b s k g 0 0 q 1 := fun w hr => by
  have := braces_any b w s k g hr hs hk
  rw [h] at this
  exact this.mono fun e w' ⟨a, c, d⟩ => ⟨c, d, a⟩
theorem br_ok (b : Nat) {s : ByteArray} {k q : Nat} {p : Int × Int} (g : Nat) (h : bnds s.data.toList k = .ok p q) (hs : s.size ≤ 1000000) (hk : k ≤ s.size) : BrT b s k g p.1 p.2 q 0 := fun w hr => by
  have := braces_any b w s k g hr hs hk
  rw [h] at this
  exact this.mono fun e w' ⟨a, c, d⟩ => ⟨c, d, a⟩
theorem box_next {b : Nat} {W0 W : World} (_ : W0.grownBy W (some b)) (v0 v1 v2 v3 v4 v5 v6 v7 v8 : Value) : Box9 (W.alloc (.cells #[v0, v1, v2, v3, v4, v5, v6, v7, v8] 27)) W.heap.size v0 v1 v2 v3 v4 v5 v6 v7 v8 := Box9.new W v0 v1 v2 v3 v4 v5 v6 v7 v8
theorem tail_none {s : Bs} {q : Nat} (x : Re) (g : Nat) (h : ∀ c ∈ sgR, s[q]? ≠ some c) : tailP s x q g = .ok x q g := by
  unfold tailP
  rw [if_neg (h 42 (by decide)), if_neg (h 43 (by decide)), if_neg (h 63 (by decide)), if_neg (h 123 (by decide))]
theorem piece_plain {grp : Rd} {s : Bs} {k g q g' : Nat} {x : Re} (h : atomR grp s k g = .ok x q g') (hn : ∀ c ∈ sgR, s[q]? ≠ some c) : pieceR grp s k g = .ok x q g' := by
  have hns : ¬ signAt s q := fun ⟨c, h1, h2⟩ => hn c h2 h1
  unfold pieceR
  rw [h]
  dsimp only
  rw [tail_none x g' hn]
  by_cases hr : rep x = true
  · rw [if_pos hr]
  · rw [if_neg hr, if_neg hns]
theorem piece_sign {grp : Rd} {s : Bs} {k g q g' : Nat} {x : Re} {c : UInt8} (h : atomR grp s k g = .ok x q g') (hc : s[q]? = some c) (hs : c ∈ sgR) : pieceR grp s k g = if rep x = true then tailP s x q g' else .bad q 1 := by
  have hsg : signAt s q := ⟨c, hc, hs⟩
  unfold pieceR
  rw [h]
  dsimp only
  by_cases hr : rep x = true
  · rw [if_pos hr, if_pos hr]
  · rw [if_neg hr, if_neg hr, if_pos hsg]
end Go.Proofs.YtccheljfbjllhaaDoor
