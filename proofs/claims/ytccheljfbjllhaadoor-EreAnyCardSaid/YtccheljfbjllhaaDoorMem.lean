/- Words for the memory that the readers and printers make: rows of spans, of bytes, and of pieces whose spans lie apart. -/
import Derived.Test.YtccheljfbjllhaaDoorBytes
import Derived.Laws.IdiomStrings
import Derived.Laws.OwnMore
import Derived.Lib.SmallJoins
import Derived.Lib.UnsafeStr
import Derived.Deep.Onto
namespace Go.Proofs.YtccheljfbjllhaaDoor
open Go Go.RowKit

def cellsS (l : List Sp) : List Value := l.flatMap fun p => [.int .u8 p.1.toNat, .int .u8 p.2.toNat]
theorem cellsS_length (l : List Sp) : (cellsS l).length = l.length * 2 := by
  induction l with
  | nil => rfl
  | cons p r ih => unfold cellsS at ih ⊢; rw [List.flatMap_cons, List.length_append, ih]; simp; omega
theorem cellsS_append (a b : List Sp) : cellsS (a ++ b) = cellsS a ++ cellsS b := by simp [cellsS]
theorem cellsS_cons (p : Sp) (r : List Sp) : cellsS (p :: r) = .int .u8 p.1.toNat :: .int .u8 p.2.toNat :: cellsS r := rfl
abbrev Gv := Gl × Value
def cellsQ (l : List Gv) : List Value := l.flatMap fun x => [.int .i64 x.1.kind, .int .u8 x.1.byte.toNat, x.2]
theorem cellsQ_length (l : List Gv) : (cellsQ l).length = l.length * 3 := by
  induction l with
  | nil => rfl
  | cons p r ih => unfold cellsQ at ih ⊢; rw [List.flatMap_cons, List.length_append, ih]; simp; omega
theorem cellsQ_append (a b : List Gv) : cellsQ (a ++ b) = cellsQ a ++ cellsQ b := by simp [cellsQ]
theorem cellsQ_cons (p : Gv) (r : List Gv) : cellsQ (p :: r) = .int .i64 p.1.kind :: .int .u8 p.1.byte.toNat :: p.2 :: cellsQ r := rfl
abbrev byteCells (t : Bs) : List Value := Lib.byteCells t
theorem info48 : (Tryd.prog.info? 74).map (fun i => (i.zero, i.size, i.bytes)) = some (some (.agg #[.int .u8 0, .int .u8 0]), 2, 2) := by kernel_rfl
theorem info5 : (Tryd.prog.info? 5).map (fun i => (i.zero, i.size, i.bytes)) = some (some (.int .u8 0), 1, 1) := by kernel_rfl
theorem below_kept {w w' : World} {B e s n : Nat} {v : Value} {xs : List Value} (h : w.ownsRow B e s v n xs) (hb : Below w.heap.size w w') : w'.ownsRow B e s v n xs :=
  h.kept (row := none) ⟨hb.os, hb.tape, hb.output, hb.size, fun k hk _ => hb.block k hk⟩ (by cases v.ownBlock <;> simp)
theorem own_ne {w : World} {B e e' s s' n n' : Nat} {v v' : Value} {xs xs' : List Value} (h : w.ownsRow B e s v n xs) (h' : w.ownsRow B e' s' v' n' xs') (hne : e ≠ e') : v.ownBlock = none ∨ v.ownBlock ≠ v'.ownBlock := by
  rcases h.2 with ⟨rfl, _⟩ | ⟨g, cap, cur, rfl, _, hh, _⟩
  · exact .inl rfl
  · right
    rcases h'.2 with ⟨rfl, _⟩ | ⟨g', cap', cur', rfl, _, hh', _⟩
    · simp [Value.ownBlock]
    · simp only [Value.ownBlock, ne_eq, Option.some.injEq]
      rintro rfl
      rw [hh] at hh'
      injection hh' with hh'
      injection hh' with _ ht
      exact hne ht
theorem row_form {w : World} {B e s n : Nat} {v : Value} {xs : List Value} (h : w.ownsRow B e s v n xs) : (v = .slice none 0 0 ∧ n = 0) ∨ ∃ g cap, v = .slice (some ⟨g, 0, none⟩) n cap ∧ n ≤ cap := by
  rcases h.2 with ⟨rfl, h0⟩ | ⟨g, cap, cur, rfl, _, _, hc, _⟩
  · exact .inl ⟨rfl, h0⟩
  · exact .inr ⟨g, cap, rfl, hc⟩
theorem row_slice {w : World} {B e s n : Nat} {v : Value} {xs : List Value} (h : w.ownsRow B e s v n xs) : ∃ A c, v = .slice A n c := by
  rcases row_form h with ⟨rfl, rfl⟩ | ⟨g, cap, rfl, _⟩
  · exact ⟨_, _, rfl⟩
  · exact ⟨_, _, rfl⟩
/-- One row of the call's own. -/
structure Row1 (T s B : Nat) (w0 w : World) (v : Value) (n : Nat) (xs : List Value) : Prop where
  row : w.ownsRow B T s v n xs
  below : Below B w0 w
  size : B ≤ w.heap.size
theorem Row1.nil (T s : Nat) (w : World) : Row1 T s w.heap.size w w (.slice none 0 0) 0 [] := ⟨World.ownsRow_nil _ _ _ _, Below.refl _ _, Nat.le_refl _⟩
theorem Row1.alloc {T s B n : Nat} {w0 w : World} {v : Value} {xs : List Value} (h : Row1 T s B w0 w v n xs) (o : Obj) : Row1 T s B w0 (w.alloc o) v n xs :=
  ⟨h.row.alloc o, h.below.alloc h.size o, by simp; have := h.size; omega⟩
theorem Row1.drew {T s B n : Nat} {w0 w : World} {v : Value} {xs : List Value} (h : Row1 T s B w0 w v n xs) : Row1 T s B w0 w.drew v n xs := ⟨h.row, h.below.drew, h.size⟩
theorem Row1.beyond {T s B n : Nat} {w0 w w' : World} {v : Value} {xs : List Value} (h : Row1 T s B w0 w v n xs) (hb : Below w.heap.size w w') : Row1 T s B w0 w' v n xs :=
  ⟨below_kept h.row hb, h.below.trans (hb.mono h.size), Nat.le_trans h.size hb.size⟩
theorem Row1.grown {T s B n n' : Nat} {w0 w w' : World} {v v' : Value} {xs xs' : List Value} (h : Row1 T s B w0 w v n xs) (ho : w'.ownsRow B T s v' n' xs') (hg : w.grownBy w' v.ownBlock) : Row1 T s B w0 w' v' n' xs' :=
  ⟨ho, h.below.grown hg h.size (fun k hk => (h.row.lt k hk).1), Nat.le_trans h.size hg.size⟩
abbrev RowS (B : Nat) (w0 w : World) (v : Value) (l : List Sp) : Prop := Row1 74 2 B w0 w v l.length (cellsS l)
theorem Row1.span {B : Nat} {w0 w w' : World} {v v' : Value} {l : List Sp} {p : Sp} (h : RowS B w0 w v l) (ho : w'.ownsRow B 74 2 v' (l.length + 1) (cellsS l ++ [.int .u8 p.1.toNat, .int .u8 p.2.toNat])) (hg : w.grownBy w' v.ownBlock) : RowS B w0 w' v' (l ++ [p]) := by
  have := h.grown ho hg
  unfold RowS
  rw [cellsS_append, List.length_append]
  exact this
theorem new_cells (w : World) (T : TypeId) (cs : Array Value) (j : Nat) (u : Value) (h : cs.toList[j]? = some u) : (w.alloc (.cells cs T)).cell? ((⟨w.heap.size, 0, none⟩ : Addr).add j) = some u := by
  have hadd : (⟨w.heap.size, 0, none⟩ : Addr).add j = ⟨w.heap.size, j, none⟩ := by unfold Addr.add; split <;> simp_all
  rw [hadd, cell_of_row _ _ j cs T (0, 0) (heap_alloc_new w _)]
  simpa using h
theorem new_cells2 (w : World) (o : Obj) (T : TypeId) (cs : Array Value) (j : Nat) (u : Value) (h : cs.toList[j]? = some u) : ((w.alloc o).alloc (.cells cs T)).cell? ((⟨w.heap.size + 1, 0, none⟩ : Addr).add j) = some u := by
  have e : (w.alloc o).heap.size = w.heap.size + 1 := by simp
  rw [← e]; exact new_cells (w.alloc o) T cs j u h
theorem two_one (a b : Int) : ∀ u ∈ [Value.int .u8 a, Value.int .u8 b], u.oneCell' = true := by
  intro u hu
  simp only [List.mem_cons, List.not_mem_nil, or_false] at hu
  rcases hu with rfl | rfl <;> rfl
theorem three_one (a b : Int) (A : Option Addr) (n c : Nat) : ∀ u ∈ [Value.int .i64 a, Value.int .u8 b, .slice A n c], u.oneCell' = true := by
  intro u hu
  simp only [List.mem_cons, List.not_mem_nil, or_false] at hu
  rcases hu with rfl | rfl | rfl <;> rfl
theorem bytes_one (u : Bs) : ∀ x ∈ byteCells u, x.oneCell' = true := by
  intro x hx
  simp only [byteCells, Lib.byteCells, List.mem_map] at hx
  obtain ⟨b, _, rfl⟩ := hx; rfl
/- One item. -/
def resI : Res Sp → Value
  | .bad q => .tuple #[.agg #[.int .u8 0, .int .u8 0], .int .i64 q, .bool false]
  | .ok p q => .tuple #[.agg #[.int .u8 p.1.toNat, .int .u8 p.2.toNat], .int .i64 q, .bool true]
end Go.Proofs.YtccheljfbjllhaaDoor
