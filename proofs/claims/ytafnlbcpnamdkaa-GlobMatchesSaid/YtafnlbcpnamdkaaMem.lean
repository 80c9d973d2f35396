/- Words for the memory that the readers and printers make: rows of spans, of bytes, and of pieces whose spans lie apart. -/
import Derived.Test.YtafnlbcpnamdkaaBytes
import Derived.Laws.IdiomStrings
import Derived.Laws.OwnMore
import Derived.Lib.SmallJoins
import Derived.Lib.UnsafeStr
import Derived.Deep.Onto
namespace Go.Proofs.Ytafnlbcpnamdkaa
open Go Go.RowKit

def cellsS (l : List Sp) : List Value := l.flatMap fun p => [.int .u8 p.1.toNat, .int .u8 p.2.toNat]
theorem cellsS_length (l : List Sp) : (cellsS l).length = l.length * 2 := by
  induction l with
  | nil => rfl
  | cons p r ih => unfold cellsS at ih ⊢; rw [List.flatMap_cons, List.length_append, ih]; simp; omega
theorem cellsS_append (a b : List Sp) : cellsS (a ++ b) = cellsS a ++ cellsS b := by simp [cellsS]
theorem cellsS_cons (p : Sp) (r : List Sp) : cellsS (p :: r) = .int .u8 p.1.toNat :: .int .u8 p.2.toNat :: cellsS r := rfl
abbrev Gv := Gl × Value
def cellsQ (l : List Gv) : List Value := l.flatMap fun x => [.int .i64 x.1.kind, .int .u8 x.1.byte.toNat, x.2]
theorem cellsQ_length (l : List Gv) : (cellsQ l).length = l.length * 3 := by
  induction l with
  | nil => rfl
  | cons p r ih => unfold cellsQ at ih ⊢; rw [List.flatMap_cons, List.length_append, ih]; simp; omega
theorem cellsQ_append (a b : List Gv) : cellsQ (a ++ b) = cellsQ a ++ cellsQ b := by simp [cellsQ]
theorem cellsQ_cons (p : Gv) (r : List Gv) : cellsQ (p :: r) = .int .i64 p.1.kind :: .int .u8 p.1.byte.toNat :: p.2 :: cellsQ r := rfl
abbrev byteCells (t : Bs) : List Value := Lib.byteCells t
theorem info48 : (Try.prog.info? 48).map (fun i => (i.zero, i.size, i.bytes)) = some (some (.agg #[.int .u8 0, .int .u8 0]), 2, 2) := by kernel_rfl
theorem info40 : (Try.prog.info? 40).map (fun i => (i.zero, i.size, i.bytes)) = some (some (.agg #[.int .i64 0, .int .u8 0, .slice none 0 0]), 3, 40) := by kernel_rfl
theorem info5 : (Try.prog.info? 5).map (fun i => (i.zero, i.size, i.bytes)) = some (some (.int .u8 0), 1, 1) := by kernel_rfl
theorem below_kept {w w' : World} {B e s n : Nat} {v : Value} {xs : List Value} (h : w.ownsRow B e s v n xs) (hb : Below w.heap.size w w') : w'.ownsRow B e s v n xs :=
  h.kept (row := none) ⟨hb.os, hb.tape, hb.output, hb.size, fun k hk _ => hb.block k hk⟩ (by cases v.ownBlock <;> simp)
theorem own_ne {w : World} {B e e' s s' n n' : Nat} {v v' : Value} {xs xs' : List Value} (h : w.ownsRow B e s v n xs) (h' : w.ownsRow B e' s' v' n' xs') (hne : e ≠ e') : v.ownBlock = none ∨ v.ownBlock ≠ v'.ownBlock := by
  rcases h.2 with ⟨rfl, _⟩ | ⟨g, cap, cur, rfl, _, hh, _⟩
  · exact .inl rfl
  · right
    rcases h'.2 with ⟨rfl, _⟩ | ⟨g', cap', cur', rfl, _, hh', _⟩
    · simp [Value.ownBlock]
    · simp only [Value.ownBlock, ne_eq, Option.some.injEq]
      rintro rfl
      rw [hh] at hh'
      injection hh' with hh'
      injection hh' with _ ht
      exact hne ht
theorem row_form {w : World} {B e s n : Nat} {v : Value} {xs : List Value} (h : w.ownsRow B e s v n xs) : (v = .slice none 0 0 ∧ n = 0) ∨ ∃ g cap, v = .slice (some ⟨g, 0, none⟩) n cap ∧ n ≤ cap := by
  rcases h.2 with ⟨rfl, h0⟩ | ⟨g, cap, cur, rfl, _, _, hc, _⟩
  · exact .inl ⟨rfl, h0⟩
  · exact .inr ⟨g, cap, rfl, hc⟩
theorem row_slice {w : World} {B e s n : Nat} {v : Value} {xs : List Value} (h : w.ownsRow B e s v n xs) : ∃ A c, v = .slice A n c := by
  rcases row_form h with ⟨rfl, rfl⟩ | ⟨g, cap, rfl, _⟩
  · exact ⟨_, _, rfl⟩
  · exact ⟨_, _, rfl⟩
/-- One row of the call's own. -/
structure Row1 (T s B : Nat) (w0 w : World) (v : Value) (n : Nat) (xs : List Value) : Prop where
  row : w.ownsRow B T s v n xs
  below : Below B w0 w
  size : B ≤ w.heap.size
theorem Row1.nil (T s : Nat) (w : World) : Row1 T s w.heap.size w w (.slice none 0 0) 0 [] := ⟨World.ownsRow_nil _ _ _ _, Below.refl _ _, Nat.le_refl _⟩
theorem Row1.alloc {T s B n : Nat} {w0 w : World} {v : Value} {xs : List Value} (h : Row1 T s B w0 w v n xs) (o : Obj) : Row1 T s B w0 (w.alloc o) v n xs :=
  ⟨h.row.alloc o, h.below.alloc h.size o, by simp; have := h.size; omega⟩
theorem Row1.drew {T s B n : Nat} {w0 w : World} {v : Value} {xs : List Value} (h : Row1 T s B w0 w v n xs) : Row1 T s B w0 w.drew v n xs := ⟨h.row, h.below.drew, h.size⟩
theorem Row1.beyond {T s B n : Nat} {w0 w w' : World} {v : Value} {xs : List Value} (h : Row1 T s B w0 w v n xs) (hb : Below w.heap.size w w') : Row1 T s B w0 w' v n xs :=
  ⟨below_kept h.row hb, h.below.trans (hb.mono h.size), Nat.le_trans h.size hb.size⟩
theorem Row1.grown {T s B n n' : Nat} {w0 w w' : World} {v v' : Value} {xs xs' : List Value} (h : Row1 T s B w0 w v n xs) (ho : w'.ownsRow B T s v' n' xs') (hg : w.grownBy w' v.ownBlock) : Row1 T s B w0 w' v' n' xs' :=
  ⟨ho, h.below.grown hg h.size (fun k hk => (h.row.lt k hk).1), Nat.le_trans h.size hg.size⟩
abbrev RowS (B : Nat) (w0 w : World) (v : Value) (l : List Sp) : Prop := Row1 48 2 B w0 w v l.length (cellsS l)
theorem Row1.span {B : Nat} {w0 w w' : World} {v v' : Value} {l : List Sp} {p : Sp} (h : RowS B w0 w v l) (ho : w'.ownsRow B 48 2 v' (l.length + 1) (cellsS l ++ [.int .u8 p.1.toNat, .int .u8 p.2.toNat])) (hg : w.grownBy w' v.ownBlock) : RowS B w0 w' v' (l ++ [p]) := by
  have := h.grown ho hg
  unfold RowS
  rw [cellsS_append, List.length_append]
  exact this
theorem new_cells (w : World) (T : TypeId) (cs : Array Value) (j : Nat) (u : Value) (h : cs.toList[j]? = some u) : (w.alloc (.cells cs T)).cell? ((⟨w.heap.size, 0, none⟩ : Addr).add j) = some u := by
  have hadd : (⟨w.heap.size, 0, none⟩ : Addr).add j = ⟨w.heap.size, j, none⟩ := by unfold Addr.add; split <;> simp_all
  rw [hadd, cell_of_row _ _ j cs T (0, 0) (heap_alloc_new w _)]
  simpa using h
theorem new_cells2 (w : World) (o : Obj) (T : TypeId) (cs : Array Value) (j : Nat) (u : Value) (h : cs.toList[j]? = some u) : ((w.alloc o).alloc (.cells cs T)).cell? ((⟨w.heap.size + 1, 0, none⟩ : Addr).add j) = some u := by
  have e : (w.alloc o).heap.size = w.heap.size + 1 := by simp
  rw [← e]; exact new_cells (w.alloc o) T cs j u h
theorem two_one (a b : Int) : ∀ u ∈ [Value.int .u8 a, Value.int .u8 b], u.oneCell' = true := by
  intro u hu
  simp only [List.mem_cons, List.not_mem_nil, or_false] at hu
  rcases hu with rfl | rfl <;> rfl
theorem three_one (a b : Int) (A : Option Addr) (n c : Nat) : ∀ u ∈ [Value.int .i64 a, Value.int .u8 b, .slice A n c], u.oneCell' = true := by
  intro u hu
  simp only [List.mem_cons, List.not_mem_nil, or_false] at hu
  rcases hu with rfl | rfl | rfl <;> rfl
theorem bytes_one (u : Bs) : ∀ x ∈ byteCells u, x.oneCell' = true := by
  intro x hx
  simp only [byteCells, Lib.byteCells, List.mem_map] at hx
  obtain ⟨b, _, rfl⟩ := hx; rfl
/-- Pieces of the call's own, with the spans of each. -/
structure Pcs (B : Nat) (w0 w : World) (v : Value) (q : List Gv) : Prop where
  row : w.ownsRow B 40 3 v q.length (cellsQ q)
  spans : ∀ x ∈ q, w.ownsRow B 48 2 x.2 x.1.spans.length (cellsS x.1.spans)
  below : Below B w0 w
  size : B ≤ w.heap.size
theorem Pcs.nil (w : World) : Pcs w.heap.size w w (.slice none 0 0) [] := ⟨World.ownsRow_nil _ _ _ _, by simp, Below.refl _ _, Nat.le_refl _⟩
theorem Pcs.alloc {B : Nat} {w0 w : World} {v : Value} {q : List Gv} (h : Pcs B w0 w v q) (o : Obj) : Pcs B w0 (w.alloc o) v q :=
  ⟨h.row.alloc o, fun x hx => (h.spans x hx).alloc o, h.below.alloc h.size o, by simp; have := h.size; omega⟩
theorem Pcs.beyond {B : Nat} {w0 w w' : World} {v : Value} {q : List Gv} (h : Pcs B w0 w v q) (hb : Below w.heap.size w w') : Pcs B w0 w' v q :=
  ⟨below_kept h.row hb, fun x hx => below_kept (h.spans x hx) hb, h.below.trans (hb.mono h.size), Nat.le_trans h.size hb.size⟩
theorem Pcs.piece {B : Nat} {w0 w w' : World} {v v' u : Value} {q : List Gv} {g : Gl} (h : Pcs B w0 w v q) (hu : w.ownsRow B 48 2 u g.spans.length (cellsS g.spans))
    (ho : w'.ownsRow B 40 3 v' (q.length + 1) (cellsQ q ++ [.int .i64 g.kind, .int .u8 g.byte.toNat, u])) (hg : w.grownBy w' v.ownBlock) : Pcs B w0 w' v' (q ++ [(g, u)]) := by
  refine ⟨by rw [cellsQ_append, List.length_append]; exact ho, fun x hx => ?_, h.below.grown hg h.size (fun k hk => (h.row.lt k hk).1), Nat.le_trans h.size hg.size⟩
  rcases List.mem_append.1 hx with hx | hx
  · exact (h.spans x hx).kept hg (own_ne (h.spans x hx) h.row (by decide))
  · rw [List.mem_singleton] at hx
    subst hx
    exact hu.kept hg (own_ne hu h.row (by decide))
/- One item. -/
def resI : Res Sp → Value
  | .bad q => .tuple #[.agg #[.int .u8 0, .int .u8 0], .int .i64 q, .bool false]
  | .ok p q => .tuple #[.agg #[.int .u8 p.1.toNat, .int .u8 p.2.toNat], .int .i64 q, .bool true]
theorem readbyte_at (set s : ByteArray) (sg : Bs) (i : Int) (k : Nat) (hl : Looks set sg) (hi : i = k) (hk : k ≤ s.size) (hs : s.size ≤ 1000000) {R : Res UInt8} (hR : rb sg s.data.toList k = R) (w : World) :
    Calls Try.prog 33 #[.string s, .int .i64 i, .string set] w fun e w' => e = .returned (resB R) ∧ w = w' := by
  subst hi hR; exact readbyte_any set s sg k hl hk hs w
set_option maxHeartbeats 1000000 in
theorem readitem_any (s : ByteArray) (k : Nat) (hk : k ≤ s.size) (hs : s.size ≤ 1000000) (w : World) :
    Calls Try.prog 36 #[.string s, .int .i64 k] w fun e w' => e = .returned (resI (item s.data.toList k)) ∧ Below w.heap.size w w' := by
  obtain ⟨R, hR⟩ : ∃ R, R = item s.data.toList k := ⟨_, rfl⟩
  rw [← hR]
  unfold item at hR
  have hkl : k ≤ s.data.toList.length := by rw [len_data]; exact hk
  rcases h1 : rb sgI s.data.toList k with q | ⟨lo, q⟩
  · have KA : Hid (∀ w, Calls Try.prog 33 #[.string s, .int .i64 (k : Int), .string ⟨#[93, 45, 92]⟩] w fun e w' => e = .returned (.tuple #[.int .u8 0, .int .i64 q, .bool false]) ∧ w = w') := Lib.hid fun w => readbyte_at setI s sgI k k looksI rfl hk hs h1 w
    rw [h1] at hR
    have HR := Lib.hid hR
    clear hR h1
    go_enter Try.func36, Try.ntmps36
    go_wp2_with (go_at_call 33; ((with_reducible refine (KA.out _).mono ?_)); rintro e w' ⟨rfl, rfl⟩)
    rw [HR.out]
    exact bodyPost_ret (v := .tuple #[.agg #[.int .u8 0, .int .u8 0], .int .i64 q, .bool false]) (by simp [results, Try.results36, go_sem]) rfl ⟨rfl, (Below.refl _ _).alloc (Nat.le_refl _) _⟩
  · have KA : Hid (∀ w, Calls Try.prog 33 #[.string s, .int .i64 (k : Int), .string ⟨#[93, 45, 92]⟩] w fun e w' => e = .returned (.tuple #[.int .u8 lo.toNat, .int .i64 q, .bool true]) ∧ w = w') := Lib.hid fun w => readbyte_at setI s sgI k k looksI rfl hk hs h1 w
    obtain ⟨q1, q2⟩ := rb_ok hkl h1
    rw [len_data] at q2
    rw [h1] at hR
    dsimp only at hR
    by_cases a : q < s.size
    · rw [get_at s q a] at hR
      have bq : ((q : Int) == (s.size : Int)) = false := by simp; omega
      have bq2 : (q == s.size) = false := by simp; omega
      by_cases c45 : s[q] = 45
      · have b45 : ((s[q].toNat : Int) != 45) = false := by
          have := byte_eq (n := 45) c45 (by omega)
          simp only [bne]; simpa using this
        rw [if_pos (by rw [c45])] at hR
        rcases h2 : rb sgI s.data.toList (q + 1) with r | ⟨hi, r⟩
        · have KB : Hid (∀ w, Calls Try.prog 33 #[.string s, .int .i64 ((q : Int) + 1), .string ⟨#[93, 45, 92]⟩] w fun e w' => e = .returned (.tuple #[.int .u8 0, .int .i64 r, .bool false]) ∧ w = w') := Lib.hid fun w => readbyte_at setI s sgI ((q : Int) + 1) (q + 1) looksI rfl (by omega) hs h2 w
          rw [h2] at hR
          have HR := Lib.hid hR
          clear hR h1 h2 c45 hkl
          go_enter Try.func36, Try.ntmps36
          go_wp2_with (first | (go_at_call 33; ((with_reducible refine (KA.out _).mono ?_)); rintro e w' ⟨rfl, rfl⟩) | (go_at_call 33; ((with_reducible refine (KB.out _).mono ?_)); rintro e w' ⟨rfl, rfl⟩))
          rw [HR.out]
          exact bodyPost_ret (v := .tuple #[.agg #[.int .u8 0, .int .u8 0], .int .i64 r, .bool false]) (by simp [results, Try.results36, go_sem]) rfl ⟨rfl, (Below.refl _ _).alloc (Nat.le_refl _) _⟩
        · have KB : Hid (∀ w, Calls Try.prog 33 #[.string s, .int .i64 ((q : Int) + 1), .string ⟨#[93, 45, 92]⟩] w fun e w' => e = .returned (.tuple #[.int .u8 hi.toNat, .int .i64 r, .bool true]) ∧ w = w') := Lib.hid fun w => readbyte_at setI s sgI ((q : Int) + 1) (q + 1) looksI rfl (by omega) hs h2 w
          obtain ⟨r1, r2⟩ := rb_ok (by rw [len_data]; omega) h2
          rw [len_data] at r2
          rw [h2] at hR
          dsimp only at hR
          by_cases hlt : (hi.toNat : Int) < (lo.toNat : Int)
          · rw [if_pos hlt] at hR
            have hr0 : ((r - 1 : Nat) : Int) = (r : Int) - 1 := by omega
            have HR : Hid (R = .bad (r - 1)) := Lib.hid hR
            have H0 := Lib.hid hr0
            obtain ⟨x, hx⟩ : ∃ x : Int, x = (lo.toNat : Int) := ⟨_, rfl⟩
            obtain ⟨y, hy⟩ : ∃ y : Int, y = (hi.toNat : Int) := ⟨_, rfl⟩
            rw [← hx] at KA hlt
            rw [← hy] at KB hlt
            clear hR h1 h2 c45 hkl hr0 hx hy
            go_enter Try.func36, Try.ntmps36
            go_wp2_with (first | (go_at_call 33; ((with_reducible refine (KA.out _).mono ?_)); rintro e w' ⟨rfl, rfl⟩) | (go_at_call 33; ((with_reducible refine (KB.out _).mono ?_)); rintro e w' ⟨rfl, rfl⟩))
            rw [HR.out]
            exact bodyPost_ret (v := .tuple #[.agg #[.int .u8 0, .int .u8 0], .int .i64 ((r : Int) - 1), .bool false]) (by simp [results, Try.results36, go_sem]) rfl ⟨by rw [← H0.out]; rfl, (Below.refl _ _).alloc (Nat.le_refl _) _⟩
          · rw [if_neg hlt] at hR
            have HR : Hid (R = .ok (lo, hi) r) := Lib.hid hR
            obtain ⟨x, hx⟩ : ∃ x : Int, x = (lo.toNat : Int) := ⟨_, rfl⟩
            obtain ⟨y, hy⟩ : ∃ y : Int, y = (hi.toNat : Int) := ⟨_, rfl⟩
            have HX := Lib.hid hx
            have HY := Lib.hid hy
            rw [← hx] at KA hlt
            rw [← hy] at KB hlt
            clear hR h1 h2 c45 hkl hx hy
            go_enter Try.func36, Try.ntmps36
            go_wp2_with (first | (go_at_call 33; ((with_reducible refine (KA.out _).mono ?_)); rintro e w' ⟨rfl, rfl⟩) | (go_at_call 33; ((with_reducible refine (KB.out _).mono ?_)); rintro e w' ⟨rfl, rfl⟩))
            rw [HR.out]
            exact bodyPost_ret (v := .tuple #[.agg #[.int .u8 x, .int .u8 y], .int .i64 r, .bool true]) (by simp [results, Try.results36, go_sem]) rfl ⟨by rw [HX.out, HY.out]; rfl, (Below.refl _ _).alloc (Nat.le_refl _) _⟩
      · have b45 : ((s[q].toNat : Int) != 45) = true := by
          have := byte_ne (n := 45) c45 (by omega)
          simp only [bne]; simpa using this
        rw [if_neg (by simpa using c45)] at hR
        have HR := Lib.hid hR
        clear hR h1 c45 hkl
        go_enter Try.func36, Try.ntmps36
        go_wp2_with (go_at_call 33; ((with_reducible refine (KA.out _).mono ?_)); rintro e w' ⟨rfl, rfl⟩)
        rw [HR.out]
        exact bodyPost_ret (v := .tuple #[.agg #[.int .u8 lo.toNat, .int .u8 lo.toNat], .int .i64 q, .bool true]) (by simp [results, Try.results36, go_sem]) rfl ⟨rfl, (Below.refl _ _).alloc (Nat.le_refl _) _⟩
    · rw [get_end s q a] at hR
      obtain rfl : q = s.size := by omega
      rw [if_neg (by simp)] at hR
      have HR := Lib.hid hR
      clear hR h1 hkl
      go_enter Try.func36, Try.ntmps36
      go_wp2_with (go_at_call 33; ((with_reducible refine (KA.out _).mono ?_)); rintro e w' ⟨rfl, rfl⟩)
      rw [HR.out]
      exact bodyPost_ret (v := .tuple #[.agg #[.int .u8 lo.toNat, .int .u8 lo.toNat], .int .i64 s.size, .bool true]) (by simp [results, Try.results36, go_sem]) rfl ⟨rfl, (Below.refl _ _).alloc (Nat.le_refl _) _⟩
end Go.Proofs.Ytafnlbcpnamdkaa
