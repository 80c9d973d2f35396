/- The code's reader: what it sees, what it skips, a byte, a number. -/
import Derived.Test.YtccheljfbjllhaaDoorPrint2
namespace Go.Proofs.YtccheljfbjllhaaDoor
open Go Go.RowKit

/-- A reader in its box: the text, the place, the groups that have begun, those that stand open. -/
structure Rdr (b : Nat) (w : World) (s : ByteArray) (k g o : Nat) : Prop where
  c0 : w.cell? ⟨b, 0, none⟩ = some (.string s)
  c1 : w.cell? ⟨b, 1, none⟩ = some (.int .i64 k)
  c2 : w.cell? ⟨b, 2, none⟩ = some (.int .i64 g)
  c3 : w.cell? ⟨b, 3, none⟩ = some (.int .i64 o)
  f1 : w.frozen? ⟨b, 1, none⟩ = false
  f2 : w.frozen? ⟨b, 2, none⟩ = false
  f3 : w.frozen? ⟨b, 3, none⟩ = false
theorem Rdr.lt {b : Nat} {w : World} {s : ByteArray} {k g o : Nat} (h : Rdr b w s k g o) : b < w.heap.size := World.block_lt_of_cell? w _ h.c0
theorem Rdr.below {b : Nat} {w w' : World} {s : ByteArray} {k g o : Nat} (h : Rdr b w s k g o) (hb : Below w.heap.size w w') : Rdr b w' s k g o :=
  have hl := h.lt
  have c : ∀ j, w'.cell? ⟨b, j, none⟩ = w.cell? ⟨b, j, none⟩ := fun j => hb.cell (p := ⟨b, j, none⟩) hl
  have f : ∀ j, w'.frozen? ⟨b, j, none⟩ = w.frozen? ⟨b, j, none⟩ := fun j => hb.frozen (p := ⟨b, j, none⟩) hl
  ⟨(c _).trans h.c0, (c _).trans h.c1, (c _).trans h.c2, (c _).trans h.c3, (f _).trans h.f1, (f _).trans h.f2, (f _).trans h.f3⟩
theorem Rdr.at_ {b : Nat} {w : World} {s : ByteArray} {k g o : Nat} (h : Rdr b w s k g o) (k' : Nat) : Rdr b (w.setCell ⟨b, 1, none⟩ (.int .i64 k')) s k' g o := by
  refine ⟨?_, World.cell?_setCell_same _ _ _ h.c1, ?_, ?_, by rw [World.frozen?_setCell]; exact h.f1, by rw [World.frozen?_setCell]; exact h.f2, by rw [World.frozen?_setCell]; exact h.f3⟩
  · rw [World.cell?_setCell_other _ _ _ _ (by simp)]; exact h.c0
  · rw [World.cell?_setCell_other _ _ _ _ (by simp)]; exact h.c2
  · rw [World.cell?_setCell_other _ _ _ _ (by simp)]; exact h.c3
theorem Rdr.groups_ {b : Nat} {w : World} {s : ByteArray} {k g o : Nat} (h : Rdr b w s k g o) (g' : Nat) : Rdr b (w.setCell ⟨b, 2, none⟩ (.int .i64 g')) s k g' o := by
  refine ⟨?_, ?_, World.cell?_setCell_same _ _ _ h.c2, ?_, by rw [World.frozen?_setCell]; exact h.f1, by rw [World.frozen?_setCell]; exact h.f2, by rw [World.frozen?_setCell]; exact h.f3⟩
  · rw [World.cell?_setCell_other _ _ _ _ (by simp)]; exact h.c0
  · rw [World.cell?_setCell_other _ _ _ _ (by simp)]; exact h.c1
  · rw [World.cell?_setCell_other _ _ _ _ (by simp)]; exact h.c3
theorem Rdr.open_ {b : Nat} {w : World} {s : ByteArray} {k g o : Nat} (h : Rdr b w s k g o) (o' : Nat) : Rdr b (w.setCell ⟨b, 3, none⟩ (.int .i64 o')) s k g o' := by
  refine ⟨?_, ?_, ?_, World.cell?_setCell_same _ _ _ h.c3, by rw [World.frozen?_setCell]; exact h.f1, by rw [World.frozen?_setCell]; exact h.f2, by rw [World.frozen?_setCell]; exact h.f3⟩
  · rw [World.cell?_setCell_other _ _ _ _ (by simp)]; exact h.c0
  · rw [World.cell?_setCell_other _ _ _ _ (by simp)]; exact h.c1
  · rw [World.cell?_setCell_other _ _ _ _ (by simp)]; exact h.c2
theorem Rdr.drews {b : Nat} {w : World} {s : ByteArray} {k g o : Nat} (h : Rdr b w s k g o) (m : Nat) : Rdr b (w.drewN m) s k g o := ⟨h.c0, h.c1, h.c2, h.c3, h.f1, h.f2, h.f3⟩
theorem below_drews (w : World) (m : Nat) : Below w.heap.size w (w.drewN m) := ⟨rfl, rfl, rfl, Nat.le_refl _, fun _ _ => rfl⟩
/-- Is one of these bytes next? -/
def seesB (s : ByteArray) (k : Nat) (sg : Bs) : Bool := match s.data.toList[k]? with
  | none => false
  | some c => decide (c ∈ sg)
theorem idx_same (set : ByteArray) (c : UInt8) (v : Int) (h : Lib.indexByte set.data.toList c = v) (w : World) :
    Calls Tryd.prog 54 #[.string set, .int .u8 (c.toNat : Nat)] w fun e w' => e = .returned (.int .i64 v) ∧ w' = w := (idx_is set c v h w).mono fun _ _ ⟨a, b⟩ => ⟨a, b.symm⟩
set_option maxHeartbeats 1000000 in
theorem sees_any (set : ByteArray) (sg : Bs) (hl : Looks set sg) (b : Nat) (w : World) (s : ByteArray) (k g o : Nat) (h : Rdr b w s k g o) :
    Calls Tryd.prog 49 #[.pointer (some ⟨b, 0, none⟩), .string set] w fun e w' => e = .returned (.bool (seesB s k sg)) ∧ ∃ m, w' = w.drewN m := by
  obtain ⟨v, hv⟩ : ∃ v, v = seesB s k sg := ⟨_, rfl⟩
  rw [← hv]
  unfold seesB at hv
  obtain ⟨c0, c1, _, _, _, _, _⟩ := h
  by_cases a : k < s.size
  · rw [get_at s k a] at hv
    dsimp only at hv
    obtain ⟨l1, l2, l3⟩ := hl s[k]
    obtain ⟨x, hx⟩ : ∃ x, x = Lib.indexByte set.data.toList s[k] := ⟨_, rfl⟩
    have K := Lib.hid fun w => idx_same set s[k] x hx.symm w
    rw [← hx] at l1 l2 l3
    have hgv : v = decide (0 ≤ x) := by rw [hv, decide_eq_decide]; exact l1.symm
    have HV := Lib.hid hgv
    clear hv hx l1 hl hgv
    by_cases h0 : 0 ≤ x
    · suffices hs : Calls Tryd.prog 49 #[.pointer (some ⟨b, 0, none⟩), .string set] w fun e w' => e = .returned (.bool v) ∧ Hid (∃ m, w' = w.drewN m) from hs.mono fun e w' ⟨a, b⟩ => ⟨a, b.out⟩
      go_enter Tryd.func49, Tryd.ntmps49
      go_wp2
      go_quiet ((go_at_call 54; with_reducible exact Calls.quiet_of_same (K.out _)))
      go_wp2
      go_ret
      exact ⟨by rw [HV.out]; simp [h0], Lib.hid ⟨_, rfl⟩⟩
    · suffices hs : Calls Tryd.prog 49 #[.pointer (some ⟨b, 0, none⟩), .string set] w fun e w' => e = .returned (.bool v) ∧ Hid (∃ m, w' = w.drewN m) from hs.mono fun e w' ⟨a, b⟩ => ⟨a, b.out⟩
      go_enter Tryd.func49, Tryd.ntmps49
      go_wp2
      go_quiet ((go_at_call 54; with_reducible exact Calls.quiet_of_same (K.out _)))
      go_wp2
      go_ret
      exact ⟨by rw [HV.out]; simp, Lib.hid ⟨_, rfl⟩⟩
  · rw [get_end s k a] at hv
    have HV := Lib.hid hv
    have b1 : decide ((k : Int) < (s.size : Int)) = false := by simp; omega
    have b2 : decide (k < s.size) = false := by simp; omega
    clear hv hl
    suffices hs : Calls Tryd.prog 49 #[.pointer (some ⟨b, 0, none⟩), .string set] w fun e w' => e = .returned (.bool v) ∧ Hid (∃ m, w' = w.drewN m) from hs.mono fun e w' ⟨a, b⟩ => ⟨a, b.out⟩
    go_enter Tryd.func49, Tryd.ntmps49
    go_wp2
    go_quiet (fail)
    go_wp2
    go_ret
    exact ⟨ret_bool HV.out.symm, Lib.hid ⟨_, rfl⟩⟩
theorem sees_lt {s : ByteArray} {k : Nat} {sg : Bs} (h : seesB s k sg = true) : k < s.size := by
  unfold seesB at h
  by_cases a : k < s.size
  · exact a
  · rw [get_end s k a] at h; cases h
set_option maxHeartbeats 1000000 in
theorem skips_any (set : ByteArray) (sg : Bs) (hl : Looks set sg) (b : Nat) (w : World) (s : ByteArray) (k g o : Nat) (h : Rdr b w s k g o) (hs : s.size ≤ 1000000) :
    Calls Tryd.prog 36 #[.pointer (some ⟨b, 0, none⟩), .string set] w fun e w' => e = .returned (.bool (seesB s k sg)) ∧ Rdr b w' s (if seesB s k sg = true then k + 1 else k) g o ∧ w.grownBy w' (some b) := by
  have K := Lib.hid (sees_any set sg hl b w s k g o h)
  have H := Lib.hid h
  cases hv : seesB s k sg with
  | false =>
    rw [hv] at K
    rw [if_neg (by simp)]
    clear h hv hl
    go_enter Tryd.func36, Tryd.ntmps36
    go_wp2_with (go_at_call 49; ((with_reducible refine (K.out).mono ?_)); rintro e w1 ⟨rfl, m, rfl⟩)
    go_ret
    exact ⟨rfl, H.out.drews _, grown_drews _ _ _⟩
  | true =>
    have hk := sees_lt hv
    rw [hv] at K
    rw [if_pos rfl]
    obtain ⟨c0, c1, _, _, f1, _, _⟩ := h
    have hkb : (k : Int) ≤ 1000000 := by omega
    clear hv hl
    go_enter Tryd.func36, Tryd.ntmps36
    go_wp2_with (go_at_call 49; ((with_reducible refine (K.out).mono ?_)); rintro e w1 ⟨rfl, m, rfl⟩)
    go_ret
    exact ⟨rfl, (H.out.drews m).at_ (k + 1), grown_trans (grown_drews _ m _) (grown_set b 1 _ _)⟩
end Go.Proofs.YtccheljfbjllhaaDoor
