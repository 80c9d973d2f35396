/- The code's reader: what it sees, what it skips, a byte, a number. -/
import Derived.Test.YtccheljfbjllhaaDoorPrint2
import Derived.Deep.DeepMust
import Derived.Test.YtccheljfbjllhaaDoorRSpans
namespace Go.Proofs.YtccheljfbjllhaaDoor
/- The code's reader: what it sees, what it skips, a byte, a number. -/
section
open Go Go.RowKit

/-- A reader in its box: the text, the place, the groups that have begun, those that stand open. -/
structure Rdr (b : Nat) (w : World) (s : ByteArray) (k g o : Nat) : Prop where
  c0 : w.cell? ⟨b, 0, none⟩ = some (.string s)
  c1 : w.cell? ⟨b, 1, none⟩ = some (.int .i64 k)
  c2 : w.cell? ⟨b, 2, none⟩ = some (.int .i64 g)
  c3 : w.cell? ⟨b, 3, none⟩ = some (.int .i64 o)
  f1 : w.frozen? ⟨b, 1, none⟩ = false
  f2 : w.frozen? ⟨b, 2, none⟩ = false
  f3 : w.frozen? ⟨b, 3, none⟩ = false
theorem Rdr.lt {b : Nat} {w : World} {s : ByteArray} {k g o : Nat} (h : Rdr b w s k g o) : b < w.heap.size := World.block_lt_of_cell? w _ h.c0
theorem Rdr.below {b : Nat} {w w' : World} {s : ByteArray} {k g o : Nat} (h : Rdr b w s k g o) (hb : Below w.heap.size w w') : Rdr b w' s k g o :=
  have hl := h.lt
  have c : ∀ j, w'.cell? ⟨b, j, none⟩ = w.cell? ⟨b, j, none⟩ := fun j => hb.cell (p := ⟨b, j, none⟩) hl
  have f : ∀ j, w'.frozen? ⟨b, j, none⟩ = w.frozen? ⟨b, j, none⟩ := fun j => hb.frozen (p := ⟨b, j, none⟩) hl
  ⟨(c _).trans h.c0, (c _).trans h.c1, (c _).trans h.c2, (c _).trans h.c3, (f _).trans h.f1, (f _).trans h.f2, (f _).trans h.f3⟩
theorem Rdr.at_ {b : Nat} {w : World} {s : ByteArray} {k g o : Nat} (h : Rdr b w s k g o) (k' : Nat) : Rdr b (w.setCell ⟨b, 1, none⟩ (.int .i64 k')) s k' g o := by
  refine ⟨?_, World.cell?_setCell_same _ _ _ h.c1, ?_, ?_, by rw [World.frozen?_setCell]; exact h.f1, by rw [World.frozen?_setCell]; exact h.f2, by rw [World.frozen?_setCell]; exact h.f3⟩
  · rw [World.cell?_setCell_other _ _ _ _ (by simp)]; exact h.c0
  · rw [World.cell?_setCell_other _ _ _ _ (by simp)]; exact h.c2
  · rw [World.cell?_setCell_other _ _ _ _ (by simp)]; exact h.c3
theorem Rdr.groups_ {b : Nat} {w : World} {s : ByteArray} {k g o : Nat} (h : Rdr b w s k g o) (g' : Nat) : Rdr b (w.setCell ⟨b, 2, none⟩ (.int .i64 g')) s k g' o := by
  refine ⟨?_, ?_, World.cell?_setCell_same _ _ _ h.c2, ?_, by rw [World.frozen?_setCell]; exact h.f1, by rw [World.frozen?_setCell]; exact h.f2, by rw [World.frozen?_setCell]; exact h.f3⟩
  · rw [World.cell?_setCell_other _ _ _ _ (by simp)]; exact h.c0
  · rw [World.cell?_setCell_other _ _ _ _ (by simp)]; exact h.c1
  · rw [World.cell?_setCell_other _ _ _ _ (by simp)]; exact h.c3
theorem Rdr.open_ {b : Nat} {w : World} {s : ByteArray} {k g o : Nat} (h : Rdr b w s k g o) (o' : Nat) : Rdr b (w.setCell ⟨b, 3, none⟩ (.int .i64 o')) s k g o' := by
  refine ⟨?_, ?_, ?_, World.cell?_setCell_same _ _ _ h.c3, by rw [World.frozen?_setCell]; exact h.f1, by rw [World.frozen?_setCell]; exact h.f2, by rw [World.frozen?_setCell]; exact h.f3⟩
  · rw [World.cell?_setCell_other _ _ _ _ (by simp)]; exact h.c0
  · rw [World.cell?_setCell_other _ _ _ _ (by simp)]; exact h.c1
  · rw [World.cell?_setCell_other _ _ _ _ (by simp)]; exact h.c2
theorem Rdr.drews {b : Nat} {w : World} {s : ByteArray} {k g o : Nat} (h : Rdr b w s k g o) (m : Nat) : Rdr b (w.drewN m) s k g o := ⟨h.c0, h.c1, h.c2, h.c3, h.f1, h.f2, h.f3⟩
theorem below_drews (w : World) (m : Nat) : Below w.heap.size w (w.drewN m) := ⟨rfl, rfl, rfl, Nat.le_refl _, fun _ _ => rfl⟩
/-- Is one of these bytes next? -/
def seesB (s : ByteArray) (k : Nat) (sg : Bs) : Bool := match s.data.toList[k]? with
  | none => false
  | some c => decide (c ∈ sg)
theorem idx_same (set : ByteArray) (c : UInt8) (v : Int) (h : Lib.indexByte set.data.toList c = v) (w : World) :
    Calls Tryd.prog 54 #[.string set, .int .u8 (c.toNat : Nat)] w fun e w' => e = .returned (.int .i64 v) ∧ w' = w := (idx_is set c v h w).mono fun _ _ ⟨a, b⟩ => ⟨a, b.symm⟩
set_option maxHeartbeats 1000000 in
theorem sees_any (set : ByteArray) (sg : Bs) (hl : Looks set sg) (b : Nat) (w : World) (s : ByteArray) (k g o : Nat) (h : Rdr b w s k g o) :
    Calls Tryd.prog 49 #[.pointer (some ⟨b, 0, none⟩), .string set] w fun e w' => e = .returned (.bool (seesB s k sg)) ∧ ∃ m, w' = w.drewN m := by
  obtain ⟨v, hv⟩ : ∃ v, v = seesB s k sg := ⟨_, rfl⟩
  rw [← hv]
  unfold seesB at hv
  obtain ⟨c0, c1, _, _, _, _, _⟩ := h
  by_cases a : k < s.size
  · rw [get_at s k a] at hv
    dsimp only at hv
    obtain ⟨l1, l2, l3⟩ := hl s[k]
    obtain ⟨x, hx⟩ : ∃ x, x = Lib.indexByte set.data.toList s[k] := ⟨_, rfl⟩
    have K := Lib.hid fun w => idx_same set s[k] x hx.symm w
    rw [← hx] at l1 l2 l3
    have hgv : v = decide (0 ≤ x) := by rw [hv, decide_eq_decide]; exact l1.symm
    have HV := Lib.hid hgv
    clear hv hx l1 hl hgv
    by_cases h0 : 0 ≤ x
    · suffices hs : Calls Tryd.prog 49 #[.pointer (some ⟨b, 0, none⟩), .string set] w fun e w' => e = .returned (.bool v) ∧ Hid (∃ m, w' = w.drewN m) from hs.mono fun e w' ⟨a, b⟩ => ⟨a, b.out⟩
      go_enter Tryd.func49, Tryd.ntmps49
      go_wp2
      go_quiet ((go_at_call 54; with_reducible exact Calls.quiet_of_same (K.out _)))
      go_wp2
      go_ret
      exact ⟨by rw [HV.out]; simp [h0], Lib.hid ⟨_, rfl⟩⟩
    · suffices hs : Calls Tryd.prog 49 #[.pointer (some ⟨b, 0, none⟩), .string set] w fun e w' => e = .returned (.bool v) ∧ Hid (∃ m, w' = w.drewN m) from hs.mono fun e w' ⟨a, b⟩ => ⟨a, b.out⟩
      go_enter Tryd.func49, Tryd.ntmps49
      go_wp2
      go_quiet ((go_at_call 54; with_reducible exact Calls.quiet_of_same (K.out _)))
      go_wp2
      go_ret
      exact ⟨by rw [HV.out]; simp, Lib.hid ⟨_, rfl⟩⟩
  · rw [get_end s k a] at hv
    have HV := Lib.hid hv
    have b1 : decide ((k : Int) < (s.size : Int)) = false := by simp; omega
    have b2 : decide (k < s.size) = false := by simp; omega
    clear hv hl
    suffices hs : Calls Tryd.prog 49 #[.pointer (some ⟨b, 0, none⟩), .string set] w fun e w' => e = .returned (.bool v) ∧ Hid (∃ m, w' = w.drewN m) from hs.mono fun e w' ⟨a, b⟩ => ⟨a, b.out⟩
    go_enter Tryd.func49, Tryd.ntmps49
    go_wp2
    go_quiet (fail)
    go_wp2
    go_ret
    exact ⟨ret_bool HV.out.symm, Lib.hid ⟨_, rfl⟩⟩
theorem sees_lt {s : ByteArray} {k : Nat} {sg : Bs} (h : seesB s k sg = true) : k < s.size := by
  unfold seesB at h
  by_cases a : k < s.size
  · exact a
  · rw [get_end s k a] at h; cases h
set_option maxHeartbeats 1000000 in
theorem skips_any (set : ByteArray) (sg : Bs) (hl : Looks set sg) (b : Nat) (w : World) (s : ByteArray) (k g o : Nat) (h : Rdr b w s k g o) (hs : s.size ≤ 1000000) :
    Calls Tryd.prog 36 #[.pointer (some ⟨b, 0, none⟩), .string set] w fun e w' => e = .returned (.bool (seesB s k sg)) ∧ Rdr b w' s (if seesB s k sg = true then k + 1 else k) g o ∧ w.grownBy w' (some b) := by
  have K := Lib.hid (sees_any set sg hl b w s k g o h)
  have H := Lib.hid h
  cases hv : seesB s k sg with
  | false =>
    rw [hv] at K
    rw [if_neg (by simp)]
    clear h hv hl
    go_enter Tryd.func36, Tryd.ntmps36
    go_wp2_with (go_at_call 49; ((with_reducible refine (K.out).mono ?_)); rintro e w1 ⟨rfl, m, rfl⟩)
    go_ret
    exact ⟨rfl, H.out.drews _, grown_drews _ _ _⟩
  | true =>
    have hk := sees_lt hv
    rw [hv] at K
    rw [if_pos rfl]
    obtain ⟨c0, c1, _, _, f1, _, _⟩ := h
    have hkb : (k : Int) ≤ 1000000 := by omega
    clear hv hl
    go_enter Tryd.func36, Tryd.ntmps36
    go_wp2_with (go_at_call 49; ((with_reducible refine (K.out).mono ?_)); rintro e w1 ⟨rfl, m, rfl⟩)
    go_ret
    exact ⟨rfl, (H.out.drews m).at_ (k + 1), grown_trans (grown_drews _ m _) (grown_set b 1 _ _)⟩
end
/- The code's reader: a byte, an item, a number, the bounds of a repeat. -/
section
open Go Go.RowKit

theorem looks92 : Looks ⟨#[92]⟩ [92] := all256 _ (by decide +kernel)
theorem looks45 : Looks ⟨#[45]⟩ [45] := all256 _ (by decide +kernel)
theorem looks44 : Looks ⟨#[44]⟩ [44] := all256 _ (by decide +kernel)
theorem looks125 : Looks ⟨#[125]⟩ [125] := all256 _ (by decide +kernel)
theorem looks93 : Looks ⟨#[93]⟩ [93] := all256 _ (by decide +kernel)
theorem looks94 : Looks ⟨#[94]⟩ [94] := all256 _ (by decide +kernel)
theorem sees_one {s : ByteArray} {k : Nat} (c : UInt8) : seesB s k [c] = decide (s.data.toList[k]? = some c) := by
  unfold seesB
  cases h : s.data.toList[k]? with
  | none => simp
  | some d => simp
theorem sees_nil (s : ByteArray) (k : Nat) : seesB s k [] = false := by unfold seesB; split <;> simp
def Post8 (b : Nat) (w : World) (s : ByteArray) (g o : Nat) (R : Res UInt8) (e : Ending) (w' : World) : Prop := w.grownBy w' (some b) ∧ match R with
  | .bad q => e = .returned (.tuple #[.int .u8 0, .int .i64 1]) ∧ Rdr b w' s q g o
  | .ok c q => e = .returned (.tuple #[.int .u8 c.toNat, .int .i64 0]) ∧ Rdr b w' s q g o
theorem post8_bad {b : Nat} {w w' : World} {s : ByteArray} {g o q : Nat} {R : Res UInt8} {v : Value} (h : R = .bad q) (hv : v = .tuple #[.int .u8 0, .int .i64 1]) (hr : Rdr b w' s q g o) (hg : w.grownBy w' (some b)) : Post8 b w s g o R (.returned v) w' := by subst h hv; exact ⟨hg, rfl, hr⟩
theorem post8_ok {b : Nat} {w w' : World} {s : ByteArray} {g o q : Nat} {c : UInt8} {R : Res UInt8} {v : Value} (h : R = .ok c q) (hv : v = .tuple #[.int .u8 c.toNat, .int .i64 0]) (hr : Rdr b w' s q g o) (hg : w.grownBy w' (some b)) : Post8 b w s g o R (.returned v) w' := by subst h hv; exact ⟨hg, rfl, hr⟩
set_option maxHeartbeats 2000000 in
theorem bytebut_any (set : ByteArray) (sg : Bs) (hl : Looks set sg) (b : Nat) (w : World) (s : ByteArray) (k g o : Nat) (h : Rdr b w s k g o) (hs : s.size ≤ 1000000) (hk : k ≤ s.size) :
    Calls Tryd.prog 64 #[.pointer (some ⟨b, 0, none⟩), .string set] w (Post8 b w s g o (rb sg s.data.toList k)) := by
  obtain ⟨R, hR⟩ : ∃ R, R = rb sg s.data.toList k := ⟨_, rfl⟩
  rw [← hR]
  unfold rb at hR
  have K36 := skips_any ⟨#[92]⟩ [92] looks92 b w s k g o h hs
  rw [sees_one] at K36
  by_cases a : k < s.size
  · rw [drop_at s k a] at hR
    rw [get_at s k a] at K36
    dsimp only at hR
    by_cases c92 : s[k] = 92
    · rw [if_pos c92] at hR
      have hd : decide (some s[k] = some (92 : UInt8)) = true := by rw [c92]; rfl
      rw [hd, if_pos rfl] at K36
      obtain ⟨k1, hk1⟩ : ∃ k1, k1 = k + 1 := ⟨_, rfl⟩
      rw [← hk1] at K36 hR
      have hk2 : k + 2 = k1 + 1 := by omega
      rw [hk2] at hR
      have K36 := Lib.hid K36
      by_cases a1 : k1 < s.size
      · rw [drop_at s k1 a1] at hR
        have HR := Lib.hid hR
        have K49 : Hid (∀ w1, Rdr b w1 s k1 g o → Calls Tryd.prog 49 #[.pointer (some ⟨b, 0, none⟩), .string ⟨#[]⟩] w1 fun e w' => e = .returned (.bool false) ∧ ∃ m, w' = w1.drewN m) := Lib.hid fun w1 h1 => by
          have := sees_any ⟨#[]⟩ [] looksE b w1 s k1 g o h1; rw [sees_nil] at this; exact this
        have e1 : ((k1 : Int) == (s.size : Int)) = false := by simp; omega
        have e1' : (k1 == s.size) = false := by simp; omega
        clear hR c92 hd h hl hk1 hk2
        go_enter Tryd.func64, Tryd.ntmps64
        go_wp2_with (go_at_call 36; ((with_reducible refine (K36.out).mono ?_)); rintro e w1 ⟨rfl, hr1, hg1⟩; have HR1 := Lib.hid hr1; have HG1 := Lib.hid hg1; obtain ⟨c0, c1, _, _, f1, _, _⟩ := hr1; clear hg1)
        go_quiet ((go_at_call 49; with_reducible exact Calls.quiet_of (K49.out _ (HR1.out.drews _))))
        go_wp2
        go_quiet (fail)
        go_wp2
        go_ret2
        exact post8_ok HR.out rfl ((HR1.out.drews _).at_ (k1 + 1)) (grown_trans HG1.out (grown_trans (grown_drews _ _ _) (grown_set b 1 _ _)))
      · rw [drop_end s k1 a1] at hR
        have HR := Lib.hid hR
        obtain hz : k1 = s.size := by omega
        have e1 : ((k1 : Int) == (s.size : Int)) = true := by simp; omega
        have e1' : (k1 == s.size) = true := by simp; omega
        have HZ := Lib.hid hz
        clear hR c92 hd h hl hz hk1 hk2
        go_enter Tryd.func64, Tryd.ntmps64
        go_wp2_with (go_at_call 36; ((with_reducible refine (K36.out).mono ?_)); rintro e w1 ⟨rfl, hr1, hg1⟩; have HR1 := Lib.hid hr1; have HG1 := Lib.hid hg1; obtain ⟨c0, c1, _, _, f1, _, _⟩ := hr1; clear hg1)
        go_quiet (fail)
        go_wp2
        go_ret2
        exact post8_bad HR.out rfl (HR1.out.drews _) (grown_trans HG1.out (grown_drews _ _ _))
    · rw [if_neg c92] at hR
      have hd : decide (some s[k] = some (92 : UInt8)) = false := by simp; exact c92
      rw [hd, if_neg (by simp)] at K36
      have K36 := Lib.hid K36
      have e1 : ((k : Int) == (s.size : Int)) = false := by simp; omega
      have e1' : (k == s.size) = false := by simp; omega
      have hsee : seesB s k sg = decide (s[k] ∈ sg) := by unfold seesB; rw [get_at s k a]
      by_cases hin : s[k] ∈ sg
      · rw [if_pos hin] at hR
        have HR := Lib.hid hR
        have K49 : Hid (∀ w1, Rdr b w1 s k g o → Calls Tryd.prog 49 #[.pointer (some ⟨b, 0, none⟩), .string set] w1 fun e w' => e = .returned (.bool true) ∧ ∃ m, w' = w1.drewN m) := Lib.hid fun w1 h1 => by
          have := sees_any set sg hl b w1 s k g o h1; rw [hsee, decide_eq_true hin] at this; exact this
        clear hR c92 hd h hl hin hsee
        go_enter Tryd.func64, Tryd.ntmps64
        go_wp2_with (go_at_call 36; ((with_reducible refine (K36.out).mono ?_)); rintro e w1 ⟨rfl, hr1, hg1⟩; have HR1 := Lib.hid hr1; have HG1 := Lib.hid hg1; obtain ⟨c0, c1, _, _, f1, _, _⟩ := hr1; clear hg1)
        go_quiet ((go_at_call 49; with_reducible exact Calls.quiet_of (K49.out _ (HR1.out.drews _))))
        go_wp2
        go_ret2
        exact post8_bad HR.out rfl (HR1.out.drews _) (grown_trans HG1.out (grown_drews _ _ _))
      · rw [if_neg hin] at hR
        have HR := Lib.hid hR
        have K49 : Hid (∀ w1, Rdr b w1 s k g o → Calls Tryd.prog 49 #[.pointer (some ⟨b, 0, none⟩), .string set] w1 fun e w' => e = .returned (.bool false) ∧ ∃ m, w' = w1.drewN m) := Lib.hid fun w1 h1 => by
          have := sees_any set sg hl b w1 s k g o h1; rw [hsee, decide_eq_false hin] at this; exact this
        clear hR c92 hd h hl hin hsee
        go_enter Tryd.func64, Tryd.ntmps64
        go_wp2_with (go_at_call 36; ((with_reducible refine (K36.out).mono ?_)); rintro e w1 ⟨rfl, hr1, hg1⟩; have HR1 := Lib.hid hr1; have HG1 := Lib.hid hg1; obtain ⟨c0, c1, _, _, f1, _, _⟩ := hr1; clear hg1)
        go_quiet ((go_at_call 49; with_reducible exact Calls.quiet_of (K49.out _ (HR1.out.drews _))))
        go_wp2
        go_quiet (fail)
        go_wp2
        go_ret2
        exact post8_ok HR.out rfl ((HR1.out.drews _).at_ (k + 1)) (grown_trans HG1.out (grown_trans (grown_drews _ _ _) (grown_set b 1 _ _)))
  · rw [drop_end s k a] at hR
    rw [get_end s k a] at K36
    have hd : decide ((none : Option UInt8) = some (92 : UInt8)) = false := by simp
    rw [hd, if_neg (by simp)] at K36
    have K36 := Lib.hid K36
    have HR := Lib.hid hR
    obtain rfl : k = s.size := by omega
    clear hR hd h hl
    go_enter Tryd.func64, Tryd.ntmps64
    go_wp2_with (go_at_call 36; ((with_reducible refine (K36.out).mono ?_)); rintro e w1 ⟨rfl, hr1, hg1⟩; have HR1 := Lib.hid hr1; have HG1 := Lib.hid hg1; obtain ⟨c0, c1, _, _, f1, _, _⟩ := hr1; clear hg1)
    go_quiet (fail)
    go_wp2
    go_ret2
    exact post8_bad HR.out rfl (HR1.out.drews _) (grown_trans HG1.out (grown_drews _ _ _))
def PostN (b : Nat) (w : World) (s : ByteArray) (k g o : Nat) (R : Option Int) (e : Ending) (w' : World) : Prop := w.grownBy w' (some b) ∧ match R with
  | none => e = .returned (.tuple #[.int .i64 0, .int .i64 1]) ∧ Rdr b w' s k g o
  | some n => e = .returned (.tuple #[.int .i64 n, .int .i64 0]) ∧ Rdr b w' s (k + 1) g o
theorem postn_bad {b : Nat} {w w' : World} {s : ByteArray} {k g o : Nat} {R : Option Int} {v : Value} (h : R = none) (hv : v = .tuple #[.int .i64 0, .int .i64 1]) (hr : Rdr b w' s k g o) (hg : w.grownBy w' (some b)) : PostN b w s k g o R (.returned v) w' := by subst h hv; exact ⟨hg, rfl, hr⟩
theorem postn_ok {b : Nat} {w w' : World} {s : ByteArray} {k g o : Nat} {n : Int} {R : Option Int} {v : Value} (h : R = some n) (hv : v = .tuple #[.int .i64 n, .int .i64 0]) (hr : Rdr b w' s (k + 1) g o) (hg : w.grownBy w' (some b)) : PostN b w s k g o R (.returned v) w' := by subst h hv; exact ⟨hg, rfl, hr⟩
set_option maxHeartbeats 2000000 in
theorem number_any (least : Int) (_ : 0 ≤ least) (_ : least ≤ 8) (b : Nat) (w : World) (s : ByteArray) (k g o : Nat) (h : Rdr b w s k g o) (hs : s.size ≤ 1000000) (hk : k ≤ s.size) :
    Calls Tryd.prog 66 #[.pointer (some ⟨b, 0, none⟩), .int .i64 least] w (PostN b w s k g o (numb s.data.toList k least)) := by
  obtain ⟨R, hR⟩ : ∃ R, R = numb s.data.toList k least := ⟨_, rfl⟩
  rw [← hR]
  unfold numb at hR
  have H := Lib.hid h
  obtain ⟨c0, c1, _, _, f1, _, _⟩ := h
  by_cases a : k < s.size
  · rw [get_at s k a] at hR
    dsimp only at hR
    obtain ⟨y, hy⟩ : ∃ y : Int, y = (s[k].toNat : Int) := ⟨_, rfl⟩
    have hyb : 0 ≤ y ∧ y < 256 := by rw [hy]; have := s[k].toNat_lt; omega
    obtain ⟨hy0, hy1⟩ := hyb
    rw [← hy] at hR
    have e1 : ((k : Int) == (s.size : Int)) = false := by simp; omega
    have e1' : (k == s.size) = false := by simp; omega
    by_cases h1 : y - 48 < least
    · rw [if_pos (.inl h1)] at hR
      have HR := Lib.hid hR
      clear hR
      go_enter Tryd.func66, Tryd.ntmps66
      go_wp2
      go_quiet (fail)
      go_wp2
      go_quiet (fail)
      go_wp2
      go_ret2
      exact postn_bad HR.out rfl (H.out.drews _) (grown_drews _ _ _)
    · by_cases h2 : 8 < y - 48
      · rw [if_pos (.inr h2)] at hR
        have HR := Lib.hid hR
        clear hR
        go_enter Tryd.func66, Tryd.ntmps66
        go_wp2
        go_quiet (fail)
        go_wp2
        go_quiet (fail)
        go_wp2
        go_ret2
        exact postn_bad HR.out rfl (H.out.drews _) (grown_drews _ _ _)
      · rw [if_neg (by omega)] at hR
        have HR := Lib.hid hR
        clear hR
        go_enter Tryd.func66, Tryd.ntmps66
        go_wp2
        go_quiet (fail)
        go_wp2
        go_quiet (fail)
        go_wp2
        go_ret2
        exact postn_ok HR.out (by rw [hy]; rfl) ((H.out.drews _).at_ (k + 1)) (grown_trans (grown_drews _ _ _) (grown_set b 1 _ _))
  · rw [get_end s k a] at hR
    have HR := Lib.hid hR
    obtain rfl : k = s.size := by omega
    clear hR
    go_enter Tryd.func66, Tryd.ntmps66
    go_wp2
    go_quiet (fail)
    go_wp2
    go_ret2
    exact postn_bad HR.out rfl (H.out.drews _) (grown_drews _ _ _)
end
/- The code's reader: the bounds of a repeat. -/
section
open Go Go.RowKit

theorem grown_refl (w : World) (b : Nat) : w.grownBy w (some b) := grown_drews b 0 w
/-- What skipping a byte does, from a place to a place. -/
abbrev SkipT (c : UInt8) (b : Nat) (s : ByteArray) (g o k k' : Nat) (v : Bool) : Prop := ∀ w, Rdr b w s k g o →
  Calls Tryd.prog 36 #[.pointer (some ⟨b, 0, none⟩), .string ⟨#[c]⟩] w fun e w' => e = .returned (.bool v) ∧ Rdr b w' s k' g o ∧ w.grownBy w' (some b)
theorem skip_yes {c : UInt8} (hl : Looks ⟨#[c]⟩ [c]) (b : Nat) {s : ByteArray} (g o : Nat) {k k' : Nat} (hs : s.size ≤ 1000000) (h : s.data.toList[k]? = some c) (hk : k' = k + 1) : SkipT c b s g o k k' true := by
  intro w hr
  have := skips_any ⟨#[c]⟩ [c] hl b w s k g o hr hs
  rw [sees_one, decide_eq_true h, if_pos rfl] at this
  subst hk; exact this
theorem skip_no {c : UInt8} (hl : Looks ⟨#[c]⟩ [c]) (b : Nat) {s : ByteArray} (g o : Nat) {k : Nat} (hs : s.size ≤ 1000000) (h : s.data.toList[k]? ≠ some c) : SkipT c b s g o k k false := by
  intro w hr
  have := skips_any ⟨#[c]⟩ [c] hl b w s k g o hr hs
  rw [sees_one, decide_eq_false h, if_neg (by simp)] at this
  exact this
/-- What looking does. -/
abbrev SeeT (set : ByteArray) (b : Nat) (s : ByteArray) (g o k : Nat) (v : Bool) : Prop := ∀ w, Rdr b w s k g o →
  Calls Tryd.prog 49 #[.pointer (some ⟨b, 0, none⟩), .string set] w fun e w' => e = .returned (.bool v) ∧ ∃ m, w' = w.drewN m
theorem see_one {c : UInt8} (hl : Looks ⟨#[c]⟩ [c]) (b : Nat) {s : ByteArray} (g o : Nat) {k : Nat} {v : Bool} (h : decide (s.data.toList[k]? = some c) = v) : SeeT ⟨#[c]⟩ b s g o k v := by
  intro w hr
  have := sees_any ⟨#[c]⟩ [c] hl b w s k g o hr
  rw [sees_one, h] at this; exact this
/-- The same, not in a quiet region. -/
abbrev SeeG (set : ByteArray) (b : Nat) (s : ByteArray) (g o k : Nat) (v : Bool) : Prop := ∀ w, Rdr b w s k g o →
  Calls Tryd.prog 49 #[.pointer (some ⟨b, 0, none⟩), .string set] w fun e w' => e = .returned (.bool v) ∧ Rdr b w' s k g o ∧ w.grownBy w' (some b)
theorem see_g {set : ByteArray} {b : Nat} {s : ByteArray} {g o k : Nat} {v : Bool} (h : SeeT set b s g o k v) : SeeG set b s g o k v := fun w hr =>
  (h w hr).mono fun _ _ ⟨h1, m, h2⟩ => ⟨h1, by subst h2; exact hr.drews m, by subst h2; exact grown_drews b m w⟩
/-- What a number does. -/
abbrev NumT (least : Int) (b : Nat) (s : ByteArray) (g o k : Nat) (R : Option Int) : Prop := ∀ w, Rdr b w s k g o →
  Calls Tryd.prog 66 #[.pointer (some ⟨b, 0, none⟩), .int .i64 least] w (PostN b w s k g o R)
theorem numT (least : Int) (h0 : 0 ≤ least) (h8 : least ≤ 8) (b : Nat) {s : ByteArray} (g o : Nat) {k : Nat} (hs : s.size ≤ 1000000) (hk : k ≤ s.size) {R : Option Int} (h : numb s.data.toList k least = R) : NumT least b s g o k R := by
  intro w hr; rw [← h]; exact number_any least h0 h8 b w s k g o hr hs hk
abbrev NumBad (least : Int) (b : Nat) (s : ByteArray) (g o k : Nat) : Prop := ∀ w, Rdr b w s k g o →
  Calls Tryd.prog 66 #[.pointer (some ⟨b, 0, none⟩), .int .i64 least] w fun e w' => e = .returned (.tuple #[.int .i64 0, .int .i64 1]) ∧ Rdr b w' s k g o ∧ w.grownBy w' (some b)
abbrev NumOk (least : Int) (b : Nat) (s : ByteArray) (g o k k' : Nat) (n : Int) : Prop := ∀ w, Rdr b w s k g o →
  Calls Tryd.prog 66 #[.pointer (some ⟨b, 0, none⟩), .int .i64 least] w fun e w' => e = .returned (.tuple #[.int .i64 n, .int .i64 0]) ∧ Rdr b w' s k' g o ∧ w.grownBy w' (some b)
theorem num_bad (least : Int) (h0 : 0 ≤ least) (h8 : least ≤ 8) (b : Nat) {s : ByteArray} (g o : Nat) {k : Nat} (hs : s.size ≤ 1000000) (hk : k ≤ s.size) (h : numb s.data.toList k least = none) : NumBad least b s g o k := fun w hr =>
  (numT least h0 h8 b g o hs hk h w hr).mono fun _ _ ⟨h1, h2, h3⟩ => ⟨h2, h3, h1⟩
theorem num_ok (least : Int) (h0 : 0 ≤ least) (h8 : least ≤ 8) (b : Nat) {s : ByteArray} (g o : Nat) {k k' : Nat} (hs : s.size ≤ 1000000) (hk : k ≤ s.size) {n : Int} (h : numb s.data.toList k least = some n) (hk' : k' = k + 1) : NumOk least b s g o k k' n := fun w hr =>
  (numT least h0 h8 b g o hs hk h w hr).mono fun _ _ ⟨h1, h2, h3⟩ => ⟨h2, by subst hk'; exact h3, h1⟩
def PostB (b : Nat) (w : World) (s : ByteArray) (g o : Nat) (R : Res (Int × Int)) (e : Ending) (w' : World) : Prop := w.grownBy w' (some b) ∧ match R with
  | .bad q => e = .returned (.tuple #[.int .i64 0, .int .i64 0, .int .i64 1]) ∧ Rdr b w' s q g o
  | .ok x q => e = .returned (.tuple #[.int .i64 x.1, .int .i64 x.2, .int .i64 0]) ∧ Rdr b w' s q g o
theorem postb_bad {b : Nat} {w w' : World} {s : ByteArray} {g o q : Nat} {R : Res (Int × Int)} {v : Value} (h : R = .bad q) (hv : v = .tuple #[.int .i64 0, .int .i64 0, .int .i64 1]) (hr : Rdr b w' s q g o) (hg : w.grownBy w' (some b)) : PostB b w s g o R (.returned v) w' := by subst h hv; exact ⟨hg, rfl, hr⟩
theorem postb_ok {b : Nat} {w w' : World} {s : ByteArray} {g o q : Nat} {lo hi : Int} {R : Res (Int × Int)} {v : Value} (h : R = .ok (lo, hi) q) (hv : v = .tuple #[.int .i64 lo, .int .i64 hi, .int .i64 0]) (hr : Rdr b w' s q g o) (hg : w.grownBy w' (some b)) : PostB b w s g o R (.returned v) w' := by subst h hv; exact ⟨hg, rfl, hr⟩
set_option maxHeartbeats 4000000 in
theorem bounds_any (b : Nat) (w : World) (s : ByteArray) (k g o : Nat) (h : Rdr b w s k g o) (hs : s.size ≤ 1000000) (hk : k ≤ s.size) :
    Calls Tryd.prog 57 #[.pointer (some ⟨b, 0, none⟩)] w (PostB b w s g o (bnds s.data.toList k)) := by
  obtain ⟨R, hR⟩ : ∃ R, R = bnds s.data.toList k := ⟨_, rfl⟩
  rw [← hR]
  unfold bnds at hR
  have HR := Lib.hid h
  have HG := Lib.hid (grown_refl w b)
  clear h
  rcases h1 : numb s.data.toList k 0 with _ | lo
  · have KA := Lib.hid (num_bad 0 (by omega) (by omega) b g o hs hk h1)
    rw [h1] at hR
    have HX := Lib.hid hR
    clear h1 hR
    go_enter Tryd.func57, Tryd.ntmps57
    go_wp2_with ((go_at_call 66; go_must ((with_reducible refine (Hid.out KA _ (Hid.out HR)).mono ?_); rintro _ wvq ⟨heq, hr1q, hg1q⟩; subst heq; have hg2q := grown_trans (Hid.out HG) hg1q; clear HR; have HR := Lib.hid hr1q; clear HG; have HG := Lib.hid hg2q; obtain ⟨c0, c1, _, _, f1, _, _⟩ := hr1q; clear hg1q hg2q)))
    go_ret3
    exact postb_bad HX.out rfl HR.out HG.out
  · obtain ⟨k1, hk1⟩ : ∃ k1, k1 = k + 1 := ⟨_, rfl⟩
    have KA := Lib.hid (num_ok 0 (by omega) (by omega) b g o hs hk h1 hk1)
    obtain ⟨hklt, hlo0, hlo8, _⟩ := numb_lt h1
    have hsz : s.data.toList.length = s.size := rfl
    rw [h1] at hR
    dsimp only at hR
    rw [← hk1] at hR
    by_cases h2 : s.data.toList[k1]? = some 44
    · have h2lt := lt_of_get h2
      obtain ⟨k2, hk2⟩ : ∃ k2, k2 = k1 + 1 := ⟨_, rfl⟩
      obtain ⟨k3, hk3⟩ : ∃ k3, k3 = k2 + 1 := ⟨_, rfl⟩
      have e2 : k + 2 = k2 := by omega
      have e3 : k + 3 = k3 := by omega
      have KB := Lib.hid (skip_yes looks44 b g o hs h2 hk2)
      rw [if_pos h2, e2, e3] at hR
      by_cases h3 : s.data.toList[k2]? = some 125
      · have KC := Lib.hid (see_g (see_one looks125 b g o (decide_eq_true h3)))
        have KD := Lib.hid (skip_yes looks125 b g o hs h3 hk3)
        rw [if_pos h3] at hR
        have HX := Lib.hid hR
        clear h1 hR h2 h3 h2lt hklt hsz e2 e3 hk1 hk2 hk3
        go_enter Tryd.func57, Tryd.ntmps57
        go_wp2_with (first | (go_at_call 66; go_must ((with_reducible refine (Hid.out KA _ (Hid.out HR)).mono ?_); rintro _ wvq ⟨heq, hr1q, hg1q⟩; subst heq; have hg2q := grown_trans (Hid.out HG) hg1q; clear HR; have HR := Lib.hid hr1q; clear HG; have HG := Lib.hid hg2q; obtain ⟨c0, c1, _, _, f1, _, _⟩ := hr1q; clear hg1q hg2q)) | (go_at_call 36; go_must ((with_reducible refine (Hid.out KB _ (Hid.out HR)).mono ?_); rintro _ wvq ⟨heq, hr1q, hg1q⟩; subst heq; have hg2q := grown_trans (Hid.out HG) hg1q; clear HR; have HR := Lib.hid hr1q; clear HG; have HG := Lib.hid hg2q; obtain ⟨c0, c1, _, _, f1, _, _⟩ := hr1q; clear hg1q hg2q)))
        go_wp2_with (first | (go_at_call 49; go_must ((with_reducible refine (Hid.out KC _ (Hid.out HR)).mono ?_); rintro _ wvq ⟨heq, hr1q, hg1q⟩; subst heq; have hg2q := grown_trans (Hid.out HG) hg1q; clear HR; have HR := Lib.hid hr1q; clear HG; have HG := Lib.hid hg2q; obtain ⟨c0, c1, _, _, f1, _, _⟩ := hr1q; clear hg1q hg2q)) | (go_at_call 36; go_must ((with_reducible refine (Hid.out KD _ (Hid.out HR)).mono ?_); rintro _ wvq ⟨heq, hr1q, hg1q⟩; subst heq; have hg2q := grown_trans (Hid.out HG) hg1q; clear HR; have HR := Lib.hid hr1q; clear HG; have HG := Lib.hid hg2q; obtain ⟨c0, c1, _, _, f1, _, _⟩ := hr1q; clear hg1q hg2q)))
        go_ret3
        exact postb_ok HX.out rfl HR.out HG.out
      · have KC := Lib.hid (see_g (see_one looks125 b g o (decide_eq_false h3)))
        rw [if_neg h3] at hR
        rcases h4 : numb s.data.toList k2 lo with _ | hi
        · have KD := Lib.hid (num_bad lo hlo0 hlo8 b g o hs (by omega) h4)
          rw [h4] at hR
          have HX := Lib.hid hR
          clear h1 hR h2 h3 h4 h2lt hklt hsz e2 e3 hk1 hk2 hk3
          go_enter Tryd.func57, Tryd.ntmps57
          go_wp2_with (first | (go_at_call 66; go_must ((with_reducible refine (Hid.out KA _ (Hid.out HR)).mono ?_); rintro _ wvq ⟨heq, hr1q, hg1q⟩; subst heq; have hg2q := grown_trans (Hid.out HG) hg1q; clear HR; have HR := Lib.hid hr1q; clear HG; have HG := Lib.hid hg2q; obtain ⟨c0, c1, _, _, f1, _, _⟩ := hr1q; clear hg1q hg2q)) | (go_at_call 36; go_must ((with_reducible refine (Hid.out KB _ (Hid.out HR)).mono ?_); rintro _ wvq ⟨heq, hr1q, hg1q⟩; subst heq; have hg2q := grown_trans (Hid.out HG) hg1q; clear HR; have HR := Lib.hid hr1q; clear HG; have HG := Lib.hid hg2q; obtain ⟨c0, c1, _, _, f1, _, _⟩ := hr1q; clear hg1q hg2q)))
          go_wp2_with (first | (go_at_call 49; go_must ((with_reducible refine (Hid.out KC _ (Hid.out HR)).mono ?_); rintro _ wvq ⟨heq, hr1q, hg1q⟩; subst heq; have hg2q := grown_trans (Hid.out HG) hg1q; clear HR; have HR := Lib.hid hr1q; clear HG; have HG := Lib.hid hg2q; obtain ⟨c0, c1, _, _, f1, _, _⟩ := hr1q; clear hg1q hg2q)) | (go_at_call 66; go_must ((with_reducible refine (Hid.out KD _ (Hid.out HR)).mono ?_); rintro _ wvq ⟨heq, hr1q, hg1q⟩; subst heq; have hg2q := grown_trans (Hid.out HG) hg1q; clear HR; have HR := Lib.hid hr1q; clear HG; have HG := Lib.hid hg2q; obtain ⟨c0, c1, _, _, f1, _, _⟩ := hr1q; clear hg1q hg2q)))
          go_ret3
          exact postb_bad HX.out rfl HR.out HG.out
        · have KD := Lib.hid (num_ok lo hlo0 hlo8 b g o hs (by omega) h4 hk3)
          rw [h4] at hR
          obtain ⟨h4lt, hhi0, hhi8, _⟩ := numb_lt h4
          dsimp only at hR
          unfold closeB at hR
          obtain ⟨k4, hk4⟩ : ∃ k4, k4 = k3 + 1 := ⟨_, rfl⟩
          rw [← hk4] at hR
          by_cases h5 : s.data.toList[k3]? = some 125
          · have KE := Lib.hid (skip_yes looks125 b g o hs h5 hk4)
            rw [if_pos h5] at hR
            have HX := Lib.hid hR
            clear h1 hR h2 h3 h4 h5 h2lt hklt h4lt hsz e2 e3 hk1 hk2 hk3 hk4
            go_enter Tryd.func57, Tryd.ntmps57
            go_wp2_with (first | (go_at_call 66; go_must ((with_reducible refine (Hid.out KA _ (Hid.out HR)).mono ?_); rintro _ wvq ⟨heq, hr1q, hg1q⟩; subst heq; have hg2q := grown_trans (Hid.out HG) hg1q; clear HR; have HR := Lib.hid hr1q; clear HG; have HG := Lib.hid hg2q; obtain ⟨c0, c1, _, _, f1, _, _⟩ := hr1q; clear hg1q hg2q)) | (go_at_call 36; go_must ((with_reducible refine (Hid.out KB _ (Hid.out HR)).mono ?_); rintro _ wvq ⟨heq, hr1q, hg1q⟩; subst heq; have hg2q := grown_trans (Hid.out HG) hg1q; clear HR; have HR := Lib.hid hr1q; clear HG; have HG := Lib.hid hg2q; obtain ⟨c0, c1, _, _, f1, _, _⟩ := hr1q; clear hg1q hg2q)))
            go_wp2_with (first | (go_at_call 49; go_must ((with_reducible refine (Hid.out KC _ (Hid.out HR)).mono ?_); rintro _ wvq ⟨heq, hr1q, hg1q⟩; subst heq; have hg2q := grown_trans (Hid.out HG) hg1q; clear HR; have HR := Lib.hid hr1q; clear HG; have HG := Lib.hid hg2q; obtain ⟨c0, c1, _, _, f1, _, _⟩ := hr1q; clear hg1q hg2q)) | (go_at_call 66; go_must ((with_reducible refine (Hid.out KD _ (Hid.out HR)).mono ?_); rintro _ wvq ⟨heq, hr1q, hg1q⟩; subst heq; have hg2q := grown_trans (Hid.out HG) hg1q; clear HR; have HR := Lib.hid hr1q; clear HG; have HG := Lib.hid hg2q; obtain ⟨c0, c1, _, _, f1, _, _⟩ := hr1q; clear hg1q hg2q)) | (go_at_call 36; go_must ((with_reducible refine (Hid.out KE _ (Hid.out HR)).mono ?_); rintro _ wvq ⟨heq, hr1q, hg1q⟩; subst heq; have hg2q := grown_trans (Hid.out HG) hg1q; clear HR; have HR := Lib.hid hr1q; clear HG; have HG := Lib.hid hg2q; obtain ⟨c0, c1, _, _, f1, _, _⟩ := hr1q; clear hg1q hg2q)))
            go_ret3
            exact postb_ok HX.out rfl HR.out HG.out
          · have KE := Lib.hid (skip_no looks125 b g o hs h5)
            rw [if_neg h5] at hR
            have HX := Lib.hid hR
            clear h1 hR h2 h3 h4 h5 h2lt hklt h4lt hsz e2 e3 hk1 hk2 hk3 hk4
            go_enter Tryd.func57, Tryd.ntmps57
            go_wp2_with (first | (go_at_call 66; go_must ((with_reducible refine (Hid.out KA _ (Hid.out HR)).mono ?_); rintro _ wvq ⟨heq, hr1q, hg1q⟩; subst heq; have hg2q := grown_trans (Hid.out HG) hg1q; clear HR; have HR := Lib.hid hr1q; clear HG; have HG := Lib.hid hg2q; obtain ⟨c0, c1, _, _, f1, _, _⟩ := hr1q; clear hg1q hg2q)) | (go_at_call 36; go_must ((with_reducible refine (Hid.out KB _ (Hid.out HR)).mono ?_); rintro _ wvq ⟨heq, hr1q, hg1q⟩; subst heq; have hg2q := grown_trans (Hid.out HG) hg1q; clear HR; have HR := Lib.hid hr1q; clear HG; have HG := Lib.hid hg2q; obtain ⟨c0, c1, _, _, f1, _, _⟩ := hr1q; clear hg1q hg2q)))
            go_wp2_with (first | (go_at_call 49; go_must ((with_reducible refine (Hid.out KC _ (Hid.out HR)).mono ?_); rintro _ wvq ⟨heq, hr1q, hg1q⟩; subst heq; have hg2q := grown_trans (Hid.out HG) hg1q; clear HR; have HR := Lib.hid hr1q; clear HG; have HG := Lib.hid hg2q; obtain ⟨c0, c1, _, _, f1, _, _⟩ := hr1q; clear hg1q hg2q)) | (go_at_call 66; go_must ((with_reducible refine (Hid.out KD _ (Hid.out HR)).mono ?_); rintro _ wvq ⟨heq, hr1q, hg1q⟩; subst heq; have hg2q := grown_trans (Hid.out HG) hg1q; clear HR; have HR := Lib.hid hr1q; clear HG; have HG := Lib.hid hg2q; obtain ⟨c0, c1, _, _, f1, _, _⟩ := hr1q; clear hg1q hg2q)) | (go_at_call 36; go_must ((with_reducible refine (Hid.out KE _ (Hid.out HR)).mono ?_); rintro _ wvq ⟨heq, hr1q, hg1q⟩; subst heq; have hg2q := grown_trans (Hid.out HG) hg1q; clear HR; have HR := Lib.hid hr1q; clear HG; have HG := Lib.hid hg2q; obtain ⟨c0, c1, _, _, f1, _, _⟩ := hr1q; clear hg1q hg2q)))
            go_ret3
            exact postb_bad HX.out rfl HR.out HG.out
    · have KB := Lib.hid (skip_no looks44 b g o hs h2)
      rw [if_neg h2] at hR
      unfold closeB at hR
      obtain ⟨k2, hk2⟩ : ∃ k2, k2 = k1 + 1 := ⟨_, rfl⟩
      rw [← hk2] at hR
      by_cases h5 : s.data.toList[k1]? = some 125
      · have KE := Lib.hid (skip_yes looks125 b g o hs h5 hk2)
        rw [if_pos h5] at hR
        have HX := Lib.hid hR
        clear h1 hR h2 h5 hklt hsz hk1 hk2
        go_enter Tryd.func57, Tryd.ntmps57
        go_wp2_with (first | (go_at_call 66; go_must ((with_reducible refine (Hid.out KA _ (Hid.out HR)).mono ?_); rintro _ wvq ⟨heq, hr1q, hg1q⟩; subst heq; have hg2q := grown_trans (Hid.out HG) hg1q; clear HR; have HR := Lib.hid hr1q; clear HG; have HG := Lib.hid hg2q; obtain ⟨c0, c1, _, _, f1, _, _⟩ := hr1q; clear hg1q hg2q)) | (go_at_call 36; (with_reducible refine (Hid.out KB _ (Hid.out HR)).mono ?_); go_must (rintro _ wvq ⟨heq, hr1q, hg1q⟩; subst heq; have hg2q := grown_trans (Hid.out HG) hg1q; clear HR; have HR := Lib.hid hr1q; clear HG; have HG := Lib.hid hg2q; obtain ⟨c0, c1, _, _, f1, _, _⟩ := hr1q; clear hg1q hg2q)) | (go_at_call 36; go_must ((with_reducible refine (Hid.out KE _ (Hid.out HR)).mono ?_); rintro _ wvq ⟨heq, hr1q, hg1q⟩; subst heq; have hg2q := grown_trans (Hid.out HG) hg1q; clear HR; have HR := Lib.hid hr1q; clear HG; have HG := Lib.hid hg2q; obtain ⟨c0, c1, _, _, f1, _, _⟩ := hr1q; clear hg1q hg2q)))
        go_ret3
        exact postb_ok HX.out rfl HR.out HG.out
      · have KE := Lib.hid (skip_no looks125 b g o hs h5)
        rw [if_neg h5] at hR
        have HX := Lib.hid hR
        clear h1 hR h2 h5 hklt hsz hk1 hk2
        go_enter Tryd.func57, Tryd.ntmps57
        go_wp2_with (first | (go_at_call 66; go_must ((with_reducible refine (Hid.out KA _ (Hid.out HR)).mono ?_); rintro _ wvq ⟨heq, hr1q, hg1q⟩; subst heq; have hg2q := grown_trans (Hid.out HG) hg1q; clear HR; have HR := Lib.hid hr1q; clear HG; have HG := Lib.hid hg2q; obtain ⟨c0, c1, _, _, f1, _, _⟩ := hr1q; clear hg1q hg2q)) | (go_at_call 36; (with_reducible refine (Hid.out KB _ (Hid.out HR)).mono ?_); go_must (rintro _ wvq ⟨heq, hr1q, hg1q⟩; subst heq; have hg2q := grown_trans (Hid.out HG) hg1q; clear HR; have HR := Lib.hid hr1q; clear HG; have HG := Lib.hid hg2q; obtain ⟨c0, c1, _, _, f1, _, _⟩ := hr1q; clear hg1q hg2q)) | (go_at_call 36; go_must ((with_reducible refine (Hid.out KE _ (Hid.out HR)).mono ?_); rintro _ wvq ⟨heq, hr1q, hg1q⟩; subst heq; have hg2q := grown_trans (Hid.out HG) hg1q; clear HR; have HR := Lib.hid hr1q; clear HG; have HG := Lib.hid hg2q; obtain ⟨c0, c1, _, _, f1, _, _⟩ := hr1q; clear hg1q hg2q)))
        go_ret3
        exact postb_bad HX.out rfl HR.out HG.out
end
/- The code's reader: an item of a set. -/
section
open Go Go.RowKit

/-- What a byte does. -/
abbrev ByBad (set : ByteArray) (b : Nat) (s : ByteArray) (g o k q : Nat) : Prop := ∀ w, Rdr b w s k g o →
  Calls Tryd.prog 64 #[.pointer (some ⟨b, 0, none⟩), .string set] w fun e w' => e = .returned (.tuple #[.int .u8 0, .int .i64 1]) ∧ Rdr b w' s q g o ∧ w.grownBy w' (some b)
abbrev ByOk (set : ByteArray) (b : Nat) (s : ByteArray) (g o k q : Nat) (x : Int) : Prop := ∀ w, Rdr b w s k g o →
  Calls Tryd.prog 64 #[.pointer (some ⟨b, 0, none⟩), .string set] w fun e w' => e = .returned (.tuple #[.int .u8 x, .int .i64 0]) ∧ Rdr b w' s q g o ∧ w.grownBy w' (some b)
theorem by_bad {set : ByteArray} {sg : Bs} (hl : Looks set sg) (b : Nat) {s : ByteArray} (g o : Nat) {k q : Nat} (hs : s.size ≤ 1000000) (hk : k ≤ s.size) (h : rb sg s.data.toList k = .bad q) : ByBad set b s g o k q := fun w hr =>
  (by rw [← h]; exact bytebut_any set sg hl b w s k g o hr hs hk : Calls _ _ _ _ (Post8 b w s g o (.bad q))).mono fun _ _ ⟨h1, h2, h3⟩ => ⟨h2, h3, h1⟩
theorem by_ok {set : ByteArray} {sg : Bs} (hl : Looks set sg) (b : Nat) {s : ByteArray} (g o : Nat) {k q : Nat} {c : UInt8} {x : Int} (hs : s.size ≤ 1000000) (hk : k ≤ s.size) (h : rb sg s.data.toList k = .ok c q) (hx : x = (c.toNat : Int)) : ByOk set b s g o k q x := fun w hr =>
  (by rw [← h]; exact bytebut_any set sg hl b w s k g o hr hs hk : Calls _ _ _ _ (Post8 b w s g o (.ok c q))).mono fun _ _ ⟨h1, h2, h3⟩ => ⟨by subst hx; exact h2, h3, h1⟩
theorem looksI' : Looks ⟨#[93, 45, 92]⟩ sgI := looksI
def PostI (b : Nat) (w : World) (s : ByteArray) (g o : Nat) (R : Res Sp) (e : Ending) (w' : World) : Prop := w.grownBy w' (some b) ∧ match R with
  | .bad q => (∃ x y : Int, e = .returned (.tuple #[.int .u8 x, .int .u8 y, .int .i64 1])) ∧ Rdr b w' s q g o
  | .ok sp q => e = .returned (.tuple #[.int .u8 sp.1.toNat, .int .u8 sp.2.toNat, .int .i64 0]) ∧ Rdr b w' s q g o
theorem posti_bad {b : Nat} {w w' : World} {s : ByteArray} {g o q : Nat} {R : Res Sp} {x y : Int} {v : Value} (h : R = .bad q) (hv : v = .tuple #[.int .u8 x, .int .u8 y, .int .i64 1]) (hr : Rdr b w' s q g o) (hg : w.grownBy w' (some b)) : PostI b w s g o R (.returned v) w' := by subst h hv; exact ⟨hg, ⟨x, y, rfl⟩, hr⟩
theorem posti_ok {b : Nat} {w w' : World} {s : ByteArray} {g o q : Nat} {lo hi : UInt8} {x y : Int} {R : Res Sp} {v : Value} (h : R = .ok (lo, hi) q) (hx : x = (lo.toNat : Int)) (hy : y = (hi.toNat : Int)) (hv : v = .tuple #[.int .u8 x, .int .u8 y, .int .i64 0]) (hr : Rdr b w' s q g o) (hg : w.grownBy w' (some b)) : PostI b w s g o R (.returned v) w' := by subst h hx hy hv; exact ⟨hg, rfl, hr⟩
theorem Rdr.back {b : Nat} {w : World} {s : ByteArray} {k q g o : Nat} (h : Rdr b w s k g o) (hq : k = q + 1) : Rdr b (w.setCell ⟨b, 1, none⟩ (.int .i64 ((k : Int) - 1))) s q g o := by
  have : (k : Int) - 1 = q := by omega
  rw [this]; exact h.at_ q
set_option maxHeartbeats 4000000 in
theorem item_any (b : Nat) (w : World) (s : ByteArray) (k g o : Nat) (h : Rdr b w s k g o) (hs : s.size ≤ 1000000) (hk : k ≤ s.size) :
    Calls Tryd.prog 76 #[.pointer (some ⟨b, 0, none⟩)] w (PostI b w s g o (item s.data.toList k)) := by
  obtain ⟨R, hR⟩ : ∃ R, R = item s.data.toList k := ⟨_, rfl⟩
  rw [← hR]
  have HR := Lib.hid h
  have HG := Lib.hid (grown_refl w b)
  have hsz : s.data.toList.length = s.size := rfl
  clear h
  rcases h1 : rb sgI s.data.toList k with q | ⟨lo, q⟩
  · have KA := Lib.hid (by_bad looksI' b g o hs hk h1)
    unfold item at hR
    rw [h1] at hR
    have HX := Lib.hid hR
    clear h1 hR hsz
    go_enter Tryd.func76, Tryd.ntmps76
    go_wp2_with ((go_at_call 64; go_must ((with_reducible refine (Hid.out KA _ (Hid.out HR)).mono ?_); rintro _ wvq ⟨heq, hr1q, hg1q⟩; subst heq; have hg2q := grown_trans (Hid.out HG) hg1q; clear HR; have HR := Lib.hid hr1q; clear HG; have HG := Lib.hid hg2q; obtain ⟨c0, c1, _, _, f1, _, _⟩ := hr1q; clear hg1q hg2q)))
    go_ret3
    exact posti_bad HX.out rfl HR.out HG.out
  · obtain ⟨x, hx⟩ : ∃ x : Int, x = (lo.toNat : Int) := ⟨_, rfl⟩
    have hxb := lo.toNat_lt
    have hx0 : 0 ≤ x := by omega
    have hx1 : x < 256 := by omega
    have KA := Lib.hid (by_ok looksI' b g o hs hk h1 hx)
    obtain ⟨q1, q2⟩ := rb_ok (by rw [hsz]; exact hk) h1
    rw [hsz] at q2
    have it := item_of h1
    have HLO := Lib.hid hx
    by_cases h2 : s.data.toList[q]? = some 45
    · have h2lt := lt_of_get h2
      rw [hsz] at h2lt
      obtain ⟨r, hr⟩ : ∃ r, r = q + 1 := ⟨_, rfl⟩
      have KB := Lib.hid (skip_yes looks45 b g o hs h2 hr)
      rw [it.1 h2, ← hr] at hR
      rcases h3 : rb sgI s.data.toList r with p | ⟨hi, p⟩
      · have KC := Lib.hid (by_bad looksI' b g o hs (by omega) h3)
        rw [h3] at hR
        have HX := Lib.hid hR
        clear h1 hR hsz hx it h2 h2lt hr h3 hxb
        go_enter Tryd.func76, Tryd.ntmps76
        go_wp2_with (first | (go_at_call 64; (with_reducible refine (Hid.out KA _ (Hid.out HR)).mono ?_); go_must (rintro _ wvq ⟨heq, hr1q, hg1q⟩; subst heq; have hg2q := grown_trans (Hid.out HG) hg1q; clear HR; have HR := Lib.hid hr1q; clear HG; have HG := Lib.hid hg2q; obtain ⟨c0, c1, _, _, f1, _, _⟩ := hr1q; clear hg1q hg2q)) | (go_at_call 36; go_must ((with_reducible refine (Hid.out KB _ (Hid.out HR)).mono ?_); rintro _ wvq ⟨heq, hr1q, hg1q⟩; subst heq; have hg2q := grown_trans (Hid.out HG) hg1q; clear HR; have HR := Lib.hid hr1q; clear HG; have HG := Lib.hid hg2q; obtain ⟨c0, c1, _, _, f1, _, _⟩ := hr1q; clear hg1q hg2q)) | (go_at_call 64; go_must ((with_reducible refine (Hid.out KC _ (Hid.out HR)).mono ?_); rintro _ wvq ⟨heq, hr1q, hg1q⟩; subst heq; have hg2q := grown_trans (Hid.out HG) hg1q; clear HR; have HR := Lib.hid hr1q; clear HG; have HG := Lib.hid hg2q; obtain ⟨c0, c1, _, _, f1, _, _⟩ := hr1q; clear hg1q hg2q)))
        go_ret3
        exact posti_bad HX.out rfl HR.out HG.out
      · obtain ⟨y, hy⟩ : ∃ y : Int, y = (hi.toNat : Int) := ⟨_, rfl⟩
        have hyb := hi.toNat_lt
        have hy0 : 0 ≤ y := by omega
        have hy1 : y < 256 := by omega
        have KC := Lib.hid (by_ok looksI' b g o hs (by omega) h3 hy)
        obtain ⟨p1, p2⟩ := rb_ok (by rw [hsz]; omega) h3
        rw [hsz] at p2
        rw [h3] at hR
        dsimp only at hR
        rw [← hx, ← hy] at hR
        have HHI := Lib.hid hy
        by_cases h4 : y < x
        · rw [if_pos h4] at hR
          have HX := Lib.hid hR
          have HP : Hid (p = p - 1 + 1) := Lib.hid (by omega)
          have hp0 : (0 : Int) ≤ (p : Int) - 1 := by omega
          have hp9 : (p : Int) - 1 ≤ 1000000 := by omega
          clear h1 hR hsz hx it h2 h2lt hr h3 hxb hyb hy
          go_enter Tryd.func76, Tryd.ntmps76
          go_wp2_with (first | (go_at_call 64; (with_reducible refine (Hid.out KA _ (Hid.out HR)).mono ?_); go_must (rintro _ wvq ⟨heq, hr1q, hg1q⟩; subst heq; have hg2q := grown_trans (Hid.out HG) hg1q; clear HR; have HR := Lib.hid hr1q; clear HG; have HG := Lib.hid hg2q; obtain ⟨c0, c1, _, _, f1, _, _⟩ := hr1q; clear hg1q hg2q)) | (go_at_call 36; go_must ((with_reducible refine (Hid.out KB _ (Hid.out HR)).mono ?_); rintro _ wvq ⟨heq, hr1q, hg1q⟩; subst heq; have hg2q := grown_trans (Hid.out HG) hg1q; clear HR; have HR := Lib.hid hr1q; clear HG; have HG := Lib.hid hg2q; obtain ⟨c0, c1, _, _, f1, _, _⟩ := hr1q; clear hg1q hg2q)) | (go_at_call 64; go_must ((with_reducible refine (Hid.out KC _ (Hid.out HR)).mono ?_); rintro _ wvq ⟨heq, hr1q, hg1q⟩; subst heq; have hg2q := grown_trans (Hid.out HG) hg1q; clear HR; have HR := Lib.hid hr1q; clear HG; have HG := Lib.hid hg2q; obtain ⟨c0, c1, _, _, f1, _, _⟩ := hr1q; clear hg1q hg2q)))
          go_ret3
          exact posti_bad HX.out rfl (HR.out.back HP.out) (grown_trans HG.out (grown_set b 1 _ _))
        · rw [if_neg h4] at hR
          have HX := Lib.hid hR
          clear h1 hR hsz hx it h2 h2lt hr h3 hxb hyb hy
          go_enter Tryd.func76, Tryd.ntmps76
          go_wp2_with (first | (go_at_call 64; (with_reducible refine (Hid.out KA _ (Hid.out HR)).mono ?_); go_must (rintro _ wvq ⟨heq, hr1q, hg1q⟩; subst heq; have hg2q := grown_trans (Hid.out HG) hg1q; clear HR; have HR := Lib.hid hr1q; clear HG; have HG := Lib.hid hg2q; obtain ⟨c0, c1, _, _, f1, _, _⟩ := hr1q; clear hg1q hg2q)) | (go_at_call 36; go_must ((with_reducible refine (Hid.out KB _ (Hid.out HR)).mono ?_); rintro _ wvq ⟨heq, hr1q, hg1q⟩; subst heq; have hg2q := grown_trans (Hid.out HG) hg1q; clear HR; have HR := Lib.hid hr1q; clear HG; have HG := Lib.hid hg2q; obtain ⟨c0, c1, _, _, f1, _, _⟩ := hr1q; clear hg1q hg2q)) | (go_at_call 64; go_must ((with_reducible refine (Hid.out KC _ (Hid.out HR)).mono ?_); rintro _ wvq ⟨heq, hr1q, hg1q⟩; subst heq; have hg2q := grown_trans (Hid.out HG) hg1q; clear HR; have HR := Lib.hid hr1q; clear HG; have HG := Lib.hid hg2q; obtain ⟨c0, c1, _, _, f1, _, _⟩ := hr1q; clear hg1q hg2q)))
          go_ret3
          exact posti_ok HX.out HLO.out HHI.out rfl HR.out HG.out
    · have KB := Lib.hid (skip_no looks45 b g o hs h2)
      rw [it.2 h2] at hR
      have HX := Lib.hid hR
      clear h1 hR hsz hx it h2 hxb
      go_enter Tryd.func76, Tryd.ntmps76
      go_wp2_with (first | (go_at_call 64; (with_reducible refine (Hid.out KA _ (Hid.out HR)).mono ?_); go_must (rintro _ wvq ⟨heq, hr1q, hg1q⟩; subst heq; have hg2q := grown_trans (Hid.out HG) hg1q; clear HR; have HR := Lib.hid hr1q; clear HG; have HG := Lib.hid hg2q; obtain ⟨c0, c1, _, _, f1, _, _⟩ := hr1q; clear hg1q hg2q)) | (go_at_call 36; go_must ((with_reducible refine (Hid.out KB _ (Hid.out HR)).mono ?_); rintro _ wvq ⟨heq, hr1q, hg1q⟩; subst heq; have hg2q := grown_trans (Hid.out HG) hg1q; clear HR; have HR := Lib.hid hr1q; clear HG; have HG := Lib.hid hg2q; obtain ⟨c0, c1, _, _, f1, _, _⟩ := hr1q; clear hg1q hg2q)))
      go_ret3
      exact posti_ok HX.out HLO.out HLO.out rfl HR.out HG.out
end
/- The code's reader: a set. -/
section
open Go Go.RowKit

abbrev ItBad (b : Nat) (s : ByteArray) (g o k q : Nat) : Prop := ∀ w, Rdr b w s k g o →
  Calls Tryd.prog 76 #[.pointer (some ⟨b, 0, none⟩)] w fun e w' => (∃ x y : Int, e = .returned (.tuple #[.int .u8 x, .int .u8 y, .int .i64 1])) ∧ Rdr b w' s q g o ∧ w.grownBy w' (some b)
abbrev ItOk (b : Nat) (s : ByteArray) (g o k q : Nat) (lo hi : UInt8) : Prop := ∀ w, Rdr b w s k g o →
  Calls Tryd.prog 76 #[.pointer (some ⟨b, 0, none⟩)] w fun e w' => e = .returned (.tuple #[.int .u8 lo.toNat, .int .u8 hi.toNat, .int .i64 0]) ∧ Rdr b w' s q g o ∧ w.grownBy w' (some b)
theorem it_bad (b : Nat) {s : ByteArray} (g o : Nat) {k q : Nat} (hs : s.size ≤ 1000000) (hk : k ≤ s.size) (h : item s.data.toList k = .bad q) : ItBad b s g o k q := fun w hr =>
  (by rw [← h]; exact item_any b w s k g o hr hs hk : Calls _ _ _ _ (PostI b w s g o (.bad q))).mono fun _ _ ⟨h1, h2, h3⟩ => ⟨h2, h3, h1⟩
theorem it_ok (b : Nat) {s : ByteArray} (g o : Nat) {k q : Nat} {lo hi : UInt8} (hs : s.size ≤ 1000000) (hk : k ≤ s.size) (h : item s.data.toList k = .ok (lo, hi) q) : ItOk b s g o k q lo hi := fun w hr =>
  (by rw [← h]; exact item_any b w s k g o hr hs hk : Calls _ _ _ _ (PostI b w s g o (.ok (lo, hi) q))).mono fun _ _ ⟨h1, h2, h3⟩ => ⟨h2, h3, h1⟩
/-- A set's two boxes: what is left, what grows. -/
structure Two (w wr : World) (S : S4) : Prop where
  left : SetAt wr w.heap.size none4
  rest : SetAt wr (w.heap.size + 1) S
  size : w.heap.size + 2 ≤ wr.heap.size
theorem SetAt.grown {b c : Nat} {w w' : World} {S : S4} (h : SetAt w c S) (hg : w.grownBy w' (some b)) (hc : c < w.heap.size) (hn : c ≠ b) : SetAt w' c S := by
  have e : w'.heap[c]? = w.heap[c]? := hg.block c hc (fun e => hn (by injection e))
  refine ⟨fun q hq => ?_, fun q hq => ?_⟩
  · rw [← h.1 q hq]; exact World.cell?_of_block e
  · rw [← h.2 q hq]; exact World.frozen?_of_block e
theorem Two.grown {b : Nat} {w wr w' : World} {S : S4} (h : Two w wr S) (hb : b < w.heap.size) (hg : wr.grownBy w' (some b)) : Two w w' S :=
  ⟨h.left.grown hg (by have := h.size; omega) (by omega), h.rest.grown hg (by have := h.size; omega) (by omega), Nat.le_trans h.size hg.size⟩
/-- Four words stored. -/
def put4 (W : World) (c : Nat) (T : S4) : World := (((W.setCell ⟨c, 0, none⟩ (.int .u64 T.1.toNat)).setCell ⟨c, 1, none⟩ (.int .u64 T.2.1.toNat)).setCell ⟨c, 2, none⟩ (.int .u64 T.2.2.1.toNat)).setCell ⟨c, 3, none⟩ (.int .u64 T.2.2.2.toNat)
theorem Rdr.other {b : Nat} {w : World} {s : ByteArray} {k g o : Nat} (h : Rdr b w s k g o) {a : Addr} (ha : a.block ≠ b) (u : Value) : Rdr b (w.setCell a u) s k g o := by
  have c : ∀ j, (w.setCell a u).cell? ⟨b, j, none⟩ = w.cell? ⟨b, j, none⟩ := fun j => World.cell?_setCell_other _ _ _ _ (fun e => ha (by rw [e]))
  have f : ∀ j, (w.setCell a u).frozen? ⟨b, j, none⟩ = w.frozen? ⟨b, j, none⟩ := fun j => World.frozen?_setCell _ _ _ _
  exact ⟨(c _).trans h.c0, (c _).trans h.c1, (c _).trans h.c2, (c _).trans h.c3, (f _).trans h.f1, (f _).trans h.f2, (f _).trans h.f3⟩
theorem Rdr.put4 {b : Nat} {w : World} {s : ByteArray} {k g o : Nat} (h : Rdr b w s k g o) {c : Nat} (hc : c ≠ b) (T : S4) : Rdr b (put4 w c T) s k g o :=
  (((h.other (a := ⟨c, 0, none⟩) hc _).other (a := ⟨c, 1, none⟩) hc _).other (a := ⟨c, 2, none⟩) hc _).other (a := ⟨c, 3, none⟩) hc _
theorem grown_put4 {b : Nat} {w W : World} (h : w.grownBy W (some b)) {c : Nat} (hc : w.heap.size ≤ c) (T : S4) : w.grownBy (put4 W c T) (some b) := by
  refine ⟨h.os, h.tape, h.output, by simpa [Go.Proofs.YtccheljfbjllhaaDoor.put4, World.setCell] using h.size, fun k hk hn => ?_⟩
  have e : ∀ (W : World) (j : Nat) (u : Value), (W.setCell ⟨c, j, none⟩ u).heap[k]? = W.heap[k]? := fun W j u => Below.heap_setCell _ _ _ _ (by show k ≠ c; omega)
  rw [← h.block k hk hn]
  unfold Go.Proofs.YtccheljfbjllhaaDoor.put4
  rw [e, e, e, e]
theorem Two.put {w wr : World} {S : S4} (h : Two w wr S) (T : S4) : Two w (put4 wr (w.heap.size + 1) T) T :=
  ⟨by have := (((h.left.other (a := ⟨w.heap.size + 1, 0, none⟩) (by simp) (.int .u64 T.1.toNat)).other (a := ⟨w.heap.size + 1, 1, none⟩) (by simp) (.int .u64 T.2.1.toNat)).other (a := ⟨w.heap.size + 1, 2, none⟩) (by simp) (.int .u64 T.2.2.1.toNat)).other (a := ⟨w.heap.size + 1, 3, none⟩) (by simp) (.int .u64 T.2.2.2.toNat); exact this,
   h.rest.all T, by simpa [Go.Proofs.YtccheljfbjllhaaDoor.put4, World.setCell] using h.size⟩
/-- How much is left to read, by the reader's box. -/
def gas (b n : Nat) (w : World) : Nat := match w.cell? ⟨b, 1, none⟩ with
  | some (.int _ i) => n - i.toNat
  | _ => 0
theorem gas_is {b n : Nat} {w : World} {s : ByteArray} {k g o : Nat} (h : Rdr b w s k g o) : gas b n w = n - k := by unfold gas; rw [h.c1]; simp
end
end Go.Proofs.YtccheljfbjllhaaDoor
