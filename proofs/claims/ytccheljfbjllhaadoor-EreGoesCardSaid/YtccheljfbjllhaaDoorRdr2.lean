/- The code's reader: a byte, an item, a number, the bounds of a repeat. -/
import Derived.Test.YtccheljfbjllhaaDoorRdr
namespace Go.Proofs.YtccheljfbjllhaaDoor
open Go Go.RowKit

theorem looks92 : Looks ⟨#[92]⟩ [92] := all256 _ (by decide +kernel)
theorem looks45 : Looks ⟨#[45]⟩ [45] := all256 _ (by decide +kernel)
theorem looks44 : Looks ⟨#[44]⟩ [44] := all256 _ (by decide +kernel)
theorem looks125 : Looks ⟨#[125]⟩ [125] := all256 _ (by decide +kernel)
theorem looks93 : Looks ⟨#[93]⟩ [93] := all256 _ (by decide +kernel)
theorem looks94 : Looks ⟨#[94]⟩ [94] := all256 _ (by decide +kernel)
theorem sees_one {s : ByteArray} {k : Nat} (c : UInt8) : seesB s k [c] = decide (s.data.toList[k]? = some c) := by
  unfold seesB
  cases h : s.data.toList[k]? with
  | none => simp
  | some d => simp
theorem sees_nil (s : ByteArray) (k : Nat) : seesB s k [] = false := by unfold seesB; split <;> simp
def Post8 (b : Nat) (w : World) (s : ByteArray) (g o : Nat) (R : Res UInt8) (e : Ending) (w' : World) : Prop := w.grownBy w' (some b) ∧ match R with
  | .bad q => e = .returned (.tuple #[.int .u8 0, .int .i64 1]) ∧ Rdr b w' s q g o
  | .ok c q => e = .returned (.tuple #[.int .u8 c.toNat, .int .i64 0]) ∧ Rdr b w' s q g o
theorem post8_bad {b : Nat} {w w' : World} {s : ByteArray} {g o q : Nat} {R : Res UInt8} {v : Value} (h : R = .bad q) (hv : v = .tuple #[.int .u8 0, .int .i64 1]) (hr : Rdr b w' s q g o) (hg : w.grownBy w' (some b)) : Post8 b w s g o R (.returned v) w' := by subst h hv; exact ⟨hg, rfl, hr⟩
theorem post8_ok {b : Nat} {w w' : World} {s : ByteArray} {g o q : Nat} {c : UInt8} {R : Res UInt8} {v : Value} (h : R = .ok c q) (hv : v = .tuple #[.int .u8 c.toNat, .int .i64 0]) (hr : Rdr b w' s q g o) (hg : w.grownBy w' (some b)) : Post8 b w s g o R (.returned v) w' := by subst h hv; exact ⟨hg, rfl, hr⟩
set_option maxHeartbeats 2000000 in
theorem bytebut_any (set : ByteArray) (sg : Bs) (hl : Looks set sg) (b : Nat) (w : World) (s : ByteArray) (k g o : Nat) (h : Rdr b w s k g o) (hs : s.size ≤ 1000000) (hk : k ≤ s.size) :
    Calls Tryd.prog 64 #[.pointer (some ⟨b, 0, none⟩), .string set] w (Post8 b w s g o (rb sg s.data.toList k)) := by
  obtain ⟨R, hR⟩ : ∃ R, R = rb sg s.data.toList k := ⟨_, rfl⟩
  rw [← hR]
  unfold rb at hR
  have K36 := skips_any ⟨#[92]⟩ [92] looks92 b w s k g o h hs
  rw [sees_one] at K36
  by_cases a : k < s.size
  · rw [drop_at s k a] at hR
    rw [get_at s k a] at K36
    dsimp only at hR
    by_cases c92 : s[k] = 92
    · rw [if_pos c92] at hR
      have hd : decide (some s[k] = some (92 : UInt8)) = true := by rw [c92]; rfl
      rw [hd, if_pos rfl] at K36
      obtain ⟨k1, hk1⟩ : ∃ k1, k1 = k + 1 := ⟨_, rfl⟩
      rw [← hk1] at K36 hR
      have hk2 : k + 2 = k1 + 1 := by omega
      rw [hk2] at hR
      have K36 := Lib.hid K36
      by_cases a1 : k1 < s.size
      · rw [drop_at s k1 a1] at hR
        have HR := Lib.hid hR
        have K49 : Hid (∀ w1, Rdr b w1 s k1 g o → Calls Tryd.prog 49 #[.pointer (some ⟨b, 0, none⟩), .string ⟨#[]⟩] w1 fun e w' => e = .returned (.bool false) ∧ ∃ m, w' = w1.drewN m) := Lib.hid fun w1 h1 => by
          have := sees_any ⟨#[]⟩ [] looksE b w1 s k1 g o h1; rw [sees_nil] at this; exact this
        have e1 : ((k1 : Int) == (s.size : Int)) = false := by simp; omega
        have e1' : (k1 == s.size) = false := by simp; omega
        clear hR c92 hd h hl hk1 hk2
        go_enter Tryd.func64, Tryd.ntmps64
        go_wp2_with (go_at_call 36; ((with_reducible refine (K36.out).mono ?_)); rintro e w1 ⟨rfl, hr1, hg1⟩; have HR1 := Lib.hid hr1; have HG1 := Lib.hid hg1; obtain ⟨c0, c1, _, _, f1, _, _⟩ := hr1; clear hg1)
        go_quiet ((go_at_call 49; with_reducible exact Calls.quiet_of (K49.out _ (HR1.out.drews _))))
        go_wp2
        go_quiet (fail)
        go_wp2
        go_ret2
        exact post8_ok HR.out rfl ((HR1.out.drews _).at_ (k1 + 1)) (grown_trans HG1.out (grown_trans (grown_drews _ _ _) (grown_set b 1 _ _)))
      · rw [drop_end s k1 a1] at hR
        have HR := Lib.hid hR
        obtain hz : k1 = s.size := by omega
        have e1 : ((k1 : Int) == (s.size : Int)) = true := by simp; omega
        have e1' : (k1 == s.size) = true := by simp; omega
        have HZ := Lib.hid hz
        clear hR c92 hd h hl hz hk1 hk2
        go_enter Tryd.func64, Tryd.ntmps64
        go_wp2_with (go_at_call 36; ((with_reducible refine (K36.out).mono ?_)); rintro e w1 ⟨rfl, hr1, hg1⟩; have HR1 := Lib.hid hr1; have HG1 := Lib.hid hg1; obtain ⟨c0, c1, _, _, f1, _, _⟩ := hr1; clear hg1)
        go_quiet (fail)
        go_wp2
        go_ret2
        exact post8_bad HR.out rfl (HR1.out.drews _) (grown_trans HG1.out (grown_drews _ _ _))
    · rw [if_neg c92] at hR
      have hd : decide (some s[k] = some (92 : UInt8)) = false := by simp; exact c92
      rw [hd, if_neg (by simp)] at K36
      have K36 := Lib.hid K36
      have e1 : ((k : Int) == (s.size : Int)) = false := by simp; omega
      have e1' : (k == s.size) = false := by simp; omega
      have hsee : seesB s k sg = decide (s[k] ∈ sg) := by unfold seesB; rw [get_at s k a]
      by_cases hin : s[k] ∈ sg
      · rw [if_pos hin] at hR
        have HR := Lib.hid hR
        have K49 : Hid (∀ w1, Rdr b w1 s k g o → Calls Tryd.prog 49 #[.pointer (some ⟨b, 0, none⟩), .string set] w1 fun e w' => e = .returned (.bool true) ∧ ∃ m, w' = w1.drewN m) := Lib.hid fun w1 h1 => by
          have := sees_any set sg hl b w1 s k g o h1; rw [hsee, decide_eq_true hin] at this; exact this
        clear hR c92 hd h hl hin hsee
        go_enter Tryd.func64, Tryd.ntmps64
        go_wp2_with (go_at_call 36; ((with_reducible refine (K36.out).mono ?_)); rintro e w1 ⟨rfl, hr1, hg1⟩; have HR1 := Lib.hid hr1; have HG1 := Lib.hid hg1; obtain ⟨c0, c1, _, _, f1, _, _⟩ := hr1; clear hg1)
        go_quiet ((go_at_call 49; with_reducible exact Calls.quiet_of (K49.out _ (HR1.out.drews _))))
        go_wp2
        go_ret2
        exact post8_bad HR.out rfl (HR1.out.drews _) (grown_trans HG1.out (grown_drews _ _ _))
      · rw [if_neg hin] at hR
        have HR := Lib.hid hR
        have K49 : Hid (∀ w1, Rdr b w1 s k g o → Calls Tryd.prog 49 #[.pointer (some ⟨b, 0, none⟩), .string set] w1 fun e w' => e = .returned (.bool false) ∧ ∃ m, w' = w1.drewN m) := Lib.hid fun w1 h1 => by
          have := sees_any set sg hl b w1 s k g o h1; rw [hsee, decide_eq_false hin] at this; exact this
        clear hR c92 hd h hl hin hsee
        go_enter Tryd.func64, Tryd.ntmps64
        go_wp2_with (go_at_call 36; ((with_reducible refine (K36.out).mono ?_)); rintro e w1 ⟨rfl, hr1, hg1⟩; have HR1 := Lib.hid hr1; have HG1 := Lib.hid hg1; obtain ⟨c0, c1, _, _, f1, _, _⟩ := hr1; clear hg1)
        go_quiet ((go_at_call 49; with_reducible exact Calls.quiet_of (K49.out _ (HR1.out.drews _))))
        go_wp2
        go_quiet (fail)
        go_wp2
        go_ret2
        exact post8_ok HR.out rfl ((HR1.out.drews _).at_ (k + 1)) (grown_trans HG1.out (grown_trans (grown_drews _ _ _) (grown_set b 1 _ _)))
  · rw [drop_end s k a] at hR
    rw [get_end s k a] at K36
    have hd : decide ((none : Option UInt8) = some (92 : UInt8)) = false := by simp
    rw [hd, if_neg (by simp)] at K36
    have K36 := Lib.hid K36
    have HR := Lib.hid hR
    obtain rfl : k = s.size := by omega
    clear hR hd h hl
    go_enter Tryd.func64, Tryd.ntmps64
    go_wp2_with (go_at_call 36; ((with_reducible refine (K36.out).mono ?_)); rintro e w1 ⟨rfl, hr1, hg1⟩; have HR1 := Lib.hid hr1; have HG1 := Lib.hid hg1; obtain ⟨c0, c1, _, _, f1, _, _⟩ := hr1; clear hg1)
    go_quiet (fail)
    go_wp2
    go_ret2
    exact post8_bad HR.out rfl (HR1.out.drews _) (grown_trans HG1.out (grown_drews _ _ _))
def PostN (b : Nat) (w : World) (s : ByteArray) (k g o : Nat) (R : Option Int) (e : Ending) (w' : World) : Prop := w.grownBy w' (some b) ∧ match R with
  | none => e = .returned (.tuple #[.int .i64 0, .int .i64 1]) ∧ Rdr b w' s k g o
  | some n => e = .returned (.tuple #[.int .i64 n, .int .i64 0]) ∧ Rdr b w' s (k + 1) g o
theorem postn_bad {b : Nat} {w w' : World} {s : ByteArray} {k g o : Nat} {R : Option Int} {v : Value} (h : R = none) (hv : v = .tuple #[.int .i64 0, .int .i64 1]) (hr : Rdr b w' s k g o) (hg : w.grownBy w' (some b)) : PostN b w s k g o R (.returned v) w' := by subst h hv; exact ⟨hg, rfl, hr⟩
theorem postn_ok {b : Nat} {w w' : World} {s : ByteArray} {k g o : Nat} {n : Int} {R : Option Int} {v : Value} (h : R = some n) (hv : v = .tuple #[.int .i64 n, .int .i64 0]) (hr : Rdr b w' s (k + 1) g o) (hg : w.grownBy w' (some b)) : PostN b w s k g o R (.returned v) w' := by subst h hv; exact ⟨hg, rfl, hr⟩
set_option maxHeartbeats 2000000 in
theorem number_any (least : Int) (_ : 0 ≤ least) (_ : least ≤ 8) (b : Nat) (w : World) (s : ByteArray) (k g o : Nat) (h : Rdr b w s k g o) (hs : s.size ≤ 1000000) (hk : k ≤ s.size) :
    Calls Tryd.prog 66 #[.pointer (some ⟨b, 0, none⟩), .int .i64 least] w (PostN b w s k g o (numb s.data.toList k least)) := by
  obtain ⟨R, hR⟩ : ∃ R, R = numb s.data.toList k least := ⟨_, rfl⟩
  rw [← hR]
  unfold numb at hR
  have H := Lib.hid h
  obtain ⟨c0, c1, _, _, f1, _, _⟩ := h
  by_cases a : k < s.size
  · rw [get_at s k a] at hR
    dsimp only at hR
    obtain ⟨y, hy⟩ : ∃ y : Int, y = (s[k].toNat : Int) := ⟨_, rfl⟩
    have hyb : 0 ≤ y ∧ y < 256 := by rw [hy]; have := s[k].toNat_lt; omega
    obtain ⟨hy0, hy1⟩ := hyb
    rw [← hy] at hR
    have e1 : ((k : Int) == (s.size : Int)) = false := by simp; omega
    have e1' : (k == s.size) = false := by simp; omega
    by_cases h1 : y - 48 < least
    · rw [if_pos (.inl h1)] at hR
      have HR := Lib.hid hR
      clear hR
      go_enter Tryd.func66, Tryd.ntmps66
      go_wp2
      go_quiet (fail)
      go_wp2
      go_quiet (fail)
      go_wp2
      go_ret2
      exact postn_bad HR.out rfl (H.out.drews _) (grown_drews _ _ _)
    · by_cases h2 : 8 < y - 48
      · rw [if_pos (.inr h2)] at hR
        have HR := Lib.hid hR
        clear hR
        go_enter Tryd.func66, Tryd.ntmps66
        go_wp2
        go_quiet (fail)
        go_wp2
        go_quiet (fail)
        go_wp2
        go_ret2
        exact postn_bad HR.out rfl (H.out.drews _) (grown_drews _ _ _)
      · rw [if_neg (by omega)] at hR
        have HR := Lib.hid hR
        clear hR
        go_enter Tryd.func66, Tryd.ntmps66
        go_wp2
        go_quiet (fail)
        go_wp2
        go_quiet (fail)
        go_wp2
        go_ret2
        exact postn_ok HR.out (by rw [hy]; rfl) ((H.out.drews _).at_ (k + 1)) (grown_trans (grown_drews _ _ _) (grown_set b 1 _ _))
  · rw [get_end s k a] at hR
    have HR := Lib.hid hR
    obtain rfl : k = s.size := by omega
    clear hR
    go_enter Tryd.func66, Tryd.ntmps66
    go_wp2
    go_quiet (fail)
    go_wp2
    go_ret2
    exact postn_bad HR.out rfl (H.out.drews _) (grown_drews _ _ _)
end Go.Proofs.YtccheljfbjllhaaDoor
