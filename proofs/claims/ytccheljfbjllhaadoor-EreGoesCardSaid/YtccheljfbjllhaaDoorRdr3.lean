/- The code's reader: the bounds of a repeat. -/
import Derived.Test.YtccheljfbjllhaaDoorRdr2
import Derived.Deep.DeepMust
namespace Go.Proofs.YtccheljfbjllhaaDoor
open Go Go.RowKit

theorem grown_refl (w : World) (b : Nat) : w.grownBy w (some b) := grown_drews b 0 w
/-- What skipping a byte does, from a place to a place. -/
abbrev SkipT (c : UInt8) (b : Nat) (s : ByteArray) (g o k k' : Nat) (v : Bool) : Prop := ∀ w, Rdr b w s k g o →
  Calls Tryd.prog 36 #[.pointer (some ⟨b, 0, none⟩), .string ⟨#[c]⟩] w fun e w' => e = .returned (.bool v) ∧ Rdr b w' s k' g o ∧ w.grownBy w' (some b)
theorem skip_yes {c : UInt8} (hl : Looks ⟨#[c]⟩ [c]) (b : Nat) {s : ByteArray} (g o : Nat) {k k' : Nat} (hs : s.size ≤ 1000000) (h : s.data.toList[k]? = some c) (hk : k' = k + 1) : SkipT c b s g o k k' true := by
  intro w hr
  have := skips_any ⟨#[c]⟩ [c] hl b w s k g o hr hs
  rw [sees_one, decide_eq_true h, if_pos rfl] at this
  subst hk; exact this
theorem skip_no {c : UInt8} (hl : Looks ⟨#[c]⟩ [c]) (b : Nat) {s : ByteArray} (g o : Nat) {k : Nat} (hs : s.size ≤ 1000000) (h : s.data.toList[k]? ≠ some c) : SkipT c b s g o k k false := by
  intro w hr
  have := skips_any ⟨#[c]⟩ [c] hl b w s k g o hr hs
  rw [sees_one, decide_eq_false h, if_neg (by simp)] at this
  exact this
/-- What looking does. -/
abbrev SeeT (set : ByteArray) (b : Nat) (s : ByteArray) (g o k : Nat) (v : Bool) : Prop := ∀ w, Rdr b w s k g o →
  Calls Tryd.prog 49 #[.pointer (some ⟨b, 0, none⟩), .string set] w fun e w' => e = .returned (.bool v) ∧ ∃ m, w' = w.drewN m
theorem see_one {c : UInt8} (hl : Looks ⟨#[c]⟩ [c]) (b : Nat) {s : ByteArray} (g o : Nat) {k : Nat} {v : Bool} (h : decide (s.data.toList[k]? = some c) = v) : SeeT ⟨#[c]⟩ b s g o k v := by
  intro w hr
  have := sees_any ⟨#[c]⟩ [c] hl b w s k g o hr
  rw [sees_one, h] at this; exact this
/-- The same, not in a quiet region. -/
abbrev SeeG (set : ByteArray) (b : Nat) (s : ByteArray) (g o k : Nat) (v : Bool) : Prop := ∀ w, Rdr b w s k g o →
  Calls Tryd.prog 49 #[.pointer (some ⟨b, 0, none⟩), .string set] w fun e w' => e = .returned (.bool v) ∧ Rdr b w' s k g o ∧ w.grownBy w' (some b)
theorem see_g {set : ByteArray} {b : Nat} {s : ByteArray} {g o k : Nat} {v : Bool} (h : SeeT set b s g o k v) : SeeG set b s g o k v := fun w hr =>
  (h w hr).mono fun _ _ ⟨h1, m, h2⟩ => ⟨h1, by subst h2; exact hr.drews m, by subst h2; exact grown_drews b m w⟩
/-- What a number does. -/
abbrev NumT (least : Int) (b : Nat) (s : ByteArray) (g o k : Nat) (R : Option Int) : Prop := ∀ w, Rdr b w s k g o →
  Calls Tryd.prog 66 #[.pointer (some ⟨b, 0, none⟩), .int .i64 least] w (PostN b w s k g o R)
theorem numT (least : Int) (h0 : 0 ≤ least) (h8 : least ≤ 8) (b : Nat) {s : ByteArray} (g o : Nat) {k : Nat} (hs : s.size ≤ 1000000) (hk : k ≤ s.size) {R : Option Int} (h : numb s.data.toList k least = R) : NumT least b s g o k R := by
  intro w hr; rw [← h]; exact number_any least h0 h8 b w s k g o hr hs hk
abbrev NumBad (least : Int) (b : Nat) (s : ByteArray) (g o k : Nat) : Prop := ∀ w, Rdr b w s k g o →
  Calls Tryd.prog 66 #[.pointer (some ⟨b, 0, none⟩), .int .i64 least] w fun e w' => e = .returned (.tuple #[.int .i64 0, .int .i64 1]) ∧ Rdr b w' s k g o ∧ w.grownBy w' (some b)
abbrev NumOk (least : Int) (b : Nat) (s : ByteArray) (g o k k' : Nat) (n : Int) : Prop := ∀ w, Rdr b w s k g o →
  Calls Tryd.prog 66 #[.pointer (some ⟨b, 0, none⟩), .int .i64 least] w fun e w' => e = .returned (.tuple #[.int .i64 n, .int .i64 0]) ∧ Rdr b w' s k' g o ∧ w.grownBy w' (some b)
theorem num_bad (least : Int) (h0 : 0 ≤ least) (h8 : least ≤ 8) (b : Nat) {s : ByteArray} (g o : Nat) {k : Nat} (hs : s.size ≤ 1000000) (hk : k ≤ s.size) (h : numb s.data.toList k least = none) : NumBad least b s g o k := fun w hr =>
  (numT least h0 h8 b g o hs hk h w hr).mono fun _ _ ⟨h1, h2, h3⟩ => ⟨h2, h3, h1⟩
theorem num_ok (least : Int) (h0 : 0 ≤ least) (h8 : least ≤ 8) (b : Nat) {s : ByteArray} (g o : Nat) {k k' : Nat} (hs : s.size ≤ 1000000) (hk : k ≤ s.size) {n : Int} (h : numb s.data.toList k least = some n) (hk' : k' = k + 1) : NumOk least b s g o k k' n := fun w hr =>
  (numT least h0 h8 b g o hs hk h w hr).mono fun _ _ ⟨h1, h2, h3⟩ => ⟨h2, by subst hk'; exact h3, h1⟩
def PostB (b : Nat) (w : World) (s : ByteArray) (g o : Nat) (R : Res (Int × Int)) (e : Ending) (w' : World) : Prop := w.grownBy w' (some b) ∧ match R with
  | .bad q => e = .returned (.tuple #[.int .i64 0, .int .i64 0, .int .i64 1]) ∧ Rdr b w' s q g o
  | .ok x q => e = .returned (.tuple #[.int .i64 x.1, .int .i64 x.2, .int .i64 0]) ∧ Rdr b w' s q g o
theorem postb_bad {b : Nat} {w w' : World} {s : ByteArray} {g o q : Nat} {R : Res (Int × Int)} {v : Value} (h : R = .bad q) (hv : v = .tuple #[.int .i64 0, .int .i64 0, .int .i64 1]) (hr : Rdr b w' s q g o) (hg : w.grownBy w' (some b)) : PostB b w s g o R (.returned v) w' := by subst h hv; exact ⟨hg, rfl, hr⟩
theorem postb_ok {b : Nat} {w w' : World} {s : ByteArray} {g o q : Nat} {lo hi : Int} {R : Res (Int × Int)} {v : Value} (h : R = .ok (lo, hi) q) (hv : v = .tuple #[.int .i64 lo, .int .i64 hi, .int .i64 0]) (hr : Rdr b w' s q g o) (hg : w.grownBy w' (some b)) : PostB b w s g o R (.returned v) w' := by subst h hv; exact ⟨hg, rfl, hr⟩
/- One step: a call that goes on from the reader's world, and leaves it somewhere. -/
macro "rdr_call " n:num ", " K:ident ", " HR:ident ", " HG:ident : tactic => `(tactic|
  (go_at_call $n; go_must ((with_reducible refine (Hid.out $K _ (Hid.out $HR)).mono ?_); rintro _ wv ⟨he, hr1, hg1⟩; subst he; have hg2 := grown_trans (Hid.out $HG) hg1; clear $HR; have $HR := Lib.hid hr1; clear $HG; have $HG := Lib.hid hg2; obtain ⟨c0, c1, _, _, f1, _, _⟩ := hr1; clear hg1 hg2)))
/-- The same, where a call of another's argument isn't meant. -/
macro "rdr_soft " n:num ", " K:ident ", " HR:ident ", " HG:ident : tactic => `(tactic|
  (go_at_call $n; (with_reducible refine (Hid.out $K _ (Hid.out $HR)).mono ?_); go_must (rintro _ wv ⟨he, hr1, hg1⟩; subst he; have hg2 := grown_trans (Hid.out $HG) hg1; clear $HR; have $HR := Lib.hid hr1; clear $HG; have $HG := Lib.hid hg2; obtain ⟨c0, c1, _, _, f1, _, _⟩ := hr1; clear hg1 hg2)))
set_option maxHeartbeats 4000000 in
theorem bounds_any (b : Nat) (w : World) (s : ByteArray) (k g o : Nat) (h : Rdr b w s k g o) (hs : s.size ≤ 1000000) (hk : k ≤ s.size) :
    Calls Tryd.prog 57 #[.pointer (some ⟨b, 0, none⟩)] w (PostB b w s g o (bnds s.data.toList k)) := by
  obtain ⟨R, hR⟩ : ∃ R, R = bnds s.data.toList k := ⟨_, rfl⟩
  rw [← hR]
  unfold bnds at hR
  have HR := Lib.hid h
  have HG := Lib.hid (grown_refl w b)
  clear h
  rcases h1 : numb s.data.toList k 0 with _ | lo
  · have KA := Lib.hid (num_bad 0 (by omega) (by omega) b g o hs hk h1)
    rw [h1] at hR
    have HX := Lib.hid hR
    clear h1 hR
    go_enter Tryd.func57, Tryd.ntmps57
    go_wp2_with (rdr_call 66, KA, HR, HG)
    go_ret3
    exact postb_bad HX.out rfl HR.out HG.out
  · obtain ⟨k1, hk1⟩ : ∃ k1, k1 = k + 1 := ⟨_, rfl⟩
    have KA := Lib.hid (num_ok 0 (by omega) (by omega) b g o hs hk h1 hk1)
    obtain ⟨hklt, hlo0, hlo8, _⟩ := numb_lt h1
    have hsz : s.data.toList.length = s.size := rfl
    rw [h1] at hR
    dsimp only at hR
    rw [← hk1] at hR
    by_cases h2 : s.data.toList[k1]? = some 44
    · have h2lt := lt_of_get h2
      obtain ⟨k2, hk2⟩ : ∃ k2, k2 = k1 + 1 := ⟨_, rfl⟩
      obtain ⟨k3, hk3⟩ : ∃ k3, k3 = k2 + 1 := ⟨_, rfl⟩
      have e2 : k + 2 = k2 := by omega
      have e3 : k + 3 = k3 := by omega
      have KB := Lib.hid (skip_yes looks44 b g o hs h2 hk2)
      rw [if_pos h2, e2, e3] at hR
      by_cases h3 : s.data.toList[k2]? = some 125
      · have KC := Lib.hid (see_g (see_one looks125 b g o (decide_eq_true h3)))
        have KD := Lib.hid (skip_yes looks125 b g o hs h3 hk3)
        rw [if_pos h3] at hR
        have HX := Lib.hid hR
        clear h1 hR h2 h3 h2lt hklt hsz e2 e3 hk1 hk2 hk3
        go_enter Tryd.func57, Tryd.ntmps57
        go_wp2_with (first | rdr_call 66, KA, HR, HG | rdr_call 36, KB, HR, HG)
        go_wp2_with (first | rdr_call 49, KC, HR, HG | rdr_call 36, KD, HR, HG)
        go_ret3
        exact postb_ok HX.out rfl HR.out HG.out
      · have KC := Lib.hid (see_g (see_one looks125 b g o (decide_eq_false h3)))
        rw [if_neg h3] at hR
        rcases h4 : numb s.data.toList k2 lo with _ | hi
        · have KD := Lib.hid (num_bad lo hlo0 hlo8 b g o hs (by omega) h4)
          rw [h4] at hR
          have HX := Lib.hid hR
          clear h1 hR h2 h3 h4 h2lt hklt hsz e2 e3 hk1 hk2 hk3
          go_enter Tryd.func57, Tryd.ntmps57
          go_wp2_with (first | rdr_call 66, KA, HR, HG | rdr_call 36, KB, HR, HG)
          go_wp2_with (first | rdr_call 49, KC, HR, HG | rdr_call 66, KD, HR, HG)
          go_ret3
          exact postb_bad HX.out rfl HR.out HG.out
        · have KD := Lib.hid (num_ok lo hlo0 hlo8 b g o hs (by omega) h4 hk3)
          rw [h4] at hR
          obtain ⟨h4lt, hhi0, hhi8, _⟩ := numb_lt h4
          dsimp only at hR
          unfold closeB at hR
          obtain ⟨k4, hk4⟩ : ∃ k4, k4 = k3 + 1 := ⟨_, rfl⟩
          rw [← hk4] at hR
          by_cases h5 : s.data.toList[k3]? = some 125
          · have KE := Lib.hid (skip_yes looks125 b g o hs h5 hk4)
            rw [if_pos h5] at hR
            have HX := Lib.hid hR
            clear h1 hR h2 h3 h4 h5 h2lt hklt h4lt hsz e2 e3 hk1 hk2 hk3 hk4
            go_enter Tryd.func57, Tryd.ntmps57
            go_wp2_with (first | rdr_call 66, KA, HR, HG | rdr_call 36, KB, HR, HG)
            go_wp2_with (first | rdr_call 49, KC, HR, HG | rdr_call 66, KD, HR, HG | rdr_call 36, KE, HR, HG)
            go_ret3
            exact postb_ok HX.out rfl HR.out HG.out
          · have KE := Lib.hid (skip_no looks125 b g o hs h5)
            rw [if_neg h5] at hR
            have HX := Lib.hid hR
            clear h1 hR h2 h3 h4 h5 h2lt hklt h4lt hsz e2 e3 hk1 hk2 hk3 hk4
            go_enter Tryd.func57, Tryd.ntmps57
            go_wp2_with (first | rdr_call 66, KA, HR, HG | rdr_call 36, KB, HR, HG)
            go_wp2_with (first | rdr_call 49, KC, HR, HG | rdr_call 66, KD, HR, HG | rdr_call 36, KE, HR, HG)
            go_ret3
            exact postb_bad HX.out rfl HR.out HG.out
    · have KB := Lib.hid (skip_no looks44 b g o hs h2)
      rw [if_neg h2] at hR
      unfold closeB at hR
      obtain ⟨k2, hk2⟩ : ∃ k2, k2 = k1 + 1 := ⟨_, rfl⟩
      rw [← hk2] at hR
      by_cases h5 : s.data.toList[k1]? = some 125
      · have KE := Lib.hid (skip_yes looks125 b g o hs h5 hk2)
        rw [if_pos h5] at hR
        have HX := Lib.hid hR
        clear h1 hR h2 h5 hklt hsz hk1 hk2
        go_enter Tryd.func57, Tryd.ntmps57
        go_wp2_with (first | rdr_call 66, KA, HR, HG | rdr_soft 36, KB, HR, HG | rdr_call 36, KE, HR, HG)
        go_ret3
        exact postb_ok HX.out rfl HR.out HG.out
      · have KE := Lib.hid (skip_no looks125 b g o hs h5)
        rw [if_neg h5] at hR
        have HX := Lib.hid hR
        clear h1 hR h2 h5 hklt hsz hk1 hk2
        go_enter Tryd.func57, Tryd.ntmps57
        go_wp2_with (first | rdr_call 66, KA, HR, HG | rdr_soft 36, KB, HR, HG | rdr_call 36, KE, HR, HG)
        go_ret3
        exact postb_bad HX.out rfl HR.out HG.out
end Go.Proofs.YtccheljfbjllhaaDoor
