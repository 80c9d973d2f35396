/- The document's own reader: bounds, a set. -/
import Derived.Test.YtccheljfbjllhaaDoorD1
namespace Go.Proofs.YtccheljfbjllhaaDoor
open Go Go.RowKit

theorem Rdr.incz {b : Nat} {w : World} {s : ByteArray} {k g o : Nat} (h : Rdr b w s k g o) (z : Int) (hz : z = (k : Int) + 1) : Rdr b (w.setCell ⟨b, 1, none⟩ (.int .i64 z)) s (k + 1) g o := by subst hz; exact h.at_ (k + 1)
abbrev IsT (b : Nat) (s : ByteArray) (g o k : Nat) (y : Int) (v : Bool) : Prop := ∀ w, Rdr b w s k g o → Calls Tryd.prog 39 #[.pointer (some ⟨b, 0, none⟩), .int .u8 y] w fun e w' => e = .returned (.bool v) ∧ Rdr b w' s k g o ∧ w.grownBy w' (some b)
theorem is_t (c : UInt8) (y : Int) (hy : y = c.toNat) (b : Nat) (s : ByteArray) (k g o : Nat) (ho : o ≤ 100) (v : Bool) (h : isB s k o c = v) : IsT b s g o k y v := fun w hr => by
  have := is_any c y hy b w s k g o hr ho
  rw [h] at this
  exact this.mono fun e w' ⟨a, m, hm⟩ => ⟨a, by rw [hm]; exact hr.drews m, by rw [hm]; exact grown_drews _ m _⟩
theorem is_bad (s : ByteArray) (k : Nat) {o : Nat} (c : UInt8) (h : o ≠ 0) : isB s k o c = false := by unfold isB; rw [decide_eq_false h]; rfl
theorem is_yes {s : ByteArray} {k : Nat} {c : UInt8} (h : s.data.toList[k]? = some c) : isB s k 0 c = true := by unfold isB; rw [decide_eq_true h]; rfl
theorem is_no {s : ByteArray} {k : Nat} {c : UInt8} (h : s.data.toList[k]? ≠ some c) : isB s k 0 c = false := by unfold isB; rw [decide_eq_false h, Bool.and_false]
abbrev FailT (b : Nat) (s : ByteArray) (k g o o' : Nat) (z : Int) : Prop := ∀ w, Rdr b w s k g o → Calls Tryd.prog 25 #[.pointer (some ⟨b, 0, none⟩), .int .i64 z] w fun e w' => e = .returned (.tuple #[]) ∧ Rdr b w' s k g o' ∧ w.grownBy w' (some b)
theorem fail_new (er : Nat) (z : Int) (hz : z = er) (b : Nat) (s : ByteArray) (k g : Nat) : FailT b s k g 0 er z := fun w h => by
  have := fail_any er z hz b w s k g 0 h (by omega)
  rw [if_pos rfl] at this; exact this
theorem fail_old (er : Nat) (z : Int) (hz : z = er) (b : Nat) (s : ByteArray) (k g : Nat) {o : Nat} (h0 : o ≠ 0) (h1 : o ≤ 100) : FailT b s k g o o z := fun w h => by
  have := fail_any er z hz b w s k g o h h1
  rw [if_neg h0] at this; exact this
abbrev DigT (b : Nat) (s : ByteArray) (k g : Nat) (least : Int) (r : Int) (k' o' : Nat) : Prop := ∀ w, Rdr b w s k g 0 → Calls Tryd.prog 70 #[.pointer (some ⟨b, 0, none⟩), .int .i64 least] w fun e w' => e = .returned (.int .i64 r) ∧ Rdr b w' s k' g o' ∧ w.grownBy w' (some b)
theorem dig_no (b : Nat) {s : ByteArray} {k : Nat} (g : Nat) {least : Int} (h : numb s.data.toList k least = none) (h0 : 0 ≤ least) (h8 : least ≤ 8) (hs : s.size ≤ 1000000) (hk : k ≤ s.size) : DigT b s k g least (-1) k 1 := fun w hr => by
  have := digit_any least h0 h8 b w s k g hr hs hk
  rw [h] at this
  exact this.mono fun e w' ⟨a, c, d⟩ => ⟨c, d, a⟩
theorem dig_yes (b : Nat) {s : ByteArray} {k : Nat} (g : Nat) {least n : Int} (h : numb s.data.toList k least = some n) (h0 : 0 ≤ least) (h8 : least ≤ 8) (hs : s.size ≤ 1000000) (hk : k ≤ s.size) : DigT b s k g least n (k + 1) 0 := fun w hr => by
  have := digit_any least h0 h8 b w s k g hr hs hk
  rw [h] at this
  exact this.mono fun e w' ⟨a, c, d⟩ => ⟨c, d, a⟩
def PostZ (b : Nat) (w : World) (s : ByteArray) (g : Nat) (R : Res (Int × Int)) (e : Ending) (w' : World) : Prop := w.grownBy w' (some b) ∧ match R with
  | .bad q => e = .returned (.tuple #[.int .i64 0, .int .i64 0]) ∧ Rdr b w' s q g 1
  | .ok p q => e = .returned (.tuple #[.int .i64 p.1, .int .i64 p.2]) ∧ Rdr b w' s q g 0
theorem postz_bad {b : Nat} {w w' : World} {s : ByteArray} {g q : Nat} {R : Res (Int × Int)} (h : R = .bad q) (hr : Rdr b w' s q g 1) (hg : w.grownBy w' (some b)) : PostZ b w s g R (.returned (.tuple #[.int .i64 0, .int .i64 0])) w' := by subst h; exact ⟨hg, rfl, hr⟩
theorem postz_ok {b : Nat} {w w' : World} {s : ByteArray} {g q : Nat} {lo hi : Int} {R : Res (Int × Int)} (h : R = .ok (lo, hi) q) (hr : Rdr b w' s q g 0) (hg : w.grownBy w' (some b)) : PostZ b w s g R (.returned (.tuple #[.int .i64 lo, .int .i64 hi])) w' := by subst h; exact ⟨hg, rfl, hr⟩
set_option maxRecDepth 100000 in
set_option maxHeartbeats 4000000 in
theorem braces_any (b : Nat) (w : World) (s : ByteArray) (k g : Nat) (h : Rdr b w s k g 0) (hs : s.size ≤ 1000000) (hk : k ≤ s.size) :
    Calls Tryd.prog 59 #[.pointer (some ⟨b, 0, none⟩)] w (PostZ b w s g (bnds s.data.toList k)) := by
  obtain ⟨R, hR⟩ : ∃ R, R = bnds s.data.toList k := ⟨_, rfl⟩
  rw [← hR]
  unfold bnds at hR
  have hsz : s.data.toList.length = s.size := rfl
  have HR := Lib.hid h
  have HG : Hid (w.grownBy w (some b)) := Lib.hid (grown_refl w _)
  obtain ⟨c0, c1, c2, c3, f1, f2, f3⟩ := h
  rcases h1 : numb s.data.toList k 0 with _ | lo
  · rw [h1] at hR
    have HX := Lib.hid hR
    have KA := Lib.hid (dig_no b g h1 (by omega) (by omega) hs hk)
    have KB := Lib.hid (is_t 44 44 rfl b s k g 1 (by omega) false (is_bad s k 44 (by omega)))
    have KC := Lib.hid (is_t 125 125 rfl b s k g 1 (by omega) false (is_bad s k 125 (by omega)))
    have KF := Lib.hid (fail_old 1 1 rfl b s k g (o := 1) (by omega) (by omega))
    clear hR h1 hsz
    go_enter Tryd.func59, Tryd.ntmps59
    go_wp2_with (first
      | (go_at_call 70; (with_reducible refine (Hid.out KA _ (Hid.out HR)).mono ?_); go_must (rintro _ wv ⟨he, hr1, hg1⟩; subst he; have hg2 := grown_trans (Hid.out HG) hg1; clear HR; have HR := Lib.hid hr1; clear HG; have HG := Lib.hid hg2; obtain ⟨c0, c1, c2, c3, f1, f2, f3⟩ := hr1; clear hg1 hg2))
      | (go_at_call 39; (with_reducible refine (Hid.out KB _ (Hid.out HR)).mono ?_); go_must (rintro _ wv ⟨he, hr1, hg1⟩; subst he; have hg2 := grown_trans (Hid.out HG) hg1; clear HR; have HR := Lib.hid hr1; clear HG; have HG := Lib.hid hg2; obtain ⟨c0, c1, c2, c3, f1, f2, f3⟩ := hr1; clear hg1 hg2))
      | (go_at_call 39; (with_reducible refine (Hid.out KC _ (Hid.out HR)).mono ?_); go_must (rintro _ wv ⟨he, hr1, hg1⟩; subst he; have hg2 := grown_trans (Hid.out HG) hg1; clear HR; have HR := Lib.hid hr1; clear HG; have HG := Lib.hid hg2; obtain ⟨c0, c1, c2, c3, f1, f2, f3⟩ := hr1; clear hg1 hg2))
      | (go_at_call 25; (with_reducible refine (Hid.out KF _ (Hid.out HR)).mono ?_); go_must (rintro _ wv ⟨he, hr1, hg1⟩; subst he; have hg2 := grown_trans (Hid.out HG) hg1; clear HR; have HR := Lib.hid hr1; clear HG; have HG := Lib.hid hg2; obtain ⟨c0, c1, c2, c3, f1, f2, f3⟩ := hr1; clear hg1 hg2)))
    go_ret2
    exact postz_bad HX.out HR.out HG.out
  · rw [h1] at hR
    dsimp only at hR
    obtain ⟨k1, l0, l8, _⟩ := numb_lt h1
    rw [hsz] at k1
    have KA := Lib.hid (dig_yes b g h1 (by omega) (by omega) hs hk)
    have hkb : (k : Int) ≤ 1000000 := by omega
    by_cases h2 : s.data.toList[k + 1]? = some 44
    · rw [if_pos h2] at hR
      have k2 := lt_of_get h2
      rw [hsz] at k2
      have KB := Lib.hid (is_t 44 44 rfl b s (k + 1) g 0 (by omega) true (is_yes h2))
      by_cases h3 : s.data.toList[k + 2]? = some 125
      · rw [if_pos h3] at hR
        have HX := Lib.hid hR
        have KC := Lib.hid (is_t 125 125 rfl b s (k + 2) g 0 (by omega) true (is_yes h3))
        clear hR h1 h2 h3 hsz
        go_enter Tryd.func59, Tryd.ntmps59
        go_wp2_with (first
          | (go_at_call 70; (with_reducible refine (Hid.out KA _ (Hid.out HR)).mono ?_); go_must (rintro _ wv ⟨he, hr1, hg1⟩; subst he; have hg2 := grown_trans (Hid.out HG) hg1; clear HR; have HR := Lib.hid hr1; clear HG; have HG := Lib.hid hg2; obtain ⟨c0, c1, c2, c3, f1, f2, f3⟩ := hr1; clear hg1 hg2))
          | (go_at_call 39; (with_reducible refine (Hid.out KB _ (Hid.out HR)).mono ?_); go_must (rintro _ wv ⟨he, hr1, hg1⟩; subst he; have hg2 := grown_trans (Hid.out HG) hg1; clear HR; have HR := Lib.hid hr1; clear HG; have HG := Lib.hid hg2; obtain ⟨c0, c1, c2, c3, f1, f2, f3⟩ := hr1; clear hg1 hg2))
          | (go_at_call 39; (with_reducible refine (Hid.out KC _ (Rdr.incz (Hid.out HR) _ ?_)).mono ?_); (omega); go_must (rintro _ wv ⟨he, hr1, hg1⟩; subst he; have hg2 := grown_trans (grown_trans (Hid.out HG) (grown_set b 1 _ _)) hg1; clear HR; have HR := Lib.hid hr1; clear HG; have HG := Lib.hid hg2; obtain ⟨c0, c1, c2, c3, f1, f2, f3⟩ := hr1; clear hg1 hg2))
          | (go_at_call 39; (with_reducible refine (Hid.out KC _ (Hid.out HR)).mono ?_); go_must (rintro _ wv ⟨he, hr1, hg1⟩; subst he; have hg2 := grown_trans (Hid.out HG) hg1; clear HR; have HR := Lib.hid hr1; clear HG; have HG := Lib.hid hg2; obtain ⟨c0, c1, c2, c3, f1, f2, f3⟩ := hr1; clear hg1 hg2)))
        go_ret2
        exact postz_ok HX.out (Rdr.incz HR.out _ (by omega)) (grown_trans HG.out (grown_set b 1 _ _))
      · rw [if_neg h3] at hR
        have KC := Lib.hid (is_t 125 125 rfl b s (k + 2) g 0 (by omega) false (is_no h3))
        rcases h4 : numb s.data.toList (k + 2) lo with _ | hi
        · rw [h4] at hR
          have HX := Lib.hid hR
          have KD := Lib.hid (dig_no b g h4 l0 l8 hs (by omega))
          have KE := Lib.hid (is_t 125 125 rfl b s (k + 2) g 1 (by omega) false (is_bad s (k + 2) 125 (by omega)))
          have KF := Lib.hid (fail_old 1 1 rfl b s (k + 2) g (o := 1) (by omega) (by omega))
          clear hR h1 h2 h3 h4 hsz
          go_enter Tryd.func59, Tryd.ntmps59
          go_wp2_with (first
            | (go_at_call 70; (with_reducible refine (Hid.out KA _ (Hid.out HR)).mono ?_); go_must (rintro _ wv ⟨he, hr1, hg1⟩; subst he; have hg2 := grown_trans (Hid.out HG) hg1; clear HR; have HR := Lib.hid hr1; clear HG; have HG := Lib.hid hg2; obtain ⟨c0, c1, c2, c3, f1, f2, f3⟩ := hr1; clear hg1 hg2))
            | (go_at_call 39; (with_reducible refine (Hid.out KB _ (Hid.out HR)).mono ?_); go_must (rintro _ wv ⟨he, hr1, hg1⟩; subst he; have hg2 := grown_trans (Hid.out HG) hg1; clear HR; have HR := Lib.hid hr1; clear HG; have HG := Lib.hid hg2; obtain ⟨c0, c1, c2, c3, f1, f2, f3⟩ := hr1; clear hg1 hg2))
            | (go_at_call 39; (with_reducible refine (Hid.out KC _ (Rdr.incz (Hid.out HR) _ ?_)).mono ?_); (omega); go_must (rintro _ wv ⟨he, hr1, hg1⟩; subst he; have hg2 := grown_trans (grown_trans (Hid.out HG) (grown_set b 1 _ _)) hg1; clear HR; have HR := Lib.hid hr1; clear HG; have HG := Lib.hid hg2; obtain ⟨c0, c1, c2, c3, f1, f2, f3⟩ := hr1; clear hg1 hg2))
            | (go_at_call 70; (with_reducible refine (Hid.out KD _ (Hid.out HR)).mono ?_); go_must (rintro _ wv ⟨he, hr1, hg1⟩; subst he; have hg2 := grown_trans (Hid.out HG) hg1; clear HR; have HR := Lib.hid hr1; clear HG; have HG := Lib.hid hg2; obtain ⟨c0, c1, c2, c3, f1, f2, f3⟩ := hr1; clear hg1 hg2))
            | (go_at_call 39; (with_reducible refine (Hid.out KE _ (Hid.out HR)).mono ?_); go_must (rintro _ wv ⟨he, hr1, hg1⟩; subst he; have hg2 := grown_trans (Hid.out HG) hg1; clear HR; have HR := Lib.hid hr1; clear HG; have HG := Lib.hid hg2; obtain ⟨c0, c1, c2, c3, f1, f2, f3⟩ := hr1; clear hg1 hg2))
            | (go_at_call 25; (with_reducible refine (Hid.out KF _ (Hid.out HR)).mono ?_); go_must (rintro _ wv ⟨he, hr1, hg1⟩; subst he; have hg2 := grown_trans (Hid.out HG) hg1; clear HR; have HR := Lib.hid hr1; clear HG; have HG := Lib.hid hg2; obtain ⟨c0, c1, c2, c3, f1, f2, f3⟩ := hr1; clear hg1 hg2)))
          go_ret2
          exact postz_bad HX.out HR.out HG.out
        · rw [h4] at hR
          dsimp only at hR
          have k3 := (numb_lt h4).1
          rw [hsz] at k3
          have KD := Lib.hid (dig_yes b g h4 l0 l8 hs (by omega))
          unfold closeB at hR
          by_cases h5 : s.data.toList[k + 3]? = some 125
          · rw [if_pos h5] at hR
            have HX := Lib.hid hR
            have KE := Lib.hid (is_t 125 125 rfl b s (k + 3) g 0 (by omega) true (is_yes h5))
            clear hR h1 h2 h3 h4 h5 hsz
            go_enter Tryd.func59, Tryd.ntmps59
            go_wp2_with (first
              | (go_at_call 70; (with_reducible refine (Hid.out KA _ (Hid.out HR)).mono ?_); go_must (rintro _ wv ⟨he, hr1, hg1⟩; subst he; have hg2 := grown_trans (Hid.out HG) hg1; clear HR; have HR := Lib.hid hr1; clear HG; have HG := Lib.hid hg2; obtain ⟨c0, c1, c2, c3, f1, f2, f3⟩ := hr1; clear hg1 hg2))
              | (go_at_call 39; (with_reducible refine (Hid.out KB _ (Hid.out HR)).mono ?_); go_must (rintro _ wv ⟨he, hr1, hg1⟩; subst he; have hg2 := grown_trans (Hid.out HG) hg1; clear HR; have HR := Lib.hid hr1; clear HG; have HG := Lib.hid hg2; obtain ⟨c0, c1, c2, c3, f1, f2, f3⟩ := hr1; clear hg1 hg2))
              | (go_at_call 39; (with_reducible refine (Hid.out KC _ (Rdr.incz (Hid.out HR) _ ?_)).mono ?_); (omega); go_must (rintro _ wv ⟨he, hr1, hg1⟩; subst he; have hg2 := grown_trans (grown_trans (Hid.out HG) (grown_set b 1 _ _)) hg1; clear HR; have HR := Lib.hid hr1; clear HG; have HG := Lib.hid hg2; obtain ⟨c0, c1, c2, c3, f1, f2, f3⟩ := hr1; clear hg1 hg2))
              | (go_at_call 70; (with_reducible refine (Hid.out KD _ (Hid.out HR)).mono ?_); go_must (rintro _ wv ⟨he, hr1, hg1⟩; subst he; have hg2 := grown_trans (Hid.out HG) hg1; clear HR; have HR := Lib.hid hr1; clear HG; have HG := Lib.hid hg2; obtain ⟨c0, c1, c2, c3, f1, f2, f3⟩ := hr1; clear hg1 hg2))
              | (go_at_call 39; (with_reducible refine (Hid.out KE _ (Hid.out HR)).mono ?_); go_must (rintro _ wv ⟨he, hr1, hg1⟩; subst he; have hg2 := grown_trans (Hid.out HG) hg1; clear HR; have HR := Lib.hid hr1; clear HG; have HG := Lib.hid hg2; obtain ⟨c0, c1, c2, c3, f1, f2, f3⟩ := hr1; clear hg1 hg2)))
            go_ret2
            exact postz_ok HX.out (Rdr.incz HR.out _ (by omega)) (grown_trans HG.out (grown_set b 1 _ _))
          · rw [if_neg h5] at hR
            have HX := Lib.hid hR
            have KE := Lib.hid (is_t 125 125 rfl b s (k + 3) g 0 (by omega) false (is_no h5))
            have KF := Lib.hid (fail_new 1 1 rfl b s (k + 3) g)
            clear hR h1 h2 h3 h4 h5 hsz
            go_enter Tryd.func59, Tryd.ntmps59
            go_wp2_with (first
              | (go_at_call 70; (with_reducible refine (Hid.out KA _ (Hid.out HR)).mono ?_); go_must (rintro _ wv ⟨he, hr1, hg1⟩; subst he; have hg2 := grown_trans (Hid.out HG) hg1; clear HR; have HR := Lib.hid hr1; clear HG; have HG := Lib.hid hg2; obtain ⟨c0, c1, c2, c3, f1, f2, f3⟩ := hr1; clear hg1 hg2))
              | (go_at_call 39; (with_reducible refine (Hid.out KB _ (Hid.out HR)).mono ?_); go_must (rintro _ wv ⟨he, hr1, hg1⟩; subst he; have hg2 := grown_trans (Hid.out HG) hg1; clear HR; have HR := Lib.hid hr1; clear HG; have HG := Lib.hid hg2; obtain ⟨c0, c1, c2, c3, f1, f2, f3⟩ := hr1; clear hg1 hg2))
              | (go_at_call 39; (with_reducible refine (Hid.out KC _ (Rdr.incz (Hid.out HR) _ ?_)).mono ?_); (omega); go_must (rintro _ wv ⟨he, hr1, hg1⟩; subst he; have hg2 := grown_trans (grown_trans (Hid.out HG) (grown_set b 1 _ _)) hg1; clear HR; have HR := Lib.hid hr1; clear HG; have HG := Lib.hid hg2; obtain ⟨c0, c1, c2, c3, f1, f2, f3⟩ := hr1; clear hg1 hg2))
              | (go_at_call 70; (with_reducible refine (Hid.out KD _ (Hid.out HR)).mono ?_); go_must (rintro _ wv ⟨he, hr1, hg1⟩; subst he; have hg2 := grown_trans (Hid.out HG) hg1; clear HR; have HR := Lib.hid hr1; clear HG; have HG := Lib.hid hg2; obtain ⟨c0, c1, c2, c3, f1, f2, f3⟩ := hr1; clear hg1 hg2))
              | (go_at_call 39; (with_reducible refine (Hid.out KE _ (Hid.out HR)).mono ?_); go_must (rintro _ wv ⟨he, hr1, hg1⟩; subst he; have hg2 := grown_trans (Hid.out HG) hg1; clear HR; have HR := Lib.hid hr1; clear HG; have HG := Lib.hid hg2; obtain ⟨c0, c1, c2, c3, f1, f2, f3⟩ := hr1; clear hg1 hg2))
              | (go_at_call 25; (with_reducible refine (Hid.out KF _ (Hid.out HR)).mono ?_); go_must (rintro _ wv ⟨he, hr1, hg1⟩; subst he; have hg2 := grown_trans (Hid.out HG) hg1; clear HR; have HR := Lib.hid hr1; clear HG; have HG := Lib.hid hg2; obtain ⟨c0, c1, c2, c3, f1, f2, f3⟩ := hr1; clear hg1 hg2)))
            go_ret2
            exact postz_bad HX.out HR.out HG.out
    · rw [if_neg h2] at hR
      unfold closeB at hR
      have KB := Lib.hid (is_t 44 44 rfl b s (k + 1) g 0 (by omega) false (is_no h2))
      by_cases h3 : s.data.toList[k + 1]? = some 125
      · rw [if_pos h3] at hR
        have HX := Lib.hid hR
        have KC := Lib.hid (is_t 125 125 rfl b s (k + 1) g 0 (by omega) true (is_yes h3))
        clear hR h1 h2 h3 hsz
        go_enter Tryd.func59, Tryd.ntmps59
        go_wp2_with (first
          | (go_at_call 70; (with_reducible refine (Hid.out KA _ (Hid.out HR)).mono ?_); go_must (rintro _ wv ⟨he, hr1, hg1⟩; subst he; have hg2 := grown_trans (Hid.out HG) hg1; clear HR; have HR := Lib.hid hr1; clear HG; have HG := Lib.hid hg2; obtain ⟨c0, c1, c2, c3, f1, f2, f3⟩ := hr1; clear hg1 hg2))
          | (go_at_call 39; (with_reducible refine (Hid.out KB _ (Hid.out HR)).mono ?_); go_must (rintro _ wv ⟨he, hr1, hg1⟩; subst he; have hg2 := grown_trans (Hid.out HG) hg1; clear HR; have HR := Lib.hid hr1; clear HG; have HG := Lib.hid hg2; obtain ⟨c0, c1, c2, c3, f1, f2, f3⟩ := hr1; clear hg1 hg2))
          | (go_at_call 39; (with_reducible refine (Hid.out KC _ (Hid.out HR)).mono ?_); go_must (rintro _ wv ⟨he, hr1, hg1⟩; subst he; have hg2 := grown_trans (Hid.out HG) hg1; clear HR; have HR := Lib.hid hr1; clear HG; have HG := Lib.hid hg2; obtain ⟨c0, c1, c2, c3, f1, f2, f3⟩ := hr1; clear hg1 hg2)))
        go_ret2
        exact postz_ok HX.out (Rdr.incz HR.out _ (by omega)) (grown_trans HG.out (grown_set b 1 _ _))
      · rw [if_neg h3] at hR
        have HX := Lib.hid hR
        have KC := Lib.hid (is_t 125 125 rfl b s (k + 1) g 0 (by omega) false (is_no h3))
        have KF := Lib.hid (fail_new 1 1 rfl b s (k + 1) g)
        clear hR h1 h2 h3 hsz
        go_enter Tryd.func59, Tryd.ntmps59
        go_wp2_with (first
          | (go_at_call 70; (with_reducible refine (Hid.out KA _ (Hid.out HR)).mono ?_); go_must (rintro _ wv ⟨he, hr1, hg1⟩; subst he; have hg2 := grown_trans (Hid.out HG) hg1; clear HR; have HR := Lib.hid hr1; clear HG; have HG := Lib.hid hg2; obtain ⟨c0, c1, c2, c3, f1, f2, f3⟩ := hr1; clear hg1 hg2))
          | (go_at_call 39; (with_reducible refine (Hid.out KB _ (Hid.out HR)).mono ?_); go_must (rintro _ wv ⟨he, hr1, hg1⟩; subst he; have hg2 := grown_trans (Hid.out HG) hg1; clear HR; have HR := Lib.hid hr1; clear HG; have HG := Lib.hid hg2; obtain ⟨c0, c1, c2, c3, f1, f2, f3⟩ := hr1; clear hg1 hg2))
          | (go_at_call 39; (with_reducible refine (Hid.out KC _ (Hid.out HR)).mono ?_); go_must (rintro _ wv ⟨he, hr1, hg1⟩; subst he; have hg2 := grown_trans (Hid.out HG) hg1; clear HR; have HR := Lib.hid hr1; clear HG; have HG := Lib.hid hg2; obtain ⟨c0, c1, c2, c3, f1, f2, f3⟩ := hr1; clear hg1 hg2))
          | (go_at_call 25; (with_reducible refine (Hid.out KF _ (Hid.out HR)).mono ?_); go_must (rintro _ wv ⟨he, hr1, hg1⟩; subst he; have hg2 := grown_trans (Hid.out HG) hg1; clear HR; have HR := Lib.hid hr1; clear HG; have HG := Lib.hid hg2; obtain ⟨c0, c1, c2, c3, f1, f2, f3⟩ := hr1; clear hg1 hg2)))
        go_ret2
        exact postz_bad HX.out HR.out HG.out
end Go.Proofs.YtccheljfbjllhaaDoor
