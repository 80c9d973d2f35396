/- The code's reader: an item of a set. -/
import Derived.Test.YtccheljfbjllhaaDoorRdr3
import Derived.Test.YtccheljfbjllhaaDoorRSpans
namespace Go.Proofs.YtccheljfbjllhaaDoor
open Go Go.RowKit

/-- What a byte does. -/
abbrev ByBad (set : ByteArray) (b : Nat) (s : ByteArray) (g o k q : Nat) : Prop := ∀ w, Rdr b w s k g o →
  Calls Tryd.prog 64 #[.pointer (some ⟨b, 0, none⟩), .string set] w fun e w' => e = .returned (.tuple #[.int .u8 0, .int .i64 1]) ∧ Rdr b w' s q g o ∧ w.grownBy w' (some b)
abbrev ByOk (set : ByteArray) (b : Nat) (s : ByteArray) (g o k q : Nat) (x : Int) : Prop := ∀ w, Rdr b w s k g o →
  Calls Tryd.prog 64 #[.pointer (some ⟨b, 0, none⟩), .string set] w fun e w' => e = .returned (.tuple #[.int .u8 x, .int .i64 0]) ∧ Rdr b w' s q g o ∧ w.grownBy w' (some b)
theorem by_bad {set : ByteArray} {sg : Bs} (hl : Looks set sg) (b : Nat) {s : ByteArray} (g o : Nat) {k q : Nat} (hs : s.size ≤ 1000000) (hk : k ≤ s.size) (h : rb sg s.data.toList k = .bad q) : ByBad set b s g o k q := fun w hr =>
  (by rw [← h]; exact bytebut_any set sg hl b w s k g o hr hs hk : Calls _ _ _ _ (Post8 b w s g o (.bad q))).mono fun _ _ ⟨h1, h2, h3⟩ => ⟨h2, h3, h1⟩
theorem by_ok {set : ByteArray} {sg : Bs} (hl : Looks set sg) (b : Nat) {s : ByteArray} (g o : Nat) {k q : Nat} {c : UInt8} {x : Int} (hs : s.size ≤ 1000000) (hk : k ≤ s.size) (h : rb sg s.data.toList k = .ok c q) (hx : x = (c.toNat : Int)) : ByOk set b s g o k q x := fun w hr =>
  (by rw [← h]; exact bytebut_any set sg hl b w s k g o hr hs hk : Calls _ _ _ _ (Post8 b w s g o (.ok c q))).mono fun _ _ ⟨h1, h2, h3⟩ => ⟨by subst hx; exact h2, h3, h1⟩
theorem looksI' : Looks ⟨#[93, 45, 92]⟩ sgI := looksI
def PostI (b : Nat) (w : World) (s : ByteArray) (g o : Nat) (R : Res Sp) (e : Ending) (w' : World) : Prop := w.grownBy w' (some b) ∧ match R with
  | .bad q => (∃ x y : Int, e = .returned (.tuple #[.int .u8 x, .int .u8 y, .int .i64 1])) ∧ Rdr b w' s q g o
  | .ok sp q => e = .returned (.tuple #[.int .u8 sp.1.toNat, .int .u8 sp.2.toNat, .int .i64 0]) ∧ Rdr b w' s q g o
theorem posti_bad {b : Nat} {w w' : World} {s : ByteArray} {g o q : Nat} {R : Res Sp} {x y : Int} {v : Value} (h : R = .bad q) (hv : v = .tuple #[.int .u8 x, .int .u8 y, .int .i64 1]) (hr : Rdr b w' s q g o) (hg : w.grownBy w' (some b)) : PostI b w s g o R (.returned v) w' := by subst h hv; exact ⟨hg, ⟨x, y, rfl⟩, hr⟩
theorem posti_ok {b : Nat} {w w' : World} {s : ByteArray} {g o q : Nat} {lo hi : UInt8} {x y : Int} {R : Res Sp} {v : Value} (h : R = .ok (lo, hi) q) (hx : x = (lo.toNat : Int)) (hy : y = (hi.toNat : Int)) (hv : v = .tuple #[.int .u8 x, .int .u8 y, .int .i64 0]) (hr : Rdr b w' s q g o) (hg : w.grownBy w' (some b)) : PostI b w s g o R (.returned v) w' := by subst h hx hy hv; exact ⟨hg, rfl, hr⟩
theorem Rdr.back {b : Nat} {w : World} {s : ByteArray} {k q g o : Nat} (h : Rdr b w s k g o) (hq : k = q + 1) : Rdr b (w.setCell ⟨b, 1, none⟩ (.int .i64 ((k : Int) - 1))) s q g o := by
  have : (k : Int) - 1 = q := by omega
  rw [this]; exact h.at_ q
set_option maxHeartbeats 4000000 in
theorem item_any (b : Nat) (w : World) (s : ByteArray) (k g o : Nat) (h : Rdr b w s k g o) (hs : s.size ≤ 1000000) (hk : k ≤ s.size) :
    Calls Tryd.prog 76 #[.pointer (some ⟨b, 0, none⟩)] w (PostI b w s g o (item s.data.toList k)) := by
  obtain ⟨R, hR⟩ : ∃ R, R = item s.data.toList k := ⟨_, rfl⟩
  rw [← hR]
  have HR := Lib.hid h
  have HG := Lib.hid (grown_refl w b)
  have hsz : s.data.toList.length = s.size := rfl
  clear h
  rcases h1 : rb sgI s.data.toList k with q | ⟨lo, q⟩
  · have KA := Lib.hid (by_bad looksI' b g o hs hk h1)
    unfold item at hR
    rw [h1] at hR
    have HX := Lib.hid hR
    clear h1 hR hsz
    go_enter Tryd.func76, Tryd.ntmps76
    go_wp2_with (rdr_call 64, KA, HR, HG)
    go_ret3
    exact posti_bad HX.out rfl HR.out HG.out
  · obtain ⟨x, hx⟩ : ∃ x : Int, x = (lo.toNat : Int) := ⟨_, rfl⟩
    have hxb := lo.toNat_lt
    have hx0 : 0 ≤ x := by omega
    have hx1 : x < 256 := by omega
    have KA := Lib.hid (by_ok looksI' b g o hs hk h1 hx)
    obtain ⟨q1, q2⟩ := rb_ok (by rw [hsz]; exact hk) h1
    rw [hsz] at q2
    have it := item_of h1
    have HLO := Lib.hid hx
    by_cases h2 : s.data.toList[q]? = some 45
    · have h2lt := lt_of_get h2
      rw [hsz] at h2lt
      obtain ⟨r, hr⟩ : ∃ r, r = q + 1 := ⟨_, rfl⟩
      have KB := Lib.hid (skip_yes looks45 b g o hs h2 hr)
      rw [it.1 h2, ← hr] at hR
      rcases h3 : rb sgI s.data.toList r with p | ⟨hi, p⟩
      · have KC := Lib.hid (by_bad looksI' b g o hs (by omega) h3)
        rw [h3] at hR
        have HX := Lib.hid hR
        clear h1 hR hsz hx it h2 h2lt hr h3 hxb
        go_enter Tryd.func76, Tryd.ntmps76
        go_wp2_with (first | rdr_soft 64, KA, HR, HG | rdr_call 36, KB, HR, HG | rdr_call 64, KC, HR, HG)
        go_ret3
        exact posti_bad HX.out rfl HR.out HG.out
      · obtain ⟨y, hy⟩ : ∃ y : Int, y = (hi.toNat : Int) := ⟨_, rfl⟩
        have hyb := hi.toNat_lt
        have hy0 : 0 ≤ y := by omega
        have hy1 : y < 256 := by omega
        have KC := Lib.hid (by_ok looksI' b g o hs (by omega) h3 hy)
        obtain ⟨p1, p2⟩ := rb_ok (by rw [hsz]; omega) h3
        rw [hsz] at p2
        rw [h3] at hR
        dsimp only at hR
        rw [← hx, ← hy] at hR
        have HHI := Lib.hid hy
        by_cases h4 : y < x
        · rw [if_pos h4] at hR
          have HX := Lib.hid hR
          have HP : Hid (p = p - 1 + 1) := Lib.hid (by omega)
          have hp0 : (0 : Int) ≤ (p : Int) - 1 := by omega
          have hp9 : (p : Int) - 1 ≤ 1000000 := by omega
          clear h1 hR hsz hx it h2 h2lt hr h3 hxb hyb hy
          go_enter Tryd.func76, Tryd.ntmps76
          go_wp2_with (first | rdr_soft 64, KA, HR, HG | rdr_call 36, KB, HR, HG | rdr_call 64, KC, HR, HG)
          go_ret3
          exact posti_bad HX.out rfl (HR.out.back HP.out) (grown_trans HG.out (grown_set b 1 _ _))
        · rw [if_neg h4] at hR
          have HX := Lib.hid hR
          clear h1 hR hsz hx it h2 h2lt hr h3 hxb hyb hy
          go_enter Tryd.func76, Tryd.ntmps76
          go_wp2_with (first | rdr_soft 64, KA, HR, HG | rdr_call 36, KB, HR, HG | rdr_call 64, KC, HR, HG)
          go_ret3
          exact posti_ok HX.out HLO.out HHI.out rfl HR.out HG.out
    · have KB := Lib.hid (skip_no looks45 b g o hs h2)
      rw [it.2 h2] at hR
      have HX := Lib.hid hR
      clear h1 hR hsz hx it h2 hxb
      go_enter Tryd.func76, Tryd.ntmps76
      go_wp2_with (first | rdr_soft 64, KA, HR, HG | rdr_call 36, KB, HR, HG)
      go_ret3
      exact posti_ok HX.out HLO.out HLO.out rfl HR.out HG.out
end Go.Proofs.YtccheljfbjllhaaDoor
