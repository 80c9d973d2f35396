/- The document's own reader: is a byte next, a fault, a digit. -/
import Derived.Test.YtccheljfbjllhaaDoorRdr14
import Derived.Test.YtccheljfbjllhaaDoorQTail
namespace Go.Proofs.YtccheljfbjllhaaDoor
open Go Go.RowKit

/-- Is that byte the next one, where nothing fell so far? -/
def isB (s : ByteArray) (k o : Nat) (c : UInt8) : Bool := decide (o = 0) && decide (s.data.toList[k]? = some c)
set_option maxHeartbeats 1000000 in
theorem is_any (c : UInt8) (y : Int) (hy : y = c.toNat) (b : Nat) (w : World) (s : ByteArray) (k g o : Nat) (h : Rdr b w s k g o) (ho : o ≤ 100) :
    Calls Tryd.prog 39 #[.pointer (some ⟨b, 0, none⟩), .int .u8 y] w fun e w' => e = .returned (.bool (isB s k o c)) ∧ ∃ m, w' = w.drewN m := by
  obtain ⟨v, hv⟩ : ∃ v, v = isB s k o c := ⟨_, rfl⟩
  rw [← hv]
  unfold isB at hv
  obtain ⟨c0, c1, _, c3, _, _, _⟩ := h
  suffices hs : Calls Tryd.prog 39 #[.pointer (some ⟨b, 0, none⟩), .int .u8 y] w fun e w' => e = .returned (.bool v) ∧ Hid (∃ m, w' = w.drewN m) from hs.mono fun e w' ⟨a, b⟩ => ⟨a, b.out⟩
  by_cases o0 : o = 0
  · subst o0
    rw [decide_eq_true rfl, Bool.true_and] at hv
    by_cases a : k < s.size
    · rw [get_at s k a] at hv
      obtain ⟨x, hx⟩ : ∃ x : Int, x = (s[k].toNat : Int) := ⟨_, rfl⟩
      have hxy : v = decide (x = y) := by
        rw [hv, decide_eq_decide, hx, hy]
        constructor
        · intro h; injection h with h; rw [h]
        · intro h; rw [u8_eq h]
      have HV := Lib.hid hxy
      have b1 : decide ((k : Int) < (s.size : Int)) = true := by simp; omega
      clear hv hxy
      by_cases e : x = y
      · subst e
        have t : ((s[k].toNat : Int) == x) = true := by rw [hx]; simp
        have HV2 : Hid (v = true) := Lib.hid (by rw [HV.out]; simp)
        clear HV hx hy
        go_enter Tryd.func39, Tryd.ntmps39
        go_wp2
        go_quiet (fail)
        go_wp2
        go_ret
        exact ⟨ret_bool HV2.out.symm, Lib.hid ⟨_, rfl⟩⟩
      · have t : ((s[k].toNat : Int) == y) = false := by rw [← hx]; simpa using e
        have HV2 : Hid (v = false) := Lib.hid (by rw [HV.out]; simpa using e)
        clear HV hx hy e
        go_enter Tryd.func39, Tryd.ntmps39
        go_wp2
        go_quiet (fail)
        go_wp2
        go_ret
        exact ⟨ret_bool HV2.out.symm, Lib.hid ⟨_, rfl⟩⟩
    · rw [get_end s k a] at hv
      have HV : Hid (v = false) := Lib.hid (by rw [hv]; simp)
      have b1 : decide ((k : Int) < (s.size : Int)) = false := by simp; omega
      have b2 : decide (k < s.size) = false := by simp; omega
      clear hv hy
      go_enter Tryd.func39, Tryd.ntmps39
      go_wp2
      go_quiet (fail)
      go_wp2
      go_ret
      exact ⟨ret_bool HV.out.symm, Lib.hid ⟨_, rfl⟩⟩
  · have HV : Hid (v = false) := Lib.hid (by rw [hv, decide_eq_false o0]; rfl)
    have b0 : ((o : Int) == 0) = false := by simp; omega
    have b0' : (o == 0) = false := by simp; omega
    clear hv o0 hy
    go_enter Tryd.func39, Tryd.ntmps39
    go_wp2
    go_quiet (fail)
    go_wp2
    go_ret
    exact ⟨ret_bool HV.out.symm, Lib.hid ⟨_, rfl⟩⟩
theorem fail_any (er : Nat) (z : Int) (hz : z = er) (b : Nat) (w : World) (s : ByteArray) (k g o : Nat) (h : Rdr b w s k g o) (ho : o ≤ 100) :
    Calls Tryd.prog 25 #[.pointer (some ⟨b, 0, none⟩), .int .i64 z] w fun e w' => e = .returned (.tuple #[]) ∧ Rdr b w' s k g (if o = 0 then er else o) ∧ w.grownBy w' (some b) := by
  have H := Lib.hid h
  obtain ⟨c0, c1, _, c3, _, _, f3⟩ := h
  by_cases o0 : o = 0
  · subst o0
    rw [if_pos rfl]
    have HZ := Lib.hid hz
    clear hz
    go_enter Tryd.func25, Tryd.ntmps25
    go_wp2
    go_end0
    exact ⟨rfl, by rw [HZ.out]; exact H.out.open_ er, grown_set b 3 _ _⟩
  · rw [if_neg o0]
    have b0 : ((o : Int) == 0) = false := by simp; omega
    have b0' : (o == 0) = false := by simp; omega
    clear o0 hz
    go_enter Tryd.func25, Tryd.ntmps25
    go_wp2
    go_end0
    exact ⟨rfl, H.out, grown_refl w _⟩
def PostG (b : Nat) (w : World) (s : ByteArray) (k g : Nat) (R : Option Int) (e : Ending) (w' : World) : Prop := w.grownBy w' (some b) ∧ match R with
  | none => e = .returned (.int .i64 (-1)) ∧ Rdr b w' s k g 1
  | some n => e = .returned (.int .i64 n) ∧ Rdr b w' s (k + 1) g 0
theorem postg_no {b : Nat} {w w' : World} {s : ByteArray} {k g : Nat} {R : Option Int} (h : R = none) (hr : Rdr b w' s k g 1) (hg : w.grownBy w' (some b)) : PostG b w s k g R (.returned (.int .i64 (-1))) w' := by subst h; exact ⟨hg, rfl, hr⟩
theorem postg_yes {b : Nat} {w w' : World} {s : ByteArray} {k g : Nat} {n z : Int} {R : Option Int} (h : R = some n) (hz : z = n) (hr : Rdr b w' s (k + 1) g 0) (hg : w.grownBy w' (some b)) : PostG b w s k g R (.returned (.int .i64 z)) w' := by subst h hz; exact ⟨hg, rfl, hr⟩
set_option maxRecDepth 100000 in
set_option maxHeartbeats 4000000 in
theorem digit_any (least : Int) (_ : 0 ≤ least) (_ : least ≤ 8) (b : Nat) (w : World) (s : ByteArray) (k g : Nat) (h : Rdr b w s k g 0) (hs : s.size ≤ 1000000) (hk : k ≤ s.size) :
    Calls Tryd.prog 70 #[.pointer (some ⟨b, 0, none⟩), .int .i64 least] w (PostG b w s k g (numb s.data.toList k least)) := by
  obtain ⟨R, hR⟩ : ∃ R, R = numb s.data.toList k least := ⟨_, rfl⟩
  rw [← hR]
  unfold numb at hR
  have H := Lib.hid h
  have KF : Hid (∀ w1, Rdr b w1 s k g 0 → Calls Tryd.prog 25 #[.pointer (some ⟨b, 0, none⟩), .int .i64 1] w1 fun e w' => e = .returned (.tuple #[]) ∧ Rdr b w' s k g 1 ∧ w1.grownBy w' (some b)) := Lib.hid fun w1 h1 => by
    have := fail_any 1 1 rfl b w1 s k g 0 h1 (by omega)
    simpa using this
  obtain ⟨c0, c1, _, _, f1, _, _⟩ := h
  by_cases a : k < s.size
  · rw [get_at s k a] at hR
    dsimp only at hR
    obtain ⟨y, hy⟩ : ∃ y : Int, y = (s[k].toNat : Int) := ⟨_, rfl⟩
    have hyb : 0 ≤ y ∧ y < 256 := by rw [hy]; have := s[k].toNat_lt; omega
    obtain ⟨hy0, hy1⟩ := hyb
    rw [← hy] at hR
    have b1 : decide ((k : Int) < (s.size : Int)) = true := by simp; omega
    have hyy : (s[k].toNat : Int) = y := hy.symm
    by_cases h1 : y - 48 < least ∨ 8 < y - 48
    · rw [if_pos h1] at hR
      have HR := Lib.hid hR
      clear hR hy
      by_cases d1 : 48 ≤ y
      · by_cases d2 : y ≤ 56
        · have d3 : decide (least ≤ y - 48) = false := by simp; omega
          have t1 : decide (48 ≤ y) = true := by simp; omega
          have t2 : decide (y ≤ 56) = true := by simp; omega
          clear h1
          go_enter Tryd.func70, Tryd.ntmps70
          go_wp2
          go_quiet (fail)
          go_wp2_with (go_at_call 25; ((with_reducible refine (KF.out _ (H.out.drews _)).mono ?_)); rintro e w1 ⟨rfl, hr1, hg1⟩)
          go_ret
          exact postg_no HR.out hr1 (grown_trans (grown_drews _ _ _) hg1)
        · have t1 : decide (48 ≤ y) = true := by simp; omega
          have t2 : decide (y ≤ 56) = false := by simp; omega
          clear h1
          go_enter Tryd.func70, Tryd.ntmps70
          go_wp2
          go_quiet (fail)
          go_wp2_with (go_at_call 25; ((with_reducible refine (KF.out _ (H.out.drews _)).mono ?_)); rintro e w1 ⟨rfl, hr1, hg1⟩)
          go_ret
          exact postg_no HR.out hr1 (grown_trans (grown_drews _ _ _) hg1)
      · have t1 : decide (48 ≤ y) = false := by simp; omega
        clear h1
        go_enter Tryd.func70, Tryd.ntmps70
        go_wp2
        go_quiet (fail)
        go_wp2_with (go_at_call 25; ((with_reducible refine (KF.out _ (H.out.drews _)).mono ?_)); rintro e w1 ⟨rfl, hr1, hg1⟩)
        go_ret
        exact postg_no HR.out hr1 (grown_trans (grown_drews _ _ _) hg1)
    · rw [if_neg h1] at hR
      have HR := Lib.hid hR
      have d3 : decide (least ≤ y - 48) = true := by simp; omega
      have t1 : decide (48 ≤ y) = true := by simp; omega
      have t2 : decide (y ≤ 56) = true := by simp; omega
      have hkb : (k : Int) ≤ 1000000 := by omega
      have H1 : Hid (∀ m, Rdr b ((w.drewN m).setCell ⟨b, 1, none⟩ (.int .i64 ((k : Int) + 1))) s (k + 1) g 0) := Lib.hid fun m => (H.out.drews m).at_ (k + 1)
      obtain ⟨g0, g1, _, _, _, _, _⟩ := H1.out 1
      clear hR hy h1
      go_enter Tryd.func70, Tryd.ntmps70
      go_wp2
      go_quiet (fail)
      go_wp2
      go_quiet (fail)
      go_wp2
      go_ret
      exact postg_yes HR.out rfl ((H1.out _).drews _) (grown_trans (grown_trans (grown_drews _ _ _) (grown_set b 1 _ _)) (grown_drews _ _ _))
  · rw [get_end s k a] at hR
    have HR := Lib.hid hR
    have b1 : decide ((k : Int) < (s.size : Int)) = false := by simp; omega
    have b2 : decide (k < s.size) = false := by simp; omega
    clear hR
    go_enter Tryd.func70, Tryd.ntmps70
    go_wp2
    go_quiet (fail)
    go_wp2_with (go_at_call 25; ((with_reducible refine (KF.out _ (H.out.drews _)).mono ?_)); rintro e w1 ⟨rfl, hr1, hg1⟩)
    go_ret
    exact postg_no HR.out hr1 (grown_trans (grown_drews _ _ _) hg1)
end Go.Proofs.YtccheljfbjllhaaDoor
