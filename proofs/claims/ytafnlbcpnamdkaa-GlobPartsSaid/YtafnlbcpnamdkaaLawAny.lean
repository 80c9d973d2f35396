/- The walk of the statement GlobAny, for every text. -/
import Derived.Test.YtafnlbcpnamdkaaAwake
namespace Go.Proofs.Ytafnlbcpnamdkaa
open Go Go.RowKit

theorem sameB_self (gs : List Gl) : sameB gs gs = true := sameB_yes rfl
theorem rsame_read (gs : List Gl) (h1 : gs.length ≤ 200) (h2 : ∀ g ∈ gs, g.spans.length ≤ 200) (A A' : Option Addr) (c c' : Nat) (w : World) (h : RdG w.heap.size w A gs.length gs) (h' : RdG w.heap.size w A' gs.length gs) :
    Calls Try.prog 14 #[.slice A gs.length c, .slice A' gs.length c'] w fun e w' => e = .returned (.bool true) ∧ Below w.heap.size w w' := by
  have := rsame_any A A' gs.length gs.length c c' gs gs w h h' (by omega) (by omega) (fun g hg => Nat.le_trans (h2 g hg) (by omega)) (fun g hg => Nat.le_trans (h2 g hg) (by omega))
  rw [sameB_self] at this; exact this
set_option maxHeartbeats 1000000 in
theorem any_some (s : ByteArray) (hs : ¬ 250 < s.size) (gs : List Gl) (h1 : gs.length ≤ 200) (h2 : ∀ g ∈ gs, g.spans.length ≤ 200) (h : parse s.data.toList = (some gs, 0, 0)) (w : World) :
    Calls Try.prog 4 #[.string s] w fun e w' => e = .returned (.bool true) ∧ Below w.heap.size w w' := by
  have KA := Lib.hid (awake_any w)
  have K13 := Lib.hid fun w => parse_read s (by omega) (some gs) 0 0 gs rfl h w
  have K16 := Lib.hid fun w => rparse_read s (by omega) (some gs) 0 0 gs rfl h w
  have K14 := Lib.hid (rsame_read gs h1 h2)
  clear h h2
  go_enter Try.func4, Try.ntmps4
  go_wp2_with (first | (go_at_call 7; ((with_reducible refine (KA.out).mono ?_)); rintro e w0 ⟨rfl, hb0⟩) | (go_at_call 13; ((with_reducible refine (K13.out _).mono ?_)); rintro e w1 ⟨A, c, rfl, hr1, hc1, hb1⟩; have HR1 := Lib.hid hr1; clear hr1 hc1) | (go_at_call 16; ((with_reducible refine (K16.out _).mono ?_)); rintro e w2 ⟨A', c', rfl, hr2, hc2, hb2⟩; have HR2 := Lib.hid hr2; clear hr2 hc2) | (go_at_call 14; ((with_reducible refine (K14.out _ _ _ _ _ (HR1.out.next hb2) HR2.out).mono ?_)); rintro e w3 ⟨rfl, hb3⟩))
  go_ret
  have z1 := hb0.trans (hb1.mono hb0.size)
  have z2 := z1.trans (hb2.mono z1.size)
  exact ⟨rfl, z2.trans (hb3.mono z2.size)⟩
set_option maxHeartbeats 1000000 in
theorem any_none (s : ByteArray) (hs : ¬ 250 < s.size) (q : Nat) (x : Int) (hx : x = 1 ∨ x = 2) (h : parse s.data.toList = (none, q, x)) (w : World) :
    Calls Try.prog 4 #[.string s] w fun e w' => e = .returned (.bool true) ∧ Below w.heap.size w w' := by
  have KA := Lib.hid (awake_any w)
  have K13 : Hid (∀ w, Calls Try.prog 13 #[.string s] w fun e w' => ∃ A c, e = .returned (.tuple #[.slice A 0 c, .int .i64 q, .int .i64 x]) ∧ Below w.heap.size w w') := Lib.hid fun w => (parse_read s (by omega) none q x [] rfl h w).mono fun e w' ⟨A, c, he, _, _, hb⟩ => ⟨A, c, he, hb⟩
  have K16 : Hid (∀ w, Calls Try.prog 16 #[.string s] w fun e w' => ∃ A c, e = .returned (.tuple #[.slice A 0 c, .int .i64 q, .int .i64 x]) ∧ Below w.heap.size w w') := Lib.hid fun w => (rparse_read s (by omega) none q x [] rfl h w).mono fun e w' ⟨A, c, he, _, _, hb⟩ => ⟨A, c, he, hb⟩
  have K14 : Hid (∀ A A' c c' w, Calls Try.prog 14 #[.slice A 0 c, .slice A' 0 c'] w fun e w' => e = .returned (.bool true) ∧ Below w.heap.size w w') :=
    Lib.hid fun A A' c c' w => rsame_read [] (by simp) (by simp) A A' c c' w RdG.none_ RdG.none_
  have hx0 : (x == 0) = false := by simp; omega
  clear h hx
  go_enter Try.func4, Try.ntmps4
  go_wp2_with (first | (go_at_call 7; ((with_reducible refine (KA.out).mono ?_)); rintro e w0 ⟨rfl, hb0⟩) | (go_at_call 13; ((with_reducible refine (K13.out _).mono ?_)); rintro e w1 ⟨A, c, rfl, hb1⟩) | (go_at_call 16; ((with_reducible refine (K16.out _).mono ?_)); rintro e w2 ⟨A', c', rfl, hb2⟩) | (go_at_call 14; ((with_reducible refine (K14.out _ _ _ _ _).mono ?_)); rintro e w3 ⟨rfl, hb3⟩))
  go_ret
  have z1 := hb0.trans (hb1.mono hb0.size)
  have z2 := z1.trans (hb2.mono z1.size)
  exact ⟨rfl, z2.trans (hb3.mono z2.size)⟩
theorem any_long (s : ByteArray) (hs : 250 < s.size) (w : World) :
    Calls Try.prog 4 #[.string s] w fun e w' => e = .returned (.bool true) ∧ Below w.heap.size w w' := by
  have KA := Lib.hid (awake_any w)
  go_enter Try.func4, Try.ntmps4
  go_wp2_with (go_at_call 7; ((with_reducible refine (KA.out).mono ?_)); rintro e w0 ⟨rfl, hb0⟩)
  go_ret
  exact ⟨rfl, hb0⟩
theorem walk_any (s : ByteArray) (w : World) : Calls Try.prog 4 #[.string s] w fun e w' => e = .returned (.bool true) ∧ Below w.heap.size w w' := by
  by_cases hs : 250 < s.size
  · exact any_long s hs w
  · rcases parse_cases s.data.toList with ⟨q, h⟩ | h | ⟨gs, h, h1, h2⟩
    · exact any_none s hs q 1 (.inl rfl) h w
    · exact any_none s hs 200 2 (.inr rfl) h w
    · exact any_some s hs gs h1 h2 h w
end Go.Proofs.Ytafnlbcpnamdkaa
