/- EreGoes answers true. -/
import Derived.Test.YtccheljfbjllhaaDoorAwake
namespace Go.Proofs.YtccheljfbjllhaaDoor
open Go Go.RowKit

theorem parse_none {s : ByteArray} {q : Nat} {er : Int} (h : parseE s.data.toList = (none, q, er)) (w : World) : Calls Tryd.prog 14 #[.string s] w fun e w' => e = .returned (.tuple #[.agg #[.int .i64 0, .int .u64 0, .int .u64 0, .int .u64 0, .int .u64 0, .slice none 0 0, .int .i64 0, .int .i64 0, .int .i64 0], .int .i64 q, .int .i64 er]) ∧ Below w.heap.size w w' := by
  have := parse_any s w
  rw [h] at this
  exact this.mono fun e w' ⟨h1, h2⟩ => ⟨h2, h1⟩
theorem parse_some {s : ByteArray} {x : Re} (h : parseE s.data.toList = (some x, 0, 0)) (w : World) : Calls Tryd.prog 14 #[.string s] w fun e w' => (∃ A c, e = .returned (.tuple #[valR x A c, .int .i64 0, .int .i64 0]) ∧ Kids (Fr w.heap.size w'.heap.size) w' A x) ∧ Below w.heap.size w w' := by
  have := parse_any s w
  rw [h] at this
  exact this.mono fun e w' ⟨h1, A, c, h2, h3⟩ => ⟨⟨A, c, h2, h3⟩, h1⟩
theorem bstep {w w1 w2 : World} (h : Below w.heap.size w w1) (hb : Below w1.heap.size w1 w2) : Below w.heap.size w w2 := h.trans (hb.mono h.size)
theorem bbox {w w1 : World} (h : Below w.heap.size w w1) (o : Obj) : Below w.heap.size w (w1.alloc o) := h.alloc h.size o
set_option maxRecDepth 100000 in
set_option maxHeartbeats 4000000 in
theorem goes_any (a d : ByteArray) (w : World) : Calls Tryd.prog 5 #[.string a, .string d] w fun e w' => e = .returned (.bool true) ∧ Below w.heap.size w w' := by
  have K7 := Lib.hid awake_any
  by_cases h1 : 100 < a.size
  · have b1 : decide ((100 : Int) < (a.size : Int)) = true := by simp; omega
    go_enter Tryd.func5, Tryd.ntmps5
    go_wp2_with (go_at_call 7; (with_reducible refine (K7.out _).mono ?_); rintro _ w1 ⟨rfl, hb1⟩; have HB1 := Lib.hid hb1; clear hb1)
    go_ret
    exact ⟨rfl, HB1.out⟩
  · have b1 : decide ((100 : Int) < (a.size : Int)) = false := by simp; omega
    by_cases h2 : 40 < d.size
    · have b2 : decide ((40 : Int) < (d.size : Int)) = true := by simp; omega
      go_enter Tryd.func5, Tryd.ntmps5
      go_wp2_with (go_at_call 7; (with_reducible refine (K7.out _).mono ?_); rintro _ w1 ⟨rfl, hb1⟩; have HB1 := Lib.hid hb1; clear hb1)
      go_ret
      exact ⟨rfl, HB1.out⟩
    · have b2 : decide ((40 : Int) < (d.size : Int)) = false := by simp; omega
      rcases parse_ends a.data.toList (by show a.size ≤ 200; omega) with ⟨x, hx⟩ | ⟨q, er, hx, hq, her⟩
      · have K1 := Lib.hid (parse_some hx)
        clear hx
        go_enter Tryd.func5, Tryd.ntmps5
        go_wp2_with (first | (go_at_call 7; (with_reducible refine (K7.out _).mono ?_); rintro _ w1 ⟨rfl, hb1⟩; have HB1 := Lib.hid hb1; clear hb1) | (go_at_call 14; (with_reducible refine (K1.out _).mono ?_); rintro _ w2 ⟨⟨A, c, rfl, _⟩, hb2⟩; have HB2 := Lib.hid (bbox (bstep HB1.out hb2)); clear hb2; obtain ⟨k, S, ks, lo, hi, n⟩ := x; simp only [valR]))
        go_ret
        exact ⟨rfl, HB2.out _⟩
      · have hsz : a.data.toList.length = a.size := rfl
        have er0 : (er == 0) = false := by rcases her with h | h <;> (first | (rw [h]; rfl) | (rw [h.1]; rfl))
        have er0' : ¬ er = 0 := by omega
        have K1 := Lib.hid (parse_none hx)
        by_cases h3 : q < a.size
        · have b3 : decide ((a.size : Int) ≤ (q : Int)) = false := by simp; omega
          have hda : (a ++ d).data.toList = a.data.toList ++ d.data.toList := by simp
          have hdl : d.data.toList.length = d.size := rfl
          have K2 := Lib.hid (parse_none (s := a ++ d) (by rw [hda]; exact parse_goes (s := a.data.toList) (by omega) (by rw [List.length_append]; omega) hx (by omega) (by rw [List.length_append]; omega) (ag_append _ _ (by omega))))
          have hta : (a.extract 0 (q + 1)).data.toList = a.data.toList.take (q + 1) := by simp
          have K3 := Lib.hid (parse_none (s := a.extract 0 (q + 1)) (by rw [hta]; exact parse_goes (s := a.data.toList) (by omega) (by rw [List.length_take]; omega) hx (by omega) (by rw [List.length_take]; omega) (ag_take _ _)))
          go_enter Tryd.func5, Tryd.ntmps5
          go_wp2_with (first | (go_at_call 7; (with_reducible refine (K7.out _).mono ?_); rintro _ w1 ⟨rfl, hb1⟩; have HB1 := Lib.hid hb1; clear hb1) | (go_at_call 14; (with_reducible refine (K1.out _).mono ?_); rintro _ w2 ⟨rfl, hb2⟩; have HB2 := Lib.hid (bbox (bstep HB1.out hb2)); clear hb2) | (go_at_call 14; (with_reducible refine (K2.out _).mono ?_); rintro _ w3 ⟨rfl, hb3⟩; have HB3 := Lib.hid (bbox (bstep (HB2.out _) hb3)); clear hb3) | (go_at_call 14; (with_reducible refine (K3.out _).mono ?_); rintro _ w4 ⟨rfl, hb4⟩; have HB4 := Lib.hid (bbox (bstep (HB3.out _) hb4)); clear hb4))
          go_ret
          exact ⟨rfl, HB4.out _⟩
        · have hqa : q = a.size := by omega
          have her1 : er = 1 := by omega
          subst her1 hqa
          have b3 : decide ((a.size : Int) ≤ (a.size : Int)) = true := by simp
          go_enter Tryd.func5, Tryd.ntmps5
          go_wp2_with (first | (go_at_call 7; (with_reducible refine (K7.out _).mono ?_); rintro _ w1 ⟨rfl, hb1⟩; have HB1 := Lib.hid hb1; clear hb1) | (go_at_call 14; (with_reducible refine (K1.out _).mono ?_); rintro _ w2 ⟨rfl, hb2⟩; have HB2 := Lib.hid (bbox (bstep HB1.out hb2)); clear hb2))
          go_ret
          exact ⟨rfl, HB2.out _⟩
end Go.Proofs.YtccheljfbjllhaaDoor
