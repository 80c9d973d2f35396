/- EreAny answers true. -/
import Derived.Test.YtccheljfbjllhaaDoorD9
import Derived.Test.YtccheljfbjllhaaDoorLawGoes
import Derived.Test.YtccheljfbjllhaaDoorRSame
import Derived.Test.YtccheljfbjllhaaDoorRText
import Derived.Test.YtccheljfbjllhaaDoorPlain
namespace Go.Proofs.YtccheljfbjllhaaDoor
open Go Go.RowKit

theorem val_of (x : Re) : ∃ (k s0 s1 s2 s3 : Int) (m : Nat) (lo hi n : Int), ∀ (A : Option Addr) (c : Nat), valR x A c = .agg #[.int .i64 k, .int .u64 s0, .int .u64 s1, .int .u64 s2, .int .u64 s3, .slice A m c, .int .i64 lo, .int .i64 hi, .int .i64 n] := by
  obtain ⟨k, S, ks, lo, hi, n⟩ := x
  exact ⟨_, _, _, _, _, _, _, _, _, fun _ _ => rfl⟩
abbrev ParC (fn : Nat) (s : ByteArray) (x : Re) (q er : Int) : Prop := ∀ w, Calls Tryd.prog fn #[.string s] w fun e w' => (∃ A c, e = .returned (.tuple #[valR x A c, .int .i64 q, .int .i64 er]) ∧ Kids (Fr w.heap.size w'.heap.size) w' A x) ∧ Below w.heap.size w w'
theorem par_none {fn : Nat} {s : ByteArray} {q : Nat} {er : Int} (hc : ∀ w, Calls Tryd.prog fn #[.string s] w (PostX w (parseE s.data.toList))) (h : parseE s.data.toList = (none, q, er)) : ParC fn s (.mk 0 none4 [] 0 0 0) q er := fun w => by
  have := hc w
  rw [h] at this
  exact this.mono fun e w' ⟨h1, h2⟩ => ⟨⟨none, 0, h2, Kids.leaf _ _ _ _ _ _ _ _⟩, h1⟩
theorem par_some {fn : Nat} {s : ByteArray} {x : Re} (hc : ∀ w, Calls Tryd.prog fn #[.string s] w (PostX w (parseE s.data.toList))) (h : parseE s.data.toList = (some x, 0, 0)) : ParC fn s x 0 0 := fun w => by
  have := hc w
  rw [h] at this
  exact this.mono fun e w' ⟨h1, A, c, h2, h3⟩ => ⟨⟨A, c, h2, h3⟩, h1⟩
abbrev SelfC (x : Re) : Prop := ∀ (A A' : Option Addr) (c c' : Nat) (W : World), Kids (Lt W.heap.size) W A x → Kids (Lt W.heap.size) W A' x → Calls Tryd.prog 15 #[valR x A c, valR x A' c'] W fun e w' => e = .returned (.bool true) ∧ Below W.heap.size W w'
theorem self_c (x : Re) (h : sizeE x ≤ 1000000) : SelfC x := fun A A' c c' W h1 h2 => by
  have := rsame_any x x A A' c c' W h1 h2 h h
  rw [sameB_yes rfl] at this; exact this
abbrev PrtC (x : Re) (R1 : ByteArray) (R2 : Int) : Prop := ∀ (A : Option Addr) (c : Nat) (W : World), Kids (Lt W.heap.size) W A x → Calls Tryd.prog 9 #[valR x A c] W fun e w' => e = .returned (.tuple #[.string R1, .int .i64 R2]) ∧ Below W.heap.size W w'
theorem prt_c (x : Re) (hs : sizeE x ≤ 600) (R1 : ByteArray) (R2 : Int) (h : printE x = (R1, R2)) : PrtC x R1 R2 := fun A c W hk => by
  have := print_any x A c W hk hs
  rw [h] at this; exact this
abbrev TxtC (x : Re) (U : ByteArray) : Prop := ∀ (A : Option Addr) (c : Nat) (W : World), Kids (Lt W.heap.size) W A x → Calls Tryd.prog 17 #[valR x A c] W fun e w' => e = .returned (.string U) ∧ Below W.heap.size W w'
theorem txt_c (x : Re) (hs : sizeE x ≤ 600) {g : Nat} (h : form x 3 0 0 = some g) (U : ByteArray) (hU : U = ⟨(textE x).toArray⟩) : TxtC x U := fun A c W hk => by
  have hl := text_len x
  rw [hU]
  exact rtext_any x A c W 3 0 0 g hk h (by omega) (by omega)
theorem parse_all (s : Bs) : (∃ x, parseE s = (some x, 0, 0)) ∨ ∃ q er, parseE s = (none, q, er) ∧ ¬ er = 0 := by
  by_cases h : s.length ≤ 200
  · rcases parse_ends s h with h1 | ⟨q, er, h1, _, h2⟩
    · exact .inl h1
    · exact .inr ⟨q, er, h1, by omega⟩
  · refine .inr ⟨200, 2, ?_, by omega⟩
    unfold parseE
    rw [if_pos (by omega)]
set_option maxRecDepth 100000 in
set_option maxHeartbeats 4000000 in
theorem any_not (s : ByteArray) (w : World) (h : 220 < s.size) : Calls Tryd.prog 4 #[.string s] w fun e w' => e = .returned (.bool true) ∧ Below w.heap.size w w' := by
  have KA := Lib.hid awake_any
  have b1 : decide ((220 : Int) < (s.size : Int)) = true := by simp; omega
  go_enter Tryd.func4, Tryd.ntmps4
  go_wp2_with ((go_at_call 7; (with_reducible refine (KA.out _).mono ?_); rintro _ w1 ⟨rfl, hb1⟩; have B1 := Lib.hid hb1; clear hb1))
  go_ret
  exact ⟨rfl, B1.out⟩
set_option maxRecDepth 100000 in
set_option maxHeartbeats 4000000 in
theorem any_fail (s : ByteArray) (w : World) (h : ¬ 220 < s.size) (x : Re) (q er : Int) (h14 : ParC 14 s x q er) (h16 : ParC 16 s x q er) (hz : sizeE x ≤ 1000000) (he : ¬ er = 0) : Calls Tryd.prog 4 #[.string s] w fun e w' => e = .returned (.bool true) ∧ Below w.heap.size w w' := by
  have KA := Lib.hid awake_any
  have K14 := Lib.hid h14
  have K16 := Lib.hid h16
  have K15 := Lib.hid (self_c x hz)
  have t0 : (er == 0) = false := by simpa using he
  have t1 : (er != 0) = true := by simpa using he
  have b1 : decide ((220 : Int) < (s.size : Int)) = false := by simp; omega
  clear h h14 h16 hz
  obtain ⟨k, s0, s1, s2, s3, m, lo, hi, n, e1⟩ := val_of x
  have HV := Lib.hid e1
  simp only [SelfC, e1] at K15
  clear e1
  go_enter Tryd.func4, Tryd.ntmps4
  go_wp2_with (first
    | (go_at_call 7; (with_reducible refine (KA.out _).mono ?_); rintro _ w1 ⟨rfl, hb1⟩; have B1 := Lib.hid hb1; clear hb1)
    | (go_at_call 14; (with_reducible refine (K14.out _).mono ?_); rintro _ w2 ⟨⟨A, c, he, hkid⟩, hb2⟩; rw [HV.out] at he; subst he; have B2 := Lib.hid (bbox (bstep B1.out hb2) (.cells #[.int .i64 k, .int .u64 s0, .int .u64 s1, .int .u64 s2, .int .u64 s3, .slice A m c, .int .i64 lo, .int .i64 hi, .int .i64 n] 27)); have X2 := Lib.hid (Box9.new w2 (.int .i64 k) (.int .u64 s0) (.int .u64 s1) (.int .u64 s2) (.int .u64 s3) (.slice A m c) (.int .i64 lo) (.int .i64 hi) (.int .i64 n)); have HK2 := Lib.hid ((lt_of_fr hkid).next (one_box w2 (.cells #[.int .i64 k, .int .u64 s0, .int .u64 s1, .int .u64 s2, .int .u64 s3, .slice A m c, .int .i64 lo, .int .i64 hi, .int .i64 n] 27))); obtain ⟨x0, x1, x2, x3, x4, x5, x6, x7, x8, _⟩ := X2.out; clear hb2 hkid)
    | (go_at_call 16; (with_reducible refine (K16.out _).mono ?_); rintro _ w3 ⟨⟨A', c', he, hkid⟩, hb3⟩; rw [HV.out] at he; subst he; have B3 := Lib.hid (bbox (bstep B2.out hb3) (.cells #[.int .i64 k, .int .u64 s0, .int .u64 s1, .int .u64 s2, .int .u64 s3, .slice A' m c', .int .i64 lo, .int .i64 hi, .int .i64 n] 27)); have X3 := Lib.hid ((X2.out.below hb3).below (one_box w3 (.cells #[.int .i64 k, .int .u64 s0, .int .u64 s1, .int .u64 s2, .int .u64 s3, .slice A' m c', .int .i64 lo, .int .i64 hi, .int .i64 n] 27))); have Y3 := Lib.hid (Box9.new w3 (.int .i64 k) (.int .u64 s0) (.int .u64 s1) (.int .u64 s2) (.int .u64 s3) (.slice A' m c') (.int .i64 lo) (.int .i64 hi) (.int .i64 n)); have HK3 := Lib.hid ((HK2.out.next hb3).next (one_box w3 (.cells #[.int .i64 k, .int .u64 s0, .int .u64 s1, .int .u64 s2, .int .u64 s3, .slice A' m c', .int .i64 lo, .int .i64 hi, .int .i64 n] 27))); have HJ3 := Lib.hid ((lt_of_fr hkid).next (one_box w3 (.cells #[.int .i64 k, .int .u64 s0, .int .u64 s1, .int .u64 s2, .int .u64 s3, .slice A' m c', .int .i64 lo, .int .i64 hi, .int .i64 n] 27))); obtain ⟨x0, x1, x2, x3, x4, x5, x6, x7, x8, _⟩ := X3.out; obtain ⟨y0, y1, y2, y3, y4, y5, y6, y7, y8, _⟩ := Y3.out; clear hb3 hkid)
    | (go_at_call 15; (with_reducible refine (K15.out _ _ _ _ _ HK3.out HJ3.out).mono ?_); rintro _ w4 ⟨rfl, hb4⟩; have B4 := Lib.hid (bstep B3.out hb4); have X4 := Lib.hid (X3.out.below hb4); have HK4 := Lib.hid (HK3.out.next hb4); obtain ⟨x0, x1, x2, x3, x4, x5, x6, x7, x8, _⟩ := X4.out; clear hb4))
  go_ret
  exact ⟨rfl, B4.out⟩
set_option maxRecDepth 100000 in
set_option maxHeartbeats 4000000 in
theorem any_long (s : ByteArray) (w : World) (h : ¬ 220 < s.size) (x : Re) (h14 : ParC 14 s x 0 0) (h16 : ParC 16 s x 0 0) (hz : sizeE x ≤ 600) (g : Nat) (hf : form x 3 0 0 = some g) (hl : 200 < (textE x).length) : Calls Tryd.prog 4 #[.string s] w fun e w' => e = .returned (.bool true) ∧ Below w.heap.size w w' := by
  have KA := Lib.hid awake_any
  have K14 := Lib.hid h14
  have K16 := Lib.hid h16
  have K15 := Lib.hid (self_c x (by omega))
  have K9 := Lib.hid (prt_c x hz ⟨#[]⟩ 2 (by unfold printE; rw [hf]; dsimp only; rw [if_pos hl]))
  obtain ⟨U, hU⟩ : ∃ U : ByteArray, U = ⟨(textE x).toArray⟩ := ⟨_, rfl⟩
  have K17 := Lib.hid (txt_c x hz hf U hU)
  have hUl : U.size = (textE x).length := by rw [← len_data, hU]
  have b2 : decide ((200 : Int) < (U.size : Int)) = true := by simp; omega
  have b1 : decide ((220 : Int) < (s.size : Int)) = false := by simp; omega
  clear h h14 h16 hz hf hl hU hUl
  obtain ⟨k, s0, s1, s2, s3, m, lo, hi, n, e1⟩ := val_of x
  have HV := Lib.hid e1
  simp only [SelfC, PrtC, TxtC, e1] at K15 K9 K17
  clear e1
  go_enter Tryd.func4, Tryd.ntmps4
  go_wp2_with (first
    | (go_at_call 7; (with_reducible refine (KA.out _).mono ?_); rintro _ w1 ⟨rfl, hb1⟩; have B1 := Lib.hid hb1; clear hb1)
    | (go_at_call 14; (with_reducible refine (K14.out _).mono ?_); rintro _ w2 ⟨⟨A, c, he, hkid⟩, hb2⟩; rw [HV.out] at he; subst he; have B2 := Lib.hid (bbox (bstep B1.out hb2) (.cells #[.int .i64 k, .int .u64 s0, .int .u64 s1, .int .u64 s2, .int .u64 s3, .slice A m c, .int .i64 lo, .int .i64 hi, .int .i64 n] 27)); have X2 := Lib.hid (Box9.new w2 (.int .i64 k) (.int .u64 s0) (.int .u64 s1) (.int .u64 s2) (.int .u64 s3) (.slice A m c) (.int .i64 lo) (.int .i64 hi) (.int .i64 n)); have HK2 := Lib.hid ((lt_of_fr hkid).next (one_box w2 (.cells #[.int .i64 k, .int .u64 s0, .int .u64 s1, .int .u64 s2, .int .u64 s3, .slice A m c, .int .i64 lo, .int .i64 hi, .int .i64 n] 27))); obtain ⟨x0, x1, x2, x3, x4, x5, x6, x7, x8, _⟩ := X2.out; clear hb2 hkid)
    | (go_at_call 16; (with_reducible refine (K16.out _).mono ?_); rintro _ w3 ⟨⟨A', c', he, hkid⟩, hb3⟩; rw [HV.out] at he; subst he; have B3 := Lib.hid (bbox (bstep B2.out hb3) (.cells #[.int .i64 k, .int .u64 s0, .int .u64 s1, .int .u64 s2, .int .u64 s3, .slice A' m c', .int .i64 lo, .int .i64 hi, .int .i64 n] 27)); have X3 := Lib.hid ((X2.out.below hb3).below (one_box w3 (.cells #[.int .i64 k, .int .u64 s0, .int .u64 s1, .int .u64 s2, .int .u64 s3, .slice A' m c', .int .i64 lo, .int .i64 hi, .int .i64 n] 27))); have Y3 := Lib.hid (Box9.new w3 (.int .i64 k) (.int .u64 s0) (.int .u64 s1) (.int .u64 s2) (.int .u64 s3) (.slice A' m c') (.int .i64 lo) (.int .i64 hi) (.int .i64 n)); have HK3 := Lib.hid ((HK2.out.next hb3).next (one_box w3 (.cells #[.int .i64 k, .int .u64 s0, .int .u64 s1, .int .u64 s2, .int .u64 s3, .slice A' m c', .int .i64 lo, .int .i64 hi, .int .i64 n] 27))); have HJ3 := Lib.hid ((lt_of_fr hkid).next (one_box w3 (.cells #[.int .i64 k, .int .u64 s0, .int .u64 s1, .int .u64 s2, .int .u64 s3, .slice A' m c', .int .i64 lo, .int .i64 hi, .int .i64 n] 27))); obtain ⟨x0, x1, x2, x3, x4, x5, x6, x7, x8, _⟩ := X3.out; obtain ⟨y0, y1, y2, y3, y4, y5, y6, y7, y8, _⟩ := Y3.out; clear hb3 hkid)
    | (go_at_call 15; (with_reducible refine (K15.out _ _ _ _ _ HK3.out HJ3.out).mono ?_); rintro _ w4 ⟨rfl, hb4⟩; have B4 := Lib.hid (bstep B3.out hb4); have X4 := Lib.hid (X3.out.below hb4); have HK4 := Lib.hid (HK3.out.next hb4); obtain ⟨x0, x1, x2, x3, x4, x5, x6, x7, x8, _⟩ := X4.out; clear hb4)
    | (go_at_call 9; (with_reducible refine (K9.out _ _ _ HK4.out).mono ?_); rintro _ w5 ⟨rfl, hb5⟩; have B5 := Lib.hid (bstep B4.out hb5); have X5 := Lib.hid (X4.out.below hb5); have HK5 := Lib.hid (HK4.out.next hb5); obtain ⟨x0, x1, x2, x3, x4, x5, x6, x7, x8, _⟩ := X5.out; clear hb5)
    | (go_at_call 17; (with_reducible refine (K17.out _ _ _ HK5.out).mono ?_); rintro _ w6 ⟨rfl, hb6⟩; have B6 := Lib.hid (bstep B5.out hb6); have X6 := Lib.hid (X5.out.below hb6); have HK6 := Lib.hid (HK5.out.next hb6); obtain ⟨x0, x1, x2, x3, x4, x5, x6, x7, x8, _⟩ := X6.out; clear hb6))
  go_ret
  exact ⟨rfl, B6.out⟩
set_option maxRecDepth 100000 in
set_option maxHeartbeats 4000000 in
theorem any_yes (s : ByteArray) (w : World) (h : ¬ 220 < s.size) (x : Re) (h14 : ParC 14 s x 0 0) (h16 : ParC 16 s x 0 0) (hz : sizeE x ≤ 600) (g : Nat) (hf : form x 3 0 0 = some g) (hl : (textE x).length ≤ 200) : Calls Tryd.prog 4 #[.string s] w fun e w' => e = .returned (.bool true) ∧ Below w.heap.size w w' := by
  have KA := Lib.hid awake_any
  have K14 := Lib.hid h14
  have K16 := Lib.hid h16
  have K15 := Lib.hid (self_c x (by omega))
  obtain ⟨U, hU⟩ : ∃ U : ByteArray, U = ⟨(textE x).toArray⟩ := ⟨_, rfl⟩
  have K9 := Lib.hid (prt_c x hz U 0 (by unfold printE; rw [hf, hU]; dsimp only; rw [if_neg (by omega)]))
  have K17 := Lib.hid (txt_c x hz hf U hU)
  have hUl : U.size = (textE x).length := by rw [← len_data, hU]
  have KR := Lib.hid (par_some (fn := 14) (s := U) (parse_any U) (by rw [hU]; exact parse_text_form hf hl))
  have b2 : decide ((200 : Int) < (U.size : Int)) = false := by simp; omega
  have b1 : decide ((220 : Int) < (s.size : Int)) = false := by simp; omega
  clear h h14 h16 hz hf hl hU hUl
  obtain ⟨k, s0, s1, s2, s3, m, lo, hi, n, e1⟩ := val_of x
  have HV := Lib.hid e1
  simp only [SelfC, PrtC, TxtC, e1] at K15 K9 K17
  clear e1
  go_enter Tryd.func4, Tryd.ntmps4
  go_wp2_with (first
    | (go_at_call 7; (with_reducible refine (KA.out _).mono ?_); rintro _ w1 ⟨rfl, hb1⟩; have B1 := Lib.hid hb1; clear hb1)
    | (go_at_call 14; (with_reducible refine (K14.out _).mono ?_); rintro _ w2 ⟨⟨A, c, he, hkid⟩, hb2⟩; rw [HV.out] at he; subst he; have B2 := Lib.hid (bbox (bstep B1.out hb2) (.cells #[.int .i64 k, .int .u64 s0, .int .u64 s1, .int .u64 s2, .int .u64 s3, .slice A m c, .int .i64 lo, .int .i64 hi, .int .i64 n] 27)); have X2 := Lib.hid (Box9.new w2 (.int .i64 k) (.int .u64 s0) (.int .u64 s1) (.int .u64 s2) (.int .u64 s3) (.slice A m c) (.int .i64 lo) (.int .i64 hi) (.int .i64 n)); have HK2 := Lib.hid ((lt_of_fr hkid).next (one_box w2 (.cells #[.int .i64 k, .int .u64 s0, .int .u64 s1, .int .u64 s2, .int .u64 s3, .slice A m c, .int .i64 lo, .int .i64 hi, .int .i64 n] 27))); obtain ⟨x0, x1, x2, x3, x4, x5, x6, x7, x8, _⟩ := X2.out; clear hb2 hkid)
    | (go_at_call 16; (with_reducible refine (K16.out _).mono ?_); rintro _ w3 ⟨⟨A', c', he, hkid⟩, hb3⟩; rw [HV.out] at he; subst he; have B3 := Lib.hid (bbox (bstep B2.out hb3) (.cells #[.int .i64 k, .int .u64 s0, .int .u64 s1, .int .u64 s2, .int .u64 s3, .slice A' m c', .int .i64 lo, .int .i64 hi, .int .i64 n] 27)); have X3 := Lib.hid ((X2.out.below hb3).below (one_box w3 (.cells #[.int .i64 k, .int .u64 s0, .int .u64 s1, .int .u64 s2, .int .u64 s3, .slice A' m c', .int .i64 lo, .int .i64 hi, .int .i64 n] 27))); have Y3 := Lib.hid (Box9.new w3 (.int .i64 k) (.int .u64 s0) (.int .u64 s1) (.int .u64 s2) (.int .u64 s3) (.slice A' m c') (.int .i64 lo) (.int .i64 hi) (.int .i64 n)); have HK3 := Lib.hid ((HK2.out.next hb3).next (one_box w3 (.cells #[.int .i64 k, .int .u64 s0, .int .u64 s1, .int .u64 s2, .int .u64 s3, .slice A' m c', .int .i64 lo, .int .i64 hi, .int .i64 n] 27))); have HJ3 := Lib.hid ((lt_of_fr hkid).next (one_box w3 (.cells #[.int .i64 k, .int .u64 s0, .int .u64 s1, .int .u64 s2, .int .u64 s3, .slice A' m c', .int .i64 lo, .int .i64 hi, .int .i64 n] 27))); obtain ⟨x0, x1, x2, x3, x4, x5, x6, x7, x8, _⟩ := X3.out; obtain ⟨y0, y1, y2, y3, y4, y5, y6, y7, y8, _⟩ := Y3.out; clear hb3 hkid)
    | (go_at_call 15; (with_reducible refine (K15.out _ _ _ _ _ HK3.out HJ3.out).mono ?_); rintro _ w4 ⟨rfl, hb4⟩; have B4 := Lib.hid (bstep B3.out hb4); have X4 := Lib.hid (X3.out.below hb4); have HK4 := Lib.hid (HK3.out.next hb4); obtain ⟨x0, x1, x2, x3, x4, x5, x6, x7, x8, _⟩ := X4.out; clear hb4)
    | (go_at_call 9; (with_reducible refine (K9.out _ _ _ HK4.out).mono ?_); rintro _ w5 ⟨rfl, hb5⟩; have B5 := Lib.hid (bstep B4.out hb5); have X5 := Lib.hid (X4.out.below hb5); have HK5 := Lib.hid (HK4.out.next hb5); obtain ⟨x0, x1, x2, x3, x4, x5, x6, x7, x8, _⟩ := X5.out; clear hb5)
    | (go_at_call 17; (with_reducible refine (K17.out _ _ _ HK5.out).mono ?_); rintro _ w6 ⟨rfl, hb6⟩; have B6 := Lib.hid (bstep B5.out hb6); have X6 := Lib.hid (X5.out.below hb6); have HK6 := Lib.hid (HK5.out.next hb6); obtain ⟨x0, x1, x2, x3, x4, x5, x6, x7, x8, _⟩ := X6.out; clear hb6)
    | (go_at_call 14; (with_reducible refine (KR.out _).mono ?_); rintro _ w7 ⟨⟨A2, c2, he, hkid⟩, hb7⟩; rw [HV.out] at he; subst he; have B7 := Lib.hid (bbox (bstep B6.out hb7) (.cells #[.int .i64 k, .int .u64 s0, .int .u64 s1, .int .u64 s2, .int .u64 s3, .slice A2 m c2, .int .i64 lo, .int .i64 hi, .int .i64 n] 27)); have X7 := Lib.hid ((X6.out.below hb7).below (one_box w7 (.cells #[.int .i64 k, .int .u64 s0, .int .u64 s1, .int .u64 s2, .int .u64 s3, .slice A2 m c2, .int .i64 lo, .int .i64 hi, .int .i64 n] 27))); have Z7 := Lib.hid (Box9.new w7 (.int .i64 k) (.int .u64 s0) (.int .u64 s1) (.int .u64 s2) (.int .u64 s3) (.slice A2 m c2) (.int .i64 lo) (.int .i64 hi) (.int .i64 n)); have HK7 := Lib.hid ((HK6.out.next hb7).next (one_box w7 (.cells #[.int .i64 k, .int .u64 s0, .int .u64 s1, .int .u64 s2, .int .u64 s3, .slice A2 m c2, .int .i64 lo, .int .i64 hi, .int .i64 n] 27))); have HL7 := Lib.hid ((lt_of_fr hkid).next (one_box w7 (.cells #[.int .i64 k, .int .u64 s0, .int .u64 s1, .int .u64 s2, .int .u64 s3, .slice A2 m c2, .int .i64 lo, .int .i64 hi, .int .i64 n] 27))); obtain ⟨x0, x1, x2, x3, x4, x5, x6, x7, x8, _⟩ := X7.out; obtain ⟨z0, z1, z2, z3, z4, z5, z6, z7, z8, _⟩ := Z7.out; clear hb7 hkid)
    | (go_at_call 15; (with_reducible refine (K15.out _ _ _ _ _ HL7.out HK7.out).mono ?_); rintro _ w8 ⟨rfl, hb8⟩; have B8 := Lib.hid (bstep B7.out hb8); clear hb8))
  go_ret
  exact ⟨rfl, B8.out⟩
theorem walk_any (s : ByteArray) (w : World) : Calls Tryd.prog 4 #[.string s] w fun e w' => e = .returned (.bool true) ∧ Below w.heap.size w w' := by
  by_cases h : 220 < s.size
  · exact any_not s w h
  · rcases parse_all s.data.toList with ⟨x, hx⟩ | ⟨q', er', hx, he⟩
    · obtain ⟨_, ⟨g, hf⟩, hz⟩ := parse_made hx
      by_cases hl : 200 < (textE x).length
      · exact any_long s w h x (par_some (parse_any s) hx) (par_some (dparse_any s) hx) (by omega) g hf hl
      · exact any_yes s w h x (par_some (parse_any s) hx) (par_some (dparse_any s) hx) (by omega) g hf (by omega)
    · exact any_fail s w h (.mk 0 none4 [] 0 0 0) q' er' (par_none (parse_any s) hx) (par_none (dparse_any s) hx) (by rw [sizeE]; simp [sizeL]) he
end Go.Proofs.YtccheljfbjllhaaDoor
