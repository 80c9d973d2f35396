/- The walk of the statement QuoteBack, for every list of parts and every text. -/
import Derived.Test.YtgamlhhchagnaaaLawAny
namespace Go.Proofs.Ytgamlhhchagnaaa
open Go Go.RowKit

theorem prB_len (c : UInt8) : (prB c).length ≤ 4 := by
  have h : ∀ c : UInt8, (prB c).length ≤ 4 := all256 _ (by decide +kernel)
  exact h c
theorem bytes_len : ∀ l : Bs, (l.flatMap prB).length ≤ 4 * l.length
  | [] => by simp
  | c :: l => by
    have := bytes_len l
    have := prB_len c
    rw [List.flatMap_cons, List.length_append, List.length_cons]; omega
theorem part_bound (p : Pt) (h : okQ p = true) : (prP p).length ≤ 400 := by
  unfold okQ at h
  simp at h
  have h1 := bytes_len p.2
  have e : prP p = prV p.1 ++ p.2.flatMap prB := rfl
  rw [e, List.length_append]
  have h2 : (prV p.1).length ≤ p.1.length + 3 := by
    unfold prV; split
    · simp
    · simp
  omega
theorem parts_bound : ∀ ps : List Pt, ps.all okQ = true → (ps.flatMap prP).length ≤ 400 * ps.length
  | [], _ => by simp
  | p :: ps, h => by
    rw [List.all_cons, Bool.and_eq_true] at h
    have := parts_bound ps h.2
    have := part_bound p h.1
    rw [List.flatMap_cons, List.length_append, List.length_cons]; omega
/-- What the bound gives. -/
theorem small_facts {ps : List Pt} (h : smallP ps = true) : ps.length ≤ 20 ∧ (∀ p ∈ ps, p.1.length ≤ 60) ∧ (∀ p ∈ ps, p.2.length ≤ 60) ∧ (print ps).length ≤ 8002 := by
  unfold smallP at h
  rw [Bool.and_eq_true] at h
  obtain ⟨h1, h2⟩ := h
  have h1 : ps.length ≤ 20 := by simpa using h1
  have hb := parts_bound ps h2
  rw [List.all_eq_true] at h2
  refine ⟨h1, fun p hp => ?_, fun p hp => ?_, ?_⟩
  · have := h2 p hp; unfold okQ at this; simp at this; exact this.1
  · have := h2 p hp; unfold okQ at this; simp at this; exact this.2
  · unfold print; simp only [List.length_cons, List.length_append, List.length_nil]; omega
def TrueEnd3 (w : World) (e : Ending) (w' : World) : Prop := e = .returned (.bool true) ∧ Below w.heap.size w w'
theorem back_large (A : Option Addr) (n c : Nat) (ps : List Pt) (t : ByteArray) (w : World) (h : Rd w.heap.size w A n ps) (hmax : n ≤ 9223372036854775807) (hs : smallP ps = false) :
    Calls Try.prog 3 #[.slice A n c, .string t] w (TrueEnd3 w) := by
  have KA := Lib.hid (awake_any w)
  have HR := Lib.hid h
  have K7 : Hid (∀ w0, Below w.heap.size w w0 → Calls Try.prog 7 #[.slice A n c] w0 fun e w' => e = .returned (.bool false) ∧ Below w0.heap.size w0 w') :=
    Lib.hid fun w0 hb => by have := small_any A n c ps w0 (h.onto hb) hmax; rw [hs] at this; exact this
  clear h hs
  go_enter Try.func3, Try.ntmps3
  go_wp2_with (first | (go_at_call 6; ((with_reducible refine (KA.out).mono ?_)); rintro e w0 ⟨rfl, hb0⟩) | (go_at_call 7; ((with_reducible refine (K7.out _ hb0).mono ?_)); rintro e w1 ⟨rfl, hb1⟩))
  go_ret
  exact ⟨rfl, hb0.trans (hb1.mono hb0.size)⟩
theorem back_more (A : Option Addr) (n c : Nat) (ps : List Pt) (t : ByteArray) (w : World) (h : Rd w.heap.size w A n ps) (hmax : n ≤ 9223372036854775807) (hs : smallP ps = true) (ht : 30 < t.size) :
    Calls Try.prog 3 #[.slice A n c, .string t] w (TrueEnd3 w) := by
  have KA := Lib.hid (awake_any w)
  have K7 : Hid (∀ w0, Below w.heap.size w w0 → Calls Try.prog 7 #[.slice A n c] w0 fun e w' => e = .returned (.bool true) ∧ Below w0.heap.size w0 w') :=
    Lib.hid fun w0 hb => by have := small_any A n c ps w0 (h.onto hb) hmax; rw [hs] at this; exact this
  clear h hs
  go_enter Try.func3, Try.ntmps3
  go_wp2_with (first | (go_at_call 6; ((with_reducible refine (KA.out).mono ?_)); rintro e w0 ⟨rfl, hb0⟩) | (go_at_call 7; ((with_reducible refine (K7.out _ hb0).mono ?_)); rintro e w1 ⟨rfl, hb1⟩))
  go_ret
  exact ⟨rfl, hb0.trans (hb1.mono hb0.size)⟩
set_option maxRecDepth 100000 in
set_option maxHeartbeats 2000000 in
theorem back_not (A : Option Addr) (n c : Nat) (ps : List Pt) (t : ByteArray) (w : World) (h : Rd w.heap.size w A n ps) (hs : smallP ps = true) (ht : t.size ≤ 30) (hm : may false ps = false) :
    Calls Try.prog 3 #[.slice A n c, .string t] w (TrueEnd3 w) := by
  obtain ⟨f1, f2, f3, f4⟩ := small_facts hs
  have hn := h.1
  have g2 : ∀ p ∈ ps, p.1.length ≤ 1000000 := fun p hp => Nat.le_trans (f2 p hp) (by omega)
  have KA := Lib.hid (awake_any w)
  have K7 : Hid (∀ w0, Below w.heap.size w w0 → Calls Try.prog 7 #[.slice A n c] w0 fun e w' => e = .returned (.bool true) ∧ Below w0.heap.size w0 w') :=
    Lib.hid fun w0 hb => by have := small_any A n c ps w0 (h.onto hb) (by omega); rw [hs] at this; exact this
  have K8 : Hid (∀ w0, Below w.heap.size w w0 → Calls Try.prog 8 #[.slice A n c] w0 fun e w' => e = .returned (.tuple #[.string ⟨#[]⟩, .int .i64 5]) ∧ Below w0.heap.size w0 w') :=
    Lib.hid fun w0 hb => print_no A n c ps w0 (h.onto hb) (by omega) g2 hm
  have K9 : Hid (∀ w0, Below w.heap.size w w0 → Calls Try.prog 9 #[.slice A n c] w0 fun e w' => e = .returned (.bool false) ∧ Below w0.heap.size w0 w') :=
    Lib.hid fun w0 hb => by have := rmay_any A n c ps w0 (h.onto hb) (by omega) g2; rw [hm] at this; exact this
  have K10 : Hid (∀ w0, Below w.heap.size w w0 → Calls Try.prog 10 #[.slice A n c] w0 fun e w' => e = .returned (.bool false) ∧ Below w0.heap.size w0 w') :=
    Lib.hid fun w0 hb => by have := may_any A n c ps w0 (h.onto hb) (by omega) g2; rw [hm] at this; exact this
  clear h hs hm hn g2 f1 f2 f3 f4
  go_enter Try.func3, Try.ntmps3
  go_wp2_with (first | (go_at_call 6; ((with_reducible refine (KA.out).mono ?_)); rintro e w0 ⟨rfl, hb0⟩) | (go_at_call 7; ((with_reducible refine (K7.out _ hb0).mono ?_)); rintro e w1 ⟨rfl, hb1⟩; have z1 := hb0.trans (hb1.mono hb0.size)) | (go_at_call 8; ((with_reducible refine (K8.out _ z1).mono ?_)); rintro e w2 ⟨rfl, hb2⟩; have z2 := z1.trans (hb2.mono z1.size)) | (go_at_call 9; ((with_reducible refine (K9.out _ z2).mono ?_)); rintro e w3 ⟨rfl, hb3⟩; have z3 := z2.trans (hb3.mono z2.size)) | (go_at_call 10; ((with_reducible refine (K10.out _ z3).mono ?_)); rintro e w4 ⟨rfl, hb4⟩; have z4 := z3.trans (hb4.mono z3.size)))
  go_ret
  exact ⟨rfl, z4⟩
/-- What the calls answer where the parts may be. -/
structure Ans (A : Option Addr) (n c : Nat) (ps : List Pt) (t R : ByteArray) (w : World) : Prop where
  rd : Rd w.heap.size w A n ps
  k6 : Calls Try.prog 6 #[] w fun e w' => e = .returned (.bool true) ∧ Below w.heap.size w w'
  k7 : ∀ w0, Below w.heap.size w w0 → Calls Try.prog 7 #[.slice A n c] w0 fun e w' => e = .returned (.bool true) ∧ Below w0.heap.size w0 w'
  k8 : ∀ w0, Below w.heap.size w w0 → Calls Try.prog 8 #[.slice A n c] w0 fun e w' => e = .returned (.tuple #[.string R, .int .i64 0]) ∧ Below w0.heap.size w0 w'
  k9 : ∀ w0, Below w.heap.size w w0 → Calls Try.prog 9 #[.slice A n c] w0 fun e w' => e = .returned (.bool true) ∧ Below w0.heap.size w0 w'
  k10 : ∀ w0, Below w.heap.size w w0 → Calls Try.prog 10 #[.slice A n c] w0 fun e w' => e = .returned (.bool true) ∧ Below w0.heap.size w0 w'
  k11 : ∀ w0, Calls Try.prog 11 #[.string (R ++ t)] w0 fun e w' => ∃ A' c', e = .returned (.tuple #[.slice A' n c', .int .i64 R.size, .int .i64 0]) ∧ Rd w'.heap.size w' A' n ps ∧ Below w0.heap.size w0 w'
  k13 : ∀ w0, Below w.heap.size w w0 → Calls Try.prog 13 #[.slice A n c] w0 fun e w' => e = .returned (.string R) ∧ Below w0.heap.size w0 w'
  k14 : ∀ A' c' w0, Below w.heap.size w w0 → Rd w0.heap.size w0 A' n ps → Calls Try.prog 14 #[.slice A' n c', .slice A n c] w0 fun e w' => e = .returned (.bool true) ∧ Below w0.heap.size w0 w'
  rs : R.size ≤ 8002
theorem ans_of (A : Option Addr) (n c : Nat) (ps : List Pt) (t : ByteArray) (w : World) (h : Rd w.heap.size w A n ps) (hs : smallP ps = true) (ht : t.size ≤ 30) (hm : may false ps = true) : Ans A n c ps t ⟨(print ps).toArray⟩ w := by
  obtain ⟨f1, f2, f3, f4⟩ := small_facts hs
  have hn := h.1
  have g2 : ∀ p ∈ ps, p.1.length ≤ 1000000 := fun p hp => Nat.le_trans (f2 p hp) (by omega)
  have g3 : ∀ p ∈ ps, p.2.length ≤ 1000000 := fun p hp => Nat.le_trans (f3 p hp) (by omega)
  have hR : (⟨(print ps).toArray⟩ : ByteArray).data.toList = print ps := rfl
  have hRs : (⟨(print ps).toArray⟩ : ByteArray).size = (print ps).length := by rw [← len_data]
  refine ⟨h, awake_any w, fun w0 hb => ?_, fun w0 hb => ?_, fun w0 hb => ?_, fun w0 hb => ?_, fun w0 => ?_, fun w0 hb => ?_, fun A' c' w0 hb h' => ?_, by rw [hRs]; exact f4⟩
  · have := small_any A n c ps w0 (h.onto hb) (by omega); rw [hs] at this; exact this
  · exact print_yes A n c ps w0 (h.onto hb) (by omega) g2 g3 (by omega) hm
  · have := rmay_any A n c ps w0 (h.onto hb) (by omega) g2; rw [hm] at this; exact this
  · have := may_any A n c ps w0 (h.onto hb) (by omega) g2; rw [hm] at this; exact this
  · have e : (⟨(print ps).toArray⟩ ++ t : ByteArray).data.toList = print ps ++ t.data.toList := cat_data _ _ _ _ hR rfl
    have hp := parse_print ps t.data.toList hm
    rw [← e] at hp
    have hl : (⟨(print ps).toArray⟩ ++ t : ByteArray).size ≤ 100000 := by rw [← len_data, e, List.length_append, len_data]; omega
    have hq := parse_read _ hl ps _ hp w0
    rw [hRs, hn]
    generalize (⟨(print ps).toArray⟩ ++ t : ByteArray) = U at hq ⊢
    generalize (print ps).length = m at hq ⊢
    exact hq.mono fun e w' ⟨A', c', he, hr, hb⟩ => ⟨A', c', he, hr, hb⟩
  · exact rprint_any A n c ps w0 (h.onto hb) (by omega) g2 g3 (by omega)
  · exact same_any A' A n c' c ps w0 h' (h.onto hb) (by omega)
set_option maxRecDepth 100000 in
set_option maxHeartbeats 4000000 in
theorem back_zero (A : Option Addr) (c : Nat) (t R : ByteArray) (w : World) (ht : t.size ≤ 30) (h : Ans A 0 c [] t R w) :
    Calls Try.prog 3 #[.slice A 0 c, .string t] w (TrueEnd3 w) := by
  have H := Lib.hid h
  have hRs := h.rs
  have KP := Lib.hid (plain_zero A c)
  clear h
  go_enter Try.func3, Try.ntmps3
  go_wp2_with (first | (go_at_call 6; ((with_reducible refine (H.out.k6).mono ?_)); rintro e w0 ⟨rfl, hb0⟩) | (go_at_call 7; ((with_reducible refine (H.out.k7 _ hb0).mono ?_)); rintro e w1 ⟨rfl, hb1⟩; have z1 := hb0.trans (hb1.mono hb0.size)) | (go_at_call 8; ((with_reducible refine (H.out.k8 _ z1).mono ?_)); rintro e w2 ⟨rfl, hb2⟩; have z2 := z1.trans (hb2.mono z1.size)) | (go_at_call 9; ((with_reducible refine (H.out.k9 _ z2).mono ?_)); rintro e w3 ⟨rfl, hb3⟩; have z3 := z2.trans (hb3.mono z2.size)) | (go_at_call 11; ((with_reducible refine (H.out.k11 _).mono ?_)); rintro e w4 ⟨A', c', rfl, hr4, hb4⟩; have z4 := z3.trans (hb4.mono z3.size); have HG := Lib.hid hr4; clear hr4) | (go_at_call 12; ((with_reducible refine (KP.out _).mono ?_)); rintro e w5 ⟨rfl, hb5⟩; have z5 := z4.trans (hb5.mono z4.size); have y5 := hb5) | (go_at_call 10; ((with_reducible refine (H.out.k10 _ z5).mono ?_)); rintro e w6 ⟨rfl, hb6⟩; have z6 := z5.trans (hb6.mono z5.size); have y6 := hb5.trans (hb6.mono hb5.size)) | (go_at_call 13; ((with_reducible refine (H.out.k13 _ z6).mono ?_)); rintro e w7 ⟨rfl, hb7⟩; have z7 := z6.trans (hb7.mono z6.size); have y7 := y6.trans (hb7.mono y6.size)) | (go_at_call 14; ((with_reducible refine (H.out.k14 _ _ _ z7 (HG.out.onto y7)).mono ?_)); rintro e w8 ⟨rfl, hb8⟩; have z8 := z7.trans (hb8.mono z7.size)))
  go_ret
  exact ⟨rfl, z8⟩
set_option maxRecDepth 100000 in
set_option maxHeartbeats 4000000 in
theorem back_many (A : Option Addr) (n c : Nat) (ps : List Pt) (t R : ByteArray) (w : World) (ht : t.size ≤ 30) (h : Ans A n c ps t R w) (hn1 : 1 < n) (hn : n ≤ 1000000) :
    Calls Try.prog 3 #[.slice A n c, .string t] w (TrueEnd3 w) := by
  have H := Lib.hid h
  have hRs := h.rs
  have KP := Lib.hid (plain_many A n c hn1 hn)
  have q0 : ((n : Int) == 0) = false := by simp; omega
  have q1 : ((n : Int) == 1) = false := by simp; omega
  have q2 : (n == 0) = false := by simp; omega
  have q3 : (n == 1) = false := by simp; omega
  have q4 : 0 < n := by omega
  clear h
  go_enter Try.func3, Try.ntmps3
  go_wp2_with (first | (go_at_call 6; ((with_reducible refine (H.out.k6).mono ?_)); rintro e w0 ⟨rfl, hb0⟩) | (go_at_call 7; ((with_reducible refine (H.out.k7 _ hb0).mono ?_)); rintro e w1 ⟨rfl, hb1⟩; have z1 := hb0.trans (hb1.mono hb0.size)) | (go_at_call 8; ((with_reducible refine (H.out.k8 _ z1).mono ?_)); rintro e w2 ⟨rfl, hb2⟩; have z2 := z1.trans (hb2.mono z1.size)) | (go_at_call 9; ((with_reducible refine (H.out.k9 _ z2).mono ?_)); rintro e w3 ⟨rfl, hb3⟩; have z3 := z2.trans (hb3.mono z2.size)) | (go_at_call 11; ((with_reducible refine (H.out.k11 _).mono ?_)); rintro e w4 ⟨A', c', rfl, hr4, hb4⟩; have z4 := z3.trans (hb4.mono z3.size); have HG := Lib.hid hr4; clear hr4) | (go_at_call 12; ((with_reducible refine (KP.out _).mono ?_)); rintro e w5 ⟨rfl, hb5⟩; have z5 := z4.trans (hb5.mono z4.size); have y5 := hb5) | (go_at_call 10; ((with_reducible refine (H.out.k10 _ z5).mono ?_)); rintro e w6 ⟨rfl, hb6⟩; have z6 := z5.trans (hb6.mono z5.size); have y6 := hb5.trans (hb6.mono hb5.size)) | (go_at_call 13; ((with_reducible refine (H.out.k13 _ z6).mono ?_)); rintro e w7 ⟨rfl, hb7⟩; have z7 := z6.trans (hb7.mono z6.size); have y7 := y6.trans (hb7.mono y6.size)) | (go_at_call 14; ((with_reducible refine (H.out.k14 _ _ _ z7 (HG.out.onto y7)).mono ?_)); rintro e w8 ⟨rfl, hb8⟩; have z8 := z7.trans (hb8.mono z7.size)))
  go_ret
  exact ⟨rfl, z8⟩
set_option maxRecDepth 100000 in
set_option maxHeartbeats 4000000 in
theorem back_text (A : Option Addr) (c : Nat) (p : Pt) (N T : ByteArray) (hN : N = ⟨p.1.toArray⟩) (hT : T = ⟨p.2.toArray⟩) (t R : ByteArray) (w : World) (ht : t.size ≤ 30) (h : Ans A 1 c [p] t R w) (hp : p.1 = []) (hp2 : ¬ p.2 = []) (hTs : T.size ≤ 1000000) :
    Calls Try.prog 3 #[.slice A 1 c, .string t] w (TrueEnd3 w) := by
  have H := Lib.hid h
  have hRs := h.rs
  obtain ⟨ad, rfl, hr⟩ := h.rd.2 (by omega)
  have HC : Hid (∀ w1, Below w.heap.size w w1 → w1.cell? ad = some (.string N) ∧ w1.cell? ⟨ad.block, ad.off + 1, none⟩ = some (.string T)) := Lib.hid fun w1 hb => by rw [hN, hT]; exact (hr.keep hb).at0 (p := p) rfl
  have KP : Hid (∀ w0, Below w.heap.size w w0 → Calls Try.prog 12 #[.slice (some ad) 1 c] w0 fun e w' => e = .returned (.tuple #[.string T, .bool true]) ∧ Below w0.heap.size w0 w') := Lib.hid fun w0 hb => plain_text (some ad) c p T hT w0 (h.rd.onto hb) hp hp2 hTs
  obtain ⟨n1, n2⟩ := tx_nil hN hp
  clear hr hN hT hp hp2
  clear h
  go_enter Try.func3, Try.ntmps3
  go_wp2_with (first | (go_at_call 6; ((with_reducible refine (H.out.k6).mono ?_)); rintro e w0 ⟨rfl, hb0⟩) | (go_at_call 7; ((with_reducible refine (H.out.k7 _ hb0).mono ?_)); rintro e w1 ⟨rfl, hb1⟩; have z1 := hb0.trans (hb1.mono hb0.size)) | (go_at_call 8; ((with_reducible refine (H.out.k8 _ z1).mono ?_)); rintro e w2 ⟨rfl, hb2⟩; have z2 := z1.trans (hb2.mono z1.size)) | (go_at_call 9; ((with_reducible refine (H.out.k9 _ z2).mono ?_)); rintro e w3 ⟨rfl, hb3⟩; have z3 := z2.trans (hb3.mono z2.size)) | (go_at_call 11; ((with_reducible refine (H.out.k11 _).mono ?_)); rintro e w4 ⟨A', c', rfl, hr4, hb4⟩; have z4 := z3.trans (hb4.mono z3.size); have HG := Lib.hid hr4; clear hr4) | (go_at_call 12; ((with_reducible refine (KP.out _ z4).mono ?_)); rintro e w5 ⟨rfl, hb5⟩; have z5 := z4.trans (hb5.mono z4.size); obtain ⟨d0, d1⟩ := HC.out _ z5) | (go_at_call 10; ((with_reducible refine (H.out.k10 _ z5).mono ?_)); rintro e w6 ⟨rfl, hb6⟩; have z6 := z5.trans (hb6.mono z5.size); have y6 := hb5.trans (hb6.mono hb5.size)) | (go_at_call 13; ((with_reducible refine (H.out.k13 _ z6).mono ?_)); rintro e w7 ⟨rfl, hb7⟩; have z7 := z6.trans (hb7.mono z6.size); have y7 := y6.trans (hb7.mono y6.size)) | (go_at_call 14; ((with_reducible refine (H.out.k14 _ _ _ z7 (HG.out.onto y7)).mono ?_)); rintro e w8 ⟨rfl, hb8⟩; have z8 := z7.trans (hb8.mono z7.size)))
  go_ret
  exact ⟨rfl, z8⟩
set_option maxRecDepth 100000 in
set_option maxHeartbeats 4000000 in
theorem back_var (A : Option Addr) (c : Nat) (p : Pt) (N T : ByteArray) (hN : N = ⟨p.1.toArray⟩) (hT : T = ⟨p.2.toArray⟩) (t R : ByteArray) (w : World) (ht : t.size ≤ 30) (h : Ans A 1 c [p] t R w) (hp : ¬ p.1 = []) :
    Calls Try.prog 3 #[.slice A 1 c, .string t] w (TrueEnd3 w) := by
  have H := Lib.hid h
  have hRs := h.rs
  obtain ⟨ad, rfl, hr⟩ := h.rd.2 (by omega)
  have HC : Hid (∀ w1, Below w.heap.size w w1 → w1.cell? ad = some (.string N) ∧ w1.cell? ⟨ad.block, ad.off + 1, none⟩ = some (.string T)) := Lib.hid fun w1 hb => by rw [hN, hT]; exact (hr.keep hb).at0 (p := p) rfl
  have KP : Hid (∀ w0, Below w.heap.size w w0 → Calls Try.prog 12 #[.slice (some ad) 1 c] w0 fun e w' => e = .returned (.tuple #[.string ⟨#[]⟩, .bool false]) ∧ Below w0.heap.size w0 w') := Lib.hid fun w0 hb => plain_var (some ad) c p w0 (h.rd.onto hb) hp
  obtain ⟨n1, n2⟩ := tx_some hN hp
  clear hr hN hT hp
  clear h
  go_enter Try.func3, Try.ntmps3
  go_wp2_with (first | (go_at_call 6; ((with_reducible refine (H.out.k6).mono ?_)); rintro e w0 ⟨rfl, hb0⟩) | (go_at_call 7; ((with_reducible refine (H.out.k7 _ hb0).mono ?_)); rintro e w1 ⟨rfl, hb1⟩; have z1 := hb0.trans (hb1.mono hb0.size)) | (go_at_call 8; ((with_reducible refine (H.out.k8 _ z1).mono ?_)); rintro e w2 ⟨rfl, hb2⟩; have z2 := z1.trans (hb2.mono z1.size)) | (go_at_call 9; ((with_reducible refine (H.out.k9 _ z2).mono ?_)); rintro e w3 ⟨rfl, hb3⟩; have z3 := z2.trans (hb3.mono z2.size)) | (go_at_call 11; ((with_reducible refine (H.out.k11 _).mono ?_)); rintro e w4 ⟨A', c', rfl, hr4, hb4⟩; have z4 := z3.trans (hb4.mono z3.size); have HG := Lib.hid hr4; clear hr4) | (go_at_call 12; ((with_reducible refine (KP.out _ z4).mono ?_)); rintro e w5 ⟨rfl, hb5⟩; have z5 := z4.trans (hb5.mono z4.size); obtain ⟨d0, d1⟩ := HC.out _ z5) | (go_at_call 10; ((with_reducible refine (H.out.k10 _ z5).mono ?_)); rintro e w6 ⟨rfl, hb6⟩; have z6 := z5.trans (hb6.mono z5.size); have y6 := hb5.trans (hb6.mono hb5.size)) | (go_at_call 13; ((with_reducible refine (H.out.k13 _ z6).mono ?_)); rintro e w7 ⟨rfl, hb7⟩; have z7 := z6.trans (hb7.mono z6.size); have y7 := y6.trans (hb7.mono y6.size)) | (go_at_call 14; ((with_reducible refine (H.out.k14 _ _ _ z7 (HG.out.onto y7)).mono ?_)); rintro e w8 ⟨rfl, hb8⟩; have z8 := z7.trans (hb8.mono z7.size)))
  go_ret
  exact ⟨rfl, z8⟩
theorem walk_back (A : Option Addr) (n c : Nat) (ps : List Pt) (t : ByteArray) (w : World) (h : Rd w.heap.size w A n ps) (hmax : n ≤ 9223372036854775807) :
    Calls Try.prog 3 #[.slice A n c, .string t] w fun e w' => e = .returned (.bool true) ∧ Below w.heap.size w w' := by
  by_cases hs : smallP ps = true
  · by_cases ht : 30 < t.size
    · exact back_more A n c ps t w h hmax hs ht
    · have ht : t.size ≤ 30 := by omega
      by_cases hm : may false ps = true
      · have ans := ans_of A n c ps t w h hs ht hm
        obtain ⟨f1, f2, f3, f4⟩ := small_facts hs
        have hn := h.1
        rcases ps with _ | ⟨p, _ | ⟨q, r⟩⟩
        · obtain rfl : n = 0 := hn
          exact back_zero A c t _ w ht ans
        · obtain rfl : n = 1 := hn
          by_cases e1 : p.1 = []
          · have e2 : ¬ p.2 = [] := by
              intro e2
              rw [may_cons] at hm
              simp [okP, e1, e2] at hm
            refine back_text A c p ⟨p.1.toArray⟩ ⟨p.2.toArray⟩ rfl rfl t _ w ht ans e1 e2 ?_
            rw [← len_data]
            exact Nat.le_trans (f3 p (by simp)) (by omega)
          · exact back_var A c p ⟨p.1.toArray⟩ ⟨p.2.toArray⟩ rfl rfl t _ w ht ans e1
        · exact back_many A n c _ t _ w ht ans (by rw [hn]; simp) (by omega)
      · exact back_not A n c ps t w h hs ht (Bool.eq_false_iff.2 hm)
  · exact back_large A n c ps t w h hmax (Bool.eq_false_iff.2 hs)
end Go.Proofs.Ytgamlhhchagnaaa
