/- The statements' first lines: what 'awake' answers: true. And the readers' contracts in the form that the statements want. -/
import Derived.Test.YtgamlhhchagnaaaPlainC
namespace Go.Proofs.Ytgamlhhchagnaaa
open Go Go.RowKit

/-- A list that was read, as a slice. -/
def Read (w : World) (ps : List Pt) (m : Nat) (e : Ending) (w' : World) : Prop :=
  ∃ A c, e = .returned (.tuple #[.slice A ps.length c, .int .i64 m, .int .i64 0]) ∧ Rd w'.heap.size w' A ps.length ps ∧ Below w.heap.size w w'
def NoRead (w : World) (m : Nat) (e : Ending) (w' : World) : Prop :=
  ∃ A c, e = .returned (.tuple #[.slice A 0 c, .int .i64 m, .int .i64 1]) ∧ Below w.heap.size w w'
theorem postP_read {w w' : World} {e : Ending} {ps : List Pt} {m : Nat} (h : PostP w.heap.size w (some ps, m) e w') : Read w ps m e w' := by
  obtain ⟨v, he, ho, hb⟩ := h
  obtain ⟨A, c, rfl, hr⟩ := rd_of_own (ps := ps) ho
  exact ⟨A, c, he, hr, hb⟩
theorem postP_noread {w w' : World} {e : Ending} {m : Nat} (h : PostP w.heap.size w (none, m) e w') : NoRead w m e w' := by
  obtain ⟨v, he, ho, hb⟩ := h
  obtain ⟨A, c, rfl, hr⟩ := rd_of_own (ps := []) ho
  exact ⟨A, c, he, hb⟩
theorem parse_read (s : ByteArray) (hs : s.size ≤ 100000) (ps : List Pt) (m : Nat) (h : parse s.data.toList = (some ps, m)) (w : World) : Calls Try.prog 11 #[.string s] w (Read w ps m) :=
  (parse_any s hs w).mono fun e w' hp => postP_read (by rw [← h]; exact hp)
theorem parse_noread (s : ByteArray) (hs : s.size ≤ 100000) (m : Nat) (h : parse s.data.toList = (none, m)) (w : World) : Calls Try.prog 11 #[.string s] w (NoRead w m) :=
  (parse_any s hs w).mono fun e w' hp => postP_noread (by rw [← h]; exact hp)
theorem rparse_read (s : ByteArray) (hs : s.size ≤ 1000) (ps : List Pt) (m : Nat) (h : parse s.data.toList = (some ps, m)) (w : World) : Calls Try.prog 15 #[.string s] w (Read w ps m) :=
  (rparse_any s hs w).mono fun e w' hp => postP_read (by rw [← h]; exact hp)
theorem rparse_noread (s : ByteArray) (hs : s.size ≤ 1000) (m : Nat) (h : parse s.data.toList = (none, m)) (w : World) : Calls Try.prog 15 #[.string s] w (NoRead w m) :=
  (rparse_any s hs w).mono fun e w' hp => postP_noread (by rw [← h]; exact hp)
theorem RdA.lit {B : Nat} {w : World} {ad : Addr} {ps : List Pt} (h : RdA B w ad ps) (j : Nat) (hj : j ≠ 0) (u : Value) (hu : (cellsP ps)[j]? = some u) : w.cell? ⟨ad.block, ad.off + j, none⟩ = some u := by
  have := h.2 j u hu
  unfold Addr.add at this
  rwa [if_neg hj] at this
def P0 : List Pt := [([], [97]), ([98], []), ([], [0])]
def S0 : ByteArray := ⟨#[34, 97, 36, 123, 98, 125, 92, 120, 48, 48, 34, 32, 109, 111, 114, 101]⟩
theorem parse0 : parse S0.data.toList = (some P0, 11) := by decide +kernel
theorem print0 : print P0 = [34, 97, 36, 123, 98, 125, 92, 120, 48, 48, 34] := by decide +kernel
theorem may0 : may false P0 = true := by decide +kernel
theorem first0 (w : World) : Calls Try.prog 11 #[.string ⟨#[34, 97, 36, 123, 98, 125, 92, 120, 48, 48, 34, 32, 109, 111, 114, 101]⟩] w fun e w' =>
    ∃ ad c, e = .returned (.tuple #[.slice (some ad) 3 c, .int .i64 11, .int .i64 0]) ∧ RdA w'.heap.size w' ad P0 ∧ Below w.heap.size w w' :=
  (parse_read S0 (by decide) P0 11 parse0 w).mono fun e w' ⟨A, c, he, hr, hb⟩ => by
    obtain ⟨ad, rfl, hr2⟩ := hr.2 (by decide)
    exact ⟨ad, c, he, hr2, hb⟩
theorem second0 (ad : Addr) (c : Nat) (w : World) (h : RdA w.heap.size w ad P0) : Calls Try.prog 8 #[.slice (some ad) 3 c] w fun e w' =>
    e = .returned (.tuple #[.string ⟨#[34, 97, 36, 123, 98, 125, 92, 120, 48, 48, 34]⟩, .int .i64 0]) ∧ Below w.heap.size w w' := by
  have := print_yes (some ad) 3 c P0 w ⟨rfl, fun _ => ⟨ad, rfl, h⟩⟩ (by omega) (by decide) (by decide) (by rw [print0]; decide) may0
  rw [print0] at this
  exact this
set_option maxHeartbeats 1000000 in
theorem awake_any (w : World) : Calls Try.prog 6 #[] w fun e w' => e = .returned (.bool true) ∧ Below w.heap.size w w' := by
  have K1 := Lib.hid (first0 w)
  have K2 := Lib.hid second0
  go_enter Try.func6, Try.ntmps6
  go_wp2_with (first | (go_at_call 11; ((with_reducible refine (K1.out).mono ?_)); rintro e w1 ⟨ad, c, rfl, hr, hb1⟩; have HR := Lib.hid hr; clear hr) | (go_at_call 8; ((with_reducible refine (K2.out _ _ _ HR.out).mono ?_)); rintro e w2 ⟨rfl, hb2⟩; have c0 := (HR.out.keep hb2).lit 2 (by decide) (.string ⟨#[98]⟩) rfl; have d0 := (HR.out.keep hb2).lit 5 (by decide) (.string ⟨#[0]⟩) rfl))
  go_ret
  exact ⟨rfl, hb1.trans (hb2.mono hb1.size)⟩
end Go.Proofs.Ytgamlhhchagnaaa
