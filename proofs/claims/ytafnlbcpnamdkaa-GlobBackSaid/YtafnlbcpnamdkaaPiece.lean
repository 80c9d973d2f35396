/- The contract of the code's reader of one piece, for every text of up to a million bytes. -/
import Derived.Test.YtafnlbcpnamdkaaRSpans
namespace Go.Proofs.Ytafnlbcpnamdkaa
open Go Go.RowKit

def posG (R : Res Gl) : Nat := match R with | .bad q => q | .ok _ q => q
def okR (R : Res Gl) : Bool := match R with | .bad _ => false | .ok _ _ => true
/-- What the code's reader of a piece leaves. -/
def PostG (w0 : World) (R : Res Gl) (e : Ending) (w' : World) : Prop :=
  ∃ (g : Gl) (v : Value), e = .returned (.tuple #[.agg #[.int .i64 g.kind, .int .u8 g.byte.toNat, v], .int .i64 (posG R), .bool (okR R)]) ∧ RowS w0.heap.size w0 w' v g.spans ∧ ∀ g' q, R = .ok g' q → g' = g
theorem bcell {W w1 : World} (hb : Below W.heap.size W w1) : (∀ b o, b < W.heap.size → w1.cell? ⟨b, o, none⟩ = W.cell? ⟨b, o, none⟩) ∧ (∀ b o, b < W.heap.size → w1.frozen? ⟨b, o, none⟩ = W.frozen? ⟨b, o, none⟩) :=
  ⟨fun b o h => hb.cell (p := ⟨b, o, none⟩) h, fun b o h => hb.frozen (p := ⟨b, o, none⟩) h⟩
theorem size_le {w w1 : World} {o : Obj} (hb : Below (w.alloc o).heap.size (w.alloc o) w1) : w.heap.size + 1 ≤ w1.heap.size := by
  have := hb.size
  simp at this; omega
theorem own_set {w : World} {B T s n : Nat} {v : Value} {xs : List Value} (h : w.ownsRow B T s v n xs) {p : Addr} (hlt : p.block < B) (u : Value) : (w.setCell p u).ownsRow B T s v n xs := by
  refine h.kept (w' := w.setCell p u) (row := some p.block) ⟨rfl, rfl, rfl, by simp, fun k _ hk => Below.heap_setCell w p u k (fun e => hk (by rw [e]))⟩ ?_
  rcases hv : v.ownBlock with _ | b
  · exact .inl rfl
  · right
    have := (h.lt b hv).1
    intro e
    injection e with e
    omega
theorem row_box {w w1 : World} {o : Obj} {T s n : Nat} {v : Value} {xs : List Value} (h : Row1 T s (w.alloc o).heap.size (w.alloc o) w1 v n xs) (u0 u1 u2 : Value) :
    Row1 T s w.heap.size w (((w1.setCell ⟨w.heap.size, 0, none⟩ u0).setCell ⟨w.heap.size, 1, none⟩ u1).setCell ⟨w.heap.size, 2, none⟩ u2) v n xs := by
  have e : (w.alloc o).heap.size = w.heap.size + 1 := by simp
  have hz := size_le h.below
  refine ⟨(own_set (own_set (own_set h.row ?_ u0) ?_ u1) ?_ u2).mono (by omega), ?_, by simp; omega⟩
  · rw [e]; exact Nat.lt_succ_self _
  · rw [e]; exact Nat.lt_succ_self _
  · rw [e]; exact Nat.lt_succ_self _
  · exact ((((((Below.refl _ _).alloc (Nat.le_refl _) o).trans (h.below.mono (by omega))).setCell (Nat.le_refl _) u0).setCell (Nat.le_refl _) u1).setCell (Nat.le_refl _) u2)
set_option maxHeartbeats 2000000 in
theorem readpiece_any (s : ByteArray) (k : Nat) (hk : k < s.size) (hs : s.size ≤ 1000000) (w : World) :
    Calls Try.prog 23 #[.string s, .int .i64 k] w (PostG w (piece s.data.toList k)) := by
  obtain ⟨R, hR⟩ : ∃ R, R = piece s.data.toList k := ⟨_, rfl⟩
  rw [← hR]
  unfold piece at hR
  rw [get_at s k hk] at hR
  simp only [Option.some.injEq] at hR
  by_cases c42 : s[k] = 42
  · have b42 : ((s[k].toNat : Int) == 42) = true := byte_eq (n := 42) c42 (by omega)
    rw [if_pos c42] at hR
    have HR := Lib.hid hR
    clear hR c42
    go_enter Try.func23, Try.ntmps23
    go_wp2
    rw [HR.out]
    exact bodyPost_ret (v := .tuple #[.agg #[.int .i64 2, .int .u8 0, .slice none 0 0], .int .i64 ((k : Int) + 1), .bool true]) (by simp [results, Try.results23, go_sem]) rfl ⟨⟨2, 0, []⟩, _, rfl, ⟨World.ownsRow_nil _ _ _ _, (Below.refl _ _).alloc (Nat.le_refl _) _, by simp⟩, by intro g' q h; injection h with h _; exact h.symm⟩
  · have b42 : ((s[k].toNat : Int) == 42) = false := byte_ne (n := 42) c42 (by omega)
    rw [if_neg c42] at hR
    by_cases c63 : s[k] = 63
    · have b63 : ((s[k].toNat : Int) == 63) = true := byte_eq (n := 63) c63 (by omega)
      rw [if_pos c63] at hR
      have HR := Lib.hid hR
      clear hR c42 c63
      go_enter Try.func23, Try.ntmps23
      go_wp2
      rw [HR.out]
      exact bodyPost_ret (v := .tuple #[.agg #[.int .i64 1, .int .u8 0, .slice none 0 0], .int .i64 ((k : Int) + 1), .bool true]) (by simp [results, Try.results23, go_sem]) rfl ⟨⟨1, 0, []⟩, _, rfl, ⟨World.ownsRow_nil _ _ _ _, (Below.refl _ _).alloc (Nat.le_refl _) _, by simp⟩, by intro g' q h; injection h with h _; exact h.symm⟩
    · have b63 : ((s[k].toNat : Int) == 63) = false := byte_ne (n := 63) c63 (by omega)
      rw [if_neg c63] at hR
      by_cases c91 : s[k] = 91
      · have b91 : ((s[k].toNat : Int) == 91) = true := byte_eq (n := 91) c91 (by omega)
        rw [if_pos c91] at hR
        have K32 : Hid (∀ w, Calls Try.prog 32 #[.string s, .int .i64 ((k : Int) + 1)] w (PostS w (goS s.data.toList (k + 1) []))) := Lib.hid fun w => readitems_any s (k + 1) hk hs w
        obtain ⟨RS, hRS⟩ : ∃ RS, RS = goS s.data.toList (k + 1) [] := ⟨_, rfl⟩
        rw [← hRS] at K32 hR
        have HR := Lib.hid hR
        clear hR c42 c63 c91 hRS
        go_enter Try.func23, Try.ntmps23
        go_wp2_with (go_at_call 32; ((with_reducible refine (K32.out _).mono ?_)); rintro e w1 ⟨v, rfl, hrow⟩; obtain ⟨A, c, rfl⟩ := row_slice hrow.row; obtain ⟨hc, hf⟩ := bcell hrow.below; have hz := size_le hrow.below; have HROW := Lib.hid hrow; clear hrow)
        rw [HR.out]
        refine bodyPost_ret (v := .tuple #[.agg #[.int .i64 3, .int .u8 0, .slice A (lstS RS).length c], .int .i64 (posS RS), .bool (okS' RS)]) (by simp [results, Try.results23, go_sem, hc]) rfl ⟨⟨3, 0, lstS RS⟩, _, ?_, row_box HROW.out _ _ _, ?_⟩
        · cases RS <;> rfl
        · intro g' q h
          cases RS with
          | bad q => cases h
          | ok l q => injection h with h _; exact h.symm
      · have b91 : ((s[k].toNat : Int) == 91) = false := byte_ne (n := 91) c91 (by omega)
        rw [if_neg c91] at hR
        have K33 : Hid (∀ w, Calls Try.prog 33 #[.string s, .int .i64 (k : Int), .string ⟨#[]⟩] w fun e w' => e = .returned (resB (rb [] s.data.toList k)) ∧ w = w') := Lib.hid fun w => readbyte_any ⟨#[]⟩ s [] k looksE (by omega) hs w
        rcases h1 : rb [] s.data.toList k with q | ⟨c, q⟩
        · rw [h1] at K33 hR
          have K33 : Hid (∀ w, Calls Try.prog 33 #[.string s, .int .i64 (k : Int), .string ⟨#[]⟩] w fun e w' => e = .returned (.tuple #[.int .u8 0, .int .i64 q, .bool false]) ∧ w = w') := K33
          have HR := Lib.hid hR
          clear hR c42 c63 c91 h1
          go_enter Try.func23, Try.ntmps23
          go_wp2_with (go_at_call 33; ((with_reducible refine (K33.out _).mono ?_)); rintro e w1 ⟨rfl, rfl⟩)
          rw [HR.out]
          exact bodyPost_ret (v := .tuple #[.agg #[.int .i64 0, .int .u8 0, .slice none 0 0], .int .i64 q, .bool false]) (by simp [results, Try.results23, go_sem]) rfl ⟨⟨0, 0, []⟩, _, rfl, ⟨World.ownsRow_nil _ _ _ _, (Below.refl _ _).alloc (Nat.le_refl _) _, by simp⟩, by intro g' q h; cases h⟩
        · rw [h1] at K33 hR
          have K33 : Hid (∀ w, Calls Try.prog 33 #[.string s, .int .i64 (k : Int), .string ⟨#[]⟩] w fun e w' => e = .returned (.tuple #[.int .u8 c.toNat, .int .i64 q, .bool true]) ∧ w = w') := K33
          have HR := Lib.hid hR
          clear hR c42 c63 c91 h1
          go_enter Try.func23, Try.ntmps23
          go_wp2_with (go_at_call 33; ((with_reducible refine (K33.out _).mono ?_)); rintro e w1 ⟨rfl, rfl⟩)
          rw [HR.out]
          exact bodyPost_ret (v := .tuple #[.agg #[.int .i64 0, .int .u8 c.toNat, .slice none 0 0], .int .i64 q, .bool true]) (by simp [results, Try.results23, go_sem]) rfl ⟨⟨0, c, []⟩, _, rfl, ⟨World.ownsRow_nil _ _ _ _, (Below.refl _ _).alloc (Nat.le_refl _) _, by simp⟩, by intro g' q h; injection h with h _; exact h.symm⟩
end Go.Proofs.Ytafnlbcpnamdkaa
