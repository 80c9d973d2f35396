/- The contract of the code's reader of a text, for every text of up to a million bytes. -/
import Derived.Test.YtafnlbcpnamdkaaPiece
namespace Go.Proofs.Ytafnlbcpnamdkaa
open Go Go.RowKit

def PBad (w0 : World) (q : Nat) (e : Ending) (w' : World) : Prop :=
  ∃ (g : Gl) (v : Value), e = .returned (.tuple #[.agg #[.int .i64 g.kind, .int .u8 g.byte.toNat, v], .int .i64 q, .bool false]) ∧ RowS w0.heap.size w0 w' v g.spans
def POk (w0 : World) (g : Gl) (q : Nat) (e : Ending) (w' : World) : Prop :=
  ∃ v : Value, e = .returned (.tuple #[.agg #[.int .i64 g.kind, .int .u8 g.byte.toNat, v], .int .i64 q, .bool true]) ∧ RowS w0.heap.size w0 w' v g.spans
theorem piece_b (s : ByteArray) (k q : Nat) (hk : k < s.size) (hs : s.size ≤ 1000000) (h : piece s.data.toList k = .bad q) (w : World) : Calls Try.prog 23 #[.string s, .int .i64 k] w (PBad w q) := by
  have := readpiece_any s k hk hs w
  rw [h] at this
  exact this.mono fun e w' ⟨g, v, he, hr, _⟩ => ⟨g, v, he, hr⟩
theorem piece_o (s : ByteArray) (k q : Nat) (g : Gl) (hk : k < s.size) (hs : s.size ≤ 1000000) (h : piece s.data.toList k = .ok g q) (w : World) : Calls Try.prog 23 #[.string s, .int .i64 k] w (POk w g q) := by
  have := readpiece_any s k hk hs w
  rw [h] at this
  exact this.mono fun e w' ⟨g', v, he, hr, hg⟩ => by
    obtain rfl := hg g q rfl
    exact ⟨v, he, hr⟩
/-- What a reader leaves. -/
def PostP (w0 : World) (R : Option (List Gl) × Nat × Int) (e : Ending) (w' : World) : Prop :=
  ∃ (v : Value) (l : List Gv), e = .returned (.tuple #[v, .int .i64 R.2.1, .int .i64 R.2.2]) ∧ Pcs w0.heap.size w0 w' v l ∧ l.map (·.1) = R.1.getD []
def LoopP (s : ByteArray) (w0 : World) (R : Option (List Gl) × Nat) (v a : Value) (w : World) : Prop :=
  ∃ (k : Nat) (l : List Gv), k ≤ s.size ∧ a = .int .i64 k ∧ goP s.data.toList k (l.map (·.1)) = R ∧ Pcs w0.heap.size w0 w v l ∧ l.length ≤ k
def outP (R : Option (List Gl) × Nat) : Option (List Gl) × Nat × Int := match R with | (none, q) => (none, q, 1) | (some l, q) => (some l, q, 0)
theorem parse_out (s : Bs) (h : ¬ 200 < s.length) : parse s = outP (goP s 0 []) := by unfold parse outP; rw [if_neg h]; rfl
set_option maxHeartbeats 2000000 in
theorem parse_any (s : ByteArray) (hs : s.size ≤ 1000000) (w : World) : Calls Try.prog 13 #[.string s] w (PostP w (parse s.data.toList)) := by
  by_cases h200 : 200 < s.size
  · have hR : parse s.data.toList = (none, 200, 2) := by unfold parse; rw [if_pos (by rw [len_data]; exact h200)]
    rw [hR]
    clear hR
    go_enter Try.func13, Try.ntmps13
    go_wp2
    go_ret3
    exact ⟨_, [], rfl, Pcs.nil w, rfl⟩
  · obtain ⟨R, hR⟩ : ∃ R, R = goP s.data.toList 0 [] := ⟨_, rfl⟩
    rw [parse_out _ (by rw [len_data]; exact h200), ← hR]
    have HR := Lib.hid hR.symm
    obtain ⟨i0, hi0, hz0, hz1, hz2⟩ := info_parts info40
    clear hR
    go_enter Try.func13, Try.ntmps13
    go_wp2
    go_loopw [5, 6] (fun v a wr => LoopP s w R v a wr) (fun _ a _ => s.size - (intOf a).toNat)
    case atStart => exact ⟨0, [], by omega, rfl, HR.out, Pcs.nil w, by simp⟩
    case round =>
      obtain ⟨k, l, hk, rfl, hg, hT, hl⟩ := hrel
      have HG := Lib.hid hg
      have HT := Lib.hid hT
      clear hg hT
      by_cases a : k < s.size
      · rcases hp : piece s.data.toList k with q | ⟨g, q⟩
        · have HX : Hid (R = (none, q)) := Lib.hid (by rw [← HG.out, goP_bad (by rw [len_data]; exact a) hp])
          have K := Lib.hid fun w => piece_b s k q a hs hp w
          clear hp
          go_wp2_with (go_at_call 23; ((with_reducible refine (K.out _).mono ?_)); rintro e w1 ⟨g, v, rfl, hrow⟩; obtain ⟨A, c, rfl⟩ := row_slice hrow.row; have HROW := Lib.hid hrow; clear hrow)
          go_ret3
          rw [HX.out]
          have HN := (HT.out.beyond HROW.out.below).alloc (.cells #[.int .i64 g.kind, .int .u8 g.byte.toNat, .slice A g.spans.length c] 40)
          exact ⟨_, [], rfl, ⟨World.ownsRow_nil _ _ _ _, by simp, HN.below, HN.size⟩, rfl⟩
        · obtain ⟨q1, q2⟩ := piece_ok (by rw [len_data]; exact a) hp
          rw [len_data] at q2
          have HX : Hid (goP s.data.toList q (l.map (·.1) ++ [g]) = R) := Lib.hid (by rw [← HG.out, goP_ok (by rw [len_data]; exact a) hp])
          have K := Lib.hid fun w => piece_o s k q g a hs hp w
          clear hp
          go_wp2_with (first | (go_at_call 23; ((with_reducible refine (K.out _).mono ?_)); rintro e w1 ⟨v, rfl, hrow⟩; obtain ⟨A, c, rfl⟩ := row_slice hrow.row; have HROW := Lib.hid hrow; clear hrow) | (at_builtin; refine wpList_append_own _ rfl (.tmp 27) (.tmp 29) 22 rfl w.heap.size 40 i0 (.agg #[.int .i64 0, .int .u8 0, .slice none 0 0]) 3 40 Try.underlying22 hi0 hz0 hz1 hz2 rfl (by decide) _ _ _ rfl (((HT.out.beyond HROW.out.below).alloc _).alloc _).row ⟨w1.heap.size + 1, 0, none⟩ 1 1 [.int .i64 g.kind, .int .u8 g.byte.toNat, .slice A g.spans.length c] rfl rfl (fun j u hu => new_cells2 w1 (.cells #[.int .i64 g.kind, .int .u8 g.byte.toNat, .slice A g.spans.length c] 40) 40 #[.int .i64 g.kind, .int .u8 g.byte.toNat, .slice A g.spans.length c] j u hu) (three_one _ _ _ _ _) (by unfold maxLen; omega) (by omega) (((HT.out.beyond HROW.out.below).alloc _).alloc _).size ?_; intro v2 w3 hown' hgrow _))
          go_roundw
          case rel =>
            refine ⟨q, l ++ [(g, _)], q2, rfl, by rw [List.map_append]; exact HX.out, (((HT.out.beyond HROW.out.below).alloc _).alloc _).piece (g := g) ?_ hown' hgrow, by rw [List.length_append]; simp; omega⟩
            exact (((HROW.out.row.mono HT.out.size).alloc _).alloc _)
          case measure => simp [intOf]; omega
      · have HX : Hid (R = (some (l.map (·.1)), 0)) := Lib.hid (by rw [← HG.out, goP_end (by rw [len_data]; exact a)])
        go_wp2
        go_ret3
        rw [HX.out]
        exact ⟨_, l, rfl, HT.out, rfl⟩
end Go.Proofs.Ytafnlbcpnamdkaa
