/- The contract of the document's own reader, for every text of up to a million bytes. -/
import Derived.Test.YtafnlbcpnamdkaaParse
namespace Go.Proofs.Ytafnlbcpnamdkaa
open Go Go.RowKit

def RBad (w0 : World) (q : Nat) (e : Ending) (w' : World) : Prop := ∃ v, e = .returned (.tuple #[v, .int .i64 (-1), .int .i64 q]) ∧ RowS w0.heap.size w0 w' v []
def ROk (w0 : World) (l : List Sp) (q : Nat) (e : Ending) (w' : World) : Prop := ∃ v, e = .returned (.tuple #[v, .int .i64 q, .int .i64 0]) ∧ RowS w0.heap.size w0 w' v l
theorem rspans_b (s : ByteArray) (i : Int) (k q : Nat) (hi : i = k) (hk : k ≤ s.size) (hs : s.size ≤ 1000000) (h : goS s.data.toList k [] = .bad q) (w : World) : Calls Try.prog 25 #[.string s, .int .i64 i] w (RBad w q) := by
  subst hi
  have := rspans_any s k hk hs w
  rw [h] at this
  exact this.mono fun e w' ⟨v, he, hr⟩ => ⟨v, he, hr⟩
theorem rspans_o (s : ByteArray) (i : Int) (k q : Nat) (l : List Sp) (hi : i = k) (hk : k ≤ s.size) (hs : s.size ≤ 1000000) (h : goS s.data.toList k [] = .ok l q) (w : World) : Calls Try.prog 25 #[.string s, .int .i64 i] w (ROk w l q) := by
  subst hi
  have := rspans_any s k hk hs w
  rw [h] at this
  exact this.mono fun e w' ⟨v, he, hr⟩ => ⟨v, he, hr⟩
set_option maxRecDepth 100000 in
set_option maxHeartbeats 4000000 in
theorem rparse_any (s : ByteArray) (hs : s.size ≤ 1000000) (w : World) : Calls Try.prog 16 #[.string s] w (PostP w (parse s.data.toList)) := by
  by_cases h200 : 200 < s.size
  · have hR : parse s.data.toList = (none, 200, 2) := by unfold parse; rw [if_pos (by rw [len_data]; exact h200)]
    rw [hR]
    clear hR
    go_enter Try.func16, Try.ntmps16
    go_wp2
    go_ret3
    exact ⟨_, [], rfl, Pcs.nil w, rfl⟩
  · obtain ⟨R, hR⟩ : ∃ R, R = goP s.data.toList 0 [] := ⟨_, rfl⟩
    rw [parse_out _ (by rw [len_data]; exact h200), ← hR]
    have HR := Lib.hid hR.symm
    obtain ⟨i0, hi0, hz0, hz1, hz2⟩ := info_parts info40
    clear hR
    go_enter Try.func16, Try.ntmps16
    go_wp2
    go_loopw [5, 6] (fun v a wr => LoopP s w R v a wr) (fun _ a _ => s.size - (intOf a).toNat)
    case atStart => exact ⟨0, [], by omega, rfl, HR.out, Pcs.nil w, by simp⟩
    case round =>
      obtain ⟨k, l, hk, rfl, hg, hT, hl⟩ := hrel
      have HG := Lib.hid hg
      have HT := Lib.hid hT
      clear hg hT
      by_cases a : k < s.size
      · have hpc : piece s.data.toList k = piece s.data.toList k := rfl
        conv at hpc => rhs; unfold piece
        rw [get_at s k a] at hpc
        simp only [Option.some.injEq] at hpc
        by_cases c42 : s[k] = 42
        · have b42 : ((s[k].toNat : Int) == 42) = true := byte_eq (n := 42) c42 (by omega)
          rw [if_pos c42] at hpc
          have hp := Lib.hid hpc
          clear hpc c42
          have HX : Hid (goP s.data.toList (k + 1) (l.map (·.1) ++ [⟨2, 0, []⟩]) = R) := Lib.hid (by rw [← HG.out, goP_ok (by rw [len_data]; exact a) hp.out])
          clear hp
          go_wp2_with (at_builtin; refine wpList_append_own _ rfl (.tmp 25) (.tmp 27) 22 rfl w.heap.size 40 i0 (.agg #[.int .i64 0, .int .u8 0, .slice none 0 0]) 3 40 Try.underlying22 hi0 hz0 hz1 hz2 rfl (by decide) _ _ _ rfl (HT.out.alloc _).row ⟨wr.heap.size, 0, none⟩ 1 1 [.int .i64 2, .int .u8 0, .slice none 0 0] rfl rfl (fun j u hu => new_cells wr 40 #[.int .i64 2, .int .u8 0, .slice none 0 0] j u hu) (three_one _ _ _ _ _) (by unfold maxLen; omega) (by omega) (HT.out.alloc _).size ?_; intro v2 w3 hown' hgrow _)
          go_roundw
          case rel => exact ⟨k + 1, l ++ [(⟨2, 0, []⟩, .slice none 0 0)], by omega, by go_num, by rw [List.map_append]; exact HX.out, (HT.out.alloc _).piece (g := ⟨2, 0, []⟩) (World.ownsRow_nil _ _ _ _) hown' hgrow, by rw [List.length_append]; simp; omega⟩
          case measure => simp [intOf]; omega
        · have b42 : ((s[k].toNat : Int) == 42) = false := byte_ne (n := 42) c42 (by omega)
          rw [if_neg c42] at hpc
          by_cases c63 : s[k] = 63
          · have b63 : ((s[k].toNat : Int) == 63) = true := byte_eq (n := 63) c63 (by omega)
            rw [if_pos c63] at hpc
            have hp := Lib.hid hpc
            clear hpc c42 c63
            have HX : Hid (goP s.data.toList (k + 1) (l.map (·.1) ++ [⟨1, 0, []⟩]) = R) := Lib.hid (by rw [← HG.out, goP_ok (by rw [len_data]; exact a) hp.out])
            clear hp
            go_wp2_with (at_builtin; refine wpList_append_own _ rfl (.tmp 31) (.tmp 33) 22 rfl w.heap.size 40 i0 (.agg #[.int .i64 0, .int .u8 0, .slice none 0 0]) 3 40 Try.underlying22 hi0 hz0 hz1 hz2 rfl (by decide) _ _ _ rfl (HT.out.alloc _).row ⟨wr.heap.size, 0, none⟩ 1 1 [.int .i64 1, .int .u8 0, .slice none 0 0] rfl rfl (fun j u hu => new_cells wr 40 #[.int .i64 1, .int .u8 0, .slice none 0 0] j u hu) (three_one _ _ _ _ _) (by unfold maxLen; omega) (by omega) (HT.out.alloc _).size ?_; intro v2 w3 hown' hgrow _)
            go_roundw
            case rel => exact ⟨k + 1, l ++ [(⟨1, 0, []⟩, .slice none 0 0)], by omega, by go_num, by rw [List.map_append]; exact HX.out, (HT.out.alloc _).piece (g := ⟨1, 0, []⟩) (World.ownsRow_nil _ _ _ _) hown' hgrow, by rw [List.length_append]; simp; omega⟩
            case measure => simp [intOf]; omega
          · have b63 : ((s[k].toNat : Int) == 63) = false := byte_ne (n := 63) c63 (by omega)
            rw [if_neg c63] at hpc
            by_cases c91 : s[k] = 91
            · have b91 : ((s[k].toNat : Int) == 91) = true := byte_eq (n := 91) c91 (by omega)
              rw [if_pos c91] at hpc
              rcases hS : goS s.data.toList (k + 1) [] with q | ⟨ls, q⟩
              · rw [hS] at hpc
                have HX : Hid (R = (none, q)) := Lib.hid (by rw [← HG.out, goP_bad (by rw [len_data]; exact a) hpc])
                have K := Lib.hid fun w => rspans_b s ((k : Int) + 1) (k + 1) q rfl (by omega) hs hS w
                clear hpc hS c42 c63 c91
                go_wp2_with (go_at_call 25; ((with_reducible refine (K.out _).mono ?_)); rintro e w1 ⟨v, rfl, hrow⟩; obtain ⟨A, c, rfl⟩ := row_slice hrow.row; have HROW := Lib.hid hrow; clear hrow)
                go_ret3
                rw [HX.out]
                have HN := HT.out.beyond HROW.out.below
                exact ⟨_, [], rfl, ⟨World.ownsRow_nil _ _ _ _, by simp, HN.below, HN.size⟩, rfl⟩
              · rw [hS] at hpc
                obtain ⟨q1, q2, _⟩ := goS_okb (by rw [len_data]; exact a) hS
                rw [len_data] at q2
                have HX : Hid (goP s.data.toList q (l.map (·.1) ++ [⟨3, 0, ls⟩]) = R) := Lib.hid (by rw [← HG.out, goP_ok (by rw [len_data]; exact a) hpc])
                have K := Lib.hid fun w => rspans_o s ((k : Int) + 1) (k + 1) q ls rfl (by omega) hs hS w
                clear hpc hS c42 c63 c91
                go_wp2_with (first | (go_at_call 25; ((with_reducible refine (K.out _).mono ?_)); rintro e w1 ⟨v, rfl, hrow⟩; obtain ⟨A, c, rfl⟩ := row_slice hrow.row; have HROW := Lib.hid hrow; clear hrow) | (at_builtin; refine wpList_append_own _ rfl (.tmp 47) (.tmp 50) 22 rfl w.heap.size 40 i0 (.agg #[.int .i64 0, .int .u8 0, .slice none 0 0]) 3 40 Try.underlying22 hi0 hz0 hz1 hz2 rfl (by decide) _ _ _ rfl ((HT.out.beyond HROW.out.below).alloc _).row ⟨w1.heap.size, 0, none⟩ 1 1 [.int .i64 3, .int .u8 0, .slice A ls.length c] rfl rfl (fun j u hu => new_cells w1 40 #[.int .i64 3, .int .u8 0, .slice A ls.length c] j u hu) (three_one _ _ _ _ _) (by unfold maxLen; omega) (by omega) ((HT.out.beyond HROW.out.below).alloc _).size ?_; intro v2 w3 hown' hgrow _))
                go_roundw
                case rel => exact ⟨q, l ++ [(⟨3, 0, ls⟩, .slice A ls.length c)], q2, rfl, by rw [List.map_append]; exact HX.out, ((HT.out.beyond HROW.out.below).alloc _).piece (g := ⟨3, 0, ls⟩) ((HROW.out.row.mono HT.out.size).alloc _) hown' hgrow, by rw [List.length_append]; simp; omega⟩
                case measure => simp [intOf]; omega
            · have b91 : ((s[k].toNat : Int) == 91) = false := byte_ne (n := 91) c91 (by omega)
              rw [if_neg c91] at hpc
              unfold rb at hpc
              rw [drop_at s k a] at hpc
              dsimp only at hpc
              by_cases c92 : s[k] = 92
              · have b92 : ((s[k].toNat : Int) == 92) = true := byte_eq (n := 92) c92 (by omega)
                rw [if_pos c92] at hpc
                by_cases a1 : k + 1 < s.size
                · rw [drop_at s (k + 1) a1] at hpc
                  obtain ⟨x, hx⟩ : ∃ x : UInt8, x = s[k + 1] := ⟨_, rfl⟩
                  have hp := Lib.hid hpc
                  clear hpc c42 c63 c91 c92 hx
                  have HX : Hid (goP s.data.toList (k + 2) (l.map (·.1) ++ [⟨0, s[k + 1], []⟩]) = R) := Lib.hid (by rw [← HG.out, goP_ok (by rw [len_data]; exact a) hp.out])
                  clear hp
                  go_wp2_with (at_builtin; refine wpList_append_own _ rfl (.tmp 65) (.tmp 68) 22 rfl w.heap.size 40 i0 (.agg #[.int .i64 0, .int .u8 0, .slice none 0 0]) 3 40 Try.underlying22 hi0 hz0 hz1 hz2 rfl (by decide) _ _ _ rfl (HT.out.alloc _).row ⟨wr.heap.size, 0, none⟩ 1 1 [.int .i64 0, .int .u8 s[k + 1].toNat, .slice none 0 0] rfl rfl (fun j u hu => new_cells wr 40 #[.int .i64 0, .int .u8 s[k + 1].toNat, .slice none 0 0] j u hu) (three_one _ _ _ _ _) (by unfold maxLen; omega) (by omega) (HT.out.alloc _).size ?_; intro v2 w3 hown' hgrow _)
                  go_roundw
                  case rel => exact ⟨k + 2, l ++ [(⟨0, s[k + 1], []⟩, .slice none 0 0)], by omega, by go_num, by rw [List.map_append]; exact HX.out, (HT.out.alloc _).piece (g := ⟨0, s[k + 1], []⟩) (World.ownsRow_nil _ _ _ _) hown' hgrow, by rw [List.length_append]; simp; omega⟩
                  case measure => simp [intOf]; omega
                · rw [drop_end s (k + 1) a1] at hpc
                  have HX : Hid (R = (none, k + 1)) := Lib.hid (by rw [← HG.out, goP_bad (by rw [len_data]; exact a) hpc])
                  clear hpc c42 c63 c91 c92
                  go_wp2
                  go_ret3
                  rw [HX.out]
                  exact ⟨_, [], rfl, ⟨World.ownsRow_nil _ _ _ _, by simp, HT.out.below, HT.out.size⟩, rfl⟩
              · have b92 : ((s[k].toNat : Int) == 92) = false := byte_ne (n := 92) c92 (by omega)
                rw [if_neg c92, if_neg (by simp)] at hpc
                have hp := Lib.hid hpc
                clear hpc c42 c63 c91 c92
                have HX : Hid (goP s.data.toList (k + 1) (l.map (·.1) ++ [⟨0, s[k], []⟩]) = R) := Lib.hid (by rw [← HG.out, goP_ok (by rw [len_data]; exact a) hp.out])
                clear hp
                go_wp2_with (at_builtin; refine wpList_append_own _ rfl (.tmp 65) (.tmp 68) 22 rfl w.heap.size 40 i0 (.agg #[.int .i64 0, .int .u8 0, .slice none 0 0]) 3 40 Try.underlying22 hi0 hz0 hz1 hz2 rfl (by decide) _ _ _ rfl (HT.out.alloc _).row ⟨wr.heap.size, 0, none⟩ 1 1 [.int .i64 0, .int .u8 s[k].toNat, .slice none 0 0] rfl rfl (fun j u hu => new_cells wr 40 #[.int .i64 0, .int .u8 s[k].toNat, .slice none 0 0] j u hu) (three_one _ _ _ _ _) (by unfold maxLen; omega) (by omega) (HT.out.alloc _).size ?_; intro v2 w3 hown' hgrow _)
                go_roundw
                case rel => exact ⟨k + 1, l ++ [(⟨0, s[k], []⟩, .slice none 0 0)], by omega, by go_num, by rw [List.map_append]; exact HX.out, (HT.out.alloc _).piece (g := ⟨0, s[k], []⟩) (World.ownsRow_nil _ _ _ _) hown' hgrow, by rw [List.length_append]; simp; omega⟩
                case measure => simp [intOf]; omega
      · have HX : Hid (R = (some (l.map (·.1)), 0)) := Lib.hid (by rw [← HG.out, goP_end (by rw [len_data]; exact a)])
        go_wp2
        go_ret3
        rw [HX.out]
        exact ⟨_, l, rfl, HT.out, rfl⟩
end Go.Proofs.Ytafnlbcpnamdkaa
