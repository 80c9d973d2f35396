/- The contract of the code's reader of a set's items, for every text of up to a million bytes. -/
import Derived.Test.YtafnlbcpnamdkaaMem
namespace Go.Proofs.Ytafnlbcpnamdkaa
open Go Go.RowKit

def posS (R : Res (List Sp)) : Nat := match R with | .bad q => q | .ok _ q => q
def okS' (R : Res (List Sp)) : Bool := match R with | .bad _ => false | .ok _ _ => true
def lstS (R : Res (List Sp)) : List Sp := match R with | .bad _ => [] | .ok l _ => l
/-- What the code's reader of items leaves. -/
def PostS (w0 : World) (R : Res (List Sp)) (e : Ending) (w' : World) : Prop :=
  ∃ v, e = .returned (.tuple #[v, .int .i64 (posS R), .bool (okS' R)]) ∧ RowS w0.heap.size w0 w' v (lstS R)
def LoopS (s : ByteArray) (w0 : World) (R : Res (List Sp)) (a v : Value) (w : World) : Prop :=
  ∃ (k : Nat) (acc : List Sp), k ≤ s.size ∧ a = .int .i64 k ∧ goS s.data.toList k acc = R ∧ RowS w0.heap.size w0 w v acc ∧ acc.length ≤ k
set_option maxHeartbeats 2000000 in
theorem readitems_any (s : ByteArray) (k0 : Nat) (hk0 : k0 ≤ s.size) (hs : s.size ≤ 1000000) (w : World) :
    Calls Try.prog 32 #[.string s, .int .i64 k0] w (PostS w (goS s.data.toList k0 [])) := by
  obtain ⟨R, hR⟩ : ∃ R, R = goS s.data.toList k0 [] := ⟨_, rfl⟩
  rw [← hR]
  have HR := Lib.hid hR.symm
  obtain ⟨i0, hi0, hz0, hz1, hz2⟩ := info_parts info48
  clear hR
  go_enter Try.func32, Try.ntmps32
  go_wp2
  go_loopw [1, 7] (fun a v wr => LoopS s w R a v wr) (fun a _ _ => s.size - (intOf a).toNat)
  case atStart => exact ⟨k0, [], hk0, rfl, HR.out, Row1.nil 48 2 w, by simp⟩
  case round =>
    obtain ⟨k, acc, hk, rfl, hg, hT, hacc⟩ := hrel
    have HG := Lib.hid hg
    have HT := Lib.hid hT
    clear hg hT
    rcases row_form HT.out.row with ⟨rfl, h0⟩ | ⟨g, cap, rfl, hcap⟩
    · have hno : Hid (¬ (acc ≠ [] ∧ s.data.toList[k]? = some 93)) := Lib.hid (by rintro ⟨h, _⟩; exact h (List.eq_nil_of_length_eq_zero h0))
      clear h0
      rcases hi : item s.data.toList k with q | ⟨sp, q⟩
      · have HX : Hid (R = .bad q) := Lib.hid (by rw [← HG.out, goS_bad hno.out hi])
        have K36 : Hid (∀ w, Calls Try.prog 36 #[.string s, .int .i64 (k : Int)] w fun e w' => e = .returned (.tuple #[.agg #[.int .u8 0, .int .u8 0], .int .i64 q, .bool false]) ∧ Below w.heap.size w w') := Lib.hid fun w => by
          have := readitem_any s k hk hs w
          rw [hi] at this; exact this
        clear hi
        go_wp2_with (go_at_call 36; ((with_reducible refine (K36.out _).mono ?_)); rintro e w1 ⟨rfl, hb1⟩)
        go_ret3
        rw [HX.out]
        exact ⟨_, rfl, ⟨World.ownsRow_nil _ _ _ _, ((HT.out.beyond hb1).alloc _).below, ((HT.out.beyond hb1).alloc _).size⟩⟩
      · obtain ⟨q1, q2⟩ := item_ok (by rw [len_data]; exact hk) hi
        rw [len_data] at q2
        have HX : Hid (goS s.data.toList q (acc ++ [sp]) = R) := Lib.hid (by rw [← HG.out, goS_ok hno.out (by rw [len_data]; exact hk) hi])
        have K36 : Hid (∀ w, Calls Try.prog 36 #[.string s, .int .i64 (k : Int)] w fun e w' => e = .returned (.tuple #[.agg #[.int .u8 sp.1.toNat, .int .u8 sp.2.toNat], .int .i64 q, .bool true]) ∧ Below w.heap.size w w') := Lib.hid fun w => by
          have := readitem_any s k hk hs w
          rw [hi] at this; exact this
        clear hi
        go_wp2_with (first | (go_at_call 36; ((with_reducible refine (K36.out _).mono ?_)); rintro e w1 ⟨rfl, hb1⟩) | (at_builtin; refine wpList_append_own _ rfl (.tmp 36) (.tmp 38) 38 rfl w.heap.size 48 i0 (.agg #[.int .u8 0, .int .u8 0]) 2 2 Try.underlying38 hi0 hz0 hz1 hz2 rfl (by decide) _ _ _ rfl (((HT.out.beyond hb1).alloc _).alloc _).row ⟨w1.heap.size + 1, 0, none⟩ 1 1 [.int .u8 sp.1.toNat, .int .u8 sp.2.toNat] rfl rfl (fun j u hu => new_cells2 w1 (.cells #[.int .u8 sp.1.toNat, .int .u8 sp.2.toNat] 48) 48 #[.int .u8 sp.1.toNat, .int .u8 sp.2.toNat] j u hu) (two_one _ _) (by unfold maxLen; omega) (by omega) (((HT.out.beyond hb1).alloc _).alloc _).size ?_; intro v2 w3 hown' hgrow _))
        go_roundw
        case rel => exact ⟨q, acc ++ [sp], q2, rfl, HX.out, (((HT.out.beyond hb1).alloc _).alloc _).span (p := sp) hown' hgrow, by rw [List.length_append]; simp; omega⟩
        case measure => simp [intOf]; omega
    · obtain ⟨m, hm⟩ : ∃ m, m = acc.length := ⟨_, rfl⟩
      have hacc2 := hacc
      rw [← hm] at hacc hcap HT ⊢
      have HM := Lib.hid hm
      clear hm
      by_cases h0 : m = 0
      · have hno : Hid (¬ (acc ≠ [] ∧ s.data.toList[k]? = some 93)) := Lib.hid (by rintro ⟨h, _⟩; exact h (List.eq_nil_of_length_eq_zero (by rw [← HM.out, h0])))
        have b0 : ((m : Int) == 0) = true := by simp; omega
        have b02 : (m == 0) = true := by simp; omega
        clear h0
        rcases hi : item s.data.toList k with q | ⟨sp, q⟩
        · have HX : Hid (R = .bad q) := Lib.hid (by rw [← HG.out, goS_bad hno.out hi])
          have K36 : Hid (∀ w, Calls Try.prog 36 #[.string s, .int .i64 (k : Int)] w fun e w' => e = .returned (.tuple #[.agg #[.int .u8 0, .int .u8 0], .int .i64 q, .bool false]) ∧ Below w.heap.size w w') := Lib.hid fun w => by
            have := readitem_any s k hk hs w
            rw [hi] at this; exact this
          clear hi
          go_wp2_with (go_at_call 36; ((with_reducible refine (K36.out _).mono ?_)); rintro e w1 ⟨rfl, hb1⟩)
          go_ret3
          rw [HX.out]
          exact ⟨_, rfl, ⟨World.ownsRow_nil _ _ _ _, ((HT.out.beyond hb1).alloc _).below, ((HT.out.beyond hb1).alloc _).size⟩⟩
        · obtain ⟨q1, q2⟩ := item_ok (by rw [len_data]; exact hk) hi
          rw [len_data] at q2
          have HX : Hid (goS s.data.toList q (acc ++ [sp]) = R) := Lib.hid (by rw [← HG.out, goS_ok hno.out (by rw [len_data]; exact hk) hi])
          have K36 : Hid (∀ w, Calls Try.prog 36 #[.string s, .int .i64 (k : Int)] w fun e w' => e = .returned (.tuple #[.agg #[.int .u8 sp.1.toNat, .int .u8 sp.2.toNat], .int .i64 q, .bool true]) ∧ Below w.heap.size w w') := Lib.hid fun w => by
            have := readitem_any s k hk hs w
            rw [hi] at this; exact this
          clear hi
          go_wp2_with (first | (go_at_call 36; ((with_reducible refine (K36.out _).mono ?_)); rintro e w1 ⟨rfl, hb1⟩) | (at_builtin; refine wpList_append_own _ rfl (.tmp 36) (.tmp 38) 38 rfl w.heap.size 48 i0 (.agg #[.int .u8 0, .int .u8 0]) 2 2 Try.underlying38 hi0 hz0 hz1 hz2 rfl (by decide) _ _ _ rfl (((HT.out.beyond hb1).alloc _).alloc _).row ⟨w1.heap.size + 1, 0, none⟩ 1 1 [.int .u8 sp.1.toNat, .int .u8 sp.2.toNat] rfl rfl (fun j u hu => new_cells2 w1 (.cells #[.int .u8 sp.1.toNat, .int .u8 sp.2.toNat] 48) 48 #[.int .u8 sp.1.toNat, .int .u8 sp.2.toNat] j u hu) (two_one _ _) (by unfold maxLen; omega) (by omega) (((HT.out.beyond hb1).alloc _).alloc _).size ?_; intro v2 w3 hown' hgrow _))
          go_roundw
          case rel => exact ⟨q, acc ++ [sp], q2, rfl, HX.out, (((HT.out.beyond hb1).alloc _).alloc _).span (p := sp) hown' hgrow, by rw [List.length_append]; simp; omega⟩
          case measure => simp [intOf]; omega
      · have b0 : ((m : Int) == 0) = false := by simp; omega
        have b02 : (m == 0) = false := by simp; omega
        have hne : acc ≠ [] := by rintro rfl; exact h0 HM.out
        by_cases a : k < s.size
        · have bk : ((k : Int) == (s.size : Int)) = false := by simp; omega
          have bk2 : (k == s.size) = false := by simp; omega
          by_cases c93 : s[k] = 93
          · have b93 : ((s[k].toNat : Int) != 93) = false := by
              have := byte_eq (n := 93) c93 (by omega)
              simp only [bne]; simpa using this
            have HX : Hid (R = .ok acc (k + 1)) := Lib.hid (by rw [← HG.out, goS_end hne (by rw [get_at s k a, c93])])
            clear c93 h0 hne
            go_wp2
            go_ret3
            rw [HX.out]
            have := HT.out
            rw [HM.out] at this ⊢
            exact ⟨_, rfl, this⟩
          · have b93 : ((s[k].toNat : Int) != 93) = true := by
              have := byte_ne (n := 93) c93 (by omega)
              simp only [bne]; simpa using this
            have hno : Hid (¬ (acc ≠ [] ∧ s.data.toList[k]? = some 93)) := Lib.hid (by rintro ⟨_, h⟩; rw [get_at s k a] at h; injection h with h; exact c93 h)
            clear c93 h0 hne
            rcases hi : item s.data.toList k with q | ⟨sp, q⟩
            · have HX : Hid (R = .bad q) := Lib.hid (by rw [← HG.out, goS_bad hno.out hi])
              have K36 : Hid (∀ w, Calls Try.prog 36 #[.string s, .int .i64 (k : Int)] w fun e w' => e = .returned (.tuple #[.agg #[.int .u8 0, .int .u8 0], .int .i64 q, .bool false]) ∧ Below w.heap.size w w') := Lib.hid fun w => by
                have := readitem_any s k hk hs w
                rw [hi] at this; exact this
              clear hi
              go_wp2_with (go_at_call 36; ((with_reducible refine (K36.out _).mono ?_)); rintro e w1 ⟨rfl, hb1⟩)
              go_ret3
              rw [HX.out]
              exact ⟨_, rfl, ⟨World.ownsRow_nil _ _ _ _, ((HT.out.beyond hb1).alloc _).below, ((HT.out.beyond hb1).alloc _).size⟩⟩
            · obtain ⟨q1, q2⟩ := item_ok (by rw [len_data]; exact hk) hi
              rw [len_data] at q2
              have HX : Hid (goS s.data.toList q (acc ++ [sp]) = R) := Lib.hid (by rw [← HG.out, goS_ok hno.out (by rw [len_data]; exact hk) hi])
              have K36 : Hid (∀ w, Calls Try.prog 36 #[.string s, .int .i64 (k : Int)] w fun e w' => e = .returned (.tuple #[.agg #[.int .u8 sp.1.toNat, .int .u8 sp.2.toNat], .int .i64 q, .bool true]) ∧ Below w.heap.size w w') := Lib.hid fun w => by
                have := readitem_any s k hk hs w
                rw [hi] at this; exact this
              clear hi
              go_wp2_with (first | (go_at_call 36; ((with_reducible refine (K36.out _).mono ?_)); rintro e w1 ⟨rfl, hb1⟩) | (at_builtin; refine wpList_append_own _ rfl (.tmp 36) (.tmp 38) 38 rfl w.heap.size 48 i0 (.agg #[.int .u8 0, .int .u8 0]) 2 2 Try.underlying38 hi0 hz0 hz1 hz2 rfl (by decide) _ _ _ rfl (((HT.out.beyond hb1).alloc _).alloc _).row ⟨w1.heap.size + 1, 0, none⟩ 1 1 [.int .u8 sp.1.toNat, .int .u8 sp.2.toNat] rfl rfl (fun j u hu => new_cells2 w1 (.cells #[.int .u8 sp.1.toNat, .int .u8 sp.2.toNat] 48) 48 #[.int .u8 sp.1.toNat, .int .u8 sp.2.toNat] j u hu) (two_one _ _) (by unfold maxLen; omega) (by omega) (((HT.out.beyond hb1).alloc _).alloc _).size ?_; intro v2 w3 hown' hgrow _))
              go_roundw
              case rel => exact ⟨q, acc ++ [sp], q2, rfl, HX.out, (((HT.out.beyond hb1).alloc _).alloc _).span (p := sp) hown' hgrow, by rw [List.length_append]; simp; omega⟩
              case measure => simp [intOf]; omega
        · have hno : Hid (¬ (acc ≠ [] ∧ s.data.toList[k]? = some 93)) := Lib.hid (by rintro ⟨_, h⟩; rw [get_end s k a] at h; cases h)
          obtain rfl : k = s.size := by omega
          clear h0 hne
          rcases hi : item s.data.toList s.size with q | ⟨sp, q⟩
          · have HX : Hid (R = .bad q) := Lib.hid (by rw [← HG.out, goS_bad hno.out hi])
            have K36 : Hid (∀ w, Calls Try.prog 36 #[.string s, .int .i64 (s.size : Int)] w fun e w' => e = .returned (.tuple #[.agg #[.int .u8 0, .int .u8 0], .int .i64 q, .bool false]) ∧ Below w.heap.size w w') := Lib.hid fun w => by
              have := readitem_any s s.size hk hs w
              rw [hi] at this; exact this
            clear hi
            go_wp2_with (go_at_call 36; ((with_reducible refine (K36.out _).mono ?_)); rintro e w1 ⟨rfl, hb1⟩)
            go_ret3
            rw [HX.out]
            exact ⟨_, rfl, ⟨World.ownsRow_nil _ _ _ _, ((HT.out.beyond hb1).alloc _).below, ((HT.out.beyond hb1).alloc _).size⟩⟩
          · exfalso
            obtain ⟨q1, q2⟩ := item_ok (by rw [len_data]; exact hk) hi
            rw [len_data] at q2
            omega
end Go.Proofs.Ytafnlbcpnamdkaa
