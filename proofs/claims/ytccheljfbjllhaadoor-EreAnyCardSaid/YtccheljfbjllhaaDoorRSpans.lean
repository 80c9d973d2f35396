/- The contract of the document's own reader of a set's items, for every text of up to a million bytes. -/
import Derived.Test.YtccheljfbjllhaaDoorItems
namespace Go.Proofs.YtccheljfbjllhaaDoor
open Go Go.RowKit

theorem ritem_at (s : ByteArray) (i : Int) (k : Nat) (hi : i = k) (hk : k ≤ s.size) (hs : s.size ≤ 1000000) {R : Res UInt8} (hR : rb sgI s.data.toList k = R) (w : World) :
    Calls Tryd.prog 83 #[.string s, .int .i64 i] w fun e w' => e = .returned (resR k R) ∧ w = w' := by
  subst hi hR; exact ritem_any s k hk hs w
theorem item_of {s : Bs} {k q : Nat} {lo : UInt8} (h : rb sgI s k = .ok lo q) : (s[q]? = some 45 → item s k = match rb sgI s (q + 1) with
      | .bad q2 => .bad q2
      | .ok hi q2 => if (hi.toNat : Int) < (lo.toNat : Int) then .bad (q2 - 1) else .ok (lo, hi) q2) ∧ (s[q]? ≠ some 45 → item s k = .ok (lo, lo) q) := by
  constructor
  · intro h45; unfold item; rw [h]; dsimp only; rw [if_pos h45]; cases rb sgI s (q + 1) <;> rfl
  · intro h45; unfold item; rw [h]; dsimp only; rw [if_neg h45]
def nxtS (R : Res (List Sp)) : Int := match R with | .bad _ => -1 | .ok _ q => q
def badS (R : Res (List Sp)) : Int := match R with | .bad q => q | .ok _ _ => 0
theorem ret_bad {v : Value} {i : Int} {q : Nat} (h : i = q) : Ending.returned (.tuple #[v, .int .i64 (-1), .int .i64 i]) = .returned (.tuple #[v, .int .i64 (nxtS (.bad q)), .int .i64 (badS (.bad q))]) := by subst h; rfl
/-- What the document's own reader of items leaves. -/
def PostR (w0 : World) (R : Res (List Sp)) (e : Ending) (w' : World) : Prop :=
  ∃ v, e = .returned (.tuple #[v, .int .i64 (nxtS R), .int .i64 (badS R)]) ∧ RowS w0.heap.size w0 w' v (lstS R)
set_option maxRecDepth 100000 in
set_option maxHeartbeats 4000000 in
theorem rspans_any (s : ByteArray) (k0 : Nat) (hk0 : k0 ≤ s.size) (hs : s.size ≤ 1000000) (w : World) :
    Calls Tryd.prog 77 #[.string s, .int .i64 k0] w (PostR w (goS s.data.toList k0 [])) := by
  obtain ⟨R, hR⟩ : ∃ R, R = goS s.data.toList k0 [] := ⟨_, rfl⟩
  rw [← hR]
  have HR := Lib.hid hR.symm
  obtain ⟨i0, hi0, hz0, hz1, hz2⟩ := info_parts info48
  clear hR
  go_enter Tryd.func77, Tryd.ntmps77
  go_wp2
  go_loopw [1, 7] (fun a v wr => LoopS s w R a v wr) (fun a _ _ => s.size - (intOf a).toNat)
  case atStart => exact ⟨k0, [], hk0, rfl, HR.out, Row1.nil 74 2 w, by simp⟩
  case round =>
    obtain ⟨k, acc, hk, rfl, hg, hT, hacc⟩ := hrel
    have HG := Lib.hid hg
    have HT := Lib.hid hT
    clear hg hT
    rcases row_form HT.out.row with ⟨rfl, h0⟩ | ⟨g, cap, rfl, hcap⟩
    · have hno : Hid (¬ (acc ≠ [] ∧ s.data.toList[k]? = some 93)) := Lib.hid (by rintro ⟨h, _⟩; exact h (List.eq_nil_of_length_eq_zero h0))
      clear h0
      rcases h1 : rb sgI s.data.toList k with q | ⟨lo, q⟩
      · have HX : Hid (R = .bad q) := Lib.hid (by rw [← HG.out, goS_bad hno.out (by unfold item; rw [h1])])
        have KA : Hid (∀ w, Calls Tryd.prog 83 #[.string s, .int .i64 (k : Int)] w fun e w' => e = .returned (.tuple #[.int .u8 0, .int .i64 (-1), .int .i64 q]) ∧ w = w') := Lib.hid fun w => ritem_at s (k : Int) k rfl (by omega) hs h1 w
        clear h1
        go_wp2_with (go_at_call 83; ((with_reducible refine (KA.out _).mono ?_)); rintro e w1 ⟨rfl, rfl⟩)
        go_ret3
        rw [HX.out]
        exact ⟨_, rfl, ⟨World.ownsRow_nil _ _ _ _, HT.out.below, HT.out.size⟩⟩
      · obtain ⟨q1, q2⟩ := rb_ok (by rw [len_data]; exact hk) h1
        rw [len_data] at q2
        obtain ⟨n, rfl⟩ : ∃ n : Nat, q = k + n := ⟨q - k, by omega⟩
        obtain ⟨x, hx⟩ : ∃ x : Int, x = (lo.toNat : Int) := ⟨_, rfl⟩
        have HLO := Lib.hid hx
        have KA : Hid (∀ w, Calls Tryd.prog 83 #[.string s, .int .i64 (k : Int)] w fun e w' => e = .returned (.tuple #[.int .u8 x, .int .i64 n, .int .i64 0]) ∧ w = w') := Lib.hid fun w => by
          have := ritem_at s (k : Int) k rfl (by omega) hs h1 w
          rw [resR_ok (n := (n : Int)) (by omega), ← hx] at this; exact this
        have hn2 : n ≤ 1000000 := by omega
        have hn0 : 0 < n := by omega
        have it := item_of h1
        clear h1 hx
        by_cases a : k + n < s.size
        · by_cases c45 : s[k + n] = 45
          · have b45 : ((s[k + n].toNat : Int) == 45) = true := byte_eq (n := 45) c45 (by omega)
            have it2 := it.1 (by rw [get_at s (k + n) a, c45])
            clear c45 it
            rcases h2 : rb sgI s.data.toList (k + n + 1) with r | ⟨hi, r⟩
            · have HX : Hid (R = .bad r) := Lib.hid (by rw [← HG.out, goS_bad hno.out (by rw [it2, h2])])
              have KB : Hid (∀ w, Calls Tryd.prog 83 #[.string s, .int .i64 ((k : Int) + (n : Int) + 1)] w fun e w' => e = .returned (.tuple #[.int .u8 0, .int .i64 (-1), .int .i64 r]) ∧ w = w') := Lib.hid fun w => ritem_at s ((k : Int) + (n : Int) + 1) (k + n + 1) (by omega) (by omega) hs h2 w
              clear h2 it2
              go_wp2_with (first | (go_at_call 83; ((with_reducible refine (KA.out _).mono ?_)); rintro e w1 ⟨rfl, rfl⟩) | (go_at_call 83; ((with_reducible refine (KB.out _).mono ?_)); rintro e w1 ⟨rfl, rfl⟩))
              go_ret3
              rw [HX.out]
              exact ⟨_, rfl, ⟨World.ownsRow_nil _ _ _ _, HT.out.below, HT.out.size⟩⟩
            · obtain ⟨r1, r2⟩ := rb_ok (by rw [len_data]; omega) h2
              rw [len_data] at r2
              obtain ⟨d, rfl⟩ : ∃ d : Nat, r = k + n + 1 + d := ⟨r - (k + n + 1), by omega⟩
              obtain ⟨y, hy⟩ : ∃ y : Int, y = (hi.toNat : Int) := ⟨_, rfl⟩
              have HHI := Lib.hid hy
              have KB : Hid (∀ w, Calls Tryd.prog 83 #[.string s, .int .i64 ((k : Int) + (n : Int) + 1)] w fun e w' => e = .returned (.tuple #[.int .u8 y, .int .i64 d, .int .i64 0]) ∧ w = w') := Lib.hid fun w => by
                have := ritem_at s ((k : Int) + (n : Int) + 1) (k + n + 1) (by omega) (by omega) hs h2 w
                rw [resR_ok (n := (d : Int)) (by omega), ← hy] at this; exact this
              rw [h2] at it2
              dsimp only at it2
              rw [← HLO.out, ← hy] at it2
              have hd2 : d ≤ 1000000 := by omega
              by_cases hlt : y < x
              · rw [if_pos hlt] at it2
                have HX : Hid (R = .bad (k + n + 1 + d - 1)) := Lib.hid (by rw [← HG.out, goS_bad hno.out it2])
                clear h2 hy it2
                go_wp2_with (first | (go_at_call 83; ((with_reducible refine (KA.out _).mono ?_)); rintro e w1 ⟨rfl, rfl⟩) | (go_at_call 83; ((with_reducible refine (KB.out _).mono ?_)); rintro e w1 ⟨rfl, rfl⟩))
                go_ret3
                rw [HX.out]
                exact ⟨_, ret_bad (v := .slice none 0 0) (i := (k : Int) + (n : Int) + (d : Int)) (q := k + n + 1 + d - 1) (by omega), ⟨World.ownsRow_nil _ _ _ _, HT.out.below, HT.out.size⟩⟩
              · rw [if_neg hlt] at it2
                have HX : Hid (goS s.data.toList (k + n + 1 + d) (acc ++ [(lo, hi)]) = R) := Lib.hid (by rw [← HG.out, goS_ok hno.out (by rw [len_data]; exact hk) it2])
                clear h2 hy it2
                go_wp2_with (first | (go_at_call 83; ((with_reducible refine (KA.out _).mono ?_)); rintro e w1 ⟨rfl, rfl⟩) | (go_at_call 83; ((with_reducible refine (KB.out _).mono ?_)); rintro e w1 ⟨rfl, rfl⟩) | (at_builtin; refine wpList_append_own _ rfl (.tmp 75) (.tmp 79) 71 rfl w.heap.size 74 i0 (.agg #[.int .u8 0, .int .u8 0]) 2 2 Tryd.underlying71 hi0 hz0 hz1 hz2 rfl (by decide) _ _ _ rfl (HT.out.alloc _).row ⟨wr.heap.size, 0, none⟩ 1 1 [.int .u8 x, .int .u8 y] rfl rfl (fun j u hu => new_cells wr 74 #[.int .u8 x, .int .u8 y] j u hu) (two_one _ _) (by unfold maxLen; omega) (by omega) (HT.out.alloc _).size ?_; intro v2 w3 hown' hgrow _))
                go_roundw
                case rel => exact ⟨k + n + 1 + d, acc ++ [(lo, hi)], r2, by go_num, HX.out, (HT.out.alloc _).span (p := (lo, hi)) (by rw [HLO.out, HHI.out] at hown'; exact hown') hgrow, by rw [List.length_append]; simp; omega⟩
                case measure => simp [intOf]; omega
          · have b45 : ((s[k + n].toNat : Int) == 45) = false := byte_ne (n := 45) c45 (by omega)
            have it2 := it.2 (by rw [get_at s (k + n) a]; simpa using c45)
            have HX : Hid (goS s.data.toList (k + n) (acc ++ [(lo, lo)]) = R) := Lib.hid (by rw [← HG.out, goS_ok hno.out (by rw [len_data]; exact hk) it2])
            clear c45 it it2
            go_wp2_with (first | (go_at_call 83; ((with_reducible refine (KA.out _).mono ?_)); rintro e w1 ⟨rfl, rfl⟩) | (at_builtin; refine wpList_append_own _ rfl (.tmp 75) (.tmp 79) 71 rfl w.heap.size 74 i0 (.agg #[.int .u8 0, .int .u8 0]) 2 2 Tryd.underlying71 hi0 hz0 hz1 hz2 rfl (by decide) _ _ _ rfl (HT.out.alloc _).row ⟨wr.heap.size, 0, none⟩ 1 1 [.int .u8 x, .int .u8 x] rfl rfl (fun j u hu => new_cells wr 74 #[.int .u8 x, .int .u8 x] j u hu) (two_one _ _) (by unfold maxLen; omega) (by omega) (HT.out.alloc _).size ?_; intro v2 w3 hown' hgrow _))
            go_roundw
            case rel => exact ⟨k + n, acc ++ [(lo, lo)], q2, by go_num, HX.out, (HT.out.alloc _).span (p := (lo, lo)) (by rw [HLO.out] at hown'; exact hown') hgrow, by rw [List.length_append]; simp; omega⟩
            case measure => simp [intOf]; omega
        · have it2 := it.2 (by rw [get_end s (k + n) a]; simp)
          have HX : Hid (goS s.data.toList (k + n) (acc ++ [(lo, lo)]) = R) := Lib.hid (by rw [← HG.out, goS_ok hno.out (by rw [len_data]; exact hk) it2])
          clear it it2
          go_wp2_with (first | (go_at_call 83; ((with_reducible refine (KA.out _).mono ?_)); rintro e w1 ⟨rfl, rfl⟩) | (at_builtin; refine wpList_append_own _ rfl (.tmp 75) (.tmp 79) 71 rfl w.heap.size 74 i0 (.agg #[.int .u8 0, .int .u8 0]) 2 2 Tryd.underlying71 hi0 hz0 hz1 hz2 rfl (by decide) _ _ _ rfl (HT.out.alloc _).row ⟨wr.heap.size, 0, none⟩ 1 1 [.int .u8 x, .int .u8 x] rfl rfl (fun j u hu => new_cells wr 74 #[.int .u8 x, .int .u8 x] j u hu) (two_one _ _) (by unfold maxLen; omega) (by omega) (HT.out.alloc _).size ?_; intro v2 w3 hown' hgrow _))
          go_roundw
          case rel => exact ⟨k + n, acc ++ [(lo, lo)], q2, by go_num, HX.out, (HT.out.alloc _).span (p := (lo, lo)) (by rw [HLO.out] at hown'; exact hown') hgrow, by rw [List.length_append]; simp; omega⟩
          case measure => simp [intOf]; omega
    · obtain ⟨m, hm⟩ : ∃ m, m = acc.length := ⟨_, rfl⟩
      have hacc2 := hacc
      rw [← hm] at hacc hcap HT ⊢
      have HM := Lib.hid hm
      clear hm
      by_cases h0 : 0 < m
      · have hne : acc ≠ [] := by
          rintro rfl
          have := HM.out
          simp at this; omega
        by_cases a : k < s.size
        · by_cases c93 : s[k] = 93
          · have b93 : ((s[k].toNat : Int) == 93) = true := byte_eq (n := 93) c93 (by omega)
            have HX : Hid (R = .ok acc (k + 1)) := Lib.hid (by rw [← HG.out, goS_end hne (by rw [get_at s k a, c93])])
            clear c93 hne
            go_wp2
            go_ret3
            rw [HX.out]
            have := HT.out
            rw [HM.out] at this ⊢
            exact ⟨_, rfl, this⟩
          · have b93 : ((s[k].toNat : Int) == 93) = false := byte_ne (n := 93) c93 (by omega)
            have hno : Hid (¬ (acc ≠ [] ∧ s.data.toList[k]? = some 93)) := Lib.hid (by rintro ⟨_, h⟩; rw [get_at s k a] at h; injection h with h; exact c93 h)
            clear c93 hne
            rcases h1 : rb sgI s.data.toList k with q | ⟨lo, q⟩
            · have HX : Hid (R = .bad q) := Lib.hid (by rw [← HG.out, goS_bad hno.out (by unfold item; rw [h1])])
              have KA : Hid (∀ w, Calls Tryd.prog 83 #[.string s, .int .i64 (k : Int)] w fun e w' => e = .returned (.tuple #[.int .u8 0, .int .i64 (-1), .int .i64 q]) ∧ w = w') := Lib.hid fun w => ritem_at s (k : Int) k rfl (by omega) hs h1 w
              clear h1
              go_wp2_with (go_at_call 83; ((with_reducible refine (KA.out _).mono ?_)); rintro e w1 ⟨rfl, rfl⟩)
              go_ret3
              rw [HX.out]
              exact ⟨_, rfl, ⟨World.ownsRow_nil _ _ _ _, HT.out.below, HT.out.size⟩⟩
            · obtain ⟨q1, q2⟩ := rb_ok (by rw [len_data]; exact hk) h1
              rw [len_data] at q2
              obtain ⟨n, rfl⟩ : ∃ n : Nat, q = k + n := ⟨q - k, by omega⟩
              obtain ⟨x, hx⟩ : ∃ x : Int, x = (lo.toNat : Int) := ⟨_, rfl⟩
              have HLO := Lib.hid hx
              have KA : Hid (∀ w, Calls Tryd.prog 83 #[.string s, .int .i64 (k : Int)] w fun e w' => e = .returned (.tuple #[.int .u8 x, .int .i64 n, .int .i64 0]) ∧ w = w') := Lib.hid fun w => by
                have := ritem_at s (k : Int) k rfl (by omega) hs h1 w
                rw [resR_ok (n := (n : Int)) (by omega), ← hx] at this; exact this
              have hn2 : n ≤ 1000000 := by omega
              have hn0 : 0 < n := by omega
              have it := item_of h1
              clear h1 hx
              by_cases a : k + n < s.size
              · by_cases c45 : s[k + n] = 45
                · have b45 : ((s[k + n].toNat : Int) == 45) = true := byte_eq (n := 45) c45 (by omega)
                  have it2 := it.1 (by rw [get_at s (k + n) a, c45])
                  clear c45 it
                  rcases h2 : rb sgI s.data.toList (k + n + 1) with r | ⟨hi, r⟩
                  · have HX : Hid (R = .bad r) := Lib.hid (by rw [← HG.out, goS_bad hno.out (by rw [it2, h2])])
                    have KB : Hid (∀ w, Calls Tryd.prog 83 #[.string s, .int .i64 ((k : Int) + (n : Int) + 1)] w fun e w' => e = .returned (.tuple #[.int .u8 0, .int .i64 (-1), .int .i64 r]) ∧ w = w') := Lib.hid fun w => ritem_at s ((k : Int) + (n : Int) + 1) (k + n + 1) (by omega) (by omega) hs h2 w
                    clear h2 it2
                    go_wp2_with (first | (go_at_call 83; ((with_reducible refine (KA.out _).mono ?_)); rintro e w1 ⟨rfl, rfl⟩) | (go_at_call 83; ((with_reducible refine (KB.out _).mono ?_)); rintro e w1 ⟨rfl, rfl⟩))
                    go_ret3
                    rw [HX.out]
                    exact ⟨_, rfl, ⟨World.ownsRow_nil _ _ _ _, HT.out.below, HT.out.size⟩⟩
                  · obtain ⟨r1, r2⟩ := rb_ok (by rw [len_data]; omega) h2
                    rw [len_data] at r2
                    obtain ⟨d, rfl⟩ : ∃ d : Nat, r = k + n + 1 + d := ⟨r - (k + n + 1), by omega⟩
                    obtain ⟨y, hy⟩ : ∃ y : Int, y = (hi.toNat : Int) := ⟨_, rfl⟩
                    have HHI := Lib.hid hy
                    have KB : Hid (∀ w, Calls Tryd.prog 83 #[.string s, .int .i64 ((k : Int) + (n : Int) + 1)] w fun e w' => e = .returned (.tuple #[.int .u8 y, .int .i64 d, .int .i64 0]) ∧ w = w') := Lib.hid fun w => by
                      have := ritem_at s ((k : Int) + (n : Int) + 1) (k + n + 1) (by omega) (by omega) hs h2 w
                      rw [resR_ok (n := (d : Int)) (by omega), ← hy] at this; exact this
                    rw [h2] at it2
                    dsimp only at it2
                    rw [← HLO.out, ← hy] at it2
                    have hd2 : d ≤ 1000000 := by omega
                    by_cases hlt : y < x
                    · rw [if_pos hlt] at it2
                      have HX : Hid (R = .bad (k + n + 1 + d - 1)) := Lib.hid (by rw [← HG.out, goS_bad hno.out it2])
                      clear h2 hy it2
                      go_wp2_with (first | (go_at_call 83; ((with_reducible refine (KA.out _).mono ?_)); rintro e w1 ⟨rfl, rfl⟩) | (go_at_call 83; ((with_reducible refine (KB.out _).mono ?_)); rintro e w1 ⟨rfl, rfl⟩))
                      go_ret3
                      rw [HX.out]
                      exact ⟨_, ret_bad (v := .slice none 0 0) (i := (k : Int) + (n : Int) + (d : Int)) (q := k + n + 1 + d - 1) (by omega), ⟨World.ownsRow_nil _ _ _ _, HT.out.below, HT.out.size⟩⟩
                    · rw [if_neg hlt] at it2
                      have HX : Hid (goS s.data.toList (k + n + 1 + d) (acc ++ [(lo, hi)]) = R) := Lib.hid (by rw [← HG.out, goS_ok hno.out (by rw [len_data]; exact hk) it2])
                      clear h2 hy it2
                      go_wp2_with (first | (go_at_call 83; ((with_reducible refine (KA.out _).mono ?_)); rintro e w1 ⟨rfl, rfl⟩) | (go_at_call 83; ((with_reducible refine (KB.out _).mono ?_)); rintro e w1 ⟨rfl, rfl⟩) | (at_builtin; refine wpList_append_own _ rfl (.tmp 75) (.tmp 79) 71 rfl w.heap.size 74 i0 (.agg #[.int .u8 0, .int .u8 0]) 2 2 Tryd.underlying71 hi0 hz0 hz1 hz2 rfl (by decide) _ _ _ rfl (HT.out.alloc _).row ⟨wr.heap.size, 0, none⟩ 1 1 [.int .u8 x, .int .u8 y] rfl rfl (fun j u hu => new_cells wr 74 #[.int .u8 x, .int .u8 y] j u hu) (two_one _ _) (by unfold maxLen; omega) (by omega) (HT.out.alloc _).size ?_; intro v2 w3 hown' hgrow _))
                      go_roundw
                      case rel => exact ⟨k + n + 1 + d, acc ++ [(lo, hi)], r2, by go_num, HX.out, (HT.out.alloc _).span (p := (lo, hi)) (by rw [HLO.out, HHI.out] at hown'; exact hown') hgrow, by rw [List.length_append]; simp; omega⟩
                      case measure => simp [intOf]; omega
                · have b45 : ((s[k + n].toNat : Int) == 45) = false := byte_ne (n := 45) c45 (by omega)
                  have it2 := it.2 (by rw [get_at s (k + n) a]; simpa using c45)
                  have HX : Hid (goS s.data.toList (k + n) (acc ++ [(lo, lo)]) = R) := Lib.hid (by rw [← HG.out, goS_ok hno.out (by rw [len_data]; exact hk) it2])
                  clear c45 it it2
                  go_wp2_with (first | (go_at_call 83; ((with_reducible refine (KA.out _).mono ?_)); rintro e w1 ⟨rfl, rfl⟩) | (at_builtin; refine wpList_append_own _ rfl (.tmp 75) (.tmp 79) 71 rfl w.heap.size 74 i0 (.agg #[.int .u8 0, .int .u8 0]) 2 2 Tryd.underlying71 hi0 hz0 hz1 hz2 rfl (by decide) _ _ _ rfl (HT.out.alloc _).row ⟨wr.heap.size, 0, none⟩ 1 1 [.int .u8 x, .int .u8 x] rfl rfl (fun j u hu => new_cells wr 74 #[.int .u8 x, .int .u8 x] j u hu) (two_one _ _) (by unfold maxLen; omega) (by omega) (HT.out.alloc _).size ?_; intro v2 w3 hown' hgrow _))
                  go_roundw
                  case rel => exact ⟨k + n, acc ++ [(lo, lo)], q2, by go_num, HX.out, (HT.out.alloc _).span (p := (lo, lo)) (by rw [HLO.out] at hown'; exact hown') hgrow, by rw [List.length_append]; simp; omega⟩
                  case measure => simp [intOf]; omega
              · have it2 := it.2 (by rw [get_end s (k + n) a]; simp)
                have HX : Hid (goS s.data.toList (k + n) (acc ++ [(lo, lo)]) = R) := Lib.hid (by rw [← HG.out, goS_ok hno.out (by rw [len_data]; exact hk) it2])
                clear it it2
                go_wp2_with (first | (go_at_call 83; ((with_reducible refine (KA.out _).mono ?_)); rintro e w1 ⟨rfl, rfl⟩) | (at_builtin; refine wpList_append_own _ rfl (.tmp 75) (.tmp 79) 71 rfl w.heap.size 74 i0 (.agg #[.int .u8 0, .int .u8 0]) 2 2 Tryd.underlying71 hi0 hz0 hz1 hz2 rfl (by decide) _ _ _ rfl (HT.out.alloc _).row ⟨wr.heap.size, 0, none⟩ 1 1 [.int .u8 x, .int .u8 x] rfl rfl (fun j u hu => new_cells wr 74 #[.int .u8 x, .int .u8 x] j u hu) (two_one _ _) (by unfold maxLen; omega) (by omega) (HT.out.alloc _).size ?_; intro v2 w3 hown' hgrow _))
                go_roundw
                case rel => exact ⟨k + n, acc ++ [(lo, lo)], q2, by go_num, HX.out, (HT.out.alloc _).span (p := (lo, lo)) (by rw [HLO.out] at hown'; exact hown') hgrow, by rw [List.length_append]; simp; omega⟩
                case measure => simp [intOf]; omega
        · have hno : Hid (¬ (acc ≠ [] ∧ s.data.toList[k]? = some 93)) := Lib.hid (by rintro ⟨_, h⟩; rw [get_end s k a] at h; cases h)
          clear hne
          rcases h1 : rb sgI s.data.toList k with q | ⟨lo, q⟩
          · have HX : Hid (R = .bad q) := Lib.hid (by rw [← HG.out, goS_bad hno.out (by unfold item; rw [h1])])
            have KA : Hid (∀ w, Calls Tryd.prog 83 #[.string s, .int .i64 (k : Int)] w fun e w' => e = .returned (.tuple #[.int .u8 0, .int .i64 (-1), .int .i64 q]) ∧ w = w') := Lib.hid fun w => ritem_at s (k : Int) k rfl (by omega) hs h1 w
            clear h1
            go_wp2_with (go_at_call 83; ((with_reducible refine (KA.out _).mono ?_)); rintro e w1 ⟨rfl, rfl⟩)
            go_ret3
            rw [HX.out]
            exact ⟨_, rfl, ⟨World.ownsRow_nil _ _ _ _, HT.out.below, HT.out.size⟩⟩
          · exfalso
            obtain ⟨q1, q2⟩ := rb_ok (by rw [len_data]; exact hk) h1
            rw [len_data] at q2
            omega
      · have hno : Hid (¬ (acc ≠ [] ∧ s.data.toList[k]? = some 93)) := Lib.hid (by rintro ⟨h, _⟩; exact h (List.eq_nil_of_length_eq_zero (by rw [← HM.out]; omega)))
        rcases h1 : rb sgI s.data.toList k with q | ⟨lo, q⟩
        · have HX : Hid (R = .bad q) := Lib.hid (by rw [← HG.out, goS_bad hno.out (by unfold item; rw [h1])])
          have KA : Hid (∀ w, Calls Tryd.prog 83 #[.string s, .int .i64 (k : Int)] w fun e w' => e = .returned (.tuple #[.int .u8 0, .int .i64 (-1), .int .i64 q]) ∧ w = w') := Lib.hid fun w => ritem_at s (k : Int) k rfl (by omega) hs h1 w
          clear h1
          go_wp2_with (go_at_call 83; ((with_reducible refine (KA.out _).mono ?_)); rintro e w1 ⟨rfl, rfl⟩)
          go_ret3
          rw [HX.out]
          exact ⟨_, rfl, ⟨World.ownsRow_nil _ _ _ _, HT.out.below, HT.out.size⟩⟩
        · obtain ⟨q1, q2⟩ := rb_ok (by rw [len_data]; exact hk) h1
          rw [len_data] at q2
          obtain ⟨n, rfl⟩ : ∃ n : Nat, q = k + n := ⟨q - k, by omega⟩
          obtain ⟨x, hx⟩ : ∃ x : Int, x = (lo.toNat : Int) := ⟨_, rfl⟩
          have HLO := Lib.hid hx
          have KA : Hid (∀ w, Calls Tryd.prog 83 #[.string s, .int .i64 (k : Int)] w fun e w' => e = .returned (.tuple #[.int .u8 x, .int .i64 n, .int .i64 0]) ∧ w = w') := Lib.hid fun w => by
            have := ritem_at s (k : Int) k rfl (by omega) hs h1 w
            rw [resR_ok (n := (n : Int)) (by omega), ← hx] at this; exact this
          have hn2 : n ≤ 1000000 := by omega
          have hn0 : 0 < n := by omega
          have it := item_of h1
          clear h1 hx
          by_cases a : k + n < s.size
          · by_cases c45 : s[k + n] = 45
            · have b45 : ((s[k + n].toNat : Int) == 45) = true := byte_eq (n := 45) c45 (by omega)
              have it2 := it.1 (by rw [get_at s (k + n) a, c45])
              clear c45 it
              rcases h2 : rb sgI s.data.toList (k + n + 1) with r | ⟨hi, r⟩
              · have HX : Hid (R = .bad r) := Lib.hid (by rw [← HG.out, goS_bad hno.out (by rw [it2, h2])])
                have KB : Hid (∀ w, Calls Tryd.prog 83 #[.string s, .int .i64 ((k : Int) + (n : Int) + 1)] w fun e w' => e = .returned (.tuple #[.int .u8 0, .int .i64 (-1), .int .i64 r]) ∧ w = w') := Lib.hid fun w => ritem_at s ((k : Int) + (n : Int) + 1) (k + n + 1) (by omega) (by omega) hs h2 w
                clear h2 it2
                go_wp2_with (first | (go_at_call 83; ((with_reducible refine (KA.out _).mono ?_)); rintro e w1 ⟨rfl, rfl⟩) | (go_at_call 83; ((with_reducible refine (KB.out _).mono ?_)); rintro e w1 ⟨rfl, rfl⟩))
                go_ret3
                rw [HX.out]
                exact ⟨_, rfl, ⟨World.ownsRow_nil _ _ _ _, HT.out.below, HT.out.size⟩⟩
              · obtain ⟨r1, r2⟩ := rb_ok (by rw [len_data]; omega) h2
                rw [len_data] at r2
                obtain ⟨d, rfl⟩ : ∃ d : Nat, r = k + n + 1 + d := ⟨r - (k + n + 1), by omega⟩
                obtain ⟨y, hy⟩ : ∃ y : Int, y = (hi.toNat : Int) := ⟨_, rfl⟩
                have HHI := Lib.hid hy
                have KB : Hid (∀ w, Calls Tryd.prog 83 #[.string s, .int .i64 ((k : Int) + (n : Int) + 1)] w fun e w' => e = .returned (.tuple #[.int .u8 y, .int .i64 d, .int .i64 0]) ∧ w = w') := Lib.hid fun w => by
                  have := ritem_at s ((k : Int) + (n : Int) + 1) (k + n + 1) (by omega) (by omega) hs h2 w
                  rw [resR_ok (n := (d : Int)) (by omega), ← hy] at this; exact this
                rw [h2] at it2
                dsimp only at it2
                rw [← HLO.out, ← hy] at it2
                have hd2 : d ≤ 1000000 := by omega
                by_cases hlt : y < x
                · rw [if_pos hlt] at it2
                  have HX : Hid (R = .bad (k + n + 1 + d - 1)) := Lib.hid (by rw [← HG.out, goS_bad hno.out it2])
                  clear h2 hy it2
                  go_wp2_with (first | (go_at_call 83; ((with_reducible refine (KA.out _).mono ?_)); rintro e w1 ⟨rfl, rfl⟩) | (go_at_call 83; ((with_reducible refine (KB.out _).mono ?_)); rintro e w1 ⟨rfl, rfl⟩))
                  go_ret3
                  rw [HX.out]
                  exact ⟨_, ret_bad (v := .slice none 0 0) (i := (k : Int) + (n : Int) + (d : Int)) (q := k + n + 1 + d - 1) (by omega), ⟨World.ownsRow_nil _ _ _ _, HT.out.below, HT.out.size⟩⟩
                · rw [if_neg hlt] at it2
                  have HX : Hid (goS s.data.toList (k + n + 1 + d) (acc ++ [(lo, hi)]) = R) := Lib.hid (by rw [← HG.out, goS_ok hno.out (by rw [len_data]; exact hk) it2])
                  clear h2 hy it2
                  go_wp2_with (first | (go_at_call 83; ((with_reducible refine (KA.out _).mono ?_)); rintro e w1 ⟨rfl, rfl⟩) | (go_at_call 83; ((with_reducible refine (KB.out _).mono ?_)); rintro e w1 ⟨rfl, rfl⟩) | (at_builtin; refine wpList_append_own _ rfl (.tmp 75) (.tmp 79) 71 rfl w.heap.size 74 i0 (.agg #[.int .u8 0, .int .u8 0]) 2 2 Tryd.underlying71 hi0 hz0 hz1 hz2 rfl (by decide) _ _ _ rfl (HT.out.alloc _).row ⟨wr.heap.size, 0, none⟩ 1 1 [.int .u8 x, .int .u8 y] rfl rfl (fun j u hu => new_cells wr 74 #[.int .u8 x, .int .u8 y] j u hu) (two_one _ _) (by unfold maxLen; omega) (by omega) (HT.out.alloc _).size ?_; intro v2 w3 hown' hgrow _))
                  go_roundw
                  case rel => exact ⟨k + n + 1 + d, acc ++ [(lo, hi)], r2, by go_num, HX.out, (HT.out.alloc _).span (p := (lo, hi)) (by rw [HLO.out, HHI.out] at hown'; exact hown') hgrow, by rw [List.length_append]; simp; omega⟩
                  case measure => simp [intOf]; omega
            · have b45 : ((s[k + n].toNat : Int) == 45) = false := byte_ne (n := 45) c45 (by omega)
              have it2 := it.2 (by rw [get_at s (k + n) a]; simpa using c45)
              have HX : Hid (goS s.data.toList (k + n) (acc ++ [(lo, lo)]) = R) := Lib.hid (by rw [← HG.out, goS_ok hno.out (by rw [len_data]; exact hk) it2])
              clear c45 it it2
              go_wp2_with (first | (go_at_call 83; ((with_reducible refine (KA.out _).mono ?_)); rintro e w1 ⟨rfl, rfl⟩) | (at_builtin; refine wpList_append_own _ rfl (.tmp 75) (.tmp 79) 71 rfl w.heap.size 74 i0 (.agg #[.int .u8 0, .int .u8 0]) 2 2 Tryd.underlying71 hi0 hz0 hz1 hz2 rfl (by decide) _ _ _ rfl (HT.out.alloc _).row ⟨wr.heap.size, 0, none⟩ 1 1 [.int .u8 x, .int .u8 x] rfl rfl (fun j u hu => new_cells wr 74 #[.int .u8 x, .int .u8 x] j u hu) (two_one _ _) (by unfold maxLen; omega) (by omega) (HT.out.alloc _).size ?_; intro v2 w3 hown' hgrow _))
              go_roundw
              case rel => exact ⟨k + n, acc ++ [(lo, lo)], q2, by go_num, HX.out, (HT.out.alloc _).span (p := (lo, lo)) (by rw [HLO.out] at hown'; exact hown') hgrow, by rw [List.length_append]; simp; omega⟩
              case measure => simp [intOf]; omega
          · have it2 := it.2 (by rw [get_end s (k + n) a]; simp)
            have HX : Hid (goS s.data.toList (k + n) (acc ++ [(lo, lo)]) = R) := Lib.hid (by rw [← HG.out, goS_ok hno.out (by rw [len_data]; exact hk) it2])
            clear it it2
            go_wp2_with (first | (go_at_call 83; ((with_reducible refine (KA.out _).mono ?_)); rintro e w1 ⟨rfl, rfl⟩) | (at_builtin; refine wpList_append_own _ rfl (.tmp 75) (.tmp 79) 71 rfl w.heap.size 74 i0 (.agg #[.int .u8 0, .int .u8 0]) 2 2 Tryd.underlying71 hi0 hz0 hz1 hz2 rfl (by decide) _ _ _ rfl (HT.out.alloc _).row ⟨wr.heap.size, 0, none⟩ 1 1 [.int .u8 x, .int .u8 x] rfl rfl (fun j u hu => new_cells wr 74 #[.int .u8 x, .int .u8 x] j u hu) (two_one _ _) (by unfold maxLen; omega) (by omega) (HT.out.alloc _).size ?_; intro v2 w3 hown' hgrow _))
            go_roundw
            case rel => exact ⟨k + n, acc ++ [(lo, lo)], q2, by go_num, HX.out, (HT.out.alloc _).span (p := (lo, lo)) (by rw [HLO.out] at hown'; exact hown') hgrow, by rw [List.length_append]; simp; omega⟩
            case measure => simp [intOf]; omega
end Go.Proofs.YtccheljfbjllhaaDoor
