/- The loop of the code's reader, and its whole contract, for every text of up to 100000 bytes. -/
import Derived.Test.YtgamlhhchagnaaaParse
namespace Go.Proofs.Ytgamlhhchagnaaa
open Go Go.RowKit

theorem step36 (t : Bs) : step (36 :: t) = stepVar t := step_dollar t
set_option maxHeartbeats 2000000 in
theorem parse_loop (s : ByteArray) (hs : s.size ≤ 100000) (h0 : 0 < s.size) (hc : s[0] = 34) (w : World) : Calls Try.prog 11 #[.string s] w (PostP w.heap.size w (parse s.data.toList)) := by
  have hd := drop_at s 0 h0
  rw [drop0] at hd
  obtain ⟨R, hR⟩ : ∃ R, R = parse s.data.toList := ⟨_, rfl⟩
  rw [← hR]
  rw [hd, hc, parse_quote] at hR
  have HR := Lib.hid hR.symm
  have he := isEmpty_f s h0
  have hx : ((s[0].toNat : Int) != 34) = false := by
    have := byte_eq (n := 34) hc (by omega)
    simp only [bne]; simpa using this
  obtain ⟨i0, hi, hz0, hz1, hz2⟩ := info_parts info33
  obtain ⟨j0, hj, hy0, hy1, hy2⟩ := info_parts info5
  clear hd hc hR
  go_enter Try.func11, Try.ntmps11
  go_wp2
  go_loopw [5, 6, 7] (fun vp vt a wr => LoopP s w R vp vt a wr) (fun _ _ a _ => s.size - (intOf a).toNat)
  case atStart => exact ⟨1, [], [], h0, rfl, HR.out, ⟨World.ownsRow_nil _ _ _ _, World.ownsRow_nil _ _ _ _, Below.refl _ _, Nat.le_refl _⟩, by simp, by simp⟩
  case round =>
    obtain ⟨k, ps, t, hk, rfl, hg, hT, hp, ht⟩ := hrel
    have HG := Lib.hid hg
    have HT := Lib.hid hT
    clear hg hT
    by_cases a : k < s.size
    · by_cases c34 : s[k] = 34
      · have b34 : ((s[k].toNat : Int) != 34) = false := by
          have := byte_eq (n := 34) c34 (by omega)
          simp only [bne]; simpa using this
        have HX : Hid (R = (some (flush ps t), k + 1)) := by
          apply Lib.hid; rw [← HG.out, drop_at s k a, c34, goN_stop (step_quote _)]
        have bk : ((k : Int) == (s.size : Int)) = false := by simp; omega
        have bk2 : (k == s.size) = false := by simp; omega
        have K20 := Lib.hid (addtext_any _ _ _ _ _ _ _ (by omega) HT.out)
        clear c34
        go_wp2_with (go_at_call 20; ((with_reducible refine (K20.out).mono ?_)); rintro e w' ⟨v', rfl, HT2⟩)
        go_ret3
        rw [HX.out]
        exact ⟨_, rfl, HT2.parts, HT2.below⟩
      · have b34 : ((s[k].toNat : Int) != 34) = true := by
          have := byte_ne (n := 34) c34 (by omega)
          simp only [bne]; simpa using this
        by_cases c36 : s[k] = 36
        · have b36 : ((s[k].toNat : Int) == 36) = true := byte_eq (n := 36) c36 (by omega)
          have hst : step (s.data.toList.drop k) = stepVar (s.data.toList.drop (k + 1)) := by rw [drop_at s k a, c36, step_dollar]
          have K19 : ∀ w1, Calls Try.prog 19 #[.string s, .int .i64 k] w1 fun e w' => e = .returned (resV k (step (s.data.toList.drop k))) ∧ Below w1.heap.size w1 w' := fun w1 => by rw [hst]; exact readvar_any s k a (by omega) w1
          have K20 : Hid (∀ w1, Below wr.heap.size wr w1 → Calls Try.prog 20 #[u5, u6] w1 (Added w.heap.size w u6 (flush ps t) t)) := Lib.hid fun w1 hb => addtext_any _ _ _ _ _ _ _ (by omega) (HT.out.beyond hb)
          rcases step_cases (s.data.toList.drop k) with ⟨n, hr⟩ | hr | ⟨nm, n, hr⟩ | ⟨b, n, hr⟩
          · have HX : Hid (R = (none, k + n)) := by apply Lib.hid; rw [← HG.out, goN_bad hr]
            rw [hr] at K19
            obtain ⟨q, hq⟩ : ∃ q, q = k + n := ⟨_, rfl⟩
            simp only [resV] at K19
            rw [← hq] at K19 HX
            have K19 := Lib.hid K19
            clear hst hr hq c34 c36
            go_wp2_with (go_at_call 19; ((with_reducible refine (K19.out _).mono ?_)); rintro e w1 ⟨rfl, hb1⟩)
            go_ret3
            exact postP_bad (HT.out.beyond hb1) HX.out rfl
          · obtain ⟨t, ht⟩ := stop_form hr
            rw [drop_at s k a] at ht
            injection ht with ht _
            exact absurd ht c34
          · obtain ⟨n0, nl, _⟩ := var_local hr
            rw [List.length_drop, len_data] at nl
            rw [hr] at K19
            obtain ⟨q, hq⟩ : ∃ q, q = k + n := ⟨_, rfl⟩
            have HX : Hid (goN (s.data.toList.drop q) q (flush ps t ++ [(nm, [])]) [] = R) := by
              apply Lib.hid; rw [← HG.out, goN_var hr, hq, List.drop_drop]
            simp only [resV] at K19
            rw [← hq] at K19
            have K19 := Lib.hid K19
            have q1 : k < q := by omega
            have q2 : q ≤ s.size := by omega
            have fl := flush_len ps t
            clear hst hr hq c34 c36
            rcases text_form HT.out.text with ⟨rfl, e0⟩ | ⟨g, cap, rfl, hcap⟩
            · clear e0
              go_wp2_with (first | (go_at_call 19; ((with_reducible refine (K19.out _).mono ?_)); rintro e w1 ⟨rfl, hb1⟩) | (go_at_call 20; ((with_reducible refine (K20.out _ hb1).mono ?_)); rintro e w2 ⟨v', rfl, HT2⟩) | (at_builtin; refine wpList_append_own _ rfl (.tmp 47) (.tmp 50) 22 rfl w.heap.size 33 i0 (.agg #[.string ⟨#[]⟩, .string ⟨#[]⟩]) 2 32 Try.underlying22 hi hz0 hz1 hz2 rfl (by decide) _ _ _ rfl (HT2.parts.alloc _) ⟨w2.heap.size, 0, none⟩ 1 1 [.string ⟨nm.toArray⟩, .string ⟨#[]⟩] rfl rfl (fun j u hu => new_cells w2 33 #[.string ⟨nm.toArray⟩, .string ⟨#[]⟩] j u hu) (two_one _ _) (by unfold maxLen; omega) (by omega) (HT2.alloc _).size ?_; intro v2 w3 hown' hgrow _))
              go_roundw
              case rel => exact ⟨q, _, _, q2, rfl, HX.out, ((HT2.alloc _).part (p := (nm, [])) hown' hgrow).nilt, by rw [List.length_append]; simp; omega, by simp⟩
              case measure => simp [intOf]; omega
            · obtain ⟨m, hm⟩ : ∃ m, m = t.length := ⟨_, rfl⟩
              rw [← hm] at hcap HT K20 ⊢
              have HM := Lib.hid hm
              clear hm
              go_wp2_with (first | (go_at_call 19; ((with_reducible refine (K19.out _).mono ?_)); rintro e w1 ⟨rfl, hb1⟩) | (go_at_call 20; ((with_reducible refine (K20.out _ hb1).mono ?_)); rintro e w2 ⟨v', rfl, HT2⟩) | (at_builtin; refine wpList_append_own _ rfl (.tmp 47) (.tmp 50) 22 rfl w.heap.size 33 i0 (.agg #[.string ⟨#[]⟩, .string ⟨#[]⟩]) 2 32 Try.underlying22 hi hz0 hz1 hz2 rfl (by decide) _ _ _ rfl (HT2.parts.alloc _) ⟨w2.heap.size, 0, none⟩ 1 1 [.string ⟨nm.toArray⟩, .string ⟨#[]⟩] rfl rfl (fun j u hu => new_cells w2 33 #[.string ⟨nm.toArray⟩, .string ⟨#[]⟩] j u hu) (two_one _ _) (by unfold maxLen; omega) (by omega) (HT2.alloc _).size ?_; intro v2 w3 hown' hgrow _))
              go_roundw
              case rel => exact ⟨q, _, _, q2, rfl, HX.out, ((HT2.alloc _).part (p := (nm, [])) hown' hgrow).cut HM.out, by rw [List.length_append]; simp; omega, by simp⟩
              case measure => simp [intOf]; omega
          · exfalso
            rcases byte_form hr with ⟨t, ht, hp, _⟩ | ⟨c, t, ht, _⟩ | ⟨c, d, t, ht, _⟩ <;> (rw [drop_at s k a, c36] at ht; injection ht with ht _; revert ht)
            · intro ht; rw [← ht] at hp; revert hp; decide
            · decide
            · decide
        · have b36 : ((s[k].toNat : Int) == 36) = false := byte_ne (n := 36) c36 (by omega)
          have K21 := fun w1 => readbyte_any s k a (by omega) c34 c36 w1
          rcases step_cases (s.data.toList.drop k) with ⟨n, hr⟩ | hr | ⟨nm, n, hr⟩ | ⟨b, n, hr⟩
          · have HX : Hid (R = (none, k + n)) := by apply Lib.hid; rw [← HG.out, goN_bad hr]
            rw [hr] at K21
            obtain ⟨q, hq⟩ : ∃ q, q = k + n := ⟨_, rfl⟩
            simp only [resS] at K21
            rw [← hq] at K21 HX
            have K21 := Lib.hid K21
            clear hr hq c34 c36
            go_wp2_with (go_at_call 21; ((with_reducible refine (K21.out _).mono ?_)); rintro e w1 ⟨rfl, rfl⟩)
            go_ret3
            exact postP_bad HT.out HX.out rfl
          · obtain ⟨t, ht⟩ := stop_form hr
            rw [drop_at s k a] at ht
            injection ht with ht _
            exact absurd ht c34
          · obtain ⟨t, ht, _⟩ := svar_form hr
            rw [drop_at s k a] at ht
            injection ht with ht _
            exact absurd ht c36
          · obtain ⟨n0, nl, _⟩ := byte_local hr
            rw [List.length_drop, len_data] at nl
            rw [hr] at K21
            obtain ⟨q, hq⟩ : ∃ q, q = k + n := ⟨_, rfl⟩
            have HX : Hid (goN (s.data.toList.drop q) q ps (t ++ [b]) = R) := by
              apply Lib.hid; rw [← HG.out, goN_byte hr, hq, List.drop_drop]
            simp only [resS] at K21
            rw [← hq] at K21
            have K21 := Lib.hid K21
            have q1 : k < q := by omega
            have q2 : q ≤ s.size := by omega
            clear hr hq c34 c36
            go_wp2_with (first | (go_at_call 21; ((with_reducible refine (K21.out _).mono ?_)); rintro e w1 ⟨rfl, rfl⟩) | (at_builtin; refine wpList_append_own _ rfl (.tmp 65) (.tmp 67) 42 rfl w.heap.size 5 j0 (.int .u8 0) 1 1 Try.underlying42 hj hy0 hy1 hy2 rfl (by decide) _ _ _ rfl (HT.out.text.alloc _) ⟨wr.heap.size, 0, none⟩ 1 1 [.int .u8 b.toNat] rfl rfl (fun j u hu => new_cells wr 5 #[.int .u8 b.toNat] j u hu) (one_one _) (by unfold maxLen; omega) (by omega) (HT.out.alloc _).size ?_; intro v2 w3 hown' hgrow _))
            go_roundw
            case rel => exact ⟨q, _, _, q2, rfl, HX.out, (HT.out.alloc _).byte hown' hgrow, by omega, by rw [List.length_append]; simp; omega⟩
            case measure => simp [intOf]; omega
    · have HX : Hid (R = (none, k)) := by
        apply Lib.hid; rw [← HG.out, drop_end s k a, goN_bad (k := 0) rfl]; rfl
      obtain rfl : k = s.size := by omega
      go_wp2
      go_ret3
      exact postP_bad HT.out HX.out rfl
theorem parse_any (s : ByteArray) (hs : s.size ≤ 100000) (w : World) : Calls Try.prog 11 #[.string s] w (PostP w.heap.size w (parse s.data.toList)) := by
  by_cases h0 : 0 < s.size
  · by_cases hc : s[0] = 34
    · exact parse_loop s hs h0 hc w
    · exact parse_second s h0 hc w
  · refine parse_first s ?_ h0 w
    rw [isEmpty_t s h0]; rfl
end Go.Proofs.Ytgamlhhchagnaaa
