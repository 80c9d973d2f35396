/- The contract of the code's Match, for up to 80 pieces of up to 40 spans and up to 60 bytes. -/
import Derived.Test.YtafnlbcpnamdkaaFits
import Derived.Deep.RegionHeld3
import Derived.Deep.DrawnRows
namespace Go.Proofs.Ytafnlbcpnamdkaa
open Go Go.RowKit
attribute [local go_sem ↓] Go.wp_at_zero Go.wp_at_succ

def LoopM (gs : List Gl) (s : ByteArray) (w0 : World) (v5 v6 v7 v8 : Value) (w : World) : Prop :=
  ∃ (p a : Nat) (b : Int) (m : Nat), v5 = .int .i64 p ∧ v6 = .int .i64 a ∧ v7 = .int .i64 b ∧ v8 = .int .i64 m ∧ At gs s.data.toList p a b m ∧ Below w0.heap.size w0 w
theorem at_bounds {l : List Gl} {s : Bs} {p a m : Nat} {b : Int} (h : At l s p a b m) : p ≤ l.length ∧ a ≤ s.length ∧ -1 ≤ b ∧ b ≤ p ∧ m ≤ a := by
  obtain ⟨h1, h2, h⟩ := h
  rcases h with ⟨rfl, rfl, _⟩ | ⟨q, rfl, h3, h4, _⟩
  · exact ⟨h1, h2, by omega, by omega, by omega⟩
  · exact ⟨h1, h2, by omega, by omega, by omega⟩
theorem star_is {g : Gl} {x : Int} (hx : x = g.kind) : star g = decide (x = 2) := by rw [hx]; rfl
set_option maxRecDepth 100000 in
set_option maxHeartbeats 4000000 in
theorem match_any (A : Option Addr) (n c : Nat) (gs : List Gl) (s : ByteArray) (w : World) (h : RdG w.heap.size w A n gs) (hc : n ≤ c) (hc2 : c ≤ maxLen) (hA : A = none → c = 0) (hs : smallG gs = true) (hs60 : s.size ≤ 60) :
    Calls Try.prog 17 #[.slice A n c, .string s] w fun e w' => e = .returned (.bool (may gs && mat gs s.data.toList)) ∧ Below w.heap.size w w' := by
  unfold maxLen at hc2
  obtain ⟨hs1, hs2⟩ := small_n hs
  have hn80 : n ≤ 80 := by have := h.1; omega
  have K11 := may_any A n c gs w h (by omega) (fun g hg => by have := hs2 g hg; omega)
  obtain ⟨v, hv⟩ : ∃ v, v = (may gs && mat gs s.data.toList) := ⟨_, rfl⟩
  rw [← hv]
  by_cases hm : may gs = true
  · rw [hm] at K11 hv
    rw [Bool.true_and] at hv
    have K11 := Lib.hid K11
    have HV := Lib.hid hv
    have HR := Lib.hid h
    have HN := Lib.hid h.1
    have HS := Lib.hid hs2
    have HAA := Lib.hid hA
    clear hv hm h hs hs1 hs2 hA
    go_enter Try.func17, Try.ntmps17
    go_wp2_with (go_at_call 11; ((with_reducible refine (K11.out).mono ?_)); rintro e w1 ⟨rfl, hb1⟩; have HB := Lib.hid hb1; clear hb1)
    go_loopw [5, 6, 7, 8] (fun v5 v6 v7 v8 wr => LoopM gs s w v5 v6 v7 v8 wr) (fun v5 v6 v7 v8 _ => left (intOf v5).toNat (intOf v6).toNat (intOf v7) (intOf v8).toNat)
    case atStart => exact ⟨0, 0, -1, 0, rfl, rfl, rfl, rfl, at_start _ _, HB.out⟩
    case round =>
      obtain ⟨p, a, b, m, rfl, rfl, rfl, rfl, hat, hb⟩ := hrel
      obtain ⟨p1, p2, p3, p4, p5⟩ := at_bounds hat
      rw [len_data] at p2
      rw [← HN.out] at p1
      have HAT := Lib.hid hat
      have HB2 := Lib.hid hb
      clear hat hb
      have HLL : Hid (gs.length ≤ 80) := Lib.hid (by rw [← HN.out]; exact hn80)
      have HSL : Hid (s.data.toList.length ≤ 60) := Lib.hid (by rw [len_data]; exact hs60)
      by_cases ha : a < s.size
      · by_cases hp : p < n
        · obtain ⟨g, hg⟩ := get_of_lt HN.out hp
          obtain ⟨ad, A', c', rfl, ⟨c0, c1, c2⟩, hrs⟩ := (HR.out.keep HB2.out).at_ hg
          have HG := Lib.hid hg
          have hsp := HS.out g (List.mem_of_getElem? hg)
          by_cases k2 : g.kind = 2
          · have hst : star g = true := by simp [star, k2]
            have HA2 := Lib.hid (at_star HAT.out hg hst)
            have HL2 := Lib.hid (left_star HAT.out HLL.out HSL.out (by rw [← HN.out]; exact hp))
            rw [k2] at c0
            clear hg k2 hst hrs
            go_wp2
            go_roundw
            case rel => exact ⟨p + 1, a, _, a, by go_num, rfl, by go_num, rfl, HA2.out, HB2.out⟩
            case measure => have := HL2.out; simpa [intOf] using this
          · have hst : star g = false := by simp [star, k2]
            obtain ⟨x, hx⟩ : ∃ x, x = g.kind := ⟨_, rfl⟩
            obtain ⟨y, hy⟩ : ∃ y : Int, y = g.byte.toNat := ⟨_, rfl⟩
            obtain ⟨k, hk⟩ : ∃ k, k = g.spans.length := ⟨_, rfl⟩
            have K26 : ∀ w', Below wr.heap.size wr w' → Calls Try.prog 26 #[.int .u8 s[a].toNat, .agg #[.int .i64 g.kind, .int .u8 g.byte.toNat, .slice A' g.spans.length c']] w' fun e w'' => e = .returned (.bool (fits g s[a])) ∧ Below w'.heap.size w' w'' :=
              fun w' hb' => stands_any A' c' g s[a] w' (((hrs.up HB2.out.size).keep hb').up hb'.size) (by omega)
            have HC : Hid (∀ w', Below wr.heap.size wr w' → At3 w' (ad.add (p * 3)) g.kind g.byte.toNat A' g.spans.length c') := Lib.hid fun w' hb' => by
              obtain ⟨ad', B', b', e, h3, _⟩ := (HR.out.keep (HB2.out.trans (hb'.mono HB2.out.size))).at_ hg
              injection e with e; subst e
              have e2 := h3.2.2
              have hlt : (ad.add (p * 3)).block < wr.heap.size := World.block_lt_of_cell? wr _ c0
              rw [hb'.cell (p := ⟨(ad.add (p * 3)).block, (ad.add (p * 3)).off + 2, none⟩) hlt, c2] at e2
              injection e2 with e2
              injection e2 with e2 _ e4
              subst e2 e4
              exact h3
            rw [← hx, ← hy, ← hk] at K26 HC
            rw [← hx] at c0
            rw [← hy] at c1
            rw [← hk] at c2
            have k2' : (x == 2) = false := by rw [hx]; simpa using k2
            have hca := get_at s a ha
            obtain ⟨f, hf⟩ : ∃ f, f = fits g s[a] := ⟨_, rfl⟩
            rw [← hf] at K26
            have K26 := Lib.hid K26
            cases f with
            | true =>
              have HA2 := Lib.hid (at_fits HAT.out hg hst hca hf.symm)
              have HL2 := Lib.hid (left_fits HAT.out HLL.out HSL.out (by rw [len_data]; exact ha))
              clear hg k2 hst hrs hx hy hk hca hf
              go_wp2
              go_region_held3 (fun w' => w'.cell? (ad.add (p * 3)) = some (.int .i64 x) ∧ w'.cell? ⟨(ad.add (p * 3)).block, (ad.add (p * 3)).off + 1, none⟩ = some (.int .u8 y) ∧ w'.cell? ⟨(ad.add (p * 3)).block, (ad.add (p * 3)).off + 2, none⟩ = some (.slice A' k c'))
                (first | go_keep | exact ⟨e0, e1, e2⟩)
                ((go_at_call 26; ((with_reducible refine (K26.out _ ?_).mono ?_)); (first | exact below_drewN (Below.refl _ _) _ | exact (Below.refl _ _).drew); rintro e w1 ⟨rfl, hb1⟩; obtain ⟨e0, e1, e2⟩ := HC.out _ ((Below.refl _ _).drew.trans hb1); have HB3 := Lib.hid hb1; clear hb1))
              go_wp2
              go_roundw
              case rel => exact ⟨p + 1, a + 1, b, m, by go_num, by go_num, rfl, rfl, HA2.out, HB2.out.trans (((Below.refl _ _).drew.trans HB3.out).mono HB2.out.size)⟩
              case measure => have := HL2.out; simpa [intOf] using this
            | false =>
              have hstk : Stuck gs s.data.toList p a := .inr ⟨g, s[a], hg, hst, hca, hf.symm⟩
              by_cases hbb : 0 ≤ b
              · obtain ⟨q, rfl⟩ : ∃ q : Nat, b = q := ⟨b.toNat, by omega⟩
                have HA2 := Lib.hid (at_back HAT.out (by rw [len_data]; exact ha) hstk)
                have HL2 := Lib.hid (left_back HAT.out HLL.out HSL.out (by rw [len_data]; exact ha))
                clear hg k2 hst hrs hx hy hk hca hf hstk
                go_wp2
                go_region_held3 (fun w' => w'.cell? (ad.add (p * 3)) = some (.int .i64 x) ∧ w'.cell? ⟨(ad.add (p * 3)).block, (ad.add (p * 3)).off + 1, none⟩ = some (.int .u8 y) ∧ w'.cell? ⟨(ad.add (p * 3)).block, (ad.add (p * 3)).off + 2, none⟩ = some (.slice A' k c'))
                  (first | go_keep | exact ⟨e0, e1, e2⟩)
                  ((go_at_call 26; ((with_reducible refine (K26.out _ ?_).mono ?_)); (first | exact below_drewN (Below.refl _ _) _ | exact (Below.refl _ _).drew); rintro e w1 ⟨rfl, hb1⟩; obtain ⟨e0, e1, e2⟩ := HC.out _ ((Below.refl _ _).drew.trans hb1); have HB3 := Lib.hid hb1; clear hb1))
                go_wp2
                go_roundw
                case rel => exact ⟨q, m + 1, q, m + 1, rfl, by go_num, rfl, by go_num, HA2.out, HB2.out.trans (((Below.refl _ _).drew.trans HB3.out).mono HB2.out.size)⟩
                case measure => have := HL2.out; simpa [intOf] using this
              · have HX : Hid (v = false) := Lib.hid (by rw [HV.out]; exact at_no HAT.out (by rw [len_data]; exact ha) hstk (by omega))
                clear hg k2 hst hrs hx hy hk hca hf hstk
                go_wp2
                go_region_held3 (fun w' => w'.cell? (ad.add (p * 3)) = some (.int .i64 x) ∧ w'.cell? ⟨(ad.add (p * 3)).block, (ad.add (p * 3)).off + 1, none⟩ = some (.int .u8 y) ∧ w'.cell? ⟨(ad.add (p * 3)).block, (ad.add (p * 3)).off + 2, none⟩ = some (.slice A' k c'))
                  (first | go_keep | exact ⟨e0, e1, e2⟩)
                  ((go_at_call 26; ((with_reducible refine (K26.out _ ?_).mono ?_)); (first | exact below_drewN (Below.refl _ _) _ | exact (Below.refl _ _).drew); rintro e w1 ⟨rfl, hb1⟩; obtain ⟨e0, e1, e2⟩ := HC.out _ ((Below.refl _ _).drew.trans hb1); have HB3 := Lib.hid hb1; clear hb1))
                go_wp2
                go_ret
                exact ⟨ret_bool HX.out.symm, HB2.out.trans (((Below.refl _ _).drew.trans HB3.out).mono HB2.out.size)⟩
        · have hstk : Stuck gs s.data.toList p a := .inl (List.getElem?_eq_none (by rw [← HN.out]; omega))
          by_cases hbb : 0 ≤ b
          · obtain ⟨q, rfl⟩ : ∃ q : Nat, b = q := ⟨b.toNat, by omega⟩
            have HA2 := Lib.hid (at_back HAT.out (by rw [len_data]; exact ha) hstk)
            have HL2 := Lib.hid (left_back HAT.out HLL.out HSL.out (by rw [len_data]; exact ha))
            have hp' : decide (p < n) = false := by simpa using hp
            clear hstk
            go_wp2
            go_quiet (fail)
            go_wp2
            go_roundw
            case rel => exact ⟨q, m + 1, q, m + 1, rfl, by go_num, rfl, by go_num, HA2.out, below_drewN HB2.out _⟩
            case measure => have := HL2.out; simpa [intOf] using this
          · have HX : Hid (v = false) := Lib.hid (by rw [HV.out]; exact at_no HAT.out (by rw [len_data]; exact ha) hstk (by omega))
            have hp' : decide (p < n) = false := by simpa using hp
            clear hstk
            go_wp2
            go_quiet (fail)
            go_wp2
            go_ret
            exact ⟨ret_bool HX.out.symm, below_drewN HB2.out _⟩
      · have HX : Hid (v = (gs.drop p).all star) := Lib.hid (by rw [HV.out, at_end HAT.out (by rw [len_data]; exact ha), mat_empty])
        rcases A with _ | ad
        · have hc0 := HAA.out rfl
          obtain rfl : n = 0 := by omega
          obtain rfl : p = 0 := by omega
          have K27 := onlymany_any none 0 0 (gs.drop 0) wr (by rw [show gs.drop 0 = [] by rw [List.drop_zero]; exact List.eq_nil_of_length_eq_zero HN.out.symm]; exact RdG.none_) (by omega)
          rw [← HX.out] at K27
          have K27 := Lib.hid K27
          subst hc0
          go_wp2_with (go_at_call 27; ((with_reducible refine (K27.out).mono ?_)); rintro e w2 ⟨rfl, hb3⟩)
          go_ret
          exact ⟨rfl, HB2.out.trans (hb3.mono HB2.out.size)⟩
        · by_cases hpc : p = c
          · have hnp : n - p = 0 := by omega
            have K27 := onlymany_any (some ad) 0 0 (gs.drop p) wr (by rw [show gs.drop p = [] by rw [List.drop_eq_nil_iff, ← HN.out]; omega]; exact RdG.none_) (by omega)
            rw [← HX.out] at K27
            have K27 := Lib.hid K27
            clear hnp
            obtain rfl : n = p := by omega
            subst hpc
            go_wp2_with (go_at_call 27; ((with_reducible refine (K27.out).mono ?_)); rintro e w2 ⟨rfl, hb3⟩)
            go_ret
            exact ⟨rfl, HB2.out.trans (hb3.mono HB2.out.size)⟩
          · have K27 := onlymany_any (some (ad.add (p * 3))) (n - p) (c - p) (gs.drop p) wr (((HR.out.drop p).keep HB2.out).up HB2.out.size) (by omega)
            rw [← HX.out] at K27
            have K27 := Lib.hid K27
            go_wp2_with (go_at_call 27; ((with_reducible refine (K27.out).mono ?_)); rintro e w2 ⟨rfl, hb3⟩)
            go_ret
            exact ⟨rfl, HB2.out.trans (hb3.mono HB2.out.size)⟩
  · rw [Bool.eq_false_iff.2 hm] at K11 hv
    rw [Bool.false_and] at hv
    have K11 := Lib.hid K11
    have HV := Lib.hid hv
    clear hv hm h hs hs1 hs2 hA
    go_enter Try.func17, Try.ntmps17
    go_wp2_with (go_at_call 11; ((with_reducible refine (K11.out).mono ?_)); rintro e w1 ⟨rfl, hb1⟩)
    go_ret
    exact ⟨ret_bool HV.out.symm, hb1⟩
end Go.Proofs.Ytafnlbcpnamdkaa
