/- The contract of the document's own Match, for up to 80 pieces of up to 40 spans and up to 60 bytes. -/
import Derived.Test.YtafnlbcpnamdkaaTab
import Derived.Deep.RegionHeld3
import Derived.Deep.DrawnRows
import Derived.Test.YtafnlbcpnamdkaaQTail
namespace Go.Proofs.Ytafnlbcpnamdkaa
open Go Go.RowKit
attribute [local go_sem ↓] Go.wp_at_zero Go.wp_at_succ

def LoopO (gs : List Gl) (s : Bs) (N n : Nat) (w0 : World) (v5 v6 : Value) (w : World) : Prop :=
  ∃ (i g : Nat), i ≤ n ∧ v6 = .int .i64 i ∧ v5 = rv g N ∧ Row0 w0.heap.size w0 w g N (rowL gs s i N)
def LoopI (gs : List Gl) (s : Bs) (N i g x : Nat) (w0 : World) (v8 : Value) (w : World) : Prop :=
  ∃ k : Nat, k ≤ N + 1 ∧ v8 = .int .i64 k ∧ Tab w0.heap.size w0 w g x N (rowL gs s i N) (nextL gs s i k N)
set_option maxRecDepth 100000 in
set_option maxHeartbeats 4000000 in
theorem rmatch_any (A : Option Addr) (n c : Nat) (gs : List Gl) (s : ByteArray) (w : World) (h : RdG w.heap.size w A n gs) (hs : smallG gs = true) (hs60 : s.size ≤ 60) :
    Calls Try.prog 18 #[.slice A n c, .string s] w fun e w' => e = .returned (.bool (may gs && mat gs s.data.toList)) ∧ Below w.heap.size w w' := by
  obtain ⟨hs1, hs2⟩ := small_n hs
  have hn80 : n ≤ 80 := by have := h.1; omega
  have K10 := rmay_any A n c gs w h (by omega) (fun g hg => by have := hs2 g hg; omega)
  obtain ⟨v, hv⟩ : ∃ v, v = (may gs && mat gs s.data.toList) := ⟨_, rfl⟩
  rw [← hv]
  by_cases hm : may gs = true
  · rw [hm] at K10 hv
    rw [Bool.true_and] at hv
    have K10 := Lib.hid K10
    have HV := Lib.hid hv
    have HR := Lib.hid h
    have HN := Lib.hid h.1
    have HS := Lib.hid hs2
    have HM := Lib.hid hm
    obtain ⟨N, hN⟩ : ∃ N, N = s.size := ⟨_, rfl⟩
    have HSZ : Hid (N = s.data.toList.length) := Lib.hid (by rw [len_data]; exact hN)
    have HNS := Lib.hid hN
    obtain ⟨i0, hi0, hz0, hz1, hz2⟩ := info_parts info4
    have hb1 : i0.bytes * (s.size + 1) ≤ 281474976710656 := by rw [hz2]; omega
    clear hv hm h hs hs1 hs2 hN
    go_enter Try.func18, Try.ntmps18
    go_wp2_with (first | (go_at_call 10; ((with_reducible refine (K10.out).mono ?_)); rintro e w1 ⟨rfl, hb1⟩; have HB := Lib.hid hb1; clear hb1) | (at_make; refine wpList_make_full _ rfl (.tmp 14) (.tmp 14) 53 rfl w.heap.size 4 i0 (.bool false) 1 Try.underlying53 hi0 hz0 hz1 .i64 .i64 ((s.size : Int) + 1) ((s.size : Int) + 1) (s.size + 1) rfl rfl (by omega) (by omega) hb1 (by unfold maxLen; omega) HB.out.size ?_; intro w2 hown hgrow; have HR0 := Lib.hid (Row0.made HB.out HB.out.size hown hgrow); have hc0 := made_cell hown; have hf0 := hown.frozenAt 0; clear hown hgrow))
    go_loopw [5, 6] (fun v5 v6 wr => LoopO gs s.data.toList s.size n w v5 v6 wr) (fun _ v6 _ => n - (intOf v6).toNat)
    case atStart =>
      refine ⟨0, w1.heap.size, by omega, rfl, rfl, ?_⟩
      have := HR0.out.set 0 (.bool true)
      rw [rowL_zero gs s.data.toList s.size (by rw [len_data])] at this
      exact this
    case round =>
      obtain ⟨i, g, hi, rfl, rfl, hrow⟩ := hrel
      have HRW := Lib.hid hrow
      clear hrow
      by_cases a : i < n
      · obtain ⟨gl, hg⟩ := get_of_lt HN.out a
        obtain ⟨ad0, A0, c0', hA0, _, _⟩ := HR.out.at_ hg
        subst hA0
        have hmax := HS.out gl (List.mem_of_getElem? hg)
        have hokg : okG gl = true := List.all_eq_true.1 HM.out gl (List.mem_of_getElem? hg)
        have HC : Hid (∀ w', Below w.heap.size w w' → ∃ A' c', At3 w' (ad0.add (i * 3)) gl.kind gl.byte.toNat A' gl.spans.length c' ∧ RdS w'.heap.size w' A' gl.spans) := Lib.hid fun w' hb' => by
          obtain ⟨ad', B', b', e, h3, hr⟩ := (HR.out.keep hb').at_ hg
          injection e with e; subst e
          exact ⟨B', b', h3, hr.up hb'.size⟩
        have HG := Lib.hid hg
        clear hg
        go_wp2_with (at_make; refine wpList_make_full _ rfl (.tmp 26) (.tmp 26) 53 rfl w.heap.size 4 i0 (.bool false) 1 Try.underlying53 hi0 hz0 hz1 .i64 .i64 ((s.size : Int) + 1) ((s.size : Int) + 1) (s.size + 1) rfl rfl (by omega) (by omega) hb1 (by unfold maxLen; omega) HRW.out.size ?_; intro w3 hown hgrow; have HTB := Lib.hid (HRW.out.tab hown hgrow); clear hown hgrow)
        rw [← nextL_zero gs s.data.toList i s.size] at HTB
        obtain ⟨x, hx⟩ : ∃ x, x = wr.heap.size := ⟨_, rfl⟩
        rw [← hx] at HTB ⊢
        clear hx
        go_loopw [8] (fun v8 wq => LoopI gs s.data.toList s.size i g x w v8 wq) (fun v8 _ => s.size + 1 - (intOf v8).toNat)
        case atStart => exact ⟨0, by omega, rfl, HTB.out⟩
        case round =>
          obtain ⟨k, hk, rfl, htab⟩ := hrel
          have HT := Lib.hid htab
          clear htab
          by_cases ak : k ≤ s.size
          · obtain ⟨A', c', ⟨c0, c1, c2⟩, hrs⟩ := HC.out wr HT.out.below
            have hrow := HT.out.rowAt ak
            have hnx := HT.out.nextAt ak
            have hfz := HT.out.frozen k
            by_cases k2 : gl.kind = 2
            · have hst : star gl = true := by simp [star, k2]
              have hdp := dp_star (k := k) HG.out (by rw [len_data]; exact ak) hst
              rw [k2] at c0
              clear hrs hst k2
              cases hb : dp gs s.data.toList i k with
              | true =>
                rw [hb] at hrow
                have HX : Hid (dp gs s.data.toList (i + 1) k = true) := Lib.hid (by rw [hdp, hb]; rfl)
                clear hdp hb
                go_wp2
                go_roundw
                case rel => exact ⟨k + 1, by omega, by go_num, HT.out.step HX.out⟩
                case measure => simp [intOf]; omega
              | false =>
                rw [hb] at hrow
                by_cases k0 : k = 0
                · subst k0
                  have HX : Hid (dp gs s.data.toList (i + 1) 0 = false) := Lib.hid (by rw [hdp, hb]; rfl)
                  clear hdp hb
                  go_wp2
                  go_roundw
                  case rel => exact ⟨1, by omega, by go_num, HT.out.step HX.out⟩
                  case measure => simp [intOf]
                · obtain ⟨j, rfl⟩ : ∃ j, k = j + 1 := ⟨k - 1, by omega⟩
                  have hnj := HT.out.nextAt (j := j) (by omega)
                  rw [show decide (j < j + 1) = true by simp, Bool.true_and] at hnj
                  rw [show decide (0 < j + 1) = true by simp, Bool.true_and, Nat.add_sub_cancel] at hdp
                  obtain ⟨d, hd⟩ : ∃ d, d = dp gs s.data.toList (i + 1) j := ⟨_, rfl⟩
                  rw [← hd] at hnj hdp
                  have HX : Hid (dp gs s.data.toList (i + 1) (j + 1) = d) := Lib.hid (by rw [hdp, hb]; rfl)
                  clear hdp hb hd
                  go_wp2
                  go_roundw
                  case rel => exact ⟨j + 1 + 1, by omega, by go_num, HT.out.step HX.out⟩
                  case measure => simp [intOf]; omega
            · have hst : star gl = false := by simp [star, k2]
              by_cases k0 : k = 0
              · subst k0
                have HX : Hid (dp gs s.data.toList (i + 1) 0 = false) := Lib.hid (dp_one_zero HG.out hst)
                have k2' : (gl.kind == 2) = false := by simpa using k2
                clear hrs hst k2
                go_wp2
                go_roundw
                case rel => exact ⟨1, by omega, by go_num, by have := HT.out; rw [nextL_skip HX.out] at this; exact this⟩
                case measure => simp [intOf]
              · obtain ⟨j, rfl⟩ : ∃ j, k = j + 1 := ⟨k - 1, by omega⟩
                have hj : j < s.size := by omega
                have hdp := dp_one HG.out hst (get_at s j hj)
                have hrj := HT.out.rowAt (k := j) (by omega)
                have k2' : (gl.kind == 2) = false := by simpa using k2
                cases hb : dp gs s.data.toList i j with
                | false =>
                  rw [hb] at hrj
                  have HX : Hid (dp gs s.data.toList (i + 1) (j + 1) = false) := Lib.hid (by rw [hdp, hb]; rfl)
                  have hw1 : IntKind.i64.wrap (j : Int) = j := IntWalk.i64_in _ (by omega)
                  have hj0 : (0 : Int) ≤ (j : Int) := Int.natCast_nonneg _
                  have hj1 : (j : Int) < (s.size : Int) := by omega
                  have hj2 : (j : Int) < (s.size : Int) + 1 := by omega
                  have hj3 : (0 : Int) ≤ (j : Int) + 1 := by omega
                  have hj4 : (j : Int) + 1 < (s.size : Int) + 1 := by omega
                  have hj5 : (j : Int) < ((s.size + 1 : Nat) : Int) := by omega
                  have hj6 : (j : Int) + 1 < ((s.size + 1 : Nat) : Int) := by omega
                  have HNE : Hid (g ≠ x) := Lib.hid (fun h => HT.out.ne h.symm)
                  clear hdp hb hrs hst k2
                  go_wp2
                  refine wp_region_quiet_tail 19 (by kernel_rfl) (by kernel_rfl) ?_
                  simp only [List.take_succ_cons, List.take_zero, List.drop_succ_cons, List.drop_zero]
                  repeat (go_big_quiet_step (fail))
                  refine wpQuiet_nil ?_
                  go_wp2
                  go_roundw
                  case rel => exact ⟨j + 1 + 1, by omega, by go_num, (HT.out.beyond (Below.refl _ _).drew).step HX.out⟩
                  case measure => simp [intOf]; omega
                | true =>
                  rw [hb] at hrj
                  have hki : gl.kind = 0 ∨ gl.kind = 1 ∨ gl.kind = 3 := by
                    rcases okG_kinds hokg with h | h | h | h
                    · exact .inl h
                    · exact .inr (.inl h)
                    · exact absurd h k2
                    · exact .inr (.inr h.1)
                  have hw1 : IntKind.i64.wrap (j : Int) = j := IntWalk.i64_in _ (by omega)
                  have hj0 : (0 : Int) ≤ (j : Int) := Int.natCast_nonneg _
                  have hj1 : (j : Int) < (s.size : Int) := by omega
                  have hj2 : (j : Int) < (s.size : Int) + 1 := by omega
                  have hj3 : (0 : Int) ≤ (j : Int) + 1 := by omega
                  have hj4 : (j : Int) + 1 < (s.size : Int) + 1 := by omega
                  have hj5 : (j : Int) < ((s.size + 1 : Nat) : Int) := by omega
                  have hj6 : (j : Int) + 1 < ((s.size + 1 : Nat) : Int) := by omega
                  obtain ⟨f, hf⟩ : ∃ f, f = fits gl s[j] := ⟨_, rfl⟩
                  have HX : Hid (dp gs s.data.toList (i + 1) (j + 1) = f) := Lib.hid (by rw [hdp, hb, hf]; rfl)
                  have hlt : (ad0.add (i * 3)).block < w.heap.size := by
                    obtain ⟨ad2, e3, hlt, _⟩ := HR.out.2 (by omega)
                    injection e3 with e3; subst e3
                    rw [block_of_add]; exact hlt
                  have K28 : Hid (∀ w', Below wr.heap.size wr w' → Calls Try.prog 28 #[.agg #[.int .i64 gl.kind, .int .u8 gl.byte.toNat, .slice A' gl.spans.length c'], .int .u8 s[j].toNat] w' fun e w'' => e = .returned (.bool f) ∧ Below w'.heap.size w' w'') :=
                    Lib.hid fun w' hb' => by rw [hf]; exact rfits_any A' c' gl s[j] w' ((hrs.keep hb').up hb'.size) (by omega) hki
                  obtain ⟨d, hd⟩ : ∃ d, d = (decide (j + 1 < j + 1) && dp gs s.data.toList (i + 1) (j + 1)) := ⟨_, rfl⟩
                  rw [← hd] at hnx
                  have HC2 : Hid (∀ w', Below wr.heap.size wr w' → (w'.cell? (ad0.add (i * 3)) = some (.int .i64 gl.kind) ∧ w'.cell? ⟨(ad0.add (i * 3)).block, (ad0.add (i * 3)).off + 1, none⟩ = some (.int .u8 gl.byte.toNat) ∧ w'.cell? ⟨(ad0.add (i * 3)).block, (ad0.add (i * 3)).off + 2, none⟩ = some (.slice A' gl.spans.length c')) ∧ w'.cell? ⟨g, j, none⟩ = some (.bool true) ∧ w'.cell? ⟨x, j + 1, none⟩ = some (.bool d) ∧ w'.frozen? ⟨x, j + 1, none⟩ = false) :=
                    Lib.hid fun w' hb' => by
                      have hg1 : g < wr.heap.size := (HT.out.row.lt g rfl).2
                      have hx1 : x < wr.heap.size := (HT.out.next.lt x rfl).2
                      have hlt2 : (ad0.add (i * 3)).block < wr.heap.size := Nat.lt_of_lt_of_le hlt HT.out.size
                      exact ⟨⟨(hb'.cell hlt2).trans c0, (hb'.cell (p := ⟨(ad0.add (i * 3)).block, (ad0.add (i * 3)).off + 1, none⟩) hlt2).trans c1, (hb'.cell (p := ⟨(ad0.add (i * 3)).block, (ad0.add (i * 3)).off + 2, none⟩) hlt2).trans c2⟩,
                        (hb'.cell (p := ⟨g, j, none⟩) hg1).trans hrj, (hb'.cell (p := ⟨x, j + 1, none⟩) hx1).trans hnx, (hb'.frozen (p := ⟨x, j + 1, none⟩) hx1).trans hfz⟩
                  have HNE : Hid ((ad0.add (i * 3)).block ≠ x ∧ g ≠ x) := Lib.hid (by
                    have hx1 := (HT.out.next.lt x rfl).1
                    exact ⟨by omega, fun h => HT.out.ne h.symm⟩)
                  clear hdp hb hrs hst k2 hki hf hlt hd
                  go_wp2
                  go_region_held3 (fun w' => w'.cell? (ad0.add (i * 3)) = some (.int .i64 gl.kind) ∧ w'.cell? ⟨(ad0.add (i * 3)).block, (ad0.add (i * 3)).off + 1, none⟩ = some (.int .u8 gl.byte.toNat) ∧ w'.cell? ⟨(ad0.add (i * 3)).block, (ad0.add (i * 3)).off + 2, none⟩ = some (.slice A' gl.spans.length c') ∧ w'.cell? ⟨g, j, none⟩ = some (.bool true))
                    (first | go_keep | exact ⟨e0, e1, e2, e3⟩ | exact ⟨(cell_set_ne HNE.out.1).trans e0, (cell_set_ne (a := ⟨(ad0.add (i * 3)).block, (ad0.add (i * 3)).off + 1, none⟩) HNE.out.1).trans e1, (cell_set_ne (a := ⟨(ad0.add (i * 3)).block, (ad0.add (i * 3)).off + 2, none⟩) HNE.out.1).trans e2, (cell_set_ne (a := ⟨g, j, none⟩) HNE.out.2).trans e3⟩)
                    ((go_at_call 28; ((with_reducible refine (K28.out _ ?_).mono ?_)); (first | exact below_drewN (Below.refl _ _) _ | exact (Below.refl _ _).drew); rintro e w4 ⟨rfl, hb4⟩; obtain ⟨⟨e0, e1, e2⟩, e3, e4, e5⟩ := HC2.out _ ((Below.refl _ _).drew.trans hb4); have HB4 := Lib.hid hb4; clear hb4))
                  go_wp2
                  go_roundw
                  case rel => exact ⟨j + 1 + 1, by omega, by go_num, (HT.out.beyond ((Below.refl _ _).drew.trans HB4.out)).step HX.out⟩
                  case measure => simp [intOf]; omega
          · have HE : Hid (k = s.size + 1) := Lib.hid (by omega)
            have HF : Hid (Row0 w.heap.size w wr x s.size (rowL gs s.data.toList (i + 1) s.size)) := Lib.hid (by
              have := HT.out.out
              rw [HE.out, nextL_full] at this
              exact this)
            go_wp2
            go_roundw
            case rel => exact ⟨i + 1, x, by omega, by go_num, rfl, HF.out⟩
            case measure => simp [intOf]; omega
      · have HX : Hid (v = dp gs s.data.toList i s.size) := Lib.hid (by
          have hin : i = gs.length := (by have := HN.out; omega)
          rw [HV.out, hin, show s.size = s.data.toList.length from (len_data s).symm, dp_all])
        have hc1 := HRW.out.row.cellAt s.size (by omega)
        rw [rowL_get (Nat.le_refl _), ← HX.out] at hc1
        go_wp2
        go_ret
        exact ⟨rfl, HRW.out.below⟩
  · rw [Bool.eq_false_iff.2 hm] at K10 hv
    rw [Bool.false_and] at hv
    have K10 := Lib.hid K10
    have HV := Lib.hid hv
    clear hv hm h hs hs1 hs2
    go_enter Try.func18, Try.ntmps18
    go_wp2_with (go_at_call 10; ((with_reducible refine (K10.out).mono ?_)); rintro e w1 ⟨rfl, hb1⟩)
    go_ret
    exact ⟨ret_bool HV.out.symm, hb1⟩
end Go.Proofs.Ytafnlbcpnamdkaa
