/- The same pieces: the document's own answer. -/
import Derived.Test.YtafnlbcpnamdkaaSame
namespace Go.Proofs.Ytafnlbcpnamdkaa
open Go Go.RowKit

set_option maxRecDepth 100000 in
set_option maxHeartbeats 2000000 in
theorem rsame_any (A A' : Option Addr) (n n' c c' : Nat) (l l' : List Gl) (w : World) (h : RdG w.heap.size w A n l) (h' : RdG w.heap.size w A' n' l') (hm : n ≤ 1000000) (hm' : n' ≤ 1000000)
    (hs : ∀ g ∈ l, g.spans.length ≤ 1000000) (hs' : ∀ g ∈ l', g.spans.length ≤ 1000000) :
    Calls Try.prog 14 #[.slice A n c, .slice A' n' c'] w fun e w' => e = .returned (.bool (sameB l l')) ∧ Below w.heap.size w w' := by
  obtain ⟨v, hv⟩ : ∃ v, v = sameB l l' := ⟨_, rfl⟩
  rw [← hv]
  have HN := Lib.hid h.1
  have HN' := Lib.hid h'.1
  have HR := Lib.hid h
  have HR' := Lib.hid h'
  have HV := Lib.hid hv
  have HS := Lib.hid hs
  have HS' := Lib.hid hs'
  clear h h' hv hs hs'
  by_cases e : n = n'
  · subst e
    go_enter Try.func14, Try.ntmps14
    go_wp2
    go_loopw [5] (fun i wr => ∃ k m : Nat, k ≤ n ∧ i = .int .i64 k ∧ l.take k = l'.take k ∧ wr = w.drewN m) (fun i _ => n - (intOf i).toNat)
    case atStart => exact ⟨0, 0, by omega, rfl, rfl, rfl⟩
    case round =>
      obtain ⟨k, m0, hk, rfl, ht, rfl⟩ := hrel
      have HT := Lib.hid ht
      clear ht
      by_cases a : k < n
      · obtain ⟨p, hp⟩ := get_of_lt HN.out a
        obtain ⟨q, hq⟩ := get_of_lt HN'.out a
        obtain ⟨ad, B, b, rfl, ⟨c0, c1, c2⟩, hrs⟩ := HR.out.at_ hp
        obtain ⟨ad', B', b', rfl, ⟨d0, d1, d2⟩, hrs'⟩ := HR'.out.at_ hq
        have HRS := Lib.hid hrs
        have HRS' := Lib.hid hrs'
        have hm1 := HS.out p (List.mem_of_getElem? hp)
        have hm2 := HS'.out q (List.mem_of_getElem? hq)
        obtain ⟨x, hx⟩ : ∃ x, x = p.kind := ⟨_, rfl⟩
        obtain ⟨x', hx'⟩ : ∃ x, x = q.kind := ⟨_, rfl⟩
        obtain ⟨y, hy⟩ : ∃ y : Int, y = p.byte.toNat := ⟨_, rfl⟩
        obtain ⟨y', hy'⟩ : ∃ y : Int, y = q.byte.toNat := ⟨_, rfl⟩
        obtain ⟨m, hmp⟩ : ∃ m, m = p.spans.length := ⟨_, rfl⟩
        obtain ⟨m', hmq⟩ : ∃ m, m = q.spans.length := ⟨_, rfl⟩
        rw [← hx] at c0
        rw [← hy] at c1
        rw [← hmp] at c2 hm1
        rw [← hx'] at d0
        rw [← hy'] at d1
        rw [← hmq] at d2 hm2
        by_cases f1 : x = x'
        · by_cases f2 : y = y'
          · by_cases f3 : m = m'
            · have HEQ : Hid (p.spans = q.spans → p = q) := Lib.hid fun h => g_eq (by rw [← hx, ← hx', f1]) (by rw [← hy, ← hy', f2]) h
              have HP := Lib.hid hp
              have HQ := Lib.hid hq
              have HMP := Lib.hid hmp
              have HMQ := Lib.hid hmq
              subst f1 f2 f3
              have g1 : (x != x) = false := by simp
              have g2 : (y != y) = false := by simp
              have g3 : ((m : Int) != (m : Int)) = false := by simp
              clear hp hq hx hx' hy hy' hmp hmq hrs hrs'
              go_wp2
              go_quiet (fail)
              go_wp2
              go_loopw [6] (fun i wq => ∃ j m2 : Nat, j ≤ m ∧ i = .int .i64 j ∧ p.spans.take j = q.spans.take j ∧ wq = w.drewN m2) (fun i _ => m - (intOf i).toNat)
              case atStart => exact ⟨0, _, by omega, rfl, rfl, by first | rfl | exact World.drewN_drewN _ _ _⟩
              case round =>
                obtain ⟨j, m2, hj, rfl, ht2, rfl⟩ := hrel
                have HT2 := Lib.hid ht2
                clear ht2
                by_cases a2 : j < m
                · obtain ⟨s, hs⟩ := get_of_lt HMP.out a2
                  obtain ⟨s', hs'⟩ := get_of_lt HMQ.out a2
                  obtain ⟨ae, rfl, u0, u1⟩ := HRS.out.at_ hs
                  obtain ⟨ae', rfl, t0, t1⟩ := HRS'.out.at_ hs'
                  by_cases hss : s = s'
                  · subst hss
                    have HX : Hid (p.spans.take (j + 1) = q.spans.take (j + 1)) := Lib.hid (take_same HT2.out hs hs')
                    have hz := fun W : World => span_neq_no s.1.toNat s.2.toNat W
                    clear hs hs'
                    go_wp2
                    go_quiet (fail)
                    go_wp2
                    go_roundw
                    case rel => exact ⟨j + 1, _, by omega, by go_num, HX.out, by first | rfl | exact World.drewN_drewN _ _ _⟩
                    case measure => simp [intOf]; omega
                  · have HX : Hid (v = false) := Lib.hid (by rw [HV.out]; exact sameB_no (not_same HP.out HQ.out (fun h => not_same hs hs' hss (by rw [h]))))
                    have hz := fun W : World => span_neq_yes s.1.toNat s.2.toNat s'.1.toNat s'.2.toNat (fun ⟨a, b⟩ => hss (sp_eq a b)) W
                    clear hs hs' hss
                    go_wp2
                    go_quiet (fail)
                    go_wp2
                    go_ret
                    exact ⟨ret_bool HX.out.symm, below_drewN (below_drewN (Below.refl _ _) _) _⟩
                · have HX : Hid (l.take (k + 1) = l'.take (k + 1)) := by
                    have h2 := HT2.out
                    rw [List.take_of_length_le (by have := HMP.out; omega), List.take_of_length_le (by have := HMQ.out; omega)] at h2
                    have h3 := HEQ.out h2
                    subst h3
                    exact Lib.hid (take_same HT.out HP.out HQ.out)
                  go_wp2
                  go_roundw
                  case rel => exact ⟨k + 1, _, by omega, by go_num, HX.out, by first | rfl | exact World.drewN_drewN _ _ _⟩
                  case measure => simp [intOf]; omega
            · have HX : Hid (v = false) := Lib.hid (by rw [HV.out]; exact sameB_no (not_same hp hq (fun hpq => f3 (by rw [hmp, hmq, hpq]))))
              subst f1 f2
              have g1 : (x != x) = false := by simp
              have g2 : (y != y) = false := by simp
              have g3 : ((m : Int) != (m' : Int)) = true := by simp; omega
              have g4 : (m != m') = true := by simp; omega
              clear hp hq hx hx' hy hy' hmp hmq hrs hrs' f3
              go_wp2
              go_quiet (fail)
              go_wp2
              go_ret
              exact ⟨ret_bool HX.out.symm, below_drewN (below_drewN (Below.refl _ _) _) _⟩
          · have HX : Hid (v = false) := Lib.hid (by rw [HV.out]; exact sameB_no (not_same hp hq (fun hpq => f2 (by rw [hy, hy', hpq]))))
            subst f1
            have g1 : (x != x) = false := by simp
            have g2 : (y != y') = true := by simpa using f2
            clear hp hq hx hx' hy hy' hmp hmq hrs hrs' f2
            go_wp2
            go_quiet (fail)
            go_wp2
            go_ret
            exact ⟨ret_bool HX.out.symm, below_drewN (below_drewN (Below.refl _ _) _) _⟩
        · have HX : Hid (v = false) := Lib.hid (by rw [HV.out]; exact sameB_no (not_same hp hq (fun hpq => f1 (by rw [hx, hx', hpq]))))
          have g1 : (x != x') = true := by simpa using f1
          clear hp hq hx hx' hy hy' hmp hmq hrs hrs' f1
          go_wp2
          go_quiet (fail)
          go_wp2
          go_ret
          exact ⟨ret_bool HX.out.symm, below_drewN (below_drewN (Below.refl _ _) _) _⟩
      · have HX : Hid (v = true) := by
          apply Lib.hid; rw [HV.out]
          have := HT.out
          rw [List.take_of_length_le (by have := HN.out; omega), List.take_of_length_le (by have := HN'.out; omega)] at this
          exact sameB_yes this
        go_wp2
        go_ret
        exact ⟨ret_bool HX.out.symm, below_drewN (Below.refl _ _) _⟩
  · have b1 : ((n : Int) != (n' : Int)) = true := by simp; omega
    have b2 : (n != n') = true := by simp; omega
    have HX : Hid (v = false) := Lib.hid (by rw [HV.out]; exact sameB_no (fun h => e (by rw [HN.out, HN'.out, h])))
    clear e
    go_enter Try.func14, Try.ntmps14
    go_wp2
    go_ret
    exact ⟨ret_bool HX.out.symm, Below.refl _ _⟩
end Go.Proofs.Ytafnlbcpnamdkaa
