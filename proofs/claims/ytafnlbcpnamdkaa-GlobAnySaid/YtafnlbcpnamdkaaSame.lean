/- The same pieces: the code's answer, and the standard library's slices.Equal of spans. -/
import Derived.Test.YtafnlbcpnamdkaaRPrint2
import Derived.Laws.StructEq
import Derived.Deep.QuietTactic
namespace Go.Proofs.Ytafnlbcpnamdkaa
open Go Go.RowKit

theorem under48 : Try.prog.underlying 48 = some (.struct (Try.prog.fieldsOf 48)) := by kernel_rfl
theorem held48 : Try.prog.stoodInHeld 48 = false := by kernel_rfl
theorem fields48 : (Try.prog.fieldsOf 48).toList.map (fun f => (f.name, f.type, f.offset)) = [("Lo", 5, 0), ("Hi", 5, 1)] := by kernel_rfl
theorem span_neq (x y x' y' : Int) (w : World) : (binOp .neq 48 (.agg #[.int .u8 x, .int .u8 y]) (.agg #[.int .u8 x', .int .u8 y'])).run Try.prog w = .ok (.bool (!(x == x' && y == y'))) w := by
  have hf := fields48
  rw [run_neq_struct, run_equalIn_struct w 9999 48 _ _ under48 held48]
  generalize (Try.prog.fieldsOf 48).toList = L at hf ⊢
  rcases L with _ | ⟨f, _ | ⟨g, _ | ⟨h, L⟩⟩⟩
  · simp at hf
  · simp at hf
  · simp only [List.map_cons, List.map_nil, List.cons.injEq, Prod.mk.injEq, and_true] at hf
    obtain ⟨⟨f1, f2, f3⟩, ⟨g1, g2, g3⟩⟩ := hf
    by_cases hx : x = x' <;> by_cases hyy : y = y' <;> simp [Op.eqFields, f1, f2, f3, g1, g2, g3, go_sem, run_equalIn_int _ 9998 5 _ _ _ _ Try.underlying5, hx, hyy]
  · simp at hf
theorem span_neq_no (x y : Int) (w : World) : (binOp .neq 48 (.agg #[.int .u8 x, .int .u8 y]) (.agg #[.int .u8 x, .int .u8 y])).run Try.prog w = .ok (.bool false) w := by rw [span_neq]; simp
theorem span_neq_yes (x y x' y' : Int) (h : ¬ (x = x' ∧ y = y')) (w : World) : (binOp .neq 48 (.agg #[.int .u8 x, .int .u8 y]) (.agg #[.int .u8 x', .int .u8 y'])).run Try.prog w = .ok (.bool true) w := by
  rw [span_neq]
  by_cases h1 : x = x' <;> by_cases h2 : y = y' <;> simp_all
theorem take_same {α : Type} {a b : List α} {k : Nat} {p : α} (h : a.take k = b.take k) (h1 : a[k]? = some p) (h2 : b[k]? = some p) : a.take (k + 1) = b.take (k + 1) := by
  obtain ⟨hk, e⟩ := List.getElem?_eq_some_iff.1 h1
  obtain ⟨hk', e'⟩ := List.getElem?_eq_some_iff.1 h2
  rw [List.take_succ_eq_append_getElem hk, List.take_succ_eq_append_getElem hk', h, e, e']
theorem not_same {α : Type} {a b : List α} {k : Nat} {p q : α} (h1 : a[k]? = some p) (h2 : b[k]? = some q) (h : p ≠ q) : a ≠ b := by
  rintro rfl; rw [h1] at h2; injection h2 with h2; exact h h2
theorem sp_eq {p q : Sp} (h1 : (p.1.toNat : Int) = q.1.toNat) (h2 : (p.2.toNat : Int) = q.2.toNat) : p = q := Prod.ext (u8_eq h1) (u8_eq h2)
/-- Decided, hidden from the walk. -/
noncomputable def sameB {α : Type} (a b : List α) : Bool := @decide (a = b) (Classical.propDecidable _)
theorem sameB_no {α : Type} {a b : List α} (h : a ≠ b) : sameB a b = false := @decide_eq_false _ (Classical.propDecidable _) h
theorem sameB_yes {α : Type} {a b : List α} (h : a = b) : sameB a b = true := @decide_eq_true _ (Classical.propDecidable _) h
theorem sameB_of {α : Type} {a b : List α} (h : sameB a b = true) : a = b := @of_decide_eq_true _ (Classical.propDecidable _) h
set_option maxHeartbeats 1000000 in
theorem equal_any (A A' : Option Addr) (c c' : Nat) (l l' : List Sp) (w : World) (h : RdS w.heap.size w A l) (h' : RdS w.heap.size w A' l') (hm : l.length ≤ 1000000) (hm' : l'.length ≤ 1000000) :
    Calls Try.prog 24 #[.slice A l.length c, .slice A' l'.length c'] w fun e w' => e = .returned (.bool (sameB l l')) ∧ ∃ m, w' = w.drewN m := by
  obtain ⟨n, hn⟩ : ∃ n, n = l.length := ⟨_, rfl⟩
  obtain ⟨n', hn'⟩ : ∃ n, n = l'.length := ⟨_, rfl⟩
  obtain ⟨v, hv⟩ : ∃ v, v = sameB l l' := ⟨_, rfl⟩
  rw [← hn, ← hn', ← hv]
  rw [← hn] at hm
  rw [← hn'] at hm'
  have HN := Lib.hid hn
  have HN' := Lib.hid hn'
  have HR := Lib.hid h
  have HR' := Lib.hid h'
  have HV := Lib.hid hv
  clear hn hn' h h' hv
  by_cases e : n = n'
  · subst e
    suffices hs : Calls Try.prog 24 #[.slice A n c, .slice A' n c'] w fun e w' => e = .returned (.bool v) ∧ Hid (∃ m, w' = w.drewN m) from hs.mono fun e w' ⟨a, b⟩ => ⟨a, b.out⟩
    go_enter Try.func24, Try.ntmps24
    go_wp2
    go_loopw [13] (fun i wr => ∃ (k m : Nat), k ≤ n ∧ i = .int .i64 k ∧ l.take k = l'.take k ∧ wr = w.drewN m) (fun i _ => n - (intOf i).toNat)
    case atStart => exact ⟨0, 0, by omega, rfl, rfl, rfl⟩
    case round =>
      obtain ⟨k, m, hk, rfl, ht, rfl⟩ := hrel
      have HT := Lib.hid ht
      clear ht
      by_cases a : k < n
      · obtain ⟨p, hp⟩ := get_of_lt HN.out a
        obtain ⟨q, hq⟩ := get_of_lt HN'.out a
        obtain ⟨ad, rfl, c0, c1⟩ := HR.out.at_ hp
        obtain ⟨ad', rfl, d0, d1⟩ := HR'.out.at_ hq
        by_cases hpq : p = q
        · subst hpq
          have HX : Hid (l.take (k + 1) = l'.take (k + 1)) := Lib.hid (take_same HT.out hp hq)
          have hz := fun W : World => span_neq_no p.1.toNat p.2.toNat W
          clear hp hq
          go_wp2
          go_quiet (fail)
          go_wp2
          go_roundw
          case rel => exact ⟨k + 1, _, by omega, by go_num, HX.out, rfl⟩
          case measure => simp [intOf]; omega
        · have HX : Hid (v = false) := Lib.hid (by rw [HV.out]; exact sameB_no (not_same hp hq hpq))
          have hz := fun W : World => span_neq_yes p.1.toNat p.2.toNat q.1.toNat q.2.toNat (fun ⟨a, b⟩ => hpq (sp_eq a b)) W
          clear hp hq hpq
          go_wp2
          go_quiet (fail)
          go_wp2
          go_ret
          exact ⟨ret_bool HX.out.symm, Lib.hid ⟨_, World.drewN_drewN _ _ _⟩⟩
      · have HX : Hid (v = true) := by
          apply Lib.hid; rw [HV.out]
          have := HT.out
          rw [List.take_of_length_le (by have := HN.out; omega), List.take_of_length_le (by have := HN'.out; omega)] at this
          exact sameB_yes this
        go_wp2
        go_ret
        exact ⟨ret_bool HX.out.symm, Lib.hid ⟨_, rfl⟩⟩
  · have b1 : ((n : Int) != (n' : Int)) = true := by simp; omega
    have b2 : (n != n') = true := by simp; omega
    have HX : Hid (v = false) := Lib.hid (by rw [HV.out]; exact sameB_no (fun h => e (by rw [HN.out, HN'.out, h])))
    clear e
    suffices hs : Calls Try.prog 24 #[.slice A n c, .slice A' n' c'] w fun e w' => e = .returned (.bool v) ∧ w = w' from hs.mono fun e w' ⟨a, b⟩ => ⟨a, 0, b.symm⟩
    go_enter Try.func24, Try.ntmps24
    go_wp2
    go_ret
    exact ⟨ret_bool HX.out.symm, rfl⟩
theorem g_eq {g g' : Gl} (h1 : g.kind = g'.kind) (h2 : (g.byte.toNat : Int) = g'.byte.toNat) (h3 : g.spans = g'.spans) : g = g' := by
  obtain ⟨a, b, c⟩ := g
  obtain ⟨a', b', c'⟩ := g'
  simp only at h1 h2 h3
  rw [h1, u8_eq h2, h3]
set_option maxHeartbeats 2000000 in
theorem same_any (A A' : Option Addr) (n n' c c' : Nat) (l l' : List Gl) (w : World) (h : RdG w.heap.size w A n l) (h' : RdG w.heap.size w A' n' l') (hm : n ≤ 1000000) (hm' : n' ≤ 1000000)
    (hs : ∀ g ∈ l, g.spans.length ≤ 1000000) (hs' : ∀ g ∈ l', g.spans.length ≤ 1000000) :
    Calls Try.prog 15 #[.slice A n c, .slice A' n' c'] w fun e w' => e = .returned (.bool (sameB l l')) ∧ Below w.heap.size w w' := by
  obtain ⟨v, hv⟩ : ∃ v, v = sameB l l' := ⟨_, rfl⟩
  rw [← hv]
  have HN := Lib.hid h.1
  have HN' := Lib.hid h'.1
  have HR := Lib.hid h
  have HR' := Lib.hid h'
  have HV := Lib.hid hv
  have HS := Lib.hid hs
  have HS' := Lib.hid hs'
  clear h h' hv hs hs'
  by_cases e : n = n'
  · subst e
    go_enter Try.func15, Try.ntmps15
    go_wp2
    go_loopw [14] (fun i wr => ∃ k : Nat, k ≤ n ∧ i = .int .i64 k ∧ l.take k = l'.take k ∧ Below w.heap.size w wr) (fun i _ => n - (intOf i).toNat)
    case atStart => exact ⟨0, by omega, rfl, rfl, Below.refl _ _⟩
    case round =>
      obtain ⟨k, hk, rfl, ht, hb⟩ := hrel
      have HT := Lib.hid ht
      have HB := Lib.hid hb
      clear ht hb
      by_cases a : k < n
      · obtain ⟨p, hp⟩ := get_of_lt HN.out a
        obtain ⟨q, hq⟩ := get_of_lt HN'.out a
        obtain ⟨ad, B, b, rfl, ⟨c0, c1, c2⟩, hrs⟩ := (HR.out.keep HB.out).at_ hp
        obtain ⟨ad', B', b', rfl, hd, hrs'⟩ := (HR'.out.keep HB.out).at_ hq
        obtain ⟨o, ho⟩ : ∃ o : Obj, o = .cells #[.int .i64 p.kind, .int .u8 p.byte.toNat, .slice B p.spans.length b] 40 := ⟨_, rfl⟩
        have hba : Below wr.heap.size wr (wr.alloc o) := (Below.refl _ _).alloc (Nat.le_refl _) o
        obtain ⟨d0, d1, d2⟩ := hd
        have hlt : (ad'.add (k * 3)).block < wr.heap.size := World.block_lt_of_cell? wr _ d0
        have e0 := (hba.cell (p := ad'.add (k * 3)) hlt).trans d0
        have e1 := (hba.cell (p := ⟨(ad'.add (k * 3)).block, (ad'.add (k * 3)).off + 1, none⟩) hlt).trans d1
        have e2 := (hba.cell (p := ⟨(ad'.add (k * 3)).block, (ad'.add (k * 3)).off + 2, none⟩) hlt).trans d2
        have K24 : ∀ j, Calls Try.prog 24 #[.slice B p.spans.length b, .slice B' q.spans.length b'] ((wr.alloc o).drewN j) fun e w' => e = .returned (.bool (sameB p.spans q.spans)) ∧ ∃ m, w' = ((wr.alloc o).drewN j).drewN m := fun j => by
          have hbj : Below wr.heap.size wr ((wr.alloc o).drewN j) := below_drewN hba j
          exact equal_any B B' b b' p.spans q.spans _ (((hrs.up HB.out.size).keep hbj).up hbj.size) (((hrs'.up HB.out.size).keep hbj).up hbj.size) (HS.out p (List.mem_of_getElem? hp)) (HS'.out q (List.mem_of_getElem? hq))
        rw [ho] at e0 e1 e2 K24
        have HP := Lib.hid hp
        have HQ := Lib.hid hq
        obtain ⟨x, hx⟩ : ∃ x, x = p.kind := ⟨_, rfl⟩
        obtain ⟨x', hx'⟩ : ∃ x, x = q.kind := ⟨_, rfl⟩
        obtain ⟨y, hy⟩ : ∃ y : Int, y = p.byte.toNat := ⟨_, rfl⟩
        obtain ⟨y', hy'⟩ : ∃ y : Int, y = q.byte.toNat := ⟨_, rfl⟩
        obtain ⟨m, hm1⟩ : ∃ m, m = p.spans.length := ⟨_, rfl⟩
        obtain ⟨m', hm2⟩ : ∃ m, m = q.spans.length := ⟨_, rfl⟩
        obtain ⟨z, hz⟩ : ∃ z, z = sameB p.spans q.spans := ⟨_, rfl⟩
        rw [← hx, ← hy, ← hm1] at e0 e1 e2 K24
        rw [← hx] at c0
        rw [← hy] at c1
        rw [← hm1] at c2
        rw [← hx'] at d0 e0
        rw [← hy'] at d1 e1
        rw [← hm2] at d2 e2 K24
        rw [← hz] at K24
        have K24 := Lib.hid K24
        by_cases f1 : x = x'
        · by_cases f2 : y = y'
          · have hzz : z = true → p = q := fun h => g_eq (by rw [← hx, ← hx', f1]) (by rw [← hy, ← hy', f2]) (sameB_of (by rw [← h, hz]))
            have hzn : z = false → p ≠ q := fun h hpq => by rw [hz, hpq, sameB_yes rfl] at h; cases h
            subst f1 f2
            have g1 : (x != x) = false := by simp
            have g2 : (y != y) = false := by simp
            cases z with
            | true =>
              have HX : Hid (l.take (k + 1) = l'.take (k + 1)) := by
                have := hzz rfl
                subst this
                exact Lib.hid (take_same HT.out hp hq)
              clear hp hq hx hx' hy hy' hm1 hm2 hz hzz hzn ho hba hrs hrs'
              go_wp2
              go_quiet ((go_at_call 24; exact Calls.quiet_of (K24.out _)))
              go_wp2
              go_roundw
              case rel => exact ⟨k + 1, by omega, by go_num, HX.out, below_drewN (HB.out.alloc HB.out.size _) _⟩
              case measure => simp [intOf]; omega
            | false =>
              have HX : Hid (v = false) := Lib.hid (by rw [HV.out]; exact sameB_no (not_same hp hq (hzn rfl)))
              clear hp hq hx hx' hy hy' hm1 hm2 hz hzz hzn ho hba hrs hrs'
              go_wp2
              go_quiet ((go_at_call 24; exact Calls.quiet_of (K24.out _)))
              go_wp2
              go_ret
              exact ⟨ret_bool HX.out.symm, below_drewN (HB.out.alloc HB.out.size _) _⟩
          · have HX : Hid (v = false) := Lib.hid (by rw [HV.out]; exact sameB_no (not_same hp hq (fun hpq => f2 (by rw [hy, hy', hpq]))))
            subst f1
            have g1 : (x != x) = false := by simp
            have g2 : (y != y') = true := by simpa using f2
            clear hp hq hx hx' hy hy' hm1 hm2 hz ho hba hrs hrs' f2 K24
            go_wp2
            go_quiet (fail)
            go_wp2
            go_ret
            exact ⟨ret_bool HX.out.symm, below_drewN (HB.out.alloc HB.out.size _) _⟩
        · have HX : Hid (v = false) := Lib.hid (by rw [HV.out]; exact sameB_no (not_same hp hq (fun hpq => f1 (by rw [hx, hx', hpq]))))
          have g1 : (x != x') = true := by simpa using f1
          clear hp hq hx hx' hy hy' hm1 hm2 hz ho hba hrs hrs' f1 K24
          go_wp2
          go_quiet (fail)
          go_wp2
          go_ret
          exact ⟨ret_bool HX.out.symm, below_drewN (HB.out.alloc HB.out.size _) _⟩
      · have HX : Hid (v = true) := by
          apply Lib.hid; rw [HV.out]
          have := HT.out
          rw [List.take_of_length_le (by have := HN.out; omega), List.take_of_length_le (by have := HN'.out; omega)] at this
          exact sameB_yes this
        go_wp2
        go_ret
        exact ⟨ret_bool HX.out.symm, HB.out⟩
  · have b1 : ((n : Int) != (n' : Int)) = true := by simp; omega
    have b2 : (n != n') = true := by simp; omega
    have HX : Hid (v = false) := Lib.hid (by rw [HV.out]; exact sameB_no (fun h => e (by rw [HN.out, HN'.out, h])))
    clear e
    go_enter Try.func15, Try.ntmps15
    go_wp2
    go_ret
    exact ⟨ret_bool HX.out.symm, Below.refl _ _⟩
end Go.Proofs.Ytafnlbcpnamdkaa
