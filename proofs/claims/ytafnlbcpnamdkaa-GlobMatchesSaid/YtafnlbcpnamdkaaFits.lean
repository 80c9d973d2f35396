/- Whether a byte stands for a piece: the code's and the document's own answer. -/
import Derived.Test.YtafnlbcpnamdkaaRSame
namespace Go.Proofs.Ytafnlbcpnamdkaa
open Go Go.RowKit

theorem inS_is (c : UInt8) (p : Sp) (x y z : Int) (hx : x = (p.1.toNat : Int)) (hy : y = (p.2.toNat : Int)) (hz : z = (c.toNat : Int)) : inS c p = (decide (x ≤ z) && decide (z ≤ y)) := by rw [hx, hy, hz]; rfl
theorem u8_eq_iff {a b : UInt8} : a = b ↔ (a.toNat : Int) = (b.toNat : Int) := ⟨fun h => by rw [h], u8_eq⟩
set_option maxHeartbeats 1000000 in
theorem stands_any (A : Option Addr) (c : Nat) (g : Gl) (b : UInt8) (w : World) (h : RdS w.heap.size w A g.spans) (hmax : g.spans.length ≤ 1000000) :
    Calls Try.prog 26 #[.int .u8 b.toNat, .agg #[.int .i64 g.kind, .int .u8 g.byte.toNat, .slice A g.spans.length c]] w fun e w' => e = .returned (.bool (fits g b)) ∧ Below w.heap.size w w' := by
  obtain ⟨kind, byte, spans⟩ := g
  dsimp only at h hmax ⊢
  obtain ⟨v, hv⟩ : ∃ v, v = fits ⟨kind, byte, spans⟩ b := ⟨_, rfl⟩
  rw [← hv]
  unfold fits at hv
  dsimp only at hv
  obtain ⟨n, hn⟩ : ∃ n, n = spans.length := ⟨_, rfl⟩
  rw [← hn] at hmax ⊢
  obtain ⟨z, hz⟩ : ∃ z : Int, z = b.toNat := ⟨_, rfl⟩
  obtain ⟨u, hu⟩ : ∃ u : Int, u = byte.toNat := ⟨_, rfl⟩
  rw [← hz, ← hu]
  by_cases k0 : kind = 0
  · subst k0
    rw [if_pos rfl] at hv
    by_cases e : z = u
    · subst e
      have HX : Hid (v = true) := Lib.hid (by rw [hv]; exact decide_eq_true (u8_eq (by rw [← hz, ← hu])))
      clear hv hn hz hu h
      go_enter Try.func26, Try.ntmps26
      go_wp2
      go_ret
      exact ⟨ret_bool (by rw [HX.out]), (Below.refl _ _).alloc (Nat.le_refl _) _⟩
    · have e1 : (z == u) = false := by simpa using e
      have HX : Hid (v = false) := Lib.hid (by rw [hv]; exact decide_eq_false (fun h => e (by rw [hz, hu, h])))
      clear hv hn hz hu h e
      go_enter Try.func26, Try.ntmps26
      go_wp2
      go_ret
      exact ⟨ret_bool (by rw [HX.out]), (Below.refl _ _).alloc (Nat.le_refl _) _⟩
  · rw [if_neg k0] at hv
    have k0' : (kind == 0) = false := by simpa using k0
    by_cases k3 : kind = 3
    · subst k3
      rw [if_pos rfl] at hv
      have HV := Lib.hid hv
      have HN := Lib.hid hn
      have HR := Lib.hid h
      have HZ := Lib.hid hz
      clear hv hn h hz hu k0 k0'
      go_enter Try.func26, Try.ntmps26
      go_wp2
      go_loopw [20] (fun i wr => ∃ k : Nat, k ≤ n ∧ i = .int .i64 k ∧ (spans.take k).any (inS b) = false ∧ Below w.heap.size w wr) (fun i _ => n - (intOf i).toNat)
      case atStart => exact ⟨0, by omega, rfl, rfl, (Below.refl _ _).alloc (Nat.le_refl _) _⟩
      case round =>
        obtain ⟨k, hk, rfl, hall, hb⟩ := hrel
        have HA := Lib.hid hall
        clear hall
        by_cases a : k < n
        · obtain ⟨p, hp⟩ := get_of_lt HN.out a
          obtain ⟨ad, rfl, c0, c1⟩ := (HR.out.keep hb).at_ hp
          obtain ⟨x, hx⟩ : ∃ x : Int, x = p.1.toNat := ⟨_, rfl⟩
          obtain ⟨y, hy⟩ : ∃ y : Int, y = p.2.toNat := ⟨_, rfl⟩
          have hin := inS_is b p x y z hx hy HZ.out
          rw [← hx] at c0
          rw [← hy] at c1
          have HP := Lib.hid hp
          by_cases l1 : x ≤ z
          · by_cases l2 : z ≤ y
            · have HX : Hid (v = true) := Lib.hid (by rw [HV.out]; exact any_yes (inS b) HP.out (by rw [hin]; simp [l1, l2]))
              clear hp hx hy hin
              go_wp2
              go_ret
              exact ⟨ret_bool HX.out.symm, hb.alloc hb.size _⟩
            · have HX : Hid ((spans.take (k + 1)).any (inS b) = false) := by apply Lib.hid; rw [any_take (inS b) HP.out, HA.out, hin]; simp [l2]
              clear hp hx hy hin
              go_wp2
              go_roundw
              case rel => exact ⟨k + 1, by omega, by go_num, HX.out, hb.alloc hb.size _⟩
              case measure => simp [intOf]; omega
          · have HX : Hid ((spans.take (k + 1)).any (inS b) = false) := by apply Lib.hid; rw [any_take (inS b) HP.out, HA.out, hin]; simp [l1]
            have l3 : decide (x ≤ z) = false := by simpa using l1
            clear hp hx hy hin
            go_wp2
            go_roundw
            case rel => exact ⟨k + 1, by omega, by go_num, HX.out, hb.alloc hb.size _⟩
            case measure => simp [intOf]; omega
        · have HX : Hid (v = false) := by
            apply Lib.hid; rw [HV.out]
            have := HA.out
            rw [List.take_of_length_le (by have := HN.out; omega)] at this
            exact this
          go_wp2
          go_ret
          exact ⟨ret_bool HX.out.symm, hb⟩
    · rw [if_neg k3] at hv
      have k3' : (kind == 3) = false := by simpa using k3
      have HX := Lib.hid hv
      clear hv hn hz hu h k0 k3
      go_enter Try.func26, Try.ntmps26
      go_wp2
      go_ret
      exact ⟨ret_bool (by rw [HX.out]), (Below.refl _ _).alloc (Nat.le_refl _) _⟩
set_option maxHeartbeats 1000000 in
theorem rfits_any (A : Option Addr) (c : Nat) (g : Gl) (b : UInt8) (w : World) (h : RdS w.heap.size w A g.spans) (hmax : g.spans.length ≤ 1000000) (hkind : g.kind = 0 ∨ g.kind = 1 ∨ g.kind = 3) :
    Calls Try.prog 28 #[.agg #[.int .i64 g.kind, .int .u8 g.byte.toNat, .slice A g.spans.length c], .int .u8 b.toNat] w fun e w' => e = .returned (.bool (fits g b)) ∧ Below w.heap.size w w' := by
  obtain ⟨kind, byte, spans⟩ := g
  dsimp only at h hmax hkind ⊢
  obtain ⟨v, hv⟩ : ∃ v, v = fits ⟨kind, byte, spans⟩ b := ⟨_, rfl⟩
  rw [← hv]
  unfold fits at hv
  dsimp only at hv
  obtain ⟨n, hn⟩ : ∃ n, n = spans.length := ⟨_, rfl⟩
  rw [← hn] at hmax ⊢
  obtain ⟨z, hz⟩ : ∃ z : Int, z = b.toNat := ⟨_, rfl⟩
  obtain ⟨u, hu⟩ : ∃ u : Int, u = byte.toNat := ⟨_, rfl⟩
  rw [← hz, ← hu]
  by_cases k0 : kind = 0
  · subst k0
    rw [if_pos rfl] at hv
    by_cases e : u = z
    · subst e
      have HX : Hid (v = true) := Lib.hid (by rw [hv]; exact decide_eq_true (u8_eq (by rw [← hz, ← hu])))
      clear hv hn hz hu h hkind
      go_enter Try.func28, Try.ntmps28
      go_wp2
      go_ret
      exact ⟨ret_bool (by rw [HX.out]), (Below.refl _ _).alloc (Nat.le_refl _) _⟩
    · have e1 : (u == z) = false := by simpa using e
      have HX : Hid (v = false) := Lib.hid (by rw [hv]; exact decide_eq_false (fun h => e (by rw [hz, hu, h])))
      clear hv hn hz hu h e hkind
      go_enter Try.func28, Try.ntmps28
      go_wp2
      go_ret
      exact ⟨ret_bool (by rw [HX.out]), (Below.refl _ _).alloc (Nat.le_refl _) _⟩
  · rw [if_neg k0] at hv
    have k0' : (kind == 0) = false := by simpa using k0
    obtain ⟨b1, hb1, hb2⟩ : ∃ b1 : Bool, (kind == 1) = b1 ∧ v = (b1 || spans.any (inS b)) := by
      rcases hkind with rfl | rfl | rfl
      · exact absurd rfl k0
      · exact ⟨true, by simp, by rw [hv]; simp⟩
      · exact ⟨false, by simp, by rw [hv]; simp⟩
    have HV := Lib.hid hb2
    have HN := Lib.hid hn
    have HR := Lib.hid h
    have HZ := Lib.hid hz
    clear hv hn h hz hu k0 hb2 hkind
    go_enter Try.func28, Try.ntmps28
    go_wp2
    go_loopw [5, 6] (fun o i wr => ∃ (k : Nat) (d : Bool), k ≤ n ∧ i = .int .i64 k ∧ o = .bool d ∧ (b1 || (spans.take k).any (inS b)) = d ∧ wr = w.alloc (.cells #[.int .i64 kind, .int .u8 u, .slice A n c] 40)) (fun _ i _ => n - (intOf i).toNat)
    case atStart => exact ⟨0, b1, by omega, rfl, rfl, by simp, rfl⟩
    case round =>
      obtain ⟨k, d, hk, rfl, rfl, hall, rfl⟩ := hrel
      have HA := Lib.hid hall
      clear hall
      by_cases a : k < n
      · obtain ⟨p, hp⟩ := get_of_lt HN.out a
        obtain ⟨ad, rfl, c0, c1⟩ := (HR.out.alloc (.cells #[.int .i64 kind, .int .u8 u, .slice A n c] 40)).at_ hp
        obtain ⟨x, hx⟩ : ∃ x : Int, x = p.1.toNat := ⟨_, rfl⟩
        obtain ⟨y, hy⟩ : ∃ y : Int, y = p.2.toNat := ⟨_, rfl⟩
        have hin := inS_is b p x y z hx hy HZ.out
        rw [← hx] at c0
        rw [← hy] at c1
        have HX : Hid ((b1 || (spans.take (k + 1)).any (inS b)) = (d || (decide (x ≤ z) && decide (z ≤ y)))) := by apply Lib.hid; rw [any_take (inS b) hp, ← Bool.or_assoc, HA.out, hin]
        clear hp hx hy hin
        cases d with
        | true =>
          go_wp2
          go_roundw
          case rel => exact ⟨k + 1, true, by omega, by go_num, rfl, by rw [HX.out]; simp, trivial⟩
          case measure => simp [intOf]; omega
        | false =>
          by_cases l1 : x ≤ z
          · by_cases l2 : z ≤ y
            · go_wp2
              go_roundw
              case rel => exact ⟨k + 1, true, by omega, by go_num, rfl, by rw [HX.out]; simp [l1, l2], trivial⟩
              case measure => simp [intOf]; omega
            · have l3 : decide (z ≤ y) = false := by simpa using l2
              go_wp2
              go_roundw
              case rel => exact ⟨k + 1, false, by omega, by go_num, rfl, by rw [HX.out]; simp [l2], trivial⟩
              case measure => simp [intOf]; omega
          · have l3 : decide (x ≤ z) = false := by simpa using l1
            go_wp2
            go_roundw
            case rel => exact ⟨k + 1, false, by omega, by go_num, rfl, by rw [HX.out]; simp [l1], trivial⟩
            case measure => simp [intOf]; omega
      · have HX : Hid (v = d) := by
          apply Lib.hid; rw [HV.out, ← HA.out, List.take_of_length_le (by have := HN.out; omega)]
        go_wp2
        go_ret
        exact ⟨ret_bool HX.out.symm, (Below.refl _ _).alloc (Nat.le_refl _) _⟩
end Go.Proofs.Ytafnlbcpnamdkaa
