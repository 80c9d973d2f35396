/- What may be: the code's and the document's own answer. -/
import Derived.Test.YtafnlbcpnamdkaaRd
namespace Go.Proofs.Ytafnlbcpnamdkaa
open Go Go.RowKit

theorem okS_is (p : Sp) (x y : Int) (hx : x = (p.1.toNat : Int)) (hy : y = (p.2.toNat : Int)) : okS p = decide (x ≤ y) := by rw [hx, hy]; rfl
set_option maxHeartbeats 1000000 in
theorem mayspans_any (A : Option Addr) (c : Nat) (l : List Sp) (w : World) (h : RdS w.heap.size w A l) (hmax : l.length ≤ 9223372036854775807) :
    Calls Try.prog 30 #[.slice A l.length c] w fun e w' => e = .returned (.bool (l.all okS && !l.isEmpty)) ∧ Below w.heap.size w w' := by
  obtain ⟨v, hv⟩ : ∃ v, v = l.all okS := ⟨_, rfl⟩
  obtain ⟨n, hn⟩ : ∃ n, n = l.length := ⟨_, rfl⟩
  have he : (!l.isEmpty) = decide (0 < n) := by rw [hn]; cases l <;> simp
  rw [← hv, ← hn, he]
  rw [← hn] at hmax
  have HV := Lib.hid hv
  have HR := Lib.hid h
  have HN := Lib.hid hn
  clear hv h hn he
  obtain ⟨u, hu⟩ : ∃ u, u = (v && decide (0 < n)) := ⟨_, rfl⟩
  rw [← hu]
  have HU := Lib.hid hu
  clear hu
  go_enter Try.func30, Try.ntmps30
  go_wp2
  go_loopw [7] (fun i wr => ∃ k : Nat, k ≤ n ∧ i = .int .i64 k ∧ (l.take k).all okS = true ∧ Below w.heap.size w wr) (fun i _ => n - (intOf i).toNat)
  case atStart => exact ⟨0, by omega, rfl, rfl, Below.refl _ _⟩
  case round =>
    obtain ⟨k, hk, rfl, hall, hb⟩ := hrel
    have HA := Lib.hid hall
    clear hall
    by_cases a : k < n
    · obtain ⟨p, hp⟩ := get_of_lt HN.out a
      obtain ⟨ad, rfl, c0, c1⟩ := (HR.out.keep hb).at_ hp
      obtain ⟨x, hx⟩ : ∃ x : Int, x = p.1.toNat := ⟨_, rfl⟩
      obtain ⟨y, hy⟩ : ∃ y : Int, y = p.2.toNat := ⟨_, rfl⟩
      have hok := okS_is p x y hx hy
      rw [← hx] at c0
      rw [← hy] at c1
      have HP := Lib.hid hp
      by_cases l1 : x ≤ y
      · have HX : Hid ((l.take (k + 1)).all okS = true) := by apply Lib.hid; rw [all_take okS HP.out, HA.out, hok]; simp [l1]
        clear hp hx hy hok
        go_wp2
        go_roundw
        case rel => exact ⟨k + 1, by omega, by go_num, HX.out, hb.alloc hb.size _⟩
        case measure => simp [intOf]; omega
      · have HX : Hid (u = false) := by apply Lib.hid; rw [HU.out, HV.out, all_not okS HP.out (by rw [hok]; simp; omega)]; rfl
        have l2 : y < x := by omega
        clear hp hx hy hok
        go_wp2
        go_ret
        exact ⟨ret_bool HX.out.symm, hb.alloc hb.size _⟩
    · have HX : Hid (v = true) := by
        apply Lib.hid; rw [HV.out]
        have := HA.out
        rw [List.take_of_length_le (by have := HN.out; omega)] at this
        exact this
      by_cases h0 : 0 < n
      · have HX2 : Hid (u = true) := by apply Lib.hid; rw [HU.out, HX.out]; simp [h0]
        go_wp2
        go_ret
        exact ⟨ret_bool HX2.out.symm, hb⟩
      · have HX2 : Hid (u = false) := by apply Lib.hid; rw [HU.out, HX.out]; simp [h0]
        go_wp2
        go_ret
        exact ⟨ret_bool HX2.out.symm, hb⟩
theorem isEmpty_len {α : Type} (l : List α) (n : Nat) (hn : n = l.length) : l.isEmpty = decide (n = 0) := by subst hn; cases l <;> simp
theorem alloc_below {w w' : World} {o : Obj} (hb : Below (w.alloc o).heap.size (w.alloc o) w') : Below w.heap.size w w' :=
  ((Below.refl _ _).alloc (Nat.le_refl _) o).trans (hb.mono (by simp))
theorem RdS.alloc {w : World} {A : Option Addr} {l : List Sp} (h : RdS w.heap.size w A l) (o : Obj) : RdS (w.alloc o).heap.size (w.alloc o) A l :=
  (h.keep ((Below.refl _ _).alloc (Nat.le_refl _) o)).up (by simp)
set_option maxHeartbeats 1000000 in
theorem maypiece_any (A : Option Addr) (c : Nat) (g : Gl) (w : World) (h : RdS w.heap.size w A g.spans) (hmax : g.spans.length ≤ 9223372036854775807) :
    Calls Try.prog 21 #[.agg #[.int .i64 g.kind, .int .u8 g.byte.toNat, .slice A g.spans.length c]] w fun e w' => e = .returned (.bool (okG g)) ∧ Below w.heap.size w w' := by
  obtain ⟨kind, byte, spans⟩ := g
  dsimp only at h hmax ⊢
  obtain ⟨v, hv⟩ : ∃ v, v = okG ⟨kind, byte, spans⟩ := ⟨_, rfl⟩
  rw [← hv]
  unfold okG at hv
  dsimp only at hv
  have K := fun w' (hb : Below w.heap.size w w') => mayspans_any A c spans w' ((h.keep hb).up hb.size) hmax
  generalize spans.all okS = b1 at K hv
  obtain ⟨n, hn⟩ : ∃ n, n = spans.length := ⟨_, rfl⟩
  have he := isEmpty_len spans n hn
  rw [he] at hv K
  rw [← hn] at K hmax ⊢
  have hbyte : byte = 0 ↔ (byte.toNat : Int) = 0 := ⟨fun e => by rw [e]; rfl, fun e => UInt8.toNat_inj.1 (by simpa using e)⟩
  obtain ⟨y, hy⟩ : ∃ y : Int, y = (byte.toNat : Int) := ⟨_, rfl⟩
  rw [← hy] at hbyte ⊢
  clear hn he hy h
  by_cases k0 : kind = 0
  · subst k0
    rw [if_pos rfl] at hv
    by_cases n0 : n = 0
    · subst n0
      have HV := Lib.hid hv
      clear hv K hbyte
      go_enter Try.func21, Try.ntmps21
      go_wp2
      go_ret
      exact ⟨ret_bool (by rw [HV.out]; rfl), (Below.refl _ _).alloc (Nat.le_refl _) _⟩
    · have HV := Lib.hid hv
      have b0 : ((n : Int) == 0) = false := by simp; omega
      have b1 : (n == 0) = false := by simp; omega
      clear hv K hbyte
      go_enter Try.func21, Try.ntmps21
      go_wp2
      go_ret
      exact ⟨ret_bool (by rw [HV.out]; simp [n0]), (Below.refl _ _).alloc (Nat.le_refl _) _⟩
  · rw [if_neg k0] at hv
    have k0' : (kind == 0) = false := by simpa using k0
    by_cases y0 : y = 0
    · subst y0
      rw [show decide (byte = 0) = true by simp [hbyte], Bool.true_and, Bool.true_and] at hv
      by_cases k12 : kind = 1 ∨ kind = 2
      · rw [if_pos k12] at hv
        rcases k12 with rfl | rfl
        all_goals
          by_cases n0 : n = 0
          · subst n0
            have HV := Lib.hid hv
            clear hv K hbyte k0 k0'
            go_enter Try.func21, Try.ntmps21
            go_wp2
            go_ret
            exact ⟨ret_bool (by rw [HV.out]; rfl), (Below.refl _ _).alloc (Nat.le_refl _) _⟩
          · have HV := Lib.hid hv
            have b0 : ((n : Int) == 0) = false := by simp; omega
            have b1 : (n == 0) = false := by simp; omega
            clear hv K hbyte k0 k0'
            go_enter Try.func21, Try.ntmps21
            go_wp2
            go_ret
            exact ⟨ret_bool (by rw [HV.out]; simp [n0]), (Below.refl _ _).alloc (Nat.le_refl _) _⟩
      · rw [if_neg k12] at hv
        by_cases k3 : kind = 3
        · subst k3
          rw [if_pos rfl] at hv
          obtain ⟨u, hu⟩ : ∃ u, u = (b1 && !decide (n = 0)) := ⟨_, rfl⟩
          rw [← hu] at hv K
          have HV := Lib.hid hv
          have K := Lib.hid K
          clear hv hbyte k0 k0' k12 hu
          go_enter Try.func21, Try.ntmps21
          go_wp2_with (go_at_call 30; ((with_reducible refine (K.out _ ((Below.refl _ _).alloc (Nat.le_refl _) _)).mono ?_)); rintro e w1 ⟨rfl, hb⟩)
          go_ret
          exact ⟨ret_bool HV.out.symm, alloc_below hb⟩
        · rw [if_neg k3] at hv
          have HV := Lib.hid hv
          have k1' : (kind == 1) = false := by simp; omega
          have k2' : (kind == 2) = false := by simp; omega
          have k3' : (kind == 3) = false := by simpa using k3
          clear hv K hbyte k0 k12 k3
          go_enter Try.func21, Try.ntmps21
          go_wp2
          go_ret
          exact ⟨ret_bool HV.out.symm, (Below.refl _ _).alloc (Nat.le_refl _) _⟩
    · have y0' : (y == 0) = false := by simpa using y0
      have hv2 : v = false := by
        rw [hv, show decide (byte = 0) = false by simp [hbyte, y0]]
        simp
      have HV := Lib.hid hv2
      clear hv hbyte hv2 K
      by_cases k1 : kind = 1
      · subst k1
        clear k0 k0' y0
        go_enter Try.func21, Try.ntmps21
        go_wp2
        go_ret
        exact ⟨ret_bool HV.out.symm, (Below.refl _ _).alloc (Nat.le_refl _) _⟩
      · by_cases k2 : kind = 2
        · subst k2
          clear k0 k0' k1 y0
          go_enter Try.func21, Try.ntmps21
          go_wp2
          go_ret
          exact ⟨ret_bool HV.out.symm, (Below.refl _ _).alloc (Nat.le_refl _) _⟩
        · by_cases k3 : kind = 3
          · subst k3
            clear k0 k0' k1 k2 y0
            go_enter Try.func21, Try.ntmps21
            go_wp2
            go_ret
            exact ⟨ret_bool HV.out.symm, (Below.refl _ _).alloc (Nat.le_refl _) _⟩
          · have k1' : (kind == 1) = false := by simpa using k1
            have k2' : (kind == 2) = false := by simpa using k2
            have k3' : (kind == 3) = false := by simpa using k3
            clear k0 k1 k2 k3 y0
            go_enter Try.func21, Try.ntmps21
            go_wp2
            go_ret
            exact ⟨ret_bool HV.out.symm, (Below.refl _ _).alloc (Nat.le_refl _) _⟩
set_option maxHeartbeats 1000000 in
theorem may_any (A : Option Addr) (n c : Nat) (gs : List Gl) (w : World) (h : RdG w.heap.size w A n gs) (hmax : n ≤ 9223372036854775807) (hs : ∀ g ∈ gs, g.spans.length ≤ 9223372036854775807) :
    Calls Try.prog 11 #[.slice A n c] w fun e w' => e = .returned (.bool (may gs)) ∧ Below w.heap.size w w' := by
  obtain ⟨v, hv⟩ : ∃ v, v = may gs := ⟨_, rfl⟩
  rw [← hv]
  have HV : Hid (v = gs.all okG) := Lib.hid hv
  have HR := Lib.hid h
  have HN := Lib.hid h.1
  have HS := Lib.hid hs
  clear hv h hs
  go_enter Try.func11, Try.ntmps11
  go_wp2
  go_loopw [7] (fun i wr => ∃ k : Nat, k ≤ n ∧ i = .int .i64 k ∧ (gs.take k).all okG = true ∧ Below w.heap.size w wr) (fun i _ => n - (intOf i).toNat)
  case atStart => exact ⟨0, by omega, rfl, rfl, Below.refl _ _⟩
  case round =>
    obtain ⟨k, hk, rfl, hall, hb⟩ := hrel
    have HA := Lib.hid hall
    clear hall
    by_cases a : k < n
    · obtain ⟨g, hg⟩ := get_of_lt HN.out a
      obtain ⟨ad, A', c', rfl, ⟨c0, c1, c2⟩, hrs⟩ := (HR.out.keep hb).at_ hg
      have K := fun w' (hb' : Below wr.heap.size wr w') => maypiece_any A' c' g w' ((hrs.up hb.size).keep hb' |>.up hb'.size) (HS.out g (List.mem_of_getElem? hg))
      have HG := Lib.hid hg
      clear hg
      by_cases l1 : okG g = true
      · rw [l1] at K
        have HX : Hid ((gs.take (k + 1)).all okG = true) := by apply Lib.hid; rw [all_take okG HG.out, HA.out, l1]; rfl
        have K := Lib.hid K
        clear l1
        go_wp2_with (go_at_call 21; ((with_reducible refine (K.out _ ((Below.refl _ _).alloc (Nat.le_refl _) _)).mono ?_)); rintro e w1 ⟨rfl, hb1⟩; have HB := Lib.hid hb1; clear hb1)
        go_roundw
        case rel => exact ⟨k + 1, by omega, by go_num, HX.out, hb.trans ((alloc_below HB.out).mono hb.size)⟩
        case measure => simp [intOf]; omega
      · have l1 := Bool.eq_false_iff.2 l1
        rw [l1] at K
        have HX : Hid (v = false) := by apply Lib.hid; rw [HV.out]; exact all_not okG HG.out l1
        have K := Lib.hid K
        clear l1
        go_wp2_with (go_at_call 21; ((with_reducible refine (K.out _ ((Below.refl _ _).alloc (Nat.le_refl _) _)).mono ?_)); rintro e w1 ⟨rfl, hb1⟩; have HB := Lib.hid hb1; clear hb1)
        go_ret
        exact ⟨ret_bool HX.out.symm, hb.trans ((alloc_below HB.out).mono hb.size)⟩
    · have HX : Hid (v = true) := by
        apply Lib.hid; rw [HV.out]
        have := HA.out
        rw [List.take_of_length_le (by have := HN.out; omega)] at this
        exact this
      go_wp2
      go_ret
      exact ⟨ret_bool HX.out.symm, hb⟩
end Go.Proofs.Ytafnlbcpnamdkaa
