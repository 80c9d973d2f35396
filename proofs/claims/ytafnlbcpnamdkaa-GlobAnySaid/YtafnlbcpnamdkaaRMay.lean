/- What may be: the document's own answer. -/
import Derived.Test.YtafnlbcpnamdkaaMay
import Derived.ChangeAlike
namespace Go.Proofs.Ytafnlbcpnamdkaa
open Go Go.RowKit

theorem okG_loop (kind : Int) (byte : UInt8) (spans : List Sp) (k0 : kind ≠ 0) (hb : byte = 0) (hk : (kind = 3 ∧ 0 < spans.length) ∨ ((kind = 1 ∨ kind = 2) ∧ spans.length = 0)) : okG ⟨kind, byte, spans⟩ = spans.all okS := by
  unfold okG
  dsimp only
  rw [if_neg k0]
  subst hb
  rcases hk with ⟨rfl, h⟩ | ⟨h, h0⟩
  · rw [if_neg (by omega), if_pos rfl]
    cases spans with
    | nil => simp at h
    | cons a r => simp
  · rw [if_pos h, List.eq_nil_of_length_eq_zero h0]; rfl
set_option maxHeartbeats 1000000 in
theorem rone_loop (A : Option Addr) (c n : Nat) (kind : Int) (spans : List Sp) (hn : n = spans.length) (w : World) (h : RdS w.heap.size w A spans) (hmax : n ≤ 9223372036854775807) (k0 : kind ≠ 0) (k1 : 1 ≤ kind) (k3 : kind ≤ 3)
    (b3 : (kind == 3) = decide (0 < n)) (v : Bool) (hv : v = spans.all okS) :
    Calls Try.prog 20 #[.agg #[.int .i64 kind, .int .u8 0, .slice A n c]] w fun e w' => e = .returned (.bool v) ∧ Below w.heap.size w w' := by
  have HV := Lib.hid hv
  have HN := Lib.hid hn
  have HR := Lib.hid h
  have k0' : (kind == 0) = false := by simpa using k0
  have kk : (kind == 3 ∧ 0 < n) ∨ ((kind == 3) = false ∧ ¬ 0 < n) := by
    by_cases hz : 0 < n
    · left; exact ⟨by rw [b3]; simp [hz], hz⟩
    · right; exact ⟨by rw [b3]; simp [hz], hz⟩
  clear hv hn h k0 b3
  rcases kk with ⟨kk, hz⟩ | ⟨kk, hz⟩
  all_goals
    go_enter Try.func20, Try.ntmps20
    go_wp2
    go_loopw [3] (fun i wr => ∃ (k m : Nat), k ≤ n ∧ i = .int .i64 k ∧ (spans.take k).all okS = true ∧ wr = (w.alloc (.cells #[.int .i64 kind, .int .u8 0, .slice A n c] 40)).drewN m) (fun i _ => n - (intOf i).toNat)
    case atStart => exact ⟨0, 0, by omega, rfl, rfl, rfl⟩
    case round =>
      obtain ⟨k, m, hk, rfl, hall, rfl⟩ := hrel
      have HA := Lib.hid hall
      clear hall
      by_cases a : k < n
      · (try (exfalso; omega))
        all_goals
          obtain ⟨p, hp⟩ := get_of_lt HN.out a
          obtain ⟨ad, rfl, c0, c1⟩ := (HR.out.alloc (.cells #[.int .i64 kind, .int .u8 0, .slice A n c] 40)).at_ hp
          obtain ⟨x, hx⟩ : ∃ x : Int, x = p.1.toNat := ⟨_, rfl⟩
          obtain ⟨y, hy⟩ : ∃ y : Int, y = p.2.toNat := ⟨_, rfl⟩
          have hok := okS_is p x y hx hy
          rw [← hx] at c0
          rw [← hy] at c1
          have HP := Lib.hid hp
          by_cases l1 : x ≤ y
          · have HX : Hid ((spans.take (k + 1)).all okS = true) := by apply Lib.hid; rw [all_take okS HP.out, HA.out, hok]; simp [l1]
            clear hp hx hy hok
            go_wp2
            go_quiet (fail)
            go_wp2
            go_roundw
            case rel => exact ⟨k + 1, _, by omega, by go_num, HX.out, rfl⟩
            case measure => simp [intOf]; omega
          · have HX : Hid (v = false) := by apply Lib.hid; rw [HV.out, all_not okS HP.out (by rw [hok]; simp; omega)]
            have l2 : y < x := by omega
            clear hp hx hy hok
            go_wp2
            go_quiet (fail)
            go_wp2
            go_ret
            exact ⟨ret_bool HX.out.symm, below_drewN (below_drewN ((Below.refl _ _).alloc (Nat.le_refl _) _) _) _⟩
      · have HX : Hid (v = true) := by
          apply Lib.hid; rw [HV.out]
          have := HA.out
          rw [List.take_of_length_le (by have := HN.out; omega)] at this
          exact this
        go_wp2
        go_ret
        exact ⟨ret_bool HX.out.symm, below_drewN ((Below.refl _ _).alloc (Nat.le_refl _) _) _⟩
set_option maxHeartbeats 1000000 in
theorem rone_any (A : Option Addr) (c : Nat) (g : Gl) (w : World) (h : RdS w.heap.size w A g.spans) (hmax : g.spans.length ≤ 9223372036854775807) :
    Calls Try.prog 20 #[.agg #[.int .i64 g.kind, .int .u8 g.byte.toNat, .slice A g.spans.length c]] w fun e w' => e = .returned (.bool (okG g)) ∧ Below w.heap.size w w' := by
  obtain ⟨kind, byte, spans⟩ := g
  dsimp only at h hmax ⊢
  obtain ⟨v, hv⟩ : ∃ v, v = okG ⟨kind, byte, spans⟩ := ⟨_, rfl⟩
  rw [← hv]
  have hbyte : byte = 0 ↔ (byte.toNat : Int) = 0 := ⟨fun e => by rw [e]; rfl, fun e => UInt8.toNat_inj.1 (by simpa using e)⟩
  by_cases k0 : kind = 0
  · subst k0
    have hv2 : v = spans.isEmpty := by rw [hv]; rfl
    obtain ⟨n, hn⟩ : ∃ n, n = spans.length := ⟨_, rfl⟩
    rw [isEmpty_len spans n hn] at hv2
    rw [← hn] at hmax ⊢
    obtain ⟨y, hy⟩ : ∃ y : Int, y = (byte.toNat : Int) := ⟨_, rfl⟩
    rw [← hy]
    have HV := Lib.hid hv2
    clear hv hv2 hn h hy hbyte
    by_cases n0 : n = 0
    · subst n0
      go_enter Try.func20, Try.ntmps20
      go_wp2
      go_ret
      exact ⟨ret_bool (by rw [HV.out]; rfl), (Below.refl _ _).alloc (Nat.le_refl _) _⟩
    · have b0 : ((n : Int) == 0) = false := by simp; omega
      have b1 : (n == 0) = false := by simp; omega
      go_enter Try.func20, Try.ntmps20
      go_wp2
      go_ret
      exact ⟨ret_bool (by rw [HV.out]; simp [n0]), (Below.refl _ _).alloc (Nat.le_refl _) _⟩
  · have k0' : (kind == 0) = false := by simpa using k0
    by_cases y0 : byte = 0
    · by_cases k1 : 1 ≤ kind
      · by_cases k3 : kind ≤ 3
        · by_cases b3 : (kind == 3) = decide (0 < spans.length)
          · have hk : (kind = 3 ∧ 0 < spans.length) ∨ ((kind = 1 ∨ kind = 2) ∧ spans.length = 0) := by
              by_cases hz : 0 < spans.length
              · left
                rw [decide_eq_true hz] at b3
                exact ⟨by simpa using b3, hz⟩
              · right
                rw [decide_eq_false hz] at b3
                have : ¬ kind = 3 := by simpa using b3
                exact ⟨by omega, by omega⟩
            rw [okG_loop kind byte spans k0 y0 hk] at hv
            subst y0
            exact rone_loop A c spans.length kind spans rfl w h hmax k0 k1 k3 b3 v hv
          · have hv2 : v = false := by
              rw [hv]
              unfold okG
              dsimp only
              rw [if_neg k0]
              by_cases hz : 0 < spans.length
              · rw [decide_eq_true hz] at b3
                have h3 : ¬ kind = 3 := by simpa using b3
                rw [if_pos (by omega)]
                cases spans with
                | nil => simp at hz
                | cons a r => simp
              · rw [decide_eq_false hz] at b3
                have h3 : kind = 3 := by simpa using b3
                rw [if_neg (by omega), if_pos h3]
                cases spans with
                | nil => simp
                | cons a r => simp at hz
            obtain ⟨n, hn⟩ : ∃ n, n = spans.length := ⟨_, rfl⟩
            rw [← hn] at hmax b3 ⊢
            subst y0
            have HV := Lib.hid hv2
            by_cases hz : 0 < n
            · have hk3 : (kind == 3) = false := by
                rw [decide_eq_true hz] at b3
                simpa using b3
              clear hv hv2 hn h b3 hbyte k0
              go_enter Try.func20, Try.ntmps20
              go_wp2
              go_ret
              exact ⟨ret_bool HV.out.symm, (Below.refl _ _).alloc (Nat.le_refl _) _⟩
            · have hk3 : kind = 3 := by
                rw [decide_eq_false hz] at b3
                simpa using b3
              subst hk3
              obtain rfl : n = 0 := by omega
              clear hv hv2 hn h b3 hbyte k0 k0' hz k1 k3
              go_enter Try.func20, Try.ntmps20
              go_wp2
              go_ret
              exact ⟨ret_bool HV.out.symm, (Below.refl _ _).alloc (Nat.le_refl _) _⟩
        · have hv2 : v = false := by
            rw [hv]; unfold okG; dsimp only
            rw [if_neg k0, if_neg (by omega), if_neg (by omega)]
          obtain ⟨n, hn⟩ : ∃ n, n = spans.length := ⟨_, rfl⟩
          rw [← hn] at hmax ⊢
          subst y0
          have HV := Lib.hid hv2
          clear hv hv2 hn h hbyte k0
          go_enter Try.func20, Try.ntmps20
          go_wp2
          go_ret
          exact ⟨ret_bool HV.out.symm, (Below.refl _ _).alloc (Nat.le_refl _) _⟩
      · have hv2 : v = false := by
          rw [hv]; unfold okG; dsimp only
          rw [if_neg k0, if_neg (by omega), if_neg (by omega)]
        obtain ⟨n, hn⟩ : ∃ n, n = spans.length := ⟨_, rfl⟩
        rw [← hn] at hmax ⊢
        subst y0
        have HV := Lib.hid hv2
        have k1' : kind < 1 := by omega
        clear hv hv2 hn h hbyte k0
        go_enter Try.func20, Try.ntmps20
        go_wp2
        go_ret
        exact ⟨ret_bool HV.out.symm, (Below.refl _ _).alloc (Nat.le_refl _) _⟩
    · have hv2 : v = false := by
        rw [hv]; unfold okG; dsimp only
        rw [if_neg k0, decide_eq_false y0]; simp
      obtain ⟨n, hn⟩ : ∃ n, n = spans.length := ⟨_, rfl⟩
      rw [← hn] at hmax ⊢
      have yb : ((byte.toNat : Int) != 0) = true := by
        have : ¬ (byte.toNat : Int) = 0 := fun e => y0 (hbyte.2 e)
        simp only [bne]; simpa using this
      obtain ⟨y, hy⟩ : ∃ y : Int, y = (byte.toNat : Int) := ⟨_, rfl⟩
      rw [← hy] at yb ⊢
      have HV := Lib.hid hv2
      clear hv hv2 hn h hbyte k0 y0 hy
      go_enter Try.func20, Try.ntmps20
      go_wp2
      go_ret
      exact ⟨ret_bool HV.out.symm, (Below.refl _ _).alloc (Nat.le_refl _) _⟩
set_option maxHeartbeats 1000000 in
theorem rmay_any (A : Option Addr) (n c : Nat) (gs : List Gl) (w : World) (h : RdG w.heap.size w A n gs) (hmax : n ≤ 9223372036854775807) (hs : ∀ g ∈ gs, g.spans.length ≤ 9223372036854775807) :
    Calls Try.prog 10 #[.slice A n c] w fun e w' => e = .returned (.bool (may gs)) ∧ Below w.heap.size w w' := by
  obtain ⟨v, hv⟩ : ∃ v, v = may gs := ⟨_, rfl⟩
  rw [← hv]
  have HV : Hid (v = gs.all okG) := Lib.hid hv
  have HR := Lib.hid h
  have HN := Lib.hid h.1
  have HS := Lib.hid hs
  clear hv h hs
  go_enter Try.func10, Try.ntmps10
  go_wp2
  go_loopw [3] (fun i wr => ∃ k : Nat, k ≤ n ∧ i = .int .i64 k ∧ (gs.take k).all okG = true ∧ Below w.heap.size w wr) (fun i _ => n - (intOf i).toNat)
  case atStart => exact ⟨0, by omega, rfl, rfl, Below.refl _ _⟩
  case round =>
    obtain ⟨k, hk, rfl, hall, hb⟩ := hrel
    have HA := Lib.hid hall
    clear hall
    by_cases a : k < n
    · obtain ⟨g, hg⟩ := get_of_lt HN.out a
      obtain ⟨ad, A', c', rfl, ⟨c0, c1, c2⟩, hrs⟩ := (HR.out.keep hb).at_ hg
      have K := rone_any A' c' g wr (hrs.up hb.size) (HS.out g (List.mem_of_getElem? hg))
      have HG := Lib.hid hg
      clear hg
      by_cases l1 : okG g = true
      · rw [l1] at K
        have HX : Hid ((gs.take (k + 1)).all okG = true) := by apply Lib.hid; rw [all_take okG HG.out, HA.out, l1]; rfl
        have K := Lib.hid K
        clear l1
        go_wp2_with (go_at_call 20; ((with_reducible refine (K.out).mono ?_)); rintro e w1 ⟨rfl, hb1⟩; have HB := Lib.hid hb1; clear hb1)
        go_roundw
        case rel => exact ⟨k + 1, by omega, by go_num, HX.out, hb.trans (HB.out.mono hb.size)⟩
        case measure => simp [intOf]; omega
      · have l1 := Bool.eq_false_iff.2 l1
        rw [l1] at K
        have HX : Hid (v = false) := by apply Lib.hid; rw [HV.out]; exact all_not okG HG.out l1
        have K := Lib.hid K
        clear l1
        go_wp2_with (go_at_call 20; ((with_reducible refine (K.out).mono ?_)); rintro e w1 ⟨rfl, hb1⟩; have HB := Lib.hid hb1; clear hb1)
        go_ret
        exact ⟨ret_bool HX.out.symm, hb.trans (HB.out.mono hb.size)⟩
    · have HX : Hid (v = true) := by
        apply Lib.hid; rw [HV.out]
        have := HA.out
        rw [List.take_of_length_le (by have := HN.out; omega)] at this
        exact this
      go_wp2
      go_ret
      exact ⟨ret_bool HX.out.symm, hb⟩
end Go.Proofs.Ytafnlbcpnamdkaa
