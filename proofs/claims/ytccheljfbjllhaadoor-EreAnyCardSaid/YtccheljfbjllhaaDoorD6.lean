/- The document's own reader: a row. -/
import Derived.Test.YtccheljfbjllhaaDoorD5a
namespace Go.Proofs.YtccheljfbjllhaaDoor
open Go Go.RowKit

/-- What stands behind an end: the expression that was made, or the place of a fault. -/
def DoneD (b : Nat) (s : ByteArray) (R : Ro Re) (x : Re) (w' : World) : Prop := match R with
  | .bad q er => ∃ (g' z : Nat), er = (z : Int) ∧ (z = 1 ∨ z = 8) ∧ Rdr b w' s q g' z
  | .ok y q g' => y = x ∧ g' ≤ q ∧ Rdr b w' s q g' 0
theorem done_is {b : Nat} {w w' : World} {s : ByteArray} {R : Ro Re} {x : Re} {A : Option Addr} {c : Nat} {v : Value} (hg : w.grownBy w' (some b)) (hv : v = valR x A c) (hk : Kids (Fr w.heap.size w'.heap.size) w' A x) (hd : DoneD b s R x w') : PostD b w s R (.returned v) w' := by
  subst hv
  exact ⟨hg, x, A, c, rfl, hk, hd⟩
def gasD (b n : Nat) (w : World) : Nat := match w.cell? ⟨b, 3, none⟩, w.cell? ⟨b, 1, none⟩ with
  | some (.int _ z), some (.int _ i) => if z = 0 then n + 1 - i.toNat else 0
  | _, _ => 0
theorem gasD_is {b n : Nat} {w : World} {s : ByteArray} {k g o : Nat} (h : Rdr b w s k g o) : gasD b n w = if o = 0 then n + 1 - k else 0 := by
  unfold gasD
  rw [h.c3, h.c1]
  simp
/-- How a row's loop stands. -/
def LoopD (pc : Rd) (b : Nat) (w : World) (s : ByteArray) (R : Ro (List Re)) (v : Value) (wr : World) : Prop :=
  ∃ (k g : Nat) (l : List Rv) (o : Nat), k ≤ s.size ∧ l.length ≤ k + 1 ∧ Rdr b wr s k g o ∧ Trees b w wr v l ∧ ((o = 0 ∧ g ≤ k ∧ l.length ≤ k ∧ rowL pc s.data.toList k g (l.map (·.1)) = R) ∨ ((o = 1 ∨ o = 8) ∧ R = .bad k (o : Int) ∧ l ≠ []))
theorem row_done_ok {b : Nat} {s : ByteArray} {Q : Ro Re} {x : Re} {k g : Nat} (h : Q = .ok x k g) (hg : g ≤ k) : ∀ W, Rdr b W s k g 0 → DoneD b s Q x W := fun W hr => by subst h; exact ⟨rfl, hg, hr⟩
theorem row_done_bad {b : Nat} {s : ByteArray} {Q : Ro Re} {k g o : Nat} (x : Re) (h : Q = .bad k (o : Int)) (ho : o = 1 ∨ o = 8) : ∀ W, Rdr b W s k g o → DoneD b s Q x W := fun W hr => by subst h; exact ⟨g, o, rfl, ho, hr⟩
set_option maxRecDepth 100000 in
set_option maxHeartbeats 8000000 in
theorem drow_any (s : ByteArray) (d : Nat) (pc : Rd) (hs : s.size ≤ 200) (hpc : RdD 51 s d pc) (hsane : Sane s pc) (hgood : Good s.data.toList pc) : RdED 38 s d (rowOf pc s.data.toList) := by
  intro b w k0 g0 h hk0 hgk0
  obtain ⟨Q, hQ⟩ : ∃ Q, Q = rowOf pc s.data.toList k0 g0 := ⟨_, rfl⟩
  rw [← hQ]
  unfold rowOf at hQ
  obtain ⟨R, hR⟩ : ∃ R, R = rowL pc s.data.toList k0 g0 [] := ⟨_, rfl⟩
  rw [← hR] at hQ
  have HQ := Lib.hid hQ
  have HR0 := Lib.hid hR.symm
  have hb := Lib.hid h.lt
  have HR := Lib.hid (h.low (one_box w (.cells #[.int .i64 0, .int .u64 0, .int .u64 0, .int .u64 0, .int .u64 0, .slice none 0 0, .int .i64 0, .int .i64 0, .int .i64 0] 27)))
  have HT := Lib.hid (Trees.start h.lt)
  have hsz : s.data.toList.length = s.size := rfl
  have HSZ := Lib.hid hsz
  obtain ⟨i0, hi0, hz0, hz1, hz2⟩ := info_parts info27
  clear h hQ hR hsz
  go_enter Tryd.func38, Tryd.ntmps38
  go_wp2
  go_loopw [5] (fun v wr => LoopD pc b w s R v wr) (fun _ wr => gasD b s.size wr)
  case atStart => exact ⟨k0, g0, [], 0, hk0, by simp, HR.out, HT.out, .inl ⟨rfl, hgk0, by simp, HR0.out⟩⟩
  case round =>
    clear HR HT
    obtain ⟨k, g, l, o, hk, hlk, hr, ht, hway⟩ := hrel
    obtain ⟨A, c, rfl⟩ := row_slice ht.row
    have HR := Lib.hid hr
    have HT := Lib.hid ht
    obtain ⟨c0, c1, _, c3, _, _, _⟩ := hr
    clear ht
    rcases hway with ⟨rfl, hgk, hlk2, hg⟩ | ⟨ho, hbad, hl0⟩
    · have HG := Lib.hid hg
      clear hg
      by_cases a : k < s.size
      · have hget := get_at s k a
        obtain ⟨y, hy⟩ : ∃ y : Int, y = (s[k].toNat : Int) := ⟨_, rfl⟩
        have hyy : (s[k].toNat : Int) = y := hy.symm
        have b1 : decide ((k : Int) < (s.size : Int)) = true := by simp; omega
        by_cases hst : s[k] = 124 ∨ s[k] = 41
        · have hs1 : stops s.data.toList k = true := by unfold stops; rw [hget]; rcases hst with h | h <;> simp [h]
          have HD : Hid (∀ W, Rdr b W s k g 0 → DoneD b s Q (mkRow (l.map (·.1))) W) := Lib.hid (row_done_ok (by rw [HQ.out, ← HG.out, rowL_end hs1]) hgk)
          rcases hst with h | h
          · obtain rfl : y = 124 := by rw [hy, h]; rfl
            clear hs1 h hget hy
            go_wp2
            go_quiet (fail)
            have HR' := Lib.hid (HR.out.drews nq)
            have HT' := Lib.hid (HT.out.next (grown_drews b nq _))
            obtain ⟨d0, d1, d2, d3, d4, d5, d6, d7, d8, _⟩ := HT'.out.res
            obtain ⟨e0, e1, e2, e3, e4, e5, e6, e7, e8⟩ := Box9.freed HT'.out.res
            rcases l with _ | ⟨x, _ | ⟨y, r⟩⟩
            · go_wp2
              obtain ⟨W3, hW3, hbx, hr, hgw⟩ := endT (.int .i64 0) (.int .u64 0) (.int .u64 0) (.int .u64 0) (.int .u64 0) (.slice none 0 0) (.int .i64 0) (.int .i64 0) (.int .i64 0) hb.out HR'.out HT'.out.grown HT'.out.res
              unfold put9 at hW3
              rw [← hW3]
              obtain ⟨l0, l1, l2, l3, l4, l5, l6, l7, l8, _⟩ := hbx
              exact bodyPost_ret (v := .agg #[.int .i64 0, .int .u64 0, .int .u64 0, .int .u64 0, .int .u64 0, .slice none 0 0, .int .i64 0, .int .i64 0, .int .i64 0]) (by simp [results, Tryd.results38, go_sem, l0, l1, l2, l3, l4, l5, l6, l7, l8]) rfl (done_is hgw (by rfl) (Kids.leaf _ _ none _ _ _ _ _) (c := 0) (HD.out _ hr))
            · obtain ⟨gx, cap, hv, _, hgx⟩ := HT'.out.row.form (by simp)
              injection hv with hA _ hc
              subst hA hc
              obtain ⟨⟨kx, S, ks, lo, hi, n⟩, A', c'⟩ := x
              obtain ⟨x0, x1, x2, x3, x4, x5, x6, x7, x8⟩ := at9_zero (HT'.out.at_ (i := 0) rfl)
              clear hgx
              go_wp2
              obtain ⟨W3, hW3, hbx, hr, hgw⟩ := endT (.int .i64 kx) (.int .u64 S.1.toNat) (.int .u64 S.2.1.toNat) (.int .u64 S.2.2.1.toNat) (.int .u64 S.2.2.2.toNat) (.slice A' ks.length c') (.int .i64 lo) (.int .i64 hi) (.int .i64 n) hb.out HR'.out HT'.out.grown HT'.out.res
              have KK : Kids (Fr w.heap.size W3.heap.size) W3 A' (.mk kx S ks lo hi n) := by
                have hs2 := congrArg (fun W => W.heap.size) hW3
                simp only [size_put9] at hs2
                rw [hs2, hW3]
                have hk1 := kids_of (Q := Fr (w.heap.size + 1) (World.drewN _ nq).heap.size) (fun _ _ => rfl) (fun k hk => ⟨hk.1, hk.2.1⟩) _ _ (HT'.out.kids (Re.mk kx S ks lo hi n, A', c') (by simp))
                exact (hk1.put9 (.inl (by omega)) _ _ _ _ _ _ _ _ _).wide (by omega) (Nat.le_refl _)
              unfold put9 at hW3
              rw [← hW3]
              obtain ⟨l0, l1, l2, l3, l4, l5, l6, l7, l8, _⟩ := hbx
              exact bodyPost_ret (v := .agg #[.int .i64 kx, .int .u64 S.1.toNat, .int .u64 S.2.1.toNat, .int .u64 S.2.2.1.toNat, .int .u64 S.2.2.2.toNat, .slice A' ks.length c', .int .i64 lo, .int .i64 hi, .int .i64 n]) (by simp [results, Tryd.results38, go_sem, l0, l1, l2, l3, l4, l5, l6, l7, l8]) rfl (done_is hgw (by rfl) KK (HD.out _ hr))
            · obtain ⟨m, hm⟩ : ∃ m, m = (x :: y :: r).length := ⟨_, rfl⟩
              rw [← hm] at HT'
              rw [← hm]
              have hm2 : 2 ≤ m := by rw [hm]; simp
              have m0 : ((m : Int) == 0) = false := by simp; omega
              have m1 : ((m : Int) == 1) = false := by simp; omega
              have HM := Lib.hid hm
              clear hm
              go_wp2
              obtain ⟨W3, hW3, hbx, hr, hgw⟩ := endT (.int .i64 4) (.int .u64 0) (.int .u64 0) (.int .u64 0) (.int .u64 0) (.slice A m c) (.int .i64 0) (.int .i64 0) (.int .i64 0) hb.out HR'.out HT'.out.grown HT'.out.res
              have KK : Kids (Fr w.heap.size W3.heap.size) W3 A (mkRow ((x :: y :: r).map (·.1))) := by
                have hs2 := congrArg (fun W => W.heap.size) hW3
                simp only [size_put9] at hs2
                rw [hs2, hW3]
                have hk1 := HT'.out.whole1 4 none4 0 0 0
                exact (hk1.put9 (.inl (by omega)) _ _ _ _ _ _ _ _ _).wide (by omega) (Nat.le_refl _)
              have hval : Value.agg #[.int .i64 4, .int .u64 0, .int .u64 0, .int .u64 0, .int .u64 0, .slice A m c, .int .i64 0, .int .i64 0, .int .i64 0] = valR (mkRow ((x :: y :: r).map (·.1))) A c := by rw [HM.out]; show _ = Value.agg #[.int .i64 4, .int .u64 0, .int .u64 0, .int .u64 0, .int .u64 0, .slice A (r.map (·.1)).length.succ.succ c, .int .i64 0, .int .i64 0, .int .i64 0]; rw [List.length_map]; rfl
              unfold put9 at hW3
              rw [← hW3]
              obtain ⟨l0, l1, l2, l3, l4, l5, l6, l7, l8, _⟩ := hbx
              exact bodyPost_ret (v := .agg #[.int .i64 4, .int .u64 0, .int .u64 0, .int .u64 0, .int .u64 0, .slice A m c, .int .i64 0, .int .i64 0, .int .i64 0]) (by simp [results, Tryd.results38, go_sem, l0, l1, l2, l3, l4, l5, l6, l7, l8]) rfl (done_is hgw hval KK (HD.out _ hr))
          · obtain rfl : y = 41 := by rw [hy, h]; rfl
            clear hs1 h hget hy
            go_wp2
            go_quiet (fail)
            have HR' := Lib.hid (HR.out.drews nq)
            have HT' := Lib.hid (HT.out.next (grown_drews b nq _))
            obtain ⟨d0, d1, d2, d3, d4, d5, d6, d7, d8, _⟩ := HT'.out.res
            obtain ⟨e0, e1, e2, e3, e4, e5, e6, e7, e8⟩ := Box9.freed HT'.out.res
            rcases l with _ | ⟨x, _ | ⟨y, r⟩⟩
            · go_wp2
              obtain ⟨W3, hW3, hbx, hr, hgw⟩ := endT (.int .i64 0) (.int .u64 0) (.int .u64 0) (.int .u64 0) (.int .u64 0) (.slice none 0 0) (.int .i64 0) (.int .i64 0) (.int .i64 0) hb.out HR'.out HT'.out.grown HT'.out.res
              unfold put9 at hW3
              rw [← hW3]
              obtain ⟨l0, l1, l2, l3, l4, l5, l6, l7, l8, _⟩ := hbx
              exact bodyPost_ret (v := .agg #[.int .i64 0, .int .u64 0, .int .u64 0, .int .u64 0, .int .u64 0, .slice none 0 0, .int .i64 0, .int .i64 0, .int .i64 0]) (by simp [results, Tryd.results38, go_sem, l0, l1, l2, l3, l4, l5, l6, l7, l8]) rfl (done_is hgw (by rfl) (Kids.leaf _ _ none _ _ _ _ _) (c := 0) (HD.out _ hr))
            · obtain ⟨gx, cap, hv, _, hgx⟩ := HT'.out.row.form (by simp)
              injection hv with hA _ hc
              subst hA hc
              obtain ⟨⟨kx, S, ks, lo, hi, n⟩, A', c'⟩ := x
              obtain ⟨x0, x1, x2, x3, x4, x5, x6, x7, x8⟩ := at9_zero (HT'.out.at_ (i := 0) rfl)
              clear hgx
              go_wp2
              obtain ⟨W3, hW3, hbx, hr, hgw⟩ := endT (.int .i64 kx) (.int .u64 S.1.toNat) (.int .u64 S.2.1.toNat) (.int .u64 S.2.2.1.toNat) (.int .u64 S.2.2.2.toNat) (.slice A' ks.length c') (.int .i64 lo) (.int .i64 hi) (.int .i64 n) hb.out HR'.out HT'.out.grown HT'.out.res
              have KK : Kids (Fr w.heap.size W3.heap.size) W3 A' (.mk kx S ks lo hi n) := by
                have hs2 := congrArg (fun W => W.heap.size) hW3
                simp only [size_put9] at hs2
                rw [hs2, hW3]
                have hk1 := kids_of (Q := Fr (w.heap.size + 1) (World.drewN _ nq).heap.size) (fun _ _ => rfl) (fun k hk => ⟨hk.1, hk.2.1⟩) _ _ (HT'.out.kids (Re.mk kx S ks lo hi n, A', c') (by simp))
                exact (hk1.put9 (.inl (by omega)) _ _ _ _ _ _ _ _ _).wide (by omega) (Nat.le_refl _)
              unfold put9 at hW3
              rw [← hW3]
              obtain ⟨l0, l1, l2, l3, l4, l5, l6, l7, l8, _⟩ := hbx
              exact bodyPost_ret (v := .agg #[.int .i64 kx, .int .u64 S.1.toNat, .int .u64 S.2.1.toNat, .int .u64 S.2.2.1.toNat, .int .u64 S.2.2.2.toNat, .slice A' ks.length c', .int .i64 lo, .int .i64 hi, .int .i64 n]) (by simp [results, Tryd.results38, go_sem, l0, l1, l2, l3, l4, l5, l6, l7, l8]) rfl (done_is hgw (by rfl) KK (HD.out _ hr))
            · obtain ⟨m, hm⟩ : ∃ m, m = (x :: y :: r).length := ⟨_, rfl⟩
              rw [← hm] at HT'
              rw [← hm]
              have hm2 : 2 ≤ m := by rw [hm]; simp
              have m0 : ((m : Int) == 0) = false := by simp; omega
              have m1 : ((m : Int) == 1) = false := by simp; omega
              have HM := Lib.hid hm
              clear hm
              go_wp2
              obtain ⟨W3, hW3, hbx, hr, hgw⟩ := endT (.int .i64 4) (.int .u64 0) (.int .u64 0) (.int .u64 0) (.int .u64 0) (.slice A m c) (.int .i64 0) (.int .i64 0) (.int .i64 0) hb.out HR'.out HT'.out.grown HT'.out.res
              have KK : Kids (Fr w.heap.size W3.heap.size) W3 A (mkRow ((x :: y :: r).map (·.1))) := by
                have hs2 := congrArg (fun W => W.heap.size) hW3
                simp only [size_put9] at hs2
                rw [hs2, hW3]
                have hk1 := HT'.out.whole1 4 none4 0 0 0
                exact (hk1.put9 (.inl (by omega)) _ _ _ _ _ _ _ _ _).wide (by omega) (Nat.le_refl _)
              have hval : Value.agg #[.int .i64 4, .int .u64 0, .int .u64 0, .int .u64 0, .int .u64 0, .slice A m c, .int .i64 0, .int .i64 0, .int .i64 0] = valR (mkRow ((x :: y :: r).map (·.1))) A c := by rw [HM.out]; show _ = Value.agg #[.int .i64 4, .int .u64 0, .int .u64 0, .int .u64 0, .int .u64 0, .slice A (r.map (·.1)).length.succ.succ c, .int .i64 0, .int .i64 0, .int .i64 0]; rw [List.length_map]; rfl
              unfold put9 at hW3
              rw [← hW3]
              obtain ⟨l0, l1, l2, l3, l4, l5, l6, l7, l8, _⟩ := hbx
              exact bodyPost_ret (v := .agg #[.int .i64 4, .int .u64 0, .int .u64 0, .int .u64 0, .int .u64 0, .slice A m c, .int .i64 0, .int .i64 0, .int .i64 0]) (by simp [results, Tryd.results38, go_sem, l0, l1, l2, l3, l4, l5, l6, l7, l8]) rfl (done_is hgw hval KK (HD.out _ hr))
        · have hs1 : stops s.data.toList k = false := by unfold stops; rw [hget]; simp; exact ⟨fun h => hst (.inl h), fun h => hst (.inr h)⟩
          have e1 : (y != 124) = true := by simp; intro h; exact hst (.inl (u8_eq (by rw [← hy]; exact h)))
          have e2 : (y != 41) = true := by simp; intro h; exact hst (.inr (u8_eq (by rw [← hy]; exact h)))
          obtain ⟨sa1, sa2⟩ := hsane k g a hgk
          have hgd := hgood k g a
          rcases hp : pc k g with ⟨q, er⟩ | ⟨x, q, g'⟩
          · have her := sa1 q er hp
            obtain ⟨zz, hzz⟩ : ∃ zz : Nat, er = zz := ⟨er.toNat, by omega⟩
            have hz18 : zz = 1 ∨ zz = 8 := by omega
            have KP := Lib.hid (at_bad hpc b hs1 a hgk hp hzz)
            have hqk := hgd.1 q er hp
            have HQ3 : Hid (k ≤ q ∧ q ≤ s.size) := Lib.hid ⟨hqk.1, hqk.2.1⟩
            have HX : Hid (R = .bad q (zz : Int)) := Lib.hid (by rw [← HG.out, rowL_bad hs1 hp, hzz])
            have HZ := Lib.hid hz18
            clear hs1 hp sa1 sa2 hgd her hzz hz18 hqk hst hget hy
            go_wp2
            go_quiet (fail)
            have HR' := Lib.hid (HR.out.drews nq)
            have HT' := Lib.hid (HT.out.next (grown_drews b nq _))
            go_wp2_with (first | (go_at_call 51; (with_reducible refine (KP.out _ HR'.out).mono ?_); go_must (rintro _ wv ⟨⟨⟨kx, S, ks, lo, hi, n⟩, A', c', he, hkid⟩, ⟨g2, hr1⟩, hg1⟩; have he2 : _ = Ending.returned (.agg #[.int .i64 kx, .int .u64 S.1.toNat, .int .u64 S.2.1.toNat, .int .u64 S.2.2.1.toNat, .int .u64 S.2.2.2.toNat, .slice A' ks.length c', .int .i64 lo, .int .i64 hi, .int .i64 n]) := he; clear he; subst he2; have ha1 := grown_below (b := b) (one_box wv (.cells #[.int .i64 kx, .int .u64 S.1.toNat, .int .u64 S.2.1.toNat, .int .u64 S.2.2.1.toNat, .int .u64 S.2.2.2.toNat, .slice A' ks.length c', .int .i64 lo, .int .i64 hi, .int .i64 n] 27)); have HR1 := Lib.hid (hr1.low (one_box wv (.cells #[.int .i64 kx, .int .u64 S.1.toNat, .int .u64 S.2.1.toNat, .int .u64 S.2.2.1.toNat, .int .u64 S.2.2.2.toNat, .slice A' ks.length c', .int .i64 lo, .int .i64 hi, .int .i64 n] 27))); have HT1 := Lib.hid ((HT'.out.next hg1).next ha1); have hlo := HT'.out.hb; have hlb := HT'.out.base; have HK1 := Lib.hid (HT'.out.fresh (hkid.grownF ha1 (.inl (by omega)) (Nat.le_refl _)) (by simp)); clear ha1 hg1 hr1 hkid hlo hlb)) | (at_builtin; refine wpList_append_lies _ rfl (.tmp 47) (.tmp 51) 25 rfl (w.heap.size + 1) 27 i0 (.agg #[.int .i64 0, .int .u64 0, .int .u64 0, .int .u64 0, .int .u64 0, .slice none 0 0, .int .i64 0, .int .i64 0, .int .i64 0]) 9 88 Tryd.underlying25 hi0 hz0 hz1 hz2 rfl (by decide) _ _ _ rfl HT1.out.row ⟨wv.heap.size, 0, none⟩ 1 1 [.int .i64 kx, .int .u64 S.1.toNat, .int .u64 S.2.1.toNat, .int .u64 S.2.2.1.toNat, .int .u64 S.2.2.2.toNat, .slice A' ks.length c', .int .i64 lo, .int .i64 hi, .int .i64 n] rfl rfl (fun j u hu => new_cells wv 27 #[.int .i64 kx, .int .u64 S.1.toNat, .int .u64 S.2.1.toNat, .int .u64 S.2.2.1.toNat, .int .u64 S.2.2.2.toNat, .slice A' ks.length c', .int .i64 lo, .int .i64 hi, .int .i64 n] j u hu) (cellsT_one (.mk kx S ks lo hi n) A' c') (by omega) (by unfold maxLen; omega) (by omega) HT1.out.base _ rfl ?_; intro g3 cap3 w3 hown' hgrow hat hlt))
            go_roundw
            case rel =>
              exact ⟨q, g2, l ++ [(.mk kx S ks lo hi n, A', c')], zz, HQ3.out.2, by rw [List.length_append]; have := HQ3.out.1; simp; omega, HT1.out.rdr hgrow HR1.out, HT1.out.push (x := (.mk kx S ks lo hi n, A', c')) HK1.out hown' hgrow hat (HT1.out.grow hgrow), .inr ⟨HZ.out, HX.out, by simp⟩⟩
            case measure =>
              have h3 := HT1.out.rdr hgrow HR1.out
              have hz := HZ.out
              rw [gasD_is h3, gasD_is HR.out, if_neg (by omega), if_pos rfl]
              omega
          · obtain ⟨kx, S, ks, lo, hi, n⟩ := x
            have KP := Lib.hid (at_ok hpc b hs1 a hgk hp)
            obtain ⟨hq1, hq2, hq3⟩ := sa2 _ q g' hp
            have HX : Hid (rowL pc s.data.toList q g' (l.map (·.1) ++ [.mk kx S ks lo hi n]) = R) := Lib.hid (by rw [← HG.out, rowL_ok hs1 hp ⟨hq1, by rw [HSZ.out]; exact hq2⟩])
            have HQ3 := Lib.hid (And.intro hq1 (And.intro hq2 hq3))
            clear hs1 hp sa1 sa2 hgd hq1 hq2 hq3 hst hget hy
            go_wp2
            go_quiet (fail)
            have HR' := Lib.hid (HR.out.drews nq)
            have HT' := Lib.hid (HT.out.next (grown_drews b nq _))
            go_wp2_with (first | (go_at_call 51; (with_reducible refine (KP.out _ HR'.out).mono ?_); go_must (rintro _ wv ⟨⟨A', c', he, hkid⟩, hr1, hg1⟩; have he2 : _ = Ending.returned (.agg #[.int .i64 kx, .int .u64 S.1.toNat, .int .u64 S.2.1.toNat, .int .u64 S.2.2.1.toNat, .int .u64 S.2.2.2.toNat, .slice A' ks.length c', .int .i64 lo, .int .i64 hi, .int .i64 n]) := he; clear he; subst he2; have ha1 := grown_below (b := b) (one_box wv (.cells #[.int .i64 kx, .int .u64 S.1.toNat, .int .u64 S.2.1.toNat, .int .u64 S.2.2.1.toNat, .int .u64 S.2.2.2.toNat, .slice A' ks.length c', .int .i64 lo, .int .i64 hi, .int .i64 n] 27)); have HR1 := Lib.hid (hr1.low (one_box wv (.cells #[.int .i64 kx, .int .u64 S.1.toNat, .int .u64 S.2.1.toNat, .int .u64 S.2.2.1.toNat, .int .u64 S.2.2.2.toNat, .slice A' ks.length c', .int .i64 lo, .int .i64 hi, .int .i64 n] 27))); have HT1 := Lib.hid ((HT'.out.next hg1).next ha1); have hlo := HT'.out.hb; have hlb := HT'.out.base; have HK1 := Lib.hid (HT'.out.fresh (hkid.grownF ha1 (.inl (by omega)) (Nat.le_refl _)) (by simp)); clear ha1 hg1 hr1 hkid hlo hlb)) | (at_builtin; refine wpList_append_lies _ rfl (.tmp 47) (.tmp 51) 25 rfl (w.heap.size + 1) 27 i0 (.agg #[.int .i64 0, .int .u64 0, .int .u64 0, .int .u64 0, .int .u64 0, .slice none 0 0, .int .i64 0, .int .i64 0, .int .i64 0]) 9 88 Tryd.underlying25 hi0 hz0 hz1 hz2 rfl (by decide) _ _ _ rfl HT1.out.row ⟨wv.heap.size, 0, none⟩ 1 1 [.int .i64 kx, .int .u64 S.1.toNat, .int .u64 S.2.1.toNat, .int .u64 S.2.2.1.toNat, .int .u64 S.2.2.2.toNat, .slice A' ks.length c', .int .i64 lo, .int .i64 hi, .int .i64 n] rfl rfl (fun j u hu => new_cells wv 27 #[.int .i64 kx, .int .u64 S.1.toNat, .int .u64 S.2.1.toNat, .int .u64 S.2.2.1.toNat, .int .u64 S.2.2.2.toNat, .slice A' ks.length c', .int .i64 lo, .int .i64 hi, .int .i64 n] j u hu) (cellsT_one (.mk kx S ks lo hi n) A' c') (by omega) (by unfold maxLen; omega) (by omega) HT1.out.base _ rfl ?_; intro g3 cap3 w3 hown' hgrow hat hlt))
            go_roundw
            case rel =>
              refine ⟨q, g', l ++ [(.mk kx S ks lo hi n, A', c')], 0, HQ3.out.2.1, by rw [List.length_append]; have := HQ3.out.1; simp; omega, HT1.out.rdr hgrow HR1.out, HT1.out.push (x := (.mk kx S ks lo hi n, A', c')) HK1.out hown' hgrow hat (HT1.out.grow hgrow), .inl ⟨rfl, HQ3.out.2.2, by rw [List.length_append]; have := HQ3.out.1; simp; omega, ?_⟩⟩
              rw [List.map_append]
              exact HX.out
            case measure =>
              have h3 := HT1.out.rdr hgrow HR1.out
              rw [gasD_is h3, gasD_is HR.out, if_pos rfl, if_pos rfl]
              have := HQ3.out; omega
      · have b1 : decide ((k : Int) < (s.size : Int)) = false := by simp; omega
        have b2 : decide (k < s.size) = false := by simp; omega
        have hs1 : stops s.data.toList k = true := by unfold stops; rw [get_end s k a]
        have HD : Hid (∀ W, Rdr b W s k g 0 → DoneD b s Q (mkRow (l.map (·.1))) W) := Lib.hid (row_done_ok (by rw [HQ.out, ← HG.out, rowL_end hs1]) hgk)
        clear hs1
        go_wp2
        go_quiet (fail)
        have HR' := Lib.hid (HR.out.drews nq)
        have HT' := Lib.hid (HT.out.next (grown_drews b nq _))
        obtain ⟨d0, d1, d2, d3, d4, d5, d6, d7, d8, _⟩ := HT'.out.res
        obtain ⟨e0, e1, e2, e3, e4, e5, e6, e7, e8⟩ := Box9.freed HT'.out.res
        rcases l with _ | ⟨x, _ | ⟨y, r⟩⟩
        · go_wp2
          obtain ⟨W3, hW3, hbx, hr, hgw⟩ := endT (.int .i64 0) (.int .u64 0) (.int .u64 0) (.int .u64 0) (.int .u64 0) (.slice none 0 0) (.int .i64 0) (.int .i64 0) (.int .i64 0) hb.out HR'.out HT'.out.grown HT'.out.res
          unfold put9 at hW3
          rw [← hW3]
          obtain ⟨l0, l1, l2, l3, l4, l5, l6, l7, l8, _⟩ := hbx
          exact bodyPost_ret (v := .agg #[.int .i64 0, .int .u64 0, .int .u64 0, .int .u64 0, .int .u64 0, .slice none 0 0, .int .i64 0, .int .i64 0, .int .i64 0]) (by simp [results, Tryd.results38, go_sem, l0, l1, l2, l3, l4, l5, l6, l7, l8]) rfl (done_is hgw (by rfl) (Kids.leaf _ _ none _ _ _ _ _) (c := 0) (HD.out _ hr))
        · obtain ⟨gx, cap, hv, _, hgx⟩ := HT'.out.row.form (by simp)
          injection hv with hA _ hc
          subst hA hc
          obtain ⟨⟨kx, S, ks, lo, hi, n⟩, A', c'⟩ := x
          obtain ⟨x0, x1, x2, x3, x4, x5, x6, x7, x8⟩ := at9_zero (HT'.out.at_ (i := 0) rfl)
          clear hgx
          go_wp2
          obtain ⟨W3, hW3, hbx, hr, hgw⟩ := endT (.int .i64 kx) (.int .u64 S.1.toNat) (.int .u64 S.2.1.toNat) (.int .u64 S.2.2.1.toNat) (.int .u64 S.2.2.2.toNat) (.slice A' ks.length c') (.int .i64 lo) (.int .i64 hi) (.int .i64 n) hb.out HR'.out HT'.out.grown HT'.out.res
          have KK : Kids (Fr w.heap.size W3.heap.size) W3 A' (.mk kx S ks lo hi n) := by
            have hs2 := congrArg (fun W => W.heap.size) hW3
            simp only [size_put9] at hs2
            rw [hs2, hW3]
            have hk1 := kids_of (Q := Fr (w.heap.size + 1) (World.drewN _ nq).heap.size) (fun _ _ => rfl) (fun k hk => ⟨hk.1, hk.2.1⟩) _ _ (HT'.out.kids (Re.mk kx S ks lo hi n, A', c') (by simp))
            exact (hk1.put9 (.inl (by omega)) _ _ _ _ _ _ _ _ _).wide (by omega) (Nat.le_refl _)
          unfold put9 at hW3
          rw [← hW3]
          obtain ⟨l0, l1, l2, l3, l4, l5, l6, l7, l8, _⟩ := hbx
          exact bodyPost_ret (v := .agg #[.int .i64 kx, .int .u64 S.1.toNat, .int .u64 S.2.1.toNat, .int .u64 S.2.2.1.toNat, .int .u64 S.2.2.2.toNat, .slice A' ks.length c', .int .i64 lo, .int .i64 hi, .int .i64 n]) (by simp [results, Tryd.results38, go_sem, l0, l1, l2, l3, l4, l5, l6, l7, l8]) rfl (done_is hgw (by rfl) KK (HD.out _ hr))
        · obtain ⟨m, hm⟩ : ∃ m, m = (x :: y :: r).length := ⟨_, rfl⟩
          rw [← hm] at HT'
          rw [← hm]
          have hm2 : 2 ≤ m := by rw [hm]; simp
          have m0 : ((m : Int) == 0) = false := by simp; omega
          have m1 : ((m : Int) == 1) = false := by simp; omega
          have HM := Lib.hid hm
          clear hm
          go_wp2
          obtain ⟨W3, hW3, hbx, hr, hgw⟩ := endT (.int .i64 4) (.int .u64 0) (.int .u64 0) (.int .u64 0) (.int .u64 0) (.slice A m c) (.int .i64 0) (.int .i64 0) (.int .i64 0) hb.out HR'.out HT'.out.grown HT'.out.res
          have KK : Kids (Fr w.heap.size W3.heap.size) W3 A (mkRow ((x :: y :: r).map (·.1))) := by
            have hs2 := congrArg (fun W => W.heap.size) hW3
            simp only [size_put9] at hs2
            rw [hs2, hW3]
            have hk1 := HT'.out.whole1 4 none4 0 0 0
            exact (hk1.put9 (.inl (by omega)) _ _ _ _ _ _ _ _ _).wide (by omega) (Nat.le_refl _)
          have hval : Value.agg #[.int .i64 4, .int .u64 0, .int .u64 0, .int .u64 0, .int .u64 0, .slice A m c, .int .i64 0, .int .i64 0, .int .i64 0] = valR (mkRow ((x :: y :: r).map (·.1))) A c := by rw [HM.out]; show _ = Value.agg #[.int .i64 4, .int .u64 0, .int .u64 0, .int .u64 0, .int .u64 0, .slice A (r.map (·.1)).length.succ.succ c, .int .i64 0, .int .i64 0, .int .i64 0]; rw [List.length_map]; rfl
          unfold put9 at hW3
          rw [← hW3]
          obtain ⟨l0, l1, l2, l3, l4, l5, l6, l7, l8, _⟩ := hbx
          exact bodyPost_ret (v := .agg #[.int .i64 4, .int .u64 0, .int .u64 0, .int .u64 0, .int .u64 0, .slice A m c, .int .i64 0, .int .i64 0, .int .i64 0]) (by simp [results, Tryd.results38, go_sem, l0, l1, l2, l3, l4, l5, l6, l7, l8]) rfl (done_is hgw hval KK (HD.out _ hr))
    · have HD : Hid (∀ W, Rdr b W s k g o → DoneD b s Q (mkRow (l.map (·.1))) W) := Lib.hid (row_done_bad _ (by rw [HQ.out, hbad]) ho)
      have b0 : ((o : Int) == 0) = false := by simp; omega
      have b0' : (o == 0) = false := by simp; omega
      clear ho hbad
      go_wp2
      go_quiet (fail)
      have HR' := Lib.hid (HR.out.drews nq)
      have HT' := Lib.hid (HT.out.next (grown_drews b nq _))
      obtain ⟨d0, d1, d2, d3, d4, d5, d6, d7, d8, _⟩ := HT'.out.res
      obtain ⟨e0, e1, e2, e3, e4, e5, e6, e7, e8⟩ := Box9.freed HT'.out.res
      rcases l with _ | ⟨x, _ | ⟨y, r⟩⟩
      · go_wp2
        obtain ⟨W3, hW3, hbx, hr, hgw⟩ := endT (.int .i64 0) (.int .u64 0) (.int .u64 0) (.int .u64 0) (.int .u64 0) (.slice none 0 0) (.int .i64 0) (.int .i64 0) (.int .i64 0) hb.out HR'.out HT'.out.grown HT'.out.res
        unfold put9 at hW3
        rw [← hW3]
        obtain ⟨l0, l1, l2, l3, l4, l5, l6, l7, l8, _⟩ := hbx
        exact bodyPost_ret (v := .agg #[.int .i64 0, .int .u64 0, .int .u64 0, .int .u64 0, .int .u64 0, .slice none 0 0, .int .i64 0, .int .i64 0, .int .i64 0]) (by simp [results, Tryd.results38, go_sem, l0, l1, l2, l3, l4, l5, l6, l7, l8]) rfl (done_is hgw (by rfl) (Kids.leaf _ _ none _ _ _ _ _) (c := 0) (HD.out _ hr))
      · obtain ⟨gx, cap, hv, _, hgx⟩ := HT'.out.row.form (by simp)
        injection hv with hA _ hc
        subst hA hc
        obtain ⟨⟨kx, S, ks, lo, hi, n⟩, A', c'⟩ := x
        obtain ⟨x0, x1, x2, x3, x4, x5, x6, x7, x8⟩ := at9_zero (HT'.out.at_ (i := 0) rfl)
        clear hgx
        go_wp2
        obtain ⟨W3, hW3, hbx, hr, hgw⟩ := endT (.int .i64 kx) (.int .u64 S.1.toNat) (.int .u64 S.2.1.toNat) (.int .u64 S.2.2.1.toNat) (.int .u64 S.2.2.2.toNat) (.slice A' ks.length c') (.int .i64 lo) (.int .i64 hi) (.int .i64 n) hb.out HR'.out HT'.out.grown HT'.out.res
        have KK : Kids (Fr w.heap.size W3.heap.size) W3 A' (.mk kx S ks lo hi n) := by
          have hs2 := congrArg (fun W => W.heap.size) hW3
          simp only [size_put9] at hs2
          rw [hs2, hW3]
          have hk1 := kids_of (Q := Fr (w.heap.size + 1) (World.drewN _ nq).heap.size) (fun _ _ => rfl) (fun k hk => ⟨hk.1, hk.2.1⟩) _ _ (HT'.out.kids (Re.mk kx S ks lo hi n, A', c') (by simp))
          exact (hk1.put9 (.inl (by omega)) _ _ _ _ _ _ _ _ _).wide (by omega) (Nat.le_refl _)
        unfold put9 at hW3
        rw [← hW3]
        obtain ⟨l0, l1, l2, l3, l4, l5, l6, l7, l8, _⟩ := hbx
        exact bodyPost_ret (v := .agg #[.int .i64 kx, .int .u64 S.1.toNat, .int .u64 S.2.1.toNat, .int .u64 S.2.2.1.toNat, .int .u64 S.2.2.2.toNat, .slice A' ks.length c', .int .i64 lo, .int .i64 hi, .int .i64 n]) (by simp [results, Tryd.results38, go_sem, l0, l1, l2, l3, l4, l5, l6, l7, l8]) rfl (done_is hgw (by rfl) KK (HD.out _ hr))
      · obtain ⟨m, hm⟩ : ∃ m, m = (x :: y :: r).length := ⟨_, rfl⟩
        rw [← hm] at HT'
        rw [← hm]
        have hm2 : 2 ≤ m := by rw [hm]; simp
        have m0 : ((m : Int) == 0) = false := by simp; omega
        have m1 : ((m : Int) == 1) = false := by simp; omega
        have HM := Lib.hid hm
        clear hm
        go_wp2
        obtain ⟨W3, hW3, hbx, hr, hgw⟩ := endT (.int .i64 4) (.int .u64 0) (.int .u64 0) (.int .u64 0) (.int .u64 0) (.slice A m c) (.int .i64 0) (.int .i64 0) (.int .i64 0) hb.out HR'.out HT'.out.grown HT'.out.res
        have KK : Kids (Fr w.heap.size W3.heap.size) W3 A (mkRow ((x :: y :: r).map (·.1))) := by
          have hs2 := congrArg (fun W => W.heap.size) hW3
          simp only [size_put9] at hs2
          rw [hs2, hW3]
          have hk1 := HT'.out.whole1 4 none4 0 0 0
          exact (hk1.put9 (.inl (by omega)) _ _ _ _ _ _ _ _ _).wide (by omega) (Nat.le_refl _)
        have hval : Value.agg #[.int .i64 4, .int .u64 0, .int .u64 0, .int .u64 0, .int .u64 0, .slice A m c, .int .i64 0, .int .i64 0, .int .i64 0] = valR (mkRow ((x :: y :: r).map (·.1))) A c := by rw [HM.out]; show _ = Value.agg #[.int .i64 4, .int .u64 0, .int .u64 0, .int .u64 0, .int .u64 0, .slice A (r.map (·.1)).length.succ.succ c, .int .i64 0, .int .i64 0, .int .i64 0]; rw [List.length_map]; rfl
        unfold put9 at hW3
        rw [← hW3]
        obtain ⟨l0, l1, l2, l3, l4, l5, l6, l7, l8, _⟩ := hbx
        exact bodyPost_ret (v := .agg #[.int .i64 4, .int .u64 0, .int .u64 0, .int .u64 0, .int .u64 0, .slice A m c, .int .i64 0, .int .i64 0, .int .i64 0]) (by simp [results, Tryd.results38, go_sem, l0, l1, l2, l3, l4, l5, l6, l7, l8]) rfl (done_is hgw hval KK (HD.out _ hr))
end Go.Proofs.YtccheljfbjllhaaDoor
