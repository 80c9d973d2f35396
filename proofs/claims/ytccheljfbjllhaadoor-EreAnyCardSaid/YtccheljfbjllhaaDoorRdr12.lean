/- The code's reader: a row. -/
import Derived.Test.YtccheljfbjllhaaDoorRdr11
namespace Go.Proofs.YtccheljfbjllhaaDoor
open Go Go.RowKit

theorem info27 : (Tryd.prog.info? 27).map (fun i => (i.zero, i.size, i.bytes)) = some (some (.agg #[.int .i64 0, .int .u64 0, .int .u64 0, .int .u64 0, .int .u64 0, .slice none 0 0, .int .i64 0, .int .i64 0, .int .i64 0]), 9, 88) := by kernel_rfl
theorem looksS : Looks ⟨#[124, 41]⟩ [124, 41] := all256 _ (by decide +kernel)
theorem stops_see {s : ByteArray} {k : Nat} (hk : k < s.size) : stops s.data.toList k = seesB s k [124, 41] := by
  unfold stops seesB
  rw [get_at s k hk]
  simp
theorem see_set {set : ByteArray} {sg : Bs} (hl : Looks set sg) (b : Nat) {s : ByteArray} (g o : Nat) {k : Nat} {v : Bool} (h : seesB s k sg = v) : SeeT set b s g o k v := by
  intro w hr
  have := sees_any set sg hl b w s k g o hr
  rw [h] at this; exact this
theorem mkRow_two (x y : Re) (l : List Re) : mkRow (x :: y :: l) = .mk 4 none4 (x :: y :: l) 0 0 0 := rfl
theorem Rdr.of_block {b : Nat} {w w' : World} {s : ByteArray} {k g o : Nat} (h : Rdr b w s k g o) (e : w'.heap[b]? = w.heap[b]?) : Rdr b w' s k g o := by
  have c : ∀ j, w'.cell? ⟨b, j, none⟩ = w.cell? ⟨b, j, none⟩ := fun j => World.cell?_of_block e
  have f : ∀ j, w'.frozen? ⟨b, j, none⟩ = w.frozen? ⟨b, j, none⟩ := fun j => World.frozen?_of_block e
  exact ⟨(c _).trans h.c0, (c _).trans h.c1, (c _).trans h.c2, (c _).trans h.c3, (f _).trans h.f1, (f _).trans h.f2, (f _).trans h.f3⟩
theorem Trees.rdr {b : Nat} {w W W' : World} {v : Value} {l : List Rv} {s : ByteArray} {k g o : Nat} (t : Trees b w W v l) (hgrow : W.grownBy W' v.ownBlock) (h : Rdr b W s k g o) : Rdr b W' s k g o :=
  h.of_block (hgrow.block b h.lt (fun e => by have := (t.row.lt b e.symm).1; have := t.hb; omega))
/-- How a row's loop stands. -/
def LoopR (pc : Rd) (b : Nat) (w : World) (s : ByteArray) (o : Nat) (R : Ro (List Re)) (v : Value) (wr : World) : Prop :=
  ∃ (k g : Nat) (l : List Rv), k ≤ s.size ∧ g ≤ k ∧ l.length ≤ k ∧ rowL pc s.data.toList k g (l.map (·.1)) = R ∧ Rdr b wr s k g o ∧ Trees b w wr v l
theorem rd_zero {b : Nat} {w w' : World} (v : Value) (l : List Rv) (t : Trees b w w' v l) : Box9 w' w.heap.size (.int .i64 0) (.int .u64 0) (.int .u64 0) (.int .u64 0) (.int .u64 0) (.slice none 0 0) (.int .i64 0) (.int .i64 0) (.int .i64 0) := t.res
theorem Trees.whole1 {b : Nat} {w W : World} {l : List Rv} {A : Option Addr} {n c : Nat} (t : Trees b w W (.slice A n c) l) (k : Int) (S : S4) (lo hi m : Int) : Kids (Fr (w.heap.size + 1) W.heap.size) W A (.mk k S (l.map (·.1)) lo hi m) := by
  rw [Kids]
  cases hl : l with
  | nil => exact .inl rfl
  | cons x r =>
    right
    rcases t.row.2 with ⟨_, h0⟩ | ⟨g, cap, cur, hv, hb, hg, _⟩
    · rw [hl] at h0; simp at h0
    · injection hv with hA h2 h3
      subst hA h2 h3
      have hlt := (t.row.lt g rfl)
      rw [← hl]
      refine ⟨_, rfl, hlt, kidsL_all l 0 fun j x hx => ?_⟩
      rw [Nat.zero_add]
      exact ⟨t.at_ hx, kids_of (fun _ _ => rfl) (fun k hk => ⟨hk.1, hk.2.1⟩) _ _ (t.kids x (List.mem_of_getElem? hx))⟩
set_option maxRecDepth 100000 in
set_option maxHeartbeats 8000000 in
theorem row_any (s : ByteArray) (o : Nat) (pc : Rd) (hs : s.size ≤ 200) (hpc : RdC 50 s o pc) (hsane : Sane s pc) : RdEC 37 s o (rowOf pc s.data.toList) := by
  intro b w k0 g0 h hk0 hgk0
  obtain ⟨Q, hQ⟩ : ∃ Q, Q = rowOf pc s.data.toList k0 g0 := ⟨_, rfl⟩
  rw [← hQ]
  unfold rowOf at hQ
  obtain ⟨R, hR⟩ : ∃ R, R = rowL pc s.data.toList k0 g0 [] := ⟨_, rfl⟩
  rw [← hR] at hQ
  have HQ := Lib.hid hQ
  have HR0 := Lib.hid hR.symm
  have hb := Lib.hid h.lt
  have HR := Lib.hid (h.below (one_box w (.cells #[.int .i64 0, .int .u64 0, .int .u64 0, .int .u64 0, .int .u64 0, .slice none 0 0, .int .i64 0, .int .i64 0, .int .i64 0] 27)))
  have HT := Lib.hid (Trees.start h.lt)
  have hsz : s.data.toList.length = s.size := rfl
  have HSZ := Lib.hid hsz
  obtain ⟨i0, hi0, hz0, hz1, hz2⟩ := info_parts info27
  clear h hQ hR hsz
  go_enter Tryd.func37, Tryd.ntmps37
  go_wp2
  go_loopw [4] (fun v wr => LoopR pc b w s o R v wr) (fun _ wr => gas b s.size wr)
  case atStart => exact ⟨k0, g0, [], hk0, hgk0, by simp, HR0.out, HR.out, HT.out⟩
  case round =>
    clear HR HT
    obtain ⟨k, g, l, hk, hgk, hlk, hg, hr, ht⟩ := hrel
    obtain ⟨A, c, rfl⟩ := row_slice ht.row
    have HG := Lib.hid hg
    have HR := Lib.hid hr
    have HT := Lib.hid ht
    obtain ⟨c0, c1, _, _, _, _, _⟩ := hr
    clear hg ht
    by_cases a : k < s.size
    · have hst := stops_see a
      cases hv : seesB s k [124, 41] with
      | true =>
        have KS := Lib.hid (see_set looksS b g o hv)
        rw [hv] at hst
        have HX : Hid (Q = .ok (mkRow (l.map (·.1))) k g) := Lib.hid (by rw [HQ.out, ← HG.out, rowL_end hst])
        clear hst hv
        go_wp2
        go_quiet ((go_at_call 49; with_reducible exact Calls.quiet_of (KS.out _ (HR.out.drews _))))
        have HR' := Lib.hid (HR.out.drews nq)
        have HT' := Lib.hid (HT.out.next (grown_drews b nq _))
        obtain ⟨d0, d1, d2, d3, d4, d5, d6, d7, d8, _⟩ := HT'.out.res; obtain ⟨e0, e1, e2, e3, e4, e5, e6, e7, e8⟩ := Box9.freed HT'.out.res
        rcases l with _ | ⟨x, _ | ⟨y, r⟩⟩
        · go_wp2
          obtain ⟨W3, hW3, hbx, hr, hgw⟩ := endT (.int .i64 0) (.int .u64 0) (.int .u64 0) (.int .u64 0) (.int .u64 0) (.slice none 0 0) (.int .i64 0) (.int .i64 0) (.int .i64 0) hb.out HR'.out HT'.out.grown HT'.out.res
          unfold put9 at hW3
          rw [← hW3]
          obtain ⟨l0, l1, l2, l3, l4, l5, l6, l7, l8, _⟩ := hbx
          exact bodyPost_ret (v := .tuple #[.agg #[.int .i64 0, .int .u64 0, .int .u64 0, .int .u64 0, .int .u64 0, .slice none 0 0, .int .i64 0, .int .i64 0, .int .i64 0], .int .i64 0]) (by simp [results, Tryd.results37, go_sem, l0, l1, l2, l3, l4, l5, l6, l7, l8]) rfl (postt_ok HX.out none 0 (by rfl) (Kids.leaf _ _ _ _ _ _ _ _) hgk hr hgw)
        · obtain ⟨gx, cap, hv, _, hgx⟩ := HT'.out.row.form (by simp)
          injection hv with hA _ hc
          subst hA hc
          obtain ⟨⟨kx, S, ks, lo, hi, n⟩, A', c'⟩ := x
          obtain ⟨x0, x1, x2, x3, x4, x5, x6, x7, x8⟩ := at9_zero (HT'.out.at_ (i := 0) rfl)
          clear hgx
          go_wp2
          obtain ⟨W3, hW3, hbx, hr, hgw⟩ := endT (.int .i64 kx) (.int .u64 S.1.toNat) (.int .u64 S.2.1.toNat) (.int .u64 S.2.2.1.toNat) (.int .u64 S.2.2.2.toNat) (.slice A' ks.length c') (.int .i64 lo) (.int .i64 hi) (.int .i64 n) hb.out HR'.out HT'.out.grown HT'.out.res
          have KK : Kids (Fr w.heap.size W3.heap.size) W3 A' (.mk kx S ks lo hi n) := by
            have hs2 := congrArg (fun W => W.heap.size) hW3
            simp only [size_put9] at hs2
            rw [hs2, hW3]
            have hk1 := kids_of (Q := Fr (w.heap.size + 1) (World.drewN _ nq).heap.size) (fun _ _ => rfl) (fun k hk => ⟨hk.1, hk.2.1⟩) _ _ (HT'.out.kids (Re.mk kx S ks lo hi n, A', c') (by simp))
            exact (hk1.put9 (.inl (by omega)) _ _ _ _ _ _ _ _ _).wide (by omega) (Nat.le_refl _)
          unfold put9 at hW3
          rw [← hW3]
          obtain ⟨l0, l1, l2, l3, l4, l5, l6, l7, l8, _⟩ := hbx
          exact bodyPost_ret (v := .tuple #[.agg #[.int .i64 kx, .int .u64 S.1.toNat, .int .u64 S.2.1.toNat, .int .u64 S.2.2.1.toNat, .int .u64 S.2.2.2.toNat, .slice A' ks.length c', .int .i64 lo, .int .i64 hi, .int .i64 n], .int .i64 0]) (by simp [results, Tryd.results37, go_sem, l0, l1, l2, l3, l4, l5, l6, l7, l8]) rfl (postt_ok HX.out A' c' (by rfl) KK hgk hr hgw)
        · obtain ⟨m, hm⟩ : ∃ m, m = (x :: y :: r).length := ⟨_, rfl⟩
          rw [← hm] at HT'
          rw [← hm]
          have hm2 : 2 ≤ m := by rw [hm]; simp
          have m0 : ((m : Int) == 0) = false := by simp; omega
          have m1 : ((m : Int) == 1) = false := by simp; omega
          have HM := Lib.hid hm
          clear hm
          go_wp2
          obtain ⟨W3, hW3, hbx, hr, hgw⟩ := endT (.int .i64 4) (.int .u64 0) (.int .u64 0) (.int .u64 0) (.int .u64 0) (.slice A m c) (.int .i64 0) (.int .i64 0) (.int .i64 0) hb.out HR'.out HT'.out.grown HT'.out.res
          have KK : Kids (Fr w.heap.size W3.heap.size) W3 A (mkRow ((x :: y :: r).map (·.1))) := by
            have hs2 := congrArg (fun W => W.heap.size) hW3
            simp only [size_put9] at hs2
            rw [hs2, hW3]
            have hk1 := HT'.out.whole1 4 none4 0 0 0
            exact (hk1.put9 (.inl (by omega)) _ _ _ _ _ _ _ _ _).wide (by omega) (Nat.le_refl _)
          unfold put9 at hW3
          rw [← hW3]
          obtain ⟨l0, l1, l2, l3, l4, l5, l6, l7, l8, _⟩ := hbx
          have hval : Value.tuple #[.agg #[.int .i64 4, .int .u64 0, .int .u64 0, .int .u64 0, .int .u64 0, .slice A m c, .int .i64 0, .int .i64 0, .int .i64 0], .int .i64 0] = .tuple #[valR (mkRow ((x :: y :: r).map (·.1))) A c, .int .i64 0] := by rw [HM.out]; show _ = Value.tuple #[.agg #[.int .i64 4, .int .u64 0, .int .u64 0, .int .u64 0, .int .u64 0, .slice A (r.map (·.1)).length.succ.succ c, .int .i64 0, .int .i64 0, .int .i64 0], .int .i64 0]; rw [List.length_map]; rfl
          exact bodyPost_ret (v := .tuple #[.agg #[.int .i64 4, .int .u64 0, .int .u64 0, .int .u64 0, .int .u64 0, .slice A m c, .int .i64 0, .int .i64 0, .int .i64 0], .int .i64 0]) (by simp [results, Tryd.results37, go_sem, l0, l1, l2, l3, l4, l5, l6, l7, l8]) rfl (postt_ok HX.out A c hval KK hgk hr hgw)
      | false =>
        have KS := Lib.hid (see_set looksS b g o hv)
        rw [hv] at hst
        obtain ⟨sa1, sa2⟩ := hsane k g a hgk
        rcases hp : pc k g with ⟨q, er⟩ | ⟨x, q, g'⟩
        · have KP := Lib.hid (tree_bad hpc b a hgk hp)
          have her := sa1 q er hp
          have er0 : (er == 0) = false := by rcases her with rfl | rfl <;> rfl
          have er0' : ¬ er = 0 := by omega
          have HX : Hid (Q = .bad q er) := Lib.hid (by rw [HQ.out, ← HG.out, rowL_bad hst hp])
          have HER := Lib.hid her
          clear hst hp sa1 sa2 her hv
          go_wp2
          go_quiet ((go_at_call 49; with_reducible exact Calls.quiet_of (KS.out _ (HR.out.drews _))))
          have HR' := Lib.hid (HR.out.drews nq)
          have HT' := Lib.hid (HT.out.next (grown_drews b nq _))
          go_wp2_with (go_at_call 50; (with_reducible refine (KP.out _ HR'.out).mono ?_); go_must (rintro _ wv ⟨⟨⟨kx, S, ks, lo, hi, n⟩, A', c', he⟩, ⟨g2, hr1⟩, hg1⟩; have he2 : _ = Ending.returned (.tuple #[.agg #[.int .i64 kx, .int .u64 S.1.toNat, .int .u64 S.2.1.toNat, .int .u64 S.2.2.1.toNat, .int .u64 S.2.2.2.toNat, .slice A' ks.length c', .int .i64 lo, .int .i64 hi, .int .i64 n], .int .i64 er]) := he; clear he; subst he2; have ht1 := (HT'.out.next hg1).next (grown_below (one_box wv (.cells #[.int .i64 kx, .int .u64 S.1.toNat, .int .u64 S.2.1.toNat, .int .u64 S.2.2.1.toNat, .int .u64 S.2.2.2.toNat, .slice A' ks.length c', .int .i64 lo, .int .i64 hi, .int .i64 n] 27))); have HR1 := Lib.hid (hr1.below (one_box wv (.cells #[.int .i64 kx, .int .u64 S.1.toNat, .int .u64 S.2.1.toNat, .int .u64 S.2.2.1.toNat, .int .u64 S.2.2.2.toNat, .slice A' ks.length c', .int .i64 lo, .int .i64 hi, .int .i64 n] 27))); obtain ⟨d0, d1, d2, d3, d4, d5, d6, d7, d8, _⟩ := ht1.res; obtain ⟨e0, e1, e2, e3, e4, e5, e6, e7, e8⟩ := Box9.freed ht1.res; have HT1 := Lib.hid ht1; clear ht1 hg1 hr1))
          obtain ⟨W3, hW3, hbx, hr, hgw⟩ := endT (.int .i64 0) (.int .u64 0) (.int .u64 0) (.int .u64 0) (.int .u64 0) (.slice none 0 0) (.int .i64 0) (.int .i64 0) (.int .i64 0) hb.out HR1.out HT1.out.grown HT1.out.res
          unfold put9 at hW3
          rw [← hW3]
          obtain ⟨l0, l1, l2, l3, l4, l5, l6, l7, l8, _⟩ := hbx
          exact bodyPost_ret (v := .tuple #[.agg #[.int .i64 0, .int .u64 0, .int .u64 0, .int .u64 0, .int .u64 0, .slice none 0 0, .int .i64 0, .int .i64 0, .int .i64 0], .int .i64 er]) (by simp [results, Tryd.results37, go_sem, l0, l1, l2, l3, l4, l5, l6, l7, l8]) rfl (postt_bad HX.out (mkRow []) none 0 (by rfl) HER.out hr hgw)
        · obtain ⟨kx, S, ks, lo, hi, n⟩ := x
          have KP := Lib.hid (tree_ok hpc b a hgk hp)
          obtain ⟨hq1, hq2, hq3⟩ := sa2 _ q g' hp
          have HX : Hid (rowL pc s.data.toList q g' (l.map (·.1) ++ [.mk kx S ks lo hi n]) = R) := Lib.hid (by rw [← HG.out, rowL_ok hst hp ⟨hq1, by rw [HSZ.out]; exact hq2⟩])
          have HQ3 := Lib.hid (And.intro hq1 (And.intro hq2 hq3))
          clear hst hp sa1 sa2 hv hq1 hq2 hq3
          go_wp2
          go_quiet ((go_at_call 49; with_reducible exact Calls.quiet_of (KS.out _ (HR.out.drews _))))
          have HR' := Lib.hid (HR.out.drews nq)
          have HT' := Lib.hid (HT.out.next (grown_drews b nq _))
          go_wp2_with (first | (go_at_call 50; (with_reducible refine (KP.out _ HR'.out).mono ?_); go_must (rintro _ wv ⟨⟨A', c', he, hkid⟩, hr1, hg1⟩; have he2 : _ = Ending.returned (.tuple #[.agg #[.int .i64 kx, .int .u64 S.1.toNat, .int .u64 S.2.1.toNat, .int .u64 S.2.2.1.toNat, .int .u64 S.2.2.2.toNat, .slice A' ks.length c', .int .i64 lo, .int .i64 hi, .int .i64 n], .int .i64 0]) := he; clear he; subst he2; have ha1 := grown_below (b := b) (one_box wv (.cells #[.int .i64 kx, .int .u64 S.1.toNat, .int .u64 S.2.1.toNat, .int .u64 S.2.2.1.toNat, .int .u64 S.2.2.2.toNat, .slice A' ks.length c', .int .i64 lo, .int .i64 hi, .int .i64 n] 27)); have ha2 := grown_below (b := b) (one_box (wv.alloc (.cells #[.int .i64 kx, .int .u64 S.1.toNat, .int .u64 S.2.1.toNat, .int .u64 S.2.2.1.toNat, .int .u64 S.2.2.2.toNat, .slice A' ks.length c', .int .i64 lo, .int .i64 hi, .int .i64 n] 27)) (.cells #[.int .i64 kx, .int .u64 S.1.toNat, .int .u64 S.2.1.toNat, .int .u64 S.2.2.1.toNat, .int .u64 S.2.2.2.toNat, .slice A' ks.length c', .int .i64 lo, .int .i64 hi, .int .i64 n] 27)); have HR1 := Lib.hid ((hr1.below (one_box wv (.cells #[.int .i64 kx, .int .u64 S.1.toNat, .int .u64 S.2.1.toNat, .int .u64 S.2.2.1.toNat, .int .u64 S.2.2.2.toNat, .slice A' ks.length c', .int .i64 lo, .int .i64 hi, .int .i64 n] 27))).below (one_box (wv.alloc (.cells #[.int .i64 kx, .int .u64 S.1.toNat, .int .u64 S.2.1.toNat, .int .u64 S.2.2.1.toNat, .int .u64 S.2.2.2.toNat, .slice A' ks.length c', .int .i64 lo, .int .i64 hi, .int .i64 n] 27)) (.cells #[.int .i64 kx, .int .u64 S.1.toNat, .int .u64 S.2.1.toNat, .int .u64 S.2.2.1.toNat, .int .u64 S.2.2.2.toNat, .slice A' ks.length c', .int .i64 lo, .int .i64 hi, .int .i64 n] 27))); have HT1 := Lib.hid (((HT'.out.next hg1).next ha1).next ha2); have hlo := HT'.out.hb; have hlb := HT'.out.base; have HK1 := Lib.hid (HT'.out.fresh ((hkid.grownF ha1 (.inl (by omega)) (Nat.le_refl _)).grownF ha2 (.inl (by omega)) (by simp)) (by simp; omega)); obtain ⟨p0, p1, p2, p3, p4, p5, p6, p7, p8, _⟩ := Box9.new wv (.int .i64 kx) (.int .u64 S.1.toNat) (.int .u64 S.2.1.toNat) (.int .u64 S.2.2.1.toNat) (.int .u64 S.2.2.2.toNat) (.slice A' ks.length c') (.int .i64 lo) (.int .i64 hi) (.int .i64 n); clear ha1 ha2 hg1 hr1 hkid hlo hlb)) | (at_builtin; refine wpList_append_lies _ rfl (.tmp 31) (.tmp 33) 25 rfl (w.heap.size + 1) 27 i0 (.agg #[.int .i64 0, .int .u64 0, .int .u64 0, .int .u64 0, .int .u64 0, .slice none 0 0, .int .i64 0, .int .i64 0, .int .i64 0]) 9 88 Tryd.underlying25 hi0 hz0 hz1 hz2 rfl (by decide) _ _ _ rfl HT1.out.row ⟨wv.heap.size + 1, 0, none⟩ 1 1 [.int .i64 kx, .int .u64 S.1.toNat, .int .u64 S.2.1.toNat, .int .u64 S.2.2.1.toNat, .int .u64 S.2.2.2.toNat, .slice A' ks.length c', .int .i64 lo, .int .i64 hi, .int .i64 n] rfl rfl (fun j u hu => new_cells2 wv (.cells #[.int .i64 kx, .int .u64 S.1.toNat, .int .u64 S.2.1.toNat, .int .u64 S.2.2.1.toNat, .int .u64 S.2.2.2.toNat, .slice A' ks.length c', .int .i64 lo, .int .i64 hi, .int .i64 n] 27) 27 #[.int .i64 kx, .int .u64 S.1.toNat, .int .u64 S.2.1.toNat, .int .u64 S.2.2.1.toNat, .int .u64 S.2.2.2.toNat, .slice A' ks.length c', .int .i64 lo, .int .i64 hi, .int .i64 n] j u hu) (cellsT_one (.mk kx S ks lo hi n) A' c') (by omega) (by unfold maxLen; omega) (by omega) HT1.out.base _ rfl ?_; intro g3 cap3 w3 hown' hgrow hat hlt))
          go_roundw
          case rel =>
            refine ⟨q, g', l ++ [(.mk kx S ks lo hi n, A', c')], HQ3.out.2.1, HQ3.out.2.2, by rw [List.length_append]; have := HQ3.out.1; simp; omega, ?_, HT1.out.rdr hgrow HR1.out, HT1.out.push (x := (.mk kx S ks lo hi n, A', c')) HK1.out hown' hgrow hat (HT1.out.grow hgrow)⟩
            rw [List.map_append]
            exact HX.out
          case measure =>
            have h3 := HT1.out.rdr hgrow HR1.out
            rw [gas_is h3, gas_is HR.out]
            have := HQ3.out; omega
    · have b1 : decide ((k : Int) < (s.size : Int)) = false := by simp; omega
      have b2 : decide (k < s.size) = false := by simp; omega
      have hst : stops s.data.toList k = true := by unfold stops; rw [get_end s k a]
      have HX : Hid (Q = .ok (mkRow (l.map (·.1))) k g) := Lib.hid (by rw [HQ.out, ← HG.out, rowL_end hst])
      clear hst
      go_wp2
      go_quiet (fail)
      have HR' := Lib.hid (HR.out.drews nq)
      have HT' := Lib.hid (HT.out.next (grown_drews b nq _))
      obtain ⟨d0, d1, d2, d3, d4, d5, d6, d7, d8, _⟩ := HT'.out.res; obtain ⟨e0, e1, e2, e3, e4, e5, e6, e7, e8⟩ := Box9.freed HT'.out.res
      rcases l with _ | ⟨x, _ | ⟨y, r⟩⟩
      · go_wp2
        obtain ⟨W3, hW3, hbx, hr, hgw⟩ := endT (.int .i64 0) (.int .u64 0) (.int .u64 0) (.int .u64 0) (.int .u64 0) (.slice none 0 0) (.int .i64 0) (.int .i64 0) (.int .i64 0) hb.out HR'.out HT'.out.grown HT'.out.res
        unfold put9 at hW3
        rw [← hW3]
        obtain ⟨l0, l1, l2, l3, l4, l5, l6, l7, l8, _⟩ := hbx
        exact bodyPost_ret (v := .tuple #[.agg #[.int .i64 0, .int .u64 0, .int .u64 0, .int .u64 0, .int .u64 0, .slice none 0 0, .int .i64 0, .int .i64 0, .int .i64 0], .int .i64 0]) (by simp [results, Tryd.results37, go_sem, l0, l1, l2, l3, l4, l5, l6, l7, l8]) rfl (postt_ok HX.out none 0 (by rfl) (Kids.leaf _ _ _ _ _ _ _ _) hgk hr hgw)
      · obtain ⟨gx, cap, hv, _, hgx⟩ := HT'.out.row.form (by simp)
        injection hv with hA _ hc
        subst hA hc
        obtain ⟨⟨kx, S, ks, lo, hi, n⟩, A', c'⟩ := x
        obtain ⟨x0, x1, x2, x3, x4, x5, x6, x7, x8⟩ := at9_zero (HT'.out.at_ (i := 0) rfl)
        clear hgx
        go_wp2
        obtain ⟨W3, hW3, hbx, hr, hgw⟩ := endT (.int .i64 kx) (.int .u64 S.1.toNat) (.int .u64 S.2.1.toNat) (.int .u64 S.2.2.1.toNat) (.int .u64 S.2.2.2.toNat) (.slice A' ks.length c') (.int .i64 lo) (.int .i64 hi) (.int .i64 n) hb.out HR'.out HT'.out.grown HT'.out.res
        have KK : Kids (Fr w.heap.size W3.heap.size) W3 A' (.mk kx S ks lo hi n) := by
          have hs2 := congrArg (fun W => W.heap.size) hW3
          simp only [size_put9] at hs2
          rw [hs2, hW3]
          have hk1 := kids_of (Q := Fr (w.heap.size + 1) (World.drewN _ nq).heap.size) (fun _ _ => rfl) (fun k hk => ⟨hk.1, hk.2.1⟩) _ _ (HT'.out.kids (Re.mk kx S ks lo hi n, A', c') (by simp))
          exact (hk1.put9 (.inl (by omega)) _ _ _ _ _ _ _ _ _).wide (by omega) (Nat.le_refl _)
        unfold put9 at hW3
        rw [← hW3]
        obtain ⟨l0, l1, l2, l3, l4, l5, l6, l7, l8, _⟩ := hbx
        exact bodyPost_ret (v := .tuple #[.agg #[.int .i64 kx, .int .u64 S.1.toNat, .int .u64 S.2.1.toNat, .int .u64 S.2.2.1.toNat, .int .u64 S.2.2.2.toNat, .slice A' ks.length c', .int .i64 lo, .int .i64 hi, .int .i64 n], .int .i64 0]) (by simp [results, Tryd.results37, go_sem, l0, l1, l2, l3, l4, l5, l6, l7, l8]) rfl (postt_ok HX.out A' c' (by rfl) KK hgk hr hgw)
      · obtain ⟨m, hm⟩ : ∃ m, m = (x :: y :: r).length := ⟨_, rfl⟩
        rw [← hm] at HT'
        rw [← hm]
        have hm2 : 2 ≤ m := by rw [hm]; simp
        have m0 : ((m : Int) == 0) = false := by simp; omega
        have m1 : ((m : Int) == 1) = false := by simp; omega
        have HM := Lib.hid hm
        clear hm
        go_wp2
        obtain ⟨W3, hW3, hbx, hr, hgw⟩ := endT (.int .i64 4) (.int .u64 0) (.int .u64 0) (.int .u64 0) (.int .u64 0) (.slice A m c) (.int .i64 0) (.int .i64 0) (.int .i64 0) hb.out HR'.out HT'.out.grown HT'.out.res
        have KK : Kids (Fr w.heap.size W3.heap.size) W3 A (mkRow ((x :: y :: r).map (·.1))) := by
          have hs2 := congrArg (fun W => W.heap.size) hW3
          simp only [size_put9] at hs2
          rw [hs2, hW3]
          have hk1 := HT'.out.whole1 4 none4 0 0 0
          exact (hk1.put9 (.inl (by omega)) _ _ _ _ _ _ _ _ _).wide (by omega) (Nat.le_refl _)
        unfold put9 at hW3
        rw [← hW3]
        obtain ⟨l0, l1, l2, l3, l4, l5, l6, l7, l8, _⟩ := hbx
        have hval : Value.tuple #[.agg #[.int .i64 4, .int .u64 0, .int .u64 0, .int .u64 0, .int .u64 0, .slice A m c, .int .i64 0, .int .i64 0, .int .i64 0], .int .i64 0] = .tuple #[valR (mkRow ((x :: y :: r).map (·.1))) A c, .int .i64 0] := by rw [HM.out]; show _ = Value.tuple #[.agg #[.int .i64 4, .int .u64 0, .int .u64 0, .int .u64 0, .int .u64 0, .slice A (r.map (·.1)).length.succ.succ c, .int .i64 0, .int .i64 0, .int .i64 0], .int .i64 0]; rw [List.length_map]; rfl
        exact bodyPost_ret (v := .tuple #[.agg #[.int .i64 4, .int .u64 0, .int .u64 0, .int .u64 0, .int .u64 0, .slice A m c, .int .i64 0, .int .i64 0, .int .i64 0], .int .i64 0]) (by simp [results, Tryd.results37, go_sem, l0, l1, l2, l3, l4, l5, l6, l7, l8]) rfl (postt_ok HX.out A c hval KK hgk hr hgw)
end Go.Proofs.YtccheljfbjllhaaDoor
