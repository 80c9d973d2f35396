/- The document's own reader: a set. -/
import Derived.Test.YtccheljfbjllhaaDoorD2
import Derived.Deep.RegionHeld3
namespace Go.Proofs.YtccheljfbjllhaaDoor
open Go Go.RowKit

theorem goS_count {s : Bs} {k : Nat} (acc : List Sp) (hk : k ≤ s.length) : match goS s k acc with
    | .bad _ => True
    | .ok l q => l.length + k ≤ acc.length + q := by
  refine goS_ind (s := s) (fun k acc => match goS s k acc with
    | .bad _ => True
    | .ok l q => l.length + k ≤ acc.length + q) ?_ ?_ ?_ (s.length - k + 1) k acc (by omega) hk
  · intro k acc h h1
    rw [goS_end h h1]; dsimp only; omega
  · intro k q acc hk he hi
    rw [goS_bad he hi]; trivial
  · intro k q acc sp hk he hi ih
    obtain ⟨a, b⟩ := item_ok hk hi
    rw [goS_ok he hk hi]
    rcases hg : goS s q (acc ++ [sp]) with q' | ⟨l, q'⟩
    · trivial
    · rw [hg] at ih; dsimp only at ih ⊢; rw [List.length_append] at ih; simp at ih; omega
theorem rds_of_row {B : Nat} {w0 w : World} {A : Option Addr} {n c : Nat} {l : List Sp} (h : RowS B w0 w (.slice A n c) l) : RdS w.heap.size w A l := fun hn => by
  rcases h.row.2 with ⟨e, h0⟩ | ⟨g, cap, cur, e, _, hg, _⟩
  · omega
  · injection e with e1 e2 e3
    subst e1 e2 e3
    exact ⟨_, rfl, (Array.getElem?_eq_some_iff.1 hg).1, fun j u hu => h.row.cells (g := g) rfl j u hu⟩
theorem rds_set {B : Nat} {w0 w : World} {A : Option Addr} {n c b : Nat} {l : List Sp} (h : RowS B w0 w (.slice A n c) l) (hb : b < B) (u : Value) : RdS (w.setCell ⟨b, 1, none⟩ u).heap.size (w.setCell ⟨b, 1, none⟩ u) A l := fun hn => by
  have hrow := ownsRow_setCell_below h.row (a := ⟨b, 1, none⟩) hb u
  rcases hrow.2 with ⟨e, h0⟩ | ⟨g, cap, cur, e, _, hg, _⟩
  · omega
  · injection e with e1 e2 e3
    subst e1 e2 e3
    exact ⟨_, rfl, (Array.getElem?_eq_some_iff.1 hg).1, fun j u hu => hrow.cells (g := g) rfl j u hu⟩
/-- The items, as the document reads them: what is told, and where they lie. -/
abbrev SpT (s : ByteArray) (k : Nat) (l : List Sp) (zn zb : Int) : Prop := ∀ (z : Int) (w : World), z = k → Calls Tryd.prog 77 #[.string s, .int .i64 z] w fun e w' => ∃ A n c, e = .returned (.tuple #[.slice A n c, .int .i64 zn, .int .i64 zb]) ∧ n = l.length ∧ (∀ b u, b < w.heap.size → RdS (w'.setCell ⟨b, 1, none⟩ u).heap.size (w'.setCell ⟨b, 1, none⟩ u) A l) ∧ Below w.heap.size w w'
theorem sp_t (s : ByteArray) (k : Nat) (hk : k ≤ s.size) (hs : s.size ≤ 1000000) {R : Res (List Sp)} (hR : goS s.data.toList k [] = R) : SpT s k (lstS R) (nxtS R) (badS R) := fun z w hz => by
  subst hz hR
  refine (rspans_any s k hk hs w).mono fun e w' ⟨v, h1, h2⟩ => ?_
  obtain ⟨A, c, rfl⟩ := row_slice h2.row
  exact ⟨A, _, c, h1, rfl, fun b u hb => rds_set h2 hb u, h2.below⟩
abbrev OfT (l : List Sp) (no : Bool) (A : Option Addr) (n c : Nat) (W : World) : Prop := ∀ w, Below W.heap.size W w → Calls Tryd.prog 68 #[.slice A n c, .bool no] w fun e w' => e = .returned (.agg #[.int .u64 (ofS l no).1.toNat, .int .u64 (ofS l no).2.1.toNat, .int .u64 (ofS l no).2.2.1.toNat, .int .u64 (ofS l no).2.2.2.toNat]) ∧ Below w.heap.size w w'
theorem of_t (l : List Sp) (no : Bool) (A : Option Addr) (n c : Nat) (W : World) (hn : n = l.length) (hr : RdS W.heap.size W A l) (hm : l.length ≤ 1000000) : OfT l no A n c W := fun w hb => by
  subst hn
  exact of_any A c l no w ((hr.keep hb).up hb.size) hm
def PostK (b : Nat) (w : World) (s : ByteArray) (g : Nat) (R : Res S4) (e : Ending) (w' : World) : Prop := w.grownBy w' (some b) ∧ match R with
  | .bad q => e = .returned (.agg #[.int .i64 0, .int .u64 0, .int .u64 0, .int .u64 0, .int .u64 0, .slice none 0 0, .int .i64 0, .int .i64 0, .int .i64 0]) ∧ Rdr b w' s q g 1
  | .ok S q => e = .returned (valR (rSet S) none 0) ∧ Rdr b w' s q g 0
theorem postk_bad {b : Nat} {w w' : World} {s : ByteArray} {g q : Nat} {R : Res S4} (h : R = .bad q) (hr : Rdr b w' s q g 1) (hg : w.grownBy w' (some b)) : PostK b w s g R (.returned (.agg #[.int .i64 0, .int .u64 0, .int .u64 0, .int .u64 0, .int .u64 0, .slice none 0 0, .int .i64 0, .int .i64 0, .int .i64 0])) w' := by subst h; exact ⟨hg, rfl, hr⟩
theorem postk_ok {b : Nat} {w w' : World} {s : ByteArray} {g q : Nat} {S : S4} {R : Res S4} (h : R = .ok S q) (hr : Rdr b w' s q g 0) (hg : w.grownBy w' (some b)) : PostK b w s g R (.returned (.agg #[.int .i64 1, .int .u64 S.1.toNat, .int .u64 S.2.1.toNat, .int .u64 S.2.2.1.toNat, .int .u64 S.2.2.2.toNat, .slice none 0 0, .int .i64 0, .int .i64 0, .int .i64 0])) w' := by subst h; exact ⟨hg, rfl, hr⟩
theorem Rdr.low {b : Nat} {w w' : World} {s : ByteArray} {k g o : Nat} (h : Rdr b w s k g o) (hb : Below w.heap.size w w') : Rdr b w' s k g o := h.below hb
theorem drew_low (w : World) : Below w.heap.size w w.drew := (Below.refl _ _).drew
theorem Box9.low {w w' : World} {c : Nat} {v0 v1 v2 v3 v4 v5 v6 v7 v8 : Value} (h : Box9 w c v0 v1 v2 v3 v4 v5 v6 v7 v8) (hb : Below w.heap.size w w') : Box9 w' c v0 v1 v2 v3 v4 v5 v6 v7 v8 := h.grown (b := c + 1) (grown_below hb) (by omega)
set_option maxRecDepth 100000 in
set_option maxHeartbeats 4000000 in
theorem class_any (b : Nat) (w : World) (s : ByteArray) (k g : Nat) (h : Rdr b w s k g 0) (hs : s.size ≤ 1000000) (hk : k ≤ s.size) :
    Calls Tryd.prog 67 #[.pointer (some ⟨b, 0, none⟩)] w (PostK b w s g (cls s.data.toList k)) := by
  obtain ⟨R, hR⟩ : ∃ R, R = cls s.data.toList k := ⟨_, rfl⟩
  rw [← hR]
  unfold cls at hR
  have hsz : s.data.toList.length = s.size := rfl
  have hb := Lib.hid h.lt
  have HR := Lib.hid (h.low (one_box w (.cells #[.int .i64 0, .int .u64 0, .int .u64 0, .int .u64 0, .int .u64 0, .slice none 0 0, .int .i64 0, .int .i64 0, .int .i64 0] 27)))
  have HG : Hid (w.grownBy (w.alloc (.cells #[.int .i64 0, .int .u64 0, .int .u64 0, .int .u64 0, .int .u64 0, .slice none 0 0, .int .i64 0, .int .i64 0, .int .i64 0] 27)) (some b)) := Lib.hid (grown_below (one_box w _))
  have HB := Lib.hid (Box9.new w (.int .i64 0) (.int .u64 0) (.int .u64 0) (.int .u64 0) (.int .u64 0) (.slice none 0 0) (.int .i64 0) (.int .i64 0) (.int .i64 0))
  obtain ⟨c0, c1, c2, c3, f1, f2, f3⟩ := HR.out
  obtain ⟨d0, d1, d2, d3, d4, d5, d6, d7, d8, _⟩ := HB.out; obtain ⟨e0, e1, e2, e3, e4, e5, e6, e7, e8⟩ := Box9.freed HB.out
  have hkb : (k : Int) ≤ 1000000 := by omega
  clear h
  by_cases h1 : s.data.toList[k]? = some 94
  · rw [if_pos h1] at hR
    have k1 := lt_of_get h1
    rw [hsz] at k1
    have KN := Lib.hid (is_t 94 94 rfl b s k g 0 (by omega) true (is_yes h1))
    have hcnt := goS_count (s := s.data.toList) (k := (k + 1)) [] (by rw [hsz]; omega)
    rcases hgo : goS s.data.toList (k + 1) [] with q | ⟨l, q⟩
    · have KS := Lib.hid (show SpT s (k + 1) [] (-1) q from sp_t s (k + 1) (by omega) hs hgo)
      rw [hgo] at hR hcnt
      have HX := Lib.hid hR
      have KF := Lib.hid (fail_new 1 1 rfl b s q g)
      clear hR hgo h1 hsz hcnt
      go_enter Tryd.func67, Tryd.ntmps67
      go_wp2_with (go_at_call 39; (with_reducible refine (Hid.out KN _ (Hid.out HR)).mono ?_); go_must (rintro _ wv ⟨he, hr1, hg1⟩; subst he; have hg2 := grown_trans (Hid.out HG) hg1; have hb2 := Box9.grown (Hid.out HB) hg1 (Nat.ne_of_gt (Hid.out hb)); clear HR; have HR := Lib.hid hr1; clear HG; have HG := Lib.hid hg2; clear HB; have HB := Lib.hid hb2; obtain ⟨c0, c1, c2, c3, f1, f2, f3⟩ := hr1; obtain ⟨d0, d1, d2, d3, d4, d5, d6, d7, d8, _⟩ := HB.out; obtain ⟨e0, e1, e2, e3, e4, e5, e6, e7, e8⟩ := Box9.freed HB.out; clear hg1 hg2 hb2))
      have HRD := Lib.hid (Rdr.low (Rdr.incz HR.out ((k : Int) + 1) rfl) (drew_low _))
      have HGD := Lib.hid (grown_trans (grown_trans HG.out (grown_set b 1 wv (.int .i64 ((k : Int) + 1)))) (grown_below (b := b) (drew_low _)))
      have HBD := Lib.hid (Box9.low (Box9.other HB.out (a := ⟨b, 1, none⟩) (Nat.ne_of_lt hb.out) (.int .i64 ((k : Int) + 1))) (drew_low _))
      obtain ⟨c0, c1, c2, c3, f1, f2, f3⟩ := (Rdr.incz HR.out ((k : Int) + 1) rfl)
      go_region_held3 (fun w' => w'.cell? ⟨b, 0, none⟩ = some (.string s) ∧ w'.cell? ⟨b, 1, none⟩ = some (.int .i64 ((k : Int) + 1)))
        (first | go_keep | exact ⟨c0, c1⟩)
        (first
          | (go_at_call 77; (with_reducible refine (KS.out _ _ ?_).mono ?_); (omega); go_must (rintro _ wq ⟨A1, n1, c1', he, hn1, hrd, hbl⟩; subst he; have hr1 := HRD.out.low hbl; have hb2 := HBD.out.low hbl; have hg2 := grown_trans HGD.out (grown_below hbl); clear HR; have HR := Lib.hid hr1; clear HG; have HG := Lib.hid hg2; clear HB; have HB := Lib.hid hb2; have HRDS := Lib.hid (hrd b (.int .i64 q) HRD.out.lt); have HN1 := Lib.hid hn1; clear hn1; obtain ⟨c0, c1, c2, c3, f1, f2, f3⟩ := hr1; obtain ⟨d0, d1, d2, d3, d4, d5, d6, d7, d8, _⟩ := HB.out; obtain ⟨e0, e1, e2, e3, e4, e5, e6, e7, e8⟩ := Box9.freed HB.out; clear hbl hg2 hb2 hrd)))
      go_wp2_with (go_at_call 25; (with_reducible refine (Hid.out KF _ (Rdr.at_ (Hid.out HR) q)).mono ?_); go_must (rintro _ wv ⟨he, hr1, hg1⟩; subst he; have hg2 := grown_trans (grown_trans (Hid.out HG) (grown_set b 1 _ _)) hg1; have hb2 := Box9.grown (Box9.other (Hid.out HB) (Nat.ne_of_lt (Hid.out hb)) _) hg1 (Nat.ne_of_gt (Hid.out hb)); clear HR; have HR := Lib.hid hr1; clear HG; have HG := Lib.hid hg2; clear HB; have HB := Lib.hid hb2; obtain ⟨c0, c1, c2, c3, f1, f2, f3⟩ := hr1; obtain ⟨d0, d1, d2, d3, d4, d5, d6, d7, d8, _⟩ := HB.out; obtain ⟨e0, e1, e2, e3, e4, e5, e6, e7, e8⟩ := Box9.freed HB.out; clear hg1 hg2 hb2))
      obtain ⟨W3, hW3, hbx, hr, hgw⟩ := endT (.int .i64 0) (.int .u64 0) (.int .u64 0) (.int .u64 0) (.int .u64 0) (.slice none 0 0) (.int .i64 0) (.int .i64 0) (.int .i64 0) hb.out HR.out HG.out HB.out
      unfold put9 at hW3
      rw [← hW3]
      obtain ⟨l0, l1, l2, l3, l4, l5, l6, l7, l8, _⟩ := hbx
      exact bodyPost_ret (v := .agg #[.int .i64 0, .int .u64 0, .int .u64 0, .int .u64 0, .int .u64 0, .slice none 0 0, .int .i64 0, .int .i64 0, .int .i64 0]) (by simp [results, Tryd.results67, go_sem, l0, l1, l2, l3, l4, l5, l6, l7, l8]) rfl (postk_bad HX.out hr hgw)
    · have KS := Lib.hid (show SpT s (k + 1) l q 0 from sp_t s (k + 1) (by omega) hs hgo)
      rw [hgo] at hR hcnt
      dsimp only at hR hcnt
      have hqb := (goS_okb (by rw [hsz]; omega) hgo).2.1
      rw [hsz] at hqb
      have hll : l.length ≤ 1000000 := by simp at hcnt; omega
      obtain ⟨S, hS⟩ : ∃ S, S = ofS l true := ⟨_, rfl⟩
      have HX : Hid (R = .ok S q) := Lib.hid (by rw [hR, hS, ofS_yes])
      have KO : Hid (∀ A n c W, n = l.length → RdS W.heap.size W A l → OfT l true A n c W) := Lib.hid fun A n c W h1 h2 => of_t l true A n c W h1 h2 hll
      have hq0 : ¬ (q : Int) < 0 := by omega
      simp only [OfT] at KO
      rw [← hS] at KO
      clear hR hgo h1 hsz hcnt hll hS
      go_enter Tryd.func67, Tryd.ntmps67
      go_wp2_with (go_at_call 39; (with_reducible refine (Hid.out KN _ (Hid.out HR)).mono ?_); go_must (rintro _ wv ⟨he, hr1, hg1⟩; subst he; have hg2 := grown_trans (Hid.out HG) hg1; have hb2 := Box9.grown (Hid.out HB) hg1 (Nat.ne_of_gt (Hid.out hb)); clear HR; have HR := Lib.hid hr1; clear HG; have HG := Lib.hid hg2; clear HB; have HB := Lib.hid hb2; obtain ⟨c0, c1, c2, c3, f1, f2, f3⟩ := hr1; obtain ⟨d0, d1, d2, d3, d4, d5, d6, d7, d8, _⟩ := HB.out; obtain ⟨e0, e1, e2, e3, e4, e5, e6, e7, e8⟩ := Box9.freed HB.out; clear hg1 hg2 hb2))
      have HRD := Lib.hid (Rdr.low (Rdr.incz HR.out ((k : Int) + 1) rfl) (drew_low _))
      have HGD := Lib.hid (grown_trans (grown_trans HG.out (grown_set b 1 wv (.int .i64 ((k : Int) + 1)))) (grown_below (b := b) (drew_low _)))
      have HBD := Lib.hid (Box9.low (Box9.other HB.out (a := ⟨b, 1, none⟩) (Nat.ne_of_lt hb.out) (.int .i64 ((k : Int) + 1))) (drew_low _))
      obtain ⟨c0, c1, c2, c3, f1, f2, f3⟩ := (Rdr.incz HR.out ((k : Int) + 1) rfl)
      go_region_held3 (fun w' => w'.cell? ⟨b, 0, none⟩ = some (.string s) ∧ w'.cell? ⟨b, 1, none⟩ = some (.int .i64 ((k : Int) + 1)))
        (first | go_keep | exact ⟨c0, c1⟩)
        (first
          | (go_at_call 77; (with_reducible refine (KS.out _ _ ?_).mono ?_); (omega); go_must (rintro _ wq ⟨A1, n1, c1', he, hn1, hrd, hbl⟩; subst he; have hr1 := HRD.out.low hbl; have hb2 := HBD.out.low hbl; have hg2 := grown_trans HGD.out (grown_below hbl); clear HR; have HR := Lib.hid hr1; clear HG; have HG := Lib.hid hg2; clear HB; have HB := Lib.hid hb2; have HRDS := Lib.hid (hrd b (.int .i64 q) HRD.out.lt); have HN1 := Lib.hid hn1; clear hn1; obtain ⟨c0, c1, c2, c3, f1, f2, f3⟩ := hr1; obtain ⟨d0, d1, d2, d3, d4, d5, d6, d7, d8, _⟩ := HB.out; obtain ⟨e0, e1, e2, e3, e4, e5, e6, e7, e8⟩ := Box9.freed HB.out; clear hbl hg2 hb2 hrd)))
      go_wp2_with (go_at_call 68; (with_reducible refine (KO.out _ _ _ _ HN1.out HRDS.out _ (Below.refl _ _)).mono ?_); go_must (rintro _ wv ⟨he, hbl⟩; subst he; have hr1 := (HR.out.at_ q).low hbl; have hb2 := (Box9.other HB.out (a := ⟨b, 1, none⟩) (Nat.ne_of_lt hb.out) (.int .i64 q)).low hbl; have hg2 := grown_trans (grown_trans HG.out (grown_set b 1 _ (.int .i64 q))) (grown_below hbl); clear HR; have HR := Lib.hid hr1; clear HG; have HG := Lib.hid hg2; clear HB; have HB := Lib.hid hb2; obtain ⟨c0, c1, c2, c3, f1, f2, f3⟩ := hr1; obtain ⟨d0, d1, d2, d3, d4, d5, d6, d7, d8, _⟩ := HB.out; obtain ⟨e0, e1, e2, e3, e4, e5, e6, e7, e8⟩ := Box9.freed HB.out; clear hbl hg2 hb2))
      obtain ⟨W3, hW3, hbx, hr, hgw⟩ := endT (.int .i64 1) (.int .u64 S.1.toNat) (.int .u64 S.2.1.toNat) (.int .u64 S.2.2.1.toNat) (.int .u64 S.2.2.2.toNat) (.slice none 0 0) (.int .i64 0) (.int .i64 0) (.int .i64 0) hb.out HR.out HG.out HB.out
      unfold put9 at hW3
      rw [← hW3]
      obtain ⟨l0, l1, l2, l3, l4, l5, l6, l7, l8, _⟩ := hbx
      exact bodyPost_ret (v := .agg #[.int .i64 1, .int .u64 S.1.toNat, .int .u64 S.2.1.toNat, .int .u64 S.2.2.1.toNat, .int .u64 S.2.2.2.toNat, .slice none 0 0, .int .i64 0, .int .i64 0, .int .i64 0]) (by simp [results, Tryd.results67, go_sem, l0, l1, l2, l3, l4, l5, l6, l7, l8]) rfl (postk_ok HX.out hr hgw)
  · rw [if_neg h1] at hR
    have KN := Lib.hid (is_t 94 94 rfl b s k g 0 (by omega) false (is_no h1))
    have hcnt := goS_count (s := s.data.toList) (k := k) [] (by rw [hsz]; omega)
    rcases hgo : goS s.data.toList k [] with q | ⟨l, q⟩
    · have KS := Lib.hid (show SpT s k [] (-1) q from sp_t s k (by omega) hs hgo)
      rw [hgo] at hR hcnt
      have HX := Lib.hid hR
      have KF := Lib.hid (fail_new 1 1 rfl b s q g)
      clear hR hgo h1 hsz hcnt
      go_enter Tryd.func67, Tryd.ntmps67
      go_wp2_with (go_at_call 39; (with_reducible refine (Hid.out KN _ (Hid.out HR)).mono ?_); go_must (rintro _ wv ⟨he, hr1, hg1⟩; subst he; have hg2 := grown_trans (Hid.out HG) hg1; have hb2 := Box9.grown (Hid.out HB) hg1 (Nat.ne_of_gt (Hid.out hb)); clear HR; have HR := Lib.hid hr1; clear HG; have HG := Lib.hid hg2; clear HB; have HB := Lib.hid hb2; obtain ⟨c0, c1, c2, c3, f1, f2, f3⟩ := hr1; obtain ⟨d0, d1, d2, d3, d4, d5, d6, d7, d8, _⟩ := HB.out; obtain ⟨e0, e1, e2, e3, e4, e5, e6, e7, e8⟩ := Box9.freed HB.out; clear hg1 hg2 hb2))
      have HRD := Lib.hid (Rdr.low HR.out (drew_low _))
      have HGD := Lib.hid (grown_trans HG.out (grown_below (b := b) (drew_low _)))
      have HBD := Lib.hid (Box9.low HB.out (drew_low _))
      obtain ⟨c0, c1, c2, c3, f1, f2, f3⟩ := HR.out
      go_region_held3 (fun w' => w'.cell? ⟨b, 0, none⟩ = some (.string s) ∧ w'.cell? ⟨b, 1, none⟩ = some (.int .i64 (k : Int)))
        (first | go_keep | exact ⟨c0, c1⟩)
        (first
          | (go_at_call 77; (with_reducible refine (KS.out _ _ ?_).mono ?_); (omega); go_must (rintro _ wq ⟨A1, n1, c1', he, hn1, hrd, hbl⟩; subst he; have hr1 := HRD.out.low hbl; have hb2 := HBD.out.low hbl; have hg2 := grown_trans HGD.out (grown_below hbl); clear HR; have HR := Lib.hid hr1; clear HG; have HG := Lib.hid hg2; clear HB; have HB := Lib.hid hb2; have HRDS := Lib.hid (hrd b (.int .i64 q) HRD.out.lt); have HN1 := Lib.hid hn1; clear hn1; obtain ⟨c0, c1, c2, c3, f1, f2, f3⟩ := hr1; obtain ⟨d0, d1, d2, d3, d4, d5, d6, d7, d8, _⟩ := HB.out; obtain ⟨e0, e1, e2, e3, e4, e5, e6, e7, e8⟩ := Box9.freed HB.out; clear hbl hg2 hb2 hrd)))
      go_wp2_with (go_at_call 25; (with_reducible refine (Hid.out KF _ (Rdr.at_ (Hid.out HR) q)).mono ?_); go_must (rintro _ wv ⟨he, hr1, hg1⟩; subst he; have hg2 := grown_trans (grown_trans (Hid.out HG) (grown_set b 1 _ _)) hg1; have hb2 := Box9.grown (Box9.other (Hid.out HB) (Nat.ne_of_lt (Hid.out hb)) _) hg1 (Nat.ne_of_gt (Hid.out hb)); clear HR; have HR := Lib.hid hr1; clear HG; have HG := Lib.hid hg2; clear HB; have HB := Lib.hid hb2; obtain ⟨c0, c1, c2, c3, f1, f2, f3⟩ := hr1; obtain ⟨d0, d1, d2, d3, d4, d5, d6, d7, d8, _⟩ := HB.out; obtain ⟨e0, e1, e2, e3, e4, e5, e6, e7, e8⟩ := Box9.freed HB.out; clear hg1 hg2 hb2))
      obtain ⟨W3, hW3, hbx, hr, hgw⟩ := endT (.int .i64 0) (.int .u64 0) (.int .u64 0) (.int .u64 0) (.int .u64 0) (.slice none 0 0) (.int .i64 0) (.int .i64 0) (.int .i64 0) hb.out HR.out HG.out HB.out
      unfold put9 at hW3
      rw [← hW3]
      obtain ⟨l0, l1, l2, l3, l4, l5, l6, l7, l8, _⟩ := hbx
      exact bodyPost_ret (v := .agg #[.int .i64 0, .int .u64 0, .int .u64 0, .int .u64 0, .int .u64 0, .slice none 0 0, .int .i64 0, .int .i64 0, .int .i64 0]) (by simp [results, Tryd.results67, go_sem, l0, l1, l2, l3, l4, l5, l6, l7, l8]) rfl (postk_bad HX.out hr hgw)
    · have KS := Lib.hid (show SpT s k l q 0 from sp_t s k (by omega) hs hgo)
      rw [hgo] at hR hcnt
      dsimp only at hR hcnt
      have hqb := (goS_okb (by rw [hsz]; omega) hgo).2.1
      rw [hsz] at hqb
      have hll : l.length ≤ 1000000 := by simp at hcnt; omega
      obtain ⟨S, hS⟩ : ∃ S, S = ofS l false := ⟨_, rfl⟩
      have HX : Hid (R = .ok S q) := Lib.hid (by rw [hR, hS, ofS_no])
      have KO : Hid (∀ A n c W, n = l.length → RdS W.heap.size W A l → OfT l false A n c W) := Lib.hid fun A n c W h1 h2 => of_t l false A n c W h1 h2 hll
      have hq0 : ¬ (q : Int) < 0 := by omega
      simp only [OfT] at KO
      rw [← hS] at KO
      clear hR hgo h1 hsz hcnt hll hS
      go_enter Tryd.func67, Tryd.ntmps67
      go_wp2_with (go_at_call 39; (with_reducible refine (Hid.out KN _ (Hid.out HR)).mono ?_); go_must (rintro _ wv ⟨he, hr1, hg1⟩; subst he; have hg2 := grown_trans (Hid.out HG) hg1; have hb2 := Box9.grown (Hid.out HB) hg1 (Nat.ne_of_gt (Hid.out hb)); clear HR; have HR := Lib.hid hr1; clear HG; have HG := Lib.hid hg2; clear HB; have HB := Lib.hid hb2; obtain ⟨c0, c1, c2, c3, f1, f2, f3⟩ := hr1; obtain ⟨d0, d1, d2, d3, d4, d5, d6, d7, d8, _⟩ := HB.out; obtain ⟨e0, e1, e2, e3, e4, e5, e6, e7, e8⟩ := Box9.freed HB.out; clear hg1 hg2 hb2))
      have HRD := Lib.hid (Rdr.low HR.out (drew_low _))
      have HGD := Lib.hid (grown_trans HG.out (grown_below (b := b) (drew_low _)))
      have HBD := Lib.hid (Box9.low HB.out (drew_low _))
      obtain ⟨c0, c1, c2, c3, f1, f2, f3⟩ := HR.out
      go_region_held3 (fun w' => w'.cell? ⟨b, 0, none⟩ = some (.string s) ∧ w'.cell? ⟨b, 1, none⟩ = some (.int .i64 (k : Int)))
        (first | go_keep | exact ⟨c0, c1⟩)
        (first
          | (go_at_call 77; (with_reducible refine (KS.out _ _ ?_).mono ?_); (omega); go_must (rintro _ wq ⟨A1, n1, c1', he, hn1, hrd, hbl⟩; subst he; have hr1 := HRD.out.low hbl; have hb2 := HBD.out.low hbl; have hg2 := grown_trans HGD.out (grown_below hbl); clear HR; have HR := Lib.hid hr1; clear HG; have HG := Lib.hid hg2; clear HB; have HB := Lib.hid hb2; have HRDS := Lib.hid (hrd b (.int .i64 q) HRD.out.lt); have HN1 := Lib.hid hn1; clear hn1; obtain ⟨c0, c1, c2, c3, f1, f2, f3⟩ := hr1; obtain ⟨d0, d1, d2, d3, d4, d5, d6, d7, d8, _⟩ := HB.out; obtain ⟨e0, e1, e2, e3, e4, e5, e6, e7, e8⟩ := Box9.freed HB.out; clear hbl hg2 hb2 hrd)))
      go_wp2_with (go_at_call 68; (with_reducible refine (KO.out _ _ _ _ HN1.out HRDS.out _ (Below.refl _ _)).mono ?_); go_must (rintro _ wv ⟨he, hbl⟩; subst he; have hr1 := (HR.out.at_ q).low hbl; have hb2 := (Box9.other HB.out (a := ⟨b, 1, none⟩) (Nat.ne_of_lt hb.out) (.int .i64 q)).low hbl; have hg2 := grown_trans (grown_trans HG.out (grown_set b 1 _ (.int .i64 q))) (grown_below hbl); clear HR; have HR := Lib.hid hr1; clear HG; have HG := Lib.hid hg2; clear HB; have HB := Lib.hid hb2; obtain ⟨c0, c1, c2, c3, f1, f2, f3⟩ := hr1; obtain ⟨d0, d1, d2, d3, d4, d5, d6, d7, d8, _⟩ := HB.out; obtain ⟨e0, e1, e2, e3, e4, e5, e6, e7, e8⟩ := Box9.freed HB.out; clear hbl hg2 hb2))
      obtain ⟨W3, hW3, hbx, hr, hgw⟩ := endT (.int .i64 1) (.int .u64 S.1.toNat) (.int .u64 S.2.1.toNat) (.int .u64 S.2.2.1.toNat) (.int .u64 S.2.2.2.toNat) (.slice none 0 0) (.int .i64 0) (.int .i64 0) (.int .i64 0) hb.out HR.out HG.out HB.out
      unfold put9 at hW3
      rw [← hW3]
      obtain ⟨l0, l1, l2, l3, l4, l5, l6, l7, l8, _⟩ := hbx
      exact bodyPost_ret (v := .agg #[.int .i64 1, .int .u64 S.1.toNat, .int .u64 S.2.1.toNat, .int .u64 S.2.2.1.toNat, .int .u64 S.2.2.2.toNat, .slice none 0 0, .int .i64 0, .int .i64 0, .int .i64 0]) (by simp [results, Tryd.results67, go_sem, l0, l1, l2, l3, l4, l5, l6, l7, l8]) rfl (postk_ok HX.out hr hgw)
end Go.Proofs.YtccheljfbjllhaaDoor
