/- What is printed of an expression, as far as it isn't too long. -/
import Derived.Test.YtccheljfbjllhaaDoorASet
import Derived.Test.YtccheljfbjllhaaDoorFits
import Derived.Deep.RegionHeld3
import Derived.Deep.DrawnRows
namespace Go.Proofs.YtccheljfbjllhaaDoor
open Go Go.RowKit
attribute [local go_sem ↓] Go.wp_at_zero Go.wp_at_succ

section
variable {P : Program} (w : World)
theorem step_append_own {ops : Array Oper} {o : Oper} {a : Act} {K : Act → World → Prop} {Q : Exit → Act → World → Prop} {E : Prop} (hgd : o.guard = none) (s x : Operand) (t : TypeId)
    (ho : o.op = .call { callee := .builtin .append, args := #[s, x], argTypes := #[t, t] })
    (base : Nat) (e : TypeId) (i : TypeInfo) (z : Value) (size bytes : Nat) (ht : P.underlying t = some (.slice e)) (hi : P.info? e = some i) (hz : i.zero = some z)
    (hsize : i.size = size) (hby : i.bytes = bytes) (hzs : z.cells.size = size) (hsz : 0 < size)
    (v : Value) (n : Nat) (xs : List Value) (hs : a.eval s = v) (hown : w.ownsRow base e size v n xs)
    (ad : Addr) (m c : Nat) (news : List Value) (hx : a.eval x = .slice (some ad) m c) (hl : news.length = m * size) (hnews : ∀ j u, news[j]? = some u → w.cell? (ad.add j) = some u) (h1 : ∀ u ∈ news, u.oneCell' = true)
    (h63 : n + m ≤ maxLen) (hbytes : (n + m) * bytes ≤ 140737488355328) (hbase : base ≤ w.heap.size)
    (h : ∀ v' w', w'.ownsRow base e size v' (n + m) (xs ++ news) → w.grownBy w' v.ownBlock → (v' = .slice none 0 0 ↔ v = .slice none 0 0 ∧ m = 0) → K (a.put o.dst v') w') :
    if Region.wanted o (yielded ops a.tmps) = true then Oper.wp P o a w K Q else E := by
  have hw : Region.wanted o (yielded ops a.tmps) = true := by simp [Region.wanted, hgd]
  rw [if_pos hw]
  exact wp_append_own w s x t ho base e i z size bytes ht hi hz hsize hby hzs hsz v n xs hs hown ad m c news hx hl hnews h1 h63 hbytes hbase h
theorem step_append_text {ops : Array Oper} {o : Oper} {a : Act} {K : Act → World → Prop} {Q : Exit → Act → World → Prop} {E : Prop} (hgd : o.guard = none) (sl x : Operand) (t u : TypeId)
    (ho : o.op = .call { callee := .builtin .append, args := #[sl, x], argTypes := #[t, u] })
    (base : Nat) (e : TypeId) (i : TypeInfo) (ht : P.underlying t = some (.slice e)) (hu : P.underlying u = some .string) (hi : P.info? e = some i) (hz : i.zero = some (.int .u8 0))
    (hsize : i.size = 1) (hby : i.bytes = 1)
    (v : Value) (n : Nat) (xs : List Value) (hs : a.eval sl = v) (hown : w.ownsRow base e 1 v n xs) (s : ByteArray) (hx : a.eval x = .string s)
    (h63 : n + s.size ≤ maxLen) (hbytes : n + s.size ≤ 140737488355328) (hbase : base ≤ w.heap.size)
    (h : ∀ v' w', w'.ownsRow base e 1 v' (n + s.size) (xs ++ Lib.strCells s) → w.grownBy w' v.ownBlock → (v' = .slice none 0 0 ↔ v = .slice none 0 0 ∧ s.size = 0) → K (a.put o.dst v') w') :
    if Region.wanted o (yielded ops a.tmps) = true then Oper.wp P o a w K Q else E := by
  have hw : Region.wanted o (yielded ops a.tmps) = true := by simp [Region.wanted, hgd]
  rw [if_pos hw]
  obtain ⟨v', w', hr, h2, h3, h4⟩ := Lib.run_append_own_string (P := P) w base t u o.type e i ht hu hi hz hsize hby v n xs hown s h63 hbytes hbase
  have hrun : (execOp a.eval o).run P w = .ok (.value v') w' := by
    unfold execOp
    simp only [ho, resolve, invoke, builtin, Sem.run_bind, Sem.run_pure, Result.andThen_ok, List.map_toArray, List.map_cons, List.map_nil, hs, hx, hr]
  unfold Oper.wp
  rw [hrun]
  exact h v' w' h2 h3 h4
end
/- So much of a text that it is longer than it may be, if it is. -/
def CutT (full t' : Bs) : Prop := (full.length ≤ 200 → t' = full) ∧ (200 < full.length → 200 < t'.length) ∧ t'.length ≤ full.length
theorem CutT.refl (t : Bs) : CutT t t := ⟨fun _ => rfl, fun h => h, Nat.le_refl _⟩
theorem CutT.step {full t1 u t2 : Bs} (h : CutT full t1) (k : CutT (t1 ++ u) t2) : CutT (full ++ u) t2 := by
  obtain ⟨h1, h2, h3⟩ := h
  obtain ⟨k1, k2, k3⟩ := k
  simp only [List.length_append] at k1 k2 k3
  refine ⟨fun hl => ?_, fun hl => ?_, ?_⟩
  · rw [List.length_append] at hl
    have e := h1 (by omega)
    subst e
    exact k1 (by omega)
  · rw [List.length_append] at hl
    by_cases c : full.length ≤ 200
    · have e := h1 c
      subst e
      exact k2 (by omega)
    · have := h2 (by omega)
      exact k2 (by omega)
  · rw [List.length_append]; omega
theorem CutT.past {full t1 : Bs} (u : Bs) (h : CutT full t1) (hl : 200 < t1.length) : CutT (full ++ u) t1 := by
  obtain ⟨h1, h2, h3⟩ := h
  refine ⟨fun hl' => ?_, fun _ => hl, ?_⟩
  · rw [List.length_append] at hl'
    have := h1 (by omega)
    subst this; omega
  · rw [List.length_append]; omega
theorem CutT.pos {full t' : Bs} (h : CutT full t') {n : Nat} (hn : n ≤ 200) (hf : n ≤ full.length) : n ≤ t'.length := by
  by_cases c : full.length ≤ 200
  · rw [h.1 c]; exact hf
  · have := h.2.1 (by omega); omega
/-- What appends of an expression leave. -/
def WrtC (B : Nat) (w0 w : World) (v : Value) (t full : Bs) (e : Ending) (w' : World) : Prop := ∃ v' t', e = .returned v' ∧ CutT full t' ∧ RowB B w0 w' v' t' ∧ KeptT w w' ∧ (1 ≤ t.length → Keeps1 w v w' v')
theorem Wrt.cut {B : Nat} {w0 w w' : World} {v : Value} {t t' : Bs} {e : Ending} (h : Wrt B w0 w v t t' e w') : WrtC B w0 w v t t' e w' := by
  obtain ⟨v', h1, h2, h3, h4⟩ := h
  exact ⟨v', t', h1, CutT.refl _, h2, h3, h4⟩
def AReC (r : Re) : Prop := ∀ (B : Nat) (w0 w : World) (v : Value) (t : Bs) (A : Option Addr) (c lv d g g' : Nat), RowB B w0 w v t → Kids (Lt B) w0 A r → form r lv d g = some g' → lv ≤ 3 → (t ++ textE r).length ≤ 900000 →
  Calls Tryd.prog 21 #[v, valR r A c] w (WrtC B w0 w v t (t ++ textE r))
theorem esc_ne (sg : Bs) (c : UInt8) : 1 ≤ (esc sg c).length := by unfold esc; split <;> simp
theorem setText_ne (S : S4) : 1 ≤ (setText S).length := by
  unfold setText
  split
  · simp
  · split
    · exact esc_ne _ _
    · split
      · simp
      · simp
theorem signT_ne (lo hi : Int) : 1 ≤ (signT lo hi).length := by
  unfold signT
  split
  · simp
  · split
    · simp
    · split
      · simp
      · split
        · simp
        · split <;> simp
theorem text_ne {r : Re} {d g g' : Nat} (h : form r 1 d g = some g') : 1 ≤ (textE r).length := by
  obtain ⟨k, S, ks, lo, hi, n⟩ := r
  rw [form] at h
  split at h
  · rename_i hh
    obtain ⟨h1, _⟩ := hh
    unfold lev at h1
    rw [textE]
    by_cases k1 : k = 1
    · rw [if_pos k1]; exact setText_ne S
    · rw [if_neg k1]
      by_cases k2 : k = 2
      · rw [if_pos k2]; simp
      · rw [if_neg k2]
        by_cases k3 : k = 3
        · rw [if_pos k3]; simp
        · rw [if_neg k3]
          by_cases k7 : k = 7
          · rw [if_pos k7]; simp
          · rw [if_neg k7]
            by_cases k6 : k = 6
            · rw [if_pos k6, List.length_append]
              have := signT_ne lo hi; omega
            · exfalso
              rw [if_neg (by omega), if_neg k6] at h1
              split at h1
              · omega
              · split at h1 <;> omega
  · cases h
theorem formL_at {lv d : Nat} : ∀ {l : List Re} {g g' k : Nat} {r : Re}, formL l lv d g = some g' → l[k]? = some r → ∃ g1 g2, form r lv d g1 = some g2
  | [], g, g', k, r, h, hk => by simp at hk
  | x :: l, g, g', 0, r, h, hk => by
    injection hk with hk; subst hk
    rw [formL] at h
    cases hx : form x lv d g with
    | none => rw [hx] at h; cases h
    | some g1 => exact ⟨g, g1, hx⟩
  | x :: l, g, g', k + 1, r, h, hk => by
    rw [formL] at h
    cases hx : form x lv d g with
    | none => rw [hx] at h; cases h
    | some g1 =>
      rw [hx] at h
      exact formL_at (k := k) (r := r) h (by simpa using hk)
theorem joinT_take {sep : Bs} {l : List Re} {k : Nat} {r : Re} (h : l[k]? = some r) : joinT sep (l.take (k + 1)) = if k = 0 then textE r else joinT sep (l.take k) ++ (sep ++ textE r) := by
  obtain ⟨hk, e⟩ := List.getElem?_eq_some_iff.1 h
  rw [List.take_succ_eq_append_getElem hk, e, joinT_snoc]
  by_cases h0 : k = 0
  · subst h0; simp
  · rw [if_neg h0, if_neg]
    intro hn
    rw [List.take_eq_nil_iff] at hn
    rcases hn with hn | hn
    · exact h0 hn
    · subst hn; simp at hk
theorem joinT_next {sep : Bs} {l : List Re} {k : Nat} {r : Re} (h : l[k]? = some r) : joinT sep (l.take (k + 1)) = joinT sep (l.take k) ++ ((if k = 0 then [] else sep) ++ textE r) := by
  rw [joinT_take h]
  by_cases h0 : k = 0
  · subst h0; simp [joinT]
  · rw [if_neg h0, if_neg h0]
theorem box9 {w w' : World} {c0 c1 c2 c3 c4 c5 c6 c7 c8 : Value} (h : KeptT (w.alloc (.cells #[c0, c1, c2, c3, c4, c5, c6, c7, c8] 27)) w') : w'.cell? ⟨w.heap.size, 0, none⟩ = some c0 ∧ w'.cell? ⟨w.heap.size, 1, none⟩ = some c1 ∧ w'.cell? ⟨w.heap.size, 2, none⟩ = some c2 ∧ w'.cell? ⟨w.heap.size, 3, none⟩ = some c3 ∧ w'.cell? ⟨w.heap.size, 4, none⟩ = some c4 ∧ w'.cell? ⟨w.heap.size, 5, none⟩ = some c5 ∧ w'.cell? ⟨w.heap.size, 6, none⟩ = some c6 ∧ w'.cell? ⟨w.heap.size, 7, none⟩ = some c7 ∧ w'.cell? ⟨w.heap.size, 8, none⟩ = some c8 :=
  ⟨box_kept h (by decide) 0, box_kept h (by decide) 1, box_kept h (by decide) 2, box_kept h (by decide) 3, box_kept h (by decide) 4, box_kept h (by decide) 5, box_kept h (by decide) 6, box_kept h (by decide) 7, box_kept h (by decide) 8⟩
theorem joinT_le (sep : Bs) (l : List Re) (k : Nat) : (joinT sep (l.take k)).length ≤ (joinT sep l).length := by
  have tl : ∀ (l : List Re) (k : Nat), (tailT sep (l.take k)).length ≤ (tailT sep l).length := by
    intro l
    induction l with
    | nil => intro k; simp [tailT]
    | cons x l ih =>
      intro k
      cases k with
      | zero => simp [tailT]
      | succ k => rw [List.take_succ_cons, tailT, tailT]; have := ih k; simp only [List.length_append]; omega
  cases l with
  | nil => simp
  | cons x l =>
    cases k with
    | zero => simp [joinT]
    | succ k => rw [List.take_succ_cons, joinT, joinT]; have := tl l k; simp only [List.length_append]; omega
def LoopK (B : Nat) (w0 wb : World) (ks : List Re) (sep : Bs) (vt : Value) (t : Bs) (v i : Value) (w : World) : Prop := ∃ (j : Nat) (tj : Bs), j ≤ ks.length ∧ i = .int .i64 j ∧ CutT (t ++ joinT sep (ks.take j)) tj ∧ RowB B w0 w v tj ∧ KeptT wb w ∧ (1 ≤ t.length → Keeps1 wb vt w v ∧ (0 < j → 2 ≤ tj.length + sep.length))
set_option maxRecDepth 100000 in
set_option maxHeartbeats 4000000 in
theorem akids_any (ks : List Re) (hc : ∀ x ∈ ks, AReC x) (sep : ByteArray) (hsep : sep.size ≤ 1) (B : Nat) (w0 w : World) (vt : Value) (t : Bs) (A : Option Addr) (c lv d g g' : Nat) (h : RowB B w0 w vt t) (hk : Kids (Lt B) w0 A (kidsOf ks)) (hf : formL ks lv d g = some g') (hlv : lv ≤ 3)
    (hl : (t ++ joinT sep.data.toList ks).length ≤ 900000) (hmax : ks.length ≤ 1000000) (hne1 : sep.size = 0 → ∀ x ∈ ks, 1 ≤ (textE x).length) :
    Calls Tryd.prog 34 #[vt, .slice A ks.length c, .string sep] w (WrtC B w0 w vt t (t ++ joinT sep.data.toList ks)) := by
  obtain ⟨m, hm⟩ : ∃ m, m = ks.length := ⟨_, rfl⟩
  obtain ⟨sp, hsp⟩ : ∃ sp, sp = sep.data.toList := ⟨_, rfl⟩
  have hspl : sp.length = sep.size := by rw [hsp]; exact len_data sep
  rw [← hsp] at hl ⊢
  rw [← hm] at hmax ⊢
  have H := Lib.hid h
  have HC := Lib.hid hc
  have HK := Lib.hid hk
  have HF := Lib.hid hf
  have HL := Lib.hid hl
  have HM := Lib.hid hm
  have HN := Lib.hid hne1
  have HSP := Lib.hid hsp
  obtain ⟨j0, hj, hy0, hy1, hy2⟩ := info_parts info5
  clear h hc hk hf hl hm hne1 hsp
  go_enter Tryd.func34, Tryd.ntmps34
  go_wp2
  go_loopw [0, 11] (fun v i wr => LoopK B w0 w ks sp vt t v i wr) (fun _ i _ => m - (intOf i).toNat)
  case atStart => exact ⟨0, t, by omega, rfl, by simp [joinT]; exact CutT.refl _, H.out, KeptT.refl _, fun _ => ⟨Keeps1.refl _ _, fun h => by omega⟩⟩
  case round =>
    obtain ⟨j, tj, hjm, rfl, hcut, hrow, hkt, hk1⟩ := hrel
    have HT := Lib.hid hrow
    have HCU := Lib.hid hcut
    have HKT := Lib.hid hkt
    have HK1 := Lib.hid hk1
    rw [← HM.out] at hjm
    clear hrow hcut hkt hk1
    by_cases a : j < m
    · obtain ⟨r, hr⟩ := get_of_lt HM.out a
      obtain ⟨ad, A', c', rfl, hp, h9, hkr⟩ := kids_at HK.out hr
      have h9 := h9.keep (w' := wr) (fun o => HT.out.below.cell (by show (ad.add (j * 9)).block < B; rw [block_of_add]; exact hp)) (HT.out.below.cell (by rw [block_of_add]; exact hp))
      have hmem := List.mem_of_getElem? hr
      obtain ⟨g1, g2, hfr⟩ := formL_at HF.out hr
      have htk := joinT_next (sep := sp) hr
      have hle := joinT_le sp ks (j + 1)
      have hll := HL.out
      rw [List.length_append] at hll
      have hcl := HCU.out.2.2
      rw [List.length_append] at hcl
      have K : ∀ w1 v1 t1, RowB B w0 w1 v1 t1 → (t1 ++ textE r).length ≤ 900000 → Calls Tryd.prog 21 #[v1, valR r A' c'] w1 (WrtC B w0 w1 v1 t1 (t1 ++ textE r)) := fun w1 v1 t1 h1 h2 => HC.out r hmem B w0 w1 v1 t1 A' c' lv d g1 g2 h1 hkr hfr hlv h2
      have hn1 := fun h => HN.out h r hmem
      obtain ⟨u, hu⟩ : ∃ u, u = textE r := ⟨_, rfl⟩
      rw [← hu] at K htk hn1
      obtain ⟨J, hJ⟩ : ∃ J, J = joinT sp (ks.take j) := ⟨_, rfl⟩
      have hF : (joinT sp (ks.take (j + 1))).length ≤ (joinT sp ks).length := hle
      rw [htk] at hF
      rw [← hJ] at hcl hF htk HCU
      simp only [List.length_append] at hF
      have HTK := Lib.hid htk
      obtain ⟨F, hF0⟩ : ∃ F : Nat, F = (joinT sp ks).length := ⟨_, rfl⟩
      rw [← hF0] at hll hF
      obtain ⟨k', S', ks', lo', hi', n'⟩ := r
      simp only [valR] at K
      have HKC := Lib.hid K
      obtain ⟨d0, d1, d2, d3, d4, d5, d6, d7, d8⟩ := h9
      clear hr hkr hmem hfr htk hle K hu hJ hF0
      by_cases hj0 : j = 0
      · rw [if_pos hj0] at hF HTK
        simp only [List.length_nil] at hF
        have b0 : decide ((0 : Int) < (j : Int)) = false := by simp [hj0]
        have b0' : decide (0 < j) = false := by simp [hj0]
        have hbd : (tj ++ u).length ≤ 900000 := by rw [List.length_append]; omega
        have HJ0 := Lib.hid hj0
        clear hj0
        go_wp2_with (go_at_call 21; ((with_reducible refine (HKC.out _ _ _ (HT.out.alloc _) hbd).mono ?_)); rintro e w5 ⟨v5, t5, rfl, hc5, hrow5, hk5, hk15⟩)
        go_roundw
        case rel =>
          refine ⟨j + 1, t5, by rw [← HM.out]; omega, by go_num, ?_, hrow5, HKT.out.trans ((KeptT.alloc _ _).trans hk5), fun hl1 => ?_⟩
          · rw [HTK.out]
            have := HCU.out.step hc5
            simpa using this
          · have htj := HCU.out.pos (n := 1) (by omega) (by rw [List.length_append]; omega)
            refine ⟨((HK1.out hl1).1.trans (Keeps1.below _ (one_box wr _))).trans (hk15 htj), fun _ => ?_⟩
            by_cases hs0 : sep.size = 0
            · have := hc5.pos (n := 2) (by omega) (by rw [List.length_append]; have := hn1 hs0; omega)
              omega
            · have := hc5.pos (n := 1) (by omega) (by rw [List.length_append]; omega)
              omega
        case measure => simp [intOf]; omega
      · rw [if_neg hj0] at hF HTK
        have b0 : decide ((0 : Int) < (j : Int)) = true := by simp; omega
        have b0' : decide (0 < j) = true := by simp; omega
        have hbd : (tj ++ sp ++ u).length ≤ 900000 := by simp only [List.length_append]; omega
        have hs1 : tj.length + sep.size ≤ 900000 := by rw [List.length_append, List.length_append] at hbd; omega
        have HSB : Hid (Lib.strCells sep = byteCells sp) := Lib.hid (by rw [str_cells, HSP.out])
        go_wp2_with (first
          | (at_builtin; refine Lib.wpList_append_own_string _ rfl (.tmp 18) (.tmp 19) 49 9 rfl B 5 j0 Tryd.underlying49 Tryd.underlying9 hj hy0 hy1 hy2 _ _ _ rfl (HT.out.alloc _).row _ rfl (by unfold maxLen; omega) (by omega) (HT.out.alloc _).size ?_; intro v2 w3 hown' hgrow _; have hown2 := hown'; rw [HSB.out, ← hspl] at hown2; have H3 := Lib.hid ((HT.out.alloc _).bytes sp hown2 hgrow); have HK3 := Lib.hid ((KeptT.alloc _ _).trans (KeptT.grown (HT.out.alloc _).row hgrow)); have HK13 : Hid (2 ≤ tj.length + sep.size → Keeps1 wr _ w3 v2) := Lib.hid (fun hl => (Keeps1.below _ (one_box wr _)).trans (Keeps1.grown hown' hl hgrow)); obtain ⟨e0, e1, e2, e3, e4, e5, e6, e7, e8⟩ := box9 ((KeptT.grown (HT.out.alloc _).row hgrow)); clear hown' hown2 hgrow)
          | (go_at_call 21; ((with_reducible refine (HKC.out _ _ _ H3.out hbd).mono ?_)); rintro e w5 ⟨v5, t5, rfl, hc5, hrow5, hk5, hk15⟩))
        go_roundw
        case rel =>
          refine ⟨j + 1, t5, by rw [← HM.out]; omega, by go_num, ?_, hrow5, (HKT.out.trans HK3.out).trans hk5, fun hl1 => ?_⟩
          · rw [HTK.out]
            have := (HCU.out.step (CutT.refl (tj ++ sp))).step hc5
            simpa using this
          · obtain ⟨q1, q2⟩ := HK1.out hl1
            have q3 := q2 (by omega)
            rw [hspl] at q3
            refine ⟨(q1.trans (HK13.out q3)).trans (hk15 (by rw [List.length_append]; omega)), fun _ => ?_⟩
            by_cases hs0 : sep.size = 0
            · have := hc5.pos (n := 2) (by omega) (by simp only [List.length_append]; have := hn1 hs0; omega)
              omega
            · have := hc5.pos (n := 1) (by omega) (by simp only [List.length_append]; omega)
              omega
        case measure => simp [intOf]; omega
    · have HE : Hid (ks.take j = ks) := Lib.hid (List.take_of_length_le (by have := HM.out; omega))
      rw [HE.out] at HCU
      go_wp2
      go_ret
      exact ⟨_, tj, rfl, HCU.out, HT.out, HKT.out, fun hl1 => (HK1.out hl1).1⟩
end Go.Proofs.YtccheljfbjllhaaDoor
