/- What is printed of an expression, as far as it isn't too long. -/
import Derived.Test.YtccheljfbjllhaaDoorASet
import Derived.Test.YtccheljfbjllhaaDoorFits
import Derived.Deep.RegionHeld3
import Derived.Deep.DrawnRows
import Derived.Laws.BytesArg
namespace Go.Proofs.YtccheljfbjllhaaDoor
/- What is printed of an expression, as far as it isn't too long. -/
section
open Go Go.RowKit
attribute [local go_sem ↓] Go.wp_at_zero Go.wp_at_succ

section
variable {P : Program} (w : World)
theorem step_append_own {ops : Array Oper} {o : Oper} {a : Act} {K : Act → World → Prop} {Q : Exit → Act → World → Prop} {E : Prop} (hgd : o.guard = none) (s x : Operand) (t : TypeId)
    (ho : o.op = .call { callee := .builtin .append, args := #[s, x], argTypes := #[t, t] })
    (base : Nat) (e : TypeId) (i : TypeInfo) (z : Value) (size bytes : Nat) (ht : P.underlying t = some (.slice e)) (hi : P.info? e = some i) (hz : i.zero = some z)
    (hsize : i.size = size) (hby : i.bytes = bytes) (hzs : z.cells.size = size) (hsz : 0 < size)
    (v : Value) (n : Nat) (xs : List Value) (hs : a.eval s = v) (hown : w.ownsRow base e size v n xs)
    (ad : Addr) (m c : Nat) (news : List Value) (hx : a.eval x = .slice (some ad) m c) (hl : news.length = m * size) (hnews : ∀ j u, news[j]? = some u → w.cell? (ad.add j) = some u) (h1 : ∀ u ∈ news, u.oneCell' = true)
    (h63 : n + m ≤ maxLen) (hbytes : (n + m) * bytes ≤ 140737488355328) (hbase : base ≤ w.heap.size)
    (h : ∀ v' w', w'.ownsRow base e size v' (n + m) (xs ++ news) → w.grownBy w' v.ownBlock → (v' = .slice none 0 0 ↔ v = .slice none 0 0 ∧ m = 0) → K (a.put o.dst v') w') :
    if Region.wanted o (yielded ops a.tmps) = true then Oper.wp P o a w K Q else E := by
  have hw : Region.wanted o (yielded ops a.tmps) = true := by simp [Region.wanted, hgd]
  rw [if_pos hw]
  exact wp_append_own w s x t ho base e i z size bytes ht hi hz hsize hby hzs hsz v n xs hs hown ad m c news hx hl hnews h1 h63 hbytes hbase h
theorem step_append_text {ops : Array Oper} {o : Oper} {a : Act} {K : Act → World → Prop} {Q : Exit → Act → World → Prop} {E : Prop} (hgd : o.guard = none) (sl x : Operand) (t u : TypeId)
    (ho : o.op = .call { callee := .builtin .append, args := #[sl, x], argTypes := #[t, u] })
    (base : Nat) (e : TypeId) (i : TypeInfo) (ht : P.underlying t = some (.slice e)) (hu : P.underlying u = some .string) (hi : P.info? e = some i) (hz : i.zero = some (.int .u8 0))
    (hsize : i.size = 1) (hby : i.bytes = 1)
    (v : Value) (n : Nat) (xs : List Value) (hs : a.eval sl = v) (hown : w.ownsRow base e 1 v n xs) (s : ByteArray) (hx : a.eval x = .string s)
    (h63 : n + s.size ≤ maxLen) (hbytes : n + s.size ≤ 140737488355328) (hbase : base ≤ w.heap.size)
    (h : ∀ v' w', w'.ownsRow base e 1 v' (n + s.size) (xs ++ Lib.strCells s) → w.grownBy w' v.ownBlock → (v' = .slice none 0 0 ↔ v = .slice none 0 0 ∧ s.size = 0) → K (a.put o.dst v') w') :
    if Region.wanted o (yielded ops a.tmps) = true then Oper.wp P o a w K Q else E := by
  have hw : Region.wanted o (yielded ops a.tmps) = true := by simp [Region.wanted, hgd]
  rw [if_pos hw]
  obtain ⟨v', w', hr, h2, h3, h4⟩ := Lib.run_append_own_string (P := P) w base t u o.type e i ht hu hi hz hsize hby v n xs hown s h63 hbytes hbase
  have hrun : (execOp a.eval o).run P w = .ok (.value v') w' := by
    unfold execOp
    simp only [ho, resolve, invoke, builtin, Sem.run_bind, Sem.run_pure, Result.andThen_ok, List.map_toArray, List.map_cons, List.map_nil, hs, hx, hr]
  unfold Oper.wp
  rw [hrun]
  exact h v' w' h2 h3 h4
end
/- So much of a text that it is longer than it may be, if it is. -/
def CutT (full t' : Bs) : Prop := (full.length ≤ 200 → t' = full) ∧ (200 < full.length → 200 < t'.length) ∧ t'.length ≤ full.length
theorem CutT.refl (t : Bs) : CutT t t := ⟨fun _ => rfl, fun h => h, Nat.le_refl _⟩
theorem CutT.step {full t1 u t2 : Bs} (h : CutT full t1) (k : CutT (t1 ++ u) t2) : CutT (full ++ u) t2 := by
  obtain ⟨h1, h2, h3⟩ := h
  obtain ⟨k1, k2, k3⟩ := k
  simp only [List.length_append] at k1 k2 k3
  refine ⟨fun hl => ?_, fun hl => ?_, ?_⟩
  · rw [List.length_append] at hl
    have e := h1 (by omega)
    subst e
    exact k1 (by omega)
  · rw [List.length_append] at hl
    by_cases c : full.length ≤ 200
    · have e := h1 c
      subst e
      exact k2 (by omega)
    · have := h2 (by omega)
      exact k2 (by omega)
  · rw [List.length_append]; omega
theorem CutT.past {full t1 : Bs} (u : Bs) (h : CutT full t1) (hl : 200 < t1.length) : CutT (full ++ u) t1 := by
  obtain ⟨h1, h2, h3⟩ := h
  refine ⟨fun hl' => ?_, fun _ => hl, ?_⟩
  · rw [List.length_append] at hl'
    have := h1 (by omega)
    subst this; omega
  · rw [List.length_append]; omega
theorem CutT.pos {full t' : Bs} (h : CutT full t') {n : Nat} (hn : n ≤ 200) (hf : n ≤ full.length) : n ≤ t'.length := by
  by_cases c : full.length ≤ 200
  · rw [h.1 c]; exact hf
  · have := h.2.1 (by omega); omega
/-- What appends of an expression leave. -/
def WrtC (B : Nat) (w0 w : World) (v : Value) (t full : Bs) (e : Ending) (w' : World) : Prop := ∃ v' t', e = .returned v' ∧ CutT full t' ∧ RowB B w0 w' v' t' ∧ KeptT w w' ∧ (1 ≤ t.length → Keeps1 w v w' v')
theorem Wrt.cut {B : Nat} {w0 w w' : World} {v : Value} {t t' : Bs} {e : Ending} (h : Wrt B w0 w v t t' e w') : WrtC B w0 w v t t' e w' := by
  obtain ⟨v', h1, h2, h3, h4⟩ := h
  exact ⟨v', t', h1, CutT.refl _, h2, h3, h4⟩
def AReC (r : Re) : Prop := ∀ (B : Nat) (w0 w : World) (v : Value) (t : Bs) (A : Option Addr) (c lv d g g' : Nat), RowB B w0 w v t → Kids (Lt B) w0 A r → form r lv d g = some g' → lv ≤ 3 → (t ++ textE r).length ≤ 900000 →
  Calls Tryd.prog 21 #[v, valR r A c] w (WrtC B w0 w v t (t ++ textE r))
theorem esc_ne (sg : Bs) (c : UInt8) : 1 ≤ (esc sg c).length := by unfold esc; split <;> simp
theorem setText_ne (S : S4) : 1 ≤ (setText S).length := by
  unfold setText
  split
  · simp
  · split
    · exact esc_ne _ _
    · split
      · simp
      · simp
theorem signT_ne (lo hi : Int) : 1 ≤ (signT lo hi).length := by
  unfold signT
  split
  · simp
  · split
    · simp
    · split
      · simp
      · split
        · simp
        · split <;> simp
theorem text_ne {r : Re} {d g g' : Nat} (h : form r 1 d g = some g') : 1 ≤ (textE r).length := by
  obtain ⟨k, S, ks, lo, hi, n⟩ := r
  rw [form] at h
  split at h
  · rename_i hh
    obtain ⟨h1, _⟩ := hh
    unfold lev at h1
    rw [textE]
    by_cases k1 : k = 1
    · rw [if_pos k1]; exact setText_ne S
    · rw [if_neg k1]
      by_cases k2 : k = 2
      · rw [if_pos k2]; simp
      · rw [if_neg k2]
        by_cases k3 : k = 3
        · rw [if_pos k3]; simp
        · rw [if_neg k3]
          by_cases k7 : k = 7
          · rw [if_pos k7]; simp
          · rw [if_neg k7]
            by_cases k6 : k = 6
            · rw [if_pos k6, List.length_append]
              have := signT_ne lo hi; omega
            · exfalso
              rw [if_neg (by omega), if_neg k6] at h1
              split at h1
              · omega
              · split at h1 <;> omega
  · cases h
theorem formL_at {lv d : Nat} : ∀ {l : List Re} {g g' k : Nat} {r : Re}, formL l lv d g = some g' → l[k]? = some r → ∃ g1 g2, form r lv d g1 = some g2
  | [], g, g', k, r, h, hk => by simp at hk
  | x :: l, g, g', 0, r, h, hk => by
    injection hk with hk; subst hk
    rw [formL] at h
    cases hx : form x lv d g with
    | none => rw [hx] at h; cases h
    | some g1 => exact ⟨g, g1, hx⟩
  | x :: l, g, g', k + 1, r, h, hk => by
    rw [formL] at h
    cases hx : form x lv d g with
    | none => rw [hx] at h; cases h
    | some g1 =>
      rw [hx] at h
      exact formL_at (k := k) (r := r) h (by simpa using hk)
theorem joinT_take {sep : Bs} {l : List Re} {k : Nat} {r : Re} (h : l[k]? = some r) : joinT sep (l.take (k + 1)) = if k = 0 then textE r else joinT sep (l.take k) ++ (sep ++ textE r) := by
  obtain ⟨hk, e⟩ := List.getElem?_eq_some_iff.1 h
  rw [List.take_succ_eq_append_getElem hk, e, joinT_snoc]
  by_cases h0 : k = 0
  · subst h0; simp
  · rw [if_neg h0, if_neg]
    intro hn
    rw [List.take_eq_nil_iff] at hn
    rcases hn with hn | hn
    · exact h0 hn
    · subst hn; simp at hk
theorem joinT_next {sep : Bs} {l : List Re} {k : Nat} {r : Re} (h : l[k]? = some r) : joinT sep (l.take (k + 1)) = joinT sep (l.take k) ++ ((if k = 0 then [] else sep) ++ textE r) := by
  rw [joinT_take h]
  by_cases h0 : k = 0
  · subst h0; simp [joinT]
  · rw [if_neg h0, if_neg h0]
theorem box9 {w w' : World} {c0 c1 c2 c3 c4 c5 c6 c7 c8 : Value} (h : KeptT (w.alloc (.cells #[c0, c1, c2, c3, c4, c5, c6, c7, c8] 27)) w') : w'.cell? ⟨w.heap.size, 0, none⟩ = some c0 ∧ w'.cell? ⟨w.heap.size, 1, none⟩ = some c1 ∧ w'.cell? ⟨w.heap.size, 2, none⟩ = some c2 ∧ w'.cell? ⟨w.heap.size, 3, none⟩ = some c3 ∧ w'.cell? ⟨w.heap.size, 4, none⟩ = some c4 ∧ w'.cell? ⟨w.heap.size, 5, none⟩ = some c5 ∧ w'.cell? ⟨w.heap.size, 6, none⟩ = some c6 ∧ w'.cell? ⟨w.heap.size, 7, none⟩ = some c7 ∧ w'.cell? ⟨w.heap.size, 8, none⟩ = some c8 :=
  ⟨box_kept h (by decide) 0, box_kept h (by decide) 1, box_kept h (by decide) 2, box_kept h (by decide) 3, box_kept h (by decide) 4, box_kept h (by decide) 5, box_kept h (by decide) 6, box_kept h (by decide) 7, box_kept h (by decide) 8⟩
theorem joinT_le (sep : Bs) (l : List Re) (k : Nat) : (joinT sep (l.take k)).length ≤ (joinT sep l).length := by
  have tl : ∀ (l : List Re) (k : Nat), (tailT sep (l.take k)).length ≤ (tailT sep l).length := by
    intro l
    induction l with
    | nil => intro k; simp [tailT]
    | cons x l ih =>
      intro k
      cases k with
      | zero => simp [tailT]
      | succ k => rw [List.take_succ_cons, tailT, tailT]; have := ih k; simp only [List.length_append]; omega
  cases l with
  | nil => simp
  | cons x l =>
    cases k with
    | zero => simp [joinT]
    | succ k => rw [List.take_succ_cons, joinT, joinT]; have := tl l k; simp only [List.length_append]; omega
def LoopK (B : Nat) (w0 wb : World) (ks : List Re) (sep : Bs) (vt : Value) (t : Bs) (v i : Value) (w : World) : Prop := ∃ (j : Nat) (tj : Bs), j ≤ ks.length ∧ i = .int .i64 j ∧ CutT (t ++ joinT sep (ks.take j)) tj ∧ RowB B w0 w v tj ∧ KeptT wb w ∧ (1 ≤ t.length → Keeps1 wb vt w v ∧ (0 < j → 2 ≤ tj.length + sep.length))
set_option maxRecDepth 100000 in
set_option maxHeartbeats 4000000 in
theorem akids_any (ks : List Re) (hc : ∀ x ∈ ks, AReC x) (sep : ByteArray) (hsep : sep.size ≤ 1) (B : Nat) (w0 w : World) (vt : Value) (t : Bs) (A : Option Addr) (c lv d g g' : Nat) (h : RowB B w0 w vt t) (hk : Kids (Lt B) w0 A (kidsOf ks)) (hf : formL ks lv d g = some g') (hlv : lv ≤ 3)
    (hl : (t ++ joinT sep.data.toList ks).length ≤ 900000) (hmax : ks.length ≤ 1000000) (hne1 : sep.size = 0 → ∀ x ∈ ks, 1 ≤ (textE x).length) :
    Calls Tryd.prog 34 #[vt, .slice A ks.length c, .string sep] w (WrtC B w0 w vt t (t ++ joinT sep.data.toList ks)) := by
  obtain ⟨m, hm⟩ : ∃ m, m = ks.length := ⟨_, rfl⟩
  obtain ⟨sp, hsp⟩ : ∃ sp, sp = sep.data.toList := ⟨_, rfl⟩
  have hspl : sp.length = sep.size := by rw [hsp]; exact len_data sep
  rw [← hsp] at hl ⊢
  rw [← hm] at hmax ⊢
  have H := Lib.hid h
  have HC := Lib.hid hc
  have HK := Lib.hid hk
  have HF := Lib.hid hf
  have HL := Lib.hid hl
  have HM := Lib.hid hm
  have HN := Lib.hid hne1
  have HSP := Lib.hid hsp
  obtain ⟨j0, hj, hy0, hy1, hy2⟩ := info_parts info5
  clear h hc hk hf hl hm hne1 hsp
  go_enter Tryd.func34, Tryd.ntmps34
  go_wp2
  go_loopw [0, 11] (fun v i wr => LoopK B w0 w ks sp vt t v i wr) (fun _ i _ => m - (intOf i).toNat)
  case atStart => exact ⟨0, t, by omega, rfl, by simp [joinT]; exact CutT.refl _, H.out, KeptT.refl _, fun _ => ⟨Keeps1.refl _ _, fun h => by omega⟩⟩
  case round =>
    obtain ⟨j, tj, hjm, rfl, hcut, hrow, hkt, hk1⟩ := hrel
    have HT := Lib.hid hrow
    have HCU := Lib.hid hcut
    have HKT := Lib.hid hkt
    have HK1 := Lib.hid hk1
    rw [← HM.out] at hjm
    clear hrow hcut hkt hk1
    by_cases a : j < m
    · obtain ⟨r, hr⟩ := get_of_lt HM.out a
      obtain ⟨ad, A', c', rfl, hp, h9, hkr⟩ := kids_at HK.out hr
      have h9 := h9.keep (w' := wr) (fun o => HT.out.below.cell (by show (ad.add (j * 9)).block < B; rw [block_of_add]; exact hp)) (HT.out.below.cell (by rw [block_of_add]; exact hp))
      have hmem := List.mem_of_getElem? hr
      obtain ⟨g1, g2, hfr⟩ := formL_at HF.out hr
      have htk := joinT_next (sep := sp) hr
      have hle := joinT_le sp ks (j + 1)
      have hll := HL.out
      rw [List.length_append] at hll
      have hcl := HCU.out.2.2
      rw [List.length_append] at hcl
      have K : ∀ w1 v1 t1, RowB B w0 w1 v1 t1 → (t1 ++ textE r).length ≤ 900000 → Calls Tryd.prog 21 #[v1, valR r A' c'] w1 (WrtC B w0 w1 v1 t1 (t1 ++ textE r)) := fun w1 v1 t1 h1 h2 => HC.out r hmem B w0 w1 v1 t1 A' c' lv d g1 g2 h1 hkr hfr hlv h2
      have hn1 := fun h => HN.out h r hmem
      obtain ⟨u, hu⟩ : ∃ u, u = textE r := ⟨_, rfl⟩
      rw [← hu] at K htk hn1
      obtain ⟨J, hJ⟩ : ∃ J, J = joinT sp (ks.take j) := ⟨_, rfl⟩
      have hF : (joinT sp (ks.take (j + 1))).length ≤ (joinT sp ks).length := hle
      rw [htk] at hF
      rw [← hJ] at hcl hF htk HCU
      simp only [List.length_append] at hF
      have HTK := Lib.hid htk
      obtain ⟨F, hF0⟩ : ∃ F : Nat, F = (joinT sp ks).length := ⟨_, rfl⟩
      rw [← hF0] at hll hF
      obtain ⟨k', S', ks', lo', hi', n'⟩ := r
      simp only [valR] at K
      have HKC := Lib.hid K
      obtain ⟨d0, d1, d2, d3, d4, d5, d6, d7, d8⟩ := h9
      clear hr hkr hmem hfr htk hle K hu hJ hF0
      by_cases hj0 : j = 0
      · rw [if_pos hj0] at hF HTK
        simp only [List.length_nil] at hF
        have b0 : decide ((0 : Int) < (j : Int)) = false := by simp [hj0]
        have b0' : decide (0 < j) = false := by simp [hj0]
        have hbd : (tj ++ u).length ≤ 900000 := by rw [List.length_append]; omega
        have HJ0 := Lib.hid hj0
        clear hj0
        go_wp2_with (go_at_call 21; ((with_reducible refine (HKC.out _ _ _ (HT.out.alloc _) hbd).mono ?_)); rintro e w5 ⟨v5, t5, rfl, hc5, hrow5, hk5, hk15⟩)
        go_roundw
        case rel =>
          refine ⟨j + 1, t5, by rw [← HM.out]; omega, by go_num, ?_, hrow5, HKT.out.trans ((KeptT.alloc _ _).trans hk5), fun hl1 => ?_⟩
          · rw [HTK.out]
            have := HCU.out.step hc5
            simpa using this
          · have htj := HCU.out.pos (n := 1) (by omega) (by rw [List.length_append]; omega)
            refine ⟨((HK1.out hl1).1.trans (Keeps1.below _ (one_box wr _))).trans (hk15 htj), fun _ => ?_⟩
            by_cases hs0 : sep.size = 0
            · have := hc5.pos (n := 2) (by omega) (by rw [List.length_append]; have := hn1 hs0; omega)
              omega
            · have := hc5.pos (n := 1) (by omega) (by rw [List.length_append]; omega)
              omega
        case measure => simp [intOf]; omega
      · rw [if_neg hj0] at hF HTK
        have b0 : decide ((0 : Int) < (j : Int)) = true := by simp; omega
        have b0' : decide (0 < j) = true := by simp; omega
        have hbd : (tj ++ sp ++ u).length ≤ 900000 := by simp only [List.length_append]; omega
        have hs1 : tj.length + sep.size ≤ 900000 := by rw [List.length_append, List.length_append] at hbd; omega
        have HSB : Hid (Lib.strCells sep = byteCells sp) := Lib.hid (by rw [str_cells, HSP.out])
        go_wp2_with (first
          | (at_builtin; refine Lib.wpList_append_own_string _ rfl (.tmp 18) (.tmp 19) 49 9 rfl B 5 j0 Tryd.underlying49 Tryd.underlying9 hj hy0 hy1 hy2 _ _ _ rfl (HT.out.alloc _).row _ rfl (by unfold maxLen; omega) (by omega) (HT.out.alloc _).size ?_; intro v2 w3 hown' hgrow _; have hown2 := hown'; rw [HSB.out, ← hspl] at hown2; have H3 := Lib.hid ((HT.out.alloc _).bytes sp hown2 hgrow); have HK3 := Lib.hid ((KeptT.alloc _ _).trans (KeptT.grown (HT.out.alloc _).row hgrow)); have HK13 : Hid (2 ≤ tj.length + sep.size → Keeps1 wr _ w3 v2) := Lib.hid (fun hl => (Keeps1.below _ (one_box wr _)).trans (Keeps1.grown hown' hl hgrow)); obtain ⟨e0, e1, e2, e3, e4, e5, e6, e7, e8⟩ := box9 ((KeptT.grown (HT.out.alloc _).row hgrow)); clear hown' hown2 hgrow)
          | (go_at_call 21; ((with_reducible refine (HKC.out _ _ _ H3.out hbd).mono ?_)); rintro e w5 ⟨v5, t5, rfl, hc5, hrow5, hk5, hk15⟩))
        go_roundw
        case rel =>
          refine ⟨j + 1, t5, by rw [← HM.out]; omega, by go_num, ?_, hrow5, (HKT.out.trans HK3.out).trans hk5, fun hl1 => ?_⟩
          · rw [HTK.out]
            have := (HCU.out.step (CutT.refl (tj ++ sp))).step hc5
            simpa using this
          · obtain ⟨q1, q2⟩ := HK1.out hl1
            have q3 := q2 (by omega)
            rw [hspl] at q3
            refine ⟨(q1.trans (HK13.out q3)).trans (hk15 (by rw [List.length_append]; omega)), fun _ => ?_⟩
            by_cases hs0 : sep.size = 0
            · have := hc5.pos (n := 2) (by omega) (by simp only [List.length_append]; have := hn1 hs0; omega)
              omega
            · have := hc5.pos (n := 1) (by omega) (by simp only [List.length_append]; omega)
              omega
        case measure => simp [intOf]; omega
    · have HE : Hid (ks.take j = ks) := Lib.hid (List.take_of_length_le (by have := HM.out; omega))
      rw [HE.out] at HCU
      go_wp2
      go_ret
      exact ⟨_, tj, rfl, HCU.out, HT.out, HKT.out, fun hl1 => (HK1.out hl1).1⟩
end
/- What is printed of an expression, as far as it isn't too long: the code's way through all kinds. -/
section
open Go Go.RowKit
attribute [local go_sem ↓] Go.wp_at_zero Go.wp_at_succ

theorem new_under (w : World) (o : Obj) (T : TypeId) (cs : Array Value) (j : Nat) (u : Value) (h : cs.toList[j]? = some u) : ((w.alloc (.cells cs T)).alloc o).cell? ((⟨w.heap.size, 0, none⟩ : Addr).add j) = some u := by
  have h0 := new_cells w T cs j u h
  exact (World.cell?_alloc_lt _ o ((⟨w.heap.size, 0, none⟩ : Addr).add j) (by rw [block_of_add]; simp)).trans h0
theorem byteCells_length (t : Bs) : (byteCells t).length = t.length := by simp [byteCells, Lib.byteCells]
/-- The box of a ) isn't the row that ends with a (. -/
theorem lit_own {w : World} {B L k : Nat} {v : Value} {t : Bs} (ho : w.ownsRow B 5 1 v L (byteCells t ++ byteCells [40])) (hl : w.heap[k]? = some (.cells #[.int .u8 41] 5 (0, 0))) : some k ≠ v.ownBlock := by
  intro e
  have hlen : L = t.length + 1 := by
    have := ho.1
    rw [List.length_append, byteCells_length, byteCells_length] at this
    simp at this; omega
  rcases ho.2 with ⟨rfl, _⟩ | ⟨g, cap, cur, rfl, _, hh, hc, _, hcs, htake⟩
  · simp [Value.ownBlock] at e
  · simp only [Value.ownBlock, Option.some.injEq] at e
    subst e
    rw [hl] at hh
    injection hh with hh
    injection hh with hh _
    subst hh
    simp at hcs
    have ht : t = [] := List.length_eq_zero_iff.1 (by omega)
    subst ht
    obtain rfl : L = 1 := by simpa using hlen
    simp [byteCells, Lib.byteCells] at htake
theorem lit_cell {w : World} {k : Nat} (hl : w.heap[k]? = some (.cells #[.int .u8 41] 5 (0, 0))) (j : Nat) (u : Value) (hu : (byteCells [41])[j]? = some u) : w.cell? ((⟨k, 0, none⟩ : Addr).add j) = some u := by
  have hadd : (⟨k, 0, none⟩ : Addr).add j = ⟨k, j, none⟩ := by unfold Addr.add; split <;> simp_all
  rw [hadd, cell_of_row _ _ j _ 5 (0, 0) hl]
  simp [byteCells, Lib.byteCells] at hu ⊢
  exact hu
theorem own_lt {w : World} {B n g : Nat} {v : Value} {xs : List Value} (h : w.ownsRow B 5 1 v n xs) (e : some g = v.ownBlock) : g < w.heap.size := by
  obtain ⟨cur, hh, _⟩ := own_heap h e
  exact (Array.getElem?_eq_some_iff.1 hh).1
theorem row_len {w : World} {B n : Nat} {v : Value} {xs : List Value} (h : w.ownsRow B 5 1 v n xs) : ∃ A0 c0, v = .slice A0 n c0 := by
  rcases row_form h with ⟨rfl, h0⟩ | ⟨g, cap, rfl, _⟩
  · exact ⟨none, 0, by rw [h0]⟩
  · exact ⟨_, _, rfl⟩
/-- What the law's region holds: the box's and the first Kid's cells. -/
def Held (wb : Nat) (ad : Addr) (A : Option Addr) (m c : Nat) (lo hi : Int) (r : Re) (A' : Option Addr) (c' : Nat) (w : World) : Prop :=
  w.cell? ⟨wb, 5, none⟩ = some (.slice A m c) ∧ w.cell? ⟨wb, 6, none⟩ = some (.int .i64 lo) ∧ w.cell? ⟨wb, 7, none⟩ = some (.int .i64 hi) ∧ At9 w ad r A' c'
theorem told_kids {k : Int} {S : S4} {ks : List Re} {lo hi n : Int} (h : told (.mk k S ks lo hi n) = true) : (k = 6 → (∃ x, ks = [x]) ∧ bound lo hi = true) ∧ (k = 7 → ∃ x, ks = [x]) ∧ (k ≠ 4 → k ≠ 5 → k ≠ 6 → k ≠ 7 → ks = []) := by
  simp only [told, Bool.and_eq_true] at h
  obtain ⟨_, _, h⟩ := h
  refine ⟨fun h6 => ?_, fun h7 => ?_, fun h4 h5 h6 h7 => ?_⟩
  · rw [if_pos h6, Bool.and_eq_true] at h
    rcases ks with _ | ⟨x, _ | ⟨y, t⟩⟩
    · simp at h
    · exact ⟨⟨x, rfl⟩, h.2⟩
    · simp at h
  · rw [if_neg (by omega), if_pos h7] at h
    simp only [Bool.and_eq_true, decide_eq_true_eq] at h
    exact List.length_eq_one_iff.1 h.2.2
  · rw [if_neg h6, if_neg h7, if_neg (by omega)] at h
    simp only [Bool.and_eq_true, decide_eq_true_eq] at h
    exact List.length_eq_zero_iff.1 h.2.2
set_option maxRecDepth 100000 in
set_option maxHeartbeats 4000000 in
theorem are_six (S : S4) (x : Re) (lo hi n : Int) (hx : AReC x) : AReC (.mk 6 S [x] lo hi n) := by
  intro B w0 w v t A c lv d g g' h hk hf hlv hl
  have hx1 : ∃ g1 g2, form x 0 d g1 = some g2 := by
    rw [form] at hf
    split at hf
    · rw [if_neg (by omega)] at hf
      exact formL_at (k := 0) hf rfl
    · cases hf
  have hb : bound lo hi = true := by
    rw [form] at hf
    split at hf
    · rename_i h1; exact ((told_kids h1.2).1 rfl).2
    · cases hf
  obtain ⟨g1, g2, hf1⟩ := hx1
  have hte : textE (.mk 6 S [x] lo hi n) = textE x ++ signT lo hi := by rw [textE, if_neg (by omega), if_neg (by omega), if_neg (by omega), if_neg (by omega), if_pos rfl, joinT, tailT, List.append_nil]
  rw [hte] at hl ⊢
  simp only [List.length_append] at hl
  have hsl := signT_ne lo hi
  obtain ⟨ad, A', c', rfl, hp, h9, hkr⟩ := kids_at (k := 0) hk (r := .mk 6 S [x] lo hi n) (x := x) rfl
  have hadd : ad.add (0 * 9) = ad := by unfold Addr.add; simp
  rw [hadd] at h9
  have h9w := h9.keep (w' := w) (fun o => h.below.cell hp) (h.below.cell hp)
  have hltw : ad.block < w.heap.size := Nat.lt_of_lt_of_le hp h.size
  have h9a : ∀ o, At9 (w.alloc o) ad x A' c' := fun o => h9w.keep (fun o' => World.cell?_alloc_lt w o ⟨ad.block, o', none⟩ hltw) (World.cell?_alloc_lt w o ad hltw)
  have HA9 : Hid (∀ w', Below B w0 w' → At9 w' ad x A' c') := Lib.hid fun w' hb' => h9.keep (fun o => hb'.cell hp) (hb'.cell hp)
  have K : ∀ w1, RowB B w0 w1 v t → Calls Tryd.prog 21 #[v, valR x A' c'] w1 (WrtC B w0 w1 v t (t ++ textE x)) := fun w1 h1 => hx B w0 w1 v t A' c' 0 d g1 g2 h1 hkr hf1 (by omega) (by rw [List.length_append]; omega)
  have KS : Hid (∀ w, Calls Tryd.prog 35 #[.int .i64 lo, .int .i64 hi] w fun e w' => e = .returned (.string ⟨(signT lo hi).toArray⟩) ∧ w = w') := Lib.hid fun w => (sign_any lo hi hb w).mono fun e w' ⟨a, b⟩ => ⟨a, b.symm⟩
  obtain ⟨sg, hsg⟩ : ∃ sg : ByteArray, sg = ⟨(signT lo hi).toArray⟩ := ⟨_, rfl⟩
  have hsgd : sg.data.toList = signT lo hi := by rw [hsg]
  have hsz : sg.size = (signT lo hi).length := by rw [← hsgd, len_data]
  rw [← hsg] at KS
  have HSB : Hid (Lib.strCells sg = byteCells (signT lo hi)) := Lib.hid (by rw [str_cells, hsgd])
  obtain ⟨sT, hsT⟩ : ∃ sT, sT = signT lo hi := ⟨_, rfl⟩
  obtain ⟨xT, hxT⟩ : ∃ xT, xT = textE x := ⟨_, rfl⟩
  rw [← hsT] at hl hsl hsz HSB ⊢
  rw [← hxT] at hl K ⊢
  have H := Lib.hid h
  obtain ⟨j0, hj, hy0, hy1, hy2⟩ := info_parts info5
  obtain ⟨k', S', ks', lo', hi', n'⟩ := x
  simp only [valR, List.length_singleton] at K ⊢
  have HKC := Lib.hid K
  obtain ⟨s0, hs0⟩ : ∃ s0 : Int, s0 = S.1.toNat := ⟨_, rfl⟩
  obtain ⟨s1, hs1⟩ : ∃ s1 : Int, s1 = S.2.1.toNat := ⟨_, rfl⟩
  obtain ⟨s2, hs2⟩ : ∃ s2 : Int, s2 = S.2.2.1.toNat := ⟨_, rfl⟩
  obtain ⟨s3, hs3⟩ : ∃ s3 : Int, s3 = S.2.2.2.toNat := ⟨_, rfl⟩
  rw [← hs0, ← hs1, ← hs2, ← hs3]
  obtain ⟨A0, c0, rfl⟩ := row_len h.row
  have H9A := Lib.hid h9a
  by_cases h200 : t.length ≤ 200
  · have b200 : decide ((200 : Int) < (t.length : Int)) = false := by simp; omega
    have b200' : decide (200 < t.length) = false := by simp; omega
    obtain ⟨e0, e1, e2, e3, e4, e5, e6, e7, e8⟩ := h9a (.cells #[.int .i64 6, .int .u64 s0, .int .u64 s1, .int .u64 s2, .int .u64 s3, .slice (some ad) 1 c, .int .i64 lo, .int .i64 hi, .int .i64 n] 27)
    clear h hk hf hb hte hadd h9 hkr h9w h9a hf1 K hsg hsgd hsT hxT hs0 hs1 hs2 hs3 hx
    go_enter Tryd.func21, Tryd.ntmps21
    go_wp2
    go_region_held3 (fun w' => (w'.cell? ⟨w.heap.size, 5, none⟩ = some (.slice (some ad) 1 c) ∧ w'.cell? ⟨w.heap.size, 6, none⟩ = some (.int .i64 lo) ∧ w'.cell? ⟨w.heap.size, 7, none⟩ = some (.int .i64 hi)) ∧ w'.cell? ad = some (.int .i64 k') ∧ w'.cell? ⟨ad.block, ad.off + 1, none⟩ = some (.int .u64 S'.1.toNat) ∧ w'.cell? ⟨ad.block, ad.off + 2, none⟩ = some (.int .u64 S'.2.1.toNat) ∧
        w'.cell? ⟨ad.block, ad.off + 3, none⟩ = some (.int .u64 S'.2.2.1.toNat) ∧ w'.cell? ⟨ad.block, ad.off + 4, none⟩ = some (.int .u64 S'.2.2.2.toNat) ∧ w'.cell? ⟨ad.block, ad.off + 5, none⟩ = some (.slice A' ks'.length c') ∧ w'.cell? ⟨ad.block, ad.off + 6, none⟩ = some (.int .i64 lo') ∧
        w'.cell? ⟨ad.block, ad.off + 7, none⟩ = some (.int .i64 hi') ∧ w'.cell? ⟨ad.block, ad.off + 8, none⟩ = some (.int .i64 n'))
      (first | go_keep | exact ⟨⟨q5, q6, q7⟩, u0, u1, u2, u3, u4, u5, u6, u7, u8⟩)
      (first
        | (go_at_call 21; ((with_reducible refine (HKC.out _ (H.out.alloc _).drew).mono ?_)); rintro e w5 ⟨v5, t5, rfl, hc5, hrow5, hk5, hk15⟩; obtain ⟨_, _, _, _, _, q5, q6, q7, _⟩ := box9 ((KeptT.drew _).trans hk5); obtain ⟨u0, u1, u2, u3, u4, u5, u6, u7, u8⟩ := HA9.out _ hrow5.below; have H5 := Lib.hid hrow5; have HC5 := Lib.hid hc5; have HK5 := Lib.hid hk5; have HK15 := Lib.hid hk15; have hl5 : t5.length ≤ 900000 := (by have := HC5.out.2.2; rw [List.length_append] at this; omega); clear hrow5 hc5 hk5 hk15)
        | (go_at_call 35; ((with_reducible refine (KS.out _).mono ?_)); rintro e w6 ⟨rfl, h6⟩; have H6 : Hid (RowB B w0 w6 v5 t5) := Lib.hid (h6 ▸ H5.out); have HK6 : Hid (KeptT _ w6) := Lib.hid (h6 ▸ HK5.out); have HK16 : Hid (1 ≤ t.length → Keeps1 _ _ w6 v5) := Lib.hid (h6 ▸ HK15.out); obtain ⟨_, _, _, _, _, q5, q6, q7, _⟩ := box9 ((KeptT.drew _).trans HK6.out); obtain ⟨u0, u1, u2, u3, u4, u5, u6, u7, u8⟩ := HA9.out _ H6.out.below; clear h6)
        | ((refine step_append_text _ (by rfl) (.tmp 46) (.tmp 51) 49 9 (by rfl) B 5 j0 Tryd.underlying49 Tryd.underlying9 hj hy0 hy1 hy2 _ _ _ (by rfl) H6.out.row sg (by rfl) (by rw [hsz]; unfold maxLen; omega) (by rw [hsz]; omega) H6.out.size ?_; intro v7 w7 hown7 hgrow7 _; obtain ⟨_, _, _, _, _, q5, q6, q7, _⟩ := box9 (((KeptT.drew _).trans HK6.out).trans (KeptT.grown H6.out.row hgrow7)); have hown8 := hown7; rw [HSB.out, hsz] at hown8; have H7 := Lib.hid (H6.out.bytes sT hown8 hgrow7); obtain ⟨u0, u1, u2, u3, u4, u5, u6, u7, u8⟩ := HA9.out _ H7.out.below; have HG7 := Lib.hid (KeptT.grown H6.out.row hgrow7); have HK17 : Hid (1 ≤ t5.length → Keeps1 _ v5 w7 v7) := Lib.hid (fun h1 => Keeps1.grown hown7 (by rw [hsz]; omega) hgrow7); clear hown7 hown8 hgrow7)))
    go_wp2
    go_ret
    refine ⟨_, t5 ++ sT, rfl, ?_, H7.out, (KeptT.alloc w _).trans ((KeptT.drew _).trans (HK6.out.trans HG7.out)), fun h1 => ((Keeps1.below _ (one_box w _)).trans (HK16.out h1)).trans (HK17.out (HC5.out.pos (by omega) (by rw [List.length_append]; omega)))⟩
    have := HC5.out.step (CutT.refl (t5 ++ sT))
    rw [List.append_assoc] at this
    exact this
  · have b200 : decide ((200 : Int) < (t.length : Int)) = true := by simp; omega
    have b200' : decide (200 < t.length) = true := by simp; omega
    clear h hk hf hb hte hadd h9 hkr h9w h9a hf1 K hsg hsgd hsT hxT hs0 hs1 hs2 hs3 hx
    go_enter Tryd.func21, Tryd.ntmps21
    go_wp2
    go_ret
    exact ⟨_, t, rfl, (CutT.refl t).past _ (by omega), H.out.alloc _, KeptT.alloc w _, fun _ => Keeps1.below _ (one_box w _)⟩
end
/- What is printed of a group: four orders of evaluation. -/
section
open Go Go.RowKit
attribute [local go_sem ↓] Go.wp_at_zero Go.wp_at_succ

/-- A box that holds a ), which isn't a row's own. -/
def Lit (w : World) (k : Nat) (v : Value) : Prop := w.heap[k]? = some (.cells #[.int .u8 41] 5 (0, 0)) ∧ some k ≠ v.ownBlock
theorem Lit.keeps {w w' : World} {v v' : Value} {k : Nat} (h : Lit w k v) (hk : Keeps1 w v w' v') : Lit w' k v' := hk k _ 5 h.1 h.2
theorem lit_new (w : World) {B n : Nat} {v : Value} {xs : List Value} (h : w.ownsRow B 5 1 v n xs) : Lit (w.alloc (.cells #[.int .u8 41] 5)) w.heap.size v :=
  ⟨heap_alloc_new w _, fun e => Nat.lt_irrefl _ (own_lt h e)⟩
theorem lit_new2 (w : World) (o : Obj) {B n : Nat} {v : Value} {xs : List Value} (h : (w.alloc o).ownsRow B 5 1 v n xs) : Lit ((w.alloc o).alloc (.cells #[.int .u8 41] 5)) (w.heap.size + 1) v := by
  have := lit_new (w.alloc o) h
  have e : (w.alloc o).heap.size = w.heap.size + 1 := by simp
  rw [e] at this
  exact this
theorem Lit.alloc {w : World} {k : Nat} {v : Value} (h : Lit w k v) (o : Obj) : Lit (w.alloc o) k v := ⟨by rw [Below.heap_alloc w o k (Array.getElem?_eq_some_iff.1 h.1).1]; exact h.1, h.2⟩
theorem Lit.grown {w w' : World} {k B L : Nat} {v v' : Value} {t : Bs} (h : Lit w k v) (hg : w.grownBy w' v.ownBlock) (ho : w'.ownsRow B 5 1 v' L (byteCells t ++ byteCells [40])) : Lit w' k v' := by
  have h1 : w'.heap[k]? = some (.cells #[.int .u8 41] 5 (0, 0)) := by rw [hg.block k (Array.getElem?_eq_some_iff.1 h.1).1 h.2]; exact h.1
  exact ⟨h1, lit_own ho h1⟩
set_option maxRecDepth 100000 in
set_option maxHeartbeats 4000000 in
theorem are_seven (S : S4) (x : Re) (lo hi n : Int) (hx : AReC x) : AReC (.mk 7 S [x] lo hi n) := by
  intro B w0 w v t A c lv d g g' h hk hf hlv hl
  have hx1 : ∃ g1 g2, form x 3 (d + 1) g1 = some g2 := by
    rw [form] at hf
    split at hf
    · rw [if_pos rfl] at hf
      split at hf
      · exact formL_at (k := 0) hf rfl
      · cases hf
    · cases hf
  obtain ⟨g1, g2, hf1⟩ := hx1
  have hte : textE (.mk 7 S [x] lo hi n) = [40] ++ (textE x ++ [41]) := by rw [textE, if_neg (by omega), if_neg (by omega), if_neg (by omega), if_pos rfl, joinT, tailT, List.append_nil]; rfl
  rw [hte] at hl ⊢
  simp only [List.length_append, List.length_singleton] at hl
  obtain ⟨ad, A', c', rfl, hp, h9, hkr⟩ := kids_at (k := 0) hk (r := .mk 7 S [x] lo hi n) (x := x) rfl
  have hadd : ad.add (0 * 9) = ad := by unfold Addr.add; simp
  rw [hadd] at h9
  have h9w := h9.keep (w' := w) (fun o => h.below.cell hp) (h.below.cell hp)
  have hltw : ad.block < w.heap.size := Nat.lt_of_lt_of_le hp h.size
  have h9a : ∀ o, At9 (w.alloc o) ad x A' c' := fun o => h9w.keep (fun o' => World.cell?_alloc_lt w o ⟨ad.block, o', none⟩ hltw) (World.cell?_alloc_lt w o ad hltw)
  have HA9 : Hid (∀ w', Below B w0 w' → At9 w' ad x A' c') := Lib.hid fun w' hb' => h9.keep (fun o => hb'.cell hp) (hb'.cell hp)
  have K : ∀ w1 v1, RowB B w0 w1 v1 (t ++ [40]) → Calls Tryd.prog 21 #[v1, valR x A' c'] w1 (WrtC B w0 w1 v1 (t ++ [40]) (t ++ [40] ++ textE x)) := fun w1 v1 h1 => hx B w0 w1 v1 _ A' c' 3 (d + 1) g1 g2 h1 hkr hf1 (by omega) (by simp only [List.length_append, List.length_singleton]; omega)
  obtain ⟨xT, hxT⟩ : ∃ xT, xT = textE x := ⟨_, rfl⟩
  rw [← hxT] at hl K ⊢
  have H := Lib.hid h
  obtain ⟨j0, hj, hy0, hy1, hy2⟩ := info_parts info5
  obtain ⟨k', S', ks', lo', hi', n'⟩ := x
  simp only [valR, List.length_singleton] at K ⊢
  have HKC := Lib.hid K
  obtain ⟨s0, hs0⟩ : ∃ s0 : Int, s0 = S.1.toNat := ⟨_, rfl⟩
  obtain ⟨s1, hs1⟩ : ∃ s1 : Int, s1 = S.2.1.toNat := ⟨_, rfl⟩
  obtain ⟨s2, hs2⟩ : ∃ s2 : Int, s2 = S.2.2.1.toNat := ⟨_, rfl⟩
  obtain ⟨s3, hs3⟩ : ∃ s3 : Int, s3 = S.2.2.2.toNat := ⟨_, rfl⟩
  rw [← hs0, ← hs1, ← hs2, ← hs3]
  obtain ⟨A0, c0, rfl⟩ := row_len h.row
  by_cases h200 : t.length ≤ 200
  · have b200 : decide ((200 : Int) < (t.length : Int)) = false := by simp; omega
    have b200' : decide (200 < t.length) = false := by simp; omega
    obtain ⟨w1, hw1⟩ : ∃ w1, w1 = w.alloc (.cells #[.int .i64 7, .int .u64 s0, .int .u64 s1, .int .u64 s2, .int .u64 s3, .slice (some ad) 1 c, .int .i64 lo, .int .i64 hi, .int .i64 n] 27) := ⟨_, rfl⟩
    have HW1 := Lib.hid hw1
    have H1 : Hid (RowB B w0 w1 (.slice A0 t.length c0) t) := Lib.hid (by rw [hw1]; exact h.alloc _)
    have HBX : Hid (∀ w', KeptT w1 w' → w'.cell? ⟨w.heap.size, 5, none⟩ = some (.slice (some ad) 1 c)) := Lib.hid fun w' hk' => by
      obtain ⟨_, _, _, _, _, q5, _⟩ := box9 (hw1 ▸ hk'); exact q5
    have e5 := HBX.out w1 (KeptT.refl _)
    have e5a : ∀ o, (w1.alloc o).cell? ⟨w.heap.size, 5, none⟩ = some (.slice (some ad) 1 c) := fun o => HBX.out _ (KeptT.alloc _ _)
    have e5b : ∀ o o', ((w1.alloc o).alloc o').cell? ⟨w.heap.size, 5, none⟩ = some (.slice (some ad) 1 c) := fun o o' => HBX.out _ ((KeptT.alloc _ _).trans (KeptT.alloc _ _))
    obtain ⟨u0, u1, u2, u3, u4, u5, u6, u7, u8⟩ := HA9.out _ H1.out.below
    have ua : ∀ o, At9 (w1.alloc o) ad (Re.mk k' S' ks' lo' hi' n') A' c' := fun o => HA9.out _ (H1.out.alloc o).below
    have ub : ∀ o o', At9 ((w1.alloc o).alloc o') ad (Re.mk k' S' ks' lo' hi' n') A' c' := fun o o' => HA9.out _ ((H1.out.alloc o).alloc o').below
    have HUA := Lib.hid ua
    have HUB := Lib.hid ub
    have HE5A := Lib.hid e5a
    have HE5B := Lib.hid e5b
    clear h hk hf hte hadd h9 hkr h9w h9a hf1 K hxT hs0 hs1 hs2 hs3 hx ua ub e5a e5b
    go_enter Tryd.func21, Tryd.ntmps21
    go_wp2
    rw [← HW1.out]
    clear hw1
    go_region_held3 (fun w' => w'.cell? ⟨w.heap.size, 5, none⟩ = some (.slice (some ad) 1 c) ∧ w'.cell? ad = some (.int .i64 k') ∧ w'.cell? ⟨ad.block, ad.off + 1, none⟩ = some (.int .u64 S'.1.toNat) ∧ w'.cell? ⟨ad.block, ad.off + 2, none⟩ = some (.int .u64 S'.2.1.toNat) ∧
        w'.cell? ⟨ad.block, ad.off + 3, none⟩ = some (.int .u64 S'.2.2.1.toNat) ∧ w'.cell? ⟨ad.block, ad.off + 4, none⟩ = some (.int .u64 S'.2.2.2.toNat) ∧ w'.cell? ⟨ad.block, ad.off + 5, none⟩ = some (.slice A' ks'.length c') ∧ w'.cell? ⟨ad.block, ad.off + 6, none⟩ = some (.int .i64 lo') ∧
        w'.cell? ⟨ad.block, ad.off + 7, none⟩ = some (.int .i64 hi') ∧ w'.cell? ⟨ad.block, ad.off + 8, none⟩ = some (.int .i64 n'))
      (first | go_keep | exact ⟨e5, u0, u1, u2, u3, u4, u5, u6, u7, u8⟩ | exact ⟨HE5A.out _, HUA.out _⟩ | exact ⟨HE5B.out _ _, HUB.out _ _⟩ | exact ⟨HBX.out _ (HK3.out.trans (KeptT.alloc _ _)), HA9.out _ (H3.out.alloc _).below⟩ | exact ⟨HBX.out _ (HK5.out.trans (KeptT.alloc _ _)), HA9.out _ (H5.out.alloc _).below⟩)
      (first
        | (go_at_call 21; ((with_reducible refine (HKC.out _ _ (by first | exact H3.out | exact H3.out.alloc _)).mono ?_)); rintro e w5 ⟨v5, t5, rfl, hc5, hrow5, hk5, hk15⟩; have HK5 : Hid (KeptT w1 w5) := Lib.hid (by first | exact HK3.out.trans hk5 | exact (HK3.out.trans (KeptT.alloc _ _)).trans hk5); have HK15 : Hid (1 ≤ t.length → Keeps1 w1 (.slice A0 t.length c0) w5 v5) := Lib.hid (by first | exact fun h => (HK13.out h).trans (hk15 (by simp)) | exact fun h => (HK13.out h).trans ((Keeps1.below _ (one_box w3 _)).trans (hk15 (by simp)))); (first | (have HL5 := Lib.hid (HL3.out.keeps (hk15 (by simp)))) | (have HL5 := Lib.hid ((lit_new w3 H3.out.row).keeps (hk15 (by simp)))) | skip); have e5 := HBX.out _ HK5.out; obtain ⟨u0, u1, u2, u3, u4, u5, u6, u7, u8⟩ := HA9.out _ hrow5.below; have H5 := Lib.hid hrow5; have HC5 := Lib.hid hc5; have hl5 : t5.length ≤ 900000 := (by have := HC5.out.2.2; simp only [List.length_append, List.length_singleton] at this; omega); clear hrow5 hc5 hk5 hk15)
        | ((refine step_append_own _ (by rfl) (.tmp 55) (.tmp 56) 49 (by rfl) B 5 j0 (.int .u8 0) 1 1 Tryd.underlying49 hj hy0 hy1 hy2 (by rfl) (by decide) _ _ _ (by rfl) (by first | exact (H1.out.drew.alloc _).row | exact ((H1.out.drew.alloc _).alloc _).row) _ 1 1 (byteCells [40]) (by rfl) (by rfl) (by first | exact fun j u hu => new_cells _ 5 #[.int .u8 40] j u hu | exact fun j u hu => new_under _ _ 5 #[.int .u8 40] j u hu | exact fun j u hu => new_cells2 _ _ 5 #[.int .u8 40] j u hu) (bytes_one _) (by unfold maxLen; omega) (by omega) (by first | exact (H1.out.drew.alloc _).size | exact ((H1.out.drew.alloc _).alloc _).size) ?_; intro v3 w3 hown3 hgrow3 _; have HK3 : Hid (KeptT w1 w3) := Lib.hid (by first | exact ((KeptT.drew w1).trans (KeptT.alloc _ _)).trans (KeptT.grown (H1.out.drew.alloc _).row hgrow3) | exact (((KeptT.drew w1).trans (KeptT.alloc _ _)).trans (KeptT.alloc _ _)).trans (KeptT.grown ((H1.out.drew.alloc _).alloc _).row hgrow3)); have H3 : Hid (RowB B w0 w3 v3 (t ++ [40])) := Lib.hid (by first | exact (H1.out.drew.alloc _).bytes [40] hown3 hgrow3 | exact ((H1.out.drew.alloc _).alloc _).bytes [40] hown3 hgrow3); have HK13 : Hid (1 ≤ t.length → Keeps1 w1 (.slice A0 t.length c0) w3 v3) := Lib.hid (by first | exact fun h => (Keeps1.below _ (one_box w1.drew _)).trans (Keeps1.grown hown3 (by omega) hgrow3) | exact fun h => (Keeps1.below _ (two_boxes w1.drew _ _)).trans (Keeps1.grown hown3 (by omega) hgrow3)); (first | (have HL3 : Hid (Lit w3 (w1.heap.size + 1) v3) := Lib.hid ((lit_new2 w1.drew _ (H1.out.drew.alloc _).row).grown hgrow3 hown3)) | (have HL3 : Hid (Lit w3 w1.heap.size v3) := Lib.hid (((lit_new w1.drew H1.out.drew.row).alloc _).grown hgrow3 hown3)) | skip); have e5 := HBX.out _ HK3.out; obtain ⟨u0, u1, u2, u3, u4, u5, u6, u7, u8⟩ := HA9.out _ H3.out.below; clear hown3 hgrow3))
        | ((refine step_append_own _ (by rfl) (.tmp 62) (.tmp 63) 49 (by rfl) B 5 j0 (.int .u8 0) 1 1 Tryd.underlying49 hj hy0 hy1 hy2 (by rfl) (by decide) _ _ _ (by rfl) (by first | exact H5.out.row | exact (H5.out.alloc _).row) _ 1 1 (byteCells [41]) (by rfl) (by rfl) (by first | exact fun j u hu => new_cells w5 5 #[.int .u8 41] j u hu | exact fun j u hu => lit_cell HL5.out.1 j u hu) (bytes_one _) (by unfold maxLen; omega) (by omega) (by first | exact H5.out.size | exact (H5.out.alloc _).size) ?_; intro v7 w7 hown7 hgrow7 _; have H7 : Hid (RowB B w0 w7 v7 (t5 ++ [41])) := Lib.hid (by first | exact H5.out.bytes [41] hown7 hgrow7 | exact (H5.out.alloc _).bytes [41] hown7 hgrow7); have HK7 : Hid (KeptT w1 w7) := Lib.hid (by first | exact HK5.out.trans (KeptT.grown H5.out.row hgrow7) | exact (HK5.out.trans (KeptT.alloc _ _)).trans (KeptT.grown (H5.out.alloc _).row hgrow7)); have HK17 : Hid (1 ≤ t5.length → Keeps1 w5 v5 w7 v7) := Lib.hid (by first | exact fun h => Keeps1.grown hown7 (by omega) hgrow7 | exact fun h => (Keeps1.below _ (one_box w5 _)).trans (Keeps1.grown hown7 (by omega) hgrow7)); have e5 := HBX.out _ HK7.out; obtain ⟨u0, u1, u2, u3, u4, u5, u6, u7, u8⟩ := HA9.out _ H7.out.below; clear hown7 hgrow7))
        | fail)
    all_goals (
      go_wp2
      go_ret
      refine ⟨_, t5 ++ [41], rfl, ?_, H7.out, ?_, fun h1 => ?_⟩
      · have := HC5.out.step (CutT.refl (t5 ++ [41]))
        rw [List.append_assoc, List.append_assoc] at this
        exact this
      · exact (show KeptT w w1 by rw [HW1.out]; exact KeptT.alloc w _).trans HK7.out
      · exact ((show Keeps1 w _ w1 _ by rw [HW1.out]; exact Keeps1.below _ (one_box w _)).trans (HK15.out h1)).trans (HK17.out (HC5.out.pos (by omega) (by simp only [List.length_append, List.length_singleton]; omega))))
  · have b200 : decide ((200 : Int) < (t.length : Int)) = true := by simp; omega
    have b200' : decide (200 < t.length) = true := by simp; omega
    clear h hk hf hte hadd h9 hkr h9w h9a hf1 K hxT hs0 hs1 hs2 hs3 hx
    go_enter Tryd.func21, Tryd.ntmps21
    go_wp2
    go_ret
    exact ⟨_, t, rfl, (CutT.refl t).past _ (by omega), H.out.alloc _, KeptT.alloc w _, fun _ => Keeps1.below _ (one_box w _)⟩
end
/- The code's Print and May. -/
section
open Go Go.RowKit

theorem joinT_count {sep : Bs} {ks : List Re} (h : ∀ x ∈ ks, 1 ≤ (textE x).length + sep.length) : ks.length ≤ (joinT sep ks).length + 1 := by
  have tl : ∀ l : List Re, (∀ x ∈ l, 1 ≤ (textE x).length + sep.length) → l.length ≤ (tailT sep l).length := by
    intro l
    induction l with
    | nil => intro _; simp
    | cons x l ih =>
      intro hl
      have := ih (fun y hy => hl y (by simp [hy]))
      have := hl x (by simp)
      rw [tailT]; simp only [List.length_append, List.length_cons]; omega
  cases ks with
  | nil => simp
  | cons x l =>
    have := tl l (fun y hy => h y (by simp [hy]))
    rw [joinT]; simp only [List.length_append, List.length_cons]; omega
theorem textE_other {k : Int} {S : S4} {ks : List Re} {lo hi n : Int} (h1 : k ≠ 1) (h2 : k ≠ 2) (h3 : k ≠ 3) (h6 : k ≠ 6) (h7 : k ≠ 7) : textE (.mk k S ks lo hi n) = joinT (if k = 5 then [124] else []) ks := by
  rw [textE, if_neg h1, if_neg h2, if_neg h3, if_neg h7, if_neg h6]
set_option maxRecDepth 100000 in
set_option maxHeartbeats 4000000 in
theorem are_any (r : Re) : AReC r := by
  induction r using Re.ind with
  | h k S ks lo hi n ih =>
    by_cases k6 : k = 6
    · subst k6
      intro B w0 w v t A c lv d g g' h hk hf hlv hl
      have hks : ∃ x, ks = [x] := by
        have hf2 := hf
        rw [form] at hf2
        split at hf2
        · rename_i h1; exact ((told_kids h1.2).1 rfl).1
        · cases hf2
      obtain ⟨x, rfl⟩ := hks
      exact are_six S x lo hi n (ih x (by simp)) B w0 w v t A c lv d g g' h hk hf hlv hl
    · by_cases k7 : k = 7
      · subst k7
        intro B w0 w v t A c lv d g g' h hk hf hlv hl
        have hks : ∃ x, ks = [x] := by
          have hf2 := hf
          rw [form] at hf2
          split at hf2
          · rename_i h1; exact (told_kids h1.2).2.1 rfl
          · cases hf2
        obtain ⟨x, rfl⟩ := hks
        exact are_seven S x lo hi n (ih x (by simp)) B w0 w v t A c lv d g g' h hk hf hlv hl
      · intro B w0 w v t A c lv d g g' h hk hf hlv hl
        have hf2 := hf
        rw [form] at hf2
        split at hf2
        · rename_i hh
          obtain ⟨hlev, ht⟩ := hh
          have hkz := (told_kids ht).2.2
          obtain ⟨A0, c0, rfl⟩ := row_len h.row
          have H := Lib.hid h
          have HK := Lib.hid hk
          obtain ⟨j0, hj, hy0, hy1, hy2⟩ := info_parts info5
          by_cases h200 : t.length ≤ 200
          · have b200 : decide ((200 : Int) < (t.length : Int)) = false := by simp; omega
            have b200' : decide (200 < t.length) = false := by simp; omega
            have K33 := Lib.hid fun w1 h1 => aset_any B w0 w1 (.slice A0 t.length c0) t S (by omega) h1
            by_cases k1 : k = 1
            · subst k1
              have hte : textE (.mk 1 S ks lo hi n) = setText S := by rw [textE, if_pos rfl]
              rw [hte]
              simp only [valR]
              obtain ⟨m, hm⟩ : ∃ m, m = ks.length := ⟨_, rfl⟩
              rw [← hm]
              obtain ⟨s0, hs0⟩ : ∃ s0 : Int, s0 = S.1.toNat := ⟨_, rfl⟩
              obtain ⟨s1, hs1⟩ : ∃ s1 : Int, s1 = S.2.1.toNat := ⟨_, rfl⟩
              obtain ⟨s2, hs2⟩ : ∃ s2 : Int, s2 = S.2.2.1.toNat := ⟨_, rfl⟩
              obtain ⟨s3, hs3⟩ : ∃ s3 : Int, s3 = S.2.2.2.toNat := ⟨_, rfl⟩
              rw [← hs0, ← hs1, ← hs2, ← hs3] at K33 ⊢
              clear h hk hf hf2 hlev ht hkz hs0 hs1 hs2 hs3 hm ih hl hte
              go_enter Tryd.func21, Tryd.ntmps21
              go_wp2_with (go_at_call 33; ((with_reducible refine (K33.out _ (H.out.alloc _)).mono ?_)); rintro e w5 ⟨v5, rfl, hrow5, hk5, hk15⟩)
              go_ret
              exact ⟨_, _, rfl, CutT.refl _, hrow5, (KeptT.alloc w _).trans hk5, fun h1 => (Keeps1.below _ (one_box w _)).trans (hk15 h1)⟩
            · by_cases k2 : k = 2
              · subst k2
                have hte : textE (.mk 2 S ks lo hi n) = [94] := by rw [textE, if_neg k1, if_pos rfl]
                rw [hte]
                simp only [valR]
                obtain ⟨m, hm⟩ : ∃ m, m = ks.length := ⟨_, rfl⟩
                rw [← hm]
                clear h hk hf hf2 hlev ht hkz hm ih hl hte K33
                go_enter Tryd.func21, Tryd.ntmps21
                go_wp2_with (at_builtin; refine wpList_append_own _ rfl (.tmp 19) (.tmp 20) 49 rfl B 5 j0 (.int .u8 0) 1 1 Tryd.underlying49 hj hy0 hy1 hy2 rfl (by decide) _ _ _ rfl ((H.out.alloc _).alloc _).row ⟨w.heap.size + 1, 0, none⟩ 1 1 (byteCells [94]) rfl rfl (fun j u hu => new_cells2 _ _ 5 #[.int .u8 94] j u hu) (bytes_one _) (by unfold maxLen; omega) (by omega) ((H.out.alloc _).alloc _).size ?_; intro v5 w5 hown5 hgrow5 _)
                go_ret
                exact ⟨_, _, rfl, CutT.refl _, ((H.out.alloc _).alloc _).bytes [94] hown5 hgrow5, ((KeptT.alloc w _).trans (KeptT.alloc _ _)).trans (KeptT.grown ((H.out.alloc _).alloc _).row hgrow5), fun h1 => (Keeps1.below _ (two_boxes w _ _)).trans (Keeps1.grown hown5 (by omega) hgrow5)⟩
              · by_cases k3 : k = 3
                · subst k3
                  have hte : textE (.mk 3 S ks lo hi n) = [36] := by rw [textE, if_neg k1, if_neg k2, if_pos rfl]
                  rw [hte]
                  simp only [valR]
                  obtain ⟨m, hm⟩ : ∃ m, m = ks.length := ⟨_, rfl⟩
                  rw [← hm]
                  clear h hk hf hf2 hlev ht hkz hm ih hl hte K33
                  go_enter Tryd.func21, Tryd.ntmps21
                  go_wp2_with (at_builtin; refine wpList_append_own _ rfl (.tmp 24) (.tmp 25) 49 rfl B 5 j0 (.int .u8 0) 1 1 Tryd.underlying49 hj hy0 hy1 hy2 rfl (by decide) _ _ _ rfl ((H.out.alloc _).alloc _).row ⟨w.heap.size + 1, 0, none⟩ 1 1 (byteCells [36]) rfl rfl (fun j u hu => new_cells2 _ _ 5 #[.int .u8 36] j u hu) (bytes_one _) (by unfold maxLen; omega) (by omega) ((H.out.alloc _).alloc _).size ?_; intro v5 w5 hown5 hgrow5 _)
                  go_ret
                  exact ⟨_, _, rfl, CutT.refl _, ((H.out.alloc _).alloc _).bytes [36] hown5 hgrow5, ((KeptT.alloc w _).trans (KeptT.alloc _ _)).trans (KeptT.grown ((H.out.alloc _).alloc _).row hgrow5), fun h1 => (Keeps1.below _ (two_boxes w _ _)).trans (Keeps1.grown hown5 (by omega) hgrow5)⟩
                · have hte := textE_other (S := S) (ks := ks) (lo := lo) (hi := hi) (n := n) k1 k2 k3 k6 k7
                  by_cases k4 : k = 4
                  · subst k4
                    have hne1 : ∀ x ∈ ks, 1 ≤ (textE x).length := fun x hx => by
                      obtain ⟨i, hi1, hi2⟩ := List.getElem_of_mem hx
                      obtain ⟨g1, g2, hx2⟩ := formL_at (k := i) hf2 (r := x) (by rw [← hi2]; exact List.getElem?_eq_getElem hi1)
                      exact text_ne hx2
                    rw [hte, if_neg (by omega)] at hl ⊢
                    have hlen := joinT_count (sep := []) (fun x hx => Nat.le_trans (hne1 x hx) (Nat.le_add_right _ _))
                    have K34 := Lib.hid fun w1 (h1 : RowB B w0 w1 (.slice A0 t.length c0) t) => akids_any ks ih ⟨#[]⟩ (by show 0 ≤ 1; omega) B w0 w1 (.slice A0 t.length c0) t A c (levK 4) d g g' h1 (kids_kids hk) hf2 (by show 1 ≤ 3; omega) hl (by rw [List.length_append] at hl; have hlen : ks.length ≤ (joinT [] ks).length + 1 := hlen; omega) (fun _ => hne1)
                    simp only [valR]
                    obtain ⟨m, hm⟩ : ∃ m, m = ks.length := ⟨_, rfl⟩
                    rw [← hm] at K34 ⊢
                    have hJ : ((⟨#[]⟩ : ByteArray).data.toList) = ([] : Bs) := rfl
                    rw [hJ] at K34
                    obtain ⟨J, hJ2⟩ : ∃ J, J = joinT [] ks := ⟨_, rfl⟩
                    rw [← hJ2] at K34 ⊢
                    clear h hk hf hf2 hlev ht hkz hm ih hl hte K33 hne1 hlen hJ hJ2
                    go_enter Tryd.func21, Tryd.ntmps21
                    go_wp2_with (go_at_call 34; ((with_reducible refine (K34.out _ (H.out.alloc _)).mono ?_)); rintro e w5 ⟨v5, t5, rfl, hc5, hrow5, hk5, hk15⟩)
                    go_ret
                    exact ⟨_, _, rfl, hc5, hrow5, (KeptT.alloc w _).trans hk5, fun h1 => (Keeps1.below _ (one_box w _)).trans (hk15 h1)⟩
                  · by_cases k5 : k = 5
                    · subst k5
                      rw [hte, if_pos rfl] at hl ⊢
                      have hlen := joinT_count (sep := [124]) (ks := ks) (fun x hx => by simp)
                      have K34 := Lib.hid fun w1 (h1 : RowB B w0 w1 (.slice A0 t.length c0) t) => akids_any ks ih ⟨#[124]⟩ (by show 1 ≤ 1; omega) B w0 w1 (.slice A0 t.length c0) t A c (levK 5) d g g' h1 (kids_kids hk) hf2 (by show 2 ≤ 3; omega) hl (by rw [List.length_append] at hl; omega) (fun h0 => by exact absurd h0 (by decide))
                      simp only [valR]
                      obtain ⟨m, hm⟩ : ∃ m, m = ks.length := ⟨_, rfl⟩
                      rw [← hm] at K34 ⊢
                      have hJ : ((⟨#[124]⟩ : ByteArray).data.toList) = ([124] : Bs) := rfl
                      rw [hJ] at K34
                      obtain ⟨J, hJ2⟩ : ∃ J, J = joinT [124] ks := ⟨_, rfl⟩
                      rw [← hJ2] at K34 ⊢
                      clear h hk hf hf2 hlev ht hkz hm ih hl hte K33 hlen hJ hJ2
                      go_enter Tryd.func21, Tryd.ntmps21
                      go_wp2_with (go_at_call 34; ((with_reducible refine (K34.out _ (H.out.alloc _)).mono ?_)); rintro e w5 ⟨v5, t5, rfl, hc5, hrow5, hk5, hk15⟩)
                      go_ret
                      exact ⟨_, _, rfl, hc5, hrow5, (KeptT.alloc w _).trans hk5, fun h1 => (Keeps1.below _ (one_box w _)).trans (hk15 h1)⟩
                    · have hks := hkz k4 k5 k6 k7
                      subst hks
                      have e0 : textE (.mk k S [] lo hi n) = [] := by rw [hte, joinT]
                      rw [e0, List.append_nil]
                      simp only [valR]
                      have b1 : (k == 1) = false := by simp [k1]
                      have b2 : (k == 2) = false := by simp [k2]
                      have b3 : (k == 3) = false := by simp [k3]
                      have b4 : (k == 4) = false := by simp [k4]
                      have b5 : (k == 5) = false := by simp [k5]
                      have b6 : (k == 6) = false := by simp [k6]
                      have b7 : (k == 7) = false := by simp [k7]
                      clear h hk hf hf2 hlev ht hkz ih hl hte K33 e0 k1 k2 k3 k4 k5 k6 k7
                      go_enter Tryd.func21, Tryd.ntmps21
                      go_wp2
                      go_ret
                      exact ⟨_, t, rfl, CutT.refl _, H.out.alloc _, KeptT.alloc w _, fun _ => Keeps1.below _ (one_box w _)⟩
          · have b200 : decide ((200 : Int) < (t.length : Int)) = true := by simp; omega
            have b200' : decide (200 < t.length) = true := by simp; omega
            simp only [valR]
            obtain ⟨m, hm⟩ : ∃ m, m = ks.length := ⟨_, rfl⟩
            rw [← hm]
            obtain ⟨T, hT⟩ : ∃ T, T = textE (.mk k S ks lo hi n) := ⟨_, rfl⟩
            rw [← hT]
            clear h hk hf hf2 hlev ht hkz hm ih hl hT k6 k7
            go_enter Tryd.func21, Tryd.ntmps21
            go_wp2
            go_ret
            exact ⟨_, t, rfl, (CutT.refl t).past _ (by omega), H.out.alloc _, KeptT.alloc w _, fun _ => Keeps1.below _ (one_box w _)⟩
        · cases hf2
end
/- The code's Print and May, for expressions of up to 600 kinds. -/
section
open Go Go.RowKit

theorem signT_len (lo hi : Int) : (signT lo hi).length ≤ 5 := by
  unfold signT
  split
  · simp
  · split
    · simp
    · split
      · simp
      · split
        · simp
        · split <;> simp
theorem text_len (r : Re) : (textE r).length + 1 ≤ 1310 * sizeE r := by
  induction r using Re.ind with
  | h k S ks lo hi n ih =>
    have tl : ∀ (sep : Bs), sep.length ≤ 1 → ∀ l : List Re, (∀ x ∈ l, (textE x).length + 1 ≤ 1310 * sizeE x) → (tailT sep l).length ≤ 1310 * sizeL l := by
      intro sep hs l
      induction l with
      | nil => intro _; simp [tailT]
      | cons x l ih2 =>
        intro h
        have h1 := h x (by simp)
        have h2 := ih2 (fun y hy => h y (by simp [hy]))
        rw [tailT, sizeL]; simp only [List.length_append]; omega
    have jl : ∀ (sep : Bs), sep.length ≤ 1 → (joinT sep ks).length ≤ 1310 * sizeL ks := by
      intro sep hs
      cases ks with
      | nil => simp [joinT]
      | cons x l =>
        have h1 := ih x (by simp)
        have h2 := tl sep hs l (fun y hy => ih y (by simp [hy]))
        rw [joinT, sizeL]; simp only [List.length_append]; omega
    have j0 := jl [] (by simp)
    have j1 := jl [124] (by simp)
    have hs := setText_len S
    have hg := signT_len lo hi
    rw [textE, sizeE]
    split
    · omega
    · split
      · simp; omega
      · split
        · simp; omega
        · split
          · simp only [List.length_cons, List.length_append, List.length_nil]; omega
          · split
            · simp only [List.length_append]; omega
            · split <;> omega
def printE (r : Re) : ByteArray × Int := match form r 3 0 0 with
  | none => (⟨#[]⟩, 5)
  | some _ => if 200 < (textE r).length then (⟨#[]⟩, 2) else (⟨(textE r).toArray⟩, 0)
set_option maxRecDepth 100000 in
theorem text_conv {w : World} {B g cap : Nat} {t : Bs} (h : w.ownsRow B 5 1 (.slice (some ⟨g, 0, none⟩) t.length cap) t.length (byteCells t)) :
    (convert 49 9 (.slice (some ⟨g, 0, none⟩) t.length cap)).run Tryd.prog w = .ok (.string ⟨t.toArray⟩) w := by
  refine run_convert_bytes_back (P := Tryd.prog) w 49 9 5 ⟨g, 0, none⟩ cap t Tryd.underlying49 Tryd.underlying5 Tryd.underlying9 ?_
  intro j hj
  exact h.cells (g := g) rfl j _ (by simp [byteCells, Lib.byteCells, hj])
set_option maxRecDepth 100000 in
theorem nil_conv (w : World) : (convert 49 9 (.slice none 0 0)).run Tryd.prog w = .ok (.string ⟨#[]⟩) w := by
  rw [run_convert_bytes_string w 49 9 5 none 0 0 Tryd.underlying49 Tryd.underlying5 Tryd.underlying9]
  rfl
set_option maxRecDepth 100000 in
theorem conv_row {w : World} {B cap : Nat} {A : Option Addr} {t : Bs} (h : w.ownsRow B 5 1 (.slice A t.length cap) t.length (byteCells t)) : (convert 49 9 (.slice A t.length cap)).run Tryd.prog w = .ok (.string ⟨t.toArray⟩) w := by
  rcases row_form h with ⟨e, h0⟩ | ⟨g, cap', e, _⟩
  · have ht : t = [] := List.length_eq_zero_iff.1 h0
    injection e with e1 e2 e3
    subst e1 e3
    subst ht
    exact nil_conv w
  · injection e with e1 e2 e3
    subst e1 e3
    exact text_conv h
theorem shp_new (w : World) : Shp w.heap.size (w.alloc (.cells #[.int .i64 0] 47)) 0 := ⟨by simp [go_sem], by simp [go_sem]⟩
def PostW (w : World) (R : ByteArray × Int) (e : Ending) (w' : World) : Prop := e = .returned (.tuple #[.string R.1, .int .i64 R.2]) ∧ Below w.heap.size w w'
set_option maxRecDepth 100000 in
set_option maxHeartbeats 4000000 in
theorem print_any (r : Re) (A : Option Addr) (c : Nat) (w : World) (hk : Kids (Lt w.heap.size) w A r) (hs : sizeE r ≤ 600) :
    Calls Tryd.prog 9 #[valR r A c] w (PostW w (printE r)) := by
  obtain ⟨R, hR⟩ : ∃ R, R = printE r := ⟨_, rfl⟩
  rw [← hR]
  unfold printE at hR
  have htl := text_len r
  obtain ⟨F, hF⟩ : ∃ F, F = form r 3 0 0 := ⟨_, rfl⟩
  rw [← hF] at hR
  have K20 : Hid (∀ w1, Below w.heap.size w w1 → Shp (w.heap.size + 1) w1 0 → Calls Tryd.prog 20 #[.pointer (some ⟨w.heap.size + 1, 0, none⟩), valR r A c, .int .i64 3, .int .i64 0] w1 (PostF (w.heap.size + 1) w1 F)) := Lib.hid fun w1 h1 h2 => by
    rw [hF]
    exact fits_any r (w.heap.size + 1) 0 A c 3 0 w1 (hk.mk_off h1 (by omega)) h2 (by omega) (by omega) (by omega)
  have K21 : Hid (∀ w1 g, F = some g → Below w.heap.size w w1 → Calls Tryd.prog 21 #[.slice none 0 0, valR r A c] w1 (WrtC w1.heap.size w1 w1 (.slice none 0 0) [] (textE r))) := Lib.hid fun w1 g h1 h2 =>
    are_any r w1.heap.size w1 w1 (.slice none 0 0) [] A c 3 0 0 g (Row1.nil 5 1 w1) (hk.next h2) (hF.symm.trans h1) (by omega) (by simp; omega)
  obtain ⟨T, hT⟩ : ∃ T, T = textE r := ⟨_, rfl⟩
  rw [← hT] at hR K21 htl
  clear hk hF hT
  obtain ⟨k, S, ks, lo, hi, n⟩ := r
  simp only [valR] at K20 K21 ⊢
  obtain ⟨m, hm⟩ : ∃ m, m = ks.length := ⟨_, rfl⟩
  rw [← hm] at K20 K21 ⊢
  obtain ⟨s0, hs0⟩ : ∃ s0 : Int, s0 = S.1.toNat := ⟨_, rfl⟩
  obtain ⟨s1, hs1⟩ : ∃ s1 : Int, s1 = S.2.1.toNat := ⟨_, rfl⟩
  obtain ⟨s2, hs2⟩ : ∃ s2 : Int, s2 = S.2.2.1.toNat := ⟨_, rfl⟩
  obtain ⟨s3, hs3⟩ : ∃ s3 : Int, s3 = S.2.2.2.toNat := ⟨_, rfl⟩
  rw [← hs0, ← hs1, ← hs2, ← hs3] at K20 K21 ⊢
  have HBX : Hid (∀ w1, ((w.alloc (.cells #[.int .i64 k, .int .u64 s0, .int .u64 s1, .int .u64 s2, .int .u64 s3, .slice A m c, .int .i64 lo, .int .i64 hi, .int .i64 n] 27)).alloc (.cells #[.int .i64 0] 47)).grownBy w1 (some (w.heap.size + 1)) → ∀ j u, (#[.int .i64 k, .int .u64 s0, .int .u64 s1, .int .u64 s2, .int .u64 s3, .slice A m c, .int .i64 lo, .int .i64 hi, .int .i64 n] : Array Value)[j]? = some u → w1.cell? ⟨w.heap.size, j, none⟩ = some u) := Lib.hid fun w1 hg j u hu =>
    hg.cell (a := ⟨w.heap.size, j, none⟩) (box_first w _ _ 27 j u (by simpa using hu)) (by intro e; injection e with e; have : w.heap.size = w.heap.size + 1 := e; omega)
  have HSH : Hid (Shp (w.heap.size + 1) ((w.alloc (.cells #[.int .i64 k, .int .u64 s0, .int .u64 s1, .int .u64 s2, .int .u64 s3, .slice A m c, .int .i64 lo, .int .i64 hi, .int .i64 n] 27)).alloc (.cells #[.int .i64 0] 47)) 0) := Lib.hid (by have := shp_new (w.alloc (.cells #[.int .i64 k, .int .u64 s0, .int .u64 s1, .int .u64 s2, .int .u64 s3, .slice A m c, .int .i64 lo, .int .i64 hi, .int .i64 n] 27)); simpa using this)
  clear hm hs0 hs1 hs2 hs3
  cases F with
  | none =>
    have HX : Hid (R = (⟨#[]⟩, 5)) := Lib.hid hR
    clear hR
    go_enter Tryd.func9, Tryd.ntmps9
    go_wp2_with (go_at_call 20; ((with_reducible refine (K20.out _ (two_boxes _ _ _) HSH.out).mono ?_)); rintro e w1 ⟨hg1, rfl⟩)
    go_ret2
    rw [HX.out]
    exact ⟨rfl, below_grown (two_boxes _ _ _) hg1 (by simp; omega) (by omega)⟩
  | some g =>
    have HR := Lib.hid hR
    clear hR
    have K21 : Hid (∀ w1, Below w.heap.size w w1 → Calls Tryd.prog 21 #[.slice none 0 0, .agg #[.int .i64 k, .int .u64 s0, .int .u64 s1, .int .u64 s2, .int .u64 s3, .slice A m c, .int .i64 lo, .int .i64 hi, .int .i64 n]] w1 (WrtC w1.heap.size w1 w1 (.slice none 0 0) [] T)) := Lib.hid fun w1 h1 => K21.out w1 g rfl h1
    by_cases h200 : 200 < T.length
    · have HX : Hid (R = (⟨#[]⟩, 2)) := Lib.hid (by rw [HR.out]; exact if_pos h200)
      go_enter Tryd.func9, Tryd.ntmps9
      go_wp2_with (first | (go_at_call 20; ((with_reducible refine (K20.out _ (two_boxes _ _ _) HSH.out).mono ?_)); rintro e w1 ⟨hg1, rfl, _⟩; have HB1 := Lib.hid (below_grown (two_boxes _ _ _) hg1 (by simp; omega) (by omega)); have c0 := HBX.out _ hg1 0 _ rfl; have c1 := HBX.out _ hg1 1 _ rfl; have c2 := HBX.out _ hg1 2 _ rfl; have c3 := HBX.out _ hg1 3 _ rfl; have c4 := HBX.out _ hg1 4 _ rfl; have c5 := HBX.out _ hg1 5 _ rfl; have c6 := HBX.out _ hg1 6 _ rfl; have c7 := HBX.out _ hg1 7 _ rfl; have c8 := HBX.out _ hg1 8 _ rfl; clear hg1) | (go_at_call 21; ((with_reducible refine (K21.out _ HB1.out).mono ?_)); rintro e w2 ⟨v2, t2, rfl, hc2, hrow2, _, _⟩; obtain ⟨A2, c2', rfl⟩ := row_len hrow2.row; have h2 := hc2.2.1 h200; have hle2 := hc2.2.2; have HB2 := Lib.hid (HB1.out.trans (hrow2.below.mono HB1.out.size)); clear hc2 hrow2))
      go_ret2
      rw [HX.out]
      exact ⟨rfl, HB2.out⟩
    · have HX : Hid (R = (⟨T.toArray⟩, 0)) := Lib.hid (by rw [HR.out]; exact if_neg h200)
      go_enter Tryd.func9, Tryd.ntmps9
      go_wp2_with (first | (go_at_call 20; ((with_reducible refine (K20.out _ (two_boxes _ _ _) HSH.out).mono ?_)); rintro e w1 ⟨hg1, rfl, _⟩; have HB1 := Lib.hid (below_grown (two_boxes _ _ _) hg1 (by simp; omega) (by omega)); have c0 := HBX.out _ hg1 0 _ rfl; have c1 := HBX.out _ hg1 1 _ rfl; have c2 := HBX.out _ hg1 2 _ rfl; have c3 := HBX.out _ hg1 3 _ rfl; have c4 := HBX.out _ hg1 4 _ rfl; have c5 := HBX.out _ hg1 5 _ rfl; have c6 := HBX.out _ hg1 6 _ rfl; have c7 := HBX.out _ hg1 7 _ rfl; have c8 := HBX.out _ hg1 8 _ rfl; clear hg1) | (go_at_call 21; ((with_reducible refine (K21.out _ HB1.out).mono ?_)); rintro e w2 ⟨v2, t2, rfl, hc2, hrow2, _, _⟩; obtain rfl := hc2.1 (by omega); obtain ⟨A2, c2', rfl⟩ := row_len hrow2.row; have HB2 := Lib.hid (HB1.out.trans (hrow2.below.mono HB1.out.size)); have hcv := conv_row hrow2.row; clear hc2 hrow2))
      go_ret2
      rw [HX.out]
      exact ⟨rfl, HB2.out⟩
def mayE (r : Re) : Bool := match form r 3 0 0 with
  | none => false
  | some _ => decide ((textE r).length ≤ 200)
set_option maxRecDepth 100000 in
set_option maxHeartbeats 4000000 in
theorem may_any (r : Re) (A : Option Addr) (c : Nat) (w : World) (hk : Kids (Lt w.heap.size) w A r) (hs : sizeE r ≤ 600) :
    Calls Tryd.prog 11 #[valR r A c] w fun e w' => e = .returned (.bool (mayE r)) ∧ Below w.heap.size w w' := by
  have K9 : Hid (∀ w1, Below w.heap.size w w1 → Calls Tryd.prog 9 #[valR r A c] w1 (PostW w1 (printE r))) := Lib.hid fun w1 h1 => print_any r A c w1 (hk.next h1) hs
  obtain ⟨R, hR⟩ : ∃ R, R = printE r := ⟨_, rfl⟩
  rw [← hR] at K9
  have hm : mayE r = (R.2 == 0) := by
    rw [hR]; unfold mayE printE
    cases form r 3 0 0 with
    | none => rfl
    | some g =>
      by_cases h : 200 < (textE r).length
      · simp only [if_pos h]; simp; omega
      · simp only [if_neg h]; simp; omega
  rw [hm]
  clear hR hk hm
  obtain ⟨k, S, ks, lo, hi, n⟩ := r
  simp only [valR] at K9 ⊢
  obtain ⟨R1, R2⟩ := R
  go_enter Tryd.func11, Tryd.ntmps11
  go_wp2_with (go_at_call 9; ((with_reducible refine (K9.out _ (one_box _ _)).mono ?_)); rintro e w1 ⟨rfl, hb1⟩)
  go_ret
  exact ⟨rfl, (one_box _ _).trans (hb1.mono (by simp))⟩
end
end Go.Proofs.YtccheljfbjllhaaDoor
