/- Plain facts on lists of bytes: the reading of a whole text; that what is printed is read again; where a text can't go on. -/
import Derived.Test.YtgamlhhchagnaaaPlain2
namespace Go.Proofs.Ytgamlhhchagnaaa
open Go Go.RowKit

theorem go_fuel : ∀ (f g : Nat) (r : Bs) (pos : Nat) (ps : List Pt) (t : Bs), r.length < f → r.length < g → go f r pos ps t = go g r pos ps t
  | 0, _, _, _, _, _, h, _ => by omega
  | _, 0, _, _, _, _, _, h => by omega
  | f + 1, g + 1, r, pos, ps, t, hf, hg => by
    unfold go
    split
    · rfl
    · rfl
    · rename_i nm k h
      obtain ⟨h0, h1, _⟩ := var_local h
      exact go_fuel f g _ _ _ _ (by rw [List.length_drop]; omega) (by rw [List.length_drop]; omega)
    · rename_i c k h
      obtain ⟨h0, h1, _⟩ := byte_local h
      exact go_fuel f g _ _ _ _ (by rw [List.length_drop]; omega) (by rw [List.length_drop]; omega)
/-- The reading from a place on. -/
def goN (r : Bs) (pos : Nat) (ps : List Pt) (t : Bs) : Option (List Pt) × Nat := go (r.length + 1) r pos ps t
theorem goN_bad {r : Bs} {k : Nat} (h : step r = .bad k) (pos : Nat) (ps : List Pt) (t : Bs) : goN r pos ps t = (none, pos + k) := by
  unfold goN go; rw [h]
theorem goN_stop {r : Bs} (h : step r = .stop) (pos : Nat) (ps : List Pt) (t : Bs) : goN r pos ps t = (some (flush ps t), pos + 1) := by
  unfold goN go; rw [h]
theorem goN_var {r nm : Bs} {k : Nat} (h : step r = .var nm k) (pos : Nat) (ps : List Pt) (t : Bs) : goN r pos ps t = goN (r.drop k) (pos + k) (flush ps t ++ [(nm, [])]) [] := by
  obtain ⟨h0, h1, _⟩ := var_local h
  unfold goN; rw [show go (r.length + 1) r pos ps t = go r.length (r.drop k) (pos + k) (flush ps t ++ [(nm, [])]) [] by rw [go, h]]
  exact go_fuel _ _ _ _ _ _ (by rw [List.length_drop]; omega) (by omega)
theorem goN_byte {r : Bs} {c : UInt8} {k : Nat} (h : step r = .byte c k) (pos : Nat) (ps : List Pt) (t : Bs) : goN r pos ps t = goN (r.drop k) (pos + k) ps (t ++ [c]) := by
  obtain ⟨h0, h1, _⟩ := byte_local h
  unfold goN; rw [show go (r.length + 1) r pos ps t = go r.length (r.drop k) (pos + k) ps (t ++ [c]) by rw [go, h]]
  exact go_fuel _ _ _ _ _ _ (by rw [List.length_drop]; omega) (by omega)
theorem parse_quote (r : Bs) : parse (34 :: r) = goN r 1 [] [] := by unfold parse goN; simp
theorem parse_no (c : UInt8) (r : Bs) (h : c ≠ 34) : parse (c :: r) = (none, 0) := by unfold parse; simp [h]
theorem step_cases (r : Bs) : (∃ k, step r = .bad k) ∨ step r = .stop ∨ (∃ nm k, step r = .var nm k) ∨ ∃ c k, step r = .byte c k := by
  cases h : step r with
  | bad k => exact .inl ⟨k, rfl⟩
  | stop => exact .inr (.inl rfl)
  | var nm k => exact .inr (.inr (.inl ⟨nm, k, rfl⟩))
  | byte c k => exact .inr (.inr (.inr ⟨c, k, rfl⟩))
/-- An induction over the reading. -/
theorem goN_ind {P : Bs → Nat → List Pt → Bs → Prop} (hb : ∀ r k pos ps t, step r = .bad k → P r pos ps t) (hs : ∀ r pos ps t, step r = .stop → P r pos ps t)
    (hv : ∀ r nm k pos ps t, step r = .var nm k → 0 < k → k ≤ r.length → P (r.drop k) (pos + k) (flush ps t ++ [(nm, [])]) [] → P r pos ps t)
    (hc : ∀ r c k pos ps t, step r = .byte c k → 0 < k → k ≤ r.length → P (r.drop k) (pos + k) ps (t ++ [c]) → P r pos ps t) :
    ∀ (n : Nat) (r : Bs) (pos : Nat) (ps : List Pt) (t : Bs), r.length < n → P r pos ps t
  | 0, r, _, _, _, h => by omega
  | n + 1, r, pos, ps, t, hl => by
    rcases step_cases r with ⟨k, h⟩ | h | ⟨nm, k, h⟩ | ⟨c, k, h⟩
    · exact hb r k pos ps t h
    · exact hs r pos ps t h
    · obtain ⟨h0, h1, _⟩ := var_local h
      exact hv r nm k pos ps t h h0 h1 (goN_ind hb hs hv hc n _ _ _ _ (by rw [List.length_drop]; omega))
    · obtain ⟨h0, h1, _⟩ := byte_local h
      exact hc r c k pos ps t h h0 h1 (goN_ind hb hs hv hc n _ _ _ _ (by rw [List.length_drop]; omega))
theorem goN_bd (r : Bs) (pos : Nat) (ps : List Pt) (t : Bs) : pos ≤ (goN r pos ps t).2 ∧ (goN r pos ps t).2 ≤ pos + r.length ∧
    ((goN r pos ps t).1.isSome → pos < (goN r pos ps t).2 ∧ r[(goN r pos ps t).2 - 1 - pos]? = some 34) := by
  refine goN_ind (P := fun r pos ps t => pos ≤ (goN r pos ps t).2 ∧ (goN r pos ps t).2 ≤ pos + r.length ∧ ((goN r pos ps t).1.isSome → pos < (goN r pos ps t).2 ∧ r[(goN r pos ps t).2 - 1 - pos]? = some 34)) ?_ ?_ ?_ ?_ (r.length + 1) r pos ps t (Nat.lt_succ_self _)
  · intro r k pos ps t h
    rw [goN_bad h]
    have := bad_le h
    exact ⟨by simp, by simpa using this, fun h => by simp at h⟩
  · intro r pos ps t h
    rw [goN_stop h]
    obtain ⟨t', rfl⟩ := stop_form h
    exact ⟨by simp, by simp, fun _ => ⟨by simp, by simp⟩⟩
  · intro r nm k pos ps t h h0 h1 ih
    rw [goN_var h]
    obtain ⟨a, b, c⟩ := ih
    rw [List.length_drop] at b
    refine ⟨by omega, by omega, fun hs => ?_⟩
    obtain ⟨c1, c2⟩ := c hs
    rw [List.getElem?_drop] at c2
    refine ⟨by omega, ?_⟩
    rw [← c2]; congr 1; omega
  · intro r c k pos ps t h h0 h1 ih
    rw [goN_byte h]
    obtain ⟨a, b, c⟩ := ih
    rw [List.length_drop] at b
    refine ⟨by omega, by omega, fun hs => ?_⟩
    obtain ⟨c1, c2⟩ := c hs
    rw [List.getElem?_drop] at c2
    refine ⟨by omega, ?_⟩
    rw [← c2]; congr 1; omega
theorem goN_more (m : Bs) (r : Bs) (pos : Nat) (ps : List Pt) (t : Bs) : (goN r pos ps t).1 = none → (goN r pos ps t).2 < pos + r.length → goN (r ++ m) pos ps t = goN r pos ps t := by
  refine goN_ind (P := fun r pos ps t => (goN r pos ps t).1 = none → (goN r pos ps t).2 < pos + r.length → goN (r ++ m) pos ps t = goN r pos ps t) ?_ ?_ ?_ ?_ (r.length + 1) r pos ps t (Nat.lt_succ_self _)
  · intro r k pos ps t h _ h2
    rw [goN_bad h] at h2 ⊢
    rw [goN_bad (bad_more m h (by simp at h2; omega))]
  · intro r pos ps t h h1
    rw [goN_stop h] at h1; simp at h1
  · intro r nm k pos ps t h h0 h1 ih a b
    obtain ⟨_, _, hloc⟩ := var_local h
    rw [goN_var h] at a b ⊢
    have hX := hloc (r.drop k ++ m)
    rw [← List.append_assoc, List.take_append_drop] at hX
    rw [goN_var hX, List.drop_append_of_le_length h1]
    exact ih a (by rw [List.length_drop]; omega)
  · intro r c k pos ps t h h0 h1 ih a b
    obtain ⟨_, _, hloc⟩ := byte_local h
    rw [goN_byte h] at a b ⊢
    have hX := hloc (r.drop k ++ m)
    rw [← List.append_assoc, List.take_append_drop] at hX
    rw [goN_byte hX, List.drop_append_of_le_length h1]
    exact ih a (by rw [List.length_drop]; omega)
theorem goes_some {l : Bs} (h : Goes l) (pos : Nat) (ps : List Pt) (t : Bs) : (goN l pos ps t).1.isSome := by
  rcases h with h | ⟨c, k, h, h1⟩ | ⟨nm, k, h, h1⟩
  · rw [goN_stop h]; rfl
  · rw [goN_byte h, h1, goN_stop (step_quote [])]; rfl
  · rw [goN_var h, h1, goN_stop (step_quote [])]; rfl
theorem goN_ends (r : Bs) (pos : Nat) (ps : List Pt) (t : Bs) : (goN r pos ps t).1 = none → ∃ e ∈ ends, (goN (r.take ((goN r pos ps t).2 - pos) ++ e) pos ps t).1.isSome := by
  refine goN_ind (P := fun r pos ps t => (goN r pos ps t).1 = none → ∃ e ∈ ends, (goN (r.take ((goN r pos ps t).2 - pos) ++ e) pos ps t).1.isSome) ?_ ?_ ?_ ?_ (r.length + 1) r pos ps t (Nat.lt_succ_self _)
  · intro r k pos ps t h _
    obtain ⟨e, he, hg⟩ := bad_goes h
    refine ⟨e, he, ?_⟩
    rw [goN_bad h]
    simp only [Nat.add_sub_cancel_left]
    exact goes_some hg pos ps t
  · intro r pos ps t h h1
    rw [goN_stop h] at h1; simp at h1
  · intro r nm k pos ps t h h0 h1 ih a
    obtain ⟨_, _, hloc⟩ := var_local h
    rw [goN_var h] at a ⊢
    obtain ⟨e, he, hg⟩ := ih a
    have hb := goN_bd (r.drop k) (pos + k) (flush ps t ++ [(nm, [])]) []
    refine ⟨e, he, ?_⟩
    generalize hn : (goN (r.drop k) (pos + k) (flush ps t ++ [(nm, [])]) []).2 = n at hg hb ⊢
    have e1 : r.take (n - pos) = r.take k ++ (r.drop k).take (n - (pos + k)) := by
      rw [show n - pos = k + (n - (pos + k)) by omega, List.take_add]
    have hl : (r.take k).length = k := by rw [List.length_take]; omega
    rw [e1, List.append_assoc, goN_var (hloc _), List.drop_left' hl]
    exact hg
  · intro r c k pos ps t h h0 h1 ih a
    obtain ⟨_, _, hloc⟩ := byte_local h
    rw [goN_byte h] at a ⊢
    obtain ⟨e, he, hg⟩ := ih a
    have hb := goN_bd (r.drop k) (pos + k) ps (t ++ [c])
    refine ⟨e, he, ?_⟩
    generalize hn : (goN (r.drop k) (pos + k) ps (t ++ [c])).2 = n at hg hb ⊢
    have e1 : r.take (n - pos) = r.take k ++ (r.drop k).take (n - (pos + k)) := by
      rw [show n - pos = k + (n - (pos + k)) by omega, List.take_add]
    have hl : (r.take k).length = k := by rw [List.length_take]; omega
    rw [e1, List.append_assoc, goN_byte (hloc _), List.drop_left' hl]
    exact hg
/- The statement on how a text goes on, in plain words. -/
theorem parse_bd (l : Bs) : (parse l).2 ≤ l.length ∧ ((parse l).1.isSome → 0 < (parse l).2 ∧ l[(parse l).2 - 1]? = some 34) := by
  cases l with
  | nil => exact ⟨by simp [parse], fun h => by simp [parse] at h⟩
  | cons c r =>
    by_cases hc : c = 34
    · subst hc
      rw [parse_quote]
      obtain ⟨a, b, d⟩ := goN_bd r 1 [] []
      refine ⟨by simp; omega, fun h => ?_⟩
      obtain ⟨d1, d2⟩ := d h
      refine ⟨by omega, ?_⟩
      generalize (goN r 1 [] []).2 = n at a b d1 d2 ⊢
      obtain ⟨k, rfl⟩ : ∃ k, n = k + 2 := ⟨n - 2, by omega⟩
      simpa using d2
    · rw [parse_no c r hc]; exact ⟨by simp, fun h => by simp at h⟩
theorem parse_more (l m : Bs) (h : (parse l).1 = none) (h1 : (parse l).2 < l.length) : parse (l ++ m) = parse l := by
  cases l with
  | nil => simp at h1
  | cons c r =>
    rw [List.cons_append]
    by_cases hc : c = 34
    · subst hc
      rw [parse_quote] at h h1 ⊢
      rw [parse_quote]
      exact goN_more m r 1 [] [] h (by simp at h1; omega)
    · rw [parse_no c r hc, parse_no c _ hc]
theorem parse_ends (l : Bs) (h : (parse l).1 = none) : ∃ e ∈ ends, (parse (l.take (parse l).2 ++ e)).1.isSome := by
  cases l with
  | nil => exact ⟨[34, 34], by decide, by decide⟩
  | cons c r =>
    by_cases hc : c = 34
    · subst hc
      rw [parse_quote] at h ⊢
      obtain ⟨e, he, hg⟩ := goN_ends r 1 [] [] h
      have hb := goN_bd r 1 [] []
      refine ⟨e, he, ?_⟩
      generalize (goN r 1 [] []).2 = n at hg hb ⊢
      obtain ⟨k, rfl⟩ : ∃ k, n = k + 1 := ⟨n - 1, by omega⟩
      rw [List.take_succ_cons, List.cons_append, parse_quote]
      exact hg
    · rw [parse_no c r hc]; exact ⟨[34, 34], by decide, by rfl⟩
/- What is read may be. -/
def lastT : Bool → List Pt → Bool
  | b, [] => b
  | _, p :: r => lastT (decide (p.1 = [])) r
theorem may_append : ∀ (b : Bool) (ps : List Pt) (p : Pt), may b (ps ++ [p]) = (may b ps && okP (lastT b ps) p)
  | b, [], p => by simp [may, lastT]
  | b, q :: r, p => by rw [List.cons_append, may, may, may_append _ r p, lastT, Bool.and_assoc]
theorem lastT_append : ∀ (b : Bool) (ps : List Pt) (p : Pt), lastT b (ps ++ [p]) = decide (p.1 = [])
  | b, [], p => by simp [lastT]
  | b, q :: r, p => by rw [List.cons_append, lastT, lastT_append _ r p]
theorem flush_may {ps : List Pt} {t : Bs} (h : may false ps = true) (hl : lastT false ps = false) : may false (flush ps t) = true := by
  unfold flush; split
  · exact h
  · rename_i ht; rw [may_append, h, hl]; simp [okP, ht]
theorem isName_of {nm t : Bs} (h : nameLen (nm ++ 125 :: t) = nm.length) (h0 : nm ≠ []) : isName nm = true := by
  unfold isName; rw [nameLen_self nm 125 t h h0]; simp [h0]
theorem goN_may (r : Bs) (pos : Nat) (ps : List Pt) (t : Bs) : may false ps = true → lastT false ps = false → ∀ out, (goN r pos ps t).1 = some out → may false out = true := by
  refine goN_ind (P := fun r pos ps t => may false ps = true → lastT false ps = false → ∀ out, (goN r pos ps t).1 = some out → may false out = true) ?_ ?_ ?_ ?_ (r.length + 1) r pos ps t (Nat.lt_succ_self _)
  · intro r k pos ps t h _ _ out ho
    rw [goN_bad h] at ho; cases ho
  · intro r pos ps t h hm hl out ho
    rw [goN_stop h] at ho; injection ho with ho; subst ho
    exact flush_may hm hl
  · intro r nm k pos ps t h h0 h1 ih hm hl out ho
    rw [goN_var h] at ho
    obtain ⟨x, rfl, hn, hne, _⟩ := svar_form h
    refine ih ?_ ?_ out ho
    · rw [may_append, flush_may hm hl]; simp [okP, hne, isName_of hn hne]
    · rw [lastT_append]; simp [hne]
  · intro r c k pos ps t h h0 h1 ih hm hl out ho
    rw [goN_byte h] at ho
    exact ih hm hl out ho
theorem parse_may (l : Bs) (out : List Pt) (h : (parse l).1 = some out) : may false out = true := by
  cases l with
  | nil => simp [parse] at h
  | cons c r =>
    by_cases hc : c = 34
    · subst hc
      rw [parse_quote] at h
      exact goN_may r 1 [] [] rfl rfl out h
    · rw [parse_no c r hc] at h; cases h
/- What is printed is read again. -/
theorem prB_byte (c : UInt8) (t : Bs) : ∃ k, k = (prB c).length ∧ step (prB c ++ t) = .byte c k := by
  by_cases hp : plainB c = true
  · have e : prB c = [c] := by unfold prB; simp [hp]
    rw [e]; exact ⟨1, rfl, step_plain c t hp⟩
  · have hx := fun (x y : UInt8) (hxy : escD y = some x) (hy : y ≠ 120) => (show step ([92, y] ++ t) = .byte x 2 by
      show step (92 :: y :: t) = _
      rw [step_esc, esc_mk y x t hy hxy])
    by_cases h1 : c = 10
    · subst h1; exact ⟨2, rfl, hx 10 110 (by decide) (by decide)⟩
    by_cases h2 : c = 13
    · subst h2; exact ⟨2, rfl, hx 13 114 (by decide) (by decide)⟩
    by_cases h3 : c = 9
    · subst h3; exact ⟨2, rfl, hx 9 116 (by decide) (by decide)⟩
    by_cases h4 : c = 34
    · subst h4; exact ⟨2, rfl, hx 34 34 (by decide) (by decide)⟩
    by_cases h5 : c = 92
    · subst h5; exact ⟨2, rfl, hx 92 92 (by decide) (by decide)⟩
    by_cases h6 : c = 36
    · subst h6; exact ⟨2, rfl, hx 36 36 (by decide) (by decide)⟩
    have e : prB c = [92, 120, hexC (c.toNat / 16), hexC (c.toNat % 16)] := by unfold prB; simp [hp, h1, h2, h3, h4, h5, h6]
    have hh : ∀ c : UInt8, 0 ≤ hexD (hexC (c.toNat / 16)) ∧ 0 ≤ hexD (hexC (c.toNat % 16)) ∧ UInt8.ofNat (hexD (hexC (c.toNat / 16)) * 16 + hexD (hexC (c.toNat % 16))).toNat = c :=
      all256 _ (by decide +kernel)
    obtain ⟨a, b, d⟩ := hh c
    rw [e]
    refine ⟨4, rfl, ?_⟩
    show step (92 :: 120 :: hexC (c.toNat / 16) :: hexC (c.toNat % 16) :: t) = _
    rw [step_esc, hex_mk _ _ t a b, d]
theorem goN_bytes : ∀ (x rest : Bs) (pos : Nat) (ps : List Pt) (t : Bs), goN (x.flatMap prB ++ rest) pos ps t = goN rest (pos + (x.flatMap prB).length) ps (t ++ x)
  | [], rest, pos, ps, t => by simp
  | c :: x, rest, pos, ps, t => by
    obtain ⟨k, hk, h⟩ := prB_byte c (x.flatMap prB ++ rest)
    rw [List.flatMap_cons, List.append_assoc, goN_byte h, hk, List.drop_left, goN_bytes x rest _ ps _]
    simp [Nat.add_assoc]
theorem goN_parts : ∀ (qs : List Pt) (more : Bs) (pos : Nat) (ps : List Pt) (t : Bs), may (!t.isEmpty) qs = true →
    goN (qs.flatMap prP ++ 34 :: more) pos ps t = (some (flush ps t ++ qs), pos + (qs.flatMap prP).length + 1)
  | [], more, pos, ps, t, _ => by simp [goN_stop (step_quote more)]
  | q :: qs, more, pos, ps, t, h => by
    rw [may, Bool.and_eq_true] at h
    obtain ⟨h1, h2⟩ := h
    rw [List.flatMap_cons, List.append_assoc]
    unfold okP at h1
    split at h1
    · rename_i hq
      simp at h1
      obtain ⟨a, b⟩ := h1
      have ht : t = [] := by simpa using b
      subst ht
      have e : prP q = q.2.flatMap prB := by unfold prP prV; simp [hq]
      have hq2 : (!([] ++ q.2 : Bs).isEmpty) = decide (q.1 = []) := by simp [a, hq]
      rw [e, goN_bytes, goN_parts qs more _ ps _ (by rw [hq2]; exact h2)]
      simp only [List.nil_append, Prod.mk.injEq]
      refine ⟨?_, by rw [List.length_append]; omega⟩
      have e2 : q = ([], q.2) := by rw [← hq]
      unfold flush
      rw [if_neg a, if_pos rfl]
      rw [List.append_assoc]; congr 1; congr 1; simp [← hq]
    · rename_i hq
      simp at h1
      obtain ⟨a, b⟩ := h1
      have e : prP q = 36 :: 123 :: (q.1 ++ [125]) := by unfold prP prV; simp [hq, a]
      have hn : nameLen q.1 = q.1.length := by unfold isName at b; simp at b; exact b.2
      have hs := step_var q.1 (qs.flatMap prP ++ 34 :: more) (nameLen_stop q.1 125 _ hn hq isIn125) hq
      have e3 : prP q ++ (qs.flatMap prP ++ 34 :: more) = 36 :: 123 :: (q.1 ++ 125 :: (qs.flatMap prP ++ 34 :: more)) := by rw [e]; simp
      have e4 : (36 :: 123 :: (q.1 ++ 125 :: (qs.flatMap prP ++ 34 :: more))).drop (q.1.length + 3) = qs.flatMap prP ++ 34 :: more := by
        rw [← e3]; apply List.drop_left'; rw [e]; simp
      rw [e3, goN_var hs, e4, goN_parts qs more _ _ [] (by simpa [hq] using h2)]
      simp only [Prod.mk.injEq]
      refine ⟨?_, by rw [List.length_append, e]; simp; omega⟩
      have e2 : q = (q.1, []) := by rw [← a]
      rw [e2]
      simp [flush]
theorem parse_print (ps : List Pt) (more : Bs) (h : may false ps = true) : parse (print ps ++ more) = (some ps, (print ps).length) := by
  have e : print ps ++ more = 34 :: (ps.flatMap prP ++ 34 :: more) := by unfold print; simp
  rw [e, parse_quote, goN_parts ps more 1 [] [] (by simpa using h)]
  simp [flush, print]; omega
end Go.Proofs.Ytgamlhhchagnaaa
