/- Plain facts on sets of bytes: four words of 64 bits; which bytes are in one, their runs, their text. -/
import Derived.Test.YtccheljfbjllhaaDoorPlain
namespace Go.Proofs.YtccheljfbjllhaaDoor
open Go Go.RowKit

abbrev S4 := UInt64 × UInt64 × UInt64 × UInt64
def wd (S : S4) (q : Nat) : UInt64 := if q = 0 then S.1 else if q = 1 then S.2.1 else if q = 2 then S.2.2.1 else S.2.2.2
def setw (S : S4) (q : Nat) (x : UInt64) : S4 := if q = 0 then (x, S.2) else if q = 1 then (S.1, x, S.2.2) else if q = 2 then (S.1, S.2.1, x, S.2.2.2) else (S.1, S.2.1, S.2.2.1, x)
def mem (S : S4) (c : Nat) : Bool := (wd S (c / 64)).toNat.testBit (c % 64)
def none4 : S4 := (0, 0, 0, 0)
def ins (S : S4) (c : Nat) : S4 := setw S (c / 64) (UInt64.ofNat ((wd S (c / 64)).toNat ||| 2 ^ (c % 64)))
def compl (S : S4) : S4 := (~~~S.1, ~~~S.2.1, ~~~S.2.2.1, ~~~S.2.2.2)
theorem wd_setw (S : S4) (q q' : Nat) (x : UInt64) (h : q < 4) (h' : q' < 4) : wd (setw S q x) q' = if q' = q then x else wd S q' := by
  have hq : q = 0 ∨ q = 1 ∨ q = 2 ∨ q = 3 := by omega
  have hq' : q' = 0 ∨ q' = 1 ∨ q' = 2 ∨ q' = 3 := by omega
  rcases hq with rfl | rfl | rfl | rfl <;> rcases hq' with rfl | rfl | rfl | rfl <;> rfl
theorem or_lt (S : S4) (c : Nat) : (wd S (c / 64)).toNat ||| 2 ^ (c % 64) < 2 ^ 64 := by
  apply Nat.or_lt_two_pow
  · exact (wd S (c / 64)).toNat_lt
  · exact Nat.pow_lt_pow_right (by omega) (by omega)
theorem ins_word (S : S4) (c : Nat) : (UInt64.ofNat ((wd S (c / 64)).toNat ||| 2 ^ (c % 64))).toNat = (wd S (c / 64)).toNat ||| 2 ^ (c % 64) := by
  rw [UInt64.toNat_ofNat', Nat.mod_eq_of_lt (or_lt S c)]
theorem mem_ins (S : S4) (c x : Nat) (hc : c < 256) (hx : x < 256) : mem (ins S c) x = (mem S x || decide (x = c)) := by
  unfold mem ins
  rw [wd_setw _ _ _ _ (by omega) (by omega)]
  by_cases h : x / 64 = c / 64
  · rw [if_pos h, ins_word, Nat.testBit_or, Nat.testBit_two_pow, h]
    congr 1
    rw [decide_eq_decide]
    constructor
    · intro h2; omega
    · intro h2; rw [h2]
  · rw [if_neg h]
    have : x ≠ c := by rintro rfl; exact h rfl
    simp [this]
theorem mem_none4 (x : Nat) : mem none4 x = false := by
  unfold mem wd none4
  split
  · simp
  · split
    · simp
    · split <;> simp
theorem wd_compl (S : S4) (q : Nat) : wd (compl S) q = ~~~ (wd S q) := by
  unfold wd compl
  split
  · rfl
  · split
    · rfl
    · split <;> rfl
theorem not_nat (x : UInt64) : (~~~ x).toNat = 2 ^ 64 - (x.toNat + 1) := by
  rw [UInt64.toNat_not]; simp [UInt64.size]
theorem mem_compl (S : S4) (x : Nat) : mem (compl S) x = !mem S x := by
  unfold mem
  rw [wd_compl, not_nat, Nat.testBit_two_pow_sub_succ (wd S (x / 64)).toNat_lt]
  have : x % 64 < 64 := Nat.mod_lt _ (by omega)
  simp [this]
theorem wd_ext {S T : S4} (h : ∀ q, q < 4 → wd S q = wd T q) : S = T := by
  have h0 := h 0 (by omega)
  have h1 := h 1 (by omega)
  have h2 := h 2 (by omega)
  have h3 := h 3 (by omega)
  simp [wd] at h0 h1 h2 h3
  exact Prod.ext h0 (Prod.ext h1 (Prod.ext h2 h3))
theorem set_ext {S T : S4} (h : ∀ c, c < 256 → mem S c = mem T c) : S = T := by
  refine wd_ext fun q hq => UInt64.toNat_inj.1 (Nat.eq_of_testBit_eq fun i => ?_)
  by_cases hi : i < 64
  · have := h (64 * q + i) (by omega)
    unfold mem at this
    rw [show (64 * q + i) / 64 = q by omega, show (64 * q + i) % 64 = i by omega] at this
    exact this
  · rw [Nat.testBit_lt_two_pow, Nat.testBit_lt_two_pow]
    · exact Nat.lt_of_lt_of_le (wd T q).toNat_lt (Nat.pow_le_pow_right (by omega) (by omega))
    · exact Nat.lt_of_lt_of_le (wd S q).toNat_lt (Nat.pow_le_pow_right (by omega) (by omega))
/- Spans. -/
def spanS (S : S4) (lo : Nat) : Nat → S4
  | 0 => S
  | n + 1 => ins (spanS S lo n) (lo + n)
theorem mem_spanS (S : S4) (lo x : Nat) (hx : x < 256) : ∀ n, lo + n ≤ 256 → mem (spanS S lo n) x = (mem S x || (decide (lo ≤ x) && decide (x < lo + n)))
  | 0, _ => by
    have : (decide (lo ≤ x) && decide (x < lo + 0)) = false := by rw [Bool.and_eq_false_iff, decide_eq_false_iff_not, decide_eq_false_iff_not]; omega
    rw [this, spanS, Bool.or_false]
  | n + 1, h => by
    rw [spanS, mem_ins _ _ _ (by omega) hx, mem_spanS S lo x hx n (by omega), Bool.or_assoc]
    congr 1
    rw [Bool.eq_iff_iff]
    simp
    omega
def hasS (c : Nat) (p : Sp) : Bool := decide (p.1.toNat ≤ c) && decide (c ≤ p.2.toNat)
/-- The bytes of spans, from a set on. -/
def addS (S : S4) (p : Sp) : S4 := spanS S p.1.toNat (p.2.toNat + 1 - p.1.toNat)
theorem mem_addS (S : S4) (p : Sp) (x : Nat) (hx : x < 256) : mem (addS S p) x = (mem S x || hasS x p) := by
  have := p.2.toNat_lt
  have := p.1.toNat_lt
  unfold addS hasS
  rw [mem_spanS _ _ _ hx _ (by omega)]
  congr 1
  rw [Bool.eq_iff_iff]; simp; omega
def allS (l : List Sp) : S4 := l.foldl addS none4
theorem mem_foldS (x : Nat) (hx : x < 256) : ∀ (l : List Sp) (S : S4), mem (l.foldl addS S) x = (mem S x || l.any (hasS x))
  | [], S => by simp
  | p :: l, S => by rw [List.foldl_cons, mem_foldS x hx l, mem_addS _ _ _ hx, List.any_cons, Bool.or_assoc]
theorem mem_allS (l : List Sp) (x : Nat) (hx : x < 256) : mem (allS l) x = l.any (hasS x) := by
  unfold allS; rw [mem_foldS x hx, mem_none4, Bool.false_or]
theorem allS_snoc (l : List Sp) (p : Sp) : allS (l ++ [p]) = addS (allS l) p := by unfold allS; rw [List.foldl_append]; rfl
def ofN (l : List Sp) (no : Bool) : Nat → S4
  | 0 => none4
  | n + 1 => if l.any (hasS n) != no then ins (ofN l no n) n else ofN l no n
theorem mem_ofN (l : List Sp) (no : Bool) (x : Nat) (hx : x < 256) : ∀ n, n ≤ 256 → mem (ofN l no n) x = (decide (x < n) && (l.any (hasS x) != no))
  | 0, _ => by rw [ofN, mem_none4]; simp
  | n + 1, h => by
    have ih := mem_ofN l no x hx n (by omega)
    rw [ofN]
    by_cases hc : (l.any (hasS n) != no) = true
    · rw [if_pos hc, mem_ins _ _ _ (by omega) hx, ih]
      by_cases hxn : x = n
      · subst hxn; rw [hc]; simp
      · have e : decide (x < n + 1) = decide (x < n) := by rw [decide_eq_decide]; omega
        rw [e]; simp [hxn]
    · rw [if_neg hc, ih]
      by_cases hxn : x = n
      · subst hxn
        have hc := Bool.eq_false_iff.2 hc
        rw [hc]; simp
      · have e : decide (x < n + 1) = decide (x < n) := by rw [decide_eq_decide]; omega
        rw [e]
def ofS (l : List Sp) (no : Bool) : S4 := ofN l no 256
theorem mem_ofS (l : List Sp) (no : Bool) (x : Nat) (hx : x < 256) : mem (ofS l no) x = (l.any (hasS x) != no) := by
  unfold ofS; rw [mem_ofN l no x hx 256 (by omega)]; simp [hx]
theorem ofS_no (l : List Sp) : ofS l false = allS l := set_ext fun c hc => by rw [mem_ofS l false c hc, mem_allS l c hc]; simp
theorem ofS_yes (l : List Sp) : ofS l true = compl (allS l) := set_ext fun c hc => by rw [mem_ofS l true c hc, mem_compl, mem_allS l c hc]; simp
/- The first from a place on. -/
def nxt (S : S4) (c : Nat) : Nat := if c < 256 ∧ mem S c = false then nxt S (c + 1) else c
termination_by 256 - c
decreasing_by omega
theorem nxt_go {S : S4} {c : Nat} (h : c < 256) (hm : mem S c = false) : nxt S c = nxt S (c + 1) := by rw [nxt, if_pos ⟨h, hm⟩]
theorem nxt_at {S : S4} {c : Nat} (hm : mem S c = true) : nxt S c = c := by rw [nxt, if_neg (by simp [hm])]
theorem nxt_end {S : S4} {c : Nat} (h : ¬ c < 256) : nxt S c = c := by rw [nxt, if_neg (by omega)]
theorem nxt_all (S : S4) : ∀ (n c : Nat), 256 - c < n → c ≤ 256 → c ≤ nxt S c ∧ nxt S c ≤ 256 ∧ (nxt S c < 256 → mem S (nxt S c) = true) ∧ ∀ x, c ≤ x → x < nxt S c → mem S x = false
  | 0, c, h, _ => by omega
  | n + 1, c, h, hc => by
    by_cases hlt : c < 256
    · cases hm : mem S c with
      | true => rw [nxt_at hm]; exact ⟨Nat.le_refl _, hc, fun _ => hm, fun x h1 h2 => by omega⟩
      | false =>
        obtain ⟨a, b, d, e⟩ := nxt_all S n (c + 1) (by omega) (by omega)
        rw [nxt_go hlt hm]
        refine ⟨by omega, b, d, fun x h1 h2 => ?_⟩
        by_cases hx : x = c
        · subst hx; exact hm
        · exact e x (by omega) h2
    · rw [nxt_end hlt]; exact ⟨Nat.le_refl _, hc, fun h => by omega, fun x h1 h2 => by omega⟩
theorem nxt_is (S : S4) (c : Nat) (hc : c ≤ 256) : c ≤ nxt S c ∧ nxt S c ≤ 256 ∧ (nxt S c < 256 → mem S (nxt S c) = true) ∧ ∀ x, c ≤ x → x < nxt S c → mem S x = false := nxt_all S (256 - c + 1) c (by omega) hc
/- Runs. -/
def addC (l : List Sp) (c : Nat) : List Sp :=
  match l.getLast? with
  | some p => if p.2.toNat + 1 = c then l.dropLast ++ [(p.1, UInt8.ofNat c)] else l ++ [(UInt8.ofNat c, UInt8.ofNat c)]
  | none => l ++ [(UInt8.ofNat c, UInt8.ofNat c)]
theorem addC_nil (c : Nat) : addC [] c = [(UInt8.ofNat c, UInt8.ofNat c)] := rfl
theorem addC_yes {l : List Sp} {p : Sp} {c : Nat} (h : p.2.toNat + 1 = c) : addC (l ++ [p]) c = l ++ [(p.1, UInt8.ofNat c)] := by
  unfold addC; rw [List.getLast?_append]; simp [h]
theorem addC_no {l : List Sp} {p : Sp} {c : Nat} (h : p.2.toNat + 1 ≠ c) : addC (l ++ [p]) c = l ++ [p] ++ [(UInt8.ofNat c, UInt8.ofNat c)] := by
  unfold addC; rw [List.getLast?_append]; simp [h]
def runsTo (S : S4) : Nat → List Sp
  | 0 => []
  | n + 1 => if mem S n then addC (runsTo S n) n else runsTo S n
theorem snoc_cases {α : Type} (l : List α) : l = [] ∨ ∃ r p, l = r ++ [p] := by
  rcases List.eq_nil_or_concat l with h | ⟨r, p, h⟩
  · exact .inl h
  · exact .inr ⟨r, p, by rw [h, List.concat_eq_append]⟩
theorem u8_nat {c : Nat} (h : c < 256) : (UInt8.ofNat c).toNat = c := by rw [UInt8.toNat_ofNat', Nat.mod_eq_of_lt h]
theorem runs_last (S : S4) : ∀ n, n ≤ 256 → ∀ l p, runsTo S n = l ++ [p] → p.2.toNat < n ∧ mem S p.2.toNat = true ∧ p.1.toNat ≤ p.2.toNat
  | 0, _, l, p, h => by simp [runsTo] at h
  | n + 1, hn, l, p, h => by
    rw [runsTo] at h
    split at h
    · rename_i hm
      rcases snoc_cases (runsTo S n) with h0 | ⟨r, q, hr⟩
      · rw [h0, addC_nil] at h
        have h : ([] : List Sp) ++ [(UInt8.ofNat n, UInt8.ofNat n)] = l ++ [p] := h
        obtain ⟨_, h⟩ := List.append_inj' h rfl
        injection h with h _
        subst h
        dsimp only
        rw [u8_nat (by omega)]
        exact ⟨by omega, hm, Nat.le_refl _⟩
      · obtain ⟨q1, _, q3⟩ := runs_last S n (by omega) r q hr
        by_cases hq : q.2.toNat + 1 = n
        · rw [hr, addC_yes hq] at h
          obtain ⟨_, h⟩ := List.append_inj' h rfl
          injection h with h _
          subst h
          dsimp only
          rw [u8_nat (by omega)]
          exact ⟨by omega, hm, by omega⟩
        · rw [hr, addC_no hq] at h
          obtain ⟨_, h⟩ := List.append_inj' h rfl
          injection h with h _
          subst h
          dsimp only
          rw [u8_nat (by omega)]
          exact ⟨by omega, hm, Nat.le_refl _⟩
    · obtain ⟨q1, q2⟩ := runs_last S n (by omega) l p h
      exact ⟨by omega, q2⟩
theorem runs_gap (S : S4) (b : Nat) : ∀ n, (∀ x, b ≤ x → x < b + n → mem S x = false) → runsTo S (b + n) = runsTo S b
  | 0, _ => rfl
  | n + 1, h => by
    rw [show b + (n + 1) = b + n + 1 by omega, runsTo, if_neg (by rw [h _ (by omega) (by omega)]; simp)]
    exact runs_gap S b n fun x h1 h2 => h x h1 (by omega)
theorem runs_run (S : S4) (lo : Nat) (h0 : lo = 0 ∨ mem S (lo - 1) = false) : ∀ n, lo + n < 256 → (∀ x, lo ≤ x → x ≤ lo + n → mem S x = true) → runsTo S (lo + n + 1) = runsTo S lo ++ [(UInt8.ofNat lo, UInt8.ofNat (lo + n))]
  | 0, hn, h => by
    rw [Nat.add_zero, runsTo, if_pos (h lo (by omega) (by omega))]
    rcases snoc_cases (runsTo S lo) with h1 | ⟨r, q, hr⟩
    · rw [h1, addC_nil]; rfl
    · obtain ⟨q1, q2, _⟩ := runs_last S lo (by omega) r q hr
      have hq : q.2.toNat + 1 ≠ lo := by
        intro hq
        rcases h0 with h0 | h0
        · omega
        · rw [show lo - 1 = q.2.toNat by omega, q2] at h0; cases h0
      rw [hr, addC_no hq]; rfl
  | n + 1, hn, h => by
    rw [show lo + (n + 1) + 1 = (lo + n + 1) + 1 by omega, runsTo, if_pos (h _ (by omega) (by omega)), runs_run S lo h0 n (by omega) (fun x h1 h2 => h x h1 (by omega))]
    rw [addC_yes (by dsimp only; rw [u8_nat (by omega)])]
    rfl
theorem runs_any (S : S4) (x : Nat) (hx : x < 256) : ∀ n, n ≤ 256 → (runsTo S n).any (hasS x) = (decide (x < n) && mem S x)
  | 0, _ => by simp [runsTo]
  | n + 1, hn => by
    have ih := runs_any S x hx n (by omega)
    rw [runsTo]
    split
    · rename_i hm
      have hone : hasS x (UInt8.ofNat n, UInt8.ofNat n) = decide (x = n) := by
        unfold hasS; dsimp only; rw [u8_nat (by omega), Bool.eq_iff_iff]; simp; omega
      have key : ∀ b : Bool, b = (decide (x < n) && mem S x) → (b || decide (x = n)) = (decide (x < n + 1) && mem S x) := by
        rintro b rfl
        by_cases hxn : x = n
        · subst hxn; rw [hm]; simp
        · have e : decide (x < n + 1) = decide (x < n) := by rw [decide_eq_decide]; omega
          rw [e]; simp [hxn]
      rcases snoc_cases (runsTo S n) with h0 | ⟨r, q, hr⟩
      · rw [h0] at ih ⊢
        rw [addC_nil]
        rw [← key _ ih]
        simp [hone]
      · obtain ⟨q1, q2, q3⟩ := runs_last S n (by omega) r q hr
        rw [hr] at ih ⊢
        by_cases hq : q.2.toNat + 1 = n
        · rw [addC_yes hq, ← key _ ih]
          have : hasS x (q.1, UInt8.ofNat n) = (hasS x q || decide (x = n)) := by
            unfold hasS; dsimp only; rw [u8_nat (by omega), Bool.eq_iff_iff]; simp; omega
          simp [this, Bool.or_assoc]
        · rw [addC_no hq, ← key _ ih]
          simp only [List.any_append, List.any_cons, List.any_nil, Bool.or_false, hone]
    · rename_i hm
      rw [ih]
      by_cases hxn : x = n
      · subst hxn; simp [Bool.eq_false_iff.2 hm]
      · have e : decide (x < n + 1) = decide (x < n) := by rw [decide_eq_decide]; omega
        rw [e]
theorem runs_len (S : S4) : ∀ n, (runsTo S n).length ≤ n
  | 0 => by simp [runsTo]
  | n + 1 => by
    have ih := runs_len S n
    rw [runsTo]
    split
    · rcases snoc_cases (runsTo S n) with h0 | ⟨r, q, hr⟩
      · rw [h0, addC_nil]; simp
      · rw [hr] at ih ⊢
        by_cases hq : q.2.toNat + 1 = n
        · rw [addC_yes hq]; simp at ih ⊢; omega
        · rw [addC_no hq]; simp at ih ⊢; omega
    · omega
theorem runs_ok (S : S4) : ∀ n, n ≤ 256 → (runsTo S n).all okS = true
  | 0, _ => by simp [runsTo]
  | n + 1, hn => by
    have ih := runs_ok S n (by omega)
    rw [runsTo]
    split
    · have hone : okS (UInt8.ofNat n, UInt8.ofNat n) = true := by unfold okS; simp
      rcases snoc_cases (runsTo S n) with h0 | ⟨r, q, hr⟩
      · rw [h0, addC_nil]; simp [hone]
      · obtain ⟨q1, q2, q3⟩ := runs_last S n (by omega) r q hr
        rw [hr] at ih ⊢
        by_cases hq : q.2.toNat + 1 = n
        · rw [addC_yes hq]
          have : okS (q.1, UInt8.ofNat n) = true := by unfold okS; dsimp only; rw [u8_nat (by omega), decide_eq_true_eq]; omega
          rw [List.all_append, Bool.and_eq_true] at ih ⊢
          exact ⟨ih.1, by simp [this]⟩
        · rw [addC_no hq, List.all_append, Bool.and_eq_true]
          exact ⟨ih, by simp [hone]⟩
    · exact ih
def runs (S : S4) : List Sp := runsTo S 256
theorem allS_runs (S : S4) : allS (runs S) = S := set_ext fun c hc => by
  rw [mem_allS _ _ hc]; unfold runs; rw [runs_any S c hc 256 (by omega)]; simp [hc]
/- How many. -/
def cnt (f : Nat → Bool) : Nat → Nat
  | 0 => 0
  | n + 1 => cnt f n + if f n then 1 else 0
def sumL (l : List Sp) : Nat := (l.map fun p => p.2.toNat + 1 - p.1.toNat).sum
theorem sumL_snoc (l : List Sp) (p : Sp) : sumL (l ++ [p]) = sumL l + (p.2.toNat + 1 - p.1.toNat) := by unfold sumL; simp
theorem runs_sum (S : S4) : ∀ n, n ≤ 256 → sumL (runsTo S n) = cnt (mem S) n
  | 0, _ => rfl
  | n + 1, hn => by
    have ih := runs_sum S n (by omega)
    rw [runsTo, cnt]
    split
    · have hone : (UInt8.ofNat n).toNat = n := u8_nat (by omega)
      rcases snoc_cases (runsTo S n) with h0 | ⟨r, q, hr⟩
      · rw [h0] at ih ⊢
        rw [addC_nil, ← ih]
        simp [sumL]
      · obtain ⟨q1, q2, q3⟩ := runs_last S n (by omega) r q hr
        rw [hr, sumL_snoc] at ih
        rw [hr]
        by_cases hq : q.2.toNat + 1 = n
        · rw [addC_yes hq, sumL_snoc]; dsimp only; rw [hone]; omega
        · rw [addC_no hq, sumL_snoc, sumL_snoc]; dsimp only; rw [hone]; omega
    · rw [ih]; rfl
theorem cnt_le (f : Nat → Bool) : ∀ n, cnt f n ≤ n
  | 0 => Nat.le_refl _
  | n + 1 => by have := cnt_le f n; rw [cnt]; split <;> omega
theorem cnt_all (f : Nat → Bool) : ∀ n, cnt f n = n → ∀ x, x < n → f x = true
  | 0, _, x, h => by omega
  | n + 1, h, x, hx => by
    have hl := cnt_le f n
    rw [cnt] at h
    split at h
    · rename_i hf
      by_cases e : x = n
      · subst e; exact hf
      · exact cnt_all f n (by omega) x (by omega)
    · omega
theorem sum_pos {l : List Sp} {p : Sp} (h : ∀ q ∈ l ++ [p], okS q = true) : sumL l < sumL (l ++ [p]) := by
  have := h p (by simp)
  unfold okS at this
  rw [decide_eq_true_eq] at this
  rw [sumL_snoc]; omega
/-- Which runs there are, by how many bytes there are. -/
theorem runs_zero {S : S4} (h : cnt (mem S) 256 = 0) : runs S = [] := by
  rw [← runs_sum S 256 (by omega)] at h
  unfold runs
  rcases snoc_cases (runsTo S 256) with h0 | ⟨r, q, hr⟩
  · exact h0
  · obtain ⟨q1, q2, q3⟩ := runs_last S 256 (by omega) r q hr
    rw [hr, sumL_snoc] at h; omega
theorem runs_one {S : S4} (h : cnt (mem S) 256 = 1) : ∃ c, runs S = [(c, c)] ∧ nxt S 0 = c.toNat := by
  rw [← runs_sum S 256 (by omega)] at h
  have hall := runs_ok S 256 (by omega)
  have hany := fun x hx => runs_any S x hx 256 (by omega)
  unfold runs
  rcases snoc_cases (runsTo S 256) with h0 | ⟨r, q, hr⟩
  · rw [h0] at h; simp [sumL] at h
  · obtain ⟨q1, q2, q3⟩ := runs_last S 256 (by omega) r q hr
    rw [hr] at hall hany ⊢
    rw [hr, sumL_snoc] at h
    have hr0 : r = [] := by
      rcases snoc_cases r with h1 | ⟨r', q', h1⟩
      · exact h1
      · have : okS q' = true := by rw [List.all_eq_true] at hall; exact hall q' (by rw [h1]; simp)
        unfold okS at this
        rw [decide_eq_true_eq] at this
        rw [h1, sumL_snoc] at h; omega
    subst hr0
    have hq : q.1 = q.2 := UInt8.toNat_inj.1 (by omega)
    refine ⟨q.1, by rw [List.nil_append, show q = (q.1, q.1) from Prod.ext rfl hq.symm], ?_⟩
    obtain ⟨a, b, c, d⟩ := nxt_is S 0 (by omega)
    have hlt : nxt S 0 ≤ q.2.toNat := by
      by_cases hh : q.2.toNat < nxt S 0
      · have := d q.2.toNat (by omega) hh
        rw [this] at q2; cases q2
      · omega
    have hm := c (by omega)
    have := hany (nxt S 0) (by omega)
    rw [hm, Bool.and_true, decide_eq_true (show nxt S 0 < 256 by omega), List.nil_append, List.any_cons, List.any_nil, Bool.or_false] at this
    unfold hasS at this
    rw [Bool.and_eq_true, decide_eq_true_eq, decide_eq_true_eq] at this
    omega
theorem runs_full {S : S4} (h : cnt (mem S) 256 = 256) : runs S = [(0, 255)] := by
  have := runs_run S 0 (.inl rfl) 255 (by omega) (fun x _ hx => cnt_all _ _ h x (by omega))
  exact this
/- The text of a set. -/
def sgA : Bs := [92, 124, 40, 41, 42, 43, 63, 123, 46, 91, 94, 36]
def sgJ : Bs := [93, 45, 92, 94]
def itemJ (p : Sp) : Bs := esc sgJ p.1 ++ if (p.1.toNat : Int) < (p.2.toNat : Int) then 45 :: esc sgJ p.2 else []
def setText (S : S4) : Bs :=
  if cnt (mem S) 256 = 0 then [91, 94, 0, 45, 255, 93] else if cnt (mem S) 256 = 1 then esc sgA (UInt8.ofNat (nxt S 0)) else if cnt (mem S) 256 = 256 then [46]
  else 91 :: ((runs S).flatMap itemJ ++ [93])
theorem sumL_nil : sumL [] = 0 := rfl
theorem setText_nil {S : S4} (h : runs S = []) : setText S = [91, 94, 0, 45, 255, 93] := by
  unfold setText; rw [if_pos]; rw [← runs_sum S 256 (by omega)]; unfold runs at h; rw [h]; rfl
theorem setText_one {S : S4} {c : UInt8} (h : runs S = [(c, c)]) : setText S = esc sgA c := by
  have h1 : cnt (mem S) 256 = 1 := by rw [← runs_sum S 256 (by omega)]; unfold runs at h; rw [h]; simp [sumL]
  obtain ⟨d, h2, h3⟩ := runs_one h1
  rw [h] at h2
  injection h2 with h2 _
  injection h2 with h2 _
  unfold setText
  rw [if_neg (by omega), if_pos h1, h3, ← h2]; simp
theorem setText_full {S : S4} (h : runs S = [(0, 255)]) : setText S = [46] := by
  have h1 : cnt (mem S) 256 = 256 := by rw [← runs_sum S 256 (by omega)]; unfold runs at h; rw [h]; rfl
  unfold setText
  rw [if_neg (by omega), if_neg (by omega), if_pos h1]
theorem setText_many {S : S4} (h0 : runs S ≠ []) (h1 : ∀ c, runs S ≠ [(c, c)]) (h2 : runs S ≠ [(0, 255)]) : setText S = 91 :: ((runs S).flatMap itemJ ++ [93]) := by
  unfold setText
  rw [if_neg (fun h => h0 (runs_zero h)), if_neg (fun h => by obtain ⟨c, hc, _⟩ := runs_one h; exact h1 c hc), if_neg (fun h => h2 (runs_full h))]
end Go.Proofs.YtccheljfbjllhaaDoor
