/- Plain facts: what stands for pieces; by parts; by a table; by going back to the last piece for any bytes. -/
import Derived.Test.YtafnlbcpnamdkaaPlain
namespace Go.Proofs.Ytafnlbcpnamdkaa
open Go Go.RowKit

def inS (c : UInt8) (s : Sp) : Bool := decide ((s.1.toNat : Int) ≤ (c.toNat : Int)) && decide ((c.toNat : Int) ≤ (s.2.toNat : Int))
def fits (g : Gl) (c : UInt8) : Bool := if g.kind = 0 then decide (c = g.byte) else if g.kind = 3 then g.spans.any (inS c) else true
def star (g : Gl) : Bool := decide (g.kind = 2)
def anyTail (f : Bs → Bool) : Bs → Bool
  | [] => f []
  | c :: t => f (c :: t) || anyTail f t
def mat : List Gl → Bs → Bool
  | [], s => s.isEmpty
  | g :: r, s => if star g then anyTail (mat r) s else match s with
    | [] => false
    | c :: t => fits g c && mat r t
theorem mat_nil (s : Bs) : mat [] s = s.isEmpty := by rw [mat]
theorem mat_star {g : Gl} (r : List Gl) (s : Bs) (h : star g = true) : mat (g :: r) s = anyTail (mat r) s := by cases s <;> simp [mat, h]
theorem mat_one {g : Gl} (r : List Gl) (c : UInt8) (t : Bs) (h : star g = false) : mat (g :: r) (c :: t) = (fits g c && mat r t) := by
  rw [mat]; simp [h]
theorem mat_one_nil {g : Gl} (r : List Gl) (h : star g = false) : mat (g :: r) [] = false := by
  rw [mat]; simp [h]
theorem anyTail_iff (f : Bs → Bool) : ∀ s : Bs, anyTail f s = true ↔ ∃ j, j ≤ s.length ∧ f (s.drop j) = true
  | [] => by
    simp only [anyTail, List.length_nil, Nat.le_zero]
    constructor
    · intro h; exact ⟨0, rfl, h⟩
    · rintro ⟨j, rfl, h⟩; exact h
  | c :: t => by
    rw [anyTail, Bool.or_eq_true, anyTail_iff f t]
    constructor
    · rintro (h | ⟨j, hj, h⟩)
      · exact ⟨0, by omega, h⟩
      · exact ⟨j + 1, by simpa using hj, h⟩
    · rintro ⟨j, hj, h⟩
      cases j with
      | zero => exact .inl h
      | succ j => exact .inr ⟨j, by simpa using hj, h⟩
/-- By parts. -/
theorem mat_append : ∀ (a b : List Gl) (s : Bs), mat (a ++ b) s = true ↔ ∃ i, i ≤ s.length ∧ mat a (s.take i) = true ∧ mat b (s.drop i) = true
  | [], b, s => by
    rw [List.nil_append]
    constructor
    · intro h; exact ⟨0, by omega, by simp [mat_nil], h⟩
    · rintro ⟨i, hi, h1, h2⟩
      rw [mat_nil, List.isEmpty_iff, List.take_eq_nil_iff] at h1
      rcases h1 with rfl | rfl
      · exact h2
      · simpa using h2
  | g :: r, b, s => by
    rw [List.cons_append]
    by_cases hg : star g = true
    · rw [mat_star _ _ hg, anyTail_iff]
      constructor
      · rintro ⟨j, hj, h⟩
        obtain ⟨i, hi, h1, h2⟩ := (mat_append r b _).1 h
        rw [List.length_drop] at hi
        refine ⟨j + i, by omega, ?_, by rw [← List.drop_drop]; exact h2⟩
        rw [mat_star _ _ hg, anyTail_iff]
        refine ⟨j, by rw [List.length_take]; omega, ?_⟩
        rw [List.drop_take, show j + i - j = i by omega]; exact h1
      · rintro ⟨i, hi, h1, h2⟩
        rw [mat_star _ _ hg, anyTail_iff] at h1
        obtain ⟨j, hj, h1⟩ := h1
        rw [List.length_take] at hj
        refine ⟨j, by omega, (mat_append r b _).2 ⟨i - j, by rw [List.length_drop]; omega, by rw [← List.drop_take]; exact h1, by rw [List.drop_drop, show j + (i - j) = i by omega]; exact h2⟩⟩
    · have hg := Bool.eq_false_iff.2 hg
      cases s with
      | nil =>
        rw [mat_one_nil _ hg]
        constructor
        · intro h; cases h
        · rintro ⟨i, hi, h1, h2⟩
          rw [List.take_nil, mat_one_nil _ hg] at h1; cases h1
      | cons c t =>
        rw [mat_one _ _ _ hg, Bool.and_eq_true, mat_append r b t]
        constructor
        · rintro ⟨hf, i, hi, h1, h2⟩
          refine ⟨i + 1, by simpa using hi, ?_, h2⟩
          rw [List.take_succ_cons, mat_one _ _ _ hg, hf, h1]; rfl
        · rintro ⟨i, hi, h1, h2⟩
          cases i with
          | zero => rw [List.take_zero, mat_one_nil _ hg] at h1; cases h1
          | succ i =>
            rw [List.take_succ_cons, mat_one _ _ _ hg, Bool.and_eq_true] at h1
            exact ⟨h1.1, i, by simpa using hi, h1.2, h2⟩
/- By a table: 'dp' of so many first pieces and so many first bytes. -/
def dp (l : List Gl) (s : Bs) (i k : Nat) : Bool := mat (l.take i) (s.take k)
theorem dp_zero (l : List Gl) (s : Bs) (k : Nat) (hk : k ≤ s.length) : dp l s 0 k = decide (k = 0) := by
  unfold dp
  rw [List.take_zero, mat_nil, Bool.eq_iff_iff]
  simp only [List.isEmpty_iff, List.take_eq_nil_iff, decide_eq_true_eq]
  constructor
  · rintro (h | h)
    · exact h
    · subst h; simpa using hk
  · exact .inl
theorem mat_single_star {g : Gl} (s : Bs) (h : star g = true) : mat [g] s = true := by
  rw [mat_star _ _ h, anyTail_iff]
  exact ⟨s.length, Nat.le_refl _, by rw [mat_nil]; simp⟩
theorem dp_succ {l : List Gl} {s : Bs} {i k : Nat} {g : Gl} (hi : l[i]? = some g) : dp l s (i + 1) k = true ↔ ∃ j, j ≤ (s.take k).length ∧ dp l s i (min j k) = true ∧ mat [g] ((s.take k).drop j) = true := by
  unfold dp
  obtain ⟨hl, e⟩ := List.getElem?_eq_some_iff.1 hi
  rw [List.take_succ_eq_append_getElem hl, e, mat_append]
  constructor
  · rintro ⟨j, hj, h1, h2⟩; exact ⟨j, hj, by rw [List.take_take] at h1; exact h1, h2⟩
  · rintro ⟨j, hj, h1, h2⟩; exact ⟨j, hj, by rw [List.take_take]; exact h1, h2⟩
theorem dp_star {l : List Gl} {s : Bs} {i k : Nat} {g : Gl} (hi : l[i]? = some g) (hk : k ≤ s.length) (h : star g = true) : dp l s (i + 1) k = (dp l s i k || (decide (0 < k) && dp l s (i + 1) (k - 1))) := by
  rw [Bool.eq_iff_iff, Bool.or_eq_true, Bool.and_eq_true, dp_succ hi, dp_succ hi, decide_eq_true_eq]
  have e : (s.take k).length = k := by rw [List.length_take]; omega
  have e' : (s.take (k - 1)).length = k - 1 := by rw [List.length_take]; omega
  rw [e, e']
  constructor
  · rintro ⟨j, hj, h1, _⟩
    by_cases hjk : j = k
    · subst hjk; left; simpa using h1
    · right
      refine ⟨by omega, j, by omega, ?_, mat_single_star _ h⟩
      rw [show min j (k - 1) = j by omega]
      rw [show min j k = j by omega] at h1
      exact h1
  · rintro (h1 | ⟨hk0, j, hj, h1, _⟩)
    · exact ⟨k, Nat.le_refl _, by simpa using h1, mat_single_star _ h⟩
    · refine ⟨j, by omega, ?_, mat_single_star _ h⟩
      rw [show min j k = j by omega]
      rw [show min j (k - 1) = j by omega] at h1
      exact h1
theorem mat_single {g : Gl} (s : Bs) (h : star g = false) : mat [g] s = true ↔ ∃ c, s = [c] ∧ fits g c = true := by
  cases s with
  | nil => rw [mat_one_nil _ h]; simp
  | cons c t =>
    rw [mat_one _ _ _ h, Bool.and_eq_true, mat_nil, List.isEmpty_iff]
    constructor
    · rintro ⟨h1, rfl⟩; exact ⟨c, rfl, h1⟩
    · rintro ⟨d, hd, h1⟩; injection hd with a b; subst a b; exact ⟨h1, rfl⟩
theorem dp_one {l : List Gl} {s : Bs} {i k : Nat} {g : Gl} {c : UInt8} (hi : l[i]? = some g) (h : star g = false) (hc : s[k]? = some c) : dp l s (i + 1) (k + 1) = (dp l s i k && fits g c) := by
  obtain ⟨hk, ec⟩ := List.getElem?_eq_some_iff.1 hc
  rw [Bool.eq_iff_iff, Bool.and_eq_true, dp_succ hi]
  have e : (s.take (k + 1)).length = k + 1 := by rw [List.length_take]; omega
  rw [e]
  have ed : (s.take (k + 1)).drop k = [c] := by
    rw [List.take_succ_eq_append_getElem hk, ec, List.drop_left' (by rw [List.length_take]; omega)]
  constructor
  · rintro ⟨j, hj, h1, h2⟩
    obtain ⟨d, hd, h3⟩ := (mat_single _ h).1 h2
    have hl := congrArg List.length hd
    rw [List.length_drop, e] at hl
    simp at hl
    obtain rfl : j = k := by omega
    rw [ed] at hd
    injection hd with hd _
    subst hd
    rw [show min j (j + 1) = j by omega] at h1
    exact ⟨h1, h3⟩
  · rintro ⟨h1, h2⟩
    refine ⟨k, by omega, by rw [show min k (k + 1) = k by omega]; exact h1, ?_⟩
    rw [ed]; exact (mat_single _ h).2 ⟨c, rfl, h2⟩
theorem dp_one_zero {l : List Gl} {s : Bs} {i : Nat} {g : Gl} (hi : l[i]? = some g) (h : star g = false) : dp l s (i + 1) 0 = false := by
  rw [Bool.eq_false_iff]
  intro hd
  obtain ⟨j, hj, _, h2⟩ := (dp_succ hi).1 hd
  obtain ⟨c, hc, _⟩ := (mat_single _ h).1 h2
  simp at hc
theorem dp_all (l : List Gl) (s : Bs) : dp l s l.length s.length = mat l s := by unfold dp; simp
/- By going back. -/
/-- Where the search stands: at a piece and a byte; behind the last star (or -1), whose bytes end at 'm'. -/
def At (l : List Gl) (s : Bs) (p a : Nat) (b : Int) (m : Nat) : Prop :=
  p ≤ l.length ∧ a ≤ s.length ∧ ((b = -1 ∧ m = 0 ∧ mat l s = mat (l.drop p) (s.drop a)) ∨
    ∃ q : Nat, b = q ∧ q ≤ p ∧ m ≤ a ∧ p - q = a - m ∧ mat (l.drop q) (s.drop m) = mat (l.drop p) (s.drop a) ∧
      (∀ j, m ≤ j → j ≤ s.length → mat (l.drop q) (s.drop j) = true → j + (p - q) ≤ s.length ∧ mat (l.drop p) (s.drop (j + (p - q))) = true) ∧ mat l s = anyTail (mat (l.drop q)) (s.drop m))
theorem at_start (l : List Gl) (s : Bs) : At l s 0 0 (-1) 0 := ⟨by omega, by omega, .inl ⟨rfl, rfl, rfl⟩⟩
theorem drop_get {α : Type} {l : List α} {p : Nat} {g : α} (h : l[p]? = some g) : l.drop p = g :: l.drop (p + 1) := by
  obtain ⟨hp, e⟩ := List.getElem?_eq_some_iff.1 h
  rw [List.drop_eq_getElem_cons hp, e]
theorem at_star {l : List Gl} {s : Bs} {p a m : Nat} {b : Int} {g : Gl} (h : At l s p a b m) (hg : l[p]? = some g) (hs : star g = true) : At l s (p + 1) a ((p + 1 : Nat) : Int) a := by
  obtain ⟨hp, ha, h⟩ := h
  have hlt : p < l.length := (List.getElem?_eq_some_iff.1 hg).1
  have hd := drop_get hg
  refine ⟨hlt, ha, .inr ⟨p + 1, rfl, by omega, Nat.le_refl _, by omega, rfl, fun j h1 h2 h3 => ⟨by omega, by simpa using h3⟩, ?_⟩⟩
  rw [← mat_star _ _ hs, ← hd]
  rcases h with ⟨_, _, h⟩ | ⟨q, rfl, hq, hm, hpa, he, hc, h⟩
  · exact h
  · rw [h, Bool.eq_iff_iff, anyTail_iff]
    constructor
    · rintro ⟨j, hj, h1⟩
      rw [List.drop_drop] at h1
      rw [List.length_drop] at hj
      obtain ⟨h2, h3⟩ := hc (m + j) (by omega) (by omega) h1
      rw [hd, mat_star _ _ hs, anyTail_iff] at h3 ⊢
      obtain ⟨i, hi, h3⟩ := h3
      rw [List.length_drop] at hi
      rw [List.drop_drop] at h3
      refine ⟨j + i, by rw [List.length_drop]; omega, ?_⟩
      rw [List.drop_drop, show a + (j + i) = m + j + (p - q) + i by omega]
      exact h3
    · intro h1
      exact ⟨0, by omega, by rw [List.drop_zero, he]; exact h1⟩
theorem at_fits {l : List Gl} {s : Bs} {p a m : Nat} {b : Int} {g : Gl} {c : UInt8} (h : At l s p a b m) (hg : l[p]? = some g) (hs : star g = false) (hc : s[a]? = some c) (hf : fits g c = true) : At l s (p + 1) (a + 1) b m := by
  obtain ⟨hp, ha, h⟩ := h
  have hlt : p < l.length := (List.getElem?_eq_some_iff.1 hg).1
  have hla : a < s.length := (List.getElem?_eq_some_iff.1 hc).1
  have e : mat (l.drop p) (s.drop a) = mat (l.drop (p + 1)) (s.drop (a + 1)) := by
    rw [drop_get hg, drop_get hc, mat_one _ _ _ hs, hf, Bool.true_and]
  refine ⟨hlt, hla, ?_⟩
  rcases h with ⟨h1, h0, h⟩ | ⟨q, rfl, hq, hm, hpa, he, hcc, h⟩
  · exact .inl ⟨h1, h0, by rw [h, e]⟩
  · refine .inr ⟨q, rfl, by omega, by omega, by omega, by rw [he, e], fun j h1 h2 h3 => ?_, h⟩
    obtain ⟨h4, h5⟩ := hcc j h1 h2 h3
    rw [drop_get hg] at h5
    cases hd : s.drop (j + (p - q)) with
    | nil => rw [hd, mat_one_nil _ hs] at h5; cases h5
    | cons d t =>
      rw [hd, mat_one _ _ _ hs, Bool.and_eq_true] at h5
      have hlen := congrArg List.length hd
      rw [List.length_drop, List.length_cons] at hlen
      refine ⟨by omega, ?_⟩
      have : s.drop (j + (p + 1 - q)) = t := by
        rw [show j + (p + 1 - q) = j + (p - q) + 1 by omega, ← List.drop_drop, hd]; rfl
      rw [this]; exact h5.2
/-- Nothing at the place fits. -/
def Stuck (l : List Gl) (s : Bs) (p a : Nat) : Prop := l[p]? = none ∨ ∃ g c, l[p]? = some g ∧ star g = false ∧ s[a]? = some c ∧ fits g c = false
theorem stuck_mat {l : List Gl} {s : Bs} {p a : Nat} (h : Stuck l s p a) (ha : a < s.length) : mat (l.drop p) (s.drop a) = false := by
  rcases h with h | ⟨g, c, h1, h2, h3, h4⟩
  · have : l.drop p = [] := List.drop_eq_nil_of_le (by simpa using h)
    rw [this, mat_nil, List.drop_eq_getElem_cons ha]; rfl
  · rw [drop_get h1, drop_get h3, mat_one _ _ _ h2, h4, Bool.false_and]
theorem at_back {l : List Gl} {s : Bs} {p a m q : Nat} (h : At l s p a (q : Int) m) (ha : a < s.length) (hs : Stuck l s p a) : At l s q (m + 1) (q : Int) (m + 1) := by
  obtain ⟨hp, _, h⟩ := h
  rcases h with ⟨h1, _⟩ | ⟨q', hq', hq, hm, hpa, he, hcc, h⟩
  · omega
  · obtain rfl : q = q' := by omega
    refine ⟨by omega, by omega, .inr ⟨q, rfl, Nat.le_refl _, Nat.le_refl _, by omega, rfl, fun j h1 h2 h3 => ⟨by omega, by simpa using h3⟩, ?_⟩⟩
    have hml : m < s.length := by omega
    rw [h, List.drop_eq_getElem_cons hml, anyTail, ← List.drop_eq_getElem_cons hml, he, stuck_mat hs ha, Bool.false_or]
theorem at_no {l : List Gl} {s : Bs} {p a m : Nat} {b : Int} (h : At l s p a b m) (ha : a < s.length) (hs : Stuck l s p a) (hb : b < 0) : mat l s = false := by
  obtain ⟨hp, _, h⟩ := h
  rcases h with ⟨_, _, h1⟩ | ⟨q', hq', _⟩
  · rw [h1, stuck_mat hs ha]
  · omega
theorem at_end {l : List Gl} {s : Bs} {p a m : Nat} {b : Int} (h : At l s p a b m) (ha : ¬ a < s.length) : mat l s = mat (l.drop p) [] := by
  obtain ⟨hp, ha', h⟩ := h
  have hn : s.drop a = [] := List.drop_eq_nil_of_le (by omega)
  rcases h with ⟨_, _, h⟩ | ⟨q, rfl, hq, hm, hpa, he, hcc, h⟩
  · rw [h, hn]
  · rw [h, Bool.eq_iff_iff, anyTail_iff]
    constructor
    · rintro ⟨j, hj, h1⟩
      rw [List.drop_drop] at h1
      rw [List.length_drop] at hj
      obtain ⟨h2, h3⟩ := hcc (m + j) (by omega) (by omega) h1
      rw [show s.drop (m + j + (p - q)) = [] from List.drop_eq_nil_of_le (by omega)] at h3
      exact h3
    · intro h1
      exact ⟨0, by omega, by rw [List.drop_zero, he, hn]; exact h1⟩
theorem mat_empty : ∀ l : List Gl, mat l [] = l.all star
  | [] => rfl
  | g :: r => by
    by_cases hg : star g = true
    · rw [mat_star _ _ hg, anyTail, mat_empty r, List.all_cons, hg]; rfl
    · have hg := Bool.eq_false_iff.2 hg
      rw [mat_one_nil _ hg, List.all_cons, hg]; rfl
/-- What shows that the search ends. -/
def left (_ a : Nat) (b : Int) (m : Nat) : Nat := 2000000 - ((b + 1).toNat * 20000 + m * 100 + a)
theorem left_star {l : List Gl} {s : Bs} {p a m : Nat} {b : Int} (h : At l s p a b m) (hl : l.length ≤ 80) (hs : s.length ≤ 60) (hp : p < l.length) : left (p + 1) a ((p + 1 : Nat) : Int) a < left p a b m := by
  obtain ⟨_, ha, h⟩ := h
  unfold left
  rcases h with ⟨rfl, h0, _⟩ | ⟨q, rfl, hq, hm, _⟩ <;> omega
theorem left_fits {l : List Gl} {s : Bs} {p a m : Nat} {b : Int} (h : At l s p a b m) (hl : l.length ≤ 80) (hs : s.length ≤ 60) (ha : a < s.length) : left (p + 1) (a + 1) b m < left p a b m := by
  obtain ⟨_, _, h⟩ := h
  unfold left
  rcases h with ⟨rfl, h0, _⟩ | ⟨q, rfl, hq, hm, _⟩ <;> omega
theorem left_back {l : List Gl} {s : Bs} {p a m q : Nat} (h : At l s p a (q : Int) m) (hl : l.length ≤ 80) (hs : s.length ≤ 60) (ha : a < s.length) : left q (m + 1) (q : Int) (m + 1) < left p a (q : Int) m := by
  obtain ⟨_, _, h⟩ := h
  unfold left
  rcases h with ⟨h1, _⟩ | ⟨q', h1, hq, hm, _⟩ <;> omega
end Go.Proofs.Ytafnlbcpnamdkaa
