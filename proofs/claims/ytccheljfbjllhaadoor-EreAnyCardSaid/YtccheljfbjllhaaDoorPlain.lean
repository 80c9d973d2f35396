/- Plain facts on lists of bytes: pieces of a pattern, their text, and how it is read. -/
import Derived.WalkKit
namespace Go.Proofs.YtccheljfbjllhaaDoor
/- Plain facts on lists of bytes: pieces of a pattern, their text, and how it is read. -/
section
open Go Go.RowKit

abbrev Bs := List UInt8
abbrev Sp := UInt8 × UInt8
structure Gl where
  kind : Int
  byte : UInt8
  spans : List Sp
theorem all256 (P : UInt8 → Prop) (h : ∀ n, n < 256 → P (UInt8.ofNat n)) (c : UInt8) : P c := by
  have := h c.toNat (UInt8.toNat_lt c)
  rwa [UInt8.ofNat_toNat] at this
/- What may be. -/
def okS (s : Sp) : Bool := decide ((s.1.toNat : Int) ≤ (s.2.toNat : Int))
def okG (g : Gl) : Bool :=
  if g.kind = 0 then g.spans.isEmpty
  else if g.kind = 1 ∨ g.kind = 2 then decide (g.byte = 0) && g.spans.isEmpty
  else if g.kind = 3 then decide (g.byte = 0) && (g.spans.all okS && !g.spans.isEmpty) else false
def may (l : List Gl) : Bool := l.all okG
/- The texts. -/
def sgI : Bs := [93, 45, 92]
def sgP : Bs := [42, 63, 91, 92]
def esc (sg : Bs) (c : UInt8) : Bs := if c ∈ sg then [92, c] else [c]
def itemT (s : Sp) : Bs := esc sgI s.1 ++ if (s.1.toNat : Int) < (s.2.toNat : Int) then 45 :: esc sgI s.2 else []
def textG (g : Gl) : Bs := if g.kind = 2 then [42] else if g.kind = 1 then [63] else if g.kind = 0 then esc sgP g.byte else 91 :: (g.spans.flatMap itemT ++ [93])
def text (l : List Gl) : Bs := l.flatMap textG
/- Reading: at a place of a whole text. -/
inductive Res (α : Type) where
  | bad (q : Nat) | ok (a : α) (q : Nat)
def rb (sg s : Bs) (k : Nat) : Res UInt8 :=
  match s.drop k with
  | [] => .bad k
  | c :: r => if c = 92 then (match r with
      | [] => .bad (k + 1)
      | d :: _ => .ok d (k + 2)) else if c ∈ sg then .bad k else .ok c (k + 1)
def item (s : Bs) (k : Nat) : Res Sp :=
  match rb sgI s k with
  | .bad q => .bad q
  | .ok lo q => if s[q]? = some 45 then (match rb sgI s (q + 1) with
      | .bad q2 => .bad q2
      | .ok hi q2 => if (hi.toNat : Int) < (lo.toNat : Int) then .bad (q2 - 1) else .ok (lo, hi) q2)
    else .ok (lo, lo) q
def goS (s : Bs) (k : Nat) (acc : List Sp) : Res (List Sp) :=
  if acc ≠ [] ∧ s[k]? = some 93 then .ok acc (k + 1) else match item s k with
    | .bad q => .bad q
    | .ok sp q => if k < q ∧ q ≤ s.length then goS s q (acc ++ [sp]) else .bad q
termination_by s.length - k
decreasing_by omega
def piece (s : Bs) (k : Nat) : Res Gl :=
  if s[k]? = some 42 then .ok ⟨2, 0, []⟩ (k + 1) else if s[k]? = some 63 then .ok ⟨1, 0, []⟩ (k + 1)
  else if s[k]? = some 91 then (match goS s (k + 1) [] with
    | .bad q => .bad q
    | .ok l q => .ok ⟨3, 0, l⟩ q)
  else match rb [] s k with
    | .bad q => .bad q
    | .ok b q => .ok ⟨0, b, []⟩ q
def goP (s : Bs) (k : Nat) (acc : List Gl) : Option (List Gl) × Nat :=
  if k < s.length then (match piece s k with
    | .bad q => (none, q)
    | .ok g q => if k < q ∧ q ≤ s.length then goP s q (acc ++ [g]) else (none, q))
  else (some acc, 0)
termination_by s.length - k
decreasing_by omega
/-- The pieces, the place, and 0, 1 (the form), 2 (too long). -/
def parse (s : Bs) : Option (List Gl) × Nat × Int :=
  if 200 < s.length then (none, 200, 2) else match goP s 0 [] with
    | (none, q) => (none, q, 1)
    | (some l, q) => (some l, q, 0)
/- Where reading goes on. -/
theorem rb_bd {sg s : Bs} {k : Nat} (h : k ≤ s.length) : match rb sg s k with
    | .bad q => k ≤ q ∧ q ≤ s.length
    | .ok _ q => k < q ∧ q ≤ s.length := by
  unfold rb
  have hl := List.length_drop (i := k) (l := s)
  rcases hd : s.drop k with _ | ⟨c, r⟩
  · exact ⟨Nat.le_refl _, h⟩
  · rw [hd] at hl
    simp only [List.length_cons] at hl
    dsimp only
    split
    · rename_i q heq
      split at heq
      · rcases r with _ | ⟨d, r⟩
        · injection heq with heq; subst heq; omega
        · cases heq
      · split at heq
        · injection heq with heq; subst heq; omega
        · cases heq
    · rename_i b q heq
      split at heq
      · rcases r with _ | ⟨d, r⟩
        · cases heq
        · injection heq with _ heq; subst heq; simp at hl; omega
      · split at heq
        · cases heq
        · injection heq with _ heq; subst heq; omega
theorem rb_bad {sg s : Bs} {k q : Nat} (h : k ≤ s.length) (hr : rb sg s k = .bad q) : k ≤ q ∧ q ≤ s.length := by
  have := rb_bd (sg := sg) h; rw [hr] at this; exact this
theorem rb_ok {sg s : Bs} {k q : Nat} {c : UInt8} (h : k ≤ s.length) (hr : rb sg s k = .ok c q) : k < q ∧ q ≤ s.length := by
  have := rb_bd (sg := sg) h; rw [hr] at this; exact this
theorem lt_of_get {s : Bs} {k : Nat} {c : UInt8} (h : s[k]? = some c) : k < s.length := (List.getElem?_eq_some_iff.1 h).1
theorem item_bd {s : Bs} {k : Nat} (h : k ≤ s.length) : match item s k with
    | .bad q => k ≤ q ∧ q ≤ s.length
    | .ok _ q => k < q ∧ q ≤ s.length := by
  unfold item
  rcases hr : rb sgI s k with q | ⟨lo, q⟩
  · exact rb_bad h hr
  · obtain ⟨a, b⟩ := rb_ok h hr
    dsimp only
    by_cases h45 : s[q]? = some 45
    · rw [if_pos h45]
      have hq := lt_of_get h45
      rcases hr2 : rb sgI s (q + 1) with q2 | ⟨hi, q2⟩
      · obtain ⟨c, d⟩ := rb_bad (by omega) hr2
        exact ⟨by omega, d⟩
      · obtain ⟨c, d⟩ := rb_ok (by omega) hr2
        dsimp only
        by_cases hlt : (hi.toNat : Int) < (lo.toNat : Int)
        · rw [if_pos hlt]; exact ⟨by omega, by omega⟩
        · rw [if_neg hlt]; exact ⟨by omega, d⟩
    · rw [if_neg h45]; exact ⟨a, b⟩
theorem item_bad {s : Bs} {k q : Nat} (h : k ≤ s.length) (hr : item s k = .bad q) : k ≤ q ∧ q ≤ s.length := by
  have := item_bd h; rw [hr] at this; exact this
theorem item_ok {s : Bs} {k q : Nat} {c : Sp} (h : k ≤ s.length) (hr : item s k = .ok c q) : k < q ∧ q ≤ s.length := by
  have := item_bd h; rw [hr] at this; exact this
/- One equation a kind of step. -/
theorem goS_end {s : Bs} {k : Nat} {acc : List Sp} (h : acc ≠ []) (h1 : s[k]? = some 93) : goS s k acc = .ok acc (k + 1) := by
  rw [goS, if_pos ⟨h, h1⟩]
theorem goS_bad {s : Bs} {k q : Nat} {acc : List Sp} (h : ¬ (acc ≠ [] ∧ s[k]? = some 93)) (h1 : item s k = .bad q) : goS s k acc = .bad q := by
  rw [goS, if_neg h, h1]
theorem goS_ok {s : Bs} {k q : Nat} {acc : List Sp} {sp : Sp} (h : ¬ (acc ≠ [] ∧ s[k]? = some 93)) (hk : k ≤ s.length) (h1 : item s k = .ok sp q) : goS s k acc = goS s q (acc ++ [sp]) := by
  obtain ⟨a, b⟩ := item_ok hk h1
  rw [goS, if_neg h, h1]
  exact if_pos ⟨a, b⟩
theorem goS_ind {s : Bs} (P : Nat → List Sp → Prop)
    (h1 : ∀ k acc, acc ≠ [] → s[k]? = some 93 → P k acc) (h2 : ∀ k q acc, k ≤ s.length → ¬ (acc ≠ [] ∧ s[k]? = some 93) → item s k = .bad q → P k acc)
    (h3 : ∀ k q acc sp, k ≤ s.length → ¬ (acc ≠ [] ∧ s[k]? = some 93) → item s k = .ok sp q → P q (acc ++ [sp]) → P k acc) : ∀ (n k : Nat) (acc : List Sp), s.length - k < n → k ≤ s.length → P k acc
  | 0, k, acc, h, hk => by omega
  | n + 1, k, acc, h, hk => by
    by_cases he : acc ≠ [] ∧ s[k]? = some 93
    · exact h1 k acc he.1 he.2
    · rcases hi : item s k with q | ⟨sp, q⟩
      · exact h2 k q acc hk he hi
      · obtain ⟨a, b⟩ := item_ok hk hi
        exact h3 k q acc sp hk he hi (goS_ind P h1 h2 h3 n q _ (by omega) b)
theorem goS_bd {s : Bs} {k : Nat} (acc : List Sp) (hk : k ≤ s.length) : match goS s k acc with
    | .bad q => k ≤ q ∧ q ≤ s.length
    | .ok l q => k < q ∧ q ≤ s.length ∧ l ≠ [] := by
  refine goS_ind (s := s) (fun k acc => match goS s k acc with
    | .bad q => k ≤ q ∧ q ≤ s.length
    | .ok l q => k < q ∧ q ≤ s.length ∧ l ≠ []) ?_ ?_ ?_ (s.length - k + 1) k acc (by omega) hk
  · intro k acc h h1
    have := lt_of_get h1
    rw [goS_end h h1]; exact ⟨by omega, by omega, h⟩
  · intro k q acc hk he hi
    rw [goS_bad he hi]; exact item_bad hk hi
  · intro k q acc sp hk he hi ih
    obtain ⟨a, b⟩ := item_ok hk hi
    rw [goS_ok he hk hi]
    rcases hg : goS s q (acc ++ [sp]) with q' | ⟨l, q'⟩
    · rw [hg] at ih; exact ⟨by omega, ih.2⟩
    · rw [hg] at ih; exact ⟨by omega, ih.2⟩
theorem goS_okb {s : Bs} {k q : Nat} {acc l : List Sp} (hk : k ≤ s.length) (h : goS s k acc = .ok l q) : k < q ∧ q ≤ s.length ∧ l ≠ [] := by
  have := goS_bd acc hk; rw [h] at this; exact this
theorem goS_badb {s : Bs} {k q : Nat} {acc : List Sp} (hk : k ≤ s.length) (h : goS s k acc = .bad q) : k ≤ q ∧ q ≤ s.length := by
  have := goS_bd acc hk; rw [h] at this; exact this
theorem piece_ok {s : Bs} {k q : Nat} {g : Gl} (hk : k < s.length) (h : piece s k = .ok g q) : k < q ∧ q ≤ s.length := by
  unfold piece at h
  split at h
  · injection h with _ h; subst h; omega
  · split at h
    · injection h with _ h; subst h; omega
    · split at h
      · rcases hg : goS s (k + 1) [] with q' | ⟨l, q'⟩
        · rw [hg] at h; cases h
        · rw [hg] at h
          have := goS_okb (by omega) hg
          injection h with _ h; subst h; omega
      · rcases hg : rb [] s k with q' | ⟨l, q'⟩
        · rw [hg] at h; cases h
        · rw [hg] at h
          have := rb_ok (by omega) hg
          injection h with _ h; subst h; omega
theorem piece_bad {s : Bs} {k q : Nat} (hk : k < s.length) (h : piece s k = .bad q) : k ≤ q ∧ q ≤ s.length := by
  unfold piece at h
  split at h
  · cases h
  · split at h
    · cases h
    · split at h
      · rcases hg : goS s (k + 1) [] with q' | ⟨l, q'⟩
        · rw [hg] at h
          have := goS_badb (by omega) hg
          injection h with h; subst h; omega
        · rw [hg] at h; cases h
      · rcases hg : rb [] s k with q' | ⟨l, q'⟩
        · rw [hg] at h
          have := rb_bad (by omega) hg
          injection h with h; subst h; omega
        · rw [hg] at h; cases h
theorem goP_end {s : Bs} {k : Nat} {acc : List Gl} (h : ¬ k < s.length) : goP s k acc = (some acc, 0) := by
  rw [goP, if_neg h]
theorem goP_bad {s : Bs} {k q : Nat} {acc : List Gl} (h : k < s.length) (h1 : piece s k = .bad q) : goP s k acc = (none, q) := by
  rw [goP, if_pos h, h1]
theorem goP_ok {s : Bs} {k q : Nat} {acc : List Gl} {g : Gl} (h : k < s.length) (h1 : piece s k = .ok g q) : goP s k acc = goP s q (acc ++ [g]) := by
  obtain ⟨a, b⟩ := piece_ok h h1
  rw [goP, if_pos h, h1]
  exact if_pos ⟨a, b⟩
/- What is printed is read again. -/
theorem get_drop {s r : Bs} {k : Nat} {c : UInt8} (h : s.drop k = c :: r) : s[k]? = some c := by
  have := congrArg (·[0]?) h
  simpa [List.getElem?_drop] using this
theorem rb_esc {sg sg' s r : Bs} {k : Nat} {c : UInt8} (h : s.drop k = esc sg' c ++ r) (h92 : (92 : UInt8) ∈ sg') (hs : ∀ x ∈ sg, x ∈ sg') : rb sg s k = .ok c (k + (esc sg' c).length) := by
  unfold rb
  rw [h]
  unfold esc
  by_cases hc : c ∈ sg'
  · rw [if_pos hc]; rfl
  · rw [if_neg hc]
    simp only [List.cons_append, List.nil_append]
    have h1 : c ≠ 92 := by rintro rfl; exact hc h92
    have h2 : c ∉ sg := fun x => hc (hs c x)
    rw [if_neg h1, if_neg h2]; rfl
theorem drop_past {s x r : Bs} {k : Nat} (h : s.drop k = x ++ r) : s.drop (k + x.length) = r := by
  rw [← List.drop_drop, h, List.drop_left]
theorem esc_head (c : UInt8) : ∃ d t, esc sgI c = d :: t ∧ d ≠ 93 ∧ d ≠ 45 := by
  unfold esc
  by_cases hc : c ∈ sgI
  · rw [if_pos hc]; exact ⟨92, [c], rfl, by decide, by decide⟩
  · rw [if_neg hc]
    refine ⟨c, [], rfl, ?_, ?_⟩ <;> (rintro rfl; exact hc (by decide))
theorem itemT_head (p : Sp) : ∃ d t, itemT p = d :: t ∧ d ≠ 93 ∧ d ≠ 45 := by
  obtain ⟨d, t, h, h1⟩ := esc_head p.1
  exact ⟨d, _, by unfold itemT; rw [h]; rfl, h1⟩
theorem get_none {s : Bs} {k : Nat} (h : s.drop k = []) : s[k]? = none := by
  rw [List.drop_eq_nil_iff] at h; exact List.getElem?_eq_none h
theorem not_get {s r : Bs} {k : Nat} {c : UInt8} (h : s.drop k = r) (hr : r.head? ≠ some c) : s[k]? ≠ some c := by
  cases r with
  | nil => rw [get_none h]; simp
  | cons d r => rw [get_drop h]; simpa using hr
theorem u8_eq {a b : UInt8} (h : (a.toNat : Int) = (b.toNat : Int)) : a = b := UInt8.toNat_inj.1 (by omega)
theorem item_text {s r : Bs} {k : Nat} {p : Sp} (h : s.drop k = itemT p ++ r) (hp : okS p = true) (hr : r.head? ≠ some 45) : item s k = .ok p (k + (itemT p).length) := by
  obtain ⟨lo, hi⟩ := p
  simp only [okS, decide_eq_true_eq] at hp
  unfold item
  by_cases hlt : (lo.toNat : Int) < (hi.toNat : Int)
  · have e : itemT (lo, hi) = esc sgI lo ++ 45 :: esc sgI hi := by unfold itemT; rw [if_pos hlt]
    rw [e, List.append_assoc] at h
    rw [rb_esc h (by decide) (fun x hx => hx)]
    have h2 := drop_past h
    have h3 : s.drop (k + (esc sgI lo).length + 1) = esc sgI hi ++ r := by
      have := drop_past (x := [45]) h2; exact this
    dsimp only
    rw [if_pos (get_drop h2), rb_esc h3 (by decide) (fun x hx => hx)]
    dsimp only
    rw [if_neg (by omega), e]; simp [Nat.add_assoc, Nat.add_comm 1]
  · have e : itemT (lo, hi) = esc sgI lo := by unfold itemT; rw [if_neg hlt]; simp
    have hx : lo = hi := u8_eq (by omega)
    rw [e] at h
    rw [rb_esc h (by decide) (fun x hx => hx)]
    dsimp only
    rw [if_neg (not_get (drop_past h) hr), e, ← hx]
theorem goS_text : ∀ (l : List Sp) {s r : Bs} {k : Nat} {acc : List Sp}, s.drop k = l.flatMap itemT ++ 93 :: r → (acc ≠ [] ∨ l ≠ []) → l.all okS = true → k ≤ s.length →
    goS s k acc = .ok (acc ++ l) (k + (l.flatMap itemT).length + 1)
  | [], s, r, k, acc, h, h0, _, _ => by
    have hc : acc ≠ [] := by simpa using h0
    rw [goS_end hc (get_drop h)]; simp
  | p :: l, s, r, k, acc, h, _, hl, hk => by
    rw [List.all_cons, Bool.and_eq_true] at hl
    obtain ⟨hp, hl⟩ := hl
    rw [List.flatMap_cons, List.append_assoc] at h
    obtain ⟨d, t, hd, d1, d2⟩ := itemT_head p
    have h1 : ¬ (acc ≠ [] ∧ s[k]? = some 93) := by
      rintro ⟨_, h93⟩
      rw [hd] at h
      have := get_drop h
      rw [h93] at this
      injection this with this
      exact d1 this.symm
    have hr : (l.flatMap itemT ++ 93 :: r).head? ≠ some 45 := by
      cases l with
      | nil => simp
      | cons q l =>
        obtain ⟨d', t', hd', _, d2'⟩ := itemT_head q
        rw [List.flatMap_cons, hd']; simpa using d2'
    have hi := item_text h hp hr
    obtain ⟨_, hb⟩ := item_ok hk hi
    rw [goS_ok h1 hk hi, goS_text l (drop_past h) (.inl (by simp)) hl hb]
    simp [Nat.add_assoc]
theorem piece_text {s r : Bs} {k : Nat} {g : Gl} (h : s.drop k = textG g ++ r) (hg : okG g = true) (hk : k < s.length) : piece s k = .ok g (k + (textG g).length) := by
  obtain ⟨kind, byte, spans⟩ := g
  unfold okG at hg
  dsimp only at hg
  split at hg
  · rename_i h0
    subst h0
    have hs : spans = [] := by simpa using hg
    subst hs
    have e : textG ⟨0, byte, []⟩ = esc sgP byte := by simp [textG]
    rw [e] at h ⊢
    have hx : ∀ c : UInt8, c ∈ ([42, 63, 91] : Bs) → s[k]? ≠ some c := by
      intro c hc
      refine not_get h ?_
      unfold esc
      split
      · simp at hc; rcases hc with rfl | rfl | rfl <;> simp
      · rename_i hn
        intro hh
        simp at hh
        subst hh
        exact hn (by revert hc; simp [sgP]; rintro (rfl | rfl | rfl) <;> simp)
    unfold piece
    rw [if_neg (hx 42 (by simp)), if_neg (hx 63 (by simp)), if_neg (hx 91 (by simp)), rb_esc h (by decide) (by simp)]
  · split at hg
    · rename_i h0
      simp at hg
      obtain ⟨rfl, rfl⟩ := hg
      rcases h0 with rfl | rfl
      · have e : textG ⟨1, 0, []⟩ = [63] := by simp [textG]
        rw [e] at h ⊢
        have := get_drop h
        unfold piece
        rw [this]; simp
      · have e : textG ⟨2, 0, []⟩ = [42] := by simp [textG]
        rw [e] at h ⊢
        have := get_drop h
        unfold piece
        rw [this]; simp
    · split at hg
      · rename_i h3
        subst h3
        simp only [Bool.and_eq_true, decide_eq_true_eq] at hg
        obtain ⟨rfl, hs, hn⟩ := hg
        have e : textG ⟨3, 0, spans⟩ = 91 :: (spans.flatMap itemT ++ [93]) := by simp [textG]
        rw [e] at h ⊢
        have h1 := get_drop h
        have h2 : s.drop (k + 1) = spans.flatMap itemT ++ 93 :: r := by
          have := drop_past (x := [91]) (r := spans.flatMap itemT ++ 93 :: r) (s := s) (k := k) (by rw [h]; simp)
          exact this
        unfold piece
        rw [h1, goS_text spans h2 (.inr (by simpa using hn)) hs (by omega)]
        simp; omega
      · cases hg
theorem textG_ne (g : Gl) : 0 < (textG g).length := by
  unfold textG esc
  split
  · simp
  · split
    · simp
    · split
      · split <;> simp
      · simp
theorem goP_text : ∀ (l : List Gl) {s : Bs} {k : Nat} {acc : List Gl}, s.drop k = text l → may l = true → k ≤ s.length → goP s k acc = (some (acc ++ l), 0)
  | [], s, k, acc, h, _, hk => by
    have : s.length ≤ k := by simpa [text] using h
    rw [goP_end (by omega)]; simp
  | g :: l, s, k, acc, h, hm, hk => by
    simp only [may, List.all_cons, Bool.and_eq_true] at hm
    obtain ⟨hg, hm⟩ := hm
    have h' : s.drop k = textG g ++ text l := by rw [h]; simp [text]
    have hlt : k < s.length := by
      have := congrArg List.length h'
      have := textG_ne g
      simp only [List.length_drop, List.length_append] at *; omega
    have hp := piece_text h' hg hlt
    rw [goP_ok hlt hp, goP_text l (drop_past h') hm (piece_ok hlt hp).2]
    simp
theorem parse_text (l : List Gl) (hm : may l = true) (h : (text l).length ≤ 200) : parse (text l) = (some l, 0, 0) := by
  unfold parse
  rw [if_neg (by omega), goP_text l rfl hm (by omega)]
  simp
end
/- Plain facts on sets of bytes: four words of 64 bits; which bytes are in one, their runs, their text. -/
section
open Go Go.RowKit

abbrev S4 := UInt64 × UInt64 × UInt64 × UInt64
def wd (S : S4) (q : Nat) : UInt64 := if q = 0 then S.1 else if q = 1 then S.2.1 else if q = 2 then S.2.2.1 else S.2.2.2
def setw (S : S4) (q : Nat) (x : UInt64) : S4 := if q = 0 then (x, S.2) else if q = 1 then (S.1, x, S.2.2) else if q = 2 then (S.1, S.2.1, x, S.2.2.2) else (S.1, S.2.1, S.2.2.1, x)
def mem (S : S4) (c : Nat) : Bool := (wd S (c / 64)).toNat.testBit (c % 64)
def none4 : S4 := (0, 0, 0, 0)
def ins (S : S4) (c : Nat) : S4 := setw S (c / 64) (UInt64.ofNat ((wd S (c / 64)).toNat ||| 2 ^ (c % 64)))
def compl (S : S4) : S4 := (~~~S.1, ~~~S.2.1, ~~~S.2.2.1, ~~~S.2.2.2)
theorem wd_setw (S : S4) (q q' : Nat) (x : UInt64) (h : q < 4) (h' : q' < 4) : wd (setw S q x) q' = if q' = q then x else wd S q' := by
  have hq : q = 0 ∨ q = 1 ∨ q = 2 ∨ q = 3 := by omega
  have hq' : q' = 0 ∨ q' = 1 ∨ q' = 2 ∨ q' = 3 := by omega
  rcases hq with rfl | rfl | rfl | rfl <;> rcases hq' with rfl | rfl | rfl | rfl <;> rfl
theorem or_lt (S : S4) (c : Nat) : (wd S (c / 64)).toNat ||| 2 ^ (c % 64) < 2 ^ 64 := by
  apply Nat.or_lt_two_pow
  · exact (wd S (c / 64)).toNat_lt
  · exact Nat.pow_lt_pow_right (by omega) (by omega)
theorem ins_word (S : S4) (c : Nat) : (UInt64.ofNat ((wd S (c / 64)).toNat ||| 2 ^ (c % 64))).toNat = (wd S (c / 64)).toNat ||| 2 ^ (c % 64) := by
  rw [UInt64.toNat_ofNat', Nat.mod_eq_of_lt (or_lt S c)]
theorem mem_ins (S : S4) (c x : Nat) (hc : c < 256) (hx : x < 256) : mem (ins S c) x = (mem S x || decide (x = c)) := by
  unfold mem ins
  rw [wd_setw _ _ _ _ (by omega) (by omega)]
  by_cases h : x / 64 = c / 64
  · rw [if_pos h, ins_word, Nat.testBit_or, Nat.testBit_two_pow, h]
    congr 1
    rw [decide_eq_decide]
    constructor
    · intro h2; omega
    · intro h2; rw [h2]
  · rw [if_neg h]
    have : x ≠ c := by rintro rfl; exact h rfl
    simp [this]
theorem mem_none4 (x : Nat) : mem none4 x = false := by
  unfold mem wd none4
  split
  · simp
  · split
    · simp
    · split <;> simp
theorem wd_compl (S : S4) (q : Nat) : wd (compl S) q = ~~~ (wd S q) := by
  unfold wd compl
  split
  · rfl
  · split
    · rfl
    · split <;> rfl
theorem not_nat (x : UInt64) : (~~~ x).toNat = 2 ^ 64 - (x.toNat + 1) := by
  rw [UInt64.toNat_not]; simp [UInt64.size]
theorem mem_compl (S : S4) (x : Nat) : mem (compl S) x = !mem S x := by
  unfold mem
  rw [wd_compl, not_nat, Nat.testBit_two_pow_sub_succ (wd S (x / 64)).toNat_lt]
  have : x % 64 < 64 := Nat.mod_lt _ (by omega)
  simp [this]
theorem wd_ext {S T : S4} (h : ∀ q, q < 4 → wd S q = wd T q) : S = T := by
  have h0 := h 0 (by omega)
  have h1 := h 1 (by omega)
  have h2 := h 2 (by omega)
  have h3 := h 3 (by omega)
  simp [wd] at h0 h1 h2 h3
  exact Prod.ext h0 (Prod.ext h1 (Prod.ext h2 h3))
theorem set_ext {S T : S4} (h : ∀ c, c < 256 → mem S c = mem T c) : S = T := by
  refine wd_ext fun q hq => UInt64.toNat_inj.1 (Nat.eq_of_testBit_eq fun i => ?_)
  by_cases hi : i < 64
  · have := h (64 * q + i) (by omega)
    unfold mem at this
    rw [show (64 * q + i) / 64 = q by omega, show (64 * q + i) % 64 = i by omega] at this
    exact this
  · rw [Nat.testBit_lt_two_pow, Nat.testBit_lt_two_pow]
    · exact Nat.lt_of_lt_of_le (wd T q).toNat_lt (Nat.pow_le_pow_right (by omega) (by omega))
    · exact Nat.lt_of_lt_of_le (wd S q).toNat_lt (Nat.pow_le_pow_right (by omega) (by omega))
/- Spans. -/
def spanS (S : S4) (lo : Nat) : Nat → S4
  | 0 => S
  | n + 1 => ins (spanS S lo n) (lo + n)
theorem mem_spanS (S : S4) (lo x : Nat) (hx : x < 256) : ∀ n, lo + n ≤ 256 → mem (spanS S lo n) x = (mem S x || (decide (lo ≤ x) && decide (x < lo + n)))
  | 0, _ => by
    have : (decide (lo ≤ x) && decide (x < lo + 0)) = false := by rw [Bool.and_eq_false_iff, decide_eq_false_iff_not, decide_eq_false_iff_not]; omega
    rw [this, spanS, Bool.or_false]
  | n + 1, h => by
    rw [spanS, mem_ins _ _ _ (by omega) hx, mem_spanS S lo x hx n (by omega), Bool.or_assoc]
    congr 1
    rw [Bool.eq_iff_iff]
    simp
    omega
def hasS (c : Nat) (p : Sp) : Bool := decide (p.1.toNat ≤ c) && decide (c ≤ p.2.toNat)
/-- The bytes of spans, from a set on. -/
def addS (S : S4) (p : Sp) : S4 := spanS S p.1.toNat (p.2.toNat + 1 - p.1.toNat)
theorem mem_addS (S : S4) (p : Sp) (x : Nat) (hx : x < 256) : mem (addS S p) x = (mem S x || hasS x p) := by
  have := p.2.toNat_lt
  have := p.1.toNat_lt
  unfold addS hasS
  rw [mem_spanS _ _ _ hx _ (by omega)]
  congr 1
  rw [Bool.eq_iff_iff]; simp; omega
def allS (l : List Sp) : S4 := l.foldl addS none4
theorem mem_foldS (x : Nat) (hx : x < 256) : ∀ (l : List Sp) (S : S4), mem (l.foldl addS S) x = (mem S x || l.any (hasS x))
  | [], S => by simp
  | p :: l, S => by rw [List.foldl_cons, mem_foldS x hx l, mem_addS _ _ _ hx, List.any_cons, Bool.or_assoc]
theorem mem_allS (l : List Sp) (x : Nat) (hx : x < 256) : mem (allS l) x = l.any (hasS x) := by
  unfold allS; rw [mem_foldS x hx, mem_none4, Bool.false_or]
theorem allS_snoc (l : List Sp) (p : Sp) : allS (l ++ [p]) = addS (allS l) p := by unfold allS; rw [List.foldl_append]; rfl
def ofN (l : List Sp) (no : Bool) : Nat → S4
  | 0 => none4
  | n + 1 => if l.any (hasS n) != no then ins (ofN l no n) n else ofN l no n
theorem mem_ofN (l : List Sp) (no : Bool) (x : Nat) (hx : x < 256) : ∀ n, n ≤ 256 → mem (ofN l no n) x = (decide (x < n) && (l.any (hasS x) != no))
  | 0, _ => by rw [ofN, mem_none4]; simp
  | n + 1, h => by
    have ih := mem_ofN l no x hx n (by omega)
    rw [ofN]
    by_cases hc : (l.any (hasS n) != no) = true
    · rw [if_pos hc, mem_ins _ _ _ (by omega) hx, ih]
      by_cases hxn : x = n
      · subst hxn; rw [hc]; simp
      · have e : decide (x < n + 1) = decide (x < n) := by rw [decide_eq_decide]; omega
        rw [e]; simp [hxn]
    · rw [if_neg hc, ih]
      by_cases hxn : x = n
      · subst hxn
        have hc := Bool.eq_false_iff.2 hc
        rw [hc]; simp
      · have e : decide (x < n + 1) = decide (x < n) := by rw [decide_eq_decide]; omega
        rw [e]
def ofS (l : List Sp) (no : Bool) : S4 := ofN l no 256
theorem mem_ofS (l : List Sp) (no : Bool) (x : Nat) (hx : x < 256) : mem (ofS l no) x = (l.any (hasS x) != no) := by
  unfold ofS; rw [mem_ofN l no x hx 256 (by omega)]; simp [hx]
theorem ofS_no (l : List Sp) : ofS l false = allS l := set_ext fun c hc => by rw [mem_ofS l false c hc, mem_allS l c hc]; simp
theorem ofS_yes (l : List Sp) : ofS l true = compl (allS l) := set_ext fun c hc => by rw [mem_ofS l true c hc, mem_compl, mem_allS l c hc]; simp
/- The first from a place on. -/
def nxt (S : S4) (c : Nat) : Nat := if c < 256 ∧ mem S c = false then nxt S (c + 1) else c
termination_by 256 - c
decreasing_by omega
theorem nxt_go {S : S4} {c : Nat} (h : c < 256) (hm : mem S c = false) : nxt S c = nxt S (c + 1) := by rw [nxt, if_pos ⟨h, hm⟩]
theorem nxt_at {S : S4} {c : Nat} (hm : mem S c = true) : nxt S c = c := by rw [nxt, if_neg (by simp [hm])]
theorem nxt_end {S : S4} {c : Nat} (h : ¬ c < 256) : nxt S c = c := by rw [nxt, if_neg (by omega)]
theorem nxt_all (S : S4) : ∀ (n c : Nat), 256 - c < n → c ≤ 256 → c ≤ nxt S c ∧ nxt S c ≤ 256 ∧ (nxt S c < 256 → mem S (nxt S c) = true) ∧ ∀ x, c ≤ x → x < nxt S c → mem S x = false
  | 0, c, h, _ => by omega
  | n + 1, c, h, hc => by
    by_cases hlt : c < 256
    · cases hm : mem S c with
      | true => rw [nxt_at hm]; exact ⟨Nat.le_refl _, hc, fun _ => hm, fun x h1 h2 => by omega⟩
      | false =>
        obtain ⟨a, b, d, e⟩ := nxt_all S n (c + 1) (by omega) (by omega)
        rw [nxt_go hlt hm]
        refine ⟨by omega, b, d, fun x h1 h2 => ?_⟩
        by_cases hx : x = c
        · subst hx; exact hm
        · exact e x (by omega) h2
    · rw [nxt_end hlt]; exact ⟨Nat.le_refl _, hc, fun h => by omega, fun x h1 h2 => by omega⟩
theorem nxt_is (S : S4) (c : Nat) (hc : c ≤ 256) : c ≤ nxt S c ∧ nxt S c ≤ 256 ∧ (nxt S c < 256 → mem S (nxt S c) = true) ∧ ∀ x, c ≤ x → x < nxt S c → mem S x = false := nxt_all S (256 - c + 1) c (by omega) hc
/- Runs. -/
def addC (l : List Sp) (c : Nat) : List Sp :=
  match l.getLast? with
  | some p => if p.2.toNat + 1 = c then l.dropLast ++ [(p.1, UInt8.ofNat c)] else l ++ [(UInt8.ofNat c, UInt8.ofNat c)]
  | none => l ++ [(UInt8.ofNat c, UInt8.ofNat c)]
theorem addC_nil (c : Nat) : addC [] c = [(UInt8.ofNat c, UInt8.ofNat c)] := rfl
theorem addC_yes {l : List Sp} {p : Sp} {c : Nat} (h : p.2.toNat + 1 = c) : addC (l ++ [p]) c = l ++ [(p.1, UInt8.ofNat c)] := by
  unfold addC; rw [List.getLast?_append]; simp [h]
theorem addC_no {l : List Sp} {p : Sp} {c : Nat} (h : p.2.toNat + 1 ≠ c) : addC (l ++ [p]) c = l ++ [p] ++ [(UInt8.ofNat c, UInt8.ofNat c)] := by
  unfold addC; rw [List.getLast?_append]; simp [h]
def runsTo (S : S4) : Nat → List Sp
  | 0 => []
  | n + 1 => if mem S n then addC (runsTo S n) n else runsTo S n
theorem snoc_cases {α : Type} (l : List α) : l = [] ∨ ∃ r p, l = r ++ [p] := by
  rcases List.eq_nil_or_concat l with h | ⟨r, p, h⟩
  · exact .inl h
  · exact .inr ⟨r, p, by rw [h, List.concat_eq_append]⟩
theorem u8_nat {c : Nat} (h : c < 256) : (UInt8.ofNat c).toNat = c := by rw [UInt8.toNat_ofNat', Nat.mod_eq_of_lt h]
theorem runs_last (S : S4) : ∀ n, n ≤ 256 → ∀ l p, runsTo S n = l ++ [p] → p.2.toNat < n ∧ mem S p.2.toNat = true ∧ p.1.toNat ≤ p.2.toNat
  | 0, _, l, p, h => by simp [runsTo] at h
  | n + 1, hn, l, p, h => by
    rw [runsTo] at h
    split at h
    · rename_i hm
      rcases snoc_cases (runsTo S n) with h0 | ⟨r, q, hr⟩
      · rw [h0, addC_nil] at h
        have h : ([] : List Sp) ++ [(UInt8.ofNat n, UInt8.ofNat n)] = l ++ [p] := h
        obtain ⟨_, h⟩ := List.append_inj' h rfl
        injection h with h _
        subst h
        dsimp only
        rw [u8_nat (by omega)]
        exact ⟨by omega, hm, Nat.le_refl _⟩
      · obtain ⟨q1, _, q3⟩ := runs_last S n (by omega) r q hr
        by_cases hq : q.2.toNat + 1 = n
        · rw [hr, addC_yes hq] at h
          obtain ⟨_, h⟩ := List.append_inj' h rfl
          injection h with h _
          subst h
          dsimp only
          rw [u8_nat (by omega)]
          exact ⟨by omega, hm, by omega⟩
        · rw [hr, addC_no hq] at h
          obtain ⟨_, h⟩ := List.append_inj' h rfl
          injection h with h _
          subst h
          dsimp only
          rw [u8_nat (by omega)]
          exact ⟨by omega, hm, Nat.le_refl _⟩
    · obtain ⟨q1, q2⟩ := runs_last S n (by omega) l p h
      exact ⟨by omega, q2⟩
theorem runs_gap (S : S4) (b : Nat) : ∀ n, (∀ x, b ≤ x → x < b + n → mem S x = false) → runsTo S (b + n) = runsTo S b
  | 0, _ => rfl
  | n + 1, h => by
    rw [show b + (n + 1) = b + n + 1 by omega, runsTo, if_neg (by rw [h _ (by omega) (by omega)]; simp)]
    exact runs_gap S b n fun x h1 h2 => h x h1 (by omega)
theorem runs_run (S : S4) (lo : Nat) (h0 : lo = 0 ∨ mem S (lo - 1) = false) : ∀ n, lo + n < 256 → (∀ x, lo ≤ x → x ≤ lo + n → mem S x = true) → runsTo S (lo + n + 1) = runsTo S lo ++ [(UInt8.ofNat lo, UInt8.ofNat (lo + n))]
  | 0, hn, h => by
    rw [Nat.add_zero, runsTo, if_pos (h lo (by omega) (by omega))]
    rcases snoc_cases (runsTo S lo) with h1 | ⟨r, q, hr⟩
    · rw [h1, addC_nil]; rfl
    · obtain ⟨q1, q2, _⟩ := runs_last S lo (by omega) r q hr
      have hq : q.2.toNat + 1 ≠ lo := by
        intro hq
        rcases h0 with h0 | h0
        · omega
        · rw [show lo - 1 = q.2.toNat by omega, q2] at h0; cases h0
      rw [hr, addC_no hq]; rfl
  | n + 1, hn, h => by
    rw [show lo + (n + 1) + 1 = (lo + n + 1) + 1 by omega, runsTo, if_pos (h _ (by omega) (by omega)), runs_run S lo h0 n (by omega) (fun x h1 h2 => h x h1 (by omega))]
    rw [addC_yes (by dsimp only; rw [u8_nat (by omega)])]
    rfl
theorem runs_any (S : S4) (x : Nat) (hx : x < 256) : ∀ n, n ≤ 256 → (runsTo S n).any (hasS x) = (decide (x < n) && mem S x)
  | 0, _ => by simp [runsTo]
  | n + 1, hn => by
    have ih := runs_any S x hx n (by omega)
    rw [runsTo]
    split
    · rename_i hm
      have hone : hasS x (UInt8.ofNat n, UInt8.ofNat n) = decide (x = n) := by
        unfold hasS; dsimp only; rw [u8_nat (by omega), Bool.eq_iff_iff]; simp; omega
      have key : ∀ b : Bool, b = (decide (x < n) && mem S x) → (b || decide (x = n)) = (decide (x < n + 1) && mem S x) := by
        rintro b rfl
        by_cases hxn : x = n
        · subst hxn; rw [hm]; simp
        · have e : decide (x < n + 1) = decide (x < n) := by rw [decide_eq_decide]; omega
          rw [e]; simp [hxn]
      rcases snoc_cases (runsTo S n) with h0 | ⟨r, q, hr⟩
      · rw [h0] at ih ⊢
        rw [addC_nil]
        rw [← key _ ih]
        simp [hone]
      · obtain ⟨q1, q2, q3⟩ := runs_last S n (by omega) r q hr
        rw [hr] at ih ⊢
        by_cases hq : q.2.toNat + 1 = n
        · rw [addC_yes hq, ← key _ ih]
          have : hasS x (q.1, UInt8.ofNat n) = (hasS x q || decide (x = n)) := by
            unfold hasS; dsimp only; rw [u8_nat (by omega), Bool.eq_iff_iff]; simp; omega
          simp [this, Bool.or_assoc]
        · rw [addC_no hq, ← key _ ih]
          simp only [List.any_append, List.any_cons, List.any_nil, Bool.or_false, hone]
    · rename_i hm
      rw [ih]
      by_cases hxn : x = n
      · subst hxn; simp [Bool.eq_false_iff.2 hm]
      · have e : decide (x < n + 1) = decide (x < n) := by rw [decide_eq_decide]; omega
        rw [e]
theorem runs_len (S : S4) : ∀ n, (runsTo S n).length ≤ n
  | 0 => by simp [runsTo]
  | n + 1 => by
    have ih := runs_len S n
    rw [runsTo]
    split
    · rcases snoc_cases (runsTo S n) with h0 | ⟨r, q, hr⟩
      · rw [h0, addC_nil]; simp
      · rw [hr] at ih ⊢
        by_cases hq : q.2.toNat + 1 = n
        · rw [addC_yes hq]; simp at ih ⊢; omega
        · rw [addC_no hq]; simp at ih ⊢; omega
    · omega
theorem runs_ok (S : S4) : ∀ n, n ≤ 256 → (runsTo S n).all okS = true
  | 0, _ => by simp [runsTo]
  | n + 1, hn => by
    have ih := runs_ok S n (by omega)
    rw [runsTo]
    split
    · have hone : okS (UInt8.ofNat n, UInt8.ofNat n) = true := by unfold okS; simp
      rcases snoc_cases (runsTo S n) with h0 | ⟨r, q, hr⟩
      · rw [h0, addC_nil]; simp [hone]
      · obtain ⟨q1, q2, q3⟩ := runs_last S n (by omega) r q hr
        rw [hr] at ih ⊢
        by_cases hq : q.2.toNat + 1 = n
        · rw [addC_yes hq]
          have : okS (q.1, UInt8.ofNat n) = true := by unfold okS; dsimp only; rw [u8_nat (by omega), decide_eq_true_eq]; omega
          rw [List.all_append, Bool.and_eq_true] at ih ⊢
          exact ⟨ih.1, by simp [this]⟩
        · rw [addC_no hq, List.all_append, Bool.and_eq_true]
          exact ⟨ih, by simp [hone]⟩
    · exact ih
def runs (S : S4) : List Sp := runsTo S 256
theorem allS_runs (S : S4) : allS (runs S) = S := set_ext fun c hc => by
  rw [mem_allS _ _ hc]; unfold runs; rw [runs_any S c hc 256 (by omega)]; simp [hc]
/- How many. -/
def cnt (f : Nat → Bool) : Nat → Nat
  | 0 => 0
  | n + 1 => cnt f n + if f n then 1 else 0
def sumL (l : List Sp) : Nat := (l.map fun p => p.2.toNat + 1 - p.1.toNat).sum
theorem sumL_snoc (l : List Sp) (p : Sp) : sumL (l ++ [p]) = sumL l + (p.2.toNat + 1 - p.1.toNat) := by unfold sumL; simp
theorem runs_sum (S : S4) : ∀ n, n ≤ 256 → sumL (runsTo S n) = cnt (mem S) n
  | 0, _ => rfl
  | n + 1, hn => by
    have ih := runs_sum S n (by omega)
    rw [runsTo, cnt]
    split
    · have hone : (UInt8.ofNat n).toNat = n := u8_nat (by omega)
      rcases snoc_cases (runsTo S n) with h0 | ⟨r, q, hr⟩
      · rw [h0] at ih ⊢
        rw [addC_nil, ← ih]
        simp [sumL]
      · obtain ⟨q1, q2, q3⟩ := runs_last S n (by omega) r q hr
        rw [hr, sumL_snoc] at ih
        rw [hr]
        by_cases hq : q.2.toNat + 1 = n
        · rw [addC_yes hq, sumL_snoc]; dsimp only; rw [hone]; omega
        · rw [addC_no hq, sumL_snoc, sumL_snoc]; dsimp only; rw [hone]; omega
    · rw [ih]; rfl
theorem cnt_le (f : Nat → Bool) : ∀ n, cnt f n ≤ n
  | 0 => Nat.le_refl _
  | n + 1 => by have := cnt_le f n; rw [cnt]; split <;> omega
theorem cnt_all (f : Nat → Bool) : ∀ n, cnt f n = n → ∀ x, x < n → f x = true
  | 0, _, x, h => by omega
  | n + 1, h, x, hx => by
    have hl := cnt_le f n
    rw [cnt] at h
    split at h
    · rename_i hf
      by_cases e : x = n
      · subst e; exact hf
      · exact cnt_all f n (by omega) x (by omega)
    · omega
theorem sum_pos {l : List Sp} {p : Sp} (h : ∀ q ∈ l ++ [p], okS q = true) : sumL l < sumL (l ++ [p]) := by
  have := h p (by simp)
  unfold okS at this
  rw [decide_eq_true_eq] at this
  rw [sumL_snoc]; omega
/-- Which runs there are, by how many bytes there are. -/
theorem runs_zero {S : S4} (h : cnt (mem S) 256 = 0) : runs S = [] := by
  rw [← runs_sum S 256 (by omega)] at h
  unfold runs
  rcases snoc_cases (runsTo S 256) with h0 | ⟨r, q, hr⟩
  · exact h0
  · obtain ⟨q1, q2, q3⟩ := runs_last S 256 (by omega) r q hr
    rw [hr, sumL_snoc] at h; omega
theorem runs_one {S : S4} (h : cnt (mem S) 256 = 1) : ∃ c, runs S = [(c, c)] ∧ nxt S 0 = c.toNat := by
  rw [← runs_sum S 256 (by omega)] at h
  have hall := runs_ok S 256 (by omega)
  have hany := fun x hx => runs_any S x hx 256 (by omega)
  unfold runs
  rcases snoc_cases (runsTo S 256) with h0 | ⟨r, q, hr⟩
  · rw [h0] at h; simp [sumL] at h
  · obtain ⟨q1, q2, q3⟩ := runs_last S 256 (by omega) r q hr
    rw [hr] at hall hany ⊢
    rw [hr, sumL_snoc] at h
    have hr0 : r = [] := by
      rcases snoc_cases r with h1 | ⟨r', q', h1⟩
      · exact h1
      · have : okS q' = true := by rw [List.all_eq_true] at hall; exact hall q' (by rw [h1]; simp)
        unfold okS at this
        rw [decide_eq_true_eq] at this
        rw [h1, sumL_snoc] at h; omega
    subst hr0
    have hq : q.1 = q.2 := UInt8.toNat_inj.1 (by omega)
    refine ⟨q.1, by rw [List.nil_append, show q = (q.1, q.1) from Prod.ext rfl hq.symm], ?_⟩
    obtain ⟨a, b, c, d⟩ := nxt_is S 0 (by omega)
    have hlt : nxt S 0 ≤ q.2.toNat := by
      by_cases hh : q.2.toNat < nxt S 0
      · have := d q.2.toNat (by omega) hh
        rw [this] at q2; cases q2
      · omega
    have hm := c (by omega)
    have := hany (nxt S 0) (by omega)
    rw [hm, Bool.and_true, decide_eq_true (show nxt S 0 < 256 by omega), List.nil_append, List.any_cons, List.any_nil, Bool.or_false] at this
    unfold hasS at this
    rw [Bool.and_eq_true, decide_eq_true_eq, decide_eq_true_eq] at this
    omega
theorem runs_full {S : S4} (h : cnt (mem S) 256 = 256) : runs S = [(0, 255)] := by
  have := runs_run S 0 (.inl rfl) 255 (by omega) (fun x _ hx => cnt_all _ _ h x (by omega))
  exact this
/- The text of a set. -/
def sgA : Bs := [92, 124, 40, 41, 42, 43, 63, 123, 46, 91, 94, 36]
def sgJ : Bs := [93, 45, 92, 94]
def itemJ (p : Sp) : Bs := esc sgJ p.1 ++ if (p.1.toNat : Int) < (p.2.toNat : Int) then 45 :: esc sgJ p.2 else []
def setText (S : S4) : Bs :=
  if cnt (mem S) 256 = 0 then [91, 94, 0, 45, 255, 93] else if cnt (mem S) 256 = 1 then esc sgA (UInt8.ofNat (nxt S 0)) else if cnt (mem S) 256 = 256 then [46]
  else 91 :: ((runs S).flatMap itemJ ++ [93])
theorem sumL_nil : sumL [] = 0 := rfl
theorem setText_nil {S : S4} (h : runs S = []) : setText S = [91, 94, 0, 45, 255, 93] := by
  unfold setText; rw [if_pos]; rw [← runs_sum S 256 (by omega)]; unfold runs at h; rw [h]; rfl
theorem setText_one {S : S4} {c : UInt8} (h : runs S = [(c, c)]) : setText S = esc sgA c := by
  have h1 : cnt (mem S) 256 = 1 := by rw [← runs_sum S 256 (by omega)]; unfold runs at h; rw [h]; simp [sumL]
  obtain ⟨d, h2, h3⟩ := runs_one h1
  rw [h] at h2
  injection h2 with h2 _
  injection h2 with h2 _
  unfold setText
  rw [if_neg (by omega), if_pos h1, h3, ← h2]; simp
theorem setText_full {S : S4} (h : runs S = [(0, 255)]) : setText S = [46] := by
  have h1 : cnt (mem S) 256 = 256 := by rw [← runs_sum S 256 (by omega)]; unfold runs at h; rw [h]; rfl
  unfold setText
  rw [if_neg (by omega), if_neg (by omega), if_pos h1]
theorem setText_many {S : S4} (h0 : runs S ≠ []) (h1 : ∀ c, runs S ≠ [(c, c)]) (h2 : runs S ≠ [(0, 255)]) : setText S = 91 :: ((runs S).flatMap itemJ ++ [93]) := by
  unfold setText
  rw [if_neg (fun h => h0 (runs_zero h)), if_neg (fun h => by obtain ⟨c, hc, _⟩ := runs_one h; exact h1 c hc), if_neg (fun h => h2 (runs_full h))]
end
/- Plain facts on expressions: their shape, their text, and how they are read. -/
section
open Go Go.RowKit

inductive Re where
  | mk (kind : Int) (set : S4) (kids : List Re) (lo hi n : Int) : Re
theorem Re.ind {P : Re → Prop} (h : ∀ k S ks lo hi n, (∀ r ∈ ks, P r) → P (.mk k S ks lo hi n)) : ∀ r, P r := by
  intro r
  refine Re.rec (motive_1 := P) (motive_2 := fun l => ∀ r ∈ l, P r) ?_ ?_ ?_ r
  · intro k S ks lo hi n ih; exact h k S ks lo hi n ih
  · intro r hr; cases hr
  · intro a l ha hl r hr
    rcases List.mem_cons.1 hr with rfl | hr
    · exact ha
    · exact hl r hr
def Re.kind : Re → Int | .mk k _ _ _ _ _ => k
def Re.kids : Re → List Re | .mk _ _ ks _ _ _ => ks
def rSet (S : S4) : Re := .mk 1 S [] 0 0 0
def rBegin : Re := .mk 2 none4 [] 0 0 0
def rEnd : Re := .mk 3 none4 [] 0 0 0
def rRep (r : Re) (lo hi : Int) : Re := .mk 6 none4 [r] lo hi 0
def rGrp (r : Re) (n : Int) : Re := .mk 7 none4 [r] 0 0 n
def mkRow (l : List Re) : Re := match l with
  | [] => .mk 0 none4 [] 0 0 0
  | [r] => r
  | l => .mk 4 none4 l 0 0 0
def mkAlt (l : List Re) : Re := match l with
  | [r] => r
  | l => .mk 5 none4 l 0 0 0
def rep (r : Re) : Bool := r.kind != 2 && r.kind != 3
def num (g : Nat) : Int := if g > 9 then 0 else g
/- Groups; how many kinds. -/
mutual
def groups : Re → Nat
  | .mk k _ ks _ _ _ => (if k = 7 then 1 else 0) + groupsL ks
def groupsL : List Re → Nat
  | [] => 0
  | r :: rs => groups r + groupsL rs
end
mutual
def sizeE : Re → Nat
  | .mk _ _ ks _ _ _ => 1 + sizeL ks
def sizeL : List Re → Nat
  | [] => 0
  | r :: rs => sizeE r + sizeL rs
end
/- Texts. -/
def dig (x : Int) : UInt8 := UInt8.ofNat (48 + x.toNat)
def signT (lo hi : Int) : Bs :=
  if lo = 0 ∧ hi = -1 then [42] else if lo = 1 ∧ hi = -1 then [43] else if lo = 0 ∧ hi = 1 then [63]
  else if hi = lo then [123, dig lo, 125] else if hi = -1 then [123, dig lo, 44, 125] else [123, dig lo, 44, dig hi, 125]
mutual
def textE : Re → Bs
  | .mk k S ks lo hi _ => if k = 1 then setText S else if k = 2 then [94] else if k = 3 then [36]
    else if k = 7 then 40 :: (joinT [] ks ++ [41]) else if k = 6 then joinT [] ks ++ signT lo hi else joinT (if k = 5 then [124] else []) ks
def joinT (sep : Bs) : List Re → Bs
  | [] => []
  | r :: rs => textE r ++ tailT sep rs
def tailT (sep : Bs) : List Re → Bs
  | [] => []
  | r :: rs => sep ++ (textE r ++ tailT sep rs)
end
theorem tailT_snoc (sep : Bs) (r : Re) : ∀ l, tailT sep (l ++ [r]) = tailT sep l ++ (sep ++ textE r)
  | [] => by simp [tailT]
  | x :: l => by rw [List.cons_append, tailT, tailT_snoc sep r l, tailT]; simp
theorem joinT_snoc (sep : Bs) (r : Re) (l : List Re) : joinT sep (l ++ [r]) = if l = [] then textE r else joinT sep l ++ (sep ++ textE r) := by
  cases l with
  | nil => simp [joinT, tailT]
  | cons x l => rw [List.cons_append, joinT, tailT_snoc, joinT]; simp
/- What may be, but for its length: 3 an expression, 2 a row, 1 a piece, 0 an atom. -/
def lev (k : Int) : Nat := if k = 1 ∨ k = 2 ∨ k = 3 ∨ k = 7 then 0 else if k = 6 then 1 else if k = 0 ∨ k = 4 then 2 else if k = 5 then 3 else 4
def levK (k : Int) : Nat := if k = 4 then 1 else if k = 5 then 2 else if k = 7 then 3 else 0
def bound (lo hi : Int) : Bool := decide (0 ≤ lo) && (decide (lo ≤ 8) && (decide (hi = -1) || (decide (lo ≤ hi) && decide (hi ≤ 8))))
def told : Re → Bool
  | .mk k S ks lo hi n =>
    (decide (k = 1) || decide (S = none4)) && ((decide (k = 7) || decide (n = 0)) &&
    (if k = 6 then (match ks with | [r] => rep r | _ => false) && bound lo hi
    else decide (lo = 0) && (decide (hi = 0) && (if k = 7 then decide (ks.length = 1) else if k = 4 ∨ k = 5 then decide (2 ≤ ks.length) else decide (ks.length = 0)))))
mutual
def form : Re → Nat → Nat → Nat → Option Nat
  | .mk k S ks lo hi n, lv, d, g =>
    if lev k ≤ lv ∧ told (.mk k S ks lo hi n) = true then
      (if k = 7 then (if n = num (g + 1) ∧ d < 64 then formL ks 3 (d + 1) (g + 1) else none) else formL ks (levK k) d g)
    else none
def formL : List Re → Nat → Nat → Nat → Option Nat
  | [], _, _, g => some g
  | r :: rs, lv, d, g => match form r lv d g with
    | none => none
    | some g' => formL rs lv d g'
end
/- Reading. -/
inductive Ro (α : Type) where
  | bad (q : Nat) (e : Int) | ok (a : α) (q g : Nat)
def numb (s : Bs) (k : Nat) (least : Int) : Option Int := match s[k]? with
  | none => none
  | some c => if (c.toNat : Int) - 48 < least ∨ 8 < (c.toNat : Int) - 48 then none else some ((c.toNat : Int) - 48)
def closeB (s : Bs) (k : Nat) (lo hi : Int) : Res (Int × Int) := if s[k]? = some 125 then .ok (lo, hi) (k + 1) else .bad k
def bnds (s : Bs) (k : Nat) : Res (Int × Int) := match numb s k 0 with
  | none => .bad k
  | some lo => if s[k + 1]? = some 44 then (if s[k + 2]? = some 125 then .ok (lo, -1) (k + 3) else match numb s (k + 2) lo with
      | none => .bad (k + 2)
      | some hi => closeB s (k + 3) lo hi)
    else closeB s (k + 1) lo lo
def cls (s : Bs) (k : Nat) : Res S4 :=
  if s[k]? = some 94 then (match goS s (k + 1) [] with
    | .bad q => .bad q
    | .ok l q => .ok (compl (allS l)) q)
  else match goS s k [] with
    | .bad q => .bad q
    | .ok l q => .ok (allS l) q
abbrev Rd := Nat → Nat → Ro Re
def atomR (grp : Rd) (s : Bs) (k g : Nat) : Ro Re :=
  if s[k]? = some 94 then .ok rBegin (k + 1) g else if s[k]? = some 36 then .ok rEnd (k + 1) g else if s[k]? = some 46 then .ok (rSet (compl none4)) (k + 1) g
  else if s[k]? = some 40 then grp k g
  else if s[k]? = some 91 then (match cls s (k + 1) with
    | .bad q => .bad q 1
    | .ok S q => .ok (rSet S) q g)
  else match rb sgA s k with
    | .bad q => .bad q 1
    | .ok c q => .ok (rSet (ins none4 c.toNat)) q g
/-- What stands behind an atom that may be repeated. -/
def tailP (s : Bs) (x : Re) (q g : Nat) : Ro Re :=
  if s[q]? = some 42 then .ok (rRep x 0 (-1)) (q + 1) g else if s[q]? = some 43 then .ok (rRep x 1 (-1)) (q + 1) g else if s[q]? = some 63 then .ok (rRep x 0 1) (q + 1) g
  else if s[q]? = some 123 then (match bnds s (q + 1) with
    | .bad p => .bad p 1
    | .ok b p => .ok (rRep x b.1 b.2) p g)
  else .ok x q g
def sgR : Bs := [42, 43, 63, 123]
/-- Is it a sign of repeat? -/
def signAt (s : Bs) (q : Nat) : Prop := ∃ c, s[q]? = some c ∧ c ∈ sgR
/-- As the program reads: a sign behind what can't be repeated is left. -/
def pieceC (grp : Rd) (s : Bs) (k g : Nat) : Ro Re := match atomR grp s k g with
  | .bad q e => .bad q e
  | .ok x q g' => if rep x = true then tailP s x q g' else .ok x q g'
/-- As the document's answer reads. -/
noncomputable def pieceR (grp : Rd) (s : Bs) (k g : Nat) : Ro Re := match atomR grp s k g with
  | .bad q e => .bad q e
  | .ok x q g' => if rep x = true then tailP s x q g' else @ite _ (signAt s q) (Classical.propDecidable _) (.bad q 1) (.ok x q g')
def stops (s : Bs) (k : Nat) : Bool := match s[k]? with
  | none => true
  | some c => decide (c = 124) || decide (c = 41)
def rowL (pc : Rd) (s : Bs) (k g : Nat) (acc : List Re) : Ro (List Re) :=
  if stops s k = true then .ok acc k g else match pc k g with
    | .bad q e => .bad q e
    | .ok x q g' => if k < q ∧ q ≤ s.length then rowL pc s q g' (acc ++ [x]) else .bad q 0
termination_by s.length - k
decreasing_by omega
def rowOf (pc : Rd) (s : Bs) (k g : Nat) : Ro Re := match rowL pc s k g [] with
  | .bad q e => .bad q e
  | .ok l q g' => .ok (mkRow l) q g'
def altL (rw_ : Rd) (s : Bs) (k g : Nat) (acc : List Re) : Ro (List Re) := match rw_ k g with
  | .bad q e => .bad q e
  | .ok x q g' => if s[q]? = some 124 then (if k ≤ q ∧ q < s.length then altL rw_ s (q + 1) g' (acc ++ [x]) else .bad q 0) else .ok (acc ++ [x]) q g'
termination_by s.length - k
decreasing_by omega
def altOf (rw_ : Rd) (s : Bs) (k g : Nat) : Ro Re := match altL rw_ s k g [] with
  | .bad q e => .bad q e
  | .ok l q g' => .ok (mkAlt l) q g'
def grpR (ex : Rd) (s : Bs) (k g : Nat) : Ro Re := match ex (k + 1) (g + 1) with
  | .bad q e => .bad q e
  | .ok x q g' => if s[q]? = some 41 then .ok (rGrp x (num (g + 1))) (q + 1) g' else .bad q 1
/-- A reader of groups, where so many may still stand within. -/
def grpM (pc : Rd → Rd) (s : Bs) : Nat → Rd
  | 0 => fun k _ => .bad k 8
  | m + 1 => grpR (altOf (rowOf (pc (grpM pc s m)) s) s) s
def exM (pc : Rd → Rd) (s : Bs) (m : Nat) : Rd := altOf (rowOf (pc (grpM pc s m)) s) s
theorem grpM_succ (pc : Rd → Rd) (s : Bs) (m : Nat) : grpM pc s (m + 1) = grpR (exM pc s m) s := rfl
def exC (s : Bs) (m : Nat) : Rd := exM (fun grp => pieceC grp s) s m
noncomputable def exR (s : Bs) (m : Nat) : Rd := exM (fun grp => pieceR grp s) s m
/-- The expression, the place, and 0 or the error. -/
def parseE (s : Bs) : Option Re × Nat × Int :=
  if 200 < s.length then (none, 200, 2) else match exC s 64 0 0 with
    | .bad q e => (none, q, e)
    | .ok x q _ => if q < s.length then (none, q, 1) else (some x, 0, 0)
/- Where reading goes on. -/
def Good (s : Bs) (rd : Rd) : Prop := ∀ k g, k < s.length → (∀ q e, rd k g = .bad q e → k ≤ q ∧ q ≤ s.length ∧ (e = 1 ∨ e = 8 ∧ q < s.length)) ∧ ∀ x q g', rd k g = .ok x q g' → k < q ∧ q ≤ s.length
def GoodE (s : Bs) (rd : Rd) : Prop := ∀ k g, k ≤ s.length → (∀ q e, rd k g = .bad q e → k ≤ q ∧ q ≤ s.length ∧ (e = 1 ∨ e = 8 ∧ q < s.length)) ∧ ∀ x q g', rd k g = .ok x q g' → k ≤ q ∧ q ≤ s.length
theorem numb_lt {s : Bs} {k : Nat} {l x : Int} (h : numb s k l = some x) : k < s.length ∧ l ≤ x ∧ x ≤ 8 ∧ ∃ c, s[k]? = some c ∧ x = (c.toNat : Int) - 48 := by
  unfold numb at h
  split at h
  · cases h
  · rename_i c hc
    split at h
    · cases h
    · injection h with h
      exact ⟨lt_of_get hc, by omega, by omega, c, hc, h.symm⟩
theorem closeB_bd {s : Bs} {k : Nat} (lo hi : Int) : match closeB s k lo hi with
    | .bad q => q = k
    | .ok _ q => q = k + 1 ∧ q ≤ s.length := by
  unfold closeB
  split
  · rename_i q heq
    split at heq
    · cases heq
    · injection heq with heq; exact heq.symm
  · rename_i a q heq
    split at heq
    · rename_i h1
      injection heq with _ heq
      have := lt_of_get h1
      exact ⟨heq.symm, by omega⟩
    · cases heq
theorem bnds_bd {s : Bs} {k : Nat} (h : k ≤ s.length) : match bnds s k with
    | .bad q => k ≤ q ∧ q ≤ s.length
    | .ok _ q => k < q ∧ q ≤ s.length := by
  unfold bnds
  rcases h1 : numb s k 0 with _ | lo
  · exact ⟨Nat.le_refl _, h⟩
  · have hk := (numb_lt h1).1
    dsimp only
    by_cases h2 : s[k + 1]? = some 44
    · rw [if_pos h2]
      have hk2 := lt_of_get h2
      by_cases h3 : s[k + 2]? = some 125
      · rw [if_pos h3]; have := lt_of_get h3; exact ⟨by omega, by omega⟩
      · rw [if_neg h3]
        rcases h4 : numb s (k + 2) lo with _ | hi
        · exact ⟨by omega, by omega⟩
        · have hk3 := (numb_lt h4).1
          have := closeB_bd (s := s) (k := k + 3) lo hi
          dsimp only
          rcases h5 : closeB s (k + 3) lo hi with q | ⟨a, q⟩
          · rw [h5] at this; dsimp only at this ⊢; omega
          · rw [h5] at this; dsimp only at this ⊢; omega
    · rw [if_neg h2]
      have := closeB_bd (s := s) (k := k + 1) lo lo
      rcases h5 : closeB s (k + 1) lo lo with q | ⟨a, q⟩
      · rw [h5] at this; dsimp only at this ⊢; omega
      · rw [h5] at this; dsimp only at this ⊢; omega
theorem cls_bd {s : Bs} {k : Nat} (h : k ≤ s.length) : match cls s k with
    | .bad q => k ≤ q ∧ q ≤ s.length
    | .ok _ q => k < q ∧ q ≤ s.length := by
  unfold cls
  by_cases h1 : s[k]? = some 94
  · rw [if_pos h1]
    have hk := lt_of_get h1
    rcases h2 : goS s (k + 1) [] with q | ⟨l, q⟩
    · have := goS_badb (by omega) h2; dsimp only; omega
    · have := goS_okb (by omega) h2; dsimp only; omega
  · rw [if_neg h1]
    rcases h2 : goS s k [] with q | ⟨l, q⟩
    · exact goS_badb h h2
    · have := goS_okb h h2; exact ⟨this.1, this.2.1⟩
theorem atomR_good {s : Bs} {grp : Rd} (hg : Good s grp) : Good s (atomR grp s) := by
  intro k g hk
  unfold atomR
  split
  · exact ⟨fun q e h => (by cases h), fun x q g' h => by injection h with _ h; omega⟩
  · split
    · exact ⟨fun q e h => (by cases h), fun x q g' h => by injection h with _ h; omega⟩
    · split
      · exact ⟨fun q e h => (by cases h), fun x q g' h => by injection h with _ h; omega⟩
      · split
        · exact hg k g hk
        · split
          · have := cls_bd (s := s) (k := k + 1) (by omega)
            rcases h1 : cls s (k + 1) with q | ⟨S, q⟩
            · rw [h1] at this
              exact ⟨fun q' e h => by injection h with h h2; dsimp only at this; omega, fun x q g' h => by cases h⟩
            · rw [h1] at this
              exact ⟨fun q e h => (by cases h), fun x q g' h => by injection h with _ h; dsimp only at this; omega⟩
          · rcases h1 : rb sgA s k with q | ⟨c, q⟩
            · have := rb_bad (by omega) h1
              exact ⟨fun q' e h => by injection h with h h2; omega, fun x q g' h => by cases h⟩
            · have := rb_ok (by omega) h1
              exact ⟨fun q e h => (by cases h), fun x q g' h => by injection h with _ h; omega⟩
theorem tailP_good {s : Bs} {x : Re} {k q g : Nat} (hk : k < q) (hq : q ≤ s.length) : (∀ p e, tailP s x q g = .bad p e → k ≤ p ∧ p ≤ s.length ∧ (e = 1 ∨ e = 8 ∧ p < s.length)) ∧ ∀ y p g', tailP s x q g = .ok y p g' → k < p ∧ p ≤ s.length := by
  unfold tailP
  have hlt : ∀ c, s[q]? = some c → q + 1 ≤ s.length := fun c h => by have := lt_of_get h; omega
  split
  · rename_i h1; have := hlt _ h1
    exact ⟨fun q e h => (by cases h), fun x q g' h => by injection h with _ h; omega⟩
  · split
    · rename_i h1; have := hlt _ h1
      exact ⟨fun q e h => (by cases h), fun x q g' h => by injection h with _ h; omega⟩
    · split
      · rename_i h1; have := hlt _ h1
        exact ⟨fun q e h => (by cases h), fun x q g' h => by injection h with _ h; omega⟩
      · split
        · rename_i h1; have := hlt _ h1
          have hb := bnds_bd (s := s) (k := q + 1) (by omega)
          rcases h2 : bnds s (q + 1) with p | ⟨b, p⟩
          · rw [h2] at hb
            exact ⟨fun q' e h => by injection h with h h2; dsimp only at hb; omega, fun x q g' h => by cases h⟩
          · rw [h2] at hb
            exact ⟨fun q e h => (by cases h), fun x q g' h => by injection h with _ h; dsimp only at hb; omega⟩
        · exact ⟨fun q e h => (by cases h), fun x q g' h => by injection h with _ h; omega⟩
theorem pieceC_good {s : Bs} {grp : Rd} (hg : Good s grp) : Good s (pieceC grp s) := by
  intro k g hk
  obtain ⟨h1, h2⟩ := atomR_good hg k g hk
  unfold pieceC
  rcases ha : atomR grp s k g with ⟨q, e⟩ | ⟨x, q, g'⟩
  · have := h1 q e ha
    exact ⟨fun q' e' h => by injection h with h h3; subst h h3; exact this, fun x q g' h => by cases h⟩
  · have := h2 x q g' ha
    dsimp only
    split
    · exact tailP_good this.1 this.2
    · exact ⟨fun q e h => (by cases h), fun x q g' h => by injection h with _ h; omega⟩
theorem pieceR_good {s : Bs} {grp : Rd} (hg : Good s grp) : Good s (pieceR grp s) := by
  intro k g hk
  obtain ⟨h1, h2⟩ := atomR_good hg k g hk
  unfold pieceR
  rcases ha : atomR grp s k g with ⟨q, e⟩ | ⟨x, q, g'⟩
  · have := h1 q e ha
    exact ⟨fun q' e' h => by injection h with h h3; subst h h3; exact this, fun x q g' h => by cases h⟩
  · have := h2 x q g' ha
    dsimp only
    split
    · exact tailP_good this.1 this.2
    · split
      · exact ⟨fun q' e h => by injection h with h h2; omega, fun x q g' h => by cases h⟩
      · exact ⟨fun q e h => (by cases h), fun x q g' h => by injection h with _ h; omega⟩
theorem not_stops {s : Bs} {k : Nat} (h : stops s k = false) : k < s.length := by
  unfold stops at h
  split at h
  · cases h
  · rename_i c hc; exact lt_of_get hc
/- One equation a kind of step. -/
theorem rowL_end {pc : Rd} {s : Bs} {k g : Nat} {acc : List Re} (h : stops s k = true) : rowL pc s k g acc = .ok acc k g := by rw [rowL, if_pos h]
theorem rowL_bad {pc : Rd} {s : Bs} {k g q : Nat} {e : Int} {acc : List Re} (h : stops s k = false) (h1 : pc k g = .bad q e) : rowL pc s k g acc = .bad q e := by
  rw [rowL, if_neg (by simp [h]), h1]
theorem rowL_ok {pc : Rd} {s : Bs} {k g q g' : Nat} {x : Re} {acc : List Re} (h : stops s k = false) (h1 : pc k g = .ok x q g') (h2 : k < q ∧ q ≤ s.length) : rowL pc s k g acc = rowL pc s q g' (acc ++ [x]) := by
  rw [rowL, if_neg (by simp [h]), h1]; exact if_pos h2
theorem altL_bad {rw_ : Rd} {s : Bs} {k g q : Nat} {e : Int} {acc : List Re} (h1 : rw_ k g = .bad q e) : altL rw_ s k g acc = .bad q e := by rw [altL, h1]
theorem altL_end {rw_ : Rd} {s : Bs} {k g q g' : Nat} {x : Re} {acc : List Re} (h1 : rw_ k g = .ok x q g') (h : s[q]? ≠ some 124) : altL rw_ s k g acc = .ok (acc ++ [x]) q g' := by
  rw [altL, h1]; exact if_neg h
theorem altL_ok {rw_ : Rd} {s : Bs} {k g q g' : Nat} {x : Re} {acc : List Re} (h1 : rw_ k g = .ok x q g') (h : s[q]? = some 124) (h2 : k ≤ q) : altL rw_ s k g acc = altL rw_ s (q + 1) g' (acc ++ [x]) := by
  have := lt_of_get h
  rw [altL, h1]
  dsimp only
  rw [if_pos h, if_pos ⟨h2, this⟩]
theorem rowL_good {s : Bs} {pc : Rd} (hp : Good s pc) : ∀ (n k g : Nat) (acc : List Re), s.length - k < n → k ≤ s.length → (∀ q e, rowL pc s k g acc = .bad q e → k ≤ q ∧ q ≤ s.length ∧ (e = 1 ∨ e = 8 ∧ q < s.length)) ∧ ∀ x q g', rowL pc s k g acc = .ok x q g' → k ≤ q ∧ q ≤ s.length
  | 0, k, g, acc, h, hk => by omega
  | n + 1, k, g, acc, h, hk => by
    cases hs : stops s k with
    | true => rw [rowL_end hs]; exact ⟨fun q e h => (by cases h), fun x q g' h => by injection h with _ h; omega⟩
    | false =>
      obtain ⟨h1, h2⟩ := hp k g (not_stops hs)
      rcases ha : pc k g with ⟨q, e⟩ | ⟨x, q, g'⟩
      · rw [rowL_bad hs ha]
        have := h1 q e ha
        exact ⟨fun q' e' h => by injection h with h h3; subst h h3; exact this, fun x q g' h => by cases h⟩
      · have hq := h2 x q g' ha
        rw [rowL_ok hs ha hq]
        obtain ⟨i1, i2⟩ := rowL_good hp n q g' (acc ++ [x]) (by omega) hq.2
        exact ⟨fun p e hp => by have := i1 p e hp; omega, fun y p g2 hp => by have := i2 y p g2 hp; omega⟩
theorem rowOf_good {s : Bs} {pc : Rd} (hp : Good s pc) : GoodE s (rowOf pc s) := by
  intro k g hk
  obtain ⟨h1, h2⟩ := rowL_good hp (s.length - k + 1) k g [] (by omega) hk
  unfold rowOf
  rcases ha : rowL pc s k g [] with ⟨q, e⟩ | ⟨x, q, g'⟩
  · have := h1 q e ha
    exact ⟨fun q' e' h => by injection h with h h3; subst h h3; exact this, fun x q g' h => by cases h⟩
  · have := h2 x q g' ha
    exact ⟨fun q e h => (by cases h), fun x q g' h => by injection h with _ h; omega⟩
theorem altL_good {s : Bs} {rw_ : Rd} (hp : GoodE s rw_) : ∀ (n k g : Nat) (acc : List Re), s.length - k < n → k ≤ s.length → (∀ q e, altL rw_ s k g acc = .bad q e → k ≤ q ∧ q ≤ s.length ∧ (e = 1 ∨ e = 8 ∧ q < s.length)) ∧ ∀ x q g', altL rw_ s k g acc = .ok x q g' → k ≤ q ∧ q ≤ s.length
  | 0, k, g, acc, h, hk => by omega
  | n + 1, k, g, acc, h, hk => by
    obtain ⟨h1, h2⟩ := hp k g hk
    rcases ha : rw_ k g with ⟨q, e⟩ | ⟨x, q, g'⟩
    · rw [altL_bad ha]
      have := h1 q e ha
      exact ⟨fun q' e' h => by injection h with h h3; subst h h3; exact this, fun x q g' h => by cases h⟩
    · have hq := h2 x q g' ha
      by_cases hc : s[q]? = some 124
      · have := lt_of_get hc
        rw [altL_ok ha hc hq.1]
        obtain ⟨i1, i2⟩ := altL_good hp n (q + 1) g' (acc ++ [x]) (by omega) (by omega)
        exact ⟨fun p e hp => by have := i1 p e hp; omega, fun y p g2 hp => by have := i2 y p g2 hp; omega⟩
      · rw [altL_end ha hc]
        exact ⟨fun q e h => (by cases h), fun x q g' h => by injection h with _ h; omega⟩
theorem altOf_good {s : Bs} {rw_ : Rd} (hp : GoodE s rw_) : GoodE s (altOf rw_ s) := by
  intro k g hk
  obtain ⟨h1, h2⟩ := altL_good hp (s.length - k + 1) k g [] (by omega) hk
  unfold altOf
  rcases ha : altL rw_ s k g [] with ⟨q, e⟩ | ⟨x, q, g'⟩
  · have := h1 q e ha
    exact ⟨fun q' e' h => by injection h with h h3; subst h h3; exact this, fun x q g' h => by cases h⟩
  · have := h2 x q g' ha
    exact ⟨fun q e h => (by cases h), fun x q g' h => by injection h with _ h; omega⟩
theorem grpM_good {s : Bs} {pc : Rd → Rd} (hp : ∀ grp, Good s grp → Good s (pc grp)) : ∀ m, Good s (grpM pc s m)
  | 0 => by
    intro k g hk
    exact ⟨fun q e h => by injection h with h h2; omega, fun x q g' h => by cases h⟩
  | m + 1 => by
    intro k g hk
    rw [grpM_succ]
    obtain ⟨h1, h2⟩ := altOf_good (rowOf_good (hp _ (grpM_good hp m))) (k + 1) (g + 1) (by omega)
    unfold grpR
    rcases ha : exM pc s m (k + 1) (g + 1) with ⟨q, e⟩ | ⟨x, q, g'⟩
    · have := h1 q e ha
      exact ⟨fun q' e' h => by injection h with h h3; subst h h3; omega, fun x q g' h => by cases h⟩
    · have := h2 x q g' ha
      dsimp only
      split
      · rename_i hc
        have := lt_of_get hc
        exact ⟨fun q e h => (by cases h), fun x q g' h => by injection h with _ h; omega⟩
      · exact ⟨fun q' e h => by injection h with h h2; omega, fun x q g' h => by cases h⟩
theorem exM_good {s : Bs} {pc : Rd → Rd} (hp : ∀ grp, Good s grp → Good s (pc grp)) (m : Nat) : GoodE s (exM pc s m) := altOf_good (rowOf_good (hp _ (grpM_good hp m)))
theorem exC_good (s : Bs) (m : Nat) : GoodE s (exC s m) := exM_good (fun _ h => pieceC_good h) m
theorem exR_good (s : Bs) (m : Nat) : GoodE s (exR s m) := exM_good (fun _ h => pieceR_good h) m
end
/- What is read of a text depends on its bytes up to the place alone. -/
section
open Go Go.RowKit

/-- Two texts agree on their first n places. -/
def Ag (s t : Bs) (n : Nat) : Prop := ∀ i, i < n → s[i]? = t[i]?
theorem Ag.le {s t : Bs} {n m : Nat} (h : Ag s t n) (hm : m ≤ n) : Ag s t m := fun i hi => h i (by omega)
def Res.at_ {α : Type} : Res α → Nat
  | .bad q => q
  | .ok _ q => q
def Ro.at_ {α : Type} : Ro α → Nat
  | .bad q _ => q
  | .ok _ q _ => q
theorem rb_get (sg s : Bs) (k : Nat) : rb sg s k = match s[k]? with
    | none => .bad k
    | some c => if c = 92 then (match s[k + 1]? with
        | none => .bad (k + 1)
        | some d => .ok d (k + 2)) else if c ∈ sg then .bad k else .ok c (k + 1) := by
  unfold rb
  rcases h : s.drop k with _ | ⟨c, r⟩
  · have : s[k]? = none := by rw [List.getElem?_eq_none]; simpa using h
    rw [this]
  · have h0 : s[k]? = some c := by
      have := List.getElem?_drop (xs := s) (i := k) (j := 0); rw [h] at this; simpa using this.symm
    have h1 : s[k + 1]? = r.head? := by
      have := List.getElem?_drop (xs := s) (i := k) (j := 1); rw [h] at this
      cases r <;> simpa using this.symm
    rw [h0, h1]
    dsimp only
    cases r <;> rfl
theorem rb_st {sg s t : Bs} {k : Nat} (h : Ag s t ((rb sg s k).at_ + 1)) : rb sg t k = rb sg s k := by
  rw [rb_get] at h
  rw [rb_get sg t, rb_get sg s]
  cases h0 : s[k]? with
  | none =>
    rw [h0] at h
    rw [← h k (by simp [Res.at_]), h0]
  | some c =>
    rw [h0] at h
    have hk : s[k]? = t[k]? := h k (by dsimp only; split <;> (try split) <;> simp [Res.at_] <;> omega)
    rw [← hk, h0]
    dsimp only at h ⊢
    by_cases hc : c = 92
    · rw [if_pos hc] at h
      rw [if_pos hc, if_pos hc]
      have hk1 : s[k + 1]? = t[k + 1]? := h (k + 1) (by split <;> simp [Res.at_])
      rw [← hk1]
    · rw [if_neg hc, if_neg hc]
theorem numb_st {s t : Bs} {k : Nat} (l : Int) (h : s[k]? = t[k]?) : numb t k l = numb s k l := by unfold numb; rw [h]
theorem closeB_st {s t : Bs} {k : Nat} (lo hi : Int) (h : s[k]? = t[k]?) : closeB t k lo hi = closeB s k lo hi := by unfold closeB; rw [h]
theorem bnds_st {s t : Bs} {k : Nat} (h : Ag s t ((bnds s k).at_ + 1)) (hk : k ≤ s.length) : bnds t k = bnds s k := by
  have hb := bnds_bd hk
  have hge : k ≤ (bnds s k).at_ := by revert hb; cases bnds s k <;> simp [Res.at_] <;> omega
  unfold bnds at h hge ⊢
  have e0 := h k (by omega)
  rw [numb_st 0 e0]
  cases h1 : numb s k 0 with
  | none => rfl
  | some lo =>
    rw [h1] at h
    dsimp only at h ⊢
    have e1 : s[k + 1]? = t[k + 1]? := by
      refine h (k + 1) ?_
      by_cases h2 : s[k + 1]? = some 44
      · rw [if_pos h2]
        by_cases h3 : s[k + 2]? = some 125
        · rw [if_pos h3]; simp [Res.at_]
        · rw [if_neg h3]
          cases numb s (k + 2) lo with
          | none => simp [Res.at_]
          | some hi => dsimp only; unfold closeB; split <;> simp [Res.at_] <;> omega
      · rw [if_neg h2]; unfold closeB; split <;> simp [Res.at_]
    by_cases h2 : s[k + 1]? = some 44
    · rw [if_pos h2] at h
      rw [if_pos h2, if_pos (by rw [← e1]; exact h2)]
      have e2 : s[k + 2]? = t[k + 2]? := by
        refine h (k + 2) ?_
        by_cases h3 : s[k + 2]? = some 125
        · rw [if_pos h3]; simp [Res.at_]
        · rw [if_neg h3]
          cases numb s (k + 2) lo with
          | none => simp [Res.at_]
          | some hi => dsimp only; unfold closeB; split <;> simp [Res.at_] <;> omega
      by_cases h3 : s[k + 2]? = some 125
      · rw [if_pos h3, if_pos (by rw [← e2]; exact h3)]
      · rw [if_neg h3] at h
        rw [if_neg h3, if_neg (by rw [← e2]; exact h3), numb_st lo e2]
        cases h4 : numb s (k + 2) lo with
        | none => rfl
        | some hi =>
          rw [h4] at h
          dsimp only at h ⊢
          exact closeB_st lo hi (h (k + 3) (by unfold closeB; split <;> simp [Res.at_]))
    · rw [if_neg h2] at h
      rw [if_neg h2, if_neg (by rw [← e1]; exact h2)]
      exact closeB_st lo lo e1
end
/- What is read of a text depends on its bytes up to the place alone: items, sets, atoms. -/
section
open Go Go.RowKit

def Res.nd {α : Type} : Res α → Nat
  | .bad q => q + 1
  | .ok _ q => q
theorem rb_nd {sg s t : Bs} {k : Nat} (h : Ag s t (rb sg s k).nd) : rb sg t k = rb sg s k := by
  rw [rb_get] at h
  rw [rb_get sg t, rb_get sg s]
  cases h0 : s[k]? with
  | none =>
    rw [h0] at h
    rw [← h k (by simp [Res.nd]), h0]
  | some c =>
    rw [h0] at h
    have hk : s[k]? = t[k]? := h k (by dsimp only; split <;> (try split) <;> simp [Res.nd] <;> omega)
    rw [← hk, h0]
    dsimp only at h ⊢
    by_cases hc : c = 92
    · rw [if_pos hc] at h
      rw [if_pos hc, if_pos hc]
      have hk1 : s[k + 1]? = t[k + 1]? := h (k + 1) (by split <;> simp [Res.nd])
      rw [← hk1]
    · rw [if_neg hc, if_neg hc]
theorem item_st {s t : Bs} {k : Nat} (h : Ag s t ((item s k).at_ + 1)) (hk : k ≤ s.length) : item t k = item s k := by
  obtain ⟨N, hN⟩ : ∃ N, N = (item s k).at_ + 1 := ⟨_, rfl⟩
  rw [← hN] at h
  rcases h1 : rb sgI s k with q | ⟨lo, q⟩
  · have hv : item s k = .bad q := by unfold item; rw [h1]
    rw [hv] at hN ⊢
    have hr : rb sgI t k = .bad q := by rw [rb_nd (s := s) (by rw [h1]; exact h.le (by rw [hN]; exact Nat.le_refl _)), h1]
    unfold item; rw [hr]
  · have hq := rb_ok hk h1
    by_cases h2 : s[q]? = some 45
    · have hl := lt_of_get h2
      rcases h3 : rb sgI s (q + 1) with p | ⟨hi, p⟩
      · have hp := rb_bad (by omega) h3
        have hv : item s k = .bad p := by unfold item; rw [h1]; dsimp only; rw [if_pos h2, h3]
        rw [hv] at hN ⊢
        have hN' : N = p + 1 := hN
        have hr : rb sgI t k = .ok lo q := by rw [rb_nd (s := s) (by rw [h1]; exact h.le (by show q ≤ N; omega)), h1]
        have hr2 : rb sgI t (q + 1) = .bad p := by rw [rb_nd (s := s) (by rw [h3]; exact h.le (by show p + 1 ≤ N; omega)), h3]
        unfold item; rw [hr]; dsimp only; rw [if_pos (by rw [← h q (by omega)]; exact h2), hr2]
      · have hp := rb_ok (by omega) h3
        by_cases h4 : (hi.toNat : Int) < (lo.toNat : Int)
        · have hv : item s k = .bad (p - 1) := by unfold item; rw [h1]; dsimp only; rw [if_pos h2, h3]; dsimp only; rw [if_pos h4]
          rw [hv] at hN ⊢
          have hN' : N = p - 1 + 1 := hN
          have hr : rb sgI t k = .ok lo q := by rw [rb_nd (s := s) (by rw [h1]; exact h.le (by show q ≤ N; omega)), h1]
          have hr2 : rb sgI t (q + 1) = .ok hi p := by rw [rb_nd (s := s) (by rw [h3]; exact h.le (by show p ≤ N; omega)), h3]
          unfold item; rw [hr]; dsimp only; rw [if_pos (by rw [← h q (by omega)]; exact h2), hr2]; dsimp only; rw [if_pos h4]
        · have hv : item s k = .ok (lo, hi) p := by unfold item; rw [h1]; dsimp only; rw [if_pos h2, h3]; dsimp only; rw [if_neg h4]
          rw [hv] at hN ⊢
          have hN' : N = p + 1 := hN
          have hr : rb sgI t k = .ok lo q := by rw [rb_nd (s := s) (by rw [h1]; exact h.le (by show q ≤ N; omega)), h1]
          have hr2 : rb sgI t (q + 1) = .ok hi p := by rw [rb_nd (s := s) (by rw [h3]; exact h.le (by show p ≤ N; omega)), h3]
          unfold item; rw [hr]; dsimp only; rw [if_pos (by rw [← h q (by omega)]; exact h2), hr2]; dsimp only; rw [if_neg h4]
    · have hv : item s k = .ok (lo, lo) q := by unfold item; rw [h1]; dsimp only; rw [if_neg h2]
      rw [hv] at hN ⊢
      have hN' : N = q + 1 := hN
      have hr : rb sgI t k = .ok lo q := by rw [rb_nd (s := s) (by rw [h1]; exact h.le (by show q ≤ N; omega)), h1]
      unfold item; rw [hr]; dsimp only; rw [if_neg (by rw [← h q (by omega)]; exact h2)]
theorem goS_st {s t : Bs} : ∀ (n k : Nat) (acc : List Sp), s.length - k < n → k ≤ s.length → k ≤ t.length → Ag s t ((goS s k acc).at_ + 1) → goS t k acc = goS s k acc
  | 0, k, acc, hn, _, _, _ => by omega
  | n + 1, k, acc, hn, hk, hkt, h => by
    by_cases he : acc ≠ [] ∧ s[k]? = some 93
    · rw [goS_end he.1 he.2] at h ⊢
      have e := h k (by simp [Res.at_]; omega)
      rw [goS_end he.1 (by rw [← e]; exact he.2)]
    · rcases hi : item s k with q | ⟨sp, q⟩
      · have hb := item_bad hk hi
        rw [goS_bad he hi] at h ⊢
        have e := h k (by simp [Res.at_]; omega)
        have hit : item t k = .bad q := by rw [item_st (s := s) (by rw [hi]; exact h) hk, hi]
        rw [goS_bad (by rw [← e]; exact he) hit]
      · have hb := item_ok hk hi
        rw [goS_ok he hk hi] at h ⊢
        have hge : q ≤ (goS s q (acc ++ [sp])).at_ := by
          rcases hg : goS s q (acc ++ [sp]) with p | ⟨l, p⟩
          · exact (goS_badb hb.2 hg).1
          · exact Nat.le_of_lt (goS_okb hb.2 hg).1
        have e := h k (by omega)
        have hit : item t k = .ok sp q := by rw [item_st (s := s) (by rw [hi]; exact h.le (by show q + 1 ≤ _; omega)) hk, hi]
        have hbt := item_ok hkt hit
        rw [goS_ok (by rw [← e]; exact he) hkt hit]
        exact goS_st n q _ (by omega) hb.2 hbt.2 h
theorem cls_st {s t : Bs} {k : Nat} (h : Ag s t ((cls s k).at_ + 1)) (hk : k ≤ s.length) (hkt : k ≤ t.length) : cls t k = cls s k := by
  have hge : k ≤ (cls s k).at_ := by
    have := cls_bd hk
    revert this; cases cls s k <;> simp [Res.at_] <;> omega
  have e := h k (by omega)
  unfold cls at h ⊢
  by_cases h1 : s[k]? = some 94
  · have hl := lt_of_get h1
    have hlt : k < t.length := lt_of_get (by rw [← e]; exact h1)
    rw [if_pos h1] at h
    rw [if_pos h1, if_pos (by rw [← e]; exact h1)]
    rcases h2 : goS s (k + 1) [] with q | ⟨l, q⟩
    · rw [h2] at h; rw [goS_st (s := s) (t := t) _ (k + 1) [] (Nat.lt_succ_self _) (by omega) (by omega) (by rw [h2]; exact h), h2]
    · rw [h2] at h; rw [goS_st (s := s) (t := t) _ (k + 1) [] (Nat.lt_succ_self _) (by omega) (by omega) (by rw [h2]; exact h), h2]
  · rw [if_neg h1] at h
    rw [if_neg h1, if_neg (by rw [← e]; exact h1)]
    rcases h2 : goS s k [] with q | ⟨l, q⟩
    · rw [h2] at h; rw [goS_st (s := s) (t := t) _ k [] (Nat.lt_succ_self _) hk hkt (by rw [h2]; exact h), h2]
    · rw [h2] at h; rw [goS_st (s := s) (t := t) _ k [] (Nat.lt_succ_self _) hk hkt (by rw [h2]; exact h), h2]
end
/- What is read of a text depends on its bytes up to the place alone: expressions. -/
section
open Go Go.RowKit

abbrev Fam := Bs → Rd
def St (rd : Fam) : Prop := ∀ s t k g, k < s.length → k < t.length → Ag s t ((rd s k g).at_ + 1) → rd t k g = rd s k g
def StE (rd : Fam) : Prop := ∀ s t k g, k ≤ s.length → k ≤ t.length → Ag s t ((rd s k g).at_ + 1) → rd t k g = rd s k g
theorem good_ge {s : Bs} {rd : Rd} (h : Good s rd) {k g : Nat} (hk : k < s.length) : k ≤ (rd k g).at_ := by
  obtain ⟨h1, h2⟩ := h k g hk
  rcases hr : rd k g with ⟨q, e⟩ | ⟨x, q, g'⟩
  · exact (h1 q e hr).1
  · exact Nat.le_of_lt (h2 x q g' hr).1
theorem goodE_ge {s : Bs} {rd : Rd} (h : GoodE s rd) {k g : Nat} (hk : k ≤ s.length) : k ≤ (rd k g).at_ := by
  obtain ⟨h1, h2⟩ := h k g hk
  rcases hr : rd k g with ⟨q, e⟩ | ⟨x, q, g'⟩
  · exact (h1 q e hr).1
  · exact (h2 x q g' hr).1
theorem atomR_st {grp : Fam} (hg : ∀ s, Good s (grp s)) (hs : St grp) : St (fun s => atomR (grp s) s) := by
  intro s t k g hk hkt h
  have hge := good_ge (atomR_good (hg s)) (g := g) hk
  dsimp only at h ⊢
  have e := h k (by omega)
  unfold atomR at h ⊢
  rw [← e]
  by_cases h1 : s[k]? = some 94
  · rw [if_pos h1, if_pos h1]
  · rw [if_neg h1] at h
    rw [if_neg h1, if_neg h1]
    by_cases h2 : s[k]? = some 36
    · rw [if_pos h2, if_pos h2]
    · rw [if_neg h2] at h
      rw [if_neg h2, if_neg h2]
      by_cases h3 : s[k]? = some 46
      · rw [if_pos h3, if_pos h3]
      · rw [if_neg h3] at h
        rw [if_neg h3, if_neg h3]
        by_cases h4 : s[k]? = some 40
        · rw [if_pos h4] at h
          rw [if_pos h4, if_pos h4]
          exact hs s t k g hk hkt h
        · rw [if_neg h4] at h
          rw [if_neg h4, if_neg h4]
          by_cases h5 : s[k]? = some 91
          · rw [if_pos h5] at h
            rw [if_pos h5, if_pos h5]
            rcases hc : cls s (k + 1) with q | ⟨S, q⟩
            · rw [hc] at h; rw [cls_st (s := s) (t := t) (by rw [hc]; exact h) (by omega) (by omega), hc]
            · rw [hc] at h; rw [cls_st (s := s) (t := t) (by rw [hc]; exact h) (by omega) (by omega), hc]
          · rw [if_neg h5] at h
            rw [if_neg h5, if_neg h5]
            rcases hc : rb sgA s k with q | ⟨c, q⟩
            · rw [hc] at h; rw [rb_st (s := s) (t := t) (by rw [hc]; exact h), hc]
            · rw [hc] at h; rw [rb_st (s := s) (t := t) (by rw [hc]; exact h), hc]
theorem tailP_ge {s : Bs} {x : Re} {q g : Nat} (hq : q ≤ s.length) : q ≤ (tailP s x q g).at_ := by
  by_cases hk : 0 < q
  · obtain ⟨h1, h2⟩ := tailP_good (s := s) (x := x) (k := q - 1) (q := q) (g := g) (by omega) hq
    rcases hr : tailP s x q g with ⟨p, e⟩ | ⟨y, p, g'⟩
    · unfold tailP at hr
      split at hr
      · cases hr
      · split at hr
        · cases hr
        · split at hr
          · cases hr
          · split at hr
            · rename_i hc
              have hl := lt_of_get hc
              have hb := bnds_bd (s := s) (k := q + 1) (by omega)
              split at hr
              · rename_i p' hbd
                rw [hbd] at hb
                injection hr with hr
                show q ≤ p
                dsimp only at hb; omega
              · cases hr
            · cases hr
    · have := (h2 y p g' hr).1
      show q ≤ p
      omega
  · omega
theorem tailP_st {s t : Bs} {x : Re} {q g : Nat} (hq : q ≤ s.length) (h : Ag s t ((tailP s x q g).at_ + 1)) : tailP t x q g = tailP s x q g := by
  have hge := tailP_ge (x := x) (g := g) hq
  have e := h q (by omega)
  unfold tailP at h ⊢
  rw [← e]
  by_cases h1 : s[q]? = some 42
  · rw [if_pos h1, if_pos h1]
  · rw [if_neg h1] at h
    rw [if_neg h1, if_neg h1]
    by_cases h2 : s[q]? = some 43
    · rw [if_pos h2, if_pos h2]
    · rw [if_neg h2] at h
      rw [if_neg h2, if_neg h2]
      by_cases h3 : s[q]? = some 63
      · rw [if_pos h3, if_pos h3]
      · rw [if_neg h3] at h
        rw [if_neg h3, if_neg h3]
        by_cases h4 : s[q]? = some 123
        · have hl := lt_of_get h4
          rw [if_pos h4] at h
          rw [if_pos h4, if_pos h4]
          rcases hc : bnds s (q + 1) with p | ⟨b, p⟩
          · rw [hc] at h; rw [bnds_st (s := s) (t := t) (by rw [hc]; exact h) (by omega), hc]
          · rw [hc] at h; rw [bnds_st (s := s) (t := t) (by rw [hc]; exact h) (by omega), hc]
        · rw [if_neg h4, if_neg h4]
theorem pieceC_st {grp : Fam} (hg : ∀ s, Good s (grp s)) (hs : St grp) : St (fun s => pieceC (grp s) s) := by
  intro s t k g hk hkt h
  dsimp only at h ⊢
  unfold pieceC at h ⊢
  rcases ha : atomR (grp s) s k g with ⟨q, er⟩ | ⟨x, q, g'⟩
  · rw [ha] at h
    have := atomR_st hg hs s t k g hk hkt (by dsimp only; rw [ha]; exact h)
    dsimp only at this
    rw [this, ha]
  · have hq := (atomR_good (hg s) k g hk).2 x q g' ha
    rw [ha] at h
    dsimp only at h ⊢
    by_cases hr : rep x = true
    · rw [if_pos hr] at h
      have hge := tailP_ge (x := x) (g := g') hq.2
      have := atomR_st hg hs s t k g hk hkt (by dsimp only; rw [ha]; exact h.le (by show q + 1 ≤ _; omega))
      dsimp only at this
      rw [this, ha]
      dsimp only
      rw [if_pos hr, if_pos hr]
      exact tailP_st hq.2 h
    · rw [if_neg hr] at h
      have := atomR_st hg hs s t k g hk hkt (by dsimp only; rw [ha]; exact h)
      dsimp only at this
      rw [this, ha]
      dsimp only
      rw [if_neg hr, if_neg hr]
end
/- What is read of a text depends on its bytes up to the place alone: rows, groups, the whole. -/
section
open Go Go.RowKit

theorem stops_st {s t : Bs} {k : Nat} (h : s[k]? = t[k]?) : stops t k = stops s k := by unfold stops; rw [h]
theorem rowL_ge {s : Bs} {pc : Rd} (hp : Good s pc) {k g : Nat} (acc : List Re) (hk : k ≤ s.length) : k ≤ (rowL pc s k g acc).at_ := by
  obtain ⟨h1, h2⟩ := rowL_good hp (s.length - k + 1) k g acc (by omega) hk
  rcases hr : rowL pc s k g acc with ⟨q, e⟩ | ⟨x, q, g'⟩
  · exact (h1 q e hr).1
  · exact (h2 x q g' hr).1
theorem rowL_st {pc : Fam} (hg : ∀ s, Good s (pc s)) (hs : St pc) {s t : Bs} : ∀ (n k g : Nat) (acc : List Re), s.length - k < n → k ≤ s.length → k ≤ t.length → Ag s t ((rowL (pc s) s k g acc).at_ + 1) → rowL (pc t) t k g acc = rowL (pc s) s k g acc
  | 0, k, g, acc, hn, _, _, _ => by omega
  | n + 1, k, g, acc, hn, hk, hkt, h => by
    have hge := rowL_ge (hg s) (g := g) acc hk
    have e := h k (by omega)
    have est := stops_st e
    cases hst : stops s k with
    | true =>
      rw [hst] at est
      rw [rowL_end hst, rowL_end est]
    | false =>
      rw [hst] at est
      have hks := not_stops hst
      have hkt' := not_stops est
      rcases ha : pc s k g with ⟨q, er⟩ | ⟨x, q, g'⟩
      · rw [rowL_bad hst ha] at h ⊢
        exact rowL_bad est (by rw [hs s t k g hks hkt' (by rw [ha]; exact h), ha])
      · have hq := (hg s k g hks).2 x q g' ha
        rw [rowL_ok hst ha hq] at h ⊢
        have hge2 := rowL_ge (hg s) (g := g') (acc ++ [x]) hq.2
        have hat : pc t k g = .ok x q g' := by rw [hs s t k g hks hkt' (by rw [ha]; exact h.le (by show q + 1 ≤ _; omega)), ha]
        have hqt := (hg t k g hkt').2 x q g' hat
        rw [rowL_ok est hat hqt]
        exact rowL_st hg hs n q g' _ (by omega) hq.2 hqt.2 h
theorem rowOf_st {pc : Fam} (hg : ∀ s, Good s (pc s)) (hs : St pc) : StE (fun s => rowOf (pc s) s) := by
  intro s t k g hk hkt h
  dsimp only at h ⊢
  unfold rowOf at h ⊢
  have hx : Ag s t ((rowL (pc s) s k g []).at_ + 1) := by
    rcases ha : rowL (pc s) s k g [] with ⟨q, e⟩ | ⟨x, q, g'⟩
    · rw [ha] at h; exact h
    · rw [ha] at h; exact h
  rw [rowL_st hg hs _ k g [] (Nat.lt_succ_self _) hk hkt hx]
theorem altL_ge {s : Bs} {rw_ : Rd} (hp : GoodE s rw_) {k g : Nat} (acc : List Re) (hk : k ≤ s.length) : k ≤ (altL rw_ s k g acc).at_ := by
  obtain ⟨h1, h2⟩ := altL_good hp (s.length - k + 1) k g acc (by omega) hk
  rcases hr : altL rw_ s k g acc with ⟨q, e⟩ | ⟨x, q, g'⟩
  · exact (h1 q e hr).1
  · exact (h2 x q g' hr).1
theorem altL_st {rw_ : Fam} (hg : ∀ s, GoodE s (rw_ s)) (hs : StE rw_) {s t : Bs} : ∀ (n k g : Nat) (acc : List Re), s.length - k < n → k ≤ s.length → k ≤ t.length → Ag s t ((altL (rw_ s) s k g acc).at_ + 1) → altL (rw_ t) t k g acc = altL (rw_ s) s k g acc
  | 0, k, g, acc, hn, _, _, _ => by omega
  | n + 1, k, g, acc, hn, hk, hkt, h => by
    rcases ha : rw_ s k g with ⟨q, er⟩ | ⟨x, q, g'⟩
    · rw [altL_bad ha] at h ⊢
      exact altL_bad (by rw [hs s t k g hk hkt (by rw [ha]; exact h), ha])
    · have hq := (hg s k g hk).2 x q g' ha
      by_cases hc : s[q]? = some 124
      · have hl := lt_of_get hc
        rw [altL_ok ha hc hq.1] at h ⊢
        have hge2 := altL_ge (hg s) (k := q + 1) (g := g') (acc ++ [x]) (by omega)
        have hat : rw_ t k g = .ok x q g' := by rw [hs s t k g hk hkt (by rw [ha]; exact h.le (by show q + 1 ≤ _; omega)), ha]
        have hct : t[q]? = some 124 := by rw [← h q (by omega)]; exact hc
        have hlt := lt_of_get hct
        rw [altL_ok hat hct hq.1]
        exact altL_st hg hs n (q + 1) g' _ (by omega) (by omega) (by omega) h
      · rw [altL_end ha hc] at h ⊢
        have hat : rw_ t k g = .ok x q g' := by rw [hs s t k g hk hkt (by rw [ha]; exact h), ha]
        exact altL_end hat (by rw [← h q (by simp [Ro.at_])]; exact hc)
theorem altOf_st {rw_ : Fam} (hg : ∀ s, GoodE s (rw_ s)) (hs : StE rw_) : StE (fun s => altOf (rw_ s) s) := by
  intro s t k g hk hkt h
  dsimp only at h ⊢
  unfold altOf at h ⊢
  have hx : Ag s t ((altL (rw_ s) s k g []).at_ + 1) := by
    rcases ha : altL (rw_ s) s k g [] with ⟨q, e⟩ | ⟨x, q, g'⟩
    · rw [ha] at h; exact h
    · rw [ha] at h; exact h
  rw [altL_st hg hs _ k g [] (Nat.lt_succ_self _) hk hkt hx]
theorem grpC_good (s : Bs) (m : Nat) : Good s (grpM (fun grp => pieceC grp s) s m) := grpM_good (fun _ h => pieceC_good h) m
theorem exC_stOf (m : Nat) (h : St (fun s => grpM (fun grp => pieceC grp s) s m)) : StE (fun s => exC s m) :=
  altOf_st (fun s => rowOf_good (pieceC_good (grpC_good s m))) (rowOf_st (fun s => pieceC_good (grpC_good s m)) (pieceC_st (fun s => grpC_good s m) h))
theorem grpC_st : ∀ m, St (fun s => grpM (fun grp => pieceC grp s) s m)
  | 0 => fun s t k g _ _ _ => rfl
  | m + 1 => by
    intro s t k g hk hkt h
    dsimp only at h ⊢
    rw [grpM_succ, grpM_succ]
    rw [grpM_succ] at h
    unfold grpR at h ⊢
    have hx : Ag s t ((exM (fun grp => pieceC grp s) s m (k + 1) (g + 1)).at_ + 1) := by
      rcases ha : exM (fun grp => pieceC grp s) s m (k + 1) (g + 1) with ⟨q, e⟩ | ⟨x, q, g'⟩
      · rw [ha] at h; exact h
      · rw [ha] at h
        dsimp only at h
        by_cases hc : s[q]? = some 41
        · rw [if_pos hc] at h; exact h.le (by show q + 1 ≤ q + 1 + 1; omega)
        · rw [if_neg hc] at h; exact h
    have e := exC_stOf m (grpC_st m) s t (k + 1) (g + 1) (by omega) (by omega) hx
    have e' : exM (fun grp => pieceC grp t) t m (k + 1) (g + 1) = exM (fun grp => pieceC grp s) s m (k + 1) (g + 1) := e
    rw [e']
    rcases ha : exM (fun grp => pieceC grp s) s m (k + 1) (g + 1) with ⟨q, e⟩ | ⟨x, q, g'⟩
    · rfl
    · rw [ha] at hx
      dsimp only
      have eq := hx q (Nat.lt_succ_self _)
      rw [eq]
theorem exC_st (m : Nat) : StE (fun s => exC s m) := exC_stOf m (grpC_st m)
end
/- How reading goes on: what EreGoes leans on. -/
section
open Go Go.RowKit

/-- What reading a short text ends with. -/
theorem parse_ends (s : Bs) (hs : s.length ≤ 200) : (∃ x, parseE s = (some x, 0, 0)) ∨ ∃ q er, parseE s = (none, q, er) ∧ q ≤ s.length ∧ (er = 1 ∨ er = 8 ∧ q < s.length) := by
  unfold parseE
  rw [if_neg (by omega)]
  rcases ha : exC s 64 0 0 with ⟨q, e⟩ | ⟨x, q, g'⟩
  · obtain ⟨_, h2, h3⟩ := (exC_good s 64 0 0 (by omega)).1 q e ha
    exact .inr ⟨q, e, rfl, h2, h3⟩
  · dsimp only
    by_cases hq : q < s.length
    · rw [if_pos hq]; exact .inr ⟨q, 1, rfl, by omega, .inl rfl⟩
    · rw [if_neg hq]; exact .inl ⟨x, rfl⟩
/-- A fault ahead of the end stays, whatever stands behind it. -/
theorem parse_goes {s t : Bs} {q : Nat} {er : Int} (hs : s.length ≤ 200) (ht : t.length ≤ 200) (h : parseE s = (none, q, er)) (hq : q < s.length) (hqt : q < t.length) (ha : Ag s t (q + 1)) : parseE t = (none, q, er) := by
  unfold parseE at h ⊢
  rw [if_neg (by omega)] at h ⊢
  rcases hx : exC s 64 0 0 with ⟨p, e⟩ | ⟨x, p, g'⟩
  · rw [hx] at h
    injection h with _ h
    injection h with h1 h2
    subst h1 h2
    have e := exC_st 64 s t 0 0 (by omega) (by omega) (by dsimp only; rw [hx]; exact ha)
    dsimp only at e
    rw [e, hx]
  · rw [hx] at h
    dsimp only at h
    by_cases hp : p < s.length
    · rw [if_pos hp] at h
      injection h with _ h
      injection h with h1 h2
      subst h1 h2
      have e := exC_st 64 s t 0 0 (by omega) (by omega) (by dsimp only; rw [hx]; exact ha)
      dsimp only at e
      rw [e, hx]
      dsimp only
      rw [if_pos hqt]
    · rw [if_neg hp] at h; injection h with h _; cases h
theorem ag_append (s r : Bs) {q : Nat} (hq : q < s.length) : Ag s (s ++ r) (q + 1) := fun i hi => by rw [List.getElem?_append_left (by omega)]
theorem ag_take (s : Bs) (q : Nat) : Ag s (s.take (q + 1)) (q + 1) := fun i hi => by rw [List.getElem?_take, if_pos hi]
end
/- Two texts read: what awake asks. -/
section
open Go Go.RowKit
theorem piece_eq {grp : Rd} {s : Bs} {k g q g' : Nat} {x : Re} (h : atomR grp s k g = .ok x q g') (hr : rep x = true) : pieceC grp s k g = tailP s x q g' := by
  unfold pieceC
  rw [h]
  exact if_pos hr
def sStar : Bs := [97, 42, 42]
theorem atom_byte {grp : Rd} {s : Bs} {k : Nat} (g : Nat) {c : UInt8} (h : s[k]? = some c) (hc : c ∉ sgA) (h2 : c ≠ 92) : atomR grp s k g = .ok (rSet (ins none4 c.toNat)) (k + 1) g := by
  have hne : ∀ d : UInt8, d ∈ sgA → s[k]? ≠ some d := fun d hd e => by rw [h] at e; injection e with e; subst e; exact hc hd
  unfold atomR
  rw [if_neg (hne 94 (by decide)), if_neg (hne 36 (by decide)), if_neg (hne 46 (by decide)), if_neg (hne 40 (by decide)), if_neg (hne 91 (by decide)), rb_get, h]
  dsimp only
  rw [if_neg h2, if_neg hc]
theorem star_bad : parseE sStar = (none, 2, 1) := by
  have p1 : ∀ grp g, pieceC grp sStar 0 g = .ok (rRep (rSet (ins none4 97)) 0 (-1)) 2 g := fun grp g => by
    unfold pieceC
    rw [atom_byte g (c := 97) rfl (by decide) (by decide)]
    rfl
  have p2 : ∀ grp g, pieceC grp sStar 2 g = .bad 2 1 := fun grp g => by
    unfold pieceC atomR
    rw [rb_get]
    rfl
  have r : ∀ grp, rowOf (pieceC grp sStar) sStar 0 0 = .bad 2 1 := fun grp => by
    unfold rowOf
    rw [rowL_ok (by rfl) (p1 _ _) (by decide), rowL_bad (by rfl) (p2 _ _)]
  have e : exC sStar 64 0 0 = .bad 2 1 := by
    show altOf _ sStar 0 0 = _
    unfold altOf
    rw [altL_bad (r _)]
  unfold parseE
  rw [e]
  rfl
def sWake : Bs := [40, 97, 124, 98, 41, 42, 36]
def rA : Re := rSet (ins none4 97)
def rB : Re := rSet (ins none4 98)
def rWake : Re := mkRow [rRep (rGrp (mkAlt [rA, rB]) (num 1)) 0 (-1), rEnd]
theorem wake_read : parseE sWake = (some rWake, 0, 0) := by
  have pa : ∀ grp g, pieceC grp sWake 1 g = .ok rA 2 g := fun grp g => by
    unfold pieceC
    rw [atom_byte g (c := 97) rfl (by decide) (by decide)]
    rfl
  have pb : ∀ grp g, pieceC grp sWake 3 g = .ok rB 4 g := fun grp g => by
    unfold pieceC
    rw [atom_byte g (c := 98) rfl (by decide) (by decide)]
    rfl
  have pe : ∀ grp g, pieceC grp sWake 6 g = .ok rEnd 7 g := fun grp g => by
    unfold pieceC atomR
    rfl
  have ra : ∀ grp g, rowOf (pieceC grp sWake) sWake 1 g = .ok rA 2 g := fun grp g => by
    unfold rowOf
    rw [rowL_ok (by rfl) (pa _ _) (by decide), rowL_end (by rfl)]
    rfl
  have rb : ∀ grp g, rowOf (pieceC grp sWake) sWake 3 g = .ok rB 4 g := fun grp g => by
    unfold rowOf
    rw [rowL_ok (by rfl) (pb _ _) (by decide), rowL_end (by rfl)]
    rfl
  have al : ∀ grp g, altOf (rowOf (pieceC grp sWake) sWake) sWake 1 g = .ok (mkAlt [rA, rB]) 4 g := fun grp g => by
    unfold altOf
    rw [altL_ok (ra _ _) (by rfl) (by decide), altL_end (rb _ _) (by decide)]
    rfl
  have gr : grpM (fun grp => pieceC grp sWake) sWake 64 0 0 = .ok (rGrp (mkAlt [rA, rB]) (num 1)) 5 1 := by
    rw [grpM_succ]
    unfold grpR exM
    rw [al]
    rfl
  have pg : pieceC (grpM (fun grp => pieceC grp sWake) sWake 64) sWake 0 0 = .ok (rRep (rGrp (mkAlt [rA, rB]) (num 1)) 0 (-1)) 6 1 := by
    have ha : atomR (grpM (fun grp => pieceC grp sWake) sWake 64) sWake 0 0 = .ok (rGrp (mkAlt [rA, rB]) (num 1)) 5 1 := by
      rw [← gr]
      unfold atomR
      rfl
    rw [piece_eq ha rfl]
    rfl
  have r : rowOf (pieceC (grpM (fun grp => pieceC grp sWake) sWake 64) sWake) sWake 0 0 = .ok rWake 7 1 := by
    unfold rowOf
    rw [rowL_ok (by rfl) pg (by decide), rowL_ok (by rfl) (pe _ _) (by decide), rowL_end (by rfl)]
    rfl
  have e : exC sWake 64 0 0 = .ok rWake 7 1 := by
    show altOf (rowOf (pieceC (grpM (fun grp => pieceC grp sWake) sWake 64) sWake) sWake) sWake 0 0 = _
    unfold altOf
    rw [altL_end r (by decide)]
    rfl
  unfold parseE
  rw [e]
  rfl
end
/- What is printed is read again: sets, bounds. -/
section
open Go Go.RowKit

theorem escJ_head (c : UInt8) : ∃ d t, esc sgJ c = d :: t ∧ d ≠ 93 ∧ d ≠ 45 ∧ d ≠ 94 := by
  unfold esc
  by_cases hc : c ∈ sgJ
  · rw [if_pos hc]; exact ⟨92, [c], rfl, by decide, by decide, by decide⟩
  · rw [if_neg hc]
    refine ⟨c, [], rfl, ?_, ?_, ?_⟩ <;> (rintro rfl; exact hc (by decide))
theorem itemJ_head (p : Sp) : ∃ d t, itemJ p = d :: t ∧ d ≠ 93 ∧ d ≠ 45 ∧ d ≠ 94 := by
  obtain ⟨d, t, h, h1⟩ := escJ_head p.1
  exact ⟨d, _, by unfold itemJ; rw [h]; rfl, h1⟩
theorem itemJ_text {s r : Bs} {k : Nat} {p : Sp} (h : s.drop k = itemJ p ++ r) (hp : okS p = true) (hr : r.head? ≠ some 45) : item s k = .ok p (k + (itemJ p).length) := by
  obtain ⟨lo, hi⟩ := p
  simp only [okS, decide_eq_true_eq] at hp
  unfold item
  by_cases hlt : (lo.toNat : Int) < (hi.toNat : Int)
  · have e : itemJ (lo, hi) = esc sgJ lo ++ 45 :: esc sgJ hi := by unfold itemJ; rw [if_pos hlt]
    rw [e, List.append_assoc] at h
    rw [rb_esc h (by decide) (by decide)]
    have h2 := drop_past h
    have h3 : s.drop (k + (esc sgJ lo).length + 1) = esc sgJ hi ++ r := by
      have := drop_past (x := [45]) h2; exact this
    dsimp only
    rw [if_pos (get_drop h2), rb_esc h3 (by decide) (by decide)]
    dsimp only
    rw [if_neg (by omega), e]; simp [Nat.add_assoc, Nat.add_comm 1]
  · have e : itemJ (lo, hi) = esc sgJ lo := by unfold itemJ; rw [if_neg hlt]; simp
    have hx : lo = hi := u8_eq (by omega)
    rw [e] at h
    rw [rb_esc h (by decide) (by decide)]
    dsimp only
    rw [if_neg (not_get (drop_past h) hr), e, ← hx]
theorem goS_textJ : ∀ (l : List Sp) {s r : Bs} {k : Nat} {acc : List Sp}, s.drop k = l.flatMap itemJ ++ 93 :: r → (acc ≠ [] ∨ l ≠ []) → l.all okS = true → k ≤ s.length →
    goS s k acc = .ok (acc ++ l) (k + (l.flatMap itemJ).length + 1)
  | [], s, r, k, acc, h, h0, _, _ => by
    have hc : acc ≠ [] := by simpa using h0
    rw [goS_end hc (get_drop h)]; simp
  | p :: l, s, r, k, acc, h, _, hl, hk => by
    rw [List.all_cons, Bool.and_eq_true] at hl
    obtain ⟨hp, hl⟩ := hl
    rw [List.flatMap_cons, List.append_assoc] at h
    obtain ⟨d, t, hd, d1, d2, _⟩ := itemJ_head p
    have h1 : ¬ (acc ≠ [] ∧ s[k]? = some 93) := by
      rintro ⟨_, h93⟩
      rw [hd] at h
      have := get_drop h
      rw [h93] at this
      injection this with this
      exact d1 this.symm
    have hr : (l.flatMap itemJ ++ 93 :: r).head? ≠ some 45 := by
      cases l with
      | nil => simp
      | cons q l =>
        obtain ⟨d', t', hd', _, d2', _⟩ := itemJ_head q
        rw [List.flatMap_cons, hd']; simpa using d2'
    have hi := itemJ_text h hp hr
    obtain ⟨_, hb⟩ := item_ok hk hi
    rw [goS_ok h1 hk hi, goS_textJ l (drop_past h) (.inl (by simp)) hl hb]
    simp [Nat.add_assoc]
theorem drop_le {s r : Bs} {k : Nat} {c : UInt8} (h : s.drop k = c :: r) : k < s.length := lt_of_get (get_drop h)
theorem all_none : compl (allS [((0 : UInt8), (255 : UInt8))]) = none4 := set_ext fun c hc => by
  rw [mem_compl, mem_allS _ _ hc, mem_none4]
  have : hasS c ((0 : UInt8), (255 : UInt8)) = true := by unfold hasS; simp; omega
  simp [this]
theorem all_full : allS [((0 : UInt8), (255 : UInt8))] = compl none4 := set_ext fun c hc => by
  rw [mem_compl, mem_allS _ _ hc, mem_none4]
  have : hasS c ((0 : UInt8), (255 : UInt8)) = true := by unfold hasS; simp; omega
  simp [this]
theorem all_one (c : UInt8) : allS [(c, c)] = ins none4 c.toNat := by
  show addS none4 (c, c) = _
  unfold addS
  dsimp only
  rw [show c.toNat + 1 - c.toNat = 1 by omega]
  rfl
theorem atom_esc {grp : Rd} {s r : Bs} {k : Nat} (g : Nat) {c : UInt8} (h : s.drop k = esc sgA c ++ r) : atomR grp s k g = .ok (rSet (ins none4 c.toNat)) (k + (esc sgA c).length) g := by
  have hne : ∀ d : UInt8, d ∈ ([94, 36, 46, 40, 91] : Bs) → s[k]? ≠ some d := by
    intro d hd
    refine not_get h ?_
    unfold esc
    split
    · rintro e
      injection e with e
      subst e
      revert hd; decide
    · rename_i hn
      rintro e
      injection e with e
      subst e
      exact hn (by revert hd; simp [sgA]; rintro (rfl | rfl | rfl | rfl | rfl) <;> simp)
  unfold atomR
  rw [if_neg (hne 94 (by decide)), if_neg (hne 36 (by decide)), if_neg (hne 46 (by decide)), if_neg (hne 40 (by decide)), if_neg (hne 91 (by decide)), rb_esc h (by decide) (fun x hx => hx)]
theorem atom_class {grp : Rd} {s : Bs} {k q : Nat} (g : Nat) {S : S4} (h : s[k]? = some 91) (hc : cls s (k + 1) = .ok S q) : atomR grp s k g = .ok (rSet S) q g := by
  unfold atomR
  rw [h, hc]
  rfl
theorem cls_text {s r : Bs} {k : Nat} {l : List Sp} (h : s.drop k = l.flatMap itemJ ++ 93 :: r) (hl : l ≠ []) (ho : l.all okS = true) : cls s k = .ok (allS l) (k + (l.flatMap itemJ).length + 1) := by
  have hlt : k < s.length := by
    have := congrArg List.length h
    simp only [List.length_drop, List.length_append, List.length_cons] at this
    omega
  have h94 : s[k]? ≠ some 94 := by
    refine not_get h ?_
    obtain ⟨p, l', rfl⟩ := List.exists_cons_of_ne_nil hl
    obtain ⟨d, t, hd, _, _, d3⟩ := itemJ_head p
    rw [List.flatMap_cons, hd]
    simpa using d3
  unfold cls
  rw [if_neg h94, goS_textJ l h (.inr hl) ho (by omega)]
  rfl
theorem set_text {grp : Rd} {s r : Bs} {k : Nat} (g : Nat) {S : S4} (h : s.drop k = setText S ++ r) : atomR grp s k g = .ok (rSet S) (k + (setText S).length) g := by
  have hS := allS_runs S
  by_cases h0 : runs S = []
  · rw [setText_nil h0] at h ⊢
    rw [h0] at hS
    have h1 := get_drop h
    have h2 : s.drop (k + 1) = 94 :: (([((0 : UInt8), (255 : UInt8))] : List Sp).flatMap itemJ ++ 93 :: r) := by
      have := drop_past (x := [91]) (r := [94, 0, 45, 255, 93] ++ r) (s := s) (k := k) (by rw [h]; rfl)
      rw [show k + 1 = k + ([91] : Bs).length from rfl, this]
      rfl
    have h3 : s.drop (k + 1 + 1) = ([((0 : UInt8), (255 : UInt8))] : List Sp).flatMap itemJ ++ 93 :: r := drop_past (x := [94]) h2
    refine atom_class g h1 ?_
    unfold cls
    have := drop_le h2
    rw [if_pos (get_drop h2), goS_textJ _ h3 (.inr (by simp)) (by decide) (by omega)]
    dsimp only
    rw [List.nil_append, all_none, ← hS]
    rfl
  · by_cases h1 : ∃ c, runs S = [(c, c)]
    · obtain ⟨c, hc⟩ := h1
      rw [setText_one hc] at h ⊢
      rw [atom_esc g h, ← hS, hc, all_one]
    · by_cases h2 : runs S = [(0, 255)]
      · rw [setText_full h2] at h ⊢
        rw [h2, all_full] at hS
        have h3 := get_drop h
        unfold atomR
        rw [h3, hS]
        rfl
      · rw [setText_many h0 (fun c hc => h1 ⟨c, hc⟩) h2] at h ⊢
        have h3 : s.drop (k + 1) = (runs S).flatMap itemJ ++ 93 :: r := by
          have := drop_past (x := [91]) (r := (runs S).flatMap itemJ ++ 93 :: r) (s := s) (k := k) (by rw [h]; simp)
          exact this
        have hc := cls_text h3 h0 (runs_ok S 256 (by omega))
        rw [hS] at hc
        rw [atom_class g (get_drop h) hc]
        simp; omega
/- Bounds. -/
theorem dig_nat {x : Int} (h0 : 0 ≤ x) (h8 : x ≤ 8) : ((dig x).toNat : Int) - 48 = x := by
  unfold dig
  rw [UInt8.toNat_ofNat', Nat.mod_eq_of_lt (by omega)]
  omega
theorem numb_dig {s : Bs} {k : Nat} {least x : Int} (h : s[k]? = some (dig x)) (h0 : 0 ≤ x) (h8 : x ≤ 8) (hl : least ≤ x) : numb s k least = some x := by
  unfold numb
  rw [h]
  dsimp only
  rw [dig_nat h0 h8, if_neg (by omega)]
theorem get_off {s : Bs} {k j : Nat} {l : Bs} (h : s.drop k = l) : s[k + j]? = l[j]? := by
  rw [← h, List.getElem?_drop]
theorem bound_is {lo hi : Int} (h : bound lo hi = true) : 0 ≤ lo ∧ lo ≤ 8 ∧ (hi = -1 ∨ lo ≤ hi ∧ hi ≤ 8) := by
  unfold bound at h
  simpa using h
theorem dig_ne {x : Int} (h0 : 0 ≤ x) (h8 : x ≤ 8) (c : UInt8) (hc : c.toNat < 48 ∨ 56 < c.toNat) : dig x ≠ c := by
  rintro rfl
  have := dig_nat h0 h8
  omega
theorem tail_text {s r : Bs} {q : Nat} {lo hi : Int} (x : Re) (g : Nat) (h : s.drop q = signT lo hi ++ r) (hb : bound lo hi = true) : tailP s x q g = .ok (rRep x lo hi) (q + (signT lo hi).length) g := by
  obtain ⟨b1, b2, b3⟩ := bound_is hb
  unfold signT at h ⊢
  split at h
  · rename_i e
    obtain ⟨rfl, rfl⟩ := e
    have := get_drop h
    unfold tailP
    rw [this]; rfl
  · rename_i n1
    split at h
    · rename_i e
      obtain ⟨rfl, rfl⟩ := e
      have := get_drop h
      unfold tailP
      rw [this]; rfl
    · rename_i n2
      split at h
      · rename_i e
        obtain ⟨rfl, rfl⟩ := e
        have := get_drop h
        unfold tailP
        rw [this]; rfl
      · rename_i n3
        rw [if_neg n1, if_neg n2, if_neg n3]
        have key : ∀ (t : Bs) (p : Nat), s[q]? = some 123 → bnds s (q + 1) = .ok (lo, hi) p → p = q + t.length → tailP s x q g = .ok (rRep x lo hi) (q + t.length) g := by
          intro t p h1 h2 h3
          unfold tailP
          rw [h1, h2, h3]; rfl
        split at h
        · rename_i e
          subst e
          rw [if_pos rfl]
          have e0 := get_off (j := 0) h
          have e1 := get_off (j := 1) h
          have e2 := get_off (j := 2) h
          refine key _ (q + 3) (by simpa using e0) ?_ (by simp)
          unfold bnds
          rw [numb_dig (x := hi) (by simpa using e1) b1 b2 b1]
          dsimp only
          rw [if_neg (by rw [show q + 1 + 1 = q + 2 by omega, e2]; simp)]
          unfold closeB
          rw [if_pos (by rw [show q + 1 + 1 = q + 2 by omega, e2]; simp)]
        · rename_i n4
          rw [if_neg n4]
          split at h
          · rename_i e
            subst e
            rw [if_pos rfl]
            have e0 := get_off (j := 0) h
            have e1 := get_off (j := 1) h
            have e2 := get_off (j := 2) h
            have e3 := get_off (j := 3) h
            refine key _ (q + 4) (by simpa using e0) ?_ (by simp)
            unfold bnds
            rw [numb_dig (x := lo) (by simpa using e1) b1 b2 b1]
            dsimp only
            rw [if_pos (by rw [show q + 1 + 1 = q + 2 by omega, e2]; simp), if_pos (by rw [show q + 1 + 2 = q + 3 by omega, e3]; simp)]
          · rename_i n5
            rw [if_neg n5]
            have b4 : lo ≤ hi ∧ hi ≤ 8 := by omega
            have e0 := get_off (j := 0) h
            have e1 := get_off (j := 1) h
            have e2 := get_off (j := 2) h
            have e3 := get_off (j := 3) h
            have e4 := get_off (j := 4) h
            have d3 := dig_ne (x := hi) (by omega) b4.2 125 (by decide)
            refine key _ (q + 5) (by simpa using e0) ?_ (by simp)
            unfold bnds
            rw [numb_dig (x := lo) (by simpa using e1) b1 b2 b1]
            dsimp only
            rw [if_pos (by rw [show q + 1 + 1 = q + 2 by omega, e2]; simp), if_neg (by rw [show q + 1 + 2 = q + 3 by omega, e3]; simpa using d3), numb_dig (x := hi) (by rw [show q + 1 + 2 = q + 3 by omega]; simpa using e3) (by omega) b4.2 b4.1]
            dsimp only
            unfold closeB
            rw [if_pos (by rw [show q + 1 + 3 = q + 4 by omega, e4]; simp)]
end
/- What is printed is read again: expressions. -/
section
open Go Go.RowKit

theorem told_is {k : Int} {S : S4} {ks : List Re} {lo hi n : Int} (h : told (.mk k S ks lo hi n) = true) :
    (k = 1 ∨ S = none4) ∧ (k = 7 ∨ n = 0) ∧ (k = 6 → (∃ x, ks = [x] ∧ rep x = true) ∧ bound lo hi = true) ∧ (k ≠ 6 → lo = 0 ∧ hi = 0) ∧ (k = 7 → ∃ x, ks = [x]) ∧ (k = 4 ∨ k = 5 → 2 ≤ ks.length) ∧ (k ≠ 4 → k ≠ 5 → k ≠ 6 → k ≠ 7 → ks = []) := by
  unfold told at h
  simp only [Bool.and_eq_true, Bool.or_eq_true, decide_eq_true_eq] at h
  obtain ⟨h1, h2, h3⟩ := h
  refine ⟨h1, h2, ?_, ?_, ?_, ?_, ?_⟩
  · rintro rfl
    rw [if_pos rfl] at h3
    simp only [Bool.and_eq_true] at h3
    obtain ⟨h3, h4⟩ := h3
    refine ⟨?_, h4⟩
    split at h3
    · exact ⟨_, rfl, h3⟩
    · cases h3
  · intro hk
    rw [if_neg hk] at h3
    simp only [Bool.and_eq_true, decide_eq_true_eq] at h3
    exact ⟨h3.1, h3.2.1⟩
  · rintro rfl
    rw [if_neg (by decide), if_pos rfl] at h3
    simp only [Bool.and_eq_true, decide_eq_true_eq] at h3
    exact List.length_eq_one_iff.1 h3.2.2
  · intro hk
    rw [if_neg (by omega), if_neg (by omega), if_pos hk] at h3
    simp only [Bool.and_eq_true, decide_eq_true_eq] at h3
    exact h3.2.2
  · intro h4 h5 h6 h7
    rw [if_neg h6, if_neg h7, if_neg (by omega)] at h3
    simp only [Bool.and_eq_true, decide_eq_true_eq] at h3
    exact List.length_eq_zero_iff.1 h3.2.2
theorem form_is {k : Int} {S : S4} {ks : List Re} {lo hi n : Int} {lv d g g' : Nat} (h : form (.mk k S ks lo hi n) lv d g = some g') :
    lev k ≤ lv ∧ told (.mk k S ks lo hi n) = true ∧ (k = 7 → n = num (g + 1) ∧ d < 64 ∧ formL ks 3 (d + 1) (g + 1) = some g') ∧ (k ≠ 7 → formL ks (levK k) d g = some g') := by
  rw [form] at h
  split at h
  · rename_i hh
    refine ⟨hh.1, hh.2, ?_, ?_⟩
    · rintro rfl
      rw [if_pos rfl] at h
      split at h
      · rename_i h2; exact ⟨h2.1, h2.2, h⟩
      · cases h
    · intro hk
      rw [if_neg hk] at h
      exact h
  · cases h
theorem form_lv {r : Re} {lv lv' d g g' : Nat} (h : form r lv d g = some g') (hl : lev r.kind ≤ lv') : form r lv' d g = some g' := by
  obtain ⟨k, S, ks, lo, hi, n⟩ := r
  obtain ⟨_, h2, _, _⟩ := form_is h
  rw [form] at h ⊢
  rw [if_pos ⟨hl, h2⟩]
  split at h
  · exact h
  · cases h
theorem lev_le {k : Int} : lev k ≤ 4 := by unfold lev; split <;> (try split) <;> (try split) <;> (try split) <;> omega
theorem lev0 {k : Int} (h : lev k ≤ 0) : k = 1 ∨ k = 2 ∨ k = 3 ∨ k = 7 := by
  unfold lev at h
  split at h
  · assumption
  · split at h
    · omega
    · split at h
      · omega
      · split at h <;> omega
theorem lev1 {k : Int} (h : lev k ≤ 1) : lev k ≤ 0 ∨ k = 6 := by
  unfold lev at h ⊢
  split at h
  · left; rw [if_pos (by assumption)]; exact Nat.le_refl _
  · split at h
    · right; assumption
    · split at h
      · omega
      · split at h <;> omega
theorem lev2 {k : Int} (h : lev k ≤ 2) : lev k ≤ 1 ∨ k = 0 ∨ k = 4 := by
  unfold lev at h ⊢
  split at h
  · left; rw [if_pos (by assumption)]; omega
  · rename_i h0
    split at h
    · left; rw [if_neg h0, if_pos (by assumption)]; exact Nat.le_refl _
    · split at h
      · right; assumption
      · split at h <;> omega
theorem lev3 {k : Int} (h : lev k ≤ 3) : lev k ≤ 2 ∨ k = 5 := by
  unfold lev at h ⊢
  split at h
  · left; rw [if_pos (by assumption)]; omega
  · rename_i h0
    split at h
    · left; rw [if_neg h0, if_pos (by assumption)]; omega
    · rename_i h1
      split at h
      · left; rw [if_neg h0, if_neg h1, if_pos (by assumption)]; omega
      · split at h
        · right; assumption
        · omega
/- How a piece's text begins. -/
def Headed (t : Bs) : Prop := ∃ c u, t = c :: u ∧ c ∉ sgR ∧ c ≠ 124 ∧ c ≠ 41
theorem head_esc (c : UInt8) : Headed (esc sgA c) := by
  unfold esc
  by_cases hc : c ∈ sgA
  · rw [if_pos hc]; exact ⟨92, [c], rfl, by decide, by decide, by decide⟩
  · rw [if_neg hc]
    refine ⟨c, [], rfl, fun h => hc ?_, ?_, ?_⟩
    · revert h; simp [sgR, sgA]; rintro (rfl | rfl | rfl | rfl) <;> simp
    · rintro rfl; exact hc (by decide)
    · rintro rfl; exact hc (by decide)
theorem head_set (S : S4) : Headed (setText S) := by
  unfold setText
  split
  · exact ⟨91, _, rfl, by decide, by decide, by decide⟩
  · split
    · exact head_esc _
    · split
      · exact ⟨46, _, rfl, by decide, by decide, by decide⟩
      · exact ⟨91, _, rfl, by decide, by decide, by decide⟩
theorem Headed.app {t : Bs} (h : Headed t) (u : Bs) : Headed (t ++ u) := by
  obtain ⟨c, v, rfl, h1⟩ := h
  exact ⟨c, v ++ u, rfl, h1⟩
theorem head_atom {r : Re} {d g g' : Nat} (h : form r 0 d g = some g') : Headed (textE r) := by
  obtain ⟨k, S, ks, lo, hi, n⟩ := r
  obtain ⟨h1, _⟩ := form_is h
  rw [textE]
  rcases lev0 h1 with rfl | rfl | rfl | rfl
  · exact head_set S
  · exact ⟨94, _, rfl, by decide, by decide, by decide⟩
  · exact ⟨36, _, rfl, by decide, by decide, by decide⟩
  · exact ⟨40, _, rfl, by decide, by decide, by decide⟩
theorem formL_one {x : Re} {lv d g : Nat} : formL [x] lv d g = form x lv d g := by
  rw [formL]
  cases form x lv d g with
  | none => rfl
  | some g' => rfl
theorem join_one (sep : Bs) (x : Re) : joinT sep [x] = textE x := by rw [joinT, tailT, List.append_nil]
theorem head_piece {r : Re} {d g g' : Nat} (h : form r 1 d g = some g') : Headed (textE r) := by
  obtain ⟨k, S, ks, lo, hi, n⟩ := r
  obtain ⟨h1, h2, _, h4⟩ := form_is h
  rcases lev1 h1 with h0 | rfl
  · exact head_atom (form_lv h h0)
  · obtain ⟨⟨x, rfl, _⟩, _⟩ := (told_is h2).2.2.1 rfl
    have h4 := h4 (by decide)
    rw [formL_one] at h4
    rw [textE, if_neg (by decide), if_neg (by decide), if_neg (by decide), if_neg (by decide), if_pos rfl, join_one]
    exact (head_atom h4).app _
abbrev grpC (s : Bs) (m : Nat) : Rd := grpM (fun grp => pieceC grp s) s m
def Tr0 (r : Re) : Prop := ∀ (s : Bs) (m d k g g' : Nat) (rest : Bs), m + d = 64 → s.drop k = textE r ++ rest → form r 0 d g = some g' → atomR (grpC s m) s k g = .ok r (k + (textE r).length) g'
def Tr1 (r : Re) : Prop := ∀ (s : Bs) (m d k g g' : Nat) (rest : Bs), m + d = 64 → s.drop k = textE r ++ rest → form r 1 d g = some g' → (∀ c, rest.head? = some c → c ∉ sgR) → pieceC (grpC s m) s k g = .ok r (k + (textE r).length) g'
def Tr2 (r : Re) : Prop := ∀ (s : Bs) (m d k g g' : Nat) (rest : Bs), m + d = 64 → s.drop k = textE r ++ rest → k ≤ s.length → form r 2 d g = some g' → (∀ c, rest.head? = some c → c = 124 ∨ c = 41) → rowOf (pieceC (grpC s m) s) s k g = .ok r (k + (textE r).length) g'
def Tr3 (r : Re) : Prop := ∀ (s : Bs) (m d k g g' : Nat) (rest : Bs), m + d = 64 → s.drop k = textE r ++ rest → k ≤ s.length → form r 3 d g = some g' → (∀ c, rest.head? = some c → c = 41) → exC s m k g = .ok r (k + (textE r).length) g'
theorem get_head {s r : Bs} {k : Nat} (h : s.drop k = r) : s[k]? = r.head? := by
  cases r with
  | nil => exact get_none h
  | cons c r => exact get_drop h
theorem at1_of0 {r : Re} (h0 : Tr0 r) (hl : lev r.kind ≤ 0) : Tr1 r := by
  intro s m d k g g' rest hm hd hf hr
  have ha := h0 s m d k g g' rest hm hd (form_lv hf hl)
  have hq := get_head (drop_past hd)
  have hne : ∀ c ∈ sgR, s[k + (textE r).length]? ≠ some c := by
    intro c hc e
    rw [hq] at e
    exact hr c e hc
  unfold pieceC
  rw [ha]
  dsimp only
  split
  · unfold tailP
    rw [if_neg (hne 42 (by decide)), if_neg (hne 43 (by decide)), if_neg (hne 63 (by decide)), if_neg (hne 123 (by decide))]
  · rfl
theorem at1_six {S : S4} {x : Re} {lo hi n : Int} (h0 : Tr0 x) : Tr1 (.mk 6 S [x] lo hi n) := by
  intro s m d k g g' rest hm hd hf hr
  obtain ⟨h1, h2, _, h4⟩ := form_is hf
  obtain ⟨t1, t2, t3, _⟩ := told_is h2
  obtain ⟨⟨y, hy, hrep⟩, hb⟩ := t3 rfl
  injection hy with hy _
  subst hy
  have h4 := h4 (by decide)
  rw [formL_one] at h4
  have hS : S = none4 := by rcases t1 with t1 | t1; · exact absurd t1 (by decide)
                            · exact t1
  have hn : n = 0 := by rcases t2 with t2 | t2; · exact absurd t2 (by decide)
                        · exact t2
  subst hS hn
  rw [textE, if_neg (by decide), if_neg (by decide), if_neg (by decide), if_neg (by decide), if_pos rfl, join_one] at hd ⊢
  rw [List.append_assoc] at hd
  have ha := h0 s m d k g g' _ hm hd h4
  unfold pieceC
  rw [ha]
  dsimp only
  rw [if_pos hrep, tail_text x g' (drop_past hd) hb, List.length_append, Nat.add_assoc]
  rfl
theorem stops_head {s r : Bs} {k : Nat} (h : s.drop k = r) : stops s k = match r.head? with
    | none => true
    | some c => decide (c = 124) || decide (c = 41) := by
  have e := get_head h
  unfold stops
  cases hr : r.head? with
  | none => rw [hr] at e; rw [e]
  | some c => rw [hr] at e; rw [e]
theorem stops_yes {s r : Bs} {k : Nat} (h : s.drop k = r) (hr : ∀ c, r.head? = some c → c = 124 ∨ c = 41) : stops s k = true := by
  rw [stops_head h]
  cases hh : r.head? with
  | none => rfl
  | some c => rcases hr c hh with rfl | rfl <;> rfl
theorem stops_no {s t : Bs} {k : Nat} {r : Bs} (ht : Headed t) (h : s.drop k = t ++ r) : stops s k = false := by
  obtain ⟨c, u, rfl, _, h2, h3⟩ := ht
  rw [stops_head h]
  simp [h2, h3]
theorem tail_nil : ∀ l : List Re, tailT [] l = joinT [] l
  | [] => rfl
  | x :: l => by rw [tailT, joinT]; rfl
theorem rowL_text {s : Bs} {m d : Nat} (hm : m + d = 64) {rest : Bs} (hr : ∀ c, rest.head? = some c → c = 124 ∨ c = 41) : ∀ (l : List Re) (k g g' : Nat) (acc : List Re), (∀ x ∈ l, Tr1 x) → s.drop k = joinT [] l ++ rest → k ≤ s.length → formL l 1 d g = some g' →
    rowL (pieceC (grpC s m) s) s k g acc = .ok (acc ++ l) (k + (joinT [] l).length) g'
  | [], k, g, g', acc, _, hd, hk, hf => by
    rw [formL] at hf
    injection hf with hf
    subst hf
    rw [rowL_end (stops_yes hd hr)]
    simp [joinT]
  | x :: l, k, g, g', acc, hl, hd, hk, hf => by
    rw [formL] at hf
    cases hx : form x 1 d g with
    | none => rw [hx] at hf; cases hf
    | some g1 =>
      rw [hx] at hf
      dsimp only at hf
      rw [joinT, tail_nil, List.append_assoc] at hd
      rw [joinT, tail_nil]
      have hh := head_piece hx
      have hp := hl x (by simp) s m d k g g1 _ hm hd hx (by
        intro c hc
        cases l with
        | nil =>
          rcases hr c hc with rfl | rfl <;> decide
        | cons y l =>
          rw [formL] at hf
          cases hy : form y 1 d g1 with
          | none => rw [hy] at hf; cases hf
          | some g2 =>
            obtain ⟨c', u, e, h1, _⟩ := head_piece hy
            rw [joinT, e] at hc
            injection hc with hc
            subst hc
            exact h1)
      have hd2 := drop_past hd
      have hle : k + (textE x).length ≤ s.length := by
        have := congrArg List.length hd
        simp only [List.length_drop, List.length_append] at this
        omega
      have hpos : 0 < (textE x).length := by obtain ⟨c, u, e, _⟩ := hh; rw [e]; simp
      rw [rowL_ok (stops_no hh hd) hp ⟨by omega, hle⟩, rowL_text hm hr l _ _ g' _ (fun y hy => hl y (by simp [hy])) hd2 hle hf]
      simp [Nat.add_assoc]
theorem at2_of1 {r : Re} (h1 : Tr1 r) (hl : lev r.kind ≤ 1) : Tr2 r := by
  intro s m d k g g' rest hm hd hk hf hr
  have e : textE r = joinT [] [r] := (join_one [] r).symm
  have := rowL_text (s := s) hm hr [r] k g g' [] (by simpa using h1) (by rw [← e]; exact hd) hk (by rw [formL_one]; exact form_lv hf hl)
  unfold rowOf
  rw [this, ← e]
  rfl
theorem at2_zero {S : S4} {ks : List Re} {lo hi n : Int} : Tr2 (.mk 0 S ks lo hi n) := by
  intro s m d k g g' rest hm hd hk hf hr
  obtain ⟨_, h2, _, h4⟩ := form_is hf
  obtain ⟨t1, t2, _, t4, _, _, t7⟩ := told_is h2
  obtain rfl := t7 (by decide) (by decide) (by decide) (by decide)
  have hS : S = none4 := by rcases t1 with t1 | t1; · exact absurd t1 (by decide)
                            · exact t1
  have hn : n = 0 := by rcases t2 with t2 | t2; · exact absurd t2 (by decide)
                        · exact t2
  obtain ⟨rfl, rfl⟩ := t4 (by decide)
  subst hS hn
  have h4 := h4 (by decide)
  rw [formL] at h4
  injection h4 with h4
  subst h4
  have e : textE (.mk 0 none4 [] 0 0 0) = [] := by simp [textE, joinT]
  rw [e] at hd ⊢
  unfold rowOf
  rw [rowL_end (stops_yes hd hr)]
  rfl
theorem at2_four {S : S4} {ks : List Re} {lo hi n : Int} (h1 : ∀ x ∈ ks, Tr1 x) : Tr2 (.mk 4 S ks lo hi n) := by
  intro s m d k g g' rest hm hd hk hf hr
  obtain ⟨_, h2, _, h4⟩ := form_is hf
  obtain ⟨t1, t2, _, t4, _, t6, _⟩ := told_is h2
  have hS : S = none4 := by rcases t1 with t1 | t1; · exact absurd t1 (by decide)
                            · exact t1
  have hn : n = 0 := by rcases t2 with t2 | t2; · exact absurd t2 (by decide)
                        · exact t2
  obtain ⟨rfl, rfl⟩ := t4 (by decide)
  have t6 := t6 (.inl rfl)
  subst hS hn
  have h4 := h4 (by decide)
  have e : textE (.mk 4 none4 ks 0 0 0) = joinT [] ks := by simp [textE]
  rw [e] at hd ⊢
  have := rowL_text (s := s) hm hr ks k g g' [] h1 hd hk h4
  unfold rowOf
  rw [this]
  dsimp only
  rw [List.nil_append]
  match ks, t6 with
  | a :: b :: l, _ => rfl
theorem altL_text {s : Bs} {m d : Nat} (hm : m + d = 64) {rest : Bs} (hr : ∀ c, rest.head? = some c → c = 41) : ∀ (l : List Re) (x : Re) (k g g' : Nat) (acc : List Re), (∀ y ∈ x :: l, Tr2 y) → s.drop k = joinT [124] (x :: l) ++ rest → k ≤ s.length → formL (x :: l) 2 d g = some g' →
    altL (rowOf (pieceC (grpC s m) s) s) s k g acc = .ok (acc ++ x :: l) (k + (joinT [124] (x :: l)).length) g'
  | [], x, k, g, g', acc, hl, hd, hk, hf => by
    rw [formL_one] at hf
    rw [join_one] at hd ⊢
    have hx := hl x (by simp) s m d k g g' rest hm hd hk hf (fun c hc => .inr (hr c hc))
    have hq := get_head (drop_past hd)
    rw [altL_end hx (by rw [hq]; intro e; have := hr _ e; revert this; decide)]
  | y :: l, x, k, g, g', acc, hl, hd, hk, hf => by
    rw [formL] at hf
    cases hx : form x 2 d g with
    | none => rw [hx] at hf; cases hf
    | some g1 =>
      rw [hx] at hf
      dsimp only at hf
      rw [joinT, tailT, List.append_assoc] at hd
      rw [joinT, tailT]
      have hxr := hl x (by simp) s m d k g g1 _ hm hd hk hx (fun c hc => by injection hc with hc; exact .inl hc.symm)
      have hd2 := drop_past hd
      have hq : s[k + (textE x).length]? = some 124 := get_head hd2
      have hlt := lt_of_get hq
      have hd3 : s.drop (k + (textE x).length + 1) = joinT [124] (y :: l) ++ rest := by
        have := drop_past (x := [124]) (r := joinT [124] (y :: l) ++ rest) (by rw [hd2]; rfl)
        exact this
      rw [altL_ok hxr hq (by omega), altL_text hm hr l y _ _ g' _ (fun z hz => hl z (by simp at hz ⊢; right; exact hz)) hd3 (by omega) hf]
      rw [joinT]
      simp [Nat.add_assoc, Nat.add_comm 1]
theorem at3_of2 {r : Re} (h2 : Tr2 r) (hl : lev r.kind ≤ 2) : Tr3 r := by
  intro s m d k g g' rest hm hd hk hf hr
  have e : textE r = joinT [124] [r] := (join_one _ r).symm
  have := altL_text (s := s) hm hr [] r k g g' [] (by simpa using h2) (by rw [← e]; exact hd) hk (by rw [formL_one]; exact form_lv hf hl)
  show altOf _ s k g = _
  unfold altOf
  rw [this, ← e]
  rfl
theorem at3_five {S : S4} {ks : List Re} {lo hi n : Int} (h1 : ∀ x ∈ ks, Tr2 x) : Tr3 (.mk 5 S ks lo hi n) := by
  intro s m d k g g' rest hm hd hk hf hr
  obtain ⟨_, h2, _, h4⟩ := form_is hf
  obtain ⟨t1, t2, _, t4, _, t6, _⟩ := told_is h2
  have hS : S = none4 := by rcases t1 with t1 | t1; · exact absurd t1 (by decide)
                            · exact t1
  have hn : n = 0 := by rcases t2 with t2 | t2; · exact absurd t2 (by decide)
                        · exact t2
  obtain ⟨rfl, rfl⟩ := t4 (by decide)
  have t6 := t6 (.inr rfl)
  subst hS hn
  have h4 := h4 (by decide)
  have e : textE (.mk 5 none4 ks 0 0 0) = joinT [124] ks := by simp [textE]
  rw [e] at hd ⊢
  match ks, t6 with
  | a :: b :: l, _ =>
    have := altL_text (s := s) hm hr (b :: l) a k g g' [] h1 hd hk h4
    show altOf _ s k g = _
    unfold altOf
    rw [this]
    rfl
theorem at0_seven {S : S4} {x : Re} {lo hi n : Int} (h3 : Tr3 x) : Tr0 (.mk 7 S [x] lo hi n) := by
  intro s m d k g g' rest hm hd hf
  obtain ⟨_, h2, h3', _⟩ := form_is hf
  obtain ⟨hn, hd64, hfl⟩ := h3' rfl
  obtain ⟨t1, _, _, t4, _, _, _⟩ := told_is h2
  have hS : S = none4 := by rcases t1 with t1 | t1; · exact absurd t1 (by decide)
                            · exact t1
  obtain ⟨rfl, rfl⟩ := t4 (by decide)
  subst hS hn
  rw [formL_one] at hfl
  have e : textE (.mk 7 none4 [x] 0 0 (num (g + 1))) = 40 :: (textE x ++ [41]) := by simp [textE, joinT, tailT]
  rw [e] at hd ⊢
  obtain ⟨m, rfl⟩ : ∃ m', m = m' + 1 := ⟨m - 1, by omega⟩
  have h40 := get_drop hd
  have hlt := lt_of_get h40
  have hd2 : s.drop (k + 1) = textE x ++ (41 :: rest) := by
    have := drop_past (x := [40]) (r := textE x ++ (41 :: rest)) (s := s) (k := k) (by rw [hd]; simp)
    exact this
  have hx := h3 s m (d + 1) (k + 1) (g + 1) g' _ (by omega) hd2 (by omega) hfl (fun c hc => by injection hc with hc; exact hc.symm)
  have hq : s[k + 1 + (textE x).length]? = some 41 := get_head (drop_past hd2)
  unfold atomR
  rw [h40]
  show grpC s (m + 1) k g = _
  show grpM _ s (m + 1) k g = _
  rw [grpM_succ]
  unfold grpR
  rw [show exM (fun grp => pieceC grp s) s m (k + 1) (g + 1) = _ from hx]
  dsimp only
  rw [if_pos hq]
  simp [rGrp]; omega
theorem at_all (r : Re) : Tr0 r ∧ Tr1 r ∧ Tr2 r ∧ Tr3 r := by
  refine Re.ind (P := fun r => Tr0 r ∧ Tr1 r ∧ Tr2 r ∧ Tr3 r) ?_ r
  intro k S ks lo hi n ih
  have a0 : Tr0 (.mk k S ks lo hi n) := by
    intro s m d kk g g' rest hm hd hf
    obtain ⟨h1, h2, _, h4⟩ := form_is hf
    obtain ⟨t1, t2, _, t4, t5, _, t7⟩ := told_is h2
    rcases lev0 h1 with rfl | rfl | rfl | rfl
    · obtain rfl := t7 (by decide) (by decide) (by decide) (by decide)
      have hn : n = 0 := by rcases t2 with t2 | t2; · exact absurd t2 (by decide)
                            · exact t2
      obtain ⟨rfl, rfl⟩ := t4 (by decide)
      subst hn
      have h4 := h4 (by decide)
      rw [formL] at h4
      injection h4 with h4
      subst h4
      have e : textE (.mk 1 S [] 0 0 0) = setText S := by simp [textE]
      rw [e] at hd ⊢
      exact set_text g hd
    · obtain rfl := t7 (by decide) (by decide) (by decide) (by decide)
      have hS : S = none4 := by rcases t1 with t1 | t1; · exact absurd t1 (by decide)
                                · exact t1
      have hn : n = 0 := by rcases t2 with t2 | t2; · exact absurd t2 (by decide)
                            · exact t2
      obtain ⟨rfl, rfl⟩ := t4 (by decide)
      subst hS hn
      have h4 := h4 (by decide)
      rw [formL] at h4
      injection h4 with h4
      subst h4
      have e : textE (.mk 2 none4 [] 0 0 0) = [94] := by simp [textE]
      rw [e] at hd ⊢
      unfold atomR
      rw [get_drop hd]; rfl
    · obtain rfl := t7 (by decide) (by decide) (by decide) (by decide)
      have hS : S = none4 := by rcases t1 with t1 | t1; · exact absurd t1 (by decide)
                                · exact t1
      have hn : n = 0 := by rcases t2 with t2 | t2; · exact absurd t2 (by decide)
                            · exact t2
      obtain ⟨rfl, rfl⟩ := t4 (by decide)
      subst hS hn
      have h4 := h4 (by decide)
      rw [formL] at h4
      injection h4 with h4
      subst h4
      have e : textE (.mk 3 none4 [] 0 0 0) = [36] := by simp [textE]
      rw [e] at hd ⊢
      unfold atomR
      rw [get_drop hd]; rfl
    · obtain ⟨x, rfl⟩ := t5 rfl
      exact at0_seven (ih x (by simp)).2.2.2 s m d kk g g' rest hm hd hf
  have a1 : Tr1 (.mk k S ks lo hi n) := by
    intro s m d kk g g' rest hm hd hf
    obtain ⟨h1, h2, _⟩ := form_is hf
    rcases lev1 h1 with h0 | rfl
    · exact at1_of0 a0 h0 s m d kk g g' rest hm hd hf
    · obtain ⟨⟨x, rfl, _⟩, _⟩ := (told_is h2).2.2.1 rfl
      exact at1_six (ih x (by simp)).1 s m d kk g g' rest hm hd hf
  have a2 : Tr2 (.mk k S ks lo hi n) := by
    intro s m d kk g g' rest hm hd hk hf
    obtain ⟨h1, h2, _⟩ := form_is hf
    rcases lev2 h1 with h0 | rfl | rfl
    · exact at2_of1 a1 h0 s m d kk g g' rest hm hd hk hf
    · exact at2_zero s m d kk g g' rest hm hd hk hf
    · exact at2_four (fun x hx => (ih x hx).2.1) s m d kk g g' rest hm hd hk hf
  refine ⟨a0, a1, a2, ?_⟩
  intro s m d kk g g' rest hm hd hk hf
  obtain ⟨h1, h2, _⟩ := form_is hf
  rcases lev3 h1 with h0 | rfl
  · exact at3_of2 a2 h0 s m d kk g g' rest hm hd hk hf
  · exact at3_five (fun x hx => (ih x hx).2.2.1) s m d kk g g' rest hm hd hk hf
/-- What is printed is read again. -/
theorem parse_text_form {r : Re} {g : Nat} (h : form r 3 0 0 = some g) (hl : (textE r).length ≤ 200) : parseE (textE r) = (some r, 0, 0) := by
  have := (at_all r).2.2.2 (textE r) 64 0 0 0 g [] (by omega) (by simp) (by omega) h (fun c hc => by cases hc)
  unfold parseE
  rw [if_neg (by omega), this]
  dsimp only
  rw [if_neg (by omega)]
end
/- What is read may be, but for its length; both ways of reading are one. -/
section
open Go Go.RowKit

theorem formL_snoc {lv d : Nat} : ∀ {l : List Re} {x : Re} {g g1 g2 : Nat}, formL l lv d g = some g1 → form x lv d g1 = some g2 → formL (l ++ [x]) lv d g = some g2
  | [], x, g, g1, g2, h, hx => by
    rw [formL] at h
    injection h with h
    subst h
    rw [List.nil_append, formL_one]; exact hx
  | y :: l, x, g, g1, g2, h, hx => by
    rw [formL] at h
    rw [List.cons_append, formL]
    cases hy : form y lv d g with
    | none => rw [hy] at h; cases h
    | some g3 =>
      rw [hy] at h
      exact formL_snoc h hx
theorem sizeL_app (x : Re) : ∀ l : List Re, sizeL (l ++ [x]) = sizeL l + sizeE x
  | [] => by simp [sizeL]
  | y :: l => by rw [List.cons_append, sizeL, sizeL_app x l, sizeL]; omega
def MadeA (s : Bs) (rd : Rd) (lv d : Nat) : Prop := ∀ k g x q g', k < s.length → rd k g = .ok x q g' → form x lv d g = some g' ∧ sizeE x + 2 * k ≤ 2 * q
def MadeE (s : Bs) (rd : Rd) (lv d : Nat) : Prop := ∀ k g x q g', k ≤ s.length → rd k g = .ok x q g' → form x lv d g = some g' ∧ sizeE x + 2 * k ≤ 2 * q + 1
theorem set_form (S : S4) (lv d g : Nat) : form (rSet S) lv d g = some g := by simp [rSet, form, told, lev, formL]
theorem set_size (S : S4) : sizeE (rSet S) = 1 := by simp [rSet, sizeE, sizeL]
theorem atom_made {s : Bs} {grp : Rd} {d : Nat} (hg : MadeA s grp 0 d) : MadeA s (atomR grp s) 0 d := by
  intro k g x q g' hk h
  unfold atomR at h
  split at h
  · injection h with h1 h2 h3
    subst h1 h2 h3
    exact ⟨by simp [rBegin, form, told, lev, formL], by simp [rBegin, sizeE, sizeL]; omega⟩
  · split at h
    · injection h with h1 h2 h3
      subst h1 h2 h3
      exact ⟨by simp [rEnd, form, told, lev, formL], by simp [rEnd, sizeE, sizeL]; omega⟩
    · split at h
      · injection h with h1 h2 h3
        subst h1 h2 h3
        exact ⟨set_form _ _ _ _, by rw [set_size]; omega⟩
      · split at h
        · exact hg k g x q g' hk h
        · split at h
          · have hb := cls_bd (s := s) (k := k + 1) (by omega)
            rcases hc : cls s (k + 1) with p | ⟨S, p⟩
            · rw [hc] at h; cases h
            · rw [hc] at h hb
              injection h with h1 h2 h3
              subst h1 h2 h3
              dsimp only at hb
              exact ⟨set_form _ _ _ _, by rw [set_size]; omega⟩
          · rcases hc : rb sgA s k with p | ⟨c, p⟩
            · rw [hc] at h; cases h
            · have hb := rb_ok (by omega) hc
              rw [hc] at h
              injection h with h1 h2 h3
              subst h1 h2 h3
              exact ⟨set_form _ _ _ _, by rw [set_size]; omega⟩
theorem rep_form {x : Re} {lo hi : Int} {d g g' : Nat} (h : form x 0 d g = some g') (hr : rep x = true) (hb : bound lo hi = true) : form (rRep x lo hi) 1 d g = some g' := by
  unfold rRep
  rw [form, if_pos ⟨by simp [lev], by simp [told, hr, hb]⟩, if_neg (by decide)]
  rw [show levK 6 = 0 from rfl, formL_one]
  exact h
theorem rep_size (x : Re) (lo hi : Int) : sizeE (rRep x lo hi) = 1 + sizeE x := by simp [rRep, sizeE, sizeL]
theorem bnds_bound {s : Bs} {k p : Nat} {b : Int × Int} (h : bnds s k = .ok b p) : bound b.1 b.2 = true := by
  unfold bnds at h
  rcases h1 : numb s k 0 with _ | lo
  · rw [h1] at h; cases h
  · rw [h1] at h
    obtain ⟨_, l0, l8, _⟩ := numb_lt h1
    dsimp only at h
    split at h
    · split at h
      · injection h with h _
        subst h
        simp [bound]; omega
      · rcases h2 : numb s (k + 2) lo with _ | hi
        · rw [h2] at h; cases h
        · rw [h2] at h
          obtain ⟨_, m0, m8, _⟩ := numb_lt h2
          dsimp only at h
          unfold closeB at h
          split at h
          · injection h with h _
            subst h
            simp [bound]; omega
          · cases h
    · unfold closeB at h
      split at h
      · injection h with h _
        subst h
        simp [bound]; omega
      · cases h
theorem piece_made {s : Bs} {grp : Rd} {d : Nat} (hgd : Good s grp) (hg : MadeA s grp 0 d) : MadeA s (pieceC grp s) 1 d := by
  intro k g x q g' hk h
  have hgood := (atomR_good hgd k g hk).2
  unfold pieceC at h
  rcases ha : atomR grp s k g with ⟨p, e⟩ | ⟨y, p, g1⟩
  · rw [ha] at h; cases h
  · obtain ⟨hf, hs⟩ := atom_made hg k g y p g1 hk ha
    have hp := hgood y p g1 ha
    rw [ha] at h
    dsimp only at h
    have hf1 : form y 1 d g = some g1 := form_lv hf (by obtain ⟨kk, _, _, _, _, _⟩ := y; have := (form_is hf).1; show lev kk ≤ 1; omega)
    split at h
    · rename_i hr
      unfold tailP at h
      split at h
      · injection h with h1 h2 h3
        subst h1 h2 h3
        exact ⟨rep_form hf hr (by decide), by rw [rep_size]; omega⟩
      · split at h
        · injection h with h1 h2 h3
          subst h1 h2 h3
          exact ⟨rep_form hf hr (by decide), by rw [rep_size]; omega⟩
        · split at h
          · injection h with h1 h2 h3
            subst h1 h2 h3
            exact ⟨rep_form hf hr (by decide), by rw [rep_size]; omega⟩
          · split at h
            · rename_i h123
              have hlt := lt_of_get h123
              have hb := bnds_bd (s := s) (k := p + 1) (by omega)
              rcases hc : bnds s (p + 1) with p2 | ⟨b, p2⟩
              · rw [hc] at h; cases h
              · have hbb := bnds_bound hc
                rw [hc] at h hb
                injection h with h1 h2 h3
                subst h1 h2 h3
                dsimp only at hb
                exact ⟨rep_form hf hr hbb, by rw [rep_size]; omega⟩
            · injection h with h1 h2 h3
              subst h1 h2 h3
              exact ⟨hf1, hs⟩
    · injection h with h1 h2 h3
      subst h1 h2 h3
      exact ⟨hf1, hs⟩
theorem rowL_made {s : Bs} {pc : Rd} {d : Nat} (hgd : Good s pc) (hp : MadeA s pc 1 d) {k0 g0 : Nat} : ∀ (n k g : Nat) (acc : List Re), s.length - k < n → k ≤ s.length → formL acc 1 d g0 = some g → sizeL acc + 2 * k0 ≤ 2 * k → ∀ l q g', rowL pc s k g acc = .ok l q g' → formL l 1 d g0 = some g' ∧ sizeL l + 2 * k0 ≤ 2 * q
  | 0, k, g, acc, h, _, _, _ => by omega
  | n + 1, k, g, acc, h, hk, hf, hs => by
    intro l q g' hr
    cases hst : stops s k with
    | true =>
      rw [rowL_end hst] at hr
      injection hr with h1 h2 h3
      subst h1 h2 h3
      exact ⟨hf, hs⟩
    | false =>
      have hlt := not_stops hst
      rcases ha : pc k g with ⟨p, e⟩ | ⟨y, p, g1⟩
      · rw [rowL_bad hst ha] at hr; cases hr
      · have hb := (hgd k g hlt).2 y p g1 ha
        obtain ⟨h1, h2⟩ := hp k g y p g1 hlt ha
        rw [rowL_ok hst ha hb] at hr
        exact rowL_made hgd hp n p g1 (acc ++ [y]) (by omega) hb.2 (formL_snoc hf h1) (by rw [sizeL_app]; omega) l q g' hr
theorem rowF_form {l : List Re} {d g g' : Nat} (h : formL l 1 d g = some g') : form (mkRow l) 2 d g = some g' := by
  match l, h with
  | [], h =>
    rw [formL] at h
    injection h with h
    subst h
    simp [mkRow, form, told, lev, formL]
  | [r], h =>
    rw [formL_one] at h
    obtain ⟨kk, S, ks, lo, hi, n⟩ := r
    have := (form_is h).1
    exact form_lv h (by show lev kk ≤ 2; omega)
  | a :: b :: l, h =>
    show form (.mk 4 none4 (a :: b :: l) 0 0 0) 2 d g = some g'
    rw [form, if_pos ⟨by simp [lev], by simp [told]⟩, if_neg (by decide)]
    exact h
theorem row_size (l : List Re) : sizeE (mkRow l) ≤ sizeL l + 1 := by
  match l with
  | [] => simp [mkRow, sizeE, sizeL]
  | [r] => simp [mkRow, sizeL]
  | a :: b :: l => show sizeE (.mk 4 none4 (a :: b :: l) 0 0 0) ≤ _; rw [sizeE]; omega
theorem rowOf_made {s : Bs} {pc : Rd} {d : Nat} (hgd : Good s pc) (hp : MadeA s pc 1 d) : MadeE s (rowOf pc s) 2 d := by
  intro k g x q g' hk h
  unfold rowOf at h
  rcases ha : rowL pc s k g [] with ⟨p, e⟩ | ⟨l, p, g1⟩
  · rw [ha] at h; cases h
  · rw [ha] at h
    injection h with h1 h2 h3
    subst h1 h2 h3
    obtain ⟨hf, hs⟩ := rowL_made hgd hp (k0 := k) (g0 := g) _ k g [] (Nat.lt_succ_self _) hk (by rw [formL]) (by simp [sizeL]) _ _ _ ha
    have := row_size l
    exact ⟨rowF_form hf, by omega⟩
theorem altL_made {s : Bs} {rw_ : Rd} {d : Nat} (hgd : GoodE s rw_) (hp : MadeE s rw_ 2 d) {k0 g0 : Nat} : ∀ (n k g : Nat) (acc : List Re), s.length - k < n → k ≤ s.length → formL acc 2 d g0 = some g → sizeL acc + 2 * k0 + (if acc = [] then 0 else 1) ≤ 2 * k → ∀ l q g', altL rw_ s k g acc = .ok l q g' → formL l 2 d g0 = some g' ∧ l ≠ [] ∧ sizeL l + 2 * k0 + (if l.length = 1 then 0 else 1) ≤ 2 * q + 1
  | 0, k, g, acc, h, _, _, _ => by omega
  | n + 1, k, g, acc, h, hk, hf, hs => by
    intro l q g' hr
    rcases ha : rw_ k g with ⟨p, e⟩ | ⟨y, p, g1⟩
    · rw [altL_bad ha] at hr; cases hr
    · have hb := (hgd k g hk).2 y p g1 ha
      obtain ⟨h1, h2⟩ := hp k g y p g1 hk ha
      by_cases hc : s[p]? = some 124
      · have hlt := lt_of_get hc
        rw [altL_ok ha hc hb.1] at hr
        exact altL_made hgd hp n (p + 1) g1 (acc ++ [y]) (by omega) (by omega) (formL_snoc hf h1) (by rw [sizeL_app, if_neg (by simp)]; split at hs <;> omega) l q g' hr
      · rw [altL_end ha hc] at hr
        injection hr with h3 h4 h5
        subst h3 h4 h5
        refine ⟨formL_snoc hf h1, by simp, ?_⟩
        rw [sizeL_app]
        by_cases h0 : acc = []
        · subst h0
          rw [if_pos rfl] at hs
          rw [if_pos (by rfl)]
          omega
        · have : (acc ++ [y]).length ≠ 1 := by
            rw [List.length_append]
            have := List.length_pos_iff.2 h0
            simp; omega
          rw [if_neg h0] at hs
          rw [if_neg this]
          omega
theorem altOf_made {s : Bs} {rw_ : Rd} {d : Nat} (hgd : GoodE s rw_) (hp : MadeE s rw_ 2 d) : MadeE s (altOf rw_ s) 3 d := by
  intro k g x q g' hk h
  unfold altOf at h
  rcases ha : altL rw_ s k g [] with ⟨p, e⟩ | ⟨l, p, g1⟩
  · rw [ha] at h; cases h
  · rw [ha] at h
    injection h with h1 h2 h3
    subst h1 h2 h3
    obtain ⟨hf, hn, hs⟩ := altL_made hgd hp (k0 := k) (g0 := g) _ k g [] (Nat.lt_succ_self _) hk (by rw [formL]) (by simp [sizeL]) _ _ _ ha
    match l, hn, hf, hs with
    | [r], _, hf, hs =>
      rw [formL_one] at hf
      rw [if_pos (show [r].length = 1 from rfl)] at hs
      obtain ⟨kk, S, ks, lo, hi, n⟩ := r
      have := (form_is hf).1
      refine ⟨form_lv hf (by show lev kk ≤ 3; omega), ?_⟩
      simp only [sizeL] at hs
      show sizeE (.mk kk S ks lo hi n) + 2 * k ≤ _
      omega
    | a :: b :: l, _, hf, hs =>
      rw [if_neg (by simp)] at hs
      refine ⟨?_, ?_⟩
      · show form (.mk 5 none4 (a :: b :: l) 0 0 0) 3 d g = some _
        rw [form, if_pos ⟨by simp [lev], by simp [told]⟩, if_neg (by decide)]
        exact hf
      · show sizeE (.mk 5 none4 (a :: b :: l) 0 0 0) + 2 * k ≤ _
        rw [sizeE]; omega
theorem grp_form {x : Re} {d g g' : Nat} (hd : d < 64) (h : form x 3 (d + 1) (g + 1) = some g') : form (rGrp x (num (g + 1))) 0 d g = some g' := by
  unfold rGrp
  rw [form, if_pos ⟨by simp [lev], by simp [told]⟩, if_pos rfl, if_pos ⟨rfl, hd⟩, formL_one]
  exact h
theorem grpM_made {s : Bs} : ∀ m d, m + d = 64 → MadeA s (grpC s m) 0 d
  | 0, d, _ => by
    intro k g x q g' hk h
    cases h
  | m + 1, d, hm => by
    intro k g x q g' hk h
    have hgd := grpM_good (s := s) (pc := fun grp => pieceC grp s) (fun _ h => pieceC_good h) m
    have he := altOf_made (rowOf_good (pieceC_good hgd)) (rowOf_made (pieceC_good hgd) (piece_made hgd (grpM_made m (d + 1) (by omega))))
    unfold grpC at h
    rw [grpM_succ] at h
    unfold grpR at h
    rcases ha : exM (fun grp => pieceC grp s) s m (k + 1) (g + 1) with ⟨p, e⟩ | ⟨y, p, g1⟩
    · rw [ha] at h; cases h
    · obtain ⟨hf, hs⟩ := he (k + 1) (g + 1) y p g1 (by omega) ha
      rw [ha] at h
      dsimp only at h
      split at h
      · injection h with h1 h2 h3
        subst h1 h2 h3
        refine ⟨grp_form (by omega) hf, ?_⟩
        have : sizeE (rGrp y (num (g + 1))) = 1 + sizeE y := by simp [rGrp, sizeE, sizeL]
        omega
      · cases h
theorem exC_made (s : Bs) (m d : Nat) (hm : m + d = 64) : MadeE s (exC s m) 3 d :=
  have hgd := grpM_good (s := s) (pc := fun grp => pieceC grp s) (fun _ h => pieceC_good h) m
  altOf_made (rowOf_good (pieceC_good hgd)) (rowOf_made (pieceC_good hgd) (piece_made hgd (grpM_made m d hm)))
/-- What is parsed may be, but for its length; and isn't large. -/
theorem parse_made {s : Bs} {x : Re} {q : Nat} {e : Int} (h : parseE s = (some x, q, e)) : s.length ≤ 200 ∧ (∃ g, form x 3 0 0 = some g) ∧ sizeE x ≤ 401 := by
  unfold parseE at h
  split at h
  · cases h
  · rename_i hl
    rcases ha : exC s 64 0 0 with ⟨p, e⟩ | ⟨y, p, g1⟩
    · rw [ha] at h; cases h
    · obtain ⟨hf, hs⟩ := exC_made s 64 0 (by omega) 0 0 y p g1 (by omega) ha
      have hb := ((exC_good s 64) 0 0 (by omega)).2 y p g1 ha
      rw [ha] at h
      dsimp only at h
      split at h
      · cases h
      · injection h with h1 _
        injection h1 with h1
        subst h1
        exact ⟨by omega, ⟨g1, hf⟩, by omega⟩
/- Both ways of reading are one. -/
theorem atom_sign {grp : Rd} {s : Bs} {q : Nat} (g : Nat) (h : signAt s q) : atomR grp s q g = .bad q 1 := by
  obtain ⟨c, hc, hs⟩ := h
  have hne : ∀ d : UInt8, d ∈ ([94, 36, 46, 40, 91] : Bs) → s[q]? ≠ some d := by
    intro d hd e
    rw [hc] at e
    injection e with e
    subst e
    revert hs hd
    simp [sgR]
    rintro (rfl | rfl | rfl | rfl) <;> simp
  unfold atomR
  rw [if_neg (hne 94 (by decide)), if_neg (hne 36 (by decide)), if_neg (hne 46 (by decide)), if_neg (hne 40 (by decide)), if_neg (hne 91 (by decide)), rb_get, hc]
  have h92 : c ≠ 92 := by rintro rfl; revert hs; decide
  have hA : c ∈ sgA := by revert hs; simp [sgR, sgA]; rintro (rfl | rfl | rfl | rfl) <;> simp
  dsimp only
  rw [if_neg h92, if_pos hA]
theorem sign_not_stops {s : Bs} {q : Nat} (h : signAt s q) : stops s q = false := by
  obtain ⟨c, hc, hs⟩ := h
  unfold stops
  rw [hc]
  dsimp only
  revert hs
  simp [sgR]
  rintro (rfl | rfl | rfl | rfl) <;> decide
theorem rowL_both {s : Bs} {g1 g2 : Rd} (hgd : Good s g1) (he : ∀ k g, k < s.length → g1 k g = g2 k g) : ∀ (n k g : Nat) (acc : List Re), s.length - k < n → k ≤ s.length → rowL (pieceC g1 s) s k g acc = rowL (pieceR g2 s) s k g acc
  | 0, k, g, acc, h, _ => by omega
  | n + 1, k, g, acc, h, hk => by
    cases hst : stops s k with
    | true => rw [rowL_end hst, rowL_end hst]
    | false =>
      have hlt := not_stops hst
      have hat : atomR g1 s k g = atomR g2 s k g := by
        unfold atomR
        rw [he k g hlt]
      have hgood := atomR_good hgd k g hlt
      have hp1 : pieceC g1 s k g = match atomR g1 s k g with
        | .bad q e => .bad q e
        | .ok x q g' => if rep x = true then tailP s x q g' else .ok x q g' := rfl
      have hp2 : pieceR g2 s k g = match atomR g1 s k g with
        | .bad q e => .bad q e
        | .ok x q g' => if rep x = true then tailP s x q g' else @ite _ (signAt s q) (Classical.propDecidable _) (.bad q 1) (.ok x q g') := by rw [hat]; rfl
      rcases ha : atomR g1 s k g with ⟨p, e⟩ | ⟨y, p, gg⟩
      · rw [ha] at hp1 hp2
        rw [rowL_bad hst hp1, rowL_bad hst hp2]
      · have hb := hgood.2 y p gg ha
        rw [ha] at hp1 hp2
        dsimp only at hp1 hp2
        by_cases hr : rep y = true
        · rw [if_pos hr] at hp1 hp2
          have ht := tailP_good (s := s) (x := y) (g := gg) hb.1 hb.2
          rcases hta : tailP s y p gg with ⟨p2, e2⟩ | ⟨y2, p2, gg2⟩
          · rw [hta] at hp1 hp2
            rw [rowL_bad hst hp1, rowL_bad hst hp2]
          · rw [hta] at hp1 hp2
            have hb2 := ht.2 y2 p2 gg2 hta
            rw [rowL_ok hst hp1 hb2, rowL_ok hst hp2 hb2]
            exact rowL_both hgd he n p2 gg2 _ (by omega) hb2.2
        · rw [if_neg hr] at hp1 hp2
          by_cases hs : signAt s p
          · rw [if_pos hs] at hp2
            rw [rowL_bad hst hp2, rowL_ok hst hp1 hb, rowL_bad (sign_not_stops hs) (by unfold pieceC; rw [atom_sign gg hs])]
          · rw [if_neg hs] at hp2
            rw [rowL_ok hst hp1 hb, rowL_ok hst hp2 hb]
            exact rowL_both hgd he n p gg _ (by omega) hb.2
theorem rowOf_both {s : Bs} {g1 g2 : Rd} (hgd : Good s g1) (he : ∀ k g, k < s.length → g1 k g = g2 k g) (k g : Nat) (hk : k ≤ s.length) : rowOf (pieceC g1 s) s k g = rowOf (pieceR g2 s) s k g := by
  unfold rowOf
  rw [rowL_both hgd he _ k g [] (Nat.lt_succ_self _) hk]
theorem altL_both {s : Bs} {r1 r2 : Rd} (hgd : GoodE s r1) (he : ∀ k g, k ≤ s.length → r1 k g = r2 k g) : ∀ (n k g : Nat) (acc : List Re), s.length - k < n → k ≤ s.length → altL r1 s k g acc = altL r2 s k g acc
  | 0, k, g, acc, h, _ => by omega
  | n + 1, k, g, acc, h, hk => by
    have e := he k g hk
    rcases ha : r1 k g with ⟨p, er⟩ | ⟨y, p, gg⟩
    · rw [altL_bad ha, altL_bad (e.symm.trans ha)]
    · have hb := (hgd k g hk).2 y p gg ha
      by_cases hc : s[p]? = some 124
      · have hlt := lt_of_get hc
        rw [altL_ok ha hc hb.1, altL_ok (e.symm.trans ha) hc hb.1]
        exact altL_both hgd he n (p + 1) gg _ (by omega) (by omega)
      · rw [altL_end ha hc, altL_end (e.symm.trans ha) hc]
theorem altOf_both {s : Bs} {r1 r2 : Rd} (hgd : GoodE s r1) (he : ∀ k g, k ≤ s.length → r1 k g = r2 k g) (k g : Nat) (hk : k ≤ s.length) : altOf r1 s k g = altOf r2 s k g := by
  unfold altOf
  rw [altL_both hgd he _ k g [] (Nat.lt_succ_self _) hk]
noncomputable abbrev grpRR (s : Bs) (m : Nat) : Rd := grpM (fun grp => pieceR grp s) s m
theorem grp_both (s : Bs) : ∀ m k g, k < s.length → grpC s m k g = grpRR s m k g
  | 0, k, g, _ => rfl
  | m + 1, k, g, hk => by
    have hgd := grpM_good (s := s) (pc := fun grp => pieceC grp s) (fun _ h => pieceC_good h) m
    have e : exM (fun grp => pieceC grp s) s m (k + 1) (g + 1) = exM (fun grp => pieceR grp s) s m (k + 1) (g + 1) :=
      altOf_both (rowOf_good (pieceC_good hgd)) (fun k g hk => rowOf_both hgd (grp_both s m) k g hk) (k + 1) (g + 1) (by omega)
    show grpM _ s (m + 1) k g = grpM _ s (m + 1) k g
    rw [grpM_succ, grpM_succ]
    unfold grpR
    rw [e]
theorem ex_both (s : Bs) (m k g : Nat) (hk : k ≤ s.length) : exC s m k g = exR s m k g :=
  have hgd := grpM_good (s := s) (pc := fun grp => pieceC grp s) (fun _ h => pieceC_good h) m
  altOf_both (rowOf_good (pieceC_good hgd)) (fun k g hk => rowOf_both hgd (grp_both s m) k g hk) k g hk
end
end Go.Proofs.YtccheljfbjllhaaDoor
