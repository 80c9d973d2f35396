/- Plain facts on lists of bytes: pieces of a pattern, their text, and how it is read. -/
import Derived.WalkKit
namespace Go.Proofs.YtccheljfbjllhaaDoor
open Go Go.RowKit

abbrev Bs := List UInt8
abbrev Sp := UInt8 × UInt8
structure Gl where
  kind : Int
  byte : UInt8
  spans : List Sp
theorem all256 (P : UInt8 → Prop) (h : ∀ n, n < 256 → P (UInt8.ofNat n)) (c : UInt8) : P c := by
  have := h c.toNat (UInt8.toNat_lt c)
  rwa [UInt8.ofNat_toNat] at this
/- What may be. -/
def okS (s : Sp) : Bool := decide ((s.1.toNat : Int) ≤ (s.2.toNat : Int))
def okG (g : Gl) : Bool :=
  if g.kind = 0 then g.spans.isEmpty
  else if g.kind = 1 ∨ g.kind = 2 then decide (g.byte = 0) && g.spans.isEmpty
  else if g.kind = 3 then decide (g.byte = 0) && (g.spans.all okS && !g.spans.isEmpty) else false
def may (l : List Gl) : Bool := l.all okG
/- The texts. -/
def sgI : Bs := [93, 45, 92]
def sgP : Bs := [42, 63, 91, 92]
def esc (sg : Bs) (c : UInt8) : Bs := if c ∈ sg then [92, c] else [c]
def itemT (s : Sp) : Bs := esc sgI s.1 ++ if (s.1.toNat : Int) < (s.2.toNat : Int) then 45 :: esc sgI s.2 else []
def textG (g : Gl) : Bs := if g.kind = 2 then [42] else if g.kind = 1 then [63] else if g.kind = 0 then esc sgP g.byte else 91 :: (g.spans.flatMap itemT ++ [93])
def text (l : List Gl) : Bs := l.flatMap textG
/- Reading: at a place of a whole text. -/
inductive Res (α : Type) where
  | bad (q : Nat) | ok (a : α) (q : Nat)
def rb (sg s : Bs) (k : Nat) : Res UInt8 :=
  match s.drop k with
  | [] => .bad k
  | c :: r => if c = 92 then (match r with
      | [] => .bad (k + 1)
      | d :: _ => .ok d (k + 2)) else if c ∈ sg then .bad k else .ok c (k + 1)
def item (s : Bs) (k : Nat) : Res Sp :=
  match rb sgI s k with
  | .bad q => .bad q
  | .ok lo q => if s[q]? = some 45 then (match rb sgI s (q + 1) with
      | .bad q2 => .bad q2
      | .ok hi q2 => if (hi.toNat : Int) < (lo.toNat : Int) then .bad (q2 - 1) else .ok (lo, hi) q2)
    else .ok (lo, lo) q
def goS (s : Bs) (k : Nat) (acc : List Sp) : Res (List Sp) :=
  if acc ≠ [] ∧ s[k]? = some 93 then .ok acc (k + 1) else match item s k with
    | .bad q => .bad q
    | .ok sp q => if k < q ∧ q ≤ s.length then goS s q (acc ++ [sp]) else .bad q
termination_by s.length - k
decreasing_by omega
def piece (s : Bs) (k : Nat) : Res Gl :=
  if s[k]? = some 42 then .ok ⟨2, 0, []⟩ (k + 1) else if s[k]? = some 63 then .ok ⟨1, 0, []⟩ (k + 1)
  else if s[k]? = some 91 then (match goS s (k + 1) [] with
    | .bad q => .bad q
    | .ok l q => .ok ⟨3, 0, l⟩ q)
  else match rb [] s k with
    | .bad q => .bad q
    | .ok b q => .ok ⟨0, b, []⟩ q
def goP (s : Bs) (k : Nat) (acc : List Gl) : Option (List Gl) × Nat :=
  if k < s.length then (match piece s k with
    | .bad q => (none, q)
    | .ok g q => if k < q ∧ q ≤ s.length then goP s q (acc ++ [g]) else (none, q))
  else (some acc, 0)
termination_by s.length - k
decreasing_by omega
/-- The pieces, the place, and 0, 1 (the form), 2 (too long). -/
def parse (s : Bs) : Option (List Gl) × Nat × Int :=
  if 200 < s.length then (none, 200, 2) else match goP s 0 [] with
    | (none, q) => (none, q, 1)
    | (some l, q) => (some l, q, 0)
/- Where reading goes on. -/
theorem rb_bd {sg s : Bs} {k : Nat} (h : k ≤ s.length) : match rb sg s k with
    | .bad q => k ≤ q ∧ q ≤ s.length
    | .ok _ q => k < q ∧ q ≤ s.length := by
  unfold rb
  have hl := List.length_drop (i := k) (l := s)
  rcases hd : s.drop k with _ | ⟨c, r⟩
  · exact ⟨Nat.le_refl _, h⟩
  · rw [hd] at hl
    simp only [List.length_cons] at hl
    dsimp only
    split
    · rename_i q heq
      split at heq
      · rcases r with _ | ⟨d, r⟩
        · injection heq with heq; subst heq; omega
        · cases heq
      · split at heq
        · injection heq with heq; subst heq; omega
        · cases heq
    · rename_i b q heq
      split at heq
      · rcases r with _ | ⟨d, r⟩
        · cases heq
        · injection heq with _ heq; subst heq; simp at hl; omega
      · split at heq
        · cases heq
        · injection heq with _ heq; subst heq; omega
theorem rb_bad {sg s : Bs} {k q : Nat} (h : k ≤ s.length) (hr : rb sg s k = .bad q) : k ≤ q ∧ q ≤ s.length := by
  have := rb_bd (sg := sg) h; rw [hr] at this; exact this
theorem rb_ok {sg s : Bs} {k q : Nat} {c : UInt8} (h : k ≤ s.length) (hr : rb sg s k = .ok c q) : k < q ∧ q ≤ s.length := by
  have := rb_bd (sg := sg) h; rw [hr] at this; exact this
theorem lt_of_get {s : Bs} {k : Nat} {c : UInt8} (h : s[k]? = some c) : k < s.length := (List.getElem?_eq_some_iff.1 h).1
theorem item_bd {s : Bs} {k : Nat} (h : k ≤ s.length) : match item s k with
    | .bad q => k ≤ q ∧ q ≤ s.length
    | .ok _ q => k < q ∧ q ≤ s.length := by
  unfold item
  rcases hr : rb sgI s k with q | ⟨lo, q⟩
  · exact rb_bad h hr
  · obtain ⟨a, b⟩ := rb_ok h hr
    dsimp only
    by_cases h45 : s[q]? = some 45
    · rw [if_pos h45]
      have hq := lt_of_get h45
      rcases hr2 : rb sgI s (q + 1) with q2 | ⟨hi, q2⟩
      · obtain ⟨c, d⟩ := rb_bad (by omega) hr2
        exact ⟨by omega, d⟩
      · obtain ⟨c, d⟩ := rb_ok (by omega) hr2
        dsimp only
        by_cases hlt : (hi.toNat : Int) < (lo.toNat : Int)
        · rw [if_pos hlt]; exact ⟨by omega, by omega⟩
        · rw [if_neg hlt]; exact ⟨by omega, d⟩
    · rw [if_neg h45]; exact ⟨a, b⟩
theorem item_bad {s : Bs} {k q : Nat} (h : k ≤ s.length) (hr : item s k = .bad q) : k ≤ q ∧ q ≤ s.length := by
  have := item_bd h; rw [hr] at this; exact this
theorem item_ok {s : Bs} {k q : Nat} {c : Sp} (h : k ≤ s.length) (hr : item s k = .ok c q) : k < q ∧ q ≤ s.length := by
  have := item_bd h; rw [hr] at this; exact this
/- One equation a kind of step. -/
theorem goS_end {s : Bs} {k : Nat} {acc : List Sp} (h : acc ≠ []) (h1 : s[k]? = some 93) : goS s k acc = .ok acc (k + 1) := by
  rw [goS, if_pos ⟨h, h1⟩]
theorem goS_bad {s : Bs} {k q : Nat} {acc : List Sp} (h : ¬ (acc ≠ [] ∧ s[k]? = some 93)) (h1 : item s k = .bad q) : goS s k acc = .bad q := by
  rw [goS, if_neg h, h1]
theorem goS_ok {s : Bs} {k q : Nat} {acc : List Sp} {sp : Sp} (h : ¬ (acc ≠ [] ∧ s[k]? = some 93)) (hk : k ≤ s.length) (h1 : item s k = .ok sp q) : goS s k acc = goS s q (acc ++ [sp]) := by
  obtain ⟨a, b⟩ := item_ok hk h1
  rw [goS, if_neg h, h1]
  exact if_pos ⟨a, b⟩
theorem goS_ind {s : Bs} (P : Nat → List Sp → Prop)
    (h1 : ∀ k acc, acc ≠ [] → s[k]? = some 93 → P k acc) (h2 : ∀ k q acc, k ≤ s.length → ¬ (acc ≠ [] ∧ s[k]? = some 93) → item s k = .bad q → P k acc)
    (h3 : ∀ k q acc sp, k ≤ s.length → ¬ (acc ≠ [] ∧ s[k]? = some 93) → item s k = .ok sp q → P q (acc ++ [sp]) → P k acc) : ∀ (n k : Nat) (acc : List Sp), s.length - k < n → k ≤ s.length → P k acc
  | 0, k, acc, h, hk => by omega
  | n + 1, k, acc, h, hk => by
    by_cases he : acc ≠ [] ∧ s[k]? = some 93
    · exact h1 k acc he.1 he.2
    · rcases hi : item s k with q | ⟨sp, q⟩
      · exact h2 k q acc hk he hi
      · obtain ⟨a, b⟩ := item_ok hk hi
        exact h3 k q acc sp hk he hi (goS_ind P h1 h2 h3 n q _ (by omega) b)
theorem goS_bd {s : Bs} {k : Nat} (acc : List Sp) (hk : k ≤ s.length) : match goS s k acc with
    | .bad q => k ≤ q ∧ q ≤ s.length
    | .ok l q => k < q ∧ q ≤ s.length ∧ l ≠ [] := by
  refine goS_ind (s := s) (fun k acc => match goS s k acc with
    | .bad q => k ≤ q ∧ q ≤ s.length
    | .ok l q => k < q ∧ q ≤ s.length ∧ l ≠ []) ?_ ?_ ?_ (s.length - k + 1) k acc (by omega) hk
  · intro k acc h h1
    have := lt_of_get h1
    rw [goS_end h h1]; exact ⟨by omega, by omega, h⟩
  · intro k q acc hk he hi
    rw [goS_bad he hi]; exact item_bad hk hi
  · intro k q acc sp hk he hi ih
    obtain ⟨a, b⟩ := item_ok hk hi
    rw [goS_ok he hk hi]
    rcases hg : goS s q (acc ++ [sp]) with q' | ⟨l, q'⟩
    · rw [hg] at ih; exact ⟨by omega, ih.2⟩
    · rw [hg] at ih; exact ⟨by omega, ih.2⟩
theorem goS_okb {s : Bs} {k q : Nat} {acc l : List Sp} (hk : k ≤ s.length) (h : goS s k acc = .ok l q) : k < q ∧ q ≤ s.length ∧ l ≠ [] := by
  have := goS_bd acc hk; rw [h] at this; exact this
theorem goS_badb {s : Bs} {k q : Nat} {acc : List Sp} (hk : k ≤ s.length) (h : goS s k acc = .bad q) : k ≤ q ∧ q ≤ s.length := by
  have := goS_bd acc hk; rw [h] at this; exact this
theorem piece_ok {s : Bs} {k q : Nat} {g : Gl} (hk : k < s.length) (h : piece s k = .ok g q) : k < q ∧ q ≤ s.length := by
  unfold piece at h
  split at h
  · injection h with _ h; subst h; omega
  · split at h
    · injection h with _ h; subst h; omega
    · split at h
      · rcases hg : goS s (k + 1) [] with q' | ⟨l, q'⟩
        · rw [hg] at h; cases h
        · rw [hg] at h
          have := goS_okb (by omega) hg
          injection h with _ h; subst h; omega
      · rcases hg : rb [] s k with q' | ⟨l, q'⟩
        · rw [hg] at h; cases h
        · rw [hg] at h
          have := rb_ok (by omega) hg
          injection h with _ h; subst h; omega
theorem piece_bad {s : Bs} {k q : Nat} (hk : k < s.length) (h : piece s k = .bad q) : k ≤ q ∧ q ≤ s.length := by
  unfold piece at h
  split at h
  · cases h
  · split at h
    · cases h
    · split at h
      · rcases hg : goS s (k + 1) [] with q' | ⟨l, q'⟩
        · rw [hg] at h
          have := goS_badb (by omega) hg
          injection h with h; subst h; omega
        · rw [hg] at h; cases h
      · rcases hg : rb [] s k with q' | ⟨l, q'⟩
        · rw [hg] at h
          have := rb_bad (by omega) hg
          injection h with h; subst h; omega
        · rw [hg] at h; cases h
theorem goP_end {s : Bs} {k : Nat} {acc : List Gl} (h : ¬ k < s.length) : goP s k acc = (some acc, 0) := by
  rw [goP, if_neg h]
theorem goP_bad {s : Bs} {k q : Nat} {acc : List Gl} (h : k < s.length) (h1 : piece s k = .bad q) : goP s k acc = (none, q) := by
  rw [goP, if_pos h, h1]
theorem goP_ok {s : Bs} {k q : Nat} {acc : List Gl} {g : Gl} (h : k < s.length) (h1 : piece s k = .ok g q) : goP s k acc = goP s q (acc ++ [g]) := by
  obtain ⟨a, b⟩ := piece_ok h h1
  rw [goP, if_pos h, h1]
  exact if_pos ⟨a, b⟩
/- What is printed is read again. -/
theorem get_drop {s r : Bs} {k : Nat} {c : UInt8} (h : s.drop k = c :: r) : s[k]? = some c := by
  have := congrArg (·[0]?) h
  simpa [List.getElem?_drop] using this
theorem rb_esc {sg sg' s r : Bs} {k : Nat} {c : UInt8} (h : s.drop k = esc sg' c ++ r) (h92 : (92 : UInt8) ∈ sg') (hs : ∀ x ∈ sg, x ∈ sg') : rb sg s k = .ok c (k + (esc sg' c).length) := by
  unfold rb
  rw [h]
  unfold esc
  by_cases hc : c ∈ sg'
  · rw [if_pos hc]; rfl
  · rw [if_neg hc]
    simp only [List.cons_append, List.nil_append]
    have h1 : c ≠ 92 := by rintro rfl; exact hc h92
    have h2 : c ∉ sg := fun x => hc (hs c x)
    rw [if_neg h1, if_neg h2]; rfl
theorem drop_past {s x r : Bs} {k : Nat} (h : s.drop k = x ++ r) : s.drop (k + x.length) = r := by
  rw [← List.drop_drop, h, List.drop_left]
theorem esc_head (c : UInt8) : ∃ d t, esc sgI c = d :: t ∧ d ≠ 93 ∧ d ≠ 45 := by
  unfold esc
  by_cases hc : c ∈ sgI
  · rw [if_pos hc]; exact ⟨92, [c], rfl, by decide, by decide⟩
  · rw [if_neg hc]
    refine ⟨c, [], rfl, ?_, ?_⟩ <;> (rintro rfl; exact hc (by decide))
theorem itemT_head (p : Sp) : ∃ d t, itemT p = d :: t ∧ d ≠ 93 ∧ d ≠ 45 := by
  obtain ⟨d, t, h, h1⟩ := esc_head p.1
  exact ⟨d, _, by unfold itemT; rw [h]; rfl, h1⟩
theorem get_none {s : Bs} {k : Nat} (h : s.drop k = []) : s[k]? = none := by
  rw [List.drop_eq_nil_iff] at h; exact List.getElem?_eq_none h
theorem not_get {s r : Bs} {k : Nat} {c : UInt8} (h : s.drop k = r) (hr : r.head? ≠ some c) : s[k]? ≠ some c := by
  cases r with
  | nil => rw [get_none h]; simp
  | cons d r => rw [get_drop h]; simpa using hr
theorem u8_eq {a b : UInt8} (h : (a.toNat : Int) = (b.toNat : Int)) : a = b := UInt8.toNat_inj.1 (by omega)
theorem item_text {s r : Bs} {k : Nat} {p : Sp} (h : s.drop k = itemT p ++ r) (hp : okS p = true) (hr : r.head? ≠ some 45) : item s k = .ok p (k + (itemT p).length) := by
  obtain ⟨lo, hi⟩ := p
  simp only [okS, decide_eq_true_eq] at hp
  unfold item
  by_cases hlt : (lo.toNat : Int) < (hi.toNat : Int)
  · have e : itemT (lo, hi) = esc sgI lo ++ 45 :: esc sgI hi := by unfold itemT; rw [if_pos hlt]
    rw [e, List.append_assoc] at h
    rw [rb_esc h (by decide) (fun x hx => hx)]
    have h2 := drop_past h
    have h3 : s.drop (k + (esc sgI lo).length + 1) = esc sgI hi ++ r := by
      have := drop_past (x := [45]) h2; exact this
    dsimp only
    rw [if_pos (get_drop h2), rb_esc h3 (by decide) (fun x hx => hx)]
    dsimp only
    rw [if_neg (by omega), e]; simp [Nat.add_assoc, Nat.add_comm 1]
  · have e : itemT (lo, hi) = esc sgI lo := by unfold itemT; rw [if_neg hlt]; simp
    have hx : lo = hi := u8_eq (by omega)
    rw [e] at h
    rw [rb_esc h (by decide) (fun x hx => hx)]
    dsimp only
    rw [if_neg (not_get (drop_past h) hr), e, ← hx]
theorem goS_text : ∀ (l : List Sp) {s r : Bs} {k : Nat} {acc : List Sp}, s.drop k = l.flatMap itemT ++ 93 :: r → (acc ≠ [] ∨ l ≠ []) → l.all okS = true → k ≤ s.length →
    goS s k acc = .ok (acc ++ l) (k + (l.flatMap itemT).length + 1)
  | [], s, r, k, acc, h, h0, _, _ => by
    have hc : acc ≠ [] := by simpa using h0
    rw [goS_end hc (get_drop h)]; simp
  | p :: l, s, r, k, acc, h, _, hl, hk => by
    rw [List.all_cons, Bool.and_eq_true] at hl
    obtain ⟨hp, hl⟩ := hl
    rw [List.flatMap_cons, List.append_assoc] at h
    obtain ⟨d, t, hd, d1, d2⟩ := itemT_head p
    have h1 : ¬ (acc ≠ [] ∧ s[k]? = some 93) := by
      rintro ⟨_, h93⟩
      rw [hd] at h
      have := get_drop h
      rw [h93] at this
      injection this with this
      exact d1 this.symm
    have hr : (l.flatMap itemT ++ 93 :: r).head? ≠ some 45 := by
      cases l with
      | nil => simp
      | cons q l =>
        obtain ⟨d', t', hd', _, d2'⟩ := itemT_head q
        rw [List.flatMap_cons, hd']; simpa using d2'
    have hi := item_text h hp hr
    obtain ⟨_, hb⟩ := item_ok hk hi
    rw [goS_ok h1 hk hi, goS_text l (drop_past h) (.inl (by simp)) hl hb]
    simp [Nat.add_assoc]
theorem piece_text {s r : Bs} {k : Nat} {g : Gl} (h : s.drop k = textG g ++ r) (hg : okG g = true) (hk : k < s.length) : piece s k = .ok g (k + (textG g).length) := by
  obtain ⟨kind, byte, spans⟩ := g
  unfold okG at hg
  dsimp only at hg
  split at hg
  · rename_i h0
    subst h0
    have hs : spans = [] := by simpa using hg
    subst hs
    have e : textG ⟨0, byte, []⟩ = esc sgP byte := by simp [textG]
    rw [e] at h ⊢
    have hx : ∀ c : UInt8, c ∈ ([42, 63, 91] : Bs) → s[k]? ≠ some c := by
      intro c hc
      refine not_get h ?_
      unfold esc
      split
      · simp at hc; rcases hc with rfl | rfl | rfl <;> simp
      · rename_i hn
        intro hh
        simp at hh
        subst hh
        exact hn (by revert hc; simp [sgP]; rintro (rfl | rfl | rfl) <;> simp)
    unfold piece
    rw [if_neg (hx 42 (by simp)), if_neg (hx 63 (by simp)), if_neg (hx 91 (by simp)), rb_esc h (by decide) (by simp)]
  · split at hg
    · rename_i h0
      simp at hg
      obtain ⟨rfl, rfl⟩ := hg
      rcases h0 with rfl | rfl
      · have e : textG ⟨1, 0, []⟩ = [63] := by simp [textG]
        rw [e] at h ⊢
        have := get_drop h
        unfold piece
        rw [this]; simp
      · have e : textG ⟨2, 0, []⟩ = [42] := by simp [textG]
        rw [e] at h ⊢
        have := get_drop h
        unfold piece
        rw [this]; simp
    · split at hg
      · rename_i h3
        subst h3
        simp only [Bool.and_eq_true, decide_eq_true_eq] at hg
        obtain ⟨rfl, hs, hn⟩ := hg
        have e : textG ⟨3, 0, spans⟩ = 91 :: (spans.flatMap itemT ++ [93]) := by simp [textG]
        rw [e] at h ⊢
        have h1 := get_drop h
        have h2 : s.drop (k + 1) = spans.flatMap itemT ++ 93 :: r := by
          have := drop_past (x := [91]) (r := spans.flatMap itemT ++ 93 :: r) (s := s) (k := k) (by rw [h]; simp)
          exact this
        unfold piece
        rw [h1, goS_text spans h2 (.inr (by simpa using hn)) hs (by omega)]
        simp; omega
      · cases hg
theorem textG_ne (g : Gl) : 0 < (textG g).length := by
  unfold textG esc
  split
  · simp
  · split
    · simp
    · split
      · split <;> simp
      · simp
theorem goP_text : ∀ (l : List Gl) {s : Bs} {k : Nat} {acc : List Gl}, s.drop k = text l → may l = true → k ≤ s.length → goP s k acc = (some (acc ++ l), 0)
  | [], s, k, acc, h, _, hk => by
    have : s.length ≤ k := by simpa [text] using h
    rw [goP_end (by omega)]; simp
  | g :: l, s, k, acc, h, hm, hk => by
    simp only [may, List.all_cons, Bool.and_eq_true] at hm
    obtain ⟨hg, hm⟩ := hm
    have h' : s.drop k = textG g ++ text l := by rw [h]; simp [text]
    have hlt : k < s.length := by
      have := congrArg List.length h'
      have := textG_ne g
      simp only [List.length_drop, List.length_append] at *; omega
    have hp := piece_text h' hg hlt
    rw [goP_ok hlt hp, goP_text l (drop_past h') hm (piece_ok hlt hp).2]
    simp
theorem parse_text (l : List Gl) (hm : may l = true) (h : (text l).length ≤ 200) : parse (text l) = (some l, 0, 0) := by
  unfold parse
  rw [if_neg (by omega), goP_text l rfl hm (by omega)]
  simp
end Go.Proofs.YtccheljfbjllhaaDoor
