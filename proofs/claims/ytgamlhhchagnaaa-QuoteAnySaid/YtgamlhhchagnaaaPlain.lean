/- Plain facts on lists of bytes: what a text of parts is, how it is read, and that what is printed is read again. -/
import Derived.WalkKit
namespace Go.Proofs.Ytgamlhhchagnaaa
open Go Go.RowKit

abbrev Bs := List UInt8
abbrev Pt := List UInt8 × List UInt8
theorem all256 (P : UInt8 → Prop) (h : ∀ n, n < 256 → P (UInt8.ofNat n)) (c : UInt8) : P c := by
  have := h c.toNat (UInt8.toNat_lt c)
  rwa [UInt8.ofNat_toNat] at this
def isDig (c : UInt8) : Bool := decide (48 ≤ (c.toNat : Int) ∧ (c.toNat : Int) ≤ 57)
def isLow (c : UInt8) : Bool := decide (97 ≤ (c.toNat : Int) ∧ (c.toNat : Int) ≤ 122)
def isIn (c : UInt8) : Bool := isLow c || isDig c || decide ((c.toNat : Int) = 95)
def plainB (c : UInt8) : Bool := decide (32 ≤ (c.toNat : Int) ∧ (c.toNat : Int) ≤ 126 ∧ ¬ (c.toNat : Int) = 34 ∧ ¬ (c.toNat : Int) = 92 ∧ ¬ (c.toNat : Int) = 36)
/-- A digit to base 16, or -1. -/
def hexD (c : UInt8) : Int := if 48 ≤ (c.toNat : Int) ∧ (c.toNat : Int) ≤ 57 then (c.toNat : Int) - 48 else if 97 ≤ (c.toNat : Int) ∧ (c.toNat : Int) ≤ 102 then (c.toNat : Int) - 87 else -1
/-- What a letter behind a backslash stands for. -/
def escD (c : UInt8) : Option UInt8 := if c = 110 then some 10 else if c = 114 then some 13 else if c = 116 then some 9 else if c = 34 then some 34 else if c = 92 then some 92 else if c = 36 then some 36 else none
def tk : Nat → Bs → Nat
  | 0, _ => 0
  | _ + 1, [] => 0
  | k + 1, c :: r => if isIn c then tk k r + 1 else 0
def nameLen : Bs → Nat
  | [] => 0
  | c :: r => if isDig c then 1 else if isLow c then tk 7 r + 1 else 0
def isName (l : Bs) : Bool := !l.isEmpty && decide (nameLen l = l.length)
inductive Step where
  | bad (k : Nat) | stop | var (nm : Bs) (k : Nat) | byte (c : UInt8) (k : Nat)
def stepVar : Bs → Step
  | [] => .bad 1
  | c :: r => if c = 123 then (if nameLen r = 0 then .bad 2 else match r.drop (nameLen r) with
      | [] => .bad (2 + nameLen r)
      | d :: _ => if d = 125 then .var (r.take (nameLen r)) (nameLen r + 3) else .bad (2 + nameLen r)) else .bad 1
def stepHex : Bs → Step
  | [] => .bad 2
  | h :: r => if hexD h < 0 then .bad 2 else match r with
    | [] => .bad 3
    | l :: _ => if hexD l < 0 then .bad 3 else .byte (UInt8.ofNat (hexD h * 16 + hexD l).toNat) 4
def stepEsc : Bs → Step
  | [] => .bad 1
  | c :: r => if c = 120 then stepHex r else match escD c with
    | some b => .byte b 2
    | none => .bad 1
def step : Bs → Step
  | [] => .bad 0
  | c :: r => if c = 34 then .stop else if c = 36 then stepVar r else if c = 92 then stepEsc r else if plainB c then .byte c 1 else .bad 0
def flush (ps : List Pt) (t : Bs) : List Pt := if t = [] then ps else ps ++ [([], t)]
def go : Nat → Bs → Nat → List Pt → Bs → Option (List Pt) × Nat
  | 0, _, pos, _, _ => (none, pos)
  | f + 1, r, pos, ps, t => match step r with
    | .bad k => (none, pos + k)
    | .stop => (some (flush ps t), pos + 1)
    | .var nm k => go f (r.drop k) (pos + k) (flush ps t ++ [(nm, [])]) []
    | .byte c k => go f (r.drop k) (pos + k) ps (t ++ [c])
def parse : Bs → Option (List Pt) × Nat
  | [] => (none, 0)
  | c :: r => if c = 34 then go (r.length + 1) r 1 [] [] else (none, 0)

/- The texts. -/
def hexC (n : Nat) : UInt8 := if n < 10 then UInt8.ofNat (48 + n) else UInt8.ofNat (87 + n)
def prB (c : UInt8) : Bs := if plainB c then [c] else if c = 10 then [92, 110] else if c = 13 then [92, 114] else if c = 9 then [92, 116] else if c = 34 then [92, 34] else if c = 92 then [92, 92] else if c = 36 then [92, 36]
  else [92, 120, hexC (c.toNat / 16), hexC (c.toNat % 16)]
def prV (nm : Bs) : Bs := if nm = [] then [] else 36 :: 123 :: (nm ++ [125])
def prP (p : Pt) : Bs := prV p.1 ++ p.2.flatMap prB
def print (ps : List Pt) : Bs := 34 :: (ps.flatMap prP ++ [34])
def okP (b : Bool) (p : Pt) : Bool := if p.1 = [] then !p.2.isEmpty && !b else p.2.isEmpty && isName p.1
def may : Bool → List Pt → Bool
  | _, [] => true
  | b, p :: r => okP b p && may (decide (p.1 = [])) r

/- Steps. -/
theorem tk_cons (k : Nat) (c : UInt8) (r : Bs) : tk (k + 1) (c :: r) = if isIn c then tk k r + 1 else 0 := rfl
theorem nameLen_cons (c : UInt8) (r : Bs) : nameLen (c :: r) = if isDig c then 1 else if isLow c then tk 7 r + 1 else 0 := rfl
theorem tk_le : ∀ (k : Nat) (l : Bs), tk k l ≤ l.length ∧ tk k l ≤ k
  | 0, l => by simp [tk]
  | k + 1, [] => by simp [tk]
  | k + 1, c :: r => by
    have := tk_le k r
    rw [tk_cons]; split
    · simp; omega
    · simp
theorem tk_more : ∀ (k : Nat) (l m : Bs), (tk k l < l.length ∨ tk k l = k) → tk k (l ++ m) = tk k l
  | 0, l, m, _ => by simp [tk]
  | k + 1, [], m, h => by simp [tk] at h
  | k + 1, c :: r, m, h => by
    rw [tk_cons] at h
    rw [List.cons_append, tk_cons, tk_cons]
    by_cases hc : isIn c = true
    · simp only [hc, if_true] at h ⊢
      have := tk_more k r m (by simp at h; omega)
      omega
    · simp [hc]
theorem tk_take : ∀ (k : Nat) (l : Bs) (n : Nat), tk k l ≤ n → n ≤ l.length → tk k (l.take n) = tk k l
  | 0, l, n, _, _ => by simp [tk]
  | k + 1, [], n, _, _ => by simp [tk]
  | k + 1, c :: r, 0, h, _ => by
    rw [tk_cons] at h ⊢
    by_cases hc : isIn c = true
    · simp [hc] at h
    · simp [hc, tk]
  | k + 1, c :: r, n + 1, h, hn => by
    rw [tk_cons] at h
    rw [List.take_succ_cons, tk_cons, tk_cons]
    by_cases hc : isIn c = true
    · simp only [hc, if_true] at h ⊢
      rw [tk_take k r n (by omega) (by simpa using hn)]
    · simp [hc]
theorem nameLen_le (l : Bs) : nameLen l ≤ l.length ∧ nameLen l ≤ 8 := by
  cases l with
  | nil => simp [nameLen]
  | cons c r =>
    have := tk_le 7 r
    rw [nameLen_cons]; split
    · simp
    · split
      · simp; omega
      · simp
theorem nameLen_more (l m : Bs) (h : nameLen l < l.length) : nameLen (l ++ m) = nameLen l := by
  cases l with
  | nil => simp at h
  | cons c r =>
    rw [nameLen_cons] at h
    rw [List.cons_append, nameLen_cons, nameLen_cons]
    by_cases hd : isDig c = true
    · simp [hd]
    · by_cases hc : isLow c = true
      · simp only [hd, hc, if_true] at h ⊢
        rw [tk_more 7 r m (by simp at h; omega)]
      · simp [hd, hc]
theorem nameLen_take (l : Bs) (n : Nat) (h : nameLen l ≤ n) (h0 : 0 < n) (hn : n ≤ l.length) : nameLen (l.take n) = nameLen l := by
  cases l with
  | nil => simp
  | cons c r =>
    obtain ⟨n, rfl⟩ : ∃ k, n = k + 1 := ⟨n - 1, by omega⟩
    rw [nameLen_cons] at h
    rw [List.take_succ_cons, nameLen_cons, nameLen_cons]
    by_cases hd : isDig c = true
    · simp [hd]
    · by_cases hc : isLow c = true
      · simp only [hd, hc, if_true] at h ⊢
        rw [tk_take 7 r n (by simp at h; omega) (by simpa using hn)]
      · simp [hd, hc]
/- What a step looks at. -/
theorem hexD_bd (c : UInt8) : -1 ≤ hexD c ∧ hexD c ≤ 15 := by
  unfold hexD; split
  · omega
  · split <;> omega
theorem stepVar_var {r nm : Bs} {k : Nat} (h : stepVar r = .var nm k) : ∃ n, n = nameLen r.tail ∧ 0 < n ∧ nm = r.tail.take n ∧ k = n + 3 ∧ n + 1 < r.length ∧ r.head? = some 123 ∧ (r.tail.drop n).head? = some 125 := by
  cases r with
  | nil => simp [stepVar] at h
  | cons c r =>
    unfold stepVar at h
    dsimp only at h
    split at h
    · rename_i hc
      split at h
      · cases h
      · rename_i hn
        split at h
        · cases h
        · rename_i d t hd
          split at h
          · rename_i hd2
            injection h with h1 h2
            have hl := congrArg List.length hd
            simp at hl
            refine ⟨nameLen r, rfl, by omega, h1.symm, h2.symm, by simp; omega, by simp [hc], by simp [hd, hd2]⟩
          · cases h
    · cases h
theorem stepVar_bad {r : Bs} {k : Nat} (h : stepVar r = .bad k) : 1 ≤ k ∧ k ≤ r.length + 1 := by
  cases r with
  | nil => simp [stepVar] at h; subst h; simp
  | cons c r =>
    have := nameLen_le r
    unfold stepVar at h
    dsimp only at h
    split at h
    · split at h
      · injection h with h; subst h; simp
      · split at h
        · injection h with h; subst h; simp; omega
        · split at h
          · cases h
          · injection h with h; subst h; simp; omega
    · injection h with h; subst h; simp
end Go.Proofs.Ytgamlhhchagnaaa
