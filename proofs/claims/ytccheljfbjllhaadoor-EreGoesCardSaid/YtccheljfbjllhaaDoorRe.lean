/- Plain facts on expressions: their shape, their text, and how they are read. -/
import Derived.Test.YtccheljfbjllhaaDoorSets
namespace Go.Proofs.YtccheljfbjllhaaDoor
open Go Go.RowKit

inductive Re where
  | mk (kind : Int) (set : S4) (kids : List Re) (lo hi n : Int) : Re
theorem Re.ind {P : Re → Prop} (h : ∀ k S ks lo hi n, (∀ r ∈ ks, P r) → P (.mk k S ks lo hi n)) : ∀ r, P r := by
  intro r
  refine Re.rec (motive_1 := P) (motive_2 := fun l => ∀ r ∈ l, P r) ?_ ?_ ?_ r
  · intro k S ks lo hi n ih; exact h k S ks lo hi n ih
  · intro r hr; cases hr
  · intro a l ha hl r hr
    rcases List.mem_cons.1 hr with rfl | hr
    · exact ha
    · exact hl r hr
def Re.kind : Re → Int | .mk k _ _ _ _ _ => k
def Re.kids : Re → List Re | .mk _ _ ks _ _ _ => ks
def rSet (S : S4) : Re := .mk 1 S [] 0 0 0
def rBegin : Re := .mk 2 none4 [] 0 0 0
def rEnd : Re := .mk 3 none4 [] 0 0 0
def rRep (r : Re) (lo hi : Int) : Re := .mk 6 none4 [r] lo hi 0
def rGrp (r : Re) (n : Int) : Re := .mk 7 none4 [r] 0 0 n
def mkRow (l : List Re) : Re := match l with
  | [] => .mk 0 none4 [] 0 0 0
  | [r] => r
  | l => .mk 4 none4 l 0 0 0
def mkAlt (l : List Re) : Re := match l with
  | [r] => r
  | l => .mk 5 none4 l 0 0 0
def rep (r : Re) : Bool := r.kind != 2 && r.kind != 3
def num (g : Nat) : Int := if g > 9 then 0 else g
/- Groups; how many kinds. -/
mutual
def groups : Re → Nat
  | .mk k _ ks _ _ _ => (if k = 7 then 1 else 0) + groupsL ks
def groupsL : List Re → Nat
  | [] => 0
  | r :: rs => groups r + groupsL rs
end
mutual
def sizeE : Re → Nat
  | .mk _ _ ks _ _ _ => 1 + sizeL ks
def sizeL : List Re → Nat
  | [] => 0
  | r :: rs => sizeE r + sizeL rs
end
/- Texts. -/
def dig (x : Int) : UInt8 := UInt8.ofNat (48 + x.toNat)
def signT (lo hi : Int) : Bs :=
  if lo = 0 ∧ hi = -1 then [42] else if lo = 1 ∧ hi = -1 then [43] else if lo = 0 ∧ hi = 1 then [63]
  else if hi = lo then [123, dig lo, 125] else if hi = -1 then [123, dig lo, 44, 125] else [123, dig lo, 44, dig hi, 125]
mutual
def textE : Re → Bs
  | .mk k S ks lo hi _ => if k = 1 then setText S else if k = 2 then [94] else if k = 3 then [36]
    else if k = 7 then 40 :: (joinT [] ks ++ [41]) else if k = 6 then joinT [] ks ++ signT lo hi else joinT (if k = 5 then [124] else []) ks
def joinT (sep : Bs) : List Re → Bs
  | [] => []
  | r :: rs => textE r ++ tailT sep rs
def tailT (sep : Bs) : List Re → Bs
  | [] => []
  | r :: rs => sep ++ (textE r ++ tailT sep rs)
end
theorem tailT_snoc (sep : Bs) (r : Re) : ∀ l, tailT sep (l ++ [r]) = tailT sep l ++ (sep ++ textE r)
  | [] => by simp [tailT]
  | x :: l => by rw [List.cons_append, tailT, tailT_snoc sep r l, tailT]; simp
theorem joinT_snoc (sep : Bs) (r : Re) (l : List Re) : joinT sep (l ++ [r]) = if l = [] then textE r else joinT sep l ++ (sep ++ textE r) := by
  cases l with
  | nil => simp [joinT, tailT]
  | cons x l => rw [List.cons_append, joinT, tailT_snoc, joinT]; simp
/- What may be, but for its length: 3 an expression, 2 a row, 1 a piece, 0 an atom. -/
def lev (k : Int) : Nat := if k = 1 ∨ k = 2 ∨ k = 3 ∨ k = 7 then 0 else if k = 6 then 1 else if k = 0 ∨ k = 4 then 2 else if k = 5 then 3 else 4
def levK (k : Int) : Nat := if k = 4 then 1 else if k = 5 then 2 else if k = 7 then 3 else 0
def bound (lo hi : Int) : Bool := decide (0 ≤ lo) && (decide (lo ≤ 8) && (decide (hi = -1) || (decide (lo ≤ hi) && decide (hi ≤ 8))))
def told : Re → Bool
  | .mk k S ks lo hi n =>
    (decide (k = 1) || decide (S = none4)) && ((decide (k = 7) || decide (n = 0)) &&
    (if k = 6 then (match ks with | [r] => rep r | _ => false) && bound lo hi
    else decide (lo = 0) && (decide (hi = 0) && (if k = 7 then decide (ks.length = 1) else if k = 4 ∨ k = 5 then decide (2 ≤ ks.length) else decide (ks.length = 0)))))
mutual
def form : Re → Nat → Nat → Nat → Option Nat
  | .mk k S ks lo hi n, lv, d, g =>
    if lev k ≤ lv ∧ told (.mk k S ks lo hi n) = true then
      (if k = 7 then (if n = num (g + 1) ∧ d < 64 then formL ks 3 (d + 1) (g + 1) else none) else formL ks (levK k) d g)
    else none
def formL : List Re → Nat → Nat → Nat → Option Nat
  | [], _, _, g => some g
  | r :: rs, lv, d, g => match form r lv d g with
    | none => none
    | some g' => formL rs lv d g'
end
/- Reading. -/
inductive Ro (α : Type) where
  | bad (q : Nat) (e : Int) | ok (a : α) (q g : Nat)
def numb (s : Bs) (k : Nat) (least : Int) : Option Int := match s[k]? with
  | none => none
  | some c => if (c.toNat : Int) - 48 < least ∨ 8 < (c.toNat : Int) - 48 then none else some ((c.toNat : Int) - 48)
def closeB (s : Bs) (k : Nat) (lo hi : Int) : Res (Int × Int) := if s[k]? = some 125 then .ok (lo, hi) (k + 1) else .bad k
def bnds (s : Bs) (k : Nat) : Res (Int × Int) := match numb s k 0 with
  | none => .bad k
  | some lo => if s[k + 1]? = some 44 then (if s[k + 2]? = some 125 then .ok (lo, -1) (k + 3) else match numb s (k + 2) lo with
      | none => .bad (k + 2)
      | some hi => closeB s (k + 3) lo hi)
    else closeB s (k + 1) lo lo
def cls (s : Bs) (k : Nat) : Res S4 :=
  if s[k]? = some 94 then (match goS s (k + 1) [] with
    | .bad q => .bad q
    | .ok l q => .ok (compl (allS l)) q)
  else match goS s k [] with
    | .bad q => .bad q
    | .ok l q => .ok (allS l) q
abbrev Rd := Nat → Nat → Ro Re
def atomR (grp : Rd) (s : Bs) (k g : Nat) : Ro Re :=
  if s[k]? = some 94 then .ok rBegin (k + 1) g else if s[k]? = some 36 then .ok rEnd (k + 1) g else if s[k]? = some 46 then .ok (rSet (compl none4)) (k + 1) g
  else if s[k]? = some 40 then grp k g
  else if s[k]? = some 91 then (match cls s (k + 1) with
    | .bad q => .bad q 1
    | .ok S q => .ok (rSet S) q g)
  else match rb sgA s k with
    | .bad q => .bad q 1
    | .ok c q => .ok (rSet (ins none4 c.toNat)) q g
/-- What stands behind an atom that may be repeated. -/
def tailP (s : Bs) (x : Re) (q g : Nat) : Ro Re :=
  if s[q]? = some 42 then .ok (rRep x 0 (-1)) (q + 1) g else if s[q]? = some 43 then .ok (rRep x 1 (-1)) (q + 1) g else if s[q]? = some 63 then .ok (rRep x 0 1) (q + 1) g
  else if s[q]? = some 123 then (match bnds s (q + 1) with
    | .bad p => .bad p 1
    | .ok b p => .ok (rRep x b.1 b.2) p g)
  else .ok x q g
def sgR : Bs := [42, 43, 63, 123]
/-- Is it a sign of repeat? -/
def signAt (s : Bs) (q : Nat) : Prop := ∃ c, s[q]? = some c ∧ c ∈ sgR
/-- As the program reads: a sign behind what can't be repeated is left. -/
def pieceC (grp : Rd) (s : Bs) (k g : Nat) : Ro Re := match atomR grp s k g with
  | .bad q e => .bad q e
  | .ok x q g' => if rep x = true then tailP s x q g' else .ok x q g'
/-- As the document's answer reads. -/
noncomputable def pieceR (grp : Rd) (s : Bs) (k g : Nat) : Ro Re := match atomR grp s k g with
  | .bad q e => .bad q e
  | .ok x q g' => if rep x = true then tailP s x q g' else @ite _ (signAt s q) (Classical.propDecidable _) (.bad q 1) (.ok x q g')
def stops (s : Bs) (k : Nat) : Bool := match s[k]? with
  | none => true
  | some c => decide (c = 124) || decide (c = 41)
def rowL (pc : Rd) (s : Bs) (k g : Nat) (acc : List Re) : Ro (List Re) :=
  if stops s k = true then .ok acc k g else match pc k g with
    | .bad q e => .bad q e
    | .ok x q g' => if k < q ∧ q ≤ s.length then rowL pc s q g' (acc ++ [x]) else .bad q 0
termination_by s.length - k
decreasing_by omega
def rowOf (pc : Rd) (s : Bs) (k g : Nat) : Ro Re := match rowL pc s k g [] with
  | .bad q e => .bad q e
  | .ok l q g' => .ok (mkRow l) q g'
def altL (rw_ : Rd) (s : Bs) (k g : Nat) (acc : List Re) : Ro (List Re) := match rw_ k g with
  | .bad q e => .bad q e
  | .ok x q g' => if s[q]? = some 124 then (if k ≤ q ∧ q < s.length then altL rw_ s (q + 1) g' (acc ++ [x]) else .bad q 0) else .ok (acc ++ [x]) q g'
termination_by s.length - k
decreasing_by omega
def altOf (rw_ : Rd) (s : Bs) (k g : Nat) : Ro Re := match altL rw_ s k g [] with
  | .bad q e => .bad q e
  | .ok l q g' => .ok (mkAlt l) q g'
def grpR (ex : Rd) (s : Bs) (k g : Nat) : Ro Re := match ex (k + 1) (g + 1) with
  | .bad q e => .bad q e
  | .ok x q g' => if s[q]? = some 41 then .ok (rGrp x (num (g + 1))) (q + 1) g' else .bad q 1
/-- A reader of groups, where so many may still stand within. -/
def grpM (pc : Rd → Rd) (s : Bs) : Nat → Rd
  | 0 => fun k _ => .bad k 8
  | m + 1 => grpR (altOf (rowOf (pc (grpM pc s m)) s) s) s
def exM (pc : Rd → Rd) (s : Bs) (m : Nat) : Rd := altOf (rowOf (pc (grpM pc s m)) s) s
theorem grpM_succ (pc : Rd → Rd) (s : Bs) (m : Nat) : grpM pc s (m + 1) = grpR (exM pc s m) s := rfl
def exC (s : Bs) (m : Nat) : Rd := exM (fun grp => pieceC grp s) s m
noncomputable def exR (s : Bs) (m : Nat) : Rd := exM (fun grp => pieceR grp s) s m
/-- The expression, the place, and 0 or the error. -/
def parseE (s : Bs) : Option Re × Nat × Int :=
  if 200 < s.length then (none, 200, 2) else match exC s 64 0 0 with
    | .bad q e => (none, q, e)
    | .ok x q _ => if q < s.length then (none, q, 1) else (some x, 0, 0)
/- Where reading goes on. -/
def Good (s : Bs) (rd : Rd) : Prop := ∀ k g, k < s.length → (∀ q e, rd k g = .bad q e → k ≤ q ∧ q ≤ s.length ∧ (e = 1 ∨ e = 8 ∧ q < s.length)) ∧ ∀ x q g', rd k g = .ok x q g' → k < q ∧ q ≤ s.length
def GoodE (s : Bs) (rd : Rd) : Prop := ∀ k g, k ≤ s.length → (∀ q e, rd k g = .bad q e → k ≤ q ∧ q ≤ s.length ∧ (e = 1 ∨ e = 8 ∧ q < s.length)) ∧ ∀ x q g', rd k g = .ok x q g' → k ≤ q ∧ q ≤ s.length
theorem numb_lt {s : Bs} {k : Nat} {l x : Int} (h : numb s k l = some x) : k < s.length ∧ l ≤ x ∧ x ≤ 8 ∧ ∃ c, s[k]? = some c ∧ x = (c.toNat : Int) - 48 := by
  unfold numb at h
  split at h
  · cases h
  · rename_i c hc
    split at h
    · cases h
    · injection h with h
      exact ⟨lt_of_get hc, by omega, by omega, c, hc, h.symm⟩
theorem closeB_bd {s : Bs} {k : Nat} (lo hi : Int) : match closeB s k lo hi with
    | .bad q => q = k
    | .ok _ q => q = k + 1 ∧ q ≤ s.length := by
  unfold closeB
  split
  · rename_i q heq
    split at heq
    · cases heq
    · injection heq with heq; exact heq.symm
  · rename_i a q heq
    split at heq
    · rename_i h1
      injection heq with _ heq
      have := lt_of_get h1
      exact ⟨heq.symm, by omega⟩
    · cases heq
theorem bnds_bd {s : Bs} {k : Nat} (h : k ≤ s.length) : match bnds s k with
    | .bad q => k ≤ q ∧ q ≤ s.length
    | .ok _ q => k < q ∧ q ≤ s.length := by
  unfold bnds
  rcases h1 : numb s k 0 with _ | lo
  · exact ⟨Nat.le_refl _, h⟩
  · have hk := (numb_lt h1).1
    dsimp only
    by_cases h2 : s[k + 1]? = some 44
    · rw [if_pos h2]
      have hk2 := lt_of_get h2
      by_cases h3 : s[k + 2]? = some 125
      · rw [if_pos h3]; have := lt_of_get h3; exact ⟨by omega, by omega⟩
      · rw [if_neg h3]
        rcases h4 : numb s (k + 2) lo with _ | hi
        · exact ⟨by omega, by omega⟩
        · have hk3 := (numb_lt h4).1
          have := closeB_bd (s := s) (k := k + 3) lo hi
          dsimp only
          rcases h5 : closeB s (k + 3) lo hi with q | ⟨a, q⟩
          · rw [h5] at this; dsimp only at this ⊢; omega
          · rw [h5] at this; dsimp only at this ⊢; omega
    · rw [if_neg h2]
      have := closeB_bd (s := s) (k := k + 1) lo lo
      rcases h5 : closeB s (k + 1) lo lo with q | ⟨a, q⟩
      · rw [h5] at this; dsimp only at this ⊢; omega
      · rw [h5] at this; dsimp only at this ⊢; omega
theorem cls_bd {s : Bs} {k : Nat} (h : k ≤ s.length) : match cls s k with
    | .bad q => k ≤ q ∧ q ≤ s.length
    | .ok _ q => k < q ∧ q ≤ s.length := by
  unfold cls
  by_cases h1 : s[k]? = some 94
  · rw [if_pos h1]
    have hk := lt_of_get h1
    rcases h2 : goS s (k + 1) [] with q | ⟨l, q⟩
    · have := goS_badb (by omega) h2; dsimp only; omega
    · have := goS_okb (by omega) h2; dsimp only; omega
  · rw [if_neg h1]
    rcases h2 : goS s k [] with q | ⟨l, q⟩
    · exact goS_badb h h2
    · have := goS_okb h h2; exact ⟨this.1, this.2.1⟩
theorem atomR_good {s : Bs} {grp : Rd} (hg : Good s grp) : Good s (atomR grp s) := by
  intro k g hk
  unfold atomR
  split
  · exact ⟨fun q e h => (by cases h), fun x q g' h => by injection h with _ h; omega⟩
  · split
    · exact ⟨fun q e h => (by cases h), fun x q g' h => by injection h with _ h; omega⟩
    · split
      · exact ⟨fun q e h => (by cases h), fun x q g' h => by injection h with _ h; omega⟩
      · split
        · exact hg k g hk
        · split
          · have := cls_bd (s := s) (k := k + 1) (by omega)
            rcases h1 : cls s (k + 1) with q | ⟨S, q⟩
            · rw [h1] at this
              exact ⟨fun q' e h => by injection h with h h2; dsimp only at this; omega, fun x q g' h => by cases h⟩
            · rw [h1] at this
              exact ⟨fun q e h => (by cases h), fun x q g' h => by injection h with _ h; dsimp only at this; omega⟩
          · rcases h1 : rb sgA s k with q | ⟨c, q⟩
            · have := rb_bad (by omega) h1
              exact ⟨fun q' e h => by injection h with h h2; omega, fun x q g' h => by cases h⟩
            · have := rb_ok (by omega) h1
              exact ⟨fun q e h => (by cases h), fun x q g' h => by injection h with _ h; omega⟩
theorem tailP_good {s : Bs} {x : Re} {k q g : Nat} (hk : k < q) (hq : q ≤ s.length) : (∀ p e, tailP s x q g = .bad p e → k ≤ p ∧ p ≤ s.length ∧ (e = 1 ∨ e = 8 ∧ p < s.length)) ∧ ∀ y p g', tailP s x q g = .ok y p g' → k < p ∧ p ≤ s.length := by
  unfold tailP
  have hlt : ∀ c, s[q]? = some c → q + 1 ≤ s.length := fun c h => by have := lt_of_get h; omega
  split
  · rename_i h1; have := hlt _ h1
    exact ⟨fun q e h => (by cases h), fun x q g' h => by injection h with _ h; omega⟩
  · split
    · rename_i h1; have := hlt _ h1
      exact ⟨fun q e h => (by cases h), fun x q g' h => by injection h with _ h; omega⟩
    · split
      · rename_i h1; have := hlt _ h1
        exact ⟨fun q e h => (by cases h), fun x q g' h => by injection h with _ h; omega⟩
      · split
        · rename_i h1; have := hlt _ h1
          have hb := bnds_bd (s := s) (k := q + 1) (by omega)
          rcases h2 : bnds s (q + 1) with p | ⟨b, p⟩
          · rw [h2] at hb
            exact ⟨fun q' e h => by injection h with h h2; dsimp only at hb; omega, fun x q g' h => by cases h⟩
          · rw [h2] at hb
            exact ⟨fun q e h => (by cases h), fun x q g' h => by injection h with _ h; dsimp only at hb; omega⟩
        · exact ⟨fun q e h => (by cases h), fun x q g' h => by injection h with _ h; omega⟩
theorem pieceC_good {s : Bs} {grp : Rd} (hg : Good s grp) : Good s (pieceC grp s) := by
  intro k g hk
  obtain ⟨h1, h2⟩ := atomR_good hg k g hk
  unfold pieceC
  rcases ha : atomR grp s k g with ⟨q, e⟩ | ⟨x, q, g'⟩
  · have := h1 q e ha
    exact ⟨fun q' e' h => by injection h with h h3; subst h h3; exact this, fun x q g' h => by cases h⟩
  · have := h2 x q g' ha
    dsimp only
    split
    · exact tailP_good this.1 this.2
    · exact ⟨fun q e h => (by cases h), fun x q g' h => by injection h with _ h; omega⟩
theorem pieceR_good {s : Bs} {grp : Rd} (hg : Good s grp) : Good s (pieceR grp s) := by
  intro k g hk
  obtain ⟨h1, h2⟩ := atomR_good hg k g hk
  unfold pieceR
  rcases ha : atomR grp s k g with ⟨q, e⟩ | ⟨x, q, g'⟩
  · have := h1 q e ha
    exact ⟨fun q' e' h => by injection h with h h3; subst h h3; exact this, fun x q g' h => by cases h⟩
  · have := h2 x q g' ha
    dsimp only
    split
    · exact tailP_good this.1 this.2
    · split
      · exact ⟨fun q' e h => by injection h with h h2; omega, fun x q g' h => by cases h⟩
      · exact ⟨fun q e h => (by cases h), fun x q g' h => by injection h with _ h; omega⟩
theorem not_stops {s : Bs} {k : Nat} (h : stops s k = false) : k < s.length := by
  unfold stops at h
  split at h
  · cases h
  · rename_i c hc; exact lt_of_get hc
/- One equation a kind of step. -/
theorem rowL_end {pc : Rd} {s : Bs} {k g : Nat} {acc : List Re} (h : stops s k = true) : rowL pc s k g acc = .ok acc k g := by rw [rowL, if_pos h]
theorem rowL_bad {pc : Rd} {s : Bs} {k g q : Nat} {e : Int} {acc : List Re} (h : stops s k = false) (h1 : pc k g = .bad q e) : rowL pc s k g acc = .bad q e := by
  rw [rowL, if_neg (by simp [h]), h1]
theorem rowL_ok {pc : Rd} {s : Bs} {k g q g' : Nat} {x : Re} {acc : List Re} (h : stops s k = false) (h1 : pc k g = .ok x q g') (h2 : k < q ∧ q ≤ s.length) : rowL pc s k g acc = rowL pc s q g' (acc ++ [x]) := by
  rw [rowL, if_neg (by simp [h]), h1]; exact if_pos h2
theorem altL_bad {rw_ : Rd} {s : Bs} {k g q : Nat} {e : Int} {acc : List Re} (h1 : rw_ k g = .bad q e) : altL rw_ s k g acc = .bad q e := by rw [altL, h1]
theorem altL_end {rw_ : Rd} {s : Bs} {k g q g' : Nat} {x : Re} {acc : List Re} (h1 : rw_ k g = .ok x q g') (h : s[q]? ≠ some 124) : altL rw_ s k g acc = .ok (acc ++ [x]) q g' := by
  rw [altL, h1]; exact if_neg h
theorem altL_ok {rw_ : Rd} {s : Bs} {k g q g' : Nat} {x : Re} {acc : List Re} (h1 : rw_ k g = .ok x q g') (h : s[q]? = some 124) (h2 : k ≤ q) : altL rw_ s k g acc = altL rw_ s (q + 1) g' (acc ++ [x]) := by
  have := lt_of_get h
  rw [altL, h1]
  dsimp only
  rw [if_pos h, if_pos ⟨h2, this⟩]
theorem rowL_good {s : Bs} {pc : Rd} (hp : Good s pc) : ∀ (n k g : Nat) (acc : List Re), s.length - k < n → k ≤ s.length → (∀ q e, rowL pc s k g acc = .bad q e → k ≤ q ∧ q ≤ s.length ∧ (e = 1 ∨ e = 8 ∧ q < s.length)) ∧ ∀ x q g', rowL pc s k g acc = .ok x q g' → k ≤ q ∧ q ≤ s.length
  | 0, k, g, acc, h, hk => by omega
  | n + 1, k, g, acc, h, hk => by
    cases hs : stops s k with
    | true => rw [rowL_end hs]; exact ⟨fun q e h => (by cases h), fun x q g' h => by injection h with _ h; omega⟩
    | false =>
      obtain ⟨h1, h2⟩ := hp k g (not_stops hs)
      rcases ha : pc k g with ⟨q, e⟩ | ⟨x, q, g'⟩
      · rw [rowL_bad hs ha]
        have := h1 q e ha
        exact ⟨fun q' e' h => by injection h with h h3; subst h h3; exact this, fun x q g' h => by cases h⟩
      · have hq := h2 x q g' ha
        rw [rowL_ok hs ha hq]
        obtain ⟨i1, i2⟩ := rowL_good hp n q g' (acc ++ [x]) (by omega) hq.2
        exact ⟨fun p e hp => by have := i1 p e hp; omega, fun y p g2 hp => by have := i2 y p g2 hp; omega⟩
theorem rowOf_good {s : Bs} {pc : Rd} (hp : Good s pc) : GoodE s (rowOf pc s) := by
  intro k g hk
  obtain ⟨h1, h2⟩ := rowL_good hp (s.length - k + 1) k g [] (by omega) hk
  unfold rowOf
  rcases ha : rowL pc s k g [] with ⟨q, e⟩ | ⟨x, q, g'⟩
  · have := h1 q e ha
    exact ⟨fun q' e' h => by injection h with h h3; subst h h3; exact this, fun x q g' h => by cases h⟩
  · have := h2 x q g' ha
    exact ⟨fun q e h => (by cases h), fun x q g' h => by injection h with _ h; omega⟩
theorem altL_good {s : Bs} {rw_ : Rd} (hp : GoodE s rw_) : ∀ (n k g : Nat) (acc : List Re), s.length - k < n → k ≤ s.length → (∀ q e, altL rw_ s k g acc = .bad q e → k ≤ q ∧ q ≤ s.length ∧ (e = 1 ∨ e = 8 ∧ q < s.length)) ∧ ∀ x q g', altL rw_ s k g acc = .ok x q g' → k ≤ q ∧ q ≤ s.length
  | 0, k, g, acc, h, hk => by omega
  | n + 1, k, g, acc, h, hk => by
    obtain ⟨h1, h2⟩ := hp k g hk
    rcases ha : rw_ k g with ⟨q, e⟩ | ⟨x, q, g'⟩
    · rw [altL_bad ha]
      have := h1 q e ha
      exact ⟨fun q' e' h => by injection h with h h3; subst h h3; exact this, fun x q g' h => by cases h⟩
    · have hq := h2 x q g' ha
      by_cases hc : s[q]? = some 124
      · have := lt_of_get hc
        rw [altL_ok ha hc hq.1]
        obtain ⟨i1, i2⟩ := altL_good hp n (q + 1) g' (acc ++ [x]) (by omega) (by omega)
        exact ⟨fun p e hp => by have := i1 p e hp; omega, fun y p g2 hp => by have := i2 y p g2 hp; omega⟩
      · rw [altL_end ha hc]
        exact ⟨fun q e h => (by cases h), fun x q g' h => by injection h with _ h; omega⟩
theorem altOf_good {s : Bs} {rw_ : Rd} (hp : GoodE s rw_) : GoodE s (altOf rw_ s) := by
  intro k g hk
  obtain ⟨h1, h2⟩ := altL_good hp (s.length - k + 1) k g [] (by omega) hk
  unfold altOf
  rcases ha : altL rw_ s k g [] with ⟨q, e⟩ | ⟨x, q, g'⟩
  · have := h1 q e ha
    exact ⟨fun q' e' h => by injection h with h h3; subst h h3; exact this, fun x q g' h => by cases h⟩
  · have := h2 x q g' ha
    exact ⟨fun q e h => (by cases h), fun x q g' h => by injection h with _ h; omega⟩
theorem grpM_good {s : Bs} {pc : Rd → Rd} (hp : ∀ grp, Good s grp → Good s (pc grp)) : ∀ m, Good s (grpM pc s m)
  | 0 => by
    intro k g hk
    exact ⟨fun q e h => by injection h with h h2; omega, fun x q g' h => by cases h⟩
  | m + 1 => by
    intro k g hk
    rw [grpM_succ]
    obtain ⟨h1, h2⟩ := altOf_good (rowOf_good (hp _ (grpM_good hp m))) (k + 1) (g + 1) (by omega)
    unfold grpR
    rcases ha : exM pc s m (k + 1) (g + 1) with ⟨q, e⟩ | ⟨x, q, g'⟩
    · have := h1 q e ha
      exact ⟨fun q' e' h => by injection h with h h3; subst h h3; omega, fun x q g' h => by cases h⟩
    · have := h2 x q g' ha
      dsimp only
      split
      · rename_i hc
        have := lt_of_get hc
        exact ⟨fun q e h => (by cases h), fun x q g' h => by injection h with _ h; omega⟩
      · exact ⟨fun q' e h => by injection h with h h2; omega, fun x q g' h => by cases h⟩
theorem exM_good {s : Bs} {pc : Rd → Rd} (hp : ∀ grp, Good s grp → Good s (pc grp)) (m : Nat) : GoodE s (exM pc s m) := altOf_good (rowOf_good (hp _ (grpM_good hp m)))
theorem exC_good (s : Bs) (m : Nat) : GoodE s (exC s m) := exM_good (fun _ h => pieceC_good h) m
theorem exR_good (s : Bs) (m : Nat) : GoodE s (exR s m) := exM_good (fun _ h => pieceR_good h) m
end Go.Proofs.YtccheljfbjllhaaDoor
