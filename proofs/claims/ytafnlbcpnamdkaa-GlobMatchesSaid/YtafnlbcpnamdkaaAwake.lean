/- The statements' first lines: what 'awake' answers: true. And the readers' contracts in the form that the statements want. -/
import Derived.Test.YtafnlbcpnamdkaaRMatch
namespace Go.Proofs.Ytafnlbcpnamdkaa
open Go Go.RowKit

/- How much is read. -/
theorem goS_len {s : Bs} {k q : Nat} {acc l : List Sp} (hk : k ≤ s.length) (h : goS s k acc = .ok l q) : l.length ≤ acc.length + (s.length - k) := by
  refine goS_ind (s := s) (fun k acc => ∀ l q, goS s k acc = .ok l q → l.length ≤ acc.length + (s.length - k)) ?_ ?_ ?_ (s.length - k + 1) k acc (by omega) hk l q h
  · intro k acc h h1 l q hg
    rw [goS_end h h1] at hg
    injection hg with a _; subst a; omega
  · intro k q acc hk he hi l q' hg
    rw [goS_bad he hi] at hg; cases hg
  · intro k q acc sp hk he hi ih l q' hg
    obtain ⟨a, b⟩ := item_ok hk hi
    rw [goS_ok he hk hi] at hg
    have := ih l q' hg
    rw [List.length_append] at this
    simp at this; omega
theorem piece_len {s : Bs} {k q : Nat} {g : Gl} (hk : k < s.length) (h : piece s k = .ok g q) : g.spans.length ≤ s.length := by
  unfold piece at h
  split at h
  · injection h with h _; subst h; simp
  · split at h
    · injection h with h _; subst h; simp
    · split at h
      · rcases hg : goS s (k + 1) [] with q' | ⟨l, q'⟩
        · rw [hg] at h; cases h
        · rw [hg] at h
          have := goS_len (by omega) hg
          injection h with h _; subst h; simp at this ⊢; omega
      · rcases hg : rb [] s k with q' | ⟨l, q'⟩
        · rw [hg] at h; cases h
        · rw [hg] at h
          injection h with h _; subst h; simp
theorem goP_len {s : Bs} : ∀ (n k : Nat) (acc : List Gl), s.length - k < n → ∀ l q, goP s k acc = (some l, q) → (∀ g ∈ acc, g.spans.length ≤ s.length) → l.length ≤ acc.length + (s.length - k) ∧ (∀ g ∈ l, g.spans.length ≤ s.length) ∧ q = 0
  | 0, k, acc, h, l, q, _, _ => by omega
  | n + 1, k, acc, h, l, q, hg, ha => by
    by_cases hk : k < s.length
    · rcases hp : piece s k with q' | ⟨g, q'⟩
      · rw [goP_bad hk hp] at hg; cases hg
      · obtain ⟨a, b⟩ := piece_ok hk hp
        rw [goP_ok hk hp] at hg
        obtain ⟨h1, h2, h3⟩ := goP_len n q' (acc ++ [g]) (by omega) l q hg (by
          intro x hx
          rcases List.mem_append.1 hx with hx | hx
          · exact ha x hx
          · rw [List.mem_singleton] at hx; subst hx; exact piece_len hk hp)
        rw [List.length_append] at h1
        simp at h1
        exact ⟨by omega, h2, h3⟩
    · rw [goP_end hk] at hg
      injection hg with h1 h2
      injection h1 with h1
      subst h1 h2
      exact ⟨by omega, ha, rfl⟩
theorem parse_cases (s : Bs) : (∃ q, parse s = (none, q, 1)) ∨ parse s = (none, 200, 2) ∨ ∃ gs, parse s = (some gs, 0, 0) ∧ gs.length ≤ 200 ∧ ∀ g ∈ gs, g.spans.length ≤ 200 := by
  by_cases h : 200 < s.length
  · right; left; unfold parse; rw [if_pos h]
  · rw [parse_out s h]
    rcases hg : goP s 0 [] with ⟨_ | l, q⟩
    · left; exact ⟨q, rfl⟩
    · right; right
      obtain ⟨h1, h2, h3⟩ := goP_len (s.length + 1) 0 [] (by omega) l q hg (by simp)
      subst h3
      simp at h1
      exact ⟨l, rfl, by omega, fun g hg => Nat.le_trans (h2 g hg) (by omega)⟩
/-- A slice's own bounds. -/
def Cap (A : Option Addr) (n c : Nat) : Prop := n ≤ c ∧ c ≤ maxLen ∧ (A = none → c = 0)
theorem cap_of_own {w0 w : World} {B : Nat} {v : Value} {l : List Gv} (h : Pcs B w0 w v l) : ∃ A c, v = .slice A l.length c ∧ RdG w.heap.size w A l.length (l.map (·.1)) ∧ Cap A l.length c := by
  obtain ⟨A, c, e, hr⟩ := rdg_of_own h
  refine ⟨A, c, e, hr, ?_⟩
  rcases h.row.2 with ⟨h1, h0⟩ | ⟨g, cap, cur, h1, hb, hg, hc, hm, _⟩
  · rw [e] at h1
    injection h1 with h1 _ h2
    subst h1 h2
    exact ⟨by omega, Nat.zero_le _, fun _ => rfl⟩
  · rw [e] at h1
    injection h1 with h1 _ h2
    subst h1 h2
    exact ⟨hc, hm, fun h => by cases h⟩
/-- A list that was read, as a slice. -/
def Read (w : World) (gs : List Gl) (q : Nat) (x : Int) (e : Ending) (w' : World) : Prop :=
  ∃ A c, e = .returned (.tuple #[.slice A gs.length c, .int .i64 q, .int .i64 x]) ∧ RdG w'.heap.size w' A gs.length gs ∧ Cap A gs.length c ∧ Below w.heap.size w w'
theorem postP_read {w w' : World} {e : Ending} {o : Option (List Gl)} {q : Nat} {x : Int} {gs : List Gl} (h : PostP w (o, q, x) e w') (hgs : o.getD [] = gs) : Read w gs q x e w' := by
  obtain ⟨v, l, he, hp, hl⟩ := h
  obtain ⟨A, c, rfl, hr, hc⟩ := cap_of_own hp
  have hl2 : l.map (·.1) = gs := hl.trans hgs
  have hn : l.length = gs.length := by rw [← hl2, List.length_map]
  rw [hl2] at hr
  rw [hn] at hr hc he
  exact ⟨A, c, he, hr, hc, hp.below⟩
theorem parse_read (s : ByteArray) (hs : s.size ≤ 1000000) (o : Option (List Gl)) (q : Nat) (x : Int) (gs : List Gl) (hgs : o.getD [] = gs) (h : parse s.data.toList = (o, q, x)) (w : World) : Calls Try.prog 13 #[.string s] w (Read w gs q x) :=
  (parse_any s hs w).mono fun e w' hp => postP_read (by rw [← h]; exact hp) hgs
theorem rparse_read (s : ByteArray) (hs : s.size ≤ 1000000) (o : Option (List Gl)) (q : Nat) (x : Int) (gs : List Gl) (hgs : o.getD [] = gs) (h : parse s.data.toList = (o, q, x)) (w : World) : Calls Try.prog 16 #[.string s] w (Read w gs q x) :=
  (rparse_any s hs w).mono fun e w' hp => postP_read (by rw [← h]; exact hp) hgs
def P0 : List Gl := [⟨0, 112, []⟩, ⟨0, 97, []⟩, ⟨3, 0, [(115, 115), (116, 116)]⟩, ⟨2, 0, []⟩]
def S0 : ByteArray := ⟨#[112, 97, 91, 115, 116, 93, 42]⟩
theorem text0 : text P0 = S0.data.toList := by decide +kernel
theorem may0 : may P0 = true := by decide +kernel
theorem small0 : smallG P0 = true := by decide +kernel
theorem parse0 : parse S0.data.toList = (some P0, 0, 0) := by rw [← text0]; exact parse_text P0 may0 (by rw [text0]; decide)
theorem first0 (w : World) : Calls Try.prog 13 #[.string ⟨#[112, 97, 91, 115, 116, 93, 42]⟩] w fun e w' =>
    ∃ A c, e = .returned (.tuple #[.slice A 4 c, .int .i64 0, .int .i64 0]) ∧ RdG w'.heap.size w' A 4 P0 ∧ Cap A 4 c ∧ Below w.heap.size w w' :=
  (parse_read S0 (by decide) (some P0) 0 0 P0 rfl parse0 w).mono fun e w' h => h
theorem second0 (A : Option Addr) (c : Nat) (w : World) (h : RdG w.heap.size w A 4 P0) : Calls Try.prog 9 #[.slice A 4 c] w fun e w' =>
    e = .returned (.tuple #[.string ⟨#[112, 97, 91, 115, 116, 93, 42]⟩, .int .i64 0]) ∧ Below w.heap.size w w' := by
  have h1 := print_any A 4 c P0 w h small0
  have e : printR P0 = (⟨#[112, 97, 91, 115, 116, 93, 42]⟩, 0) := by
    unfold printR
    rw [if_pos may0, text0, if_neg (by decide)]
    rfl
  rw [e] at h1
  exact h1
theorem third0 (A : Option Addr) (c : Nat) (w : World) (h : RdG w.heap.size w A 4 P0) (hc : Cap A 4 c) : Calls Try.prog 17 #[.slice A 4 c, .string ⟨#[112, 97, 115, 115, 119, 111, 114, 100]⟩] w fun e w' => e = .returned (.bool true) ∧ Below w.heap.size w w' := by
  have h1 := match_any A 4 c P0 ⟨#[112, 97, 115, 115, 119, 111, 114, 100]⟩ w h hc.1 hc.2.1 hc.2.2 small0 (by decide)
  have e : (may P0 && mat P0 (⟨#[112, 97, 115, 115, 119, 111, 114, 100]⟩ : ByteArray).data.toList) = true := by decide +kernel
  rw [e] at h1
  exact h1
theorem fourth0 (A : Option Addr) (c : Nat) (w : World) (h : RdG w.heap.size w A 4 P0) (hc : Cap A 4 c) : Calls Try.prog 17 #[.slice A 4 c, .string ⟨#[112, 97, 120]⟩] w fun e w' => e = .returned (.bool false) ∧ Below w.heap.size w w' := by
  have h1 := match_any A 4 c P0 ⟨#[112, 97, 120]⟩ w h hc.1 hc.2.1 hc.2.2 small0 (by decide)
  have e : (may P0 && mat P0 (⟨#[112, 97, 120]⟩ : ByteArray).data.toList) = false := by decide +kernel
  rw [e] at h1
  exact h1
set_option maxHeartbeats 1000000 in
theorem awake_any (w : World) : Calls Try.prog 7 #[] w fun e w' => e = .returned (.bool true) ∧ Below w.heap.size w w' := by
  have K1 := Lib.hid (first0 w)
  have K2 := Lib.hid second0
  have K3 := Lib.hid third0
  have K4 := Lib.hid fourth0
  go_enter Try.func7, Try.ntmps7
  go_wp2_with (first | (go_at_call 13; ((with_reducible refine (K1.out).mono ?_)); rintro e w1 ⟨A, c, rfl, hr, hc, hb1⟩; have HR := Lib.hid hr; have HC := Lib.hid hc; clear hr hc) | (go_at_call 9; ((with_reducible refine (K2.out _ _ _ HR.out).mono ?_)); rintro e w2 ⟨rfl, hb2⟩) | (go_at_call 17; ((with_reducible refine (K3.out _ _ _ (HR.out.next hb2) HC.out).mono ?_)); rintro e w3 ⟨rfl, hb3⟩) | (go_at_call 17; ((with_reducible refine (K4.out _ _ _ ((HR.out.next hb2).next hb3) HC.out).mono ?_)); rintro e w4 ⟨rfl, hb4⟩))
  go_ret
  have z2 := hb1.trans (hb2.mono hb1.size)
  have z3 := z2.trans (hb3.mono z2.size)
  exact ⟨rfl, z3.trans (hb4.mono z3.size)⟩
end Go.Proofs.Ytafnlbcpnamdkaa
