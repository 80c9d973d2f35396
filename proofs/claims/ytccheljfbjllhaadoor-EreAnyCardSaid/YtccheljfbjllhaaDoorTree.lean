/- Expressions in memory: words for trees that are only read. -/
import Derived.Test.YtccheljfbjllhaaDoorMem
import Derived.Test.YtccheljfbjllhaaDoorPlain
import Derived.Deep.QuietTactic
import Derived.Deep.Slices
import Derived.RegionTactic
import Derived.BigQuiet
namespace Go.Proofs.YtccheljfbjllhaaDoor
open Go Go.RowKit

theorem block_of_add (a : Addr) (n : Nat) : (a.add n).block = a.block := by unfold Addr.add; split <;> rfl
theorem add_one (ad : Addr) (m i : Nat) (h : 0 < i) : (⟨(ad.add m).block, (ad.add m).off + i, none⟩ : Addr) = ad.add (m + i) := by
  unfold Addr.add
  by_cases hk : m = 0
  · subst hk
    have : ¬ i = 0 := by omega
    simp [this]
  · have : ¬ m + i = 0 := by omega
    simp [hk, Nat.add_assoc]
def setV (S : S4) : Value := .agg #[.int .u64 S.1.toNat, .int .u64 S.2.1.toNat, .int .u64 S.2.2.1.toNat, .int .u64 S.2.2.2.toNat]
/-- The value of an expression whose Kids are that slice. -/
def valR (r : Re) (A : Option Addr) (c : Nat) : Value := match r with
  | .mk k S ks lo hi n => .agg #[.int .i64 k, .int .u64 S.1.toNat, .int .u64 S.2.1.toNat, .int .u64 S.2.2.1.toNat, .int .u64 S.2.2.2.toNat, .slice A ks.length c, .int .i64 lo, .int .i64 hi, .int .i64 n]
/-- The nine cells of an expression. -/
def At9 (w : World) (a : Addr) (r : Re) (A : Option Addr) (c : Nat) : Prop := match r with
  | .mk k S ks lo hi n =>
    w.cell? a = some (.int .i64 k) ∧ w.cell? ⟨a.block, a.off + 1, none⟩ = some (.int .u64 S.1.toNat) ∧ w.cell? ⟨a.block, a.off + 2, none⟩ = some (.int .u64 S.2.1.toNat) ∧
    w.cell? ⟨a.block, a.off + 3, none⟩ = some (.int .u64 S.2.2.1.toNat) ∧ w.cell? ⟨a.block, a.off + 4, none⟩ = some (.int .u64 S.2.2.2.toNat) ∧
    w.cell? ⟨a.block, a.off + 5, none⟩ = some (.slice A ks.length c) ∧ w.cell? ⟨a.block, a.off + 6, none⟩ = some (.int .i64 lo) ∧
    w.cell? ⟨a.block, a.off + 7, none⟩ = some (.int .i64 hi) ∧ w.cell? ⟨a.block, a.off + 8, none⟩ = some (.int .i64 n)
mutual
/-- The Kids of the slice lie in blocks of that kind. -/
def Kids (P : Nat → Prop) (w : World) (A : Option Addr) : Re → Prop
  | .mk _ _ ks _ _ _ => ks = [] ∨ ∃ ad, A = some ad ∧ P ad.block ∧ KidsL P w ad 0 ks
def KidsL (P : Nat → Prop) (w : World) (ad : Addr) (i : Nat) : List Re → Prop
  | [] => True
  | r :: rs => (∃ A c, At9 w (ad.add (i * 9)) r A c ∧ Kids P w A r) ∧ KidsL P w ad (i + 1) rs
end
theorem kidsL_at {P : Nat → Prop} {w : World} {ad : Addr} : ∀ {l : List Re} {i k : Nat} {r : Re}, KidsL P w ad i l → l[k]? = some r → ∃ A c, At9 w (ad.add ((i + k) * 9)) r A c ∧ Kids P w A r
  | [], i, k, r, _, hk => by simp at hk
  | x :: l, i, 0, r, h, hk => by
    injection hk with hk; subst hk
    rw [KidsL] at h
    exact h.1
  | x :: l, i, k + 1, r, h, hk => by
    rw [KidsL] at h
    have := kidsL_at h.2 (k := k) (r := r) (by simpa using hk)
    rw [show i + (k + 1) = i + 1 + k by omega]
    exact this
theorem kids_at {P : Nat → Prop} {w : World} {A : Option Addr} {r x : Re} {k : Nat} (h : Kids P w A r) (hk : r.kids[k]? = some x) : ∃ ad A' c, A = some ad ∧ P ad.block ∧ At9 w (ad.add (k * 9)) x A' c ∧ Kids P w A' x := by
  obtain ⟨k0, S, ks, lo, hi, n⟩ := r
  rw [Kids] at h
  rcases h with h | ⟨ad, rfl, hp, hl⟩
  · simp [Re.kids, h] at hk
  · obtain ⟨A', c, h1, h2⟩ := kidsL_at hl hk
    rw [Nat.zero_add] at h1
    exact ⟨ad, A', c, rfl, hp, h1, h2⟩
theorem At9.keep {w w' : World} {a : Addr} {r : Re} {A : Option Addr} {c : Nat} (h : At9 w a r A c) (hs : ∀ o, w'.cell? ⟨a.block, o, none⟩ = w.cell? ⟨a.block, o, none⟩) (h0 : w'.cell? a = w.cell? a) : At9 w' a r A c := by
  obtain ⟨k, S, ks, lo, hi, n⟩ := r
  obtain ⟨a0, a1, a2, a3, a4, a5, a6, a7, a8⟩ := h
  exact ⟨h0.trans a0, (hs _).trans a1, (hs _).trans a2, (hs _).trans a3, (hs _).trans a4, (hs _).trans a5, (hs _).trans a6, (hs _).trans a7, (hs _).trans a8⟩
/-- Blocks of that kind are in w' as they are in w. -/
def SameOn (P : Nat → Prop) (w w' : World) : Prop := ∀ a : Addr, P a.block → w'.cell? a = w.cell? a
theorem kidsL_of {P Q : Nat → Prop} {w w' : World} (ad : Addr) : ∀ (l : List Re) (i : Nat), (∀ r ∈ l, ∀ A, Kids P w A r → Kids Q w' A r) → SameOn P w w' → P ad.block → KidsL P w ad i l → KidsL Q w' ad i l
  | [], i, _, _, _, h => by rw [KidsL]; trivial
  | r :: l, i, ih, hs, hp, h => by
    rw [KidsL] at h ⊢
    obtain ⟨⟨A, c, h1, h2⟩, h3⟩ := h
    refine ⟨⟨A, c, h1.keep (fun o => hs _ ?_) (hs _ ?_), ih r (by simp) A h2⟩, kidsL_of ad l (i + 1) (fun r hr => ih r (by simp [hr])) hs hp h3⟩
    · show P (ad.add (i * 9)).block
      rw [block_of_add]; exact hp
    · rw [block_of_add]; exact hp
theorem kids_of {P Q : Nat → Prop} {w w' : World} (hs : SameOn P w w') (hpq : ∀ k, P k → Q k) : ∀ (r : Re) (A : Option Addr), Kids P w A r → Kids Q w' A r := by
  intro r
  induction r using Re.ind with
  | h k S ks lo hi n ih =>
    intro A h
    rw [Kids] at h ⊢
    rcases h with h | ⟨ad, rfl, hp, hl⟩
    · exact .inl h
    · exact .inr ⟨ad, rfl, hpq _ hp, kidsL_of ad ks 0 ih hs hp hl⟩
def Lt (B : Nat) : Nat → Prop := fun k => k < B
theorem same_below {B : Nat} {w w' : World} (hb : Below B w w') : SameOn (Lt B) w w' := fun _ h => hb.cell h
theorem Kids.keep {B : Nat} {w w' : World} {A : Option Addr} {r : Re} (h : Kids (Lt B) w A r) (hb : Below B w w') : Kids (Lt B) w' A r := kids_of (same_below hb) (fun _ h => h) r A h
theorem Kids.up {B B' : Nat} {w : World} {A : Option Addr} {r : Re} (h : Kids (Lt B) w A r) (hB : B ≤ B') : Kids (Lt B') w A r := kids_of (fun _ _ => rfl) (fun k h => by unfold Lt at *; omega) r A h
theorem Kids.next {w w' : World} {A : Option Addr} {r : Re} (h : Kids (Lt w.heap.size) w A r) (hb : Below w.heap.size w w') : Kids (Lt w'.heap.size) w' A r := (h.keep hb).up hb.size
theorem get_of_lt {α : Type} {l : List α} {k n : Nat} (hn : n = l.length) (h : k < n) : ∃ p, l[k]? = some p := ⟨_, List.getElem?_eq_getElem (by omega)⟩
theorem groupsL_take {l : List Re} {k : Nat} {r : Re} (h : l[k]? = some r) : groupsL (l.take (k + 1)) = groupsL (l.take k) + groups r := by
  obtain ⟨hk, e⟩ := List.getElem?_eq_some_iff.1 h
  rw [List.take_succ_eq_append_getElem hk, e]
  have : ∀ a b : List Re, groupsL (a ++ b) = groupsL a + groupsL b := by
    intro a b
    induction a with
    | nil => simp [groupsL]
    | cons x a ih => rw [List.cons_append, groupsL, ih, groupsL]; omega
  rw [this]; simp [groupsL]
theorem groups_of {k : Int} {S : S4} {ks : List Re} {lo hi n : Int} : groups (.mk k S ks lo hi n) = (if k = 7 then 1 else 0) + groupsL ks := by rw [groups]
theorem groups_le (r : Re) : groups r ≤ sizeE r := by
  induction r using Re.ind with
  | h k S ks lo hi n ih =>
    rw [groups, sizeE]
    have : groupsL ks ≤ sizeL ks := by
      clear n lo hi S
      induction ks with
      | nil => simp [groupsL, sizeL]
      | cons x l ih2 =>
        rw [groupsL, sizeL]
        have := ih x (by simp)
        have := ih2 (fun r hr => ih r (by simp [hr]))
        omega
    split <;> omega
theorem sizeL_mem {l : List Re} {r : Re} (h : r ∈ l) : sizeE r ≤ sizeL l := by
  induction l with
  | nil => cases h
  | cons x l ih =>
    rw [sizeL]
    rcases List.mem_cons.1 h with rfl | h
    · omega
    · have := ih h; omega
theorem groupsL_le (l : List Re) : groupsL l ≤ sizeL l := by
  induction l with
  | nil => simp [groupsL, sizeL]
  | cons x l ih2 => rw [groupsL, sizeL]; have := groups_le x; omega
theorem sizeL_take (l : List Re) (k : Nat) : sizeL (l.take k) ≤ sizeL l := by
  induction l generalizing k with
  | nil => simp [sizeL]
  | cons x l ih =>
    cases k with
    | zero => simp [sizeL]
    | succ k => rw [List.take_succ_cons, sizeL, sizeL]; have := ih k; omega
theorem sizeL_len (l : List Re) : l.length ≤ sizeL l := by
  induction l with
  | nil => simp [sizeL]
  | cons x l ih => rw [sizeL, List.length_cons]; cases x; rw [sizeE]; omega
set_option maxRecDepth 100000 in
set_option maxHeartbeats 1000000 in
theorem groups_any (r : Re) : ∀ (A : Option Addr) (c : Nat) (w : World), Kids (Lt w.heap.size) w A r → sizeE r ≤ 1000000 → Calls Tryd.prog 12 #[valR r A c] w fun e w' => e = .returned (.int .i64 (groups r)) ∧ Below w.heap.size w w' := by
  induction r using Re.ind with
  | h k S ks lo hi n ih =>
    intro A c w hk hs
    simp only [valR]
    obtain ⟨G, hG⟩ : ∃ G : Int, G = groups (.mk k S ks lo hi n) := ⟨_, rfl⟩
    rw [← hG]
    obtain ⟨m, hm⟩ : ∃ m, m = ks.length := ⟨_, rfl⟩
    rw [← hm]
    have hmx := sizeL_len ks
    rw [sizeE] at hs
    have hm9 : m ≤ 1000000 := by omega
    obtain ⟨g0, hg0⟩ : ∃ g0 : Int, g0 = if k = 7 then 1 else 0 := ⟨_, rfl⟩
    have hGG : G = g0 + groupsL ks := by rw [hG, hg0, groups]; split <;> simp
    have HGG := Lib.hid hGG
    have HM := Lib.hid hm
    have HK := Lib.hid hk
    have HI := Lib.hid ih
    have HS := Lib.hid hs
    have hgb : 0 ≤ g0 ∧ g0 ≤ 1 := by rw [hg0]; split <;> omega
    obtain ⟨hgb0, hgb1⟩ := hgb
    have hcase : (k == 7) = true ∧ Hid (g0 = 1) ∨ (k == 7) = false ∧ Hid (g0 = 0) := by
      by_cases k7 : k = 7
      · rw [if_pos k7] at hg0; exact .inl ⟨by simp [k7], Lib.hid hg0⟩
      · rw [if_neg k7] at hg0; exact .inr ⟨by simp [k7], Lib.hid hg0⟩
    clear hk ih hG hGG hm hs hmx hg0
    obtain ⟨s0, hs0⟩ : ∃ s0 : Int, s0 = S.1.toNat := ⟨_, rfl⟩
    obtain ⟨s1, hs1⟩ : ∃ s1 : Int, s1 = S.2.1.toNat := ⟨_, rfl⟩
    obtain ⟨s2, hs2⟩ : ∃ s2 : Int, s2 = S.2.2.1.toNat := ⟨_, rfl⟩
    obtain ⟨s3, hs3⟩ : ∃ s3 : Int, s3 = S.2.2.2.toNat := ⟨_, rfl⟩
    rw [← hs0, ← hs1, ← hs2, ← hs3]
    clear hs0 hs1 hs2 hs3
    rcases hcase with ⟨b7, hz⟩ | ⟨b7, hz⟩
    all_goals (
      go_enter Tryd.func12, Tryd.ntmps12
      go_wp2
      go_loopw [3, 12] (fun g i wr => ∃ j : Nat, j ≤ m ∧ i = .int .i64 j ∧ g = .int .i64 (g0 + groupsL (ks.take j)) ∧ Below w.heap.size w wr) (fun _ i _ => m - (intOf i).toNat)
      case atStart => exact ⟨0, by omega, rfl, by rw [hz.out]; rfl, (Below.refl _ _).alloc (Nat.le_refl _) _⟩
      case round =>
        obtain ⟨j, hj, rfl, rfl, hb⟩ := hrel
        by_cases a : j < m
        · obtain ⟨r, hr⟩ := get_of_lt HM.out a
          obtain ⟨ad, A', c', rfl, hp, h9, hkr⟩ := kids_at HK.out hr
          have h9 := h9.keep (w' := wr) (fun o => hb.cell (by show (ad.add (j * 9)).block < _; rw [block_of_add]; exact hp)) (hb.cell (by rw [block_of_add]; exact hp))
          have hmem := List.mem_of_getElem? hr
          have hsz := sizeL_mem hmem
          have hso := HS.out
          have hgl := groupsL_le (ks.take j)
          have hsl := sizeL_take ks j
          have hgr := groups_le r
          have K : ∀ w2, Below w.heap.size w w2 → Calls Tryd.prog 12 #[valR r A' c'] w2 fun e w' => e = .returned (.int .i64 (groups r)) ∧ Below w2.heap.size w2 w' := fun w2 h2 =>
            HI.out r hmem A' c' w2 (hkr.next h2) (by omega)
          have HX := Lib.hid (groupsL_take hr)
          obtain ⟨k', S', ks', lo', hi', n'⟩ := r
          obtain ⟨gr, hgr2⟩ : ∃ gr : Nat, gr = groups (Re.mk k' S' ks' lo' hi' n') := ⟨_, rfl⟩
          rw [← hgr2] at K hgr HX
          obtain ⟨gl, hgl2⟩ : ∃ gl : Nat, gl = groupsL (ks.take j) := ⟨_, rfl⟩
          rw [← hgl2] at hgl HX ⊢
          simp only [valR] at K
          have HKC := Lib.hid K
          obtain ⟨c0, c1, c2, c3, c4, c5, c6, c7, c8⟩ := h9
          clear hr hkr hmem K hgr2 hgl2
          go_wp2_with (go_at_call 12; ((with_reducible refine (HKC.out _ (hb.alloc hb.size _)).mono ?_)); rintro e w' ⟨rfl, hb2⟩)
          go_roundw
          case rel => exact ⟨j + 1, by omega, by go_num, by rw [HX.out]; push_cast; congr 1; omega, (hb.alloc hb.size _).trans (hb2.mono (by simp; have := hb.size; omega))⟩
          case measure => simp [intOf]; omega
        · have HE : Hid (ks.take j = ks) := Lib.hid (List.take_of_length_le (by have := HM.out; omega))
          rw [HE.out]
          go_wp2
          go_ret
          exact ⟨ret_int HGG.out.symm, hb⟩)
end Go.Proofs.YtccheljfbjllhaaDoor
