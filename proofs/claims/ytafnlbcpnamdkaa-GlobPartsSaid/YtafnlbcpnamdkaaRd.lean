/- Lists of pieces that are only read: words for their memory, and the contracts that only look at them: small, May, onlyMany. -/
import Derived.Test.YtafnlbcpnamdkaaRParse
import Derived.Deep.Slices
import Derived.RegionTactic
import Derived.BigQuiet
namespace Go.Proofs.Ytafnlbcpnamdkaa
open Go Go.RowKit

theorem block_of_add (a : Addr) (n : Nat) : (a.add n).block = a.block := by unfold Addr.add; split <;> rfl
theorem add_one (ad : Addr) (m i : Nat) (h : 0 < i) : (⟨(ad.add m).block, (ad.add m).off + i, none⟩ : Addr) = ad.add (m + i) := by
  unfold Addr.add
  by_cases hk : m = 0
  · subst hk
    have : ¬ i = 0 := by omega
    simp [this]
  · have : ¬ m + i = 0 := by omega
    simp [hk, Nat.add_assoc]
def RdS (B : Nat) (w : World) (A : Option Addr) (l : List Sp) : Prop := 0 < l.length → ∃ ad, A = some ad ∧ ad.block < B ∧ ∀ j u, (cellsS l)[j]? = some u → w.cell? (ad.add j) = some u
theorem RdS.keep {B : Nat} {w w' : World} {A : Option Addr} {l : List Sp} (h : RdS B w A l) (hb : Below B w w') : RdS B w' A l := by
  intro hn
  obtain ⟨ad, e, hlt, hc⟩ := h hn
  exact ⟨ad, e, hlt, fun j u hu => (hb.cell (by rw [block_of_add]; exact hlt)).trans (hc j u hu)⟩
theorem RdS.up {B B' : Nat} {w : World} {A : Option Addr} {l : List Sp} (h : RdS B w A l) (hB : B ≤ B') : RdS B' w A l := by
  intro hn
  obtain ⟨ad, e, hlt, hc⟩ := h hn
  exact ⟨ad, e, by omega, hc⟩
theorem cellsS_at : ∀ (l : List Sp) (k : Nat) (p : Sp), l[k]? = some p → (cellsS l)[k * 2]? = some (.int .u8 p.1.toNat) ∧ (cellsS l)[k * 2 + 1]? = some (.int .u8 p.2.toNat)
  | [], k, p, h => by simp at h
  | q :: r, 0, p, h => by
    injection h with h; subst h; rw [cellsS_cons]; simp
  | q :: r, k + 1, p, h => by
    have ih := cellsS_at r k p (by simpa using h)
    rw [cellsS_cons, show (k + 1) * 2 = k * 2 + 2 by omega]
    simpa using ih
/-- The two cells of a span. -/
def At2 (w : World) (a : Addr) (x y : Int) : Prop := w.cell? a = some (.int .u8 x) ∧ w.cell? ⟨a.block, a.off + 1, none⟩ = some (.int .u8 y)
theorem RdS.at_ {B : Nat} {w : World} {A : Option Addr} {l : List Sp} {k : Nat} {p : Sp} (h : RdS B w A l) (hk : l[k]? = some p) : ∃ ad, A = some ad ∧ At2 w (ad.add (k * 2)) p.1.toNat p.2.toNat := by
  obtain ⟨ad, e, _, hc⟩ := h (by have := (List.getElem?_eq_some_iff.1 hk).1; omega)
  obtain ⟨a, b⟩ := cellsS_at l k p hk
  exact ⟨ad, e, hc _ _ a, by rw [add_one _ _ _ (by omega)]; exact hc _ _ b⟩
theorem rds_of_own {w : World} {B : Nat} {A : Option Addr} {c : Nat} {l : List Sp} (h : w.ownsRow B 48 2 (.slice A l.length c) l.length (cellsS l)) : RdS w.heap.size w A l := by
  intro hn
  rcases h.2 with ⟨h0, h1⟩ | ⟨g, cap, cur, hv, hb, hg, _⟩
  · omega
  · injection hv with hA _ hc
    subst hA hc
    refine ⟨_, rfl, (Array.getElem?_eq_some_iff.1 hg).1, h.cells (g := g) rfl⟩
/-- The three cells of a piece. -/
def At3 (w : World) (a : Addr) (x y : Int) (A : Option Addr) (n c : Nat) : Prop :=
  w.cell? a = some (.int .i64 x) ∧ w.cell? ⟨a.block, a.off + 1, none⟩ = some (.int .u8 y) ∧ w.cell? ⟨a.block, a.off + 2, none⟩ = some (.slice A n c)
def RdG (B : Nat) (w : World) (A : Option Addr) (n : Nat) (gs : List Gl) : Prop := n = gs.length ∧ (0 < n → ∃ ad, A = some ad ∧ ad.block < B ∧ ∀ i g, gs[i]? = some g →
  ∃ A' c', At3 w (ad.add (i * 3)) g.kind g.byte.toNat A' g.spans.length c' ∧ RdS B w A' g.spans)
theorem RdG.keep {B : Nat} {w w' : World} {A : Option Addr} {n : Nat} {gs : List Gl} (h : RdG B w A n gs) (hb : Below B w w') : RdG B w' A n gs := by
  refine ⟨h.1, fun hn => ?_⟩
  obtain ⟨ad, e, hlt, hc⟩ := h.2 hn
  refine ⟨ad, e, hlt, fun i g hg => ?_⟩
  obtain ⟨A', c', ⟨a1, a2, a3⟩, hr⟩ := hc i g hg
  refine ⟨A', c', ⟨(hb.cell (by rw [block_of_add]; exact hlt)).trans a1, (hb.cell (by show (ad.add (i * 3)).block < B; rw [block_of_add]; exact hlt)).trans a2, (hb.cell (by show (ad.add (i * 3)).block < B; rw [block_of_add]; exact hlt)).trans a3⟩, hr.keep hb⟩
theorem RdG.up {B B' : Nat} {w : World} {A : Option Addr} {n : Nat} {gs : List Gl} (h : RdG B w A n gs) (hB : B ≤ B') : RdG B' w A n gs := by
  refine ⟨h.1, fun hn => ?_⟩
  obtain ⟨ad, e, hlt, hc⟩ := h.2 hn
  refine ⟨ad, e, by omega, fun i g hg => ?_⟩
  obtain ⟨A', c', h3, hr⟩ := hc i g hg
  exact ⟨A', c', h3, hr.up hB⟩
/-- Kept by a call that makes memory, at the later world's own size. -/
theorem RdG.next {w w' : World} {A : Option Addr} {n : Nat} {gs : List Gl} (h : RdG w.heap.size w A n gs) (hb : Below w.heap.size w w') : RdG w'.heap.size w' A n gs := (h.keep hb).up hb.size
theorem RdG.at_ {B : Nat} {w : World} {A : Option Addr} {n : Nat} {gs : List Gl} {k : Nat} {g : Gl} (h : RdG B w A n gs) (hk : gs[k]? = some g) :
    ∃ ad A' c', A = some ad ∧ At3 w (ad.add (k * 3)) g.kind g.byte.toNat A' g.spans.length c' ∧ RdS B w A' g.spans := by
  obtain ⟨ad, e, _, hc⟩ := h.2 (by have := (List.getElem?_eq_some_iff.1 hk).1; have := h.1; omega)
  obtain ⟨A', c', h3, hr⟩ := hc k g hk
  exact ⟨ad, A', c', e, h3, hr⟩
theorem cellsQ_at : ∀ (l : List Gv) (k : Nat) (x : Gv), l[k]? = some x → (cellsQ l)[k * 3]? = some (.int .i64 x.1.kind) ∧ (cellsQ l)[k * 3 + 1]? = some (.int .u8 x.1.byte.toNat) ∧ (cellsQ l)[k * 3 + 2]? = some x.2
  | [], k, p, h => by simp at h
  | q :: r, 0, p, h => by
    injection h with h; subst h; rw [cellsQ_cons]; simp
  | q :: r, k + 1, p, h => by
    have ih := cellsQ_at r k p (by simpa using h)
    rw [cellsQ_cons, show (k + 1) * 3 = k * 3 + 3 by omega]
    simpa using ih
theorem rdg_of_own {w0 w : World} {B : Nat} {v : Value} {l : List Gv} (h : Pcs B w0 w v l) : ∃ A c, v = .slice A l.length c ∧ RdG w.heap.size w A l.length (l.map (·.1)) := by
  have hrow := h.row
  rcases h.row.2 with ⟨rfl, h0⟩ | ⟨g, cap, cur, rfl, hb, hg, _⟩
  · exact ⟨none, 0, by rw [h0], by simp, fun hn => by omega⟩
  · refine ⟨_, _, rfl, by simp, fun hn => ⟨_, rfl, (Array.getElem?_eq_some_iff.1 hg).1, fun i gl hi => ?_⟩⟩
    rw [List.getElem?_map, Option.map_eq_some_iff] at hi
    obtain ⟨x, hx, rfl⟩ := hi
    obtain ⟨a, b, c⟩ := cellsQ_at l i x hx
    have hs := h.spans x (List.mem_of_getElem? hx)
    obtain ⟨A', c', e⟩ := row_slice hs
    refine ⟨A', c', ⟨h.row.cells (g := g) rfl _ _ a, ?_, ?_⟩, rds_of_own (c := c') (by rw [← e]; exact hs)⟩
    · rw [add_one _ _ _ (by omega)]; exact h.row.cells (g := g) rfl _ _ b
    · rw [add_one _ _ _ (by omega), h.row.cells (g := g) rfl _ _ c, e]
theorem RdG.drop {B : Nat} {w : World} {ad : Addr} {n : Nat} {gs : List Gl} (h : RdG B w (some ad) n gs) (k : Nat) : RdG B w (some (ad.add (k * 3))) (n - k) (gs.drop k) := by
  refine ⟨by rw [List.length_drop, h.1], fun hn => ?_⟩
  obtain ⟨ad', e, hlt, hc⟩ := h.2 (by omega)
  injection e with e; subst e
  refine ⟨_, rfl, by rw [block_of_add]; exact hlt, fun i g hg => ?_⟩
  rw [List.getElem?_drop] at hg
  obtain ⟨A', c', h3, hr⟩ := hc _ g hg
  refine ⟨A', c', ?_, hr⟩
  rw [Go.Deep.add_add, show k * 3 + i * 3 = (k + i) * 3 by omega]
  exact h3
theorem RdG.take {B : Nat} {w : World} {A : Option Addr} {n : Nat} {gs : List Gl} (h : RdG B w A n gs) (k : Nat) (hk : k ≤ n) : RdG B w A k (gs.take k) := by
  refine ⟨by rw [List.length_take, ← h.1]; omega, fun hn => ?_⟩
  obtain ⟨ad, e, hlt, hc⟩ := h.2 (by omega)
  refine ⟨ad, e, hlt, fun i g hg => hc i g ?_⟩
  rw [List.getElem?_take] at hg
  split at hg
  · exact hg
  · cases hg
theorem RdG.none_ {B : Nat} {w : World} {A : Option Addr} : RdG B w A 0 [] := ⟨rfl, fun h => by omega⟩
theorem all_take {α : Type} {ps : List α} {k : Nat} {p : α} (f : α → Bool) (h : ps[k]? = some p) : (ps.take (k + 1)).all f = ((ps.take k).all f && f p) := by
  obtain ⟨hk, e⟩ := List.getElem?_eq_some_iff.1 h
  rw [List.take_succ_eq_append_getElem hk, e]; simp
theorem all_not {α : Type} {ps : List α} {k : Nat} {p : α} (f : α → Bool) (h : ps[k]? = some p) (hf : f p = false) : ps.all f = false := by
  rw [List.all_eq_false]
  exact ⟨p, List.mem_of_getElem? h, by simp [hf]⟩
theorem any_take {α : Type} {ps : List α} {k : Nat} {p : α} (f : α → Bool) (h : ps[k]? = some p) : (ps.take (k + 1)).any f = ((ps.take k).any f || f p) := by
  obtain ⟨hk, e⟩ := List.getElem?_eq_some_iff.1 h
  rw [List.take_succ_eq_append_getElem hk, e]; simp
theorem any_yes {α : Type} {ps : List α} {k : Nat} {p : α} (f : α → Bool) (h : ps[k]? = some p) (hf : f p = true) : ps.any f = true := by
  rw [List.any_eq_true]
  exact ⟨p, List.mem_of_getElem? h, hf⟩
theorem get_of_lt {α : Type} {l : List α} {k n : Nat} (hn : n = l.length) (h : k < n) : ∃ p, l[k]? = some p := ⟨_, List.getElem?_eq_getElem (by omega)⟩
/- small. -/
def okW (g : Gl) : Bool := decide (g.spans.length ≤ 40)
def smallG (gs : List Gl) : Bool := decide (gs.length ≤ 80) && gs.all okW
set_option maxHeartbeats 1000000 in
theorem small_any (A : Option Addr) (n c : Nat) (gs : List Gl) (w : World) (h : RdG w.heap.size w A n gs) (hmax : n ≤ 9223372036854775807) :
    Calls Try.prog 8 #[.slice A n c] w fun e w' => e = .returned (.bool (smallG gs)) ∧ Below w.heap.size w w' := by
  have hn := h.1
  obtain ⟨v, hv⟩ : ∃ v, v = smallG gs := ⟨_, rfl⟩
  rw [← hv]
  by_cases h80 : n ≤ 80
  · have HV : Hid (v = gs.all okW) := by apply Lib.hid; rw [hv]; unfold smallG; rw [← hn]; simp [h80]
    have HR := Lib.hid h
    have HN := Lib.hid hn
    clear hv h hn
    go_enter Try.func8, Try.ntmps8
    go_wp2
    go_loopw [10] (fun i wr => ∃ k : Nat, k ≤ n ∧ i = .int .i64 k ∧ (gs.take k).all okW = true ∧ Below w.heap.size w wr) (fun i _ => n - (intOf i).toNat)
    case atStart => exact ⟨0, by omega, rfl, rfl, Below.refl _ _⟩
    case round =>
      obtain ⟨k, hk, rfl, hall, hb⟩ := hrel
      have HA := Lib.hid hall
      clear hall
      by_cases a : k < n
      · obtain ⟨g, hg⟩ := get_of_lt HN.out a
        obtain ⟨ad, A', c', rfl, ⟨c0, c1, c2⟩, _⟩ := (HR.out.keep hb).at_ hg
        obtain ⟨m, hm⟩ : ∃ m, m = g.spans.length := ⟨_, rfl⟩
        rw [← hm] at c2
        have HM := Lib.hid hm
        have HG := Lib.hid hg
        clear hg hm
        by_cases l1 : m ≤ 40
        · have HX : Hid ((gs.take (k + 1)).all okW = true) := by apply Lib.hid; rw [all_take okW HG.out, HA.out]; simp [okW, ← HM.out, l1]
          go_wp2
          go_roundw
          case rel => exact ⟨k + 1, by omega, by go_num, HX.out, hb.alloc hb.size _⟩
          case measure => simp [intOf]; omega
        · have HX : Hid (v = false) := by apply Lib.hid; rw [HV.out]; exact all_not okW HG.out (by simp [okW, ← HM.out]; omega)
          go_wp2
          go_ret
          exact ⟨ret_bool HX.out.symm, hb.alloc hb.size _⟩
      · have HX : Hid (v = true) := by
          apply Lib.hid; rw [HV.out]
          have := HA.out
          rw [List.take_of_length_le (by have := HN.out; omega)] at this
          exact this
        go_wp2
        go_ret
        exact ⟨ret_bool HX.out.symm, hb⟩
  · have HV : Hid (v = false) := by apply Lib.hid; rw [hv]; unfold smallG; rw [← hn]; simp [h80]
    clear hv h hn
    go_enter Try.func8, Try.ntmps8
    go_wp2
    go_ret
    exact ⟨ret_bool HV.out.symm, Below.refl _ _⟩
set_option maxHeartbeats 1000000 in
theorem onlymany_any (A : Option Addr) (n c : Nat) (gs : List Gl) (w : World) (h : RdG w.heap.size w A n gs) (hmax : n ≤ 9223372036854775807) :
    Calls Try.prog 27 #[.slice A n c] w fun e w' => e = .returned (.bool (gs.all star)) ∧ Below w.heap.size w w' := by
  obtain ⟨v, hv⟩ : ∃ v, v = gs.all star := ⟨_, rfl⟩
  rw [← hv]
  have HV := Lib.hid hv
  have HR := Lib.hid h
  have HN := Lib.hid h.1
  clear hv h
  go_enter Try.func27, Try.ntmps27
  go_wp2
  go_loopw [7] (fun i wr => ∃ k : Nat, k ≤ n ∧ i = .int .i64 k ∧ (gs.take k).all star = true ∧ Below w.heap.size w wr) (fun i _ => n - (intOf i).toNat)
  case atStart => exact ⟨0, by omega, rfl, rfl, Below.refl _ _⟩
  case round =>
    obtain ⟨k, hk, rfl, hall, hb⟩ := hrel
    have HA := Lib.hid hall
    clear hall
    by_cases a : k < n
    · obtain ⟨g, hg⟩ := get_of_lt HN.out a
      obtain ⟨ad, A', c', rfl, ⟨c0, c1, c2⟩, _⟩ := (HR.out.keep hb).at_ hg
      obtain ⟨x, hx⟩ : ∃ x, x = g.kind := ⟨_, rfl⟩
      rw [← hx] at c0
      have HG := Lib.hid hg
      by_cases l1 : x = 2
      · have HX : Hid ((gs.take (k + 1)).all star = true) := by apply Lib.hid; rw [all_take star HG.out, HA.out]; simp [star, ← hx, l1]
        have l2 : (x != 2) = false := by simp [l1]
        clear hg hx l1
        go_wp2
        go_roundw
        case rel => exact ⟨k + 1, by omega, by go_num, HX.out, hb.alloc hb.size _⟩
        case measure => simp [intOf]; omega
      · have HX : Hid (v = false) := by apply Lib.hid; rw [HV.out]; exact all_not star HG.out (by simp [star, ← hx, l1])
        have l2 : (x != 2) = true := by simp [l1]
        clear hg hx l1
        go_wp2
        go_ret
        exact ⟨ret_bool HX.out.symm, hb.alloc hb.size _⟩
    · have HX : Hid (v = true) := by
        apply Lib.hid; rw [HV.out]
        have := HA.out
        rw [List.take_of_length_le (by have := HN.out; omega)] at this
        exact this
      go_wp2
      go_ret
      exact ⟨ret_bool HX.out.symm, hb⟩
end Go.Proofs.Ytafnlbcpnamdkaa
