/- The contract of the code's reader, for every text of up to 100000 bytes. -/
import Derived.Test.YtgamlhhchagnaaaMem
namespace Go.Proofs.Ytgamlhhchagnaaa
open Go Go.RowKit

theorem addtext_any (B : Nat) (w0 w : World) (vp vt : Value) (ps : List Pt) (t : Bs) (hp : ps.length ≤ 1000000) (h : Two2 B w0 w vp vt ps t) : Calls Try.prog 20 #[vp, vt] w (Added B w0 vt (flush ps t) t) := by
  by_cases h0 : t = []
  · subst h0; exact addtext_no B w0 w vp vt ps h
  · exact addtext_yes B w0 w vp vt ps t hp h0 h
theorem text_cut {w : World} {B g n cap : Nat} {xs : List Value} (h : w.ownsRow B 5 1 (.slice (some ⟨g, 0, none⟩) n cap) n xs) : w.ownsRow B 5 1 (.slice (some ⟨g, 0, none⟩) 0 cap) 0 [] := by
  refine ⟨rfl, ?_⟩
  rcases h.2 with ⟨h', _⟩ | ⟨g', cap', cur, h', hb, hg, hc, hm, hs, _⟩
  · simp at h'
  · simp only [Value.slice.injEq, Option.some.injEq, Addr.mk.injEq, and_true, true_and] at h'
    obtain ⟨rfl, rfl⟩ := h'
    exact .inr ⟨g, cap, cur, rfl, hb, hg, Nat.zero_le _, hm, hs, by simp⟩
theorem Two2.cut {B : Nat} {w0 w : World} {vp : Value} {ps : List Pt} {t : Bs} {g cap n : Nat} (h : Two2 B w0 w vp (.slice (some ⟨g, 0, none⟩) n cap) ps t) (hn : n = t.length) : Two2 B w0 w vp (.slice (some ⟨g, 0, none⟩) 0 cap) ps [] :=
  ⟨h.parts, text_cut (n := n) (xs := byteCells t) (by rw [hn]; rw [hn] at h; exact h.text), h.below, h.size⟩
theorem Two2.nilt {B : Nat} {w0 w : World} {vp : Value} {ps : List Pt} {t : Bs} (h : Two2 B w0 w vp (.slice none 0 0) ps t) : Two2 B w0 w vp (.slice none 0 0) ps [] :=
  ⟨h.parts, World.ownsRow_nil _ _ _ _, h.below, h.size⟩
theorem Two2.byte {B : Nat} {w0 w w' : World} {vp vt v' : Value} {ps : List Pt} {t : Bs} {b : UInt8} (h : Two2 B w0 w vp vt ps t)
    (ho : w'.ownsRow B 5 1 v' (t.length + 1) (byteCells t ++ [.int .u8 b.toNat])) (hg : w.grownBy w' vt.ownBlock) : Two2 B w0 w' vp v' ps (t ++ [b]) :=
  ⟨h.parts.kept hg (own_ne h.parts h.text (by decide)), by rw [List.length_append]; simpa [byteCells, Lib.byteCells] using ho, h.below.grown hg h.size (fun k hk => (h.text.lt k hk).1), Nat.le_trans h.size hg.size⟩
theorem below_kept {w w' : World} {B e s n : Nat} {v : Value} {xs : List Value} (h : w.ownsRow B e s v n xs) (hb : Below w.heap.size w w') : w'.ownsRow B e s v n xs :=
  h.kept (row := none) ⟨hb.os, hb.tape, hb.output, hb.size, fun k hk _ => hb.block k hk⟩ (by cases v.ownBlock <;> simp)
theorem Two2.beyond {B : Nat} {w0 w w' : World} {vp vt : Value} {ps : List Pt} {t : Bs} (h : Two2 B w0 w vp vt ps t) (hb : Below w.heap.size w w') : Two2 B w0 w' vp vt ps t :=
  ⟨below_kept h.parts hb, below_kept h.text hb, h.below.trans (hb.mono h.size), Nat.le_trans h.size hb.size⟩
def errOf (o : Option (List Pt)) : Int := match o with | none => 1 | some _ => 0
def outOf (o : Option (List Pt)) : List Pt := match o with | none => [] | some l => l
/-- What a reader leaves. -/
def PostP (B : Nat) (w : World) (R : Option (List Pt) × Nat) (e : Ending) (w' : World) : Prop :=
  ∃ v, e = .returned (.tuple #[v, .int .i64 R.2, .int .i64 (errOf R.1)]) ∧ w'.ownsRow B 33 2 v (outOf R.1).length (cellsP (outOf R.1)) ∧ Below B w w'
theorem one_one (b : Int) : ∀ u ∈ [Value.int .u8 b], u.oneCell' = true := by
  intro u hu
  simp only [List.mem_cons, List.not_mem_nil, or_false] at hu
  rcases hu with rfl; rfl
def LoopP (s : ByteArray) (w0 : World) (R : Option (List Pt) × Nat) (vp vt a : Value) (w : World) : Prop :=
  ∃ (k : Nat) (ps : List Pt) (t : Bs), k ≤ s.size ∧ a = .int .i64 k ∧ goN (s.data.toList.drop k) k ps t = R ∧ Two2 w0.heap.size w0 w vp vt ps t ∧ ps.length ≤ k * 2 ∧ t.length ≤ k
theorem flush_len (ps : List Pt) (t : Bs) : (flush ps t).length ≤ ps.length + 1 := by unfold flush; split <;> simp
theorem postP_bad {w w' : World} {vp vt : Value} {ps : List Pt} {t : Bs} {R : Option (List Pt) × Nat} {n : Nat} {q : Int} (h : Two2 w.heap.size w w' vp vt ps t) (hR : R = (none, n)) (hq : q = n) :
    PostP w.heap.size w R (.returned (.tuple #[.slice none 0 0, .int .i64 q, .int .i64 1])) w' := by
  subst hR hq
  exact ⟨_, rfl, World.ownsRow_nil _ _ _ _, h.below⟩
theorem parse_first (s : ByteArray) (h : parse s.data.toList = (none, 0)) (h0 : ¬ 0 < s.size) (w : World) : Calls Try.prog 11 #[.string s] w (PostP w.heap.size w (parse s.data.toList)) := by
  rw [h]
  have e := isEmpty_t s h0
  have he : s.toList.isEmpty = true := by rw [toList_data, e]; rfl
  have he2 : s.toList = [] := by rw [toList_data, e]
  clear e h
  go_enter Try.func11, Try.ntmps11
  go_wp2
  go_ret3
  exact ⟨_, rfl, World.ownsRow_nil _ _ _ _, Below.refl _ _⟩
theorem parse_second (s : ByteArray) (h0 : 0 < s.size) (hc : s[0] ≠ 34) (w : World) : Calls Try.prog 11 #[.string s] w (PostP w.heap.size w (parse s.data.toList)) := by
  have hd := drop_at s 0 h0
  rw [drop0] at hd
  rw [hd, parse_no _ _ hc]
  have he := isEmpty_f s h0
  have hx : ((s[0].toNat : Int) != 34) = true := by
    have := byte_ne (n := 34) hc (by omega)
    simp only [bne]; simpa using this
  clear hd hc
  go_enter Try.func11, Try.ntmps11
  go_wp2
  go_ret3
  exact ⟨_, rfl, World.ownsRow_nil _ _ _ _, Below.refl _ _⟩
end Go.Proofs.Ytgamlhhchagnaaa
