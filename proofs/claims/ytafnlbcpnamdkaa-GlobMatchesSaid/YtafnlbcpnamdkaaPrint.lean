/- The contract of the code's Print, for up to 80 pieces of up to 40 spans. -/
import Derived.Test.YtafnlbcpnamdkaaAPiece
import Derived.Laws.BytesArg
namespace Go.Proofs.Ytafnlbcpnamdkaa
open Go Go.RowKit

def printR (gs : List Gl) : ByteArray × Int := if may gs = true then (if 200 < (text gs).length then (⟨#[]⟩, 2) else (⟨(text gs).toArray⟩, 0)) else (⟨#[]⟩, 5)
theorem small_n {gs : List Gl} (h : smallG gs = true) : gs.length ≤ 80 ∧ ∀ g ∈ gs, g.spans.length ≤ 40 := by
  unfold smallG at h
  rw [Bool.and_eq_true, decide_eq_true_eq, List.all_eq_true] at h
  exact ⟨h.1, fun g hg => by have := h.2 g hg; simpa [okW] using this⟩
theorem text_conv {w : World} {B g cap : Nat} {t : Bs} (h : w.ownsRow B 5 1 (.slice (some ⟨g, 0, none⟩) t.length cap) t.length (byteCells t)) :
    (convert 41 9 (.slice (some ⟨g, 0, none⟩) t.length cap)).run Try.prog w = .ok (.string ⟨t.toArray⟩) w := by
  refine run_convert_bytes_back (P := Try.prog) w 41 9 5 ⟨g, 0, none⟩ cap t Try.underlying41 Try.underlying5 Try.underlying9 ?_
  intro j hj
  exact h.cells (g := g) rfl j _ (by simp [byteCells, Lib.byteCells, hj])
theorem nil_conv (w : World) : (convert 41 9 (.slice none 0 0)).run Try.prog w = .ok (.string ⟨#[]⟩) w := by
  rw [run_convert_bytes_string w 41 9 5 none 0 0 Try.underlying41 Try.underlying5 Try.underlying9]
  rfl
theorem text_take {gs : List Gl} {k : Nat} {g : Gl} (h : gs[k]? = some g) : text (gs.take (k + 1)) = text (gs.take k) ++ textG g := take_flat textG h
theorem text_le (gs : List Gl) (k : Nat) : (text (gs.take k)).length ≤ (text gs).length := by
  have : text gs = text (gs.take k) ++ text (gs.drop k) := by unfold text; rw [← List.flatMap_append, List.take_append_drop]
  rw [this, List.length_append]; omega
def LoopW (w0 : World) (gs : List Gl) (n : Nat) (v i : Value) (w : World) : Prop := ∃ k : Nat, k ≤ n ∧ i = .int .i64 k ∧ RowB w0.heap.size w0 w v (text (gs.take k)) ∧ (text (gs.take k)).length ≤ 200
def PostW (w0 : World) (R : ByteArray × Int) (e : Ending) (w' : World) : Prop := e = .returned (.tuple #[.string R.1, .int .i64 R.2]) ∧ Below w0.heap.size w0 w'
set_option maxHeartbeats 2000000 in
theorem print_any (A : Option Addr) (n c : Nat) (gs : List Gl) (w : World) (h : RdG w.heap.size w A n gs) (hs : smallG gs = true) :
    Calls Try.prog 9 #[.slice A n c] w (PostW w (printR gs)) := by
  obtain ⟨hs1, hs2⟩ := small_n hs
  have hn80 : n ≤ 80 := by have := h.1; omega
  obtain ⟨R, hR⟩ : ∃ R, R = printR gs := ⟨_, rfl⟩
  rw [← hR]
  unfold printR at hR
  have K11 := may_any A n c gs w h (by omega) (fun g hg => by have := hs2 g hg; omega)
  have HR := Lib.hid h
  have HN := Lib.hid h.1
  have HS := Lib.hid hs2
  by_cases hm : may gs = true
  · rw [if_pos hm] at hR
    rw [hm] at K11
    have K11 := Lib.hid K11
    have HX := Lib.hid hR
    clear hR hm h hs hs1 hs2
    go_enter Try.func9, Try.ntmps9
    go_wp2_with (go_at_call 11; ((with_reducible refine (K11.out).mono ?_)); rintro e w1 ⟨rfl, hb1⟩; have HB := Lib.hid hb1; clear hb1)
    go_loopw [4, 12] (fun v i wr => LoopW w gs n v i wr) (fun _ i _ => n - (intOf i).toNat)
    case atStart => exact ⟨0, by omega, rfl, ⟨World.ownsRow_nil _ _ _ _, HB.out, HB.out.size⟩, by simp [text]⟩
    case round =>
      obtain ⟨k, hk, rfl, hrow, hlen⟩ := hrel
      have HT := Lib.hid hrow
      clear hrow
      by_cases a : k < n
      · obtain ⟨g, hg⟩ := get_of_lt HN.out a
        obtain ⟨ad, A', c', rfl, h3, hrs⟩ := HR.out.at_ hg
        obtain ⟨ad', A'', c'', he, h3', _⟩ := (HR.out.keep HT.out.below).at_ hg
        injection he with he; subst he
        obtain ⟨c0, c1, c2⟩ := h3'
        have hac : A'' = A' ∧ c'' = c' := by
          obtain ⟨_, _, e2⟩ := h3
          have hlt : (ad.add (k * 3)).block < w.heap.size := by
            obtain ⟨ad2, e3, hlt, _⟩ := HR.out.2 (by omega)
            injection e3 with e3; subst e3
            rw [block_of_add]; exact hlt
          have := HT.out.below.cell (p := ⟨(ad.add (k * 3)).block, (ad.add (k * 3)).off + 2, none⟩) hlt
          rw [c2, e2] at this
          injection this with this
          injection this with a b c
          exact ⟨a, c⟩
        obtain ⟨rfl, rfl⟩ := hac
        have K19 := fun w1 hb => apiece_any w.heap.size w w1 u4 (text (gs.take k)) g A'' c'' (by omega) (by have := HS.out g (List.mem_of_getElem? hg); omega) hb hrs
        rw [← text_take hg] at K19
        have K19 := Lib.hid K19
        have HLE := text_le gs (k + 1)
        clear h3 hrs hg
        by_cases l1 : 200 < (text (gs.take (k + 1))).length
        · have HX2 : Hid (R = (⟨#[]⟩, 2)) := Lib.hid (by rw [HX.out, if_pos (by omega)])
          clear HLE
          go_wp2_with (go_at_call 19; ((with_reducible refine (K19.out _ (HT.out.alloc _)).mono ?_)); rintro e w2 ⟨v2, rfl, hrow2⟩; obtain ⟨A2, c2', rfl⟩ := row_slice hrow2.row; have HT2 := Lib.hid hrow2; clear hrow2)
          go_ret2
          rw [HX2.out]
          exact ⟨rfl, HT2.out.below⟩
        · go_wp2_with (go_at_call 19; ((with_reducible refine (K19.out _ (HT.out.alloc _)).mono ?_)); rintro e w2 ⟨v2, rfl, hrow2⟩; obtain ⟨A2, c2', rfl⟩ := row_slice hrow2.row; have HT2 := Lib.hid hrow2; clear hrow2)
          go_roundw
          case rel => exact ⟨k + 1, by omega, by go_num, HT2.out, by omega⟩
          case measure => simp [intOf]; omega
      · have he : gs.take k = gs := List.take_of_length_le (by have := HN.out; omega)
        rw [he] at HT hlen
        have HX2 : Hid (R = (⟨(text gs).toArray⟩, 0)) := Lib.hid (by rw [HX.out, if_neg (by omega)])
        clear he
        rcases row_form HT.out.row with ⟨rfl, e0⟩ | ⟨g, cap, rfl, _⟩
        · have e1 : text gs = [] := List.eq_nil_of_length_eq_zero e0
          rw [e1] at HX2
          have hc := nil_conv wr
          clear e0 e1
          go_wp2
          go_ret2
          rw [HX2.out]
          exact ⟨rfl, HT.out.below⟩
        · have hc := text_conv HT.out.row
          obtain ⟨m, hm⟩ : ∃ m, m = (text gs).length := ⟨_, rfl⟩
          rw [← hm] at hc ⊢
          clear hm
          go_wp2
          go_ret2
          rw [HX2.out]
          exact ⟨rfl, HT.out.below⟩
  · rw [if_neg hm] at hR
    rw [Bool.eq_false_iff.2 hm] at K11
    have K11 := Lib.hid K11
    have HX := Lib.hid hR
    clear hR hm h hs hs1 hs2
    go_enter Try.func9, Try.ntmps9
    go_wp2_with (go_at_call 11; ((with_reducible refine (K11.out).mono ?_)); rintro e w1 ⟨rfl, hb1⟩)
    go_ret2
    rw [HX.out]
    exact ⟨rfl, hb1⟩
end Go.Proofs.Ytafnlbcpnamdkaa
