/- A list of pieces that comes in, as the walks want it. -/
import Derived.Test.YtafnlbcpnamdkaaLawAny
import Derived.ProofKit
import Derived.OpenShut
import Derived.ShutString
import Derived.Carry
import Derived.Deep.SlicePairs
namespace Go.Proofs.Ytafnlbcpnamdkaa
open Go Go.ChangeShapes Go.WideShapes Go.ChangeAt Go.RowKit Go.Deep

theorem cells40 : Try.prog.cellsOf 40 = 3 := by kernel_rfl
theorem cells48 : Try.prog.cellsOf 48 = 2 := by kernel_rfl
theorem cells3 : Try.prog.cellsOf 3 = 1 := by kernel_rfl
theorem cells5 : Try.prog.cellsOf 5 = 1 := by kernel_rfl
theorem cells38 : Try.prog.cellsOf 38 = 1 := by kernel_rfl
theorem laidOut : laidOutB Try.prog = true := by kernel_rfl
theorem readable22 : Try.prog.readableRec 22 = true := by kernel_rfl
theorem row22 : 22 < Try.prog.types.size := by decide +kernel
theorem two_fields : ∃ f0 f1 : Field, Try.prog.underlying 48 = some (.struct #[f0, f1]) ∧ f0.offset = 0 ∧ f1.offset = 1 ∧ f0.type = 5 ∧ f1.type = 5 := by
  refine ⟨_, _, Try.underlying48, ?_, ?_, ?_, ?_⟩ <;> rfl
theorem three_fields : ∃ f0 f1 f2 : Field, Try.prog.underlying 40 = some (.struct #[f0, f1, f2]) ∧ f0.offset = 0 ∧ f1.offset = 1 ∧ f2.offset = 2 ∧ f0.type = 3 ∧ f1.type = 5 ∧ f2.type = 38 := by
  refine ⟨_, _, _, Try.underlying40, ?_, ?_, ?_, ?_, ?_, ?_⟩ <;> rfl
theorem byte_of {y : Int} (h : (Lit.int .u8 y).wf = true) : ∃ c : UInt8, y = (c.toNat : Int) := by
  obtain ⟨h0, h1⟩ := bounds_u8 h
  refine ⟨UInt8.ofNat y.toNat, ?_⟩
  rw [UInt8.toNat_ofNat', Nat.mod_eq_of_lt (by omega)]; omega
section
variable {H : Type} {enc : TypeId × Value → H} {W : World}
theorem open_spans {fuel : Nat} {v : Value} {x : DataW H × List MemPlace} (h : DataW.trod enc Try.prog W 0 (fun _ => true) true fuel 38 [v] = some x) :
    ∃ (A : Option Addr) (l : List Sp) (c : Nat), v = .slice A l.length c ∧ RdS W.heap.size W A l := by
  obtain ⟨f0, f1, hs, o0, o1, t0, t1⟩ := two_fields
  rcases open_slice_pairs Try.underlying38 hs cells48 o0 o1 (by rw [t0]; exact cells5) (by rw [t1]; exact cells5) h with ⟨h0, _⟩ | ⟨a, len, cap, m, k, V0, V1, D0, D1, P0, P1, hc, _, hl, hm, hmeq, _, hall⟩
  · injection h0 with h0 _
    exact ⟨none, [], 0, h0, fun h => by simp at h⟩
  · injection hc with hc _
    simp only [if_true] at hmeq
    have each : ∀ i, i < len → ∃ p : Sp, At2 W (a.add (i * 2)) p.1.toNat p.2.toNat := by
      intro i hi
      obtain ⟨c0, c1, x0, x1⟩ := hall i (by omega)
      rw [t0] at x0
      rw [t1] at x1
      obtain ⟨n0, e0, _, w0⟩ := DataW.trod_int Try.underlying5 x0
      obtain ⟨n1, e1, _, w1⟩ := DataW.trod_int Try.underlying5 x1
      simp only [List.cons.injEq, and_true] at e0 e1
      obtain ⟨b0, rfl⟩ := byte_of w0
      obtain ⟨b1, rfl⟩ := byte_of w1
      refine ⟨(b0, b1), by rw [c0, e0], ?_⟩
      rw [add_one _ _ _ (by omega), c1, e1]
    obtain ⟨G, hG⟩ := choose_lt each
    have hlen : ((List.range len).map G).length = len := by simp
    refine ⟨some a, (List.range len).map G, cap, by rw [hc, hlen], fun hn => ⟨a, rfl, ?_, fun j u hu => ?_⟩⟩
    · have := World.block_lt_of_cell? W _ (hG 0 (by omega)).1
      rwa [block_of_add] at this
    · have hj : j < (cellsS ((List.range len).map G)).length := (List.getElem?_eq_some_iff.1 hu).1
      rw [cellsS_length, hlen] at hj
      have hi : j / 2 < len := by omega
      have hp : ((List.range len).map G)[j / 2]? = some (G (j / 2)) := by simp [hi]
      obtain ⟨c0, c1⟩ := cellsS_at _ _ _ hp
      obtain ⟨g0, g1⟩ := hG (j / 2) hi
      rw [add_one _ _ _ (by omega)] at g1
      rcases Nat.mod_two_eq_zero_or_one j with e | e
      · have ej : j / 2 * 2 = j := by omega
        rw [ej] at c0 g0
        rw [c0] at hu
        injection hu with hu
        rw [← hu, g0]
      · have ej : j / 2 * 2 + 1 = j := by omega
        rw [ej] at c1 g1
        rw [c1] at hu
        injection hu with hu
        rw [← hu, g1]
theorem open_pieces {base : Nat} {v : Value} {d : DataW H} {p : List MemPlace}
    (hv : Value.okWide Try.prog W .any base 22 v) (h : DataW.Trod enc Try.prog W 0 (fun _ => true) true 22 v d p) : ∃ A n c gs, v = .slice A n c ∧ RdG W.heap.size W A n gs ∧ Cap A n c := by
  obtain ⟨A, n, c, rfl⟩ := okWide_slice Try.underlying22 hv
  obtain ⟨fuel, hf⟩ := h
  obtain ⟨f0, f1, f2, hs, o0, o1, o2, t0, t1, t2⟩ := three_fields
  have hcs : (Value.slice A n c).cells.toList = [.slice A n c] := rfl
  rw [hcs] at hf
  rcases open_slice Try.underlying22 hf with ⟨h0, _⟩ | ⟨a, len, cap, m, k, D, Pl, hc, _, hl, hm, hmeq, _, hall⟩
  · injection h0 with h0 _
    injection h0 with e1 e2 e3
    subst e1 e2 e3
    exact ⟨none, 0, 0, [], rfl, RdG.none_, Nat.le_refl _, Nat.zero_le _, fun _ => rfl⟩
  · injection hc with hc _
    injection hc with e1 e2 e3
    subst e1 e2 e3
    simp only [if_true] at hmeq
    have each : ∀ i, i < n → ∃ g : Gl, ∃ A' c', At3 W (a.add (i * 3)) g.kind g.byte.toNat A' g.spans.length c' ∧ RdS W.heap.size W A' g.spans := by
      intro i hi
      obtain ⟨cs', h1, h2⟩ := hall i (by omega)
      rw [cells40] at h1
      obtain ⟨_, hlen, hcell⟩ := World.cells?_some h1
      obtain ⟨xs, k', _, _, _, hxl, hfl⟩ := DataW.trod_struct hs h2
      match xs, hxl, cs', hlen with
      | [y0, y1, y2], _, [v0, v1, v2], _ =>
        have g0 := hfl 0 f0 rfl
        have g1 := hfl 1 f1 rfl
        have g2 := hfl 2 f2 rfl
        rw [o0, t0, cells3] at g0
        rw [o1, t1, cells5] at g1
        rw [o2, t2, cells38] at g2
        simp only [List.drop_zero, List.drop_succ_cons, List.take_succ_cons, List.take_zero] at g0 g1 g2
        have c0 := hcell 0 (by omega)
        have c1 := hcell 1 (by omega)
        have c2 := hcell 2 (by omega)
        rw [add_add] at c0 c1 c2
        obtain ⟨n0, e0, _, _⟩ := DataW.trod_int Try.underlying3 g0
        obtain ⟨n1, e1, _, w1⟩ := DataW.trod_int Try.underlying5 g1
        simp only [List.cons.injEq, and_true] at e0 e1
        obtain ⟨b1, rfl⟩ := byte_of w1
        obtain ⟨A', l, c', e2, hr⟩ := open_spans g2
        refine ⟨⟨n0, b1, l⟩, A', c', ⟨?_, ?_, ?_⟩, hr⟩
        · rw [Nat.add_zero] at c0; rw [c0, e0]; rfl
        · rw [add_one _ _ _ (by omega), c1, e1]; rfl
        · rw [add_one _ _ _ (by omega), c2, e2]; rfl
    have hinh : Inhabited Gl := ⟨⟨0, 0, []⟩⟩
    obtain ⟨G, hG⟩ := choose_lt each
    refine ⟨some a, n, c, (List.range n).map G, rfl, ⟨by simp, fun hn => ⟨a, rfl, ?_, fun i g hg => ?_⟩⟩, hl, hm, fun h => by cases h⟩
    · obtain ⟨_, _, h3, _⟩ := hG 0 hn
      have := World.block_lt_of_cell? W _ h3.1
      rwa [block_of_add] at this
    · rw [List.getElem?_map, Option.map_eq_some_iff] at hg
      obtain ⟨j, hj, rfl⟩ := hg
      obtain ⟨hlt, hji⟩ := List.getElem?_eq_some_iff.1 hj
      simp at hlt hji
      subst hji
      exact hG i hlt
end
end Go.Proofs.Ytafnlbcpnamdkaa
