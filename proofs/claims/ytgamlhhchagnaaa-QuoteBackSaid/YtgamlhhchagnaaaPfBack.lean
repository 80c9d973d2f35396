/- QuoteBack: called with any list of parts and any text, the statement's function returns true and both read as before; no condition. -/
import Derived.Test.YtgamlhhchagnaaaLawBack
import Derived.ProofKit
import Derived.OpenShut
import Derived.ShutString
import Derived.Carry
import Derived.Deep.SlicePairs
namespace Go.Proofs.Ytgamlhhchagnaaa.quoteBack
open Go Go.ChangeShapes Go.WideShapes Go.ChangeAt Go.RowKit Go.Deep
open Go.ChangeMaps (open_string shut_string)
set_option linter.unusedVariables false
theorem own : ownKnob Try.prog.godebug = none := by kernel_rfl
theorem laidOut : laidOutB Try.prog = true := by kernel_rfl
theorem readable22 : Try.prog.readableRec 22 = true := by kernel_rfl
theorem row22 : 22 < Try.prog.types.size := by decide +kernel
theorem cells33 : Try.prog.cellsOf 33 = 2 := by kernel_rfl
theorem cells9 : Try.prog.cellsOf 9 = 1 := by kernel_rfl
theorem two_fields : ∃ f0 f1 : Field, Try.prog.underlying 33 = some (.struct #[f0, f1]) ∧ f0.offset = 0 ∧ f1.offset = 1 ∧ f0.type = 9 ∧ f1.type = 9 := by
  refine ⟨_, _, Try.underlying33, ?_, ?_, ?_, ?_⟩ <;> rfl
def psOf (N T : Nat → ByteArray) (len : Nat) : List Pt := (List.range len).map fun i => ((N i).data.toList, (T i).data.toList)
theorem rd_mk {w : World} {a : Addr} {len : Nat} (N T : Nat → ByteArray) (h : ∀ i, i < len → w.cell? (a.add (i * 2)) = some (.string (N i)) ∧ w.cell? (a.add (i * 2 + 1)) = some (.string (T i))) : Rd w.heap.size w (some a) len (psOf N T len) := by
  refine ⟨by simp [psOf], fun hn => ⟨a, rfl, ?_, fun j u hu => ?_⟩⟩
  · have := World.block_lt_of_cell? w _ (h 0 hn).1
    rwa [block_of_add] at this
  · have hj : j < (cellsP (psOf N T len)).length := (List.getElem?_eq_some_iff.1 hu).1
    rw [cellsP_length] at hj
    have hl : (psOf N T len).length = len := by simp [psOf]
    have hi : j / 2 < len := by omega
    have hp : (psOf N T len)[j / 2]? = some ((N (j / 2)).data.toList, (T (j / 2)).data.toList) := by simp [psOf, hi]
    obtain ⟨c0, c1⟩ := cells_at _ _ _ hp
    obtain ⟨h0, h1⟩ := h (j / 2) hi
    rcases Nat.mod_two_eq_zero_or_one j with e | e
    · have ej : j / 2 * 2 = j := by omega
      rw [ej] at c0 h0
      rw [c0] at hu
      injection hu with hu
      rw [← hu, h0]
    · have ej : j / 2 * 2 + 1 = j := by omega
      rw [ej] at c1 h1
      rw [c1] at hu
      injection hu with hu
      rw [← hu, h1]
theorem open_parts {H : Type} {enc : TypeId × Value → H} {W : World} {base : Nat} {v : Value} {d : DataW H} {p : List MemPlace}
    (hv : Value.okWide Try.prog W .any base 22 v) (h : DataW.Trod enc Try.prog W 0 (fun _ => true) true 22 v d p) : ∃ A n c ps, v = .slice A n c ∧ Rd W.heap.size W A n ps ∧ n ≤ maxLen := by
  obtain ⟨A, n, c, rfl⟩ := okWide_slice Try.underlying22 hv
  obtain ⟨fuel, hf⟩ := h
  obtain ⟨f0, f1, hs, o0, o1, t0, t1⟩ := two_fields
  have hcs : (Value.slice A n c).cells.toList = [.slice A n c] := rfl
  rw [hcs] at hf
  rcases open_slice_pairs Try.underlying22 hs cells33 o0 o1 (by rw [t0]; exact cells9) (by rw [t1]; exact cells9) hf with ⟨h0, _⟩ | ⟨a, len, cap, m, k, V0, V1, D0, D1, P0, P1, hc, _, hl, hm, hmeq, _, hall⟩
  · injection h0 with h0 _
    injection h0 with e1 e2 e3
    subst e1 e2 e3
    exact ⟨none, 0, 0, [], rfl, ⟨rfl, fun h => by omega⟩, Nat.zero_le _⟩
  · injection hc with hc _
    injection hc with e1 e2 e3
    subst e1 e2 e3
    simp only [if_true] at hmeq
    refine ⟨some a, n, c, psOf (fun i => match V0 i with | .string s => s | _ => ⟨#[]⟩) (fun i => match V1 i with | .string s => s | _ => ⟨#[]⟩) n, rfl, rd_mk _ _ (fun i hi => ?_), Nat.le_trans hl hm⟩
    obtain ⟨c0, c1, x0, x1⟩ := hall i (by omega)
    rw [t0] at x0
    rw [t1] at x1
    obtain ⟨s0, y0, _⟩ := DataW.trod_string Try.underlying9 x0
    obtain ⟨s1, y1, _⟩ := DataW.trod_string Try.underlying9 x1
    simp only [List.cons.injEq, and_true] at y0 y1
    rw [c0, c1, y0, y1]
    exact ⟨rfl, rfl⟩
set_option maxRecDepth 100000 in
theorem lifted (os : Os) (started : os.Started) (H : Type) (enc : TypeId × Value → H) :
    ReturnsInHanded {} Try.checked os 3 .any (Rows.quoteBackSpec.pre6 enc Try.prog Try.f3 Rows.quoteBackRow.domain false) (Rows.quoteBackSpec.post enc Try.prog Try.f3 false true false false) := by
  refine returnsInHanded_of_change (C := Try.checked) own started (by kernel_rfl) Try.func3
    (ChangeSpec.witness6 (enc := enc) (C := Try.checked) false ⟨#[], #[.slice none 0 0, .string ByteArray.empty], []⟩ 8 (by kernel_rfl) (by kernel_rfl) (by kernel_rfl) (by kernel_rfl)) ?_
  intro W base args ds gs before hval0 hW hcnd _
  have hval : ∀ (j : Nat) t v, Try.f3.params[j]? = some t → args[j]? = some v → Value.okWide Try.prog W .any base t v := hval0
  have hW' := hW
  have hlt : ∀ x ∈ before, x.block < W.heap.size := fun x hx => hW.lt x hx
  obtain ⟨p, q, hA0, hV, rfl, hfz, hnd⟩ := hW
  have hA : DataW.TrodAll enc Try.prog W 0 (fun _ => true) true Try.f3.params.toList args.toList ds p := hA0
  rw [Try.params3] at hA hval
  obtain ⟨v0, vs0, d0, ds0, p0, q0, hargs, rfl, rfl, h0, r0⟩ := trodAll_cons hA
  obtain ⟨v1, vs1, d1, ds1, p1, q1, rfl, rfl, rfl, h1, r1⟩ := trodAll_cons r0
  obtain ⟨rfl, rfl, rfl⟩ := trodAll_nil r1
  obtain rfl : args = #[v0, v1] := by cases args; simp_all
  obtain ⟨rfl, rfl⟩ := trodVars_none hV
  obtain ⟨A, n, c, ps, rfl, hr, hn⟩ := open_parts (hval 0 22 v0 rfl rfl) h0
  obtain ⟨a1, rfl, rfl, rfl, w1⟩ := open_string Try.underlying9 (hval 1 9 v1 rfl rfl) h1
  clear hA0 hval0
  simp only [List.append_nil] at hW' hlt
  refine (walk_back A n c ps a1 W hr (by unfold maxLen at hn; omega)).mono fun e W' ⟨he, hb⟩ => ?_
  subst he
  refine ⟨_, rfl, _, _, _, [], p0, [], hW', ?_, ?_, ?_, hb.frame _, fun h => by cases h⟩
  · exact trodAll_cons_mk (shut_bool Try.underlying4 _) trodAll_mk0
  · have hz := hb.trod laidOut readable22 row22 h0 hlt
    have := trodAll_cons_mk hz (trodAll_cons_mk (shut_string (enc := enc) (P := Try.prog) (w := W') (base := 0) (sp := fun b => decide (b < W.heap.size)) (held := true) Try.underlying9 w1) trodAll_mk0)
    simp only [List.append_nil] at this
    exact this
  · rfl
/-- The statement. -/
theorem proved : Rows.QuoteBackSaid :=
  OpenClaim.holds_of_wide 3 Try.f3 rfl rfl rfl rfl rfl rfl rfl ⟨rfl, rfl, rfl, rfl, rfl⟩ rfl rfl rfl rfl rfl (by kernel_rfl) Try.func3 (by kernel_rfl)
    (of_decide_eq_true (by kernel_rfl)) (by unfold Func.isWrapper; first | (rw [if_pos (by decide +kernel)]; kernel_rfl) | (rw [if_neg (by decide +kernel)]; exact ⟨rfl, rfl⟩))
    (fun os started H enc _ => lifted os started H enc)
#print axioms proved
end Go.Proofs.Ytgamlhhchagnaaa.quoteBack
