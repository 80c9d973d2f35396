/- An expression that comes in, as the walks want it. -/
import Derived.Test.YtccheljfbjllhaaDoorTree
import Derived.ProofKit
import Derived.OpenShut
import Derived.ShutString
import Derived.Carry
import Derived.Deep.SlicePairs
namespace Go.Proofs.YtccheljfbjllhaaDoor
open Go Go.ChangeShapes Go.WideShapes Go.ChangeAt Go.RowKit Go.Deep

theorem cells27 : Tryd.prog.cellsOf 27 = 9 := by kernel_rfl
theorem cells24 : Tryd.prog.cellsOf 24 = 4 := by kernel_rfl
theorem cells25 : Tryd.prog.cellsOf 25 = 1 := by kernel_rfl
theorem cells22w : Tryd.prog.cellsOf 22 = 1 := by kernel_rfl
theorem cells3 : Tryd.prog.cellsOf 3 = 1 := by kernel_rfl
theorem laidOut : laidOutB Tryd.prog = true := by kernel_rfl
theorem readable27 : Tryd.prog.readableRec 27 = true := by kernel_rfl
theorem row27 : 27 < Tryd.prog.types.size := by decide +kernel
theorem six_fields : ∃ f0 f1 f2 f3 f4 f5 : Field, Tryd.prog.underlying 27 = some (.struct #[f0, f1, f2, f3, f4, f5]) ∧ (f0.offset = 0 ∧ f1.offset = 1 ∧ f2.offset = 5 ∧ f3.offset = 6 ∧ f4.offset = 7 ∧ f5.offset = 8) ∧ f0.type = 3 ∧ f1.type = 24 ∧ f2.type = 25 ∧ f3.type = 3 ∧ f4.type = 3 ∧ f5.type = 3 := by
  refine ⟨_, _, _, _, _, _, Tryd.underlying27, ⟨?_, ?_, ?_, ?_, ?_, ?_⟩, ?_, ?_, ?_, ?_, ?_, ?_⟩ <;> rfl
theorem word_of {y : Int} (h : (Lit.int .u64 y).wf = true) : ∃ c : UInt64, y = (c.toNat : Int) := by
  obtain ⟨h0, h1⟩ := bounds_u64 h
  refine ⟨UInt64.ofNat y.toNat, ?_⟩
  rw [UInt64.toNat_ofNat', Nat.mod_eq_of_lt (by omega)]; omega
section
variable {H : Type} {enc : TypeId × Value → H} {W : World}
set_option maxRecDepth 100000 in
theorem open_words {fuel : Nat} {cs : List Value} {x : DataW H × List MemPlace} (h : DataW.trod enc Tryd.prog W 0 (fun _ => true) true fuel 24 cs = some x) :
    ∃ S : S4, cs = [.int .u64 S.1.toNat, .int .u64 S.2.1.toNat, .int .u64 S.2.2.1.toNat, .int .u64 S.2.2.2.toNat] := by
  obtain ⟨xs, m, _, _, hl, hxl, hf⟩ := DataW.trod_array Tryd.underlying24 h
  rw [cells24] at hl
  match cs, hl, xs, hxl with
  | [c0, c1, c2, c3], _, [y0, y1, y2, y3], _ =>
    have g0 := hf 0 (by omega)
    have g1 := hf 1 (by omega)
    have g2 := hf 2 (by omega)
    have g3 := hf 3 (by omega)
    rw [cells22w] at g0 g1 g2 g3
    simp at g0 g1 g2 g3
    obtain ⟨n0, e0, _, w0⟩ := DataW.trod_int Tryd.underlying22 g0
    obtain ⟨n1, e1, _, w1⟩ := DataW.trod_int Tryd.underlying22 g1
    obtain ⟨n2, e2, _, w2⟩ := DataW.trod_int Tryd.underlying22 g2
    obtain ⟨n3, e3, _, w3⟩ := DataW.trod_int Tryd.underlying22 g3
    simp only [List.cons.injEq, and_true] at e0 e1 e2 e3
    obtain ⟨s0, rfl⟩ := word_of w0
    obtain ⟨s1, rfl⟩ := word_of w1
    obtain ⟨s2, rfl⟩ := word_of w2
    obtain ⟨s3, rfl⟩ := word_of w3
    exact ⟨(s0, s1, s2, s3), by rw [e0, e1, e2, e3]⟩
set_option maxRecDepth 100000 in
theorem open_nine {fuel : Nat} {cs : List Value} {x : DataW H × List MemPlace} (h : DataW.trod enc Tryd.prog W 0 (fun _ => true) true fuel 27 cs = some x) :
    ∃ (k : Int) (S : S4) (v : Value) (lo hi n : Int) (m : Nat) (y : DataW H × List MemPlace), fuel = m + 1 ∧
      cs = [.int .i64 k, .int .u64 S.1.toNat, .int .u64 S.2.1.toNat, .int .u64 S.2.2.1.toNat, .int .u64 S.2.2.2.toNat, v, .int .i64 lo, .int .i64 hi, .int .i64 n] ∧
      DataW.trod enc Tryd.prog W 0 (fun _ => true) true m 25 [v] = some y := by
  obtain ⟨f0, f1, f2, f3, f4, f5, hs, ⟨o0, o1, o2, o3, o4, o5⟩, t0, t1, t2, t3, t4, t5⟩ := six_fields
  obtain ⟨xs, m, hfu, _, hl, hxl, hf⟩ := DataW.trod_struct hs h
  rw [cells27] at hl
  match cs, hl, xs, hxl with
  | [c0, c1, c2, c3, c4, c5, c6, c7, c8], _, [y0, y1, y2, y3, y4, y5], _ =>
    have g0 := hf 0 f0 rfl
    have g1 := hf 1 f1 rfl
    have g2 := hf 2 f2 rfl
    have g3 := hf 3 f3 rfl
    have g4 := hf 4 f4 rfl
    have g5 := hf 5 f5 rfl
    rw [o0, t0, cells3] at g0
    rw [o1, t1, cells24] at g1
    rw [o2, t2, cells25] at g2
    rw [o3, t3, cells3] at g3
    rw [o4, t4, cells3] at g4
    rw [o5, t5, cells3] at g5
    simp only [List.drop_zero, List.drop_succ_cons, List.take_succ_cons, List.take_zero] at g0 g1 g2 g3 g4 g5
    obtain ⟨k, e0, _, _⟩ := DataW.trod_int Tryd.underlying3 g0
    obtain ⟨S, e1⟩ := open_words g1
    obtain ⟨lo, e3, _, _⟩ := DataW.trod_int Tryd.underlying3 g3
    obtain ⟨hi, e4, _, _⟩ := DataW.trod_int Tryd.underlying3 g4
    obtain ⟨n, e5, _, _⟩ := DataW.trod_int Tryd.underlying3 g5
    simp only [List.cons.injEq, and_true] at e0 e1 e3 e4 e5
    obtain ⟨e11, e12, e13, e14⟩ := e1
    exact ⟨k, S, c5, lo, hi, n, m, y2, hfu, by rw [e0, e11, e12, e13, e14, e3, e4, e5], g2⟩
theorem kidsL_mk {P : Nat → Prop} {w : World} {ad : Addr} : ∀ (l : List Re) (i : Nat), (∀ k r, l[k]? = some r → ∃ A c, At9 w (ad.add ((i + k) * 9)) r A c ∧ Kids P w A r) → KidsL P w ad i l
  | [], i, _ => by rw [KidsL]; trivial
  | r :: l, i, h => by
    rw [KidsL]
    refine ⟨by have := h 0 r rfl; rwa [Nat.add_zero] at this, kidsL_mk l (i + 1) fun k r' hk => ?_⟩
    have := h (k + 1) r' (by simpa using hk)
    rwa [show i + (k + 1) = i + 1 + k by omega] at this
theorem At9.lt {w : World} {a : Addr} {r : Re} {A : Option Addr} {c : Nat} (h : At9 w a r A c) : a.block < w.heap.size := by
  obtain ⟨k, S, ks, lo, hi, n⟩ := r
  exact World.block_lt_of_cell? w _ h.1
set_option maxRecDepth 100000 in
theorem open_tree : ∀ (N fuel : Nat) (cs : List Value) (x : DataW H × List MemPlace), fuel < N → DataW.trod enc Tryd.prog W 0 (fun _ => true) true fuel 27 cs = some x →
    ∃ (r : Re) (A : Option Addr) (c : Nat), cs = (valR r A c).cells.toList ∧ Kids (Lt W.heap.size) W A r
  | 0, fuel, cs, x, hN, _ => by omega
  | N + 1, fuel, cs, x, hN, h => by
    obtain ⟨k, S, v, lo, hi, n, m, y, rfl, rfl, hk⟩ := open_nine h
    rcases DataW.trod_slice Tryd.underlying25 hk with ⟨h0, _⟩ | ⟨a, len, cap, elems, rest, m2, rfl, hc, _, _, _, _, hlen, hel, _, _⟩
    · injection h0 with h0 _
      subst h0
      exact ⟨.mk k S [] lo hi n, none, 0, rfl, by rw [Kids]; exact .inl rfl⟩
    · injection hc with hc _
      subst hc
      have each : ∀ i, i < len → ∃ r : Re, ∃ A c, At9 W (a.add (i * 9)) r A c ∧ Kids (Lt W.heap.size) W A r := by
        intro i hi
        have h1 := hel i hi
        rw [cells27, List.getElem?_eq_getElem (by omega)] at h1
        obtain ⟨cs', h2, h3⟩ := Option.bind_eq_some_iff.1 h1
        obtain ⟨_, hl9, hcell⟩ := World.cells?_some h2
        obtain ⟨r, A, c, rfl, hkr⟩ := open_tree N m2 cs' _ (by omega) h3
        refine ⟨r, A, c, ?_, hkr⟩
        obtain ⟨k', S', ks', lo', hi', n'⟩ := r
        have c0 := hcell 0 (by omega)
        have c1 := hcell 1 (by omega)
        have c2 := hcell 2 (by omega)
        have c3 := hcell 3 (by omega)
        have c4 := hcell 4 (by omega)
        have c5 := hcell 5 (by omega)
        have c6 := hcell 6 (by omega)
        have c7 := hcell 7 (by omega)
        have c8 := hcell 8 (by omega)
        rw [add_add] at c0 c1 c2 c3 c4 c5 c6 c7 c8
        refine ⟨?_, ?_, ?_, ?_, ?_, ?_, ?_, ?_, ?_⟩
        · rw [Nat.add_zero] at c0; rw [c0]; rfl
        · rw [add_one _ _ _ (by omega), c1]; rfl
        · rw [add_one _ _ _ (by omega), c2]; rfl
        · rw [add_one _ _ _ (by omega), c3]; rfl
        · rw [add_one _ _ _ (by omega), c4]; rfl
        · rw [add_one _ _ _ (by omega), c5]; rfl
        · rw [add_one _ _ _ (by omega), c6]; rfl
        · rw [add_one _ _ _ (by omega), c7]; rfl
        · rw [add_one _ _ _ (by omega), c8]; rfl
      have hinh : Inhabited Re := ⟨.mk 0 none4 [] 0 0 0⟩
      obtain ⟨G, hG⟩ := choose_lt each
      have hl : ((List.range len).map G).length = len := by simp
      refine ⟨.mk k S ((List.range len).map G) lo hi n, some a, cap, by rw [valR, hl]; rfl, ?_⟩
      rw [Kids]
      by_cases h0 : len = 0
      · left; subst h0; rfl
      · right
        refine ⟨a, rfl, ?_, kidsL_mk _ 0 fun i r hr => ?_⟩
        · obtain ⟨A, c, h9, _⟩ := hG 0 (by omega)
          have := At9.lt h9
          rwa [block_of_add] at this
        · rw [List.getElem?_map, Option.map_eq_some_iff] at hr
          obtain ⟨j, hj, rfl⟩ := hr
          obtain ⟨hlt, hji⟩ := List.getElem?_eq_some_iff.1 hj
          simp at hlt hji
          subst hji
          rw [Nat.zero_add]
          exact hG i hlt
set_option maxRecDepth 100000 in
theorem open_re {base : Nat} {v : Value} {d : DataW H} {p : List MemPlace} (hv : Value.okWide Tryd.prog W .any base 27 v) (h : DataW.Trod enc Tryd.prog W 0 (fun _ => true) true 27 v d p) :
    ∃ r A c, v = valR r A c ∧ Kids (Lt W.heap.size) W A r := by
  obtain ⟨f0, f1, f2, f3, f4, f5, hs, _⟩ := six_fields
  obtain ⟨cs, rfl, hsz⟩ := okWide_struct hs hv
  obtain ⟨fuel, hf⟩ := h
  obtain ⟨r, A, c, h1, h2⟩ := open_tree (fuel + 1) fuel _ _ (Nat.lt_succ_self _) hf
  refine ⟨r, A, c, ?_, h2⟩
  have h1 : cs.toList = (valR r A c).cells.toList := h1
  obtain ⟨k, S, ks, lo, hi, n⟩ := r
  have : cs = (valR (.mk k S ks lo hi n) A c).cells := Array.toList_inj.1 h1
  rw [this]
  rfl
end
end Go.Proofs.YtccheljfbjllhaaDoor
