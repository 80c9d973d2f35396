/- The document's 'Same' of two lists of the same parts, wherever they lie: true. And its 'May'. -/
import Derived.Test.YtgamlhhchagnaaaRd
import Derived.Laws.StructEq
import Derived.RegionTactic
import Derived.ChangeAlike
namespace Go.Proofs.Ytgamlhhchagnaaa
open Go Go.RowKit

theorem under33 : Try.prog.underlying 33 = some (.struct (Try.prog.fieldsOf 33)) := by kernel_rfl
theorem held33 : Try.prog.stoodInHeld 33 = false := by kernel_rfl
theorem fields33 : (Try.prog.fieldsOf 33).toList.map (fun f => (f.name, f.type, f.offset)) = [("Name", 9, 0), ("Text", 9, 1)] := by kernel_rfl
theorem neq_same (x y : ByteArray) (w : World) : (binOp .neq 33 (.agg #[.string x, .string y]) (.agg #[.string x, .string y])).run Try.prog w = .ok (.bool false) w := by
  have hf := fields33
  rw [run_neq_struct, run_equalIn_struct w 9999 33 _ _ under33 held33]
  generalize (Try.prog.fieldsOf 33).toList = L at hf ⊢
  rcases L with _ | ⟨f, _ | ⟨g, _ | ⟨h, L⟩⟩⟩
  · simp at hf
  · simp at hf
  · simp only [List.map_cons, List.map_nil, List.cons.injEq, Prod.mk.injEq, and_true] at hf
    obtain ⟨⟨f1, f2, f3⟩, ⟨g1, g2, g3⟩⟩ := hf
    simp [Op.eqFields, f1, f2, f3, g1, g2, g3, go_sem, run_equalIn_string _ 9998 9 _ _ Try.underlying9]
  · simp at hf
set_option maxHeartbeats 1000000 in
theorem same_any (A A' : Option Addr) (n c c' : Nat) (ps : List Pt) (w : World) (h : Rd w.heap.size w A n ps) (h' : Rd w.heap.size w A' n ps) (hmax : n ≤ 1000000) :
    Calls Try.prog 14 #[.slice A n c, .slice A' n c'] w fun e w' => e = .returned (.bool true) ∧ Below w.heap.size w w' := by
  have HN := Lib.hid h.1
  have HR := Lib.hid h
  have HR' := Lib.hid h'
  clear h h'
  go_enter Try.func14, Try.ntmps14
  go_wp2
  go_loopw [5] (fun i wr => ∃ (k m : Nat), k ≤ n ∧ i = .int .i64 k ∧ wr = w.drewN m) (fun i _ => n - (intOf i).toNat)
  case atStart => exact ⟨0, 0, by omega, rfl, rfl⟩
  case round =>
    obtain ⟨k, m, hk, rfl, rfl⟩ := hrel
    by_cases a : k < n
    · obtain ⟨ad, rfl, hr⟩ := HR.out.2 (by omega)
      obtain ⟨ad', rfl, hr'⟩ := HR'.out.2 (by omega)
      obtain ⟨p, hp⟩ : ∃ p, ps[k]? = some p := ⟨_, List.getElem?_eq_getElem (by have := HN.out; omega)⟩
      obtain ⟨c0, c1⟩ := hr.at_ hp
      obtain ⟨d0, d1⟩ := hr'.at_ hp
      have hq := fun W : World => neq_same ⟨p.1.toArray⟩ ⟨p.2.toArray⟩ W
      clear hr hr' hp
      go_wp2
      go_quiet (fail)
      go_wp2
      go_roundw
      case rel => exact ⟨k + 1, _, by omega, by go_num, rfl⟩
      case measure => simp [intOf]; omega
    · go_wp2
      go_ret
      exact ⟨rfl, below_drewN (Below.refl _ _) m⟩
end Go.Proofs.Ytgamlhhchagnaaa
