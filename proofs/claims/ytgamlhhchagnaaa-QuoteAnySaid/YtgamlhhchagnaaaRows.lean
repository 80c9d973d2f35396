/-
  No cell of these rows narrows 'for every input' (looked for: loops, veiled, ifaces, maps, wideKeys, modest, calm, conditions, laid).
  DERIVED. THE GIVEN ROWS OF THIS SEAT. 3 by the template 'for every input the law returns true; each argument reads behind the call as it read before'; 0 by the template 'total and deterministic' (their statements: YtgamlhhchagnaaaTotals.lean).
  GIVEN WITH THE SEED: the statements are not yours to turn. If you find one false, say at which input.
  Laid BY PROGRAM, IN A SANDBOX (cutbox-rows.mjs): the forced cells as the released guide's own fill.sh prints them over the translation c6f2079a99474b6e… (all of the seat's roots in one cut). By AI agents, Wed Nov 11 2026. No macro, syntax, notation, axiom, sorry.
-/
import Derived.Test.YtgamlhhchagnaaaChecked
import GoSem.Claim
import GoSem.ClaimJoined
import GoSem.ClaimMapViews
import Derived.JoinedTies
import Derived.KernelRfl
namespace Go.Proofs.Ytgamlhhchagnaaa
/- THE CELL 'sum', in the pinned program and in every row, IS THE sha256 OF THE DUMP (.gsa) THAT YtgamlhhchagnaaaProg.lean LOADS. Nothing in Lean hashes anything: it is a label: what it is worth is what the hold of that sum in a sandbox is worth. -/
noncomputable def Try.pinned : Pinned := { name := "ytgamlhhchagnaaa", sum := "c6f2079a99474b6e86125fe134aa2a371cb07aa4de77bd5846842d7dc95d786d", checked := Try.checked }
namespace Rows
def none {H : Type} : Left H := { results := [], args := [] }

/-- 'souffleurlaw02.QuoteBack': WHATEVER THE INPUT: true; the input reads as it did. -/
def quoteBackSpec : ChangeSpec := { name := "quoteBack", fn := fun _ => fun
  | [d1, d2] => { results := [.lit (.bool true)], args := [d1, d2] }
  | _ => none }
def quoteBackRow : OpenClaim := { program := "ytgamlhhchagnaaa", sum := "c6f2079a99474b6e86125fe134aa2a371cb07aa4de77bd5846842d7dc95d786d", func := "souffleur/souffleurlaw02.QuoteBack", spec := "quoteBack", inPlace := ["internal/bytealg.IndexByteString"], apart := false }
def QuoteBackSaid : Prop := quoteBackRow.holds Try.pinned (OpenSpec.ofChange quoteBackSpec)

/-- ITS FALSE NEIGHBOUR: 'it returns false'. Refute it at one input. -/
def quoteBackWrong : ChangeSpec := { name := "quoteBack", fn := fun _ => fun
  | [d1, d2] => { results := [.lit (.bool false)], args := [d1, d2] }
  | _ => none }
def QuoteBackWrongFalsely : Prop := quoteBackRow.holds Try.pinned (OpenSpec.ofChange quoteBackWrong)

/-- 'souffleurlaw02.QuoteAny': WHATEVER THE INPUT: true; the input reads as it did. -/
def quoteAnySpec : ChangeSpec := { name := "quoteAny", fn := fun _ => fun
  | [d] => { results := [.lit (.bool true)], args := [d] }
  | _ => none }
def quoteAnyRow : OpenClaim := { program := "ytgamlhhchagnaaa", sum := "c6f2079a99474b6e86125fe134aa2a371cb07aa4de77bd5846842d7dc95d786d", func := "souffleur/souffleurlaw02.QuoteAny", spec := "quoteAny", inPlace := ["internal/bytealg.IndexByteString"], apart := false }
def QuoteAnySaid : Prop := quoteAnyRow.holds Try.pinned (OpenSpec.ofChange quoteAnySpec)

/-- ITS FALSE NEIGHBOUR: 'it returns false'. Refute it at one input. -/
def quoteAnyWrong : ChangeSpec := { name := "quoteAny", fn := fun _ => fun
  | [d] => { results := [.lit (.bool false)], args := [d] }
  | _ => none }
def QuoteAnyWrongFalsely : Prop := quoteAnyRow.holds Try.pinned (OpenSpec.ofChange quoteAnyWrong)

/-- 'souffleurlaw02.QuoteGoes': WHATEVER THE INPUT: true; the input reads as it did. -/
def quoteGoesSpec : ChangeSpec := { name := "quoteGoes", fn := fun _ => fun
  | [d1, d2] => { results := [.lit (.bool true)], args := [d1, d2] }
  | _ => none }
def quoteGoesRow : OpenClaim := { program := "ytgamlhhchagnaaa", sum := "c6f2079a99474b6e86125fe134aa2a371cb07aa4de77bd5846842d7dc95d786d", func := "souffleur/souffleurlaw02.QuoteGoes", spec := "quoteGoes", inPlace := ["internal/bytealg.IndexByteString"], apart := false }
def QuoteGoesSaid : Prop := quoteGoesRow.holds Try.pinned (OpenSpec.ofChange quoteGoesSpec)

/-- ITS FALSE NEIGHBOUR: 'it returns false'. Refute it at one input. -/
def quoteGoesWrong : ChangeSpec := { name := "quoteGoes", fn := fun _ => fun
  | [d1, d2] => { results := [.lit (.bool false)], args := [d1, d2] }
  | _ => none }
def QuoteGoesWrongFalsely : Prop := quoteGoesRow.holds Try.pinned (OpenSpec.ofChange quoteGoesWrong)

/- THE SECOND FORM. 'bulk': how many values and letters a reading holds, each counted each time it is reached (what is shared counts as often as it is met; a slice's spare places count too). A statement '..UptoSaid' is the law's where the arguments, and the package variables that the reading takes, are together of bulk at most 1048576: NARROWER than '..Said'. Prove '..Said' where nothing that the law and all that it calls make is longer than what came in: it says more and counts as full. Else prove '..UptoSaid'. A law counts once. -/
mutual
def uptoBulk {H : Type} : DataW H → Nat
  | .lit (.string bytes) => bytes.length + 1
  | .lit _ => 1
  | .nil => 1
  | .ptr d => uptoBulk d + 1
  | .slice elems spare => uptoBulkAll elems + uptoBulkAll spare + 1
  | .agg parts => uptoBulkAll parts + 1
  | .iface _ d => uptoBulk d + 1
  | .map entries => uptoBulkEntries entries + 1
  | .held _ => 1
def uptoBulkAll {H : Type} : List (DataW H) → Nat
  | [] => 0
  | d :: r => uptoBulk d + uptoBulkAll r
def uptoBulkEntries {H : Type} : List (Lit × DataW H) → Nat
  | [] => 0
  | x :: r => uptoBulkEntry x + uptoBulkEntries r
def uptoBulkEntry {H : Type} : Lit × DataW H → Nat
  | (.string bytes, d) => bytes.length + uptoBulk d + 1
  | (_, d) => uptoBulk d + 1
 end
def uptoSmall : (H : Type) → List (DataW H) → Bool := fun _ ds => decide (uptoBulkAll ds ≤ 1048576)
def OpenSpec.upto (s : _root_.Go.ChangeSpec) : _root_.Go.OpenSpec := { _root_.Go.OpenSpec.ofChange s with cond := some uptoSmall }

/-- 'souffleurlaw02.QuoteBack', WHERE WHAT IT READS IS OF BULK AT MOST 1048576: true; the input reads as it did. -/
def quoteBackUptoRow : OpenClaim := { program := "ytgamlhhchagnaaa", sum := "c6f2079a99474b6e86125fe134aa2a371cb07aa4de77bd5846842d7dc95d786d", func := "souffleur/souffleurlaw02.QuoteBack", spec := "quoteBack", inPlace := ["internal/bytealg.IndexByteString"], apart := false, narrowed := true }
def QuoteBackUptoSaid : Prop := quoteBackUptoRow.holds Try.pinned (OpenSpec.upto quoteBackSpec)

/-- 'souffleurlaw02.QuoteAny', WHERE WHAT IT READS IS OF BULK AT MOST 1048576: true; the input reads as it did. -/
def quoteAnyUptoRow : OpenClaim := { program := "ytgamlhhchagnaaa", sum := "c6f2079a99474b6e86125fe134aa2a371cb07aa4de77bd5846842d7dc95d786d", func := "souffleur/souffleurlaw02.QuoteAny", spec := "quoteAny", inPlace := ["internal/bytealg.IndexByteString"], apart := false, narrowed := true }
def QuoteAnyUptoSaid : Prop := quoteAnyUptoRow.holds Try.pinned (OpenSpec.upto quoteAnySpec)

/-- 'souffleurlaw02.QuoteGoes', WHERE WHAT IT READS IS OF BULK AT MOST 1048576: true; the input reads as it did. -/
def quoteGoesUptoRow : OpenClaim := { program := "ytgamlhhchagnaaa", sum := "c6f2079a99474b6e86125fe134aa2a371cb07aa4de77bd5846842d7dc95d786d", func := "souffleur/souffleurlaw02.QuoteGoes", spec := "quoteGoes", inPlace := ["internal/bytealg.IndexByteString"], apart := false, narrowed := true }
def QuoteGoesUptoSaid : Prop := quoteGoesUptoRow.holds Try.pinned (OpenSpec.upto quoteGoesSpec)

end Rows
end Go.Proofs.Ytgamlhhchagnaaa
