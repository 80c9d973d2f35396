/-
  DERIVED. GIVEN WITH THE SEED: THE CARDS: each row of YtiafefjaldcpbaaDoorRows.lean that lists a variable, with what it lists TIED to the program's text (the seventh form; the later family's looks); each row that meets fmt, with fmt's text TOLD by the authors' own Lean function (tested against real Go, not proved from fmt's source: count such statements apart). THE CARD IS WHAT COUNTS. Prove the row's statement (the work); the ties are given (YtiafefjaldcpbaaDoorTie.lean); close each card by the builder's one call (the guide's Derived/Test/ToyasCard.lean, 'card_holds'). Laid BY PROGRAM, IN A SANDBOX (cutbox-door.mjs). By AI agents, Wed Nov 11 2026. No macro, syntax, notation, axiom, sorry.
-/
import Derived.Test.YtiafefjaldcpbaaDoorRows
import GoSem.ClaimSeven
namespace Go.Proofs.YtiafefjaldcpbaaDoor
namespace Rows

/-- THE TIED CARD OF 'souffleurlaw05.DerivParts'. -/
def derivPartsCard : Claim7 := { stood := { row := derivPartsRow, standIns := [], harness := (true, "64127c649ed85534682396043e6d924f5cfece68b66475dc905d184f3311fe2d"), looks := false }, kinds := [], alts := [], laidByText := true, laidKinds := [.data, .data, .data], laidTests := true, laidLooks := .later }
def DerivPartsCardSaid : Prop := Claim7.holds Tryd.pinned (.plain (OpenSpec.ofChange derivPartsSpec)) derivPartsCard

/-- THE TIED CARD OF 'souffleurlaw05.DerivRepeats'. -/
def derivRepeatsCard : Claim7 := { stood := { row := derivRepeatsRow, standIns := [], harness := (true, "64127c649ed85534682396043e6d924f5cfece68b66475dc905d184f3311fe2d"), looks := false }, kinds := [], alts := [], laidByText := true, laidKinds := [.data, .data, .data], laidTests := true, laidLooks := .later }
def DerivRepeatsCardSaid : Prop := Claim7.holds Tryd.pinned (.plain (OpenSpec.ofChange derivRepeatsSpec)) derivRepeatsCard

/-- THE SECOND FORM's CARD OF 'souffleurlaw05.DerivParts'. -/
def derivPartsUptoCard : Claim7 := { stood := { row := derivPartsUptoRow, standIns := [], harness := (true, "64127c649ed85534682396043e6d924f5cfece68b66475dc905d184f3311fe2d"), looks := false }, kinds := [], alts := [], laidByText := true, laidKinds := [.data, .data, .data], laidTests := true, laidLooks := .later }
def DerivPartsUptoCardSaid : Prop := Claim7.holds Tryd.pinned (.plain (OpenSpec.upto derivPartsSpec)) derivPartsUptoCard

/-- THE SECOND FORM's CARD OF 'souffleurlaw05.DerivRepeats'. -/
def derivRepeatsUptoCard : Claim7 := { stood := { row := derivRepeatsUptoRow, standIns := [], harness := (true, "64127c649ed85534682396043e6d924f5cfece68b66475dc905d184f3311fe2d"), looks := false }, kinds := [], alts := [], laidByText := true, laidKinds := [.data, .data, .data], laidTests := true, laidLooks := .later }
def DerivRepeatsUptoCardSaid : Prop := Claim7.holds Tryd.pinned (.plain (OpenSpec.upto derivRepeatsSpec)) derivRepeatsUptoCard
end Rows
end Go.Proofs.YtiafefjaldcpbaaDoor
