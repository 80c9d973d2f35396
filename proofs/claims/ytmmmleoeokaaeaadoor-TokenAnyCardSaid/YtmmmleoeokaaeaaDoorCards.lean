/-
  DERIVED. GIVEN WITH THE SEED: THE CARDS: each row of YtmmmleoeokaaeaaDoorRows.lean that lists a variable, with what it lists TIED to the program's text (the seventh form; the later family's looks); each row that meets fmt, with fmt's text TOLD by the authors' own Lean function (tested against real Go, not proved from fmt's source: count such statements apart). THE CARD IS WHAT COUNTS. Prove the row's statement (the work); the ties are given (YtmmmleoeokaaeaaDoorTie.lean); close each card by the builder's one call (the guide's Derived/Test/ToyasCard.lean, 'card_holds'). Laid BY PROGRAM, IN A SANDBOX (cutbox-door.mjs). By AI agents, Wed Nov 11 2026. No macro, syntax, notation, axiom, sorry.
-/
import Derived.Test.YtmmmleoeokaaeaaDoorRows
import GoSem.ClaimSeven
namespace Go.Proofs.YtmmmleoeokaaeaaDoor
namespace Rows

/-- THE TIED CARD OF 'souffleurlaw08.TokenAny'. -/
def tokenAnyCard : Claim7 := { stood := { row := tokenAnyRow, standIns := [], harness := (true, "c9a6ecc697ba6f68e7a67a729f0cdf7cb6d22246b27c4ed279f146caec4d2cb1"), looks := true }, kinds := [], alts := [], laidByText := true, laidKinds := [.data, .data, .data, .sentinel, .sentinel], laidTests := true, laidLooks := .later }
def TokenAnyCardSaid : Prop := Claim7.holds Tryd.pinned (.plain (OpenSpec.ofChange tokenAnySpec)) tokenAnyCard

/-- THE TIED CARD OF 'souffleurlaw08.TokenLong'. -/
def tokenLongCard : Claim7 := { stood := { row := tokenLongRow, standIns := [], harness := (true, "c9a6ecc697ba6f68e7a67a729f0cdf7cb6d22246b27c4ed279f146caec4d2cb1"), looks := true }, kinds := [], alts := [], laidByText := true, laidKinds := [.data, .data, .data, .sentinel, .sentinel], laidTests := true, laidLooks := .later }
def TokenLongCardSaid : Prop := Claim7.holds Tryd.pinned (.plain (OpenSpec.ofChange tokenLongSpec)) tokenLongCard

/-- THE SECOND FORM's CARD OF 'souffleurlaw08.TokenAny'. -/
def tokenAnyUptoCard : Claim7 := { stood := { row := tokenAnyUptoRow, standIns := [], harness := (true, "c9a6ecc697ba6f68e7a67a729f0cdf7cb6d22246b27c4ed279f146caec4d2cb1"), looks := true }, kinds := [], alts := [], laidByText := true, laidKinds := [.data, .data, .data, .sentinel, .sentinel], laidTests := true, laidLooks := .later }
def TokenAnyUptoCardSaid : Prop := Claim7.holds Tryd.pinned (.plain (OpenSpec.upto tokenAnySpec)) tokenAnyUptoCard

/-- THE SECOND FORM's CARD OF 'souffleurlaw08.TokenLong'. -/
def tokenLongUptoCard : Claim7 := { stood := { row := tokenLongUptoRow, standIns := [], harness := (true, "c9a6ecc697ba6f68e7a67a729f0cdf7cb6d22246b27c4ed279f146caec4d2cb1"), looks := true }, kinds := [], alts := [], laidByText := true, laidKinds := [.data, .data, .data, .sentinel, .sentinel], laidTests := true, laidLooks := .later }
def TokenLongUptoCardSaid : Prop := Claim7.holds Tryd.pinned (.plain (OpenSpec.upto tokenLongSpec)) tokenLongUptoCard
end Rows
end Go.Proofs.YtmmmleoeokaaeaaDoor
