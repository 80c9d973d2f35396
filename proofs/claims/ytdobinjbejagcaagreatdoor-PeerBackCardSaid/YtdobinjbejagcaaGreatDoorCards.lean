/-
  DERIVED. GIVEN WITH THE SEED: THE CARDS: each row of YtdobinjbejagcaaGreatDoorRows.lean that lists a variable, with what it lists TIED to the program's text (the seventh form; the later family's looks); each row that meets fmt, with fmt's text TOLD by the authors' own Lean function (tested against real Go, not proved from fmt's source: count such statements apart). THE CARD IS WHAT COUNTS. Prove the row's statement (the work); the ties are given (YtdobinjbejagcaaGreatDoorTie.lean); close each card by the builder's one call (the guide's Derived/Test/ToyasCard.lean, 'card_holds'). Laid BY PROGRAM, IN A SANDBOX (cutbox-door.mjs). By AI agents, Wed Nov 11 2026. No macro, syntax, notation, axiom, sorry.
-/
import Derived.Test.YtdobinjbejagcaaGreatDoorRows
import GoSem.ClaimSeven
namespace Go.Proofs.YtdobinjbejagcaaGreatDoor
namespace Rows

/-- THE TIED CARD OF 'souffleurlaw13.PeerBack'. -/
def peerBackCard : Claim7 := { stood := { row := peerBackRow, standIns := [], harness := (true, "76a2bf79c5e1cfb3df87f6357af9b38e22f6e7aebfd6f866fdabec51e50425c7"), looks := true }, kinds := [], alts := [], laidByText := true, laidKinds := [.data, .data, .data, .sentinel, .sentinel], laidTests := true, laidLooks := .later }
def PeerBackCardSaid : Prop := Claim7.holds Tryz.pinned (.plain (OpenSpec.ofChange peerBackSpec)) peerBackCard

/-- THE TIED CARD OF 'souffleurlaw13.PeerAny'. -/
def peerAnyCard : Claim7 := { stood := { row := peerAnyRow, standIns := [], harness := (true, "76a2bf79c5e1cfb3df87f6357af9b38e22f6e7aebfd6f866fdabec51e50425c7"), looks := true }, kinds := [], alts := [], laidByText := true, laidKinds := [.data, .data, .data, .sentinel, .sentinel], laidTests := true, laidLooks := .later }
def PeerAnyCardSaid : Prop := Claim7.holds Tryz.pinned (.plain (OpenSpec.ofChange peerAnySpec)) peerAnyCard

/-- THE TIED CARD OF 'souffleurlaw13.PeerSames'. -/
def peerSamesCard : Claim7 := { stood := { row := peerSamesRow, standIns := [], harness := (true, "76a2bf79c5e1cfb3df87f6357af9b38e22f6e7aebfd6f866fdabec51e50425c7"), looks := true }, kinds := [], alts := [], laidByText := true, laidKinds := [.data, .data, .data, .sentinel, .sentinel], laidTests := true, laidLooks := .later }
def PeerSamesCardSaid : Prop := Claim7.holds Tryz.pinned (.plain (OpenSpec.ofChange peerSamesSpec)) peerSamesCard

/-- THE SECOND FORM's CARD OF 'souffleurlaw13.PeerBack'. -/
def peerBackUptoCard : Claim7 := { stood := { row := peerBackUptoRow, standIns := [], harness := (true, "76a2bf79c5e1cfb3df87f6357af9b38e22f6e7aebfd6f866fdabec51e50425c7"), looks := true }, kinds := [], alts := [], laidByText := true, laidKinds := [.data, .data, .data, .sentinel, .sentinel], laidTests := true, laidLooks := .later }
def PeerBackUptoCardSaid : Prop := Claim7.holds Tryz.pinned (.plain (OpenSpec.upto peerBackSpec)) peerBackUptoCard

/-- THE SECOND FORM's CARD OF 'souffleurlaw13.PeerAny'. -/
def peerAnyUptoCard : Claim7 := { stood := { row := peerAnyUptoRow, standIns := [], harness := (true, "76a2bf79c5e1cfb3df87f6357af9b38e22f6e7aebfd6f866fdabec51e50425c7"), looks := true }, kinds := [], alts := [], laidByText := true, laidKinds := [.data, .data, .data, .sentinel, .sentinel], laidTests := true, laidLooks := .later }
def PeerAnyUptoCardSaid : Prop := Claim7.holds Tryz.pinned (.plain (OpenSpec.upto peerAnySpec)) peerAnyUptoCard

/-- THE SECOND FORM's CARD OF 'souffleurlaw13.PeerSames'. -/
def peerSamesUptoCard : Claim7 := { stood := { row := peerSamesUptoRow, standIns := [], harness := (true, "76a2bf79c5e1cfb3df87f6357af9b38e22f6e7aebfd6f866fdabec51e50425c7"), looks := true }, kinds := [], alts := [], laidByText := true, laidKinds := [.data, .data, .data, .sentinel, .sentinel], laidTests := true, laidLooks := .later }
def PeerSamesUptoCardSaid : Prop := Claim7.holds Tryz.pinned (.plain (OpenSpec.upto peerSamesSpec)) peerSamesUptoCard
end Rows
end Go.Proofs.YtdobinjbejagcaaGreatDoor
