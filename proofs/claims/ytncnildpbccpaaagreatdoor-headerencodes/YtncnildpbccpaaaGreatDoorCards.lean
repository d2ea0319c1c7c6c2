/-
  DERIVED. GIVEN WITH THE SEED: THE CARDS: each row of YtncnildpbccpaaaGreatDoorRows.lean that lists a variable, with what it lists TIED to the program's text (the seventh form; the later family's looks); each row that meets fmt, with fmt's text TOLD by the authors' own Lean function (tested against real Go, not proved from fmt's source: count such statements apart). THE CARD IS WHAT COUNTS. Prove the row's statement (the work); the ties are given (YtncnildpbccpaaaGreatDoorTie.lean); close each card by the builder's one call (the guide's Derived/Test/ToyasCard.lean, 'card_holds'). Laid BY PROGRAM, IN A SANDBOX (cutbox-door.mjs). By AI agents, Wed Nov 11 2026. No macro, syntax, notation, axiom, sorry.
-/
import Derived.Test.YtncnildpbccpaaaGreatDoorRows
import GoSem.ClaimSeven
namespace Go.Proofs.YtncnildpbccpaaaGreatDoor
namespace Rows

/-- THE TIED CARD OF 'gueritelaw05.HeaderEncodes'. -/
def headerEncodesCard : Claim7 := { stood := { row := headerEncodesRow, standIns := [], harness := (true, "78d27434e9798a0c22aa545732c74ed5f84abf7bbd0c16205804247e74ccb5e6"), looks := false }, kinds := [], alts := [], laidByText := true, laidKinds := [.data, .pinned], laidTests := true, laidLooks := .later }
def HeaderEncodesCardSaid : Prop := Claim7.holds Tryz.pinned (.plain (OpenSpec.ofChange headerEncodesSpec)) headerEncodesCard

/-- THE SECOND FORM's CARD OF 'gueritelaw05.HeaderEncodes'. -/
def headerEncodesUptoCard : Claim7 := { stood := { row := headerEncodesUptoRow, standIns := [], harness := (true, "78d27434e9798a0c22aa545732c74ed5f84abf7bbd0c16205804247e74ccb5e6"), looks := false }, kinds := [], alts := [], laidByText := true, laidKinds := [.data, .pinned], laidTests := true, laidLooks := .later }
def HeaderEncodesUptoCardSaid : Prop := Claim7.holds Tryz.pinned (.plain (OpenSpec.upto headerEncodesSpec)) headerEncodesUptoCard
end Rows
end Go.Proofs.YtncnildpbccpaaaGreatDoor
