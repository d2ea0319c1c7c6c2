/-
  DERIVED. GIVEN WITH THE SEED: THE CARDS: each row of YtncnildpbccpaaaDoorRows.lean that lists a variable, with what it lists TIED to the program's text (the seventh form; the later family's looks); each row that meets fmt, with fmt's text TOLD by the authors' own Lean function (tested against real Go, not proved from fmt's source: count such statements apart). THE CARD IS WHAT COUNTS. Prove the row's statement (the work); the ties are given (YtncnildpbccpaaaDoorTie.lean); close each card by the builder's one call (the guide's Derived/Test/ToyasCard.lean, 'card_holds'). Laid BY PROGRAM, IN A SANDBOX (cutbox-door.mjs). By AI agents, Wed Nov 11 2026. No macro, syntax, notation, axiom, sorry.
-/
import Derived.Test.YtncnildpbccpaaaDoorRows
import GoSem.ClaimSeven
namespace Go.Proofs.YtncnildpbccpaaaDoor
namespace Rows

/-- THE TIED CARD OF 'gueritelaw04.OptionParses'. -/
def optionParsesCard : Claim7 := { stood := { row := optionParsesRow, standIns := [], harness := (true, "254a9b18b2e53808b1ffabf1e4af600494e9b4afc1b4ca2da856d66658375f47"), looks := false }, kinds := [], alts := [], laidByText := true, laidKinds := [.data, .pinned], laidTests := true, laidLooks := .later }
def OptionParsesCardSaid : Prop := Claim7.holds Tryd.pinned (.plain (OpenSpec.ofChange optionParsesSpec)) optionParsesCard

/-- THE TIED CARD OF 'gueritelaw04.OptionBack'. -/
def optionBackCard : Claim7 := { stood := { row := optionBackRow, standIns := [], harness := (true, "254a9b18b2e53808b1ffabf1e4af600494e9b4afc1b4ca2da856d66658375f47"), looks := false }, kinds := [], alts := [], laidByText := true, laidKinds := [.data, .pinned], laidTests := true, laidLooks := .later }
def OptionBackCardSaid : Prop := Claim7.holds Tryd.pinned (.plain (OpenSpec.ofChange optionBackSpec)) optionBackCard

/-- THE TIED CARD OF 'gueritelaw05.HeaderParses'. -/
def headerParsesCard : Claim7 := { stood := { row := headerParsesRow, standIns := [], harness := (true, "254a9b18b2e53808b1ffabf1e4af600494e9b4afc1b4ca2da856d66658375f47"), looks := false }, kinds := [], alts := [], laidByText := true, laidKinds := [.data, .pinned], laidTests := true, laidLooks := .later }
def HeaderParsesCardSaid : Prop := Claim7.holds Tryd.pinned (.plain (OpenSpec.ofChange headerParsesSpec)) headerParsesCard

/-- THE TIED CARD OF 'gueritelaw05.HeaderBack'. -/
def headerBackCard : Claim7 := { stood := { row := headerBackRow, standIns := [], harness := (true, "254a9b18b2e53808b1ffabf1e4af600494e9b4afc1b4ca2da856d66658375f47"), looks := false }, kinds := [], alts := [], laidByText := true, laidKinds := [.data, .pinned], laidTests := true, laidLooks := .later }
def HeaderBackCardSaid : Prop := Claim7.holds Tryd.pinned (.plain (OpenSpec.ofChange headerBackSpec)) headerBackCard

/-- THE TIED CARD OF 'gueritelaw05.HeaderLowers'. -/
def headerLowersCard : Claim7 := { stood := { row := headerLowersRow, standIns := [], harness := (true, "254a9b18b2e53808b1ffabf1e4af600494e9b4afc1b4ca2da856d66658375f47"), looks := false }, kinds := [], alts := [], laidByText := true, laidKinds := [.data, .pinned], laidTests := true, laidLooks := .later }
def HeaderLowersCardSaid : Prop := Claim7.holds Tryd.pinned (.plain (OpenSpec.ofChange headerLowersSpec)) headerLowersCard

/-- THE TIED CARD OF 'gueritelaw05.HeaderBent'. -/
def headerBentCard : Claim7 := { stood := { row := headerBentRow, standIns := [], harness := (true, "254a9b18b2e53808b1ffabf1e4af600494e9b4afc1b4ca2da856d66658375f47"), looks := false }, kinds := [], alts := [], laidByText := true, laidKinds := [.data, .pinned], laidTests := true, laidLooks := .later }
def HeaderBentCardSaid : Prop := Claim7.holds Tryd.pinned (.plain (OpenSpec.ofChange headerBentSpec)) headerBentCard

/-- THE SECOND FORM's CARD OF 'gueritelaw04.OptionParses'. -/
def optionParsesUptoCard : Claim7 := { stood := { row := optionParsesUptoRow, standIns := [], harness := (true, "254a9b18b2e53808b1ffabf1e4af600494e9b4afc1b4ca2da856d66658375f47"), looks := false }, kinds := [], alts := [], laidByText := true, laidKinds := [.data, .pinned], laidTests := true, laidLooks := .later }
def OptionParsesUptoCardSaid : Prop := Claim7.holds Tryd.pinned (.plain (OpenSpec.upto optionParsesSpec)) optionParsesUptoCard

/-- THE SECOND FORM's CARD OF 'gueritelaw04.OptionBack'. -/
def optionBackUptoCard : Claim7 := { stood := { row := optionBackUptoRow, standIns := [], harness := (true, "254a9b18b2e53808b1ffabf1e4af600494e9b4afc1b4ca2da856d66658375f47"), looks := false }, kinds := [], alts := [], laidByText := true, laidKinds := [.data, .pinned], laidTests := true, laidLooks := .later }
def OptionBackUptoCardSaid : Prop := Claim7.holds Tryd.pinned (.plain (OpenSpec.upto optionBackSpec)) optionBackUptoCard

/-- THE SECOND FORM's CARD OF 'gueritelaw05.HeaderParses'. -/
def headerParsesUptoCard : Claim7 := { stood := { row := headerParsesUptoRow, standIns := [], harness := (true, "254a9b18b2e53808b1ffabf1e4af600494e9b4afc1b4ca2da856d66658375f47"), looks := false }, kinds := [], alts := [], laidByText := true, laidKinds := [.data, .pinned], laidTests := true, laidLooks := .later }
def HeaderParsesUptoCardSaid : Prop := Claim7.holds Tryd.pinned (.plain (OpenSpec.upto headerParsesSpec)) headerParsesUptoCard

/-- THE SECOND FORM's CARD OF 'gueritelaw05.HeaderBack'. -/
def headerBackUptoCard : Claim7 := { stood := { row := headerBackUptoRow, standIns := [], harness := (true, "254a9b18b2e53808b1ffabf1e4af600494e9b4afc1b4ca2da856d66658375f47"), looks := false }, kinds := [], alts := [], laidByText := true, laidKinds := [.data, .pinned], laidTests := true, laidLooks := .later }
def HeaderBackUptoCardSaid : Prop := Claim7.holds Tryd.pinned (.plain (OpenSpec.upto headerBackSpec)) headerBackUptoCard

/-- THE SECOND FORM's CARD OF 'gueritelaw05.HeaderLowers'. -/
def headerLowersUptoCard : Claim7 := { stood := { row := headerLowersUptoRow, standIns := [], harness := (true, "254a9b18b2e53808b1ffabf1e4af600494e9b4afc1b4ca2da856d66658375f47"), looks := false }, kinds := [], alts := [], laidByText := true, laidKinds := [.data, .pinned], laidTests := true, laidLooks := .later }
def HeaderLowersUptoCardSaid : Prop := Claim7.holds Tryd.pinned (.plain (OpenSpec.upto headerLowersSpec)) headerLowersUptoCard

/-- THE SECOND FORM's CARD OF 'gueritelaw05.HeaderBent'. -/
def headerBentUptoCard : Claim7 := { stood := { row := headerBentUptoRow, standIns := [], harness := (true, "254a9b18b2e53808b1ffabf1e4af600494e9b4afc1b4ca2da856d66658375f47"), looks := false }, kinds := [], alts := [], laidByText := true, laidKinds := [.data, .pinned], laidTests := true, laidLooks := .later }
def HeaderBentUptoCardSaid : Prop := Claim7.holds Tryd.pinned (.plain (OpenSpec.upto headerBentSpec)) headerBentUptoCard
end Rows
end Go.Proofs.YtncnildpbccpaaaDoor
