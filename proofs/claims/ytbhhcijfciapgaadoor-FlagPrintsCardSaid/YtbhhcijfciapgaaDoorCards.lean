/-
  DERIVED. GIVEN WITH THE SEED: THE CARDS: each row of YtbhhcijfciapgaaDoorRows.lean that lists a variable, with what it lists TIED to the program's text (the seventh form; the later family's looks); each row that meets fmt, with fmt's text TOLD by the authors' own Lean function (tested against real Go, not proved from fmt's source: count such statements apart). THE CARD IS WHAT COUNTS. Prove the row's statement (the work); the ties are given (YtbhhcijfciapgaaDoorTie.lean); close each card by the builder's one call (the guide's Derived/Test/ToyasCard.lean, 'card_holds'). Laid BY PROGRAM, IN A SANDBOX (cutbox-door.mjs). By AI agents, Wed Nov 11 2026. No macro, syntax, notation, axiom, sorry.
-/
import Derived.Test.YtbhhcijfciapgaaDoorRows
import GoSem.ClaimSeven
namespace Go.Proofs.YtbhhcijfciapgaaDoor
namespace Rows

/-- THE TIED CARD OF 'cubbylaw08.FlagPrints'. -/
def flagPrintsCard : Claim7 := { stood := { row := flagPrintsRow, standIns := [], harness := (true, "bbbd4eeac52f2d90f44b292f33bdcf0600574782e856a7832ae6da0d76e0555a"), looks := false }, kinds := [], alts := [], laidByText := true, laidKinds := [.data, .data, .data, .data, .pinned, .pinned], laidTests := true, laidLooks := .later }
def FlagPrintsCardSaid : Prop := Claim7.holds Tryd.pinned (.plain (OpenSpec.ofChange flagPrintsSpec)) flagPrintsCard

/-- THE TIED CARD OF 'cubbylaw08.FlagParses'. -/
def flagParsesCard : Claim7 := { stood := { row := flagParsesRow, standIns := [], harness := (true, "bbbd4eeac52f2d90f44b292f33bdcf0600574782e856a7832ae6da0d76e0555a"), looks := false }, kinds := [], alts := [], laidByText := true, laidKinds := [.data, .data, .data, .data, .pinned, .pinned], laidTests := true, laidLooks := .later }
def FlagParsesCardSaid : Prop := Claim7.holds Tryd.pinned (.plain (OpenSpec.ofChange flagParsesSpec)) flagParsesCard

/-- THE TIED CARD OF 'cubbylaw08.FlagChanges'. -/
def flagChangesCard : Claim7 := { stood := { row := flagChangesRow, standIns := [], harness := (true, "bbbd4eeac52f2d90f44b292f33bdcf0600574782e856a7832ae6da0d76e0555a"), looks := false }, kinds := [], alts := [], laidByText := true, laidKinds := [.data], laidTests := true, laidLooks := .later }
def FlagChangesCardSaid : Prop := Claim7.holds Tryd.pinned (.plain (OpenSpec.ofChange flagChangesSpec)) flagChangesCard

/-- THE SECOND FORM's CARD OF 'cubbylaw08.FlagPrints'. -/
def flagPrintsUptoCard : Claim7 := { stood := { row := flagPrintsUptoRow, standIns := [], harness := (true, "bbbd4eeac52f2d90f44b292f33bdcf0600574782e856a7832ae6da0d76e0555a"), looks := false }, kinds := [], alts := [], laidByText := true, laidKinds := [.data, .data, .data, .data, .pinned, .pinned], laidTests := true, laidLooks := .later }
def FlagPrintsUptoCardSaid : Prop := Claim7.holds Tryd.pinned (.plain (OpenSpec.upto flagPrintsSpec)) flagPrintsUptoCard

/-- THE SECOND FORM's CARD OF 'cubbylaw08.FlagParses'. -/
def flagParsesUptoCard : Claim7 := { stood := { row := flagParsesUptoRow, standIns := [], harness := (true, "bbbd4eeac52f2d90f44b292f33bdcf0600574782e856a7832ae6da0d76e0555a"), looks := false }, kinds := [], alts := [], laidByText := true, laidKinds := [.data, .data, .data, .data, .pinned, .pinned], laidTests := true, laidLooks := .later }
def FlagParsesUptoCardSaid : Prop := Claim7.holds Tryd.pinned (.plain (OpenSpec.upto flagParsesSpec)) flagParsesUptoCard

/-- THE SECOND FORM's CARD OF 'cubbylaw08.FlagChanges'. -/
def flagChangesUptoCard : Claim7 := { stood := { row := flagChangesUptoRow, standIns := [], harness := (true, "bbbd4eeac52f2d90f44b292f33bdcf0600574782e856a7832ae6da0d76e0555a"), looks := false }, kinds := [], alts := [], laidByText := true, laidKinds := [.data], laidTests := true, laidLooks := .later }
def FlagChangesUptoCardSaid : Prop := Claim7.holds Tryd.pinned (.plain (OpenSpec.upto flagChangesSpec)) flagChangesUptoCard
end Rows
end Go.Proofs.YtbhhcijfciapgaaDoor
