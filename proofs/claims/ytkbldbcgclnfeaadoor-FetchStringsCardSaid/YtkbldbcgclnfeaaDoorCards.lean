/-
  DERIVED. GIVEN WITH THE SEED: THE CARDS: each row of YtkbldbcgclnfeaaDoorRows.lean that lists a variable, with what it lists TIED to the program's text (the seventh form; the later family's looks); each row that meets fmt, with fmt's text TOLD by the authors' own Lean function (tested against real Go, not proved from fmt's source: count such statements apart). THE CARD IS WHAT COUNTS. Prove the row's statement (the work); the ties are given (YtkbldbcgclnfeaaDoorTie.lean); close each card by the builder's one call (the guide's Derived/Test/ToyasCard.lean, 'card_holds'). Laid BY PROGRAM, IN A SANDBOX (cutbox-door.mjs). By AI agents, Wed Nov 11 2026. No macro, syntax, notation, axiom, sorry.
-/
import Derived.Test.YtkbldbcgclnfeaaDoorRows
import GoSem.ClaimSeven
namespace Go.Proofs.YtkbldbcgclnfeaaDoor
namespace Rows

/-- THE TIED CARD OF 'cubbylaw18.FetchStrings'. -/
def fetchStringsCard : Claim7 := { stood := { row := fetchStringsRow, standIns := [], harness := (true, "0fb058d0b805422cd15107cb92815934f336c85ae4e905f0dc1fb04878d916e6"), looks := false }, kinds := [], alts := [], laidByText := true, laidKinds := [.data, .data, .data], laidTests := true, laidLooks := .later }
def FetchStringsCardSaid : Prop := Claim7.holds Tryd.pinned (.plain (OpenSpec.ofChange fetchStringsSpec)) fetchStringsCard

/-- THE SECOND FORM's CARD OF 'cubbylaw18.FetchStrings'. -/
def fetchStringsUptoCard : Claim7 := { stood := { row := fetchStringsUptoRow, standIns := [], harness := (true, "0fb058d0b805422cd15107cb92815934f336c85ae4e905f0dc1fb04878d916e6"), looks := false }, kinds := [], alts := [], laidByText := true, laidKinds := [.data, .data, .data], laidTests := true, laidLooks := .later }
def FetchStringsUptoCardSaid : Prop := Claim7.holds Tryd.pinned (.plain (OpenSpec.upto fetchStringsSpec)) fetchStringsUptoCard
end Rows
end Go.Proofs.YtkbldbcgclnfeaaDoor
