/-
  DERIVED. GIVEN WITH THE SEED: THE CARDS: each row of YtklmbiekpilkhaaGreatDoorRows.lean that lists a variable, with what it lists TIED to the program's text (the seventh form; the later family's looks); each row that meets fmt, with fmt's text TOLD by the authors' own Lean function (tested against real Go, not proved from fmt's source: count such statements apart). THE CARD IS WHAT COUNTS. Prove the row's statement (the work); the ties are given (YtklmbiekpilkhaaGreatDoorTie.lean); close each card by the builder's one call (the guide's Derived/Test/ToyasCard.lean, 'card_holds'). Laid BY PROGRAM, IN A SANDBOX (cutbox-door.mjs). By AI agents, Wed Nov 11 2026. No macro, syntax, notation, axiom, sorry.
-/
import Derived.Test.YtklmbiekpilkhaaGreatDoorRows
import GoSem.ClaimSeven
namespace Go.Proofs.YtklmbiekpilkhaaGreatDoor
namespace Rows

/-- THE TIED CARD OF 'cubbylaw11.IndexReads'. -/
def indexReadsCard : Claim7 := { stood := { row := indexReadsRow, standIns := [], harness := (true, "6bedcdb06b788d4e35ac2f9e1ab721fc9c8bc7a0e85d387b37bed61727ef4666"), looks := false }, kinds := [], alts := [], laidByText := true, laidKinds := [.data, .data, .data, .pinned, .pinned], laidTests := true, laidLooks := .later }
def IndexReadsCardSaid : Prop := Claim7.holds Tryz.pinned (.plain (OpenSpec.ofChange indexReadsSpec)) indexReadsCard

/-- THE TIED CARD OF 'cubbylaw11.IndexOf'. -/
def indexOfCard : Claim7 := { stood := { row := indexOfRow, standIns := [], harness := (true, "6bedcdb06b788d4e35ac2f9e1ab721fc9c8bc7a0e85d387b37bed61727ef4666"), looks := false }, kinds := [], alts := [], laidByText := true, laidKinds := [.data, .data, .data, .data, .data, .data, .data, .pinned, .pinned], laidTests := true, laidLooks := .later }
def IndexOfCardSaid : Prop := Claim7.holds Tryz.pinned (.plain (OpenSpec.ofChange indexOfSpec)) indexOfCard

/-- THE SECOND FORM's CARD OF 'cubbylaw11.IndexReads'. -/
def indexReadsUptoCard : Claim7 := { stood := { row := indexReadsUptoRow, standIns := [], harness := (true, "6bedcdb06b788d4e35ac2f9e1ab721fc9c8bc7a0e85d387b37bed61727ef4666"), looks := false }, kinds := [], alts := [], laidByText := true, laidKinds := [.data, .data, .data, .pinned, .pinned], laidTests := true, laidLooks := .later }
def IndexReadsUptoCardSaid : Prop := Claim7.holds Tryz.pinned (.plain (OpenSpec.upto indexReadsSpec)) indexReadsUptoCard

/-- THE SECOND FORM's CARD OF 'cubbylaw11.IndexOf'. -/
def indexOfUptoCard : Claim7 := { stood := { row := indexOfUptoRow, standIns := [], harness := (true, "6bedcdb06b788d4e35ac2f9e1ab721fc9c8bc7a0e85d387b37bed61727ef4666"), looks := false }, kinds := [], alts := [], laidByText := true, laidKinds := [.data, .data, .data, .data, .data, .data, .data, .pinned, .pinned], laidTests := true, laidLooks := .later }
def IndexOfUptoCardSaid : Prop := Claim7.holds Tryz.pinned (.plain (OpenSpec.upto indexOfSpec)) indexOfUptoCard
end Rows
end Go.Proofs.YtklmbiekpilkhaaGreatDoor
