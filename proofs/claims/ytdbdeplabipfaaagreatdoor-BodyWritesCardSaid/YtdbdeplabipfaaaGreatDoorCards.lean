/-
  DERIVED. GIVEN WITH THE SEED: THE CARDS: each row of YtdbdeplabipfaaaGreatDoorRows.lean that lists a variable, with what it lists TIED to the program's text (the seventh form; the later family's looks); each row that meets fmt, with fmt's text TOLD by the authors' own Lean function (tested against real Go, not proved from fmt's source: count such statements apart). THE CARD IS WHAT COUNTS. Prove the row's statement (the work); the ties are given (YtdbdeplabipfaaaGreatDoorTie.lean); close each card by the builder's one call (the guide's Derived/Test/ToyasCard.lean, 'card_holds'). Laid BY PROGRAM, IN A SANDBOX (cutbox-door.mjs). By AI agents, Wed Nov 11 2026. No macro, syntax, notation, axiom, sorry.
-/
import Derived.Test.YtdbdeplabipfaaaGreatDoorRows
import GoSem.ClaimSeven
namespace Go.Proofs.YtdbdeplabipfaaaGreatDoor
namespace Rows

/-- THE TIED CARD OF 'cubbylaw09.BodyWrites'. -/
def bodyWritesCard : Claim7 := { stood := { row := bodyWritesRow, standIns := [], harness := (true, "e45430765fe32b208528fbf5459ddee9dc197d412fa1b8fd8a7b185197852002"), looks := false }, kinds := [], alts := [], laidByText := true, laidKinds := [.data, .data, .data, .data, .data, .data, .data, .pinned, .pinned], laidTests := true, laidLooks := .later }
def BodyWritesCardSaid : Prop := Claim7.holds Tryz.pinned (.plain (OpenSpec.ofChange bodyWritesSpec)) bodyWritesCard

/-- THE SECOND FORM's CARD OF 'cubbylaw09.BodyWrites'. -/
def bodyWritesUptoCard : Claim7 := { stood := { row := bodyWritesUptoRow, standIns := [], harness := (true, "e45430765fe32b208528fbf5459ddee9dc197d412fa1b8fd8a7b185197852002"), looks := false }, kinds := [], alts := [], laidByText := true, laidKinds := [.data, .data, .data, .data, .data, .data, .data, .pinned, .pinned], laidTests := true, laidLooks := .later }
def BodyWritesUptoCardSaid : Prop := Claim7.holds Tryz.pinned (.plain (OpenSpec.upto bodyWritesSpec)) bodyWritesUptoCard
end Rows
end Go.Proofs.YtdbdeplabipfaaaGreatDoor
