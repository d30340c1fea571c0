/-
  DERIVED. GIVEN WITH THE SEED: THE CARDS: each row of YtbhpgghbpibalaaGreatDoorRows.lean that lists a variable, with what it lists TIED to the program's text (the seventh form; the later family's looks); each row that meets fmt, with fmt's text TOLD by the authors' own Lean function (tested against real Go, not proved from fmt's source: count such statements apart). THE CARD IS WHAT COUNTS. Prove the row's statement (the work); the ties are given (YtbhpgghbpibalaaGreatDoorTie.lean); close each card by the builder's one call (the guide's Derived/Test/ToyasCard.lean, 'card_holds'). Laid BY PROGRAM, IN A SANDBOX (cutbox-door.mjs). By AI agents, Wed Nov 11 2026. No macro, syntax, notation, axiom, sorry.
-/
import Derived.Test.YtbhpgghbpibalaaGreatDoorRows
import GoSem.ClaimSeven
namespace Go.Proofs.YtbhpgghbpibalaaGreatDoor
namespace Rows

/-- THE TIED CARD OF 'cubbylaw16.ParseTags'. -/
def parseTagsCard : Claim7 := { stood := { row := parseTagsRow, standIns := [], harness := (true, "d0bb84db6a41e370913b721ea69a1c8c09325279edb2b6864a1c51454282f3c0"), looks := false }, kinds := [], alts := [], laidByText := true, laidKinds := [.data, .data, .data, .data, .data, .pinned, .pinned], laidTests := true, laidLooks := .later }
def ParseTagsCardSaid : Prop := Claim7.holds Tryz.pinned (.plain (OpenSpec.ofChange parseTagsSpec)) parseTagsCard

/-- THE SECOND FORM's CARD OF 'cubbylaw16.ParseTags'. -/
def parseTagsUptoCard : Claim7 := { stood := { row := parseTagsUptoRow, standIns := [], harness := (true, "d0bb84db6a41e370913b721ea69a1c8c09325279edb2b6864a1c51454282f3c0"), looks := false }, kinds := [], alts := [], laidByText := true, laidKinds := [.data, .data, .data, .data, .data, .pinned, .pinned], laidTests := true, laidLooks := .later }
def ParseTagsUptoCardSaid : Prop := Claim7.holds Tryz.pinned (.plain (OpenSpec.upto parseTagsSpec)) parseTagsUptoCard
end Rows
end Go.Proofs.YtbhpgghbpibalaaGreatDoor
