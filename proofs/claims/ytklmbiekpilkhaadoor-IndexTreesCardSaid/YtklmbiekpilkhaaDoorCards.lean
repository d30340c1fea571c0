/-
  DERIVED. GIVEN WITH THE SEED: THE CARDS: each row of YtklmbiekpilkhaaDoorRows.lean that lists a variable, with what it lists TIED to the program's text (the seventh form; the later family's looks); each row that meets fmt, with fmt's text TOLD by the authors' own Lean function (tested against real Go, not proved from fmt's source: count such statements apart). THE CARD IS WHAT COUNTS. Prove the row's statement (the work); the ties are given (YtklmbiekpilkhaaDoorTie.lean); close each card by the builder's one call (the guide's Derived/Test/ToyasCard.lean, 'card_holds'). Laid BY PROGRAM, IN A SANDBOX (cutbox-door.mjs). By AI agents, Wed Nov 11 2026. No macro, syntax, notation, axiom, sorry.
-/
import Derived.Test.YtklmbiekpilkhaaDoorRows
import GoSem.ClaimSeven
namespace Go.Proofs.YtklmbiekpilkhaaDoor
namespace Rows

/-- THE TIED CARD OF 'cubbylaw11.IndexTrees'. -/
def indexTreesCard : Claim7 := { stood := { row := indexTreesRow, standIns := [], harness := (true, "552a411a4f1839d0065f1cb175272dc8e5822e74fba9e95bfd626a2ae2a32c84"), looks := false }, kinds := [], alts := [], laidByText := true, laidKinds := [.data, .data, .data, .pinned, .pinned], laidTests := true, laidLooks := .later }
def IndexTreesCardSaid : Prop := Claim7.holds Tryd.pinned (.plain (OpenSpec.ofChange indexTreesSpec)) indexTreesCard

/-- THE SECOND FORM's CARD OF 'cubbylaw11.IndexTrees'. -/
def indexTreesUptoCard : Claim7 := { stood := { row := indexTreesUptoRow, standIns := [], harness := (true, "552a411a4f1839d0065f1cb175272dc8e5822e74fba9e95bfd626a2ae2a32c84"), looks := false }, kinds := [], alts := [], laidByText := true, laidKinds := [.data, .data, .data, .pinned, .pinned], laidTests := true, laidLooks := .later }
def IndexTreesUptoCardSaid : Prop := Claim7.holds Tryd.pinned (.plain (OpenSpec.upto indexTreesSpec)) indexTreesUptoCard
end Rows
end Go.Proofs.YtklmbiekpilkhaaDoor
