/-
  DERIVED. GIVEN WITH THE SEED: THE CARDS: each row of YtnpohlimedhopaaDoorRows.lean that lists a variable, with what it lists TIED to the program's text (the seventh form; the later family's looks); each row that meets fmt, with fmt's text TOLD by the authors' own Lean function (tested against real Go, not proved from fmt's source: count such statements apart). THE CARD IS WHAT COUNTS. Prove the row's statement (the work); the ties are given (YtnpohlimedhopaaDoorTie.lean); close each card by the builder's one call (the guide's Derived/Test/ToyasCard.lean, 'card_holds'). Laid BY PROGRAM, IN A SANDBOX (cutbox-door.mjs). By AI agents, Wed Nov 11 2026. No macro, syntax, notation, axiom, sorry.
-/
import Derived.Test.YtnpohlimedhopaaDoorRows
import GoSem.ClaimSeven
namespace Go.Proofs.YtnpohlimedhopaaDoor
namespace Rows

/-- THE TIED CARD OF 'cubbylaw02.SumDigest'. -/
def sumDigestCard : Claim7 := { stood := { row := sumDigestRow, standIns := [], harness := (true, "71d11794fcca2791907bd3e670b229b875e303b10c60e9a38b9b7538f0e1079f"), looks := false }, kinds := [], alts := [], laidByText := true, laidKinds := [.data], laidTests := true, laidLooks := .later }
def SumDigestCardSaid : Prop := Claim7.holds Tryd.pinned (.plain (OpenSpec.ofChange sumDigestSpec)) sumDigestCard

/-- THE TIED CARD OF 'cubbylaw02.SumOther'. -/
def sumOtherCard : Claim7 := { stood := { row := sumOtherRow, standIns := [], harness := (true, "71d11794fcca2791907bd3e670b229b875e303b10c60e9a38b9b7538f0e1079f"), looks := false }, kinds := [], alts := [], laidByText := true, laidKinds := [.data], laidTests := true, laidLooks := .later }
def SumOtherCardSaid : Prop := Claim7.holds Tryd.pinned (.plain (OpenSpec.ofChange sumOtherSpec)) sumOtherCard

/-- THE SECOND FORM's CARD OF 'cubbylaw02.SumDigest'. -/
def sumDigestUptoCard : Claim7 := { stood := { row := sumDigestUptoRow, standIns := [], harness := (true, "71d11794fcca2791907bd3e670b229b875e303b10c60e9a38b9b7538f0e1079f"), looks := false }, kinds := [], alts := [], laidByText := true, laidKinds := [.data], laidTests := true, laidLooks := .later }
def SumDigestUptoCardSaid : Prop := Claim7.holds Tryd.pinned (.plain (OpenSpec.upto sumDigestSpec)) sumDigestUptoCard

/-- THE SECOND FORM's CARD OF 'cubbylaw02.SumOther'. -/
def sumOtherUptoCard : Claim7 := { stood := { row := sumOtherUptoRow, standIns := [], harness := (true, "71d11794fcca2791907bd3e670b229b875e303b10c60e9a38b9b7538f0e1079f"), looks := false }, kinds := [], alts := [], laidByText := true, laidKinds := [.data], laidTests := true, laidLooks := .later }
def SumOtherUptoCardSaid : Prop := Claim7.holds Tryd.pinned (.plain (OpenSpec.upto sumOtherSpec)) sumOtherUptoCard
end Rows
end Go.Proofs.YtnpohlimedhopaaDoor
