/-
  DERIVED. GIVEN WITH THE SEED: THE CARDS: each row of YtcepcamedmiinaaGreatDoorRows.lean that lists a variable, with what it lists TIED to the program's text (the seventh form; the later family's looks); each row that meets fmt, with fmt's text TOLD by the authors' own Lean function (tested against real Go, not proved from fmt's source: count such statements apart). THE CARD IS WHAT COUNTS. Prove the row's statement (the work); the ties are given (YtcepcamedmiinaaGreatDoorTie.lean); close each card by the builder's one call (the guide's Derived/Test/ToyasCard.lean, 'card_holds'). Laid BY PROGRAM, IN A SANDBOX (cutbox-door.mjs). By AI agents, Wed Nov 11 2026. No macro, syntax, notation, axiom, sorry.
-/
import Derived.Test.YtcepcamedmiinaaGreatDoorRows
import GoSem.ClaimSeven
namespace Go.Proofs.YtcepcamedmiinaaGreatDoor
namespace Rows

/-- THE TIED CARD OF 'cubbylaw17.SearchNone'. -/
def searchNoneCard : Claim7 := { stood := { row := searchNoneRow, standIns := [], harness := (true, "43fbc90ecc1fc148813e222d7c912812f0a4a174b9934598a72c4bf41f47e99d"), looks := true }, kinds := [], alts := [], laidByText := true, laidKinds := [.data, .data, .data, .data, .sentinel, .sentinel, .data, .pinned], laidTests := true, laidLooks := .later }
def SearchNoneCardSaid : Prop := Claim7.holds Tryz.pinned (.plain (OpenSpec.ofChange searchNoneSpec)) searchNoneCard

/-- THE TIED CARD OF 'cubbylaw17.SearchDeep'. -/
def searchDeepCard : Claim7 := { stood := { row := searchDeepRow, standIns := [], harness := (true, "43fbc90ecc1fc148813e222d7c912812f0a4a174b9934598a72c4bf41f47e99d"), looks := true }, kinds := [], alts := [], laidByText := true, laidKinds := [.data, .data, .data, .data, .sentinel, .sentinel, .data, .pinned], laidTests := true, laidLooks := .later }
def SearchDeepCardSaid : Prop := Claim7.holds Tryz.pinned (.plain (OpenSpec.ofChange searchDeepSpec)) searchDeepCard

/-- THE SECOND FORM's CARD OF 'cubbylaw17.SearchNone'. -/
def searchNoneUptoCard : Claim7 := { stood := { row := searchNoneUptoRow, standIns := [], harness := (true, "43fbc90ecc1fc148813e222d7c912812f0a4a174b9934598a72c4bf41f47e99d"), looks := true }, kinds := [], alts := [], laidByText := true, laidKinds := [.data, .data, .data, .data, .sentinel, .sentinel, .data, .pinned], laidTests := true, laidLooks := .later }
def SearchNoneUptoCardSaid : Prop := Claim7.holds Tryz.pinned (.plain (OpenSpec.upto searchNoneSpec)) searchNoneUptoCard

/-- THE SECOND FORM's CARD OF 'cubbylaw17.SearchDeep'. -/
def searchDeepUptoCard : Claim7 := { stood := { row := searchDeepUptoRow, standIns := [], harness := (true, "43fbc90ecc1fc148813e222d7c912812f0a4a174b9934598a72c4bf41f47e99d"), looks := true }, kinds := [], alts := [], laidByText := true, laidKinds := [.data, .data, .data, .data, .sentinel, .sentinel, .data, .pinned], laidTests := true, laidLooks := .later }
def SearchDeepUptoCardSaid : Prop := Claim7.holds Tryz.pinned (.plain (OpenSpec.upto searchDeepSpec)) searchDeepUptoCard
end Rows
end Go.Proofs.YtcepcamedmiinaaGreatDoor
