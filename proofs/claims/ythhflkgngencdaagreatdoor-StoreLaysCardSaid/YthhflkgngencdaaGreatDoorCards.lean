/-
  DERIVED. GIVEN WITH THE SEED: THE CARDS: each row of YthhflkgngencdaaGreatDoorRows.lean that lists a variable, with what it lists TIED to the program's text (the seventh form; the later family's looks); each row that meets fmt, with fmt's text TOLD by the authors' own Lean function (tested against real Go, not proved from fmt's source: count such statements apart). THE CARD IS WHAT COUNTS. Prove the row's statement (the work); the ties are given (YthhflkgngencdaaGreatDoorTie.lean); close each card by the builder's one call (the guide's Derived/Test/ToyasCard.lean, 'card_holds'). Laid BY PROGRAM, IN A SANDBOX (cutbox-door.mjs). By AI agents, Wed Nov 11 2026. No macro, syntax, notation, axiom, sorry.
-/
import Derived.Test.YthhflkgngencdaaGreatDoorRows
import GoSem.ClaimSeven
namespace Go.Proofs.YthhflkgngencdaaGreatDoor
namespace Rows

/-- THE TIED CARD OF 'cubbylaw19.StoreFull'. -/
def storeFullCard : Claim7 := { stood := { row := storeFullRow, standIns := [], harness := (true, "9e4e227be4d5e942702f3d1cb9867ee4bef35b45238c771b6cdd3b49572d56f4"), looks := false }, kinds := [], alts := [], laidByText := true, laidKinds := [.data, .data, .data, .data, .data, .data, .data, .pinned, .pinned], laidTests := true, laidLooks := .later }
def StoreFullCardSaid : Prop := Claim7.holds Tryz.pinned (.plain (OpenSpec.ofChange storeFullSpec)) storeFullCard

/-- THE TIED CARD OF 'cubbylaw19.StoreLays'. -/
def storeLaysCard : Claim7 := { stood := { row := storeLaysRow, standIns := [], harness := (true, "9e4e227be4d5e942702f3d1cb9867ee4bef35b45238c771b6cdd3b49572d56f4"), looks := false }, kinds := [], alts := [], laidByText := true, laidKinds := [.data, .data, .data, .data, .data, .data, .data, .pinned, .pinned], laidTests := true, laidLooks := .later }
def StoreLaysCardSaid : Prop := Claim7.holds Tryz.pinned (.plain (OpenSpec.ofChange storeLaysSpec)) storeLaysCard

/-- THE SECOND FORM's CARD OF 'cubbylaw19.StoreFull'. -/
def storeFullUptoCard : Claim7 := { stood := { row := storeFullUptoRow, standIns := [], harness := (true, "9e4e227be4d5e942702f3d1cb9867ee4bef35b45238c771b6cdd3b49572d56f4"), looks := false }, kinds := [], alts := [], laidByText := true, laidKinds := [.data, .data, .data, .data, .data, .data, .data, .pinned, .pinned], laidTests := true, laidLooks := .later }
def StoreFullUptoCardSaid : Prop := Claim7.holds Tryz.pinned (.plain (OpenSpec.upto storeFullSpec)) storeFullUptoCard

/-- THE SECOND FORM's CARD OF 'cubbylaw19.StoreLays'. -/
def storeLaysUptoCard : Claim7 := { stood := { row := storeLaysUptoRow, standIns := [], harness := (true, "9e4e227be4d5e942702f3d1cb9867ee4bef35b45238c771b6cdd3b49572d56f4"), looks := false }, kinds := [], alts := [], laidByText := true, laidKinds := [.data, .data, .data, .data, .data, .data, .data, .pinned, .pinned], laidTests := true, laidLooks := .later }
def StoreLaysUptoCardSaid : Prop := Claim7.holds Tryz.pinned (.plain (OpenSpec.upto storeLaysSpec)) storeLaysUptoCard
end Rows
end Go.Proofs.YthhflkgngencdaaGreatDoor
