/-
  DERIVED. GIVEN WITH THE SEED: THE CARDS: each row of YtcdfaikbmidkeaaDoorRows.lean that lists a variable, with what it lists TIED to the program's text (the seventh form; the later family's looks); each row that meets fmt, with fmt's text TOLD by the authors' own Lean function (tested against real Go, not proved from fmt's source: count such statements apart). THE CARD IS WHAT COUNTS. Prove the row's statement (the work); the ties are given (YtcdfaikbmidkeaaDoorTie.lean); close each card by the builder's one call (the guide's Derived/Test/ToyasCard.lean, 'card_holds'). Laid BY PROGRAM, IN A SANDBOX (cutbox-door.mjs). By AI agents, Wed Nov 11 2026. No macro, syntax, notation, axiom, sorry.
-/
import Derived.Test.YtcdfaikbmidkeaaDoorRows
import GoSem.ClaimSeven
namespace Go.Proofs.YtcdfaikbmidkeaaDoor
namespace Rows

/-- THE TIED CARD OF 'cubbylaw06.NameNorms'. -/
def nameNormsCard : Claim7 := { stood := { row := nameNormsRow, standIns := [], harness := (true, "2fc33e182038897627ae4cc1cf2d31baea01a266ba56bf338552b4c90a359be5"), looks := false }, kinds := [], alts := [], laidByText := true, laidKinds := [.data, .data, .data, .pinned, .pinned], laidTests := true, laidLooks := .later }
def NameNormsCardSaid : Prop := Claim7.holds Tryd.pinned (.plain (OpenSpec.ofChange nameNormsSpec)) nameNormsCard

/-- THE TIED CARD OF 'cubbylaw06.NameLike'. -/
def nameLikeCard : Claim7 := { stood := { row := nameLikeRow, standIns := [], harness := (true, "2fc33e182038897627ae4cc1cf2d31baea01a266ba56bf338552b4c90a359be5"), looks := false }, kinds := [], alts := [], laidByText := true, laidKinds := [.data, .data, .data, .pinned, .pinned], laidTests := true, laidLooks := .later }
def NameLikeCardSaid : Prop := Claim7.holds Tryd.pinned (.plain (OpenSpec.ofChange nameLikeSpec)) nameLikeCard

/-- THE TIED CARD OF 'cubbylaw06.NameSelf'. -/
def nameSelfCard : Claim7 := { stood := { row := nameSelfRow, standIns := [], harness := (true, "2fc33e182038897627ae4cc1cf2d31baea01a266ba56bf338552b4c90a359be5"), looks := false }, kinds := [], alts := [], laidByText := true, laidKinds := [.data, .data, .data, .pinned, .pinned], laidTests := true, laidLooks := .later }
def NameSelfCardSaid : Prop := Claim7.holds Tryd.pinned (.plain (OpenSpec.ofChange nameSelfSpec)) nameSelfCard

/-- THE SECOND FORM's CARD OF 'cubbylaw06.NameNorms'. -/
def nameNormsUptoCard : Claim7 := { stood := { row := nameNormsUptoRow, standIns := [], harness := (true, "2fc33e182038897627ae4cc1cf2d31baea01a266ba56bf338552b4c90a359be5"), looks := false }, kinds := [], alts := [], laidByText := true, laidKinds := [.data, .data, .data, .pinned, .pinned], laidTests := true, laidLooks := .later }
def NameNormsUptoCardSaid : Prop := Claim7.holds Tryd.pinned (.plain (OpenSpec.upto nameNormsSpec)) nameNormsUptoCard

/-- THE SECOND FORM's CARD OF 'cubbylaw06.NameLike'. -/
def nameLikeUptoCard : Claim7 := { stood := { row := nameLikeUptoRow, standIns := [], harness := (true, "2fc33e182038897627ae4cc1cf2d31baea01a266ba56bf338552b4c90a359be5"), looks := false }, kinds := [], alts := [], laidByText := true, laidKinds := [.data, .data, .data, .pinned, .pinned], laidTests := true, laidLooks := .later }
def NameLikeUptoCardSaid : Prop := Claim7.holds Tryd.pinned (.plain (OpenSpec.upto nameLikeSpec)) nameLikeUptoCard

/-- THE SECOND FORM's CARD OF 'cubbylaw06.NameSelf'. -/
def nameSelfUptoCard : Claim7 := { stood := { row := nameSelfUptoRow, standIns := [], harness := (true, "2fc33e182038897627ae4cc1cf2d31baea01a266ba56bf338552b4c90a359be5"), looks := false }, kinds := [], alts := [], laidByText := true, laidKinds := [.data, .data, .data, .pinned, .pinned], laidTests := true, laidLooks := .later }
def NameSelfUptoCardSaid : Prop := Claim7.holds Tryd.pinned (.plain (OpenSpec.upto nameSelfSpec)) nameSelfUptoCard
end Rows
end Go.Proofs.YtcdfaikbmidkeaaDoor
