/- What the listed tables hold when the call begins. -/
import Derived.Test.YtbhhcijfciapgaaDoorCardPin
import Derived.Test.YtbhhcijfciapgaaDoorCardOne
import Derived.Test.YtbhhcijfciapgaaDoorFlgL
namespace Go.Proofs.YtbhhcijfciapgaaDoor.flg
open Go.ChangeShapes Go.WideShapes Go.ChangeAt Go.RowKit Go.Proofs.YtbhhcijfciapgaaDoor.alk
set_option linter.unusedVariables false
set_option linter.unusedSimpArgs false
set_option maxRecDepth 100000

theorem pick_one {W : World} {L : List (String × DataW Unit)} (h : laidMetH Tryd.prog L W) (name : String) (d : DataW Unit) (e : L.filter (fun x => x.1 == name) = [(name, d)]) (hp : ([(name, d)].all fun x => x.2.handleName?.isNone) = true) : laidMet Tryd.prog [(name, d)] W := by
  have h1 := h.filter (fun x => x.1 == name)
  rw [e, MakeChecks.laidMetH_plain _ _ _ hp] at h1
  exact h1
theorem Tab.of {W : World} (h : laidMetH Tryd.prog cardPin.laidL W) : Tab W :=
  ⟨⟨asc_of (pick_one h _ _ (by kernel_rfl) (by kernel_rfl)), orb_of (pick_one h _ _ (by kernel_rfl) (by kernel_rfl))⟩, names_of (pick_one h _ _ (by kernel_rfl) (by kernel_rfl))⟩
theorem Names.of {W : World} (h : laidMetH Tryd.prog cardOne.laidL W) : Names W := names_of (pick_one h _ _ (by kernel_rfl) (by kernel_rfl))
end Go.Proofs.YtbhhcijfciapgaaDoor.flg
