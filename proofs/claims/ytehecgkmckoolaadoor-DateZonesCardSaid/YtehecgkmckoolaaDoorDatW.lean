/- What the listed tables hold when the call begins. -/
import Derived.Test.YtehecgkmckoolaaDoorCardPin
import Derived.Test.YtehecgkmckoolaaDoorDatL
namespace Go.Proofs.YtehecgkmckoolaaDoor.dat
open Go.ChangeShapes Go.WideShapes Go.ChangeAt Go.RowKit Go.Proofs.YtehecgkmckoolaaDoor.cardPin
set_option linter.unusedVariables false
set_option linter.unusedSimpArgs false
set_option maxRecDepth 100000

theorem pick_one {W : World} (h : laidMetH Tryd.prog laidL W) (name : String) (d : DataW Unit) (e : laidL.filter (fun x => x.1 == name) = [(name, d)]) (hp : ([(name, d)].all fun x => x.2.handleName?.isNone) = true) : laidMet Tryd.prog [(name, d)] W := by
  have h1 := h.filter (fun x => x.1 == name)
  rw [e, MakeChecks.laidMetH_plain _ _ _ hp] at h1
  exact h1
theorem Tab.of {W : World} (h : laidMetH Tryd.prog laidL W) : Tab W :=
  ⟨⟨asc_of (pick_one h _ _ (by kernel_rfl) (by kernel_rfl)), orb_of (pick_one h _ _ (by kernel_rfl) (by kernel_rfl))⟩, tens_of (pick_one h _ _ (by kernel_rfl) (by kernel_rfl))⟩
end Go.Proofs.YtehecgkmckoolaaDoor.dat
