/- What the document's own answers for names are: Up, Norm. -/
import Derived.Test.YtklmbiekpilkhaaGreatDoorNamA
namespace Go.Proofs.YtklmbiekpilkhaaGreatDoor.nam
open Go.ChangeShapes Go.WideShapes Go.ChangeAt Go.RowKit
set_option linter.unusedVariables false
set_option linter.unusedSimpArgs false

theorem normS_bad (s : ByteArray) (h : normOk s = false) : normS s = ⟨#[]⟩ := by
  unfold normS
  rw [h]; rfl
theorem ok_bad (s : ByteArray) (h : goodL s.data.toList = false) : normOk s = false := by
  unfold normOk
  rw [h, Bool.and_false]

end Go.Proofs.YtklmbiekpilkhaaGreatDoor.nam
