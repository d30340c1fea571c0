/- Texts as bytes of their own. -/
import Derived.Test.YtkbldbcgclnfeaaDoorLexC
import Derived.Lib.SmallJoins
import Derived.Shelf.Vars
namespace Go.Proofs.YtkbldbcgclnfeaaDoor.lx
open Go.ChangeShapes Go.WideShapes Go.ChangeAt Go.RowKit
open Go.Proofs.YtkbldbcgclnfeaaDoor.codec (Bytes vals)
open Go.Proofs.YtkbldbcgclnfeaaDoor.row
set_option linter.unusedVariables false
set_option maxRecDepth 100000
set_option linter.unusedSimpArgs false

theorem str_lies (w : World) (l : List Nat) (hl : ∀ x ∈ l, x < 256) : Sl (Lib.bytesWorld w 5 (strOf l)) (some ⟨w.heap.size, 0, none⟩) (strOf l).size (grownCap w (strOf l).size 0 5) l ∧ Below w.heap.size w (Lib.bytesWorld w 5 (strOf l)) ∧ (Lib.bytesWorld w 5 (strOf l)).heap.size = w.heap.size + 1 := by
  refine ⟨⟨⟨(strOf_size l).symm, hl, fun _ => ⟨_, 0, rfl, fun i hi => ?_⟩⟩, ?_, trivial, fun e => by cases e⟩, ⟨rfl, rfl, rfl, by rw [Lib.bytesWorld_size]; omega, fun k hk => Lib.bytesWorld_at_old w 5 _ k hk⟩, Lib.bytesWorld_size _ _ _⟩
  · rw [Nat.zero_add, Lib.bytesWorld_cell w 5 _ i hi]
    rw [strOf_size] at hi
    have hx := hl (l.getD i 0) (by simp [List.getD, hi])
    simp [strOf, List.getD, hi] at hx ⊢
    omega
  · exact grownCap_ge w (strOf l).size 0 5
def sliceLen : Value → Nat
  | .slice _ n _ => n
  | _ => 0
end Go.Proofs.YtkbldbcgclnfeaaDoor.lx
