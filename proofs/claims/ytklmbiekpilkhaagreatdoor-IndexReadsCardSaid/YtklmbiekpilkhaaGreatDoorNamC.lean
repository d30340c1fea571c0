/- The law NameNorms, walked. -/
import Derived.Test.YtklmbiekpilkhaaGreatDoorNamB
import Derived.Shelf.Vars
namespace Go.Proofs.YtklmbiekpilkhaaGreatDoor.nam
open Go.ChangeShapes Go.WideShapes Go.ChangeAt Go.RowKit
set_option linter.unusedVariables false
set_option linter.unusedSimpArgs false

/-- What the library's search asks of its own variable. -/
def Room (w : World) : Prop := ∃ m, w.cell? ⟨6, 0, none⟩ = some (.int .i64 m)
theorem Room.below {w w' : World} (h : Room w) (hb : Below w.heap.size w w') : Room w' := by
  obtain ⟨m, hm⟩ := h
  exact ⟨m, (hb.cell (block_lt_of_cell hm)).trans hm⟩

theorem normR (w : World) (s : ByteArray) (hs : s.size ≤ 100000) (hr : Room w) :
    Calls Tryz.prog 68 #[.string s] w fun e w' => e = .returned (.tuple #[.string (normS s), .bool (normOk s)]) ∧ Below w.heap.size w w' := by
  obtain ⟨m, hm⟩ := hr
  exact norm_any w s m hs hm

theorem Room.of_shape {w : World} (h : w.ShapedOpen Tryz.prog) : Room w :=
  cell_of_shapedOpen_int (t := 3) (zero := #[.int .i64 0]) h (of_decide_eq_true (by kernel_rfl)) (by kernel_rfl) rfl (by kernel_rfl) (by kernel_rfl) Tryz.underlying3
end Go.Proofs.YtklmbiekpilkhaaGreatDoor.nam
