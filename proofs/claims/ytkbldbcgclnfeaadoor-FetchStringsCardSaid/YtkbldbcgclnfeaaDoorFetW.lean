/- What the listed tables hold when the call begins. -/
import Derived.Test.YtkbldbcgclnfeaaDoorCardPin
import Derived.Test.YtkbldbcgclnfeaaDoorFetD
import Derived.HandedShaped
import Derived.Shelf.RegionOpen
import Derived.Lib.LaidTab
import Derived.LaidSub
import Derived.MakeChecks
namespace Go.Proofs.YtkbldbcgclnfeaaDoor.fet
open Go.ChangeShapes hiding strOf
open Go.WideShapes Go.ChangeAt Go.RowKit Go.Proofs.YtkbldbcgclnfeaaDoor.cardPin
open Go.Proofs.YtkbldbcgclnfeaaDoor.lx
set_option linter.unusedVariables false
set_option linter.unusedSimpArgs false
set_option maxRecDepth 100000

theorem room_of {w : World} (h : w.ShapedOpen Tryd.prog) : Room w :=
  cell_of_shapedOpen_int (t := 3) (zero := #[.int .i64 0]) h (of_decide_eq_true (by kernel_rfl)) (by kernel_rfl) rfl (by kernel_rfl) (by kernel_rfl) Tryd.underlying3
theorem tens_head {w : World} (h : laidMet Tryd.prog [("internal/strconv.uint64pow10", Rows.laid_internal_strconv_uint64pow10)] w) : Tens w := by
  have e : (Rows.laid_internal_strconv_uint64pow10 : DataW Unit) = Lib.tabData .u64 Lib.pow10Tab := by kernel_rfl
  rw [e] at h
  exact Lib.tabBelow_of_tabIs (Lib.tabIs_of_head (g := 1) (t := 72) (e := 41) (n := 20) (by kernel_rfl) (by kernel_rfl) Tryd.underlying72 Tryd.underlying41 (by kernel_rfl) (by kernel_rfl) h)
theorem pick_one {W : World} (h : laidMetH Tryd.prog laidL W) (name : String) (d : DataW Unit) (e : laidL.filter (fun x => x.1 == name) = [(name, d)]) (hp : ([(name, d)].all fun x => x.2.handleName?.isNone) = true) : laidMet Tryd.prog [(name, d)] W := by
  have h1 := h.filter (fun x => x.1 == name)
  rw [e, MakeChecks.laidMetH_plain _ _ _ hp] at h1
  exact h1
theorem tens_of {W : World} (h : laidMetH Tryd.prog laidL W) : Tens W := tens_head (pick_one h _ _ (by kernel_rfl) (by kernel_rfl))
end Go.Proofs.YtkbldbcgclnfeaaDoor.fet
