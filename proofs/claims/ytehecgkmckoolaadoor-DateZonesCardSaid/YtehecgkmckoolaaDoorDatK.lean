/- A text's time, as the document reads it: in all ways. -/
import Derived.Test.YtehecgkmckoolaaDoorDatJa
import Derived.Test.YtehecgkmckoolaaDoorDatJb
import Derived.Test.YtehecgkmckoolaaDoorDatJc
import Derived.Test.YtehecgkmckoolaaDoorDatJd
namespace Go.Proofs.YtehecgkmckoolaaDoor.dat
open Go.ChangeShapes Go.WideShapes Go.ChangeAt Go.RowKit
open Go.Lib (dg itoa byteCells strCells)
set_option linter.unusedVariables false
set_option linter.unusedSimpArgs false

theorem rparse_any (w : World) (s : ByteArray) (hz : s.size ≤ 1000) : Calls Tryd.prog 11 #[.string s] w (Ans w s) := by
  by_cases hm : Marks s
  · by_cases hb : byt s 0 = 32
    · rcases hm.2.2.2.2.2.2.2 with h | h
      · exact rparse_Ja w s hz hm hb h
      · exact rparse_Jb w s hz hm hb h
    · rcases hm.2.2.2.2.2.2.2 with h | h
      · exact rparse_Jc w s hz hm hb h
      · exact rparse_Jd w s hz hm hb h
  · exact rparse_marks w s hz hm
end Go.Proofs.YtehecgkmckoolaaDoor.dat
