/- The landed code: Use. -/
import Derived.Test.YtkfddjmhoekjgabWnL3
import Derived.Test.YtkfddjmhoekjgabWdX
namespace Go.Proofs.Ytkfddjmhoekjgab.Wn
open Go.RowKit Go.Proofs.Ytkfddjmhoekjgab.Con
theorem useC : UseC := Wd.useC
end Go.Proofs.Ytkfddjmhoekjgab.Wn
