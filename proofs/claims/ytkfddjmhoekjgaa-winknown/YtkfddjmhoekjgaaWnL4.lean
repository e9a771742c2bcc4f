/- The landed code: Use. -/
import Derived.Test.YtkfddjmhoekjgaaWnL3
import Derived.Test.YtkfddjmhoekjgaaWdX
namespace Go.Proofs.Ytkfddjmhoekjgaa.Wn
open Go.RowKit Go.Proofs.Ytkfddjmhoekjgaa.Con
theorem useC : UseC := Wd.useC
end Go.Proofs.Ytkfddjmhoekjgaa.Wn
