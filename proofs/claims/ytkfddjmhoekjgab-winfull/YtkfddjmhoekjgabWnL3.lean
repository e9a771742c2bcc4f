/- The landed code: awake. -/
import Derived.Test.YtkfddjmhoekjgabWnL2
namespace Go.Proofs.Ytkfddjmhoekjgab.Wn
open Go.RowKit Go.Proofs.Ytkfddjmhoekjgab.Con
theorem awakeC : AwakeC := awake_of (hide workC) (hide allC) (hide goodC)
end Go.Proofs.Ytkfddjmhoekjgab.Wn
