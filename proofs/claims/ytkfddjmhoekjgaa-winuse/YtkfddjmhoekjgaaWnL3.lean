/- The landed code: awake. -/
import Derived.Test.YtkfddjmhoekjgaaWnL2
namespace Go.Proofs.Ytkfddjmhoekjgaa.Wn
open Go.RowKit Go.Proofs.Ytkfddjmhoekjgaa.Con
theorem awakeC : AwakeC := awake_of (hide workC) (hide allC) (hide goodC)
end Go.Proofs.Ytkfddjmhoekjgaa.Wn
