/- The last region of MaskSays: the order of the text serves for every order, behind the first four. -/
import Derived.Test.YtpibejjhldnplaaDoorMSaysB
namespace Go.Proofs.YtpibejjhldnplaaDoor.Con
open Go.RowKit
theorem lex33 : Region.lexFrom .any (opsOf ((Tryd.f4.body.bind (regionOf 33)).getD .skip)) 92 4 (((((Array.replicate (opsOf ((Tryd.f4.body.bind (regionOf 33)).getD .skip)).size false).setIfInBounds 0 true).setIfInBounds 2 true).setIfInBounds 1 true).setIfInBounds 3 true) = true := by kernel_rfl
end Go.Proofs.YtpibejjhldnplaaDoor.Con
