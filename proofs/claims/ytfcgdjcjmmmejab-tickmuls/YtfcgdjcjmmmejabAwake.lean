/- The statements' own check that the program is awake answers true. -/
import Derived.Test.YtfcgdjcjmmmejabCon
namespace Go.Proofs.Ytfcgdjcjmmmejab
open Go.ChangeShapes Go.WideShapes Go.ChangeAt Go.RowKit
set_option linter.unusedVariables false
namespace Con
set_option maxHeartbeats 400000 in
theorem awake_any (w : World) :
    Calls Try.prog 4 #[] w fun e w' => e = .returned (.bool true) ∧ w' = w := by
  have e1 : shareV 7 2 3 = 4 := by decide
  have e2 : shareB 7 2 3 = true := by decide
  have e3 : upV 10 3 4 = 11 := by decide
  have e4 : upB 10 3 4 = true := by decide
  have e5 : good 0 = true := by decide
  go_enter Try.func4, Try.ntmps4
  go_wp2_with (first | (go_at_call 7; refine (Con.add_any _ _ _).mono ?_; rintro e w' ⟨rfl, rfl⟩) | (go_at_call 5; refine (Con.mul_any _ _ _).mono ?_; rintro e w' ⟨rfl, rfl⟩) | (go_at_call 8; refine (Con.share_any _ _ _ _).mono ?_; rintro e w' ⟨rfl, rfl⟩) | (go_at_call 6; refine (Con.win_any _ _ _).mono ?_; rintro e w' ⟨rfl, rfl⟩) | (go_at_call 9; refine (Con.up_any _ _ _ _).mono ?_; rintro e w' ⟨rfl, rfl⟩) | (go_at_call 10; refine (Con.good_any _ _).mono ?_; rintro e w' ⟨rfl, rfl⟩))
  go_ret
  exact ⟨rfl, rfl⟩
end Con
end Go.Proofs.Ytfcgdjcjmmmejab
