/- What is asked of each call of win. -/
import Derived.Test.YtldccbinndbcdaaWnSl
namespace Go.Proofs.Ytldccbinndbcdaa.Wn
open Go.RowKit Go.Proofs.Ytldccbinndbcdaa.Con
set_option linter.unusedVariables false
set_option linter.unusedSimpArgs false
def GoodC : Prop := ∀ (x : Pr) (W : World), Calls Try.prog 37 #[prv x] W fun e w' => e = .returned (.bool (gp x)) ∧ Nx W w'
def WorkC : Prop := ∀ (x : Pr) (n : Int) (W : World), Calls Try.prog 54 #[prv x, .int .i64 n] W fun e w' => e = .returned (.tuple #[.int .i64 (workV x n), .bool (workB x n)]) ∧ Nx W w'
def TakesC : Prop := ∀ (x o : Pr) (W : World), Calls Try.prog 46 #[prv x, prv o] W fun e w' => e = .returned (.tuple #[.int .i64 (takesV x o), .bool (takesB x o)]) ∧ Nx W w'
def AllC : Prop := ∀ (m : Int) (L : List Pr) (v : Value) (W : World), Sl W v L → Calls Try.prog 21 #[.int .i64 m, v] W fun e w' => e = .returned (.tuple #[.bool (allB m L), .int .i64 (allE m L)]) ∧ Nx W w'
end Go.Proofs.Ytldccbinndbcdaa.Wn
