/- What is asked of each call of edf. -/
import Derived.Test.YtacbiiiadalocaaEdPm
import Derived.Test.YtacbiiiadalocaaEdSl
namespace Go.Proofs.Ytacbiiiadalocaa.Ed
open Go.RowKit Go.Proofs.Ytacbiiiadalocaa.Con
set_option linter.unusedVariables false
def GoodC : Prop := ∀ (m : Int) (L : List Et) (v : Value) (W : World), Sl W v L → L.length ≤ 100 → Calls Try.prog 13 #[.int .i64 m, v] W fun e w' => e = .returned (.bool (goodE m L)) ∧ Nx W w'
def LessC : Prop := ∀ (a b : Et) (W : World), Calls Try.prog 21 #[ev a, ev b] W fun e w' => e = .returned (.bool (lessB a b)) ∧ Nx W w'
def PickC : Prop := ∀ (m : Int) (L : List Et) (v : Value) (W : World), Sl W v L → L.length ≤ 100 → Calls Try.prog 14 #[.int .i64 m, v] W fun e w' => ∃ v', e = .returned v' ∧ Hid (Is w' v' (pickL m L)) ∧ Nx W w'
def WorstC : Prop := ∀ (m : Int) (L : List Et) (v : Value) (W : World), Sl W v L → L.length ≤ 100 → Calls Try.prog 10 #[.int .i64 m, v] W fun e w' => e = .returned (.tuple #[ev (val (worstO m L)), .bool (worstO m L).isSome]) ∧ Nx W w'
def FirstC : Prop := ∀ (m : Int) (L : List Et) (v : Value) (W : World), Sl W v L → L.length ≤ 100 → Calls Try.prog 11 #[.int .i64 m, v] W fun e w' => e = .returned (.tuple #[ev (val (firstO m L)), .bool (firstO m L).isSome]) ∧ Nx W w'
def BeatsC : Prop := ∀ (m : Int) (L : List Et) (v : Value) (x : Et) (W : World), Sl W v L → L.length ≤ 90 → Calls Try.prog 12 #[.int .i64 m, v, ev x] W fun e w' => e = .returned (.tuple #[.int .i64 (beatsN m L x), .bool (beatsB m L x)]) ∧ Nx W w'
def AwakeC : Prop := ∀ (W : World), Calls Try.prog 9 #[] W fun e w' => e = .returned (.bool true) ∧ Nx W w'
end Go.Proofs.Ytacbiiiadalocaa.Ed
