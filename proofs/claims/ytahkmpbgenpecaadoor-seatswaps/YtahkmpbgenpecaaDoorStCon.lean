/- What is asked of each call of seat. -/
import Derived.Test.YtahkmpbgenpecaaDoorStSl
import Derived.Test.YtahkmpbgenpecaaDoorStMk
namespace Go.Proofs.YtahkmpbgenpecaaDoor.St
open Go.RowKit Go.Proofs.YtahkmpbgenpecaaDoor.Con
set_option linter.unusedVariables false
def GoodC : Prop := ∀ (was run : List Int) (v u : Value) (W : World), Is W v was → Is W u run → was.length ≤ 100 → Calls Tryd.prog 14 #[v, u] W fun e w' => e = .returned (.bool (goodS was run)) ∧ Nx W w'
def GiveC : Prop := ∀ (was run : List Int) (v u : Value) (W : World), Is W v was → Is W u run → was.length ≤ 100 → run.length ≤ 100 → Tab W → Calls Tryd.prog 8 #[v, u] W fun e w' => ∃ v', e = .returned (.tuple #[v', .int .i64 (giveN was run)]) ∧ Hid (Is w' v' (giveL was run)) ∧ Nx W w'
def FreeC : Prop := ∀ (was : List Int) (v : Value) (W : World), Is W v was → was.length ≤ 100 → Calls Tryd.prog 11 #[v] W fun e w' => e = .returned (.int .u64 (freeN was)) ∧ Nx W w'
def AtC : Prop := ∀ (was : List Int) (id : Int) (v : Value) (W : World), Is W v was → was.length ≤ 100 → 0 ≤ id → Calls Tryd.prog 13 #[v, .int .i64 id] W fun e w' => e = .returned (.int .i64 (atI was id)) ∧ Nx W w'
def SwapC : Prop := ∀ (was : List Int) (cpu id : Int) (v : Value) (W : World), Is W v was → was.length ≤ 100 → Calls Tryd.prog 9 #[v, .int .i64 cpu, .int .i64 id] W fun e w' => ∃ v', e = .returned (.tuple #[v', .int .i64 (swapI was cpu id)]) ∧ Hid (Is w' v' (swapL was cpu id)) ∧ Nx W w'
def AwakeC : Prop := ∀ (W : World), Tab W → Calls Tryd.prog 7 #[] W fun e w' => e = .returned (.bool true) ∧ Nx W w'
end Go.Proofs.YtahkmpbgenpecaaDoor.St
