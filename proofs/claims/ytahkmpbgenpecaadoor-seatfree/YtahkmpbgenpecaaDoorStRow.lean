/- What the listed table gives a walk, and a world that holds them. -/
import Derived.Test.YtahkmpbgenpecaaDoorCards
import Derived.Test.YtahkmpbgenpecaaDoorTie
import Derived.Test.YtahkmpbgenpecaaDoorStMk
import Derived.ProofKit
import Derived.OpenShut
import Derived.LaidLaws
import Derived.LaidHandle
import Derived.Deep.DeepHandedRow
import Derived.Lib.LaidTab
import Derived.Stop.LaidErr
namespace Go.Proofs.YtahkmpbgenpecaaDoor.Con
open Go.ChangeShapes Go.WideShapes Go.ChangeAt Go.RowKit
set_option linter.unusedVariables false
theorem own : ownKnob Tryd.prog.godebug = none := by kernel_rfl
theorem laidOut : laidOutB Tryd.prog = true := by kernel_rfl
def z64 : List Int := [0, 1, 56, 2, 57, 49, 28, 3, 61, 58, 42, 50, 38, 29, 17, 4, 62, 47, 59, 36, 45, 43, 51, 22, 53, 39, 33, 30, 24, 18, 12, 5, 63, 55, 48, 27, 60, 41, 37, 16, 46, 35, 44, 21, 52, 32, 23, 11, 54, 26, 40, 15, 34, 20, 31, 10, 25, 14, 19, 9, 13, 8, 7, 6]
abbrev theLaid : List (String × DataW Unit) := [("math/bits.deBruijn64tab", Rows.laid_math_bits_deBruijn64tab)]
theorem datum : (Rows.laid_math_bits_deBruijn64tab : DataW Unit) = Lib.tabData .u8 z64 := by rfl
theorem g64 : Tryd.prog.globalNamed "math/bits.deBruijn64tab" = some 0 := by kernel_rfl
theorem z64_eq : z64 = Lib.deBruijn64tab.map (fun n : Nat => (n : Int)) := by decide +kernel
theorem z64_at (j : Nat) (hj : j < Lib.deBruijn64tab.length) : ((z64.map fun z => Value.int .u8 z).toArray)[j]? = some (.int .u8 ((Lib.deBruijn64tab.getD j 0 : Nat) : Int)) := by
  rw [z64_eq, List.getElem?_toArray, List.getElem?_map, List.getElem?_map, List.getD_eq_getElem?_getD, List.getElem?_eq_getElem hj]; rfl
theorem tab_of {W : World} (h : laidMetH Tryd.prog theLaid W) : Tab W := by
  have h' : laidMet Tryd.prog theLaid W := h
  have h2 : laidMet Tryd.prog [("math/bits.deBruijn64tab", Rows.laid_math_bits_deBruijn64tab)] W := h'
  rw [datum] at h2
  have h3 : Lib.TabIs Tryd.prog W "math/bits.deBruijn64tab" .u8 z64 := Lib.tabIs_of_head (n := 64) g64 (show _ = some 44 by kernel_rfl) (show Tryd.prog.underlying 44 = some (.array 64 5) by kernel_rfl) (by kernel_rfl) (by kernel_rfl) (by kernel_rfl) h2
  intro j hj
  have := World.var?_cell g64 h3 j
  rw [this]
  exact z64_at j hj

/-- The settled world, the table laid. -/
def put (h : Array Obj) (g : Nat) (cs : Array Value) : Array Obj := h.modify g fun
  | .cells _ t frozen => .cells cs t frozen
  | o => o
def laidW (P : Program) (os : Os) : World :=
  { World.holding P os ⟨#[], #[], []⟩ with heap := (put (World.holding P os ⟨#[], #[], []⟩).heap
      0 (z64.map (Value.int .u8)).toArray) }
set_option maxRecDepth 1000000 in
theorem laidW_met (os : Os) (args : Array Value) : laidMetH Tryd.prog theLaid ((laidW Tryd.prog os).forCall (fun _ _ => 0) ⟨#[], args, []⟩).memory :=
  show laidMet Tryd.prog theLaid _ from laidMet_of_run' 8 (by kernel_rfl) (by kernel_rfl)
theorem u64_wf {n : Int} (h : (Lit.int .u64 n).wf = true) : ∃ m : Nat, n = m ∧ m < 18446744073709551616 := by
  have h1 : IntKind.u64.min = 0 := by decide
  have h2 : IntKind.u64.max = 18446744073709551615 := by decide
  simp only [Lit.wf, h1, h2, Bool.and_eq_true, decide_eq_true_eq] at h
  exact ⟨n.toNat, by omega, by omega⟩
end Go.Proofs.YtahkmpbgenpecaaDoor.Con
