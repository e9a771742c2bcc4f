/- What the listed tables give a walk, and a world that holds them. -/
import Derived.Test.YtdbkdnjmiehlcaaDoorCards
import Derived.Test.YtdbkdnjmiehlcaaDoorTie
import Derived.Test.YtdbkdnjmiehlcaaDoorGAwake
import Derived.ProofKit
import Derived.OpenShut
import Derived.LaidLaws
import Derived.LaidHandle
import Derived.Deep.DeepHandedRow
import Derived.Lib.LaidTab
import Derived.Stop.LaidErr
namespace Go.Proofs.YtdbkdnjmiehlcaaDoor.Con
open Go.ChangeShapes Go.WideShapes Go.ChangeAt Go.RowKit
set_option linter.unusedVariables false
theorem own : ownKnob Tryd.prog.godebug = none := by kernel_rfl
theorem laidOut : laidOutB Tryd.prog = true := by kernel_rfl
def z32 : List Int := [0, 1, 28, 2, 29, 14, 24, 3, 30, 22, 20, 15, 25, 17, 4, 8, 31, 27, 13, 23, 21, 19, 16, 7, 26, 12, 18, 6, 11, 5, 10, 9]
def z64 : List Int := [0, 1, 56, 2, 57, 49, 28, 3, 61, 58, 42, 50, 38, 29, 17, 4, 62, 47, 59, 36, 45, 43, 51, 22, 53, 39, 33, 30, 24, 18, 12, 5, 63, 55, 48, 27, 60, 41, 37, 16, 46, 35, 44, 21, 52, 32, 23, 11, 54, 26, 40, 15, 34, 20, 31, 10, 25, 14, 19, 9, 13, 8, 7, 6]
def zpow : List Int := [1, 10, 100, 1000, 10000, 100000, 1000000, 10000000, 100000000, 1000000000, 10000000000, 100000000000, 1000000000000, 10000000000000, 100000000000000, 1000000000000000, 10000000000000000, 100000000000000000, 1000000000000000000, 10000000000000000000]
abbrev theLaid : List (String × DataW Unit) := [("math/bits.deBruijn32tab", Rows.laid_math_bits_deBruijn32tab), ("math/bits.deBruijn64tab", Rows.laid_math_bits_deBruijn64tab), ("internal/strconv.uint64pow10", Rows.laid_internal_strconv_uint64pow10)]
theorem datum : (Rows.laid_internal_strconv_uint64pow10 : DataW Unit) = Lib.tabData .u64 zpow := by rfl
theorem gpow : Tryd.prog.globalNamed "internal/strconv.uint64pow10" = some 1 := by kernel_rfl
theorem zpow_eq : zpow = Lib.pow10Tab := by decide +kernel
theorem tab_of {W : World} (h : laidMetH Tryd.prog theLaid W) : Tab W := by
  have h' : laidMet Tryd.prog theLaid W := h
  have h2 := h'.tail.tail
  rw [datum] at h2
  have h3 : Lib.TabIs Tryd.prog W "internal/strconv.uint64pow10" .u64 zpow := Lib.tabIs_of_head (n := 20) gpow (show _ = some 77 by kernel_rfl) (show Tryd.prog.underlying 77 = some (.array 20 62) by kernel_rfl) (by kernel_rfl) (by kernel_rfl) (by kernel_rfl) h2
  rw [zpow_eq] at h3
  exact h3

/-- The settled world, the three tables laid. -/
def put (h : Array Obj) (g : Nat) (cs : Array Value) : Array Obj := h.modify g fun
  | .cells _ t frozen => .cells cs t frozen
  | o => o
def laidW (P : Program) (os : Os) : World :=
  { World.holding P os ⟨#[], #[], []⟩ with heap := (put (put (put (World.holding P os ⟨#[], #[], []⟩).heap
      1 (zpow.map (Value.int .u64)).toArray)
      2 (z32.map (Value.int .u8)).toArray)
      3 (z64.map (Value.int .u8)).toArray) }
set_option maxRecDepth 1000000 in
theorem laidW_met (os : Os) (args : Array Value) : laidMetH Tryd.prog theLaid ((laidW Tryd.prog os).forCall (fun _ _ => 0) ⟨#[], args, []⟩).memory :=
  show laidMet Tryd.prog theLaid _ from laidMet_of_run' 8 (by kernel_rfl) (by kernel_rfl)
theorem u64_wf {n : Int} (h : (Lit.int .u64 n).wf = true) : ∃ m : Nat, n = m ∧ m < 18446744073709551616 := by
  have h1 : IntKind.u64.min = 0 := by decide
  have h2 : IntKind.u64.max = 18446744073709551615 := by decide
  simp only [Lit.wf, h1, h2, Bool.and_eq_true, decide_eq_true_eq] at h
  exact ⟨n.toNat, by omega, by omega⟩
end Go.Proofs.YtdbkdnjmiehlcaaDoor.Con
