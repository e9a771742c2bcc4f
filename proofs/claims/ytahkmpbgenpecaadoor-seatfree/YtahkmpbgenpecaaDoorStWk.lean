/- The walks, told by what is handed in. -/
import Derived.Test.YtahkmpbgenpecaaDoorStCon
import Derived.Test.YtahkmpbgenpecaaDoorArgs
namespace Go.Proofs.YtahkmpbgenpecaaDoor.St
open Go.RowKit Go.Proofs.YtahkmpbgenpecaaDoor.Con
set_option linter.unusedVariables false
theorem is_of {W : World} {P : Option Addr} {Z : List Int} {C : Nat} (lc : Z.length ≤ C) (mc : C ≤ maxLen) (cl : 0 < Z.length → ∃ b o, P = some ⟨b, o, none⟩ ∧ b < W.heap.size ∧ ∀ j, j < Z.length → W.cell? ⟨b, o + j, none⟩ = some (.int .i64 (Z.getD j 0))) : Is W (.slice P Z.length C) Z := by
  refine ⟨by rw [ivs_len]; omega, P, C, rfl, lc, mc, fun h0 => ?_⟩
  obtain ⟨b, o, rfl, hb, hc⟩ := cl h0
  refine ⟨b, o, rfl, hb, fun j u hj => ?_⟩
  have hl : j < Z.length := by
    have := (List.getElem?_eq_some_iff.1 hj).1
    rwa [ivs_len] at this
  rw [hc j hl, ← hj]
  unfold ivs
  rw [List.getElem?_map, List.getElem?_eq_getElem hl, List.getD_eq_getElem?_getD, List.getElem?_eq_getElem hl]; rfl
end Go.Proofs.YtahkmpbgenpecaaDoor.St
