/- WinUse: all together, rounded up. -/
import Derived.Test.YtkfddjmhoekjgabWnCon
import Derived.Deep.DrawnRows
namespace Go.Proofs.Ytkfddjmhoekjgab.Wn
open Go.RowKit Go.Proofs.Ytkfddjmhoekjgab.Con
set_option linter.unusedVariables false
set_option linter.unusedSimpArgs false
attribute [local go_sem ↓] Go.wp_at_zero Go.wp_at_succ
theorem drewN_nx {W w : World} (h : Below W.heap.size W w) (n : Nat) : Below W.heap.size W (w.drewN n) := ⟨h.os, h.tape, h.output, h.size, h.block⟩
theorem nx_of {W w w' : World} (h : Below W.heap.size W w) (k : Nx w w') : Below W.heap.size W w' := h.trans (Below.mono k h.size)
theorem fullN_snoc (L : List Pr) (k : Nat) (h : k < L.length) : fullN (L.take (k + 1)) = fullN (L.take k) + (if (at' L k).1 = (at' L k).2 then 1 else 0) := by
  rw [take_snoc L k h, fullN_app]; simp only [fullN]; omega
theorem gp_all {L : List Pr} (h : ∀ j, j < L.length → gp (at' L j) = true) : ∀ x ∈ L, gp x = true := fun x hx => by
  obtain ⟨j, hj, rfl⟩ := mem_at hx; exact h j hj
end Go.Proofs.Ytkfddjmhoekjgab.Wn
