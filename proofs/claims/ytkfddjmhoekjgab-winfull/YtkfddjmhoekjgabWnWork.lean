/- WinWork: in more ticks no less. -/
import Derived.Test.YtkfddjmhoekjgabWnCon
namespace Go.Proofs.Ytkfddjmhoekjgab.Wn
open Go.RowKit Go.Proofs.Ytkfddjmhoekjgab.Con
set_option linter.unusedVariables false
set_option linter.unusedSimpArgs false
/-- A pair in a box. -/
def Vp (w : World) (g : Nat) (x : Pr) : Prop := w.heap[g]? = some (.cells #[.int .i64 x.1, .int .i64 x.2] 23 (0, 0))
theorem Vp.below {w w' : World} {g : Nat} {x : Pr} (h : Vp w g x) (hB : Nx w w') : Vp w' g x := (hB.block g (Array.getElem?_eq_some_iff.1 h).1).trans h
theorem Vp.new (w : World) (x : Pr) : Vp (w.alloc (.cells #[.int .i64 x.1, .int .i64 x.2] 23)) w.heap.size x := heap_alloc_new w _
theorem Vp.cells {w : World} {g : Nat} {q p : Int} (h : Vp w g (q, p)) : w.cell? ⟨g, 0, none⟩ = some (.int .i64 q) ∧ w.cell? ⟨g, 1, none⟩ = some (.int .i64 p) :=
  ⟨(cell_of_row w g 0 _ _ _ h).trans rfl, (cell_of_row w g 1 _ _ _ h).trans rfl⟩
end Go.Proofs.Ytkfddjmhoekjgab.Wn
