/- The reference's pairs: what each call tells. -/
import Derived.Test.YtkfddjmhoekjgabWnSl
import Derived.Deep.RegionHeld3
import Derived.Deep.DrawnRows
namespace Go.Proofs.Ytkfddjmhoekjgab.Wn
open Go.RowKit Go.Proofs.Ytkfddjmhoekjgab.Con
set_option linter.unusedVariables false
set_option linter.unusedSimpArgs false
attribute [local go_sem ↓] Go.wp_at_zero Go.wp_at_succ
theorem ret2 {a b : Value} {c d : Value} (h : a = c) (h' : b = d) : Ending.returned (.tuple #[a, b]) = .returned (.tuple #[c, d]) := by rw [h, h']
theorem row2 {w : World} {g e : Nat} {x y : Value} {fr : Nat × Nat} (h : w.heap[g]? = some (.cells #[x, y] e fr)) : w.cell? ⟨g, 0, none⟩ = some x ∧ w.cell? ⟨g, 1, none⟩ = some y :=
  ⟨(cell_of_row w g 0 _ e _ h).trans rfl, (cell_of_row w g 1 _ e _ h).trans rfl⟩
theorem bel2 {W : World} (o p : Obj) : Below W.heap.size W ((W.alloc o).alloc p) := (bel1 o).alloc (by simp) p
theorem box1 {W w' : World} {o : Obj} (hb : Below (W.alloc o).heap.size (W.alloc o) w') : w'.heap[W.heap.size]? = some o := (hb.block W.heap.size (by simp)).trans (heap_alloc_new W o)
theorem box2 {W w' : World} {o p : Obj} (hb : Below ((W.alloc o).alloc p).heap.size ((W.alloc o).alloc p) w') : w'.heap[W.heap.size]? = some o ∧ w'.heap[W.heap.size + 1]? = some p :=
  ⟨(hb.block W.heap.size (by simp; omega)).trans ((heap_alloc_old _ _ (by simp)).trans (heap_alloc_new W _)), (hb.block (W.heap.size + 1) (by simp)).trans (heap_alloc_at _ _ _ (by simp))⟩
theorem bel_drewN {B : Nat} {a w : World} (h : Below B a w) (n : Nat) : Below B a (w.drewN n) := ⟨h.os, h.tape, h.output, h.size, h.block⟩
end Go.Proofs.Ytkfddjmhoekjgab.Wn
