/- ahead. -/
import Derived.Test.YtmdendffbjhdbaaHHp
namespace Go.Proofs.Ytmdendffbjhdbaa.Con
open Go.RowKit Go.Proofs.Ytmdendffbjhdbaa.Hq
set_option linter.unusedVariables false
attribute [local go_sem ↓] Go.wp_at_zero Go.wp_at_succ
theorem bcell {W w1 : World} (hb : Below W.heap.size W w1) : (∀ b o, b < W.heap.size → w1.cell? ⟨b, o, none⟩ = W.cell? ⟨b, o, none⟩) ∧ (∀ b o, b < W.heap.size → w1.frozen? ⟨b, o, none⟩ = W.frozen? ⟨b, o, none⟩) :=
  ⟨fun b o h => hb.cell (p := ⟨b, o, none⟩) h, fun b o h => hb.frozen (p := ⟨b, o, none⟩) h⟩
set_option maxHeartbeats 4000000 in
theorem ahead_any {W : World} {hb mb : Nat} {most : Int} {g : Bool} {v : Value} {l : List It} (h : Hp W hb mb most g v l) (i j : Nat) (hi : i < l.length) (hj : j < l.length) :
    Calls Try.prog 58 #[.pointer (some ⟨hb, 0, none⟩), .int .i64 i, .int .i64 j] W fun e w' => e = .returned (.bool (lt g (at' l i) (at' l j))) ∧ Below W.heap.size W w' := by
  obtain ⟨r, cap, rfl, hn, hm⟩ := h.form (by omega)
  obtain ⟨_, hg, c2, _⟩ := h.cells
  obtain ⟨a0, a1, _, _⟩ := h.item rfl i hi
  obtain ⟨b0, b1, _, _⟩ := h.item rfl j hj
  have hcmp := hide (fun w' hg' => compare_any hb g (at' l i).1 (at' l i).2 (at' l j).1 (at' l j).2 w' hg')
  have hlt := hide (show lt g (at' l i) (at' l j) = decide (cf g ((at' l i).1, (at' l i).2) ((at' l j).1, (at' l j).2) < 0) from rfl)
  have i1 : (i : Int) < (l.length : Int) := by omega
  have j1 : (j : Int) < (l.length : Int) := by omega
  have hbl := World.block_lt_of_cell? W _ hg
  have rl := World.block_lt_of_cell? W _ a0
  clear h
  generalize (at' l i).1 = x0 at *
  generalize (at' l i).2 = x1 at *
  generalize (at' l j).1 = y0 at *
  generalize (at' l j).2 = y1 at *
  generalize l.length = n at *
  go_enter Try.func58, Try.ntmps58
  go_wp2
  go_region_held3 (fun w' => w'.cell? ⟨hb, 1, none⟩ = some (.bool g) ∧ w'.cell? ⟨hb, 2, none⟩ = some (.slice (some ⟨r, 0, none⟩) n cap) ∧ w'.cell? ⟨r, i * 2, none⟩ = some (.int .i64 x0) ∧ w'.cell? ⟨r, i * 2 + 1, none⟩ = some (.int .i64 x1) ∧ w'.cell? ⟨r, j * 2, none⟩ = some (.int .i64 y0) ∧ w'.cell? ⟨r, j * 2 + 1, none⟩ = some (.int .i64 y1)) (first | go_keep | (go_split_ands; refine ⟨?_, ?_, ?_, ?_, ?_, ?_⟩ <;> (rw [hcl _ _ (by first | exact hbl | exact rl)]; assumption)))
    ((go_at_call 65; refine (hcmp.out _ ?_).mono ?_; (simp [*]); rintro e w' ⟨rfl, hB⟩; obtain ⟨hcl, hfr⟩ := bcell hB))
  go_wp2
  go_ret
  exact ⟨ret_bool hlt.out.symm, ⟨hB.os, hB.tape, hB.output, hB.size, hB.block⟩⟩
end Go.Proofs.Ytmdendffbjhdbaa.Con
