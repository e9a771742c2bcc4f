/- The walks, told by what is handed in. -/
import Derived.Test.YtacbiiiadalocaaEdAx
namespace Go.Proofs.Ytacbiiiadalocaa.Ed
open Go.RowKit Go.Proofs.Ytacbiiiadalocaa.Con
set_option linter.unusedVariables false
section
variable {f : FuncId} {W : World} {P : Option Addr} {N C : Nat} {Z : Nat → Nat → Value} (lc : N ≤ C) (mc : C ≤ maxLen) (wf : ∀ j i, j < N → i < 3 → Arg.Fld (Kd i) (Z j i))
    (cl : 0 < N → ∃ b o, P = some ⟨b, o, none⟩ ∧ b < W.heap.size ∧ ∀ j i, j < N → i < 3 → W.cell? ⟨b, o + (j * 3 + i), none⟩ = some (Z j i))
include lc mc wf cl
theorem wk_split (h : ∀ (m : Int) (L : List Et) (v : Value) (W : World), Sl W v L → Calls Try.prog f #[.int .i64 m, v] W fun e w' => e = .returned (.bool true) ∧ Nx W w') (m : Int) :
    Calls Try.prog f #[.int .i64 m, .slice P N C] W fun e w' => e = .returned (.bool true) ∧ Nx W w' := by
  obtain ⟨L, hL, hS⟩ := slX lc mc wf cl
  exact h m L _ W hS
theorem wk_order (h : ∀ (m : Int) (L : List Et) (t : Int) (v : Value) (W : World), Sl W v L → Calls Try.prog f #[.int .i64 m, v, .int .i64 t] W fun e w' => e = .returned (.bool true) ∧ Nx W w') (m t : Int) :
    Calls Try.prog f #[.int .i64 m, .slice P N C, .int .i64 t] W fun e w' => e = .returned (.bool true) ∧ Nx W w' := by
  obtain ⟨L, hL, hS⟩ := slX lc mc wf cl
  exact h m L t _ W hS
theorem wk_says {V : Nat → Value} (wv : ∀ i, i < 3 → Arg.Fld (Kd i) (V i)) (h : ∀ (m : Int) (L : List Et) (x : Et) (v : Value) (W : World), Sl W v L → Calls Try.prog f #[.int .i64 m, v, ev x] W fun e w' => e = .returned (.bool true) ∧ Nx W w') (m : Int) :
    Calls Try.prog f #[.int .i64 m, .slice P N C, .agg ((List.range 3).map V).toArray] W fun e w' => e = .returned (.bool true) ∧ Nx W w' := by
  obtain ⟨L, hL, hS⟩ := slX lc mc wf cl
  obtain ⟨x, hx⟩ := byV wv
  rw [hx]
  exact h m L x _ W hS
end
end Go.Proofs.Ytacbiiiadalocaa.Ed
