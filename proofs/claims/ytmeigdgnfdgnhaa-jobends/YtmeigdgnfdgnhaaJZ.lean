/- A slice of steps that is handed in. -/
import Derived.Test.YtmeigdgnfdgnhaaArgR
import Derived.Test.YtmeigdgnfdgnhaaJBx
namespace Go.Proofs.Ytmeigdgnfdgnhaa.Con
open Go.RowKit Go.Proofs.Ytmeigdgnfdgnhaa.Pm
set_option linter.unusedVariables false
set_option linter.unusedSimpArgs false
def lof (N : Nat) (Z : Nat → Nat → Int) : List St := (List.range N).map fun j => (Z j 0, Z j 1)
theorem lof_len (N : Nat) (Z : Nat → Nat → Int) : (lof N Z).length = N := by simp [lof]
theorem flat_at : ∀ (L : List St) (j : Nat) (u : Value), (flat L)[j]? = some u → ∃ i s, L[i]? = some s ∧ ((j = i * 2 ∧ u = .int .i64 s.1) ∨ (j = i * 2 + 1 ∧ u = .int .i64 s.2)) := by
  intro L
  induction L with
  | nil => intro j u h; simp [flat] at h
  | cons x L ih =>
    intro j u h
    match j, h with
    | 0, h => exact ⟨0, x, rfl, .inl ⟨rfl, by simpa [flat] using h.symm⟩⟩
    | 1, h => exact ⟨0, x, rfl, .inr ⟨rfl, by simpa [flat] using h.symm⟩⟩
    | j + 2, h =>
      have h' : (flat L)[j]? = some u := by simpa [flat] using h
      obtain ⟨i, s, h1, h2⟩ := ih j u h'
      refine ⟨i + 1, s, by simpa using h1, ?_⟩
      rcases h2 with ⟨e1, e2⟩ | ⟨e1, e2⟩
      · exact .inl ⟨by omega, e2⟩
      · exact .inr ⟨by omega, e2⟩
theorem sl_of {W : World} {P : Option Addr} {N C : Nat} {Z : Nat → Nat → Int} (lc : N ≤ C) (mc : C ≤ maxLen)
    (cl : 0 < N → ∃ b o, P = some ⟨b, o, none⟩ ∧ b < W.heap.size ∧ ∀ j i, j < N → i < 2 → W.cell? ⟨b, o + (j * 2 + i), none⟩ = some (.int .i64 (Z j i))) : Sl W (.slice P N C) (lof N Z) := by
  refine ⟨flat_len _, P, C, by rw [lof_len], by rw [lof_len]; exact lc, mc, fun h0 => ?_⟩
  rw [lof_len] at h0
  obtain ⟨b, o, rfl, hb, hc⟩ := cl h0
  refine ⟨b, o, rfl, hb, fun j u hu => ?_⟩
  obtain ⟨i, s, h1, h2⟩ := flat_at _ j u hu
  have hi : i < N := by
    have := (List.getElem?_eq_some_iff.1 h1).1
    rwa [lof_len] at this
  have hs : s = (Z i 0, Z i 1) := by
    unfold lof at h1
    rw [List.getElem?_map, List.getElem?_range hi] at h1
    simpa using h1.symm
  subst hs
  rcases h2 with ⟨rfl, rfl⟩ | ⟨rfl, rfl⟩
  · exact hc i 0 hi (by omega)
  · exact hc i 1 hi (by omega)
theorem i64_wf {n : Int} (h : (Lit.int .i64 n).wf = true) : -9223372036854775808 ≤ n ∧ n ≤ 9223372036854775807 := by
  have h1 : IntKind.i64.min = -9223372036854775808 := by decide
  have h2 : IntKind.i64.max = 9223372036854775807 := by decide
  simp only [Lit.wf, h1, h2, Bool.and_eq_true, decide_eq_true_eq] at h
  exact h
end Go.Proofs.Ytmeigdgnfdgnhaa.Con
