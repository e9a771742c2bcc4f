/- RobinPlays' walk, over the slice as it is handed in. -/
import Derived.Test.YtndmmhikhfndaaaRbPlayW
namespace Go.Proofs.Ytndmmhikhfndaaa.Rb
open Go.RowKit Go.Proofs.Ytndmmhikhfndaaa.Con
set_option linter.unusedVariables false
def acs (N : Nat) (Z : Nat → Nat → Int) : List Ac := (List.range N).map fun j => ⟨Z j 0, Z j 1, Z j 2, Z j 3⟩
theorem acs_len (N : Nat) (Z : Nat → Nat → Int) : (acs N Z).length = N := by simp [acs]
theorem acs_at (N : Nat) (Z : Nat → Nat → Int) (j : Nat) (h : j < N) : ac' (acs N Z) j = ⟨Z j 0, Z j 1, Z j 2, Z j 3⟩ := by
  unfold ac' acs
  rw [List.getD_eq_getElem?_getD, List.getElem?_map, List.getElem?_range h]; rfl
theorem plays_of {I : RbI} (hA : Hid AwakeC) (KK : Rk I) (most : Int) {p : Option Addr} {N c : Nat} {Z : Nat → Nat → Int} {W : World} (lc : N ≤ c) (mc : c ≤ maxLen) (wf : ∀ j i, j < N → i < 4 → (Lit.int .i64 (Z j i)).wf = true)
    (cl : 0 < N → ∃ b o, p = some ⟨b, o, none⟩ ∧ b < W.heap.size ∧ ∀ j i, j < N → i < 4 → W.cell? ⟨b, o + (j * 4 + i), none⟩ = some (.int .i64 (Z j i))) :
    Calls Try.prog 4 #[.int .i64 most, .slice p N c] W fun e w' => e = .returned (.bool true) ∧ Nx W w' := by
  have := plays_walk hA KK most p c (acs N Z) W (by rw [acs_len]; unfold maxLen at mc; omega) (by
    intro j hj
    rw [acs_len] at hj
    rw [acs_at N Z j hj]
    exact wf j 1 hj (by omega)) (by
    intro h0
    rw [acs_len] at h0
    obtain ⟨b, o, e, hb, hc⟩ := cl h0
    refine ⟨b, o, e, hb, fun j hj => ?_⟩
    rw [acs_len] at hj
    rw [acs_at N Z j hj]
    exact ⟨hc j 0 hj (by omega), hc j 1 hj (by omega), hc j 2 hj (by omega), hc j 3 hj (by omega)⟩)
  rwa [acs_len] at this
end Go.Proofs.Ytndmmhikhfndaaa.Rb
