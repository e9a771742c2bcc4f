/- TurnPlays' walk, over the slice as it is handed in. -/
import Derived.Test.YtplcpoajhkcjnaaTPlW
namespace Go.Proofs.Ytplcpoajhkcjnaa.Con
open Go.RowKit
set_option linter.unusedVariables false
def acs (N : Nat) (Z : Nat → Nat → Int) : List Ac := (List.range N).map fun j => ⟨Z j 0, Z j 1⟩
theorem acs_len (N : Nat) (Z : Nat → Nat → Int) : (acs N Z).length = N := by simp [acs]
theorem acs_at (N : Nat) (Z : Nat → Nat → Int) (j : Nat) (h : j < N) : ac' (acs N Z) j = ⟨Z j 0, Z j 1⟩ := by
  unfold ac' acs
  rw [List.getD_eq_getElem?_getD, List.getElem?_map, List.getElem?_range h]; rfl
theorem plays_of (p : Option Addr) (c N : Nat) (Z : Nat → Nat → Int) (W : World) (hl : N ≤ 9223372036854775807) (hz : ∀ j i, j < N → i < 2 → (Lit.int .i64 (Z j i)).wf = true)
    (h1 : 0 < N → ∃ b o, p = some ⟨b, o, none⟩ ∧ b < W.heap.size ∧ ∀ j i, j < N → i < 2 → W.cell? ⟨b, o + (j * 2 + i), none⟩ = some (.int .i64 (Z j i))) :
    Calls Try.prog 4 #[.slice p N c] W fun e w' => e = .returned (.bool true) ∧ Below W.heap.size W w' := by
  have := plays_walk p c (acs N Z) W (by rw [acs_len]; exact hl) (by
    intro j hj
    rw [acs_len] at hj
    rw [acs_at N Z j hj]
    exact hz j 1 hj (by omega)) (by
    intro h0
    rw [acs_len] at h0
    obtain ⟨b, o, e, hb, hc⟩ := h1 h0
    refine ⟨b, o, e, hb, fun j hj => ?_⟩
    rw [acs_len] at hj
    rw [acs_at N Z j hj]
    exact ⟨hc j 0 hj (by omega), hc j 1 hj (by omega)⟩)
  rwa [acs_len] at this
end Go.Proofs.Ytplcpoajhkcjnaa.Con
