/- HeapPlays' walk, over the slice as it is handed in. -/
import Derived.Test.YtocgeplpehioeaaRfW
namespace Go.Proofs.Ytocgeplpehioeaa.Con
open Go.RowKit Go.Proofs.Ytocgeplpehioeaa.Hq
set_option linter.unusedVariables false
def acs (N : Nat) (Z : Nat → Nat → Int) : List Ac := (List.range N).map fun j => ⟨Z j 0, Z j 1, Z j 2⟩
theorem acs_len (N : Nat) (Z : Nat → Nat → Int) : (acs N Z).length = N := by simp [acs]
theorem acs_at (N : Nat) (Z : Nat → Nat → Int) (j : Nat) (h : j < N) : ac' (acs N Z) j = ⟨Z j 0, Z j 1, Z j 2⟩ := by
  unfold ac' acs
  rw [List.getD_eq_getElem?_getD, List.getElem?_map, List.getElem?_range h]; rfl
theorem plays_of (most : Int) (g : Bool) (p : Option Addr) (c N : Nat) (Z : Nat → Nat → Int) (W : World) (hl : N ≤ 9223372036854775807) (hwf : ∀ j i, j < N → i < 3 → in64 (Z j i))
    (h1 : 0 < N → ∃ b o, p = some ⟨b, o, none⟩ ∧ b < W.heap.size ∧ ∀ j i, j < N → i < 3 → W.cell? ⟨b, o + (j * 3 + i), none⟩ = some (.int .i64 (Z j i))) :
    Calls Try.prog 4 #[.int .i64 most, .bool g, .slice p N c] W fun e w' => e = .returned (.bool true) ∧ Below W.heap.size W w' := by
  have := plays_walk most g p c (acs N Z) W (by rw [acs_len]; exact hl) (by
    intro z hz
    simp only [acs, List.mem_map, List.mem_range] at hz
    obtain ⟨j, hj, rfl⟩ := hz
    exact ⟨hwf j 0 hj (by omega), hwf j 1 hj (by omega), hwf j 2 hj (by omega)⟩) (by
    intro _ h0
    rw [acs_len] at h0
    obtain ⟨b, o, e, hb, hc⟩ := h1 h0
    refine ⟨b, o, e, hb, fun j hj => ?_⟩
    rw [acs_len] at hj
    rw [acs_at N Z j hj]
    exact ⟨hc j 0 hj (by omega), hc j 1 hj (by omega), hc j 2 hj (by omega)⟩)
  rwa [acs_len] at this
end Go.Proofs.Ytocgeplpehioeaa.Con
