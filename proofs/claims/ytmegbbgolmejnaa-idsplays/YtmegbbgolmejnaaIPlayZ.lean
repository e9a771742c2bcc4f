/- IdsPlays' walk, over the slice as it is handed in. -/
import Derived.Test.YtmegbbgolmejnaaIPlayW
import Derived.Test.YtmegbbgolmejnaaArgS
namespace Go.Proofs.Ytmegbbgolmejnaa.Con
open Go.RowKit
set_option linter.unusedVariables false
def numOf (v : Value) : Int := match v with
  | .int _ z => z
  | _ => 0
def flagOf (v : Value) : Bool := match v with
  | .bool b => b
  | _ => false
def acs (N : Nat) (Z : Nat → Nat → Value) : List Ac := (List.range N).map fun j => ⟨numOf (Z j 0), numOf (Z j 1), (numOf (Z j 2)).toNat, flagOf (Z j 3)⟩
theorem acs_len (N : Nat) (Z : Nat → Nat → Value) : (acs N Z).length = N := by simp [acs]
theorem acs_at (N : Nat) (Z : Nat → Nat → Value) (j : Nat) (h : j < N) : ac' (acs N Z) j = ⟨numOf (Z j 0), numOf (Z j 1), (numOf (Z j 2)).toNat, flagOf (Z j 3)⟩ := by
  unfold ac' acs
  rw [List.getD_eq_getElem?_getD, List.getElem?_map, List.getElem?_range h]; rfl
theorem plays_of (most : Int) (p : Option Addr) (c N : Nat) (Z : Nat → Nat → Value) (W : World) (hl : N ≤ 9223372036854775807) (hwf : ∀ j i, j < N → i < 4 → Arg.Fld (if i = 0 then some .i64 else if i = 1 then some .i64 else if i = 2 then some .u32 else none) (Z j i))
    (h1 : 0 < N → ∃ b o, p = some ⟨b, o, none⟩ ∧ b < W.heap.size ∧ ∀ j i, j < N → i < 4 → W.cell? ⟨b, o + (j * 4 + i), none⟩ = some (Z j i)) :
    Calls Try.prog 4 #[.int .i64 most, .slice p N c] W fun e w' => e = .returned (.bool true) ∧ Below W.heap.size W w' := by
  have f0 : ∀ j, j < N → Z j 0 = .int .i64 (numOf (Z j 0)) := fun j hj => by obtain ⟨z, h, _⟩ := hwf j 0 hj (by omega); rw [h]; rfl
  have f1 : ∀ j, j < N → Z j 1 = .int .i64 (numOf (Z j 1)) := fun j hj => by obtain ⟨z, h, _⟩ := hwf j 1 hj (by omega); rw [h]; rfl
  have f2 : ∀ j, j < N → Z j 2 = .int .u32 ((numOf (Z j 2)).toNat : Nat) ∧ (numOf (Z j 2)).toNat < 4294967296 := fun j hj => by
    obtain ⟨z, h, hz⟩ := hwf j 2 hj (by omega)
    obtain ⟨m, rfl, hm⟩ := u32_wf hz
    rw [h]
    exact ⟨rfl, by show (m : Int).toNat < _; omega⟩
  have f3 : ∀ j, j < N → Z j 3 = .bool (flagOf (Z j 3)) := fun j hj => by obtain ⟨z, h⟩ := hwf j 3 hj (by omega); rw [h]; rfl
  have := plays_walk most p c (acs N Z) W (by rw [acs_len]; exact hl) (by
    intro z hz
    simp only [acs, List.mem_map, List.mem_range] at hz
    obtain ⟨j, hj, rfl⟩ := hz
    exact (f2 j hj).2) (by
    intro _ h0
    rw [acs_len] at h0
    obtain ⟨b, o, e, hb, hc⟩ := h1 h0
    refine ⟨b, o, e, hb, fun j hj => ?_⟩
    rw [acs_len] at hj
    rw [acs_at N Z j hj]
    refine ⟨?_, ?_, ?_, ?_⟩
    · have := hc j 0 hj (by omega)
      rw [f0 j hj] at this; exact this
    · have := hc j 1 hj (by omega)
      rw [f1 j hj] at this; exact this
    · have := hc j 2 hj (by omega)
      rw [(f2 j hj).1] at this; exact this
    · have := hc j 3 hj (by omega)
      rw [f3 j hj] at this; exact this)
  rwa [acs_len] at this
end Go.Proofs.Ytmegbbgolmejnaa.Con
