/- PokePlays' walk, at every input. -/
import Derived.Test.YtigofonhibaojaaPPlW
namespace Go.Proofs.Ytigofonhibaojaa.Con
open Go.RowKit Go.Proofs.Ytigofonhibaojaa.Mk
set_option linter.unusedVariables false
set_option linter.unusedSimpArgs false
set_option maxRecDepth 100000 in
set_option maxHeartbeats 4000000 in
theorem plays_walk (cpus : Int) (p : Option Addr) (c N : Nat) (Z : Nat → Nat → Int) (W : World) (hl : N ≤ 9223372036854775807)
    (hp : 0 < N → ∃ b o, p = some ⟨b, o, none⟩ ∧ b < W.heap.size ∧ ∀ j i, j < N → i < 4 → W.cell? ⟨b, o + (j * 4 + i), none⟩ = some (.int .i64 (Z j i))) :
    Calls Try.prog 4 #[.int .i64 cpus, .slice p N c] W fun e w' => e = .returned (.bool true) ∧ Below W.heap.size W w' := by
  have A := hide (awake_any W)
  by_cases hb : cpus < 1 ∨ 64 < cpus
  · have NN := hide (fun W' => new_no W' cpus hb)
    clear hp
    rcases hb with h | h
    all_goals
      go_enter Try.func4, Try.ntmps4
      go_wp2_with (first
        | (go_at_call 6; refine A.out.mono ?_; rintro e w1 ⟨rfl, HB⟩)
        | (go_at_call 7; refine (NN.out _).mono ?_; rintro e w' ⟨rfl, hw⟩; have hw2 := hw.symm; clear hw; subst hw2))
      all_goals go_ret
      all_goals exact ⟨rfl, HB.out⟩
  · obtain ⟨n, rfl⟩ : ∃ n : Nat, cpus = n := ⟨cpus.toNat, by omega⟩
    have h1 : 1 ≤ n := by omega
    have h2 : n ≤ 64 := by omega
    by_cases hN : N ≤ 100
    · exact plays_main h1 h2 hN p c Z W hp
    · have NW := hide (fun W' => new_any W' n h1 h2)
      unfold NewPost at NW
      have q1 : ¬ (n : Int) < 1 := by omega
      have q2 : ¬ (64 : Int) < (n : Int) := by omega
      have q3 : (100 : Int) < (N : Int) := by omega
      clear hp hb
      go_enter Try.func4, Try.ntmps4
      go_wp2_with (first
        | (go_at_call 6; refine A.out.mono ?_; rintro e w1 ⟨rfl, HB⟩)
        | (go_at_call 7; refine (NW.out _).mono ?_; rintro e w2 ⟨b, g, rfl, P0⟩))
      go_ret
      exact ⟨rfl, (PL.trans HB.out P0.out).below⟩
end Go.Proofs.Ytigofonhibaojaa.Con
