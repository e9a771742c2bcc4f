/- AlarmPlays' walk, over all that is handed in. -/
import Derived.Test.YtmdendffbjhdbaaAPlW
namespace Go.Proofs.Ytmdendffbjhdbaa.Con
open Go.RowKit Go.Proofs.Ytmdendffbjhdbaa.Hq
set_option linter.unusedVariables false
set_option maxRecDepth 100000 in
set_option maxHeartbeats 1600000 in
theorem plays_of (cpus : Int) (p : Option Addr) (c N : Nat) (Z : Nat → Nat → Int) (W : World) (hl : N ≤ 9223372036854775807) (hwf : ∀ j i, j < N → i < 5 → in64 (Z j i))
    (hp : 0 < N → ∃ b o, p = some ⟨b, o, none⟩ ∧ b < W.heap.size ∧ ∀ j i, j < N → i < 5 → W.cell? ⟨b, o + (j * 5 + i), none⟩ = some (.int .i64 (Z j i))) :
    Calls Try.prog 4 #[.int .i64 cpus, .slice p N c] W fun e w' => e = .returned (.bool true) ∧ Below W.heap.size W w' := by
  have hA := hide (awake_any W)
  by_cases k1 : cpus < 1
  · have NB := hide (fun w => new_bad (n := cpus) (by omega) w)
    clear hwf hp
    go_enter Try.func4, Try.ntmps4
    go_wp2_with (first
      | (go_at_call 7; refine hA.out.mono ?_; rintro e w0 ⟨rfl, hB0⟩; have HB0 := hide hB0; clear hB0)
      | (go_at_call 8; refine (NB.out _).mono ?_; rintro e w1 ⟨rfl, hw⟩; have hw2 := hw.symm; clear hw; subst hw2))
    go_ret
    exact ⟨rfl, HB0.out⟩
  · by_cases k2 : cpus > 64
    · have NB := hide (fun w => new_bad (n := cpus) (by omega) w)
      clear hwf hp
      go_enter Try.func4, Try.ntmps4
      go_wp2_with (first
        | (go_at_call 7; refine hA.out.mono ?_; rintro e w0 ⟨rfl, hB0⟩; have HB0 := hide hB0; clear hB0)
        | (go_at_call 8; refine (NB.out _).mono ?_; rintro e w1 ⟨rfl, hw⟩; have hw2 := hw.symm; clear hw; subst hw2))
      go_ret
      exact ⟨rfl, HB0.out⟩
    · obtain ⟨n, rfl⟩ := Int.eq_ofNat_of_zero_le (show 0 ≤ cpus by omega)
      by_cases k3 : (N : Int) > 80
      · have NW := hide (fun wr hB => newL_ok (n := n) (W := W) (wr := wr) (by omega) (by omega) hB)
        clear hwf hp
        go_enter Try.func4, Try.ntmps4
        go_wp2_with (first
          | (go_at_call 7; refine hA.out.mono ?_; rintro e w0 ⟨rfl, hB0⟩; have HB0 := hide hB0; clear hB0)
          | (go_at_call 8; refine (NW.out _ HB0.out).mono ?_; rintro e w1 ⟨ab, rfl, S0, B0⟩))
        go_ret
        exact ⟨rfl, S0.out.bel⟩
      · exact plays_main (by omega) (by omega) (by omega) p c Z W hwf hp
end Go.Proofs.Ytmdendffbjhdbaa.Con
