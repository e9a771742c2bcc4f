/- AlarmOnce's walk, over all that is handed in. -/
import Derived.Test.YtmdendffbjhdbaaAOnce
namespace Go.Proofs.Ytmdendffbjhdbaa.Con
open Go.RowKit Go.Proofs.Ytmdendffbjhdbaa.Hq
set_option linter.unusedVariables false
set_option maxRecDepth 100000 in
set_option maxHeartbeats 1600000 in
theorem once_of (cpus : Int) (p p' : Option Addr) (c c' : Nat) (zs ys : List Int) (W : World) (hl : zs.length ≤ 9223372036854775807) (hl' : ys.length ≤ 9223372036854775807)
    (hp : 0 < zs.length → ∃ b o, p = some ⟨b, o, none⟩ ∧ b < W.heap.size ∧ ∀ j, j < zs.length → W.cell? ⟨b, o + j, none⟩ = some (.int .i64 (zs.getD j 0)))
    (hp' : 0 < ys.length → ∃ b o, p' = some ⟨b, o, none⟩ ∧ b < W.heap.size ∧ ∀ j, j < ys.length → W.cell? ⟨b, o + j, none⟩ = some (.int .i64 (ys.getD j 0))) :
    Calls Try.prog 5 #[.int .i64 cpus, .slice p zs.length c, .slice p' ys.length c'] W fun e w' => e = .returned (.bool true) ∧ Below W.heap.size W w' := by
  by_cases h : 1 ≤ cpus ∧ cpus ≤ 64 ∧ zs.length ≤ 60 ∧ ys.length ≤ 40
  · obtain ⟨n, rfl⟩ := Int.eq_ofNat_of_zero_le (show 0 ≤ cpus by omega)
    exact once_main (by omega) (by omega) h.2.2.1 h.2.2.2 p p' c c' zs ys W hp hp'
  · have hA := hide (awake_any W)
    clear hp hp'
    generalize zs.length = N at *
    generalize ys.length = M at *
    by_cases k1 : cpus < 1
    · clear h
      go_enter Try.func5, Try.ntmps5
      go_wp2_with (go_at_call 7; refine hA.out.mono ?_; rintro e w0 ⟨rfl, hB0⟩; have HB0 := hide hB0; clear hB0)
      go_ret
      exact ⟨rfl, HB0.out⟩
    · by_cases k2 : cpus > 64
      · clear h
        go_enter Try.func5, Try.ntmps5
        go_wp2_with (go_at_call 7; refine hA.out.mono ?_; rintro e w0 ⟨rfl, hB0⟩; have HB0 := hide hB0; clear hB0)
        go_ret
        exact ⟨rfl, HB0.out⟩
      · by_cases k3 : (N : Int) > 60
        · clear h
          go_enter Try.func5, Try.ntmps5
          go_wp2_with (go_at_call 7; refine hA.out.mono ?_; rintro e w0 ⟨rfl, hB0⟩; have HB0 := hide hB0; clear hB0)
          go_ret
          exact ⟨rfl, HB0.out⟩
        · have k4 : (M : Int) > 40 := by omega
          clear h
          go_enter Try.func5, Try.ntmps5
          go_wp2_with (go_at_call 7; refine hA.out.mono ?_; rintro e w0 ⟨rfl, hB0⟩; have HB0 := hide hB0; clear hB0)
          go_ret
          exact ⟨rfl, HB0.out⟩
end Go.Proofs.Ytmdendffbjhdbaa.Con
