/- The contracts of package tick's calls. -/
import Derived.Test.YtldccbinndbcdaaTkDef
namespace Go.Proofs.Ytldccbinndbcdaa.Tk
open Go.RowKit
set_option linter.unusedVariables false
set_option maxHeartbeats 400000 in
theorem good_any (t : Int) (w : World) :
    Calls Try.prog 71 #[.int .i64 t] w fun e w' => e = .returned (.bool (good t)) ∧ w' = w := by
  by_cases h0 : 0 ≤ t
  · by_cases h1 : t ≤ 4611686018427387904
    · have hg := hide (show good t = true by simp [good, h0, h1])
      go_enter Try.func71, Try.ntmps71
      go_wp2
      go_ret
      exact ⟨by rw [unhide hg]; rfl, rfl⟩
    · have hg := hide (show good t = false by simp [good, h1])
      go_enter Try.func71, Try.ntmps71
      go_wp2
      go_ret
      exact ⟨by rw [unhide hg]; rfl, rfl⟩
  · have hg := hide (show good t = false by simp [good, h0])
    go_enter Try.func71, Try.ntmps71
    go_wp2
    go_ret
    exact ⟨by rw [unhide hg]; rfl, rfl⟩
set_option maxHeartbeats 400000 in
theorem period_any (t : Int) (w : World) :
    Calls Try.prog 72 #[.int .i64 t] w fun e w' => e = .returned (.bool (period t)) ∧ w' = w := by
  by_cases h0 : 1 ≤ t
  · by_cases h1 : t ≤ 2147483648
    · have hg := hide (show period t = true by simp [period, h0, h1])
      go_enter Try.func72, Try.ntmps72
      go_wp2
      go_ret
      exact ⟨by rw [unhide hg]; rfl, rfl⟩
    · have hg := hide (show period t = false by simp [period, h1])
      go_enter Try.func72, Try.ntmps72
      go_wp2
      go_ret
      exact ⟨by rw [unhide hg]; rfl, rfl⟩
  · have hg := hide (show period t = false by simp [period, h0])
    go_enter Try.func72, Try.ntmps72
    go_wp2
    go_ret
    exact ⟨by rw [unhide hg]; rfl, rfl⟩
set_option maxHeartbeats 800000 in
theorem win_any (x p : Int) (w : World) :
    Calls Try.prog 60 #[.int .i64 x, .int .i64 p] w fun e w' => e = .returned (.tuple #[.int .i64 (winV x p), .bool (winB x p)]) ∧ w' = w := by
  cases hx : good x
  · have HB := hide (show winB x p = false by simp [winB, hx])
    have HV := hide (show winV x p = 0 by simp [winV, winB, hx])
    go_enter Try.func60, Try.ntmps60
    go_wp2_with (first | (go_at_call 71; refine (good_any _ _).mono ?_; rintro e w' ⟨rfl, rfl⟩) | (go_at_call 72; refine (period_any _ _).mono ?_; rintro e w' ⟨rfl, rfl⟩))
    go_ret2
    exact ⟨ret2 (by rw [unhide HV]; rfl) (by rw [unhide HB]; rfl), rfl⟩
  · cases hp : period p
    · have HB := hide (show winB x p = false by simp [winB, hx, hp])
      have HV := hide (show winV x p = 0 by simp [winV, winB, hx, hp])
      go_enter Try.func60, Try.ntmps60
      go_wp2_with (first | (go_at_call 71; refine (good_any _ _).mono ?_; rintro e w' ⟨rfl, rfl⟩) | (go_at_call 72; refine (period_any _ _).mono ?_; rintro e w' ⟨rfl, rfl⟩))
      go_ret2
      exact ⟨ret2 (by rw [unhide HV]; rfl) (by rw [unhide HB]; rfl), rfl⟩
    · have gX := good_t hx
      have gP := period_t hp
      have gD := div_bd gX.1 gP.1
      have HB := hide (show winB x p = true by simp [winB, hx, hp])
      have HV := hide (show winV x p = x / p by simp [winV, winB, hx, hp])
      go_enter Try.func60, Try.ntmps60
      go_wp2_with (first | (go_at_call 71; refine (good_any _ _).mono ?_; rintro e w' ⟨rfl, rfl⟩) | (go_at_call 72; refine (period_any _ _).mono ?_; rintro e w' ⟨rfl, rfl⟩))
      go_ret2
      exact ⟨ret2 (by rw [unhide HV]; rfl) (by rw [unhide HB]; rfl), rfl⟩
end Go.Proofs.Ytldccbinndbcdaa.Tk
