/- The contracts of the reference's ticks. -/
import Derived.Test.YtegfhndcimkjoaaTkDef
namespace Go.Proofs.Ytegfhndcimkjoaa.Tk
open Go.RowKit
set_option linter.unusedVariables false
set_option maxHeartbeats 400000 in
theorem rgood_any (t : Int) (w : World) :
    Calls Try.prog 32 #[.int .i64 t] w fun e w' => e = .returned (.bool (good t)) ∧ w' = w := by
  by_cases h0 : 0 ≤ t
  · by_cases h1 : t ≤ 4611686018427387904
    · have hg := hide (show good t = true by simp [good, h0, h1])
      go_enter Try.func32, Try.ntmps32
      go_wp2
      go_ret
      exact ⟨by rw [unhide hg]; rfl, rfl⟩
    · have hg := hide (show good t = false by simp [good, h1])
      go_enter Try.func32, Try.ntmps32
      go_wp2
      go_ret
      exact ⟨by rw [unhide hg]; rfl, rfl⟩
  · have hg := hide (show good t = false by simp [good, h0])
    go_enter Try.func32, Try.ntmps32
    go_wp2
    go_ret
    exact ⟨by rw [unhide hg]; rfl, rfl⟩
set_option maxHeartbeats 400000 in
theorem rperiod_any (t : Int) (w : World) :
    Calls Try.prog 39 #[.int .i64 t] w fun e w' => e = .returned (.bool (period t)) ∧ w' = w := by
  by_cases h0 : 1 ≤ t
  · by_cases h1 : t ≤ 2147483648
    · have hg := hide (show period t = true by simp [period, h0, h1])
      go_enter Try.func39, Try.ntmps39
      go_wp2
      go_ret
      exact ⟨by rw [unhide hg]; rfl, rfl⟩
    · have hg := hide (show period t = false by simp [period, h1])
      go_enter Try.func39, Try.ntmps39
      go_wp2
      go_ret
      exact ⟨by rw [unhide hg]; rfl, rfl⟩
  · have hg := hide (show period t = false by simp [period, h0])
    go_enter Try.func39, Try.ntmps39
    go_wp2
    go_ret
    exact ⟨by rw [unhide hg]; rfl, rfl⟩
set_option maxHeartbeats 800000 in
theorem radd_any (a b : Int) (w : World) :
    Calls Try.prog 33 #[.int .i64 a, .int .i64 b] w fun e w' => e = .returned (.tuple #[.int .i64 (addV a b), .bool (addB a b)]) ∧ w' = w := by
  cases ha : good a
  · have HB := hide (show addB a b = false by simp [addB, ha])
    have HV := hide (show addV a b = 0 by simp [addV, addB, ha])
    go_enter Try.func33, Try.ntmps33
    go_wp2_with (first | (go_at_call 32; refine (rgood_any _ _).mono ?_; rintro e w' ⟨rfl, rfl⟩))
    go_ret2
    exact ⟨ret2 (by rw [unhide HV]; rfl) (by rw [unhide HB]; rfl), rfl⟩
  · cases hb : good b
    · have HB := hide (show addB a b = false by simp [addB, ha, hb])
      have HV := hide (show addV a b = 0 by simp [addV, addB, ha, hb])
      go_enter Try.func33, Try.ntmps33
      go_wp2_with (first | (go_at_call 32; refine (rgood_any _ _).mono ?_; rintro e w' ⟨rfl, rfl⟩))
      go_ret2
      exact ⟨ret2 (by rw [unhide HV]; rfl) (by rw [unhide HB]; rfl), rfl⟩
    · have gA := good_t ha
      have gB := good_t hb
      by_cases hs : b ≤ 4611686018427387904 - a
      · have HB := hide (show addB a b = true by simp [addB, ha, hb, hs])
        have HV := hide (show addV a b = a + b by simp [addV, addB, ha, hb, hs])
        have hs2 : a ≤ 4611686018427387904 - b := by omega
        go_enter Try.func33, Try.ntmps33
        go_wp2_with (first | (go_at_call 32; refine (rgood_any _ _).mono ?_; rintro e w' ⟨rfl, rfl⟩))
        go_ret2
        exact ⟨ret2 (by rw [unhide HV]; rfl) (by rw [unhide HB]; rfl), rfl⟩
      · have HB := hide (show addB a b = false by simp [addB, ha, hb, hs])
        have HV := hide (show addV a b = 0 by simp [addV, addB, ha, hb, hs])
        have hs2 : ¬ a ≤ 4611686018427387904 - b := by omega
        go_enter Try.func33, Try.ntmps33
        go_wp2_with (first | (go_at_call 32; refine (rgood_any _ _).mono ?_; rintro e w' ⟨rfl, rfl⟩))
        go_ret2
        exact ⟨ret2 (by rw [unhide HV]; rfl) (by rw [unhide HB]; rfl), rfl⟩
set_option maxHeartbeats 400000 in
theorem rgd_any (t : Int) (w : World) :
    Calls Try.prog 40 #[.int .i64 t] w fun e w' => e = .returned (.tuple #[.int .i64 (if good t then t else 0), .bool (good t)]) ∧ w' = w := by
  cases hg : good t
  · go_enter Try.func40, Try.ntmps40
    go_wp2_with (first | (go_at_call 32; refine (rgood_any _ _).mono ?_; rintro e w' ⟨rfl, rfl⟩))
    go_ret2
    exact ⟨ret2 rfl rfl, rfl⟩
  · go_enter Try.func40, Try.ntmps40
    go_wp2_with (first | (go_at_call 32; refine (rgood_any _ _).mono ?_; rintro e w' ⟨rfl, rfl⟩))
    go_ret2
    exact ⟨ret2 rfl rfl, rfl⟩
set_option maxHeartbeats 800000 in
theorem rup_any (t d p : Int) (w : World) :
    Calls Try.prog 34 #[.int .i64 t, .int .i64 d, .int .i64 p] w fun e w' => e = .returned (.tuple #[.int .i64 (upV t d p), .bool (upB t d p)]) ∧ w' = w := by
  cases ht : good t
  · have HB := hide (show upB t d p = false by simp [upB, ht])
    have HV := hide (show upV t d p = 0 by simp [upV, upB, ht])
    go_enter Try.func34, Try.ntmps34
    go_wp2_with (first | (go_at_call 32; refine (rgood_any _ _).mono ?_; rintro e w' ⟨rfl, rfl⟩) | (go_at_call 39; refine (rperiod_any _ _).mono ?_; rintro e w' ⟨rfl, rfl⟩) | (go_at_call 40; refine (rgd_any _ _).mono ?_; rintro e w' ⟨rfl, rfl⟩))
    go_ret2
    exact ⟨ret2 (by rw [unhide HV]; rfl) (by rw [unhide HB]; rfl), rfl⟩
  · cases hd : good d
    · have HB := hide (show upB t d p = false by simp [upB, ht, hd])
      have HV := hide (show upV t d p = 0 by simp [upV, upB, ht, hd])
      go_enter Try.func34, Try.ntmps34
      go_wp2_with (first | (go_at_call 32; refine (rgood_any _ _).mono ?_; rintro e w' ⟨rfl, rfl⟩) | (go_at_call 39; refine (rperiod_any _ _).mono ?_; rintro e w' ⟨rfl, rfl⟩) | (go_at_call 40; refine (rgd_any _ _).mono ?_; rintro e w' ⟨rfl, rfl⟩))
      go_ret2
      exact ⟨ret2 (by rw [unhide HV]; rfl) (by rw [unhide HB]; rfl), rfl⟩
    · cases hp : period p
      · have HB := hide (show upB t d p = false by simp [upB, ht, hd, hp])
        have HV := hide (show upV t d p = 0 by simp [upV, upB, ht, hd, hp])
        go_enter Try.func34, Try.ntmps34
        go_wp2_with (first | (go_at_call 32; refine (rgood_any _ _).mono ?_; rintro e w' ⟨rfl, rfl⟩) | (go_at_call 39; refine (rperiod_any _ _).mono ?_; rintro e w' ⟨rfl, rfl⟩) | (go_at_call 40; refine (rgd_any _ _).mono ?_; rintro e w' ⟨rfl, rfl⟩))
        go_ret2
        exact ⟨ret2 (by rw [unhide HV]; rfl) (by rw [unhide HB]; rfl), rfl⟩
      · have gT := good_t ht
        have gD := good_t hd
        have gP := period_t hp
        by_cases hlt : t < d
        · have HB := hide (show upB t d p = true by simp [upB, nextOf, ht, hd, hp, hlt])
          have HV := hide (show upV t d p = d by simp [upV, upB, nextOf, ht, hd, hp, hlt])
          go_enter Try.func34, Try.ntmps34
          go_wp2_with (first | (go_at_call 32; refine (rgood_any _ _).mono ?_; rintro e w' ⟨rfl, rfl⟩) | (go_at_call 39; refine (rperiod_any _ _).mono ?_; rintro e w' ⟨rfl, rfl⟩) | (go_at_call 40; refine (rgd_any _ _).mono ?_; rintro e w' ⟨rfl, rfl⟩))
          go_ret2
          exact ⟨ret2 (by rw [unhide HV]; rfl) (by rw [unhide HB]; rfl), rfl⟩
        · have gN := next_bd gD.1 (show d ≤ t by omega) gP.1
          cases hn : good (d + ((t - d) / p + 1) * p)
          · have HB := hide (show upB t d p = false by simp [upB, nextOf, ht, hd, hp, hlt, hn])
            have HV := hide (show upV t d p = 0 by simp [upV, upB, nextOf, ht, hd, hp, hlt, hn])
            go_enter Try.func34, Try.ntmps34
            go_wp2_with (first | (go_at_call 32; refine (rgood_any _ _).mono ?_; rintro e w' ⟨rfl, rfl⟩) | (go_at_call 39; refine (rperiod_any _ _).mono ?_; rintro e w' ⟨rfl, rfl⟩) | (go_at_call 40; refine (rgd_any _ _).mono ?_; rintro e w' ⟨rfl, rfl⟩))
            go_ret2
            exact ⟨ret2 (by rw [unhide HV]; rfl) (by rw [unhide HB]; rfl), rfl⟩
          · have HB := hide (show upB t d p = true by simp [upB, nextOf, ht, hd, hp, hlt, hn])
            have HV := hide (show upV t d p = d + ((t - d) / p + 1) * p by simp [upV, upB, nextOf, ht, hd, hp, hlt, hn])
            go_enter Try.func34, Try.ntmps34
            go_wp2_with (first | (go_at_call 32; refine (rgood_any _ _).mono ?_; rintro e w' ⟨rfl, rfl⟩) | (go_at_call 39; refine (rperiod_any _ _).mono ?_; rintro e w' ⟨rfl, rfl⟩) | (go_at_call 40; refine (rgd_any _ _).mono ?_; rintro e w' ⟨rfl, rfl⟩))
            go_ret2
            exact ⟨ret2 (by rw [unhide HV]; rfl) (by rw [unhide HB]; rfl), rfl⟩
end Go.Proofs.Ytegfhndcimkjoaa.Tk
