/- The contracts of package tick's calls. -/
import Derived.Test.YtegfhndcimkjoaaTkDef
namespace Go.Proofs.Ytegfhndcimkjoaa.Tk
open Go.RowKit
set_option linter.unusedVariables false
set_option maxHeartbeats 400000 in
theorem good_any (t : Int) (w : World) :
    Calls Try.prog 27 #[.int .i64 t] w fun e w' => e = .returned (.bool (good t)) ∧ w' = w := by
  by_cases h0 : 0 ≤ t
  · by_cases h1 : t ≤ 4611686018427387904
    · have hg := hide (show good t = true by simp [good, h0, h1])
      go_enter Try.func27, Try.ntmps27
      go_wp2
      go_ret
      exact ⟨by rw [unhide hg]; rfl, rfl⟩
    · have hg := hide (show good t = false by simp [good, h1])
      go_enter Try.func27, Try.ntmps27
      go_wp2
      go_ret
      exact ⟨by rw [unhide hg]; rfl, rfl⟩
  · have hg := hide (show good t = false by simp [good, h0])
    go_enter Try.func27, Try.ntmps27
    go_wp2
    go_ret
    exact ⟨by rw [unhide hg]; rfl, rfl⟩
set_option maxHeartbeats 400000 in
theorem amount_any (t : Int) (w : World) :
    Calls Try.prog 41 #[.int .i64 t] w fun e w' => e = .returned (.bool (amount t)) ∧ w' = w := by
  by_cases h0 : 0 ≤ t
  · by_cases h1 : t ≤ 2147483648
    · have hg := hide (show amount t = true by simp [amount, h0, h1])
      go_enter Try.func41, Try.ntmps41
      go_wp2
      go_ret
      exact ⟨by rw [unhide hg]; rfl, rfl⟩
    · have hg := hide (show amount t = false by simp [amount, h1])
      go_enter Try.func41, Try.ntmps41
      go_wp2
      go_ret
      exact ⟨by rw [unhide hg]; rfl, rfl⟩
  · have hg := hide (show amount t = false by simp [amount, h0])
    go_enter Try.func41, Try.ntmps41
    go_wp2
    go_ret
    exact ⟨by rw [unhide hg]; rfl, rfl⟩
set_option maxHeartbeats 400000 in
theorem period_any (t : Int) (w : World) :
    Calls Try.prog 38 #[.int .i64 t] w fun e w' => e = .returned (.bool (period t)) ∧ w' = w := by
  by_cases h0 : 1 ≤ t
  · by_cases h1 : t ≤ 2147483648
    · have hg := hide (show period t = true by simp [period, h0, h1])
      go_enter Try.func38, Try.ntmps38
      go_wp2
      go_ret
      exact ⟨by rw [unhide hg]; rfl, rfl⟩
    · have hg := hide (show period t = false by simp [period, h1])
      go_enter Try.func38, Try.ntmps38
      go_wp2
      go_ret
      exact ⟨by rw [unhide hg]; rfl, rfl⟩
  · have hg := hide (show period t = false by simp [period, h0])
    go_enter Try.func38, Try.ntmps38
    go_wp2
    go_ret
    exact ⟨by rw [unhide hg]; rfl, rfl⟩
set_option maxHeartbeats 800000 in
theorem add_any (a b : Int) (w : World) :
    Calls Try.prog 30 #[.int .i64 a, .int .i64 b] w fun e w' => e = .returned (.tuple #[.int .i64 (addV a b), .bool (addB a b)]) ∧ w' = w := by
  cases ha : good a
  · have HB := hide (show addB a b = false by simp [addB, ha])
    have HV := hide (show addV a b = 0 by simp [addV, addB, ha])
    go_enter Try.func30, Try.ntmps30
    go_wp2_with (first | (go_at_call 27; refine (good_any _ _).mono ?_; rintro e w' ⟨rfl, rfl⟩))
    go_ret2
    exact ⟨ret2 (by rw [unhide HV]; rfl) (by rw [unhide HB]; rfl), rfl⟩
  · cases hb : good b
    · have HB := hide (show addB a b = false by simp [addB, ha, hb])
      have HV := hide (show addV a b = 0 by simp [addV, addB, ha, hb])
      go_enter Try.func30, Try.ntmps30
      go_wp2_with (first | (go_at_call 27; refine (good_any _ _).mono ?_; rintro e w' ⟨rfl, rfl⟩))
      go_ret2
      exact ⟨ret2 (by rw [unhide HV]; rfl) (by rw [unhide HB]; rfl), rfl⟩
    · have gA := good_t ha
      have gB := good_t hb
      by_cases hs : b ≤ 4611686018427387904 - a
      · have HB := hide (show addB a b = true by simp [addB, ha, hb, hs])
        have HV := hide (show addV a b = a + b by simp [addV, addB, ha, hb, hs])
        go_enter Try.func30, Try.ntmps30
        go_wp2_with (first | (go_at_call 27; refine (good_any _ _).mono ?_; rintro e w' ⟨rfl, rfl⟩))
        go_ret2
        exact ⟨ret2 (by rw [unhide HV]; rfl) (by rw [unhide HB]; rfl), rfl⟩
      · have HB := hide (show addB a b = false by simp [addB, ha, hb, hs])
        have HV := hide (show addV a b = 0 by simp [addV, addB, ha, hb, hs])
        go_enter Try.func30, Try.ntmps30
        go_wp2_with (first | (go_at_call 27; refine (good_any _ _).mono ?_; rintro e w' ⟨rfl, rfl⟩))
        go_ret2
        exact ⟨ret2 (by rw [unhide HV]; rfl) (by rw [unhide HB]; rfl), rfl⟩
set_option maxHeartbeats 400000 in
theorem compare_any (x y : Int) (w : World) :
    Calls Try.prog 42 #[.int .i64 x, .int .i64 y] w fun e w' => e = .returned (.int .i64 (cmpOf x y)) ∧ w' = w := by
  have hx : (x != x) = false := by simp
  have hy : (y != y) = false := by simp
  by_cases h1 : x < y
  · have HV := hide (show cmpOf x y = -1 by simp [cmpOf, h1])
    go_enter Try.func42, Try.ntmps42
    go_wp2
    go_ret
    exact ⟨by rw [unhide HV]; rfl, rfl⟩
  · by_cases h2 : y < x
    · have HV := hide (show cmpOf x y = 1 by simp [cmpOf, h1, h2])
      go_enter Try.func42, Try.ntmps42
      go_wp2
      go_ret
      exact ⟨by rw [unhide HV]; rfl, rfl⟩
    · have HV := hide (show cmpOf x y = 0 by simp [cmpOf, h1, h2])
      go_enter Try.func42, Try.ntmps42
      go_wp2
      go_ret
      exact ⟨by rw [unhide HV]; rfl, rfl⟩
set_option maxHeartbeats 800000 in
theorem share_any (x q p : Int) (w : World) :
    Calls Try.prog 37 #[.int .i64 x, .int .i64 q, .int .i64 p] w fun e w' => e = .returned (.tuple #[.int .i64 (shareV x q p), .bool (shareB x q p)]) ∧ w' = w := by
  cases hx : amount x
  · have HB := hide (show shareB x q p = false by simp [shareB, hx])
    have HV := hide (show shareV x q p = 0 by simp [shareV, shareB, hx])
    go_enter Try.func37, Try.ntmps37
    go_wp2_with (first | (go_at_call 41; refine (amount_any _ _).mono ?_; rintro e w' ⟨rfl, rfl⟩) | (go_at_call 38; refine (period_any _ _).mono ?_; rintro e w' ⟨rfl, rfl⟩))
    go_ret2
    exact ⟨ret2 (by rw [unhide HV]; rfl) (by rw [unhide HB]; rfl), rfl⟩
  · cases hp : period p
    · have HB := hide (show shareB x q p = false by simp [shareB, hx, hp])
      have HV := hide (show shareV x q p = 0 by simp [shareV, shareB, hx, hp])
      go_enter Try.func37, Try.ntmps37
      go_wp2_with (first | (go_at_call 41; refine (amount_any _ _).mono ?_; rintro e w' ⟨rfl, rfl⟩) | (go_at_call 38; refine (period_any _ _).mono ?_; rintro e w' ⟨rfl, rfl⟩))
      go_ret2
      exact ⟨ret2 (by rw [unhide HV]; rfl) (by rw [unhide HB]; rfl), rfl⟩
    · have gX := amount_t hx
      have gP := period_t hp
      by_cases h0 : 0 ≤ q
      · by_cases h1 : q ≤ p
        · have gM := mul_bd31 gX.1 h0 gX.2 (by omega)
          have gD := div_bd gM.1 gP.1
          have HB := hide (show shareB x q p = true by simp [shareB, hx, hp, h0, h1])
          have HV := hide (show shareV x q p = x * q / p by simp [shareV, shareB, hx, hp, h0, h1])
          go_enter Try.func37, Try.ntmps37
          go_wp2_with (first | (go_at_call 41; refine (amount_any _ _).mono ?_; rintro e w' ⟨rfl, rfl⟩) | (go_at_call 38; refine (period_any _ _).mono ?_; rintro e w' ⟨rfl, rfl⟩))
          go_ret2
          exact ⟨ret2 (by rw [unhide HV]; rfl) (by rw [unhide HB]; rfl), rfl⟩
        · have HB := hide (show shareB x q p = false by simp [shareB, hx, hp, h0, h1])
          have HV := hide (show shareV x q p = 0 by simp [shareV, shareB, hx, hp, h0, h1])
          go_enter Try.func37, Try.ntmps37
          go_wp2_with (first | (go_at_call 41; refine (amount_any _ _).mono ?_; rintro e w' ⟨rfl, rfl⟩) | (go_at_call 38; refine (period_any _ _).mono ?_; rintro e w' ⟨rfl, rfl⟩))
          go_ret2
          exact ⟨ret2 (by rw [unhide HV]; rfl) (by rw [unhide HB]; rfl), rfl⟩
      · have HB := hide (show shareB x q p = false by simp [shareB, hx, hp, h0])
        have HV := hide (show shareV x q p = 0 by simp [shareV, shareB, hx, hp, h0])
        go_enter Try.func37, Try.ntmps37
        go_wp2_with (first | (go_at_call 41; refine (amount_any _ _).mono ?_; rintro e w' ⟨rfl, rfl⟩) | (go_at_call 38; refine (period_any _ _).mono ?_; rintro e w' ⟨rfl, rfl⟩))
        go_ret2
        exact ⟨ret2 (by rw [unhide HV]; rfl) (by rw [unhide HB]; rfl), rfl⟩
set_option maxHeartbeats 800000 in
theorem up_any (t d p : Int) (w : World) :
    Calls Try.prog 31 #[.int .i64 t, .int .i64 d, .int .i64 p] w fun e w' => e = .returned (.tuple #[.int .i64 (upV t d p), .bool (upB t d p)]) ∧ w' = w := by
  cases ht : good t
  · have HB := hide (show upB t d p = false by simp [upB, ht])
    have HV := hide (show upV t d p = 0 by simp [upV, upB, ht])
    go_enter Try.func31, Try.ntmps31
    go_wp2_with (first | (go_at_call 27; refine (good_any _ _).mono ?_; rintro e w' ⟨rfl, rfl⟩) | (go_at_call 38; refine (period_any _ _).mono ?_; rintro e w' ⟨rfl, rfl⟩))
    go_ret2
    exact ⟨ret2 (by rw [unhide HV]; rfl) (by rw [unhide HB]; rfl), rfl⟩
  · cases hd : good d
    · have HB := hide (show upB t d p = false by simp [upB, ht, hd])
      have HV := hide (show upV t d p = 0 by simp [upV, upB, ht, hd])
      go_enter Try.func31, Try.ntmps31
      go_wp2_with (first | (go_at_call 27; refine (good_any _ _).mono ?_; rintro e w' ⟨rfl, rfl⟩) | (go_at_call 38; refine (period_any _ _).mono ?_; rintro e w' ⟨rfl, rfl⟩))
      go_ret2
      exact ⟨ret2 (by rw [unhide HV]; rfl) (by rw [unhide HB]; rfl), rfl⟩
    · cases hp : period p
      · have HB := hide (show upB t d p = false by simp [upB, ht, hd, hp])
        have HV := hide (show upV t d p = 0 by simp [upV, upB, ht, hd, hp])
        go_enter Try.func31, Try.ntmps31
        go_wp2_with (first | (go_at_call 27; refine (good_any _ _).mono ?_; rintro e w' ⟨rfl, rfl⟩) | (go_at_call 38; refine (period_any _ _).mono ?_; rintro e w' ⟨rfl, rfl⟩))
        go_ret2
        exact ⟨ret2 (by rw [unhide HV]; rfl) (by rw [unhide HB]; rfl), rfl⟩
      · have gT := good_t ht
        have gD := good_t hd
        have gP := period_t hp
        by_cases hlt : t < d
        · have HB := hide (show upB t d p = true by simp [upB, nextOf, ht, hd, hp, hlt])
          have HV := hide (show upV t d p = d by simp [upV, upB, nextOf, ht, hd, hp, hlt])
          go_enter Try.func31, Try.ntmps31
          go_wp2_with (first | (go_at_call 27; refine (good_any _ _).mono ?_; rintro e w' ⟨rfl, rfl⟩) | (go_at_call 38; refine (period_any _ _).mono ?_; rintro e w' ⟨rfl, rfl⟩))
          go_ret2
          exact ⟨ret2 (by rw [unhide HV]; rfl) (by rw [unhide HB]; rfl), rfl⟩
        · have gN := next_bd gD.1 (show d ≤ t by omega) gP.1
          cases hn : good (d + ((t - d) / p + 1) * p)
          · have HB := hide (show upB t d p = false by simp [upB, nextOf, ht, hd, hp, hlt, hn])
            have HV := hide (show upV t d p = 0 by simp [upV, upB, nextOf, ht, hd, hp, hlt, hn])
            go_enter Try.func31, Try.ntmps31
            go_wp2_with (first | (go_at_call 27; refine (good_any _ _).mono ?_; rintro e w' ⟨rfl, rfl⟩) | (go_at_call 38; refine (period_any _ _).mono ?_; rintro e w' ⟨rfl, rfl⟩))
            go_ret2
            exact ⟨ret2 (by rw [unhide HV]; rfl) (by rw [unhide HB]; rfl), rfl⟩
          · have HB := hide (show upB t d p = true by simp [upB, nextOf, ht, hd, hp, hlt, hn])
            have HV := hide (show upV t d p = d + ((t - d) / p + 1) * p by simp [upV, upB, nextOf, ht, hd, hp, hlt, hn])
            go_enter Try.func31, Try.ntmps31
            go_wp2_with (first | (go_at_call 27; refine (good_any _ _).mono ?_; rintro e w' ⟨rfl, rfl⟩) | (go_at_call 38; refine (period_any _ _).mono ?_; rintro e w' ⟨rfl, rfl⟩))
            go_ret2
            exact ⟨ret2 (by rw [unhide HV]; rfl) (by rw [unhide HB]; rfl), rfl⟩
set_option maxHeartbeats 800000 in
theorem cmp_any (a b c d : Int) (w : World) :
    Calls Try.prog 36 #[.int .i64 a, .int .i64 b, .int .i64 c, .int .i64 d] w fun e w' => e = .returned (.tuple #[.int .i64 (cmpV a b c d), .bool (cmpB a b c d)]) ∧ w' = w := by
  cases ha : amount a
  · have HB := hide (show cmpB a b c d = false by simp [cmpB, ha])
    have HV := hide (show cmpV a b c d = 0 by simp [cmpV, cmpB, ha])
    go_enter Try.func36, Try.ntmps36
    go_wp2_with (first | (go_at_call 41; refine (amount_any _ _).mono ?_; rintro e w' ⟨rfl, rfl⟩) | (go_at_call 38; refine (period_any _ _).mono ?_; rintro e w' ⟨rfl, rfl⟩) | (go_at_call 42; refine (compare_any _ _ _).mono ?_; rintro e w' ⟨rfl, rfl⟩))
    go_ret2
    exact ⟨ret2 (by rw [unhide HV]; rfl) (by rw [unhide HB]; rfl), rfl⟩
  · cases hb : period b
    · have HB := hide (show cmpB a b c d = false by simp [cmpB, ha, hb])
      have HV := hide (show cmpV a b c d = 0 by simp [cmpV, cmpB, ha, hb])
      go_enter Try.func36, Try.ntmps36
      go_wp2_with (first | (go_at_call 41; refine (amount_any _ _).mono ?_; rintro e w' ⟨rfl, rfl⟩) | (go_at_call 38; refine (period_any _ _).mono ?_; rintro e w' ⟨rfl, rfl⟩) | (go_at_call 42; refine (compare_any _ _ _).mono ?_; rintro e w' ⟨rfl, rfl⟩))
      go_ret2
      exact ⟨ret2 (by rw [unhide HV]; rfl) (by rw [unhide HB]; rfl), rfl⟩
    · cases hc : amount c
      · have HB := hide (show cmpB a b c d = false by simp [cmpB, ha, hb, hc])
        have HV := hide (show cmpV a b c d = 0 by simp [cmpV, cmpB, ha, hb, hc])
        go_enter Try.func36, Try.ntmps36
        go_wp2_with (first | (go_at_call 41; refine (amount_any _ _).mono ?_; rintro e w' ⟨rfl, rfl⟩) | (go_at_call 38; refine (period_any _ _).mono ?_; rintro e w' ⟨rfl, rfl⟩) | (go_at_call 42; refine (compare_any _ _ _).mono ?_; rintro e w' ⟨rfl, rfl⟩))
        go_ret2
        exact ⟨ret2 (by rw [unhide HV]; rfl) (by rw [unhide HB]; rfl), rfl⟩
      · cases hd : period d
        · have HB := hide (show cmpB a b c d = false by simp [cmpB, ha, hb, hc, hd])
          have HV := hide (show cmpV a b c d = 0 by simp [cmpV, cmpB, ha, hb, hc, hd])
          go_enter Try.func36, Try.ntmps36
          go_wp2_with (first | (go_at_call 41; refine (amount_any _ _).mono ?_; rintro e w' ⟨rfl, rfl⟩) | (go_at_call 38; refine (period_any _ _).mono ?_; rintro e w' ⟨rfl, rfl⟩) | (go_at_call 42; refine (compare_any _ _ _).mono ?_; rintro e w' ⟨rfl, rfl⟩))
          go_ret2
          exact ⟨ret2 (by rw [unhide HV]; rfl) (by rw [unhide HB]; rfl), rfl⟩
        · have gA := amount_t ha
          have gB := period_t hb
          have gC := amount_t hc
          have gD := period_t hd
          have g1 := mul_bd31 gA.1 (show 0 ≤ d by omega) gA.2 gD.2
          have g2 := mul_bd31 gC.1 (show 0 ≤ b by omega) gC.2 gB.2
          have HB := hide (show cmpB a b c d = true by simp [cmpB, ha, hb, hc, hd])
          have HV := hide (show cmpV a b c d = cmpOf (a * d) (c * b) by simp [cmpV, cmpB, ha, hb, hc, hd])
          go_enter Try.func36, Try.ntmps36
          go_wp2_with (first | (go_at_call 41; refine (amount_any _ _).mono ?_; rintro e w' ⟨rfl, rfl⟩) | (go_at_call 38; refine (period_any _ _).mono ?_; rintro e w' ⟨rfl, rfl⟩) | (go_at_call 42; refine (compare_any _ _ _).mono ?_; rintro e w' ⟨rfl, rfl⟩))
          go_ret2
          exact ⟨ret2 (by rw [unhide HV]; rfl) (by rw [unhide HB]; rfl), rfl⟩
end Go.Proofs.Ytegfhndcimkjoaa.Tk
