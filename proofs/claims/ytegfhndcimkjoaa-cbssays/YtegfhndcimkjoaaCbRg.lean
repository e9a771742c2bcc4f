/- The reference's servers: what each call tells. -/
import Derived.Test.YtegfhndcimkjoaaCbArm
import Derived.Test.YtegfhndcimkjoaaTkR
namespace Go.Proofs.Ytegfhndcimkjoaa.Cb
open Go.Proofs.Ytegfhndcimkjoaa.Tk Go.RowKit
set_option linter.unusedVariables false
set_option linter.unusedSimpArgs false
set_option maxHeartbeats 2000000 in
theorem rpair_any (q p : Int) (w : World) : Calls Try.prog 35 #[.int .i64 q, .int .i64 p] w fun e w' => e = .returned (.bool (pairB q p)) ∧ w' = w := by
  by_cases h1 : 1 ≤ p
  · by_cases h2 : p ≤ 2147483648
    · by_cases h3 : 1 ≤ q
      · by_cases h4 : q ≤ p
        · have FE := hide (show pairB q p = true from decide_eq_true ⟨h3, h4, h2⟩)
          go_enter Try.func35, Try.ntmps35
          go_wp2
          go_ret
          exact ⟨by rw [FE.out]; rfl, rfl⟩
        · have FE := hide (show pairB q p = false from decide_eq_false (by omega))
          go_enter Try.func35, Try.ntmps35
          go_wp2
          go_ret
          exact ⟨by rw [FE.out]; rfl, rfl⟩
      · have FE := hide (show pairB q p = false from decide_eq_false (by omega))
        go_enter Try.func35, Try.ntmps35
        go_wp2
        go_ret
        exact ⟨by rw [FE.out]; rfl, rfl⟩
    · have FE := hide (show pairB q p = false from decide_eq_false (by omega))
      go_enter Try.func35, Try.ntmps35
      go_wp2
      go_ret
      exact ⟨by rw [FE.out]; rfl, rfl⟩
  · have FE := hide (show pairB q p = false from decide_eq_false (by omega))
    go_enter Try.func35, Try.ntmps35
    go_wp2
    go_ret
    exact ⟨by rw [FE.out]; rfl, rfl⟩
set_option maxHeartbeats 4000000 in
theorem rgood_server (s : Sv) (W : World) : Calls Try.prog 25 #[svv s] W fun e w' => e = .returned (.bool (sgood s)) ∧ Nx W w' := by
  obtain ⟨q, p, b, d, m⟩ := s
  have HB := hide (bel1 (W := W) (.cells #[.int .i64 q, .int .i64 p, .int .i64 b, .int .i64 d, .int .i64 m] 34))
  have BAD : Hid (¬ ((1 ≤ q ∧ q ≤ p ∧ p ≤ 2147483648) ∧ (0 ≤ b ∧ b ≤ q) ∧ (0 ≤ d ∧ d ≤ 4611686018427387904) ∧ (0 ≤ m ∧ m ≤ 2) ∧ (m = 1 → 0 < b)) → sgood ⟨q, p, b, d, m⟩ = false) := hide (fun h => sbad h)
  have OKK : Hid (((1 ≤ q ∧ q ≤ p ∧ p ≤ 2147483648) ∧ (0 ≤ b ∧ b ≤ q) ∧ (0 ≤ d ∧ d ≤ 4611686018427387904) ∧ (0 ≤ m ∧ m ≤ 2) ∧ (m = 1 → 0 < b)) → sgood ⟨q, p, b, d, m⟩ = true) := hide (fun h => (sgood_iff _).2 h)
  have HP := hide (fun w => rpair_any q p w)
  have HG := hide (fun w => rgood_any d w)
  cases hp : pairB q p with
  | false =>
    have hp' := of_decide_eq_false hp
    have FE := hide (BAD.out (fun h => hp' h.1))
    rw [hp] at HP
    clear BAD OKK hp hp' HG
    go_enter Try.func25, Try.ntmps25
    go_wp2_with (first | (go_at_call 35; refine (HP.out _).mono ?_; rintro e w' ⟨rfl, rfl⟩) | (go_at_call 32; refine (HG.out _).mono ?_; rintro e w' ⟨rfl, rfl⟩))
    go_ret
    exact ⟨by rw [FE.out]; rfl, HB.out⟩
  | true =>
    have hp' : 1 ≤ q ∧ q ≤ p ∧ p ≤ 2147483648 := of_decide_eq_true hp
    rw [hp] at HP
    clear hp
    by_cases h1 : b < 0
    · have FE := hide (BAD.out (by omega))
      clear BAD OKK HG
      go_enter Try.func25, Try.ntmps25
      go_wp2_with (first | (go_at_call 35; refine (HP.out _).mono ?_; rintro e w' ⟨rfl, rfl⟩) | (go_at_call 32; refine (HG.out _).mono ?_; rintro e w' ⟨rfl, rfl⟩))
      go_ret
      exact ⟨by rw [FE.out]; rfl, HB.out⟩
    by_cases h2 : q < b
    · have FE := hide (BAD.out (by omega))
      clear BAD OKK HG
      go_enter Try.func25, Try.ntmps25
      go_wp2_with (first | (go_at_call 35; refine (HP.out _).mono ?_; rintro e w' ⟨rfl, rfl⟩) | (go_at_call 32; refine (HG.out _).mono ?_; rintro e w' ⟨rfl, rfl⟩))
      go_ret
      exact ⟨by rw [FE.out]; rfl, HB.out⟩
    cases hg : Tk.good d with
    | false =>
      have hg' := good_f hg
      have FE := hide (BAD.out (by omega))
      rw [hg] at HG
      clear BAD OKK hg hg'
      go_enter Try.func25, Try.ntmps25
      go_wp2_with (first | (go_at_call 35; refine (HP.out _).mono ?_; rintro e w' ⟨rfl, rfl⟩) | (go_at_call 32; refine (HG.out _).mono ?_; rintro e w' ⟨rfl, rfl⟩))
      go_ret
      exact ⟨by rw [FE.out]; rfl, HB.out⟩
    | true =>
      have hg' := good_t hg
      rw [hg] at HG
      clear hg
      by_cases h3 : m < 0
      · have FE := hide (BAD.out (by omega))
        clear BAD OKK
        go_enter Try.func25, Try.ntmps25
        go_wp2_with (first | (go_at_call 35; refine (HP.out _).mono ?_; rintro e w' ⟨rfl, rfl⟩) | (go_at_call 32; refine (HG.out _).mono ?_; rintro e w' ⟨rfl, rfl⟩))
        go_ret
        exact ⟨by rw [FE.out]; rfl, HB.out⟩
      by_cases h4 : 2 < m
      · have FE := hide (BAD.out (by omega))
        clear BAD OKK
        go_enter Try.func25, Try.ntmps25
        go_wp2_with (first | (go_at_call 35; refine (HP.out _).mono ?_; rintro e w' ⟨rfl, rfl⟩) | (go_at_call 32; refine (HG.out _).mono ?_; rintro e w' ⟨rfl, rfl⟩))
        go_ret
        exact ⟨by rw [FE.out]; rfl, HB.out⟩
      by_cases h5 : m = 1
      · by_cases h6 : 0 < b
        · have FE := hide (OKK.out (by omega))
          subst h5
          clear BAD OKK
          go_enter Try.func25, Try.ntmps25
          go_wp2_with (first | (go_at_call 35; refine (HP.out _).mono ?_; rintro e w' ⟨rfl, rfl⟩) | (go_at_call 32; refine (HG.out _).mono ?_; rintro e w' ⟨rfl, rfl⟩))
          go_ret
          exact ⟨by rw [FE.out]; rfl, HB.out⟩
        · have FE := hide (BAD.out (by omega))
          have h6' : decide (0 < b) = false := decide_eq_false h6
          subst h5
          clear BAD OKK
          go_enter Try.func25, Try.ntmps25
          go_wp2_with (first | (go_at_call 35; refine (HP.out _).mono ?_; rintro e w' ⟨rfl, rfl⟩) | (go_at_call 32; refine (HG.out _).mono ?_; rintro e w' ⟨rfl, rfl⟩))
          go_ret
          exact ⟨by rw [FE.out]; rfl, HB.out⟩
      · have FE := hide (OKK.out (by omega))
        have hm1 : (m == 1) = false := by simp [h5]
        have hm2 : (m != 1) = true := by simp [h5]
        clear BAD OKK
        go_enter Try.func25, Try.ntmps25
        go_wp2_with (first | (go_at_call 35; refine (HP.out _).mono ?_; rintro e w' ⟨rfl, rfl⟩) | (go_at_call 32; refine (HG.out _).mono ?_; rintro e w' ⟨rfl, rfl⟩))
        go_ret
        exact ⟨by rw [FE.out]; rfl, HB.out⟩
end Go.Proofs.Ytegfhndcimkjoaa.Cb
