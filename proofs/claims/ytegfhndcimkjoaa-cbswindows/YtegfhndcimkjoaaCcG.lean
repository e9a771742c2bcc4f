/- cbs: pair, Good, New, Less. -/
import Derived.Test.YtegfhndcimkjoaaCbCon
import Derived.Test.YtegfhndcimkjoaaTkP
namespace Go.Proofs.Ytegfhndcimkjoaa.Cb
open Go.Proofs.Ytegfhndcimkjoaa.Tk Go.RowKit
set_option linter.unusedVariables false
set_option linter.unusedSimpArgs false
set_option maxHeartbeats 2000000 in
theorem pair_any (q p : Int) (w : World) : Calls Try.prog 26 #[.int .i64 q, .int .i64 p] w fun e w' => e = .returned (.bool (pairB q p)) ∧ w' = w := by
  by_cases h0 : 1 ≤ q
  rotate_left
  · have FE := hide (show pairB q p = false from decide_eq_false (by omega))
    go_enter Try.func26, Try.ntmps26
    go_wp2
    go_ret
    exact ⟨by rw [FE.out]; rfl, rfl⟩
  by_cases h1 : q ≤ p
  rotate_left
  · have FE := hide (show pairB q p = false from decide_eq_false (by omega))
    go_enter Try.func26, Try.ntmps26
    go_wp2
    go_ret
    exact ⟨by rw [FE.out]; rfl, rfl⟩
  by_cases h2 : p ≤ 2147483648
  rotate_left
  · have FE := hide (show pairB q p = false from decide_eq_false (by omega))
    go_enter Try.func26, Try.ntmps26
    go_wp2
    go_ret
    exact ⟨by rw [FE.out]; rfl, rfl⟩
  have FE := hide (show pairB q p = true from decide_eq_true ⟨h0, h1, h2⟩)
  go_enter Try.func26, Try.ntmps26
  go_wp2
  go_ret
  exact ⟨by rw [FE.out]; rfl, rfl⟩
set_option maxHeartbeats 4000000 in
theorem good_server (s : Sv) (W : World) : Calls Try.prog 17 #[svv s] W fun e w' => e = .returned (.bool (sgood s)) ∧ Nx W w' := by
  obtain ⟨q, p, b, d, m⟩ := s
  have HB := hide (bel1 (W := W) (.cells #[.int .i64 q, .int .i64 p, .int .i64 b, .int .i64 d, .int .i64 m] 24))
  have BAD : Hid (¬ ((1 ≤ q ∧ q ≤ p ∧ p ≤ 2147483648) ∧ (0 ≤ b ∧ b ≤ q) ∧ (0 ≤ d ∧ d ≤ 4611686018427387904) ∧ (0 ≤ m ∧ m ≤ 2) ∧ (m = 1 → 0 < b)) → sgood ⟨q, p, b, d, m⟩ = false) := hide (fun h => sbad h)
  have OKK : Hid (((1 ≤ q ∧ q ≤ p ∧ p ≤ 2147483648) ∧ (0 ≤ b ∧ b ≤ q) ∧ (0 ≤ d ∧ d ≤ 4611686018427387904) ∧ (0 ≤ m ∧ m ≤ 2) ∧ (m = 1 → 0 < b)) → sgood ⟨q, p, b, d, m⟩ = true) := hide (fun h => (sgood_iff _).2 h)
  have HP := hide (fun w => pair_any q p w)
  have HG := hide (fun w => good_any d w)
  cases hp : pairB q p with
  | false =>
    have hp' := of_decide_eq_false hp
    have FE := hide (BAD.out (fun h => hp' h.1))
    rw [hp] at HP
    clear BAD OKK hp hp' HG
    go_enter Try.func17, Try.ntmps17
    go_wp2_with (first | (go_at_call 26; refine (HP.out _).mono ?_; rintro e w' ⟨rfl, rfl⟩) | (go_at_call 27; refine (HG.out _).mono ?_; rintro e w' ⟨rfl, rfl⟩))
    go_ret
    exact ⟨by rw [FE.out]; rfl, HB.out⟩
  | true =>
    have hp' : 1 ≤ q ∧ q ≤ p ∧ p ≤ 2147483648 := of_decide_eq_true hp
    rw [hp] at HP
    clear hp
    by_cases h1 : b < 0
    · have FE := hide (BAD.out (by omega))
      clear BAD OKK HG
      go_enter Try.func17, Try.ntmps17
      go_wp2_with (first | (go_at_call 26; refine (HP.out _).mono ?_; rintro e w' ⟨rfl, rfl⟩) | (go_at_call 27; refine (HG.out _).mono ?_; rintro e w' ⟨rfl, rfl⟩))
      go_ret
      exact ⟨by rw [FE.out]; rfl, HB.out⟩
    by_cases h2 : q < b
    · have FE := hide (BAD.out (by omega))
      clear BAD OKK HG
      go_enter Try.func17, Try.ntmps17
      go_wp2_with (first | (go_at_call 26; refine (HP.out _).mono ?_; rintro e w' ⟨rfl, rfl⟩) | (go_at_call 27; refine (HG.out _).mono ?_; rintro e w' ⟨rfl, rfl⟩))
      go_ret
      exact ⟨by rw [FE.out]; rfl, HB.out⟩
    cases hg : Tk.good d with
    | false =>
      have hg' := good_f hg
      have FE := hide (BAD.out (by omega))
      rw [hg] at HG
      clear BAD OKK hg hg'
      go_enter Try.func17, Try.ntmps17
      go_wp2_with (first | (go_at_call 26; refine (HP.out _).mono ?_; rintro e w' ⟨rfl, rfl⟩) | (go_at_call 27; refine (HG.out _).mono ?_; rintro e w' ⟨rfl, rfl⟩))
      go_ret
      exact ⟨by rw [FE.out]; rfl, HB.out⟩
    | true =>
      have hg' := good_t hg
      rw [hg] at HG
      clear hg
      by_cases h3 : m = 0
      · have FE := hide (OKK.out (by omega))
        subst h3
        clear BAD OKK
        go_enter Try.func17, Try.ntmps17
        go_wp2_with (first | (go_at_call 26; refine (HP.out _).mono ?_; rintro e w' ⟨rfl, rfl⟩) | (go_at_call 27; refine (HG.out _).mono ?_; rintro e w' ⟨rfl, rfl⟩))
        go_ret
        exact ⟨by rw [FE.out]; rfl, HB.out⟩
      by_cases h4 : m = 2
      · have FE := hide (OKK.out (by omega))
        subst h4
        clear BAD OKK
        go_enter Try.func17, Try.ntmps17
        go_wp2_with (first | (go_at_call 26; refine (HP.out _).mono ?_; rintro e w' ⟨rfl, rfl⟩) | (go_at_call 27; refine (HG.out _).mono ?_; rintro e w' ⟨rfl, rfl⟩))
        go_ret
        exact ⟨by rw [FE.out]; rfl, HB.out⟩
      have e0 : (m == 0) = false := by simp [h3]
      have e2 : (m == 2) = false := by simp [h4]
      by_cases h5 : m = 1
      · by_cases h6 : 0 < b
        · have FE := hide (OKK.out (by omega))
          subst h5
          clear BAD OKK e0 e2
          go_enter Try.func17, Try.ntmps17
          go_wp2_with (first | (go_at_call 26; refine (HP.out _).mono ?_; rintro e w' ⟨rfl, rfl⟩) | (go_at_call 27; refine (HG.out _).mono ?_; rintro e w' ⟨rfl, rfl⟩))
          go_ret
          exact ⟨by rw [FE.out]; rfl, HB.out⟩
        · have FE := hide (BAD.out (by omega))
          have h6' : decide (0 < b) = false := decide_eq_false h6
          subst h5
          clear BAD OKK e0 e2
          go_enter Try.func17, Try.ntmps17
          go_wp2_with (first | (go_at_call 26; refine (HP.out _).mono ?_; rintro e w' ⟨rfl, rfl⟩) | (go_at_call 27; refine (HG.out _).mono ?_; rintro e w' ⟨rfl, rfl⟩))
          go_ret
          exact ⟨by rw [FE.out]; rfl, HB.out⟩
      · have FE := hide (BAD.out (by omega))
        have e1 : (m == 1) = false := by simp [h5]
        clear BAD OKK
        go_enter Try.func17, Try.ntmps17
        go_wp2_with (first | (go_at_call 26; refine (HP.out _).mono ?_; rintro e w' ⟨rfl, rfl⟩) | (go_at_call 27; refine (HG.out _).mono ?_; rintro e w' ⟨rfl, rfl⟩))
        go_ret
        exact ⟨by rw [FE.out]; rfl, HB.out⟩
set_option maxHeartbeats 8000000 in
theorem new_any (q p : Int) (W : World) : Calls Try.prog 10 #[.int .i64 q, .int .i64 p] W fun e w' => e = .returned (.tuple #[svv (new q p), .int .i64 (newE q p)]) ∧ Nx W w' := by
  have HB := hide (bel1 (W := W) (.cells #[.int .i64 0, .int .i64 0, .int .i64 0, .int .i64 0, .int .i64 0] 24))
  have HP := hide (fun w => pair_any q p w)
  cases hp : pairB q p with
  | false =>
    have E := hide (new_1 hp).symm
    rw [hp] at HP
    clear hp
    go_enter Try.func10, Try.ntmps10
    go_wp2_with (go_at_call 26; refine (HP.out _).mono ?_; rintro e w' ⟨rfl, rfl⟩)
    (try simp only [Exit.inBlock, Exit.then])
    refine bodyPost_ret (v := .tuple #[.agg #[.int .i64 0, .int .i64 0, .int .i64 0, .int .i64 0, .int .i64 0], .int .i64 1]) ?_ rfl ⟨by rw [E.out.1, E.out.2]; first | done | rfl, ?_⟩
    · rw [results_cell_tmp rfl]; go_simp
    · repeat (first | (with_reducible exact HB.out) | (with_reducible exact bel1 _) | refine Below.setCell ?_ (by dsimp only; omega) _)
  | true =>
    have E := hide (new_0 hp).symm
    rw [hp] at HP
    clear hp
    go_enter Try.func10, Try.ntmps10
    go_wp2_with (go_at_call 26; refine (HP.out _).mono ?_; rintro e w' ⟨rfl, rfl⟩)
    (try simp only [Exit.inBlock, Exit.then])
    refine bodyPost_ret (v := .tuple #[.agg #[.int .i64 q, .int .i64 p, .int .i64 0, .int .i64 0, .int .i64 0], .int .i64 0]) ?_ rfl ⟨by rw [E.out.1, E.out.2]; first | done | rfl, ?_⟩
    · rw [results_cell_tmp rfl]; go_simp
    · repeat (first | (with_reducible exact HB.out) | (with_reducible exact bel1 _) | refine Below.setCell ?_ (by dsimp only; omega) _)
theorem less_any (s t : Sv) (W : World) : Calls Try.prog 16 #[svv s, svv t] W fun e w' => e = .returned (.bool (decide (s.d < t.d))) ∧ Nx W w' := by
  obtain ⟨q, p, b, d, m⟩ := s
  obtain ⟨q', p', b', d', m'⟩ := t
  have HB := hide (bel2 (W := W) (.cells #[.int .i64 q, .int .i64 p, .int .i64 b, .int .i64 d, .int .i64 m] 24) (.cells #[.int .i64 q', .int .i64 p', .int .i64 b', .int .i64 d', .int .i64 m'] 24))
  go_enter Try.func16, Try.ntmps16
  go_wp2
  go_ret
  exact ⟨rfl, HB.out⟩
end Go.Proofs.Ytegfhndcimkjoaa.Cb
