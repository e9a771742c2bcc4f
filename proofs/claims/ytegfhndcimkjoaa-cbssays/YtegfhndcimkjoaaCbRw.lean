/- The reference's servers: NewServer, Use, Idle, Wait, Turn. -/
import Derived.Test.YtegfhndcimkjoaaCbRg
namespace Go.Proofs.Ytegfhndcimkjoaa.Cb
open Go.Proofs.Ytegfhndcimkjoaa.Tk Go.RowKit
set_option linter.unusedVariables false
set_option linter.unusedSimpArgs false
theorem sg {s : Sv} (h : sgood s = true) : (1 ≤ s.q ∧ s.q ≤ s.p ∧ s.p ≤ 2147483648) ∧ (0 ≤ s.b ∧ s.b ≤ s.q) ∧ (0 ≤ s.d ∧ s.d ≤ 4611686018427387904) ∧ (0 ≤ s.m ∧ s.m ≤ 2) ∧ (s.m = 1 → 0 < s.b) := (sgood_iff s).1 h
set_option maxHeartbeats 8000000 in
theorem rnew_any (q p : Int) (W : World) : Calls Try.prog 24 #[.int .i64 q, .int .i64 p] W fun e w' => e = .returned (.tuple #[svv (new q p), .int .i64 (newE q p)]) ∧ Nx W w' := by
  have HB := hide (bel1 (W := W) (.cells #[.int .i64 0, .int .i64 0, .int .i64 0, .int .i64 0, .int .i64 0] 34))
  have HP := hide (fun w => rpair_any q p w)
  cases hp : pairB q p with
  | false =>
    have E := hide (new_1 hp).symm
    rw [hp] at HP
    clear hp
    go_enter Try.func24, Try.ntmps24
    go_wp2_with (go_at_call 35; refine (HP.out _).mono ?_; rintro e w' ⟨rfl, rfl⟩)
    (try simp only [Exit.inBlock, Exit.then])
    refine bodyPost_ret (v := .tuple #[.agg #[.int .i64 0, .int .i64 0, .int .i64 0, .int .i64 0, .int .i64 0], .int .i64 1]) ?_ rfl ⟨by rw [E.out.1, E.out.2]; first | done | rfl, ?_⟩
    · rw [results_cell_tmp rfl]; go_simp
    · repeat (first | (with_reducible exact HB.out) | (with_reducible exact bel1 _) | refine Below.setCell ?_ (by dsimp only; omega) _)
  | true =>
    have E := hide (new_0 hp).symm
    rw [hp] at HP
    clear hp
    go_enter Try.func24, Try.ntmps24
    go_wp2_with (go_at_call 35; refine (HP.out _).mono ?_; rintro e w' ⟨rfl, rfl⟩)
    (try simp only [Exit.inBlock, Exit.then])
    refine bodyPost_ret (v := .tuple #[.agg #[.int .i64 q, .int .i64 p, .int .i64 0, .int .i64 0, .int .i64 0], .int .i64 0]) ?_ rfl ⟨by rw [E.out.1, E.out.2]; first | done | rfl, ?_⟩
    · rw [results_cell_tmp rfl]; go_simp
    · repeat (first | (with_reducible exact HB.out) | (with_reducible exact bel1 _) | refine Below.setCell ?_ (by dsimp only; omega) _)
set_option maxHeartbeats 8000000 in
theorem ruse_any (s : Sv) (n : Int) (W : World) : Calls Try.prog 20 #[svv s, .int .i64 n] W fun e w' => e = .returned (.tuple #[svv (use s n), .int .i64 (useE s n)]) ∧ Nx W w' := by
  obtain ⟨q, p, b, d, m⟩ := s
  have HB0 := hide (bel2 (W := W) (.cells #[.int .i64 q, .int .i64 p, .int .i64 b, .int .i64 d, .int .i64 m] 34) (.cells #[.int .i64 0, .int .i64 0, .int .i64 0, .int .i64 0, .int .i64 0] 34))
  have HG := hide (rgood_server ⟨q, p, b, d, m⟩ ((W.alloc (.cells #[.int .i64 q, .int .i64 p, .int .i64 b, .int .i64 d, .int .i64 m] 34)).alloc (.cells #[.int .i64 0, .int .i64 0, .int .i64 0, .int .i64 0, .int .i64 0] 34)))
  go_enter Try.func20, Try.ntmps20
  go_wp2_with fail
  refine HG.out.mono ?_
  rintro e w1 ⟨rfl, hb⟩
  obtain ⟨r0, r1⟩ := box2 hb
  have HB := hide (HB0.out.trans (Below.mono hb (by simp; omega)))
  obtain ⟨x0, x1, x2, x3, x4⟩ := row5 r0
  obtain ⟨c0, c1, c2, c3, c4⟩ := row5 r1
  have y0 := row_free r0 0
  have z0 := row_free r1 0
  have y1 := row_free r0 1
  have z1 := row_free r1 1
  have y2 := row_free r0 2
  have z2 := row_free r1 2
  have y3 := row_free r0 3
  have z3 := row_free r1 3
  have y4 := row_free r0 4
  have z4 := row_free r1 4
  have R0 := hide r0
  have R1 := hide r1
  clear hb HB0 HG r0 r1
  cases hg : sgood ⟨q, p, b, d, m⟩ with
  | false =>
    have E := hide (use_1 (s := ⟨q, p, b, d, m⟩) (n := n) (by rw [hg]; simp)).symm
    clear hg
    go_wp2
    (try simp only [Exit.inBlock, Exit.then])
    refine bodyPost_ret (v := .tuple #[.agg #[.int .i64 q, .int .i64 p, .int .i64 b, .int .i64 d, .int .i64 m], .int .i64 1]) ?_ rfl ⟨by rw [E.out.1, E.out.2]; first | done | rfl, ?_⟩
    · rw [results_cell_tmp rfl]; go_simp
    · repeat (first | (with_reducible exact HB.out) | (with_reducible exact bel1 _) | refine Below.setCell ?_ (by dsimp only; omega) _)
  | true =>
    obtain ⟨⟨g1, g2, g3⟩, ⟨g4, g5⟩, _, _, _⟩ := sg hg
    simp only at g1 g2 g3 g4 g5
    by_cases h1 : n < 1
    · have E := hide (use_1 (s := ⟨q, p, b, d, m⟩) (n := n) (fun h => by have := h.2.1; omega)).symm
      clear hg
      go_wp2
      (try simp only [Exit.inBlock, Exit.then])
      refine bodyPost_ret (v := .tuple #[.agg #[.int .i64 q, .int .i64 p, .int .i64 b, .int .i64 d, .int .i64 m], .int .i64 1]) ?_ rfl ⟨by rw [E.out.1, E.out.2]; first | done | rfl, ?_⟩
      · rw [results_cell_tmp rfl]; go_simp
      · repeat (first | (with_reducible exact HB.out) | (with_reducible exact bel1 _) | refine Below.setCell ?_ (by dsimp only; omega) _)
    by_cases h2 : b < n
    · have E := hide (use_1 (s := ⟨q, p, b, d, m⟩) (n := n) (fun h => by have h3 : n ≤ b := h.2.2; omega)).symm
      clear hg
      go_wp2
      (try simp only [Exit.inBlock, Exit.then])
      refine bodyPost_ret (v := .tuple #[.agg #[.int .i64 q, .int .i64 p, .int .i64 b, .int .i64 d, .int .i64 m], .int .i64 1]) ?_ rfl ⟨by rw [E.out.1, E.out.2]; first | done | rfl, ?_⟩
      · rw [results_cell_tmp rfl]; go_simp
      · repeat (first | (with_reducible exact HB.out) | (with_reducible exact bel1 _) | refine Below.setCell ?_ (by dsimp only; omega) _)
    by_cases h3 : m = 1
    · have E := hide (use_0 (n := n) hg (by omega) (by show n ≤ b; omega) h3).symm
      clear hg
      subst h3
      by_cases h4 : b - n = 0
      · have E : Hid (_ ∧ _) := E
        have e4 : modeB (b - n) = 2 := by unfold modeB; rw [if_pos h4]
        have E := hide (show _ ∧ _ from ⟨E.out.1, E.out.2⟩)
        simp only [e4, h4] at E
        have h5 : (b - n == 0) = true := by simp [h4]
        clear e4
        go_wp2
        (try simp only [Exit.inBlock, Exit.then])
        refine bodyPost_ret (v := .tuple #[.agg #[.int .i64 q, .int .i64 p, .int .i64 0, .int .i64 d, .int .i64 2], .int .i64 0]) ?_ rfl ⟨by rw [E.out.1, E.out.2]; first | done | rfl, ?_⟩
        · rw [results_cell_tmp rfl]; go_simp
        · repeat (first | (with_reducible exact HB.out) | (with_reducible exact bel1 _) | refine Below.setCell ?_ (by dsimp only; omega) _)
      · have e4 : modeB (b - n) = 1 := by unfold modeB; rw [if_neg h4]
        simp only [e4] at E
        have h5 : (b - n == 0) = false := by simp [h4]
        clear e4
        go_wp2
        (try simp only [Exit.inBlock, Exit.then])
        refine bodyPost_ret (v := .tuple #[.agg #[.int .i64 q, .int .i64 p, .int .i64 (b - n), .int .i64 d, .int .i64 1], .int .i64 0]) ?_ rfl ⟨by rw [E.out.1, E.out.2]; first | done | rfl, ?_⟩
        · rw [results_cell_tmp rfl]; go_simp
        · repeat (first | (with_reducible exact HB.out) | (with_reducible exact bel1 _) | refine Below.setCell ?_ (by dsimp only; omega) _)
    · have E := hide (use_4 (n := n) hg (by omega) (by show n ≤ b; omega) h3).symm
      have h4 : (m == 1) = false := by simp [h3]
      have h5 : (m != 1) = true := by simp [h3]
      clear hg
      go_wp2
      (try simp only [Exit.inBlock, Exit.then])
      refine bodyPost_ret (v := .tuple #[.agg #[.int .i64 q, .int .i64 p, .int .i64 b, .int .i64 d, .int .i64 m], .int .i64 4]) ?_ rfl ⟨by rw [E.out.1, E.out.2]; first | done | rfl, ?_⟩
      · rw [results_cell_tmp rfl]; go_simp
      · repeat (first | (with_reducible exact HB.out) | (with_reducible exact bel1 _) | refine Below.setCell ?_ (by dsimp only; omega) _)
set_option maxHeartbeats 8000000 in
theorem ridle_any (s : Sv) (W : World) : Calls Try.prog 21 #[svv s] W fun e w' => e = .returned (.tuple #[svv (idle s), .int .i64 (idleE s)]) ∧ Nx W w' := by
  obtain ⟨q, p, b, d, m⟩ := s
  have HB0 := hide (bel2 (W := W) (.cells #[.int .i64 q, .int .i64 p, .int .i64 b, .int .i64 d, .int .i64 m] 34) (.cells #[.int .i64 0, .int .i64 0, .int .i64 0, .int .i64 0, .int .i64 0] 34))
  have HG := hide (rgood_server ⟨q, p, b, d, m⟩ ((W.alloc (.cells #[.int .i64 q, .int .i64 p, .int .i64 b, .int .i64 d, .int .i64 m] 34)).alloc (.cells #[.int .i64 0, .int .i64 0, .int .i64 0, .int .i64 0, .int .i64 0] 34)))
  go_enter Try.func21, Try.ntmps21
  go_wp2_with fail
  refine HG.out.mono ?_
  rintro e w1 ⟨rfl, hb⟩
  obtain ⟨r0, r1⟩ := box2 hb
  have HB := hide (HB0.out.trans (Below.mono hb (by simp; omega)))
  obtain ⟨x0, x1, x2, x3, x4⟩ := row5 r0
  obtain ⟨c0, c1, c2, c3, c4⟩ := row5 r1
  have y0 := row_free r0 0
  have z0 := row_free r1 0
  have y1 := row_free r0 1
  have z1 := row_free r1 1
  have y2 := row_free r0 2
  have z2 := row_free r1 2
  have y3 := row_free r0 3
  have z3 := row_free r1 3
  have y4 := row_free r0 4
  have z4 := row_free r1 4
  have R0 := hide r0
  have R1 := hide r1
  clear hb HB0 HG r0 r1
  cases hg : sgood ⟨q, p, b, d, m⟩ with
  | false =>
    have E := hide (idle_1 hg).symm
    clear hg
    go_wp2
    (try simp only [Exit.inBlock, Exit.then])
    refine bodyPost_ret (v := .tuple #[.agg #[.int .i64 q, .int .i64 p, .int .i64 b, .int .i64 d, .int .i64 m], .int .i64 1]) ?_ rfl ⟨by rw [E.out.1, E.out.2]; first | done | rfl, ?_⟩
    · rw [results_cell_tmp rfl]; go_simp
    · repeat (first | (with_reducible exact HB.out) | (with_reducible exact bel1 _) | refine Below.setCell ?_ (by dsimp only; omega) _)
  | true =>
    by_cases h3 : m = 0
    · have E := hide (idle_4 hg h3).symm
      clear hg
      subst h3
      go_wp2
      (try simp only [Exit.inBlock, Exit.then])
      refine bodyPost_ret (v := .tuple #[.agg #[.int .i64 q, .int .i64 p, .int .i64 b, .int .i64 d, .int .i64 0], .int .i64 4]) ?_ rfl ⟨by rw [E.out.1, E.out.2]; first | done | rfl, ?_⟩
      · rw [results_cell_tmp rfl]; go_simp
      · repeat (first | (with_reducible exact HB.out) | (with_reducible exact bel1 _) | refine Below.setCell ?_ (by dsimp only; omega) _)
    · have E := hide (idle_0 hg h3).symm
      have h4 : (m == 0) = false := by simp [h3]
      have h5 : (m != 0) = true := by simp [h3]
      clear hg
      go_wp2
      (try simp only [Exit.inBlock, Exit.then])
      refine bodyPost_ret (v := .tuple #[.agg #[.int .i64 q, .int .i64 p, .int .i64 b, .int .i64 d, .int .i64 0], .int .i64 0]) ?_ rfl ⟨by rw [E.out.1, E.out.2]; first | done | rfl, ?_⟩
      · rw [results_cell_tmp rfl]; go_simp
      · repeat (first | (with_reducible exact HB.out) | (with_reducible exact bel1 _) | refine Below.setCell ?_ (by dsimp only; omega) _)
set_option maxHeartbeats 8000000 in
theorem rwait_any (s : Sv) (W : World) : Calls Try.prog 22 #[svv s] W fun e w' => e = .returned (.tuple #[svv (wait s), .int .i64 (waitE s)]) ∧ Nx W w' := by
  obtain ⟨q, p, b, d, m⟩ := s
  have HB0 := hide (bel2 (W := W) (.cells #[.int .i64 q, .int .i64 p, .int .i64 b, .int .i64 d, .int .i64 m] 34) (.cells #[.int .i64 0, .int .i64 0, .int .i64 0, .int .i64 0, .int .i64 0] 34))
  have HG := hide (rgood_server ⟨q, p, b, d, m⟩ ((W.alloc (.cells #[.int .i64 q, .int .i64 p, .int .i64 b, .int .i64 d, .int .i64 m] 34)).alloc (.cells #[.int .i64 0, .int .i64 0, .int .i64 0, .int .i64 0, .int .i64 0] 34)))
  go_enter Try.func22, Try.ntmps22
  go_wp2_with fail
  refine HG.out.mono ?_
  rintro e w1 ⟨rfl, hb⟩
  obtain ⟨r0, r1⟩ := box2 hb
  have HB := hide (HB0.out.trans (Below.mono hb (by simp; omega)))
  obtain ⟨x0, x1, x2, x3, x4⟩ := row5 r0
  obtain ⟨c0, c1, c2, c3, c4⟩ := row5 r1
  have y0 := row_free r0 0
  have z0 := row_free r1 0
  have y1 := row_free r0 1
  have z1 := row_free r1 1
  have y2 := row_free r0 2
  have z2 := row_free r1 2
  have y3 := row_free r0 3
  have z3 := row_free r1 3
  have y4 := row_free r0 4
  have z4 := row_free r1 4
  have R0 := hide r0
  have R1 := hide r1
  clear hb HB0 HG r0 r1
  cases hg : sgood ⟨q, p, b, d, m⟩ with
  | false =>
    have E := hide (wait_1 hg).symm
    clear hg
    go_wp2
    (try simp only [Exit.inBlock, Exit.then])
    refine bodyPost_ret (v := .tuple #[.agg #[.int .i64 q, .int .i64 p, .int .i64 b, .int .i64 d, .int .i64 m], .int .i64 1]) ?_ rfl ⟨by rw [E.out.1, E.out.2]; first | done | rfl, ?_⟩
    · rw [results_cell_tmp rfl]; go_simp
    · repeat (first | (with_reducible exact HB.out) | (with_reducible exact bel1 _) | refine Below.setCell ?_ (by dsimp only; omega) _)
  | true =>
    by_cases h3 : m = 1
    · have E := hide (wait_0 hg h3).symm
      clear hg
      subst h3
      go_wp2
      (try simp only [Exit.inBlock, Exit.then])
      refine bodyPost_ret (v := .tuple #[.agg #[.int .i64 q, .int .i64 p, .int .i64 b, .int .i64 d, .int .i64 2], .int .i64 0]) ?_ rfl ⟨by rw [E.out.1, E.out.2]; first | done | rfl, ?_⟩
      · rw [results_cell_tmp rfl]; go_simp
      · repeat (first | (with_reducible exact HB.out) | (with_reducible exact bel1 _) | refine Below.setCell ?_ (by dsimp only; omega) _)
    · have E := hide (wait_4 hg h3).symm
      have h4 : (m == 1) = false := by simp [h3]
      have h5 : (m != 1) = true := by simp [h3]
      clear hg
      go_wp2
      (try simp only [Exit.inBlock, Exit.then])
      refine bodyPost_ret (v := .tuple #[.agg #[.int .i64 q, .int .i64 p, .int .i64 b, .int .i64 d, .int .i64 m], .int .i64 4]) ?_ rfl ⟨by rw [E.out.1, E.out.2]; first | done | rfl, ?_⟩
      · rw [results_cell_tmp rfl]; go_simp
      · repeat (first | (with_reducible exact HB.out) | (with_reducible exact bel1 _) | refine Below.setCell ?_ (by dsimp only; omega) _)
set_option maxHeartbeats 8000000 in
theorem rturn_any (s : Sv) (now : Int) (W : World) : Calls Try.prog 23 #[svv s, .int .i64 now] W fun e w' => e = .returned (.tuple #[svv (turn s now), .bool (turnB s now)]) ∧ Nx W w' := by
  obtain ⟨q, p, b, d, m⟩ := s
  have HB0 := hide (bel2 (W := W) (.cells #[.int .i64 q, .int .i64 p, .int .i64 b, .int .i64 d, .int .i64 m] 34) (.cells #[.int .i64 0, .int .i64 0, .int .i64 0, .int .i64 0, .int .i64 0] 34))
  have HG := hide (rgood_server ⟨q, p, b, d, m⟩ ((W.alloc (.cells #[.int .i64 q, .int .i64 p, .int .i64 b, .int .i64 d, .int .i64 m] 34)).alloc (.cells #[.int .i64 0, .int .i64 0, .int .i64 0, .int .i64 0, .int .i64 0] 34)))
  go_enter Try.func23, Try.ntmps23
  go_wp2_with fail
  refine HG.out.mono ?_
  rintro e w1 ⟨rfl, hb⟩
  obtain ⟨r0, r1⟩ := box2 hb
  have HB := hide (HB0.out.trans (Below.mono hb (by simp; omega)))
  obtain ⟨x0, x1, x2, x3, x4⟩ := row5 r0
  obtain ⟨c0, c1, c2, c3, c4⟩ := row5 r1
  have y0 := row_free r0 0
  have z0 := row_free r1 0
  have y1 := row_free r0 1
  have z1 := row_free r1 1
  have y2 := row_free r0 2
  have z2 := row_free r1 2
  have y3 := row_free r0 3
  have z3 := row_free r1 3
  have y4 := row_free r0 4
  have z4 := row_free r1 4
  have R0 := hide r0
  have R1 := hide r1
  clear hb HB0 HG r0 r1
  have HN := hide (fun w => rgood_any now w)
  have NO : Hid (¬ (sgood ⟨q, p, b, d, m⟩ = true ∧ Tk.good now = true ∧ m ≠ 0 ∧ d ≤ now ∧ Tk.good (nextOf now d p) = true) → turn ⟨q, p, b, d, m⟩ now = ⟨q, p, b, d, m⟩ ∧ turnB ⟨q, p, b, d, m⟩ now = false) := hide (fun h => by
    have e : turnB ⟨q, p, b, d, m⟩ now = false := by
      cases ht : turnB ⟨q, p, b, d, m⟩ now with
      | false => rfl
      | true => exact absurd (turnB_iff.1 ht) h
    exact ⟨turn_n e, e⟩)
  cases hg : sgood ⟨q, p, b, d, m⟩ with
  | false =>
    have E := hide (NO.out (by rw [hg]; simp))
    clear hg NO
    go_wp2
    (try simp only [Exit.inBlock, Exit.then])
    refine bodyPost_ret (v := .tuple #[.agg #[.int .i64 q, .int .i64 p, .int .i64 b, .int .i64 d, .int .i64 m], .bool false]) ?_ rfl ⟨by rw [E.out.1, E.out.2]; first | done | rfl, ?_⟩
    · rw [results_cell_tmp rfl]; go_simp
    · repeat (first | (with_reducible exact HB.out) | (with_reducible exact bel1 _) | refine Below.setCell ?_ (by dsimp only; omega) _)
  | true =>
    obtain ⟨⟨g1, g2, g3⟩, ⟨g4, g5⟩, ⟨g6, g7⟩, _, _⟩ := sg hg
    simp only at g1 g2 g3 g4 g5 g6 g7
    cases hn : Tk.good now with
    | false =>
      have E := hide (NO.out (by rw [hn]; simp))
      rw [hn] at HN
      clear hg NO hn
      go_wp2_with (go_at_call 32; refine (HN.out _).mono ?_; rintro e w' ⟨rfl, rfl⟩)
      (try simp only [Exit.inBlock, Exit.then])
      refine bodyPost_ret (v := .tuple #[.agg #[.int .i64 q, .int .i64 p, .int .i64 b, .int .i64 d, .int .i64 m], .bool false]) ?_ rfl ⟨by rw [E.out.1, E.out.2]; first | done | rfl, ?_⟩
      · rw [results_cell_tmp rfl]; go_simp
      · repeat (first | (with_reducible exact HB.out) | (with_reducible exact bel1 _) | refine Below.setCell ?_ (by dsimp only; omega) _)
    | true =>
      have hn' := good_t hn
      rw [hn] at HN
      by_cases hm : m = 0
      · have E := hide (NO.out (by simp [hm]))
        clear hg NO hn
        subst hm
        go_wp2_with (go_at_call 32; refine (HN.out _).mono ?_; rintro e w' ⟨rfl, rfl⟩)
        (try simp only [Exit.inBlock, Exit.then])
        refine bodyPost_ret (v := .tuple #[.agg #[.int .i64 q, .int .i64 p, .int .i64 b, .int .i64 d, .int .i64 0], .bool false]) ?_ rfl ⟨by rw [E.out.1, E.out.2]; first | done | rfl, ?_⟩
        · rw [results_cell_tmp rfl]; go_simp
        · repeat (first | (with_reducible exact HB.out) | (with_reducible exact bel1 _) | refine Below.setCell ?_ (by dsimp only; omega) _)
      have hm1 : (m == 0) = false := by simp [hm]
      by_cases hd : now < d
      · have E := hide (NO.out (by omega))
        clear hg NO hn
        go_wp2_with (go_at_call 32; refine (HN.out _).mono ?_; rintro e w' ⟨rfl, rfl⟩)
        (try simp only [Exit.inBlock, Exit.then])
        refine bodyPost_ret (v := .tuple #[.agg #[.int .i64 q, .int .i64 p, .int .i64 b, .int .i64 d, .int .i64 m], .bool false]) ?_ rfl ⟨by rw [E.out.1, E.out.2]; first | done | rfl, ?_⟩
        · rw [results_cell_tmp rfl]; go_simp
        · repeat (first | (with_reducible exact HB.out) | (with_reducible exact bel1 _) | refine Below.setCell ?_ (by dsimp only; omega) _)
      have HU := hide (fun w => rup_any now d p w)
      have hgd : Tk.good d = true := by unfold Tk.good; exact decide_eq_true ⟨g6, g7⟩
      have hpp : period p = true := by unfold period; exact decide_eq_true (by omega)
      cases hx : Tk.good (nextOf now d p) with
      | false =>
        have E := hide (NO.out (by rw [hx]; simp))
        have eb : upB now d p = false := by unfold upB; rw [hx]; simp
        rw [eb] at HU
        clear hg NO hn eb hx hgd hpp
        go_wp2_with (first | (go_at_call 32; refine (HN.out _).mono ?_; rintro e w' ⟨rfl, rfl⟩) | (go_at_call 34; refine (HU.out _).mono ?_; rintro e w' ⟨rfl, rfl⟩))
        (try simp only [Exit.inBlock, Exit.then])
        refine bodyPost_ret (v := .tuple #[.agg #[.int .i64 q, .int .i64 p, .int .i64 b, .int .i64 d, .int .i64 m], .bool false]) ?_ rfl ⟨by rw [E.out.1, E.out.2]; first | done | rfl, ?_⟩
        · rw [results_cell_tmp rfl]; go_simp
        · repeat (first | (with_reducible exact HB.out) | (with_reducible exact bel1 _) | refine Below.setCell ?_ (by dsimp only; omega) _)
      | true =>
        have ht : turnB ⟨q, p, b, d, m⟩ now = true := turnB_iff.2 ⟨hg, hn, hm, by show d ≤ now; omega, hx⟩
        have E := hide (And.intro (turn_y ht) ht)
        have eb : upB now d p = true := by unfold upB; rw [hn, hgd, hpp, hx]; rfl
        have ev : upV now d p = nextOf now d p := by unfold upV; rw [if_pos eb]
        rw [eb, ev] at HU
        simp only at E
        clear hg NO hn eb ev hx hgd hpp ht
        generalize nextOf now d p = nd at *
        go_wp2_with (first | (go_at_call 32; refine (HN.out _).mono ?_; rintro e w' ⟨rfl, rfl⟩) | (go_at_call 34; refine (HU.out _).mono ?_; rintro e w' ⟨rfl, rfl⟩))
        (try simp only [Exit.inBlock, Exit.then])
        refine bodyPost_ret (v := .tuple #[.agg #[.int .i64 q, .int .i64 p, .int .i64 q, .int .i64 nd, .int .i64 1], .bool true]) ?_ rfl ⟨by rw [E.out.1, E.out.2]; first | done | rfl, ?_⟩
        · rw [results_cell_tmp rfl]; go_simp
        · repeat (first | (with_reducible exact HB.out) | (with_reducible exact bel1 _) | refine Below.setCell ?_ (by dsimp only; omega) _)
end Go.Proofs.Ytegfhndcimkjoaa.Cb
