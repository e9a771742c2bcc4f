/- cbs: kept, Wake; awake. -/
import Derived.Test.YtegfhndcimkjoaaCcW
import Derived.Deep.RegionHeld3
namespace Go.Proofs.Ytegfhndcimkjoaa.Cb
open Go.Proofs.Ytegfhndcimkjoaa.Tk Go.RowKit
set_option linter.unusedVariables false
set_option linter.unusedSimpArgs false
set_option maxHeartbeats 8000000 in
theorem kept_any (q p b d m now : Int) (hg : sgood ⟨q, p, b, d, m⟩ = true) (hn : Tk.good now = true) (hd : now < d) (W : World) : Calls Try.prog 29 #[.agg #[.int .i64 q, .int .i64 p, .int .i64 b, .int .i64 d, .int .i64 m], .int .i64 now] W fun e w' => e = .returned (.int .i64 (cutB ⟨q, p, b, d, m⟩ now)) ∧ Nx W w' := by
  have HB := hide (bel1 (W := W) (.cells #[.int .i64 q, .int .i64 p, .int .i64 b, .int .i64 d, .int .i64 m] 24))
  obtain ⟨⟨g1, g2, g3⟩, ⟨g4, g5⟩, ⟨g6, g7⟩, _, _⟩ := sgd hg
  obtain ⟨n1, n2⟩ := good_t hn
  simp only at g1 g2 g3 g4 g5 g6 g7
  have ecut : cutB ⟨q, p, b, d, m⟩ now = if leftX ⟨q, p, b, d, m⟩ now * q < b * p then leftX ⟨q, p, b, d, m⟩ now * q / p else b := rfl
  have ex : leftX ⟨q, p, b, d, m⟩ now = min (d - now) p := rfl
  obtain ⟨_, _, _, ⟨k3, k4⟩, k5, k6, k7, k8⟩ := cut_facts (now := now) hg hd
  simp only at k5 k6 k7 k8
  obtain ⟨X, hX⟩ : ∃ X, leftX ⟨q, p, b, d, m⟩ now = X := ⟨_, rfl⟩
  rw [hX] at ecut ex k3 k4 k5 k6
  clear hX hg hn
  have HC := hide (fun w => cmp_any b X q p w)
  have HS := hide (fun w => share_any X q p w)
  have ec : cmpB b X q p = true := by unfold cmpB amount period; simp only [Bool.and_eq_true, decide_eq_true_eq]; omega
  have es : shareB X q p = true := by unfold shareB amount period; simp only [Bool.and_eq_true, decide_eq_true_eq]; omega
  have vc : cmpV b X q p = cmpOf (b * p) (q * X) := by unfold cmpV; rw [if_pos ec]
  have vs : shareV X q p = X * q / p := by unfold shareV; rw [if_pos es]
  have em : q * X = X * q := Int.mul_comm _ _
  rw [ec, vc, em] at HC
  rw [es, vs] at HS
  clear ec es vc vs em
  have eX : Hid (X = if p < d - now then p else d - now) := hide (by split <;> omega)
  have HCC : Hid ((X * q < b * p → cmpOf (b * p) (X * q) = 1) ∧ (¬ X * q < b * p → cmpOf (b * p) (X * q) ≤ 0 ∧ -1 ≤ cmpOf (b * p) (X * q))) := hide (by unfold cmpOf; constructor <;> intro h <;> (repeat' split) <;> omega)
  by_cases hx : p < d - now
  · rw [if_pos hx] at eX
    by_cases hc : X * q < b * p
    · rw [if_pos hc] at ecut
      have e1 := HCC.out.1 hc
      rw [e1] at HC
      have hdv := div_bd k5 (show 1 ≤ p by omega)
      generalize X * q / p = Y at *
      clear e1 hc HCC k5 k6 k7 k8
      have eX' := eX.out
      subst eX'
      have E := hide ecut
      clear ecut ex eX
      go_enter Try.func29, Try.ntmps29
      go_wp2_with (first | (go_at_call 36; refine (HC.out _).mono ?_; rintro e w' ⟨rfl, rfl⟩) | (go_at_call 37; refine (HS.out _).mono ?_; rintro e w' ⟨rfl, rfl⟩))
      go_ret
      exact ⟨by rw [E.out]; rfl, HB.out⟩
    · rw [if_neg hc] at ecut
      obtain ⟨e1, e2⟩ := HCC.out.2 hc
      generalize cmpOf (b * p) (X * q) = Z at *
      clear hc HCC k5 k6 k7 k8
      have eX' := eX.out
      subst eX'
      have E := hide ecut
      clear ecut ex eX
      go_enter Try.func29, Try.ntmps29
      go_wp2_with (first | (go_at_call 36; refine (HC.out _).mono ?_; rintro e w' ⟨rfl, rfl⟩) | (go_at_call 37; refine (HS.out _).mono ?_; rintro e w' ⟨rfl, rfl⟩))
      go_ret
      exact ⟨by rw [E.out]; rfl, HB.out⟩
  · rw [if_neg hx] at eX
    by_cases hc : X * q < b * p
    · rw [if_pos hc] at ecut
      have e1 := HCC.out.1 hc
      rw [e1] at HC
      have hdv := div_bd k5 (show 1 ≤ p by omega)
      generalize X * q / p = Y at *
      clear e1 hc HCC k5 k6 k7 k8
      have eX' := eX.out
      subst eX'
      have E := hide ecut
      clear ecut ex eX
      go_enter Try.func29, Try.ntmps29
      go_wp2_with (first | (go_at_call 36; refine (HC.out _).mono ?_; rintro e w' ⟨rfl, rfl⟩) | (go_at_call 37; refine (HS.out _).mono ?_; rintro e w' ⟨rfl, rfl⟩))
      go_ret
      exact ⟨by rw [E.out]; rfl, HB.out⟩
    · rw [if_neg hc] at ecut
      obtain ⟨e1, e2⟩ := HCC.out.2 hc
      generalize cmpOf (b * p) (X * q) = Z at *
      clear hc HCC k5 k6 k7 k8
      have eX' := eX.out
      subst eX'
      have E := hide ecut
      clear ecut ex eX
      go_enter Try.func29, Try.ntmps29
      go_wp2_with (first | (go_at_call 36; refine (HC.out _).mono ?_; rintro e w' ⟨rfl, rfl⟩) | (go_at_call 37; refine (HS.out _).mono ?_; rintro e w' ⟨rfl, rfl⟩))
      go_ret
      exact ⟨by rw [E.out]; rfl, HB.out⟩
set_option maxHeartbeats 8000000 in
theorem wake_any (s : Sv) (now : Int) (W : World) : Calls Try.prog 11 #[svv s, .int .i64 now] W fun e w' => e = .returned (.tuple #[svv (wake s now), .int .i64 (wakeE s now)]) ∧ Nx W w' := by
  obtain ⟨q, p, b, d, m⟩ := s
  have HB0 := hide (bel2 (W := W) (.cells #[.int .i64 q, .int .i64 p, .int .i64 b, .int .i64 d, .int .i64 m] 24) (.cells #[.int .i64 0, .int .i64 0, .int .i64 0, .int .i64 0, .int .i64 0] 24))
  have HG := hide (good_server ⟨q, p, b, d, m⟩ ((W.alloc (.cells #[.int .i64 q, .int .i64 p, .int .i64 b, .int .i64 d, .int .i64 m] 24)).alloc (.cells #[.int .i64 0, .int .i64 0, .int .i64 0, .int .i64 0, .int .i64 0] 24)))
  go_enter Try.func11, Try.ntmps11
  go_wp2_with fail
  refine HG.out.mono ?_
  rintro e w1 ⟨rfl, hb⟩
  obtain ⟨r0, r1⟩ := box2 hb
  have HB := hide (HB0.out.trans (Below.mono hb (by simp; omega)))
  obtain ⟨x0, x1, x2, x3, x4⟩ := row5 r0
  obtain ⟨c0, c1, c2, c3, c4⟩ := row5 r1
  have y0 := row_free r0 0
  have z0 := row_free r1 0
  have y1 := row_free r0 1
  have z1 := row_free r1 1
  have y2 := row_free r0 2
  have z2 := row_free r1 2
  have y3 := row_free r0 3
  have z3 := row_free r1 3
  have y4 := row_free r0 4
  have z4 := row_free r1 4
  have R0 := hide r0
  have R1 := hide r1
  clear hb HB0 HG r0 r1
  have HN := hide (fun w => good_any now w)
  cases hg : sgood ⟨q, p, b, d, m⟩ with
  | false =>
    have E := hide (wake_1 (s := ⟨q, p, b, d, m⟩) (now := now) (by rw [hg]; rfl)).symm
    clear hg
    go_wp2
    (try simp only [Exit.inBlock, Exit.then])
    refine bodyPost_ret (v := .tuple #[.agg #[.int .i64 q, .int .i64 p, .int .i64 b, .int .i64 d, .int .i64 m], .int .i64 1]) ?_ rfl ⟨by rw [E.out.1, E.out.2]; first | done | rfl, ?_⟩
    · rw [results_cell_tmp rfl]; go_simp
    · repeat (first | (with_reducible exact HB.out) | (with_reducible exact bel1 _) | refine Below.setCell ?_ (by dsimp only; omega) _)
  | true =>
    obtain ⟨⟨g1, g2, g3⟩, ⟨g4, g5⟩, ⟨g6, g7⟩, _, _⟩ := sgd hg
    simp only at g1 g2 g3 g4 g5 g6 g7
    cases hn : Tk.good now with
    | false =>
      have E := hide (wake_1 (s := ⟨q, p, b, d, m⟩) (now := now) (by rw [hn, Bool.and_false])).symm
      rw [hn] at HN
      clear hg hn
      go_wp2_with (go_at_call 27; refine (HN.out _).mono ?_; rintro e w' ⟨rfl, rfl⟩)
      (try simp only [Exit.inBlock, Exit.then])
      refine bodyPost_ret (v := .tuple #[.agg #[.int .i64 q, .int .i64 p, .int .i64 b, .int .i64 d, .int .i64 m], .int .i64 1]) ?_ rfl ⟨by rw [E.out.1, E.out.2]; first | done | rfl, ?_⟩
      · rw [results_cell_tmp rfl]; go_simp
      · repeat (first | (with_reducible exact HB.out) | (with_reducible exact bel1 _) | refine Below.setCell ?_ (by dsimp only; omega) _)
    | true =>
      obtain ⟨hn0, hn1⟩ := good_t hn
      rw [hn] at HN
      by_cases hm : m = 0
      rotate_left
      · have E := hide (wake_5 hg hn hm).symm
        have h4 : (m == 0) = false := by simp [hm]
        have h5 : (m != 0) = true := by simp [hm]
        clear hg hn
        go_wp2_with (go_at_call 27; refine (HN.out _).mono ?_; rintro e w' ⟨rfl, rfl⟩)
        (try simp only [Exit.inBlock, Exit.then])
        refine bodyPost_ret (v := .tuple #[.agg #[.int .i64 q, .int .i64 p, .int .i64 b, .int .i64 d, .int .i64 m], .int .i64 5]) ?_ rfl ⟨by rw [E.out.1, E.out.2]; first | done | rfl, ?_⟩
        · rw [results_cell_tmp rfl]; go_simp
        · repeat (first | (with_reducible exact HB.out) | (with_reducible exact bel1 _) | refine Below.setCell ?_ (by dsimp only; omega) _)
      subst hm
      by_cases hd : d ≤ now
      · have HA := hide (fun w => add_any now p w)
        have hgp : Tk.good p = true := by unfold Tk.good; exact decide_eq_true ⟨by omega, by omega⟩
        by_cases ho : now + p ≤ 4611686018427387904
        · have E := hide (wake_0a hg hn rfl hd ho).symm
          simp only at E
          have eb : addB now p = true := by unfold addB; rw [hn, hgp, decide_eq_true (by omega)]; rfl
          have ev : addV now p = now + p := by unfold addV; rw [if_pos eb]
          rw [eb, ev] at HA
          clear hg hn eb ev hgp
          go_wp2_with (first | (go_at_call 27; refine (HN.out _).mono ?_; rintro e w9 ⟨rfl, hw9⟩; rw [hw9]; clear hw9) | (go_at_call 30; refine (HA.out _).mono ?_; rintro e w9 ⟨rfl, hw9⟩; rw [hw9]; clear hw9))
          have K1 : (w1.setCell ⟨W.heap.size, 3, none⟩ (.int .i64 (now + p))).heap[W.heap.size + 1]? = some (.cells #[.int .i64 0, .int .i64 0, .int .i64 0, .int .i64 0, .int .i64 0] 24 (0, 0)) := (heap_setCell_other _ _ _ _ (by dsimp only; omega)).trans R1.out
          have HB := hide (HB.out.setCell (p := ⟨W.heap.size, 3, none⟩) (by dsimp only; omega) (.int .i64 (now + p)))
          clear x0 x1 x2 x3 x4 c0 c1 c2 c3 c4 y0 y1 y2 y3 y4 z0 z1 z2 z3 z4 R0 R1
          generalize w1.setCell ⟨W.heap.size, 3, none⟩ (.int .i64 (now + p)) = w2 at *
          refine (rouse_any q p b (now + p) 0 q 1 (modeB_1 (by omega)) w2).mono ?_
          rintro e w3 ⟨rfl, hb⟩
          have K3 := (hb.block _ (Array.getElem?_eq_some_iff.1 K1).1).trans K1
          have HB := hide (HB.out.trans (Below.mono hb HB.out.size))
          clear hb K1
          obtain ⟨c0, c1, c2, c3, c4⟩ := row5 K3
          have z0 := row_free K3 0
          have z1 := row_free K3 1
          have z2 := row_free K3 2
          have z3 := row_free K3 3
          have z4 := row_free K3 4
          clear K3
          go_wp2
          (try simp only [Exit.inBlock, Exit.then])
          refine bodyPost_ret (v := .tuple #[.agg #[.int .i64 q, .int .i64 p, .int .i64 q, .int .i64 (now + p), .int .i64 1], .int .i64 0]) ?_ rfl ⟨by rw [E.out.1, E.out.2]; first | done | rfl, ?_⟩
          · rw [results_cell_tmp rfl]; go_simp
          · repeat (first | (with_reducible exact HB.out) | (with_reducible exact bel1 _) | refine Below.setCell ?_ (by dsimp only; omega) _)
        · have E := hide (wake_6 hg hn rfl hd ho).symm
          have eb : addB now p = false := by unfold addB; rw [decide_eq_false (by omega), Bool.and_false]
          rw [eb] at HA
          clear hg hn eb hgp
          go_wp2_with (first | (go_at_call 27; refine (HN.out _).mono ?_; rintro e w9 ⟨rfl, hw9⟩; rw [hw9]; clear hw9) | (go_at_call 30; refine (HA.out _).mono ?_; rintro e w9 ⟨rfl, hw9⟩; rw [hw9]; clear hw9))
          (try simp only [Exit.inBlock, Exit.then])
          refine bodyPost_ret (v := .tuple #[.agg #[.int .i64 q, .int .i64 p, .int .i64 b, .int .i64 d, .int .i64 0], .int .i64 6]) ?_ rfl ⟨by rw [E.out.1, E.out.2]; first | done | rfl, ?_⟩
          · rw [results_cell_tmp rfl]; go_simp
          · repeat (first | (with_reducible exact HB.out) | (with_reducible exact bel1 _) | refine Below.setCell ?_ (by dsimp only; omega) _)
      · have E := hide (wake_0b hg hn rfl (show now < d by omega)).symm
        have HK := hide (fun w => kept_any q p b d 0 now hg hn (by omega) w)
        obtain ⟨C, hC⟩ : ∃ C, cutB ⟨q, p, b, d, 0⟩ now = C := ⟨_, rfl⟩
        obtain ⟨k, hk⟩ : ∃ k, modeB C = k := ⟨_, rfl⟩
        simp only [hC, hk] at E
        rw [hC] at HK
        have HZ := hide (fun w => rouse_any q p b d 0 C k hk w)
        have RB : Hid (∀ w2, Nx w1.drew w2 → w2.heap[W.heap.size]? = some (.cells #[.int .i64 q, .int .i64 p, .int .i64 b, .int .i64 d, .int .i64 0] 24 (0, 0))) := hide (fun w2 h => (h.block _ (Array.getElem?_eq_some_iff.1 R0.out).1).trans R0.out)
        have HBX : Hid (∀ w2, Nx w1.drew w2 → Below W.heap.size W w2 ∧ w2.heap[W.heap.size + 1]? = some (.cells #[.int .i64 0, .int .i64 0, .int .i64 0, .int .i64 0, .int .i64 0] 24 (0, 0))) := hide (fun w2 h => ⟨(bel_drew HB.out).trans (Below.mono h HB.out.size), (h.block _ (Array.getElem?_eq_some_iff.1 R1.out).1).trans R1.out⟩)
        clear hg hn hC hk
        go_upto_region 6 with (go_at_call 27; refine (HN.out _).mono ?_; rintro e w9 ⟨rfl, hw9⟩; rw [hw9]; clear hw9)
        clear c0 c1 c2 c3 c4 y0 y1 y2 y3 y4 z0 z1 z2 z3 z4 R0 R1 HN HB
        go_region_with (first | (go_at_call 29; refine (HK.out _).mono ?_; rintro e w2 ⟨rfl, hb⟩; obtain ⟨x0, x1, x2, x3, x4⟩ := row5 (RB.out w2 hb)) | (go_at_call 28; refine (HZ.out _).mono ?_; rintro e w3 ⟨rfl, hb3⟩; obtain ⟨x0, x1, x2, x3, x4⟩ := row5 (RB.out w3 (Nx.trans hb hb3)); obtain ⟨c0, c1, c2, c3, c4⟩ := row5 (HBX.out w3 (Nx.trans hb hb3)).2; have z0 := row_free (HBX.out w3 (Nx.trans hb hb3)).2 0; have z1 := row_free (HBX.out w3 (Nx.trans hb hb3)).2 1; have z2 := row_free (HBX.out w3 (Nx.trans hb hb3)).2 2; have z3 := row_free (HBX.out w3 (Nx.trans hb hb3)).2 3; have z4 := row_free (HBX.out w3 (Nx.trans hb hb3)).2 4))
        all_goals
          have HB := hide (HBX.out w3 (Nx.trans hb hb3)).1
          go_wp2
          (try simp only [Exit.inBlock, Exit.then])
          refine bodyPost_ret (v := .tuple #[.agg #[.int .i64 q, .int .i64 p, .int .i64 C, .int .i64 d, .int .i64 k], .int .i64 0]) ?_ rfl ⟨by rw [E.out.1, E.out.2]; first | done | rfl, ?_⟩
          · rw [results_cell_tmp rfl]; go_simp
          · repeat (first | (with_reducible exact HB.out) | (with_reducible exact bel1 _) | refine Below.setCell ?_ (by dsimp only; omega) _)
theorem goodC : GoodC := fun s W => good_server s W
theorem newC : NewC := fun q p W => new_any q p W
theorem wakeC : WakeC := fun s now W => wake_any s now W
theorem useC : UseC := fun s n W => use_any s n W
theorem idleC : IdleC := fun s W => idle_any s W
theorem waitC : WaitC := fun s W => wait_any s W
theorem turnC : TurnC := fun s now W => turn_any s now W
theorem lessC : LessC := fun s t W => less_any s t W
theorem awakeC : AwakeC := awake_of (hide newC) (hide wakeC) (hide goodC)
end Go.Proofs.Ytegfhndcimkjoaa.Cb
