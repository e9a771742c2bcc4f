/- The reference's Wake. -/
import Derived.Test.YtegfhndcimkjoaaCbRw
namespace Go.Proofs.Ytegfhndcimkjoaa.Cb
open Go.Proofs.Ytegfhndcimkjoaa.Tk Go.RowKit
set_option linter.unusedVariables false
set_option linter.unusedSimpArgs false
set_option maxHeartbeats 8000000 in
theorem rwake_any (s : Sv) (now : Int) (W : World) : Calls Try.prog 19 #[svv s, .int .i64 now] W fun e w' => e = .returned (.tuple #[svv (wake s now), .int .i64 (wakeE s now)]) ∧ Nx W w' := by
  obtain ⟨q, p, b, d, m⟩ := s
  have HB0 := hide (bel2 (W := W) (.cells #[.int .i64 q, .int .i64 p, .int .i64 b, .int .i64 d, .int .i64 m] 34) (.cells #[.int .i64 0, .int .i64 0, .int .i64 0, .int .i64 0, .int .i64 0] 34))
  have HG := hide (rgood_server ⟨q, p, b, d, m⟩ ((W.alloc (.cells #[.int .i64 q, .int .i64 p, .int .i64 b, .int .i64 d, .int .i64 m] 34)).alloc (.cells #[.int .i64 0, .int .i64 0, .int .i64 0, .int .i64 0, .int .i64 0] 34)))
  go_enter Try.func19, Try.ntmps19
  go_wp2_with fail
  refine HG.out.mono ?_
  rintro e w1 ⟨rfl, hb⟩
  obtain ⟨r0, r1⟩ := box2 hb
  have HB := hide (HB0.out.trans (Below.mono hb (by simp; omega)))
  obtain ⟨x0, x1, x2, x3, x4⟩ := row5 r0
  obtain ⟨c0, c1, c2, c3, c4⟩ := row5 r1
  have y0 := row_free r0 0
  have z0 := row_free r1 0
  have y1 := row_free r0 1
  have z1 := row_free r1 1
  have y2 := row_free r0 2
  have z2 := row_free r1 2
  have y3 := row_free r0 3
  have z3 := row_free r1 3
  have y4 := row_free r0 4
  have z4 := row_free r1 4
  have R0 := hide r0
  have R1 := hide r1
  clear hb HB0 HG r0 r1
  have HN := hide (fun w => rgood_any now w)
  cases hg : sgood ⟨q, p, b, d, m⟩ with
  | false =>
    have E := hide (wake_1 (s := ⟨q, p, b, d, m⟩) (now := now) (by rw [hg]; rfl)).symm
    clear hg
    go_wp2
    (try simp only [Exit.inBlock, Exit.then])
    refine bodyPost_ret (v := .tuple #[.agg #[.int .i64 q, .int .i64 p, .int .i64 b, .int .i64 d, .int .i64 m], .int .i64 1]) ?_ rfl ⟨by rw [E.out.1, E.out.2]; first | done | rfl, ?_⟩
    · rw [results_cell_tmp rfl]; go_simp
    · repeat (first | (with_reducible exact HB.out) | (with_reducible exact bel1 _) | refine Below.setCell ?_ (by dsimp only; omega) _)
  | true =>
    obtain ⟨⟨g1, g2, g3⟩, ⟨g4, g5⟩, ⟨g6, g7⟩, _, _⟩ := sg hg
    simp only at g1 g2 g3 g4 g5 g6 g7
    cases hn : Tk.good now with
    | false =>
      have E := hide (wake_1 (s := ⟨q, p, b, d, m⟩) (now := now) (by rw [hn, Bool.and_false])).symm
      rw [hn] at HN
      clear hg hn
      go_wp2_with (go_at_call 32; refine (HN.out _).mono ?_; rintro e w' ⟨rfl, rfl⟩)
      (try simp only [Exit.inBlock, Exit.then])
      refine bodyPost_ret (v := .tuple #[.agg #[.int .i64 q, .int .i64 p, .int .i64 b, .int .i64 d, .int .i64 m], .int .i64 1]) ?_ rfl ⟨by rw [E.out.1, E.out.2]; first | done | rfl, ?_⟩
      · rw [results_cell_tmp rfl]; go_simp
      · repeat (first | (with_reducible exact HB.out) | (with_reducible exact bel1 _) | refine Below.setCell ?_ (by dsimp only; omega) _)
    | true =>
      obtain ⟨hn0, hn1⟩ := good_t hn
      rw [hn] at HN
      by_cases hm : m = 0
      rotate_left
      · have E := hide (wake_5 hg hn hm).symm
        have h4 : (m == 0) = false := by simp [hm]
        have h5 : (m != 0) = true := by simp [hm]
        clear hg hn
        go_wp2_with (go_at_call 32; refine (HN.out _).mono ?_; rintro e w' ⟨rfl, rfl⟩)
        (try simp only [Exit.inBlock, Exit.then])
        refine bodyPost_ret (v := .tuple #[.agg #[.int .i64 q, .int .i64 p, .int .i64 b, .int .i64 d, .int .i64 m], .int .i64 5]) ?_ rfl ⟨by rw [E.out.1, E.out.2]; first | done | rfl, ?_⟩
        · rw [results_cell_tmp rfl]; go_simp
        · repeat (first | (with_reducible exact HB.out) | (with_reducible exact bel1 _) | refine Below.setCell ?_ (by dsimp only; omega) _)
      subst hm
      have ST : Hid (∀ o, (((w1.alloc o).heap[W.heap.size]? = some (.cells #[.int .i64 q, .int .i64 p, .int .i64 b, .int .i64 d, .int .i64 0] 34) ∧ (w1.alloc o).heap[W.heap.size + 1]? = some (.cells #[.int .i64 0, .int .i64 0, .int .i64 0, .int .i64 0, .int .i64 0] 34)) ∧ Below W.heap.size W (w1.alloc o)) ∧ W.heap.size + 1 < w1.heap.size) := hide (fun o => by
        have l1 := (Array.getElem?_eq_some_iff.1 R1.out).1
        exact ⟨⟨⟨(heap_alloc_old _ _ (by omega)).trans R0.out, (heap_alloc_old _ _ l1).trans R1.out⟩, HB.out.alloc HB.out.size o⟩, l1⟩)
      go_upto_region 6 with (go_at_call 32; refine (HN.out _).mono ?_; rintro e w9 ⟨rfl, hw9⟩; rw [hw9]; clear hw9)
      clear x0 x1 x2 x3 x4 c0 c1 c2 c3 c4 y0 y1 y2 y3 y4 z0 z1 z2 z3 z4 R0 R1
      obtain ⟨⟨⟨r0, r1⟩, hb2⟩, hlt⟩ := ST.out (.cells #[.int .i64 q, .int .i64 p, .int .i64 b, .int .i64 d, .int .i64 0] 34)
      have r2 := heap_alloc_new w1 (.cells #[.int .i64 q, .int .i64 p, .int .i64 b, .int .i64 d, .int .i64 0] 34)
      clear HB ST
      have HB := hide hb2
      clear hb2
      generalize w1.alloc (.cells #[.int .i64 q, .int .i64 p, .int .i64 b, .int .i64 d, .int .i64 0] 34) = w2 at *
      obtain ⟨gR, hgR⟩ : ∃ g, g = w1.heap.size := ⟨_, rfl⟩
      rw [← hgR] at r2 hlt ⊢
      have hgb : W.heap.size ≤ gR := by omega
      have ne1 : gR ≠ W.heap.size := by omega
      have ne2 : gR ≠ W.heap.size + 1 := by omega
      clear hgR
      obtain ⟨x0, x1, x2, x3, x4⟩ := row5 r0
      obtain ⟨c0, c1, c2, c3, c4⟩ := row5 r1
      obtain ⟨v0, v1, v2, v3, v4⟩ := row5 r2
      have z0 := row_free r1 0
      have u0 := row_free r2 0
      have z1 := row_free r1 1
      have u1 := row_free r2 1
      have z2 := row_free r1 2
      have u2 := row_free r2 2
      have z3 := row_free r1 3
      have u3 := row_free r2 3
      have z4 := row_free r1 4
      have u4 := row_free r2 4
      have Q1 := hide r1
      have Q2 := hide r2
      clear r0 r1 r2
      by_cases hd : d ≤ now
      · have HA := hide (fun w => radd_any now p w)
        have hgp : Tk.good p = true := by unfold Tk.good; exact decide_eq_true ⟨by omega, by omega⟩
        by_cases ho : now + p ≤ 4611686018427387904
        · have E := hide (wake_0a hg hn rfl hd ho).symm
          simp only at E
          have eb : addB now p = true := by unfold addB; rw [hn, hgp, decide_eq_true (by omega)]; rfl
          have ev : addV now p = now + p := by unfold addV; rw [if_pos eb]
          rw [eb, ev] at HA
          have hq : (q == 0) = false := by simp; omega
          clear hg hn eb ev hgp
          go_wp2_with (go_at_call 33; refine (HA.out _).mono ?_; rintro e w' ⟨rfl, rfl⟩)
          (try simp only [Exit.inBlock, Exit.then])
          refine bodyPost_ret (v := .tuple #[.agg #[.int .i64 q, .int .i64 p, .int .i64 q, .int .i64 (now + p), .int .i64 1], .int .i64 0]) ?_ rfl ⟨by rw [E.out.1, E.out.2]; first | done | rfl, ?_⟩
          · rw [results_cell_tmp rfl]; go_simp
          · repeat (first | (with_reducible exact HB.out) | (with_reducible exact bel1 _) | refine Below.setCell ?_ (by dsimp only; omega) _)
        · have E := hide (wake_6 hg hn rfl hd ho).symm
          have eb : addB now p = false := by unfold addB; rw [decide_eq_false (by omega), Bool.and_false]
          rw [eb] at HA
          clear hg hn eb hgp
          go_wp2_with (go_at_call 33; refine (HA.out _).mono ?_; rintro e w' ⟨rfl, rfl⟩)
          (try simp only [Exit.inBlock, Exit.then])
          refine bodyPost_ret (v := .tuple #[.agg #[.int .i64 q, .int .i64 p, .int .i64 b, .int .i64 d, .int .i64 0], .int .i64 6]) ?_ rfl ⟨by rw [E.out.1, E.out.2]; first | done | rfl, ?_⟩
          · rw [results_cell_tmp rfl]; go_simp
          · repeat (first | (with_reducible exact HB.out) | (with_reducible exact bel1 _) | refine Below.setCell ?_ (by dsimp only; omega) _)
      · have E := hide (wake_0b hg hn rfl (show now < d by omega)).symm
        obtain ⟨⟨k1, k2⟩, _, _, ⟨k3, k4⟩, k5, k6, k7, k8⟩ := cut_facts (now := now) hg (show now < d by omega)
        have ecut : cutB ⟨q, p, b, d, 0⟩ now = if leftX ⟨q, p, b, d, 0⟩ now * q < b * p then leftX ⟨q, p, b, d, 0⟩ now * q / p else b := rfl
        have ex : leftX ⟨q, p, b, d, 0⟩ now = min (d - now) p := rfl
        simp only at E k2 k3 k4 k5 k6 k7 k8
        clear hg hn
        by_cases hx : p < d - now
        · have ex2 : leftX ⟨q, p, b, d, 0⟩ now = p := by rw [ex]; omega
          rw [ex2] at ecut k3 k4 k5 k6
          clear ex ex2
          have hc : ¬ p * q < b * p := by
            have := Int.mul_le_mul_of_nonneg_right g5 (show 0 ≤ p by omega)
            rw [Int.mul_comm p q]; omega
          rw [if_neg hc] at ecut
          by_cases hy : b = 0
          · have em : modeB b = 2 := by unfold modeB; rw [if_pos hy]
            rw [ecut, em] at E
            clear ecut em
            subst hy
            go_wp2
            (try simp only [Exit.inBlock, Exit.then])
            refine bodyPost_ret (v := .tuple #[.agg #[.int .i64 q, .int .i64 p, .int .i64 0, .int .i64 d, .int .i64 2], .int .i64 0]) ?_ rfl ⟨by rw [E.out.1, E.out.2]; first | done | rfl, ?_⟩
            · rw [results_cell_tmp rfl]; go_simp
            · repeat (first | (with_reducible exact HB.out) | (with_reducible exact bel1 _) | refine Below.setCell ?_ (by dsimp only; omega) _)
          · have em : modeB b = 1 := by unfold modeB; rw [if_neg hy]
            rw [ecut, em] at E
            have hy2 : (b == 0) = false := by simp [hy]
            clear ecut em
            go_wp2
            (try simp only [Exit.inBlock, Exit.then])
            refine bodyPost_ret (v := .tuple #[.agg #[.int .i64 q, .int .i64 p, .int .i64 b, .int .i64 d, .int .i64 1], .int .i64 0]) ?_ rfl ⟨by rw [E.out.1, E.out.2]; first | done | rfl, ?_⟩
            · rw [results_cell_tmp rfl]; go_simp
            · repeat (first | (with_reducible exact HB.out) | (with_reducible exact bel1 _) | refine Below.setCell ?_ (by dsimp only; omega) _)
        · have ex2 : leftX ⟨q, p, b, d, 0⟩ now = d - now := by rw [ex]; omega
          rw [ex2] at ecut k3 k4 k5 k6
          clear ex ex2
          by_cases hc : (d - now) * q < b * p
          · rw [if_pos hc] at ecut
            have hdv := div_bd k5 (show 1 ≤ p by omega)
            have hpd : ¬ p = 0 := by omega
            generalize hY : (d - now) * q / p = Y at *
            by_cases hy : Y = 0
            · have em : modeB Y = 2 := by unfold modeB; rw [if_pos hy]
              rw [ecut, em] at E
              clear ecut em
              subst hy
              go_upto_region 18 with fail
              have r3 : ((w2.setCell ⟨gR, 2, none⟩ (.int .i64 0)).setCell ⟨gR, 4, none⟩ (.int .i64 1)).heap[gR]? = some (.cells #[.int .i64 q, .int .i64 p, .int .i64 0, .int .i64 d, .int .i64 1] 34) := by
                rw [heap_setCell_same _ gR 4 _ _ _ (heap_setCell_same _ gR 2 _ _ _ Q2.out)]; rfl
              have r4 : ((w2.setCell ⟨gR, 2, none⟩ (.int .i64 0)).setCell ⟨gR, 4, none⟩ (.int .i64 1)).heap[W.heap.size + 1]? = some (.cells #[.int .i64 0, .int .i64 0, .int .i64 0, .int .i64 0, .int .i64 0] 34) :=
                (heap_setCell_other _ _ _ _ (by dsimp only; omega)).trans ((heap_setCell_other _ _ _ _ (by dsimp only; omega)).trans Q1.out)
              have HB := hide ((HB.out.setCell (p := ⟨gR, 2, none⟩) (by dsimp only; omega) (.int .i64 0)).setCell (p := ⟨gR, 4, none⟩) (by dsimp only; omega) (.int .i64 1))
              clear x0 x1 x2 x3 x4 c0 c1 c2 c3 c4 v0 v1 v2 v3 v4 z0 z1 z2 z3 z4 u0 u1 u2 u3 u4 Q1 Q2
              generalize (w2.setCell ⟨gR, 2, none⟩ (.int .i64 0)).setCell ⟨gR, 4, none⟩ (.int .i64 1) = w3 at *
              obtain ⟨c0, c1, c2, c3, c4⟩ := row5 r4
              obtain ⟨v0, v1, v2, v3, v4⟩ := row5 r3
              have z0 := row_free r4 0
              have z1 := row_free r4 1
              have z2 := row_free r4 2
              have z3 := row_free r4 3
              have z4 := row_free r4 4
              have u4 := row_free r3 4
              clear r3 r4
              go_wp2
              (try simp only [Exit.inBlock, Exit.then])
              refine bodyPost_ret (v := .tuple #[.agg #[.int .i64 q, .int .i64 p, .int .i64 0, .int .i64 d, .int .i64 2], .int .i64 0]) ?_ rfl ⟨by rw [E.out.1, E.out.2]; first | done | rfl, ?_⟩
              · rw [results_cell_tmp rfl]; go_simp
              · repeat (first | (with_reducible exact HB.out) | (with_reducible exact bel1 _) | refine Below.setCell ?_ (by dsimp only; omega) _)
            · have em : modeB Y = 1 := by unfold modeB; rw [if_neg hy]
              rw [ecut, em] at E
              have hy2 : (Y == 0) = false := by simp [hy]
              clear ecut em
              go_wp2
              (try simp only [Exit.inBlock, Exit.then])
              refine bodyPost_ret (v := .tuple #[.agg #[.int .i64 q, .int .i64 p, .int .i64 Y, .int .i64 d, .int .i64 1], .int .i64 0]) ?_ rfl ⟨by rw [E.out.1, E.out.2]; first | done | rfl, ?_⟩
              · rw [results_cell_tmp rfl]; go_simp
              · repeat (first | (with_reducible exact HB.out) | (with_reducible exact bel1 _) | refine Below.setCell ?_ (by dsimp only; omega) _)
          · rw [if_neg hc] at ecut
            by_cases hy : b = 0
            · have em : modeB b = 2 := by unfold modeB; rw [if_pos hy]
              rw [ecut, em] at E
              clear ecut em
              subst hy
              go_wp2
              (try simp only [Exit.inBlock, Exit.then])
              refine bodyPost_ret (v := .tuple #[.agg #[.int .i64 q, .int .i64 p, .int .i64 0, .int .i64 d, .int .i64 2], .int .i64 0]) ?_ rfl ⟨by rw [E.out.1, E.out.2]; first | done | rfl, ?_⟩
              · rw [results_cell_tmp rfl]; go_simp
              · repeat (first | (with_reducible exact HB.out) | (with_reducible exact bel1 _) | refine Below.setCell ?_ (by dsimp only; omega) _)
            · have em : modeB b = 1 := by unfold modeB; rw [if_neg hy]
              rw [ecut, em] at E
              have hy2 : (b == 0) = false := by simp [hy]
              clear ecut em
              go_wp2
              (try simp only [Exit.inBlock, Exit.then])
              refine bodyPost_ret (v := .tuple #[.agg #[.int .i64 q, .int .i64 p, .int .i64 b, .int .i64 d, .int .i64 1], .int .i64 0]) ?_ rfl ⟨by rw [E.out.1, E.out.2]; first | done | rfl, ?_⟩
              · rw [results_cell_tmp rfl]; go_simp
              · repeat (first | (with_reducible exact HB.out) | (with_reducible exact bel1 _) | refine Below.setCell ?_ (by dsimp only; omega) _)
end Go.Proofs.Ytegfhndcimkjoaa.Cb
