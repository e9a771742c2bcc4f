/- Worst, First. -/
import Derived.Test.YtacbiiiadalocaaEdC5
import Derived.Test.YtacbiiiadalocaaEdRs
import Derived.Laws.ResultCell
namespace Go.Proofs.Ytacbiiiadalocaa.Ed
open Go.RowKit Go.Shelf Go.Lib Go.Proofs.Ytacbiiiadalocaa.Con
set_option linter.unusedVariables false
set_option linter.unusedSimpArgs false
attribute [local go_sem ↓] Go.wp_at_zero Go.wp_at_succ
set_option maxRecDepth 100000 in
set_option maxHeartbeats 8000000 in
theorem lfirst_of (HSP : Hid SplitC) : FirstC := by
  intro m L v W h hl
  have N0 := hide (Nx.alloc W (.cells #[.int .i64 0, .int .i64 0, .bool false] 24))
  have R0 := hide (heap_alloc_new W (.cells #[.int .i64 0, .int .i64 0, .bool false] 24))
  have HSW := hide (HSP.out _ v L (h.below N0.out) hl m)
  clear h
  obtain ⟨g, hgg⟩ : ∃ g, W.heap.size = g := ⟨_, rfl⟩
  have HGE : Hid (W.heap.size ≤ g) := hide (by omega)
  go_enter Try.func11, Try.ntmps11
  go_wp2_with fail
  refine HSW.out.mono ?_
  rintro e w2 ⟨v1, v2, R, S, rfl, h1, h2, hs, hb⟩
  rw [hgg] at R0
  (try rw [hgg])
  have R2 := hide (row_nx R0.out hb)
  have N2 := hide (Nx.trans N0.out hb)
  obtain ⟨p2, c2, rfl, hn, hm⟩ := h2.out.form
  have hsl : S.length ≤ 64 := (sp_len hs.out).2.1
  have HS := hs
  clear hb R0 N0 hgg HSW h1 hs
  obtain ⟨c0, c1, c2⟩ := row3 R2.out
  have z0 := row_free R2.out 0
  have z1 := row_free R2.out 1
  have z2 := row_free R2.out 2
  rcases Nat.eq_zero_or_pos S.length with h0 | h0
  · have E := hide (sp_first0 HS.out h0)
    have h0' : (S.length : Int) = 0 := by omega
    clear HS
    go_wp2
    (try simp only [Exit.inBlock, Exit.then])
    refine bodyPost_ret (v := .tuple #[.agg #[.int .i64 0, .int .i64 0, .bool false], .bool false]) ?_ rfl ⟨by rw [E.out]; first | done | rfl, ?_⟩
    · rw [results_cell_tmp rfl]; go_simp
    · repeat (first | (with_reducible exact N2.out) | refine Below.setCell ?_ HGE.out _)
  · have E := hide (sp_first HS.out h0)
    obtain ⟨b, o, rfl, hb, x0, x1, x2⟩ := h2.out.at h0
    rw [Nat.zero_mul, Nat.add_zero] at x0 x1 x2
    have h0' : ((S.length : Int) == 0) = false := by rw [beq_eq_false_iff_ne]; omega
    have h0'' : (0 : Int) < (S.length : Int) := by omega
    have EV : Hid (ev (val (firstO m L)) = .agg #[.int .i64 (at' S 0).1, .int .i64 (at' S 0).2.1, .bool (at' S 0).2.2] ∧ (firstO m L).isSome = true) := hide (by rw [E.out]; exact ⟨rfl, rfl⟩)
    clear HS E
    generalize (at' S 0).1 = y0 at *
    generalize (at' S 0).2.1 = y1 at *
    generalize (at' S 0).2.2 = y2 at *
    go_wp2
    (try simp only [Exit.inBlock, Exit.then])
    refine bodyPost_ret (v := .tuple #[.agg #[.int .i64 y0, .int .i64 y1, .bool y2], .bool true]) ?_ rfl ⟨by rw [EV.out.1, EV.out.2]; first | done | rfl, ?_⟩
    · rw [results_cell_tmp rfl]; go_simp
    · repeat (first | (with_reducible exact N2.out) | refine Below.setCell ?_ HGE.out _)
set_option maxRecDepth 100000 in
set_option maxHeartbeats 8000000 in
theorem lworst_of (HSP : Hid SplitC) : WorstC := by
  intro m L v W h hl
  have N0 := hide (Nx.alloc W (.cells #[.int .i64 0, .int .i64 0, .bool false] 24))
  have R0 := hide (heap_alloc_new W (.cells #[.int .i64 0, .int .i64 0, .bool false] 24))
  have HSW := hide (HSP.out _ v L (h.below N0.out) hl m)
  clear h
  obtain ⟨g, hgg⟩ : ∃ g, W.heap.size = g := ⟨_, rfl⟩
  have HGE : Hid (W.heap.size ≤ g) := hide (by omega)
  go_enter Try.func10, Try.ntmps10
  go_wp2_with fail
  refine HSW.out.mono ?_
  rintro e w2 ⟨v1, v2, R, S, rfl, h1, h2, hs, hb⟩
  rw [hgg] at R0
  (try rw [hgg])
  have R2 := hide (row_nx R0.out hb)
  have N2 := hide (Nx.trans N0.out hb)
  obtain ⟨p2, c2, rfl, hn, hm⟩ := h1.out.form
  have hsl : R.length ≤ 64 := (sp_len hs.out).1
  have HS := hs
  clear hb R0 N0 hgg HSW h2 hs
  obtain ⟨c0, c1, c2⟩ := row3 R2.out
  have z0 := row_free R2.out 0
  have z1 := row_free R2.out 1
  have z2 := row_free R2.out 2
  rcases Nat.eq_zero_or_pos R.length with h0 | h0
  · have E := hide (sp_worst0 HS.out h0)
    have h0' : (R.length : Int) = 0 := by omega
    clear HS
    go_wp2
    (try simp only [Exit.inBlock, Exit.then])
    refine bodyPost_ret (v := .tuple #[.agg #[.int .i64 0, .int .i64 0, .bool false], .bool false]) ?_ rfl ⟨by rw [E.out]; first | done | rfl, ?_⟩
    · rw [results_cell_tmp rfl]; go_simp
    · repeat (first | (with_reducible exact N2.out) | refine Below.setCell ?_ HGE.out _)
  · obtain ⟨k, hk⟩ : ∃ k, R.length = k + 1 := ⟨R.length - 1, by omega⟩
    obtain ⟨b, o, rfl, hb, x0, x1, x2⟩ := h1.out.at (show k < R.length by omega)
    have h0' : ((R.length : Int) == 0) = false := by rw [beq_eq_false_iff_ne]; omega
    have hk0 : (R.length : Int) - 1 = (k : Int) := by omega
    have hk1 : (k : Int) < (R.length : Int) := by omega
    have hkR : R.length - 1 = k := by omega
    cases hf : (at' R k).2.2 with
    | true =>
      have E := hide (sp_worstF HS.out h0 (by rw [hkR]; exact hf))
      rw [hf] at x2
      clear HS
      go_wp2
      (try simp only [Exit.inBlock, Exit.then])
      refine bodyPost_ret (v := .tuple #[.agg #[.int .i64 0, .int .i64 0, .bool false], .bool false]) ?_ rfl ⟨by rw [E.out]; first | done | rfl, ?_⟩
      · rw [results_cell_tmp rfl]; go_simp
      · repeat (first | (with_reducible exact N2.out) | refine Below.setCell ?_ HGE.out _)
    | false =>
      have E := hide (sp_worst HS.out h0 (by rw [hkR]; exact hf))
      rw [hkR] at E
      have EV : Hid (ev (val (worstO m L)) = .agg #[.int .i64 (at' R k).1, .int .i64 (at' R k).2.1, .bool false] ∧ (worstO m L).isSome = true) := hide (by rw [E.out, ← hf]; exact ⟨rfl, rfl⟩)
      rw [hf] at x2
      clear HS E hf
      generalize (at' R k).1 = y0 at *
      generalize (at' R k).2.1 = y1 at *
      go_wp2
      (try simp only [Exit.inBlock, Exit.then])
      refine bodyPost_ret (v := .tuple #[.agg #[.int .i64 y0, .int .i64 y1, .bool false], .bool true]) ?_ rfl ⟨by rw [EV.out.1, EV.out.2]; first | done | rfl, ?_⟩
      · rw [results_cell_tmp rfl]; go_simp
      · repeat (first | (with_reducible exact N2.out) | refine Below.setCell ?_ HGE.out _)
end Go.Proofs.Ytacbiiiadalocaa.Ed
