/- cbs: rouse, Use, Idle, Wait, Turn. -/
import Derived.Test.YtegfhndcimkjoaaCcG
namespace Go.Proofs.Ytegfhndcimkjoaa.Cb
open Go.Proofs.Ytegfhndcimkjoaa.Tk Go.RowKit
set_option linter.unusedVariables false
set_option linter.unusedSimpArgs false
theorem sizeSc : (Try.prog.info? 24).map (·.size) = some 5 := by kernel_rfl
theorem sgd {s : Sv} (h : sgood s = true) : (1 ≤ s.q ∧ s.q ≤ s.p ∧ s.p ≤ 2147483648) ∧ (0 ≤ s.b ∧ s.b ≤ s.q) ∧ (0 ≤ s.d ∧ s.d ≤ 4611686018427387904) ∧ (0 ≤ s.m ∧ s.m ≤ 2) ∧ (s.m = 1 → 0 < s.b) := (sgood_iff s).1 h
theorem bel_drew {B : Nat} {W w : World} (h : Below B W w) : Below B W w.drew := ⟨h.os, h.tape, h.output, h.size, h.block⟩
theorem modeB_0 : modeB 0 = 2 := rfl
theorem modeB_1 {x : Int} (h : ¬ x = 0) : modeB x = 1 := by unfold modeB; rw [if_neg h]
set_option maxHeartbeats 8000000 in
theorem rouse_any (q p b d m x k : Int) (hk : modeB x = k) (W : World) : Calls Try.prog 28 #[.agg #[.int .i64 q, .int .i64 p, .int .i64 b, .int .i64 d, .int .i64 m], .int .i64 x] W fun e w' => e = .returned (.agg #[.int .i64 q, .int .i64 p, .int .i64 x, .int .i64 d, .int .i64 k]) ∧ Nx W w' := by
  have HB0 := hide (bel2 (W := W) (.cells #[.int .i64 q, .int .i64 p, .int .i64 b, .int .i64 d, .int .i64 m] 24) (.cells #[.int .i64 0, .int .i64 0, .int .i64 0, .int .i64 0, .int .i64 0] 24))
  have r0 : ((W.alloc (.cells #[.int .i64 q, .int .i64 p, .int .i64 b, .int .i64 d, .int .i64 m] 24)).alloc (.cells #[.int .i64 0, .int .i64 0, .int .i64 0, .int .i64 0, .int .i64 0] 24)).heap[W.heap.size]? = some (.cells #[.int .i64 q, .int .i64 p, .int .i64 b, .int .i64 d, .int .i64 m] 24 (0, 0)) := (heap_alloc_old _ _ (by simp)).trans (heap_alloc_new W _)
  have r1 : ((W.alloc (.cells #[.int .i64 q, .int .i64 p, .int .i64 b, .int .i64 d, .int .i64 m] 24)).alloc (.cells #[.int .i64 0, .int .i64 0, .int .i64 0, .int .i64 0, .int .i64 0] 24)).heap[W.heap.size + 1]? = some (.cells #[.int .i64 0, .int .i64 0, .int .i64 0, .int .i64 0, .int .i64 0] 24 (0, 0)) := heap_alloc_at _ _ _ (by simp)
  go_enter Try.func28, Try.ntmps28
  go_upto_region 1 with fail
  generalize (W.alloc (.cells #[.int .i64 q, .int .i64 p, .int .i64 b, .int .i64 d, .int .i64 m] 24)).alloc (.cells #[.int .i64 0, .int .i64 0, .int .i64 0, .int .i64 0, .int .i64 0] 24) = w0 at *
  obtain ⟨x0, x1, x2, x3, x4⟩ := row5 r0
  have y0 := row_free r0 0
  have y1 := row_free r0 1
  have y2 := row_free r0 2
  have y3 := row_free r0 3
  have y4 := row_free r0 4
  have s0 : ((w0.setCell ⟨W.heap.size, 2, none⟩ (.int .i64 x)).setCell ⟨W.heap.size, 4, none⟩ (.int .i64 1)).heap[W.heap.size]? = some (.cells #[.int .i64 q, .int .i64 p, .int .i64 x, .int .i64 d, .int .i64 1] 24 (0, 0)) := by rw [heap_setCell_same _ _ 4 _ _ _ (heap_setCell_same _ _ 2 _ _ _ (r0))]; rfl
  have s1 : ((w0.setCell ⟨W.heap.size, 2, none⟩ (.int .i64 x)).setCell ⟨W.heap.size, 4, none⟩ (.int .i64 1)).heap[W.heap.size + 1]? = some (.cells #[.int .i64 0, .int .i64 0, .int .i64 0, .int .i64 0, .int .i64 0] 24 (0, 0)) := (heap_setCell_other _ _ _ _ (by dsimp only; omega)).trans ((heap_setCell_other _ _ _ _ (by dsimp only; omega)).trans (r1))
  have HB1 := hide ((HB0.out.setCell (p := ⟨W.heap.size, 2, none⟩) (by dsimp only; omega) (.int .i64 x)).setCell (p := ⟨W.heap.size, 4, none⟩) (by dsimp only; omega) (.int .i64 1))
  go_upto_region 2 with fail
  clear x0 x1 x2 x3 x4 y0 y1 y2 y3 y4 r0 r1 HB0
  generalize (w0.setCell ⟨W.heap.size, 2, none⟩ (.int .i64 x)).setCell ⟨W.heap.size, 4, none⟩ (.int .i64 1) = w1 at *
  have HB0 := HB1
  have r0 := s0
  have r1 := s1
  clear HB1 s0 s1
  obtain ⟨x0, x1, x2, x3, x4⟩ := row5 r0
  have y0 := row_free r0 0
  have y1 := row_free r0 1
  have y2 := row_free r0 2
  have y3 := row_free r0 3
  have y4 := row_free r0 4
  by_cases hx : x = 0
  · subst hx
    obtain rfl : k = 2 := hk.symm.trans modeB_0
    have s0 : (w1.setCell ⟨W.heap.size, 4, none⟩ (.int .i64 2)).heap[W.heap.size]? = some (.cells #[.int .i64 q, .int .i64 p, .int .i64 0, .int .i64 d, .int .i64 2] 24 (0, 0)) := by rw [heap_setCell_same _ _ 4 _ _ _ (r0)]; rfl
    have s1 : (w1.setCell ⟨W.heap.size, 4, none⟩ (.int .i64 2)).heap[W.heap.size + 1]? = some (.cells #[.int .i64 0, .int .i64 0, .int .i64 0, .int .i64 0, .int .i64 0] 24 (0, 0)) := (heap_setCell_other _ _ _ _ (by dsimp only; omega)).trans (r1)
    have HB1 := hide (HB0.out.setCell (p := ⟨W.heap.size, 4, none⟩) (by dsimp only; omega) (.int .i64 2))
    go_upto_region 4 with fail
    clear x0 x1 x2 x3 x4 y0 y1 y2 y3 y4 r0 r1 HB0
    generalize w1.setCell ⟨W.heap.size, 4, none⟩ (.int .i64 2) = w2 at *
    have HB0 := HB1
    have r0 := s0
    have r1 := s1
    clear HB1 s0 s1
    have P := put5 r1 (.int .i64 q) (.int .i64 p) (.int .i64 0) (.int .i64 d) (.int .i64 2)
    have HB := hide (P.below HB0.out (by omega))
    have PR := hide P.row
    clear P HB0
    obtain ⟨x0, x1, x2, x3, x4⟩ := row5 r0
    obtain ⟨c0, c1, c2, c3, c4⟩ := row5 r1
    have z0 := row_free r1 0
    have z1 := row_free r1 1
    have z2 := row_free r1 2
    have z3 := row_free r1 3
    have z4 := row_free r1 4
    clear r0 r1
    go_wp2
    (try simp only [Exit.inBlock, Exit.then])
    refine bodyPost_ret (v := .agg #[.int .i64 q, .int .i64 p, .int .i64 0, .int .i64 d, .int .i64 2]) ?_ rfl ⟨rfl, HB.out⟩
    exact results_cell_row (p := 4) (ty := 24) Try.results28 _ _ (W.heap.size + 1) 24 _ (0, 0) _ rfl PR.out Try.underlying24 rfl sizeSc
  · obtain rfl : k = 1 := hk.symm.trans (modeB_1 hx)
    have hx2 : (x == 0) = false := by simp [hx]
    clear x0 x1 x2 x3 x4 y0 y1 y2 y3 y4
    have P := put5 r1 (.int .i64 q) (.int .i64 p) (.int .i64 x) (.int .i64 d) (.int .i64 1)
    have HB := hide (P.below HB0.out (by omega))
    have PR := hide P.row
    clear P HB0
    obtain ⟨x0, x1, x2, x3, x4⟩ := row5 r0
    obtain ⟨c0, c1, c2, c3, c4⟩ := row5 r1
    have z0 := row_free r1 0
    have z1 := row_free r1 1
    have z2 := row_free r1 2
    have z3 := row_free r1 3
    have z4 := row_free r1 4
    clear r0 r1
    go_wp2
    (try simp only [Exit.inBlock, Exit.then])
    refine bodyPost_ret (v := .agg #[.int .i64 q, .int .i64 p, .int .i64 x, .int .i64 d, .int .i64 1]) ?_ rfl ⟨rfl, HB.out⟩
    exact results_cell_row (p := 4) (ty := 24) Try.results28 _ _ (W.heap.size + 1) 24 _ (0, 0) _ rfl PR.out Try.underlying24 rfl sizeSc
set_option maxHeartbeats 8000000 in
theorem use_any (s : Sv) (n : Int) (W : World) : Calls Try.prog 12 #[svv s, .int .i64 n] W fun e w' => e = .returned (.tuple #[svv (use s n), .int .i64 (useE s n)]) ∧ Nx W w' := by
  obtain ⟨q, p, b, d, m⟩ := s
  have HB0 := hide (bel2 (W := W) (.cells #[.int .i64 q, .int .i64 p, .int .i64 b, .int .i64 d, .int .i64 m] 24) (.cells #[.int .i64 0, .int .i64 0, .int .i64 0, .int .i64 0, .int .i64 0] 24))
  have HG := hide (good_server ⟨q, p, b, d, m⟩ ((W.alloc (.cells #[.int .i64 q, .int .i64 p, .int .i64 b, .int .i64 d, .int .i64 m] 24)).alloc (.cells #[.int .i64 0, .int .i64 0, .int .i64 0, .int .i64 0, .int .i64 0] 24)))
  go_enter Try.func12, Try.ntmps12
  go_wp2_with fail
  refine HG.out.mono ?_
  rintro e w1 ⟨rfl, hb⟩
  obtain ⟨r0, r1⟩ := box2 hb
  have HB := hide (HB0.out.trans (Below.mono hb (by simp; omega)))
  obtain ⟨x0, x1, x2, x3, x4⟩ := row5 r0
  obtain ⟨c0, c1, c2, c3, c4⟩ := row5 r1
  have y0 := row_free r0 0
  have z0 := row_free r1 0
  have y1 := row_free r0 1
  have z1 := row_free r1 1
  have y2 := row_free r0 2
  have z2 := row_free r1 2
  have y3 := row_free r0 3
  have z3 := row_free r1 3
  have y4 := row_free r0 4
  have z4 := row_free r1 4
  have R0 := hide r0
  have R1 := hide r1
  clear hb HB0 HG r0 r1
  cases hg : sgood ⟨q, p, b, d, m⟩ with
  | false =>
    have E := hide (use_1 (s := ⟨q, p, b, d, m⟩) (n := n) (by rw [hg]; simp)).symm
    clear hg
    go_wp2
    (try simp only [Exit.inBlock, Exit.then])
    refine bodyPost_ret (v := .tuple #[.agg #[.int .i64 q, .int .i64 p, .int .i64 b, .int .i64 d, .int .i64 m], .int .i64 1]) ?_ rfl ⟨by rw [E.out.1, E.out.2]; first | done | rfl, ?_⟩
    · rw [results_cell_tmp rfl]; go_simp
    · repeat (first | (with_reducible exact HB.out) | (with_reducible exact bel1 _) | refine Below.setCell ?_ (by dsimp only; omega) _)
  | true =>
    obtain ⟨⟨g1, g2, g3⟩, ⟨g4, g5⟩, _, _, _⟩ := sgd hg
    simp only at g1 g2 g3 g4 g5
    by_cases h1 : n < 1
    · have E := hide (use_1 (s := ⟨q, p, b, d, m⟩) (n := n) (fun h => by have := h.2.1; omega)).symm
      clear hg
      go_wp2
      (try simp only [Exit.inBlock, Exit.then])
      refine bodyPost_ret (v := .tuple #[.agg #[.int .i64 q, .int .i64 p, .int .i64 b, .int .i64 d, .int .i64 m], .int .i64 1]) ?_ rfl ⟨by rw [E.out.1, E.out.2]; first | done | rfl, ?_⟩
      · rw [results_cell_tmp rfl]; go_simp
      · repeat (first | (with_reducible exact HB.out) | (with_reducible exact bel1 _) | refine Below.setCell ?_ (by dsimp only; omega) _)
    by_cases h2 : b < n
    · have E := hide (use_1 (s := ⟨q, p, b, d, m⟩) (n := n) (fun h => by have h3 : n ≤ b := h.2.2; omega)).symm
      clear hg
      go_wp2
      (try simp only [Exit.inBlock, Exit.then])
      refine bodyPost_ret (v := .tuple #[.agg #[.int .i64 q, .int .i64 p, .int .i64 b, .int .i64 d, .int .i64 m], .int .i64 1]) ?_ rfl ⟨by rw [E.out.1, E.out.2]; first | done | rfl, ?_⟩
      · rw [results_cell_tmp rfl]; go_simp
      · repeat (first | (with_reducible exact HB.out) | (with_reducible exact bel1 _) | refine Below.setCell ?_ (by dsimp only; omega) _)
    by_cases h3 : m = 1
    · have E := hide (use_0 (n := n) hg (by omega) (by show n ≤ b; omega) h3).symm
      clear hg
      subst h3
      obtain ⟨k, hk⟩ : ∃ k, modeB (b - n) = k := ⟨_, rfl⟩
      simp only [hk] at E
      go_wp2_with fail
      have K1 := R1.out
      clear x0 x1 x2 x3 x4 c0 c1 c2 c3 c4 y0 y1 y2 y3 y4 z0 z1 z2 z3 z4 R0 R1
      generalize w1 = w2 at *
      refine (rouse_any q p b d 1 (b - n) k hk w2).mono ?_
      rintro e w3 ⟨rfl, hb⟩
      have K3 := (hb.block _ (Array.getElem?_eq_some_iff.1 K1).1).trans K1
      have HB := hide (HB.out.trans (Below.mono hb HB.out.size))
      clear hb K1
      obtain ⟨c0, c1, c2, c3, c4⟩ := row5 K3
      have z0 := row_free K3 0
      have z1 := row_free K3 1
      have z2 := row_free K3 2
      have z3 := row_free K3 3
      have z4 := row_free K3 4
      clear K3
      go_wp2
      (try simp only [Exit.inBlock, Exit.then])
      refine bodyPost_ret (v := .tuple #[.agg #[.int .i64 q, .int .i64 p, .int .i64 (b - n), .int .i64 d, .int .i64 k], .int .i64 0]) ?_ rfl ⟨by rw [E.out.1, E.out.2]; first | done | rfl, ?_⟩
      · rw [results_cell_tmp rfl]; go_simp
      · repeat (first | (with_reducible exact HB.out) | (with_reducible exact bel1 _) | refine Below.setCell ?_ (by dsimp only; omega) _)
    · have E := hide (use_4 (n := n) hg (by omega) (by show n ≤ b; omega) h3).symm
      have h4 : (m == 1) = false := by simp [h3]
      have h5 : (m != 1) = true := by simp [h3]
      clear hg
      go_wp2
      (try simp only [Exit.inBlock, Exit.then])
      refine bodyPost_ret (v := .tuple #[.agg #[.int .i64 q, .int .i64 p, .int .i64 b, .int .i64 d, .int .i64 m], .int .i64 4]) ?_ rfl ⟨by rw [E.out.1, E.out.2]; first | done | rfl, ?_⟩
      · rw [results_cell_tmp rfl]; go_simp
      · repeat (first | (with_reducible exact HB.out) | (with_reducible exact bel1 _) | refine Below.setCell ?_ (by dsimp only; omega) _)
set_option maxHeartbeats 8000000 in
theorem idle_any (s : Sv) (W : World) : Calls Try.prog 13 #[svv s] W fun e w' => e = .returned (.tuple #[svv (idle s), .int .i64 (idleE s)]) ∧ Nx W w' := by
  obtain ⟨q, p, b, d, m⟩ := s
  have HB0 := hide (bel2 (W := W) (.cells #[.int .i64 q, .int .i64 p, .int .i64 b, .int .i64 d, .int .i64 m] 24) (.cells #[.int .i64 0, .int .i64 0, .int .i64 0, .int .i64 0, .int .i64 0] 24))
  have HG := hide (good_server ⟨q, p, b, d, m⟩ ((W.alloc (.cells #[.int .i64 q, .int .i64 p, .int .i64 b, .int .i64 d, .int .i64 m] 24)).alloc (.cells #[.int .i64 0, .int .i64 0, .int .i64 0, .int .i64 0, .int .i64 0] 24)))
  go_enter Try.func13, Try.ntmps13
  go_wp2_with fail
  refine HG.out.mono ?_
  rintro e w1 ⟨rfl, hb⟩
  obtain ⟨r0, r1⟩ := box2 hb
  have HB := hide (HB0.out.trans (Below.mono hb (by simp; omega)))
  obtain ⟨x0, x1, x2, x3, x4⟩ := row5 r0
  obtain ⟨c0, c1, c2, c3, c4⟩ := row5 r1
  have y0 := row_free r0 0
  have z0 := row_free r1 0
  have y1 := row_free r0 1
  have z1 := row_free r1 1
  have y2 := row_free r0 2
  have z2 := row_free r1 2
  have y3 := row_free r0 3
  have z3 := row_free r1 3
  have y4 := row_free r0 4
  have z4 := row_free r1 4
  have R0 := hide r0
  have R1 := hide r1
  clear hb HB0 HG r0 r1
  cases hg : sgood ⟨q, p, b, d, m⟩ with
  | false =>
    have E := hide (idle_1 hg).symm
    clear hg
    go_wp2
    (try simp only [Exit.inBlock, Exit.then])
    refine bodyPost_ret (v := .tuple #[.agg #[.int .i64 q, .int .i64 p, .int .i64 b, .int .i64 d, .int .i64 m], .int .i64 1]) ?_ rfl ⟨by rw [E.out.1, E.out.2]; first | done | rfl, ?_⟩
    · rw [results_cell_tmp rfl]; go_simp
    · repeat (first | (with_reducible exact HB.out) | (with_reducible exact bel1 _) | refine Below.setCell ?_ (by dsimp only; omega) _)
  | true =>
    by_cases h3 : m = 0
    · have E := hide (idle_4 hg h3).symm
      clear hg
      subst h3
      go_wp2
      (try simp only [Exit.inBlock, Exit.then])
      refine bodyPost_ret (v := .tuple #[.agg #[.int .i64 q, .int .i64 p, .int .i64 b, .int .i64 d, .int .i64 0], .int .i64 4]) ?_ rfl ⟨by rw [E.out.1, E.out.2]; first | done | rfl, ?_⟩
      · rw [results_cell_tmp rfl]; go_simp
      · repeat (first | (with_reducible exact HB.out) | (with_reducible exact bel1 _) | refine Below.setCell ?_ (by dsimp only; omega) _)
    · have E := hide (idle_0 hg h3).symm
      have h4 : (m == 0) = false := by simp [h3]
      have h5 : (m != 0) = true := by simp [h3]
      clear hg
      go_wp2
      (try simp only [Exit.inBlock, Exit.then])
      refine bodyPost_ret (v := .tuple #[.agg #[.int .i64 q, .int .i64 p, .int .i64 b, .int .i64 d, .int .i64 0], .int .i64 0]) ?_ rfl ⟨by rw [E.out.1, E.out.2]; first | done | rfl, ?_⟩
      · rw [results_cell_tmp rfl]; go_simp
      · repeat (first | (with_reducible exact HB.out) | (with_reducible exact bel1 _) | refine Below.setCell ?_ (by dsimp only; omega) _)
set_option maxHeartbeats 8000000 in
theorem wait_any (s : Sv) (W : World) : Calls Try.prog 15 #[svv s] W fun e w' => e = .returned (.tuple #[svv (wait s), .int .i64 (waitE s)]) ∧ Nx W w' := by
  obtain ⟨q, p, b, d, m⟩ := s
  have HB0 := hide (bel2 (W := W) (.cells #[.int .i64 q, .int .i64 p, .int .i64 b, .int .i64 d, .int .i64 m] 24) (.cells #[.int .i64 0, .int .i64 0, .int .i64 0, .int .i64 0, .int .i64 0] 24))
  have HG := hide (good_server ⟨q, p, b, d, m⟩ ((W.alloc (.cells #[.int .i64 q, .int .i64 p, .int .i64 b, .int .i64 d, .int .i64 m] 24)).alloc (.cells #[.int .i64 0, .int .i64 0, .int .i64 0, .int .i64 0, .int .i64 0] 24)))
  go_enter Try.func15, Try.ntmps15
  go_wp2_with fail
  refine HG.out.mono ?_
  rintro e w1 ⟨rfl, hb⟩
  obtain ⟨r0, r1⟩ := box2 hb
  have HB := hide (HB0.out.trans (Below.mono hb (by simp; omega)))
  obtain ⟨x0, x1, x2, x3, x4⟩ := row5 r0
  obtain ⟨c0, c1, c2, c3, c4⟩ := row5 r1
  have y0 := row_free r0 0
  have z0 := row_free r1 0
  have y1 := row_free r0 1
  have z1 := row_free r1 1
  have y2 := row_free r0 2
  have z2 := row_free r1 2
  have y3 := row_free r0 3
  have z3 := row_free r1 3
  have y4 := row_free r0 4
  have z4 := row_free r1 4
  have R0 := hide r0
  have R1 := hide r1
  clear hb HB0 HG r0 r1
  cases hg : sgood ⟨q, p, b, d, m⟩ with
  | false =>
    have E := hide (wait_1 hg).symm
    clear hg
    go_wp2
    (try simp only [Exit.inBlock, Exit.then])
    refine bodyPost_ret (v := .tuple #[.agg #[.int .i64 q, .int .i64 p, .int .i64 b, .int .i64 d, .int .i64 m], .int .i64 1]) ?_ rfl ⟨by rw [E.out.1, E.out.2]; first | done | rfl, ?_⟩
    · rw [results_cell_tmp rfl]; go_simp
    · repeat (first | (with_reducible exact HB.out) | (with_reducible exact bel1 _) | refine Below.setCell ?_ (by dsimp only; omega) _)
  | true =>
    by_cases h3 : m = 1
    · have E := hide (wait_0 hg h3).symm
      clear hg
      subst h3
      go_wp2
      (try simp only [Exit.inBlock, Exit.then])
      refine bodyPost_ret (v := .tuple #[.agg #[.int .i64 q, .int .i64 p, .int .i64 b, .int .i64 d, .int .i64 2], .int .i64 0]) ?_ rfl ⟨by rw [E.out.1, E.out.2]; first | done | rfl, ?_⟩
      · rw [results_cell_tmp rfl]; go_simp
      · repeat (first | (with_reducible exact HB.out) | (with_reducible exact bel1 _) | refine Below.setCell ?_ (by dsimp only; omega) _)
    · have E := hide (wait_4 hg h3).symm
      have h4 : (m == 1) = false := by simp [h3]
      have h5 : (m != 1) = true := by simp [h3]
      clear hg
      go_wp2
      (try simp only [Exit.inBlock, Exit.then])
      refine bodyPost_ret (v := .tuple #[.agg #[.int .i64 q, .int .i64 p, .int .i64 b, .int .i64 d, .int .i64 m], .int .i64 4]) ?_ rfl ⟨by rw [E.out.1, E.out.2]; first | done | rfl, ?_⟩
      · rw [results_cell_tmp rfl]; go_simp
      · repeat (first | (with_reducible exact HB.out) | (with_reducible exact bel1 _) | refine Below.setCell ?_ (by dsimp only; omega) _)
set_option maxHeartbeats 8000000 in
theorem turn_any (s : Sv) (now : Int) (W : World) : Calls Try.prog 14 #[svv s, .int .i64 now] W fun e w' => e = .returned (.tuple #[svv (turn s now), .bool (turnB s now)]) ∧ Nx W w' := by
  obtain ⟨q, p, b, d, m⟩ := s
  have HB0 := hide (bel2 (W := W) (.cells #[.int .i64 q, .int .i64 p, .int .i64 b, .int .i64 d, .int .i64 m] 24) (.cells #[.int .i64 0, .int .i64 0, .int .i64 0, .int .i64 0, .int .i64 0] 24))
  have HG := hide (good_server ⟨q, p, b, d, m⟩ ((W.alloc (.cells #[.int .i64 q, .int .i64 p, .int .i64 b, .int .i64 d, .int .i64 m] 24)).alloc (.cells #[.int .i64 0, .int .i64 0, .int .i64 0, .int .i64 0, .int .i64 0] 24)))
  go_enter Try.func14, Try.ntmps14
  go_wp2_with fail
  refine HG.out.mono ?_
  rintro e w1 ⟨rfl, hb⟩
  obtain ⟨r0, r1⟩ := box2 hb
  have HB := hide (HB0.out.trans (Below.mono hb (by simp; omega)))
  obtain ⟨x0, x1, x2, x3, x4⟩ := row5 r0
  obtain ⟨c0, c1, c2, c3, c4⟩ := row5 r1
  have y0 := row_free r0 0
  have z0 := row_free r1 0
  have y1 := row_free r0 1
  have z1 := row_free r1 1
  have y2 := row_free r0 2
  have z2 := row_free r1 2
  have y3 := row_free r0 3
  have z3 := row_free r1 3
  have y4 := row_free r0 4
  have z4 := row_free r1 4
  have R0 := hide r0
  have R1 := hide r1
  clear hb HB0 HG r0 r1
  have NO : Hid (¬ (sgood ⟨q, p, b, d, m⟩ = true ∧ Tk.good now = true ∧ m ≠ 0 ∧ d ≤ now ∧ Tk.good (nextOf now d p) = true) → turn ⟨q, p, b, d, m⟩ now = ⟨q, p, b, d, m⟩ ∧ turnB ⟨q, p, b, d, m⟩ now = false) := hide (fun h => by
    have e : turnB ⟨q, p, b, d, m⟩ now = false := by
      cases ht : turnB ⟨q, p, b, d, m⟩ now with
      | false => rfl
      | true => exact absurd (turnB_iff.1 ht) h
    exact ⟨turn_n e, e⟩)
  cases hg : sgood ⟨q, p, b, d, m⟩ with
  | false =>
    have E := hide (NO.out (by rw [hg]; simp))
    clear hg NO
    go_wp2
    (try simp only [Exit.inBlock, Exit.then])
    refine bodyPost_ret (v := .tuple #[.agg #[.int .i64 q, .int .i64 p, .int .i64 b, .int .i64 d, .int .i64 m], .bool false]) ?_ rfl ⟨by rw [E.out.1, E.out.2]; first | done | rfl, ?_⟩
    · rw [results_cell_tmp rfl]; go_simp
    · repeat (first | (with_reducible exact HB.out) | (with_reducible exact bel1 _) | refine Below.setCell ?_ (by dsimp only; omega) _)
  | true =>
    obtain ⟨⟨g1, g2, g3⟩, ⟨g4, g5⟩, ⟨g6, g7⟩, _, _⟩ := sgd hg
    simp only at g1 g2 g3 g4 g5 g6 g7
    by_cases hm : m = 0
    · have E := hide (NO.out (by simp [hm]))
      clear hg NO
      subst hm
      go_wp2
      (try simp only [Exit.inBlock, Exit.then])
      refine bodyPost_ret (v := .tuple #[.agg #[.int .i64 q, .int .i64 p, .int .i64 b, .int .i64 d, .int .i64 0], .bool false]) ?_ rfl ⟨by rw [E.out.1, E.out.2]; first | done | rfl, ?_⟩
      · rw [results_cell_tmp rfl]; go_simp
      · repeat (first | (with_reducible exact HB.out) | (with_reducible exact bel1 _) | refine Below.setCell ?_ (by dsimp only; omega) _)
    have hm1 : (m == 0) = false := by simp [hm]
    by_cases hd : now < d
    · have E := hide (NO.out (by omega))
      clear hg NO
      go_wp2
      (try simp only [Exit.inBlock, Exit.then])
      refine bodyPost_ret (v := .tuple #[.agg #[.int .i64 q, .int .i64 p, .int .i64 b, .int .i64 d, .int .i64 m], .bool false]) ?_ rfl ⟨by rw [E.out.1, E.out.2]; first | done | rfl, ?_⟩
      · rw [results_cell_tmp rfl]; go_simp
      · repeat (first | (with_reducible exact HB.out) | (with_reducible exact bel1 _) | refine Below.setCell ?_ (by dsimp only; omega) _)
    have HU := hide (fun w => up_any now d p w)
    have hgd : Tk.good d = true := by unfold Tk.good; exact decide_eq_true ⟨g6, g7⟩
    have hpp : period p = true := by unfold period; exact decide_eq_true (by omega)
    by_cases hx : (Tk.good now && Tk.good (nextOf now d p)) = true
    rotate_left
    · have E := hide (NO.out (fun h => hx (by rw [h.2.1, h.2.2.2.2]; rfl)))
      have eb : upB now d p = false := by
        cases hu : upB now d p with
        | false => rfl
        | true => unfold upB at hu; simp only [Bool.and_eq_true] at hu; exact absurd (by rw [hu.1.1.1, hu.2]; rfl) hx
      rw [eb] at HU
      clear hg NO eb hx hgd hpp
      go_wp2_with (go_at_call 31; refine (HU.out _).mono ?_; rintro e w9 ⟨rfl, hw9⟩; rw [hw9]; clear hw9)
      (try simp only [Exit.inBlock, Exit.then])
      refine bodyPost_ret (v := .tuple #[.agg #[.int .i64 q, .int .i64 p, .int .i64 b, .int .i64 d, .int .i64 m], .bool false]) ?_ rfl ⟨by rw [E.out.1, E.out.2]; first | done | rfl, ?_⟩
      · rw [results_cell_tmp rfl]; go_simp
      · repeat (first | (with_reducible exact HB.out) | (with_reducible exact bel1 _) | refine Below.setCell ?_ (by dsimp only; omega) _)
    simp only [Bool.and_eq_true] at hx
    obtain ⟨hn, hx⟩ := hx
    have ht : turnB ⟨q, p, b, d, m⟩ now = true := turnB_iff.2 ⟨hg, hn, hm, by show d ≤ now; omega, hx⟩
    have E := hide (And.intro (turn_y ht) ht)
    have eb : upB now d p = true := by unfold upB; rw [hn, hgd, hpp, hx]; rfl
    have ev : upV now d p = nextOf now d p := by unfold upV; rw [if_pos eb]
    rw [eb, ev] at HU
    simp only at E
    clear hg NO hn eb ev hx hgd hpp ht
    generalize nextOf now d p = nd at *
    go_wp2_with (go_at_call 31; refine (HU.out _).mono ?_; rintro e w9 ⟨rfl, hw9⟩; rw [hw9]; clear hw9)
    have K1 : (w1.setCell ⟨W.heap.size, 3, none⟩ (.int .i64 nd)).heap[W.heap.size + 1]? = some (.cells #[.int .i64 0, .int .i64 0, .int .i64 0, .int .i64 0, .int .i64 0] 24 (0, 0)) := (heap_setCell_other _ _ _ _ (by dsimp only; omega)).trans R1.out
    have HB := hide (HB.out.setCell (p := ⟨W.heap.size, 3, none⟩) (by dsimp only; omega) (.int .i64 nd))
    clear x0 x1 x2 x3 x4 c0 c1 c2 c3 c4 y0 y1 y2 y3 y4 z0 z1 z2 z3 z4 R0 R1
    generalize w1.setCell ⟨W.heap.size, 3, none⟩ (.int .i64 nd) = w2 at *
    refine (rouse_any q p b nd m q 1 (modeB_1 (by omega)) w2).mono ?_
    rintro e w3 ⟨rfl, hb⟩
    have K3 := (hb.block _ (Array.getElem?_eq_some_iff.1 K1).1).trans K1
    have HB := hide (HB.out.trans (Below.mono hb HB.out.size))
    clear hb K1
    obtain ⟨c0, c1, c2, c3, c4⟩ := row5 K3
    have z0 := row_free K3 0
    have z1 := row_free K3 1
    have z2 := row_free K3 2
    have z3 := row_free K3 3
    have z4 := row_free K3 4
    clear K3
    go_wp2
    (try simp only [Exit.inBlock, Exit.then])
    refine bodyPost_ret (v := .tuple #[.agg #[.int .i64 q, .int .i64 p, .int .i64 q, .int .i64 nd, .int .i64 1], .bool true]) ?_ rfl ⟨by rw [E.out.1, E.out.2]; first | done | rfl, ?_⟩
    · rw [results_cell_tmp rfl]; go_simp
    · repeat (first | (with_reducible exact HB.out) | (with_reducible exact bel1 _) | refine Below.setCell ?_ (by dsimp only; omega) _)
end Go.Proofs.Ytegfhndcimkjoaa.Cb
