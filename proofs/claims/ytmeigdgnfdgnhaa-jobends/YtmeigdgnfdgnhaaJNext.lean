/- Next of job. -/
import Derived.Test.YtmeigdgnfdgnhaaJRun
namespace Go.Proofs.Ytmeigdgnfdgnhaa.Con
open Go.RowKit Go.Proofs.Ytmeigdgnfdgnhaa.Pm
set_option linter.unusedVariables false
set_option linter.unusedSimpArgs false
set_option maxHeartbeats 4000000 in
theorem next_any {W : World} {v : Value} {num a d : Int} {L : List St} (h : Sl W v L) (hl : L.length ≤ 1000) :
    Calls Try.prog 8 #[jv num v a d] W fun e w' => ∃ x, e = .returned (.tuple #[x, .bool (fulls ⟨num, L, a, d⟩)]) ∧ Rv W w' x (jnext ⟨num, L, a, d⟩) := by
  obtain ⟨p, cap, rfl, hn, hm⟩ := h.form
  have b2 := bel_alloc12 (W := W) (.cells #[.int .i64 num, .slice p L.length cap, .int .i64 a, .int .i64 d] 28) (.cells #[.int .i64 0, .slice none 0 0, .int .i64 0, .int .i64 0] 28)
  have HS := hide (jstep_any (num := num) (a := a) (d := d) (h.below b2))
  have HL := hide (h.below b2)
  have HB0 := hide b2
  clear h b2
  go_enter Try.func8, Try.ntmps8
  go_wp2_with fail
  refine HS.out.mono ?_
  rintro e w1 ⟨rfl, hb⟩
  obtain ⟨r0, r1⟩ := box_two hb
  have HB1 := hide (HB0.out.trans (Below.mono hb (by simp; omega)))
  have HL1 := hide (HL.out.below hb)
  have hlt : W.heap.size + 1 < w1.heap.size := (Array.getElem?_eq_some_iff.1 r1).1
  clear hb HB0 HL HS
  have R0 := hide r0
  have R1 := hide r1
  clear r0 r1
  have ST : Hid (∀ o, ((w1.alloc o).heap[W.heap.size]? = some (.cells #[.int .i64 num, .slice p L.length cap, .int .i64 a, .int .i64 d] 28) ∧ (w1.alloc o).heap[W.heap.size + 1]? = some (.cells #[.int .i64 0, .slice none 0 0, .int .i64 0, .int .i64 0] 28)) ∧ Sl (w1.alloc o) (.slice p L.length cap) L ∧ Below W.heap.size W (w1.alloc o)) := hide (fun o =>
    ⟨⟨(heap_alloc_old _ _ (by omega)).trans R0.out, (heap_alloc_old _ _ hlt).trans R1.out⟩, HL1.out.below (bel_alloc1 o), HB1.out.alloc HB1.out.size o⟩)
  have FIN : Hid (∀ (J : Jb) (w2 w3 : World) (x : Value), J.L = L → w2.heap[W.heap.size + 1]? = some (.cells #[.int .i64 0, .slice none 0 0, .int .i64 0, .int .i64 0] 28) → Below W.heap.size W w2 → Rv w2 w3 x J →
      ∃ p3 cap3, x = .agg #[.int .i64 J.num, .slice p3 L.length cap3, .int .i64 J.a, .int .i64 J.d] ∧ w3.heap[W.heap.size + 1]? = some (.cells #[.int .i64 0, .slice none 0 0, .int .i64 0, .int .i64 0] 28) ∧
        Hid (∀ w4, Put (W.heap.size + 1) w3 w4 (.cells #[.int .i64 J.num, .slice p3 L.length cap3, .int .i64 J.a, .int .i64 J.d] 28) → Rv W w4 x J)) := hide (by
    rintro J w2 w3 x rfl h2 hB hr
    obtain ⟨p3, cap3, rfl, hs⟩ := hr.inv
    have hlt2 := (Array.getElem?_eq_some_iff.1 h2).1
    refine ⟨p3, cap3, rfl, (hs.out.2.block _ hlt2).trans h2, hide (fun w4 P => ⟨_, rfl, hide ⟨Rs.less (P.own hs.out.1 hlt2) (by omega), P.below (hB.trans (Below.mono hs.out.2 hB.size)) (by omega)⟩⟩)⟩)
  clear R0 R1 HL1 HB1
  cases hs : jstep ⟨num, L, a, d⟩ with
  | none =>
    rw [stepV_none hs]
    have E1 := hide (fulls_none hs)
    have E2 := hide (jnext_not (fulls_none hs))
    clear hs
    go_upto_region 2 with fail
    have SB := heap_alloc_new w1 (.cells #[.int .i64 0, .int .i64 0] 24)
    obtain ⟨⟨t0, t1⟩, t2, t3⟩ := ST.out (.cells #[.int .i64 0, .int .i64 0] 24)
    generalize w1.alloc (.cells #[.int .i64 0, .int .i64 0] 24) = w2 at *
    generalize w1.heap.size = g2 at *
    have y1 : w2.cell? ⟨g2, 1, none⟩ = some (.int .i64 0) := (cell_of_row w2 g2 1 _ _ _ SB).trans rfl
    obtain ⟨x0, x1, x2, x3⟩ := row_cells t0
    have HM := hide (moved_any (num := num) (a := a) (d := d) t2 hl (a) (d))
    have T1 := hide t1
    have T3 := hide t3
    clear t0 t1 t2 t3 ST SB
    go_wp2_with fail
    refine HM.out.mono ?_
    rintro e w3 ⟨x, rfl, HR⟩
    obtain ⟨p3, cap3, rfl, r3, HF⟩ := FIN.out ⟨num, L, a, d⟩ w2 w3 x rfl T1.out T3.out HR
    obtain ⟨c0, c1, c2, c3⟩ := row_cells r3
    have z0 := row_free r3 0
    have z1 := row_free r3 1
    have z2 := row_free r3 2
    have z3 := row_free r3 3
    have P := hide (put4 r3 (.int .i64 num) (.slice p3 L.length cap3) (.int .i64 (a)) (.int .i64 (d)))
    clear HR T1 T3 FIN r3 HM
    go_wp2
    (try simp only [Exit.inBlock, Exit.then])
    refine bodyPost_ret (v := .tuple #[.agg #[.int .i64 num, .slice p3 L.length cap3, .int .i64 (a), .int .i64 (d)], .bool false]) ?_ rfl ⟨_, by rw [E1.out], by rw [E2.out]; exact HF.out _ P.out⟩
    rw [results_cell_tmp rfl]; go_simp
  | some s =>
    rw [stepV_some hs]
    have hb := jstep_bound hs
    obtain ⟨⟨hb0, hb1⟩, ⟨hb2, hb3⟩, _, hb4, hb5, hb6⟩ := hb
    simp only at hb0 hb1 hb4 hb5 hb6
    by_cases hf : d = s.2
    · have hft : fulls ⟨num, L, a, d⟩ = true := by rw [fulls_some hs]; exact decide_eq_true hf
      have E1 := hide hft
      have E2 := hide (jnext_full hft)
      clear hs hft
      rw [← hf] at hb1 hb2 hb3 ⊢
      clear hf
      generalize s.1 = z at *
      have wa : IntKind.i64.wrap (a + 1) = a + 1 := by rw [IntKind.wrap_i64]; omega
      go_upto_region 2 with fail
      have SB := heap_alloc_new w1 (.cells #[.int .i64 z, .int .i64 d] 24)
      obtain ⟨⟨t0, t1⟩, t2, t3⟩ := ST.out (.cells #[.int .i64 z, .int .i64 d] 24)
      generalize w1.alloc (.cells #[.int .i64 z, .int .i64 d] 24) = w2 at *
      generalize w1.heap.size = g2 at *
      have y1 : w2.cell? ⟨g2, 1, none⟩ = some (.int .i64 d) := (cell_of_row w2 g2 1 _ _ _ SB).trans rfl
      obtain ⟨x0, x1, x2, x3⟩ := row_cells t0
      have HM := hide (moved_any (num := num) (a := a) (d := d) t2 hl (a + 1) (0))
      have T1 := hide t1
      have T3 := hide t3
      clear t0 t1 t2 t3 ST SB
      go_wp2_with fail
      refine HM.out.mono ?_
      rintro e w3 ⟨x, rfl, HR⟩
      obtain ⟨p3, cap3, rfl, r3, HF⟩ := FIN.out ⟨num, L, a + 1, 0⟩ w2 w3 x rfl T1.out T3.out HR
      obtain ⟨c0, c1, c2, c3⟩ := row_cells r3
      have z0 := row_free r3 0
      have z1 := row_free r3 1
      have z2 := row_free r3 2
      have z3 := row_free r3 3
      have P := hide (put4 r3 (.int .i64 num) (.slice p3 L.length cap3) (.int .i64 (a + 1)) (.int .i64 (0)))
      clear HR T1 T3 FIN r3 HM
      go_wp2
      (try simp only [Exit.inBlock, Exit.then])
      refine bodyPost_ret (v := .tuple #[.agg #[.int .i64 num, .slice p3 L.length cap3, .int .i64 (a + 1), .int .i64 (0)], .bool true]) ?_ rfl ⟨_, by rw [E1.out], by rw [E2.out]; exact HF.out _ P.out⟩
      rw [results_cell_tmp rfl]; go_simp
    · have hft : fulls ⟨num, L, a, d⟩ = false := by rw [fulls_some hs]; exact decide_eq_false hf
      have E1 := hide hft
      have E2 := hide (jnext_not hft)
      clear hs hft
      generalize s.1 = z at *
      generalize s.2 = z' at *
      have d3 : (d == z') = false := by simp [hf]
      have d4 : (d != z') = true := by simp [hf]
      go_upto_region 2 with fail
      have SB := heap_alloc_new w1 (.cells #[.int .i64 z, .int .i64 z'] 24)
      obtain ⟨⟨t0, t1⟩, t2, t3⟩ := ST.out (.cells #[.int .i64 z, .int .i64 z'] 24)
      generalize w1.alloc (.cells #[.int .i64 z, .int .i64 z'] 24) = w2 at *
      generalize w1.heap.size = g2 at *
      have y1 : w2.cell? ⟨g2, 1, none⟩ = some (.int .i64 z') := (cell_of_row w2 g2 1 _ _ _ SB).trans rfl
      obtain ⟨x0, x1, x2, x3⟩ := row_cells t0
      have HM := hide (moved_any (num := num) (a := a) (d := d) t2 hl (a) (d))
      have T1 := hide t1
      have T3 := hide t3
      clear t0 t1 t2 t3 ST SB
      go_wp2_with fail
      refine HM.out.mono ?_
      rintro e w3 ⟨x, rfl, HR⟩
      obtain ⟨p3, cap3, rfl, r3, HF⟩ := FIN.out ⟨num, L, a, d⟩ w2 w3 x rfl T1.out T3.out HR
      obtain ⟨c0, c1, c2, c3⟩ := row_cells r3
      have z0 := row_free r3 0
      have z1 := row_free r3 1
      have z2 := row_free r3 2
      have z3 := row_free r3 3
      have P := hide (put4 r3 (.int .i64 num) (.slice p3 L.length cap3) (.int .i64 (a)) (.int .i64 (d)))
      clear HR T1 T3 FIN r3 HM
      go_wp2
      (try simp only [Exit.inBlock, Exit.then])
      refine bodyPost_ret (v := .tuple #[.agg #[.int .i64 num, .slice p3 L.length cap3, .int .i64 (a), .int .i64 (d)], .bool false]) ?_ rfl ⟨_, by rw [E1.out], by rw [E2.out]; exact HF.out _ P.out⟩
      rw [results_cell_tmp rfl]; go_simp
end Go.Proofs.Ytmeigdgnfdgnhaa.Con
