/- New of job. -/
import Derived.Test.YtmeigdgnfdgnhaaJRun
namespace Go.Proofs.Ytmeigdgnfdgnhaa.Con
open Go.RowKit Go.Proofs.Ytmeigdgnfdgnhaa.Pm
set_option linter.unusedVariables false
set_option linter.unusedSimpArgs false
set_option maxHeartbeats 4000000 in
theorem new_no {W : World} {v : Value} {num : Int} {L : List St} (h : Sl W v L) (hno : ¬ (1 ≤ num ∧ good L = true)) :
    Calls Try.prog 7 #[.int .i64 num, v] W fun e w' => e = .returned (.tuple #[jv 0 (.slice none 0 0) 0 0, .bool false]) ∧ Below W.heap.size W w' := by
  obtain ⟨p, cap, rfl, hn, hm⟩ := h.form
  have b1 := bel_alloc1 (W := W) (.cells #[.int .i64 0, .slice none 0 0, .int .i64 0, .int .i64 0] 28)
  have HG := hide (good_any (h.below b1))
  have HB0 := hide b1
  clear h b1
  by_cases h1 : num < 1
  · clear hno HG
    have fin : Hid (Below W.heap.size W ((((((W.alloc (.cells #[.int .i64 0, .slice none 0 0, .int .i64 0, .int .i64 0] 28)).setCell ⟨W.heap.size, 0, none⟩ (.int .i64 0)).setCell ⟨W.heap.size, 1, none⟩ (.slice none 0 0)).setCell ⟨W.heap.size, 2, none⟩ (.int .i64 0)).setCell ⟨W.heap.size, 3, none⟩ (.int .i64 0)))) := hide ((put4 (heap_alloc_new W _) _ _ _ _).below HB0.out (Nat.le_refl _))
    go_enter Try.func7, Try.ntmps7
    go_wp2
    (try simp only [Exit.inBlock, Exit.then])
    refine bodyPost_ret (v := .tuple #[.agg #[.int .i64 0, .slice none 0 0, .int .i64 0, .int .i64 0], .bool false]) ?_ rfl ⟨rfl, ?_⟩
    · rw [results_cell_tmp rfl]; go_simp
    · first | exact fin.out | exact HB0.out
  · have hg : good L = false := by
      cases hg : good L with
      | false => rfl
      | true => exact absurd ⟨by omega, hg⟩ hno
    rw [hg] at HG
    clear hno hg
    go_enter Try.func7, Try.ntmps7
    go_wp2_with fail
    refine HG.out.mono ?_
    rintro e w1 ⟨rfl, hb⟩
    have r1 := box_row hb
    have HB1 := hide (HB0.out.trans (Below.mono hb (by simp)))
    obtain ⟨c0, c1, c2, c3⟩ := row_cells r1
    have z0 := row_free r1 0
    have z1 := row_free r1 1
    have z2 := row_free r1 2
    have z3 := row_free r1 3
    have P := hide (put4 r1 (.int .i64 0) (.slice none 0 0) (.int .i64 0) (.int .i64 0))
    clear HG HB0 hb r1
    go_wp2
    (try simp only [Exit.inBlock, Exit.then])
    refine bodyPost_ret (v := .tuple #[.agg #[.int .i64 0, .slice none 0 0, .int .i64 0, .int .i64 0], .bool false]) ?_ rfl ⟨rfl, P.out.below HB1.out (Nat.le_refl _)⟩
    rw [results_cell_tmp rfl]; go_simp
set_option maxHeartbeats 4000000 in
theorem new_ok {W : World} {v : Value} {num : Int} {L : List St} (h : Sl W v L) (h1 : 1 ≤ num) (hg : good L = true) :
    Calls Try.prog 7 #[.int .i64 num, v] W fun e w' => ∃ x, e = .returned (.tuple #[x, .bool true]) ∧ Rv W w' x ⟨num, L, 0, 0⟩ := by
  have hl : L.length ≤ 1000 := by have := good_len hg; omega
  obtain ⟨p, cap, rfl, hn, hm⟩ := h.form
  have b1 := bel_alloc1 (W := W) (.cells #[.int .i64 0, .slice none 0 0, .int .i64 0, .int .i64 0] 28)
  have HG := hide (good_any (h.below b1))
  have HS := hide (h.below b1)
  have HB0 := hide b1
  rw [hg] at HG
  clear h b1
  go_enter Try.func7, Try.ntmps7
  go_wp2_with fail
  refine HG.out.mono ?_
  rintro e w1 ⟨rfl, hb⟩
  have R1 := hide (box_row hb)
  have HB1 := hide (HB0.out.trans (Below.mono hb (by simp)))
  have HC := hide (clone_any (HS.out.below hb) hl)
  have hlt : W.heap.size < w1.heap.size := (Array.getElem?_eq_some_iff.1 R1.out).1
  clear HG HB0 hb HS
  go_wp2_with fail
  refine HC.out.mono ?_
  rintro e w2 ⟨v2, rfl, HR⟩
  have r2 := (HR.out.2.block _ hlt).trans R1.out
  have HB2 := hide (HB1.out.trans (Below.mono HR.out.2 HB1.out.size))
  obtain ⟨p2, cap2, rfl, hn2, hm2⟩ := HR.out.1.form
  obtain ⟨c0, c1, c2, c3⟩ := row_cells r2
  have z0 := row_free r2 0
  have z1 := row_free r2 1
  have z2 := row_free r2 2
  have z3 := row_free r2 3
  have P := hide (put4 r2 (.int .i64 num) (.slice p2 L.length cap2) (.int .i64 0) (.int .i64 0))
  have HO := hide (Rs.less (P.out.own HR.out.1 hlt) HB1.out.size)
  clear HR HB1 HC R1 r2
  go_wp2
  (try simp only [Exit.inBlock, Exit.then])
  refine bodyPost_ret (v := .tuple #[.agg #[.int .i64 num, .slice p2 L.length cap2, .int .i64 0, .int .i64 0], .bool true]) ?_ rfl ⟨_, rfl, _, rfl, hide ⟨HO.out, P.out.below HB2.out (Nat.le_refl _)⟩⟩
  rw [results_cell_tmp rfl]; go_simp
end Go.Proofs.Ytmeigdgnfdgnhaa.Con
