/- moved, Run, Next, New of job. -/
import Derived.Test.YtmeigdgnfdgnhaaJLeft
namespace Go.Proofs.Ytmeigdgnfdgnhaa.Con
open Go.RowKit Go.Proofs.Ytmeigdgnfdgnhaa.Pm
set_option linter.unusedVariables false
set_option linter.unusedSimpArgs false
/-- A job in memory of the call's own. -/
abbrev Rv (W w : World) (x : Value) (j : Jb) : Prop := ∃ v, x = jv j.num v j.a j.d ∧ Hid (Rs W.heap.size w v j.L ∧ Below W.heap.size W w)
theorem bel_alloc1 {W : World} (o : Obj) : Below W.heap.size W (W.alloc o) := (Below.refl _ W).alloc (Nat.le_refl _) o
theorem bel_alloc12 {W : World} (o p : Obj) : Below W.heap.size W ((W.alloc o).alloc p) := (bel_alloc1 o).alloc (by simp) p
theorem box_two {W w' : World} {o p : Obj} (hb : Below ((W.alloc o).alloc p).heap.size ((W.alloc o).alloc p) w') : w'.heap[W.heap.size]? = some o ∧ w'.heap[W.heap.size + 1]? = some p :=
  ⟨(hb.block W.heap.size (by simp; omega)).trans ((heap_alloc_old _ _ (by simp)).trans (heap_alloc_new W _)), (hb.block (W.heap.size + 1) (by simp)).trans (heap_alloc_at _ _ _ (by simp))⟩
theorem sizeJb : (Try.prog.info? 28).map (·.size) = some 4 := by kernel_rfl
set_option maxHeartbeats 4000000 in
theorem moved_any {W : World} {v : Value} {num a d : Int} {L : List St} (h : Sl W v L) (hl : L.length ≤ 1000) (a' d' : Int) :
    Calls Try.prog 18 #[jv num v a d, .int .i64 a', .int .i64 d'] W fun e w' => ∃ x, e = .returned x ∧ Rv W w' x ⟨num, L, a', d'⟩ := by
  obtain ⟨p, cap, rfl, hn, hm⟩ := h.form
  have b2 := bel_alloc12 (W := W) (.cells #[.int .i64 num, .slice p L.length cap, .int .i64 a, .int .i64 d] 28) (.cells #[.int .i64 0, .slice none 0 0, .int .i64 0, .int .i64 0] 28)
  have HC := hide (clone_any (h.below (bel_drew b2)) hl)
  have HB0 := hide b2
  clear h b2
  go_enter Try.func18, Try.ntmps18
  go_wp2
  have HX : Hid (∀ w2, Below ((W.alloc (.cells #[.int .i64 num, .slice p L.length cap, .int .i64 a, .int .i64 d] 28)).alloc (.cells #[.int .i64 0, .slice none 0 0, .int .i64 0, .int .i64 0] 28)).drew.heap.size ((W.alloc (.cells #[.int .i64 num, .slice p L.length cap, .int .i64 a, .int .i64 d] 28)).alloc (.cells #[.int .i64 0, .slice none 0 0, .int .i64 0, .int .i64 0] 28)).drew w2 →
      Below W.heap.size W w2 ∧ w2.heap[W.heap.size]? = some (.cells #[.int .i64 num, .slice p L.length cap, .int .i64 a, .int .i64 d] 28) ∧ w2.heap[W.heap.size + 1]? = some (.cells #[.int .i64 0, .slice none 0 0, .int .i64 0, .int .i64 0] 28)) := hide (fun w2 hb => by
    have hb' : Below ((W.alloc (.cells #[.int .i64 num, .slice p L.length cap, .int .i64 a, .int .i64 d] 28)).alloc (.cells #[.int .i64 0, .slice none 0 0, .int .i64 0, .int .i64 0] 28)).heap.size ((W.alloc (.cells #[.int .i64 num, .slice p L.length cap, .int .i64 a, .int .i64 d] 28)).alloc (.cells #[.int .i64 0, .slice none 0 0, .int .i64 0, .int .i64 0] 28)) w2 := (bel_drew (Below.refl _ _)).trans hb
    exact ⟨HB0.out.trans (Below.mono hb' (by simp; omega)), box_two hb'⟩)
  go_region_held3 (fun w' => w'.cell? ⟨W.heap.size, 0, none⟩ = some (.int .i64 num) ∧ w'.cell? ⟨W.heap.size, 1, none⟩ = some (.slice p L.length cap)) (first | (exact ⟨y0, y1⟩) | go_keep)
    ((with_reducible refine HC.out.mono ?_; rintro e w2 ⟨v2, rfl, HS⟩; obtain ⟨hb2, r0, r1⟩ := HX.out w2 HS.out.2; obtain ⟨y0, y1, y2, y3⟩ := row_cells r0; obtain ⟨c0, c1, c2, c3⟩ := row_cells r1; obtain ⟨p2, cap2, rfl, hn2, hm2⟩ := HS.out.1.form; have z0 := row_free r1 0; have z1 := row_free r1 1; have z2 := row_free r1 2; have z3 := row_free r1 3; have HB2 := hide hb2; have R1 := hide r1; clear hb2 r0 r1))
  have P := put4 R1.out (.int .i64 num) (.slice p2 L.length cap2) (.int .i64 a') (.int .i64 d')
  have HB3 := hide (P.below HB2.out (by omega))
  have HR3 : Hid (Rs W.heap.size ((((w2.setCell ⟨W.heap.size + 1, 0, none⟩ (.int .i64 num)).setCell ⟨W.heap.size + 1, 1, none⟩ (.slice p2 L.length cap2)).setCell ⟨W.heap.size + 1, 2, none⟩ (.int .i64 a')).setCell ⟨W.heap.size + 1, 3, none⟩ (.int .i64 d')) (.slice p2 L.length cap2) L) := hide ((Rs.less (P.own HS.out.1 (by simp)) (by simp; omega)))
  have PR := hide P.row
  clear HS R1 HB2 HX HC HB0 P
  generalize ((((w2.setCell ⟨W.heap.size + 1, 0, none⟩ (.int .i64 num)).setCell ⟨W.heap.size + 1, 1, none⟩ (.slice p2 L.length cap2)).setCell ⟨W.heap.size + 1, 2, none⟩ (.int .i64 a')).setCell ⟨W.heap.size + 1, 3, none⟩ (.int .i64 d')) = w3 at *
  go_wp2
  (try simp only [Exit.inBlock, Exit.then])
  refine bodyPost_ret (v := .agg #[.int .i64 num, .slice p2 L.length cap2, .int .i64 a', .int .i64 d']) ?_ rfl ⟨_, rfl, _, rfl, hide ⟨HR3.out, HB3.out⟩⟩
  exact results_cell_row (p := 6) (ty := 28) Try.results18 _ _ (W.heap.size + 1) 28 _ (0, 0) _ rfl PR.out Try.underlying28 rfl sizeJb
end Go.Proofs.Ytmeigdgnfdgnhaa.Con
