/- own: the same steps, as the reference's. -/
import Derived.Test.YtmeigdgnfdgnhaaJMov
import Derived.Deep.RegionHeld3
namespace Go.Proofs.Ytmeigdgnfdgnhaa.Con
open Go.RowKit Go.Proofs.Ytmeigdgnfdgnhaa.Pm
set_option linter.unusedVariables false
set_option linter.unusedSimpArgs false
theorem infoRs : (Try.prog.info? 51).map (fun i => (i.zero, i.size, i.bytes)) = some (some (.agg #[.int .i64 0, .int .i64 0]), 2, 16) := by kernel_rfl
theorem flat_snoc (L : List St) (k : Nat) (s : St) (h : L[k]? = some s) : flat (L.take (k + 1)) = flat (L.take k) ++ [.int .i64 s.1, .int .i64 s.2] := by
  rw [take_snoc L k s h, flat_app]; rfl
/-- A row of the reference's steps, ours. -/
abbrev Rr (W wr : World) (v : Value) (L : List St) : Prop := wr.ownsRow W.heap.size 51 2 v L.length (flat L)
set_option maxHeartbeats 4000000 in
theorem own_any {W : World} {v : Value} {L : List St} (h : Sl W v L) (hl : L.length ≤ 1000) :
    Calls Try.prog 19 #[v] W fun e w' => ∃ v', e = .returned v' ∧ Rr W w' v' L ∧ Below W.heap.size W w' := by
  obtain ⟨p, cap, rfl, hn, hm⟩ := h.form
  obtain ⟨i0, hi, hz0, hz1, hz2⟩ := info_parts infoRs
  have H := hide h
  clear h
  have hS : Hid (∀ k, k < L.length → flat (L.take (k + 1)) = flat (L.take k) ++ [.int .i64 (at' L k).1, .int .i64 (at' L k).2]) := hide (fun k hk => flat_snoc L k _ (at_eq hk))
  have hfin : Hid (L.take L.length = L) := hide (by rw [List.take_length])
  go_enter Try.func19, Try.ntmps19
  go_wp2
  go_loopw [3, 4] (fun t i wr => ∃ k : Nat, k ≤ L.length ∧ i = .int .i64 k ∧ Hid (wr.ownsRow W.heap.size 51 2 t k (flat (L.take k))) ∧ Hid (Below W.heap.size W wr)) (fun _ i _ => L.length - (intOf i).toNat)
  case atStart => exact ⟨0, by omega, rfl, hide (World.ownsRow_nil _ _ _ _), hide (Below.refl _ _)⟩
  case round =>
    obtain ⟨k, hk, rfl, HR, HB⟩ := hrel
    by_cases hkn : k < L.length
    · obtain ⟨b, o, rfl, hbW, q0, q1⟩ := H.out.at hkn
      have x0 := (HB.out.cell (p := ⟨b, o + k * 2, none⟩) hbW).trans q0
      have x1 := (HB.out.cell (p := ⟨b, o + k * 2 + 1, none⟩) hbW).trans q1
      have QQ : Hid (∀ w', Below W.heap.size W w' → w'.cell? ⟨b, o + k * 2, none⟩ = some (.int .i64 (at' L k).1) ∧ w'.cell? ⟨b, o + k * 2 + 1, none⟩ = some (.int .i64 (at' L k).2)) := hide (fun w' hB => ⟨(hB.cell (p := ⟨b, o + k * 2, none⟩) hbW).trans q0, (hB.cell (p := ⟨b, o + k * 2 + 1, none⟩) hbW).trans q1⟩)
      clear q0 q1
      have hk1 : (k : Int) < (L.length : Int) := by omega
      have s1 := hide (hS.out k hkn)
      generalize (at' L k).1 = z at *
      generalize (at' L k).2 = z' at *
      generalize flat (L.take k) = F at *
      obtain ⟨p0, c0, rfl⟩ := own_form HR.out
      have hsz := HB.out.size
      go_wp2
      have OW : Hid ((wr.alloc (.cells #[.int .i64 z, .int .i64 z'] 51)).drew.ownsRow W.heap.size 51 2 (.slice p0 k c0) k F) := hide (HR.out.alloc _)
      have RD : Hid (RdC (wr.alloc (.cells #[.int .i64 z, .int .i64 z'] 51)).drew (wr.heap.size + 1) 2 (.slice (some ⟨wr.heap.size, 0, none⟩) 1 1) 1 [.int .i64 z, .int .i64 z']) := hide (by
        have := rd_one (w := (wr.alloc (.cells #[.int .i64 z, .int .i64 z'] 51)).drew) (size := 2) (heap_alloc_new wr _) rfl
        simpa using this)
      have BD : Hid (Below W.heap.size W (wr.alloc (.cells #[.int .i64 z, .int .i64 z'] 51)).drew) := hide (bel_drew (bel_alloc2 HB.out _))
      go_region_held3 (fun w' => w'.cell? ⟨b, o + k * 2, none⟩ = some (.int .i64 z) ∧ w'.cell? ⟨b, o + k * 2 + 1, none⟩ = some (.int .i64 z')) (first | go_keep | (exact ⟨y0, y1⟩))
        ((refine step_append_rd (some 24) (by rfl) (by rfl) _ _ 39 (by rfl) W.heap.size 51 i0 (.agg #[.int .i64 0, .int .i64 0]) 2 16 Try.underlying39 hi hz0 hz1 hz2 rfl (by decide) (.slice p0 k c0) k F (by rfl) (by exact OW.out) _ (.slice (some ⟨wr.heap.size, 0, none⟩) 1 1) 1 [.int .i64 z, .int .i64 z'] (by rfl) (by exact RD.out) (by intro u hu; simp at hu; rcases hu with rfl | rfl <;> rfl) (k + 1) rfl _ rfl (by unfold maxLen; omega) (by omega) (by exact BD.out.size) ?_; intro p5 c5 w5 ho5 hg5 ha5 hp5; have HO := hide (And.intro ho5 (And.intro hg5 hp5)); clear ho5 hg5 ha5 hp5; obtain ⟨y0, y1⟩ := QQ.out w5 (below_grown BD.out BD.out.size HO.out.2.1 HO.out.2.2)))
      have HB5 := hide (below_grown BD.out BD.out.size HO.out.2.1 HO.out.2.2)
      have HR5 : Hid (w5.ownsRow W.heap.size 51 2 (.slice p5 (k + 1) c5) (k + 1) (flat (L.take (k + 1)))) := hide (by rw [s1.out]; exact HO.out.1)
      clear OW RD BD HO HR HB s1
      go_wp2
      go_roundw
      case rel => exact ⟨k + 1, by omega, by go_num, HR5, HB5⟩
      case measure => simp [intOf]; omega
    · obtain rfl : k = L.length := by omega
      have FE := HR.out
      rw [hfin.out] at FE
      have FE := hide FE
      go_wp2
      go_ret
      exact ⟨_, rfl, FE.out, HB.out⟩
/-- .. of a job. -/
theorem sizeJr : (Try.prog.info? 41).map (·.size) = some 4 := by kernel_rfl
set_option maxHeartbeats 4000000 in
theorem ownJ_any {W : World} {v : Value} {num a d : Int} {L : List St} (h : Sl W v L) (hl : L.length ≤ 1000) :
    Calls Try.prog 13 #[jv num v a d] W fun e w' => ∃ u, e = .returned (jv num u a d) ∧ Hid (Sl w' u L ∧ Below W.heap.size W w') := by
  obtain ⟨p, cap, rfl, hn, hm⟩ := h.form
  have b2 := bel_alloc12 (W := W) (.cells #[.int .i64 num, .slice p L.length cap, .int .i64 a, .int .i64 d] 28) (.cells #[.int .i64 0, .slice none 0 0, .int .i64 0, .int .i64 0] 41)
  have r0 : ((W.alloc (.cells #[.int .i64 num, .slice p L.length cap, .int .i64 a, .int .i64 d] 28)).alloc (.cells #[.int .i64 0, .slice none 0 0, .int .i64 0, .int .i64 0] 41)).heap[W.heap.size]? = some (.cells #[.int .i64 num, .slice p L.length cap, .int .i64 a, .int .i64 d] 28) := (heap_alloc_old _ _ (by simp)).trans (heap_alloc_new W _)
  have r1 : ((W.alloc (.cells #[.int .i64 num, .slice p L.length cap, .int .i64 a, .int .i64 d] 28)).alloc (.cells #[.int .i64 0, .slice none 0 0, .int .i64 0, .int .i64 0] 41)).heap[W.heap.size + 1]? = some (.cells #[.int .i64 0, .slice none 0 0, .int .i64 0, .int .i64 0] 41) := heap_alloc_at _ _ _ (by simp)
  have HL := hide (h.below b2)
  have HB0 := hide b2
  have R0 := hide r0
  have R1 := hide r1
  clear h b2 r0 r1
  go_enter Try.func13, Try.ntmps13
  go_wp2
  generalize (W.alloc (.cells #[.int .i64 num, .slice p L.length cap, .int .i64 a, .int .i64 d] 28)).alloc (.cells #[.int .i64 0, .slice none 0 0, .int .i64 0, .int .i64 0] 41) = w0 at *
  obtain ⟨x0, x1, x2, x3⟩ := row_cells R0.out
  have HC := hide (own_any (HL.out.below (bel_drew (Below.refl _ _) : Below w0.heap.size w0 w0.drew)) hl)
  have hlt : W.heap.size + 1 < w0.heap.size := (Array.getElem?_eq_some_iff.1 R1.out).1
  have HX : Hid (∀ w2, Below w0.drew.heap.size w0.drew w2 → Below W.heap.size W w2 ∧ w2.heap[W.heap.size]? = some (.cells #[.int .i64 num, .slice p L.length cap, .int .i64 a, .int .i64 d] 28) ∧ w2.heap[W.heap.size + 1]? = some (.cells #[.int .i64 0, .slice none 0 0, .int .i64 0, .int .i64 0] 41)) := hide (fun w2 hb =>
    ⟨(bel_drew HB0.out).trans (Below.mono hb HB0.out.size), (hb.block _ (by show _ < w0.heap.size; omega)).trans R0.out, (hb.block _ hlt).trans R1.out⟩)
  clear R0 R1 HL HB0
  go_region_held3 (fun w' => w'.cell? ⟨W.heap.size, 0, none⟩ = some (.int .i64 num) ∧ w'.cell? ⟨W.heap.size, 1, none⟩ = some (.slice p L.length cap) ∧ w'.cell? ⟨W.heap.size, 2, none⟩ = some (.int .i64 a) ∧ w'.cell? ⟨W.heap.size, 3, none⟩ = some (.int .i64 d)) (first | (exact ⟨y0, y1, y2, y3⟩) | go_keep)
    ((with_reducible refine HC.out.mono ?_; rintro e w2 ⟨v2, rfl, HR, hbb⟩; obtain ⟨hb2, r0, r1⟩ := HX.out w2 hbb; obtain ⟨y0, y1, y2, y3⟩ := row_cells r0; obtain ⟨c0, c1, c2, c3⟩ := row_cells r1; obtain ⟨p2, cap2, rfl⟩ := own_form HR; have z0 := row_free r1 0; have z1 := row_free r1 1; have z2 := row_free r1 2; have z3 := row_free r1 3; have HB2 := hide hb2; have R2 := hide r1; have HRR := hide HR; clear hb2 r0 r1 HR hbb))
  have P := put4 R2.out (.int .i64 num) (.slice p2 L.length cap2) (.int .i64 a) (.int .i64 d)
  have HB3 := hide (P.below HB2.out (by omega))
  have HR3 : Hid (Sl ((((w2.setCell ⟨W.heap.size + 1, 0, none⟩ (.int .i64 num)).setCell ⟨W.heap.size + 1, 1, none⟩ (.slice p2 L.length cap2)).setCell ⟨W.heap.size + 1, 2, none⟩ (.int .i64 a)).setCell ⟨W.heap.size + 1, 3, none⟩ (.int .i64 d)) (.slice p2 L.length cap2) L) := hide (Sl.own (P.own HRR.out hlt))
  have PR := hide P.row
  obtain ⟨q0, q1, q2, q3⟩ := row_cells P.row
  clear HRR R2 HB2 HX HC P
  generalize ((((w2.setCell ⟨W.heap.size + 1, 0, none⟩ (.int .i64 num)).setCell ⟨W.heap.size + 1, 1, none⟩ (.slice p2 L.length cap2)).setCell ⟨W.heap.size + 1, 2, none⟩ (.int .i64 a)).setCell ⟨W.heap.size + 1, 3, none⟩ (.int .i64 d)) = w3 at *
  go_wp2
  (try simp only [Exit.inBlock, Exit.then])
  refine bodyPost_ret (v := .agg #[.int .i64 num, .slice p2 L.length cap2, .int .i64 a, .int .i64 d]) ?_ rfl ⟨_, rfl, hide ⟨HR3.out, HB3.out⟩⟩
  exact results_cell_row (p := 2) (ty := 41) Try.results13 _ _ (W.heap.size + 1) 41 _ (0, 0) _ rfl PR.out Try.underlying41 rfl sizeJr
end Go.Proofs.Ytmeigdgnfdgnhaa.Con
