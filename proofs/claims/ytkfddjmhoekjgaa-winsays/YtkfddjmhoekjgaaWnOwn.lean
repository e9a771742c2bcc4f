/- own: the same pairs, as the reference's. -/
import Derived.Test.YtkfddjmhoekjgaaWnSl
import Derived.Deep.RegionHeld3
namespace Go.Proofs.Ytkfddjmhoekjgaa.Wn
open Go.RowKit Go.Proofs.Ytkfddjmhoekjgaa.Con
set_option linter.unusedVariables false
set_option linter.unusedSimpArgs false
theorem infoRp : (Try.prog.info? 39).map (fun i => (i.zero, i.size, i.bytes)) = some (some (.agg #[.int .i64 0, .int .i64 0]), 2, 16) := by kernel_rfl
/-- A row of the reference's pairs, ours. -/
abbrev Rr (W wr : World) (v : Value) (L : List Pr) : Prop := wr.ownsRow W.heap.size 39 2 v L.length (flat L)
set_option maxHeartbeats 4000000 in
theorem own_any {W : World} {v : Value} {L : List Pr} (h : Sl W v L) (hl : L.length ≤ 1000) :
    Calls Try.prog 15 #[v] W fun e w' => ∃ v', e = .returned v' ∧ Rr W w' v' L ∧ Below W.heap.size W w' := by
  obtain ⟨p, cap, rfl, hn, hm⟩ := h.form
  obtain ⟨i0, hi, hz0, hz1, hz2⟩ := info_parts infoRp
  have H := hide h
  clear h
  have hS : Hid (∀ k, k < L.length → flat (L.take (k + 1)) = flat (L.take k) ++ [.int .i64 (at' L k).1, .int .i64 (at' L k).2]) := hide (fun k hk => flat_snoc L k hk)
  have hfin : Hid (L.take L.length = L) := hide (by rw [List.take_length])
  go_enter Try.func15, Try.ntmps15
  go_wp2
  go_loopw [3, 4] (fun t i wr => ∃ k : Nat, k ≤ L.length ∧ i = .int .i64 k ∧ Hid (wr.ownsRow W.heap.size 39 2 t k (flat (L.take k))) ∧ Hid (Below W.heap.size W wr)) (fun _ i _ => L.length - (intOf i).toNat)
  case atStart => exact ⟨0, by omega, rfl, hide (World.ownsRow_nil _ _ _ _), hide (Below.refl _ _)⟩
  case round =>
    obtain ⟨k, hk, rfl, HR, HB⟩ := hrel
    by_cases hkn : k < L.length
    · obtain ⟨b, o, rfl, hbW, q0, q1⟩ := H.out.at hkn
      have x0 := (HB.out.cell (p := ⟨b, o + k * 2, none⟩) hbW).trans q0
      have x1 := (HB.out.cell (p := ⟨b, o + k * 2 + 1, none⟩) hbW).trans q1
      have QQ : Hid (∀ w', Below W.heap.size W w' → w'.cell? ⟨b, o + k * 2, none⟩ = some (.int .i64 (at' L k).1) ∧ w'.cell? ⟨b, o + k * 2 + 1, none⟩ = some (.int .i64 (at' L k).2)) := hide (fun w' hB => ⟨(hB.cell (p := ⟨b, o + k * 2, none⟩) hbW).trans q0, (hB.cell (p := ⟨b, o + k * 2 + 1, none⟩) hbW).trans q1⟩)
      clear q0 q1
      have hk1 : (k : Int) < (L.length : Int) := by omega
      have s1 := hide (hS.out k hkn)
      generalize (at' L k).1 = z at *
      generalize (at' L k).2 = z' at *
      generalize flat (L.take k) = F at *
      obtain ⟨p0, c0, rfl⟩ := own_form HR.out
      have hsz := HB.out.size
      go_wp2
      have OW : Hid ((wr.alloc (.cells #[.int .i64 z, .int .i64 z'] 39)).drew.ownsRow W.heap.size 39 2 (.slice p0 k c0) k F) := hide (HR.out.alloc _)
      have RD : Hid (RdC (wr.alloc (.cells #[.int .i64 z, .int .i64 z'] 39)).drew (wr.heap.size + 1) 2 (.slice (some ⟨wr.heap.size, 0, none⟩) 1 1) 1 [.int .i64 z, .int .i64 z']) := hide (by
        have := rd_one (w := (wr.alloc (.cells #[.int .i64 z, .int .i64 z'] 39)).drew) (size := 2) (heap_alloc_new wr _) rfl
        simpa using this)
      have BD : Hid (Below W.heap.size W (wr.alloc (.cells #[.int .i64 z, .int .i64 z'] 39)).drew) := hide (bel_drew (bel_alloc2 HB.out _))
      go_region_held3 (fun w' => w'.cell? ⟨b, o + k * 2, none⟩ = some (.int .i64 z) ∧ w'.cell? ⟨b, o + k * 2 + 1, none⟩ = some (.int .i64 z')) (first | go_keep | (exact ⟨y0, y1⟩))
        ((refine step_append_rd (some 24) (by rfl) (by rfl) _ _ 34 (by rfl) W.heap.size 39 i0 (.agg #[.int .i64 0, .int .i64 0]) 2 16 Try.underlying34 hi hz0 hz1 hz2 rfl (by decide) (.slice p0 k c0) k F (by rfl) (by exact OW.out) _ (.slice (some ⟨wr.heap.size, 0, none⟩) 1 1) 1 [.int .i64 z, .int .i64 z'] (by rfl) (by exact RD.out) (by intro u hu; simp at hu; rcases hu with rfl | rfl <;> rfl) (k + 1) rfl _ rfl (by unfold maxLen; omega) (by omega) (by exact BD.out.size) ?_; intro p5 c5 w5 ho5 hg5 ha5 hp5; have HO := hide (And.intro ho5 (And.intro hg5 hp5)); clear ho5 hg5 ha5 hp5; obtain ⟨y0, y1⟩ := QQ.out w5 (below_grown BD.out BD.out.size HO.out.2.1 HO.out.2.2)))
      have HB5 := hide (below_grown BD.out BD.out.size HO.out.2.1 HO.out.2.2)
      have HR5 : Hid (w5.ownsRow W.heap.size 39 2 (.slice p5 (k + 1) c5) (k + 1) (flat (L.take (k + 1)))) := hide (by rw [s1.out]; exact HO.out.1)
      clear OW RD BD HO HR HB s1
      go_wp2
      go_roundw
      case rel => exact ⟨k + 1, by omega, by go_num, HR5, HB5⟩
      case measure => simp [intOf]; omega
    · obtain rfl : k = L.length := by omega
      have FE := HR.out
      rw [hfin.out] at FE
      have FE := hide FE
      go_wp2
      go_ret
      exact ⟨_, rfl, FE.out, HB.out⟩
end Go.Proofs.Ytkfddjmhoekjgaa.Wn
