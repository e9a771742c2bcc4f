/- same: two like jobs. -/
import Derived.Test.YtmeigdgnfdgnhaaJOwn
import Derived.Deep.CutBlock
import Derived.Deep.CutRange
namespace Go.Proofs.Ytmeigdgnfdgnhaa.Con
open Go.RowKit Go.Proofs.Ytmeigdgnfdgnhaa.Pm
set_option linter.unusedVariables false
set_option linter.unusedSimpArgs false
set_option maxHeartbeats 4000000 in
theorem same_any {W : World} {v u : Value} {num a d : Int} {L : List St} (hv : Sl W v L) (hu : Sl W u L) (hl : L.length ≤ 1000) :
    Calls Try.prog 12 #[jv num v a d, jv num u a d] W fun e w' => e = .returned (.bool true) ∧ Below W.heap.size W w' := by
  obtain ⟨p, cap, rfl, hn, hm⟩ := hv.form
  obtain ⟨q, cap2, rfl, hn2, hm2⟩ := hu.form
  have b2 := bel_alloc12 (W := W) (.cells #[.int .i64 num, .slice p L.length cap, .int .i64 a, .int .i64 d] 41) (.cells #[.int .i64 num, .slice q L.length cap2, .int .i64 a, .int .i64 d] 41)
  have r0 : ((W.alloc (.cells #[.int .i64 num, .slice p L.length cap, .int .i64 a, .int .i64 d] 41)).alloc (.cells #[.int .i64 num, .slice q L.length cap2, .int .i64 a, .int .i64 d] 41)).heap[W.heap.size]? = some (.cells #[.int .i64 num, .slice p L.length cap, .int .i64 a, .int .i64 d] 41) := (heap_alloc_old _ _ (by simp)).trans (heap_alloc_new W _)
  have r1 : ((W.alloc (.cells #[.int .i64 num, .slice p L.length cap, .int .i64 a, .int .i64 d] 41)).alloc (.cells #[.int .i64 num, .slice q L.length cap2, .int .i64 a, .int .i64 d] 41)).heap[W.heap.size + 1]? = some (.cells #[.int .i64 num, .slice q L.length cap2, .int .i64 a, .int .i64 d] 41) := heap_alloc_at _ _ _ (by simp)
  have HV := hide (hv.below b2)
  have HU := hide (hu.below b2)
  have HB0 := hide b2
  have R0 := hide r0
  have R1 := hide r1
  clear hv hu b2 r0 r1
  have n1 : ((L.length : Int) == (L.length : Int)) = true := by simp
  have n2 : ((L.length : Int) != (L.length : Int)) = false := by simp
  have n3 : (num != num) = false := by simp
  have n4 : (a != a) = false := by simp
  have n5 : (d != d) = false := by simp
  go_enter Try.func12, Try.ntmps12
  go_upto_region 1 with fail
  generalize (W.alloc (.cells #[.int .i64 num, .slice p L.length cap, .int .i64 a, .int .i64 d] 41)).alloc (.cells #[.int .i64 num, .slice q L.length cap2, .int .i64 a, .int .i64 d] 41) = w0 at *
  obtain ⟨x0, x1, x2, x3⟩ := row_cells R0.out
  obtain ⟨y0, y1, y2, y3⟩ := row_cells R1.out
  clear R0 R1
  go_wp2
  have hlt : W.heap.size + 1 < w0.heap.size := by
    have := HB0.out.size
    have h1 : w0.cell? ⟨W.heap.size + 1, 1, none⟩ ≠ none := by rw [y1]; simp
    exact Classical.byContradiction fun hc => h1 (by simp [World.cell?, Array.getElem?_eq_none (Nat.le_of_not_lt hc)])
  go_loopw [5] (fun i wr => ∃ k : Nat, k ≤ L.length ∧ i = .int .i64 k ∧ Hid (Below w0.heap.size w0 wr)) (fun i _ => L.length - (intOf i).toNat)
  case atStart => exact ⟨0, by omega, rfl, hide (Below.refl _ _)⟩
  case round =>
    obtain ⟨k, hk, rfl, HB⟩ := hrel
    have X0 : wr.cell? ⟨W.heap.size, 1, none⟩ = some (.slice p L.length cap) := (HB.out.cell (p := ⟨W.heap.size, 1, none⟩) (by show W.heap.size < _; omega)).trans x1
    have Y0 : wr.cell? ⟨W.heap.size + 1, 1, none⟩ = some (.slice q L.length cap2) := (HB.out.cell (p := ⟨W.heap.size + 1, 1, none⟩) hlt).trans y1
    have HB2 : Hid (∀ n, Below w0.heap.size w0 (wr.drewN n)) := hide (fun n => below_drewN HB.out n)
    by_cases hkn : k < L.length
    · obtain ⟨b, o, rfl, hb, q0, q1⟩ := (HV.out.below HB.out).at hkn
      obtain ⟨b', o', rfl, hb', q2, q3⟩ := (HU.out.below HB.out).at hkn
      have hk1 : (k : Int) < (L.length : Int) := by omega
      generalize (at' L k).1 = z at *
      generalize (at' L k).2 = z' at *
      have hd1 : decide (z = z) = true := by simp
      have hd2 : decide (z' = z') = true := by simp
      clear HB HB0 HV HU x0 x1 x2 x3 y0 y1 y2 y3
      go_wp2
      go_quiet (fail)
      go_wp2
      go_roundw
      case rel => exact ⟨k + 1, by omega, by go_num, hide (HB2.out _)⟩
      case measure => simp [intOf]; omega
    · obtain rfl : k = L.length := by omega
      have HF := hide (HB0.out.trans (Below.mono HB.out HB0.out.size))
      clear HB HB0 HV HU x0 x1 x2 x3 y0 y1 y2 y3
      go_wp2
      go_ret
      exact ⟨rfl, HF.out⟩
end Go.Proofs.Ytmeigdgnfdgnhaa.Con
