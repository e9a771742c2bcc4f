/- times. -/
import Derived.Test.YtkfddjmhoekjgabWdC
namespace Go.Proofs.Ytkfddjmhoekjgab.Wd
open Go.RowKit Go.Proofs.Ytkfddjmhoekjgab.Con Go.Proofs.Ytkfddjmhoekjgab.Wn
set_option linter.unusedVariables false
set_option linter.unusedSimpArgs false
theorem times_step (a n k : Nat) (hn0 : 0 < n) (hn : n < 9223372036854775808) : ∃ hi lo s d, dg a k * n / 18446744073709551616 = hi ∧ dg a k * n % 18446744073709551616 = lo ∧
    (lo + ab a n k) % 18446744073709551616 = s ∧ (lo + ab a n k) / 18446744073709551616 = d ∧ s = dg (a * n) k ∧ hi + d = ab a n (k + 1) ∧ hi + d < 18446744073709551616 := by
  refine ⟨_, _, _, _, rfl, rfl, rfl, rfl, ?_, ?_, ?_⟩
  · rw [mul_dg]; omega
  · rw [mul_ab]; omega
  · have h1 := ab_lt a n (k + 1) hn0
    rw [mul_ab] at h1
    omega
set_option maxRecDepth 100000 in
set_option maxHeartbeats 4000000 in
theorem times_any (a n : Nat) (hn0 : 0 < n) (hn : n < 9223372036854775808) (W : World) : Calls Try.prog 14 #[.agg (wv a), .int .i64 (n : Int)] W fun e w' => e = .returned (.agg (wv (a * n))) ∧ Nx W w' := by
  rw [← wf_dg, ← wf_dg]
  have HS := hide (fun k => times_step a n k hn0 hn)
  have HD := hide (dg_lt a)
  have n0 : (0 : Int) ≤ (n : Int) := by omega
  have n1 : (n : Int) < 9223372036854775808 := by omega
  go_enter Try.func14, Try.ntmps14
  go_wp2
  go_loopw [5, 6, 7, 8, 9, 10, 11] (fun c _ _ _ _ _ i wr => ∃ k : Nat, k ≤ 32 ∧ i = .int .i64 (k : Int) ∧ c = .int .u64 ((ab a n k : Nat) : Int) ∧ Hid (An wr W.heap.size (mix (dg a) (dg (a * n)) k)) ∧ Hid (An wr (W.heap.size + 1) (fun _ => 0)) ∧ Hid (Below W.heap.size W wr)) (fun _ _ _ _ _ _ i _ => 32 - (intOf i).toNat)
  case atStart =>
    refine ⟨0, by omega, rfl, by rw [ab_0]; rfl, hide ?_, hide ?_, hide ?_⟩
    · rw [mix_0]
      exact (An.new W (dg a)).alloc _
    · rw [wf_zeros]
      have := An.new (W.alloc (.cells (wf (dg a)) 40)) (fun _ => 0)
      simpa using this
    · exact bel_alloc2 (bel1 _) _
  case round =>
    obtain ⟨k, hk, rfl, rfl, HA, HZ, HB⟩ := hrel
    by_cases hlt : k < 32
    · have hk1 : (k : Int) < 32 := by omega
      obtain ⟨hi, lo, s, d, e1, e2, e3, e4, e5, e6, e7⟩ := HS.out k
      have hx := HA.out.cell k hlt
      rw [mix_at] at hx
      have hf := HA.out.frozen k
      have HM := hide (fun w => mul64 (dg a k) n hi lo (HD.out k) (by omega) e1 e2 w)
      have HA64 := hide (fun w => add64_0 lo (ab a n k) s d e3 e4 w)
      have HF := hide (And.intro e5 e6)
      have c0 : (0 : Int) ≤ (hi : Int) + (d : Int) := by omega
      have c1 : (hi : Int) + (d : Int) < 18446744073709551616 := by omega
      have HAs := hide (HA.out.set k hlt s)
      have HZs := hide (HZ.out.other ⟨W.heap.size, k, none⟩ (by simp) (.int .u64 (s : Int)))
      have HBs := hide (HB.out.setCell (p := ⟨W.heap.size, k, none⟩) (by simp) (.int .u64 (s : Int)))
      have xs : (wr.cell? ⟨W.heap.size, k, none⟩).isSome = true := by rw [hx]; rfl
      clear e1 e2 e3 e4 e5 e6 e7 HA HZ HB
      generalize dg a k = x at *
      generalize ab a n k = c at *
      go_wp2_with (first | (go_at_call 20; refine (HM.out _).mono ?_; rintro e w9 ⟨rfl, hw9⟩; rw [hw9]; clear hw9) | simp only [HA64.out])
      go_round
      case rel =>
        refine ⟨k + 1, by omega, by go_num, ?_, ?_, HZs, HBs⟩
        · rw [← HF.out.2]; simp
        · rw [← mix_s, ← HF.out.1]; exact HAs
      case measure => simp [intOf]; omega
    · obtain rfl : k = 32 := by omega
      have HA1 : Hid (wr.heap[W.heap.size]? = some (.cells (wf (dg (a * n))) 40 (0, 0))) := hide (by
        have := HA.out; unfold An at this; rwa [mix_32] at this)
      have HZ1 := hide (HZ.out.row (dg (a * n)))
      have HB1 := hide (below_setRow HB.out (g := W.heap.size + 1) (by omega) (wf (dg (a * n))))
      go_wp2_with (first
        | (refine wpList_load_row rfl 40 (.tmp 2) rfl (W.heap.size) rfl _ (wf (dg (a * n))) (0, 0) _ HA1.out underW rfl (sizeW _) ?_)
        | (refine wpList_store_row rfl 40 (.tmp 4) (.tmp 36) rfl (W.heap.size + 1) (wf (dg (a * n))) rfl rfl _ (wf fun _ => 0) HZ.out (sizeW _) (by rw [wf_size, wf_size]) (wf_one _) ?_))
      refine bodyPost_ret (v := .agg (wf (dg (a * n)))) ?_ rfl ⟨rfl, HB1.out⟩
      exact results_cell_row (p := 4) (ty := 40) Try.results14 _ _ (W.heap.size + 1) 40 (wf (dg (a * n))) (0, 0) _ rfl HZ1.out underW rfl (sizeW _)
end Go.Proofs.Ytkfddjmhoekjgab.Wd
