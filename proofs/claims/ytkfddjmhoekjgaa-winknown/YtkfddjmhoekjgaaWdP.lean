/- plus. -/
import Derived.Test.YtkfddjmhoekjgaaWdC
import Derived.Test.YtkfddjmhoekjgaaOrdU
namespace Go.Proofs.Ytkfddjmhoekjgaa.Wd
open Go.RowKit Go.Proofs.Ytkfddjmhoekjgaa.Con Go.Proofs.Ytkfddjmhoekjgaa.Wn
set_option linter.unusedVariables false
set_option linter.unusedSimpArgs false
theorem plus_step (a b k : Nat) : ∃ s d, (dg a k + dg b k + car a b k) % 18446744073709551616 = s ∧ (dg a k + dg b k + car a b k) / 18446744073709551616 = d ∧ s = dg (a + b) k ∧ d = car a b (k + 1) :=
  ⟨_, _, rfl, rfl, (add_dg a b k).symm, (add_car a b k).symm⟩
set_option maxRecDepth 100000 in
set_option maxHeartbeats 4000000 in
theorem plus_any (a b : Nat) (W : World) : Calls Try.prog 27 #[.agg (wv a), .agg (wv b)] W fun e w' => e = .returned (.agg (wv (a + b))) ∧ Nx W w' := by
  rw [← wf_dg, ← wf_dg, ← wf_dg]
  have HS := hide (plus_step a b)
  go_enter Try.func27, Try.ntmps27
  go_wp2
  go_loopw [5, 6, 7] (fun c _ i wr => ∃ k : Nat, k ≤ 32 ∧ i = .int .i64 (k : Int) ∧ c = .int .u64 ((car a b k : Nat) : Int) ∧ Hid (An wr W.heap.size (mix (dg a) (dg (a + b)) k)) ∧ Hid (An wr (W.heap.size + 1) (dg b)) ∧ Hid (An wr (W.heap.size + 2) (fun _ => 0)) ∧ Hid (Below W.heap.size W wr)) (fun _ _ i _ => 32 - (intOf i).toNat)
  case atStart =>
    refine ⟨0, by omega, rfl, by rw [car_0]; rfl, hide ?_, hide ?_, hide ?_, hide ?_⟩
    · rw [mix_0]
      exact ((An.new W (dg a)).alloc _).alloc _
    · have := (An.new (W.alloc (.cells (wf (dg a)) 53)) (dg b)).alloc (.cells (wf fun _ => 0) 53)
      rw [wf_zeros]
      simpa using this
    · have := An.new ((W.alloc (.cells (wf (dg a)) 53)).alloc (.cells (wf (dg b)) 53)) (fun _ => 0)
      rw [wf_zeros]
      simpa using this
    · exact bel_alloc2 (bel_alloc2 (bel1 _) _) _
  case round =>
    obtain ⟨k, hk, rfl, rfl, HA, HC, HZ, HB⟩ := hrel
    by_cases hlt : k < 32
    · have hk1 : (k : Int) < 32 := by omega
      obtain ⟨s, d, e1, e2, e3, e4⟩ := HS.out k
      have hx := HA.out.cell k hlt
      rw [mix_at] at hx
      have hy := HC.out.cell k hlt
      have hf := HA.out.frozen k
      have HA64 := hide (fun w => add64 (dg a k) (dg b k) (car a b k) s d (car_le a b k) e1 e2 w)
      have HF := hide (And.intro e3 e4)
      have HAs := hide (HA.out.set k hlt s)
      have HCs := hide (HC.out.other ⟨W.heap.size, k, none⟩ (by simp) (.int .u64 (s : Int)))
      have HZs := hide (HZ.out.other ⟨W.heap.size, k, none⟩ (by simp) (.int .u64 (s : Int)))
      have HBs := hide (HB.out.setCell (p := ⟨W.heap.size, k, none⟩) (by simp) (.int .u64 (s : Int)))
      clear e1 e2 e3 e4 HA HC HZ HB HS
      generalize dg a k = x at *
      generalize dg b k = y at *
      generalize car a b k = c at *
      go_wp2
      as_aux_lemma =>
        refine wp_region_noPanic ?_
        refine OrdU.region_U (S := fun w' => w'.cell? ⟨W.heap.size, k, none⟩ = some (.int .u64 (x : Int)) ∧ w'.cell? ⟨W.heap.size + 1, k, none⟩ = some (.int .u64 (y : Int))) [13, 14] (by kernel_rfl) ?_ (fun hHeld => ?_)
        · exact ⟨hx, hy⟩
        refine OrdU.AnyU.takeP (i := 0) (v := ?_) (some 11) (by rfl) (by rfl) (by kernel_rfl) (by kernel_rfl) (by kernel_rfl) (fun _ _ _ h => h) (Or.inl ⟨by rfl, ?_⟩) ?_
        rotate_left
        · intro w _; first | (go_simp; done) | (go_simp; with_reducible rfl)
        (try simp only [Act.put, List.setIfInBounds_toArray, List.set_cons_zero, List.set_cons_succ])
        refine OrdU.AnyU.takeP (i := 1) (v := ?_) (some 12) (by rfl) (by rfl) (by kernel_rfl) (by kernel_rfl) (by kernel_rfl) (fun _ _ _ h => h) (Or.inl ⟨by rfl, ?_⟩) ?_
        rotate_left
        · intro w _; first | (go_simp; done) | (go_simp; with_reducible rfl)
        (try simp only [Act.put, List.setIfInBounds_toArray, List.set_cons_zero, List.set_cons_succ])
        refine OrdU.AnyU.takeP (i := 2) (v := ?_) (some 13) (by rfl) (by rfl) (by kernel_rfl) (by kernel_rfl) (by kernel_rfl) (fun _ _ _ h => h) (Or.inl ⟨by rfl, ?_⟩) ?_
        rotate_left
        · intro w _; first | (go_simp; done) | (go_simp; with_reducible rfl)
        (try simp only [Act.put, List.setIfInBounds_toArray, List.set_cons_zero, List.set_cons_succ])
        refine OrdU.AnyU.take (i := 3) (v := ?_) (some 14) (by rfl) (by rfl) (by kernel_rfl) (by kernel_rfl) (by kernel_rfl) (by kernel_rfl) (fun _ _ _ h => h) (Or.inl ⟨by rfl, ?_⟩) (by assumption) ?_
        rotate_left
        · intro w hSw; (try dsimp only at hSw); first | (go_simp; done) | (go_simp; with_reducible rfl)
        (try simp only [Act.put, List.setIfInBounds_toArray, List.set_cons_zero, List.set_cons_succ])
        refine OrdU.AnyU.takeP (i := 4) (v := ?_) (some 15) (by rfl) (by rfl) (by kernel_rfl) (by kernel_rfl) (by kernel_rfl) (fun _ _ _ h => h) (Or.inl ⟨by rfl, ?_⟩) ?_
        rotate_left
        · intro w _; first | (go_simp; done) | (go_simp; with_reducible rfl)
        (try simp only [Act.put, List.setIfInBounds_toArray, List.set_cons_zero, List.set_cons_succ])
        refine OrdU.AnyU.takeP (i := 5) (v := ?_) (some 16) (by rfl) (by rfl) (by kernel_rfl) (by kernel_rfl) (by kernel_rfl) (fun _ _ _ h => h) (Or.inl ⟨by rfl, ?_⟩) ?_
        rotate_left
        · intro w _; first | (go_simp; done) | (go_simp; with_reducible rfl)
        (try simp only [Act.put, List.setIfInBounds_toArray, List.set_cons_zero, List.set_cons_succ])
        refine OrdU.AnyU.take (i := 6) (v := ?_) (some 17) (by rfl) (by rfl) (by kernel_rfl) (by kernel_rfl) (by kernel_rfl) (by kernel_rfl) (fun _ _ _ h => h) (Or.inl ⟨by rfl, ?_⟩) (by assumption) ?_
        rotate_left
        · intro w hSw; (try dsimp only at hSw); first | (go_simp; done) | (go_simp; with_reducible rfl)
        (try simp only [Act.put, List.setIfInBounds_toArray, List.set_cons_zero, List.set_cons_succ])
        refine OrdU.AnyU.takeP (i := 7) (v := ?_) (some 18) (by rfl) (by rfl) (by kernel_rfl) (by kernel_rfl) (by kernel_rfl) (fun _ _ _ h => h) (Or.inl ⟨by rfl, ?_⟩) ?_
        rotate_left
        · intro w _; first | (go_simp; done) | (go_simp; with_reducible rfl)
        (try simp only [Act.put, List.setIfInBounds_toArray, List.set_cons_zero, List.set_cons_succ])
        refine OrdU.AnyU.takeP (i := 8) (v := .tuple #[.int .u64 (s : Int), .int .u64 (d : Int)]) (some 19) (by rfl) (by rfl) (by kernel_rfl) (by kernel_rfl) (by kernel_rfl) (fun _ _ _ h => h) (Or.inl ⟨by rfl, ?_⟩) ?_
        · intro w _; exact exec_call (by rfl) (by simp only [List.map_toArray, List.map_cons, List.map_nil]; rfl) (HA64.out w)
        (try simp only [Act.put, List.setIfInBounds_toArray, List.set_cons_zero, List.set_cons_succ])
        refine OrdU.AnyU.takeP (i := 9) (v := ?_) (some 10) (by rfl) (by rfl) (by kernel_rfl) (by kernel_rfl) (by kernel_rfl) (fun _ _ _ h => h) (Or.inl ⟨by rfl, ?_⟩) ?_
        rotate_left
        · intro w _; first | (go_simp; done) | (go_simp; with_reducible rfl)
        (try simp only [Act.put, List.setIfInBounds_toArray, List.set_cons_zero, List.set_cons_succ])
        refine OrdU.AnyU.takeP (i := 10) (v := ?_) (some 20) (by rfl) (by rfl) (by kernel_rfl) (by kernel_rfl) (by kernel_rfl) (fun _ _ _ h => h) (Or.inl ⟨by rfl, ?_⟩) ?_
        rotate_left
        · intro w _; first | (go_simp; done) | (go_simp; with_reducible rfl)
        (try simp only [Act.put, List.setIfInBounds_toArray, List.set_cons_zero, List.set_cons_succ])
        refine OrdU.AnyU.takeP (i := 11) (v := ?_) (some 21) (by rfl) (by rfl) (by kernel_rfl) (by kernel_rfl) (by kernel_rfl) (fun _ _ _ h => h) (Or.inl ⟨by rfl, ?_⟩) ?_
        rotate_left
        · intro w _; first | (go_simp; done) | (go_simp; with_reducible rfl)
        (try simp only [Act.put, List.setIfInBounds_toArray, List.set_cons_zero, List.set_cons_succ])
        refine OrdU.AnyU.takeP (i := 12) (v := ?_) (some 22) (by rfl) (by rfl) (by kernel_rfl) (by kernel_rfl) (by kernel_rfl) (fun _ _ _ h => h) (Or.inl ⟨by rfl, ?_⟩) ?_
        rotate_left
        · intro w _; first | (go_simp; done) | (go_simp; with_reducible rfl)
        (try simp only [Act.put, List.setIfInBounds_toArray, List.set_cons_zero, List.set_cons_succ])
        clear hHeld
        refine OrdU.AnyU.one (i := 13) (by kernel_rfl) (by rfl) (fun K hK => ?_)
        go_simp
        refine hK.out _ _ (fun _ h => absurd (by decide) h) ?_
        clear hK K
        (try simp only [Act.put, List.setIfInBounds_toArray, List.set_cons_zero, List.set_cons_succ])
        refine OrdU.AnyU.one (i := 14) (by kernel_rfl) (by rfl) (fun K hK => ?_)
        go_simp
        refine hK.out _ _ (fun _ h => absurd (by decide) h) ?_
        clear hK K
        (try simp only [Act.put, List.setIfInBounds_toArray, List.set_cons_zero, List.set_cons_succ])
        refine OrdU.AnyU.done (by kernel_rfl) ?_ _
        refine NoPanic.normal ?_
        go_wp2
        go_roundw
        case rel =>
          refine ⟨k + 1, by omega, by go_num, by rw [← HF.out.2], ?_, HCs, HZs, hide (bel_drew HBs.out)⟩
          rw [← mix_s, ← HF.out.1]; exact HAs
        case measure => simp [intOf]; omega
    · obtain rfl : k = 32 := by omega
      have HA1 : Hid (wr.heap[W.heap.size]? = some (.cells (wf (dg (a + b))) 53 (0, 0))) := hide (by
        have := HA.out; unfold An at this; rwa [mix_32] at this)
      have HZ1 := hide (HZ.out.row (dg (a + b)))
      have HB1 := hide (below_setRow HB.out (g := W.heap.size + 2) (by omega) (wf (dg (a + b))))
      go_wp2_with (first
        | (refine wpList_load_row rfl 53 (.tmp 2) rfl (W.heap.size) rfl _ (wf (dg (a + b))) (0, 0) _ HA1.out underW rfl (sizeW _) ?_)
        | (refine wpList_store_row rfl 53 (.tmp 4) (.tmp 24) rfl (W.heap.size + 2) (wf (dg (a + b))) rfl rfl _ (wf fun _ => 0) HZ.out (sizeW _) (by rw [wf_size, wf_size]) (wf_one _) ?_))
      refine bodyPost_ret (v := .agg (wf (dg (a + b)))) ?_ rfl ⟨rfl, HB1.out⟩
      exact results_cell_row (p := 4) (ty := 53) Try.results27 _ _ (W.heap.size + 2) 53 (wf (dg (a + b))) (0, 0) _ rfl HZ1.out underW rfl (sizeW _)
end Go.Proofs.Ytkfddjmhoekjgaa.Wd
