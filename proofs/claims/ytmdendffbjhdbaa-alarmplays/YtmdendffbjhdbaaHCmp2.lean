/- compare. -/
import Derived.Test.YtmdendffbjhdbaaHCmp
namespace Go.Proofs.Ytmdendffbjhdbaa.Con
open Go.RowKit Go.Proofs.Ytmdendffbjhdbaa.Hq
set_option linter.unusedVariables false
attribute [local go_sem ↓] Go.wp_at_zero Go.wp_at_succ
theorem below_drewN {B : Nat} {w w' : World} (h : Below B w w') (n : Nat) : Below B w (w'.drewN n) := h.trans ⟨rfl, rfl, rfl, Nat.le_refl _, fun _ _ => rfl⟩
set_option maxHeartbeats 4000000 in
theorem compare_any (hb : Nat) (g : Bool) (i k j m : Int) (w : World) (hg : w.cell? ⟨hb, 1, none⟩ = some (.bool g)) :
    Calls Try.prog 65 #[.pointer (some ⟨hb, 0, none⟩), .agg #[.int .i64 i, .int .i64 k], .agg #[.int .i64 j, .int .i64 m]] w fun e w' => e = .returned (.int .i64 (cf g (i, k) (j, m))) ∧ Below w.heap.size w w' := by
  have hlt := World.block_lt_of_cell? w _ hg
  have hn1 := World.new_ne w _ hg
  have hc := hide (fun x y => or_cf x y 0 0 g i k j m)
  cases g
  · go_enter Try.func65, Try.ntmps65
    go_wp2
    go_quiet (fail)
    go_wp2
    generalize hW : ((w.alloc (Obj.cells #[Value.int IntKind.i64 i, Value.int IntKind.i64 k] 63)).alloc (Obj.cells #[Value.int IntKind.i64 j, Value.int IntKind.i64 m] 63)).drewN nq = W
    have hB : Hid (Below w.heap.size w W) := by
      rw [← hW]; exact below_drewN (((Below.refl _ _).alloc (Nat.le_refl _) _).alloc (by simp) _) _
    have e0 : W.cell? ⟨w.heap.size, 0, none⟩ = some (.int .i64 i) := by rw [← hW]; simp [go_sem]
    have e1 : W.cell? ⟨w.heap.size + 1, 0, none⟩ = some (.int .i64 j) := by rw [← hW]; simp [go_sem]
    have hs : w.heap.size + 1 < W.heap.size := World.block_lt_of_cell? W _ e1
    generalize hBe : w.heap.size = B at *
    clear hW
    go_region_held3 (fun w' => w'.cell? ⟨B, 0, none⟩ = some (.int .i64 i) ∧ w'.cell? ⟨B + 1, 0, none⟩ = some (.int .i64 j)) (go_keep)
      (first
        | (go_at_call 40; refine (cmp64 _ _ _).mono ?_; rintro e w' ⟨rfl, rfl⟩)
        | (go_at_call 41; refine (cmpI _ _ _).mono ?_; rintro e w' ⟨rfl, rfl⟩)
        | (go_at_call 39; refine (or_any _ (c3 k m) (c3 i j) _ ?_ ?_).mono ?_; (simp [go_sem]); (simp [go_sem]); rintro e w' ⟨rfl, rfl⟩))
    all_goals
      go_wp2
      go_ret
      refine ⟨ret_i64 (hc.out _ _ rfl rfl), ?_⟩
      rw [hBe]
      first
        | exact (below_drewN hB.out 1).alloc (by show B ≤ W.heap.size; omega) _
        | exact below_drewN (hB.out.alloc (by show B ≤ W.heap.size; omega) _) 1
  · go_enter Try.func65, Try.ntmps65
    go_wp2
    go_quiet (fail)
    go_wp2
    generalize hW : ((w.alloc (Obj.cells #[Value.int IntKind.i64 i, Value.int IntKind.i64 k] 63)).alloc (Obj.cells #[Value.int IntKind.i64 j, Value.int IntKind.i64 m] 63)).drewN nq = W
    have hB : Hid (Below w.heap.size w W) := by
      rw [← hW]; exact below_drewN (((Below.refl _ _).alloc (Nat.le_refl _) _).alloc (by simp) _) _
    have e0 : W.cell? ⟨w.heap.size, 0, none⟩ = some (.int .i64 i) := by rw [← hW]; simp [go_sem]
    have e1 : W.cell? ⟨w.heap.size + 1, 0, none⟩ = some (.int .i64 j) := by rw [← hW]; simp [go_sem]
    have hs : w.heap.size + 1 < W.heap.size := World.block_lt_of_cell? W _ e1
    generalize hBe : w.heap.size = B at *
    clear hW
    go_region_held3 (fun w' => w'.cell? ⟨B, 0, none⟩ = some (.int .i64 i) ∧ w'.cell? ⟨B + 1, 0, none⟩ = some (.int .i64 j)) (go_keep)
      (first
        | (go_at_call 40; refine (cmp64 _ _ _).mono ?_; rintro e w' ⟨rfl, rfl⟩)
        | (go_at_call 41; refine (cmpI _ _ _).mono ?_; rintro e w' ⟨rfl, rfl⟩)
        | (go_at_call 39; refine (or_any _ (c3 m k) (c3 i j) _ ?_ ?_).mono ?_; (simp [go_sem]); (simp [go_sem]); rintro e w' ⟨rfl, rfl⟩))
    all_goals
      go_wp2
      go_ret
      refine ⟨ret_i64 (hc.out _ _ rfl rfl), ?_⟩
      rw [hBe]
      first
        | exact (below_drewN hB.out 1).alloc (by show B ≤ W.heap.size; omega) _
        | exact below_drewN (hB.out.alloc (by show B ≤ W.heap.size; omega) _) 1
end Go.Proofs.Ytmdendffbjhdbaa.Con
