/- compare, Less, byTurn: what the landed code answers. -/
import Derived.Test.YtacbiiiadalocaaEdCon
import Derived.Test.YtacbiiiadalocaaEdAp
import Derived.Test.YtacbiiiadalocaaEdRf
import Derived.Test.YtacbiiiadalocaaEdSp
import Derived.Deep.RegionHeld3
import Derived.Deep.DrawnRows
import Derived.Sort.Grow
namespace Go.Proofs.Ytacbiiiadalocaa.Ed
open Go.RowKit Go.Proofs.Ytacbiiiadalocaa.Con
open Go.Sort (grow grow_grow alloc_eq_grow)
set_option linter.unusedVariables false
set_option linter.unusedSimpArgs false
attribute [local go_sem ↓] Go.wp_at_zero Go.wp_at_succ
theorem ret_i64 {a b : Int} (h : a = b) : Ending.returned (.int .i64 a) = .returned (.int .i64 b) := by rw [h]
theorem ret_bool {a b : Bool} (h : a = b) : Ending.returned (.bool a) = .returned (.bool b) := by rw [h]
def c3 (a b : Int) : Int := if a < b then -1 else if b < a then 1 else 0
def or2 (x y : Int) : Int := if x ≠ 0 then x else y
def cfL (a b : Et) : Int := or2 (c3 a.2.1 b.2.1) (c3 a.1 b.1)
def cfT (a b : Et) : Int := if a.2.2 = b.2.2 then cfL a b else if a.2.2 = true then -1 else 1
theorem cfL_lt (a b : Et) : decide (cfL a b < 0) = lessB a b := by
  unfold cfL or2 c3 lessB
  apply decide_eq_decide.2
  by_cases h1 : a.2.1 < b.2.1
  · simp [h1]
  · by_cases h2 : b.2.1 < a.2.1
    · simp [h1, h2]; omega
    · have e : a.2.1 = b.2.1 := by omega
      by_cases h3 : a.1 < b.1
      · simp [h1, h2, h3, e]
      · by_cases h4 : b.1 < a.1
        · simp [h1, h2, h3, h4, e]
        · simp [h1, h2, h3, h4, e]
theorem cfT_lt (a b : Et) : decide (cfT a b < 0) = bef a b := by
  unfold cfT bef
  cases ha : a.2.2 <;> cases hb : b.2.2
  · simp [cfL_lt]
  · simp
  · simp
  · simp [cfL_lt]
theorem nan64 (x : Int) (w : World) : Calls Try.prog 55 #[.int .i64 x] w fun e w' => e = .returned (.bool false) ∧ w' = w := by
  go_enter Try.func55, Try.ntmps55
  go_wp2
  go_ret
  exact ⟨rfl, rfl⟩
theorem nanI (x : Int) (w : World) : Calls Try.prog 56 #[.int .i64 x] w fun e w' => e = .returned (.bool false) ∧ w' = w := by
  go_enter Try.func56, Try.ntmps56
  go_wp2
  go_ret
  exact ⟨rfl, rfl⟩
theorem cmp64 (x y : Int) (w : World) : Calls Try.prog 41 #[.int .i64 x, .int .i64 y] w fun e w' => e = .returned (.int .i64 (c3 x y)) ∧ w' = w := by
  by_cases h : x < y
  · have hc := hide (show c3 x y = -1 by unfold c3; rw [if_pos h])
    go_enter Try.func41, Try.ntmps41
    go_wp2_with (go_at_call 55; refine (nan64 _ _).mono ?_; rintro e w' ⟨rfl, rfl⟩)
    go_ret
    exact ⟨ret_i64 hc.out.symm, rfl⟩
  · by_cases h' : y < x
    · have hc := hide (show c3 x y = 1 by unfold c3; rw [if_neg h, if_pos h'])
      go_enter Try.func41, Try.ntmps41
      go_wp2_with (go_at_call 55; refine (nan64 _ _).mono ?_; rintro e w' ⟨rfl, rfl⟩)
      go_ret
      exact ⟨ret_i64 hc.out.symm, rfl⟩
    · have hc := hide (show c3 x y = 0 by unfold c3; rw [if_neg h, if_neg h'])
      go_enter Try.func41, Try.ntmps41
      go_wp2_with (go_at_call 55; refine (nan64 _ _).mono ?_; rintro e w' ⟨rfl, rfl⟩)
      go_ret
      exact ⟨ret_i64 hc.out.symm, rfl⟩
theorem cmpI (x y : Int) (w : World) : Calls Try.prog 42 #[.int .i64 x, .int .i64 y] w fun e w' => e = .returned (.int .i64 (c3 x y)) ∧ w' = w := by
  by_cases h : x < y
  · have hc := hide (show c3 x y = -1 by unfold c3; rw [if_pos h])
    go_enter Try.func42, Try.ntmps42
    go_wp2_with (go_at_call 56; refine (nanI _ _).mono ?_; rintro e w' ⟨rfl, rfl⟩)
    go_ret
    exact ⟨ret_i64 hc.out.symm, rfl⟩
  · by_cases h' : y < x
    · have hc := hide (show c3 x y = 1 by unfold c3; rw [if_neg h, if_pos h'])
      go_enter Try.func42, Try.ntmps42
      go_wp2_with (go_at_call 56; refine (nanI _ _).mono ?_; rintro e w' ⟨rfl, rfl⟩)
      go_ret
      exact ⟨ret_i64 hc.out.symm, rfl⟩
    · have hc := hide (show c3 x y = 0 by unfold c3; rw [if_neg h, if_neg h'])
      go_enter Try.func42, Try.ntmps42
      go_wp2_with (go_at_call 56; refine (nanI _ _).mono ?_; rintro e w' ⟨rfl, rfl⟩)
      go_ret
      exact ⟨ret_i64 hc.out.symm, rfl⟩
set_option maxHeartbeats 800000 in
theorem or_any (b : Nat) (x y : Int) (w : World) (h0 : w.cell? ⟨b, 0, none⟩ = some (.int .i64 x)) (h1 : w.cell? ⟨b, 1, none⟩ = some (.int .i64 y)) :
    Calls Try.prog 40 #[.slice (some ⟨b, 0, none⟩) 2 2] w fun e w' => e = .returned (.int .i64 (or2 x y)) ∧ w' = w := by
  have ho := hide (show or2 x y = if x ≠ 0 then x else y from rfl)
  go_enter Try.func40, Try.ntmps40
  go_wp2
  go_loop [8] (fun i => ∃ k : Nat, k ≤ 2 ∧ i = .int .i64 k ∧ (0 < k → x = 0) ∧ (1 < k → y = 0)) (fun i => 2 - (intOf i).toNat)
  case atStart => exact ⟨0, by omega, rfl, by omega, by omega⟩
  case round =>
    obtain ⟨k, hk, rfl, hx, hy⟩ := hrel
    rcases (show k = 0 ∨ k = 1 ∨ k = 2 by omega) with rfl | rfl | rfl
    · clear hx hy
      by_cases hx : x = 0
      · subst hx
        go_wp2
        go_round
        case rel => exact ⟨1, by omega, rfl, by simp, by omega⟩
        case measure => simp [intOf]
      · go_wp2
        go_ret
        exact ⟨ret_i64 (by rw [ho.out, if_pos hx]), rfl⟩
    · have hx' := hx (by omega)
      subst hx'
      clear hx hy
      by_cases hy : y = 0
      · subst hy
        go_wp2
        go_round
        case rel => exact ⟨2, by omega, rfl, by simp, by simp⟩
        case measure => simp [intOf]
      · go_wp2
        go_ret
        exact ⟨ret_i64 (by rw [ho.out]; simp), rfl⟩
    · have hx' := hx (by omega)
      have hy' := hy (by omega)
      subst hx'; subst hy'
      clear hx hy
      go_wp2
      go_ret
      exact ⟨ret_i64 (by rw [ho.out]; simp), rfl⟩
def GW (w w' : World) : Prop := ∃ q os', w' = grow (w.drewN q) os'
theorem GW.refl (w : World) : GW w w := ⟨0, #[], by simp [grow, World.drewN]⟩
theorem GW.alloc {w w' : World} (h : GW w w') (o : Obj) : GW w (w'.alloc o) := by
  obtain ⟨q, os, rfl⟩ := h
  exact ⟨q, os ++ #[o], by rw [alloc_eq_grow, grow_grow]⟩
theorem GW.drewN {w w' : World} (h : GW w w') (n : Nat) : GW w (w'.drewN n) := by
  obtain ⟨q, os, rfl⟩ := h
  exact ⟨q + n, os, by simp [grow, World.drewN, Nat.add_assoc]⟩
theorem GW.trans {a b c : World} (h : GW a b) (k : GW b c) : GW a c := by
  obtain ⟨q, os, rfl⟩ := h
  obtain ⟨q', os', rfl⟩ := k
  exact ⟨q + q', os ++ os', by simp [grow, World.drewN, Nat.add_assoc, Array.append_assoc]⟩
theorem GW.nx {w w' : World} (h : GW w w') : Nx w w' := by
  obtain ⟨q, os, rfl⟩ := h
  refine ⟨rfl, rfl, rfl, by simp [grow, World.drewN], fun k hk => ?_⟩
  have : k < w.heap.size := hk
  simp [grow, World.drewN, Array.getElem?_append_left, this]
set_option maxHeartbeats 4000000 in
theorem compare_any (x y : Et) (w : World) : Calls Try.prog 32 #[ev x, ev y] w fun e w' => e = .returned (.int .i64 (cfL x y)) ∧ GW w w' := by
  obtain ⟨a, b, c⟩ := x
  obtain ⟨a', b', c'⟩ := y
  have hc := hide (show cfL (a, b, c) (a', b', c') = or2 (c3 b b') (c3 a a') from rfl)
  generalize cfL (a, b, c) (a', b', c') = R at *
  go_enter Try.func32, Try.ntmps32
  go_wp2
  generalize hW : (w.alloc (Obj.cells #[Value.int IntKind.i64 a, Value.int IntKind.i64 b, Value.bool c] 24)).alloc (Obj.cells #[Value.int IntKind.i64 a', Value.int IntKind.i64 b', Value.bool c'] 24) = W
  have hG : Hid (GW w W) := by rw [← hW]; exact hide (((GW.refl _).alloc _).alloc _)
  have e0 : W.cell? ⟨w.heap.size, 0, none⟩ = some (.int .i64 a) := by rw [← hW]; simp [go_sem]
  have e1 : W.cell? ⟨w.heap.size, 1, none⟩ = some (.int .i64 b) := by rw [← hW]; simp [go_sem]
  have f0 : W.cell? ⟨w.heap.size + 1, 0, none⟩ = some (.int .i64 a') := by rw [← hW]; simp [go_sem]
  have f1 : W.cell? ⟨w.heap.size + 1, 1, none⟩ = some (.int .i64 b') := by rw [← hW]; simp [go_sem]
  have hs : w.heap.size + 1 < W.heap.size := World.block_lt_of_cell? W _ f0
  generalize hBe : w.heap.size = B at *
  clear hW
  go_region_held3 (fun w' => w'.cell? ⟨B, 0, none⟩ = some (.int .i64 a) ∧ w'.cell? ⟨B, 1, none⟩ = some (.int .i64 b) ∧ w'.cell? ⟨B + 1, 0, none⟩ = some (.int .i64 a') ∧ w'.cell? ⟨B + 1, 1, none⟩ = some (.int .i64 b')) (go_keep)
    (first
      | (go_at_call 41; refine (cmp64 _ _ _).mono ?_; rintro e w' ⟨rfl, rfl⟩)
      | (go_at_call 42; refine (cmpI _ _ _).mono ?_; rintro e w' ⟨rfl, rfl⟩)
      | (go_at_call 40; refine (or_any _ (c3 b b') (c3 a a') _ ?_ ?_).mono ?_; (simp [go_sem]); (simp [go_sem]); rintro e w' ⟨rfl, rfl⟩))
  all_goals
    go_wp2
    go_ret
    refine ⟨ret_i64 hc.out.symm, ?_⟩
    first
      | exact (hG.out.drewN 1).alloc _
      | exact (hG.out.alloc _).drewN 1
      | exact hG.out.alloc _
set_option maxHeartbeats 2000000 in
theorem lessC : LessC := by
  rintro ⟨a, b, c⟩ ⟨a', b', c'⟩ W
  have HC := hide (fun w => compare_any (a, b, c) (a', b', c') w)
  have FE := hide (cfL_lt (a, b, c) (a', b', c'))
  generalize cfL (a, b, c) (a', b', c') = R at *
  generalize lessB (a, b, c) (a', b', c') = S at *
  have HB := hide (bel2 (W := W) (.cells #[.int .i64 a, .int .i64 b, .bool c] 24) (.cells #[.int .i64 a', .int .i64 b', .bool c'] 24))
  go_enter Try.func21, Try.ntmps21
  go_wp2_with (go_at_call 32; refine (HC.out _).mono ?_; rintro e w9 ⟨rfl, hw9⟩; have HN9 := hide (Nx.trans HB.out hw9.nx); clear hw9)
  go_ret
  exact ⟨ret_bool FE.out, HN9.out⟩
set_option maxHeartbeats 4000000 in
theorem byTurn_any (x y : Et) (w : World) : Calls Try.prog 35 #[ev x, ev y] w fun e w' => e = .returned (.int .i64 (cfT x y)) ∧ GW w w' := by
  obtain ⟨a, b, c⟩ := x
  obtain ⟨a', b', c'⟩ := y
  have HC := hide (fun w => compare_any (a, b, c) (a', b', c') w)
  have HG := hide (((GW.refl w).alloc (.cells #[.int .i64 a, .int .i64 b, .bool c] 24)).alloc (.cells #[.int .i64 a', .int .i64 b', .bool c'] 24))
  cases c <;> cases c'
  · have FE := hide (show cfT (a, b, false) (a', b', false) = cfL (a, b, false) (a', b', false) from rfl)
    generalize cfT (a, b, false) (a', b', false) = R at *
    generalize cfL (a, b, false) (a', b', false) = S at *
    go_enter Try.func35, Try.ntmps35
    go_wp2_with (go_at_call 32; refine (HC.out _).mono ?_; rintro e w9 ⟨rfl, hw9⟩; have HN9 := hide (GW.trans HG.out hw9); clear hw9)
    go_ret
    exact ⟨ret_i64 FE.out.symm, HN9.out⟩
  · have FE := hide (show cfT (a, b, false) (a', b', true) = 1 from rfl)
    generalize cfT (a, b, false) (a', b', true) = R at *
    clear HC
    go_enter Try.func35, Try.ntmps35
    go_wp2
    go_ret
    exact ⟨ret_i64 FE.out.symm, HG.out⟩
  · have FE := hide (show cfT (a, b, true) (a', b', false) = -1 from rfl)
    generalize cfT (a, b, true) (a', b', false) = R at *
    clear HC
    go_enter Try.func35, Try.ntmps35
    go_wp2
    go_ret
    exact ⟨ret_i64 FE.out.symm, HG.out⟩
  · have FE := hide (show cfT (a, b, true) (a', b', true) = cfL (a, b, true) (a', b', true) from rfl)
    generalize cfT (a, b, true) (a', b', true) = R at *
    generalize cfL (a, b, true) (a', b', true) = S at *
    go_enter Try.func35, Try.ntmps35
    go_wp2_with (go_at_call 32; refine (HC.out _).mono ?_; rintro e w9 ⟨rfl, hw9⟩; have HN9 := hide (GW.trans HG.out hw9); clear hw9)
    go_ret
    exact ⟨ret_i64 FE.out.symm, HN9.out⟩
end Go.Proofs.Ytacbiiiadalocaa.Ed
