/- What compare answers; what a heap's blocks are. -/
import Derived.Test.YtmdendffbjhdbaaRows
import Derived.Test.YtmdendffbjhdbaaHPl
import Derived.WalkKit
import Derived.Maps.OwnSet
import Derived.Deep.RegionHeld3
import Derived.Deep.DrawnRows
import Derived.BigQuiet
import Derived.Deep.QuietTactic
import Derived.Lib.QuietBelow
namespace Go.Proofs.Ytmdendffbjhdbaa.Con
open Go.RowKit Go.Proofs.Ytmdendffbjhdbaa.Hq
set_option linter.unusedVariables false
attribute [local go_sem ↓] Go.wp_at_zero Go.wp_at_succ
theorem hide {p : Prop} (h : p) : Hid p := h
theorem unhide {p : Prop} (h : Hid p) : p := h.out
theorem ret_i64 {a b : Int} (h : a = b) : Ending.returned (.int .i64 a) = .returned (.int .i64 b) := by rw [h]
theorem ret_bool {a b : Bool} (h : a = b) : Ending.returned (.bool a) = .returned (.bool b) := by rw [h]

theorem nan64 (x : Int) (w : World) : Calls Try.prog 55 #[.int .i64 x] w fun e w' => e = .returned (.bool false) ∧ w' = w := by
  go_enter Try.func55, Try.ntmps55
  go_wp2
  go_ret
  exact ⟨rfl, rfl⟩
theorem nanI (x : Int) (w : World) : Calls Try.prog 56 #[.int .i64 x] w fun e w' => e = .returned (.bool false) ∧ w' = w := by
  go_enter Try.func56, Try.ntmps56
  go_wp2
  go_ret
  exact ⟨rfl, rfl⟩
theorem cmp64 (x y : Int) (w : World) : Calls Try.prog 40 #[.int .i64 x, .int .i64 y] w fun e w' => e = .returned (.int .i64 (c3 x y)) ∧ w' = w := by
  by_cases h : x < y
  · have hc := hide (show c3 x y = -1 by unfold c3; rw [if_pos h])
    go_enter Try.func40, Try.ntmps40
    go_wp2_with (go_at_call 55; refine (nan64 _ _).mono ?_; rintro e w' ⟨rfl, rfl⟩)
    go_ret
    exact ⟨ret_i64 hc.out.symm, rfl⟩
  · by_cases h' : y < x
    · have hc := hide (show c3 x y = 1 by unfold c3; rw [if_neg h, if_pos h'])
      go_enter Try.func40, Try.ntmps40
      go_wp2_with (go_at_call 55; refine (nan64 _ _).mono ?_; rintro e w' ⟨rfl, rfl⟩)
      go_ret
      exact ⟨ret_i64 hc.out.symm, rfl⟩
    · have hc := hide (show c3 x y = 0 by unfold c3; rw [if_neg h, if_neg h'])
      go_enter Try.func40, Try.ntmps40
      go_wp2_with (go_at_call 55; refine (nan64 _ _).mono ?_; rintro e w' ⟨rfl, rfl⟩)
      go_ret
      exact ⟨ret_i64 hc.out.symm, rfl⟩
theorem cmpI (x y : Int) (w : World) : Calls Try.prog 41 #[.int .i64 x, .int .i64 y] w fun e w' => e = .returned (.int .i64 (c3 x y)) ∧ w' = w := by
  by_cases h : x < y
  · have hc := hide (show c3 x y = -1 by unfold c3; rw [if_pos h])
    go_enter Try.func41, Try.ntmps41
    go_wp2_with (go_at_call 56; refine (nanI _ _).mono ?_; rintro e w' ⟨rfl, rfl⟩)
    go_ret
    exact ⟨ret_i64 hc.out.symm, rfl⟩
  · by_cases h' : y < x
    · have hc := hide (show c3 x y = 1 by unfold c3; rw [if_neg h, if_pos h'])
      go_enter Try.func41, Try.ntmps41
      go_wp2_with (go_at_call 56; refine (nanI _ _).mono ?_; rintro e w' ⟨rfl, rfl⟩)
      go_ret
      exact ⟨ret_i64 hc.out.symm, rfl⟩
    · have hc := hide (show c3 x y = 0 by unfold c3; rw [if_neg h, if_neg h'])
      go_enter Try.func41, Try.ntmps41
      go_wp2_with (go_at_call 56; refine (nanI _ _).mono ?_; rintro e w' ⟨rfl, rfl⟩)
      go_ret
      exact ⟨ret_i64 hc.out.symm, rfl⟩
def or2 (x y : Int) : Int := if x ≠ 0 then x else y
set_option maxHeartbeats 800000 in
theorem or_any (b : Nat) (x y : Int) (w : World) (h0 : w.cell? ⟨b, 0, none⟩ = some (.int .i64 x)) (h1 : w.cell? ⟨b, 1, none⟩ = some (.int .i64 y)) :
    Calls Try.prog 39 #[.slice (some ⟨b, 0, none⟩) 2 2] w fun e w' => e = .returned (.int .i64 (or2 x y)) ∧ w' = w := by
  have ho := hide (show or2 x y = if x ≠ 0 then x else y from rfl)
  go_enter Try.func39, Try.ntmps39
  go_wp2
  go_loop [8] (fun i => ∃ k : Nat, k ≤ 2 ∧ i = .int .i64 k ∧ (0 < k → x = 0) ∧ (1 < k → y = 0)) (fun i => 2 - (intOf i).toNat)
  case atStart => exact ⟨0, by omega, rfl, by omega, by omega⟩
  case round =>
    obtain ⟨k, hk, rfl, hx, hy⟩ := hrel
    rcases (show k = 0 ∨ k = 1 ∨ k = 2 by omega) with rfl | rfl | rfl
    · clear hx hy
      by_cases hx : x = 0
      · subst hx
        go_wp2
        go_round
        case rel => exact ⟨1, by omega, rfl, by simp, by omega⟩
        case measure => simp [intOf]
      · go_wp2
        go_ret
        exact ⟨ret_i64 (by rw [ho.out, if_pos hx]), rfl⟩
    · have hx' := hx (by omega)
      subst hx'
      clear hx hy
      by_cases hy : y = 0
      · subst hy
        go_wp2
        go_round
        case rel => exact ⟨2, by omega, rfl, by simp, by simp⟩
        case measure => simp [intOf]
      · go_wp2
        go_ret
        exact ⟨ret_i64 (by rw [ho.out]; simp), rfl⟩
    · have hx' := hx (by omega)
      have hy' := hy (by omega)
      subst hx'; subst hy'
      clear hx hy
      go_wp2
      go_ret
      exact ⟨ret_i64 (by rw [ho.out]; simp), rfl⟩
theorem or_cf (x y a b : Int) (g : Bool) (i k j m : Int) (hx : x = if g then c3 m k else c3 k m) (hy : y = c3 i j) : or2 x y = cf g (i, k) (j, m) := by
  unfold or2 cf; subst hx; subst hy; rfl
end Go.Proofs.Ytmdendffbjhdbaa.Con
