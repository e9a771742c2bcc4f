/- TurnKnown's walk. -/
import Derived.Test.YtplcpoajhkcjnaaTL
namespace Go.Proofs.Ytplcpoajhkcjnaa.Con
open Go.RowKit
set_option linter.unusedVariables false
set_option linter.unusedSimpArgs false
/-- The first x, one behind the other, from ticket k on. -/
def seqL (k x : Nat) : List Tk := (List.range x).map (fun i : Nat => (((i : Nat) : Int), k + i))
theorem seqL_len (k x : Nat) : (seqL k x).length = x := by simp [seqL]
theorem seqL_snoc (k x : Nat) : seqL k x ++ [((x : Int), k + x)] = seqL k (x + 1) := by simp [seqL, List.range_succ]
theorem seqL_none (k x : Nat) (y : Int) (h : (x : Int) ≤ y) : tkOf (seqL k x) y = none := by
  refine tkOf_none fun p hp => ?_
  simp only [seqL, List.mem_map, List.mem_range] at hp
  obtain ⟨i, hi, rfl⟩ := hp
  simp; omega
set_option maxRecDepth 100000 in
set_option maxHeartbeats 8000000 in
theorem known_walk (W0 : World) : Calls Try.prog 3 #[] W0 fun e w' => e = .returned (.bool true) ∧ Below W0.heap.size W0 w' := by
  have hA := hide (awake_any W0)
  have N1 := hide (fun W => new_any W)
  unfold NewPost at N1
  go_enter Try.func3, Try.ntmps3
  go_wp2_with (go_at_call 7; refine hA.out.mono ?_; rintro e w0 ⟨rfl, hB0⟩; have HB0 := hide hB0; clear hB0)
  refine (N1.out _).mono ?_
  rintro e w1 ⟨b, m, rfl, hk, hB1, hb, hm⟩
  have P0 := hide (LP.start HB0.out hk hB1 hb hm)
  clear hk hB1 hb hm HB0 hA N1
  go_wp2_with fail
  refine (draw_arg P0.out.lk (-1) (i64 (by decide) (by decide)) rfl (by decide)).mono ?_
  rintro e w' ⟨rfl, hw⟩
  have hw2 := hw.symm
  clear hw
  subst hw2
  go_wp2_with fail
  refine (draw_arg P0.out.lk 256 (i64 (by decide) (by decide)) rfl (by decide)).mono ?_
  rintro e w' ⟨rfl, hw⟩
  have hw2 := hw.symm
  clear hw
  subst hw2
  go_wp2_with fail
  refine (p_draw P0.out 1 (by decide) (by decide) rfl (by decide) (by decide) 1 [(1, 0)] rfl rfl).mono ?_
  rintro e W1 ⟨rfl, G1⟩
  clear P0
  go_wp2_with fail
  refine (draw_busy G1.out.1.lk 1 (i64 (by decide) (by decide)) 0 rfl).mono ?_
  rintro e w' ⟨rfl, hw⟩
  have hw2 := hw.symm
  clear hw
  subst hw2
  go_wp2_with fail
  refine (p_draw G1.out.1 2 (by decide) (by decide) rfl (by decide) (by decide) 2 [(1, 0), (2, 1)] rfl rfl).mono ?_
  rintro e W2 ⟨rfl, G2⟩
  clear G1
  go_wp2_with fail
  refine (p_draw G2.out.1 3 (by decide) (by decide) rfl (by decide) (by decide) 3 [(1, 0), (2, 1), (3, 2)] rfl rfl).mono ?_
  rintro e W3 ⟨rfl, G3⟩
  clear G2
  go_wp2_with fail
  refine (free_busy G3.out.1.lk 2 (i64 (by decide) (by decide)) 1 rfl (by decide)).mono ?_
  rintro e w' ⟨rfl, hw⟩
  have hw2 := hw.symm
  clear hw
  subst hw2
  go_wp2_with fail
  refine (free_none G3.out.1.lk 9 (i64 (by decide) (by decide)) rfl).mono ?_
  rintro e w' ⟨rfl, hw⟩
  have hw2 := hw.symm
  clear hw
  subst hw2
  go_wp2_with fail
  refine (leave_busy G3.out.1.lk 1 (i64 (by decide) (by decide)) rfl).mono ?_
  rintro e w' ⟨rfl, hw⟩
  have hw2 := hw.symm
  clear hw
  subst hw2
  go_wp2_with fail
  refine (leave_none G3.out.1.lk 9 (i64 (by decide) (by decide)) rfl).mono ?_
  rintro e w' ⟨rfl, hw⟩
  have hw2 := hw.symm
  clear hw
  subst hw2
  go_wp2_with fail
  refine (p_leave G3.out.1 2 1 rfl (by decide) [(3, 2)] rfl).mono ?_
  rintro e W4 ⟨rfl, G4⟩
  clear G3
  go_wp2_with fail
  refine (p_free G4.out.1 (i64 (by decide) (by decide))).mono ?_
  rintro e W5 ⟨rfl, G5⟩
  clear G4
  go_wp2_with fail
  refine (p_has G5.out.1 3 (i64 (by decide) (by decide)) true rfl).mono ?_
  rintro e w' ⟨rfl, hw⟩
  have hw2 := hw.symm
  clear hw
  subst hw2
  go_wp2_with fail
  refine (p_ahead G5.out.1 3 (i64 (by decide) (by decide)) 2 rfl 0 rfl).mono ?_
  rintro e W6 ⟨rfl, G6⟩
  clear G5
  go_wp2_with fail
  refine (p_free G6.out.1 (i64 (by decide) (by decide))).mono ?_
  rintro e W7 ⟨rfl, G7⟩
  clear G6
  have P7 : Hid (LP W0 W7 b m 3 (seqL 3 0)) := hide G7.out.1
  have cs : W7.cell? ⟨b, 1, none⟩ = some (.int .u32 3) := G7.out.1.cells.2
  clear G7
  go_wp2_with fail
  go_loopw [18] (fun s wr => ∃ x : Nat, x ≤ 64 ∧ s = .int .i64 x ∧ Hid (LP W0 wr b m (3 + x) (seqL 3 x))) (fun s _ => 64 - (intOf s).toNat)
  case atStart => exact ⟨0, by omega, rfl, P7⟩
  case round =>
    obtain ⟨x, hx, rfl, P⟩ := hrel
    by_cases hx2 : x < 64
    · have hx1 : (x : Int) < 64 := by omega
      have T := hide (p_draw P.out (x : Int) (by omega) (by omega) (seqL_none 3 x _ (Int.le_refl _)) (by rw [seqL_len]; exact hx2) (by omega) (3 + (x + 1)) (seqL 3 (x + 1)) (by omega) (seqL_snoc 3 x))
      go_wp2_with (go_at_call 9; refine T.out.mono ?_; rintro e w' ⟨rfl, G⟩)
      go_roundw
      case rel => exact ⟨x + 1, by omega, by go_num, hide G.out.1⟩
      case measure => simp [intOf]; omega
    · obtain rfl : x = 64 := by omega
      have TF := hide (draw_full P.out.lk 100 (i64 (by decide) (by decide)) (seqL_none 3 64 _ (by decide)) (by decide) (by decide) (by rw [seqL_len]; omega))
      have c0 : wr.cell? ⟨b, 0, none⟩ = some (.int .u32 67) := P.out.cells.1
      have AN := hide (ahead_none P.out.lk 100 (i64 (by decide) (by decide)) (seqL_none 3 64 _ (by decide)))
      have LN := hide (len_any P.out.lk)
      rw [seqL_len] at LN
      have SB := hide P.out.below
      clear P
      go_wp2_with (go_at_call 9; refine TF.out.mono ?_; rintro e w' ⟨rfl, hw⟩; have hw2 := hw.symm; clear hw; subst hw2)
      refine AN.out.mono ?_
      rintro e w' ⟨rfl, hw⟩
      have hw2 := hw.symm
      clear hw
      subst hw2
      go_wp2_with fail
      refine LN.out.mono ?_
      rintro e w' ⟨rfl, hw⟩
      have hw2 := hw.symm
      clear hw
      subst hw2
      go_wp2
      go_ret
      exact ⟨rfl, SB.out⟩
end Go.Proofs.Ytplcpoajhkcjnaa.Con
