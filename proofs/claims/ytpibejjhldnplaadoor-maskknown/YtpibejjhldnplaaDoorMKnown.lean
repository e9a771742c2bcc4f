/- The walk of MaskKnown: the chapter's own examples. -/
import Derived.Test.YtpibejjhldnplaaDoorMAwake
namespace Go.Proofs.YtpibejjhldnplaaDoor.Con
open Go.RowKit Go.Proofs.YtpibejjhldnplaaDoor.Mk
set_option linter.unusedVariables false
theorem known_of : ofN [3, 63, -1, 64, 3] = 9223372036854775816 := by decide +kernel
theorem kn1 (w : World) : Calls Tryd.prog 9 #[.slice (some ⟨w.heap.size, 0, none⟩) 5 5] (w.alloc (.cells #[.int .i64 3, .int .i64 63, .int .i64 (-1), .int .i64 64, .int .i64 3] 3)) fun e w' => e = .returned (.int .u64 9223372036854775816) ∧ w' = w.alloc (.cells #[.int .i64 3, .int .i64 63, .int .i64 (-1), .int .i64 64, .int .i64 3] 3) := by
  have := of_some w.heap.size 0 5 [3, 63, -1, 64, 3] (w.alloc (.cells #[.int .i64 3, .int .i64 63, .int .i64 (-1), .int .i64 64, .int .i64 3] 3)) (by
    intro j hj
    match j, hj with
    | 0, _ => simp
    | 1, _ => simp
    | 2, _ => simp
    | 3, _ => simp
    | 4, _ => simp) (by simp)
  rw [known_of] at this
  exact this
theorem kn2 (w : World) (hT : Tab w) : Calls Tryd.prog 10 #[.int .u64 9223372036854775816, .int .i64 4] w fun e w' => e = .returned (.tuple #[.int .i64 63, .bool true]) ∧ w' = w := by
  have := first_any 9223372036854775816 4 w (by decide) hT
  rw [show firstN 9223372036854775816 4 = (63, true) by decide +kernel] at this
  exact this
theorem kn3 (w : World) (hT : Tab w) : Calls Tryd.prog 10 #[.int .u64 9223372036854775816, .int .i64 (-9)] w fun e w' => e = .returned (.tuple #[.int .i64 3, .bool true]) ∧ w' = w := by
  have := first_any 9223372036854775816 (-9) w (by decide) hT
  rw [show firstN 9223372036854775816 (-9) = (3, true) by decide +kernel] at this
  exact this
theorem kn4 (w : World) (hT : Tab w) : Calls Tryd.prog 10 #[.int .u64 9223372036854775816, .int .i64 64] w fun e w' => e = .returned (.tuple #[.int .i64 0, .bool false]) ∧ w' = w := by
  have := first_any 9223372036854775816 64 w (by decide) hT
  rw [show firstN 9223372036854775816 64 = (0, false) by decide +kernel] at this
  exact this
theorem kn5 (w : World) (hT : Tab w) : Calls Tryd.prog 11 #[.int .u64 9223372036854775816, .int .i64 64] w fun e w' => e = .returned (.tuple #[.int .i64 3, .bool true]) ∧ w' = w := by
  have := around_any 9223372036854775816 64 w (by decide) hT
  rw [show aroundN 9223372036854775816 64 = (3, true) by decide +kernel] at this
  exact this
theorem kn6 (w : World) (hT : Tab w) : Calls Tryd.prog 11 #[.int .u64 9223372036854775816, .int .i64 4] w fun e w' => e = .returned (.tuple #[.int .i64 63, .bool true]) ∧ w' = w := by
  have := around_any 9223372036854775816 4 w (by decide) hT
  rw [show aroundN 9223372036854775816 4 = (63, true) by decide +kernel] at this
  exact this
theorem kn7 (w : World) (hT : Tab w) : Calls Tryd.prog 11 #[.int .u64 0, .int .i64 0] w fun e w' => e = .returned (.tuple #[.int .i64 0, .bool false]) ∧ w' = w := by
  have := around_any 0 0 w (by decide) hT
  rw [show aroundN 0 0 = (0, false) by decide +kernel] at this
  exact this
theorem kn8 (w : World) (hT : Tab w) : Calls Tryd.prog 12 #[.int .u64 9223372036854775816, .int .i64 1] w fun e w' => e = .returned (.tuple #[.int .i64 63, .bool true]) ∧ w' = w := by
  have := nth_any 9223372036854775816 1 w (by decide) hT
  rw [show nthN 9223372036854775816 1 = (63, true) by decide +kernel] at this
  exact this
theorem kn9 (w : World) (hT : Tab w) : Calls Tryd.prog 12 #[.int .u64 9223372036854775816, .int .i64 2] w fun e w' => e = .returned (.tuple #[.int .i64 0, .bool false]) ∧ w' = w := by
  have := nth_any 9223372036854775816 2 w (by decide) hT
  rw [show nthN 9223372036854775816 2 = (0, false) by decide +kernel] at this
  exact this
theorem kn10 (w : World) (hT : Tab w) : Calls Tryd.prog 12 #[.int .u64 9223372036854775816, .int .i64 (-1)] w fun e w' => e = .returned (.tuple #[.int .i64 0, .bool false]) ∧ w' = w := by
  have := nth_any 9223372036854775816 (-1) w (by decide) hT
  rw [show nthN 9223372036854775816 (-1) = (0, false) by decide +kernel] at this
  exact this
theorem kn11 (w : World) : Calls Tryd.prog 13 #[.int .u64 9223372036854775816, .int .i64 63] w fun e w' => e = .returned (.int .i64 1) ∧ w' = w := by
  have := rank_any 9223372036854775816 63 w (by decide)
  rw [show lenN (9223372036854775816 &&& fullN 63) = 1 by decide +kernel] at this
  exact this
theorem kn12 (w : World) : Calls Tryd.prog 13 #[.int .u64 9223372036854775816, .int .i64 99] w fun e w' => e = .returned (.int .i64 2) ∧ w' = w := by
  have := rank_any 9223372036854775816 99 w (by decide)
  rw [show lenN (9223372036854775816 &&& fullN 99) = 2 by decide +kernel] at this
  exact this
theorem kn13 (w : World) : Calls Tryd.prog 13 #[.int .u64 9223372036854775816, .int .i64 (-1)] w fun e w' => e = .returned (.int .i64 0) ∧ w' = w := by
  have := rank_any 9223372036854775816 (-1) w (by decide)
  rw [show lenN (9223372036854775816 &&& fullN (-1)) = 0 by decide +kernel] at this
  exact this
theorem kn14 (w : World) : Calls Tryd.prog 14 #[.int .u64 9223372036854775816, .int .i64 64] w fun e w' => e = .returned (.bool false) ∧ w' = w := by
  have := has_any 9223372036854775816 64 w (by decide)
  rw [show hasN 9223372036854775816 64 = false by decide +kernel] at this
  exact this
theorem kn15 (w : World) : Calls Tryd.prog 15 #[.int .u64 9223372036854775816, .int .i64 64] w fun e w' => e = .returned (.int .u64 9223372036854775816) ∧ w' = w := by
  have := with_any 9223372036854775816 64 w (by decide)
  rw [show withN 9223372036854775816 64 = 9223372036854775816 by decide +kernel] at this
  exact this
theorem kn16 (w : World) : Calls Tryd.prog 16 #[.int .u64 9223372036854775816, .int .i64 (-1)] w fun e w' => e = .returned (.int .u64 9223372036854775816) ∧ w' = w := by
  have := without_any 9223372036854775816 (-1) w (by decide)
  rw [show withoutN 9223372036854775816 (-1) = 9223372036854775816 by decide +kernel] at this
  exact this
theorem kn17 (w : World) : Calls Tryd.prog 16 #[.int .u64 9223372036854775816, .int .i64 3] w fun e w' => e = .returned (.int .u64 9223372036854775808) ∧ w' = w := by
  have := without_any 9223372036854775816 3 w (by decide)
  rw [show withoutN 9223372036854775816 3 = 9223372036854775808 by decide +kernel] at this
  exact this
theorem kn18 (w : World) : Calls Tryd.prog 17 #[.int .i64 64] w fun e w' => e = .returned (.int .u64 18446744073709551615) ∧ w' = w := by
  have := full_any 64 w
  rw [show fullN 64 = 18446744073709551615 by decide +kernel] at this
  exact this
theorem kn19 (w : World) : Calls Tryd.prog 17 #[.int .i64 99] w fun e w' => e = .returned (.int .u64 18446744073709551615) ∧ w' = w := by
  have := full_any 99 w
  rw [show fullN 99 = 18446744073709551615 by decide +kernel] at this
  exact this
theorem kn20 (w : World) : Calls Tryd.prog 17 #[.int .i64 (-1)] w fun e w' => e = .returned (.int .u64 0) ∧ w' = w := by
  have := full_any (-1) w
  rw [show fullN (-1) = 0 by decide +kernel] at this
  exact this
theorem kn21 (w : World) : Calls Tryd.prog 17 #[.int .i64 3] w fun e w' => e = .returned (.int .u64 7) ∧ w' = w := by
  have := full_any 3 w
  rw [show fullN 3 = 7 by decide +kernel] at this
  exact this
theorem kn22 (w : World) (hT : Tab w) : Calls Tryd.prog 18 #[.int .u64 0] w fun e w' => e = .returned (.string ⟨#[110, 111, 110, 101]⟩) ∧ Below w.heap.size w w' := by
  have := string_any 0 w (by decide) hT
  rw [show strN 0 = [110, 111, 110, 101] by decide +kernel] at this
  exact this
theorem kn24 (w : World) (hT : Tab w) : Calls Tryd.prog 18 #[.int .u64 18446744073709551615] w fun e w' => e = .returned (.string ⟨#[48, 45, 54, 51]⟩) ∧ Below w.heap.size w w' := by
  have := string_any 18446744073709551615 w (by decide) hT
  rw [show strN 18446744073709551615 = [48, 45, 54, 51] by decide +kernel] at this
  exact this
theorem kn25 (w : World) (hT : Tab w) : Calls Tryd.prog 18 #[.int .u64 9223372036854775816] w fun e w' => e = .returned (.string ⟨#[51, 44, 54, 51]⟩) ∧ Below w.heap.size w w' := by
  have := string_any 9223372036854775816 w (by decide) hT
  rw [show strN 9223372036854775816 = [51, 44, 54, 51] by decide +kernel] at this
  exact this

set_option maxRecDepth 100000 in
set_option maxHeartbeats 2000000 in
theorem known_walk (w : World) (hT : Tab w) :
    Calls Tryd.prog 3 #[] w fun e w' => e = .returned (.bool true) ∧ Below w.heap.size w w' := by
  have hA := hide (awake_any w hT)
  have hT' := hide hT
  clear hT
  go_enter Tryd.func3, Tryd.ntmps3
  go_wp2_with fail
  refine (unhide hA).mono ?_
  rintro e w0 ⟨rfl, hb0⟩
  have T0 := hide ((unhide hT').on hb0)
  have B0 := hide hb0
  clear hb0 hA hT'
  have C1 := hide (kn1 w0)
  go_wp2_with fail
  refine (unhide C1).mono ?_
  rintro e w1 ⟨rfl, hw1⟩
  have b1 : Below w0.heap.size w0 w1 := by rw [hw1]; exact (Below.refl _ w0).alloc (Nat.le_refl _) _
  have T1 := hide ((unhide T0).on b1)
  have B1 := hide ((unhide B0).trans (b1.mono (unhide B0).size))
  clear hw1 b1 C1 T0 B0
  go_wp2_with fail
  refine (kn2 _ (unhide T1)).mono ?_
  rintro e _ ⟨rfl, rfl⟩
  go_wp2_with fail
  refine (kn3 _ (unhide T1)).mono ?_
  rintro e _ ⟨rfl, rfl⟩
  go_wp2_with fail
  refine (kn4 _ (unhide T1)).mono ?_
  rintro e _ ⟨rfl, rfl⟩
  go_wp2_with fail
  refine (kn5 _ (unhide T1)).mono ?_
  rintro e _ ⟨rfl, rfl⟩
  go_wp2_with fail
  refine (kn6 _ (unhide T1)).mono ?_
  rintro e _ ⟨rfl, rfl⟩
  go_wp2_with fail
  refine (kn7 _ (unhide T1)).mono ?_
  rintro e _ ⟨rfl, rfl⟩
  go_wp2_with fail
  refine (kn8 _ (unhide T1)).mono ?_
  rintro e _ ⟨rfl, rfl⟩
  go_wp2_with fail
  refine (kn9 _ (unhide T1)).mono ?_
  rintro e _ ⟨rfl, rfl⟩
  go_wp2_with fail
  refine (kn10 _ (unhide T1)).mono ?_
  rintro e _ ⟨rfl, rfl⟩
  go_wp2_with fail
  refine (kn11 _).mono ?_
  rintro e _ ⟨rfl, rfl⟩
  go_wp2_with fail
  refine (kn12 _).mono ?_
  rintro e _ ⟨rfl, rfl⟩
  go_wp2_with fail
  refine (kn13 _).mono ?_
  rintro e _ ⟨rfl, rfl⟩
  go_wp2_with fail
  refine (kn14 _).mono ?_
  rintro e _ ⟨rfl, rfl⟩
  go_wp2_with fail
  refine (kn15 _).mono ?_
  rintro e _ ⟨rfl, rfl⟩
  go_wp2_with fail
  refine (kn16 _).mono ?_
  rintro e _ ⟨rfl, rfl⟩
  go_wp2_with fail
  refine (kn17 _).mono ?_
  rintro e _ ⟨rfl, rfl⟩
  go_wp2_with fail
  refine (kn18 _).mono ?_
  rintro e _ ⟨rfl, rfl⟩
  go_wp2_with fail
  refine (kn19 _).mono ?_
  rintro e _ ⟨rfl, rfl⟩
  go_wp2_with fail
  refine (kn20 _).mono ?_
  rintro e _ ⟨rfl, rfl⟩
  go_wp2_with fail
  refine (kn21 _).mono ?_
  rintro e _ ⟨rfl, rfl⟩
  go_wp2_with fail
  refine (kn22 _ (unhide T1)).mono ?_
  rintro e w2 ⟨rfl, b2⟩
  have T2 := hide ((unhide T1).on b2)
  have B2 := hide ((unhide B1).trans (b2.mono (unhide B1).size))
  clear b2 T1 B1
  go_wp2_with fail
  refine (kn18 _).mono ?_
  rintro e _ ⟨rfl, rfl⟩
  go_wp2_with fail
  refine (kn24 _ (unhide T2)).mono ?_
  rintro e w3 ⟨rfl, b3⟩
  have T3 := hide ((unhide T2).on b3)
  have B3 := hide ((unhide B2).trans (b3.mono (unhide B2).size))
  clear b3 T2 B2
  go_wp2_with fail
  refine (kn25 _ (unhide T3)).mono ?_
  rintro e w4 ⟨rfl, b4⟩
  have B4 := hide ((unhide B3).trans (b4.mono (unhide B3).size))
  clear b4 T3 B3
  go_wp2
  go_ret
  exact ⟨rfl, unhide B4⟩
end Go.Proofs.YtpibejjhldnplaaDoor.Con
