/- PokeKnown's walk. -/
import Derived.Test.YtigofonhibaojaaPNew
namespace Go.Proofs.Ytigofonhibaojaa.Con
open Go.RowKit Go.Proofs.Ytigofonhibaojaa.Mk
set_option linter.unusedVariables false
set_option linter.unusedSimpArgs false
/-- Of, of two in new memory. -/
theorem of_two (x y : Int) (v : Nat) (W : World) (hv : ofN [x, y] = v) : Calls Try.prog 11 #[.slice (some ⟨W.heap.size, 0, none⟩) 2 2] (W.alloc (.cells #[.int .i64 x, .int .i64 y] 3)) fun e w' => e = .returned (.int .u64 (v : Int)) ∧ w' = W.alloc (.cells #[.int .i64 x, .int .i64 y] 3) := by
  have := of_some W.heap.size 0 2 [x, y] (W.alloc (.cells #[.int .i64 x, .int .i64 y] 3)) (by
    intro j hj
    match j, hj with
    | 0, _ => simp
    | 1, _ => simp) (by simp)
  rw [hv] at this
  exact this
set_option maxRecDepth 100000 in
set_option maxHeartbeats 4000000 in
theorem known_walk (W : World) : Calls Try.prog 3 #[] W fun e w' => e = .returned (.bool true) ∧ Below W.heap.size W w' := by
  have A := hide (awake_any W)
  go_enter Try.func3, Try.ntmps3
  go_wp2_with fail
  refine A.out.mono ?_
  rintro e wa ⟨rfl, HB0⟩
  clear A
  go_wp2_with fail
  refine (new_no wa 0 (by decide)).mono ?_
  rintro e w' ⟨rfl, hw⟩
  have hw2 := hw.symm
  clear hw
  subst hw2
  go_wp2_with fail
  have N := hide (new_any wa 4 (by decide) (by decide))
  unfold NewPost at N
  refine N.out.mono ?_
  rintro e w1 ⟨b, g, rfl, P0⟩
  have P1 := hide (PL.trans HB0.out P0.out)
  clear N P0 HB0
  go_wp2_with fail
  refine (send_no P1.out.pk 0 4 1 (by decide)).mono ?_
  rintro e w' ⟨rfl, hw⟩
  have hw2 := hw.symm
  clear hw
  subst hw2
  go_wp2_with fail
  refine (send_no P1.out.pk (-1) 0 1 (by decide)).mono ?_
  rintro e w' ⟨rfl, hw⟩
  have hw2 := hw.symm
  clear hw
  subst hw2
  go_wp2_with fail
  refine (send_no P1.out.pk 0 1 0 (by decide)).mono ?_
  rintro e w' ⟨rfl, hw⟩
  have hw2 := hw.symm
  clear hw
  subst hw2
  go_wp2_with fail
  refine (send_no P1.out.pk 0 1 16 (by decide)).mono ?_
  rintro e w' ⟨rfl, hw⟩
  have hw2 := hw.symm
  clear hw
  subst hw2
  go_wp2_with fail
  have C := hide (send_any P1.out.pk 2 2 8 (by decide) (by decide) (by decide) (by decide) (by decide))
  rw [show decide ((s0 2).w = 0) = true from rfl] at C
  refine C.out.mono ?_
  rintro e w2 ⟨rfl, G⟩
  have P2 := hide (P1.out.got G.out)
  clear C G P1
  go_wp2_with fail
  have C := hide (all_any P2.out.pk 1 4 (by decide) (by decide) (by decide) (by decide))
  rw [show rung (sendS s0 2 2 8) 1 4 = 9 by decide +kernel] at C
  refine C.out.mono ?_
  rintro e w3 ⟨rfl, G⟩
  have P3 := hide (P2.out.got G.out)
  clear C G P2
  go_wp2_with fail
  have C := hide (read_any P3.out.pk 2 (by decide) (by decide +kernel))
  rw [show (allS (sendS s0 2 2 8) 1 4 4 2).w = 12 by decide +kernel] at C
  rw [show (allS (sendS s0 2 2 8) 1 4 4 2).f = 6 by decide +kernel] at C
  refine C.out.mono ?_
  rintro e w4 ⟨rfl, G⟩
  have P4 := hide (P3.out.got G.out)
  clear C G P3
  go_wp2_with fail
  have C := hide (read_none P4.out.pk 2 (by decide) (by decide +kernel))
  refine C.out.mono ?_
  rintro e w5 ⟨rfl, G⟩
  have P5 := hide (P4.out.got G.out)
  clear C G P4
  go_wp2_with fail
  refine (read_no P5.out.pk 9 (by decide)).mono ?_
  rintro e w' ⟨rfl, hw⟩
  have hw2 := hw.symm
  clear hw
  subst hw2
  go_wp2_with fail
  refine (all_no P5.out.pk 4 1 (by decide)).mono ?_
  rintro e w' ⟨rfl, hw⟩
  have hw2 := hw.symm
  clear hw
  subst hw2
  generalize hS : readS (allS (sendS s0 2 2 8) 1 4 4) 2 = S at P5
  have z0 : (S 0).w = 4 := by subst hS; decide +kernel
  have z1 : (S 1).w = 0 := by subst hS; decide +kernel
  have z2 : waits S 4 = 9 := by subst hS; decide +kernel
  have z3 : (S 2).r = 1 := by subst hS; decide +kernel
  have z4 : (S 1).r = 0 := by subst hS; decide +kernel
  have Z := hide (And.intro z0 (And.intro z1 (And.intro z2 (And.intro z3 z4))))
  clear z0 z1 z2 z3 z4 hS
  go_wp2_with fail
  refine (of_two 0 3 9 w5 (by decide +kernel)).mono ?_
  rintro e w6 ⟨rfl, hw⟩
  have P6 : Hid (PL _ w6 b g 4 _ S) := hide (by rw [hw]; exact P5.out.bel ((Below.refl _ _).alloc (Nat.le_refl _) _))
  clear hw P5
  go_wp2_with fail
  refine (of_two 1 2 6 w6 (by decide +kernel)).mono ?_
  rintro e w7 ⟨rfl, hw⟩
  have P7 : Hid (PL _ w7 b g 4 _ S) := hide (by rw [hw]; exact P6.out.bel ((Below.refl _ _).alloc (Nat.le_refl _) _))
  clear hw P6
  go_wp2_with fail
  have C := hide (see_any P7.out.pk 0 (by decide))
  rw [Z.out.1] at C
  refine C.out.mono ?_
  rintro e w' ⟨rfl, hw⟩
  have hw2 := hw.symm
  clear hw C
  subst hw2
  go_wp2_with fail
  have C := hide (see_any P7.out.pk 1 (by decide))
  rw [Z.out.2.1] at C
  refine C.out.mono ?_
  rintro e w' ⟨rfl, hw⟩
  have hw2 := hw.symm
  clear hw C
  subst hw2
  go_wp2_with fail
  have C := hide (see_no P7.out.pk 7 (by decide))
  refine C.out.mono ?_
  rintro e w' ⟨rfl, hw⟩
  have hw2 := hw.symm
  clear hw C
  subst hw2
  go_wp2_with fail
  have C := hide (waits_any P7.out.pk)
  rw [Z.out.2.2.1] at C
  refine C.out.mono ?_
  rintro e w8 ⟨rfl, HB⟩
  have P8 := hide (P7.out.bel HB.out)
  clear C HB P7
  go_wp2_with fail
  refine (of_two 0 3 9 w8 (by decide +kernel)).mono ?_
  rintro e w9 ⟨rfl, hw⟩
  have P9 : Hid (PL _ w9 b g 4 _ S) := hide (by rw [hw]; exact P8.out.bel ((Below.refl _ _).alloc (Nat.le_refl _) _))
  clear hw P8
  go_wp2_with fail
  have C := hide (count_any P9.out.pk 2 (by decide))
  rw [Z.out.2.2.2.1] at C
  refine C.out.mono ?_
  rintro e w' ⟨rfl, hw⟩
  have hw2 := hw.symm
  clear hw C
  subst hw2
  go_wp2_with fail
  have C := hide (count_any P9.out.pk 1 (by decide))
  rw [Z.out.2.2.2.2] at C
  refine C.out.mono ?_
  rintro e w' ⟨rfl, hw⟩
  have hw2 := hw.symm
  clear hw C
  subst hw2
  go_wp2_with fail
  have C := hide (count_no P9.out.pk (-1) (by decide))
  refine C.out.mono ?_
  rintro e w' ⟨rfl, hw⟩
  have hw2 := hw.symm
  clear hw C
  subst hw2
  go_wp2
  go_ret
  exact ⟨rfl, P9.out.below⟩
end Go.Proofs.Ytigofonhibaojaa.Con
