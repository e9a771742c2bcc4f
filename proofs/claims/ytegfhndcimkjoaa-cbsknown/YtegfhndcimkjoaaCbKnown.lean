/- CbsKnown: the examples. -/
import Derived.Test.YtegfhndcimkjoaaCbCon
import Derived.Test.YtegfhndcimkjoaaJSeg
import Derived.Deep.CutBlock
import Derived.Deep.CutRange
import Derived.KernelRfl
namespace Go.Proofs.Ytegfhndcimkjoaa.Cb
open Go.Proofs.Ytegfhndcimkjoaa.Tk Go.RowKit
set_option linter.unusedVariables false
set_option linter.unusedSimpArgs false
theorem kk0 : new 0 5 = ⟨0, 0, 0, 0, 0⟩ := by kernel_rfl
theorem kk1 : newE 0 5 = 1 := by kernel_rfl
theorem kk2 : new 6 5 = ⟨0, 0, 0, 0, 0⟩ := by kernel_rfl
theorem kk3 : newE 6 5 = 1 := by kernel_rfl
theorem kk4 : new 1 2147483649 = ⟨0, 0, 0, 0, 0⟩ := by kernel_rfl
theorem kk5 : newE 1 2147483649 = 1 := by kernel_rfl
theorem kk6 : new 4 10 = ⟨4, 10, 0, 0, 0⟩ := by kernel_rfl
theorem kk7 : newE 4 10 = 0 := by kernel_rfl
theorem kk8 : wake ⟨4, 10, 0, 0, 0⟩ 0 = ⟨4, 10, 4, 10, 1⟩ := by kernel_rfl
theorem kk9 : wakeE ⟨4, 10, 0, 0, 0⟩ 0 = 0 := by kernel_rfl
theorem kk10 : wake ⟨4, 10, 4, 10, 1⟩ 1 = ⟨4, 10, 4, 10, 1⟩ := by kernel_rfl
theorem kk11 : wakeE ⟨4, 10, 4, 10, 1⟩ 1 = 5 := by kernel_rfl
theorem kk12 : use ⟨4, 10, 4, 10, 1⟩ 1 = ⟨4, 10, 3, 10, 1⟩ := by kernel_rfl
theorem kk13 : useE ⟨4, 10, 4, 10, 1⟩ 1 = 0 := by kernel_rfl
theorem kk14 : use ⟨4, 10, 4, 10, 1⟩ 5 = ⟨4, 10, 4, 10, 1⟩ := by kernel_rfl
theorem kk15 : useE ⟨4, 10, 4, 10, 1⟩ 5 = 1 := by kernel_rfl
theorem kk16 : use ⟨4, 10, 0, 0, 0⟩ 1 = ⟨4, 10, 0, 0, 0⟩ := by kernel_rfl
theorem kk17 : useE ⟨4, 10, 0, 0, 0⟩ 1 = 1 := by kernel_rfl
theorem kk18 : use ⟨4, 10, 4, 10, 1⟩ 0 = ⟨4, 10, 4, 10, 1⟩ := by kernel_rfl
theorem kk19 : useE ⟨4, 10, 4, 10, 1⟩ 0 = 1 := by kernel_rfl
theorem kk20 : idle ⟨4, 10, 3, 10, 1⟩ = ⟨4, 10, 3, 10, 0⟩ := by kernel_rfl
theorem kk21 : idleE ⟨4, 10, 3, 10, 1⟩ = 0 := by kernel_rfl
theorem kk22 : idle ⟨4, 10, 3, 10, 0⟩ = ⟨4, 10, 3, 10, 0⟩ := by kernel_rfl
theorem kk23 : idleE ⟨4, 10, 3, 10, 0⟩ = 4 := by kernel_rfl
theorem kk24 : wake ⟨4, 10, 3, 10, 0⟩ 7 = ⟨4, 10, 1, 10, 1⟩ := by kernel_rfl
theorem kk25 : wakeE ⟨4, 10, 3, 10, 0⟩ 7 = 0 := by kernel_rfl
theorem kk26 : wake ⟨4, 10, 3, 10, 0⟩ 1 = ⟨4, 10, 3, 10, 1⟩ := by kernel_rfl
theorem kk27 : wakeE ⟨4, 10, 3, 10, 0⟩ 1 = 0 := by kernel_rfl
theorem kk28 : wake ⟨4, 10, 3, 10, 0⟩ 9 = ⟨4, 10, 0, 10, 2⟩ := by kernel_rfl
theorem kk29 : wakeE ⟨4, 10, 3, 10, 0⟩ 9 = 0 := by kernel_rfl
theorem kk30 : wake ⟨4, 10, 3, 10, 0⟩ 10 = ⟨4, 10, 4, 20, 1⟩ := by kernel_rfl
theorem kk31 : wakeE ⟨4, 10, 3, 10, 0⟩ 10 = 0 := by kernel_rfl
theorem kk32 : wake ⟨4, 10, 3, 10, 0⟩ 4611686018427387904 = ⟨4, 10, 3, 10, 0⟩ := by kernel_rfl
theorem kk33 : wakeE ⟨4, 10, 3, 10, 0⟩ 4611686018427387904 = 6 := by kernel_rfl
theorem kk34 : use ⟨4, 10, 4, 10, 1⟩ 4 = ⟨4, 10, 0, 10, 2⟩ := by kernel_rfl
theorem kk35 : useE ⟨4, 10, 4, 10, 1⟩ 4 = 0 := by kernel_rfl
theorem kk36 : turn ⟨4, 10, 0, 10, 2⟩ 10 = ⟨4, 10, 4, 20, 1⟩ := by kernel_rfl
theorem kk37 : turnB ⟨4, 10, 0, 10, 2⟩ 10 = true := by kernel_rfl
theorem kk38 : turn ⟨4, 10, 0, 10, 2⟩ 35 = ⟨4, 10, 4, 40, 1⟩ := by kernel_rfl
theorem kk39 : turnB ⟨4, 10, 0, 10, 2⟩ 35 = true := by kernel_rfl
theorem kk40 : turn ⟨4, 10, 0, 10, 2⟩ 9 = ⟨4, 10, 0, 10, 2⟩ := by kernel_rfl
theorem kk41 : turnB ⟨4, 10, 0, 10, 2⟩ 9 = false := by kernel_rfl
theorem kk42 : turn ⟨4, 10, 3, 10, 0⟩ 99 = ⟨4, 10, 3, 10, 0⟩ := by kernel_rfl
theorem kk43 : turnB ⟨4, 10, 3, 10, 0⟩ 99 = false := by kernel_rfl
theorem kk44 : wait ⟨4, 10, 4, 10, 1⟩ = ⟨4, 10, 4, 10, 2⟩ := by kernel_rfl
theorem kk45 : waitE ⟨4, 10, 4, 10, 1⟩ = 0 := by kernel_rfl
theorem kk46 : wait ⟨4, 10, 4, 10, 2⟩ = ⟨4, 10, 4, 10, 2⟩ := by kernel_rfl
theorem kk47 : waitE ⟨4, 10, 4, 10, 2⟩ = 4 := by kernel_rfl
theorem kk48 : decide ((10 : Int) < 20) = true := by decide +kernel
theorem kk49 : decide ((20 : Int) < 10) = false := by decide +kernel
theorem kk50 : sgood ⟨1, 1, 0, 0, 1⟩ = false := by decide +kernel
set_option maxHeartbeats 16000000 in
set_option maxRecDepth 100000 in
theorem known_walk (hA : Hid AwakeC) (hG : Hid GoodC) (hN : Hid NewC) (hW : Hid WakeC) (hU : Hid UseC) (hI : Hid IdleC) (hWt : Hid WaitC) (hT : Hid TurnC) (hL : Hid LessC) (w : World) :
    Calls Try.prog 3 #[] w fun e w' => e = .returned (.bool true) ∧ Nx w w' := by
  have Hkk0 := hide kk0
  have Hkk1 := hide kk1
  have Hkk2 := hide kk2
  have Hkk3 := hide kk3
  have Hkk4 := hide kk4
  have Hkk5 := hide kk5
  have Hkk6 := hide kk6
  have Hkk7 := hide kk7
  have Hkk8 := hide kk8
  have Hkk9 := hide kk9
  have Hkk10 := hide kk10
  have Hkk11 := hide kk11
  have Hkk12 := hide kk12
  have Hkk13 := hide kk13
  have Hkk14 := hide kk14
  have Hkk15 := hide kk15
  have Hkk16 := hide kk16
  have Hkk17 := hide kk17
  have Hkk18 := hide kk18
  have Hkk19 := hide kk19
  have Hkk20 := hide kk20
  have Hkk21 := hide kk21
  have Hkk22 := hide kk22
  have Hkk23 := hide kk23
  have Hkk24 := hide kk24
  have Hkk25 := hide kk25
  have Hkk26 := hide kk26
  have Hkk27 := hide kk27
  have Hkk28 := hide kk28
  have Hkk29 := hide kk29
  have Hkk30 := hide kk30
  have Hkk31 := hide kk31
  have Hkk32 := hide kk32
  have Hkk33 := hide kk33
  have Hkk34 := hide kk34
  have Hkk35 := hide kk35
  have Hkk36 := hide kk36
  have Hkk37 := hide kk37
  have Hkk38 := hide kk38
  have Hkk39 := hide kk39
  have Hkk40 := hide kk40
  have Hkk41 := hide kk41
  have Hkk42 := hide kk42
  have Hkk43 := hide kk43
  have Hkk44 := hide kk44
  have Hkk45 := hide kk45
  have Hkk46 := hide kk46
  have Hkk47 := hide kk47
  have Hkk48 := hide kk48
  have Hkk49 := hide kk49
  have Hkk50 := hide kk50
  go_enter Try.func3, Try.ntmps3
  go_wp2_with fail
  refine (hA.out w).mono ?_
  rintro e w0 ⟨rfl, hb⟩
  have B_0 := hide hb
  clear hb
  go_wp2_with fail
  refine (hN.out 0 5 _).mono ?_
  rintro e w1 ⟨rfl, hs2⟩
  rw [Hkk0.out]
  rw [Hkk1.out]
  have B_1 := hide (Nx.trans B_0.out (hs2))
  clear B_0
  clear hs2
  have bK1 := hide B_1.out.size
  have KN := hide (Vb.new w1 ⟨0, 0, 0, 0, 0⟩)
  have NN := hide (Nx.alloc w1 (.cells #[.int .i64 0, .int .i64 0, .int .i64 0, .int .i64 0, .int .i64 0] 24))
  go_upto_region 4 with fail
  have B_2 := hide (Nx.trans B_1.out (NN.out))
  clear B_1
  generalize hw : w1.alloc (.cells #[.int .i64 0, .int .i64 0, .int .i64 0, .int .i64 0, .int .i64 0] 24) = w2 at *
  have K1_2 := KN
  clear KN NN hw
  generalize w1.heap.size = gK1 at *
  have K1_2 : Hid (Vb w2 gK1 ⟨0, 0, 0, 0, 0⟩) := K1_2
  clear K1_2
  go_wp2_with fail
  refine (hN.out 6 5 _).mono ?_
  rintro e w3 ⟨rfl, hs2⟩
  rw [Hkk2.out]
  rw [Hkk3.out]
  have B_3 := hide (Nx.trans B_2.out (hs2))
  clear B_2
  clear hs2
  have bK3 := hide B_3.out.size
  have KN := hide (Vb.new w3 ⟨0, 0, 0, 0, 0⟩)
  have NN := hide (Nx.alloc w3 (.cells #[.int .i64 0, .int .i64 0, .int .i64 0, .int .i64 0, .int .i64 0] 24))
  go_upto_region 5 with fail
  have B_4 := hide (Nx.trans B_3.out (NN.out))
  clear B_3
  generalize hw : w3.alloc (.cells #[.int .i64 0, .int .i64 0, .int .i64 0, .int .i64 0, .int .i64 0] 24) = w4 at *
  have K3_4 := KN
  clear KN NN hw
  generalize w3.heap.size = gK3 at *
  have K3_4 : Hid (Vb w4 gK3 ⟨0, 0, 0, 0, 0⟩) := K3_4
  clear K3_4
  go_wp2_with fail
  refine (hN.out 1 2147483649 _).mono ?_
  rintro e w5 ⟨rfl, hs2⟩
  rw [Hkk4.out]
  rw [Hkk5.out]
  have B_5 := hide (Nx.trans B_4.out (hs2))
  clear B_4
  clear hs2
  have bK5 := hide B_5.out.size
  have KN := hide (Vb.new w5 ⟨0, 0, 0, 0, 0⟩)
  have NN := hide (Nx.alloc w5 (.cells #[.int .i64 0, .int .i64 0, .int .i64 0, .int .i64 0, .int .i64 0] 24))
  go_upto_region 6 with fail
  have B_6 := hide (Nx.trans B_5.out (NN.out))
  clear B_5
  generalize hw : w5.alloc (.cells #[.int .i64 0, .int .i64 0, .int .i64 0, .int .i64 0, .int .i64 0] 24) = w6 at *
  have K5_6 := KN
  clear KN NN hw
  generalize w5.heap.size = gK5 at *
  have K5_6 : Hid (Vb w6 gK5 ⟨0, 0, 0, 0, 0⟩) := K5_6
  clear K5_6
  go_wp2_with fail
  refine (hN.out 4 10 _).mono ?_
  rintro e w7 ⟨rfl, hs2⟩
  rw [Hkk6.out]
  rw [Hkk7.out]
  have B_7 := hide (Nx.trans B_6.out (hs2))
  clear B_6
  clear hs2
  have bK7 := hide B_7.out.size
  have KN := hide (Vb.new w7 ⟨4, 10, 0, 0, 0⟩)
  have NN := hide (Nx.alloc w7 (.cells #[.int .i64 4, .int .i64 10, .int .i64 0, .int .i64 0, .int .i64 0] 24))
  go_upto_region 7 with fail
  have B_8 := hide (Nx.trans B_7.out (NN.out))
  clear B_7
  generalize hw : w7.alloc (.cells #[.int .i64 4, .int .i64 10, .int .i64 0, .int .i64 0, .int .i64 0] 24) = w8 at *
  have K7_8 := KN
  clear KN NN hw
  generalize w7.heap.size = gK7 at *
  have K7_8 : Hid (Vb w8 gK7 ⟨4, 10, 0, 0, 0⟩) := K7_8
  obtain ⟨x0, x1, x2, x3, x4⟩ := row5 K7_8.out.row
  go_wp2_with fail
  refine (hW.out ⟨4, 10, 0, 0, 0⟩ 0 _).mono ?_
  rintro e w9 ⟨rfl, hs2⟩
  rw [Hkk8.out]
  rw [Hkk9.out]
  clear x0 x1 x2 x3 x4
  have K7_9 := hide (K7_8.out.below (hs2))
  have B_9 := hide (Nx.trans B_8.out (hs2))
  clear B_8 K7_8
  clear hs2
  have bK9 := hide B_9.out.size
  have neK7K9 : Hid (gK7 ≠ w9.heap.size) := hide (Nat.ne_of_lt K7_9.out.lt)
  have KN := hide (Vb.new w9 ⟨4, 10, 4, 10, 1⟩)
  have NN := hide (Nx.alloc w9 (.cells #[.int .i64 4, .int .i64 10, .int .i64 4, .int .i64 10, .int .i64 1] 24))
  go_upto_region 8 with fail
  have K7_10 := hide (K7_9.out.below (NN.out))
  have B_10 := hide (Nx.trans B_9.out (NN.out))
  clear B_9 K7_9
  generalize hw : w9.alloc (.cells #[.int .i64 4, .int .i64 10, .int .i64 4, .int .i64 10, .int .i64 1] 24) = w10 at *
  have K9_10 := KN
  clear KN NN hw
  generalize w9.heap.size = gK9 at *
  have K9_10 : Hid (Vb w10 gK9 ⟨4, 10, 4, 10, 1⟩) := K9_10
  obtain ⟨x0, x1, x2, x3, x4⟩ := row5 K9_10.out.row
  go_wp2_with fail
  refine (hW.out ⟨4, 10, 4, 10, 1⟩ 1 _).mono ?_
  rintro e w11 ⟨rfl, hs2⟩
  rw [Hkk10.out]
  rw [Hkk11.out]
  clear x0 x1 x2 x3 x4
  have K7_11 := hide (K7_10.out.below (hs2))
  have K9_11 := hide (K9_10.out.below (hs2))
  have B_11 := hide (Nx.trans B_10.out (hs2))
  clear B_10 K7_10 K9_10
  clear hs2
  have bK11 := hide B_11.out.size
  have neK7K11 : Hid (gK7 ≠ w11.heap.size) := hide (Nat.ne_of_lt K7_11.out.lt)
  have neK9K11 : Hid (gK9 ≠ w11.heap.size) := hide (Nat.ne_of_lt K9_11.out.lt)
  have KN := hide (Vb.new w11 ⟨4, 10, 4, 10, 1⟩)
  have NN := hide (Nx.alloc w11 (.cells #[.int .i64 4, .int .i64 10, .int .i64 4, .int .i64 10, .int .i64 1] 24))
  go_upto_region 9 with fail
  have K7_12 := hide (K7_11.out.below (NN.out))
  have K9_12 := hide (K9_11.out.below (NN.out))
  have B_12 := hide (Nx.trans B_11.out (NN.out))
  clear B_11 K7_11 K9_11
  generalize hw : w11.alloc (.cells #[.int .i64 4, .int .i64 10, .int .i64 4, .int .i64 10, .int .i64 1] 24) = w12 at *
  have K11_12 := KN
  clear KN NN hw
  generalize w11.heap.size = gK11 at *
  have K11_12 : Hid (Vb w12 gK11 ⟨4, 10, 4, 10, 1⟩) := K11_12
  clear K11_12
  obtain ⟨x0, x1, x2, x3, x4⟩ := row5 K9_12.out.row
  go_wp2_with fail
  refine (hU.out ⟨4, 10, 4, 10, 1⟩ 1 _).mono ?_
  rintro e w13 ⟨rfl, hs2⟩
  rw [Hkk12.out]
  rw [Hkk13.out]
  clear x0 x1 x2 x3 x4
  have K7_13 := hide (K7_12.out.below (hs2))
  have K9_13 := hide (K9_12.out.below (hs2))
  have B_13 := hide (Nx.trans B_12.out (hs2))
  clear B_12 K7_12 K9_12
  clear hs2
  have bK13 := hide B_13.out.size
  have neK7K13 : Hid (gK7 ≠ w13.heap.size) := hide (Nat.ne_of_lt K7_13.out.lt)
  have neK9K13 : Hid (gK9 ≠ w13.heap.size) := hide (Nat.ne_of_lt K9_13.out.lt)
  have KN := hide (Vb.new w13 ⟨4, 10, 3, 10, 1⟩)
  have NN := hide (Nx.alloc w13 (.cells #[.int .i64 4, .int .i64 10, .int .i64 3, .int .i64 10, .int .i64 1] 24))
  go_upto_region 10 with fail
  have K7_14 := hide (K7_13.out.below (NN.out))
  have K9_14 := hide (K9_13.out.below (NN.out))
  have B_14 := hide (Nx.trans B_13.out (NN.out))
  clear B_13 K7_13 K9_13
  generalize hw : w13.alloc (.cells #[.int .i64 4, .int .i64 10, .int .i64 3, .int .i64 10, .int .i64 1] 24) = w14 at *
  have K13_14 := KN
  clear KN NN hw
  generalize w13.heap.size = gK13 at *
  have K13_14 : Hid (Vb w14 gK13 ⟨4, 10, 3, 10, 1⟩) := K13_14
  obtain ⟨x0, x1, x2, x3, x4⟩ := row5 K9_14.out.row
  go_wp2_with fail
  refine (hU.out ⟨4, 10, 4, 10, 1⟩ 5 _).mono ?_
  rintro e w15 ⟨rfl, hs2⟩
  rw [Hkk14.out]
  rw [Hkk15.out]
  clear x0 x1 x2 x3 x4
  have K7_15 := hide (K7_14.out.below (hs2))
  have K9_15 := hide (K9_14.out.below (hs2))
  have K13_15 := hide (K13_14.out.below (hs2))
  have B_15 := hide (Nx.trans B_14.out (hs2))
  clear B_14 K7_14 K9_14 K13_14
  clear hs2
  have bK15 := hide B_15.out.size
  have neK7K15 : Hid (gK7 ≠ w15.heap.size) := hide (Nat.ne_of_lt K7_15.out.lt)
  have neK9K15 : Hid (gK9 ≠ w15.heap.size) := hide (Nat.ne_of_lt K9_15.out.lt)
  have neK13K15 : Hid (gK13 ≠ w15.heap.size) := hide (Nat.ne_of_lt K13_15.out.lt)
  have KN := hide (Vb.new w15 ⟨4, 10, 4, 10, 1⟩)
  have NN := hide (Nx.alloc w15 (.cells #[.int .i64 4, .int .i64 10, .int .i64 4, .int .i64 10, .int .i64 1] 24))
  go_upto_region 11 with fail
  have K7_16 := hide (K7_15.out.below (NN.out))
  have K9_16 := hide (K9_15.out.below (NN.out))
  have K13_16 := hide (K13_15.out.below (NN.out))
  have B_16 := hide (Nx.trans B_15.out (NN.out))
  clear B_15 K7_15 K9_15 K13_15
  generalize hw : w15.alloc (.cells #[.int .i64 4, .int .i64 10, .int .i64 4, .int .i64 10, .int .i64 1] 24) = w16 at *
  have K15_16 := KN
  clear KN NN hw
  generalize w15.heap.size = gK15 at *
  have K15_16 : Hid (Vb w16 gK15 ⟨4, 10, 4, 10, 1⟩) := K15_16
  clear K15_16
  obtain ⟨x0, x1, x2, x3, x4⟩ := row5 K7_16.out.row
  go_wp2_with fail
  refine (hU.out ⟨4, 10, 0, 0, 0⟩ 1 _).mono ?_
  rintro e w17 ⟨rfl, hs2⟩
  rw [Hkk16.out]
  rw [Hkk17.out]
  clear x0 x1 x2 x3 x4
  have K7_17 := hide (K7_16.out.below (hs2))
  have K9_17 := hide (K9_16.out.below (hs2))
  have K13_17 := hide (K13_16.out.below (hs2))
  have B_17 := hide (Nx.trans B_16.out (hs2))
  clear B_16 K7_16 K9_16 K13_16
  clear hs2
  have bK17 := hide B_17.out.size
  have neK7K17 : Hid (gK7 ≠ w17.heap.size) := hide (Nat.ne_of_lt K7_17.out.lt)
  have neK9K17 : Hid (gK9 ≠ w17.heap.size) := hide (Nat.ne_of_lt K9_17.out.lt)
  have neK13K17 : Hid (gK13 ≠ w17.heap.size) := hide (Nat.ne_of_lt K13_17.out.lt)
  have KN := hide (Vb.new w17 ⟨4, 10, 0, 0, 0⟩)
  have NN := hide (Nx.alloc w17 (.cells #[.int .i64 4, .int .i64 10, .int .i64 0, .int .i64 0, .int .i64 0] 24))
  go_upto_region 12 with fail
  have K7_18 := hide (K7_17.out.below (NN.out))
  have K9_18 := hide (K9_17.out.below (NN.out))
  have K13_18 := hide (K13_17.out.below (NN.out))
  have B_18 := hide (Nx.trans B_17.out (NN.out))
  clear B_17 K7_17 K9_17 K13_17
  generalize hw : w17.alloc (.cells #[.int .i64 4, .int .i64 10, .int .i64 0, .int .i64 0, .int .i64 0] 24) = w18 at *
  have K17_18 := KN
  clear KN NN hw
  generalize w17.heap.size = gK17 at *
  have K17_18 : Hid (Vb w18 gK17 ⟨4, 10, 0, 0, 0⟩) := K17_18
  clear K17_18
  clear K7_18
  obtain ⟨x0, x1, x2, x3, x4⟩ := row5 K9_18.out.row
  go_wp2_with fail
  refine (hU.out ⟨4, 10, 4, 10, 1⟩ 0 _).mono ?_
  rintro e w19 ⟨rfl, hs2⟩
  rw [Hkk18.out]
  rw [Hkk19.out]
  clear x0 x1 x2 x3 x4
  have K9_19 := hide (K9_18.out.below (hs2))
  have K13_19 := hide (K13_18.out.below (hs2))
  have B_19 := hide (Nx.trans B_18.out (hs2))
  clear B_18 K9_18 K13_18
  clear hs2
  have bK19 := hide B_19.out.size
  have neK9K19 : Hid (gK9 ≠ w19.heap.size) := hide (Nat.ne_of_lt K9_19.out.lt)
  have neK13K19 : Hid (gK13 ≠ w19.heap.size) := hide (Nat.ne_of_lt K13_19.out.lt)
  have KN := hide (Vb.new w19 ⟨4, 10, 4, 10, 1⟩)
  have NN := hide (Nx.alloc w19 (.cells #[.int .i64 4, .int .i64 10, .int .i64 4, .int .i64 10, .int .i64 1] 24))
  go_upto_region 13 with fail
  have K9_20 := hide (K9_19.out.below (NN.out))
  have K13_20 := hide (K13_19.out.below (NN.out))
  have B_20 := hide (Nx.trans B_19.out (NN.out))
  clear B_19 K9_19 K13_19
  generalize hw : w19.alloc (.cells #[.int .i64 4, .int .i64 10, .int .i64 4, .int .i64 10, .int .i64 1] 24) = w20 at *
  have K19_20 := KN
  clear KN NN hw
  generalize w19.heap.size = gK19 at *
  have K19_20 : Hid (Vb w20 gK19 ⟨4, 10, 4, 10, 1⟩) := K19_20
  clear K19_20
  obtain ⟨x0, x1, x2, x3, x4⟩ := row5 K13_20.out.row
  go_wp2_with fail
  refine (hI.out ⟨4, 10, 3, 10, 1⟩ _).mono ?_
  rintro e w21 ⟨rfl, hs2⟩
  rw [Hkk20.out]
  rw [Hkk21.out]
  clear x0 x1 x2 x3 x4
  have K9_21 := hide (K9_20.out.below (hs2))
  have K13_21 := hide (K13_20.out.below (hs2))
  have B_21 := hide (Nx.trans B_20.out (hs2))
  clear B_20 K9_20 K13_20
  clear hs2
  have bK21 := hide B_21.out.size
  have neK9K21 : Hid (gK9 ≠ w21.heap.size) := hide (Nat.ne_of_lt K9_21.out.lt)
  have neK13K21 : Hid (gK13 ≠ w21.heap.size) := hide (Nat.ne_of_lt K13_21.out.lt)
  have KN := hide (Vb.new w21 ⟨4, 10, 3, 10, 0⟩)
  have NN := hide (Nx.alloc w21 (.cells #[.int .i64 4, .int .i64 10, .int .i64 3, .int .i64 10, .int .i64 0] 24))
  go_upto_region 14 with fail
  have K9_22 := hide (K9_21.out.below (NN.out))
  have K13_22 := hide (K13_21.out.below (NN.out))
  have B_22 := hide (Nx.trans B_21.out (NN.out))
  clear B_21 K9_21 K13_21
  generalize hw : w21.alloc (.cells #[.int .i64 4, .int .i64 10, .int .i64 3, .int .i64 10, .int .i64 0] 24) = w22 at *
  have K21_22 := KN
  clear KN NN hw
  generalize w21.heap.size = gK21 at *
  have K21_22 : Hid (Vb w22 gK21 ⟨4, 10, 3, 10, 0⟩) := K21_22
  obtain ⟨x0, x1, x2, x3, x4⟩ := row5 K21_22.out.row
  go_wp2_with fail
  refine (hI.out ⟨4, 10, 3, 10, 0⟩ _).mono ?_
  rintro e w23 ⟨rfl, hs2⟩
  rw [Hkk22.out]
  rw [Hkk23.out]
  clear x0 x1 x2 x3 x4
  have K9_23 := hide (K9_22.out.below (hs2))
  have K13_23 := hide (K13_22.out.below (hs2))
  have K21_23 := hide (K21_22.out.below (hs2))
  have B_23 := hide (Nx.trans B_22.out (hs2))
  clear B_22 K9_22 K13_22 K21_22
  clear hs2
  have bK23 := hide B_23.out.size
  have neK9K23 : Hid (gK9 ≠ w23.heap.size) := hide (Nat.ne_of_lt K9_23.out.lt)
  have neK13K23 : Hid (gK13 ≠ w23.heap.size) := hide (Nat.ne_of_lt K13_23.out.lt)
  have neK21K23 : Hid (gK21 ≠ w23.heap.size) := hide (Nat.ne_of_lt K21_23.out.lt)
  have KN := hide (Vb.new w23 ⟨4, 10, 3, 10, 0⟩)
  have NN := hide (Nx.alloc w23 (.cells #[.int .i64 4, .int .i64 10, .int .i64 3, .int .i64 10, .int .i64 0] 24))
  go_upto_region 15 with fail
  have K9_24 := hide (K9_23.out.below (NN.out))
  have K13_24 := hide (K13_23.out.below (NN.out))
  have K21_24 := hide (K21_23.out.below (NN.out))
  have B_24 := hide (Nx.trans B_23.out (NN.out))
  clear B_23 K9_23 K13_23 K21_23
  generalize hw : w23.alloc (.cells #[.int .i64 4, .int .i64 10, .int .i64 3, .int .i64 10, .int .i64 0] 24) = w24 at *
  have K23_24 := KN
  clear KN NN hw
  generalize w23.heap.size = gK23 at *
  have K23_24 : Hid (Vb w24 gK23 ⟨4, 10, 3, 10, 0⟩) := K23_24
  clear K23_24
  obtain ⟨x0, x1, x2, x3, x4⟩ := row5 K21_24.out.row
  go_wp2_with fail
  refine (hW.out ⟨4, 10, 3, 10, 0⟩ 7 _).mono ?_
  rintro e w25 ⟨rfl, hs2⟩
  rw [Hkk24.out]
  rw [Hkk25.out]
  clear x0 x1 x2 x3 x4
  have K9_25 := hide (K9_24.out.below (hs2))
  have K13_25 := hide (K13_24.out.below (hs2))
  have K21_25 := hide (K21_24.out.below (hs2))
  have B_25 := hide (Nx.trans B_24.out (hs2))
  clear B_24 K9_24 K13_24 K21_24
  clear hs2
  have bK25 := hide B_25.out.size
  have neK9K25 : Hid (gK9 ≠ w25.heap.size) := hide (Nat.ne_of_lt K9_25.out.lt)
  have neK13K25 : Hid (gK13 ≠ w25.heap.size) := hide (Nat.ne_of_lt K13_25.out.lt)
  have neK21K25 : Hid (gK21 ≠ w25.heap.size) := hide (Nat.ne_of_lt K21_25.out.lt)
  have KN := hide (Vb.new w25 ⟨4, 10, 1, 10, 1⟩)
  have NN := hide (Nx.alloc w25 (.cells #[.int .i64 4, .int .i64 10, .int .i64 1, .int .i64 10, .int .i64 1] 24))
  go_upto_region 16 with fail
  have K9_26 := hide (K9_25.out.below (NN.out))
  have K13_26 := hide (K13_25.out.below (NN.out))
  have K21_26 := hide (K21_25.out.below (NN.out))
  have B_26 := hide (Nx.trans B_25.out (NN.out))
  clear B_25 K9_25 K13_25 K21_25
  generalize hw : w25.alloc (.cells #[.int .i64 4, .int .i64 10, .int .i64 1, .int .i64 10, .int .i64 1] 24) = w26 at *
  have K25_26 := KN
  clear KN NN hw
  generalize w25.heap.size = gK25 at *
  have K25_26 : Hid (Vb w26 gK25 ⟨4, 10, 1, 10, 1⟩) := K25_26
  obtain ⟨x0, x1, x2, x3, x4⟩ := row5 K21_26.out.row
  go_wp2_with fail
  refine (hW.out ⟨4, 10, 3, 10, 0⟩ 1 _).mono ?_
  rintro e w27 ⟨rfl, hs2⟩
  rw [Hkk26.out]
  rw [Hkk27.out]
  clear x0 x1 x2 x3 x4
  have K9_27 := hide (K9_26.out.below (hs2))
  have K13_27 := hide (K13_26.out.below (hs2))
  have K21_27 := hide (K21_26.out.below (hs2))
  have K25_27 := hide (K25_26.out.below (hs2))
  have B_27 := hide (Nx.trans B_26.out (hs2))
  clear B_26 K9_26 K13_26 K21_26 K25_26
  clear hs2
  have bK27 := hide B_27.out.size
  have neK9K27 : Hid (gK9 ≠ w27.heap.size) := hide (Nat.ne_of_lt K9_27.out.lt)
  have neK13K27 : Hid (gK13 ≠ w27.heap.size) := hide (Nat.ne_of_lt K13_27.out.lt)
  have neK21K27 : Hid (gK21 ≠ w27.heap.size) := hide (Nat.ne_of_lt K21_27.out.lt)
  have neK25K27 : Hid (gK25 ≠ w27.heap.size) := hide (Nat.ne_of_lt K25_27.out.lt)
  have KN := hide (Vb.new w27 ⟨4, 10, 3, 10, 1⟩)
  have NN := hide (Nx.alloc w27 (.cells #[.int .i64 4, .int .i64 10, .int .i64 3, .int .i64 10, .int .i64 1] 24))
  go_upto_region 17 with fail
  have K9_28 := hide (K9_27.out.below (NN.out))
  have K13_28 := hide (K13_27.out.below (NN.out))
  have K21_28 := hide (K21_27.out.below (NN.out))
  have K25_28 := hide (K25_27.out.below (NN.out))
  have B_28 := hide (Nx.trans B_27.out (NN.out))
  clear B_27 K9_27 K13_27 K21_27 K25_27
  generalize hw : w27.alloc (.cells #[.int .i64 4, .int .i64 10, .int .i64 3, .int .i64 10, .int .i64 1] 24) = w28 at *
  have K27_28 := KN
  clear KN NN hw
  generalize w27.heap.size = gK27 at *
  have K27_28 : Hid (Vb w28 gK27 ⟨4, 10, 3, 10, 1⟩) := K27_28
  obtain ⟨x0, x1, x2, x3, x4⟩ := row5 K21_28.out.row
  go_wp2_with fail
  refine (hW.out ⟨4, 10, 3, 10, 0⟩ 9 _).mono ?_
  rintro e w29 ⟨rfl, hs2⟩
  rw [Hkk28.out]
  rw [Hkk29.out]
  clear x0 x1 x2 x3 x4
  have K9_29 := hide (K9_28.out.below (hs2))
  have K13_29 := hide (K13_28.out.below (hs2))
  have K21_29 := hide (K21_28.out.below (hs2))
  have K25_29 := hide (K25_28.out.below (hs2))
  have K27_29 := hide (K27_28.out.below (hs2))
  have B_29 := hide (Nx.trans B_28.out (hs2))
  clear B_28 K9_28 K13_28 K21_28 K25_28 K27_28
  clear hs2
  have bK29 := hide B_29.out.size
  have neK9K29 : Hid (gK9 ≠ w29.heap.size) := hide (Nat.ne_of_lt K9_29.out.lt)
  have neK13K29 : Hid (gK13 ≠ w29.heap.size) := hide (Nat.ne_of_lt K13_29.out.lt)
  have neK21K29 : Hid (gK21 ≠ w29.heap.size) := hide (Nat.ne_of_lt K21_29.out.lt)
  have neK25K29 : Hid (gK25 ≠ w29.heap.size) := hide (Nat.ne_of_lt K25_29.out.lt)
  have neK27K29 : Hid (gK27 ≠ w29.heap.size) := hide (Nat.ne_of_lt K27_29.out.lt)
  have KN := hide (Vb.new w29 ⟨4, 10, 0, 10, 2⟩)
  have NN := hide (Nx.alloc w29 (.cells #[.int .i64 4, .int .i64 10, .int .i64 0, .int .i64 10, .int .i64 2] 24))
  go_upto_region 18 with fail
  have K9_30 := hide (K9_29.out.below (NN.out))
  have K13_30 := hide (K13_29.out.below (NN.out))
  have K21_30 := hide (K21_29.out.below (NN.out))
  have K25_30 := hide (K25_29.out.below (NN.out))
  have K27_30 := hide (K27_29.out.below (NN.out))
  have B_30 := hide (Nx.trans B_29.out (NN.out))
  clear B_29 K9_29 K13_29 K21_29 K25_29 K27_29
  generalize hw : w29.alloc (.cells #[.int .i64 4, .int .i64 10, .int .i64 0, .int .i64 10, .int .i64 2] 24) = w30 at *
  have K29_30 := KN
  clear KN NN hw
  generalize w29.heap.size = gK29 at *
  have K29_30 : Hid (Vb w30 gK29 ⟨4, 10, 0, 10, 2⟩) := K29_30
  obtain ⟨x0, x1, x2, x3, x4⟩ := row5 K21_30.out.row
  go_wp2_with fail
  refine (hW.out ⟨4, 10, 3, 10, 0⟩ 10 _).mono ?_
  rintro e w31 ⟨rfl, hs2⟩
  rw [Hkk30.out]
  rw [Hkk31.out]
  clear x0 x1 x2 x3 x4
  have K9_31 := hide (K9_30.out.below (hs2))
  have K13_31 := hide (K13_30.out.below (hs2))
  have K21_31 := hide (K21_30.out.below (hs2))
  have K25_31 := hide (K25_30.out.below (hs2))
  have K27_31 := hide (K27_30.out.below (hs2))
  have K29_31 := hide (K29_30.out.below (hs2))
  have B_31 := hide (Nx.trans B_30.out (hs2))
  clear B_30 K9_30 K13_30 K21_30 K25_30 K27_30 K29_30
  clear hs2
  have bK31 := hide B_31.out.size
  have neK9K31 : Hid (gK9 ≠ w31.heap.size) := hide (Nat.ne_of_lt K9_31.out.lt)
  have neK13K31 : Hid (gK13 ≠ w31.heap.size) := hide (Nat.ne_of_lt K13_31.out.lt)
  have neK21K31 : Hid (gK21 ≠ w31.heap.size) := hide (Nat.ne_of_lt K21_31.out.lt)
  have neK25K31 : Hid (gK25 ≠ w31.heap.size) := hide (Nat.ne_of_lt K25_31.out.lt)
  have neK27K31 : Hid (gK27 ≠ w31.heap.size) := hide (Nat.ne_of_lt K27_31.out.lt)
  have neK29K31 : Hid (gK29 ≠ w31.heap.size) := hide (Nat.ne_of_lt K29_31.out.lt)
  have KN := hide (Vb.new w31 ⟨4, 10, 4, 20, 1⟩)
  have NN := hide (Nx.alloc w31 (.cells #[.int .i64 4, .int .i64 10, .int .i64 4, .int .i64 20, .int .i64 1] 24))
  go_upto_region 19 with fail
  have K9_32 := hide (K9_31.out.below (NN.out))
  have K13_32 := hide (K13_31.out.below (NN.out))
  have K21_32 := hide (K21_31.out.below (NN.out))
  have K25_32 := hide (K25_31.out.below (NN.out))
  have K27_32 := hide (K27_31.out.below (NN.out))
  have K29_32 := hide (K29_31.out.below (NN.out))
  have B_32 := hide (Nx.trans B_31.out (NN.out))
  clear B_31 K9_31 K13_31 K21_31 K25_31 K27_31 K29_31
  generalize hw : w31.alloc (.cells #[.int .i64 4, .int .i64 10, .int .i64 4, .int .i64 20, .int .i64 1] 24) = w32 at *
  have K31_32 := KN
  clear KN NN hw
  generalize w31.heap.size = gK31 at *
  have K31_32 : Hid (Vb w32 gK31 ⟨4, 10, 4, 20, 1⟩) := K31_32
  obtain ⟨x0, x1, x2, x3, x4⟩ := row5 K21_32.out.row
  go_wp2_with fail
  refine (hW.out ⟨4, 10, 3, 10, 0⟩ 4611686018427387904 _).mono ?_
  rintro e w33 ⟨rfl, hs2⟩
  rw [Hkk32.out]
  rw [Hkk33.out]
  clear x0 x1 x2 x3 x4
  have K9_33 := hide (K9_32.out.below (hs2))
  have K13_33 := hide (K13_32.out.below (hs2))
  have K21_33 := hide (K21_32.out.below (hs2))
  have K25_33 := hide (K25_32.out.below (hs2))
  have K27_33 := hide (K27_32.out.below (hs2))
  have K29_33 := hide (K29_32.out.below (hs2))
  have K31_33 := hide (K31_32.out.below (hs2))
  have B_33 := hide (Nx.trans B_32.out (hs2))
  clear B_32 K9_32 K13_32 K21_32 K25_32 K27_32 K29_32 K31_32
  clear hs2
  have bK33 := hide B_33.out.size
  have neK9K33 : Hid (gK9 ≠ w33.heap.size) := hide (Nat.ne_of_lt K9_33.out.lt)
  have neK13K33 : Hid (gK13 ≠ w33.heap.size) := hide (Nat.ne_of_lt K13_33.out.lt)
  have neK21K33 : Hid (gK21 ≠ w33.heap.size) := hide (Nat.ne_of_lt K21_33.out.lt)
  have neK25K33 : Hid (gK25 ≠ w33.heap.size) := hide (Nat.ne_of_lt K25_33.out.lt)
  have neK27K33 : Hid (gK27 ≠ w33.heap.size) := hide (Nat.ne_of_lt K27_33.out.lt)
  have neK29K33 : Hid (gK29 ≠ w33.heap.size) := hide (Nat.ne_of_lt K29_33.out.lt)
  have neK31K33 : Hid (gK31 ≠ w33.heap.size) := hide (Nat.ne_of_lt K31_33.out.lt)
  have KN := hide (Vb.new w33 ⟨4, 10, 3, 10, 0⟩)
  have NN := hide (Nx.alloc w33 (.cells #[.int .i64 4, .int .i64 10, .int .i64 3, .int .i64 10, .int .i64 0] 24))
  go_upto_region 20 with fail
  have K9_34 := hide (K9_33.out.below (NN.out))
  have K13_34 := hide (K13_33.out.below (NN.out))
  have K21_34 := hide (K21_33.out.below (NN.out))
  have K25_34 := hide (K25_33.out.below (NN.out))
  have K27_34 := hide (K27_33.out.below (NN.out))
  have K29_34 := hide (K29_33.out.below (NN.out))
  have K31_34 := hide (K31_33.out.below (NN.out))
  have B_34 := hide (Nx.trans B_33.out (NN.out))
  clear B_33 K9_33 K13_33 K21_33 K25_33 K27_33 K29_33 K31_33
  generalize hw : w33.alloc (.cells #[.int .i64 4, .int .i64 10, .int .i64 3, .int .i64 10, .int .i64 0] 24) = w34 at *
  have K33_34 := KN
  clear KN NN hw
  generalize w33.heap.size = gK33 at *
  have K33_34 : Hid (Vb w34 gK33 ⟨4, 10, 3, 10, 0⟩) := K33_34
  clear K33_34
  obtain ⟨x0, x1, x2, x3, x4⟩ := row5 K9_34.out.row
  go_wp2_with fail
  refine (hU.out ⟨4, 10, 4, 10, 1⟩ 4 _).mono ?_
  rintro e w35 ⟨rfl, hs2⟩
  rw [Hkk34.out]
  rw [Hkk35.out]
  clear x0 x1 x2 x3 x4
  have K9_35 := hide (K9_34.out.below (hs2))
  have K13_35 := hide (K13_34.out.below (hs2))
  have K21_35 := hide (K21_34.out.below (hs2))
  have K25_35 := hide (K25_34.out.below (hs2))
  have K27_35 := hide (K27_34.out.below (hs2))
  have K29_35 := hide (K29_34.out.below (hs2))
  have K31_35 := hide (K31_34.out.below (hs2))
  have B_35 := hide (Nx.trans B_34.out (hs2))
  clear B_34 K9_34 K13_34 K21_34 K25_34 K27_34 K29_34 K31_34
  clear hs2
  have bK35 := hide B_35.out.size
  have neK9K35 : Hid (gK9 ≠ w35.heap.size) := hide (Nat.ne_of_lt K9_35.out.lt)
  have neK13K35 : Hid (gK13 ≠ w35.heap.size) := hide (Nat.ne_of_lt K13_35.out.lt)
  have neK21K35 : Hid (gK21 ≠ w35.heap.size) := hide (Nat.ne_of_lt K21_35.out.lt)
  have neK25K35 : Hid (gK25 ≠ w35.heap.size) := hide (Nat.ne_of_lt K25_35.out.lt)
  have neK27K35 : Hid (gK27 ≠ w35.heap.size) := hide (Nat.ne_of_lt K27_35.out.lt)
  have neK29K35 : Hid (gK29 ≠ w35.heap.size) := hide (Nat.ne_of_lt K29_35.out.lt)
  have neK31K35 : Hid (gK31 ≠ w35.heap.size) := hide (Nat.ne_of_lt K31_35.out.lt)
  have KN := hide (Vb.new w35 ⟨4, 10, 0, 10, 2⟩)
  have NN := hide (Nx.alloc w35 (.cells #[.int .i64 4, .int .i64 10, .int .i64 0, .int .i64 10, .int .i64 2] 24))
  go_upto_region 21 with fail
  have K9_36 := hide (K9_35.out.below (NN.out))
  have K13_36 := hide (K13_35.out.below (NN.out))
  have K21_36 := hide (K21_35.out.below (NN.out))
  have K25_36 := hide (K25_35.out.below (NN.out))
  have K27_36 := hide (K27_35.out.below (NN.out))
  have K29_36 := hide (K29_35.out.below (NN.out))
  have K31_36 := hide (K31_35.out.below (NN.out))
  have B_36 := hide (Nx.trans B_35.out (NN.out))
  clear B_35 K9_35 K13_35 K21_35 K25_35 K27_35 K29_35 K31_35
  generalize hw : w35.alloc (.cells #[.int .i64 4, .int .i64 10, .int .i64 0, .int .i64 10, .int .i64 2] 24) = w36 at *
  have K35_36 := KN
  clear KN NN hw
  generalize w35.heap.size = gK35 at *
  have K35_36 : Hid (Vb w36 gK35 ⟨4, 10, 0, 10, 2⟩) := K35_36
  obtain ⟨x0, x1, x2, x3, x4⟩ := row5 K35_36.out.row
  go_wp2_with fail
  refine (hT.out ⟨4, 10, 0, 10, 2⟩ 10 _).mono ?_
  rintro e w37 ⟨rfl, hs2⟩
  rw [Hkk36.out]
  rw [Hkk37.out]
  clear x0 x1 x2 x3 x4
  have K9_37 := hide (K9_36.out.below (hs2))
  have K13_37 := hide (K13_36.out.below (hs2))
  have K21_37 := hide (K21_36.out.below (hs2))
  have K25_37 := hide (K25_36.out.below (hs2))
  have K27_37 := hide (K27_36.out.below (hs2))
  have K29_37 := hide (K29_36.out.below (hs2))
  have K31_37 := hide (K31_36.out.below (hs2))
  have K35_37 := hide (K35_36.out.below (hs2))
  have B_37 := hide (Nx.trans B_36.out (hs2))
  clear B_36 K9_36 K13_36 K21_36 K25_36 K27_36 K29_36 K31_36 K35_36
  clear hs2
  have bK37 := hide B_37.out.size
  have neK9K37 : Hid (gK9 ≠ w37.heap.size) := hide (Nat.ne_of_lt K9_37.out.lt)
  have neK13K37 : Hid (gK13 ≠ w37.heap.size) := hide (Nat.ne_of_lt K13_37.out.lt)
  have neK21K37 : Hid (gK21 ≠ w37.heap.size) := hide (Nat.ne_of_lt K21_37.out.lt)
  have neK25K37 : Hid (gK25 ≠ w37.heap.size) := hide (Nat.ne_of_lt K25_37.out.lt)
  have neK27K37 : Hid (gK27 ≠ w37.heap.size) := hide (Nat.ne_of_lt K27_37.out.lt)
  have neK29K37 : Hid (gK29 ≠ w37.heap.size) := hide (Nat.ne_of_lt K29_37.out.lt)
  have neK31K37 : Hid (gK31 ≠ w37.heap.size) := hide (Nat.ne_of_lt K31_37.out.lt)
  have neK35K37 : Hid (gK35 ≠ w37.heap.size) := hide (Nat.ne_of_lt K35_37.out.lt)
  have KN := hide (Vb.new w37 ⟨4, 10, 4, 20, 1⟩)
  have NN := hide (Nx.alloc w37 (.cells #[.int .i64 4, .int .i64 10, .int .i64 4, .int .i64 20, .int .i64 1] 24))
  go_upto_region 22 with fail
  have K9_38 := hide (K9_37.out.below (NN.out))
  have K13_38 := hide (K13_37.out.below (NN.out))
  have K21_38 := hide (K21_37.out.below (NN.out))
  have K25_38 := hide (K25_37.out.below (NN.out))
  have K27_38 := hide (K27_37.out.below (NN.out))
  have K29_38 := hide (K29_37.out.below (NN.out))
  have K31_38 := hide (K31_37.out.below (NN.out))
  have K35_38 := hide (K35_37.out.below (NN.out))
  have B_38 := hide (Nx.trans B_37.out (NN.out))
  clear B_37 K9_37 K13_37 K21_37 K25_37 K27_37 K29_37 K31_37 K35_37
  generalize hw : w37.alloc (.cells #[.int .i64 4, .int .i64 10, .int .i64 4, .int .i64 20, .int .i64 1] 24) = w38 at *
  have K37_38 := KN
  clear KN NN hw
  generalize w37.heap.size = gK37 at *
  have K37_38 : Hid (Vb w38 gK37 ⟨4, 10, 4, 20, 1⟩) := K37_38
  obtain ⟨x0, x1, x2, x3, x4⟩ := row5 K35_38.out.row
  go_wp2_with fail
  refine (hT.out ⟨4, 10, 0, 10, 2⟩ 35 _).mono ?_
  rintro e w39 ⟨rfl, hs2⟩
  rw [Hkk38.out]
  rw [Hkk39.out]
  clear x0 x1 x2 x3 x4
  have K9_39 := hide (K9_38.out.below (hs2))
  have K13_39 := hide (K13_38.out.below (hs2))
  have K21_39 := hide (K21_38.out.below (hs2))
  have K25_39 := hide (K25_38.out.below (hs2))
  have K27_39 := hide (K27_38.out.below (hs2))
  have K29_39 := hide (K29_38.out.below (hs2))
  have K31_39 := hide (K31_38.out.below (hs2))
  have K35_39 := hide (K35_38.out.below (hs2))
  have K37_39 := hide (K37_38.out.below (hs2))
  have B_39 := hide (Nx.trans B_38.out (hs2))
  clear B_38 K9_38 K13_38 K21_38 K25_38 K27_38 K29_38 K31_38 K35_38 K37_38
  clear hs2
  have bK39 := hide B_39.out.size
  have neK9K39 : Hid (gK9 ≠ w39.heap.size) := hide (Nat.ne_of_lt K9_39.out.lt)
  have neK13K39 : Hid (gK13 ≠ w39.heap.size) := hide (Nat.ne_of_lt K13_39.out.lt)
  have neK21K39 : Hid (gK21 ≠ w39.heap.size) := hide (Nat.ne_of_lt K21_39.out.lt)
  have neK25K39 : Hid (gK25 ≠ w39.heap.size) := hide (Nat.ne_of_lt K25_39.out.lt)
  have neK27K39 : Hid (gK27 ≠ w39.heap.size) := hide (Nat.ne_of_lt K27_39.out.lt)
  have neK29K39 : Hid (gK29 ≠ w39.heap.size) := hide (Nat.ne_of_lt K29_39.out.lt)
  have neK31K39 : Hid (gK31 ≠ w39.heap.size) := hide (Nat.ne_of_lt K31_39.out.lt)
  have neK35K39 : Hid (gK35 ≠ w39.heap.size) := hide (Nat.ne_of_lt K35_39.out.lt)
  have neK37K39 : Hid (gK37 ≠ w39.heap.size) := hide (Nat.ne_of_lt K37_39.out.lt)
  have KN := hide (Vb.new w39 ⟨4, 10, 4, 40, 1⟩)
  have NN := hide (Nx.alloc w39 (.cells #[.int .i64 4, .int .i64 10, .int .i64 4, .int .i64 40, .int .i64 1] 24))
  go_upto_region 23 with fail
  have K9_40 := hide (K9_39.out.below (NN.out))
  have K13_40 := hide (K13_39.out.below (NN.out))
  have K21_40 := hide (K21_39.out.below (NN.out))
  have K25_40 := hide (K25_39.out.below (NN.out))
  have K27_40 := hide (K27_39.out.below (NN.out))
  have K29_40 := hide (K29_39.out.below (NN.out))
  have K31_40 := hide (K31_39.out.below (NN.out))
  have K35_40 := hide (K35_39.out.below (NN.out))
  have K37_40 := hide (K37_39.out.below (NN.out))
  have B_40 := hide (Nx.trans B_39.out (NN.out))
  clear B_39 K9_39 K13_39 K21_39 K25_39 K27_39 K29_39 K31_39 K35_39 K37_39
  generalize hw : w39.alloc (.cells #[.int .i64 4, .int .i64 10, .int .i64 4, .int .i64 40, .int .i64 1] 24) = w40 at *
  have K39_40 := KN
  clear KN NN hw
  generalize w39.heap.size = gK39 at *
  have K39_40 : Hid (Vb w40 gK39 ⟨4, 10, 4, 40, 1⟩) := K39_40
  obtain ⟨x0, x1, x2, x3, x4⟩ := row5 K35_40.out.row
  go_wp2_with fail
  refine (hT.out ⟨4, 10, 0, 10, 2⟩ 9 _).mono ?_
  rintro e w41 ⟨rfl, hs2⟩
  rw [Hkk40.out]
  rw [Hkk41.out]
  clear x0 x1 x2 x3 x4
  have K9_41 := hide (K9_40.out.below (hs2))
  have K13_41 := hide (K13_40.out.below (hs2))
  have K21_41 := hide (K21_40.out.below (hs2))
  have K25_41 := hide (K25_40.out.below (hs2))
  have K27_41 := hide (K27_40.out.below (hs2))
  have K29_41 := hide (K29_40.out.below (hs2))
  have K31_41 := hide (K31_40.out.below (hs2))
  have K35_41 := hide (K35_40.out.below (hs2))
  have K37_41 := hide (K37_40.out.below (hs2))
  have K39_41 := hide (K39_40.out.below (hs2))
  have B_41 := hide (Nx.trans B_40.out (hs2))
  clear B_40 K9_40 K13_40 K21_40 K25_40 K27_40 K29_40 K31_40 K35_40 K37_40 K39_40
  clear hs2
  have bK41 := hide B_41.out.size
  have neK9K41 : Hid (gK9 ≠ w41.heap.size) := hide (Nat.ne_of_lt K9_41.out.lt)
  have neK13K41 : Hid (gK13 ≠ w41.heap.size) := hide (Nat.ne_of_lt K13_41.out.lt)
  have neK21K41 : Hid (gK21 ≠ w41.heap.size) := hide (Nat.ne_of_lt K21_41.out.lt)
  have neK25K41 : Hid (gK25 ≠ w41.heap.size) := hide (Nat.ne_of_lt K25_41.out.lt)
  have neK27K41 : Hid (gK27 ≠ w41.heap.size) := hide (Nat.ne_of_lt K27_41.out.lt)
  have neK29K41 : Hid (gK29 ≠ w41.heap.size) := hide (Nat.ne_of_lt K29_41.out.lt)
  have neK31K41 : Hid (gK31 ≠ w41.heap.size) := hide (Nat.ne_of_lt K31_41.out.lt)
  have neK35K41 : Hid (gK35 ≠ w41.heap.size) := hide (Nat.ne_of_lt K35_41.out.lt)
  have neK37K41 : Hid (gK37 ≠ w41.heap.size) := hide (Nat.ne_of_lt K37_41.out.lt)
  have neK39K41 : Hid (gK39 ≠ w41.heap.size) := hide (Nat.ne_of_lt K39_41.out.lt)
  have KN := hide (Vb.new w41 ⟨4, 10, 0, 10, 2⟩)
  have NN := hide (Nx.alloc w41 (.cells #[.int .i64 4, .int .i64 10, .int .i64 0, .int .i64 10, .int .i64 2] 24))
  go_upto_region 24 with fail
  have K9_42 := hide (K9_41.out.below (NN.out))
  have K13_42 := hide (K13_41.out.below (NN.out))
  have K21_42 := hide (K21_41.out.below (NN.out))
  have K25_42 := hide (K25_41.out.below (NN.out))
  have K27_42 := hide (K27_41.out.below (NN.out))
  have K29_42 := hide (K29_41.out.below (NN.out))
  have K31_42 := hide (K31_41.out.below (NN.out))
  have K35_42 := hide (K35_41.out.below (NN.out))
  have K37_42 := hide (K37_41.out.below (NN.out))
  have K39_42 := hide (K39_41.out.below (NN.out))
  have B_42 := hide (Nx.trans B_41.out (NN.out))
  clear B_41 K9_41 K13_41 K21_41 K25_41 K27_41 K29_41 K31_41 K35_41 K37_41 K39_41
  generalize hw : w41.alloc (.cells #[.int .i64 4, .int .i64 10, .int .i64 0, .int .i64 10, .int .i64 2] 24) = w42 at *
  have K41_42 := KN
  clear KN NN hw
  generalize w41.heap.size = gK41 at *
  have K41_42 : Hid (Vb w42 gK41 ⟨4, 10, 0, 10, 2⟩) := K41_42
  clear K41_42
  obtain ⟨x0, x1, x2, x3, x4⟩ := row5 K21_42.out.row
  go_wp2_with fail
  refine (hT.out ⟨4, 10, 3, 10, 0⟩ 99 _).mono ?_
  rintro e w43 ⟨rfl, hs2⟩
  rw [Hkk42.out]
  rw [Hkk43.out]
  clear x0 x1 x2 x3 x4
  have K9_43 := hide (K9_42.out.below (hs2))
  have K13_43 := hide (K13_42.out.below (hs2))
  have K21_43 := hide (K21_42.out.below (hs2))
  have K25_43 := hide (K25_42.out.below (hs2))
  have K27_43 := hide (K27_42.out.below (hs2))
  have K29_43 := hide (K29_42.out.below (hs2))
  have K31_43 := hide (K31_42.out.below (hs2))
  have K35_43 := hide (K35_42.out.below (hs2))
  have K37_43 := hide (K37_42.out.below (hs2))
  have K39_43 := hide (K39_42.out.below (hs2))
  have B_43 := hide (Nx.trans B_42.out (hs2))
  clear B_42 K9_42 K13_42 K21_42 K25_42 K27_42 K29_42 K31_42 K35_42 K37_42 K39_42
  clear hs2
  have bK43 := hide B_43.out.size
  have neK9K43 : Hid (gK9 ≠ w43.heap.size) := hide (Nat.ne_of_lt K9_43.out.lt)
  have neK13K43 : Hid (gK13 ≠ w43.heap.size) := hide (Nat.ne_of_lt K13_43.out.lt)
  have neK21K43 : Hid (gK21 ≠ w43.heap.size) := hide (Nat.ne_of_lt K21_43.out.lt)
  have neK25K43 : Hid (gK25 ≠ w43.heap.size) := hide (Nat.ne_of_lt K25_43.out.lt)
  have neK27K43 : Hid (gK27 ≠ w43.heap.size) := hide (Nat.ne_of_lt K27_43.out.lt)
  have neK29K43 : Hid (gK29 ≠ w43.heap.size) := hide (Nat.ne_of_lt K29_43.out.lt)
  have neK31K43 : Hid (gK31 ≠ w43.heap.size) := hide (Nat.ne_of_lt K31_43.out.lt)
  have neK35K43 : Hid (gK35 ≠ w43.heap.size) := hide (Nat.ne_of_lt K35_43.out.lt)
  have neK37K43 : Hid (gK37 ≠ w43.heap.size) := hide (Nat.ne_of_lt K37_43.out.lt)
  have neK39K43 : Hid (gK39 ≠ w43.heap.size) := hide (Nat.ne_of_lt K39_43.out.lt)
  have KN := hide (Vb.new w43 ⟨4, 10, 3, 10, 0⟩)
  have NN := hide (Nx.alloc w43 (.cells #[.int .i64 4, .int .i64 10, .int .i64 3, .int .i64 10, .int .i64 0] 24))
  go_upto_region 25 with fail
  have K9_44 := hide (K9_43.out.below (NN.out))
  have K13_44 := hide (K13_43.out.below (NN.out))
  have K21_44 := hide (K21_43.out.below (NN.out))
  have K25_44 := hide (K25_43.out.below (NN.out))
  have K27_44 := hide (K27_43.out.below (NN.out))
  have K29_44 := hide (K29_43.out.below (NN.out))
  have K31_44 := hide (K31_43.out.below (NN.out))
  have K35_44 := hide (K35_43.out.below (NN.out))
  have K37_44 := hide (K37_43.out.below (NN.out))
  have K39_44 := hide (K39_43.out.below (NN.out))
  have B_44 := hide (Nx.trans B_43.out (NN.out))
  clear B_43 K9_43 K13_43 K21_43 K25_43 K27_43 K29_43 K31_43 K35_43 K37_43 K39_43
  generalize hw : w43.alloc (.cells #[.int .i64 4, .int .i64 10, .int .i64 3, .int .i64 10, .int .i64 0] 24) = w44 at *
  have K43_44 := KN
  clear KN NN hw
  generalize w43.heap.size = gK43 at *
  have K43_44 : Hid (Vb w44 gK43 ⟨4, 10, 3, 10, 0⟩) := K43_44
  clear K43_44
  clear K21_44
  obtain ⟨x0, x1, x2, x3, x4⟩ := row5 K9_44.out.row
  go_wp2_with fail
  refine (hWt.out ⟨4, 10, 4, 10, 1⟩ _).mono ?_
  rintro e w45 ⟨rfl, hs2⟩
  rw [Hkk44.out]
  rw [Hkk45.out]
  clear x0 x1 x2 x3 x4
  have K9_45 := hide (K9_44.out.below (hs2))
  have K13_45 := hide (K13_44.out.below (hs2))
  have K25_45 := hide (K25_44.out.below (hs2))
  have K27_45 := hide (K27_44.out.below (hs2))
  have K29_45 := hide (K29_44.out.below (hs2))
  have K31_45 := hide (K31_44.out.below (hs2))
  have K35_45 := hide (K35_44.out.below (hs2))
  have K37_45 := hide (K37_44.out.below (hs2))
  have K39_45 := hide (K39_44.out.below (hs2))
  have B_45 := hide (Nx.trans B_44.out (hs2))
  clear B_44 K9_44 K13_44 K25_44 K27_44 K29_44 K31_44 K35_44 K37_44 K39_44
  clear hs2
  have bK45 := hide B_45.out.size
  have neK9K45 : Hid (gK9 ≠ w45.heap.size) := hide (Nat.ne_of_lt K9_45.out.lt)
  have neK13K45 : Hid (gK13 ≠ w45.heap.size) := hide (Nat.ne_of_lt K13_45.out.lt)
  have neK25K45 : Hid (gK25 ≠ w45.heap.size) := hide (Nat.ne_of_lt K25_45.out.lt)
  have neK27K45 : Hid (gK27 ≠ w45.heap.size) := hide (Nat.ne_of_lt K27_45.out.lt)
  have neK29K45 : Hid (gK29 ≠ w45.heap.size) := hide (Nat.ne_of_lt K29_45.out.lt)
  have neK31K45 : Hid (gK31 ≠ w45.heap.size) := hide (Nat.ne_of_lt K31_45.out.lt)
  have neK35K45 : Hid (gK35 ≠ w45.heap.size) := hide (Nat.ne_of_lt K35_45.out.lt)
  have neK37K45 : Hid (gK37 ≠ w45.heap.size) := hide (Nat.ne_of_lt K37_45.out.lt)
  have neK39K45 : Hid (gK39 ≠ w45.heap.size) := hide (Nat.ne_of_lt K39_45.out.lt)
  have KN := hide (Vb.new w45 ⟨4, 10, 4, 10, 2⟩)
  have NN := hide (Nx.alloc w45 (.cells #[.int .i64 4, .int .i64 10, .int .i64 4, .int .i64 10, .int .i64 2] 24))
  go_upto_region 26 with fail
  have K9_46 := hide (K9_45.out.below (NN.out))
  have K13_46 := hide (K13_45.out.below (NN.out))
  have K25_46 := hide (K25_45.out.below (NN.out))
  have K27_46 := hide (K27_45.out.below (NN.out))
  have K29_46 := hide (K29_45.out.below (NN.out))
  have K31_46 := hide (K31_45.out.below (NN.out))
  have K35_46 := hide (K35_45.out.below (NN.out))
  have K37_46 := hide (K37_45.out.below (NN.out))
  have K39_46 := hide (K39_45.out.below (NN.out))
  have B_46 := hide (Nx.trans B_45.out (NN.out))
  clear B_45 K9_45 K13_45 K25_45 K27_45 K29_45 K31_45 K35_45 K37_45 K39_45
  generalize hw : w45.alloc (.cells #[.int .i64 4, .int .i64 10, .int .i64 4, .int .i64 10, .int .i64 2] 24) = w46 at *
  have K45_46 := KN
  clear KN NN hw
  generalize w45.heap.size = gK45 at *
  have K45_46 : Hid (Vb w46 gK45 ⟨4, 10, 4, 10, 2⟩) := K45_46
  obtain ⟨x0, x1, x2, x3, x4⟩ := row5 K45_46.out.row
  go_wp2_with fail
  refine (hWt.out ⟨4, 10, 4, 10, 2⟩ _).mono ?_
  rintro e w47 ⟨rfl, hs2⟩
  rw [Hkk46.out]
  rw [Hkk47.out]
  clear x0 x1 x2 x3 x4
  have K9_47 := hide (K9_46.out.below (hs2))
  have K13_47 := hide (K13_46.out.below (hs2))
  have K25_47 := hide (K25_46.out.below (hs2))
  have K27_47 := hide (K27_46.out.below (hs2))
  have K29_47 := hide (K29_46.out.below (hs2))
  have K31_47 := hide (K31_46.out.below (hs2))
  have K35_47 := hide (K35_46.out.below (hs2))
  have K37_47 := hide (K37_46.out.below (hs2))
  have K39_47 := hide (K39_46.out.below (hs2))
  have K45_47 := hide (K45_46.out.below (hs2))
  have B_47 := hide (Nx.trans B_46.out (hs2))
  clear B_46 K9_46 K13_46 K25_46 K27_46 K29_46 K31_46 K35_46 K37_46 K39_46 K45_46
  clear hs2
  have bK47 := hide B_47.out.size
  have neK9K47 : Hid (gK9 ≠ w47.heap.size) := hide (Nat.ne_of_lt K9_47.out.lt)
  have neK13K47 : Hid (gK13 ≠ w47.heap.size) := hide (Nat.ne_of_lt K13_47.out.lt)
  have neK25K47 : Hid (gK25 ≠ w47.heap.size) := hide (Nat.ne_of_lt K25_47.out.lt)
  have neK27K47 : Hid (gK27 ≠ w47.heap.size) := hide (Nat.ne_of_lt K27_47.out.lt)
  have neK29K47 : Hid (gK29 ≠ w47.heap.size) := hide (Nat.ne_of_lt K29_47.out.lt)
  have neK31K47 : Hid (gK31 ≠ w47.heap.size) := hide (Nat.ne_of_lt K31_47.out.lt)
  have neK35K47 : Hid (gK35 ≠ w47.heap.size) := hide (Nat.ne_of_lt K35_47.out.lt)
  have neK37K47 : Hid (gK37 ≠ w47.heap.size) := hide (Nat.ne_of_lt K37_47.out.lt)
  have neK39K47 : Hid (gK39 ≠ w47.heap.size) := hide (Nat.ne_of_lt K39_47.out.lt)
  have neK45K47 : Hid (gK45 ≠ w47.heap.size) := hide (Nat.ne_of_lt K45_47.out.lt)
  have KN := hide (Vb.new w47 ⟨4, 10, 4, 10, 2⟩)
  have NN := hide (Nx.alloc w47 (.cells #[.int .i64 4, .int .i64 10, .int .i64 4, .int .i64 10, .int .i64 2] 24))
  go_upto_region 27 with fail
  have K9_48 := hide (K9_47.out.below (NN.out))
  have K13_48 := hide (K13_47.out.below (NN.out))
  have K25_48 := hide (K25_47.out.below (NN.out))
  have K27_48 := hide (K27_47.out.below (NN.out))
  have K29_48 := hide (K29_47.out.below (NN.out))
  have K31_48 := hide (K31_47.out.below (NN.out))
  have K35_48 := hide (K35_47.out.below (NN.out))
  have K37_48 := hide (K37_47.out.below (NN.out))
  have K39_48 := hide (K39_47.out.below (NN.out))
  have K45_48 := hide (K45_47.out.below (NN.out))
  have B_48 := hide (Nx.trans B_47.out (NN.out))
  clear B_47 K9_47 K13_47 K25_47 K27_47 K29_47 K31_47 K35_47 K37_47 K39_47 K45_47
  generalize hw : w47.alloc (.cells #[.int .i64 4, .int .i64 10, .int .i64 4, .int .i64 10, .int .i64 2] 24) = w48 at *
  have K47_48 := KN
  clear KN NN hw
  generalize w47.heap.size = gK47 at *
  have K47_48 : Hid (Vb w48 gK47 ⟨4, 10, 4, 10, 2⟩) := K47_48
  clear K47_48
  obtain ⟨x0_0, x0_1, x0_2, x0_3, x0_4⟩ := row5 K9_48.out.row
  obtain ⟨x1_0, x1_1, x1_2, x1_3, x1_4⟩ := row5 K13_48.out.row
  obtain ⟨x2_0, x2_1, x2_2, x2_3, x2_4⟩ := row5 K25_48.out.row
  obtain ⟨x3_0, x3_1, x3_2, x3_3, x3_4⟩ := row5 K27_48.out.row
  obtain ⟨x4_0, x4_1, x4_2, x4_3, x4_4⟩ := row5 K29_48.out.row
  obtain ⟨x5_0, x5_1, x5_2, x5_3, x5_4⟩ := row5 K31_48.out.row
  obtain ⟨x6_0, x6_1, x6_2, x6_3, x6_4⟩ := row5 K35_48.out.row
  obtain ⟨x7_0, x7_1, x7_2, x7_3, x7_4⟩ := row5 K37_48.out.row
  obtain ⟨x8_0, x8_1, x8_2, x8_3, x8_4⟩ := row5 K39_48.out.row
  obtain ⟨x9_0, x9_1, x9_2, x9_3, x9_4⟩ := row5 K45_48.out.row
  clear Hkk0 Hkk1 Hkk2 Hkk3 Hkk4 Hkk5 Hkk6 Hkk7 Hkk8 Hkk9 Hkk10 Hkk11 Hkk12 Hkk13 Hkk14 Hkk15 Hkk16 Hkk17 Hkk18 Hkk19 Hkk20 Hkk21 Hkk22 Hkk23 Hkk24 Hkk25 Hkk26 Hkk27 Hkk28 Hkk29 Hkk30 Hkk31 Hkk32 Hkk33 Hkk34 Hkk35 Hkk36 Hkk37 Hkk38 Hkk39 Hkk40 Hkk41 Hkk42 Hkk43 Hkk44 Hkk45 Hkk46 Hkk47 hA hN hW hU hI hWt hT
  go_wp2_with fail
  refine (hL.out ⟨4, 10, 4, 10, 1⟩ ⟨4, 10, 4, 20, 1⟩ _).mono ?_
  rintro e w49 ⟨rfl, hs2⟩
  clear x0_0 x0_1 x0_2 x0_3 x0_4 x1_0 x1_1 x1_2 x1_3 x1_4 x2_0 x2_1 x2_2 x2_3 x2_4 x3_0 x3_1 x3_2 x3_3 x3_4 x4_0 x4_1 x4_2 x4_3 x4_4 x5_0 x5_1 x5_2 x5_3 x5_4 x6_0 x6_1 x6_2 x6_3 x6_4 x7_0 x7_1 x7_2 x7_3 x7_4 x8_0 x8_1 x8_2 x8_3 x8_4 x9_0 x9_1 x9_2 x9_3 x9_4
  have K9_49 := hide (K9_48.out.below (hs2))
  have K13_49 := hide (K13_48.out.below (hs2))
  have K25_49 := hide (K25_48.out.below (hs2))
  have K27_49 := hide (K27_48.out.below (hs2))
  have K29_49 := hide (K29_48.out.below (hs2))
  have K31_49 := hide (K31_48.out.below (hs2))
  have K35_49 := hide (K35_48.out.below (hs2))
  have K37_49 := hide (K37_48.out.below (hs2))
  have K39_49 := hide (K39_48.out.below (hs2))
  have K45_49 := hide (K45_48.out.below (hs2))
  have B_49 := hide (Nx.trans B_48.out (hs2))
  clear B_48 K9_48 K13_48 K25_48 K27_48 K29_48 K31_48 K35_48 K37_48 K39_48 K45_48
  clear hs2
  rw [Hkk48.out]
  clear K13_49
  clear K25_49
  clear K27_49
  clear K29_49
  clear K31_49
  clear K35_49
  clear K39_49
  clear K45_49
  obtain ⟨x0, x1, x2, x3, x4⟩ := row5 K9_49.out.row
  obtain ⟨y0, y1, y2, y3, y4⟩ := row5 K37_49.out.row
  go_wp2_with fail
  refine (hL.out ⟨4, 10, 4, 20, 1⟩ ⟨4, 10, 4, 10, 1⟩ _).mono ?_
  rintro e w50 ⟨rfl, hs2⟩
  clear x0 x1 x2 x3 x4 y0 y1 y2 y3 y4
  have K9_50 := hide (K9_49.out.below (hs2))
  have K37_50 := hide (K37_49.out.below (hs2))
  have B_50 := hide (Nx.trans B_49.out (hs2))
  clear B_49 K9_49 K37_49
  clear hs2
  rw [Hkk49.out]
  go_wp2_with fail
  refine (hG.out ⟨1, 1, 0, 0, 1⟩ _).mono ?_
  rintro e w51 ⟨rfl, hs2⟩
  rw [Hkk50.out]
  have K9_51 := hide (K9_50.out.below (hs2))
  have K37_51 := hide (K37_50.out.below (hs2))
  have B_51 := hide (Nx.trans B_50.out (hs2))
  clear B_50 K9_50 K37_50
  clear hs2
  go_wp2
  go_ret
  exact ⟨rfl, B_51.out⟩
end Go.Proofs.Ytegfhndcimkjoaa.Cb
