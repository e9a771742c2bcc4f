/- WinKnown: the examples. -/
import Derived.Test.YtkfddjmhoekjgaaWnWork
namespace Go.Proofs.Ytkfddjmhoekjgaa.Wn
open Go.RowKit Go.Proofs.Ytkfddjmhoekjgaa.Con
set_option linter.unusedVariables false
set_option linter.unusedSimpArgs false
def none65 : List Pr := List.replicate 65 (0, 0)
theorem make65 (w : World) : (Instr.makeSlice 28 (.int .i64 65) (.int .i64 65)).run Try.prog w = .ok (.slice (some ⟨w.heap.size, 0, none⟩) 65 65) (w.alloc (.cells (flat none65).toArray 24)) := by kernel_rfl
theorem sl65 (w : World) : Sl (w.alloc (.cells (flat none65).toArray 24)) (.slice (some ⟨w.heap.size, 0, none⟩) 65 65) none65 := Sl.lit (L := none65) (heap_alloc_new w _) (by decide)
theorem new2 (w : World) (e : Nat) (a b x y : Value) : ((((w.alloc (.cells #[a, b] e)).setCell ⟨w.heap.size, 0, none⟩ x).setCell ⟨w.heap.size, 1, none⟩ y)).heap[w.heap.size]? = some (.cells #[x, y] e (0, 0)) := by
  rw [heap_setCell_same _ w.heap.size 1 _ _ _ (heap_setCell_same _ w.heap.size 0 _ _ _ (heap_alloc_new w _))]; rfl
theorem bel_new2 (w : World) (e : Nat) (a b x y : Value) : Nx w (((w.alloc (.cells #[a, b] e)).setCell ⟨w.heap.size, 0, none⟩ x).setCell ⟨w.heap.size, 1, none⟩ y) :=
  (Below.setCell (Below.setCell (bel1 _) (Nat.le_refl _) _) (Nat.le_refl _) _)
theorem wk0 : allB 1 [(1, 2), (1, 2)] = false ∧ allE 1 [(1, 2), (1, 2)] = 0 := by decide +kernel
theorem wk1 : allB 2 [(1, 2), (1, 2)] = true ∧ allE 2 [(1, 2), (1, 2)] = 0 := by decide +kernel
theorem wk2 : allB 2 [(5, 5), (9, 9)] = true ∧ allE 2 [(5, 5), (9, 9)] = 0 := by decide +kernel
theorem wk3 : allB 0 [] = false ∧ allE 0 [] = 1 := by decide +kernel
theorem wk4 : allB 64 [] = true ∧ allE 64 [] = 0 := by decide +kernel
theorem wk5 : oneB 1 [(1, 2)] 1 = false ∧ oneE 1 [(1, 2)] 1 = 1 := by decide +kernel
theorem wk6 : allB 1 [(3, 2)] = false ∧ allE 1 [(3, 2)] = 1 := by decide +kernel
theorem wk7 : allB 1 none65 = false ∧ allE 1 none65 = 1 := by decide +kernel
theorem wk8 : workV (1, 2) 0 = 0 ∧ workB (1, 2) 0 = true := by decide +kernel
theorem wk9 : workV (2, 5) 4 = 4 ∧ workB (2, 5) 4 = true := by decide +kernel
theorem wk10 : workV (1, 2) 2147483649 = 0 ∧ workB (1, 2) 2147483649 = false := by decide +kernel
theorem wk11 : takesV (9, 9) (3, 5) = 3 ∧ takesB (9, 9) (3, 5) = true := by decide +kernel
theorem wk12 : useN [(1, 2), (1, 2)] = 1 ∧ useX [(1, 2), (1, 2)] = true := by decide +kernel
theorem wk13 : useN [(1, 3), (1, 3), (1, 2)] = 2 ∧ useX [(1, 3), (1, 3), (1, 2)] = false := by decide +kernel
theorem wk14 : useN [] = 0 ∧ useX [] = true := by decide +kernel
set_option maxHeartbeats 16000000 in
set_option maxRecDepth 100000 in
theorem known_walk (hA : Hid AwakeC) (hW : Hid WorkC) (hT : Hid TakesC) (hO : Hid OneC) (hAl : Hid AllC) (hU : Hid UseC) (w : World) :
    Calls Try.prog 3 #[] w fun e w' => e = .returned (.bool true) ∧ Nx w w' := by
  have Hk0 := hide wk0
  have Hk1 := hide wk1
  have Hk2 := hide wk2
  have Hk3 := hide wk3
  have Hk4 := hide wk4
  have Hk5 := hide wk5
  have Hk6 := hide wk6
  have Hk7 := hide wk7
  have Hk8 := hide wk8
  have Hk9 := hide wk9
  have Hk10 := hide wk10
  have Hk11 := hide wk11
  have Hk12 := hide wk12
  have Hk13 := hide wk13
  have Hk14 := hide wk14
  go_enter Try.func3, Try.ntmps3
  go_wp2_with fail
  refine (hA.out _).mono ?_
  rintro e w0 ⟨rfl, hb0⟩
  have K := hide (Vp.new w0 (1, 2))
  have B := hide (Nx.trans hb0 (Nx.alloc w0 (.cells #[.int .i64 1, .int .i64 2] 24)))
  clear hb0
  go_upto_region 4 with fail
  generalize w0.alloc (.cells #[.int .i64 1, .int .i64 2] 24) = w1 at *
  generalize w0.heap.size = g at *
  obtain ⟨x0, x1⟩ := K.out.cells
  have S0 := hide (Sl.lit (L := [(1, 2), (1, 2)]) (heap_alloc_new w1 (.cells #[.int .i64 1, .int .i64 2, .int .i64 1, .int .i64 2] 24)) (by decide))
  have BA := hide (Nx.alloc w1 (.cells #[.int .i64 1, .int .i64 2, .int .i64 1, .int .i64 2] 24))
  go_wp2_with fail
  refine (hAl.out 1 [(1, 2), (1, 2)] _ _ S0.out).mono ?_
  rintro e w2 ⟨rfl, hb⟩
  rw [Hk0.out.1, Hk0.out.2]
  have hb' := hide (Nx.trans BA.out hb)
  have K := hide (K.out.below hb'.out)
  have B := hide (Nx.trans B.out hb'.out)
  clear hb hb' x0 x1 Hk0 BA S0
  obtain ⟨x0, x1⟩ := K.out.cells
  have S1 := hide (Sl.lit (L := [(1, 2), (1, 2)]) (heap_alloc_new w2 (.cells #[.int .i64 1, .int .i64 2, .int .i64 1, .int .i64 2] 24)) (by decide))
  have BA := hide (Nx.alloc w2 (.cells #[.int .i64 1, .int .i64 2, .int .i64 1, .int .i64 2] 24))
  go_wp2_with fail
  refine (hAl.out 2 [(1, 2), (1, 2)] _ _ S1.out).mono ?_
  rintro e w3 ⟨rfl, hb⟩
  rw [Hk1.out.1, Hk1.out.2]
  have hb' := hide (Nx.trans BA.out hb)
  have K := hide (K.out.below hb'.out)
  have B := hide (Nx.trans B.out hb'.out)
  clear hb hb' x0 x1 Hk1 BA S1
  obtain ⟨x0, x1⟩ := K.out.cells
  have S2 := hide (Sl.lit (L := [(5, 5), (9, 9)]) (heap_alloc_new w3 (.cells #[.int .i64 5, .int .i64 5, .int .i64 9, .int .i64 9] 24)) (by decide))
  have BA := hide (Nx.alloc w3 (.cells #[.int .i64 5, .int .i64 5, .int .i64 9, .int .i64 9] 24))
  go_wp2_with fail
  refine (hAl.out 2 [(5, 5), (9, 9)] _ _ S2.out).mono ?_
  rintro e w4 ⟨rfl, hb⟩
  rw [Hk2.out.1, Hk2.out.2]
  have hb' := hide (Nx.trans BA.out hb)
  have K := hide (K.out.below hb'.out)
  have B := hide (Nx.trans B.out hb'.out)
  clear hb hb' x0 x1 Hk2 BA S2
  obtain ⟨x0, x1⟩ := K.out.cells
  go_wp2_with fail
  refine (hAl.out 0 [] _ _ (Sl.nil _)).mono ?_
  rintro e w5 ⟨rfl, hb⟩
  rw [Hk3.out.1, Hk3.out.2]
  have hb' := hide (hb)
  have K := hide (K.out.below hb'.out)
  have B := hide (Nx.trans B.out hb'.out)
  clear hb hb' x0 x1 Hk3
  obtain ⟨x0, x1⟩ := K.out.cells
  go_wp2_with fail
  refine (hAl.out 64 [] _ _ (Sl.nil _)).mono ?_
  rintro e w6 ⟨rfl, hb⟩
  rw [Hk4.out.1, Hk4.out.2]
  have hb' := hide (hb)
  have K := hide (K.out.below hb'.out)
  have B := hide (Nx.trans B.out hb'.out)
  clear hb hb' x0 x1 Hk4
  obtain ⟨x0, x1⟩ := K.out.cells
  have S5 := hide (Sl.lit (L := [(1, 2)]) (heap_alloc_new w6 (.cells #[.int .i64 1, .int .i64 2] 24)) (by decide))
  have BA := hide (Nx.alloc w6 (.cells #[.int .i64 1, .int .i64 2] 24))
  go_wp2_with fail
  refine (hO.out 1 [(1, 2)] _ 1 _ S5.out).mono ?_
  rintro e w7 ⟨rfl, hb⟩
  rw [Hk5.out.1, Hk5.out.2]
  have hb' := hide (Nx.trans BA.out hb)
  have K := hide (K.out.below hb'.out)
  have B := hide (Nx.trans B.out hb'.out)
  clear hb hb' x0 x1 Hk5 BA S5
  obtain ⟨x0, x1⟩ := K.out.cells
  have S6 := hide (Sl.lit (L := [(3, 2)]) (heap_alloc_new w7 (.cells #[.int .i64 3, .int .i64 2] 24)) (by decide))
  have BA := hide (Nx.alloc w7 (.cells #[.int .i64 3, .int .i64 2] 24))
  go_wp2_with fail
  refine (hAl.out 1 [(3, 2)] _ _ S6.out).mono ?_
  rintro e w8 ⟨rfl, hb⟩
  rw [Hk6.out.1, Hk6.out.2]
  have hb' := hide (Nx.trans BA.out hb)
  have K := hide (K.out.below hb'.out)
  have B := hide (Nx.trans B.out hb'.out)
  clear hb hb' x0 x1 Hk6 BA S6
  obtain ⟨x0, x1⟩ := K.out.cells
  have hmk := make65
  have S7 := hide (sl65 w8)
  have BA := hide (Nx.alloc w8 (.cells (flat none65).toArray 24))
  generalize (flat none65).toArray = c65 at *
  go_wp2_with fail
  refine (hAl.out 1 none65 _ _ S7.out).mono ?_
  rintro e w9 ⟨rfl, hb⟩
  rw [Hk7.out.1, Hk7.out.2]
  have hb' := hide (Nx.trans BA.out hb)
  have K := hide (K.out.below hb'.out)
  have B := hide (Nx.trans B.out hb'.out)
  clear hb hb' x0 x1 Hk7 BA S7
  obtain ⟨x0, x1⟩ := K.out.cells
  go_wp2_with fail
  refine (hW.out (1, 2) 0 _).mono ?_
  rintro e w10 ⟨rfl, hb⟩
  rw [Hk8.out.1, Hk8.out.2]
  have hb' := hide (hb)
  have K := hide (K.out.below hb'.out)
  have B := hide (Nx.trans B.out hb'.out)
  clear hb hb' x0 x1 Hk8
  obtain ⟨x0, x1⟩ := K.out.cells
  go_wp2_with fail
  refine (hW.out (2, 5) 4 _).mono ?_
  rintro e w11 ⟨rfl, hb⟩
  rw [Hk9.out.1, Hk9.out.2]
  have hb' := hide (hb)
  have K := hide (K.out.below hb'.out)
  have B := hide (Nx.trans B.out hb'.out)
  clear hb hb' x0 x1 Hk9
  obtain ⟨x0, x1⟩ := K.out.cells
  go_wp2_with fail
  refine (hW.out (1, 2) 2147483649 _).mono ?_
  rintro e w12 ⟨rfl, hb⟩
  rw [Hk10.out.1, Hk10.out.2]
  have hb' := hide (hb)
  have K := hide (K.out.below hb'.out)
  have B := hide (Nx.trans B.out hb'.out)
  clear hb hb' x0 x1 Hk10
  obtain ⟨x0, x1⟩ := K.out.cells
  go_wp2_with fail
  refine (hT.out (9, 9) (3, 5) _).mono ?_
  rintro e w13 ⟨rfl, hb⟩
  rw [Hk11.out.1, Hk11.out.2]
  have hb' := hide (hb)
  have K := hide (K.out.below hb'.out)
  have B := hide (Nx.trans B.out hb'.out)
  clear hb hb' x0 x1 Hk11
  obtain ⟨x0, x1⟩ := K.out.cells
  have S12 := hide (Sl.lit (L := [(1, 2), (1, 2)]) (heap_alloc_new w13 (.cells #[.int .i64 1, .int .i64 2, .int .i64 1, .int .i64 2] 24)) (by decide))
  have BA := hide (Nx.alloc w13 (.cells #[.int .i64 1, .int .i64 2, .int .i64 1, .int .i64 2] 24))
  go_wp2_with fail
  refine (hU.out [(1, 2), (1, 2)] _ _ S12.out).mono ?_
  rintro e w14 ⟨rfl, hb⟩
  rw [Hk12.out.1, Hk12.out.2]
  have hb' := hide (Nx.trans BA.out hb)
  have K := hide (K.out.below hb'.out)
  have B := hide (Nx.trans B.out hb'.out)
  clear hb hb' x0 x1 Hk12 BA S12
  obtain ⟨x0, x1⟩ := K.out.cells
  have S13 := hide (Sl.lit (L := [(1, 3), (1, 3), (1, 2)]) (heap_alloc_new w14 (.cells #[.int .i64 1, .int .i64 3, .int .i64 1, .int .i64 3, .int .i64 1, .int .i64 2] 24)) (by decide))
  have BA := hide (Nx.alloc w14 (.cells #[.int .i64 1, .int .i64 3, .int .i64 1, .int .i64 3, .int .i64 1, .int .i64 2] 24))
  go_wp2_with fail
  refine (hU.out [(1, 3), (1, 3), (1, 2)] _ _ S13.out).mono ?_
  rintro e w15 ⟨rfl, hb⟩
  rw [Hk13.out.1, Hk13.out.2]
  have hb' := hide (Nx.trans BA.out hb)
  have K := hide (K.out.below hb'.out)
  have B := hide (Nx.trans B.out hb'.out)
  clear hb hb' x0 x1 Hk13 BA S13
  obtain ⟨x0, x1⟩ := K.out.cells
  go_wp2_with fail
  refine (hU.out [] _ _ (Sl.nil _)).mono ?_
  rintro e w16 ⟨rfl, hb⟩
  rw [Hk14.out.1, Hk14.out.2]
  have hb' := hide (hb)
  have K := hide (K.out.below hb'.out)
  have B := hide (Nx.trans B.out hb'.out)
  clear hb hb' x0 x1 Hk14
  obtain ⟨x0, x1⟩ := K.out.cells
  go_wp2
  go_ret
  exact ⟨rfl, B.out⟩
end Go.Proofs.Ytkfddjmhoekjgaa.Wn
