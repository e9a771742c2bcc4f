/- EdfKnown: the examples. -/
import Derived.Test.YtacbiiiadalocaaEdAw
namespace Go.Proofs.Ytacbiiiadalocaa.Ed
open Go.RowKit Go.Proofs.Ytacbiiiadalocaa.Con
set_option linter.unusedVariables false
set_option linter.unusedSimpArgs false
attribute [local go_sem ↓] Go.wp_at_zero Go.wp_at_succ
def l4 : List Et := [(7, 3, false), (2, 9, true), (4, 3, false), (9, 1, false)]
def l65 : List Et := List.replicate 65 (0, 0, false)
theorem kn_w3 : ev (val (worstO 3 l4)) = .agg #[.int .i64 4, .int .i64 3, .bool false] ∧ (worstO 3 l4).isSome = true := by
  rw [show worstO 3 l4 = some (4, 3, false) by decide +kernel]; exact ⟨rfl, rfl⟩
theorem kn_f3 : ev (val (firstO 3 l4)) = .agg #[.int .i64 7, .int .i64 3, .bool false] ∧ (firstO 3 l4).isSome = true := by
  rw [show firstO 3 l4 = some (7, 3, false) by decide +kernel]; exact ⟨rfl, rfl⟩
theorem kn_w1 : ev (val (worstO 1 l4)) = .agg #[.int .i64 0, .int .i64 0, .bool false] ∧ (worstO 1 l4).isSome = false := by
  rw [show worstO 1 l4 = none by decide +kernel]; exact ⟨rfl, rfl⟩
theorem kn_f4 : ev (val (firstO 4 l4)) = .agg #[.int .i64 0, .int .i64 0, .bool false] ∧ (firstO 4 l4).isSome = false := by
  rw [show firstO 4 l4 = none by decide +kernel]; exact ⟨rfl, rfl⟩
theorem kn_b1 : beatsN 3 l4 (1, 2, false) = 4 ∧ beatsB 3 l4 (1, 2, false) = true := by decide +kernel
theorem kn_b2 : beatsN 3 l4 (1, 4, false) = 0 ∧ beatsB 3 l4 (1, 4, false) = false := by decide +kernel
theorem kn_b3 : beatsN 9 l4 (1, 99, false) = -1 ∧ beatsB 9 l4 (1, 99, false) = true := by decide +kernel
theorem kn_b4 : beatsN 3 l4 (1, 99, true) = 4 ∧ beatsB 3 l4 (1, 99, true) = true := by decide +kernel
theorem kn_b5 : beatsN 3 l4 (7, 0, false) = 0 ∧ beatsB 3 l4 (7, 0, false) = false := by decide +kernel
theorem kn_p3 : pickL 3 l4 = [2, 4, 9] := by decide +kernel
theorem kn_g0 : goodE 0 [] = false ∧ goodE 65 [] = false ∧ goodE 64 [] = true ∧ pickL 1 [] = [] := by decide +kernel
theorem kn_bad {L : List Et} (h : goodE 1 L = false) : firstO 1 L = none ∧ pickL 1 L = [] := by
  unfold firstO pickL
  rw [h]; exact ⟨rfl, rfl⟩
theorem kn_bads : goodE 1 [(-1, 0, false)] = false ∧ goodE 1 [(1024, 0, false)] = false ∧ goodE 1 [(3, 0, false), (3, 0, false)] = false ∧ goodE 1 [(1, 0, true), (2, 0, true)] = false ∧ goodE 1 l65 = false := by decide +kernel
theorem infoEk : (Try.prog.info? 24).map (fun i => (i.zero, i.size, i.bytes)) = some (some (.agg #[.int .i64 0, .int .i64 0, .bool false]), 3, 24) := by kernel_rfl
theorem made65 : (flatE l65).toArray = madeCells #[.int .i64 0, .int .i64 0, .bool false] (65 * 3) := by
  kernel_rfl
theorem mk_65 (w : World) : (Instr.makeSlice 25 (.int .i64 65) (.int .i64 65)).run Try.prog w = .ok (.slice (some ⟨w.heap.size, 0, none⟩) 65 65) (w.alloc (.cells (flatE l65).toArray 24)) := by
  obtain ⟨i, hi, hz0, hz1, hz2⟩ := info_parts infoEk
  have := run_make (P := Try.prog) w 25 24 i _ Try.underlying25 hi hz0 .i64 .i64 65 65 (by omega) (by omega) (by rw [hz2]; omega) (by omega)
  rw [hz1] at this
  rw [made65]
  exact this
set_option maxHeartbeats 16000000 in
set_option maxRecDepth 100000 in
theorem known_walk (hA : Hid AwakeC) (hG : Hid GoodC) (hL : Hid LessC) (hP : Hid PickC) (hW : Hid WorstC) (hF : Hid FirstC) (hB : Hid BeatsC) (W : World) :
    Calls Try.prog 3 #[] W fun e w' => e = .returned (.bool true) ∧ Nx W w' := by
  go_enter Try.func3, Try.ntmps3
  go_wp2_with fail
  refine (hA.out _).mono ?_
  rintro e w0 ⟨rfl, hb⟩
  have N0 := hide hb
  clear hb
  have R0 := hide (heap_alloc_new w0 (.cells #[.int .i64 7, .int .i64 3, .bool false, .int .i64 2, .int .i64 9, .bool true, .int .i64 4, .int .i64 3, .bool false, .int .i64 9, .int .i64 1, .bool false] 24))
  have N1 := hide (Nx.trans N0.out (Nx.alloc w0 (.cells #[.int .i64 7, .int .i64 3, .bool false, .int .i64 2, .int .i64 9, .bool true, .int .i64 4, .int .i64 3, .bool false, .int .i64 9, .int .i64 1, .bool false] 24)))
  clear N0
  go_upto_region 4 with fail
  generalize hgg : w0.heap.size = g at *
  generalize w0.alloc (.cells #[.int .i64 7, .int .i64 3, .bool false, .int .i64 2, .int .i64 9, .bool true, .int .i64 4, .int .i64 3, .bool false, .int .i64 9, .int .i64 1, .bool false] 24) = w1 at *
  clear hgg
  have SL4 : Hid (∀ w, Nx w1 w → Sl w (.slice (some ⟨g, 0, none⟩) 4 4) l4) := hide (fun w h => Sl.lit (L := l4) (row_nx R0.out h) (by decide))
  clear R0
  have CW3 : Hid (∀ w, Nx w1 w → Calls Try.prog 10 #[.int .i64 3, .slice (some ⟨g, 0, none⟩) 4 4] w fun e w' => e = .returned (.tuple #[.agg #[.int .i64 4, .int .i64 3, .bool false], .bool true]) ∧ Nx w w') := hide (fun w h => by
    have := hW.out 3 l4 _ w (SL4.out w h) (by decide)
    rwa [kn_w3.1, kn_w3.2] at this)
  have CF3 : Hid (∀ w, Nx w1 w → Calls Try.prog 11 #[.int .i64 3, .slice (some ⟨g, 0, none⟩) 4 4] w fun e w' => e = .returned (.tuple #[.agg #[.int .i64 7, .int .i64 3, .bool false], .bool true]) ∧ Nx w w') := hide (fun w h => by
    have := hF.out 3 l4 _ w (SL4.out w h) (by decide)
    rwa [kn_f3.1, kn_f3.2] at this)
  have CW1 : Hid (∀ w, Nx w1 w → Calls Try.prog 10 #[.int .i64 1, .slice (some ⟨g, 0, none⟩) 4 4] w fun e w' => e = .returned (.tuple #[.agg #[.int .i64 0, .int .i64 0, .bool false], .bool false]) ∧ Nx w w') := hide (fun w h => by
    have := hW.out 1 l4 _ w (SL4.out w h) (by decide)
    rwa [kn_w1.1, kn_w1.2] at this)
  have CF4 : Hid (∀ w, Nx w1 w → Calls Try.prog 11 #[.int .i64 4, .slice (some ⟨g, 0, none⟩) 4 4] w fun e w' => e = .returned (.tuple #[.agg #[.int .i64 0, .int .i64 0, .bool false], .bool false]) ∧ Nx w w') := hide (fun w h => by
    have := hF.out 4 l4 _ w (SL4.out w h) (by decide)
    rwa [kn_f4.1, kn_f4.2] at this)
  have CB1 : Hid (∀ w, Nx w1 w → Calls Try.prog 12 #[.int .i64 3, .slice (some ⟨g, 0, none⟩) 4 4, .agg #[.int .i64 1, .int .i64 2, .bool false]] w fun e w' => e = .returned (.tuple #[.int .i64 4, .bool true]) ∧ Nx w w') := hide (fun w h => by
    have := hB.out 3 l4 _ (1, 2, false) w (SL4.out w h) (by decide)
    rwa [kn_b1.1, kn_b1.2] at this)
  have CB2 : Hid (∀ w, Nx w1 w → Calls Try.prog 12 #[.int .i64 3, .slice (some ⟨g, 0, none⟩) 4 4, .agg #[.int .i64 1, .int .i64 4, .bool false]] w fun e w' => e = .returned (.tuple #[.int .i64 0, .bool false]) ∧ Nx w w') := hide (fun w h => by
    have := hB.out 3 l4 _ (1, 4, false) w (SL4.out w h) (by decide)
    rwa [kn_b2.1, kn_b2.2] at this)
  have CB3 : Hid (∀ w, Nx w1 w → Calls Try.prog 12 #[.int .i64 9, .slice (some ⟨g, 0, none⟩) 4 4, .agg #[.int .i64 1, .int .i64 99, .bool false]] w fun e w' => e = .returned (.tuple #[.int .i64 (-1), .bool true]) ∧ Nx w w') := hide (fun w h => by
    have := hB.out 9 l4 _ (1, 99, false) w (SL4.out w h) (by decide)
    rwa [kn_b3.1, kn_b3.2] at this)
  have CB4 : Hid (∀ w, Nx w1 w → Calls Try.prog 12 #[.int .i64 3, .slice (some ⟨g, 0, none⟩) 4 4, .agg #[.int .i64 1, .int .i64 99, .bool true]] w fun e w' => e = .returned (.tuple #[.int .i64 4, .bool true]) ∧ Nx w w') := hide (fun w h => by
    have := hB.out 3 l4 _ (1, 99, true) w (SL4.out w h) (by decide)
    rwa [kn_b4.1, kn_b4.2] at this)
  have CB5 : Hid (∀ w, Nx w1 w → Calls Try.prog 12 #[.int .i64 3, .slice (some ⟨g, 0, none⟩) 4 4, .agg #[.int .i64 7, .int .i64 0, .bool false]] w fun e w' => e = .returned (.tuple #[.int .i64 0, .bool false]) ∧ Nx w w') := hide (fun w h => by
    have := hB.out 3 l4 _ (7, 0, false) w (SL4.out w h) (by decide)
    rwa [kn_b5.1, kn_b5.2] at this)
  have CP3 : Hid (∀ w, Nx w1 w → Calls Try.prog 14 #[.int .i64 3, .slice (some ⟨g, 0, none⟩) 4 4] w fun e w' => ∃ v', e = .returned v' ∧ Hid (Is w' v' [2, 4, 9]) ∧ Nx w w') := hide (fun w h => by
    have := hP.out 3 l4 _ w (SL4.out w h) (by decide)
    rwa [kn_p3] at this)
  have CG0 : Hid (∀ w, Calls Try.prog 13 #[.int .i64 0, .slice none 0 0] w fun e w' => e = .returned (.bool false) ∧ Nx w w') := hide (fun w => by
    have := hG.out 0 [] _ w (Sl.nil w) (by decide)
    rwa [kn_g0.1] at this)
  have CG65 : Hid (∀ w, Calls Try.prog 13 #[.int .i64 65, .slice none 0 0] w fun e w' => e = .returned (.bool false) ∧ Nx w w') := hide (fun w => by
    have := hG.out 65 [] _ w (Sl.nil w) (by decide)
    rwa [kn_g0.2.1] at this)
  have CG64 : Hid (∀ w, Calls Try.prog 13 #[.int .i64 64, .slice none 0 0] w fun e w' => e = .returned (.bool true) ∧ Nx w w') := hide (fun w => by
    have := hG.out 64 [] _ w (Sl.nil w) (by decide)
    rwa [kn_g0.2.2.1] at this)
  have CP1 : Hid (∀ w, Calls Try.prog 14 #[.int .i64 1, .slice none 0 0] w fun e w' => ∃ v', e = .returned v' ∧ Hid (Is w' v' []) ∧ Nx w w') := hide (fun w => by
    have := hP.out 1 [] _ w (Sl.nil w) (by decide)
    rwa [kn_g0.2.2.2] at this)
  have BF : Hid (∀ L, goodE 1 L = false → L.length ≤ 100 → ∀ w v, Sl w v L → Calls Try.prog 11 #[.int .i64 1, v] w fun e w' => e = .returned (.tuple #[.agg #[.int .i64 0, .int .i64 0, .bool false], .bool false]) ∧ Nx w w') := hide (fun L hg hl w v h => by
    have := hF.out 1 L v w h hl
    rw [(kn_bad hg).1] at this
    exact this)
  have BG : Hid (∀ L, goodE 1 L = false → L.length ≤ 100 → ∀ w v, Sl w v L → Calls Try.prog 13 #[.int .i64 1, v] w fun e w' => e = .returned (.bool false) ∧ Nx w w') := hide (fun L hg hl w v h => by
    have := hG.out 1 L v w h hl
    rwa [hg] at this)
  have BP : Hid (∀ L, goodE 1 L = false → L.length ≤ 100 → ∀ w v, Sl w v L → Calls Try.prog 14 #[.int .i64 1, v] w fun e w' => ∃ v', e = .returned v' ∧ Hid (Is w' v' []) ∧ Nx w w') := hide (fun L hg hl w v h => by
    have := hP.out 1 L v w h hl
    rwa [(kn_bad hg).2] at this)
  have NB := hide (Nx.refl w1)
  clear hG hL hP hW hF hB hA
  go_wp2_with fail
  refine (CW3.out _ NB.out).mono ?_
  rintro e wa ⟨rfl, hb⟩
  have NC := hide (Nx.trans NB.out hb)
  have NE := hide (Nx.trans NC.out (Nx.alloc wa (.cells #[.int .i64 4, .int .i64 3, .bool false] 24)))
  have ga_R := hide (heap_alloc_new wa (.cells #[.int .i64 4, .int .i64 3, .bool false] 24))
  clear hb NB NC
  go_upto_region 5 with fail
  generalize hgg : wa.heap.size = ga at *
  generalize wa.alloc (.cells #[.int .i64 4, .int .i64 3, .bool false] 24) = w2 at *
  clear hgg
  have NB := NE
  clear NE CW3
  go_wp2_with fail
  refine (CF3.out _ NB.out).mono ?_
  rintro e wa ⟨rfl, hb⟩
  have NC := hide (Nx.trans NB.out hb)
  have NE := hide (Nx.trans NC.out (Nx.alloc wa (.cells #[.int .i64 7, .int .i64 3, .bool false] 24)))
  have gc_R := hide (heap_alloc_new wa (.cells #[.int .i64 7, .int .i64 3, .bool false] 24))
  have ga_N := hide (row_nx (row_nx ga_R.out hb) (Nx.alloc wa (.cells #[.int .i64 7, .int .i64 3, .bool false] 24)))
  clear ga_R
  have ga_R := ga_N
  clear ga_N
  clear hb NB NC
  go_upto_region 6 with fail
  generalize hgg : wa.heap.size = gc at *
  generalize wa.alloc (.cells #[.int .i64 7, .int .i64 3, .bool false] 24) = w3 at *
  clear hgg
  have NB := NE
  clear NE CF3
  go_wp2_with fail
  refine (CW1.out _ NB.out).mono ?_
  rintro e wa ⟨rfl, hb⟩
  have NC := hide (Nx.trans NB.out hb)
  have NE := hide (Nx.trans NC.out (Nx.alloc wa (.cells #[.int .i64 0, .int .i64 0, .bool false] 24)))
  have ge_R := hide (heap_alloc_new wa (.cells #[.int .i64 0, .int .i64 0, .bool false] 24))
  have ga_N := hide (row_nx (row_nx ga_R.out hb) (Nx.alloc wa (.cells #[.int .i64 0, .int .i64 0, .bool false] 24)))
  clear ga_R
  have ga_R := ga_N
  clear ga_N
  have gc_N := hide (row_nx (row_nx gc_R.out hb) (Nx.alloc wa (.cells #[.int .i64 0, .int .i64 0, .bool false] 24)))
  clear gc_R
  have gc_R := gc_N
  clear gc_N
  clear hb NB NC
  go_upto_region 7 with fail
  generalize hgg : wa.heap.size = ge at *
  generalize wa.alloc (.cells #[.int .i64 0, .int .i64 0, .bool false] 24) = w4 at *
  clear hgg
  have NB := NE
  clear NE CW1
  clear ge_R
  go_wp2_with fail
  refine (CF4.out _ NB.out).mono ?_
  rintro e wa ⟨rfl, hb⟩
  have NC := hide (Nx.trans NB.out hb)
  have NE := hide (Nx.trans NC.out (Nx.alloc wa (.cells #[.int .i64 0, .int .i64 0, .bool false] 24)))
  have gf_R := hide (heap_alloc_new wa (.cells #[.int .i64 0, .int .i64 0, .bool false] 24))
  have ga_N := hide (row_nx (row_nx ga_R.out hb) (Nx.alloc wa (.cells #[.int .i64 0, .int .i64 0, .bool false] 24)))
  clear ga_R
  have ga_R := ga_N
  clear ga_N
  have gc_N := hide (row_nx (row_nx gc_R.out hb) (Nx.alloc wa (.cells #[.int .i64 0, .int .i64 0, .bool false] 24)))
  clear gc_R
  have gc_R := gc_N
  clear gc_N
  clear hb NB NC
  go_upto_region 8 with fail
  generalize hgg : wa.heap.size = gf at *
  generalize wa.alloc (.cells #[.int .i64 0, .int .i64 0, .bool false] 24) = w5 at *
  clear hgg
  have NB := NE
  clear NE CF4
  clear gf_R
  have N5 := hide (Nx.trans N1.out NB.out)
  go_wp2_with fail
  refine (CB1.out _ NB.out).mono ?_
  rintro e w6 ⟨rfl, hb⟩
  have NC := hide (Nx.trans NB.out hb)
  have ga_N := hide (row_nx ga_R.out hb)
  have gc_N := hide (row_nx gc_R.out hb)
  clear hb NB CB1 ga_R gc_R
  have NB := NC
  have ga_R := ga_N
  have gc_R := gc_N
  clear NC ga_N gc_N
  go_wp2_with fail
  refine (CB2.out _ NB.out).mono ?_
  rintro e w7 ⟨rfl, hb⟩
  have NC := hide (Nx.trans NB.out hb)
  have ga_N := hide (row_nx ga_R.out hb)
  have gc_N := hide (row_nx gc_R.out hb)
  clear hb NB CB2 ga_R gc_R
  have NB := NC
  have ga_R := ga_N
  have gc_R := gc_N
  clear NC ga_N gc_N
  go_wp2_with fail
  refine (CB3.out _ NB.out).mono ?_
  rintro e w8 ⟨rfl, hb⟩
  have NC := hide (Nx.trans NB.out hb)
  have ga_N := hide (row_nx ga_R.out hb)
  have gc_N := hide (row_nx gc_R.out hb)
  clear hb NB CB3 ga_R gc_R
  have NB := NC
  have ga_R := ga_N
  have gc_R := gc_N
  clear NC ga_N gc_N
  go_wp2_with fail
  refine (CB4.out _ NB.out).mono ?_
  rintro e w9 ⟨rfl, hb⟩
  have NC := hide (Nx.trans NB.out hb)
  have ga_N := hide (row_nx ga_R.out hb)
  have gc_N := hide (row_nx gc_R.out hb)
  clear hb NB CB4 ga_R gc_R
  have NB := NC
  have ga_R := ga_N
  have gc_R := gc_N
  clear NC ga_N gc_N
  go_wp2_with fail
  refine (CB5.out _ NB.out).mono ?_
  rintro e w10 ⟨rfl, hb⟩
  have NC := hide (Nx.trans NB.out hb)
  have ga_N := hide (row_nx ga_R.out hb)
  have gc_N := hide (row_nx gc_R.out hb)
  clear hb NB CB5 ga_R gc_R
  have NB := NC
  have ga_R := ga_N
  have gc_R := gc_N
  clear NC ga_N gc_N
  obtain ⟨O, hO⟩ : ∃ O : Obj, Obj.cells (flatE l65).toArray 24 (0, 0) = O := ⟨_, rfl⟩
  have mk : ∀ w : World, (Instr.makeSlice 25 (.int .i64 65) (.int .i64 65)).run Try.prog w = .ok (.slice (some ⟨w.heap.size, 0, none⟩) 65 65) (w.alloc O) := fun w => by rw [← hO]; exact mk_65 w
  go_upto_region 14 with fail
  clear mk
  have R0 : Hid (((((((w10.alloc (.cells #[.int .i64 (-1), .int .i64 0, .bool false] 24)).alloc (.cells #[.int .i64 1024, .int .i64 0, .bool false] 24)).alloc (.cells #[.int .i64 3, .int .i64 0, .bool false, .int .i64 3, .int .i64 0, .bool false] 24)).alloc (.cells #[.int .i64 1, .int .i64 0, .bool true, .int .i64 2, .int .i64 0, .bool true] 24)).alloc O).alloc (.cells #[.slice (some ⟨w10.heap.size, 0, none⟩) 1 1, .slice (some ⟨w10.heap.size + 1, 0, none⟩) 1 1, .slice (some ⟨w10.heap.size + 1 + 1, 0, none⟩) 2 2, .slice (some ⟨w10.heap.size + 1 + 1 + 1, 0, none⟩) 2 2, .slice (some ⟨w10.heap.size + 1 + 1 + 1 + 1, 0, none⟩) 65 65] 25)).heap[w10.heap.size]? = some (.cells #[.int .i64 (-1), .int .i64 0, .bool false] 24)) := hide (by repeat (first | exact heap_alloc_at _ _ _ (by simp; done) | exact heap_alloc_at _ _ _ rfl | rw [heap_alloc_old _ _ (by first | (simp; done) | (simp; omega))]))
  have R1 : Hid (((((((w10.alloc (.cells #[.int .i64 (-1), .int .i64 0, .bool false] 24)).alloc (.cells #[.int .i64 1024, .int .i64 0, .bool false] 24)).alloc (.cells #[.int .i64 3, .int .i64 0, .bool false, .int .i64 3, .int .i64 0, .bool false] 24)).alloc (.cells #[.int .i64 1, .int .i64 0, .bool true, .int .i64 2, .int .i64 0, .bool true] 24)).alloc O).alloc (.cells #[.slice (some ⟨w10.heap.size, 0, none⟩) 1 1, .slice (some ⟨w10.heap.size + 1, 0, none⟩) 1 1, .slice (some ⟨w10.heap.size + 1 + 1, 0, none⟩) 2 2, .slice (some ⟨w10.heap.size + 1 + 1 + 1, 0, none⟩) 2 2, .slice (some ⟨w10.heap.size + 1 + 1 + 1 + 1, 0, none⟩) 65 65] 25)).heap[w10.heap.size + 1]? = some (.cells #[.int .i64 1024, .int .i64 0, .bool false] 24)) := hide (by repeat (first | exact heap_alloc_at _ _ _ (by simp; done) | exact heap_alloc_at _ _ _ rfl | rw [heap_alloc_old _ _ (by first | (simp; done) | (simp; omega))]))
  have R2 : Hid (((((((w10.alloc (.cells #[.int .i64 (-1), .int .i64 0, .bool false] 24)).alloc (.cells #[.int .i64 1024, .int .i64 0, .bool false] 24)).alloc (.cells #[.int .i64 3, .int .i64 0, .bool false, .int .i64 3, .int .i64 0, .bool false] 24)).alloc (.cells #[.int .i64 1, .int .i64 0, .bool true, .int .i64 2, .int .i64 0, .bool true] 24)).alloc O).alloc (.cells #[.slice (some ⟨w10.heap.size, 0, none⟩) 1 1, .slice (some ⟨w10.heap.size + 1, 0, none⟩) 1 1, .slice (some ⟨w10.heap.size + 1 + 1, 0, none⟩) 2 2, .slice (some ⟨w10.heap.size + 1 + 1 + 1, 0, none⟩) 2 2, .slice (some ⟨w10.heap.size + 1 + 1 + 1 + 1, 0, none⟩) 65 65] 25)).heap[w10.heap.size + 1 + 1]? = some (.cells #[.int .i64 3, .int .i64 0, .bool false, .int .i64 3, .int .i64 0, .bool false] 24)) := hide (by repeat (first | exact heap_alloc_at _ _ _ (by simp; done) | exact heap_alloc_at _ _ _ rfl | rw [heap_alloc_old _ _ (by first | (simp; done) | (simp; omega))]))
  have R3 : Hid (((((((w10.alloc (.cells #[.int .i64 (-1), .int .i64 0, .bool false] 24)).alloc (.cells #[.int .i64 1024, .int .i64 0, .bool false] 24)).alloc (.cells #[.int .i64 3, .int .i64 0, .bool false, .int .i64 3, .int .i64 0, .bool false] 24)).alloc (.cells #[.int .i64 1, .int .i64 0, .bool true, .int .i64 2, .int .i64 0, .bool true] 24)).alloc O).alloc (.cells #[.slice (some ⟨w10.heap.size, 0, none⟩) 1 1, .slice (some ⟨w10.heap.size + 1, 0, none⟩) 1 1, .slice (some ⟨w10.heap.size + 1 + 1, 0, none⟩) 2 2, .slice (some ⟨w10.heap.size + 1 + 1 + 1, 0, none⟩) 2 2, .slice (some ⟨w10.heap.size + 1 + 1 + 1 + 1, 0, none⟩) 65 65] 25)).heap[w10.heap.size + 1 + 1 + 1]? = some (.cells #[.int .i64 1, .int .i64 0, .bool true, .int .i64 2, .int .i64 0, .bool true] 24)) := hide (by repeat (first | exact heap_alloc_at _ _ _ (by simp; done) | exact heap_alloc_at _ _ _ rfl | rw [heap_alloc_old _ _ (by first | (simp; done) | (simp; omega))]))
  have R4 : Hid (((((((w10.alloc (.cells #[.int .i64 (-1), .int .i64 0, .bool false] 24)).alloc (.cells #[.int .i64 1024, .int .i64 0, .bool false] 24)).alloc (.cells #[.int .i64 3, .int .i64 0, .bool false, .int .i64 3, .int .i64 0, .bool false] 24)).alloc (.cells #[.int .i64 1, .int .i64 0, .bool true, .int .i64 2, .int .i64 0, .bool true] 24)).alloc O).alloc (.cells #[.slice (some ⟨w10.heap.size, 0, none⟩) 1 1, .slice (some ⟨w10.heap.size + 1, 0, none⟩) 1 1, .slice (some ⟨w10.heap.size + 1 + 1, 0, none⟩) 2 2, .slice (some ⟨w10.heap.size + 1 + 1 + 1, 0, none⟩) 2 2, .slice (some ⟨w10.heap.size + 1 + 1 + 1 + 1, 0, none⟩) 65 65] 25)).heap[w10.heap.size + 1 + 1 + 1 + 1]? = some (.cells (flatE l65).toArray 24 (0, 0))) := by rw [hO]; exact hide (by repeat (first | exact heap_alloc_at _ _ _ (by simp; done) | exact heap_alloc_at _ _ _ rfl | rw [heap_alloc_old _ _ (by first | (simp; done) | (simp; omega))]))
  have R5 : Hid (((((((w10.alloc (.cells #[.int .i64 (-1), .int .i64 0, .bool false] 24)).alloc (.cells #[.int .i64 1024, .int .i64 0, .bool false] 24)).alloc (.cells #[.int .i64 3, .int .i64 0, .bool false, .int .i64 3, .int .i64 0, .bool false] 24)).alloc (.cells #[.int .i64 1, .int .i64 0, .bool true, .int .i64 2, .int .i64 0, .bool true] 24)).alloc O).alloc (.cells #[.slice (some ⟨w10.heap.size, 0, none⟩) 1 1, .slice (some ⟨w10.heap.size + 1, 0, none⟩) 1 1, .slice (some ⟨w10.heap.size + 1 + 1, 0, none⟩) 2 2, .slice (some ⟨w10.heap.size + 1 + 1 + 1, 0, none⟩) 2 2, .slice (some ⟨w10.heap.size + 1 + 1 + 1 + 1, 0, none⟩) 65 65] 25)).heap[w10.heap.size + 1 + 1 + 1 + 1 + 1]? = some (.cells #[.slice (some ⟨w10.heap.size, 0, none⟩) 1 1, .slice (some ⟨w10.heap.size + 1, 0, none⟩) 1 1, .slice (some ⟨w10.heap.size + 1 + 1, 0, none⟩) 2 2, .slice (some ⟨w10.heap.size + 1 + 1 + 1, 0, none⟩) 2 2, .slice (some ⟨w10.heap.size + 1 + 1 + 1 + 1, 0, none⟩) 65 65] 25)) := hide (by repeat (first | exact heap_alloc_at _ _ _ (by simp; done) | exact heap_alloc_at _ _ _ rfl | rw [heap_alloc_old _ _ (by first | (simp; done) | (simp; omega))]))
  have NW : Hid (Nx w10 ((((((w10.alloc (.cells #[.int .i64 (-1), .int .i64 0, .bool false] 24)).alloc (.cells #[.int .i64 1024, .int .i64 0, .bool false] 24)).alloc (.cells #[.int .i64 3, .int .i64 0, .bool false, .int .i64 3, .int .i64 0, .bool false] 24)).alloc (.cells #[.int .i64 1, .int .i64 0, .bool true, .int .i64 2, .int .i64 0, .bool true] 24)).alloc O).alloc (.cells #[.slice (some ⟨w10.heap.size, 0, none⟩) 1 1, .slice (some ⟨w10.heap.size + 1, 0, none⟩) 1 1, .slice (some ⟨w10.heap.size + 1 + 1, 0, none⟩) 2 2, .slice (some ⟨w10.heap.size + 1 + 1 + 1, 0, none⟩) 2 2, .slice (some ⟨w10.heap.size + 1 + 1 + 1 + 1, 0, none⟩) 65 65] 25))) := hide (bel_alloc2 (bel_alloc2 (bel_alloc2 (bel_alloc2 (bel_alloc2 (bel_alloc2 (Nx.refl w10) _) _) _) _) _) _)
  generalize ((((((w10.alloc (.cells #[.int .i64 (-1), .int .i64 0, .bool false] 24)).alloc (.cells #[.int .i64 1024, .int .i64 0, .bool false] 24)).alloc (.cells #[.int .i64 3, .int .i64 0, .bool false, .int .i64 3, .int .i64 0, .bool false] 24)).alloc (.cells #[.int .i64 1, .int .i64 0, .bool true, .int .i64 2, .int .i64 0, .bool true] 24)).alloc O).alloc (.cells #[.slice (some ⟨w10.heap.size, 0, none⟩) 1 1, .slice (some ⟨w10.heap.size + 1, 0, none⟩) 1 1, .slice (some ⟨w10.heap.size + 1 + 1, 0, none⟩) 2 2, .slice (some ⟨w10.heap.size + 1 + 1 + 1, 0, none⟩) 2 2, .slice (some ⟨w10.heap.size + 1 + 1 + 1 + 1, 0, none⟩) 65 65] 25)) = wf at *
  have ga_N := hide (row_nx ga_R.out NW.out)
  have gc_N := hide (row_nx gc_R.out NW.out)
  have NF := hide (Nx.trans NB.out NW.out)
  clear ga_R gc_R NW NB hO
  generalize w10.heap.size = z at *
  obtain ⟨z6, hz6⟩ : ∃ n, z + 1 + 1 + 1 + 1 + 1 = n := ⟨_, rfl⟩
  rw [hz6] at R5
  rw [hz6]
  have HX : Hid (∀ q, q < 5 → ∃ v, (∀ w, Nx wf w → w.cell? ⟨z6, q, none⟩ = some v) ∧
      (∀ w, Nx wf w → Calls Try.prog 11 #[.int .i64 1, v] w fun e w' => e = .returned (.tuple #[.agg #[.int .i64 0, .int .i64 0, .bool false], .bool false]) ∧ Nx w w') ∧
      (∀ w, Nx wf w → Calls Try.prog 13 #[.int .i64 1, v] w fun e w' => e = .returned (.bool false) ∧ Nx w w') ∧
      (∀ w, Nx wf w → Calls Try.prog 14 #[.int .i64 1, v] w fun e w' => ∃ v', e = .returned v' ∧ Hid (Is w' v' []) ∧ Nx w w')) := hide (fun q hq => by
    have go : ∀ (L : List Et) (b : Nat), goodE 1 L = false → L.length ≤ 100 → wf.heap[b]? = some (.cells (flatE L).toArray 24 (0, 0)) → (∀ w, Nx wf w → w.cell? ⟨z6, q, none⟩ = some (.slice (some ⟨b, 0, none⟩) L.length L.length)) → _ := fun L b hg hl hr hc =>
      (⟨.slice (some ⟨b, 0, none⟩) L.length L.length, hc, fun w h => BF.out L hg hl w _ (Sl.lit (row_nx hr h) hl), fun w h => BG.out L hg hl w _ (Sl.lit (row_nx hr h) hl), fun w h => BP.out L hg hl w _ (Sl.lit (row_nx hr h) hl)⟩ :
        ∃ v, (∀ w, Nx wf w → w.cell? ⟨z6, q, none⟩ = some v) ∧
      (∀ w, Nx wf w → Calls Try.prog 11 #[.int .i64 1, v] w fun e w' => e = .returned (.tuple #[.agg #[.int .i64 0, .int .i64 0, .bool false], .bool false]) ∧ Nx w w') ∧
      (∀ w, Nx wf w → Calls Try.prog 13 #[.int .i64 1, v] w fun e w' => e = .returned (.bool false) ∧ Nx w w') ∧
      (∀ w, Nx wf w → Calls Try.prog 14 #[.int .i64 1, v] w fun e w' => ∃ v', e = .returned v' ∧ Hid (Is w' v' []) ∧ Nx w w'))
    have hc : ∀ w, Nx wf w → ∀ q : Nat, w.cell? ⟨z6, q, none⟩ = #[.slice (some ⟨z, 0, none⟩) 1 1, .slice (some ⟨z + 1, 0, none⟩) 1 1, .slice (some ⟨z + 1 + 1, 0, none⟩) 2 2, .slice (some ⟨z + 1 + 1 + 1, 0, none⟩) 2 2, .slice (some ⟨z + 1 + 1 + 1 + 1, 0, none⟩) 65 65][q]? := fun w h q => cell_of_row w z6 q _ _ _ (row_nx R5.out h)
    obtain ⟨k1, k2, k3, k4, k5⟩ := kn_bads
    rcases q with _ | _ | _ | _ | _ | q
    · exact go _ _ k1 (by decide) R0.out (fun w h => (hc w h 0).trans rfl)
    · exact go _ _ k2 (by decide) R1.out (fun w h => (hc w h 1).trans rfl)
    · exact go _ _ k3 (by decide) R2.out (fun w h => (hc w h 2).trans rfl)
    · exact go _ _ k4 (by decide) R3.out (fun w h => (hc w h 3).trans rfl)
    · exact go l65 _ k5 (by decide) R4.out (fun w h => (hc w h 4).trans rfl)
    · omega)
  have KS : Hid (∀ w, Nx wf w → w.cell? ⟨ga, 0, none⟩ = some (.int .i64 4) ∧ w.cell? ⟨gc, 0, none⟩ = some (.int .i64 7)) := hide (fun w h => ⟨(row3 (row_nx ga_N.out h)).1, (row3 (row_nx gc_N.out h)).1⟩)
  have FIN : Hid (∀ w, Nx wf w → Nx W w) := hide (fun w h => Nx.trans N1.out (Nx.trans NF.out h))
  have HEQ : Hid (∀ w v b, Is w v [2, 4, 9] → w.heap[b]? = some (.cells #[.int .i64 2, .int .i64 4, .int .i64 9] 3 (0, 0)) → Calls Try.prog 15 #[v, .slice (some ⟨b, 0, none⟩) 3 3] w fun e w' => e = .returned (.bool true) ∧ Nx w w') := hide (fun w v b h hb => by
    have := ints_any h (Is.lit (l := [2, 4, 9]) hb (by decide))
    rwa [decide_eq_true rfl] at this)
  have CP : Hid (∀ w, Nx wf w → Calls Try.prog 14 #[.int .i64 3, .slice (some ⟨g, 0, none⟩) 4 4] w fun e w' => ∃ v', e = .returned v' ∧ Hid (Is w' v' [2, 4, 9]) ∧ Nx w w') := hide (fun w h => CP3.out w (Nx.trans NF.out h))
  clear R0 R1 R2 R3 R4 R5 ga_N gc_N BF BG BP CP3 SL4 N1 N5 NF hz6
  go_wp2
  go_loopw [21] (fun i wr => ∃ q : Nat, q ≤ 5 ∧ i = .int .i64 (q : Int) ∧ Hid (Nx wf wr)) (fun i _ => 5 - (intOf i).toNat)
  case atStart => exact ⟨0, by omega, rfl, hide (Nx.refl _)⟩
  case round =>
    obtain ⟨q, hq', rfl, HN⟩ := hrel
    by_cases hq : q < 5
    · have hq1 : (q : Int) < 5 := by omega
      have hq0 : decide ((q : Int) < 0) = false := decide_eq_false (by omega)
      obtain ⟨v, hc, hf, hg, hp⟩ := HX.out q hq
      have HC := hide hc
      have HF := hide hf
      have HG := hide hg
      have HP := hide hp
      have c0 := HC.out _ HN.out
      clear hc hf hg hp
      go_wp2_with fail
      refine (HF.out _ HN.out).mono ?_
      rintro e wa ⟨rfl, hb⟩
      have NA := hide (Nx.trans (Nx.trans HN.out hb) (Nx.alloc wa (.cells #[.int .i64 0, .int .i64 0, .bool false] 24)))
      clear hb c0 HF HN
      go_upto_region 18 with fail
      generalize wa.heap.size = gx at *
      generalize wa.alloc (.cells #[.int .i64 0, .int .i64 0, .bool false] 24) = wb at *
      have c0 := HC.out _ NA.out
      go_wp2_with fail
      refine (HG.out _ NA.out).mono ?_
      rintro e wd ⟨rfl, hb⟩
      have ND := hide (Nx.trans NA.out hb)
      clear hb c0 NA HG
      have c0 := HC.out _ ND.out
      go_wp2_with fail
      refine (HP.out _ ND.out).mono ?_
      rintro e we ⟨vp, rfl, hI, hb⟩
      obtain ⟨pp, cp, rfl, _, _⟩ := hI.out.form
      have NE := hide (Nx.trans ND.out hb)
      clear hb c0 ND HP hI
      go_wp2
      go_roundw
      case rel => exact ⟨q + 1, by omega, by go_num, NE⟩
      case measure => simp [intOf]; omega
    · obtain rfl : q = 5 := by omega
      clear HX hq hq'
      go_wp2_with fail
      refine (CP.out _ HN.out).mono ?_
      rintro e w4 ⟨v4, rfl, hI, hb⟩
      have N4 := hide (Nx.trans HN.out hb)
      have N5 := hide (bel_alloc2 N4.out (.cells #[.int .i64 2, .int .i64 4, .int .i64 9] 3))
      have I5 := hide (hI.out.below (Nx.alloc w4 (.cells #[.int .i64 2, .int .i64 4, .int .i64 9] 3)))
      clear hb hI HN
      go_wp2_with fail
      refine (HEQ.out _ _ _ I5.out (heap_alloc_new w4 _)).mono ?_
      rintro e w6 ⟨rfl, hb⟩
      have N6 := hide (Nx.trans N5.out hb)
      clear hb N5 N4 I5
      obtain ⟨x0, x1⟩ := KS.out _ N6.out
      go_wp2_with fail
      refine (CG0.out _).mono ?_
      rintro e w7 ⟨rfl, hb⟩
      have N7 := hide (Nx.trans N6.out hb)
      clear hb N6 x0 x1
      go_wp2_with fail
      refine (CG65.out _).mono ?_
      rintro e w8 ⟨rfl, hb⟩
      have N8 := hide (Nx.trans N7.out hb)
      clear hb N7
      go_wp2_with fail
      refine (CG64.out _).mono ?_
      rintro e w9 ⟨rfl, hb⟩
      have N9 := hide (Nx.trans N8.out hb)
      clear hb N8
      go_wp2_with fail
      refine (CP1.out _).mono ?_
      rintro e wz ⟨vz, rfl, hI, hb⟩
      obtain ⟨pz, cz, rfl, _, _⟩ := hI.out.form
      have NZ := hide (FIN.out _ (Nx.trans N9.out hb))
      clear hb N9 hI
      go_wp2
      go_ret
      exact ⟨rfl, NZ.out⟩
end Go.Proofs.Ytacbiiiadalocaa.Ed
