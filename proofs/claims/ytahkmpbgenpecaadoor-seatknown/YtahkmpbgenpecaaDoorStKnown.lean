/- SeatKnown: the examples. -/
import Derived.Test.YtahkmpbgenpecaaDoorStAw
import Derived.Test.YtahkmpbgenpecaaDoorMsCon
namespace Go.Proofs.YtahkmpbgenpecaaDoor.St
open Go.RowKit Go.Proofs.YtahkmpbgenpecaaDoor.Con Go.Proofs.YtahkmpbgenpecaaDoor.Mk
set_option linter.unusedVariables false
set_option linter.unusedSimpArgs false
attribute [local go_sem ↓] Go.wp_at_zero Go.wp_at_succ
theorem info_parts {e : TypeId} {z : Value} {s b : Nat} (h : (Tryd.prog.info? e).map (fun i => (i.zero, i.size, i.bytes)) = some (some z, s, b)) : ∃ i, Tryd.prog.info? e = some i ∧ i.zero = some z ∧ i.size = s ∧ i.bytes = b := by
  cases hh : Tryd.prog.info? e with
  | none => rw [hh] at h; cases h
  | some i =>
    rw [hh] at h
    simp only [Option.map_some, Option.some.injEq, Prod.mk.injEq] at h
    exact ⟨i, rfl, h.1, h.2.1, h.2.2⟩
theorem infoI : (Tryd.prog.info? 3).map (fun i => (i.zero, i.size, i.bytes)) = some (some (.int .i64 0), 1, 8) := by kernel_rfl
def l65 : List Int := List.replicate 65 0
theorem made65 : (ivs l65).toArray = madeCells #[.int .i64 0] (65 * 1) := by kernel_rfl
theorem mk_65 (w : World) : (Instr.makeSlice 23 (.int .i64 65) (.int .i64 65)).run Tryd.prog w = .ok (.slice (some ⟨w.heap.size, 0, none⟩) 65 65) (w.alloc (.cells (ivs l65).toArray 3)) := by
  obtain ⟨i, hi, hz0, hz1, hz2⟩ := info_parts infoI
  have := run_make (P := Tryd.prog) w 23 3 i _ Tryd.underlying23 hi hz0 .i64 .i64 65 65 (by omega) (by omega) (by rw [hz2]; omega) (by omega)
  rw [hz1] at this
  rw [made65]
  exact this
theorem kn_a : giveL [7, 2, -1, 9] [1, 9, 4] = [1, 4, -1, 9] ∧ giveN [7, 2, -1, 9] [1, 9, 4] = 2 := by decide +kernel
theorem kn_c : giveL [1] [1, 2] = [] ∧ giveN [1] [1, 2] = 0 := by decide +kernel
theorem kn_e : swapL [7, 2, -1] 2 7 = [-1, 2, 7] ∧ swapI [7, 2, -1] 2 7 = -1 := by decide +kernel
theorem kn_g : swapL [7, 2] 0 7 = [7, 2] ∧ swapI [7, 2] 0 7 = 7 := by decide +kernel
theorem kn_i : swapL [7, 2] 1 (-1) = [7, -1] ∧ swapI [7, 2] 1 (-1) = 2 := by decide +kernel
theorem kn_k : swapL [7, 2] 2 1 = [] ∧ swapI [7, 2] 2 1 = -1 := by decide +kernel
theorem kn_m : swapL [7, 7] 0 1 = [] ∧ swapI [7, 7] 0 1 = -1 := by decide +kernel
theorem kn_f : ((freeN [-1, 3, -1] : Nat) : Int) = 5 ∧ ((ofN [0, 2] : Nat) : Int) = 5 := by decide +kernel
theorem kn_t : atI [5, 3] 3 = 1 ∧ atI [5, 3] 4 = -1 := by decide +kernel
theorem kn_x : goodS [] [] = false ∧ goodS [1, 1] [] = false ∧ goodS [-2] [] = false ∧ goodS [-1] [-1] = false ∧ goodS l65 [] = false := by decide +kernel
set_option maxHeartbeats 16000000 in
set_option maxRecDepth 100000 in
theorem known_walk (hA : Hid AwakeC) (hG : Hid GoodC) (hV : Hid GiveC) (hF : Hid FreeC) (hT : Hid AtC) (hS : Hid SwapC) (W : World) (HT : Hid (Tab W)) :
    Calls Tryd.prog 3 #[] W fun e w' => e = .returned (.bool true) ∧ Nx W w' := by
  have Ca : Hid (∀ w : World, Tab w → Calls Tryd.prog 8 #[.slice (some ⟨w.heap.size, 0, none⟩) 4 4, .slice (some ⟨w.heap.size + 1, 0, none⟩) 3 3] ((w.alloc (.cells #[.int .i64 7, .int .i64 2, .int .i64 (-1), .int .i64 9] 3)).alloc (.cells #[.int .i64 1, .int .i64 9, .int .i64 4] 3)) fun e w' => ∃ v', e = .returned (.tuple #[v', .int .i64 2]) ∧ Hid (Is w' v' [1, 4, -1, 9]) ∧ Nx w w') := hide (fun w hw => by
    have h := hV.out [7, 2, -1, 9] [1, 9, 4] _ _ ((w.alloc (.cells #[.int .i64 7, .int .i64 2, .int .i64 (-1), .int .i64 9] 3)).alloc (.cells #[.int .i64 1, .int .i64 9, .int .i64 4] 3)) ((Is.new w [7, 2, -1, 9] 3 (by decide)).below (Nx.alloc _ _)) (Is.new2 w (.cells #[.int .i64 7, .int .i64 2, .int .i64 (-1), .int .i64 9] 3) [1, 9, 4] 3 (by decide)) (by decide) (by decide) (hw.on (Nx.trans (Nx.alloc _ _) (Nx.alloc _ _)))
    rw [kn_a.1, kn_a.2] at h
    refine h.mono ?_
    rintro e w' ⟨v, rfl, hI, hb⟩
    exact ⟨v, rfl, hI, Nx.trans (Nx.trans (Nx.alloc _ _) (Nx.alloc _ _)) hb⟩)
  have Cc : Hid (∀ w : World, Tab w → Calls Tryd.prog 8 #[.slice (some ⟨w.heap.size, 0, none⟩) 1 1, .slice (some ⟨w.heap.size + 1, 0, none⟩) 2 2] ((w.alloc (.cells #[.int .i64 1] 3)).alloc (.cells #[.int .i64 1, .int .i64 2] 3)) fun e w' => ∃ v', e = .returned (.tuple #[v', .int .i64 0]) ∧ Hid (Is w' v' []) ∧ Nx w w') := hide (fun w hw => by
    have h := hV.out [1] [1, 2] _ _ ((w.alloc (.cells #[.int .i64 1] 3)).alloc (.cells #[.int .i64 1, .int .i64 2] 3)) ((Is.new w [1] 3 (by decide)).below (Nx.alloc _ _)) (Is.new2 w (.cells #[.int .i64 1] 3) [1, 2] 3 (by decide)) (by decide) (by decide) (hw.on (Nx.trans (Nx.alloc _ _) (Nx.alloc _ _)))
    rw [kn_c.1, kn_c.2] at h
    refine h.mono ?_
    rintro e w' ⟨v, rfl, hI, hb⟩
    exact ⟨v, rfl, hI, Nx.trans (Nx.trans (Nx.alloc _ _) (Nx.alloc _ _)) hb⟩)
  have Ce : Hid (∀ w : World, Calls Tryd.prog 9 #[.slice (some ⟨w.heap.size, 0, none⟩) 3 3, .int .i64 2, .int .i64 7] (w.alloc (.cells #[.int .i64 7, .int .i64 2, .int .i64 (-1)] 3)) fun e w' => ∃ v', e = .returned (.tuple #[v', .int .i64 (-1)]) ∧ Hid (Is w' v' [-1, 2, 7]) ∧ Nx w w') := hide (fun w => by
    have h := hS.out [7, 2, -1] 2 7 _ (w.alloc (.cells #[.int .i64 7, .int .i64 2, .int .i64 (-1)] 3)) (Is.new w [7, 2, -1] 3 (by decide)) (by decide)
    rw [kn_e.1, kn_e.2] at h
    refine h.mono ?_
    rintro e w' ⟨v, rfl, hI, hb⟩
    exact ⟨v, rfl, hI, Nx.trans (Nx.alloc _ _) hb⟩)
  have Cg : Hid (∀ w : World, Calls Tryd.prog 9 #[.slice (some ⟨w.heap.size, 0, none⟩) 2 2, .int .i64 0, .int .i64 7] (w.alloc (.cells #[.int .i64 7, .int .i64 2] 3)) fun e w' => ∃ v', e = .returned (.tuple #[v', .int .i64 7]) ∧ Hid (Is w' v' [7, 2]) ∧ Nx w w') := hide (fun w => by
    have h := hS.out [7, 2] 0 7 _ (w.alloc (.cells #[.int .i64 7, .int .i64 2] 3)) (Is.new w [7, 2] 3 (by decide)) (by decide)
    rw [kn_g.1, kn_g.2] at h
    refine h.mono ?_
    rintro e w' ⟨v, rfl, hI, hb⟩
    exact ⟨v, rfl, hI, Nx.trans (Nx.alloc _ _) hb⟩)
  have Ci : Hid (∀ w : World, Calls Tryd.prog 9 #[.slice (some ⟨w.heap.size, 0, none⟩) 2 2, .int .i64 1, .int .i64 (-1)] (w.alloc (.cells #[.int .i64 7, .int .i64 2] 3)) fun e w' => ∃ v', e = .returned (.tuple #[v', .int .i64 2]) ∧ Hid (Is w' v' [7, -1]) ∧ Nx w w') := hide (fun w => by
    have h := hS.out [7, 2] 1 (-1) _ (w.alloc (.cells #[.int .i64 7, .int .i64 2] 3)) (Is.new w [7, 2] 3 (by decide)) (by decide)
    rw [kn_i.1, kn_i.2] at h
    refine h.mono ?_
    rintro e w' ⟨v, rfl, hI, hb⟩
    exact ⟨v, rfl, hI, Nx.trans (Nx.alloc _ _) hb⟩)
  have Ck : Hid (∀ w : World, Calls Tryd.prog 9 #[.slice (some ⟨w.heap.size, 0, none⟩) 2 2, .int .i64 2, .int .i64 1] (w.alloc (.cells #[.int .i64 7, .int .i64 2] 3)) fun e w' => ∃ v', e = .returned (.tuple #[v', .int .i64 (-1)]) ∧ Hid (Is w' v' []) ∧ Nx w w') := hide (fun w => by
    have h := hS.out [7, 2] 2 1 _ (w.alloc (.cells #[.int .i64 7, .int .i64 2] 3)) (Is.new w [7, 2] 3 (by decide)) (by decide)
    rw [kn_k.1, kn_k.2] at h
    refine h.mono ?_
    rintro e w' ⟨v, rfl, hI, hb⟩
    exact ⟨v, rfl, hI, Nx.trans (Nx.alloc _ _) hb⟩)
  have Cm : Hid (∀ w : World, Calls Tryd.prog 9 #[.slice (some ⟨w.heap.size, 0, none⟩) 2 2, .int .i64 0, .int .i64 1] (w.alloc (.cells #[.int .i64 7, .int .i64 7] 3)) fun e w' => ∃ v', e = .returned (.tuple #[v', .int .i64 (-1)]) ∧ Hid (Is w' v' []) ∧ Nx w w') := hide (fun w => by
    have h := hS.out [7, 7] 0 1 _ (w.alloc (.cells #[.int .i64 7, .int .i64 7] 3)) (Is.new w [7, 7] 3 (by decide)) (by decide)
    rw [kn_m.1, kn_m.2] at h
    refine h.mono ?_
    rintro e w' ⟨v, rfl, hI, hb⟩
    exact ⟨v, rfl, hI, Nx.trans (Nx.alloc _ _) hb⟩)
  have Cf : Hid (∀ w : World, Calls Tryd.prog 11 #[.slice (some ⟨w.heap.size, 0, none⟩) 3 3] (w.alloc (.cells #[.int .i64 (-1), .int .i64 3, .int .i64 (-1)] 3)) fun e w' => e = .returned (.int .u64 5) ∧ Nx w w') := hide (fun w => by
    have h := hF.out [-1, 3, -1] _ (w.alloc (.cells #[.int .i64 (-1), .int .i64 3, .int .i64 (-1)] 3)) (Is.new w [-1, 3, -1] 3 (by decide)) (by decide)
    rw [kn_f.1] at h
    refine h.mono ?_
    rintro e w' ⟨rfl, hb⟩
    exact ⟨rfl, Nx.trans (Nx.alloc _ _) hb⟩)
  have Co : Hid (∀ w : World, Calls Tryd.prog 12 #[.slice (some ⟨w.heap.size, 0, none⟩) 2 2] (w.alloc (.cells #[.int .i64 0, .int .i64 2] 3)) fun e w' => e = .returned (.int .u64 5) ∧ Nx w w') := hide (fun w => by
    have R := heap_alloc_new w (.cells #[.int .i64 0, .int .i64 2] 3)
    have h := of_some w.heap.size 0 2 [0, 2] (w.alloc (.cells #[.int .i64 0, .int .i64 2] 3)) (fun j hj => by
      rw [Nat.zero_add, cell_of_row _ _ j _ _ _ R]
      rcases j with _ | _ | j
      · rfl
      · rfl
      · simp at hj; omega) (by decide)
    rw [kn_f.2] at h
    refine h.mono ?_
    rintro e w' ⟨rfl, rfl⟩
    exact ⟨rfl, Nx.alloc _ _⟩)
  have Ct : Hid (∀ w : World, Calls Tryd.prog 13 #[.slice (some ⟨w.heap.size, 0, none⟩) 2 2, .int .i64 3] (w.alloc (.cells #[.int .i64 5, .int .i64 3] 3)) fun e w' => e = .returned (.int .i64 1) ∧ Nx w w') := hide (fun w => by
    have h := hT.out [5, 3] 3 _ (w.alloc (.cells #[.int .i64 5, .int .i64 3] 3)) (Is.new w [5, 3] 3 (by decide)) (by decide) (by decide)
    rw [kn_t.1] at h
    refine h.mono ?_
    rintro e w' ⟨rfl, hb⟩
    exact ⟨rfl, Nx.trans (Nx.alloc _ _) hb⟩)
  have Cu : Hid (∀ w : World, Calls Tryd.prog 13 #[.slice (some ⟨w.heap.size, 0, none⟩) 2 2, .int .i64 4] (w.alloc (.cells #[.int .i64 5, .int .i64 3] 3)) fun e w' => e = .returned (.int .i64 (-1)) ∧ Nx w w') := hide (fun w => by
    have h := hT.out [5, 3] 4 _ (w.alloc (.cells #[.int .i64 5, .int .i64 3] 3)) (Is.new w [5, 3] 3 (by decide)) (by decide) (by decide)
    rw [kn_t.2] at h
    refine h.mono ?_
    rintro e w' ⟨rfl, hb⟩
    exact ⟨rfl, Nx.trans (Nx.alloc _ _) hb⟩)
  have X0 : Hid (∀ w : World, Calls Tryd.prog 14 #[.slice none 0 0, .slice none 0 0] w fun e w' => e = .returned (.bool false) ∧ Nx w w') := hide (fun w => by
    have h := hG.out [] [] _ _ w (Is.nil _) (Is.nil _) (by decide)
    rw [kn_x.1] at h
    refine h.mono ?_
    rintro e w' ⟨rfl, hb⟩
    exact ⟨rfl, hb⟩)
  have X1 : Hid (∀ w : World, Calls Tryd.prog 14 #[.slice (some ⟨w.heap.size, 0, none⟩) 2 2, .slice none 0 0] (w.alloc (.cells #[.int .i64 1, .int .i64 1] 3)) fun e w' => e = .returned (.bool false) ∧ Nx w w') := hide (fun w => by
    have h := hG.out [1, 1] [] _ _ (w.alloc (.cells #[.int .i64 1, .int .i64 1] 3)) (Is.new w [1, 1] 3 (by decide)) (Is.nil _) (by decide)
    rw [kn_x.2.1] at h
    refine h.mono ?_
    rintro e w' ⟨rfl, hb⟩
    exact ⟨rfl, Nx.trans (Nx.alloc _ _) hb⟩)
  have X2 : Hid (∀ w : World, Calls Tryd.prog 14 #[.slice (some ⟨w.heap.size, 0, none⟩) 1 1, .slice none 0 0] (w.alloc (.cells #[.int .i64 (-2)] 3)) fun e w' => e = .returned (.bool false) ∧ Nx w w') := hide (fun w => by
    have h := hG.out [-2] [] _ _ (w.alloc (.cells #[.int .i64 (-2)] 3)) (Is.new w [-2] 3 (by decide)) (Is.nil _) (by decide)
    rw [kn_x.2.2.1] at h
    refine h.mono ?_
    rintro e w' ⟨rfl, hb⟩
    exact ⟨rfl, Nx.trans (Nx.alloc _ _) hb⟩)
  have X3 : Hid (∀ w : World, Calls Tryd.prog 14 #[.slice (some ⟨w.heap.size, 0, none⟩) 1 1, .slice (some ⟨w.heap.size + 1, 0, none⟩) 1 1] ((w.alloc (.cells #[.int .i64 (-1)] 3)).alloc (.cells #[.int .i64 (-1)] 3)) fun e w' => e = .returned (.bool false) ∧ Nx w w') := hide (fun w => by
    have h := hG.out [-1] [-1] _ _ ((w.alloc (.cells #[.int .i64 (-1)] 3)).alloc (.cells #[.int .i64 (-1)] 3)) ((Is.new w [-1] 3 (by decide)).below (Nx.alloc _ _)) (Is.new2 w (.cells #[.int .i64 (-1)] 3) [-1] 3 (by decide)) (by decide)
    rw [kn_x.2.2.2.1] at h
    refine h.mono ?_
    rintro e w' ⟨rfl, hb⟩
    exact ⟨rfl, Nx.trans (Nx.trans (Nx.alloc _ _) (Nx.alloc _ _)) hb⟩)
  obtain ⟨O, hO⟩ : ∃ O : Obj, Obj.cells (ivs l65).toArray 3 (0, 0) = O := ⟨_, rfl⟩
  have X4 : Hid (∀ w : World, Calls Tryd.prog 14 #[.slice (some ⟨w.heap.size, 0, none⟩) 65 65, .slice none 0 0] (w.alloc O) fun e w' => e = .returned (.bool false) ∧ Nx w w') := hide (fun w => by
    have h := hG.out l65 [] _ _ (w.alloc O) (by rw [← hO]; exact Is.new w l65 3 (by decide)) (Is.nil _) (by decide)
    rw [kn_x.2.2.2.2] at h
    refine h.mono ?_
    rintro e w' ⟨rfl, hb⟩
    exact ⟨rfl, Nx.trans (Nx.alloc _ _) hb⟩)
  have mk : ∀ w : World, (Instr.makeSlice 23 (.int .i64 65) (.int .i64 65)).run Tryd.prog w = .ok (.slice (some ⟨w.heap.size, 0, none⟩) 65 65) (w.alloc O) := fun w => by rw [← hO]; exact mk_65 w
  clear hO hG hV hF hT hS
  go_enter Tryd.func3, Tryd.ntmps3
  go_wp2_with fail
  refine (hA.out _ HT.out).mono ?_
  rintro ee w1 ⟨rfl, hb⟩
  have N1 := hide (hb)
  have T1 := hide (HT.out.on hb)
  clear hb HT
  go_wp2_with fail
  refine (Ca.out _ T1.out).mono ?_
  rintro ee w2 ⟨a, rfl, hI, hb⟩
  have Ia := hide hI.out
  clear hI
  have N2 := hide (Nx.trans N1.out hb)
  have T2 := hide (T1.out.on hb)
  clear hb N1 T1
  go_wp2_with fail
  refine (Cc.out _ T2.out).mono ?_
  rintro ee w3 ⟨c, rfl, hI, hb⟩
  have Ian := hide (Ia.out.below hb)
  clear Ia
  have Ia := Ian
  clear Ian
  have Ic := hide hI.out
  clear hI
  obtain ⟨pc, cc, rfl, _, _⟩ := Ic.out.form
  clear Ic
  have N3 := hide (Nx.trans N2.out hb)
  have T3 := hide (T2.out.on hb)
  clear hb N2 T2
  go_wp2_with fail
  refine (Ce.out _).mono ?_
  rintro ee w4 ⟨e, rfl, hI, hb⟩
  have Ian := hide (Ia.out.below hb)
  clear Ia
  have Ia := Ian
  clear Ian
  have Ie := hide hI.out
  clear hI
  have N4 := hide (Nx.trans N3.out hb)
  have T4 := hide (T3.out.on hb)
  clear hb N3 T3
  go_wp2_with fail
  refine (Cg.out _).mono ?_
  rintro ee w5 ⟨g, rfl, hI, hb⟩
  have Ian := hide (Ia.out.below hb)
  clear Ia
  have Ia := Ian
  clear Ian
  have Ien := hide (Ie.out.below hb)
  clear Ie
  have Ie := Ien
  clear Ien
  have Ig := hide hI.out
  clear hI
  have N5 := hide (Nx.trans N4.out hb)
  have T5 := hide (T4.out.on hb)
  clear hb N4 T4
  go_wp2_with fail
  refine (Ci.out _).mono ?_
  rintro ee w6 ⟨i, rfl, hI, hb⟩
  have Ian := hide (Ia.out.below hb)
  clear Ia
  have Ia := Ian
  clear Ian
  have Ien := hide (Ie.out.below hb)
  clear Ie
  have Ie := Ien
  clear Ien
  have Ign := hide (Ig.out.below hb)
  clear Ig
  have Ig := Ign
  clear Ign
  have Ii := hide hI.out
  clear hI
  have N6 := hide (Nx.trans N5.out hb)
  have T6 := hide (T5.out.on hb)
  clear hb N5 T5
  go_wp2_with fail
  refine (Ck.out _).mono ?_
  rintro ee w7 ⟨k, rfl, hI, hb⟩
  have Ian := hide (Ia.out.below hb)
  clear Ia
  have Ia := Ian
  clear Ian
  have Ien := hide (Ie.out.below hb)
  clear Ie
  have Ie := Ien
  clear Ien
  have Ign := hide (Ig.out.below hb)
  clear Ig
  have Ig := Ign
  clear Ign
  have Iin := hide (Ii.out.below hb)
  clear Ii
  have Ii := Iin
  clear Iin
  have Ik := hide hI.out
  clear hI
  obtain ⟨pk, ck, rfl, _, _⟩ := Ik.out.form
  clear Ik
  have N7 := hide (Nx.trans N6.out hb)
  have T7 := hide (T6.out.on hb)
  clear hb N6 T6
  go_wp2_with fail
  refine (Cm.out _).mono ?_
  rintro ee w8 ⟨m, rfl, hI, hb⟩
  have Ian := hide (Ia.out.below hb)
  clear Ia
  have Ia := Ian
  clear Ian
  have Ien := hide (Ie.out.below hb)
  clear Ie
  have Ie := Ien
  clear Ien
  have Ign := hide (Ig.out.below hb)
  clear Ig
  have Ig := Ign
  clear Ign
  have Iin := hide (Ii.out.below hb)
  clear Ii
  have Ii := Iin
  clear Iin
  have Im := hide hI.out
  clear hI
  obtain ⟨pm, cm, rfl, _, _⟩ := Im.out.form
  clear Im
  have N8 := hide (Nx.trans N7.out hb)
  have T8 := hide (T7.out.on hb)
  clear hb N7 T7
  go_wp2_with fail
  refine (ints_lit Ia.out [1, 4, -1, 9] (by decide)).mono ?_
  rintro ee w9 ⟨rfl, hb⟩
  have Ian := hide (Ia.out.below hb)
  clear Ia
  have Ia := Ian
  clear Ian
  have Ien := hide (Ie.out.below hb)
  clear Ie
  have Ie := Ien
  clear Ien
  have Ign := hide (Ig.out.below hb)
  clear Ig
  have Ig := Ign
  clear Ign
  have Iin := hide (Ii.out.below hb)
  clear Ii
  have Ii := Iin
  clear Iin
  have N9 := hide (Nx.trans N8.out hb)
  have T9 := hide (T8.out.on hb)
  clear hb N8 T8
  clear Ia
  go_wp2_with fail
  refine (ints_lit Ie.out [-1, 2, 7] (by decide)).mono ?_
  rintro ee w10 ⟨rfl, hb⟩
  have Ien := hide (Ie.out.below hb)
  clear Ie
  have Ie := Ien
  clear Ien
  have Ign := hide (Ig.out.below hb)
  clear Ig
  have Ig := Ign
  clear Ign
  have Iin := hide (Ii.out.below hb)
  clear Ii
  have Ii := Iin
  clear Iin
  have N10 := hide (Nx.trans N9.out hb)
  have T10 := hide (T9.out.on hb)
  clear hb N9 T9
  clear Ie
  go_wp2_with fail
  refine (ints_lit Ig.out [7, 2] (by decide)).mono ?_
  rintro ee w11 ⟨rfl, hb⟩
  have Ign := hide (Ig.out.below hb)
  clear Ig
  have Ig := Ign
  clear Ign
  have Iin := hide (Ii.out.below hb)
  clear Ii
  have Ii := Iin
  clear Iin
  have N11 := hide (Nx.trans N10.out hb)
  have T11 := hide (T10.out.on hb)
  clear hb N10 T10
  clear Ig
  go_wp2_with fail
  refine (ints_lit Ii.out [7, -1] (by decide)).mono ?_
  rintro ee w12 ⟨rfl, hb⟩
  have Iin := hide (Ii.out.below hb)
  clear Ii
  have Ii := Iin
  clear Iin
  have N12 := hide (Nx.trans N11.out hb)
  have T12 := hide (T11.out.on hb)
  clear hb N11 T11
  clear Ii
  go_wp2_with fail
  refine (Cf.out _).mono ?_
  rintro ee w13 ⟨rfl, hb⟩
  have N13 := hide (Nx.trans N12.out hb)
  have T13 := hide (T12.out.on hb)
  clear hb N12 T12
  go_wp2_with fail
  refine (Co.out _).mono ?_
  rintro ee w14 ⟨rfl, hb⟩
  have N14 := hide (Nx.trans N13.out hb)
  have T14 := hide (T13.out.on hb)
  clear hb N13 T13
  go_wp2_with fail
  refine (Ct.out _).mono ?_
  rintro ee w15 ⟨rfl, hb⟩
  have N15 := hide (Nx.trans N14.out hb)
  have T15 := hide (T14.out.on hb)
  clear hb N14 T14
  go_wp2_with fail
  refine (Cu.out _).mono ?_
  rintro ee w16 ⟨rfl, hb⟩
  have N16 := hide (Nx.trans N15.out hb)
  have T16 := hide (T15.out.on hb)
  clear hb N15 T15
  go_wp2_with fail
  refine (X0.out _).mono ?_
  rintro ee w17 ⟨rfl, hb⟩
  have N17 := hide (Nx.trans N16.out hb)
  have T17 := hide (T16.out.on hb)
  clear hb N16 T16
  go_wp2_with fail
  refine (X1.out _).mono ?_
  rintro ee w18 ⟨rfl, hb⟩
  have N18 := hide (Nx.trans N17.out hb)
  have T18 := hide (T17.out.on hb)
  clear hb N17 T17
  go_wp2_with fail
  refine (X2.out _).mono ?_
  rintro ee w19 ⟨rfl, hb⟩
  have N19 := hide (Nx.trans N18.out hb)
  have T19 := hide (T18.out.on hb)
  clear hb N18 T18
  go_wp2_with fail
  refine (X3.out _).mono ?_
  rintro ee w20 ⟨rfl, hb⟩
  have N20 := hide (Nx.trans N19.out hb)
  have T20 := hide (T19.out.on hb)
  clear hb N19 T19
  go_wp2_with fail
  refine (X4.out _).mono ?_
  rintro ee w21 ⟨rfl, hb⟩
  have N21 := hide (Nx.trans N20.out hb)
  have T21 := hide (T20.out.on hb)
  clear hb N20 T20
  go_wp2
  go_ret
  exact ⟨rfl, N21.out⟩
end Go.Proofs.YtahkmpbgenpecaaDoor.St
