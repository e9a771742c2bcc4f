/- EdfSays: as the document says. -/
import Derived.Test.YtacbiiiadalocaaEdAw
import Derived.Test.YtacbiiiadalocaaEdRw
import Derived.Test.YtacbiiiadalocaaEdRb
import Derived.Laws.StructEq
namespace Go.Proofs.Ytacbiiiadalocaa.Ed
open Go.RowKit Go.Proofs.Ytacbiiiadalocaa.Con
set_option linter.unusedVariables false
set_option linter.unusedSimpArgs false
attribute [local go_sem ↓] Go.wp_at_zero Go.wp_at_succ
theorem eqEr (a0 a1 b0 b1 : Int) (a2 b2 : Bool) (w : World) : (Op.equalIn 10000 37 (.agg #[.int .i64 a0, .int .i64 a1, .bool a2]) (.agg #[.int .i64 b0, .int .i64 b1, .bool b2])).run Try.prog w = .ok (a0 == b0 && (a1 == b1 && a2 == b2)) w := by
  have u3 := Try.underlying3
  have u2 := Try.underlying2
  have u4 := Try.underlying4
  have a3 := Try.isAgg3
  have a2' := Try.isAgg2
  have a4 := Try.isAgg4
  have hS : Try.prog.underlying 37 = some (.struct (Try.prog.fieldsOf 37)) := by kernel_rfl
  have hp : Try.prog.stoodInHeld 37 = false := by kernel_rfl
  rw [show (10000 : Nat) = 9999 + 1 from rfl, run_equalIn_agg w 9999 37 _ _ hS hp]
  simp only [Program.fieldsOf, Try.underlying37]
  go_simp
  by_cases h1 : a0 = b0 <;> by_cases h2 : a1 = b1 <;> cases a2 <;> cases b2 <;> simp [h1, h2]
set_option maxHeartbeats 16000000 in
set_option maxRecDepth 100000 in
theorem says_walk (hA : Hid AwakeC) (hG : Hid GoodC) (hL : Hid LessC) (hP : Hid PickC) (hW : Hid WorstC) (hF : Hid FirstC) (hB : Hid BeatsC) (m : Int) (L : List Et) (x : Et) (v : Value) (W : World) (h : Sl W v L) :
    Calls Try.prog 4 #[.int .i64 m, v, ev x] W fun e w' => e = .returned (.bool true) ∧ Nx W w' := by
  obtain ⟨xi, xd, xf⟩ := x
  obtain ⟨p, cap, rfl, hn, hm⟩ := h.form
  have hmx : (L.length : Int) ≤ 9223372036854775807 := by unfold maxLen at hm; omega
  have H := hide h
  clear h
  have RX := hide (heap_alloc_new W (.cells #[.int .i64 xi, .int .i64 xd, .bool xf] 24))
  have N0 := hide (Nx.alloc W (.cells #[.int .i64 xi, .int .i64 xd, .bool xf] 24))
  go_enter Try.func4, Try.ntmps4
  go_upto_region 1 with fail
  generalize hgx : W.heap.size = gRX at *
  have HW0 : Hid (∀ w, Nx W w → Sl w (.slice p L.length cap) L) := hide (fun w h => H.out.below h)
  obtain ⟨w0, hw0⟩ : ∃ w0, W.alloc (.cells #[.int .i64 xi, .int .i64 xd, .bool xf] 24) = w0 := ⟨_, rfl⟩
  rw [hw0] at RX N0
  rw [hw0]
  clear hw0 hgx H
  go_wp2_with fail
  refine (hA.out _).mono ?_
  rintro e w1 ⟨rfl, hb⟩
  have RX_1 := hide (row_nx RX.out hb)
  have N1 := hide (Nx.trans N0.out hb)
  clear hb RX N0
  have RX := RX_1
  clear RX_1
  by_cases hl : 70 < (L.length : Int)
  · have hl' : decide (70 < (L.length : Int)) = true := decide_eq_true hl
    go_wp2
    go_ret
    exact ⟨rfl, N1.out⟩
  have hl' : decide (70 < (L.length : Int)) = false := decide_eq_false hl
  have hl1 : L.length ≤ 100 := by omega
  have hl2 : L.length ≤ 90 := by omega
  obtain ⟨a0, a1, a2, hwv⟩ : ∃ a b c, val (worstO m L) = (a, b, c) := ⟨_, _, _, rfl⟩
  obtain ⟨c0, c1, c2, hfv⟩ : ∃ a b c, val (firstO m L) = (a, b, c) := ⟨_, _, _, rfl⟩
  have HWC := hide (fun w (hN : Nx W w) => hW.out m L _ w (HW0.out w hN) hl1)
  have HFC := hide (fun w (hN : Nx W w) => hF.out m L _ w (HW0.out w hN) hl1)
  have HBC := hide (fun w (hN : Nx W w) => hB.out m L _ (xi, xd, xf) w (HW0.out w hN) hl2)
  have HGC := hide (fun w (hN : Nx W w) => hG.out m L _ w (HW0.out w hN) hl1)
  have HPC := hide (fun w (hN : Nx W w) => hP.out m L _ w (HW0.out w hN) hl1)
  have HRW := hide (fun w v (hS : Sl w v L) => rworst_any hS hl1 m)
  have HRF := hide (fun w v (hS : Sl w v L) => rfirst_any hS hl1 m)
  have HRB := hide (fun w v (hS : Sl w v L) => rbeats_any hS hl2 m (xi, xd, xf))
  have HRG := hide (fun w v (hS : Sl w v L) => rgood_any hS hl1 m)
  have HRP := hide (fun w v (hS : Sl w v L) => rpick_any hS hl1 m)
  have HEnts := hide (fun w (hN : Nx W w) => ents_any (HW0.out w hN) hl1)
  rw [hwv] at HWC HRW
  rw [hfv] at HFC HRF
  have HEa := hide (fun w => ent_any (a0, a1, a2) w)
  have HEc := hide (fun w => ent_any (c0, c1, c2) w)
  have HEx := hide (fun w => ent_any (xi, xd, xf) w)
  have HLL := hide (fun w => hL.out (at' L 0) (at' L 1) w)
  have HRL := hide (fun w => rless_any (at' L 0) (at' L 1) w)
  clear hwv hfv hA hG hL hP hW hF hB
  generalize (worstO m L).isSome = wb at *
  generalize (firstO m L).isSome = fb at *
  generalize beatsN m L (xi, xd, xf) = bn at *
  generalize beatsB m L (xi, xd, xf) = bb at *
  generalize goodE m L = gd at *
  generalize pickL m L = PL at *
  go_wp2_with fail
  refine (HEnts.out _ N1.out).mono ?_
  rintro e w2 ⟨w7v, rfl, hO, hb⟩
  have RX_2 := hide (row_nx RX.out hb)
  have N2 := hide (Nx.trans N1.out hb)
  have S2 := hide (Sl.own hO.out)
  clear hb RX N1 hO
  have RX := RX_2
  clear RX_2
  obtain ⟨p7, c7, rfl, hn7, hm7⟩ := S2.out.form
  have HS7 : Hid (∀ w, Nx w2 w → Sl w (.slice p7 L.length c7) L) := hide (fun w h => S2.out.below h)
  have NB := hide (Nx.refl w2)
  clear S2
  go_wp2_with fail
  refine (HWC.out _ N2.out).mono ?_
  rintro e w3 ⟨rfl, hb⟩
  have RX_3 := hide (row_nx RX.out hb)
  have N3 := hide (Nx.trans N2.out hb)
  have NBn := hide (Nx.trans NB.out hb)
  clear hb RX N2 NB
  have RX := RX_3
  clear RX_3
  have NB := NBn
  clear NBn
  have NB2 := hide (bel_alloc2 NB.out (.cells #[.int .i64 a0, .int .i64 a1, .bool a2] 24))
  clear NB
  have NB := NB2
  clear NB2
  have RX_4 := hide (row_nx RX.out (Nx.alloc w3 (.cells #[.int .i64 a0, .int .i64 a1, .bool a2] 24)))
  have RA := hide (heap_alloc_new w3 (.cells #[.int .i64 a0, .int .i64 a1, .bool a2] 24))
  have N4 := hide (bel_alloc2 N3.out (.cells #[.int .i64 a0, .int .i64 a1, .bool a2] 24))
  clear RX N3
  have RX := RX_4
  clear RX_4
  go_upto_region 7 with fail
  generalize hg4 : w3.heap.size = gRA at *
  generalize w3.alloc (.cells #[.int .i64 a0, .int .i64 a1, .bool a2] 24) = w4 at *
  clear hg4
  go_wp2_with fail
  refine (HRW.out _ _ (HS7.out _ NB.out)).mono ?_
  rintro e w5 ⟨rfl, hb⟩
  have RX_5 := hide (row_nx RX.out hb)
  have RA_5 := hide (row_nx RA.out hb)
  have N5 := hide (Nx.trans N4.out hb)
  have NBn := hide (Nx.trans NB.out hb)
  clear hb RX RA N4 NB
  have RX := RX_5
  clear RX_5
  have RA := RA_5
  clear RA_5
  have NB := NBn
  clear NBn
  have NB2 := hide (bel_alloc2 NB.out (.cells #[.int .i64 a0, .int .i64 a1, .bool a2] 37))
  clear NB
  have NB := NB2
  clear NB2
  have RX_6 := hide (row_nx RX.out (Nx.alloc w5 (.cells #[.int .i64 a0, .int .i64 a1, .bool a2] 37)))
  have RA_6 := hide (row_nx RA.out (Nx.alloc w5 (.cells #[.int .i64 a0, .int .i64 a1, .bool a2] 37)))
  have RB := hide (heap_alloc_new w5 (.cells #[.int .i64 a0, .int .i64 a1, .bool a2] 37))
  have N6 := hide (bel_alloc2 N5.out (.cells #[.int .i64 a0, .int .i64 a1, .bool a2] 37))
  clear RX RA N5
  have RX := RX_6
  clear RX_6
  have RA := RA_6
  clear RA_6
  go_upto_region 8 with fail
  generalize hg6 : w5.heap.size = gRB at *
  generalize w5.alloc (.cells #[.int .i64 a0, .int .i64 a1, .bool a2] 37) = w6 at *
  clear hg6
  go_wp2_with fail
  refine (HFC.out _ N6.out).mono ?_
  rintro e w7 ⟨rfl, hb⟩
  have RX_7 := hide (row_nx RX.out hb)
  have RA_7 := hide (row_nx RA.out hb)
  have RB_7 := hide (row_nx RB.out hb)
  have N7 := hide (Nx.trans N6.out hb)
  have NBn := hide (Nx.trans NB.out hb)
  clear hb RX RA RB N6 NB
  have RX := RX_7
  clear RX_7
  have RA := RA_7
  clear RA_7
  have RB := RB_7
  clear RB_7
  have NB := NBn
  clear NBn
  have NB2 := hide (bel_alloc2 NB.out (.cells #[.int .i64 c0, .int .i64 c1, .bool c2] 24))
  clear NB
  have NB := NB2
  clear NB2
  have RX_8 := hide (row_nx RX.out (Nx.alloc w7 (.cells #[.int .i64 c0, .int .i64 c1, .bool c2] 24)))
  have RA_8 := hide (row_nx RA.out (Nx.alloc w7 (.cells #[.int .i64 c0, .int .i64 c1, .bool c2] 24)))
  have RB_8 := hide (row_nx RB.out (Nx.alloc w7 (.cells #[.int .i64 c0, .int .i64 c1, .bool c2] 24)))
  have RC := hide (heap_alloc_new w7 (.cells #[.int .i64 c0, .int .i64 c1, .bool c2] 24))
  have N8 := hide (bel_alloc2 N7.out (.cells #[.int .i64 c0, .int .i64 c1, .bool c2] 24))
  clear RX RA RB N7
  have RX := RX_8
  clear RX_8
  have RA := RA_8
  clear RA_8
  have RB := RB_8
  clear RB_8
  go_upto_region 9 with fail
  generalize hg8 : w7.heap.size = gRC at *
  generalize w7.alloc (.cells #[.int .i64 c0, .int .i64 c1, .bool c2] 24) = w8 at *
  clear hg8
  go_wp2_with fail
  refine (HRF.out _ _ (HS7.out _ NB.out)).mono ?_
  rintro e w9 ⟨rfl, hb⟩
  have RX_9 := hide (row_nx RX.out hb)
  have RA_9 := hide (row_nx RA.out hb)
  have RB_9 := hide (row_nx RB.out hb)
  have RC_9 := hide (row_nx RC.out hb)
  have N9 := hide (Nx.trans N8.out hb)
  have NBn := hide (Nx.trans NB.out hb)
  clear hb RX RA RB RC N8 NB
  have RX := RX_9
  clear RX_9
  have RA := RA_9
  clear RA_9
  have RB := RB_9
  clear RB_9
  have RC := RC_9
  clear RC_9
  have NB := NBn
  clear NBn
  have NB2 := hide (bel_alloc2 NB.out (.cells #[.int .i64 c0, .int .i64 c1, .bool c2] 37))
  clear NB
  have NB := NB2
  clear NB2
  have RX_10 := hide (row_nx RX.out (Nx.alloc w9 (.cells #[.int .i64 c0, .int .i64 c1, .bool c2] 37)))
  have RA_10 := hide (row_nx RA.out (Nx.alloc w9 (.cells #[.int .i64 c0, .int .i64 c1, .bool c2] 37)))
  have RB_10 := hide (row_nx RB.out (Nx.alloc w9 (.cells #[.int .i64 c0, .int .i64 c1, .bool c2] 37)))
  have RC_10 := hide (row_nx RC.out (Nx.alloc w9 (.cells #[.int .i64 c0, .int .i64 c1, .bool c2] 37)))
  have RD := hide (heap_alloc_new w9 (.cells #[.int .i64 c0, .int .i64 c1, .bool c2] 37))
  have N10 := hide (bel_alloc2 N9.out (.cells #[.int .i64 c0, .int .i64 c1, .bool c2] 37))
  clear RX RA RB RC N9
  have RX := RX_10
  clear RX_10
  have RA := RA_10
  clear RA_10
  have RB := RB_10
  clear RB_10
  have RC := RC_10
  clear RC_10
  go_upto_region 10 with fail
  generalize hg10 : w9.heap.size = gRD at *
  generalize w9.alloc (.cells #[.int .i64 c0, .int .i64 c1, .bool c2] 37) = w10 at *
  clear hg10
  obtain ⟨x0, x1, x2⟩ := row3 RX.out
  go_wp2_with fail
  refine (HBC.out _ N10.out).mono ?_
  rintro e w11 ⟨rfl, hb⟩
  have RX_11 := hide (row_nx RX.out hb)
  have RA_11 := hide (row_nx RA.out hb)
  have RB_11 := hide (row_nx RB.out hb)
  have RC_11 := hide (row_nx RC.out hb)
  have RD_11 := hide (row_nx RD.out hb)
  have N11 := hide (Nx.trans N10.out hb)
  have NBn := hide (Nx.trans NB.out hb)
  clear hb RX RA RB RC RD N10 x0 x1 x2 NB
  have RX := RX_11
  clear RX_11
  have RA := RA_11
  clear RA_11
  have RB := RB_11
  clear RB_11
  have RC := RC_11
  clear RC_11
  have RD := RD_11
  clear RD_11
  have NB := NBn
  clear NBn
  obtain ⟨x0, x1, x2⟩ := row3 RX.out
  go_wp2_with fail
  refine (HEx.out _).mono ?_
  rintro e w12 ⟨rfl, hb⟩
  have RX_12 := hide (row_nx RX.out hb)
  have RA_12 := hide (row_nx RA.out hb)
  have RB_12 := hide (row_nx RB.out hb)
  have RC_12 := hide (row_nx RC.out hb)
  have RD_12 := hide (row_nx RD.out hb)
  have N12 := hide (Nx.trans N11.out hb)
  have NBn := hide (Nx.trans NB.out hb)
  clear hb RX RA RB RC RD N11 x0 x1 x2 NB
  have RX := RX_12
  clear RX_12
  have RA := RA_12
  clear RA_12
  have RB := RB_12
  clear RB_12
  have RC := RC_12
  clear RC_12
  have RD := RD_12
  clear RD_12
  have NB := NBn
  clear NBn
  go_wp2_with fail
  refine (HRB.out _ _ (HS7.out _ NB.out)).mono ?_
  rintro e w13 ⟨rfl, hb⟩
  have RX_13 := hide (row_nx RX.out hb)
  have RA_13 := hide (row_nx RA.out hb)
  have RB_13 := hide (row_nx RB.out hb)
  have RC_13 := hide (row_nx RC.out hb)
  have RD_13 := hide (row_nx RD.out hb)
  have N13 := hide (Nx.trans N12.out hb)
  have NBn := hide (Nx.trans NB.out hb)
  clear hb RX RA RB RC RD N12 NB
  have RX := RX_13
  clear RX_13
  have RA := RA_13
  clear RA_13
  have RB := RB_13
  clear RB_13
  have RC := RC_13
  clear RC_13
  have RD := RD_13
  clear RD_13
  have NB := NBn
  clear NBn
  clear RX HWC HFC HBC HRW HRF HRB HEx HEnts
  have hFIN : Hid (∀ wz, Nx w13 wz → Nx W wz) := hide (fun wz h => Nx.trans N13.out h)
  have hREST : Hid (∀ wz, Nx w13 wz → Nx W wz ∧ Nx w2 wz ∧ ((wz.cell? ⟨gRA, 0, none⟩ = some (.int .i64 a0) ∧ wz.cell? ⟨gRA, 1, none⟩ = some (.int .i64 a1) ∧ wz.cell? ⟨gRA, 2, none⟩ = some (.bool a2)) ∧ (wz.cell? ⟨gRB, 0, none⟩ = some (.int .i64 a0) ∧ wz.cell? ⟨gRB, 1, none⟩ = some (.int .i64 a1) ∧ wz.cell? ⟨gRB, 2, none⟩ = some (.bool a2)) ∧ (wz.cell? ⟨gRC, 0, none⟩ = some (.int .i64 c0) ∧ wz.cell? ⟨gRC, 1, none⟩ = some (.int .i64 c1) ∧ wz.cell? ⟨gRC, 2, none⟩ = some (.bool c2)) ∧ wz.cell? ⟨gRD, 0, none⟩ = some (.int .i64 c0) ∧ wz.cell? ⟨gRD, 1, none⟩ = some (.int .i64 c1) ∧ wz.cell? ⟨gRD, 2, none⟩ = some (.bool c2))) := hide (fun wz h => ⟨Nx.trans N13.out h, Nx.trans NB.out h, row3 (row_nx RA.out h), row3 (row_nx RB.out h), row3 (row_nx RC.out h), row3 (row_nx RD.out h)⟩)
  clear RA RB RC RD
  go_upto_region 12 with fail
  go_cut [19, 85] from 66 to 84 (fun s t wx => s = .bool bb ∧ t = .bool false ∧ Hid (Nx w13 wx))
  case first => as_aux_lemma =>
    have hRW := hREST.out w13 (Nx.refl _)
    by_cases hl3 : 1 < (L.length : Int)
    · have hl3' : decide (1 < (L.length : Int)) = true := decide_eq_true hl3
      have hi0 : (0 : Int) < (L.length : Int) := by omega
      have hz1 : 1 < L.length := by omega
      have hz0 : 0 < L.length := by omega
      have hz2 : decide (1 < L.length) = true := decide_eq_true hz1
      obtain ⟨b, o, rfl, hb, ⟨x0, x1, x2⟩, ⟨y0, y1, y2⟩⟩ := (HW0.out w13 hRW.1).two (show 0 < L.length by omega) (show 1 < L.length by omega)
      obtain ⟨b7, o7, rfl, hb7, ⟨z0, z1, z2⟩, ⟨t0, t1, t2⟩⟩ := (HS7.out w13 hRW.2.1).two (show 0 < L.length by omega) (show 1 < L.length by omega)
      have HL1 : Hid (∀ w, Calls Try.prog 21 #[.agg #[.int .i64 (at' L 0).1, .int .i64 (at' L 0).2.1, .bool (at' L 0).2.2], .agg #[.int .i64 (at' L 1).1, .int .i64 (at' L 1).2.1, .bool (at' L 1).2.2]] w fun e w' => e = .returned (.bool (lessB (at' L 0) (at' L 1))) ∧ Nx w w') := hide HLL.out
      have HL2 : Hid (∀ w, Calls Try.prog 22 #[.agg #[.int .i64 (at' L 0).1, .int .i64 (at' L 0).2.1, .bool (at' L 0).2.2], .agg #[.int .i64 (at' L 1).1, .int .i64 (at' L 1).2.1, .bool (at' L 1).2.2]] w fun e w' => e = .returned (.bool (lessB (at' L 0) (at' L 1))) ∧ Nx w w') := hide HRL.out
      clear HLL HRL HEa HEc HPC HGC HRG HRP hREST HS7 HW0 hFIN hRW
      simp only [Nat.zero_mul, Nat.add_zero, Nat.one_mul] at x0 x1 x2 y0 y1 y2 z0 z1 z2 t0 t1 t2
      generalize lessB (at' L 0) (at' L 1) = lb at *
      generalize (at' L 0).1 = f0 at *
      generalize (at' L 0).2.1 = f1 at *
      generalize (at' L 0).2.2 = f2 at *
      generalize (at' L 1).1 = h0 at *
      generalize (at' L 1).2.1 = h1 at *
      generalize (at' L 1).2.2 = h2 at *
      have QL : Hid (∀ w', Nx w13 w' → (w'.cell? ⟨b, o, none⟩ = some (.int .i64 f0) ∧ w'.cell? ⟨b, o + 1, none⟩ = some (.int .i64 f1) ∧ w'.cell? ⟨b, o + 2, none⟩ = some (.bool f2)) ∧ (w'.cell? ⟨b, o + 3, none⟩ = some (.int .i64 h0) ∧ w'.cell? ⟨b, o + 3 + 1, none⟩ = some (.int .i64 h1) ∧ w'.cell? ⟨b, o + 3 + 2, none⟩ = some (.bool h2)) ∧ (w'.cell? ⟨b7, o7, none⟩ = some (.int .i64 f0) ∧ w'.cell? ⟨b7, o7 + 1, none⟩ = some (.int .i64 f1) ∧ w'.cell? ⟨b7, o7 + 2, none⟩ = some (.bool f2)) ∧ (w'.cell? ⟨b7, o7 + 3, none⟩ = some (.int .i64 h0) ∧ w'.cell? ⟨b7, o7 + 3 + 1, none⟩ = some (.int .i64 h1) ∧ w'.cell? ⟨b7, o7 + 3 + 2, none⟩ = some (.bool h2))) := hide (fun w' hB =>
        ⟨⟨(hB.cell (p := ⟨b, o, none⟩) hb).trans x0, (hB.cell (p := ⟨b, o + 1, none⟩) hb).trans x1, (hB.cell (p := ⟨b, o + 2, none⟩) hb).trans x2⟩, ⟨(hB.cell (p := ⟨b, o + 3, none⟩) hb).trans y0, (hB.cell (p := ⟨b, o + 3 + 1, none⟩) hb).trans y1, (hB.cell (p := ⟨b, o + 3 + 2, none⟩) hb).trans y2⟩, ⟨(hB.cell (p := ⟨b7, o7, none⟩) hb7).trans z0, (hB.cell (p := ⟨b7, o7 + 1, none⟩) hb7).trans z1, (hB.cell (p := ⟨b7, o7 + 2, none⟩) hb7).trans z2⟩, ⟨(hB.cell (p := ⟨b7, o7 + 3, none⟩) hb7).trans t0, (hB.cell (p := ⟨b7, o7 + 3 + 1, none⟩) hb7).trans t1, (hB.cell (p := ⟨b7, o7 + 3 + 2, none⟩) hb7).trans t2⟩⟩)
      have ND : Hid (Nx w13 w13.drew) := hide (bel_drew (Nx.refl _))
      clear hb hb7
      generalize L.length = NL at *
      go_region_held3 (fun w' => (w'.cell? ⟨b, o, none⟩ = some (.int .i64 f0) ∧ w'.cell? ⟨b, o + 1, none⟩ = some (.int .i64 f1) ∧ w'.cell? ⟨b, o + 2, none⟩ = some (.bool f2)) ∧ (w'.cell? ⟨b, o + 3, none⟩ = some (.int .i64 h0) ∧ w'.cell? ⟨b, o + 3 + 1, none⟩ = some (.int .i64 h1) ∧ w'.cell? ⟨b, o + 3 + 2, none⟩ = some (.bool h2)) ∧ (w'.cell? ⟨b7, o7, none⟩ = some (.int .i64 f0) ∧ w'.cell? ⟨b7, o7 + 1, none⟩ = some (.int .i64 f1) ∧ w'.cell? ⟨b7, o7 + 2, none⟩ = some (.bool f2)) ∧ (w'.cell? ⟨b7, o7 + 3, none⟩ = some (.int .i64 h0) ∧ w'.cell? ⟨b7, o7 + 3 + 1, none⟩ = some (.int .i64 h1) ∧ w'.cell? ⟨b7, o7 + 3 + 2, none⟩ = some (.bool h2))) (first | (exact ⟨⟨x0, x1, x2⟩, ⟨y0, y1, y2⟩, ⟨z0, z1, z2⟩, t0, t1, t2⟩) | go_keep) (first
        | (with_reducible refine (HL1.out _).mono ?_; rintro e w21 ⟨rfl, hb⟩; have N21 := hide (Nx.trans ND.out hb); obtain ⟨⟨x0, x1, x2⟩, ⟨y0, y1, y2⟩, ⟨z0, z1, z2⟩, t0, t1, t2⟩ := QL.out _ N21.out; clear hb)
        | (with_reducible refine (HL2.out _).mono ?_; rintro e w22 ⟨rfl, hb⟩; have N22 := hide (Nx.trans N21.out hb); obtain ⟨⟨x0, x1, x2⟩, ⟨y0, y1, y2⟩, ⟨z0, z1, z2⟩, t0, t1, t2⟩ := QL.out _ N22.out; clear hb))
      go_wp2
      go_meet
      case rel => exact ⟨rfl, rfl, N22⟩
    · have hl3' : decide (1 < (L.length : Int)) = false := decide_eq_false hl3
      have HNn : Hid (∀ n, Nx w13 (w13.drewN n)) := hide (fun n => bel_drewN (Nx.refl _) n)
      clear HLL HRL HEa HEc HPC HGC HRG HRP hREST HS7 HW0 hFIN hRW
      go_quiet (fail)
      go_wp2
      go_meet
      case rel => exact ⟨rfl, rfl, hide (HNn.out _)⟩
  case rest => as_aux_lemma =>
    obtain ⟨rfl, rfl, HN⟩ := hcut
    clear HLL HRL
    have HD : Hid (∀ wz, Nx wc wz → Nx W wz ∧ Nx w2 wz ∧ ((wz.cell? ⟨gRA, 0, none⟩ = some (.int .i64 a0) ∧ wz.cell? ⟨gRA, 1, none⟩ = some (.int .i64 a1) ∧ wz.cell? ⟨gRA, 2, none⟩ = some (.bool a2)) ∧ (wz.cell? ⟨gRB, 0, none⟩ = some (.int .i64 a0) ∧ wz.cell? ⟨gRB, 1, none⟩ = some (.int .i64 a1) ∧ wz.cell? ⟨gRB, 2, none⟩ = some (.bool a2)) ∧ (wz.cell? ⟨gRC, 0, none⟩ = some (.int .i64 c0) ∧ wz.cell? ⟨gRC, 1, none⟩ = some (.int .i64 c1) ∧ wz.cell? ⟨gRC, 2, none⟩ = some (.bool c2)) ∧ wz.cell? ⟨gRD, 0, none⟩ = some (.int .i64 c0) ∧ wz.cell? ⟨gRD, 1, none⟩ = some (.int .i64 c1) ∧ wz.cell? ⟨gRD, 2, none⟩ = some (.bool c2))) := hide (fun wz h => hREST.out wz (Nx.trans HN.out h))
    obtain ⟨_, _, ⟨x0, x1, x2⟩, ⟨y0, y1, y2⟩, ⟨z0, z1, z2⟩, t0, t1, t2⟩ := HD.out wc (Nx.refl _)
    have ND : Hid (Nx wc wc.drew) := hide (bel_drew (Nx.refl _))
    have HQ : Hid (∀ wz, Nx wc wz → ((wz.cell? ⟨gRA, 0, none⟩ = some (.int .i64 a0) ∧ wz.cell? ⟨gRA, 1, none⟩ = some (.int .i64 a1) ∧ wz.cell? ⟨gRA, 2, none⟩ = some (.bool a2)) ∧ (wz.cell? ⟨gRB, 0, none⟩ = some (.int .i64 a0) ∧ wz.cell? ⟨gRB, 1, none⟩ = some (.int .i64 a1) ∧ wz.cell? ⟨gRB, 2, none⟩ = some (.bool a2)) ∧ (wz.cell? ⟨gRC, 0, none⟩ = some (.int .i64 c0) ∧ wz.cell? ⟨gRC, 1, none⟩ = some (.int .i64 c1) ∧ wz.cell? ⟨gRC, 2, none⟩ = some (.bool c2)) ∧ wz.cell? ⟨gRD, 0, none⟩ = some (.int .i64 c0) ∧ wz.cell? ⟨gRD, 1, none⟩ = some (.int .i64 c1) ∧ wz.cell? ⟨gRD, 2, none⟩ = some (.bool c2))) := hide (fun wz h => (HD.out wz h).2.2)
    have HG1 := hide (fun wz (h : Nx wc wz) => HGC.out wz (HD.out wz h).1)
    have HG2 := hide (fun wz (h : Nx wc wz) => HRG.out wz _ (HS7.out wz (HD.out wz h).2.1))
    have HP1 := hide (fun wz (h : Nx wc wz) => HPC.out wz (HD.out wz h).1)
    have HP2 := hide (fun wz (h : Nx wc wz) => HRP.out wz _ (HS7.out wz (HD.out wz h).2.1))
    have HI1 : Hid (∀ wz v1 v2, Is wz v1 PL → Is wz v2 PL → Calls Try.prog 15 #[v1, v2] wz fun e w' => e = .returned (.bool true) ∧ Nx wz w') := hide (fun wz v1 v2 h1 h2 => by
      have := ints_any h1 h2
      rwa [decide_eq_true rfl] at this)
    have HE1 : Hid (∀ wz, Calls Try.prog 20 #[.agg #[.int .i64 a0, .int .i64 a1, .bool a2]] wz fun e w' => e = .returned (.agg #[.int .i64 a0, .int .i64 a1, .bool a2]) ∧ Nx wz w') := hide HEa.out
    have HE2 : Hid (∀ wz, Calls Try.prog 20 #[.agg #[.int .i64 c0, .int .i64 c1, .bool c2]] wz fun e w' => e = .returned (.agg #[.int .i64 c0, .int .i64 c1, .bool c2]) ∧ Nx wz w') := hide HEc.out
    have HFN : Hid (∀ wz, Nx wc wz → Nx W wz) := hide (fun wz h => (HD.out wz h).1)
    have eqE := fun wz => eqEr a0 a1 a0 a1 a2 a2 wz
    have eqF := fun wz => eqEr c0 c1 c0 c1 c2 c2 wz
    have gdW : Try.prog.eqGuardType Try.prog.depth 37 = false := by kernel_rfl
    clear HEa HEc HPC HGC HRG HRP hREST HS7 HW0 hFIN HD HN
    go_wp2
    go_region_held3 (fun w' => (w'.cell? ⟨gRA, 0, none⟩ = some (.int .i64 a0) ∧ w'.cell? ⟨gRA, 1, none⟩ = some (.int .i64 a1) ∧ w'.cell? ⟨gRA, 2, none⟩ = some (.bool a2)) ∧ (w'.cell? ⟨gRB, 0, none⟩ = some (.int .i64 a0) ∧ w'.cell? ⟨gRB, 1, none⟩ = some (.int .i64 a1) ∧ w'.cell? ⟨gRB, 2, none⟩ = some (.bool a2)) ∧ (w'.cell? ⟨gRC, 0, none⟩ = some (.int .i64 c0) ∧ w'.cell? ⟨gRC, 1, none⟩ = some (.int .i64 c1) ∧ w'.cell? ⟨gRC, 2, none⟩ = some (.bool c2)) ∧ w'.cell? ⟨gRD, 0, none⟩ = some (.int .i64 c0) ∧ w'.cell? ⟨gRD, 1, none⟩ = some (.int .i64 c1) ∧ w'.cell? ⟨gRD, 2, none⟩ = some (.bool c2)) (first | (exact ⟨⟨x0, x1, x2⟩, ⟨y0, y1, y2⟩, ⟨z0, z1, z2⟩, t0, t1, t2⟩) | go_keep) (first
      | (with_reducible refine (HG1.out _ ND.out).mono ?_; rintro e w21 ⟨rfl, hb⟩; have N21 := hide (Nx.trans ND.out hb); obtain ⟨⟨x0, x1, x2⟩, ⟨y0, y1, y2⟩, ⟨z0, z1, z2⟩, t0, t1, t2⟩ := HQ.out _ N21.out; clear hb)
      | (with_reducible refine (HG2.out _ N21.out).mono ?_; rintro e w22 ⟨rfl, hb⟩; have N22 := hide (Nx.trans N21.out hb); obtain ⟨⟨x0, x1, x2⟩, ⟨y0, y1, y2⟩, ⟨z0, z1, z2⟩, t0, t1, t2⟩ := HQ.out _ N22.out; clear hb)
      | (with_reducible refine (HP1.out _ N22.out).mono ?_; rintro e w23 ⟨v23, rfl, hI, hb⟩; have N23 := hide (Nx.trans N22.out hb); have I23 := hide hI.out; obtain ⟨⟨x0, x1, x2⟩, ⟨y0, y1, y2⟩, ⟨z0, z1, z2⟩, t0, t1, t2⟩ := HQ.out _ N23.out; clear hb hI)
      | (with_reducible refine (HP2.out _ N23.out).mono ?_; rintro e w24 ⟨v24, rfl, hO, hb⟩; have N24 := hide (Nx.trans N23.out hb); have I24 := hide (Is.own hO.out); have I23b := hide (I23.out.below hb); obtain ⟨⟨x0, x1, x2⟩, ⟨y0, y1, y2⟩, ⟨z0, z1, z2⟩, t0, t1, t2⟩ := HQ.out _ N24.out; clear hb hO)
      | (with_reducible refine (HI1.out _ _ _ I23b.out I24.out).mono ?_; rintro e w25 ⟨rfl, hb⟩; have N25 := hide (Nx.trans N24.out hb); obtain ⟨⟨x0, x1, x2⟩, ⟨y0, y1, y2⟩, ⟨z0, z1, z2⟩, t0, t1, t2⟩ := HQ.out _ N25.out; clear hb)
      | (with_reducible refine (HE1.out w25).mono ?_; rintro e w26 ⟨rfl, hb⟩; have N26 := hide (Nx.trans N25.out hb); obtain ⟨⟨x0, x1, x2⟩, ⟨y0, y1, y2⟩, ⟨z0, z1, z2⟩, t0, t1, t2⟩ := HQ.out _ N26.out; clear hb)
      | (with_reducible refine (HE2.out w26).mono ?_; rintro e w27 ⟨rfl, hb⟩; have N27 := hide (Nx.trans N26.out hb); obtain ⟨⟨x0, x1, x2⟩, ⟨y0, y1, y2⟩, ⟨z0, z1, z2⟩, t0, t1, t2⟩ := HQ.out _ N27.out; clear hb))
    have F := hide (HFN.out _ N27.out)
    go_wp2
    go_ret
    exact ⟨rfl, F.out⟩
end Go.Proofs.Ytacbiiiadalocaa.Ed
