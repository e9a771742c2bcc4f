/- JobParts: run by so much, and then so much. -/
import Derived.Test.YtmeigdgnfdgnhaaJBy
import Derived.Test.YtmeigdgnfdgnhaaJSeg
namespace Go.Proofs.Ytmeigdgnfdgnhaa.Con
open Go.RowKit Go.Proofs.Ytmeigdgnfdgnhaa.Pm
set_option linter.unusedVariables false
set_option linter.unusedSimpArgs false
set_option maxHeartbeats 8000000 in
set_option maxRecDepth 100000 in
theorem parts_walk (w : World) {v : Value} {L : List St} (at0 a b : Int) (h : Sl w v L) (hat0 : -9223372036854775808 ≤ at0) (hat1 : at0 ≤ 9223372036854775807) :
    Calls Try.prog 5 #[v, .int .i64 at0, .int .i64 a, .int .i64 b] w fun e w' => e = .returned (.bool true) ∧ Nx w w' := by
  obtain ⟨p, cap, rfl, hn, hm⟩ := h.form
  have HV := hide h
  clear h
  go_enter Try.func5, Try.ntmps5
  go_wp2_with fail
  refine (awake_any w).mono ?_
  rintro e w0 ⟨rfl, hb⟩
  have B_0 := hide hb
  have V_0 := hide (HV.out.below hb)
  clear hb HV
  go_wp2_with fail
  cases hg : good L with
  | false =>
    refine (new_no V_0.out (by rw [hg]; decide)).mono ?_
    rintro e w1 ⟨rfl, hb⟩
    have B_1 := hide (Nx.trans B_0.out hb)
    have B_2 := hide (Nx.trans B_1.out (Nx.alloc w1 (.cells #[.int .i64 0, .slice none 0 0, .int .i64 0, .int .i64 0] 28)))
    clear hb B_0 B_1 V_0
    go_wp2
    go_ret
    exact ⟨rfl, B_2.out⟩
  | true =>
    have hl8 := (good_len hg).2
    have hl : L.length ≤ 1000 := by omega
    have HG := hide hg
    clear hg
    refine (new_ok V_0.out (by omega) HG.out).mono ?_
    rintro e w1 ⟨x, rfl, HR⟩
    obtain ⟨pn, cn, rfl, HS⟩ := HR.parts
    have hs2 := HS.out.2
    have B_1 := hide (Nx.trans B_0.out (hs2))
    clear B_0
    have RN := hide HS.out.1
    clear HS HR hs2
    clear V_0
    have bKj := hide B_1.out.size
    have KN := hide (JB.new (j := ⟨3, L, 0, 0⟩) RN.out)
    have NN := hide (Nx.alloc w1 (.cells #[.int .i64 3, .slice pn L.length cn, .int .i64 0, .int .i64 0] 28))
    clear RN
    go_upto_region 4 with fail
    have B_2 := hide (Nx.trans B_1.out (NN.out))
    clear B_1
    generalize hw : w1.alloc (.cells #[.int .i64 3, .slice pn L.length cn, .int .i64 0, .int .i64 0] 28) = w2 at *
    have Kj_2 := KN
    clear KN NN hw
    generalize w1.heap.size = gKj at *
    have Kj_2 : Hid (JB w2 gKj ⟨3, L, 0, 0⟩) := Kj_2
    by_cases d0 : a < 0
    · go_wp2
      go_ret
      exact ⟨rfl, B_2.out⟩
    by_cases d1 : b < 0
    · go_wp2
      go_ret
      exact ⟨rfl, B_2.out⟩
    by_cases d2 : 1099511627776 < a
    · go_wp2
      go_ret
      exact ⟨rfl, B_2.out⟩
    by_cases d3 : 1099511627776 < b
    · go_wp2
      go_ret
      exact ⟨rfl, B_2.out⟩
    by_cases d4 : at0 < 0
    · go_wp2
      go_ret
      exact ⟨rfl, B_2.out⟩
    by_cases d5 : (L.length : Int) ≤ at0
    · go_wp2
      go_ret
      exact ⟨rfl, B_2.out⟩
    obtain ⟨m, rfl⟩ : ∃ m : Nat, at0 = m := ⟨at0.toNat, by omega⟩
    have hm1 : m < L.length := by omega
    have hm2 : (m : Int) < (L.length : Int) := by omega
    go_wp2
    go_loopw [11] (fun i wr => ∃ k : Nat, k ≤ m ∧ i = .int .i64 k ∧ Hid (JB wr gKj ⟨3, L, (k : Int), 0⟩) ∧ Hid (Nx w wr)) (fun i _ => m - (intOf i).toNat)
    case atStart => exact ⟨0, by omega, rfl, Kj_2, B_2⟩
    case round =>
      clear Kj_2 B_2
      obtain ⟨k, hk, rfl, Kj_0, B_0⟩ := hrel
      obtain ⟨w0, hw0⟩ : ∃ x, x = wr := ⟨_, rfl⟩
      subst hw0
      by_cases hkn : k < m
      · have hk1 : (k : Int) < (m : Int) := by omega
        obtain ⟨z, ⟨hz1, hz2⟩, E1, E2, E3, E4⟩ := run_full (num := 3) (k := k) (by omega) HG.out (by omega)
        have E1 := hide E1
        have E2 := hide E2
        have E3 := hide E3
        have E4 := hide E4
        obtain ⟨px, cx, hx, sx⟩ := Kj_0.out.row
        obtain ⟨x0, x1, x2, x3⟩ := row_cells hx
        have Sx := hide sx
        clear hx sx
        go_wp2_with fail
        refine (run_any Sx.out hl (by omega) (by omega)).mono ?_
        rintro e w1 ⟨x, rfl, HR⟩
        rw [E1.out]
        rw [E2.out] at HR
        obtain ⟨pn, cn, rfl, HS⟩ := HR.parts
        have hs2 := HS.out.2
        clear x0 x1 x2 x3 Sx
        have Kj_1 := hide (Kj_0.out.below (hs2))
        have B_1 := hide (Nx.trans B_0.out (hs2))
        clear B_0 Kj_0
        have RN := hide HS.out.1
        clear HS HR hs2
        obtain ⟨pc, cc, hc, sc⟩ := Kj_1.out.row
        obtain ⟨c0, c1, c2, c3⟩ := row_cells hc
        have zc0 := row_free hc 0
        have zc1 := row_free hc 1
        have zc2 := row_free hc 2
        have zc3 := row_free hc 3
        have Hc := hide hc
        clear hc sc
        have PU := hide (put4 Hc.out (.int .i64 3) (.slice pn L.length cn) (.int .i64 k) (.int .i64 z))
        go_upto_region 10 with fail
        have Kj_2 := hide (JB.put (j' := ⟨3, L, k, z⟩) Kj_1.out RN.out PU.out)
        have B_2 := hide (PU.out.below B_1.out bKj.out)
        clear RN B_1 Kj_1
        clear c0 c1 c2 c3 zc0 zc1 zc2 zc3 Hc
        clear PU
        generalize ((((w1.setCell ⟨gKj, 0, none⟩ (.int .i64 3)).setCell ⟨gKj, 1, none⟩ (.slice pn L.length cn)).setCell ⟨gKj, 2, none⟩ (.int .i64 k)).setCell ⟨gKj, 3, none⟩ (.int .i64 z)) = w2 at *
        obtain ⟨px, cx, hx, sx⟩ := Kj_2.out.row
        obtain ⟨x0, x1, x2, x3⟩ := row_cells hx
        have Sx := hide sx
        clear hx sx
        go_wp2_with fail
        refine (next_any Sx.out hl).mono ?_
        rintro e w3 ⟨x, rfl, HR⟩
        rw [E3.out]
        rw [E4.out] at HR
        obtain ⟨pn, cn, rfl, HS⟩ := HR.parts
        have hs2 := HS.out.2
        clear x0 x1 x2 x3 Sx
        have Kj_3 := hide (Kj_2.out.below (hs2))
        have B_3 := hide (Nx.trans B_2.out (hs2))
        clear B_2 Kj_2
        have RN := hide HS.out.1
        clear HS HR hs2
        have bKn := hide B_3.out.size
        have neKjKn : Hid (gKj ≠ w3.heap.size) := hide (Nat.ne_of_lt Kj_3.out.lt)
        have KN := hide (JB.new (j := ⟨3, L, k + 1, 0⟩) RN.out)
        have NN := hide (Nx.alloc w3 (.cells #[.int .i64 3, .slice pn L.length cn, .int .i64 (k + 1), .int .i64 0] 28))
        clear RN
        go_upto_region 13 with fail
        have Kj_4 := hide (Kj_3.out.below (NN.out))
        have B_4 := hide (Nx.trans B_3.out (NN.out))
        clear B_3 Kj_3
        generalize hw : w3.alloc (.cells #[.int .i64 3, .slice pn L.length cn, .int .i64 (k + 1), .int .i64 0] 28) = w4 at *
        have Kn_4 := KN
        clear KN NN hw
        generalize w3.heap.size = gKn at *
        have Kn_4 : Hid (JB w4 gKn ⟨3, L, k + 1, 0⟩) := Kn_4
        obtain ⟨pn, cn, hn0, hz0⟩ := Kn_4.out.rz
        obtain ⟨x0, x1, x2, x3⟩ := row_cells hn0
        have RN := hide hz0
        clear hn0 hz0
        clear Kn_4
        obtain ⟨pc, cc, hc, sc⟩ := Kj_4.out.row
        obtain ⟨c0, c1, c2, c3⟩ := row_cells hc
        have zc0 := row_free hc 0
        have zc1 := row_free hc 1
        have zc2 := row_free hc 2
        have zc3 := row_free hc 3
        have Hc := hide hc
        clear hc sc
        have PU := hide (put4 Hc.out (.int .i64 3) (.slice pn L.length cn) (.int .i64 (k + 1)) (.int .i64 0))
        go_upto_region 8 with fail
        have Kj_5 := hide (JB.put (j' := ⟨3, L, k + 1, 0⟩) Kj_4.out RN.out PU.out)
        have B_5 := hide (PU.out.below B_4.out bKj.out)
        clear RN B_4 Kj_4
        clear x0 x1 x2 x3 c0 c1 c2 c3 zc0 zc1 zc2 zc3 Hc
        clear PU
        generalize ((((w4.setCell ⟨gKj, 0, none⟩ (.int .i64 3)).setCell ⟨gKj, 1, none⟩ (.slice pn L.length cn)).setCell ⟨gKj, 2, none⟩ (.int .i64 (k + 1))).setCell ⟨gKj, 3, none⟩ (.int .i64 0)) = w5 at *
        go_wp2
        go_roundw
        case rel => exact ⟨k + 1, by omega, by go_num, (by rw [show ((k + 1 : Nat) : Int) = (k : Int) + 1 by omega]; exact Kj_5), B_5⟩
        case measure => simp [intOf]; omega
      · obtain rfl : k = m := by omega
        obtain ⟨r1, r2, r3, ⟨h11, h12⟩, ⟨h21, h22⟩, hsum, hle, E1, E2, E3, E4, E5, E6⟩ := part_facts (num := 3) (k := k) (a := a) (b := b) (by omega) HG.out (by omega) (by omega) (by omega)
        have E1 := hide E1
        have E2 := hide E2
        have E3 := hide E3
        have E4 := hide E4
        have E5 := hide E5
        have E6 := hide E6
        have wab : IntKind.i64.wrap (a + b) = a + b := by rw [IntKind.wrap_i64]; omega
        have wr12 : IntKind.i64.wrap (r1 + r2) = r3 := by rw [IntKind.wrap_i64]; omega
        obtain ⟨s, hs⟩ : ∃ s, a + b = s := ⟨_, rfl⟩
        rw [hs] at wab hle E5 E6
        go_upto_region 14 with fail
        obtain ⟨px, cx, hx, sx⟩ := Kj_0.out.row
        obtain ⟨x0, x1, x2, x3⟩ := row_cells hx
        have Sx := hide sx
        clear hx sx
        go_wp2_with fail
        refine (run_any Sx.out hl (by omega) (by omega)).mono ?_
        rintro e w1 ⟨x, rfl, HR⟩
        rw [E1.out]
        rw [E2.out] at HR
        obtain ⟨pn, cn, rfl, HS⟩ := HR.parts
        have hs2 := HS.out.2
        clear x0 x1 x2 x3 Sx
        have Kj_1 := hide (Kj_0.out.below (hs2))
        have B_1 := hide (Nx.trans B_0.out (hs2))
        clear B_0 Kj_0
        have RN := hide HS.out.1
        clear HS HR hs2
        have bKx := hide B_1.out.size
        have neKjKx : Hid (gKj ≠ w1.heap.size) := hide (Nat.ne_of_lt Kj_1.out.lt)
        have KN := hide (JB.new (j := ⟨3, L, k, r1⟩) RN.out)
        have NN := hide (Nx.alloc w1 (.cells #[.int .i64 3, .slice pn L.length cn, .int .i64 k, .int .i64 r1] 28))
        clear RN
        go_upto_region 15 with fail
        have Kj_2 := hide (Kj_1.out.below (NN.out))
        have B_2 := hide (Nx.trans B_1.out (NN.out))
        clear B_1 Kj_1
        generalize hw : w1.alloc (.cells #[.int .i64 3, .slice pn L.length cn, .int .i64 k, .int .i64 r1] 28) = w2 at *
        have Kx_2 := KN
        clear KN NN hw
        generalize w1.heap.size = gKx at *
        have Kx_2 : Hid (JB w2 gKx ⟨3, L, k, r1⟩) := Kx_2
        obtain ⟨px, cx, hx, sx⟩ := Kx_2.out.row
        obtain ⟨x0, x1, x2, x3⟩ := row_cells hx
        have Sx := hide sx
        clear hx sx
        go_wp2_with fail
        refine (run_any Sx.out hl (by omega) (by omega)).mono ?_
        rintro e w3 ⟨x, rfl, HR⟩
        rw [E3.out]
        rw [E4.out] at HR
        obtain ⟨pn, cn, rfl, HS⟩ := HR.parts
        have hs2 := HS.out.2
        clear x0 x1 x2 x3 Sx
        have Kj_3 := hide (Kj_2.out.below (hs2))
        have Kx_3 := hide (Kx_2.out.below (hs2))
        have B_3 := hide (Nx.trans B_2.out (hs2))
        clear B_2 Kj_2 Kx_2
        have RN := hide HS.out.1
        clear HS HR hs2
        obtain ⟨pc, cc, hc, sc⟩ := Kx_3.out.row
        obtain ⟨c0, c1, c2, c3⟩ := row_cells hc
        have zc0 := row_free hc 0
        have zc1 := row_free hc 1
        have zc2 := row_free hc 2
        have zc3 := row_free hc 3
        have Hc := hide hc
        clear hc sc
        have PU := hide (put4 Hc.out (.int .i64 3) (.slice pn L.length cn) (.int .i64 k) (.int .i64 r3))
        go_upto_region 16 with fail
        have Kx_4 := hide (JB.put (j' := ⟨3, L, k, r3⟩) Kx_3.out RN.out PU.out)
        have Kj_4 := hide (JB.other Kj_3.out Kx_3.out neKjKx.out PU.out)
        have B_4 := hide (PU.out.below B_3.out bKx.out)
        clear RN B_3 Kj_3 Kx_3
        clear c0 c1 c2 c3 zc0 zc1 zc2 zc3 Hc
        clear PU
        generalize ((((w3.setCell ⟨gKx, 0, none⟩ (.int .i64 3)).setCell ⟨gKx, 1, none⟩ (.slice pn L.length cn)).setCell ⟨gKx, 2, none⟩ (.int .i64 k)).setCell ⟨gKx, 3, none⟩ (.int .i64 r3)) = w4 at *
        obtain ⟨px, cx, hx, sx⟩ := Kj_4.out.row
        obtain ⟨x0, x1, x2, x3⟩ := row_cells hx
        have Sx := hide sx
        clear hx sx
        go_wp2_with fail
        refine (run_any Sx.out hl (by omega) (by omega)).mono ?_
        rintro e w5 ⟨x, rfl, HR⟩
        rw [E5.out]
        rw [E6.out] at HR
        obtain ⟨pn, cn, rfl, HS⟩ := HR.parts
        have hs2 := HS.out.2
        clear x0 x1 x2 x3 Sx
        have Kj_5 := hide (Kj_4.out.below (hs2))
        have Kx_5 := hide (Kx_4.out.below (hs2))
        have B_5 := hide (Nx.trans B_4.out (hs2))
        clear B_4 Kj_4 Kx_4
        have RN := hide HS.out.1
        clear HS HR hs2
        have bKy := hide B_5.out.size
        have neKjKy : Hid (gKj ≠ w5.heap.size) := hide (Nat.ne_of_lt Kj_5.out.lt)
        have neKxKy : Hid (gKx ≠ w5.heap.size) := hide (Nat.ne_of_lt Kx_5.out.lt)
        have KN := hide (JB.new (j := ⟨3, L, k, r3⟩) RN.out)
        have NN := hide (Nx.alloc w5 (.cells #[.int .i64 3, .slice pn L.length cn, .int .i64 k, .int .i64 r3] 28))
        clear RN
        go_upto_region 17 with fail
        have Kj_6 := hide (Kj_5.out.below (NN.out))
        have Kx_6 := hide (Kx_5.out.below (NN.out))
        have B_6 := hide (Nx.trans B_5.out (NN.out))
        clear B_5 Kj_5 Kx_5
        generalize hw : w5.alloc (.cells #[.int .i64 3, .slice pn L.length cn, .int .i64 k, .int .i64 r3] 28) = w6 at *
        have Ky_6 := KN
        clear KN NN hw
        generalize w5.heap.size = gKy at *
        have Ky_6 : Hid (JB w6 gKy ⟨3, L, k, r3⟩) := Ky_6
        obtain ⟨pj, cj, hj, sj⟩ := Kj_6.out.row
        obtain ⟨px, cx, hx, sx⟩ := Kx_6.out.row
        obtain ⟨py, cy, hy, sy⟩ := Ky_6.out.row
        have n0 : Hid (Nx w6 w6.drew) := hide (bel_drew (Below.refl _ _))
        have SS : Hid (∀ x, Nx w6 x → ∃ p : Regrown, x = Sort.grow (redrawn w6 p.d) p.os) := hide (fun x hx => regrown_of_below hx)
        have C2 : Hid (∀ x, Nx w6 x → Calls Try.prog 13 #[jv 3 (.slice px L.length cx) k r3] x fun e w' => ∃ u, e = .returned (jv 3 u k r3) ∧ Hid (Sl w' u L ∧ Nx x w')) := hide (fun x hx => ownJ_any (sx.below hx) hl)
        have C3 : Hid (∀ x, Nx w6 x → Calls Try.prog 13 #[jv 3 (.slice py L.length cy) k r3] x fun e w' => ∃ u, e = .returned (jv 3 u k r3) ∧ Hid (Sl w' u L ∧ Nx x w')) := hide (fun x hx => ownJ_any (sy.below hx) hl)
        have C4 : Hid (∀ x u u', Sl x u L → Sl x u' L → Calls Try.prog 12 #[jv 3 u k r3, jv 3 u' k r3] x fun e w' => e = .returned (.bool true) ∧ Nx x w') := hide (fun x u u' h1 h2 => same_any h1 h2 hl)
        have f0 := fun d os => (row_cells (row_kept (below_regrown w6 d os) hx)).1
        have f1 := fun d os => (row_cells (row_kept (below_regrown w6 d os) hx)).2.1
        have f2 := fun d os => (row_cells (row_kept (below_regrown w6 d os) hx)).2.2.1
        have f3 := fun d os => (row_cells (row_kept (below_regrown w6 d os) hx)).2.2.2
        have g0 := fun d os => (row_cells (row_kept (below_regrown w6 d os) hy)).1
        have g1 := fun d os => (row_cells (row_kept (below_regrown w6 d os) hy)).2.1
        have g2 := fun d os => (row_cells (row_kept (below_regrown w6 d os) hy)).2.2.1
        have g3 := fun d os => (row_cells (row_kept (below_regrown w6 d os) hy)).2.2.2
        have k2 := fun d os => (row_cells (row_kept (below_regrown w6 d os) hj)).2.2.1
        have hd1 : decide (r3 ≤ s) = true := decide_eq_true hle
        clear hj hx hy sj sx sy Kj_6 Kx_6 Ky_6 E1 E2 E3 E4 E5 E6
        refine wp_region_noPanic ?_
        refine wp_region_held_drew (S := fun x => ∃ p : Regrown, x = Sort.grow (redrawn w6 p.d) p.os) (by as_aux_lemma => kernel_rfl) (SS.out _ n0.out) (fun hHeld => ?_)
        clear hHeld
        refine Seg.seg 0 7 19 #[true, true, true, true, true, true, true, false, false, false, false, false, false, false, false, false, false, false, false, false, false, false, false, false, false, false] (by as_aux_lemma => kernel_rfl) (fun _ _ _ _ _ h => h) (SS.out _ n0.out) (by as_aux_lemma => kernel_rfl) (by kernel_rfl) (by kernel_rfl) ?_
        simp only [List.drop_succ_cons, List.drop_zero, List.take_succ_cons, List.take_zero]
        iterate 7 (go_big_quiet_step (fail))
        refine wpQuiet_nil ?_
        refine Seg.seg 8 1 18 #[true, true, true, true, true, true, true, false, true, false, false, false, false, false, false, false, false, false, false, false, false, false, false, false, false, false] (by as_aux_lemma => kernel_rfl) (fun _ _ _ _ _ h => h) (SS.out _ n0.out) (by as_aux_lemma => kernel_rfl) (by kernel_rfl) (by kernel_rfl) ?_
        simp only [List.drop_succ_cons, List.drop_zero, List.take_succ_cons, List.take_zero]
        iterate 1 (go_big_quiet_step (fail))
        refine wpQuiet_nil ?_
        as_aux_lemma =>
          refine wpAnyH_ready (rs := [7]) (by as_aux_lemma => kernel_rfl) (by simp) ?_
          refine AllReadyH.cons rfl (fun K hK => ?_) AllReadyH.nil
          go_simp
          refine (C2.out _ n0.out).mono ?_
          rintro e y2 ⟨u2, rfl, HU2⟩
          have n2 := hide (Nx.trans n0.out HU2.out.2)
          refine hK.out _ _ (SS.out _ n2.out) (fun hHeld => ?_)
          clear hK K hHeld
          (try simp only [Act.put, List.setIfInBounds_toArray, List.set_cons_zero, List.set_cons_succ])
          as_aux_lemma =>
            refine wpAnyH_ready (rs := [9]) (by as_aux_lemma => kernel_rfl) (by simp) ?_
            refine AllReadyH.cons rfl (fun K hK => ?_) AllReadyH.nil
            go_simp
            refine (C3.out _ n2.out).mono ?_
            rintro e y3 ⟨u3, rfl, HU3⟩
            have n3 := hide (Nx.trans n2.out HU3.out.2)
            have V2 := hide (HU2.out.1.below HU3.out.2)
            have V3 := hide HU3.out.1
            refine hK.out _ _ (SS.out _ n3.out) (fun hHeld => ?_)
            clear hK K hHeld
            (try simp only [Act.put, List.setIfInBounds_toArray, List.set_cons_zero, List.set_cons_succ])
            as_aux_lemma =>
              refine wpAnyH_ready (rs := [10]) (by as_aux_lemma => kernel_rfl) (by simp) ?_
              refine AllReadyH.cons rfl (fun K hK => ?_) AllReadyH.nil
              go_simp
              refine (C4.out _ _ _ V2.out V3.out).mono ?_
              rintro e y4 ⟨rfl, hb⟩
              have n4 := hide (Nx.trans n3.out hb)
              clear hb
              refine hK.out _ _ (SS.out _ n4.out) (fun hHeld => ?_)
              clear hK K hHeld
              (try simp only [Act.put, List.setIfInBounds_toArray, List.set_cons_zero, List.set_cons_succ])
              as_aux_lemma =>
                refine Seg.seg 11 15 0 #[true, true, true, true, true, true, true, true, true, true, true, true, true, true, true, true, true, true, true, true, true, true, true, true, true, true] (by as_aux_lemma => kernel_rfl) (fun _ _ _ _ _ h => h) (SS.out _ n4.out) (by as_aux_lemma => kernel_rfl) (by kernel_rfl) (by kernel_rfl) ?_
                simp only [List.drop_succ_cons, List.drop_zero, List.take_succ_cons, List.take_zero]
                iterate 12 (go_big_quiet_step (fail))
                iterate 3 (go_big_quiet_step (fail))
                refine wpQuiet_nil ?_
                refine wpAnyH_done (by as_aux_lemma => kernel_rfl) ?_ _
                refine NoPanic.normal ?_
                have HF := hide (Nx.trans B_6.out n4.out)
                go_wp2
                go_ret
                exact ⟨rfl, HF.out⟩
end Go.Proofs.Ytmeigdgnfdgnhaa.Con
