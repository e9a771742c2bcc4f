/- JobEnds: run in whatever pieces, a job comes to its end behind just all its ticks. -/
import Derived.Test.YtmeigdgnfdgnhaaJBz
import Derived.Test.YtmeigdgnfdgnhaaJSeg
namespace Go.Proofs.Ytmeigdgnfdgnhaa.Con
open Go.RowKit Go.Proofs.Ytmeigdgnfdgnhaa.Pm
set_option linter.unusedVariables false
set_option linter.unusedSimpArgs false
set_option maxHeartbeats 16000000 in
set_option maxRecDepth 100000 in
theorem ends_walk (w : World) {v : Value} {L : List St} (h : Sl w v L) (bp : Option Addr) (N C : Nat) (Z : Nat → Int) (hNC : N ≤ C) (hCm : C ≤ maxLen)
    (hby : 0 < N → ∃ b o, bp = some ⟨b, o, none⟩ ∧ b < w.heap.size ∧ ∀ j, j < N → w.cell? ⟨b, o + j, none⟩ = some (.int .i64 (Z j))) (hZ : ∀ j, j < N → -9223372036854775808 ≤ Z j ∧ Z j ≤ 9223372036854775807) :
    Calls Try.prog 4 #[v, .slice bp N C] w fun e w' => e = .returned (.bool true) ∧ Nx w w' := by
  obtain ⟨p, cap, rfl, hn, hm⟩ := h.form
  have HV := hide (fun x (hx : Nx w x) => h.below hx)
  clear h
  have HBY := hide hby
  have HZ := hide hZ
  clear hby hZ
  go_enter Try.func4, Try.ntmps4
  go_wp2_with fail
  refine (awake_any w).mono ?_
  rintro e w0 ⟨rfl, hb⟩
  have B_0 := hide hb
  have V_0 := hide (HV.out w0 hb)
  clear hb
  go_wp2_with fail
  cases hg : good L with
  | false =>
    refine (new_no V_0.out (by rw [hg]; decide)).mono ?_
    rintro e w1 ⟨rfl, hb⟩
    have B_1 := hide (Nx.trans B_0.out hb)
    have B_2 := hide (Nx.trans B_1.out (Nx.alloc w1 (.cells #[.int .i64 0, .slice none 0 0, .int .i64 0, .int .i64 0] 28)))
    clear hb B_0 B_1 V_0
    go_wp2
    go_ret
    exact ⟨rfl, B_2.out⟩
  | true =>
    have hl8 := (good_len hg).2
    have hl : L.length ≤ 1000 := by omega
    have HW0 := hide (Pm.Way.new (num := 1) (by omega) hg)
    have E0 := hide (left_new (num := 1) (by omega) hg)
    have hTb := jleft_bound (j := ⟨1, L, 0, 0⟩)
    have HG := hide hg
    clear hg
    rw [E0.out] at hTb
    obtain ⟨T, hT⟩ : ∃ T, total L = T := ⟨_, rfl⟩
    rw [hT] at E0 hTb
    obtain ⟨hT0, hT1⟩ := hTb
    have ET := hide hT
    clear hT
    refine (new_ok V_0.out (by omega) HG.out).mono ?_
    rintro e w1 ⟨x, rfl, HR⟩
    obtain ⟨pn, cn, rfl, HS⟩ := HR.parts
    have hs2 := HS.out.2
    have B_1 := hide (Nx.trans B_0.out (hs2))
    clear B_0
    have RN := hide HS.out.1
    clear HS HR hs2
    clear V_0
    have bKj := hide B_1.out.size
    have KN := hide (JB.new (j := ⟨1, L, 0, 0⟩) RN.out)
    have NN := hide (Nx.alloc w1 (.cells #[.int .i64 1, .slice pn L.length cn, .int .i64 0, .int .i64 0] 28))
    clear RN
    go_upto_region 4 with fail
    have B_2 := hide (Nx.trans B_1.out (NN.out))
    clear B_1
    generalize hw : w1.alloc (.cells #[.int .i64 1, .slice pn L.length cn, .int .i64 0, .int .i64 0] 28) = w2 at *
    have Kj_2 := KN
    clear KN NN hw
    generalize w1.heap.size = gKj at *
    have Kj_2 : Hid (JB w2 gKj ⟨1, L, 0, 0⟩) := Kj_2
    by_cases d0 : N = 0
    · subst d0
      go_wp2
      go_ret
      exact ⟨rfl, B_2.out⟩
    by_cases d1 : 50 < N
    · have d1i : 50 < (N : Int) := by omega
      have d1j : ((N : Int) == 0) = false := by simp; omega
      go_wp2
      go_ret
      exact ⟨rfl, B_2.out⟩
    have hN0 : 0 < N := by omega
    have hN1 : ((N : Int) == 0) = false := by simp; omega
    have hN2 : ¬ 50 < (N : Int) := by omega
    have hN3 : (N : Int) ≤ 50 := by omega
    have hN4 : ¬ (N : Int) = 0 := by omega
    go_upto_region 6 with fail
    obtain ⟨px, cx, hx, sx⟩ := Kj_2.out.row
    obtain ⟨x0, x1, x2, x3⟩ := row_cells hx
    have Sx := hide sx
    clear hx sx
    go_wp2_with fail
    refine (jleft_any Sx.out).mono ?_
    rintro e w3 ⟨rfl, hs2⟩
    rw [E0.out]
    clear x0 x1 x2 x3 Sx
    have Kj_3 := hide (Kj_2.out.below (hs2))
    have B_3 := hide (Nx.trans B_2.out (hs2))
    clear B_2 Kj_2
    clear hs2
    go_wp2
    go_loopw [7, 9] (fun al i wr => ∃ (k : Nat) (av a d lf : Int), al = .int .i64 av ∧ i = .int .i64 k ∧ Hid (Pm.Way ⟨1, L, a, d⟩) ∧ Hid (jleft ⟨1, L, a, d⟩ = lf) ∧ Hid (av = T - lf) ∧ Hid ((k : Int) ≤ a + 200) ∧ Hid (JB wr gKj ⟨1, L, a, d⟩) ∧ Hid (Nx w wr)) (fun _ i _ => 400 - (intOf i).toNat)
    case atStart => exact ⟨0, 0, 0, 0, T, rfl, rfl, HW0, E0, hide (by omega), hide (by omega), Kj_3, B_3⟩
    case round =>
      clear Kj_3 B_3
      obtain ⟨k, av, a, d, lf, rfl, rfl, HW, HLF, HAV, HK, Kj_0, B_0⟩ := hrel
      obtain ⟨w0, hw0⟩ : ∃ x, x = wr := ⟨_, rfl⟩
      subst hw0
      obtain ⟨⟨ha0, ha1, _⟩, hd0, hd1⟩ := way_bound HW.out
      have hlb := jleft_bound (j := ⟨1, L, a, d⟩)
      rw [HLF.out] at hlb
      obtain ⟨hlf0, hlf1⟩ := hlb
      have hk2 : (k : Int) ≤ 208 := by have := HK.out; omega
      have hk1 : (k : Int) < 400 := by omega
      obtain ⟨px, cx, hx, sx⟩ := Kj_0.out.row
      obtain ⟨x0, x1, x2, x3⟩ := row_cells hx
      have Sx := hide sx
      clear hx sx
      go_wp2_with fail
      refine (jleft_any Sx.out).mono ?_
      rintro e w1 ⟨rfl, hs2⟩
      rw [HLF.out]
      clear x0 x1 x2 x3 Sx
      have Kj_1 := hide (Kj_0.out.below (hs2))
      have B_1 := hide (Nx.trans B_0.out (hs2))
      clear B_0 Kj_0
      clear hs2
      by_cases hpos : 0 < lf
      · have hmod : k % N < N := Nat.mod_lt _ hN0
        have htm : (k : Int).tmod (N : Int) = ((k % N : Nat) : Int) := rfl
        obtain ⟨b, o, hbp, hbl, hbc⟩ := HBY.out hN0
        have hcell : w1.cell? ⟨b, o + k % N, none⟩ = some (.int .i64 (Z (k % N))) := (B_1.out.cell (p := ⟨b, o + k % N, none⟩) hbl).trans (hbc _ hmod)
        obtain ⟨hz0, hz1⟩ := HZ.out _ hmod
        clear hbc
        subst hbp
        have hm1 : ((k % N : Nat) : Int) < (N : Int) := by omega
        have wtm : IntKind.i64.wrap ((k % N : Nat) : Int) = ((k % N : Nat) : Int) := by rw [IntKind.wrap_i64]; omega
        generalize k % N = m at *
        generalize Z m = n at *
        go_upto_region 11 with fail
        clear hcell htm wtm hm1 hmod
        by_cases hn1 : n < 1
        · skip
          obtain ⟨r, d1, a2, d2, f, ⟨hr0, hr1, hr2⟩, E1, E2, E3, E4, E5, E6, HW2, ha2, hbig, hf⟩ := ends_step (n := 2147483648) HW.out (by rw [HLF.out]; exact hpos) (by omega)
          rw [HLF.out] at E5 E6 hr2
          have E1 := hide E1
          have E2 := hide E2
          have E3 := hide E3
          have E4 := hide E4
          have E5 := hide E5
          have E6 := hide E6
          have HW2 := hide HW2
          have HF := hide hf
          have HK2 : Hid (((k + 1 : Nat) : Int) ≤ a2 + 200) := hide (by
            have := hbig (by omega); have := HK.out; omega)
          clear hbig hf
          go_upto_region 13 with fail
          obtain ⟨px, cx, hx, sx⟩ := Kj_1.out.row
          obtain ⟨x0, x1, x2, x3⟩ := row_cells hx
          have Sx := hide sx
          clear hx sx
          go_wp2_with fail
          refine (run_any Sx.out hl (by omega) (by omega)).mono ?_
          rintro e w2 ⟨x, rfl, HR⟩
          rw [E1.out]
          rw [E2.out] at HR
          obtain ⟨pn, cn, rfl, HS⟩ := HR.parts
          have hs2 := HS.out.2
          clear x0 x1 x2 x3 Sx
          have Kj_2 := hide (Kj_1.out.below (hs2))
          have B_2 := hide (Nx.trans B_1.out (hs2))
          clear B_1 Kj_1
          have RN := hide HS.out.1
          clear HS HR hs2
          have bKk := hide B_2.out.size
          have neKjKk : Hid (gKj ≠ w2.heap.size) := hide (Nat.ne_of_lt Kj_2.out.lt)
          have KN := hide (JB.new (j := ⟨1, L, a, d1⟩) RN.out)
          have NN := hide (Nx.alloc w2 (.cells #[.int .i64 1, .slice pn L.length cn, .int .i64 a, .int .i64 d1] 28))
          clear RN
          go_upto_region 14 with fail
          have Kj_3 := hide (Kj_2.out.below (NN.out))
          have B_3 := hide (Nx.trans B_2.out (NN.out))
          clear B_2 Kj_2
          generalize hw : w2.alloc (.cells #[.int .i64 1, .slice pn L.length cn, .int .i64 a, .int .i64 d1] 28) = w3 at *
          have Kk_3 := KN
          clear KN NN hw
          generalize w2.heap.size = gKk at *
          have Kk_3 : Hid (JB w3 gKk ⟨1, L, a, d1⟩) := Kk_3
          obtain ⟨pj, cj, hj, sj⟩ := Kj_3.out.row
          obtain ⟨pk, ck, hk, sk⟩ := Kk_3.out.row
          have n0 : Hid (Nx w3 w3.drew) := hide (bel_drew (Below.refl _ _))
          have SS : Hid (∀ x, Nx w3 x → ∃ p : Regrown, x = Sort.grow (redrawn w3 p.d) p.os) := hide (fun x hx => regrown_of_below hx)
          have C1 : Hid (∀ x, Nx w3 x → Calls Try.prog 14 #[jv 1 (.slice pk L.length ck) a d1] x fun e w' => e = .returned (.int .i64 (lf - r)) ∧ Nx x w') := hide (fun x hx => by have := jleft_any (num := 1) (a := a) (d := d1) (sk.below hx); rw [E5.out] at this; exact this)
          have C2 : Hid (∀ x, Nx w3 x → Calls Try.prog 14 #[jv 1 (.slice pj L.length cj) a d] x fun e w' => e = .returned (.int .i64 lf) ∧ Nx x w') := hide (fun x hx => by have := jleft_any (num := 1) (a := a) (d := d) (sj.below hx); rw [HLF.out] at this; exact this)
          have f0 := fun d os => (row_cells (row_kept (below_regrown w3 d os) hk)).1
          have f1 := fun d os => (row_cells (row_kept (below_regrown w3 d os) hk)).2.1
          have f2 := fun d os => (row_cells (row_kept (below_regrown w3 d os) hk)).2.2.1
          have f3 := fun d os => (row_cells (row_kept (below_regrown w3 d os) hk)).2.2.2
          have g0 := fun d os => (row_cells (row_kept (below_regrown w3 d os) hj)).1
          have g1 := fun d os => (row_cells (row_kept (below_regrown w3 d os) hj)).2.1
          have g2 := fun d os => (row_cells (row_kept (below_regrown w3 d os) hj)).2.2.1
          have g3 := fun d os => (row_cells (row_kept (below_regrown w3 d os) hj)).2.2.2
          have q1 : decide (r < 0) = false := decide_eq_false (by omega)
          have q2 : decide (2147483648 < r) = false := decide_eq_false (by omega)
          have q3 : IntKind.i64.wrap (lf - r) = lf - r := by rw [IntKind.wrap_i64]; omega
          clear hj hk sj sk
          refine wp_region_noPanic ?_
          refine wp_region_held_drew (S := fun x => ∃ p : Regrown, x = Sort.grow (redrawn w3 p.d) p.os) (by as_aux_lemma => kernel_rfl) (SS.out _ n0.out) (fun hHeld => ?_)
          clear hHeld
          refine Seg.seg 0 9 7 #[true, true, true, true, true, true, true, true, true, false, false, false, false, false, false, false] (by as_aux_lemma => kernel_rfl) (fun _ _ _ _ _ h => h) (SS.out _ n0.out) (by as_aux_lemma => kernel_rfl) (by kernel_rfl) (by kernel_rfl) ?_
          simp only [List.drop_succ_cons, List.drop_zero, List.take_succ_cons, List.take_zero]
          iterate 9 (go_big_quiet_step (fail))
          refine wpQuiet_nil ?_
          refine Seg.seg 10 1 6 #[true, true, true, true, true, true, true, true, true, false, true, false, false, false, false, false] (by as_aux_lemma => kernel_rfl) (fun _ _ _ _ _ h => h) (SS.out _ n0.out) (by as_aux_lemma => kernel_rfl) (by kernel_rfl) (by kernel_rfl) ?_
          simp only [List.drop_succ_cons, List.drop_zero, List.take_succ_cons, List.take_zero]
          iterate 1 (go_big_quiet_step (fail))
          refine wpQuiet_nil ?_
          refine Seg.seg 12 1 5 #[true, true, true, true, true, true, true, true, true, false, true, false, true, false, false, false] (by as_aux_lemma => kernel_rfl) (fun _ _ _ _ _ h => h) (SS.out _ n0.out) (by as_aux_lemma => kernel_rfl) (by kernel_rfl) (by kernel_rfl) ?_
          simp only [List.drop_succ_cons, List.drop_zero, List.take_succ_cons, List.take_zero]
          iterate 1 (go_big_quiet_step (fail))
          refine wpQuiet_nil ?_
          as_aux_lemma =>
            refine wpAnyH_ready (rs := [9]) (by as_aux_lemma => kernel_rfl) (by simp) ?_
            refine AllReadyH.cons rfl (fun K hK => ?_) AllReadyH.nil
            go_simp
            refine (C1.out _ n0.out).mono ?_
            rintro e y1 ⟨rfl, hb⟩
            have n1 := hide (Nx.trans n0.out hb)
            clear hb
            refine hK.out _ _ (SS.out _ n1.out) (fun hHeld => ?_)
            clear hK K hHeld
            (try simp only [Act.put, List.setIfInBounds_toArray, List.set_cons_zero, List.set_cons_succ])
            refine wpAnyH_ready (rs := [11]) (by as_aux_lemma => kernel_rfl) (by simp) ?_
            refine AllReadyH.cons rfl (fun K hK => ?_) AllReadyH.nil
            go_simp
            refine (C2.out _ n1.out).mono ?_
            rintro e w4 ⟨rfl, hb⟩
            have n2 := hide (Nx.trans n1.out hb)
            clear hb
            refine hK.out _ _ (SS.out _ n2.out) (fun hHeld => ?_)
            clear hK K hHeld
            (try simp only [Act.put, List.setIfInBounds_toArray, List.set_cons_zero, List.set_cons_succ])
            as_aux_lemma =>
              refine Seg.seg 13 3 0 #[true, true, true, true, true, true, true, true, true, true, true, true, true, true, true, true] (by as_aux_lemma => kernel_rfl) (fun _ _ _ _ _ h => h) (SS.out _ n2.out) (by as_aux_lemma => kernel_rfl) (by kernel_rfl) (by kernel_rfl) ?_
              simp only [List.drop_succ_cons, List.drop_zero, List.take_succ_cons, List.take_zero]
              iterate 3 (go_big_quiet_step (fail))
              refine wpQuiet_nil ?_
              refine wpAnyH_done (by as_aux_lemma => kernel_rfl) ?_ _
              refine NoPanic.normal ?_
              clear f0 f1 f2 f3 g0 g1 g2 g3 C1 C2 SS n0 n1
              have Kj_4 := hide (Kj_3.out.below (n2.out))
              have Kk_4 := hide (Kk_3.out.below (n2.out))
              have B_4 := hide (Nx.trans B_3.out (n2.out))
              clear B_3 Kj_3 Kk_3
              have wal : IntKind.i64.wrap (av + r) = T - (lf - r) := by have := HAV.out; rw [IntKind.wrap_i64]; omega
              obtain ⟨av2, hav2⟩ : ∃ x, T - (lf - r) = x := ⟨_, rfl⟩
              rw [hav2] at wal
              have HA2 := hide hav2
              clear hav2
              go_upto_region 17 with fail
              obtain ⟨px, cx, hx, sx⟩ := Kk_4.out.row
              obtain ⟨x0, x1, x2, x3⟩ := row_cells hx
              have Sx := hide sx
              clear hx sx
              go_wp2_with fail
              refine (next_any Sx.out hl).mono ?_
              rintro e w5 ⟨x, rfl, HR⟩
              rw [E3.out]
              rw [E4.out] at HR
              obtain ⟨pn, cn, rfl, HS⟩ := HR.parts
              have hs2 := HS.out.2
              clear x0 x1 x2 x3 Sx
              have Kj_5 := hide (Kj_4.out.below (hs2))
              have Kk_5 := hide (Kk_4.out.below (hs2))
              have B_5 := hide (Nx.trans B_4.out (hs2))
              clear B_4 Kj_4 Kk_4
              have RN := hide HS.out.1
              clear HS HR hs2
              have bKn := hide B_5.out.size
              have neKjKn : Hid (gKj ≠ w5.heap.size) := hide (Nat.ne_of_lt Kj_5.out.lt)
              have neKkKn : Hid (gKk ≠ w5.heap.size) := hide (Nat.ne_of_lt Kk_5.out.lt)
              have KN := hide (JB.new (j := ⟨1, L, a2, d2⟩) RN.out)
              have NN := hide (Nx.alloc w5 (.cells #[.int .i64 1, .slice pn L.length cn, .int .i64 a2, .int .i64 d2] 28))
              clear RN
              go_upto_region 18 with fail
              have Kj_6 := hide (Kj_5.out.below (NN.out))
              have Kk_6 := hide (Kk_5.out.below (NN.out))
              have B_6 := hide (Nx.trans B_5.out (NN.out))
              clear B_5 Kj_5 Kk_5
              generalize hw : w5.alloc (.cells #[.int .i64 1, .slice pn L.length cn, .int .i64 a2, .int .i64 d2] 28) = w6 at *
              have Kn_6 := KN
              clear KN NN hw
              generalize w5.heap.size = gKn at *
              have Kn_6 : Hid (JB w6 gKn ⟨1, L, a2, d2⟩) := Kn_6
              cases f with
              | true =>
                go_upto_region 19 with fail
                obtain ⟨pn, cn, hn0, hz0⟩ := Kn_6.out.rz
                obtain ⟨x0, x1, x2, x3⟩ := row_cells hn0
                have RN := hide hz0
                clear hn0 hz0
                clear Kn_6
                obtain ⟨pc, cc, hc, sc⟩ := Kk_6.out.row
                obtain ⟨c0, c1, c2, c3⟩ := row_cells hc
                have zc0 := row_free hc 0
                have zc1 := row_free hc 1
                have zc2 := row_free hc 2
                have zc3 := row_free hc 3
                have Hc := hide hc
                clear hc sc
                have PU := hide (put4 Hc.out (.int .i64 1) (.slice pn L.length cn) (.int .i64 a2) (.int .i64 d2))
                go_upto_region 20 with fail
                have Kk_7 := hide (JB.put (j' := ⟨1, L, a2, d2⟩) Kk_6.out RN.out PU.out)
                have Kj_7 := hide (JB.other Kj_6.out Kk_6.out neKjKk.out PU.out)
                have B_7 := hide (PU.out.below B_6.out bKk.out)
                clear RN B_6 Kj_6 Kk_6
                clear x0 x1 x2 x3 c0 c1 c2 c3 zc0 zc1 zc2 zc3 Hc
                clear PU
                generalize ((((w6.setCell ⟨gKk, 0, none⟩ (.int .i64 1)).setCell ⟨gKk, 1, none⟩ (.slice pn L.length cn)).setCell ⟨gKk, 2, none⟩ (.int .i64 a2)).setCell ⟨gKk, 3, none⟩ (.int .i64 d2)) = w7 at *
                as_aux_lemma =>
                  obtain ⟨pn, cn, hn0, hz0⟩ := Kk_7.out.rz
                  obtain ⟨x0, x1, x2, x3⟩ := row_cells hn0
                  have RN := hide hz0
                  clear hn0 hz0
                  clear Kk_7
                  obtain ⟨pc, cc, hc, sc⟩ := Kj_7.out.row
                  obtain ⟨c0, c1, c2, c3⟩ := row_cells hc
                  have zc0 := row_free hc 0
                  have zc1 := row_free hc 1
                  have zc2 := row_free hc 2
                  have zc3 := row_free hc 3
                  have Hc := hide hc
                  clear hc sc
                  have PU := hide (put4 Hc.out (.int .i64 1) (.slice pn L.length cn) (.int .i64 a2) (.int .i64 d2))
                  go_upto_region 9 with fail
                  have Kj_8 := hide (JB.put (j' := ⟨1, L, a2, d2⟩) Kj_7.out RN.out PU.out)
                  have B_8 := hide (PU.out.below B_7.out bKj.out)
                  clear RN B_7 Kj_7
                  clear x0 x1 x2 x3 c0 c1 c2 c3 zc0 zc1 zc2 zc3 Hc
                  clear PU
                  generalize ((((w7.setCell ⟨gKj, 0, none⟩ (.int .i64 1)).setCell ⟨gKj, 1, none⟩ (.slice pn L.length cn)).setCell ⟨gKj, 2, none⟩ (.int .i64 a2)).setCell ⟨gKj, 3, none⟩ (.int .i64 d2)) = w8 at *
                  go_wp2
                  go_roundw
                  case rel => exact ⟨k + 1, av2, a2, d2, lf - r, rfl, by go_num, HW2, E6, hide HA2.out.symm, HK2, Kj_8, B_8⟩
                  case measure => simp [intOf]; omega
              | false =>
                obtain ⟨rfl, rfl⟩ := HF.out rfl
                go_upto_region 20 with fail
                clear Kn_6
                obtain ⟨pn, cn, hn0, hz0⟩ := Kk_6.out.rz
                obtain ⟨x0, x1, x2, x3⟩ := row_cells hn0
                have RN := hide hz0
                clear hn0 hz0
                clear Kk_6
                obtain ⟨pc, cc, hc, sc⟩ := Kj_6.out.row
                obtain ⟨c0, c1, c2, c3⟩ := row_cells hc
                have zc0 := row_free hc 0
                have zc1 := row_free hc 1
                have zc2 := row_free hc 2
                have zc3 := row_free hc 3
                have Hc := hide hc
                clear hc sc
                have PU := hide (put4 Hc.out (.int .i64 1) (.slice pn L.length cn) (.int .i64 a2) (.int .i64 d2))
                go_upto_region 9 with fail
                have Kj_7 := hide (JB.put (j' := ⟨1, L, a2, d2⟩) Kj_6.out RN.out PU.out)
                have B_7 := hide (PU.out.below B_6.out bKj.out)
                clear RN B_6 Kj_6
                clear x0 x1 x2 x3 c0 c1 c2 c3 zc0 zc1 zc2 zc3 Hc
                clear PU
                generalize ((((w6.setCell ⟨gKj, 0, none⟩ (.int .i64 1)).setCell ⟨gKj, 1, none⟩ (.slice pn L.length cn)).setCell ⟨gKj, 2, none⟩ (.int .i64 a2)).setCell ⟨gKj, 3, none⟩ (.int .i64 d2)) = w7 at *
                go_wp2
                go_roundw
                case rel => exact ⟨k + 1, av2, a2, d2, lf - r, rfl, by go_num, HW2, E6, hide HA2.out.symm, HK2, Kj_7, B_7⟩
                case measure => simp [intOf]; omega
        by_cases hk200 : 200 ≤ (k : Int)
        · skip
          obtain ⟨r, d1, a2, d2, f, ⟨hr0, hr1, hr2⟩, E1, E2, E3, E4, E5, E6, HW2, ha2, hbig, hf⟩ := ends_step (n := 2147483648) HW.out (by rw [HLF.out]; exact hpos) (by omega)
          rw [HLF.out] at E5 E6 hr2
          have E1 := hide E1
          have E2 := hide E2
          have E3 := hide E3
          have E4 := hide E4
          have E5 := hide E5
          have E6 := hide E6
          have HW2 := hide HW2
          have HF := hide hf
          have HK2 : Hid (((k + 1 : Nat) : Int) ≤ a2 + 200) := hide (by
            have := hbig (by omega); have := HK.out; omega)
          clear hbig hf
          go_upto_region 13 with fail
          obtain ⟨px, cx, hx, sx⟩ := Kj_1.out.row
          obtain ⟨x0, x1, x2, x3⟩ := row_cells hx
          have Sx := hide sx
          clear hx sx
          go_wp2_with fail
          refine (run_any Sx.out hl (by omega) (by omega)).mono ?_
          rintro e w2 ⟨x, rfl, HR⟩
          rw [E1.out]
          rw [E2.out] at HR
          obtain ⟨pn, cn, rfl, HS⟩ := HR.parts
          have hs2 := HS.out.2
          clear x0 x1 x2 x3 Sx
          have Kj_2 := hide (Kj_1.out.below (hs2))
          have B_2 := hide (Nx.trans B_1.out (hs2))
          clear B_1 Kj_1
          have RN := hide HS.out.1
          clear HS HR hs2
          have bKk := hide B_2.out.size
          have neKjKk : Hid (gKj ≠ w2.heap.size) := hide (Nat.ne_of_lt Kj_2.out.lt)
          have KN := hide (JB.new (j := ⟨1, L, a, d1⟩) RN.out)
          have NN := hide (Nx.alloc w2 (.cells #[.int .i64 1, .slice pn L.length cn, .int .i64 a, .int .i64 d1] 28))
          clear RN
          go_upto_region 14 with fail
          have Kj_3 := hide (Kj_2.out.below (NN.out))
          have B_3 := hide (Nx.trans B_2.out (NN.out))
          clear B_2 Kj_2
          generalize hw : w2.alloc (.cells #[.int .i64 1, .slice pn L.length cn, .int .i64 a, .int .i64 d1] 28) = w3 at *
          have Kk_3 := KN
          clear KN NN hw
          generalize w2.heap.size = gKk at *
          have Kk_3 : Hid (JB w3 gKk ⟨1, L, a, d1⟩) := Kk_3
          obtain ⟨pj, cj, hj, sj⟩ := Kj_3.out.row
          obtain ⟨pk, ck, hk, sk⟩ := Kk_3.out.row
          have n0 : Hid (Nx w3 w3.drew) := hide (bel_drew (Below.refl _ _))
          have SS : Hid (∀ x, Nx w3 x → ∃ p : Regrown, x = Sort.grow (redrawn w3 p.d) p.os) := hide (fun x hx => regrown_of_below hx)
          have C1 : Hid (∀ x, Nx w3 x → Calls Try.prog 14 #[jv 1 (.slice pk L.length ck) a d1] x fun e w' => e = .returned (.int .i64 (lf - r)) ∧ Nx x w') := hide (fun x hx => by have := jleft_any (num := 1) (a := a) (d := d1) (sk.below hx); rw [E5.out] at this; exact this)
          have C2 : Hid (∀ x, Nx w3 x → Calls Try.prog 14 #[jv 1 (.slice pj L.length cj) a d] x fun e w' => e = .returned (.int .i64 lf) ∧ Nx x w') := hide (fun x hx => by have := jleft_any (num := 1) (a := a) (d := d) (sj.below hx); rw [HLF.out] at this; exact this)
          have f0 := fun d os => (row_cells (row_kept (below_regrown w3 d os) hk)).1
          have f1 := fun d os => (row_cells (row_kept (below_regrown w3 d os) hk)).2.1
          have f2 := fun d os => (row_cells (row_kept (below_regrown w3 d os) hk)).2.2.1
          have f3 := fun d os => (row_cells (row_kept (below_regrown w3 d os) hk)).2.2.2
          have g0 := fun d os => (row_cells (row_kept (below_regrown w3 d os) hj)).1
          have g1 := fun d os => (row_cells (row_kept (below_regrown w3 d os) hj)).2.1
          have g2 := fun d os => (row_cells (row_kept (below_regrown w3 d os) hj)).2.2.1
          have g3 := fun d os => (row_cells (row_kept (below_regrown w3 d os) hj)).2.2.2
          have q1 : decide (r < 0) = false := decide_eq_false (by omega)
          have q2 : decide (2147483648 < r) = false := decide_eq_false (by omega)
          have q3 : IntKind.i64.wrap (lf - r) = lf - r := by rw [IntKind.wrap_i64]; omega
          clear hj hk sj sk
          refine wp_region_noPanic ?_
          refine wp_region_held_drew (S := fun x => ∃ p : Regrown, x = Sort.grow (redrawn w3 p.d) p.os) (by as_aux_lemma => kernel_rfl) (SS.out _ n0.out) (fun hHeld => ?_)
          clear hHeld
          refine Seg.seg 0 9 7 #[true, true, true, true, true, true, true, true, true, false, false, false, false, false, false, false] (by as_aux_lemma => kernel_rfl) (fun _ _ _ _ _ h => h) (SS.out _ n0.out) (by as_aux_lemma => kernel_rfl) (by kernel_rfl) (by kernel_rfl) ?_
          simp only [List.drop_succ_cons, List.drop_zero, List.take_succ_cons, List.take_zero]
          iterate 9 (go_big_quiet_step (fail))
          refine wpQuiet_nil ?_
          refine Seg.seg 10 1 6 #[true, true, true, true, true, true, true, true, true, false, true, false, false, false, false, false] (by as_aux_lemma => kernel_rfl) (fun _ _ _ _ _ h => h) (SS.out _ n0.out) (by as_aux_lemma => kernel_rfl) (by kernel_rfl) (by kernel_rfl) ?_
          simp only [List.drop_succ_cons, List.drop_zero, List.take_succ_cons, List.take_zero]
          iterate 1 (go_big_quiet_step (fail))
          refine wpQuiet_nil ?_
          refine Seg.seg 12 1 5 #[true, true, true, true, true, true, true, true, true, false, true, false, true, false, false, false] (by as_aux_lemma => kernel_rfl) (fun _ _ _ _ _ h => h) (SS.out _ n0.out) (by as_aux_lemma => kernel_rfl) (by kernel_rfl) (by kernel_rfl) ?_
          simp only [List.drop_succ_cons, List.drop_zero, List.take_succ_cons, List.take_zero]
          iterate 1 (go_big_quiet_step (fail))
          refine wpQuiet_nil ?_
          as_aux_lemma =>
            refine wpAnyH_ready (rs := [9]) (by as_aux_lemma => kernel_rfl) (by simp) ?_
            refine AllReadyH.cons rfl (fun K hK => ?_) AllReadyH.nil
            go_simp
            refine (C1.out _ n0.out).mono ?_
            rintro e y1 ⟨rfl, hb⟩
            have n1 := hide (Nx.trans n0.out hb)
            clear hb
            refine hK.out _ _ (SS.out _ n1.out) (fun hHeld => ?_)
            clear hK K hHeld
            (try simp only [Act.put, List.setIfInBounds_toArray, List.set_cons_zero, List.set_cons_succ])
            refine wpAnyH_ready (rs := [11]) (by as_aux_lemma => kernel_rfl) (by simp) ?_
            refine AllReadyH.cons rfl (fun K hK => ?_) AllReadyH.nil
            go_simp
            refine (C2.out _ n1.out).mono ?_
            rintro e w4 ⟨rfl, hb⟩
            have n2 := hide (Nx.trans n1.out hb)
            clear hb
            refine hK.out _ _ (SS.out _ n2.out) (fun hHeld => ?_)
            clear hK K hHeld
            (try simp only [Act.put, List.setIfInBounds_toArray, List.set_cons_zero, List.set_cons_succ])
            as_aux_lemma =>
              refine Seg.seg 13 3 0 #[true, true, true, true, true, true, true, true, true, true, true, true, true, true, true, true] (by as_aux_lemma => kernel_rfl) (fun _ _ _ _ _ h => h) (SS.out _ n2.out) (by as_aux_lemma => kernel_rfl) (by kernel_rfl) (by kernel_rfl) ?_
              simp only [List.drop_succ_cons, List.drop_zero, List.take_succ_cons, List.take_zero]
              iterate 3 (go_big_quiet_step (fail))
              refine wpQuiet_nil ?_
              refine wpAnyH_done (by as_aux_lemma => kernel_rfl) ?_ _
              refine NoPanic.normal ?_
              clear f0 f1 f2 f3 g0 g1 g2 g3 C1 C2 SS n0 n1
              have Kj_4 := hide (Kj_3.out.below (n2.out))
              have Kk_4 := hide (Kk_3.out.below (n2.out))
              have B_4 := hide (Nx.trans B_3.out (n2.out))
              clear B_3 Kj_3 Kk_3
              have wal : IntKind.i64.wrap (av + r) = T - (lf - r) := by have := HAV.out; rw [IntKind.wrap_i64]; omega
              obtain ⟨av2, hav2⟩ : ∃ x, T - (lf - r) = x := ⟨_, rfl⟩
              rw [hav2] at wal
              have HA2 := hide hav2
              clear hav2
              go_upto_region 17 with fail
              obtain ⟨px, cx, hx, sx⟩ := Kk_4.out.row
              obtain ⟨x0, x1, x2, x3⟩ := row_cells hx
              have Sx := hide sx
              clear hx sx
              go_wp2_with fail
              refine (next_any Sx.out hl).mono ?_
              rintro e w5 ⟨x, rfl, HR⟩
              rw [E3.out]
              rw [E4.out] at HR
              obtain ⟨pn, cn, rfl, HS⟩ := HR.parts
              have hs2 := HS.out.2
              clear x0 x1 x2 x3 Sx
              have Kj_5 := hide (Kj_4.out.below (hs2))
              have Kk_5 := hide (Kk_4.out.below (hs2))
              have B_5 := hide (Nx.trans B_4.out (hs2))
              clear B_4 Kj_4 Kk_4
              have RN := hide HS.out.1
              clear HS HR hs2
              have bKn := hide B_5.out.size
              have neKjKn : Hid (gKj ≠ w5.heap.size) := hide (Nat.ne_of_lt Kj_5.out.lt)
              have neKkKn : Hid (gKk ≠ w5.heap.size) := hide (Nat.ne_of_lt Kk_5.out.lt)
              have KN := hide (JB.new (j := ⟨1, L, a2, d2⟩) RN.out)
              have NN := hide (Nx.alloc w5 (.cells #[.int .i64 1, .slice pn L.length cn, .int .i64 a2, .int .i64 d2] 28))
              clear RN
              go_upto_region 18 with fail
              have Kj_6 := hide (Kj_5.out.below (NN.out))
              have Kk_6 := hide (Kk_5.out.below (NN.out))
              have B_6 := hide (Nx.trans B_5.out (NN.out))
              clear B_5 Kj_5 Kk_5
              generalize hw : w5.alloc (.cells #[.int .i64 1, .slice pn L.length cn, .int .i64 a2, .int .i64 d2] 28) = w6 at *
              have Kn_6 := KN
              clear KN NN hw
              generalize w5.heap.size = gKn at *
              have Kn_6 : Hid (JB w6 gKn ⟨1, L, a2, d2⟩) := Kn_6
              cases f with
              | true =>
                go_upto_region 19 with fail
                obtain ⟨pn, cn, hn0, hz0⟩ := Kn_6.out.rz
                obtain ⟨x0, x1, x2, x3⟩ := row_cells hn0
                have RN := hide hz0
                clear hn0 hz0
                clear Kn_6
                obtain ⟨pc, cc, hc, sc⟩ := Kk_6.out.row
                obtain ⟨c0, c1, c2, c3⟩ := row_cells hc
                have zc0 := row_free hc 0
                have zc1 := row_free hc 1
                have zc2 := row_free hc 2
                have zc3 := row_free hc 3
                have Hc := hide hc
                clear hc sc
                have PU := hide (put4 Hc.out (.int .i64 1) (.slice pn L.length cn) (.int .i64 a2) (.int .i64 d2))
                go_upto_region 20 with fail
                have Kk_7 := hide (JB.put (j' := ⟨1, L, a2, d2⟩) Kk_6.out RN.out PU.out)
                have Kj_7 := hide (JB.other Kj_6.out Kk_6.out neKjKk.out PU.out)
                have B_7 := hide (PU.out.below B_6.out bKk.out)
                clear RN B_6 Kj_6 Kk_6
                clear x0 x1 x2 x3 c0 c1 c2 c3 zc0 zc1 zc2 zc3 Hc
                clear PU
                generalize ((((w6.setCell ⟨gKk, 0, none⟩ (.int .i64 1)).setCell ⟨gKk, 1, none⟩ (.slice pn L.length cn)).setCell ⟨gKk, 2, none⟩ (.int .i64 a2)).setCell ⟨gKk, 3, none⟩ (.int .i64 d2)) = w7 at *
                as_aux_lemma =>
                  obtain ⟨pn, cn, hn0, hz0⟩ := Kk_7.out.rz
                  obtain ⟨x0, x1, x2, x3⟩ := row_cells hn0
                  have RN := hide hz0
                  clear hn0 hz0
                  clear Kk_7
                  obtain ⟨pc, cc, hc, sc⟩ := Kj_7.out.row
                  obtain ⟨c0, c1, c2, c3⟩ := row_cells hc
                  have zc0 := row_free hc 0
                  have zc1 := row_free hc 1
                  have zc2 := row_free hc 2
                  have zc3 := row_free hc 3
                  have Hc := hide hc
                  clear hc sc
                  have PU := hide (put4 Hc.out (.int .i64 1) (.slice pn L.length cn) (.int .i64 a2) (.int .i64 d2))
                  go_upto_region 9 with fail
                  have Kj_8 := hide (JB.put (j' := ⟨1, L, a2, d2⟩) Kj_7.out RN.out PU.out)
                  have B_8 := hide (PU.out.below B_7.out bKj.out)
                  clear RN B_7 Kj_7
                  clear x0 x1 x2 x3 c0 c1 c2 c3 zc0 zc1 zc2 zc3 Hc
                  clear PU
                  generalize ((((w7.setCell ⟨gKj, 0, none⟩ (.int .i64 1)).setCell ⟨gKj, 1, none⟩ (.slice pn L.length cn)).setCell ⟨gKj, 2, none⟩ (.int .i64 a2)).setCell ⟨gKj, 3, none⟩ (.int .i64 d2)) = w8 at *
                  go_wp2
                  go_roundw
                  case rel => exact ⟨k + 1, av2, a2, d2, lf - r, rfl, by go_num, HW2, E6, hide HA2.out.symm, HK2, Kj_8, B_8⟩
                  case measure => simp [intOf]; omega
              | false =>
                obtain ⟨rfl, rfl⟩ := HF.out rfl
                go_upto_region 20 with fail
                clear Kn_6
                obtain ⟨pn, cn, hn0, hz0⟩ := Kk_6.out.rz
                obtain ⟨x0, x1, x2, x3⟩ := row_cells hn0
                have RN := hide hz0
                clear hn0 hz0
                clear Kk_6
                obtain ⟨pc, cc, hc, sc⟩ := Kj_6.out.row
                obtain ⟨c0, c1, c2, c3⟩ := row_cells hc
                have zc0 := row_free hc 0
                have zc1 := row_free hc 1
                have zc2 := row_free hc 2
                have zc3 := row_free hc 3
                have Hc := hide hc
                clear hc sc
                have PU := hide (put4 Hc.out (.int .i64 1) (.slice pn L.length cn) (.int .i64 a2) (.int .i64 d2))
                go_upto_region 9 with fail
                have Kj_7 := hide (JB.put (j' := ⟨1, L, a2, d2⟩) Kj_6.out RN.out PU.out)
                have B_7 := hide (PU.out.below B_6.out bKj.out)
                clear RN B_6 Kj_6
                clear x0 x1 x2 x3 c0 c1 c2 c3 zc0 zc1 zc2 zc3 Hc
                clear PU
                generalize ((((w6.setCell ⟨gKj, 0, none⟩ (.int .i64 1)).setCell ⟨gKj, 1, none⟩ (.slice pn L.length cn)).setCell ⟨gKj, 2, none⟩ (.int .i64 a2)).setCell ⟨gKj, 3, none⟩ (.int .i64 d2)) = w7 at *
                go_wp2
                go_roundw
                case rel => exact ⟨k + 1, av2, a2, d2, lf - r, rfl, by go_num, HW2, E6, hide HA2.out.symm, HK2, Kj_7, B_7⟩
                case measure => simp [intOf]; omega
        · skip
          obtain ⟨r, d1, a2, d2, f, ⟨hr0, hr1, hr2⟩, E1, E2, E3, E4, E5, E6, HW2, ha2, hbig, hf⟩ := ends_step (n := n) HW.out (by rw [HLF.out]; exact hpos) (by omega)
          rw [HLF.out] at E5 E6 hr2
          have E1 := hide E1
          have E2 := hide E2
          have E3 := hide E3
          have E4 := hide E4
          have E5 := hide E5
          have E6 := hide E6
          have HW2 := hide HW2
          have HF := hide hf
          have HK2 : Hid (((k + 1 : Nat) : Int) ≤ a2 + 200) := hide (by
            omega)
          clear hbig hf
          go_upto_region 13 with fail
          obtain ⟨px, cx, hx, sx⟩ := Kj_1.out.row
          obtain ⟨x0, x1, x2, x3⟩ := row_cells hx
          have Sx := hide sx
          clear hx sx
          go_wp2_with fail
          refine (run_any Sx.out hl (by omega) (by omega)).mono ?_
          rintro e w2 ⟨x, rfl, HR⟩
          rw [E1.out]
          rw [E2.out] at HR
          obtain ⟨pn, cn, rfl, HS⟩ := HR.parts
          have hs2 := HS.out.2
          clear x0 x1 x2 x3 Sx
          have Kj_2 := hide (Kj_1.out.below (hs2))
          have B_2 := hide (Nx.trans B_1.out (hs2))
          clear B_1 Kj_1
          have RN := hide HS.out.1
          clear HS HR hs2
          have bKk := hide B_2.out.size
          have neKjKk : Hid (gKj ≠ w2.heap.size) := hide (Nat.ne_of_lt Kj_2.out.lt)
          have KN := hide (JB.new (j := ⟨1, L, a, d1⟩) RN.out)
          have NN := hide (Nx.alloc w2 (.cells #[.int .i64 1, .slice pn L.length cn, .int .i64 a, .int .i64 d1] 28))
          clear RN
          go_upto_region 14 with fail
          have Kj_3 := hide (Kj_2.out.below (NN.out))
          have B_3 := hide (Nx.trans B_2.out (NN.out))
          clear B_2 Kj_2
          generalize hw : w2.alloc (.cells #[.int .i64 1, .slice pn L.length cn, .int .i64 a, .int .i64 d1] 28) = w3 at *
          have Kk_3 := KN
          clear KN NN hw
          generalize w2.heap.size = gKk at *
          have Kk_3 : Hid (JB w3 gKk ⟨1, L, a, d1⟩) := Kk_3
          obtain ⟨pj, cj, hj, sj⟩ := Kj_3.out.row
          obtain ⟨pk, ck, hk, sk⟩ := Kk_3.out.row
          have n0 : Hid (Nx w3 w3.drew) := hide (bel_drew (Below.refl _ _))
          have SS : Hid (∀ x, Nx w3 x → ∃ p : Regrown, x = Sort.grow (redrawn w3 p.d) p.os) := hide (fun x hx => regrown_of_below hx)
          have C1 : Hid (∀ x, Nx w3 x → Calls Try.prog 14 #[jv 1 (.slice pk L.length ck) a d1] x fun e w' => e = .returned (.int .i64 (lf - r)) ∧ Nx x w') := hide (fun x hx => by have := jleft_any (num := 1) (a := a) (d := d1) (sk.below hx); rw [E5.out] at this; exact this)
          have C2 : Hid (∀ x, Nx w3 x → Calls Try.prog 14 #[jv 1 (.slice pj L.length cj) a d] x fun e w' => e = .returned (.int .i64 lf) ∧ Nx x w') := hide (fun x hx => by have := jleft_any (num := 1) (a := a) (d := d) (sj.below hx); rw [HLF.out] at this; exact this)
          have f0 := fun d os => (row_cells (row_kept (below_regrown w3 d os) hk)).1
          have f1 := fun d os => (row_cells (row_kept (below_regrown w3 d os) hk)).2.1
          have f2 := fun d os => (row_cells (row_kept (below_regrown w3 d os) hk)).2.2.1
          have f3 := fun d os => (row_cells (row_kept (below_regrown w3 d os) hk)).2.2.2
          have g0 := fun d os => (row_cells (row_kept (below_regrown w3 d os) hj)).1
          have g1 := fun d os => (row_cells (row_kept (below_regrown w3 d os) hj)).2.1
          have g2 := fun d os => (row_cells (row_kept (below_regrown w3 d os) hj)).2.2.1
          have g3 := fun d os => (row_cells (row_kept (below_regrown w3 d os) hj)).2.2.2
          have q1 : decide (r < 0) = false := decide_eq_false (by omega)
          have q2 : decide (n < r) = false := decide_eq_false (by omega)
          have q3 : IntKind.i64.wrap (lf - r) = lf - r := by rw [IntKind.wrap_i64]; omega
          clear hj hk sj sk
          refine wp_region_noPanic ?_
          refine wp_region_held_drew (S := fun x => ∃ p : Regrown, x = Sort.grow (redrawn w3 p.d) p.os) (by as_aux_lemma => kernel_rfl) (SS.out _ n0.out) (fun hHeld => ?_)
          clear hHeld
          refine Seg.seg 0 9 7 #[true, true, true, true, true, true, true, true, true, false, false, false, false, false, false, false] (by as_aux_lemma => kernel_rfl) (fun _ _ _ _ _ h => h) (SS.out _ n0.out) (by as_aux_lemma => kernel_rfl) (by kernel_rfl) (by kernel_rfl) ?_
          simp only [List.drop_succ_cons, List.drop_zero, List.take_succ_cons, List.take_zero]
          iterate 9 (go_big_quiet_step (fail))
          refine wpQuiet_nil ?_
          refine Seg.seg 10 1 6 #[true, true, true, true, true, true, true, true, true, false, true, false, false, false, false, false] (by as_aux_lemma => kernel_rfl) (fun _ _ _ _ _ h => h) (SS.out _ n0.out) (by as_aux_lemma => kernel_rfl) (by kernel_rfl) (by kernel_rfl) ?_
          simp only [List.drop_succ_cons, List.drop_zero, List.take_succ_cons, List.take_zero]
          iterate 1 (go_big_quiet_step (fail))
          refine wpQuiet_nil ?_
          refine Seg.seg 12 1 5 #[true, true, true, true, true, true, true, true, true, false, true, false, true, false, false, false] (by as_aux_lemma => kernel_rfl) (fun _ _ _ _ _ h => h) (SS.out _ n0.out) (by as_aux_lemma => kernel_rfl) (by kernel_rfl) (by kernel_rfl) ?_
          simp only [List.drop_succ_cons, List.drop_zero, List.take_succ_cons, List.take_zero]
          iterate 1 (go_big_quiet_step (fail))
          refine wpQuiet_nil ?_
          as_aux_lemma =>
            refine wpAnyH_ready (rs := [9]) (by as_aux_lemma => kernel_rfl) (by simp) ?_
            refine AllReadyH.cons rfl (fun K hK => ?_) AllReadyH.nil
            go_simp
            refine (C1.out _ n0.out).mono ?_
            rintro e y1 ⟨rfl, hb⟩
            have n1 := hide (Nx.trans n0.out hb)
            clear hb
            refine hK.out _ _ (SS.out _ n1.out) (fun hHeld => ?_)
            clear hK K hHeld
            (try simp only [Act.put, List.setIfInBounds_toArray, List.set_cons_zero, List.set_cons_succ])
            refine wpAnyH_ready (rs := [11]) (by as_aux_lemma => kernel_rfl) (by simp) ?_
            refine AllReadyH.cons rfl (fun K hK => ?_) AllReadyH.nil
            go_simp
            refine (C2.out _ n1.out).mono ?_
            rintro e w4 ⟨rfl, hb⟩
            have n2 := hide (Nx.trans n1.out hb)
            clear hb
            refine hK.out _ _ (SS.out _ n2.out) (fun hHeld => ?_)
            clear hK K hHeld
            (try simp only [Act.put, List.setIfInBounds_toArray, List.set_cons_zero, List.set_cons_succ])
            as_aux_lemma =>
              refine Seg.seg 13 3 0 #[true, true, true, true, true, true, true, true, true, true, true, true, true, true, true, true] (by as_aux_lemma => kernel_rfl) (fun _ _ _ _ _ h => h) (SS.out _ n2.out) (by as_aux_lemma => kernel_rfl) (by kernel_rfl) (by kernel_rfl) ?_
              simp only [List.drop_succ_cons, List.drop_zero, List.take_succ_cons, List.take_zero]
              iterate 3 (go_big_quiet_step (fail))
              refine wpQuiet_nil ?_
              refine wpAnyH_done (by as_aux_lemma => kernel_rfl) ?_ _
              refine NoPanic.normal ?_
              clear f0 f1 f2 f3 g0 g1 g2 g3 C1 C2 SS n0 n1
              have Kj_4 := hide (Kj_3.out.below (n2.out))
              have Kk_4 := hide (Kk_3.out.below (n2.out))
              have B_4 := hide (Nx.trans B_3.out (n2.out))
              clear B_3 Kj_3 Kk_3
              have wal : IntKind.i64.wrap (av + r) = T - (lf - r) := by have := HAV.out; rw [IntKind.wrap_i64]; omega
              obtain ⟨av2, hav2⟩ : ∃ x, T - (lf - r) = x := ⟨_, rfl⟩
              rw [hav2] at wal
              have HA2 := hide hav2
              clear hav2
              go_upto_region 17 with fail
              obtain ⟨px, cx, hx, sx⟩ := Kk_4.out.row
              obtain ⟨x0, x1, x2, x3⟩ := row_cells hx
              have Sx := hide sx
              clear hx sx
              go_wp2_with fail
              refine (next_any Sx.out hl).mono ?_
              rintro e w5 ⟨x, rfl, HR⟩
              rw [E3.out]
              rw [E4.out] at HR
              obtain ⟨pn, cn, rfl, HS⟩ := HR.parts
              have hs2 := HS.out.2
              clear x0 x1 x2 x3 Sx
              have Kj_5 := hide (Kj_4.out.below (hs2))
              have Kk_5 := hide (Kk_4.out.below (hs2))
              have B_5 := hide (Nx.trans B_4.out (hs2))
              clear B_4 Kj_4 Kk_4
              have RN := hide HS.out.1
              clear HS HR hs2
              have bKn := hide B_5.out.size
              have neKjKn : Hid (gKj ≠ w5.heap.size) := hide (Nat.ne_of_lt Kj_5.out.lt)
              have neKkKn : Hid (gKk ≠ w5.heap.size) := hide (Nat.ne_of_lt Kk_5.out.lt)
              have KN := hide (JB.new (j := ⟨1, L, a2, d2⟩) RN.out)
              have NN := hide (Nx.alloc w5 (.cells #[.int .i64 1, .slice pn L.length cn, .int .i64 a2, .int .i64 d2] 28))
              clear RN
              go_upto_region 18 with fail
              have Kj_6 := hide (Kj_5.out.below (NN.out))
              have Kk_6 := hide (Kk_5.out.below (NN.out))
              have B_6 := hide (Nx.trans B_5.out (NN.out))
              clear B_5 Kj_5 Kk_5
              generalize hw : w5.alloc (.cells #[.int .i64 1, .slice pn L.length cn, .int .i64 a2, .int .i64 d2] 28) = w6 at *
              have Kn_6 := KN
              clear KN NN hw
              generalize w5.heap.size = gKn at *
              have Kn_6 : Hid (JB w6 gKn ⟨1, L, a2, d2⟩) := Kn_6
              cases f with
              | true =>
                go_upto_region 19 with fail
                obtain ⟨pn, cn, hn0, hz0⟩ := Kn_6.out.rz
                obtain ⟨x0, x1, x2, x3⟩ := row_cells hn0
                have RN := hide hz0
                clear hn0 hz0
                clear Kn_6
                obtain ⟨pc, cc, hc, sc⟩ := Kk_6.out.row
                obtain ⟨c0, c1, c2, c3⟩ := row_cells hc
                have zc0 := row_free hc 0
                have zc1 := row_free hc 1
                have zc2 := row_free hc 2
                have zc3 := row_free hc 3
                have Hc := hide hc
                clear hc sc
                have PU := hide (put4 Hc.out (.int .i64 1) (.slice pn L.length cn) (.int .i64 a2) (.int .i64 d2))
                go_upto_region 20 with fail
                have Kk_7 := hide (JB.put (j' := ⟨1, L, a2, d2⟩) Kk_6.out RN.out PU.out)
                have Kj_7 := hide (JB.other Kj_6.out Kk_6.out neKjKk.out PU.out)
                have B_7 := hide (PU.out.below B_6.out bKk.out)
                clear RN B_6 Kj_6 Kk_6
                clear x0 x1 x2 x3 c0 c1 c2 c3 zc0 zc1 zc2 zc3 Hc
                clear PU
                generalize ((((w6.setCell ⟨gKk, 0, none⟩ (.int .i64 1)).setCell ⟨gKk, 1, none⟩ (.slice pn L.length cn)).setCell ⟨gKk, 2, none⟩ (.int .i64 a2)).setCell ⟨gKk, 3, none⟩ (.int .i64 d2)) = w7 at *
                as_aux_lemma =>
                  obtain ⟨pn, cn, hn0, hz0⟩ := Kk_7.out.rz
                  obtain ⟨x0, x1, x2, x3⟩ := row_cells hn0
                  have RN := hide hz0
                  clear hn0 hz0
                  clear Kk_7
                  obtain ⟨pc, cc, hc, sc⟩ := Kj_7.out.row
                  obtain ⟨c0, c1, c2, c3⟩ := row_cells hc
                  have zc0 := row_free hc 0
                  have zc1 := row_free hc 1
                  have zc2 := row_free hc 2
                  have zc3 := row_free hc 3
                  have Hc := hide hc
                  clear hc sc
                  have PU := hide (put4 Hc.out (.int .i64 1) (.slice pn L.length cn) (.int .i64 a2) (.int .i64 d2))
                  go_upto_region 9 with fail
                  have Kj_8 := hide (JB.put (j' := ⟨1, L, a2, d2⟩) Kj_7.out RN.out PU.out)
                  have B_8 := hide (PU.out.below B_7.out bKj.out)
                  clear RN B_7 Kj_7
                  clear x0 x1 x2 x3 c0 c1 c2 c3 zc0 zc1 zc2 zc3 Hc
                  clear PU
                  generalize ((((w7.setCell ⟨gKj, 0, none⟩ (.int .i64 1)).setCell ⟨gKj, 1, none⟩ (.slice pn L.length cn)).setCell ⟨gKj, 2, none⟩ (.int .i64 a2)).setCell ⟨gKj, 3, none⟩ (.int .i64 d2)) = w8 at *
                  go_wp2
                  go_roundw
                  case rel => exact ⟨k + 1, av2, a2, d2, lf - r, rfl, by go_num, HW2, E6, hide HA2.out.symm, HK2, Kj_8, B_8⟩
                  case measure => simp [intOf]; omega
              | false =>
                obtain ⟨rfl, rfl⟩ := HF.out rfl
                go_upto_region 20 with fail
                clear Kn_6
                obtain ⟨pn, cn, hn0, hz0⟩ := Kk_6.out.rz
                obtain ⟨x0, x1, x2, x3⟩ := row_cells hn0
                have RN := hide hz0
                clear hn0 hz0
                clear Kk_6
                obtain ⟨pc, cc, hc, sc⟩ := Kj_6.out.row
                obtain ⟨c0, c1, c2, c3⟩ := row_cells hc
                have zc0 := row_free hc 0
                have zc1 := row_free hc 1
                have zc2 := row_free hc 2
                have zc3 := row_free hc 3
                have Hc := hide hc
                clear hc sc
                have PU := hide (put4 Hc.out (.int .i64 1) (.slice pn L.length cn) (.int .i64 a2) (.int .i64 d2))
                go_upto_region 9 with fail
                have Kj_7 := hide (JB.put (j' := ⟨1, L, a2, d2⟩) Kj_6.out RN.out PU.out)
                have B_7 := hide (PU.out.below B_6.out bKj.out)
                clear RN B_6 Kj_6
                clear x0 x1 x2 x3 c0 c1 c2 c3 zc0 zc1 zc2 zc3 Hc
                clear PU
                generalize ((((w6.setCell ⟨gKj, 0, none⟩ (.int .i64 1)).setCell ⟨gKj, 1, none⟩ (.slice pn L.length cn)).setCell ⟨gKj, 2, none⟩ (.int .i64 a2)).setCell ⟨gKj, 3, none⟩ (.int .i64 d2)) = w7 at *
                go_wp2
                go_roundw
                case rel => exact ⟨k + 1, av2, a2, d2, lf - r, rfl, by go_num, HW2, E6, hide HA2.out.symm, HK2, Kj_7, B_7⟩
                case measure => simp [intOf]; omega
      · obtain rfl : lf = 0 := by omega
        have HE : Hid (a = L.length) := hide (HW.out.left (by rw [HLF.out]; exact hpos))
        have ES := hide (stepV_none (j := ⟨1, L, a, d⟩) (jstep_end HE.out))
        obtain rfl : av = T := by have := HAV.out; omega
        go_upto_region 21 with fail
        obtain ⟨px, cx, hx, sx⟩ := Kj_1.out.row
        obtain ⟨x0, x1, x2, x3⟩ := row_cells hx
        have Sx := hide sx
        clear hx sx
        go_wp2_with fail
        refine (jstep_any Sx.out).mono ?_
        rintro e w2 ⟨rfl, hs2⟩
        rw [ES.out]
        clear x0 x1 x2 x3 Sx
        have Kj_2 := hide (Kj_1.out.below (hs2))
        have B_2 := hide (Nx.trans B_1.out (hs2))
        clear B_1 Kj_1
        clear hs2
        have KN := hide (SB.new w2 (0, 0))
        have NN := hide (Nx.alloc w2 (.cells #[.int .i64 0, .int .i64 0] 24))
        go_upto_region 22 with fail
        have Kj_3 := hide (Kj_2.out.below (NN.out))
        have B_3 := hide (Nx.trans B_2.out (NN.out))
        clear B_2 Kj_2
        generalize hw : w2.alloc (.cells #[.int .i64 0, .int .i64 0] 24) = w3 at *
        have Su_3 := KN
        clear KN NN hw
        generalize w2.heap.size = gSu at *
        have Su_3 : Hid (SB w3 gSu (0, 0)) := Su_3
        clear Su_3
        clear Kj_3
        go_wp2_with fail
        refine (total_any (HV.out _ B_3.out)).mono ?_
        rintro e w4 ⟨rfl, hs2⟩
        rw [ET.out]
        have B_4 := hide (Nx.trans B_3.out (hs2))
        clear B_3
        clear hs2
        go_wp2
        go_ret
        exact ⟨rfl, B_4.out⟩
end Go.Proofs.Ytmeigdgnfdgnhaa.Con
