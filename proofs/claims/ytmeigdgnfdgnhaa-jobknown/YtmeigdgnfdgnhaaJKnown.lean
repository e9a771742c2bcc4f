/- JobKnown: the examples. -/
import Derived.Test.YtmeigdgnfdgnhaaJAwake
import Derived.Test.YtmeigdgnfdgnhaaJSeg
namespace Go.Proofs.Ytmeigdgnfdgnhaa.Con
open Go.RowKit Go.Proofs.Ytmeigdgnfdgnhaa.Pm
set_option linter.unusedVariables false
set_option linter.unusedSimpArgs false
theorem jrun_at {num a d r n : Int} {L : List St} (h : ran ⟨num, L, a, d⟩ n = r) : jrun ⟨num, L, a, d⟩ n = ⟨num, L, a, d + r⟩ := by unfold jrun; rw [h]
theorem jnext_at {num a d : Int} {L : List St} (h : fulls ⟨num, L, a, d⟩ = true) : jnext ⟨num, L, a, d⟩ = ⟨num, L, a + 1, 0⟩ := jnext_full h
theorem kgood : good p0 = true := by decide
theorem kno0 : ¬ (1 ≤ (0 : Int) ∧ good p0 = true) := by decide
theorem knil : ¬ (1 ≤ (1 : Int) ∧ good [] = true) := by decide
theorem kr1 : fulls ⟨7, p0, 0, 0⟩ = false := by decide
theorem ks1 : jnext ⟨7, p0, 0, 0⟩ = ⟨7, p0, 0, 0⟩ := jnext_not kr1
theorem kr2 : ran ⟨7, p0, 0, 0⟩ 99 = 3 := by decide
theorem ks2 : jrun ⟨7, p0, 0, 0⟩ 99 = ⟨7, p0, 0, 3⟩ := jrun_at kr2
theorem kr3 : stepV ⟨7, p0, 0, 3⟩ = .tuple #[.agg #[.int .i64 0, .int .i64 3], .bool true] := stepV_some (s := (0, 3)) (by decide)
theorem kr4 : fulls ⟨7, p0, 0, 3⟩ = true := by decide
theorem ks4 : jnext ⟨7, p0, 0, 3⟩ = ⟨7, p0, 1, 0⟩ := jnext_at kr4
theorem kr5 : stepV ⟨7, p0, 1, 0⟩ = .tuple #[.agg #[.int .i64 1, .int .i64 2], .bool true] := stepV_some (s := (1, 2)) (by decide)
theorem kr6 : ran ⟨7, p0, 1, 0⟩ (-5) = 0 := by decide
theorem ks6 : jrun ⟨7, p0, 1, 0⟩ (-5) = ⟨7, p0, 1, 0⟩ := jrun_at kr6
theorem kr7 : ran ⟨7, p0, 1, 0⟩ 2 = 2 := by decide
theorem ks7 : jrun ⟨7, p0, 1, 0⟩ 2 = ⟨7, p0, 1, 2⟩ := jrun_at kr7
theorem kr8 : fulls ⟨7, p0, 1, 2⟩ = true := by decide
theorem ks8 : jnext ⟨7, p0, 1, 2⟩ = ⟨7, p0, 2, 0⟩ := jnext_at kr8
theorem kr9 : stepV ⟨7, p0, 2, 0⟩ = .tuple #[.agg #[.int .i64 0, .int .i64 0], .bool false] := stepV_none (by decide)
theorem kr10 : fulls ⟨7, p0, 2, 0⟩ = false := by decide
theorem ks10 : jnext ⟨7, p0, 2, 0⟩ = ⟨7, p0, 2, 0⟩ := jnext_not kr10
theorem kr11 : ran ⟨7, p0, 2, 0⟩ 1 = 0 := by decide
theorem ks11 : jrun ⟨7, p0, 2, 0⟩ 1 = ⟨7, p0, 2, 0⟩ := jrun_at kr11
theorem kr12 : ran ⟨1, p0, 0, 4⟩ 1 = 0 := by decide
theorem ks12 : jrun ⟨1, p0, 0, 4⟩ 1 = ⟨1, p0, 0, 4⟩ := jrun_at kr12
theorem kr13 : jleft ⟨7, p0, 2, 0⟩ = 0 := by decide
theorem kr14 : jleft ⟨1, p0, 0, 4⟩ = 0 := by decide
theorem kr15 : jgood ⟨7, p0, 2, 0⟩ = true := by decide
theorem kr16 : jgood ⟨1, p0, 0, 4⟩ = false := by decide
set_option maxHeartbeats 8000000 in
set_option maxRecDepth 100000 in
theorem known_walk (w : World) : Calls Try.prog 3 #[] w fun e w' => e = .returned (.bool true) ∧ Nx w w' := by
  have Hkgood := hide kgood
  have Hkno0 := hide kno0
  have Hknil := hide knil
  have Hkr1 := hide kr1
  have Hks1 := hide ks1
  have Hkr2 := hide kr2
  have Hks2 := hide ks2
  have Hkr3 := hide kr3
  have Hkr4 := hide kr4
  have Hks4 := hide ks4
  have Hkr5 := hide kr5
  have Hkr6 := hide kr6
  have Hks6 := hide ks6
  have Hkr7 := hide kr7
  have Hks7 := hide ks7
  have Hkr8 := hide kr8
  have Hks8 := hide ks8
  have Hkr9 := hide kr9
  have Hkr10 := hide kr10
  have Hks10 := hide ks10
  have Hkr11 := hide kr11
  have Hks11 := hide ks11
  have Hkr12 := hide kr12
  have Hks12 := hide ks12
  have Hkr13 := hide kr13
  have Hkr14 := hide kr14
  have Hkr15 := hide kr15
  have Hkr16 := hide kr16
  have hl : p0.length ≤ 1000 := by decide
  go_enter Try.func3, Try.ntmps3
  go_wp2_with fail
  refine (awake_any w).mono ?_
  rintro e w0 ⟨rfl, B0⟩
  have B_0 := hide B0
  clear B0
  go_upto_region 4 with fail
  have R1 := hide (Rz.fresh (L := p0) (n := 2) (heap_alloc_new w0 (.cells #[.int .i64 0, .int .i64 3, .int .i64 1, .int .i64 2] 24)) rfl rfl (by decide))
  have B_1 := hide (Nx.trans B_0.out (Nx.alloc w0 (.cells #[.int .i64 0, .int .i64 3, .int .i64 1, .int .i64 2] 24)))
  generalize hw : w0.alloc (.cells #[.int .i64 0, .int .i64 3, .int .i64 1, .int .i64 2] 24) = w1 at *
  clear hw B_0
  generalize (Value.slice (some ⟨w0.heap.size, 0, none⟩) 2 2) = v0 at *
  generalize p0 = P at *
  obtain ⟨pz, cz, rfl, hcz1, hcz2⟩ := R1.out.form
  have Rp_1 : Hid (Rz w1 (.slice pz P.length cz) P) := R1
  clear R1
  go_wp2_with fail
  refine (new_no Rp_1.out.sl Hkno0.out).mono ?_
  rintro e w2 ⟨rfl, hs2⟩
  have Rp_2 := hide (Rp_1.out.below (hs2))
  have B_2 := hide (Nx.trans B_1.out (hs2))
  clear B_1 Rp_1
  clear hs2
  have NN := hide (Nx.alloc w2 (.cells #[.int .i64 0, .slice none 0 0, .int .i64 0, .int .i64 0] 28))
  go_upto_region 5 with fail
  have Rp_3 := hide (Rp_2.out.below (NN.out))
  have B_3 := hide (Nx.trans B_2.out (NN.out))
  clear B_2 Rp_2
  generalize hw : w2.alloc (.cells #[.int .i64 0, .slice none 0 0, .int .i64 0, .int .i64 0] 28) = w3 at *
  clear NN hw
  go_wp2_with fail
  refine (new_no (Sl.nil w3) Hknil.out).mono ?_
  rintro e w4 ⟨rfl, hs2⟩
  have Rp_4 := hide (Rp_3.out.below (hs2))
  have B_4 := hide (Nx.trans B_3.out (hs2))
  clear B_3 Rp_3
  clear hs2
  have NN := hide (Nx.alloc w4 (.cells #[.int .i64 0, .slice none 0 0, .int .i64 0, .int .i64 0] 28))
  go_upto_region 6 with fail
  have Rp_5 := hide (Rp_4.out.below (NN.out))
  have B_5 := hide (Nx.trans B_4.out (NN.out))
  clear B_4 Rp_4
  generalize hw : w4.alloc (.cells #[.int .i64 0, .slice none 0 0, .int .i64 0, .int .i64 0] 28) = w5 at *
  clear NN hw
  go_wp2_with fail
  refine (new_ok Rp_5.out.sl (by omega) Hkgood.out).mono ?_
  rintro e w6 ⟨x, rfl, HR⟩
  obtain ⟨pn, cn, rfl, HS⟩ := HR.parts
  have hs2 := HS.out.2
  have Rp_6 := hide (Rp_5.out.below (hs2))
  have B_6 := hide (Nx.trans B_5.out (hs2))
  clear B_5 Rp_5
  have RN := hide HS.out.1
  clear HS HR hs2
  have bKj := hide B_6.out.size
  have KN := hide (JB.new (j := ⟨7, P, 0, 0⟩) RN.out)
  have NN := hide (Nx.alloc w6 (.cells #[.int .i64 7, .slice pn P.length cn, .int .i64 0, .int .i64 0] 28))
  clear RN
  go_upto_region 7 with fail
  have Rp_7 := hide (Rp_6.out.below (NN.out))
  have B_7 := hide (Nx.trans B_6.out (NN.out))
  clear B_6 Rp_6
  generalize hw : w6.alloc (.cells #[.int .i64 7, .slice pn P.length cn, .int .i64 0, .int .i64 0] 28) = w7 at *
  have Kj_7 := KN
  clear KN NN hw
  generalize w6.heap.size = gKj at *
  have Kj_7 : Hid (JB w7 gKj ⟨7, P, 0, 0⟩) := Kj_7
  obtain ⟨px, cx, hx, sx⟩ := Kj_7.out.row
  obtain ⟨x0, x1, x2, x3⟩ := row_cells hx
  have Sx := hide sx
  clear hx sx
  go_wp2_with fail
  refine (next_any Sx.out hl).mono ?_
  rintro e w8 ⟨x, rfl, HR⟩
  rw [Hkr1.out]
  rw [Hks1.out] at HR
  obtain ⟨pn, cn, rfl, HS⟩ := HR.parts
  have hs2 := HS.out.2
  clear x0 x1 x2 x3 Sx
  have Rp_8 := hide (Rp_7.out.below (hs2))
  have Kj_8 := hide (Kj_7.out.below (hs2))
  have B_8 := hide (Nx.trans B_7.out (hs2))
  clear B_7 Rp_7 Kj_7
  have RN := hide HS.out.1
  clear HS HR hs2
  have bKn := hide B_8.out.size
  have KN := hide (JB.new (j := ⟨7, P, 0, 0⟩) RN.out)
  have NN := hide (Nx.alloc w8 (.cells #[.int .i64 7, .slice pn P.length cn, .int .i64 0, .int .i64 0] 28))
  clear RN
  go_upto_region 8 with fail
  have Rp_9 := hide (Rp_8.out.below (NN.out))
  have Kj_9 := hide (Kj_8.out.below (NN.out))
  have B_9 := hide (Nx.trans B_8.out (NN.out))
  clear B_8 Rp_8 Kj_8
  generalize hw : w8.alloc (.cells #[.int .i64 7, .slice pn P.length cn, .int .i64 0, .int .i64 0] 28) = w9 at *
  have Kn_9 := KN
  clear KN NN hw
  generalize w8.heap.size = gKn at *
  have Kn_9 : Hid (JB w9 gKn ⟨7, P, 0, 0⟩) := Kn_9
  clear Kn_9
  obtain ⟨px, cx, hx, sx⟩ := Kj_9.out.row
  obtain ⟨x0, x1, x2, x3⟩ := row_cells hx
  have Sx := hide sx
  clear hx sx
  go_wp2_with fail
  refine (run_any Sx.out hl (by omega) (by omega)).mono ?_
  rintro e w10 ⟨x, rfl, HR⟩
  rw [Hkr2.out]
  rw [Hks2.out] at HR
  obtain ⟨pn, cn, rfl, HS⟩ := HR.parts
  have hs2 := HS.out.2
  clear x0 x1 x2 x3 Sx
  have Rp_10 := hide (Rp_9.out.below (hs2))
  have Kj_10 := hide (Kj_9.out.below (hs2))
  have B_10 := hide (Nx.trans B_9.out (hs2))
  clear B_9 Rp_9 Kj_9
  have RN := hide HS.out.1
  clear HS HR hs2
  have bKk := hide B_10.out.size
  have KN := hide (JB.new (j := ⟨7, P, 0, 3⟩) RN.out)
  have NN := hide (Nx.alloc w10 (.cells #[.int .i64 7, .slice pn P.length cn, .int .i64 0, .int .i64 3] 28))
  clear RN
  go_upto_region 9 with fail
  have Rp_11 := hide (Rp_10.out.below (NN.out))
  have Kj_11 := hide (Kj_10.out.below (NN.out))
  have B_11 := hide (Nx.trans B_10.out (NN.out))
  clear B_10 Rp_10 Kj_10
  generalize hw : w10.alloc (.cells #[.int .i64 7, .slice pn P.length cn, .int .i64 0, .int .i64 3] 28) = w11 at *
  have Kk_11 := KN
  clear KN NN hw
  generalize w10.heap.size = gKk at *
  have Kk_11 : Hid (JB w11 gKk ⟨7, P, 0, 3⟩) := Kk_11
  clear Kj_11
  obtain ⟨px, cx, hx, sx⟩ := Kk_11.out.row
  obtain ⟨x0, x1, x2, x3⟩ := row_cells hx
  have Sx := hide sx
  clear hx sx
  go_wp2_with fail
  refine (jstep_any Sx.out).mono ?_
  rintro e w12 ⟨rfl, hs2⟩
  rw [Hkr3.out]
  clear x0 x1 x2 x3 Sx
  have Rp_12 := hide (Rp_11.out.below (hs2))
  have Kk_12 := hide (Kk_11.out.below (hs2))
  have B_12 := hide (Nx.trans B_11.out (hs2))
  clear B_11 Rp_11 Kk_11
  clear hs2
  have KN := hide (SB.new w12 (0, 3))
  have NN := hide (Nx.alloc w12 (.cells #[.int .i64 0, .int .i64 3] 24))
  go_upto_region 10 with fail
  have Rp_13 := hide (Rp_12.out.below (NN.out))
  have Kk_13 := hide (Kk_12.out.below (NN.out))
  have B_13 := hide (Nx.trans B_12.out (NN.out))
  clear B_12 Rp_12 Kk_12
  generalize hw : w12.alloc (.cells #[.int .i64 0, .int .i64 3] 24) = w13 at *
  have Ss_13 := KN
  clear KN NN hw
  generalize w12.heap.size = gSs at *
  have Ss_13 : Hid (SB w13 gSs (0, 3)) := Ss_13
  obtain ⟨px, cx, hx, sx⟩ := Kk_13.out.row
  obtain ⟨x0, x1, x2, x3⟩ := row_cells hx
  have Sx := hide sx
  clear hx sx
  go_wp2_with fail
  refine (next_any Sx.out hl).mono ?_
  rintro e w14 ⟨x, rfl, HR⟩
  rw [Hkr4.out]
  rw [Hks4.out] at HR
  obtain ⟨pn, cn, rfl, HS⟩ := HR.parts
  have hs2 := HS.out.2
  clear x0 x1 x2 x3 Sx
  have Rp_14 := hide (Rp_13.out.below (hs2))
  have Kk_14 := hide (Kk_13.out.below (hs2))
  have Ss_14 := hide (Ss_13.out.below (hs2))
  have B_14 := hide (Nx.trans B_13.out (hs2))
  clear B_13 Rp_13 Kk_13 Ss_13
  have RN := hide HS.out.1
  clear HS HR hs2
  obtain ⟨pc, cc, hc, sc⟩ := Kk_14.out.row
  obtain ⟨c0, c1, c2, c3⟩ := row_cells hc
  have zc0 := row_free hc 0
  have zc1 := row_free hc 1
  have zc2 := row_free hc 2
  have zc3 := row_free hc 3
  have Hc := hide hc
  clear hc sc
  have PU := hide (put4 Hc.out (.int .i64 7) (.slice pn P.length cn) (.int .i64 1) (.int .i64 0))
  go_upto_region 11 with fail
  have Kk_15 := hide (JB.put (j' := ⟨7, P, 1, 0⟩) Kk_14.out RN.out PU.out)
  have Rp_15 := hide (Rp_14.out.put PU.out Hc.out)
  have Ss_15 := hide (SB.other Ss_14.out Kk_14.out PU.out)
  have B_15 := hide (PU.out.below B_14.out bKk.out)
  clear RN B_14 Rp_14 Kk_14 Ss_14
  clear c0 c1 c2 c3 zc0 zc1 zc2 zc3 Hc
  clear PU
  generalize ((((w14.setCell ⟨gKk, 0, none⟩ (.int .i64 7)).setCell ⟨gKk, 1, none⟩ (.slice pn P.length cn)).setCell ⟨gKk, 2, none⟩ (.int .i64 1)).setCell ⟨gKk, 3, none⟩ (.int .i64 0)) = w15 at *
  obtain ⟨px, cx, hx, sx⟩ := Kk_15.out.row
  obtain ⟨x0, x1, x2, x3⟩ := row_cells hx
  have Sx := hide sx
  clear hx sx
  go_wp2_with fail
  refine (jstep_any Sx.out).mono ?_
  rintro e w16 ⟨rfl, hs2⟩
  rw [Hkr5.out]
  clear x0 x1 x2 x3 Sx
  have Rp_16 := hide (Rp_15.out.below (hs2))
  have Kk_16 := hide (Kk_15.out.below (hs2))
  have Ss_16 := hide (Ss_15.out.below (hs2))
  have B_16 := hide (Nx.trans B_15.out (hs2))
  clear B_15 Rp_15 Kk_15 Ss_15
  clear hs2
  have KN := hide (SB.new w16 (1, 2))
  have NN := hide (Nx.alloc w16 (.cells #[.int .i64 1, .int .i64 2] 24))
  go_upto_region 12 with fail
  have Rp_17 := hide (Rp_16.out.below (NN.out))
  have Kk_17 := hide (Kk_16.out.below (NN.out))
  have Ss_17 := hide (Ss_16.out.below (NN.out))
  have B_17 := hide (Nx.trans B_16.out (NN.out))
  clear B_16 Rp_16 Kk_16 Ss_16
  generalize hw : w16.alloc (.cells #[.int .i64 1, .int .i64 2] 24) = w17 at *
  have St_17 := KN
  clear KN NN hw
  generalize w16.heap.size = gSt at *
  have St_17 : Hid (SB w17 gSt (1, 2)) := St_17
  obtain ⟨px, cx, hx, sx⟩ := Kk_17.out.row
  obtain ⟨x0, x1, x2, x3⟩ := row_cells hx
  have Sx := hide sx
  clear hx sx
  go_wp2_with fail
  refine (run_any Sx.out hl (by omega) (by omega)).mono ?_
  rintro e w18 ⟨x, rfl, HR⟩
  rw [Hkr6.out]
  rw [Hks6.out] at HR
  obtain ⟨pn, cn, rfl, HS⟩ := HR.parts
  have hs2 := HS.out.2
  clear x0 x1 x2 x3 Sx
  have Rp_18 := hide (Rp_17.out.below (hs2))
  have Kk_18 := hide (Kk_17.out.below (hs2))
  have Ss_18 := hide (Ss_17.out.below (hs2))
  have St_18 := hide (St_17.out.below (hs2))
  have B_18 := hide (Nx.trans B_17.out (hs2))
  clear B_17 Rp_17 Kk_17 Ss_17 St_17
  have RN := hide HS.out.1
  clear HS HR hs2
  obtain ⟨pc, cc, hc, sc⟩ := Kk_18.out.row
  obtain ⟨c0, c1, c2, c3⟩ := row_cells hc
  have zc0 := row_free hc 0
  have zc1 := row_free hc 1
  have zc2 := row_free hc 2
  have zc3 := row_free hc 3
  have Hc := hide hc
  clear hc sc
  have PU := hide (put4 Hc.out (.int .i64 7) (.slice pn P.length cn) (.int .i64 1) (.int .i64 0))
  go_upto_region 13 with fail
  have Kk_19 := hide (JB.put (j' := ⟨7, P, 1, 0⟩) Kk_18.out RN.out PU.out)
  have Rp_19 := hide (Rp_18.out.put PU.out Hc.out)
  have Ss_19 := hide (SB.other Ss_18.out Kk_18.out PU.out)
  have St_19 := hide (SB.other St_18.out Kk_18.out PU.out)
  have B_19 := hide (PU.out.below B_18.out bKk.out)
  clear RN B_18 Rp_18 Kk_18 Ss_18 St_18
  clear c0 c1 c2 c3 zc0 zc1 zc2 zc3 Hc
  clear PU
  generalize ((((w18.setCell ⟨gKk, 0, none⟩ (.int .i64 7)).setCell ⟨gKk, 1, none⟩ (.slice pn P.length cn)).setCell ⟨gKk, 2, none⟩ (.int .i64 1)).setCell ⟨gKk, 3, none⟩ (.int .i64 0)) = w19 at *
  obtain ⟨px, cx, hx, sx⟩ := Kk_19.out.row
  obtain ⟨x0, x1, x2, x3⟩ := row_cells hx
  have Sx := hide sx
  clear hx sx
  go_wp2_with fail
  refine (run_any Sx.out hl (by omega) (by omega)).mono ?_
  rintro e w20 ⟨x, rfl, HR⟩
  rw [Hkr7.out]
  rw [Hks7.out] at HR
  obtain ⟨pn, cn, rfl, HS⟩ := HR.parts
  have hs2 := HS.out.2
  clear x0 x1 x2 x3 Sx
  have Rp_20 := hide (Rp_19.out.below (hs2))
  have Kk_20 := hide (Kk_19.out.below (hs2))
  have Ss_20 := hide (Ss_19.out.below (hs2))
  have St_20 := hide (St_19.out.below (hs2))
  have B_20 := hide (Nx.trans B_19.out (hs2))
  clear B_19 Rp_19 Kk_19 Ss_19 St_19
  have RN := hide HS.out.1
  clear HS HR hs2
  obtain ⟨pc, cc, hc, sc⟩ := Kk_20.out.row
  obtain ⟨c0, c1, c2, c3⟩ := row_cells hc
  have zc0 := row_free hc 0
  have zc1 := row_free hc 1
  have zc2 := row_free hc 2
  have zc3 := row_free hc 3
  have Hc := hide hc
  clear hc sc
  have PU := hide (put4 Hc.out (.int .i64 7) (.slice pn P.length cn) (.int .i64 1) (.int .i64 2))
  go_upto_region 14 with fail
  have Kk_21 := hide (JB.put (j' := ⟨7, P, 1, 2⟩) Kk_20.out RN.out PU.out)
  have Rp_21 := hide (Rp_20.out.put PU.out Hc.out)
  have Ss_21 := hide (SB.other Ss_20.out Kk_20.out PU.out)
  have St_21 := hide (SB.other St_20.out Kk_20.out PU.out)
  have B_21 := hide (PU.out.below B_20.out bKk.out)
  clear RN B_20 Rp_20 Kk_20 Ss_20 St_20
  clear c0 c1 c2 c3 zc0 zc1 zc2 zc3 Hc
  clear PU
  generalize ((((w20.setCell ⟨gKk, 0, none⟩ (.int .i64 7)).setCell ⟨gKk, 1, none⟩ (.slice pn P.length cn)).setCell ⟨gKk, 2, none⟩ (.int .i64 1)).setCell ⟨gKk, 3, none⟩ (.int .i64 2)) = w21 at *
  obtain ⟨px, cx, hx, sx⟩ := Kk_21.out.row
  obtain ⟨x0, x1, x2, x3⟩ := row_cells hx
  have Sx := hide sx
  clear hx sx
  go_wp2_with fail
  refine (next_any Sx.out hl).mono ?_
  rintro e w22 ⟨x, rfl, HR⟩
  rw [Hkr8.out]
  rw [Hks8.out] at HR
  obtain ⟨pn, cn, rfl, HS⟩ := HR.parts
  have hs2 := HS.out.2
  clear x0 x1 x2 x3 Sx
  have Rp_22 := hide (Rp_21.out.below (hs2))
  have Kk_22 := hide (Kk_21.out.below (hs2))
  have Ss_22 := hide (Ss_21.out.below (hs2))
  have St_22 := hide (St_21.out.below (hs2))
  have B_22 := hide (Nx.trans B_21.out (hs2))
  clear B_21 Rp_21 Kk_21 Ss_21 St_21
  have RN := hide HS.out.1
  clear HS HR hs2
  obtain ⟨pc, cc, hc, sc⟩ := Kk_22.out.row
  obtain ⟨c0, c1, c2, c3⟩ := row_cells hc
  have zc0 := row_free hc 0
  have zc1 := row_free hc 1
  have zc2 := row_free hc 2
  have zc3 := row_free hc 3
  have Hc := hide hc
  clear hc sc
  have PU := hide (put4 Hc.out (.int .i64 7) (.slice pn P.length cn) (.int .i64 2) (.int .i64 0))
  go_upto_region 15 with fail
  have Kk_23 := hide (JB.put (j' := ⟨7, P, 2, 0⟩) Kk_22.out RN.out PU.out)
  have Rp_23 := hide (Rp_22.out.put PU.out Hc.out)
  have Ss_23 := hide (SB.other Ss_22.out Kk_22.out PU.out)
  have St_23 := hide (SB.other St_22.out Kk_22.out PU.out)
  have B_23 := hide (PU.out.below B_22.out bKk.out)
  clear RN B_22 Rp_22 Kk_22 Ss_22 St_22
  clear c0 c1 c2 c3 zc0 zc1 zc2 zc3 Hc
  clear PU
  generalize ((((w22.setCell ⟨gKk, 0, none⟩ (.int .i64 7)).setCell ⟨gKk, 1, none⟩ (.slice pn P.length cn)).setCell ⟨gKk, 2, none⟩ (.int .i64 2)).setCell ⟨gKk, 3, none⟩ (.int .i64 0)) = w23 at *
  obtain ⟨px, cx, hx, sx⟩ := Kk_23.out.row
  obtain ⟨x0, x1, x2, x3⟩ := row_cells hx
  have Sx := hide sx
  clear hx sx
  go_wp2_with fail
  refine (jstep_any Sx.out).mono ?_
  rintro e w24 ⟨rfl, hs2⟩
  rw [Hkr9.out]
  clear x0 x1 x2 x3 Sx
  have Rp_24 := hide (Rp_23.out.below (hs2))
  have Kk_24 := hide (Kk_23.out.below (hs2))
  have Ss_24 := hide (Ss_23.out.below (hs2))
  have St_24 := hide (St_23.out.below (hs2))
  have B_24 := hide (Nx.trans B_23.out (hs2))
  clear B_23 Rp_23 Kk_23 Ss_23 St_23
  clear hs2
  have KN := hide (SB.new w24 (0, 0))
  have NN := hide (Nx.alloc w24 (.cells #[.int .i64 0, .int .i64 0] 24))
  go_upto_region 16 with fail
  have Rp_25 := hide (Rp_24.out.below (NN.out))
  have Kk_25 := hide (Kk_24.out.below (NN.out))
  have Ss_25 := hide (Ss_24.out.below (NN.out))
  have St_25 := hide (St_24.out.below (NN.out))
  have B_25 := hide (Nx.trans B_24.out (NN.out))
  clear B_24 Rp_24 Kk_24 Ss_24 St_24
  generalize hw : w24.alloc (.cells #[.int .i64 0, .int .i64 0] 24) = w25 at *
  have Su_25 := KN
  clear KN NN hw
  generalize w24.heap.size = gSu at *
  have Su_25 : Hid (SB w25 gSu (0, 0)) := Su_25
  clear Su_25
  obtain ⟨px, cx, hx, sx⟩ := Kk_25.out.row
  obtain ⟨x0, x1, x2, x3⟩ := row_cells hx
  have Sx := hide sx
  clear hx sx
  go_wp2_with fail
  refine (next_any Sx.out hl).mono ?_
  rintro e w26 ⟨x, rfl, HR⟩
  rw [Hkr10.out]
  rw [Hks10.out] at HR
  obtain ⟨pn, cn, rfl, HS⟩ := HR.parts
  have hs2 := HS.out.2
  clear x0 x1 x2 x3 Sx
  have Rp_26 := hide (Rp_25.out.below (hs2))
  have Kk_26 := hide (Kk_25.out.below (hs2))
  have Ss_26 := hide (Ss_25.out.below (hs2))
  have St_26 := hide (St_25.out.below (hs2))
  have B_26 := hide (Nx.trans B_25.out (hs2))
  clear B_25 Rp_25 Kk_25 Ss_25 St_25
  have RN := hide HS.out.1
  clear HS HR hs2
  have bKm := hide B_26.out.size
  have KN := hide (JB.new (j := ⟨7, P, 2, 0⟩) RN.out)
  have NN := hide (Nx.alloc w26 (.cells #[.int .i64 7, .slice pn P.length cn, .int .i64 2, .int .i64 0] 28))
  clear RN
  go_upto_region 17 with fail
  have Rp_27 := hide (Rp_26.out.below (NN.out))
  have Kk_27 := hide (Kk_26.out.below (NN.out))
  have Ss_27 := hide (Ss_26.out.below (NN.out))
  have St_27 := hide (St_26.out.below (NN.out))
  have B_27 := hide (Nx.trans B_26.out (NN.out))
  clear B_26 Rp_26 Kk_26 Ss_26 St_26
  generalize hw : w26.alloc (.cells #[.int .i64 7, .slice pn P.length cn, .int .i64 2, .int .i64 0] 28) = w27 at *
  have Km_27 := KN
  clear KN NN hw
  generalize w26.heap.size = gKm at *
  have Km_27 : Hid (JB w27 gKm ⟨7, P, 2, 0⟩) := Km_27
  clear Km_27
  obtain ⟨px, cx, hx, sx⟩ := Kk_27.out.row
  obtain ⟨x0, x1, x2, x3⟩ := row_cells hx
  have Sx := hide sx
  clear hx sx
  go_wp2_with fail
  refine (run_any Sx.out hl (by omega) (by omega)).mono ?_
  rintro e w28 ⟨x, rfl, HR⟩
  rw [Hkr11.out]
  rw [Hks11.out] at HR
  obtain ⟨pn, cn, rfl, HS⟩ := HR.parts
  have hs2 := HS.out.2
  clear x0 x1 x2 x3 Sx
  have Rp_28 := hide (Rp_27.out.below (hs2))
  have Kk_28 := hide (Kk_27.out.below (hs2))
  have Ss_28 := hide (Ss_27.out.below (hs2))
  have St_28 := hide (St_27.out.below (hs2))
  have B_28 := hide (Nx.trans B_27.out (hs2))
  clear B_27 Rp_27 Kk_27 Ss_27 St_27
  have RN := hide HS.out.1
  clear HS HR hs2
  have bKo := hide B_28.out.size
  have KN := hide (JB.new (j := ⟨7, P, 2, 0⟩) RN.out)
  have NN := hide (Nx.alloc w28 (.cells #[.int .i64 7, .slice pn P.length cn, .int .i64 2, .int .i64 0] 28))
  clear RN
  go_upto_region 18 with fail
  have Rp_29 := hide (Rp_28.out.below (NN.out))
  have Kk_29 := hide (Kk_28.out.below (NN.out))
  have Ss_29 := hide (Ss_28.out.below (NN.out))
  have St_29 := hide (St_28.out.below (NN.out))
  have B_29 := hide (Nx.trans B_28.out (NN.out))
  clear B_28 Rp_28 Kk_28 Ss_28 St_28
  generalize hw : w28.alloc (.cells #[.int .i64 7, .slice pn P.length cn, .int .i64 2, .int .i64 0] 28) = w29 at *
  have Ko_29 := KN
  clear KN NN hw
  generalize w28.heap.size = gKo at *
  have Ko_29 : Hid (JB w29 gKo ⟨7, P, 2, 0⟩) := Ko_29
  have KN := hide (JB.new (j := ⟨1, P, 0, 4⟩) Rp_29.out)
  have NN := hide (Nx.alloc w29 (.cells #[.int .i64 1, .slice pz P.length cz, .int .i64 0, .int .i64 4] 28))
  go_upto_region 19 with fail
  have Rp_30 := hide (Rp_29.out.below (NN.out))
  have Kk_30 := hide (Kk_29.out.below (NN.out))
  have Ss_30 := hide (Ss_29.out.below (NN.out))
  have St_30 := hide (St_29.out.below (NN.out))
  have Ko_30 := hide (Ko_29.out.below (NN.out))
  have B_30 := hide (Nx.trans B_29.out (NN.out))
  clear B_29 Rp_29 Kk_29 Ss_29 St_29 Ko_29
  generalize hw : w29.alloc (.cells #[.int .i64 1, .slice pz P.length cz, .int .i64 0, .int .i64 4] 28) = w30 at *
  have Kb_30 := KN
  clear KN NN hw
  generalize w29.heap.size = gKb at *
  have Kb_30 : Hid (JB w30 gKb ⟨1, P, 0, 4⟩) := Kb_30
  obtain ⟨px, cx, hx, sx⟩ := Kb_30.out.row
  obtain ⟨x0, x1, x2, x3⟩ := row_cells hx
  have Sx := hide sx
  clear hx sx
  go_wp2_with fail
  refine (run_any Sx.out hl (by omega) (by omega)).mono ?_
  rintro e w31 ⟨x, rfl, HR⟩
  rw [Hkr12.out]
  rw [Hks12.out] at HR
  obtain ⟨pn, cn, rfl, HS⟩ := HR.parts
  have hs2 := HS.out.2
  clear x0 x1 x2 x3 Sx
  have Rp_31 := hide (Rp_30.out.below (hs2))
  have Kk_31 := hide (Kk_30.out.below (hs2))
  have Ss_31 := hide (Ss_30.out.below (hs2))
  have St_31 := hide (St_30.out.below (hs2))
  have Ko_31 := hide (Ko_30.out.below (hs2))
  have Kb_31 := hide (Kb_30.out.below (hs2))
  have B_31 := hide (Nx.trans B_30.out (hs2))
  clear B_30 Rp_30 Kk_30 Ss_30 St_30 Ko_30 Kb_30
  have RN := hide HS.out.1
  clear HS HR hs2
  have bKr := hide B_31.out.size
  have KN := hide (JB.new (j := ⟨1, P, 0, 4⟩) RN.out)
  have NN := hide (Nx.alloc w31 (.cells #[.int .i64 1, .slice pn P.length cn, .int .i64 0, .int .i64 4] 28))
  clear RN
  go_upto_region 20 with fail
  have Rp_32 := hide (Rp_31.out.below (NN.out))
  have Kk_32 := hide (Kk_31.out.below (NN.out))
  have Ss_32 := hide (Ss_31.out.below (NN.out))
  have St_32 := hide (St_31.out.below (NN.out))
  have Ko_32 := hide (Ko_31.out.below (NN.out))
  have Kb_32 := hide (Kb_31.out.below (NN.out))
  have B_32 := hide (Nx.trans B_31.out (NN.out))
  clear B_31 Rp_31 Kk_31 Ss_31 St_31 Ko_31 Kb_31
  generalize hw : w31.alloc (.cells #[.int .i64 1, .slice pn P.length cn, .int .i64 0, .int .i64 4] 28) = w32 at *
  have Kr_32 := KN
  clear KN NN hw
  generalize w31.heap.size = gKr at *
  have Kr_32 : Hid (JB w32 gKr ⟨1, P, 0, 4⟩) := Kr_32
  clear Rp_32
  obtain ⟨pk, ck, hk, sk⟩ := Kk_32.out.row
  obtain ⟨po, co, ho, so⟩ := Ko_32.out.row
  obtain ⟨pb, cb, hb, sb⟩ := Kb_32.out.row
  obtain ⟨pr, cr, hr, _⟩ := Kr_32.out.row
  have hs1 : w32.heap[gSs]? = some (.cells #[.int .i64 0, .int .i64 3] 24 (0, 0)) := Ss_32.out
  have hs2 : w32.heap[gSt]? = some (.cells #[.int .i64 1, .int .i64 2] 24 (0, 0)) := St_32.out
  have QQ : Hid (∀ x, Nx w32 x → ((((x.cell? ⟨gKk, 0, none⟩ = some (.int .i64 7) ∧ x.cell? ⟨gKk, 1, none⟩ = some (.slice pk P.length ck)) ∧ (x.cell? ⟨gKk, 2, none⟩ = some (.int .i64 2) ∧ x.cell? ⟨gKk, 3, none⟩ = some (.int .i64 0))) ∧ ((x.cell? ⟨gKo, 0, none⟩ = some (.int .i64 7) ∧ x.cell? ⟨gKo, 1, none⟩ = some (.slice po P.length co)) ∧ (x.cell? ⟨gKo, 2, none⟩ = some (.int .i64 2) ∧ x.cell? ⟨gKo, 3, none⟩ = some (.int .i64 0)))) ∧ (((x.cell? ⟨gKb, 0, none⟩ = some (.int .i64 1) ∧ x.cell? ⟨gKb, 1, none⟩ = some (.slice pb P.length cb)) ∧ (x.cell? ⟨gKb, 2, none⟩ = some (.int .i64 0) ∧ x.cell? ⟨gKb, 3, none⟩ = some (.int .i64 4))) ∧ x.cell? ⟨gKr, 3, none⟩ = some (.int .i64 4)) ∧ ((x.cell? ⟨gSs, 0, none⟩ = some (.int .i64 0) ∧ x.cell? ⟨gSs, 1, none⟩ = some (.int .i64 3)) ∧ (x.cell? ⟨gSt, 0, none⟩ = some (.int .i64 1) ∧ x.cell? ⟨gSt, 1, none⟩ = some (.int .i64 2))))) := hide (fun x hx => by
    obtain ⟨k0, k1, k2, k3⟩ := row_cells (row_kept hx hk)
    obtain ⟨o0, o1, o2, o3⟩ := row_cells (row_kept hx ho)
    obtain ⟨b0, b1, b2, b3⟩ := row_cells (row_kept hx hb)
    obtain ⟨_, _, _, r3⟩ := row_cells (row_kept hx hr)
    have s1 := row_kept hx hs1
    have s2 := row_kept hx hs2
    exact ⟨⟨⟨⟨k0, k1⟩, k2, k3⟩, ⟨o0, o1⟩, o2, o3⟩, ⟨⟨⟨b0, b1⟩, b2, b3⟩, r3⟩, ⟨(cell_of_row x _ 0 _ _ _ s1).trans rfl, (cell_of_row x _ 1 _ _ _ s1).trans rfl⟩, (cell_of_row x _ 0 _ _ _ s2).trans rfl, (cell_of_row x _ 1 _ _ _ s2).trans rfl⟩)
  have C1 : Hid (∀ x, Nx w32 x → Calls Try.prog 11 #[jv 7 (.slice pk P.length ck) 2 0] x fun e w' => e = .returned (.bool true) ∧ Nx x w') := hide (fun x hx => by have := jgood_any (num := 7) (a := 2) (d := 0) (sk.below hx); rw [Hkr15.out] at this; exact this)
  have C2 : Hid (∀ x, Nx w32 x → Calls Try.prog 13 #[jv 7 (.slice po P.length co) 2 0] x fun e w' => ∃ u, e = .returned (jv 7 u 2 0) ∧ Hid (Sl w' u P ∧ Nx x w')) := hide (fun x hx => ownJ_any (so.below hx) hl)
  have C3 : Hid (∀ x, Nx w32 x → Calls Try.prog 13 #[jv 7 (.slice pk P.length ck) 2 0] x fun e w' => ∃ u, e = .returned (jv 7 u 2 0) ∧ Hid (Sl w' u P ∧ Nx x w')) := hide (fun x hx => ownJ_any (sk.below hx) hl)
  have C4 : Hid (∀ x u u', Sl x u P → Sl x u' P → Calls Try.prog 12 #[jv 7 u 2 0, jv 7 u' 2 0] x fun e w' => e = .returned (.bool true) ∧ Nx x w') := hide (fun x u u' h1 h2 => same_any h1 h2 hl)
  have C5 : Hid (∀ x, Nx w32 x → Calls Try.prog 14 #[jv 7 (.slice pk P.length ck) 2 0] x fun e w' => e = .returned (.int .i64 0) ∧ Nx x w') := hide (fun x hx => by have := jleft_any (num := 7) (a := 2) (d := 0) (sk.below hx); rw [Hkr13.out] at this; exact this)
  have C6 : Hid (∀ x, Nx w32 x → Calls Try.prog 11 #[jv 1 (.slice pb P.length cb) 0 4] x fun e w' => e = .returned (.bool false) ∧ Nx x w') := hide (fun x hx => by have := jgood_any (num := 1) (a := 0) (d := 4) (sb.below hx); rw [Hkr16.out] at this; exact this)
  have C7 : Hid (∀ x, Nx w32 x → Calls Try.prog 14 #[jv 1 (.slice pb P.length cb) 0 4] x fun e w' => e = .returned (.int .i64 0) ∧ Nx x w') := hide (fun x hx => by have := jleft_any (num := 1) (a := 0) (d := 4) (sb.below hx); rw [Hkr14.out] at this; exact this)
  have n0 : Hid (Nx w32 w32.drew) := hide (bel_drew (Below.refl _ _))
  clear hk ho hb hr hs1 hs2 sk so sb Kk_32 Ko_32 Kb_32 Kr_32 Ss_32 St_32 Hkgood Hkno0 Hknil Hkr1 Hks1 Hkr2 Hks2 Hkr3 Hkr4 Hks4 Hkr5 Hkr6 Hks6 Hkr7 Hks7 Hkr8 Hks8 Hkr9 Hkr10 Hks10 Hkr11 Hks11 Hkr12 Hks12 Hkr13 Hkr14 Hkr15 Hkr16
  have gq := fun d os => QQ.out _ (below_regrown w32 d os)
  simp only [forall_and] at gq
  obtain ⟨⟨⟨⟨f0, f1⟩, f2, f3⟩, ⟨f4, f5⟩, f6, f7⟩, ⟨⟨⟨f8, f9⟩, f10, f11⟩, f12⟩, ⟨f13, f14⟩, f15, f16⟩ := gq
  have SS : Hid (∀ x, Nx w32 x → ∃ p : Regrown, x = Sort.grow (redrawn w32 p.d) p.os) := hide (fun x hx => regrown_of_below hx)
  clear QQ
  simp only [List.append]
  refine wp_region_noPanic ?_
  refine wp_region_held_drew (S := fun x => ∃ p : Regrown, x = Sort.grow (redrawn w32 p.d) p.os) (by as_aux_lemma => kernel_rfl) (SS.out _ n0.out) (fun hHeld => ?_)
  clear hHeld
  as_aux_lemma =>
    refine Seg.seg 0 56 46 #[true, true, true, true, true, true, true, true, true, true, true, true, true, true, true, true, true, true, true, true, true, true, true, true, true, true, true, true, true, true, true, true, true, true, true, true, true, true, true, true, true, true, true, true, true, true, true, true, true, true, true, true, true, true, true, true, false, false, false, false, false, false, false, false, false, false, false, false, false, false, false, false, false, false, false, false, false, false, false, false, false, false, false, false, false, false, false, false, false, false, false, false, false, false, false, false, false, false, false, false, false, false] (by as_aux_lemma => kernel_rfl) (fun _ _ _ _ _ h => h) (SS.out _ n0.out) (by as_aux_lemma => kernel_rfl) (by kernel_rfl) (by kernel_rfl) ?_
    simp only [List.drop_succ_cons, List.drop_zero, List.take_succ_cons, List.take_zero]
    iterate 12 (go_big_quiet_step (fail))
    iterate 12 (go_big_quiet_step (fail))
    iterate 12 (go_big_quiet_step (fail))
    iterate 12 (go_big_quiet_step (fail))
    iterate 8 (go_big_quiet_step (fail))
    refine wpQuiet_nil ?_
    as_aux_lemma =>
      refine wpAnyH_ready (rs := [56]) (by as_aux_lemma => kernel_rfl) (by simp) ?_
      refine AllReadyH.cons rfl (fun K hK => ?_) AllReadyH.nil
      go_simp
      refine (C1.out _ n0.out).mono ?_
      rintro e y1 ⟨rfl, hb⟩
      have n1 := hide (Nx.trans n0.out hb)
      clear hb
      refine hK.out _ _ (SS.out _ n1.out) (fun hHeld => ?_)
      clear hK K hHeld
      (try simp only [Act.put, List.setIfInBounds_toArray, List.set_cons_zero, List.set_cons_succ])
      as_aux_lemma =>
        refine Seg.seg 57 15 30 #[true, true, true, true, true, true, true, true, true, true, true, true, true, true, true, true, true, true, true, true, true, true, true, true, true, true, true, true, true, true, true, true, true, true, true, true, true, true, true, true, true, true, true, true, true, true, true, true, true, true, true, true, true, true, true, true, true, true, true, true, true, true, true, true, true, true, true, true, true, true, true, true, false, false, false, false, false, false, false, false, false, false, false, false, false, false, false, false, false, false, false, false, false, false, false, false, false, false, false, false, false, false] (by as_aux_lemma => kernel_rfl) (fun _ _ _ _ _ h => h) (SS.out _ n1.out) (by as_aux_lemma => kernel_rfl) (by kernel_rfl) (by kernel_rfl) ?_
        simp only [List.drop_succ_cons, List.drop_zero, List.take_succ_cons, List.take_zero]
        iterate 12 (go_big_quiet_step (fail))
        iterate 3 (go_big_quiet_step (fail))
        refine wpQuiet_nil ?_
        as_aux_lemma =>
          refine Seg.seg 73 1 29 #[true, true, true, true, true, true, true, true, true, true, true, true, true, true, true, true, true, true, true, true, true, true, true, true, true, true, true, true, true, true, true, true, true, true, true, true, true, true, true, true, true, true, true, true, true, true, true, true, true, true, true, true, true, true, true, true, true, true, true, true, true, true, true, true, true, true, true, true, true, true, true, true, false, true, false, false, false, false, false, false, false, false, false, false, false, false, false, false, false, false, false, false, false, false, false, false, false, false, false, false, false, false] (by as_aux_lemma => kernel_rfl) (fun _ _ _ _ _ h => h) (SS.out _ n1.out) (by as_aux_lemma => kernel_rfl) (by kernel_rfl) (by kernel_rfl) ?_
          simp only [List.drop_succ_cons, List.drop_zero, List.take_succ_cons, List.take_zero]
          iterate 1 (go_big_quiet_step (fail))
          refine wpQuiet_nil ?_
          as_aux_lemma =>
            refine wpAnyH_ready (rs := [72]) (by as_aux_lemma => kernel_rfl) (by simp) ?_
            refine AllReadyH.cons rfl (fun K hK => ?_) AllReadyH.nil
            go_simp
            refine (C2.out _ n1.out).mono ?_
            rintro e y2 ⟨u2, rfl, HU2⟩
            have n2 := hide (Nx.trans n1.out HU2.out.2)
            refine hK.out _ _ (SS.out _ n2.out) (fun hHeld => ?_)
            clear hK K hHeld
            (try simp only [Act.put, List.setIfInBounds_toArray, List.set_cons_zero, List.set_cons_succ])
            as_aux_lemma =>
              refine wpAnyH_ready (rs := [74]) (by as_aux_lemma => kernel_rfl) (by simp) ?_
              refine AllReadyH.cons rfl (fun K hK => ?_) AllReadyH.nil
              go_simp
              refine (C3.out _ n2.out).mono ?_
              rintro e y3 ⟨u3, rfl, HU3⟩
              have n3 := hide (Nx.trans n2.out HU3.out.2)
              have V2 := hide (HU2.out.1.below HU3.out.2)
              have V3 := hide HU3.out.1
              refine hK.out _ _ (SS.out _ n3.out) (fun hHeld => ?_)
              clear hK K hHeld
              (try simp only [Act.put, List.setIfInBounds_toArray, List.set_cons_zero, List.set_cons_succ])
              as_aux_lemma =>
                refine wpAnyH_ready (rs := [75]) (by as_aux_lemma => kernel_rfl) (by simp) ?_
                refine AllReadyH.cons rfl (fun K hK => ?_) AllReadyH.nil
                go_simp
                refine (C4.out _ _ _ V2.out V3.out).mono ?_
                rintro e y4 ⟨rfl, hb⟩
                have n4 := hide (Nx.trans n3.out hb)
                clear hb
                refine hK.out _ _ (SS.out _ n4.out) (fun hHeld => ?_)
                clear hK K hHeld
                (try simp only [Act.put, List.setIfInBounds_toArray, List.set_cons_zero, List.set_cons_succ])
                as_aux_lemma =>
                  refine Seg.seg 76 3 23 #[true, true, true, true, true, true, true, true, true, true, true, true, true, true, true, true, true, true, true, true, true, true, true, true, true, true, true, true, true, true, true, true, true, true, true, true, true, true, true, true, true, true, true, true, true, true, true, true, true, true, true, true, true, true, true, true, true, true, true, true, true, true, true, true, true, true, true, true, true, true, true, true, true, true, true, true, true, true, true, false, false, false, false, false, false, false, false, false, false, false, false, false, false, false, false, false, false, false, false, false, false, false] (by as_aux_lemma => kernel_rfl) (fun _ _ _ _ _ h => h) (SS.out _ n4.out) (by as_aux_lemma => kernel_rfl) (by kernel_rfl) (by kernel_rfl) ?_
                  simp only [List.drop_succ_cons, List.drop_zero, List.take_succ_cons, List.take_zero]
                  iterate 3 (go_big_quiet_step (fail))
                  refine wpQuiet_nil ?_
                  as_aux_lemma =>
                    refine wpAnyH_ready (rs := [79]) (by as_aux_lemma => kernel_rfl) (by simp) ?_
                    refine AllReadyH.cons rfl (fun K hK => ?_) AllReadyH.nil
                    go_simp
                    refine (C5.out _ n4.out).mono ?_
                    rintro e y5 ⟨rfl, hb⟩
                    have n5 := hide (Nx.trans n4.out hb)
                    clear hb
                    refine hK.out _ _ (SS.out _ n5.out) (fun hHeld => ?_)
                    clear hK K hHeld
                    (try simp only [Act.put, List.setIfInBounds_toArray, List.set_cons_zero, List.set_cons_succ])
                    as_aux_lemma =>
                      refine Seg.seg 80 4 18 #[true, true, true, true, true, true, true, true, true, true, true, true, true, true, true, true, true, true, true, true, true, true, true, true, true, true, true, true, true, true, true, true, true, true, true, true, true, true, true, true, true, true, true, true, true, true, true, true, true, true, true, true, true, true, true, true, true, true, true, true, true, true, true, true, true, true, true, true, true, true, true, true, true, true, true, true, true, true, true, true, true, true, true, true, false, false, false, false, false, false, false, false, false, false, false, false, false, false, false, false, false, false] (by as_aux_lemma => kernel_rfl) (fun _ _ _ _ _ h => h) (SS.out _ n5.out) (by as_aux_lemma => kernel_rfl) (by kernel_rfl) (by kernel_rfl) ?_
                      simp only [List.drop_succ_cons, List.drop_zero, List.take_succ_cons, List.take_zero]
                      iterate 4 (go_big_quiet_step (fail))
                      refine wpQuiet_nil ?_
                      as_aux_lemma =>
                        refine wpAnyH_ready (rs := [84]) (by as_aux_lemma => kernel_rfl) (by simp) ?_
                        refine AllReadyH.cons rfl (fun K hK => ?_) AllReadyH.nil
                        go_simp
                        refine (C6.out _ n5.out).mono ?_
                        rintro e y6 ⟨rfl, hb⟩
                        have n6 := hide (Nx.trans n5.out hb)
                        clear hb
                        refine hK.out _ _ (SS.out _ n6.out) (fun hHeld => ?_)
                        clear hK K hHeld
                        (try simp only [Act.put, List.setIfInBounds_toArray, List.set_cons_zero, List.set_cons_succ])
                        as_aux_lemma =>
                          refine Seg.seg 85 13 4 #[true, true, true, true, true, true, true, true, true, true, true, true, true, true, true, true, true, true, true, true, true, true, true, true, true, true, true, true, true, true, true, true, true, true, true, true, true, true, true, true, true, true, true, true, true, true, true, true, true, true, true, true, true, true, true, true, true, true, true, true, true, true, true, true, true, true, true, true, true, true, true, true, true, true, true, true, true, true, true, true, true, true, true, true, true, true, true, true, true, true, true, true, true, true, true, true, true, true, false, false, false, false] (by as_aux_lemma => kernel_rfl) (fun _ _ _ _ _ h => h) (SS.out _ n6.out) (by as_aux_lemma => kernel_rfl) (by kernel_rfl) (by kernel_rfl) ?_
                          simp only [List.drop_succ_cons, List.drop_zero, List.take_succ_cons, List.take_zero]
                          iterate 12 (go_big_quiet_step (fail))
                          iterate 1 (go_big_quiet_step (fail))
                          refine wpQuiet_nil ?_
                          as_aux_lemma =>
                            refine wpAnyH_ready (rs := [98]) (by as_aux_lemma => kernel_rfl) (by simp) ?_
                            refine AllReadyH.cons rfl (fun K hK => ?_) AllReadyH.nil
                            go_simp
                            refine (C7.out _ n6.out).mono ?_
                            rintro e y7 ⟨rfl, hb⟩
                            have n7 := hide (Nx.trans n6.out hb)
                            clear hb
                            refine hK.out _ _ (SS.out _ n7.out) (fun hHeld => ?_)
                            clear hK K hHeld
                            (try simp only [Act.put, List.setIfInBounds_toArray, List.set_cons_zero, List.set_cons_succ])
                            as_aux_lemma =>
                              refine Seg.seg 99 3 0 #[true, true, true, true, true, true, true, true, true, true, true, true, true, true, true, true, true, true, true, true, true, true, true, true, true, true, true, true, true, true, true, true, true, true, true, true, true, true, true, true, true, true, true, true, true, true, true, true, true, true, true, true, true, true, true, true, true, true, true, true, true, true, true, true, true, true, true, true, true, true, true, true, true, true, true, true, true, true, true, true, true, true, true, true, true, true, true, true, true, true, true, true, true, true, true, true, true, true, true, true, true, true] (by as_aux_lemma => kernel_rfl) (fun _ _ _ _ _ h => h) (SS.out _ n7.out) (by as_aux_lemma => kernel_rfl) (by kernel_rfl) (by kernel_rfl) ?_
                              simp only [List.drop_succ_cons, List.drop_zero, List.take_succ_cons, List.take_zero]
                              iterate 3 (go_big_quiet_step (fail))
                              refine wpQuiet_nil ?_
                              refine wpAnyH_done (by as_aux_lemma => kernel_rfl) ?_ _
                              refine NoPanic.normal ?_
                              have HF := hide (Nx.trans B_32.out n7.out)
                              go_wp2
                              go_ret
                              exact ⟨rfl, HF.out⟩
end Go.Proofs.Ytmeigdgnfdgnhaa.Con
