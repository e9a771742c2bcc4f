/- awake: the document's example. -/
import Derived.Test.YtmeigdgnfdgnhaaJBx
namespace Go.Proofs.Ytmeigdgnfdgnhaa.Con
open Go.RowKit Go.Proofs.Ytmeigdgnfdgnhaa.Pm
set_option linter.unusedVariables false
set_option linter.unusedSimpArgs false
def p0 : List St := [(0, 3), (1, 2)]
theorem good0 : good p0 = true := by decide
theorem ran0 : ran ⟨1, p0, 0, 0⟩ 2 = 2 := by decide
theorem jrun0 : jrun ⟨1, p0, 0, 0⟩ 2 = ⟨1, p0, 0, 2⟩ := by unfold jrun; rw [ran0]; rfl
theorem left0 : jleft ⟨1, p0, 0, 0⟩ = 5 := by decide
theorem left2 : jleft ⟨1, p0, 0, 2⟩ = 3 := by decide
theorem good2 : jgood ⟨1, p0, 0, 2⟩ = true := by decide
set_option maxHeartbeats 4000000 in
theorem awake_any (w : World) : Calls Try.prog 6 #[] w fun e w' => e = .returned (.bool true) ∧ Nx w w' := by
  have B_0 := hide (Nx.alloc w (.cells #[.int .i64 0, .int .i64 3, .int .i64 1, .int .i64 2] 24))
  have S0 := hide (Rz.fresh (L := p0) (n := 2) (heap_alloc_new w (.cells #[.int .i64 0, .int .i64 3, .int .i64 1, .int .i64 2] 24)) rfl rfl (by decide)).sl
  have E1 := hide good0
  have E2 := hide ran0
  have E3 := hide jrun0
  have E4 := hide left0
  have E5 := hide left2
  have E6 := hide good2
  have hl : p0.length ≤ 1000 := by decide
  go_enter Try.func6, Try.ntmps6
  go_wp2_with fail
  generalize hw : w.alloc (.cells #[.int .i64 0, .int .i64 3, .int .i64 1, .int .i64 2] 24) = w0 at *
  clear hw
  generalize (Value.slice (some ⟨w.heap.size, 0, none⟩) 2 2) = v0 at *
  generalize p0 = P at *
  refine (new_ok S0.out (by omega) E1.out).mono ?_
  rintro e w1 ⟨x, rfl, HR⟩
  obtain ⟨pn, cn, rfl, HS⟩ := HR.parts
  have hs2 := HS.out.2
  have B_1 := hide (Nx.trans B_0.out (hs2))
  clear B_0
  have RN := hide HS.out.1
  clear HS HR hs2
  clear S0
  have KN := hide (JB.new (j := ⟨1, P, 0, 0⟩) RN.out)
  have NN := hide (Nx.alloc w1 (.cells #[.int .i64 1, .slice pn P.length cn, .int .i64 0, .int .i64 0] 28))
  clear RN
  go_upto_region 2 with fail
  have B_2 := hide (Nx.trans B_1.out (NN.out))
  clear B_1
  generalize hw : w1.alloc (.cells #[.int .i64 1, .slice pn P.length cn, .int .i64 0, .int .i64 0] 28) = w2 at *
  have Kj_2 := KN
  clear KN NN hw
  generalize w1.heap.size = gKj at *
  have Kj_2 : Hid (JB w2 gKj ⟨1, P, 0, 0⟩) := Kj_2
  obtain ⟨px, cx, hx, sx⟩ := Kj_2.out.row
  obtain ⟨x0, x1, x2, x3⟩ := row_cells hx
  have Sx := hide sx
  clear hx sx
  go_wp2_with fail
  refine (run_any Sx.out hl (by omega) (by omega)).mono ?_
  rintro e w3 ⟨x, rfl, HR⟩
  rw [E2.out]
  rw [E3.out] at HR
  obtain ⟨pn, cn, rfl, HS⟩ := HR.parts
  have hs2 := HS.out.2
  clear x0 x1 x2 x3 Sx
  have Kj_3 := hide (Kj_2.out.below (hs2))
  have B_3 := hide (Nx.trans B_2.out (hs2))
  clear B_2 Kj_2
  have RN := hide HS.out.1
  clear HS HR hs2
  have KN := hide (JB.new (j := ⟨1, P, 0, 2⟩) RN.out)
  have NN := hide (Nx.alloc w3 (.cells #[.int .i64 1, .slice pn P.length cn, .int .i64 0, .int .i64 2] 28))
  clear RN
  go_upto_region 3 with fail
  have Kj_4 := hide (Kj_3.out.below (NN.out))
  have B_4 := hide (Nx.trans B_3.out (NN.out))
  clear B_3 Kj_3
  generalize hw : w3.alloc (.cells #[.int .i64 1, .slice pn P.length cn, .int .i64 0, .int .i64 2] 28) = w4 at *
  have Kk_4 := KN
  clear KN NN hw
  generalize w3.heap.size = gKk at *
  have Kk_4 : Hid (JB w4 gKk ⟨1, P, 0, 2⟩) := Kk_4
  obtain ⟨px, cx, hx, sx⟩ := Kk_4.out.row
  obtain ⟨x0, x1, x2, x3⟩ := row_cells hx
  have Sx := hide sx
  clear hx sx
  go_wp2_with fail
  refine (jleft_any Sx.out).mono ?_
  rintro e w5 ⟨rfl, hs2⟩
  rw [E5.out]
  clear x0 x1 x2 x3 Sx
  have Kj_5 := hide (Kj_4.out.below (hs2))
  have Kk_5 := hide (Kk_4.out.below (hs2))
  have B_5 := hide (Nx.trans B_4.out (hs2))
  clear B_4 Kj_4 Kk_4
  clear hs2
  obtain ⟨px, cx, hx, sx⟩ := Kk_5.out.row
  obtain ⟨x0, x1, x2, x3⟩ := row_cells hx
  have Sx := hide sx
  clear hx sx
  go_wp2_with fail
  refine (jgood_any Sx.out).mono ?_
  rintro e w6 ⟨rfl, hs2⟩
  rw [E6.out]
  clear x0 x1 x2 x3 Sx
  have Kj_6 := hide (Kj_5.out.below (hs2))
  have Kk_6 := hide (Kk_5.out.below (hs2))
  have B_6 := hide (Nx.trans B_5.out (hs2))
  clear B_5 Kj_5 Kk_5
  clear hs2
  obtain ⟨px, cx, hx, sx⟩ := Kj_6.out.row
  obtain ⟨x0, x1, x2, x3⟩ := row_cells hx
  have Sx := hide sx
  clear hx sx
  go_wp2_with fail
  refine (jleft_any Sx.out).mono ?_
  rintro e w7 ⟨rfl, hs2⟩
  rw [E4.out]
  clear x0 x1 x2 x3 Sx
  have Kj_7 := hide (Kj_6.out.below (hs2))
  have Kk_7 := hide (Kk_6.out.below (hs2))
  have B_7 := hide (Nx.trans B_6.out (hs2))
  clear B_6 Kj_6 Kk_6
  clear hs2
  go_wp2
  go_ret
  exact ⟨rfl, B_7.out⟩
end Go.Proofs.Ytmeigdgnfdgnhaa.Con
