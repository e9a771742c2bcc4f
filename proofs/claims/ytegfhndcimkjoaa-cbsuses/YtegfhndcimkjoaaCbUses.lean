/- CbsUses: so much, and then so much. -/
import Derived.Test.YtegfhndcimkjoaaCbCon
import Derived.Deep.CutBlock
import Derived.Deep.CutRange
namespace Go.Proofs.Ytegfhndcimkjoaa.Cb
open Go.Proofs.Ytegfhndcimkjoaa.Tk Go.RowKit
set_option linter.unusedVariables false
set_option linter.unusedSimpArgs false
set_option maxHeartbeats 8000000 in
theorem uses_walk (hA : Hid AwakeC) (hG : Hid GoodC) (hU : Hid UseC) (s : Sv) (a b : Int) (w : World) :
    Calls Try.prog 8 #[svv s, .int .i64 a, .int .i64 b] w fun e w' => e = .returned (.bool true) ∧ Nx w w' := by
  obtain ⟨q, p, b0, d, m⟩ := s
  have HB0 := hide (Nx.alloc w (.cells #[.int .i64 q, .int .i64 p, .int .i64 b0, .int .i64 d, .int .i64 m] 24))
  have KS := hide (Vb.new w ⟨q, p, b0, d, m⟩)
  go_enter Try.func8, Try.ntmps8
  go_wp2_with fail
  refine (hA.out _).mono ?_
  rintro e w0 ⟨rfl, hb⟩
  have B_0 := hide (Nx.trans HB0.out hb)
  have Ks_0 : Hid (Vb w0 w.heap.size ⟨q, p, b0, d, m⟩) := hide (KS.out.below hb)
  clear hb HB0 KS
  generalize hgk : w.heap.size = gKs at Ks_0 ⊢
  obtain ⟨x0, x1, x2, x3, x4⟩ := row5 Ks_0.out.row
  go_wp2_with fail
  refine (hG.out ⟨q, p, b0, d, m⟩ w0).mono ?_
  rintro e w1 ⟨rfl, hs2⟩
  clear x0 x1 x2 x3 x4
  have Ks_1 := hide (Ks_0.out.below (hs2))
  have B_1 := hide (Nx.trans B_0.out (hs2))
  clear B_0 Ks_0
  clear hs2
  obtain ⟨x0, x1, x2, x3, x4⟩ := row5 Ks_1.out.row
  cases hg : sgood ⟨q, p, b0, d, m⟩ with
  | false =>
    go_wp2
    go_ret
    exact ⟨rfl, B_1.out⟩
  | true =>
    obtain ⟨⟨g1, g2, g3⟩, ⟨g4, g5⟩, _, _, _⟩ := (sgood_iff _).1 hg
    simp only at g1 g2 g3 g4 g5
    by_cases hm : m = 1
    rotate_left
    · have hm1 : (m == 1) = false := by simp [hm]
      have hm2 : (m != 1) = true := by simp [hm]
      go_wp2
      go_ret
      exact ⟨rfl, B_1.out⟩
    subst hm
    by_cases h0 : a < 1
    · skip
      go_wp2
      go_ret
      exact ⟨rfl, B_1.out⟩
    by_cases h1 : b < 1
    · skip
      go_wp2
      go_ret
      exact ⟨rfl, B_1.out⟩
    by_cases h2 : 1099511627776 < a
    · skip
      go_wp2
      go_ret
      exact ⟨rfl, B_1.out⟩
    by_cases h3 : 1099511627776 < b
    · skip
      go_wp2
      go_ret
      exact ⟨rfl, B_1.out⟩
    have LW := uses_law (a := a) (b := b) hg rfl (by omega) (by omega)
    have wab : IntKind.i64.wrap (a + b) = a + b := by rw [IntKind.wrap_i64]; omega
    by_cases hc : a + b ≤ b0
    · obtain ⟨e1, e2, e3, e4, e5, e6⟩ := LW.2 hc
      have u1 : use ⟨q, p, b0, d, 1⟩ a = ⟨q, p, b0 - a, d, 1⟩ := by
        unfold use; rw [if_pos e1]
        have : modeB (b0 - a) = 1 := by unfold modeB; rw [if_neg (by omega)]
        simp only [this]
      have u3 : use ⟨q, p, b0, d, 1⟩ (a + b) = ⟨q, p, b0 - a - b, d, modeB (b0 - a - b)⟩ := by
        unfold use; rw [if_pos e3]; simp only [show b0 - (a + b) = b0 - a - b by omega]
      rw [u1] at e2 e4
      rw [u3] at e4
      have hmode : ((modeB (b0 - a - b) == 2) == (b0 - a - b == 0)) = true := by
        have := mode_facts (b0 - a - b) (by omega)
        by_cases h : b0 - a - b = 0
        · rw [this.2.2.2.2 h, h]; rfl
        · have h2 : modeB (b0 - a - b) ≠ 2 := fun hh => h (this.2.2.2.1 hh)
          rw [show (modeB (b0 - a - b) == 2) = false from by rw [beq_eq_false_iff_ne]; exact h2, show (b0 - a - b == 0) = false from by rw [beq_eq_false_iff_ne]; exact h]; rfl
      have w1' : IntKind.i64.wrap (b0 - a) = b0 - a := by rw [IntKind.wrap_i64]; omega
      have w2' : IntKind.i64.wrap (b0 - a - b) = b0 - a - b := by rw [IntKind.wrap_i64]; omega
      have e1 := hide e1
      have e2 := hide e2
      have e3 := hide e3
      have e4 := hide e4
      have u1 := hide u1
      have u3 := hide u3
      clear LW e5 e6 hg
      generalize modeB (b0 - a - b) = mm at *
      go_wp2_with fail
      refine (hU.out ⟨q, p, b0, d, 1⟩ a _).mono ?_
      rintro e w2 ⟨rfl, hs2⟩
      rw [e1.out]
      rw [u1.out]
      clear x0 x1 x2 x3 x4
      have Ks_2 := hide (Ks_1.out.below (hs2))
      have B_2 := hide (Nx.trans B_1.out (hs2))
      clear B_1 Ks_1
      clear hs2
      have bKx := hide B_2.out.size
      have neKsKx : Hid (gKs ≠ w2.heap.size) := hide (Nat.ne_of_lt Ks_2.out.lt)
      have KN := hide (Vb.new w2 ⟨q, p, b0 - a, d, 1⟩)
      have NN := hide (Nx.alloc w2 (.cells #[.int .i64 q, .int .i64 p, .int .i64 (b0 - a), .int .i64 d, .int .i64 1] 24))
      go_upto_region 6 with fail
      have Ks_3 := hide (Ks_2.out.below (NN.out))
      have B_3 := hide (Nx.trans B_2.out (NN.out))
      clear B_2 Ks_2
      generalize hw : w2.alloc (.cells #[.int .i64 q, .int .i64 p, .int .i64 (b0 - a), .int .i64 d, .int .i64 1] 24) = w3 at *
      have Kx_3 := KN
      clear KN NN hw
      generalize w2.heap.size = gKx at *
      have Kx_3 : Hid (Vb w3 gKx ⟨q, p, b0 - a, d, 1⟩) := Kx_3
      obtain ⟨x0, x1, x2, x3, x4⟩ := row5 Kx_3.out.row
      go_wp2_with fail
      refine (hU.out ⟨q, p, b0 - a, d, 1⟩ b _).mono ?_
      rintro e w4 ⟨rfl, hs2⟩
      rw [e2.out]
      rw [e4.out]
      clear x0 x1 x2 x3 x4
      have Ks_4 := hide (Ks_3.out.below (hs2))
      have Kx_4 := hide (Kx_3.out.below (hs2))
      have B_4 := hide (Nx.trans B_3.out (hs2))
      clear B_3 Ks_3 Kx_3
      clear hs2
      have bKy := hide B_4.out.size
      have neKsKy : Hid (gKs ≠ w4.heap.size) := hide (Nat.ne_of_lt Ks_4.out.lt)
      have neKxKy : Hid (gKx ≠ w4.heap.size) := hide (Nat.ne_of_lt Kx_4.out.lt)
      have KN := hide (Vb.new w4 ⟨q, p, b0 - a - b, d, mm⟩)
      have NN := hide (Nx.alloc w4 (.cells #[.int .i64 q, .int .i64 p, .int .i64 (b0 - a - b), .int .i64 d, .int .i64 mm] 24))
      go_upto_region 7 with fail
      have Ks_5 := hide (Ks_4.out.below (NN.out))
      have Kx_5 := hide (Kx_4.out.below (NN.out))
      have B_5 := hide (Nx.trans B_4.out (NN.out))
      clear B_4 Ks_4 Kx_4
      generalize hw : w4.alloc (.cells #[.int .i64 q, .int .i64 p, .int .i64 (b0 - a - b), .int .i64 d, .int .i64 mm] 24) = w5 at *
      have Ky_5 := KN
      clear KN NN hw
      generalize w4.heap.size = gKy at *
      have Ky_5 : Hid (Vb w5 gKy ⟨q, p, b0 - a - b, d, mm⟩) := Ky_5
      obtain ⟨x0, x1, x2, x3, x4⟩ := row5 Ks_5.out.row
      go_wp2_with fail
      refine (hU.out ⟨q, p, b0, d, 1⟩ (a + b) _).mono ?_
      rintro e w6 ⟨rfl, hs2⟩
      rw [e3.out]
      rw [u3.out]
      clear x0 x1 x2 x3 x4
      have Ks_6 := hide (Ks_5.out.below (hs2))
      have Kx_6 := hide (Kx_5.out.below (hs2))
      have Ky_6 := hide (Ky_5.out.below (hs2))
      have B_6 := hide (Nx.trans B_5.out (hs2))
      clear B_5 Ks_5 Kx_5 Ky_5
      clear hs2
      have bKz := hide B_6.out.size
      have neKsKz : Hid (gKs ≠ w6.heap.size) := hide (Nat.ne_of_lt Ks_6.out.lt)
      have neKxKz : Hid (gKx ≠ w6.heap.size) := hide (Nat.ne_of_lt Kx_6.out.lt)
      have neKyKz : Hid (gKy ≠ w6.heap.size) := hide (Nat.ne_of_lt Ky_6.out.lt)
      have KN := hide (Vb.new w6 ⟨q, p, b0 - a - b, d, mm⟩)
      have NN := hide (Nx.alloc w6 (.cells #[.int .i64 q, .int .i64 p, .int .i64 (b0 - a - b), .int .i64 d, .int .i64 mm] 24))
      go_upto_region 8 with fail
      have Ks_7 := hide (Ks_6.out.below (NN.out))
      have Kx_7 := hide (Kx_6.out.below (NN.out))
      have Ky_7 := hide (Ky_6.out.below (NN.out))
      have B_7 := hide (Nx.trans B_6.out (NN.out))
      clear B_6 Ks_6 Kx_6 Ky_6
      generalize hw : w6.alloc (.cells #[.int .i64 q, .int .i64 p, .int .i64 (b0 - a - b), .int .i64 d, .int .i64 mm] 24) = w7 at *
      have Kz_7 := KN
      clear KN NN hw
      generalize w6.heap.size = gKz at *
      have Kz_7 : Hid (Vb w7 gKz ⟨q, p, b0 - a - b, d, mm⟩) := Kz_7
      obtain ⟨x0, x1, x2, x3, x4⟩ := row5 Ks_7.out.row
      obtain ⟨y0, y1, y2, y3, y4⟩ := row5 Ky_7.out.row
      obtain ⟨z0, z1, z2, z3, z4⟩ := row5 Kz_7.out.row
      have hc2 : ¬ b0 < a + b := by omega
      generalize hR : b0 - a - b = R at *
      go_wp2
      go_ret
      exact ⟨rfl, B_7.out⟩
    · obtain ⟨e3, u3, e2⟩ := LW.1 (by show b0 < a + b; omega)
      have e3 := hide e3
      have u3 := hide u3
      obtain ⟨X, hX⟩ : ∃ X, use ⟨q, p, b0, d, 1⟩ a = X := ⟨_, rfl⟩
      obtain ⟨E, hE⟩ : ∃ E, useE ⟨q, p, b0, d, 1⟩ a = E := ⟨_, rfl⟩
      rw [hX, hE] at e2
      obtain ⟨Y, hY⟩ : ∃ Y, use X b = Y := ⟨_, rfl⟩
      obtain ⟨F, hF⟩ : ∃ F, useE X b = F := ⟨_, rfl⟩
      rw [hF] at e2
      obtain ⟨xq, xp, xb, xd, xm⟩ := X
      obtain ⟨yq, yp, yb, yd, ym⟩ := Y
      have hX := hide hX
      have hE := hide hE
      have hY := hide hY
      have hF := hide hF
      have hEF := hide e2
      have hc2 : b0 < a + b := by omega
      clear LW hg e2
      go_wp2_with fail
      refine (hU.out ⟨q, p, b0, d, 1⟩ a _).mono ?_
      rintro e w2 ⟨rfl, hs2⟩
      rw [hE.out]
      rw [hX.out]
      clear x0 x1 x2 x3 x4
      have Ks_2 := hide (Ks_1.out.below (hs2))
      have B_2 := hide (Nx.trans B_1.out (hs2))
      clear B_1 Ks_1
      clear hs2
      have bKx := hide B_2.out.size
      have neKsKx : Hid (gKs ≠ w2.heap.size) := hide (Nat.ne_of_lt Ks_2.out.lt)
      have KN := hide (Vb.new w2 ⟨xq, xp, xb, xd, xm⟩)
      have NN := hide (Nx.alloc w2 (.cells #[.int .i64 xq, .int .i64 xp, .int .i64 xb, .int .i64 xd, .int .i64 xm] 24))
      go_upto_region 6 with fail
      have Ks_3 := hide (Ks_2.out.below (NN.out))
      have B_3 := hide (Nx.trans B_2.out (NN.out))
      clear B_2 Ks_2
      generalize hw : w2.alloc (.cells #[.int .i64 xq, .int .i64 xp, .int .i64 xb, .int .i64 xd, .int .i64 xm] 24) = w3 at *
      have Kx_3 := KN
      clear KN NN hw
      generalize w2.heap.size = gKx at *
      have Kx_3 : Hid (Vb w3 gKx ⟨xq, xp, xb, xd, xm⟩) := Kx_3
      obtain ⟨x0, x1, x2, x3, x4⟩ := row5 Kx_3.out.row
      go_wp2_with fail
      refine (hU.out ⟨xq, xp, xb, xd, xm⟩ b _).mono ?_
      rintro e w4 ⟨rfl, hs2⟩
      rw [hF.out]
      rw [hY.out]
      clear x0 x1 x2 x3 x4
      have Ks_4 := hide (Ks_3.out.below (hs2))
      have Kx_4 := hide (Kx_3.out.below (hs2))
      have B_4 := hide (Nx.trans B_3.out (hs2))
      clear B_3 Ks_3 Kx_3
      clear hs2
      have bKy := hide B_4.out.size
      have neKsKy : Hid (gKs ≠ w4.heap.size) := hide (Nat.ne_of_lt Ks_4.out.lt)
      have neKxKy : Hid (gKx ≠ w4.heap.size) := hide (Nat.ne_of_lt Kx_4.out.lt)
      have KN := hide (Vb.new w4 ⟨yq, yp, yb, yd, ym⟩)
      have NN := hide (Nx.alloc w4 (.cells #[.int .i64 yq, .int .i64 yp, .int .i64 yb, .int .i64 yd, .int .i64 ym] 24))
      go_upto_region 7 with fail
      have Ks_5 := hide (Ks_4.out.below (NN.out))
      have Kx_5 := hide (Kx_4.out.below (NN.out))
      have B_5 := hide (Nx.trans B_4.out (NN.out))
      clear B_4 Ks_4 Kx_4
      generalize hw : w4.alloc (.cells #[.int .i64 yq, .int .i64 yp, .int .i64 yb, .int .i64 yd, .int .i64 ym] 24) = w5 at *
      have Ky_5 := KN
      clear KN NN hw
      generalize w4.heap.size = gKy at *
      have Ky_5 : Hid (Vb w5 gKy ⟨yq, yp, yb, yd, ym⟩) := Ky_5
      obtain ⟨x0, x1, x2, x3, x4⟩ := row5 Ks_5.out.row
      go_wp2_with fail
      refine (hU.out ⟨q, p, b0, d, 1⟩ (a + b) _).mono ?_
      rintro e w6 ⟨rfl, hs2⟩
      rw [e3.out]
      rw [u3.out]
      clear x0 x1 x2 x3 x4
      have Ks_6 := hide (Ks_5.out.below (hs2))
      have Kx_6 := hide (Kx_5.out.below (hs2))
      have Ky_6 := hide (Ky_5.out.below (hs2))
      have B_6 := hide (Nx.trans B_5.out (hs2))
      clear B_5 Ks_5 Kx_5 Ky_5
      clear hs2
      have bKz := hide B_6.out.size
      have neKsKz : Hid (gKs ≠ w6.heap.size) := hide (Nat.ne_of_lt Ks_6.out.lt)
      have neKxKz : Hid (gKx ≠ w6.heap.size) := hide (Nat.ne_of_lt Kx_6.out.lt)
      have neKyKz : Hid (gKy ≠ w6.heap.size) := hide (Nat.ne_of_lt Ky_6.out.lt)
      have KN := hide (Vb.new w6 ⟨q, p, b0, d, 1⟩)
      have NN := hide (Nx.alloc w6 (.cells #[.int .i64 q, .int .i64 p, .int .i64 b0, .int .i64 d, .int .i64 1] 24))
      go_upto_region 8 with fail
      have Ks_7 := hide (Ks_6.out.below (NN.out))
      have Kx_7 := hide (Kx_6.out.below (NN.out))
      have Ky_7 := hide (Ky_6.out.below (NN.out))
      have B_7 := hide (Nx.trans B_6.out (NN.out))
      clear B_6 Ks_6 Kx_6 Ky_6
      generalize hw : w6.alloc (.cells #[.int .i64 q, .int .i64 p, .int .i64 b0, .int .i64 d, .int .i64 1] 24) = w7 at *
      have Kz_7 := KN
      clear KN NN hw
      generalize w6.heap.size = gKz at *
      have Kz_7 : Hid (Vb w7 gKz ⟨q, p, b0, d, 1⟩) := Kz_7
      obtain ⟨x0, x1, x2, x3, x4⟩ := row5 Ks_7.out.row
      obtain ⟨z0, z1, z2, z3, z4⟩ := row5 Kz_7.out.row
      by_cases hE0 : E = 0
      · have hF1 := hEF.out hE0
        subst hE0
        subst hF1
        go_wp2
        go_ret
        exact ⟨rfl, B_7.out⟩
      · have hE1 : (E == 0) = false := by simp [hE0]
        have hE2 : (E != 0) = true := by simp [hE0]
        go_wp2
        go_ret
        exact ⟨rfl, B_7.out⟩
end Go.Proofs.Ytegfhndcimkjoaa.Cb
