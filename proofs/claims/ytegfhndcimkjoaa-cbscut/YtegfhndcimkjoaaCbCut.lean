/- CbsCut: woken ahead of its Due. -/
import Derived.Test.YtegfhndcimkjoaaCbCon
import Derived.Deep.CutBlock
import Derived.Deep.CutRange
namespace Go.Proofs.Ytegfhndcimkjoaa.Cb
open Go.Proofs.Ytegfhndcimkjoaa.Tk Go.RowKit
set_option linter.unusedVariables false
set_option linter.unusedSimpArgs false
set_option maxHeartbeats 8000000 in
theorem cut_walk (hA : Hid AwakeC) (hG : Hid GoodC) (hW : Hid WakeC) (s : Sv) (now : Int) (w : World) :
    Calls Try.prog 6 #[svv s, .int .i64 now] w fun e w' => e = .returned (.bool true) ∧ Nx w w' := by
  obtain ⟨q, p, b0, d, m⟩ := s
  have HB0 := hide (Nx.alloc w (.cells #[.int .i64 q, .int .i64 p, .int .i64 b0, .int .i64 d, .int .i64 m] 24))
  have KS := hide (Vb.new w ⟨q, p, b0, d, m⟩)
  go_enter Try.func6, Try.ntmps6
  go_wp2_with fail
  refine (hA.out _).mono ?_
  rintro e w0 ⟨rfl, hb⟩
  have B_0 := hide (Nx.trans HB0.out hb)
  have Ks_0 : Hid (Vb w0 w.heap.size ⟨q, p, b0, d, m⟩) := hide (KS.out.below hb)
  clear hb HB0 KS
  generalize hgk : w.heap.size = gKs at Ks_0 ⊢
  obtain ⟨x0, x1, x2, x3, x4⟩ := row5 Ks_0.out.row
  go_wp2_with fail
  refine (hG.out ⟨q, p, b0, d, m⟩ w0).mono ?_
  rintro e w1 ⟨rfl, hs2⟩
  clear x0 x1 x2 x3 x4
  have Ks_1 := hide (Ks_0.out.below (hs2))
  have B_1 := hide (Nx.trans B_0.out (hs2))
  clear B_0 Ks_0
  clear hs2
  obtain ⟨x0, x1, x2, x3, x4⟩ := row5 Ks_1.out.row
  cases hg : sgood ⟨q, p, b0, d, m⟩ with
  | false =>
    go_wp2
    go_ret
    exact ⟨rfl, B_1.out⟩
  | true =>
    obtain ⟨⟨g1, g2, g3⟩, ⟨g4, g5⟩, ⟨g6, g7⟩, _, _⟩ := (sgood_iff _).1 hg
    simp only at g1 g2 g3 g4 g5 g6 g7
    by_cases hm : m = 0
    rotate_left
    · have hm1 : (m == 0) = false := by simp [hm]
      have hm2 : (m != 0) = true := by simp [hm]
      go_wp2
      go_ret
      exact ⟨rfl, B_1.out⟩
    subst hm
    by_cases h0 : now < 0
    · skip
      go_wp2
      go_ret
      exact ⟨rfl, B_1.out⟩
    by_cases h1 : d ≤ now
    · skip
      go_wp2
      go_ret
      exact ⟨rfl, B_1.out⟩
    have LW := cut_law hg rfl (show 0 ≤ now by omega) (show now < d by omega)
    obtain ⟨⟨k1, k2⟩, k9, k10, ⟨k3, k4⟩, k5, k6, k7, k8⟩ := cut_facts (now := now) hg (show now < d by omega)
    have ex : leftX ⟨q, p, b0, d, 0⟩ now = min (d - now) p := rfl
    simp only at LW k2 k3 k4 k5 k6 k7 k8 k9 k10
    obtain ⟨c, hcdef⟩ : ∃ c, cutB ⟨q, p, b0, d, 0⟩ now = c := ⟨_, rfl⟩
    obtain ⟨X, hXdef⟩ : ∃ X, leftX ⟨q, p, b0, d, 0⟩ now = X := ⟨_, rfl⟩
    rw [hcdef] at LW k1 k2 k9 k10
    rw [hXdef] at k3 k4 k5 k6 k9 k10 ex
    have hmode : ((modeB c == 1) == decide (0 < c)) = true := by
      have := mode_facts c k1
      by_cases h : 0 < c
      · rw [this.2.2.1.2 h, decide_eq_true h]; rfl
      · have h2 : modeB c ≠ 1 := fun hh => h (this.2.2.1.1 hh)
        rw [show (modeB c == 1) = false from by rw [beq_eq_false_iff_ne]; exact h2, decide_eq_false h]; rfl
    have hmode0 : (modeB c == 0) = false := by have := mode_facts c k1; rw [beq_eq_false_iff_ne]; exact this.2.1
    have hmode1 : (modeB c != 0) = true := by have := mode_facts c k1; rw [bne_iff_ne]; exact this.2.1
    have m1 := mul_bd31 (a := c) (b := p) k1 (by omega) (by omega) g3
    have m2 : (c + 1) * p = c * p + p := by rw [Int.add_mul, Int.one_mul]
    have w1' : IntKind.i64.wrap (c * p) = c * p := by rw [IntKind.wrap_i64]; omega
    have w2' : IntKind.i64.wrap (X * q) = X * q := by rw [IntKind.wrap_i64]; omega
    have w3' : IntKind.i64.wrap ((c + 1) * p) = (c + 1) * p := by rw [IntKind.wrap_i64]; omega
    have w4' : IntKind.i64.wrap (c + 1) = c + 1 := by rw [IntKind.wrap_i64]; omega
    have w5' : IntKind.i64.wrap (d - now) = d - now := by rw [IntKind.wrap_i64]; omega
    have d1 : decide (c ≤ b0) = true := decide_eq_true k2
    have d2 : decide (c * p ≤ X * q) = true := decide_eq_true k9
    have LW := hide LW
    clear hg hcdef hXdef k5 k6 k7 k8 m1 m2
    generalize modeB c = mm at *
    go_wp2_with fail
    refine (hW.out ⟨q, p, b0, d, 0⟩ now _).mono ?_
    rintro e w2 ⟨rfl, hs2⟩
    rw [LW.out.1]
    rw [LW.out.2]
    clear x0 x1 x2 x3 x4
    have Ks_2 := hide (Ks_1.out.below (hs2))
    have B_2 := hide (Nx.trans B_1.out (hs2))
    clear B_1 Ks_1
    clear hs2
    have bKt := hide B_2.out.size
    have neKsKt : Hid (gKs ≠ w2.heap.size) := hide (Nat.ne_of_lt Ks_2.out.lt)
    have KN := hide (Vb.new w2 ⟨q, p, c, d, mm⟩)
    have NN := hide (Nx.alloc w2 (.cells #[.int .i64 q, .int .i64 p, .int .i64 c, .int .i64 d, .int .i64 mm] 24))
    go_upto_region 6 with fail
    have Ks_3 := hide (Ks_2.out.below (NN.out))
    have B_3 := hide (Nx.trans B_2.out (NN.out))
    clear B_2 Ks_2
    generalize hw : w2.alloc (.cells #[.int .i64 q, .int .i64 p, .int .i64 c, .int .i64 d, .int .i64 mm] 24) = w3 at *
    have Kt_3 := KN
    clear KN NN hw
    generalize w2.heap.size = gKt at *
    have Kt_3 : Hid (Vb w3 gKt ⟨q, p, c, d, mm⟩) := Kt_3
    obtain ⟨x0, x1, x2, x3, x4⟩ := row5 Ks_3.out.row
    obtain ⟨y0, y1, y2, y3, y4⟩ := row5 Kt_3.out.row
    have d3 : c ≠ b0 → decide (X * q < (c + 1) * p) = true := fun hne => decide_eq_true (k10.elim (fun h => absurd h hne) (fun h => h))
    clear k9 k10
    by_cases hx : p < d - now
    · have eX : X = p := by omega
      subst eX
      clear ex
      by_cases hcb : c = b0
      · have e1 : (c == b0) = true := by simp [hcb]
        clear d3
        subst hcb
        go_wp2
        go_ret
        exact ⟨rfl, B_3.out⟩
      · have d4 := d3 hcb
        have e1 : (c == b0) = false := by simp [hcb]
        clear d3
        go_wp2
        go_ret
        exact ⟨rfl, B_3.out⟩
    · have eX : X = d - now := by omega
      subst eX
      clear ex
      by_cases hcb : c = b0
      · have e1 : (c == b0) = true := by simp [hcb]
        clear d3
        subst hcb
        go_wp2
        go_ret
        exact ⟨rfl, B_3.out⟩
      · have d4 := d3 hcb
        have e1 : (c == b0) = false := by simp [hcb]
        clear d3
        go_wp2
        go_ret
        exact ⟨rfl, B_3.out⟩
end Go.Proofs.Ytegfhndcimkjoaa.Cb
