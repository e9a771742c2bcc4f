/- CbsTurns: its Due is the first above. -/
import Derived.Test.YtegfhndcimkjoaaCbCon
import Derived.Deep.CutBlock
import Derived.Deep.CutRange
namespace Go.Proofs.Ytegfhndcimkjoaa.Cb
open Go.Proofs.Ytegfhndcimkjoaa.Tk Go.RowKit
set_option linter.unusedVariables false
set_option linter.unusedSimpArgs false
set_option maxHeartbeats 8000000 in
theorem turns_walk (hA : Hid AwakeC) (hG : Hid GoodC) (hT : Hid TurnC) (s : Sv) (now : Int) (w : World) :
    Calls Try.prog 7 #[svv s, .int .i64 now] w fun e w' => e = .returned (.bool true) ∧ Nx w w' := by
  obtain ⟨q, p, b0, d, m⟩ := s
  have HB0 := hide (Nx.alloc w (.cells #[.int .i64 q, .int .i64 p, .int .i64 b0, .int .i64 d, .int .i64 m] 24))
  have KS := hide (Vb.new w ⟨q, p, b0, d, m⟩)
  go_enter Try.func7, Try.ntmps7
  go_wp2_with fail
  refine (hA.out _).mono ?_
  rintro e w0 ⟨rfl, hb⟩
  have B_0 := hide (Nx.trans HB0.out hb)
  have Ks_0 : Hid (Vb w0 w.heap.size ⟨q, p, b0, d, m⟩) := hide (KS.out.below hb)
  clear hb HB0 KS
  generalize hgk : w.heap.size = gKs at Ks_0 ⊢
  obtain ⟨x0, x1, x2, x3, x4⟩ := row5 Ks_0.out.row
  cases ht : turnB ⟨q, p, b0, d, m⟩ now with
  | false =>
    have E1 := hide ht
    have E2 := hide (turn_n ht)
    clear ht
    go_wp2_with fail
    refine (hT.out ⟨q, p, b0, d, m⟩ now _).mono ?_
    rintro e w1 ⟨rfl, hs2⟩
    rw [E1.out]
    rw [E2.out]
    clear x0 x1 x2 x3 x4
    have Ks_1 := hide (Ks_0.out.below (hs2))
    have B_1 := hide (Nx.trans B_0.out (hs2))
    clear B_0 Ks_0
    clear hs2
    have bKt := hide B_1.out.size
    have neKsKt : Hid (gKs ≠ w1.heap.size) := hide (Nat.ne_of_lt Ks_1.out.lt)
    have KN := hide (Vb.new w1 ⟨q, p, b0, d, m⟩)
    have NN := hide (Nx.alloc w1 (.cells #[.int .i64 q, .int .i64 p, .int .i64 b0, .int .i64 d, .int .i64 m] 24))
    go_upto_region 4 with fail
    have Ks_2 := hide (Ks_1.out.below (NN.out))
    have B_2 := hide (Nx.trans B_1.out (NN.out))
    clear B_1 Ks_1
    generalize hw : w1.alloc (.cells #[.int .i64 q, .int .i64 p, .int .i64 b0, .int .i64 d, .int .i64 m] 24) = w2 at *
    have Kt_2 := KN
    clear KN NN hw
    generalize w1.heap.size = gKt at *
    have Kt_2 : Hid (Vb w2 gKt ⟨q, p, b0, d, m⟩) := Kt_2
    obtain ⟨x0, x1, x2, x3, x4⟩ := row5 Ks_2.out.row
    obtain ⟨y0, y1, y2, y3, y4⟩ := row5 Kt_2.out.row
    go_wp2
    go_ret
    exact ⟨rfl, B_2.out⟩
  | true =>
    obtain ⟨hgd, f1, f2, f3, f4, f5, f6, f7, f8, f9⟩ := turn_facts ht
    obtain ⟨hg, hn, _, hd, _⟩ := turnB_iff.1 ht
    obtain ⟨_, _, ⟨d0, d1⟩, _, _⟩ := (sgood_iff _).1 hgd
    obtain ⟨⟨q0, q1, q2⟩, _, ⟨d2, d3⟩, _, _⟩ := (sgood_iff _).1 hg
    obtain ⟨n0, n1⟩ := good_t hn
    have E1 := hide ht
    have hX := turn_y ht
    rw [hX] at hgd f5 f6 f7 f8 d0 d1
    simp only at f5 f6 f7 f8 f9 d0 d1 d2 d3 hd hX q0 q1 q2
    generalize nextOf now d p = xd at *
    have E2 := hide hX
    have E3 := hide hgd
    have s1 : IntKind.i64.wrap (xd - now) = xd - now := by rw [IntKind.wrap_i64]; omega
    have s2 : IntKind.i64.wrap (xd - d) = xd - d := by rw [IntKind.wrap_i64]; omega
    have s3 : (xd - d).tmod p = 0 := by rw [Int.tmod_eq_emod_of_nonneg (by omega)]; exact f8
    have s4 : d < xd := by omega
    have s5 : ¬ p = 0 := by omega
    clear ht hX hgd hg hn f8 f1 f2 f3 f4
    go_wp2_with fail
    refine (hT.out ⟨q, p, b0, d, m⟩ now _).mono ?_
    rintro e w1 ⟨rfl, hs2⟩
    rw [E1.out]
    rw [E2.out]
    clear x0 x1 x2 x3 x4
    have Ks_1 := hide (Ks_0.out.below (hs2))
    have B_1 := hide (Nx.trans B_0.out (hs2))
    clear B_0 Ks_0
    clear hs2
    have bKt := hide B_1.out.size
    have neKsKt : Hid (gKs ≠ w1.heap.size) := hide (Nat.ne_of_lt Ks_1.out.lt)
    have KN := hide (Vb.new w1 ⟨q, p, q, xd, 1⟩)
    have NN := hide (Nx.alloc w1 (.cells #[.int .i64 q, .int .i64 p, .int .i64 q, .int .i64 xd, .int .i64 1] 24))
    go_upto_region 6 with fail
    have Ks_2 := hide (Ks_1.out.below (NN.out))
    have B_2 := hide (Nx.trans B_1.out (NN.out))
    clear B_1 Ks_1
    generalize hw : w1.alloc (.cells #[.int .i64 q, .int .i64 p, .int .i64 q, .int .i64 xd, .int .i64 1] 24) = w2 at *
    have Kt_2 := KN
    clear KN NN hw
    generalize w1.heap.size = gKt at *
    have Kt_2 : Hid (Vb w2 gKt ⟨q, p, q, xd, 1⟩) := Kt_2
    obtain ⟨x0, x1, x2, x3, x4⟩ := row5 Ks_2.out.row
    obtain ⟨y0, y1, y2, y3, y4⟩ := row5 Kt_2.out.row
    go_wp2_with fail
    refine (hG.out ⟨q, p, q, xd, 1⟩ _).mono ?_
    rintro e w3 ⟨rfl, hs2⟩
    rw [E3.out]
    clear x0 x1 x2 x3 x4 y0 y1 y2 y3 y4
    have Ks_3 := hide (Ks_2.out.below (hs2))
    have Kt_3 := hide (Kt_2.out.below (hs2))
    have B_3 := hide (Nx.trans B_2.out (hs2))
    clear B_2 Ks_2 Kt_2
    clear hs2
    go_wp2
    go_ret
    exact ⟨rfl, B_3.out⟩
end Go.Proofs.Ytegfhndcimkjoaa.Cb
