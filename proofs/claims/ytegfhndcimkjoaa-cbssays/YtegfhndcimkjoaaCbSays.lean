/- CbsSays: as the document says. -/
import Derived.Test.YtegfhndcimkjoaaCbCon
import Derived.Test.YtegfhndcimkjoaaCbRk
import Derived.Test.YtegfhndcimkjoaaJSeg
import Derived.Deep.CutBlock
import Derived.Deep.CutRange
namespace Go.Proofs.Ytegfhndcimkjoaa.Cb
open Go.Proofs.Ytegfhndcimkjoaa.Tk Go.RowKit
set_option linter.unusedVariables false
set_option linter.unusedSimpArgs false
/-- One of the reference's servers in a box. -/
def Vr (w : World) (g : Nat) (s : Sv) : Prop := w.heap[g]? = some (.cells #[.int .i64 s.q, .int .i64 s.p, .int .i64 s.b, .int .i64 s.d, .int .i64 s.m] 34 (0, 0))
theorem Vr.below {w w' : World} {g : Nat} {s : Sv} (h : Vr w g s) (hB : Nx w w') : Vr w' g s := (hB.block g (Array.getElem?_eq_some_iff.1 h).1).trans h
theorem Vr.new (w : World) (s : Sv) : Vr (w.alloc (.cells #[.int .i64 s.q, .int .i64 s.p, .int .i64 s.b, .int .i64 s.d, .int .i64 s.m] 34)) w.heap.size s := heap_alloc_new w _
theorem Vr.lt {w : World} {g : Nat} {s : Sv} (h : Vr w g s) : g < w.heap.size := (Array.getElem?_eq_some_iff.1 h).1
theorem Vr.row {w : World} {g : Nat} {q p b d m : Int} (h : Vr w g ⟨q, p, b, d, m⟩) : w.heap[g]? = some (.cells #[.int .i64 q, .int .i64 p, .int .i64 b, .int .i64 d, .int .i64 m] 34 (0, 0)) := h
theorem sizeSr : (Try.prog.info? 34).map (·.size) = some 5 := by kernel_rfl
set_option maxHeartbeats 4000000 in
theorem ownS_any (s : Sv) (W : World) : Calls Try.prog 18 #[svv s] W fun e w' => e = .returned (svv s) ∧ Nx W w' := by
  obtain ⟨q, p, b, d, m⟩ := s
  have P := put5 (heap_alloc_at (W.alloc (.cells #[.int .i64 q, .int .i64 p, .int .i64 b, .int .i64 d, .int .i64 m] 24)) (.cells #[.int .i64 0, .int .i64 0, .int .i64 0, .int .i64 0, .int .i64 0] 34) (W.heap.size + 1) (by simp)) (.int .i64 q) (.int .i64 p) (.int .i64 b) (.int .i64 d) (.int .i64 m)
  have HB := hide (P.below (bel2 (W := W) _ _) (by omega))
  have r0 : ((W.alloc (.cells #[.int .i64 q, .int .i64 p, .int .i64 b, .int .i64 d, .int .i64 m] 24)).alloc (.cells #[.int .i64 0, .int .i64 0, .int .i64 0, .int .i64 0, .int .i64 0] 34)).heap[W.heap.size]? = some (.cells #[.int .i64 q, .int .i64 p, .int .i64 b, .int .i64 d, .int .i64 m] 24 (0, 0)) := (heap_alloc_old _ _ (by simp)).trans (heap_alloc_new W _)
  have r1 : ((W.alloc (.cells #[.int .i64 q, .int .i64 p, .int .i64 b, .int .i64 d, .int .i64 m] 24)).alloc (.cells #[.int .i64 0, .int .i64 0, .int .i64 0, .int .i64 0, .int .i64 0] 34)).heap[W.heap.size + 1]? = some (.cells #[.int .i64 0, .int .i64 0, .int .i64 0, .int .i64 0, .int .i64 0] 34 (0, 0)) := heap_alloc_at _ _ _ (by simp)
  have PR := hide P.row
  clear P
  go_enter Try.func18, Try.ntmps18
  go_upto_region 1 with fail
  generalize (W.alloc (.cells #[.int .i64 q, .int .i64 p, .int .i64 b, .int .i64 d, .int .i64 m] 24)).alloc (.cells #[.int .i64 0, .int .i64 0, .int .i64 0, .int .i64 0, .int .i64 0] 34) = w0 at *
  obtain ⟨x0, x1, x2, x3, x4⟩ := row5 r0
  obtain ⟨c0, c1, c2, c3, c4⟩ := row5 r1
  have z0 := row_free r1 0
  have z1 := row_free r1 1
  have z2 := row_free r1 2
  have z3 := row_free r1 3
  have z4 := row_free r1 4
  clear r0 r1
  first | (go_wp2; done) | skip
  go_wp2
  (try simp only [Exit.inBlock, Exit.then])
  refine bodyPost_ret (v := .agg #[.int .i64 q, .int .i64 p, .int .i64 b, .int .i64 d, .int .i64 m]) ?_ rfl ⟨rfl, HB.out⟩
  exact results_cell_row (p := 2) (ty := 34) Try.results18 _ _ (W.heap.size + 1) 34 _ (0, 0) _ rfl PR.out Try.underlying34 rfl sizeSr
set_option maxHeartbeats 16000000 in
set_option maxRecDepth 100000 in
theorem says_walk (hA : Hid AwakeC) (hG : Hid GoodC) (hN : Hid NewC) (hW : Hid WakeC) (hU : Hid UseC) (hI : Hid IdleC) (hWt : Hid WaitC) (hT : Hid TurnC) (hL : Hid LessC) (s t : Sv) (now n : Int) (w : World) :
    Calls Try.prog 4 #[svv s, svv t, .int .i64 now, .int .i64 n] w fun e w' => e = .returned (.bool true) ∧ Nx w w' := by
  obtain ⟨q, p, b, d, m⟩ := s
  obtain ⟨tq, tp, tb, td, tm⟩ := t
  obtain ⟨X, hX⟩ : ∃ X, wake ⟨q, p, b, d, m⟩ now = X := ⟨_, rfl⟩
  obtain ⟨ae, hE⟩ : ∃ E, wakeE ⟨q, p, b, d, m⟩ now = E := ⟨_, rfl⟩
  obtain ⟨aq, ap, ab, ad, am⟩ := X
  have Ha := hide hX
  have Hae := hide hE
  clear hX hE
  obtain ⟨X, hX⟩ : ∃ X, use ⟨q, p, b, d, m⟩ n = X := ⟨_, rfl⟩
  obtain ⟨ue, hE⟩ : ∃ E, useE ⟨q, p, b, d, m⟩ n = E := ⟨_, rfl⟩
  obtain ⟨uq, up, ub, ud, um⟩ := X
  have Hu := hide hX
  have Hue := hide hE
  clear hX hE
  obtain ⟨X, hX⟩ : ∃ X, idle ⟨q, p, b, d, m⟩ = X := ⟨_, rfl⟩
  obtain ⟨ie, hE⟩ : ∃ E, idleE ⟨q, p, b, d, m⟩ = E := ⟨_, rfl⟩
  obtain ⟨iq, ip, ib, id, im⟩ := X
  have Hi := hide hX
  have Hie := hide hE
  clear hX hE
  obtain ⟨X, hX⟩ : ∃ X, wait ⟨q, p, b, d, m⟩ = X := ⟨_, rfl⟩
  obtain ⟨xe, hE⟩ : ∃ E, waitE ⟨q, p, b, d, m⟩ = E := ⟨_, rfl⟩
  obtain ⟨xq, xp, xb, xd, xm⟩ := X
  have Hx := hide hX
  have Hxe := hide hE
  clear hX hE
  obtain ⟨X, hX⟩ : ∃ X, turn ⟨q, p, b, d, m⟩ now = X := ⟨_, rfl⟩
  obtain ⟨re, hE⟩ : ∃ E, turnB ⟨q, p, b, d, m⟩ now = E := ⟨_, rfl⟩
  obtain ⟨rq, rp, rb, rd, rm⟩ := X
  have Hr := hide hX
  have Hre := hide hE
  clear hX hE
  obtain ⟨X, hX⟩ : ∃ X, new q p = X := ⟨_, rfl⟩
  obtain ⟨oe, hE⟩ : ∃ E, newE q p = E := ⟨_, rfl⟩
  obtain ⟨oq, op, ob, od, om⟩ := X
  have Ho := hide hX
  have Hoe := hide hE
  clear hX hE
  obtain ⟨gg, hE⟩ : ∃ E, sgood ⟨q, p, b, d, m⟩ = E := ⟨_, rfl⟩
  have Hgg := hide hE
  clear hE
  have HB0 := hide (bel2 (W := w) (.cells #[.int .i64 q, .int .i64 p, .int .i64 b, .int .i64 d, .int .i64 m] 24) (.cells #[.int .i64 tq, .int .i64 tp, .int .i64 tb, .int .i64 td, .int .i64 tm] 24))
  have R := box2 (Below.refl ((w.alloc (.cells #[.int .i64 q, .int .i64 p, .int .i64 b, .int .i64 d, .int .i64 m] 24)).alloc (.cells #[.int .i64 tq, .int .i64 tp, .int .i64 tb, .int .i64 td, .int .i64 tm] 24)).heap.size ((w.alloc (.cells #[.int .i64 q, .int .i64 p, .int .i64 b, .int .i64 d, .int .i64 m] 24)).alloc (.cells #[.int .i64 tq, .int .i64 tp, .int .i64 tb, .int .i64 td, .int .i64 tm] 24)))
  have R0 : Hid (Vb _ w.heap.size ⟨q, p, b, d, m⟩) := hide R.1
  have R1 : Hid (Vb _ (w.heap.size + 1) ⟨tq, tp, tb, td, tm⟩) := hide R.2
  clear R
  go_enter Try.func4, Try.ntmps4
  go_wp2_with fail
  refine (hA.out _).mono ?_
  rintro e w0 ⟨rfl, hb⟩
  have B_0 := hide (Nx.trans HB0.out hb)
  have Ks_0 := hide (R0.out.below hb)
  have Kt_0 := hide (R1.out.below hb)
  clear hb HB0 R0 R1
  generalize hgk : w.heap.size = gKs at Ks_0 ⊢
  generalize hgt : gKs + 1 = gKt at Kt_0 ⊢
  have Kt_0 : Hid (Vb w0 gKt ⟨tq, tp, tb, td, tm⟩) := by first | exact Kt_0 | (rw [← hgt, ← hgk]; exact Kt_0)
  obtain ⟨x0, x1, x2, x3, x4⟩ := row5 Ks_0.out.row
  go_wp2_with fail
  refine (ownS_any ⟨q, p, b, d, m⟩ _).mono ?_
  rintro e w1 ⟨rfl, hs2⟩
  clear x0 x1 x2 x3 x4
  have Ks_1 := hide (Ks_0.out.below (hs2))
  have Kt_1 := hide (Kt_0.out.below (hs2))
  have B_1 := hide (Nx.trans B_0.out (hs2))
  clear B_0 Ks_0 Kt_0
  clear hs2
  have bV9 := hide B_1.out.size
  have neKsV9 : Hid (gKs ≠ w1.heap.size) := hide (Nat.ne_of_lt Ks_1.out.lt)
  have neKtV9 : Hid (gKt ≠ w1.heap.size) := hide (Nat.ne_of_lt Kt_1.out.lt)
  have KN := hide (Vr.new w1 ⟨q, p, b, d, m⟩)
  have NN := hide (Nx.alloc w1 (.cells #[.int .i64 q, .int .i64 p, .int .i64 b, .int .i64 d, .int .i64 m] 34))
  go_upto_region 4 with fail
  have Ks_2 := hide (Ks_1.out.below (NN.out))
  have Kt_2 := hide (Kt_1.out.below (NN.out))
  have B_2 := hide (Nx.trans B_1.out (NN.out))
  clear B_1 Ks_1 Kt_1
  generalize hw : w1.alloc (.cells #[.int .i64 q, .int .i64 p, .int .i64 b, .int .i64 d, .int .i64 m] 34) = w2 at *
  have V9_2 := KN
  clear KN NN hw
  generalize w1.heap.size = gV9 at *
  have V9_2 : Hid (Vr w2 gV9 ⟨q, p, b, d, m⟩) := V9_2
  obtain ⟨x0, x1, x2, x3, x4⟩ := row5 Ks_2.out.row
  go_wp2_with fail
  refine (hW.out ⟨q, p, b, d, m⟩ now _).mono ?_
  rintro e w3 ⟨rfl, hs2⟩
  rw [Ha.out]
  rw [Hae.out]
  clear x0 x1 x2 x3 x4
  have Ks_3 := hide (Ks_2.out.below (hs2))
  have Kt_3 := hide (Kt_2.out.below (hs2))
  have V9_3 := hide (V9_2.out.below (hs2))
  have B_3 := hide (Nx.trans B_2.out (hs2))
  clear B_2 Ks_2 Kt_2 V9_2
  clear hs2
  have bK10 := hide B_3.out.size
  have neKsK10 : Hid (gKs ≠ w3.heap.size) := hide (Nat.ne_of_lt Ks_3.out.lt)
  have neKtK10 : Hid (gKt ≠ w3.heap.size) := hide (Nat.ne_of_lt Kt_3.out.lt)
  have neV9K10 : Hid (gV9 ≠ w3.heap.size) := hide (Nat.ne_of_lt V9_3.out.lt)
  have KN := hide (Vb.new w3 ⟨aq, ap, ab, ad, am⟩)
  have NN := hide (Nx.alloc w3 (.cells #[.int .i64 aq, .int .i64 ap, .int .i64 ab, .int .i64 ad, .int .i64 am] 24))
  go_upto_region 5 with fail
  have Ks_4 := hide (Ks_3.out.below (NN.out))
  have Kt_4 := hide (Kt_3.out.below (NN.out))
  have V9_4 := hide (V9_3.out.below (NN.out))
  have B_4 := hide (Nx.trans B_3.out (NN.out))
  clear B_3 Ks_3 Kt_3 V9_3
  generalize hw : w3.alloc (.cells #[.int .i64 aq, .int .i64 ap, .int .i64 ab, .int .i64 ad, .int .i64 am] 24) = w4 at *
  have K10_4 := KN
  clear KN NN hw
  generalize w3.heap.size = gK10 at *
  have K10_4 : Hid (Vb w4 gK10 ⟨aq, ap, ab, ad, am⟩) := K10_4
  obtain ⟨x0, x1, x2, x3, x4⟩ := row5 V9_4.out.row
  go_wp2_with fail
  refine (rwake_any ⟨q, p, b, d, m⟩ now _).mono ?_
  rintro e w5 ⟨rfl, hs2⟩
  rw [Ha.out]
  rw [Hae.out]
  clear x0 x1 x2 x3 x4
  have Ks_5 := hide (Ks_4.out.below (hs2))
  have Kt_5 := hide (Kt_4.out.below (hs2))
  have V9_5 := hide (V9_4.out.below (hs2))
  have K10_5 := hide (K10_4.out.below (hs2))
  have B_5 := hide (Nx.trans B_4.out (hs2))
  clear B_4 Ks_4 Kt_4 V9_4 K10_4
  clear hs2
  have bV12 := hide B_5.out.size
  have neKsV12 : Hid (gKs ≠ w5.heap.size) := hide (Nat.ne_of_lt Ks_5.out.lt)
  have neKtV12 : Hid (gKt ≠ w5.heap.size) := hide (Nat.ne_of_lt Kt_5.out.lt)
  have neV9V12 : Hid (gV9 ≠ w5.heap.size) := hide (Nat.ne_of_lt V9_5.out.lt)
  have neK10V12 : Hid (gK10 ≠ w5.heap.size) := hide (Nat.ne_of_lt K10_5.out.lt)
  have KN := hide (Vr.new w5 ⟨aq, ap, ab, ad, am⟩)
  have NN := hide (Nx.alloc w5 (.cells #[.int .i64 aq, .int .i64 ap, .int .i64 ab, .int .i64 ad, .int .i64 am] 34))
  go_upto_region 6 with fail
  have Ks_6 := hide (Ks_5.out.below (NN.out))
  have Kt_6 := hide (Kt_5.out.below (NN.out))
  have V9_6 := hide (V9_5.out.below (NN.out))
  have K10_6 := hide (K10_5.out.below (NN.out))
  have B_6 := hide (Nx.trans B_5.out (NN.out))
  clear B_5 Ks_5 Kt_5 V9_5 K10_5
  generalize hw : w5.alloc (.cells #[.int .i64 aq, .int .i64 ap, .int .i64 ab, .int .i64 ad, .int .i64 am] 34) = w6 at *
  have V12_6 := KN
  clear KN NN hw
  generalize w5.heap.size = gV12 at *
  have V12_6 : Hid (Vr w6 gV12 ⟨aq, ap, ab, ad, am⟩) := V12_6
  obtain ⟨x0, x1, x2, x3, x4⟩ := row5 Ks_6.out.row
  go_wp2_with fail
  refine (hU.out ⟨q, p, b, d, m⟩ n _).mono ?_
  rintro e w7 ⟨rfl, hs2⟩
  rw [Hu.out]
  rw [Hue.out]
  clear x0 x1 x2 x3 x4
  have Ks_7 := hide (Ks_6.out.below (hs2))
  have Kt_7 := hide (Kt_6.out.below (hs2))
  have V9_7 := hide (V9_6.out.below (hs2))
  have K10_7 := hide (K10_6.out.below (hs2))
  have V12_7 := hide (V12_6.out.below (hs2))
  have B_7 := hide (Nx.trans B_6.out (hs2))
  clear B_6 Ks_6 Kt_6 V9_6 K10_6 V12_6
  clear hs2
  have bK14 := hide B_7.out.size
  have neKsK14 : Hid (gKs ≠ w7.heap.size) := hide (Nat.ne_of_lt Ks_7.out.lt)
  have neKtK14 : Hid (gKt ≠ w7.heap.size) := hide (Nat.ne_of_lt Kt_7.out.lt)
  have neV9K14 : Hid (gV9 ≠ w7.heap.size) := hide (Nat.ne_of_lt V9_7.out.lt)
  have neK10K14 : Hid (gK10 ≠ w7.heap.size) := hide (Nat.ne_of_lt K10_7.out.lt)
  have neV12K14 : Hid (gV12 ≠ w7.heap.size) := hide (Nat.ne_of_lt V12_7.out.lt)
  have KN := hide (Vb.new w7 ⟨uq, up, ub, ud, um⟩)
  have NN := hide (Nx.alloc w7 (.cells #[.int .i64 uq, .int .i64 up, .int .i64 ub, .int .i64 ud, .int .i64 um] 24))
  go_upto_region 7 with fail
  have Ks_8 := hide (Ks_7.out.below (NN.out))
  have Kt_8 := hide (Kt_7.out.below (NN.out))
  have V9_8 := hide (V9_7.out.below (NN.out))
  have K10_8 := hide (K10_7.out.below (NN.out))
  have V12_8 := hide (V12_7.out.below (NN.out))
  have B_8 := hide (Nx.trans B_7.out (NN.out))
  clear B_7 Ks_7 Kt_7 V9_7 K10_7 V12_7
  generalize hw : w7.alloc (.cells #[.int .i64 uq, .int .i64 up, .int .i64 ub, .int .i64 ud, .int .i64 um] 24) = w8 at *
  have K14_8 := KN
  clear KN NN hw
  generalize w7.heap.size = gK14 at *
  have K14_8 : Hid (Vb w8 gK14 ⟨uq, up, ub, ud, um⟩) := K14_8
  obtain ⟨x0, x1, x2, x3, x4⟩ := row5 V9_8.out.row
  go_wp2_with fail
  refine (ruse_any ⟨q, p, b, d, m⟩ n _).mono ?_
  rintro e w9 ⟨rfl, hs2⟩
  rw [Hu.out]
  rw [Hue.out]
  clear x0 x1 x2 x3 x4
  have Ks_9 := hide (Ks_8.out.below (hs2))
  have Kt_9 := hide (Kt_8.out.below (hs2))
  have V9_9 := hide (V9_8.out.below (hs2))
  have K10_9 := hide (K10_8.out.below (hs2))
  have V12_9 := hide (V12_8.out.below (hs2))
  have K14_9 := hide (K14_8.out.below (hs2))
  have B_9 := hide (Nx.trans B_8.out (hs2))
  clear B_8 Ks_8 Kt_8 V9_8 K10_8 V12_8 K14_8
  clear hs2
  have bV16 := hide B_9.out.size
  have neKsV16 : Hid (gKs ≠ w9.heap.size) := hide (Nat.ne_of_lt Ks_9.out.lt)
  have neKtV16 : Hid (gKt ≠ w9.heap.size) := hide (Nat.ne_of_lt Kt_9.out.lt)
  have neV9V16 : Hid (gV9 ≠ w9.heap.size) := hide (Nat.ne_of_lt V9_9.out.lt)
  have neK10V16 : Hid (gK10 ≠ w9.heap.size) := hide (Nat.ne_of_lt K10_9.out.lt)
  have neV12V16 : Hid (gV12 ≠ w9.heap.size) := hide (Nat.ne_of_lt V12_9.out.lt)
  have neK14V16 : Hid (gK14 ≠ w9.heap.size) := hide (Nat.ne_of_lt K14_9.out.lt)
  have KN := hide (Vr.new w9 ⟨uq, up, ub, ud, um⟩)
  have NN := hide (Nx.alloc w9 (.cells #[.int .i64 uq, .int .i64 up, .int .i64 ub, .int .i64 ud, .int .i64 um] 34))
  go_upto_region 8 with fail
  have Ks_10 := hide (Ks_9.out.below (NN.out))
  have Kt_10 := hide (Kt_9.out.below (NN.out))
  have V9_10 := hide (V9_9.out.below (NN.out))
  have K10_10 := hide (K10_9.out.below (NN.out))
  have V12_10 := hide (V12_9.out.below (NN.out))
  have K14_10 := hide (K14_9.out.below (NN.out))
  have B_10 := hide (Nx.trans B_9.out (NN.out))
  clear B_9 Ks_9 Kt_9 V9_9 K10_9 V12_9 K14_9
  generalize hw : w9.alloc (.cells #[.int .i64 uq, .int .i64 up, .int .i64 ub, .int .i64 ud, .int .i64 um] 34) = w10 at *
  have V16_10 := KN
  clear KN NN hw
  generalize w9.heap.size = gV16 at *
  have V16_10 : Hid (Vr w10 gV16 ⟨uq, up, ub, ud, um⟩) := V16_10
  obtain ⟨x0, x1, x2, x3, x4⟩ := row5 Ks_10.out.row
  go_wp2_with fail
  refine (hI.out ⟨q, p, b, d, m⟩ _).mono ?_
  rintro e w11 ⟨rfl, hs2⟩
  rw [Hi.out]
  rw [Hie.out]
  clear x0 x1 x2 x3 x4
  have Ks_11 := hide (Ks_10.out.below (hs2))
  have Kt_11 := hide (Kt_10.out.below (hs2))
  have V9_11 := hide (V9_10.out.below (hs2))
  have K10_11 := hide (K10_10.out.below (hs2))
  have V12_11 := hide (V12_10.out.below (hs2))
  have K14_11 := hide (K14_10.out.below (hs2))
  have V16_11 := hide (V16_10.out.below (hs2))
  have B_11 := hide (Nx.trans B_10.out (hs2))
  clear B_10 Ks_10 Kt_10 V9_10 K10_10 V12_10 K14_10 V16_10
  clear hs2
  have bK18 := hide B_11.out.size
  have neKsK18 : Hid (gKs ≠ w11.heap.size) := hide (Nat.ne_of_lt Ks_11.out.lt)
  have neKtK18 : Hid (gKt ≠ w11.heap.size) := hide (Nat.ne_of_lt Kt_11.out.lt)
  have neV9K18 : Hid (gV9 ≠ w11.heap.size) := hide (Nat.ne_of_lt V9_11.out.lt)
  have neK10K18 : Hid (gK10 ≠ w11.heap.size) := hide (Nat.ne_of_lt K10_11.out.lt)
  have neV12K18 : Hid (gV12 ≠ w11.heap.size) := hide (Nat.ne_of_lt V12_11.out.lt)
  have neK14K18 : Hid (gK14 ≠ w11.heap.size) := hide (Nat.ne_of_lt K14_11.out.lt)
  have neV16K18 : Hid (gV16 ≠ w11.heap.size) := hide (Nat.ne_of_lt V16_11.out.lt)
  have KN := hide (Vb.new w11 ⟨iq, ip, ib, id, im⟩)
  have NN := hide (Nx.alloc w11 (.cells #[.int .i64 iq, .int .i64 ip, .int .i64 ib, .int .i64 id, .int .i64 im] 24))
  go_upto_region 9 with fail
  have Ks_12 := hide (Ks_11.out.below (NN.out))
  have Kt_12 := hide (Kt_11.out.below (NN.out))
  have V9_12 := hide (V9_11.out.below (NN.out))
  have K10_12 := hide (K10_11.out.below (NN.out))
  have V12_12 := hide (V12_11.out.below (NN.out))
  have K14_12 := hide (K14_11.out.below (NN.out))
  have V16_12 := hide (V16_11.out.below (NN.out))
  have B_12 := hide (Nx.trans B_11.out (NN.out))
  clear B_11 Ks_11 Kt_11 V9_11 K10_11 V12_11 K14_11 V16_11
  generalize hw : w11.alloc (.cells #[.int .i64 iq, .int .i64 ip, .int .i64 ib, .int .i64 id, .int .i64 im] 24) = w12 at *
  have K18_12 := KN
  clear KN NN hw
  generalize w11.heap.size = gK18 at *
  have K18_12 : Hid (Vb w12 gK18 ⟨iq, ip, ib, id, im⟩) := K18_12
  obtain ⟨x0, x1, x2, x3, x4⟩ := row5 V9_12.out.row
  go_wp2_with fail
  refine (ridle_any ⟨q, p, b, d, m⟩ _).mono ?_
  rintro e w13 ⟨rfl, hs2⟩
  rw [Hi.out]
  rw [Hie.out]
  clear x0 x1 x2 x3 x4
  have Ks_13 := hide (Ks_12.out.below (hs2))
  have Kt_13 := hide (Kt_12.out.below (hs2))
  have V9_13 := hide (V9_12.out.below (hs2))
  have K10_13 := hide (K10_12.out.below (hs2))
  have V12_13 := hide (V12_12.out.below (hs2))
  have K14_13 := hide (K14_12.out.below (hs2))
  have V16_13 := hide (V16_12.out.below (hs2))
  have K18_13 := hide (K18_12.out.below (hs2))
  have B_13 := hide (Nx.trans B_12.out (hs2))
  clear B_12 Ks_12 Kt_12 V9_12 K10_12 V12_12 K14_12 V16_12 K18_12
  clear hs2
  have bV20 := hide B_13.out.size
  have neKsV20 : Hid (gKs ≠ w13.heap.size) := hide (Nat.ne_of_lt Ks_13.out.lt)
  have neKtV20 : Hid (gKt ≠ w13.heap.size) := hide (Nat.ne_of_lt Kt_13.out.lt)
  have neV9V20 : Hid (gV9 ≠ w13.heap.size) := hide (Nat.ne_of_lt V9_13.out.lt)
  have neK10V20 : Hid (gK10 ≠ w13.heap.size) := hide (Nat.ne_of_lt K10_13.out.lt)
  have neV12V20 : Hid (gV12 ≠ w13.heap.size) := hide (Nat.ne_of_lt V12_13.out.lt)
  have neK14V20 : Hid (gK14 ≠ w13.heap.size) := hide (Nat.ne_of_lt K14_13.out.lt)
  have neV16V20 : Hid (gV16 ≠ w13.heap.size) := hide (Nat.ne_of_lt V16_13.out.lt)
  have neK18V20 : Hid (gK18 ≠ w13.heap.size) := hide (Nat.ne_of_lt K18_13.out.lt)
  have KN := hide (Vr.new w13 ⟨iq, ip, ib, id, im⟩)
  have NN := hide (Nx.alloc w13 (.cells #[.int .i64 iq, .int .i64 ip, .int .i64 ib, .int .i64 id, .int .i64 im] 34))
  go_upto_region 10 with fail
  have Ks_14 := hide (Ks_13.out.below (NN.out))
  have Kt_14 := hide (Kt_13.out.below (NN.out))
  have V9_14 := hide (V9_13.out.below (NN.out))
  have K10_14 := hide (K10_13.out.below (NN.out))
  have V12_14 := hide (V12_13.out.below (NN.out))
  have K14_14 := hide (K14_13.out.below (NN.out))
  have V16_14 := hide (V16_13.out.below (NN.out))
  have K18_14 := hide (K18_13.out.below (NN.out))
  have B_14 := hide (Nx.trans B_13.out (NN.out))
  clear B_13 Ks_13 Kt_13 V9_13 K10_13 V12_13 K14_13 V16_13 K18_13
  generalize hw : w13.alloc (.cells #[.int .i64 iq, .int .i64 ip, .int .i64 ib, .int .i64 id, .int .i64 im] 34) = w14 at *
  have V20_14 := KN
  clear KN NN hw
  generalize w13.heap.size = gV20 at *
  have V20_14 : Hid (Vr w14 gV20 ⟨iq, ip, ib, id, im⟩) := V20_14
  obtain ⟨x0, x1, x2, x3, x4⟩ := row5 Ks_14.out.row
  go_wp2_with fail
  refine (hWt.out ⟨q, p, b, d, m⟩ _).mono ?_
  rintro e w15 ⟨rfl, hs2⟩
  rw [Hx.out]
  rw [Hxe.out]
  clear x0 x1 x2 x3 x4
  have Ks_15 := hide (Ks_14.out.below (hs2))
  have Kt_15 := hide (Kt_14.out.below (hs2))
  have V9_15 := hide (V9_14.out.below (hs2))
  have K10_15 := hide (K10_14.out.below (hs2))
  have V12_15 := hide (V12_14.out.below (hs2))
  have K14_15 := hide (K14_14.out.below (hs2))
  have V16_15 := hide (V16_14.out.below (hs2))
  have K18_15 := hide (K18_14.out.below (hs2))
  have V20_15 := hide (V20_14.out.below (hs2))
  have B_15 := hide (Nx.trans B_14.out (hs2))
  clear B_14 Ks_14 Kt_14 V9_14 K10_14 V12_14 K14_14 V16_14 K18_14 V20_14
  clear hs2
  have bK22 := hide B_15.out.size
  have neKsK22 : Hid (gKs ≠ w15.heap.size) := hide (Nat.ne_of_lt Ks_15.out.lt)
  have neKtK22 : Hid (gKt ≠ w15.heap.size) := hide (Nat.ne_of_lt Kt_15.out.lt)
  have neV9K22 : Hid (gV9 ≠ w15.heap.size) := hide (Nat.ne_of_lt V9_15.out.lt)
  have neK10K22 : Hid (gK10 ≠ w15.heap.size) := hide (Nat.ne_of_lt K10_15.out.lt)
  have neV12K22 : Hid (gV12 ≠ w15.heap.size) := hide (Nat.ne_of_lt V12_15.out.lt)
  have neK14K22 : Hid (gK14 ≠ w15.heap.size) := hide (Nat.ne_of_lt K14_15.out.lt)
  have neV16K22 : Hid (gV16 ≠ w15.heap.size) := hide (Nat.ne_of_lt V16_15.out.lt)
  have neK18K22 : Hid (gK18 ≠ w15.heap.size) := hide (Nat.ne_of_lt K18_15.out.lt)
  have neV20K22 : Hid (gV20 ≠ w15.heap.size) := hide (Nat.ne_of_lt V20_15.out.lt)
  have KN := hide (Vb.new w15 ⟨xq, xp, xb, xd, xm⟩)
  have NN := hide (Nx.alloc w15 (.cells #[.int .i64 xq, .int .i64 xp, .int .i64 xb, .int .i64 xd, .int .i64 xm] 24))
  go_upto_region 11 with fail
  have Ks_16 := hide (Ks_15.out.below (NN.out))
  have Kt_16 := hide (Kt_15.out.below (NN.out))
  have V9_16 := hide (V9_15.out.below (NN.out))
  have K10_16 := hide (K10_15.out.below (NN.out))
  have V12_16 := hide (V12_15.out.below (NN.out))
  have K14_16 := hide (K14_15.out.below (NN.out))
  have V16_16 := hide (V16_15.out.below (NN.out))
  have K18_16 := hide (K18_15.out.below (NN.out))
  have V20_16 := hide (V20_15.out.below (NN.out))
  have B_16 := hide (Nx.trans B_15.out (NN.out))
  clear B_15 Ks_15 Kt_15 V9_15 K10_15 V12_15 K14_15 V16_15 K18_15 V20_15
  generalize hw : w15.alloc (.cells #[.int .i64 xq, .int .i64 xp, .int .i64 xb, .int .i64 xd, .int .i64 xm] 24) = w16 at *
  have K22_16 := KN
  clear KN NN hw
  generalize w15.heap.size = gK22 at *
  have K22_16 : Hid (Vb w16 gK22 ⟨xq, xp, xb, xd, xm⟩) := K22_16
  obtain ⟨x0, x1, x2, x3, x4⟩ := row5 V9_16.out.row
  go_wp2_with fail
  refine (rwait_any ⟨q, p, b, d, m⟩ _).mono ?_
  rintro e w17 ⟨rfl, hs2⟩
  rw [Hx.out]
  rw [Hxe.out]
  clear x0 x1 x2 x3 x4
  have Ks_17 := hide (Ks_16.out.below (hs2))
  have Kt_17 := hide (Kt_16.out.below (hs2))
  have V9_17 := hide (V9_16.out.below (hs2))
  have K10_17 := hide (K10_16.out.below (hs2))
  have V12_17 := hide (V12_16.out.below (hs2))
  have K14_17 := hide (K14_16.out.below (hs2))
  have V16_17 := hide (V16_16.out.below (hs2))
  have K18_17 := hide (K18_16.out.below (hs2))
  have V20_17 := hide (V20_16.out.below (hs2))
  have K22_17 := hide (K22_16.out.below (hs2))
  have B_17 := hide (Nx.trans B_16.out (hs2))
  clear B_16 Ks_16 Kt_16 V9_16 K10_16 V12_16 K14_16 V16_16 K18_16 V20_16 K22_16
  clear hs2
  have bV24 := hide B_17.out.size
  have neKsV24 : Hid (gKs ≠ w17.heap.size) := hide (Nat.ne_of_lt Ks_17.out.lt)
  have neKtV24 : Hid (gKt ≠ w17.heap.size) := hide (Nat.ne_of_lt Kt_17.out.lt)
  have neV9V24 : Hid (gV9 ≠ w17.heap.size) := hide (Nat.ne_of_lt V9_17.out.lt)
  have neK10V24 : Hid (gK10 ≠ w17.heap.size) := hide (Nat.ne_of_lt K10_17.out.lt)
  have neV12V24 : Hid (gV12 ≠ w17.heap.size) := hide (Nat.ne_of_lt V12_17.out.lt)
  have neK14V24 : Hid (gK14 ≠ w17.heap.size) := hide (Nat.ne_of_lt K14_17.out.lt)
  have neV16V24 : Hid (gV16 ≠ w17.heap.size) := hide (Nat.ne_of_lt V16_17.out.lt)
  have neK18V24 : Hid (gK18 ≠ w17.heap.size) := hide (Nat.ne_of_lt K18_17.out.lt)
  have neV20V24 : Hid (gV20 ≠ w17.heap.size) := hide (Nat.ne_of_lt V20_17.out.lt)
  have neK22V24 : Hid (gK22 ≠ w17.heap.size) := hide (Nat.ne_of_lt K22_17.out.lt)
  have KN := hide (Vr.new w17 ⟨xq, xp, xb, xd, xm⟩)
  have NN := hide (Nx.alloc w17 (.cells #[.int .i64 xq, .int .i64 xp, .int .i64 xb, .int .i64 xd, .int .i64 xm] 34))
  go_upto_region 12 with fail
  have Ks_18 := hide (Ks_17.out.below (NN.out))
  have Kt_18 := hide (Kt_17.out.below (NN.out))
  have V9_18 := hide (V9_17.out.below (NN.out))
  have K10_18 := hide (K10_17.out.below (NN.out))
  have V12_18 := hide (V12_17.out.below (NN.out))
  have K14_18 := hide (K14_17.out.below (NN.out))
  have V16_18 := hide (V16_17.out.below (NN.out))
  have K18_18 := hide (K18_17.out.below (NN.out))
  have V20_18 := hide (V20_17.out.below (NN.out))
  have K22_18 := hide (K22_17.out.below (NN.out))
  have B_18 := hide (Nx.trans B_17.out (NN.out))
  clear B_17 Ks_17 Kt_17 V9_17 K10_17 V12_17 K14_17 V16_17 K18_17 V20_17 K22_17
  generalize hw : w17.alloc (.cells #[.int .i64 xq, .int .i64 xp, .int .i64 xb, .int .i64 xd, .int .i64 xm] 34) = w18 at *
  have V24_18 := KN
  clear KN NN hw
  generalize w17.heap.size = gV24 at *
  have V24_18 : Hid (Vr w18 gV24 ⟨xq, xp, xb, xd, xm⟩) := V24_18
  obtain ⟨x0, x1, x2, x3, x4⟩ := row5 Ks_18.out.row
  go_wp2_with fail
  refine (hT.out ⟨q, p, b, d, m⟩ now _).mono ?_
  rintro e w19 ⟨rfl, hs2⟩
  rw [Hr.out]
  rw [Hre.out]
  clear x0 x1 x2 x3 x4
  have Ks_19 := hide (Ks_18.out.below (hs2))
  have Kt_19 := hide (Kt_18.out.below (hs2))
  have V9_19 := hide (V9_18.out.below (hs2))
  have K10_19 := hide (K10_18.out.below (hs2))
  have V12_19 := hide (V12_18.out.below (hs2))
  have K14_19 := hide (K14_18.out.below (hs2))
  have V16_19 := hide (V16_18.out.below (hs2))
  have K18_19 := hide (K18_18.out.below (hs2))
  have V20_19 := hide (V20_18.out.below (hs2))
  have K22_19 := hide (K22_18.out.below (hs2))
  have V24_19 := hide (V24_18.out.below (hs2))
  have B_19 := hide (Nx.trans B_18.out (hs2))
  clear B_18 Ks_18 Kt_18 V9_18 K10_18 V12_18 K14_18 V16_18 K18_18 V20_18 K22_18 V24_18
  clear hs2
  have bK26 := hide B_19.out.size
  have neKsK26 : Hid (gKs ≠ w19.heap.size) := hide (Nat.ne_of_lt Ks_19.out.lt)
  have neKtK26 : Hid (gKt ≠ w19.heap.size) := hide (Nat.ne_of_lt Kt_19.out.lt)
  have neV9K26 : Hid (gV9 ≠ w19.heap.size) := hide (Nat.ne_of_lt V9_19.out.lt)
  have neK10K26 : Hid (gK10 ≠ w19.heap.size) := hide (Nat.ne_of_lt K10_19.out.lt)
  have neV12K26 : Hid (gV12 ≠ w19.heap.size) := hide (Nat.ne_of_lt V12_19.out.lt)
  have neK14K26 : Hid (gK14 ≠ w19.heap.size) := hide (Nat.ne_of_lt K14_19.out.lt)
  have neV16K26 : Hid (gV16 ≠ w19.heap.size) := hide (Nat.ne_of_lt V16_19.out.lt)
  have neK18K26 : Hid (gK18 ≠ w19.heap.size) := hide (Nat.ne_of_lt K18_19.out.lt)
  have neV20K26 : Hid (gV20 ≠ w19.heap.size) := hide (Nat.ne_of_lt V20_19.out.lt)
  have neK22K26 : Hid (gK22 ≠ w19.heap.size) := hide (Nat.ne_of_lt K22_19.out.lt)
  have neV24K26 : Hid (gV24 ≠ w19.heap.size) := hide (Nat.ne_of_lt V24_19.out.lt)
  have KN := hide (Vb.new w19 ⟨rq, rp, rb, rd, rm⟩)
  have NN := hide (Nx.alloc w19 (.cells #[.int .i64 rq, .int .i64 rp, .int .i64 rb, .int .i64 rd, .int .i64 rm] 24))
  go_upto_region 13 with fail
  have Ks_20 := hide (Ks_19.out.below (NN.out))
  have Kt_20 := hide (Kt_19.out.below (NN.out))
  have V9_20 := hide (V9_19.out.below (NN.out))
  have K10_20 := hide (K10_19.out.below (NN.out))
  have V12_20 := hide (V12_19.out.below (NN.out))
  have K14_20 := hide (K14_19.out.below (NN.out))
  have V16_20 := hide (V16_19.out.below (NN.out))
  have K18_20 := hide (K18_19.out.below (NN.out))
  have V20_20 := hide (V20_19.out.below (NN.out))
  have K22_20 := hide (K22_19.out.below (NN.out))
  have V24_20 := hide (V24_19.out.below (NN.out))
  have B_20 := hide (Nx.trans B_19.out (NN.out))
  clear B_19 Ks_19 Kt_19 V9_19 K10_19 V12_19 K14_19 V16_19 K18_19 V20_19 K22_19 V24_19
  generalize hw : w19.alloc (.cells #[.int .i64 rq, .int .i64 rp, .int .i64 rb, .int .i64 rd, .int .i64 rm] 24) = w20 at *
  have K26_20 := KN
  clear KN NN hw
  generalize w19.heap.size = gK26 at *
  have K26_20 : Hid (Vb w20 gK26 ⟨rq, rp, rb, rd, rm⟩) := K26_20
  obtain ⟨x0, x1, x2, x3, x4⟩ := row5 V9_20.out.row
  go_wp2_with fail
  refine (rturn_any ⟨q, p, b, d, m⟩ now _).mono ?_
  rintro e w21 ⟨rfl, hs2⟩
  rw [Hr.out]
  rw [Hre.out]
  clear x0 x1 x2 x3 x4
  have Ks_21 := hide (Ks_20.out.below (hs2))
  have Kt_21 := hide (Kt_20.out.below (hs2))
  have V9_21 := hide (V9_20.out.below (hs2))
  have K10_21 := hide (K10_20.out.below (hs2))
  have V12_21 := hide (V12_20.out.below (hs2))
  have K14_21 := hide (K14_20.out.below (hs2))
  have V16_21 := hide (V16_20.out.below (hs2))
  have K18_21 := hide (K18_20.out.below (hs2))
  have V20_21 := hide (V20_20.out.below (hs2))
  have K22_21 := hide (K22_20.out.below (hs2))
  have V24_21 := hide (V24_20.out.below (hs2))
  have K26_21 := hide (K26_20.out.below (hs2))
  have B_21 := hide (Nx.trans B_20.out (hs2))
  clear B_20 Ks_20 Kt_20 V9_20 K10_20 V12_20 K14_20 V16_20 K18_20 V20_20 K22_20 V24_20 K26_20
  clear hs2
  have bV28 := hide B_21.out.size
  have neKsV28 : Hid (gKs ≠ w21.heap.size) := hide (Nat.ne_of_lt Ks_21.out.lt)
  have neKtV28 : Hid (gKt ≠ w21.heap.size) := hide (Nat.ne_of_lt Kt_21.out.lt)
  have neV9V28 : Hid (gV9 ≠ w21.heap.size) := hide (Nat.ne_of_lt V9_21.out.lt)
  have neK10V28 : Hid (gK10 ≠ w21.heap.size) := hide (Nat.ne_of_lt K10_21.out.lt)
  have neV12V28 : Hid (gV12 ≠ w21.heap.size) := hide (Nat.ne_of_lt V12_21.out.lt)
  have neK14V28 : Hid (gK14 ≠ w21.heap.size) := hide (Nat.ne_of_lt K14_21.out.lt)
  have neV16V28 : Hid (gV16 ≠ w21.heap.size) := hide (Nat.ne_of_lt V16_21.out.lt)
  have neK18V28 : Hid (gK18 ≠ w21.heap.size) := hide (Nat.ne_of_lt K18_21.out.lt)
  have neV20V28 : Hid (gV20 ≠ w21.heap.size) := hide (Nat.ne_of_lt V20_21.out.lt)
  have neK22V28 : Hid (gK22 ≠ w21.heap.size) := hide (Nat.ne_of_lt K22_21.out.lt)
  have neV24V28 : Hid (gV24 ≠ w21.heap.size) := hide (Nat.ne_of_lt V24_21.out.lt)
  have neK26V28 : Hid (gK26 ≠ w21.heap.size) := hide (Nat.ne_of_lt K26_21.out.lt)
  have KN := hide (Vr.new w21 ⟨rq, rp, rb, rd, rm⟩)
  have NN := hide (Nx.alloc w21 (.cells #[.int .i64 rq, .int .i64 rp, .int .i64 rb, .int .i64 rd, .int .i64 rm] 34))
  go_upto_region 14 with fail
  have Ks_22 := hide (Ks_21.out.below (NN.out))
  have Kt_22 := hide (Kt_21.out.below (NN.out))
  have V9_22 := hide (V9_21.out.below (NN.out))
  have K10_22 := hide (K10_21.out.below (NN.out))
  have V12_22 := hide (V12_21.out.below (NN.out))
  have K14_22 := hide (K14_21.out.below (NN.out))
  have V16_22 := hide (V16_21.out.below (NN.out))
  have K18_22 := hide (K18_21.out.below (NN.out))
  have V20_22 := hide (V20_21.out.below (NN.out))
  have K22_22 := hide (K22_21.out.below (NN.out))
  have V24_22 := hide (V24_21.out.below (NN.out))
  have K26_22 := hide (K26_21.out.below (NN.out))
  have B_22 := hide (Nx.trans B_21.out (NN.out))
  clear B_21 Ks_21 Kt_21 V9_21 K10_21 V12_21 K14_21 V16_21 K18_21 V20_21 K22_21 V24_21 K26_21
  generalize hw : w21.alloc (.cells #[.int .i64 rq, .int .i64 rp, .int .i64 rb, .int .i64 rd, .int .i64 rm] 34) = w22 at *
  have V28_22 := KN
  clear KN NN hw
  generalize w21.heap.size = gV28 at *
  have V28_22 : Hid (Vr w22 gV28 ⟨rq, rp, rb, rd, rm⟩) := V28_22
  obtain ⟨x0, x1, x2, x3, x4⟩ := row5 Ks_22.out.row
  go_wp2_with fail
  refine (hN.out q p _).mono ?_
  rintro e w23 ⟨rfl, hs2⟩
  rw [Ho.out]
  rw [Hoe.out]
  clear x0 x1 x2 x3 x4
  have Ks_23 := hide (Ks_22.out.below (hs2))
  have Kt_23 := hide (Kt_22.out.below (hs2))
  have V9_23 := hide (V9_22.out.below (hs2))
  have K10_23 := hide (K10_22.out.below (hs2))
  have V12_23 := hide (V12_22.out.below (hs2))
  have K14_23 := hide (K14_22.out.below (hs2))
  have V16_23 := hide (V16_22.out.below (hs2))
  have K18_23 := hide (K18_22.out.below (hs2))
  have V20_23 := hide (V20_22.out.below (hs2))
  have K22_23 := hide (K22_22.out.below (hs2))
  have V24_23 := hide (V24_22.out.below (hs2))
  have K26_23 := hide (K26_22.out.below (hs2))
  have V28_23 := hide (V28_22.out.below (hs2))
  have B_23 := hide (Nx.trans B_22.out (hs2))
  clear B_22 Ks_22 Kt_22 V9_22 K10_22 V12_22 K14_22 V16_22 K18_22 V20_22 K22_22 V24_22 K26_22 V28_22
  clear hs2
  have bK30 := hide B_23.out.size
  have neKsK30 : Hid (gKs ≠ w23.heap.size) := hide (Nat.ne_of_lt Ks_23.out.lt)
  have neKtK30 : Hid (gKt ≠ w23.heap.size) := hide (Nat.ne_of_lt Kt_23.out.lt)
  have neV9K30 : Hid (gV9 ≠ w23.heap.size) := hide (Nat.ne_of_lt V9_23.out.lt)
  have neK10K30 : Hid (gK10 ≠ w23.heap.size) := hide (Nat.ne_of_lt K10_23.out.lt)
  have neV12K30 : Hid (gV12 ≠ w23.heap.size) := hide (Nat.ne_of_lt V12_23.out.lt)
  have neK14K30 : Hid (gK14 ≠ w23.heap.size) := hide (Nat.ne_of_lt K14_23.out.lt)
  have neV16K30 : Hid (gV16 ≠ w23.heap.size) := hide (Nat.ne_of_lt V16_23.out.lt)
  have neK18K30 : Hid (gK18 ≠ w23.heap.size) := hide (Nat.ne_of_lt K18_23.out.lt)
  have neV20K30 : Hid (gV20 ≠ w23.heap.size) := hide (Nat.ne_of_lt V20_23.out.lt)
  have neK22K30 : Hid (gK22 ≠ w23.heap.size) := hide (Nat.ne_of_lt K22_23.out.lt)
  have neV24K30 : Hid (gV24 ≠ w23.heap.size) := hide (Nat.ne_of_lt V24_23.out.lt)
  have neK26K30 : Hid (gK26 ≠ w23.heap.size) := hide (Nat.ne_of_lt K26_23.out.lt)
  have neV28K30 : Hid (gV28 ≠ w23.heap.size) := hide (Nat.ne_of_lt V28_23.out.lt)
  have KN := hide (Vb.new w23 ⟨oq, op, ob, od, om⟩)
  have NN := hide (Nx.alloc w23 (.cells #[.int .i64 oq, .int .i64 op, .int .i64 ob, .int .i64 od, .int .i64 om] 24))
  go_upto_region 15 with fail
  have Ks_24 := hide (Ks_23.out.below (NN.out))
  have Kt_24 := hide (Kt_23.out.below (NN.out))
  have V9_24 := hide (V9_23.out.below (NN.out))
  have K10_24 := hide (K10_23.out.below (NN.out))
  have V12_24 := hide (V12_23.out.below (NN.out))
  have K14_24 := hide (K14_23.out.below (NN.out))
  have V16_24 := hide (V16_23.out.below (NN.out))
  have K18_24 := hide (K18_23.out.below (NN.out))
  have V20_24 := hide (V20_23.out.below (NN.out))
  have K22_24 := hide (K22_23.out.below (NN.out))
  have V24_24 := hide (V24_23.out.below (NN.out))
  have K26_24 := hide (K26_23.out.below (NN.out))
  have V28_24 := hide (V28_23.out.below (NN.out))
  have B_24 := hide (Nx.trans B_23.out (NN.out))
  clear B_23 Ks_23 Kt_23 V9_23 K10_23 V12_23 K14_23 V16_23 K18_23 V20_23 K22_23 V24_23 K26_23 V28_23
  generalize hw : w23.alloc (.cells #[.int .i64 oq, .int .i64 op, .int .i64 ob, .int .i64 od, .int .i64 om] 24) = w24 at *
  have K30_24 := KN
  clear KN NN hw
  generalize w23.heap.size = gK30 at *
  have K30_24 : Hid (Vb w24 gK30 ⟨oq, op, ob, od, om⟩) := K30_24
  obtain ⟨x0, x1, x2, x3, x4⟩ := row5 Ks_24.out.row
  go_wp2_with fail
  refine (rnew_any q p _).mono ?_
  rintro e w25 ⟨rfl, hs2⟩
  rw [Ho.out]
  rw [Hoe.out]
  clear x0 x1 x2 x3 x4
  have Ks_25 := hide (Ks_24.out.below (hs2))
  have Kt_25 := hide (Kt_24.out.below (hs2))
  have V9_25 := hide (V9_24.out.below (hs2))
  have K10_25 := hide (K10_24.out.below (hs2))
  have V12_25 := hide (V12_24.out.below (hs2))
  have K14_25 := hide (K14_24.out.below (hs2))
  have V16_25 := hide (V16_24.out.below (hs2))
  have K18_25 := hide (K18_24.out.below (hs2))
  have V20_25 := hide (V20_24.out.below (hs2))
  have K22_25 := hide (K22_24.out.below (hs2))
  have V24_25 := hide (V24_24.out.below (hs2))
  have K26_25 := hide (K26_24.out.below (hs2))
  have V28_25 := hide (V28_24.out.below (hs2))
  have K30_25 := hide (K30_24.out.below (hs2))
  have B_25 := hide (Nx.trans B_24.out (hs2))
  clear B_24 Ks_24 Kt_24 V9_24 K10_24 V12_24 K14_24 V16_24 K18_24 V20_24 K22_24 V24_24 K26_24 V28_24 K30_24
  clear hs2
  have bV32 := hide B_25.out.size
  have neKsV32 : Hid (gKs ≠ w25.heap.size) := hide (Nat.ne_of_lt Ks_25.out.lt)
  have neKtV32 : Hid (gKt ≠ w25.heap.size) := hide (Nat.ne_of_lt Kt_25.out.lt)
  have neV9V32 : Hid (gV9 ≠ w25.heap.size) := hide (Nat.ne_of_lt V9_25.out.lt)
  have neK10V32 : Hid (gK10 ≠ w25.heap.size) := hide (Nat.ne_of_lt K10_25.out.lt)
  have neV12V32 : Hid (gV12 ≠ w25.heap.size) := hide (Nat.ne_of_lt V12_25.out.lt)
  have neK14V32 : Hid (gK14 ≠ w25.heap.size) := hide (Nat.ne_of_lt K14_25.out.lt)
  have neV16V32 : Hid (gV16 ≠ w25.heap.size) := hide (Nat.ne_of_lt V16_25.out.lt)
  have neK18V32 : Hid (gK18 ≠ w25.heap.size) := hide (Nat.ne_of_lt K18_25.out.lt)
  have neV20V32 : Hid (gV20 ≠ w25.heap.size) := hide (Nat.ne_of_lt V20_25.out.lt)
  have neK22V32 : Hid (gK22 ≠ w25.heap.size) := hide (Nat.ne_of_lt K22_25.out.lt)
  have neV24V32 : Hid (gV24 ≠ w25.heap.size) := hide (Nat.ne_of_lt V24_25.out.lt)
  have neK26V32 : Hid (gK26 ≠ w25.heap.size) := hide (Nat.ne_of_lt K26_25.out.lt)
  have neV28V32 : Hid (gV28 ≠ w25.heap.size) := hide (Nat.ne_of_lt V28_25.out.lt)
  have neK30V32 : Hid (gK30 ≠ w25.heap.size) := hide (Nat.ne_of_lt K30_25.out.lt)
  have KN := hide (Vr.new w25 ⟨oq, op, ob, od, om⟩)
  have NN := hide (Nx.alloc w25 (.cells #[.int .i64 oq, .int .i64 op, .int .i64 ob, .int .i64 od, .int .i64 om] 34))
  go_upto_region 16 with fail
  have Ks_26 := hide (Ks_25.out.below (NN.out))
  have Kt_26 := hide (Kt_25.out.below (NN.out))
  have V9_26 := hide (V9_25.out.below (NN.out))
  have K10_26 := hide (K10_25.out.below (NN.out))
  have V12_26 := hide (V12_25.out.below (NN.out))
  have K14_26 := hide (K14_25.out.below (NN.out))
  have V16_26 := hide (V16_25.out.below (NN.out))
  have K18_26 := hide (K18_25.out.below (NN.out))
  have V20_26 := hide (V20_25.out.below (NN.out))
  have K22_26 := hide (K22_25.out.below (NN.out))
  have V24_26 := hide (V24_25.out.below (NN.out))
  have K26_26 := hide (K26_25.out.below (NN.out))
  have V28_26 := hide (V28_25.out.below (NN.out))
  have K30_26 := hide (K30_25.out.below (NN.out))
  have B_26 := hide (Nx.trans B_25.out (NN.out))
  clear B_25 Ks_25 Kt_25 V9_25 K10_25 V12_25 K14_25 V16_25 K18_25 V20_25 K22_25 V24_25 K26_25 V28_25 K30_25
  generalize hw : w25.alloc (.cells #[.int .i64 oq, .int .i64 op, .int .i64 ob, .int .i64 od, .int .i64 om] 34) = w26 at *
  have V32_26 := KN
  clear KN NN hw
  generalize w25.heap.size = gV32 at *
  have V32_26 : Hid (Vr w26 gV32 ⟨oq, op, ob, od, om⟩) := V32_26
  clear Ha Hae Hu Hue Hi Hie Hx Hxe Hr Hre Ho Hoe hA hN hW hU hI hWt hT
  have f0 := fun d os => (row5 (Vb.below Ks_26.out (below_regrown w26 d os)).row).1
  have f1 := fun d os => (row5 (Vb.below Ks_26.out (below_regrown w26 d os)).row).2.1
  have f2 := fun d os => (row5 (Vb.below Ks_26.out (below_regrown w26 d os)).row).2.2.1
  have f3 := fun d os => (row5 (Vb.below Ks_26.out (below_regrown w26 d os)).row).2.2.2.1
  have f4 := fun d os => (row5 (Vb.below Ks_26.out (below_regrown w26 d os)).row).2.2.2.2
  have f5 := fun d os => (row5 (Vb.below Kt_26.out (below_regrown w26 d os)).row).1
  have f6 := fun d os => (row5 (Vb.below Kt_26.out (below_regrown w26 d os)).row).2.1
  have f7 := fun d os => (row5 (Vb.below Kt_26.out (below_regrown w26 d os)).row).2.2.1
  have f8 := fun d os => (row5 (Vb.below Kt_26.out (below_regrown w26 d os)).row).2.2.2.1
  have f9 := fun d os => (row5 (Vb.below Kt_26.out (below_regrown w26 d os)).row).2.2.2.2
  have f10 := fun d os => (row5 (Vr.below V9_26.out (below_regrown w26 d os)).row).1
  have f11 := fun d os => (row5 (Vr.below V9_26.out (below_regrown w26 d os)).row).2.1
  have f12 := fun d os => (row5 (Vr.below V9_26.out (below_regrown w26 d os)).row).2.2.1
  have f13 := fun d os => (row5 (Vr.below V9_26.out (below_regrown w26 d os)).row).2.2.2.1
  have f14 := fun d os => (row5 (Vr.below V9_26.out (below_regrown w26 d os)).row).2.2.2.2
  have f15 := fun d os => (row5 (Vb.below K10_26.out (below_regrown w26 d os)).row).1
  have f16 := fun d os => (row5 (Vb.below K10_26.out (below_regrown w26 d os)).row).2.1
  have f17 := fun d os => (row5 (Vb.below K10_26.out (below_regrown w26 d os)).row).2.2.1
  have f18 := fun d os => (row5 (Vb.below K10_26.out (below_regrown w26 d os)).row).2.2.2.1
  have f19 := fun d os => (row5 (Vb.below K10_26.out (below_regrown w26 d os)).row).2.2.2.2
  have f20 := fun d os => (row5 (Vr.below V12_26.out (below_regrown w26 d os)).row).1
  have f21 := fun d os => (row5 (Vr.below V12_26.out (below_regrown w26 d os)).row).2.1
  have f22 := fun d os => (row5 (Vr.below V12_26.out (below_regrown w26 d os)).row).2.2.1
  have f23 := fun d os => (row5 (Vr.below V12_26.out (below_regrown w26 d os)).row).2.2.2.1
  have f24 := fun d os => (row5 (Vr.below V12_26.out (below_regrown w26 d os)).row).2.2.2.2
  have f25 := fun d os => (row5 (Vb.below K14_26.out (below_regrown w26 d os)).row).1
  have f26 := fun d os => (row5 (Vb.below K14_26.out (below_regrown w26 d os)).row).2.1
  have f27 := fun d os => (row5 (Vb.below K14_26.out (below_regrown w26 d os)).row).2.2.1
  have f28 := fun d os => (row5 (Vb.below K14_26.out (below_regrown w26 d os)).row).2.2.2.1
  have f29 := fun d os => (row5 (Vb.below K14_26.out (below_regrown w26 d os)).row).2.2.2.2
  have f30 := fun d os => (row5 (Vr.below V16_26.out (below_regrown w26 d os)).row).1
  have f31 := fun d os => (row5 (Vr.below V16_26.out (below_regrown w26 d os)).row).2.1
  have f32 := fun d os => (row5 (Vr.below V16_26.out (below_regrown w26 d os)).row).2.2.1
  have f33 := fun d os => (row5 (Vr.below V16_26.out (below_regrown w26 d os)).row).2.2.2.1
  have f34 := fun d os => (row5 (Vr.below V16_26.out (below_regrown w26 d os)).row).2.2.2.2
  have f35 := fun d os => (row5 (Vb.below K18_26.out (below_regrown w26 d os)).row).1
  have f36 := fun d os => (row5 (Vb.below K18_26.out (below_regrown w26 d os)).row).2.1
  have f37 := fun d os => (row5 (Vb.below K18_26.out (below_regrown w26 d os)).row).2.2.1
  have f38 := fun d os => (row5 (Vb.below K18_26.out (below_regrown w26 d os)).row).2.2.2.1
  have f39 := fun d os => (row5 (Vb.below K18_26.out (below_regrown w26 d os)).row).2.2.2.2
  have f40 := fun d os => (row5 (Vr.below V20_26.out (below_regrown w26 d os)).row).1
  have f41 := fun d os => (row5 (Vr.below V20_26.out (below_regrown w26 d os)).row).2.1
  have f42 := fun d os => (row5 (Vr.below V20_26.out (below_regrown w26 d os)).row).2.2.1
  have f43 := fun d os => (row5 (Vr.below V20_26.out (below_regrown w26 d os)).row).2.2.2.1
  have f44 := fun d os => (row5 (Vr.below V20_26.out (below_regrown w26 d os)).row).2.2.2.2
  have f45 := fun d os => (row5 (Vb.below K22_26.out (below_regrown w26 d os)).row).1
  have f46 := fun d os => (row5 (Vb.below K22_26.out (below_regrown w26 d os)).row).2.1
  have f47 := fun d os => (row5 (Vb.below K22_26.out (below_regrown w26 d os)).row).2.2.1
  have f48 := fun d os => (row5 (Vb.below K22_26.out (below_regrown w26 d os)).row).2.2.2.1
  have f49 := fun d os => (row5 (Vb.below K22_26.out (below_regrown w26 d os)).row).2.2.2.2
  have f50 := fun d os => (row5 (Vr.below V24_26.out (below_regrown w26 d os)).row).1
  have f51 := fun d os => (row5 (Vr.below V24_26.out (below_regrown w26 d os)).row).2.1
  have f52 := fun d os => (row5 (Vr.below V24_26.out (below_regrown w26 d os)).row).2.2.1
  have f53 := fun d os => (row5 (Vr.below V24_26.out (below_regrown w26 d os)).row).2.2.2.1
  have f54 := fun d os => (row5 (Vr.below V24_26.out (below_regrown w26 d os)).row).2.2.2.2
  have f55 := fun d os => (row5 (Vb.below K26_26.out (below_regrown w26 d os)).row).1
  have f56 := fun d os => (row5 (Vb.below K26_26.out (below_regrown w26 d os)).row).2.1
  have f57 := fun d os => (row5 (Vb.below K26_26.out (below_regrown w26 d os)).row).2.2.1
  have f58 := fun d os => (row5 (Vb.below K26_26.out (below_regrown w26 d os)).row).2.2.2.1
  have f59 := fun d os => (row5 (Vb.below K26_26.out (below_regrown w26 d os)).row).2.2.2.2
  have f60 := fun d os => (row5 (Vr.below V28_26.out (below_regrown w26 d os)).row).1
  have f61 := fun d os => (row5 (Vr.below V28_26.out (below_regrown w26 d os)).row).2.1
  have f62 := fun d os => (row5 (Vr.below V28_26.out (below_regrown w26 d os)).row).2.2.1
  have f63 := fun d os => (row5 (Vr.below V28_26.out (below_regrown w26 d os)).row).2.2.2.1
  have f64 := fun d os => (row5 (Vr.below V28_26.out (below_regrown w26 d os)).row).2.2.2.2
  have f65 := fun d os => (row5 (Vb.below K30_26.out (below_regrown w26 d os)).row).1
  have f66 := fun d os => (row5 (Vb.below K30_26.out (below_regrown w26 d os)).row).2.1
  have f67 := fun d os => (row5 (Vb.below K30_26.out (below_regrown w26 d os)).row).2.2.1
  have f68 := fun d os => (row5 (Vb.below K30_26.out (below_regrown w26 d os)).row).2.2.2.1
  have f69 := fun d os => (row5 (Vb.below K30_26.out (below_regrown w26 d os)).row).2.2.2.2
  have f70 := fun d os => (row5 (Vr.below V32_26.out (below_regrown w26 d os)).row).1
  have f71 := fun d os => (row5 (Vr.below V32_26.out (below_regrown w26 d os)).row).2.1
  have f72 := fun d os => (row5 (Vr.below V32_26.out (below_regrown w26 d os)).row).2.2.1
  have f73 := fun d os => (row5 (Vr.below V32_26.out (below_regrown w26 d os)).row).2.2.2.1
  have f74 := fun d os => (row5 (Vr.below V32_26.out (below_regrown w26 d os)).row).2.2.2.2
  have n0 : Hid (Nx w26 w26.drew) := hide ⟨rfl, rfl, rfl, Nat.le_refl _, fun _ _ => rfl⟩
  have SS : Hid (∀ x, Nx w26 x → ∃ p : Regrown, x = Sort.grow (redrawn w26 p.d) p.os) := hide (fun x hx => regrown_of_below hx)
  have CG : Hid (∀ x, Calls Try.prog 17 #[svv ⟨q, p, b, d, m⟩] x fun e w' => e = .returned (.bool gg) ∧ Nx x w') := hide (fun x => by have := hG.out ⟨q, p, b, d, m⟩ x; rw [Hgg.out] at this; exact this)
  have CR : Hid (∀ x, Calls Try.prog 25 #[svv ⟨q, p, b, d, m⟩] x fun e w' => e = .returned (.bool gg) ∧ Nx x w') := hide (fun x => by have := rgood_server ⟨q, p, b, d, m⟩ x; rw [Hgg.out] at this; exact this)
  have CL : Hid (∀ x, Calls Try.prog 16 #[svv ⟨q, p, b, d, m⟩, svv ⟨tq, tp, tb, td, tm⟩] x fun e w' => e = .returned (.bool (decide (d < td))) ∧ Nx x w') := hide (fun x => hL.out ⟨q, p, b, d, m⟩ ⟨tq, tp, tb, td, tm⟩ x)
  clear Ks_26 Kt_26 V9_26 K10_26 V12_26 K14_26 V16_26 K18_26 V20_26 K22_26 V24_26 K26_26 V28_26 K30_26 V32_26 Hgg hG hL
  as_aux_lemma =>
    simp only [List.append]
    refine wp_region_noPanic ?_
    refine wp_region_held_drew (S := fun x => ∃ p : Regrown, x = Sort.grow (redrawn w26 p.d) p.os) (by as_aux_lemma => kernel_rfl) (SS.out _ n0.out) (fun hHeld => ?_)
    clear hHeld
    refine Seg.seg 0 1 82 #[true, false, false, false, false, false, false, false, false, false, false, false, false, false, false, false, false, false, false, false, false, false, false, false, false, false, false, false, false, false, false, false, false, false, false, false, false, false, false, false, false, false, false, false, false, false, false, false, false, false, false, false, false, false, false, false, false, false, false, false, false, false, false, false, false, false, false, false, false, false, false, false, false, false, false, false, false, false, false, false, false, false, false] (by as_aux_lemma => kernel_rfl) (fun _ _ _ _ _ h => h) (SS.out _ n0.out) (by as_aux_lemma => kernel_rfl) (by kernel_rfl) (by kernel_rfl) ?_
    simp only [List.drop_succ_cons, List.drop_zero, List.take_succ_cons, List.take_zero]
    iterate 1 (go_big_quiet_step (fail))
    refine wpQuiet_nil ?_
    refine Seg.seg 2 1 81 #[true, false, true, false, false, false, false, false, false, false, false, false, false, false, false, false, false, false, false, false, false, false, false, false, false, false, false, false, false, false, false, false, false, false, false, false, false, false, false, false, false, false, false, false, false, false, false, false, false, false, false, false, false, false, false, false, false, false, false, false, false, false, false, false, false, false, false, false, false, false, false, false, false, false, false, false, false, false, false, false, false, false, false] (by as_aux_lemma => kernel_rfl) (fun _ _ _ _ _ h => h) (SS.out _ n0.out) (by as_aux_lemma => kernel_rfl) (by kernel_rfl) (by kernel_rfl) ?_
    simp only [List.drop_succ_cons, List.drop_zero, List.take_succ_cons, List.take_zero]
    iterate 1 (go_big_quiet_step (fail))
    refine wpQuiet_nil ?_
    as_aux_lemma =>
      refine wpAnyH_ready (rs := [1]) (by as_aux_lemma => kernel_rfl) (by simp) ?_
      refine AllReadyH.cons rfl (fun K hK => ?_) AllReadyH.nil
      go_simp
      refine (ownS_any ⟨aq, ap, ab, ad, am⟩ _).mono ?_
      rintro e y1 ⟨rfl, hb⟩
      have n1 := hide (Nx.trans n0.out hb)
      clear hb
      refine hK.out _ _ (SS.out _ n1.out) (fun hHeld => ?_)
      clear hK K hHeld
      (try simp only [Act.put, List.setIfInBounds_toArray, List.set_cons_zero, List.set_cons_succ])
      as_aux_lemma =>
        refine Seg.seg 3 7 73 #[true, true, true, true, true, true, true, true, true, true, false, false, false, false, false, false, false, false, false, false, false, false, false, false, false, false, false, false, false, false, false, false, false, false, false, false, false, false, false, false, false, false, false, false, false, false, false, false, false, false, false, false, false, false, false, false, false, false, false, false, false, false, false, false, false, false, false, false, false, false, false, false, false, false, false, false, false, false, false, false, false, false, false] (by as_aux_lemma => kernel_rfl) (fun _ _ _ _ _ h => h) (SS.out _ n1.out) (by as_aux_lemma => kernel_rfl) (by kernel_rfl) (by kernel_rfl) ?_
        simp only [List.drop_succ_cons, List.drop_zero, List.take_succ_cons, List.take_zero]
        iterate 7 (go_big_quiet_step (fail))
        refine wpQuiet_nil ?_
        as_aux_lemma =>
          refine Seg.seg 10 1 72 #[true, true, true, true, true, true, true, true, true, true, true, false, false, false, false, false, false, false, false, false, false, false, false, false, false, false, false, false, false, false, false, false, false, false, false, false, false, false, false, false, false, false, false, false, false, false, false, false, false, false, false, false, false, false, false, false, false, false, false, false, false, false, false, false, false, false, false, false, false, false, false, false, false, false, false, false, false, false, false, false, false, false, false] (by as_aux_lemma => kernel_rfl) (fun _ _ _ _ _ h => h) (SS.out _ n1.out) (by as_aux_lemma => kernel_rfl) (by kernel_rfl) (by kernel_rfl) ?_
          simp only [List.drop_succ_cons, List.drop_zero, List.take_succ_cons, List.take_zero]
          iterate 1 (go_big_quiet_step (fail))
          refine wpQuiet_nil ?_
          refine Seg.seg 12 1 71 #[true, true, true, true, true, true, true, true, true, true, true, false, true, false, false, false, false, false, false, false, false, false, false, false, false, false, false, false, false, false, false, false, false, false, false, false, false, false, false, false, false, false, false, false, false, false, false, false, false, false, false, false, false, false, false, false, false, false, false, false, false, false, false, false, false, false, false, false, false, false, false, false, false, false, false, false, false, false, false, false, false, false, false] (by as_aux_lemma => kernel_rfl) (fun _ _ _ _ _ h => h) (SS.out _ n1.out) (by as_aux_lemma => kernel_rfl) (by kernel_rfl) (by kernel_rfl) ?_
          simp only [List.drop_succ_cons, List.drop_zero, List.take_succ_cons, List.take_zero]
          iterate 1 (go_big_quiet_step (fail))
          refine wpQuiet_nil ?_
          as_aux_lemma =>
            refine wpAnyH_ready (rs := [11]) (by as_aux_lemma => kernel_rfl) (by simp) ?_
            refine AllReadyH.cons rfl (fun K hK => ?_) AllReadyH.nil
            go_simp
            refine (ownS_any ⟨uq, up, ub, ud, um⟩ _).mono ?_
            rintro e y2 ⟨rfl, hb⟩
            have n2 := hide (Nx.trans n1.out hb)
            clear hb
            refine hK.out _ _ (SS.out _ n2.out) (fun hHeld => ?_)
            clear hK K hHeld
            (try simp only [Act.put, List.setIfInBounds_toArray, List.set_cons_zero, List.set_cons_succ])
            as_aux_lemma =>
              refine Seg.seg 13 8 62 #[true, true, true, true, true, true, true, true, true, true, true, true, true, true, true, true, true, true, true, true, true, false, false, false, false, false, false, false, false, false, false, false, false, false, false, false, false, false, false, false, false, false, false, false, false, false, false, false, false, false, false, false, false, false, false, false, false, false, false, false, false, false, false, false, false, false, false, false, false, false, false, false, false, false, false, false, false, false, false, false, false, false, false] (by as_aux_lemma => kernel_rfl) (fun _ _ _ _ _ h => h) (SS.out _ n2.out) (by as_aux_lemma => kernel_rfl) (by kernel_rfl) (by kernel_rfl) ?_
              simp only [List.drop_succ_cons, List.drop_zero, List.take_succ_cons, List.take_zero]
              iterate 8 (go_big_quiet_step (fail))
              refine wpQuiet_nil ?_
              as_aux_lemma =>
                refine Seg.seg 21 1 61 #[true, true, true, true, true, true, true, true, true, true, true, true, true, true, true, true, true, true, true, true, true, true, false, false, false, false, false, false, false, false, false, false, false, false, false, false, false, false, false, false, false, false, false, false, false, false, false, false, false, false, false, false, false, false, false, false, false, false, false, false, false, false, false, false, false, false, false, false, false, false, false, false, false, false, false, false, false, false, false, false, false, false, false] (by as_aux_lemma => kernel_rfl) (fun _ _ _ _ _ h => h) (SS.out _ n2.out) (by as_aux_lemma => kernel_rfl) (by kernel_rfl) (by kernel_rfl) ?_
                simp only [List.drop_succ_cons, List.drop_zero, List.take_succ_cons, List.take_zero]
                iterate 1 (go_big_quiet_step (fail))
                refine wpQuiet_nil ?_
                refine Seg.seg 23 1 60 #[true, true, true, true, true, true, true, true, true, true, true, true, true, true, true, true, true, true, true, true, true, true, false, true, false, false, false, false, false, false, false, false, false, false, false, false, false, false, false, false, false, false, false, false, false, false, false, false, false, false, false, false, false, false, false, false, false, false, false, false, false, false, false, false, false, false, false, false, false, false, false, false, false, false, false, false, false, false, false, false, false, false, false] (by as_aux_lemma => kernel_rfl) (fun _ _ _ _ _ h => h) (SS.out _ n2.out) (by as_aux_lemma => kernel_rfl) (by kernel_rfl) (by kernel_rfl) ?_
                simp only [List.drop_succ_cons, List.drop_zero, List.take_succ_cons, List.take_zero]
                iterate 1 (go_big_quiet_step (fail))
                refine wpQuiet_nil ?_
                as_aux_lemma =>
                  refine wpAnyH_ready (rs := [22]) (by as_aux_lemma => kernel_rfl) (by simp) ?_
                  refine AllReadyH.cons rfl (fun K hK => ?_) AllReadyH.nil
                  go_simp
                  refine (ownS_any ⟨iq, ip, ib, id, im⟩ _).mono ?_
                  rintro e y3 ⟨rfl, hb⟩
                  have n3 := hide (Nx.trans n2.out hb)
                  clear hb
                  refine hK.out _ _ (SS.out _ n3.out) (fun hHeld => ?_)
                  clear hK K hHeld
                  (try simp only [Act.put, List.setIfInBounds_toArray, List.set_cons_zero, List.set_cons_succ])
                  as_aux_lemma =>
                    refine Seg.seg 24 8 51 #[true, true, true, true, true, true, true, true, true, true, true, true, true, true, true, true, true, true, true, true, true, true, true, true, true, true, true, true, true, true, true, true, false, false, false, false, false, false, false, false, false, false, false, false, false, false, false, false, false, false, false, false, false, false, false, false, false, false, false, false, false, false, false, false, false, false, false, false, false, false, false, false, false, false, false, false, false, false, false, false, false, false, false] (by as_aux_lemma => kernel_rfl) (fun _ _ _ _ _ h => h) (SS.out _ n3.out) (by as_aux_lemma => kernel_rfl) (by kernel_rfl) (by kernel_rfl) ?_
                    simp only [List.drop_succ_cons, List.drop_zero, List.take_succ_cons, List.take_zero]
                    iterate 8 (go_big_quiet_step (fail))
                    refine wpQuiet_nil ?_
                    as_aux_lemma =>
                      refine Seg.seg 32 1 50 #[true, true, true, true, true, true, true, true, true, true, true, true, true, true, true, true, true, true, true, true, true, true, true, true, true, true, true, true, true, true, true, true, true, false, false, false, false, false, false, false, false, false, false, false, false, false, false, false, false, false, false, false, false, false, false, false, false, false, false, false, false, false, false, false, false, false, false, false, false, false, false, false, false, false, false, false, false, false, false, false, false, false, false] (by as_aux_lemma => kernel_rfl) (fun _ _ _ _ _ h => h) (SS.out _ n3.out) (by as_aux_lemma => kernel_rfl) (by kernel_rfl) (by kernel_rfl) ?_
                      simp only [List.drop_succ_cons, List.drop_zero, List.take_succ_cons, List.take_zero]
                      iterate 1 (go_big_quiet_step (fail))
                      refine wpQuiet_nil ?_
                      refine Seg.seg 34 1 49 #[true, true, true, true, true, true, true, true, true, true, true, true, true, true, true, true, true, true, true, true, true, true, true, true, true, true, true, true, true, true, true, true, true, false, true, false, false, false, false, false, false, false, false, false, false, false, false, false, false, false, false, false, false, false, false, false, false, false, false, false, false, false, false, false, false, false, false, false, false, false, false, false, false, false, false, false, false, false, false, false, false, false, false] (by as_aux_lemma => kernel_rfl) (fun _ _ _ _ _ h => h) (SS.out _ n3.out) (by as_aux_lemma => kernel_rfl) (by kernel_rfl) (by kernel_rfl) ?_
                      simp only [List.drop_succ_cons, List.drop_zero, List.take_succ_cons, List.take_zero]
                      iterate 1 (go_big_quiet_step (fail))
                      refine wpQuiet_nil ?_
                      as_aux_lemma =>
                        refine wpAnyH_ready (rs := [33]) (by as_aux_lemma => kernel_rfl) (by simp) ?_
                        refine AllReadyH.cons rfl (fun K hK => ?_) AllReadyH.nil
                        go_simp
                        refine (ownS_any ⟨xq, xp, xb, xd, xm⟩ _).mono ?_
                        rintro e y4 ⟨rfl, hb⟩
                        have n4 := hide (Nx.trans n3.out hb)
                        clear hb
                        refine hK.out _ _ (SS.out _ n4.out) (fun hHeld => ?_)
                        clear hK K hHeld
                        (try simp only [Act.put, List.setIfInBounds_toArray, List.set_cons_zero, List.set_cons_succ])
                        as_aux_lemma =>
                          refine Seg.seg 35 8 40 #[true, true, true, true, true, true, true, true, true, true, true, true, true, true, true, true, true, true, true, true, true, true, true, true, true, true, true, true, true, true, true, true, true, true, true, true, true, true, true, true, true, true, true, false, false, false, false, false, false, false, false, false, false, false, false, false, false, false, false, false, false, false, false, false, false, false, false, false, false, false, false, false, false, false, false, false, false, false, false, false, false, false, false] (by as_aux_lemma => kernel_rfl) (fun _ _ _ _ _ h => h) (SS.out _ n4.out) (by as_aux_lemma => kernel_rfl) (by kernel_rfl) (by kernel_rfl) ?_
                          simp only [List.drop_succ_cons, List.drop_zero, List.take_succ_cons, List.take_zero]
                          iterate 8 (go_big_quiet_step (fail))
                          refine wpQuiet_nil ?_
                          as_aux_lemma =>
                            refine Seg.seg 43 1 39 #[true, true, true, true, true, true, true, true, true, true, true, true, true, true, true, true, true, true, true, true, true, true, true, true, true, true, true, true, true, true, true, true, true, true, true, true, true, true, true, true, true, true, true, true, false, false, false, false, false, false, false, false, false, false, false, false, false, false, false, false, false, false, false, false, false, false, false, false, false, false, false, false, false, false, false, false, false, false, false, false, false, false, false] (by as_aux_lemma => kernel_rfl) (fun _ _ _ _ _ h => h) (SS.out _ n4.out) (by as_aux_lemma => kernel_rfl) (by kernel_rfl) (by kernel_rfl) ?_
                            simp only [List.drop_succ_cons, List.drop_zero, List.take_succ_cons, List.take_zero]
                            iterate 1 (go_big_quiet_step (fail))
                            refine wpQuiet_nil ?_
                            refine Seg.seg 45 1 38 #[true, true, true, true, true, true, true, true, true, true, true, true, true, true, true, true, true, true, true, true, true, true, true, true, true, true, true, true, true, true, true, true, true, true, true, true, true, true, true, true, true, true, true, true, false, true, false, false, false, false, false, false, false, false, false, false, false, false, false, false, false, false, false, false, false, false, false, false, false, false, false, false, false, false, false, false, false, false, false, false, false, false, false] (by as_aux_lemma => kernel_rfl) (fun _ _ _ _ _ h => h) (SS.out _ n4.out) (by as_aux_lemma => kernel_rfl) (by kernel_rfl) (by kernel_rfl) ?_
                            simp only [List.drop_succ_cons, List.drop_zero, List.take_succ_cons, List.take_zero]
                            iterate 1 (go_big_quiet_step (fail))
                            refine wpQuiet_nil ?_
                            as_aux_lemma =>
                              refine wpAnyH_ready (rs := [44]) (by as_aux_lemma => kernel_rfl) (by simp) ?_
                              refine AllReadyH.cons rfl (fun K hK => ?_) AllReadyH.nil
                              go_simp
                              refine (ownS_any ⟨rq, rp, rb, rd, rm⟩ _).mono ?_
                              rintro e y5 ⟨rfl, hb⟩
                              have n5 := hide (Nx.trans n4.out hb)
                              clear hb
                              refine hK.out _ _ (SS.out _ n5.out) (fun hHeld => ?_)
                              clear hK K hHeld
                              (try simp only [Act.put, List.setIfInBounds_toArray, List.set_cons_zero, List.set_cons_succ])
                              as_aux_lemma =>
                                refine Seg.seg 46 8 29 #[true, true, true, true, true, true, true, true, true, true, true, true, true, true, true, true, true, true, true, true, true, true, true, true, true, true, true, true, true, true, true, true, true, true, true, true, true, true, true, true, true, true, true, true, true, true, true, true, true, true, true, true, true, true, false, false, false, false, false, false, false, false, false, false, false, false, false, false, false, false, false, false, false, false, false, false, false, false, false, false, false, false, false] (by as_aux_lemma => kernel_rfl) (fun _ _ _ _ _ h => h) (SS.out _ n5.out) (by as_aux_lemma => kernel_rfl) (by kernel_rfl) (by kernel_rfl) ?_
                                simp only [List.drop_succ_cons, List.drop_zero, List.take_succ_cons, List.take_zero]
                                iterate 8 (go_big_quiet_step (fail))
                                refine wpQuiet_nil ?_
                                as_aux_lemma =>
                                  refine Seg.seg 54 1 28 #[true, true, true, true, true, true, true, true, true, true, true, true, true, true, true, true, true, true, true, true, true, true, true, true, true, true, true, true, true, true, true, true, true, true, true, true, true, true, true, true, true, true, true, true, true, true, true, true, true, true, true, true, true, true, true, false, false, false, false, false, false, false, false, false, false, false, false, false, false, false, false, false, false, false, false, false, false, false, false, false, false, false, false] (by as_aux_lemma => kernel_rfl) (fun _ _ _ _ _ h => h) (SS.out _ n5.out) (by as_aux_lemma => kernel_rfl) (by kernel_rfl) (by kernel_rfl) ?_
                                  simp only [List.drop_succ_cons, List.drop_zero, List.take_succ_cons, List.take_zero]
                                  iterate 1 (go_big_quiet_step (fail))
                                  refine wpQuiet_nil ?_
                                  refine Seg.seg 56 1 27 #[true, true, true, true, true, true, true, true, true, true, true, true, true, true, true, true, true, true, true, true, true, true, true, true, true, true, true, true, true, true, true, true, true, true, true, true, true, true, true, true, true, true, true, true, true, true, true, true, true, true, true, true, true, true, true, false, true, false, false, false, false, false, false, false, false, false, false, false, false, false, false, false, false, false, false, false, false, false, false, false, false, false, false] (by as_aux_lemma => kernel_rfl) (fun _ _ _ _ _ h => h) (SS.out _ n5.out) (by as_aux_lemma => kernel_rfl) (by kernel_rfl) (by kernel_rfl) ?_
                                  simp only [List.drop_succ_cons, List.drop_zero, List.take_succ_cons, List.take_zero]
                                  iterate 1 (go_big_quiet_step (fail))
                                  refine wpQuiet_nil ?_
                                  as_aux_lemma =>
                                    refine wpAnyH_ready (rs := [55]) (by as_aux_lemma => kernel_rfl) (by simp) ?_
                                    refine AllReadyH.cons rfl (fun K hK => ?_) AllReadyH.nil
                                    go_simp
                                    refine (ownS_any ⟨oq, op, ob, od, om⟩ _).mono ?_
                                    rintro e y6 ⟨rfl, hb⟩
                                    have n6 := hide (Nx.trans n5.out hb)
                                    clear hb
                                    refine hK.out _ _ (SS.out _ n6.out) (fun hHeld => ?_)
                                    clear hK K hHeld
                                    (try simp only [Act.put, List.setIfInBounds_toArray, List.set_cons_zero, List.set_cons_succ])
                                    as_aux_lemma =>
                                      refine Seg.seg 57 8 18 #[true, true, true, true, true, true, true, true, true, true, true, true, true, true, true, true, true, true, true, true, true, true, true, true, true, true, true, true, true, true, true, true, true, true, true, true, true, true, true, true, true, true, true, true, true, true, true, true, true, true, true, true, true, true, true, true, true, true, true, true, true, true, true, true, true, false, false, false, false, false, false, false, false, false, false, false, false, false, false, false, false, false, false] (by as_aux_lemma => kernel_rfl) (fun _ _ _ _ _ h => h) (SS.out _ n6.out) (by as_aux_lemma => kernel_rfl) (by kernel_rfl) (by kernel_rfl) ?_
                                      simp only [List.drop_succ_cons, List.drop_zero, List.take_succ_cons, List.take_zero]
                                      iterate 8 (go_big_quiet_step (fail))
                                      refine wpQuiet_nil ?_
                                      as_aux_lemma =>
                                        refine Seg.seg 65 1 17 #[true, true, true, true, true, true, true, true, true, true, true, true, true, true, true, true, true, true, true, true, true, true, true, true, true, true, true, true, true, true, true, true, true, true, true, true, true, true, true, true, true, true, true, true, true, true, true, true, true, true, true, true, true, true, true, true, true, true, true, true, true, true, true, true, true, true, false, false, false, false, false, false, false, false, false, false, false, false, false, false, false, false, false] (by as_aux_lemma => kernel_rfl) (fun _ _ _ _ _ h => h) (SS.out _ n6.out) (by as_aux_lemma => kernel_rfl) (by kernel_rfl) (by kernel_rfl) ?_
                                        simp only [List.drop_succ_cons, List.drop_zero, List.take_succ_cons, List.take_zero]
                                        iterate 1 (go_big_quiet_step (fail))
                                        refine wpQuiet_nil ?_
                                        refine Seg.seg 67 1 16 #[true, true, true, true, true, true, true, true, true, true, true, true, true, true, true, true, true, true, true, true, true, true, true, true, true, true, true, true, true, true, true, true, true, true, true, true, true, true, true, true, true, true, true, true, true, true, true, true, true, true, true, true, true, true, true, true, true, true, true, true, true, true, true, true, true, true, false, true, false, false, false, false, false, false, false, false, false, false, false, false, false, false, false] (by as_aux_lemma => kernel_rfl) (fun _ _ _ _ _ h => h) (SS.out _ n6.out) (by as_aux_lemma => kernel_rfl) (by kernel_rfl) (by kernel_rfl) ?_
                                        simp only [List.drop_succ_cons, List.drop_zero, List.take_succ_cons, List.take_zero]
                                        iterate 1 (go_big_quiet_step (fail))
                                        refine wpQuiet_nil ?_
                                        as_aux_lemma =>
                                          refine wpAnyH_ready (rs := [66]) (by as_aux_lemma => kernel_rfl) (by simp) ?_
                                          refine AllReadyH.cons rfl (fun K hK => ?_) AllReadyH.nil
                                          go_simp
                                          refine (CG.out _).mono ?_
                                          rintro e y7 ⟨rfl, hb⟩
                                          have n7 := hide (Nx.trans n6.out hb)
                                          clear hb
                                          refine hK.out _ _ (SS.out _ n7.out) (fun hHeld => ?_)
                                          clear hK K hHeld
                                          (try simp only [Act.put, List.setIfInBounds_toArray, List.set_cons_zero, List.set_cons_succ])
                                          as_aux_lemma =>
                                            refine wpAnyH_ready (rs := [68]) (by as_aux_lemma => kernel_rfl) (by simp) ?_
                                            refine AllReadyH.cons rfl (fun K hK => ?_) AllReadyH.nil
                                            go_simp
                                            refine (CR.out _).mono ?_
                                            rintro e y8 ⟨rfl, hb⟩
                                            have n8 := hide (Nx.trans n7.out hb)
                                            clear hb
                                            refine hK.out _ _ (SS.out _ n8.out) (fun hHeld => ?_)
                                            clear hK K hHeld
                                            (try simp only [Act.put, List.setIfInBounds_toArray, List.set_cons_zero, List.set_cons_succ])
                                            as_aux_lemma =>
                                              refine Seg.seg 69 3 11 #[true, true, true, true, true, true, true, true, true, true, true, true, true, true, true, true, true, true, true, true, true, true, true, true, true, true, true, true, true, true, true, true, true, true, true, true, true, true, true, true, true, true, true, true, true, true, true, true, true, true, true, true, true, true, true, true, true, true, true, true, true, true, true, true, true, true, true, true, true, true, true, true, false, false, false, false, false, false, false, false, false, false, false] (by as_aux_lemma => kernel_rfl) (fun _ _ _ _ _ h => h) (SS.out _ n8.out) (by as_aux_lemma => kernel_rfl) (by kernel_rfl) (by kernel_rfl) ?_
                                              simp only [List.drop_succ_cons, List.drop_zero, List.take_succ_cons, List.take_zero]
                                              iterate 3 (go_big_quiet_step (fail))
                                              refine wpQuiet_nil ?_
                                              as_aux_lemma =>
                                                refine Seg.seg 72 2 9 #[true, true, true, true, true, true, true, true, true, true, true, true, true, true, true, true, true, true, true, true, true, true, true, true, true, true, true, true, true, true, true, true, true, true, true, true, true, true, true, true, true, true, true, true, true, true, true, true, true, true, true, true, true, true, true, true, true, true, true, true, true, true, true, true, true, true, true, true, true, true, true, true, true, true, false, false, false, false, false, false, false, false, false] (by as_aux_lemma => kernel_rfl) (fun _ _ _ _ _ h => h) (SS.out _ n8.out) (by as_aux_lemma => kernel_rfl) (by kernel_rfl) (by kernel_rfl) ?_
                                                simp only [List.drop_succ_cons, List.drop_zero, List.take_succ_cons, List.take_zero]
                                                iterate 2 (go_big_quiet_step (fail))
                                                refine wpQuiet_nil ?_
                                                refine Seg.seg 75 5 4 #[true, true, true, true, true, true, true, true, true, true, true, true, true, true, true, true, true, true, true, true, true, true, true, true, true, true, true, true, true, true, true, true, true, true, true, true, true, true, true, true, true, true, true, true, true, true, true, true, true, true, true, true, true, true, true, true, true, true, true, true, true, true, true, true, true, true, true, true, true, true, true, true, true, true, false, true, true, true, true, true, false, false, false] (by as_aux_lemma => kernel_rfl) (fun _ _ _ _ _ h => h) (SS.out _ n8.out) (by as_aux_lemma => kernel_rfl) (by kernel_rfl) (by kernel_rfl) ?_
                                                simp only [List.drop_succ_cons, List.drop_zero, List.take_succ_cons, List.take_zero]
                                                iterate 5 (go_big_quiet_step (fail))
                                                refine wpQuiet_nil ?_
                                                as_aux_lemma =>
                                                  refine wpAnyH_ready (rs := [74]) (by as_aux_lemma => kernel_rfl) (by simp) ?_
                                                  refine AllReadyH.cons rfl (fun K hK => ?_) AllReadyH.nil
                                                  go_simp
                                                  refine (CL.out _).mono ?_
                                                  rintro e y9 ⟨rfl, hb⟩
                                                  have n9 := hide (Nx.trans n8.out hb)
                                                  clear hb
                                                  refine hK.out _ _ (SS.out _ n9.out) (fun hHeld => ?_)
                                                  clear hK K hHeld
                                                  (try simp only [Act.put, List.setIfInBounds_toArray, List.set_cons_zero, List.set_cons_succ])
                                                  as_aux_lemma =>
                                                    refine Seg.seg 80 3 0 #[true, true, true, true, true, true, true, true, true, true, true, true, true, true, true, true, true, true, true, true, true, true, true, true, true, true, true, true, true, true, true, true, true, true, true, true, true, true, true, true, true, true, true, true, true, true, true, true, true, true, true, true, true, true, true, true, true, true, true, true, true, true, true, true, true, true, true, true, true, true, true, true, true, true, true, true, true, true, true, true, true, true, true] (by as_aux_lemma => kernel_rfl) (fun _ _ _ _ _ h => h) (SS.out _ n9.out) (by as_aux_lemma => kernel_rfl) (by kernel_rfl) (by kernel_rfl) ?_
                                                    simp only [List.drop_succ_cons, List.drop_zero, List.take_succ_cons, List.take_zero]
                                                    iterate 3 (go_big_quiet_step (fail))
                                                    refine wpQuiet_nil ?_
                                                    refine wpAnyH_done (by as_aux_lemma => kernel_rfl) ?_ _
                                                    refine NoPanic.normal ?_
                                                    have HF := hide (Nx.trans B_26.out n9.out)
                                                    go_wp2
                                                    go_ret
                                                    exact ⟨rfl, HF.out⟩
end Go.Proofs.Ytegfhndcimkjoaa.Cb
