/- AdmitKnown: the examples. -/
import Derived.Test.YtldccbinndbcdaaAmAx
import Derived.Test.YtldccbinndbcdaaAmAsks
namespace Go.Proofs.Ytldccbinndbcdaa.Am
open Go.RowKit Go.Proofs.Ytldccbinndbcdaa.Con Go.Proofs.Ytldccbinndbcdaa.Wn Go.Proofs.Ytldccbinndbcdaa.Fp
set_option linter.unusedVariables false
set_option linter.unusedSimpArgs false
theorem Ax.xy {I : BkI} {W w : World} {b g e : Nat} {s : Bs} {x y : Value} (h : Ax I W w b s g (.cells #[x, y] e)) : w.cell? ⟨g, 0, none⟩ = some x ∧ w.cell? ⟨g, 1, none⟩ = some y :=
  ⟨(cell_of_row w g 0 _ e _ h.box).trans rfl, (cell_of_row w g 1 _ e _ h.box).trans rfl⟩
def sw (k : Nat) : Bs := ⟨64, (List.range k).map (fun (i : Nat) => ⟨(i : Int), (1, 2), -1⟩), []⟩
theorem sw_len (k : Nat) : (sw k).ins.length = k := by simp [sw]
theorem sw_small {k : Nat} (h : k ≤ 32) : Small (sw k) := ⟨by rw [sw_len]; exact h, by simp [sw]⟩
theorem sw_at {k j : Nat} (h : j < k) : atE (sw k).ins j = ⟨(j : Int), (1, 2), -1⟩ := by
  unfold atE sw
  rw [List.getD_eq_getElem?_getD, List.getElem?_map, List.getElem?_range h]; rfl
theorem sw_counted (k : Nat) : counted (sw k) 0 = List.replicate k (1, 2) := by
  unfold counted sw lingers prs
  simp [List.map_const', Function.comp_def]
theorem sw_enter {k : Nat} (hk : k < 32) : enterE (sw k) (k : Int) (1, 2) 0 = 0 ∧ enter (sw k) (k : Int) (1, 2) 0 = sw (k + 1) := by
  have ha : argB (1, 2) 0 = true := by decide +kernel
  have hl : isLive (sw k) (k : Int) = false := live_none (fun j hj => by rw [sw_len] at hj; rw [sw_at hj]; show (j : Int) ≠ (k : Int); omega)
  have hc : (counted (sw k) 0).length = k := by rw [sw_counted]; simp
  have hp : pairsB 64 (counted (sw k) 0 ++ [(1, 2)]) = true := pairs_iff.2 ⟨by omega, by rw [List.length_append, hc]; simp; omega, fun x hx => by
    rw [sw_counted] at hx
    rcases List.mem_append.1 hx with hx | hx
    · rw [(List.mem_replicate.1 hx).2]; decide +kernel
    · rw [List.mem_singleton.1 hx]; decide +kernel⟩
  have hall : allB 64 (counted (sw k) 0 ++ [(1, 2)]) = true := few_fit hp (by rw [List.length_append, hc]; simp; omega)
  have e : enterE (sw k) (k : Int) (1, 2) 0 = 0 := by
    rw [enter_a ha hl, ask_b ha (by rw [hc, sw_len]; omega)]
    exact if_pos hall
  refine ⟨e, (enter_y e).trans ?_⟩
  unfold entered sw
  rw [List.range_succ, List.map_append]; rfl
theorem sw_full : enterE (sw 32) 32 (1, 2) 0 = 3 := by decide +kernel
theorem ak0 : enterE ⟨1, [], []⟩ 1 (2, 1) 0 = 1 ∧ enter ⟨1, [], []⟩ 1 (2, 1) 0 = ⟨1, [], []⟩ := ⟨by decide +kernel, by rw [enter_n (by decide +kernel)]⟩
theorem ak1 : enterE ⟨1, [], []⟩ 1 (1, 2) (-1) = 1 ∧ enter ⟨1, [], []⟩ 1 (1, 2) (-1) = ⟨1, [], []⟩ := ⟨by decide +kernel, by rw [enter_n (by decide +kernel)]⟩
theorem ak2 : enterE ⟨1, [], []⟩ 7 (1, 2) 0 = 0 ∧ enter ⟨1, [], []⟩ 7 (1, 2) 0 = ⟨1, [⟨7, (1, 2), -1⟩], []⟩ := ⟨by decide +kernel, by rw [enter_y (by decide +kernel)]; rfl⟩
theorem ak3 : enterE ⟨1, [⟨7, (1, 2), -1⟩], []⟩ 7 (1, 2) 0 = 5 ∧ enter ⟨1, [⟨7, (1, 2), -1⟩], []⟩ 7 (1, 2) 0 = ⟨1, [⟨7, (1, 2), -1⟩], []⟩ := ⟨by decide +kernel, by rw [enter_n (by decide +kernel)]⟩
theorem ak4 : leaveE ⟨1, [⟨7, (1, 2), -1⟩], []⟩ 8 5 0 = 2 ∧ leave ⟨1, [⟨7, (1, 2), -1⟩], []⟩ 8 5 0 = ⟨1, [⟨7, (1, 2), -1⟩], []⟩ := ⟨by decide +kernel, by unfold leave; rw [if_neg (by decide +kernel)]⟩
theorem ak5 : leaveE ⟨1, [⟨7, (1, 2), -1⟩], []⟩ 7 (-1) 0 = 1 ∧ leave ⟨1, [⟨7, (1, 2), -1⟩], []⟩ 7 (-1) 0 = ⟨1, [⟨7, (1, 2), -1⟩], []⟩ := ⟨by decide +kernel, by unfold leave; rw [if_neg (by decide +kernel)]⟩
theorem ak6 : leaveE ⟨1, [⟨7, (1, 2), -1⟩], []⟩ 7 5 0 = 0 ∧ leave ⟨1, [⟨7, (1, 2), -1⟩], []⟩ 7 5 0 = ⟨1, [], [⟨7, (1, 2), 5⟩]⟩ := ⟨by decide +kernel, by unfold leave; rw [if_pos (by decide +kernel)]; rfl⟩
theorem ak7 : askE ⟨1, [], [⟨7, (1, 2), 5⟩]⟩ (1, 2) 4 = 7 := by decide +kernel
theorem ak8 : askE ⟨1, [], [⟨7, (1, 2), 5⟩]⟩ (1, 2) 5 = 0 := by decide +kernel
theorem ak9 : (lingers ⟨1, [], [⟨7, (1, 2), 5⟩]⟩ 4).length = 1 := by decide +kernel
theorem ak10 : (lingers ⟨1, [], [⟨7, (1, 2), 5⟩]⟩ 5).length = 0 := by decide +kernel
theorem ak11 : enterE ⟨1, [], [⟨7, (1, 2), 5⟩]⟩ 9 (1, 2) 5 = 0 ∧ enter ⟨1, [], [⟨7, (1, 2), 5⟩]⟩ 9 (1, 2) 5 = ⟨1, [⟨9, (1, 2), -1⟩], [⟨7, (1, 2), 5⟩]⟩ := ⟨by decide +kernel, by rw [enter_y (by decide +kernel)]; rfl⟩
theorem ak12 : changeE ⟨1, [⟨9, (1, 2), -1⟩], [⟨7, (1, 2), 5⟩]⟩ 9 (3, 4) 5 = 0 ∧ change ⟨1, [⟨9, (1, 2), -1⟩], [⟨7, (1, 2), 5⟩]⟩ 9 (3, 4) 5 = ⟨1, [⟨9, (3, 4), -1⟩], [⟨7, (1, 2), 5⟩]⟩ := ⟨by decide +kernel, by unfold change; rw [if_pos (by decide +kernel)]; rfl⟩
theorem ak13 : changeE ⟨1, [⟨9, (3, 4), -1⟩], [⟨7, (1, 2), 5⟩]⟩ 10 (1, 2) 5 = 2 ∧ change ⟨1, [⟨9, (3, 4), -1⟩], [⟨7, (1, 2), 5⟩]⟩ 10 (1, 2) 5 = ⟨1, [⟨9, (3, 4), -1⟩], [⟨7, (1, 2), 5⟩]⟩ := ⟨by decide +kernel, by unfold change; rw [if_neg (by decide +kernel)]⟩
theorem ak14 : changeE ⟨1, [⟨9, (3, 4), -1⟩], [⟨7, (1, 2), 5⟩]⟩ 9 (3, 4) 2 = 7 ∧ change ⟨1, [⟨9, (3, 4), -1⟩], [⟨7, (1, 2), 5⟩]⟩ 9 (3, 4) 2 = ⟨1, [⟨9, (3, 4), -1⟩], [⟨7, (1, 2), 5⟩]⟩ := ⟨by decide +kernel, by unfold change; rw [if_neg (by decide +kernel)]⟩
theorem ak15 : leaveE ⟨1, [⟨9, (3, 4), -1⟩], [⟨7, (1, 2), 5⟩]⟩ 9 5 5 = 0 ∧ leave ⟨1, [⟨9, (3, 4), -1⟩], [⟨7, (1, 2), 5⟩]⟩ 9 5 5 = ⟨1, [], [⟨7, (1, 2), 5⟩]⟩ := ⟨by decide +kernel, by unfold leave; rw [if_pos (by decide +kernel)]; rfl⟩
set_option maxHeartbeats 16000000 in
set_option maxRecDepth 100000 in
theorem known_walk {I : BkI} (K : Hid (Bk I)) (hA : Hid AwakeC) (W : World) : Calls Try.prog 3 #[] W fun e w' => e = .returned (.bool true) ∧ Nx W w' := by
  have Hk0 := hide ak0
  have Hk1 := hide ak1
  have Hk2 := hide ak2
  have Hk3 := hide ak3
  have Hk4 := hide ak4
  have Hk5 := hide ak5
  have Hk6 := hide ak6
  have Hk7 := hide ak7
  have Hk8 := hide ak8
  have Hk9 := hide ak9
  have Hk10 := hide ak10
  have Hk11 := hide ak11
  have Hk12 := hide ak12
  have Hk13 := hide ak13
  have Hk14 := hide ak14
  have Hk15 := hide ak15
  have HSW := hide (fun (k : Nat) (hk : k < 32) => sw_enter hk)
  have HSF := hide sw_full
  go_enter Try.func3, Try.ntmps3
  go_wp2_with fail
  refine (hA.out _).mono ?_
  rintro e w0 ⟨rfl, hb0⟩
  have B0 := hide hb0
  clear hb0
  go_wp2_with fail
  refine (at_not K.out (Nx.refl w0) (c := 0) (by omega)).mono ?_
  rintro e w1 ⟨rfl, hb⟩
  have B1 := hide (Nx.trans B0.out hb)
  clear hb B0
  go_wp2_with fail
  refine (at_new K.out (Nx.refl w1) (c := 1) (by omega)).mono ?_
  rintro e w2 ⟨b, rfl, hb⟩
  have A := hide (Ax.of K.out hb.out (.cells #[.int .i64 1, .int .i64 2] 28))
  clear hb
  go_upto_region 6 with fail
  generalize w2.alloc (.cells #[.int .i64 1, .int .i64 2] 28) = w3 at *
  generalize w2.heap.size = g at *
  obtain ⟨x0, x1⟩ := Vp.cells (show Vp _ g (1, 2) from A.out.box)
  have H1 := hide (ax_enter K.out (A.out.on K.out (bel_drew (Nx.refl w3))) 1 (2, 1) 0)
  have H2 := hide (fun w (h : Ax I w1 w b ⟨1, [], []⟩ g (.cells #[.int .i64 1, .int .i64 2] 28)) => ax_enter K.out h 1 (1, 2) (-1))
  rw [Hk0.out.1, Hk0.out.2] at H1
  have H2' := H2
  go_wp2
  go_region_held3 (fun w' => w'.cell? ⟨g, 0, none⟩ = some (.int .i64 1) ∧ w'.cell? ⟨g, 1, none⟩ = some (.int .i64 2)) (first | (exact ⟨x0, x1⟩) | go_keep) (first | (with_reducible refine H1.out.mono ?_; rintro e w4 ⟨rfl, hb⟩; obtain ⟨x0, x1⟩ := Ax.xy hb.out) | (with_reducible refine (H2.out _ hb.out).mono ?_; rintro e w5 ⟨rfl, hb2⟩; obtain ⟨x0, x1⟩ := Ax.xy hb2.out))
  (try rw [Hk1.out.1])
  rw [Hk1.out.2] at hb2
  have A := hide hb2.out
  clear hb hb2 H1 H2 H2'
  have H1 := hide (ax_enter K.out (A.out.on K.out (bel_drew (Nx.refl w5))) 7 (1, 2) 0)
  have H2 := hide (fun w (h : Ax I w1 w b ⟨1, [⟨7, (1, 2), -1⟩], []⟩ g (.cells #[.int .i64 1, .int .i64 2] 28)) => ax_enter K.out h 7 (1, 2) 0)
  rw [Hk2.out.1, Hk2.out.2] at H1
  have H2' := H2
  go_wp2
  go_region_held3 (fun w' => w'.cell? ⟨g, 0, none⟩ = some (.int .i64 1) ∧ w'.cell? ⟨g, 1, none⟩ = some (.int .i64 2)) (first | (exact ⟨x0, x1⟩) | go_keep) (first | (with_reducible refine H1.out.mono ?_; rintro e w6 ⟨rfl, hb⟩; obtain ⟨x0, x1⟩ := Ax.xy hb.out) | (with_reducible refine (H2.out _ hb.out).mono ?_; rintro e w7 ⟨rfl, hb2⟩; obtain ⟨x0, x1⟩ := Ax.xy hb2.out))
  (try rw [Hk3.out.1])
  rw [Hk3.out.2] at hb2
  have A := hide hb2.out
  clear hb hb2 H1 H2 H2'
  go_wp2_with fail
  refine (ax_leave K.out A.out 8 5 0 (by decide)).mono ?_
  rintro e w8 ⟨rfl, hb⟩
  rw [Hk4.out.1]
  rw [Hk4.out.2] at hb
  have A := hide hb.out
  clear hb x0 x1
  obtain ⟨x0, x1⟩ := Vp.cells (show Vp _ g (1, 2) from A.out.box)
  go_wp2_with fail
  refine (ax_leave K.out A.out 7 (-1) 0 (by decide)).mono ?_
  rintro e w9 ⟨rfl, hb⟩
  rw [Hk5.out.1]
  rw [Hk5.out.2] at hb
  have A := hide hb.out
  clear hb x0 x1
  obtain ⟨x0, x1⟩ := Vp.cells (show Vp _ g (1, 2) from A.out.box)
  go_wp2_with fail
  refine (ax_leave K.out A.out 7 5 0 (by decide)).mono ?_
  rintro e w10 ⟨rfl, hb⟩
  rw [Hk6.out.1]
  rw [Hk6.out.2] at hb
  have A := hide hb.out
  clear hb x0 x1
  obtain ⟨x0, x1⟩ := Vp.cells (show Vp _ g (1, 2) from A.out.box)
  have H1 := hide (ax_ask K.out (A.out.on K.out (bel_drew (Nx.refl w10))) (1, 2) 4)
  have H2 := hide (fun w (h : Ax I w1 w b ⟨1, [], [⟨7, (1, 2), 5⟩]⟩ g (.cells #[.int .i64 1, .int .i64 2] 28)) => ax_ask K.out h (1, 2) 5)
  rw [Hk7.out] at H1
  go_wp2
  go_region_held3 (fun w' => w'.cell? ⟨g, 0, none⟩ = some (.int .i64 1) ∧ w'.cell? ⟨g, 1, none⟩ = some (.int .i64 2)) (first | (exact ⟨x0, x1⟩) | go_keep) (first | (with_reducible refine H1.out.mono ?_; rintro e w11 ⟨rfl, hb⟩; obtain ⟨x0, x1⟩ := Ax.xy hb.out) | (with_reducible refine (H2.out _ hb.out).mono ?_; rintro e w12 ⟨rfl, hb2⟩; obtain ⟨x0, x1⟩ := Ax.xy hb2.out))
  (try rw [Hk8.out])
  have A := hide hb2.out
  clear hb hb2 H1 H2
  go_wp2_with fail
  refine (ax_lingers K.out A.out 4).mono ?_
  rintro e w13 ⟨v', rfl, hE, hb⟩
  obtain ⟨p', cap', rfl, hn', hm'⟩ := hE.out.form
  rw [Hk9.out]
  have A := hide hb.out
  clear hb hE x0 x1 hn' hm'
  obtain ⟨x0, x1⟩ := Vp.cells (show Vp _ g (1, 2) from A.out.box)
  go_wp2_with fail
  refine (ax_lingers K.out A.out 5).mono ?_
  rintro e w14 ⟨v', rfl, hE, hb⟩
  obtain ⟨p', cap', rfl, hn', hm'⟩ := hE.out.form
  rw [Hk10.out]
  have A := hide hb.out
  clear hb hE x0 x1 hn' hm'
  obtain ⟨x0, x1⟩ := Vp.cells (show Vp _ g (1, 2) from A.out.box)
  go_wp2_with fail
  refine (ax_enter K.out A.out 9 (1, 2) 5).mono ?_
  rintro e w15 ⟨rfl, hb⟩
  rw [Hk11.out.1]
  rw [Hk11.out.2] at hb
  have A := hide hb.out
  clear hb x0 x1
  obtain ⟨x0, x1⟩ := Vp.cells (show Vp _ g (1, 2) from A.out.box)
  have H1 := hide (ax_change K.out (A.out.on K.out (bel_drew (Nx.refl w15))) 9 (3, 4) 5)
  have H2 := hide (fun w (h : Ax I w1 w b ⟨1, [⟨9, (3, 4), -1⟩], [⟨7, (1, 2), 5⟩]⟩ g (.cells #[.int .i64 1, .int .i64 2] 28)) => ax_change K.out h 10 (1, 2) 5)
  rw [Hk12.out.1, Hk12.out.2] at H1
  have H2' := H2
  go_wp2
  go_region_held3 (fun w' => w'.cell? ⟨g, 0, none⟩ = some (.int .i64 1) ∧ w'.cell? ⟨g, 1, none⟩ = some (.int .i64 2)) (first | (exact ⟨x0, x1⟩) | go_keep) (first | (with_reducible refine H1.out.mono ?_; rintro e w16 ⟨rfl, hb⟩; obtain ⟨x0, x1⟩ := Ax.xy hb.out) | (with_reducible refine (H2.out _ hb.out).mono ?_; rintro e w17 ⟨rfl, hb2⟩; obtain ⟨x0, x1⟩ := Ax.xy hb2.out))
  (try rw [Hk13.out.1])
  rw [Hk13.out.2] at hb2
  have A := hide hb2.out
  clear hb hb2 H1 H2 H2'
  go_wp2_with fail
  refine (ax_change K.out A.out 9 (3, 4) 2).mono ?_
  rintro e w18 ⟨rfl, hb⟩
  rw [Hk14.out.1]
  rw [Hk14.out.2] at hb
  have A := hide hb.out
  clear hb x0 x1
  obtain ⟨x0, x1⟩ := Vp.cells (show Vp _ g (1, 2) from A.out.box)
  go_wp2_with fail
  refine (ax_leave K.out A.out 9 5 5 (by decide)).mono ?_
  rintro e w19 ⟨rfl, hb⟩
  rw [Hk15.out.1]
  rw [Hk15.out.2] at hb
  have A := hide hb.out
  clear hb x0 x1
  obtain ⟨x0, x1⟩ := Vp.cells (show Vp _ g (1, 2) from A.out.box)
  go_wp2_with fail
  refine (at_new K.out (Nx.refl w19) (c := 64) (by omega)).mono ?_
  rintro e wz ⟨b2, rfl, hb⟩
  have Z0 := hide (show At I w19 wz b2 (sw 0) from hb.out)
  clear hb x0 x1
  go_wp2
  go_loopw [24] (fun i wr => ∃ k : Nat, k ≤ 32 ∧ i = .int .i64 k ∧ Hid (At I w19 wr b2 (sw k))) (fun i _ => 32 - (intOf i).toNat)
  case atStart => exact ⟨0, by omega, rfl, Z0⟩
  case round =>
    obtain ⟨k, hk, rfl, HZ⟩ := hrel
    have AW := hide (A.out.on K.out HZ.out.nx)
    obtain ⟨x0, x1⟩ := Vp.cells (show Vp _ g (1, 2) from AW.out.box)
    by_cases hkn : k < 32
    · have hk1 : (k : Int) < 32 := by omega
      have HE := hide (at_enter K.out HZ.out (k : Int) (1, 2) 0)
      rw [(HSW.out k hkn).1, (HSW.out k hkn).2] at HE
      go_wp2_with fail
      refine HE.out.mono ?_
      rintro e wy ⟨rfl, hb⟩
      clear HE
      go_wp2
      go_round
      case rel => exact ⟨k + 1, by omega, by go_num, hb⟩
      case measure => simp [intOf]; omega
    · obtain rfl : k = 32 := by omega
      have HE := hide (at_enter K.out HZ.out 32 (1, 2) 0)
      rw [HSF.out] at HE
      go_wp2_with fail
      refine HE.out.mono ?_
      rintro e wy ⟨rfl, hb⟩
      have AY := hide (A.out.on K.out hb.out.nx)
      clear HE hb AW HZ x0 x1
      go_wp2_with fail
      refine (ax_live K.out AY.out).mono ?_
      rintro e wu ⟨v', rfl, hE, hb⟩
      obtain ⟨p', cap', rfl, hn', hm'⟩ := hE.out.form
      have AU := hide hb.out
      clear hE hb AY hn' hm'
      go_wp2_with fail
      refine (ax_lingers K.out AU.out 5).mono ?_
      rintro e wv ⟨v', rfl, hE, hb⟩
      obtain ⟨p', cap', rfl, hn', hm'⟩ := hE.out.form
      rw [Hk10.out]
      have BV := hide (Nx.trans B1.out hb.out.nx)
      clear hE hb hn' hm'
      go_wp2
      go_ret
      exact ⟨rfl, BV.out⟩
end Go.Proofs.Ytldccbinndbcdaa.Am
