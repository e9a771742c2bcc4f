/- CbsWindows: whatever is done. -/
import Derived.Test.YtegfhndcimkjoaaCbCon
import Derived.Test.YtegfhndcimkjoaaJSeg
import Derived.Deep.CutBlock
import Derived.Deep.CutRange
import Derived.Deep.RegionHeld3
namespace Go.Proofs.Ytegfhndcimkjoaa.Cb
open Go.Proofs.Ytegfhndcimkjoaa.Tk Go.RowKit
set_option linter.unusedVariables false
set_option linter.unusedSimpArgs false
/-- So much later, if it is told. -/
def adj (nw y : Int) : Int := if 0 < y ∧ y ≤ 1099511627776 then nw + y else nw
theorem adj_bd {nw y : Int} {k : Nat} (h0 : 0 ≤ nw) (h1 : nw ≤ (k : Int) * 1099511627776) : 0 ≤ adj nw y ∧ adj nw y ≤ ((k + 1 : Nat) : Int) * 1099511627776 := by
  unfold adj
  split <;> omega
theorem Keeps.form {q p b d m : Int} {t : Sv} (h : Keeps ⟨q, p, b, d, m⟩ t) : t = ⟨q, p, t.b, t.d, t.m⟩ := by
  obtain ⟨tq, tp, tb, td, tm⟩ := t
  obtain ⟨_, h2, h3, _⟩ := h
  simp only at h2 h3
  subst h2 h3
  rfl
set_option maxHeartbeats 16000000 in
set_option maxRecDepth 100000 in
theorem windows_walk (hA : Hid AwakeC) (hG : Hid GoodC) (hN : Hid NewC) (hW : Hid WakeC) (hU : Hid UseC) (hI : Hid IdleC) (hWt : Hid WaitC) (hT : Hid TurnC) (q p : Int) (lp : Option Addr) (N C : Nat) (Z : Nat → Nat → Int) (w : World)
    (hcl : 0 < N → ∃ b o, lp = some ⟨b, o, none⟩ ∧ b < w.heap.size ∧ ∀ j i, j < N → i < 3 → w.cell? ⟨b, o + (j * 3 + i), none⟩ = some (.int .i64 (Z j i))) :
    Calls Try.prog 5 #[.int .i64 q, .int .i64 p, .slice lp N C] w fun e w' => e = .returned (.bool true) ∧ Nx w w' := by
  have HCL := hide hcl
  clear hcl
  go_enter Try.func5, Try.ntmps5
  go_wp2_with fail
  refine (hA.out _).mono ?_
  rintro e w0 ⟨rfl, hb⟩
  have B_0 := hide hb
  clear hb
  by_cases hN100 : 100 < N
  · have hN101 : 100 < (N : Int) := by omega
    go_wp2
    go_ret
    exact ⟨rfl, B_0.out⟩
  have hN101 : ¬ 100 < (N : Int) := by omega
  go_wp2_with fail
  cases hp : pairB q p with
  | false =>
    have E := hide (new_1 hp)
    have hp' := of_decide_eq_false hp
    clear hp
    refine (hN.out q p _).mono ?_
    rintro e w1 ⟨rfl, hs2⟩
    rw [E.out.2]
    rw [E.out.1]
    have B_1 := hide (Nx.trans B_0.out (hs2))
    clear B_0
    clear hs2
    have bK0 := hide B_1.out.size
    have KN := hide (Vb.new w1 ⟨0, 0, 0, 0, 0⟩)
    have NN := hide (Nx.alloc w1 (.cells #[.int .i64 0, .int .i64 0, .int .i64 0, .int .i64 0, .int .i64 0] 24))
    go_upto_region 7 with fail
    have B_2 := hide (Nx.trans B_1.out (NN.out))
    clear B_1
    generalize hw : w1.alloc (.cells #[.int .i64 0, .int .i64 0, .int .i64 0, .int .i64 0, .int .i64 0] 24) = w2 at *
    have K0_2 := KN
    clear KN NN hw
    generalize w1.heap.size = gK0 at *
    have K0_2 : Hid (Vb w2 gK0 ⟨0, 0, 0, 0, 0⟩) := K0_2
    by_cases h1 : q < 1
    · skip
      go_wp2
      go_ret
      exact ⟨rfl, B_2.out⟩
    by_cases h2 : p < 1
    · skip
      go_wp2
      go_ret
      exact ⟨rfl, B_2.out⟩
    by_cases h3 : 2147483648 < p
    · skip
      go_wp2
      go_ret
      exact ⟨rfl, B_2.out⟩
    have h4 : p < q := by omega
    go_wp2
    go_ret
    exact ⟨rfl, B_2.out⟩
  | true =>
    obtain ⟨g1, g2, g3⟩ : 1 ≤ q ∧ q ≤ p ∧ p ≤ 2147483648 := of_decide_eq_true hp
    have E := hide (new_0 hp)
    have SG0 := hide (new_facts (new_0 hp).1).2.2
    clear hp
    refine (hN.out q p _).mono ?_
    rintro e w1 ⟨rfl, hs2⟩
    rw [E.out.2]
    rw [E.out.1]
    have B_1 := hide (Nx.trans B_0.out (hs2))
    clear B_0
    clear hs2
    have bKs := hide B_1.out.size
    have KN := hide (Vb.new w1 ⟨q, p, 0, 0, 0⟩)
    have NN := hide (Nx.alloc w1 (.cells #[.int .i64 q, .int .i64 p, .int .i64 0, .int .i64 0, .int .i64 0] 24))
    go_upto_region 8 with fail
    have B_2 := hide (Nx.trans B_1.out (NN.out))
    clear B_1
    generalize hw : w1.alloc (.cells #[.int .i64 q, .int .i64 p, .int .i64 0, .int .i64 0, .int .i64 0] 24) = w2 at *
    have Ks_2 := KN
    clear KN NN hw
    generalize w1.heap.size = gKs at *
    have Ks_2 : Hid (Vb w2 gKs ⟨q, p, 0, 0, 0⟩) := Ks_2
    go_wp2
    go_loopw [9, 10, 11] (fun nv uv i wr => ∃ (k : Nat) (nw us b d m : Int), nv = .int .i64 nw ∧ uv = .int .i64 us ∧ i = .int .i64 k ∧ k ≤ N ∧ Hid (0 ≤ nw ∧ nw ≤ (k : Int) * 1099511627776) ∧ Hid (0 ≤ us ∧ us + b ≤ q) ∧ Hid (sgood ⟨q, p, b, d, m⟩ = true) ∧ Hid (Vb wr gKs ⟨q, p, b, d, m⟩) ∧ Hid (Nx w wr)) (fun _ _ i _ => N - (intOf i).toNat)
    case atStart => exact ⟨0, 0, 0, 0, 0, 0, rfl, rfl, rfl, by omega, hide (by omega), hide (by omega), SG0, Ks_2, B_2⟩
    case round =>
      clear Ks_2 B_2
      obtain ⟨k, nw, us, b, d, m, rfl, rfl, rfl, hk, HNW, HUS, HSG, Ks_0, B_0⟩ := hrel
      obtain ⟨w0, hw0⟩ : ∃ x, x = wr := ⟨_, rfl⟩
      subst hw0
      by_cases hkn : k < N
      rotate_left
      · obtain rfl : k = N := by omega
        go_wp2
        go_ret
        exact ⟨rfl, B_0.out⟩
      have hk1 : (k : Int) < (N : Int) := by omega
      obtain ⟨lb, lo, rfl, hlb, hlc⟩ := HCL.out (by omega)
      have CE : Hid (∀ x, Nx w x → x.cell? ⟨lb, lo + k * 3, none⟩ = some (.int .i64 (Z k 0)) ∧ x.cell? ⟨lb, lo + k * 3 + 1, none⟩ = some (.int .i64 (Z k 1)) ∧ x.cell? ⟨lb, lo + k * 3 + 2, none⟩ = some (.int .i64 (Z k 2))) := hide (fun x hx => by
        have h0 := (hx.cell (p := ⟨lb, lo + (k * 3 + 0), none⟩) hlb).trans (hlc k 0 hkn (by omega))
        have h1 := (hx.cell (p := ⟨lb, lo + (k * 3 + 1), none⟩) hlb).trans (hlc k 1 hkn (by omega))
        have h2 := (hx.cell (p := ⟨lb, lo + (k * 3 + 2), none⟩) hlb).trans (hlc k 2 hkn (by omega))
        exact ⟨by simpa using h0, by simpa [Nat.add_assoc] using h1, by simpa [Nat.add_assoc] using h2⟩)
      clear hlc
      generalize Z k 0 = op at *
      generalize Z k 1 = n at *
      generalize Z k 2 = y at *
      obtain ⟨nw0, nw1⟩ := HNW.out
      obtain ⟨us0, us1⟩ := HUS.out
      have hk99 : (k : Int) ≤ 99 := by omega
      have AJ := hide (adj_bd (y := y) nw0 nw1)
      have aj1 : adj nw y ≤ 109951162777600 := by have := AJ.out.2; omega
      have aj0 : 0 ≤ adj nw y := AJ.out.1
      go_upto_region 12 with fail
      obtain ⟨e0, e1, e2⟩ := CE.out w0 B_0.out
      go_cut [60] from 41 to 192 (fun s wx => s = .bool (decide (0 < y ∧ y ≤ 1099511627776)) ∧ wx = w0)
      case first => as_aux_lemma =>
        by_cases t0 : 0 < y
        · by_cases t1 : y ≤ 1099511627776
          · have D : Hid (decide (0 < y ∧ y ≤ 1099511627776) = true) := hide (decide_eq_true ⟨t0, t1⟩)
            go_wp2
            go_meet
            case rel => exact ⟨by rw [D.out], rfl⟩
          · have D : Hid (decide (0 < y ∧ y ≤ 1099511627776) = false) := hide (decide_eq_false fun h => t1 h.2)
            go_wp2
            go_meet
            case rel => exact ⟨by rw [D.out], rfl⟩
        · have D : Hid (decide (0 < y ∧ y ≤ 1099511627776) = false) := hide (decide_eq_false fun h => t0 h.1)
          go_wp2
          go_meet
          case rel => exact ⟨by rw [D.out], rfl⟩
      case rest => as_aux_lemma =>
       obtain ⟨rfl, hw⟩ := hcut
       have hw2 := hw.symm; clear hw; subst hw2
       have AD : Hid (adj nw y = if decide (0 < y ∧ y ≤ 1099511627776) = true then nw + y else nw) := hide (by unfold adj; by_cases h : 0 < y ∧ y ≤ 1099511627776 <;> simp [h])
       generalize decide (0 < y ∧ y ≤ 1099511627776) = BB at *
       go_upto_if 60 with fail
       go_cut [9] from 41 to 192 (fun s wx => s = .int .i64 (adj nw y) ∧ wx = w0)
       case first => as_aux_lemma =>
        cases BB with
        | true =>
          have e := AD.out
          rw [if_pos rfl] at e
          generalize adj nw y = T at *
          subst e
          clear AD
          go_wp2
          go_meet
          case rel => exact ⟨rfl, rfl⟩
        | false =>
          have e := AD.out
          rw [if_neg (by simp)] at e
          generalize adj nw y = T at *
          subst e
          clear AD
          go_wp2
          go_meet
          case rel => exact ⟨rfl, rfl⟩
       case rest => as_aux_lemma =>
        obtain ⟨rfl, hw⟩ := hcut
        have hw2 := hw.symm; clear hw; subst hw2
        clear AD e0 e1 e2
        generalize adj nw y = nx at *
        go_upto_region 14 with fail
        obtain ⟨x0, x1, x2, x3, x4⟩ := row5 Ks_0.out.row
        have bKw := hide B_0.out.size
        have neKsKw : Hid (gKs ≠ w0.heap.size) := hide (Nat.ne_of_lt Ks_0.out.lt)
        have KN := hide (Vb.new w0 ⟨q, p, b, d, m⟩)
        have NN := hide (Nx.alloc w0 (.cells #[.int .i64 q, .int .i64 p, .int .i64 b, .int .i64 d, .int .i64 m] 24))
        go_upto_region 15 with fail
        have Ks_1 := hide (Ks_0.out.below (NN.out))
        have B_1 := hide (Nx.trans B_0.out (NN.out))
        clear B_0 Ks_0
        generalize hw : w0.alloc (.cells #[.int .i64 q, .int .i64 p, .int .i64 b, .int .i64 d, .int .i64 m] 24) = w1 at *
        have Kw_1 := KN
        clear KN NN hw
        generalize w0.heap.size = gKw at *
        have Kw_1 : Hid (Vb w1 gKw ⟨q, p, b, d, m⟩) := Kw_1
        clear x0 x1 x2 x3 x4
        obtain ⟨e0, e1, e2⟩ := CE.out w1 B_1.out
        go_upto_block 2 with fail
        clear e0 e1 e2
        go_cut [10] from 41 to 192 (fun u wx => u = .int .i64 us ∧ ∃ b' d' m', Hid (Keeps ⟨q, p, b, d, m⟩ ⟨q, p, b', d', m'⟩) ∧ Hid (Vb wx gKs ⟨q, p, b', d', m'⟩) ∧ Hid (Vb wx gKw ⟨q, p, b, d, m⟩) ∧ Hid (Nx w wx))
        case first => as_aux_lemma =>
          by_cases o0 : op = 0
          · subst o0
            have KP := wake_keeps (now := nx) HSG.out
            obtain ⟨b', d', m', FM⟩ : ∃ b' d' m', wake ⟨q, p, b, d, m⟩ nx = ⟨q, p, b', d', m'⟩ := ⟨_, _, _, KP.form⟩
            rw [FM] at KP
            obtain ⟨ee, EE⟩ : ∃ e, wakeE ⟨q, p, b, d, m⟩ nx = e := ⟨_, rfl⟩
            have FM := hide FM
            have EE := hide EE
            have KP := hide KP
            obtain ⟨x0, x1, x2, x3, x4⟩ := row5 Ks_1.out.row
            go_wp2_with fail
            refine (hW.out ⟨q, p, b, d, m⟩ nx _).mono ?_
            rintro e w2 ⟨rfl, hs2⟩
            rw [FM.out]
            rw [EE.out]
            clear x0 x1 x2 x3 x4
            have Ks_2 := hide (Ks_1.out.below (hs2))
            have Kw_2 := hide (Kw_1.out.below (hs2))
            have B_2 := hide (Nx.trans B_1.out (hs2))
            clear B_1 Ks_1 Kw_1
            clear hs2
            obtain ⟨c0, c1, c2, c3, c4⟩ := row5 Ks_2.out.row
            have zc0 := row_free Ks_2.out.row 0
            have zc1 := row_free Ks_2.out.row 1
            have zc2 := row_free Ks_2.out.row 2
            have zc3 := row_free Ks_2.out.row 3
            have zc4 := row_free Ks_2.out.row 4
            have PU := hide (put5 Ks_2.out.row (.int .i64 q) (.int .i64 p) (.int .i64 b') (.int .i64 d') (.int .i64 m'))
            go_wp2
            go_meet
            case rel => exact ⟨rfl, b', d', m', KP, hide PU.out.row, hide (Vb.other Kw_2.out (Ne.symm neKsKw.out) PU.out), hide (PU.out.below B_2.out bKs.out)⟩
          by_cases o1 : op = 1
          · subst o1
            have KP := use_keeps (n := n) HSG.out
            obtain ⟨b', d', m', FM⟩ : ∃ b' d' m', use ⟨q, p, b, d, m⟩ n = ⟨q, p, b', d', m'⟩ := ⟨_, _, _, KP.form⟩
            rw [FM] at KP
            obtain ⟨ee, EE⟩ : ∃ e, useE ⟨q, p, b, d, m⟩ n = e := ⟨_, rfl⟩
            have KP := hide KP
            have ND : Nx w1 w1.drew := ⟨rfl, rfl, rfl, Nat.le_refl _, fun _ _ => rfl⟩
            have CU : Hid (Calls Try.prog 12 #[svv ⟨q, p, b, d, m⟩, .int .i64 n] w1.drew fun e w' => e = .returned (.tuple #[svv ⟨q, p, b', d', m'⟩, .int .i64 ee]) ∧ Nx w1.drew w') := hide (by have := hU.out ⟨q, p, b, d, m⟩ n w1.drew; rw [FM, EE] at this; exact this)
            have HX : Hid (∀ x, Nx w1.drew x → (Vb x gKs ⟨q, p, b, d, m⟩ ∧ Vb x gKw ⟨q, p, b, d, m⟩) ∧ Nx w x) := hide (fun x hx => ⟨⟨(Ks_1.out.below ND).below hx, (Kw_1.out.below ND).below hx⟩, Nx.trans B_1.out (Nx.trans ND hx)⟩)
            obtain ⟨x0, x1, x2, x3, x4⟩ := row5 Ks_1.out.row
            have SS : Hid (∀ x, Nx w x → ∃ p : Regrown, x = Sort.grow (redrawn w p.d) p.os) := hide (fun x hx => regrown_of_below hx)
            have n0 : Hid (Nx w w1.drew) := hide (Nx.trans B_1.out ND)
            have f1 := fun d os => (CE.out _ (below_regrown w d os)).2.1
            clear Ks_1 Kw_1 B_1 FM EE ND
            go_upto_region 20 with fail
            refine wp_region_noPanic ?_
            refine wp_region_held_drew (S := fun x => ∃ p : Regrown, x = Sort.grow (redrawn w p.d) p.os) (by as_aux_lemma => kernel_rfl) (SS.out _ n0.out) (fun hHeld => ?_)
            clear hHeld
            refine Seg.seg 1 5 6 #[false, true, true, true, true, true, false, false, false, false, false] (by as_aux_lemma => kernel_rfl) (fun _ _ _ _ _ h => h) (SS.out _ n0.out) (by as_aux_lemma => kernel_rfl) (by kernel_rfl) (by kernel_rfl) ?_
            simp only [List.drop_succ_cons, List.drop_zero, List.take_succ_cons, List.take_zero]
            iterate 5 (go_big_quiet_step (fail))
            refine wpQuiet_nil ?_
            refine wpAnyH_ready (rs := [0]) (by as_aux_lemma => kernel_rfl) (by simp) ?_
            refine AllReadyH.cons rfl (fun K hK => ?_) AllReadyH.nil
            go_simp
            skip
            refine hK.out _ _ (SS.out _ n0.out) (fun hHeld => ?_)
            clear hK K hHeld
            (try simp only [Act.put, List.setIfInBounds_toArray, List.set_cons_zero, List.set_cons_succ])
            refine wpAnyH_ready (rs := [6]) (by as_aux_lemma => kernel_rfl) (by simp) ?_
            refine AllReadyH.cons rfl (fun K hK => ?_) AllReadyH.nil
            go_simp
            refine CU.out.mono ?_
            rintro e w9 ⟨rfl, hb⟩
            obtain ⟨⟨r0, r1⟩, r2⟩ := HX.out w9 hb
            obtain ⟨c0, c1, c2, c3, c4⟩ := row5 r0.row
            have zc0 := row_free r0.row 0
            have zc1 := row_free r0.row 1
            have zc2 := row_free r0.row 2
            have zc3 := row_free r0.row 3
            have zc4 := row_free r0.row 4
            have PU := hide (put5 r0.row (.int .i64 q) (.int .i64 p) (.int .i64 b') (.int .i64 d') (.int .i64 m'))
            have R1 := hide r1
            have n2 := hide r2
            clear r0 r1 r2 hb
            refine hK.out _ _ (SS.out _ n2.out) (fun hHeld => ?_)
            clear hK K hHeld
            (try simp only [Act.put, List.setIfInBounds_toArray, List.set_cons_zero, List.set_cons_succ])
            refine Seg.seg 7 3 1 #[true, true, true, true, true, true, true, true, true, true, false] (by as_aux_lemma => kernel_rfl) (fun _ _ _ _ _ h => h) (SS.out _ n2.out) (by as_aux_lemma => kernel_rfl) (by kernel_rfl) (by kernel_rfl) ?_
            simp only [List.drop_succ_cons, List.drop_zero, List.take_succ_cons, List.take_zero]
            iterate 3 (go_big_quiet_step (fail))
            refine wpQuiet_nil ?_
            refine wpAnyH_ready (rs := [10]) (by as_aux_lemma => kernel_rfl) (by simp) ?_
            refine AllReadyH.cons rfl (fun K hK => ?_) AllReadyH.nil
            go_simp
            have n3 := hide (PU.out.below n2.out bKs.out)
            refine hK.out _ _ (SS.out _ n3.out) (fun hHeld => ?_)
            clear hK K hHeld
            (try simp only [Act.put, List.setIfInBounds_toArray, List.set_cons_zero, List.set_cons_succ])
            refine wpAnyH_done (by as_aux_lemma => kernel_rfl) ?_ _
            refine NoPanic.normal ?_
            go_wp2
            go_meet
            case rel => exact ⟨rfl, b', d', m', KP, hide PU.out.row, hide (Vb.other R1.out (Ne.symm neKsKw.out) PU.out), n3⟩
          have q0 : (op == 0) = false := by simp [o0]
          have q1 : (op == 1) = false := by simp [o1]
          by_cases o2 : op = 2
          · subst o2
            have KP := idle_keeps HSG.out
            obtain ⟨b', d', m', FM⟩ : ∃ b' d' m', idle ⟨q, p, b, d, m⟩ = ⟨q, p, b', d', m'⟩ := ⟨_, _, _, KP.form⟩
            rw [FM] at KP
            obtain ⟨ee, EE⟩ : ∃ e, idleE ⟨q, p, b, d, m⟩ = e := ⟨_, rfl⟩
            have FM := hide FM
            have EE := hide EE
            have KP := hide KP
            obtain ⟨x0, x1, x2, x3, x4⟩ := row5 Ks_1.out.row
            go_wp2_with fail
            refine (hI.out ⟨q, p, b, d, m⟩ _).mono ?_
            rintro e w2 ⟨rfl, hs2⟩
            rw [FM.out]
            rw [EE.out]
            clear x0 x1 x2 x3 x4
            have Ks_2 := hide (Ks_1.out.below (hs2))
            have Kw_2 := hide (Kw_1.out.below (hs2))
            have B_2 := hide (Nx.trans B_1.out (hs2))
            clear B_1 Ks_1 Kw_1
            clear hs2
            obtain ⟨c0, c1, c2, c3, c4⟩ := row5 Ks_2.out.row
            have zc0 := row_free Ks_2.out.row 0
            have zc1 := row_free Ks_2.out.row 1
            have zc2 := row_free Ks_2.out.row 2
            have zc3 := row_free Ks_2.out.row 3
            have zc4 := row_free Ks_2.out.row 4
            have PU := hide (put5 Ks_2.out.row (.int .i64 q) (.int .i64 p) (.int .i64 b') (.int .i64 d') (.int .i64 m'))
            go_wp2
            go_meet
            case rel => exact ⟨rfl, b', d', m', KP, hide PU.out.row, hide (Vb.other Kw_2.out (Ne.symm neKsKw.out) PU.out), hide (PU.out.below B_2.out bKs.out)⟩
          have q2 : (op == 2) = false := by simp [o2]
          by_cases o3 : op = 3
          · subst o3
            have KP := wait_keeps HSG.out
            obtain ⟨b', d', m', FM⟩ : ∃ b' d' m', wait ⟨q, p, b, d, m⟩ = ⟨q, p, b', d', m'⟩ := ⟨_, _, _, KP.form⟩
            rw [FM] at KP
            obtain ⟨ee, EE⟩ : ∃ e, waitE ⟨q, p, b, d, m⟩ = e := ⟨_, rfl⟩
            have FM := hide FM
            have EE := hide EE
            have KP := hide KP
            obtain ⟨x0, x1, x2, x3, x4⟩ := row5 Ks_1.out.row
            go_wp2_with fail
            refine (hWt.out ⟨q, p, b, d, m⟩ _).mono ?_
            rintro e w2 ⟨rfl, hs2⟩
            rw [FM.out]
            rw [EE.out]
            clear x0 x1 x2 x3 x4
            have Ks_2 := hide (Ks_1.out.below (hs2))
            have Kw_2 := hide (Kw_1.out.below (hs2))
            have B_2 := hide (Nx.trans B_1.out (hs2))
            clear B_1 Ks_1 Kw_1
            clear hs2
            obtain ⟨c0, c1, c2, c3, c4⟩ := row5 Ks_2.out.row
            have zc0 := row_free Ks_2.out.row 0
            have zc1 := row_free Ks_2.out.row 1
            have zc2 := row_free Ks_2.out.row 2
            have zc3 := row_free Ks_2.out.row 3
            have zc4 := row_free Ks_2.out.row 4
            have PU := hide (put5 Ks_2.out.row (.int .i64 q) (.int .i64 p) (.int .i64 b') (.int .i64 d') (.int .i64 m'))
            go_wp2
            go_meet
            case rel => exact ⟨rfl, b', d', m', KP, hide PU.out.row, hide (Vb.other Kw_2.out (Ne.symm neKsKw.out) PU.out), hide (PU.out.below B_2.out bKs.out)⟩
          have q3 : (op == 3) = false := by simp [o3]
          have KP := turn_keeps (now := nx) HSG.out
          obtain ⟨b', d', m', FM⟩ : ∃ b' d' m', turn ⟨q, p, b, d, m⟩ nx = ⟨q, p, b', d', m'⟩ := ⟨_, _, _, KP.form⟩
          rw [FM] at KP
          obtain ⟨ee, EE⟩ : ∃ e, turnB ⟨q, p, b, d, m⟩ nx = e := ⟨_, rfl⟩
          have FM := hide FM
          have EE := hide EE
          have KP := hide KP
          obtain ⟨x0, x1, x2, x3, x4⟩ := row5 Ks_1.out.row
          go_wp2_with fail
          refine (hT.out ⟨q, p, b, d, m⟩ nx _).mono ?_
          rintro e w2 ⟨rfl, hs2⟩
          rw [FM.out]
          rw [EE.out]
          clear x0 x1 x2 x3 x4
          have Ks_2 := hide (Ks_1.out.below (hs2))
          have Kw_2 := hide (Kw_1.out.below (hs2))
          have B_2 := hide (Nx.trans B_1.out (hs2))
          clear B_1 Ks_1 Kw_1
          clear hs2
          obtain ⟨c0, c1, c2, c3, c4⟩ := row5 Ks_2.out.row
          have zc0 := row_free Ks_2.out.row 0
          have zc1 := row_free Ks_2.out.row 1
          have zc2 := row_free Ks_2.out.row 2
          have zc3 := row_free Ks_2.out.row 3
          have zc4 := row_free Ks_2.out.row 4
          have PU := hide (put5 Ks_2.out.row (.int .i64 q) (.int .i64 p) (.int .i64 b') (.int .i64 d') (.int .i64 m'))
          go_wp2
          go_meet
          case rel => exact ⟨rfl, b', d', m', KP, hide PU.out.row, hide (Vb.other Kw_2.out (Ne.symm neKsKw.out) PU.out), hide (PU.out.below B_2.out bKs.out)⟩
        case rest => as_aux_lemma =>
          obtain ⟨rfl, b', d', m', KP, Ks_R, Kw_R, B_R⟩ := hcut
          clear Ks_1 Kw_1 B_1
          obtain ⟨w0, hw0⟩ : ∃ x, x = wc := ⟨_, rfl⟩
          subst hw0
          have Ks_0 := Ks_R
          have Kw_0 := Kw_R
          have B_0 := B_R
          clear Ks_R Kw_R B_R
          obtain ⟨k1, _, _, k4, k5, k6⟩ := KP.out
          obtain ⟨_, ⟨b1, b2⟩, ⟨d0, d1⟩, _, _⟩ := (sgood_iff _).1 k1
          obtain ⟨_, ⟨b3, b4⟩, ⟨d2, d3⟩, _, _⟩ := (sgood_iff _).1 HSG.out
          simp only at k4 k5 k6 b1 b2 b3 b4 d0 d1 d2 d3
          have HG1 := hide k1
          have wsub : IntKind.i64.wrap (d' - d) = d' - d := by rw [IntKind.wrap_i64]; omega
          clear k1
          obtain ⟨x0, x1, x2, x3, x4⟩ := row5 Ks_0.out.row
          go_wp2_with fail
          refine (hG.out ⟨q, p, b', d', m'⟩ _).mono ?_
          rintro e w1 ⟨rfl, hs2⟩
          rw [HG1.out]
          clear x0 x1 x2 x3 x4
          have Ks_1 := hide (Ks_0.out.below (hs2))
          have Kw_1 := hide (Kw_0.out.below (hs2))
          have B_1 := hide (Nx.trans B_0.out (hs2))
          clear B_0 Ks_0 Kw_0
          clear hs2
          obtain ⟨x0, x1, x2, x3, x4⟩ := row5 Ks_1.out.row
          obtain ⟨y0, y1, y2, y3, y4⟩ := row5 Kw_1.out.row
          obtain ⟨e0, e1, e2⟩ := CE.out w1 B_1.out
          have qq : (q != q) = false := by simp
          have pq : (p != p) = false := by simp
          by_cases hd : d' = d
          rotate_left
          · skip
            have h1 : d < d' := by omega
            have h2 : (d' == d) = false := by simp [hd]
            have h3 : (d' != d) = true := by simp [hd]
            have h4 : p ≤ d' - d := k5 h1
            have h5 : ¬ d' < d := by omega
            have h6 : ¬ q < 0 := by omega
            have h7 : ¬ q < b' := by omega
            go_wp2
            go_roundw
            case rel => exact ⟨k + 1, nx, 0, b', d', m', rfl, rfl, by go_num, by omega, AJ, hide (by omega), HG1, Ks_1, B_1⟩
            case measure => simp [intOf]; omega
          subst hd
          have hbb : b' ≤ b := k6 rfl
          have h5 : ¬ d' < d' := by omega
          have h8 : (d' != d') = false := by simp
          by_cases hb : b' < b
          · by_cases ho : op = 1
            · subst ho
              have s1 : IntKind.i64.wrap (us + b) = us + b := by rw [IntKind.wrap_i64]; omega
              have s2 : IntKind.i64.wrap (us + b - b') = us + b - b' := by rw [IntKind.wrap_i64]; omega
              have s3 : IntKind.i64.wrap (us + b - b' + b') = us + b := by rw [IntKind.wrap_i64]; omega
              have s4 : ¬ q < us + b - b' := by omega
              have s5 : ¬ q < us + b := by omega
              go_wp2
              go_roundw
              case rel => exact ⟨k + 1, nx, us + b - b', b', d', m', rfl, rfl, by go_num, by omega, AJ, hide (by omega), HG1, Ks_1, B_1⟩
              case measure => simp [intOf]; omega
            · have ho1 : (op == 1) = false := by simp [ho]
              have s3 : IntKind.i64.wrap (us + b') = us + b' := by rw [IntKind.wrap_i64]; omega
              have s4 : ¬ q < us := by omega
              have s5 : ¬ q < us + b' := by omega
              have s6 : ¬ b < b' := by omega
              go_wp2
              go_roundw
              case rel => exact ⟨k + 1, nx, us, b', d', m', rfl, rfl, by go_num, by omega, AJ, hide (by omega), HG1, Ks_1, B_1⟩
              case measure => simp [intOf]; omega
          · obtain rfl : b' = b := by omega
            have s3 : IntKind.i64.wrap (us + b') = us + b' := by rw [IntKind.wrap_i64]; omega
            have s4 : ¬ q < us := by omega
            have s5 : ¬ q < us + b' := by omega
            have s6 : ¬ b' < b' := by omega
            go_wp2
            go_roundw
            case rel => exact ⟨k + 1, nx, us, b', d', m', rfl, rfl, by go_num, by omega, AJ, hide (by omega), HG1, Ks_1, B_1⟩
            case measure => simp [intOf]; omega
end Go.Proofs.Ytegfhndcimkjoaa.Cb
