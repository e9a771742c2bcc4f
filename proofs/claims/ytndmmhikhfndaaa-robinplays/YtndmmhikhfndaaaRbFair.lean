/- RobinFair: nobody is taken more than once more often than another one. -/
import Derived.Test.YtndmmhikhfndaaaRbAw
namespace Go.Proofs.Ytndmmhikhfndaaa.Rb
open Go.RowKit Go.Proofs.Ytndmmhikhfndaaa.Con Go.Proofs.Ytndmmhikhfndaaa.Fp
set_option linter.unusedVariables false
set_option linter.unusedSimpArgs false
attribute [local go_sem ↓] Go.wp_at_zero Go.wp_at_succ
/-- 0, 1, .. -/
def upto (k : Nat) : List Int := (List.range k).map (fun i : Nat => (i : Int))
theorem upto_len (k : Nat) : (upto k).length = k := by simp [upto]
theorem upto_succ (k : Nat) : upto (k + 1) = upto k ++ [(k : Int)] := by simp [upto, List.range_succ]
theorem upto_get {k i : Nat} (h : i < k) : (upto k)[i]? = some (i : Int) := by simp [upto, h]
theorem upto_mem {k : Nat} {x : Int} (h : x ∈ upto k) : x < k := by
  obtain ⟨i, hi, rfl⟩ := List.mem_map.1 h
  have := List.mem_range.1 hi
  omega
theorem upto_e {r k : Nat} (h : k < r) : addE ⟨r, upto k⟩ k = 0 := by
  unfold addE
  rw [if_neg (by omega), if_neg (fun hm => by have := upto_mem (k := k) hm; omega), if_neg (by show ¬ r ≤ (upto k).length; rw [upto_len]; omega)]
theorem upto_s {r k : Nat} (h : k < r) : addS ⟨r, upto k⟩ k = ⟨r, upto (k + 1)⟩ := by
  rw [add_y (upto_e h), upto_succ]
theorem see_all {s : Rs} {m : Nat} (h : s.l.length = m) : seeL s (m : Int) = s.l := by
  unfold seeL
  rw [show clN s (m : Int) = s.l.length by unfold clN; omega, List.take_length]
theorem many_ord_len (s : Rs) (n t : Int) : (manyS s n t).l.length = s.l.length := rot_len _ _
theorem take_len {s : Rs} {n : Int} : (seeL s n).length = clN s n := by
  unfold seeL
  rw [List.length_take]; have := clN_le s n; omega
/-- What comes out of many turns of those: counts, and an order. -/
def Ct (m Q : Nat) (C : List Int) : Prop := C.length = m ∧ ∀ i, i < m → C.getD i 0 = (cnt m Q i : Int)
theorem ct_many {s : Rs} {m : Nat} (h : s.l.length = m) (n t : Int) : Ct m (clN s n * clT t) (manyC s n t) := by
  subst h
  exact ⟨many_len s n t, fun i hi => many_get s n t hi⟩
theorem Is.ct {w : World} {v : Value} {C : List Int} {m Q : Nat} (h : Is w v C) (hC : Ct m Q C) (h0 : 0 < m) : ∃ b o c, v = .slice (some ⟨b, o, none⟩) m c ∧ ∀ w', Nx w w' → ∀ k, k < m → w'.cell? ⟨b, o + k, none⟩ = some (.int .i64 (cnt m Q k : Int)) := by
  obtain ⟨hl, hg⟩ := hC
  subst hl
  obtain ⟨b, o, c, rfl, hc⟩ := h.put h0
  exact ⟨b, o, c, rfl, fun w' hB k hk => (hc w' hB k hk).trans (by rw [hg k hk])⟩
set_option maxHeartbeats 16000000 in
set_option maxRecDepth 100000 in
theorem fair_walk {I : RbI} (hA : Hid AwakeC) (K : Rk I) (many n times : Int) (W : World) :
    Calls Try.prog 5 #[.int .i64 many, .int .i64 n, .int .i64 times] W fun e w' => e = .returned (.bool true) ∧ Nx W w' := by
  go_enter Try.func5, Try.ntmps5
  go_wp2_with fail
  refine (hA.out _).mono ?_
  rintro ee w0 ⟨rfl, hb⟩
  have N := hide hb
  clear hb hA
  by_cases c1 : many < 1
  · have d1 : decide (many < 1) = true := decide_eq_true c1
    go_wp2
    go_ret
    exact ⟨rfl, N.out⟩
  have d1 : decide (many < 1) = false := decide_eq_false c1
  by_cases c2 : 100 < many
  · have d2 : decide (100 < many) = true := decide_eq_true c2
    go_wp2
    go_ret
    exact ⟨rfl, N.out⟩
  have d2 : decide (100 < many) = false := decide_eq_false c2
  by_cases c3 : n < 0
  · have d3 : decide (n < 0) = true := decide_eq_true c3
    go_wp2
    go_ret
    exact ⟨rfl, N.out⟩
  have d3 : decide (n < 0) = false := decide_eq_false c3
  by_cases c4 : times < 0
  · have d4 : decide (times < 0) = true := decide_eq_true c4
    go_wp2
    go_ret
    exact ⟨rfl, N.out⟩
  have d4 : decide (times < 0) = false := decide_eq_false c4
  by_cases c5 : 1099511627776 < times
  · have d5 : decide (1099511627776 < times) = true := decide_eq_true c5
    go_wp2
    go_ret
    exact ⟨rfl, N.out⟩
  have d5 : decide (1099511627776 < times) = false := decide_eq_false c5
  obtain ⟨m, rfl⟩ : ∃ m : Nat, many = m := ⟨many.toNat, by omega⟩
  have hm1 : 1 ≤ m := by omega
  have hm2 : m ≤ 100 := by omega
  go_wp2_with fail
  refine (at_new' K N.out 200 (s' := ⟨200, upto 0⟩) (Rs.ext' (by decide +kernel) (by decide +kernel))).mono ?_
  rintro ee w1 ⟨b, F, rfl, hA, -, hb⟩
  have A := hide hA.out
  clear hA hb N
  go_wp2
  go_loopw [8] (fun i wr => ∃ k : Nat, k ≤ m ∧ i = .int .i64 (k : Int) ∧ ∃ F, Hid (At I W wr b ⟨200, upto k⟩ F)) (fun i _ => m - (intOf i).toNat)
  case atStart => exact ⟨0, by omega, rfl, _, A⟩
  case round =>
    clear A
    obtain ⟨k, hk, rfl, F, A⟩ := hrel
    by_cases hkn : k < m
    · have hk1 : (k : Int) < (m : Int) := by omega
      go_wp2_with fail
      refine (at_add' K A.out (k : Int) (x := 0) (s' := ⟨200, upto (k + 1)⟩) (upto_e (by omega)) (upto_s (by omega))).mono ?_
      rintro ee w2 ⟨F2, rfl, hA, hT⟩
      clear A
      have A := hide hA.out
      clear hA hT
      go_wp2
      go_round
      case rel => exact ⟨k + 1, by omega, by go_num, _, A⟩
      case measure => simp [intOf]; omega
    · obtain rfl : k = m := by omega
      clear hk hkn
      have hC := ct_many (s := ⟨200, upto k⟩) (upto_len k) n times
      have hL := (many_ord_len ⟨200, upto k⟩ n times).trans (upto_len k)
      have hSee := see_all hL
      have hN : Hid (clN ⟨200, upto k⟩ n = min n.toNat k) := hide (by unfold clN; rw [show (Rs.l ⟨200, upto k⟩) = upto k from rfl, upto_len]; omega)
      have hT : Hid ((clT times : Int) = times) := hide (by unfold clT; omega)
      have HM := hide (at_many K A.out n times)
      generalize clN ⟨200, upto k⟩ n = NN at *
      generalize clT times = TT at *
      generalize manyC ⟨200, upto k⟩ n times = C at *
      generalize manyS ⟨200, upto k⟩ n times = S at *
      generalize hQ : NN * TT = Q at *
      go_wp2_with fail
      refine HM.out.mono ?_
      rintro ee w3 ⟨v, u, F3, rfl, hA, hT2, hv, hu⟩
      clear A HM hT2
      have A := hide hA.out
      obtain ⟨bv, ov, cv, rfl, hcv⟩ := hv.out.is.ct hC hm1
      have HCV := hide hcv
      have U := hide hu.out
      obtain ⟨pu, cu, rfl, _, _⟩ := hu.out.is.form
      rw [hL] at U
      rw [hL]
      clear hA hv hu hcv hC hm2
      obtain ⟨nn, hnn⟩ : ∃ nn : Int, nn = (NN : Int) := ⟨_, rfl⟩
      have hNk : NN ≤ k := by have := hN.out; omega
      have hTb : TT ≤ 1099511627776 := by have := hT.out; omega
      have hcase : Hid (((k : Int) < n → nn = k) ∧ (¬ (k : Int) < n → nn = n)) := hide ⟨fun h => by have := hN.out; omega, fun h => by have := hN.out; omega⟩
      have HB : Hid (Q ≤ 110000000000000) := hide (by
        have h1 : NN * TT ≤ 100 * 1099511627776 := Nat.mul_le_mul (by omega) hTb
        omega)
      have HQ : Hid (times * nn = (Q : Int)) := hide (by
        rw [← hQ, hnn, ← hT.out]; push_cast; rw [Int.mul_comm])
      clear hQ hnn hNk hTb hN hT hL
      go_upto_if 64 with fail
      go_cut [1] from 62 to 66 (fun x wx => x = .int .i64 nn ∧ wx = w3)
      case first =>
        by_cases hg : (k : Int) < n
        · have e := hcase.out.1 hg
          have dg : decide ((k : Int) < n) = true := decide_eq_true hg
          go_wp2
          go_meet
          case rel => exact ⟨by rw [e], rfl⟩
        · have e := hcase.out.2 (by omega)
          have dg : decide ((k : Int) < n) = false := decide_eq_false hg
          go_wp2
          go_meet
          case rel => exact ⟨by rw [e], rfl⟩
      case rest =>
        obtain ⟨rfl, hwc⟩ := hcut
        have hwc' := hwc.symm
        clear hwc
        subst hwc'
        have k0 : (0 : Int) < (k : Int) := by omega
        have x0 : w3.cell? ⟨bv, ov, none⟩ = some (.int .i64 (cnt k Q 0 : Int)) := HCV.out _ (Nx.refl _) 0 hm1
        go_wp2_with fail
        go_quiet (fail)
        clear x0
        have hdd : Hid (∀ d, Nx w3 (w3.drewN d)) := hide fun d => bel_drewN (Nx.refl _) d
        have C0 := hide (cnt_between (i := 0) (show 0 < k by omega) Q)
        have CB := hide (fun i (h : i < k) => cnt_between h Q)
        have CS := hide (fun j (h : j ≤ k) => sum_le (m := k) (q := Q) j h)
        have CA := hide (sum_all (m := k) (by omega) Q)
        have HD := hide (show Q / k ≤ Q from Nat.div_le_self _ _)
        generalize cnt k Q 0 = c0 at *
        generalize hD : Q / k = D at *
        clear hD
        go_wp2
        go_loopw [11, 12, 13, 14] (fun sm le mo i wr => ∃ (j x y : Nat), j ≤ k ∧ i = .int .i64 (j : Int) ∧ sm = .int .i64 (sumC k Q j : Int) ∧ le = .int .i64 (x : Int) ∧ mo = .int .i64 (y : Int) ∧ Hid (D ≤ x ∧ x ≤ D + 1 ∧ D ≤ y ∧ y ≤ D + 1) ∧ Hid (Nx w3 wr)) (fun _ _ _ i _ => k - (intOf i).toNat)
        case atStart => exact ⟨0, c0, c0, by omega, rfl, rfl, rfl, rfl, hide ⟨C0.out.1, C0.out.2, C0.out.1, C0.out.2⟩, hide (hdd.out _)⟩
        case round =>
          obtain ⟨j, x, y, hj, rfl, rfl, rfl, rfl, HX, HN⟩ := hrel
          by_cases hjk : j < k
          · have hj1 : (j : Int) < (k : Int) := by omega
            have x0 : wr.cell? ⟨bv, ov + j, none⟩ = some (.int .i64 (cnt k Q j : Int)) := HCV.out _ HN.out j hjk
            have CJ := hide (CB.out j hjk)
            have CS1 := CS.out (j + 1) hjk
            rw [CA.out] at CS1
            have hsm : (sumC k Q j : Int) + (cnt k Q j : Int) = (sumC k Q (j + 1) : Int) := by
              show _ = ((sumC k Q j + cnt k Q j : Nat) : Int)
              push_cast; rfl
            have hb1 : (sumC k Q (j + 1) : Int) ≤ 110000000000000 := by have := HB.out; omega
            have hb2 : (0 : Int) ≤ (sumC k Q (j + 1) : Int) := by omega
            clear CS1
            generalize cnt k Q j = c at *
            generalize sumC k Q j = s0 at *
            generalize hs1 : sumC k Q (j + 1) = s1 at *
            have HS1 := hide hs1
            clear hs1
            by_cases hl : (c : Int) < (x : Int)
            · by_cases hg : (y : Int) < (c : Int)
              · exfalso
                have := HX.out
                have := CJ.out
                omega
              · have dl : decide ((c : Int) < (x : Int)) = true := decide_eq_true hl
                have dg : decide ((y : Int) < (c : Int)) = false := decide_eq_false hg
                go_wp2
                go_round
                case rel => exact ⟨j + 1, c, y, by omega, by go_num, by rw [HS1.out], rfl, rfl, hide ⟨CJ.out.1, CJ.out.2, HX.out.2.2⟩, HN⟩
                case measure => simp [intOf]; omega
            · by_cases hg : (y : Int) < (c : Int)
              · have dl : decide ((c : Int) < (x : Int)) = false := decide_eq_false hl
                have dg : decide ((y : Int) < (c : Int)) = true := decide_eq_true hg
                go_wp2
                go_round
                case rel => exact ⟨j + 1, x, c, by omega, by go_num, by rw [HS1.out], rfl, rfl, hide ⟨HX.out.1, HX.out.2.1, CJ.out⟩, HN⟩
                case measure => simp [intOf]; omega
              · have dl : decide ((c : Int) < (x : Int)) = false := decide_eq_false hl
                have dg : decide ((y : Int) < (c : Int)) = false := decide_eq_false hg
                go_wp2
                go_round
                case rel => exact ⟨j + 1, x, y, by omega, by go_num, by rw [HS1.out], rfl, rfl, HX, HN⟩
                case measure => simp [intOf]; omega
          · obtain rfl : j = k := by omega
            rw [CA.out]
            have hq := HQ.out
            have hxy : (y : Int) - (x : Int) ≤ 1 := by have := HX.out; omega
            have hx9 : (x : Int) ≤ 110000000000001 := by have := HX.out; have := HD.out; have := HB.out; omega
            have hy9 : (y : Int) ≤ 110000000000001 := by have := HX.out; have := HD.out; have := HB.out; omega
            have hq9 : (Q : Int) ≤ 110000000000000 := by have := HB.out; omega
            have dq : ((Q : Int) == (Q : Int)) = true := by simp
            have dxy : decide ((y : Int) - (x : Int) ≤ 1) = true := decide_eq_true hxy
            clear CB CS CA HCV
            have A2 := hide (A.out.on K HN.out)
            clear A
            have HS := hide (at_see K A2.out (j : Int))
            rw [hSee] at HS
            go_wp2_with fail
            refine HS.out.mono ?_
            rintro ee w5 ⟨z, F5, rfl, hA, hT, hz⟩
            have U2 := hide ((U.out.nx HN.out).tn hT)
            have A3 := hide hA.out
            have Z := hide hz.out
            clear HS A2 hA hT hz U
            go_wp2_with fail
            refine (ints_any Z.out.is U2.out.is).mono ?_
            rintro ee w6 ⟨rfl, hb⟩
            go_wp2
            go_ret
            exact ⟨by simp, Nx.trans A3.out.nx hb⟩
end Go.Proofs.Ytndmmhikhfndaaa.Rb
