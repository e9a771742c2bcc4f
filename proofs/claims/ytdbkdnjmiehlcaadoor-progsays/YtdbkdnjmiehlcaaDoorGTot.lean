/- Total, Holds, Fits. -/
import Derived.Test.YtdbkdnjmiehlcaaDoorGSl
namespace Go.Proofs.YtdbkdnjmiehlcaaDoor.Con
open Go.RowKit Go.Proofs.YtdbkdnjmiehlcaaDoor.Pm
set_option linter.unusedVariables false
set_option linter.unusedSimpArgs false
theorem total_bad {L : List St} (h : good L = false) : total L = 0 := by unfold total; rw [if_neg (by rw [h]; decide)]
theorem total_good {L : List St} (h : good L = true) : total L = sumN L := by unfold total; rw [if_pos h]
theorem holds_bad {L : List St} (h : good L = false) : holds L = 0 := by unfold holds; rw [if_neg (by rw [h]; decide)]
theorem holds_good {L : List St} (h : good L = true) : holds L = cntS L := by unfold holds; rw [if_pos h]
theorem fits_bad {L : List St} (h : good L = false) (m : Nat) : fits L m = false := by unfold fits; rw [h]; rfl
theorem fits_no {L : List St} {k m : Nat} (hk : k < L.length) (h : (m : Int) < (at' L k).1) : fits L m = false := by
  cases hf : fits L m with
  | false => rfl
  | true =>
    unfold fits at hf
    rw [Bool.and_eq_true, List.all_eq_true] at hf
    have := hf.2 (at' L k) (List.mem_of_getElem? (at_eq hk))
    simp only [decide_eq_true_eq] at this; omega
theorem fits_all {L : List St} {m : Nat} (hg : good L = true) (h : ∀ j, j < L.length → (at' L j).1 ≤ (m : Int)) : fits L m = true := by
  unfold fits
  rw [hg, Bool.true_and, List.all_eq_true]
  intro s hs
  obtain ⟨j, hj, rfl⟩ := List.mem_iff_getElem.1 hs
  have := h j hj
  have e := at_eq hj
  rw [List.getElem?_eq_getElem hj] at e
  rw [Option.some.inj e]; simpa using this
theorem good_len {L : List St} (h : good L = true) : 1 ≤ L.length ∧ L.length ≤ 8 := ((good_iff L).1 h).1

set_option maxHeartbeats 2000000 in
theorem total_any {W : World} {v : Value} {L : List St} (h : Sl W v L) :
    Calls Tryd.prog 11 #[v] W fun e w' => e = .returned (.int .i64 (total L)) ∧ Below W.heap.size W w' := by
  obtain ⟨p, cap, rfl, hn, hm⟩ := h.form
  have hg := hide (good_any h)
  have H := hide h
  clear h
  cases hgd : good L with
  | false =>
    have ht := hide (total_bad hgd)
    rw [hgd] at hg
    clear hgd
    go_enter Tryd.func11, Tryd.ntmps11
    go_wp2_with (go_at_call 10; refine hg.out.mono ?_; rintro e w1 ⟨rfl, hb⟩)
    go_ret
    exact ⟨by rw [ht.out]; rfl, hb⟩
  | true =>
    have ht := hide (total_good hgd)
    have hS : Hid (∀ k, k < L.length → sumN (L.take (k + 1)) = sumN (L.take k) + (at' L k).2) := hide (fun k hk => sum_snoc L k _ (at_eq hk))
    have hB : Hid (∀ k, 0 ≤ sumN (L.take k) ∧ sumN (L.take k) ≤ 17179869184) := hide (fun k => sum_bound hgd k)
    have hln := (good_len hgd).2
    have hfin : Hid (sumN (L.take L.length) = sumN L) := hide (by rw [List.take_length])
    rw [hgd] at hg
    clear hgd
    go_enter Tryd.func11, Tryd.ntmps11
    go_wp2_with fail
    refine hg.out.mono ?_
    rintro e w1 ⟨rfl, hb1⟩
    have HB1 := hide hb1
    clear hb1
    go_wp2
    go_loopw [3, 11] (fun t i wr => ∃ k : Nat, k ≤ L.length ∧ t = .int .i64 (sumN (L.take k)) ∧ i = .int .i64 k ∧ Hid (Below W.heap.size W wr)) (fun _ i _ => L.length - (intOf i).toNat)
    case atStart => exact ⟨0, by omega, rfl, rfl, HB1⟩
    case round =>
      obtain ⟨k, hk, rfl, rfl, HB⟩ := hrel
      by_cases hkn : k < L.length
      · obtain ⟨b, o, rfl, hb, x0, x1⟩ := (H.out.below HB.out).at hkn
        have hk1 : (k : Int) < (L.length : Int) := by omega
        have HB' : Hid (∀ o, Below W.heap.size W (wr.alloc o)) := hide (fun o => bel_alloc2 HB.out o)
        have s1 := hS.out k hkn
        obtain ⟨s2, s3⟩ := hB.out k
        obtain ⟨s4, s5⟩ := hB.out (k + 1)
        generalize (at' L k).1 = z at *
        generalize (at' L k).2 = z' at *
        have HS := hide s1
        rw [s1] at s4 s5
        generalize sumN (L.take k) = t at *
        clear HB s1
        go_wp2
        go_round
        case rel => exact ⟨k + 1, by omega, by first | (rw [HS.out]; done) | (rw [HS.out]; go_num), by go_num, hide (HB'.out _)⟩
        case measure => simp [intOf]; omega
      · obtain rfl : k = L.length := by omega
        go_wp2
        go_ret
        exact ⟨by rw [ht.out, ← hfin.out]; rfl, HB.out⟩

set_option maxHeartbeats 2000000 in
theorem holds_any {W : World} {v : Value} {L : List St} (h : Sl W v L) :
    Calls Tryd.prog 12 #[v] W fun e w' => e = .returned (.int .i64 (holds L : Nat)) ∧ Below W.heap.size W w' := by
  obtain ⟨p, cap, rfl, hn, hm⟩ := h.form
  have hg := hide (good_any h)
  have H := hide h
  clear h
  cases hgd : good L with
  | false =>
    have ht := hide (holds_bad hgd)
    rw [hgd] at hg
    clear hgd
    go_enter Tryd.func12, Tryd.ntmps12
    go_wp2_with (go_at_call 10; refine hg.out.mono ?_; rintro e w1 ⟨rfl, hb⟩)
    go_ret
    exact ⟨by rw [ht.out]; rfl, hb⟩
  | true =>
    have ht := hide (holds_good hgd)
    have hS : Hid (∀ k, k < L.length → cntS (L.take (k + 1)) = cntS (L.take k) + (if (at' L k).1 = 0 then 0 else 1)) := hide (fun k hk => cnt_snoc L k _ (at_eq hk))
    have hB : Hid (∀ k, cntS (L.take k) ≤ 8) := hide (fun k => by have := cnt_le (L.take k); rw [List.length_take] at this; have := (good_len hgd).2; omega)
    have hln := (good_len hgd).2
    have hfin : Hid (cntS (L.take L.length) = cntS L) := hide (by rw [List.take_length])
    rw [hgd] at hg
    clear hgd
    go_enter Tryd.func12, Tryd.ntmps12
    go_wp2_with fail
    refine hg.out.mono ?_
    rintro e w1 ⟨rfl, hb1⟩
    have HB1 := hide hb1
    clear hb1
    go_wp2
    go_loopw [3, 11] (fun t i wr => ∃ k : Nat, k ≤ L.length ∧ t = .int .i64 ((cntS (L.take k) : Nat) : Int) ∧ i = .int .i64 k ∧ Hid (Below W.heap.size W wr)) (fun _ i _ => L.length - (intOf i).toNat)
    case atStart => exact ⟨0, by omega, rfl, rfl, HB1⟩
    case round =>
      obtain ⟨k, hk, rfl, rfl, HB⟩ := hrel
      by_cases hkn : k < L.length
      · obtain ⟨b, o, rfl, hb, x0, x1⟩ := (H.out.below HB.out).at hkn
        have hk1 : (k : Int) < (L.length : Int) := by omega
        have HB' : Hid (∀ o, Below W.heap.size W (wr.alloc o)) := hide (fun o => bel_alloc2 HB.out o)
        have s1 := hS.out k hkn
        have s2 := hB.out k
        generalize (at' L k).1 = z at *
        generalize (at' L k).2 = z' at *
        by_cases hz : z = 0
        · subst hz
          rw [if_pos rfl, Nat.add_zero] at s1
          have HS := hide s1
          clear s1
          generalize cntS (L.take k) = t at *
          clear HB
          go_wp2
          go_round
          case rel => exact ⟨k + 1, by omega, by first | (rw [HS.out]; done) | (rw [HS.out]; simp), by go_num, hide (HB'.out _)⟩
          case measure => simp [intOf]; omega
        · rw [if_neg hz] at s1
          have HS := hide s1
          clear s1
          generalize cntS (L.take k) = t at *
          have hz2 : (z == 0) = false := by simp [hz]
          have hz3 : (z != 0) = true := by simp [hz]
          clear HB
          go_wp2
          go_round
          case rel => exact ⟨k + 1, by omega, by first | (rw [HS.out]; done) | (rw [HS.out]; go_num), by go_num, hide (HB'.out _)⟩
          case measure => simp [intOf]; omega
      · obtain rfl : k = L.length := by omega
        go_wp2
        go_ret
        exact ⟨by rw [ht.out, ← hfin.out]; rfl, HB.out⟩

set_option maxHeartbeats 2000000 in
theorem fits_any {W : World} {v : Value} {L : List St} (h : Sl W v L) (q : Option Addr) (m c : Nat) (hmc : m ≤ maxLen) :
    Calls Tryd.prog 14 #[v, .slice q m c] W fun e w' => e = .returned (.bool (fits L m)) ∧ Below W.heap.size W w' := by
  obtain ⟨p, cap, rfl, hn, hm⟩ := h.form
  have hg := hide (good_any h)
  have H := hide h
  clear h
  cases hgd : good L with
  | false =>
    have ht := hide (fits_bad hgd m)
    rw [hgd] at hg
    clear hgd
    go_enter Tryd.func14, Tryd.ntmps14
    go_wp2_with (go_at_call 10; refine hg.out.mono ?_; rintro e w1 ⟨rfl, hb⟩)
    go_ret
    exact ⟨by rw [ht.out]; rfl, hb⟩
  | true =>
    have HN : Hid (∀ k, k < L.length → (m : Int) < (at' L k).1 → fits L m = false) := hide (fun k hk => fits_no hk)
    have HG : Hid ((∀ j, j < L.length → (at' L j).1 ≤ (m : Int)) → fits L m = true) := hide (fits_all hgd)
    have hln := (good_len hgd).2
    rw [hgd] at hg
    clear hgd
    go_enter Tryd.func14, Tryd.ntmps14
    go_wp2_with fail
    refine hg.out.mono ?_
    rintro e w1 ⟨rfl, hb1⟩
    have HB1 := hide hb1
    clear hb1
    go_wp2
    go_loopw [12] (fun i wr => ∃ k : Nat, k ≤ L.length ∧ i = .int .i64 k ∧ Hid (∀ j, j < k → (at' L j).1 ≤ (m : Int)) ∧ Hid (Below W.heap.size W wr)) (fun i _ => L.length - (intOf i).toNat)
    case atStart => exact ⟨0, by omega, rfl, hide (fun j hj => by omega), HB1⟩
    case round =>
      obtain ⟨k, hk, rfl, HR, HB⟩ := hrel
      by_cases hkn : k < L.length
      · obtain ⟨b, o, rfl, hb, x0, x1⟩ := (H.out.below HB.out).at hkn
        have hk1 : (k : Int) < (L.length : Int) := by omega
        have HB' : Hid (∀ o, Below W.heap.size W (wr.alloc o)) := hide (fun o => bel_alloc2 HB.out o)
        have E1 : Hid ((m : Int) < (at' L k).1 → fits L m = false) := hide (fun e => HN.out k hkn e)
        have E2 : Hid (¬ (m : Int) < (at' L k).1 → ∀ j, j < k + 1 → (at' L j).1 ≤ (m : Int)) := hide (fun e j hj => by
          rcases Nat.lt_or_ge j k with h1 | h1
          · exact HR.out j h1
          · obtain rfl : j = k := by omega
            omega)
        generalize (at' L k).1 = z at *
        generalize (at' L k).2 = z' at *
        clear HR HB
        by_cases d1 : (m : Int) < z
        · have FE := hide (E1.out d1)
          clear E1 E2
          go_wp2
          go_ret
          exact ⟨by rw [FE.out]; rfl, HB'.out _⟩
        · have FE := hide (E2.out d1)
          clear E1 E2
          go_wp2
          go_round
          case rel => exact ⟨k + 1, by omega, by go_num, FE, hide (HB'.out _)⟩
          case measure => simp [intOf]; omega
      · obtain rfl : k = L.length := by omega
        have FE := hide (HG.out HR.out)
        go_wp2
        go_ret
        exact ⟨by rw [FE.out]; rfl, HB.out⟩
end Go.Proofs.YtdbkdnjmiehlcaaDoor.Con
