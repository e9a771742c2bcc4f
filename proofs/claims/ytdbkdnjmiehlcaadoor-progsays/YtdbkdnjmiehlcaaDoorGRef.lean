/- The reference's GoodProg, Total, Holds, ProgFits. -/
import Derived.Test.YtdbkdnjmiehlcaaDoorGTot
namespace Go.Proofs.YtdbkdnjmiehlcaaDoor.Con
open Go.RowKit Go.Proofs.YtdbkdnjmiehlcaaDoor.Pm
set_option linter.unusedVariables false
set_option linter.unusedSimpArgs false
theorem good_mid {L : List St} (h1 : 1 ≤ L.length) (h2 : L.length ≤ 8) (h : ∀ j, j < L.length → goodS (at' L j) = true) : good L = true := good_all (by omega) (by omega) h

set_option maxHeartbeats 2000000 in
theorem rgood_any {W : World} {v : Value} {L : List St} (h : Sl W v L) (hl : L.length ≤ 1000) :
    Calls Tryd.prog 17 #[v] W fun e w' => e = .returned (.bool (good L)) ∧ w' = W := by
  obtain ⟨p, cap, rfl, hn, hm⟩ := h.form
  have H := hide h
  have H0 : Hid (L.length < 1 → good L = false) := hide good_short
  have H9 : Hid (8 < L.length → good L = false) := hide good_long
  have HG : Hid (1 ≤ L.length → L.length ≤ 8 → (∀ j, j < L.length → goodS (at' L j) = true) → good L = true) := hide good_mid
  have HN : Hid (∀ k, k < L.length → goodS (at' L k) = false → good L = false) := hide (fun k hk => good_bad hk)
  clear h
  go_enter Tryd.func17, Tryd.ntmps17
  go_wp2
  go_loop [3] (fun i => ∃ k : Nat, k ≤ L.length ∧ i = .int .i64 k ∧ Hid (∀ j, j < k → goodS (at' L j) = true)) (fun i => L.length - (intOf i).toNat)
  case atStart => exact ⟨0, by omega, rfl, hide (fun j hj => by omega)⟩
  case round =>
    obtain ⟨k, hk, rfl, HR⟩ := hrel
    by_cases hkn : k < L.length
    · obtain ⟨b, o, rfl, hb, x0, x1⟩ := H.out.at hkn
      have hk1 : (k : Int) < (L.length : Int) := by omega
      have E1 : Hid (¬ ((0 ≤ (at' L k).1 ∧ (at' L k).1 ≤ 8) ∧ 1 ≤ (at' L k).2 ∧ (at' L k).2 ≤ 2147483648) → good L = false) := hide (fun e => HN.out k hkn (goodS_no e))
      have E2 : Hid ((0 ≤ (at' L k).1 ∧ (at' L k).1 ≤ 8) ∧ 1 ≤ (at' L k).2 ∧ (at' L k).2 ≤ 2147483648 → ∀ j, j < k + 1 → goodS (at' L j) = true) := hide (fun e j hj => by
        rcases Nat.lt_or_ge j k with h1 | h1
        · exact HR.out j h1
        · obtain rfl : j = k := by omega
          exact (goodS_iff _).2 e)
      generalize (at' L k).1 = z at *
      generalize (at' L k).2 = z' at *
      clear HR
      by_cases d1 : z < 0
      · have FE := hide (E1.out (by omega))
        clear E1 E2
        go_wp2
        go_ret
        exact ⟨by rw [FE.out]; rfl, rfl⟩
      · by_cases d2 : 8 < z
        · have FE := hide (E1.out (by omega))
          clear E1 E2
          go_wp2
          go_ret
          exact ⟨by rw [FE.out]; rfl, rfl⟩
        · by_cases d3 : z' < 1
          · have FE := hide (E1.out (by omega))
            clear E1 E2
            go_wp2
            go_ret
            exact ⟨by rw [FE.out]; rfl, rfl⟩
          · by_cases d4 : 2147483648 < z'
            · have FE := hide (E1.out (by omega))
              clear E1 E2
              go_wp2
              go_ret
              exact ⟨by rw [FE.out]; rfl, rfl⟩
            · have FE := hide (E2.out (by omega))
              clear E1 E2
              go_wp2
              go_round
              case rel => exact ⟨k + 1, by omega, by go_num, FE⟩
              case measure => simp [intOf]; omega
    · obtain rfl : k = L.length := by omega
      by_cases h1 : 1 ≤ L.length
      · by_cases h2 : L.length ≤ 8
        · have FE := hide (HG.out h1 h2 HR.out)
          have h1' : 1 ≤ (L.length : Int) := by omega
          have h2' : (L.length : Int) ≤ 8 := by omega
          go_wp2
          go_ret
          exact ⟨by rw [FE.out]; rfl, rfl⟩
        · have FE := hide (H9.out (by omega))
          have h1' : 1 ≤ (L.length : Int) := by omega
          have h2' : ¬ (L.length : Int) ≤ 8 := by omega
          go_wp2
          go_ret
          exact ⟨by rw [FE.out]; rfl, rfl⟩
      · have FE := hide (H0.out (by omega))
        have h1' : ¬ 1 ≤ (L.length : Int) := by omega
        go_wp2
        go_ret
        exact ⟨by rw [FE.out]; rfl, rfl⟩

set_option maxHeartbeats 2000000 in
theorem rtotal_any {W : World} {v : Value} {L : List St} (h : Sl W v L) (hl : L.length ≤ 1000) :
    Calls Tryd.prog 18 #[v] W fun e w' => e = .returned (.int .i64 (total L)) ∧ w' = W := by
  obtain ⟨p, cap, rfl, hn, hm⟩ := h.form
  have hg := hide (rgood_any h hl)
  have H := hide h
  clear h
  by_cases hl0 : L.length = 0
  · have ht := hide (total_bad (good_short (L := L) (by omega)))
    have hl1 : (L.length : Int) = 0 := by omega
    go_enter Tryd.func18, Tryd.ntmps18
    go_wp2
    go_loop [3, 4] (fun t i => t = .int .i64 0 ∧ i = .int .i64 0) (fun _ i => 0)
    case atStart => exact ⟨rfl, rfl⟩
    case round =>
      obtain ⟨rfl, rfl⟩ := hrel
      go_wp2
      go_ret
      exact ⟨by rw [ht.out]; rfl, rfl⟩
  · cases hgd : good L with
    | false =>
      have ht := hide (total_bad hgd)
      have hl1 : 0 < (L.length : Int) := by omega
      rw [hgd] at hg
      clear hgd
      go_enter Tryd.func18, Tryd.ntmps18
      go_wp2
      go_loop [3, 4] (fun t i => t = .int .i64 0 ∧ i = .int .i64 0) (fun _ i => 0)
      case atStart => exact ⟨rfl, rfl⟩
      case round =>
        obtain ⟨rfl, rfl⟩ := hrel
        go_wp2_with (go_at_call 17; refine hg.out.mono ?_; rintro e w1 ⟨rfl, rfl⟩)
        go_ret
        exact ⟨by rw [ht.out]; rfl, rfl⟩
    | true =>
      have ht := hide (total_good hgd)
      have hS : Hid (∀ k, k < L.length → sumN (L.take (k + 1)) = sumN (L.take k) + (at' L k).2) := hide (fun k hk => sum_snoc L k _ (at_eq hk))
      have hB : Hid (∀ k, 0 ≤ sumN (L.take k) ∧ sumN (L.take k) ≤ 17179869184) := hide (fun k => sum_bound hgd k)
      have hln := (good_len hgd).2
      have hfin : Hid (sumN (L.take L.length) = sumN L) := hide (by rw [List.take_length])
      rw [hgd] at hg
      clear hgd
      go_enter Tryd.func18, Tryd.ntmps18
      go_wp2
      go_loop [3, 4] (fun t i => ∃ k : Nat, k ≤ L.length ∧ t = .int .i64 (sumN (L.take k)) ∧ i = .int .i64 k) (fun _ i => L.length - (intOf i).toNat)
      case atStart => exact ⟨0, by omega, rfl, rfl⟩
      case round =>
        obtain ⟨k, hk, rfl, rfl⟩ := hrel
        by_cases hkn : k < L.length
        · obtain ⟨b, o, rfl, hb, x0, x1⟩ := H.out.at hkn
          have hk1 : (k : Int) < (L.length : Int) := by omega
          have s1 := hS.out k hkn
          obtain ⟨s2, s3⟩ := hB.out k
          obtain ⟨s4, s5⟩ := hB.out (k + 1)
          generalize (at' L k).1 = z at *
          generalize (at' L k).2 = z' at *
          have HS := hide s1
          rw [s1] at s4 s5
          generalize sumN (L.take k) = t at *
          clear s1
          go_wp2_with (go_at_call 17; refine hg.out.mono ?_; rintro e w1 ⟨rfl, rfl⟩)
          go_round
          case rel => exact ⟨k + 1, by omega, by first | (rw [HS.out]; done) | (rw [HS.out]; go_num), by go_num⟩
          case measure => simp [intOf]; omega
        · obtain rfl : k = L.length := by omega
          go_wp2
          go_ret
          exact ⟨by rw [ht.out, ← hfin.out]; rfl, rfl⟩

set_option maxHeartbeats 2000000 in
theorem rholds_any {W : World} {v : Value} {L : List St} (h : Sl W v L) (hl : L.length ≤ 1000) :
    Calls Tryd.prog 19 #[v] W fun e w' => e = .returned (.int .i64 (holds L : Nat)) ∧ w' = W := by
  obtain ⟨p, cap, rfl, hn, hm⟩ := h.form
  have hg := hide (rgood_any h hl)
  have H := hide h
  clear h
  by_cases hl0 : L.length = 0
  · have ht := hide (holds_bad (good_short (L := L) (by omega)))
    have hl1 : (L.length : Int) = 0 := by omega
    go_enter Tryd.func19, Tryd.ntmps19
    go_wp2
    go_loop [3, 4] (fun t i => t = .int .i64 0 ∧ i = .int .i64 0) (fun _ i => 0)
    case atStart => exact ⟨rfl, rfl⟩
    case round =>
      obtain ⟨rfl, rfl⟩ := hrel
      go_wp2
      go_ret
      exact ⟨by rw [ht.out]; rfl, rfl⟩
  · cases hgd : good L with
    | false =>
      have ht := hide (holds_bad hgd)
      have hl1 : 0 < (L.length : Int) := by omega
      rw [hgd] at hg
      clear hgd
      go_enter Tryd.func19, Tryd.ntmps19
      go_wp2
      go_loop [3, 4] (fun t i => t = .int .i64 0 ∧ i = .int .i64 0) (fun _ i => 0)
      case atStart => exact ⟨rfl, rfl⟩
      case round =>
        obtain ⟨rfl, rfl⟩ := hrel
        go_wp2_with (go_at_call 17; refine hg.out.mono ?_; rintro e w1 ⟨rfl, rfl⟩)
        go_ret
        exact ⟨by rw [ht.out]; rfl, rfl⟩
    | true =>
      have ht := hide (holds_good hgd)
      have hS : Hid (∀ k, k < L.length → cntS (L.take (k + 1)) = cntS (L.take k) + (if (at' L k).1 = 0 then 0 else 1)) := hide (fun k hk => cnt_snoc L k _ (at_eq hk))
      have hP : Hid (∀ k, k < L.length → 0 ≤ (at' L k).1) := hide (fun k hk => (good_at hgd (at_eq hk)).1.1)
      have hB : Hid (∀ k, cntS (L.take k) ≤ 8) := hide (fun k => by have := cnt_le (L.take k); rw [List.length_take] at this; have := (good_len hgd).2; omega)
      have hln := (good_len hgd).2
      have hfin : Hid (cntS (L.take L.length) = cntS L) := hide (by rw [List.take_length])
      rw [hgd] at hg
      clear hgd
      go_enter Tryd.func19, Tryd.ntmps19
      go_wp2
      go_loop [3, 4] (fun t i => ∃ k : Nat, k ≤ L.length ∧ t = .int .i64 ((cntS (L.take k) : Nat) : Int) ∧ i = .int .i64 k) (fun _ i => L.length - (intOf i).toNat)
      case atStart => exact ⟨0, by omega, rfl, rfl⟩
      case round =>
        obtain ⟨k, hk, rfl, rfl⟩ := hrel
        by_cases hkn : k < L.length
        · obtain ⟨b, o, rfl, hb, x0, x1⟩ := H.out.at hkn
          have hk1 : (k : Int) < (L.length : Int) := by omega
          have s1 := hS.out k hkn
          have s2 := hB.out k
          have s3 := hP.out k hkn
          generalize (at' L k).1 = z at *
          generalize (at' L k).2 = z' at *
          by_cases hz : z = 0
          · rw [if_pos hz] at s1
            have HS := hide s1
            clear s1
            subst hz
            generalize cntS (L.take k) = t at *
            go_wp2_with (go_at_call 17; refine hg.out.mono ?_; rintro e w1 ⟨rfl, rfl⟩)
            go_round
            case rel => exact ⟨k + 1, by omega, by first | (rw [HS.out]; done) | (rw [HS.out]; simp), by go_num⟩
            case measure => simp [intOf]; omega
          · rw [if_neg hz] at s1
            have HS := hide s1
            clear s1
            generalize cntS (L.take k) = t at *
            have hz2 : 0 < z := by omega
            go_wp2_with (go_at_call 17; refine hg.out.mono ?_; rintro e w1 ⟨rfl, rfl⟩)
            go_round
            case rel => exact ⟨k + 1, by omega, by rw [HS.out]; go_num, by go_num⟩
            case measure => simp [intOf]; omega
        · obtain rfl : k = L.length := by omega
          go_wp2
          go_ret
          exact ⟨by rw [ht.out, ← hfin.out]; rfl, rfl⟩

set_option maxHeartbeats 2000000 in
theorem rfits_any {W : World} {v : Value} {L : List St} (h : Sl W v L) (hl : L.length ≤ 1000) (m : Nat) :
    Calls Tryd.prog 22 #[v, .int .i64 m] W fun e w' => e = .returned (.bool (fits L m)) ∧ w' = W := by
  obtain ⟨p, cap, rfl, hn, hm⟩ := h.form
  have hg := hide (rgood_any h hl)
  have H := hide h
  have HN : Hid (∀ k, k < L.length → (m : Int) < (at' L k).1 → fits L m = false) := hide (fun k hk => fits_no hk)
  have HG : Hid ((∀ j, j < L.length → (at' L j).1 ≤ (m : Int)) → fits L m = good L) := hide (fun e => by
    cases hgd : good L with
    | false => exact fits_bad hgd m
    | true => exact fits_all hgd e)
  clear h
  go_enter Tryd.func22, Tryd.ntmps22
  go_wp2
  go_loop [5] (fun i => ∃ k : Nat, k ≤ L.length ∧ i = .int .i64 k ∧ Hid (∀ j, j < k → (at' L j).1 ≤ (m : Int))) (fun i => L.length - (intOf i).toNat)
  case atStart => exact ⟨0, by omega, rfl, hide (fun j hj => by omega)⟩
  case round =>
    obtain ⟨k, hk, rfl, HR⟩ := hrel
    by_cases hkn : k < L.length
    · obtain ⟨b, o, rfl, hb, x0, x1⟩ := H.out.at hkn
      have hk1 : (k : Int) < (L.length : Int) := by omega
      have E1 : Hid ((m : Int) < (at' L k).1 → fits L m = false) := hide (fun e => HN.out k hkn e)
      have E2 : Hid (¬ (m : Int) < (at' L k).1 → ∀ j, j < k + 1 → (at' L j).1 ≤ (m : Int)) := hide (fun e j hj => by
        rcases Nat.lt_or_ge j k with h1 | h1
        · exact HR.out j h1
        · obtain rfl : j = k := by omega
          omega)
      generalize (at' L k).1 = z at *
      generalize (at' L k).2 = z' at *
      clear HR
      by_cases d1 : (m : Int) < z
      · have FE := hide (E1.out d1)
        clear E1 E2
        go_wp2
        go_ret
        exact ⟨by rw [FE.out]; rfl, rfl⟩
      · have FE := hide (E2.out d1)
        clear E1 E2
        go_wp2
        go_round
        case rel => exact ⟨k + 1, by omega, by go_num, FE⟩
        case measure => simp [intOf]; omega
    · obtain rfl : k = L.length := by omega
      have FE := hide (HG.out HR.out)
      go_wp2_with (go_at_call 17; refine hg.out.mono ?_; rintro e w1 ⟨rfl, rfl⟩)
      go_ret
      exact ⟨by rw [FE.out]; rfl, rfl⟩
end Go.Proofs.YtdbkdnjmiehlcaaDoor.Con
