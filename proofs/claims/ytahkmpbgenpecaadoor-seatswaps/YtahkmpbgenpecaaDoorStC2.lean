/- apart, Good of the landed code. -/
import Derived.Test.YtahkmpbgenpecaaDoorStC1
namespace Go.Proofs.YtahkmpbgenpecaaDoor.St
open Go.RowKit Go.Proofs.YtahkmpbgenpecaaDoor.Con Go.Proofs.YtahkmpbgenpecaaDoor.Mk
set_option linter.unusedVariables false
set_option linter.unusedSimpArgs false
attribute [local go_sem ↓] Go.wp_at_zero Go.wp_at_succ
set_option maxHeartbeats 8000000 in
set_option maxRecDepth 100000 in
theorem apart_any {W : World} {v : Value} {L : List Int} (h : Is W v L) (hl : L.length ≤ 100) (least : Int) (hle : least = -1 ∨ least = 0) :
    Calls Tryd.prog 21 #[v, .int .i64 least] W fun e w' => e = .returned (.bool (apartB L least)) ∧ Nx W w' := by
  obtain ⟨p, cap, rfl, hn, hm⟩ := h.form
  have H := hide h
  clear h
  have HI : Hid (∀ k, k < L.length → ¬ (least ≤ L.getD k 0 ∧ L.getD k 0 ≤ 1023) → apartB L least = false) := hide (fun k hk h => apart_out hk h)
  have HD : Hid (∀ i k, i < k → k < L.length → 0 ≤ L.getD k 0 → L.getD i 0 = L.getD k 0 → apartB L least = false) := hide (fun i k hi hk h0 h => apart_dup hi hk h0 h)
  have HE : Hid ((∀ k, k < L.length → least ≤ L.getD k 0 ∧ L.getD k 0 ≤ 1023) → (∀ i k, i < k → k < L.length → 0 ≤ L.getD k 0 → L.getD i 0 ≠ L.getD k 0) → apartB L least = true) := hide (fun a b => apart_yes a b)
  obtain ⟨N, Z, hN, hZ, hzv, hB0⟩ := Sn.new
  have B0 := hide ((hB0 W).congr (G := seenI L 0) fun j _ => rfl)
  have HN0 := hide hN
  clear hN hB0
  have N0 := hide (Nx.alloc W (.cells Z 42))
  go_enter Tryd.func21, Tryd.ntmps21
  go_wp2_with fail
  generalize W.alloc (.cells Z 42) = W2 at *
  obtain ⟨g, hgg⟩ : ∃ g, W.heap.size = g := ⟨_, rfl⟩
  have HGE : Hid (W.heap.size ≤ g) := hide (by omega)
  rw [hgg] at B0
  rw [hgg]
  clear hgg
  go_loopw [7, 10] (fun _ i wr => ∃ k : Nat, k ≤ L.length ∧ i = .int .i64 (k : Int) ∧ Hid (∀ j, j < k → least ≤ L.getD j 0 ∧ L.getD j 0 ≤ 1023) ∧ Hid (∀ i j, i < j → j < k → 0 ≤ L.getD j 0 → L.getD i 0 ≠ L.getD j 0) ∧ Hid (Sn wr g N (seenI L k)) ∧ Hid (Nx W wr)) (fun _ i _ => L.length - (intOf i).toNat)
  case atStart => exact ⟨0, by omega, rfl, hide (fun j hj => by omega), hide (fun i j hij hj => by omega), B0, N0⟩
  case round =>
    obtain ⟨k, hk, rfl, H1, H2, HS, HN⟩ := hrel
    by_cases hkn : k < L.length
    rotate_left
    · obtain rfl : k = L.length := by omega
      have FE := hide (HE.out H1.out H2.out)
      go_wp2
      go_ret
      exact ⟨ret_bool FE.out.symm, HN.out⟩
    have hk1 : (k : Int) < (L.length : Int) := by omega
    obtain ⟨b, o, rfl, hb, x0⟩ := (H.out.below HN.out).at hkn
    obtain ⟨K0, hK0⟩ : ∃ K0, L.getD k 0 = K0 := ⟨_, rfl⟩
    rw [hK0] at x0
    have HK0 := hide hK0
    clear hK0
    by_cases h0 : least ≤ K0
    rotate_left
    · have FE := hide (HI.out k hkn (by rw [HK0.out]; omega))
      have h0' : K0 < least := by omega
      go_wp2
      go_ret
      exact ⟨ret_bool FE.out.symm, HN.out⟩
    have h0' : ¬ K0 < least := by omega
    by_cases h3 : K0 ≤ 1023
    rotate_left
    · have FE := hide (HI.out k hkn (by rw [HK0.out]; omega))
      go_wp2
      go_ret
      exact ⟨ret_bool FE.out.symm, HN.out⟩
    have H1' : Hid (∀ j, j < k + 1 → least ≤ L.getD j 0 ∧ L.getD j 0 ≤ 1023) := hide (fun j hj => by
      rcases Nat.lt_or_ge j k with g | g
      · exact H1.out j g
      · obtain rfl : j = k := by omega
        rw [HK0.out]; exact ⟨h0, h3⟩)
    by_cases hm1 : K0 = -1
    · have H2' : Hid (∀ i j, i < j → j < k + 1 → 0 ≤ L.getD j 0 → L.getD i 0 ≠ L.getD j 0) := hide (fun i j hij hj hj0 => by
        rcases Nat.lt_or_ge j k with g | g
        · exact H2.out i j hij g hj0
        · obtain rfl : j = k := by omega
          rw [HK0.out] at hj0; omega)
      have HS' := hide (HS.out.congr (fun j _ => seenI_skip hkn (by rw [HK0.out]; omega) j))
      subst hm1
      clear H1 H2 HS
      go_wp2
      go_round
      case rel => exact ⟨k + 1, by omega, by go_num, H1', H2', HS', HN⟩
      case measure => simp [intOf]; omega
    have hm2 : (K0 == -1) = false := by rw [beq_eq_false_iff_ne]; exact hm1
    obtain ⟨n, rfl⟩ : ∃ n : Nat, K0 = (n : Int) := ⟨K0.toNat, by omega⟩
    have hn1 : n < 1024 := by omega
    have hn := hide (show n < N by rw [HN0.out]; exact hn1)
    have hc := HS.out.cell n hn.out
    have hz := HS.out.frozen n
    have hgl := HS.out.lt
    cases hs : seenI L k n with
    | true =>
      obtain ⟨i, i1, i2, i3⟩ := seenI_y hs
      have FE := hide (HD.out i k i1 hkn (by rw [HK0.out]; omega) (by rw [i3, HK0.out]))
      rw [hs] at hc
      clear hs i1 i2 i3
      go_wp2
      go_ret
      exact ⟨ret_bool FE.out.symm, HN.out⟩
    | false =>
      have H2' : Hid (∀ i j, i < j → j < k + 1 → 0 ≤ L.getD j 0 → L.getD i 0 ≠ L.getD j 0) := hide (fun i j hij hj hj0 => by
        rcases Nat.lt_or_ge j k with g | g
        · exact H2.out i j hij g hj0
        · obtain rfl : j = k := by omega
          rw [HK0.out]; exact seenI_n hs i hij (by omega))
      have HS' := hide ((HS.out.set n hn.out true).congr (fun j _ => seenI_snoc hkn HK0.out j))
      have HN2 := hide (nx_set (k := n) HN.out HGE.out (.bool true))
      rw [hs] at hc
      clear hs H1 H2
      go_wp2
      go_round
      case rel => exact ⟨k + 1, by omega, by go_num, H1', H2', HS', HN2⟩
      case measure => simp [intOf]; omega
end Go.Proofs.YtahkmpbgenpecaaDoor.St
