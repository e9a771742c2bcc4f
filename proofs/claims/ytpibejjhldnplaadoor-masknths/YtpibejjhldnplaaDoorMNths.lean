/- The walks of MaskNths and MaskAround. -/
import Derived.Test.YtpibejjhldnplaaDoorMAwake
import Derived.Test.YtpibejjhldnplaaDoorMPlay
namespace Go.Proofs.YtpibejjhldnplaaDoor.Con
open Go.RowKit Go.Proofs.YtpibejjhldnplaaDoor.Mk
set_option linter.unusedVariables false

set_option maxRecDepth 100000 in
set_option maxHeartbeats 1000000 in
theorem nths_walk (m : Nat) (w : World) (hm : m < 18446744073709551616) (hT : Tab w) :
    Calls Tryd.prog 5 #[.int .u64 m] w fun e w' => e = .returned (.bool true) ∧ Below w.heap.size w w' := by
  have hl := lenN_le m
  have hT' := hide hT
  clear hT
  have hA := hide (awake_any w (unhide hT'))
  go_enter Tryd.func5, Tryd.ntmps5
  go_wp2_with fail
  refine (unhide hA).mono ?_
  rintro e w0 ⟨rfl, hb0⟩
  have hT0 := hide ((unhide hT').on hb0)
  have hB := hide hb0
  clear hb0 hA hT'
  go_wp2
  go_loop [4, 5] (fun x i => ∃ n k : Nat, k ≤ 64 ∧ n ≤ lenN m ∧ i = .int .i64 n ∧ x = .int .u64 (m &&& fullN k) ∧ (onesTo m k).length = n) (fun _ i => lenN m - (intOf i).toNat)
  case atStart => exact ⟨0, 0, by omega, by omega, rfl, by
    rw [show fullN ((0 : Nat) : Int) = 0 from by decide, Nat.and_zero]; rfl, rfl⟩
  case round =>
    obtain ⟨n, k, hk, hnl, rfl, rfl, hn⟩ := hrel
    have hn' := hide hn
    clear hn
    by_cases hlt : n < lenN m
    · obtain ⟨j, e1, e2, e3, e4, e5, e6⟩ := nths_step m k n hm hk (unhide hn') hlt
      have hN := hide (nth_any m n w0 hm (unhide hT0))
      have hR := hide (rank_any m j w0 hm)
      have hH := hide (has_any m j w0 hm)
      have hW := hide (with_any (m &&& fullN k) j w0 (and_lt _ hm))
      rw [e1] at hN
      rw [e3] at hR
      rw [e4] at hH
      rw [e5] at hW
      have e6' := hide e6
      clear e1 e3 e4 e5 e6
      go_wp2_with (first
        | (go_at_call 23; refine (len_any _ _ hm).mono ?_; rintro e w' ⟨rfl, rfl⟩)
        | (go_at_call 12; refine (unhide hN).mono ?_; rintro e w' ⟨rfl, rfl⟩)
        | (go_at_call 13; refine (unhide hR).mono ?_; rintro e w' ⟨rfl, rfl⟩)
        | (go_at_call 14; refine (unhide hH).mono ?_; rintro e w' ⟨rfl, rfl⟩)
        | (go_at_call 15; refine (unhide hW).mono ?_; rintro e w' ⟨rfl, rfl⟩))
      go_round
      case rel => exact ⟨n + 1, j + 1, by omega, by omega, by go_num, by first | rfl | simp, unhide e6'⟩
      case measure => simp [intOf]; omega
    · obtain ⟨e1, e2⟩ := nths_end m k hm hk (by have := unhide hn'; omega)
      have hN := hide (nth_any m (lenN m) w0 hm (unhide hT0))
      rw [e2] at hN
      have e1' := hide e1
      rw [e1]
      clear e1 e2
      go_wp2_with (first
        | (go_at_call 23; refine (len_any _ _ hm).mono ?_; rintro e w' ⟨rfl, rfl⟩)
        | (go_at_call 12; refine (unhide hN).mono ?_; rintro e w' ⟨rfl, rfl⟩))
      go_ret
      exact ⟨ret_bool (decide_eq_true (by omega)), unhide hB⟩

set_option maxRecDepth 100000 in
set_option maxHeartbeats 1000000 in
theorem around_walk (m : Nat) (f : Int) (w : World) (hm : m < 18446744073709551616) (hT : Tab w) :
    Calls Tryd.prog 6 #[.int .u64 m, .int .i64 f] w fun e w' => e = .returned (.bool true) ∧ Below w.heap.size w w' := by
  have hl := lenN_le m
  have hT' := hide hT
  clear hT
  have hA := hide (awake_any w (unhide hT'))
  by_cases hf0 : f < 0
  · go_enter Tryd.func6, Tryd.ntmps6
    go_wp2_with fail
    refine (unhide hA).mono ?_
    rintro e w0 ⟨rfl, hb0⟩
    have hB := hide hb0
    clear hb0 hA hT'
    go_wp2
    go_ret
    exact ⟨rfl, unhide hB⟩
  by_cases hf1 : 63 < f
  · go_enter Tryd.func6, Tryd.ntmps6
    go_wp2_with fail
    refine (unhide hA).mono ?_
    rintro e w0 ⟨rfl, hb0⟩
    have hB := hide hb0
    clear hb0 hA hT'
    go_wp2
    go_ret
    exact ⟨rfl, unhide hB⟩
  obtain ⟨F, rfl⟩ : ∃ F : Nat, f = F := ⟨f.toNat, by omega⟩
  have hF : F < 64 := by omega
  go_enter Tryd.func6, Tryd.ntmps6
  go_wp2_with fail
  refine (unhide hA).mono ?_
  rintro e w0 ⟨rfl, hb0⟩
  have hT0 := hide ((unhide hT').on hb0)
  have hB := hide hb0
  clear hb0 hA hT'
  go_wp2
  go_loop [6, 7, 8] (fun x a i => ∃ s k n : Nat, n ≤ lenN m ∧ i = .int .i64 n ∧ a = .int .i64 k ∧ x = .int .u64 s ∧ Met m F k s n) (fun _ _ i => lenN m - (intOf i).toNat)
  case atStart => exact ⟨0, F, 0, by omega, rfl, rfl, rfl, Met.start m F (by omega)⟩
  case round =>
    obtain ⟨s, k, n, hnl, rfl, rfl, rfl, hM⟩ := hrel
    have hM' := hide hM
    have hs := hM.1
    have hk := hM.2.2.1
    clear hM
    by_cases hlt : n < lenN m
    · obtain ⟨j, e1, e2, e3, e4, e5⟩ := (unhide hM').step hm hF hlt
      have hN := hide (around_any m k w0 hm (unhide hT0))
      have hH := hide (has_any s j w0 hs)
      have hH2 := hide (has_any m j w0 hm)
      have hW := hide (with_any s j w0 hs)
      rw [e1] at hN
      rw [e3] at hH
      rw [e4] at hH2
      have e5' := hide e5
      clear e1 e3 e4 e5
      go_wp2_with fail
      refine (len_any _ _ hm).mono ?_; rintro e w' ⟨rfl, rfl⟩
      go_wp2_with fail
      refine (unhide hN).mono ?_; rintro e w' ⟨rfl, rfl⟩
      go_wp2_with fail
      refine (unhide hH).mono ?_; rintro e w' ⟨rfl, rfl⟩
      go_wp2_with fail
      refine (unhide hH2).mono ?_; rintro e w' ⟨rfl, rfl⟩
      go_wp2_with fail
      refine (unhide hW).mono ?_; rintro e w' ⟨rfl, rfl⟩
      go_wp2
      go_round
      case rel => exact ⟨withN s j, j + 1, n + 1, by omega, by go_num, by go_num, rfl, unhide e5'⟩
      case measure => simp [intOf]; omega
    · have e1 : s = m := all_met hs hm (unhide hM').sub (by rw [(unhide hM').2.1]; omega)
      subst e1
      go_wp2_with (go_at_call 23; refine (len_any _ _ hm).mono ?_; rintro e w' ⟨rfl, rfl⟩)
      go_ret
      exact ⟨ret_bool (by simp), unhide hB⟩
end Go.Proofs.YtpibejjhldnplaaDoor.Con
