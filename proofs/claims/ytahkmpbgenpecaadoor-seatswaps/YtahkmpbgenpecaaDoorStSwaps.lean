/- SeatSwaps: swapped there and back all is as it was. -/
import Derived.Test.YtahkmpbgenpecaaDoorStAw
namespace Go.Proofs.YtahkmpbgenpecaaDoor.St
open Go.RowKit Go.Proofs.YtahkmpbgenpecaaDoor.Con Go.Proofs.YtahkmpbgenpecaaDoor.Mk
set_option linter.unusedVariables false
set_option linter.unusedSimpArgs false
attribute [local go_sem ↓] Go.wp_at_zero Go.wp_at_succ
set_option maxHeartbeats 4000000 in
theorem swaps_walk (hA : Hid AwakeC) (hG : Hid GoodC) (hT : Hid AtC) (hS : Hid SwapC) (was : List Int) (v : Value) (W : World) (h : Is W v was) (cpu id : Int) (hTab : Hid (Tab W)) :
    Calls Tryd.prog 5 #[v, .int .i64 cpu, .int .i64 id] W fun e w' => e = .returned (.bool true) ∧ Nx W w' := by
  obtain ⟨p, cap, rfl, hn, hm⟩ := h.form
  have hmx : (was.length : Int) ≤ 9223372036854775807 := by unfold maxLen at hm; omega
  have H := hide h
  clear h
  go_enter Tryd.func5, Tryd.ntmps5
  go_wp2_with fail
  refine (hA.out _ hTab.out).mono ?_
  rintro ee w1 ⟨rfl, hb⟩
  have B1 := hide hb
  clear hb hA
  by_cases hl : 64 < (was.length : Int)
  · have hl' : decide (64 < (was.length : Int)) = true := decide_eq_true hl
    go_wp2
    go_ret
    exact ⟨rfl, B1.out⟩
  have hl' : decide (64 < (was.length : Int)) = false := decide_eq_false hl
  go_wp2_with fail
  refine (hG.out was [] _ _ w1 (H.out.below B1.out) (Is.nil _) (by omega)).mono ?_
  rintro ee w2 ⟨rfl, hb⟩
  have B2 := hide (Nx.trans B1.out hb)
  clear hb B1
  cases hg : goodS was [] with
  | false =>
    clear hg
    go_wp2
    go_ret
    exact ⟨rfl, B2.out⟩
  | true =>
    have hg := hide hg
    by_cases c1 : cpu < 0
    · have d1 : decide (cpu < 0) = true := decide_eq_true c1
      go_wp2
      go_ret
      exact ⟨rfl, B2.out⟩
    have d1 : decide (cpu < 0) = false := decide_eq_false c1
    by_cases c2 : (was.length : Int) ≤ cpu
    · have d2 : decide ((was.length : Int) ≤ cpu) = true := decide_eq_true c2
      go_wp2
      go_ret
      exact ⟨rfl, B2.out⟩
    have d2 : decide ((was.length : Int) ≤ cpu) = false := decide_eq_false c2
    by_cases c3 : id < 0
    · have d3 : decide (id < 0) = true := decide_eq_true c3
      go_wp2
      go_ret
      exact ⟨rfl, B2.out⟩
    have d3 : decide (id < 0) = false := decide_eq_false c3
    by_cases c4 : 1023 < id
    · have d4 : decide (1023 < id) = true := decide_eq_true c4
      go_wp2
      go_ret
      exact ⟨rfl, B2.out⟩
    have d4 : decide (1023 < id) = false := decide_eq_false c4
    go_wp2_with fail
    refine (hT.out was id _ w2 (H.out.below B2.out) (by omega) (by omega)).mono ?_
    rintro ee w3 ⟨rfl, hb⟩
    have B3 := hide (Nx.trans B2.out hb)
    clear hb B2
    obtain ⟨a, ha⟩ : ∃ a, atI was id = a := ⟨_, rfl⟩
    rw [ha]
    by_cases c5 : 0 ≤ a
    · have d5 : decide (0 ≤ a) = true := decide_eq_true c5
      clear ha
      go_wp2
      go_ret
      exact ⟨rfl, B3.out⟩
    have d5 : decide (0 ≤ a) = false := decide_eq_false c5
    obtain ⟨e1, e2, e3, e4, e5, e6⟩ := swap_there (cpu := cpu) (id := id) hg.out (by omega) (by omega) (by omega) (by omega) (at_neg (by rw [ha]; omega))
    have hlen : (was.set cpu.toNat id).length ≤ 100 := by rw [List.length_set]; omega
    have HS1 := hide (fun w hB => hS.out was cpu id _ w (H.out.below hB) (by omega))
    rw [e1, e2] at HS1
    generalize was.getD cpu.toNat 0 = who at *
    generalize was.set cpu.toNat id = now at *
    have HS2 := hide (fun w x hx => hS.out now cpu who x w hx hlen)
    rw [e5, e6] at HS2
    have HG := hide (fun w x hx => hG.out now [] x _ w hx (Is.nil w) hlen)
    rw [e3] at HG
    have HT := hide (fun w x hx => hT.out now id x w hx hlen (by omega))
    rw [e4] at HT
    clear hS hG hT e1 e2 e3 e4 e5 e6 ha hg hlen
    go_wp2_with fail
    refine (HS1.out _ B3.out).mono ?_
    rintro ee w4 ⟨x, rfl, hI, hb⟩
    have B4 := hide (Nx.trans B3.out hb)
    have I4 := hide hI.out
    clear hb hI B3 HS1
    go_wp2_with fail
    refine (HS2.out _ _ I4.out).mono ?_
    rintro ee w5 ⟨y, rfl, hI, hb⟩
    have B5 := hide (Nx.trans B4.out hb)
    have I5 := hide (I4.out.below hb)
    have J5 := hide hI.out
    clear hb hI B4 HS2 I4
    go_wp2_with fail
    refine (HG.out _ _ I5.out).mono ?_
    rintro ee w6 ⟨rfl, hb⟩
    have B6 := hide (Nx.trans B5.out hb)
    have I6 := hide (I5.out.below hb)
    have J6 := hide (J5.out.below hb)
    clear hb B5 HG I5 J5
    go_wp2_with fail
    refine (ints_any J6.out (H.out.below B6.out)).mono ?_
    rintro ee w7 ⟨rfl, hb⟩
    have B7 := hide (Nx.trans B6.out hb)
    have I7 := hide (I6.out.below hb)
    clear hb B6 I6 J6
    have dd : decide (was = was) = true := decide_eq_true rfl
    go_wp2_with fail
    refine (HT.out _ _ I7.out).mono ?_
    rintro ee w8 ⟨rfl, hb⟩
    have B8 := hide (Nx.trans B7.out hb)
    clear hb B7 I7
    go_wp2
    go_ret
    exact ⟨rfl, B8.out⟩
end Go.Proofs.YtahkmpbgenpecaaDoor.St
