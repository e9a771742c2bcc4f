/- SeatFree: as many seats are free as do not run. -/
import Derived.Test.YtahkmpbgenpecaaDoorStAw
import Derived.Test.YtahkmpbgenpecaaDoorMsCon
namespace Go.Proofs.YtahkmpbgenpecaaDoor.St
open Go.RowKit Go.Proofs.YtahkmpbgenpecaaDoor.Con Go.Proofs.YtahkmpbgenpecaaDoor.Mk
set_option linter.unusedVariables false
set_option linter.unusedSimpArgs false
attribute [local go_sem ↓] Go.wp_at_zero Go.wp_at_succ
set_option maxHeartbeats 4000000 in
theorem free_walk (hA : Hid AwakeC) (hG : Hid GoodC) (hV : Hid GiveC) (hF : Hid FreeC) (was run : List Int) (v u : Value) (W : World) (h : Is W v was) (h' : Is W u run) (hTab : Hid (Tab W)) :
    Calls Tryd.prog 6 #[v, u] W fun e w' => e = .returned (.bool true) ∧ Nx W w' := by
  obtain ⟨p, cap, rfl, hn, hm⟩ := h.form
  obtain ⟨p', cap', rfl, hn', hm'⟩ := h'.form
  have hmx : (was.length : Int) ≤ 9223372036854775807 := by unfold maxLen at hm; omega
  have hmx' : (run.length : Int) ≤ 9223372036854775807 := by unfold maxLen at hm'; omega
  have H := hide h
  have H' := hide h'
  clear h h'
  go_enter Tryd.func6, Tryd.ntmps6
  go_wp2_with fail
  refine (hA.out _ hTab.out).mono ?_
  rintro ee w1 ⟨rfl, hb⟩
  have B1 := hide hb
  clear hb hA
  by_cases hl : 64 < (was.length : Int)
  · have hl' : decide (64 < (was.length : Int)) = true := decide_eq_true hl
    go_wp2
    go_ret
    exact ⟨rfl, B1.out⟩
  have hl' : decide (64 < (was.length : Int)) = false := decide_eq_false hl
  go_wp2_with fail
  refine (hG.out was run _ _ w1 (H.out.below B1.out) (H'.out.below B1.out) (by omega)).mono ?_
  rintro ee w2 ⟨rfl, hb⟩
  have B2 := hide (Nx.trans B1.out hb)
  clear hb B1
  cases hg : goodS was run with
  | false =>
    clear hg
    go_wp2
    go_ret
    exact ⟨rfl, B2.out⟩
  | true =>
    obtain ⟨⟨_, hw64, hrw⟩, _⟩ := good_parts hg
    have hb1 : (was.length : Int) ≤ 64 := by omega
    have hb2 : (run.length : Int) ≤ (was.length : Int) := by omega
    have hE := give_free hg
    have hgl := give_len hg
    have hgg := give_good hg
    have HV := hide (hV.out was run _ _ w2 (H.out.below B2.out) (H'.out.below B2.out) (by omega) (by omega) (hTab.out.on B2.out))
    clear hg hV H
    generalize giveL was run = now at *
    have HF := hide (fun w x hx => hF.out now x w hx (by omega))
    have HG := hide (fun w x hx hB => hG.out now run x _ w hx (H'.out.below hB) (by omega))
    rw [hgg] at HG
    have HM := hide (freeN_lt now)
    have HL := hide (fun w => len_any (freeN now) w HM.out)
    clear hG hF hgg hw64 hrw HM hgl
    generalize freeN now = fm at *
    generalize lenN fm = q at *
    have hq : ((q : Int) == (was.length : Int) - (run.length : Int)) = true := by simp; omega
    have hs : 0 ≤ (was.length : Int) - (run.length : Int) := by omega
    go_wp2_with fail
    refine HV.out.mono ?_
    rintro ee w3 ⟨x, rfl, hI, hb⟩
    have B3 := hide (Nx.trans B2.out hb)
    have I3 := hide hI.out
    clear hb hI HV B2
    go_wp2_with fail
    refine (HF.out _ _ I3.out).mono ?_
    rintro ee w4 ⟨rfl, hb⟩
    have B4 := hide (Nx.trans B3.out hb)
    have I4 := hide (I3.out.below hb)
    clear hb HF B3 I3
    go_wp2_with fail
    refine (HL.out _).mono ?_
    rintro ee w5 ⟨rfl, rfl⟩
    clear HL
    go_wp2_with fail
    refine (HG.out _ _ I4.out B4.out).mono ?_
    rintro ee w5 ⟨rfl, hb⟩
    have B5 := hide (Nx.trans B4.out hb)
    clear hb HG B4 I4
    go_wp2
    go_ret
    exact ⟨rfl, B5.out⟩
end Go.Proofs.YtahkmpbgenpecaaDoor.St
