/- apart, Good of the landed code. -/
import Derived.Test.YtahkmpbgenpecaaDoorStC2
namespace Go.Proofs.YtahkmpbgenpecaaDoor.St
open Go.RowKit Go.Proofs.YtahkmpbgenpecaaDoor.Con Go.Proofs.YtahkmpbgenpecaaDoor.Mk
set_option linter.unusedVariables false
set_option linter.unusedSimpArgs false
attribute [local go_sem ↓] Go.wp_at_zero Go.wp_at_succ
set_option maxHeartbeats 4000000 in
theorem goodC : GoodC := by
  intro was run v u W h h' hl
  obtain ⟨p, cap, rfl, hn, hm⟩ := h.form
  obtain ⟨p', cap', rfl, hn', hm'⟩ := h'.form
  have HG := hide (good_eq was run)
  have HA := hide (apart_any h hl (-1) (.inl rfl))
  have HR := hide (fun (hr : run.length ≤ 100) w (hB : Nx W w) => apart_any (h'.below hB) hr 0 (.inr rfl))
  clear h h'
  by_cases h1 : 1 ≤ was.length
  rotate_left
  · have FE : Hid (goodS was run = false) := hide (by rw [HG.out, decide_eq_false h1]; rfl)
    have h1' : ¬ (1 : Int) ≤ (was.length : Int) := by omega
    go_enter Tryd.func14, Tryd.ntmps14
    go_wp2
    go_ret
    exact ⟨ret_bool FE.out.symm, Nx.refl _⟩
  have h1' : (1 : Int) ≤ (was.length : Int) := by omega
  by_cases h2 : was.length ≤ 64
  rotate_left
  · have FE : Hid (goodS was run = false) := hide (by rw [HG.out, decide_eq_true h1, decide_eq_false h2]; rfl)
    have h2' : ¬ (was.length : Int) ≤ 64 := by omega
    go_enter Tryd.func14, Tryd.ntmps14
    go_wp2
    go_ret
    exact ⟨ret_bool FE.out.symm, Nx.refl _⟩
  have h2' : (was.length : Int) ≤ 64 := by omega
  by_cases h3 : run.length ≤ was.length
  rotate_left
  · have FE : Hid (goodS was run = false) := hide (by rw [HG.out, decide_eq_true h1, decide_eq_true h2, decide_eq_false h3]; rfl)
    have h3' : ¬ (run.length : Int) ≤ (was.length : Int) := by omega
    go_enter Tryd.func14, Tryd.ntmps14
    go_wp2
    go_ret
    exact ⟨ret_bool FE.out.symm, Nx.refl _⟩
  have h3' : (run.length : Int) ≤ (was.length : Int) := by omega
  have HR2 := hide (HR.out (by omega))
  rw [decide_eq_true h1, decide_eq_true h2, decide_eq_true h3, Bool.true_and, Bool.true_and, Bool.true_and] at HG
  clear HR
  cases ha : apartB was (-1) with
  | false =>
    rw [ha] at HA
    have FE : Hid (goodS was run = false) := hide (by rw [HG.out, ha]; rfl)
    clear ha
    go_enter Tryd.func14, Tryd.ntmps14
    go_wp2_with (go_at_call 21; refine HA.out.mono ?_; rintro e w2 ⟨rfl, n2⟩; have HN2 := hide n2; clear n2)
    go_ret
    exact ⟨ret_bool FE.out.symm, HN2.out⟩
  | true =>
    rw [ha] at HA
    have FE : Hid (goodS was run = apartB run 0) := hide (by rw [HG.out, ha]; rfl)
    clear ha
    go_enter Tryd.func14, Tryd.ntmps14
    go_wp2_with fail
    refine HA.out.mono ?_
    rintro e w2 ⟨rfl, n2⟩
    have HN2 := hide n2
    have HR3 := hide (HR2.out w2 n2)
    clear n2 HR2 HA
    generalize apartB run 0 = ar at *
    go_wp2_with fail
    refine HR3.out.mono ?_
    rintro e w3 ⟨rfl, n3⟩
    have HN3 := hide (Nx.trans HN2.out n3)
    clear n3
    go_wp2
    go_ret
    exact ⟨ret_bool FE.out.symm, HN3.out⟩
end Go.Proofs.YtahkmpbgenpecaaDoor.St
