/- Swap of the landed code; the example that the laws ask first. -/
import Derived.Test.YtahkmpbgenpecaaDoorStC4
namespace Go.Proofs.YtahkmpbgenpecaaDoor.St
open Go.RowKit Go.Proofs.YtahkmpbgenpecaaDoor.Con Go.Proofs.YtahkmpbgenpecaaDoor.Mk
set_option linter.unusedVariables false
set_option linter.unusedSimpArgs false
attribute [local go_sem ↓] Go.wp_at_zero Go.wp_at_succ
set_option maxRecDepth 100000 in
set_option maxHeartbeats 8000000 in
theorem swapC : SwapC := by
  intro was cpu id v W h hl
  have HGC := hide (goodC was [] v (.slice none 0 0) W h (Is.nil W) hl)
  obtain ⟨p, cap, rfl, hn, hm⟩ := h.form
  have H := hide h
  clear h
  cases hw : goodW was cpu id with
  | false =>
    have F1 : Hid (swapL was cpu id = []) := hide (by unfold swapL; rw [if_neg (by rw [hw]; decide)])
    have F2 : Hid (swapI was cpu id = -1) := hide (by unfold swapI; rw [if_neg (by rw [hw]; decide)])
    have HN := hide (Is.nil W)
    unfold goodW at hw
    by_cases h1 : cpu < 0
    · clear HGC hw
      go_enter Tryd.func9, Tryd.ntmps9
      go_wp2
      go_ret2
      exact ⟨_, by rw [F2.out]; rfl, hide (by rw [F1.out]; exact Is.nil _), Nx.refl _⟩
    by_cases h2 : cpu ≥ (was.length : Int)
    · clear HGC hw
      go_enter Tryd.func9, Tryd.ntmps9
      go_wp2
      go_ret2
      exact ⟨_, by rw [F2.out]; rfl, hide (by rw [F1.out]; exact Is.nil _), Nx.refl _⟩
    by_cases h3 : id < -1
    · clear HGC hw
      go_enter Tryd.func9, Tryd.ntmps9
      go_wp2
      go_ret2
      exact ⟨_, by rw [F2.out]; rfl, hide (by rw [F1.out]; exact Is.nil _), Nx.refl _⟩
    by_cases h4 : id ≥ 1024
    · clear HGC hw
      go_enter Tryd.func9, Tryd.ntmps9
      go_wp2
      go_ret2
      exact ⟨_, by rw [F2.out]; rfl, hide (by rw [F1.out]; exact Is.nil _), Nx.refl _⟩
    have hg : goodS was [] = false := by
      rw [decide_eq_true (show 0 ≤ cpu ∧ cpu < was.length ∧ -1 ≤ id ∧ id ≤ 1023 by omega)] at hw
      exact hw
    rw [hg] at HGC
    clear hw hg
    go_enter Tryd.func9, Tryd.ntmps9
    go_wp2_with (go_at_call 14; refine HGC.out.mono ?_; rintro e w2 ⟨rfl, n2⟩; have HN2 := hide n2; clear n2)
    go_ret2
    exact ⟨_, by rw [F2.out]; rfl, hide (by rw [F1.out]; exact Is.nil _), HN2.out⟩
  | true =>
    have F1 := hide (swap_eq hw)
    have F2 : Hid (swapI was cpu id = was.getD cpu.toNat 0) := hide (by unfold swapI; rw [if_pos hw])
    unfold goodW at hw
    rw [Bool.and_eq_true, decide_eq_true_eq] at hw
    obtain ⟨⟨h1, h2, h3, h4⟩, hg⟩ := hw
    rw [hg] at HGC
    clear hg
    obtain ⟨cp, rfl⟩ : ∃ cp : Nat, cpu = (cp : Int) := ⟨cpu.toNat, by omega⟩
    rw [Int.toNat_natCast] at F1 F2
    have hcp : cp < was.length := by omega
    have h5 : ¬ (cp : Int) < 0 := by omega
    have h6 : ¬ (cp : Int) ≥ (was.length : Int) := by omega
    have h7 : ¬ id < -1 := by omega
    have h8 : ¬ id ≥ 1024 := by omega
    have HCL := hide (fun w (hN : Nx W w) => clone_any (H.out.below hN) (by omega) (by omega))
    have HAT := hide (fun w (hN : Nx W w) => at_any (H.out.below hN) id)
    have HAR := hide (fun (hz : 0 ≤ atI was id) => at_nonneg hz)
    go_enter Tryd.func9, Tryd.ntmps9
    go_wp2_with fail
    refine HGC.out.mono ?_
    rintro e w1 ⟨rfl, n1⟩
    have HC1 := hide (HCL.out w1 n1)
    have HN1 := hide n1
    clear n1 HGC HCL
    go_wp2_with fail
    refine HC1.out.mono ?_
    rintro e w2 ⟨g, c, rfl, HGE0, HO0, n2⟩
    have HGE : Hid (W.heap.size ≤ g) := hide (Nat.le_trans HN1.out.size HGE0.out)
    have HN2 := hide (Nx.trans HN1.out n2)
    have HA2 := hide (HAT.out w2 HN2.out)
    clear n2 HC1 HGE0 HAT
    generalize w1.heap.size = bb at *
    go_wp2_with fail
    refine HA2.out.mono ?_
    rintro e w3 ⟨rfl, n3⟩
    have HN3 := hide (Nx.trans HN2.out n3)
    have HO3 := hide (HO0.out.bel n3)
    clear n3 HA2 HO0 HN2
    by_cases ha : 0 ≤ atI was id
    · obtain ⟨k, ek, hk⟩ := HAR.out ha
      have hkl : k < was.length := (List.getElem?_eq_some_iff.1 hk).1
      rw [if_pos ha, ek, Int.toNat_natCast] at F1
      rw [ek]
      clear HAR ha hk ek
      have hk1 : (k : Int) < (was.length : Int) := by omega
      obtain ⟨c0, z0, gl⟩ := HO3.out.at hkl
      have HO4 := hide (HO3.out.set hkl (-1))
      have HN4 := hide (nx_set (k := k) HN3.out HGE.out (.int .i64 (-1)))
      obtain ⟨c1, z1, gl1⟩ := HO4.out.at hcp
      have HO5 := hide (HO4.out.set hcp id)
      have HN5 := hide (nx_set (k := cp) HN4.out HGE.out (.int .i64 id))
      obtain ⟨b, o, rfl, hb, x0⟩ := (H.out.below HN5.out).at hcp
      rw [← F2.out] at x0
      clear HN4 HN3 HO4 HO3
      generalize was.getD k 0 = y1 at *
      generalize (was.set k (-1)).getD cp 0 = y2 at *
      obtain ⟨sw, hsw⟩ : ∃ sw, swapI was (cp : Int) id = sw := ⟨_, rfl⟩
      have HSW := hide hsw
      rw [hsw] at x0
      clear hsw F2
      go_wp2
      go_quiet (fail)
      go_wp2
      go_ret2
      exact ⟨.slice (some ⟨g, 0, none⟩) was.length c, by rw [HSW.out]; rfl, hide (by rw [F1.out]; exact HO5.out.is.below (bel_drewN (Nx.refl _) _)), bel_drewN HN5.out _⟩
    · rw [if_neg ha] at F1
      clear HAR
      obtain ⟨c1, z1, gl1⟩ := HO3.out.at hcp
      have HO5 := hide (HO3.out.set hcp id)
      have HN5 := hide (nx_set (k := cp) HN3.out HGE.out (.int .i64 id))
      obtain ⟨b, o, rfl, hb, x0⟩ := (H.out.below HN5.out).at hcp
      rw [← F2.out] at x0
      clear HN3 HO3
      generalize was.getD cp 0 = y2 at *
      obtain ⟨sw, hsw⟩ : ∃ sw, swapI was (cp : Int) id = sw := ⟨_, rfl⟩
      have HSW := hide hsw
      rw [hsw] at x0
      clear hsw F2
      generalize atI was id = z at *
      go_wp2
      go_quiet (fail)
      go_wp2
      go_ret2
      exact ⟨.slice (some ⟨g, 0, none⟩) was.length c, by rw [HSW.out]; rfl, hide (by rw [F1.out]; exact HO5.out.is.below (bel_drewN (Nx.refl _) _)), bel_drewN HN5.out _⟩
theorem awakeC : AwakeC := awake_of (hide goodC) (hide giveC)
end Go.Proofs.YtahkmpbgenpecaaDoor.St
