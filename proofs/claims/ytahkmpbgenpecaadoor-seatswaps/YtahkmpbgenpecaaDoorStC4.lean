/- Give of the landed code. -/
import Derived.Test.YtahkmpbgenpecaaDoorStC3
namespace Go.Proofs.YtahkmpbgenpecaaDoor.St
open Go.RowKit Go.Proofs.YtahkmpbgenpecaaDoor.Con Go.Proofs.YtahkmpbgenpecaaDoor.Mk
set_option linter.unusedVariables false
set_option linter.unusedSimpArgs false
attribute [local go_sem ↓] Go.wp_at_zero Go.wp_at_succ
/-- The free ones, as ints. -/
def frI (was run : List Int) : List Int := (freeL (baseL was run) 0).map (fun j : Nat => (j : Int))
theorem frI_at {was run : List Int} {j : Nat} (h : j < (freeL (baseL was run) 0).length) : (frI was run).getD j 0 = (((freeL (baseL was run) 0).getD j 0 : Nat) : Int) := by
  unfold frI
  rw [List.getD_eq_getElem?_getD, List.getElem?_map, List.getD_eq_getElem?_getD, List.getElem?_eq_getElem h]; rfl
theorem frI_len (was run : List Int) : (frI was run).length = (freeL (baseL was run) 0).length := by unfold frI; simp
theorem listed {was run : List Int} (h : was.length ≤ 64) {w : World} (hT : Tab w) :
    Calls Tryd.prog 18 #[.int .u64 (freeN (baseL was run))] w fun e w' => ∃ v, e = .returned v ∧ Hid (Oi w.heap.size w' v (frI was run).length (frI was run)) ∧ Nx w w' := by
  refine (list_any (freeN (baseL was run)) w (freeN_lt _) hT).mono ?_
  rintro e w' ⟨v, rfl, h1, hb⟩
  refine ⟨v, rfl, hide ?_, hb⟩
  have e1 : ones (freeN (baseL was run)) = freeL (baseL was run) 0 := ones_free _ (by rw [base_len]; exact h)
  have e2 : numsV (ones (freeN (baseL was run))) = ivs (frI was run) := by
    rw [e1]; unfold numsV ivs frI; rw [List.map_map]; rfl
  have e3 : lenN (freeN (baseL was run)) = (frI was run).length := by
    rw [frI_len]; unfold lenN; rw [e1]
  rw [e2, e3] at h1
  exact h1
set_option maxRecDepth 100000 in
set_option maxHeartbeats 8000000 in
theorem giveC : GiveC := by
  intro was run v u W h h' hl hl' hT
  have HGC := hide (goodC was run v u W h h' hl)
  cases hg : goodS was run with
  | false =>
    have F1 : Hid (giveL was run = []) := hide (by unfold giveL; rw [if_neg (by rw [hg]; decide)])
    have F2 : Hid (giveN was run = 0) := hide (by unfold giveN; rw [if_neg (by rw [hg]; decide)])
    rw [hg] at HGC
    clear hg h h'
    go_enter Tryd.func8, Tryd.ntmps8
    go_wp2_with (go_at_call 14; refine HGC.out.mono ?_; rintro e w2 ⟨rfl, n2⟩; have HN2 := hide n2; clear n2)
    go_ret2
    exact ⟨_, by rw [F2.out]; rfl, hide (by rw [F1.out]; exact Is.nil _), HN2.out⟩
  | true =>
    have HGD := hide hg
    obtain ⟨⟨g1, g64, grw⟩, _⟩ := good_parts hg
    obtain ⟨p, cap, rfl, hn, hm⟩ := h.form
    obtain ⟨p', cap', rfl, hn', hm'⟩ := h'.form
    have H := hide h
    have H' := hide h'
    have HT := hide hT
    rw [hg] at HGC
    clear h h' hT hg
    have HCL := hide (fun w (hN : Nx W w) => clone_any (H.out.below hN) (by omega) (by omega))
    have HLS := hide (fun w (hw : Tab w) => listed (run := run) g64 hw)
    go_enter Tryd.func8, Tryd.ntmps8
    go_wp2_with fail
    refine HGC.out.mono ?_
    rintro e w1 ⟨rfl, n1⟩
    have HC1 := hide (HCL.out w1 n1)
    have HN1 := hide n1
    clear n1 HGC HCL
    go_wp2_with fail
    refine HC1.out.mono ?_
    rintro e w2 ⟨g, c, rfl, HGE0, HO0, n2⟩
    have HGE : Hid (W.heap.size ≤ g) := hide (Nat.le_trans HN1.out.size HGE0.out)
    have HN2 := hide (Nx.trans HN1.out n2)
    have HO := hide (show Oi w1.heap.size w2 (.slice (some ⟨g, 0, none⟩) was.length c) was.length (mixL was run 0) by rw [mix_0]; exact HO0.out)
    clear n2 HC1 HO0 HGE0
    generalize w1.heap.size = bb at *
    go_wp2
    go_loopw [6, 7, 19] (fun _ _ i wr => ∃ k : Nat, k ≤ was.length ∧ i = .int .i64 (k : Int) ∧ Hid (Oi bb wr (.slice (some ⟨g, 0, none⟩) was.length c) was.length (mixL was run k)) ∧ Hid (Nx W wr)) (fun _ _ i _ => was.length - (intOf i).toNat)
    case atStart => exact ⟨0, by omega, rfl, HO, HN2⟩
    case round =>
      clear HO HN2
      obtain ⟨k, hk, rfl, HO, HN⟩ := hrel
      by_cases hkn : k < was.length
      · have hk1 : (k : Int) < (was.length : Int) := by omega
        obtain ⟨b, o, rfl, hb, x0⟩ := (H.out.below HN.out).at hkn
        have HST := hide (mix_step (run := run) hkn)
        have HHA := hide (has_any (H'.out.below HN.out) (was.getD k 0))
        by_cases hin : was.getD k 0 ∈ run
        · rw [if_pos hin] at HST
          rw [decide_eq_true hin] at HHA
          clear hin
          generalize was.getD k 0 = y at *
          go_wp2_with (go_at_call 17; refine HHA.out.mono ?_; rintro e w3 ⟨rfl, n3⟩; have HN3 := hide (Nx.trans HN.out n3); have HO3 := hide (HO.out.bel n3); clear n3)
          go_round
          case rel => exact ⟨k + 1, by omega, by go_num, hide (by rw [HST.out]; exact HO3.out), HN3⟩
          case measure => simp [intOf]; omega
        · rw [if_neg hin] at HST
          rw [decide_eq_false hin] at HHA
          clear hin
          generalize was.getD k 0 = y at *
          go_wp2_with fail
          refine HHA.out.mono ?_
          rintro e w3 ⟨rfl, n3⟩
          have HN3 := hide (Nx.trans HN.out n3)
          have HO3 := hide (HO.out.bel n3)
          clear n3
          obtain ⟨c0, z0, gl⟩ := HO3.out.at hkn
          have HO4 := hide (HO3.out.set hkn (-1))
          have HN4 := hide (nx_set (k := k) HN3.out HGE.out (.int .i64 (-1)))
          generalize (mixL was run k).getD k 0 = y2 at *
          go_wp2
          go_round
          case rel => exact ⟨k + 1, by omega, by go_num, hide (by rw [HST.out]; exact HO4.out), HN4⟩
          case measure => simp [intOf]; omega
      · obtain rfl : k = was.length := by omega
        rw [mix_all] at HO
        have HFR := hide (freeC (baseL was run) _ wr HO.out.is (by rw [base_len]; omega))
        go_wp2_with fail
        refine HFR.out.mono ?_
        rintro e w3 ⟨rfl, n3⟩
        have HN3 := hide (Nx.trans HN.out n3)
        have HO3 := hide (HO.out.bel n3)
        have HL3 := hide (HLS.out w3 (HT.out.on HN3.out))
        have HLT := hide (HO3.out.at (show 0 < was.length by omega)).2.2
        clear n3 HFR HLS HO HN
        go_wp2_with fail
        refine HL3.out.mono ?_
        rintro e w4 ⟨vf, rfl, If, n4⟩
        have HN4 := hide (Nx.trans HN3.out n4)
        have HO4 := hide (show Oi bb w4 (.slice (some ⟨g, 0, none⟩) was.length c) was.length (fill (baseL was run) (othL was (run.take 0))) by rw [show othL was (run.take 0) = [] from rfl, fill_nil]; exact HO3.out.bel n4)
        clear n4 HL3 HO3 HN3
        obtain ⟨pf, cf, rfl, hfn, hfm⟩ := If.out.is.form
        generalize w3.heap.size = b3 at *
        go_wp2
        go_loopw [5, 10, 37] (fun m _ i wr => ∃ k : Nat, k ≤ run.length ∧ i = .int .i64 (k : Int) ∧ m = .int .i64 (((othL was (run.take k)).length : Nat) : Int) ∧ Hid (Oi bb wr (.slice (some ⟨g, 0, none⟩) was.length c) was.length (fill (baseL was run) (othL was (run.take k)))) ∧ Hid (Nx W wr) ∧ Hid (Oi b3 wr (.slice pf (frI was run).length cf) (frI was run).length (frI was run))) (fun _ _ i _ => run.length - (intOf i).toNat)
        case atStart => exact ⟨0, by omega, rfl, rfl, HO4, HN4, If⟩
        case round =>
          clear HO4 HN4 If
          obtain ⟨k, hk, rfl, rfl, HO, HN, HM⟩ := hrel
          by_cases hkn : k < run.length
          · have hk1 : (k : Int) < (run.length : Int) := by omega
            obtain ⟨b, o, rfl, hb, x0⟩ := (H'.out.below HN.out).at hkn
            have HAT := hide (at_any (H.out.below HN.out) (run.getD k 0))
            by_cases hin : run.getD k 0 ∈ was
            · have HST := hide (oth_yes hkn hin)
              have ha : ¬ atI was (run.getD k 0) < 0 := fun e => at_neg e hin
              clear hin
              generalize run.getD k 0 = y at *
              generalize atI was y = z at *
              go_wp2_with (go_at_call 13; refine HAT.out.mono ?_; rintro e w5 ⟨rfl, n5⟩; have HN5 := hide (Nx.trans HN.out n5); have HM5 := hide (HM.out.bel n5); have HO5 := hide (HO.out.bel n5); clear n5)
              go_round
              case rel => exact ⟨k + 1, by omega, by go_num, by rw [HST.out], hide (by rw [HST.out]; exact HO5.out), HN5, HM5⟩
              case measure => simp [intOf]; omega
            · obtain ⟨s1, s2, s3, s4⟩ := give_step HGD.out hkn hin
              have ha : atI was (run.getD k 0) < 0 := by
                rcases Int.lt_or_le (atI was (run.getD k 0)) 0 with e | e
                · exact e
                · exact absurd (at_yes e) hin
              clear hin
              have hq : (othL was (run.take k)).length < (frI was run).length := by rw [frI_len]; exact s1
              have hfr := frI_at s1
              have HS3 := hide s3
              have HS4 := hide s4
              clear s1 s3 s4
              generalize run.getD k 0 = y at *
              generalize atI was y = z at *
              go_wp2_with fail
              refine HAT.out.mono ?_
              rintro e w5 ⟨rfl, n5⟩
              have HN5 := hide (Nx.trans HN.out n5)
              have HM5 := hide (HM.out.bel n5)
              have HO5 := hide (HO.out.bel n5)
              clear n5 HAT HO HN HM
              obtain ⟨bf, of, rfl, hbf, f0⟩ := HM5.out.is.at hq
              rw [hfr] at f0
              obtain ⟨q, hqq⟩ : ∃ q, (freeL (baseL was run) 0).getD (othL was (run.take k)).length 0 = q := ⟨_, rfl⟩
              rw [hqq] at f0 s2 HS3
              clear hqq hfr
              obtain ⟨c0, z0, gl⟩ := HO5.out.at s2
              have HO6 := hide (HO5.out.set s2 y)
              have HN6 := hide (nx_set (k := q) HN5.out HGE.out (.int .i64 y))
              have HM6 : Hid (Oi b3 (w5.setCell ⟨g, q, none⟩ (.int .i64 y)) (.slice (some ⟨bf, of, none⟩) (frI was run).length cf) (frI was run).length (frI was run)) := hide (own_kept HM5.out fun k hk => heap_setCell_other _ ⟨g, q, none⟩ k _ (fun e => by
                have h1 := own_past HM5.out k hk
                have h2 := HLT.out
                have h3 : k = g := e
                omega))
              have hs2 : (q : Int) < (was.length : Int) := by omega
              have hq' : ((othL was (run.take k)).length : Int) < ((frI was run).length : Int) := by omega
              have hob : (othL was (run.take k)).length ≤ 100 := by
                have := List.length_filter_le (fun x => decide (x ∉ was)) (run.take k)
                rw [List.length_take] at this
                unfold othL; omega
              generalize (othL was (run.take k)).length = mm at *
              generalize (fill (baseL was run) (othL was (run.take k))).getD q 0 = y2 at *
              go_wp2
              go_round
              case rel => exact ⟨k + 1, by omega, by go_num, by rw [HS4.out]; go_num, hide (by rw [HS3.out]; exact HO6.out), HN6, HM6⟩
              case measure => simp [intOf]; omega
          · obtain rfl : k = run.length := by omega
            have F1 : Hid (giveL was run = fill (baseL was run) (othL was (run.take run.length))) := hide (by unfold giveL; rw [if_pos HGD.out, List.take_length])
            have F2 : Hid (((giveN was run : Nat) : Int) = (((othL was (run.take run.length)).length : Nat) : Int)) := hide (by unfold giveN; rw [if_pos HGD.out, List.take_length])
            go_wp2
            go_ret2
            exact ⟨_, by rw [F2.out]; rfl, hide (by rw [F1.out]; exact HO.out.is), HN.out⟩
end Go.Proofs.YtahkmpbgenpecaaDoor.St
