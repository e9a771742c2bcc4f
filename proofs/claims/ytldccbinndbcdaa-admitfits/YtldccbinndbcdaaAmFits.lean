/- AdmitFits: at each moment all that are counted fit. -/
import Derived.Test.YtldccbinndbcdaaAmAsks
namespace Go.Proofs.Ytldccbinndbcdaa.Am
open Go.RowKit Go.Proofs.Ytldccbinndbcdaa.Con Go.Proofs.Ytldccbinndbcdaa.Wn Go.Proofs.Ytldccbinndbcdaa.Fp
set_option linter.unusedVariables false
set_option linter.unusedSimpArgs false
attribute [local go_sem ↓] Go.wp_at_zero Go.wp_at_succ
theorem flat_prs (l : List En) (k : Nat) (h : k < l.length) : flat (prs (l.take (k + 1))) = flat (prs (l.take k)) ++ [.int .i64 (atE l k).pr.1, .int .i64 (atE l k).pr.2] := by
  rw [takeE_snoc l k h, prs_app, flat_app]; rfl
theorem enter_cpus {s : Bs} {id : Int} {x : Pr} {now : Int} : (enter s id x now).cpus = s.cpus := by unfold enter; split <;> rfl
theorem leave_cpus {s : Bs} {id till now : Int} : (leave s id till now).cpus = s.cpus := by unfold leave; split <;> rfl
theorem change_cpus {s : Bs} {id : Int} {x : Pr} {now : Int} : (change s id x now).cpus = s.cpus := by unfold change; split <;> rfl
theorem change_outs {s : Bs} {id : Int} {x : Pr} {now : Int} : (change s id x now).outs = s.outs := by unfold change; split <;> rfl
theorem own_nx {w w' : World} {B e n : Nat} {v : Value} {xs : List Value} (h : w.ownsRow B e 2 v n xs) (hB : Nx w w') : w'.ownsRow B e 2 v n xs := own_kept h (fun k hk => hB.block k (own_lt h k hk))
theorem own_form2 {w : World} {B e n : Nat} {v : Value} {xs : List Value} (h : w.ownsRow B e 2 v n xs) : ∃ p c, v = .slice p n c := own_form h
/-- A row of pairs that grows out of entries. -/
def Gr (W w : World) (v : Value) (L : List Pr) : Prop := w.ownsRow W.heap.size 28 2 v L.length (flat L) ∧ Nx W w
/-- What the law keeps from round to round. -/
def Kp (I : BkI) (W w : World) (b : Nat) (c : Int) (t : Int) (k : Nat) : Prop := ∃ s, At I W w b s ∧ Fit s t ∧ s.outs.length ≤ k ∧ s.cpus = c
set_option maxHeartbeats 16000000 in
set_option maxRecDepth 100000 in
theorem fits_walk {I : BkI} (K : Hid (Bk I)) (hA : Hid AwakeC) (hAl : Hid AllC) (c : Int) (lp : Option Addr) (N cap : Nat) (Z : Nat → Nat → Int) (W : World) (hcl : Acts W lp N Z) :
    Calls Try.prog 5 #[.int .i64 c, .slice lp N cap] W fun e w' => e = .returned (.bool true) ∧ Nx W w' := by
  have HCL := hide hcl
  clear hcl
  go_enter Try.func5, Try.ntmps5
  go_wp2_with fail
  refine (hA.out _).mono ?_
  rintro e w1 ⟨rfl, hb⟩
  have B1 := hide hb
  clear hb
  by_cases hc : 1 ≤ c ∧ c ≤ 64
  rotate_left
  · go_wp2_with fail
    refine (at_not K.out (Nx.refl w1) hc).mono ?_
    rintro e w2 ⟨rfl, hb⟩
    have B2 := hide (Nx.trans B1.out hb)
    go_wp2
    go_ret
    exact ⟨rfl, B2.out⟩
  go_wp2_with fail
  refine (at_new K.out (Nx.refl w1) hc).mono ?_
  rintro e w2 ⟨b, rfl, hb⟩
  have A2 := hide hb.out
  clear hb
  by_cases hN : 60 < (N : Int)
  · have B2 := hide (Nx.trans B1.out A2.out.nx)
    go_wp2
    go_ret
    exact ⟨rfl, B2.out⟩
  have dN : decide (60 < (N : Int)) = false := decide_eq_false hN
  have hN40 : N ≤ 60 := by omega
  go_wp2
  go_loopw [7, 8, 9, 10, 11, 12, 13, 14, 15, 16] (fun t i _ _ _ _ _ _ _ _ wr => ∃ k : Nat, k ≤ N ∧ i = .int .i64 k ∧ ∃ t' : Int, t = .int .i64 t' ∧ (0 ≤ t' ∧ t' ≤ 1073741824 * (k : Int)) ∧ Hid (Kp I w1 wr b c t' k)) (fun _ i _ _ _ _ _ _ _ _ _ => N - (intOf i).toNat)
  case atStart => exact ⟨0, by omega, rfl, 0, rfl, by omega, hide ⟨_, A2.out, fit_new hc, by simp, rfl⟩⟩
  case round =>
    obtain ⟨k, hk, rfl, t, rfl, ⟨ht0, ht1⟩, HK⟩ := hrel
    by_cases hkn : k < N
    rotate_left
    · obtain rfl : k = N := by omega
      obtain ⟨s, hA1, _⟩ := HK.out
      have B2 := hide (Nx.trans B1.out hA1.nx)
      go_wp2
      go_ret
      exact ⟨rfl, B2.out⟩
    have hk1 : (k : Int) < (N : Int) := by omega
    obtain ⟨b0, o0, rfl, hcells⟩ := HCL.out.at hkn
    have HKX : Hid (∃ s, At I w1 wr b s ∧ Fit s t ∧ s.outs.length ≤ k ∧ s.cpus = c) := hide HK.out
    obtain ⟨s, hA1, hF1, hso, hcp⟩ := HKX.out
    have HA := hide hA1
    have HF := hide hF1
    obtain ⟨x0, x1, x2, x3, x4, x5⟩ := hcells wr (Nx.trans B1.out hA1.nx)
    clear hcells HK HKX hA1 hF1
    generalize Z k 0 = z0 at *
    generalize Z k 1 = z1 at *
    generalize Z k 2 = z2 at *
    generalize Z k 3 = z3 at *
    generalize Z k 4 = z4 at *
    generalize Z k 5 = z5 at *
    have HA' := hide (HA.out.on K.out (Nx.alloc wr (.cells #[.int .i64 z0, .int .i64 z1, .int .i64 z2, .int .i64 z3, .int .i64 z4, .int .i64 z5] 41)))
    have r0 := heap_alloc_new wr (.cells #[.int .i64 z0, .int .i64 z1, .int .i64 z2, .int .i64 z3, .int .i64 z4, .int .i64 z5] 41)
    go_upto_region 11 with fail
    clear x0 x1 x2 x3 x4 x5
    generalize wr.alloc (.cells #[.int .i64 z0, .int .i64 z1, .int .i64 z2, .int .i64 z3, .int .i64 z4, .int .i64 z5] 41) = wa at *
    generalize wr.heap.size = g at *
    have x0 : wa.cell? ⟨g, 0, none⟩ = some (.int .i64 z0) := (cell_of_row wa g 0 _ _ _ r0).trans rfl
    have x1 : wa.cell? ⟨g, 1, none⟩ = some (.int .i64 z1) := (cell_of_row wa g 1 _ _ _ r0).trans rfl
    have x2 : wa.cell? ⟨g, 2, none⟩ = some (.int .i64 z2) := (cell_of_row wa g 2 _ _ _ r0).trans rfl
    have x3 : wa.cell? ⟨g, 3, none⟩ = some (.int .i64 z3) := (cell_of_row wa g 3 _ _ _ r0).trans rfl
    have x4 : wa.cell? ⟨g, 4, none⟩ = some (.int .i64 z4) := (cell_of_row wa g 4 _ _ _ r0).trans rfl
    have x5 : wa.cell? ⟨g, 5, none⟩ = some (.int .i64 z5) := (cell_of_row wa g 5 _ _ _ r0).trans rfl
    clear r0
    go_cut [48] from 31 to 139 (fun s wx => s = .bool (decide (0 < z4 ∧ z4 < 1073741824)) ∧ wx = wa)
    case first => as_aux_lemma =>
      by_cases hz4 : 0 < z4
      · by_cases hz5 : z4 < 1073741824
        · have D : Hid (decide (0 < z4 ∧ z4 < 1073741824) = true) := hide (decide_eq_true ⟨hz4, hz5⟩)
          go_wp2
          go_meet
          case rel => exact ⟨by rw [D.out], rfl⟩
        · have D : Hid (decide (0 < z4 ∧ z4 < 1073741824) = false) := hide (decide_eq_false fun h => hz5 h.2)
          go_wp2
          go_meet
          case rel => exact ⟨by rw [D.out], rfl⟩
      · have D : Hid (decide (0 < z4 ∧ z4 < 1073741824) = false) := hide (decide_eq_false fun h => hz4 h.1)
        go_wp2
        go_meet
        case rel => exact ⟨by rw [D.out], rfl⟩
    case rest => as_aux_lemma =>
      obtain ⟨rfl, hw⟩ := hcut
      have hw2 := hw.symm; clear hw; subst hw2
      have AB : Hid (decide (0 < z4 ∧ z4 < 1073741824) = true → 0 < z4 ∧ z4 < 1073741824) := hide (fun h => of_decide_eq_true h)
      generalize decide (0 < z4 ∧ z4 < 1073741824) = BB at *
      go_upto_if 48 with fail
      go_cut [7] from 31 to 139 (fun s wx => ∃ t2, s = .int .i64 t2 ∧ (t ≤ t2 ∧ t2 ≤ t + 1073741824) ∧ wx = wa)
      case first => as_aux_lemma =>
        cases BB with
        | true =>
          have hb := AB.out rfl
          clear AB
          go_wp2
          go_meet
          case rel => exact ⟨_, rfl, by omega, rfl⟩
        | false =>
          clear AB
          go_wp2
          go_meet
          case rel => exact ⟨_, rfl, by omega, rfl⟩
      case rest => as_aux_lemma =>
        obtain ⟨t2, rfl, ⟨ht2, ht3⟩, hw⟩ := hcut
        have hw2 := hw.symm; clear hw; subst hw2
        clear AB
        have HF2 := hide (fit_later ht2 HF.out)
        have ht4 : 0 ≤ t2 ∧ t2 ≤ 1073741824 * ((k : Int) + 1) := by omega
        clear HF HA
        go_upto_block 2 with fail
        go_cut [7] from 31 to 139 (fun s wx => s = .int .i64 t2 ∧ Hid (Kp I w1 wx b c t2 (k + 1)))
        case first => as_aux_lemma =>
          by_cases h0 : z0 = 0
          · subst h0
            have HE := hide (at_enter K.out HA'.out z1 (z2, z3) t2)
            go_wp2_with fail
            refine HE.out.mono ?_
            rintro e w5 ⟨rfl, hA5⟩
            have HK5 := hide (show Kp I w1 w5 b c t2 (k + 1) from ⟨_, hA5.out, fit_enter HF2.out, by rw [enter_outs]; omega, by rw [enter_cpus]; exact hcp⟩)
            clear hA5
            go_wp2
            go_meet
            case rel => exact ⟨rfl, HK5⟩
          have h0' : (z0 == 0) = false := by simp [h0]
          by_cases h1 : z0 = 1
          · subst h1
            by_cases hz : 0 ≤ z5
            · by_cases hz2 : z5 < 1099511627776
              · have HE := hide (at_leave K.out HA'.out z1 (t2 + z5) t2 (by omega))
                have hwz : IntKind.i64.wrap (t2 + z5) = t2 + z5 := by rw [IntKind.wrap_i64]; omega
                go_wp2_with fail
                refine HE.out.mono ?_
                rintro e w5 ⟨rfl, hA5⟩
                have HK5 := hide (show Kp I w1 w5 b c t2 (k + 1) from ⟨_, hA5.out, fit_leave HF2.out, by have := leave_outs (s := s) (id := z1) (till := t2 + z5) (now := t2); omega, by rw [leave_cpus]; exact hcp⟩)
                clear hA5
                go_wp2
                go_meet
                case rel => exact ⟨rfl, HK5⟩
              · have HK5 := hide (show Kp I w1 wa b c t2 (k + 1) from ⟨_, HA'.out, HF2.out, by omega, hcp⟩)
                go_wp2
                go_meet
                case rel => exact ⟨rfl, HK5⟩
            · have HK5 := hide (show Kp I w1 wa b c t2 (k + 1) from ⟨_, HA'.out, HF2.out, by omega, hcp⟩)
              go_wp2
              go_meet
              case rel => exact ⟨rfl, HK5⟩
          · have h1' : (z0 == 1) = false := by simp [h1]
            have HE := hide (at_change K.out HA'.out z1 (z2, z3) t2)
            go_wp2_with fail
            refine HE.out.mono ?_
            rintro e w5 ⟨rfl, hA5⟩
            have HK5 := hide (show Kp I w1 w5 b c t2 (k + 1) from ⟨_, hA5.out, fit_change HF2.out, by rw [change_outs]; omega, by rw [change_cpus]; exact hcp⟩)
            clear hA5
            go_wp2
            go_meet
            case rel => exact ⟨rfl, HK5⟩
        case rest => as_aux_lemma =>
          obtain ⟨rfl, HK⟩ := hcut
          clear x0 x1 x2 x3 x4 x5 HA' HF2 hso hcp
          have HKX : Hid (∃ s, At I w1 wc b s ∧ Fit s t2 ∧ s.outs.length ≤ k + 1 ∧ s.cpus = c) := hide HK.out
          obtain ⟨s', hA1, hF1, hso, hcp⟩ := HKX.out
          have HLI := hide (at_live K.out hA1)
          have HLG := hide (fun w (h : At I w1 w b s') => at_lingers K.out h t2)
          have HCT := hide hF1
          have hsm := hA1.small
          clear HKX hA1 hF1
          go_wp2_with fail
          refine HLI.out.mono ?_
          rintro e w5 ⟨v5, rfl, hE5, hA5, _⟩
          go_wp2_with fail
          refine (HLG.out _ hA5.out).mono ?_
          rintro e w6 ⟨v6, rfl, hE6, hA6, hN6⟩
          have E5 := hide (hE5.out.below hN6)
          have E6 := hide hE6.out
          have A6 := hide hA6.out
          obtain ⟨p5, cap5, rfl, hn5, hm5⟩ := E5.out.form
          obtain ⟨p6, cap6, rfl, hn6, hm6⟩ := E6.out.form
          clear hE5 hA5 hE6 hA6 hN6 HLI HLG
          have hl32 := hsm.1
          have hl500 : (lingers s' t2).length ≤ 500 := Nat.le_trans (lingers_len s' t2) hsm.2
          have HALL := hide (hAl.out c (counted s' t2))
          have hpb := all_pairs HCT.out.1
          have e0 := (all_0 hpb).1
          have e1 := HCT.out.1
          rw [hcp] at e0 e1
          rw [e0, e1] at HALL
          have hcl := (pairs_iff.1 hpb).2.1
          have hcl2 : s'.ins.length + (lingers s' t2).length ≤ 64 := by
            have : (counted s' t2).length = s'.ins.length + (lingers s' t2).length := by unfold counted; rw [List.length_append, prs_len, prs_len]
            omega
          have ecl : Hid (flat (counted s' t2) = flat (prs s'.ins) ++ flat (prs (lingers s' t2)) ∧ (counted s' t2).length = s'.ins.length + (lingers s' t2).length) := hide ⟨by unfold counted; rw [flat_app], by unfold counted; rw [List.length_append, prs_len, prs_len]⟩
          have HK6 := hide (show Kp I w1 w6 b c t2 (k + 1) from ⟨s', A6.out, HCT.out, hso, hcp⟩)
          have hS5 : Hid (∀ j, j < s'.ins.length → flat (prs (s'.ins.take (j + 1))) = flat (prs (s'.ins.take j)) ++ [.int .i64 (atE s'.ins j).pr.1, .int .i64 (atE s'.ins j).pr.2]) := hide (fun j hj => flat_prs _ j hj)
          have hF5 : Hid (flat (prs (s'.ins.take s'.ins.length)) = flat (prs s'.ins)) := hide (by rw [List.take_length])
          have KPN : Hid (∀ w', Nx w6 w' → Kp I w1 w' b c t2 (k + 1)) := hide (fun w' hB => ⟨s', A6.out.on K.out hB, HCT.out, hso, hcp⟩)
          generalize lingers s' t2 = LG at *
          generalize s'.ins = LV at *
          clear e0 e1 hpb hcl HCT HK6 A6 hso hcp hsm
          have hS6 : Hid (∀ j, j < LG.length → flat (prs (LG.take (j + 1))) = flat (prs (LG.take j)) ++ [.int .i64 (atE LG j).pr.1, .int .i64 (atE LG j).pr.2]) := hide (fun j hj => flat_prs _ j hj)
          have hF6 : Hid (flat (prs (LG.take LG.length)) = flat (prs LG)) := hide (by rw [List.take_length])
          have dl : decide (32 < (LV.length : Int)) = false := decide_eq_false (by omega)
          go_wp2
          go_loopw [10, 13] (fun r i wr => ∃ j : Nat, j ≤ LV.length ∧ i = .int .i64 j ∧ Hid (wr.ownsRow w6.heap.size 28 2 r j (flat (prs (LV.take j)))) ∧ Hid (Nx w6 wr)) (fun _ i _ => LV.length - (intOf i).toNat)
          case atStart => exact ⟨0, by omega, rfl, hide (World.ownsRow_nil _ _ _ _), hide (Nx.refl _)⟩
          case round => as_aux_lemma =>
            obtain ⟨j, hj, rfl, HO, HB⟩ := hrel
            obtain ⟨p0, c0, rfl⟩ := own_form HO.out
            by_cases hjn : j < LV.length
            · have hj1 : (j : Int) < (LV.length : Int) := by omega
              obtain ⟨be, oe, rfl, hbe, _, q1, q2, _⟩ := (E5.out.below HB.out).at hjn
              have hs := hide (hS5.out j hjn)
              generalize (atE LV j).pr.1 = y at *
              generalize (atE LV j).pr.2 = y' at *
              have OW : Hid ((wr.alloc (.cells #[.int .i64 y, .int .i64 y'] 28)).ownsRow w6.heap.size 28 2 (.slice p0 j c0) j (flat (prs (LV.take j)))) := hide (HO.out.alloc _)
              have RD : Hid (RdC (wr.alloc (.cells #[.int .i64 y, .int .i64 y'] 28)) (wr.heap.size + 1) 2 (.slice (some ⟨wr.heap.size, 0, none⟩) 1 1) 1 [.int .i64 y, .int .i64 y']) := hide (by
                have := rd_one (w := (wr.alloc (.cells #[.int .i64 y, .int .i64 y'] 28))) (size := 2) (heap_alloc_new wr _) rfl
                simpa using this)
              have BD : Hid (Below w6.heap.size w6 (wr.alloc (.cells #[.int .i64 y, .int .i64 y'] 28))) := hide (bel_alloc HB.out (Nat.le_refl _) _)
              generalize hFF : (flat (prs (LV.take j))) = F at *
              go_wp2_with (at_builtin; refine wpList_append_rd (w := wr.alloc (.cells #[.int .i64 y, .int .i64 y'] 28)) rfl _ _ 48 rfl rfl rfl Try.underlying48 infoPr rfl (by decide) (by decide) OW.out BD.out.size RD.out (by intro u hu; simp at hu; rcases hu with rfl | rfl <;> rfl) (by omega) ?_; intro p7 c7 w7 HA7; refine Hid.out ?_)
              refine hide ?_
              have HB7 := hide (below_grown BD.out BD.out.size HA7.out.2 (own_past OW.out))
              have HO7 : Hid (w7.ownsRow w6.heap.size 28 2 (.slice p7 (j + 1) c7) (j + 1) (flat (prs (LV.take (j + 1))))) := hide (by have h := HA7.out.1; rw [hs.out]; exact h)
              clear HA7 BD RD OW HO HB hs hFF
              go_wp2
              go_roundw
              case rel => exact ⟨j + 1, by omega, by go_num, HO7, HB7⟩
              case measure => simp [intOf]; omega
            · obtain rfl : j = LV.length := by omega
              have hO2 := HO.out
              rw [hF5.out] at hO2
              have HO2 : Hid (wr.ownsRow w6.heap.size 28 2 (.slice p0 LV.length c0) (LV.length + 0) (flat (prs LV) ++ flat (prs (LG.take 0)))) := hide (by simpa [prs, flat] using hO2)
              clear hO2 HO hS5 hF5
              have E6' := hide (E6.out)
              go_wp2
              go_loopw [10, 14] (fun r i wr => ∃ j : Nat, j ≤ LG.length ∧ i = .int .i64 j ∧ Hid (wr.ownsRow w6.heap.size 28 2 r (LV.length + j) (flat (prs LV) ++ flat (prs (LG.take j)))) ∧ Hid (Nx w6 wr)) (fun _ i _ => LG.length - (intOf i).toNat)
              case atStart => exact ⟨0, by omega, rfl, HO2, HB⟩
              case round => as_aux_lemma =>
                clear HO2 HB
                obtain ⟨j, hj, rfl, HO, HB⟩ := hrel
                obtain ⟨p0, c0, rfl⟩ := own_form HO.out
                by_cases hjn : j < LG.length
                · have hj1 : (j : Int) < (LG.length : Int) := by omega
                  obtain ⟨be, oe, rfl, hbe, _, q1, q2, _⟩ := (E6'.out.below HB.out).at hjn
                  have hs := hide (hS6.out j hjn)
                  generalize (atE LG j).pr.1 = y at *
                  generalize (atE LG j).pr.2 = y' at *
                  have OW : Hid ((wr.alloc (.cells #[.int .i64 y, .int .i64 y'] 28)).ownsRow w6.heap.size 28 2 (.slice p0 (LV.length + j) c0) (LV.length + j) (flat (prs LV) ++ flat (prs (LG.take j)))) := hide (HO.out.alloc _)
                  have RD : Hid (RdC (wr.alloc (.cells #[.int .i64 y, .int .i64 y'] 28)) (wr.heap.size + 1) 2 (.slice (some ⟨wr.heap.size, 0, none⟩) 1 1) 1 [.int .i64 y, .int .i64 y']) := hide (by
                    have := rd_one (w := (wr.alloc (.cells #[.int .i64 y, .int .i64 y'] 28))) (size := 2) (heap_alloc_new wr _) rfl
                    simpa using this)
                  have BD : Hid (Below w6.heap.size w6 (wr.alloc (.cells #[.int .i64 y, .int .i64 y'] 28))) := hide (bel_alloc HB.out (Nat.le_refl _) _)
                  generalize hFF : (flat (prs LV) ++ flat (prs (LG.take j))) = F at *
                  go_wp2_with (at_builtin; refine wpList_append_rd (w := wr.alloc (.cells #[.int .i64 y, .int .i64 y'] 28)) rfl _ _ 48 rfl rfl rfl Try.underlying48 infoPr rfl (by decide) (by decide) OW.out BD.out.size RD.out (by intro u hu; simp at hu; rcases hu with rfl | rfl <;> rfl) (by omega) ?_; intro p7 c7 w7 HA7; refine Hid.out ?_)
                  refine hide ?_
                  have HB7 := hide (below_grown BD.out BD.out.size HA7.out.2 (own_past OW.out))
                  have HO7 : Hid (w7.ownsRow w6.heap.size 28 2 (.slice p7 ((LV.length + j) + 1) c7) (LV.length + (j + 1)) (flat (prs LV) ++ flat (prs (LG.take (j + 1))))) := hide (by have h := HA7.out.1; rw [hs.out, ← List.append_assoc, hFF]; exact h)
                  clear HA7 BD RD OW HO HB hs hFF
                  go_wp2
                  go_roundw
                  case rel => exact ⟨j + 1, by omega, by go_num, HO7, HB7⟩
                  case measure => simp [intOf]; omega
                · obtain rfl : j = LG.length := by omega
                  have hO2 := HO.out
                  rw [hF6.out, ← ecl.out.1, ← ecl.out.2] at hO2
                  have HSL := hide (Sl.own hO2)
                  rw [ecl.out.2] at HSL
                  have KP := hide (KPN.out _ HB.out)
                  clear hO2 HO hS6 hF6
                  go_wp2_with fail
                  refine (HALL.out _ _ HSL.out).mono ?_
                  rintro e w8 ⟨rfl, hb8⟩
                  have KP8 := hide (KPN.out _ (Nx.trans HB.out hb8))
                  clear hb8
                  go_wp2
                  go_roundw
                  case rel => exact ⟨k + 1, by omega, by go_num, t2, rfl, by omega, KP8⟩
                  case measure => simp [intOf]; omega
end Go.Proofs.Ytldccbinndbcdaa.Am
