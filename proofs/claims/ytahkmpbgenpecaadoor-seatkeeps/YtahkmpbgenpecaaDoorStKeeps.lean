/- SeatKeeps: who had a seat and runs keeps it; given again nobody moves. -/
import Derived.Test.YtahkmpbgenpecaaDoorStAw
namespace Go.Proofs.YtahkmpbgenpecaaDoor.St
open Go.RowKit Go.Proofs.YtahkmpbgenpecaaDoor.Con Go.Proofs.YtahkmpbgenpecaaDoor.Mk
set_option linter.unusedVariables false
set_option linter.unusedSimpArgs false
attribute [local go_sem ↓] Go.wp_at_zero Go.wp_at_succ
theorem getD_mem {l : List Int} {k : Nat} (h : k < l.length) : l.getD k 0 ∈ l := by
  rw [List.getD_eq_getElem?_getD, List.getElem?_eq_getElem h]; exact List.getElem_mem h
set_option maxHeartbeats 8000000 in
set_option maxRecDepth 100000 in
theorem keeps_walk (hA : Hid AwakeC) (hG : Hid GoodC) (hV : Hid GiveC) (hT : Hid AtC) (was run : List Int) (v u : Value) (W : World) (h : Is W v was) (h' : Is W u run) (hTab : Hid (Tab W)) :
    Calls Tryd.prog 4 #[v, u] W fun e w' => e = .returned (.bool true) ∧ Nx W w' := by
  obtain ⟨p, cap, rfl, hn, hm⟩ := h.form
  obtain ⟨p', cap', rfl, hn', hm'⟩ := h'.form
  have hmx : (was.length : Int) ≤ 9223372036854775807 := by unfold maxLen at hm; omega
  have hmx' : (run.length : Int) ≤ 9223372036854775807 := by unfold maxLen at hm'; omega
  have H := hide h
  have H' := hide h'
  clear h h'
  go_enter Tryd.func4, Tryd.ntmps4
  go_wp2_with fail
  refine (hA.out _ hTab.out).mono ?_
  rintro ee w1 ⟨rfl, hb⟩
  have B1 := hide hb
  clear hb hA
  by_cases hl : 64 < (was.length : Int)
  · have hl' : decide (64 < (was.length : Int)) = true := decide_eq_true hl
    go_wp2
    go_ret
    exact ⟨rfl, B1.out⟩
  have hl' : decide (64 < (was.length : Int)) = false := decide_eq_false hl
  by_cases hr : 64 < (run.length : Int)
  · have hr' : decide (64 < (run.length : Int)) = true := decide_eq_true hr
    go_wp2
    go_ret
    exact ⟨rfl, B1.out⟩
  have hr' : decide (64 < (run.length : Int)) = false := decide_eq_false hr
  go_wp2_with fail
  refine (hG.out was run _ _ w1 (H.out.below B1.out) (H'.out.below B1.out) (by omega)).mono ?_
  rintro ee w2 ⟨rfl, hb⟩
  have B2 := hide (Nx.trans B1.out hb)
  clear hb B1 hG
  cases hg : goodS was run with
  | false =>
    clear hg
    go_wp2
    go_ret
    exact ⟨rfl, B2.out⟩
  | true =>
    obtain ⟨⟨_, hw64, hrw⟩, _, h0, _⟩ := good_parts hg
    have hw64' : (was.length : Int) ≤ 64 := by omega
    have hb2 : (run.length : Int) ≤ (was.length : Int) := by omega
    have hgl := give_len hg
    have HV1 := hide (hV.out was run _ _ w2 (H.out.below B2.out) (H'.out.below B2.out) (by omega) (by omega) (hTab.out.on B2.out))
    have HV2 := hide (fun w x hB hx => hV.out (giveL was run) run x _ w hx (H'.out.below hB) (by omega) (by omega) (hTab.out.on hB))
    rw [again_give hg, again_n hg] at HV2
    have HTA := hide (taken_all hg)
    have HKA := hide (kept_all hg)
    have HSI := hide (fun x hx => sits hg (x := x) hx)
    have H0 := hide (fun x hx => (h0 x hx).1)
    clear hV hg h0
    generalize giveL was run = a at *
    generalize giveN was run = n at *
    have HT1 := hide (fun i w x (hi : 0 ≤ i) hx => hT.out a i x w hx (by omega) hi)
    have HT2 := hide (fun i w (hi : 0 ≤ i) hB => hT.out was i _ w (H.out.below hB) (by omega) hi)
    clear hT hw64 hrw
    go_wp2_with fail
    refine HV1.out.mono ?_
    rintro ee w3 ⟨x, rfl, hI, hb⟩
    have B3 := hide (Nx.trans B2.out hb)
    have I3 := hide hI.out
    clear hb hI HV1 B2
    go_wp2_with fail
    refine (HV2.out _ _ B3.out I3.out).mono ?_
    rintro ee w4 ⟨y, rfl, hI, hb⟩
    have B4 := hide (Nx.trans B3.out hb)
    have I4 := hide (I3.out.below hb)
    have J4 := hide hI.out
    clear hb hI HV2 B3 I3
    obtain ⟨pa, ca, rfl, hna, hma⟩ := I4.out.form
    have hle : ((a.length : Int) != (was.length : Int)) = false := by simp; omega
    have hmxa : (a.length : Int) ≤ 64 := by omega
    have HGL := hide hgl
    clear hgl
    go_wp2_with fail
    refine (ints_any I4.out J4.out).mono ?_
    rintro ee w5 ⟨rfl, hb⟩
    have B5 := hide (Nx.trans B4.out hb)
    have I5 := hide (I4.out.below hb)
    clear hb I4 J4 B4
    have dd : decide (a = a) = true := decide_eq_true rfl
    go_wp2
    go_loopw [9, 10, 11] (fun t q i wr => ∃ k : Nat, k ≤ a.length ∧ t = .int .i64 (takenN a k : Nat) ∧ q = .int .i64 (keptN a was k : Nat) ∧ i = .int .i64 (k : Int) ∧ Hid (Nx w5 wr)) (fun _ _ i _ => a.length - (intOf i).toNat)
    case atStart => exact ⟨0, by omega, rfl, rfl, rfl, hide (Nx.refl _)⟩
    case round =>
      obtain ⟨k, hk, rfl, rfl, rfl, HN⟩ := hrel
      by_cases hkn : k < a.length
      · have hk1 : (k : Int) < (a.length : Int) := by omega
        have hk2 : (k : Int) < (was.length : Int) := by have := HGL.out; omega
        obtain ⟨b, o, rfl, hb, x0⟩ := (I5.out.below HN.out).at hkn
        obtain ⟨b', o', rfl, hb', y0⟩ := (H.out.below (Nx.trans B5.out HN.out)).at (show k < was.length by omega)
        have HN' : Hid (∀ n, Nx w5 (wr.drewN n)) := hide (fun n => bel_drewN HN.out n)
        have hs1 := hide (taken_step a k hkn)
        have hs2 := hide (kept_step a was k hkn HGL.out)
        have hlt1 : (takenN a k : Int) ≤ 64 := by have := taken_le a k; omega
        have hlt2 : (keptN a was k : Int) ≤ 64 := by have := kept_le a was k; omega
        clear HTA HKA HSI H0 HT1 HT2 hb hb'
        generalize a.getD k 0 = y at *
        generalize was.getD k 0 = z at *
        by_cases c0 : 0 ≤ y
        · have d0 : decide (0 ≤ y) = true := decide_eq_true c0
          by_cases c1 : y = z
          · subst c1
            have e1 := hide (show takenN a (k + 1) = takenN a k + 1 by rw [hs1.out, if_pos c0])
            have e2 := hide (show keptN a was (k + 1) = keptN a was k + 1 by rw [hs2.out, if_pos ⟨c0, rfl⟩])
            clear hs1 hs2
            generalize takenN a k = t0 at *
            generalize keptN a was k = q0 at *
            clear HN
            go_wp2
            go_quiet (fail)
            go_wp2
            go_round
            case rel => exact ⟨k + 1, by omega, by rw [e1.out]; rfl, by rw [e2.out]; rfl, by go_num, hide (HN'.out _)⟩
            case measure => simp [intOf]; omega
          · have d1 : (y == z) = false := by simp [c1]
            have e1 := hide (show takenN a (k + 1) = takenN a k + 1 by rw [hs1.out, if_pos c0])
            have e2 := hide (show keptN a was (k + 1) = keptN a was k by rw [hs2.out, if_neg (fun g => c1 g.2)]; rfl)
            clear hs1 hs2
            generalize takenN a k = t0 at *
            generalize keptN a was k = q0 at *
            clear HN
            go_wp2
            go_quiet (fail)
            go_wp2
            go_round
            case rel => exact ⟨k + 1, by omega, by rw [e1.out]; rfl, by rw [e2.out], by go_num, hide (HN'.out _)⟩
            case measure => simp [intOf]; omega
        · have d0 : decide (0 ≤ y) = false := decide_eq_false c0
          have e1 := hide (show takenN a (k + 1) = takenN a k by rw [hs1.out, if_neg c0]; rfl)
          have e2 := hide (show keptN a was (k + 1) = keptN a was k by rw [hs2.out, if_neg (fun g => c0 g.1)]; rfl)
          clear hs1 hs2
          generalize takenN a k = t0 at *
          generalize keptN a was k = q0 at *
          have HM := hide HN.out
          clear HN
          go_wp2
          go_round
          case rel => exact ⟨k + 1, by omega, by rw [e1.out], by rw [e2.out], by go_num, HM⟩
          case measure => simp [intOf]; omega
      · obtain rfl : k = a.length := by omega
        have B6 := hide (Nx.trans B5.out HN.out)
        have I6 := hide (I5.out.below HN.out)
        have HK := HKA.out
        rw [HTA.out]
        have hlt2 : (keptN a was a.length : Int) ≤ 64 := by have := kept_le a was a.length; omega
        clear HTA HKA B5 I5 HN
        generalize keptN a was a.length = q0 at *
        have hn0 : 0 ≤ (n : Int) := by omega
        have hn1 : ((n : Int) == (run.length : Int) - (q0 : Int)) = true := by simp; omega
        have HKH := hide HK
        clear HK
        rename World => w6
        go_wp2
        go_loopw [12, 13, 14] (fun i _ _ wr => ∃ k : Nat, k ≤ run.length ∧ i = .int .i64 (k : Int) ∧ Hid (Nx w6 wr)) (fun i _ _ _ => run.length - (intOf i).toNat)
        case atStart => exact ⟨0, by omega, rfl, hide (Nx.refl _)⟩
        case round =>
          obtain ⟨k, hk, rfl, HN⟩ := hrel
          by_cases hkn : k < run.length
          · have hk1 : (k : Int) < (run.length : Int) := by omega
            obtain ⟨b, o, rfl, hb, x0⟩ := (H'.out.below (Nx.trans B6.out HN.out)).at hkn
            have hmem := getD_mem hkn
            have KC : Hid (∀ w, Nx W w → w.cell? ⟨b, o + k, none⟩ = some (.int .i64 (run.getD k 0))) := hide (fun w hB => by
              obtain ⟨b', o', e', _, y0⟩ := (H'.out.below hB).at hkn
              simp only [Option.some.injEq, Addr.mk.injEq, and_true] at e'
              obtain ⟨rfl, rfl⟩ := e'
              exact y0)
            obtain ⟨s1, s2, s3⟩ := HSI.out _ hmem
            have g0 := H0.out _ hmem
            clear HSI H0 hb hmem hn1 HKH
            generalize run.getD k 0 = r at *
            have HA1 := hide (fun w x hx => HT1.out r w x g0 hx)
            have HA2 := hide (fun w hB => HT2.out r w g0 hB)
            clear HT1 HT2
            generalize atI a r = a1 at *
            generalize atI was r = a2 at *
            have d1 : decide (a1 < 0) = false := decide_eq_false (by omega)
            have d2 : decide ((a.length : Int) ≤ a1) = false := decide_eq_false (by omega)
            have BB := hide (Nx.trans B6.out HN.out)
            go_wp2_with fail
            refine (HA1.out _ _ (I6.out.below HN.out)).mono ?_
            rintro ee wa ⟨rfl, hb⟩
            have N2 := hide (Nx.trans HN.out hb)
            have B7 := hide (Nx.trans BB.out hb)
            clear HN hb HA1 BB x0
            have x0 := KC.out _ B7.out
            go_wp2_with fail
            refine (HA2.out _ B7.out).mono ?_
            rintro ee wb ⟨rfl, hb⟩
            have N3 := hide (Nx.trans N2.out hb)
            clear N2 hb HA2 B7 x0
            by_cases c : 0 ≤ a2
            · have d3 : decide (0 ≤ a2) = true := decide_eq_true c
              obtain rfl := s3 c
              go_wp2
              go_round
              case rel => exact ⟨k + 1, by omega, by go_num, N3⟩
              case measure => simp [intOf]; omega
            · have d3 : decide (0 ≤ a2) = false := decide_eq_false c
              clear s3
              go_wp2
              go_round
              case rel => exact ⟨k + 1, by omega, by go_num, N3⟩
              case measure => simp [intOf]; omega
          · obtain rfl : k = run.length := by omega
            have BZ := hide (Nx.trans B6.out HN.out)
            go_wp2
            go_ret
            exact ⟨rfl, BZ.out⟩
end Go.Proofs.YtahkmpbgenpecaaDoor.St
