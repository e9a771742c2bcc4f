/- The walk of MaskSays. -/
import Derived.Test.YtpibejjhldnplaaDoorMFinNeg
import Derived.Test.YtpibejjhldnplaaDoorMFinBig
import Derived.Test.YtpibejjhldnplaaDoorMFinIn
namespace Go.Proofs.YtpibejjhldnplaaDoor.Con
open Go.RowKit Go.Proofs.YtpibejjhldnplaaDoor.Mk
set_option linter.unusedVariables false

set_option maxRecDepth 100000 in
set_option maxHeartbeats 4000000 in
theorem says_walk (m : Nat) (i : Int) (p : Option Addr) (c : Nat) (zs : List Int) (w : World) (hm : m < 18446744073709551616) (hT : Tab w) (hl : zs.length ≤ 9223372036854775807) (hi0 : -9223372036854775808 ≤ i) (hi1 : i ≤ 9223372036854775807)
    (hp : 0 < zs.length → ∃ b o, p = some ⟨b, o, none⟩ ∧ b < w.heap.size ∧ ∀ j, j < zs.length → w.cell? ⟨b, o + j, none⟩ = some (.int .i64 (zs.getD j 0))) :
    Calls Tryd.prog 4 #[.int .u64 m, .int .i64 i, .slice p zs.length c] w fun e w' => e = .returned (.bool true) ∧ Below w.heap.size w w' := by
  have hA := hide (awake_any w hT)
  have hT' := hide hT
  clear hT
  have hp' := hide hp
  clear hp
  by_cases hn : 200 < zs.length
  · go_enter Tryd.func4, Tryd.ntmps4
    go_wp2_with fail
    refine (unhide hA).mono ?_
    rintro e w0 ⟨rfl, hb0⟩
    have hB := hide hb0
    clear hb0 hA hT'
    go_wp2
    go_ret
    exact ⟨rfl, unhide hB⟩
  go_enter Tryd.func4, Tryd.ntmps4
  go_wp2_with fail
  refine (unhide hA).mono ?_
  rintro e w0 ⟨rfl, hb0⟩
  have hT0 := hide ((unhide hT').on hb0)
  have hB0 := hide hb0
  clear hb0 hA hT'
  have hO := hide (refOf_any m w0 hm)
  go_wp2_with fail
  refine (unhide hO).mono ?_
  rintro e w1 ⟨rfl, hb1⟩
  have hT1 := hide ((unhide hT0).on hb1)
  have hB1 := hide ((unhide hB0).trans (hb1.mono (unhide hB0).size))
  clear hb1 hO hT0 hB0
  go_wp2_with (first
    | (refine wpList_store_row rfl 34 (.tmp 8) (.tmp 35) rfl w1.heap.size (flags m) rfl rfl _ _ (heap_alloc_new w1 _) (sizeSet m) (by rw [flags_size]; rfl) (flags_one m) ?_; rw [World.setRow_alloc_new])
    | (refine wpList_load_row rfl 34 (.tmp 8) rfl w1.heap.size rfl _ (flags m) (0, 0) _ (Arr.new w1 m) underSet rfl (sizeSet m) ?_))
  have hL := hide (refList_any m (w1.alloc (.cells (flags m) 34)) hm)
  refine (unhide hL).mono ?_
  rintro e w2 ⟨v, rfl, hI, hb2⟩
  have hba : Below w1.heap.size w1 (w1.alloc (.cells (flags m) 34)) := (Below.refl _ _).alloc (Nat.le_refl _) _
  have hAs := hide ((Arr.new w1 m).below hb2 (by simp))
  have hT2 := hide (((unhide hT1).on hba).on hb2)
  have hB2 := hide (((unhide hB1).trans (hba.mono (unhide hB1).size)).trans (hb2.mono (by have := (unhide hB1).size; simp; omega)))
  have hs2 : w1.heap.size < w2.heap.size := by have := hb2.size; simp at this; omega
  obtain ⟨pa, ca, rfl, hall⟩ := nums_of_ints hI
  have hIa := hide hI
  have hall' := hide hall
  have hle := lenN_le m
  clear hI hb2 hba hall hL hT1 hB1
  generalize hgs : w1.heap.size = gs at *
  clear hgs
  have hfz : (w2.alloc (.cells (flags 0) 34)) = w2.alloc (.cells (Array.replicate 64 (.bool false)) 34) := by rw [flags_zero]
  have hst := hide (Arr.at w2 w2.heap.size 0 rfl)
  rw [hfz] at hst
  clear hfz
  go_wp2
  go_loopw [11] (fun j wr => ∃ k : Nat, k ≤ zs.length ∧ j = .int .i64 k ∧ Arr wr w2.heap.size (ofN (zs.take k)) ∧ Below w2.heap.size w2 wr ∧ w2.heap.size < wr.heap.size) (fun j _ => zs.length - (intOf j).toNat)
  case atStart => exact ⟨0, Nat.zero_le _, rfl, unhide hst, (Below.refl _ _).alloc (Nat.le_refl _) _, by simp⟩
  case round => as_aux_lemma =>
    obtain ⟨k, hk, rfl, hAo, hBr, hsr⟩ := hrel
    have hAo' := hide hAo
    have hBr' := hide hBr
    clear hAo hBr
    by_cases hlt : k < zs.length
    · obtain ⟨b, o, rfl, hb, hc⟩ := unhide hp' (by omega)
      have e1 : wr.cell? ⟨b, o + k, none⟩ = some (.int .i64 (zs.getD k 0)) := ((unhide hBr').cell (p := ⟨b, o + k, none⟩) (by have := (unhide hB2).size; show b < _; omega)).trans (((unhide hB2).cell (p := ⟨b, o + k, none⟩) hb).trans (hc k hlt))
      have hsn := hide (ofN_snoc zs k hlt)
      have hnx := hide (ofN_next zs k hlt)
      have hol := ofN_lt (zs.take k)
      clear hc
      generalize zs.getD k 0 = z at *
      by_cases hz0 : z < 0
      · have hN := hide (unhide hnx (.inl hz0))
        clear hsn hnx hst hall' hAs hT2
        go_wp2
        go_roundw
        case rel => exact ⟨k + 1, by omega, by go_num, by rw [unhide hN]; exact unhide hAo', unhide hBr', hsr⟩
        case measure => simp [intOf]; omega
      · by_cases hz1 : 64 ≤ z
        · have hN := hide (unhide hnx (.inr hz1))
          clear hsn hnx hst hall' hAs hT2
          go_wp2
          go_roundw
          case rel => exact ⟨k + 1, by omega, by go_num, by rw [unhide hN]; exact unhide hAo', unhide hBr', hsr⟩
          case measure => simp [intOf]; omega
        · obtain ⟨t, rfl⟩ : ∃ t : Nat, z = t := ⟨z.toNat, by omega⟩
          have ht : t < 64 := by omega
          have hft := (unhide hAo').frozen t
          have hct := (unhide hAo').cell t ht
          clear hz0 hz1 hnx hst hall' hAs hT2
          go_wp2
          go_roundw
          case rel => exact ⟨k + 1, by omega, by go_num, by rw [unhide hsn]; exact (unhide hAo').set hol t ht true, (unhide hBr').setCell (p := ⟨w2.heap.size, t, none⟩) (Nat.le_refl _) _, by simpa using hsr⟩
          case measure => simp [intOf]; omega
    · have e0 : zs.take k = zs := List.take_of_length_le (by omega)
      rw [e0] at hAo'
      have hAsr := hide ((unhide hAs).below (unhide hBr') hs2)
      have hTr := hide ((unhide hT2).on (unhide hBr'))
      have hBw := hide ((unhide hB2).trans ((unhide hBr').mono (unhide hB2).size))
      have hallr := hide (show 0 < (ones m).length → ∃ b o, pa = some ⟨b, o, none⟩ ∧ b < w2.heap.size ∧ ∀ j, j < (ones m).length → wr.cell? ⟨b, o + j, none⟩ = some (.int .i64 (((ones m).getD j 0 : Nat) : Int)) from fun h0 => by
        obtain ⟨b, o, h1, h2, h3⟩ := unhide hall' h0
        exact ⟨b, o, h1, h2, fun j hj => ((unhide hBr').cell (p := ⟨b, o + j, none⟩) h2).trans (h3 j hj)⟩)
      have hlen : (ones m).length ≤ 64 := hle
      have hIr := hide ((unhide hIa).below (unhide hBr'))
      clear e0 hAs hT2 hst hall' hle
      go_wp2
      go_loop [12, 13, 14, 15] (fun r f t k => ∃ j : Nat, j ≤ (ones m).length ∧ k = .int .i64 ((j : Int) - 1) ∧ r = .int .i64 (belowN ((ones m).drop j) i) ∧ f = .int .i64 (findN ((ones m).drop j) i).1 ∧ t = .bool (findN ((ones m).drop j) i).2) (fun _ _ _ k => (intOf k + 1).toNat)
      case atStart => exact ⟨(ones m).length, Nat.le_refl _, rfl, by rw [List.drop_length]; rfl, by rw [List.drop_length]; rfl, by rw [List.drop_length]; rfl⟩
      case round => as_aux_lemma =>
        obtain ⟨j, hj, rfl, rfl, rfl, rfl⟩ := hrel
        by_cases h0 : 1 ≤ j
        · obtain ⟨y, rfl⟩ : ∃ y, j = y + 1 := ⟨j - 1, by omega⟩
          obtain ⟨b, o, rfl, hb, hc⟩ := unhide hallr (by omega)
          have hcy := hc y (by omega)
          have hbl := belowN_le ((ones m).drop (y + 1)) i
          rw [List.length_drop] at hbl
          have hlo := hide (scan_low (ones m) y i (by omega))
          have hhi := hide (scan_high (ones m) y i (by omega))
          have ei : (((y + 1 : Nat) : Int) - 1) = (y : Int) := by omega
          rw [ei]
          generalize (ones m).getD y 0 = x at *
          generalize belowN ((ones m).drop (y + 1)) i = R at *
          generalize findN ((ones m).drop (y + 1)) i = FT at *
          clear ei hc hTr hAsr hBw hAo'
          by_cases hx : (x : Int) < i
          · obtain ⟨e1, e2⟩ := unhide hlo hx
            have e1' := hide e1
            have e2' := hide e2
            clear e1 e2 hlo hhi
            go_wp2
            go_round
            case rel => exact ⟨y, by omega, rfl, by rw [unhide e1']; simp, by rw [unhide e2'], by rw [unhide e2']⟩
            case measure => simp [intOf]
          · obtain ⟨e1, e2⟩ := unhide hhi (by omega)
            have e1' := hide e1
            have e2' := hide e2
            clear e1 e2 hlo hhi
            go_wp2
            go_round
            case rel => exact ⟨y, by omega, rfl, by rw [unhide e1'], by rw [unhide e2'], by rw [unhide e2']⟩
            case measure => simp [intOf]
        · obtain rfl : j = 0 := by omega
          rw [List.drop_zero, ← rank_below m i, find_first m i hm]
          clear hBr' hB2 hIa
          have hallw := hide (unhide hallr)
          clear hallr
          obtain ⟨⟨f, b⟩, hFT⟩ : ∃ FT, FT = firstN m i := ⟨_, rfl⟩
          rw [← hFT, show (((0 : Nat) : Int) - 1) = -1 from rfl]
          have hF := hide hFT
          clear hFT
          obtain ⟨rk, hrk⟩ : ∃ rk, rk = lenN (m &&& fullN i) := ⟨_, rfl⟩
          rw [← hrk]
          have hRk := hide hrk
          clear hrk
          simp only
          go_upto_region 22 with fail
          go_cut [94] from 88 (fun c94 wx => ∃ cb : Bool, c94 = .bool cb ∧ Hid (cb = (!b && decide (0 < (ones m).length))) ∧ wx = wr)
          case first => as_aux_lemma =>
            cases b
            · go_wp2
              go_meet
              case rel => exact ⟨_, rfl, hide (by simp), rfl⟩
            · go_wp2
              go_meet
              case rel => exact ⟨_, rfl, hide (by simp), rfl⟩
          case rest => as_aux_lemma =>
            obtain ⟨cb, rfl, hcb, rfl⟩ := hcut
            go_upto_if 94 with fail
            go_cut [16, 17] from 88 (fun x16 x17 wx => x16 = .int .i64 (aroundN m i).1 ∧ x17 = .bool (aroundN m i).2 ∧ wx = wc)
            case first => as_aux_lemma =>
              cases b
              · by_cases h0 : 0 < (ones m).length
                · obtain ⟨bb, o, rfl, hb, hc⟩ := unhide hallw h0
                  have hc0 := hc 0 h0
                  rw [Nat.add_zero] at hc0
                  have ha := hide (around_not hm (by rw [← unhide hF]) h0)
                  obtain rfl : cb = true := by rw [unhide hcb, decide_eq_true h0]; rfl
                  have hi0 : (0 : Int) < ((ones m).length : Int) := by omega
                  clear hc
                  go_wp2
                  go_meet
                  case rel => exact ⟨by rw [unhide ha]; simp [List.getElem?_eq_getElem h0], by rw [unhide ha], rfl⟩
                · have ha := hide (around_none hm (by rw [← unhide hF]) (by omega))
                  have hf0 := hide (first_not (m := m) (i := i) (by rw [← unhide hF]))
                  obtain rfl : cb = false := by rw [unhide hcb, decide_eq_false h0]; rfl
                  have hff : f = 0 := by have := (unhide hF).trans (unhide hf0); exact (Prod.mk.inj this).1
                  subst hff
                  go_wp2
                  go_meet
                  case rel => exact ⟨by rw [unhide ha]; rfl, by rw [unhide ha], rfl⟩
              · have ha := hide (around_there (m := m) (i := i) (by rw [← unhide hF]))
                obtain rfl : cb = false := by rw [unhide hcb]; rfl
                go_wp2
                go_meet
                case rel => exact ⟨by rw [unhide ha, ← unhide hF], by rw [unhide ha], rfl⟩
            case rest => as_aux_lemma =>
              obtain ⟨rfl, rfl, rfl⟩ := hcut
              clear hcb cb
              obtain ⟨⟨nt, ni⟩, hNT⟩ : ∃ NT, NT = nthN m i := ⟨_, rfl⟩
              have hN := hide hNT
              clear hNT
              go_upto_region 24 with fail
              go_cut [18, 19] from 98 (fun x y wx => x = .int .i64 0 ∧ y = .bool ni ∧ wx = wc)
              case first => as_aux_lemma =>
                by_cases h1 : 0 ≤ i
                · by_cases h2 : i < ((ones m).length : Int)
                  · obtain rfl : ni = true := by
                      have := congrArg Prod.snd (unhide hN); rw [nthN, if_pos ⟨h1, h2⟩] at this; exact this
                    go_wp2
                    go_meet
                    case rel => exact ⟨rfl, by simp, rfl⟩
                  · obtain rfl : ni = false := by
                      have := congrArg Prod.snd (unhide hN); rw [nthN, if_neg (fun h => h2 h.2)] at this; exact this
                    go_wp2
                    go_meet
                    case rel => exact ⟨rfl, by simp, rfl⟩
                · obtain rfl : ni = false := by
                    have := congrArg Prod.snd (unhide hN); rw [nthN, if_neg (fun h => h1 h.1)] at this; exact this
                  go_wp2
                  go_meet
                  case rel => exact ⟨rfl, rfl, rfl⟩
              case rest => as_aux_lemma =>
                obtain ⟨rfl, rfl, rfl⟩ := hcut
                go_upto_if 106 with fail
                go_cut [18] from 98 (fun x wx => x = .int .i64 nt ∧ wx = wc)
                case first => as_aux_lemma =>
                  cases ni
                  · obtain rfl : nt = 0 := by
                      have h := unhide hN
                      unfold nthN at h
                      split at h
                      · cases (Prod.mk.inj h).2
                      · exact (Prod.mk.inj h).1
                    go_wp2
                    go_meet
                    case rel => exact ⟨rfl, rfl⟩
                  · obtain ⟨y, rfl, hy, hyn⟩ : ∃ y : Nat, i = y ∧ y < (ones m).length ∧ nt = (ones m).getD y 0 := by
                      have h := unhide hN
                      unfold nthN at h
                      split at h
                      · rename_i hh
                        have h3 : lenN m = (ones m).length := rfl
                        exact ⟨i.toNat, by omega, by omega, (Prod.mk.inj h).1⟩
                      · cases (Prod.mk.inj h).2
                    obtain ⟨bb, o, rfl, hb, hc⟩ := unhide hallw (by omega)
                    have hcy := hc y hy
                    rw [← hyn] at hcy
                    clear hc hyn
                    have hyi : (y : Int) < ((ones m).length : Int) := by omega
                    go_wp2
                    go_meet
                    case rel => exact ⟨rfl, rfl⟩
                case rest => as_aux_lemma =>
                  obtain ⟨rfl, rfl⟩ := hcut
                  go_upto_region 27 with fail
                  obtain ⟨wo, hwo⟩ : ∃ wo, wc = wo := ⟨_, rfl⟩
                  rw [hwo] at hAsr hAo' hTr hallw hBw hIr
                  go_cut [20, 21] from 111 (fun x y wx => ∃ g1 g2 : Nat, x = .pointer (some ⟨g1, 0, none⟩) ∧ y = .pointer (some ⟨g2, 0, none⟩) ∧ Hid (Pair wo wx g1 g2 m m))
                  case first => as_aux_lemma =>
                    subst hwo
                    have hgs : gs < wc.heap.size := (unhide hAsr).lt
                    refine wp_region_noPanic ?_
                    refine wp_region_held (S := fun w => Arr w gs m) (by kernel_rfl) ?_
                    refine wpAnyH_take (i := 0) rfl (by kernel_rfl) (by kernel_rfl) (by kernel_rfl) (fun _ _ _ h => h) (yields_arr rfl (.tmp 8) rfl rfl) (unhide hAsr) ?_
                    refine wpAnyH_take (i := 1) rfl (by kernel_rfl) (by kernel_rfl) (by kernel_rfl) (fun _ _ _ h => h) (yields_arr rfl (.tmp 8) rfl rfl) (unhide hAsr) ?_
                    refine wpAnyH_ready (rs := [2, 3]) (by kernel_rfl) (by simp) ?_
                    refine AllReadyH.cons rfl (fun K hK => ?_) ?_
                    · go_simp
                      refine hK _ _ ((unhide hAsr).alloc _) (fun _ => ?_)
                      clear hK K
                      refine wpAnyH_ready (rs := [3]) (by kernel_rfl) (by simp) ?_
                      refine AllReadyH.cons rfl (fun K hK => ?_) ?_
                      · go_simp
                        refine hK _ _ (((unhide hAsr).alloc _).alloc _) (fun _ => ?_)
                        clear hK K
                        refine wpAnyH_ready (rs := [4]) (by kernel_rfl) (by simp) ?_
                        refine AllReadyH.cons rfl (fun K hK => ?_) ?_
                        · refine step_wanted rfl ?_
                          refine wp_store_row 34 (.tmp 20) (.tmp 111) rfl (wc.heap.size) (flags m) rfl rfl _ _ (zrow1 wc _ _) (sizeSet m) (by rw [flags_size]; rfl) (flags_one m) ?_
                          refine hK _ _ (arr_setRow (((unhide hAsr).alloc _).alloc _) (by omega) _) (fun _ => ?_)
                          clear hK K
                          refine wpAnyH_ready (rs := [5]) (by kernel_rfl) (by simp) ?_
                          refine AllReadyH.cons rfl (fun K hK => ?_) ?_
                          · refine step_wanted rfl ?_
                            refine wp_store_row 34 (.tmp 21) (.tmp 112) rfl (wc.heap.size + 1) (flags m) rfl rfl _ _ ((setRow_other _ _ _ _ (by simp)).trans (zrow2 wc _ _)) (sizeSet m) (by rw [flags_size]; rfl) (flags_one m) ?_
                            refine hK _ _ (arr_setRow (arr_setRow (((unhide hAsr).alloc _).alloc _) (by omega) _) (by omega) _) (fun _ => ?_)
                            clear hK K
                            refine wpAnyH_done (by kernel_rfl) (NoPanic.normal ?_) _
                            go_wp2_with fail
                            go_meet
                            case rel => exact ⟨wc.heap.size, wc.heap.size + 1, rfl, rfl, pair_lo wc _ _ rfl (flags_size _).symm m⟩
                          exact AllReadyH.nil
                        exact AllReadyH.nil
                      exact AllReadyH.nil
                    refine AllReadyH.cons rfl (fun K hK => ?_) ?_
                    · go_simp
                      refine hK _ _ ((unhide hAsr).alloc _) (fun _ => ?_)
                      clear hK K
                      refine wpAnyH_ready (rs := [2]) (by kernel_rfl) (by simp) ?_
                      refine AllReadyH.cons rfl (fun K hK => ?_) ?_
                      · go_simp
                        refine hK _ _ (((unhide hAsr).alloc _).alloc _) (fun _ => ?_)
                        clear hK K
                        refine wpAnyH_ready (rs := [4]) (by kernel_rfl) (by simp) ?_
                        refine AllReadyH.cons rfl (fun K hK => ?_) ?_
                        · refine step_wanted rfl ?_
                          refine wp_store_row 34 (.tmp 20) (.tmp 111) rfl (wc.heap.size + 1) (flags m) rfl rfl _ _ (zrow2 wc _ _) (sizeSet m) (by rw [flags_size]; rfl) (flags_one m) ?_
                          refine hK _ _ (arr_setRow (((unhide hAsr).alloc _).alloc _) (by omega) _) (fun _ => ?_)
                          clear hK K
                          refine wpAnyH_ready (rs := [5]) (by kernel_rfl) (by simp) ?_
                          refine AllReadyH.cons rfl (fun K hK => ?_) ?_
                          · refine step_wanted rfl ?_
                            refine wp_store_row 34 (.tmp 21) (.tmp 112) rfl (wc.heap.size) (flags m) rfl rfl _ _ ((setRow_other _ _ _ _ (by simp)).trans (zrow1 wc _ _)) (sizeSet m) (by rw [flags_size]; rfl) (flags_one m) ?_
                            refine hK _ _ (arr_setRow (arr_setRow (((unhide hAsr).alloc _).alloc _) (by omega) _) (by omega) _) (fun _ => ?_)
                            clear hK K
                            refine wpAnyH_done (by kernel_rfl) (NoPanic.normal ?_) _
                            go_wp2_with fail
                            go_meet
                            case rel => exact ⟨wc.heap.size + 1, wc.heap.size, rfl, rfl, pair_hi wc _ _ rfl (flags_size _).symm m⟩
                          exact AllReadyH.nil
                        exact AllReadyH.nil
                      exact AllReadyH.nil
                    exact AllReadyH.nil
                  case rest => as_aux_lemma =>
                    obtain ⟨g1, g2, rfl, rfl, hP⟩ := hcut
                    clear hwo
                    have hne : g1 ≠ g2 := (unhide hP).1
                    have hne' : ¬ g2 = g1 := fun h => hne h.symm
                    go_upto_region 28 with fail
                    go_cut [118] from 113 (fun c118 wx => ∃ cb : Bool, c118 = .bool cb ∧ Hid (cb = decide (0 ≤ i ∧ i < 64)) ∧ wx = wc)
                    case first => as_aux_lemma =>
                      by_cases h1 : 0 ≤ i
                      · by_cases h2 : i < 64
                        · go_wp2
                          go_meet
                          case rel => exact ⟨_, rfl, hide (by simp; omega), rfl⟩
                        · go_wp2
                          go_meet
                          case rel => exact ⟨_, rfl, hide (by simp; omega), rfl⟩
                      · go_wp2
                        go_meet
                        case rel => exact ⟨_, rfl, hide (by simp; omega), rfl⟩
                    case rest => as_aux_lemma =>
                      obtain ⟨cb, rfl, hcb, rfl⟩ := hcut
                      go_upto_if 118 with fail
                      go_cut [] from 113 (fun wx => Hid (Pair wo wx g1 g2 (withN m i) (withoutN m i)))
                      case first => as_aux_lemma =>
                        cases cb
                        · have hz : i < 0 ∨ 64 ≤ i := by have := of_decide_eq_false (unhide hcb).symm; omega
                          go_wp2
                          go_meet
                          case rel => exact hide ((unhide hP).still hm hz)
                        · have hz := of_decide_eq_true (unhide hcb).symm
                          obtain ⟨t, rfl⟩ : ∃ t : Nat, i = t := ⟨i.toNat, by omega⟩
                          have ht : t < 64 := by omega
                          have hc1 := (unhide hP).2.2.2.1.cell t ht
                          have hf1 := (unhide hP).2.2.2.1.frozen t
                          have hc2 := (unhide hP).2.2.2.2.1.cell t ht
                          have hf2 := (unhide hP).2.2.2.2.1.frozen t
                          clear hz
                          go_wp2
                          go_meet
                          case rel => exact hide ((unhide hP).step hm ht)
                      case rest => as_aux_lemma =>
                        have hP2 := hcut
                        clear hcut hP hcb cb
                        have hBo := hide (unhide hP2).2.2.2.2.2
                        have hT3 := hide ((unhide hTr).below (unhide hTr).lt (unhide hBo))
                        have hAs3 := hide ((unhide hAsr).below (unhide hBo) (unhide hAsr).lt)
                        have hAo3 := hide ((unhide hAo').below (unhide hBo) (unhide hAo').lt)
                        have hI3 := hide ((unhide hIr).below (unhide hBo))
                        have hB3 := hide ((unhide hBw).trans ((unhide hBo).mono (unhide hBw).size))
                        have hC1 := hide (first_any m i wc hm (unhide hT3))
                        have hC2 := hide (around_any m i wc hm (unhide hT3))
                        have hC3 := hide (nth_any m i wc hm (unhide hT3))
                        rw [← unhide hF] at hC1
                        rw [← unhide hN] at hC3
                        simp only at hC1 hC3
                        go_wp2_with fail
                        refine (unhide hC1).mono ?_; rintro e w' ⟨rfl, hw'⟩; rw [hw']; clear hw' w'
                        go_wp2_with fail
                        refine (unhide hC2).mono ?_; rintro e w' ⟨rfl, hw'⟩; rw [hw']; clear hw' w'
                        go_wp2_with fail
                        refine (unhide hC3).mono ?_; rintro e w' ⟨rfl, hw'⟩; rw [hw']; clear hw' w'
                        clear hC1 hC2 hC3
                        go_wp2_with fail
                        clear hTr hAsr hAo' hBw hallw hBo hIr
                        by_cases hi0' : i < 0
                        · as_aux_lemma =>
                            refine finNeg (m := m) i hi0' hm hl hRk hT3 hAs3 hAo3 (hide (unhide hP2).2.2.2.1) (hide (unhide hP2).2.2.2.2.1) hB3 hI3 hp' ?_
                            intro a' w' h6 hd6 hb
                            go_wp2_with fail
                            exact bodyPost_ret (v := .bool true) (by simp [results, Tryd.results4]; simpa using h6) hd6 ⟨rfl, hb⟩
                        · by_cases hi64 : 64 ≤ i
                          · as_aux_lemma =>
                              refine finBig (m := m) i hi64 hm hl hRk hT3 hAs3 hAo3 (hide (unhide hP2).2.2.2.1) (hide (unhide hP2).2.2.2.2.1) hB3 hI3 hp' ?_
                              intro a' w' h6 hd6 hb
                              go_wp2_with fail
                              exact bodyPost_ret (v := .bool true) (by simp [results, Tryd.results4]; simpa using h6) hd6 ⟨rfl, hb⟩
                          · as_aux_lemma =>
                              obtain ⟨t, rfl⟩ : ∃ t : Nat, i = t := ⟨i.toNat, by omega⟩
                              refine finIn (m := m) t (by omega) hm hl hRk hT3 hAs3 hAo3 (hide (unhide hP2).2.2.2.1) (hide (unhide hP2).2.2.2.2.1) hB3 hI3 hp' ?_
                              intro a' w' h6 hd6 hb
                              go_wp2_with fail
                              exact bodyPost_ret (v := .bool true) (by simp [results, Tryd.results4]; simpa using h6) hd6 ⟨rfl, hb⟩
end Go.Proofs.YtpibejjhldnplaaDoor.Con
