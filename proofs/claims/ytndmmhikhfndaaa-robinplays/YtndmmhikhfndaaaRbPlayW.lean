/- RobinPlays' walk, over the conditions. -/
import Derived.Test.YtndmmhikhfndaaaRbPm
import Derived.Deep.CutRange
namespace Go.Proofs.Ytndmmhikhfndaaa.Rb
open Go.RowKit Go.Proofs.Ytndmmhikhfndaaa.Con Go.Proofs.Ytndmmhikhfndaaa.Fp
set_option linter.unusedVariables false
set_option linter.unusedSimpArgs false
attribute [local go_sem ↓] Go.wp_at_zero Go.wp_at_succ
set_option maxRecDepth 100000 in
set_option maxHeartbeats 40000000 in
theorem plays_walk {I : RbI} (hA : Hid AwakeC) (KK : Rk I) (most : Int) (p : Option Addr) (c : Nat) (zs : List Ac) (W : World) (hl : zs.length ≤ 9223372036854775807) (hz : ∀ j, j < zs.length → in64 (ac' zs j).id)
    (h1 : 0 < zs.length → ∃ b o, p = some ⟨b, o, none⟩ ∧ b < W.heap.size ∧ ∀ j, j < zs.length → W.cell? ⟨b, o + j * 4, none⟩ = some (.int .i64 (ac' zs j).op) ∧ W.cell? ⟨b, o + j * 4 + 1, none⟩ = some (.int .i64 (ac' zs j).id) ∧ W.cell? ⟨b, o + j * 4 + 2, none⟩ = some (.int .i64 (ac' zs j).n) ∧ W.cell? ⟨b, o + j * 4 + 3, none⟩ = some (.int .i64 (ac' zs j).t)) :
    Calls Try.prog 4 #[.int .i64 most, .slice p zs.length c] W fun e w' => e = .returned (.bool true) ∧ Nx W w' := by
  obtain ⟨Kn, hnn⟩ : ∃ n, zs.length = n := ⟨_, rfl⟩
  have NN := hide hnn
  have H1 := hide h1
  have HZ := hide hz
  rw [hnn] at hl ⊢
  clear hnn h1 hz
  go_enter Try.func4, Try.ntmps4
  go_wp2_with fail
  refine (hA.out _).mono ?_
  rintro ee w0 ⟨rfl, hb⟩
  have N0 := hide hb
  clear hb hA
  by_cases hn : 60 < Kn
  · have hn' : (60 : Int) < (Kn : Int) := by omega
    go_wp2
    go_ret
    exact ⟨rfl, N0.out⟩
  have hn' : ¬ (60 : Int) < (Kn : Int) := by omega
  go_wp2_with fail
  refine (at_new KK N0.out most).mono ?_
  rintro ee w1 ⟨b, F, rfl, hA, -, hb⟩
  have A := hide hA.out
  clear hA hb N0
  obtain ⟨m, hm⟩ : ∃ m, (min (max most 1) 256).toNat = m := ⟨_, rfl⟩
  have hm1 : min (max most 1) 256 = (m : Int) := by omega
  have J0 : Hid (Pw I W w1 b ⟨m, []⟩ F (.slice none 0 0) []) := hide ⟨by have := A.out; unfold newS at this; rw [hm] at this; exact this, ⟨Is.nil _, fun k hk h0 => by simp at h0⟩, fun x hx => by simp at hx⟩
  have HM := hide hm1
  clear hm hm1 A
  go_upto_if 31 with fail
  go_cut [6] from 30 to 31 (fun s wx => s = .int .i64 (max most 1) ∧ wx = w1)
  case first => as_aux_lemma =>
    by_cases q : most < 1
    · have E : Hid (max most 1 = 1) := hide (by omega)
      go_wp2
      go_meet
      case rel => exact ⟨by rw [E.out], rfl⟩
    · have E : Hid (max most 1 = most) := hide (by omega)
      go_wp2
      go_meet
      case rel => exact ⟨by rw [E.out], rfl⟩
  case rest =>
    obtain ⟨rfl, hwc⟩ := hcut
    have hwc' := hwc.symm
    clear hwc
    subst hwc'
    go_upto_if 33 with fail
    go_cut [6] from 32 to 33 (fun s wx => s = .int .i64 (m : Int) ∧ wx = w1)
    case first => as_aux_lemma =>
      have hm := HM.out
      clear HM
      generalize max most 1 = r at *
      by_cases q : 256 < r
      · have E : Hid ((m : Int) = 256) := hide (by omega)
        clear hm
        go_wp2
        go_meet
        case rel => exact ⟨by rw [E.out], rfl⟩
      · have E : Hid ((m : Int) = r) := hide (by omega)
        clear hm
        go_wp2
        go_meet
        case rel => exact ⟨by rw [E.out], rfl⟩
    case rest =>
      obtain ⟨rfl, hwc⟩ := hcut
      have hwc' := hwc.symm
      clear hwc
      subst hwc'
      clear HM
      go_wp2
      go_loopw [7, 8] (fun u i wr => ∃ k : Nat, k ≤ Kn ∧ i = .int .i64 (k : Int) ∧ ∃ l F, Hid (Pw I W wr b ⟨m, l⟩ F u l)) (fun _ i _ => Kn - (intOf i).toNat)
      case atStart => exact ⟨0, by omega, rfl, [], F, J0⟩
      case round =>
        clear J0
        obtain ⟨k, hk, rfl, l, F, HR⟩ := hrel
        by_cases hkn : k < Kn
        · obtain ⟨pu, cu, hu, _, _⟩ := HR.out.row.is.form
          subst hu
          obtain ⟨bz, oz, rfl, hbl, hcl⟩ := H1.out (by rw [NN.out]; omega)
          have hrow := hcl k (by rw [NN.out]; exact hkn)
          have HX := hide (HZ.out k (by rw [NN.out]; exact hkn))
          have hcl' : ∀ j, wr.cell? ⟨bz, j, none⟩ = W.cell? ⟨bz, j, none⟩ := fun j => HR.out.it.nx.cell (p := ⟨bz, j, none⟩) hbl
          have q0 : wr.cell? ⟨bz, oz + k * 4, none⟩ = some (.int .i64 (ac' zs k).op) := (hcl' _).trans hrow.1
          have q1 : wr.cell? ⟨bz, oz + k * 4 + 1, none⟩ = some (.int .i64 (ac' zs k).id) := (hcl' _).trans hrow.2.1
          have q2 : wr.cell? ⟨bz, oz + k * 4 + 2, none⟩ = some (.int .i64 (ac' zs k).n) := (hcl' _).trans hrow.2.2.1
          have q3 : wr.cell? ⟨bz, oz + k * 4 + 3, none⟩ = some (.int .i64 (ac' zs k).t) := (hcl' _).trans hrow.2.2.2
          clear hcl hrow hcl'
          generalize (ac' zs k).op = op at *
          generalize (ac' zs k).id = x at *
          generalize (ac' zs k).n = n at *
          generalize (ac' zs k).t = t at *
          have hk1 : (k : Int) < (Kn : Int) := by omega
          have h256 : l.length ≤ 256 := HR.out.len
          have hlm : l.length ≤ m := HR.out.it.gd.len
          obtain ⟨M, hM⟩ : ∃ M, l.length = M := ⟨_, rfl⟩
          have LM := hide hM
          rw [hM] at h256 hlm HR ⊢
          clear hM
          have hM256 : (M : Int) ≤ 256 := by omega
          have hB : Nx wr (wr.alloc (.cells #[.int .i64 op, .int .i64 x, .int .i64 n, .int .i64 t] 35)) := Nx.alloc _ _
          have P0 := hide (HR.out.nx KK hB)
          have B0 : Hid (Bx (wr.alloc (.cells #[.int .i64 op, .int .i64 x, .int .i64 n, .int .i64 t] 35)) F wr.heap.size ⟨op, x, n, t⟩) := hide ⟨heap_alloc_new _ _, fun hf => by have := KK.kept.lt HR.out.it.it _ hf; omega⟩
          clear hB HR
          go_upto_block 2 with fail
          generalize wr.heap.size = gb at *
          generalize wr.alloc (.cells #[.int .i64 op, .int .i64 x, .int .i64 n, .int .i64 t] 35) = w3 at *
          clear q0 q1 q2 q3
          go_cut [10, 11] from 44 to 57 (fun s t wx => s = .int .i64 (pla l x) ∧ Hid (Nx w3 wx))
          case first => as_aux_lemma =>
            -- [[loop
            go_wp2
            go_loopw [10, 11] (fun s t wx => ∃ j : Nat, j ≤ M ∧ t = .int .i64 (j : Int) ∧ s = .int .i64 (pla (l.take j) x) ∧ Hid (Nx w3 wx)) (fun _ t _ => M - (intOf t).toNat)
            case atStart => exact ⟨0, by omega, rfl, by rfl, hide (Nx.refl _)⟩
            case round =>
              obtain ⟨j, hj, rfl, rfl, HN⟩ := hrel
              by_cases hjm : j < M
              · obtain ⟨g2, o2, e, hb2, c0⟩ := (P0.out.row.is.below HN.out).at (show j < l.length by rw [LM.out]; exact hjm)
                subst e
                obtain ⟨b0, b1, b2, b3⟩ := (B0.out.nx HN.out).cells
                have hj1 : (j : Int) < (M : Int) := by omega
                have hwl : j < l.length := by rw [LM.out]; exact hjm
                have PH := hide (pla_hit (x := x) P0.out.it.gd.nodup hwl)
                have PMi := hide (pla_miss (x := x) hwl)
                have HN' : Hid (∀ d, Nx w3 (wr.drewN d)) := hide (fun d => bel_drewN HN.out d)
                generalize l.getD j 0 = y at *
                clear hwl HN b0 b2 b3
                by_cases hy : y = x
                · have E := hide (PH.out hy)
                  subst hy
                  generalize pla (l.take j) y = A at *
                  go_wp2
                  go_quiet (fail)
                  go_wp2
                  go_roundw
                  case rel => exact ⟨j + 1, by omega, by go_num, by rw [E.out], hide (HN'.out _)⟩
                  case measure => simp [intOf]; omega
                · have E := hide (PMi.out hy)
                  have hy' : (y == x) = false := by rw [beq_eq_false_iff_ne]; exact hy
                  generalize pla (l.take j) x = A at *
                  go_wp2
                  go_quiet (fail)
                  go_wp2
                  go_roundw
                  case rel => exact ⟨j + 1, by omega, by go_num, by rw [E.out], hide (HN'.out _)⟩
                  case measure => simp [intOf]; omega
              · obtain rfl : j = M := by omega
                rw [List.take_of_length_le (by rw [LM.out]; omega)]
                generalize pla l x = A at *
                go_wp2
                go_meet
                case rel => exact ⟨rfl, HN⟩
            -- ]]loop
          case rest =>
            obtain ⟨rfl, HN⟩ := hcut
            have P1 := hide (P0.out.nx KK HN.out)
            have B1 := hide (B0.out.nx HN.out)
            obtain ⟨b0, b1, b2, b3⟩ := B1.out.cells
            clear P0 B0 HN
            obtain ⟨w4, hw4⟩ : ∃ w4, w4 = wc := ⟨_, rfl⟩
            subst hw4
            have AC := hide (at_cases l x)
            obtain ⟨A, hA⟩ : ∃ A, pla l x = A := ⟨_, rfl⟩
            rw [hA] at AC ⊢
            clear hA
            obtain ⟨N, hN⟩ : ∃ N, clN ⟨m, l⟩ n = N := ⟨_, rfl⟩
            have NE := hide hN
            have hNM : N ≤ M := by rw [← hN, ← LM.out]; exact clN_le _ _
            have hNe : min (max n 0) (M : Int) = (N : Int) := by rw [← hN]; unfold clN; have := LM.out; show _ = (((min (max n 0) (l.length : Int)).toNat : Nat) : Int); omega
            have HNe := hide hNe
            clear hN hNe
            go_upto_if 61 with fail
            go_cut [12] from 58 to 61 (fun s wx => s = .int .i64 (max n 0) ∧ wx = w4)
            case first => as_aux_lemma =>
              by_cases q : n < 0
              · have E : Hid (max n 0 = 0) := hide (by omega)
                go_wp2
                go_meet
                case rel => exact ⟨by rw [E.out], rfl⟩
              · have E : Hid (max n 0 = n) := hide (by omega)
                go_wp2
                go_meet
                case rel => exact ⟨by rw [E.out], rfl⟩
            case rest =>
              obtain ⟨rfl, hwc⟩ := hcut
              have hwc' := hwc.symm
              clear hwc
              subst hwc'
              go_upto_if 65 with fail
              go_cut [12] from 62 to 67 (fun s wx => s = .int .i64 (N : Int) ∧ wx = w4)
              case first => as_aux_lemma =>
                have hm := HNe.out
                clear HNe
                generalize max n 0 = r at *
                by_cases q : (M : Int) < r
                · have E : Hid ((N : Int) = (M : Int)) := hide (by omega)
                  clear hm
                  go_wp2
                  go_meet
                  case rel => exact ⟨by rw [E.out], rfl⟩
                · have E : Hid ((N : Int) = r) := hide (by omega)
                  clear hm
                  go_wp2
                  go_meet
                  case rel => exact ⟨by rw [E.out], rfl⟩
              case rest =>
                obtain ⟨rfl, hwc⟩ := hcut
                have hwc' := hwc.symm
                clear hwc
                subst hwc'
                clear HNe
                go_upto_block 4 with fail
                go_cut [7, 13, 14, 15, 16, 17, 18, 19, 20, 21] from 34 to 236 (fun u _ _ _ _ _ _ _ _ _ wx => ∃ l' F', Hid (Pw I W wx b ⟨m, l'⟩ F' u l'))
                case first => as_aux_lemma =>
                  by_cases h0 : op = 0
                  · subst h0
                    -- [[add
                    by_cases hx0 : x < 0
                    · have AD := hide (fun (w : World) (F : Nat → Prop) (hI : At I W w b ⟨m, l⟩ F) => at_add' (x := 1) (s' := ⟨m, l⟩) KK hI x (by unfold addE; rw [if_pos hx0]) (add_n (by unfold addE; rw [if_pos hx0]; decide)))
                      go_wp2_with fail
                      refine (AD.out _ _ P1.out.it).mono ?_
                      rintro ee w5 ⟨F5, rfl, hA, hT⟩
                      have P5 := hide (P1.out.turn hA.out hT P1.out.key)
                      obtain ⟨d0, d1, d2, d3⟩ := (B1.out.tn hT).cells
                      clear hA hT P1 B1 b0 b1 b2 b3 AD
                      go_wp2
                      go_meet
                      case rel => exact ⟨l, F5, P5⟩
                    rcases AC.out with ⟨rfl, hx⟩ | ⟨j, rfl, hj, hx, -⟩
                    rotate_left
                    · have AD := hide (fun (w : World) (F : Nat → Prop) (hI : At I W w b ⟨m, l⟩ F) => at_add' (x := 5) (s' := ⟨m, l⟩) KK hI x (by unfold addE; rw [if_neg hx0, if_pos hx]) (add_n (by unfold addE; rw [if_neg hx0, if_pos hx]; decide)))
                      have j0 : (0 : Int) ≤ (j : Int) := by omega
                      go_wp2_with fail
                      refine (AD.out _ _ P1.out.it).mono ?_
                      rintro ee w5 ⟨F5, rfl, hA, hT⟩
                      have P5 := hide (P1.out.turn hA.out hT P1.out.key)
                      obtain ⟨d0, d1, d2, d3⟩ := (B1.out.tn hT).cells
                      clear hA hT P1 B1 b0 b1 b2 b3 AD
                      go_wp2
                      go_meet
                      case rel => exact ⟨l, F5, P5⟩
                    by_cases hfu : m ≤ M
                    · have AD := hide (fun (w : World) (F : Nat → Prop) (hI : At I W w b ⟨m, l⟩ F) => at_add' (x := 3) (s' := ⟨m, l⟩) KK hI x (by unfold addE; rw [if_neg hx0, if_neg hx, if_pos (by show m ≤ l.length; rw [LM.out]; exact hfu)]) (add_n (by unfold addE; rw [if_neg hx0, if_neg hx, if_pos (by show m ≤ l.length; rw [LM.out]; exact hfu)]; decide)))
                      have j0 : (m : Int) ≤ (M : Int) := by omega
                      go_wp2_with fail
                      refine (AD.out _ _ P1.out.it).mono ?_
                      rintro ee w5 ⟨F5, rfl, hA, hT⟩
                      have P5 := hide (P1.out.turn hA.out hT P1.out.key)
                      obtain ⟨d0, d1, d2, d3⟩ := (B1.out.tn hT).cells
                      clear hA hT P1 B1 b0 b1 b2 b3 AD
                      go_wp2
                      go_meet
                      case rel => exact ⟨l, F5, P5⟩
                    have he0 : addE ⟨m, l⟩ x = 0 := by unfold addE; rw [if_neg hx0, if_neg hx, if_neg (by show ¬ m ≤ l.length; rw [LM.out]; exact hfu)]
                    have AD := hide (fun (w : World) (F : Nat → Prop) (hI : At I W w b ⟨m, l⟩ F) => at_add' (x := 0) (s' := ⟨m, l ++ [x]⟩) KK hI x he0 (add_y he0))
                    have KY : Hid (∀ y ∈ (⟨m, l ++ [x]⟩ : Rs).l, in64 y) := hide (by have := key_add (s := ⟨m, l⟩) P1.out.key HX.out; rw [add_y he0] at this; exact this)
                    have j0 : ¬ (m : Int) ≤ (M : Int) := by omega
                    clear he0
                    go_wp2_with fail
                    refine (AD.out _ _ P1.out.it).mono ?_
                    rintro ee w5 ⟨F5, rfl, hA, hT⟩
                    have P5 := hide (P1.out.turn hA.out hT KY.out)
                    have B5 := hide (B1.out.tn hT)
                    obtain ⟨d0, d1, d2, d3⟩ := B5.out.cells
                    clear hA hT P1 B1 b0 b1 b2 b3 AD KY
                    go_upto_region 50 with fail
                    obtain ⟨i0, hi, hz0, hz1, hz2⟩ := infoP infoW
                    have hrd : RdC w5 w5.heap.size 1 (.slice pu M cu) M (ivs l) := by have := P5.out.row.is; unfold Is at this; rwa [LM.out] at this
                    have RD1 := hide hrd
                    have SZ1 : Hid (M ≤ maxLen ∧ M * 8 ≤ 140737488355328) := hide ⟨by unfold maxLen; omega, by omega⟩
                    have SZ2 : Hid (M + 1 ≤ maxLen ∧ (M + 1) * 8 ≤ 140737488355328) := hide ⟨by unfold maxLen; omega, by omega⟩
                    have ON1 := hide (ivs_one l)
                    have ON2 : Hid (∀ u ∈ [Value.int .i64 x], u.oneCell' = true) := hide (by intro u hu; simp at hu; subst hu; rfl)
                    have KS : Hid (∀ w', Below w5.heap.size w5 w' → w'.cell? ⟨gb, 1, none⟩ = some (.int .i64 x)) := hide (fun w' hB => (B5.out.nx hB).cells.2.1)
                    have FIN : Hid (∀ (u' : Value) w', Below w5.heap.size w5 w' → w'.ownsRow w5.heap.size 3 1 u' (M + 1) (ivs l ++ [.int .i64 x]) → ∃ l' F', Hid (Pw I W w' b ⟨m, l'⟩ F' u' l')) := hide (by
                      intro u' w' hB ho
                      refine ⟨l ++ [x], F5, hide (P5.out.fresh KK hB (n := M + 1) (by rw [List.length_append, LM.out]; rfl) ?_)⟩
                      rw [ivs_app]
                      exact ho)
                    obtain ⟨CS, hCS⟩ : ∃ CS, ivs l = CS := ⟨_, rfl⟩
                    rw [hCS] at FIN ON1 RD1
                    clear hCS hrd
                    refine wp_region_noPanic ?_
                    refine OrdT.region_T (S := fun w' => w'.cell? ⟨gb, 1, none⟩ = some (.int .i64 x)) 7 (by kernel_rfl) ?_ (fun hHeld => ?_)
                    · exact KS.out _ (bel_drew (Below.refl _ _))
                    refine OrdT.AnyT.take (i := 1) (v := ?_) (some 148) (by rfl) (by rfl) (by kernel_rfl) (by kernel_rfl) (by kernel_rfl) (by kernel_rfl) (fun _ _ _ h => h) (Or.inl ⟨by rfl, ?_⟩) (by assumption) ?_
                    rotate_left
                    · intro w hSw; (try dsimp only at hSw); first | (go_simp; done) | (go_simp; with_reducible rfl)
                    (try simp only [Act.put, List.setIfInBounds_toArray, List.set_cons_zero, List.set_cons_succ])
                    refine OrdT.AnyT.take (i := 3) (v := ?_) (some 150) (by rfl) (by rfl) (by kernel_rfl) (by kernel_rfl) (by kernel_rfl) (by kernel_rfl) (fun _ _ _ h => h) (Or.inl ⟨by rfl, ?_⟩) (by assumption) ?_
                    rotate_left
                    · intro w hSw; (try dsimp only at hSw); first | (go_simp; done) | (go_simp; with_reducible rfl)
                    (try simp only [Act.put, List.setIfInBounds_toArray, List.set_cons_zero, List.set_cons_succ])
                    refine OrdT.AnyT.take (i := 4) (v := ?_) (some 151) (by rfl) (by rfl) (by kernel_rfl) (by kernel_rfl) (by kernel_rfl) (by kernel_rfl) (fun _ _ _ h => h) (Or.inl ⟨by rfl, ?_⟩) (by assumption) ?_
                    rotate_left
                    · intro w hSw; (try dsimp only at hSw); first | (go_simp; done) | (go_simp; with_reducible rfl)
                    (try simp only [Act.put, List.setIfInBounds_toArray, List.set_cons_zero, List.set_cons_succ])
                    clear hHeld
                    refine OrdT.AnyT.two (i := 0) (j := 5) (by kernel_rfl) (by rfl) (by rfl) (fun K hK => ?_) (fun K hK => ?_)
                    · go_simp
                      refine hK.out _ _ (fun _ => KS.out _ (by repeat (first | exact Below.refl _ _ | exact HB3 | exact HB2 | exact HB1 | refine bel_drew ?_ | refine bel_alloc ?_ (Nat.le_refl _) _))) ?_
                      clear hK K
                      (try simp only [Act.put, List.setIfInBounds_toArray, List.set_cons_zero, List.set_cons_succ])
                      refine OrdT.AnyT.two (i := 2) (j := 5) (by kernel_rfl) (by rfl) (by rfl) (fun K hK => ?_) (fun K hK => ?_)
                      · refine step_append_rd (some 149) (by rfl) (by rfl) _ _ 28 (by rfl) w5.heap.size 3 i0 (.int .i64 0) 1 8 Try.underlying28 hi hz0 hz1 hz2 rfl (by decide) (.slice (some ⟨w5.heap.size, 0, none⟩) 0 0) 0 [] (by rfl) (by exact own_empty (by exact heap_alloc_at _ _ _ (by simp)) (Nat.le_refl _)) _ (.slice pu M cu) M CS (by rfl) (by exact (RD1.out.below (by repeat (first | exact Below.refl _ _ | exact HB3 | exact HB2 | exact HB1 | refine bel_drew ?_ | refine bel_alloc ?_ (Nat.le_refl _) _)))) (by exact ON1.out) M (by exact Nat.zero_add M) CS (by exact List.nil_append CS) (by exact SZ1.out.1) (by exact SZ1.out.2) (by exact bel_le (W := w5) (Nat.le_refl _) (by repeat (first | exact Below.refl _ _ | exact HB3 | exact HB2 | exact HB1 | refine bel_drew ?_ | refine bel_alloc ?_ (Nat.le_refl _) _))) ?_
                        intro qq1 dd1 ww1 ho1 hg1 ha1 hp1
                        have HB1 : Below w5.heap.size w5 ww1 := below_grown (by repeat (first | exact Below.refl _ _ | exact HB3 | exact HB2 | exact HB1 | refine bel_drew ?_ | refine bel_alloc ?_ (Nat.le_refl _) _)) (by exact bel_le (W := w5) (Nat.le_refl _) (by repeat (first | exact Below.refl _ _ | exact HB3 | exact HB2 | exact HB1 | refine bel_drew ?_ | refine bel_alloc ?_ (Nat.le_refl _) _))) hg1 hp1
                        clear ha1 hp1
                        refine hK.out _ _ (fun _ => KS.out _ HB1) ?_
                        clear hK K
                        (try simp only [Act.put, List.setIfInBounds_toArray, List.set_cons_zero, List.set_cons_succ])
                        refine OrdT.AnyT.one (i := 5) (by kernel_rfl) (by rfl) (fun K hK => ?_)
                        go_simp
                        refine hK.out _ _ (fun _ => KS.out _ (by repeat (first | exact Below.refl _ _ | exact HB3 | exact HB2 | exact HB1 | refine bel_drew ?_ | refine bel_alloc ?_ (Nat.le_refl _) _))) ?_
                        clear hK K
                        (try simp only [Act.put, List.setIfInBounds_toArray, List.set_cons_zero, List.set_cons_succ])
                        refine OrdT.AnyT.one (i := 6) (by kernel_rfl) (by rfl) (fun K hK => ?_)
                        refine step_append_rd (some 153) (by rfl) (by rfl) _ _ 28 (by rfl) w5.heap.size 3 i0 (.int .i64 0) 1 8 Try.underlying28 hi hz0 hz1 hz2 rfl (by decide) (.slice qq1 M dd1) M CS (by rfl) (by first | exact ho1 | exact ho1.alloc _) _ (.slice (some ⟨ww1.heap.size, 0, none⟩) 1 1) 1 [.int .i64 x] (by rfl) (by exact rd_one (cs := #[.int .i64 x]) (heap_alloc_new _ _) rfl) (by exact ON2.out) (M + 1) (by exact rfl) (CS ++ [.int .i64 x]) (by exact rfl) (by exact SZ2.out.1) (by exact SZ2.out.2) (by exact bel_le (W := w5) (Nat.le_refl _) (by repeat (first | exact Below.refl _ _ | exact HB3 | exact HB2 | exact HB1 | refine bel_drew ?_ | refine bel_alloc ?_ (Nat.le_refl _) _))) ?_
                        intro qq2 dd2 ww2 ho2 hg2 ha2 hp2
                        have HB2 : Below w5.heap.size w5 ww2 := below_grown (by repeat (first | exact Below.refl _ _ | exact HB3 | exact HB2 | exact HB1 | refine bel_drew ?_ | refine bel_alloc ?_ (Nat.le_refl _) _)) (by exact bel_le (W := w5) (Nat.le_refl _) (by repeat (first | exact Below.refl _ _ | exact HB3 | exact HB2 | exact HB1 | refine bel_drew ?_ | refine bel_alloc ?_ (Nat.le_refl _) _))) hg2 hp2
                        clear ha2 hp2
                        refine hK.out _ _ (fun _ => KS.out _ HB2) ?_
                        clear hK K
                        (try simp only [Act.put, List.setIfInBounds_toArray, List.set_cons_zero, List.set_cons_succ])
                        refine OrdT.AnyT.one (i := 7) (by kernel_rfl) (by rfl) (fun K hK => ?_)
                        go_simp
                        refine hK.out _ _ (fun h => absurd rfl h) ?_
                        clear hK K
                        (try simp only [Act.put, List.setIfInBounds_toArray, List.set_cons_zero, List.set_cons_succ])
                        refine OrdT.AnyT.done (by kernel_rfl) ?_ _
                        refine NoPanic.normal ?_
                        go_wp2
                        go_meet
                        case rel => exact FIN.out _ _ HB2 ho2
                      · go_simp
                        refine hK.out _ _ (fun _ => KS.out _ (by repeat (first | exact Below.refl _ _ | exact HB3 | exact HB2 | exact HB1 | refine bel_drew ?_ | refine bel_alloc ?_ (Nat.le_refl _) _))) ?_
                        clear hK K
                        (try simp only [Act.put, List.setIfInBounds_toArray, List.set_cons_zero, List.set_cons_succ])
                        refine OrdT.AnyT.one (i := 2) (by kernel_rfl) (by rfl) (fun K hK => ?_)
                        refine step_append_rd (some 149) (by rfl) (by rfl) _ _ 28 (by rfl) w5.heap.size 3 i0 (.int .i64 0) 1 8 Try.underlying28 hi hz0 hz1 hz2 rfl (by decide) (.slice (some ⟨w5.heap.size, 0, none⟩) 0 0) 0 [] (by rfl) (by exact own_empty (by exact (heap_alloc_old _ _ (by simp)).trans (heap_alloc_at _ _ _ (by simp))) (Nat.le_refl _)) _ (.slice pu M cu) M CS (by rfl) (by exact (RD1.out.below (by repeat (first | exact Below.refl _ _ | exact HB3 | exact HB2 | exact HB1 | refine bel_drew ?_ | refine bel_alloc ?_ (Nat.le_refl _) _)))) (by exact ON1.out) M (by exact Nat.zero_add M) CS (by exact List.nil_append CS) (by exact SZ1.out.1) (by exact SZ1.out.2) (by exact bel_le (W := w5) (Nat.le_refl _) (by repeat (first | exact Below.refl _ _ | exact HB3 | exact HB2 | exact HB1 | refine bel_drew ?_ | refine bel_alloc ?_ (Nat.le_refl _) _))) ?_
                        intro qq1 dd1 ww1 ho1 hg1 ha1 hp1
                        have HB1 : Below w5.heap.size w5 ww1 := below_grown (by repeat (first | exact Below.refl _ _ | exact HB3 | exact HB2 | exact HB1 | refine bel_drew ?_ | refine bel_alloc ?_ (Nat.le_refl _) _)) (by exact bel_le (W := w5) (Nat.le_refl _) (by repeat (first | exact Below.refl _ _ | exact HB3 | exact HB2 | exact HB1 | refine bel_drew ?_ | refine bel_alloc ?_ (Nat.le_refl _) _))) hg1 hp1
                        clear ha1 hp1
                        refine hK.out _ _ (fun _ => KS.out _ HB1) ?_
                        clear hK K
                        (try simp only [Act.put, List.setIfInBounds_toArray, List.set_cons_zero, List.set_cons_succ])
                        refine OrdT.AnyT.one (i := 6) (by kernel_rfl) (by rfl) (fun K hK => ?_)
                        refine step_append_rd (some 153) (by rfl) (by rfl) _ _ 28 (by rfl) w5.heap.size 3 i0 (.int .i64 0) 1 8 Try.underlying28 hi hz0 hz1 hz2 rfl (by decide) (.slice qq1 M dd1) M CS (by rfl) (by first | exact ho1 | exact ho1.alloc _) _ (.slice (some ⟨(w5.heap.size + 1), 0, none⟩) 1 1) 1 [.int .i64 x] (by rfl) (by exact rd_one (cs := #[.int .i64 x]) ((hg1.block (w5.heap.size + 1) (by simp) (by simp [Value.ownBlock])).trans (heap_alloc_at _ _ _ (by simp))) rfl) (by exact ON2.out) (M + 1) (by exact rfl) (CS ++ [.int .i64 x]) (by exact rfl) (by exact SZ2.out.1) (by exact SZ2.out.2) (by exact bel_le (W := w5) (Nat.le_refl _) (by repeat (first | exact Below.refl _ _ | exact HB3 | exact HB2 | exact HB1 | refine bel_drew ?_ | refine bel_alloc ?_ (Nat.le_refl _) _))) ?_
                        intro qq2 dd2 ww2 ho2 hg2 ha2 hp2
                        have HB2 : Below w5.heap.size w5 ww2 := below_grown (by repeat (first | exact Below.refl _ _ | exact HB3 | exact HB2 | exact HB1 | refine bel_drew ?_ | refine bel_alloc ?_ (Nat.le_refl _) _)) (by exact bel_le (W := w5) (Nat.le_refl _) (by repeat (first | exact Below.refl _ _ | exact HB3 | exact HB2 | exact HB1 | refine bel_drew ?_ | refine bel_alloc ?_ (Nat.le_refl _) _))) hg2 hp2
                        clear ha2 hp2
                        refine hK.out _ _ (fun _ => KS.out _ HB2) ?_
                        clear hK K
                        (try simp only [Act.put, List.setIfInBounds_toArray, List.set_cons_zero, List.set_cons_succ])
                        refine OrdT.AnyT.one (i := 7) (by kernel_rfl) (by rfl) (fun K hK => ?_)
                        go_simp
                        refine hK.out _ _ (fun h => absurd rfl h) ?_
                        clear hK K
                        (try simp only [Act.put, List.setIfInBounds_toArray, List.set_cons_zero, List.set_cons_succ])
                        refine OrdT.AnyT.done (by kernel_rfl) ?_ _
                        refine NoPanic.normal ?_
                        go_wp2
                        go_meet
                        case rel => exact FIN.out _ _ HB2 ho2
                    · go_simp
                      refine hK.out _ _ (fun _ => KS.out _ (by repeat (first | exact Below.refl _ _ | exact HB3 | exact HB2 | exact HB1 | refine bel_drew ?_ | refine bel_alloc ?_ (Nat.le_refl _) _))) ?_
                      clear hK K
                      (try simp only [Act.put, List.setIfInBounds_toArray, List.set_cons_zero, List.set_cons_succ])
                      refine OrdT.AnyT.one (i := 0) (by kernel_rfl) (by rfl) (fun K hK => ?_)
                      go_simp
                      refine hK.out _ _ (fun _ => KS.out _ (by repeat (first | exact Below.refl _ _ | exact HB3 | exact HB2 | exact HB1 | refine bel_drew ?_ | refine bel_alloc ?_ (Nat.le_refl _) _))) ?_
                      clear hK K
                      (try simp only [Act.put, List.setIfInBounds_toArray, List.set_cons_zero, List.set_cons_succ])
                      refine OrdT.AnyT.one (i := 2) (by kernel_rfl) (by rfl) (fun K hK => ?_)
                      refine step_append_rd (some 149) (by rfl) (by rfl) _ _ 28 (by rfl) w5.heap.size 3 i0 (.int .i64 0) 1 8 Try.underlying28 hi hz0 hz1 hz2 rfl (by decide) (.slice (some ⟨(w5.heap.size + 1), 0, none⟩) 0 0) 0 [] (by rfl) (by exact own_empty (by exact heap_alloc_at _ _ _ (by simp)) (by omega)) _ (.slice pu M cu) M CS (by rfl) (by exact (RD1.out.below (by repeat (first | exact Below.refl _ _ | exact HB3 | exact HB2 | exact HB1 | refine bel_drew ?_ | refine bel_alloc ?_ (Nat.le_refl _) _)))) (by exact ON1.out) M (by exact Nat.zero_add M) CS (by exact List.nil_append CS) (by exact SZ1.out.1) (by exact SZ1.out.2) (by exact bel_le (W := w5) (Nat.le_refl _) (by repeat (first | exact Below.refl _ _ | exact HB3 | exact HB2 | exact HB1 | refine bel_drew ?_ | refine bel_alloc ?_ (Nat.le_refl _) _))) ?_
                      intro qq1 dd1 ww1 ho1 hg1 ha1 hp1
                      have HB1 : Below w5.heap.size w5 ww1 := below_grown (by repeat (first | exact Below.refl _ _ | exact HB3 | exact HB2 | exact HB1 | refine bel_drew ?_ | refine bel_alloc ?_ (Nat.le_refl _) _)) (by exact bel_le (W := w5) (Nat.le_refl _) (by repeat (first | exact Below.refl _ _ | exact HB3 | exact HB2 | exact HB1 | refine bel_drew ?_ | refine bel_alloc ?_ (Nat.le_refl _) _))) hg1 hp1
                      clear ha1 hp1
                      refine hK.out _ _ (fun _ => KS.out _ HB1) ?_
                      clear hK K
                      (try simp only [Act.put, List.setIfInBounds_toArray, List.set_cons_zero, List.set_cons_succ])
                      refine OrdT.AnyT.one (i := 6) (by kernel_rfl) (by rfl) (fun K hK => ?_)
                      refine step_append_rd (some 153) (by rfl) (by rfl) _ _ 28 (by rfl) w5.heap.size 3 i0 (.int .i64 0) 1 8 Try.underlying28 hi hz0 hz1 hz2 rfl (by decide) (.slice qq1 M dd1) M CS (by rfl) (by first | exact ho1 | exact ho1.alloc _) _ (.slice (some ⟨w5.heap.size, 0, none⟩) 1 1) 1 [.int .i64 x] (by rfl) (by exact rd_one (cs := #[.int .i64 x]) ((hg1.block w5.heap.size (by simp; omega) (by simp [Value.ownBlock])).trans ((heap_alloc_old _ _ (by simp)).trans (heap_alloc_at _ _ _ (by simp)))) rfl) (by exact ON2.out) (M + 1) (by exact rfl) (CS ++ [.int .i64 x]) (by exact rfl) (by exact SZ2.out.1) (by exact SZ2.out.2) (by exact bel_le (W := w5) (Nat.le_refl _) (by repeat (first | exact Below.refl _ _ | exact HB3 | exact HB2 | exact HB1 | refine bel_drew ?_ | refine bel_alloc ?_ (Nat.le_refl _) _))) ?_
                      intro qq2 dd2 ww2 ho2 hg2 ha2 hp2
                      have HB2 : Below w5.heap.size w5 ww2 := below_grown (by repeat (first | exact Below.refl _ _ | exact HB3 | exact HB2 | exact HB1 | refine bel_drew ?_ | refine bel_alloc ?_ (Nat.le_refl _) _)) (by exact bel_le (W := w5) (Nat.le_refl _) (by repeat (first | exact Below.refl _ _ | exact HB3 | exact HB2 | exact HB1 | refine bel_drew ?_ | refine bel_alloc ?_ (Nat.le_refl _) _))) hg2 hp2
                      clear ha2 hp2
                      refine hK.out _ _ (fun _ => KS.out _ HB2) ?_
                      clear hK K
                      (try simp only [Act.put, List.setIfInBounds_toArray, List.set_cons_zero, List.set_cons_succ])
                      refine OrdT.AnyT.one (i := 7) (by kernel_rfl) (by rfl) (fun K hK => ?_)
                      go_simp
                      refine hK.out _ _ (fun h => absurd rfl h) ?_
                      clear hK K
                      (try simp only [Act.put, List.setIfInBounds_toArray, List.set_cons_zero, List.set_cons_succ])
                      refine OrdT.AnyT.done (by kernel_rfl) ?_ _
                      refine NoPanic.normal ?_
                      go_wp2
                      go_meet
                      case rel => exact FIN.out _ _ HB2 ho2
                    -- ]]add
                  · have n0 : (op == 0) = false := by simp [h0]
                    by_cases h1 : op = 1
                    · subst h1
                      -- [[drop
                      rcases AC.out with ⟨rfl, hx⟩ | ⟨j, rfl, hj, hx, her⟩
                      · have DP := hide (fun (w : World) (F : Nat → Prop) (hI : At I W w b ⟨m, l⟩ F) => at_drop' (x := 2) (s' := ⟨m, l⟩) KK hI x (by unfold dropE; rw [if_neg hx]) (by unfold dropS; rw [List.erase_of_not_mem hx]))
                        go_wp2_with fail
                        refine (DP.out _ _ P1.out.it).mono ?_
                        rintro ee w5 ⟨F5, rfl, hA, hT⟩
                        have P5 := hide (P1.out.turn hA.out hT P1.out.key)
                        clear hA hT P1 B1 b0 b1 b2 b3 DP
                        go_wp2
                        go_meet
                        case rel => exact ⟨l, F5, P5⟩
                      have DP := hide (fun (w : World) (F : Nat → Prop) (hI : At I W w b ⟨m, l⟩ F) => at_drop' (x := 0) (s' := ⟨m, l.take j ++ l.drop (j + 1)⟩) KK hI x (by unfold dropE; rw [if_pos hx]) (by unfold dropS; rw [her]))
                      have KY : Hid (∀ y ∈ (⟨m, l.take j ++ l.drop (j + 1)⟩ : Rs).l, in64 y) := hide (by have := key_drop (s := ⟨m, l⟩) (id := x) P1.out.key; unfold dropS at this; rw [her] at this; exact this)
                      have j0 : (0 : Int) ≤ (j : Int) := by omega
                      have j1 : ¬ (j : Int) < 0 := by omega
                      rw [LM.out] at hj
                      go_wp2_with fail
                      refine (DP.out _ _ P1.out.it).mono ?_
                      rintro ee w5 ⟨F5, rfl, hA, hT⟩
                      have P5 := hide (P1.out.turn hA.out hT KY.out)
                      clear hA hT P1 B1 b0 b1 b2 b3 DP her KY
                      have hwk : IntKind.i64.wrap ((j : Int) + 1) = (j : Int) + 1 := by rw [IntKind.wrap_i64]; omega
                      go_upto_region 67 with fail
                      obtain ⟨i0, hi, hz0, hz1, hz2⟩ := infoP infoW
                      have hrd : RdC w5 w5.heap.size 1 (.slice pu M cu) M (ivs l) := by have := P5.out.row.is; unfold Is at this; rwa [LM.out] at this
                      obtain ⟨p1, c1', hs1, r1⟩ := hrd.upto 28 3 i0 Try.underlying28 hi hz1 (j) (by omega)
                      obtain ⟨p2, c2', hs2, r2⟩ := hrd.from 28 3 i0 Try.underlying28 hi hz1 (j + 1) (by omega)
                      rw [show ((j + 1 : Nat) : Int) = (j : Int) + 1 by omega] at hs2
                      have R1 := hide r1
                      have R3 := hide r2
                      obtain ⟨NB, hNB⟩ : ∃ NB, M - (j + 1) = NB := ⟨_, rfl⟩
                      obtain ⟨NT, hNT⟩ : ∃ NT, j + NB = NT := ⟨_, rfl⟩
                      have hsz : j ≤ 256 ∧ NT ≤ 256 := by omega
                      rw [hNB] at hs2 R3
                      obtain ⟨TK, hTK⟩ : ∃ TK, List.take ((j) * 1) (ivs l) = TK := ⟨_, rfl⟩
                      obtain ⟨DK, hDK⟩ : ∃ DK, List.drop ((j + 1) * 1) (ivs l) = DK := ⟨_, rfl⟩
                      obtain ⟨TK2, hTE⟩ : ∃ TK2, TK ++ DK = TK2 := ⟨_, rfl⟩
                      have on := ivs_one l
                      have ON1 : Hid (∀ u ∈ TK, u.oneCell' = true) := hide (fun u hu => on u (by rw [← hTK] at hu; first | exact List.mem_of_mem_take hu | exact List.mem_of_mem_drop hu))
                      have ON2 : Hid (∀ u ∈ DK, u.oneCell' = true) := hide (fun u hu => on u (by rw [← hDK] at hu; first | exact List.mem_of_mem_take hu | exact List.mem_of_mem_drop hu))
                      have SZ1 : Hid (j ≤ maxLen ∧ j * 8 ≤ 140737488355328) := hide ⟨by unfold maxLen; omega, by omega⟩
                      have SZ2 : Hid (NT ≤ maxLen ∧ NT * 8 ≤ 140737488355328) := hide ⟨by unfold maxLen; omega, by omega⟩
                      have KM := hide hNT
                      have TE2 := hide hTE
                      have FIN : Hid (∀ (u' : Value) w', Below w5.heap.size w5 w' → w'.ownsRow w5.heap.size 3 1 u' NT TK2 → ∃ l' F', Hid (Pw I W w' b ⟨m, l'⟩ F' u' l')) := hide (by
                        intro u' w' hB ho
                        have e2 : ivs (l.take j ++ l.drop (j + 1)) = TK2 := by rw [← hTE, ← hTK, ← hDK]; simp [ivs, List.map_take, List.map_drop]
                        have e1 : (l.take j ++ l.drop (j + 1)).length = NT := by rw [List.length_append, List.length_take, List.length_drop, LM.out]; omega
                        rw [← e2] at ho
                        exact ⟨l.take j ++ l.drop (j + 1), F5, hide (P5.out.fresh KK hB e1 ho)⟩)
                      rw [hTK] at R1
                      rw [hDK] at R3
                      clear r1 r2 hNT hTK hDK hTE on hrd hsz
                      refine wp_region_noPanic ?_
                      refine OrdT.region_T (S := fun _ => True) 10 (by kernel_rfl) ?_ (fun hHeld => ?_)
                      · exact trivial
                      refine OrdT.AnyT.take (i := 1) (v := ?_) (some 196) (by rfl) (by rfl) (by kernel_rfl) (by kernel_rfl) (by kernel_rfl) (by kernel_rfl) (fun _ _ _ h => h) (Or.inl ⟨by rfl, ?_⟩) (trivial) ?_
                      rotate_left
                      · intro w hSw; (try dsimp only at hSw); first | (go_simp; done) | (go_simp; with_reducible rfl)
                      (try simp only [Act.put, List.setIfInBounds_toArray, List.set_cons_zero, List.set_cons_succ])
                      refine OrdT.AnyT.take (i := 2) (v := ?_) (some 197) (by rfl) (by rfl) (by kernel_rfl) (by kernel_rfl) (by kernel_rfl) (by kernel_rfl) (fun _ _ _ h => h) (Or.inl ⟨by rfl, ?_⟩) (trivial) ?_
                      rotate_left
                      · intro w hSw; (try dsimp only at hSw); first | (go_simp; done) | (go_simp; with_reducible rfl)
                      (try simp only [Act.put, List.setIfInBounds_toArray, List.set_cons_zero, List.set_cons_succ])
                      refine OrdT.AnyT.take (i := 3) (v := ?_) (some 198) (by rfl) (by rfl) (by kernel_rfl) (by kernel_rfl) (by kernel_rfl) (by kernel_rfl) (fun _ _ _ h => h) (Or.inl ⟨by rfl, ?_⟩) (trivial) ?_
                      rotate_left
                      · intro w hSw; (try dsimp only at hSw); first | (go_simp; done) | (go_simp; with_reducible rfl)
                      (try simp only [Act.put, List.setIfInBounds_toArray, List.set_cons_zero, List.set_cons_succ])
                      refine OrdT.AnyT.take (i := 5) (v := ?_) (some 200) (by rfl) (by rfl) (by kernel_rfl) (by kernel_rfl) (by kernel_rfl) (by kernel_rfl) (fun _ _ _ h => h) (Or.inl ⟨by rfl, ?_⟩) (trivial) ?_
                      rotate_left
                      · intro w hSw; (try dsimp only at hSw); first | (go_simp; done) | (go_simp; with_reducible rfl)
                      (try simp only [Act.put, List.setIfInBounds_toArray, List.set_cons_zero, List.set_cons_succ])
                      refine OrdT.AnyT.take (i := 6) (v := ?_) (some 201) (by rfl) (by rfl) (by kernel_rfl) (by kernel_rfl) (by kernel_rfl) (by kernel_rfl) (fun _ _ _ h => h) (Or.inl ⟨by rfl, ?_⟩) (trivial) ?_
                      rotate_left
                      · intro w hSw; (try dsimp only at hSw); first | (go_simp; done) | (go_simp; with_reducible rfl)
                      (try simp only [Act.put, List.setIfInBounds_toArray, List.set_cons_zero, List.set_cons_succ])
                      refine OrdT.AnyT.take (i := 7) (v := ?_) (some 202) (by rfl) (by rfl) (by kernel_rfl) (by kernel_rfl) (by kernel_rfl) (by kernel_rfl) (fun _ _ _ h => h) (Or.inl ⟨by rfl, ?_⟩) (trivial) ?_
                      rotate_left
                      · intro w hSw; (try dsimp only at hSw); first | (go_simp; done) | (go_simp; with_reducible rfl)
                      (try simp only [Act.put, List.setIfInBounds_toArray, List.set_cons_zero, List.set_cons_succ])
                      refine OrdT.AnyT.take (i := 8) (v := ?_) (some 203) (by rfl) (by rfl) (by kernel_rfl) (by kernel_rfl) (by kernel_rfl) (by kernel_rfl) (fun _ _ _ h => h) (Or.inl ⟨by rfl, ?_⟩) (trivial) ?_
                      rotate_left
                      · intro w hSw; (try dsimp only at hSw); first | (go_simp; done) | (go_simp; with_reducible rfl)
                      (try simp only [Act.put, List.setIfInBounds_toArray, List.set_cons_zero, List.set_cons_succ])
                      clear hHeld
                      refine OrdT.AnyT.one (i := 0) (by kernel_rfl) (by rfl) (fun K hK => ?_)
                      go_simp
                      refine hK.out _ _ (fun _ => trivial) ?_
                      clear hK K
                      (try simp only [Act.put, List.setIfInBounds_toArray, List.set_cons_zero, List.set_cons_succ])
                      refine OrdT.AnyT.one (i := 4) (by kernel_rfl) (by rfl) (fun K hK => ?_)
                      refine step_append_rd (some 199) (by rfl) (by rfl) _ _ 28 (by rfl) w5.heap.size 3 i0 (.int .i64 0) 1 8 Try.underlying28 hi hz0 hz1 hz2 rfl (by decide) (.slice (some ⟨w5.heap.size, 0, none⟩) 0 0) 0 [] (by rfl) (by exact own_empty (by exact heap_alloc_at _ _ _ (by simp)) (Nat.le_refl _)) _ (.slice p1 j c1') (j) TK (by rfl) (by exact (R1.out.below (by repeat (first | exact Below.refl _ _ | exact HB3 | exact HB2 | exact HB1 | refine bel_drew ?_ | refine bel_alloc ?_ (Nat.le_refl _) _)))) (by exact ON1.out) (j) (by exact Nat.zero_add _) TK (by exact List.nil_append TK) (by exact SZ1.out.1) (by exact SZ1.out.2) (by exact bel_le (W := w5) (Nat.le_refl _) (by repeat (first | exact Below.refl _ _ | exact HB3 | exact HB2 | exact HB1 | refine bel_drew ?_ | refine bel_alloc ?_ (Nat.le_refl _) _))) ?_
                      intro qq1 dd1 ww1 ho1 hg1 ha1 hp1
                      have HB1 : Below w5.heap.size w5 ww1 := below_grown (by repeat (first | exact Below.refl _ _ | exact HB3 | exact HB2 | exact HB1 | refine bel_drew ?_ | refine bel_alloc ?_ (Nat.le_refl _) _)) (by exact bel_le (W := w5) (Nat.le_refl _) (by repeat (first | exact Below.refl _ _ | exact HB3 | exact HB2 | exact HB1 | refine bel_drew ?_ | refine bel_alloc ?_ (Nat.le_refl _) _))) hg1 hp1
                      clear ha1 hp1
                      refine hK.out _ _ (fun _ => trivial) ?_
                      clear hK K
                      (try simp only [Act.put, List.setIfInBounds_toArray, List.set_cons_zero, List.set_cons_succ])
                      refine OrdT.AnyT.one (i := 9) (by kernel_rfl) (by rfl) (fun K hK => ?_)
                      refine step_append_rd (some 204) (by rfl) (by rfl) _ _ 28 (by rfl) w5.heap.size 3 i0 (.int .i64 0) 1 8 Try.underlying28 hi hz0 hz1 hz2 rfl (by decide) (.slice qq1 j dd1) (j) TK (by rfl) (by exact ho1) _ (.slice p2 NB c2') (NB) DK (by rfl) (by exact (R3.out.below (by repeat (first | exact Below.refl _ _ | exact HB3 | exact HB2 | exact HB1 | refine bel_drew ?_ | refine bel_alloc ?_ (Nat.le_refl _) _)))) (by exact ON2.out) NT (by exact KM.out) TK2 (by exact TE2.out) (by exact SZ2.out.1) (by exact SZ2.out.2) (by exact bel_le (W := w5) (Nat.le_refl _) (by repeat (first | exact Below.refl _ _ | exact HB3 | exact HB2 | exact HB1 | refine bel_drew ?_ | refine bel_alloc ?_ (Nat.le_refl _) _))) ?_
                      intro qq2 dd2 ww2 ho2 hg2 ha2 hp2
                      have HB2 : Below w5.heap.size w5 ww2 := below_grown (by repeat (first | exact Below.refl _ _ | exact HB3 | exact HB2 | exact HB1 | refine bel_drew ?_ | refine bel_alloc ?_ (Nat.le_refl _) _)) (by exact bel_le (W := w5) (Nat.le_refl _) (by repeat (first | exact Below.refl _ _ | exact HB3 | exact HB2 | exact HB1 | refine bel_drew ?_ | refine bel_alloc ?_ (Nat.le_refl _) _))) hg2 hp2
                      clear ha2 hp2
                      refine hK.out _ _ (fun _ => trivial) ?_
                      clear hK K
                      (try simp only [Act.put, List.setIfInBounds_toArray, List.set_cons_zero, List.set_cons_succ])
                      refine OrdT.AnyT.one (i := 10) (by kernel_rfl) (by rfl) (fun K hK => ?_)
                      go_simp
                      refine hK.out _ _ (fun h => absurd rfl h) ?_
                      clear hK K
                      (try simp only [Act.put, List.setIfInBounds_toArray, List.set_cons_zero, List.set_cons_succ])
                      refine OrdT.AnyT.done (by kernel_rfl) ?_ _
                      refine NoPanic.normal ?_
                      go_wp2
                      go_meet
                      case rel => exact FIN.out _ _ HB2 ho2
                      -- ]]drop
                    · have n1 : (op == 1) = false := by simp [h1]
                      by_cases h2 : op = 2
                      · subst h2
                        -- [[take
                        have P1d := hide (P1.out.nx KK (bel_drew (Nx.refl w4)))
                        have B1d := hide (B1.out.nx (bel_drew (Nx.refl w4)))
                        have hse : seeL ⟨m, l⟩ n = l.take N := by unfold seeL; rw [NE.out]
                        have htk : takeS ⟨m, l⟩ n = ⟨m, l.drop N ++ l.take N⟩ := by unfold takeS; rw [NE.out]
                        have TK0 := hide (at_take' KK P1d.out.it n hse htk)
                        have KY : Hid (∀ y ∈ (⟨m, l.drop N ++ l.take N⟩ : Rs).l, in64 y) := hide (key_perm P1.out.key (turn_perm l N))
                        have hls : (l.take N).length = N := by rw [List.length_take, LM.out]; omega
                        have LS := hide hls
                        obtain ⟨i0', hi', hz0', hz1', hz2'⟩ := infoP infoW
                        have hrd' : RdC w4 w4.heap.size 1 (.slice pu M cu) M (ivs l) := by have := P1.out.row.is; unfold Is at this; rwa [LM.out] at this
                        obtain ⟨p9, c9, hs9, r9⟩ := hrd'.upto 28 3 i0' Try.underlying28 hi' hz1' N (by omega)
                        have UP : Hid (∀ (w : World) (F : Nat → Prop), Pw I W w b ⟨m, l.drop N ++ l.take N⟩ F (.slice pu M cu) l → Is w (.slice p9 N c9) (l.take N)) := hide (fun w F hP => by
                          have hrd : RdC w w.heap.size 1 (.slice pu M cu) M (ivs l) := by have := hP.row.is; unfold Is at this; rwa [LM.out] at this
                          obtain ⟨p8, c8, hs8, r8⟩ := hrd.upto 28 3 i0' Try.underlying28 hi' hz1' N (by omega)
                          have e := (hs8 w).symm.trans (hs9 w)
                          injection e with e
                          injection e with e1 _ e2
                          subst e1
                          subst e2
                          unfold Is
                          rw [LS.out]
                          have e3 : ivs (l.take N) = (ivs l).take (N * 1) := by rw [Nat.mul_one]; unfold ivs; rw [List.map_take]
                          rw [e3]; exact r8)
                        clear r9 hrd' hse htk hls hi' hz0' hz1' hz2'
                        go_wp2
                        go_region_held3 (fun w' => w'.cell? ⟨gb, 2, none⟩ = some (.int .i64 n))
                          (first | go_keep | exact B6.out.cells.2.2.1 | exact B5.out.cells.2.2.1)
                          ((first
                            | (go_at_call 14; refine TK0.out.mono ?_; rintro ee w5 ⟨v5, F5, rfl, hA, hT, hv⟩; have P5 := hide (P1d.out.turn hA.out hT KY.out); have B5 := hide (B1d.out.tn hT); have V5 := hide hv.out; have UPI := hide (UP.out _ _ P5.out); have IE := hide (ints_eq V5.out.is UPI.out rfl); clear hA hT hv)
                            | (go_at_call 13; refine IE.out.mono ?_; rintro ee w6 ⟨rfl, hb⟩; have P6 := hide (P5.out.nx KK hb); have B6 := hide (B5.out.nx hb); clear hb)))
                        go_upto_region 71 with fail
                        clear TK0 P1d B1d P1 B1 b0 b1 b2 b3 UP IE UPI V5 B5 P5 KY hs9
                        obtain ⟨i0, hi, hz0, hz1, hz2⟩ := infoP infoW
                        have hrd : RdC w6 w6.heap.size 1 (.slice pu M cu) M (ivs l) := by have := P6.out.row.is; unfold Is at this; rwa [LM.out] at this
                        obtain ⟨p1, c1', hs1, r1⟩ := hrd.from 28 3 i0 Try.underlying28 hi hz1 (N) (by omega)
                        obtain ⟨p2, c2', hs2, r2⟩ := hrd.upto 28 3 i0 Try.underlying28 hi hz1 (N) (by omega)
                        have R1 := hide r1
                        have R3 := hide r2
                        obtain ⟨NA, hNA⟩ : ∃ NA, M - (N) = NA := ⟨_, rfl⟩
                        obtain ⟨NT, hNT⟩ : ∃ NT, NA + N = NT := ⟨_, rfl⟩
                        have hsz : NA ≤ 256 ∧ NT ≤ 256 := by omega
                        rw [hNA] at hs1 R1
                        obtain ⟨TK, hTK⟩ : ∃ TK, List.drop ((N) * 1) (ivs l) = TK := ⟨_, rfl⟩
                        obtain ⟨DK, hDK⟩ : ∃ DK, List.take ((N) * 1) (ivs l) = DK := ⟨_, rfl⟩
                        obtain ⟨TK2, hTE⟩ : ∃ TK2, TK ++ DK = TK2 := ⟨_, rfl⟩
                        have on := ivs_one l
                        have ON1 : Hid (∀ u ∈ TK, u.oneCell' = true) := hide (fun u hu => on u (by rw [← hTK] at hu; first | exact List.mem_of_mem_take hu | exact List.mem_of_mem_drop hu))
                        have ON2 : Hid (∀ u ∈ DK, u.oneCell' = true) := hide (fun u hu => on u (by rw [← hDK] at hu; first | exact List.mem_of_mem_take hu | exact List.mem_of_mem_drop hu))
                        have SZ1 : Hid (NA ≤ maxLen ∧ NA * 8 ≤ 140737488355328) := hide ⟨by unfold maxLen; omega, by omega⟩
                        have SZ2 : Hid (NT ≤ maxLen ∧ NT * 8 ≤ 140737488355328) := hide ⟨by unfold maxLen; omega, by omega⟩
                        have KM := hide hNT
                        have TE2 := hide hTE
                        have FIN : Hid (∀ (u' : Value) w', Below w6.heap.size w6 w' → w'.ownsRow w6.heap.size 3 1 u' NT TK2 → ∃ l' F', Hid (Pw I W w' b ⟨m, l'⟩ F' u' l')) := hide (by
                          intro u' w' hB ho
                          have e2 : ivs (l.drop N ++ l.take N) = TK2 := by rw [← hTE, ← hTK, ← hDK]; simp [ivs, List.map_take, List.map_drop]
                          have e1 : (l.drop N ++ l.take N).length = NT := by rw [List.length_append, List.length_take, List.length_drop, LM.out]; omega
                          rw [← e2] at ho
                          exact ⟨l.drop N ++ l.take N, F5, hide (P6.out.fresh KK hB e1 ho)⟩)
                        rw [hTK] at R1
                        rw [hDK] at R3
                        clear r1 r2 hNT hTK hDK hTE on hrd hsz
                        refine wp_region_noPanic ?_
                        refine OrdT.region_T (S := fun _ => True) 9 (by kernel_rfl) ?_ (fun hHeld => ?_)
                        · exact trivial
                        refine OrdT.AnyT.take (i := 1) (v := ?_) (some 217) (by rfl) (by rfl) (by kernel_rfl) (by kernel_rfl) (by kernel_rfl) (by kernel_rfl) (fun _ _ _ h => h) (Or.inl ⟨by rfl, ?_⟩) (trivial) ?_
                        rotate_left
                        · intro w hSw; (try dsimp only at hSw); first | (go_simp; done) | (go_simp; with_reducible rfl)
                        (try simp only [Act.put, List.setIfInBounds_toArray, List.set_cons_zero, List.set_cons_succ])
                        refine OrdT.AnyT.take (i := 2) (v := ?_) (some 218) (by rfl) (by rfl) (by kernel_rfl) (by kernel_rfl) (by kernel_rfl) (by kernel_rfl) (fun _ _ _ h => h) (Or.inl ⟨by rfl, ?_⟩) (trivial) ?_
                        rotate_left
                        · intro w hSw; (try dsimp only at hSw); first | (go_simp; done) | (go_simp; with_reducible rfl)
                        (try simp only [Act.put, List.setIfInBounds_toArray, List.set_cons_zero, List.set_cons_succ])
                        refine OrdT.AnyT.take (i := 3) (v := ?_) (some 219) (by rfl) (by rfl) (by kernel_rfl) (by kernel_rfl) (by kernel_rfl) (by kernel_rfl) (fun _ _ _ h => h) (Or.inl ⟨by rfl, ?_⟩) (trivial) ?_
                        rotate_left
                        · intro w hSw; (try dsimp only at hSw); first | (go_simp; done) | (go_simp; with_reducible rfl)
                        (try simp only [Act.put, List.setIfInBounds_toArray, List.set_cons_zero, List.set_cons_succ])
                        refine OrdT.AnyT.take (i := 5) (v := ?_) (some 221) (by rfl) (by rfl) (by kernel_rfl) (by kernel_rfl) (by kernel_rfl) (by kernel_rfl) (fun _ _ _ h => h) (Or.inl ⟨by rfl, ?_⟩) (trivial) ?_
                        rotate_left
                        · intro w hSw; (try dsimp only at hSw); first | (go_simp; done) | (go_simp; with_reducible rfl)
                        (try simp only [Act.put, List.setIfInBounds_toArray, List.set_cons_zero, List.set_cons_succ])
                        refine OrdT.AnyT.take (i := 6) (v := ?_) (some 222) (by rfl) (by rfl) (by kernel_rfl) (by kernel_rfl) (by kernel_rfl) (by kernel_rfl) (fun _ _ _ h => h) (Or.inl ⟨by rfl, ?_⟩) (trivial) ?_
                        rotate_left
                        · intro w hSw; (try dsimp only at hSw); first | (go_simp; done) | (go_simp; with_reducible rfl)
                        (try simp only [Act.put, List.setIfInBounds_toArray, List.set_cons_zero, List.set_cons_succ])
                        refine OrdT.AnyT.take (i := 7) (v := ?_) (some 223) (by rfl) (by rfl) (by kernel_rfl) (by kernel_rfl) (by kernel_rfl) (by kernel_rfl) (fun _ _ _ h => h) (Or.inl ⟨by rfl, ?_⟩) (trivial) ?_
                        rotate_left
                        · intro w hSw; (try dsimp only at hSw); first | (go_simp; done) | (go_simp; with_reducible rfl)
                        (try simp only [Act.put, List.setIfInBounds_toArray, List.set_cons_zero, List.set_cons_succ])
                        clear hHeld
                        refine OrdT.AnyT.one (i := 0) (by kernel_rfl) (by rfl) (fun K hK => ?_)
                        go_simp
                        refine hK.out _ _ (fun _ => trivial) ?_
                        clear hK K
                        (try simp only [Act.put, List.setIfInBounds_toArray, List.set_cons_zero, List.set_cons_succ])
                        refine OrdT.AnyT.one (i := 4) (by kernel_rfl) (by rfl) (fun K hK => ?_)
                        refine step_append_rd (some 220) (by rfl) (by rfl) _ _ 28 (by rfl) w6.heap.size 3 i0 (.int .i64 0) 1 8 Try.underlying28 hi hz0 hz1 hz2 rfl (by decide) (.slice (some ⟨w6.heap.size, 0, none⟩) 0 0) 0 [] (by rfl) (by exact own_empty (by exact heap_alloc_at _ _ _ (by simp)) (Nat.le_refl _)) _ (.slice p1 NA c1') (NA) TK (by rfl) (by exact (R1.out.below (by repeat (first | exact Below.refl _ _ | exact HB3 | exact HB2 | exact HB1 | refine bel_drew ?_ | refine bel_alloc ?_ (Nat.le_refl _) _)))) (by exact ON1.out) (NA) (by exact Nat.zero_add _) TK (by exact List.nil_append TK) (by exact SZ1.out.1) (by exact SZ1.out.2) (by exact bel_le (W := w6) (Nat.le_refl _) (by repeat (first | exact Below.refl _ _ | exact HB3 | exact HB2 | exact HB1 | refine bel_drew ?_ | refine bel_alloc ?_ (Nat.le_refl _) _))) ?_
                        intro qq1 dd1 ww1 ho1 hg1 ha1 hp1
                        have HB1 : Below w6.heap.size w6 ww1 := below_grown (by repeat (first | exact Below.refl _ _ | exact HB3 | exact HB2 | exact HB1 | refine bel_drew ?_ | refine bel_alloc ?_ (Nat.le_refl _) _)) (by exact bel_le (W := w6) (Nat.le_refl _) (by repeat (first | exact Below.refl _ _ | exact HB3 | exact HB2 | exact HB1 | refine bel_drew ?_ | refine bel_alloc ?_ (Nat.le_refl _) _))) hg1 hp1
                        clear ha1 hp1
                        refine hK.out _ _ (fun _ => trivial) ?_
                        clear hK K
                        (try simp only [Act.put, List.setIfInBounds_toArray, List.set_cons_zero, List.set_cons_succ])
                        refine OrdT.AnyT.one (i := 8) (by kernel_rfl) (by rfl) (fun K hK => ?_)
                        refine step_append_rd (some 224) (by rfl) (by rfl) _ _ 28 (by rfl) w6.heap.size 3 i0 (.int .i64 0) 1 8 Try.underlying28 hi hz0 hz1 hz2 rfl (by decide) (.slice qq1 NA dd1) (NA) TK (by rfl) (by exact ho1) _ (.slice p2 N c2') (N) DK (by rfl) (by exact (R3.out.below (by repeat (first | exact Below.refl _ _ | exact HB3 | exact HB2 | exact HB1 | refine bel_drew ?_ | refine bel_alloc ?_ (Nat.le_refl _) _)))) (by exact ON2.out) NT (by exact KM.out) TK2 (by exact TE2.out) (by exact SZ2.out.1) (by exact SZ2.out.2) (by exact bel_le (W := w6) (Nat.le_refl _) (by repeat (first | exact Below.refl _ _ | exact HB3 | exact HB2 | exact HB1 | refine bel_drew ?_ | refine bel_alloc ?_ (Nat.le_refl _) _))) ?_
                        intro qq2 dd2 ww2 ho2 hg2 ha2 hp2
                        have HB2 : Below w6.heap.size w6 ww2 := below_grown (by repeat (first | exact Below.refl _ _ | exact HB3 | exact HB2 | exact HB1 | refine bel_drew ?_ | refine bel_alloc ?_ (Nat.le_refl _) _)) (by exact bel_le (W := w6) (Nat.le_refl _) (by repeat (first | exact Below.refl _ _ | exact HB3 | exact HB2 | exact HB1 | refine bel_drew ?_ | refine bel_alloc ?_ (Nat.le_refl _) _))) hg2 hp2
                        clear ha2 hp2
                        refine hK.out _ _ (fun _ => trivial) ?_
                        clear hK K
                        (try simp only [Act.put, List.setIfInBounds_toArray, List.set_cons_zero, List.set_cons_succ])
                        refine OrdT.AnyT.one (i := 9) (by kernel_rfl) (by rfl) (fun K hK => ?_)
                        go_simp
                        refine hK.out _ _ (fun h => absurd rfl h) ?_
                        clear hK K
                        (try simp only [Act.put, List.setIfInBounds_toArray, List.set_cons_zero, List.set_cons_succ])
                        refine OrdT.AnyT.done (by kernel_rfl) ?_ _
                        refine NoPanic.normal ?_
                        go_wp2
                        go_meet
                        case rel => exact FIN.out _ _ HB2 ho2
                        -- ]]take
                      · have n2 : (op == 2) = false := by simp [h2]
                        -- [[many
                        by_cases ht : 300 < t
                        · have dt : decide (300 < t) = true := decide_eq_true ht
                          go_wp2
                          go_ret
                          exact ⟨rfl, P1.out.it.nx⟩
                        have ht9 : t ≤ 300 := by omega
                        obtain ⟨T, hT⟩ : ∃ T, clT t = T := ⟨_, rfl⟩
                        have TE := hide hT
                        have hTi : (T : Int) = max t 0 := by rw [← hT]; unfold clT; omega
                        have hT300 : T ≤ 300 := by omega
                        have hTc : Hid ((∀ j : Nat, j < T → (j : Int) < t) ∧ ¬ (T : Int) < t) := hide ⟨fun j hj => by omega, by omega⟩
                        clear hT hTi
                        have RD0 : Hid (RdC w4 w4.heap.size 1 (.slice pu M cu) M (ivs l)) := hide (by have := P1.out.row.is; unfold Is at this; rwa [LM.out] at this)
                        have ND := hide P1.out.it.gd.nodup
                        have KY := hide P1.out.key
                        have hM1000 : M ≤ 1000 := by omega
                        have hmm := fun W => run_makeMap (P := Try.prog) 36 W
                        go_upto_block 5 with (at_builtin; refine wpList_rapp (w := w4) rfl _ _ rfl _ l M rfl rfl RD0.out hM1000 ?_; intro p5 c5 w5 H5)
                        have P5 := hide (P1.out.nx KK H5.out.2)
                        have B5 := hide (B1.out.nx H5.out.2)
                        have S5 : Hid (Sf w5 F (.slice p5 M c5) l) := hide ⟨by have := RdC.own H5.out.1; unfold Is; rw [LM.out]; exact this, fun k hk _ hf => by have := own_past H5.out.1 k hk; have := KK.kept.lt P1.out.it.it k hf; omega⟩
                        have Q0 := hide (pm_start KK P5.out B5.out S5.out)
                        clear P5 B5 S5 H5 P1 B1 b0 b1 b2 b3 RD0 AC hmm
                        generalize w5.heap.size = mb at *
                        generalize w5.alloc (.map #[] 0) = w6 at *
                        go_wp2
                        go_loopw [7, 17, 18] (fun u tt _ wr => ∃ j : Nat, j ≤ T ∧ tt = .int .i64 (j : Int) ∧ Hid (Pm I W wr b ⟨m, l⟩ F mb l (j * N) u (rot l (j * N)) (.slice p5 M c5) gb ⟨op, x, n, t⟩)) (fun _ tt _ _ => T - (intOf tt).toNat)
                        case atStart => exact ⟨0, by omega, rfl, by rw [Nat.zero_mul, rot_zero]; exact Q0⟩
                        case round =>
                          clear Q0
                          obtain ⟨j, hj, rfl, Q⟩ := hrel
                          obtain ⟨b0, b1, b2, b3⟩ := Q.out.bx.cells
                          obtain ⟨pq, cq, hu7, _, _⟩ := Q.out.row.is.form
                          subst hu7
                          have hlq : (rot l (j * N)).length = M := by rw [rot_len, LM.out]
                          have LQ := hide hlq
                          rw [hlq] at Q ⊢
                          clear hlq
                          by_cases hjT : j < T
                          · have hj1 : (j : Int) < t := by have := hTc.out.1 j hjT; omega
                            go_wp2
                            go_loopw [18] (fun kk wr => ∃ q : Nat, q ≤ N ∧ kk = .int .i64 (q : Int) ∧ Hid (Pm I W wr b ⟨m, l⟩ F mb l (j * N + q) (.slice pq M cq) (rot l (j * N)) (.slice p5 M c5) gb ⟨op, x, n, t⟩)) (fun kk _ => N - (intOf kk).toNat)
                            case atStart => exact ⟨0, by omega, rfl, Q⟩
                            case round =>
                              clear Q b0 b1 b2 b3
                              obtain ⟨q, hq, rfl, Q⟩ := hrel
                              by_cases hqN : q < N
                              · have hq1 : (q : Int) < (N : Int) := by omega
                                have hql : q < l.length := by rw [LM.out]; omega
                                have hqr : q < (rot l (j * N)).length := by rw [rot_len]; exact hql
                                obtain ⟨g7, o7, rfl, _, x7⟩ := Q.out.row.is.at hqr
                                have hat := rot_at (q := j * N) hql
                                have hin : in64 ((rot l (j * N)).getD q 0) := KY.out _ ((rot_perm l _).mem_iff.1 (get_mem hqr))
                                have hlk := Q.out.cm.look hin
                                have hb9 : j * N + q < 1000000 := by
                                  have := Nat.mul_le_mul (show j ≤ 300 by omega) (show N ≤ 256 by omega)
                                  omega
                                obtain ⟨w8, hup, Q8⟩ := Q.out.put KK hb9 hin hat
                                have hsn := seen_le l ((rot l (j * N)).getD q 0) (j * N + q)
                                have hqM : (q : Int) < (M : Int) := by omega
                                clear Q hat hin hql hqr
                                generalize (rot l (j * N)).getD q 0 = y at *
                                generalize seen l (j * N + q) y = sn at *
                                have hs9 : (sn : Int) ≤ 1000000 := by omega
                                clear hb9 hsn
                                go_wp2
                                go_round
                                case rel => exact ⟨q + 1, by omega, by go_num, Q8⟩
                                case measure => simp [intOf]; omega
                              · obtain rfl : N = q := by omega
                                clear hq hqN
                                go_upto_region 39 with fail
                                obtain ⟨i0, hi, hz0, hz1, hz2⟩ := infoP infoW
                                have hrd : RdC wr wr.heap.size 1 (.slice pq M cq) M (ivs (rot l (j * N))) := by have := Q.out.row.is; unfold Is at this; rwa [LQ.out] at this
                                obtain ⟨p1, c1', hs1, r1⟩ := hrd.from 28 3 i0 Try.underlying28 hi hz1 (N) (by omega)
                                obtain ⟨p2, c2', hs2, r2⟩ := hrd.upto 28 3 i0 Try.underlying28 hi hz1 (N) (by omega)
                                have R1 := hide r1
                                have R3 := hide r2
                                obtain ⟨NA, hNA⟩ : ∃ NA, M - (N) = NA := ⟨_, rfl⟩
                                obtain ⟨NT, hNT⟩ : ∃ NT, NA + N = NT := ⟨_, rfl⟩
                                have hsz : NA ≤ 256 ∧ NT ≤ 256 := by omega
                                rw [hNA] at hs1 R1
                                obtain ⟨TK, hTK⟩ : ∃ TK, List.drop ((N) * 1) (ivs (rot l (j * N))) = TK := ⟨_, rfl⟩
                                obtain ⟨DK, hDK⟩ : ∃ DK, List.take ((N) * 1) (ivs (rot l (j * N))) = DK := ⟨_, rfl⟩
                                obtain ⟨TK2, hTE⟩ : ∃ TK2, TK ++ DK = TK2 := ⟨_, rfl⟩
                                have on := ivs_one (rot l (j * N))
                                have ON1 : Hid (∀ u ∈ TK, u.oneCell' = true) := hide (fun u hu => on u (by rw [← hTK] at hu; first | exact List.mem_of_mem_take hu | exact List.mem_of_mem_drop hu))
                                have ON2 : Hid (∀ u ∈ DK, u.oneCell' = true) := hide (fun u hu => on u (by rw [← hDK] at hu; first | exact List.mem_of_mem_take hu | exact List.mem_of_mem_drop hu))
                                have SZ1 : Hid (NA ≤ maxLen ∧ NA * 8 ≤ 140737488355328) := hide ⟨by unfold maxLen; omega, by omega⟩
                                have SZ2 : Hid (NT ≤ maxLen ∧ NT * 8 ≤ 140737488355328) := hide ⟨by unfold maxLen; omega, by omega⟩
                                have KM := hide hNT
                                have TE2 := hide hTE
                                have FIN : Hid (∀ (u' : Value) w', Below wr.heap.size wr w' → w'.ownsRow wr.heap.size 3 1 u' NT TK2 → Hid (Pm I W w' b ⟨m, l⟩ F mb l ((j + 1) * N) u' (rot l ((j + 1) * N)) (.slice p5 M c5) gb ⟨op, x, n, t⟩)) := hide (by
                                  intro u' w' hB ho
                                  have e2 : ivs ((rot l (j * N)).drop N ++ (rot l (j * N)).take N) = TK2 := by rw [← hTE, ← hTK, ← hDK]; simp [ivs, List.map_take, List.map_drop]
                                  have e1 : ((rot l (j * N)).drop N ++ (rot l (j * N)).take N).length = NT := by rw [List.length_append, List.length_take, List.length_drop, LQ.out]; omega
                                  rw [← e2] at ho
                                  have hf := Q.out.fresh KK hB e1 ho
                                  rw [rot_more (by rw [LM.out]; exact hNM)] at hf
                                  rw [Nat.add_one_mul]
                                  exact hide hf)
                                rw [hTK] at R1
                                rw [hDK] at R3
                                clear r1 r2 hNT hTK hDK hTE on hrd hsz
                                refine wp_region_noPanic ?_
                                refine OrdT.region_T (S := fun _ => True) 9 (by kernel_rfl) ?_ (fun hHeld => ?_)
                                · exact trivial
                                refine OrdT.AnyT.take (i := 1) (v := ?_) (some 96) (by rfl) (by rfl) (by kernel_rfl) (by kernel_rfl) (by kernel_rfl) (by kernel_rfl) (fun _ _ _ h => h) (Or.inl ⟨by rfl, ?_⟩) (trivial) ?_
                                rotate_left
                                · intro w hSw; (try dsimp only at hSw); first | (go_simp; done) | (go_simp; with_reducible rfl)
                                (try simp only [Act.put, List.setIfInBounds_toArray, List.set_cons_zero, List.set_cons_succ])
                                refine OrdT.AnyT.take (i := 2) (v := ?_) (some 97) (by rfl) (by rfl) (by kernel_rfl) (by kernel_rfl) (by kernel_rfl) (by kernel_rfl) (fun _ _ _ h => h) (Or.inl ⟨by rfl, ?_⟩) (trivial) ?_
                                rotate_left
                                · intro w hSw; (try dsimp only at hSw); first | (go_simp; done) | (go_simp; with_reducible rfl)
                                (try simp only [Act.put, List.setIfInBounds_toArray, List.set_cons_zero, List.set_cons_succ])
                                refine OrdT.AnyT.take (i := 3) (v := ?_) (some 98) (by rfl) (by rfl) (by kernel_rfl) (by kernel_rfl) (by kernel_rfl) (by kernel_rfl) (fun _ _ _ h => h) (Or.inl ⟨by rfl, ?_⟩) (trivial) ?_
                                rotate_left
                                · intro w hSw; (try dsimp only at hSw); first | (go_simp; done) | (go_simp; with_reducible rfl)
                                (try simp only [Act.put, List.setIfInBounds_toArray, List.set_cons_zero, List.set_cons_succ])
                                refine OrdT.AnyT.take (i := 5) (v := ?_) (some 100) (by rfl) (by rfl) (by kernel_rfl) (by kernel_rfl) (by kernel_rfl) (by kernel_rfl) (fun _ _ _ h => h) (Or.inl ⟨by rfl, ?_⟩) (trivial) ?_
                                rotate_left
                                · intro w hSw; (try dsimp only at hSw); first | (go_simp; done) | (go_simp; with_reducible rfl)
                                (try simp only [Act.put, List.setIfInBounds_toArray, List.set_cons_zero, List.set_cons_succ])
                                refine OrdT.AnyT.take (i := 6) (v := ?_) (some 101) (by rfl) (by rfl) (by kernel_rfl) (by kernel_rfl) (by kernel_rfl) (by kernel_rfl) (fun _ _ _ h => h) (Or.inl ⟨by rfl, ?_⟩) (trivial) ?_
                                rotate_left
                                · intro w hSw; (try dsimp only at hSw); first | (go_simp; done) | (go_simp; with_reducible rfl)
                                (try simp only [Act.put, List.setIfInBounds_toArray, List.set_cons_zero, List.set_cons_succ])
                                refine OrdT.AnyT.take (i := 7) (v := ?_) (some 102) (by rfl) (by rfl) (by kernel_rfl) (by kernel_rfl) (by kernel_rfl) (by kernel_rfl) (fun _ _ _ h => h) (Or.inl ⟨by rfl, ?_⟩) (trivial) ?_
                                rotate_left
                                · intro w hSw; (try dsimp only at hSw); first | (go_simp; done) | (go_simp; with_reducible rfl)
                                (try simp only [Act.put, List.setIfInBounds_toArray, List.set_cons_zero, List.set_cons_succ])
                                clear hHeld
                                refine OrdT.AnyT.one (i := 0) (by kernel_rfl) (by rfl) (fun K hK => ?_)
                                go_simp
                                refine hK.out _ _ (fun _ => trivial) ?_
                                clear hK K
                                (try simp only [Act.put, List.setIfInBounds_toArray, List.set_cons_zero, List.set_cons_succ])
                                refine OrdT.AnyT.one (i := 4) (by kernel_rfl) (by rfl) (fun K hK => ?_)
                                refine step_append_rd (some 99) (by rfl) (by rfl) _ _ 28 (by rfl) wr.heap.size 3 i0 (.int .i64 0) 1 8 Try.underlying28 hi hz0 hz1 hz2 rfl (by decide) (.slice (some ⟨wr.heap.size, 0, none⟩) 0 0) 0 [] (by rfl) (by exact own_empty (by exact heap_alloc_at _ _ _ (by simp)) (Nat.le_refl _)) _ (.slice p1 NA c1') (NA) TK (by rfl) (by exact (R1.out.below (by repeat (first | exact Below.refl _ _ | exact HB3 | exact HB2 | exact HB1 | refine bel_drew ?_ | refine bel_alloc ?_ (Nat.le_refl _) _)))) (by exact ON1.out) (NA) (by exact Nat.zero_add _) TK (by exact List.nil_append TK) (by exact SZ1.out.1) (by exact SZ1.out.2) (by exact bel_le (W := wr) (Nat.le_refl _) (by repeat (first | exact Below.refl _ _ | exact HB3 | exact HB2 | exact HB1 | refine bel_drew ?_ | refine bel_alloc ?_ (Nat.le_refl _) _))) ?_
                                intro qq1 dd1 ww1 ho1 hg1 ha1 hp1
                                have HB1 : Below wr.heap.size wr ww1 := below_grown (by repeat (first | exact Below.refl _ _ | exact HB3 | exact HB2 | exact HB1 | refine bel_drew ?_ | refine bel_alloc ?_ (Nat.le_refl _) _)) (by exact bel_le (W := wr) (Nat.le_refl _) (by repeat (first | exact Below.refl _ _ | exact HB3 | exact HB2 | exact HB1 | refine bel_drew ?_ | refine bel_alloc ?_ (Nat.le_refl _) _))) hg1 hp1
                                clear ha1 hp1
                                refine hK.out _ _ (fun _ => trivial) ?_
                                clear hK K
                                (try simp only [Act.put, List.setIfInBounds_toArray, List.set_cons_zero, List.set_cons_succ])
                                refine OrdT.AnyT.one (i := 8) (by kernel_rfl) (by rfl) (fun K hK => ?_)
                                refine step_append_rd (some 103) (by rfl) (by rfl) _ _ 28 (by rfl) wr.heap.size 3 i0 (.int .i64 0) 1 8 Try.underlying28 hi hz0 hz1 hz2 rfl (by decide) (.slice qq1 NA dd1) (NA) TK (by rfl) (by exact ho1) _ (.slice p2 N c2') (N) DK (by rfl) (by exact (R3.out.below (by repeat (first | exact Below.refl _ _ | exact HB3 | exact HB2 | exact HB1 | refine bel_drew ?_ | refine bel_alloc ?_ (Nat.le_refl _) _)))) (by exact ON2.out) NT (by exact KM.out) TK2 (by exact TE2.out) (by exact SZ2.out.1) (by exact SZ2.out.2) (by exact bel_le (W := wr) (Nat.le_refl _) (by repeat (first | exact Below.refl _ _ | exact HB3 | exact HB2 | exact HB1 | refine bel_drew ?_ | refine bel_alloc ?_ (Nat.le_refl _) _))) ?_
                                intro qq2 dd2 ww2 ho2 hg2 ha2 hp2
                                have HB2 : Below wr.heap.size wr ww2 := below_grown (by repeat (first | exact Below.refl _ _ | exact HB3 | exact HB2 | exact HB1 | refine bel_drew ?_ | refine bel_alloc ?_ (Nat.le_refl _) _)) (by exact bel_le (W := wr) (Nat.le_refl _) (by repeat (first | exact Below.refl _ _ | exact HB3 | exact HB2 | exact HB1 | refine bel_drew ?_ | refine bel_alloc ?_ (Nat.le_refl _) _))) hg2 hp2
                                clear ha2 hp2
                                refine hK.out _ _ (fun _ => trivial) ?_
                                clear hK K
                                (try simp only [Act.put, List.setIfInBounds_toArray, List.set_cons_zero, List.set_cons_succ])
                                refine OrdT.AnyT.one (i := 9) (by kernel_rfl) (by rfl) (fun K hK => ?_)
                                go_simp
                                refine hK.out _ _ (fun h => absurd rfl h) ?_
                                clear hK K
                                (try simp only [Act.put, List.setIfInBounds_toArray, List.set_cons_zero, List.set_cons_succ])
                                refine OrdT.AnyT.done (by kernel_rfl) ?_ _
                                refine NoPanic.normal ?_
                                go_wp2
                                go_round
                                case rel => exact ⟨j + 1, by omega, by go_num, FIN.out _ _ HB2 ho2⟩
                                case measure => simp [intOf]; omega
                          · obtain rfl : T = j := by omega
                            have hj2 : ¬ (T : Int) < t := by have := hTc.out.2; omega
                            have hmc : Ct M (N * T) (manyC ⟨m, l⟩ n t) := by have := ct_many (s := ⟨m, l⟩) LM.out n t; rwa [NE.out, TE.out] at this
                            have hms : manyS ⟨m, l⟩ n t = ⟨m, rot l (T * N)⟩ := by unfold manyS; rw [NE.out, TE.out, Nat.mul_comm]
                            have MC := hide hmc
                            have HMa := hide (at_many KK Q.out.it n t)
                            rw [hms] at HMa
                            have KYT : Hid (∀ y ∈ (⟨m, rot l (T * N)⟩ : Rs).l, in64 y) := hide (key_perm KY.out (rot_perm l _))
                            clear hmc hms hj hjT
                            generalize manyC ⟨m, l⟩ n t = C at *
                            go_wp2_with fail
                            refine HMa.out.mono ?_
                            rintro ee w9 ⟨vc, vo, F9, rfl, hA, hT, hvc, hvo⟩
                            have Q9 := hide (Q.out.turn hA.out hT KYT.out)
                            have VC := hide hvc.out.is
                            have VO := hide hvo.out.is
                            obtain ⟨pc, cc, rfl, _, _⟩ := hvc.out.is.form
                            rw [MC.out.1] at VC ⊢
                            clear hA hT hvc hvo Q HMa KYT b0 b1 b2 b3
                            go_wp2_with fail
                            refine (ints_eq VO.out Q9.out.row.is rfl).mono ?_
                            rintro ee w10 ⟨rfl, hb⟩
                            have Q10 := hide (Q9.out.nx KK hb)
                            have VC10 := hide (VC.out.below hb)
                            clear hb Q9 VC VO
                            go_wp2
                            go_loopw [21] (fun kk wr => ∃ q : Nat, q ≤ M ∧ kk = .int .i64 (q : Int) ∧ Hid (Nx w10 wr)) (fun kk _ => M - (intOf kk).toNat)
                            case atStart => exact ⟨0, by omega, rfl, hide (Nx.refl _)⟩
                            case round =>
                              obtain ⟨q, hq, rfl, HN⟩ := hrel
                              by_cases hqM : q < M
                              · have hq1 : (q : Int) < (M : Int) := by omega
                                have hql : q < l.length := by rw [LM.out]; exact hqM
                                obtain ⟨gc, oc, rfl, _, xc⟩ := (VC10.out.below HN.out).at (show q < C.length by rw [MC.out.1]; exact hqM)
                                obtain ⟨go, oo, rfl, _, xo⟩ := (Q10.out.old.is.below HN.out).at hql
                                rw [MC.out.2 q hqM] at xc
                                have hi : l[q]? = some (l.getD q 0) := by rw [List.getD_eq_getElem?_getD, List.getElem?_eq_getElem hql]; rfl
                                have hse := seen_cnt ND.out hi (T * N)
                                have hlk : ∀ d, (Instr.lookup 36 (.map (some mb)) (.int .i64 (l.getD q 0)) false).run Try.prog (wr.drewN d) = .ok (.int .i64 ((cnt M (N * T) q : Nat) : Int)) (wr.drewN d) := fun d => by
                                  have h := (Q10.out.nx KK (Nx.trans HN.out (bel_drewN (Nx.refl _) d))).cm.look (KY.out _ (get_mem hql))
                                  rw [hse, LM.out, Nat.mul_comm T N] at h
                                  exact h
                                have HN' : Hid (∀ d, Nx w10 (wr.drewN d)) := hide (fun d => bel_drewN HN.out d)
                                clear hi hse hql HN
                                generalize l.getD q 0 = y at *
                                generalize cnt M (N * T) q = z at *
                                have hz : (((z : Nat) : Int) != ((z : Nat) : Int)) = false := by simp
                                have hlk0 := hlk 0
                                go_wp2
                                go_quiet (fail)
                                go_wp2
                                go_round
                                case rel => exact ⟨q + 1, by omega, by go_num, hide (HN'.out _)⟩
                                case measure => simp [intOf]; omega
                              · obtain rfl : M = q := by omega
                                go_wp2
                                go_meet
                                case rel => exact ⟨rot l (T * N), F9, hide (Q10.out.nx KK HN.out).pw⟩
                        -- ]]many
                case rest =>
                  -- [[last
                  obtain ⟨l2, F2, R⟩ := hcut
                  obtain ⟨pu2, cu2, hu2, _, _⟩ := R.out.row.is.form
                  subst hu2
                  obtain ⟨M2, hM2⟩ : ∃ M2, l2.length = M2 := ⟨_, rfl⟩
                  have LM2 := hide hM2
                  have h2562 : M2 ≤ 256 := by rw [← hM2]; exact R.out.len
                  have hse : seeL ⟨m, l2⟩ 1000 = l2 := by unfold seeL; rw [List.take_of_length_le]; unfold clN; show l2.length ≤ (min (max 1000 0) (l2.length : Int)).toNat; omega
                  have HS := hide hse
                  have HL := hide (fun (w : World) (F : Nat → Prop) (hI : At I W w b ⟨m, l2⟩ F) => at_len' (x := (M2 : Int)) KK hI (by rw [← hM2]))
                  rw [hM2] at R ⊢
                  clear hM2 hse AC P1 B1 b0 b1 b2 b3
                  go_wp2_with fail
                  refine (HL.out _ _ R.out.it).mono ?_
                  rintro ee w5 ⟨rfl, hA, hb⟩
                  have R5 := hide (R.out.nx KK hb)
                  clear hA hb R
                  go_wp2_with fail
                  refine (at_see' KK R5.out.it 1000 HS.out).mono ?_
                  rintro ee w6 ⟨v6, F6, rfl, hA, hT, hz⟩
                  have R6 := hide (R5.out.turn hA.out hT R5.out.key)
                  have Z6 := hide hz.out
                  clear hA hT hz R5
                  go_wp2_with fail
                  refine (ints_eq Z6.out.is R6.out.row.is rfl).mono ?_
                  rintro ee w7 ⟨rfl, hb⟩
                  have R7 := hide (R6.out.nx KK hb)
                  clear hb R6 Z6
                  go_wp2
                  go_roundw
                  case rel => exact ⟨k + 1, by omega, by go_num, l2, F6, R7⟩
                  case measure => simp [intOf]; omega
                  -- ]]last
        · obtain rfl : k = Kn := by omega
          go_wp2
          go_ret
          exact ⟨rfl, HR.out.it.nx⟩
end Go.Proofs.Ytndmmhikhfndaaa.Rb
