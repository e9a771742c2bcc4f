/- FifoPlays' walk. -/
import Derived.Test.YtlidklcdolcidaaQPlay
import Derived.Test.YtlidklcdolcidaaQDrops
import Derived.Test.YtlidklcdolcidaaOrdT
import Derived.Deep.CutBlock
namespace Go.Proofs.Ytlidklcdolcidaa.Con
open Go.RowKit
set_option linter.unusedVariables false
set_option linter.unusedSimpArgs false
attribute [local go_sem ↓] Go.wp_at_zero Go.wp_at_succ
/-- A call: what, and with which number. -/
structure Ac where
  op : Int
  x : Int
def ac' (l : List Ac) (i : Nat) : Ac := l.getD i ⟨0, 0⟩
theorem pl_start {W w0 w1 : World} {fb : Nat} {n : Int} (h0 : Below W.heap.size W w0) (hF : Fi w1 w0.heap.size fb (held n) (.slice none 0 0) []) (hB : Below w0.heap.size w0 w1) : PL W w1 fb (held n) (.slice none 0 0) [] (.slice none 0 0) [] :=
  ⟨hF.mono h0.size, ⟨by simp [intsV], none, 0, rfl, Nat.le_refl _, Nat.zero_le _, fun h => by simp at h⟩, h0.trans (hB.mono h0.size), fun k hk => by simp [Value.ownBlock] at hk⟩
set_option maxRecDepth 100000 in
set_option maxHeartbeats 4000000 in
theorem plays_walk (most : Int) (p : Option Addr) (c : Nat) (zs : List Ac) (W : World) (hl : zs.length ≤ 9223372036854775807)
    (h1 : zs.length ≤ 300 → 0 < zs.length → ∃ b o, p = some ⟨b, o, none⟩ ∧ b < W.heap.size ∧ ∀ j, j < zs.length → W.cell? ⟨b, o + j * 2, none⟩ = some (.int .i64 (ac' zs j).op) ∧ W.cell? ⟨b, o + j * 2 + 1, none⟩ = some (.int .i64 (ac' zs j).x)) :
    Calls Try.prog 4 #[.int .i64 most, .slice p zs.length c] W fun e w' => e = .returned (.bool true) ∧ Below W.heap.size W w' := by
  have hA := hide (awake_any W)
  by_cases hn : 300 < zs.length
  · have hn' : (300 : Int) < (zs.length : Int) := by omega
    go_enter Try.func4, Try.ntmps4
    go_wp2_with (go_at_call 7; refine hA.out.mono ?_; rintro e w1 ⟨rfl, hB1⟩)
    go_ret
    exact ⟨rfl, hB1⟩
  · have H1 := hide (h1 (by omega))
    clear h1
    have hn' : ¬ (300 : Int) < (zs.length : Int) := by omega
    obtain ⟨K, hnn⟩ : ∃ n, zs.length = n := ⟨_, rfl⟩
    have NN := hide hnn
    rw [hnn] at hl hn hn' ⊢
    clear hnn
    have HN := hide (fun W' => new_any most W')
    unfold NewPost at HN
    go_enter Try.func4, Try.ntmps4
    go_upto_region 7 with (first
      | (go_at_call 7; refine hA.out.mono ?_; rintro e w0 ⟨rfl, hB0⟩; have HB0 := hide hB0; clear hB0)
      | (go_at_call 8; refine (HN.out _).mono ?_; rintro e w1 ⟨fb, rfl, hT, hB⟩; have J0 := hide (pl_start HB0.out hT hB); clear hT hB))
    clear HB0 HN hA
    obtain ⟨m, hm⟩ : ∃ m, held most = m := ⟨_, rfl⟩
    have hm1 : min (max most 1) 256 = (m : Int) := by rw [← hm]; unfold held; omega
    rw [hm] at J0
    have HM := hide hm1
    clear hm hm1
    go_upto_if 25 with fail
    go_cut [6] from 23 to 181 (fun s wx => s = .int .i64 (max most 1) ∧ wx = w1)
    case first => as_aux_lemma =>
      by_cases q : most < 1
      · have E : Hid (max most 1 = 1) := hide (by omega)
        go_wp2
        go_meet
        case rel => exact ⟨by rw [E.out], rfl⟩
      · have E : Hid (max most 1 = most) := hide (by omega)
        go_wp2
        go_meet
        case rel => exact ⟨by rw [E.out], rfl⟩
    case rest =>
      obtain ⟨rfl, hwc⟩ := hcut
      have hwc' := hwc.symm
      clear hwc
      subst hwc'
      go_upto_if 27 with fail
      go_cut [6] from 23 to 181 (fun s wx => s = .int .i64 (m : Int) ∧ wx = w1)
      case first => as_aux_lemma =>
        have hm := HM.out
        clear HM
        generalize max most 1 = r at *
        by_cases q : 256 < r
        · have E : Hid ((m : Int) = 256) := hide (by omega)
          clear hm
          go_wp2
          go_meet
          case rel => exact ⟨by rw [E.out], rfl⟩
        · have E : Hid ((m : Int) = r) := hide (by omega)
          clear hm
          go_wp2
          go_meet
          case rel => exact ⟨by rw [E.out], rfl⟩
      case rest =>
        obtain ⟨rfl, hwc⟩ := hcut
        have hwc' := hwc.symm
        clear hwc
        subst hwc'
        clear HM
        go_wp2
        go_loopw [7, 8] (fun u s wr => ∃ k : Nat, k ≤ K ∧ s = .int .i64 k ∧ ∃ v xs, Hid (PL W wr fb m v xs u xs)) (fun _ s _ => K - (intOf s).toNat)
        case atStart => exact ⟨0, by omega, rfl, _, _, J0⟩
        case round =>
          clear J0
          obtain ⟨k, hk, rfl, v, xs, HR⟩ := hrel
          by_cases hkn : k < K
          · obtain ⟨q, cc, hu⟩ := HR.out.form
            subst hu
            obtain ⟨b, o, rfl, hbl, hcl⟩ := H1.out (by rw [NN.out]; omega)
            obtain ⟨q0, q1⟩ := hcl k (by rw [NN.out]; exact hkn)
            have a0 : wr.cell? ⟨b, o + k * 2, none⟩ = some (.int .i64 (ac' zs k).op) := by rw [HR.out.below.cell (p := ⟨b, o + k * 2, none⟩) hbl]; exact q0
            have a1 : wr.cell? ⟨b, o + k * 2 + 1, none⟩ = some (.int .i64 (ac' zs k).x) := by rw [HR.out.below.cell (p := ⟨b, o + k * 2 + 1, none⟩) hbl]; exact q1
            clear q0 q1 hcl
            generalize (ac' zs k).op = op at *
            generalize (ac' zs k).x = x at *
            have hk1 : (k : Int) < (K : Int) := by omega
            have hfit := HR.out.fi.fit
            have hhi := HR.out.fi.hi
            have hlo := HR.out.fi.lo
            have PE := hide (plf_end xs x)
            have PZ := hide (plf_zero xs x)
            have PP := hide (place_plc HR.out.fi x)
            have MP := hide (mem_plc xs x)
            obtain ⟨n, hxn⟩ : ∃ n, xs.length = n := ⟨_, rfl⟩
            have XN := hide hxn
            have FR := hide (pl_front HR.out)
            obtain ⟨hd, hhd⟩ : ∃ hd, xs.headD 0 = hd := ⟨_, rfl⟩
            obtain ⟨T, hT⟩ : ∃ T, decide (0 < xs.length) = T := ⟨_, rfl⟩
            rw [hhd, hT] at FR
            have HD := hide hhd
            have TT := hide hT
            rw [hxn] at hfit PE ⊢
            clear hxn hT hhd
            go_upto_block 2 with fail
            go_cut [10, 11] from 42 to 52 (fun s t wx => s = .int .i64 (plc xs x) ∧ t = .int .i64 (-1) ∧ wx = wr)
            case first => as_aux_lemma =>
              -- [[loop
              go_wp2
              go_loop [10, 11] (fun s t => ∃ j : Nat, j ≤ n ∧ t = .int .i64 ((j : Int) - 1) ∧ s = .int .i64 (plf xs x j)) (fun _ t => (intOf t + 1).toNat)
              case atStart => exact ⟨n, by omega, by go_num, by rw [PE.out]⟩
              case round =>
                obtain ⟨j, hj, rfl, rfl⟩ := hrel
                cases j with
                | succ j =>
                  have jj : ((j + 1 : Nat) : Int) - 1 = (j : Int) := by omega
                  rw [jj]
                  clear jj
                  obtain ⟨b2, o2, c2, e, _, hc⟩ := HR.out.at (by rw [XN.out]; omega)
                  have c0 := hc j (by rw [XN.out]; omega)
                  injection e with e _ e2
                  subst e
                  subst e2
                  have PH := hide (plf_hit (xs := xs) (x := x) (j := j) (by rw [XN.out]; omega))
                  have PM := hide (plf_miss (xs := xs) (x := x) (j := j) (by rw [XN.out]; omega))
                  have hj0 : (j : Int) < (n : Int) := by omega
                  generalize xs.getD j 0 = y at *
                  clear hc
                  by_cases hy : y = x
                  · have E := hide (PH.out hy)
                    subst hy
                    generalize plf xs y (j + 1) = A at *
                    go_wp2
                    go_round
                    case rel => exact ⟨j, by omega, by go_num, by rw [E.out]⟩
                    case measure => simp [intOf]
                  · have E := hide (PM.out hy)
                    generalize plf xs x (j + 1) = A at *
                    go_wp2
                    go_round
                    case rel => exact ⟨j, by omega, by go_num, by rw [E.out]⟩
                    case measure => simp [intOf]
                | zero =>
                  rw [PZ.out]
                  have j0 : ((0 : Nat) : Int) - 1 = -1 := by omega
                  rw [j0]
                  clear j0
                  generalize plc xs x = A at *
                  go_wp2
                  go_meet
                  case rel => exact ⟨rfl, rfl, rfl⟩
              -- ]]loop
            case rest =>
              obtain ⟨rfl, rfl, hwc⟩ := hcut
              have hwc' := hwc.symm
              clear hwc
              subst hwc'
              clear PE PZ
              obtain ⟨A, hA⟩ : ∃ A, plc xs x = A := ⟨_, rfl⟩
              rw [hA] at PP MP ⊢
              have PA := hide hA
              clear hA
              go_upto_region 23 with (go_at_call 10; refine FR.out.mono ?_; rintro e w2 ⟨rfl, hw⟩; have hw2 := hw.symm; clear hw; subst hw2)
              go_cut [79] from 28 to 181 (fun s wx => s = .bool false ∧ wx = wr)
              case first => as_aux_lemma =>
                -- [[test
                cases xs with
                | nil =>
                  obtain rfl : n = 0 := XN.out.symm
                  obtain rfl : T = false := TT.out.symm
                  go_wp2_with (go_at_call 15; refine PP.out.mono ?_; rintro e w2 ⟨rfl, hw⟩; have hw2 := hw.symm; clear hw; subst hw2)
                  go_meet
                  case rel => exact ⟨rfl, rfl⟩
                | cons y ys =>
                  obtain rfl : T = true := by rw [← TT.out]; simp
                  obtain rfl : hd = y := HD.out.symm
                  obtain ⟨b2, o2, c2, e, _, hc⟩ := HR.out.at (by simp)
                  have c0 : wr.cell? ⟨b2, o2, none⟩ = some (.int .i64 hd) := hc 0 (by simp)
                  injection e with e _ e2
                  subst e
                  subst e2
                  have n0 : (0 : Int) < (n : Int) := by have := XN.out; simp at this; omega
                  clear hc
                  go_wp2_with (go_at_call 15; refine PP.out.mono ?_; rintro e w2 ⟨rfl, hw⟩; have hw2 := hw.symm; clear hw; subst hw2)
                  go_meet
                  case rel => exact ⟨rfl, rfl⟩
                -- ]]test
              case rest =>
                obtain ⟨rfl, hwc⟩ := hcut
                have hwc' := hwc.symm
                clear hwc
                subst hwc'
                clear FR PP HD TT
                go_upto_block 4 with fail
                go_cut [7, 14, 15] from 28 to 181 (fun u s t wx => ∃ v' ys, Hid (PL W wx fb m v' ys u ys))
                case first => as_aux_lemma =>
                  by_cases h0 : op = 0
                  · subst h0
                    -- [[put
                    by_cases hnm : n < m
                    · have hnm' : (n : Int) < (m : Int) := by omega
                      have PU := hide (pl_put HR.out x (by rw [XN.out]; exact hnm))
                      go_wp2_with (first
                        | (go_at_call 13; refine PU.out.mono ?_; rintro e w2 ⟨rfl, v2, R2⟩)
                        | (at_builtin; refine wpList_rapp (w := w2) rfl _ _ rfl _ xs n XN.out rfl rfl (by have := R2.out.rd; rw [XN.out] at this; exact this) (by omega) ?_; intro p3 c3 w3 H3)
                        | (at_builtin; refine wpList_iapp (w := w3) rfl _ _ rfl w2.heap.size x _ xs rfl rfl (by exact H3.out.1) (by exact H3.out.2.size) (by rw [XN.out]; omega) ?_; intro p4 c4 w4 H4))
                      go_meet
                      case rel => exact ⟨v2, xs ++ [x], hide (R2.out.fresh (below_grown H3.out.2 H3.out.2.size H4.out.2.1 H3.out.1.past) H4.out.1)⟩
                    · have hnm' : ¬ (n : Int) < (m : Int) := by omega
                      have PU := hide (pl_full HR.out x (by rw [XN.out]; omega))
                      go_wp2_with (go_at_call 13; refine PU.out.mono ?_; rintro e w2 ⟨rfl, R2⟩)
                      go_meet
                      case rel => exact ⟨v, xs, by have := R2; rwa [XN.out] at this⟩
                    -- ]]put
                  · have n0 : (op == 0) = false := by simp [h0]
                    by_cases h1 : op = 1
                    · subst h1
                      -- [[get
                      cases xs with
                      | nil =>
                        obtain rfl : n = 0 := XN.out.symm
                        have GE := hide (get_none HR.out.fi)
                        go_wp2_with (go_at_call 9; refine GE.out.mono ?_; rintro e w2 ⟨rfl, hw⟩; have hw2 := hw.symm; clear hw; subst hw2)
                        go_meet
                        case rel => exact ⟨v, [], HR⟩
                      | cons y ys =>
                        obtain ⟨b2, o2, c2, e, hb2, hc⟩ := HR.out.at (by simp)
                        have n0 : (0 : Int) < (n : Int) := by have := XN.out; simp at this; omega
                        have GE := hide (pl_get HR.out)
                        have CL : Hid (∀ w' v' zs', PL W w' fb m v' zs' (.slice q (y :: ys).length cc) (y :: ys) → w'.cell? ⟨b2, o2, none⟩ = some (.int .i64 y)) := hide (fun w' v' zs' h => by
                          obtain ⟨b3, o3, c3, e3, _, hc3⟩ := h.at (by simp)
                          have := e.symm.trans e3
                          injection this with this _ _
                          injection this with this
                          injection this with t1 t2
                          subst t1
                          subst t2
                          exact hc3 0 (by simp))
                        injection e with e _ e2
                        subst e
                        subst e2
                        rw [XN.out] at CL GE
                        clear hc
                        go_upto_region 40 with (go_at_call 9; refine GE.out.mono ?_; rintro e w2 ⟨rfl, v2, R2⟩; have c0 := CL.out _ _ _ R2.out)
                        obtain ⟨p3, c3, hs3, R3⟩ := R2.out.tail
                        clear R2 GE CL
                        go_wp2
                        go_meet
                        case rel => exact ⟨v2, ys, R3⟩
                      -- ]]get
                    · have n1 : (op == 1) = false := by simp [h1]
                      by_cases h2 : op = 2
                      · subst h2
                        -- [[drop
                        have DP := hide (pl_drop HR.out x)
                        rw [MP.out] at DP
                        by_cases hA0 : 0 ≤ A
                        · have hx : x ∈ xs := Classical.byContradiction fun h => by have := plc_lt.2 h; rw [PA.out] at this; omega
                          obtain ⟨k2, hk2, hk2n⟩ : ∃ k2 : Nat, A = (k2 : Int) ∧ k2 < n := ⟨xs.idxOf x, by rw [← PA.out]; unfold plc; rw [if_pos hx], by rw [← XN.out]; exact List.idxOf_lt_length_of_mem hx⟩
                          have ER : Hid (xs.erase x = xs.take k2 ++ xs.drop (k2 + 1)) := hide (by
                            have e : xs.idxOf x = k2 := by
                              have := PA.out
                              unfold plc at this
                              rw [if_pos hx] at this
                              omega
                            rw [List.erase_eq_eraseIdx_of_idxOf e, List.eraseIdx_eq_take_drop_succ])
                          subst hk2
                          clear MP PA hx
                          go_upto_region 45 with (go_at_call 12; refine DP.out.mono ?_; rintro e w2 ⟨rfl, v2, R2⟩)
                          obtain ⟨i0, hi, hz0, hz1, hz2⟩ := info_parts infoI
                          have hwk : IntKind.i64.wrap ((k2 : Int) + 1) = (k2 : Int) + 1 := by rw [IntKind.wrap_i64]; omega
                          have hrd := R2.out.rd
                          rw [XN.out] at hrd
                          obtain ⟨p1, c1', hs1, r1⟩ := hrd.upto 31 3 i0 Try.underlying31 hi hz1 k2 (by omega)
                          obtain ⟨p2, c2', hs2, r2⟩ := hrd.from 31 3 i0 Try.underlying31 hi hz1 (k2 + 1) (by omega)
                          rw [show ((k2 + 1 : Nat) : Int) = (k2 : Int) + 1 by omega] at hs2
                          have R1 := hide r1
                          have R3 := hide r2
                          obtain ⟨M, hM⟩ : ∃ M, n - (k2 + 1) = M := ⟨_, rfl⟩
                          obtain ⟨N, hN⟩ : ∃ N, k2 + M = N := ⟨_, rfl⟩
                          rw [hM] at hs2 R3
                          obtain ⟨TK, hTK⟩ : ∃ TK, List.take (k2 * 1) (intsV xs) = TK := ⟨_, rfl⟩
                          obtain ⟨DK, hDK⟩ : ∃ DK, List.drop ((k2 + 1) * 1) (intsV xs) = DK := ⟨_, rfl⟩
                          obtain ⟨TK2, hTE⟩ : ∃ TK2, TK ++ DK = TK2 := ⟨_, rfl⟩
                          have on := intsV_one xs
                          have ON1 : Hid (∀ u ∈ TK, u.oneCell' = true) := hide (fun u hu => on u (List.mem_of_mem_take (by rw [hTK]; exact hu)))
                          have ON2 : Hid (∀ u ∈ DK, u.oneCell' = true) := hide (fun u hu => on u (List.mem_of_mem_drop (by rw [hDK]; exact hu)))
                          have SZ1 : Hid (k2 ≤ maxLen ∧ k2 * 8 ≤ 140737488355328) := hide ⟨by unfold maxLen; omega, by omega⟩
                          have SZ2 : Hid (N ≤ maxLen ∧ N * 8 ≤ 140737488355328) := hide ⟨by unfold maxLen; omega, by omega⟩
                          have KM := hide hN
                          have TE2 := hide hTE
                          have FIN : Hid (∀ (u' : Value) w', Below w2.heap.size w2 w' → w'.ownsRow w2.heap.size 3 1 u' N TK2 → ∃ v' ys, Hid (PL W w' fb m v' ys u' ys)) := hide (by
                            intro u' w' hB ho
                            refine ⟨v2, _, hide (R2.out.fresh hB ?_)⟩
                            unfold IRow
                            rw [ER.out]
                            have hxl := XN.out
                            have e1 : (xs.take k2 ++ xs.drop (k2 + 1)).length = N := by rw [List.length_append, List.length_take, List.length_drop]; omega
                            have e2 : intsV (xs.take k2 ++ xs.drop (k2 + 1)) = TK2 := by rw [← hTE, ← hTK, ← hDK, Nat.mul_one, Nat.mul_one]; simp [intsV, List.map_take, List.map_drop]
                            rw [e1, e2]; exact ho)
                          rw [hTK] at R1
                          rw [hDK] at R3
                          clear r1 r2 hM hN hTK hDK hTE on hrd DP ER
                          refine wp_region_noPanic ?_
                          refine OrdT.region_T (S := fun _ => True) 10 (by kernel_rfl) ?_ (fun hHeld => ?_)
                          · exact trivial
                          refine OrdT.AnyT.take (i := 1) (v := ?_) (some 161) (by rfl) (by rfl) (by kernel_rfl) (by kernel_rfl) (by kernel_rfl) (by kernel_rfl) (fun _ _ _ h => h) (Or.inl ⟨by rfl, ?_⟩) (trivial) ?_
                          rotate_left
                          · intro w hSw; (try dsimp only at hSw); first | (go_simp; done) | (go_simp; with_reducible rfl)
                          (try simp only [Act.put, List.setIfInBounds_toArray, List.set_cons_zero, List.set_cons_succ])
                          refine OrdT.AnyT.take (i := 2) (v := ?_) (some 162) (by rfl) (by rfl) (by kernel_rfl) (by kernel_rfl) (by kernel_rfl) (by kernel_rfl) (fun _ _ _ h => h) (Or.inl ⟨by rfl, ?_⟩) (trivial) ?_
                          rotate_left
                          · intro w hSw; (try dsimp only at hSw); first | (go_simp; done) | (go_simp; with_reducible rfl)
                          (try simp only [Act.put, List.setIfInBounds_toArray, List.set_cons_zero, List.set_cons_succ])
                          refine OrdT.AnyT.take (i := 3) (v := ?_) (some 163) (by rfl) (by rfl) (by kernel_rfl) (by kernel_rfl) (by kernel_rfl) (by kernel_rfl) (fun _ _ _ h => h) (Or.inl ⟨by rfl, ?_⟩) (trivial) ?_
                          rotate_left
                          · intro w hSw; (try dsimp only at hSw); first | (go_simp; done) | (go_simp; with_reducible rfl)
                          (try simp only [Act.put, List.setIfInBounds_toArray, List.set_cons_zero, List.set_cons_succ])
                          refine OrdT.AnyT.take (i := 5) (v := ?_) (some 165) (by rfl) (by rfl) (by kernel_rfl) (by kernel_rfl) (by kernel_rfl) (by kernel_rfl) (fun _ _ _ h => h) (Or.inl ⟨by rfl, ?_⟩) (trivial) ?_
                          rotate_left
                          · intro w hSw; (try dsimp only at hSw); first | (go_simp; done) | (go_simp; with_reducible rfl)
                          (try simp only [Act.put, List.setIfInBounds_toArray, List.set_cons_zero, List.set_cons_succ])
                          refine OrdT.AnyT.take (i := 6) (v := ?_) (some 166) (by rfl) (by rfl) (by kernel_rfl) (by kernel_rfl) (by kernel_rfl) (by kernel_rfl) (fun _ _ _ h => h) (Or.inl ⟨by rfl, ?_⟩) (trivial) ?_
                          rotate_left
                          · intro w hSw; (try dsimp only at hSw); first | (go_simp; done) | (go_simp; with_reducible rfl)
                          (try simp only [Act.put, List.setIfInBounds_toArray, List.set_cons_zero, List.set_cons_succ])
                          refine OrdT.AnyT.take (i := 7) (v := ?_) (some 167) (by rfl) (by rfl) (by kernel_rfl) (by kernel_rfl) (by kernel_rfl) (by kernel_rfl) (fun _ _ _ h => h) (Or.inl ⟨by rfl, ?_⟩) (trivial) ?_
                          rotate_left
                          · intro w hSw; (try dsimp only at hSw); first | (go_simp; done) | (go_simp; with_reducible rfl)
                          (try simp only [Act.put, List.setIfInBounds_toArray, List.set_cons_zero, List.set_cons_succ])
                          refine OrdT.AnyT.take (i := 8) (v := ?_) (some 168) (by rfl) (by rfl) (by kernel_rfl) (by kernel_rfl) (by kernel_rfl) (by kernel_rfl) (fun _ _ _ h => h) (Or.inl ⟨by rfl, ?_⟩) (trivial) ?_
                          rotate_left
                          · intro w hSw; (try dsimp only at hSw); first | (go_simp; done) | (go_simp; with_reducible rfl)
                          (try simp only [Act.put, List.setIfInBounds_toArray, List.set_cons_zero, List.set_cons_succ])
                          clear hHeld
                          refine OrdT.AnyT.one (i := 0) (by kernel_rfl) (by rfl) (fun K hK => ?_)
                          go_simp
                          refine hK.out _ _ (fun _ => trivial) ?_
                          clear hK K
                          (try simp only [Act.put, List.setIfInBounds_toArray, List.set_cons_zero, List.set_cons_succ])
                          refine OrdT.AnyT.one (i := 4) (by kernel_rfl) (by rfl) (fun K hK => ?_)
                          refine step_append_rd (some 164) (by rfl) (by rfl) _ _ 31 (by rfl) w2.heap.size 3 i0 (.int .i64 0) 1 8 Try.underlying31 hi hz0 hz1 hz2 rfl (by decide) (.slice (some ⟨w2.heap.size, 0, none⟩) 0 0) 0 [] (by rfl) (by exact own_empty (by exact heap_alloc_at _ _ _ (by simp)) (Nat.le_refl _)) _ (.slice p1 k2 c1') k2 TK (by rfl) (by exact (R1.out.below (by repeat (first | exact Below.refl _ _ | exact HB3 | exact HB2 | exact HB1 | refine bel_drew ?_ | refine bel_alloc ?_ (Nat.le_refl _) _)))) (by exact ON1.out) k2 (by exact Nat.zero_add k2) TK (by exact List.nil_append TK) (by exact SZ1.out.1) (by exact SZ1.out.2) (by exact bel_le (W := w2) (Nat.le_refl _) (by repeat (first | exact Below.refl _ _ | exact HB3 | exact HB2 | exact HB1 | refine bel_drew ?_ | refine bel_alloc ?_ (Nat.le_refl _) _))) ?_
                          intro qq1 dd1 ww1 ho1 hg1 ha1 hp1
                          have HB1 : Below w2.heap.size w2 ww1 := below_grown (by repeat (first | exact Below.refl _ _ | exact HB3 | exact HB2 | exact HB1 | refine bel_drew ?_ | refine bel_alloc ?_ (Nat.le_refl _) _)) (by exact bel_le (W := w2) (Nat.le_refl _) (by repeat (first | exact Below.refl _ _ | exact HB3 | exact HB2 | exact HB1 | refine bel_drew ?_ | refine bel_alloc ?_ (Nat.le_refl _) _))) hg1 hp1
                          clear ha1 hp1
                          refine hK.out _ _ (fun _ => trivial) ?_
                          clear hK K
                          (try simp only [Act.put, List.setIfInBounds_toArray, List.set_cons_zero, List.set_cons_succ])
                          refine OrdT.AnyT.one (i := 9) (by kernel_rfl) (by rfl) (fun K hK => ?_)
                          refine step_append_rd (some 169) (by rfl) (by rfl) _ _ 31 (by rfl) w2.heap.size 3 i0 (.int .i64 0) 1 8 Try.underlying31 hi hz0 hz1 hz2 rfl (by decide) (.slice qq1 k2 dd1) k2 TK (by rfl) (by exact ho1) _ (.slice p2 M c2') M DK (by rfl) (by exact (R3.out.below (by repeat (first | exact Below.refl _ _ | exact HB3 | exact HB2 | exact HB1 | refine bel_drew ?_ | refine bel_alloc ?_ (Nat.le_refl _) _)))) (by exact ON2.out) N (by exact KM.out) TK2 (by exact TE2.out) (by exact SZ2.out.1) (by exact SZ2.out.2) (by exact bel_le (W := w2) (Nat.le_refl _) (by repeat (first | exact Below.refl _ _ | exact HB3 | exact HB2 | exact HB1 | refine bel_drew ?_ | refine bel_alloc ?_ (Nat.le_refl _) _))) ?_
                          intro qq2 dd2 ww2 ho2 hg2 ha2 hp2
                          have HB2 : Below w2.heap.size w2 ww2 := below_grown (by repeat (first | exact Below.refl _ _ | exact HB3 | exact HB2 | exact HB1 | refine bel_drew ?_ | refine bel_alloc ?_ (Nat.le_refl _) _)) (by exact bel_le (W := w2) (Nat.le_refl _) (by repeat (first | exact Below.refl _ _ | exact HB3 | exact HB2 | exact HB1 | refine bel_drew ?_ | refine bel_alloc ?_ (Nat.le_refl _) _))) hg2 hp2
                          clear ha2 hp2
                          refine hK.out _ _ (fun _ => trivial) ?_
                          clear hK K
                          (try simp only [Act.put, List.setIfInBounds_toArray, List.set_cons_zero, List.set_cons_succ])
                          refine OrdT.AnyT.one (i := 10) (by kernel_rfl) (by rfl) (fun K hK => ?_)
                          go_simp
                          refine hK.out _ _ (fun h => absurd rfl h) ?_
                          clear hK K
                          (try simp only [Act.put, List.setIfInBounds_toArray, List.set_cons_zero, List.set_cons_succ])
                          refine OrdT.AnyT.done (by kernel_rfl) ?_ _
                          refine NoPanic.normal ?_
                          go_wp2
                          go_meet
                          case rel => exact FIN.out _ _ HB2 ho2
                        · have DP0 : decide (0 ≤ A) = false := by simpa using hA0
                          have hx : x ∉ xs := plc_lt.1 (by rw [PA.out]; omega)
                          rw [DP0, List.erase_of_not_mem hx] at DP
                          clear DP0 MP PA hx
                          go_wp2_with (go_at_call 12; refine DP.out.mono ?_; rintro e w2 ⟨rfl, v2, R2⟩)
                          go_meet
                          case rel => exact ⟨v2, xs, by have := R2; rwa [XN.out] at this⟩
                        -- ]]drop
                      · have n2 : (op == 2) = false := by simp [h2]
                        -- [[turn
                        cases xs with
                        | nil =>
                          obtain rfl : n = 0 := XN.out.symm
                          have TU := hide (turn_none HR.out.fi)
                          go_wp2_with (go_at_call 11; refine TU.out.mono ?_; rintro e w2 ⟨rfl, hw⟩; have hw2 := hw.symm; clear hw; subst hw2)
                          go_meet
                          case rel => exact ⟨v, [], HR⟩
                        | cons y ys =>
                          obtain ⟨b2, o2, c2, e, hb2, hc⟩ := HR.out.at (by simp)
                          have n0 : (0 : Int) < (n : Int) := by have := XN.out; simp at this; omega
                          have nn : 0 < n := by omega
                          have TU := hide (pl_turn HR.out)
                          have CL : Hid (∀ w' v' zs', PL W w' fb m v' zs' (.slice q (y :: ys).length cc) (y :: ys) → w'.cell? ⟨b2, o2, none⟩ = some (.int .i64 y)) := hide (fun w' v' zs' h => by
                            obtain ⟨b3, o3, c3, e3, _, hc3⟩ := h.at (by simp)
                            have := e.symm.trans e3
                            injection this with this _ _
                            injection this with this
                            injection this with t1 t2
                            subst t1
                            subst t2
                            exact hc3 0 (by simp))
                          injection e with e _ e2
                          subst e
                          subst e2
                          rw [XN.out] at CL TU
                          clear hc MP PA
                          go_upto_region 29 with (go_at_call 11; refine TU.out.mono ?_; rintro e w2 ⟨rfl, v2, R2⟩)
                          obtain ⟨i0, hi, hz0, hz1, hz2⟩ := info_parts infoI
                          obtain ⟨p1, c1', hs1, R1⟩ := R2.out.tail
                          obtain ⟨M, hM⟩ : ∃ M, ys.length = M := ⟨_, rfl⟩
                          have MY := hide hM
                          rw [hM] at hs1 R1
                          have hMn : M + 1 = n := by have := XN.out; simp at this; omega
                          have RD1 := hide R1.out.rd
                          rw [hM] at RD1
                          have SZ1 : Hid (M ≤ maxLen ∧ M * 8 ≤ 140737488355328) := hide ⟨by unfold maxLen; omega, by omega⟩
                          have SZ2 : Hid (M + 1 ≤ maxLen ∧ (M + 1) * 8 ≤ 140737488355328) := hide ⟨by unfold maxLen; omega, by omega⟩
                          have ON1 := hide (intsV_one ys)
                          have ON2 : Hid (∀ u ∈ [Value.int .i64 y], u.oneCell' = true) := hide (by intro u hu; simp at hu; subst hu; rfl)
                          have KS : Hid (∀ w', Below w2.heap.size w2 w' → w'.cell? ⟨b2, o2, none⟩ = some (.int .i64 y)) := hide (fun w' hB => CL.out _ _ _ (R2.out.bel hB))
                          have FIN : Hid (∀ (u' : Value) w', Below w2.heap.size w2 w' → w'.ownsRow w2.heap.size 3 1 u' (M + 1) (intsV ys ++ [.int .i64 y]) → ∃ v' zs, Hid (PL W w' fb m v' zs u' zs)) := hide (by
                            intro u' w' hB ho
                            refine ⟨v2, _, hide (R2.out.fresh hB ?_)⟩
                            unfold IRow
                            rw [List.length_append, intsV_snoc, MY.out]
                            exact ho)
                          obtain ⟨CS, hCS⟩ : ∃ CS, intsV ys = CS := ⟨_, rfl⟩
                          rw [hCS] at FIN ON1 RD1
                          clear hM hCS CL TU R1 hMn
                          refine wp_region_noPanic ?_
                          refine OrdT.region_T (S := fun w' => w'.cell? ⟨b2, o2, none⟩ = some (.int .i64 y)) 9 (by kernel_rfl) ?_ (fun hHeld => ?_)
                          · exact KS.out _ (bel_drew (Below.refl _ _))
                          refine OrdT.AnyT.take (i := 1) (v := ?_) (some 95) (by rfl) (by rfl) (by kernel_rfl) (by kernel_rfl) (by kernel_rfl) (by kernel_rfl) (fun _ _ _ h => h) (Or.inl ⟨by rfl, ?_⟩) (by assumption) ?_
                          rotate_left
                          · intro w hSw; (try dsimp only at hSw); first | (go_simp; done) | (go_simp; with_reducible rfl)
                          (try simp only [Act.put, List.setIfInBounds_toArray, List.set_cons_zero, List.set_cons_succ])
                          refine OrdT.AnyT.take (i := 2) (v := ?_) (some 96) (by rfl) (by rfl) (by kernel_rfl) (by kernel_rfl) (by kernel_rfl) (by kernel_rfl) (fun _ _ _ h => h) (Or.inl ⟨by rfl, ?_⟩) (by assumption) ?_
                          rotate_left
                          · intro w hSw; (try dsimp only at hSw); first | (go_simp; done) | (go_simp; with_reducible rfl)
                          (try simp only [Act.put, List.setIfInBounds_toArray, List.set_cons_zero, List.set_cons_succ])
                          refine OrdT.AnyT.take (i := 4) (v := ?_) (some 98) (by rfl) (by rfl) (by kernel_rfl) (by kernel_rfl) (by kernel_rfl) (by kernel_rfl) (fun _ _ _ h => h) (Or.inl ⟨by rfl, ?_⟩) (by assumption) ?_
                          rotate_left
                          · intro w hSw; (try dsimp only at hSw); first | (go_simp; done) | (go_simp; with_reducible rfl)
                          (try simp only [Act.put, List.setIfInBounds_toArray, List.set_cons_zero, List.set_cons_succ])
                          refine OrdT.AnyT.take (i := 5) (v := ?_) (some 99) (by rfl) (by rfl) (by kernel_rfl) (by kernel_rfl) (by kernel_rfl) (by kernel_rfl) (fun _ _ _ h => h) (Or.inl ⟨by rfl, ?_⟩) (by assumption) ?_
                          rotate_left
                          · intro w hSw; (try dsimp only at hSw); first | (go_simp; done) | (go_simp; with_reducible rfl)
                          (try simp only [Act.put, List.setIfInBounds_toArray, List.set_cons_zero, List.set_cons_succ])
                          refine OrdT.AnyT.take (i := 6) (v := ?_) (some 100) (by rfl) (by rfl) (by kernel_rfl) (by kernel_rfl) (by kernel_rfl) (by kernel_rfl) (fun _ _ _ h => h) (Or.inl ⟨by rfl, ?_⟩) (by assumption) ?_
                          rotate_left
                          · intro w hSw; (try dsimp only at hSw); first | (go_simp; done) | (go_simp; with_reducible rfl)
                          (try simp only [Act.put, List.setIfInBounds_toArray, List.set_cons_zero, List.set_cons_succ])
                          clear hHeld
                          refine OrdT.AnyT.two (i := 0) (j := 7) (by kernel_rfl) (by rfl) (by rfl) (fun K hK => ?_) (fun K hK => ?_)
                          · go_simp
                            refine hK.out _ _ (fun _ => KS.out _ (by repeat (first | exact Below.refl _ _ | exact HB3 | exact HB2 | exact HB1 | refine bel_drew ?_ | refine bel_alloc ?_ (Nat.le_refl _) _))) ?_
                            clear hK K
                            (try simp only [Act.put, List.setIfInBounds_toArray, List.set_cons_zero, List.set_cons_succ])
                            refine OrdT.AnyT.two (i := 3) (j := 7) (by kernel_rfl) (by rfl) (by rfl) (fun K hK => ?_) (fun K hK => ?_)
                            · refine step_append_rd (some 97) (by rfl) (by rfl) _ _ 31 (by rfl) w2.heap.size 3 i0 (.int .i64 0) 1 8 Try.underlying31 hi hz0 hz1 hz2 rfl (by decide) (.slice (some ⟨w2.heap.size, 0, none⟩) 0 0) 0 [] (by rfl) (by exact own_empty (by exact heap_alloc_at _ _ _ (by simp)) (Nat.le_refl _)) _ (.slice p1 M c1') M CS (by rfl) (by exact (RD1.out.below (by repeat (first | exact Below.refl _ _ | exact HB3 | exact HB2 | exact HB1 | refine bel_drew ?_ | refine bel_alloc ?_ (Nat.le_refl _) _)))) (by exact ON1.out) M (by exact Nat.zero_add M) CS (by exact List.nil_append CS) (by exact SZ1.out.1) (by exact SZ1.out.2) (by exact bel_le (W := w2) (Nat.le_refl _) (by repeat (first | exact Below.refl _ _ | exact HB3 | exact HB2 | exact HB1 | refine bel_drew ?_ | refine bel_alloc ?_ (Nat.le_refl _) _))) ?_
                              intro qq1 dd1 ww1 ho1 hg1 ha1 hp1
                              have HB1 : Below w2.heap.size w2 ww1 := below_grown (by repeat (first | exact Below.refl _ _ | exact HB3 | exact HB2 | exact HB1 | refine bel_drew ?_ | refine bel_alloc ?_ (Nat.le_refl _) _)) (by exact bel_le (W := w2) (Nat.le_refl _) (by repeat (first | exact Below.refl _ _ | exact HB3 | exact HB2 | exact HB1 | refine bel_drew ?_ | refine bel_alloc ?_ (Nat.le_refl _) _))) hg1 hp1
                              clear ha1 hp1
                              refine hK.out _ _ (fun _ => KS.out _ HB1) ?_
                              clear hK K
                              (try simp only [Act.put, List.setIfInBounds_toArray, List.set_cons_zero, List.set_cons_succ])
                              refine OrdT.AnyT.one (i := 7) (by kernel_rfl) (by rfl) (fun K hK => ?_)
                              go_simp
                              refine hK.out _ _ (fun _ => KS.out _ (by repeat (first | exact Below.refl _ _ | exact HB3 | exact HB2 | exact HB1 | refine bel_drew ?_ | refine bel_alloc ?_ (Nat.le_refl _) _))) ?_
                              clear hK K
                              (try simp only [Act.put, List.setIfInBounds_toArray, List.set_cons_zero, List.set_cons_succ])
                              refine OrdT.AnyT.one (i := 8) (by kernel_rfl) (by rfl) (fun K hK => ?_)
                              refine step_append_rd (some 102) (by rfl) (by rfl) _ _ 31 (by rfl) w2.heap.size 3 i0 (.int .i64 0) 1 8 Try.underlying31 hi hz0 hz1 hz2 rfl (by decide) (.slice qq1 M dd1) M CS (by rfl) (by first | exact ho1 | exact ho1.alloc _) _ (.slice (some ⟨ww1.heap.size, 0, none⟩) 1 1) 1 [.int .i64 y] (by rfl) (by exact rd_one (cs := #[.int .i64 y]) (heap_alloc_new _ _) rfl) (by exact ON2.out) (M + 1) (by exact rfl) (CS ++ [.int .i64 y]) (by exact rfl) (by exact SZ2.out.1) (by exact SZ2.out.2) (by exact bel_le (W := w2) (Nat.le_refl _) (by repeat (first | exact Below.refl _ _ | exact HB3 | exact HB2 | exact HB1 | refine bel_drew ?_ | refine bel_alloc ?_ (Nat.le_refl _) _))) ?_
                              intro qq2 dd2 ww2 ho2 hg2 ha2 hp2
                              have HB2 : Below w2.heap.size w2 ww2 := below_grown (by repeat (first | exact Below.refl _ _ | exact HB3 | exact HB2 | exact HB1 | refine bel_drew ?_ | refine bel_alloc ?_ (Nat.le_refl _) _)) (by exact bel_le (W := w2) (Nat.le_refl _) (by repeat (first | exact Below.refl _ _ | exact HB3 | exact HB2 | exact HB1 | refine bel_drew ?_ | refine bel_alloc ?_ (Nat.le_refl _) _))) hg2 hp2
                              clear ha2 hp2
                              refine hK.out _ _ (fun _ => KS.out _ HB2) ?_
                              clear hK K
                              (try simp only [Act.put, List.setIfInBounds_toArray, List.set_cons_zero, List.set_cons_succ])
                              refine OrdT.AnyT.one (i := 9) (by kernel_rfl) (by rfl) (fun K hK => ?_)
                              go_simp
                              refine hK.out _ _ (fun h => absurd rfl h) ?_
                              clear hK K
                              (try simp only [Act.put, List.setIfInBounds_toArray, List.set_cons_zero, List.set_cons_succ])
                              refine OrdT.AnyT.done (by kernel_rfl) ?_ _
                              refine NoPanic.normal ?_
                              go_wp2
                              go_meet
                              case rel => exact FIN.out _ _ HB2 ho2
                            · go_simp
                              refine hK.out _ _ (fun _ => KS.out _ (by repeat (first | exact Below.refl _ _ | exact HB3 | exact HB2 | exact HB1 | refine bel_drew ?_ | refine bel_alloc ?_ (Nat.le_refl _) _))) ?_
                              clear hK K
                              (try simp only [Act.put, List.setIfInBounds_toArray, List.set_cons_zero, List.set_cons_succ])
                              refine OrdT.AnyT.one (i := 3) (by kernel_rfl) (by rfl) (fun K hK => ?_)
                              refine step_append_rd (some 97) (by rfl) (by rfl) _ _ 31 (by rfl) w2.heap.size 3 i0 (.int .i64 0) 1 8 Try.underlying31 hi hz0 hz1 hz2 rfl (by decide) (.slice (some ⟨w2.heap.size, 0, none⟩) 0 0) 0 [] (by rfl) (by exact own_empty (by exact (heap_alloc_old _ _ (by simp)).trans (heap_alloc_at _ _ _ (by simp))) (Nat.le_refl _)) _ (.slice p1 M c1') M CS (by rfl) (by exact (RD1.out.below (by repeat (first | exact Below.refl _ _ | exact HB3 | exact HB2 | exact HB1 | refine bel_drew ?_ | refine bel_alloc ?_ (Nat.le_refl _) _)))) (by exact ON1.out) M (by exact Nat.zero_add M) CS (by exact List.nil_append CS) (by exact SZ1.out.1) (by exact SZ1.out.2) (by exact bel_le (W := w2) (Nat.le_refl _) (by repeat (first | exact Below.refl _ _ | exact HB3 | exact HB2 | exact HB1 | refine bel_drew ?_ | refine bel_alloc ?_ (Nat.le_refl _) _))) ?_
                              intro qq1 dd1 ww1 ho1 hg1 ha1 hp1
                              have HB1 : Below w2.heap.size w2 ww1 := below_grown (by repeat (first | exact Below.refl _ _ | exact HB3 | exact HB2 | exact HB1 | refine bel_drew ?_ | refine bel_alloc ?_ (Nat.le_refl _) _)) (by exact bel_le (W := w2) (Nat.le_refl _) (by repeat (first | exact Below.refl _ _ | exact HB3 | exact HB2 | exact HB1 | refine bel_drew ?_ | refine bel_alloc ?_ (Nat.le_refl _) _))) hg1 hp1
                              clear ha1 hp1
                              refine hK.out _ _ (fun _ => KS.out _ HB1) ?_
                              clear hK K
                              (try simp only [Act.put, List.setIfInBounds_toArray, List.set_cons_zero, List.set_cons_succ])
                              refine OrdT.AnyT.one (i := 8) (by kernel_rfl) (by rfl) (fun K hK => ?_)
                              refine step_append_rd (some 102) (by rfl) (by rfl) _ _ 31 (by rfl) w2.heap.size 3 i0 (.int .i64 0) 1 8 Try.underlying31 hi hz0 hz1 hz2 rfl (by decide) (.slice qq1 M dd1) M CS (by rfl) (by first | exact ho1 | exact ho1.alloc _) _ (.slice (some ⟨(w2.heap.size + 1), 0, none⟩) 1 1) 1 [.int .i64 y] (by rfl) (by exact rd_one (cs := #[.int .i64 y]) ((hg1.block (w2.heap.size + 1) (by simp) (by simp [Value.ownBlock])).trans (heap_alloc_at _ _ _ (by simp))) rfl) (by exact ON2.out) (M + 1) (by exact rfl) (CS ++ [.int .i64 y]) (by exact rfl) (by exact SZ2.out.1) (by exact SZ2.out.2) (by exact bel_le (W := w2) (Nat.le_refl _) (by repeat (first | exact Below.refl _ _ | exact HB3 | exact HB2 | exact HB1 | refine bel_drew ?_ | refine bel_alloc ?_ (Nat.le_refl _) _))) ?_
                              intro qq2 dd2 ww2 ho2 hg2 ha2 hp2
                              have HB2 : Below w2.heap.size w2 ww2 := below_grown (by repeat (first | exact Below.refl _ _ | exact HB3 | exact HB2 | exact HB1 | refine bel_drew ?_ | refine bel_alloc ?_ (Nat.le_refl _) _)) (by exact bel_le (W := w2) (Nat.le_refl _) (by repeat (first | exact Below.refl _ _ | exact HB3 | exact HB2 | exact HB1 | refine bel_drew ?_ | refine bel_alloc ?_ (Nat.le_refl _) _))) hg2 hp2
                              clear ha2 hp2
                              refine hK.out _ _ (fun _ => KS.out _ HB2) ?_
                              clear hK K
                              (try simp only [Act.put, List.setIfInBounds_toArray, List.set_cons_zero, List.set_cons_succ])
                              refine OrdT.AnyT.one (i := 9) (by kernel_rfl) (by rfl) (fun K hK => ?_)
                              go_simp
                              refine hK.out _ _ (fun h => absurd rfl h) ?_
                              clear hK K
                              (try simp only [Act.put, List.setIfInBounds_toArray, List.set_cons_zero, List.set_cons_succ])
                              refine OrdT.AnyT.done (by kernel_rfl) ?_ _
                              refine NoPanic.normal ?_
                              go_wp2
                              go_meet
                              case rel => exact FIN.out _ _ HB2 ho2
                          · go_simp
                            refine hK.out _ _ (fun _ => KS.out _ (by repeat (first | exact Below.refl _ _ | exact HB3 | exact HB2 | exact HB1 | refine bel_drew ?_ | refine bel_alloc ?_ (Nat.le_refl _) _))) ?_
                            clear hK K
                            (try simp only [Act.put, List.setIfInBounds_toArray, List.set_cons_zero, List.set_cons_succ])
                            refine OrdT.AnyT.one (i := 0) (by kernel_rfl) (by rfl) (fun K hK => ?_)
                            go_simp
                            refine hK.out _ _ (fun _ => KS.out _ (by repeat (first | exact Below.refl _ _ | exact HB3 | exact HB2 | exact HB1 | refine bel_drew ?_ | refine bel_alloc ?_ (Nat.le_refl _) _))) ?_
                            clear hK K
                            (try simp only [Act.put, List.setIfInBounds_toArray, List.set_cons_zero, List.set_cons_succ])
                            refine OrdT.AnyT.one (i := 3) (by kernel_rfl) (by rfl) (fun K hK => ?_)
                            refine step_append_rd (some 97) (by rfl) (by rfl) _ _ 31 (by rfl) w2.heap.size 3 i0 (.int .i64 0) 1 8 Try.underlying31 hi hz0 hz1 hz2 rfl (by decide) (.slice (some ⟨(w2.heap.size + 1), 0, none⟩) 0 0) 0 [] (by rfl) (by exact own_empty (by exact heap_alloc_at _ _ _ (by simp)) (by omega)) _ (.slice p1 M c1') M CS (by rfl) (by exact (RD1.out.below (by repeat (first | exact Below.refl _ _ | exact HB3 | exact HB2 | exact HB1 | refine bel_drew ?_ | refine bel_alloc ?_ (Nat.le_refl _) _)))) (by exact ON1.out) M (by exact Nat.zero_add M) CS (by exact List.nil_append CS) (by exact SZ1.out.1) (by exact SZ1.out.2) (by exact bel_le (W := w2) (Nat.le_refl _) (by repeat (first | exact Below.refl _ _ | exact HB3 | exact HB2 | exact HB1 | refine bel_drew ?_ | refine bel_alloc ?_ (Nat.le_refl _) _))) ?_
                            intro qq1 dd1 ww1 ho1 hg1 ha1 hp1
                            have HB1 : Below w2.heap.size w2 ww1 := below_grown (by repeat (first | exact Below.refl _ _ | exact HB3 | exact HB2 | exact HB1 | refine bel_drew ?_ | refine bel_alloc ?_ (Nat.le_refl _) _)) (by exact bel_le (W := w2) (Nat.le_refl _) (by repeat (first | exact Below.refl _ _ | exact HB3 | exact HB2 | exact HB1 | refine bel_drew ?_ | refine bel_alloc ?_ (Nat.le_refl _) _))) hg1 hp1
                            clear ha1 hp1
                            refine hK.out _ _ (fun _ => KS.out _ HB1) ?_
                            clear hK K
                            (try simp only [Act.put, List.setIfInBounds_toArray, List.set_cons_zero, List.set_cons_succ])
                            refine OrdT.AnyT.one (i := 8) (by kernel_rfl) (by rfl) (fun K hK => ?_)
                            refine step_append_rd (some 102) (by rfl) (by rfl) _ _ 31 (by rfl) w2.heap.size 3 i0 (.int .i64 0) 1 8 Try.underlying31 hi hz0 hz1 hz2 rfl (by decide) (.slice qq1 M dd1) M CS (by rfl) (by first | exact ho1 | exact ho1.alloc _) _ (.slice (some ⟨w2.heap.size, 0, none⟩) 1 1) 1 [.int .i64 y] (by rfl) (by exact rd_one (cs := #[.int .i64 y]) ((hg1.block w2.heap.size (by simp; omega) (by simp [Value.ownBlock])).trans ((heap_alloc_old _ _ (by simp)).trans (heap_alloc_at _ _ _ (by simp)))) rfl) (by exact ON2.out) (M + 1) (by exact rfl) (CS ++ [.int .i64 y]) (by exact rfl) (by exact SZ2.out.1) (by exact SZ2.out.2) (by exact bel_le (W := w2) (Nat.le_refl _) (by repeat (first | exact Below.refl _ _ | exact HB3 | exact HB2 | exact HB1 | refine bel_drew ?_ | refine bel_alloc ?_ (Nat.le_refl _) _))) ?_
                            intro qq2 dd2 ww2 ho2 hg2 ha2 hp2
                            have HB2 : Below w2.heap.size w2 ww2 := below_grown (by repeat (first | exact Below.refl _ _ | exact HB3 | exact HB2 | exact HB1 | refine bel_drew ?_ | refine bel_alloc ?_ (Nat.le_refl _) _)) (by exact bel_le (W := w2) (Nat.le_refl _) (by repeat (first | exact Below.refl _ _ | exact HB3 | exact HB2 | exact HB1 | refine bel_drew ?_ | refine bel_alloc ?_ (Nat.le_refl _) _))) hg2 hp2
                            clear ha2 hp2
                            refine hK.out _ _ (fun _ => KS.out _ HB2) ?_
                            clear hK K
                            (try simp only [Act.put, List.setIfInBounds_toArray, List.set_cons_zero, List.set_cons_succ])
                            refine OrdT.AnyT.one (i := 9) (by kernel_rfl) (by rfl) (fun K hK => ?_)
                            go_simp
                            refine hK.out _ _ (fun h => absurd rfl h) ?_
                            clear hK K
                            (try simp only [Act.put, List.setIfInBounds_toArray, List.set_cons_zero, List.set_cons_succ])
                            refine OrdT.AnyT.done (by kernel_rfl) ?_ _
                            refine NoPanic.normal ?_
                            go_wp2
                            go_meet
                            case rel => exact FIN.out _ _ HB2 ho2
                        -- ]]turn
                case rest =>
                  -- [[last
                  obtain ⟨v', ys, R⟩ := hcut
                  have LE := hide (len_any R.out.fi)
                  have AL := hide (pl_all R.out)
                  obtain ⟨p3, c3, hu⟩ := R.out.form
                  subst hu
                  go_wp2_with (first
                    | (go_at_call 14; refine LE.out.mono ?_; rintro e w2 ⟨rfl, hw⟩; have hw2 := hw.symm; clear hw; subst hw2)
                    | (go_at_call 17; refine AL.out.mono ?_; rintro e w3 ⟨p4, c4, rfl, R3⟩)
                    | (go_at_call 16; refine (pl_ints R3.out.1 R3.out.2).mono ?_; rintro e w4 ⟨rfl, R4⟩))
                  go_roundw
                  case rel => exact ⟨k + 1, by omega, by go_num, _, _, R4⟩
                  case measure => simp [intOf]; omega
                  -- ]]last
          · obtain rfl : k = K := by omega
            go_wp2
            go_ret
            exact ⟨rfl, HR.out.below⟩
end Go.Proofs.Ytlidklcdolcidaa.Con
