/- TurnPlays' walk. -/
import Derived.Test.YtplcpoajhkcjnaaTGrid
import Derived.Deep.CutBlock
import Derived.Deep.CutRange
namespace Go.Proofs.Ytplcpoajhkcjnaa.Con
open Go.RowKit
set_option linter.unusedVariables false
set_option linter.unusedSimpArgs false
/-- A call: what, and for whom. -/
structure Ac where
  op : Int
  x : Int
def ac' (l : List Ac) (i : Nat) : Ac := l.getD i ⟨0, 0⟩
theorem get_ws {L : List Tk} {j d : Nat} {x : Int} (h : L[j]? = some (x, d)) : (ws L).getD j 0 = x := by
  unfold ws
  rw [List.getD_eq_getElem?_getD, List.getElem?_map, h]; rfl
theorem sub_ws {L : List Tk} {j : Nat} (h : j < L.length) : ∃ x d, L[j]? = some (x, d) := by
  exact ⟨(L[j]).1, (L[j]).2, List.getElem?_eq_getElem h⟩
set_option maxRecDepth 100000 in
set_option maxHeartbeats 4000000 in
theorem plays_walk (p : Option Addr) (c : Nat) (zs : List Ac) (W : World) (hl : zs.length ≤ 9223372036854775807) (hz : ∀ j, j < zs.length → in64 (ac' zs j).x)
    (h1 : 0 < zs.length → ∃ b o, p = some ⟨b, o, none⟩ ∧ b < W.heap.size ∧ ∀ j, j < zs.length → W.cell? ⟨b, o + j * 2, none⟩ = some (.int .i64 (ac' zs j).op) ∧ W.cell? ⟨b, o + j * 2 + 1, none⟩ = some (.int .i64 (ac' zs j).x)) :
    Calls Try.prog 4 #[.slice p zs.length c] W fun e w' => e = .returned (.bool true) ∧ Below W.heap.size W w' := by
  have hA := hide (awake_any W)
  by_cases hn : 200 < zs.length
  · have hn' : (200 : Int) < (zs.length : Int) := by omega
    go_enter Try.func4, Try.ntmps4
    go_wp2_with (go_at_call 7; refine hA.out.mono ?_; rintro e w1 ⟨rfl, hB1⟩)
    go_ret
    exact ⟨rfl, hB1⟩
  · have H1 := hide h1
    have HZ := hide hz
    clear h1 hz
    have hn' : ¬ (200 : Int) < (zs.length : Int) := by omega
    obtain ⟨K, hnn⟩ : ∃ n, zs.length = n := ⟨_, rfl⟩
    have NN := hide hnn
    rw [hnn] at hl hn hn' ⊢
    clear hnn
    have HN := hide (fun W' => new_any W')
    unfold NewPost at HN
    go_enter Try.func4, Try.ntmps4
    go_wp2_with (first
      | (go_at_call 7; refine hA.out.mono ?_; rintro e w0 ⟨rfl, hB0⟩; have HB0 := hide hB0; clear hB0)
      | (go_at_call 8; refine (HN.out _).mono ?_; rintro e w1 ⟨b, m, rfl, hk, hB1, hb, hm⟩; have J0 := hide (PS.start (w0 := w0) (LP.start HB0.out hk hB1 hb hm)); clear hk hB1 hb hm))
    clear HB0 HN hA
    go_loopw [4, 5, 6, 7] (fun v u nx s wr => ∃ (k n : Nat) (L : List Tk), k ≤ K ∧ n ≤ k ∧ s = .int .i64 k ∧ nx = .int .u32 n ∧ Hid (PS W wr b m n L L v u)) (fun _ _ _ s _ => K - (intOf s).toNat)
    case atStart => exact ⟨0, 0, [], by omega, by omega, rfl, rfl, J0⟩
    case round =>
      clear J0
      obtain ⟨k, n, L, hk, hnk, rfl, rfl, HR⟩ := hrel
      by_cases hkn : k < K
      · obtain ⟨pv, cv, qu, du, hv, hu⟩ := HR.out.form
        subst hv
        subst hu
        obtain ⟨g, o, rfl, hbl, hcl⟩ := H1.out (by rw [NN.out]; omega)
        obtain ⟨q0, q1⟩ := hcl k (by rw [NN.out]; exact hkn)
        have hx := HZ.out k (by rw [NN.out]; exact hkn)
        have a0 : wr.cell? ⟨g, o + k * 2, none⟩ = some (.int .i64 (ac' zs k).op) := by rw [HR.out.lp.below.cell (p := ⟨g, o + k * 2, none⟩) hbl]; exact q0
        have a1 : wr.cell? ⟨g, o + k * 2 + 1, none⟩ = some (.int .i64 (ac' zs k).x) := by rw [HR.out.lp.below.cell (p := ⟨g, o + k * 2 + 1, none⟩) hbl]; exact q1
        clear q0 q1 hcl
        generalize (ac' zs k).op = op at *
        generalize (ac' zs k).x = x at *
        have hk1 : (k : Int) < (K : Int) := by omega
        have HX := hide hx
        clear hx
        have h64 : L.length ≤ 64 := HR.out.lp.lk.len
        obtain ⟨M, hM⟩ : ∃ M, L.length = M := ⟨_, rfl⟩
        have LM := hide hM
        rw [hM] at h64 HR ⊢
        clear hM
        have hm64 : (M : Int) ≤ 64 := by omega
        go_upto_block 2 with fail
        go_cut [9, 10] from 34 to 46 (fun s t wx => s = .int .i64 (plc (ws L) x) ∧ wx = wr)
        case first => as_aux_lemma =>
          -- [[loop
          go_wp2
          go_loop [9, 10] (fun s t => ∃ j : Nat, j ≤ M ∧ t = .int .i64 (j : Int) ∧ s = .int .i64 (plc ((ws L).take j) x)) (fun _ t => M - (intOf t).toNat)
          case atStart => exact ⟨0, by omega, rfl, by rfl⟩
          case round =>
            obtain ⟨j, hj, rfl, rfl⟩ := hrel
            by_cases hjm : j < M
            · obtain ⟨g2, o2, c2, e, hc⟩ := HR.out.atv (by rw [LM.out]; omega)
              have c0 := hc j (by rw [LM.out]; exact hjm)
              rw [LM.out] at e
              injection e with e _ e2
              subst e
              subst e2
              have hj1 : (j : Int) < (M : Int) := by omega
              have hwl : j < (ws L).length := by rw [ws_len, LM.out]; exact hjm
              have PH := hide (plc_hit (x := x) (ws_nodup HR.out.lp.lk.ord) hwl)
              have PM := hide (plc_miss (x := x) hwl)
              generalize (ws L).getD j 0 = y at *
              clear hc
              by_cases hy : y = x
              · have E := hide (PH.out hy)
                subst hy
                generalize plc ((ws L).take j) y = A at *
                go_wp2
                go_round
                case rel => exact ⟨j + 1, by omega, by go_num, by rw [E.out]⟩
                case measure => simp [intOf]; omega
              · have E := hide (PM.out hy)
                generalize plc ((ws L).take j) x = A at *
                go_wp2
                go_round
                case rel => exact ⟨j + 1, by omega, by go_num, by rw [E.out]⟩
                case measure => simp [intOf]; omega
            · obtain rfl : j = M := by omega
              rw [List.take_of_length_le (by rw [ws_len, LM.out]; omega)]
              generalize plc (ws L) x = A at *
              go_wp2
              go_meet
              case rel => exact ⟨rfl, rfl⟩
          -- ]]loop
        case rest =>
          obtain ⟨rfl, hwc⟩ := hcut
          have hwc' := hwc.symm
          clear hwc
          subst hwc'
          have AC := hide (at_cases L x)
          have OL := hide HR.out.lp.lk.ord
          obtain ⟨A, hA⟩ : ∃ A, plc (ws L) x = A := ⟨_, rfl⟩
          rw [hA] at AC ⊢
          clear hA
          go_upto_block 4 with fail
          go_cut [4, 5, 6] from 23 to 231 (fun v u nx wx => ∃ (n' : Nat) (L' : List Tk), n' ≤ k + 1 ∧ nx = .int .u32 n' ∧ Hid (PS W wx b m n' L' L' v u))
          case first => as_aux_lemma =>
            by_cases h0 : op = 0
            · subst h0
              -- [[draw
              rcases AC.out with ⟨rfl, ht⟩ | ⟨j, d, rfl, hj⟩
              · have HT := hide ht
                clear ht
                by_cases b1 : x < 0
                · have D := hide (draw_arg HR.out.lp.lk x HX.out HT.out (.inl b1))
                  go_wp2_with (go_at_call 9; refine D.out.mono ?_; rintro e w2 ⟨rfl, hw⟩; have hw2 := hw.symm; clear hw; subst hw2)
                  go_meet
                  case rel => exact ⟨n, L, by omega, rfl, HR⟩
                · by_cases b2 : 255 < x
                  · have D := hide (draw_arg HR.out.lp.lk x HX.out HT.out (.inr (by omega)))
                    go_wp2_with (go_at_call 9; refine D.out.mono ?_; rintro e w2 ⟨rfl, hw⟩; have hw2 := hw.symm; clear hw; subst hw2)
                    go_meet
                    case rel => exact ⟨n, L, by omega, rfl, HR⟩
                  · by_cases b3 : 64 ≤ M
                    · have b4 : (64 : Int) ≤ (M : Int) := by omega
                      have D := hide (draw_full HR.out.lp.lk x HX.out HT.out (by omega) (by omega) (by rw [LM.out]; exact b3))
                      go_wp2_with (go_at_call 9; refine D.out.mono ?_; rintro e w2 ⟨rfl, hw⟩; have hw2 := hw.symm; clear hw; subst hw2)
                      go_meet
                      case rel => exact ⟨n, L, by omega, rfl, HR⟩
                    · have b4 : ¬ (64 : Int) ≤ (M : Int) := by omega
                      have D := hide (p_draw HR.out.lp x (by omega) (by omega) HT.out (by rw [LM.out]; omega) (by omega) (n + 1) (L ++ [(x, n)]) rfl rfl)
                      have WL : Hid ((ws L).length = M) := hide (by rw [ws_len]; exact LM.out)
                      have TL : Hid ((ts L).length = M) := hide (by rw [ts_len]; exact LM.out)
                      have cw : IntKind.u32.wrap ((n : Int) + 1) = ((n + 1 : Nat) : Int) := by
                        have e1 : ((n + 1 : Nat) : Int) = (n : Int) + 1 := by omega
                        rw [e1]
                        exact u32_in _ (by omega)
                      have hM1 : M ≤ 1000 := by omega
                      go_wp2_with (first
                        | (go_at_call 9; refine D.out.mono ?_; rintro e w2 ⟨rfl, G⟩; have R2 := hide (HR.out.got G.out); have RV := hide R2.out.rv; have RU := hide R2.out.ru; rw [LM.out] at RV RU)
                        | (at_builtin; refine wpList_rapp (w := w2) rfl _ _ 37 3 .i64 8 rfl Try.underlying37 infoI (by decide) _ (ws L) M WL.out rfl rfl RV.out hM1 ?_; intro p3 c3 w3 H3)
                        | (at_builtin; refine wpList_oapp (w := w3) rfl _ _ 37 3 .i64 8 rfl Try.underlying37 infoI (by decide) w2.heap.size x _ (ws L) M WL.out rfl rfl (by exact H3.out.1) (by exact H3.out.2.size) hM1 ?_; intro p4 c4 w4 H4; have B4 := hide (below_grown H3.out.2 H3.out.2.size H4.out.2 H3.out.1.past); have RU4 := hide (R2.out.bel B4.out).ru; rw [LM.out] at RU4)
                        | (at_builtin; refine wpList_rapp (w := w4) rfl _ _ 38 25 .u32 4 rfl Try.underlying38 infoU (by decide) _ (ts L) M TL.out rfl rfl RU4.out hM1 ?_; intro p5 c5 w5 H5)
                        | (at_builtin; refine wpList_oapp (w := w5) rfl _ _ 38 25 .u32 4 rfl Try.underlying38 infoU (by decide) w4.heap.size (n : Int) _ (ts L) M TL.out rfl rfl (by exact H5.out.1) (by exact H5.out.2.size) hM1 ?_; intro p6 c6 w6 H6))
                      have B6 := hide (below_grown H5.out.2 H5.out.2.size H6.out.2 H5.out.1.past)
                      go_meet
                      case rel =>
                        refine ⟨n + 1, L ++ [(x, n)], by omega, by go_num, ?_⟩
                        have e1 : ws (L ++ [(x, n)]) = ws L ++ [x] := by simp [ws]
                        have e2 : ts (L ++ [(x, n)]) = ts L ++ [(n : Int)] := by simp [ts]
                        refine hide (R2.out.fresh (B4.out.trans (B6.out.mono B4.out.size)) ?_ ?_)
                        · rw [e1]; exact H4.out.1.kept (fun k hk => B6.out.block k (H4.out.1.lt k hk))
                        · rw [e2]; exact H6.out.1.mono B4.out.size
              · have j0 : (0 : Int) ≤ (j : Int) := by omega
                have D := hide (draw_busy HR.out.lp.lk x HX.out d (at_tk OL.out hj))
                clear hj
                go_wp2_with (go_at_call 9; refine D.out.mono ?_; rintro e w2 ⟨rfl, hw⟩; have hw2 := hw.symm; clear hw; subst hw2)
                go_meet
                case rel => exact ⟨n, L, by omega, rfl, HR⟩
              -- ]]draw
            · have n0 : (op == 0) = false := by simp [h0]
              by_cases h1 : op = 1
              · subst h1
                -- [[free
                rcases AC.out with ⟨rfl, ht⟩ | ⟨j, d, rfl, hj⟩
                · have D := hide (free_none HR.out.lp.lk x HX.out ht)
                  clear ht
                  go_wp2_with (go_at_call 10; refine D.out.mono ?_; rintro e w2 ⟨rfl, hw⟩; have hw2 := hw.symm; clear hw; subst hw2)
                  go_meet
                  case rel => exact ⟨n, L, by omega, rfl, HR⟩
                · cases j with
                  | zero =>
                    cases L with
                    | nil => simp at hj
                    | cons q r =>
                      simp at hj
                      subst hj
                      have D := hide (p_free HR.out.lp HX.out)
                      have hr : r.length + 1 = M := LM.out
                      go_upto_region 45 with (go_at_call 10; refine D.out.mono ?_; rintro e w2 ⟨rfl, G⟩; have R2 := hide (HR.out.got G.out))
                      obtain ⟨p7, c7, q7, d7, hs7, ht7, R7⟩ := R2.out.tail
                      go_region
                      go_wp2
                      go_meet
                      case rel => exact ⟨n, r, by omega, rfl, hide (R7.out.bel (bel_drew (Below.refl _ _)))⟩
                  | succ j =>
                    have j0 : ((j + 1 : Nat) : Int) ≠ 0 := by omega
                    have j1 : (0 : Int) < ((j + 1 : Nat) : Int) := by omega
                    have D := hide (free_busy HR.out.lp.lk x HX.out d (at_tk OL.out hj) (fun e => by have := (at_sv (n := n) OL.out hj).1 e.symm; omega))
                    clear hj
                    generalize ((j + 1 : Nat) : Int) = J at *
                    have j2 : (J == 0) = false := by simpa using j0
                    have j3 : ¬ J < 0 := by omega
                    go_wp2_with (go_at_call 10; refine D.out.mono ?_; rintro e w2 ⟨rfl, hw⟩; have hw2 := hw.symm; clear hw; subst hw2)
                    go_meet
                    case rel => exact ⟨n, L, by omega, rfl, HR⟩
                -- ]]free
              · have n1 : (op == 1) = false := by simp [h1]
                -- [[leave
                rcases AC.out with ⟨rfl, ht⟩ | ⟨j, d, rfl, hj⟩
                · have D := hide (leave_none HR.out.lp.lk x HX.out ht)
                  clear ht
                  go_wp2_with (go_at_call 11; refine D.out.mono ?_; rintro e w2 ⟨rfl, hw⟩; have hw2 := hw.symm; clear hw; subst hw2)
                  go_meet
                  case rel => exact ⟨n, L, by omega, rfl, HR⟩
                · by_cases h2 : j = 0
                  · subst h2
                    have D := hide (leave_busy HR.out.lp.lk x HX.out (by rw [at_tk OL.out hj, (at_sv (n := n) OL.out hj).2 rfl]))
                    clear hj
                    go_wp2_with (go_at_call 11; refine D.out.mono ?_; rintro e w2 ⟨rfl, hw⟩; have hw2 := hw.symm; clear hw; subst hw2)
                    go_meet
                    case rel => exact ⟨n, L, by omega, rfl, HR⟩
                  · have D := hide (q_leave HR.out.lp x d (at_tk OL.out hj) (fun e => h2 ((at_sv (n := n) OL.out hj).1 e.symm)) (L.take j ++ L.drop (j + 1)) (at_out OL.out hj))
                    have hjM : j < M := by rw [← LM.out]; exact (List.getElem?_eq_some_iff.1 hj).1
                    have j1 : (0 : Int) < (j : Int) := by omega
                    have j0 : ¬ (j : Int) = 0 := by omega
                    have j2 : ((j : Int) == 0) = false := by simpa using j0
                    have j3 : ¬ (j : Int) < 0 := by omega
                    clear hj
                    go_upto_region 24 with (go_at_call 11; refine D.out.mono ?_; rintro e w2 ⟨rfl, G⟩; have R2 := hide (HR.out.got G.out))
                    obtain ⟨i0, hi, hz0, hz1, hz2⟩ := info_parts infoI
                    obtain ⟨i9, yi, yz0, yz1, yz2⟩ := info_parts infoU
                    have hwk : IntKind.i64.wrap ((j : Int) + 1) = (j : Int) + 1 := by rw [IntKind.wrap_i64]; omega
                    have rv := R2.out.rv
                    have ru := R2.out.ru
                    rw [LM.out] at rv ru
                    obtain ⟨p1, c1', hs1, r1⟩ := rv.upto 37 3 i0 Try.underlying37 hi hz1 j (by omega)
                    obtain ⟨p2, c2', hs2, r2⟩ := rv.from 37 3 i0 Try.underlying37 hi hz1 (j + 1) (by omega)
                    obtain ⟨q1, d1', ht1, g1⟩ := ru.upto 38 25 i9 Try.underlying38 yi yz1 j (by omega)
                    obtain ⟨q2, d2', ht2, g2⟩ := ru.from 38 25 i9 Try.underlying38 yi yz1 (j + 1) (by omega)
                    rw [show ((j + 1 : Nat) : Int) = (j : Int) + 1 by omega] at hs2 ht2
                    rw [Nat.mul_one, numV_take] at r1 g1
                    rw [Nat.mul_one, numV_drop] at r2 g2
                    have l1 : ((ws L).take j).length = j := by rw [List.length_take, ws_len, LM.out]; omega
                    have l2 : ((ws L).drop (j + 1)).length = M - (j + 1) := by rw [List.length_drop, ws_len, LM.out]
                    have k1 : ((ts L).take j).length = j := by rw [List.length_take, ts_len, LM.out]; omega
                    have k2 : ((ts L).drop (j + 1)).length = M - (j + 1) := by rw [List.length_drop, ts_len, LM.out]
                    have e1 : ws (L.take j ++ L.drop (j + 1)) = (ws L).take j ++ (ws L).drop (j + 1) := by simp [ws, List.map_take, List.map_drop]
                    have e2 : ts (L.take j ++ L.drop (j + 1)) = (ts L).take j ++ (ts L).drop (j + 1) := by simp [ts, List.map_take, List.map_drop]
                    have FIN : Hid (∀ v' u' w', Below w2.heap.size w2 w' → NRow 3 .i64 w2.heap.size w' v' ((ws L).take j ++ (ws L).drop (j + 1)) → NRow 25 .u32 w2.heap.size w' u' ((ts L).take j ++ (ts L).drop (j + 1)) → ∃ (n' : Nat) (L' : List Tk), n' ≤ k + 1 ∧ Value.int .u32 (n : Int) = .int .u32 (n' : Int) ∧ Hid (PS W w' b m n' L' L' v' u')) := hide (fun v' u' w' hB hv hu => ⟨n, _, by omega, rfl, hide (R2.out.fresh hB (by rw [e1]; exact hv) (by rw [e2]; exact hu))⟩)
                    generalize (ws L).take j = C1 at *
                    generalize (ws L).drop (j + 1) = C2 at *
                    generalize (ts L).take j = D1 at *
                    generalize (ts L).drop (j + 1) = D2 at *
                    have R1 : Hid (RdC w2 w2.heap.size 1 (.slice p1 j c1') C1.length (numV .i64 C1)) := hide (by rw [l1]; exact r1)
                    have R3 : Hid (RdC w2 w2.heap.size 1 (.slice p2 (M - (j + 1)) c2') C2.length (numV .i64 C2)) := hide (by rw [l2]; exact r2)
                    have R4 : Hid (RdC w2 w2.heap.size 1 (.slice q1 j d1') D1.length (numV .u32 D1)) := hide (by rw [k1]; exact g1)
                    have R5 : Hid (RdC w2 w2.heap.size 1 (.slice q2 (M - (j + 1)) d2') D2.length (numV .u32 D2)) := hide (by rw [k2]; exact g2)
                    have SA : Hid (C1.length + C2.length ≤ 1000) := hide (by omega)
                    have SB : Hid (D1.length + D2.length ≤ 1000) := hide (by omega)
                    clear r1 r2 g1 g2 rv ru l1 l2 k1 k2 e1 e2 D
                    generalize M - (j + 1) = N2 at *
                    refine wp_region_noPanic ?_
                    refine OrdT.region_T (S := fun _ => True) 21 (by kernel_rfl) ?_ (fun hHeld => ?_)
                    · exact trivial
                    refine OrdT.AnyT.take (i := 1) (v := ?_) (some 79) (by rfl) (by rfl) (by kernel_rfl) (by kernel_rfl) (by kernel_rfl) (by kernel_rfl) (fun _ _ _ h => h) (Or.inl ⟨by rfl, ?_⟩) (trivial) ?_
                    rotate_left
                    · intro w hSw; (try dsimp only at hSw); first | (go_simp; done) | (go_simp; with_reducible rfl)
                    (try simp only [Act.put, List.setIfInBounds_toArray, List.set_cons_zero, List.set_cons_succ])
                    refine OrdT.AnyT.take (i := 2) (v := ?_) (some 80) (by rfl) (by rfl) (by kernel_rfl) (by kernel_rfl) (by kernel_rfl) (by kernel_rfl) (fun _ _ _ h => h) (Or.inl ⟨by rfl, ?_⟩) (trivial) ?_
                    rotate_left
                    · intro w hSw; (try dsimp only at hSw); first | (go_simp; done) | (go_simp; with_reducible rfl)
                    (try simp only [Act.put, List.setIfInBounds_toArray, List.set_cons_zero, List.set_cons_succ])
                    refine OrdT.AnyT.take (i := 3) (v := ?_) (some 81) (by rfl) (by rfl) (by kernel_rfl) (by kernel_rfl) (by kernel_rfl) (by kernel_rfl) (fun _ _ _ h => h) (Or.inl ⟨by rfl, ?_⟩) (trivial) ?_
                    rotate_left
                    · intro w hSw; (try dsimp only at hSw); first | (go_simp; done) | (go_simp; with_reducible rfl)
                    (try simp only [Act.put, List.setIfInBounds_toArray, List.set_cons_zero, List.set_cons_succ])
                    refine OrdT.AnyT.take (i := 5) (v := ?_) (some 83) (by rfl) (by rfl) (by kernel_rfl) (by kernel_rfl) (by kernel_rfl) (by kernel_rfl) (fun _ _ _ h => h) (Or.inl ⟨by rfl, ?_⟩) (trivial) ?_
                    rotate_left
                    · intro w hSw; (try dsimp only at hSw); first | (go_simp; done) | (go_simp; with_reducible rfl)
                    (try simp only [Act.put, List.setIfInBounds_toArray, List.set_cons_zero, List.set_cons_succ])
                    refine OrdT.AnyT.take (i := 6) (v := ?_) (some 84) (by rfl) (by rfl) (by kernel_rfl) (by kernel_rfl) (by kernel_rfl) (by kernel_rfl) (fun _ _ _ h => h) (Or.inl ⟨by rfl, ?_⟩) (trivial) ?_
                    rotate_left
                    · intro w hSw; (try dsimp only at hSw); first | (go_simp; done) | (go_simp; with_reducible rfl)
                    (try simp only [Act.put, List.setIfInBounds_toArray, List.set_cons_zero, List.set_cons_succ])
                    refine OrdT.AnyT.take (i := 7) (v := ?_) (some 85) (by rfl) (by rfl) (by kernel_rfl) (by kernel_rfl) (by kernel_rfl) (by kernel_rfl) (fun _ _ _ h => h) (Or.inl ⟨by rfl, ?_⟩) (trivial) ?_
                    rotate_left
                    · intro w hSw; (try dsimp only at hSw); first | (go_simp; done) | (go_simp; with_reducible rfl)
                    (try simp only [Act.put, List.setIfInBounds_toArray, List.set_cons_zero, List.set_cons_succ])
                    refine OrdT.AnyT.take (i := 8) (v := ?_) (some 86) (by rfl) (by rfl) (by kernel_rfl) (by kernel_rfl) (by kernel_rfl) (by kernel_rfl) (fun _ _ _ h => h) (Or.inl ⟨by rfl, ?_⟩) (trivial) ?_
                    rotate_left
                    · intro w hSw; (try dsimp only at hSw); first | (go_simp; done) | (go_simp; with_reducible rfl)
                    (try simp only [Act.put, List.setIfInBounds_toArray, List.set_cons_zero, List.set_cons_succ])
                    refine OrdT.AnyT.take (i := 11) (v := ?_) (some 89) (by rfl) (by rfl) (by kernel_rfl) (by kernel_rfl) (by kernel_rfl) (by kernel_rfl) (fun _ _ _ h => h) (Or.inl ⟨by rfl, ?_⟩) (trivial) ?_
                    rotate_left
                    · intro w hSw; (try dsimp only at hSw); first | (go_simp; done) | (go_simp; with_reducible rfl)
                    (try simp only [Act.put, List.setIfInBounds_toArray, List.set_cons_zero, List.set_cons_succ])
                    refine OrdT.AnyT.take (i := 12) (v := ?_) (some 90) (by rfl) (by rfl) (by kernel_rfl) (by kernel_rfl) (by kernel_rfl) (by kernel_rfl) (fun _ _ _ h => h) (Or.inl ⟨by rfl, ?_⟩) (trivial) ?_
                    rotate_left
                    · intro w hSw; (try dsimp only at hSw); first | (go_simp; done) | (go_simp; with_reducible rfl)
                    (try simp only [Act.put, List.setIfInBounds_toArray, List.set_cons_zero, List.set_cons_succ])
                    refine OrdT.AnyT.take (i := 13) (v := ?_) (some 91) (by rfl) (by rfl) (by kernel_rfl) (by kernel_rfl) (by kernel_rfl) (by kernel_rfl) (fun _ _ _ h => h) (Or.inl ⟨by rfl, ?_⟩) (trivial) ?_
                    rotate_left
                    · intro w hSw; (try dsimp only at hSw); first | (go_simp; done) | (go_simp; with_reducible rfl)
                    (try simp only [Act.put, List.setIfInBounds_toArray, List.set_cons_zero, List.set_cons_succ])
                    refine OrdT.AnyT.take (i := 15) (v := ?_) (some 93) (by rfl) (by rfl) (by kernel_rfl) (by kernel_rfl) (by kernel_rfl) (by kernel_rfl) (fun _ _ _ h => h) (Or.inl ⟨by rfl, ?_⟩) (trivial) ?_
                    rotate_left
                    · intro w hSw; (try dsimp only at hSw); first | (go_simp; done) | (go_simp; with_reducible rfl)
                    (try simp only [Act.put, List.setIfInBounds_toArray, List.set_cons_zero, List.set_cons_succ])
                    refine OrdT.AnyT.take (i := 16) (v := ?_) (some 94) (by rfl) (by rfl) (by kernel_rfl) (by kernel_rfl) (by kernel_rfl) (by kernel_rfl) (fun _ _ _ h => h) (Or.inl ⟨by rfl, ?_⟩) (trivial) ?_
                    rotate_left
                    · intro w hSw; (try dsimp only at hSw); first | (go_simp; done) | (go_simp; with_reducible rfl)
                    (try simp only [Act.put, List.setIfInBounds_toArray, List.set_cons_zero, List.set_cons_succ])
                    refine OrdT.AnyT.take (i := 17) (v := ?_) (some 95) (by rfl) (by rfl) (by kernel_rfl) (by kernel_rfl) (by kernel_rfl) (by kernel_rfl) (fun _ _ _ h => h) (Or.inl ⟨by rfl, ?_⟩) (trivial) ?_
                    rotate_left
                    · intro w hSw; (try dsimp only at hSw); first | (go_simp; done) | (go_simp; with_reducible rfl)
                    (try simp only [Act.put, List.setIfInBounds_toArray, List.set_cons_zero, List.set_cons_succ])
                    refine OrdT.AnyT.take (i := 18) (v := ?_) (some 96) (by rfl) (by rfl) (by kernel_rfl) (by kernel_rfl) (by kernel_rfl) (by kernel_rfl) (fun _ _ _ h => h) (Or.inl ⟨by rfl, ?_⟩) (trivial) ?_
                    rotate_left
                    · intro w hSw; (try dsimp only at hSw); first | (go_simp; done) | (go_simp; with_reducible rfl)
                    (try simp only [Act.put, List.setIfInBounds_toArray, List.set_cons_zero, List.set_cons_succ])
                    clear hHeld
                    refine OrdT.two_rows (n := 2) (w0 := w2) ⟨37, 3, .i64, 8, 0, 4, 9, 78, 82, 87, 81, 86, .slice p1 j c1', .slice p2 N2 c2', C1, C2⟩ ⟨38, 25, .u32, 4, 10, 14, 19, 88, 92, 97, 91, 96, .slice q1 j d1', .slice q2 N2 d2', D1, D2⟩ [[#[false, true, true, true, false, true, true, true, true, false, false, true, true, true, false, true, true, true, true, false, false, false], #[false, true, true, true, false, true, true, true, true, false, true, true, true, true, false, true, true, true, true, false, false, false], #[false, true, true, true, false, true, true, true, true, false, true, true, true, true, true, true, true, true, true, false, false, false], #[false, true, true, true, false, true, true, true, true, false, true, true, true, true, true, true, true, true, true, true, false, false]], [#[true, true, true, true, false, true, true, true, true, false, false, true, true, true, false, true, true, true, true, false, false, false], #[true, true, true, true, false, true, true, true, true, false, true, true, true, true, false, true, true, true, true, false, false, false], #[true, true, true, true, false, true, true, true, true, false, true, true, true, true, true, true, true, true, true, false, false, false], #[true, true, true, true, false, true, true, true, true, false, true, true, true, true, true, true, true, true, true, true, false, false]], [#[true, true, true, true, true, true, true, true, true, false, false, true, true, true, false, true, true, true, true, false, false, false], #[true, true, true, true, true, true, true, true, true, false, true, true, true, true, false, true, true, true, true, false, false, false], #[true, true, true, true, true, true, true, true, true, false, true, true, true, true, true, true, true, true, true, false, false, false], #[true, true, true, true, true, true, true, true, true, false, true, true, true, true, true, true, true, true, true, true, false, false]], [#[true, true, true, true, true, true, true, true, true, true, false, true, true, true, false, true, true, true, true, false, false, false], #[true, true, true, true, true, true, true, true, true, true, true, true, true, true, false, true, true, true, true, false, false, false], #[true, true, true, true, true, true, true, true, true, true, true, true, true, true, true, true, true, true, true, false, false, false], #[true, true, true, true, true, true, true, true, true, true, true, true, true, true, true, true, true, true, true, true, false, false]]] (by kernel_rfl) (fun _ => trivial) (by kernel_rfl)
                      ⟨⟨_, rfl, rfl, rfl, rfl⟩, ⟨_, rfl, rfl, rfl, rfl⟩, ⟨_, rfl, rfl, rfl, rfl⟩, Try.underlying37, infoI, Nat.le_refl 8, by kernel_rfl, by kernel_rfl, R1.out, R3.out, SA.out, by kernel_rfl⟩
                      ⟨⟨_, rfl, rfl, rfl, rfl⟩, ⟨_, rfl, rfl, rfl, rfl⟩, ⟨_, rfl, rfl, rfl, rfl⟩, Try.underlying38, infoU, (show 4 ≤ 8 by decide), by kernel_rfl, by kernel_rfl, R4.out, R5.out, SB.out, by kernel_rfl⟩
                      (show (3 : Nat) ≠ 25 by decide) (by simp [OrdT.Ch.d]) (by simp [OrdT.Ch.d]) (by simp [OrdT.Ch.d]) (by simp [OrdT.Ch.d]) (by simp [OrdT.Ch.d]) (bel_drew (Below.refl _ _)) ?_
                    intro x0 x1 x2 y0 y1 y2 w3 HB3 hx2 hy2
                    have FF := hide (FIN.out x2 y2 w3 HB3 hx2 hy2)
                    obtain ⟨px, cx, hpx⟩ := hx2.form
                    obtain ⟨py, cy, hpy⟩ := hy2.form
                    clear hx2 hy2
                    generalize (C1 ++ C2).length = NA at hpx
                    generalize (D1 ++ D2).length = NB at hpy
                    subst hpx
                    subst hpy
                    simp only [OrdT.puts, OrdT.Ch.d, Act.put, List.setIfInBounds_toArray, List.set_cons_zero, List.set_cons_succ]
                    refine OrdT.AnyT.one (i := 20) (by kernel_rfl) (by rfl) (fun K hK => ?_)
                    go_simp
                    refine hK.out _ _ (fun _ => trivial) ?_
                    clear hK K
                    (try simp only [Act.put, List.setIfInBounds_toArray, List.set_cons_zero, List.set_cons_succ])
                    refine OrdT.AnyT.one (i := 21) (by kernel_rfl) (by rfl) (fun K hK => ?_)
                    go_simp
                    refine hK.out _ _ (fun h => absurd rfl h) ?_
                    clear hK K
                    (try simp only [Act.put, List.setIfInBounds_toArray, List.set_cons_zero, List.set_cons_succ])
                    refine OrdT.AnyT.done (by kernel_rfl) ?_ _
                    refine NoPanic.normal ?_
                    go_wp2
                    go_meet
                    case rel => exact FF.out
                -- ]]leave
          case rest =>
            -- [[last
            obtain ⟨n2, L2, hn2, rfl, R⟩ := hcut
            obtain ⟨wd, hwd⟩ : ∃ wd, wd = wc := ⟨_, rfl⟩
            subst hwd
            clear HR AC OL LM hm64 h64
            obtain ⟨pv2, cv2, qu2, du2, hv, hu⟩ := R.out.form
            subst hv
            subst hu
            obtain ⟨M2, hM2⟩ : ∃ M2, L2.length = M2 := ⟨_, rfl⟩
            have LM2 := hide hM2
            have h64 : M2 ≤ 64 := by rw [← hM2]; exact R.out.lp.lk.len
            rw [hM2] at R ⊢
            clear hM2
            have hk1' : (k : Int) < (K : Int) := hk1
            go_upto_if 182 with fail
            go_cut [15] from 23 to 231 (fun s wx => s = .int .u32 (sv L2 n2 : Int) ∧ wx = wd)
            case first => as_aux_lemma =>
              cases L2 with
              | nil =>
                obtain rfl : M2 = 0 := LM2.out.symm
                go_wp2
                go_meet
                case rel => exact ⟨rfl, rfl⟩
              | cons q r =>
                obtain ⟨x2, d2⟩ := q
                obtain ⟨g2, o2, c2, e, hc⟩ := R.out.atu (by simp)
                rw [LM2.out] at e
                have c0 : wd.cell? ⟨g2, o2, none⟩ = some (.int .u32 (d2 : Int)) := hc 0 (by simp)
                injection e with e _ e2
                subst e
                subst e2
                have n0 : (0 : Int) < (M2 : Int) := by have := LM2.out; simp at this; omega
                have n1 : 0 < M2 := by omega
                clear hc
                go_wp2
                go_meet
                case rel => exact ⟨rfl, rfl⟩
            case rest =>
              obtain ⟨rfl, hwc⟩ := hcut
              have hwc' := hwc.symm
              clear hwc
              subst hwc'
              obtain ⟨cc0, cc1⟩ := R.out.lp.cells
              have LE := hide (len_any R.out.lp.lk)
              rw [LM2.out] at LE
              have SV : Hid (sv L2 n2 = sv L2 n2) := hide rfl
              generalize hsN : sv L2 n2 = sN at cc1 ⊢
              have SN := hide hsN
              clear hsN SV
              go_wp2_with (go_at_call 14; refine LE.out.mono ?_; rintro e w2 ⟨rfl, hw⟩; have hw2 := hw.symm; clear hw; subst hw2)
              clear cc0 cc1 LE
              go_loopw [16] (fun s wz => ∃ j : Nat, j ≤ M2 ∧ s = .int .i64 j ∧ Hid (PS W wz b m n2 L2 L2 (.slice pv2 M2 cv2) (.slice qu2 M2 du2))) (fun s _ => M2 - (intOf s).toNat)
              case atStart => exact ⟨0, by omega, rfl, R⟩
              case round =>
                clear R
                obtain ⟨j, hj, rfl, R3⟩ := hrel
                by_cases hjm : j < M2
                · obtain ⟨x2, d2, hxd⟩ := sub_ws (L := L2) (j := j) (by rw [LM2.out]; exact hjm)
                  obtain ⟨g2, o2, c2, e, hc⟩ := R3.out.atv (by rw [LM2.out]; omega)
                  rw [LM2.out] at e
                  have CL : Hid (∀ w', PS W w' b m n2 L2 L2 (.slice pv2 M2 cv2) (.slice qu2 M2 du2) → w'.cell? ⟨g2, o2 + j, none⟩ = some (.int .i64 x2)) := hide (fun w' h => by
                    obtain ⟨g3, o3, c3, e3, hc3⟩ := h.atv (by rw [LM2.out]; omega)
                    rw [LM2.out] at e3
                    have e4 := e.symm.trans e3
                    injection e4 with e4 _ _
                    injection e4 with e4
                    injection e4 with t1 t2
                    subst t1
                    subst t2
                    have := hc3 j (by rw [LM2.out]; exact hjm)
                    rwa [get_ws hxd] at this)
                  injection e with e _ e2
                  subst e
                  subst e2
                  have a2 := CL.out _ R3.out
                  have hx2 : in64 x2 := R3.out.lp.lk.in64 (List.mem_of_getElem? hxd)
                  have AH := hide (p_ahead R3.out.lp x2 hx2 d2 (at_tk R3.out.lp.lk.ord hxd) j (at_ahd R3.out.lp.lk.ord hxd))
                  have HB := hide (at_has (n := n2) R3.out.lp.lk.ord hxd)
                  have HX2 := hide hx2
                  have hj1 : (j : Int) < (M2 : Int) := by omega
                  clear hc hxd hx2
                  by_cases j0 : j = 0
                  · subst j0
                    have CL0 : Hid (∀ w', PS W w' b m n2 L2 L2 (.slice (some ⟨g2, o2, none⟩) M2 cv2) (.slice qu2 M2 du2) → w'.cell? ⟨g2, o2, none⟩ = some (.int .i64 x2)) := hide (fun w' h => CL.out w' h)
                    have a4 := CL0.out _ R3.out
                    clear a2 CL
                    go_wp2_with (first
                      | (go_at_call 13; refine AH.out.mono ?_; rintro e w4 ⟨rfl, G⟩; have R4 := hide (R3.out.got G.out); have a3 := CL0.out _ R4.out; have HS := hide (p_has R4.out.lp x2 HX2.out true (by rw [HB.out]; rfl)))
                      | (go_at_call 12; refine HS.out.mono ?_; rintro e w5 ⟨rfl, hw⟩; have hw2 := hw.symm; clear hw; subst hw2))
                    go_roundw
                    case rel => exact ⟨1, by omega, by go_num, R4⟩
                    case measure => simp [intOf]; omega
                  · have j1 : ((j : Int) == 0) = false := by simp; omega
                    have j2 : ¬ (j : Int) = 0 := by omega
                    go_wp2_with (first
                      | (go_at_call 13; refine AH.out.mono ?_; rintro e w4 ⟨rfl, G⟩; have R4 := hide (R3.out.got G.out); have a3 := CL.out _ R4.out; have HS := hide (p_has R4.out.lp x2 HX2.out false (by rw [HB.out]; simp [j0])))
                      | (go_at_call 12; refine HS.out.mono ?_; rintro e w5 ⟨rfl, hw⟩; have hw2 := hw.symm; clear hw; subst hw2))
                    go_roundw
                    case rel => exact ⟨j + 1, by omega, by go_num, R4⟩
                    case measure => simp [intOf]; omega
                · obtain rfl : j = M2 := by omega
                  go_wp2
                  go_roundw
                  case rel => exact ⟨k + 1, n2, L2, by omega, by omega, by go_num, rfl, R3⟩
                  case measure => simp [intOf]; omega
            -- ]]last
      · obtain rfl : k = K := by omega
        go_wp2
        go_ret
        exact ⟨rfl, HR.out.lp.below⟩
end Go.Proofs.Ytplcpoajhkcjnaa.Con
