/- Use. -/
import Derived.Test.YtkfddjmhoekjgabWdU
import Derived.Test.YtkfddjmhoekjgabWdT
import Derived.Test.YtkfddjmhoekjgabWdP
import Derived.Test.YtkfddjmhoekjgabWdN
import Derived.Test.YtkfddjmhoekjgabWdE
import Derived.Test.YtkfddjmhoekjgabWnL3
namespace Go.Proofs.Ytkfddjmhoekjgab.Wd
open Go.RowKit Go.Proofs.Ytkfddjmhoekjgab.Con Go.Proofs.Ytkfddjmhoekjgab.Wn
set_option linter.unusedVariables false
set_option linter.unusedSimpArgs false
attribute [local go_sem ↓] Go.wp_at_zero Go.wp_at_succ
set_option maxRecDepth 100000 in
set_option maxHeartbeats 8000000 in
theorem useC : UseC := by
  intro L v W h
  obtain ⟨p, cap, rfl, hn, hm⟩ := h.form
  have hmx : (L.length : Int) ≤ 9223372036854775807 := by unfold maxLen at hm; omega
  have HP := hide (pairs_any h)
  have H := hide h
  clear h
  cases hp : useOk L with
  | false =>
    have E := hide (use_0 (L := L) (fun h => by rw [useOk_iff.2 h] at hp; cases hp))
    rw [hp] at HP
    clear hp
    go_enter Try.func7, Try.ntmps7
    go_wp2_with fail
    refine HP.out.mono ?_
    rintro e w1 ⟨rfl, hb⟩
    go_wp2
    go_ret2
    exact ⟨ret2 (by rw [E.out.1]; rfl) (by rw [E.out.2]; rfl), hb⟩
  | true =>
    obtain ⟨hl, hall⟩ := useOk_iff.1 hp
    rw [hp] at HP
    have HL := hide hl
    have HG := hide hall
    clear hp hl hall
    go_enter Try.func7, Try.ntmps7
    go_wp2_with fail
    refine HP.out.mono ?_
    rintro e w1 ⟨rfl, hb⟩
    have HB1 := hide hb
    clear hb HP
    go_upto_region 4 with fail
    rw [wf_zeros]
    refine wp_region_lit ?_
    refine wpList_val rfl (some 13) rfl (.agg (wf (dg 1))) (exec_build 40 #[(0, .const (.int .u64 1))] rfl [(0, .int .u64 1)] (by simp only [List.map_toArray, List.map_cons, List.map_nil]; rfl) _ built1) ?_
    refine wpList_plain rfl fun K hK => ?_
    go_simp
    rw [wf_zeros]
    refine hK _ _ ?_
    clear hK K
    have U0 : Us w1 (((w1.alloc (.cells (wf fun _ => 0) 40)).alloc (.cells (wf fun _ => 0) 40)).setRow (w1.heap.size + 1) (wf (dg 1))) 0 1 := by
      have h0 : (fun _ : Nat => 0) = dg 0 := funext fun i => (dg_zero i).symm
      rw [h0]
      refine Us.setBot (b := 0) ⟨?_, ?_, bel_alloc2 (bel1 _) _⟩ 1
      · exact (heap_alloc_old _ _ (by simp)).trans (heap_alloc_new _ _)
      · have := heap_alloc_new (w1.alloc (.cells (wf (dg 0)) 40)) (.cells (wf (dg 0)) 40)
        simpa using this
    have U0 := hide U0
    refine wpList_store_row rfl 40 (.tmp 5) (.tmp 13) rfl (w1.heap.size + 1) (wf (dg 1)) rfl rfl _ (wf fun _ => 0) (by have := heap_alloc_new (w1.alloc (.cells (wf fun _ => 0) 40)) (.cells (wf fun _ => 0) 40); simpa using this) (sizeW _) (by rw [wf_size, wf_size]) (wf_one _) ?_
    refine wpList_nil ?_
    generalize (((w1.alloc (.cells (wf fun _ => 0) 40)).alloc (.cells (wf fun _ => 0) 40)).setRow (w1.heap.size + 1) (wf (dg 1))) = w2 at *
    go_wp2
    go_loopw [2, 7, 8, 9, 16] (fun c _ _ _ i wr => ∃ k t b n : Nat, k ≤ L.length ∧ i = .int .i64 (k : Int) ∧ c = .int .i64 (n : Int) ∧ Hid (St (L.take k) k t b n) ∧ Hid (Us w1 wr t b)) (fun _ _ _ _ i _ => L.length - (intOf i).toNat)
    case atStart => exact ⟨0, 0, 1, 0, by omega, rfl, rfl, hide St.zero, U0⟩
    case round =>
      obtain ⟨k, t, b, n, hk, rfl, rfl, HS, HU⟩ := hrel
      by_cases hkn : k < L.length
      · have hk1 : (k : Int) < (L.length : Int) := by omega
        obtain ⟨bb, o, rfl, hbW, q0, q1⟩ := H.out.at hkn
        have QQ := Nx.trans HB1.out HU.out.nx
        have x0 := (QQ.cell (p := ⟨bb, o + k * 2, none⟩) hbW).trans q0
        have x1 := (QQ.cell (p := ⟨bb, o + k * 2 + 1, none⟩) hbW).trans q1
        clear q0 q1 QQ
        obtain ⟨g1, g2, g3⟩ := gp_t (HG.out _ (at_mem hkn))
        obtain ⟨q, hq⟩ : ∃ q : Nat, (at' L k).1 = (q : Int) := ⟨(at' L k).1.toNat, by omega⟩
        obtain ⟨pn, hpn⟩ : ∃ pn : Nat, (at' L k).2 = (pn : Int) := ⟨(at' L k).2.toNat, by omega⟩
        rw [hq] at g1 g2 x0
        rw [hpn] at g2 g3 x1
        have hq0 : 0 < q := by omega
        have hq1 : q < 9223372036854775808 := by omega
        have hp0 : 0 < pn := by omega
        have hp1 : pn < 9223372036854775808 := by omega
        obtain ⟨t1, t2, t3, t4, HY, HN⟩ := HS.out.next (q := q) (p := pn) (by have := HL.out; omega) (by omega) (by omega) (by omega)
        have hsn : L.take (k + 1) = L.take k ++ [((q : Int), (pn : Int))] := by
          rw [take_snoc L k hkn, show at' L k = ((q : Int), (pn : Int)) from Prod.ext hq hpn]
        rw [← hsn] at HY HN
        have hnk : (n : Int) ≤ 64 := by have := HS.out.wh; have := HL.out; omega
        have n0 : (0 : Int) ≤ (n : Int) := by omega
        have HT := hide (And.intro t3 t4)
        have HY := hide HY
        have HN := hide HN
        have HX := hide (heap_alloc_new wr (.cells #[.int .i64 (q : Int), .int .i64 (pn : Int)] 23))
        have HUa := hide (HU.out.on (Nx.alloc wr (.cells #[.int .i64 (q : Int), .int .i64 (pn : Int)] 23)))
        have HXN : Hid (w1.heap.size + 1 < wr.heap.size) := hide HU.out.lt
        clear t1 t2 t3 t4 hsn HS HU g1 g2 g3 hq hpn
        go_wp2
        clear x0 x1
        generalize wr.alloc (.cells #[.int .i64 (q : Int), .int .i64 (pn : Int)] 23) = wa at *
        generalize wr.heap.size = xb at *
        have KS : Hid (∀ w', Nx wa w' → w'.heap[w1.heap.size]? = some (.cells (wf (dg t)) 40 (0, 0)) ∧ w'.heap[w1.heap.size + 1]? = some (.cells (wf (dg b)) 40 (0, 0)) ∧ w'.cell? ⟨xb, 0, none⟩ = some (.int .i64 (q : Int)) ∧ w'.cell? ⟨xb, 1, none⟩ = some (.int .i64 (pn : Int))) := hide (fun w' h => by
          have a := HUa.out.on h
          have x := row2 (row_on HX.out h)
          exact ⟨a.top, a.bot, x.1, x.2⟩)
        as_aux_lemma =>
          refine wp_region_noPanic ?_
          refine OrdU.region_U (S := fun w' => w'.heap[w1.heap.size]? = some (.cells (wf (dg t)) 40 (0, 0)) ∧ w'.heap[w1.heap.size + 1]? = some (.cells (wf (dg b)) 40 (0, 0)) ∧ w'.cell? ⟨xb, 0, none⟩ = some (.int .i64 (q : Int)) ∧ w'.cell? ⟨xb, 1, none⟩ = some (.int .i64 (pn : Int))) [9] (by kernel_rfl) ?_ (fun hHeld => ?_)
          · exact KS.out _ (bel_drew (Nx.refl _))
          refine OrdU.AnyU.take (i := 0) (v := .agg (wf (dg t))) (some 20) (by rfl) (by rfl) (by kernel_rfl) (by kernel_rfl) (by kernel_rfl) (by kernel_rfl) (fun _ _ _ h => h) (Or.inl ⟨by rfl, ?_⟩) (by assumption) ?_
          · intro w hSw; exact exec_load 40 (.tmp 4) (by rfl) (w1.heap.size) (by rfl) _ _ (0, 0) _ hSw.1 underW rfl (sizeW _)
          (try simp only [Act.put, List.setIfInBounds_toArray, List.set_cons_zero, List.set_cons_succ])
          refine OrdU.AnyU.takeP (i := 1) (v := ?_) (some 21) (by rfl) (by rfl) (by kernel_rfl) (by kernel_rfl) (by kernel_rfl) (fun _ _ _ h => h) (Or.inl ⟨by rfl, ?_⟩) ?_
          rotate_left
          · intro w _; first | (go_simp; done) | (go_simp; with_reducible rfl)
          (try simp only [Act.put, List.setIfInBounds_toArray, List.set_cons_zero, List.set_cons_succ])
          refine OrdU.AnyU.take (i := 2) (v := ?_) (some 22) (by rfl) (by rfl) (by kernel_rfl) (by kernel_rfl) (by kernel_rfl) (by kernel_rfl) (fun _ _ _ h => h) (Or.inl ⟨by rfl, ?_⟩) (by assumption) ?_
          rotate_left
          · intro w hSw; (try dsimp only at hSw); first | (go_simp; done) | (go_simp; with_reducible rfl)
          (try simp only [Act.put, List.setIfInBounds_toArray, List.set_cons_zero, List.set_cons_succ])
          refine OrdU.AnyU.take (i := 4) (v := .agg (wf (dg b))) (some 24) (by rfl) (by rfl) (by kernel_rfl) (by kernel_rfl) (by kernel_rfl) (by kernel_rfl) (fun _ _ _ h => h) (Or.inl ⟨by rfl, ?_⟩) (by assumption) ?_
          · intro w hSw; exact exec_load 40 (.tmp 5) (by rfl) (w1.heap.size + 1) (by rfl) _ _ (0, 0) _ hSw.2.1 underW rfl (sizeW _)
          (try simp only [Act.put, List.setIfInBounds_toArray, List.set_cons_zero, List.set_cons_succ])
          refine OrdU.AnyU.takeP (i := 5) (v := ?_) (some 25) (by rfl) (by rfl) (by kernel_rfl) (by kernel_rfl) (by kernel_rfl) (fun _ _ _ h => h) (Or.inl ⟨by rfl, ?_⟩) ?_
          rotate_left
          · intro w _; first | (go_simp; done) | (go_simp; with_reducible rfl)
          (try simp only [Act.put, List.setIfInBounds_toArray, List.set_cons_zero, List.set_cons_succ])
          refine OrdU.AnyU.take (i := 6) (v := ?_) (some 26) (by rfl) (by rfl) (by kernel_rfl) (by kernel_rfl) (by kernel_rfl) (by kernel_rfl) (fun _ _ _ h => h) (Or.inl ⟨by rfl, ?_⟩) (by assumption) ?_
          rotate_left
          · intro w hSw; (try dsimp only at hSw); first | (go_simp; done) | (go_simp; with_reducible rfl)
          (try simp only [Act.put, List.setIfInBounds_toArray, List.set_cons_zero, List.set_cons_succ])
          clear hHeld
          refine OrdU.AnyU.one (i := 3) (by kernel_rfl) (by rfl) (fun K hK => ?_)
          go_simp
          refine (times_any t pn hp0 hp1 _).mono ?_
          rintro e wa ⟨rfl, hb⟩
          have HBa := hide (Nx.trans (bel_drew (Nx.refl _)) hb)
          clear hb
          (try dsimp only)
          refine hK.out _ _ (fun _ _ => KS.out _ HBa.out) ?_
          clear hK K
          (try simp only [Act.put, List.setIfInBounds_toArray, List.set_cons_zero, List.set_cons_succ])
          refine OrdU.AnyU.one (i := 7) (by kernel_rfl) (by rfl) (fun K hK => ?_)
          go_simp
          refine (times_any b q hq0 hq1 _).mono ?_
          rintro e wb ⟨rfl, hb⟩
          have HBb := hide (Nx.trans (HBa.out) hb)
          clear hb
          (try dsimp only)
          refine hK.out _ _ (fun _ _ => KS.out _ HBb.out) ?_
          clear hK K
          (try simp only [Act.put, List.setIfInBounds_toArray, List.set_cons_zero, List.set_cons_succ])
          refine OrdU.AnyU.one (i := 8) (by kernel_rfl) (by rfl) (fun K hK => ?_)
          go_simp
          refine (plus_any (t * pn) (b * q) _).mono ?_
          rintro e wc ⟨rfl, hb⟩
          have HBc := hide (Nx.trans (HBb.out) hb)
          clear hb
          (try dsimp only)
          refine hK.out _ _ (fun _ _ => KS.out _ HBc.out) ?_
          clear hK K
          (try simp only [Act.put, List.setIfInBounds_toArray, List.set_cons_zero, List.set_cons_succ])
          refine OrdU.AnyU.one (i := 9) (by kernel_rfl) (by rfl) (fun K hK => ?_)
          rw [if_pos (by rfl)]
          refine wp_store_row 40 (.tmp 4) (.tmp 28) rfl (w1.heap.size) (wf (dg (t * pn + b * q))) rfl rfl _ _ (KS.out _ HBc.out).1 (sizeW _) (by rw [wf_size, wf_size]) (wf_one _) ?_
          refine hK.out _ _ (fun _ h => absurd (by decide) h) ?_
          clear hK K
          (try simp only [Act.put, List.setIfInBounds_toArray, List.set_cons_zero, List.set_cons_succ])
          refine OrdU.AnyU.done (by kernel_rfl) ?_ _
          refine NoPanic.normal ?_
          obtain ⟨T, hT⟩ : ∃ T, t * pn + b * q = T := ⟨_, rfl⟩
          obtain ⟨B, hB⟩ : ∃ B, b * pn = B := ⟨_, rfl⟩
          have U1 := hide ((HUa.out.on HBc.out).setTop (t * pn + b * q))
          have X1 := hide (row_past (g := w1.heap.size) (row_on HX.out HBc.out) (by have := HXN.out; omega) (wf (dg (t * pn + b * q))))
          rw [hT] at U1 X1 HT HY HN
          rw [hT]
          clear HBa HBb HBc KS HUa HX
          generalize wc.setRow w1.heap.size (wf (dg T)) = v1 at *
          obtain ⟨y0, y1⟩ := row2 X1.out
          go_wp2_with (refine wpList_load_row rfl 40 (.tmp 5) rfl (w1.heap.size + 1) rfl _ (wf (dg (b))) (0, 0) _ U1.out.bot underW rfl (sizeW _) ?_)
          refine (times_any b pn hp0 hp1 _).mono ?_
          rintro e v2 ⟨rfl, hb⟩
          rw [hB] at HT HY HN
          rw [hB]
          have U2 := hide (U1.out.on hb)
          have X2 := hide (row_on X1.out hb)
          have U3 := hide (U2.out.setBot B)
          have X3 := hide (row_past (g := w1.heap.size + 1) X2.out (by have := HXN.out; omega) (wf (dg B)))
          clear hb y0 y1 U1 X1
          go_wp2_with (first | (refine wpList_store_row rfl 40 (.tmp 5) (.tmp 32) rfl (w1.heap.size + 1) (wf (dg (B))) rfl rfl _ (wf (dg b)) U2.out.bot (sizeW _) (by rw [wf_size, wf_size]) (wf_one _) ?_) | (refine wpList_load_row rfl 40 (.tmp 4) rfl (w1.heap.size) rfl _ (wf (dg (T))) (0, 0) _ U3.out.top underW rfl (sizeW _) ?_) | (refine wpList_load_row rfl 40 (.tmp 5) rfl (w1.heap.size + 1) rfl _ (wf (dg (B))) (0, 0) _ U3.out.bot underW rfl (sizeW _) ?_))
          by_cases hBT : B ≤ T
          · have HM : Hid (∀ w, Calls Try.prog 15 #[.agg (wf (dg T)), .agg (wf (dg B))] w fun e w' => e = .returned (.tuple #[.agg (wf (dg (T - B))), .bool true]) ∧ Nx w w') := hide (fun w => by
              have := minus_any T B HT.out.2 HT.out.1 w
              rwa [wv_df hBT, decide_eq_true hBT] at this)
            have HY := hide (HY.out hBT)
            clear hBT HN
            refine (HM.out _).mono ?_
            rintro e v4 ⟨rfl, hb⟩
            have U4 := hide (U3.out.on hb)
            clear hb U2 U3 X2 X3 HM
            have U5 : Hid (∀ Z, Us w1 ((v4.alloc (.cells Z 40)).setRow v4.heap.size (wf (dg (T - B)))) T B) := hide (fun Z => U4.out.on (below_setRow (Nx.alloc v4 _) (Nat.le_refl _) _))
            have R5 : Hid (∀ Z, ((v4.alloc (.cells Z 40)).setRow v4.heap.size (wf (dg (T - B)))).heap[v4.heap.size]? = some (.cells (wf (dg (T - B))) 40 (0, 0))) := hide (fun Z => setRow_heap _ _ _ _ _ _ (heap_alloc_new v4 _))
            have U6 : Hid (∀ Z, Us w1 (((v4.alloc (.cells Z 40)).setRow v4.heap.size (wf (dg (T - B)))).setRow w1.heap.size (wf (dg (T - B)))) (T - B) B) := hide (fun Z => (U5.out Z).setTop _)
            go_wp2_with (first | (refine wpList_store_row rfl 40 (.tmp 8) (.tmp 37) rfl (v4.heap.size) (wf (dg (T - B))) rfl rfl _ _ (heap_alloc_new v4 _) (sizeW _) (by rw [wf_size]; rfl) (wf_one _) ?_) | (refine wpList_load_row rfl 40 (.tmp 8) rfl (v4.heap.size) rfl _ (wf (dg (T - B))) (0, 0) _ (R5.out _) underW rfl (sizeW _) ?_) | (refine wpList_store_row rfl 40 (.tmp 4) (.tmp 40) rfl (w1.heap.size) (wf (dg (T - B))) rfl rfl _ (wf (dg T)) (U5.out _).top (sizeW _) (by rw [wf_size, wf_size]) (wf_one _) ?_))
            go_round
            case rel => exact ⟨k + 1, T - B, B, n + 1, by omega, by go_num, by go_num, HY, hide (U6.out _)⟩
            case measure => simp [intOf]; omega
          · have HM : Hid (∀ w, Calls Try.prog 15 #[.agg (wf (dg T)), .agg (wf (dg B))] w fun e w' => e = .returned (.tuple #[.agg (wf (dg (df T B))), .bool false]) ∧ Nx w w') := hide (fun w => by
              have := minus_any T B HT.out.2 HT.out.1 w
              rwa [decide_eq_false hBT] at this)
            have HN := hide (HN.out (by omega))
            clear hBT HY
            refine (HM.out _).mono ?_
            rintro e v4 ⟨rfl, hb⟩
            have U4 := hide (U3.out.on hb)
            clear hb U2 U3 X2 X3 HM
            have U5 : Hid (∀ Z, Us w1 ((v4.alloc (.cells Z 40)).setRow v4.heap.size (wf (dg (df T B)))) T B) := hide (fun Z => U4.out.on (below_setRow (Nx.alloc v4 _) (Nat.le_refl _) _))
            go_wp2_with (refine wpList_store_row rfl 40 (.tmp 8) (.tmp 37) rfl (v4.heap.size) (wf (dg (df T B))) rfl rfl _ _ (heap_alloc_new v4 _) (sizeW _) (by rw [wf_size]; rfl) (wf_one _) ?_)
            go_round
            case rel => exact ⟨k + 1, T, B, n, by omega, by go_num, rfl, HN, hide (U5.out _)⟩
            case measure => simp [intOf]; omega
      · obtain rfl : k = L.length := by omega
        have hS := HS.out
        rw [List.take_length] at hS
        obtain ⟨D0, D1⟩ := hS.done HL.out HG.out
        have hsm := (hS.small HL.out).2.1
        have hnk : (n : Int) ≤ 64 := by have := hS.wh; have := HL.out; omega
        have n0 : (0 : Int) ≤ (n : Int) := by omega
        have NX := hide (Nx.trans HB1.out HU.out.nx)
        clear hS HS
        go_upto_region 15 with fail
        refine wp_region_lit ?_
        refine wpList_val rfl (some 44) rfl (.agg (wf (dg t))) (exec_load 40 (.tmp 4) rfl w1.heap.size rfl _ _ (0, 0) _ HU.out.top underW rfl (sizeW _)) ?_
        refine wpList_val rfl (some 45) rfl (.agg (wf fun _ => 0)) (exec_build 40 #[] rfl [] (by simp) _ built0) ?_
        refine wpList_val rfl (some 46) rfl (.bool (decide (t = 0))) (exec_bin .eql 40 40 (.tmp 44) (.tmp 45) rfl (.agg (wf (dg t))) (.agg (wf fun _ => 0)) _ rfl rfl (run_eqGuard_agg _ _ _ _ _ _ _ guardW) (eq_wide t hsm _)) ?_
        refine wpList_nil ?_
        by_cases ht : t = 0
        · have E := hide (D0 ht)
          rw [decide_eq_true ht]
          clear D0 D1 ht hsm HU
          go_wp2
          go_ret2
          exact ⟨ret2 (by rw [E.out.1]; rfl) (by rw [E.out.2]; rfl), NX.out⟩
        · have E := hide (D1 ht)
          rw [decide_eq_false ht]
          clear D0 D1 ht hsm HU
          go_wp2
          go_ret2
          exact ⟨ret2 (by rw [E.out.1]; simp) (by rw [E.out.2]; rfl), NX.out⟩
end Go.Proofs.Ytkfddjmhoekjgab.Wd
