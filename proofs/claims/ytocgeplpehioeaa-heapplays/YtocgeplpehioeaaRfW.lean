/- HeapPlays' walk. -/
import Derived.Test.YtocgeplpehioeaaRfL
import Derived.Deep.CutBlock
import Derived.Deep.CutRange
namespace Go.Proofs.Ytocgeplpehioeaa.Con
open Go.RowKit Go.Proofs.Ytocgeplpehioeaa.Hq
set_option linter.unusedVariables false
set_option linter.unusedSimpArgs false
attribute [local go_sem ↓] Go.wp_at_zero Go.wp_at_succ
theorem row_cell {W : World} {r : Nat} {m : List It} (hr : W.heap[r]? = some (.cells (flat m).toArray 29 (0, 0))) (i : Nat) (hi : i < m.length) :
    W.cell? ⟨r, i * 2, none⟩ = some (.int .i64 (at' m i).1) ∧ W.cell? ⟨r, i * 2 + 1, none⟩ = some (.int .i64 (at' m i).2) := by
  refine ⟨?_, ?_⟩
  · rw [cell_of_row W r _ _ _ _ hr, List.getElem?_toArray, flat_get m _ (by omega)]
    unfold cellv; rw [if_pos (by omega), show i * 2 / 2 = i by omega]
  · rw [cell_of_row W r _ _ _ _ hr, List.getElem?_toArray, flat_get m _ (by omega)]
    unfold cellv; rw [if_neg (by omega), show (i * 2 + 1) / 2 = i by omega]
/-- A call: what, whom, the key. -/
structure Ac where
  op : Int
  id : Int
  key : Int
def ac' (l : List Ac) (i : Nat) : Ac := l.getD i ⟨0, 0, 0⟩
/-- Behind k calls: the two hold the same. -/
def PJ (W0 : World) (hb mb : Nat) (most : Int) (g : Bool) (rb : Nat) (wr : World) : Prop :=
  ∃ v l rv L, PM W0 wr hb mb most g v l rb rv L [] ∧ l.Perm L ∧ Asc g L
/-- .. and this call's own numbers lie at ab. -/
def PJ2 (W0 : World) (hb mb : Nat) (most : Int) (g : Bool) (rb ab : Nat) (cs : Obj) (wr : World) : Prop :=
  ∃ v l rv L, PM W0 wr hb mb most g v l rb rv L [(ab, cs)] ∧ l.Perm L ∧ Asc g L
set_option maxRecDepth 100000 in
set_option maxHeartbeats 4000000 in
theorem plays_walk (most : Int) (g : Bool) (p : Option Addr) (c : Nat) (zs : List Ac) (W : World) (hl : zs.length ≤ 9223372036854775807) (hwf : ∀ z ∈ zs, in64 z.op ∧ in64 z.id ∧ in64 z.key)
    (h1 : zs.length ≤ 80 → 0 < zs.length → ∃ b o, p = some ⟨b, o, none⟩ ∧ b < W.heap.size ∧ ∀ j, j < zs.length → W.cell? ⟨b, o + j * 3, none⟩ = some (.int .i64 (ac' zs j).op) ∧ W.cell? ⟨b, o + j * 3 + 1, none⟩ = some (.int .i64 (ac' zs j).id) ∧ W.cell? ⟨b, o + j * 3 + 2, none⟩ = some (.int .i64 (ac' zs j).key)) :
    Calls Try.prog 4 #[.int .i64 most, .bool g, .slice p zs.length c] W fun e w' => e = .returned (.bool true) ∧ Below W.heap.size W w' := by
  have hA := hide (awake_any W)
  by_cases hn : 80 < zs.length
  · have hn' : (80 : Int) < (zs.length : Int) := by omega
    go_enter Try.func4, Try.ntmps4
    go_wp2_with (go_at_call 8; refine hA.out.mono ?_; rintro e w1 ⟨rfl, hB1⟩)
    go_ret
    exact ⟨rfl, hB1⟩
  · have H1 := hide (h1 (by omega))
    have HW := hide hwf
    clear h1 hwf
    have hn' : ¬ (80 : Int) < (zs.length : Int) := by omega
    obtain ⟨n, hnn⟩ : ∃ n, zs.length = n := ⟨_, rfl⟩
    have NN := hide hnn
    rw [hnn] at hl hn hn' ⊢
    clear hnn
    have HN := hide (fun W' => new_any most g W')
    have RN := hide (fun W' => rnew_any most g W')
    go_enter Try.func4, Try.ntmps4
    go_wp2_with (first
      | (go_at_call 8; refine hA.out.mono ?_; rintro e w1 ⟨rfl, hB1⟩; have HB1 := hide hB1; clear hB1)
      | (go_at_call 9; refine (HN.out _).mono ?_; rintro e w2 ⟨hb, mb, rfl, hQ2, hB2, p1, p2⟩; have HQ2 := hide hQ2; have HB2 := hide hB2; clear hQ2 hB2)
      | (go_at_call 18; refine (RN.out _).mono ?_; rintro e w3 ⟨rb, rfl, r1, r2, r3⟩; have R1 := hide r1; have R2 := hide r2; clear r1 r2))
    generalize held most = M at HQ2 R1
    have hs1 := HB1.out.size
    have hs2 := HB2.out.size
    have J0 : Hid (PJ W hb mb M g rb w3) := hide (by
      refine ⟨_, [], _, [], ⟨HQ2.out.below R2.out, R1.out, ?_, ?_, (HB1.out.trans (HB2.out.mono hs1)).trans (R2.out.mono (by omega)), fun x hx => by cases hx⟩, List.Perm.refl _, List.Pairwise.nil⟩
      · rintro k (rfl | hk) (e | e | e)
        · have := HQ2.out.hp.lt; omega
        · have := HQ2.out.hp.map.lt; omega
        · simp [Value.ownBlock] at e
        · simp [Value.ownBlock] at hk
        · simp [Value.ownBlock] at hk
        · simp [Value.ownBlock] at hk
      · rintro k ((rfl | hk) | (rfl | rfl | hk))
        · omega
        · simp [Value.ownBlock] at hk
        · omega
        · omega
        · simp [Value.ownBlock] at hk)
    clear HQ2 HB2 R1 R2 p1 p2 r3 hs1 hs2 HB1 HN RN hA
    go_loopw [9] (fun s wr => ∃ k : Nat, k ≤ n ∧ s = .int .i64 k ∧ Hid (PJ W hb mb M g rb wr)) (fun s _ => n - (intOf s).toNat)
    case atStart => exact ⟨0, by omega, rfl, J0⟩
    case round =>
      obtain ⟨k, hk, rfl, HR⟩ := hrel
      by_cases hkn : k < n
      · obtain ⟨b, o, rfl, hbl, hcl⟩ := H1.out (by rw [NN.out]; omega)
        obtain ⟨v, l, rv, L, hM, hP, hAs⟩ := HR.out
        obtain ⟨q0, q1, q2⟩ := hcl k (by rw [NN.out]; exact hkn)
        have a0 : wr.cell? ⟨b, o + k * 3, none⟩ = some (.int .i64 (ac' zs k).op) := by rw [hM.below.cell (p := ⟨b, o + k * 3, none⟩) hbl]; exact q0
        have a1 : wr.cell? ⟨b, o + k * 3 + 1, none⟩ = some (.int .i64 (ac' zs k).id) := by rw [hM.below.cell (p := ⟨b, o + k * 3 + 1, none⟩) hbl]; exact q1
        have a2 : wr.cell? ⟨b, o + k * 3 + 2, none⟩ = some (.int .i64 (ac' zs k).key) := by rw [hM.below.cell (p := ⟨b, o + k * 3 + 2, none⟩) hbl]; exact q2
        have WF : Hid (in64 (ac' zs k).op ∧ in64 (ac' zs k).id ∧ in64 (ac' zs k).key) := hide (by
          unfold ac'
          rw [List.getD_eq_getElem?_getD, List.getElem?_eq_getElem (by rw [NN.out]; exact hkn)]
          exact HW.out _ (List.getElem_mem _))
        have MM := hide hM
        have PP := hide hP
        have AA := hide hAs
        clear hM hP hAs q0 q1 q2 hcl HR
        generalize (ac' zs k).op = op at *
        generalize (ac' zs k).id = id at *
        generalize (ac' zs k).key = key at *
        have hk1 : (k : Int) < (n : Int) := by omega
        go_upto_block 2 with fail
        have M2 := hide (MM.out.lay (.cells #[.int .i64 op, .int .i64 id, .int .i64 key] 41))
        generalize hW2 : wr.alloc (Obj.cells #[Value.int IntKind.i64 op, Value.int IntKind.i64 id, Value.int IntKind.i64 key] 41) = W2 at *
        generalize wr.heap.size = ab at *
        clear hW2 a0 a1 a2 MM
        have b1 : W2.cell? ⟨ab, 1, none⟩ = some (.int .i64 id) := M2.out.cell (by simp; exact ⟨rfl, rfl⟩) rfl
        have b2 : W2.cell? ⟨ab, 2, none⟩ = some (.int .i64 key) := M2.out.cell (by simp; exact ⟨rfl, rfl⟩) rfl
        go_cut [11] from 34 to 227 (fun s wx => s = .bool true ∧ Hid (PJ2 W hb mb M g rb ab (.cells #[.int .i64 op, .int .i64 id, .int .i64 key] 41) wx))
        case first => as_aux_lemma =>
          have I1 := hide WF.out.2.1
          have I2 := hide WF.out.2.2
          have HD := hide (M2.out.ids PP.out)
          have CK : Hid (∀ (w' : World) (v : Value) (l : List It) (rv : Value) (L : List It), PM W w' hb mb M g v l rb rv L [(ab, .cells #[.int .i64 op, .int .i64 id, .int .i64 key] 41)] → w'.cell? ⟨ab, 1, none⟩ = some (.int .i64 id) ∧ w'.cell? ⟨ab, 2, none⟩ = some (.int .i64 key)) := hide (fun w' _ _ _ _ h => ⟨h.cell (by simp; exact ⟨rfl, rfl⟩) rfl, h.cell (by simp; exact ⟨rfl, rfl⟩) rfl⟩)
          have CK1 : Hid (∀ (w' : World) (v : Value) (l : List It) (rv : Value) (L : List It), PM W w' hb mb M g v l rb rv L [(ab, .cells #[.int .i64 op, .int .i64 id, .int .i64 key] 41)] → w'.cell? ⟨ab, 1, none⟩ = some (.int .i64 id)) := hide (fun w' v l rv L h => (CK.out w' v l rv L h).1)
          by_cases h0 : op = 0
          · subst h0
            go_wp2
            go_region_held3 (fun w' => w'.cell? ⟨ab, 1, none⟩ = some (.int .i64 id) ∧ w'.cell? ⟨ab, 2, none⟩ = some (.int .i64 key))
              (first | go_keep | exact CK.out _ _ _ _ _ hm1.out | exact CK.out _ _ _ _ _ hm2.out)
              ((first
                | (go_at_call 10; refine (pm_hput (by first | exact hm2.out | exact M2.out.drew) id key I1.out I2.out).mono ?_; rintro e w1 ⟨e1, v1, l1, rfl, rel1, hm1⟩)
                | (go_at_call 19; refine (pm_rput (by first | exact hm1.out | exact M2.out.drew) HD.out id key).mono ?_; rintro e w2 ⟨e2, rv1, L1, rfl, rel2, hm2⟩)))
            all_goals
              have SM := hide (put_same PP.out rel1.out rel2.out.1)
              go_wp2
              go_meet
              case rel => first
                | exact ⟨congrArg Value.bool (by rw [SM.out.1]; simp), hide ⟨_, _, _, _, hm2.out, SM.out.2, rel2.out.2 AA.out⟩⟩
                | exact ⟨congrArg Value.bool (by rw [SM.out.1]; simp), hide ⟨_, _, _, _, hm1.out, SM.out.2, rel2.out.2 AA.out⟩⟩
          · have n0 : (op == 0) = false := by simp [h0]
            by_cases h1 : op = 1
            · subst h1
              go_wp2
              go_region_held3 (fun w' => w'.cell? ⟨ab, 1, none⟩ = some (.int .i64 id) ∧ w'.cell? ⟨ab, 2, none⟩ = some (.int .i64 key))
                (first | go_keep | exact CK.out _ _ _ _ _ hm1.out | exact CK.out _ _ _ _ _ hm2.out)
                ((first
                  | (go_at_call 11; refine (pm_hset (by first | exact hm2.out | exact M2.out.drew) id key I1.out I2.out).mono ?_; rintro e w1 ⟨e1, v1, l1, rfl, rel1, hm1⟩)
                  | (go_at_call 20; refine (pm_rset (by first | exact hm1.out | exact M2.out.drew) HD.out id key).mono ?_; rintro e w2 ⟨e2, rv1, L1, rfl, rel2, hm2⟩)))
              all_goals
                have SM := hide (set_same M2.out.hq.hp.ids PP.out rel1.out rel2.out.1)
                go_wp2
                go_meet
                case rel => first
                  | exact ⟨congrArg Value.bool (by rw [SM.out.1]; simp), hide ⟨_, _, _, _, hm2.out, SM.out.2, rel2.out.2 AA.out⟩⟩
                  | exact ⟨congrArg Value.bool (by rw [SM.out.1]; simp), hide ⟨_, _, _, _, hm1.out, SM.out.2, rel2.out.2 AA.out⟩⟩

            · have n1 : (op == 1) = false := by simp [h1]
              by_cases h2 : op = 2
              · subst h2
                go_wp2
                go_region_held3 (fun w' => w'.cell? ⟨ab, 1, none⟩ = some (.int .i64 id))
                  (first | go_keep | exact CK1.out _ _ _ _ _ hm1.out | exact CK1.out _ _ _ _ _ hm2.out)
                  ((first
                    | (go_at_call 12; refine (pm_hdrop (by first | exact hm2.out | exact M2.out.drew) id I1.out).mono ?_; rintro e w1 ⟨e1, v1, l1, rfl, rel1, hm1⟩)
                    | (go_at_call 21; refine (pm_rdrop (by first | exact hm1.out | exact M2.out.drew) HD.out id).mono ?_; rintro e w2 ⟨e2, rv1, L1, rfl, rel2, hm2⟩)))
                all_goals
                  have SM := hide (drop_same M2.out.hq.hp.ids PP.out rel1.out rel2.out.1)
                  go_wp2
                  go_meet
                  case rel => first
                    | exact ⟨congrArg Value.bool (by rw [SM.out.1]; simp), hide ⟨_, _, _, _, hm2.out, SM.out.2, rel2.out.2 AA.out⟩⟩
                    | exact ⟨congrArg Value.bool (by rw [SM.out.1]; simp), hide ⟨_, _, _, _, hm1.out, SM.out.2, rel2.out.2 AA.out⟩⟩

              · have n2 : (op == 2) = false := by simp [h2]
                rcases Nat.eq_zero_or_pos L.length with hz | hz
                · have PO := hide (pm_hpop0 M2.out PP.out hz)
                  go_wp2_with (go_at_call 13; refine PO.out.mono ?_; rintro e w1 ⟨rfl, hm⟩)
                  have M3 := hide (hm.out.lay (.cells #[.int .i64 0, .int .i64 0] 29))
                  generalize hW3 : w1.alloc (Obj.cells #[Value.int IntKind.i64 0, Value.int IntKind.i64 0] 29) = W3 at *
                  generalize w1.heap.size = xb at *
                  clear hW3 hm
                  obtain ⟨p', cap', hv, _, _⟩ := M3.out.rf.form
                  obtain ⟨_, _, c2⟩ := M3.out.rf.cells
                  rw [hv, hz] at c2
                  have HV := hide hv
                  clear hv
                  go_quiet (fail)
                  go_wp2
                  go_meet
                  case rel => exact ⟨rfl, hide ⟨_, _, _, _, (M3.out.drewN _).sub (by simp), PP.out, AA.out⟩⟩
                · have PO := hide (pm_hpop M2.out PP.out AA.out hz)
                  have T0 : Hid (Asc g (L.drop 1)) := hide (List.Pairwise.sublist (List.drop_sublist 1 L) AA.out)
                  have HZ := hide hz
                  go_wp2_with (go_at_call 13; refine PO.out.mono ?_; rintro e w1 ⟨rfl, v1, l1, pr, hm⟩)
                  have M3 := hide (hm.out.lay (.cells #[.int .i64 (at' L 0).1, .int .i64 (at' L 0).2] 29))
                  generalize hW3 : w1.alloc (Obj.cells #[Value.int IntKind.i64 (at' L 0).1, Value.int IntKind.i64 (at' L 0).2] 29) = W3 at *
                  generalize w1.heap.size = xb at *
                  clear hW3 hm PO
                  obtain ⟨p', cap', hv, hcap, _⟩ := M3.out.rf.form
                  subst hv
                  obtain ⟨_, _, c2⟩ := M3.out.rf.cells
                  have f2 := M3.out.rf.frozen 2
                  obtain ⟨b', o', hp', _, _, y0, y1⟩ := M3.out.rf.item 0 hz
                  subst hp'
                  rw [Nat.zero_mul, Nat.add_zero] at y0 y1
                  have x0 : W3.cell? ⟨xb, 0, none⟩ = some (.int .i64 (at' L 0).1) := M3.out.cell (List.mem_cons_self) rfl
                  have x1 : W3.cell? ⟨xb, 1, none⟩ = some (.int .i64 (at' L 0).2) := M3.out.cell (List.mem_cons_self) rfl
                  obtain ⟨r2, ho⟩ := RdC.fromAt (k := 1) M3.out.rf.row hz
                  have TL := hide (fun nq => ((M3.out.drewN nq).tail (r2.below (below_drewN (Below.refl _ _) nq)) rfl hz ho).sub (cs := [(ab, .cells #[.int .i64 op, .int .i64 id, .int .i64 key] 41)]) (by simp))
                  clear r2 ho
                  generalize (at' L 0).1 = t0 at *
                  generalize (at' L 0).2 = t1 at *
                  have d1 : decide ((0 : Int) < (L.length : Int)) = true := decide_eq_true (by omega)
                  have hz' : (0 : Int) < (L.length : Int) := by omega
                  by_cases hc : cap' = 1
                  · subst hc
                    rw [if_pos rfl, Nat.sub_self] at TL
                    have e0 : L.length - 1 = 0 := by omega
                    rw [e0] at TL
                    go_quiet (fail)
                    go_wp2
                    go_meet
                    case rel => exact ⟨rfl, hide ⟨_, _, _, _, TL.out _, pr.out, T0.out⟩⟩
                  · rw [if_neg hc] at TL
                    go_quiet (fail)
                    go_wp2
                    go_meet
                    case rel => exact ⟨rfl, hide ⟨_, _, _, _, TL.out _, pr.out, T0.out⟩⟩
        case rest => as_aux_lemma =>
          obtain ⟨rfl, JJ⟩ := hcut
          have I1 := hide WF.out.2.1
          clear M2 PP AA b1 b2 WF
          obtain ⟨v, l, rv, L, hM, hP, hAs⟩ := JJ.out
          have HD := hide (hM.ids hP)
          clear JJ
          rcases Nat.eq_zero_or_pos L.length with hz | hz
          · have hth : ∀ y ∈ L, y.1 ≠ id := by rw [List.eq_nil_of_length_eq_zero hz]; intro y hy; cases hy
            have hpn := pos_none hth
            have TP := hide (pm_htop hM hP hAs)
            rw [show at' L 0 = (0, 0) by rw [List.eq_nil_of_length_eq_zero hz]; rfl, hz] at TP
            rw [show decide (0 < 0) = false from rfl] at TP
            skip
            go_wp2_with fail
            refine TP.out.mono ?_
            rintro e w1 ⟨rfl, hm⟩
            have M3 := hide (hm.out.lay (.cells #[.int .i64 0, .int .i64 0] 29))
            go_upto_region 25 with fail
            generalize hW3 : w1.alloc (Obj.cells #[Value.int IntKind.i64 0, Value.int IntKind.i64 0] 29) = W3 at *
            generalize w1.heap.size = xb at *
            clear hW3 hm TP
            obtain ⟨p', cap', hv, _, _⟩ := M3.out.rf.form
            subst hv
            obtain ⟨_, _, c2⟩ := M3.out.rf.cells
            have x0 := M3.out.cell (j := 0) (List.mem_cons_self) rfl
            have x1 := M3.out.cell (j := 1) (List.mem_cons_self) rfl
            have z1 : W3.cell? ⟨ab, 1, none⟩ = some (.int .i64 id) := M3.out.cell (List.mem_cons_of_mem _ List.mem_cons_self) rfl
            have LN := hide (fun nq => pm_hlen (M3.out.drewN nq) hP)
            have FI := hide (rfind_any M3.out.rf HD.out id)
            rw [hpn] at FI
            simp only [Option.getD_none] at FI
            have KY := hide (pm_hkey0 M3.out hP id I1.out hth)
            rw [hz] at c2 LN
            have P3 := hide hP
            have A3 := hide hAs
            have H3 := hide hM
            clear hP hAs hM
            go_wp2_with (first
              | (go_at_call 15; refine KY.out.mono ?_; rintro e w5 ⟨rfl, hw⟩; have hw2 := hw.symm; clear hw; subst hw2)
              | (go_at_call 22; refine FI.out.mono ?_; rintro e w5 ⟨rfl, hw⟩; have hw2 := hw.symm; clear hw; subst hw2))
            simp only [List.append]
            go_quiet ((go_at_call 17; exact Calls.quiet_of_same (LN.out _)))
            go_wp2
            go_roundw
            case rel => exact ⟨k + 1, by omega, by go_num, hide ⟨_, _, _, _, (M3.out.drewN _).bare, P3.out, A3.out⟩⟩
            case measure => simp [intOf]; omega
          · rcases pos_cases HD.out id with ⟨i, hi, hie, hps⟩ | ⟨hth, hpn⟩
            · as_aux_lemma =>
              have TP := hide (pm_htop hM hP hAs)
              rw [decide_eq_true hz] at TP
              have HZ := hide hz
              go_wp2_with fail
              refine TP.out.mono ?_
              rintro e w1 ⟨rfl, hm⟩
              have M3 := hide (hm.out.lay (.cells #[.int .i64 (at' L 0).1, .int .i64 (at' L 0).2] 29))
              go_upto_region 25 with fail
              generalize hW3 : w1.alloc (Obj.cells #[Value.int IntKind.i64 (at' L 0).1, Value.int IntKind.i64 (at' L 0).2] 29) = W3 at *
              generalize w1.heap.size = xb at *
              clear hW3 hm TP
              obtain ⟨p', cap', hv, _, _⟩ := M3.out.rf.form
              subst hv
              obtain ⟨_, _, c2⟩ := M3.out.rf.cells
              have x0 := M3.out.cell (j := 0) (List.mem_cons_self) rfl
              have x1 := M3.out.cell (j := 1) (List.mem_cons_self) rfl
              have z1 : W3.cell? ⟨ab, 1, none⟩ = some (.int .i64 id) := M3.out.cell (List.mem_cons_of_mem _ List.mem_cons_self) rfl
              have LN := hide (fun nq => pm_hlen (M3.out.drewN nq) hP)
              have FI := hide (rfind_any M3.out.rf HD.out id)
              rw [hps] at FI
              simp only [Option.getD_some] at FI
              have KY := hide (pm_hkey M3.out hP i hi)
              rw [hie] at KY
              obtain ⟨b', o', hp', _, _, y0, y1⟩ := M3.out.rf.item 0 hz
              subst hp'
              rw [Nat.zero_mul, Nat.add_zero] at y0 y1
              obtain ⟨b2, o2, hp2, _, _, u0, u1⟩ := M3.out.rf.item i hi
              simp only [Option.some.injEq, Addr.mk.injEq, and_true] at hp2
              obtain ⟨rfl, rfl⟩ := hp2
              generalize (at' L i).2 = ky at *
              have i1 : (i : Int) < (L.length : Int) := by omega
              have i0 : (0 : Int) ≤ (i : Int) := by omega
              generalize (at' L 0).1 = t0 at *
              generalize (at' L 0).2 = t1 at *
              have hz' : (0 : Int) < (L.length : Int) := by omega
              have P3 := hide hP
              have A3 := hide hAs
              have H3 := hide hM
              clear hP hAs hM
              go_wp2_with (first
                | (go_at_call 15; refine KY.out.mono ?_; rintro e w5 ⟨rfl, hw⟩; have hw2 := hw.symm; clear hw; subst hw2)
                | (go_at_call 22; refine FI.out.mono ?_; rintro e w5 ⟨rfl, hw⟩; have hw2 := hw.symm; clear hw; subst hw2))
              simp only [List.append]
              go_quiet ((go_at_call 17; exact Calls.quiet_of_same (LN.out _)))
              go_wp2
              go_roundw
              case rel => exact ⟨k + 1, by omega, by go_num, hide ⟨_, _, _, _, (M3.out.drewN _).bare, P3.out, A3.out⟩⟩
              case measure => simp [intOf]; omega
            · as_aux_lemma =>
              have TP := hide (pm_htop hM hP hAs)
              rw [decide_eq_true hz] at TP
              have HZ := hide hz
              go_wp2_with fail
              refine TP.out.mono ?_
              rintro e w1 ⟨rfl, hm⟩
              have M3 := hide (hm.out.lay (.cells #[.int .i64 (at' L 0).1, .int .i64 (at' L 0).2] 29))
              go_upto_region 25 with fail
              generalize hW3 : w1.alloc (Obj.cells #[Value.int IntKind.i64 (at' L 0).1, Value.int IntKind.i64 (at' L 0).2] 29) = W3 at *
              generalize w1.heap.size = xb at *
              clear hW3 hm TP
              obtain ⟨p', cap', hv, _, _⟩ := M3.out.rf.form
              subst hv
              obtain ⟨_, _, c2⟩ := M3.out.rf.cells
              have x0 := M3.out.cell (j := 0) (List.mem_cons_self) rfl
              have x1 := M3.out.cell (j := 1) (List.mem_cons_self) rfl
              have z1 : W3.cell? ⟨ab, 1, none⟩ = some (.int .i64 id) := M3.out.cell (List.mem_cons_of_mem _ List.mem_cons_self) rfl
              have LN := hide (fun nq => pm_hlen (M3.out.drewN nq) hP)
              have FI := hide (rfind_any M3.out.rf HD.out id)
              rw [hpn] at FI
              simp only [Option.getD_none] at FI
              have KY := hide (pm_hkey0 M3.out hP id I1.out hth)
              obtain ⟨b', o', hp', _, _, y0, y1⟩ := M3.out.rf.item 0 hz
              subst hp'
              rw [Nat.zero_mul, Nat.add_zero] at y0 y1
              generalize (at' L 0).1 = t0 at *
              generalize (at' L 0).2 = t1 at *
              have hz' : (0 : Int) < (L.length : Int) := by omega
              have P3 := hide hP
              have A3 := hide hAs
              have H3 := hide hM
              clear hP hAs hM
              go_wp2_with (first
                | (go_at_call 15; refine KY.out.mono ?_; rintro e w5 ⟨rfl, hw⟩; have hw2 := hw.symm; clear hw; subst hw2)
                | (go_at_call 22; refine FI.out.mono ?_; rintro e w5 ⟨rfl, hw⟩; have hw2 := hw.symm; clear hw; subst hw2))
              simp only [List.append]
              go_quiet ((go_at_call 17; exact Calls.quiet_of_same (LN.out _)))
              go_wp2
              go_roundw
              case rel => exact ⟨k + 1, by omega, by go_num, hide ⟨_, _, _, _, (M3.out.drewN _).bare, P3.out, A3.out⟩⟩
              case measure => simp [intOf]; omega
      · obtain rfl : k = n := by omega
        obtain ⟨v, l, rv, L, hM, hP, hAs⟩ := HR.out
        have AL := hide (pm_hall hM hP hAs)
        obtain ⟨p', cap', hv, _, _⟩ := hM.rf.form
        subst hv
        have hL := hM.rf.len
        clear hM HR
        go_wp2_with fail
        refine AL.out.mono ?_
        rintro e w4 ⟨r, rfl, M4, R4⟩
        obtain ⟨_, _, c2⟩ := M4.out.rf.cells
        go_wp2
        go_loopw [20] (fun s wr => ∃ j : Nat, j ≤ L.length ∧ s = .int .i64 j ∧ Hid (Below w4.heap.size w4 wr)) (fun s _ => L.length - (intOf s).toNat)
        case atStart => exact ⟨0, by omega, rfl, hide (Below.refl _ _)⟩
        case round =>
          obtain ⟨j, hj, rfl, RB⟩ := hrel
          have M5 := hide (M4.out.more RB.out)
          have R5 := hide (row_kept RB.out R4.out)
          by_cases hjk : j < L.length
          · obtain ⟨u0, u1⟩ := row_cell R5.out j hjk
            obtain ⟨b', o', hp', _, _, y0, y1⟩ := M5.out.rf.item j hjk
            subst hp'
            obtain ⟨_, _, c5⟩ := M5.out.rf.cells
            generalize (at' L j).1 = t0 at *
            generalize (at' L j).2 = t1 at *
            have hj1 : (j : Int) < (L.length : Int) := by omega
            have j0 : (0 : Int) ≤ (j : Int) := by omega
            go_wp2
            go_quiet (fail)
            go_wp2
            go_roundw
            case rel => exact ⟨j + 1, by omega, by go_num, hide (below_drewN RB.out _)⟩
            case measure => simp [intOf]; omega
          · obtain rfl : j = L.length := by omega
            go_wp2
            go_ret
            exact ⟨rfl, M5.out.below⟩
end Go.Proofs.Ytocgeplpehioeaa.Con
