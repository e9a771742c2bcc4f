/- IdsPlays' walk. -/
import Derived.Test.YtmegbbgolmejnaaIPlay
import Derived.Test.YtmegbbgolmejnaaIOnceX
namespace Go.Proofs.Ytmegbbgolmejnaa.Con
open Go.RowKit
set_option linter.unusedVariables false
set_option linter.unusedSimpArgs false
attribute [local go_sem ↓] Go.wp_at_zero Go.wp_at_succ
/-- A call: what, which of those had, or which name. -/
structure Ac where
  op : Int
  i : Int
  m : Nat
  raw : Bool
def ac' (l : List Ac) (i : Nat) : Ac := l.getD i ⟨0, 0, 0, false⟩
theorem names_row {B : Nat} {w : World} {l : List Sp} {n : Nat} {v : Value} (h : NRow B w v (names l n)) {p : Nat} (hp : p < n) (ht : (sp l p).2 = true) : ∃ g c, v = .slice (some ⟨g, 0, none⟩) (names l n).length c ∧ (names l p).length < (names l n).length ∧ w.cell? ⟨g, (names l p).length, none⟩ = some (.int .u32 ((nm p (sp l p).1 : Nat) : Int)) := by
  have ha := names_at ht n hp
  have hlt := (List.getElem?_eq_some_iff.1 ha).1
  obtain ⟨q, c, rfl⟩ := h.form
  obtain ⟨g, rfl, hc⟩ := h.at _ hlt
  rw [List.getD_eq_getElem?_getD, ha] at hc
  exact ⟨g, c, rfl, hlt, hc⟩
set_option maxRecDepth 100000 in
set_option maxHeartbeats 4000000 in
theorem plays_walk (most : Int) (p : Option Addr) (c : Nat) (zs : List Ac) (W : World) (hl : zs.length ≤ 9223372036854775807) (hwf : ∀ z ∈ zs, z.m < 4294967296)
    (h1 : zs.length ≤ 150 → 0 < zs.length → ∃ b o, p = some ⟨b, o, none⟩ ∧ b < W.heap.size ∧ ∀ j, j < zs.length → W.cell? ⟨b, o + j * 4, none⟩ = some (.int .i64 (ac' zs j).op) ∧ W.cell? ⟨b, o + j * 4 + 1, none⟩ = some (.int .i64 (ac' zs j).i) ∧ W.cell? ⟨b, o + j * 4 + 2, none⟩ = some (.int .u32 ((ac' zs j).m : Nat)) ∧ W.cell? ⟨b, o + j * 4 + 3, none⟩ = some (.bool (ac' zs j).raw)) :
    Calls Try.prog 4 #[.int .i64 most, .slice p zs.length c] W fun e w' => e = .returned (.bool true) ∧ Below W.heap.size W w' := by
  have hA := hide (awake_any W)
  by_cases hn : 150 < zs.length
  · have hn' : (150 : Int) < (zs.length : Int) := by omega
    go_enter Try.func4, Try.ntmps4
    go_wp2_with (go_at_call 7; refine hA.out.mono ?_; rintro e w1 ⟨rfl, hB1⟩)
    go_ret
    exact ⟨rfl, hB1⟩
  · have H1 := hide (h1 (by omega))
    have HW := hide hwf
    clear h1 hwf
    have hn' : ¬ (150 : Int) < (zs.length : Int) := by omega
    obtain ⟨K, hnn⟩ : ∃ n, zs.length = n := ⟨_, rfl⟩
    have NN := hide hnn
    rw [hnn] at hl hn hn' ⊢
    clear hnn
    have HN := hide (fun W' => new_any most W')
    have RN := hide (fun W' => rnew_any most W')
    unfold NewPost at HN
    unfold RNewPost at RN
    go_enter Try.func4, Try.ntmps4
    go_wp2_with (first
      | (go_at_call 7; refine hA.out.mono ?_; rintro e w0 ⟨rfl, hB0⟩; have HB0 := hide hB0; clear hB0)
      | (go_at_call 8; refine (HN.out _).mono ?_; rintro e w1 ⟨tb, rb, rfl, hT, hB, p1, p2⟩; have HT := hide hT; have HB := hide hB; have P2 := hide p2; clear hT hB p1 p2)
      | (go_at_call 16; refine (RN.out _).mono ?_; rintro e w2 ⟨wb, gb, kb, rfl, hF, hC, q1, q2, q3⟩; have HF := hide hF; have HC := hide hC; have Q2 := hide q2; have Q3 := hide q3; clear hF hC q1 q2 q3))
    have J0 := hide (pr_start HB0.out HT.out HB.out P2.out HF.out HC.out Q2.out Q3.out)
    generalize held most = n at J0
    generalize List.replicate n (0, false) = l0 at J0
    clear HB0 HT HB P2 HF HC Q2 Q3 HN RN hA
    go_loopw [7, 8] (fun v s wr => ∃ k : Nat, k ≤ K ∧ s = .int .i64 k ∧ ∃ l xs, xs.length ≤ k ∧ Hid (PR W wr tb rb n wb gb kb l v xs)) (fun _ s _ => K - (intOf s).toNat)
    case atStart => exact ⟨0, by omega, rfl, _, [], by simp, J0⟩
    case round =>
      obtain ⟨k, hk, rfl, l, xs, hxs, HR⟩ := hrel
      obtain ⟨q, cc, hv⟩ := HR.out.row.form
      subst hv
      by_cases hkn : k < K
      · obtain ⟨b, o, rfl, hbl, hcl⟩ := H1.out (by rw [NN.out]; omega)
        obtain ⟨q0, q1, q2, q3⟩ := hcl k (by rw [NN.out]; exact hkn)
        have hM := HR.out.below
        have a0 : wr.cell? ⟨b, o + k * 4, none⟩ = some (.int .i64 (ac' zs k).op) := by rw [hM.cell (p := ⟨b, o + k * 4, none⟩) hbl]; exact q0
        have a1 : wr.cell? ⟨b, o + k * 4 + 1, none⟩ = some (.int .i64 (ac' zs k).i) := by rw [hM.cell (p := ⟨b, o + k * 4 + 1, none⟩) hbl]; exact q1
        have a2 : wr.cell? ⟨b, o + k * 4 + 2, none⟩ = some (.int .u32 ((ac' zs k).m : Nat)) := by rw [hM.cell (p := ⟨b, o + k * 4 + 2, none⟩) hbl]; exact q2
        have a3 : wr.cell? ⟨b, o + k * 4 + 3, none⟩ = some (.bool (ac' zs k).raw) := by rw [hM.cell (p := ⟨b, o + k * 4 + 3, none⟩) hbl]; exact q3
        have WF : Hid ((ac' zs k).m < 4294967296) := hide (by
          unfold ac'
          rw [List.getD_eq_getElem?_getD, List.getElem?_eq_getElem (by rw [NN.out]; exact hkn)]
          exact HW.out _ (List.getElem_mem _))
        clear hM q0 q1 q2 q3 hcl
        generalize (ac' zs k).op = op at *
        generalize (ac' zs k).i = iv at *
        generalize (ac' zs k).m = m at *
        generalize (ac' zs k).raw = raw at *
        have hk1 : (k : Int) < (K : Int) := by omega
        go_upto_region 13 with fail
        go_cut [64] from 30 to 126 (fun s wx => ∃ t : Bool, s = .bool t ∧ (t = true → 0 ≤ iv ∧ iv < (xs.length : Int)) ∧ wx = wr)
        case first => as_aux_lemma =>
          cases raw with
          | true =>
            go_wp2
            go_meet
            case rel => exact ⟨false, rfl, by simp, rfl⟩
          | false =>
            by_cases i0 : 0 ≤ iv
            · by_cases i1 : iv < (xs.length : Int)
              · go_wp2
                go_meet
                case rel => exact ⟨true, rfl, fun _ => ⟨i0, i1⟩, rfl⟩
              · go_wp2
                go_meet
                case rel => exact ⟨false, rfl, by simp, rfl⟩
            · go_wp2
              go_meet
              case rel => exact ⟨false, rfl, by simp, rfl⟩
        case rest =>
          obtain ⟨t, rfl, ht, hwc⟩ := hcut
          have hwc' := hwc.symm
          clear hwc
          subst hwc'
          go_upto_if 64 with fail
          go_cut [9] from 30 to 126 (fun s wx => ∃ x : Nat, s = .int .u32 (x : Int) ∧ x < 4294967296 ∧ wx = wr)
          case first => as_aux_lemma =>
            cases t with
            | true =>
              obtain ⟨t0, t1⟩ := ht rfl
              clear ht
              obtain ⟨y, rfl⟩ := Int.eq_ofNat_of_zero_le t0
              have hy : y < xs.length := by omega
              obtain ⟨g, rfl, hc⟩ := HR.out.row.at y hy
              have hx := HR.out.had _ (getD_mem xs y hy)
              generalize xs.getD y 0 = x at hc hx
              go_wp2
              go_meet
              case rel => exact ⟨x, rfl, hx, rfl⟩
            | false =>
              clear ht
              go_wp2
              go_meet
              case rel => exact ⟨m, rfl, WF.out, rfl⟩
          case rest =>
            obtain ⟨x, rfl, hx, hwc⟩ := hcut
            have hwc' := hwc.symm
            clear hwc
            subst hwc'
            clear a1 a2 a3 WF ht
            by_cases h0 : op = 0
            · subst h0
              rcases free_full l with ⟨fp, hp⟩ | hf
              · have TK := hide (pr_take HR.out fp hp)
                go_wp2_with (first
                  | (go_at_call 9; refine TK.out.mono ?_; rintro e w3 ⟨N, hN, rfl, TO⟩)
                  | (go_at_call 17; refine TO.out.mono ?_; rintro e w4 ⟨rfl, l', R4⟩)
                  | (at_builtin; refine wpList_napp rfl _ _ rfl W.heap.size N _ xs rfl rfl (by exact R4.out.row) (by exact R4.out.below.size) (by omega) ?_; intro v5 w5 HA))
                have R5 := hide (R4.out.app hN HA.out.1 HA.out.2.1)
                go_roundw
                case rel => exact ⟨k + 1, by omega, by go_num, _, _, by simp; omega, R5⟩
                case measure => simp [intOf]; omega
              · have TF := hide (take_full HR.out.tab hf)
                have RF := hide (rtake_full HR.out.ref hf)
                go_wp2_with (first
                  | (go_at_call 9; refine TF.out.mono ?_; rintro e w' ⟨rfl, hw⟩; have hw2 := hw.symm; clear hw; subst hw2)
                  | (go_at_call 17; refine RF.out.mono ?_; rintro e w' ⟨rfl, hw⟩; have hw2 := hw.symm; clear hw; subst hw2))
                go_roundw
                case rel => exact ⟨k + 1, by omega, by go_num, _, _, by omega, HR⟩
                case measure => simp [intOf]; omega
            · have n0 : (op == 0) = false := by simp [h0]
              by_cases h1 : op = 1
              · subst h1
                have GV := hide (pr_give HR.out x hx)
                go_wp2_with (first
                  | (go_at_call 11; refine GV.out.mono ?_; rintro e w3 ⟨E, rfl, TO⟩)
                  | (go_at_call 18; refine TO.out.mono ?_; rintro e w4 ⟨rfl, l', R4⟩))
                go_roundw
                case rel => exact ⟨k + 1, by omega, by go_num, _, _, by omega, R4⟩
                case measure => simp [intOf]; omega
              · have n1 : (op == 1) = false := by simp [h1]
                have IS := hide (pr_is HR.out x hx)
                go_wp2_with (first
                  | (go_at_call 10; refine IS.out.mono ?_; rintro e w3 ⟨E, rfl, TO⟩)
                  | (go_at_call 19; refine TO.out.mono ?_; rintro e w4 ⟨rfl, R4⟩))
                go_roundw
                case rel => exact ⟨k + 1, by omega, by go_num, _, _, by omega, R4⟩
                case measure => simp [intOf]; omega
      · obtain rfl : k = K := by omega
        have LI := hide (list_any HR.out.tab)
        go_wp2_with (go_at_call 15; refine LI.out.mono ?_; rintro e w3 ⟨v3, rfl, hN3, hB3⟩; have HL := hide hN3; have HB := hide hB3; clear hN3 hB3)
        have R3 := hide (HR.out.bel HB.out)
        clear HR LI HB
        obtain ⟨r0, r1⟩ := R3.out.ref.cells
        have hhi := R3.out.tab.hi
        go_loop [15, 16] (fun s t => ∃ y : Nat, y ≤ n ∧ t = .int .i64 y ∧ s = .int .i64 ((names l y).length : Nat)) (fun _ t => n - (intOf t).toNat)
        case atStart => exact ⟨0, by omega, rfl, rfl⟩
        case round =>
          obtain ⟨y, hy, rfl, rfl⟩ := hrel
          by_cases hyn : y < n
          · have y1 : (y : Int) < (n : Int) := by omega
            obtain ⟨g0, g1, _, _⟩ := R3.out.ref.item y hyn
            have A := hide (at_in R3.out.tab y hyn)
            unfold AtPost at A
            have hle := names_le l y
            cases hT : (sp l y).2 with
            | true =>
              obtain ⟨ga, ca, hv3, hlt, hcell⟩ := names_row HL.out hyn hT
              have FT := hide (congrArg List.length (names_yes hT))
              rw [List.length_append] at FT
              have hnm := nm_int y (sp l y).1
              rw [hT] at g1
              obtain ⟨N, hN⟩ : ∃ N, nm y (sp l y).1 = N := ⟨_, rfl⟩
              have E : (if 0 ≤ (y : Int) ∧ (sp l (y : Int).toNat).2 = true then nm (y : Int).toNat (sp l (y : Int).toNat).1 else 0) = N ∧ (decide (0 ≤ (y : Int)) && (sp l (y : Int).toNat).2) = true := by
                rw [Int.toNat_natCast, if_pos ⟨by omega, hT⟩, hT]; simpa using hN
              rw [E.1, E.2] at A
              rw [hN] at hcell hnm
              have hG := R3.out.tab.fit y
              clear hT hN E
              generalize (sp l y).1 = G at g0 hnm hG
              generalize (names l n).length = L at hv3 hlt
              subst hv3
              obtain ⟨Q, hQ⟩ : ∃ Q, (names l y).length = Q := ⟨_, rfl⟩
              rw [hQ] at hcell hlt hle FT ⊢
              clear hQ
              have q1 : ¬ (L : Int) ≤ (Q : Int) := by omega
              have q2 : (Q : Int) < (L : Int) := by omega
              go_wp2_with (go_at_call 12; refine A.out.mono ?_; rintro e w1 ⟨rfl, hw⟩; have hw2 := hw.symm; clear hw; subst hw2)
              go_round
              case rel => exact ⟨y + 1, by omega, by go_num, by rw [FT.out]; go_num⟩
              case measure => simp [intOf]; omega
            | false =>
              have FT := hide (congrArg List.length (names_no hT))
              rw [hT] at g1
              have E : (if 0 ≤ (y : Int) ∧ (sp l (y : Int).toNat).2 = true then nm (y : Int).toNat (sp l (y : Int).toNat).1 else 0) = 0 ∧ (decide (0 ≤ (y : Int)) && (sp l (y : Int).toNat).2) = false := by
                rw [Int.toNat_natCast, if_neg (by rw [hT]; simp), hT]; simp
              rw [E.1, E.2] at A
              clear hT E
              go_wp2_with (go_at_call 12; refine A.out.mono ?_; rintro e w1 ⟨rfl, hw⟩; have hw2 := hw.symm; clear hw; subst hw2)
              go_round
              case rel => exact ⟨y + 1, by omega, by go_num, by rw [FT.out]⟩
              case measure => simp [intOf]; omega
          · obtain rfl : y = n := by omega
            obtain ⟨q3, c3, hv3⟩ := HL.out.form
            subst hv3
            have FIN := hide R3.out.below
            go_wp2
            go_ret
            exact ⟨rfl, FIN.out⟩
end Go.Proofs.Ytmegbbgolmejnaa.Con
