/- EdfSplit: who runs and who does not. -/
import Derived.Test.YtacbiiiadalocaaEdCon
import Derived.Test.YtacbiiiadalocaaEdRs
namespace Go.Proofs.Ytacbiiiadalocaa.Ed
open Go.RowKit Go.Proofs.Ytacbiiiadalocaa.Con
set_option linter.unusedVariables false
set_option linter.unusedSimpArgs false
attribute [local go_sem ↓] Go.wp_at_zero Go.wp_at_succ
theorem inc_get {l : List Int} (h : l.Pairwise (· < ·)) {k : Nat} (hk : k + 1 < l.length) : l.getD k 0 < l.getD (k + 1) 0 := by
  have := List.pairwise_iff_getElem.1 h k (k + 1) (by omega) hk (by omega)
  rwa [List.getD_eq_getElem?_getD, List.getD_eq_getElem?_getD, List.getElem?_eq_getElem (show k < l.length by omega), List.getElem?_eq_getElem hk]
theorem pick_inc (m : Int) (L : List Et) : (pickL m L).Pairwise (· < ·) := by
  unfold pickL
  split
  · exact sorted_inc _
  · exact List.Pairwise.nil
set_option maxHeartbeats 16000000 in
set_option maxRecDepth 100000 in
theorem split_walk (hA : Hid AwakeC) (hG : Hid GoodC) (hL : Hid LessC) (hP : Hid PickC) (hW : Hid WorstC) (hF : Hid FirstC) (m : Int) (L : List Et) (v : Value) (W : World) (h : Sl W v L) :
    Calls Try.prog 8 #[.int .i64 m, v] W fun e w' => e = .returned (.bool true) ∧ Nx W w' := by
  obtain ⟨p, cap, rfl, hn, hm⟩ := h.form
  have hmx : (L.length : Int) ≤ 9223372036854775807 := by unfold maxLen at hm; omega
  have H := hide h
  clear h
  go_enter Try.func8, Try.ntmps8
  go_wp2_with fail
  refine (hA.out _).mono ?_
  rintro e w1 ⟨rfl, hb⟩
  have B1 := hide hb
  clear hb
  by_cases hl : 64 < (L.length : Int)
  · have hl' : decide (64 < (L.length : Int)) = true := decide_eq_true hl
    go_wp2
    go_ret
    exact ⟨rfl, B1.out⟩
  have hl' : decide (64 < (L.length : Int)) = false := decide_eq_false hl
  have hl1 : L.length ≤ 100 := by omega
  go_wp2_with fail
  refine (hG.out m L _ w1 (H.out.below B1.out) hl1).mono ?_
  rintro e w2 ⟨rfl, hb⟩
  have B2 := hide (Nx.trans B1.out hb)
  clear hb B1
  cases hg : goodE m L with
  | false =>
    clear hg
    go_wp2
    go_ret
    exact ⟨rfl, B2.out⟩
  | true =>
    have HS1 := hide (split_first hg)
    have HS2 := hide (fun w f hw hf => split_less hg (w := w) (f := f) hw hf)
    clear hg
    obtain ⟨wo, hwo⟩ : ∃ o, worstO m L = o := ⟨_, rfl⟩
    obtain ⟨fo, hfo⟩ : ∃ o, firstO m L = o := ⟨_, rfl⟩
    rw [hfo] at HS1
    rw [hwo, hfo] at HS2
    have HWc := hide (hW.out m L _ w2 (H.out.below B2.out) hl1)
    rw [hwo] at HWc
    have HFc := hide (fun w (hB : Nx W w) => hF.out m L _ w (H.out.below hB) hl1)
    rw [hfo] at HFc
    have HPc := hide (fun w (hB : Nx W w) => hP.out m L _ w (H.out.below hB) hl1)
    have HI := hide (pick_inc m L)
    have HLs : Hid (wo.isSome = true → fo.isSome = true → lessB (val wo) (val fo) = true) := hide (fun h1 h2 => by
      cases wo with
      | none => cases h1
      | some a => cases fo with
        | none => cases h2
        | some b => exact HS2.out a b rfl rfl)
    clear HS2 hwo hfo
    generalize pickL m L = PL at *
    obtain ⟨wi, wd, wf, hwv⟩ : ∃ a b c, val wo = (a, b, c) := ⟨_, _, _, rfl⟩
    obtain ⟨fi, fd, ff, hfv⟩ : ∃ a b c, val fo = (a, b, c) := ⟨_, _, _, rfl⟩
    rw [hwv] at HWc HLs
    rw [hfv] at HFc HLs
    generalize wo.isSome = wb at *
    generalize fo.isSome = fb at *
    clear hwv hfv
    go_wp2_with fail
    refine HWc.out.mono ?_
    rintro e w3 ⟨rfl, hb⟩
    have B3 := hide (Nx.trans B2.out hb)
    have B3' := hide (Nx.trans B3.out (Nx.alloc w3 (.cells #[.int .i64 wi, .int .i64 wd, .bool wf] 24)))
    have r0 := hide (heap_alloc_new w3 (.cells #[.int .i64 wi, .int .i64 wd, .bool wf] 24))
    clear hb B2 HWc B3
    go_upto_region 6 with fail
    generalize hg1 : w3.heap.size = g1 at *
    generalize w3.alloc (.cells #[.int .i64 wi, .int .i64 wd, .bool wf] 24) = w4 at *
    clear hg1
    go_wp2_with fail
    refine (HFc.out _ B3'.out).mono ?_
    rintro e w5 ⟨rfl, hb⟩
    have R5 := hide (row_nx r0.out hb)
    have B5 := hide (Nx.trans B3'.out hb)
    have B5' := hide (Nx.trans B5.out (Nx.alloc w5 (.cells #[.int .i64 fi, .int .i64 fd, .bool ff] 24)))
    have q0 := hide (heap_alloc_new w5 (.cells #[.int .i64 fi, .int .i64 fd, .bool ff] 24))
    have R5' := hide (row_nx R5.out (Nx.alloc w5 (.cells #[.int .i64 fi, .int .i64 fd, .bool ff] 24)))
    clear hb B3' HFc r0 R5 B5
    go_upto_region 7 with fail
    generalize hg2 : w5.heap.size = g2 at *
    generalize w5.alloc (.cells #[.int .i64 fi, .int .i64 fd, .bool ff] 24) = w6 at *
    clear hg2
    go_wp2_with fail
    refine (HPc.out _ B5'.out).mono ?_
    rintro e w7 ⟨v7, rfl, hI, hb⟩
    have I7 := hide hI.out
    have RW := hide (row_nx R5'.out hb)
    have RF := hide (row_nx q0.out hb)
    have B7 := hide (Nx.trans B5'.out hb)
    clear hb hI B5' HPc q0 R5'
    obtain ⟨p7, c7, rfl, hn7, hm7⟩ := I7.out.form
    have hpx : (PL.length : Int) ≤ 9223372036854775807 := by unfold maxLen at hm7; omega
    go_wp2
    go_loopw [10] (fun i wr => ∃ k : Nat, 1 ≤ k ∧ i = .int .i64 (k : Int) ∧ Hid (Nx w7 wr)) (fun i _ => PL.length - (intOf i).toNat)
    case atStart => exact ⟨1, by omega, rfl, hide (Nx.refl _)⟩
    case round =>
      obtain ⟨k, hk, rfl, HN⟩ := hrel
      by_cases hkn : k < PL.length
      · have hk1 : (k : Int) < (PL.length : Int) := by omega
        have hk2 : (k : Int) - 1 < (PL.length : Int) := by omega
        have hk0 : 0 ≤ (k : Int) - 1 := by omega
        obtain ⟨j, rfl⟩ : ∃ j, k = j + 1 := ⟨k - 1, by omega⟩
        have hj : (((j + 1 : Nat) : Int) - 1) = (j : Int) := by omega
        obtain ⟨b, o, rfl, hb, x0⟩ := (I7.out.below HN.out).at hkn
        obtain ⟨b', o', e', _, y0⟩ := (I7.out.below HN.out).at (show j < PL.length by omega)
        simp only [Option.some.injEq, Addr.mk.injEq, and_true] at e'
        obtain ⟨rfl, rfl⟩ := e'
        have hlt := inc_get HI.out hkn
        have HN' : Hid (∀ n, Nx w7 (wr.drewN n)) := hide (fun n => bel_drewN HN.out n)
        clear HN
        generalize PL.getD (j + 1) 0 = a1 at *
        generalize PL.getD j 0 = a0 at *
        go_wp2
        go_quiet (fail)
        go_wp2
        go_round
        case rel => exact ⟨j + 1 + 1, by omega, by go_num, hide (HN'.out _)⟩
        case measure => simp [intOf]; omega
      · have BW := hide (Nx.trans B7.out HN.out)
        obtain ⟨a0, a1, a2⟩ := row3 (row_nx RW.out HN.out)
        obtain ⟨c0, c1, c2⟩ := row3 (row_nx RF.out HN.out)
        have HLw := hide (fun w => hL.out (wi, wd, wf) (fi, fd, ff) w)
        clear HN B7 RW RF
        by_cases hlt : (PL.length : Int) < (L.length : Int)
        · have d1 : decide ((PL.length : Int) < (L.length : Int)) = true := decide_eq_true hlt
          have e1 := HS1.out
          rw [decide_eq_true (show PL.length < L.length by omega)] at e1
          subst e1
          cases wb with
          | false =>
            go_wp2
            go_ret
            exact ⟨rfl, BW.out⟩
          | true =>
            rw [HLs.out rfl rfl] at HLw
            go_wp2_with fail
            refine (HLw.out _).mono ?_
            rintro e w8 ⟨rfl, hb⟩
            have B8 := hide (Nx.trans BW.out hb)
            clear hb
            go_wp2
            go_ret
            exact ⟨rfl, B8.out⟩
        · have d1 : decide ((PL.length : Int) < (L.length : Int)) = false := decide_eq_false hlt
          have e1 := HS1.out
          rw [decide_eq_false (show ¬ PL.length < L.length by omega)] at e1
          subst e1
          cases wb with
          | false =>
            go_wp2
            go_ret
            exact ⟨rfl, BW.out⟩
          | true =>
            go_wp2
            go_ret
            exact ⟨rfl, BW.out⟩
end Go.Proofs.Ytacbiiiadalocaa.Ed
