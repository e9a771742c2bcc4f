/- What the reference's SetText answers: what String answers. -/
import Derived.Test.YtpibejjhldnplaaDoorMText
import Derived.Test.YtpibejjhldnplaaDoorMNum
import Derived.Laws.StructEq
namespace Go.Proofs.YtpibejjhldnplaaDoor.Con
open Go.RowKit Go.Proofs.YtpibejjhldnplaaDoor.Mk
set_option linter.unusedVariables false
theorem nil_app (b : ByteArray) : ((⟨#[]⟩ : ByteArray) ++ b) = b := by
  apply ByteArray.ext; rw [ByteArray.data_append]; simp
theorem val_str {a b : ByteArray} (h : a = b) : Value.string a = Value.string b := by rw [h]

set_option maxRecDepth 100000 in
set_option maxHeartbeats 20000000 in
theorem setText_any (m : Nat) (w : World) (hm : m < 18446744073709551616) :
    Calls Tryd.prog 24 #[.agg (flags m)] w fun e w' => e = .returned (.string ⟨(strN m).toArray⟩) ∧ Below w.heap.size w w' := by
  have hfin0 := hide (strN_setT m hm)
  have hemp := hide (setT_empty m hm)
  go_enter Tryd.func24, Tryd.ntmps24
  go_wp2
  go_loopw [3, 4] (fun t i wr => ∃ k : Nat, k ≤ 64 ∧ i = .int .i64 k ∧ t = .string ⟨(setT m k).toArray⟩ ∧ Arr wr w.heap.size m ∧ Below w.heap.size w wr ∧ w.heap.size < wr.heap.size) (fun _ i _ => 64 - (intOf i).toNat)
  case atStart => exact ⟨0, by omega, rfl, rfl, Arr.new w m, (Below.refl _ w).alloc (Nat.le_refl _) _, by simp⟩
  case round =>
    obtain ⟨k, hk, rfl, rfl, hA, hB, hsz⟩ := hrel
    have hA' := hide hA
    have hB' := hide hB
    have hBs := hB.size
    have hTl := setT_len m k hm hk
    clear hA hB
    by_cases hlt : k < 64
    · have hck := (unhide hA').cell k hlt
      cases hbk : m.testBit k
      · rw [hbk] at hck
        have hs := hide (setT_skip m k (by unfold isStart; rw [hbk]; rfl))
        clear hbk
        go_wp2
        go_roundw
        case rel => exact ⟨k + 1, by omega, by go_num, val_str (by rw [unhide hs]), unhide hA', unhide hB', hsz⟩
        case measure => simp [intOf]; omega
      · rw [hbk] at hck
        have hbk' := hide hbk
        clear hbk
        by_cases hk0 : k = 0
        · have hst : isStart m k = true := by unfold isStart; rw [unhide hbk']; simp [hk0]
          have hgt : ¬ (0 : Int) < (k : Int) := by omega
          have hk0' := hide hk0
          clear hk0
          go_wp2
          go_loop [5] (fun x => ∃ e : Nat, k ≤ e ∧ e < 64 ∧ x = .int .i64 e ∧ ∀ j, k ≤ j → j ≤ e → m.testBit j = true) (fun x => 63 - (intOf x).toNat)
          case atStart => exact ⟨k, Nat.le_refl _, hlt, rfl, fun j h1 h2 => by rw [show j = k by omega]; exact unhide hbk'⟩
          case round =>
            obtain ⟨e, hke, he, rfl, hall⟩ := hrel
            by_cases he3 : e = 63
            · subst he3
              have hE := hide (endN_eq hm hke he hall (.inl rfl))
              have hS := hide (setT_start m k hlt hst)
              have hrt := hide (show textAt m k = runTx k 63 by unfold textAt; rw [unhide hE])
              have hN1 := hide (num_any k wr (by omega))
              have hlk := dec_le k hlt
              have hle' := dec_le 63 he
              clear hall
              by_cases hT0 : setT m k = []
              · rw [hT0]
                have hT0' := hide hT0
                clear hT0
                by_cases hek : k = 63
                · exfalso; have := unhide hk0'; omega
                · have hke2 : k < 63 := by omega
                  have hfin := hide (show setT m (k + 1) = Lib.decDigits k ++ [45] ++ Lib.decDigits 63 by
                    rw [unhide hS, unhide hrt, if_pos (unhide hT0'), unhide hT0', runTx, if_neg hek]; rfl)
                  clear hek
                  go_wp2_with fail
                  refine (unhide hN1).mono ?_
                  rintro e1 w1 ⟨rfl, hb1⟩
                  have hR1 := hide (And.intro ((unhide hA').below hb1 hsz) (And.intro ((unhide hB').trans (hb1.mono hBs)) (Nat.lt_of_lt_of_le hsz hb1.size)))
                  have hN2 := hide (num_any 63 w1 (by decide))
                  clear hb1 hN1
                  go_wp2_with fail
                  refine (unhide hN2).mono ?_
                  rintro e2 w2 ⟨rfl, hb2⟩
                  have hR := hide (And.intro ((unhide hR1).1.below hb2 (unhide hR1).2.2) (And.intro ((unhide hR1).2.1.trans (hb2.mono (unhide hR1).2.1.size)) (Nat.lt_of_lt_of_le (unhide hR1).2.2 hb2.size)))
                  clear hb2 hN2 hR1
                  go_wp2
                  go_roundw
                  case rel => exact ⟨k + 1, by omega, by go_num, val_str (by rw [unhide hfin, nil_app, ← bytes_app, ← bytes_app]), unhide hR⟩
                  case measure => simp [intOf]; omega
              · exact absurd (show setT m k = [] by rw [unhide hk0']; rfl) hT0
            · have hce := (unhide hA').cell (e + 1) (by omega)
              have he4 : e < 63 := by omega
              cases hb2 : m.testBit (e + 1)
              · rw [hb2] at hce
                have hb2' := hide hb2
                clear hb2
                have hE := hide (endN_eq hm hke he hall (.inr (unhide hb2')))
                have hS := hide (setT_start m k hlt hst)
                have hrt := hide (show textAt m k = runTx k e by unfold textAt; rw [unhide hE]; rfl)
                have hN1 := hide (num_any k wr (by omega))
                have hlk := dec_le k hlt
                have hle' := dec_le e he
                clear hall
                by_cases hT0 : setT m k = []
                · rw [hT0]
                  have hT0' := hide hT0
                  clear hT0
                  by_cases hek : k = e
                  · have hfin := hide (show setT m (k + 1) = Lib.decDigits k by
                      rw [unhide hS, unhide hrt, if_pos (unhide hT0'), unhide hT0', runTx, if_pos hek]; rfl)
                    have hge : ((e : Nat) : Int) ≤ (k : Int) := by omega
                    clear hek
                    go_wp2_with fail
                    refine (unhide hN1).mono ?_
                    rintro e1 w1 ⟨rfl, hb1⟩
                    have hR := hide (And.intro ((unhide hA').below hb1 hsz) (And.intro ((unhide hB').trans (hb1.mono hBs)) (Nat.lt_of_lt_of_le hsz hb1.size)))
                    clear hb1 hN1
                    go_wp2
                    go_roundw
                    case rel => exact ⟨k + 1, by omega, by go_num, val_str (by rw [unhide hfin, nil_app]), unhide hR⟩
                    case measure => simp [intOf]; omega
                  · have hke2 : k < e := by omega
                    have hfin := hide (show setT m (k + 1) = Lib.decDigits k ++ [45] ++ Lib.decDigits e by
                      rw [unhide hS, unhide hrt, if_pos (unhide hT0'), unhide hT0', runTx, if_neg hek]; rfl)
                    clear hek
                    go_wp2_with fail
                    refine (unhide hN1).mono ?_
                    rintro e1 w1 ⟨rfl, hb1⟩
                    have hR1 := hide (And.intro ((unhide hA').below hb1 hsz) (And.intro ((unhide hB').trans (hb1.mono hBs)) (Nat.lt_of_lt_of_le hsz hb1.size)))
                    have hN2 := hide (num_any e w1 he)
                    clear hb1 hN1
                    go_wp2_with fail
                    refine (unhide hN2).mono ?_
                    rintro e2 w2 ⟨rfl, hb2⟩
                    have hR := hide (And.intro ((unhide hR1).1.below hb2 (unhide hR1).2.2) (And.intro ((unhide hR1).2.1.trans (hb2.mono (unhide hR1).2.1.size)) (Nat.lt_of_lt_of_le (unhide hR1).2.2 hb2.size)))
                    clear hb2 hN2 hR1
                    go_wp2
                    go_roundw
                    case rel => exact ⟨k + 1, by omega, by go_num, val_str (by rw [unhide hfin, nil_app, ← bytes_app, ← bytes_app]), unhide hR⟩
                    case measure => simp [intOf]; omega
                · exact absurd (show setT m k = [] by rw [unhide hk0']; rfl) hT0
              · rw [hb2] at hce
                have hall' := hide (show ∀ j, k ≤ j → j ≤ e + 1 → m.testBit j = true from fun j h1 h2 => by
                  by_cases hj : j = e + 1
                  · rw [hj]; exact hb2
                  · exact hall j h1 (by omega))
                clear hb2 hall
                go_wp2
                go_round
                case rel => exact ⟨e + 1, by omega, by omega, by go_num, unhide hall'⟩
                case measure => simp [intOf]; omega
        · obtain ⟨p, hp⟩ : ∃ p : Nat, (k : Int) - 1 = (p : Int) := ⟨k - 1, by omega⟩
          have hp64 : p < 64 := by omega
          have hpk : k - 1 = p := by omega
          have hcp := (unhide hA').cell p hp64
          have hgt : (0 : Int) < (k : Int) := by omega
          cases hbp : m.testBit p
          · rw [hbp] at hcp
            have hst : isStart m k = true := by unfold isStart; rw [unhide hbk', hpk, hbp]; simp
            clear hbp hk0 hpk
            go_wp2
            go_loop [5] (fun x => ∃ e : Nat, k ≤ e ∧ e < 64 ∧ x = .int .i64 e ∧ ∀ j, k ≤ j → j ≤ e → m.testBit j = true) (fun x => 63 - (intOf x).toNat)
            case atStart => exact ⟨k, Nat.le_refl _, hlt, rfl, fun j h1 h2 => by rw [show j = k by omega]; exact unhide hbk'⟩
            case round =>
              obtain ⟨e, hke, he, rfl, hall⟩ := hrel
              by_cases he3 : e = 63
              · subst he3
                have hE := hide (endN_eq hm hke he hall (.inl rfl))
                have hS := hide (setT_start m k hlt hst)
                have hrt := hide (show textAt m k = runTx k 63 by unfold textAt; rw [unhide hE])
                have hN1 := hide (num_any k wr (by omega))
                have hlk := dec_le k hlt
                have hle' := dec_le 63 he
                clear hall
                by_cases hT0 : setT m k = []
                · rw [hT0]
                  have hT0' := hide hT0
                  clear hT0
                  by_cases hek : k = 63
                  · have hfin := hide (show setT m (k + 1) = Lib.decDigits k by
                      rw [unhide hS, unhide hrt, if_pos (unhide hT0'), unhide hT0', runTx, if_pos hek]; rfl)
                    have hge : ((63 : Nat) : Int) ≤ (k : Int) := by omega
                    clear hek
                    go_wp2_with fail
                    refine (unhide hN1).mono ?_
                    rintro e1 w1 ⟨rfl, hb1⟩
                    have hR := hide (And.intro ((unhide hA').below hb1 hsz) (And.intro ((unhide hB').trans (hb1.mono hBs)) (Nat.lt_of_lt_of_le hsz hb1.size)))
                    clear hb1 hN1
                    go_wp2
                    go_roundw
                    case rel => exact ⟨k + 1, by omega, by go_num, val_str (by rw [unhide hfin, nil_app]), unhide hR⟩
                    case measure => simp [intOf]; omega
                  · have hke2 : k < 63 := by omega
                    have hfin := hide (show setT m (k + 1) = Lib.decDigits k ++ [45] ++ Lib.decDigits 63 by
                      rw [unhide hS, unhide hrt, if_pos (unhide hT0'), unhide hT0', runTx, if_neg hek]; rfl)
                    clear hek
                    go_wp2_with fail
                    refine (unhide hN1).mono ?_
                    rintro e1 w1 ⟨rfl, hb1⟩
                    have hR1 := hide (And.intro ((unhide hA').below hb1 hsz) (And.intro ((unhide hB').trans (hb1.mono hBs)) (Nat.lt_of_lt_of_le hsz hb1.size)))
                    have hN2 := hide (num_any 63 w1 (by decide))
                    clear hb1 hN1
                    go_wp2_with fail
                    refine (unhide hN2).mono ?_
                    rintro e2 w2 ⟨rfl, hb2⟩
                    have hR := hide (And.intro ((unhide hR1).1.below hb2 (unhide hR1).2.2) (And.intro ((unhide hR1).2.1.trans (hb2.mono (unhide hR1).2.1.size)) (Nat.lt_of_lt_of_le (unhide hR1).2.2 hb2.size)))
                    clear hb2 hN2 hR1
                    go_wp2
                    go_roundw
                    case rel => exact ⟨k + 1, by omega, by go_num, val_str (by rw [unhide hfin, nil_app, ← bytes_app, ← bytes_app]), unhide hR⟩
                    case measure => simp [intOf]; omega
                · have hT0' := hide hT0
                  have hne : (setT m k).isEmpty = false := by simpa using hT0
                  clear hT0
                  by_cases hek : k = 63
                  · have hfin := hide (show setT m (k + 1) = setT m k ++ [44] ++ Lib.decDigits k by
                      rw [unhide hS, unhide hrt, if_neg (unhide hT0'), runTx, if_pos hek])
                    have hge : ((63 : Nat) : Int) ≤ (k : Int) := by omega
                    clear hek
                    go_wp2_with fail
                    refine (unhide hN1).mono ?_
                    rintro e1 w1 ⟨rfl, hb1⟩
                    have hR := hide (And.intro ((unhide hA').below hb1 hsz) (And.intro ((unhide hB').trans (hb1.mono hBs)) (Nat.lt_of_lt_of_le hsz hb1.size)))
                    clear hb1 hN1
                    go_wp2
                    go_roundw
                    case rel => exact ⟨k + 1, by omega, by go_num, val_str (by rw [unhide hfin, ← bytes_app, ← bytes_app]), unhide hR⟩
                    case measure => simp [intOf]; omega
                  · have hke2 : k < 63 := by omega
                    have hfin := hide (show setT m (k + 1) = setT m k ++ [44] ++ Lib.decDigits k ++ [45] ++ Lib.decDigits 63 by
                      rw [unhide hS, unhide hrt, if_neg (unhide hT0'), runTx, if_neg hek]; simp)
                    clear hek
                    go_wp2_with fail
                    refine (unhide hN1).mono ?_
                    rintro e1 w1 ⟨rfl, hb1⟩
                    have hR1 := hide (And.intro ((unhide hA').below hb1 hsz) (And.intro ((unhide hB').trans (hb1.mono hBs)) (Nat.lt_of_lt_of_le hsz hb1.size)))
                    have hN2 := hide (num_any 63 w1 (by decide))
                    clear hb1 hN1
                    go_wp2_with fail
                    refine (unhide hN2).mono ?_
                    rintro e2 w2 ⟨rfl, hb2⟩
                    have hR := hide (And.intro ((unhide hR1).1.below hb2 (unhide hR1).2.2) (And.intro ((unhide hR1).2.1.trans (hb2.mono (unhide hR1).2.1.size)) (Nat.lt_of_lt_of_le (unhide hR1).2.2 hb2.size)))
                    clear hb2 hN2 hR1
                    go_wp2
                    go_roundw
                    case rel => exact ⟨k + 1, by omega, by go_num, val_str (by rw [unhide hfin, ← bytes_app, ← bytes_app, ← bytes_app, ← bytes_app]), unhide hR⟩
                    case measure => simp [intOf]; omega
              · have hce := (unhide hA').cell (e + 1) (by omega)
                have he4 : e < 63 := by omega
                cases hb2 : m.testBit (e + 1)
                · rw [hb2] at hce
                  have hb2' := hide hb2
                  clear hb2
                  have hE := hide (endN_eq hm hke he hall (.inr (unhide hb2')))
                  have hS := hide (setT_start m k hlt hst)
                  have hrt := hide (show textAt m k = runTx k e by unfold textAt; rw [unhide hE]; rfl)
                  have hN1 := hide (num_any k wr (by omega))
                  have hlk := dec_le k hlt
                  have hle' := dec_le e he
                  clear hall
                  by_cases hT0 : setT m k = []
                  · rw [hT0]
                    have hT0' := hide hT0
                    clear hT0
                    by_cases hek : k = e
                    · have hfin := hide (show setT m (k + 1) = Lib.decDigits k by
                        rw [unhide hS, unhide hrt, if_pos (unhide hT0'), unhide hT0', runTx, if_pos hek]; rfl)
                      have hge : ((e : Nat) : Int) ≤ (k : Int) := by omega
                      clear hek
                      go_wp2_with fail
                      refine (unhide hN1).mono ?_
                      rintro e1 w1 ⟨rfl, hb1⟩
                      have hR := hide (And.intro ((unhide hA').below hb1 hsz) (And.intro ((unhide hB').trans (hb1.mono hBs)) (Nat.lt_of_lt_of_le hsz hb1.size)))
                      clear hb1 hN1
                      go_wp2
                      go_roundw
                      case rel => exact ⟨k + 1, by omega, by go_num, val_str (by rw [unhide hfin, nil_app]), unhide hR⟩
                      case measure => simp [intOf]; omega
                    · have hke2 : k < e := by omega
                      have hfin := hide (show setT m (k + 1) = Lib.decDigits k ++ [45] ++ Lib.decDigits e by
                        rw [unhide hS, unhide hrt, if_pos (unhide hT0'), unhide hT0', runTx, if_neg hek]; rfl)
                      clear hek
                      go_wp2_with fail
                      refine (unhide hN1).mono ?_
                      rintro e1 w1 ⟨rfl, hb1⟩
                      have hR1 := hide (And.intro ((unhide hA').below hb1 hsz) (And.intro ((unhide hB').trans (hb1.mono hBs)) (Nat.lt_of_lt_of_le hsz hb1.size)))
                      have hN2 := hide (num_any e w1 he)
                      clear hb1 hN1
                      go_wp2_with fail
                      refine (unhide hN2).mono ?_
                      rintro e2 w2 ⟨rfl, hb2⟩
                      have hR := hide (And.intro ((unhide hR1).1.below hb2 (unhide hR1).2.2) (And.intro ((unhide hR1).2.1.trans (hb2.mono (unhide hR1).2.1.size)) (Nat.lt_of_lt_of_le (unhide hR1).2.2 hb2.size)))
                      clear hb2 hN2 hR1
                      go_wp2
                      go_roundw
                      case rel => exact ⟨k + 1, by omega, by go_num, val_str (by rw [unhide hfin, nil_app, ← bytes_app, ← bytes_app]), unhide hR⟩
                      case measure => simp [intOf]; omega
                  · have hT0' := hide hT0
                    have hne : (setT m k).isEmpty = false := by simpa using hT0
                    clear hT0
                    by_cases hek : k = e
                    · have hfin := hide (show setT m (k + 1) = setT m k ++ [44] ++ Lib.decDigits k by
                        rw [unhide hS, unhide hrt, if_neg (unhide hT0'), runTx, if_pos hek])
                      have hge : ((e : Nat) : Int) ≤ (k : Int) := by omega
                      clear hek
                      go_wp2_with fail
                      refine (unhide hN1).mono ?_
                      rintro e1 w1 ⟨rfl, hb1⟩
                      have hR := hide (And.intro ((unhide hA').below hb1 hsz) (And.intro ((unhide hB').trans (hb1.mono hBs)) (Nat.lt_of_lt_of_le hsz hb1.size)))
                      clear hb1 hN1
                      go_wp2
                      go_roundw
                      case rel => exact ⟨k + 1, by omega, by go_num, val_str (by rw [unhide hfin, ← bytes_app, ← bytes_app]), unhide hR⟩
                      case measure => simp [intOf]; omega
                    · have hke2 : k < e := by omega
                      have hfin := hide (show setT m (k + 1) = setT m k ++ [44] ++ Lib.decDigits k ++ [45] ++ Lib.decDigits e by
                        rw [unhide hS, unhide hrt, if_neg (unhide hT0'), runTx, if_neg hek]; simp)
                      clear hek
                      go_wp2_with fail
                      refine (unhide hN1).mono ?_
                      rintro e1 w1 ⟨rfl, hb1⟩
                      have hR1 := hide (And.intro ((unhide hA').below hb1 hsz) (And.intro ((unhide hB').trans (hb1.mono hBs)) (Nat.lt_of_lt_of_le hsz hb1.size)))
                      have hN2 := hide (num_any e w1 he)
                      clear hb1 hN1
                      go_wp2_with fail
                      refine (unhide hN2).mono ?_
                      rintro e2 w2 ⟨rfl, hb2⟩
                      have hR := hide (And.intro ((unhide hR1).1.below hb2 (unhide hR1).2.2) (And.intro ((unhide hR1).2.1.trans (hb2.mono (unhide hR1).2.1.size)) (Nat.lt_of_lt_of_le (unhide hR1).2.2 hb2.size)))
                      clear hb2 hN2 hR1
                      go_wp2
                      go_roundw
                      case rel => exact ⟨k + 1, by omega, by go_num, val_str (by rw [unhide hfin, ← bytes_app, ← bytes_app, ← bytes_app, ← bytes_app]), unhide hR⟩
                      case measure => simp [intOf]; omega
                · rw [hb2] at hce
                  have hall' := hide (show ∀ j, k ≤ j → j ≤ e + 1 → m.testBit j = true from fun j h1 h2 => by
                    by_cases hj : j = e + 1
                    · rw [hj]; exact hb2
                    · exact hall j h1 (by omega))
                  clear hb2 hall
                  go_wp2
                  go_round
                  case rel => exact ⟨e + 1, by omega, by omega, by go_num, unhide hall'⟩
                  case measure => simp [intOf]; omega
          · rw [hbp] at hcp
            have hs := hide (setT_skip m k (by unfold isStart; rw [unhide hbk', hpk, hbp]; simp [hk0]))
            clear hbp hk0 hpk
            go_wp2
            go_roundw
            case rel => exact ⟨k + 1, by omega, by go_num, val_str (by rw [unhide hs]), unhide hA', unhide hB', hsz⟩
            case measure => simp [intOf]; omega
    · obtain rfl : k = 64 := by omega
      by_cases h0 : m = 0
      · have hT := (unhide hemp).2 h0
        rw [hT]
        clear hT
        go_wp2
        go_ret
        exact ⟨ret_str (by rw [unhide hfin0, if_pos h0]), unhide hB'⟩
      · have hT : setT m 64 ≠ [] := fun h => h0 ((unhide hemp).1 h)
        have hne : (setT m 64).isEmpty = false := by simpa using hT
        have hT' := hide hT
        have h0' := hide h0
        clear hT h0
        go_wp2
        go_ret
        exact ⟨ret_str (by rw [unhide hfin0, if_neg (unhide h0')]), unhide hB'⟩
end Go.Proofs.YtpibejjhldnplaaDoor.Con
