/- same: are both the same steps? -/
import Derived.Test.YtdbkdnjmiehlcaaDoorGOwn
namespace Go.Proofs.YtdbkdnjmiehlcaaDoor.Con
open Go.RowKit Go.Proofs.YtdbkdnjmiehlcaaDoor.Pm
set_option linter.unusedVariables false
set_option linter.unusedSimpArgs false
theorem same_no {A B : List St} {k : Nat} (h : at' A k ≠ at' B k) : decide (A = B) = false := decide_eq_false (fun e => h (by rw [e]))
theorem same_len {A B : List St} (h : A.length ≠ B.length) : decide (A = B) = false := decide_eq_false (fun e => h (by rw [e]))
theorem same_yes {A B : List St} (hl : A.length = B.length) (h : ∀ j, j < A.length → at' A j = at' B j) : decide (A = B) = true := by
  refine decide_eq_true (List.ext_getElem hl fun i h1 h2 => ?_)
  have := h i h1
  have e1 := at_eq h1
  have e2 := at_eq h2
  rw [List.getElem?_eq_getElem h1] at e1
  rw [List.getElem?_eq_getElem h2] at e2
  rw [Option.some.inj e1, Option.some.inj e2]; exact this
set_option maxHeartbeats 4000000 in
theorem same_any {W : World} {v u : Value} {A B : List St} (hv : Sl W v A) (hu : Sl W u B) (hl : A.length ≤ 1000) :
    Calls Tryd.prog 21 #[v, u] W fun e w' => e = .returned (.bool (decide (A = B))) ∧ Below W.heap.size W w' := by
  obtain ⟨p, cap, rfl, hn, hm⟩ := hv.form
  obtain ⟨q, cap2, rfl, hn2, hm2⟩ := hu.form
  by_cases hne : A.length = B.length
  · rw [← hne] at hu hn2 ⊢
    have HV := hide hv
    have HU := hide hu
    have HN : Hid (∀ k, at' A k ≠ at' B k → decide (A = B) = false) := hide (fun k h => same_no h)
    have HY : Hid ((∀ j, j < A.length → at' A j = at' B j) → decide (A = B) = true) := hide (same_yes hne)
    have HE := hide hne
    clear hv hu hne
    go_enter Tryd.func21, Tryd.ntmps21
    go_wp2
    go_loopw [5] (fun i wr => ∃ k : Nat, k ≤ A.length ∧ i = .int .i64 k ∧ Hid (∀ j, j < k → at' A j = at' B j) ∧ Hid (Below W.heap.size W wr)) (fun i _ => A.length - (intOf i).toNat)
    case atStart => exact ⟨0, by omega, rfl, hide (fun j hj => by omega), hide (Below.refl _ _)⟩
    case round =>
      obtain ⟨k, hk, rfl, HR, HB⟩ := hrel
      by_cases hkn : k < A.length
      · obtain ⟨b, o, rfl, hb, x0, x1⟩ := (HV.out.below HB.out).at hkn
        obtain ⟨b', o', rfl, hb', y0, y1⟩ := (HU.out.below HB.out).at (show k < B.length by have := HE.out; omega)
        have hk1 : (k : Int) < (A.length : Int) := by omega
        have E1 : Hid ((at' A k).1 ≠ (at' B k).1 → decide (A = B) = false) := hide (fun e => HN.out k (fun h => e (by rw [h])))
        have E2 : Hid ((at' A k).2 ≠ (at' B k).2 → decide (A = B) = false) := hide (fun e => HN.out k (fun h => e (by rw [h])))
        have E3 : Hid ((at' A k).1 = (at' B k).1 → (at' A k).2 = (at' B k).2 → ∀ j, j < k + 1 → at' A j = at' B j) := hide (fun e1 e2 j hj => by
          rcases Nat.lt_or_ge j k with h1 | h1
          · exact HR.out j h1
          · obtain rfl : j = k := by omega
            exact Prod.ext e1 e2)
        have HB2 : Hid (∀ n, Below W.heap.size W (wr.drewN n)) := hide (fun n => below_drewN HB.out n)
        generalize (at' A k).1 = z at *
        generalize (at' A k).2 = z' at *
        generalize (at' B k).1 = t at *
        generalize (at' B k).2 = t' at *
        clear HR HB
        by_cases d1 : z = t
        · subst d1
          by_cases d2 : z' = t'
          · subst d2
            have FE := hide (E3.out rfl rfl)
            clear E1 E2 E3
            have hd : decide (z = z) = true := by simp
            go_wp2
            go_quiet (fail)
            go_wp2
            go_roundw
            case rel => exact ⟨k + 1, by omega, by go_num, FE, hide (HB2.out _)⟩
            case measure => simp [intOf]; omega
          · have FE := hide (E2.out d2)
            clear E1 E2 E3
            have d3 : (z' == t') = false := by simp [d2]
            have d4 : (z' != t') = true := by simp [d2]
            go_wp2
            go_quiet (fail)
            go_wp2
            go_ret
            exact ⟨by rw [FE.out]; rfl, HB2.out _⟩
        · have FE := hide (E1.out d1)
          clear E1 E2 E3
          have d3 : (z == t) = false := by simp [d1]
          have d4 : (z != t) = true := by simp [d1]
          go_wp2
          go_quiet (fail)
          go_wp2
          go_ret
          exact ⟨by rw [FE.out]; rfl, HB2.out _⟩
      · obtain rfl : k = A.length := by omega
        have FE := hide (HY.out HR.out)
        go_wp2
        go_ret
        exact ⟨by rw [FE.out]; rfl, HB.out⟩
  · have FE := hide (same_len hne)
    have hne1 : ((A.length : Int) == (B.length : Int)) = false := by rw [beq_eq_false_iff_ne]; omega
    have hne2 : ((A.length : Int) != (B.length : Int)) = true := by rw [bne_iff_ne]; omega
    go_enter Tryd.func21, Tryd.ntmps21
    go_wp2
    go_ret
    exact ⟨by rw [FE.out]; rfl, Below.refl _ _⟩
end Go.Proofs.YtdbkdnjmiehlcaaDoor.Con
