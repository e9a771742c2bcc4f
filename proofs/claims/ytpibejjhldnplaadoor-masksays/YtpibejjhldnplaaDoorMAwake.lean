/- The law's awake: the example of the document. -/
import Derived.Test.YtpibejjhldnplaaDoorMStr2
namespace Go.Proofs.YtpibejjhldnplaaDoor.Con
open Go.RowKit Go.Proofs.YtpibejjhldnplaaDoor.Mk
set_option linter.unusedVariables false
theorem below_drewN {B : Nat} {a w : World} (h : Below B a w) (n : Nat) : Below B a (w.drewN n) := h.trans ⟨rfl, rfl, rfl, Nat.le_refl _, fun _ _ => rfl⟩
theorem of39 : ofN [0, 1, 2, 5] = 39 := by decide +kernel
theorem str39 : strN 39 = [48, 45, 50, 44, 53] := by decide +kernel
theorem len39 : lenN 39 = 4 := by decide +kernel
theorem ones39 : ones 39 = [0, 1, 2, 5] := by decide +kernel

theorem of_39 (w : World) : Calls Tryd.prog 9 #[.slice (some ⟨w.heap.size, 0, none⟩) 4 4] (w.alloc (.cells #[.int .i64 0, .int .i64 1, .int .i64 2, .int .i64 5] 3)) fun e w' => e = .returned (.int .u64 39) ∧ w' = w.alloc (.cells #[.int .i64 0, .int .i64 1, .int .i64 2, .int .i64 5] 3) := by
  have := of_some w.heap.size 0 4 [0, 1, 2, 5] (w.alloc (.cells #[.int .i64 0, .int .i64 1, .int .i64 2, .int .i64 5] 3)) (by
    intro j hj
    match j, hj with
    | 0, _ => simp
    | 1, _ => simp
    | 2, _ => simp
    | 3, _ => simp) (by simp)
  rw [of39] at this
  exact this
theorem list_39 (w : World) (hT : Tab w) : Calls Tryd.prog 22 #[.int .u64 39] w fun e w' => ∃ v, e = .returned v ∧ Ints w' v [0, 1, 2, 5] ∧ Below w.heap.size w w' := by
  refine (list_any 39 w (by decide) hT).mono ?_
  rintro e w' ⟨v, rfl, h, hb⟩
  refine ⟨v, rfl, ?_, hb⟩
  rw [len39, ones39] at h
  exact ints_of_row (l := [0, 1, 2, 5]) h
theorem string_39 (w : World) (hT : Tab w) : Calls Tryd.prog 18 #[.int .u64 39] w fun e w' => e = .returned (.string ⟨#[48, 45, 50, 44, 53]⟩) ∧ Below w.heap.size w w' := by
  have := string_any 39 w (by decide) hT
  rw [str39] at this
  exact this
theorem len_39 (w : World) : Calls Tryd.prog 23 #[.int .u64 39] w fun e w' => e = .returned (.int .i64 4) ∧ w' = w := by
  have := len_any 39 w (by decide)
  rw [len39] at this
  exact this
theorem ints_new (w : World) : Ints (w.alloc (.cells #[.int .i64 0, .int .i64 1, .int .i64 2, .int .i64 5] 3)) (.slice (some ⟨w.heap.size, 0, none⟩) 4 4) [0, 1, 2, 5] :=
  ⟨some ⟨w.heap.size, 0, none⟩, 4, rfl, by simp, by simp, .inr ⟨w.heap.size, 0, rfl, by
    intro j hj
    match j, hj with
    | 0, _ => simp
    | 1, _ => simp
    | 2, _ => simp
    | 3, _ => simp⟩⟩

set_option maxRecDepth 100000 in
set_option maxHeartbeats 1000000 in
theorem awake_any (w : World) (hT : Tab w) : Calls Tryd.prog 8 #[] w fun e w' => e = .returned (.bool true) ∧ Below w.heap.size w w' := by
  have b0 : Below w.heap.size w (w.alloc (.cells #[.int .i64 0, .int .i64 1, .int .i64 2, .int .i64 5] 3)) := (Below.refl _ w).alloc (Nat.le_refl _) _
  have T0 := hide (hT.on b0)
  have B0 := hide b0
  have C0 := hide (of_39 w)
  clear b0 hT
  go_enter Tryd.func8, Tryd.ntmps8
  go_wp2_with fail
  refine (unhide C0).mono ?_
  rintro e w0 ⟨rfl, hw0⟩
  rw [← hw0] at T0 B0
  clear hw0
  have C1 := hide (string_39 w0 (unhide T0))
  clear C0
  go_wp2_with fail
  refine (unhide C1).mono ?_
  rintro e w1 ⟨rfl, b1⟩
  have T1 := hide ((unhide T0).on b1)
  have B1 := hide ((unhide B0).trans (b1.mono (unhide B0).size))
  clear b1 C1
  have C2 := hide (len_39 w1)
  go_wp2_with fail
  refine (unhide C2).mono ?_
  rintro e w2 ⟨rfl, rfl⟩
  have C3 := hide (list_39 w2 (unhide T1))
  clear C2
  go_wp2_with fail
  refine (unhide C3).mono ?_
  rintro e w3 ⟨v, rfl, hI, b3⟩
  have B3 := hide ((unhide B1).trans (b3.mono (unhide B1).size))
  have b4 : Below w3.heap.size w3 (w3.alloc (.cells #[.int .i64 0, .int .i64 1, .int .i64 2, .int .i64 5] 3)) := (Below.refl _ w3).alloc (Nat.le_refl _) _
  have C4 := hide (ints_same v (.slice (some ⟨w3.heap.size, 0, none⟩) 4 4) [0, 1, 2, 5] _ (hI.below b4) (ints_new w3))
  have B4 := hide ((unhide B3).trans (b4.mono (unhide B3).size))
  clear hI b3 b4 C3
  go_wp2_with fail
  refine (unhide C4).mono ?_
  rintro e w5 ⟨rfl, n, rfl⟩
  clear C4
  go_wp2
  go_ret
  exact ⟨rfl, below_drewN (unhide B4) n⟩
end Go.Proofs.YtpibejjhldnplaaDoor.Con
