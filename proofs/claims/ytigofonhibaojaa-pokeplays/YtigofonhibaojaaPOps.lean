/- See, Count, Read, Send, New. -/
import Derived.Test.YtigofonhibaojaaPCon
namespace Go.Proofs.Ytigofonhibaojaa.Con
open Go.RowKit Go.Proofs.Ytigofonhibaojaa.Mk
set_option linter.unusedVariables false
set_option linter.unusedSimpArgs false
section
variable {W : World} {b g n m : Nat} {s : Nat → Td}
theorem hasB_nat (n k : Nat) (h : k < n) : hasB n (k : Int) = true := by unfold hasB; simp; omega
theorem hasB_no (n : Nat) (x : Int) (h : x < 0 ∨ (n : Int) ≤ x) : hasB n x = false := by unfold hasB; simp; omega
theorem see_any (h : PK W b g n m s) (k : Nat) (hk : k < n) : Calls Try.prog 12 #[.pointer (some ⟨b, 0, none⟩), .int .i64 (k : Int)] W fun e w' => e = .returned (.int .i64 ((s k).w : Int)) ∧ w' = W := by
  have H := hide (has_any h (k : Int))
  rw [hasB_nat n k hk] at H
  have c0 := h.head
  obtain ⟨c1, c2, c3⟩ := h.cells k hk
  clear h
  go_enter Try.func12, Try.ntmps12
  go_wp2_with (go_at_call 17; refine H.out.mono ?_; rintro e w' ⟨rfl, hw⟩; have hw2 := hw.symm; clear hw; subst hw2)
  go_ret
  exact ⟨rfl, rfl⟩
theorem see_no (h : PK W b g n m s) (x : Int) (hx : x < 0 ∨ (n : Int) ≤ x) : Calls Try.prog 12 #[.pointer (some ⟨b, 0, none⟩), .int .i64 x] W fun e w' => e = .returned (.int .i64 0) ∧ w' = W := by
  have H := hide (has_any h x)
  rw [hasB_no n x hx] at H
  clear h
  go_enter Try.func12, Try.ntmps12
  go_wp2_with (go_at_call 17; refine H.out.mono ?_; rintro e w' ⟨rfl, hw⟩; have hw2 := hw.symm; clear hw; subst hw2)
  go_ret
  exact ⟨rfl, rfl⟩
theorem count_any (h : PK W b g n m s) (k : Nat) (hk : k < n) : Calls Try.prog 14 #[.pointer (some ⟨b, 0, none⟩), .int .i64 (k : Int)] W fun e w' => e = .returned (.int .i64 ((s k).r : Int)) ∧ w' = W := by
  have H := hide (has_any h (k : Int))
  rw [hasB_nat n k hk] at H
  have c0 := h.head
  obtain ⟨c1, c2, c3⟩ := h.cells k hk
  clear h
  go_enter Try.func14, Try.ntmps14
  go_wp2_with (go_at_call 17; refine H.out.mono ?_; rintro e w' ⟨rfl, hw⟩; have hw2 := hw.symm; clear hw; subst hw2)
  go_ret
  exact ⟨rfl, rfl⟩
theorem count_no (h : PK W b g n m s) (x : Int) (hx : x < 0 ∨ (n : Int) ≤ x) : Calls Try.prog 14 #[.pointer (some ⟨b, 0, none⟩), .int .i64 x] W fun e w' => e = .returned (.int .i64 0) ∧ w' = W := by
  have H := hide (has_any h x)
  rw [hasB_no n x hx] at H
  clear h
  go_enter Try.func14, Try.ntmps14
  go_wp2_with (go_at_call 17; refine H.out.mono ?_; rintro e w' ⟨rfl, hw⟩; have hw2 := hw.symm; clear hw; subst hw2)
  go_ret
  exact ⟨rfl, rfl⟩
end
end Go.Proofs.Ytigofonhibaojaa.Con
