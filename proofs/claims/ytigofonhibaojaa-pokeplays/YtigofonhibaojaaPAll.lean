/- Waits, All, New. -/
import Derived.Test.YtigofonhibaojaaPRead
namespace Go.Proofs.Ytigofonhibaojaa.Con
open Go.RowKit Go.Proofs.Ytigofonhibaojaa.Mk
set_option linter.unusedVariables false
set_option linter.unusedSimpArgs false
/-- Which of the first k were told something. -/
def waits (s : Nat → Td) : Nat → Nat
  | 0 => 0
  | k + 1 => if (s k).w = 0 then waits s k else withN (waits s k) (k : Int)
theorem waits_lt (s : Nat → Td) : ∀ k, waits s k < 18446744073709551616
  | 0 => by show (0 : Nat) < _; decide
  | k + 1 => by
    unfold waits
    split
    · exact waits_lt s k
    · exact withN_lt _ (waits_lt s k)
/-- All but one are told. -/
def allS (s : Nat → Td) (a x k : Nat) : Nat → Td := fun j => if j < k ∧ j ≠ a then tell (s j) a x else s j
/-- Which of the first k are rung then. -/
def rung (s : Nat → Td) (a : Nat) : Nat → Nat
  | 0 => 0
  | k + 1 => if k ≠ a ∧ (s k).w = 0 then withN (rung s a k) (k : Int) else rung s a k
theorem rung_lt (s : Nat → Td) (a : Nat) : ∀ k, rung s a k < 18446744073709551616
  | 0 => by show (0 : Nat) < _; decide
  | k + 1 => by
    unfold rung
    split
    · exact withN_lt _ (rung_lt s a k)
    · exact rung_lt s a k
theorem allS_zero (s : Nat → Td) (a x : Nat) : allS s a x 0 = s := by funext j; unfold allS; rw [if_neg (by omega)]
theorem allS_self (s : Nat → Td) (a x : Nat) : allS s a x (a + 1) = allS s a x a := by
  funext j; unfold allS
  by_cases h : j < a
  · rw [if_pos (by omega), if_pos (by omega)]
  · rw [if_neg (by omega), if_neg (by omega)]
theorem allS_step (s : Nat → Td) (a x k : Nat) (h : k ≠ a) : sendS (allS s a x k) a k x = allS s a x (k + 1) := by
  funext j; unfold sendS allS
  by_cases hj : j = k
  · subst hj
    rw [if_pos rfl, if_neg (by omega), if_pos (by omega)]
  · rw [if_neg hj]
    by_cases h1 : j < k ∧ j ≠ a
    · rw [if_pos h1, if_pos (by omega)]
    · rw [if_neg h1, if_neg (by omega)]
theorem allS_at (s : Nat → Td) (a x k : Nat) : (allS s a x k) k = s k := by unfold allS; rw [if_neg (by omega)]
/-- The last call of all: each was told once. -/
theorem PK.allWf {W : World} {b g n m m' x a : Nat} {s0 : Nat → Td} (h : PK W b g n m' (allS s0 a x n)) (h0 : ∀ j, j < n → (s0 j).w ≤ 15 ∧ (s0 j).f < 18446744073709551616 ∧ (s0 j).r ≤ m) (hx : x ≤ 15) : PK W b g n (m + 1) (allS s0 a x n) := by
  refine ⟨h.str, h.row, h.lo, h.hi, fun j hj => ?_⟩
  unfold allS
  split
  · exact tell_wf (h0 j hj) hx
  · have := h0 j hj
    exact ⟨this.1, this.2.1, by omega⟩
section
variable {W : World} {b g n m : Nat} {s : Nat → Td}
theorem waits_any (h : PK W b g n m s) : Calls Try.prog 13 #[.pointer (some ⟨b, 0, none⟩)] W fun e w' => e = .returned (.int .u64 (waits s n : Nat)) ∧ Hid (Below W.heap.size W w') := by
  have c0 := h.head
  have hlt := h.glt
  have hblt := h.blt
  have hn64 := h.hi
  have h0 := hide h
  clear h
  go_enter Try.func13, Try.ntmps13
  go_wp2
  go_loopw [3, 11] (fun u i wr => ∃ k : Nat, k ≤ n ∧ u = .int .u64 (waits s k : Nat) ∧ i = .int .i64 k ∧ Hid (Below W.heap.size W wr)) (fun _ i _ => n - (intOf i).toNat)
  case atStart => exact ⟨0, Nat.zero_le _, rfl, rfl, hide (Below.refl _ _)⟩
  case round =>
    obtain ⟨k, hk, rfl, rfl, HB⟩ := hrel
    by_cases hkn : k < n
    · have hk1 : (k : Int) < (n : Int) := by omega
      have P := h0.out.below HB.out
      obtain ⟨c1, c2, c3⟩ := P.cells k hkn
      have f1 := P.frozen (k * 3)
      have WT := hide (fun W' => with_any (waits s k) (k : Int) W' (waits_lt s k))
      have HB2 := hide (fun (o : Obj) => bel_alloc' HB.out o)
      by_cases hw : (s k).w = 0
      · have e := hide (show waits s (k + 1) = waits s k by simp [waits, hw])
        rw [hw] at c1
        have c1' : wr.cell? ⟨g, k * 3, none⟩ = some (.int .i64 0) := c1
        clear c1 P hw
        generalize (s k).f = f0 at *
        generalize (s k).r = r0 at *
        go_wp2
        go_roundw
        case rel => exact ⟨k + 1, by omega, by rw [e.out], by go_num, hide (HB2.out _)⟩
        case measure => simp [intOf]; omega
      · have e := hide (show waits s (k + 1) = withN (waits s k) (k : Int) by simp [waits, hw])
        have hq : (((s k).w : Int) == 0) = false := by simp; omega
        have hq' : (((s k).w : Int) != 0) = true := by simp; omega
        clear P hw
        generalize (s k).w = w0 at *
        generalize (s k).f = f0 at *
        generalize (s k).r = r0 at *
        go_wp2_with (go_at_call 19; refine (WT.out _).mono ?_; rintro e w' ⟨rfl, hw⟩; have hw2 := hw.symm; clear hw; subst hw2)
        go_roundw
        case rel => exact ⟨k + 1, by omega, by rw [e.out], by go_num, hide (HB2.out _)⟩
        case measure => simp [intOf]; omega
    · obtain rfl : k = n := by omega
      go_wp2
      go_ret
      exact ⟨rfl, HB⟩
theorem all_no (h : PK W b g n m s) (a x : Int) (hn : mayB n a x = false) : Calls Try.prog 9 #[.pointer (some ⟨b, 0, none⟩), .int .i64 a, .int .i64 x] W fun e w' => e = .returned (.tuple #[.int .u64 0, .int .i64 1]) ∧ w' = W := by
  have M := hide (may_any h a x)
  clear h
  rw [hn] at M
  clear hn
  go_enter Try.func9, Try.ntmps9
  go_wp2_with (go_at_call 18; refine M.out.mono ?_; rintro e w' ⟨rfl, hw⟩; have hw2 := hw.symm; clear hw; subst hw2)
  go_ret2
  exact ⟨rfl, rfl⟩
theorem all_any (h : PK W b g n m s) (a x : Nat) (ha : a < n) (h1 : 1 ≤ x) (h2 : x ≤ 15) (hm : m < 999900) :
    Calls Try.prog 9 #[.pointer (some ⟨b, 0, none⟩), .int .i64 (a : Int), .int .i64 (x : Int)] W fun e w' => e = .returned (.tuple #[.int .u64 (rung s a n : Nat), .int .i64 0]) ∧ Hid (Snd W b g n (m + 1) (allS s a x n) w') := by
  have M := hide (may_any h (a : Int) (x : Int))
  rw [mayB_nat n a x ha h1 h2] at M
  have c0 := h.head
  have hn64 := h.hi
  have S0 : Hid (Snd W b g n (m + 0) (allS s a x 0) W) := hide ⟨by rw [allS_zero]; exact h, Stp.refl _ _⟩
  have WF := hide h.wf
  clear h
  go_enter Try.func9, Try.ntmps9
  go_wp2_with (go_at_call 18; refine M.out.mono ?_; rintro e w' ⟨rfl, hw⟩; have hw2 := hw.symm; clear hw; subst hw2)
  go_loopw [8, 22] (fun u i wr => ∃ k : Nat, k ≤ n ∧ u = .int .u64 (rung s a k : Nat) ∧ i = .int .i64 k ∧ Hid (Snd W b g n (m + k) (allS s a x k) wr)) (fun _ i _ => n - (intOf i).toNat)
  case atStart => exact ⟨0, Nat.zero_le _, rfl, rfl, S0⟩
  case round =>
    obtain ⟨k, hk, rfl, rfl, HS⟩ := hrel
    by_cases hkn : k < n
    · have hk1 : (k : Int) < (n : Int) := by omega
      by_cases hka : k = a
      · subst hka
        have e1 := hide (show rung s k (k + 1) = rung s k k by simp [rung])
        have e2 : Hid (Snd W b g n (m + (k + 1)) (allS s k x (k + 1)) wr) := hide ⟨by rw [allS_self]; exact HS.out.1.mono (by omega), HS.out.2⟩
        clear HS
        go_wp2
        go_roundw
        case rel => exact ⟨k + 1, by omega, by rw [e1.out], by go_num, e2⟩
        case measure => simp [intOf]; omega
      · have hq : ((k : Int) == (a : Int)) = false := by simp; omega
        have SD := hide (send_any HS.out.1 a k x ha hkn h1 h2 (by omega))
        have WT := hide (fun W' => with_any (rung s a k) (k : Int) W' (rung_lt s a k))
        have e2 : Hid (∀ w2, Snd wr b g n (m + k + 1) (sendS (allS s a x k) a k x) w2 → Snd W b g n (m + (k + 1)) (allS s a x (k + 1)) w2) := hide (fun w2 h => ⟨by rw [← allS_step s a x k hka]; exact h.1, HS.out.2.trans h.2⟩)
        rw [allS_at] at SD
        clear HS
        by_cases hw : (s k).w = 0
        · have e1 := hide (show rung s a (k + 1) = withN (rung s a k) (k : Int) by simp [rung, hw, hka])
          rw [decide_eq_true hw] at SD
          clear hw
          go_wp2_with (first
            | (go_at_call 8; refine SD.out.mono ?_; rintro e w2 ⟨rfl, HW⟩)
            | (go_at_call 19; refine (WT.out _).mono ?_; rintro e w' ⟨rfl, hw⟩; have hw2 := hw.symm; clear hw; subst hw2))
          go_roundw
          case rel => exact ⟨k + 1, by omega, by rw [e1.out], by go_num, hide (e2.out _ HW.out)⟩
          case measure => simp [intOf]; omega
        · have e1 := hide (show rung s a (k + 1) = rung s a k by simp [rung, hw])
          rw [decide_eq_false hw] at SD
          clear hw
          go_wp2_with (go_at_call 8; refine SD.out.mono ?_; rintro e w2 ⟨rfl, HW⟩)
          go_roundw
          case rel => exact ⟨k + 1, by omega, by rw [e1.out], by go_num, hide (e2.out _ HW.out)⟩
          case measure => simp [intOf]; omega
    · obtain rfl : k = n := by omega
      go_wp2
      go_ret2
      exact ⟨rfl, hide ⟨HS.out.1.allWf WF.out h2, HS.out.2⟩⟩
end
end Go.Proofs.Ytigofonhibaojaa.Con
