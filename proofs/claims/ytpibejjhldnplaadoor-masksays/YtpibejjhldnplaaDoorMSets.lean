/- Plain mathematics of sets in a word: without its least, the n-th, the end of a run, round. Of no program. -/
import Derived.Test.YtpibejjhldnplaaDoorMBits
import Derived.Lib.ItoaNum
namespace Go.Proofs.YtpibejjhldnplaaDoor.Mk
set_option linter.unusedVariables false

theorem onesFrom_congr {a b k : Nat} (h : ∀ j, k ≤ j → j < 64 → a.testBit j = b.testBit j) : onesFrom a k = onesFrom b k := by
  unfold onesFrom
  apply List.filter_congr
  intro j hj
  rw [List.mem_range'] at hj
  obtain ⟨i, hi, rfl⟩ := hj
  exact h _ (by omega) (by omega)
theorem onesFrom_skip {m k j : Nat} (hk : k ≤ j) (hj : j ≤ 64) (h : ∀ i, k ≤ i → i < j → m.testBit i = false) : onesFrom m k = onesFrom m j := by
  obtain ⟨d, rfl⟩ : ∃ d, j = k + d := ⟨j - k, by omega⟩
  induction d generalizing k with
  | zero => rfl
  | succ d ih =>
    rw [onesFrom_step m k (by omega), if_neg (by rw [h k (Nat.le_refl _) (by omega)]; decide), ih (k := k + 1) (by omega) (by omega) (fun i h1 h2 => h i (by omega) (by omega)), show k + 1 + d = k + (d + 1) by omega]
/-- Without its least. -/
def lowN (x : Nat) : Nat := x &&& (x - 1)
theorem lowN_lt {x : Nat} (h : x < 18446744073709551616) : lowN x < 18446744073709551616 := and_lt _ h
theorem lowN_bit (x : Nat) (h0 : x ≠ 0) (h : x < 18446744073709551616) (j : Nat) : (lowN x).testBit j = (x.testBit j && decide (j ≠ Lib.ctz 64 x)) := by
  obtain ⟨q, hq, hc⟩ := Lib.ctzFrom_spec 64 x (by omega) (by simpa using h)
  have e : Lib.ctz 64 x = Lib.ctzFrom 64 x := by unfold Lib.ctz; rw [if_neg h0]
  have hlt := (ctz_bits x h0 h).2.2 j
  rw [e] at hlt ⊢
  generalize Lib.ctzFrom 64 x = c at hq hc hlt
  have hp : 0 < 2 ^ c := Nat.pow_pos (by decide)
  have hx : x = 2 ^ (c + 1) * q + 2 ^ c := by rw [hq, Nat.pow_succ, Nat.mul_add, Nat.mul_one, Nat.mul_assoc]
  have hy : x - 1 = 2 ^ (c + 1) * q + (2 ^ c - 1) := by omega
  have hp2 : 2 ^ c < 2 ^ (c + 1) := by rw [Nat.pow_succ]; omega
  unfold lowN
  rw [Nat.testBit_and]
  by_cases h1 : j < c
  · rw [hlt h1]; rfl
  · rw [hy]
    rw [Nat.testBit_two_pow_mul_add q (by omega) j]
    by_cases h2 : j = c
    · subst h2
      rw [if_pos (by omega), Nat.testBit_two_pow_sub_one]
      simp
    · rw [if_neg (by omega)]
      have : x.testBit j = q.testBit (j - (c + 1)) := by rw [hx, Nat.testBit_two_pow_mul_add q hp2 j, if_neg (by omega)]
      rw [this, decide_eq_true h2]; simp
theorem ones_first (x : Nat) (h0 : x ≠ 0) (h : x < 18446744073709551616) : ones x = Lib.ctz 64 x :: onesFrom x (Lib.ctz 64 x + 1) := by
  obtain ⟨h1, h2, h3⟩ := ctz_bits x h0 h
  exact onesFrom_first (Nat.zero_le _) h1 h2 (fun i _ h4 => h3 i h4)
theorem ones_low (x : Nat) (h0 : x ≠ 0) (h : x < 18446744073709551616) : ones (lowN x) = (ones x).tail := by
  obtain ⟨h1, h2, h3⟩ := ctz_bits x h0 h
  rw [ones_first x h0 h, List.tail_cons]
  unfold ones
  rw [onesFrom_skip (j := Lib.ctz 64 x + 1) (Nat.zero_le _) (by omega)]
  · apply onesFrom_congr
    intro j h4 h5
    rw [lowN_bit x h0 h, decide_eq_true (by omega), Bool.and_true]
  · intro i _ h4
    rw [lowN_bit x h0 h]
    by_cases h5 : i = Lib.ctz 64 x
    · simp [h5]
    · rw [h3 i (by omega)]; rfl
theorem ones_zero : ones 0 = [] := by decide
theorem ones_ne {x : Nat} (h : x < 18446744073709551616) (hl : ones x ≠ []) : x ≠ 0 := by
  rintro rfl; exact hl ones_zero
theorem lenN_le (m : Nat) : lenN m ≤ 64 := by
  unfold lenN ones onesFrom
  have := List.length_filter_le m.testBit (List.range' 0 (64 - 0))
  rw [List.length_range'] at this
  exact this

/-- What Nth answers. -/
def nthN (m : Nat) (n : Int) : Nat × Bool := if 0 ≤ n ∧ n < lenN m then ((ones m).getD n.toNat 0, true) else (0, false)
/-- What Around answers. -/
def aroundN (m : Nat) (f : Int) : Nat × Bool := if (firstN m f).2 then ((firstN m f).1, true) else firstN m 0
/-- The first number past the run that i is in. -/
def endN (m i : Nat) : Nat := if (firstN (18446744073709551615 - m) i).2 then (firstN (18446744073709551615 - m) i).1 else 64
theorem head_drop (l : List Nat) (k : Nat) (h : k < l.length) : headOf (l.drop k) = (l.getD k 0, true) := by
  rw [List.drop_eq_getElem_cons h, headOf, List.getD_eq_getElem?_getD, List.getElem?_eq_getElem h]; rfl
theorem firstN_lt {m : Nat} (f : Int) (h : m < 18446744073709551616) : (firstN m f).1 < 64 := by
  rw [firstN_eq m f h]
  cases hl : onesFrom m f.toNat with
  | nil => decide
  | cons j l => exact (onesFrom_cons hl).2.1
theorem nth_first (m k x : Nat) (hx : x < 18446744073709551616) (h : ones x = (ones m).drop k) (hk : k < lenN m) : firstN x 0 = nthN m k := by
  rw [firstN_eq x 0 hx]
  show headOf (ones x) = _
  rw [h, head_drop _ _ hk, nthN, if_pos ⟨by omega, by omega⟩]; rfl
theorem drop_low {m k x : Nat} (hx : x < 18446744073709551616) (h : ones x = (ones m).drop k) (hk : k < lenN m) : x ≠ 0 ∧ ones (lowN x) = (ones m).drop (k + 1) := by
  have hne : ones x ≠ [] := by
    rw [h]; intro h'
    have := List.drop_eq_nil_iff.1 h'
    unfold lenN at hk; omega
  have h0 := ones_ne hx hne
  refine ⟨h0, ?_⟩
  rw [ones_low x h0 hx, h, List.tail_drop]
theorem compl_lt (m : Nat) : 18446744073709551615 - m < 18446744073709551616 := by omega
theorem endN_le (m i : Nat) : endN m i ≤ 64 := by
  unfold endN; split
  · have := firstN_lt (m := 18446744073709551615 - m) i (compl_lt m); omega
  · omega
/-- The run's text. -/
def runTx (a b : Nat) : List UInt8 := if a = b then Lib.decDigits a else Lib.decDigits a ++ [45] ++ Lib.decDigits b
theorem dec_len : ∀ a : Fin 64, (Lib.decDigits a.val).length ≤ 2 := by decide +kernel
theorem dec_le (a : Nat) (h : a < 64) : (Lib.decDigits a).length ≤ 2 := dec_len ⟨a, h⟩
end Go.Proofs.YtpibejjhldnplaaDoor.Mk
