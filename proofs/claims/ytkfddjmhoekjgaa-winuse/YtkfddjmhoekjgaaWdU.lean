/- The sum of all Q over P, pair by pair: plain mathematics. Of no program. -/
import Derived.Test.YtkfddjmhoekjgaaWnPl
import Derived.Test.YtkfddjmhoekjgaaWdM
namespace Go.Proofs.Ytkfddjmhoekjgaa.Wd
open Go.RowKit Go.Proofs.Ytkfddjmhoekjgaa.Wn
set_option linter.unusedVariables false
set_option linter.unusedSimpArgs false
theorem frac_snoc (l : List Pr) (x : Pr) : frac (l ++ [x]) = ((frac l).1 * x.2 + x.1 * (frac l).2, (frac l).2 * x.2) := by
  induction l with
  | nil => simp [frac]
  | cons y l ih =>
    rw [List.cons_append, frac, ih, frac]
    refine Prod.ext ?_ ?_
    · simp only [Int.add_mul, Int.mul_add]
      rw [Int.mul_right_comm (frac l).1 x.2 y.2, Int.mul_right_comm x.1 (frac l).2 y.2, ← Int.mul_assoc y.1 (frac l).2 x.2, ← Int.mul_assoc x.1 (frac l).2 y.2]
      generalize (frac l).1 * y.2 * x.2 = a1
      generalize y.1 * (frac l).2 * x.2 = a3
      rw [Int.mul_right_comm x.1 (frac l).2 y.2]
      omega
    · simp only [Int.mul_right_comm]
@[irreducible] def bp (k : Nat) : Nat := 2147483648 ^ k
theorem bp_0 : bp 0 = 1 := by unfold bp; rfl
theorem bp_s (k : Nat) : bp (k + 1) = bp k * 2147483648 := by unfold bp; rw [Nat.pow_succ]
theorem bp_le {j k : Nat} (h : j ≤ k) : bp j ≤ bp k := by unfold bp; exact Nat.pow_le_pow_right (by decide) h
theorem pw32 : bp 64 * 2 ≤ pw 32 := by
  have e : ∀ n, bp n * 2 = 2 ^ (31 * n + 1) := fun n => by
    unfold bp
    rw [Nat.pow_add, Nat.pow_mul, Nat.pow_one]
  have g : ∀ n m, 31 * n + 1 ≤ 64 * m → bp n * 2 ≤ pw m := fun n m h => by
    rw [e]
    unfold pw
    exact Nat.pow_le_pow_right (by decide) h
  exact g 64 32 (by decide)
structure St (l : List Pr) (k : Nat) (t b w : Nat) : Prop where
  bot : (b : Int) = (frac l).2
  top : (t : Int) + (w : Int) * (b : Int) = (frac l).1
  lt : t < b
  bd : b ≤ bp k
  wh : w ≤ k
theorem St.zero : St [] 0 0 1 0 := ⟨rfl, rfl, by decide, by rw [bp_0]; decide, by decide⟩
theorem St.small {l : List Pr} {k t b w : Nat} (h : St l k t b w) (hk : k ≤ 64) : b * 2 ≤ pw 32 ∧ t < pw 32 ∧ b < pw 32 := by
  have h1 : bp k ≤ bp 64 := bp_le hk
  have h2 := h.bd
  have h3 := h.lt
  have h4 := pw32
  have h5 := pw_pos 32
  generalize bp k = K at *
  generalize bp 64 = M at *
  omega
/-- One pair more: what is reckoned on the way, and where it ends. -/
theorem St.next {l : List Pr} {k t b w q p : Nat} (h : St l k t b w) (hk : k < 64) (h1 : 1 ≤ q) (h2 : q ≤ p) (h3 : p ≤ 2147483648) :
    t * p < pw 32 ∧ b * q < pw 32 ∧ b * p < pw 32 ∧ t * p + b * q < pw 32 ∧
      (b * p ≤ t * p + b * q → St (l ++ [((q : Int), (p : Int))]) (k + 1) (t * p + b * q - b * p) (b * p) (w + 1)) ∧
      (t * p + b * q < b * p → St (l ++ [((q : Int), (p : Int))]) (k + 1) (t * p + b * q) (b * p) w) := by
  have a1 : t * p + p ≤ b * p := by
    have := Nat.mul_le_mul_right p (show t + 1 ≤ b from h.lt)
    rwa [Nat.add_mul, Nat.one_mul] at this
  have a2 : b * q ≤ b * p := Nat.mul_le_mul_left b h2
  have a3 : b * p ≤ bp (k + 1) := by
    rw [bp_s]; exact Nat.mul_le_mul h.bd h3
  have a4 : bp (k + 1) ≤ bp 64 := bp_le (by omega)
  have a5 := pw32
  have a6 := h.lt
  have a7 := pw_pos 32
  have c1 : ((b * p : Nat) : Int) = (frac (l ++ [((q : Int), (p : Int))])).2 := by rw [frac_snoc, Int.natCast_mul, h.bot]
  have c2 : ((t * p + b * q : Nat) : Int) + (w : Int) * ((b * p : Nat) : Int) = (frac (l ++ [((q : Int), (p : Int))])).1 := by
    rw [frac_snoc]
    simp only
    rw [← h.top, ← h.bot, Int.natCast_add, Int.natCast_mul, Int.natCast_mul, Int.natCast_mul, Int.add_mul, Int.mul_assoc, Int.mul_comm (q : Int)]
    omega
  have a8 : bp (k + 1) * 2 ≤ pw 32 := by omega
  have hw := h.wh
  generalize t * p = x at *
  generalize b * q = y at *
  generalize b * p = z at *
  refine ⟨by omega, by omega, by omega, by omega, fun g => ⟨c1, ?_, by omega, by omega, by omega⟩, fun g => ⟨c1, c2, g, by omega, by omega⟩⟩
  rw [← c2, show ((w + 1 : Nat) : Int) = (w : Int) + 1 by omega, Int.add_mul, Int.one_mul]
  omega
theorem St.done {L : List Pr} {t b w : Nat} (h : St L L.length t b w) (h1 : L.length ≤ 64) (hg : ∀ x ∈ L, gp x = true) :
    (t = 0 → useN L = (w : Int) ∧ useX L = true) ∧ (t ≠ 0 → useN L = ((w + 1 : Nat) : Int) ∧ useX L = false) := by
  obtain ⟨e1, e2⟩ := use_1 h1 hg
  have hl := h.lt
  have hb : (0 : Int) < (b : Int) := by omega
  rw [e1, e2, ← h.bot, ← h.top]
  refine ⟨fun ht => ⟨?_, ?_⟩, fun ht => ⟨?_, ?_⟩⟩
  · subst ht
    rw [show ((0 : Nat) : Int) + (w : Int) * (b : Int) + (b : Int) - 1 = ((b : Int) - 1) + (w : Int) * (b : Int) by omega, Int.add_mul_ediv_right _ _ (by omega), Int.ediv_eq_zero_of_lt (by omega) (by omega)]
    omega
  · subst ht
    refine decide_eq_true ?_
    rw [Int.add_mul_emod_self_right]; rfl
  · rw [show (t : Int) + (w : Int) * (b : Int) + (b : Int) - 1 = ((t : Int) - 1) + ((w : Int) + 1) * (b : Int) by rw [Int.add_mul, Int.one_mul]; omega, Int.add_mul_ediv_right _ _ (by omega), Int.ediv_eq_zero_of_lt (by omega) (by omega)]
    omega
  · refine decide_eq_false ?_
    rw [Int.add_mul_emod_self_right, Int.emod_eq_of_lt (by omega) (by omega)]
    omega
end Go.Proofs.Ytkfddjmhoekjgaa.Wd
