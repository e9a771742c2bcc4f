/- Numbers of 32 words of 64 bits: plain mathematics. Of no program. -/
import Derived.RowKit
import Derived.WalkKit
import Derived.ProofKit
namespace Go.Proofs.Ytkfddjmhoekjgaa.Wd
open Go.RowKit
set_option linter.unusedVariables false
set_option linter.unusedSimpArgs false
/-- What the i-th word counts. -/
@[irreducible] def pw (i : Nat) : Nat := 2 ^ (64 * i)
theorem pw_0 : pw 0 = 1 := by unfold pw; rfl
theorem pw_s (i : Nat) : pw (i + 1) = pw i * 18446744073709551616 := by
  unfold pw; rw [show 64 * (i + 1) = 64 * i + 64 by omega, Nat.pow_add]
theorem pw_pos (i : Nat) : 0 < pw i := by unfold pw; exact Nat.pow_pos (by decide)
theorem pw_dvd {i j : Nat} (h : i ≤ j) : pw i ∣ pw j := by unfold pw; exact Nat.pow_dvd_pow 2 (by omega)
/-- The i-th word of n. -/
def dg (n i : Nat) : Nat := n / pw i % 18446744073709551616
theorem dg_lt (n i : Nat) : dg n i < 18446744073709551616 := Nat.mod_lt _ (by decide)
theorem lo_s (n i : Nat) : n % pw (i + 1) = n % pw i + pw i * dg n i := by
  rw [pw_s, Nat.mod_mul]; rfl
theorem lo_0 (n : Nat) : n % pw 0 = 0 := by rw [pw_0]; exact Nat.mod_one n
theorem split (n i : Nat) : n = pw i * (n / pw i) + n % pw i := (Nat.div_add_mod n (pw i)).symm
theorem dg_add_pw (n : Nat) {i k : Nat} (h : i < k) : dg (n + pw k) i = dg n i := by
  obtain ⟨c, hc⟩ := pw_dvd (show i + 1 ≤ k by omega)
  unfold dg
  rw [hc, pw_s, Nat.mul_assoc, Nat.add_mul_div_left _ _ (pw_pos i)]
  omega
theorem lo_add_pw (n : Nat) {i k : Nat} (h : i ≤ k) : (n + pw k) % pw i = n % pw i := by
  obtain ⟨c, hc⟩ := pw_dvd h
  rw [hc, Nat.add_mul_mod_self_left]
/-- Adding: what is carried into word i. -/
def car (a b i : Nat) : Nat := (a % pw i + b % pw i) / pw i
theorem car_0 (a b : Nat) : car a b 0 = 0 := by unfold car; rw [lo_0, lo_0, pw_0]
theorem car_le (a b i : Nat) : car a b i ≤ 1 := by
  have h1 := Nat.mod_lt a (pw_pos i)
  have h2 := Nat.mod_lt b (pw_pos i)
  unfold car
  exact Nat.le_of_lt_succ ((Nat.div_lt_iff_lt_mul (pw_pos i)).2 (by omega))
theorem div_parts {P q r : Nat} (hP : 0 < P) : (P * q + r) / P = q + r / P := Nat.mul_add_div hP q r
theorem add_dg (a b i : Nat) : dg (a + b) i = (dg a i + dg b i + car a b i) % 18446744073709551616 := by
  have e : a + b = pw i * (a / pw i + b / pw i) + (a % pw i + b % pw i) := by
    have h1 := split a i
    have h2 := split b i
    rw [Nat.mul_add]; omega
  unfold dg car
  rw [e, div_parts (pw_pos i)]
  omega
theorem add_car (a b i : Nat) : car a b (i + 1) = (dg a i + dg b i + car a b i) / 18446744073709551616 := by
  have e : a % pw (i + 1) + b % pw (i + 1) = pw i * (dg a i + dg b i) + (a % pw i + b % pw i) := by
    rw [lo_s, lo_s, Nat.mul_add]; omega
  unfold car
  rw [e, pw_s, ← Nat.div_div_eq_div_mul, div_parts (pw_pos i)]
/-- Multiplying: what is carried into word i. -/
def ab (a n i : Nat) : Nat := a % pw i * n / pw i
theorem ab_0 (a n : Nat) : ab a n 0 = 0 := by unfold ab; rw [lo_0, Nat.zero_mul]; exact Nat.zero_div _
theorem ab_lt (a n i : Nat) (hn : 0 < n) : ab a n i < n := by
  have h1 := Nat.mod_lt a (pw_pos i)
  unfold ab
  refine (Nat.div_lt_iff_lt_mul (pw_pos i)).2 ?_
  rw [Nat.mul_comm n]
  exact Nat.mul_lt_mul_of_pos_right h1 hn
theorem mul_dg (a n i : Nat) : dg (a * n) i = (dg a i * n + ab a n i) % 18446744073709551616 := by
  have e : a * n = pw i * (a / pw i * n) + a % pw i * n := by
    conv => lhs; rw [split a i]
    rw [Nat.add_mul, Nat.mul_assoc]
  unfold dg ab
  rw [e, div_parts (pw_pos i)]
  conv => rhs; rw [Nat.add_mod, Nat.mod_mul_mod]
  rw [Nat.add_mod]
theorem mul_ab (a n i : Nat) : ab a n (i + 1) = (dg a i * n + ab a n i) / 18446744073709551616 := by
  have e : a % pw (i + 1) * n = pw i * (dg a i * n) + a % pw i * n := by
    rw [lo_s, Nat.add_mul, Nat.mul_assoc]; omega
  unfold ab
  rw [e, pw_s, ← Nat.div_div_eq_div_mul, div_parts (pw_pos i)]
/-- Taking away: what is borrowed out of word i. -/
def bo (a b i : Nat) : Nat := if a % pw i < b % pw i then 1 else 0
theorem bo_0 (a b : Nat) : bo a b 0 = 0 := by unfold bo; rw [lo_0, lo_0]; rfl
theorem bo_le (a b i : Nat) : bo a b i ≤ 1 := by unfold bo; split <;> omega
theorem sub_dg (a b i : Nat) (h : b ≤ a) : dg (a - b) i = (dg a i + 18446744073709551616 - dg b i - bo a b i) % 18446744073709551616 := by
  have h1 := split a i
  have h2 := split b i
  have m1 := Nat.mod_lt a (pw_pos i)
  have m2 := Nat.mod_lt b (pw_pos i)
  have hq : b / pw i ≤ a / pw i := Nat.div_le_div_right h
  unfold dg bo
  generalize a / pw i = x at *
  generalize b / pw i = y at *
  by_cases hb : a % pw i < b % pw i
  · have hq1 : y + 1 ≤ x := by
      rcases Nat.lt_or_ge y x with g | g
      · exact g
      · have : x = y := by omega
        subst this; omega
    have e : a - b = pw i * (x - y - 1) + (pw i + a % pw i - b % pw i) := by
      have e1 : pw i * (x - y - 1) + pw i * (y + 1) = pw i * x := by rw [← Nat.mul_add]; congr 1; omega
      rw [Nat.mul_add, Nat.mul_one] at e1
      omega
    rw [if_pos hb, e, div_parts (pw_pos i), Nat.div_eq_of_lt (by omega)]
    omega
  · have e : a - b = pw i * (x - y) + (a % pw i - b % pw i) := by
      have e1 : pw i * (x - y) + pw i * y = pw i * x := by rw [← Nat.mul_add]; congr 1; omega
      omega
    rw [if_neg hb, e, div_parts (pw_pos i), Nat.div_eq_of_lt (by omega)]
    omega
theorem sub_bo (a b i : Nat) : bo a b (i + 1) = if dg a i < dg b i + bo a b i then 1 else 0 := by
  have m1 := Nat.mod_lt a (pw_pos i)
  have m2 := Nat.mod_lt b (pw_pos i)
  unfold bo
  rw [lo_s, lo_s]
  generalize dg a i = x
  generalize dg b i = y
  have key : (a % pw i + pw i * x < b % pw i + pw i * y) ↔ (x < y + if a % pw i < b % pw i then 1 else 0) := by
    rcases Nat.lt_trichotomy x y with g | g | g
    · have : pw i * (x + 1) ≤ pw i * y := Nat.mul_le_mul_left _ g
      rw [Nat.mul_add, Nat.mul_one] at this
      constructor
      · intro _; omega
      · intro _; omega
    · subst g
      split
      · constructor <;> intro _ <;> omega
      · constructor <;> intro _ <;> omega
    · have : pw i * (y + 1) ≤ pw i * x := Nat.mul_le_mul_left _ g
      rw [Nat.mul_add, Nat.mul_one] at this
      constructor
      · intro h; omega
      · intro h; exfalso; revert h; split <;> intro h <;> omega
  by_cases k : a % pw i + pw i * x < b % pw i + pw i * y
  · rw [if_pos k, if_pos (key.1 k)]
  · rw [if_neg k, if_neg (fun h => k (key.2 h))]
/-- The difference of numbers of 32 words, as far as it is borrowed. -/
def df (a b : Nat) : Nat := a + pw 32 - b
theorem df_dg {a b i : Nat} (hb : b < pw 32) (hi : i < 32) : dg (df a b) i = (dg a i + 18446744073709551616 - dg b i - bo a b i) % 18446744073709551616 := by
  have := sub_dg (a + pw 32) b i (by omega)
  unfold df
  rw [this, dg_add_pw a hi]
  congr 2
  unfold bo
  rw [lo_add_pw a (by omega)]
theorem df_bo {a b : Nat} (ha : a < pw 32) (hb : b < pw 32) : bo a b 32 = if a < b then 1 else 0 := by
  unfold bo; rw [Nat.mod_eq_of_lt ha, Nat.mod_eq_of_lt hb]
/-- The value of a number of 32 words. -/
def wv (n : Nat) : Array Value := ((List.range 32).map fun i => Value.int .u64 ((dg n i : Nat) : Int)).toArray
theorem wv_size (n : Nat) : (wv n).size = 32 := by unfold wv; simp
theorem wv_get (n i : Nat) (h : i < 32) : (wv n)[i]? = some (.int .u64 ((dg n i : Nat) : Int)) := by
  unfold wv; simp [h]
theorem wv_ext {cs : Array Value} {n : Nat} (h : cs.size = 32) (hc : ∀ j, j < 32 → cs[j]? = some (.int .u64 ((dg n j : Nat) : Int))) : cs = wv n := by
  apply Array.ext_getElem?
  intro j
  rcases Nat.lt_or_ge j 32 with g | g
  · rw [hc j g, wv_get n j g]
  · rw [Array.getElem?_eq_none (by omega), Array.getElem?_eq_none (by rw [wv_size]; omega)]
theorem wv_df {a b : Nat} (h : b ≤ a) : wv (df a b) = wv (a - b) := by
  refine wv_ext (wv_size _) fun j hj => ?_
  rw [wv_get _ j hj]
  unfold df
  rw [show a + pw 32 - b = a - b + pw 32 by omega, dg_add_pw _ hj]
theorem dg_zero (i : Nat) : dg 0 i = 0 := by unfold dg; simp
theorem zero_of {n : Nat} (hn : n < pw 32) (h : ∀ i, i < 32 → dg n i = 0) : n = 0 := by
  have : ∀ k, k ≤ 32 → n % pw k = 0 := by
    intro k
    induction k with
    | zero => intro _; exact lo_0 n
    | succ k ih => intro hk; rw [lo_s, ih (by omega), h k (by omega)]; rfl
  have := this 32 (Nat.le_refl _)
  rwa [Nat.mod_eq_of_lt hn] at this
theorem zero_iff {n : Nat} (hn : n < pw 32) : n = 0 ↔ ∀ i, i < 32 → dg n i = 0 := ⟨fun h i _ => by rw [h, dg_zero], zero_of hn⟩
theorem dg_one {i : Nat} : dg 1 i = if i = 0 then 1 else 0 := by
  unfold dg
  rcases i with _ | i
  · rw [pw_0]; rfl
  · have : (1 : Nat) < pw (i + 1) := by
      have := pw_pos i
      rw [pw_s]; omega
    rw [Nat.div_eq_of_lt this]; simp
end Go.Proofs.Ytkfddjmhoekjgaa.Wd
