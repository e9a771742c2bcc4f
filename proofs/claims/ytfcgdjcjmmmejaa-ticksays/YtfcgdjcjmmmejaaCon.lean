/- What each call of package tick, and each of the reference's, answers: the plain numbers, for every input. -/
import Derived.Test.YtfcgdjcjmmmejaaRows
import Derived.WalkKit
import Derived.ProofKit
import Derived.OpenShut
namespace Go.Proofs.Ytfcgdjcjmmmejaa
open Go.ChangeShapes Go.WideShapes Go.ChangeAt Go.RowKit
set_option linter.unusedVariables false
namespace Con

def good (t : Int) : Bool := decide (0 ≤ t ∧ t ≤ 4611686018427387904)
theorem hide {p : Prop} (h : p) : Hid p := h
theorem unhide {p : Prop} (h : Hid p) : p := h.out
theorem good_t {t : Int} (h : good t = true) : 0 ≤ t ∧ t ≤ 4611686018427387904 := by simpa [good] using h
theorem good_f {t : Int} (h : good t = false) : t < 0 ∨ 4611686018427387904 < t := by
  simp [good] at h; omega
def amount (t : Int) : Bool := decide (0 ≤ t ∧ t ≤ 2147483648)
theorem amount_t {t : Int} (h : amount t = true) : 0 ≤ t ∧ t ≤ 2147483648 := by simpa [amount] using h
theorem amount_f {t : Int} (h : amount t = false) : t < 0 ∨ 2147483648 < t := by
  simp [amount] at h; omega
def period (t : Int) : Bool := decide (1 ≤ t ∧ t ≤ 2147483648)
theorem period_t {t : Int} (h : period t = true) : 1 ≤ t ∧ t ≤ 2147483648 := by simpa [period] using h
theorem period_f {t : Int} (h : period t = false) : t < 1 ∨ 2147483648 < t := by
  simp [period] at h; omega

set_option maxHeartbeats 400000 in
theorem good_any (t : Int) (w : World) :
    Calls Try.prog 17 #[.int .i64 t] w fun e w' => e = .returned (.bool (good t)) ∧ w' = w := by
  by_cases h0 : 0 ≤ t
  · by_cases h1 : t ≤ 4611686018427387904
    · have hg := hide (show good t = true by simp [good, h0, h1])
      go_enter Try.func17, Try.ntmps17
      go_wp2
      go_ret
      exact ⟨by rw [unhide hg]; rfl, rfl⟩
    · have hg := hide (show good t = false by simp [good, h1])
      go_enter Try.func17, Try.ntmps17
      go_wp2
      go_ret
      exact ⟨by rw [unhide hg]; rfl, rfl⟩
  · have hg := hide (show good t = false by simp [good, h0])
    go_enter Try.func17, Try.ntmps17
    go_wp2
    go_ret
    exact ⟨by rw [unhide hg]; rfl, rfl⟩

set_option maxHeartbeats 400000 in
theorem rgood_any (t : Int) (w : World) :
    Calls Try.prog 25 #[.int .i64 t] w fun e w' => e = .returned (.bool (good t)) ∧ w' = w := by
  by_cases h0 : 0 ≤ t
  · by_cases h1 : t ≤ 4611686018427387904
    · have hg := hide (show good t = true by simp [good, h0, h1])
      go_enter Try.func25, Try.ntmps25
      go_wp2
      go_ret
      exact ⟨by rw [unhide hg]; rfl, rfl⟩
    · have hg := hide (show good t = false by simp [good, h1])
      go_enter Try.func25, Try.ntmps25
      go_wp2
      go_ret
      exact ⟨by rw [unhide hg]; rfl, rfl⟩
  · have hg := hide (show good t = false by simp [good, h0])
    go_enter Try.func25, Try.ntmps25
    go_wp2
    go_ret
    exact ⟨by rw [unhide hg]; rfl, rfl⟩

set_option maxHeartbeats 400000 in
theorem amount_any (t : Int) (w : World) :
    Calls Try.prog 26 #[.int .i64 t] w fun e w' => e = .returned (.bool (amount t)) ∧ w' = w := by
  by_cases h0 : 0 ≤ t
  · by_cases h1 : t ≤ 2147483648
    · have hg := hide (show amount t = true by simp [amount, h0, h1])
      go_enter Try.func26, Try.ntmps26
      go_wp2
      go_ret
      exact ⟨by rw [unhide hg]; rfl, rfl⟩
    · have hg := hide (show amount t = false by simp [amount, h1])
      go_enter Try.func26, Try.ntmps26
      go_wp2
      go_ret
      exact ⟨by rw [unhide hg]; rfl, rfl⟩
  · have hg := hide (show amount t = false by simp [amount, h0])
    go_enter Try.func26, Try.ntmps26
    go_wp2
    go_ret
    exact ⟨by rw [unhide hg]; rfl, rfl⟩

set_option maxHeartbeats 400000 in
theorem period_any (t : Int) (w : World) :
    Calls Try.prog 27 #[.int .i64 t] w fun e w' => e = .returned (.bool (period t)) ∧ w' = w := by
  by_cases h0 : 1 ≤ t
  · by_cases h1 : t ≤ 2147483648
    · have hg := hide (show period t = true by simp [period, h0, h1])
      go_enter Try.func27, Try.ntmps27
      go_wp2
      go_ret
      exact ⟨by rw [unhide hg]; rfl, rfl⟩
    · have hg := hide (show period t = false by simp [period, h1])
      go_enter Try.func27, Try.ntmps27
      go_wp2
      go_ret
      exact ⟨by rw [unhide hg]; rfl, rfl⟩
  · have hg := hide (show period t = false by simp [period, h0])
    go_enter Try.func27, Try.ntmps27
    go_wp2
    go_ret
    exact ⟨by rw [unhide hg]; rfl, rfl⟩

set_option maxHeartbeats 400000 in
theorem rperiod_any (t : Int) (w : World) :
    Calls Try.prog 30 #[.int .i64 t] w fun e w' => e = .returned (.bool (period t)) ∧ w' = w := by
  by_cases h0 : 1 ≤ t
  · by_cases h1 : t ≤ 2147483648
    · have hg := hide (show period t = true by simp [period, h0, h1])
      go_enter Try.func30, Try.ntmps30
      go_wp2
      go_ret
      exact ⟨by rw [unhide hg]; rfl, rfl⟩
    · have hg := hide (show period t = false by simp [period, h1])
      go_enter Try.func30, Try.ntmps30
      go_wp2
      go_ret
      exact ⟨by rw [unhide hg]; rfl, rfl⟩
  · have hg := hide (show period t = false by simp [period, h0])
    go_enter Try.func30, Try.ntmps30
    go_wp2
    go_ret
    exact ⟨by rw [unhide hg]; rfl, rfl⟩

def addB (a b : Int) : Bool := good a && good b && decide (b ≤ 4611686018427387904 - a)
def addV (a b : Int) : Int := if addB a b then a + b else 0
def subB (a b : Int) : Bool := good a && good b && decide (b ≤ a)
def subV (a b : Int) : Int := if subB a b then a - b else 0
def mulB (a b : Int) : Bool := good a && good b && decide (a * b ≤ 4611686018427387904)
def mulV (a b : Int) : Int := if mulB a b then a * b else 0
def shareB (x q p : Int) : Bool := amount x && period p && decide (0 ≤ q) && decide (q ≤ p)
def shareV (x q p : Int) : Int := if shareB x q p then x * q / p else 0
def cmpB (a b c d : Int) : Bool := amount a && period b && amount c && period d
def cmpOf (x y : Int) : Int := if x < y then -1 else if y < x then 1 else 0
def cmpV (a b c d : Int) : Int := if cmpB a b c d then cmpOf (a * d) (c * b) else 0
def winB (x p : Int) : Bool := good x && period p
def winV (x p : Int) : Int := if winB x p then x / p else 0
def nextOf (t d p : Int) : Int := if t < d then d else d + ((t - d) / p + 1) * p
def upB (t d p : Int) : Bool := good t && good d && period p && good (nextOf t d p)
def upV (t d p : Int) : Int := if upB t d p then nextOf t d p else 0

theorem mul_bd {a b A B : Int} (ha : 0 ≤ a) (hb : 0 ≤ b) (hA : a ≤ A) (hB : b ≤ B) : 0 ≤ a * b ∧ a * b ≤ A * B :=
  ⟨Int.mul_nonneg ha hb, Int.mul_le_mul hA hB hb (by omega)⟩
theorem mul_bd31 {a b : Int} (ha : 0 ≤ a) (hb : 0 ≤ b) (hA : a ≤ 2147483648) (hB : b ≤ 2147483648) : 0 ≤ a * b ∧ a * b ≤ 4611686018427387904 := by
  have := mul_bd ha hb hA hB; omega
theorem div_bd {x p : Int} (hx : 0 ≤ x) (hp : 1 ≤ p) : 0 ≤ x / p ∧ x / p ≤ x :=
  ⟨Int.ediv_nonneg hx (by omega), Int.ediv_le_self _ hx⟩
theorem quo_lt {a b : Int} (ha : 1 ≤ a) : (b ≤ 4611686018427387904 / a) ↔ a * b ≤ 4611686018427387904 := by
  rw [Int.le_ediv_iff_mul_le (by omega), Int.mul_comm]
theorem next_bd {t d p : Int} (hd : 0 ≤ d) (hdt : d ≤ t) (hp : 1 ≤ p) :
    0 ≤ (t - d) / p ∧ (t - d) / p ≤ t - d ∧ 0 ≤ ((t - d) / p + 1) * p ∧ ((t - d) / p + 1) * p ≤ t - d + p := by
  have h1 := div_bd (show 0 ≤ t - d by omega) hp
  have h2 : (t - d) / p * p ≤ t - d := Int.ediv_mul_le _ (by omega)
  have h3 : ((t - d) / p + 1) * p = (t - d) / p * p + p := by rw [Int.add_mul, Int.one_mul]
  have h4 : 0 ≤ (t - d) / p * p := Int.mul_nonneg h1.1 (by omega)
  omega
theorem ret2 {a b : Value} {c d : Value} (h : a = c) (h' : b = d) : Ending.returned (.tuple #[a, b]) = .returned (.tuple #[c, d]) := by rw [h, h']

set_option maxHeartbeats 800000 in
theorem add_any (a b : Int) (w : World) :
    Calls Try.prog 10 #[.int .i64 a, .int .i64 b] w fun e w' => e = .returned (.tuple #[.int .i64 (addV a b), .bool (addB a b)]) ∧ w' = w := by
  cases ha : good a
  · have HB := hide (show addB a b = false by simp [addB, ha])
    have HV := hide (show addV a b = 0 by simp [addV, addB, ha])
    go_enter Try.func10, Try.ntmps10
    go_wp2_with (first | (go_at_call 17; refine (good_any _ _).mono ?_; rintro e w' ⟨rfl, rfl⟩) | (go_at_call 25; refine (rgood_any _ _).mono ?_; rintro e w' ⟨rfl, rfl⟩) | (go_at_call 26; refine (amount_any _ _).mono ?_; rintro e w' ⟨rfl, rfl⟩) | (go_at_call 27; refine (period_any _ _).mono ?_; rintro e w' ⟨rfl, rfl⟩) | (go_at_call 30; refine (rperiod_any _ _).mono ?_; rintro e w' ⟨rfl, rfl⟩))
    go_ret2
    exact ⟨ret2 (by rw [unhide HV]; rfl) (by rw [unhide HB]; rfl), rfl⟩
  · cases hb : good b
    · have HB := hide (show addB a b = false by simp [addB, ha, hb])
      have HV := hide (show addV a b = 0 by simp [addV, addB, ha, hb])
      go_enter Try.func10, Try.ntmps10
      go_wp2_with (first | (go_at_call 17; refine (good_any _ _).mono ?_; rintro e w' ⟨rfl, rfl⟩) | (go_at_call 25; refine (rgood_any _ _).mono ?_; rintro e w' ⟨rfl, rfl⟩) | (go_at_call 26; refine (amount_any _ _).mono ?_; rintro e w' ⟨rfl, rfl⟩) | (go_at_call 27; refine (period_any _ _).mono ?_; rintro e w' ⟨rfl, rfl⟩) | (go_at_call 30; refine (rperiod_any _ _).mono ?_; rintro e w' ⟨rfl, rfl⟩))
      go_ret2
      exact ⟨ret2 (by rw [unhide HV]; rfl) (by rw [unhide HB]; rfl), rfl⟩
    · have gA := good_t ha
      have gB := good_t hb
      by_cases hs : b ≤ 4611686018427387904 - a
      · have HB := hide (show addB a b = true by simp [addB, ha, hb, hs])
        have HV := hide (show addV a b = a + b by simp [addV, addB, ha, hb, hs])
        go_enter Try.func10, Try.ntmps10
        go_wp2_with (first | (go_at_call 17; refine (good_any _ _).mono ?_; rintro e w' ⟨rfl, rfl⟩) | (go_at_call 25; refine (rgood_any _ _).mono ?_; rintro e w' ⟨rfl, rfl⟩) | (go_at_call 26; refine (amount_any _ _).mono ?_; rintro e w' ⟨rfl, rfl⟩) | (go_at_call 27; refine (period_any _ _).mono ?_; rintro e w' ⟨rfl, rfl⟩) | (go_at_call 30; refine (rperiod_any _ _).mono ?_; rintro e w' ⟨rfl, rfl⟩))
        go_ret2
        exact ⟨ret2 (by rw [unhide HV]; rfl) (by rw [unhide HB]; rfl), rfl⟩
      · have HB := hide (show addB a b = false by simp [addB, ha, hb, hs])
        have HV := hide (show addV a b = 0 by simp [addV, addB, ha, hb, hs])
        go_enter Try.func10, Try.ntmps10
        go_wp2_with (first | (go_at_call 17; refine (good_any _ _).mono ?_; rintro e w' ⟨rfl, rfl⟩) | (go_at_call 25; refine (rgood_any _ _).mono ?_; rintro e w' ⟨rfl, rfl⟩) | (go_at_call 26; refine (amount_any _ _).mono ?_; rintro e w' ⟨rfl, rfl⟩) | (go_at_call 27; refine (period_any _ _).mono ?_; rintro e w' ⟨rfl, rfl⟩) | (go_at_call 30; refine (rperiod_any _ _).mono ?_; rintro e w' ⟨rfl, rfl⟩))
        go_ret2
        exact ⟨ret2 (by rw [unhide HV]; rfl) (by rw [unhide HB]; rfl), rfl⟩

set_option maxHeartbeats 800000 in
theorem radd_any (a b : Int) (w : World) :
    Calls Try.prog 18 #[.int .i64 a, .int .i64 b] w fun e w' => e = .returned (.tuple #[.int .i64 (addV a b), .bool (addB a b)]) ∧ w' = w := by
  cases ha : good a
  · have HB := hide (show addB a b = false by simp [addB, ha])
    have HV := hide (show addV a b = 0 by simp [addV, addB, ha])
    go_enter Try.func18, Try.ntmps18
    go_wp2_with (first | (go_at_call 17; refine (good_any _ _).mono ?_; rintro e w' ⟨rfl, rfl⟩) | (go_at_call 25; refine (rgood_any _ _).mono ?_; rintro e w' ⟨rfl, rfl⟩) | (go_at_call 26; refine (amount_any _ _).mono ?_; rintro e w' ⟨rfl, rfl⟩) | (go_at_call 27; refine (period_any _ _).mono ?_; rintro e w' ⟨rfl, rfl⟩) | (go_at_call 30; refine (rperiod_any _ _).mono ?_; rintro e w' ⟨rfl, rfl⟩))
    go_ret2
    exact ⟨ret2 (by rw [unhide HV]; rfl) (by rw [unhide HB]; rfl), rfl⟩
  · cases hb : good b
    · have HB := hide (show addB a b = false by simp [addB, ha, hb])
      have HV := hide (show addV a b = 0 by simp [addV, addB, ha, hb])
      go_enter Try.func18, Try.ntmps18
      go_wp2_with (first | (go_at_call 17; refine (good_any _ _).mono ?_; rintro e w' ⟨rfl, rfl⟩) | (go_at_call 25; refine (rgood_any _ _).mono ?_; rintro e w' ⟨rfl, rfl⟩) | (go_at_call 26; refine (amount_any _ _).mono ?_; rintro e w' ⟨rfl, rfl⟩) | (go_at_call 27; refine (period_any _ _).mono ?_; rintro e w' ⟨rfl, rfl⟩) | (go_at_call 30; refine (rperiod_any _ _).mono ?_; rintro e w' ⟨rfl, rfl⟩))
      go_ret2
      exact ⟨ret2 (by rw [unhide HV]; rfl) (by rw [unhide HB]; rfl), rfl⟩
    · have gA := good_t ha
      have gB := good_t hb
      by_cases hs : b ≤ 4611686018427387904 - a
      · have HB := hide (show addB a b = true by simp [addB, ha, hb, hs])
        have HV := hide (show addV a b = a + b by simp [addV, addB, ha, hb, hs])
        have hs2 : a ≤ 4611686018427387904 - b := by omega
        go_enter Try.func18, Try.ntmps18
        go_wp2_with (first | (go_at_call 17; refine (good_any _ _).mono ?_; rintro e w' ⟨rfl, rfl⟩) | (go_at_call 25; refine (rgood_any _ _).mono ?_; rintro e w' ⟨rfl, rfl⟩) | (go_at_call 26; refine (amount_any _ _).mono ?_; rintro e w' ⟨rfl, rfl⟩) | (go_at_call 27; refine (period_any _ _).mono ?_; rintro e w' ⟨rfl, rfl⟩) | (go_at_call 30; refine (rperiod_any _ _).mono ?_; rintro e w' ⟨rfl, rfl⟩))
        go_ret2
        exact ⟨ret2 (by rw [unhide HV]; rfl) (by rw [unhide HB]; rfl), rfl⟩
      · have HB := hide (show addB a b = false by simp [addB, ha, hb, hs])
        have HV := hide (show addV a b = 0 by simp [addV, addB, ha, hb, hs])
        have hs2 : ¬ a ≤ 4611686018427387904 - b := by omega
        go_enter Try.func18, Try.ntmps18
        go_wp2_with (first | (go_at_call 17; refine (good_any _ _).mono ?_; rintro e w' ⟨rfl, rfl⟩) | (go_at_call 25; refine (rgood_any _ _).mono ?_; rintro e w' ⟨rfl, rfl⟩) | (go_at_call 26; refine (amount_any _ _).mono ?_; rintro e w' ⟨rfl, rfl⟩) | (go_at_call 27; refine (period_any _ _).mono ?_; rintro e w' ⟨rfl, rfl⟩) | (go_at_call 30; refine (rperiod_any _ _).mono ?_; rintro e w' ⟨rfl, rfl⟩))
        go_ret2
        exact ⟨ret2 (by rw [unhide HV]; rfl) (by rw [unhide HB]; rfl), rfl⟩

set_option maxHeartbeats 400000 in
theorem rgd_any (t : Int) (w : World) :
    Calls Try.prog 29 #[.int .i64 t] w fun e w' => e = .returned (.tuple #[.int .i64 (if good t then t else 0), .bool (good t)]) ∧ w' = w := by
  cases hg : good t
  · go_enter Try.func29, Try.ntmps29
    go_wp2_with (first | (go_at_call 17; refine (good_any _ _).mono ?_; rintro e w' ⟨rfl, rfl⟩) | (go_at_call 25; refine (rgood_any _ _).mono ?_; rintro e w' ⟨rfl, rfl⟩) | (go_at_call 26; refine (amount_any _ _).mono ?_; rintro e w' ⟨rfl, rfl⟩) | (go_at_call 27; refine (period_any _ _).mono ?_; rintro e w' ⟨rfl, rfl⟩) | (go_at_call 30; refine (rperiod_any _ _).mono ?_; rintro e w' ⟨rfl, rfl⟩))
    go_ret2
    exact ⟨ret2 rfl rfl, rfl⟩
  · go_enter Try.func29, Try.ntmps29
    go_wp2_with (first | (go_at_call 17; refine (good_any _ _).mono ?_; rintro e w' ⟨rfl, rfl⟩) | (go_at_call 25; refine (rgood_any _ _).mono ?_; rintro e w' ⟨rfl, rfl⟩) | (go_at_call 26; refine (amount_any _ _).mono ?_; rintro e w' ⟨rfl, rfl⟩) | (go_at_call 27; refine (period_any _ _).mono ?_; rintro e w' ⟨rfl, rfl⟩) | (go_at_call 30; refine (rperiod_any _ _).mono ?_; rintro e w' ⟨rfl, rfl⟩))
    go_ret2
    exact ⟨ret2 rfl rfl, rfl⟩

set_option maxHeartbeats 400000 in
theorem compare_any (x y : Int) (w : World) :
    Calls Try.prog 28 #[.int .i64 x, .int .i64 y] w fun e w' => e = .returned (.int .i64 (cmpOf x y)) ∧ w' = w := by
  have hx : (x != x) = false := by simp
  have hy : (y != y) = false := by simp
  by_cases h1 : x < y
  · have HV := hide (show cmpOf x y = -1 by simp [cmpOf, h1])
    go_enter Try.func28, Try.ntmps28
    go_wp2
    go_ret
    exact ⟨by rw [unhide HV]; rfl, rfl⟩
  · by_cases h2 : y < x
    · have HV := hide (show cmpOf x y = 1 by simp [cmpOf, h1, h2])
      go_enter Try.func28, Try.ntmps28
      go_wp2
      go_ret
      exact ⟨by rw [unhide HV]; rfl, rfl⟩
    · have HV := hide (show cmpOf x y = 0 by simp [cmpOf, h1, h2])
      go_enter Try.func28, Try.ntmps28
      go_wp2
      go_ret
      exact ⟨by rw [unhide HV]; rfl, rfl⟩

set_option maxHeartbeats 800000 in
theorem sub_any (a b : Int) (w : World) :
    Calls Try.prog 11 #[.int .i64 a, .int .i64 b] w fun e w' => e = .returned (.tuple #[.int .i64 (subV a b), .bool (subB a b)]) ∧ w' = w := by
  cases ha : good a
  · have HB := hide (show subB a b = false by simp [subB, ha])
    have HV := hide (show subV a b = 0 by simp [subV, subB, ha])
    go_enter Try.func11, Try.ntmps11
    go_wp2_with (first | (go_at_call 17; refine (good_any _ _).mono ?_; rintro e w' ⟨rfl, rfl⟩) | (go_at_call 25; refine (rgood_any _ _).mono ?_; rintro e w' ⟨rfl, rfl⟩) | (go_at_call 26; refine (amount_any _ _).mono ?_; rintro e w' ⟨rfl, rfl⟩) | (go_at_call 27; refine (period_any _ _).mono ?_; rintro e w' ⟨rfl, rfl⟩) | (go_at_call 30; refine (rperiod_any _ _).mono ?_; rintro e w' ⟨rfl, rfl⟩) | (go_at_call 29; refine (rgd_any _ _).mono ?_; rintro e w' ⟨rfl, rfl⟩) | (go_at_call 28; refine (compare_any _ _ _).mono ?_; rintro e w' ⟨rfl, rfl⟩))
    go_ret2
    exact ⟨ret2 (by rw [unhide HV]; rfl) (by rw [unhide HB]; rfl), rfl⟩
  · cases hb : good b
    · have HB := hide (show subB a b = false by simp [subB, ha, hb])
      have HV := hide (show subV a b = 0 by simp [subV, subB, ha, hb])
      go_enter Try.func11, Try.ntmps11
      go_wp2_with (first | (go_at_call 17; refine (good_any _ _).mono ?_; rintro e w' ⟨rfl, rfl⟩) | (go_at_call 25; refine (rgood_any _ _).mono ?_; rintro e w' ⟨rfl, rfl⟩) | (go_at_call 26; refine (amount_any _ _).mono ?_; rintro e w' ⟨rfl, rfl⟩) | (go_at_call 27; refine (period_any _ _).mono ?_; rintro e w' ⟨rfl, rfl⟩) | (go_at_call 30; refine (rperiod_any _ _).mono ?_; rintro e w' ⟨rfl, rfl⟩) | (go_at_call 29; refine (rgd_any _ _).mono ?_; rintro e w' ⟨rfl, rfl⟩) | (go_at_call 28; refine (compare_any _ _ _).mono ?_; rintro e w' ⟨rfl, rfl⟩))
      go_ret2
      exact ⟨ret2 (by rw [unhide HV]; rfl) (by rw [unhide HB]; rfl), rfl⟩
    · have gA := good_t ha
      have gB := good_t hb
      by_cases hs : b ≤ a
      · have HB := hide (show subB a b = true by simp [subB, ha, hb, hs])
        have HV := hide (show subV a b = a - b by simp [subV, subB, ha, hb, hs])
        go_enter Try.func11, Try.ntmps11
        go_wp2_with (first | (go_at_call 17; refine (good_any _ _).mono ?_; rintro e w' ⟨rfl, rfl⟩) | (go_at_call 25; refine (rgood_any _ _).mono ?_; rintro e w' ⟨rfl, rfl⟩) | (go_at_call 26; refine (amount_any _ _).mono ?_; rintro e w' ⟨rfl, rfl⟩) | (go_at_call 27; refine (period_any _ _).mono ?_; rintro e w' ⟨rfl, rfl⟩) | (go_at_call 30; refine (rperiod_any _ _).mono ?_; rintro e w' ⟨rfl, rfl⟩) | (go_at_call 29; refine (rgd_any _ _).mono ?_; rintro e w' ⟨rfl, rfl⟩) | (go_at_call 28; refine (compare_any _ _ _).mono ?_; rintro e w' ⟨rfl, rfl⟩))
        go_ret2
        exact ⟨ret2 (by rw [unhide HV]; rfl) (by rw [unhide HB]; rfl), rfl⟩
      · have HB := hide (show subB a b = false by simp [subB, ha, hb, hs])
        have HV := hide (show subV a b = 0 by simp [subV, subB, ha, hb, hs])
        go_enter Try.func11, Try.ntmps11
        go_wp2_with (first | (go_at_call 17; refine (good_any _ _).mono ?_; rintro e w' ⟨rfl, rfl⟩) | (go_at_call 25; refine (rgood_any _ _).mono ?_; rintro e w' ⟨rfl, rfl⟩) | (go_at_call 26; refine (amount_any _ _).mono ?_; rintro e w' ⟨rfl, rfl⟩) | (go_at_call 27; refine (period_any _ _).mono ?_; rintro e w' ⟨rfl, rfl⟩) | (go_at_call 30; refine (rperiod_any _ _).mono ?_; rintro e w' ⟨rfl, rfl⟩) | (go_at_call 29; refine (rgd_any _ _).mono ?_; rintro e w' ⟨rfl, rfl⟩) | (go_at_call 28; refine (compare_any _ _ _).mono ?_; rintro e w' ⟨rfl, rfl⟩))
        go_ret2
        exact ⟨ret2 (by rw [unhide HV]; rfl) (by rw [unhide HB]; rfl), rfl⟩

set_option maxHeartbeats 800000 in
theorem rsub_any (a b : Int) (w : World) :
    Calls Try.prog 19 #[.int .i64 a, .int .i64 b] w fun e w' => e = .returned (.tuple #[.int .i64 (subV a b), .bool (subB a b)]) ∧ w' = w := by
  cases ha : good a
  · have HB := hide (show subB a b = false by simp [subB, ha])
    have HV := hide (show subV a b = 0 by simp [subV, subB, ha])
    go_enter Try.func19, Try.ntmps19
    go_wp2_with (first | (go_at_call 17; refine (good_any _ _).mono ?_; rintro e w' ⟨rfl, rfl⟩) | (go_at_call 25; refine (rgood_any _ _).mono ?_; rintro e w' ⟨rfl, rfl⟩) | (go_at_call 26; refine (amount_any _ _).mono ?_; rintro e w' ⟨rfl, rfl⟩) | (go_at_call 27; refine (period_any _ _).mono ?_; rintro e w' ⟨rfl, rfl⟩) | (go_at_call 30; refine (rperiod_any _ _).mono ?_; rintro e w' ⟨rfl, rfl⟩) | (go_at_call 29; refine (rgd_any _ _).mono ?_; rintro e w' ⟨rfl, rfl⟩) | (go_at_call 28; refine (compare_any _ _ _).mono ?_; rintro e w' ⟨rfl, rfl⟩))
    go_ret2
    exact ⟨ret2 (by rw [unhide HV]; rfl) (by rw [unhide HB]; rfl), rfl⟩
  · cases hb : good b
    · have HB := hide (show subB a b = false by simp [subB, ha, hb])
      have HV := hide (show subV a b = 0 by simp [subV, subB, ha, hb])
      go_enter Try.func19, Try.ntmps19
      go_wp2_with (first | (go_at_call 17; refine (good_any _ _).mono ?_; rintro e w' ⟨rfl, rfl⟩) | (go_at_call 25; refine (rgood_any _ _).mono ?_; rintro e w' ⟨rfl, rfl⟩) | (go_at_call 26; refine (amount_any _ _).mono ?_; rintro e w' ⟨rfl, rfl⟩) | (go_at_call 27; refine (period_any _ _).mono ?_; rintro e w' ⟨rfl, rfl⟩) | (go_at_call 30; refine (rperiod_any _ _).mono ?_; rintro e w' ⟨rfl, rfl⟩) | (go_at_call 29; refine (rgd_any _ _).mono ?_; rintro e w' ⟨rfl, rfl⟩) | (go_at_call 28; refine (compare_any _ _ _).mono ?_; rintro e w' ⟨rfl, rfl⟩))
      go_ret2
      exact ⟨ret2 (by rw [unhide HV]; rfl) (by rw [unhide HB]; rfl), rfl⟩
    · have gA := good_t ha
      have gB := good_t hb
      by_cases hs : b ≤ a
      · have HB := hide (show subB a b = true by simp [subB, ha, hb, hs])
        have HV := hide (show subV a b = a - b by simp [subV, subB, ha, hb, hs])
        have hs2 : good (a - b) = true := by simp [good]; omega
        go_enter Try.func19, Try.ntmps19
        go_wp2_with (first | (go_at_call 17; refine (good_any _ _).mono ?_; rintro e w' ⟨rfl, rfl⟩) | (go_at_call 25; refine (rgood_any _ _).mono ?_; rintro e w' ⟨rfl, rfl⟩) | (go_at_call 26; refine (amount_any _ _).mono ?_; rintro e w' ⟨rfl, rfl⟩) | (go_at_call 27; refine (period_any _ _).mono ?_; rintro e w' ⟨rfl, rfl⟩) | (go_at_call 30; refine (rperiod_any _ _).mono ?_; rintro e w' ⟨rfl, rfl⟩) | (go_at_call 29; refine (rgd_any _ _).mono ?_; rintro e w' ⟨rfl, rfl⟩) | (go_at_call 28; refine (compare_any _ _ _).mono ?_; rintro e w' ⟨rfl, rfl⟩))
        go_ret2
        exact ⟨ret2 (by rw [unhide HV]; rfl) (by rw [unhide HB]; rfl), rfl⟩
      · have HB := hide (show subB a b = false by simp [subB, ha, hb, hs])
        have HV := hide (show subV a b = 0 by simp [subV, subB, ha, hb, hs])
        have hs2 : good (a - b) = false := by simp [good]; omega
        go_enter Try.func19, Try.ntmps19
        go_wp2_with (first | (go_at_call 17; refine (good_any _ _).mono ?_; rintro e w' ⟨rfl, rfl⟩) | (go_at_call 25; refine (rgood_any _ _).mono ?_; rintro e w' ⟨rfl, rfl⟩) | (go_at_call 26; refine (amount_any _ _).mono ?_; rintro e w' ⟨rfl, rfl⟩) | (go_at_call 27; refine (period_any _ _).mono ?_; rintro e w' ⟨rfl, rfl⟩) | (go_at_call 30; refine (rperiod_any _ _).mono ?_; rintro e w' ⟨rfl, rfl⟩) | (go_at_call 29; refine (rgd_any _ _).mono ?_; rintro e w' ⟨rfl, rfl⟩) | (go_at_call 28; refine (compare_any _ _ _).mono ?_; rintro e w' ⟨rfl, rfl⟩))
        go_ret2
        exact ⟨ret2 (by rw [unhide HV]; rfl) (by rw [unhide HB]; rfl), rfl⟩

theorem quo_lt2 {a b : Int} (hb : 1 ≤ b) : (a ≤ 4611686018427387904 / b) ↔ a * b ≤ 4611686018427387904 := by
  rw [Int.le_ediv_iff_mul_le (by omega)]

set_option maxHeartbeats 800000 in
theorem mul_any (a b : Int) (w : World) :
    Calls Try.prog 12 #[.int .i64 a, .int .i64 b] w fun e w' => e = .returned (.tuple #[.int .i64 (mulV a b), .bool (mulB a b)]) ∧ w' = w := by
  cases ha : good a
  · have HB := hide (show mulB a b = false by simp [mulB, ha])
    have HV := hide (show mulV a b = 0 by simp [mulV, mulB, ha])
    go_enter Try.func12, Try.ntmps12
    go_wp2_with (first | (go_at_call 17; refine (good_any _ _).mono ?_; rintro e w' ⟨rfl, rfl⟩) | (go_at_call 25; refine (rgood_any _ _).mono ?_; rintro e w' ⟨rfl, rfl⟩) | (go_at_call 26; refine (amount_any _ _).mono ?_; rintro e w' ⟨rfl, rfl⟩) | (go_at_call 27; refine (period_any _ _).mono ?_; rintro e w' ⟨rfl, rfl⟩) | (go_at_call 30; refine (rperiod_any _ _).mono ?_; rintro e w' ⟨rfl, rfl⟩) | (go_at_call 29; refine (rgd_any _ _).mono ?_; rintro e w' ⟨rfl, rfl⟩) | (go_at_call 28; refine (compare_any _ _ _).mono ?_; rintro e w' ⟨rfl, rfl⟩))
    go_ret2
    exact ⟨ret2 (by rw [unhide HV]; rfl) (by rw [unhide HB]; rfl), rfl⟩
  · cases hb : good b
    · have HB := hide (show mulB a b = false by simp [mulB, ha, hb])
      have HV := hide (show mulV a b = 0 by simp [mulV, mulB, ha, hb])
      go_enter Try.func12, Try.ntmps12
      go_wp2_with (first | (go_at_call 17; refine (good_any _ _).mono ?_; rintro e w' ⟨rfl, rfl⟩) | (go_at_call 25; refine (rgood_any _ _).mono ?_; rintro e w' ⟨rfl, rfl⟩) | (go_at_call 26; refine (amount_any _ _).mono ?_; rintro e w' ⟨rfl, rfl⟩) | (go_at_call 27; refine (period_any _ _).mono ?_; rintro e w' ⟨rfl, rfl⟩) | (go_at_call 30; refine (rperiod_any _ _).mono ?_; rintro e w' ⟨rfl, rfl⟩) | (go_at_call 29; refine (rgd_any _ _).mono ?_; rintro e w' ⟨rfl, rfl⟩) | (go_at_call 28; refine (compare_any _ _ _).mono ?_; rintro e w' ⟨rfl, rfl⟩))
      go_ret2
      exact ⟨ret2 (by rw [unhide HV]; rfl) (by rw [unhide HB]; rfl), rfl⟩
    · have gA := good_t ha
      have gB := good_t hb
      have g0 := Int.mul_nonneg gA.1 gB.1
      by_cases hz : a = 0
      · subst hz
        have HB := hide (show mulB 0 b = true by simp [mulB, ha, hb])
        have HV := hide (show mulV 0 b = 0 by simp [mulV])
        go_enter Try.func12, Try.ntmps12
        go_wp2_with (first | (go_at_call 17; refine (good_any _ _).mono ?_; rintro e w' ⟨rfl, rfl⟩) | (go_at_call 25; refine (rgood_any _ _).mono ?_; rintro e w' ⟨rfl, rfl⟩) | (go_at_call 26; refine (amount_any _ _).mono ?_; rintro e w' ⟨rfl, rfl⟩) | (go_at_call 27; refine (period_any _ _).mono ?_; rintro e w' ⟨rfl, rfl⟩) | (go_at_call 30; refine (rperiod_any _ _).mono ?_; rintro e w' ⟨rfl, rfl⟩) | (go_at_call 29; refine (rgd_any _ _).mono ?_; rintro e w' ⟨rfl, rfl⟩) | (go_at_call 28; refine (compare_any _ _ _).mono ?_; rintro e w' ⟨rfl, rfl⟩))
        go_ret2
        exact ⟨ret2 (by rw [unhide HV]; rfl) (by rw [unhide HB]; rfl), rfl⟩
      · have h1 : 1 ≤ a := by omega
        have hne : (a != 0) = true := by simp [hz]
        have hdb := div_bd (show (0 : Int) ≤ 4611686018427387904 by omega) h1
        by_cases hs : a * b ≤ 4611686018427387904
        · have hq : b ≤ 4611686018427387904 / a := (quo_lt h1).2 hs
          have HB := hide (show mulB a b = true by simp [mulB, ha, hb, hs])
          have HV := hide (show mulV a b = a * b by simp [mulV, mulB, ha, hb, hs])
          go_enter Try.func12, Try.ntmps12
          go_wp2_with (first | (go_at_call 17; refine (good_any _ _).mono ?_; rintro e w' ⟨rfl, rfl⟩) | (go_at_call 25; refine (rgood_any _ _).mono ?_; rintro e w' ⟨rfl, rfl⟩) | (go_at_call 26; refine (amount_any _ _).mono ?_; rintro e w' ⟨rfl, rfl⟩) | (go_at_call 27; refine (period_any _ _).mono ?_; rintro e w' ⟨rfl, rfl⟩) | (go_at_call 30; refine (rperiod_any _ _).mono ?_; rintro e w' ⟨rfl, rfl⟩) | (go_at_call 29; refine (rgd_any _ _).mono ?_; rintro e w' ⟨rfl, rfl⟩) | (go_at_call 28; refine (compare_any _ _ _).mono ?_; rintro e w' ⟨rfl, rfl⟩))
          go_ret2
          exact ⟨ret2 (by rw [unhide HV]; rfl) (by rw [unhide HB]; rfl), rfl⟩
        · have hq : ¬ b ≤ 4611686018427387904 / a := fun h => hs ((quo_lt h1).1 h)
          have HB := hide (show mulB a b = false by simp [mulB, ha, hb, hs])
          have HV := hide (show mulV a b = 0 by simp [mulV, mulB, ha, hb, hs])
          go_enter Try.func12, Try.ntmps12
          go_wp2_with (first | (go_at_call 17; refine (good_any _ _).mono ?_; rintro e w' ⟨rfl, rfl⟩) | (go_at_call 25; refine (rgood_any _ _).mono ?_; rintro e w' ⟨rfl, rfl⟩) | (go_at_call 26; refine (amount_any _ _).mono ?_; rintro e w' ⟨rfl, rfl⟩) | (go_at_call 27; refine (period_any _ _).mono ?_; rintro e w' ⟨rfl, rfl⟩) | (go_at_call 30; refine (rperiod_any _ _).mono ?_; rintro e w' ⟨rfl, rfl⟩) | (go_at_call 29; refine (rgd_any _ _).mono ?_; rintro e w' ⟨rfl, rfl⟩) | (go_at_call 28; refine (compare_any _ _ _).mono ?_; rintro e w' ⟨rfl, rfl⟩))
          go_ret2
          exact ⟨ret2 (by rw [unhide HV]; rfl) (by rw [unhide HB]; rfl), rfl⟩

set_option maxHeartbeats 800000 in
theorem rmul_any (a b : Int) (w : World) :
    Calls Try.prog 20 #[.int .i64 a, .int .i64 b] w fun e w' => e = .returned (.tuple #[.int .i64 (mulV a b), .bool (mulB a b)]) ∧ w' = w := by
  cases ha : good a
  · have HB := hide (show mulB a b = false by simp [mulB, ha])
    have HV := hide (show mulV a b = 0 by simp [mulV, mulB, ha])
    go_enter Try.func20, Try.ntmps20
    go_wp2_with (first | (go_at_call 17; refine (good_any _ _).mono ?_; rintro e w' ⟨rfl, rfl⟩) | (go_at_call 25; refine (rgood_any _ _).mono ?_; rintro e w' ⟨rfl, rfl⟩) | (go_at_call 26; refine (amount_any _ _).mono ?_; rintro e w' ⟨rfl, rfl⟩) | (go_at_call 27; refine (period_any _ _).mono ?_; rintro e w' ⟨rfl, rfl⟩) | (go_at_call 30; refine (rperiod_any _ _).mono ?_; rintro e w' ⟨rfl, rfl⟩) | (go_at_call 29; refine (rgd_any _ _).mono ?_; rintro e w' ⟨rfl, rfl⟩) | (go_at_call 28; refine (compare_any _ _ _).mono ?_; rintro e w' ⟨rfl, rfl⟩))
    go_ret2
    exact ⟨ret2 (by rw [unhide HV]; rfl) (by rw [unhide HB]; rfl), rfl⟩
  · cases hb : good b
    · have HB := hide (show mulB a b = false by simp [mulB, ha, hb])
      have HV := hide (show mulV a b = 0 by simp [mulV, mulB, ha, hb])
      go_enter Try.func20, Try.ntmps20
      go_wp2_with (first | (go_at_call 17; refine (good_any _ _).mono ?_; rintro e w' ⟨rfl, rfl⟩) | (go_at_call 25; refine (rgood_any _ _).mono ?_; rintro e w' ⟨rfl, rfl⟩) | (go_at_call 26; refine (amount_any _ _).mono ?_; rintro e w' ⟨rfl, rfl⟩) | (go_at_call 27; refine (period_any _ _).mono ?_; rintro e w' ⟨rfl, rfl⟩) | (go_at_call 30; refine (rperiod_any _ _).mono ?_; rintro e w' ⟨rfl, rfl⟩) | (go_at_call 29; refine (rgd_any _ _).mono ?_; rintro e w' ⟨rfl, rfl⟩) | (go_at_call 28; refine (compare_any _ _ _).mono ?_; rintro e w' ⟨rfl, rfl⟩))
      go_ret2
      exact ⟨ret2 (by rw [unhide HV]; rfl) (by rw [unhide HB]; rfl), rfl⟩
    · have gA := good_t ha
      have gB := good_t hb
      have g0 := Int.mul_nonneg gA.1 gB.1
      by_cases hz : b = 0
      · subst hz
        have HB := hide (show mulB a 0 = true by simp [mulB, ha, hb])
        have HV := hide (show mulV a 0 = 0 by simp [mulV])
        go_enter Try.func20, Try.ntmps20
        go_wp2_with (first | (go_at_call 17; refine (good_any _ _).mono ?_; rintro e w' ⟨rfl, rfl⟩) | (go_at_call 25; refine (rgood_any _ _).mono ?_; rintro e w' ⟨rfl, rfl⟩) | (go_at_call 26; refine (amount_any _ _).mono ?_; rintro e w' ⟨rfl, rfl⟩) | (go_at_call 27; refine (period_any _ _).mono ?_; rintro e w' ⟨rfl, rfl⟩) | (go_at_call 30; refine (rperiod_any _ _).mono ?_; rintro e w' ⟨rfl, rfl⟩) | (go_at_call 29; refine (rgd_any _ _).mono ?_; rintro e w' ⟨rfl, rfl⟩) | (go_at_call 28; refine (compare_any _ _ _).mono ?_; rintro e w' ⟨rfl, rfl⟩))
        go_ret2
        exact ⟨ret2 (by rw [unhide HV]; rfl) (by rw [unhide HB]; rfl), rfl⟩
      · have h1 : 1 ≤ b := by omega
        have hne : 0 < b := by omega
        have hdb := div_bd (show (0 : Int) ≤ 4611686018427387904 by omega) h1
        by_cases hs : a * b ≤ 4611686018427387904
        · have hq : a ≤ 4611686018427387904 / b := (quo_lt2 h1).2 hs
          have HB := hide (show mulB a b = true by simp [mulB, ha, hb, hs])
          have HV := hide (show mulV a b = a * b by simp [mulV, mulB, ha, hb, hs])
          go_enter Try.func20, Try.ntmps20
          go_wp2_with (first | (go_at_call 17; refine (good_any _ _).mono ?_; rintro e w' ⟨rfl, rfl⟩) | (go_at_call 25; refine (rgood_any _ _).mono ?_; rintro e w' ⟨rfl, rfl⟩) | (go_at_call 26; refine (amount_any _ _).mono ?_; rintro e w' ⟨rfl, rfl⟩) | (go_at_call 27; refine (period_any _ _).mono ?_; rintro e w' ⟨rfl, rfl⟩) | (go_at_call 30; refine (rperiod_any _ _).mono ?_; rintro e w' ⟨rfl, rfl⟩) | (go_at_call 29; refine (rgd_any _ _).mono ?_; rintro e w' ⟨rfl, rfl⟩) | (go_at_call 28; refine (compare_any _ _ _).mono ?_; rintro e w' ⟨rfl, rfl⟩))
          go_ret2
          exact ⟨ret2 (by rw [unhide HV]; rfl) (by rw [unhide HB]; rfl), rfl⟩
        · have hq : ¬ a ≤ 4611686018427387904 / b := fun h => hs ((quo_lt2 h1).1 h)
          have HB := hide (show mulB a b = false by simp [mulB, ha, hb, hs])
          have HV := hide (show mulV a b = 0 by simp [mulV, mulB, ha, hb, hs])
          go_enter Try.func20, Try.ntmps20
          go_wp2_with (first | (go_at_call 17; refine (good_any _ _).mono ?_; rintro e w' ⟨rfl, rfl⟩) | (go_at_call 25; refine (rgood_any _ _).mono ?_; rintro e w' ⟨rfl, rfl⟩) | (go_at_call 26; refine (amount_any _ _).mono ?_; rintro e w' ⟨rfl, rfl⟩) | (go_at_call 27; refine (period_any _ _).mono ?_; rintro e w' ⟨rfl, rfl⟩) | (go_at_call 30; refine (rperiod_any _ _).mono ?_; rintro e w' ⟨rfl, rfl⟩) | (go_at_call 29; refine (rgd_any _ _).mono ?_; rintro e w' ⟨rfl, rfl⟩) | (go_at_call 28; refine (compare_any _ _ _).mono ?_; rintro e w' ⟨rfl, rfl⟩))
          go_ret2
          exact ⟨ret2 (by rw [unhide HV]; rfl) (by rw [unhide HB]; rfl), rfl⟩

set_option maxHeartbeats 800000 in
theorem share_any (x q p : Int) (w : World) :
    Calls Try.prog 13 #[.int .i64 x, .int .i64 q, .int .i64 p] w fun e w' => e = .returned (.tuple #[.int .i64 (shareV x q p), .bool (shareB x q p)]) ∧ w' = w := by
  cases hx : amount x
  · have HB := hide (show shareB x q p = false by simp [shareB, hx])
    have HV := hide (show shareV x q p = 0 by simp [shareV, shareB, hx])
    go_enter Try.func13, Try.ntmps13
    go_wp2_with (first | (go_at_call 17; refine (good_any _ _).mono ?_; rintro e w' ⟨rfl, rfl⟩) | (go_at_call 25; refine (rgood_any _ _).mono ?_; rintro e w' ⟨rfl, rfl⟩) | (go_at_call 26; refine (amount_any _ _).mono ?_; rintro e w' ⟨rfl, rfl⟩) | (go_at_call 27; refine (period_any _ _).mono ?_; rintro e w' ⟨rfl, rfl⟩) | (go_at_call 30; refine (rperiod_any _ _).mono ?_; rintro e w' ⟨rfl, rfl⟩) | (go_at_call 29; refine (rgd_any _ _).mono ?_; rintro e w' ⟨rfl, rfl⟩) | (go_at_call 28; refine (compare_any _ _ _).mono ?_; rintro e w' ⟨rfl, rfl⟩))
    go_ret2
    exact ⟨ret2 (by rw [unhide HV]; rfl) (by rw [unhide HB]; rfl), rfl⟩
  · cases hp : period p
    · have HB := hide (show shareB x q p = false by simp [shareB, hx, hp])
      have HV := hide (show shareV x q p = 0 by simp [shareV, shareB, hx, hp])
      go_enter Try.func13, Try.ntmps13
      go_wp2_with (first | (go_at_call 17; refine (good_any _ _).mono ?_; rintro e w' ⟨rfl, rfl⟩) | (go_at_call 25; refine (rgood_any _ _).mono ?_; rintro e w' ⟨rfl, rfl⟩) | (go_at_call 26; refine (amount_any _ _).mono ?_; rintro e w' ⟨rfl, rfl⟩) | (go_at_call 27; refine (period_any _ _).mono ?_; rintro e w' ⟨rfl, rfl⟩) | (go_at_call 30; refine (rperiod_any _ _).mono ?_; rintro e w' ⟨rfl, rfl⟩) | (go_at_call 29; refine (rgd_any _ _).mono ?_; rintro e w' ⟨rfl, rfl⟩) | (go_at_call 28; refine (compare_any _ _ _).mono ?_; rintro e w' ⟨rfl, rfl⟩))
      go_ret2
      exact ⟨ret2 (by rw [unhide HV]; rfl) (by rw [unhide HB]; rfl), rfl⟩
    · have gX := amount_t hx
      have gP := period_t hp
      by_cases h0 : 0 ≤ q
      · by_cases h1 : q ≤ p
        · have gM := mul_bd31 gX.1 h0 gX.2 (by omega)
          have gD := div_bd gM.1 gP.1
          have HB := hide (show shareB x q p = true by simp [shareB, hx, hp, h0, h1])
          have HV := hide (show shareV x q p = x * q / p by simp [shareV, shareB, hx, hp, h0, h1])
          go_enter Try.func13, Try.ntmps13
          go_wp2_with (first | (go_at_call 17; refine (good_any _ _).mono ?_; rintro e w' ⟨rfl, rfl⟩) | (go_at_call 25; refine (rgood_any _ _).mono ?_; rintro e w' ⟨rfl, rfl⟩) | (go_at_call 26; refine (amount_any _ _).mono ?_; rintro e w' ⟨rfl, rfl⟩) | (go_at_call 27; refine (period_any _ _).mono ?_; rintro e w' ⟨rfl, rfl⟩) | (go_at_call 30; refine (rperiod_any _ _).mono ?_; rintro e w' ⟨rfl, rfl⟩) | (go_at_call 29; refine (rgd_any _ _).mono ?_; rintro e w' ⟨rfl, rfl⟩) | (go_at_call 28; refine (compare_any _ _ _).mono ?_; rintro e w' ⟨rfl, rfl⟩))
          go_ret2
          exact ⟨ret2 (by rw [unhide HV]; rfl) (by rw [unhide HB]; rfl), rfl⟩
        · have HB := hide (show shareB x q p = false by simp [shareB, hx, hp, h0, h1])
          have HV := hide (show shareV x q p = 0 by simp [shareV, shareB, hx, hp, h0, h1])
          go_enter Try.func13, Try.ntmps13
          go_wp2_with (first | (go_at_call 17; refine (good_any _ _).mono ?_; rintro e w' ⟨rfl, rfl⟩) | (go_at_call 25; refine (rgood_any _ _).mono ?_; rintro e w' ⟨rfl, rfl⟩) | (go_at_call 26; refine (amount_any _ _).mono ?_; rintro e w' ⟨rfl, rfl⟩) | (go_at_call 27; refine (period_any _ _).mono ?_; rintro e w' ⟨rfl, rfl⟩) | (go_at_call 30; refine (rperiod_any _ _).mono ?_; rintro e w' ⟨rfl, rfl⟩) | (go_at_call 29; refine (rgd_any _ _).mono ?_; rintro e w' ⟨rfl, rfl⟩) | (go_at_call 28; refine (compare_any _ _ _).mono ?_; rintro e w' ⟨rfl, rfl⟩))
          go_ret2
          exact ⟨ret2 (by rw [unhide HV]; rfl) (by rw [unhide HB]; rfl), rfl⟩
      · have HB := hide (show shareB x q p = false by simp [shareB, hx, hp, h0])
        have HV := hide (show shareV x q p = 0 by simp [shareV, shareB, hx, hp, h0])
        go_enter Try.func13, Try.ntmps13
        go_wp2_with (first | (go_at_call 17; refine (good_any _ _).mono ?_; rintro e w' ⟨rfl, rfl⟩) | (go_at_call 25; refine (rgood_any _ _).mono ?_; rintro e w' ⟨rfl, rfl⟩) | (go_at_call 26; refine (amount_any _ _).mono ?_; rintro e w' ⟨rfl, rfl⟩) | (go_at_call 27; refine (period_any _ _).mono ?_; rintro e w' ⟨rfl, rfl⟩) | (go_at_call 30; refine (rperiod_any _ _).mono ?_; rintro e w' ⟨rfl, rfl⟩) | (go_at_call 29; refine (rgd_any _ _).mono ?_; rintro e w' ⟨rfl, rfl⟩) | (go_at_call 28; refine (compare_any _ _ _).mono ?_; rintro e w' ⟨rfl, rfl⟩))
        go_ret2
        exact ⟨ret2 (by rw [unhide HV]; rfl) (by rw [unhide HB]; rfl), rfl⟩

set_option maxHeartbeats 800000 in
theorem win_any (x p : Int) (w : World) :
    Calls Try.prog 15 #[.int .i64 x, .int .i64 p] w fun e w' => e = .returned (.tuple #[.int .i64 (winV x p), .bool (winB x p)]) ∧ w' = w := by
  cases hx : good x
  · have HB := hide (show winB x p = false by simp [winB, hx])
    have HV := hide (show winV x p = 0 by simp [winV, winB, hx])
    go_enter Try.func15, Try.ntmps15
    go_wp2_with (first | (go_at_call 17; refine (good_any _ _).mono ?_; rintro e w' ⟨rfl, rfl⟩) | (go_at_call 25; refine (rgood_any _ _).mono ?_; rintro e w' ⟨rfl, rfl⟩) | (go_at_call 26; refine (amount_any _ _).mono ?_; rintro e w' ⟨rfl, rfl⟩) | (go_at_call 27; refine (period_any _ _).mono ?_; rintro e w' ⟨rfl, rfl⟩) | (go_at_call 30; refine (rperiod_any _ _).mono ?_; rintro e w' ⟨rfl, rfl⟩) | (go_at_call 29; refine (rgd_any _ _).mono ?_; rintro e w' ⟨rfl, rfl⟩) | (go_at_call 28; refine (compare_any _ _ _).mono ?_; rintro e w' ⟨rfl, rfl⟩))
    go_ret2
    exact ⟨ret2 (by rw [unhide HV]; rfl) (by rw [unhide HB]; rfl), rfl⟩
  · cases hp : period p
    · have HB := hide (show winB x p = false by simp [winB, hx, hp])
      have HV := hide (show winV x p = 0 by simp [winV, winB, hx, hp])
      go_enter Try.func15, Try.ntmps15
      go_wp2_with (first | (go_at_call 17; refine (good_any _ _).mono ?_; rintro e w' ⟨rfl, rfl⟩) | (go_at_call 25; refine (rgood_any _ _).mono ?_; rintro e w' ⟨rfl, rfl⟩) | (go_at_call 26; refine (amount_any _ _).mono ?_; rintro e w' ⟨rfl, rfl⟩) | (go_at_call 27; refine (period_any _ _).mono ?_; rintro e w' ⟨rfl, rfl⟩) | (go_at_call 30; refine (rperiod_any _ _).mono ?_; rintro e w' ⟨rfl, rfl⟩) | (go_at_call 29; refine (rgd_any _ _).mono ?_; rintro e w' ⟨rfl, rfl⟩) | (go_at_call 28; refine (compare_any _ _ _).mono ?_; rintro e w' ⟨rfl, rfl⟩))
      go_ret2
      exact ⟨ret2 (by rw [unhide HV]; rfl) (by rw [unhide HB]; rfl), rfl⟩
    · have gX := good_t hx
      have gP := period_t hp
      have gD := div_bd gX.1 gP.1
      have HB := hide (show winB x p = true by simp [winB, hx, hp])
      have HV := hide (show winV x p = x / p by simp [winV, winB, hx, hp])
      go_enter Try.func15, Try.ntmps15
      go_wp2_with (first | (go_at_call 17; refine (good_any _ _).mono ?_; rintro e w' ⟨rfl, rfl⟩) | (go_at_call 25; refine (rgood_any _ _).mono ?_; rintro e w' ⟨rfl, rfl⟩) | (go_at_call 26; refine (amount_any _ _).mono ?_; rintro e w' ⟨rfl, rfl⟩) | (go_at_call 27; refine (period_any _ _).mono ?_; rintro e w' ⟨rfl, rfl⟩) | (go_at_call 30; refine (rperiod_any _ _).mono ?_; rintro e w' ⟨rfl, rfl⟩) | (go_at_call 29; refine (rgd_any _ _).mono ?_; rintro e w' ⟨rfl, rfl⟩) | (go_at_call 28; refine (compare_any _ _ _).mono ?_; rintro e w' ⟨rfl, rfl⟩))
      go_ret2
      exact ⟨ret2 (by rw [unhide HV]; rfl) (by rw [unhide HB]; rfl), rfl⟩

set_option maxHeartbeats 800000 in
theorem rwin_any (x p : Int) (w : World) :
    Calls Try.prog 23 #[.int .i64 x, .int .i64 p] w fun e w' => e = .returned (.tuple #[.int .i64 (winV x p), .bool (winB x p)]) ∧ w' = w := by
  cases hx : good x
  · have HB := hide (show winB x p = false by simp [winB, hx])
    have HV := hide (show winV x p = 0 by simp [winV, winB, hx])
    go_enter Try.func23, Try.ntmps23
    go_wp2_with (first | (go_at_call 17; refine (good_any _ _).mono ?_; rintro e w' ⟨rfl, rfl⟩) | (go_at_call 25; refine (rgood_any _ _).mono ?_; rintro e w' ⟨rfl, rfl⟩) | (go_at_call 26; refine (amount_any _ _).mono ?_; rintro e w' ⟨rfl, rfl⟩) | (go_at_call 27; refine (period_any _ _).mono ?_; rintro e w' ⟨rfl, rfl⟩) | (go_at_call 30; refine (rperiod_any _ _).mono ?_; rintro e w' ⟨rfl, rfl⟩) | (go_at_call 29; refine (rgd_any _ _).mono ?_; rintro e w' ⟨rfl, rfl⟩) | (go_at_call 28; refine (compare_any _ _ _).mono ?_; rintro e w' ⟨rfl, rfl⟩))
    go_ret2
    exact ⟨ret2 (by rw [unhide HV]; rfl) (by rw [unhide HB]; rfl), rfl⟩
  · cases hp : period p
    · have HB := hide (show winB x p = false by simp [winB, hx, hp])
      have HV := hide (show winV x p = 0 by simp [winV, winB, hx, hp])
      go_enter Try.func23, Try.ntmps23
      go_wp2_with (first | (go_at_call 17; refine (good_any _ _).mono ?_; rintro e w' ⟨rfl, rfl⟩) | (go_at_call 25; refine (rgood_any _ _).mono ?_; rintro e w' ⟨rfl, rfl⟩) | (go_at_call 26; refine (amount_any _ _).mono ?_; rintro e w' ⟨rfl, rfl⟩) | (go_at_call 27; refine (period_any _ _).mono ?_; rintro e w' ⟨rfl, rfl⟩) | (go_at_call 30; refine (rperiod_any _ _).mono ?_; rintro e w' ⟨rfl, rfl⟩) | (go_at_call 29; refine (rgd_any _ _).mono ?_; rintro e w' ⟨rfl, rfl⟩) | (go_at_call 28; refine (compare_any _ _ _).mono ?_; rintro e w' ⟨rfl, rfl⟩))
      go_ret2
      exact ⟨ret2 (by rw [unhide HV]; rfl) (by rw [unhide HB]; rfl), rfl⟩
    · have gX := good_t hx
      have gP := period_t hp
      have gD := div_bd gX.1 gP.1
      have HB := hide (show winB x p = true by simp [winB, hx, hp])
      have HV := hide (show winV x p = x / p by simp [winV, winB, hx, hp])
      go_enter Try.func23, Try.ntmps23
      go_wp2_with (first | (go_at_call 17; refine (good_any _ _).mono ?_; rintro e w' ⟨rfl, rfl⟩) | (go_at_call 25; refine (rgood_any _ _).mono ?_; rintro e w' ⟨rfl, rfl⟩) | (go_at_call 26; refine (amount_any _ _).mono ?_; rintro e w' ⟨rfl, rfl⟩) | (go_at_call 27; refine (period_any _ _).mono ?_; rintro e w' ⟨rfl, rfl⟩) | (go_at_call 30; refine (rperiod_any _ _).mono ?_; rintro e w' ⟨rfl, rfl⟩) | (go_at_call 29; refine (rgd_any _ _).mono ?_; rintro e w' ⟨rfl, rfl⟩) | (go_at_call 28; refine (compare_any _ _ _).mono ?_; rintro e w' ⟨rfl, rfl⟩))
      go_ret2
      exact ⟨ret2 (by rw [unhide HV]; rfl) (by rw [unhide HB]; rfl), rfl⟩

set_option maxHeartbeats 800000 in
theorem up_any (t d p : Int) (w : World) :
    Calls Try.prog 16 #[.int .i64 t, .int .i64 d, .int .i64 p] w fun e w' => e = .returned (.tuple #[.int .i64 (upV t d p), .bool (upB t d p)]) ∧ w' = w := by
  cases ht : good t
  · have HB := hide (show upB t d p = false by simp [upB, ht])
    have HV := hide (show upV t d p = 0 by simp [upV, upB, ht])
    go_enter Try.func16, Try.ntmps16
    go_wp2_with (first | (go_at_call 17; refine (good_any _ _).mono ?_; rintro e w' ⟨rfl, rfl⟩) | (go_at_call 25; refine (rgood_any _ _).mono ?_; rintro e w' ⟨rfl, rfl⟩) | (go_at_call 26; refine (amount_any _ _).mono ?_; rintro e w' ⟨rfl, rfl⟩) | (go_at_call 27; refine (period_any _ _).mono ?_; rintro e w' ⟨rfl, rfl⟩) | (go_at_call 30; refine (rperiod_any _ _).mono ?_; rintro e w' ⟨rfl, rfl⟩) | (go_at_call 29; refine (rgd_any _ _).mono ?_; rintro e w' ⟨rfl, rfl⟩) | (go_at_call 28; refine (compare_any _ _ _).mono ?_; rintro e w' ⟨rfl, rfl⟩))
    go_ret2
    exact ⟨ret2 (by rw [unhide HV]; rfl) (by rw [unhide HB]; rfl), rfl⟩
  · cases hd : good d
    · have HB := hide (show upB t d p = false by simp [upB, ht, hd])
      have HV := hide (show upV t d p = 0 by simp [upV, upB, ht, hd])
      go_enter Try.func16, Try.ntmps16
      go_wp2_with (first | (go_at_call 17; refine (good_any _ _).mono ?_; rintro e w' ⟨rfl, rfl⟩) | (go_at_call 25; refine (rgood_any _ _).mono ?_; rintro e w' ⟨rfl, rfl⟩) | (go_at_call 26; refine (amount_any _ _).mono ?_; rintro e w' ⟨rfl, rfl⟩) | (go_at_call 27; refine (period_any _ _).mono ?_; rintro e w' ⟨rfl, rfl⟩) | (go_at_call 30; refine (rperiod_any _ _).mono ?_; rintro e w' ⟨rfl, rfl⟩) | (go_at_call 29; refine (rgd_any _ _).mono ?_; rintro e w' ⟨rfl, rfl⟩) | (go_at_call 28; refine (compare_any _ _ _).mono ?_; rintro e w' ⟨rfl, rfl⟩))
      go_ret2
      exact ⟨ret2 (by rw [unhide HV]; rfl) (by rw [unhide HB]; rfl), rfl⟩
    · cases hp : period p
      · have HB := hide (show upB t d p = false by simp [upB, ht, hd, hp])
        have HV := hide (show upV t d p = 0 by simp [upV, upB, ht, hd, hp])
        go_enter Try.func16, Try.ntmps16
        go_wp2_with (first | (go_at_call 17; refine (good_any _ _).mono ?_; rintro e w' ⟨rfl, rfl⟩) | (go_at_call 25; refine (rgood_any _ _).mono ?_; rintro e w' ⟨rfl, rfl⟩) | (go_at_call 26; refine (amount_any _ _).mono ?_; rintro e w' ⟨rfl, rfl⟩) | (go_at_call 27; refine (period_any _ _).mono ?_; rintro e w' ⟨rfl, rfl⟩) | (go_at_call 30; refine (rperiod_any _ _).mono ?_; rintro e w' ⟨rfl, rfl⟩) | (go_at_call 29; refine (rgd_any _ _).mono ?_; rintro e w' ⟨rfl, rfl⟩) | (go_at_call 28; refine (compare_any _ _ _).mono ?_; rintro e w' ⟨rfl, rfl⟩))
        go_ret2
        exact ⟨ret2 (by rw [unhide HV]; rfl) (by rw [unhide HB]; rfl), rfl⟩
      · have gT := good_t ht
        have gD := good_t hd
        have gP := period_t hp
        by_cases hlt : t < d
        · have HB := hide (show upB t d p = true by simp [upB, nextOf, ht, hd, hp, hlt])
          have HV := hide (show upV t d p = d by simp [upV, upB, nextOf, ht, hd, hp, hlt])
          go_enter Try.func16, Try.ntmps16
          go_wp2_with (first | (go_at_call 17; refine (good_any _ _).mono ?_; rintro e w' ⟨rfl, rfl⟩) | (go_at_call 25; refine (rgood_any _ _).mono ?_; rintro e w' ⟨rfl, rfl⟩) | (go_at_call 26; refine (amount_any _ _).mono ?_; rintro e w' ⟨rfl, rfl⟩) | (go_at_call 27; refine (period_any _ _).mono ?_; rintro e w' ⟨rfl, rfl⟩) | (go_at_call 30; refine (rperiod_any _ _).mono ?_; rintro e w' ⟨rfl, rfl⟩) | (go_at_call 29; refine (rgd_any _ _).mono ?_; rintro e w' ⟨rfl, rfl⟩) | (go_at_call 28; refine (compare_any _ _ _).mono ?_; rintro e w' ⟨rfl, rfl⟩))
          go_ret2
          exact ⟨ret2 (by rw [unhide HV]; rfl) (by rw [unhide HB]; rfl), rfl⟩
        · have gN := next_bd gD.1 (show d ≤ t by omega) gP.1
          cases hn : good (d + ((t - d) / p + 1) * p)
          · have HB := hide (show upB t d p = false by simp [upB, nextOf, ht, hd, hp, hlt, hn])
            have HV := hide (show upV t d p = 0 by simp [upV, upB, nextOf, ht, hd, hp, hlt, hn])
            go_enter Try.func16, Try.ntmps16
            go_wp2_with (first | (go_at_call 17; refine (good_any _ _).mono ?_; rintro e w' ⟨rfl, rfl⟩) | (go_at_call 25; refine (rgood_any _ _).mono ?_; rintro e w' ⟨rfl, rfl⟩) | (go_at_call 26; refine (amount_any _ _).mono ?_; rintro e w' ⟨rfl, rfl⟩) | (go_at_call 27; refine (period_any _ _).mono ?_; rintro e w' ⟨rfl, rfl⟩) | (go_at_call 30; refine (rperiod_any _ _).mono ?_; rintro e w' ⟨rfl, rfl⟩) | (go_at_call 29; refine (rgd_any _ _).mono ?_; rintro e w' ⟨rfl, rfl⟩) | (go_at_call 28; refine (compare_any _ _ _).mono ?_; rintro e w' ⟨rfl, rfl⟩))
            go_ret2
            exact ⟨ret2 (by rw [unhide HV]; rfl) (by rw [unhide HB]; rfl), rfl⟩
          · have HB := hide (show upB t d p = true by simp [upB, nextOf, ht, hd, hp, hlt, hn])
            have HV := hide (show upV t d p = d + ((t - d) / p + 1) * p by simp [upV, upB, nextOf, ht, hd, hp, hlt, hn])
            go_enter Try.func16, Try.ntmps16
            go_wp2_with (first | (go_at_call 17; refine (good_any _ _).mono ?_; rintro e w' ⟨rfl, rfl⟩) | (go_at_call 25; refine (rgood_any _ _).mono ?_; rintro e w' ⟨rfl, rfl⟩) | (go_at_call 26; refine (amount_any _ _).mono ?_; rintro e w' ⟨rfl, rfl⟩) | (go_at_call 27; refine (period_any _ _).mono ?_; rintro e w' ⟨rfl, rfl⟩) | (go_at_call 30; refine (rperiod_any _ _).mono ?_; rintro e w' ⟨rfl, rfl⟩) | (go_at_call 29; refine (rgd_any _ _).mono ?_; rintro e w' ⟨rfl, rfl⟩) | (go_at_call 28; refine (compare_any _ _ _).mono ?_; rintro e w' ⟨rfl, rfl⟩))
            go_ret2
            exact ⟨ret2 (by rw [unhide HV]; rfl) (by rw [unhide HB]; rfl), rfl⟩

set_option maxHeartbeats 800000 in
theorem rup_any (t d p : Int) (w : World) :
    Calls Try.prog 24 #[.int .i64 t, .int .i64 d, .int .i64 p] w fun e w' => e = .returned (.tuple #[.int .i64 (upV t d p), .bool (upB t d p)]) ∧ w' = w := by
  cases ht : good t
  · have HB := hide (show upB t d p = false by simp [upB, ht])
    have HV := hide (show upV t d p = 0 by simp [upV, upB, ht])
    go_enter Try.func24, Try.ntmps24
    go_wp2_with (first | (go_at_call 17; refine (good_any _ _).mono ?_; rintro e w' ⟨rfl, rfl⟩) | (go_at_call 25; refine (rgood_any _ _).mono ?_; rintro e w' ⟨rfl, rfl⟩) | (go_at_call 26; refine (amount_any _ _).mono ?_; rintro e w' ⟨rfl, rfl⟩) | (go_at_call 27; refine (period_any _ _).mono ?_; rintro e w' ⟨rfl, rfl⟩) | (go_at_call 30; refine (rperiod_any _ _).mono ?_; rintro e w' ⟨rfl, rfl⟩) | (go_at_call 29; refine (rgd_any _ _).mono ?_; rintro e w' ⟨rfl, rfl⟩) | (go_at_call 28; refine (compare_any _ _ _).mono ?_; rintro e w' ⟨rfl, rfl⟩))
    go_ret2
    exact ⟨ret2 (by rw [unhide HV]; rfl) (by rw [unhide HB]; rfl), rfl⟩
  · cases hd : good d
    · have HB := hide (show upB t d p = false by simp [upB, ht, hd])
      have HV := hide (show upV t d p = 0 by simp [upV, upB, ht, hd])
      go_enter Try.func24, Try.ntmps24
      go_wp2_with (first | (go_at_call 17; refine (good_any _ _).mono ?_; rintro e w' ⟨rfl, rfl⟩) | (go_at_call 25; refine (rgood_any _ _).mono ?_; rintro e w' ⟨rfl, rfl⟩) | (go_at_call 26; refine (amount_any _ _).mono ?_; rintro e w' ⟨rfl, rfl⟩) | (go_at_call 27; refine (period_any _ _).mono ?_; rintro e w' ⟨rfl, rfl⟩) | (go_at_call 30; refine (rperiod_any _ _).mono ?_; rintro e w' ⟨rfl, rfl⟩) | (go_at_call 29; refine (rgd_any _ _).mono ?_; rintro e w' ⟨rfl, rfl⟩) | (go_at_call 28; refine (compare_any _ _ _).mono ?_; rintro e w' ⟨rfl, rfl⟩))
      go_ret2
      exact ⟨ret2 (by rw [unhide HV]; rfl) (by rw [unhide HB]; rfl), rfl⟩
    · cases hp : period p
      · have HB := hide (show upB t d p = false by simp [upB, ht, hd, hp])
        have HV := hide (show upV t d p = 0 by simp [upV, upB, ht, hd, hp])
        go_enter Try.func24, Try.ntmps24
        go_wp2_with (first | (go_at_call 17; refine (good_any _ _).mono ?_; rintro e w' ⟨rfl, rfl⟩) | (go_at_call 25; refine (rgood_any _ _).mono ?_; rintro e w' ⟨rfl, rfl⟩) | (go_at_call 26; refine (amount_any _ _).mono ?_; rintro e w' ⟨rfl, rfl⟩) | (go_at_call 27; refine (period_any _ _).mono ?_; rintro e w' ⟨rfl, rfl⟩) | (go_at_call 30; refine (rperiod_any _ _).mono ?_; rintro e w' ⟨rfl, rfl⟩) | (go_at_call 29; refine (rgd_any _ _).mono ?_; rintro e w' ⟨rfl, rfl⟩) | (go_at_call 28; refine (compare_any _ _ _).mono ?_; rintro e w' ⟨rfl, rfl⟩))
        go_ret2
        exact ⟨ret2 (by rw [unhide HV]; rfl) (by rw [unhide HB]; rfl), rfl⟩
      · have gT := good_t ht
        have gD := good_t hd
        have gP := period_t hp
        by_cases hlt : t < d
        · have HB := hide (show upB t d p = true by simp [upB, nextOf, ht, hd, hp, hlt])
          have HV := hide (show upV t d p = d by simp [upV, upB, nextOf, ht, hd, hp, hlt])
          go_enter Try.func24, Try.ntmps24
          go_wp2_with (first | (go_at_call 17; refine (good_any _ _).mono ?_; rintro e w' ⟨rfl, rfl⟩) | (go_at_call 25; refine (rgood_any _ _).mono ?_; rintro e w' ⟨rfl, rfl⟩) | (go_at_call 26; refine (amount_any _ _).mono ?_; rintro e w' ⟨rfl, rfl⟩) | (go_at_call 27; refine (period_any _ _).mono ?_; rintro e w' ⟨rfl, rfl⟩) | (go_at_call 30; refine (rperiod_any _ _).mono ?_; rintro e w' ⟨rfl, rfl⟩) | (go_at_call 29; refine (rgd_any _ _).mono ?_; rintro e w' ⟨rfl, rfl⟩) | (go_at_call 28; refine (compare_any _ _ _).mono ?_; rintro e w' ⟨rfl, rfl⟩))
          go_ret2
          exact ⟨ret2 (by rw [unhide HV]; rfl) (by rw [unhide HB]; rfl), rfl⟩
        · have gN := next_bd gD.1 (show d ≤ t by omega) gP.1
          cases hn : good (d + ((t - d) / p + 1) * p)
          · have HB := hide (show upB t d p = false by simp [upB, nextOf, ht, hd, hp, hlt, hn])
            have HV := hide (show upV t d p = 0 by simp [upV, upB, nextOf, ht, hd, hp, hlt, hn])
            go_enter Try.func24, Try.ntmps24
            go_wp2_with (first | (go_at_call 17; refine (good_any _ _).mono ?_; rintro e w' ⟨rfl, rfl⟩) | (go_at_call 25; refine (rgood_any _ _).mono ?_; rintro e w' ⟨rfl, rfl⟩) | (go_at_call 26; refine (amount_any _ _).mono ?_; rintro e w' ⟨rfl, rfl⟩) | (go_at_call 27; refine (period_any _ _).mono ?_; rintro e w' ⟨rfl, rfl⟩) | (go_at_call 30; refine (rperiod_any _ _).mono ?_; rintro e w' ⟨rfl, rfl⟩) | (go_at_call 29; refine (rgd_any _ _).mono ?_; rintro e w' ⟨rfl, rfl⟩) | (go_at_call 28; refine (compare_any _ _ _).mono ?_; rintro e w' ⟨rfl, rfl⟩))
            go_ret2
            exact ⟨ret2 (by rw [unhide HV]; rfl) (by rw [unhide HB]; rfl), rfl⟩
          · have HB := hide (show upB t d p = true by simp [upB, nextOf, ht, hd, hp, hlt, hn])
            have HV := hide (show upV t d p = d + ((t - d) / p + 1) * p by simp [upV, upB, nextOf, ht, hd, hp, hlt, hn])
            go_enter Try.func24, Try.ntmps24
            go_wp2_with (first | (go_at_call 17; refine (good_any _ _).mono ?_; rintro e w' ⟨rfl, rfl⟩) | (go_at_call 25; refine (rgood_any _ _).mono ?_; rintro e w' ⟨rfl, rfl⟩) | (go_at_call 26; refine (amount_any _ _).mono ?_; rintro e w' ⟨rfl, rfl⟩) | (go_at_call 27; refine (period_any _ _).mono ?_; rintro e w' ⟨rfl, rfl⟩) | (go_at_call 30; refine (rperiod_any _ _).mono ?_; rintro e w' ⟨rfl, rfl⟩) | (go_at_call 29; refine (rgd_any _ _).mono ?_; rintro e w' ⟨rfl, rfl⟩) | (go_at_call 28; refine (compare_any _ _ _).mono ?_; rintro e w' ⟨rfl, rfl⟩))
            go_ret2
            exact ⟨ret2 (by rw [unhide HV]; rfl) (by rw [unhide HB]; rfl), rfl⟩

set_option maxHeartbeats 800000 in
theorem cmp_any (a b c d : Int) (w : World) :
    Calls Try.prog 14 #[.int .i64 a, .int .i64 b, .int .i64 c, .int .i64 d] w fun e w' => e = .returned (.tuple #[.int .i64 (cmpV a b c d), .bool (cmpB a b c d)]) ∧ w' = w := by
  cases ha : amount a
  · have HB := hide (show cmpB a b c d = false by simp [cmpB, ha])
    have HV := hide (show cmpV a b c d = 0 by simp [cmpV, cmpB, ha])
    go_enter Try.func14, Try.ntmps14
    go_wp2_with (first | (go_at_call 17; refine (good_any _ _).mono ?_; rintro e w' ⟨rfl, rfl⟩) | (go_at_call 25; refine (rgood_any _ _).mono ?_; rintro e w' ⟨rfl, rfl⟩) | (go_at_call 26; refine (amount_any _ _).mono ?_; rintro e w' ⟨rfl, rfl⟩) | (go_at_call 27; refine (period_any _ _).mono ?_; rintro e w' ⟨rfl, rfl⟩) | (go_at_call 30; refine (rperiod_any _ _).mono ?_; rintro e w' ⟨rfl, rfl⟩) | (go_at_call 29; refine (rgd_any _ _).mono ?_; rintro e w' ⟨rfl, rfl⟩) | (go_at_call 28; refine (compare_any _ _ _).mono ?_; rintro e w' ⟨rfl, rfl⟩))
    go_ret2
    exact ⟨ret2 (by rw [unhide HV]; rfl) (by rw [unhide HB]; rfl), rfl⟩
  · cases hb : period b
    · have HB := hide (show cmpB a b c d = false by simp [cmpB, ha, hb])
      have HV := hide (show cmpV a b c d = 0 by simp [cmpV, cmpB, ha, hb])
      go_enter Try.func14, Try.ntmps14
      go_wp2_with (first | (go_at_call 17; refine (good_any _ _).mono ?_; rintro e w' ⟨rfl, rfl⟩) | (go_at_call 25; refine (rgood_any _ _).mono ?_; rintro e w' ⟨rfl, rfl⟩) | (go_at_call 26; refine (amount_any _ _).mono ?_; rintro e w' ⟨rfl, rfl⟩) | (go_at_call 27; refine (period_any _ _).mono ?_; rintro e w' ⟨rfl, rfl⟩) | (go_at_call 30; refine (rperiod_any _ _).mono ?_; rintro e w' ⟨rfl, rfl⟩) | (go_at_call 29; refine (rgd_any _ _).mono ?_; rintro e w' ⟨rfl, rfl⟩) | (go_at_call 28; refine (compare_any _ _ _).mono ?_; rintro e w' ⟨rfl, rfl⟩))
      go_ret2
      exact ⟨ret2 (by rw [unhide HV]; rfl) (by rw [unhide HB]; rfl), rfl⟩
    · cases hc : amount c
      · have HB := hide (show cmpB a b c d = false by simp [cmpB, ha, hb, hc])
        have HV := hide (show cmpV a b c d = 0 by simp [cmpV, cmpB, ha, hb, hc])
        go_enter Try.func14, Try.ntmps14
        go_wp2_with (first | (go_at_call 17; refine (good_any _ _).mono ?_; rintro e w' ⟨rfl, rfl⟩) | (go_at_call 25; refine (rgood_any _ _).mono ?_; rintro e w' ⟨rfl, rfl⟩) | (go_at_call 26; refine (amount_any _ _).mono ?_; rintro e w' ⟨rfl, rfl⟩) | (go_at_call 27; refine (period_any _ _).mono ?_; rintro e w' ⟨rfl, rfl⟩) | (go_at_call 30; refine (rperiod_any _ _).mono ?_; rintro e w' ⟨rfl, rfl⟩) | (go_at_call 29; refine (rgd_any _ _).mono ?_; rintro e w' ⟨rfl, rfl⟩) | (go_at_call 28; refine (compare_any _ _ _).mono ?_; rintro e w' ⟨rfl, rfl⟩))
        go_ret2
        exact ⟨ret2 (by rw [unhide HV]; rfl) (by rw [unhide HB]; rfl), rfl⟩
      · cases hd : period d
        · have HB := hide (show cmpB a b c d = false by simp [cmpB, ha, hb, hc, hd])
          have HV := hide (show cmpV a b c d = 0 by simp [cmpV, cmpB, ha, hb, hc, hd])
          go_enter Try.func14, Try.ntmps14
          go_wp2_with (first | (go_at_call 17; refine (good_any _ _).mono ?_; rintro e w' ⟨rfl, rfl⟩) | (go_at_call 25; refine (rgood_any _ _).mono ?_; rintro e w' ⟨rfl, rfl⟩) | (go_at_call 26; refine (amount_any _ _).mono ?_; rintro e w' ⟨rfl, rfl⟩) | (go_at_call 27; refine (period_any _ _).mono ?_; rintro e w' ⟨rfl, rfl⟩) | (go_at_call 30; refine (rperiod_any _ _).mono ?_; rintro e w' ⟨rfl, rfl⟩) | (go_at_call 29; refine (rgd_any _ _).mono ?_; rintro e w' ⟨rfl, rfl⟩) | (go_at_call 28; refine (compare_any _ _ _).mono ?_; rintro e w' ⟨rfl, rfl⟩))
          go_ret2
          exact ⟨ret2 (by rw [unhide HV]; rfl) (by rw [unhide HB]; rfl), rfl⟩
        · have gA := amount_t ha
          have gB := period_t hb
          have gC := amount_t hc
          have gD := period_t hd
          have g1 := mul_bd31 gA.1 (show 0 ≤ d by omega) gA.2 gD.2
          have g2 := mul_bd31 gC.1 (show 0 ≤ b by omega) gC.2 gB.2
          have HB := hide (show cmpB a b c d = true by simp [cmpB, ha, hb, hc, hd])
          have HV := hide (show cmpV a b c d = cmpOf (a * d) (c * b) by simp [cmpV, cmpB, ha, hb, hc, hd])
          go_enter Try.func14, Try.ntmps14
          go_wp2_with (first | (go_at_call 17; refine (good_any _ _).mono ?_; rintro e w' ⟨rfl, rfl⟩) | (go_at_call 25; refine (rgood_any _ _).mono ?_; rintro e w' ⟨rfl, rfl⟩) | (go_at_call 26; refine (amount_any _ _).mono ?_; rintro e w' ⟨rfl, rfl⟩) | (go_at_call 27; refine (period_any _ _).mono ?_; rintro e w' ⟨rfl, rfl⟩) | (go_at_call 30; refine (rperiod_any _ _).mono ?_; rintro e w' ⟨rfl, rfl⟩) | (go_at_call 29; refine (rgd_any _ _).mono ?_; rintro e w' ⟨rfl, rfl⟩) | (go_at_call 28; refine (compare_any _ _ _).mono ?_; rintro e w' ⟨rfl, rfl⟩))
          go_ret2
          exact ⟨ret2 (by rw [unhide HV]; rfl) (by rw [unhide HB]; rfl), rfl⟩

set_option maxHeartbeats 800000 in
theorem rshare_any (x q p : Int) (w : World) :
    Calls Try.prog 21 #[.int .i64 x, .int .i64 q, .int .i64 p] w fun e w' => e = .returned (.tuple #[.int .i64 (shareV x q p), .bool (shareB x q p)]) ∧ w' = w := by
  by_cases x0 : x < 0
  · have hx : amount x = false := by simp [amount]; omega
    have HB := hide (show shareB x q p = false by simp [shareB, hx])
    have HV := hide (show shareV x q p = 0 by simp [shareV, shareB, hx])
    go_enter Try.func21, Try.ntmps21
    go_wp2_with (first | (go_at_call 17; refine (good_any _ _).mono ?_; rintro e w' ⟨rfl, rfl⟩) | (go_at_call 25; refine (rgood_any _ _).mono ?_; rintro e w' ⟨rfl, rfl⟩) | (go_at_call 26; refine (amount_any _ _).mono ?_; rintro e w' ⟨rfl, rfl⟩) | (go_at_call 27; refine (period_any _ _).mono ?_; rintro e w' ⟨rfl, rfl⟩) | (go_at_call 30; refine (rperiod_any _ _).mono ?_; rintro e w' ⟨rfl, rfl⟩) | (go_at_call 29; refine (rgd_any _ _).mono ?_; rintro e w' ⟨rfl, rfl⟩) | (go_at_call 28; refine (compare_any _ _ _).mono ?_; rintro e w' ⟨rfl, rfl⟩))
    go_ret2
    exact ⟨ret2 (by rw [unhide HV]; rfl) (by rw [unhide HB]; rfl), rfl⟩
  · by_cases x1 : 2147483648 < x
    · have hx : amount x = false := by simp [amount]; omega
      have HB := hide (show shareB x q p = false by simp [shareB, hx])
      have HV := hide (show shareV x q p = 0 by simp [shareV, shareB, hx])
      go_enter Try.func21, Try.ntmps21
      go_wp2_with (first | (go_at_call 17; refine (good_any _ _).mono ?_; rintro e w' ⟨rfl, rfl⟩) | (go_at_call 25; refine (rgood_any _ _).mono ?_; rintro e w' ⟨rfl, rfl⟩) | (go_at_call 26; refine (amount_any _ _).mono ?_; rintro e w' ⟨rfl, rfl⟩) | (go_at_call 27; refine (period_any _ _).mono ?_; rintro e w' ⟨rfl, rfl⟩) | (go_at_call 30; refine (rperiod_any _ _).mono ?_; rintro e w' ⟨rfl, rfl⟩) | (go_at_call 29; refine (rgd_any _ _).mono ?_; rintro e w' ⟨rfl, rfl⟩) | (go_at_call 28; refine (compare_any _ _ _).mono ?_; rintro e w' ⟨rfl, rfl⟩))
      go_ret2
      exact ⟨ret2 (by rw [unhide HV]; rfl) (by rw [unhide HB]; rfl), rfl⟩
    · have hx : amount x = true := by simp [amount]; omega
      cases hp : period p
      · have HB := hide (show shareB x q p = false by simp [shareB, hp])
        have HV := hide (show shareV x q p = 0 by simp [shareV, shareB, hp])
        go_enter Try.func21, Try.ntmps21
        go_wp2_with (first | (go_at_call 17; refine (good_any _ _).mono ?_; rintro e w' ⟨rfl, rfl⟩) | (go_at_call 25; refine (rgood_any _ _).mono ?_; rintro e w' ⟨rfl, rfl⟩) | (go_at_call 26; refine (amount_any _ _).mono ?_; rintro e w' ⟨rfl, rfl⟩) | (go_at_call 27; refine (period_any _ _).mono ?_; rintro e w' ⟨rfl, rfl⟩) | (go_at_call 30; refine (rperiod_any _ _).mono ?_; rintro e w' ⟨rfl, rfl⟩) | (go_at_call 29; refine (rgd_any _ _).mono ?_; rintro e w' ⟨rfl, rfl⟩) | (go_at_call 28; refine (compare_any _ _ _).mono ?_; rintro e w' ⟨rfl, rfl⟩))
        go_ret2
        exact ⟨ret2 (by rw [unhide HV]; rfl) (by rw [unhide HB]; rfl), rfl⟩
      · have gX := amount_t hx
        have gP := period_t hp
        by_cases h0 : 0 ≤ q
        · by_cases h1 : q ≤ p
          · have gM := mul_bd31 gX.1 h0 gX.2 (by omega)
            have gD := div_bd gM.1 gP.1
            have HB := hide (show shareB x q p = true by simp [shareB, hx, hp, h0, h1])
            have HV := hide (show shareV x q p = x * q / p by simp [shareV, shareB, hx, hp, h0, h1])
            go_enter Try.func21, Try.ntmps21
            go_wp2_with (first | (go_at_call 17; refine (good_any _ _).mono ?_; rintro e w' ⟨rfl, rfl⟩) | (go_at_call 25; refine (rgood_any _ _).mono ?_; rintro e w' ⟨rfl, rfl⟩) | (go_at_call 26; refine (amount_any _ _).mono ?_; rintro e w' ⟨rfl, rfl⟩) | (go_at_call 27; refine (period_any _ _).mono ?_; rintro e w' ⟨rfl, rfl⟩) | (go_at_call 30; refine (rperiod_any _ _).mono ?_; rintro e w' ⟨rfl, rfl⟩) | (go_at_call 29; refine (rgd_any _ _).mono ?_; rintro e w' ⟨rfl, rfl⟩) | (go_at_call 28; refine (compare_any _ _ _).mono ?_; rintro e w' ⟨rfl, rfl⟩))
            go_ret2
            exact ⟨ret2 (by rw [unhide HV]; rfl) (by rw [unhide HB]; rfl), rfl⟩
          · have HB := hide (show shareB x q p = false by simp [shareB, hx, hp, h0, h1])
            have HV := hide (show shareV x q p = 0 by simp [shareV, shareB, hx, hp, h0, h1])
            go_enter Try.func21, Try.ntmps21
            go_wp2_with (first | (go_at_call 17; refine (good_any _ _).mono ?_; rintro e w' ⟨rfl, rfl⟩) | (go_at_call 25; refine (rgood_any _ _).mono ?_; rintro e w' ⟨rfl, rfl⟩) | (go_at_call 26; refine (amount_any _ _).mono ?_; rintro e w' ⟨rfl, rfl⟩) | (go_at_call 27; refine (period_any _ _).mono ?_; rintro e w' ⟨rfl, rfl⟩) | (go_at_call 30; refine (rperiod_any _ _).mono ?_; rintro e w' ⟨rfl, rfl⟩) | (go_at_call 29; refine (rgd_any _ _).mono ?_; rintro e w' ⟨rfl, rfl⟩) | (go_at_call 28; refine (compare_any _ _ _).mono ?_; rintro e w' ⟨rfl, rfl⟩))
            go_ret2
            exact ⟨ret2 (by rw [unhide HV]; rfl) (by rw [unhide HB]; rfl), rfl⟩
        · have HB := hide (show shareB x q p = false by simp [shareB, hx, hp, h0])
          have HV := hide (show shareV x q p = 0 by simp [shareV, shareB, hx, hp, h0])
          go_enter Try.func21, Try.ntmps21
          go_wp2_with (first | (go_at_call 17; refine (good_any _ _).mono ?_; rintro e w' ⟨rfl, rfl⟩) | (go_at_call 25; refine (rgood_any _ _).mono ?_; rintro e w' ⟨rfl, rfl⟩) | (go_at_call 26; refine (amount_any _ _).mono ?_; rintro e w' ⟨rfl, rfl⟩) | (go_at_call 27; refine (period_any _ _).mono ?_; rintro e w' ⟨rfl, rfl⟩) | (go_at_call 30; refine (rperiod_any _ _).mono ?_; rintro e w' ⟨rfl, rfl⟩) | (go_at_call 29; refine (rgd_any _ _).mono ?_; rintro e w' ⟨rfl, rfl⟩) | (go_at_call 28; refine (compare_any _ _ _).mono ?_; rintro e w' ⟨rfl, rfl⟩))
          go_ret2
          exact ⟨ret2 (by rw [unhide HV]; rfl) (by rw [unhide HB]; rfl), rfl⟩

set_option maxHeartbeats 800000 in
theorem rcmp_any (a b c d : Int) (w : World) :
    Calls Try.prog 22 #[.int .i64 a, .int .i64 b, .int .i64 c, .int .i64 d] w fun e w' => e = .returned (.tuple #[.int .i64 (cmpV a b c d), .bool (cmpB a b c d)]) ∧ w' = w := by
  by_cases x0 : a < 0
  · have hx : amount a = false := by simp [amount]; omega
    have HB := hide (show cmpB a b c d = false by simp [cmpB, hx])
    have HV := hide (show cmpV a b c d = 0 by simp [cmpV, cmpB, hx])
    go_enter Try.func22, Try.ntmps22
    go_wp2_with (first | (go_at_call 17; refine (good_any _ _).mono ?_; rintro e w' ⟨rfl, rfl⟩) | (go_at_call 25; refine (rgood_any _ _).mono ?_; rintro e w' ⟨rfl, rfl⟩) | (go_at_call 26; refine (amount_any _ _).mono ?_; rintro e w' ⟨rfl, rfl⟩) | (go_at_call 27; refine (period_any _ _).mono ?_; rintro e w' ⟨rfl, rfl⟩) | (go_at_call 30; refine (rperiod_any _ _).mono ?_; rintro e w' ⟨rfl, rfl⟩) | (go_at_call 29; refine (rgd_any _ _).mono ?_; rintro e w' ⟨rfl, rfl⟩) | (go_at_call 28; refine (compare_any _ _ _).mono ?_; rintro e w' ⟨rfl, rfl⟩))
    go_ret2
    exact ⟨ret2 (by rw [unhide HV]; rfl) (by rw [unhide HB]; rfl), rfl⟩
  · by_cases x1 : 2147483648 < a
    · have hx : amount a = false := by simp [amount]; omega
      have HB := hide (show cmpB a b c d = false by simp [cmpB, hx])
      have HV := hide (show cmpV a b c d = 0 by simp [cmpV, cmpB, hx])
      go_enter Try.func22, Try.ntmps22
      go_wp2_with (first | (go_at_call 17; refine (good_any _ _).mono ?_; rintro e w' ⟨rfl, rfl⟩) | (go_at_call 25; refine (rgood_any _ _).mono ?_; rintro e w' ⟨rfl, rfl⟩) | (go_at_call 26; refine (amount_any _ _).mono ?_; rintro e w' ⟨rfl, rfl⟩) | (go_at_call 27; refine (period_any _ _).mono ?_; rintro e w' ⟨rfl, rfl⟩) | (go_at_call 30; refine (rperiod_any _ _).mono ?_; rintro e w' ⟨rfl, rfl⟩) | (go_at_call 29; refine (rgd_any _ _).mono ?_; rintro e w' ⟨rfl, rfl⟩) | (go_at_call 28; refine (compare_any _ _ _).mono ?_; rintro e w' ⟨rfl, rfl⟩))
      go_ret2
      exact ⟨ret2 (by rw [unhide HV]; rfl) (by rw [unhide HB]; rfl), rfl⟩
    · have ha : amount a = true := by simp [amount]; omega
      by_cases y0 : c < 0
      · have hx : amount c = false := by simp [amount]; omega
        have HB := hide (show cmpB a b c d = false by simp [cmpB, hx])
        have HV := hide (show cmpV a b c d = 0 by simp [cmpV, cmpB, hx])
        go_enter Try.func22, Try.ntmps22
        go_wp2_with (first | (go_at_call 17; refine (good_any _ _).mono ?_; rintro e w' ⟨rfl, rfl⟩) | (go_at_call 25; refine (rgood_any _ _).mono ?_; rintro e w' ⟨rfl, rfl⟩) | (go_at_call 26; refine (amount_any _ _).mono ?_; rintro e w' ⟨rfl, rfl⟩) | (go_at_call 27; refine (period_any _ _).mono ?_; rintro e w' ⟨rfl, rfl⟩) | (go_at_call 30; refine (rperiod_any _ _).mono ?_; rintro e w' ⟨rfl, rfl⟩) | (go_at_call 29; refine (rgd_any _ _).mono ?_; rintro e w' ⟨rfl, rfl⟩) | (go_at_call 28; refine (compare_any _ _ _).mono ?_; rintro e w' ⟨rfl, rfl⟩))
        go_ret2
        exact ⟨ret2 (by rw [unhide HV]; rfl) (by rw [unhide HB]; rfl), rfl⟩
      · by_cases y1 : 2147483648 < c
        · have hx : amount c = false := by simp [amount]; omega
          have HB := hide (show cmpB a b c d = false by simp [cmpB, hx])
          have HV := hide (show cmpV a b c d = 0 by simp [cmpV, cmpB, hx])
          go_enter Try.func22, Try.ntmps22
          go_wp2_with (first | (go_at_call 17; refine (good_any _ _).mono ?_; rintro e w' ⟨rfl, rfl⟩) | (go_at_call 25; refine (rgood_any _ _).mono ?_; rintro e w' ⟨rfl, rfl⟩) | (go_at_call 26; refine (amount_any _ _).mono ?_; rintro e w' ⟨rfl, rfl⟩) | (go_at_call 27; refine (period_any _ _).mono ?_; rintro e w' ⟨rfl, rfl⟩) | (go_at_call 30; refine (rperiod_any _ _).mono ?_; rintro e w' ⟨rfl, rfl⟩) | (go_at_call 29; refine (rgd_any _ _).mono ?_; rintro e w' ⟨rfl, rfl⟩) | (go_at_call 28; refine (compare_any _ _ _).mono ?_; rintro e w' ⟨rfl, rfl⟩))
          go_ret2
          exact ⟨ret2 (by rw [unhide HV]; rfl) (by rw [unhide HB]; rfl), rfl⟩
        · have hc : amount c = true := by simp [amount]; omega
          cases hb : period b
          · have HB := hide (show cmpB a b c d = false by simp [cmpB, hb])
            have HV := hide (show cmpV a b c d = 0 by simp [cmpV, cmpB, hb])
            go_enter Try.func22, Try.ntmps22
            go_wp2_with (first | (go_at_call 17; refine (good_any _ _).mono ?_; rintro e w' ⟨rfl, rfl⟩) | (go_at_call 25; refine (rgood_any _ _).mono ?_; rintro e w' ⟨rfl, rfl⟩) | (go_at_call 26; refine (amount_any _ _).mono ?_; rintro e w' ⟨rfl, rfl⟩) | (go_at_call 27; refine (period_any _ _).mono ?_; rintro e w' ⟨rfl, rfl⟩) | (go_at_call 30; refine (rperiod_any _ _).mono ?_; rintro e w' ⟨rfl, rfl⟩) | (go_at_call 29; refine (rgd_any _ _).mono ?_; rintro e w' ⟨rfl, rfl⟩) | (go_at_call 28; refine (compare_any _ _ _).mono ?_; rintro e w' ⟨rfl, rfl⟩))
            go_ret2
            exact ⟨ret2 (by rw [unhide HV]; rfl) (by rw [unhide HB]; rfl), rfl⟩
          · cases hd : period d
            · have HB := hide (show cmpB a b c d = false by simp [cmpB, hd])
              have HV := hide (show cmpV a b c d = 0 by simp [cmpV, cmpB, hd])
              go_enter Try.func22, Try.ntmps22
              go_wp2_with (first | (go_at_call 17; refine (good_any _ _).mono ?_; rintro e w' ⟨rfl, rfl⟩) | (go_at_call 25; refine (rgood_any _ _).mono ?_; rintro e w' ⟨rfl, rfl⟩) | (go_at_call 26; refine (amount_any _ _).mono ?_; rintro e w' ⟨rfl, rfl⟩) | (go_at_call 27; refine (period_any _ _).mono ?_; rintro e w' ⟨rfl, rfl⟩) | (go_at_call 30; refine (rperiod_any _ _).mono ?_; rintro e w' ⟨rfl, rfl⟩) | (go_at_call 29; refine (rgd_any _ _).mono ?_; rintro e w' ⟨rfl, rfl⟩) | (go_at_call 28; refine (compare_any _ _ _).mono ?_; rintro e w' ⟨rfl, rfl⟩))
              go_ret2
              exact ⟨ret2 (by rw [unhide HV]; rfl) (by rw [unhide HB]; rfl), rfl⟩
            · have gA := amount_t ha
              have gB := period_t hb
              have gC := amount_t hc
              have gD := period_t hd
              have g1 := mul_bd31 gA.1 (show 0 ≤ d by omega) gA.2 gD.2
              have g2 := mul_bd31 gC.1 (show 0 ≤ b by omega) gC.2 gB.2
              have HB := hide (show cmpB a b c d = true by simp [cmpB, ha, hb, hc, hd])
              by_cases h1 : a * d < c * b
              · have HV := hide (show cmpV a b c d = -1 by simp [cmpV, cmpB, cmpOf, ha, hb, hc, hd, h1])
                go_enter Try.func22, Try.ntmps22
                go_wp2_with (first | (go_at_call 17; refine (good_any _ _).mono ?_; rintro e w' ⟨rfl, rfl⟩) | (go_at_call 25; refine (rgood_any _ _).mono ?_; rintro e w' ⟨rfl, rfl⟩) | (go_at_call 26; refine (amount_any _ _).mono ?_; rintro e w' ⟨rfl, rfl⟩) | (go_at_call 27; refine (period_any _ _).mono ?_; rintro e w' ⟨rfl, rfl⟩) | (go_at_call 30; refine (rperiod_any _ _).mono ?_; rintro e w' ⟨rfl, rfl⟩) | (go_at_call 29; refine (rgd_any _ _).mono ?_; rintro e w' ⟨rfl, rfl⟩) | (go_at_call 28; refine (compare_any _ _ _).mono ?_; rintro e w' ⟨rfl, rfl⟩))
                go_ret2
                exact ⟨ret2 (by rw [unhide HV]; rfl) (by rw [unhide HB]; rfl), rfl⟩
              · by_cases h2 : c * b < a * d
                · have HV := hide (show cmpV a b c d = 1 by simp [cmpV, cmpB, cmpOf, ha, hb, hc, hd, h1, h2])
                  go_enter Try.func22, Try.ntmps22
                  go_wp2_with (first | (go_at_call 17; refine (good_any _ _).mono ?_; rintro e w' ⟨rfl, rfl⟩) | (go_at_call 25; refine (rgood_any _ _).mono ?_; rintro e w' ⟨rfl, rfl⟩) | (go_at_call 26; refine (amount_any _ _).mono ?_; rintro e w' ⟨rfl, rfl⟩) | (go_at_call 27; refine (period_any _ _).mono ?_; rintro e w' ⟨rfl, rfl⟩) | (go_at_call 30; refine (rperiod_any _ _).mono ?_; rintro e w' ⟨rfl, rfl⟩) | (go_at_call 29; refine (rgd_any _ _).mono ?_; rintro e w' ⟨rfl, rfl⟩) | (go_at_call 28; refine (compare_any _ _ _).mono ?_; rintro e w' ⟨rfl, rfl⟩))
                  go_ret2
                  exact ⟨ret2 (by rw [unhide HV]; rfl) (by rw [unhide HB]; rfl), rfl⟩
                · have HV := hide (show cmpV a b c d = 0 by simp [cmpV, cmpB, cmpOf, ha, hb, hc, hd, h1, h2])
                  go_enter Try.func22, Try.ntmps22
                  go_wp2_with (first | (go_at_call 17; refine (good_any _ _).mono ?_; rintro e w' ⟨rfl, rfl⟩) | (go_at_call 25; refine (rgood_any _ _).mono ?_; rintro e w' ⟨rfl, rfl⟩) | (go_at_call 26; refine (amount_any _ _).mono ?_; rintro e w' ⟨rfl, rfl⟩) | (go_at_call 27; refine (period_any _ _).mono ?_; rintro e w' ⟨rfl, rfl⟩) | (go_at_call 30; refine (rperiod_any _ _).mono ?_; rintro e w' ⟨rfl, rfl⟩) | (go_at_call 29; refine (rgd_any _ _).mono ?_; rintro e w' ⟨rfl, rfl⟩) | (go_at_call 28; refine (compare_any _ _ _).mono ?_; rintro e w' ⟨rfl, rfl⟩))
                  go_ret2
                  exact ⟨ret2 (by rw [unhide HV]; rfl) (by rw [unhide HB]; rfl), rfl⟩

end Con
end Go.Proofs.Ytfcgdjcjmmmejaa
