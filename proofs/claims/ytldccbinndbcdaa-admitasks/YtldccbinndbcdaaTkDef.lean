/- tick: what each call answers, as plain numbers. -/
import Derived.Test.YtldccbinndbcdaaChecked
import Derived.WalkKit
import Derived.ProofKit
import Derived.OpenShut
namespace Go.Proofs.Ytldccbinndbcdaa.Tk
open Go.RowKit
set_option linter.unusedVariables false
def good (t : Int) : Bool := decide (0 ≤ t ∧ t ≤ 4611686018427387904)
theorem hide {p : Prop} (h : p) : Hid p := h
theorem unhide {p : Prop} (h : Hid p) : p := h.out
theorem good_t {t : Int} (h : good t = true) : 0 ≤ t ∧ t ≤ 4611686018427387904 := by simpa [good] using h
theorem good_f {t : Int} (h : good t = false) : t < 0 ∨ 4611686018427387904 < t := by
  simp [good] at h; omega
def amount (t : Int) : Bool := decide (0 ≤ t ∧ t ≤ 2147483648)
theorem amount_t {t : Int} (h : amount t = true) : 0 ≤ t ∧ t ≤ 2147483648 := by simpa [amount] using h
theorem amount_f {t : Int} (h : amount t = false) : t < 0 ∨ 2147483648 < t := by
  simp [amount] at h; omega
def period (t : Int) : Bool := decide (1 ≤ t ∧ t ≤ 2147483648)
theorem period_t {t : Int} (h : period t = true) : 1 ≤ t ∧ t ≤ 2147483648 := by simpa [period] using h
theorem period_f {t : Int} (h : period t = false) : t < 1 ∨ 2147483648 < t := by
  simp [period] at h; omega
def addB (a b : Int) : Bool := good a && good b && decide (b ≤ 4611686018427387904 - a)
def addV (a b : Int) : Int := if addB a b then a + b else 0
def subB (a b : Int) : Bool := good a && good b && decide (b ≤ a)
def subV (a b : Int) : Int := if subB a b then a - b else 0
def mulB (a b : Int) : Bool := good a && good b && decide (a * b ≤ 4611686018427387904)
def mulV (a b : Int) : Int := if mulB a b then a * b else 0
def shareB (x q p : Int) : Bool := amount x && period p && decide (0 ≤ q) && decide (q ≤ p)
def shareV (x q p : Int) : Int := if shareB x q p then x * q / p else 0
def cmpB (a b c d : Int) : Bool := amount a && period b && amount c && period d
def cmpOf (x y : Int) : Int := if x < y then -1 else if y < x then 1 else 0
def cmpV (a b c d : Int) : Int := if cmpB a b c d then cmpOf (a * d) (c * b) else 0
def winB (x p : Int) : Bool := good x && period p
def winV (x p : Int) : Int := if winB x p then x / p else 0
def nextOf (t d p : Int) : Int := if t < d then d else d + ((t - d) / p + 1) * p
def upB (t d p : Int) : Bool := good t && good d && period p && good (nextOf t d p)
def upV (t d p : Int) : Int := if upB t d p then nextOf t d p else 0
theorem mul_bd {a b A B : Int} (ha : 0 ≤ a) (hb : 0 ≤ b) (hA : a ≤ A) (hB : b ≤ B) : 0 ≤ a * b ∧ a * b ≤ A * B :=
  ⟨Int.mul_nonneg ha hb, Int.mul_le_mul hA hB hb (by omega)⟩
theorem mul_bd31 {a b : Int} (ha : 0 ≤ a) (hb : 0 ≤ b) (hA : a ≤ 2147483648) (hB : b ≤ 2147483648) : 0 ≤ a * b ∧ a * b ≤ 4611686018427387904 := by
  have := mul_bd ha hb hA hB; omega
theorem div_bd {x p : Int} (hx : 0 ≤ x) (hp : 1 ≤ p) : 0 ≤ x / p ∧ x / p ≤ x :=
  ⟨Int.ediv_nonneg hx (by omega), Int.ediv_le_self _ hx⟩
theorem quo_lt {a b : Int} (ha : 1 ≤ a) : (b ≤ 4611686018427387904 / a) ↔ a * b ≤ 4611686018427387904 := by
  rw [Int.le_ediv_iff_mul_le (by omega), Int.mul_comm]
theorem next_bd {t d p : Int} (hd : 0 ≤ d) (hdt : d ≤ t) (hp : 1 ≤ p) :
    0 ≤ (t - d) / p ∧ (t - d) / p ≤ t - d ∧ 0 ≤ ((t - d) / p + 1) * p ∧ ((t - d) / p + 1) * p ≤ t - d + p := by
  have h1 := div_bd (show 0 ≤ t - d by omega) hp
  have h2 : (t - d) / p * p ≤ t - d := Int.ediv_mul_le _ (by omega)
  have h3 : ((t - d) / p + 1) * p = (t - d) / p * p + p := by rw [Int.add_mul, Int.one_mul]
  have h4 : 0 ≤ (t - d) / p * p := Int.mul_nonneg h1.1 (by omega)
  omega
theorem ret2 {a b : Value} {c d : Value} (h : a = c) (h' : b = d) : Ending.returned (.tuple #[a, b]) = .returned (.tuple #[c, d]) := by rw [h, h']
theorem quo_lt2 {a b : Int} (hb : 1 ≤ b) : (a ≤ 4611686018427387904 / b) ↔ a * b ≤ 4611686018427387904 := by
  rw [Int.le_ediv_iff_mul_le (by omega)]
end Go.Proofs.Ytldccbinndbcdaa.Tk
