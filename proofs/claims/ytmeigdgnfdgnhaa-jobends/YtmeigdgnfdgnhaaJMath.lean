/- Steps: plain mathematics (without their texts). Of no program. -/
namespace Go.Proofs.Ytmeigdgnfdgnhaa.Pm
set_option linter.unusedVariables false
set_option linter.unusedSimpArgs false
/-- A step: which semaphore, how many ticks. -/
abbrev St := Int × Int
def goodS (s : St) : Bool := decide (0 ≤ s.1) && decide (s.1 ≤ 8) && decide (1 ≤ s.2) && decide (s.2 ≤ 2147483648)
def good (l : List St) : Bool := decide (1 ≤ l.length) && decide (l.length ≤ 8) && l.all goodS
def sumN : List St → Int
  | [] => 0
  | s :: l => s.2 + sumN l
def cntS : List St → Nat
  | [] => 0
  | s :: l => (if s.1 = 0 then 0 else 1) + cntS l
def total (l : List St) : Int := if good l = true then sumN l else 0
def holds (l : List St) : Nat := if good l = true then cntS l else 0
def fits (l : List St) (m : Nat) : Bool := good l && l.all fun s => decide (s.1 ≤ (m : Int))
theorem goodS_iff (s : St) : goodS s = true ↔ (0 ≤ s.1 ∧ s.1 ≤ 8) ∧ 1 ≤ s.2 ∧ s.2 ≤ 2147483648 := by
  unfold goodS; simp only [Bool.and_eq_true, decide_eq_true_eq]; omega
theorem good_iff (l : List St) : good l = true ↔ (1 ≤ l.length ∧ l.length ≤ 8) ∧ ∀ s ∈ l, goodS s = true := by
  unfold good; simp only [Bool.and_eq_true, decide_eq_true_eq, List.all_eq_true]

theorem sum_app (p q : List St) : sumN (p ++ q) = sumN p + sumN q := by
  induction p with
  | nil => simp [sumN]
  | cons x p ih => simp [sumN, ih]; omega
theorem cnt_app (p q : List St) : cntS (p ++ q) = cntS p + cntS q := by
  induction p with
  | nil => simp [cntS]
  | cons x p ih => simp [cntS, ih]; omega
theorem good_app {p q : List St} (hp : good p = true) (hq : good q = true) (hl : p.length + q.length ≤ 8) : good (p ++ q) = true := by
  rw [good_iff] at *
  refine ⟨by rw [List.length_append]; omega, ?_⟩
  intro x hx
  rcases List.mem_append.1 hx with h | h
  · exact hp.2 x h
  · exact hq.2 x h
theorem sum_ge {p : List St} (h : ∀ x ∈ p, goodS x = true) : (p.length : Int) ≤ sumN p ∧ sumN p ≤ p.length * 2147483648 := by
  induction p with
  | nil => simp [sumN]
  | cons x p ih =>
    have h1 := (goodS_iff x).1 (h x List.mem_cons_self)
    have h2 := ih fun y hy => h y (List.mem_cons_of_mem _ hy)
    simp only [sumN, List.length_cons]; omega
theorem cnt_le (p : List St) : cntS p ≤ p.length := by
  induction p with
  | nil => simp [cntS]
  | cons x p ih => simp only [cntS, List.length_cons]; split <;> omega
/-- Step by step. -/
theorem take_snoc (l : List St) (k : Nat) (x : St) (h : l[k]? = some x) : l.take (k + 1) = l.take k ++ [x] := by
  rw [List.take_add_one, h]; rfl
theorem sum_snoc (l : List St) (k : Nat) (x : St) (h : l[k]? = some x) : sumN (l.take (k + 1)) = sumN (l.take k) + x.2 := by
  rw [take_snoc l k x h, sum_app]; simp [sumN]
theorem cnt_snoc (l : List St) (k : Nat) (x : St) (h : l[k]? = some x) : cntS (l.take (k + 1)) = cntS (l.take k) + (if x.1 = 0 then 0 else 1) := by
  rw [take_snoc l k x h, cnt_app]; simp [cntS]
theorem sum_bound {l : List St} (h : good l = true) (k : Nat) : 0 ≤ sumN (l.take k) ∧ sumN (l.take k) ≤ 17179869184 := by
  obtain ⟨⟨h1, h2⟩, h3⟩ := (good_iff l).1 h
  have := sum_ge (p := l.take k) fun x hx => h3 x (List.mem_of_mem_take hx)
  rw [List.length_take] at this
  omega
theorem good_at {l : List St} (h : good l = true) {k : Nat} {x : St} (hx : l[k]? = some x) : (0 ≤ x.1 ∧ x.1 ≤ 8) ∧ 1 ≤ x.2 ∧ x.2 ≤ 2147483648 :=
  (goodS_iff x).1 (((good_iff l).1 h).2 x (List.mem_of_getElem? hx))
end Go.Proofs.Ytmeigdgnfdgnhaa.Pm
