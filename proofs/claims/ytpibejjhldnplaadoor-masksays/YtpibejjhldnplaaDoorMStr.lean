/- What String answers: the texts of the runs, commas between. -/
import Derived.Test.YtpibejjhldnplaaDoorMList
namespace Go.Proofs.YtpibejjhldnplaaDoor.Mk
/-- The runs from k on, as text, at most n of them. -/
def runsFrom (m : Nat) : Nat → Nat → List (List UInt8)
  | 0, _ => []
  | n + 1, k => match onesFrom m k with
    | [] => []
    | j :: _ => runTx j (endN m j - 1) :: runsFrom m n (endN m j)
def runs (m : Nat) : List (List UInt8) := runsFrom m 65 0
/-- What String answers. -/
def strN (m : Nat) : List UInt8 := if m = 0 then [110, 111, 110, 101] else Lib.join (runs m) [44]
/-- The end of a run is behind its beginning. -/
theorem endN_gt {m j : Nat} (hm : m < 18446744073709551616) (hj : j < 64) (hb : m.testBit j = true) : j < endN m j := by
  unfold endN
  rw [firstN_eq _ _ (compl_lt m)]
  show j < if (headOf (onesFrom (18446744073709551615 - m) j)).2 = true then _ else _
  cases hq : onesFrom (18446744073709551615 - m) j with
  | nil => simpa [headOf] using hj
  | cons i l =>
    obtain ⟨h1, h2, h3, _, _⟩ := onesFrom_cons hq
    rw [compl_bit m i hm] at h3
    simp only [headOf, if_true]
    show j < (headOf (onesFrom (18446744073709551615 - m) ((j : Int).toNat))).1
    rw [show ((j : Int).toNat) = j from rfl, hq]
    simp only [headOf]
    rcases Nat.lt_or_ge j i with h | h
    · exact h
    · have e : i = j := by omega
      subst e
      rw [hb] at h3
      simp at h3
theorem runsFrom_nil {m n k : Nat} (h : onesFrom m k = []) : runsFrom m n k = [] := by
  cases n with
  | zero => rfl
  | succ n => simp [runsFrom, h]
theorem runsFrom_cons {m n k j : Nat} {l : List Nat} (h : onesFrom m k = j :: l) : runsFrom m (n + 1) k = runTx j (endN m j - 1) :: runsFrom m n (endN m j) := by
  simp [runsFrom, h]
theorem runsFrom_len (m : Nat) (hm : m < 18446744073709551616) : ∀ n k, k ≤ 64 → (runsFrom m n k).length ≤ 64 - k
  | 0, k, _ => by simp [runsFrom]
  | n + 1, k, hk => by
    cases hq : onesFrom m k with
    | nil => rw [runsFrom_nil hq]; simp
    | cons j l =>
      obtain ⟨h1, h2, h3, _, _⟩ := onesFrom_cons hq
      have := endN_gt hm h2 h3
      have ih := runsFrom_len m hm n (endN m j) (endN_le m j)
      rw [runsFrom_cons hq, List.length_cons]; omega
theorem runTx_len {a b : Nat} (ha : a < 64) (hb : b < 64) : (runTx a b).length ≤ 5 := by
  have := dec_le a ha
  have := dec_le b hb
  unfold runTx; split <;> simp <;> omega
theorem runsFrom_mem (m : Nat) (hm : m < 18446744073709551616) : ∀ n k x, x ∈ runsFrom m n k → x.length ≤ 5
  | 0, k, x, h => by simp [runsFrom] at h
  | n + 1, k, x, h => by
    cases hq : onesFrom m k with
    | nil => rw [runsFrom_nil hq] at h; cases h
    | cons j l =>
      obtain ⟨h1, h2, h3, _, _⟩ := onesFrom_cons hq
      rw [runsFrom_cons hq] at h
      have := endN_gt hm h2 h3
      have := endN_le m j
      rcases List.mem_cons.1 h with rfl | h
      · exact runTx_len h2 (by omega)
      · exact runsFrom_mem m hm n _ x h
end Go.Proofs.YtpibejjhldnplaaDoor.Mk
