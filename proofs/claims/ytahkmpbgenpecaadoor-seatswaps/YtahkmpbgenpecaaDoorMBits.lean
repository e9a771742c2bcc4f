/- Plain mathematics of sets in a word: bits, counting, the least from a number on. Of no program. -/
import Derived.Lib.TrailingZeros
import Derived.Lib.BitFns
namespace Go.Proofs.YtahkmpbgenpecaaDoor.Mk
set_option linter.unusedVariables false

/-- The set of i alone; the empty one of a number that is in none. -/
def onlyN (i : Int) : Nat := if 0 ≤ i ∧ i < 64 then 2 ^ i.toNat else 0
/-- The numbers below n. -/
def fullN (n : Int) : Nat := 2 ^ (min (max n 0) 64).toNat - 1
def withN (m : Nat) (i : Int) : Nat := m ||| onlyN i
def withoutN (m : Nat) (i : Int) : Nat := m &&& (18446744073709551615 - onlyN i)
def restN (m : Nat) (f : Int) : Nat := m &&& (18446744073709551615 - fullN f)
def hasN (m : Nat) (i : Int) : Bool := (m &&& onlyN i) != 0
/-- Those from k on, rising. -/
def onesFrom (m k : Nat) : List Nat := (List.range' k (64 - k)).filter m.testBit
def ones (m : Nat) : List Nat := onesFrom m 0
def lenN (m : Nat) : Nat := (ones m).length
def headOf : List Nat → Nat × Bool
  | [] => (0, false)
  | j :: _ => (j, true)

theorem onlyN_lt (i : Int) : onlyN i < 18446744073709551616 := by
  unfold onlyN; split
  · rename_i h
    have : 2 ^ i.toNat < 2 ^ 64 := Nat.pow_lt_pow_right (by decide) (by omega)
    simpa using this
  · decide
theorem onlyN_bit (i : Int) (j : Nat) : (onlyN i).testBit j = decide ((j : Int) = i ∧ j < 64) := by
  unfold onlyN; split
  · rename_i h
    rw [Nat.testBit_two_pow]
    congr 1; apply propext; constructor <;> intro h' <;> omega
  · rename_i h
    rw [Nat.zero_testBit]; symm; apply decide_eq_false; omega
theorem fullN_le (n : Int) : fullN n ≤ 18446744073709551615 := by
  unfold fullN
  have : 2 ^ (min (max n 0) 64).toNat ≤ 2 ^ 64 := Nat.pow_le_pow_right (by decide) (by omega)
  have e : (2 : Nat) ^ 64 = 18446744073709551616 := by decide
  omega
theorem fullN_bit (n : Int) (j : Nat) : (fullN n).testBit j = decide ((j : Int) < n ∧ j < 64) := by
  unfold fullN
  rw [Nat.testBit_two_pow_sub_one]
  congr 1; apply propext; constructor <;> intro h' <;> omega
theorem compl_bit (x j : Nat) (h : x < 18446744073709551616) : (18446744073709551615 - x).testBit j = (decide (j < 64) && !x.testBit j) := by
  have := Nat.testBit_two_pow_sub_succ (n := 64) (x := x) (by simpa using h) j
  rw [show (2 : Nat) ^ 64 - (x + 1) = 18446744073709551615 - x by have e : (2 : Nat) ^ 64 = 18446744073709551616 := by decide
                                                                  omega] at this
  exact this
theorem bit_lt {m j : Nat} (h : m < 18446744073709551616) (hb : m.testBit j = true) : j < 64 := by
  apply Nat.lt_of_not_le; intro hj
  have : m < 2 ^ j := Nat.lt_of_lt_of_le h (by have := Nat.pow_le_pow_right (n := 2) (by decide) hj; simpa using this)
  rw [Nat.testBit_lt_two_pow this] at hb
  cases hb
theorem withN_bit (m : Nat) (i : Int) (j : Nat) : (withN m i).testBit j = (m.testBit j || decide ((j : Int) = i ∧ j < 64)) := by
  unfold withN; rw [Nat.testBit_or, onlyN_bit]
theorem withoutN_bit (m : Nat) (i : Int) (j : Nat) (h : m < 18446744073709551616) : (withoutN m i).testBit j = (m.testBit j && !decide ((j : Int) = i)) := by
  unfold withoutN; rw [Nat.testBit_and, compl_bit _ _ (onlyN_lt i), onlyN_bit]
  by_cases hb : m.testBit j = true
  · have := bit_lt h hb
    simp [hb, this]
  · simp [Bool.not_eq_true] at hb; simp [hb]
theorem restN_bit (m : Nat) (f : Int) (j : Nat) (h : m < 18446744073709551616) : (restN m f).testBit j = (m.testBit j && decide (f ≤ (j : Int))) := by
  unfold restN; rw [Nat.testBit_and, compl_bit _ _ (by have := fullN_le f; omega), fullN_bit]
  by_cases hb : m.testBit j = true
  · have := bit_lt h hb
    by_cases hf : f ≤ (j : Int)
    · simp [hb, this, hf]
    · simp [hb, this, hf]; omega
  · simp [Bool.not_eq_true] at hb; simp [hb]
theorem and_lt {m : Nat} (x : Nat) (h : m < 18446744073709551616) : m &&& x < 18446744073709551616 := Nat.lt_of_le_of_lt Nat.and_le_left h
theorem withN_lt {m : Nat} (i : Int) (h : m < 18446744073709551616) : withN m i < 18446744073709551616 := by
  have := Nat.or_lt_two_pow (n := 64) (x := m) (y := onlyN i) (by simpa using h) (by simpa using onlyN_lt i)
  simpa [withN] using this
theorem withoutN_lt {m : Nat} (i : Int) (h : m < 18446744073709551616) : withoutN m i < 18446744073709551616 := and_lt _ h
theorem restN_lt {m : Nat} (i : Int) (h : m < 18446744073709551616) : restN m i < 18446744073709551616 := and_lt _ h
theorem hasN_bit (m : Nat) (i : Int) : hasN m i = decide (0 ≤ i ∧ i < 64 ∧ m.testBit i.toNat = true) := by
  unfold hasN
  by_cases h : 0 ≤ i ∧ i < 64 ∧ m.testBit i.toNat = true
  · rw [decide_eq_true h]
    simp only [bne_iff_ne, ne_eq]
    intro h0
    have e : (m &&& onlyN i).testBit i.toNat = true := by
      rw [Nat.testBit_and, onlyN_bit, h.2.2, decide_eq_true (by omega)]; rfl
    rw [h0, Nat.zero_testBit] at e
    cases e
  · rw [decide_eq_false h]
    simp only [bne_eq_false_iff_eq]
    apply Nat.eq_of_testBit_eq; intro j
    rw [Nat.testBit_and, onlyN_bit, Nat.zero_testBit]
    by_cases hj : (j : Int) = i ∧ j < 64
    · have e : i.toNat = j := by omega
      have : m.testBit j = false := by
        rw [e] at h
        rcases hb : m.testBit j with _ | _
        · rfl
        · exact absurd ⟨by omega, by omega, hb⟩ h
      rw [this]; rfl
    · rw [decide_eq_false hj, Bool.and_false]

/-- Two words with the same bits below 64 are one. -/
theorem word_ext {a b : Nat} (ha : a < 18446744073709551616) (hb : b < 18446744073709551616) (h : ∀ j, j < 64 → a.testBit j = b.testBit j) : a = b := by
  apply Nat.eq_of_testBit_eq; intro j
  by_cases hj : j < 64
  · exact h j hj
  · have e := fun (x : Nat) (hx : x < 18446744073709551616) => show x.testBit j = false by
      rcases hb : x.testBit j with _ | _
      · rfl
      · exact absurd (bit_lt hx hb) hj
    rw [e a ha, e b hb]

theorem onesFrom_step (m k : Nat) (h : k < 64) : onesFrom m k = if m.testBit k then k :: onesFrom m (k + 1) else onesFrom m (k + 1) := by
  unfold onesFrom
  rw [show 64 - k = (64 - (k + 1)) + 1 by omega, List.range'_succ, List.filter_cons]
theorem onesFrom_ge (m k : Nat) (h : 64 ≤ k) : onesFrom m k = [] := by
  unfold onesFrom; rw [show 64 - k = 0 by omega]; rfl
theorem mem_onesFrom {m k j : Nat} : j ∈ onesFrom m k ↔ k ≤ j ∧ j < 64 ∧ m.testBit j = true := by
  unfold onesFrom; rw [List.mem_filter, List.mem_range']
  constructor
  · rintro ⟨⟨i, hi, rfl⟩, hb⟩; exact ⟨by omega, by omega, hb⟩
  · rintro ⟨h1, h2, hb⟩; exact ⟨⟨j - k, by omega, by omega⟩, hb⟩
/-- The least that is there, from k on: it and what is behind it. -/
theorem onesFrom_first {m k j : Nat} (hk : k ≤ j) (hj : j < 64) (hb : m.testBit j = true) (hn : ∀ i, k ≤ i → i < j → m.testBit i = false) : onesFrom m k = j :: onesFrom m (j + 1) := by
  obtain ⟨d, rfl⟩ : ∃ d, j = k + d := ⟨j - k, by omega⟩
  induction d generalizing k with
  | zero => rw [onesFrom_step m k (by omega), if_pos (by simpa using hb)]; rfl
  | succ d ih =>
    rw [onesFrom_step m k (by omega), if_neg (by rw [hn k (Nat.le_refl _) (by omega)]; decide)]
    have := ih (k := k + 1) (by omega) (by omega) (by rw [show k + 1 + d = k + (d + 1) by omega]; exact hb) (fun i h1 h2 => hn i (by omega) (by omega))
    rw [this, show k + 1 + d = k + (d + 1) by omega]
theorem onesFrom_cons {m k j : Nat} {l : List Nat} (h : onesFrom m k = j :: l) : k ≤ j ∧ j < 64 ∧ m.testBit j = true ∧ l = onesFrom m (j + 1) ∧ ∀ i, k ≤ i → i < j → m.testBit i = false := by
  have hm : j ∈ onesFrom m k := by rw [h]; exact List.mem_cons_self
  obtain ⟨h1, h2, h3⟩ := mem_onesFrom.1 hm
  have key : ∀ d k, k + d = 64 → ∀ j l, onesFrom m k = j :: l → ∀ i, k ≤ i → i < j → m.testBit i = false := by
    intro d
    induction d with
    | zero => intro k hk j l h; rw [onesFrom_ge m k (by omega)] at h; cases h
    | succ d ih =>
      intro k hk j l h i h1 h2
      rw [onesFrom_step m k (by omega)] at h
      split at h
      · rename_i hb
        injection h with e1 e2
        omega
      · rename_i hb
        by_cases hi : i = k
        · subst hi; simpa using hb
        · exact ih (k + 1) (by omega) j l h i (by omega) h2
  have hn := key (64 - k) k (by omega) j l h
  refine ⟨h1, h2, h3, ?_, hn⟩
  rw [onesFrom_first h1 h2 h3 hn] at h
  injection h with _ e
  exact e.symm
theorem onesFrom_nil {m k : Nat} (h : onesFrom m k = []) (j : Nat) (h1 : k ≤ j) (h2 : j < 64) : m.testBit j = false := by
  rcases hb : m.testBit j with _ | _
  · rfl
  · have : j ∈ onesFrom m k := mem_onesFrom.2 ⟨h1, h2, hb⟩
    rw [h] at this; cases this

/-- What First answers. -/
def firstN (m : Nat) (f : Int) : Nat × Bool := if restN m f = 0 then (0, false) else (Lib.ctz 64 (restN m f), true)
theorem ctz_bits (x : Nat) (h0 : x ≠ 0) (h : x < 18446744073709551616) : Lib.ctz 64 x < 64 ∧ x.testBit (Lib.ctz 64 x) = true ∧ ∀ j, j < Lib.ctz 64 x → x.testBit j = false := by
  obtain ⟨q, hq, hc⟩ := Lib.ctzFrom_spec 64 x (by omega) (by simpa using h)
  have e : Lib.ctz 64 x = Lib.ctzFrom 64 x := by unfold Lib.ctz; rw [if_neg h0]
  rw [e]
  generalize Lib.ctzFrom 64 x = c at hq hc
  subst hq
  refine ⟨hc, ?_, fun j hj => ?_⟩
  · rw [Nat.mul_comm, Nat.testBit_mul_two_pow]
    simp [Nat.testBit_zero]
  · rw [Nat.mul_comm, Nat.testBit_mul_two_pow]
    simp; omega
theorem firstN_eq (m : Nat) (f : Int) (h : m < 18446744073709551616) : firstN m f = headOf (onesFrom m f.toNat) := by
  unfold firstN
  have hb := fun j => restN_bit m f j h
  split
  · rename_i h0
    have : onesFrom m f.toNat = [] := by
      apply List.eq_nil_iff_forall_not_mem.2
      intro j hj
      obtain ⟨h1, h2, h3⟩ := mem_onesFrom.1 hj
      have := hb j
      rw [h0, Nat.zero_testBit, h3, decide_eq_true (by omega)] at this
      cases this
    rw [this]; rfl
  · rename_i h0
    obtain ⟨h1, h2, h3⟩ := ctz_bits _ h0 (restN_lt f h)
    rw [hb, Bool.and_eq_true] at h2
    have h2b := of_decide_eq_true h2.2
    rw [onesFrom_first (j := Lib.ctz 64 (restN m f)) (by omega) h1 h2.1 (fun i h4 h5 => by
      have := h3 i h5
      rw [hb, decide_eq_true (by omega), Bool.and_true] at this
      exact this)]
    rfl

/- Counting. -/
theorem popAux_filter : ∀ (n x : Nat), Lib.popAux n x = ((List.range n).filter x.testBit).length
  | 0, x => rfl
  | n + 1, x => by
    rw [List.range_succ_eq_map, List.filter_cons]
    have e : ((List.range n).map Nat.succ).filter x.testBit = ((List.range n).filter (x / 2).testBit).map Nat.succ := by
      rw [List.filter_map]
      congr 1
      apply List.filter_congr
      intro i _
      show x.testBit (i + 1) = _
      rw [Nat.testBit_succ]
    rw [e]
    have ih := popAux_filter n (x / 2)
    have h0 : x.testBit 0 = decide (x % 2 = 1) := by rw [Nat.testBit_zero]
    rw [Lib.popAux, ih, h0]
    rcases Nat.mod_two_eq_zero_or_one x with h | h
    · simp [h]
    · simp [h]; omega
theorem lenN_pop (m : Nat) : lenN m = Lib.popAux 64 m := by
  rw [popAux_filter, lenN, ones, onesFrom, List.range_eq_range']
theorem popAux_split : ∀ (k n x : Nat), Lib.popAux (k + n) x = Lib.popAux k (x % 2 ^ k) + Lib.popAux n (x / 2 ^ k)
  | 0, n, x => by simp [Lib.popAux]
  | k + 1, n, x => by
    rw [show k + 1 + n = (k + n) + 1 by omega, Lib.popAux, popAux_split k n (x / 2), Lib.popAux]
    have e1 : x % 2 ^ (k + 1) % 2 = x % 2 := by
      rw [Nat.pow_succ, Nat.mul_comm]; exact Nat.mod_mul_right_mod x 2 (2 ^ k)
    have e2 : x % 2 ^ (k + 1) / 2 = x / 2 % 2 ^ k := by
      rw [Nat.pow_succ, Nat.mul_comm]; exact Nat.mod_mul_right_div_self x 2 (2 ^ k)
    have e3 : x / 2 ^ (k + 1) = x / 2 / 2 ^ k := by
      rw [Nat.pow_succ, Nat.mul_comm, Nat.div_div_eq_div_mul]
    rw [e1, e2, e3]; omega

/-- A mask's byte over and over. -/
def rep (b : Nat) : Nat → Nat
  | 0 => 0
  | n + 1 => b + 256 * rep b n
theorem and_byte (a b : Nat) : a &&& b = (a % 256 &&& b % 256) + 256 * (a / 256 &&& b / 256) := by
  have e1 : (a &&& b) % 256 = a % 256 &&& b % 256 := by simpa using Nat.and_mod_two_pow (a := a) (b := b) (n := 8)
  have e2 : (a &&& b) / 256 = a / 256 &&& b / 256 := by simpa using Nat.and_div_two_pow (a := a) (b := b) (n := 8)
  rw [← e1, ← e2]; omega
theorem and_rep (a b n : Nat) (hb : b < 256) : a &&& rep b (n + 1) = (a % 256 &&& b) + 256 * (a / 256 &&& rep b n) := by
  rw [and_byte a (rep b (n + 1)), rep, show (b + 256 * rep b n) % 256 = b by omega, show (b + 256 * rep b n) / 256 = rep b n by omega]
def s1 (n x : Nat) : Nat := (x / 2 &&& rep 85 n) + (x &&& rep 85 n)
def s2 (n x : Nat) : Nat := (x / 4 &&& rep 51 n) + (x &&& rep 51 n)
def s3 (n x : Nat) : Nat := (x / 16 + x) &&& rep 15 n
def p1 (b : Nat) : Nat := (b / 2 &&& 85) + (b &&& 85)
def p2 (b : Nat) : Nat := (b / 4 &&& 51) + (b &&& 51)
def p3 (b : Nat) : Nat := (b / 16 + b) &&& 15
theorem p1_top : ∀ b : Fin 256, ∀ t : Fin 2, ((b.val / 2 + 128 * t.val) &&& 85) = (b.val / 2 &&& 85) := by decide +kernel
theorem p2_top : ∀ b : Fin 256, ∀ t : Fin 4, ((b.val / 4 + 64 * t.val) &&& 51) = (b.val / 4 &&& 51) := by decide +kernel
theorem p1_lt : ∀ b : Fin 256, p1 b.val < 256 := by decide +kernel
theorem p2_lt : ∀ b : Fin 256, p2 (p1 b.val) < 69 := by decide +kernel
theorem p2_nib : ∀ b : Fin 256, p2 (p1 b.val) % 16 ≤ 4 ∧ p2 (p1 b.val) / 16 ≤ 4 := by decide +kernel
theorem p3_top : ∀ b : Fin 256, ∀ t : Fin 5, ((p2 (p1 b.val) / 16 + 16 * t.val + p2 (p1 b.val)) &&& 15) = p3 (p2 (p1 b.val)) := by decide +kernel
theorem p3_pop : ∀ b : Fin 256, p3 (p2 (p1 b.val)) = Lib.popAux 8 b.val := by decide +kernel
theorem p3_le : ∀ b : Fin 256, p3 (p2 (p1 b.val)) ≤ 8 := by decide +kernel
theorem s1_step (n x : Nat) : s1 (n + 1) x = p1 (x % 256) + 256 * s1 n (x / 256) := by
  unfold s1
  rw [and_rep _ 85 n (by decide), and_rep _ 85 n (by decide)]
  have e1 : x / 2 % 256 = x % 256 / 2 + 128 * (x / 256 % 2) := by omega
  have e2 : x / 2 / 256 = x / 256 / 2 := by omega
  have := p1_top ⟨x % 256, by omega⟩ ⟨x / 256 % 2, by omega⟩
  simp only at this
  rw [e1, e2, this, p1]; omega
theorem s2_step (n x : Nat) : s2 (n + 1) x = p2 (x % 256) + 256 * s2 n (x / 256) := by
  unfold s2
  rw [and_rep _ 51 n (by decide), and_rep _ 51 n (by decide)]
  have e1 : x / 4 % 256 = x % 256 / 4 + 64 * (x / 256 % 4) := by omega
  have e2 : x / 4 / 256 = x / 256 / 4 := by omega
  have := p2_top ⟨x % 256, by omega⟩ ⟨x / 256 % 4, by omega⟩
  simp only at this
  rw [e1, e2, this, p2]; omega
/-- The first two steps, byte by byte. -/
theorem s12_step (n x : Nat) : s2 (n + 1) (s1 (n + 1) x) = p2 (p1 (x % 256)) + 256 * s2 n (s1 n (x / 256)) := by
  have h := p1_lt ⟨x % 256, by omega⟩
  simp only at h
  rw [s2_step, s1_step, show (p1 (x % 256) + 256 * s1 n (x / 256)) % 256 = p1 (x % 256) by omega, show (p1 (x % 256) + 256 * s1 n (x / 256)) / 256 = s1 n (x / 256) by omega]
theorem s2_low (n x : Nat) : s2 n (s1 n x) % 16 ≤ 4 := by
  cases n with
  | zero => simp [s2, rep]
  | succ n =>
    have h := p2_nib ⟨x % 256, by omega⟩
    simp only at h
    rw [s12_step]; omega
theorem s123_step (n x : Nat) : s3 (n + 1) (s2 (n + 1) (s1 (n + 1) x)) = p3 (p2 (p1 (x % 256))) + 256 * s3 n (s2 n (s1 n (x / 256))) := by
  have h := p2_lt ⟨x % 256, by omega⟩
  have hn := p2_nib ⟨x % 256, by omega⟩
  have hl := s2_low n (x / 256)
  have ht := p3_top ⟨x % 256, by omega⟩ ⟨s2 n (s1 n (x / 256)) % 16, by omega⟩
  simp only at h hn ht
  rw [s12_step]
  generalize p2 (p1 (x % 256)) = a at h hn ht
  generalize s2 n (s1 n (x / 256)) = y at hl ht
  unfold s3
  rw [and_rep _ 15 n (by decide)]
  have e1 : ((a + 256 * y) / 16 + (a + 256 * y)) % 256 = a / 16 + 16 * (y % 16) + a := by omega
  have e2 : ((a + 256 * y) / 16 + (a + 256 * y)) / 256 = y / 16 + y := by omega
  rw [e1, e2, ht]
/-- bits.OnesCount64's own reckoning. -/
def popN (x : Nat) : Nat :=
  let x3 := s3 8 (s2 8 (s1 8 x))
  let x4 := x3 + x3 / 256
  let x5 := x4 + x4 / 65536
  let x6 := x5 + x5 / 4294967296
  x6 % 128
theorem s3_bytes (x : Nat) (h : x < 18446744073709551616) : ∃ c0 c1 c2 c3 c4 c5 c6 c7 : Nat, c0 ≤ 8 ∧ c1 ≤ 8 ∧ c2 ≤ 8 ∧ c3 ≤ 8 ∧ c4 ≤ 8 ∧ c5 ≤ 8 ∧ c6 ≤ 8 ∧ c7 ≤ 8 ∧
    s3 8 (s2 8 (s1 8 x)) = c0 + 256 * (c1 + 256 * (c2 + 256 * (c3 + 256 * (c4 + 256 * (c5 + 256 * (c6 + 256 * c7)))))) ∧ Lib.popAux 64 x = c0 + c1 + c2 + c3 + c4 + c5 + c6 + c7 := by
  have z : ∀ y, s3 0 (s2 0 (s1 0 y)) = 0 := fun y => by simp [s3, rep]
  have sp : ∀ n y, Lib.popAux (8 + n) y = Lib.popAux 8 (y % 256) + Lib.popAux n (y / 256) := fun n y => popAux_split 8 n y
  have b : ∀ y, p3 (p2 (p1 (y % 256))) ≤ 8 := fun y => p3_le ⟨y % 256, by omega⟩
  have q : ∀ y, Lib.popAux 8 (y % 256) = p3 (p2 (p1 (y % 256))) := fun y => (p3_pop ⟨y % 256, by omega⟩).symm
  have last : ∀ y, Lib.popAux 0 y = 0 := fun _ => rfl
  refine ⟨_, _, _, _, _, _, _, _, b x, b (x / 256), b (x / 256 / 256), b (x / 256 / 256 / 256), b (x / 256 / 256 / 256 / 256), b (x / 256 / 256 / 256 / 256 / 256), b (x / 256 / 256 / 256 / 256 / 256 / 256), b (x / 256 / 256 / 256 / 256 / 256 / 256 / 256), ?_, ?_⟩
  · rw [s123_step 7, s123_step 6, s123_step 5, s123_step 4, s123_step 3, s123_step 2, s123_step 1, s123_step 0, z]
    simp
  · rw [show (64 : Nat) = 8 + 56 from rfl, sp, show (56 : Nat) = 8 + 48 from rfl, sp, show (48 : Nat) = 8 + 40 from rfl, sp, show (40 : Nat) = 8 + 32 from rfl, sp, show (32 : Nat) = 8 + 24 from rfl, sp, show (24 : Nat) = 8 + 16 from rfl, sp, show (16 : Nat) = 8 + 8 from rfl, sp, show Lib.popAux 8 (x / 256 / 256 / 256 / 256 / 256 / 256 / 256) = Lib.popAux (8 + 0) (x / 256 / 256 / 256 / 256 / 256 / 256 / 256) from rfl, sp, last]
    simp only [q]; omega
theorem popN_eq (x : Nat) (h : x < 18446744073709551616) : popN x = lenN x := by
  obtain ⟨c0, c1, c2, c3, c4, c5, c6, c7, h0, h1, h2, h3, h4, h5, h6, h7, e, p⟩ := s3_bytes x h
  rw [lenN_pop, p, popN]
  simp only [e]
  have dv : ∀ a y k : Nat, a < k → (a + k * y) / k = y := fun a y k h => by
    rw [Nat.add_mul_div_left _ _ (by omega), Nat.div_eq_of_lt h, Nat.zero_add]
  rw [dv _ _ 256 (by omega)]
  have e4 : c0 + 256 * (c1 + 256 * (c2 + 256 * (c3 + 256 * (c4 + 256 * (c5 + 256 * (c6 + 256 * c7)))))) + (c1 + 256 * (c2 + 256 * (c3 + 256 * (c4 + 256 * (c5 + 256 * (c6 + 256 * c7)))))) = ((c0 + c1) + 256 * (c1 + c2)) + 65536 * ((c2 + c3) + 256 * (c3 + c4) + 65536 * ((c4 + c5) + 256 * (c5 + c6) + 65536 * ((c6 + c7) + 256 * c7))) := by
    clear h h0 h1 h2 h3 h4 h5 h6 h7 e p dv
    simp only [Nat.mul_add, ← Nat.mul_assoc]; omega
  rw [e4, dv _ _ 65536 (by omega)]
  have e5 : ((c0 + c1) + 256 * (c1 + c2)) + 65536 * ((c2 + c3) + 256 * (c3 + c4) + 65536 * ((c4 + c5) + 256 * (c5 + c6) + 65536 * ((c6 + c7) + 256 * c7))) + ((c2 + c3) + 256 * (c3 + c4) + 65536 * ((c4 + c5) + 256 * (c5 + c6) + 65536 * ((c6 + c7) + 256 * c7)))
      = ((c0 + c1 + c2 + c3) + 256 * (c1 + c2 + c3 + c4) + 65536 * (c2 + c3 + c4 + c5) + 16777216 * (c3 + c4 + c5 + c6)) + 4294967296 * ((c4 + c5 + c6 + c7) + 256 * (c5 + c6 + c7) + 65536 * (c6 + c7) + 16777216 * c7) := by
    clear h h0 h1 h2 h3 h4 h5 h6 h7 e p dv e4
    simp only [Nat.mul_add, ← Nat.mul_assoc]; omega
  rw [e5, dv _ _ 4294967296 (by omega)]
  have e6 : ((c0 + c1 + c2 + c3) + 256 * (c1 + c2 + c3 + c4) + 65536 * (c2 + c3 + c4 + c5) + 16777216 * (c3 + c4 + c5 + c6)) + 4294967296 * ((c4 + c5 + c6 + c7) + 256 * (c5 + c6 + c7) + 65536 * (c6 + c7) + 16777216 * c7) + ((c4 + c5 + c6 + c7) + 256 * (c5 + c6 + c7) + 65536 * (c6 + c7) + 16777216 * c7)
      = (c0 + c1 + c2 + c3 + c4 + c5 + c6 + c7) + 128 * (2 * (c1 + c2 + c3 + c4) + 512 * (c2 + c3 + c4 + c5) + 131072 * (c3 + c4 + c5 + c6) + 33554432 * ((c4 + c5 + c6 + c7) + 256 * (c5 + c6 + c7) + 65536 * (c6 + c7) + 16777216 * c7) + (2 * (c5 + c6 + c7) + 512 * (c6 + c7) + 131072 * c7)) := by
    clear h h0 h1 h2 h3 h4 h5 h6 h7 e p dv e4 e5
    simp only [Nat.mul_add, ← Nat.mul_assoc]; omega
  rw [e6, Nat.add_mul_mod_self_left, Nat.mod_eq_of_lt (by omega)]
theorem popN_bounds (x : Nat) (h : x < 18446744073709551616) : s3 8 (s2 8 (s1 8 x)) < 1157442765409226769 := by
  obtain ⟨c0, c1, c2, c3, c4, c5, c6, c7, h0, h1, h2, h3, h4, h5, h6, h7, e, p⟩ := s3_bytes x h
  omega
end Go.Proofs.YtahkmpbgenpecaaDoor.Mk
