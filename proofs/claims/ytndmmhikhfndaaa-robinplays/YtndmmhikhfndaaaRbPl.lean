/- Turns: plain mathematics, by the chapter's words. Of no program. -/
import Derived.RowKit
import Derived.WalkKit
import Derived.ProofKit
namespace Go.Proofs.Ytndmmhikhfndaaa.Rb
open Go.RowKit
set_option linter.unusedVariables false
set_option linter.unusedSimpArgs false
theorem hide {p : Prop} (h : p) : Hid p := h
structure Rs where
  room : Nat
  l : List Int
/-- What a robin always is. -/
structure Gd (s : Rs) : Prop where
  one : 1 ≤ s.room
  most : s.room ≤ 256
  len : s.l.length ≤ s.room
  ids : ∀ x ∈ s.l, 0 ≤ x
  nodup : s.l.Nodup
def newS (most : Int) : Rs := ⟨(min (max most 1) 256).toNat, []⟩
def addE (s : Rs) (id : Int) : Int := if id < 0 then 1 else if id ∈ s.l then 5 else if s.room ≤ s.l.length then 3 else 0
def addS (s : Rs) (id : Int) : Rs := if addE s id = 0 then ⟨s.room, s.l ++ [id]⟩ else s
def dropE (s : Rs) (id : Int) : Int := if id ∈ s.l then 0 else 2
def dropS (s : Rs) (id : Int) : Rs := ⟨s.room, s.l.erase id⟩
def clN (s : Rs) (n : Int) : Nat := (min (max n 0) s.l.length).toNat
def clT (t : Int) : Nat := (min (max t 0) 1099511627776).toNat
/-- Turned k times. -/
def rot (l : List Int) (k : Nat) : List Int := l.drop (k % l.length) ++ l.take (k % l.length)
def seeL (s : Rs) (n : Int) : List Int := s.l.take (clN s n)
def takeS (s : Rs) (n : Int) : Rs := ⟨s.room, s.l.drop (clN s n) ++ s.l.take (clN s n)⟩
/-- How often the i-th of m is taken in q. -/
def cnt (m q i : Nat) : Nat := (q + (m - 1 - i)) / m
def manyC (s : Rs) (n t : Int) : List Int := (List.range s.l.length).map (fun i => ((cnt s.l.length (clN s n * clT t) i : Nat) : Int))
def manyS (s : Rs) (n t : Int) : Rs := ⟨s.room, rot s.l (clN s n * clT t)⟩
/-! What is so of them. -/
theorem gd_new (most : Int) : Gd (newS most) := by
  unfold newS
  refine ⟨?_, ?_, ?_, by simp, List.nodup_nil⟩
  · show 1 ≤ (min (max most 1) 256).toNat; omega
  · show (min (max most 1) 256).toNat ≤ 256; omega
  · simp
theorem add_y {s : Rs} {id : Int} (h : addE s id = 0) : addS s id = ⟨s.room, s.l ++ [id]⟩ := by unfold addS; rw [if_pos h]
theorem add_n {s : Rs} {id : Int} (h : addE s id ≠ 0) : addS s id = s := by unfold addS; rw [if_neg h]
theorem add_ok {s : Rs} {id : Int} (h : addE s id = 0) : 0 ≤ id ∧ id ∉ s.l ∧ s.l.length < s.room := by
  unfold addE at h
  by_cases h1 : id < 0
  · rw [if_pos h1] at h; cases h
  · rw [if_neg h1] at h
    by_cases h2 : id ∈ s.l
    · rw [if_pos h2] at h; cases h
    · rw [if_neg h2] at h
      by_cases h3 : s.room ≤ s.l.length
      · rw [if_pos h3] at h; cases h
      · exact ⟨by omega, h2, by omega⟩
theorem gd_add {s : Rs} (g : Gd s) (id : Int) : Gd (addS s id) := by
  by_cases h : addE s id = 0
  · obtain ⟨h1, h2, h3⟩ := add_ok h
    rw [add_y h]
    refine ⟨g.one, g.most, by show (s.l ++ [id]).length ≤ s.room; simp; omega, fun x hx => ?_, ?_⟩
    · rcases List.mem_append.1 hx with hx | hx
      · exact g.ids x hx
      · rw [List.mem_singleton.1 hx]; exact h1
    · show (s.l ++ [id]).Nodup
      rw [List.nodup_append]
      refine ⟨g.nodup, by simp, fun a ha b hb => ?_⟩
      rw [List.mem_singleton.1 hb]
      rintro rfl
      exact h2 ha
  · rw [add_n h]; exact g
theorem gd_drop {s : Rs} (g : Gd s) (id : Int) : Gd (dropS s id) :=
  ⟨g.one, g.most, Nat.le_trans (List.length_erase_le) g.len, fun x hx => g.ids x (List.mem_of_mem_erase hx), g.nodup.erase id⟩
theorem perm_gd {s : Rs} {l : List Int} (g : Gd s) (h : l.Perm s.l) : Gd ⟨s.room, l⟩ :=
  ⟨g.one, g.most, by show l.length ≤ _; rw [h.length_eq]; exact g.len, fun x hx => g.ids x (h.mem_iff.1 hx), h.nodup_iff.2 g.nodup⟩
theorem turn_perm (l : List Int) (k : Nat) : (l.drop k ++ l.take k).Perm l := by
  refine List.perm_append_comm.trans ?_
  rw [List.take_append_drop]
theorem gd_take {s : Rs} (g : Gd s) (n : Int) : Gd (takeS s n) := perm_gd g (turn_perm s.l _)
theorem rot_perm (l : List Int) (k : Nat) : (rot l k).Perm l := turn_perm l _
theorem gd_many {s : Rs} (g : Gd s) (n t : Int) : Gd (manyS s n t) := perm_gd g (rot_perm s.l _)
theorem rot_len (l : List Int) (k : Nat) : (rot l k).length = l.length := (rot_perm l k).length_eq
theorem rot_get (l : List Int) (k i : Nat) (h : i < l.length) : (rot l k)[i]? = l[(k + i) % l.length]? := by
  unfold rot
  have hr : k % l.length < l.length := Nat.mod_lt _ (by omega)
  have e : (k + i) % l.length = (k % l.length + i) % l.length := by rw [Nat.mod_add_mod]
  rw [e]
  generalize k % l.length = r at *
  by_cases h1 : i < l.length - r
  · rw [List.getElem?_append_left (by simp; omega), List.getElem?_drop, Nat.mod_eq_of_lt (by omega)]
  · rw [List.getElem?_append_right (by simp; omega), List.length_drop, List.getElem?_take, if_pos (by omega)]
    rw [show (r + i) % l.length = i - (l.length - r) by rw [Nat.mod_eq_sub_mod (by omega), Nat.mod_eq_of_lt (by omega)]; omega]
theorem ext_get {a b : List Int} (hl : a.length = b.length) (h : ∀ i, i < a.length → a[i]? = b[i]?) : a = b := by
  apply List.ext_getElem?
  intro i
  by_cases hi : i < a.length
  · exact h i hi
  · rw [List.getElem?_eq_none (by omega), List.getElem?_eq_none (by omega)]
theorem rot_rot (l : List Int) (j k : Nat) : rot (rot l j) k = rot l (j + k) := by
  apply ext_get (by simp [rot_len])
  intro i hi
  simp only [rot_len] at hi
  have hm : (k + i) % l.length < l.length := Nat.mod_lt _ (by omega)
  rw [rot_get (rot l j) k i (by rw [rot_len]; exact hi), rot_len, rot_get l j _ hm, rot_get l (j + k) i hi, Nat.add_mod_mod, Nat.add_assoc]
theorem rot_take (l : List Int) (k : Nat) (h : k ≤ l.length) : l.drop k ++ l.take k = rot l k := by
  by_cases h1 : k < l.length
  · unfold rot; rw [Nat.mod_eq_of_lt h1]
  · obtain rfl : k = l.length := by omega
    unfold rot; rw [Nat.mod_self]; simp
theorem rot_zero (l : List Int) : rot l 0 = l := by unfold rot; simp
theorem clN_le (s : Rs) (n : Int) : clN s n ≤ s.l.length := by unfold clN; omega
theorem clT_le (t : Int) : clT t ≤ 1099511627776 := by unfold clT; omega
/-! Counting. -/
theorem cnt_zero {m i : Nat} (h : i < m) : cnt m 0 i = 0 := by unfold cnt; rw [Nat.zero_add]; exact Nat.div_eq_of_lt (by omega)
theorem cnt_succ {m i : Nat} (h : i < m) (q : Nat) : cnt m (q + 1) i = cnt m q i + (if q % m = i then 1 else 0) := by
  unfold cnt
  obtain ⟨d, r, hr, rfl⟩ : ∃ d r, r < m ∧ q = m * d + r := ⟨q / m, q % m, Nat.mod_lt _ (by omega), (Nat.div_add_mod q m).symm⟩
  have e : (m * d + r) % m = r := by rw [Nat.mul_add_mod, Nat.mod_eq_of_lt hr]
  rw [e]
  have hm : 0 < m := by omega
  have f : ∀ x, (m * d + x) / m = d + x / m := fun x => by rw [Nat.mul_add_div hm]
  rw [show m * d + r + 1 + (m - 1 - i) = m * d + (r + 1 + (m - 1 - i)) by omega, show m * d + r + (m - 1 - i) = m * d + (r + (m - 1 - i)) by omega, f, f]
  by_cases h1 : r < i
  · rw [if_neg (by omega), Nat.div_eq_of_lt (by omega), Nat.div_eq_of_lt (by omega)]
  · by_cases h2 : r = i
    · rw [if_pos h2, Nat.div_eq_of_lt (a := r + (m - 1 - i)) (by omega)]
      rw [show r + 1 + (m - 1 - i) = m by omega, Nat.div_self hm]
    · rw [if_neg h2]
      have g1 : (r + 1 + (m - 1 - i)) / m = 1 := by
        rw [Nat.div_eq_iff hm]; omega
      have g2 : (r + (m - 1 - i)) / m = 1 := by
        rw [Nat.div_eq_iff hm]; omega
      rw [g1, g2]
theorem cnt_between {m i : Nat} (h : i < m) (q : Nat) : q / m ≤ cnt m q i ∧ cnt m q i ≤ q / m + 1 := by
  unfold cnt
  have hm : 0 < m := by omega
  refine ⟨Nat.div_le_div_right (by omega), ?_⟩
  have : (q + (m - 1 - i)) / m ≤ (q + m) / m := Nat.div_le_div_right (by omega)
  rwa [Nat.add_div_right _ hm] at this
/-- Of the first j: how often together. -/
def sumC (m q : Nat) : Nat → Nat
  | 0 => 0
  | j + 1 => sumC m q j + cnt m q j
theorem sum_zero {m : Nat} : ∀ j, j ≤ m → sumC m 0 j = 0 := by
  intro j
  induction j with
  | zero => intro _; rfl
  | succ j ih => intro h; unfold sumC; rw [ih (by omega), cnt_zero (by omega)]
theorem sum_succ {m q : Nat} : ∀ j, j ≤ m → sumC m (q + 1) j = sumC m q j + (if q % m < j then 1 else 0) := by
  intro j
  induction j with
  | zero => intro _; rfl
  | succ j ih =>
    intro h
    unfold sumC
    rw [ih (by omega), cnt_succ (by omega)]
    by_cases h1 : q % m < j
    · rw [if_pos h1, if_neg (by omega), if_pos (by omega)]; omega
    · by_cases h2 : q % m = j
      · rw [if_neg h1, if_pos h2, if_pos (by omega)]; omega
      · rw [if_neg h1, if_neg h2, if_neg (by omega)]; omega
theorem sum_all {m : Nat} (hm : 0 < m) : ∀ q, sumC m q m = q := by
  intro q
  induction q with
  | zero => exact sum_zero m (Nat.le_refl _)
  | succ q ih => rw [sum_succ m (Nat.le_refl _), ih, if_pos (Nat.mod_lt _ hm)]
theorem sum_le {m q : Nat} : ∀ j, j ≤ m → sumC m q j ≤ sumC m q m := by
  intro j h
  induction m generalizing j with
  | zero => obtain rfl : j = 0 := by omega
            exact Nat.le_refl _
  | succ m ih =>
    clear ih
    have g : ∀ d j, sumC (m + 1) q j ≤ sumC (m + 1) q (j + d) := by
      intro d
      induction d with
      | zero => intro j; exact Nat.le_refl _
      | succ d ih => intro j; exact Nat.le_trans (ih j) (by rw [← Nat.add_assoc]; show _ ≤ sumC (m + 1) q (j + d) + _; omega)
    have := g (m + 1 - j) j
    rwa [show j + (m + 1 - j) = m + 1 by omega] at this
/-- So often ahead, and so often from there on. -/
theorem cnt_add {m i k A B : Nat} (hi : i < m) (hk : k < m) (h : (A + k) % m = i) : cnt m A i + cnt m B k = cnt m (A + B) i := by
  unfold cnt
  have hm : 0 < m := by omega
  obtain ⟨z, hz⟩ : ∃ z, A + k = m * z + i := ⟨(A + k) / m, by rw [← h]; exact (Nat.div_add_mod _ _).symm⟩
  have f : ∀ x, (m * z + x) / m = z + x / m := fun x => by rw [Nat.mul_add_div hm]
  have e1 : A + (m - 1 - i) = m * z + (m - 1 - k) := by omega
  have e2 : A + B + (m - 1 - i) = m * z + (B + (m - 1 - k)) := by omega
  rw [e1, e2, f, f, Nat.div_eq_of_lt (by omega)]; omega
/-- How often x was among the first q that were taken. -/
def seen (l : List Int) : Nat → Int → Nat
  | 0, _ => 0
  | q + 1, x => seen l q x + (if l[q % l.length]? = some x then 1 else 0)
theorem nodup_inj {l : List Int} (hn : l.Nodup) {i j : Nat} {x : Int} (hi : l[i]? = some x) (hj : l[j]? = some x) : i = j := by
  obtain ⟨h1, e1⟩ := List.getElem?_eq_some_iff.1 hi
  obtain ⟨h2, e2⟩ := List.getElem?_eq_some_iff.1 hj
  have hp := List.pairwise_iff_getElem.1 hn
  rcases Nat.lt_trichotomy i j with h | h | h
  · exact absurd (e1.trans e2.symm) (hp i j h1 h2 h)
  · exact h
  · exact absurd (e2.trans e1.symm) (hp j i h2 h1 h)
theorem seen_cnt {l : List Int} (hn : l.Nodup) {i : Nat} {x : Int} (hi : l[i]? = some x) : ∀ q, seen l q x = cnt l.length q i := by
  have hl := (List.getElem?_eq_some_iff.1 hi).1
  intro q
  induction q with
  | zero => rw [cnt_zero hl]; rfl
  | succ q ih =>
    unfold seen
    rw [ih, cnt_succ hl]
    congr 1
    by_cases h : q % l.length = i
    · rw [if_pos h, if_pos (by rw [h]; exact hi)]
    · rw [if_neg h, if_neg (fun e => h (nodup_inj hn e hi))]
theorem seen_le (l : List Int) (x : Int) : ∀ q, seen l q x ≤ q := by
  intro q
  induction q with
  | zero => exact Nat.le_refl _
  | succ q ih => unfold seen; split <;> omega
theorem cnt_le {m i : Nat} (h : i < m) : ∀ q, cnt m q i ≤ q := by
  intro q
  induction q with
  | zero => rw [cnt_zero h]; exact Nat.le_refl _
  | succ q ih => rw [cnt_succ h]; split <;> omega
theorem many_len (s : Rs) (n t : Int) : (manyC s n t).length = s.l.length := by unfold manyC; simp
theorem many_get (s : Rs) (n t : Int) {i : Nat} (h : i < s.l.length) : (manyC s n t).getD i 0 = ((cnt s.l.length (clN s n * clT t) i : Nat) : Int) := by
  unfold manyC
  rw [List.getD_eq_getElem?_getD, List.getElem?_map, List.getElem?_range h]; rfl
end Go.Proofs.Ytndmmhikhfndaaa.Rb
