/- What was told, in memory; has, mayTell, New, See, Count, Send, Read. -/
import Derived.Test.YtigofonhibaojaaPWd
import Derived.OwnWalk
import Derived.Deep.RegionHeld3
import Derived.BigQuiet
import Derived.Deep.QuietTactic
import Derived.Lib.QuietBelow
import Derived.Laws.MakeOwn
namespace Go.Proofs.Ytigofonhibaojaa.Con
open Go.RowKit Go.Proofs.Ytigofonhibaojaa.Mk
set_option linter.unusedVariables false
set_option linter.unusedSimpArgs false
/-- What one was told: the words, by whom, how often it was rung. -/
structure Td where
  w : Nat
  f : Nat
  r : Nat
/-- In memory: the struct b, the row g of n. -/
structure PK (W : World) (b g n m : Nat) (s : Nat → Td) : Prop where
  str : W.heap[b]? = some (.cells #[.slice (some ⟨g, 0, none⟩) n n] 51 (0, 0))
  row : ∃ cs : Array Value, W.heap[g]? = some (.cells cs 56 (0, 0)) ∧ cs.size = n * 3 ∧ ∀ j, j < n → cs[j * 3]? = some (.int .i64 ((s j).w : Int)) ∧ cs[j * 3 + 1]? = some (.int .u64 ((s j).f : Int)) ∧ cs[j * 3 + 2]? = some (.int .i64 ((s j).r : Int))
  lo : 1 ≤ n
  hi : n ≤ 64
  wf : ∀ j, j < n → (s j).w ≤ 15 ∧ (s j).f < 18446744073709551616 ∧ (s j).r ≤ m
/-- What a call may turn. -/
structure Stp (W W' : World) (g : Nat) : Prop where
  os : W'.os = W.os
  tape : W'.tape = W.tape
  output : W'.output = W.output
  size : W.heap.size ≤ W'.heap.size
  block : ∀ k, k < W.heap.size → k ≠ g → W'.heap[k]? = W.heap[k]?
theorem Stp.refl (W : World) (g : Nat) : Stp W W g := ⟨rfl, rfl, rfl, Nat.le_refl _, fun _ _ _ => rfl⟩
theorem Stp.trans {W W' W'' : World} {g : Nat} (h : Stp W W' g) (k : Stp W' W'' g) : Stp W W'' g :=
  ⟨k.os.trans h.os, k.tape.trans h.tape, k.output.trans h.output, Nat.le_trans h.size k.size, fun i hi h1 => (k.block i (by have := h.size; omega) h1).trans (h.block i hi h1)⟩
theorem Stp.below {W W' : World} (h : Below W.heap.size W W') (g : Nat) : Stp W W' g := ⟨h.os, h.tape, h.output, h.size, fun k hk _ => h.block k hk⟩
theorem Stp.toBelow {W W' : World} {g B : Nat} (h : Stp W W' g) (hB : B ≤ W.heap.size) (hg : B ≤ g) : Below B W W' :=
  ⟨h.os, h.tape, h.output, h.size, fun k hk => h.block k (by omega) (by omega)⟩
theorem Stp.drew {W W' : World} {g : Nat} (h : Stp W W' g) : Stp W W'.drew g := ⟨h.os, h.tape, h.output, h.size, h.block⟩
theorem Stp.set (W : World) (g j : Nat) (v : Value) : Stp W (W.setCell ⟨g, j, none⟩ v) g :=
  ⟨rfl, rfl, rfl, by simp, fun k hk h => heap_setCell_other W _ _ _ (by simpa using h)⟩
theorem bel_alloc' {B : Nat} {W w : World} (h : Below B W w) (o : Obj) (hB : B ≤ W.heap.size := by first | exact Nat.le_refl _ | assumption) : Below B W (w.alloc o) := h.alloc (Nat.le_trans hB h.size) o
theorem bel_drewN {B : Nat} {a w : World} (h : Below B a w) (n : Nat) : Below B a (w.drewN n) := h.trans ⟨rfl, rfl, rfl, Nat.le_refl _, fun _ _ => rfl⟩
theorem bel_drew {B : Nat} {W w : World} (h : Below B W w) : Below B W w.drew := ⟨h.os, h.tape, h.output, h.size, h.block⟩
section
variable {W W' : World} {b g n m : Nat} {s : Nat → Td}
theorem PK.blt (h : PK W b g n m s) : b < W.heap.size := (Array.getElem?_eq_some_iff.1 h.str).1
theorem PK.glt (h : PK W b g n m s) : g < W.heap.size := by
  obtain ⟨cs, hc, _⟩ := h.row
  exact (Array.getElem?_eq_some_iff.1 hc).1
theorem PK.ne (h : PK W b g n m s) : b ≠ g := by
  intro e
  obtain ⟨cs, hc, _⟩ := h.row
  rw [← e, h.str] at hc
  injection hc with hc
  injection hc with _ hc
  exact absurd hc (by decide)
theorem PK.kept (h : PK W b g n m s) (h1 : W'.heap[b]? = W.heap[b]?) (h2 : W'.heap[g]? = W.heap[g]?) : PK W' b g n m s := by
  obtain ⟨cs, hc, r⟩ := h.row
  exact ⟨h1.trans h.str, ⟨cs, h2.trans hc, r⟩, h.lo, h.hi, h.wf⟩
theorem PK.below (h : PK W b g n m s) (hB : Below W.heap.size W W') : PK W' b g n m s := h.kept (hB.block _ h.blt) (hB.block _ h.glt)
theorem PK.mono {m' : Nat} (h : PK W b g n m s) (hm : m ≤ m') : PK W b g n m' s := ⟨h.str, h.row, h.lo, h.hi, fun j hj => by have := h.wf j hj; exact ⟨this.1, this.2.1, by omega⟩⟩
theorem PK.congr {t : Nat → Td} (h : PK W b g n m s) (ht : ∀ j, j < n → t j = s j) : PK W b g n m t := by
  obtain ⟨cs, hc, h1, h2⟩ := h.row
  exact ⟨h.str, ⟨cs, hc, h1, fun j hj => by rw [ht j hj]; exact h2 j hj⟩, h.lo, h.hi, fun j hj => by rw [ht j hj]; exact h.wf j hj⟩
theorem PK.head (h : PK W b g n m s) : W.cell? ⟨b, 0, none⟩ = some (.slice (some ⟨g, 0, none⟩) n n) := by
  rw [cell_of_row W b _ _ _ _ h.str]; rfl
theorem PK.cells (h : PK W b g n m s) (j : Nat) (hj : j < n) : W.cell? ⟨g, j * 3, none⟩ = some (.int .i64 ((s j).w : Int)) ∧ W.cell? ⟨g, j * 3 + 1, none⟩ = some (.int .u64 ((s j).f : Int)) ∧ W.cell? ⟨g, j * 3 + 2, none⟩ = some (.int .i64 ((s j).r : Int)) := by
  obtain ⟨cs, hc, h1, h2⟩ := h.row
  obtain ⟨a1, a2, a3⟩ := h2 j hj
  refine ⟨?_, ?_, ?_⟩
  · rw [cell_of_row W g _ _ _ _ hc, a1]
  · rw [cell_of_row W g _ _ _ _ hc, a2]
  · rw [cell_of_row W g _ _ _ _ hc, a3]
theorem PK.frozen (h : PK W b g n m s) (j : Nat) : W.frozen? ⟨g, j, none⟩ = false := by
  obtain ⟨cs, hc, _⟩ := h.row
  simp [World.frozen?, hc]
/-- All of one's cells are written anew. -/
theorem PK.put3 {m' : Nat} (h : PK W b g n m s) (hm : m ≤ m') (i : Nat) (hi : i < n) (t : Td) (h1 : t.w ≤ 15) (h2 : t.f < 18446744073709551616) (h3 : t.r ≤ m') {W1 : World} (hb : W1.heap[b]? = W.heap[b]?)
    (hg : ∀ cs : Array Value, W.heap[g]? = some (.cells cs 56 (0, 0)) → ∃ cs' : Array Value, W1.heap[g]? = some (.cells cs' 56 (0, 0)) ∧ cs'.size = cs.size ∧ (∀ j, j / 3 ≠ i → cs'[j]? = cs[j]?) ∧ (i * 3 + 2 < cs.size → cs'[i * 3]? = some (.int .i64 (t.w : Int)) ∧ cs'[i * 3 + 1]? = some (.int .u64 (t.f : Int)) ∧ cs'[i * 3 + 2]? = some (.int .i64 (t.r : Int)))) :
    PK W1 b g n m' (fun j => if j = i then t else s j) := by
  obtain ⟨cs, hc, hz, hv⟩ := h.row
  obtain ⟨cs', hc', hz', ho, hn⟩ := hg cs hc
  obtain ⟨n1, n2, n3⟩ := hn (by rw [hz]; omega)
  refine ⟨hb.trans h.str, ⟨cs', hc', hz'.trans hz, fun j hj => ?_⟩, h.lo, h.hi, fun j hj => ?_⟩
  · by_cases e : j = i
    · subst e
      simp only [if_true]
      exact ⟨n1, n2, n3⟩
    · simp only [if_neg e]
      rw [ho (j * 3) (by omega), ho (j * 3 + 1) (by omega), ho (j * 3 + 2) (by omega)]
      exact hv j hj
  · by_cases e : j = i
    · simp only [if_pos e]
      exact ⟨h1, h2, h3⟩
    · simp only [if_neg e]
      have := h.wf j hj
      exact ⟨this.1, this.2.1, by omega⟩
end
def hasB (n : Nat) (x : Int) : Bool := decide (0 ≤ x) && decide (x < (n : Int))
theorem has_any {W : World} {b g n m : Nat} {s : Nat → Td} (h : PK W b g n m s) (x : Int) : Calls Try.prog 17 #[.pointer (some ⟨b, 0, none⟩), .int .i64 x] W fun e w' => e = .returned (.bool (hasB n x)) ∧ w' = W := by
  have c0 := h.head
  clear h
  unfold hasB
  by_cases h0 : 0 ≤ x
  · go_enter Try.func17, Try.ntmps17
    go_wp2
    go_ret
    exact ⟨ret_bool (by simp [h0] <;> omega), rfl⟩
  · go_enter Try.func17, Try.ntmps17
    go_wp2
    go_ret
    exact ⟨ret_bool (by simp [h0] <;> omega), rfl⟩
def mayB (n : Nat) (a x : Int) : Bool := hasB n a && (decide (1 ≤ x) && decide (x ≤ 15))
theorem may_any {W : World} {b g n m : Nat} {s : Nat → Td} (h : PK W b g n m s) (a x : Int) : Calls Try.prog 18 #[.pointer (some ⟨b, 0, none⟩), .int .i64 a, .int .i64 x] W fun e w' => e = .returned (.bool (mayB n a x)) ∧ w' = W := by
  have H := hide (has_any h a)
  clear h
  unfold mayB
  cases hb : hasB n a with
  | false =>
    rw [hb] at H
    go_enter Try.func18, Try.ntmps18
    go_wp2_with (go_at_call 17; refine H.out.mono ?_; rintro e w' ⟨rfl, hw⟩; have hw2 := hw.symm; clear hw; subst hw2)
    go_ret
    exact ⟨rfl, rfl⟩
  | true =>
    rw [hb] at H
    by_cases h1 : 1 ≤ x
    · go_enter Try.func18, Try.ntmps18
      go_wp2_with (go_at_call 17; refine H.out.mono ?_; rintro e w' ⟨rfl, hw⟩; have hw2 := hw.symm; clear hw; subst hw2)
      go_ret
      exact ⟨ret_bool (by simp [h1] <;> omega), rfl⟩
    · go_enter Try.func18, Try.ntmps18
      go_wp2_with (go_at_call 17; refine H.out.mono ?_; rintro e w' ⟨rfl, hw⟩; have hw2 := hw.symm; clear hw; subst hw2)
      go_ret
      exact ⟨ret_bool (by simp [h1] <;> omega), rfl⟩
end Go.Proofs.Ytigofonhibaojaa.Con
