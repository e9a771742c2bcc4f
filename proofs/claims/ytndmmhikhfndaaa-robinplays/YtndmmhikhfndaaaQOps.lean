/- Get, Turn, Drop, All; two rows alike; the example that the laws ask first. -/
import Derived.Test.YtndmmhikhfndaaaQPut
namespace Go.Proofs.Ytndmmhikhfndaaa.Con
open Go.RowKit
set_option linter.unusedVariables false
set_option linter.unusedSimpArgs false
attribute [local go_sem ↓] Go.wp_at_zero Go.wp_at_succ
section
variable {W : World} {B fb m : Nat} {v : Value} {xs : List Int}
theorem get_none (h : Fi W B fb m v []) : Calls Try.prog 28 #[.pointer (some ⟨fb, 0, none⟩)] W fun e w' => e = .returned (.tuple #[.int .i64 0, .bool false]) ∧ w' = W := by
  have F := hide (front_none h)
  clear h
  go_enter Try.func28, Try.ntmps28
  go_wp2_with (go_at_call 29; refine F.out.mono ?_; rintro e w1 ⟨rfl, hw⟩; have hw2 := hw.symm; clear hw; subst hw2)
  go_ret2
  exact ⟨rfl, rfl⟩
theorem get_some {x : Int} (h : Fi W B fb m v (x :: xs)) : Calls Try.prog 28 #[.pointer (some ⟨fb, 0, none⟩)] W fun e w' => e = .returned (.tuple #[.int .i64 x, .bool true]) ∧ OutPost W B fb m v xs w' := by
  have F := hide (front_some h)
  have T := hide (takeOut_any h 0 (by simp))
  rw [show (x :: xs).eraseIdx 0 = xs from rfl] at T
  clear h
  go_enter Try.func28, Try.ntmps28
  go_wp2_with (first
    | (go_at_call 29; refine F.out.mono ?_; rintro e w1 ⟨rfl, hw⟩; have hw2 := hw.symm; clear hw; subst hw2)
    | (go_at_call 25; refine T.out.mono ?_; rintro e w2 ⟨rfl, hO⟩))
  go_ret2
  exact ⟨rfl, hO⟩
theorem turn_none (h : Fi W B fb m v []) : Calls Try.prog 26 #[.pointer (some ⟨fb, 0, none⟩)] W fun e w' => e = .returned (.bool false) ∧ w' = W := by
  have F := hide (get_none h)
  clear h
  go_enter Try.func26, Try.ntmps26
  go_wp2_with (go_at_call 28; refine F.out.mono ?_; rintro e w1 ⟨rfl, hw⟩; have hw2 := hw.symm; clear hw; subst hw2)
  go_ret
  exact ⟨rfl, rfl⟩
theorem turn_some {x : Int} (h : Fi W B fb m v (x :: xs)) : Calls Try.prog 26 #[.pointer (some ⟨fb, 0, none⟩)] W fun e w' => e = .returned (.bool true) ∧ OutPost W B fb m v (xs ++ [x]) w' := by
  have F := hide (get_some h)
  have hf := h.fit
  simp only [List.length_cons] at hf
  clear h
  go_enter Try.func26, Try.ntmps26
  go_wp2_with (first
    | (go_at_call 28; refine F.out.mono ?_; rintro e w1 ⟨rfl, v1, h1, h2⟩; have H1 := hide h1; have H2 := hide h2; clear h1 h2)
    | (go_at_call 18; refine (put_ok H1.out x (by omega)).mono ?_; rintro e w2 ⟨rfl, v2, h3, h4⟩; have H3 := hide h3; have H4 := hide h4; clear h3 h4))
  go_ret
  exact ⟨rfl, v2, H3.out, H2.out.trans H4.out⟩
theorem drop_none (h : Fi W B fb m v xs) (x : Int) (hx : Lib.idxOf xs x < 0) : Calls Try.prog 19 #[.pointer (some ⟨fb, 0, none⟩), .int .i64 x] W fun e w' => e = .returned (.bool false) ∧ w' = W := by
  have P := hide (place_any h x)
  generalize Lib.idxOf xs x = N at *
  clear h
  go_enter Try.func19, Try.ntmps19
  go_wp2_with (go_at_call 17; refine P.out.mono ?_; rintro e w1 ⟨rfl, hw⟩; have hw2 := hw.symm; clear hw; subst hw2)
  go_ret
  exact ⟨rfl, rfl⟩
theorem drop_some (h : Fi W B fb m v xs) (x : Int) (k : Nat) (hk : k < xs.length) (hx : Lib.idxOf xs x = (k : Int)) : Calls Try.prog 19 #[.pointer (some ⟨fb, 0, none⟩), .int .i64 x] W fun e w' => e = .returned (.bool true) ∧ OutPost W B fb m v (xs.eraseIdx k) w' := by
  have P := hide (place_any h x)
  rw [hx] at P
  have T := hide (takeOut_any h k hk)
  have k0 : ¬ ((k : Int) < 0) := by omega
  clear h hx
  go_enter Try.func19, Try.ntmps19
  go_wp2_with (first
    | (go_at_call 17; refine P.out.mono ?_; rintro e w1 ⟨rfl, hw⟩; have hw2 := hw.symm; clear hw; subst hw2)
    | (go_at_call 25; refine T.out.mono ?_; rintro e w2 ⟨rfl, hO⟩))
  go_ret
  exact ⟨rfl, hO⟩
def AllPost (W : World) (xs : List Int) (e : Ending) (w' : World) : Prop := ∃ p c, e = .returned (.slice p xs.length c) ∧ IRow W.heap.size w' (.slice p xs.length c) xs ∧ Below W.heap.size W w'
theorem all_fin {w1 : World} {g n : Nat} (hx : xs.length = n) (hg : w1.heap[g]? = some (.cells (splice (madeCells (Value.int .i64 0).cells (n * 1)).toList 0 (intsV xs)).toArray 3 (0, 0))) (hB : Below W.heap.size W w1) (hgB : W.heap.size ≤ g) (hn : n ≤ maxLen) : AllPost W xs (.returned (.slice (some ⟨g, 0, none⟩) n n)) w1 := by
  have hm : (madeCells (Value.int .i64 0).cells (n * 1)).toList.length = n := by simp [madeCells]
  have hs : splice (madeCells (Value.int .i64 0).cells (n * 1)).toList 0 (intsV xs) = intsV xs := by
    unfold splice
    rw [List.take_zero, List.nil_append, List.drop_of_length_le (by rw [hm, intsV_len]; omega), List.append_nil]
  rw [hs] at hg
  refine ⟨_, n, by rw [hx], ⟨by simp [intsV_len], .inr ⟨g, n, _, rfl, hgB, hg, by omega, hn, by simp [intsV_len, hx], by rw [List.take_of_length_le (by simp [intsV_len])]⟩⟩, hB⟩
theorem all_mid {w1 : World} {p : Option Addr} {c n : Nat} (H : Fi W B fb m (.slice p n c) xs) (hn : xs.length = n) (R1 : w1.ownsRow W.heap.size 3 1 (.slice (some ⟨W.heap.size, 0, none⟩) n n) n (madeCells (Value.int .i64 0).cells (n * 1)).toList) (R2 : W.grownBy w1 none) :
    w1.heap[W.heap.size]? = some (.cells (madeCells (Value.int .i64 0).cells (n * 1)).toList.toArray 3 (0, 0)) ∧ (intsV xs).length = Nat.min n n ∧
    (0 < (intsV xs).length → (some ⟨W.heap.size, 0, none⟩ : Option Addr) = some ⟨W.heap.size, 0, none⟩ ∧ ∃ ad, p = some ad ∧ ∀ j u, (intsV xs)[j]? = some u → w1.cell? (ad.add j) = some u) ∧
    0 + (intsV xs).length ≤ (madeCells (Value.int .i64 0).cells (n * 1)).toList.length ∧ Below W.heap.size W w1 := by
  refine ⟨?_, ?_, ?_, ?_, ?_⟩
  · obtain ⟨_, ⟨h0, _⟩ | ⟨g, cap, cur, he, _, hg, _, _, hs, ht⟩⟩ := R1
    · cases h0
    · injection he with e1 _ e2
      injection e1 with e1
      injection e1 with e1
      subst e1
      subst e2
      rw [List.take_of_length_le (by simp; omega)] at ht
      rw [hg, ← ht]
  · rw [intsV_len, hn]; simp
  · intro h0
    rw [intsV_len] at h0
    have hr : IRow B w1 (.slice p n c) xs := H.row.kept (fun k hk => R2.block k (H.row.lt k hk) (by simp))
    obtain ⟨g, c', e, _, _, _, _, gc⟩ := hr.at h0
    injection e with e1 _ _
    subst e1
    refine ⟨rfl, _, rfl, fun j u hu => ?_⟩
    have hj : j < xs.length := by rw [← intsV_len]; exact (List.getElem?_eq_some_iff.1 hu).1
    rw [intsV_get xs j hj] at hu
    injection hu with hu
    have : (⟨g, 0, none⟩ : Addr).add j = ⟨g, j, none⟩ := by unfold Addr.add; split <;> simp_all
    rw [this, gc j hj, hu]
  · simp [intsV_len, madeCells, hn]
  · exact ⟨R2.os, R2.tape, R2.output, R2.size, fun k hk => R2.block k hk (by simp)⟩
theorem all_any (h : Fi W B fb m v xs) : Calls Try.prog 22 #[.pointer (some ⟨fb, 0, none⟩)] W fun e w' => AllPost W xs e w' := by
  obtain ⟨i0, hi, hz0, hz1, hz2⟩ := info_parts infoI
  obtain ⟨c0, c1, z1⟩ := h.cells
  have hhi := h.hi
  have hfit := h.fit
  have hblt := h.lt
  obtain ⟨p, c, hv⟩ := h.row.form
  obtain ⟨n, hn⟩ : ∃ n, xs.length = n := ⟨_, rfl⟩
  have HN := hide hn
  have H := hide h
  rw [hv] at c1 H
  rw [hn] at c1 hfit H
  have hzsz : (Try.prog.info? 3).map (·.size) = some 1 := by rw [hi]; simp [hz1]
  clear h hv hn
  go_enter Try.func22, Try.ntmps22
  go_wp2_with (first
    | (at_make; refine wpList_make_full _ rfl _ _ 28 rfl W.heap.size 3 i0 (.int .i64 0) 1 Try.underlying28 hi hz0 hz1 .i64 .i64 _ _ n rfl rfl rfl rfl (by rw [hz2]; omega) (by unfold maxLen; omega) (Nat.le_refl _) ?_; intro w1 r1 r2; have MI := hide (all_mid H.out HN.out r1 r2); have c1' : w1.cell? ⟨fb, 1, none⟩ = some (.slice p n c) := r2.cell c1 (by simp); clear r1 r2)
    | (refine wpList_copy_splice rfl (.tmp 10) (.tmp 14) 28 28 rfl 3 Try.underlying28 hzsz _ _ n n n c rfl rfl W.heap.size 0 (madeCells (Value.int .i64 0).cells (n * 1)).toList 3 MI.out.1 (intsV xs) MI.out.2.1 MI.out.2.2.1 MI.out.2.2.2.1 (intsV_one _) W.heap.size W MI.out.2.2.2.2 (Nat.le_refl _) ?_; intro w2 HG hB2; have HB2 := hide hB2; clear hB2))
  go_ret
  exact all_fin HN.out HG.out HB2.out (Nat.le_refl _) (by unfold maxLen; omega)
end
/-- A row that was written out. -/
theorem rd_row {w : World} {q n : Nat} {cs : Array Value} {ys : List Value} {e : TypeId} (h : w.heap[q]? = some (.cells cs e (0, 0))) (hc : cs.toList = ys) (hs : cs.size = n) (hn : n ≤ maxLen) : RdC w w.heap.size 1 (.slice (some ⟨q, 0, none⟩) n n) n ys :=
  ⟨by rw [← hc]; simp [hs], _, n, rfl, Nat.le_refl _, hn, fun _ => ⟨q, 0, rfl, (Array.getElem?_eq_some_iff.1 h).1, fun j u hu => by rw [Nat.zero_add, cell_of_row w q j cs e _ h]; rw [← hc] at hu; simpa using hu⟩⟩
end Go.Proofs.Ytndmmhikhfndaaa.Con
