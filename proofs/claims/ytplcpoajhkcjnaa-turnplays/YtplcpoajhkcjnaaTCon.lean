/- New, Draw, Has, Len, wait, following, Ahead. -/
import Derived.Test.YtplcpoajhkcjnaaTMem
namespace Go.Proofs.Ytplcpoajhkcjnaa.Con
open Go.RowKit
set_option linter.unusedVariables false
set_option linter.unusedSimpArgs false
theorem u32_in (n : Int) (h : 0 ≤ n ∧ n ≤ 4294967295) : IntKind.u32.wrap n = n := by simp [IntKind.wrap, IntKind.bits, IntKind.signed]; omega
/-- The ticket that is served next. -/
def sv (L : List Tk) (n : Nat) : Nat := match L with | [] => n | p :: _ => p.2
def NewPost (w : World) (e : Ending) (w' : World) : Prop :=
  ∃ b m, e = .returned (.pointer (some ⟨b, 0, none⟩)) ∧ LK w' b m 0 0 [] ∧ Below w.heap.size w w' ∧ w.heap.size ≤ b ∧ w.heap.size ≤ m
theorem new_any (w : World) : Calls Try.prog 8 #[] w fun e w' => NewPost w e w' := by
  have FIN : Hid (∀ w1 : World, w1 = (w.alloc (.map #[] 0)).alloc (.cells #[.int .u32 0, .int .u32 0, .map (some w.heap.size)] 34) → NewPost w (.returned (.pointer (some ⟨w.heap.size + 1, 0, none⟩))) w1) := by
    refine hide ?_
    rintro w1 rfl
    have e1 : (w.alloc (.map #[] 0)).heap.size = w.heap.size + 1 := by simp
    refine ⟨w.heap.size + 1, w.heap.size, rfl, ⟨?_, ?_, List.Pairwise.nil, by simp, by simp, Nat.le_refl _, by omega, by simp⟩, ((Below.refl _ _).alloc (Nat.le_refl _) _).alloc (by simp) _, by omega, Nat.le_refl _⟩
    · rw [← e1]; exact heap_alloc_new _ _
    · exact (Mp.made w).kept (heap_alloc_old _ _ (by simp))
  have hmm := @run_makeMap Try.prog
  go_enter Try.func8, Try.ntmps8
  go_wp2
  go_ret
  exact FIN.out _ rfl
section
variable {W : World} {b m n s : Nat} {L : List Tk}
theorem len_any (h : LK W b m n s L) : Calls Try.prog 14 #[.pointer (some ⟨b, 0, none⟩)] W fun e w' => e = .returned (.int .i64 (L.length : Int)) ∧ w' = W := by
  obtain ⟨c0, c1, c2, z0, z1⟩ := h.cells
  have hl := h.map.size
  clear h
  go_enter Try.func14, Try.ntmps14
  go_wp2
  go_ret
  exact ⟨rfl, rfl⟩
theorem wait_any (h : LK W b m n s L) (c : Nat) (h1 : s ≤ c) (h2 : c < 4294967296) : Calls Try.prog 16 #[.pointer (some ⟨b, 0, none⟩), .int .u32 (c : Int)] W fun e w' => e = .returned (.int .u32 ((c - s : Nat) : Int)) ∧ w' = W := by
  obtain ⟨c0, c1, c2, z0, z1⟩ := h.cells
  clear h
  go_enter Try.func16, Try.ntmps16
  go_wp2
  go_ret
  refine ⟨ret_u32 ?_, rfl⟩
  have : (c : Int) - (s : Int) = ((c - s : Nat) : Int) := by omega
  first | omega | (rw [this]; exact u32_in _ (by omega))
def hasB (L : List Tk) (s : Nat) (x : Int) : Bool := decide (tkOf L x = some s)
theorem has_any (h : LK W b m n s L) (x : Int) (hx : in64 x) : Calls Try.prog 12 #[.pointer (some ⟨b, 0, none⟩), .int .i64 x] W fun e w' => e = .returned (.bool (hasB L s x)) ∧ w' = W := by
  obtain ⟨c0, c1, c2, z0, z1⟩ := h.cells
  have hlk := h.map.look hx
  unfold hasB
  clear h
  cases e : tkOf L x with
  | none =>
    rw [e] at hlk
    simp only [Option.getD_none, Option.isSome_none] at hlk
    go_enter Try.func12, Try.ntmps12
    go_wp2
    go_ret
    exact ⟨by simp, rfl⟩
  | some d =>
    rw [e] at hlk
    simp only [Option.getD_some, Option.isSome_some] at hlk
    go_enter Try.func12, Try.ntmps12
    go_wp2
    go_ret
    refine ⟨ret_bool ?_, rfl⟩
    by_cases hd : d = s
    · subst hd; simp
    · have : ¬ ((d : Int) = (s : Int)) := by omega
      simp [hd, this]
theorem draw_busy (h : LK W b m n s L) (x : Int) (hx : in64 x) (d : Nat) (hd : tkOf L x = some d) : Calls Try.prog 9 #[.pointer (some ⟨b, 0, none⟩), .int .i64 x] W fun e w' => e = .returned (.tuple #[.int .u32 0, .int .i64 5]) ∧ w' = W := by
  obtain ⟨c0, c1, c2, z0, z1⟩ := h.cells
  have hlk := h.map.look hx
  rw [hd] at hlk
  simp only [Option.getD_some, Option.isSome_some] at hlk
  clear h
  go_enter Try.func9, Try.ntmps9
  go_wp2
  go_ret2
  exact ⟨rfl, rfl⟩
theorem draw_arg (h : LK W b m n s L) (x : Int) (hx : in64 x) (hd : tkOf L x = none) (ho : x < 0 ∨ 256 ≤ x) : Calls Try.prog 9 #[.pointer (some ⟨b, 0, none⟩), .int .i64 x] W fun e w' => e = .returned (.tuple #[.int .u32 0, .int .i64 1]) ∧ w' = W := by
  obtain ⟨c0, c1, c2, z0, z1⟩ := h.cells
  have hlk := h.map.look hx
  rw [hd] at hlk
  simp only [Option.getD_none, Option.isSome_none] at hlk
  clear h
  by_cases hn : x < 0
  · go_enter Try.func9, Try.ntmps9
    go_wp2
    go_ret2
    exact ⟨rfl, rfl⟩
  · have hp : 256 ≤ x := by omega
    clear ho
    go_enter Try.func9, Try.ntmps9
    go_wp2
    go_ret2
    exact ⟨rfl, rfl⟩
theorem draw_full (h : LK W b m n s L) (x : Int) (hx : in64 x) (hd : tkOf L x = none) (h0 : 0 ≤ x) (h1 : x ≤ 255) (hf : 64 ≤ L.length) : Calls Try.prog 9 #[.pointer (some ⟨b, 0, none⟩), .int .i64 x] W fun e w' => e = .returned (.tuple #[.int .u32 0, .int .i64 3]) ∧ w' = W := by
  obtain ⟨c0, c1, c2, z0, z1⟩ := h.cells
  have hlk := h.map.look hx
  rw [hd] at hlk
  simp only [Option.getD_none, Option.isSome_none] at hlk
  have hl := h.map.size
  have n0 : ¬ x < 0 := by omega
  have n1 : ¬ 256 ≤ x := by omega
  have n2 : (64 : Int) ≤ (L.length : Int) := by omega
  clear h
  go_enter Try.func9, Try.ntmps9
  go_wp2
  go_ret2
  exact ⟨rfl, rfl⟩
def TPost (W : World) (b m n s : Nat) (L : List Tk) (w' : World) : Prop := LK w' b m n s L ∧ Stp W w' b m
theorem draw_fin (h : LK W b m n s L) {x : Int} (hd : tkOf L x = none) (h0 : 0 ≤ x) (h1 : x ≤ 255) (hf : L.length < 64) (hn : n < 1000000) {w1 w2 : World} (hm : Mp w1 m (if (tkOf L x).isSome then L.length else L.length + 1) (upd (tkOf L) x (some n))) (hg : W.grownBy w1 (some m)) (hw : w2 = w1.setCell ⟨b, 0, none⟩ (.int .u32 ((n + 1 : Nat) : Int))) : TPost W b m (n + 1) s (L ++ [(x, n)]) w2 := by
  subst hw
  have hno : ∀ p ∈ L, p.1 ≠ x := by
    rintro ⟨y, c⟩ hp e
    simp only at e
    subst e
    rw [tkOf_of h.ord hp] at hd
    cases hd
  rw [hd] at hm
  simp only [Option.isSome_none, Bool.false_eq_true, if_false] at hm
  have hs1 : w1.heap[b]? = _ := (hg.block b h.blt (fun e => h.ne (by simpa using e))).trans h.str
  have hs2 := heap_setCell_same w1 b 0 _ _ (.int .u32 ((n + 1 : Nat) : Int)) hs1
  have hoth : ∀ k, k ≠ b → (w1.setCell ⟨b, 0, none⟩ (.int .u32 ((n + 1 : Nat) : Int))).heap[k]? = w1.heap[k]? := fun k hk => heap_setCell_other w1 _ _ _ (by simpa using hk)
  have hss : (w1.setCell ⟨b, 0, none⟩ (.int .u32 ((n + 1 : Nat) : Int))).heap.size = w1.heap.size := by simp
  refine ⟨⟨?_, ?_, ?_, ?_, ?_, ?_, by omega, by simp; omega⟩, ⟨?_, ?_, ?_, ?_, ?_⟩⟩
  · rw [hs2]; rfl
  · rw [List.length_append]
    exact ((hm.congr fun y _ => tkOf_snoc hno y)).kept (hoth m (fun e => h.ne e.symm))
  · unfold Ord
    rw [List.pairwise_append]
    refine ⟨h.ord, by simp, ?_⟩
    intro p hp q hq
    simp at hq
    subst hq
    exact ⟨hno p hp, (h.tic p hp).2⟩
  · intro p hp
    rcases List.mem_append.1 hp with hp | hp
    · exact h.who p hp
    · simp at hp; subst hp; exact ⟨h0, h1⟩
  · intro p hp
    have := h.sle
    rcases List.mem_append.1 hp with hp | hp
    · have := h.tic p hp; omega
    · simp at hp; subst hp; simp; omega
  · have := h.sle; omega
  · exact hg.os
  · exact hg.tape
  · exact hg.output
  · rw [hss]; exact hg.size
  · intro k hk h1 h2
    rw [hoth k h1]
    exact hg.block k hk (by simpa using h2)
theorem draw_ok (h : LK W b m n s L) (x : Int) (hx : in64 x) (hd : tkOf L x = none) (h0 : 0 ≤ x) (h1 : x ≤ 255) (hf : L.length < 64) (hn : n < 1000000) : Calls Try.prog 9 #[.pointer (some ⟨b, 0, none⟩), .int .i64 x] W fun e w' => e = .returned (.tuple #[.int .u32 (n : Int), .int .i64 0]) ∧ TPost W b m (n + 1) s (L ++ [(x, n)]) w' := by
  obtain ⟨c0, c1, c2, z0, z1⟩ := h.cells
  have hlk := h.map.look hx
  rw [hd] at hlk
  simp only [Option.getD_none, Option.isSome_none] at hlk
  have hl := h.map.size
  have n0 : ¬ x < 0 := by omega
  have n1 : ¬ 256 ≤ x := by omega
  have n2 : ¬ (64 : Int) ≤ (L.length : Int) := by omega
  have n3 : ¬ 64 ≤ L.length := by omega
  obtain ⟨w1, hup, hm1, hg⟩ := h.map.put (c := n) (by unfold maxLen; omega) hx (by omega)
  have FIN := hide (fun w2 => draw_fin (w2 := w2) h hd h0 h1 hf hn hm1 hg)
  have hnm : some b ≠ some m := fun e => h.ne (by simpa using e)
  have d0 : w1.cell? ⟨b, 0, none⟩ = _ := hg.cell c0 hnm
  have y0 : w1.frozen? ⟨b, 0, none⟩ = false := by
    have hs1 : w1.heap[b]? = _ := (hg.block b h.blt hnm).trans h.str
    simp [World.frozen?, hs1]
  have wr : IntKind.u32.wrap ((n : Int) + 1) = ((n + 1 : Nat) : Int) := by
    have e1 : ((n + 1 : Nat) : Int) = (n : Int) + 1 := by omega
    rw [e1]
    exact u32_in _ (by omega)
  clear h hm1 hg hnm
  go_enter Try.func9, Try.ntmps9
  go_wp2
  go_ret2
  exact ⟨rfl, FIN.out _ rfl⟩
end
end Go.Proofs.Ytplcpoajhkcjnaa.Con
