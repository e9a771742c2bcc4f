/- New, Len, Top, Key. -/
import Derived.Test.YtmdendffbjhdbaaHTake
namespace Go.Proofs.Ytmdendffbjhdbaa.Con
open Go.RowKit Go.Proofs.Ytmdendffbjhdbaa.Hq
set_option linter.unusedVariables false
set_option linter.unusedSimpArgs false
/-- A heap that is as it should be. -/
structure HQ (W : World) (hb mb : Nat) (most : Int) (g : Bool) (v : Value) (l : List It) : Prop where
  hp : Hp W hb mb most g v l
  heap : Heap g l
  room : (l.length : Int) ≤ most
  lo : 1 ≤ most
  hi : most ≤ 1024
section
variable {W W' : World} {hb mb : Nat} {most : Int} {g : Bool} {v : Value} {l : List It}
theorem HQ.below (h : HQ W hb mb most g v l) (hB : Below W.heap.size W W') : HQ W' hb mb most g v l := ⟨h.hp.below hB, h.heap, h.room, h.lo, h.hi⟩
theorem HQ.len (h : HQ W hb mb most g v l) : l.length ≤ 1024 := by have := h.room; have := h.hi; omega
theorem HQ.slice (h : HQ W hb mb most g v l) : ∃ p cap, v = .slice p l.length cap := by
  obtain ⟨_, ⟨rfl, h2⟩ | ⟨r, cap, cur, rfl, _⟩⟩ := h.hp.row
  · exact ⟨none, 0, by rw [h2]⟩
  · exact ⟨_, cap, rfl⟩
end
def held (n : Int) : Int := min (max n 1) 1024
def NewPost (n : Int) (g : Bool) (w : World) (e : Ending) (w' : World) : Prop :=
  ∃ hb mb, e = .returned (.pointer (some ⟨hb, 0, none⟩)) ∧ HQ w' hb mb (held n) g (.slice none 0 0) [] ∧ Below w.heap.size w w' ∧ w.heap.size ≤ hb ∧ w.heap.size ≤ mb
set_option maxHeartbeats 800000 in
theorem new_any (n : Int) (g : Bool) (w : World) :
    Calls Try.prog 22 #[.int .i64 n, .bool g] w fun e w' => NewPost n g w e w' := by
  have hh := hide (show 1 ≤ held n ∧ held n ≤ 1024 by unfold held; omega)
  have he := hide (show held n = min (max n 1) 1024 from rfl)
  have hmm := fun W => run_makeMap (P := Try.prog) 70 W
  go_enter Try.func22, Try.ntmps22
  go_wp2
  all_goals
    go_ret
    unfold NewPost
    refine ⟨w.heap.size + 1, w.heap.size, rfl, ⟨⟨?_, ?_, ?_, ?_, ?_⟩, ?_, ?_, hh.out.1, hh.out.2⟩, ?_, by omega, by omega⟩
    · rw [show w.heap.size + 1 = (w.alloc (.map #[] 0)).heap.size by simp, heap_alloc_new]
      first
        | rw [show held n = 1 by rw [he.out]; omega]
        | rw [show held n = 1024 by rw [he.out]; omega]
        | rw [show held n = n by rw [he.out]; omega]
    · exact World.ownsRow_nil _ _ _ _
    · exact (Mp.made _ w).kept (heap_alloc_old _ _ (by simp))
    · exact List.nodup_nil
    · intro x hx; simp at hx
    · intro i _ h; simp at h
    · have := hh.out.1; simp; omega
    · exact ((Below.refl _ _).alloc (Nat.le_refl _) _).alloc (by simp) _
set_option maxHeartbeats 800000 in
theorem top_any {W : World} {hb mb : Nat} {most : Int} {g : Bool} {v : Value} {l : List It} (h : HQ W hb mb most g v l) :
    Calls Try.prog 28 #[.pointer (some ⟨hb, 0, none⟩)] W fun e w' => e = .returned (.tuple #[.agg #[.int .i64 (at' l 0).1, .int .i64 (at' l 0).2], .bool (decide (0 < l.length))]) ∧ Below W.heap.size W w' := by
  by_cases h0 : 0 < l.length
  · obtain ⟨r, cap, rfl, hn, hm⟩ := h.hp.form h0
    obtain ⟨_, _, c2, _⟩ := h.hp.cells
    obtain ⟨a0, a1, _, _⟩ := h.hp.item rfl 0 h0
    have h0' : ¬ ((l.length : Int) = 0) := by omega
    have h0'' : (0 : Int) < l.length := by omega
    have hd := hide (decide_eq_true h0)
    have n0 := World.block_lt_of_cell? W _ c2
    have n1 := World.block_lt_of_cell? W _ a0
    simp only [Nat.zero_mul, Nat.zero_add] at a0 a1 n0 n1
    generalize (at' l 0).1 = x at *
    generalize (at' l 0).2 = y at *
    go_enter Try.func28, Try.ntmps28
    go_wp2
    refine bodyPost_ret (v := .tuple #[.agg #[.int .i64 x, .int .i64 y], .bool true]) (by simp [results, Try.results28, go_sem]) rfl ⟨by rw [hd.out], ?_⟩
    exact (Below.refl _ _).alloc (Nat.le_refl _) _
  · obtain rfl : l = [] := List.eq_nil_of_length_eq_zero (by omega)
    obtain ⟨p, cap, rfl⟩ := h.slice
    obtain ⟨_, _, c2, _⟩ := h.hp.cells
    have n0 := World.block_lt_of_cell? W _ c2
    go_enter Try.func28, Try.ntmps28
    go_wp2
    refine bodyPost_ret (v := .tuple #[.agg #[.int .i64 0, .int .i64 0], .bool false]) (by simp [results, Try.results28, go_sem]) rfl ⟨rfl, ?_⟩
    exact (Below.refl _ _).alloc (Nat.le_refl _) _
end Go.Proofs.Ytmdendffbjhdbaa.Con
