/- All, of none too, beside the reference's row. -/
import Derived.Test.YtocgeplpehioeaaRfM
namespace Go.Proofs.Ytocgeplpehioeaa.Con
open Go.RowKit Go.Proofs.Ytocgeplpehioeaa.Hq
set_option linter.unusedVariables false
set_option linter.unusedSimpArgs false
theorem run_copy_zero (W : World) (p q : Option Addr) (c d : Nat) (ty : TypeId) :
    (Builtin.copy_ #[34, 34] ty #[.slice p 0 c, .slice q 0 d]).run Try.prog W = .ok (.int .i64 0) W := by
  obtain ⟨i0, hi, hz⟩ : ∃ i, Try.prog.info? 29 = some i ∧ (i.zero, i.size, i.bytes) = (some (.agg #[.int .i64 0, .int .i64 0]), 2, 16) := by
    have := info29
    rw [Option.map_eq_some_iff] at this
    exact this
  have hf : (Builtin.firstCells i0.size 0 (.slice q 0 d)).run Try.prog W = .ok #[] W := by
    cases q with
    | none => exact run_firstCells_none W _ 0 0 d
    | some a => exact run_firstCells_some (P := Try.prog) W i0.size 0 a 0 d [] (by simp) (fun j u hu => by simp at hu)
  cases p <;> simp [Builtin.copy_, run_underlying under34, sizeOf, typeInfo, hi, Builtin.lenOf, hf, goInt, storeCells, Result.andThen]
set_option maxHeartbeats 800000 in
theorem all_nil {W : World} {hb mb : Nat} {most : Int} {g : Bool} {v : Value} {l : List It} (h : HQ W hb mb most g v l) (h0 : l.length = 0) :
    Calls Try.prog 16 #[.pointer (some ⟨hb, 0, none⟩)] W fun e w' => AllPost W (fun l' => l'.Perm l ∧ Asc g l') 0 e w' := by
  obtain rfl : l = [] := List.eq_nil_of_length_eq_zero h0
  obtain ⟨cur, hcs, hmk⟩ := run_make_items 0 (by omega) W
  obtain rfl : cur = (flat []).toArray := by
    have : cur = #[] := Array.eq_empty_of_size_eq_zero (by omega)
    rw [this]; rfl
  have hal : Below W.heap.size W (W.alloc (.cells (flat []).toArray 29)) := (Below.refl _ _).alloc (Nat.le_refl _) _
  obtain ⟨p, cap, hv⟩ := h.slice
  have hmk' : (Instr.makeSlice 34 (.int .i64 0) (.int .i64 0)).run Try.prog W = .ok (.slice (some ⟨W.heap.size, 0, none⟩) 0 0) (W.alloc (.cells (flat []).toArray 29)) := hmk
  clear hmk
  have hcp := fun (w : World) => run_copy_zero w (some ⟨W.heap.size, 0, none⟩) p 0 cap 3
  obtain ⟨_, c1, c2, _⟩ := h.hp.cells
  obtain ⟨_, d1, _, _⟩ := (h.below hal).hp.cells
  have hlt := h.hp.lt
  have HS := hide (sort_any (W0 := W.alloc (.cells (flat []).toArray 29)) (W := W.alloc (.cells (flat []).toArray 29)) (r := W.heap.size) (m := []) (g := g) (n := 0) rfl ⟨heap_alloc_new W _, ⟨rfl, rfl, rfl, Nat.le_refl _, fun _ _ _ => rfl⟩, d1, by omega, h.hp.ids, by simp⟩)
  subst hv
  rw [show ([] : List It).length = 0 from rfl] at c2
  have hbl := World.block_lt_of_cell? W _ c2
  have hmf : ∀ (fn : Fn) (first cap : Array Value) (w : World), (Instr.makeFunc fn first cap).run Try.prog w = .ok (.func fn first cap) w := fun _ _ _ _ => rfl
  generalize (flat []).toArray = FL at *
  clear h hal d1
  go_enter Try.func16, Try.ntmps16
  go_wp2_with (go_at_call 26; refine HS.out.mono ?_; rintro e w1 ⟨rfl, hP⟩)
  go_ret
  obtain ⟨m', s1, r1, o1⟩ := hP
  unfold AllPost
  have hm' := r1.length
  refine ⟨W.heap.size, m', rfl, hm', ⟨r1.perm, asc_of (by rw [hm']; exact o1)⟩, s1.row, ?_, Nat.le_refl _⟩
  refine ⟨s1.grown.os, s1.grown.tape, s1.grown.output, by have := s1.grown.size; simp at this; omega, fun k hk => ?_⟩
  rw [s1.grown.block k (by simp; omega) (by simp; omega)]
  exact heap_alloc_old W _ hk
section
variable {W0 W W' : World} {hb mb rb : Nat} {most : Int} {g : Bool} {v v' rv rv' : Value} {l l' L L' : List It} {bs : List (Nat × Obj)}
theorem pm_hall (h : PM W0 W hb mb most g v l rb rv L bs) (hp : l.Perm L) (ha : Asc g L) :
    Calls Try.prog 16 #[.pointer (some ⟨hb, 0, none⟩)] W fun e w' => ∃ r, e = .returned (.slice (some ⟨r, 0, none⟩) L.length L.length) ∧ Hid (PM W0 w' hb mb most g v l rb rv L bs) ∧ Hid (w'.heap[r]? = some (.cells (flat L).toArray 29 (0, 0))) := by
  have he := hp.length_eq
  rcases Nat.eq_zero_or_pos l.length with h0 | h0
  · refine (all_nil h.hq h0).mono ?_
    rintro e w' ⟨r, l', rfl, h1, ⟨h2, h3⟩, h4, h5, h6⟩
    rw [asc_eq h3 ha (h2.trans hp)] at h4
    exact ⟨r, by rw [show L.length = 0 by omega], hide (h.more h5), hide h4⟩
  · refine (all_any h.hq h0).mono ?_
    rintro e w' ⟨r, l', rfl, h1, ⟨h2, h3⟩, h4, h5, h6⟩
    rw [asc_eq h3 ha (h2.trans hp)] at h4
    exact ⟨r, by rw [he], hide (h.more h5), hide h4⟩
end
end Go.Proofs.Ytocgeplpehioeaa.Con
