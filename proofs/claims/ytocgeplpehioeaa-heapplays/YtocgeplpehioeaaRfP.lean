/- The reference's heap: Held, NewHeap, Put, Set. -/
import Derived.Test.YtocgeplpehioeaaRfD
namespace Go.Proofs.Ytocgeplpehioeaa.Con
open Go.RowKit Go.Proofs.Ytocgeplpehioeaa.Hq
set_option linter.unusedVariables false
set_option linter.unusedSimpArgs false
attribute [local go_sem ↓] Go.wp_at_zero Go.wp_at_succ
theorem rheld_any (n : Int) (W : World) : Calls Try.prog 28 #[.int .i64 n, .int .i64 1, .int .i64 1024] W fun e w' => e = .returned (.int .i64 (held n)) ∧ w' = W := by
  by_cases h1 : n < 1
  · have E := hide (show held n = 1 by unfold held; omega)
    go_enter Try.func28, Try.ntmps28
    go_wp2
    go_ret
    exact ⟨ret_int E.out.symm, rfl⟩
  · by_cases h2 : 1024 < n
    · have E := hide (show held n = 1024 by unfold held; omega)
      go_enter Try.func28, Try.ntmps28
      go_wp2
      go_ret
      exact ⟨ret_int E.out.symm, rfl⟩
    · have E := hide (show held n = n by unfold held; omega)
      go_enter Try.func28, Try.ntmps28
      go_wp2
      go_ret
      exact ⟨ret_int E.out.symm, rfl⟩
def RNewPost (n : Int) (g : Bool) (W : World) (e : Ending) (w' : World) : Prop :=
  ∃ rb, e = .returned (.pointer (some ⟨rb, 0, none⟩)) ∧ Rf w' rb (held n) g (.slice none 0 0) [] ∧ Below W.heap.size W w' ∧ W.heap.size ≤ rb
theorem rnew_any (n : Int) (g : Bool) (W : World) : Calls Try.prog 18 #[.int .i64 n, .bool g] W fun e w' => RNewPost n g W e w' := by
  have HE := hide (rheld_any n W)
  generalize hh : held n = m at *
  have HH := hide hh
  clear hh
  go_enter Try.func18, Try.ntmps18
  go_wp2_with (go_at_call 28; refine HE.out.mono ?_; rintro e w1 ⟨rfl, hw⟩; have hw2 := hw.symm; clear hw; subst hw2)
  go_ret
  refine ⟨W.heap.size, rfl, ?_, (Below.refl _ _).alloc (Nat.le_refl _) _, Nat.le_refl _⟩
  rw [HH.out]
  exact ⟨heap_alloc_new W _, ⟨by simp [flat], none, 0, rfl, Nat.le_refl _, Nat.zero_le _, fun h => absurd h (by simp)⟩, fun k e => by simp [Value.ownBlock] at e, by simp⟩
section
variable {W : World} {rb : Nat} {most : Int} {g : Bool} {v : Value} {L : List It}
theorem rput_busy (h : Rf W rb most g v L) (hd : Ids L) (id key : Int) (hth : ∃ y ∈ L, y.1 = id) :
    Calls Try.prog 19 #[.pointer (some ⟨rb, 0, none⟩), .int .i64 id, .int .i64 key] W fun e w' => e = .returned (.int .i64 5) ∧ w' = W := by
  obtain ⟨y, hy, rfl⟩ := hth
  obtain ⟨i, hi, rfl⟩ := mem_at hy
  have FI := hide (rfind_any h hd (at' L i).1)
  rw [pos_some hd hi] at FI
  simp only [Option.getD_some] at FI
  generalize (at' L i).1 = id at *
  go_enter Try.func19, Try.ntmps19
  go_wp2_with (go_at_call 22; refine FI.out.mono ?_; rintro e w1 ⟨rfl, rfl⟩)
  go_ret
  exact ⟨rfl, rfl⟩
theorem rput_full (h : Rf W rb most g v L) (hd : Ids L) (id key : Int) (hth : ∀ y ∈ L, y.1 ≠ id) (hf : most ≤ L.length) :
    Calls Try.prog 19 #[.pointer (some ⟨rb, 0, none⟩), .int .i64 id, .int .i64 key] W fun e w' => e = .returned (.int .i64 3) ∧ Below W.heap.size W w' := by
  have FI := hide (rfind_any h hd id)
  rw [pos_none hth] at FI
  simp only [Option.getD_none] at FI
  obtain ⟨p, cap, rfl, _, _⟩ := h.form
  obtain ⟨c0, _, c2⟩ := h.cells
  go_enter Try.func19, Try.ntmps19
  go_wp2_with (go_at_call 22; refine FI.out.mono ?_; rintro e w1 ⟨rfl, hw⟩; have hw2 := hw.symm; clear hw; subst hw2)
  go_quiet (fail)
  go_wp2
  go_ret
  exact ⟨rfl, below_drewN (Below.refl _ _) _⟩
def RPutPost (W : World) (rb : Nat) (most : Int) (g : Bool) (L : List It) (x : It) (e : Ending) (w' : World) : Prop :=
  e = .returned (.int .i64 0) ∧ ∃ v' L', Rf w' rb most g v' L' ∧ RT W w' rb v' ∧ L'.Perm (x :: L) ∧ (Asc g L → Asc g L')
theorem rput_ok (h : Rf W rb most g v L) (hd : Ids L) (id key : Int) (hth : ∀ y ∈ L, y.1 ≠ id) (hf : ¬ most ≤ L.length) (hm : most ≤ 1024) :
    Calls Try.prog 19 #[.pointer (some ⟨rb, 0, none⟩), .int .i64 id, .int .i64 key] W fun e w' => RPutPost W rb most g L (id, key) e w' := by
  have FI := hide (rfind_any h hd id)
  rw [pos_none hth] at FI
  simp only [Option.getD_none] at FI
  have IN := hide (fun n => rin_any (h.below (below_drewN (Below.refl _ W) n)) (id, key) (by omega))
  obtain ⟨p, cap, rfl, _, _⟩ := h.form
  obtain ⟨c0, _, c2⟩ := h.cells
  have h2 : ¬ most ≤ (L.length : Int) := hf
  clear h
  go_enter Try.func19, Try.ntmps19
  go_wp2_with (go_at_call 22; refine FI.out.mono ?_; rintro e w1 ⟨rfl, hw⟩; have hw2 := hw.symm; clear hw; subst hw2)
  go_quiet (fail)
  go_wp2_with (go_at_call 29; refine (IN.out _).mono ?_; rintro e w1 ⟨rfl, hP⟩)
  go_ret
  obtain ⟨v', L', p1, p2, p3, p4⟩ := hP
  exact ⟨rfl, v', L', p1, p2.after (below_drewN (Below.refl _ _) _), p3, p4⟩
theorem rset_none (h : Rf W rb most g v L) (hd : Ids L) (id key : Int) (hth : ∀ y ∈ L, y.1 ≠ id) :
    Calls Try.prog 20 #[.pointer (some ⟨rb, 0, none⟩), .int .i64 id, .int .i64 key] W fun e w' => e = .returned (.int .i64 2) ∧ w' = W := by
  have DR := hide (rdrop_none h hd id hth)
  go_enter Try.func20, Try.ntmps20
  go_wp2_with (go_at_call 21; refine DR.out.mono ?_; rintro e w1 ⟨rfl, rfl⟩)
  go_ret
  exact ⟨rfl, rfl⟩
def RSetPost (W : World) (rb : Nat) (most : Int) (g : Bool) (L : List It) (x : It) (e : Ending) (w' : World) : Prop :=
  e = .returned (.int .i64 0) ∧ ∃ v' y L0 L', Rf w' rb most g v' L' ∧ RT W w' rb v' ∧ y.1 = x.1 ∧ (y :: L0).Perm L ∧ L'.Perm (x :: L0) ∧ (Asc g L → Asc g L')
theorem rset_ok (h : Rf W rb most g v L) (hd : Ids L) (id key : Int) (hth : ∃ y ∈ L, y.1 = id) :
    Calls Try.prog 20 #[.pointer (some ⟨rb, 0, none⟩), .int .i64 id, .int .i64 key] W fun e w' => RSetPost W rb most g L (id, key) e w' := by
  obtain ⟨y, hy, he⟩ := hth
  obtain ⟨i, hi, rfl⟩ := mem_at hy
  have DR := hide (rdrop_some h hd id i hi he)
  have HE := hide he
  have hl := h.len
  clear h
  go_enter Try.func20, Try.ntmps20
  go_wp2_with (go_at_call 21; refine DR.out.mono ?_; rintro e w1 ⟨rfl, hP⟩; have HP := hide hP; clear hP)
  obtain ⟨v1, L1, p1, p2, p3, p4⟩ := HP.out
  have hl1 : L1.length < 1024 := by have := p3.length_eq; simp at this; omega
  have IN := hide (rin_any p1 (id, key) hl1)
  have Q := hide (And.intro p2 (And.intro p3 p4))
  clear p1 p2 p3 p4 HP hl1
  refine IN.out.mono ?_
  rintro e w2 ⟨rfl, hP⟩
  have HP := hide hP
  clear hP
  go_wp2
  go_ret
  obtain ⟨v2, L2, r1, r2, r3, r4⟩ := HP.out
  obtain ⟨p2, p3, p4⟩ := Q.out
  refine ⟨rfl, v2, at' L i, L1, L2, r1, ?_, HE.out, p3, r3, fun ha => r4 (p4 ha)⟩
  refine ⟨r2.os.trans p2.os, r2.tape.trans p2.tape, r2.output.trans p2.output, Nat.le_trans p2.size r2.size, fun k hk hne => (r2.block k (by have := p2.size; omega) hne).trans (p2.block k hk hne), fun k e => by have := r2.own k e; have := p2.size; omega⟩
end
end Go.Proofs.Ytocgeplpehioeaa.Con
