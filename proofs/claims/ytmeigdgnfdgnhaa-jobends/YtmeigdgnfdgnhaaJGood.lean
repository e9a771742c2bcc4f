/- Good, Step, Left of job. -/
import Derived.Test.YtmeigdgnfdgnhaaJClo
namespace Go.Proofs.Ytmeigdgnfdgnhaa.Con
open Go.RowKit Go.Proofs.Ytmeigdgnfdgnhaa.Pm
set_option linter.unusedVariables false
set_option linter.unusedSimpArgs false
/-- A job, as a value. -/
abbrev jv (num : Int) (v : Value) (a d : Int) : Value := .agg #[.int .i64 num, v, .int .i64 a, .int .i64 d]
theorem total_nn {L : List St} (h : good L = true) : 0 ≤ total L := by rw [total_good h]; have := sum_bound h L.length; rw [List.take_length] at this; exact this.1
theorem box_row {W w' : World} {o : Obj} (hb : Below (W.alloc o).heap.size (W.alloc o) w') : w'.heap[W.heap.size]? = some o :=
  (hb.block W.heap.size (by simp)).trans (heap_alloc_new W o)
theorem row_cells {w : World} {g e : Nat} {x y z t : Value} {fr : Nat × Nat} (h : w.heap[g]? = some (.cells #[x, y, z, t] e fr)) :
    w.cell? ⟨g, 0, none⟩ = some x ∧ w.cell? ⟨g, 1, none⟩ = some y ∧ w.cell? ⟨g, 2, none⟩ = some z ∧ w.cell? ⟨g, 3, none⟩ = some t :=
  ⟨(cell_of_row w g 0 _ e _ h).trans rfl, (cell_of_row w g 1 _ e _ h).trans rfl, (cell_of_row w g 2 _ e _ h).trans rfl, (cell_of_row w g 3 _ e _ h).trans rfl⟩
set_option maxHeartbeats 2000000 in
theorem jgood_any {W : World} {v : Value} {num a d : Int} {L : List St} (h : Sl W v L) :
    Calls Try.prog 11 #[jv num v a d] W fun e w' => e = .returned (.bool (jgood ⟨num, L, a, d⟩)) ∧ Below W.heap.size W w' := by
  obtain ⟨p, cap, rfl, hn, hm⟩ := h.form
  have hb0 : Below W.heap.size W (W.alloc (.cells #[.int .i64 num, .slice p L.length cap, .int .i64 a, .int .i64 d] 28)) := (Below.refl _ W).alloc (Nat.le_refl _) _
  have HB0 := hide hb0
  have HG := hide (good_any (h.below hb0))
  have HS := hide (h.below hb0)
  have BAD : Hid (¬ (1 ≤ num ∧ good L = true ∧ 0 ≤ a ∧ a ≤ L.length ∧ 0 ≤ d ∧ (a = L.length → d = 0) ∧ (a ≠ L.length → d ≤ (at' L a.toNat).2)) → jgood ⟨num, L, a, d⟩ = false) := hide (fun h => jbad h)
  have OKK : Hid ((1 ≤ num ∧ good L = true ∧ 0 ≤ a ∧ a ≤ L.length ∧ 0 ≤ d ∧ (a = L.length → d = 0) ∧ (a ≠ L.length → d ≤ (at' L a.toNat).2)) → jgood ⟨num, L, a, d⟩ = true) := hide (fun h => (jgood_iff _).2 h)
  clear h hb0
  by_cases h1 : num < 1
  · have FE := hide (BAD.out (fun h => by omega))
    clear BAD OKK HG HS
    go_enter Try.func11, Try.ntmps11
    go_wp2
    go_ret
    exact ⟨by rw [FE.out]; rfl, HB0.out⟩
  cases hg : good L with
  | false =>
    have FE := hide (BAD.out (fun h => by rw [hg] at h; simp at h))
    rw [hg] at HG
    clear BAD OKK HS hg
    go_enter Try.func11, Try.ntmps11
    go_wp2_with (go_at_call 16; refine HG.out.mono ?_; rintro e w1 ⟨rfl, hb⟩; refine Hid.out ?_)
    refine hide ?_
    have HB := hide (HB0.out.trans (Below.mono hb (by simp)))
    clear hb HB0
    go_wp2
    go_ret
    exact ⟨by rw [FE.out]; rfl, HB.out⟩
  | true =>
    rw [hg] at HG
    go_enter Try.func11, Try.ntmps11
    go_wp2_with (go_at_call 16; refine HG.out.mono ?_; rintro e w1 ⟨rfl, hb⟩; refine Hid.out ?_)
    refine hide ?_
    have HB := hide (HB0.out.trans (Below.mono hb (by simp)))
    obtain ⟨x0, x1, x2, x3⟩ := row_cells (box_row hb)
    have HS1 := hide (HS.out.below hb)
    clear hb HB0 HG HS
    by_cases h2 : a < 0
    · have FE := hide (BAD.out (fun h => by omega))
      clear BAD OKK
      go_wp2
      go_ret
      exact ⟨by rw [FE.out]; rfl, HB.out⟩
    by_cases h3 : (L.length : Int) < a
    · have FE := hide (BAD.out (fun h => by omega))
      clear BAD OKK
      go_wp2
      go_ret
      exact ⟨by rw [FE.out]; rfl, HB.out⟩
    by_cases h4 : d < 0
    · have FE := hide (BAD.out (fun h => by omega))
      clear BAD OKK
      go_wp2
      go_ret
      exact ⟨by rw [FE.out]; rfl, HB.out⟩
    by_cases h5 : a = L.length
    · by_cases h6 : d = 0
      · have FE := hide (OKK.out ⟨by omega, hg, by omega, by omega, by omega, fun _ => h6, fun e => absurd h5 e⟩)
        clear BAD OKK
        subst h6
        subst h5
        go_wp2
        go_ret
        exact ⟨by rw [FE.out]; rfl, HB.out⟩
      · have FE := hide (BAD.out (fun h => h6 (h.2.2.2.2.2.1 h5)))
        clear BAD OKK
        have q2 : (d == 0) = false := by simp [h6]
        subst h5
        go_wp2
        go_ret
        exact ⟨by rw [FE.out]; rfl, HB.out⟩
    · obtain ⟨k, rfl⟩ : ∃ k : Nat, a = k := ⟨a.toNat, by omega⟩
      have hk : k < L.length := by omega
      have hk1 : (k : Int) < (L.length : Int) := by omega
      have q1 : ((k : Int) == (L.length : Int)) = false := by simp; omega
      obtain ⟨b, o, rfl, hb, y0, y1⟩ := HS1.out.at hk
      have HBD : Hid (∀ n, Below W.heap.size W (w1.drewN n)) := hide (fun n => below_drewN HB.out n)
      have FE : Hid (jgood ⟨num, L, k, d⟩ = decide (d ≤ (at' L k).2)) := hide (by
        by_cases h6 : d ≤ (at' L k).2
        · rw [OKK.out ⟨by omega, hg, by omega, by omega, by omega, fun e => absurd e h5, fun _ => by simpa using h6⟩, decide_eq_true h6]
        · rw [BAD.out (fun h => h6 (by simpa using h.2.2.2.2.2.2 h5)), decide_eq_false h6])
      clear BAD OKK HB
      generalize (at' L k).1 = z at *
      generalize (at' L k).2 = z' at *
      go_wp2
      go_quiet (fail)
      go_wp2
      go_ret
      exact ⟨by rw [FE.out]; rfl, HBD.out _⟩
end Go.Proofs.Ytmeigdgnfdgnhaa.Con
