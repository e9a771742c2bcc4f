/- A job on its way: plain mathematics. -/
import Derived.Test.YtmeigdgnfdgnhaaJBy
namespace Go.Proofs.Ytmeigdgnfdgnhaa.Pm
set_option linter.unusedVariables false
set_option linter.unusedSimpArgs false
theorem way_bound {num a d : Int} {L : List St} (h : Way ⟨num, L, a, d⟩) : (0 ≤ a ∧ a ≤ L.length ∧ L.length ≤ 8) ∧ 0 ≤ d ∧ d ≤ 2147483648 := by
  obtain ⟨g1, g2, g3, g4, g5, g6, g7⟩ := (jgood_iff _).1 h.1
  have g4 : a ≤ (L.length : Int) := g4
  have g3 : 0 ≤ a := g3
  have g5 : 0 ≤ d := g5
  refine ⟨⟨g3, g4, (good_len g2).2⟩, g5, ?_⟩
  by_cases he : a = L.length
  · have := g6 he
    have : d = 0 := this
    omega
  · have h7 : d ≤ (at' L a.toNat).2 := g7 he
    have := good_at (l := L) g2 (at_eq (show a.toNat < L.length by omega))
    omega
theorem left_new {num : Int} {L : List St} (h1 : 1 ≤ num) (h2 : good L = true) : jleft ⟨num, L, 0, 0⟩ = total L := by
  rw [jleft_good (Way.new h1 h2).1, total_good h2]
  show sumN (L.drop 0) - 0 = _
  rw [List.drop_zero, Int.sub_zero]
/-- One round: run by at least one, and on to the next step if this one is done. -/
theorem ends_step {L : List St} {a d n : Int} (hw : Way ⟨1, L, a, d⟩) (hp : 0 < jleft ⟨1, L, a, d⟩) (hn : 1 ≤ n) :
    ∃ r d1 a2 d2 f, (0 ≤ r ∧ r ≤ n ∧ r ≤ jleft ⟨1, L, a, d⟩) ∧ ran ⟨1, L, a, d⟩ n = r ∧ jrun ⟨1, L, a, d⟩ n = ⟨1, L, a, d1⟩ ∧ fulls ⟨1, L, a, d1⟩ = f ∧ jnext ⟨1, L, a, d1⟩ = ⟨1, L, a2, d2⟩ ∧
      jleft ⟨1, L, a, d1⟩ = jleft ⟨1, L, a, d⟩ - r ∧ jleft ⟨1, L, a2, d2⟩ = jleft ⟨1, L, a, d⟩ - r ∧ Way ⟨1, L, a2, d2⟩ ∧ 0 ≤ a2 ∧ (2147483648 ≤ n → a2 = a + 1) ∧ (f = false → a2 = a ∧ d2 = d1) := by
  have hj : jrun ⟨1, L, a, d⟩ n = ⟨1, L, a, d + ran ⟨1, L, a, d⟩ n⟩ := jrun_at rfl
  have hg := jrun_good hw.1 n
  have hl := jrun_left hw.1 n
  have hnl := jnext_left hg
  have hway := hw.on n
  rw [hj] at hg hl hnl hway
  have hr := ran_bound ⟨1, L, a, d⟩ n
  have hlb := jleft_bound (j := ⟨1, L, a, d + ran ⟨1, L, a, d⟩ n⟩)
  have hnum := jnext_L ⟨1, L, a, d + ran ⟨1, L, a, d⟩ n⟩
  have hform : jnext ⟨1, L, a, d + ran ⟨1, L, a, d⟩ n⟩ = ⟨1, L, (jnext ⟨1, L, a, d + ran ⟨1, L, a, d⟩ n⟩).a, (jnext ⟨1, L, a, d + ran ⟨1, L, a, d⟩ n⟩).d⟩ := by
    obtain ⟨h1, h2⟩ := hnum
    generalize jnext ⟨1, L, a, d + ran ⟨1, L, a, d⟩ n⟩ = J at *
    obtain ⟨x, y, z, t⟩ := J
    simp only at h1 h2 ⊢
    rw [h1, h2]
  have hne : a ≠ L.length := by
    rintro rfl
    have h6 := ((jgood_iff _).1 hw.1).2.2.2.2.2.1 rfl
    have h6 : d = 0 := h6
    rw [jleft_good hw.1] at hp
    have hp : 0 < sumN (L.drop ((L.length : Int)).toNat) - d := hp
    rw [show ((L.length : Int)).toNat = L.length by omega, List.drop_length] at hp
    simp only [sumN] at hp
    omega
  rw [hform] at hnl hway
  have hb2 := way_bound hway
  refine ⟨_, _, _, _, _, ⟨hr.1, by omega, by omega⟩, rfl, hj, rfl, hform, by omega, by omega, hway, hb2.1.1, fun hbig => ?_, fun hf => ?_⟩
  · have h1 := run_all hw.1 (show (⟨1, L, a, d⟩ : Jb).a ≠ (⟨1, L, a, d⟩ : Jb).L.length from hne) hbig
    rw [hj] at h1
    rw [h1]
  · rw [jnext_not hf]; exact ⟨rfl, rfl⟩
end Go.Proofs.Ytmeigdgnfdgnhaa.Pm
