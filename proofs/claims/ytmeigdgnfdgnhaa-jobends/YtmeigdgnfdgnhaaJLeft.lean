/- Left of job. -/
import Derived.Test.YtmeigdgnfdgnhaaJStep
namespace Go.Proofs.Ytmeigdgnfdgnhaa.Con
open Go.RowKit Go.Proofs.Ytmeigdgnfdgnhaa.Pm
set_option linter.unusedVariables false
set_option linter.unusedSimpArgs false
theorem flat_drop : ∀ (L : List St) (k : Nat), (flat L).drop (k * 2) = flat (L.drop k) := by
  intro L
  induction L with
  | nil => intro k; simp [flat]
  | cons s L ih =>
    intro k
    cases k with
    | zero => simp
    | succ k =>
      rw [show (k + 1) * 2 = k * 2 + 1 + 1 by omega]
      simpa [flat] using ih k
/-- What is behind the first k. -/
theorem Sl.from {W : World} {v : Value} {L : List St} (h : Sl W v L) (k : Nat) (hk : k ≤ L.length) :
    ∃ p c, (∀ w : World, (Instr.slice 26 v (some (.int .i64 (k : Int))) none none).run Try.prog w = .ok (.slice p (L.length - k) c) w) ∧ Sl W (.slice p (L.length - k) c) (L.drop k) := by
  obtain ⟨i0, hi, hz0, hz1, hz2⟩ := info_parts infoSt
  obtain ⟨p, c, h1, h2⟩ := RdC.from h 26 24 i0 Try.underlying26 hi hz1 k hk
  refine ⟨p, c, h1, ?_⟩
  rw [flat_drop, ← List.length_drop] at h2
  rw [← List.length_drop]; exact h2
set_option maxHeartbeats 4000000 in
theorem jleft_any {W : World} {v : Value} {num a d : Int} {L : List St} (h : Sl W v L) :
    Calls Try.prog 14 #[jv num v a d] W fun e w' => e = .returned (.int .i64 (jleft ⟨num, L, a, d⟩)) ∧ Below W.heap.size W w' := by
  obtain ⟨p, cap, rfl, hn, hm⟩ := h.form
  have b1 : Below W.heap.size W (W.alloc (.cells #[.int .i64 num, .slice p L.length cap, .int .i64 a, .int .i64 d] 28)) := (Below.refl _ W).alloc (Nat.le_refl _) _
  have HB0 := hide b1
  have HG := hide (jgood_any (num := num) (a := a) (d := d) (h.below b1))
  have HS := hide (h.below b1)
  clear h b1
  go_enter Try.func14, Try.ntmps14
  go_wp2_with (go_at_call 11; refine HG.out.mono ?_; rintro e w1 ⟨rfl, hb⟩; refine Hid.out ?_)
  refine hide ?_
  have hrow := box_row hb
  have hlt : W.heap.size < w1.heap.size := (Array.getElem?_eq_some_iff.1 hrow).1
  obtain ⟨x0, x1, x2, x3⟩ := row_cells hrow
  have HB := hide (HB0.out.trans (Below.mono hb (by simp)))
  have HS1 := hide (HS.out.below hb)
  clear hb HB0 HG HS
  cases hg : jgood ⟨num, L, a, d⟩ with
  | false =>
    have FE := hide (jleft_bad hg)
    clear hg
    go_wp2
    go_ret
    exact ⟨by rw [FE.out]; rfl, HB.out⟩
  | true =>
    have FE : Hid (jleft ⟨num, L, a, d⟩ = total (L.drop a.toNat) - d) := hide (by unfold jleft; rw [if_pos hg])
    obtain ⟨g1, g2, g3, g4, g5, g6, g7⟩ := (jgood_iff _).1 hg
    have hlb := jleft_bound (j := ⟨num, L, a, d⟩)
    rw [FE.out] at hlb
    simp only at g3 g4
    obtain ⟨k, rfl⟩ : ∃ k : Nat, a = k := ⟨a.toNat, by omega⟩
    have hk : k ≤ L.length := by omega
    rw [show (((k : Nat) : Int).toNat) = k by simp] at FE hlb
    obtain ⟨hl0, hl1⟩ := hlb
    have wr1 : Hid (IntKind.i64.wrap (total (L.drop k) - d) = total (L.drop k) - d) := hide (by rw [IntKind.wrap_i64]; omega)
    obtain ⟨p2, c2, hsl, hr⟩ := HS1.out.from k hk
    have TT := hide (total_any (hr.below (bel_drew (Below.refl _ _) : Below w1.heap.size w1 w1.drew)))
    have HBX : Hid (∀ w2, Below w1.drew.heap.size w1.drew w2 → Below W.heap.size W w2 ∧ w2.heap[W.heap.size]? = some (.cells #[.int .i64 num, .slice p L.length cap, .int .i64 (k : Int), .int .i64 d] 28)) := hide (fun w2 hb2 =>
      ⟨(bel_drew HB.out).trans (Below.mono hb2 HB.out.size), (hb2.block _ hlt).trans hrow⟩)
    generalize total (L.drop k) = tt at *
    clear g1 g2 g3 g4 g5 g6 g7 hg hr hrow hlt
    go_wp2
    go_region_held3 (fun w' => w'.cell? ⟨W.heap.size, 1, none⟩ = some (.slice p L.length cap) ∧ w'.cell? ⟨W.heap.size, 2, none⟩ = some (.int .i64 (k : Int)) ∧ w'.cell? ⟨W.heap.size, 3, none⟩ = some (.int .i64 d)) (first | (exact ⟨y1, y2, y3⟩) | go_keep) ((with_reducible refine TT.out.mono ?_; rintro e w2 ⟨rfl, hb⟩; obtain ⟨y0, y1, y2, y3⟩ := row_cells (HBX.out w2 hb).2))
    have HB2 := hide (HBX.out w2 hb).1
    go_wp2
    go_ret
    exact ⟨by rw [FE.out]; show Ending.returned (Value.int IntKind.i64 (IntKind.i64.wrap (tt - d))) = _; rw [wr1.out], HB2.out⟩
end Go.Proofs.Ytmeigdgnfdgnhaa.Con
