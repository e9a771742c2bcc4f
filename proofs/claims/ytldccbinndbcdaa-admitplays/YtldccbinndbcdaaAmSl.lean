/- Slices of entries that are read. -/
import Derived.Test.YtldccbinndbcdaaAmPl
import Derived.Test.YtldccbinndbcdaaWnSl
import Derived.Test.YtldccbinndbcdaaFpT
namespace Go.Proofs.Ytldccbinndbcdaa.Am
open Go.RowKit Go.Proofs.Ytldccbinndbcdaa.Con Go.Proofs.Ytldccbinndbcdaa.Wn Go.Proofs.Ytldccbinndbcdaa.Fp
set_option linter.unusedVariables false
set_option linter.unusedSimpArgs false
abbrev enV (e : En) : Value := .agg #[.int .i64 e.id, .int .i64 e.pr.1, .int .i64 e.pr.2, .int .i64 e.till]
def flatE : List En → List Value
  | [] => []
  | e :: l => .int .i64 e.id :: .int .i64 e.pr.1 :: .int .i64 e.pr.2 :: .int .i64 e.till :: flatE l
theorem flatE_len (l : List En) : (flatE l).length = l.length * 4 := by
  induction l with
  | nil => rfl
  | cons s l ih => simp only [flatE, List.length_cons, ih]; omega
theorem flatE_app (a b : List En) : flatE (a ++ b) = flatE a ++ flatE b := by
  induction a with
  | nil => rfl
  | cons s a ih => simp [flatE, ih]
theorem flatE_one : ∀ (l : List En), ∀ u ∈ flatE l, u.oneCell' = true := by
  intro l
  induction l with
  | nil => intro u hu; cases hu
  | cons s l ih =>
    intro u hu
    simp only [flatE, List.mem_cons] at hu
    rcases hu with rfl | rfl | rfl | rfl | hu
    · rfl
    · rfl
    · rfl
    · rfl
    · exact ih u hu
theorem flatE_get : ∀ (l : List En) (j : Nat) (s : En), l[j]? = some s → (flatE l)[j * 4]? = some (.int .i64 s.id) ∧ (flatE l)[j * 4 + 1]? = some (.int .i64 s.pr.1) ∧ (flatE l)[j * 4 + 2]? = some (.int .i64 s.pr.2) ∧ (flatE l)[j * 4 + 3]? = some (.int .i64 s.till) := by
  intro l
  induction l with
  | nil => intro j s h; simp at h
  | cons x l ih =>
    intro j s h
    cases j with
    | zero =>
      simp only [List.getElem?_cons_zero, Option.some.injEq] at h
      subst h
      exact ⟨rfl, rfl, rfl, rfl⟩
    | succ j =>
      rw [List.getElem?_cons_succ] at h
      have := ih j s h
      rw [show (j + 1) * 4 = j * 4 + 1 + 1 + 1 + 1 by omega]
      simpa [flatE] using this
theorem flatE_snoc (l : List En) (k : Nat) (h : k < l.length) : flatE (l.take (k + 1)) = flatE (l.take k) ++ [.int .i64 (atE l k).id, .int .i64 (atE l k).pr.1, .int .i64 (atE l k).pr.2, .int .i64 (atE l k).till] := by
  rw [takeE_snoc l k h, flatE_app]; rfl
/-- A slice of entries that is read. -/
abbrev Es (W : World) (v : Value) (L : List En) : Prop := RdC W W.heap.size 4 v L.length (flatE L)
theorem Es.form {W : World} {v : Value} {L : List En} (h : Es W v L) : ∃ p cap, v = .slice p L.length cap ∧ L.length ≤ cap ∧ cap ≤ maxLen := by
  obtain ⟨_, p, cap, rfl, h1, h2, _⟩ := h
  exact ⟨p, cap, rfl, h1, h2⟩
theorem Es.at {W : World} {p : Option Addr} {n cap : Nat} {L : List En} (h : Es W (.slice p n cap) L) {k : Nat} (hk : k < L.length) :
    ∃ b o, p = some ⟨b, o, none⟩ ∧ b < W.heap.size ∧ W.cell? ⟨b, o + k * 4, none⟩ = some (.int .i64 (atE L k).id) ∧ W.cell? ⟨b, o + k * 4 + 1, none⟩ = some (.int .i64 (atE L k).pr.1) ∧ W.cell? ⟨b, o + k * 4 + 2, none⟩ = some (.int .i64 (atE L k).pr.2) ∧ W.cell? ⟨b, o + k * 4 + 3, none⟩ = some (.int .i64 (atE L k).till) := by
  obtain ⟨_, p', cap', e, _, _, h4⟩ := h
  simp only [Value.slice.injEq] at e
  obtain ⟨rfl, rfl, rfl⟩ := e
  obtain ⟨b, o, rfl, hb, hc⟩ := h4 (by omega)
  obtain ⟨g0, g1, g2, g3⟩ := flatE_get L k _ (atE_eq hk)
  exact ⟨b, o, rfl, hb, hc (k * 4) _ g0, by have := hc (k * 4 + 1) _ g1; rwa [show o + (k * 4 + 1) = o + k * 4 + 1 by omega] at this, by have := hc (k * 4 + 2) _ g2; rwa [show o + (k * 4 + 2) = o + k * 4 + 2 by omega] at this, by have := hc (k * 4 + 3) _ g3; rwa [show o + (k * 4 + 3) = o + k * 4 + 3 by omega] at this⟩
theorem Es.below {W W' : World} {v : Value} {L : List En} (h : Es W v L) (hB : Below W.heap.size W W') : Es W' v L := (RdC.below h hB).mono hB.size
theorem Es.own {W : World} {base e : Nat} {v : Value} {L : List En} (h : W.ownsRow base e 4 v L.length (flatE L)) : Es W v L := RdC.own h
theorem Es.nil (W : World) : Es W (.slice none 0 0) [] := ⟨rfl, none, 0, rfl, Nat.le_refl _, by unfold maxLen; omega, fun h => by simp at h⟩
end Go.Proofs.Ytldccbinndbcdaa.Am
