/- A slice of steps that is read; Good. -/
import Derived.Test.YtmeigdgnfdgnhaaJPl
import Derived.BigQuiet
import Derived.Deep.QuietTactic
import Derived.Test.YtmeigdgnfdgnhaaApd
namespace Go.Proofs.Ytmeigdgnfdgnhaa.Con
open Go.RowKit Go.Proofs.Ytmeigdgnfdgnhaa.Pm
set_option linter.unusedVariables false
set_option linter.unusedSimpArgs false
theorem hide {p : Prop} (h : p) : Hid p := h
theorem unhide {p : Prop} (h : Hid p) : p := h.out
/-- A step, as a value. -/
abbrev stv (s : St) : Value := .agg #[.int .i64 s.1, .int .i64 s.2]
theorem below_drewN {B : Nat} {a w : World} (h : Below B a w) (n : Nat) : Below B a (w.drewN n) := h.trans ⟨rfl, rfl, rfl, Nat.le_refl _, fun _ _ => rfl⟩
/-- Steps, as cells. -/
def flat : List St → List Value
  | [] => []
  | s :: l => .int .i64 s.1 :: .int .i64 s.2 :: flat l
theorem flat_len (l : List St) : (flat l).length = l.length * 2 := by
  induction l with
  | nil => rfl
  | cons s l ih => simp only [flat, List.length_cons, ih]; omega
theorem flat_app (a b : List St) : flat (a ++ b) = flat a ++ flat b := by
  induction a with
  | nil => rfl
  | cons s a ih => simp [flat, ih]
theorem flat_one : ∀ (l : List St), ∀ u ∈ flat l, u.oneCell' = true := by
  intro l
  induction l with
  | nil => intro u hu; cases hu
  | cons s l ih =>
    intro u hu
    simp only [flat, List.mem_cons] at hu
    rcases hu with rfl | rfl | hu
    · rfl
    · rfl
    · exact ih u hu
theorem flat_get : ∀ (l : List St) (j : Nat) (s : St), l[j]? = some s → (flat l)[j * 2]? = some (.int .i64 s.1) ∧ (flat l)[j * 2 + 1]? = some (.int .i64 s.2) := by
  intro l
  induction l with
  | nil => intro j s h; simp at h
  | cons x l ih =>
    intro j s h
    cases j with
    | zero =>
      simp only [List.getElem?_cons_zero, Option.some.injEq] at h
      subst h
      exact ⟨rfl, rfl⟩
    | succ j =>
      rw [List.getElem?_cons_succ] at h
      have := ih j s h
      rw [show (j + 1) * 2 = j * 2 + 1 + 1 by omega]
      simpa [flat] using this
/-- A slice of steps that is read. -/
abbrev Sl (W : World) (v : Value) (L : List St) : Prop := RdC W W.heap.size 2 v L.length (flat L)
theorem Sl.form {W : World} {v : Value} {L : List St} (h : Sl W v L) : ∃ p cap, v = .slice p L.length cap ∧ L.length ≤ cap ∧ cap ≤ maxLen := by
  obtain ⟨_, p, cap, rfl, h1, h2, _⟩ := h
  exact ⟨p, cap, rfl, h1, h2⟩
theorem Sl.at {W : World} {p : Option Addr} {n cap : Nat} {L : List St} (h : Sl W (.slice p n cap) L) {k : Nat} (hk : k < L.length) :
    ∃ b o, p = some ⟨b, o, none⟩ ∧ b < W.heap.size ∧ W.cell? ⟨b, o + k * 2, none⟩ = some (.int .i64 (at' L k).1) ∧ W.cell? ⟨b, o + k * 2 + 1, none⟩ = some (.int .i64 (at' L k).2) := by
  obtain ⟨_, p', cap', e, _, _, h4⟩ := h
  simp only [Value.slice.injEq] at e
  obtain ⟨rfl, rfl, rfl⟩ := e
  obtain ⟨b, o, rfl, hb, hc⟩ := h4 (by omega)
  have hg := flat_get L k _ (at_eq hk)
  exact ⟨b, o, rfl, hb, hc (k * 2) _ hg.1, by have := hc (k * 2 + 1) _ hg.2; rwa [show o + (k * 2 + 1) = o + k * 2 + 1 by omega] at this⟩
theorem Sl.below {W W' : World} {v : Value} {L : List St} (h : Sl W v L) (hB : Below W.heap.size W W') : Sl W' v L := (RdC.below h hB).mono hB.size
theorem Sl.nil (W : World) : Sl W (.slice none 0 0) [] := ⟨rfl, none, 0, rfl, Nat.le_refl _, by unfold maxLen; omega, fun h => by simp at h⟩
theorem Sl.own {W : World} {base e : Nat} {v : Value} {L : List St} (h : W.ownsRow base e 2 v L.length (flat L)) : Sl W v L := RdC.own h
theorem good_short {L : List St} (h : L.length < 1) : good L = false := by
  unfold good; rw [decide_eq_false (by omega)]; rfl
theorem good_long {L : List St} (h : 8 < L.length) : good L = false := by
  unfold good; rw [decide_eq_false (show ¬ L.length ≤ 8 by omega), Bool.and_false, Bool.false_and]
theorem good_bad {L : List St} {k : Nat} (h : k < L.length) (hb : goodS (at' L k) = false) : good L = false := by
  cases hg : good L with
  | false => rfl
  | true =>
    have := ((good_iff L).1 hg).2 (at' L k) (List.mem_of_getElem? (at_eq h))
    rw [hb] at this; cases this
theorem good_all {L : List St} (h1 : ¬ L.length < 1) (h2 : ¬ 8 < L.length) (h : ∀ j, j < L.length → goodS (at' L j) = true) : good L = true := by
  rw [good_iff]
  refine ⟨by omega, fun s hs => ?_⟩
  obtain ⟨j, hj, rfl⟩ := List.mem_iff_getElem.1 hs
  have := h j hj
  have e := at_eq hj
  rw [List.getElem?_eq_getElem hj] at e
  rw [Option.some.inj e]; exact this
theorem goodS_no {s : St} (h : ¬ ((0 ≤ s.1 ∧ s.1 ≤ 8) ∧ 1 ≤ s.2 ∧ s.2 ≤ 2147483648)) : goodS s = false := by
  cases hg : goodS s with
  | false => rfl
  | true => exact absurd ((goodS_iff s).1 hg) h
theorem bel_alloc2 {W w : World} (h : Below W.heap.size W w) (o : Obj) : Below W.heap.size W (w.alloc o) := h.alloc h.size o

set_option maxHeartbeats 2000000 in
theorem good_any {W : World} {v : Value} {L : List St} (h : Sl W v L) :
    Calls Try.prog 16 #[v] W fun e w' => e = .returned (.bool (good L)) ∧ Below W.heap.size W w' := by
  obtain ⟨p, cap, rfl, hn, hm⟩ := h.form
  by_cases h1 : L.length < 1
  · have hg := hide (good_short h1)
    have h1' : (L.length : Int) < 1 := by omega
    go_enter Try.func16, Try.ntmps16
    go_wp2
    go_ret
    exact ⟨by rw [hg.out]; rfl, Below.refl _ _⟩
  · by_cases h2 : 8 < L.length
    · have hg := hide (good_long h2)
      have h1' : ¬ (L.length : Int) < 1 := by omega
      have h2' : 8 < (L.length : Int) := by omega
      go_enter Try.func16, Try.ntmps16
      go_wp2
      go_ret
      exact ⟨by rw [hg.out]; rfl, Below.refl _ _⟩
    · have h1' : ¬ (L.length : Int) < 1 := by omega
      have h2' : ¬ 8 < (L.length : Int) := by omega
      have H := hide h
      have HG : Hid ((∀ j, j < L.length → goodS (at' L j) = true) → good L = true) := hide (good_all h1 h2)
      have HN : Hid (∀ k, k < L.length → goodS (at' L k) = false → good L = false) := hide (fun k hk => good_bad hk)
      clear h
      go_enter Try.func16, Try.ntmps16
      go_wp2
      go_loopw [15] (fun i wr => ∃ k : Nat, k ≤ L.length ∧ i = .int .i64 k ∧ Hid (∀ j, j < k → goodS (at' L j) = true) ∧ Hid (Below W.heap.size W wr)) (fun i _ => L.length - (intOf i).toNat)
      case atStart => exact ⟨0, by omega, rfl, hide (fun j hj => by omega), hide (Below.refl _ _)⟩
      case round =>
        obtain ⟨k, hk, rfl, HR, HB⟩ := hrel
        by_cases hkn : k < L.length
        · obtain ⟨b, o, rfl, hb, x0, x1⟩ := (H.out.below HB.out).at hkn
          have hk1 : (k : Int) < (L.length : Int) := by omega
          have E1 : Hid (¬ ((0 ≤ (at' L k).1 ∧ (at' L k).1 ≤ 8) ∧ 1 ≤ (at' L k).2 ∧ (at' L k).2 ≤ 2147483648) → good L = false) := hide (fun e => HN.out k hkn (goodS_no e))
          have E2 : Hid ((0 ≤ (at' L k).1 ∧ (at' L k).1 ≤ 8) ∧ 1 ≤ (at' L k).2 ∧ (at' L k).2 ≤ 2147483648 → ∀ j, j < k + 1 → goodS (at' L j) = true) := hide (fun e j hj => by
            rcases Nat.lt_or_ge j k with h1 | h1
            · exact HR.out j h1
            · obtain rfl : j = k := by omega
              exact (goodS_iff _).2 e)
          have HB' : Hid (∀ o, Below W.heap.size W (wr.alloc o)) := hide (fun o => bel_alloc2 HB.out o)
          generalize (at' L k).1 = z at *
          generalize (at' L k).2 = z' at *
          clear HR HB
          by_cases d1 : z < 0
          · have FE := hide (E1.out (by omega))
            clear E1 E2
            go_wp2
            go_ret
            exact ⟨by rw [FE.out]; rfl, HB'.out _⟩
          · by_cases d2 : 8 < z
            · have FE := hide (E1.out (by omega))
              clear E1 E2
              go_wp2
              go_ret
              exact ⟨by rw [FE.out]; rfl, HB'.out _⟩
            · by_cases d3 : z' < 1
              · have FE := hide (E1.out (by omega))
                clear E1 E2
                go_wp2
                go_ret
                exact ⟨by rw [FE.out]; rfl, HB'.out _⟩
              · by_cases d4 : 2147483648 < z'
                · have FE := hide (E1.out (by omega))
                  clear E1 E2
                  go_wp2
                  go_ret
                  exact ⟨by rw [FE.out]; rfl, HB'.out _⟩
                · have FE := hide (E2.out (by omega))
                  clear E1 E2
                  go_wp2
                  go_round
                  case rel => exact ⟨k + 1, by omega, by go_num, FE, hide (HB'.out _)⟩
                  case measure => simp [intOf]; omega
        · obtain rfl : k = L.length := by omega
          have FE := hide (HG.out HR.out)
          go_wp2
          go_ret
          exact ⟨by rw [FE.out]; rfl, HB.out⟩
end Go.Proofs.Ytmeigdgnfdgnhaa.Con
