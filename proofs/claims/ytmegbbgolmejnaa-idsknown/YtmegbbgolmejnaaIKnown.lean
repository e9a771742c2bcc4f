/- IdsKnown: two tables side by side; all places taken one behind the other. -/
import Derived.Test.YtmegbbgolmejnaaIParts
namespace Go.Proofs.Ytmegbbgolmejnaa.Con
open Go.RowKit
set_option linter.unusedVariables false
set_option linter.unusedSimpArgs false
/-- Two tables, apart. -/
structure S2 (W0 W : World) (t1 r1 n1 : Nat) (l1 : List Sp) (t2 r2 n2 : Nat) (l2 : List Sp) : Prop where
  a1 : Tb W t1 r1 n1 l1
  a2 : Tb W t2 r2 n2 l2
  h1 : t1 ≠ r2
  h2 : r1 ≠ r2
  h3 : t2 ≠ r1
  below : Below W0.heap.size W0 W
  f1 : W0.heap.size ≤ r1
  f2 : W0.heap.size ≤ r2
section
variable {W0 W W' : World} {t1 r1 n1 t2 r2 n2 : Nat} {l1 l2 l' : List Sp}
theorem S2.turn1 (h : S2 W0 W t1 r1 n1 l1 t2 r2 n2 l2) (hT : Turn W W' r1) (hb : Tb W' t1 r1 n1 l') : S2 W0 W' t1 r1 n1 l' t2 r2 n2 l2 :=
  ⟨hb, hT.tb h.a2 h.h3 (fun e => h.h2 e.symm), h.h1, h.h2, h.h3, h.below.trans (hT.toBelow h.below.size h.f1), h.f1, h.f2⟩
theorem S2.turn2 (h : S2 W0 W t1 r1 n1 l1 t2 r2 n2 l2) (hT : Turn W W' r2) (hb : Tb W' t2 r2 n2 l') : S2 W0 W' t1 r1 n1 l1 t2 r2 n2 l' :=
  ⟨hT.tb h.a1 h.h1 h.h2, hb, h.h1, h.h2, h.h3, h.below.trans (hT.toBelow h.below.size h.f2), h.f1, h.f2⟩
theorem S2.bel (h : S2 W0 W t1 r1 n1 l1 t2 r2 n2 l2) (hB : Below W.heap.size W W') : S2 W0 W' t1 r1 n1 l1 t2 r2 n2 l2 :=
  ⟨h.a1.below hB, h.a2.below hB, h.h1, h.h2, h.h3, h.below.trans (hB.mono h.below.size), h.f1, h.f2⟩
/-- Is on the first. -/
theorem s2_is (h : S2 W0 W t1 r1 n1 l1 t2 r2 n2 l2) (m : Nat) (hm : m < 4294967296) (r : Int) (hr : isE l1 m = r) :
    Calls Try.prog 10 #[.pointer (some ⟨t1, 0, none⟩), .int .u32 (m : Int)] W fun e w' => e = .returned (.int .i64 r) ∧ Hid (S2 W0 w' t1 r1 n1 l1 t2 r2 n2 l2) := by
  refine (is_any h.a1 m hm).mono ?_
  rintro e w' ⟨rfl, hB⟩
  exact ⟨by rw [hr], hide (h.bel hB)⟩
theorem s2_give (h : S2 W0 W t1 r1 n1 l1 t2 r2 n2 l2) (m : Nat) (hm : m < 4294967296) (r : Int) (hr : isE l1 m = r) (hl : gave l1 m = l') :
    Calls Try.prog 11 #[.pointer (some ⟨t1, 0, none⟩), .int .u32 (m : Int)] W fun e w' => e = .returned (.int .i64 r) ∧ Hid (S2 W0 w' t1 r1 n1 l' t2 r2 n2 l2) := by
  refine (give_any h.a1 m hm).mono ?_
  rintro e w' ⟨rfl, hT, hR⟩
  subst hl
  exact ⟨by rw [hr], hide (h.turn1 hR hT)⟩
theorem s2_take (h : S2 W0 W t1 r1 n1 l1 t2 r2 n2 l2) (p : Nat) (hp : Free l1 p) (r : Nat) (hr : nm p (sp l1 p).1 = r) (hl : l1.set p ((sp l1 p).1, true) = l') :
    Calls Try.prog 9 #[.pointer (some ⟨t1, 0, none⟩)] W fun e w' => e = .returned (.tuple #[.int .u32 (r : Int), .int .i64 0]) ∧ Hid (S2 W0 w' t1 r1 n1 l' t2 r2 n2 l2) := by
  refine (take_ok h.a1 p hp).mono ?_
  rintro e w' ⟨rfl, hT, hR⟩
  subst hl
  exact ⟨by rw [hr], hide (h.turn1 hR hT)⟩
theorem s2_take2 (h : S2 W0 W t1 r1 n1 l1 t2 r2 n2 l2) (p : Nat) (hp : Free l2 p) (r : Nat) (hr : nm p (sp l2 p).1 = r) (hl : l2.set p ((sp l2 p).1, true) = l') :
    Calls Try.prog 9 #[.pointer (some ⟨t2, 0, none⟩)] W fun e w' => e = .returned (.tuple #[.int .u32 (r : Int), .int .i64 0]) ∧ Hid (S2 W0 w' t1 r1 n1 l1 t2 r2 n2 l') := by
  refine (take_ok h.a2 p hp).mono ?_
  rintro e w' ⟨rfl, hT, hR⟩
  subst hl
  exact ⟨by rw [hr], hide (h.turn2 hR hT)⟩
end
theorem known_start {W0 w1 w2 : World} {t1 r1 n1 t2 r2 n2 : Nat} {l1 l2 : List Sp} {w0 : World} (h0 : Below W0.heap.size W0 w0) (h1 : Tb w1 t1 r1 n1 l1 ∧ Below w0.heap.size w0 w1 ∧ w0.heap.size ≤ t1 ∧ w0.heap.size ≤ r1) (h2 : Tb w2 t2 r2 n2 l2 ∧ Below w1.heap.size w1 w2 ∧ w1.heap.size ≤ t2 ∧ w1.heap.size ≤ r2) :
    S2 W0 w2 t1 r1 n1 l1 t2 r2 n2 l2 := by
  obtain ⟨a, b, c, d⟩ := h1
  obtain ⟨a', b', c', d'⟩ := h2
  have e1 := a.tlt
  have e2 := a.rlt
  have s0 := h0.size
  have s1 := b.size
  exact ⟨a.below b', a', by omega, by omega, by omega, (h0.trans (b.mono s0)).trans (b'.mono (by omega)), by omega, by omega⟩
/-- The first x of 256 places taken. -/
def tk (x : Nat) : List Sp := List.replicate x (0, true) ++ List.replicate (256 - x) (0, false)
theorem tk_len (x : Nat) (h : x ≤ 256) : (tk x).length = 256 := by simp [tk]; omega
theorem tk_sp (x i : Nat) (hi : i < 256) : sp (tk x) i = (0, decide (i < x)) := by
  unfold sp tk
  rw [List.getD_eq_getElem?_getD]
  by_cases h : i < x
  · rw [List.getElem?_append_left (by simpa using h), List.getElem?_replicate, if_pos h, decide_eq_true h]; rfl
  · rw [List.getElem?_append_right (by simp; omega), List.getElem?_replicate, decide_eq_false h, List.length_replicate]
    split <;> rfl
theorem tk_zero : List.replicate 256 (0, false) = tk 0 := rfl
theorem tk_free (x : Nat) (h : x < 256) : Free (tk x) x := ⟨by rw [tk_len x (by omega)]; exact h, by rw [tk_sp x x h]; simp, fun q hq => by rw [tk_sp x q (by omega)]; simpa using hq⟩
theorem tk_set (x : Nat) (h : x < 256) : (tk x).set x ((sp (tk x) x).1, true) = tk (x + 1) := by
  have hl := tk_len x (by omega)
  apply sp_ext (by rw [List.length_set, hl, tk_len (x + 1) (by omega)])
  intro i hi
  rw [List.length_set, hl] at hi
  rw [sp_set _ _ _ _ (by omega), tk_sp x x h, tk_sp x i hi, tk_sp (x + 1) i hi]
  by_cases e : i = x
  · rw [if_pos e, e]; simp
  · rw [if_neg e]
    congr 1
    simp; omega
theorem tk_nm (x : Nat) (h : x < 256) : nm x (sp (tk x) x).1 = x := by rw [tk_sp x x h]; simp [nm]
theorem tk_full : Full (tk 256) := fun q hq => by
  rw [tk_len 256 (by omega)] at hq
  rw [tk_sp 256 q hq]; simpa using hq
theorem tk_names (k : Nat) (h : k ≤ 256) : (names (tk 256) k).length = k := by
  induction k with
  | zero => rfl
  | succ k ih =>
    rw [names_yes (by rw [tk_sp 256 k (by omega)]; simp; omega), List.length_append, ih (by omega)]; rfl
theorem full1 (g : Nat) : Full [(g, true)] := fun q hq => by
  obtain rfl : q = 0 := by simpa using hq
  rfl
theorem known_isE : isE [(0, true)] 0 = 0 ∧ isE [(0, true)] 1 = 2 ∧ isE [(0, true)] 256 = 2 ∧ gave [(0, true)] 0 = [(1, false)] ∧ isE [(1, false)] 0 = 10 ∧ gave [(1, false)] 0 = [(1, false)] ∧ isE [(1, false)] 256 = 2 := by
  refine ⟨by decide, by decide, by decide, ?_, by decide, ?_, by decide⟩
  · unfold gave; rw [if_pos (by decide)]; decide
  · unfold gave; rw [if_neg (by decide)]
end Go.Proofs.Ytmegbbgolmejnaa.Con
