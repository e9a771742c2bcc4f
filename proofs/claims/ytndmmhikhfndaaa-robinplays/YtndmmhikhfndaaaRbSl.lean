/- Rows of ints; the law's own: ints. -/
import Derived.Test.YtndmmhikhfndaaaRbPl
import Derived.BigQuiet
import Derived.Deep.QuietTactic
import Derived.OwnWalk
import Derived.Deep.CutBlock
import Derived.Deep.CutRange
import Derived.Laws.ResultCell
import Derived.Deep.OwnRows
import Derived.Deep.RegionHeld3
import Derived.Deep.DrawnRows
import Derived.Test.YtndmmhikhfndaaaApd
namespace Go.Proofs.Ytndmmhikhfndaaa.Rb
open Go.RowKit Go.Proofs.Ytndmmhikhfndaaa.Con
set_option linter.unusedVariables false
set_option linter.unusedSimpArgs false
attribute [local go_sem ↓] Go.wp_at_zero Go.wp_at_succ
abbrev Nx (w w' : World) : Prop := Below w.heap.size w w'
theorem Nx.trans {a b c : World} (h : Nx a b) (k : Nx b c) : Nx a c := Below.trans h (Below.mono k h.size)
theorem Nx.refl (a : World) : Nx a a := Below.refl _ _
theorem bel1 {W : World} (o : Obj) : Below W.heap.size W (W.alloc o) := (Below.refl _ W).alloc (Nat.le_refl _) o
theorem Nx.alloc (w : World) (o : Obj) : Nx w (w.alloc o) := bel1 o
theorem bel_alloc2 {W w : World} (h : Below W.heap.size W w) (o : Obj) : Below W.heap.size W (w.alloc o) := h.alloc h.size o
theorem bel_drewN {B : Nat} {a w : World} (h : Below B a w) (n : Nat) : Below B a (w.drewN n) := ⟨h.os, h.tape, h.output, h.size, h.block⟩
theorem ret2 {a b : Value} {c d : Value} (h : a = c) (h' : b = d) : Ending.returned (.tuple #[a, b]) = .returned (.tuple #[c, d]) := by rw [h, h']
theorem row_nx {w w' : World} {b : Nat} {o : Obj} (h : w.heap[b]? = some o) (hB : Nx w w') : w'.heap[b]? = some o := (hB.block b (Array.getElem?_eq_some_iff.1 h).1).trans h
/-- Ints, as cells. -/
def ivs (l : List Int) : List Value := l.map (fun i => .int .i64 i)
theorem ivs_len (l : List Int) : (ivs l).length = l.length := by simp [ivs]
theorem ivs_app (a b : List Int) : ivs (a ++ b) = ivs a ++ ivs b := by simp [ivs]
abbrev Is (W : World) (v : Value) (l : List Int) : Prop := RdC W W.heap.size 1 v l.length (ivs l)
theorem Is.form {W : World} {v : Value} {L : List Int} (h : Is W v L) : ∃ p cap, v = .slice p L.length cap ∧ L.length ≤ cap ∧ cap ≤ maxLen := by
  obtain ⟨_, p, cap, rfl, h1, h2, _⟩ := h
  exact ⟨p, cap, rfl, h1, h2⟩
theorem Is.at {W : World} {p : Option Addr} {n cap : Nat} {L : List Int} (h : Is W (.slice p n cap) L) {k : Nat} (hk : k < L.length) :
    ∃ b o, p = some ⟨b, o, none⟩ ∧ b < W.heap.size ∧ W.cell? ⟨b, o + k, none⟩ = some (.int .i64 (L.getD k 0)) := by
  obtain ⟨_, p', cap', e, _, _, h4⟩ := h
  simp only [Value.slice.injEq] at e
  obtain ⟨rfl, rfl, rfl⟩ := e
  obtain ⟨b, o, rfl, hb, hc⟩ := h4 (by omega)
  refine ⟨b, o, rfl, hb, hc k _ ?_⟩
  unfold ivs
  rw [List.getElem?_map, List.getElem?_eq_getElem hk, List.getD_eq_getElem?_getD, List.getElem?_eq_getElem hk]; rfl
theorem Is.below {W W' : World} {v : Value} {L : List Int} (h : Is W v L) (hB : Below W.heap.size W W') : Is W' v L := (RdC.below h hB).mono hB.size
theorem Is.own {W : World} {base e : Nat} {v : Value} {L : List Int} (h : W.ownsRow base e 1 v L.length (ivs L)) : Is W v L := RdC.own h
theorem Is.lit {w : World} {b e : Nat} {l : List Int} (h : w.heap[b]? = some (.cells (ivs l).toArray e (0, 0))) (hl : l.length ≤ 100) : Is w (.slice (some ⟨b, 0, none⟩) l.length l.length) l :=
  ⟨by rw [ivs_len]; omega, _, _, rfl, Nat.le_refl _, by unfold maxLen; omega, fun _ => ⟨b, 0, rfl, (Array.getElem?_eq_some_iff.1 h).1, fun j u hu => by
    rw [Nat.zero_add, cell_of_row w b j _ e _ h]; simpa using hu⟩⟩
theorem list_ext0 {a b : List Int} (h : a.length = b.length) (h2 : ∀ k, k < a.length → a.getD k 0 = b.getD k 0) : a = b := by
  apply List.ext_getElem h
  intro k h1 h3
  have := h2 k h1
  rwa [List.getD_eq_getElem?_getD, List.getD_eq_getElem?_getD, List.getElem?_eq_getElem h1, List.getElem?_eq_getElem h3] at this
set_option maxHeartbeats 4000000 in
theorem ints_any {W : World} {va vb : Value} {a b : List Int} (ha : Is W va a) (hb : Is W vb b) : Calls Try.prog 13 #[va, vb] W fun e w' => e = .returned (.bool (decide (a = b))) ∧ Nx W w' := by
  obtain ⟨pa, ca, rfl, hna, hma⟩ := ha.form
  obtain ⟨pb, cb, rfl, hnb, hmb⟩ := hb.form
  have hmx : (a.length : Int) ≤ 9223372036854775807 := by unfold maxLen at hma; omega
  have HA := hide ha
  have HB := hide hb
  clear ha hb
  by_cases hl : a.length = b.length
  rotate_left
  · have FE := hide (show decide (a = b) = false from decide_eq_false fun e => hl (by rw [e]))
    have hl' : ((a.length : Int) != (b.length : Int)) = true := by simp; omega
    have hl2 : ((a.length : Int) == (b.length : Int)) = false := by simp; omega
    go_enter Try.func13, Try.ntmps13
    go_wp2
    go_ret
    exact ⟨by rw [FE.out]; rfl, Nx.refl _⟩
  have hl' : ((a.length : Int) != (b.length : Int)) = false := by simp; omega
  have HY : Hid ((∀ k, k < a.length → a.getD k 0 = b.getD k 0) → decide (a = b) = true) := hide (fun h => decide_eq_true (list_ext0 hl h))
  have HX : Hid (∀ k, a.getD k 0 ≠ b.getD k 0 → decide (a = b) = false) := hide (fun k h => decide_eq_false fun e => h (by rw [e]))
  have hlb : (b.length : Int) = (a.length : Int) := by omega
  go_enter Try.func13, Try.ntmps13
  go_wp2
  go_loopw [5] (fun i wr => ∃ k : Nat, k ≤ a.length ∧ i = .int .i64 (k : Int) ∧ Hid (∀ j, j < k → a.getD j 0 = b.getD j 0) ∧ Hid (Nx W wr)) (fun i _ => a.length - (intOf i).toNat)
  case atStart => exact ⟨0, by omega, rfl, hide (fun j hj => by omega), hide (Nx.refl _)⟩
  case round =>
    obtain ⟨k, hk, rfl, HR, HN⟩ := hrel
    by_cases hkn : k < a.length
    rotate_left
    · obtain rfl : k = a.length := by omega
      have FE := hide (HY.out HR.out)
      go_wp2
      go_ret
      exact ⟨by rw [FE.out]; rfl, HN.out⟩
    have hk1 : (k : Int) < (a.length : Int) := by omega
    have hk2 : (k : Int) < (b.length : Int) := by omega
    obtain ⟨ba, oa, rfl, hba, x0⟩ := (HA.out.below HN.out).at hkn
    obtain ⟨bb, ob, rfl, hbb, y0⟩ := (HB.out.below HN.out).at (show k < b.length by omega)
    have HN' : Hid (∀ n, Nx W (wr.drewN n)) := hide (fun n => bel_drewN HN.out n)
    clear HN
    by_cases he : a.getD k 0 = b.getD k 0
    · have HR2 : Hid (∀ j, j < k + 1 → a.getD j 0 = b.getD j 0) := hide (fun j hj => by
        rcases Nat.lt_or_ge j k with g | g
        · exact HR.out j g
        · obtain rfl : j = k := by omega
          exact he)
      rw [he] at x0
      clear HR he
      generalize b.getD k 0 = c at *
      go_wp2
      go_quiet (fail)
      go_wp2
      go_round
      case rel => exact ⟨k + 1, by omega, by go_num, HR2, hide (HN'.out _)⟩
      case measure => simp [intOf]; omega
    · have FE := hide (HX.out k he)
      clear HR
      generalize a.getD k 0 = c at *
      generalize b.getD k 0 = d at *
      have he' : (c != d) = true := by simp [he]
      go_wp2
      go_quiet (fail)
      go_wp2
      go_ret
      exact ⟨by rw [FE.out]; rfl, HN'.out _⟩
theorem Is.nil (w : World) : Is w (.slice none 0 0) [] := ⟨rfl, none, 0, rfl, Nat.le_refl _, by unfold maxLen; omega, fun h => by simp at h⟩
theorem Is.new (w : World) (l : List Int) (e : Nat) (hl : l.length ≤ 100) : Is (w.alloc (.cells (ivs l).toArray e)) (.slice (some ⟨w.heap.size, 0, none⟩) l.length l.length) l := Is.lit (heap_alloc_new w _) hl
theorem Is.new2 (w : World) (o : Obj) (l : List Int) (e : Nat) (hl : l.length ≤ 100) : Is ((w.alloc o).alloc (.cells (ivs l).toArray e)) (.slice (some ⟨w.heap.size + 1, 0, none⟩) l.length l.length) l := by
  have := Is.new (w.alloc o) l e hl
  simpa using this
theorem ints_lit {w : World} {v : Value} {l : List Int} (h : Is w v l) (l' : List Int) (hl : l'.length ≤ 100) : Calls Try.prog 13 #[v, .slice (some ⟨w.heap.size, 0, none⟩) l'.length l'.length] (w.alloc (.cells (ivs l').toArray 3)) fun e w' => e = .returned (.bool (decide (l = l'))) ∧ Nx w w' := by
  refine (ints_any (h.below (Nx.alloc w _)) (Is.new w l' _ hl)).mono ?_
  rintro e w' ⟨rfl, hb⟩
  exact ⟨rfl, Nx.trans (Nx.alloc _ _) hb⟩
end Go.Proofs.Ytndmmhikhfndaaa.Rb
