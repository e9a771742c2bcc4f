/- Read. -/
import Derived.Test.YtigofonhibaojaaPSend
namespace Go.Proofs.Ytigofonhibaojaa.Con
open Go.RowKit Go.Proofs.Ytigofonhibaojaa.Mk
set_option linter.unusedVariables false
set_option linter.unusedSimpArgs false
section
variable {W : World} {b g n m : Nat} {s : Nat → Td}
theorem read_no (h : PK W b g n m s) (k : Int) (hn : hasB n k = false) : Calls Try.prog 10 #[.pointer (some ⟨b, 0, none⟩), .int .i64 k] W fun e w' => e = .returned (.tuple #[.int .i64 0, .int .u64 0, .int .i64 1]) ∧ w' = W := by
  have H := hide (has_any h k)
  clear h
  rw [hn] at H
  clear hn
  go_enter Try.func10, Try.ntmps10
  go_wp2_with (go_at_call 17; refine H.out.mono ?_; rintro e w' ⟨rfl, hw⟩; have hw2 := hw.symm; clear hw; subst hw2)
  go_ret3
  exact ⟨rfl, rfl⟩
theorem read_none (h : PK W b g n m s) (k : Nat) (hk : k < n) (hw : (s k).w = 0) : Calls Try.prog 10 #[.pointer (some ⟨b, 0, none⟩), .int .i64 (k : Int)] W fun e w' => e = .returned (.tuple #[.int .i64 0, .int .u64 0, .int .i64 4]) ∧ Hid (Snd W b g n m s w') := by
  have H := hide (has_any h (k : Int))
  rw [hasB_nat n k hk] at H
  have c0 := h.head
  obtain ⟨c1, c2, c3⟩ := h.cells k hk
  rw [hw] at c1
  have c1' : W.cell? ⟨g, k * 3, none⟩ = some (.int .i64 0) := c1
  have f1 := h.frozen (k * 3)
  have hlt := h.glt
  have FIN := hide (fun (w1 : World) (o : Obj) (e : w1 = W.alloc o) => show Snd W b g n m s w1 from by
    subst e
    have hB : Below W.heap.size W (W.alloc o) := (Below.refl _ W).alloc (Nat.le_refl _) o
    exact ⟨h.below hB, Stp.below hB g⟩)
  clear h hw c1
  generalize (s k).f = f0 at *
  generalize (s k).r = r0 at *
  go_enter Try.func10, Try.ntmps10
  go_wp2_with (go_at_call 17; refine H.out.mono ?_; rintro e w' ⟨rfl, hw⟩; have hw2 := hw.symm; clear hw; subst hw2)
  go_ret3
  exact ⟨rfl, hide (FIN.out _ _ rfl)⟩
theorem read_fin (h : PK W b g n m s) (k : Nat) (hk : k < n) (o : Obj) {r0 : Nat} (hr : (s k).r = r0) {w1 : World}
    (e : w1 = ((((W.setCell ⟨g, k * 3, none⟩ (.int .i64 0)).setCell ⟨g, k * 3 + 1, none⟩ (.int .u64 0)).setCell ⟨g, k * 3 + 2, none⟩ (.int .i64 (r0 : Int))).alloc o).drew.drew) : Snd W b g n m (readS s k) w1 := by
  subst e
  subst hr
  have hne := h.ne
  generalize hw2 : ((W.setCell ⟨g, k * 3, none⟩ (.int .i64 0)).setCell ⟨g, k * 3 + 1, none⟩ (.int .u64 0)).setCell ⟨g, k * 3 + 2, none⟩ (.int .i64 ((s k).r : Int)) = w2
  have P : PK w2 b g n m (readS s k) := by
    subst hw2
    refine h.put3 (Nat.le_refl _) k hk ⟨0, 0, (s k).r⟩ (by simp) (by simp) (h.wf k hk).2.2 ?_ ?_
    · rw [heap_setCell_other _ _ _ _ hne, heap_setCell_other _ _ _ _ hne, heap_setCell_other _ _ _ _ hne]
    · intro cs hc
      have e1 := heap_setCell_same W g (k * 3) cs _ (.int .i64 0) hc
      have e2 := heap_setCell_same _ g (k * 3 + 1) _ _ (.int .u64 0) e1
      have e3 := heap_setCell_same _ g (k * 3 + 2) _ _ (.int .i64 ((s k).r : Int)) e2
      refine ⟨_, e3, by simp, fun j hj => ?_, fun hs => ⟨?_, ?_, ?_⟩⟩
      · rw [Array.getElem?_setIfInBounds_ne (by omega), Array.getElem?_setIfInBounds_ne (by omega), Array.getElem?_setIfInBounds_ne (by omega)]
      · rw [Array.getElem?_setIfInBounds_ne (by omega), Array.getElem?_setIfInBounds_ne (by omega), Array.getElem?_setIfInBounds_self_of_lt (by omega)]; rfl
      · rw [Array.getElem?_setIfInBounds_ne (by omega), Array.getElem?_setIfInBounds_self_of_lt (by simp; omega)]; rfl
      · rw [Array.getElem?_setIfInBounds_self_of_lt (by simp; omega)]
  have S : Stp W w2 g := by
    subst hw2
    exact ((Stp.set _ _ _ _).trans (Stp.set _ _ _ _)).trans (Stp.set _ _ _ _)
  have hB : Below w2.heap.size w2 (w2.alloc o) := (Below.refl _ w2).alloc (Nat.le_refl _) o
  exact ⟨(P.below hB).kept rfl rfl, (S.trans (Stp.below hB g)).drew.drew⟩
theorem read_any (h : PK W b g n m s) (k : Nat) (hk : k < n) (hw : (s k).w ≠ 0) : Calls Try.prog 10 #[.pointer (some ⟨b, 0, none⟩), .int .i64 (k : Int)] W fun e w' => e = .returned (.tuple #[.int .i64 ((s k).w : Int), .int .u64 ((s k).f : Int), .int .i64 0]) ∧ Hid (Snd W b g n m (readS s k) w') := by
  have H := hide (has_any h (k : Int))
  rw [hasB_nat n k hk] at H
  have c0 := h.head
  obtain ⟨c1, c2, c3⟩ := h.cells k hk
  have f1 := h.frozen (k * 3)
  have f2 := h.frozen (k * 3 + 1)
  have f3 := h.frozen (k * 3 + 2)
  have hlt := h.glt
  have hblt := h.blt
  have hq : (((s k).w : Int) == 0) = false := by simp; omega
  have FIN := hide (fun w1 o r0 hr => read_fin (w1 := w1) (r0 := r0) h k hk o hr)
  clear h hw
  generalize (s k).w = w0 at *
  generalize (s k).f = f0 at *
  generalize (s k).r = r0 at *
  go_enter Try.func10, Try.ntmps10
  go_wp2_with (go_at_call 17; refine H.out.mono ?_; rintro e w' ⟨rfl, hw⟩; have hw2 := hw.symm; clear hw; subst hw2)
  go_region
  go_wp2
  go_region
  go_wp2
  go_ret3
  exact ⟨rfl, hide (FIN.out _ _ r0 rfl rfl)⟩
end
end Go.Proofs.Ytigofonhibaojaa.Con
