/- Send, Read. -/
import Derived.Test.YtigofonhibaojaaPOps
namespace Go.Proofs.Ytigofonhibaojaa.Con
open Go.RowKit Go.Proofs.Ytigofonhibaojaa.Mk
set_option linter.unusedVariables false
set_option linter.unusedSimpArgs false
def tell (t : Td) (a x : Nat) : Td := ⟨t.w ||| x, withN t.f (a : Int), if t.w = 0 then t.r + 1 else t.r⟩
def sendS (s : Nat → Td) (a k x : Nat) : Nat → Td := fun j => if j = k then tell (s k) a x else s j
def readS (s : Nat → Td) (k : Nat) : Nat → Td := fun j => if j = k then ⟨0, 0, (s k).r⟩ else s j
theorem or_small' : ∀ a : Fin 16, ∀ x : Fin 16, bits BinOp.or IntKind.i64 (a.val : Int) (x.val : Int) = ((a.val ||| x.val : Nat) : Int) ∧ (a.val ||| x.val) ≤ 15 ∧ (x.val ≠ 0 → (a.val ||| x.val) ≠ 0) := by decide +kernel
theorem or_small (a x : Nat) (ha : a ≤ 15) (hx : x ≤ 15) : bits BinOp.or IntKind.i64 (a : Int) (x : Int) = ((a ||| x : Nat) : Int) ∧ (a ||| x) ≤ 15 ∧ (x ≠ 0 → (a ||| x) ≠ 0) := or_small' ⟨a, by omega⟩ ⟨x, by omega⟩
/-- The world behind a call that writes row g. -/
def Snd (W : World) (b g n m : Nat) (s : Nat → Td) (w' : World) : Prop := PK w' b g n m s ∧ Stp W w' g
section
variable {W : World} {b g n m : Nat} {s : Nat → Td}
theorem tell_wf {t : Td} {a x m : Nat} (h : t.w ≤ 15 ∧ t.f < 18446744073709551616 ∧ t.r ≤ m) (hx : x ≤ 15) : (tell t a x).w ≤ 15 ∧ (tell t a x).f < 18446744073709551616 ∧ (tell t a x).r ≤ m + 1 := by
  refine ⟨(or_small t.w x h.1 hx).2.1, withN_lt _ h.2.1, ?_⟩
  unfold tell; simp only; split <;> omega
theorem send_fin (h : PK W b g n m s) (a k x : Nat) (hk : k < n) (hx : x ≤ 15) {w1 : World} (hw : (s k).w = 0)
    (e : w1 = ((W.setCell ⟨g, k * 3 + 2, none⟩ (.int .i64 (((s k).r : Int) + 1))).setCell ⟨g, k * 3, none⟩ (.int .i64 ((s k).w ||| x : Nat))).setCell ⟨g, k * 3 + 1, none⟩ (.int .u64 (withN (s k).f (a : Int) : Nat))) : Snd W b g n (m + 1) (sendS s a k x) w1 := by
  subst e
  have t := tell_wf (a := a) (h.wf k hk) hx
  have hne := h.ne
  refine ⟨h.put3 (by omega) k hk (tell (s k) a x) t.1 t.2.1 t.2.2 ?_ ?_, ((Stp.set _ _ _ _).trans (Stp.set _ _ _ _)).trans (Stp.set _ _ _ _)⟩
  · rw [heap_setCell_other _ _ _ _ hne, heap_setCell_other _ _ _ _ hne, heap_setCell_other _ _ _ _ hne]
  · intro cs hc
    have e1 := heap_setCell_same W g (k * 3 + 2) cs _ (.int .i64 (((s k).r : Int) + 1)) hc
    have e2 := heap_setCell_same _ g (k * 3) _ _ (.int .i64 ((s k).w ||| x : Nat)) e1
    have e3 := heap_setCell_same _ g (k * 3 + 1) _ _ (.int .u64 (withN (s k).f (a : Int) : Nat)) e2
    refine ⟨_, e3, by simp, fun j hj => ?_, fun hs => ⟨?_, ?_, ?_⟩⟩
    · rw [Array.getElem?_setIfInBounds_ne (by omega), Array.getElem?_setIfInBounds_ne (by omega), Array.getElem?_setIfInBounds_ne (by omega)]
    · rw [Array.getElem?_setIfInBounds_ne (by omega), Array.getElem?_setIfInBounds_self_of_lt (by simp; omega)]; rfl
    · rw [Array.getElem?_setIfInBounds_self_of_lt (by simp; omega)]; rfl
    · rw [Array.getElem?_setIfInBounds_ne (by omega), Array.getElem?_setIfInBounds_ne (by omega), Array.getElem?_setIfInBounds_self_of_lt (by omega)]
      unfold tell; rw [if_pos hw]; rfl
theorem send_fin2 (h : PK W b g n m s) (a k x : Nat) (hk : k < n) (hx : x ≤ 15) {w1 : World} (hw : (s k).w ≠ 0)
    (e : w1 = (W.setCell ⟨g, k * 3, none⟩ (.int .i64 ((s k).w ||| x : Nat))).setCell ⟨g, k * 3 + 1, none⟩ (.int .u64 (withN (s k).f (a : Int) : Nat))) : Snd W b g n (m + 1) (sendS s a k x) w1 := by
  subst e
  have t := tell_wf (a := a) (h.wf k hk) hx
  have hne := h.ne
  refine ⟨h.put3 (by omega) k hk (tell (s k) a x) t.1 t.2.1 t.2.2 ?_ ?_, (Stp.set _ _ _ _).trans (Stp.set _ _ _ _)⟩
  · rw [heap_setCell_other _ _ _ _ hne, heap_setCell_other _ _ _ _ hne]
  · intro cs hc
    have c2 := (h.cells k hk).2.2
    rw [cell_of_row W g _ _ _ _ hc] at c2
    have e2 := heap_setCell_same _ g (k * 3) _ _ (.int .i64 ((s k).w ||| x : Nat)) hc
    have e3 := heap_setCell_same _ g (k * 3 + 1) _ _ (.int .u64 (withN (s k).f (a : Int) : Nat)) e2
    refine ⟨_, e3, by simp, fun j hj => ?_, fun hs => ⟨?_, ?_, ?_⟩⟩
    · rw [Array.getElem?_setIfInBounds_ne (by omega), Array.getElem?_setIfInBounds_ne (by omega)]
    · rw [Array.getElem?_setIfInBounds_ne (by omega), Array.getElem?_setIfInBounds_self_of_lt (by omega)]; rfl
    · rw [Array.getElem?_setIfInBounds_self_of_lt (by simp; omega)]; rfl
    · rw [Array.getElem?_setIfInBounds_ne (by omega), Array.getElem?_setIfInBounds_ne (by omega), c2]
      unfold tell; rw [if_neg hw]
theorem send_no (h : PK W b g n m s) (a k x : Int) (hn : (hasB n k && mayB n a x) = false) : Calls Try.prog 8 #[.pointer (some ⟨b, 0, none⟩), .int .i64 a, .int .i64 k, .int .i64 x] W fun e w' => e = .returned (.tuple #[.bool false, .int .i64 1]) ∧ w' = W := by
  have H := hide (has_any h k)
  have M := hide (may_any h a x)
  clear h
  cases h1 : hasB n k with
  | false =>
    rw [h1] at H
    clear hn
    go_enter Try.func8, Try.ntmps8
    go_wp2_with (go_at_call 17; refine H.out.mono ?_; rintro e w' ⟨rfl, hw⟩; have hw2 := hw.symm; clear hw; subst hw2)
    go_ret2
    exact ⟨rfl, rfl⟩
  | true =>
    rw [h1] at H hn
    simp only [Bool.true_and] at hn
    rw [hn] at M
    clear hn
    go_enter Try.func8, Try.ntmps8
    go_wp2_with (first
      | (go_at_call 17; refine H.out.mono ?_; rintro e w' ⟨rfl, hw⟩; have hw2 := hw.symm; clear hw; subst hw2)
      | (go_at_call 18; refine M.out.mono ?_; rintro e w' ⟨rfl, hw⟩; have hw2 := hw.symm; clear hw; subst hw2))
    go_ret2
    exact ⟨rfl, rfl⟩
theorem mayB_nat (n a x : Nat) (h : a < n) (h1 : 1 ≤ x) (h2 : x ≤ 15) : mayB n (a : Int) (x : Int) = true := by
  unfold mayB; rw [hasB_nat n a h]; simp; omega
theorem send_any (h : PK W b g n m s) (a k x : Nat) (ha : a < n) (hk : k < n) (h1 : 1 ≤ x) (h2 : x ≤ 15) (hm : m < 1000000) :
    Calls Try.prog 8 #[.pointer (some ⟨b, 0, none⟩), .int .i64 (a : Int), .int .i64 (k : Int), .int .i64 (x : Int)] W fun e w' => e = .returned (.tuple #[.bool (decide ((s k).w = 0)), .int .i64 0]) ∧ Hid (Snd W b g n (m + 1) (sendS s a k x) w') := by
  have H := hide (has_any h (k : Int))
  rw [hasB_nat n k hk] at H
  have M := hide (may_any h (a : Int) (x : Int))
  rw [mayB_nat n a x ha h1 h2] at M
  have c0 := h.head
  obtain ⟨c1, c2, c3⟩ := h.cells k hk
  have f1 := h.frozen (k * 3)
  have f2 := h.frozen (k * 3 + 1)
  have f3 := h.frozen (k * 3 + 2)
  obtain ⟨q1, q2, q3⟩ := h.wf k hk
  have ho := (or_small (s k).w x q1 h2).1
  have F1 := hide (fun w1 hw => send_fin (w1 := w1) h a k x hk h2 hw)
  have F2 := hide (fun w1 hw => send_fin2 (w1 := w1) h a k x hk h2 hw)
  have WT := hide (fun W' => with_any (s k).f (a : Int) W' q2)
  clear h
  generalize withN (s k).f (a : Int) = ff at *
  generalize (s k).w ||| x = ww at *
  generalize hsw : (s k).w = w0 at *
  generalize (s k).f = f0 at *
  generalize (s k).r = r0 at *
  by_cases hw : w0 = 0
  · subst hw
    have F := hide (fun w1 => F1.out w1 rfl)
    have ho' : bits BinOp.or IntKind.i64 0 (x : Int) = (ww : Int) := ho
    clear F1 F2 hsw ho
    go_enter Try.func8, Try.ntmps8
    go_wp2_with (first
      | (go_at_call 17; refine H.out.mono ?_; rintro e w' ⟨rfl, hw⟩; have hw2 := hw.symm; clear hw; subst hw2)
      | (go_at_call 18; refine M.out.mono ?_; rintro e w' ⟨rfl, hw⟩; have hw2 := hw.symm; clear hw; subst hw2)
      | (go_at_call 19; refine (WT.out _).mono ?_; rintro e w' ⟨rfl, hw⟩; have hw2 := hw.symm; clear hw; subst hw2))
    go_ret2
    exact ⟨rfl, hide (F.out _ rfl)⟩
  · have hq : ((w0 : Int) == 0) = false := by simp; omega
    have F := hide (fun w1 => F2.out w1 hw)
    clear F1 F2 hsw
    have hd := hide (show decide (w0 = 0) = false from decide_eq_false hw)
    rw [hd.out]
    clear hw hd
    go_enter Try.func8, Try.ntmps8
    go_wp2_with (first
      | (go_at_call 17; refine H.out.mono ?_; rintro e w' ⟨rfl, hw⟩; have hw2 := hw.symm; clear hw; subst hw2)
      | (go_at_call 18; refine M.out.mono ?_; rintro e w' ⟨rfl, hw⟩; have hw2 := hw.symm; clear hw; subst hw2)
      | (go_at_call 19; refine (WT.out _).mono ?_; rintro e w' ⟨rfl, hw⟩; have hw2 := hw.symm; clear hw; subst hw2))
    go_ret2
    exact ⟨rfl, hide (F.out _ rfl)⟩
end
end Go.Proofs.Ytigofonhibaojaa.Con
