/- The landed code: Good, enough, Work, Takes. -/
import Derived.Test.YtldccbinndbcdaaWnCon
import Derived.Test.YtldccbinndbcdaaWnRf
import Derived.Test.YtldccbinndbcdaaTkP
import Derived.Laws.Small
namespace Go.Proofs.Ytldccbinndbcdaa.Wn
open Go.RowKit Go.Proofs.Ytldccbinndbcdaa.Con
set_option linter.unusedVariables false
set_option linter.unusedSimpArgs false
attribute [local go_sem ↓] Go.wp_at_zero Go.wp_at_succ
theorem min_if (x y : Int) : (if y < x then y else x) = min x y := by split <;> omega
/-! Two boxes, carried on. -/
theorem bx2 {W w' : World} {o p : Obj} (hb : Below ((W.alloc o).alloc p).heap.size ((W.alloc o).alloc p) w') : w'.heap[W.heap.size]? = some o ∧ w'.heap[W.heap.size + 1]? = some p ∧ W.heap.size + 1 < w'.heap.size :=
  ⟨(box2 hb).1, (box2 hb).2, by have := hb.size; simp at this; omega⟩
theorem bx_next {W w w' : World} {o p : Obj} (h : w.heap[W.heap.size]? = some o ∧ w.heap[W.heap.size + 1]? = some p ∧ W.heap.size + 1 < w.heap.size) (hb : Nx w w') :
    w'.heap[W.heap.size]? = some o ∧ w'.heap[W.heap.size + 1]? = some p ∧ W.heap.size + 1 < w'.heap.size :=
  ⟨(hb.block _ (by omega)).trans h.1, (hb.block _ h.2.2).trans h.2.1, Nat.lt_of_lt_of_le h.2.2 hb.size⟩
set_option maxHeartbeats 2000000 in
theorem goodC : GoodC := by
  intro x W
  obtain ⟨q, p⟩ := x
  have HB := hide (bel1 (W := W) (.cells #[.int .i64 q, .int .i64 p] 28))
  by_cases h1 : 1 ≤ q
  rotate_left
  · have FE := hide (gp_f (x := (q, p)) (by simp only; omega))
    go_enter Try.func37, Try.ntmps37
    go_wp2
    go_ret
    exact ⟨by rw [FE.out]; rfl, HB.out⟩
  by_cases h2 : q ≤ p
  rotate_left
  · have FE := hide (gp_f (x := (q, p)) (by simp only; omega))
    go_enter Try.func37, Try.ntmps37
    go_wp2
    go_ret
    exact ⟨by rw [FE.out]; rfl, HB.out⟩
  by_cases h3 : p ≤ 2147483648
  rotate_left
  · have FE := hide (gp_f (x := (q, p)) (by simp only; omega))
    go_enter Try.func37, Try.ntmps37
    go_wp2
    go_ret
    exact ⟨by rw [FE.out]; rfl, HB.out⟩
  have FE := hide (gp_y (x := (q, p)) (by simp only; omega))
  go_enter Try.func37, Try.ntmps37
  go_wp2
  go_ret
  exact ⟨by rw [FE.out]; rfl, HB.out⟩
set_option maxHeartbeats 2000000 in
theorem enough_any (o : Pr) (hg : gp o = true) (W : World) : Calls Try.prog 47 #[prv o] W fun e w' => e = .returned (.int .i64 (room o)) ∧ Nx W w' := by
  obtain ⟨q, p⟩ := o
  obtain ⟨g1, g2, g3⟩ := gp_t hg
  simp only at g1 g2 g3
  have FE : Hid (room (q, p) = p - q + 1) := hide rfl
  have HB := hide (bel1 (W := W) (.cells #[.int .i64 q, .int .i64 p] 28))
  clear hg
  go_enter Try.func47, Try.ntmps47
  go_wp2
  go_ret
  exact ⟨by rw [FE.out]; rfl, HB.out⟩
set_option maxHeartbeats 4000000 in
theorem workC : WorkC := by
  intro x n W
  obtain ⟨q, p⟩ := x
  have HB := hide (bel1 (W := W) (.cells #[.int .i64 q, .int .i64 p] 28))
  have HP := hide (fun w => goodC (q, p) w)
  cases hg : gp (q, p) with
  | false =>
    have E := hide (work_f (x := (q, p)) (n := n) (by rw [hg]; simp))
    rw [hg] at HP
    clear hg
    go_enter Try.func54, Try.ntmps54
    go_wp2_with fail
    refine (HP.out _).mono ?_
    rintro e w1 ⟨rfl, hb⟩
    have HB1 := hide (Nx.trans HB.out hb)
    clear hb
    go_wp2
    go_ret2
    exact ⟨ret2 (by rw [E.out.2]; rfl) (by rw [E.out.1]; rfl), HB1.out⟩
  | true =>
    rw [hg] at HP
    by_cases h0 : n < 0
    · have E := hide (work_f (x := (q, p)) (n := n) (by omega))
      clear hg
      go_enter Try.func54, Try.ntmps54
      go_wp2_with fail
      refine (HP.out _).mono ?_
      rintro e w1 ⟨rfl, hb⟩
      have HB1 := hide (Nx.trans HB.out hb)
      clear hb
      go_wp2
      go_ret2
      exact ⟨ret2 (by rw [E.out.2]; rfl) (by rw [E.out.1]; rfl), HB1.out⟩
    by_cases h1 : 2147483648 < n
    · have E := hide (work_f (x := (q, p)) (n := n) (by omega))
      clear hg
      go_enter Try.func54, Try.ntmps54
      go_wp2_with fail
      refine (HP.out _).mono ?_
      rintro e w1 ⟨rfl, hb⟩
      have HB1 := hide (Nx.trans HB.out hb)
      clear hb
      go_wp2
      go_ret2
      exact ⟨ret2 (by rw [E.out.2]; rfl) (by rw [E.out.1]; rfl), HB1.out⟩
    obtain ⟨g1, g2, g3⟩ := gp_t hg
    obtain ⟨k, hk, ⟨a0, a1⟩, ⟨b0, b1⟩, ⟨c0, c1⟩, ⟨d0, d1⟩, ⟨e0, e1⟩, ew⟩ := work_parts hg (show 0 ≤ n by omega) (show n ≤ 2147483648 by omega)
    obtain ⟨f1, f2⟩ := work_t hg (show 0 ≤ n by omega) (show n ≤ 2147483648 by omega)
    simp only at g1 g2 g3 hk a0 a1 c0 c1 d0 d1 e0 e1 ew
    have E := hide (And.intro f1 (f2.trans ew))
    have HW := hide (fun w => Tk.win_any (n + p - q) p w)
    have hgd : Tk.good (n + p - q) = true := by simp [Tk.good]; omega
    have hpd : Tk.period p = true := by simp [Tk.period]; omega
    have hwb : Tk.winB (n + p - q) p = true := by simp [Tk.winB, hgd, hpd]
    have hwv : Tk.winV (n + p - q) p = k := by unfold Tk.winV; rw [hwb, if_pos rfl, hk]
    rw [hwb, hwv] at HW
    clear f1 f2 ew hg hgd hpd hwb hwv hk
    have E := hide (And.intro E.out.1 E.out.2)
    by_cases c1 : n + p - q - k * p < q
    · by_cases c2 : k * q + (n + p - q - k * p) < n
      · have EV : Hid (workV (q, p) n = k * q + (n + p - q - k * p)) := hide (E.out.2.trans (by omega))
        go_enter Try.func54, Try.ntmps54
        go_wp2_with fail
        refine (HP.out _).mono ?_
        rintro e w1 ⟨rfl, hb⟩
        have r0 := box1 hb
        have HB1 := hide (Nx.trans HB.out hb)
        obtain ⟨x0, x1⟩ := row2 r0
        clear hb r0
        go_wp2_with (go_at_call 60; refine (HW.out _).mono ?_; rintro e w9 ⟨rfl, hw9⟩; rw [hw9]; clear hw9)
        go_ret2
        exact ⟨ret2 (by rw [EV.out]; rfl) (by rw [E.out.1]; rfl), HB1.out⟩
      · have EV : Hid (workV (q, p) n = n) := hide (E.out.2.trans (by omega))
        go_enter Try.func54, Try.ntmps54
        go_wp2_with fail
        refine (HP.out _).mono ?_
        rintro e w1 ⟨rfl, hb⟩
        have r0 := box1 hb
        have HB1 := hide (Nx.trans HB.out hb)
        obtain ⟨x0, x1⟩ := row2 r0
        clear hb r0
        go_wp2_with (go_at_call 60; refine (HW.out _).mono ?_; rintro e w9 ⟨rfl, hw9⟩; rw [hw9]; clear hw9)
        go_ret2
        exact ⟨ret2 (by rw [EV.out]; rfl) (by rw [E.out.1]; rfl), HB1.out⟩
    · by_cases c2 : k * q + q < n
      · have EV : Hid (workV (q, p) n = k * q + q) := hide (E.out.2.trans (by omega))
        go_enter Try.func54, Try.ntmps54
        go_wp2_with fail
        refine (HP.out _).mono ?_
        rintro e w1 ⟨rfl, hb⟩
        have r0 := box1 hb
        have HB1 := hide (Nx.trans HB.out hb)
        obtain ⟨x0, x1⟩ := row2 r0
        clear hb r0
        go_wp2_with (go_at_call 60; refine (HW.out _).mono ?_; rintro e w9 ⟨rfl, hw9⟩; rw [hw9]; clear hw9)
        go_ret2
        exact ⟨ret2 (by rw [EV.out]; rfl) (by rw [E.out.1]; rfl), HB1.out⟩
      · have EV : Hid (workV (q, p) n = n) := hide (E.out.2.trans (by omega))
        go_enter Try.func54, Try.ntmps54
        go_wp2_with fail
        refine (HP.out _).mono ?_
        rintro e w1 ⟨rfl, hb⟩
        have r0 := box1 hb
        have HB1 := hide (Nx.trans HB.out hb)
        obtain ⟨x0, x1⟩ := row2 r0
        clear hb r0
        go_wp2_with (go_at_call 60; refine (HW.out _).mono ?_; rintro e w9 ⟨rfl, hw9⟩; rw [hw9]; clear hw9)
        go_ret2
        exact ⟨ret2 (by rw [EV.out]; rfl) (by rw [E.out.1]; rfl), HB1.out⟩
set_option maxHeartbeats 4000000 in
theorem takesC : TakesC := by
  intro x o W
  obtain ⟨q, p⟩ := x
  obtain ⟨oq, op⟩ := o
  have HB := hide (bel2 (W := W) (.cells #[.int .i64 q, .int .i64 p] 28) (.cells #[.int .i64 oq, .int .i64 op] 28))
  have HP := hide (fun w => goodC (q, p) w)
  have HO := hide (fun w => goodC (oq, op) w)
  cases hg : (gp (q, p) && gp (oq, op)) with
  | false =>
    have E := hide (takes_f hg)
    cases h1 : gp (q, p) with
    | false =>
      rw [h1] at HP
      clear hg h1
      go_enter Try.func46, Try.ntmps46
      go_wp2_with fail
      refine (HP.out _).mono ?_
      rintro e w1 ⟨rfl, hb⟩
      have HB1 := hide (HB.out.trans (Below.mono hb (by simp; omega)))
      clear hb
      go_wp2
      go_ret2
      exact ⟨ret2 (by rw [E.out.2]; rfl) (by rw [E.out.1]; rfl), HB1.out⟩
    | true =>
      rw [h1, Bool.true_and] at hg
      rw [h1] at HP
      rw [hg] at HO
      clear hg h1
      go_enter Try.func46, Try.ntmps46
      go_wp2_with fail
      refine (HP.out _).mono ?_
      rintro e w1 ⟨rfl, hb⟩
      obtain ⟨r0, r1⟩ := box2 hb
      have HB1 := hide (HB.out.trans (Below.mono hb (by simp; omega)))
      obtain ⟨x0, x1⟩ := row2 r1
      clear hb r0 r1
      go_wp2_with fail
      refine (HO.out _).mono ?_
      rintro e w2 ⟨rfl, hb⟩
      have HB2 := hide (Nx.trans HB1.out hb)
      clear hb
      go_wp2
      go_ret2
      exact ⟨ret2 (by rw [E.out.2]; rfl) (by rw [E.out.1]; rfl), HB2.out⟩
  | true =>
    simp only [Bool.and_eq_true] at hg
    obtain ⟨h1, h2⟩ := hg
    rw [h1] at HP
    rw [h2] at HO
    obtain ⟨g1, g2, g3⟩ := gp_t h2
    obtain ⟨t1, t2⟩ := takes_t h1 h2
    have E := hide (And.intro t1 t2)
    simp only at g1 g2 g3
    obtain ⟨u1, u2⟩ := work_t h1 (show 0 ≤ op by omega) g3
    obtain ⟨v1, v2⟩ := work_lo h1 (show 0 ≤ op by omega)
    have ET : Hid (takesN (q, p) (oq, op) = min (workN (q, p) op) (room (oq, op))) := hide rfl
    have HW := hide (fun w => workC (q, p) op w)
    rw [u1, u2] at HW
    have HR := hide (fun w => enough_any (oq, op) h2 w)
    generalize workN (q, p) op = z at *
    generalize room (oq, op) = r at *
    clear t1 t2 u1 u2 h1 h2
    have HC : Hid (∀ w, Below W.heap.size W w → Nx W w) := hide (fun w h => h)
    by_cases c1 : r < z
    · have EV : Hid (takesV (q, p) (oq, op) = r) := hide (E.out.2.trans (ET.out.trans (by omega)))
      go_enter Try.func46, Try.ntmps46
      go_wp2_with fail
      refine (HP.out _).mono ?_
      rintro e w1 ⟨rfl, hb⟩
      have HX1 := hide (bx2 hb)
      have HB1 := hide (HB.out.trans (Below.mono hb (by simp; omega)))
      obtain ⟨x0, x1⟩ := row2 HX1.out.1
      obtain ⟨y0, y1⟩ := row2 HX1.out.2.1
      clear hb
      go_wp2_with fail
      refine (HO.out _).mono ?_
      rintro e w2 ⟨rfl, hb⟩
      have HX2 := hide (bx_next HX1.out hb)
      have HB2 := hide (Nx.trans HB1.out hb)
      clear hb HB1 HX1 x0 x1 y0 y1
      obtain ⟨x0, x1⟩ := row2 HX2.out.1
      obtain ⟨y0, y1⟩ := row2 HX2.out.2.1
      go_wp2_with fail
      refine (HW.out _).mono ?_
      rintro e w3 ⟨rfl, hb⟩
      have HX3 := hide (bx_next HX2.out hb)
      have HB3 := hide (Nx.trans HB2.out hb)
      clear hb HB2 HX2 x0 x1 y0 y1
      obtain ⟨x0, x1⟩ := row2 HX3.out.1
      obtain ⟨y0, y1⟩ := row2 HX3.out.2.1
      go_wp2_with fail
      refine (HR.out _).mono ?_
      rintro e w4 ⟨rfl, hb⟩
      have HB4 := hide (Nx.trans HB3.out hb)
      clear hb HB3 HX3 x0 x1 y0 y1
      go_wp2
      go_ret2
      exact ⟨ret2 (by rw [EV.out]; rfl) (by rw [E.out.1]; rfl), HB4.out⟩
    · have EV : Hid (takesV (q, p) (oq, op) = z) := hide (E.out.2.trans (ET.out.trans (by omega)))
      go_enter Try.func46, Try.ntmps46
      go_wp2_with fail
      refine (HP.out _).mono ?_
      rintro e w1 ⟨rfl, hb⟩
      have HX1 := hide (bx2 hb)
      have HB1 := hide (HB.out.trans (Below.mono hb (by simp; omega)))
      obtain ⟨x0, x1⟩ := row2 HX1.out.1
      obtain ⟨y0, y1⟩ := row2 HX1.out.2.1
      clear hb
      go_wp2_with fail
      refine (HO.out _).mono ?_
      rintro e w2 ⟨rfl, hb⟩
      have HX2 := hide (bx_next HX1.out hb)
      have HB2 := hide (Nx.trans HB1.out hb)
      clear hb HB1 HX1 x0 x1 y0 y1
      obtain ⟨x0, x1⟩ := row2 HX2.out.1
      obtain ⟨y0, y1⟩ := row2 HX2.out.2.1
      go_wp2_with fail
      refine (HW.out _).mono ?_
      rintro e w3 ⟨rfl, hb⟩
      have HX3 := hide (bx_next HX2.out hb)
      have HB3 := hide (Nx.trans HB2.out hb)
      clear hb HB2 HX2 x0 x1 y0 y1
      obtain ⟨x0, x1⟩ := row2 HX3.out.1
      obtain ⟨y0, y1⟩ := row2 HX3.out.2.1
      go_wp2_with fail
      refine (HR.out _).mono ?_
      rintro e w4 ⟨rfl, hb⟩
      have HB4 := hide (Nx.trans HB3.out hb)
      clear hb HB3 HX3 x0 x1 y0 y1
      go_wp2
      go_ret2
      exact ⟨ret2 (by rw [EV.out]; rfl) (by rw [E.out.1]; rfl), HB4.out⟩
end Go.Proofs.Ytldccbinndbcdaa.Wn
