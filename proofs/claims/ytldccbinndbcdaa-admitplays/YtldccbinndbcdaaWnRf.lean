/- The reference's pairs: what each call tells. -/
import Derived.Test.YtldccbinndbcdaaWnSl
import Derived.Deep.RegionHeld3
import Derived.Deep.DrawnRows
namespace Go.Proofs.Ytldccbinndbcdaa.Wn
open Go.RowKit Go.Proofs.Ytldccbinndbcdaa.Con
set_option linter.unusedVariables false
set_option linter.unusedSimpArgs false
attribute [local go_sem ↓] Go.wp_at_zero Go.wp_at_succ
theorem ret2 {a b : Value} {c d : Value} (h : a = c) (h' : b = d) : Ending.returned (.tuple #[a, b]) = .returned (.tuple #[c, d]) := by rw [h, h']
theorem row2 {w : World} {g e : Nat} {x y : Value} {fr : Nat × Nat} (h : w.heap[g]? = some (.cells #[x, y] e fr)) : w.cell? ⟨g, 0, none⟩ = some x ∧ w.cell? ⟨g, 1, none⟩ = some y :=
  ⟨(cell_of_row w g 0 _ e _ h).trans rfl, (cell_of_row w g 1 _ e _ h).trans rfl⟩
theorem bel2 {W : World} (o p : Obj) : Below W.heap.size W ((W.alloc o).alloc p) := (bel1 o).alloc (by simp) p
theorem box1 {W w' : World} {o : Obj} (hb : Below (W.alloc o).heap.size (W.alloc o) w') : w'.heap[W.heap.size]? = some o := (hb.block W.heap.size (by simp)).trans (heap_alloc_new W o)
theorem box2 {W w' : World} {o p : Obj} (hb : Below ((W.alloc o).alloc p).heap.size ((W.alloc o).alloc p) w') : w'.heap[W.heap.size]? = some o ∧ w'.heap[W.heap.size + 1]? = some p :=
  ⟨(hb.block W.heap.size (by simp; omega)).trans ((heap_alloc_old _ _ (by simp)).trans (heap_alloc_new W _)), (hb.block (W.heap.size + 1) (by simp)).trans (heap_alloc_at _ _ _ (by simp))⟩
theorem bel_drewN {B : Nat} {a w : World} (h : Below B a w) (n : Nat) : Below B a (w.drewN n) := ⟨h.os, h.tape, h.output, h.size, h.block⟩
set_option maxHeartbeats 2000000 in
theorem rleast_any (a b : Int) (w : World) : Calls Try.prog 59 #[.int .i64 a, .int .i64 b] w fun e w' => e = .returned (.int .i64 (min a b)) ∧ w' = w := by
  by_cases h : a < b
  · have FE := hide (show min a b = a by omega)
    go_enter Try.func59, Try.ntmps59
    go_wp2
    go_ret
    exact ⟨by rw [FE.out]; rfl, rfl⟩
  · have FE := hide (show min a b = b by omega)
    go_enter Try.func59, Try.ntmps59
    go_wp2
    go_ret
    exact ⟨by rw [FE.out]; rfl, rfl⟩
set_option maxHeartbeats 2000000 in
theorem rgp_any (q p : Int) (w : World) : Calls Try.prog 30 #[.int .i64 q, .int .i64 p] w fun e w' => e = .returned (.bool (gp (q, p))) ∧ w' = w := by
  by_cases h0 : 1 ≤ p
  rotate_left
  · have FE := hide (gp_f (x := (q, p)) (by simp only; omega))
    go_enter Try.func30, Try.ntmps30
    go_wp2
    go_ret
    exact ⟨by rw [FE.out]; rfl, rfl⟩
  by_cases h1 : p ≤ 2147483648
  rotate_left
  · have FE := hide (gp_f (x := (q, p)) (by simp only; omega))
    go_enter Try.func30, Try.ntmps30
    go_wp2
    go_ret
    exact ⟨by rw [FE.out]; rfl, rfl⟩
  by_cases h2 : 1 ≤ q
  rotate_left
  · have FE := hide (gp_f (x := (q, p)) (by simp only; omega))
    go_enter Try.func30, Try.ntmps30
    go_wp2
    go_ret
    exact ⟨by rw [FE.out]; rfl, rfl⟩
  by_cases h3 : q ≤ p
  rotate_left
  · have FE := hide (gp_f (x := (q, p)) (by simp only; omega))
    go_enter Try.func30, Try.ntmps30
    go_wp2
    go_ret
    exact ⟨by rw [FE.out]; rfl, rfl⟩
  have FE := hide (gp_y (x := (q, p)) (by simp only; omega))
  go_enter Try.func30, Try.ntmps30
  go_wp2
  go_ret
  exact ⟨by rw [FE.out]; rfl, rfl⟩
set_option maxHeartbeats 4000000 in
theorem rwork_any (x : Pr) (n : Int) (W : World) : Calls Try.prog 58 #[prv x, .int .i64 n] W fun e w' => e = .returned (.tuple #[.int .i64 (workV x n), .bool (workB x n)]) ∧ Nx W w' := by
  obtain ⟨q, p⟩ := x
  have HB := hide (bel1 (W := W) (.cells #[.int .i64 q, .int .i64 p] 42))
  have HP := hide (fun w => rgp_any q p w)
  cases hg : gp (q, p) with
  | false =>
    have E := hide (work_f (x := (q, p)) (n := n) (by rw [hg]; simp))
    rw [hg] at HP
    clear hg
    go_enter Try.func58, Try.ntmps58
    go_wp2_with (go_at_call 30; refine (HP.out _).mono ?_; rintro e w9 ⟨rfl, hw9⟩; rw [hw9]; clear hw9)
    go_ret2
    exact ⟨ret2 (by rw [E.out.2]; rfl) (by rw [E.out.1]; rfl), HB.out⟩
  | true =>
    rw [hg] at HP
    by_cases h0 : n < 0
    · have E := hide (work_f (x := (q, p)) (n := n) (by omega))
      clear hg
      go_enter Try.func58, Try.ntmps58
      go_wp2_with (go_at_call 30; refine (HP.out _).mono ?_; rintro e w9 ⟨rfl, hw9⟩; rw [hw9]; clear hw9)
      go_ret2
      exact ⟨ret2 (by rw [E.out.2]; rfl) (by rw [E.out.1]; rfl), HB.out⟩
    by_cases h1 : 2147483648 < n
    · have E := hide (work_f (x := (q, p)) (n := n) (by omega))
      clear hg
      go_enter Try.func58, Try.ntmps58
      go_wp2_with (go_at_call 30; refine (HP.out _).mono ?_; rintro e w9 ⟨rfl, hw9⟩; rw [hw9]; clear hw9)
      go_ret2
      exact ⟨ret2 (by rw [E.out.2]; rfl) (by rw [E.out.1]; rfl), HB.out⟩
    obtain ⟨g1, g2, g3⟩ := gp_t hg
    obtain ⟨k, hk, ⟨a0, a1⟩, ⟨b0, b1⟩, ⟨c0, c1⟩, ⟨d0, d1⟩, ⟨e0, e1⟩, ew⟩ := work_parts hg (show 0 ≤ n by omega) (show n ≤ 2147483648 by omega)
    obtain ⟨f1, f2⟩ := work_t hg (show 0 ≤ n by omega) (show n ≤ 2147483648 by omega)
    simp only at g1 g2 g3 hk a0 a1 c0 c1 d0 d1 e0 e1 ew
    have E := hide (And.intro f1 (f2.trans ew))
    have HL := hide rleast_any
    have hp0 : ¬ p = 0 := by omega
    clear f1 f2 ew hg
    go_enter Try.func58, Try.ntmps58
    go_wp2_with (go_at_call 30; refine (HP.out _).mono ?_; rintro e w9 ⟨rfl, hw9⟩; rw [hw9]; clear hw9)
    try simp only [hk]
    go_quiet ((go_at_call 59; exact Calls.quiet_of_same (HL.out _ _ _)))
    go_wp2
    go_ret2
    exact ⟨ret2 (by rw [E.out.2]; rfl) (by rw [E.out.1]; rfl), bel_drewN HB.out _⟩
set_option maxHeartbeats 4000000 in
theorem rtakes_any (x o : Pr) (W : World) : Calls Try.prog 53 #[prv x, prv o] W fun e w' => e = .returned (.tuple #[.int .i64 (takesV x o), .bool (takesB x o)]) ∧ Nx W w' := by
  obtain ⟨q, p⟩ := x
  obtain ⟨oq, op⟩ := o
  have HB := hide (bel2 (W := W) (.cells #[.int .i64 q, .int .i64 p] 42) (.cells #[.int .i64 oq, .int .i64 op] 42))
  have HP := hide (fun w => rgp_any q p w)
  have HO := hide (fun w => rgp_any oq op w)
  cases hg : (gp (q, p) && gp (oq, op)) with
  | false =>
    have E := hide (takes_f hg)
    cases h1 : gp (q, p) with
    | false =>
      rw [h1] at HP
      clear hg h1
      go_enter Try.func53, Try.ntmps53
      go_wp2_with (go_at_call 30; refine (HP.out _).mono ?_; rintro e w9 ⟨rfl, hw9⟩; rw [hw9]; clear hw9)
      go_ret2
      exact ⟨ret2 (by rw [E.out.2]; rfl) (by rw [E.out.1]; rfl), HB.out⟩
    | true =>
      rw [h1, Bool.true_and] at hg
      rw [h1] at HP
      rw [hg] at HO
      clear hg h1
      go_enter Try.func53, Try.ntmps53
      go_wp2_with (go_at_call 30; (first | (with_reducible refine (HP.out _).mono ?_) | (with_reducible refine (HO.out _).mono ?_)); rintro e w9 ⟨rfl, hw9⟩; rw [hw9]; clear hw9)
      go_ret2
      exact ⟨ret2 (by rw [E.out.2]; rfl) (by rw [E.out.1]; rfl), HB.out⟩
  | true =>
    simp only [Bool.and_eq_true] at hg
    obtain ⟨h1, h2⟩ := hg
    rw [h1] at HP
    rw [h2] at HO
    obtain ⟨g1, g2, g3⟩ := gp_t h2
    obtain ⟨t1, t2⟩ := takes_t h1 h2
    have E := hide (And.intro t1 t2)
    simp only at g1 g2 g3
    obtain ⟨u1, u2⟩ := work_t h1 (show 0 ≤ op by omega) g3
    obtain ⟨v1, v2⟩ := work_lo h1 (show 0 ≤ op by omega)
    have ET : Hid (takesN (q, p) (oq, op) = min (workN (q, p) op) (op - oq + 1)) := hide rfl
    have HW := hide (fun w => rwork_any (q, p) op w)
    rw [u1, u2] at HW
    have HL := hide rleast_any
    generalize workN (q, p) op = z at *
    clear t1 t2 u1 u2 h1 h2
    go_enter Try.func53, Try.ntmps53
    go_wp2_with (go_at_call 30; (first | (with_reducible refine (HP.out _).mono ?_) | (with_reducible refine (HO.out _).mono ?_)); rintro e w9 ⟨rfl, hw9⟩; rw [hw9]; clear hw9)
    refine (HW.out _).mono ?_
    rintro e w1 ⟨rfl, hb⟩
    obtain ⟨r0, r1⟩ := box2 hb
    have HB := hide (HB.out.trans (Below.mono hb (by simp; omega)))
    obtain ⟨x0, x1⟩ := row2 r1
    clear hb r0 r1
    go_wp2_with (go_at_call 59; refine (HL.out _ _ _).mono ?_; rintro e w9 ⟨rfl, hw9⟩; rw [hw9]; clear hw9)
    go_ret2
    exact ⟨ret2 (by rw [E.out.2, ET.out]; rfl) (by rw [E.out.1]; rfl), HB.out⟩
set_option maxHeartbeats 4000000 in
theorem rpairs_any {W : World} {v : Value} {L : List Pr} (h : Sl W v L) (m : Int) : Calls Try.prog 44 #[.int .i64 m, v] W fun e w' => e = .returned (.bool (pairsB m L)) ∧ Nx W w' := by
  obtain ⟨p, cap, rfl, hn, hm⟩ := h.form
  have hmx : (L.length : Int) ≤ 9223372036854775807 := by unfold maxLen at hm; omega
  have H := hide h
  have HN : Hid (∀ k, k < L.length → gp (at' L k) = false → pairsB m L = false) := hide (fun k hk hb => pairs_bad hk hb)
  have HY : Hid ((∀ j, j < L.length → gp (at' L j) = true) → 1 ≤ m → m ≤ 64 → (L.length : Int) ≤ 64 → pairsB m L = true) := hide (fun h1 h2 h3 h4 => pairs_all ⟨h2, h3⟩ (by omega) h1)
  have HX : Hid (¬ ((1 ≤ m ∧ m ≤ 64) ∧ (L.length : Int) ≤ 64) → pairsB m L = false) := hide (fun h1 => pairs_no (fun h2 => h1 ⟨h2.1, by omega⟩))
  clear h
  go_enter Try.func44, Try.ntmps44
  go_wp2
  go_loopw [5] (fun i wr => ∃ k : Nat, k ≤ L.length ∧ i = .int .i64 k ∧ Hid (∀ j, j < k → gp (at' L j) = true) ∧ Hid (Below W.heap.size W wr)) (fun i _ => L.length - (intOf i).toNat)
  case atStart => exact ⟨0, by omega, rfl, hide (fun j hj => by omega), hide (Below.refl _ _)⟩
  case round =>
    obtain ⟨k, hk, rfl, HR, HB⟩ := hrel
    by_cases hkn : k < L.length
    · obtain ⟨b, o, rfl, hb, x0, x1⟩ := (H.out.below HB.out).at hkn
      have hk1 : (k : Int) < (L.length : Int) := by omega
      have HP := hide (fun w => rgp_any (at' L k).1 (at' L k).2 w)
      have hN1 := HN.out k hkn
      have hR1 : gp (at' L k) = true → ∀ j, j < k + 1 → gp (at' L j) = true := fun e j hj => by
        rcases Nat.lt_or_ge j k with h1 | h1
        · exact HR.out j h1
        · obtain rfl : j = k := by omega
          exact e
      have eg : gp ((at' L k).1, (at' L k).2) = gp (at' L k) := rfl
      rw [eg] at HP
      have HB' : Hid (∀ n, Below W.heap.size W (wr.drewN n)) := hide (fun n => bel_drewN HB.out n)
      clear HR HB eg
      cases hg : gp (at' L k) with
      | false =>
        have FE := hide (hN1 hg)
        rw [hg] at HP
        clear hN1 hR1 hg
        generalize (at' L k).1 = z at *
        generalize (at' L k).2 = z' at *
        go_wp2
        go_quiet ((go_at_call 30; exact Calls.quiet_of_same (HP.out _)))
        go_wp2
        go_ret
        exact ⟨by rw [FE.out]; rfl, HB'.out _⟩
      | true =>
        have FE := hide (hR1 hg)
        rw [hg] at HP
        clear hN1 hR1 hg
        generalize (at' L k).1 = z at *
        generalize (at' L k).2 = z' at *
        go_wp2
        go_quiet ((go_at_call 30; exact Calls.quiet_of_same (HP.out _)))
        go_wp2
        go_round
        case rel => exact ⟨k + 1, by omega, by go_num, FE, hide (HB'.out _)⟩
        case measure => simp [intOf]; omega
    · obtain rfl : k = L.length := by omega
      have HY2 := HY.out HR.out
      by_cases d1 : 1 ≤ m
      · by_cases d2 : m ≤ 64
        · by_cases d3 : (L.length : Int) ≤ 64
          · have FE := hide (HY2 d1 d2 d3)
            clear HY2
            go_wp2
            go_ret
            exact ⟨by rw [FE.out]; rfl, HB.out⟩
          · have FE := hide (HX.out (by omega))
            clear HY2
            go_wp2
            go_ret
            exact ⟨by rw [FE.out]; rfl, HB.out⟩
        · have FE := hide (HX.out (by omega))
          clear HY2
          go_wp2
          go_ret
          exact ⟨by rw [FE.out]; rfl, HB.out⟩
      · have FE := hide (HX.out (by omega))
        clear HY2
        go_wp2
        go_ret
        exact ⟨by rw [FE.out]; rfl, HB.out⟩
end Go.Proofs.Ytldccbinndbcdaa.Wn
