/- awake; AlarmKnown's walk. -/
import Derived.Test.YtmdendffbjhdbaaAL
namespace Go.Proofs.Ytmdendffbjhdbaa.Con
open Go.RowKit Go.Proofs.Ytmdendffbjhdbaa.Hq
set_option linter.unusedVariables false
set_option linter.unusedSimpArgs false
theorem RRow.below {B : Nat} {w w' : World} {v : Value} {rs : List Rg} (h : RRow B w v rs) (hB : Below w.heap.size w w') : RRow B w' v rs := h.kept fun k hk => hB.block k (h.lt k hk)
theorem own_alloc {B : Nat} {w : World} {v : Value} {rs : List Rg} (h : RRow B w v rs) (o : Obj) : RRow B (w.alloc o) v rs := RRow.below h ((Below.refl _ _).alloc (Nat.le_refl _) _)
theorem rd_rings {w : World} {q n : Nat} {cs : Array Value} {rs : List Rg} {e : TypeId} (h : w.heap[q]? = some (.cells cs e (0, 0))) (hc : cs.toList = ringsV rs) (hs : rs.length = n) (hn : n ≤ maxLen) : RdC w w.heap.size 3 (.slice (some ⟨q, 0, none⟩) n n) n (ringsV rs) :=
  ⟨by rw [ringsV_len, hs], _, n, rfl, Nat.le_refl _, hn, fun _ => ⟨q, 0, rfl, (Array.getElem?_eq_some_iff.1 h).1, fun j u hu => by rw [Nat.zero_add, cell_of_row w q j cs e _ h]; rw [← hc] at hu; simpa using hu⟩⟩
theorem rv0 : ringsV [] = [] := List.eq_nil_of_length_eq_zero (by rw [ringsV_len]; rfl)
theorem rv1 (x : Rg) : ringsV [x] = encR x := by have := ringsV_snoc [] x; rw [rv0] at this; simpa using this
theorem rv2 (x y : Rg) : ringsV [x, y] = encR x ++ encR y := by have := ringsV_snoc [x] y; rw [rv1] at this; simpa using this
set_option maxHeartbeats 1600000 in
set_option maxRecDepth 100000 in
theorem awake_any (W : World) : Calls Try.prog 7 #[] W fun e w' => e = .returned (.bool true) ∧ Below W.heap.size W w' := by
  have N := hide (newL_ok (n := 2) (by omega) (by omega) (Below.refl W.heap.size W))
  go_enter Try.func7, Try.ntmps7
  go_wp2_with (go_at_call 8; refine N.out.mono ?_; rintro e w1 ⟨ab, rfl, S1, B1⟩; clear B1)
  refine (armL_ok (c := 0) (id := 7) (t := 5) (L' := [(0, 7, 5)]) S1.out (by omega) (by omega) (by omega) (by omega) (by omega) (by unfold top2; omega) (by rintro ⟨x, y, z⟩; simp)).mono ?_
  rintro e w2 ⟨rfl, S2, K2⟩
  clear S1 K2 N
  go_wp2_with fail
  refine (toL_ok (t := 5) (L1 := [(0, 7, 5)]) (L2 := []) S2.out (by omega) (by unfold top2; omega) (by simp) (by rintro ⟨x, y, z⟩; simp; omega) (by rintro ⟨x, y, z⟩; simp; omega)).mono ?_
  rintro e w3 ⟨v, rfl, S3, T3⟩
  have RW := hide T3.out.1
  clear S2 T3
  go_wp2_with (go_at_call 15; go_loud (refine (rings_same (rs := [(0, 7, 5)]) (by exact (RdC.own (own_alloc RW.out _))) (by exact (rd_rings (heap_alloc_new _ _) (by rw [rv1]; rfl) rfl (by unfold maxLen; omega))) (by simp)).mono ?_); rintro e w4 ⟨rfl, hB⟩; have S4 := hide ((S3.out.more ((Below.refl _ _).alloc (Nat.le_refl _) _)).more hB); clear hB S3)
  refine (nowL S4.out).mono ?_
  rintro e w9 ⟨rfl, hw⟩
  have hw2 := hw.symm; clear hw; subst hw2
  go_wp2_with fail
  go_ret
  exact ⟨rfl, S4.out.bel⟩
set_option maxRecDepth 100000 in
set_option maxHeartbeats 4000000 in
theorem known_walk (W0 : World) : Calls Try.prog 3 #[] W0 fun e w' => e = .returned (.bool true) ∧ Below W0.heap.size W0 w' := by
  have hA := hide (awake_any W0)
  have N0 := hide (fun w => new_bad (n := 0) (by omega) w)
  have N1 := hide (fun w => new_bad (n := 65) (by omega) w)
  go_enter Try.func3, Try.ntmps3
  go_wp2_with (go_at_call 7; refine hA.out.mono ?_; rintro e w0 ⟨rfl, hB0⟩; have HB0 := hide hB0; clear hB0)
  refine (N0.out _).mono ?_
  rintro e w9 ⟨rfl, hw⟩
  have hw2 := hw.symm; clear hw; subst hw2
  go_wp2_with fail
  refine (N1.out _).mono ?_
  rintro e w9 ⟨rfl, hw⟩
  have hw2 := hw.symm; clear hw; subst hw2
  go_wp2_with fail
  refine (newL_ok (n := 3) (by omega) (by omega) HB0.out).mono ?_
  rintro e v0 ⟨ab, rfl, S0, B0⟩
  clear B0 HB0 hA N0 N1
  go_wp2_with fail
  refine (armL_bad (c := 3) (id := 1) (t := 5) S0.out (by unfold top2; omega)).mono ?_
  rintro e w9 ⟨rfl, hw⟩
  have hw2 := hw.symm; clear hw; subst hw2
  go_wp2_with fail
  refine (armL_bad (c := 0) (id := 1024) (t := 5) S0.out (by unfold top2; omega)).mono ?_
  rintro e w9 ⟨rfl, hw⟩
  have hw2 := hw.symm; clear hw; subst hw2
  go_wp2_with fail
  refine (armL_bad (c := 0) (id := -1) (t := 5) S0.out (by unfold top2; omega)).mono ?_
  rintro e w9 ⟨rfl, hw⟩
  have hw2 := hw.symm; clear hw; subst hw2
  go_wp2_with fail
  refine (armL_bad (c := 0) (id := 1) (t := 4611686018427387905) S0.out (by unfold top2; omega)).mono ?_
  rintro e w9 ⟨rfl, hw⟩
  have hw2 := hw.symm; clear hw; subst hw2
  go_wp2_with fail
  refine (armL_ok (c := 0) (id := 1) (t := 9) (L' := [(0, 1, 9)]) S0.out (by omega) (by omega) (by omega) (by omega) (by omega) (by unfold top2; omega) (by rintro ⟨x, y, z⟩; simp <;> omega)).mono ?_
  rintro e w1 ⟨rfl, S1, K1⟩
  clear S0 K1
  go_wp2_with fail
  refine (armL_ok (c := 0) (id := 1) (t := 4) (L' := [(0, 1, 4)]) S1.out (by omega) (by omega) (by omega) (by omega) (by omega) (by unfold top2; omega) (by rintro ⟨x, y, z⟩; simp <;> omega)).mono ?_
  rintro e w2 ⟨rfl, S2, K2⟩
  clear S1 K2
  go_wp2_with fail
  refine (armL_ok (c := 1) (id := 1) (t := 4) (L' := [(0, 1, 4), (1, 1, 4)]) S2.out (by omega) (by omega) (by omega) (by omega) (by omega) (by unfold top2; omega) (by rintro ⟨x, y, z⟩; simp <;> omega)).mono ?_
  rintro e w3 ⟨rfl, S3, K3⟩
  clear S2 K3
  go_wp2_with fail
  refine (armL_ok (c := 2) (id := 0) (t := 4) (L' := [(0, 1, 4), (1, 1, 4), (2, 0, 4)]) S3.out (by omega) (by omega) (by omega) (by omega) (by omega) (by unfold top2; omega) (by rintro ⟨x, y, z⟩; simp <;> omega)).mono ?_
  rintro e w4 ⟨rfl, S4, K4⟩
  clear S3 K4
  go_wp2_with fail
  refine (moveL_bad (c := 0) (to := 5) (id := 1) S4.out (by omega)).mono ?_
  rintro e w9 ⟨rfl, hw⟩
  have hw2 := hw.symm; clear hw; subst hw2
  go_wp2_with fail
  refine (moveL_none (c := 0) (to := 1) (id := 2) S4.out (in64_id (by omega) (by omega)) (by omega) (by omega) (by omega) (by omega) (by intro t; simp)).mono ?_
  rintro e w9 ⟨rfl, hw⟩
  have hw2 := hw.symm; clear hw; subst hw2
  go_wp2_with fail
  refine (moveL_ok (c := 2) (to := 1) (id := 0) (t := 4) (L' := [(0, 1, 4), (1, 1, 4), (1, 0, 4)]) S4.out (by omega) (by omega) (by simp) (by rintro ⟨x, y, z⟩; simp <;> omega)).mono ?_
  rintro e w5 ⟨rfl, S5, K5⟩
  clear S4 K5
  go_wp2_with fail
  refine (regL (c := 1) (x := 4) (b := true) S5.out ⟨fun e => by simp at e, fun _ => ⟨⟨1, by simp⟩, by intro i t; simp; omega⟩⟩).mono ?_
  rintro e w6 ⟨rfl, S6, K6⟩
  clear S5 K6
  go_wp2_with fail
  refine (regL (c := 2) (x := 0) (b := false) S6.out ⟨fun _ => ⟨rfl, by intro i t; simp⟩, fun e => by simp at e⟩).mono ?_
  rintro e w7 ⟨rfl, S7, K7⟩
  clear S6 K7
  go_wp2_with fail
  refine (regL (c := 9) (x := 0) (b := false) S7.out ⟨fun _ => ⟨rfl, by intro i t; simp⟩, fun e => by simp at e⟩).mono ?_
  rintro e w8 ⟨rfl, S8, K8⟩
  clear S7 K8
  go_wp2_with fail
  refine (nextL (x := 4) (b := true) S8.out ⟨fun e => by simp at e, fun _ => ⟨⟨1, 1, by simp⟩, by intro c i t; simp; omega⟩⟩).mono ?_
  rintro e w9 ⟨rfl, S9, K9⟩
  clear S8 K9
  go_wp2_with fail
  refine (cancelL_no (c := 0) (id := 7) S9.out (in64_id (by omega) (by omega)) (by intro t; simp)).mono ?_
  rintro e w9 ⟨rfl, hw⟩
  have hw2 := hw.symm; clear hw; subst hw2
  go_wp2_with fail
  refine (cancelL_yes (c := 0) (id := 1) (t := 4) (L' := [(1, 1, 4), (1, 0, 4)]) S9.out (by simp) (by rintro ⟨x, y, z⟩; simp <;> omega)).mono ?_
  rintro e w10 ⟨rfl, S10, K10⟩
  clear S9 K10
  go_wp2_with fail
  refine (toL_ok (t := 3) (L1 := []) (L2 := [(1, 1, 4), (1, 0, 4)]) S10.out (by omega) (by unfold top2; omega) List.Pairwise.nil (by rintro ⟨x, y, z⟩; simp <;> omega) (by rintro ⟨x, y, z⟩; simp <;> omega)).mono ?_
  rintro e w11 ⟨v1, rfl, S11, T1⟩
  obtain ⟨p1, q1, rfl⟩ := T1.out.1.shape
  clear S10 T1
  go_wp2_with fail
  refine (toL_ok (t := 100) (L1 := [(1, 0, 4), (1, 1, 4)]) (L2 := []) S11.out (by omega) (by unfold top2; omega) (by unfold rlt; simp) (by rintro ⟨x, y, z⟩; simp <;> omega) (by rintro ⟨x, y, z⟩; simp <;> omega)).mono ?_
  rintro e w12 ⟨v2, rfl, S12, T2⟩
  clear S11
  go_wp2_with fail
  refine (toL_bad (t := 99) S12.out (by omega)).mono ?_
  rintro e w9 ⟨rfl, hw⟩
  have hw2 := hw.symm; clear hw; subst hw2
  go_wp2_with fail
  refine (nextL (x := 0) (b := false) S12.out ⟨fun _ => ⟨rfl, rfl⟩, fun e => by simp at e⟩).mono ?_
  rintro e w13 ⟨rfl, S13, K13⟩
  have RW := hide (RRow.below T2.out.1 K13.out)
  have BE := hide S13.out.bel
  clear S12 T2 K13 S13
  go_wp2_with (go_at_call 15; refine (rings_same (rs := [(1, 0, 4), (1, 1, 4)]) (by exact (RdC.own (own_alloc RW.out _))) (by exact (rd_rings (heap_alloc_new _ _) (by rw [rv2]; rfl) rfl (by unfold maxLen; omega))) (by simp)).mono ?_; rintro e w14 ⟨rfl, hB⟩; have BB := hide ((BE.out.alloc BE.out.size _).trans (hB.mono (by have := BE.out.size; simp <;> omega))); clear hB)
  go_ret
  exact ⟨rfl, BB.out⟩
end Go.Proofs.Ytmdendffbjhdbaa.Con
