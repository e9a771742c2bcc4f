/- parseStep: one step of a text. -/
import Derived.Test.YtdbkdnjmiehlcaaDoorGNumb
namespace Go.Proofs.YtdbkdnjmiehlcaaDoor.Con
open Go.RowKit Go.Proofs.YtdbkdnjmiehlcaaDoor.Pm
set_option linter.unusedVariables false
set_option linter.unusedSimpArgs false
/-- A step, as a value. -/
abbrev stv (s : St) : Value := .agg #[.int .i64 s.1, .int .i64 s.2]
theorem below_drewN {B : Nat} {a w : World} (h : Below B a w) (n : Nat) : Below B a (w.drewN n) := h.trans ⟨rfl, rfl, rfl, Nat.le_refl _, fun _ _ => rfl⟩
theorem cut_len (l : List UInt8) (c : UInt8) : (Lib.cut l [c]).1.length ≤ l.length ∧ (Lib.cut l [c]).2.1.length ≤ l.length := by
  rcases cut_cases l c with ⟨_, h⟩ | ⟨a, b, rfl, _, h⟩
  · rw [h]; simp
  · rw [h]; simp; omega
set_option maxHeartbeats 1000000 in
theorem pstep_any (t : List UInt8) (hl : t.length < 1000000) (w : World) :
    Calls Tryd.prog 24 #[sv t] w fun e w' => e = .returned (.tuple #[stv (pstep t).1, .bool (pstep t).2]) ∧ Below w.heap.size w w' := by
  have hc := hide (fun w => cut_any t 64 w hl)
  obtain ⟨l1, l2⟩ := cut_len t 64
  have hP : Hid (pstep t = if (numB (Lib.cut t [64]).1 2147483648).2 = false ∨ (Lib.cut t [64]).2.2 = false then ((0, (numB (Lib.cut t [64]).1 2147483648).1), (numB (Lib.cut t [64]).1 2147483648).2)
  else (((numB (Lib.cut t [64]).2.1 8).1, (numB (Lib.cut t [64]).1 2147483648).1), (numB (Lib.cut t [64]).2.1 8).2)) := hide rfl
  generalize (Lib.cut t [64]).1 = x at *
  generalize (Lib.cut t [64]).2.1 = y at *
  generalize (Lib.cut t [64]).2.2 = b at *
  have hx := hide (fun w => number_any x 2147483648 (by omega) (by omega) (by omega) w)
  have hy := hide (fun w => number_any y 8 (by omega) (by omega) (by omega) w)
  generalize (numB x 2147483648).1 = n at *
  generalize (numB x 2147483648).2 = nok at *
  generalize (numB y 8).1 = m at *
  generalize (numB y 8).2 = mok at *
  go_enter Tryd.func24, Tryd.ntmps24
  go_wp2_with fail
  refine (hc.out _).mono ?_
  rintro e w1 ⟨rfl, k1, hw1⟩
  have B1 : Below w.heap.size w w1 := by rw [hw1]; exact below_drewN ((Below.refl _ w).alloc (Nat.le_refl _) _) _
  have c0 : w1.cell? ⟨w.heap.size, 0, none⟩ = some (.int .i64 0) := by rw [hw1]; simp
  have c1 : w1.cell? ⟨w.heap.size, 1, none⟩ = some (.int .i64 0) := by rw [hw1]; simp
  have z0 : w1.frozen? ⟨w.heap.size, 0, none⟩ = false := by rw [hw1]; simp
  have z1 : w1.frozen? ⟨w.heap.size, 1, none⟩ = false := by rw [hw1]; simp
  generalize hb : w.heap.size = d at *
  clear hw1
  go_wp2_with fail
  refine (hx.out _).mono ?_
  rintro e w2 ⟨rfl, hw2⟩
  rw [← hw2] at B1 c0 c1 z0 z1
  clear hw2
  have HB := hide B1
  clear B1
  have fin : Hid (∀ a b : Value, Below w.heap.size w ((w2.setCell ⟨d, 0, none⟩ a).setCell ⟨d, 1, none⟩ b)) := hide (fun a b => by rw [hb]; exact (HB.out.setCell (p := ⟨d, 0, none⟩) (by simp [hb]) a).setCell (p := ⟨d, 1, none⟩) (by simp [hb]) b)
  cases nok with
  | false =>
    rw [if_pos (.inl rfl)] at hP
    go_wp2
    (try simp only [Exit.inBlock, Exit.then])
    refine bodyPost_ret (v := .tuple #[stv (0, n), .bool false]) ?_ rfl ⟨?_, fin.out _ _⟩
    · rw [results_cell_tmp rfl]; go_simp
    · rw [hP.out]
  | true =>
    cases b with
    | false =>
      rw [if_pos (.inr rfl)] at hP
      go_wp2
      (try simp only [Exit.inBlock, Exit.then])
      refine bodyPost_ret (v := .tuple #[stv (0, n), .bool true]) ?_ rfl ⟨?_, fin.out _ _⟩
      · rw [results_cell_tmp rfl]; go_simp
      · rw [hP.out]
    | true =>
      rw [if_neg (by simp)] at hP
      go_wp2_with fail
      refine (hy.out _).mono ?_
      rintro e w3 ⟨rfl, hw3⟩
      rw [← hw3] at c0 c1 z0 z1 fin
      clear hw3
      go_wp2
      (try simp only [Exit.inBlock, Exit.then])
      refine bodyPost_ret (v := .tuple #[stv (m, n), .bool mok]) ?_ rfl ⟨?_, fin.out _ _⟩
      · rw [results_cell_tmp rfl]; go_simp
      · rw [hP.out]
end Go.Proofs.YtdbkdnjmiehlcaaDoor.Con
