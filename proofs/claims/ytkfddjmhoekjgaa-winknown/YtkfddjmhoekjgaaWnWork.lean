/- WinWork: in more ticks no less. -/
import Derived.Test.YtkfddjmhoekjgaaWnCon
namespace Go.Proofs.Ytkfddjmhoekjgaa.Wn
open Go.RowKit Go.Proofs.Ytkfddjmhoekjgaa.Con
set_option linter.unusedVariables false
set_option linter.unusedSimpArgs false
/-- A pair in a box. -/
def Vp (w : World) (g : Nat) (x : Pr) : Prop := w.heap[g]? = some (.cells #[.int .i64 x.1, .int .i64 x.2] 24 (0, 0))
theorem Vp.below {w w' : World} {g : Nat} {x : Pr} (h : Vp w g x) (hB : Nx w w') : Vp w' g x := (hB.block g (Array.getElem?_eq_some_iff.1 h).1).trans h
theorem Vp.new (w : World) (x : Pr) : Vp (w.alloc (.cells #[.int .i64 x.1, .int .i64 x.2] 24)) w.heap.size x := heap_alloc_new w _
theorem Vp.cells {w : World} {g : Nat} {q p : Int} (h : Vp w g (q, p)) : w.cell? ⟨g, 0, none⟩ = some (.int .i64 q) ∧ w.cell? ⟨g, 1, none⟩ = some (.int .i64 p) :=
  ⟨(cell_of_row w g 0 _ _ _ h).trans rfl, (cell_of_row w g 1 _ _ _ h).trans rfl⟩
set_option maxHeartbeats 8000000 in
theorem work_walk (hA : Hid AwakeC) (hG : Hid GoodC) (hW : Hid WorkC) (x : Pr) (n : Int) (w : World) :
    Calls Try.prog 6 #[prv x, .int .i64 n] w fun e w' => e = .returned (.bool true) ∧ Nx w w' := by
  obtain ⟨q, p⟩ := x
  have HB0 := hide (Nx.alloc w (.cells #[.int .i64 q, .int .i64 p] 24))
  have KS := hide (Vp.new w (q, p))
  go_enter Try.func6, Try.ntmps6
  go_wp2_with fail
  refine (hA.out _).mono ?_
  rintro e w1 ⟨rfl, hb⟩
  have K1 := hide (KS.out.below hb)
  have B1 := hide (Nx.trans HB0.out hb)
  clear hb HB0 KS
  obtain ⟨x0, x1⟩ := K1.out.cells
  go_wp2_with fail
  refine (hG.out (q, p) _).mono ?_
  rintro e w2 ⟨rfl, hb⟩
  have K2 := hide (K1.out.below hb)
  have B2 := hide (Nx.trans B1.out hb)
  clear hb K1 B1 x0 x1
  obtain ⟨x0, x1⟩ := K2.out.cells
  cases hg : gp (q, p) with
  | false =>
    clear hg
    go_wp2
    go_ret
    exact ⟨rfl, B2.out⟩
  | true =>
    by_cases h0 : n < 0
    · clear hg
      go_wp2
      go_ret
      exact ⟨rfl, B2.out⟩
    by_cases h1 : 1073741824 < n
    · clear hg
      go_wp2
      go_ret
      exact ⟨rfl, B2.out⟩
    by_cases h2 : 1073741824 < p
    · clear hg
      go_wp2
      go_ret
      exact ⟨rfl, B2.out⟩
    obtain ⟨g1, g2, g3⟩ := gp_t hg
    simp only at g1 g2 g3
    have n0 : 0 ≤ n := by omega
    have E1 := hide (work_t hg n0 (show n ≤ 2147483648 by omega))
    have E2 := hide (work_t hg (show 0 ≤ n + 1 by omega) (show n + 1 ≤ 2147483648 by omega))
    have E3 := hide (work_t hg (show 0 ≤ n + p by omega) (show n + p ≤ 2147483648 by omega))
    obtain ⟨a0, a1⟩ := work_lo hg n0
    obtain ⟨b0, b1⟩ := work_step hg n0
    obtain ⟨c0, c1⟩ := work_per hg n0
    simp only at c0 c1
    clear hg
    generalize workN (q, p) n = a at *
    generalize workN (q, p) (n + 1) = b at *
    generalize workN (q, p) (n + p) = c at *
    go_wp2_with fail
    refine (hW.out (q, p) n _).mono ?_
    rintro e w3 ⟨rfl, hb⟩
    rw [E1.out.1, E1.out.2]
    have K3 := hide (K2.out.below hb)
    have B3 := hide (Nx.trans B2.out hb)
    clear hb K2 B2 x0 x1
    obtain ⟨x0, x1⟩ := K3.out.cells
    go_wp2_with fail
    refine (hW.out (q, p) (n + 1) _).mono ?_
    rintro e w4 ⟨rfl, hb⟩
    rw [E2.out.1, E2.out.2]
    have K4 := hide (K3.out.below hb)
    have B4 := hide (Nx.trans B3.out hb)
    clear hb K3 B3 x0 x1
    obtain ⟨x0, x1⟩ := K4.out.cells
    go_wp2_with fail
    refine (hW.out (q, p) (n + p) _).mono ?_
    rintro e w5 ⟨rfl, hb⟩
    rw [E3.out.1, E3.out.2]
    have K5 := hide (K4.out.below hb)
    have B5 := hide (Nx.trans B4.out hb)
    clear hb K4 B4 x0 x1 E1 E2 E3
    obtain ⟨x0, x1⟩ := K5.out.cells
    by_cases e : a = n
    · subst e
      go_wp2
      go_ret
      exact ⟨rfl, B5.out⟩
    · obtain rfl : c = a + q := c1.resolve_left e
      have e' : (a == n) = false := by simp [e]
      go_wp2
      go_ret
      exact ⟨rfl, B5.out⟩
end Go.Proofs.Ytkfddjmhoekjgaa.Wn
