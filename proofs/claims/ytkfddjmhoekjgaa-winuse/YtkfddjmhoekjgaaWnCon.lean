/- What is asked of each call of win. -/
import Derived.Test.YtkfddjmhoekjgaaWnSl
namespace Go.Proofs.Ytkfddjmhoekjgaa.Wn
open Go.RowKit Go.Proofs.Ytkfddjmhoekjgaa.Con
set_option linter.unusedVariables false
set_option linter.unusedSimpArgs false
def GoodC : Prop := ∀ (x : Pr) (W : World), Calls Try.prog 20 #[prv x] W fun e w' => e = .returned (.bool (gp x)) ∧ Nx W w'
def WorkC : Prop := ∀ (x : Pr) (n : Int) (W : World), Calls Try.prog 12 #[prv x, .int .i64 n] W fun e w' => e = .returned (.tuple #[.int .i64 (workV x n), .bool (workB x n)]) ∧ Nx W w'
def TakesC : Prop := ∀ (x o : Pr) (W : World), Calls Try.prog 13 #[prv x, prv o] W fun e w' => e = .returned (.tuple #[.int .i64 (takesV x o), .bool (takesB x o)]) ∧ Nx W w'
def OneC : Prop := ∀ (m : Int) (L : List Pr) (v : Value) (k : Int) (W : World), Sl W v L → Calls Try.prog 11 #[.int .i64 m, v, .int .i64 k] W fun e w' => e = .returned (.tuple #[.bool (oneB m L k), .int .i64 (oneE m L k)]) ∧ Nx W w'
def AllC : Prop := ∀ (m : Int) (L : List Pr) (v : Value) (W : World), Sl W v L → Calls Try.prog 10 #[.int .i64 m, v] W fun e w' => e = .returned (.tuple #[.bool (allB m L), .int .i64 (allE m L)]) ∧ Nx W w'
def UseC : Prop := ∀ (L : List Pr) (v : Value) (W : World), Sl W v L → Calls Try.prog 14 #[v] W fun e w' => e = .returned (.tuple #[.int .i64 (useN L), .bool (useX L)]) ∧ Nx W w'
def AwakeC : Prop := ∀ (W : World), Calls Try.prog 9 #[] W fun e w' => e = .returned (.bool true) ∧ Nx W w'
theorem work25 : workV (2, 5) 12 = 6 ∧ workB (2, 5) 12 = true := by decide +kernel
theorem all12 : allB 1 [(1, 2)] = true ∧ allE 1 [(1, 2)] = 0 := by decide +kernel
theorem good25 : gp (2, 5) = true := by decide +kernel
set_option maxHeartbeats 4000000 in
theorem awake_of (hW : Hid WorkC) (hA : Hid AllC) (hG : Hid GoodC) : AwakeC := by
  intro W
  have E1 := hide work25
  have E2 := hide all12
  have E3 := hide good25
  go_enter Try.func9, Try.ntmps9
  go_wp2_with fail
  refine (hW.out (2, 5) 12 _).mono ?_
  rintro e w1 ⟨rfl, hb⟩
  rw [E1.out.1, E1.out.2]
  have S1 := hide (Sl.lit (L := [(1, 2)]) (heap_alloc_new w1 (.cells #[.int .i64 1, .int .i64 2] 24)) (by decide))
  have B1 := hide (Nx.trans hb (Nx.alloc w1 (.cells #[.int .i64 1, .int .i64 2] 24)))
  clear hb
  go_wp2_with fail
  refine (hA.out 1 [(1, 2)] _ _ S1.out).mono ?_
  rintro e w3 ⟨rfl, hb⟩
  rw [E2.out.1, E2.out.2]
  have B3 := hide (Nx.trans B1.out hb)
  clear hb B1 S1
  go_wp2_with fail
  refine (hG.out (2, 5) _).mono ?_
  rintro e w4 ⟨rfl, hb⟩
  rw [E3.out]
  have B4 := hide (Nx.trans B3.out hb)
  clear hb B3
  go_wp2
  go_ret
  exact ⟨rfl, B4.out⟩
end Go.Proofs.Ytkfddjmhoekjgaa.Wn
