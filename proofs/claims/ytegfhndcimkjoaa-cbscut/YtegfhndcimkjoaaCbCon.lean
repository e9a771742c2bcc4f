/- What is asked of each call of cbs; servers in boxes. -/
import Derived.Test.YtegfhndcimkjoaaCbArm
namespace Go.Proofs.Ytegfhndcimkjoaa.Cb
open Go.Proofs.Ytegfhndcimkjoaa.Tk Go.RowKit
set_option linter.unusedVariables false
set_option linter.unusedSimpArgs false
def GoodC : Prop := ∀ (s : Sv) (W : World), Calls Try.prog 17 #[svv s] W fun e w' => e = .returned (.bool (sgood s)) ∧ Nx W w'
def NewC : Prop := ∀ (q p : Int) (W : World), Calls Try.prog 10 #[.int .i64 q, .int .i64 p] W fun e w' => e = .returned (.tuple #[svv (new q p), .int .i64 (newE q p)]) ∧ Nx W w'
def WakeC : Prop := ∀ (s : Sv) (now : Int) (W : World), Calls Try.prog 11 #[svv s, .int .i64 now] W fun e w' => e = .returned (.tuple #[svv (wake s now), .int .i64 (wakeE s now)]) ∧ Nx W w'
def UseC : Prop := ∀ (s : Sv) (n : Int) (W : World), Calls Try.prog 12 #[svv s, .int .i64 n] W fun e w' => e = .returned (.tuple #[svv (use s n), .int .i64 (useE s n)]) ∧ Nx W w'
def IdleC : Prop := ∀ (s : Sv) (W : World), Calls Try.prog 13 #[svv s] W fun e w' => e = .returned (.tuple #[svv (idle s), .int .i64 (idleE s)]) ∧ Nx W w'
def WaitC : Prop := ∀ (s : Sv) (W : World), Calls Try.prog 15 #[svv s] W fun e w' => e = .returned (.tuple #[svv (wait s), .int .i64 (waitE s)]) ∧ Nx W w'
def TurnC : Prop := ∀ (s : Sv) (now : Int) (W : World), Calls Try.prog 14 #[svv s, .int .i64 now] W fun e w' => e = .returned (.tuple #[svv (turn s now), .bool (turnB s now)]) ∧ Nx W w'
def LessC : Prop := ∀ (s t : Sv) (W : World), Calls Try.prog 16 #[svv s, svv t] W fun e w' => e = .returned (.bool (decide (s.d < t.d))) ∧ Nx W w'
def AwakeC : Prop := ∀ (W : World), Calls Try.prog 9 #[] W fun e w' => e = .returned (.bool true) ∧ Nx W w'
/-- A server in a box. -/
def Vb (w : World) (g : Nat) (s : Sv) : Prop := w.heap[g]? = some (.cells #[.int .i64 s.q, .int .i64 s.p, .int .i64 s.b, .int .i64 s.d, .int .i64 s.m] 24 (0, 0))
theorem Vb.below {w w' : World} {g : Nat} {s : Sv} (h : Vb w g s) (hB : Nx w w') : Vb w' g s := (hB.block g (Array.getElem?_eq_some_iff.1 h).1).trans h
theorem Vb.new (w : World) (s : Sv) : Vb (w.alloc (.cells #[.int .i64 s.q, .int .i64 s.p, .int .i64 s.b, .int .i64 s.d, .int .i64 s.m] 24)) w.heap.size s := heap_alloc_new w _
theorem Vb.lt {w : World} {g : Nat} {s : Sv} (h : Vb w g s) : g < w.heap.size := (Array.getElem?_eq_some_iff.1 h).1
theorem Vb.row {w : World} {g : Nat} {q p b d m : Int} (h : Vb w g ⟨q, p, b, d, m⟩) : w.heap[g]? = some (.cells #[.int .i64 q, .int .i64 p, .int .i64 b, .int .i64 d, .int .i64 m] 24 (0, 0)) := h
/-- A block whose cells are written anew. -/
structure Put (g : Nat) (w w' : World) (o : Obj) : Prop where
  row : w'.heap[g]? = some o
  rest : ∀ k, k ≠ g → w'.heap[k]? = w.heap[k]?
  size : w'.heap.size = w.heap.size
  os : w'.os = w.os
  tape : w'.tape = w.tape
  output : w'.output = w.output
theorem put5 {w : World} {g e : Nat} {x y z t u : Value} (h : w.heap[g]? = some (.cells #[x, y, z, t, u] e (0, 0))) (x' y' z' t' u' : Value) :
    Put g w (((((w.setCell ⟨g, 0, none⟩ x').setCell ⟨g, 1, none⟩ y').setCell ⟨g, 2, none⟩ z').setCell ⟨g, 3, none⟩ t').setCell ⟨g, 4, none⟩ u') (.cells #[x', y', z', t', u'] e (0, 0)) := by
  refine ⟨?_, fun k hk => ?_, ?_, by simp only [World.setCell], by simp only [World.setCell], by simp only [World.setCell]⟩
  · rw [heap_setCell_same _ g 4 _ _ _ (heap_setCell_same _ g 3 _ _ _ (heap_setCell_same _ g 2 _ _ _ (heap_setCell_same _ g 1 _ _ _ (heap_setCell_same _ g 0 _ _ _ h))))]; rfl
  · rw [heap_setCell_other _ _ k _ hk, heap_setCell_other _ _ k _ hk, heap_setCell_other _ _ k _ hk, heap_setCell_other _ _ k _ hk, heap_setCell_other _ _ k _ hk]
  · simp [World.setCell]
theorem Put.below {g B : Nat} {w0 w w' : World} {o : Obj} (h : Put g w w' o) (hB : Below B w0 w) (hg : B ≤ g) : Below B w0 w' :=
  hB.trans ⟨h.os, h.tape, h.output, Nat.le_of_eq h.size.symm, fun k hk => h.rest k (by omega)⟩
theorem Vb.put {w w' : World} {g : Nat} {s : Sv} (P : Put g w w' (.cells #[.int .i64 s.q, .int .i64 s.p, .int .i64 s.b, .int .i64 s.d, .int .i64 s.m] 24 (0, 0))) : Vb w' g s := P.row
theorem Vb.other {w w' : World} {g g' : Nat} {s : Sv} {o : Obj} (h : Vb w g s) (hne : g ≠ g') (P : Put g' w w' o) : Vb w' g s := (P.rest g hne).trans h
theorem new25 : new 2 5 = ⟨2, 5, 0, 0, 0⟩ ∧ newE 2 5 = 0 := (new_0 (by decide +kernel)).symm
theorem wake25 : wake ⟨2, 5, 0, 0, 0⟩ 10 = ⟨2, 5, 2, 15, 1⟩ ∧ wakeE ⟨2, 5, 0, 0, 0⟩ 10 = 0 := (wake_0a (by decide +kernel) (by decide +kernel) rfl (by decide +kernel) (by decide +kernel)).symm
theorem good25 : sgood ⟨2, 5, 2, 15, 1⟩ = true := by decide +kernel
set_option maxHeartbeats 4000000 in
theorem awake_of (hN : Hid NewC) (hW : Hid WakeC) (hG : Hid GoodC) : AwakeC := by
  intro W
  have E1 := hide new25
  have E2 := hide wake25
  have E3 := hide good25
  go_enter Try.func9, Try.ntmps9
  go_wp2_with fail
  refine (hN.out 2 5 _).mono ?_
  rintro e w1 ⟨rfl, hb⟩
  rw [E1.out.1, E1.out.2]
  have B1 := hide (Nx.trans hb (Nx.alloc w1 (.cells #[.int .i64 2, .int .i64 5, .int .i64 0, .int .i64 0, .int .i64 0] 24)))
  clear hb
  go_wp2_with fail
  generalize w1.alloc (.cells #[.int .i64 2, .int .i64 5, .int .i64 0, .int .i64 0, .int .i64 0] 24) = w2 at *
  refine (hW.out ⟨2, 5, 0, 0, 0⟩ 10 w2).mono ?_
  rintro e w3 ⟨rfl, hb⟩
  rw [E2.out.1, E2.out.2]
  have B3 := hide (Nx.trans B1.out (Nx.trans hb (Nx.alloc w3 (.cells #[.int .i64 2, .int .i64 5, .int .i64 2, .int .i64 15, .int .i64 1] 24))))
  clear hb B1
  go_wp2_with fail
  refine (hG.out ⟨2, 5, 2, 15, 1⟩ _).mono ?_
  rintro e w4 ⟨rfl, hb⟩
  rw [E3.out]
  have B4 := hide (Nx.trans B3.out hb)
  clear hb B3
  go_wp2
  go_ret
  exact ⟨rfl, B4.out⟩
end Go.Proofs.Ytegfhndcimkjoaa.Cb
