/- Servers: each call's cases, and a server as a value. -/
import Derived.Test.YtegfhndcimkjoaaCbPl
import Derived.Laws.Rows
import Derived.Laws.ResultCell
import Derived.Deep.CutBlock
import Derived.Deep.CutRange
namespace Go.Proofs.Ytegfhndcimkjoaa.Cb
open Go.Proofs.Ytegfhndcimkjoaa.Tk Go.RowKit
set_option linter.unusedVariables false
set_option linter.unusedSimpArgs false
theorem new_1 {q p : Int} (h : pairB q p = false) : newE q p = 1 ∧ new q p = ⟨0, 0, 0, 0, 0⟩ := by
  have e : newE q p = 1 := by unfold newE; rw [if_neg (by rw [h]; decide)]
  exact ⟨e, by unfold new; rw [if_neg (by rw [e]; decide)]⟩
theorem new_0 {q p : Int} (h : pairB q p = true) : newE q p = 0 ∧ new q p = ⟨q, p, 0, 0, 0⟩ := by
  have e : newE q p = 0 := by unfold newE; rw [if_pos h]
  exact ⟨e, by unfold new; rw [if_pos e]⟩
theorem wake_1 {s : Sv} {now : Int} (h : (sgood s && good now) = false) : wakeE s now = 1 ∧ wake s now = s := by
  have e : wakeE s now = 1 := by unfold wakeE; rw [if_neg (by rw [h]; decide)]
  exact ⟨e, by unfold wake; rw [if_neg (by rw [e]; decide)]⟩
theorem wake_5 {s : Sv} {now : Int} (h : sgood s = true) (hn : good now = true) (hm : s.m ≠ 0) : wakeE s now = 5 ∧ wake s now = s := by
  have e : wakeE s now = 5 := by unfold wakeE; rw [if_pos (by rw [h, hn]; rfl), if_neg hm]
  exact ⟨e, by unfold wake; rw [if_neg (by rw [e]; decide)]⟩
theorem wake_6 {s : Sv} {now : Int} (h : sgood s = true) (hn : good now = true) (hm : s.m = 0) (hd : s.d ≤ now) (ho : ¬ now + s.p ≤ 4611686018427387904) : wakeE s now = 6 ∧ wake s now = s := by
  have e : wakeE s now = 6 := by unfold wakeE; rw [if_pos (by rw [h, hn]; rfl), if_pos hm, if_pos ⟨hd, ho⟩]
  exact ⟨e, by unfold wake; rw [if_neg (by rw [e]; decide)]⟩
theorem wake_0a {s : Sv} {now : Int} (h : sgood s = true) (hn : good now = true) (hm : s.m = 0) (hd : s.d ≤ now) (ho : now + s.p ≤ 4611686018427387904) : wakeE s now = 0 ∧ wake s now = ⟨s.q, s.p, s.q, now + s.p, 1⟩ := by
  have e : wakeE s now = 0 := wakeE_zero.2 ⟨h, hn, hm, fun _ => ho⟩
  exact ⟨e, by unfold wake; rw [if_pos e]; unfold wakeS; rw [if_pos hd]⟩
theorem wake_0b {s : Sv} {now : Int} (h : sgood s = true) (hn : good now = true) (hm : s.m = 0) (hd : now < s.d) : wakeE s now = 0 ∧ wake s now = ⟨s.q, s.p, cutB s now, s.d, modeB (cutB s now)⟩ := by
  have e : wakeE s now = 0 := wakeE_zero.2 ⟨h, hn, hm, fun hc => by omega⟩
  exact ⟨e, by unfold wake; rw [if_pos e]; unfold wakeS; rw [if_neg (by omega)]⟩
theorem use_1 {s : Sv} {n : Int} (h : ¬ (sgood s = true ∧ 1 ≤ n ∧ n ≤ s.b)) : useE s n = 1 ∧ use s n = s := by
  have e : useE s n = 1 := by unfold useE; rw [if_neg h]
  exact ⟨e, by unfold use; rw [if_neg (by rw [e]; decide)]⟩
theorem use_4 {s : Sv} {n : Int} (h : sgood s = true) (h1 : 1 ≤ n) (h2 : n ≤ s.b) (hm : s.m ≠ 1) : useE s n = 4 ∧ use s n = s := by
  have e : useE s n = 4 := by unfold useE; rw [if_pos ⟨h, h1, h2⟩, if_neg hm]
  exact ⟨e, by unfold use; rw [if_neg (by rw [e]; decide)]⟩
theorem use_0 {s : Sv} {n : Int} (h : sgood s = true) (h1 : 1 ≤ n) (h2 : n ≤ s.b) (hm : s.m = 1) : useE s n = 0 ∧ use s n = ⟨s.q, s.p, s.b - n, s.d, modeB (s.b - n)⟩ := by
  have e : useE s n = 0 := useE_zero.2 ⟨h, h1, h2, hm⟩
  exact ⟨e, by unfold use; rw [if_pos e]⟩
theorem idle_1 {s : Sv} (h : sgood s = false) : idleE s = 1 ∧ idle s = s := by
  have e : idleE s = 1 := by unfold idleE; rw [if_neg (by rw [h]; decide)]
  exact ⟨e, by unfold idle; rw [if_neg (by rw [e]; decide)]⟩
theorem idle_4 {s : Sv} (h : sgood s = true) (hm : s.m = 0) : idleE s = 4 ∧ idle s = s := by
  have e : idleE s = 4 := by unfold idleE; rw [if_pos h, if_pos hm]
  exact ⟨e, by unfold idle; rw [if_neg (by rw [e]; decide)]⟩
theorem idle_0 {s : Sv} (h : sgood s = true) (hm : s.m ≠ 0) : idleE s = 0 ∧ idle s = ⟨s.q, s.p, s.b, s.d, 0⟩ := by
  have e : idleE s = 0 := idleE_zero.2 ⟨h, hm⟩
  exact ⟨e, by unfold idle; rw [if_pos e]⟩
theorem wait_1 {s : Sv} (h : sgood s = false) : waitE s = 1 ∧ wait s = s := by
  have e : waitE s = 1 := by unfold waitE; rw [if_neg (by rw [h]; decide)]
  exact ⟨e, by unfold wait; rw [if_neg (by rw [e]; decide)]⟩
theorem wait_4 {s : Sv} (h : sgood s = true) (hm : s.m ≠ 1) : waitE s = 4 ∧ wait s = s := by
  have e : waitE s = 4 := by unfold waitE; rw [if_pos h, if_neg hm]
  exact ⟨e, by unfold wait; rw [if_neg (by rw [e]; decide)]⟩
theorem wait_0 {s : Sv} (h : sgood s = true) (hm : s.m = 1) : waitE s = 0 ∧ wait s = ⟨s.q, s.p, s.b, s.d, 2⟩ := by
  have e : waitE s = 0 := waitE_zero.2 ⟨h, hm⟩
  exact ⟨e, by unfold wait; rw [if_pos e]⟩
theorem turn_n {s : Sv} {now : Int} (h : turnB s now = false) : turn s now = s := by unfold turn; rw [if_neg (by rw [h]; decide)]
theorem turn_y {s : Sv} {now : Int} (h : turnB s now = true) : turn s now = ⟨s.q, s.p, s.q, nextOf now s.d s.p, 1⟩ := by unfold turn; rw [if_pos h]
/-- A server, as a value. -/
abbrev svv (s : Sv) : Value := .agg #[.int .i64 s.q, .int .i64 s.p, .int .i64 s.b, .int .i64 s.d, .int .i64 s.m]
theorem row5 {w : World} {g e : Nat} {x y z t u : Value} {fr : Nat × Nat} (h : w.heap[g]? = some (.cells #[x, y, z, t, u] e fr)) :
    w.cell? ⟨g, 0, none⟩ = some x ∧ w.cell? ⟨g, 1, none⟩ = some y ∧ w.cell? ⟨g, 2, none⟩ = some z ∧ w.cell? ⟨g, 3, none⟩ = some t ∧ w.cell? ⟨g, 4, none⟩ = some u :=
  ⟨(cell_of_row w g 0 _ e _ h).trans rfl, (cell_of_row w g 1 _ e _ h).trans rfl, (cell_of_row w g 2 _ e _ h).trans rfl, (cell_of_row w g 3 _ e _ h).trans rfl, (cell_of_row w g 4 _ e _ h).trans rfl⟩
theorem row_free {w : World} {g e : Nat} {cs : Array Value} (h : w.heap[g]? = some (.cells cs e (0, 0))) (j : Nat) : w.frozen? ⟨g, j, none⟩ = false := by simp [World.frozen?, h]
theorem heap_alloc_at (W : World) (o : Obj) (d : Nat) (h : d = W.heap.size) : (W.alloc o).heap[d]? = some o := by subst h; exact heap_alloc_new W o
theorem bel1 {W : World} (o : Obj) : Below W.heap.size W (W.alloc o) := (Below.refl _ W).alloc (Nat.le_refl _) o
theorem bel2 {W : World} (o p : Obj) : Below W.heap.size W ((W.alloc o).alloc p) := (bel1 o).alloc (by simp) p
theorem box1 {W w' : World} {o : Obj} (hb : Below (W.alloc o).heap.size (W.alloc o) w') : w'.heap[W.heap.size]? = some o := (hb.block W.heap.size (by simp)).trans (heap_alloc_new W o)
theorem box2 {W w' : World} {o p : Obj} (hb : Below ((W.alloc o).alloc p).heap.size ((W.alloc o).alloc p) w') : w'.heap[W.heap.size]? = some o ∧ w'.heap[W.heap.size + 1]? = some p :=
  ⟨(hb.block W.heap.size (by simp; omega)).trans ((heap_alloc_old _ _ (by simp)).trans (heap_alloc_new W _)), (hb.block (W.heap.size + 1) (by simp)).trans (heap_alloc_at _ _ _ (by simp))⟩
/-- On from a world: what lies there stays. -/
abbrev Nx (w w' : World) : Prop := Below w.heap.size w w'
theorem Nx.trans {a b c : World} (h : Nx a b) (k : Nx b c) : Nx a c := Below.trans h (Below.mono k h.size)
theorem Nx.alloc (w : World) (o : Obj) : Nx w (w.alloc o) := bel1 o
end Go.Proofs.Ytegfhndcimkjoaa.Cb
