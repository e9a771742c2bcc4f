/- A row of numbers in memory; New, Len, Front, Put. -/
import Derived.Test.YtndmmhikhfndaaaRows
import Derived.Test.YtndmmhikhfndaaaApd
import Derived.Test.YtndmmhikhfndaaaShelf
import Derived.Lib.OwnBridge
import Derived.WalkKit
import Derived.OwnWalk
import Derived.Deep.RegionHeld3
import Derived.Deep.DrawnRows
import Derived.BigQuiet
import Derived.Deep.QuietTactic
import Derived.Lib.QuietBelow
import Derived.Laws.MakeOwn
import Derived.Laws.CopyOwn
namespace Go.Proofs.Ytndmmhikhfndaaa.Con
open Go.RowKit
set_option linter.unusedVariables false
set_option linter.unusedSimpArgs false
attribute [local go_sem ↓] Go.wp_at_zero Go.wp_at_succ
theorem hide {p : Prop} (h : p) : Hid p := h
theorem unhide {p : Prop} (h : Hid p) : p := h.out
theorem ret_i64 {a b : Int} (h : a = b) : Ending.returned (.int .i64 a) = .returned (.int .i64 b) := by rw [h]
theorem ret_bool {a b : Bool} (h : a = b) : Ending.returned (.bool a) = .returned (.bool b) := by rw [h]
theorem infoI : (Try.prog.info? 3).map (fun i => (i.zero, i.size, i.bytes)) = some (some (.int .i64 0), 1, 8) := by kernel_rfl
theorem info_parts {e : TypeId} {z : Value} {s b : Nat} (h : (Try.prog.info? e).map (fun i => (i.zero, i.size, i.bytes)) = some (some z, s, b)) : ∃ i, Try.prog.info? e = some i ∧ i.zero = some z ∧ i.size = s ∧ i.bytes = b := by
  obtain ⟨i, hi, hz⟩ := Option.map_eq_some_iff.1 h
  simp only [Prod.mk.injEq] at hz
  exact ⟨i, hi, hz⟩
def intsV (xs : List Int) : List Value := xs.map (Value.int .i64)
theorem intsV_len (xs : List Int) : (intsV xs).length = xs.length := by simp [intsV]
theorem intsV_get (xs : List Int) (j : Nat) (h : j < xs.length) : (intsV xs)[j]? = some (.int .i64 (xs.getD j 0)) := by
  unfold intsV
  rw [List.getElem?_map, List.getD_eq_getElem?_getD, List.getElem?_eq_getElem h]; rfl
theorem intsV_one (xs : List Int) : ∀ u ∈ intsV xs, u.oneCell' = true := by
  intro u hu
  obtain ⟨x, _, rfl⟩ := List.mem_map.1 hu
  rfl
/-- A row of numbers, ours. -/
def IRow (B : Nat) (w : World) (v : Value) (xs : List Int) : Prop := w.ownsRow B 3 1 v xs.length (intsV xs)
section
variable {B : Nat} {w w' : World} {v : Value} {xs : List Int}
theorem IRow.nil (B : Nat) (w : World) : IRow B w (.slice none 0 0) [] := World.ownsRow_nil _ _ _ _
theorem IRow.past (h : IRow B w v xs) : ∀ k, v.ownBlock = some k → B ≤ k := own_past h
theorem IRow.lt (h : IRow B w v xs) : ∀ k, v.ownBlock = some k → k < w.heap.size := own_lt h
theorem IRow.kept (h : IRow B w v xs) (hk : ∀ k, v.ownBlock = some k → w'.heap[k]? = w.heap[k]?) : IRow B w' v xs := own_kept h hk
theorem IRow.form (h : IRow B w v xs) : ∃ p c, v = .slice p xs.length c := by
  rcases h.2 with ⟨rfl, h0⟩ | ⟨g, cap, cur, rfl, _⟩
  · exact ⟨none, 0, by rw [h0]⟩
  · exact ⟨_, cap, rfl⟩
theorem IRow.blk (h : IRow B w v xs) {k : Nat} (hk : v.ownBlock = some k) : ∃ cur, w.heap[k]? = some (.cells cur 3 (0, 0)) := by
  rcases h.2 with ⟨rfl, _⟩ | ⟨g, cap, cur, rfl, _, hg, _⟩
  · simp [Value.ownBlock] at hk
  · simp [Value.ownBlock] at hk
    subst hk
    exact ⟨cur, hg⟩
theorem IRow.mono {B' : Nat} (h : IRow B w v xs) (hB : B' ≤ B) : IRow B' w v xs := by
  obtain ⟨h1, ⟨h0, h2⟩ | ⟨g, cap, cur, rfl, h0, r⟩⟩ := h
  · exact ⟨h1, .inl ⟨h0, h2⟩⟩
  · exact ⟨h1, .inr ⟨g, cap, cur, rfl, by omega, r⟩⟩
theorem IRow.rd (h : IRow B w v xs) : RdC w w.heap.size 1 v xs.length (intsV xs) := RdC.own h
/-- Where it lies, if it holds any. -/
theorem IRow.at (h : IRow B w v xs) (h0 : 0 < xs.length) : ∃ g c, v = .slice (some ⟨g, 0, none⟩) xs.length c ∧ B ≤ g ∧ g < w.heap.size ∧ xs.length ≤ c ∧ c ≤ maxLen ∧ ∀ j, j < xs.length → w.cell? ⟨g, j, none⟩ = some (.int .i64 (xs.getD j 0)) := by
  obtain ⟨h1, ⟨rfl, h2⟩ | ⟨g, cap, cur, rfl, h2, h3, h4, h5, h6, h7⟩⟩ := h
  · omega
  · refine ⟨g, cap, rfl, h2, (Array.getElem?_eq_some_iff.1 h3).1, h4, h5, fun j hj => ?_⟩
    rw [cell_of_row w g j cur _ _ h3]
    have := intsV_get xs j hj
    rw [← h7, List.getElem?_take, if_pos (by omega)] at this
    simpa using this
theorem intsV_snoc (xs : List Int) (x : Int) : intsV (xs ++ [x]) = intsV xs ++ [.int .i64 x] := by simp [intsV]
/-- One more at the end. -/
theorem IRow.app (h : IRow B w v xs) (hB : B ≤ w.heap.size) (hx : xs.length ≤ 1000) (N : Int) (ty : TypeId) :
    ∃ p c w', (Builtin.append_ #[28, 28] ty #[v, .slice (some ⟨w.heap.size, 0, none⟩) 1 1]).run Try.prog (w.alloc (.cells #[.int .i64 N] 3)) = .ok (.slice p (xs.length + 1) c) w' ∧ IRow B w' (.slice p (xs.length + 1) c) (xs ++ [N]) ∧
      w.grownBy w' v.ownBlock ∧ ((Value.slice p (xs.length + 1) c).ownBlock = v.ownBlock ∨ (Value.slice p (xs.length + 1) c).ownBlock = some (w.heap.size + 1)) := by
  obtain ⟨i0, hi, hz0, hz1, hz2⟩ := info_parts infoI
  have hr := rd_one (heap_alloc_new w (.cells #[.int .i64 N] 3)) (size := 1) rfl
  obtain ⟨p, c, w', r1, r2, r3, r4⟩ := run_append_rd (w.alloc (.cells #[.int .i64 N] 3)) B 28 ty 3 i0 (.int .i64 0) 1 8 Try.underlying28 hi hz0 hz1 hz2 rfl (by decide) v xs.length (intsV xs) (h.alloc _) _ _ 1 _ hr (by intro u hu; simp at hu; subst hu; rfl) (by unfold maxLen; omega) (by omega) (by simp; omega)
  refine ⟨p, c, w', r1, ?_, ⟨r3.os, r3.tape, r3.output, by have := r3.size; simp at this; omega, fun k hk hn => (r3.block k (by simp; omega) hn).trans (heap_alloc_old w _ hk)⟩, by simpa using r4⟩
  unfold IRow
  rw [List.length_append, intsV_snoc]
  exact r2
end
/-- .. in a walk. -/
theorem wpList_iapp {ops : Array Oper} {rest : List Oper} {o : Oper} {a : Act} {Q : Exit → Act → World → Prop} {w : World} (hgd : o.guard = none) (s x : Operand)
    (ho : o.op = .call { callee := .builtin .append, args := #[s, x], argTypes := #[28, 28] }) (B : Nat) (N : Int) (v : Value) (xs : List Int) (hs : a.eval s = v) (hx : a.eval x = .slice (some ⟨w.heap.size, 0, none⟩) 1 1)
    (h : IRow B w v xs) (hB : B ≤ w.heap.size) (hl : xs.length ≤ 1000)
    (k : ∀ p c w', Hid (IRow B w' (.slice p (xs.length + 1) c) (xs ++ [N]) ∧ w.grownBy w' v.ownBlock ∧ ((Value.slice p (xs.length + 1) c).ownBlock = v.ownBlock ∨ (Value.slice p (xs.length + 1) c).ownBlock = some (w.heap.size + 1))) → wpList Try.prog ops Q rest (a.put o.dst (.slice p (xs.length + 1) c)) w') :
    wpList Try.prog ops Q (o :: rest) a (w.alloc (.cells #[.int .i64 N] 3)) := by
  refine wpList_plain hgd fun K hK => ?_
  obtain ⟨p, c, w', hr, h2, h3, h4⟩ := h.app hB hl N o.type
  unfold Oper.wp execOp
  simp only [ho, resolve, invoke, builtin, Sem.run_bind, Sem.run_pure, Result.andThen_ok, List.map_toArray, List.map_cons, List.map_nil, hs, hx, hr]
  exact hK _ _ (k p c w' (hide ⟨h2, h3, h4⟩))
/-- A fifo at fb with room for m: its row is v, and holds xs. -/
structure Fi (W : World) (B fb m : Nat) (v : Value) (xs : List Int) : Prop where
  str : W.heap[fb]? = some (.cells #[.int .i64 (m : Int), v] 50 (0, 0))
  row : IRow B W v xs
  lo : 1 ≤ m
  hi : m ≤ 256
  fit : xs.length ≤ m
  past : B ≤ fb
/-- What a call on it may turn: itself, its row. -/
structure Turn (W W' : World) (fb : Nat) (v v' : Value) : Prop where
  os : W'.os = W.os
  tape : W'.tape = W.tape
  output : W'.output = W.output
  size : W.heap.size ≤ W'.heap.size
  block : ∀ k, k < W.heap.size → k ≠ fb → v.ownBlock ≠ some k → W'.heap[k]? = W.heap[k]?
  own : ∀ k, v'.ownBlock = some k → v.ownBlock = some k ∨ W.heap.size ≤ k
theorem Turn.refl (W : World) (fb : Nat) (v : Value) : Turn W W fb v v := ⟨rfl, rfl, rfl, Nat.le_refl _, fun _ _ _ _ => rfl, fun _ h => .inl h⟩
theorem Turn.trans {W W' W'' : World} {fb : Nat} {v v' v'' : Value} (h : Turn W W' fb v v') (k : Turn W' W'' fb v' v'') : Turn W W'' fb v v'' := by
  have s := h.size
  refine ⟨k.os.trans h.os, k.tape.trans h.tape, k.output.trans h.output, Nat.le_trans h.size k.size, fun i hi hn ho => ?_, fun i hi => ?_⟩
  · refine (k.block i (by omega) hn fun e => ?_).trans (h.block i hi hn ho)
    rcases h.own i e with e | e
    · exact ho e
    · omega
  · rcases k.own i hi with e | e
    · exact h.own i e
    · exact .inr (by omega)
theorem Turn.below {W W' : World} (h : Below W.heap.size W W') (fb : Nat) (v : Value) : Turn W W' fb v v := ⟨h.os, h.tape, h.output, h.size, fun k hk _ _ => h.block k hk, fun _ h => .inl h⟩
section
variable {W W' : World} {B fb m : Nat} {v v' : Value} {xs : List Int}
theorem Fi.lt (h : Fi W B fb m v xs) : fb < W.heap.size := (Array.getElem?_eq_some_iff.1 h.str).1
theorem Fi.base (h : Fi W B fb m v xs) : B ≤ W.heap.size := by have := h.lt; have := h.past; omega
theorem Fi.own (h : Fi W B fb m v xs) : v.ownBlock ≠ some fb := by
  intro e
  obtain ⟨cur, hc⟩ := h.row.blk e
  have := h.str.symm.trans hc
  simp at this
theorem Fi.kept (h : Fi W B fb m v xs) (h1 : W'.heap[fb]? = W.heap[fb]?) (h2 : ∀ k, v.ownBlock = some k → W'.heap[k]? = W.heap[k]?) : Fi W' B fb m v xs := ⟨h1.trans h.str, h.row.kept h2, h.lo, h.hi, h.fit, h.past⟩
theorem Fi.below (h : Fi W B fb m v xs) (hB : Below W.heap.size W W') : Fi W' B fb m v xs := h.kept (hB.block _ h.lt) (fun k hk => hB.block k (h.row.lt k hk))
theorem Fi.cells (h : Fi W B fb m v xs) : W.cell? ⟨fb, 0, none⟩ = some (.int .i64 (m : Int)) ∧ W.cell? ⟨fb, 1, none⟩ = some v ∧ W.frozen? ⟨fb, 1, none⟩ = false := by
  refine ⟨?_, ?_, ?_⟩
  · rw [cell_of_row W fb _ _ _ _ h.str]; rfl
  · rw [cell_of_row W fb _ _ _ _ h.str]; rfl
  · simp [World.frozen?, h.str]
theorem Fi.mono {B' : Nat} (h : Fi W B fb m v xs) (hB : B' ≤ B) : Fi W B' fb m v xs := ⟨h.str, h.row.mono hB, h.lo, h.hi, h.fit, Nat.le_trans hB h.past⟩
theorem Turn.toBelow (h : Turn W W' fb v v') (hF : Fi W B fb m v xs) : Below B W W' :=
  ⟨h.os, h.tape, h.output, h.size, fun k hk => h.block k (by have := hF.base; omega) (by have := hF.past; omega) (fun e => by have := hF.row.past k e; omega)⟩
end
def held (n : Int) : Nat := (min (max n 1) 256).toNat
theorem held_lo (n : Int) : 1 ≤ held n := by unfold held; omega
theorem held_hi (n : Int) : held n ≤ 256 := by unfold held; omega
def NewPost (n : Int) (w : World) (e : Ending) (w' : World) : Prop :=
  ∃ fb, e = .returned (.pointer (some ⟨fb, 0, none⟩)) ∧ Fi w' w.heap.size fb (held n) (.slice none 0 0) [] ∧ Below w.heap.size w w'
theorem new_any (n : Int) (w : World) :
    Calls Try.prog 16 #[.int .i64 n] w fun e w' => NewPost n w e w' := by
  obtain ⟨m, hm⟩ : ∃ m, m = held n := ⟨_, rfl⟩
  have h1 := held_lo n
  have h2 := held_hi n
  rw [← hm] at h1 h2
  have he : min (max n 1) 256 = (m : Int) := by rw [hm]; unfold held; omega
  have FIN : Hid (∀ w1 : World, w1 = w.alloc (.cells #[.int .i64 (m : Int), .slice none 0 0] 50) → NewPost n w (.returned (.pointer (some ⟨w.heap.size, 0, none⟩))) w1) := by
    refine hide ?_
    rintro w1 rfl
    unfold NewPost
    rw [← hm]
    refine ⟨w.heap.size, rfl, ⟨heap_alloc_new _ _, IRow.nil _ _, h1, h2, by simp, Nat.le_refl _⟩, (Below.refl _ _).alloc (Nat.le_refl _) _⟩
  clear hm h1 h2
  have HE := hide he
  clear he
  go_enter Try.func16, Try.ntmps16
  go_wp2
  go_ret
  exact FIN.out _ (by rw [HE.out])
section
variable {W : World} {B fb m : Nat} {v : Value} {xs : List Int}
theorem len_any (h : Fi W B fb m v xs) : Calls Try.prog 23 #[.pointer (some ⟨fb, 0, none⟩)] W fun e w' => e = .returned (.int .i64 (xs.length : Int)) ∧ w' = W := by
  obtain ⟨c0, c1, z1⟩ := h.cells
  obtain ⟨p, c, rfl⟩ := h.row.form
  clear h
  go_enter Try.func23, Try.ntmps23
  go_wp2
  go_ret
  exact ⟨rfl, rfl⟩
theorem front_none (h : Fi W B fb m v []) : Calls Try.prog 29 #[.pointer (some ⟨fb, 0, none⟩)] W fun e w' => e = .returned (.tuple #[.int .i64 0, .bool false]) ∧ w' = W := by
  obtain ⟨c0, c1, z1⟩ := h.cells
  obtain ⟨p, c, rfl⟩ := h.row.form
  clear h
  go_enter Try.func29, Try.ntmps29
  go_wp2
  go_ret2
  exact ⟨rfl, rfl⟩
theorem front_some {x : Int} (h : Fi W B fb m v (x :: xs)) : Calls Try.prog 29 #[.pointer (some ⟨fb, 0, none⟩)] W fun e w' => e = .returned (.tuple #[.int .i64 x, .bool true]) ∧ w' = W := by
  obtain ⟨c0, c1, z1⟩ := h.cells
  obtain ⟨g, c, rfl, g1, g2, g3, g4, gc⟩ := h.row.at (by simp)
  have a0 : W.cell? ⟨g, 0, none⟩ = some (.int .i64 x) := gc 0 (by simp)
  have hfit := h.fit
  have hhi := h.hi
  obtain ⟨n, hn⟩ : ∃ n, (x :: xs).length = n := ⟨_, rfl⟩
  have n0 : 0 < n := by rw [← hn]; simp
  rw [hn] at c1 hfit
  have n1 : ¬ ((n : Int) = 0) := by omega
  have n2 : (0 : Int) < (n : Int) := by omega
  clear h gc hn
  go_enter Try.func29, Try.ntmps29
  go_wp2
  go_ret2
  exact ⟨rfl, rfl⟩
end
end Go.Proofs.Ytndmmhikhfndaaa.Con
