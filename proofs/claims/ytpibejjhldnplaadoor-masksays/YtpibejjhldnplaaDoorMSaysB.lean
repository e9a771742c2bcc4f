/- What the walk of MaskSays leans on. -/
import Derived.Test.YtpibejjhldnplaaDoorMRef
import Derived.Test.YtpibejjhldnplaaDoorMFind
import Derived.Test.YtpibejjhldnplaaDoorMTextW
import Derived.Deep.Cut
import Derived.Deep.RegionHeld3
import Derived.Lib.QuietBelow
namespace Go.Proofs.YtpibejjhldnplaaDoor.Con
open Go.RowKit Go.Proofs.YtpibejjhldnplaaDoor.Mk
set_option linter.unusedVariables false

/-- The list of a set, in memory. -/
def Nums (w : World) (v : Value) (l : List Nat) : Prop :=
  ∃ p c, v = .slice p l.length c ∧ (0 < l.length → ∃ b o, p = some ⟨b, o, none⟩ ∧ b < w.heap.size ∧ ∀ j, j < l.length → w.cell? ⟨b, o + j, none⟩ = some (.int .i64 ((l.getD j 0 : Nat) : Int)))
theorem nums_of_ints {w : World} {v : Value} {l : List Nat} (h : Ints w v (l.map fun j : Nat => (j : Int))) : Nums w v l := by
  obtain ⟨p, c, h1, h2, h3, h4⟩ := h
  rw [List.length_map] at h1
  refine ⟨p, c, h1, fun h0 => ?_⟩
  rcases h4 with h4 | ⟨b, o, h5, h6⟩
  · simp at h4; subst h4; simp at h0
  · refine ⟨b, o, h5, World.block_lt_of_cell? w _ (h6 0 (by simpa using h0)), fun j hj => ?_⟩
    rw [h6 j (by simpa using hj), List.getD_eq_getElem?_getD, List.getD_eq_getElem?_getD, List.getElem?_map, List.getElem?_eq_getElem hj]; rfl
theorem ofN_next (zs : List Int) (k : Nat) (h : k < zs.length) (hz : zs.getD k 0 < 0 ∨ 64 ≤ zs.getD k 0) : ofN (zs.take (k + 1)) = ofN (zs.take k) := by
  rw [ofN_snoc zs k h]
  exact putN_out _ _ true (ofN_lt _) hz

theorem step_wanted {c : Prop} [Decidable c] {A B : Prop} (hc : c) (h : A) : if c then A else B := by rw [if_pos hc]; exact h
theorem yields_arr {ops : Array Oper} {gs m : Nat} {op : Oper} {a : Act} (hw : Region.wanted op (yielded ops a.tmps) = true) (x : Operand) (ho : op.op = .load 34 x) (hx : a.eval x = .pointer (some ⟨gs, 0, none⟩)) :
    YieldsIf Tryd.prog ops (fun w => Arr w gs m) op (.agg (flags m)) a :=
  .inl ⟨hw, fun w hS => by
    unfold execOp
    simp only [ho, hx, Instr.loadAt, Instr.sureAddr, Sem.run_bind, Sem.run_pure, Result.andThen_ok, run_loadVar_row w gs 34 34 (flags m) (0, 0) _ hS underSet rfl (sizeSet m)]⟩
/-- The whole of an array, in a quiet walk. -/
theorem quiet_arr {C : World → Prop} {gs m : Nat} {op : Oper} {a : Act} {K : Act → Prop} (x : Operand) (ho : op.op = .load 34 x) (hx : a.eval x = .pointer (some ⟨gs, 0, none⟩)) (hC : ∀ w, C w → Arr w gs m)
    (h : K (a.put op.dst (.agg (flags m)))) : op.quiet Tryd.prog a C K := by
  refine ⟨.agg (flags m), fun w hw => ?_, h⟩
  unfold Oper.quietAt execOp
  simp only [ho, hx, Instr.loadAt, Instr.sureAddr, Sem.run_bind, Sem.run_pure, Result.andThen_ok, run_loadVar_row w gs 34 34 (flags m) (0, 0) _ (hC w hw) underSet rfl (sizeSet m)]
  exact ⟨rfl, rfl⟩
theorem q_same {f : FuncId} {args : Array Value} {w : World} {d : Nat} {os : Array Obj} {v : Value}
    (h : Calls Tryd.prog f args (Sort.grow (redrawn w d) os) fun e w' => e = .returned v ∧ w' = Sort.grow (redrawn w d) os) : Calls Tryd.prog f args (Sort.grow (redrawn w d) os) fun e w'' => e = .returned v ∧ ∃ p : Regrown, w'' = Sort.grow (redrawn w p.d) p.os :=
  h.mono fun _ _ ⟨he, hb⟩ => ⟨he, ⟨d, os⟩, hb⟩
/-- What is left of a region that draws, behind its first four operations: one walk. -/
theorem quiet_behind4 {C : World → Prop} {Q : Exit → Act → World → Prop} {o0 o1 o2 o3 : Oper} {l l' : List Oper} {listed : Array Bool} {a : Act} {w : World} (hs : Region.noSelect (o0 :: o1 :: o2 :: o3 :: l).toArray = true)
    (hB : Region.lexFrom .any (o0 :: o1 :: o2 :: o3 :: l).toArray l.length 4 listed = true) (hC : C w) (hl : l = l')
    (h : wpQuiet Tryd.prog (o0 :: o1 :: o2 :: o3 :: l').toArray C (fun a' => ∀ w', C w' → Q .normal a' w') l' a) : wpAny Tryd.prog .any (o0 :: o1 :: o2 :: o3 :: l).toArray Q l.length listed a w :=
  wpAny_of_quiet (Q := fun a' => ∀ w', C w' → Q .normal a' w') (fun _ w' hw' h => h w' hw') _ _ _ _ hC
    (wpAnyQ_lex (C := C) (md := .any) hs l 4 listed a (by intro j; simp [Nat.add_comm 4 j]) hB (by subst hl; exact h))
/-- mask.Of of the law's own list. -/
theorem of_arg (p : Option Addr) (c : Nat) (zs : List Int) (w W : World) (hl : zs.length ≤ 9223372036854775807) (hb : Below w.heap.size w W)
    (hp : 0 < zs.length → ∃ b o, p = some ⟨b, o, none⟩ ∧ b < w.heap.size ∧ ∀ j, j < zs.length → w.cell? ⟨b, o + j, none⟩ = some (.int .i64 (zs.getD j 0))) :
    Calls Tryd.prog 9 #[.slice p zs.length c] W fun e w' => e = .returned (.int .u64 (ofN zs)) ∧ w' = W := by
  by_cases h : 0 < zs.length
  · obtain ⟨b, o, rfl, h1, h2⟩ := hp h
    exact of_some b o c zs W (fun j hj => (hb.cell (p := ⟨b, o + j, none⟩) h1).trans (h2 j hj)) hl
  · have e : zs = [] := List.eq_nil_of_length_eq_zero (by omega)
    subst e
    exact of_none p c W
theorem has_in (m t : Nat) (w : World) (hm : m < 18446744073709551616) (ht : t < 64) : Calls Tryd.prog 14 #[.int .u64 m, .int .i64 t] w fun e w' => e = .returned (.bool (m.testBit t)) ∧ w' = w := has_bit m t w hm ht
theorem has_out (m : Nat) (i : Int) (w : World) (hm : m < 18446744073709551616) (hi : ¬ (0 ≤ i ∧ i < 64)) : Calls Tryd.prog 14 #[.int .u64 m, .int .i64 i] w fun e w' => e = .returned (.bool false) ∧ w' = w := by
  have := has_any m i w hm
  rw [hasN_bit, decide_eq_false (fun h => hi ⟨h.1, h.2.1⟩)] at this
  exact this
theorem len_ones (m : Nat) (w : World) (hm : m < 18446744073709551616) : Calls Tryd.prog 23 #[.int .u64 m] w fun e w' => e = .returned (.int .i64 (ones m).length) ∧ w' = w := len_any m w hm
theorem zrow1 (w : World) (X Y : Obj) : ((w.alloc X).alloc Y).heap[w.heap.size]? = some X := (Below.heap_alloc _ _ _ (by simp)).trans (heap_alloc_new w X)
theorem zrow2 (w : World) (X Y : Obj) : ((w.alloc X).alloc Y).heap[w.heap.size + 1]? = some Y := by
  have := heap_alloc_new (w.alloc X) Y
  rwa [World.size_alloc] at this
theorem arr_setRow {W : World} {g s h : Nat} (hA : Arr W g s) (hne : g ≠ h) (cs : Array Value) : Arr (W.setRow h cs) g s := (setRow_other W h g cs hne).trans hA
/-- What the two new variables hold, and nothing else has turned. -/
def Pair (w wx : World) (g1 g2 s t : Nat) : Prop := g1 ≠ g2 ∧ w.heap.size ≤ g1 ∧ w.heap.size ≤ g2 ∧ Arr wx g1 s ∧ Arr wx g2 t ∧ Below w.heap.size w wx
theorem Pair.step {w wx : World} {g1 g2 m t : Nat} (h : Pair w wx g1 g2 m m) (hm : m < 18446744073709551616) (ht : t < 64) :
    Pair w ((wx.setCell ⟨g1, t, none⟩ (.bool true)).setCell ⟨g2, t, none⟩ (.bool false)) g1 g2 (withN m (t : Int)) (withoutN m (t : Int)) := by
  obtain ⟨h1, h2, h3, h4, h5, h6⟩ := h
  refine ⟨h1, h2, h3, ?_, ?_, ?_⟩
  · exact (h4.set hm t ht true).other _ h1 _
  · exact (h5.other _ (Ne.symm h1) _).set hm t ht false
  · exact (h6.setCell (p := ⟨g1, t, none⟩) h2 _).setCell (p := ⟨g2, t, none⟩) h3 _
theorem Pair.still {w wx : World} {g1 g2 m : Nat} {i : Int} (h : Pair w wx g1 g2 m m) (hm : m < 18446744073709551616) (hi : i < 0 ∨ 64 ≤ i) : Pair w wx g1 g2 (withN m i) (withoutN m i) := by
  have e1 : withN m i = m := putN_out m i true hm hi
  have e2 : withoutN m i = m := putN_out m i false hm hi
  rw [e1, e2]; exact h
theorem pair_lo (w : World) (X Y : Array Value) (hX : 64 = 64) (hs : 64 = (flags 0).size) (m : Nat) : Pair w ((((w.alloc (.cells X 34)).alloc (.cells Y 34)).setRow w.heap.size (flags m)).setRow (w.heap.size + 1) (flags m)).drew w.heap.size (w.heap.size + 1) m m := by
  refine ⟨by omega, Nat.le_refl _, by omega, ?_, ?_, ?_⟩
  · exact arr_setRow (setRow_heap _ _ X (flags m) _ _ (zrow1 w _ _)) (by omega) _
  · exact setRow_heap _ _ Y (flags m) _ _ ((setRow_other _ _ _ _ (by omega)).trans (zrow2 w _ _))
  · exact (below_setRow (below_setRow (((Below.refl _ w).alloc (Nat.le_refl _) _).alloc (by simp) _) (Nat.le_refl _) _) (by omega) _).drew
theorem pair_hi (w : World) (X Y : Array Value) (hX : 64 = 64) (hs : 64 = (flags 0).size) (m : Nat) : Pair w ((((w.alloc (.cells X 34)).alloc (.cells Y 34)).setRow (w.heap.size + 1) (flags m)).setRow w.heap.size (flags m)).drew (w.heap.size + 1) w.heap.size m m := by
  refine ⟨by omega, by omega, Nat.le_refl _, ?_, ?_, ?_⟩
  · exact arr_setRow (setRow_heap _ _ Y (flags m) _ _ (zrow2 w _ _)) (by omega) _
  · exact setRow_heap _ _ X (flags m) _ _ ((setRow_other _ _ _ _ (by omega)).trans (zrow1 w _ _))
  · exact (below_setRow (below_setRow (((Below.refl _ w).alloc (Nat.le_refl _) _).alloc (by simp) _) (by omega) _) (Nat.le_refl _) _).drew


def regionOf (n : Nat) : Code → Option Code
  | .region i ops b => if i = n then some (.region i ops b) else none
  | .seq a b => match regionOf n a with
    | some c => some c
    | none => regionOf n b
  | .block _ c => regionOf n c
  | .scope c => regionOf n c
  | .loop c => regionOf n c
  | .cond _ a b => match regionOf n a with
    | some c => some c
    | none => regionOf n b
  | _ => none
/-- A region's operations. -/
def opsOf : Code → Array Oper
  | .region _ ops _ => ops
  | _ => #[]
end Go.Proofs.YtpibejjhldnplaaDoor.Con
