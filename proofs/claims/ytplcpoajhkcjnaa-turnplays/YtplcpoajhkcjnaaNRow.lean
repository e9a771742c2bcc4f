/- A row of numbers of any kind in memory. -/
import Derived.Test.YtplcpoajhkcjnaaRows
import Derived.Test.YtplcpoajhkcjnaaApd
import Derived.WalkKit
import Derived.OwnWalk
import Derived.Deep.RegionHeld3
import Derived.BigQuiet
import Derived.Deep.QuietTactic
import Derived.Lib.QuietBelow
namespace Go.Proofs.Ytplcpoajhkcjnaa.Con
open Go.RowKit
set_option linter.unusedVariables false
set_option linter.unusedSimpArgs false
theorem hide {p : Prop} (h : p) : Hid p := h
theorem unhide {p : Prop} (h : Hid p) : p := h.out
theorem ret_i64 {a b : Int} (h : a = b) : Ending.returned (.int .i64 a) = .returned (.int .i64 b) := by rw [h]
theorem ret_u32 {a b : Int} (h : a = b) : Ending.returned (.int .u32 a) = .returned (.int .u32 b) := by rw [h]
theorem ret_bool {a b : Bool} (h : a = b) : Ending.returned (.bool a) = .returned (.bool b) := by rw [h]
theorem info_parts {e : TypeId} {z : Value} {s b : Nat} (h : (Try.prog.info? e).map (fun i => (i.zero, i.size, i.bytes)) = some (some z, s, b)) : ∃ i, Try.prog.info? e = some i ∧ i.zero = some z ∧ i.size = s ∧ i.bytes = b := by
  obtain ⟨i, hi, hz⟩ := Option.map_eq_some_iff.1 h
  simp only [Prod.mk.injEq] at hz
  exact ⟨i, hi, hz⟩
def numV (q : IntKind) (xs : List Int) : List Value := xs.map (Value.int q)
section
variable {q : IntKind}
theorem numV_len (xs : List Int) : (numV q xs).length = xs.length := by simp [numV]
theorem numV_get (xs : List Int) (j : Nat) (h : j < xs.length) : (numV q xs)[j]? = some (.int q (xs.getD j 0)) := by
  unfold numV
  rw [List.getElem?_map, List.getD_eq_getElem?_getD, List.getElem?_eq_getElem h]; rfl
theorem numV_one (xs : List Int) : ∀ u ∈ numV q xs, u.oneCell' = true := by
  intro u hu
  obtain ⟨x, _, rfl⟩ := List.mem_map.1 hu
  rfl
theorem numV_snoc (xs : List Int) (x : Int) : numV q (xs ++ [x]) = numV q xs ++ [.int q x] := by simp [numV]
theorem numV_app (xs ys : List Int) : numV q (xs ++ ys) = numV q xs ++ numV q ys := by simp [numV]
theorem numV_take (xs : List Int) (k : Nat) : (numV q xs).take k = numV q (xs.take k) := by simp [numV]
theorem numV_drop (xs : List Int) (k : Nat) : (numV q xs).drop k = numV q (xs.drop k) := by simp [numV]
end
/-- A row of numbers, ours. -/
def NRow (e : TypeId) (q : IntKind) (B : Nat) (w : World) (v : Value) (xs : List Int) : Prop := w.ownsRow B e 1 v xs.length (numV q xs)
section
variable {e : TypeId} {q : IntKind} {B : Nat} {w w' : World} {v : Value} {xs : List Int}
theorem NRow.nil (e : TypeId) (q : IntKind) (B : Nat) (w : World) : NRow e q B w (.slice none 0 0) [] := World.ownsRow_nil _ _ _ _
theorem NRow.past (h : NRow e q B w v xs) : ∀ k, v.ownBlock = some k → B ≤ k := own_past h
theorem NRow.lt (h : NRow e q B w v xs) : ∀ k, v.ownBlock = some k → k < w.heap.size := own_lt h
theorem NRow.kept (h : NRow e q B w v xs) (hk : ∀ k, v.ownBlock = some k → w'.heap[k]? = w.heap[k]?) : NRow e q B w' v xs := own_kept h hk
theorem NRow.form (h : NRow e q B w v xs) : ∃ p c, v = .slice p xs.length c := by
  rcases h.2 with ⟨rfl, h0⟩ | ⟨g, cap, cur, rfl, _⟩
  · exact ⟨none, 0, by rw [h0]⟩
  · exact ⟨_, cap, rfl⟩
theorem NRow.blk (h : NRow e q B w v xs) {k : Nat} (hk : v.ownBlock = some k) : ∃ cur, w.heap[k]? = some (.cells cur e (0, 0)) := by
  rcases h.2 with ⟨rfl, _⟩ | ⟨g, cap, cur, rfl, _, hg, _⟩
  · simp [Value.ownBlock] at hk
  · simp [Value.ownBlock] at hk
    subst hk
    exact ⟨cur, hg⟩
theorem NRow.mono {B' : Nat} (h : NRow e q B w v xs) (hB : B' ≤ B) : NRow e q B' w v xs := by
  obtain ⟨h1, ⟨h0, h2⟩ | ⟨g, cap, cur, rfl, h0, r⟩⟩ := h
  · exact ⟨h1, .inl ⟨h0, h2⟩⟩
  · exact ⟨h1, .inr ⟨g, cap, cur, rfl, by omega, r⟩⟩
theorem NRow.rd (h : NRow e q B w v xs) : RdC w w.heap.size 1 v xs.length (numV q xs) := RdC.own h
/-- Where it lies, if it holds any. -/
theorem NRow.at (h : NRow e q B w v xs) (h0 : 0 < xs.length) : ∃ g c, v = .slice (some ⟨g, 0, none⟩) xs.length c ∧ B ≤ g ∧ g < w.heap.size ∧ xs.length ≤ c ∧ c ≤ maxLen ∧ ∀ j, j < xs.length → w.cell? ⟨g, j, none⟩ = some (.int q (xs.getD j 0)) := by
  obtain ⟨h1, ⟨rfl, h2⟩ | ⟨g, cap, cur, rfl, h2, h3, h4, h5, h6, h7⟩⟩ := h
  · omega
  · refine ⟨g, cap, rfl, h2, (Array.getElem?_eq_some_iff.1 h3).1, h4, h5, fun j hj => ?_⟩
    rw [cell_of_row w g j cur _ _ h3]
    have := numV_get (q := q) xs j hj
    rw [← h7, List.getElem?_take, if_pos (by omega)] at this
    simpa using this
/-- One more at the end. -/
theorem NRow.app {t : TypeId} {by_ : Nat} (ht : Try.prog.underlying t = some (.slice e)) (hI : (Try.prog.info? e).map (fun i => (i.zero, i.size, i.bytes)) = some (some (.int q 0), 1, by_)) (hby : by_ ≤ 8) (h : NRow e q B w v xs) (hB : B ≤ w.heap.size) (hx : xs.length ≤ 1000) (N : Int) (ty : TypeId) :
    ∃ p c w', (Builtin.append_ #[t, t] ty #[v, .slice (some ⟨w.heap.size, 0, none⟩) 1 1]).run Try.prog (w.alloc (.cells #[.int q N] e)) = .ok (.slice p (xs.length + 1) c) w' ∧ NRow e q B w' (.slice p (xs.length + 1) c) (xs ++ [N]) ∧
      w.grownBy w' v.ownBlock ∧ ((Value.slice p (xs.length + 1) c).ownBlock = v.ownBlock ∨ (Value.slice p (xs.length + 1) c).ownBlock = some (w.heap.size + 1)) := by
  obtain ⟨i0, hi, hz0, hz1, hz2⟩ := info_parts hI
  have hr := rd_one (heap_alloc_new w (.cells #[.int q N] e)) (size := 1) rfl
  have h8 : (xs.length + 1) * by_ ≤ (xs.length + 1) * 8 := Nat.mul_le_mul_left _ hby
  obtain ⟨p, c, w', r1, r2, r3, r4⟩ := run_append_rd (w.alloc (.cells #[.int q N] e)) B t ty e i0 (.int q 0) 1 by_ ht hi hz0 hz1 hz2 rfl (by decide) v xs.length (numV q xs) (h.alloc _) _ _ 1 _ hr (by intro u hu; simp at hu; subst hu; rfl) (by unfold maxLen; omega) (by omega) (by simp; omega)
  refine ⟨p, c, w', r1, ?_, ⟨r3.os, r3.tape, r3.output, by have := r3.size; simp at this; omega, fun k hk hn => (r3.block k (by simp; omega) hn).trans (heap_alloc_old w _ hk)⟩, by simpa using r4⟩
  unfold NRow
  rw [List.length_append, numV_snoc]
  exact r2
end
theorem infoI : (Try.prog.info? 3).map (fun i => (i.zero, i.size, i.bytes)) = some (some (.int .i64 0), 1, 8) := by kernel_rfl
/-- .. in a walk. -/
theorem wpList_iapp {ops : Array Oper} {rest : List Oper} {o : Oper} {a : Act} {Q : Exit → Act → World → Prop} {w : World} (hgd : o.guard = none) (s x : Operand)
    (ho : o.op = .call { callee := .builtin .append, args := #[s, x], argTypes := #[37, 37] }) (B : Nat) (N : Int) (v : Value) (xs : List Int) (hs : a.eval s = v) (hx : a.eval x = .slice (some ⟨w.heap.size, 0, none⟩) 1 1)
    (h : NRow 3 .i64 B w v xs) (hB : B ≤ w.heap.size) (hl : xs.length ≤ 1000)
    (k : ∀ p c w', Hid (NRow 3 .i64 B w' (.slice p (xs.length + 1) c) (xs ++ [N]) ∧ w.grownBy w' v.ownBlock ∧ ((Value.slice p (xs.length + 1) c).ownBlock = v.ownBlock ∨ (Value.slice p (xs.length + 1) c).ownBlock = some (w.heap.size + 1))) → wpList Try.prog ops Q rest (a.put o.dst (.slice p (xs.length + 1) c)) w') :
    wpList Try.prog ops Q (o :: rest) a (w.alloc (.cells #[.int .i64 N] 3)) := by
  refine wpList_plain hgd fun K hK => ?_
  obtain ⟨p, c, w', hr, h2, h3, h4⟩ := h.app Try.underlying37 infoI (by decide) hB hl N o.type
  unfold Oper.wp execOp
  simp only [ho, resolve, invoke, builtin, Sem.run_bind, Sem.run_pure, Result.andThen_ok, List.map_toArray, List.map_cons, List.map_nil, hs, hx, hr]
  exact hK _ _ (k p c w' (hide ⟨h2, h3, h4⟩))
end Go.Proofs.Ytplcpoajhkcjnaa.Con
