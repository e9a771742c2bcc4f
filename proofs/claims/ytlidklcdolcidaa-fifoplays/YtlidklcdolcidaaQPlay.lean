/- FifoPlays: a fifo and the row that the law keeps beside it. -/
import Derived.Test.YtlidklcdolcidaaQRel
namespace Go.Proofs.Ytlidklcdolcidaa.Con
open Go.RowKit
set_option linter.unusedVariables false
set_option linter.unusedSimpArgs false
/-- The first x's place from j on. -/
def plf (xs : List Int) (x : Int) (j : Nat) : Int := if x ∈ xs.drop j then ((j + (xs.drop j).idxOf x : Nat) : Int) else -1
theorem plf_zero (xs : List Int) (x : Int) : plf xs x 0 = plc xs x := by unfold plf plc; rw [List.drop_zero, Nat.zero_add]
theorem plf_end (xs : List Int) (x : Int) : plf xs x xs.length = -1 := by unfold plf; rw [List.drop_length]; simp
theorem plf_hit {xs : List Int} {x : Int} {j : Nat} (hj : j < xs.length) (h : xs.getD j 0 = x) : plf xs x j = (j : Int) := by
  unfold plf
  rw [drop_cons xs j hj, h, if_pos List.mem_cons_self, List.idxOf_cons_self, Nat.add_zero]
theorem plf_miss {xs : List Int} {x : Int} {j : Nat} (hj : j < xs.length) (h : ¬ xs.getD j 0 = x) : plf xs x j = plf xs x (j + 1) := by
  unfold plf
  rw [drop_cons xs j hj]
  have h' : ¬ x = xs.getD j 0 := fun e => h e.symm
  have hb : (xs.getD j 0 == x) = false := by simpa using h
  by_cases hm : x ∈ xs.drop (j + 1)
  · rw [if_pos hm, if_pos (List.mem_cons_of_mem _ hm), List.idxOf_cons, hb]
    simp; omega
  · rw [if_neg hm, if_neg (by rw [List.mem_cons]; rintro (e | e); exact h' e; exact hm e)]
theorem cell_kept {w w' : World} {b o : Nat} (h : w'.heap[b]? = w.heap[b]?) : w'.cell? ⟨b, o, none⟩ = w.cell? ⟨b, o, none⟩ := by simp [World.cell?, h]
theorem RdC.kept {w w' : World} {n : Nat} {u : Value} {cs : List Value} (h : RdC w w.heap.size 1 u n cs) (hs : w.heap.size ≤ w'.heap.size) (hk : ∀ k, u.ownBlock = some k → k < w.heap.size → w'.heap[k]? = w.heap[k]?) : RdC w' w'.heap.size 1 u n cs := by
  obtain ⟨h1, p, cap, rfl, h2, h3, h4⟩ := h
  refine ⟨h1, p, cap, rfl, h2, h3, fun h0 => ?_⟩
  obtain ⟨b, o, rfl, hb, hc⟩ := h4 h0
  exact ⟨b, o, rfl, by omega, fun j z hz => (cell_kept (hk b rfl hb)).trans (hc j z hz)⟩
/-- All from the k-th on: in the same block. -/
theorem RdC.fromB {W : World} {B size n : Nat} {v : Value} {xs : List Value} (h : RdC W B size v n xs) (t e : TypeId) (i : TypeInfo) (ht : Try.prog.underlying t = some (.slice e)) (hi : Try.prog.info? e = some i) (hs : i.size = size) (k : Nat) (hk : k ≤ n) :
    ∃ p c, (∀ w : World, (Instr.slice t v (some (.int .i64 (k : Int))) none none).run Try.prog w = .ok (.slice p (n - k) c) w) ∧ RdC W B size (.slice p (n - k) c) (n - k) (xs.drop (k * size)) ∧ ∀ j, (Value.slice p (n - k) c).ownBlock = some j → v.ownBlock = some j := by
  obtain ⟨h1, p, cap, rfl, h2, h3, h4⟩ := h
  refine ⟨if cap = k then p else p.map (·.add (k * size)), cap - k, fun w => ?_, ⟨?_, _, cap - k, rfl, by omega, by omega, fun h0 => ?_⟩, fun j hj => ?_⟩
  · subst hs
    have h5 : (k : Int) ≤ (n : Int) := by omega
    have h6 : (k : Int) ≤ (cap : Int) := by omega
    simp [Instr.slice, run_underlying ht, Instr.sliceBounds, run_sliceBound, sizeOf, typeInfo, hi, h5, h6]
  · rw [List.length_drop, h1, Nat.sub_mul]
  · obtain ⟨b, o, rfl, hb, hc⟩ := h4 (by omega)
    rw [if_neg (by omega)]
    refine ⟨b, o + k * size, by simp [Addr.add], hb, fun j u hu => ?_⟩
    rw [List.getElem?_drop] at hu
    have := hc (k * size + j) u hu
    rw [show o + k * size + j = o + (k * size + j) by omega]; exact this
  · cases p with
    | none => split at hj <;> simp [Value.ownBlock] at hj
    | some a =>
      split at hj
      · exact hj
      · simp [Value.ownBlock] at hj ⊢
        rw [← hj]
        unfold Addr.add
        split <;> rfl
structure PL (W wr : World) (fb m : Nat) (v : Value) (xs : List Int) (u : Value) (ys : List Int) : Prop where
  fi : Fi wr W.heap.size fb m v xs
  rd : RdC wr wr.heap.size 1 u ys.length (intsV ys)
  below : Below W.heap.size W wr
  ap : ∀ k, u.ownBlock = some k → k ≠ fb ∧ v.ownBlock ≠ some k ∧ k < wr.heap.size
section
variable {W wr w' : World} {fb m : Nat} {v u : Value} {xs ys zs : List Int}
theorem PL.turn (h : PL W wr fb m v xs u ys) (hO : OutPost wr W.heap.size fb m v zs w') : ∃ v', PL W w' fb m v' zs u ys := by
  obtain ⟨v', h1, h2⟩ := hO
  refine ⟨v', h1, h.rd.kept h2.size (fun k hk hl => h2.block k hl (h.ap k hk).1 (h.ap k hk).2.1), h.below.trans (h2.toBelow h.fi), fun k hk => ?_⟩
  obtain ⟨a1, a2, a3⟩ := h.ap k hk
  have := h2.size
  refine ⟨a1, fun e => ?_, by omega⟩
  rcases h2.own k e with e' | e'
  · exact a2 e'
  · omega
theorem PL.bel (h : PL W wr fb m v xs u ys) (hB : Below wr.heap.size wr w') : PL W w' fb m v xs u ys :=
  ⟨h.fi.below hB, h.rd.kept hB.size (fun k hk hl => hB.block k hl), h.below.trans (hB.mono h.below.size), fun k hk => ⟨(h.ap k hk).1, (h.ap k hk).2.1, by have := (h.ap k hk).2.2; have := hB.size; omega⟩⟩
theorem PL.fresh (h : PL W wr fb m v xs u ys) (hB : Below wr.heap.size wr w') {u' : Value} (hr : IRow wr.heap.size w' u' zs) : PL W w' fb m v xs u' zs := by
  have hb := h.bel hB
  refine ⟨hb.fi, hr.rd, hb.below, fun k hk => ?_⟩
  have k1 := hr.past k hk
  have k2 := hr.lt k hk
  have k3 := h.fi.lt
  exact ⟨by omega, fun e => by have := h.fi.row.lt k e; omega, k2⟩
theorem PL.tail {y : Int} (h : PL W wr fb m v xs u (y :: ys)) : ∃ p c, (∀ w : World, (Instr.slice 31 u (some (.int .i64 1)) none none).run Try.prog w = .ok (.slice p ys.length c) w) ∧ Hid (PL W wr fb m v xs (.slice p ys.length c) ys) := by
  obtain ⟨i0, hi, hz0, hz1, hz2⟩ := info_parts infoI
  obtain ⟨p, c, h1, h2, h3⟩ := h.rd.fromB 31 3 i0 Try.underlying31 hi hz1 1 (by simp)
  refine ⟨p, c, h1, hide ⟨h.fi, ?_, h.below, fun k hk => h.ap k (h3 k hk)⟩⟩
  exact h2
theorem PL.form (h : PL W wr fb m v xs u ys) : ∃ p c, u = .slice p ys.length c := by
  obtain ⟨_, p, c, e, _⟩ := h.rd
  exact ⟨p, c, e⟩
theorem PL.at (h : PL W wr fb m v xs u ys) (h0 : 0 < ys.length) : ∃ b o c, u = .slice (some ⟨b, o, none⟩) ys.length c ∧ b < wr.heap.size ∧ ∀ j, j < ys.length → wr.cell? ⟨b, o + j, none⟩ = some (.int .i64 (ys.getD j 0)) := by
  obtain ⟨_, p, c, rfl, _, _, h4⟩ := h.rd
  obtain ⟨b, o, rfl, hb, hc⟩ := h4 h0
  exact ⟨b, o, c, rfl, hb, fun j hj => hc j _ (intsV_get ys j hj)⟩
theorem pl_front (h : PL W wr fb m v xs u ys) : Calls Try.prog 10 #[.pointer (some ⟨fb, 0, none⟩)] wr fun e w' => e = .returned (.tuple #[.int .i64 (xs.headD 0), .bool (decide (0 < xs.length))]) ∧ w' = wr := by
  cases xs with
  | nil => exact front_none h.fi
  | cons x xs => exact front_some h.fi
theorem pl_put (h : PL W wr fb m v xs u ys) (x : Int) (hf : xs.length < m) :
    Calls Try.prog 13 #[.pointer (some ⟨fb, 0, none⟩), .int .i64 x] wr fun e w' => e = .returned (.bool true) ∧ ∃ v', Hid (PL W w' fb m v' (xs ++ [x]) u ys) := by
  refine (put_ok h.fi x hf).mono ?_
  rintro e w' ⟨rfl, hO⟩
  obtain ⟨v', h'⟩ := h.turn hO
  exact ⟨rfl, v', hide h'⟩
theorem pl_full (h : PL W wr fb m v xs u ys) (x : Int) (hf : xs.length = m) :
    Calls Try.prog 13 #[.pointer (some ⟨fb, 0, none⟩), .int .i64 x] wr fun e w' => e = .returned (.bool false) ∧ Hid (PL W w' fb m v xs u ys) := by
  refine (put_full h.fi x hf).mono ?_
  rintro e w' ⟨rfl, hB⟩
  exact ⟨rfl, hide (h.bel hB)⟩
theorem pl_get {x : Int} (h : PL W wr fb m v (x :: xs) u ys) :
    Calls Try.prog 9 #[.pointer (some ⟨fb, 0, none⟩)] wr fun e w' => e = .returned (.tuple #[.int .i64 x, .bool true]) ∧ ∃ v', Hid (PL W w' fb m v' xs u ys) := by
  refine (get_some h.fi).mono ?_
  rintro e w' ⟨rfl, hO⟩
  obtain ⟨v', h'⟩ := h.turn hO
  exact ⟨rfl, v', hide h'⟩
theorem pl_turn {x : Int} (h : PL W wr fb m v (x :: xs) u ys) :
    Calls Try.prog 11 #[.pointer (some ⟨fb, 0, none⟩)] wr fun e w' => e = .returned (.bool true) ∧ ∃ v', Hid (PL W w' fb m v' (xs ++ [x]) u ys) := by
  refine (turn_some h.fi).mono ?_
  rintro e w' ⟨rfl, hO⟩
  obtain ⟨v', h'⟩ := h.turn hO
  exact ⟨rfl, v', hide h'⟩
theorem pl_drop (h : PL W wr fb m v xs u ys) (x : Int) :
    Calls Try.prog 12 #[.pointer (some ⟨fb, 0, none⟩), .int .i64 x] wr fun e w' => e = .returned (.bool (decide (x ∈ xs))) ∧ ∃ v', Hid (PL W w' fb m v' (xs.erase x) u ys) := by
  refine (drop_any h.fi x).mono ?_
  rintro e w' ⟨rfl, hO⟩
  obtain ⟨v', h'⟩ := h.turn hO
  exact ⟨rfl, v', hide h'⟩
theorem pl_all (h : PL W wr fb m v xs u ys) :
    Calls Try.prog 17 #[.pointer (some ⟨fb, 0, none⟩)] wr fun e w' => ∃ p c, e = .returned (.slice p xs.length c) ∧ Hid (IRow wr.heap.size w' (.slice p xs.length c) xs ∧ PL W w' fb m v xs u ys) := by
  refine (all_any h.fi).mono ?_
  rintro e w' ⟨p, c, rfl, h1, h2⟩
  exact ⟨p, c, rfl, hide ⟨h1, h.bel h2⟩⟩
theorem pl_ints {p : Option Addr} {c B : Nat} (hr : IRow B wr (.slice p xs.length c) xs) (h : PL W wr fb m v xs u xs) :
    Calls Try.prog 16 #[.slice p xs.length c, u] wr fun e w' => e = .returned (.bool true) ∧ Hid (PL W w' fb m v xs u xs) := by
  refine (ints_same hr.rd h.rd (by have := h.fi.fit; have := h.fi.hi; omega)).mono ?_
  rintro e w' ⟨rfl, hB⟩
  exact ⟨rfl, hide (h.bel hB)⟩
end
/-- append([]int{}, x...), in a walk. -/
theorem wpList_rapp {ops : Array Oper} {rest : List Oper} {o : Oper} {a : Act} {Q : Exit → Act → World → Prop} {w : World} (hgd : o.guard = none) (s x : Operand)
    (ho : o.op = .call { callee := .builtin .append, args := #[s, x], argTypes := #[31, 31] }) (u : Value) (ys : List Int) (n : Nat) (hn : ys.length = n) (hs : a.eval s = .slice (some ⟨w.heap.size, 0, none⟩) 0 0) (hx : a.eval x = u)
    (h : RdC w w.heap.size 1 u n (intsV ys)) (hl : n ≤ 1000)
    (k : ∀ p c w', Hid (IRow w.heap.size w' (.slice p n c) ys ∧ Below w.heap.size w w') → wpList Try.prog ops Q rest (a.put o.dst (.slice p n c)) w') :
    wpList Try.prog ops Q (o :: rest) a (w.alloc (.cells #[] 3)) := by
  obtain ⟨i0, hi, hz0, hz1, hz2⟩ := info_parts infoI
  refine wpList_plain hgd fun K hK => ?_
  have hB : Below w.heap.size w (w.alloc (.cells #[] 3)) := (Below.refl _ _).alloc (Nat.le_refl _) _
  obtain ⟨p, c, w', hr, h2, h3, h4⟩ := run_append_rd (w.alloc (.cells #[] 3)) w.heap.size 31 o.type 3 i0 (.int .i64 0) 1 8 Try.underlying31 hi hz0 hz1 hz2 rfl (by decide) (.slice (some ⟨w.heap.size, 0, none⟩) 0 0) 0 [] (own_empty (heap_alloc_new w _) (Nat.le_refl _)) _ u n (intsV ys) (h.below hB) (intsV_one _) (by unfold maxLen; omega) (by omega) (by simp)
  rw [Nat.zero_add] at hr h2 h4
  rw [List.nil_append] at h2
  unfold Oper.wp execOp
  simp only [ho, resolve, invoke, builtin, Sem.run_bind, Sem.run_pure, Result.andThen_ok, List.map_toArray, List.map_cons, List.map_nil, hs, hx, hr]
  refine hK _ _ (k p c w' (hide ⟨?_, below_grown hB (by simp) h3 (fun k hk => by simp [Value.ownBlock] at hk; omega)⟩))
  unfold IRow
  rw [hn]; exact h2
end Go.Proofs.Ytlidklcdolcidaa.Con
