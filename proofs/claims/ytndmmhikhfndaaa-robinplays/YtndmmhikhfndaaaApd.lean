/- Slices that are read, and what is appended out of them. -/
import Derived.Test.YtndmmhikhfndaaaChecked
import Derived.Maps.AppendAt
import Derived.Deep.Upon
import Derived.Laws.Rows
import Derived.Deep.RegionHeld3
import Derived.WalkKit
import Derived.RowKit
namespace Go.Proofs.Ytndmmhikhfndaaa.Con
open Go.RowKit
set_option linter.unusedVariables false
set_option linter.unusedSimpArgs false
/-- A slice of n elements that may be read: their cells are xs; where there are any they lie below B. -/
def RdC (W : World) (B size : Nat) (v : Value) (n : Nat) (xs : List Value) : Prop :=
  xs.length = n * size ∧ ∃ p cap, v = .slice p n cap ∧ n ≤ cap ∧ cap ≤ maxLen ∧ (0 < n → ∃ b o, p = some ⟨b, o, none⟩ ∧ b < B ∧ ∀ j u, xs[j]? = some u → W.cell? ⟨b, o + j, none⟩ = some u)
theorem RdC.len {W : World} {B size n : Nat} {v : Value} {xs : List Value} (h : RdC W B size v n xs) : xs.length = n * size := h.1
theorem RdC.below {W W' : World} {B size n : Nat} {v : Value} {xs : List Value} (h : RdC W B size v n xs) (hB : Below B W W') : RdC W' B size v n xs := by
  obtain ⟨h1, p, cap, rfl, h2, h3, h4⟩ := h
  refine ⟨h1, p, cap, rfl, h2, h3, fun h0 => ?_⟩
  obtain ⟨b, o, rfl, hb, hc⟩ := h4 h0
  exact ⟨b, o, rfl, hb, fun j u hu => (hB.cell (p := ⟨b, o + j, none⟩) hb).trans (hc j u hu)⟩
theorem RdC.mono {W : World} {B B' size n : Nat} {v : Value} {xs : List Value} (h : RdC W B size v n xs) (hB : B ≤ B') : RdC W B' size v n xs := by
  obtain ⟨h1, p, cap, rfl, h2, h3, h4⟩ := h
  refine ⟨h1, p, cap, rfl, h2, h3, fun h0 => ?_⟩
  obtain ⟨b, o, rfl, hb, hc⟩ := h4 h0
  exact ⟨b, o, rfl, by omega, hc⟩
/-- Out of a row that is owned. -/
theorem RdC.own {W : World} {base e size n : Nat} {v : Value} {xs : List Value} (h : W.ownsRow base e size v n xs) : RdC W W.heap.size size v n xs := by
  obtain ⟨h1, ⟨rfl, rfl⟩ | ⟨g, cap, cur, rfl, h2, h3, h4, h5, h6, h7⟩⟩ := h
  · exact ⟨h1, none, 0, rfl, Nat.le_refl _, Nat.zero_le _, fun h => by omega⟩
  · refine ⟨h1, _, cap, rfl, h4, h5, fun _ => ⟨g, 0, rfl, (Array.getElem?_eq_some_iff.1 h3).1, fun j u hu => ?_⟩⟩
    rw [Nat.zero_add, cell_of_row W g j cur e _ h3, ← hu, ← h7, List.getElem?_take]
    have hj : j < n * size := by
      have := (List.getElem?_eq_some_iff.1 hu).1
      rw [h1] at this; exact this
    rw [if_pos hj]; simp
/-- The first k of them. -/
theorem RdC.upto {W : World} {B size n : Nat} {v : Value} {xs : List Value} (h : RdC W B size v n xs) (t e : TypeId) (i : TypeInfo) (ht : Try.prog.underlying t = some (.slice e)) (hi : Try.prog.info? e = some i) (hs : i.size = size) (k : Nat) (hk : k ≤ n) :
    ∃ p c, (∀ w : World, (Instr.slice t v none (some (.int .i64 (k : Int))) none).run Try.prog w = .ok (.slice p k c) w) ∧ RdC W B size (.slice p k c) k (xs.take (k * size)) := by
  obtain ⟨h1, p, cap, rfl, h2, h3, h4⟩ := h
  refine ⟨if cap = 0 then p else p.map (·.add (0 * size)), cap, fun w => ?_, ?_, _, cap, rfl, by omega, h3, fun h0 => ?_⟩
  · subst hs
    have : (k : Int) ≤ (cap : Int) := by omega
    simp [Instr.slice, run_underlying ht, Instr.sliceBounds, run_sliceBound, sizeOf, typeInfo, hi, this]
  · rw [List.length_take, h1]
    have : k * size ≤ n * size := Nat.mul_le_mul_right _ hk
    omega
  · obtain ⟨b, o, rfl, hb, hc⟩ := h4 (by omega)
    rw [if_neg (by omega)]
    refine ⟨b, o, by simp [Addr.add], hb, fun j u hu => hc j u ?_⟩
    rw [List.getElem?_take] at hu
    split at hu
    · exact hu
    · cases hu
/-- All from the k-th on. -/
theorem RdC.from {W : World} {B size n : Nat} {v : Value} {xs : List Value} (h : RdC W B size v n xs) (t e : TypeId) (i : TypeInfo) (ht : Try.prog.underlying t = some (.slice e)) (hi : Try.prog.info? e = some i) (hs : i.size = size) (k : Nat) (hk : k ≤ n) :
    ∃ p c, (∀ w : World, (Instr.slice t v (some (.int .i64 (k : Int))) none none).run Try.prog w = .ok (.slice p (n - k) c) w) ∧ RdC W B size (.slice p (n - k) c) (n - k) (xs.drop (k * size)) := by
  obtain ⟨h1, p, cap, rfl, h2, h3, h4⟩ := h
  refine ⟨if cap = k then p else p.map (·.add (k * size)), cap - k, fun w => ?_, ?_, _, cap - k, rfl, by omega, by omega, fun h0 => ?_⟩
  · subst hs
    have h5 : (k : Int) ≤ (n : Int) := by omega
    have h6 : (k : Int) ≤ (cap : Int) := by omega
    simp [Instr.slice, run_underlying ht, Instr.sliceBounds, run_sliceBound, sizeOf, typeInfo, hi, h5, h6]
  · rw [List.length_drop, h1, Nat.sub_mul]
  · obtain ⟨b, o, rfl, hb, hc⟩ := h4 (by omega)
    rw [if_neg (by omega)]
    refine ⟨b, o + k * size, by simp [Addr.add], hb, fun j u hu => ?_⟩
    rw [List.getElem?_drop] at hu
    have := hc (k * size + j) u hu
    rw [show o + k * size + j = o + (k * size + j) by omega]; exact this
/-- append, out of such a slice, onto a row that is owned. -/
theorem run_append_rd (w : World) (base : Nat) (t ty e : TypeId) (i : TypeInfo) (z : Value) (size bytes : Nat) (ht : Try.prog.underlying t = some (.slice e)) (hi : Try.prog.info? e = some i) (hz : i.zero = some z)
    (hsize : i.size = size) (hby : i.bytes = bytes) (hzs : z.cells.size = size) (hsz : 0 < size)
    (v : Value) (n : Nat) (xs : List Value) (hown : w.ownsRow base e size v n xs) (B : Nat) (x : Value) (m : Nat) (news : List Value) (hx : RdC w B size x m news) (h1 : ∀ u ∈ news, u.oneCell' = true)
    (h63 : n + m ≤ maxLen) (hbytes : (n + m) * bytes ≤ 140737488355328) (hbase : base ≤ w.heap.size) :
    ∃ p cap w', (Builtin.append_ #[t, t] ty #[v, x]).run Try.prog w = .ok (.slice p (n + m) cap) w' ∧ w'.ownsRow base e size (.slice p (n + m) cap) (n + m) (xs ++ news) ∧ w.grownBy w' v.ownBlock ∧
      ((Value.slice p (n + m) cap).ownBlock = v.ownBlock ∨ (Value.slice p (n + m) cap).ownBlock = some w.heap.size) := by
  obtain ⟨hl, p, c, rfl, hc1, hc2, hc⟩ := hx
  by_cases h0 : 0 < m
  · obtain ⟨b, o, rfl, _, hcell⟩ := hc h0
    obtain ⟨v', w', hr, h2, h3, _, h5⟩ := run_append_own_at (P := Try.prog) w base t ty e i z size bytes ht hi hz hsize hby hzs hsz v n xs hown ⟨b, o, none⟩ m c news hl (fun j u hu => by
      have : (⟨b, o, none⟩ : Addr).add j = ⟨b, o + j, none⟩ := by unfold Addr.add; split <;> simp_all
      rw [this]; exact hcell j u hu) h1 h63 hbytes hbase
    rcases h2.2 with ⟨_, h⟩ | ⟨g, cap, cur, rfl, _⟩
    · omega
    · exact ⟨_, cap, w', hr, h2, h3, h5⟩
  · obtain rfl : m = 0 := by omega
    obtain rfl : news = [] := List.eq_nil_of_length_eq_zero (by rw [hl, Nat.zero_mul])
    have hsrc : Src Try.prog i.size t (.slice p 0 c) 0 [] w := by
      cases p with
      | none => exact Src.ofNil w ht c
      | some a => exact Src.ofSlice w ht a 0 c [] (by simp) (fun j u hu => by simp at hu) (fun u hu => by cases hu)
    have hrun : ∀ (q : Option Addr) (cap : Nat), n ≤ cap → (Builtin.append_ #[t, t] ty #[.slice q n cap, .slice p 0 c]).run Try.prog w = .ok (.slice q n cap) w := fun q cap hle => run_append_nothing w t t ty e i ht hi q n cap hle _ hsrc
    have hform : ∃ q cap, v = .slice q n cap ∧ n ≤ cap := by
      rcases hown.2 with ⟨rfl, rfl⟩ | ⟨g, cap, cur, rfl, _, _, h, _⟩
      · exact ⟨none, 0, rfl, Nat.le_refl _⟩
      · exact ⟨_, cap, rfl, h⟩
    obtain ⟨q, cap, rfl, hle⟩ := hform
    refine ⟨q, cap, w, hrun q cap hle, ?_, ⟨rfl, rfl, rfl, Nat.le_refl _, fun _ _ _ => rfl⟩, .inl rfl⟩
    rw [List.append_nil]; exact hown
theorem own_past {W : World} {base e size n : Nat} {v : Value} {xs : List Value} (h : W.ownsRow base e size v n xs) : ∀ k, v.ownBlock = some k → base ≤ k := by
  intro k hk
  rcases h.2 with ⟨rfl, _⟩ | ⟨g, cap, cur, rfl, hb, _⟩
  · simp [Value.ownBlock] at hk
  · simp [Value.ownBlock] at hk; omega
theorem own_lt {W : World} {base e size n : Nat} {v : Value} {xs : List Value} (h : W.ownsRow base e size v n xs) : ∀ k, v.ownBlock = some k → k < W.heap.size := by
  intro k hk
  rcases h.2 with ⟨rfl, _⟩ | ⟨g, cap, cur, rfl, _, hg, _⟩
  · simp [Value.ownBlock] at hk
  · simp [Value.ownBlock] at hk; subst hk; exact (Array.getElem?_eq_some_iff.1 hg).1
/-- At a step of a region that draws: with what is kept of an elder world. -/
theorem step_append_rd {w : World} {ops : Array Oper} {o : Oper} {a : Act} {K : Act → World → Prop} {Q : Exit → Act → World → Prop} {E : Prop} (dd : Option Tmp) (hdd : o.dst = dd) (hgd : o.guard = none) (s x : Operand) (t : TypeId)
    (ho : o.op = .call { callee := .builtin .append, args := #[s, x], argTypes := #[t, t] })
    (base e : Nat) (i : TypeInfo) (z : Value) (size bytes : Nat) (ht : Try.prog.underlying t = some (.slice e)) (hi : Try.prog.info? e = some i) (hz : i.zero = some z)
    (hsize : i.size = size) (hby : i.bytes = bytes) (hzs : z.cells.size = size) (hsz : 0 < size)
    (v : Value) (n : Nat) (xs : List Value) (hs : a.eval s = v) (hown : w.ownsRow base e size v n xs) (B : Nat) (xv : Value) (m : Nat) (news : List Value) (hxe : a.eval x = xv) (hx : RdC w B size xv m news) (h1 : ∀ u ∈ news, u.oneCell' = true)
    (N : Nat) (hN : n + m = N) (ys : List Value) (hys : xs ++ news = ys) (h63 : N ≤ maxLen) (hbytes : N * bytes ≤ 140737488355328) (hbase : base ≤ w.heap.size)
    (h : ∀ p cap w', w'.ownsRow base e size (.slice p N cap) N ys → w.grownBy w' v.ownBlock → ((Value.slice p N cap).ownBlock = v.ownBlock ∨ (Value.slice p N cap).ownBlock = some w.heap.size) → (∀ k, v.ownBlock = some k → base ≤ k) → K (a.put dd (.slice p N cap)) w') :
    if Region.wanted o (yielded ops a.tmps) = true then Oper.wp Try.prog o a w K Q else E := by
  subst hdd
  subst hN
  subst hys
  have hw : Region.wanted o (yielded ops a.tmps) = true := by simp [Region.wanted, hgd]
  rw [if_pos hw]
  obtain ⟨p, cap, w', hr, h2, h3, h4⟩ := run_append_rd w base t o.type e i z size bytes ht hi hz hsize hby hzs hsz v n xs hown B xv m news hx h1 h63 hbytes hbase
  unfold Oper.wp execOp
  simp only [ho, resolve, invoke, builtin, Sem.run_bind, Sem.run_pure, Result.andThen_ok, List.map_toArray, List.map_cons, List.map_nil, hs, hxe, hr]
  exact h p cap w' h2 h3 h4 (own_past hown)
theorem below_grown {B : Nat} {W w w' : World} {row : Option Nat} (h : Below B W w) (hz : B ≤ w.heap.size) (hg : w.grownBy w' row) (hr : ∀ k, row = some k → B ≤ k) : Below B W w' :=
  h.trans ⟨hg.os, hg.tape, hg.output, hg.size, fun k hk => hg.block k (by omega) (fun e => by have := hr k e.symm; omega)⟩
theorem row_kept {W W' : World} {r : Nat} {o : Obj} (hB : Below W.heap.size W W') (hr : W.heap[r]? = some o) : W'.heap[r]? = some o :=
  (hB.block r (Array.getElem?_eq_some_iff.1 hr).1).trans hr
theorem bel_le {B : Nat} {W w : World} (hB : B ≤ W.heap.size) (h : Below B W w) : B ≤ w.heap.size := Nat.le_trans hB h.size
theorem bel_drew {B : Nat} {W w : World} (h : Below B W w) : Below B W w.drew := ⟨h.os, h.tape, h.output, h.size, h.block⟩
theorem bel_alloc {B : Nat} {W w : World} (h : Below B W w) (hB : B ≤ W.heap.size) (o : Obj) : Below B W (w.alloc o) := h.alloc (Nat.le_trans hB h.size) o
theorem heap_alloc_at (W : World) (o : Obj) (d : Nat) (h : d = W.heap.size) : (W.alloc o).heap[d]? = some o := by subst h; exact heap_alloc_new W o
theorem own_empty {w : World} {B d e size : Nat} (h : w.heap[d]? = some (.cells #[] e (0, 0))) (hb : B ≤ d) : w.ownsRow B e size (.slice (some ⟨d, 0, none⟩) 0 0) 0 [] :=
  ⟨by simp, .inr ⟨d, 0, #[], rfl, hb, h, Nat.le_refl _, Nat.zero_le _, by simp, by simp⟩⟩
/-- One element, in a block of its own. -/
theorem rd_one {w : World} {q e size : Nat} {cs : Array Value} (h : w.heap[q]? = some (.cells cs e (0, 0))) (hs : cs.size = size) : RdC w w.heap.size size (.slice (some ⟨q, 0, none⟩) 1 1) 1 cs.toList :=
  ⟨by simp [hs], _, 1, rfl, Nat.le_refl _, by unfold maxLen; omega, fun _ => ⟨q, 0, rfl, (Array.getElem?_eq_some_iff.1 h).1, fun j u hu => by rw [Nat.zero_add, cell_of_row w q j cs e _ h]; simpa using hu⟩⟩
theorem own_kept {W W' : World} {base e size n : Nat} {v : Value} {xs : List Value} (h : W.ownsRow base e size v n xs) (hk : ∀ k, v.ownBlock = some k → W'.heap[k]? = W.heap[k]?) : W'.ownsRow base e size v n xs := by
  obtain ⟨h1, ⟨h0, h2⟩ | ⟨g, cap, cur, rfl, h0, hg, r⟩⟩ := h
  · exact ⟨h1, .inl ⟨h0, h2⟩⟩
  · exact ⟨h1, .inr ⟨g, cap, cur, rfl, h0, (hk g rfl).trans hg, r⟩⟩
end Go.Proofs.Ytndmmhikhfndaaa.Con
