/- TurnPlays: a lock, and the two rows that the law keeps beside it. -/
import Derived.Test.YtplcpoajhkcjnaaTLeav
namespace Go.Proofs.Ytplcpoajhkcjnaa.Con
open Go.RowKit
set_option linter.unusedVariables false
set_option linter.unusedSimpArgs false
theorem infoU : (Try.prog.info? 25).map (fun i => (i.zero, i.size, i.bytes)) = some (some (.int .u32 0), 1, 4) := by kernel_rfl
theorem cell_kept {w w' : World} {b o : Nat} (h : w'.heap[b]? = w.heap[b]?) : w'.cell? ⟨b, o, none⟩ = w.cell? ⟨b, o, none⟩ := by simp [World.cell?, h]
theorem RdC.kept {w w' : World} {n : Nat} {u : Value} {cs : List Value} (h : RdC w w.heap.size 1 u n cs) (hs : w.heap.size ≤ w'.heap.size) (hk : ∀ k, u.ownBlock = some k → k < w.heap.size → w'.heap[k]? = w.heap[k]?) : RdC w' w'.heap.size 1 u n cs := by
  obtain ⟨h1, p, cap, rfl, h2, h3, h4⟩ := h
  refine ⟨h1, p, cap, rfl, h2, h3, fun h0 => ?_⟩
  obtain ⟨b, o, rfl, hb, hc⟩ := h4 h0
  exact ⟨b, o, rfl, by omega, fun j z hz => (cell_kept (hk b rfl hb)).trans (hc j z hz)⟩
/-- All from the k-th on: in the same block. -/
theorem RdC.fromB {W : World} {B size n : Nat} {v : Value} {xs : List Value} (h : RdC W B size v n xs) (t e : TypeId) (i : TypeInfo) (ht : Try.prog.underlying t = some (.slice e)) (hi : Try.prog.info? e = some i) (hs : i.size = size) (k : Nat) (hk : k ≤ n) :
    ∃ p c, (∀ w : World, (Instr.slice t v (some (.int .i64 (k : Int))) none none).run Try.prog w = .ok (.slice p (n - k) c) w) ∧ RdC W B size (.slice p (n - k) c) (n - k) (xs.drop (k * size)) ∧ ∀ j, (Value.slice p (n - k) c).ownBlock = some j → v.ownBlock = some j := by
  obtain ⟨h1, p, cap, rfl, h2, h3, h4⟩ := h
  refine ⟨if cap = k then p else p.map (·.add (k * size)), cap - k, fun w => ?_, ⟨?_, _, cap - k, rfl, by omega, by omega, fun h0 => ?_⟩, fun j hj => ?_⟩
  · subst hs
    have h5 : (k : Int) ≤ (n : Int) := by omega
    have h6 : (k : Int) ≤ (cap : Int) := by omega
    simp [Instr.slice, run_underlying ht, Instr.sliceBounds, run_sliceBound, sizeOf, typeInfo, hi, h5, h6]
  · rw [List.length_drop, h1, Nat.sub_mul]
  · obtain ⟨b, o, rfl, hb, hc⟩ := h4 (by omega)
    rw [if_neg (by omega)]
    refine ⟨b, o + k * size, by simp [Addr.add], hb, fun j u hu => ?_⟩
    rw [List.getElem?_drop] at hu
    have := hc (k * size + j) u hu
    rw [show o + k * size + j = o + (k * size + j) by omega]; exact this
  · cases p with
    | none => split at hj <;> simp [Value.ownBlock] at hj
    | some a =>
      split at hj
      · exact hj
      · simp [Value.ownBlock] at hj ⊢
        rw [← hj]
        unfold Addr.add
        split <;> rfl
def ws (L : List Tk) : List Int := L.map Prod.fst
def ts (L : List Tk) : List Int := L.map (fun p => ((p.2 : Nat) : Int))
theorem ws_len (L : List Tk) : (ws L).length = L.length := by simp [ws]
theorem ts_len (L : List Tk) : (ts L).length = L.length := by simp [ts]
structure PS (W wr : World) (b m n : Nat) (L M : List Tk) (v u : Value) : Prop where
  lp : LP W wr b m n L
  rv : RdC wr wr.heap.size 1 v M.length (numV .i64 (ws M))
  ru : RdC wr wr.heap.size 1 u M.length (numV .u32 (ts M))
  av : ∀ k, v.ownBlock = some k → k ≠ b ∧ k ≠ m
  au : ∀ k, u.ownBlock = some k → k ≠ b ∧ k ≠ m
section
variable {W wr w' : World} {b m n n' : Nat} {L L' M M' : List Tk} {v u v' u' : Value}
theorem PS.got (h : PS W wr b m n L M v u) (hG : Got W wr b m n' L' w') : PS W w' b m n' L' M v u :=
  ⟨hG.1, h.rv.kept hG.2.size (fun k hk hl => hG.2.block k hl (h.av k hk).1 (h.av k hk).2), h.ru.kept hG.2.size (fun k hk hl => hG.2.block k hl (h.au k hk).1 (h.au k hk).2), h.av, h.au⟩
theorem PS.bel (h : PS W wr b m n L M v u) (hB : Below wr.heap.size wr w') : PS W w' b m n L M v u :=
  ⟨h.lp.bel hB, h.rv.kept hB.size (fun k hk hl => hB.block k hl), h.ru.kept hB.size (fun k hk hl => hB.block k hl), h.av, h.au⟩
theorem PS.fresh (h : PS W wr b m n L M v u) (hB : Below wr.heap.size wr w') (hv : NRow 3 .i64 wr.heap.size w' v' (ws M')) (hu : NRow 25 .u32 wr.heap.size w' u' (ts M')) : PS W w' b m n L M' v' u' := by
  have k1 := h.lp.lk.blt
  have k2 := h.lp.lk.mlt
  refine ⟨h.lp.bel hB, by have := hv.rd; rwa [ws_len] at this, by have := hu.rd; rwa [ts_len] at this, fun k hk => ?_, fun k hk => ?_⟩
  · have := hv.past k hk; exact ⟨by omega, by omega⟩
  · have := hu.past k hk; exact ⟨by omega, by omega⟩
theorem PS.start {w0 w1 : World} (h : LP W w1 b m 0 []) : PS W w1 b m 0 [] [] (.slice none 0 0) (.slice none 0 0) :=
  ⟨h, ⟨rfl, none, 0, rfl, Nat.le_refl _, Nat.zero_le _, fun h => by simp at h⟩, ⟨rfl, none, 0, rfl, Nat.le_refl _, Nat.zero_le _, fun h => by simp at h⟩, fun k hk => by simp [Value.ownBlock] at hk, fun k hk => by simp [Value.ownBlock] at hk⟩
theorem PS.form (h : PS W wr b m n L M v u) : ∃ p c q d, v = .slice p M.length c ∧ u = .slice q M.length d := by
  obtain ⟨_, p, c, e, _⟩ := h.rv
  obtain ⟨_, q, d, e', _⟩ := h.ru
  exact ⟨p, c, q, d, e, e'⟩
theorem PS.atv (h : PS W wr b m n L M v u) (h0 : 0 < M.length) : ∃ g o c, v = .slice (some ⟨g, o, none⟩) M.length c ∧ ∀ j, j < M.length → wr.cell? ⟨g, o + j, none⟩ = some (.int .i64 ((ws M).getD j 0)) := by
  obtain ⟨_, p, c, rfl, _, _, h4⟩ := h.rv
  obtain ⟨g, o, rfl, hb, hc⟩ := h4 h0
  exact ⟨g, o, c, rfl, fun j hj => hc j _ (numV_get _ j (by rw [ws_len]; exact hj))⟩
theorem PS.atu (h : PS W wr b m n L M v u) (h0 : 0 < M.length) : ∃ g o c, u = .slice (some ⟨g, o, none⟩) M.length c ∧ ∀ j, j < M.length → wr.cell? ⟨g, o + j, none⟩ = some (.int .u32 ((ts M).getD j 0)) := by
  obtain ⟨_, p, c, rfl, _, _, h4⟩ := h.ru
  obtain ⟨g, o, rfl, hb, hc⟩ := h4 h0
  exact ⟨g, o, c, rfl, fun j hj => hc j _ (numV_get _ j (by rw [ts_len]; exact hj))⟩
theorem PS.tail {x : Tk} (h : PS W wr b m n L (x :: M) v u) : ∃ p c q d, (∀ w : World, (Instr.slice 37 v (some (.int .i64 1)) none none).run Try.prog w = .ok (.slice p M.length c) w) ∧ (∀ w : World, (Instr.slice 38 u (some (.int .i64 1)) none none).run Try.prog w = .ok (.slice q M.length d) w) ∧ Hid (PS W wr b m n L M (.slice p M.length c) (.slice q M.length d)) := by
  obtain ⟨i0, hi, hz0, hz1, hz2⟩ := info_parts infoI
  obtain ⟨j0, hj, yz0, yz1, yz2⟩ := info_parts infoU
  obtain ⟨p, c, h1, h2, h3⟩ := h.rv.fromB 37 3 i0 Try.underlying37 hi hz1 1 (by simp)
  obtain ⟨q, d, g1, g2, g3⟩ := h.ru.fromB 38 25 j0 Try.underlying38 hj yz1 1 (by simp)
  exact ⟨p, c, q, d, h1, g1, hide ⟨h.lp, h2, g2, fun k hk => h.av k (h3 k hk), fun k hk => h.au k (g3 k hk)⟩⟩
end
/-- append([]T{}, x...), in a walk. -/
theorem wpList_rapp {ops : Array Oper} {rest : List Oper} {o : Oper} {a : Act} {Q : Exit → Act → World → Prop} {w : World} (hgd : o.guard = none) (s x : Operand) (t e : TypeId) (q : IntKind) (by_ : Nat)
    (ho : o.op = .call { callee := .builtin .append, args := #[s, x], argTypes := #[t, t] }) (ht : Try.prog.underlying t = some (.slice e)) (hI : (Try.prog.info? e).map (fun i => (i.zero, i.size, i.bytes)) = some (some (.int q 0), 1, by_)) (hby : by_ ≤ 8)
    (u : Value) (ys : List Int) (n : Nat) (hn : ys.length = n) (hs : a.eval s = .slice (some ⟨w.heap.size, 0, none⟩) 0 0) (hx : a.eval x = u)
    (h : RdC w w.heap.size 1 u n (numV q ys)) (hl : n ≤ 1000)
    (k : ∀ p c w', Hid (NRow e q w.heap.size w' (.slice p n c) ys ∧ Below w.heap.size w w') → wpList Try.prog ops Q rest (a.put o.dst (.slice p n c)) w') :
    wpList Try.prog ops Q (o :: rest) a (w.alloc (.cells #[] e)) := by
  obtain ⟨i0, hi, hz0, hz1, hz2⟩ := info_parts hI
  refine wpList_plain hgd fun K hK => ?_
  have hB : Below w.heap.size w (w.alloc (.cells #[] e)) := (Below.refl _ _).alloc (Nat.le_refl _) _
  have h8 : (0 + n) * by_ ≤ (0 + n) * 8 := Nat.mul_le_mul_left _ hby
  obtain ⟨p, c, w', hr, h2, h3, h4⟩ := run_append_rd (w.alloc (.cells #[] e)) w.heap.size t o.type e i0 (.int q 0) 1 by_ ht hi hz0 hz1 hz2 rfl (by decide) (.slice (some ⟨w.heap.size, 0, none⟩) 0 0) 0 [] (own_empty (heap_alloc_new w _) (Nat.le_refl _)) _ u n (numV q ys) (h.below hB) (numV_one _) (by unfold maxLen; omega) (by omega) (by simp)
  rw [Nat.zero_add] at hr h2 h4
  rw [List.nil_append] at h2
  unfold Oper.wp execOp
  simp only [ho, resolve, invoke, builtin, Sem.run_bind, Sem.run_pure, Result.andThen_ok, List.map_toArray, List.map_cons, List.map_nil, hs, hx, hr]
  refine hK _ _ (k p c w' (hide ⟨?_, below_grown hB (by simp) h3 (fun k hk => by simp [Value.ownBlock] at hk; omega)⟩))
  unfold NRow
  rw [hn]; exact h2
/-- One more behind it. -/
theorem wpList_oapp {ops : Array Oper} {rest : List Oper} {o : Oper} {a : Act} {Q : Exit → Act → World → Prop} {w : World} (hgd : o.guard = none) (s x : Operand) (t e : TypeId) (q : IntKind) (by_ : Nat)
    (ho : o.op = .call { callee := .builtin .append, args := #[s, x], argTypes := #[t, t] }) (ht : Try.prog.underlying t = some (.slice e)) (hI : (Try.prog.info? e).map (fun i => (i.zero, i.size, i.bytes)) = some (some (.int q 0), 1, by_)) (hby : by_ ≤ 8)
    (B : Nat) (N : Int) (v : Value) (xs : List Int) (n : Nat) (hn : xs.length = n) (hs : a.eval s = v) (hx : a.eval x = .slice (some ⟨w.heap.size, 0, none⟩) 1 1)
    (h : NRow e q B w v xs) (hB : B ≤ w.heap.size) (hl : n ≤ 1000)
    (k : ∀ p c w', Hid (NRow e q B w' (.slice p (n + 1) c) (xs ++ [N]) ∧ w.grownBy w' v.ownBlock) → wpList Try.prog ops Q rest (a.put o.dst (.slice p (n + 1) c)) w') :
    wpList Try.prog ops Q (o :: rest) a (w.alloc (.cells #[.int q N] e)) := by
  subst hn
  refine wpList_plain hgd fun K hK => ?_
  obtain ⟨p, c, w', hr, h2, h3, h4⟩ := h.app ht hI hby hB hl N o.type
  unfold Oper.wp execOp
  simp only [ho, resolve, invoke, builtin, Sem.run_bind, Sem.run_pure, Result.andThen_ok, List.map_toArray, List.map_cons, List.map_nil, hs, hx, hr]
  exact hK _ _ (k p c w' (hide ⟨h2, h3⟩))
/-- A row stays while one of another type grows. -/
theorem own_beside {w w' : World} {b1 b2 e1 e2 s1 s2 n1 n2 : Nat} {u v : Value} {xs ys : List Value} (hu : w.ownsRow b1 e1 s1 u n1 ys) (hv : w.ownsRow b2 e2 s2 v n2 xs) (he : e1 ≠ e2) (hg : w.grownBy w' v.ownBlock) : w'.ownsRow b1 e1 s1 u n1 ys := by
  refine own_kept hu fun k hk => hg.block k (own_lt hu k hk) fun e => ?_
  have h1 : ∃ cur, w.heap[k]? = some (.cells cur e1 (0, 0)) := by
    rcases hu.2 with ⟨rfl, _⟩ | ⟨g, cap, cur, rfl, _, hg, _⟩
    · simp [Value.ownBlock] at hk
    · simp [Value.ownBlock] at hk; subst hk; exact ⟨cur, hg⟩
  have h2 : ∃ cur, w.heap[k]? = some (.cells cur e2 (0, 0)) := by
    rcases hv.2 with ⟨rfl, _⟩ | ⟨g, cap, cur, rfl, _, hg, _⟩
    · simp [Value.ownBlock] at e
    · simp [Value.ownBlock] at e; subst e; exact ⟨cur, hg⟩
  obtain ⟨c1, h1⟩ := h1
  obtain ⟨c2, h2⟩ := h2
  rw [h1] at h2
  injection h2 with h2
  injection h2 with _ h2
  exact he h2
/- Where one is. -/
def plc (xs : List Int) (x : Int) : Int := if x ∈ xs then ((xs.idxOf x : Nat) : Int) else -1
theorem plc_snoc (xs : List Int) (z x : Int) : plc (xs ++ [z]) x = if x ∈ xs then plc xs x else if z = x then (xs.length : Int) else -1 := by
  unfold plc
  by_cases h : x ∈ xs
  · rw [if_pos h, if_pos h, if_pos (List.mem_append_left _ h), List.idxOf_append, if_pos h]
  · rw [if_neg h]
    by_cases e : z = x
    · subst e
      rw [if_pos (by simp), if_pos rfl, List.idxOf_append, if_neg h]; simp
    · rw [if_neg e, if_neg (by simp [h]; exact fun q => e q.symm)]
theorem take_snoc (zs : List Int) (k : Nat) (h : k < zs.length) : zs.take (k + 1) = zs.take k ++ [zs.getD k 0] := by
  rw [List.take_succ_eq_append_getElem h, List.getD_eq_getElem?_getD, List.getElem?_eq_getElem h]; rfl
theorem plc_hit {xs : List Int} {x : Int} {j : Nat} (hd : xs.Nodup) (hj : j < xs.length) (h : xs.getD j 0 = x) : plc (xs.take (j + 1)) x = (j : Int) := by
  rw [take_snoc xs j hj, plc_snoc, h, if_pos rfl, if_neg, List.length_take]
  · congr 1; omega
  · intro hm
    obtain ⟨i, hi, e⟩ := List.mem_iff_getElem.1 hm
    rw [List.length_take] at hi
    rw [List.getElem_take] at e
    have e2 : xs[j] = x := by rw [← h, List.getD_eq_getElem?_getD, List.getElem?_eq_getElem hj]; rfl
    have := (List.getElem_inj hd).1 (e.trans e2.symm)
    omega
theorem plc_miss {xs : List Int} {x : Int} {j : Nat} (hj : j < xs.length) (h : ¬ xs.getD j 0 = x) : plc (xs.take (j + 1)) x = plc (xs.take j) x := by
  rw [take_snoc xs j hj, plc_snoc, if_neg h]
  by_cases hm : x ∈ xs.take j
  · rw [if_pos hm]
  · rw [if_neg hm]; unfold plc; rw [if_neg hm]
theorem ws_nodup {L : List Tk} (ho : Ord L) : (ws L).Nodup := by
  unfold ws List.Nodup
  rw [List.pairwise_map]
  exact ho.imp fun h => h.1
theorem at_cases (L : List Tk) (x : Int) : (plc (ws L) x = -1 ∧ tkOf L x = none) ∨ ∃ j d : Nat, plc (ws L) x = ((j : Nat) : Int) ∧ L[j]? = some (x, d) := by
  by_cases h : x ∈ ws L
  · right
    have hj := List.idxOf_lt_length_of_mem h
    have he : (ws L)[(ws L).idxOf x] = x := List.getElem_idxOf hj
    rw [ws_len] at hj
    refine ⟨(ws L).idxOf x, (L[(ws L).idxOf x]).2, by unfold plc; rw [if_pos h], ?_⟩
    rw [List.getElem?_eq_getElem hj]
    simp only [ws, List.getElem_map] at he
    exact congrArg some (Prod.ext he rfl)
  · left
    refine ⟨by unfold plc; rw [if_neg h], tkOf_none fun p hp e => h ?_⟩
    unfold ws
    rw [List.mem_map]
    exact ⟨p, hp, e⟩
theorem ord_at {L : List Tk} (ho : Ord L) {i j : Nat} {p q : Tk} (hi : L[i]? = some p) (hj : L[j]? = some q) (h : i < j) : p.1 ≠ q.1 ∧ p.2 < q.2 := by
  obtain ⟨h1, rfl⟩ := List.getElem?_eq_some_iff.1 hi
  obtain ⟨h2, rfl⟩ := List.getElem?_eq_some_iff.1 hj
  exact List.pairwise_iff_getElem.1 ho i j h1 h2 h
theorem at_tk {L : List Tk} (ho : Ord L) {j d : Nat} {x : Int} (h : L[j]? = some (x, d)) : tkOf L x = some d := tkOf_of ho (List.mem_of_getElem? h)
theorem at_sv {L : List Tk} (ho : Ord L) {j d n : Nat} {x : Int} (h : L[j]? = some (x, d)) : sv L n = d ↔ j = 0 := by
  cases L with
  | nil => simp at h
  | cons p r =>
    constructor
    · intro e
      by_cases h0 : j = 0
      · exact h0
      · have := (ord_at ho (i := 0) (p := p) (by simp) h (by omega)).2
        simp [sv] at e
        omega
    · rintro rfl
      simp at h
      rw [h]; rfl
theorem at_has {L : List Tk} (ho : Ord L) {j d n : Nat} {x : Int} (h : L[j]? = some (x, d)) : hasB L (sv L n) x = decide (j = 0) := by
  unfold hasB
  rw [at_tk ho h]
  have := at_sv (n := n) ho h
  by_cases h0 : j = 0
  · have e := this.2 h0; simp [h0, e]
  · have e : ¬ sv L n = d := fun e => h0 (this.1 e)
    simp [h0]; exact fun e' => e e'.symm
theorem at_ahd {L : List Tk} (ho : Ord L) {j d : Nat} {x : Int} (h : L[j]? = some (x, d)) : ahd L d = j := by
  have hj := (List.getElem?_eq_some_iff.1 h).1
  unfold ahd
  have e : L = L.take j ++ L.drop j := (List.take_append_drop j L).symm
  rw [e, List.countP_append]
  have e1 : (L.take j).countP (fun p => decide (p.2 < d)) = j := by
    rw [List.countP_eq_length.2, List.length_take]
    · omega
    · intro p hp
      obtain ⟨i, hi, rfl⟩ := List.mem_iff_getElem.1 hp
      rw [List.length_take] at hi
      have := (ord_at ho (i := i) (j := j) (p := L[i]'(by omega)) (List.getElem?_eq_getElem (by omega)) h (by omega)).2
      rw [List.getElem_take]
      simpa using this
  have e2 : (L.drop j).countP (fun p => decide (p.2 < d)) = 0 := by
    rw [List.countP_eq_zero]
    intro p hp
    obtain ⟨i, hi, rfl⟩ := List.mem_iff_getElem.1 hp
    rw [List.length_drop] at hi
    rw [List.getElem_drop]
    by_cases h0 : i = 0
    · subst h0
      obtain ⟨_, e3⟩ := List.getElem?_eq_some_iff.1 h
      simp only [Nat.add_zero, e3]
      simp
    · have := (ord_at ho (i := j) (j := j + i) (q := L[j + i]'(by omega)) h (List.getElem?_eq_getElem (by omega)) (by omega)).2
      simp; omega
  rw [e1, e2, Nat.add_zero]
theorem at_out {L : List Tk} (ho : Ord L) {j d : Nat} {x : Int} (h : L[j]? = some (x, d)) : out L x = L.take j ++ L.drop (j + 1) := by
  have hj := (List.getElem?_eq_some_iff.1 h).1
  have e : L = L.take j ++ (L.drop j) := (List.take_append_drop j L).symm
  have ed : L.drop j = (x, d) :: L.drop (j + 1) := by
    rw [List.drop_eq_getElem_cons hj]
    rw [List.getElem?_eq_getElem hj] at h
    injection h with h
    rw [h]
  rw [ed] at e
  have ho' := ho
  unfold Ord at ho'
  rw [e, List.pairwise_append, List.pairwise_cons] at ho'
  have hs : out L x = out (L.take j) x ++ out ((x, d) :: L.drop (j + 1)) x := by
    unfold out
    rw [← List.filter_append, ← e]
  rw [hs, out_head (by exact List.pairwise_cons.2 ho'.2.1), out_none]
  intro p hp
  exact (ho'.2.2 p hp (x, d) (by simp)).1
end Go.Proofs.Ytplcpoajhkcjnaa.Con
