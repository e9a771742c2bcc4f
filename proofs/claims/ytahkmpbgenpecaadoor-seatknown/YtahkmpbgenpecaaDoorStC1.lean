/- Clone, Index, Contains at ints; a row of ints of the call's own; a local row of bools; At, apart, Good, Free of the landed code. -/
import Derived.Test.YtahkmpbgenpecaaDoorStCon
import Derived.Test.YtahkmpbgenpecaaDoorStFr
import Derived.Test.YtahkmpbgenpecaaDoorStAw
import Derived.Lib.SliceRun
namespace Go.Proofs.YtahkmpbgenpecaaDoor.St
open Go.RowKit Go.Proofs.YtahkmpbgenpecaaDoor.Con Go.Proofs.YtahkmpbgenpecaaDoor.Mk
set_option linter.unusedVariables false
set_option linter.unusedSimpArgs false
theorem own_form {B e size n : Nat} {w : World} {v : Value} {xs : List Value} (h : w.ownsRow B e size v n xs) : ∃ p c, v = .slice p n c := by
  obtain ⟨_, ⟨rfl, h0⟩ | ⟨g, cap, cur, rfl, _⟩⟩ := h
  · exact ⟨none, 0, by rw [h0]⟩
  · exact ⟨_, cap, rfl⟩
theorem own_bel {B e size n : Nat} {w w' : World} {v : Value} {xs : List Value} (h : w.ownsRow B e size v n xs) (hB : Below w.heap.size w w') : w'.ownsRow B e size v n xs :=
  own_kept h fun k hk => hB.block k (own_lt h k hk)
theorem wpList_append_rd {ops : Array Oper} {rest : List Oper} {o : Oper} {a : Act} {Q : Exit → Act → World → Prop} {w : World} (hgd : o.guard = none) (s x : Operand) (t : TypeId)
    (ho : o.op = .call { callee := .builtin .append, args := #[s, x], argTypes := #[t, t] }) {base e size by_ n m B : Nat} {z v xv : Value} {xs news : List Value}
    (hs : a.eval s = v) (hx : a.eval x = xv)
    (ht : Tryd.prog.underlying t = some (.slice e)) (hI : (Tryd.prog.info? e).map (fun i => (i.zero, i.size, i.bytes)) = some (some z, size, by_)) (hzs : z.cells.size = size) (hsz : 0 < size) (hby : by_ ≤ 64)
    (h : w.ownsRow base e size v n xs) (hB : base ≤ w.heap.size) (hr : RdC w B size xv m news) (h1 : ∀ u ∈ news, u.oneCell' = true) (hn : n + m ≤ 1000)
    (k : ∀ p c w', Hid (w'.ownsRow base e size (.slice p (n + m) c) (n + m) (xs ++ news) ∧ w.grownBy w' v.ownBlock) → wpList Tryd.prog ops Q rest (a.put o.dst (.slice p (n + m) c)) w') :
    wpList Tryd.prog ops Q (o :: rest) a w := by
  refine wpList_plain hgd fun K hK => ?_
  obtain ⟨i0, hi, hz0, hz1, hz2⟩ := info_parts hI
  have hmul : (n + m) * by_ ≤ 1000 * 64 := Nat.mul_le_mul hn hby
  obtain ⟨p, c, w', hr1, h2, h3, _⟩ := run_append_rd w base t o.type e i0 z size by_ ht hi hz0 hz1 hz2 hzs hsz v n xs h B xv m news hr h1 (by unfold maxLen; omega) (by omega) hB
  unfold Oper.wp execOp
  simp only [ho, resolve, invoke, builtin, Sem.run_bind, Sem.run_pure, Result.andThen_ok, List.map_toArray, List.map_cons, List.map_nil, hs, hx, hr1]
  exact hK _ _ (k p c w' (hide ⟨h2, h3⟩))

attribute [local go_sem ↓] Go.wp_at_zero Go.wp_at_succ
def bf (n : Nat) (F : Nat → Bool) : Array Value := ((List.range n).map fun j => Value.bool (F j)).toArray
theorem bf_size (n : Nat) (F : Nat → Bool) : (bf n F).size = n := by simp [bf]
theorem bf_get (n : Nat) (F : Nat → Bool) (j : Nat) (h : j < n) : (bf n F)[j]? = some (.bool (F j)) := by
  unfold bf
  rw [List.getElem?_toArray, List.getElem?_map, List.getElem?_range h]; rfl
theorem bf_ext {a : Array Value} {n : Nat} {F : Nat → Bool} (hs : a.size = n) (h : ∀ j, j < n → a[j]? = some (.bool (F j))) : a = bf n F := by
  apply Array.ext_getElem?
  intro j
  by_cases hj : j < n
  · rw [h j hj, bf_get n F j hj]
  · rw [Array.getElem?_eq_none (by omega), Array.getElem?_eq_none (by rw [bf_size]; omega)]
def Sn (W : World) (g N : Nat) (F : Nat → Bool) : Prop := W.heap[g]? = some (.cells (bf N F) 42 (0, 0))
theorem zero_run (w : World) : (zeroValue 42).run Tryd.prog w = .ok (.agg (Array.replicate 1024 (.bool false))) w := by kernel_rfl
/-- A new one: of so many that no text writes it out. -/
theorem Sn.new : ∃ (N : Nat) (Z : Array Value), N = 1024 ∧ ¬ Z = #[] ∧ (∀ w : World, (zeroValue 42).run Tryd.prog w = .ok (.agg Z) w) ∧ ∀ W : World, Sn (W.alloc (.cells Z 42)) W.heap.size N (fun _ => false) := by
  have h : ∃ N, N = 1024 ∧ ∀ w : World, (zeroValue 42).run Tryd.prog w = .ok (.agg (Array.replicate N (.bool false))) w := ⟨1024, rfl, zero_run⟩
  obtain ⟨N, hN, h⟩ := h
  refine ⟨N, _, hN, fun e => ?_, h, fun W => ?_⟩
  · have := congrArg Array.size e
    rw [Array.size_replicate] at this
    simp at this; omega
  · have e : Array.replicate N (Value.bool false) = bf N (fun _ => false) := bf_ext (by simp) fun j hj => by simp [hj]
    rw [e]; exact heap_alloc_new W _
section
variable {W W' : World} {g N : Nat} {F G : Nat → Bool}
theorem Sn.lt (h : Sn W g N F) : g < W.heap.size := (Array.getElem?_eq_some_iff.1 h).1
theorem Sn.cell (h : Sn W g N F) (j : Nat) (hj : j < N) : W.cell? ⟨g, j, none⟩ = some (.bool (F j)) := by
  rw [cell_of_row W g j _ _ _ h, bf_get N F j hj]
theorem Sn.frozen (h : Sn W g N F) (j : Nat) : W.frozen? ⟨g, j, none⟩ = false := by
  unfold Sn at h
  simp [World.frozen?, h]
theorem Sn.congr (h : Sn W g N F) (hf : ∀ j, j < N → F j = G j) : Sn W g N G := by
  unfold Sn at h ⊢
  rw [h]; congr 2; exact bf_ext (bf_size N F) fun j hj => by rw [bf_get N F j hj, hf j hj]
theorem Sn.set (h : Sn W g N F) (k : Nat) (hk : k < N) (v : Bool) : Sn (W.setCell ⟨g, k, none⟩ (.bool v)) g N (fun j => if j = k then v else F j) := by
  have := heap_setCell_same W g k _ _ (.bool v) h
  unfold Sn
  rw [this]
  congr 2
  apply bf_ext
  · simp [bf_size]
  · intro j hj
    by_cases e : j = k
    · subst e
      simp [bf_size, hj]
    · rw [Array.getElem?_setIfInBounds_ne (by omega), bf_get N F j hj]; simp [e]
theorem Sn.nx (h : Sn W g N F) (hB : Nx W W') : Sn W' g N F := (hB.block g h.lt).trans h
end
theorem nx_set {V W : World} (h : Nx V W) {g k : Nat} (hg : V.heap.size ≤ g) (v : Value) : Nx V (W.setCell ⟨g, k, none⟩ v) :=
  Below.trans h ⟨rfl, rfl, rfl, by simp [World.setCell], fun j hj => heap_setCell_other _ ⟨g, k, none⟩ j _ (fun e => by have : g = j := e.symm ▸ rfl; omega)⟩
/-! A row of ints of the call's own. -/
def Oi (B : Nat) (W : World) (v : Value) (n : Nat) (L : List Int) : Prop := W.ownsRow B 3 1 v n (ivs L)
theorem ivs_one (L : List Int) : ∀ u ∈ ivs L, u.oneCell' = true := by
  intro u hu
  unfold ivs at hu
  obtain ⟨x, _, rfl⟩ := List.mem_map.1 hu
  rfl
section
variable {B n : Nat} {W W' : World} {v : Value} {L : List Int}
theorem Oi.len (h : Oi B W v n L) : L.length = n := by have := h.1; rw [ivs_len, Nat.mul_one] at this; exact this
theorem Oi.is (h : Oi B W v n L) : Is W v L := by
  have := RdC.own h
  rw [← h.len] at this; exact this
theorem Oi.bel (h : Oi B W v n L) (hB : Nx W W') : Oi B W' v n L := own_bel h hB
theorem Oi.parts (h : Oi B W v n L) (h0 : 0 < n) : ∃ g c, v = .slice (some ⟨g, 0, none⟩) n c ∧ B ≤ g := by
  obtain ⟨_, ⟨_, hn⟩ | ⟨g, cap, cur, rfl, hB, _⟩⟩ := h
  · omega
  · exact ⟨g, cap, rfl, hB⟩
theorem Oi.at {g c : Nat} (h : Oi B W (.slice (some ⟨g, 0, none⟩) n c) n L) {k : Nat} (hk : k < n) :
    W.cell? ⟨g, k, none⟩ = some (.int .i64 (L.getD k 0)) ∧ W.frozen? ⟨g, k, none⟩ = false ∧ g < W.heap.size := by
  have hl := h.len
  obtain ⟨h1, ⟨e0, _⟩ | ⟨g', cap, cur, e0, hB, hg, hn, hc, hs, ht⟩⟩ := h
  · cases e0
  · simp only [Value.slice.injEq, Option.some.injEq, Addr.mk.injEq, and_true, true_and] at e0
    obtain ⟨rfl, rfl⟩ := e0
    refine ⟨?_, by simp [World.frozen?, hg], (Array.getElem?_eq_some_iff.1 hg).1⟩
    have hk' : k < L.length := by omega
    have e : (ivs L)[k]? = some (.int .i64 (L.getD k 0)) := by
      unfold ivs
      rw [List.getElem?_map, List.getElem?_eq_getElem hk', List.getD_eq_getElem?_getD, List.getElem?_eq_getElem hk']; rfl
    rw [cell_of_row W g k cur _ _ hg, ← e, ← ht, List.getElem?_take, if_pos (by omega)]; simp
theorem Oi.set {g c : Nat} (h : Oi B W (.slice (some ⟨g, 0, none⟩) n c) n L) {k : Nat} (hk : k < n) (x : Int) :
    Oi B (W.setCell ⟨g, k, none⟩ (.int .i64 x)) (.slice (some ⟨g, 0, none⟩) n c) n (L.set k x) := by
  have hl := h.len
  have e : ivs (L.set k x) = (ivs L).set k (.int .i64 x) := by unfold ivs; rw [List.map_set]
  obtain ⟨h1, ⟨e0, _⟩ | ⟨g', cap, cur, e0, hB, hg, hn, hc, hs, ht⟩⟩ := h
  · cases e0
  · simp only [Value.slice.injEq, Option.some.injEq, Addr.mk.injEq, and_true, true_and] at e0
    obtain ⟨rfl, rfl⟩ := e0
    refine ⟨by rw [e]; simpa using h1, .inr ⟨g, c, _, rfl, hB, heap_setCell_same _ g _ _ _ _ hg, hn, hc, ?_, ?_⟩⟩
    · simpa using hs
    · rw [e, ← ht]
      simp [List.take_set]
end
set_option maxRecDepth 100000 in
set_option maxHeartbeats 4000000 in
theorem clone_any {w : World} {v : Value} {L : List Int} (h : Is w v L) (hl : L.length ≤ 200) (h0 : 0 < L.length) :
    Calls Tryd.prog 16 #[v] w fun e w' => ∃ g c, e = .returned (.slice (some ⟨g, 0, none⟩) L.length c) ∧ Hid (w.heap.size ≤ g) ∧ Hid (Oi w.heap.size w' (.slice (some ⟨g, 0, none⟩) L.length c) L.length L) ∧ Nx w w' := by
  obtain ⟨p, cap, rfl, hn, hm⟩ := h.form
  obtain ⟨b, o, rfl, _, _⟩ := h.at h0
  have H0 := hide h0
  have HO := hide (h.below (Nx.alloc w (.cells #[] 3)))
  have HE := hide (own_empty (size := 1) (B := w.heap.size) (heap_alloc_new w (.cells #[] 3)) (Nat.le_refl _))
  clear h h0
  have hq : ∀ (w : World) (n c : Nat), (binOp .eql 23 (.slice (some ⟨b, o, none⟩) n c) (.slice none 0 0)).run Tryd.prog w = .ok (.bool false) w := fun w n c => Lib.run_eql_slice_nil w _ _ (some ⟨b, o, none⟩) n c 0 0 Tryd.underlying23
  go_enter Tryd.func16, Tryd.ntmps16
  go_wp2_with (at_builtin; refine wpList_append_rd rfl _ _ 23 rfl rfl rfl Tryd.underlying23 infoInt rfl (by decide) (by decide) HE.out (by simp) HO.out (ivs_one L) (by omega) ?_; intro p2 c2 w2 hk2)
  go_ret
  have e2 := hk2.out.1
  rw [Nat.zero_add, List.nil_append] at e2
  obtain ⟨g, c, e, hB⟩ := Oi.parts (L := L) e2 H0.out
  simp only [Nat.zero_add]
  refine ⟨g, c, by rw [e]; rfl, hide hB, hide (by rw [← e]; exact e2), ?_⟩
  exact below_grown (Nx.alloc w _) (by simp) hk2.out.2 (own_past HE.out)
set_option maxHeartbeats 4000000 in
theorem index_any {w : World} {v : Value} {L : List Int} (h : Is w v L) (x : Int) :
    Calls Tryd.prog 20 #[v, .int .i64 x] w fun e w' => e = .returned (.int .i64 (atI L x)) ∧ Nx w w' := by
  obtain ⟨p, cap, rfl, hn, hm⟩ := h.form
  have hmx : (L.length : Int) ≤ 9223372036854775807 := by unfold maxLen at hm; omega
  have H := hide h
  clear h
  go_enter Tryd.func20, Tryd.ntmps20
  go_wp2
  go_loopw [5, 8] (fun _ i wr => ∃ k : Nat, k ≤ L.length ∧ i = .int .i64 (k : Int) ∧ Hid (∀ j, j < k → L.getD j 0 ≠ x) ∧ Hid (Nx w wr)) (fun _ i _ => L.length - (intOf i).toNat)
  case atStart => exact ⟨0, by omega, rfl, hide (fun j hj => by omega), hide (Nx.refl _)⟩
  case round =>
    obtain ⟨k, hk, rfl, HR, HN⟩ := hrel
    by_cases hkn : k < L.length
    rotate_left
    · obtain rfl : k = L.length := by omega
      have FE := hide (atI_none HR.out)
      go_wp2
      go_ret
      exact ⟨by rw [FE.out]; rfl, HN.out⟩
    have hk1 : (k : Int) < (L.length : Int) := by omega
    obtain ⟨b, o, rfl, hb, x0⟩ := (H.out.below HN.out).at hkn
    by_cases he : L.getD k 0 = x
    · have FE := hide (atI_at hkn he HR.out)
      rw [he] at x0
      clear he HR
      go_wp2
      go_ret
      exact ⟨by rw [FE.out]; rfl, HN.out⟩
    · have HR2 : Hid (∀ j, j < k + 1 → L.getD j 0 ≠ x) := hide (fun j hj => by
        rcases Nat.lt_or_ge j k with g | g
        · exact HR.out j g
        · obtain rfl : j = k := by omega
          exact he)
      have he' : (x == L.getD k 0) = false := by rw [beq_eq_false_iff_ne]; exact fun e => he e.symm
      clear HR he
      generalize L.getD k 0 = y at *
      go_wp2
      go_round
      case rel => exact ⟨k + 1, by omega, by go_num, HR2, HN⟩
      case measure => simp [intOf]; omega
theorem has_any {w : World} {v : Value} {L : List Int} (h : Is w v L) (x : Int) :
    Calls Tryd.prog 17 #[v, .int .i64 x] w fun e w' => e = .returned (.bool (decide (x ∈ L))) ∧ Nx w w' := by
  have HI := hide (index_any h x)
  have HE := hide (has_at L x)
  clear h
  go_enter Tryd.func17, Tryd.ntmps17
  go_wp2_with (go_at_call 20; refine HI.out.mono ?_; rintro e w2 ⟨rfl, n2⟩; have HN2 := hide n2; clear n2)
  go_ret
  exact ⟨ret_bool HE.out, HN2.out⟩
theorem at_any {w : World} {v : Value} {L : List Int} (h : Is w v L) (x : Int) :
    Calls Tryd.prog 13 #[v, .int .i64 x] w fun e w' => e = .returned (.int .i64 (atI L x)) ∧ Nx w w' := by
  have HI := hide (index_any h x)
  clear h
  go_enter Tryd.func13, Tryd.ntmps13
  go_wp2_with (go_at_call 20; refine HI.out.mono ?_; rintro e w2 ⟨rfl, n2⟩; have HN2 := hide n2; clear n2)
  go_ret
  exact ⟨rfl, HN2.out⟩
theorem atC : AtC := fun was id v W h _ _ => at_any h id
set_option maxHeartbeats 4000000 in
theorem freeC : FreeC := by
  intro L v W h hl
  obtain ⟨p, cap, rfl, hn, hm⟩ := h.form
  have H := hide h
  clear h
  have HS := hide (fun k (hk : k < L.length) => free_step hk)
  have HL := hide (fun k => freeN_lt (L.take k))
  go_enter Tryd.func11, Tryd.ntmps11
  go_wp2
  go_loopw [3, 4, 5, 8] (fun m _ _ i wr => ∃ k : Nat, k ≤ L.length ∧ i = .int .i64 (k : Int) ∧ m = .int .u64 ((freeN (L.take k) : Nat) : Int) ∧ Hid (Nx W wr)) (fun _ _ _ i _ => L.length - (intOf i).toNat)
  case atStart => exact ⟨0, by omega, rfl, rfl, hide (Nx.refl _)⟩
  case round =>
    obtain ⟨k, hk, rfl, rfl, HN⟩ := hrel
    by_cases hkn : k < L.length
    rotate_left
    · obtain rfl : k = L.length := by omega
      have FE : Hid (freeN (L.take L.length) = freeN L) := hide (by rw [List.take_length])
      go_wp2
      go_ret
      exact ⟨by rw [FE.out]; rfl, HN.out⟩
    have hk1 : (k : Int) < (L.length : Int) := by omega
    obtain ⟨b, o, rfl, hb, x0⟩ := (H.out.below HN.out).at hkn
    have hs := HS.out k hkn
    have hlt := hide (HL.out k)
    by_cases he : L.getD k 0 = -1
    · rw [if_pos he] at hs
      rw [he] at x0
      have hs := hide hs
      clear he
      generalize freeN (L.take k) = m at *
      have HW := hide (fun w => with_any m (k : Int) w hlt.out)
      go_wp2_with (go_at_call 19; refine (HW.out _).mono ?_; rintro e w2 ⟨rfl, rfl⟩)
      go_round
      case rel => exact ⟨k + 1, by omega, by go_num, by rw [hs.out], HN⟩
      case measure => simp [intOf]; omega
    · rw [if_neg he] at hs
      have hs := hide hs
      have he' : (L.getD k 0 == -1) = false := by rw [beq_eq_false_iff_ne]; exact he
      clear he
      generalize L.getD k 0 = y at *
      generalize freeN (L.take k) = m at *
      go_wp2
      go_round
      case rel => exact ⟨k + 1, by omega, by go_num, by rw [hs.out], HN⟩
      case measure => simp [intOf]; omega
end Go.Proofs.YtahkmpbgenpecaaDoor.St
