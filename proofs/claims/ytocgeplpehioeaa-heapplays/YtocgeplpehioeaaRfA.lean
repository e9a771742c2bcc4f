/- The reference's heap: a row in order: its order, and where one is. -/
import Derived.Test.YtocgeplpehioeaaSSort
import Derived.Test.YtocgeplpehioeaaApd
import Derived.BigQuiet
namespace Go.Proofs.Ytocgeplpehioeaa.Con
open Go.RowKit Go.Proofs.Ytocgeplpehioeaa.Hq
set_option linter.unusedVariables false
set_option linter.unusedSimpArgs false
attribute [local go_sem ↓] Go.wp_at_zero Go.wp_at_succ
theorem ret_int {k : IntKind} {a b : Int} (h : a = b) : Ending.returned (.int k a) = .returned (.int k b) := by rw [h]
/-- The reference's heap at rb: its row v. -/
structure Rf (W : World) (rb : Nat) (most : Int) (g : Bool) (v : Value) (L : List It) : Prop where
  str : W.heap[rb]? = some (.cells #[.int .i64 most, .bool g, v] 44 (0, 0))
  row : RdC W W.heap.size 2 v L.length (flat L)
  own : ∀ k, v.ownBlock = some k → k < W.heap.size ∧ k ≠ rb
  len : L.length ≤ 1024
theorem Rf.lt {W : World} {rb : Nat} {most : Int} {g : Bool} {v : Value} {L : List It} (h : Rf W rb most g v L) : rb < W.heap.size := (Array.getElem?_eq_some_iff.1 h.str).1
theorem Rf.cells {W : World} {rb : Nat} {most : Int} {g : Bool} {v : Value} {L : List It} (h : Rf W rb most g v L) : W.cell? ⟨rb, 0, none⟩ = some (.int .i64 most) ∧ W.cell? ⟨rb, 1, none⟩ = some (.bool g) ∧ W.cell? ⟨rb, 2, none⟩ = some v := by
  refine ⟨?_, ?_, ?_⟩ <;> (rw [cell_of_row W rb _ _ _ _ h.str]; rfl)
theorem Rf.frozen {W : World} {rb : Nat} {most : Int} {g : Bool} {v : Value} {L : List It} (h : Rf W rb most g v L) (j : Nat) : W.frozen? ⟨rb, j, none⟩ = false := by
  have := h.str
  simp [World.frozen?, this]
theorem Rf.form {W : World} {rb : Nat} {most : Int} {g : Bool} {v : Value} {L : List It} (h : Rf W rb most g v L) : ∃ p cap, v = .slice p L.length cap ∧ L.length ≤ cap ∧ cap ≤ maxLen := by
  obtain ⟨_, p, cap, rfl, h1, h2, _⟩ := h.row
  exact ⟨p, cap, rfl, h1, h2⟩
/-- The one at i. -/
theorem Rf.item {W : World} {rb : Nat} {most : Int} {g : Bool} {p : Option Addr} {n cap : Nat} {L : List It} (h : Rf W rb most g (.slice p n cap) L) (i : Nat) (hi : i < L.length) :
    ∃ b o, p = some ⟨b, o, none⟩ ∧ b < W.heap.size ∧ b ≠ rb ∧ W.cell? ⟨b, o + i * 2, none⟩ = some (.int .i64 (at' L i).1) ∧ W.cell? ⟨b, o + i * 2 + 1, none⟩ = some (.int .i64 (at' L i).2) := by
  obtain ⟨_, p', cap', e, h1, h2, h3⟩ := h.row
  simp only [Value.slice.injEq] at e
  obtain ⟨rfl, rfl, rfl⟩ := e
  obtain ⟨b, o, rfl, hb, hc⟩ := h3 (by omega)
  refine ⟨b, o, rfl, hb, (h.own b rfl).2, ?_, ?_⟩
  · refine hc (i * 2) _ ?_
    rw [flat_get L _ (by omega)]
    unfold cellv; rw [if_pos (by omega), show i * 2 / 2 = i by omega]
  · refine hc (i * 2 + 1) _ ?_
    rw [flat_get L _ (by omega)]
    unfold cellv; rw [if_neg (by omega), show (i * 2 + 1) / 2 = i by omega]
theorem Rf.kept {W W' : World} {rb : Nat} {most : Int} {g : Bool} {v : Value} {L : List It} (h : Rf W rb most g v L) (hz : W.heap.size ≤ W'.heap.size) (hk : ∀ k, k < W.heap.size → (k = rb ∨ v.ownBlock = some k) → W'.heap[k]? = W.heap[k]?) : Rf W' rb most g v L := by
  refine ⟨(hk rb h.lt (.inl rfl)).trans h.str, ?_, fun k e => ⟨by have := (h.own k e).1; omega, (h.own k e).2⟩, h.len⟩
  obtain ⟨h1, p, cap, rfl, h2, h3, h4⟩ := h.row
  refine ⟨h1, p, cap, rfl, h2, h3, fun h0 => ?_⟩
  obtain ⟨b, o, rfl, hb, hc⟩ := h4 h0
  exact ⟨b, o, rfl, by omega, fun j u hu => (World.cell?_of_block (hk b hb (.inr rfl))).trans (hc j u hu)⟩
theorem Rf.below {W W' : World} {rb : Nat} {most : Int} {g : Bool} {v : Value} {L : List It} (h : Rf W rb most g v L) (hB : Below W.heap.size W W') : Rf W' rb most g v L :=
  h.kept hB.size fun k hk _ => hB.block k hk
/-- What a call on it may turn. -/
structure RT (W W' : World) (rb : Nat) (v' : Value) : Prop where
  os : W'.os = W.os
  tape : W'.tape = W.tape
  output : W'.output = W.output
  size : W.heap.size ≤ W'.heap.size
  block : ∀ k, k < W.heap.size → k ≠ rb → W'.heap[k]? = W.heap[k]?
  own : ∀ k, v'.ownBlock = some k → W.heap.size ≤ k
theorem RT.after {W W1 W' : World} {rb : Nat} {v' : Value} (hB : Below W.heap.size W W1) (h : RT W1 W' rb v') : RT W W' rb v' :=
  ⟨h.os.trans hB.os, h.tape.trans hB.tape, h.output.trans hB.output, Nat.le_trans hB.size h.size, fun k hk hne => (h.block k (by have := hB.size; omega) hne).trans (hB.block k hk), fun k e => by have := h.own k e; have := hB.size; omega⟩
theorem flat_app (l m : List It) : flat (l ++ m) = flat l ++ flat m := by
  induction m generalizing l with
  | nil => simp [flat]
  | cons x m ih =>
    rw [show l ++ x :: m = (l ++ [x]) ++ m by simp, ih, flat_snoc, show x :: m = [x] ++ m from rfl, ih [x], show flat [x] = [.int .i64 x.1, .int .i64 x.2] by have := flat_snoc [] x; simpa [flat] using this]
    simp
theorem flat_take (l : List It) (k : Nat) (h : k ≤ l.length) : (flat l).take (k * 2) = flat (l.take k) := by
  have e : flat l = flat (l.take k) ++ flat (l.drop k) := by rw [← flat_app, List.take_append_drop]
  rw [e, List.take_append_of_le_length (by rw [flat_len, List.length_take]; omega), List.take_of_length_le (by rw [flat_len, List.length_take]; omega)]
theorem flat_drop (l : List It) (k : Nat) (h : k ≤ l.length) : (flat l).drop (k * 2) = flat (l.drop k) := by
  have e : flat l = flat (l.take k) ++ flat (l.drop k) := by rw [← flat_app, List.take_append_drop]
  have e2 : k * 2 = (flat (l.take k)).length := by rw [flat_len, List.length_take]; omega
  rw [e, e2, List.drop_left]
theorem flat_one (x : It) : flat [x] = [.int .i64 x.1, .int .i64 x.2] := by have := flat_snoc [] x; simpa [flat] using this
theorem asc_put {g : Bool} {x : It} {L : List It} {k : Nat} (hk : k ≤ L.length) (h1 : ∀ j, j < k → lt g (at' L j) x = true) (h2 : k = L.length ∨ lt g (at' L k) x = false) (hA : Asc g L) : Asc g (L.take k ++ x :: L.drop k) := by
  unfold Asc at *
  rw [← List.take_append_drop k L, List.pairwise_append] at hA
  obtain ⟨a1, a2, a3⟩ := hA
  have e1 : ∀ y ∈ L.take k, le g y x := by
    intro y hy
    obtain ⟨i, hi, rfl⟩ := mem_at hy
    rw [List.length_take] at hi
    rw [at_take L k i (by omega)]
    exact le_of_lt (h1 i (by omega))
  have e2 : ∀ y ∈ L.drop k, le g x y := by
    intro y hy
    rcases h2 with rfl | h2
    · simp at hy
    · rcases Nat.lt_or_ge k L.length with h3 | h3
      · have hd : L.drop k = at' L k :: L.drop (k + 1) := by
          rw [List.drop_eq_getElem_cons h3]
          congr 1
          have := at_eq h3
          rw [List.getElem?_eq_getElem h3] at this
          simpa using this
        rw [hd] at hy a2
        rcases List.mem_cons.1 hy with rfl | hy
        · exact h2
        · exact le_trans (show le g x (at' L k) from h2) ((List.pairwise_cons.1 a2).1 y hy)
      · rw [List.drop_of_length_le h3] at hy; cases hy
  rw [List.pairwise_append]
  refine ⟨a1, List.pairwise_cons.2 ⟨e2, a2⟩, ?_⟩
  intro y hy z hz
  rcases List.mem_cons.1 hz with rfl | hz
  · exact e1 y hy
  · exact a3 y hy z hz
theorem perm_put (x : It) (L : List It) (k : Nat) : (L.take k ++ x :: L.drop k).Perm (x :: L) := by
  refine List.perm_middle.trans ?_
  rw [List.take_append_drop]
/-- The reference's order. -/
theorem ahd_eq (g : Bool) (a b : It) (h : a.2 ≠ b.2) : (decide (a.2 < b.2) != g) = lt g a b := by
  rw [Bool.eq_iff_iff, lt_iff]
  cases g <;> simp <;> omega
theorem ahd_eq' (g : Bool) (a b : It) (h : a.2 = b.2) : decide (a.1 < b.1) = lt g a b := by
  rw [Bool.eq_iff_iff, lt_iff]
  cases g <;> simp <;> omega
theorem rahead_any {W : World} (rb : Nat) (g : Bool) (a b : It) (hg : W.cell? ⟨rb, 1, none⟩ = some (.bool g)) :
    Calls Try.prog 38 #[.pointer (some ⟨rb, 0, none⟩), .agg #[.int .i64 a.1, .int .i64 a.2], .agg #[.int .i64 b.1, .int .i64 b.2]] W fun e w' => e = .returned (.bool (lt g a b)) ∧ Below W.heap.size W w' := by
  obtain ⟨a0, a1⟩ := a
  obtain ⟨b0, b1⟩ := b
  have hbl := World.block_lt_of_cell? W _ hg
  by_cases h : a1 = b1
  · subst h
    have HE := hide (ahd_eq' g (a0, a1) (b0, a1) rfl)
    go_enter Try.func38, Try.ntmps38
    go_wp2
    go_ret
    exact ⟨ret_bool HE.out, ((Below.refl _ _).alloc (Nat.le_refl _) _).alloc (by simp) _⟩
  · have h2 : ¬ a1 = b1 := h
    have HE := hide (ahd_eq g (a0, a1) (b0, b1) h)
    go_enter Try.func38, Try.ntmps38
    go_wp2
    go_quiet (fail)
    go_wp2
    go_ret
    exact ⟨ret_bool HE.out, below_drewN (((Below.refl _ _).alloc (Nat.le_refl _) _).alloc (by simp) _) _⟩
theorem rfind_any {W : World} {rb : Nat} {most : Int} {g : Bool} {v : Value} {L : List It} (h : Rf W rb most g v L) (hd : Ids L) (id : Int) :
    Calls Try.prog 22 #[.pointer (some ⟨rb, 0, none⟩), .int .i64 id] W fun e w' => e = .returned (.int .i64 ((pos L id).getD (-1))) ∧ w' = W := by
  obtain ⟨p, cap, rfl, hn, hm⟩ := h.form
  obtain ⟨_, _, c2⟩ := h.cells
  have hl := h.len
  have H := hide h
  have HD := hide hd
  clear h hd
  go_enter Try.func22, Try.ntmps22
  go_wp2
  go_loop [5] (fun s => ∃ k : Nat, k ≤ L.length ∧ s = .int .i64 k ∧ Hid (∀ j, j < k → (at' L j).1 ≠ id)) (fun s => L.length - (intOf s).toNat)
  case atStart => exact ⟨0, by omega, rfl, hide (fun j hj => by omega)⟩
  case round =>
    obtain ⟨k, hk, rfl, HR⟩ := hrel
    by_cases hkn : k < L.length
    · obtain ⟨b, o, rfl, hb, _, x0, x1⟩ := H.out.item k hkn
      have hk1 : (k : Int) < (L.length : Int) := by omega
      have E1 : Hid ((at' L k).1 = id → (pos L id).getD (-1) = (k : Int)) := hide (fun e => by rw [← e, pos_some HD.out hkn]; rfl)
      have E2 : Hid ((at' L k).1 ≠ id → ∀ j, j < k + 1 → (at' L j).1 ≠ id) := hide (fun e j hj => by
        rcases Nat.lt_or_ge j k with h1 | h1
        · exact HR.out j h1
        · obtain rfl : j = k := by omega
          exact e)
      generalize (at' L k).1 = z at *
      generalize (at' L k).2 = z' at *
      by_cases hz : z = id
      · subst hz
        go_wp2
        go_ret
        exact ⟨ret_int (E1.out (by first | exact rfl | trivial)).symm, rfl⟩
      · have hz2 : (z == id) = false := by simp [hz]
        go_wp2
        go_round
        case rel => exact ⟨k + 1, by omega, by go_num, hide (E2.out hz)⟩
        case measure => simp [intOf]; omega
    · obtain rfl : k = L.length := by omega
      have hp : Hid ((pos L id).getD (-1) = -1) := hide (by
        rw [pos_none]; rfl
        intro y hy
        obtain ⟨i, hi, rfl⟩ := mem_at hy
        exact HR.out i hi)
      go_wp2
      go_ret
      exact ⟨ret_int hp.out.symm, rfl⟩
end Go.Proofs.Ytocgeplpehioeaa.Con
