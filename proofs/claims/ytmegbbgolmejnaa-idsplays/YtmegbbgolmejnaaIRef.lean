/- The reference's table: NewIds, Take, Is, Give. -/
import Derived.Test.YtmegbbgolmejnaaIParts
namespace Go.Proofs.Ytmegbbgolmejnaa.Con
open Go.RowKit
set_option linter.unusedVariables false
set_option linter.unusedSimpArgs false
attribute [local go_sem ↓] Go.wp_at_zero Go.wp_at_succ
theorem held_any (n : Int) (w : World) : Calls Try.prog 22 #[.int .i64 n, .int .i64 1, .int .i64 256] w fun e w' => e = .returned (.int .i64 (held n : Nat)) ∧ w' = w := by
  have hh : ((held n : Nat) : Int) = min (max n 1) 256 := by unfold held; omega
  rcases (show n < 1 ∨ (1 ≤ n ∧ n ≤ 256) ∨ 256 < n by omega) with h | ⟨h, h'⟩ | h
  · have e : ((held n : Nat) : Int) = 1 := by omega
    rw [e]
    clear hh e
    go_enter Try.func22, Try.ntmps22
    go_wp2
    go_ret
    exact ⟨rfl, rfl⟩
  · have e : ((held n : Nat) : Int) = n := by omega
    have h1 : ¬ n < 1 := by omega
    have h2 : ¬ 256 < n := by omega
    rw [e]
    clear hh e
    go_enter Try.func22, Try.ntmps22
    go_wp2
    go_ret
    exact ⟨rfl, rfl⟩
  · have e : ((held n : Nat) : Int) = 256 := by omega
    have h1 : ¬ n < 1 := by omega
    rw [e]
    clear hh e
    go_enter Try.func22, Try.ntmps22
    go_wp2
    go_ret
    exact ⟨rfl, rfl⟩
/-- The gens, and which are taken, as rows. -/
def rowI (l : List Sp) : List Value := (List.range l.length).map fun i => Value.int .i64 ((sp l i).1 : Nat)
def rowB (l : List Sp) : List Value := (List.range l.length).map fun i => Value.bool (sp l i).2
theorem rowI_len (l : List Sp) : (rowI l).length = l.length := by simp [rowI]
theorem rowB_len (l : List Sp) : (rowB l).length = l.length := by simp [rowB]
theorem rowI_get (l : List Sp) (j : Nat) (h : j < l.length) : (rowI l)[j]? = some (.int .i64 ((sp l j).1 : Nat)) := by
  unfold rowI; rw [List.getElem?_map, List.getElem?_range h]; rfl
theorem rowB_get (l : List Sp) (j : Nat) (h : j < l.length) : (rowB l)[j]? = some (.bool (sp l j).2) := by
  unfold rowB; rw [List.getElem?_map, List.getElem?_range h]; rfl
theorem rowI_rep (n : Nat) : (rowI (List.replicate n (0, false))).toArray = madeCells #[.int .i64 0] (n * 1) := by
  unfold rowI madeCells
  apply Array.ext
  · simp
  · intro j h1 h2
    simp [sp_rep, Nat.mod_one]
theorem rowB_rep (n : Nat) : (rowB (List.replicate n (0, false))).toArray = madeCells #[.bool false] (n * 1) := by
  unfold rowB madeCells
  apply Array.ext
  · simp
  · intro j h1 h2
    simp [sp_rep, Nat.mod_one]
theorem infoInt : (Try.prog.info? 3).map (fun i => (i.zero, i.size, i.bytes)) = some (some (.int .i64 0), 1, 8) := by kernel_rfl
theorem infoBool : (Try.prog.info? 4).map (fun i => (i.zero, i.size, i.bytes)) = some (some (.bool false), 1, 1) := by kernel_rfl
theorem mk_ints (n : Nat) (hn : n ≤ 256) (w : World) : (Instr.makeSlice 45 (.int .i64 (n : Int)) (.int .i64 (n : Int))).run Try.prog w = .ok (.slice (some ⟨w.heap.size, 0, none⟩) n n) (w.alloc (.cells (rowI (List.replicate n (0, false))).toArray 3)) := by
  obtain ⟨i, hi, hz0, hz1, hz2⟩ := info_parts infoInt
  have := run_make (P := Try.prog) w 45 3 i _ Try.underlying45 hi hz0 .i64 .i64 n n (by omega) (by omega) (by rw [hz2]; omega) (by omega)
  rw [this, hz1, rowI_rep]
  rfl
theorem mk_bools (n : Nat) (hn : n ≤ 256) (w : World) : (Instr.makeSlice 46 (.int .i64 (n : Int)) (.int .i64 (n : Int))).run Try.prog w = .ok (.slice (some ⟨w.heap.size, 0, none⟩) n n) (w.alloc (.cells (rowB (List.replicate n (0, false))).toArray 4)) := by
  obtain ⟨i, hi, hz0, hz1, hz2⟩ := info_parts infoBool
  have := run_make (P := Try.prog) w 46 4 i _ Try.underlying46 hi hz0 .i64 .i64 n n (by omega) (by omega) (by rw [hz2]; omega) (by omega)
  rw [this, hz1, rowB_rep]
  rfl
/-- The reference's table at wb: its gens at gb, what is taken at kb. -/
structure Rf (W : World) (wb gb kb n : Nat) (l : List Sp) : Prop where
  str : W.heap[wb]? = some (.cells #[.slice (some ⟨gb, 0, none⟩) n n, .slice (some ⟨kb, 0, none⟩) n n] 48 (0, 0))
  gen : W.heap[gb]? = some (.cells (rowI l).toArray 3 (0, 0))
  tak : W.heap[kb]? = some (.cells (rowB l).toArray 4 (0, 0))
  len : l.length = n
  hi : n ≤ 256
  fit : ∀ i, (sp l i).1 < 16777216
section
variable {W W' : World} {wb gb kb n : Nat} {l : List Sp}
theorem Rf.wlt (h : Rf W wb gb kb n l) : wb < W.heap.size := (Array.getElem?_eq_some_iff.1 h.str).1
theorem Rf.glt (h : Rf W wb gb kb n l) : gb < W.heap.size := (Array.getElem?_eq_some_iff.1 h.gen).1
theorem Rf.klt (h : Rf W wb gb kb n l) : kb < W.heap.size := (Array.getElem?_eq_some_iff.1 h.tak).1
theorem Rf.wg (h : Rf W wb gb kb n l) : wb ≠ gb := by
  rintro rfl
  have := h.str.symm.trans h.gen
  simp at this
theorem Rf.wk (h : Rf W wb gb kb n l) : wb ≠ kb := by
  rintro rfl
  have := h.str.symm.trans h.tak
  simp at this
theorem Rf.gk (h : Rf W wb gb kb n l) : gb ≠ kb := by
  rintro rfl
  have := h.gen.symm.trans h.tak
  simp at this
theorem Rf.kept (h : Rf W wb gb kb n l) (h1 : W'.heap[wb]? = W.heap[wb]?) (h2 : W'.heap[gb]? = W.heap[gb]?) (h3 : W'.heap[kb]? = W.heap[kb]?) : Rf W' wb gb kb n l := ⟨h1.trans h.str, h2.trans h.gen, h3.trans h.tak, h.len, h.hi, h.fit⟩
theorem Rf.cells (h : Rf W wb gb kb n l) : W.cell? ⟨wb, 0, none⟩ = some (.slice (some ⟨gb, 0, none⟩) n n) ∧ W.cell? ⟨wb, 1, none⟩ = some (.slice (some ⟨kb, 0, none⟩) n n) := by
  rw [cell_of_row W wb _ _ _ _ h.str, cell_of_row W wb _ _ _ _ h.str]; exact ⟨rfl, rfl⟩
theorem Rf.item (h : Rf W wb gb kb n l) (i : Nat) (hi : i < n) : W.cell? ⟨gb, i, none⟩ = some (.int .i64 ((sp l i).1 : Nat)) ∧ W.cell? ⟨kb, i, none⟩ = some (.bool (sp l i).2) ∧ W.frozen? ⟨gb, i, none⟩ = false ∧ W.frozen? ⟨kb, i, none⟩ = false := by
  have hl := h.len
  refine ⟨?_, ?_, ?_, ?_⟩
  · rw [cell_of_row W gb _ _ _ _ h.gen, List.getElem?_toArray, rowI_get l _ (by omega)]
  · rw [cell_of_row W kb _ _ _ _ h.tak, List.getElem?_toArray, rowB_get l _ (by omega)]
  · simp [World.frozen?, h.gen]
  · simp [World.frozen?, h.tak]
theorem rowI_set (l : List Sp) (i : Nat) (x : Sp) (hi : i < l.length) : (rowI l).toArray.setIfInBounds i (.int .i64 (x.1 : Nat)) = (rowI (l.set i x)).toArray := by
  apply Array.ext_getElem?
  intro j
  rw [Array.getElem?_setIfInBounds, List.getElem?_toArray, List.getElem?_toArray]
  by_cases hj : j < l.length
  · rw [rowI_get l j hj, rowI_get _ j (by simpa using hj), sp_set l i j x hi]
    by_cases e : j = i
    · rw [if_pos e.symm, if_pos e, if_pos (by simp [rowI_len]; omega)]
    · rw [if_neg (fun h => e h.symm), if_neg e]
  · rw [if_neg (by omega), List.getElem?_eq_none (by rw [rowI_len]; omega), List.getElem?_eq_none (by rw [rowI_len, List.length_set]; omega)]
theorem rowB_set (l : List Sp) (i : Nat) (x : Sp) (hi : i < l.length) : (rowB l).toArray.setIfInBounds i (.bool x.2) = (rowB (l.set i x)).toArray := by
  apply Array.ext_getElem?
  intro j
  rw [Array.getElem?_setIfInBounds, List.getElem?_toArray, List.getElem?_toArray]
  by_cases hj : j < l.length
  · rw [rowB_get l j hj, rowB_get _ j (by simpa using hj), sp_set l i j x hi]
    by_cases e : j = i
    · rw [if_pos e.symm, if_pos e, if_pos (by simp [rowB_len]; omega)]
    · rw [if_neg (fun h => e h.symm), if_neg e]
  · rw [if_neg (by omega), List.getElem?_eq_none (by rw [rowB_len]; omega), List.getElem?_eq_none (by rw [rowB_len, List.length_set]; omega)]
theorem rowI_same (l : List Sp) (i : Nat) (b : Bool) (hi : i < l.length) : rowI (l.set i ((sp l i).1, b)) = rowI l := by
  unfold rowI
  rw [List.length_set]
  apply List.map_congr_left
  intro j _
  rw [sp_set l i j _ hi]
  by_cases e : j = i
  · rw [if_pos e, e]
  · rw [if_neg e]
/-- What a call on it may turn. -/
structure RT (W W' : World) (gb kb : Nat) : Prop where
  os : W'.os = W.os
  tape : W'.tape = W.tape
  output : W'.output = W.output
  size : W.heap.size ≤ W'.heap.size
  block : ∀ k, k < W.heap.size → k ≠ gb → k ≠ kb → W'.heap[k]? = W.heap[k]?
theorem RT.same (W : World) (gb kb : Nat) : RT W W gb kb := ⟨rfl, rfl, rfl, Nat.le_refl _, fun _ _ _ _ => rfl⟩
theorem RT.toBelow {B : Nat} (h : RT W W' gb kb) (h0 : B ≤ W.heap.size) (h1 : B ≤ gb) (h2 : B ≤ kb) : Below B W W' :=
  ⟨h.os, h.tape, h.output, h.size, fun k hk => h.block k (by omega) (by omega) (by omega)⟩
theorem alloc3 (w : World) (O Q R : Obj) : (((w.alloc O).alloc Q).alloc R).heap[w.heap.size]? = some O ∧ (((w.alloc O).alloc Q).alloc R).heap[w.heap.size + 1]? = some Q ∧ (((w.alloc O).alloc Q).alloc R).heap[w.heap.size + 1 + 1]? = some R := by
  have s1 : (w.alloc O).heap.size = w.heap.size + 1 := by simp
  have s2 : ((w.alloc O).alloc Q).heap.size = w.heap.size + 1 + 1 := by simp
  refine ⟨?_, ?_, ?_⟩
  · rw [heap_alloc_old _ _ (by omega), heap_alloc_old _ _ (by omega), heap_alloc_new]
  · rw [heap_alloc_old _ _ (by omega), ← s1, heap_alloc_new]
  · rw [← s2, heap_alloc_new]
def RNewPost (n : Int) (w : World) (e : Ending) (w' : World) : Prop :=
  ∃ wb gb kb, e = .returned (.pointer (some ⟨wb, 0, none⟩)) ∧ Rf w' wb gb kb (held n) (List.replicate (held n) (0, false)) ∧ Below w.heap.size w w' ∧ w.heap.size ≤ wb ∧ w.heap.size ≤ gb ∧ w.heap.size ≤ kb
theorem rnew_any (n : Int) (w : World) :
    Calls Try.prog 16 #[.int .i64 n] w fun e w' => RNewPost n w e w' := by
  have HE := hide (held_any n w)
  obtain ⟨m, hm⟩ : ∃ m, m = held n := ⟨_, rfl⟩
  have h1 := held_lo n
  have h2 := held_hi n
  rw [← hm] at h1 h2 HE
  obtain ⟨O, Q, mk1, mk2, FIN⟩ : ∃ O Q : Obj, (∀ w : World, (Instr.makeSlice 45 (.int .i64 (m : Int)) (.int .i64 (m : Int))).run Try.prog w = .ok (.slice (some ⟨w.heap.size, 0, none⟩) m m) (w.alloc O)) ∧
      (∀ w : World, (Instr.makeSlice 46 (.int .i64 (m : Int)) (.int .i64 (m : Int))).run Try.prog w = .ok (.slice (some ⟨w.heap.size, 0, none⟩) m m) (w.alloc Q)) ∧
      Hid (∀ (w1 : World) (wb gb kb : Nat), w1.heap[wb]? = some (.cells #[.slice (some ⟨gb, 0, none⟩) m m, .slice (some ⟨kb, 0, none⟩) m m] 48 (0, 0)) → w1.heap[gb]? = some O → w1.heap[kb]? = some Q → Below w.heap.size w w1 → w.heap.size ≤ wb → w.heap.size ≤ gb → w.heap.size ≤ kb →
        RNewPost n w (.returned (.pointer (some ⟨wb, 0, none⟩))) w1) := by
    refine ⟨_, _, fun w => mk_ints m h2 w, fun w => mk_bools m h2 w, hide ?_⟩
    intro w1 wb gb kb a1 a2 a3 a4 a5 a6 a7
    unfold RNewPost
    rw [← hm]
    exact ⟨wb, gb, kb, rfl, ⟨a1, a2, a3, by simp, h2, fun i => by rw [sp_rep]; decide⟩, a4, a5, a6, a7⟩
  clear hm
  go_enter Try.func16, Try.ntmps16
  go_wp2_with (go_at_call 22; refine HE.out.mono ?_; rintro e w' ⟨rfl, rfl⟩)
  go_region
  all_goals
    go_wp2
    go_ret
  · exact FIN.out _ (w'.heap.size + 1 + 1) w'.heap.size (w'.heap.size + 1) (alloc3 w' O Q _).2.2 (alloc3 w' O Q _).1 (alloc3 w' O Q _).2.1 (bel_drew (bel_alloc (bel_alloc (bel_alloc (Below.refl _ _) (Nat.le_refl _) _) (Nat.le_refl _) _) (Nat.le_refl _) _)) (by omega) (by omega) (by omega)
  · exact FIN.out _ (w'.heap.size + 1 + 1) (w'.heap.size + 1) w'.heap.size (alloc3 w' Q O _).2.2 (alloc3 w' Q O _).2.1 (alloc3 w' Q O _).1 (bel_drew (bel_alloc (bel_alloc (bel_alloc (Below.refl _ _) (Nat.le_refl _) _) (Nat.le_refl _) _) (Nat.le_refl _) _)) (by omega) (by omega) (by omega)
theorem nm_int (p g : Nat) : (p : Int) + 256 * (g : Int) = ((nm p g : Nat) : Int) := by unfold nm; omega
def RTakePost (W : World) (wb gb kb n : Nat) (l : List Sp) (p : Nat) (e : Ending) (w' : World) : Prop :=
  e = .returned (.tuple #[.int .i64 (nm p (sp l p).1 : Nat), .int .i64 0]) ∧ Rf w' wb gb kb n (l.set p ((sp l p).1, true)) ∧ RT W w' gb kb
theorem rtake_mid (h : Rf W wb gb kb n l) (p : Nat) (hp : p < n) : Rf (W.setCell ⟨kb, p, none⟩ (.bool true)) wb gb kb n (l.set p ((sp l p).1, true)) ∧ RT W (W.setCell ⟨kb, p, none⟩ (.bool true)) gb kb := by
  have hl := h.len
  refine ⟨⟨(heap_setCell_other W _ wb _ h.wk).trans h.str, ?_, ?_, by simp [hl], h.hi, ?_⟩, ⟨rfl, rfl, rfl, by simp, fun k hk _ hn => heap_setCell_other W _ k _ hn⟩⟩
  · rw [heap_setCell_other W _ gb _ h.gk, h.gen, rowI_same l p true (by omega)]
  · rw [heap_setCell_same W kb p _ _ (.bool true) h.tak, rowB_set l p ((sp l p).1, true) (by omega)]
  · intro k
    rw [sp_set l p k _ (by omega)]
    split
    · exact h.fit p
    · exact h.fit k
theorem rtake_ok (h : Rf W wb gb kb n l) (p : Nat) (hf : Free l p) :
    Calls Try.prog 17 #[.pointer (some ⟨wb, 0, none⟩)] W fun e w' => RTakePost W wb gb kb n l p e w' := by
  have hl := h.len
  have hhi := h.hi
  obtain ⟨f1, f2, f3⟩ := hf
  rw [hl] at f1
  obtain ⟨c0, c1⟩ := h.cells
  have H := hide h
  have F3 := hide f3
  have F2 := hide f2
  clear h f2 f3
  go_enter Try.func17, Try.ntmps17
  go_wp2
  go_loop [4] (fun i => ∃ k : Nat, k ≤ p ∧ i = .int .i64 k) (fun i => p - (intOf i).toNat)
  case atStart => exact ⟨0, by omega, rfl⟩
  case round =>
    obtain ⟨k, hk, rfl⟩ := hrel
    have k1 : (k : Int) < (n : Int) := by omega
    obtain ⟨a0, a1, z0, z1⟩ := H.out.item k (by omega)
    by_cases hkp : k < p
    · rw [F3.out k hkp] at a1
      go_wp2
      go_round
      case rel => exact ⟨k + 1, by omega, by go_num⟩
      case measure => simp [intOf]; omega
    · obtain rfl : k = p := by omega
      rw [F2.out] at a1
      obtain ⟨m1, m2⟩ := rtake_mid H.out k f1
      have FIN : Hid (∀ r : Int, r = (k : Int) + 256 * ((sp l k).1 : Int) → RTakePost W wb gb kb n l k (.returned (.tuple #[.int .i64 r, .int .i64 0])) (W.setCell ⟨kb, k, none⟩ (.bool true))) := hide (fun r hr => ⟨by rw [hr, nm_int], m1, m2⟩)
      have a0' := (m1.item k f1).1
      rw [sp_set l k k _ (by omega), if_pos rfl] at a0'
      have c0' := m1.cells.1
      have hG := H.out.fit k
      clear m1 m2
      generalize (sp l k).1 = G at a0 a0' FIN hG
      go_wp2
      go_ret2
      exact FIN.out _ rfl
theorem rtake_full (h : Rf W wb gb kb n l) (hf : Full l) :
    Calls Try.prog 17 #[.pointer (some ⟨wb, 0, none⟩)] W fun e w' => e = .returned (.tuple #[.int .i64 0, .int .i64 3]) ∧ w' = W := by
  have hl := h.len
  have hhi := h.hi
  obtain ⟨c0, c1⟩ := h.cells
  have H := hide h
  have F := hide hf
  clear h hf
  go_enter Try.func17, Try.ntmps17
  go_wp2
  go_loop [4] (fun i => ∃ k : Nat, k ≤ n ∧ i = .int .i64 k) (fun i => n - (intOf i).toNat)
  case atStart => exact ⟨0, by omega, rfl⟩
  case round =>
    obtain ⟨k, hk, rfl⟩ := hrel
    by_cases hkn : k < n
    · have k1 : (k : Int) < (n : Int) := by omega
      obtain ⟨a0, a1, z0, z1⟩ := H.out.item k hkn
      rw [F.out k (by omega)] at a1
      go_wp2
      go_round
      case rel => exact ⟨k + 1, by omega, by go_num⟩
      case measure => simp [intOf]; omega
    · obtain rfl : k = n := by omega
      go_wp2
      go_ret2
      exact ⟨rfl, rfl⟩
theorem ris_out (h : Rf W wb gb kb n l) (m : Nat) (hm : m < 4294967296) (ho : n ≤ m % 256) :
    Calls Try.prog 19 #[.pointer (some ⟨wb, 0, none⟩), .int .i64 (m : Int)] W fun e w' => e = .returned (.int .i64 (isE l m)) ∧ w' = W := by
  have E : isE l m = 2 := by unfold isE; rw [if_pos (by rw [h.len]; exact ho)]
  rw [E]
  obtain ⟨c0, c1⟩ := h.cells
  have ho' : (n : Int) ≤ (m : Int) % 256 := by omega
  clear h E
  go_enter Try.func19, Try.ntmps19
  go_wp2
  go_ret
  exact ⟨rfl, rfl⟩
theorem ris_in (h : Rf W wb gb kb n l) (m : Nat) (hm : m < 4294967296) (ho : m % 256 < n) :
    Calls Try.prog 19 #[.pointer (some ⟨wb, 0, none⟩), .int .i64 (m : Int)] W fun e w' => e = .returned (.int .i64 (isE l m)) ∧ w' = W := by
  have E : isE l m = if (sp l (m % 256)).2 = true ∧ m / 256 = (sp l (m % 256)).1 then 0 else if m / 256 < (sp l (m % 256)).1 then 10 else 2 := by unfold isE; rw [if_neg (by rw [h.len]; omega)]
  have FIN : Hid (∀ r : Int, r = isE l m → Ending.returned (.int .i64 r) = .returned (.int .i64 (isE l m))) := hide (fun r hr => by rw [hr])
  rw [E] at FIN
  rw [E]
  obtain ⟨c0, c1⟩ := h.cells
  obtain ⟨a0, a1, _, _⟩ := h.item (m % 256) ho
  have e1 : (m : Int) % 256 = ((m % 256 : Nat) : Int) := by omega
  have e2 : (m : Int) / 256 = ((m / 256 : Nat) : Int) := by omega
  clear h E
  generalize (sp l (m % 256)).1 = G at *
  generalize (sp l (m % 256)).2 = T at *
  generalize m % 256 = p at *
  generalize m / 256 = g at *
  have ho' : ¬ (n : Int) ≤ (p : Int) := by omega
  have ho2 : (p : Int) < (n : Int) := by omega
  clear FIN
  cases T with
  | true =>
    by_cases hg : g = G
    · subst hg
      rw [if_pos ⟨rfl, rfl⟩]
      go_enter Try.func19, Try.ntmps19
      go_wp2
      go_ret
      exact ⟨rfl, rfl⟩
    · have hg' : ((g : Int) == (G : Int)) = false := by simp; omega
      by_cases hl : g < G
      · rw [if_neg (by simp [hg]), if_pos hl]
        have hl' : (g : Int) < (G : Int) := by omega
        go_enter Try.func19, Try.ntmps19
        go_wp2
        go_ret
        exact ⟨rfl, rfl⟩
      · rw [if_neg (by simp [hg]), if_neg hl]
        have hl' : ¬ (g : Int) < (G : Int) := by omega
        go_enter Try.func19, Try.ntmps19
        go_wp2
        go_ret
        exact ⟨rfl, rfl⟩
  | false =>
    by_cases hl : g < G
    · rw [if_neg (by simp), if_pos hl]
      have hl' : (g : Int) < (G : Int) := by omega
      go_enter Try.func19, Try.ntmps19
      go_wp2
      go_ret
      exact ⟨rfl, rfl⟩
    · rw [if_neg (by simp), if_neg hl]
      have hl' : ¬ (g : Int) < (G : Int) := by omega
      go_enter Try.func19, Try.ntmps19
      go_wp2
      go_ret
      exact ⟨rfl, rfl⟩
theorem ris_any (h : Rf W wb gb kb n l) (m : Nat) (hm : m < 4294967296) :
    Calls Try.prog 19 #[.pointer (some ⟨wb, 0, none⟩), .int .i64 (m : Int)] W fun e w' => e = .returned (.int .i64 (isE l m)) ∧ w' = W := by
  by_cases ho : n ≤ m % 256
  · exact ris_out h m hm ho
  · exact ris_in h m hm (by omega)
def RGivePost (W : World) (wb gb kb n : Nat) (l : List Sp) (m : Nat) (e : Ending) (w' : World) : Prop :=
  e = .returned (.int .i64 (isE l m)) ∧ Rf w' wb gb kb n (gave l m) ∧ RT W w' gb kb
theorem rgive_no (h : Rf W wb gb kb n l) (m : Nat) (hm : m < 4294967296) (he : isE l m ≠ 0) :
    Calls Try.prog 18 #[.pointer (some ⟨wb, 0, none⟩), .int .i64 (m : Int)] W fun e w' => RGivePost W wb gb kb n l m e w' := by
  have I := hide (ris_any h m hm)
  have FIN : Hid (RGivePost W wb gb kb n l m (.returned (.int .i64 (isE l m))) W) := hide ⟨rfl, by unfold gave; rw [if_neg he]; exact h, RT.same _ _ _⟩
  generalize isE l m = E at *
  have hb : (E == 0) = false := by simpa using he
  go_enter Try.func18, Try.ntmps18
  go_wp2_with (go_at_call 19; refine I.out.mono ?_; rintro e w1 ⟨rfl, hw⟩; have hw2 := hw.symm; clear hw; subst hw2)
  go_ret
  exact FIN.out
theorem rgive_mid (h : Rf W wb gb kb n l) (p : Nat) (hp : p < n) (g : Nat) (hg : g < 16777216) :
    Rf ((W.setCell ⟨kb, p, none⟩ (.bool false)).setCell ⟨gb, p, none⟩ (.int .i64 (g : Nat))) wb gb kb n (l.set p (g, false)) ∧ RT W ((W.setCell ⟨kb, p, none⟩ (.bool false)).setCell ⟨gb, p, none⟩ (.int .i64 (g : Nat))) gb kb := by
  have hl := h.len
  have k1 := heap_setCell_same W kb p _ _ (.bool false) h.tak
  have g1 := (heap_setCell_other W ⟨kb, p, none⟩ gb (.bool false) h.gk).trans h.gen
  refine ⟨⟨?_, ?_, ?_, by simp [hl], h.hi, ?_⟩, ⟨rfl, rfl, rfl, by simp, fun k hk n1 n2 => (heap_setCell_other _ _ k _ n1).trans (heap_setCell_other W _ k _ n2)⟩⟩
  · exact (heap_setCell_other _ _ wb _ h.wg).trans ((heap_setCell_other W _ wb _ h.wk).trans h.str)
  · rw [heap_setCell_same _ gb p _ _ (.int .i64 (g : Nat)) g1, rowI_set l p (g, false) (by omega)]
  · rw [heap_setCell_other _ _ kb _ (fun e => h.gk e.symm), k1, rowB_set l p (g, false) (by omega)]
  · intro k
    rw [sp_set l p k _ (by omega)]
    split
    · exact hg
    · exact h.fit k
set_option maxHeartbeats 1600000 in
theorem rgive_ok (h : Rf W wb gb kb n l) (m : Nat) (hm : m < 4294967296) (he : isE l m = 0) :
    Calls Try.prog 18 #[.pointer (some ⟨wb, 0, none⟩), .int .i64 (m : Int)] W fun e w' => RGivePost W wb gb kb n l m e w' := by
  have I := hide (ris_any h m hm)
  rw [he] at I
  obtain ⟨k1, _, k3⟩ := is_ok he
  rw [h.len] at k1
  obtain ⟨m1, m2⟩ := rgive_mid h (m % 256) k1 ((m / 256 + 1) % 16777216) (by omega)
  have FIN : Hid (∀ w', w' = ((W.setCell ⟨kb, m % 256, none⟩ (.bool false)).setCell ⟨gb, m % 256, none⟩ (.int .i64 ((m / 256 + 1) % 16777216 : Nat))).drew → RGivePost W wb gb kb n l m (.returned (.int .i64 0)) w') := hide (fun w' hw => ⟨by rw [he], by unfold gave; rw [if_pos he, hw]; exact m1.kept rfl rfl rfl, by rw [hw]; exact ⟨m2.os, m2.tape, m2.output, m2.size, m2.block⟩⟩)
  obtain ⟨c0, c1⟩ := h.cells
  obtain ⟨a0, a1, z0, z1⟩ := h.item (m % 256) k1
  have e1 : (m : Int) % 256 = ((m % 256 : Nat) : Int) := by omega
  rw [k3] at a0
  have hg : m / 256 < 16777216 := by omega
  have wg := h.wg
  have wk := h.wk
  have gk := h.gk
  clear h he m1 m2
  generalize m % 256 = p at *
  generalize m / 256 = g at *
  have ho2 : (p : Int) < (n : Int) := by omega
  have hw1 : IntKind.i64.wrap ((g : Int) + 1) = (g : Int) + 1 := by rw [IntKind.wrap_i64]; omega
  have hw2 : ((g : Int) + 1).tmod 16777216 = (((g + 1) % 16777216 : Nat) : Int) := by rw [Int.tmod_eq_emod_of_nonneg (by omega)]; omega
  have hw3 : ((g : Int) + 1) % 16777216 = (((g + 1) % 16777216 : Nat) : Int) := by omega
  generalize (g + 1) % 16777216 = G at *
  go_enter Try.func18, Try.ntmps18
  go_wp2_with (go_at_call 19; refine I.out.mono ?_; rintro e w1 ⟨rfl, hw⟩; have hw' := hw.symm; clear hw; subst hw')
  go_region
  all_goals
    go_wp2
    go_ret
    exact FIN.out _ rfl
theorem rgive_any (h : Rf W wb gb kb n l) (m : Nat) (hm : m < 4294967296) :
    Calls Try.prog 18 #[.pointer (some ⟨wb, 0, none⟩), .int .i64 (m : Int)] W fun e w' => RGivePost W wb gb kb n l m e w' := by
  by_cases he : isE l m = 0
  · exact rgive_ok h m hm he
  · exact rgive_no h m hm he
end
end Go.Proofs.Ytmegbbgolmejnaa.Con
