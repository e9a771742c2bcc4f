/- What the reference's Of, List and Word of a set of flags answer. -/
import Derived.Test.YtpibejjhldnplaaDoorMAwake
import Derived.Test.YtpibejjhldnplaaDoorMSetsW
import Derived.Deep.WholeRow
namespace Go.Proofs.YtpibejjhldnplaaDoor.Con
open Go.RowKit Go.Proofs.YtpibejjhldnplaaDoor.Mk
set_option linter.unusedVariables false

/-- A word's flags, as cells. -/
def flags (s : Nat) : Array Value := ((List.range 64).map fun j => Value.bool (s.testBit j)).toArray
theorem flags_size (s : Nat) : (flags s).size = 64 := by simp [flags]
theorem flags_get (s j : Nat) (h : j < 64) : (flags s)[j]? = some (.bool (s.testBit j)) := by
  unfold flags
  rw [List.getElem?_toArray, List.getElem?_map, List.getElem?_range h]; rfl
theorem flags_one (s : Nat) : (flags s).all (·.oneCell') = true := by
  rw [Array.all_eq_true_iff_forall_mem]
  intro v hv
  simp [flags] at hv
  obtain ⟨j, _, rfl⟩ := hv
  rfl
theorem flags_ext {a : Array Value} {s : Nat} (hs : a.size = 64) (h : ∀ j, j < 64 → a[j]? = some (.bool (s.testBit j))) : a = flags s := by
  apply Array.ext_getElem?
  intro j
  by_cases hj : j < 64
  · rw [h j hj, flags_get s j hj]
  · rw [Array.getElem?_eq_none (by omega), Array.getElem?_eq_none (by rw [flags_size]; omega)]
/-- The flags of a word, a block of their own. -/
def Arr (W : World) (g s : Nat) : Prop := W.heap[g]? = some (.cells (flags s) 34 (0, 0))
theorem Arr.lt {W : World} {g s : Nat} (h : Arr W g s) : g < W.heap.size := (Array.getElem?_eq_some_iff.1 h).1
theorem Arr.cell {W : World} {g s : Nat} (h : Arr W g s) (j : Nat) (hj : j < 64) : W.cell? ⟨g, j, none⟩ = some (.bool (s.testBit j)) := by
  rw [cell_of_row W g j _ _ _ h, flags_get s j hj]
theorem Arr.frozen {W : World} {g s : Nat} (h : Arr W g s) (j : Nat) : W.frozen? ⟨g, j, none⟩ = false := by
  unfold Arr at h
  simp [World.frozen?, h]
theorem Arr.set {W : World} {g s : Nat} (h : Arr W g s) (hs : s < 18446744073709551616) (t : Nat) (ht : t < 64) (v : Bool) : Arr (W.setCell ⟨g, t, none⟩ (.bool v)) g (putN s t v) := by
  have := heap_setCell_same W g t _ _ (.bool v) h
  unfold Arr
  rw [this]
  congr 2
  apply flags_ext
  · simp [flags_size]
  · intro j hj
    rw [putN_bit s t v hs j hj]
    by_cases e : j = t
    · subst e
      rw [if_pos rfl]
      simp [flags_size, hj]
    · rw [if_neg (by omega), Array.getElem?_setIfInBounds_ne (by omega), flags_get s j hj]
theorem Arr.other {W : World} {g s : Nat} (h : Arr W g s) (a : Addr) (hne : g ≠ a.block) (v : Value) : Arr (W.setCell a v) g s := by
  unfold Arr
  rw [heap_setCell_other W a g v hne]; exact h
theorem Arr.below {W W' : World} {g s n : Nat} (h : Arr W g s) (hb : Below n W W') (hg : g < n) : Arr W' g s := (hb.block g hg).trans h
theorem Arr.alloc {W : World} {g s : Nat} (h : Arr W g s) (o : Obj) : Arr (W.alloc o) g s := (Below.heap_alloc W o g h.lt).trans h
theorem Arr.new (W : World) (s : Nat) : Arr (W.alloc (.cells (flags s) 34)) W.heap.size s := heap_alloc_new W _
theorem Arr.at (W : World) (g s : Nat) (hg : g = W.heap.size) : Arr (W.alloc (.cells (flags s) 34)) g s := by subst hg; exact Arr.new W s
theorem Arr.row {W : World} {g s : Nat} (t : Nat) (h : Arr W g s) : Arr (W.setRow g (flags t)) g t := setRow_heap W g (flags s) (flags t) _ _ h
theorem below_setRow {B : Nat} {a w : World} (h : Below B a w) {g : Nat} (hg : B ≤ g) (cs : Array Value) : Below B a (w.setRow g cs) :=
  h.trans ⟨rfl, rfl, rfl, by simp, fun k hk => setRow_other w g k cs (by omega)⟩
theorem Arr.grown {W W' : World} {g s : Nat} {row : Option Nat} (h : Arr W g s) (hg : W.grownBy W' row) (hne : some g ≠ row) : Arr W' g s := (hg.block g h.lt hne).trans h
theorem flags_zero : flags 0 = Array.replicate 64 (.bool false) := by
  apply Array.ext_getElem?
  intro j
  by_cases hj : j < 64
  · rw [flags_get 0 j hj]; simp [hj]
  · rw [Array.getElem?_eq_none (by rw [flags_size]; omega), Array.getElem?_eq_none (by simp; omega)]
theorem underSet : Tryd.prog.underlying 34 = some (.array 64 4) := by kernel_rfl
theorem sizeSet (s : Nat) : (Tryd.prog.info? 34).map (·.size) = some (flags s).size := by rw [flags_size]; kernel_rfl

theorem mod_bit (m k j : Nat) : (m % 2 ^ k).testBit j = (decide (j < k) && m.testBit j) := Nat.testBit_mod_two_pow m k j
theorem of_step (m k : Nat) (hm : m < 18446744073709551616) (hk : k < 64) : putN (m % 2 ^ k) k (decide (m / 2 ^ k % 2 = 1)) = m % 2 ^ (k + 1) := by
  have hb : decide (m / 2 ^ k % 2 = 1) = m.testBit k := by
    rw [Nat.testBit_eq_decide_div_mod_eq]
  have hl : m % 2 ^ k < 18446744073709551616 := Nat.lt_of_le_of_lt (Nat.mod_le _ _) hm
  have hl' : m % 2 ^ (k + 1) < 18446744073709551616 := Nat.lt_of_le_of_lt (Nat.mod_le _ _) hm
  apply word_ext (putN_lt _ _ hl) hl'
  intro j hj
  rw [putN_bit _ _ _ hl j hj, mod_bit, mod_bit, hb]
  by_cases e : j = k
  · subst e; simp
  · rw [if_neg (by omega)]
    by_cases h : j < k
    · rw [decide_eq_true h, decide_eq_true (by omega)]
    · rw [decide_eq_false h, decide_eq_false (by omega)]

set_option maxRecDepth 100000 in
set_option maxHeartbeats 1000000 in
theorem refOf_any (m : Nat) (w : World) (hm : m < 18446744073709551616) :
    Calls Tryd.prog 19 #[.int .u64 m] w fun e w' => e = .returned (.agg (flags m)) ∧ Below w.heap.size w w' := by
  go_enter Tryd.func19, Tryd.ntmps19
  go_wp2
  go_loopw [0, 4] (fun x i wr => ∃ k : Nat, k ≤ 64 ∧ i = .int .i64 k ∧ x = .int .u64 ((m / 2 ^ k : Nat) : Int) ∧ Arr wr (w.heap.size + 1) (m % 2 ^ k) ∧ Arr wr w.heap.size 0 ∧ Below w.heap.size w wr) (fun _ i _ => 64 - (intOf i).toNat)
  case atStart =>
    refine ⟨0, by omega, rfl, by simp, ?_, ?_, ?_⟩
    · have := Arr.at (w.alloc (.cells (flags 0) 34)) (w.heap.size + 1) 0 (by simp)
      rw [flags_zero] at this
      rw [Nat.pow_zero, Nat.mod_one]
      exact this
    · have := (Arr.new w 0).alloc (.cells (flags 0) 34)
      rw [flags_zero] at this
      exact this
    · exact ((Below.refl _ w).alloc (Nat.le_refl _) _).alloc (by simp) _
  case round =>
    obtain ⟨k, hk, rfl, rfl, h1, h0, hB⟩ := hrel
    by_cases hlt : k < 64
    · have hq : m / 2 ^ k / 2 = m / 2 ^ (k + 1) := by rw [Nat.pow_succ, Nat.div_div_eq_div_mul]
      have hst := hide (of_step m k hm hlt)
      have hq' := hide hq
      have hx : m / 2 ^ k < 18446744073709551616 := Nat.lt_of_le_of_lt (Nat.div_le_self _ _) hm
      have hc := h1.cell k hlt
      have hf := h1.frozen k
      have hA1 := hide h1
      have hA0 := hide h0
      have hBb := hide hB
      clear hq h1 h0 hB
      generalize m / 2 ^ k = x at *
      have he : ((x : Int) % 2 == 1) = decide (x % 2 = 1) := by rw [Bool.eq_iff_iff]; simp; omega
      have he' := hide he
      clear he
      go_wp2
      go_roundw
      case rel =>
        refine ⟨k + 1, by omega, by go_num, by rw [← unhide hq']; simp, ?_, (unhide hA0).other _ (by simp) _, (unhide hBb).setCell (p := ⟨w.heap.size + 1, k, none⟩) (by simp) _⟩
        rw [← unhide hst, unhide he']
        exact (unhide hA1).set (Nat.lt_of_le_of_lt (Nat.mod_le _ _) hm) k hlt _
      case measure => simp [intOf]; omega
    · obtain rfl : k = 64 := by omega
      have e : m % 2 ^ 64 = m := Nat.mod_eq_of_lt (by simpa using hm)
      rw [e] at h1
      have hA1 := hide h1
      have hA0 := hide h0
      have hBb := hide hB
      clear e h1 h0 hB
      generalize m / 2 ^ 64 = x
      go_wp2_with (first
        | (refine wpList_load_row rfl 34 (.tmp 3) rfl (w.heap.size + 1) rfl _ (flags m) (0, 0) _ (unhide hA1) underSet rfl (sizeSet m) ?_)
        | (refine wpList_store_row rfl 34 (.tmp 2) (.tmp 16) rfl w.heap.size (flags m) rfl rfl _ (flags 0) (unhide hA0) (sizeSet m) (by rw [flags_size, flags_size]) (flags_one m) ?_))
      refine bodyPost_ret (v := .agg (flags m)) ?_ rfl ⟨rfl, below_setRow (unhide hBb) (Nat.le_refl _) _⟩
      exact results_cell_row (p := 2) (ty := 34) Tryd.results19 _ _ w.heap.size 34 (flags m) (0, 0) _ rfl ((unhide hA0).row m) underSet rfl (sizeSet m)

/-- One round of the reference's List. -/
theorem refList_step {m k : Nat} {w wr w1 : World} {v v' : Value} {o : Obj} (hb : m.testBit k = true)
    (hA : Arr wr w.heap.size m) (hown : (wr.alloc o).ownsRow (w.heap.size + 1) 3 1 v (onesTo m k).length (numsV (onesTo m k))) (hB : Below w.heap.size w wr) (hsz : w.heap.size < wr.heap.size)
    (hown' : w1.ownsRow (w.heap.size + 1) 3 1 v' ((onesTo m k).length + 1) (numsV (onesTo m k) ++ [.int .i64 k])) (hg : (wr.alloc o).grownBy w1 v.ownBlock) :
    w1.ownsRow (w.heap.size + 1) 3 1 v' (onesTo m (k + 1)).length (numsV (onesTo m (k + 1))) ∧ Arr w1 w.heap.size m ∧ Below w.heap.size w w1 ∧ w.heap.size < w1.heap.size := by
  refine ⟨?_, ?_, ?_, ?_⟩
  · rw [onesTo_succ, if_pos hb, List.length_append, numsV, List.map_append]; exact hown'
  · exact (hA.alloc o).grown hg (fun e => by have := (hown.lt _ e.symm).1; omega)
  · exact (hB.alloc hB.size o).grown hg (by have := hB.size; simp; omega) (fun k hk => by have := (hown.lt k hk).1; omega)
  · have := hg.size; simp at this; omega

set_option maxRecDepth 100000 in
set_option maxHeartbeats 1000000 in
theorem refList_any (m : Nat) (w : World) (hm : m < 18446744073709551616) :
    Calls Tryd.prog 20 #[.agg (flags m)] w fun e w' => ∃ v, e = .returned v ∧ Ints w' v ((ones m).map fun j : Nat => (j : Int)) ∧ Below w.heap.size w w' := by
  obtain ⟨i0, hi, hz0, hz1, hz2⟩ := info_parts infoInt
  go_enter Tryd.func20, Tryd.ntmps20
  go_wp2
  go_loopw [3, 4] (fun v i wr => ∃ k : Nat, k ≤ 64 ∧ i = .int .i64 k ∧ wr.ownsRow (w.heap.size + 1) 3 1 v (onesTo m k).length (numsV (onesTo m k)) ∧ Arr wr w.heap.size m ∧ Below w.heap.size w wr ∧ w.heap.size < wr.heap.size) (fun _ i _ => 64 - (intOf i).toNat)
  case atStart => exact ⟨0, by omega, rfl, World.ownsRow_nil _ _ _ _, Arr.new w m, (Below.refl _ w).alloc (Nat.le_refl _) _, by simp⟩
  case round =>
    obtain ⟨k, hk, rfl, hown, hA, hB, hsz⟩ := hrel
    have hle : (onesTo m k).length ≤ 64 := by
      have h1 := lenN_le m
      have h2 := ones_split m k hk
      unfold lenN at h1
      rw [h2, List.length_append] at h1
      omega
    by_cases hlt : k < 64
    · have hc := hA.cell k hlt
      cases hb : m.testBit k
      · rw [hb] at hc
        have hR := hide (And.intro hA hB)
        have hs := hide (show onesTo m (k + 1) = onesTo m k by rw [onesTo_succ, hb]; rfl)
        have hown' := hide hown
        clear hA hB hb hown
        go_wp2
        go_roundw
        case rel => exact ⟨k + 1, by omega, by go_num, by rw [unhide hs]; exact unhide hown', (unhide hR).1, (unhide hR).2, hsz⟩
        case measure => simp [intOf]; omega
      · rw [hb] at hc
        have hb' := hide hb
        have hA' := hide hA
        clear hb hA
        go_wp2_with (first
          | (at_builtin; refine wpList_append_own _ rfl _ _ 32 rfl (w.heap.size + 1) 3 i0 (.int .i64 0) 1 8 Tryd.underlying32 hi hz0 hz1 hz2 rfl (by decide) _ _ _ rfl (hown.alloc _) ⟨wr.heap.size, 0, none⟩ 1 1 [.int .i64 (k : Int)] rfl rfl ?c1 ?c2 ?c3 ?c4 ?c5 ?_))
        case c1 =>
          intro t u hj
          match t, hj with
          | 0, hj => simp at hj; subst hj; simp [Addr.add]
        case c2 => intro u hu; simp at hu; subst hu; rfl
        case c3 => unfold maxLen; omega
        case c4 => omega
        case c5 => simp; omega
        intro v' w1 hown' hgrow _
        have R := hide (refList_step (unhide hb') (unhide hA') (hown.alloc _) hB hsz hown' hgrow)
        clear hown' hgrow hown hB
        go_wp2
        go_roundw
        case rel => exact ⟨k + 1, by omega, by go_num, unhide R⟩
        case measure => simp [intOf]; omega
    · obtain rfl : k = 64 := by omega
      have e : onesTo m 64 = ones m := by rw [ones_split m 64 (by omega), onesFrom_ge m 64 (by omega), List.append_nil]
      rw [e] at hown
      have hI := hide (ints_of_row hown)
      have hB' := hide hB
      clear e hown hB hA
      go_wp2
      go_ret
      exact ⟨_, rfl, unhide hI, unhide hB'⟩

theorem word_step (m k : Nat) (hk : 1 ≤ k) : m / 2 ^ (k - 1) = 2 * (m / 2 ^ k) + (if m.testBit (k - 1) then 1 else 0) := by
  obtain ⟨j, rfl⟩ : ∃ j, k = j + 1 := ⟨k - 1, by omega⟩
  rw [Nat.add_sub_cancel, Nat.pow_succ, ← Nat.div_div_eq_div_mul, Nat.testBit_eq_decide_div_mod_eq]
  generalize m / 2 ^ j = x
  by_cases h : x % 2 = 1
  · simp [h]; omega
  · simp [h]; omega
theorem div_lt (m k : Nat) (hm : m < 18446744073709551616) (hk : 1 ≤ k) : m / 2 ^ k < 9223372036854775808 := by
  have h1 : m / 2 ^ k ≤ m / 2 ^ 1 := Nat.div_le_div_left (Nat.pow_le_pow_right (by decide) hk) (by decide)
  have h2 : m / 2 ^ 1 = m / 2 := by rw [Nat.pow_one]
  omega

set_option maxRecDepth 100000 in
set_option maxHeartbeats 1000000 in
theorem refWord_any (m : Nat) (w : World) (hm : m < 18446744073709551616) :
    Calls Tryd.prog 25 #[.agg (flags m)] w fun e w' => e = .returned (.int .u64 m) ∧ Below w.heap.size w w' := by
  go_enter Tryd.func25, Tryd.ntmps25
  go_wp2
  have hA := hide (Arr.new w m)
  have hB := hide (show Below w.heap.size w (w.alloc (.cells (flags m) 34)) from (Below.refl _ w).alloc (Nat.le_refl _) _)
  go_loop [3, 4] (fun x i => ∃ k : Nat, k ≤ 64 ∧ i = .int .i64 ((k : Int) - 1) ∧ x = .int .u64 ((m / 2 ^ k : Nat) : Int)) (fun _ i => (intOf i + 1).toNat)
  case atStart => exact ⟨64, by omega, rfl, by rw [Nat.div_eq_of_lt (by simpa using hm)]; rfl⟩
  case round =>
    obtain ⟨k, hk, rfl, rfl⟩ := hrel
    by_cases h0 : 1 ≤ k
    · obtain ⟨j, rfl⟩ : ∃ j, k = j + 1 := ⟨k - 1, by omega⟩
      have hj : j < 64 := by omega
      have hc := (unhide hA).cell j hj
      have hst := hide (word_step m (j + 1) h0)
      have hlt := div_lt m (j + 1) hm h0
      rw [Nat.add_sub_cancel] at hst
      generalize m / 2 ^ (j + 1) = y at *
      have ei : (((j + 1 : Nat) : Int) - 1) = (j : Int) := by omega
      rw [ei]
      clear ei
      cases hb : m.testBit j
      · rw [hb] at hc hst
        clear hb
        go_wp2
        go_round
        case rel => exact ⟨j, by omega, rfl, by rw [unhide hst]; simp⟩
        case measure => simp [intOf]
      · rw [hb] at hc hst
        clear hb
        go_wp2
        go_round
        case rel => exact ⟨j, by omega, rfl, by rw [unhide hst]; simp⟩
        case measure => simp [intOf]
    · obtain rfl : k = 0 := by omega
      go_wp2
      go_ret
      exact ⟨ret_u64 (by simp), unhide hB⟩
end Go.Proofs.YtpibejjhldnplaaDoor.Con
