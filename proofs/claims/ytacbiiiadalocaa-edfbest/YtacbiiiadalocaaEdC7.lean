/- Pick. -/
import Derived.Test.YtacbiiiadalocaaEdC6
import Derived.Sort.OwnSortedInts
namespace Go.Proofs.Ytacbiiiadalocaa.Ed
open Go.RowKit Go.Shelf Go.Lib Go.Sort Go.Proofs.Ytacbiiiadalocaa.Con
set_option linter.unusedVariables false
set_option linter.unusedSimpArgs false
attribute [local go_sem ↓] Go.wp_at_zero Go.wp_at_succ
/-! Ints in a block of their own. -/
def ib (n : Nat) (F : Nat → Int) : Array Value := ((List.range n).map fun j => Value.int .i64 (F j)).toArray
theorem ib_size (n : Nat) (F : Nat → Int) : (ib n F).size = n := by simp [ib]
theorem ib_get (n : Nat) (F : Nat → Int) (j : Nat) (h : j < n) : (ib n F)[j]? = some (.int .i64 (F j)) := by
  unfold ib
  rw [List.getElem?_toArray, List.getElem?_map, List.getElem?_range h]; rfl
theorem ib_ext {a : Array Value} {n : Nat} {F : Nat → Int} (hs : a.size = n) (h : ∀ j, j < n → a[j]? = some (.int .i64 (F j))) : a = ib n F := by
  apply Array.ext_getElem?
  intro j
  by_cases hj : j < n
  · rw [h j hj, ib_get n F j hj]
  · rw [Array.getElem?_eq_none (by omega), Array.getElem?_eq_none (by rw [ib_size]; omega)]
def In (W : World) (g n : Nat) (F : Nat → Int) : Prop := W.heap[g]? = some (.cells (ib n F) 3 (0, 0))
section
variable {W W' : World} {g n : Nat} {F G : Nat → Int}
theorem In.lt (h : In W g n F) : g < W.heap.size := (Array.getElem?_eq_some_iff.1 h).1
theorem In.cell (h : In W g n F) (j : Nat) (hj : j < n) : W.cell? ⟨g, j, none⟩ = some (.int .i64 (F j)) := by
  rw [cell_of_row W g j _ _ _ h, ib_get n F j hj]
theorem In.frozen (h : In W g n F) (j : Nat) : W.frozen? ⟨g, j, none⟩ = false := by
  unfold In at h
  simp [World.frozen?, h]
theorem In.congr (h : In W g n F) (hf : ∀ j, j < n → F j = G j) : In W g n G := by
  unfold In at h ⊢
  rw [h]; congr 2; exact ib_ext (ib_size n F) fun j hj => by rw [ib_get n F j hj, hf j hj]
theorem In.set (h : In W g n F) (k : Nat) (hk : k < n) (v : Int) : In (W.setCell ⟨g, k, none⟩ (.int .i64 v)) g n (fun j => if j = k then v else F j) := by
  have := heap_setCell_same W g k _ _ (.int .i64 v) h
  unfold In
  rw [this]
  congr 2
  apply ib_ext
  · simp [ib_size]
  · intro j hj
    by_cases e : j = k
    · subst e
      simp [ib_size, hj]
    · rw [Array.getElem?_setIfInBounds_ne (by omega), ib_get n F j hj]; simp [e]
theorem In.nx (h : In W g n F) (hB : Nx W W') : In W' g n F := (hB.block g h.lt).trans h
end
theorem In.made (W : World) (n : Nat) : In (W.alloc (.cells (madeCells #[.int .i64 0] n) 3)) W.heap.size n (fun _ => 0) := by
  have : madeCells #[.int .i64 0] n = ib n (fun _ => 0) := by
    refine ib_ext (size_madeCells _ _) fun j hj => ?_
    unfold madeCells
    simp [hj, Nat.mod_one]
  rw [this]; exact heap_alloc_new W _
def idF (R : List Et) (k : Nat) : Nat → Int := fun j => if j < k then (at' R j).1 else 0
theorem idF_next (R : List Et) (k j : Nat) : (if j = k then (at' R k).1 else idF R k j) = idF R (k + 1) j := by
  unfold idF
  rcases Nat.lt_trichotomy j k with h | h | h
  · rw [if_neg (by omega), if_pos h, if_pos (by omega)]
  · subst h; rw [if_pos rfl, if_pos (by omega)]
  · rw [if_neg (by omega), if_neg (by omega), if_neg (by omega)]
theorem ib_ids (R : List Et) : ib R.length (idF R R.length) = ((ids R).map (Value.int .i64)).toArray := by
  refine (ib_ext (by simp [ids]) fun j hj => ?_).symm
  unfold ids idF
  rw [List.getElem?_toArray, List.getElem?_map, List.getElem?_map, at_eq hj, if_pos hj]; rfl
/-- slices.Sort at ints in a block of their own. -/
theorem sortI_any {W : World} {g : Nat} {R : List Et} (h : In W g R.length (idF R R.length)) (hl : R.length ≤ 1000) :
    Calls Try.prog 28 #[.slice (some ⟨g, 0, none⟩) R.length R.length] W fun e w' => e = .returned (.tuple #[]) ∧ ∃ M : List Int, M.Perm (ids R) ∧ M.Pairwise (· ≤ ·) ∧ Hid (Is w' (.slice (some ⟨g, 0, none⟩) R.length R.length) M) ∧ Below g W w' := by
  have hb : W.heap[g]? = some (.cells ((ids R).map (Value.int .i64)).toArray 3 (0, 0)) := by
    unfold In at h; rw [h, ib_ids]
  have hlen : (ids R).length = R.length := by simp [ids]
  have hcon := Any.slices_Sort_int Try.sortInts g 0 R.length (ids R) W (holds_of_blockI hb (by show List.take _ _ = _; rw [List.take_of_length_le (by simp)])) h.lt (by omega)
  rw [hlen] at hcon
  change Calls Try.prog 28 #[.slice (some ⟨g, 0, none⟩) R.length R.length] W _ at hcon
  refine hcon.mono fun e w' hh => ?_
  obtain ⟨he, n, os, rfl⟩ := hh
  refine ⟨he, (ids R).mergeSort fun x y => decide (x ≤ y), List.mergeSort_perm _ _, ?_, hide ?_, ?_⟩
  · have := List.pairwise_mergeSort (le := fun x y : Int => decide (x ≤ y)) (fun a b c h1 h2 => by simp at *; omega) (fun a b => by simp; omega) (ids R)
    exact this.imp fun {a b} hh => by simpa using hh
  · have hml : ((ids R).mergeSort fun x y => decide (x ≤ y)).length = (ids R).length := List.length_mergeSort _
    have := ownsRow_sortedI (w := W) (base := g) (g := g) (cap := R.length) (n := n) (os := os) hml (Nat.le_refl _) hb (by rw [hlen]; omega) (by unfold maxLen; omega) (by simp [hlen])
    rw [hlen] at this
    have h2 := RdC.own this
    show RdC _ _ 1 _ (List.length _) (ivs _)
    rw [hml, hlen]
    exact h2
  · exact Con.below_grown (RowKit.Below.refl g W) (Nat.le_of_lt h.lt) (grownBy_sortedI _) (fun k hk => by cases hk; exact Nat.le_refl _)
set_option maxRecDepth 100000 in
set_option maxHeartbeats 8000000 in
theorem lpick_of (HSP : Hid SplitC) : PickC := by
  intro m L v W h hl
  have HSW := hide (HSP.out _ v L h hl m)
  clear h
  obtain ⟨i0, hi, hz0, hz1, hz2⟩ := info_parts infoInt
  go_enter Try.func14, Try.ntmps14
  go_wp2_with fail
  refine HSW.out.mono ?_
  rintro e w2 ⟨v1, v2, R, S, rfl, h1, h2, hs, hb⟩
  have N2 := hide hb
  obtain ⟨p2, c2, rfl, hn, hm⟩ := h1.out.form
  have hsl : R.length ≤ 64 := (sp_len hs.out).1
  have HS := hs
  have B0 := hide (In.made w2 R.length)
  have N3 := hide (Nx.alloc w2 (.cells (madeCells #[.int .i64 0] R.length) 3))
  clear hb HSW h2 hs
  go_wp2_with (refine wpList_make_row _ rfl _ _ 32 rfl 3 i0 (.int .i64 0) Try.underlying32 hi hz0 hz1 rfl .i64 .i64 R.length rfl rfl (by rw [hz2]; omega) (by omega) ?_)
  clear hi hz0 hz1 hz2
  generalize w2.alloc (.cells (madeCells #[.int .i64 0] R.length) 3) = W3 at *
  obtain ⟨g, hgg⟩ : ∃ g, w2.heap.size = g := ⟨_, rfl⟩
  have HGE : Hid (w2.heap.size ≤ g) := hide (by omega)
  rw [hgg] at B0
  rw [hgg]
  clear hgg
  have B1 : Hid (In W3 g R.length (idF R 0)) := hide (B0.out.congr fun j _ => (if_neg (by omega)).symm)
  clear B0
  go_wp2
  go_loopw [8, 9, 21] (fun _ _ i wr => ∃ k : Nat, k ≤ R.length ∧ i = .int .i64 (k : Int) ∧ Hid (In wr g R.length (idF R k)) ∧ Hid (Nx w2 wr)) (fun _ _ i _ => R.length - (intOf i).toNat)
  case atStart => exact ⟨0, by omega, rfl, B1, N3⟩
  case round =>
    obtain ⟨k, hk, rfl, HI, HN⟩ := hrel
    by_cases hkn : k < R.length
    · have hk1 : (k : Int) < (R.length : Int) := by omega
      obtain ⟨b, o, rfl, hb, x0, x1, x2⟩ := (h1.out.below HN.out).at hkn
      have HI2 := hide (((HI.out.set k hkn (at' R k).1).congr (fun j _ => idF_next R k j)).nx (Nx.alloc _ (.cells #[.int .i64 (at' R k).1, .int .i64 (at' R k).2.1, .bool (at' R k).2.2] 24)))
      have HN2 := hide ((nx_set (k := k) HN.out HGE.out (.int .i64 (at' R k).1)).trans (Nx.alloc _ (.cells #[.int .i64 (at' R k).1, .int .i64 (at' R k).2.1, .bool (at' R k).2.2] 24)))
      have hc := HI.out.cell k hkn
      have hz := HI.out.frozen k
      have hgl := HI.out.lt
      generalize (at' R k).1 = y0 at *
      generalize (at' R k).2.1 = y1 at *
      generalize (at' R k).2.2 = y2 at *
      go_wp2
      go_round
      case rel => exact ⟨k + 1, by omega, by go_num, HI2, HN2⟩
      case measure => simp [intOf]; omega
    · obtain rfl : k = R.length := by omega
      have HSI := hide (sortI_any HI.out (by omega))
      go_wp2_with (go_at_call 28; refine HSI.out.mono ?_; rintro e w5 ⟨rfl, M, M1, M2, M3, n5⟩; have HP := hide (sp_pick HS.out M1 M2); have HN5 := hide (Below.trans N2.out (Below.mono (Below.trans HN.out (Below.mono n5 HGE.out)) N2.out.size)); have HM := M3; clear M1 M2 n5 M3)
      go_ret
      exact ⟨_, rfl, hide (by rw [← HP.out]; exact HM.out), HN5.out⟩
end Go.Proofs.Ytacbiiiadalocaa.Ed
