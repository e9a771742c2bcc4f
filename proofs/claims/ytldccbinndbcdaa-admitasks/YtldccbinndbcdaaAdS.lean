/- slices.SortFunc at leavers, slices.SortedFunc, inOrder. -/
import Derived.Test.YtldccbinndbcdaaAdQ
import Derived.Test.YtldccbinndbcdaaShelf
import Derived.Shelf.SlSortCmp.NoneTotal
namespace Go.Proofs.Ytldccbinndbcdaa.Am
open Go.RowKit Go.Shelf Go.Lib Go.Sort Go.Proofs.Ytldccbinndbcdaa.Con Go.Proofs.Ytldccbinndbcdaa.Wn Go.Proofs.Ytldccbinndbcdaa.Fp
set_option linter.unusedVariables false
set_option linter.unusedSimpArgs false
instance : Inhabited En := ⟨⟨0, (0, 0), 0⟩⟩
theorem get_atL (L : List Lv) (i : Nat) : L.toArray[i]! = atL L i := by
  unfold atL
  rw [List.getElem!_toArray, List.getElem!_eq_getElem?_getD, List.getD_eq_getElem?_getD]; rfl
def cmpF (x y : Lv) : Int := Lib.compareInt x.2 y.2
theorem cmp_lt (x y : Lv) : ltOf cmpF x y = decide (x.2 < y.2) := by
  unfold ltOf cmpF Lib.compareInt
  by_cases h1 : x.2 < y.2
  · simp [h1]
  · by_cases h2 : y.2 < x.2 <;> simp [h1, h2]
theorem swoL : SWO (ltOf cmpF) where
  irrefl x := by rw [cmp_lt]; simp
  trans x y z h1 h2 := by rw [cmp_lt] at *; simp at *; omega
  ntrans x y z h1 h2 := by rw [cmp_lt] at *; simp at *; omega
set_option maxHeartbeats 2000000 in
theorem closure_any (x y : Lv) (W : World) : Calls Try.prog 42 #[lvV x, lvV y] W fun e w' => e = .returned (.int .i64 (cmpF x y)) ∧ ∃ q os', w' = grow (W.drewN q) os' := by
  have hcon := fun W' => Try.cmp_Compare_int x.2 y.2 W'
  change ∀ W', Calls Try.prog 43 _ _ (fun e w' => e = .returned (.int .i64 (cmpF x y)) ∧ w' = W') at hcon
  generalize cmpF x y = r at hcon ⊢
  go_enter Try.func42, Try.ntmps42
  go_wp2_with (go_at_call 43; refine (hcon _).mono ?_; rintro e w' ⟨rfl, rfl⟩)
  go_ret
  exact ⟨rfl, 0, _, by rw [alloc_eq_grow, alloc_eq_grow, grow_grow]; rfl⟩
theorem cmpLays_any (blk off size : Nat) (w : World) : CmpLays Try.prog 42 #[] encL 5 cmpF blk off size w :=
  fun _ _ _ _ x y => closure_any x y _
/-! A row of cells, as the sort has it. -/
theorem holdsV {w : World} {g : Nat} {cur : Array Value} {e : TypeId} {xs : List Value} (hb : w.heap[g]? = some (.cells cur e (0, 0))) (ht : cur.toList.take xs.length = xs) : Holds id w g 0 xs.toArray := by
  intro j hj
  have hj' : j < xs.length := by simpa using hj
  refine ⟨?_, by simp [World.frozen?, hb]⟩
  have h1 : (cur.toList.take xs.length)[j]? = xs[j]? := by rw [ht]
  rw [List.getElem?_take_of_lt hj'] at h1
  simp only [World.cell?, hb, Nat.zero_add]
  simp only [Option.isSome_none, Bool.false_eq_true, if_false]
  rw [← Array.getElem?_toList, h1]
  simp [hj']
theorem heapV {w : World} {g n : Nat} {os : Array Obj} {cur : Array Value} {e : TypeId} {fr : Nat × Nat} (d : Array Value) (hb : w.heap[g]? = some (.cells cur e fr)) :
    (grow (putRow id (Sort.ahead w n) g 0 d) os).heap[g]? = some (.cells (putCells id 0 d cur) e fr) := by
  have hg : g < w.heap.size := (Array.getElem?_eq_some_iff.1 hb).1
  rw [heap_grow_old _ _ (by simpa using hg)]
  simp [putRow, mapBlock, Sort.ahead, Array.getElem?_modify, hb, onCells]
theorem grownV {w : World} {g n : Nat} {os : Array Obj} (d : Array Value) : w.grownBy (grow (putRow id (Sort.ahead w n) g 0 d) os) (some g) := by
  refine ⟨rfl, rfl, rfl, by simp, fun k hk hne => ?_⟩
  rw [heap_grow_old _ _ (by simpa using hk)]
  have : g ≠ k := fun e => hne (by rw [e])
  simp [putRow, mapBlock, Sort.ahead, Array.getElem?_modify, this]
theorem takeV (cur : Array Value) (ts : List Value) (h : ts.length ≤ cur.size) : (putCells id 0 ts.toArray cur).toList.take ts.length = ts := by
  apply List.ext_getElem?
  intro j
  by_cases hj : j < ts.length
  · rw [List.getElem?_take_of_lt hj, Array.getElem?_toList]
    simp [putCells, hj, show j < cur.size by omega]
  · rw [List.getElem?_take_eq_none (by omega), List.getElem?_eq_none (by omega)]
theorem flatK_eq (L : List Lv) : flatK encL 5 L.toArray = (flatL L).toArray := by
  refine ext_get! (by rw [size_flatK]; simp [flatL_len]) fun t ht => ?_
  rw [size_flatK] at ht
  rw [get_flatK _ _ _ _ ht, get_atL]
  simp only [List.size_toArray] at ht
  obtain ⟨j, r, hr, rfl⟩ : ∃ j r, r < 5 ∧ t = j * 5 + r := ⟨t / 5, t % 5, by omega, by omega⟩
  have hj : j < L.length := by omega
  obtain ⟨g0, g1, g2, g3, g4⟩ := flatL_get L j _ (atL_eq hj)
  rw [show (j * 5 + r) / 5 = j by omega, show (j * 5 + r) % 5 = r by omega, List.getElem!_toArray, List.getElem!_eq_getElem?_getD, List.getElem!_eq_getElem?_getD]
  match r, hr with
  | 0, _ => rw [Nat.add_zero, g0]; rfl
  | 1, _ => rw [g1]; rfl
  | 2, _ => rw [g2]; rfl
  | 3, _ => rw [g3]; rfl
  | 4, _ => rw [g4]; rfl
theorem encL_one (x : Lv) : ∀ v ∈ encL x, v.oneCell' = true := by
  intro v hv
  simp only [encL, List.mem_cons, List.not_mem_nil, or_false] at hv
  rcases hv with rfl | rfl | rfl | rfl | rfl <;> rfl
/-- slices.SortFunc by number: the same leavers, sorted. -/
theorem sort_any {w : World} {base : Nat} {v : Value} {L : List Lv} (h : w.ownsRow base 79 5 v L.length (flatL L)) (hb : base ≤ w.heap.size) (hL : L.length ≤ 1000) :
    Calls Try.prog 51 #[v, .func (.func 42) #[] #[]] w fun e w' => e = .returned (.tuple #[]) ∧ ∃ D : List Lv, D.Perm L ∧ D.Pairwise (fun a b => a.2 ≤ b.2) ∧ w'.ownsRow base 79 5 v D.length (flatL D) ∧ Below base w w' := by
  by_cases h0 : L = []
  · subst h0
    obtain ⟨p, c, rfl⟩ := ownF h
    refine (AnyF.slices_SortFunc_none Try.sortLv p c _ w).mono fun e w' hh => ?_
    obtain ⟨rfl, rfl⟩ := hh
    exact ⟨rfl, [], List.Perm.refl _, List.Pairwise.nil, h, Below.refl _ _⟩
  · have hpos : 0 < L.length := List.length_pos_iff.2 h0
    obtain ⟨hlen, ⟨_, hz⟩ | ⟨g, cap, cur, rfl, hbg, hg, c1, c2, c3, c4⟩⟩ := h
    · omega
    rw [flatL_len] at hlen
    have hgl : g < w.heap.size := (Array.getElem?_eq_some_iff.1 hg).1
    have hH : HoldsK encL 5 w g 0 L.toArray := by
      unfold HoldsK
      rw [flatK_eq]
      exact holdsV hg (by rw [flatL_len]; exact c4)
    have hs : (flatL L).length = L.length * 5 := flatL_len L
    have hcon := AnyQ.slices_SortFunc Try.sortLv 5 Try.isAgg79 Try.sizeOf79 encL (fun _ => rfl) encL_one cmpF swoL 42 #[] g 0 cap L.toArray w
      (enters_of Try.func42 (by kernel_rfl) rfl) (cmpLays_any g 0 L.toArray.size w) hH hgl (by simp; omega)
    change Calls Try.prog 51 #[.slice (some ⟨g, 0, none⟩) L.length cap, .func (.func 42) #[] #[]] w _ at hcon
    refine hcon.mono fun e w' hh => ?_
    obtain ⟨he, d', n, os, hp, hso, rfl⟩ := hh
    obtain ⟨p1, _, p3⟩ := hp
    have hd : d' = d'.toList.toArray := by simp
    have hdl : d'.toList.length = L.length := by simpa using p1
    have hP : d'.toList.Perm L := by
      rw [← p1] at p3
      have e2 : (L.toArray.extract 0 d'.size) = L.toArray := by rw [p1]; simp
      rw [e2] at p3
      simpa using p3
    refine ⟨he, d'.toList, hP, ?_, ?_, ?_⟩
    · rw [List.pairwise_iff_getElem]
      intro i j hi hj hij
      have := hso i j (Nat.zero_le _) hij (by rw [← p1]; simpa using hj)
      rw [cmp_lt] at this
      have h2 : ¬ (d'[j]!).2 < (d'[i]!).2 := of_decide_eq_false this
      have gi : d'[i]! = d'.toList[i] := by rw [getElem!_pos d' i (by simpa using hi)]; simp
      have gj : d'[j]! = d'.toList[j] := by rw [getElem!_pos d' j (by simpa using hj)]; simp
      rw [gi, gj] at h2
      omega
    · have hfl : (flatL d'.toList).length ≤ cur.size := by rw [flatL_len, hdl, c3]; exact Nat.mul_le_mul_right _ c1
      have e1 : sortWorldK encL 5 w g 0 n d' os = grow (putRow id (Sort.ahead w n) g 0 (flatL d'.toList).toArray) os := by
        unfold sortWorldK putRowK
        rw [← flatK_eq, ← hd]
      rw [e1]
      refine ⟨by rw [flatL_len], .inr ⟨g, cap, _, by rw [hdl], hbg, heapV _ hg, by rw [hdl]; exact c1, c2, by simp [putCells, c3], ?_⟩⟩
      have := takeV cur (flatL d'.toList) hfl
      rwa [flatL_len] at this
    · exact Con.below_grown (RowKit.Below.refl base w) hb (grownV _) (fun k hk => by cases hk; exact hbg)
end Go.Proofs.Ytldccbinndbcdaa.Am
