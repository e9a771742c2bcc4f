/- SortFunc by turn; split. -/
import Derived.Test.YtacbiiiadalocaaEdC2
import Derived.Test.YtacbiiiadalocaaEdC3
import Derived.Shelf.SlSortCmp.WholeK
namespace Go.Proofs.Ytacbiiiadalocaa.Ed
open Go.RowKit Go.Shelf Go.Lib Go.Sort Go.Proofs.Ytacbiiiadalocaa.Con
set_option linter.unusedVariables false
set_option linter.unusedSimpArgs false
def encE (x : Et) : List Value := [.int .i64 x.1, .int .i64 x.2.1, .bool x.2.2]
theorem get_arrE (L : List Et) (i : Nat) : L.toArray[i]! = at' L i := by
  rw [List.getElem!_toArray]; exact get_atE L i
theorem ltT (x y : Et) : ltOf cfT x y = bef x y := cfT_lt x y
theorem swoT : SWO (ltOf cfT) where
  irrefl x := by rw [ltT]; exact bef_irr x
  trans x y z h1 h2 := by rw [ltT] at *; exact bef_trans h1 h2
  ntrans x y z h1 h2 := by
    rw [ltT, Bool.eq_false_iff] at *
    rw [ne_eq, bef_iff] at *
    cases hx : x.2.2 <;> cases hy : y.2.2 <;> cases hz : z.2.2 <;> simp only [hx, hy, hz] at h1 h2 ⊢ <;> simp at h1 h2 ⊢ <;> omega
theorem cmpLays_any (blk off size : Nat) (w : World) : CmpLays Try.prog 35 #[] encE 3 cfT blk off size w :=
  fun _ _ _ _ x y => byTurn_any x y _
/-! A row of cells, as the sort has it. -/
theorem holdsV {w : World} {g : Nat} {cur : Array Value} {e : TypeId} {xs : List Value} (hb : w.heap[g]? = some (.cells cur e (0, 0))) (ht : cur.toList.take xs.length = xs) : Holds id w g 0 xs.toArray := by
  intro j hj
  have hj' : j < xs.length := by simpa using hj
  refine ⟨?_, by simp [World.frozen?, hb]⟩
  have h1 : (cur.toList.take xs.length)[j]? = xs[j]? := by rw [ht]
  rw [List.getElem?_take_of_lt hj'] at h1
  simp only [World.cell?, hb, Nat.zero_add]
  simp only [Option.isSome_none, Bool.false_eq_true, if_false]
  rw [← Array.getElem?_toList, h1]
  simp [hj']
theorem heapV {w : World} {g n : Nat} {os : Array Obj} {cur : Array Value} {e : TypeId} {fr : Nat × Nat} (d : Array Value) (hb : w.heap[g]? = some (.cells cur e fr)) :
    (grow (putRow id (Sort.ahead w n) g 0 d) os).heap[g]? = some (.cells (putCells id 0 d cur) e fr) := by
  have hg : g < w.heap.size := (Array.getElem?_eq_some_iff.1 hb).1
  rw [heap_grow_old _ _ (by simpa using hg)]
  simp [putRow, mapBlock, Sort.ahead, Array.getElem?_modify, hb, onCells]
theorem grownV {w : World} {g n : Nat} {os : Array Obj} (d : Array Value) : w.grownBy (grow (putRow id (Sort.ahead w n) g 0 d) os) (some g) := by
  refine ⟨rfl, rfl, rfl, by simp, fun k hk hne => ?_⟩
  rw [heap_grow_old _ _ (by simpa using hk)]
  have : g ≠ k := fun e => hne (by rw [e])
  simp [putRow, mapBlock, Sort.ahead, Array.getElem?_modify, this]
theorem takeV (cur : Array Value) (ts : List Value) (h : ts.length ≤ cur.size) : (putCells id 0 ts.toArray cur).toList.take ts.length = ts := by
  apply List.ext_getElem?
  intro j
  by_cases hj : j < ts.length
  · rw [List.getElem?_take_of_lt hj, Array.getElem?_toList]
    simp [putCells, hj, show j < cur.size by omega]
  · rw [List.getElem?_take_eq_none (by omega), List.getElem?_eq_none (by omega)]
theorem flatK_eq (L : List Et) : flatK encE 3 L.toArray = (flatE L).toArray := by
  refine ext_get! (by rw [size_flatK]; simp [flatE_len]) fun t ht => ?_
  rw [size_flatK] at ht
  rw [get_flatK _ _ _ _ ht, get_arrE]
  simp only [List.size_toArray] at ht
  obtain ⟨j, r, hr, rfl⟩ : ∃ j r, r < 3 ∧ t = j * 3 + r := ⟨t / 3, t % 3, by omega, by omega⟩
  have hj : j < L.length := by omega
  obtain ⟨g0, g1, g2⟩ := flatE_get L j _ (at_eq hj)
  rw [show (j * 3 + r) / 3 = j by omega, show (j * 3 + r) % 3 = r by omega, List.getElem!_toArray, List.getElem!_eq_getElem?_getD, List.getElem!_eq_getElem?_getD]
  match r, hr with
  | 0, _ => rw [Nat.add_zero, g0]; rfl
  | 1, _ => rw [g1]; rfl
  | 2, _ => rw [g2]; rfl
theorem encE_one (x : Et) : ∀ v ∈ encE x, v.oneCell' = true := by
  intro v hv
  simp only [encE, List.mem_cons, List.not_mem_nil, or_false] at hv
  rcases hv with rfl | rfl | rfl <;> rfl
/-- slices.SortFunc by turn: the same entries, each by turn. -/
theorem sort_pos {w : World} {base : Nat} {v : Value} {L : List Et} (h0 : L ≠ []) (h : Ow base w v L) (hb : base ≤ w.heap.size) (hL : L.length ≤ 1000) :
    Calls Try.prog 34 #[v, .func (.func 35) #[] #[]] w fun e w' => e = .returned (.tuple #[]) ∧ ∃ D : List Et, Srt D L ∧ Hid (Ow base w' v D) ∧ Below base w w' := by
  have hpos : 0 < L.length := List.length_pos_iff.2 h0
  obtain ⟨hlen, ⟨_, hz⟩ | ⟨g, cap, cur, rfl, hbg, hg, c1, c2, c3, c4⟩⟩ := h
  · omega
  rw [flatE_len] at hlen
  have hgl : g < w.heap.size := (Array.getElem?_eq_some_iff.1 hg).1
  have hH : HoldsK encE 3 w g 0 L.toArray := by
    unfold HoldsK
    rw [flatK_eq]
    exact holdsV hg (by rw [flatE_len]; exact c4)
  have hs : (flatE L).length = L.length * 3 := flatE_len L
  have hcon := AnyQ.slices_SortFunc Try.sortEt 3 Try.isAgg24 Try.sizeOf24 encE (fun _ => rfl) encE_one cfT swoT 35 #[] g 0 cap L.toArray w
    (enters_of Try.func35 (by kernel_rfl) rfl) (cmpLays_any g 0 L.toArray.size w) hH hgl (by simp; omega)
  change Calls Try.prog 34 #[.slice (some ⟨g, 0, none⟩) L.length cap, .func (.func 35) #[] #[]] w _ at hcon
  refine hcon.mono fun e w' hh => ?_
  obtain ⟨he, d', n, os, hp, hso, rfl⟩ := hh
  obtain ⟨p1, _, p3⟩ := hp
  have hd : d' = d'.toList.toArray := by simp
  have hdl : d'.toList.length = L.length := by simpa using p1
  have hP : d'.toList.Perm L := by
    rw [← p1] at p3
    have e2 : (L.toArray.extract 0 d'.size) = L.toArray := by rw [p1]; simp
    rw [e2] at p3
    simpa using p3
  refine ⟨he, d'.toList, ⟨hP, ?_⟩, hide ?_, ?_⟩
  · rw [List.pairwise_iff_getElem]
    intro i j hi hj hij
    have := hso i j (Nat.zero_le _) hij (by rw [← p1]; simpa using hj)
    rw [ltT] at this
    have gi : d'[i]! = d'.toList[i] := by rw [getElem!_pos d' i (by simpa using hi)]; simp
    have gj : d'[j]! = d'.toList[j] := by rw [getElem!_pos d' j (by simpa using hj)]; simp
    rwa [gi, gj] at this
  · have hfl : (flatE d'.toList).length ≤ cur.size := by rw [flatE_len, hdl, c3]; exact Nat.mul_le_mul_right _ c1
    have e1 : sortWorldK encE 3 w g 0 n d' os = grow (putRow id (Sort.ahead w n) g 0 (flatE d'.toList).toArray) os := by
      unfold sortWorldK putRowK
      rw [← flatK_eq, ← hd]
    rw [e1]
    refine ⟨by rw [flatE_len], .inr ⟨g, cap, _, by rw [hdl], hbg, heapV _ hg, by rw [hdl]; exact c1, c2, by simp [putCells, c3], ?_⟩⟩
    have := takeV cur (flatE d'.toList) hfl
    rwa [flatE_len] at this
  · exact Con.below_grown (RowKit.Below.refl base w) hb (grownV _) (fun k hk => by cases hk; exact hbg)
end Go.Proofs.Ytacbiiiadalocaa.Ed
