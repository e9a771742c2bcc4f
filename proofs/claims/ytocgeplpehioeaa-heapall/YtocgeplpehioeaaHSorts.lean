/- HeapSorts' walk. -/
import Derived.Test.YtocgeplpehioeaaHAwake
namespace Go.Proofs.Ytocgeplpehioeaa.Con
open Go.RowKit Go.Proofs.Ytocgeplpehioeaa.Hq
set_option linter.unusedVariables false
set_option linter.unusedSimpArgs false
/-- The first k keys, by their numbers. -/
def its (zs : List Int) (k : Nat) : List It := (List.range k).map fun i : Nat => ((i : Int), zs.getD i 0)
theorem its_len (zs : List Int) (k : Nat) : (its zs k).length = k := by simp [its]
theorem its_succ (zs : List Int) (k : Nat) : its zs (k + 1) = its zs k ++ [((k : Int), zs.getD k 0)] := by simp [its, List.range_succ]
theorem its_mem {zs : List Int} {k : Nat} {x : It} (h : x ∈ its zs k) : ∃ i, i < k ∧ x = ((i : Int), zs.getD i 0) := by
  simp [its] at h
  obtain ⟨i, h1, h2⟩ := h
  exact ⟨i, h1, h2.symm⟩
theorem its_at (zs : List Int) (k i : Nat) (h : i < k) : at' (its zs k) i = ((i : Int), zs.getD i 0) := by
  unfold at' its
  rw [List.getD_eq_getElem?_getD, List.getElem?_map, List.getElem?_range h]; rfl
theorem held200 : held 200 = 200 := by decide
theorem its_in {zs : List Int} (h : ∀ z ∈ zs, in64 z) {i : Nat} (hi : i < zs.length) : in64 (zs.getD i 0) := by
  rw [List.getD_eq_getElem?_getD, List.getElem?_eq_getElem hi]
  exact h _ (List.getElem_mem hi)
/-- k keys are in. -/
def Rel1 (W : World) (hb mb : Nat) (g : Bool) (zs : List Int) (k : Nat) (wr : World) : Prop :=
  ∃ v l, HQ wr hb mb 200 g v l ∧ l.Perm (its zs k) ∧ Below W.heap.size W wr ∧ Past W.heap.size hb mb v
theorem rel1_put {W wr : World} {hb mb k : Nat} {g : Bool} {zs : List Int} (h : Rel1 W hb mb g zs k wr) (hk : k < zs.length) (hz : zs.length ≤ 100) (hwf : ∀ z ∈ zs, in64 z) :
    Calls Try.prog 10 #[.pointer (some ⟨hb, 0, none⟩), .int .i64 k, .int .i64 (zs.getD k 0)] wr fun e w' => e = .returned (.int .i64 0) ∧ Rel1 W hb mb g zs (k + 1) w' := by
  obtain ⟨v, l, hQ, hp, hB, hP⟩ := h
  have hlen : l.length = k := by rw [hp.length_eq, its_len]
  refine (put_ok hQ (k : Int) (zs.getD k 0) ((in64_iff _).2 (by omega)) (its_in hwf hk) ?_ (by omega)).mono ?_
  · intro y hy
    obtain ⟨i, hi, rfl⟩ := its_mem (hp.mem_iff.1 hy)
    show (i : Int) ≠ k
    omega
  · rintro e w' ⟨rfl, v', l', hQ', hp', hT⟩
    obtain ⟨b1, b2⟩ := hT.past hB.size hP
    refine ⟨rfl, v', l', hQ', ?_, hB.trans b1, b2⟩
    rw [its_succ]
    exact hp'.trans ((hp.cons _).trans (List.perm_append_comm (l₁ := [_])))
/-- The hundred flags. -/
def seenC (f : Nat → Bool) : Array Value := ((List.range 100).map fun j => Value.bool (f j)).toArray
theorem seen_size (f : Nat → Bool) : (seenC f).size = 100 := by simp [seenC]
theorem seen_get (f : Nat → Bool) (j : Nat) (h : j < 100) : (seenC f)[j]? = some (.bool (f j)) := by
  unfold seenC
  rw [List.getElem?_toArray, List.getElem?_map, List.getElem?_range h]; rfl
theorem seen_set (f : Nat → Bool) (i : Nat) (h : i < 100) : (seenC f).setIfInBounds i (.bool true) = seenC (fun j => f j || decide (j = i)) := by
  apply Array.ext_getElem?
  intro j
  rw [Array.getElem?_setIfInBounds]
  by_cases hj : j < 100
  · rw [seen_get _ _ hj, seen_get _ _ hj]
    by_cases e : i = j
    · subst e; simp [seen_size, hj]
    · rw [if_neg e]; simp; intro e'; exact absurd e'.symm e
  · rw [if_neg (by omega), Array.getElem?_eq_none (by rw [seen_size]; omega), Array.getElem?_eq_none (by rw [seen_size]; omega)]
theorem seen_congr {f f' : Nat → Bool} (h : ∀ j, f j = f' j) : seenC f = seenC f' := by rw [show f = f' from funext h]
theorem zero49 (w : World) : (zeroValue 49).run Try.prog w = .ok (.agg (seenC fun _ => false)) w := by kernel_rfl
def gone (pp : List It) (j : Nat) : Bool := pp.any fun x => decide (x.1 = (j : Int))
/-- k have come out. -/
structure Rel2 (W : World) (hb mb sb lb : Nat) (g : Bool) (zs : List Int) (k : Nat) (v : Value) (l pp : List It) (lst : It) (wr : World) : Prop where
  hq : HQ wr hb mb 200 g v l
  perm : (pp ++ l).Perm (its zs zs.length)
  len : pp.length = k
  below : Below W.heap.size W wr
  past : Past W.heap.size hb mb v
  seen : wr.heap[sb]? = some (.cells (seenC (gone pp)) 49 (0, 0))
  last : wr.heap[lb]? = some (.cells #[.int .i64 lst.1, .int .i64 lst.2] 29 (0, 0))
  ord : 0 < k → lst ∈ pp ∧ ∀ x ∈ l, le g lst x
  lbs : W.heap.size ≤ lb ∧ lb ≠ hb ∧ lb ≠ mb ∧ v.ownBlock ≠ some lb
  sbs : W.heap.size ≤ sb ∧ sb ≠ hb ∧ sb ≠ mb ∧ v.ownBlock ≠ some sb
/-- One more has come out, and is not yet noted. -/
structure Popped (W : World) (hb mb sb lb : Nat) (g : Bool) (zs : List Int) (k : Nat) (v : Value) (l pp : List It) (lst : It) (i : Nat) (wr : World) : Prop where
  hq : HQ wr hb mb 200 g v l
  perm : ((pp ++ [((i : Int), zs.getD i 0)]) ++ l).Perm (its zs zs.length)
  len : pp.length = k
  below : Below W.heap.size W wr
  past : Past W.heap.size hb mb v
  seen : wr.heap[sb]? = some (.cells (seenC (gone pp)) 49 (0, 0))
  last : wr.heap[lb]? = some (.cells #[.int .i64 lst.1, .int .i64 lst.2] 29 (0, 0))
  ord : ∀ x ∈ l, le g ((i : Int), zs.getD i 0) x
  prev : 0 < k → le g lst ((i : Int), zs.getD i 0)
  fresh : gone pp i = false
  lbs : W.heap.size ≤ lb ∧ lb ≠ hb ∧ lb ≠ mb ∧ v.ownBlock ≠ some lb
  sbs : W.heap.size ≤ sb ∧ sb ≠ hb ∧ sb ≠ mb ∧ v.ownBlock ≠ some sb
theorem its_ids (zs : List Int) (k : Nat) : Ids (its zs k) := by
  unfold Ids its
  rw [List.map_map]
  have : ((fun x : It => x.1) ∘ fun i : Nat => ((i : Int), zs.getD i 0)) = fun i : Nat => (i : Int) := rfl
  rw [this]
  unfold List.Nodup
  rw [List.pairwise_map]
  refine List.Pairwise.imp ?_ (List.nodup_range (n := k))
  intro a b h e
  exact h (by omega)
theorem rel2_pop {W wr : World} {hb mb sb lb k : Nat} {g : Bool} {zs : List Int} {v : Value} {l pp : List It} {lst : It} (h : Rel2 W hb mb sb lb g zs k v l pp lst wr) (hk : k < zs.length) :
    Calls Try.prog 13 #[.pointer (some ⟨hb, 0, none⟩)] wr fun e w' => ∃ (i : Nat) (v' : Value) (l' : List It), e = .returned (.tuple #[.agg #[.int .i64 i, .int .i64 (zs.getD i 0)], .bool true]) ∧ i < zs.length ∧ Popped W hb mb sb lb g zs k v' l' pp lst i w' := by
  have hll : 0 < l.length := by
    have := h.perm.length_eq
    rw [List.length_append, its_len, h.len] at this
    omega
  have hx : at' l 0 ∈ its zs zs.length := h.perm.mem_iff.1 (List.mem_append_right _ (at_mem hll))
  obtain ⟨i, hi, he⟩ := its_mem hx
  refine (pop_ok h.hq hll).mono ?_
  rintro e w' ⟨rfl, v', l', hQ', hp', hT⟩
  rw [he] at hp'
  have hsl : sb < wr.heap.size := (Array.getElem?_eq_some_iff.1 h.seen).1
  have hlbl : lb < wr.heap.size := (Array.getElem?_eq_some_iff.1 h.last).1
  obtain ⟨b1, b2⟩ := hT.past h.below.size h.past
  refine ⟨i, v', l', by rw [he], hi, hQ', ?_, h.len, h.below.trans b1, b2, ?_, ?_, ?_, ?_, ?_, ?_, ?_⟩
  · rw [List.append_assoc]
    exact (hp'.append_left pp).trans h.perm
  · exact (hT.block sb hsl h.sbs.2.1 h.sbs.2.2.1 (fun e => h.sbs.2.2.2 e.symm)).trans h.seen
  · exact (hT.block lb hlbl h.lbs.2.1 h.lbs.2.2.1 (fun e => h.lbs.2.2.2 e.symm)).trans h.last
  · intro x hx'
    rw [← he]
    obtain ⟨j, hj, rfl⟩ := mem_at (hp'.mem_iff.1 (List.mem_cons_of_mem _ hx'))
    exact heap_min h.hq.heap j hj
  · intro h0
    have := (h.ord h0).2 (at' l 0) (at_mem hll)
    rw [he] at this; exact this
  · unfold gone
    rw [List.any_eq_false]
    intro x hx' e
    have e' : x.1 = (i : Int) := by simpa using e
    have hids := (its_ids zs zs.length).perm h.perm
    unfold Ids at hids
    rw [List.map_append, List.nodup_append] at hids
    exact hids.2.2 x.1 (List.mem_map.2 ⟨x, hx', rfl⟩) (at' l 0).1 (List.mem_map.2 ⟨_, at_mem hll, rfl⟩) (by rw [he]; exact e')
  · refine ⟨h.lbs.1, h.lbs.2.1, h.lbs.2.2.1, fun e => ?_⟩
    rcases hT.own lb e with e' | e'
    · exact h.lbs.2.2.2 e'
    · omega
  · refine ⟨h.sbs.1, h.sbs.2.1, h.sbs.2.2.1, fun e => ?_⟩
    rcases hT.own sb e with e' | e'
    · exact h.sbs.2.2.2 e'
    · omega
theorem rel2_next {W wr w4 : World} {hb mb sb lb k i : Nat} {g : Bool} {zs : List Int} {v : Value} {l pp : List It} {lst : It} (h : Popped W hb mb sb lb g zs k v l pp lst i wr) (hi : i < 100)
    (ho : w4.os = wr.os) (ht : w4.tape = wr.tape) (hu : w4.output = wr.output) (hs : wr.heap.size ≤ w4.heap.size)
    (hseen : w4.heap[sb]? = some (.cells ((seenC (gone pp)).setIfInBounds i (.bool true)) 49 (0, 0))) (hlast : w4.heap[lb]? = some (.cells #[.int .i64 i, .int .i64 (zs.getD i 0)] 29 (0, 0)))
    (hk : ∀ b, b < wr.heap.size → b ≠ sb → b ≠ lb → w4.heap[b]? = wr.heap[b]?) : Rel2 W hb mb sb lb g zs (k + 1) v l (pp ++ [((i : Int), zs.getD i 0)]) ((i : Int), zs.getD i 0) w4 where
  hq := ⟨h.hq.hp.kept fun b hb' hc => hk b hb' (by
      rcases hc with rfl | rfl | hc
      · exact fun e => h.sbs.2.1 e.symm
      · exact fun e => h.sbs.2.2.1 e.symm
      · rintro rfl; exact h.sbs.2.2.2 hc) (by
      rcases hc with rfl | rfl | hc
      · exact fun e => h.lbs.2.1 e.symm
      · exact fun e => h.lbs.2.2.1 e.symm
      · rintro rfl; exact h.lbs.2.2.2 hc), h.hq.heap, h.hq.room, h.hq.lo, h.hq.hi⟩
  perm := h.perm
  len := by simp [h.len]
  below := h.below.trans ⟨ho, ht, hu, hs, fun b hb' => hk b (by have := h.below.size; omega) (by have := h.sbs.1; omega) (by have := h.lbs.1; omega)⟩
  past := h.past
  seen := by
    rw [hseen, seen_set _ _ hi]
    congr 2
    apply seen_congr
    intro j
    unfold gone
    rw [List.any_append]
    simp
    congr 1
    exact decide_eq_decide.2 ⟨fun e => by omega, fun e => by omega⟩
  last := hlast
  ord := fun _ => ⟨by simp, h.ord⟩
  lbs := h.lbs
  sbs := h.sbs
theorem rel2_start {W wr : World} {hb mb k : Nat} {g : Bool} {zs : List Int} (h : Rel1 W hb mb g zs zs.length wr) : ∃ v l, Rel2 W hb mb wr.heap.size (wr.heap.size + 1) g zs 0 v l [] (0, 0) ((wr.alloc (.cells (seenC fun _ => false) 49)).alloc (.cells #[.int .i64 0, .int .i64 0] 29)) := by
  obtain ⟨v, l, hQ, hp, hB, hP⟩ := h
  have hb1 : Below wr.heap.size wr ((wr.alloc (.cells (seenC fun _ => false) 49)).alloc (.cells #[.int .i64 0, .int .i64 0] 29)) := ((Below.refl _ _).alloc (Nat.le_refl _) _).alloc (by simp) _
  have l1 := hQ.hp.lt
  have l2 := hQ.hp.map.lt
  have hs := hB.size
  refine ⟨v, l, hQ.below hb1, by simpa using hp, rfl, hB.trans (hb1.mono hs), hP, ?_, ?_, by omega, ⟨by omega, by omega, by omega, fun e => ?_⟩, ⟨hs, by omega, by omega, fun e => ?_⟩⟩
  · rw [Below.heap_alloc _ _ _ (by simp)]
    exact heap_alloc_new wr _
  · rw [show wr.heap.size + 1 = (wr.alloc (.cells (seenC fun _ => false) 49)).heap.size by simp]
    exact heap_alloc_new _ _
  · have := (hQ.hp.row.blk e).1; omega
  · have := (hQ.hp.row.blk e).1; omega
theorem rel2_end {W wr : World} {hb mb sb lb : Nat} {g : Bool} {zs : List Int} {v : Value} {l pp : List It} {lst : It} (h : Rel2 W hb mb sb lb g zs zs.length v l pp lst wr) : l.length = 0 := by
  have := h.perm.length_eq
  rw [List.length_append, its_len, h.len] at this
  omega
theorem rel2_fin {W w3 : World} {hb mb sb k i : Nat} {g : Bool} {zs : List Int} {v : Value} {l pp : List It} {lst : It} {z : Int} (h : Popped W hb mb sb (sb + 1) g zs k v l pp lst i w3) (hz : zs.getD i 0 = z) (hi : i < 100) (nq : Nat) (o : Obj) :
    Rel2 W hb mb sb (sb + 1) g zs (k + 1) v l (pp ++ [((i : Int), zs.getD i 0)]) ((i : Int), zs.getD i 0) (((((w3.alloc o).drewN nq).setCell ⟨sb, i, none⟩ (.bool true)).setCell ⟨sb + 1, 0, none⟩ (.int .i64 i)).setCell ⟨sb + 1, 1, none⟩ (.int .i64 z)) := by
  have hl1 : sb < w3.heap.size := (Array.getElem?_eq_some_iff.1 h.seen).1
  have hl2 : sb + 1 < w3.heap.size := (Array.getElem?_eq_some_iff.1 h.last).1
  have s0 : ((w3.alloc o).drewN nq).heap[sb]? = _ := (Below.heap_alloc w3 o sb hl1).trans h.seen
  have s1 := heap_setCell_same _ sb i _ _ (.bool true) s0
  have l0 : ((w3.alloc o).drewN nq).heap[sb + 1]? = _ := (Below.heap_alloc w3 o (sb + 1) hl2).trans h.last
  have l1 := (heap_setCell_other ((w3.alloc o).drewN nq) ⟨sb, i, none⟩ (sb + 1) (.bool true) (by show sb + 1 ≠ sb; omega)).trans l0
  have l2 := heap_setCell_same _ (sb + 1) 0 _ _ (.int .i64 i) l1
  have l3 := heap_setCell_same _ (sb + 1) 1 _ _ (.int .i64 z) l2
  refine rel2_next h hi rfl rfl rfl ?_ ?_ ?_ ?_
  · simp [World.drewN]
  · rw [heap_setCell_other _ _ sb _ (by show sb ≠ sb + 1; omega), heap_setCell_other _ _ sb _ (by show sb ≠ sb + 1; omega)]
    exact s1
  · rw [l3, hz]; rfl
  · intro b hb1 hb2 hb3
    rw [heap_setCell_other _ _ b _ hb3, heap_setCell_other _ _ b _ hb3, heap_setCell_other _ _ b _ hb2]
    exact Below.heap_alloc w3 o b hb1
/-- What the walk reads of it. -/
theorem popped_facts {W wr : World} {hb mb sb lb k i : Nat} {g : Bool} {zs : List Int} {v : Value} {l pp : List It} {lst : It} {z : Int} (h : Popped W hb mb sb lb g zs k v l pp lst i wr) (hz : zs.getD i 0 = z) (hi : i < 100) :
    wr.cell? ⟨sb, i, none⟩ = some (.bool false) ∧ wr.frozen? ⟨sb, i, none⟩ = false ∧ wr.cell? ⟨lb, 0, none⟩ = some (.int .i64 lst.1) ∧ wr.cell? ⟨lb, 1, none⟩ = some (.int .i64 lst.2) ∧ wr.frozen? ⟨lb, 0, none⟩ = false ∧ wr.frozen? ⟨lb, 1, none⟩ = false ∧
      (0 < k → (z = lst.2 → lst.1 ≤ i) ∧ (z ≠ lst.2 → decide (z < lst.2) = g)) := by
  have hs := h.seen
  have hl := h.last
  refine ⟨?_, by simp [World.frozen?, hs], ?_, ?_, by simp [World.frozen?, hl], by simp [World.frozen?, hl], fun h0 => ?_⟩
  · rw [cell_of_row wr _ _ _ _ _ hs, seen_get _ _ hi, h.fresh]
  · rw [cell_of_row wr _ _ _ _ _ hl]; rfl
  · rw [cell_of_row wr _ _ _ _ _ hl]; rfl
  · have := h.prev h0
    rw [hz, le_iff] at this
    cases g
    · simp at this
      refine ⟨fun e => by omega, fun e => ?_⟩
      rw [decide_eq_false_iff_not]; omega
    · simp at this
      refine ⟨fun e => by omega, fun e => ?_⟩
      rw [decide_eq_true_iff]; omega
theorem rel2_pop' {W wr : World} {hb mb sb lb k : Nat} {g : Bool} {zs : List Int} {v : Value} {l pp : List It} {lst : It} (h : Rel2 W hb mb sb lb g zs k v l pp lst wr) (hk : k < zs.length) :
    Calls Try.prog 13 #[.pointer (some ⟨hb, 0, none⟩)] wr fun e w' => ∃ (i : Nat) (z : Int) (v' : Value) (l' : List It), e = .returned (.tuple #[.agg #[.int .i64 i, .int .i64 z], .bool true]) ∧ Hid (zs.getD i 0 = z) ∧ Hid (i < zs.length) ∧ Hid (Popped W hb mb sb lb g zs k v' l' pp lst i w') :=
  (rel2_pop h hk).mono fun e w' ⟨i, v', l', h1, h2, h3⟩ => ⟨i, _, v', l', h1, hide rfl, hide h2, hide h3⟩
set_option maxRecDepth 100000 in
set_option maxHeartbeats 4000000 in
theorem sorts_walk (p : Option Addr) (c : Nat) (zs : List Int) (g : Bool) (W : World) (hl : zs.length ≤ 9223372036854775807) (hwf : ∀ z ∈ zs, in64 z)
    (h1 : zs.length ≤ 100 → 0 < zs.length → ∃ b o, p = some ⟨b, o, none⟩ ∧ b < W.heap.size ∧ ∀ j, j < zs.length → W.cell? ⟨b, o + j, none⟩ = some (.int .i64 (zs.getD j 0))) :
    Calls Try.prog 5 #[.slice p zs.length c, .bool g] W fun e w' => e = .returned (.bool true) ∧ Below W.heap.size W w' := by
  have hA := hide (awake_any W)
  by_cases hn : 100 < zs.length
  · have hn' : (100 : Int) < (zs.length : Int) := by omega
    go_enter Try.func5, Try.ntmps5
    go_wp2_with (go_at_call 8; refine hA.out.mono ?_; rintro e w1 ⟨rfl, hB1⟩)
    go_ret
    exact ⟨rfl, hB1⟩
  · have H1 := hide (h1 (by omega))
    have HW := hide hwf
    clear h1 hwf
    have hn' : ¬ (100 : Int) < (zs.length : Int) := by omega
    obtain ⟨n, hnn⟩ : ∃ n, zs.length = n := ⟨_, rfl⟩
    have NN := hide hnn
    rw [hnn] at hl hn hn' ⊢
    clear hnn
    have HN := hide (fun W' => new_any 200 g W')
    go_enter Try.func5, Try.ntmps5
    go_wp2_with (first
      | (go_at_call 8; refine hA.out.mono ?_; rintro e w1 ⟨rfl, hB1⟩; have HB1 := hide hB1; clear hB1)
      | (go_at_call 9; refine (HN.out _).mono ?_; rintro e w2 ⟨hb, mb, rfl, hQ2, hB2, p1, p2⟩; have HQ2 := hide hQ2; have HB2 := hide hB2; clear hQ2 hB2))
    rw [held200] at HQ2
    have hs1 := HB1.out.size
    have P2 := hide (past_nil (B := W.heap.size) (show W.heap.size ≤ hb by omega) (show W.heap.size ≤ mb by omega))
    have B2 := hide (HB1.out.trans (HB2.out.mono hs1))
    go_loopw [6] (fun s wr => ∃ k : Nat, k ≤ n ∧ s = .int .i64 k ∧ Hid (Rel1 W hb mb g zs k wr)) (fun s _ => n - (intOf s).toNat)
    case atStart => exact ⟨0, by omega, rfl, hide ⟨_, [], HQ2.out, List.Perm.refl _, B2.out, P2.out⟩⟩
    case round =>
      obtain ⟨k, hk, rfl, HR⟩ := hrel
      by_cases hkn : k < n
      · obtain ⟨b, o, rfl, hbl, hcl⟩ := H1.out (by rw [NN.out]; omega)
        have hcell : wr.cell? ⟨b, o + k, none⟩ = some (.int .i64 (zs.getD k 0)) := by
          obtain ⟨v, l, _, _, hB, _⟩ := HR.out
          rw [hB.cell (p := ⟨b, o + k, none⟩) hbl]
          exact hcl k (by rw [NN.out]; exact hkn)
        have PU := hide (rel1_put HR.out (by rw [NN.out]; exact hkn) (by rw [NN.out]; omega) HW.out)
        have HC := hide hcl
        clear hcl
        generalize zs.getD k 0 = z at *
        have hk1 : (k : Int) < (n : Int) := by omega
        go_wp2_with (go_at_call 10; refine PU.out.mono ?_; rintro e w3 ⟨rfl, hR3⟩; have HR3 := hide hR3; clear hR3)
        go_roundw
        case rel => exact ⟨k + 1, by omega, by go_num, HR3⟩
        case measure => simp [intOf]; omega
      · obtain rfl : k = n := by omega
        have hz := zero49
        have ST := hide (rel2_start (k := 0) (NN.out ▸ HR.out))
        go_wp2
        clear hz
        generalize hW3 : (wr.alloc (Obj.cells (seenC fun x => false) 49)).alloc (Obj.cells #[Value.int IntKind.i64 0, Value.int IntKind.i64 0] 29) = W3 at *
        generalize wr.heap.size = sb at *
        clear hW3
        go_loopw [9] (fun s wr => ∃ j : Nat, j ≤ k ∧ s = .int .i64 j ∧ ∃ v l pp lst, Hid (Rel2 W hb mb sb (sb + 1) g zs j v l pp lst wr)) (fun s _ => k - (intOf s).toNat)
        case atStart =>
          obtain ⟨v, l, h⟩ := ST.out
          exact ⟨0, by omega, rfl, v, l, [], (0, 0), hide h⟩
        case round =>
          obtain ⟨j, hj, rfl, v, l, pp, lst, HR2⟩ := hrel
          by_cases hjk : j < k
          · obtain ⟨b, o, rfl, hbl, hcl⟩ := H1.out (by rw [NN.out]; omega)
            have HC := hide hcl
            clear hcl
            have PO := hide (rel2_pop' HR2.out (by rw [NN.out]; exact hjk))
            have hj1 : (j : Int) < (k : Int) := by omega
            go_wp2_with (go_at_call 13; refine PO.out.mono ?_; rintro e w3 ⟨i, z, v', l', rfl, hZ, hI, hP⟩)
            have hik : i < k := by rw [← NN.out]; exact hI.out
            obtain ⟨c1, f1, c2, c3, f2, f3, hord⟩ := popped_facts hP.out hZ.out (by omega)
            have c4 : w3.cell? ⟨b, o + i, none⟩ = some (.int .i64 z) := by
              rw [hP.out.below.cell (p := ⟨b, o + i, none⟩) hbl, ← hZ.out]
              exact HC.out i hI.out
            have l1 := World.block_lt_of_cell? w3 _ c1
            have l2 := World.block_lt_of_cell? w3 _ c2
            have l3 := World.block_lt_of_cell? w3 _ c4
            have i1 : (0 : Int) ≤ (i : Int) := by omega
            have i2 : (i : Int) < (k : Int) := by omega
            have i3 : (i : Int) < 100 := by omega
            have d1 : decide ((i : Int) < 0) = false := decide_eq_false (by omega)
            have d2 : decide ((k : Int) ≤ (i : Int)) = false := decide_eq_false (by omega)
            have OR := hide hord
            clear hord
            obtain ⟨la, lk⟩ := lst
            go_quiet (fail)
            have hne : sb ≠ sb + 1 := by omega
            by_cases hj0 : j = 0
            · subst hj0
              go_wp2
              go_roundw
              case rel => exact ⟨1, by omega, by go_num, _, _, _, _, hide (rel2_fin hP.out hZ.out (by omega) nq _)⟩
              case measure => simp [intOf]; omega
            · have hj2 : (0 : Int) < (j : Int) := by omega
              obtain ⟨o1, o2⟩ := OR.out (by omega)
              by_cases hzl : z = lk
              · have o3 := o1 hzl
                have o4 : ¬ (i : Int) < la := by omega
                subst hzl
                clear o1 o2
                go_wp2
                go_roundw
                case rel => exact ⟨j + 1, by omega, by go_num, _, _, _, _, hide (rel2_fin hP.out hZ.out (by omega) nq _)⟩
                case measure => simp [intOf]; omega
              · have o3 := o2 hzl
                clear o1 o2
                have G := hide o3
                clear o3
                cases g
                · have o4 : ¬ z < lk := of_decide_eq_false G.out
                  go_wp2
                  go_roundw
                  case rel => exact ⟨j + 1, by omega, by go_num, _, _, _, _, hide (rel2_fin hP.out hZ.out (by omega) nq _)⟩
                  case measure => simp [intOf]; omega
                · have o4 : z < lk := of_decide_eq_true G.out
                  go_wp2
                  go_roundw
                  case rel => exact ⟨j + 1, by omega, by go_num, _, _, _, _, hide (rel2_fin hP.out hZ.out (by omega) nq _)⟩
                  case measure => simp [intOf]; omega
          · obtain rfl : j = k := by omega
            have hl0 := rel2_end (NN.out ▸ HR2.out)
            have LN := hide (len_any HR2.out.hq)
            rw [hl0] at LN
            go_wp2_with (go_at_call 17; refine LN.out.mono ?_; rintro e w3 ⟨rfl, rfl⟩)
            go_ret
            exact ⟨rfl, HR2.out.below⟩
end Go.Proofs.Ytocgeplpehioeaa.Con
