/- What the example tells. -/
import Derived.Test.YtocgeplpehioeaaHPop
namespace Go.Proofs.Ytocgeplpehioeaa.Con
open Go.RowKit Go.Proofs.Ytocgeplpehioeaa.Hq
set_option linter.unusedVariables false
set_option linter.unusedSimpArgs false
theorem top_is {g : Bool} {l : List It} {x : It} (h : Heap g l) (hx : x ∈ l) (hm : ∀ y ∈ l, le g x y) : at' l 0 = x := by
  obtain ⟨i, hi, rfl⟩ := mem_at hx
  exact le_antisymm (heap_min h i hi) (hm _ (at_mem (by omega)))
theorem Turn.toBelow {W W' : World} {hb mb B : Nat} {v v' : Value} (h : Turn W W' hb mb v v') (h0 : B ≤ W.heap.size) (h1 : B ≤ hb) (h2 : B ≤ mb) (h3 : ∀ k, v.ownBlock = some k → B ≤ k) : Below B W W' :=
  ⟨h.os, h.tape, h.output, h.size, fun k hk => h.block k (by omega) (by omega) (by omega) (fun e => by have := h3 k e.symm; omega)⟩
/-- All its blocks lie behind B. -/
def Past (B hb mb : Nat) (v : Value) : Prop := B ≤ hb ∧ B ≤ mb ∧ ∀ k, v.ownBlock = some k → B ≤ k
theorem Turn.past {W W' : World} {hb mb B : Nat} {v v' : Value} (h : Turn W W' hb mb v v') (h0 : B ≤ W.heap.size) (hp : Past B hb mb v) : Below B W W' ∧ Past B hb mb v' :=
  ⟨h.toBelow h0 hp.1 hp.2.1 hp.2.2, hp.1, hp.2.1, fun k e => by
    rcases h.own k e with e' | e'
    · exact hp.2.2 k e'
    · omega⟩
theorem past_nil {B hb mb : Nat} (h1 : B ≤ hb) (h2 : B ≤ mb) : Past B hb mb (.slice none 0 0) := ⟨h1, h2, fun k e => by simp [Value.ownBlock] at e⟩
theorem held9 : held 9 = 9 := by decide
theorem i64_1 : in64 1 := by unfold in64; decide
theorem i64_2 : in64 2 := by unfold in64; decide
theorem i64_5 : in64 5 := by unfold in64; decide
theorem i64_9 : in64 9 := by unfold in64; decide
theorem awake_top {l l1 : List It} (h : Heap false l) (h1 : l1.Perm [(1, 9)]) (h2 : l.Perm ((2, 5) :: l1)) : at' l 0 = (2, 5) ∧ l.length = 2 := by
  have hp : l.Perm [(2, 5), (1, 9)] := h2.trans (h1.cons _)
  refine ⟨top_is h (hp.mem_iff.2 (by simp)) ?_, hp.length_eq⟩
  intro y hy
  have := hp.mem_iff.1 hy
  simp at this
  rcases this with rfl | rfl
  · exact le_refl _ _
  · rw [le_iff]; simp
set_option maxHeartbeats 1600000 in
theorem awake_any (W : World) : Calls Try.prog 8 #[] W fun e w' => e = .returned (.bool true) ∧ Below W.heap.size W w' := by
  have HN := hide (new_any 9 false W)
  rw [show (9 : Int) = 9 from rfl] at HN
  go_enter Try.func8, Try.ntmps8
  go_wp2_with (go_at_call 9; refine HN.out.mono ?_; rintro e W1 ⟨hb, mb, rfl, hQ1, hB1, p1, p2⟩; have HQ1 := hide hQ1; have HB1 := hide hB1; clear hQ1 hB1)
  rw [held9] at HQ1
  have P1 := hide (past_nil p1 p2)
  have PU := hide (put_ok HQ1.out 1 9 i64_1 i64_9 (by simp) (by simp))
  refine PU.out.mono ?_
  rintro e W2 ⟨rfl, v2, l2, hQ2, hp2, hT2⟩
  have HQ2 := hide hQ2
  have HP2 := hide hp2
  have B2 := hide (hT2.past HB1.out.size P1.out)
  have PU2 := hide (put_ok hQ2 2 5 i64_2 i64_5 (by intro y hy; have := hp2.mem_iff.1 hy; simp at this; subst this; decide) (by rw [hp2.length_eq]; decide))
  clear hQ2 hp2 hT2
  go_wp2_with (first
    | (go_at_call 10; refine PU2.out.mono ?_; rintro e W3 ⟨rfl, v3, l3, hQ3, hp3, hT3⟩; have HQ3 := hide hQ3; have HP3 := hide hp3; have HT3 := hide hT3; clear hQ3 hp3 hT3))
  obtain ⟨t1, t2⟩ := awake_top HQ3.out.heap HP2.out HP3.out
  have TP := hide (top_any HQ3.out)
  rw [t1, t2] at TP
  have B3 := hide (HT3.out.past (by have := HB1.out.size; have := B2.out.1.size; omega) B2.out.2)
  have T2 := hide t2
  clear t1 t2
  refine TP.out.mono ?_
  rintro e W4 ⟨rfl, hB4⟩
  have LN := hide (fun W' (h : Below W4.heap.size W4 W') => len_any ((HQ3.out.below hB4).below h))
  rw [T2.out] at LN
  have HB4 := hide hB4
  clear hB4
  go_wp2_with (go_at_call 17; refine (LN.out _ ?_).mono ?_; (first | exact (Below.refl _ _).alloc (Nat.le_refl _) _ | exact ((Below.refl _ _).alloc (Nat.le_refl _) _).setCell (by simp) _); rintro e w' ⟨rfl, rfl⟩)
  go_ret
  have s1 := HB1.out.size
  have s2 := B2.out.1.size
  have s3 := B3.out.1.size
  have s4 := HB4.out.size
  exact ⟨rfl, (((HB1.out.trans B2.out.1).trans B3.out.1).trans (HB4.out.mono (by omega))).alloc (by omega) _⟩
end Go.Proofs.Ytocgeplpehioeaa.Con
