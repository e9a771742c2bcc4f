/- HeapKnown's walk. -/
import Derived.Test.YtocgeplpehioeaaHOne
namespace Go.Proofs.Ytocgeplpehioeaa.Con
open Go.RowKit Go.Proofs.Ytocgeplpehioeaa.Hq
set_option linter.unusedVariables false
set_option linter.unusedSimpArgs false
theorem held0 : held 0 = 1 := by decide
theorem held3 : held 3 = 3 := by decide
theorem heldB : held 1073741824 = 1024 := by decide
theorem in64_of (n : Int) (h : -9223372036854775808 ≤ n ∧ n ≤ 9223372036854775807) : in64 n := (in64_iff n).2 h
theorem new_at {n : Int} {g : Bool} {W : World} {e : Ending} {w' : World} (h : NewPost n g W e w') : ∃ d : HD, e = .returned (.pointer (some ⟨d.hb, 0, none⟩)) ∧ d.most = held n ∧ d.g = g ∧ d.l = [] ∧ d.At w' ∧ Below W.heap.size W w' ∧ ∀ k, d.Foot k → W.heap.size ≤ k := by
  obtain ⟨hb, mb, he, hQ, hB, p1, p2⟩ := h
  refine ⟨⟨hb, mb, held n, g, .slice none 0 0, []⟩, he, rfl, rfl, rfl, hQ, hB, ?_⟩
  rintro k (rfl | rfl | hk)
  · exact p1
  · exact p2
  · simp [Value.ownBlock] at hk
theorem sep_of {d e : HD} {W : World} (h : d.At W) (he : ∀ k, e.Foot k → W.heap.size ≤ k) : Sep d e := fun k h1 h2 => by
  have := h.lt h1
  have := he k h2
  omega
theorem s3_start {W0 W1 W2 W3 : World} {d1 d2 d3 : HD} (a1 : d1.At W1) (f1 : ∀ k, d1.Foot k → W0.heap.size ≤ k) (b1 : Below W0.heap.size W0 W1)
    (a2 : d2.At W2) (f2 : ∀ k, d2.Foot k → W1.heap.size ≤ k) (b2 : Below W1.heap.size W1 W2) (a3 : d3.At W3) (f3 : ∀ k, d3.Foot k → W2.heap.size ≤ k) (b3 : Below W2.heap.size W2 W3) : S3 W0 W3 d1 d2 d3 [] := by
  have s1 := b1.size
  have s2 := b2.size
  have a1' : d1.At W2 := HQ.below a1 b2
  refine ⟨HQ.below a1' b3, HQ.below a2 b3, a3, sep_of a1 f2, sep_of a2 f3, (sep_of a1' f3).symm, ?_, (b1.trans (b2.mono s1)).trans (b3.mono (by omega)), by simp⟩
  rintro k (h | h | h)
  · exact f1 k h
  · have := f2 k h; omega
  · have := f3 k h; omega
theorem known_start {w0 w1 w2 w3 : World} {hb1 mb1 hb2 mb2 hb3 mb3 : Nat}
    (a1 : HQ w1 hb1 mb1 1 false (.slice none 0 0) [] ∧ Below w0.heap.size w0 w1 ∧ w0.heap.size ≤ hb1 ∧ w0.heap.size ≤ mb1)
    (a2 : HQ w2 hb2 mb2 3 true (.slice none 0 0) [] ∧ Below w1.heap.size w1 w2 ∧ w1.heap.size ≤ hb2 ∧ w1.heap.size ≤ mb2)
    (a3 : HQ w3 hb3 mb3 1024 false (.slice none 0 0) [] ∧ Below w2.heap.size w2 w3 ∧ w2.heap.size ≤ hb3 ∧ w2.heap.size ≤ mb3) :
    S3 w0 w3 ⟨hb1, mb1, 1, false, .slice none 0 0, []⟩ ⟨hb2, mb2, 3, true, .slice none 0 0, []⟩ ⟨hb3, mb3, 1024, false, .slice none 0 0, []⟩ [] := by
  have F : ∀ (B hb mb : Nat) (most : Int) (g : Bool), B ≤ hb → B ≤ mb → ∀ k, (⟨hb, mb, most, g, .slice none 0 0, []⟩ : HD).Foot k → B ≤ k := by
    rintro B hb mb most g h1 h2 k (rfl | rfl | hk)
    · exact h1
    · exact h2
    · simp [Value.ownBlock] at hk
  exact s3_start (d1 := ⟨hb1, mb1, 1, false, .slice none 0 0, []⟩) (d2 := ⟨hb2, mb2, 3, true, .slice none 0 0, []⟩) (d3 := ⟨hb3, mb3, 1024, false, .slice none 0 0, []⟩) a1.1 (F _ _ _ _ _ a1.2.2.1 a1.2.2.2) a1.2.1 a2.1 (F _ _ _ _ _ a2.2.2.1 a2.2.2.2) a2.2.1 a3.1 (F _ _ _ _ _ a3.2.2.1 a3.2.2.2) a3.2.1
section
variable {W0 W : World} {d2 d3 : HD} {bs : List (Nat × It)} {hb mb : Nat} {most : Int} {g : Bool} {v : Value} {l : List It}
/-- Calls on the first of three. -/
theorem s3_put (h : S3 W0 W ⟨hb, mb, most, g, v, l⟩ d2 d3 bs) (id key : Int) (hid : in64 id) (hkey : in64 key) (hth : ∀ y ∈ l, y.1 ≠ id) (hf : (l.length : Int) < most) :
    Calls Try.prog 10 #[.pointer (some ⟨hb, 0, none⟩), .int .i64 id, .int .i64 key] W fun e w' => e = .returned (.int .i64 0) ∧ ∃ v' l', Hid (l'.Perm ((id, key) :: l)) ∧ Hid (S3 W0 w' ⟨hb, mb, most, g, v', l'⟩ d2 d3 bs) := by
  refine (put_ok (show HQ W hb mb most g v l from h.a1) id key hid hkey hth hf).mono ?_
  rintro e w' ⟨rfl, v', l', hQ, hp, hT⟩
  exact ⟨rfl, v', l', hide hp, hide (h.stp (d1' := ⟨hb, mb, most, g, v', l'⟩) (Stp.of (d := ⟨hb, mb, most, g, v, l⟩) hT) hQ)⟩
theorem s3_set (h : S3 W0 W ⟨hb, mb, most, g, v, l⟩ d2 d3 bs) (id key : Int) (hid : in64 id) (hkey : in64 key) (hth : ∃ y ∈ l, y.1 = id) :
    Calls Try.prog 11 #[.pointer (some ⟨hb, 0, none⟩), .int .i64 id, .int .i64 key] W fun e w' => e = .returned (.int .i64 0) ∧ ∃ v' l', Hid (l'.Perm (setK l id key)) ∧ Hid (S3 W0 w' ⟨hb, mb, most, g, v', l'⟩ d2 d3 bs) := by
  refine (set_ok (show HQ W hb mb most g v l from h.a1) id key hid hkey hth).mono ?_
  rintro e w' ⟨rfl, v', l', hQ, hp, hT⟩
  exact ⟨rfl, v', l', hide hp, hide (h.stp (d1' := ⟨hb, mb, most, g, v', l'⟩) (Stp.of (d := ⟨hb, mb, most, g, v, l⟩) hT) hQ)⟩
theorem s3_drop (h : S3 W0 W ⟨hb, mb, most, g, v, l⟩ d2 d3 bs) (id : Int) (hid : in64 id) (hth : ∃ y ∈ l, y.1 = id) :
    Calls Try.prog 12 #[.pointer (some ⟨hb, 0, none⟩), .int .i64 id] W fun e w' => e = .returned (.bool true) ∧ ∃ v' x l', Hid (x.1 = id ∧ (x :: l').Perm l) ∧ Hid (S3 W0 w' ⟨hb, mb, most, g, v', l'⟩ d2 d3 bs) := by
  refine (drop_ok (show HQ W hb mb most g v l from h.a1) id hid hth).mono ?_
  rintro e w' ⟨rfl, v', x, l', hQ, hx, hp, hT⟩
  exact ⟨rfl, v', x, l', hide ⟨hx, hp⟩, hide (h.stp (d1' := ⟨hb, mb, most, g, v', l'⟩) (Stp.of (d := ⟨hb, mb, most, g, v, l⟩) hT) hQ)⟩
theorem s3_pop (h : S3 W0 W ⟨hb, mb, most, g, v, l⟩ d2 d3 bs) (x : It) (hx : x ∈ l) (hm : ∀ y ∈ l, le g x y) :
    Calls Try.prog 13 #[.pointer (some ⟨hb, 0, none⟩)] W fun e w' => e = .returned (.tuple #[.agg #[.int .i64 x.1, .int .i64 x.2], .bool true]) ∧ ∃ v' l', Hid ((x :: l').Perm l) ∧ Hid (S3 W0 w' ⟨hb, mb, most, g, v', l'⟩ d2 d3 bs) := by
  have ha : HQ W hb mb most g v l := h.a1
  have ht := top_is ha.heap hx hm
  refine (pop_ok ha (List.length_pos_of_mem hx)).mono ?_
  rintro e w' ⟨rfl, v', l', hQ, hp, hT⟩
  rw [ht] at hp
  exact ⟨by rw [ht], v', l', hide hp, hide (h.stp (d1' := ⟨hb, mb, most, g, v', l'⟩) (Stp.of (d := ⟨hb, mb, most, g, v, l⟩) hT) hQ)⟩
theorem s3_top (h : S3 W0 W ⟨hb, mb, most, g, v, l⟩ d2 d3 bs) (x : It) (hx : x ∈ l) (hm : ∀ y ∈ l, le g x y) :
    Calls Try.prog 14 #[.pointer (some ⟨hb, 0, none⟩)] W fun e w' => e = .returned (.tuple #[.agg #[.int .i64 x.1, .int .i64 x.2], .bool true]) ∧ Hid (S3 W0 w' ⟨hb, mb, most, g, v, l⟩ d2 d3 bs) := by
  have ha : HQ W hb mb most g v l := h.a1
  have ht := top_is ha.heap hx hm
  refine (top_any ha).mono ?_
  rintro e w' ⟨rfl, hB⟩
  exact ⟨by rw [ht, decide_eq_true (List.length_pos_of_mem hx)], hide (h.more hB)⟩
theorem s3_top0 (h : S3 W0 W ⟨hb, mb, most, g, v, l⟩ d2 d3 bs) (hl : l = []) :
    Calls Try.prog 14 #[.pointer (some ⟨hb, 0, none⟩)] W fun e w' => e = .returned (.tuple #[.agg #[.int .i64 0, .int .i64 0], .bool false]) ∧ Hid (S3 W0 w' ⟨hb, mb, most, g, v, l⟩ d2 d3 bs) := by
  subst hl
  refine (top_any (show HQ W hb mb most g v [] from h.a1)).mono ?_
  rintro e w' ⟨rfl, hB⟩
  exact ⟨rfl, hide (h.more hB)⟩
theorem s3_pop0 (h : S3 W0 W ⟨hb, mb, most, g, v, l⟩ d2 d3 bs) (hl : l = []) :
    Calls Try.prog 13 #[.pointer (some ⟨hb, 0, none⟩)] W fun e w' => e = .returned (.tuple #[.agg #[.int .i64 0, .int .i64 0], .bool false]) ∧ Hid (S3 W0 w' ⟨hb, mb, most, g, v, l⟩ d2 d3 bs) := by
  refine (pop_none (show HQ W hb mb most g v l from h.a1) hl).mono ?_
  rintro e w' ⟨rfl, hB⟩
  exact ⟨rfl, hide (h.more hB)⟩
theorem s3_all (h : S3 W0 W ⟨hb, mb, most, g, v, l⟩ d2 d3 bs) (x : It) (hl : l = [x]) :
    Calls Try.prog 16 #[.pointer (some ⟨hb, 0, none⟩)] W fun e w' => ∃ r : Nat, e = .returned (.slice (some ⟨r, 0, none⟩) 1 1) ∧ Hid (S3 W0 w' ⟨hb, mb, most, g, v, l⟩ d2 d3 ((r, x) :: bs)) := by
  refine (all_one (show HQ W hb mb most g v l from h.a1) hl).mono ?_
  rintro e w' ⟨r, l', rfl, h1, rfl, h3, hB, hr⟩
  have h' := h.more hB
  refine ⟨r, rfl, hide { h' with box := fun y hy => ?_ }⟩
  rcases List.mem_cons.1 hy with rfl | hy
  · refine ⟨by unfold Box; rw [h3, show flat [x] = [.int .i64 x.1, .int .i64 x.2] from flat_snoc [] x], fun hf => ?_, fun hf => ?_, fun hf => ?_⟩
    · have := h.a1.lt hf; omega
    · have := h.a2.lt hf; omega
    · have := h.a3.lt hf; omega
  · exact h'.box y hy
end
theorem perm1 {l : List It} {x : It} (h : l.Perm [x]) : l = [x] := List.perm_singleton.1 h
theorem known_pop {l : List It} (h : l.Perm [(9, 1), (2, 3), (5, 3)]) : (2, 3) ∈ l ∧ ∀ y ∈ l, le true (2, 3) y := by
  refine ⟨h.mem_iff.2 (by simp), fun y hy => ?_⟩
  have := h.mem_iff.1 hy
  simp at this
  rcases this with rfl | rfl | rfl <;> (rw [le_iff]; simp)
theorem known_left {l l' : List It} (h : l.Perm [(9, 1), (2, 3), (5, 3)]) (h' : ((2, 3) :: l').Perm l) : l'.Perm [(9, 1), (5, 3)] := by
  have : ((2, 3) :: l').Perm ((2, 3) :: [(9, 1), (5, 3)]) := h'.trans (h.trans (List.Perm.swap _ _ _))
  exact this.cons_inv
theorem known_top {l : List It} (h : l.Perm [(9, 99), (5, 3)]) : (9, 99) ∈ l ∧ ∀ y ∈ l, le true (9, 99) y := by
  refine ⟨h.mem_iff.2 (by simp), fun y hy => ?_⟩
  have := h.mem_iff.1 hy
  simp at this
  rcases this with rfl | rfl <;> (rw [le_iff]; simp)
theorem known_drop {l l' : List It} {x : It} (h : l.Perm [(9, 99), (5, 3)]) (hx : x.1 = 9) (h' : (x :: l').Perm l) : l' = [(5, 3)] := by
  have hm := h.mem_iff.1 (h'.mem_iff.1 (List.mem_cons_self))
  simp at hm
  rcases hm with rfl | rfl
  · exact perm1 (h'.trans h).cons_inv
  · simp at hx
/-- The first k of the many. -/
def negs (k : Nat) : List It := (List.range k).map fun i : Nat => ((i : Int), -(i : Int))
theorem negs_len (k : Nat) : (negs k).length = k := by simp [negs]
theorem negs_succ (k : Nat) : negs (k + 1) = negs k ++ [((k : Int), -(k : Int))] := by simp [negs, List.range_succ]
theorem negs_ne {k : Nat} {x : It} (h : x ∈ negs k) : x.1 < k := by
  simp [negs] at h
  obtain ⟨i, h1, rfl⟩ := h
  show (i : Int) < k
  omega
end Go.Proofs.Ytocgeplpehioeaa.Con
