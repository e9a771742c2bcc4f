/- Two heaps side by side. -/
import Derived.Test.YtocgeplpehioeaaSSort
import Derived.Test.YtocgeplpehioeaaHSorts
namespace Go.Proofs.Ytocgeplpehioeaa.Con
open Go.RowKit Go.Proofs.Ytocgeplpehioeaa.Hq
set_option linter.unusedVariables false
set_option linter.unusedSimpArgs false
theorem held100 : held 100 = 100 := by decide
structure S2 (W0 W : World) (d1 d2 : HD) : Prop where
  a1 : d1.At W
  a2 : d2.At W
  s12 : Sep d1 d2
  far : ∀ k, (d1.Foot k ∨ d2.Foot k) → W0.heap.size ≤ k
  below : Below W0.heap.size W0 W
section
variable {W0 W W' : World} {d1 d2 d1' : HD}
theorem S2.rot (h : S2 W0 W d1 d2) : S2 W0 W d2 d1 := ⟨h.a2, h.a1, h.s12.symm, fun k hk => h.far k hk.symm, h.below⟩
theorem S2.stp (h : S2 W0 W d1 d2) (hs : Stp W W' d1 d1') (ha : d1'.At W') : S2 W0 W' d1' d2 := by
  obtain ⟨b2, s2⟩ := h.a2.stp h.s12 hs
  have hz := h.below.size
  refine ⟨ha, b2, s2, ?_, h.below.trans ⟨hs.os, hs.tape, hs.output, hs.size, fun k hk => hs.block k (by omega) fun hf => by have := h.far k (.inl hf); omega⟩⟩
  intro k hk
  rcases hk with hk | hk
  · rcases hs.foot k hk with e | e
    · exact h.far k (.inl e)
    · omega
  · exact h.far k (.inr hk)
theorem S2.more (h : S2 W0 W d1 d2) (hB : Below W.heap.size W W') : S2 W0 W' d1 d2 :=
  ⟨HQ.below h.a1 hB, HQ.below h.a2 hB, h.s12, h.far, h.below.trans (hB.mono h.below.size)⟩
end
theorem s2_start {w0 w1 w2 : World} {hb1 mb1 hb2 mb2 : Nat} {m1 m2 : Int} {g1 g2 : Bool}
    (a1 : HQ w1 hb1 mb1 m1 g1 (.slice none 0 0) []) (b1 : Below w0.heap.size w0 w1) (p1 : w0.heap.size ≤ hb1) (p1' : w0.heap.size ≤ mb1)
    (a2 : HQ w2 hb2 mb2 m2 g2 (.slice none 0 0) []) (b2 : Below w1.heap.size w1 w2) (p2 : w1.heap.size ≤ hb2) (p2' : w1.heap.size ≤ mb2) :
    S2 w0 w2 ⟨hb1, mb1, m1, g1, .slice none 0 0, []⟩ ⟨hb2, mb2, m2, g2, .slice none 0 0, []⟩ := by
  have F : ∀ (B hb mb : Nat) (most : Int) (g : Bool), B ≤ hb → B ≤ mb → ∀ k, (⟨hb, mb, most, g, .slice none 0 0, []⟩ : HD).Foot k → B ≤ k := by
    rintro B hb mb most g h1 h2 k (rfl | rfl | hk)
    · exact h1
    · exact h2
    · simp [Value.ownBlock] at hk
  have s1 := b1.size
  refine ⟨HQ.below a1 b2, a2, fun k h1 h2 => ?_, ?_, b1.trans (b2.mono s1)⟩
  · have := HD.At.lt (d := ⟨hb1, mb1, m1, g1, .slice none 0 0, []⟩) a1 h1
    have := F _ _ _ _ _ p2 p2' k h2
    omega
  · rintro k (h | h)
    · exact F _ _ _ _ _ p1 p1' k h
    · have := F _ _ _ _ _ p2 p2' k h; omega
section
variable {W0 W : World} {d2 : HD} {hb mb : Nat} {most : Int} {g : Bool} {v : Value} {l : List It}
theorem s2_put (h : S2 W0 W ⟨hb, mb, most, g, v, l⟩ d2) (id key : Int) (hid : in64 id) (hkey : in64 key) (hth : ∀ y ∈ l, y.1 ≠ id) (hf : (l.length : Int) < most) :
    Calls Try.prog 10 #[.pointer (some ⟨hb, 0, none⟩), .int .i64 id, .int .i64 key] W fun e w' => e = .returned (.int .i64 0) ∧ ∃ v' l', Hid (l'.Perm ((id, key) :: l)) ∧ Hid (S2 W0 w' ⟨hb, mb, most, g, v', l'⟩ d2) := by
  refine (put_ok (show HQ W hb mb most g v l from h.a1) id key hid hkey hth hf).mono ?_
  rintro e w' ⟨rfl, v', l', hQ, hp, hT⟩
  exact ⟨rfl, v', l', hide hp, hide (h.stp (d1' := ⟨hb, mb, most, g, v', l'⟩) (Stp.of (d := ⟨hb, mb, most, g, v, l⟩) hT) hQ)⟩
theorem s2_all (h : S2 W0 W ⟨hb, mb, most, g, v, l⟩ d2) (h0 : 0 < l.length) :
    Calls Try.prog 16 #[.pointer (some ⟨hb, 0, none⟩)] W fun e w' => ∃ (r : Nat) (l' : List It), e = .returned (.slice (some ⟨r, 0, none⟩) l.length l.length) ∧ Hid (l'.length = l.length) ∧ Hid (l'.Perm l) ∧ Hid (Asc g l') ∧ Hid (w'.heap[r]? = some (.cells (flat l').toArray 29 (0, 0))) ∧ Hid (S2 W0 w' ⟨hb, mb, most, g, v, l⟩ d2) ∧ Hid (Below W.heap.size W w') := by
  refine (all_any (show HQ W hb mb most g v l from h.a1) h0).mono ?_
  rintro e w' ⟨r, l', rfl, h1, ⟨h2, h3⟩, h4, h5, h6⟩
  exact ⟨r, l', rfl, hide h1, hide h2, hide h3, hide h4, hide (h.more h5), hide h5⟩
end
/-- The keys from t on, round about, k of them. -/
def rot (zs : List Int) (t n k : Nat) : List It := (List.range k).map fun j : Nat => (((j + t) % n : Nat), zs.getD ((j + t) % n) 0)
theorem rot_len (zs : List Int) (t n k : Nat) : (rot zs t n k).length = k := by simp [rot]
theorem rot_succ (zs : List Int) (t n k : Nat) : rot zs t n (k + 1) = rot zs t n k ++ [((((k + t) % n : Nat) : Int), zs.getD ((k + t) % n) 0)] := by simp [rot, List.range_succ]
theorem rot_mem {zs : List Int} {t n k : Nat} {x : It} (h : x ∈ rot zs t n k) : ∃ j, j < k ∧ x = ((((j + t) % n : Nat) : Int), zs.getD ((j + t) % n) 0) := by
  simp [rot] at h
  obtain ⟨i, h1, h2⟩ := h
  exact ⟨i, h1, by rw [← h2]; simp⟩
theorem rot_inj {t n i j : Nat} (hi : i < n) (hj : j < n) (h : (i + t) % n = (j + t) % n) : i = j := by
  have h1 := Nat.div_add_mod (i + t) n
  have h2 := Nat.div_add_mod (j + t) n
  rcases Nat.lt_trichotomy ((i + t) / n) ((j + t) / n) with h3 | h3 | h3
  · have : n * ((i + t) / n) + n ≤ n * ((j + t) / n) := by rw [← Nat.mul_succ]; exact Nat.mul_le_mul_left _ h3
    omega
  · rw [h3] at h1; omega
  · have : n * ((j + t) / n) + n ≤ n * ((i + t) / n) := by rw [← Nat.mul_succ]; exact Nat.mul_le_mul_left _ h3
    omega
theorem rot_perm (zs : List Int) (t n : Nat) (ht : t < n) : (rot zs t n n).Perm (its zs n) := by
  have n1 : (rot zs t n n).Nodup := by
    unfold rot List.Nodup
    rw [List.pairwise_map]
    refine List.Pairwise.imp_of_mem ?_ (List.nodup_range (n := n))
    intro a b ha hb h e
    have e' := congrArg Prod.fst e
    simp only at e'
    exact h (rot_inj (t := t) (List.mem_range.1 ha) (List.mem_range.1 hb) (by omega))
  have n2 : (its zs n).Nodup := by
    have := its_ids zs n
    unfold Ids at this
    unfold List.Nodup at *
    rw [List.pairwise_map] at this
    exact this.imp fun h e => h (by rw [e])
  rw [List.perm_ext_iff_of_nodup n1 n2]
  intro x
  constructor
  · intro h
    obtain ⟨j, hj, rfl⟩ := rot_mem h
    have : (j + t) % n < n := Nat.mod_lt _ (by omega)
    simp only [its, List.mem_map, List.mem_range]
    exact ⟨(j + t) % n, this, rfl⟩
  · intro h
    obtain ⟨i, hi, rfl⟩ := its_mem h
    simp only [rot, List.mem_map, List.mem_range]
    by_cases h1 : t ≤ i
    · exact ⟨i - t, by omega, by rw [show i - t + t = i by omega, Nat.mod_eq_of_lt hi]⟩
    · exact ⟨i + n - t, by omega, by rw [show i + n - t + t = i + n by omega, Nat.add_mod_right, Nat.mod_eq_of_lt hi]⟩
theorem all_same {g : Bool} {zs : List Int} {t n : Nat} {l1 l2 x y : List It} (ht : t < n) (h1 : l1.Perm (its zs n)) (h2 : l2.Perm (rot zs t n n)) (hx : x.Perm l1) (hy : y.Perm l2) (ax : Asc g x) (ay : Asc g y) : x = y :=
  asc_eq ax ay ((hx.trans h1).trans ((hy.trans h2).trans (rot_perm zs t n ht)).symm)
end Go.Proofs.Ytocgeplpehioeaa.Con
