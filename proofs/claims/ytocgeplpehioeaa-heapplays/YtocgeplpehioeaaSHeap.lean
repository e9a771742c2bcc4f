/- What siftDownCmpFunc and heapSortCmpFunc keep. Of no program. -/
import Derived.Test.YtocgeplpehioeaaSSo
namespace Go.Proofs.Ytocgeplpehioeaa.Con
open Go.RowKit Go.Proofs.Ytocgeplpehioeaa.Hq
set_option linter.unusedVariables false
/-- From lo on, ahead of hi, counted from a: none is ahead of one below it. -/
def Mx (g : Bool) (a lo hi : Nat) (m : List It) : Prop := ∀ c, 0 < c → c < hi → lo ≤ (c - 1) / 2 → le g (at' m (a + c)) (at' m (a + (c - 1) / 2))
/-- .. but for the children of x; those are not past x's own parent. -/
def Mxx (g : Bool) (a lo hi x : Nat) (m : List It) : Prop :=
  (∀ c, 0 < c → c < hi → lo ≤ (c - 1) / 2 → (c - 1) / 2 ≠ x → le g (at' m (a + c)) (at' m (a + (c - 1) / 2))) ∧
  (∀ c, 0 < c → c < hi → (c - 1) / 2 = x → 0 < x → lo ≤ (x - 1) / 2 → le g (at' m (a + c)) (at' m (a + (x - 1) / 2)))
theorem mxx_start {g : Bool} {a lo hi : Nat} {m : List It} (h : Mx g a (lo + 1) hi m) : Mxx g a lo hi lo m :=
  ⟨fun c c0 c1 c2 c3 => h c c0 c1 (by omega), fun c c0 c1 c2 c3 c4 => by omega⟩
theorem mxx_end {g : Bool} {a lo hi x : Nat} {m : List It} (h : Mxx g a lo hi x m) (hk : ∀ c, 0 < c → c < hi → (c - 1) / 2 = x → le g (at' m (a + c)) (at' m (a + x))) : Mx g a lo hi m := by
  intro c c0 c1 c2
  by_cases e : (c - 1) / 2 = x
  · rw [e]; exact hk c c0 c1 e
  · exact h.1 c c0 c1 c2 e
theorem mxx_step {g : Bool} {a lo hi x d : Nat} {m : List It} (h : Mxx g a lo hi x m) (hlo : lo ≤ x) (hd0 : 0 < d) (hd : d < hi) (hdx : (d - 1) / 2 = x) (hlen : a + hi ≤ m.length) (hlt : lt g (at' m (a + x)) (at' m (a + d)) = true)
    (hm : ∀ c, 0 < c → c < hi → (c - 1) / 2 = x → le g (at' m (a + c)) (at' m (a + d))) : Mxx g a lo hi d (swp m (a + x) (a + d)) := by
  have A := fun k => at_swp m (a + x) (a + d) k (by omega) (by omega)
  have hle := le_of_lt hlt
  refine ⟨fun c c0 c1 c2 c3 => ?_, fun c c0 c1 c2 c3 c4 => ?_⟩
  · rw [A, A]
    by_cases e : c = d
    · subst e
      rw [if_pos rfl, if_neg (by omega), if_pos (by omega)]; exact hle
    · rw [if_neg (show ¬ a + c = a + d by omega)]
      rw [if_neg (show ¬ a + (c - 1) / 2 = a + d by omega)]
      by_cases e2 : (c - 1) / 2 = x
      · rw [if_pos (show a + (c - 1) / 2 = a + x by omega), if_neg (show ¬ a + c = a + x by omega)]
        exact hm c c0 c1 e2
      · rw [if_neg (show ¬ a + (c - 1) / 2 = a + x by omega)]
        by_cases e3 : c = x
        · rw [if_pos (show a + c = a + x by omega)]
          subst e3
          exact h.2 d hd0 hd hdx c0 c2
        · rw [if_neg (show ¬ a + c = a + x by omega)]
          exact h.1 c c0 c1 c2 e2
  · rw [A, A, hdx, if_neg (show ¬ a + c = a + d by omega), if_neg (show ¬ a + c = a + x by omega), if_neg (show ¬ a + x = a + d by omega), if_pos rfl]
    have := h.1 c c0 c1 (by omega) (by omega)
    rw [c2] at this; exact this
/-- The first is the last of all. -/
theorem mx_top {g : Bool} {a hi : Nat} {m : List It} (h : Mx g a 0 hi m) : ∀ c, c < hi → le g (at' m (a + c)) (at' m a) := by
  intro c
  induction c using Nat.strongRecOn with
  | ind c ih =>
    intro hc
    by_cases e : c = 0
    · subst e; exact le_refl _ _
    · exact le_trans (h c (by omega) hc (by omega)) (ih ((c - 1) / 2) (by omega) (by omega))
/-- Ahead of i a heap; from i on in order, and past all that are ahead. -/
def Hs (g : Bool) (a n i : Nat) (m : List It) : Prop := Mx g a 0 i m ∧ (∀ k, a + i < k → k < a + n → le g (at' m (k - 1)) (at' m k)) ∧ (∀ c k, c < i → a + i ≤ k → k < a + n → le g (at' m (a + c)) (at' m k))
theorem hs_start {g : Bool} {a n : Nat} {m : List It} (h : Mx g a 0 n m) : Hs g a n n m := ⟨h, fun k h1 h2 => by omega, fun c k h1 h2 h3 => by omega⟩
/-- The first to place i: what is left is a heap but for its top. -/
theorem hs_swap {g : Bool} {a n i : Nat} {m : List It} (h : Hs g a n (i + 1) m) (hi : i + 1 ≤ n) (hlen : a + n ≤ m.length) :
    Mx g a 1 i (swp m a (a + i)) ∧ (∀ k, a + i < k → k < a + n → le g (at' (swp m a (a + i)) (k - 1)) (at' (swp m a (a + i)) k)) ∧ (∀ c k, c < i → a + i ≤ k → k < a + n → le g (at' (swp m a (a + i)) (a + c)) (at' (swp m a (a + i)) k)) := by
  have A := fun k => at_swp m a (a + i) k (by omega) (by omega)
  have top := mx_top h.1
  refine ⟨fun c c0 c1 c2 => ?_, fun k k1 k2 => ?_, fun c k c1 k1 k2 => ?_⟩
  · rw [A, A, if_neg (by omega), if_neg (by omega), if_neg (by omega), if_neg (by omega)]
    exact h.1 c c0 (by omega) (by omega)
  · rw [A k, if_neg (by omega), if_neg (by omega), A (k - 1)]
    by_cases e : k - 1 = a + i
    · rw [if_pos e]; exact h.2.2 0 k (by omega) (by omega) k2
    · rw [if_neg e, if_neg (by omega)]; exact h.2.1 k (by omega) k2
  · have hc : le g (at' (swp m a (a + i)) (a + c)) (at' m a) := by
      rw [A, if_neg (by omega)]
      by_cases e : c = 0
      · rw [if_pos (by omega)]; exact top i (by omega)
      · rw [if_neg (by omega)]; exact top c (by omega)
    rw [A k]
    by_cases e : k = a + i
    · rw [if_pos e]; exact hc
    · rw [if_neg e, if_neg (by omega)]
      exact le_trans hc (h.2.2 0 k (by omega) (by omega) k2)
/-- Exchanges among the first i keep what stands behind. -/
theorem hs_sift {g : Bool} {a n i : Nat} {m m' : List It} (hm : Mx g a 0 i m') (hr : Rng a (a + i) m m')
    (h2 : ∀ k, a + i < k → k < a + n → le g (at' m (k - 1)) (at' m k)) (h3 : ∀ c k, c < i → a + i ≤ k → k < a + n → le g (at' m (a + c)) (at' m k)) : Hs g a n i m' := by
  refine ⟨hm, fun k k1 k2 => ?_, fun c k c1 k1 k2 => ?_⟩
  · rw [hr.out (.inr (by omega)), hr.out (.inr (by omega))]; exact h2 k k1 k2
  · rw [hr.out (k := k) (.inr (by omega))]
    have := hr.all (P := fun x => le g x (at' m k)) (fun j j1 j2 => by
      have := h3 (j - a) k (by omega) k1 k2
      rwa [show a + (j - a) = j by omega] at this)
    exact this (a + c) (by omega) (by omega)
theorem hs_end {g : Bool} {a n : Nat} {m : List It} (h : Hs g a n 0 m) : Srt g a (a + n) m := fun k k1 k2 => h.2.1 k (by omega) k2
end Go.Proofs.Ytocgeplpehioeaa.Con
