/- pdqsortCmpFunc, SortFunc. -/
import Derived.Test.YtocgeplpehioeaaSPin
import Derived.Test.YtocgeplpehioeaaSParW
import Derived.Test.YtocgeplpehioeaaSBrk
import Derived.Test.YtocgeplpehioeaaSChs
import Derived.Test.YtocgeplpehioeaaSHso
namespace Go.Proofs.Ytocgeplpehioeaa.Con
open Go.RowKit Go.Proofs.Ytocgeplpehioeaa.Hq
set_option linter.unusedVariables false
set_option linter.unusedSimpArgs false
attribute [local go_sem ↓] Go.wp_at_zero Go.wp_at_succ
theorem lt_of_le_ne {g : Bool} {m : List It} (hd : Ids m) {i j : Nat} (hi : i < m.length) (hj : j < m.length) (hne : i ≠ j) (h : le g (at' m i) (at' m j)) : lt g (at' m i) (at' m j) = true := by
  rcases Bool.eq_false_or_eq_true (lt g (at' m i) (at' m j)) with h1 | h1
  · exact h1
  · have := le_antisymm h (show le g (at' m j) (at' m i) from h1)
    exact absurd (hd.inj hi hj (by rw [this])) hne
/-- The left part sorted, then the right: the whole. -/
theorem parted_bel {g : Bool} {a b mid : Nat} {m : List It} (hd : Ids m) (hb : b ≤ m.length) (h : Parted g a b mid m) (h1 : a ≤ mid) (h2 : mid < b) : Bel g (mid + 1) b m := fun _ k k1 k2 => by
  rw [show mid + 1 - 1 = mid by omega]
  exact lt_of_le_ne hd (by omega) (by omega) (by omega) (h.2 k (by omega) k2)
theorem Parted.left {g : Bool} {a b mid : Nat} {m m' : List It} (h : Parted g a b mid m) (h1 : a ≤ mid) (h2 : mid < b) (hr : Rng a mid m m') : Parted g a b mid m' := by
  have e : at' m' mid = at' m mid := hr.out (.inr (Nat.le_refl _))
  refine ⟨fun k k1 k2 => ?_, fun k k1 k2 => ?_⟩
  · rw [e]; exact hr.all (P := fun x => lt g x (at' m mid) = true) h.1 k k1 k2
  · rw [e, hr.out (.inr (by omega))]; exact h.2 k k1 k2
theorem Parted.right {g : Bool} {a b mid : Nat} {m m' : List It} (h : Parted g a b mid m) (h1 : a ≤ mid) (h2 : mid < b) (hr : Rng (mid + 1) b m m') : Parted g a b mid m' := by
  have e : at' m' mid = at' m mid := hr.out (.inl (by omega))
  refine ⟨fun k k1 k2 => ?_, fun k k1 k2 => ?_⟩
  · rw [e, hr.out (.inl (by omega))]; exact h.1 k k1 k2
  · rw [e]; exact hr.all (P := fun x => le g (at' m mid) x) (fun i i1 i2 => h.2 i (by omega) i2) k (by omega) k2
theorem srt_join {g : Bool} {a b mid : Nat} {m : List It} (h : Parted g a b mid m) (h1 : a ≤ mid) (h2 : mid < b) (s1 : Srt g a mid m) (s2 : Srt g (mid + 1) b m) : Srt g a b m := fun k k1 k2 => by
  by_cases e1 : k < mid
  · exact s1 k k1 e1
  · by_cases e2 : k = mid
    · subst e2; exact le_of_lt (h.1 (k - 1) (by omega) (by omega))
    · by_cases e3 : k = mid + 1
      · subst e3; rw [show mid + 1 - 1 = mid by omega]; exact h.2 (mid + 1) (by omega) k2
      · exact s2 k (by omega) k2
/-- What is still to be sorted: outside [x, y) all stands as it shall. -/
def Todo (g : Bool) (a b x y : Nat) (m : List It) : Prop := ∀ m', Rng x y m m' → Srt g x y m' → Srt g a b m'
theorem todo_start (g : Bool) (a b : Nat) (m : List It) : Todo g a b a b m := fun m' _ h => h
theorem Todo.rng {g : Bool} {a b x y : Nat} {m m' : List It} (h : Todo g a b x y m) (hr : Rng x y m m') : Todo g a b x y m' := fun m'' h1 h2 => h m'' (hr.trans h1) h2
theorem Todo.left {g : Bool} {a b x y mid : Nat} {m : List It} (h : Todo g a b x y m) (hp : Parted g x y mid m) (h1 : x ≤ mid) (h2 : mid < y) (hs : Srt g x mid m) : Todo g a b (mid + 1) y m := fun m' hr hs' =>
  h m' (hr.mono (by omega) (Nat.le_refl _)) (srt_join (hp.right h1 h2 hr) h1 h2 (fun k k1 k2 => by rw [hr.out (.inl (by omega)), hr.out (.inl (by omega))]; exact hs k k1 k2) hs')
theorem Todo.right {g : Bool} {a b x y mid : Nat} {m : List It} (h : Todo g a b x y m) (hp : Parted g x y mid m) (h1 : x ≤ mid) (h2 : mid < y) (hs : Srt g (mid + 1) y m) : Todo g a b x mid m := fun m' hr hs' =>
  h m' (hr.mono (Nat.le_refl _) (by omega)) (srt_join (hp.left h1 h2 hr) h1 h2 hs' (fun k k1 k2 => by rw [hr.out (.inr (by omega)), hr.out (.inr (by omega))]; exact hs k k1 k2))
theorem Bel.left {g : Bool} {a b mid : Nat} {m : List It} (h : Bel g a b m) (h2 : mid ≤ b) : Bel g a mid m := fun h0 k k1 k2 => h h0 k k1 (by omega)
end Go.Proofs.Ytocgeplpehioeaa.Con
