/- Who runs: plain mathematics, by the chapter's words. Of no program. -/
import Derived.RowKit
import Derived.WalkKit
import Derived.ProofKit
namespace Go.Proofs.Ytacbiiiadalocaa.Ed
open Go.RowKit
set_option linter.unusedVariables false
set_option linter.unusedSimpArgs false
/-- An entry: id, Due, fixed. -/
abbrev Et := Int × Int × Bool
theorem hide {p : Prop} (h : p) : Hid p := h
def lessB (a b : Et) : Bool := decide (a.2.1 < b.2.1 ∨ (a.2.1 = b.2.1 ∧ a.1 < b.1))
/-- Who goes first. -/
def bef (a b : Et) : Bool := (a.2.2 && !b.2.2) || (a.2.2 == b.2.2 && lessB a b)
def fixN (L : List Et) : Nat := L.countP (fun e => e.2.2)
def ids (L : List Et) : List Int := L.map (·.1)
def idsB (L : List Et) : Bool := L.all (fun e => decide (0 ≤ e.1 ∧ e.1 ≤ 1023)) && decide (ids L).Nodup
def goodE (m : Int) (L : List Et) : Bool := decide (1 ≤ m ∧ m ≤ 64) && decide (L.length ≤ 64) && idsB L && decide ((fixN L : Int) ≤ m)
def rank (L : List Et) (e : Et) : Nat := L.countP (fun x => bef x e)
def runs (m : Int) (L : List Et) (e : Et) : Bool := decide ((rank L e : Int) < m)
def rl (m : Int) (L : List Et) : List Et := L.filter (runs m L)
def sorted (R : List Et) : List Int := ((List.range 1024).filter (fun (i : Nat) => R.any (fun e => e.1 == (i : Int)))).map (fun (i : Nat) => (i : Int))
def pickL (m : Int) (L : List Et) : List Int := if goodE m L = true then sorted (rl m L) else []
/-- Those of whom none is behind (ahead of) another one that is meant. -/
def last (p : Et → Bool) (L : List Et) : Option Et := L.find? (fun e => p e && L.all (fun x => !(p x && lessB e x)))
def head (p : Et → Bool) (L : List Et) : Option Et := L.find? (fun e => p e && L.all (fun x => !(p x && lessB x e)))
def worstO (m : Int) (L : List Et) : Option Et := if goodE m L = true then last (fun e => runs m L e && !e.2.2) L else none
def firstO (m : Int) (L : List Et) : Option Et := if goodE m L = true then head (fun e => !runs m L e) L else none
def val (o : Option Et) : Et := o.getD (0, 0, false)
def outO (m : Int) (L : List Et) (x : Et) : Option Et := L.find? (fun e => runs m L e && !runs m (L ++ [x]) e)
def beatsB (m : Int) (L : List Et) (x : Et) : Bool := goodE m (L ++ [x]) && runs m (L ++ [x]) x
def beatsN (m : Int) (L : List Et) (x : Et) : Int := if beatsB m L x = true then ((outO m L x).map (·.1)).getD (-1) else 0
def at' (L : List Et) (j : Nat) : Et := L.getD j (0, 0, false)
theorem at_eq {L : List Et} {j : Nat} (h : j < L.length) : L[j]? = some (at' L j) := by
  unfold at'; rw [List.getD_eq_getElem?_getD, List.getElem?_eq_getElem h]; rfl
theorem at_mem {L : List Et} {j : Nat} (h : j < L.length) : at' L j ∈ L := List.mem_of_getElem? (at_eq h)
theorem mem_at {L : List Et} {x : Et} (h : x ∈ L) : ∃ j, j < L.length ∧ at' L j = x := by
  obtain ⟨j, hj, rfl⟩ := List.mem_iff_getElem.1 h
  have := at_eq hj
  rw [List.getElem?_eq_getElem hj] at this
  exact ⟨j, hj, (Option.some.inj this).symm⟩
theorem take_snoc (l : List Et) (k : Nat) (h : k < l.length) : l.take (k + 1) = l.take k ++ [at' l k] := by
  rw [List.take_add_one, at_eq h]; rfl

/-! The order. -/
theorem less_iff {a b : Et} : lessB a b = true ↔ a.2.1 < b.2.1 ∨ (a.2.1 = b.2.1 ∧ a.1 < b.1) := decide_eq_true_iff
theorem bef_iff {a b : Et} : bef a b = true ↔ (a.2.2 = true ∧ b.2.2 = false) ∨ (a.2.2 = b.2.2 ∧ (a.2.1 < b.2.1 ∨ (a.2.1 = b.2.1 ∧ a.1 < b.1))) := by
  unfold bef
  simp only [Bool.or_eq_true, Bool.and_eq_true, Bool.not_eq_true', beq_iff_eq, less_iff]
theorem bef_irr (a : Et) : bef a a = false := by
  cases h : bef a a with
  | false => rfl
  | true => rcases bef_iff.1 h with ⟨h1, h2⟩ | ⟨_, h2⟩
            · rw [h1] at h2; cases h2
            · omega
theorem bef_trans {a b c : Et} (h : bef a b = true) (k : bef b c = true) : bef a c = true := by
  rw [bef_iff] at h k ⊢
  rcases h with ⟨h1, h2⟩ | ⟨h1, h2⟩ <;> rcases k with ⟨k1, k2⟩ | ⟨k1, k2⟩
  · exact .inl ⟨h1, k2⟩
  · exact .inl ⟨h1, by rw [← k1]; exact h2⟩
  · exact .inl ⟨by rw [h1]; exact k1, k2⟩
  · exact .inr ⟨h1.trans k1, by omega⟩
theorem bef_total {a b : Et} (h : a.1 ≠ b.1) : bef a b = true ∨ bef b a = true := by
  rw [bef_iff, bef_iff]
  cases ha : a.2.2 <;> cases hb : b.2.2
  · rcases Int.lt_trichotomy a.2.1 b.2.1 with h1 | h1 | h1
    · exact .inl (.inr ⟨rfl, .inl h1⟩)
    · rcases Int.lt_or_gt_of_ne h with h2 | h2
      · exact .inl (.inr ⟨rfl, .inr ⟨h1, h2⟩⟩)
      · exact .inr (.inr ⟨rfl, .inr ⟨h1.symm, h2⟩⟩)
    · exact .inr (.inr ⟨rfl, .inl h1⟩)
  · exact .inr (.inl ⟨rfl, rfl⟩)
  · exact .inl (.inl ⟨rfl, rfl⟩)
  · rcases Int.lt_trichotomy a.2.1 b.2.1 with h1 | h1 | h1
    · exact .inl (.inr ⟨rfl, .inl h1⟩)
    · rcases Int.lt_or_gt_of_ne h with h2 | h2
      · exact .inl (.inr ⟨rfl, .inr ⟨h1, h2⟩⟩)
      · exact .inr (.inr ⟨rfl, .inr ⟨h1.symm, h2⟩⟩)
    · exact .inr (.inr ⟨rfl, .inl h1⟩)
theorem bef_asym {a b : Et} (h : bef a b = true) : bef b a = false := by
  cases k : bef b a with
  | false => rfl
  | true => have := bef_trans h k; rw [bef_irr] at this; cases this
theorem bef_free {a b : Et} (ha : a.2.2 = false) (hb : b.2.2 = false) : bef a b = lessB a b := by unfold bef; rw [ha, hb]; rfl
theorem less_irr (a : Et) : lessB a a = false := decide_eq_false (by omega)
theorem less_trans {a b c : Et} (h : lessB a b = true) (k : lessB b c = true) : lessB a c = true := by rw [less_iff] at *; omega
theorem less_total {a b : Et} (h : a.1 ≠ b.1) : lessB a b = true ∨ lessB b a = true := by rw [less_iff, less_iff]; omega

/-! Counting. -/
theorem count_le {p q : Et → Bool} {L : List Et} (h : ∀ x ∈ L, p x = true → q x = true) : L.countP p ≤ L.countP q := List.countP_mono_left h
theorem count_lt {p q : Et → Bool} {L : List Et} (h : ∀ x ∈ L, p x = true → q x = true) {a : Et} (ha : a ∈ L) (hp : p a = false) (hq : q a = true) : L.countP p < L.countP q := by
  induction L with
  | nil => cases ha
  | cons x L ih =>
    have hx := h x (by simp)
    have hL := count_le (L := L) (fun y hy => h y (by simp [hy]))
    rw [List.countP_cons, List.countP_cons]
    rcases List.mem_cons.1 ha with rfl | ha'
    · rw [hp, hq]; simp; omega
    · have := ih (fun y hy => h y (by simp [hy])) ha'
      cases hpx : p x with
      | false => simp; split <;> omega
      | true => rw [hx hpx]; simp; omega
theorem nodup_ne {L : List Et} (h : (ids L).Nodup) {i j : Nat} (hi : i < L.length) (hj : j < L.length) (hne : i ≠ j) : (at' L i).1 ≠ (at' L j).1 := by
  intro e
  have a1 : (ids L)[i]? = some (at' L i).1 := by unfold ids; rw [List.getElem?_map, at_eq hi]; rfl
  have a2 : (ids L)[j]? = some (at' L j).1 := by unfold ids; rw [List.getElem?_map, at_eq hj]; rfl
  rw [e, ← a2] at a1
  have hil : i < (ids L).length := by unfold ids; simpa using hi
  exact hne ((List.getElem?_inj hil h).1 a1)
theorem nodup_eq {L : List Et} (h : (ids L).Nodup) {a b : Et} (ha : a ∈ L) (hb : b ∈ L) (he : a.1 = b.1) : a = b := by
  obtain ⟨i, hi, rfl⟩ := mem_at ha
  obtain ⟨j, hj, rfl⟩ := mem_at hb
  rcases Nat.decEq i j with hne | rfl
  · exact absurd he (nodup_ne h hi hj hne)
  · rfl
theorem rank_mono {L : List Et} {a b : Et} (ha : a ∈ L) (h : bef a b = true) : rank L a < rank L b :=
  count_lt (fun x _ hx => bef_trans hx h) ha (bef_irr a) h
theorem rank_lt {L : List Et} {a : Et} (ha : a ∈ L) : rank L a < L.length := by
  have := count_lt (p := fun x => bef x a) (q := fun _ => true) (L := L) (fun _ _ _ => rfl) ha (bef_irr a) rfl
  rwa [List.countP_true] at this
theorem rank_inj {L : List Et} (h : (ids L).Nodup) {a b : Et} (ha : a ∈ L) (hb : b ∈ L) (he : rank L a = rank L b) : a = b := by
  rcases Decidable.em (a.1 = b.1) with e | e
  · exact nodup_eq h ha hb e
  · rcases bef_total e with k | k
    · have := rank_mono ha k; omega
    · have := rank_mono hb k; omega
theorem bef_of_rank {L : List Et} (h : (ids L).Nodup) {a b : Et} (ha : a ∈ L) (hb : b ∈ L) (hlt : rank L a < rank L b) : bef a b = true := by
  have hne : a.1 ≠ b.1 := fun e => by have := nodup_eq h ha hb e; subst this; omega
  rcases bef_total hne with k | k
  · exact k
  · have := rank_mono hb k; omega
theorem least_of {L : List Et} {n : Nat} : ∀ r, (∃ e ∈ L, n ≤ rank L e ∧ rank L e ≤ r) → ∃ e ∈ L, n ≤ rank L e ∧ ∀ x ∈ L, n ≤ rank L x → rank L e ≤ rank L x := by
  intro r
  induction r with
  | zero =>
    rintro ⟨e, he, h1, h2⟩
    exact ⟨e, he, h1, fun x hx hn => by omega⟩
  | succ r ih =>
    rintro ⟨e, he, h1, h2⟩
    by_cases hs : ∃ e ∈ L, n ≤ rank L e ∧ rank L e ≤ r
    · exact ih hs
    · refine ⟨e, he, h1, fun x hx hn => ?_⟩
      have : ¬ rank L x ≤ r := fun k => hs ⟨x, hx, hn, k⟩
      omega
/-- As many as n stand at places below n. -/
theorem count_rank {L : List Et} (h : (ids L).Nodup) : ∀ n, n ≤ L.length → L.countP (fun e => decide (rank L e < n)) = n := by
  intro n
  induction n with
  | zero => intro _; exact List.countP_eq_zero.2 (fun a _ => by simp)
  | succ n ih =>
    intro hn
    have hc := ih (by omega)
    have hex : ∃ e ∈ L, n ≤ rank L e := by
      refine Classical.byContradiction fun hno => ?_
      have hall : L.countP (fun e => decide (rank L e < n)) = L.length := List.countP_eq_length.2 (fun a ha => decide_eq_true (by
        refine Classical.byContradiction fun hge => hno ⟨a, ha, by omega⟩))
      omega
    obtain ⟨e, he, h1⟩ := hex
    obtain ⟨e, he, h1, h2⟩ := least_of (rank L e) ⟨e, he, h1, Nat.le_refl _⟩
    have hle : rank L e ≤ n := by
      have : rank L e ≤ L.countP (fun e => decide (rank L e < n)) := count_le (fun x hx hb => by
        refine decide_eq_true (Classical.byContradiction fun hge => ?_)
        have a1 := h2 x hx (by omega)
        have a2 := rank_mono hx hb
        omega)
      omega
    have hre : rank L e = n := by omega
    have hlow : n < L.countP (fun e => decide (rank L e < n + 1)) := by
      have := count_lt (p := fun e => decide (rank L e < n)) (q := fun e => decide (rank L e < n + 1)) (L := L) (fun x _ hx => decide_eq_true (by have := of_decide_eq_true hx; omega)) he (decide_eq_false (by omega)) (decide_eq_true (by omega))
      omega
    have hup : L.countP (fun e => decide (rank L e < n + 1)) ≤ L.countP (fun e => decide (rank L e < n)) + 1 := by
      clear ih hn hc h1 h2 hle hlow
      have one : L.countP (fun x => decide (rank L x = n)) ≤ 1 := by
        have hnd : (L.map (rank L)).Nodup := by
          refine List.pairwise_iff_getElem.2 fun i j hi hj hij => ?_
          simp only [List.length_map] at hi hj
          simp only [List.getElem_map]
          intro heq
          have e1 := rank_inj h (List.getElem_mem hi) (List.getElem_mem hj) heq
          have d := List.pairwise_iff_getElem.1 h i j (by unfold ids; simpa using hi) (by unfold ids; simpa using hj) hij
          unfold ids at d
          simp only [List.getElem_map] at d
          exact d (by rw [e1])
        have := List.nodup_iff_count.1 hnd n
        rw [List.count_eq_countP, List.countP_map] at this
        refine Nat.le_trans (count_le fun x hx hd => ?_) this
        simpa using hd
      have : ∀ M : List Et, M.countP (fun e => decide (rank L e < n + 1)) = M.countP (fun e => decide (rank L e < n)) + M.countP (fun x => decide (rank L x = n)) := by
        intro M
        induction M with
        | nil => rfl
        | cons x M ih =>
          rw [List.countP_cons, List.countP_cons, List.countP_cons, ih]
          rcases Nat.lt_trichotomy (rank L x) n with g | g | g
          · simp [g, show rank L x < n + 1 by omega, show ¬ rank L x = n by omega]; omega
          · simp [g]; omega
          · simp [show ¬ rank L x < n + 1 by omega, show ¬ rank L x < n by omega, show ¬ rank L x = n by omega]
      rw [this]; omega
    omega
theorem count_runs {m : Int} {L : List Et} (h : (ids L).Nodup) (hm : 0 ≤ m) : (L.countP (runs m L) : Int) = min m L.length := by
  by_cases hl : (L.length : Int) ≤ m
  · have : L.countP (runs m L) = L.length := List.countP_eq_length.2 (fun a ha => decide_eq_true (by have := rank_lt ha; omega))
    omega
  · obtain ⟨n, rfl⟩ : ∃ n : Nat, m = (n : Int) := ⟨m.toNat, by omega⟩
    have := count_rank h n (by omega)
    have e : L.countP (runs (n : Int) L) = L.countP (fun e => decide (rank L e < n)) := by
      congr 1; funext e; unfold runs; simp
    rw [e, this]; omega
end Go.Proofs.Ytacbiiiadalocaa.Ed
