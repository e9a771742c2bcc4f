/- Who runs: what follows. Plain mathematics. -/
import Derived.Test.YtacbiiiadalocaaEdPl
namespace Go.Proofs.Ytacbiiiadalocaa.Ed
open Go.RowKit
set_option linter.unusedVariables false
set_option linter.unusedSimpArgs false
theorem good_iff {m : Int} {L : List Et} : goodE m L = true ↔ (1 ≤ m ∧ m ≤ 64) ∧ L.length ≤ 64 ∧ (∀ e ∈ L, 0 ≤ e.1 ∧ e.1 ≤ 1023) ∧ (ids L).Nodup ∧ (fixN L : Int) ≤ m := by
  unfold goodE idsB
  simp only [Bool.and_eq_true, decide_eq_true_eq, List.all_eq_true, and_assoc]
/-! Ids, rising. -/
theorem sorted_mem {R : List Et} (hr : ∀ e ∈ R, 0 ≤ e.1 ∧ e.1 ≤ 1023) {i : Int} : i ∈ sorted R ↔ ∃ e ∈ R, e.1 = i := by
  unfold sorted
  simp only [List.mem_map, List.mem_filter, List.mem_range, List.any_eq_true, beq_iff_eq]
  constructor
  · rintro ⟨n, ⟨_, e, he, h1⟩, rfl⟩; exact ⟨e, he, h1⟩
  · rintro ⟨e, he, rfl⟩
    have := hr e he
    exact ⟨e.1.toNat, ⟨by omega, e, he, by omega⟩, by omega⟩
theorem sorted_inc (R : List Et) : (sorted R).Pairwise (· < ·) := by
  unfold sorted
  refine List.Pairwise.map _ (fun a b h => ?_) (List.Pairwise.filter _ List.pairwise_lt_range)
  show (a : Int) < (b : Int); omega
theorem sorted_same {R R' : List Et} (h : ∀ i : Int, (∃ e ∈ R, e.1 = i) ↔ (∃ e ∈ R', e.1 = i)) : sorted R = sorted R' := by
  have e : ∀ M : List Nat, M.filter (fun (i : Nat) => R.any (fun e => e.1 == (i : Int))) = M.filter (fun (i : Nat) => R'.any (fun e => e.1 == (i : Int))) := fun M => List.filter_congr fun n _ => by
    rw [Bool.eq_iff_iff]
    simp only [List.any_eq_true, beq_iff_eq]
    exact h n
  unfold sorted
  rw [e]
theorem inc_ext {a b : List Int} (ha : a.Pairwise (· < ·)) (hb : b.Pairwise (· < ·)) (h : ∀ i, i ∈ a ↔ i ∈ b) : a = b := by
  induction a generalizing b with
  | nil =>
    cases b with
    | nil => rfl
    | cons y b => have := (h y).2 (by simp); cases this
  | cons x a ih =>
    cases b with
    | nil => have := (h x).1 (by simp); cases this
    | cons y b =>
      rw [List.pairwise_cons] at ha hb
      have hxy : x = y := by
        rcases List.mem_cons.1 ((h x).1 (by simp)) with e | e
        · exact e
        · rcases List.mem_cons.1 ((h y).2 (by simp)) with e' | e'
          · exact e'.symm
          · have a1 := hb.1 x e
            have a2 := ha.1 y e'
            omega
      subst hxy
      congr 1
      refine ih ha.2 hb.2 fun i => ?_
      constructor
      · intro hi
        rcases List.mem_cons.1 ((h i).1 (by simp [hi])) with e | e
        · have := ha.1 i hi; omega
        · exact e
      · intro hi
        rcases List.mem_cons.1 ((h i).2 (by simp [hi])) with e | e
        · have := hb.1 i hi; omega
        · exact e
theorem range_one {p : Nat → Bool} {a : Nat} (hp : p a = false) : ∀ N, a < N → (List.range N).countP (fun i => p i || i == a) = (List.range N).countP p + 1 := by
  have low : ∀ N, N ≤ a → (List.range N).countP (fun i => p i || i == a) = (List.range N).countP p := fun N hN => List.countP_congr (fun i hi => by
    have : i < N := List.mem_range.1 hi
    have hne : (i == a) = false := by simp; omega
    rw [hne, Bool.or_false])
  intro N
  induction N with
  | zero => intro h; omega
  | succ N ih =>
    intro h
    rw [List.range_succ, List.countP_append, List.countP_append]
    by_cases e : a = N
    · subst e
      rw [low a (Nat.le_refl _)]
      simp [hp]
    · rw [ih (by omega)]
      have hne : (N == a) = false := by simp; omega
      simp [hne, List.countP_singleton]
      omega
theorem sorted_len {R : List Et} (hr : ∀ e ∈ R, 0 ≤ e.1 ∧ e.1 ≤ 1023) (hn : (ids R).Nodup) : (sorted R).length = R.length := by
  unfold sorted
  rw [List.length_map, ← List.countP_eq_length_filter]
  induction R with
  | nil => simp
  | cons x R ih =>
    have hx := hr x (by simp)
    unfold ids at hn
    rw [List.map_cons, List.nodup_cons] at hn
    have := ih (fun e he => hr e (by simp [he])) hn.2
    rw [List.length_cons, ← this]
    have hno : (R.any fun e => e.1 == ((x.1.toNat : Nat) : Int)) = false := by
      rw [List.any_eq_false]
      intro e he h1
      refine hn.1 (List.mem_map.2 ⟨e, he, ?_⟩)
      have : e.1 = ((x.1.toNat : Nat) : Int) := by simpa using h1
      omega
    rw [← range_one (p := fun i => R.any fun e => e.1 == (i : Int)) (a := x.1.toNat) hno 1024 (by omega)]
    refine List.countP_congr fun i _ => ?_
    rw [List.any_cons, Bool.or_comm]
    have : (x.1 == (i : Int)) = (i == x.1.toNat) := by
      rw [Bool.eq_iff_iff]; simp only [beq_iff_eq]; omega
    rw [this]
theorem ids_sub {R L : List Et} (h : List.Sublist R L) (hn : (ids L).Nodup) : (ids R).Nodup := (h.map _).nodup hn
theorem rl_mem {m : Int} {L : List Et} {e : Et} (h : e ∈ rl m L) : e ∈ L := by unfold rl at h; exact (List.mem_filter.1 h).1
theorem pick_good {m : Int} {L : List Et} (h : goodE m L = true) : pickL m L = sorted (rl m L) := if_pos h
theorem pick_len {m : Int} {L : List Et} (h : goodE m L = true) : ((pickL m L).length : Int) = min m L.length := by
  obtain ⟨h1, h2, h3, h4, h5⟩ := good_iff.1 h
  rw [pick_good h, sorted_len (R := rl m L) (fun e he => h3 e (rl_mem he)) (ids_sub (show List.Sublist (rl m L) L from List.filter_sublist) h4), ← count_runs h4 (by omega), List.countP_eq_length_filter]; rfl
theorem pick_mem {m : Int} {L : List Et} (h : goodE m L = true) {i : Int} : i ∈ pickL m L ↔ ∃ e ∈ L, runs m L e = true ∧ e.1 = i := by
  obtain ⟨h1, h2, h3, h4, h5⟩ := good_iff.1 h
  rw [pick_good h, sorted_mem (R := rl m L) (fun e he => h3 e (rl_mem he))]
  unfold rl
  simp only [List.mem_filter, and_assoc]
theorem pick_runs {m : Int} {L : List Et} (h : goodE m L = true) {e : Et} (he : e ∈ L) : e.1 ∈ pickL m L ↔ runs m L e = true := by
  rw [pick_mem h]
  constructor
  · rintro ⟨x, hx, h1, h2⟩
    rwa [← nodup_eq (good_iff.1 h).2.2.2.1 hx he h2]
  · exact fun h1 => ⟨e, he, h1, rfl⟩
theorem pick_le {m : Int} {L : List Et} : (pickL m L).length ≤ 64 := by
  cases h : goodE m L with
  | true => have := pick_len h; have := (good_iff.1 h).2.1; omega
  | false => unfold pickL; rw [if_neg (by rw [h]; decide)]; simp
/-! Who may not be stopped runs. -/
theorem fixed_runs {m : Int} {L : List Et} (h : goodE m L = true) {e : Et} (he : e ∈ L) (hf : e.2.2 = true) : runs m L e = true := by
  have h5 := (good_iff.1 h).2.2.2.2
  have : rank L e < fixN L := count_lt (fun x _ hx => by
    rcases bef_iff.1 hx with ⟨h1, h2⟩ | ⟨h1, h2⟩
    · exact h1
    · rw [h1]; exact hf) he (bef_irr e) hf
  exact decide_eq_true (by omega)
theorem best {m : Int} {L : List Et} (h : goodE m L = true) {i k : Et} (hi : i ∈ L) (hk : k ∈ L) (hri : runs m L i = true) (hrk : runs m L k = false) (hf : i.2.2 = false) : lessB k i = false := by
  have hfk : k.2.2 = false := by
    cases e : k.2.2 with
    | false => rfl
    | true => rw [fixed_runs h hk e] at hrk; cases hrk
  cases hl : lessB k i with
  | false => rfl
  | true =>
    rw [← bef_free hfk hf] at hl
    have := rank_mono hk hl
    have a1 : (rank L i : Int) < m := of_decide_eq_true hri
    have a2 : ¬ (rank L k : Int) < m := of_decide_eq_false hrk
    omega
/-! The greatest and the least. -/
theorem max_ex {p : Et → Bool} : ∀ (M : List Et), (∃ e ∈ M, p e = true) → ∃ w ∈ M, p w = true ∧ ∀ x ∈ M, p x = true → lessB w x = false := by
  intro M
  induction M with
  | nil => rintro ⟨e, he, _⟩; cases he
  | cons y M ih =>
    intro h
    by_cases hM : ∃ e ∈ M, p e = true
    · obtain ⟨w, hw, h1, h2⟩ := ih hM
      by_cases hy : p y = true ∧ lessB w y = true
      · refine ⟨y, by simp, hy.1, fun x hx hp => ?_⟩
        rcases List.mem_cons.1 hx with rfl | hx
        · exact less_irr _
        · have := h2 x hx hp
          have k := hy.2
          rw [less_iff] at k
          refine decide_eq_false fun g => ?_
          have := of_decide_eq_false this
          omega
      · refine ⟨w, by simp [hw], h1, fun x hx hp => ?_⟩
        rcases List.mem_cons.1 hx with rfl | hx
        · cases e : lessB w x with
          | false => rfl
          | true => exact absurd ⟨hp, e⟩ hy
        · exact h2 x hx hp
    · obtain ⟨e, he, hp⟩ := h
      rcases List.mem_cons.1 he with rfl | he
      · refine ⟨e, by simp, hp, fun x hx hpx => ?_⟩
        rcases List.mem_cons.1 hx with rfl | hx
        · exact less_irr _
        · exact absurd ⟨x, hx, hpx⟩ hM
      · exact absurd ⟨e, he, hp⟩ hM
theorem min_ex {p : Et → Bool} : ∀ (M : List Et), (∃ e ∈ M, p e = true) → ∃ w ∈ M, p w = true ∧ ∀ x ∈ M, p x = true → lessB x w = false := by
  intro M
  induction M with
  | nil => rintro ⟨e, he, _⟩; cases he
  | cons y M ih =>
    intro h
    by_cases hM : ∃ e ∈ M, p e = true
    · obtain ⟨w, hw, h1, h2⟩ := ih hM
      by_cases hy : p y = true ∧ lessB y w = true
      · refine ⟨y, by simp, hy.1, fun x hx hp => ?_⟩
        rcases List.mem_cons.1 hx with rfl | hx
        · exact less_irr _
        · have := h2 x hx hp
          have k := hy.2
          rw [less_iff] at k
          refine decide_eq_false fun g => ?_
          have := of_decide_eq_false this
          omega
      · refine ⟨w, by simp [hw], h1, fun x hx hp => ?_⟩
        rcases List.mem_cons.1 hx with rfl | hx
        · cases e : lessB x w with
          | false => rfl
          | true => exact absurd ⟨hp, e⟩ hy
        · exact h2 x hx hp
    · obtain ⟨e, he, hp⟩ := h
      rcases List.mem_cons.1 he with rfl | he
      · refine ⟨e, by simp, hp, fun x hx hpx => ?_⟩
        rcases List.mem_cons.1 hx with rfl | hx
        · exact less_irr _
        · exact absurd ⟨x, hx, hpx⟩ hM
      · exact absurd ⟨e, he, hp⟩ hM
theorem last_eq {p : Et → Bool} {L : List Et} (hn : (ids L).Nodup) {w : Et} (hw : w ∈ L) (hp : p w = true) (hm : ∀ x ∈ L, p x = true → lessB w x = false) : last p L = some w := by
  unfold last
  cases h : L.find? (fun e => p e && L.all (fun x => !(p x && lessB e x))) with
  | none =>
    have := List.find?_eq_none.1 h w hw
    simp only [Bool.and_eq_true, List.all_eq_true, hp, true_and, Bool.not_eq_true', Bool.and_eq_false_imp] at this
    exact absurd (fun x hx hpx => hm x hx hpx) this
  | some v =>
    have h1 := List.find?_some h
    have hv := List.mem_of_find?_eq_some h
    simp only [Bool.and_eq_true, List.all_eq_true, Bool.not_eq_true', Bool.and_eq_false_imp] at h1
    have a1 := h1.2 w hw hp
    have a2 := hm v hv h1.1
    by_cases e : v.1 = w.1
    · rw [nodup_eq hn hv hw e]
    · rcases less_total e with k | k
      · rw [k] at a1; cases a1
      · rw [k] at a2; cases a2
theorem head_eq {p : Et → Bool} {L : List Et} (hn : (ids L).Nodup) {w : Et} (hw : w ∈ L) (hp : p w = true) (hm : ∀ x ∈ L, p x = true → lessB x w = false) : head p L = some w := by
  unfold head
  cases h : L.find? (fun e => p e && L.all (fun x => !(p x && lessB x e))) with
  | none =>
    have := List.find?_eq_none.1 h w hw
    simp only [Bool.and_eq_true, List.all_eq_true, hp, true_and, Bool.not_eq_true', Bool.and_eq_false_imp] at this
    exact absurd (fun x hx hpx => hm x hx hpx) this
  | some v =>
    have h1 := List.find?_some h
    have hv := List.mem_of_find?_eq_some h
    simp only [Bool.and_eq_true, List.all_eq_true, Bool.not_eq_true', Bool.and_eq_false_imp] at h1
    have a1 := h1.2 w hw hp
    have a2 := hm v hv h1.1
    by_cases e : v.1 = w.1
    · rw [nodup_eq hn hv hw e]
    · rcases less_total e with k | k
      · rw [k] at a2; cases a2
      · rw [k] at a1; cases a1
theorem last_none {p : Et → Bool} {L : List Et} (h : ∀ e ∈ L, p e = false) : last p L = none := List.find?_eq_none.2 fun x hx => by rw [h x hx]; simp
theorem head_none {p : Et → Bool} {L : List Et} (h : ∀ e ∈ L, p e = false) : head p L = none := List.find?_eq_none.2 fun x hx => by rw [h x hx]; simp
theorem last_cases {p : Et → Bool} {L : List Et} (hn : (ids L).Nodup) : (last p L = none ∧ ∀ e ∈ L, p e = false) ∨ ∃ w ∈ L, last p L = some w ∧ p w = true ∧ ∀ x ∈ L, p x = true → lessB w x = false := by
  by_cases h : ∃ e ∈ L, p e = true
  · obtain ⟨w, hw, h1, h2⟩ := max_ex L h
    exact .inr ⟨w, hw, last_eq hn hw h1 h2, h1, h2⟩
  · have h' : ∀ e ∈ L, p e = false := fun e he => by
      cases k : p e with
      | false => rfl
      | true => exact absurd ⟨e, he, k⟩ h
    exact .inl ⟨last_none h', h'⟩
theorem head_cases {p : Et → Bool} {L : List Et} (hn : (ids L).Nodup) : (head p L = none ∧ ∀ e ∈ L, p e = false) ∨ ∃ w ∈ L, head p L = some w ∧ p w = true ∧ ∀ x ∈ L, p x = true → lessB x w = false := by
  by_cases h : ∃ e ∈ L, p e = true
  · obtain ⟨w, hw, h1, h2⟩ := min_ex L h
    exact .inr ⟨w, hw, head_eq hn hw h1 h2, h1, h2⟩
  · have h' : ∀ e ∈ L, p e = false := fun e he => by
      cases k : p e with
      | false => rfl
      | true => exact absurd ⟨e, he, k⟩ h
    exact .inl ⟨head_none h', h'⟩
/-! Who runs, and who does not. -/
theorem split_first {m : Int} {L : List Et} (h : goodE m L = true) : (firstO m L).isSome = decide ((pickL m L).length < L.length) := by
  obtain ⟨h1, h2, h3, h4, h5⟩ := good_iff.1 h
  have hl := pick_len h
  have hc := count_runs (L := L) h4 (show 0 ≤ m by omega)
  unfold firstO
  rw [if_pos h]
  rcases head_cases (p := fun e => !runs m L e) h4 with ⟨e1, e2⟩ | ⟨w, hw, e1, e2, _⟩
  · rw [e1]
    have : L.countP (runs m L) = L.length := List.countP_eq_length.2 fun a ha => by simpa using e2 a ha
    exact (decide_eq_false (by omega)).symm
  · rw [e1]
    have : L.countP (runs m L) < L.length := by
      have := count_lt (p := runs m L) (q := fun _ => true) (L := L) (fun _ _ _ => rfl) hw (by simpa using e2) rfl
      rwa [List.countP_true] at this
    exact (decide_eq_true (by omega)).symm
theorem split_less {m : Int} {L : List Et} (h : goodE m L = true) {w f : Et} (hw : worstO m L = some w) (hf : firstO m L = some f) : lessB w f = true := by
  obtain ⟨h1, h2, h3, h4, h5⟩ := good_iff.1 h
  unfold worstO at hw
  unfold firstO at hf
  rw [if_pos h] at hw hf
  rcases last_cases (p := fun e => runs m L e && !e.2.2) h4 with ⟨e1, _⟩ | ⟨w', hw', e1, e2, _⟩
  · rw [e1] at hw; cases hw
  rcases head_cases (p := fun e => !runs m L e) h4 with ⟨g1, _⟩ | ⟨f', hf', g1, g2, _⟩
  · rw [g1] at hf; cases hf
  rw [e1] at hw; rw [g1] at hf
  obtain rfl := Option.some.inj hw
  obtain rfl := Option.some.inj hf
  simp only [Bool.and_eq_true, Bool.not_eq_true'] at e2 g2
  have hb := best h hw' hf' e2.1 g2 e2.2
  have hne : w'.1 ≠ f'.1 := fun e => by
    have := nodup_eq h4 hw' hf' e
    subst this
    rw [e2.1] at g2; cases g2
  rcases less_total hne with k | k
  · exact k
  · rw [k] at hb; cases hb
/-! In whatever order they stand; one more CPU. -/
theorem perm_rank {L R : List Et} (h : L.Perm R) (e : Et) : rank L e = rank R e := h.countP_eq _
theorem perm_runs {m : Int} {L R : List Et} (h : L.Perm R) (e : Et) : runs m L e = runs m R e := by unfold runs; rw [perm_rank h]
theorem perm_good {m : Int} {L R : List Et} (h : L.Perm R) : goodE m L = goodE m R := by
  have key : ∀ {L R : List Et}, L.Perm R → goodE m L = true → goodE m R = true := fun {L R} h g => by
    obtain ⟨h1, h2, h3, h4, h5⟩ := good_iff.1 g
    exact good_iff.2 ⟨h1, by rw [← h.length_eq]; exact h2, fun e he => h3 e (h.mem_iff.2 he), (h.map _).nodup_iff.1 h4, by unfold fixN at h5 ⊢; rw [← h.countP_eq]; exact h5⟩
  rw [Bool.eq_iff_iff]
  exact ⟨key h, key h.symm⟩
theorem perm_pick {m : Int} {L R : List Et} (h : L.Perm R) : pickL m L = pickL m R := by
  have e : sorted (rl m L) = sorted (rl m R) := by
   refine sorted_same fun i => ?_
   unfold rl
   simp only [List.mem_filter]
   constructor
   · rintro ⟨e, ⟨h1, h2⟩, h3⟩; exact ⟨e, ⟨h.mem_iff.1 h1, by rw [← perm_runs h]; exact h2⟩, h3⟩
   · rintro ⟨e, ⟨h1, h2⟩, h3⟩; exact ⟨e, ⟨h.mem_iff.2 h1, by rw [perm_runs h]; exact h2⟩, h3⟩
  unfold pickL
  rw [perm_good h, e]
theorem good_more {m : Int} {L : List Et} (h : goodE m L = true) (hm : m ≤ 63) : goodE (m + 1) L = true := by
  obtain ⟨h1, h2, h3, h4, h5⟩ := good_iff.1 h
  exact good_iff.2 ⟨by omega, h2, h3, h4, by omega⟩
theorem pick_more {m : Int} {L : List Et} (h : goodE m L = true) (hm : m ≤ 63) : (pickL (m + 1) L).length ≤ (pickL m L).length + 1 ∧ ∀ i ∈ pickL m L, i ∈ pickL (m + 1) L := by
  have h' := good_more h hm
  have a := pick_len h
  have b := pick_len h'
  have h1 := (good_iff.1 h).1
  refine ⟨by omega, fun i hi => ?_⟩
  obtain ⟨e, he, h2, h3⟩ := (pick_mem h).1 hi
  exact (pick_mem h').2 ⟨e, he, decide_eq_true (by have := of_decide_eq_true h2; omega), h3⟩
/-! One more. -/
theorem rank_app (L : List Et) (x e : Et) : rank (L ++ [x]) e = rank L e + if bef x e = true then 1 else 0 := by
  unfold rank; rw [List.countP_append, List.countP_singleton]
theorem rank_ex {L : List Et} (hn : (ids L).Nodup) {n : Nat} (h : n < L.length) : ∃ e ∈ L, rank L e = n := by
  have a := count_rank hn n (by omega)
  have b := count_rank hn (n + 1) (by omega)
  refine Classical.byContradiction fun hno => ?_
  have : L.countP (fun e => decide (rank L e < n + 1)) ≤ L.countP (fun e => decide (rank L e < n)) := count_le fun x hx hd => by
    have := of_decide_eq_true hd
    exact decide_eq_true (by
      have : rank L x ≠ n := fun e => hno ⟨x, hx, e⟩
      omega)
  omega
theorem app_parts {m : Int} {L : List Et} {x : Et} (h : goodE m (L ++ [x]) = true) : goodE m L = true ∧ (∀ e ∈ L, e.1 ≠ x.1) ∧ ((fixN L : Int) + (if x.2.2 = true then 1 else 0) ≤ m) ∧ (0 ≤ x.1 ∧ x.1 ≤ 1023) ∧ L.length ≤ 63 := by
  obtain ⟨h1, h2, h3, h4, h5⟩ := good_iff.1 h
  unfold ids at h4
  rw [List.map_append, List.nodup_append] at h4
  have e5 : (fixN (L ++ [x]) : Int) = (fixN L : Int) + (if x.2.2 = true then 1 else 0) := by
    unfold fixN; rw [List.countP_append, List.countP_singleton]; split <;> simp
  rw [List.length_append] at h2
  simp only [List.length_singleton] at h2
  have h6 : (fixN L : Int) ≤ m := by rw [e5] at h5; split at h5 <;> omega
  exact ⟨good_iff.2 ⟨h1, by omega, fun e he => h3 e (by simp [he]), h4.1, h6⟩, fun e he => h4.2.2 e.1 (List.mem_map.2 ⟨e, he, rfl⟩) x.1 (by simp), by rw [← e5]; exact h5, h3 x (by simp), by omega⟩
theorem out_room {m : Int} {L : List Et} {x : Et} (h : goodE m (L ++ [x]) = true) (hl : (L.length : Int) < m) : beatsB m L x = true ∧ beatsN m L x = -1 := by
  have hall : ∀ e ∈ L ++ [x], runs m (L ++ [x]) e = true := fun e he => decide_eq_true (by
    have := rank_lt he
    rw [List.length_append] at this
    simp only [List.length_singleton] at this
    omega)
  have hb : beatsB m L x = true := by unfold beatsB; rw [h, hall x (by simp)]; rfl
  refine ⟨hb, ?_⟩
  unfold beatsN
  rw [if_pos hb]
  have : outO m L x = none := List.find?_eq_none.2 fun e he => by rw [hall e (by simp [he])]; simp
  rw [this]; rfl
/-- Where there is no room: the last one that runs, e, and what becomes of it. -/
theorem out_full {m : Int} {L : List Et} {x : Et} (h : goodE m (L ++ [x]) = true) (hl : m ≤ (L.length : Int)) :
    ∃ e ∈ L, beatsB m L x = bef x e ∧ (bef x e = true → beatsN m L x = e.1) ∧ (e.2.2 = false → worstO m L = some e) ∧ (e.2.2 = true → worstO m L = none ∧ x.2.2 = false) ∧ (rank L e : Int) = m - 1 := by
  obtain ⟨hg, hx, hfx, _, _⟩ := app_parts h
  obtain ⟨h1, h2, h3, h4, h5⟩ := good_iff.1 hg
  obtain ⟨n, hn⟩ : ∃ n : Nat, m = (n : Int) + 1 := ⟨(m - 1).toNat, by omega⟩
  obtain ⟨e, he, hr⟩ := rank_ex h4 (show n < L.length by omega)
  have hrun : ∀ y ∈ L, runs m L y = true → y = e ∨ bef y e = true := fun y hy hy' => by
    have a1 : (rank L y : Int) < m := of_decide_eq_true hy'
    rcases Nat.lt_or_ge (rank L y) n with k | k
    · exact .inr (bef_of_rank h4 hy he (by omega))
    · exact .inl (rank_inj h4 hy he (by omega))
  have hxr : runs m (L ++ [x]) x = bef x e := by
    have e1 : rank (L ++ [x]) x = rank L x := by rw [rank_app, bef_irr]; simp
    cases hb : bef x e with
    | true =>
      have : rank L x ≤ rank L e := count_le fun y _ hy => bef_trans hy hb
      exact decide_eq_true (by omega)
    | false =>
      have hb2 : bef e x = true := (bef_total (hx e he)).resolve_right (by rw [hb]; decide)
      have : rank L e < rank L x := count_lt (fun y _ hy => bef_trans hy hb2) he (bef_irr e) hb2
      exact decide_eq_false (by omega)
  have hB : beatsB m L x = bef x e := by unfold beatsB; rw [h, hxr, Bool.true_and]
  have hout : ∀ y ∈ L, (runs m L y && !runs m (L ++ [x]) y) = true → y = e := fun y hy hd => by
    simp only [Bool.and_eq_true, Bool.not_eq_true'] at hd
    have a1 : (rank L y : Int) < m := of_decide_eq_true hd.1
    have a2 : ¬ (rank (L ++ [x]) y : Int) < m := of_decide_eq_false hd.2
    rw [rank_app] at a2
    refine rank_inj h4 hy he ?_
    split at a2 <;> omega
  refine ⟨e, he, hB, fun hb => ?_, fun hf => ?_, fun hf => ?_, by omega⟩
  · unfold beatsN
    rw [if_pos (hB.trans hb)]
    have : outO m L x = some e := by
      unfold outO
      cases ho : L.find? (fun y => runs m L y && !runs m (L ++ [x]) y) with
      | none =>
        have := List.find?_eq_none.1 ho e he
        have b1 : runs m L e = true := decide_eq_true (by omega)
        have b2 : runs m (L ++ [x]) e = false := decide_eq_false (by rw [rank_app, if_pos hb]; omega)
        rw [b1, b2] at this; exact absurd rfl this
      | some y => rw [hout y (List.mem_of_find?_eq_some ho) (List.find?_some (p := fun y => runs m L y && !runs m (L ++ [x]) y) ho)]
    rw [this]; rfl
  · unfold worstO
    rw [if_pos hg]
    refine last_eq h4 he ?_ fun y hy hp => ?_
    · rw [hf, show runs m L e = true from decide_eq_true (by omega)]; rfl
    · simp only [Bool.and_eq_true, Bool.not_eq_true'] at hp
      rcases hrun y hy hp.1 with rfl | k
      · exact less_irr _
      · have := bef_asym k
        rwa [bef_free hf hp.2] at this
  · have hall : ∀ y ∈ L, runs m L y = true → y.2.2 = true := fun y hy hr' => by
      rcases hrun y hy hr' with rfl | k
      · exact hf
      · rcases bef_iff.1 k with ⟨k1, k2⟩ | ⟨k1, _⟩
        · exact k1
        · rw [k1]; exact hf
    refine ⟨?_, ?_⟩
    · unfold worstO
      rw [if_pos hg]
      exact last_none fun y hy => by
        cases hr' : runs m L y with
        | false => rfl
        | true => rw [hall y hy hr']; rfl
    · have hc := count_runs (L := L) h4 (show 0 ≤ m by omega)
      have : L.countP (runs m L) ≤ fixN L := count_le hall
      cases hx' : x.2.2 with
      | false => rfl
      | true => rw [if_pos hx'] at hfx; omega
end Go.Proofs.Ytacbiiiadalocaa.Ed
