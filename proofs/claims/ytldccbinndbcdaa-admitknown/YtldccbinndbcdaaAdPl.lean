/- The heap of those that left, in plain numbers. Of no program. -/
import Derived.Test.YtldccbinndbcdaaAmPl
namespace Go.Proofs.Ytldccbinndbcdaa.Am
open Go.RowKit Go.Proofs.Ytldccbinndbcdaa.Wn
set_option linter.unusedVariables false
set_option linter.unusedSimpArgs false
abbrev Lv := En × Int
def atL (H : List Lv) (i : Nat) : Lv := H.getD i (⟨0, (0, 0), 0⟩, 0)
def tl (H : List Lv) (i : Nat) : Int := (atL H i).1.till
theorem atL_eq {l : List Lv} {i : Nat} (h : i < l.length) : l[i]? = some (atL l i) := by
  unfold atL; rw [List.getD_eq_getElem?_getD, List.getElem?_eq_getElem h]; rfl
theorem atL_get {l : List Lv} {i : Nat} (h : i < l.length) : l[i] = atL l i := by
  have := atL_eq h
  rw [List.getElem?_eq_getElem h] at this
  exact Option.some.inj this
theorem atL_out {l : List Lv} {i : Nat} (h : l.length ≤ i) : atL l i = (⟨0, (0, 0), 0⟩, 0) := by
  unfold atL; rw [List.getD_eq_getElem?_getD, List.getElem?_eq_none h]; rfl
theorem takeL_snoc (l : List Lv) (k : Nat) (h : k < l.length) : l.take (k + 1) = l.take k ++ [atL l k] := by
  rw [List.take_add_one, atL_eq h]; rfl
theorem extL {l m : List Lv} (hl : l.length = m.length) (h : ∀ i, i < l.length → atL l i = atL m i) : l = m := by
  apply List.ext_getElem? 
  intro i
  by_cases hi : i < l.length
  · rw [atL_eq hi, atL_eq (by omega), h i hi]
  · rw [List.getElem?_eq_none (by omega), List.getElem?_eq_none (by omega)]
/-- None above its elder. -/
def Hp (H : List Lv) : Prop := ∀ i, 0 < i → i < H.length → tl H i ≤ tl H ((i - 1) / 2)
/-! The places of a part. -/
def sub (n : Nat) : Nat → Nat → List Nat
  | 0, _ => []
  | f + 1, i => if i < n then i :: (sub n f (2 * i + 1) ++ sub n f (2 * i + 2)) else []
theorem sub_ge {n : Nat} : ∀ (f i j : Nat), j ∈ sub n f i → i ≤ j ∧ j < n
  | 0, i, j, h => by simp [sub] at h
  | f + 1, i, j, h => by
    unfold sub at h
    split at h
    · simp only [List.mem_cons, List.mem_append] at h
      rcases h with rfl | h | h
      · omega
      · have := sub_ge f _ j h; omega
      · have := sub_ge f _ j h; omega
    · cases h
theorem cnt_low {n f i j : Nat} (h : j < i) : (sub n f i).count j = 0 := List.count_eq_zero.2 fun hm => by have := sub_ge f i j hm; omega
theorem cnt_self {n f i : Nat} (h : n ≤ i + f) (hi : i < n) : (sub n f i).count i = 1 := by
  cases f with
  | zero => omega
  | succ f =>
    unfold sub
    rw [if_pos hi, List.count_cons, List.count_append, cnt_low (by omega), cnt_low (by omega)]
    simp
theorem cnt_up {n : Nat} : ∀ (f i j : Nat), n ≤ i + f → 0 < j → j < n → j ≠ i → (sub n f i).count j = (sub n f i).count ((j - 1) / 2)
  | 0, i, j, h, h0, hj, hne => by simp [sub]
  | f + 1, i, j, h, h0, hj, hne => by
    unfold sub
    by_cases hi : i < n
    · rw [if_pos hi, List.count_cons, List.count_cons, List.count_append, List.count_append]
      have e0 : (i == j) = false := by simp; omega
      rw [e0]
      by_cases h1 : j = 2 * i + 1
      · subst h1
        have ep : (2 * i + 1 - 1) / 2 = i := by omega
        rw [ep, cnt_self (by omega) hj, cnt_low (show 2 * i + 1 < 2 * i + 2 by omega), cnt_low (show i < 2 * i + 1 by omega), cnt_low (show i < 2 * i + 2 by omega)]
        simp
      · by_cases h2 : j = 2 * i + 2
        · subst h2
          have ep : (2 * i + 2 - 1) / 2 = i := by omega
          have := cnt_up f (2 * i + 1) (2 * i + 2) (by omega) h0 hj (by omega)
          rw [ep] at this ⊢
          rw [this, cnt_self (f := f) (i := 2 * i + 2) (by omega) hj, cnt_low (show i < 2 * i + 1 by omega), cnt_low (show i < 2 * i + 2 by omega)]
          simp
        · have hp : (i == (j - 1) / 2) = false := by simp; omega
          rw [hp, cnt_up f _ j (by omega) h0 hj h1, cnt_up f _ j (by omega) h0 hj h2]
    · rw [if_neg hi]; simp
theorem cnt_all {n : Nat} (j : Nat) (hj : j < n) : (sub n n 0).count j = 1 := by
  induction j using Nat.strongRecOn with
  | _ j ih =>
    by_cases h0 : j = 0
    · subst h0; exact cnt_self (by omega) hj
    · rw [cnt_up n 0 j (by omega) (by omega) hj h0]
      exact ih _ (by omega) (by omega)
theorem cnt_range : ∀ (n j : Nat), (List.range n).count j = if j < n then 1 else 0
  | 0, j => by simp
  | n + 1, j => by
    have h1 : [n].count j = if j = n then 1 else 0 := by
      by_cases e : n = j
      · subst e; simp
      · rw [if_neg (fun h => e h.symm)]; exact List.count_eq_zero.2 (fun h => e (List.mem_singleton.1 h).symm)
    rw [List.range_succ, List.count_append, cnt_range n j, h1]
    split <;> split <;> split <;> omega
theorem sub_perm (n : Nat) : (sub n n 0).Perm (List.range n) := by
  rw [List.perm_iff_count]
  intro j
  rw [cnt_range]
  by_cases h : j < n
  · rw [if_pos h, cnt_all j h]
  · rw [if_neg h]
    exact List.count_eq_zero.2 fun hm => h (sub_ge n 0 j hm).2
/-! Those above now. -/
def wk (H : List Lv) (now : Int) : Nat → Nat → List Lv
  | 0, _ => []
  | f + 1, i => if i < H.length ∧ now < tl H i then atL H i :: (wk H now f (2 * i + 1) ++ wk H now f (2 * i + 2)) else []
def abv (now : Int) (x : Lv) : Bool := decide (now < x.1.till)
theorem sub_low {H : List Lv} (hp : Hp H) : ∀ (f i j : Nat), j ∈ sub H.length f i → tl H j ≤ tl H i
  | 0, i, j, h => by simp [sub] at h
  | f + 1, i, j, h => by
    unfold sub at h
    split at h
    · simp only [List.mem_cons, List.mem_append] at h
      rcases h with rfl | h | h
      · exact Int.le_refl _
      · have h1 := sub_low hp f _ j h
        have h2 := sub_ge f _ j h
        have := hp (2 * i + 1) (by omega) (by omega)
        rw [show (2 * i + 1 - 1) / 2 = i by omega] at this
        omega
      · have h1 := sub_low hp f _ j h
        have h2 := sub_ge f _ j h
        have := hp (2 * i + 2) (by omega) (by omega)
        rw [show (2 * i + 2 - 1) / 2 = i by omega] at this
        omega
    · cases h
theorem wk_eq {H : List Lv} (hp : Hp H) (now : Int) : ∀ (f i : Nat), wk H now f i = ((sub H.length f i).map (atL H)).filter (abv now)
  | 0, i => rfl
  | f + 1, i => by
    by_cases hi : i < H.length
    · by_cases ht : now < tl H i
      · unfold wk sub
        rw [if_pos ⟨hi, ht⟩, if_pos hi, List.map_cons, List.filter_cons, List.map_append, List.filter_append, ← wk_eq hp now f _, ← wk_eq hp now f _]
        rw [if_pos (show abv now (atL H i) = true from decide_eq_true ht)]
      · have e : wk H now (f + 1) i = [] := by unfold wk; rw [if_neg (fun h => ht h.2)]
        rw [e]
        refine (List.filter_eq_nil_iff.2 fun x hx => ?_).symm
        obtain ⟨j, hj, rfl⟩ := List.mem_map.1 hx
        have := sub_low hp (f + 1) i j hj
        intro hd
        have h2 : now < (atL H j).1.till := of_decide_eq_true hd
        exact ht (show now < tl H i from Int.lt_of_lt_of_le h2 this)
    · unfold wk sub
      rw [if_neg (fun h => hi h.1), if_neg hi]; rfl
theorem map_range (H : List Lv) : (List.range H.length).map (atL H) = H := by
  refine extL (by simp) fun i hi => ?_
  simp only [List.length_map, List.length_range] at hi
  unfold atL
  rw [List.getD_eq_getElem?_getD, List.getElem?_map, List.getElem?_range hi]
  rfl
theorem wk_perm {H : List Lv} (hp : Hp H) (now : Int) : (wk H now H.length 0).Perm (H.filter (abv now)) := by
  rw [wk_eq hp now]
  have := ((sub_perm H.length).map (atL H)).filter (abv now)
  rwa [map_range] at this
theorem wk_len {H : List Lv} (hp : Hp H) (now : Int) : (wk H now H.length 0).length ≤ H.length := by
  rw [(wk_perm hp now).length_eq]; exact List.length_filter_le _ _
theorem wk_more {H : List Lv} (now : Int) : ∀ (f i : Nat), H.length ≤ i + f → wk H now (f + 1) i = wk H now f i
  | 0, i, h => by unfold wk; rw [if_neg (fun hh => by omega)]
  | f + 1, i, h => by
    have e1 := wk_more (H := H) now f (2 * i + 1) (by omega)
    have e2 := wk_more (H := H) now f (2 * i + 2) (by omega)
    conv => lhs; unfold wk
    rw [e1, e2]; rfl
/-! One put in: it rises. -/
def swp (l : List Lv) (i j : Nat) : List Lv := (l.set i (atL l j)).set j (atL l i)
theorem swp_length (l : List Lv) (i j : Nat) : (swp l i j).length = l.length := by simp [swp]
theorem at_set (l : List Lv) (i k : Nat) (x : Lv) (hi : i < l.length) : atL (l.set i x) k = if k = i then x else atL l k := by
  unfold atL
  rw [List.getD_eq_getElem?_getD, List.getD_eq_getElem?_getD, List.getElem?_set]
  by_cases h : k = i
  · subst h; simp [hi]
  · rw [if_neg (Ne.symm h), if_neg h]
theorem at_swp (l : List Lv) (i j k : Nat) (hi : i < l.length) (hj : j < l.length) : atL (swp l i j) k = if k = j then atL l i else if k = i then atL l j else atL l k := by
  unfold swp
  rw [at_set _ _ _ _ (by simpa using hj), at_set _ _ _ _ hi]
theorem set_perm : ∀ (l : List Lv) (i : Nat) (x : Lv), i < l.length → (atL l i :: l.set i x).Perm (x :: l)
  | a :: l, 0, x, _ => by simp [atL]; exact List.Perm.swap _ _ _
  | a :: l, i + 1, x, h => by
    have ih := set_perm l i x (by simpa using h)
    have e : atL (a :: l) (i + 1) = atL l i := by simp [atL]
    rw [e, List.set_cons_succ]
    exact (List.Perm.swap _ _ _).trans ((ih.cons a).trans (List.Perm.swap _ _ _))
theorem swp_perm (l : List Lv) (i j : Nat) (hi : i < l.length) (hj : j < l.length) : (swp l i j).Perm l := by
  have h1 := set_perm (l.set i (atL l j)) j (atL l i) (by simpa using hj)
  have h2 := set_perm l i (atL l j) hi
  rw [at_set _ _ _ _ hi] at h1
  by_cases e : j = i
  · subst e
    rw [if_pos rfl] at h1
    exact (List.perm_cons _).1 (h1.trans h2)
  · rw [if_neg e] at h1
    exact (List.perm_cons _).1 (h1.trans h2)
/-- All but the one at i lie as they should. -/
structure Rs (H : List Lv) (i : Nat) : Prop where
  lt : i < H.length
  up : ∀ k, 0 < k → k < H.length → k ≠ i → tl H k ≤ tl H ((k - 1) / 2)
  kid : ∀ k, 0 < k → k < H.length → (k - 1) / 2 = i → 0 < i → tl H k ≤ tl H ((i - 1) / 2)
theorem atL_snoc (l : List Lv) (x : Lv) (k : Nat) (h : k < l.length) : atL (l ++ [x]) k = atL l k := by
  unfold atL; rw [List.getD_eq_getElem?_getD, List.getD_eq_getElem?_getD, List.getElem?_append_left h]
theorem rs_start {H : List Lv} (h : Hp H) (x : Lv) : Rs (H ++ [x]) H.length := by
  refine ⟨by simp, fun k h0 hk hne => ?_, fun k h0 hk he hi => ?_⟩
  · simp only [List.length_append, List.length_singleton] at hk
    unfold tl
    rw [atL_snoc _ _ _ (by omega), atL_snoc _ _ _ (by omega)]
    exact h k h0 (by omega)
  · simp only [List.length_append, List.length_singleton] at hk
    omega
theorem rs_stop {H : List Lv} {i : Nat} (h : Rs H i) (hs : i = 0 ∨ tl H i ≤ tl H ((i - 1) / 2)) : Hp H := fun k h0 hk => by
  by_cases e : k = i
  · subst e
    rcases hs with rfl | hs
    · omega
    · exact hs
  · exact h.up k h0 hk e
theorem rs_step {H : List Lv} {i : Nat} (h : Rs H i) (h0 : 0 < i) (hlt : tl H ((i - 1) / 2) < tl H i) : Rs (swp H ((i - 1) / 2) i) ((i - 1) / 2) := by
  have hi := h.lt
  obtain ⟨p, hp⟩ : ∃ p, (i - 1) / 2 = p := ⟨_, rfl⟩
  rw [hp] at hlt ⊢
  have hpi : p < i := by omega
  have hpl : p < H.length := by omega
  have at' : ∀ k, tl (swp H p i) k = if k = i then tl H p else if k = p then tl H i else tl H k := fun k => by
    unfold tl; rw [at_swp _ _ _ _ hpl hi]
    split
    · rfl
    · split <;> rfl
  refine ⟨by rw [swp_length]; exact hpl, fun k hk0 hk hne => ?_, fun k hk0 hk he hp0 => ?_⟩
  · rw [swp_length] at hk
    rw [at', at']
    by_cases e1 : k = i
    · subst e1
      rw [if_pos rfl, hp, if_neg (by omega), if_pos rfl]; omega
    · rw [if_neg e1, if_neg hne]
      by_cases e2 : (k - 1) / 2 = i
      · rw [if_pos e2]
        have := h.kid k hk0 hk e2 h0
        rwa [hp] at this
      · rw [if_neg e2]
        by_cases e3 : (k - 1) / 2 = p
        · rw [if_pos e3]
          have := h.up k hk0 hk e1
          rw [e3] at this; omega
        · rw [if_neg e3]; exact h.up k hk0 hk e1
  · rw [swp_length] at hk
    rw [at', at', if_neg (show (p - 1) / 2 ≠ i by omega), if_neg (show (p - 1) / 2 ≠ p by omega)]
    have hpp := h.up p hp0 hpl (by omega)
    by_cases e1 : k = i
    · rw [if_pos e1]; exact hpp
    · rw [if_neg e1, if_neg (show k ≠ p by omega)]
      have := h.up k hk0 hk e1
      rw [he] at this
      omega
/-! Those that left, with their numbers. -/
def numF : Nat → List En → List Lv
  | _, [] => []
  | n, e :: l => (e, (n : Int)) :: numF (n + 1) l
def nums (L : List En) : List Lv := numF 0 L
theorem numF_len (l : List En) : ∀ n, (numF n l).length = l.length := by
  induction l with
  | nil => intro n; rfl
  | cons e l ih => intro n; simp [numF, ih]
theorem numF_snoc (l : List En) (e : En) : ∀ n, numF n (l ++ [e]) = numF n l ++ [(e, ((n + l.length : Nat) : Int))] := by
  induction l with
  | nil => intro n; simp [numF]
  | cons x l ih => intro n; simp only [List.cons_append, numF, ih, List.length_cons]; rw [show n + 1 + l.length = n + (l.length + 1) by omega]
theorem nums_len (l : List En) : (nums l).length = l.length := numF_len l 0
theorem nums_snoc (l : List En) (e : En) : nums (l ++ [e]) = nums l ++ [(e, (l.length : Int))] := by
  unfold nums; rw [numF_snoc]; simp
theorem numF_fst (now : Int) (l : List En) : ∀ n, ((numF n l).filter (abv now)).map (·.1) = l.filter (fun e => decide (now < e.till)) := by
  induction l with
  | nil => intro n; rfl
  | cons e l ih =>
    intro n
    simp only [numF, List.filter_cons]
    show List.map _ (if decide (now < e.till) = true then _ else _) = _
    split
    · rw [List.map_cons, ih]
    · exact ih _
theorem nums_fst (now : Int) (s : Bs) : ((nums s.outs).filter (abv now)).map (·.1) = lingers s now := numF_fst now s.outs 0
theorem numF_ge (l : List En) : ∀ n x, x ∈ numF n l → (n : Int) ≤ x.2 := by
  induction l with
  | nil => intro n x h; cases h
  | cons e l ih =>
    intro n x h
    simp only [numF, List.mem_cons] at h
    rcases h with rfl | h
    · exact Int.le_refl _
    · have := ih _ x h; omega
theorem numF_lt (l : List En) : ∀ n, (numF n l).Pairwise (fun a b => a.2 < b.2) := by
  induction l with
  | nil => intro n; exact List.Pairwise.nil
  | cons e l ih =>
    intro n
    refine List.Pairwise.cons (fun x hx => ?_) (ih _)
    have := numF_ge l _ x hx
    show (n : Int) < x.2
    omega
theorem srtL_eq : ∀ (l m : List Lv), l.Pairwise (fun a b => a.2 < b.2) → m.Pairwise (fun a b => a.2 < b.2) → (∀ x, x ∈ l ↔ x ∈ m) → l = m
  | [], [], _, _, _ => rfl
  | [], y :: m, _, _, h => by have := (h y).2 (by simp); cases this
  | x :: l, [], _, _, h => by have := (h x).1 (by simp); cases this
  | x :: l, y :: m, h1, h2, h => by
    rw [List.pairwise_cons] at h1 h2
    have e : x = y := by
      rcases List.mem_cons.1 ((h x).1 (by simp)) with e | e
      · exact e
      · rcases List.mem_cons.1 ((h y).2 (by simp)) with e' | e'
        · exact e'.symm
        · have a1 := h1.1 y e'
          have a2 := h2.1 x e
          omega
    subst e
    congr 1
    refine srtL_eq l m h1.2 h2.2 fun z => ⟨fun hz => ?_, fun hz => ?_⟩
    · rcases List.mem_cons.1 ((h z).1 (by simp [hz])) with e | e
      · subst e; have := h1.1 z hz; omega
      · exact e
    · rcases List.mem_cons.1 ((h z).2 (by simp [hz])) with e | e
      · subst e; have := h2.1 z hz; omega
      · exact e
/-- What the heap holds. -/
structure HO (H : List Lv) (L : List En) : Prop where
  perm : H.Perm (nums L)
  hp : Hp H
theorem HO.len {H : List Lv} {L : List En} (h : HO H L) : H.length = L.length := by rw [h.perm.length_eq, nums_len]
theorem HO.nil : HO [] [] := ⟨List.Perm.refl _, fun i _ hi => by simp at hi⟩
theorem HO.wk {H : List Lv} {s : Bs} (h : HO H s.outs) (now : Int) : (wk H now H.length 0).Perm ((nums s.outs).filter (abv now)) := (wk_perm h.hp now).trans (h.perm.filter _)
theorem HO.prs {H : List Lv} {s : Bs} (h : HO H s.outs) (now : Int) : (((Am.wk H now H.length 0).map (·.1)).map (·.pr)).Perm (prs (lingers s now)) := by
  have := ((h.wk now).map (·.1)).map (·.pr)
  rwa [nums_fst] at this
/-- Sorted by number, it is the row of those that linger. -/
theorem HO.sorted {H : List Lv} {s : Bs} (h : HO H s.outs) (now : Int) {D : List Lv} (hp : D.Perm (Am.wk H now H.length 0)) (hs : D.Pairwise (fun a b => a.2 ≤ b.2)) : D.map (·.1) = lingers s now := by
  have hP := hp.trans (h.wk now)
  have hlt : ((nums s.outs).filter (abv now)).Pairwise (fun a b => a.2 < b.2) := (numF_lt s.outs 0).filter _
  have hne : D.Pairwise (fun a b => a.2 ≠ b.2) := by
    have h1 : ((nums s.outs).filter (abv now)).Pairwise (fun a b => a.2 ≠ b.2) := hlt.imp (fun h => by omega)
    exact hP.symm.pairwise h1 (fun h => h.symm)
  have hD : D.Pairwise (fun a b => a.2 < b.2) := by
    have := hs.and hne
    exact this.imp (fun h => by omega)
  rw [srtL_eq D _ hD hlt (fun x => hP.mem_iff), nums_fst]
end Go.Proofs.Ytldccbinndbcdaa.Am
