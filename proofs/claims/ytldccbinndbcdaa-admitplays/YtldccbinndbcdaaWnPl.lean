/- Pairs: plain mathematics, by the chapter's words. Of no program. -/
import Derived.RowKit
import Derived.WalkKit
import Derived.ProofKit
namespace Go.Proofs.Ytldccbinndbcdaa.Wn
open Go.RowKit
set_option linter.unusedVariables false
set_option linter.unusedSimpArgs false
abbrev Pr := Int × Int
theorem hide {p : Prop} (h : p) : Hid p := h
def at' (L : List Pr) (j : Nat) : Pr := L.getD j (0, 0)
theorem at_eq {L : List Pr} {j : Nat} (h : j < L.length) : L[j]? = some (at' L j) := by
  unfold at'; rw [List.getD_eq_getElem?_getD, List.getElem?_eq_getElem h]; rfl
theorem at_mem {L : List Pr} {j : Nat} (h : j < L.length) : at' L j ∈ L := List.mem_of_getElem? (at_eq h)
theorem mem_at {L : List Pr} {x : Pr} (h : x ∈ L) : ∃ j, j < L.length ∧ at' L j = x := by
  obtain ⟨j, hj, rfl⟩ := List.mem_iff_getElem.1 h
  have := at_eq hj
  rw [List.getElem?_eq_getElem hj] at this
  exact ⟨j, hj, (Option.some.inj this).symm⟩
theorem take_snoc (l : List Pr) (k : Nat) (h : k < l.length) : l.take (k + 1) = l.take k ++ [at' l k] := by
  rw [List.take_add_one, at_eq h]; rfl
def gp (x : Pr) : Bool := decide ((1 ≤ x.1 ∧ x.1 ≤ x.2) ∧ x.2 ≤ 2147483648)
theorem gp_t {x : Pr} (h : gp x = true) : 1 ≤ x.1 ∧ x.1 ≤ x.2 ∧ x.2 ≤ 2147483648 := by
  have := of_decide_eq_true h; omega
theorem gp_f {x : Pr} (h : ¬ (1 ≤ x.1 ∧ x.1 ≤ x.2 ∧ x.2 ≤ 2147483648)) : gp x = false := decide_eq_false (by omega)
theorem gp_y {x : Pr} (h : 1 ≤ x.1 ∧ x.1 ≤ x.2 ∧ x.2 ≤ 2147483648) : gp x = true := decide_eq_true (by omega)
/-- What is executed in r ticks, P less Q of them ahead. -/
def run (x : Pr) (r : Int) : Int := r / x.2 * x.1 + min x.1 (r - r / x.2 * x.2)
def workN (x : Pr) (n : Int) : Int := min n (run x (n + x.2 - x.1))
def workB (x : Pr) (n : Int) : Bool := gp x && decide (0 ≤ n ∧ n ≤ 2147483648)
def workV (x : Pr) (n : Int) : Int := if workB x n = true then workN x n else 0
def room (o : Pr) : Int := o.2 - o.1 + 1
def takesN (x o : Pr) : Int := min (workN x o.2) (room o)
def takesB (x o : Pr) : Bool := gp x && gp o
def takesV (x o : Pr) : Int := if takesB x o = true then takesN x o else 0
def pairsB (m : Int) (L : List Pr) : Bool := decide (1 ≤ m ∧ m ≤ 64) && decide (L.length ≤ 64) && L.all gp
def tot (L : List Pr) (o : Pr) : Int := (L.map (takesN · o)).sum
def fits (m : Int) (L : List Pr) (o : Pr) : Bool := decide (tot L o - takesN o o < m * room o)
def oneE (m : Int) (L : List Pr) (k : Int) : Int := if pairsB m L = true ∧ 0 ≤ k ∧ k < L.length then 0 else 1
def oneB (m : Int) (L : List Pr) (k : Int) : Bool := decide (oneE m L k = 0) && fits m L (at' L k.toNat)
def allE (m : Int) (L : List Pr) : Int := if pairsB m L = true then 0 else 1
def allB (m : Int) (L : List Pr) : Bool := pairsB m L && L.all (fits m L)
/-- All Q over P together: a fraction. -/
def frac : List Pr → Int × Int
  | [] => (0, 1)
  | x :: l => ((frac l).1 * x.2 + x.1 * (frac l).2, (frac l).2 * x.2)
def useOk (L : List Pr) : Bool := decide (L.length ≤ 64) && L.all gp
def useN (L : List Pr) : Int := if useOk L = true then ((frac L).1 + (frac L).2 - 1) / (frac L).2 else 0
def useX (L : List Pr) : Bool := if useOk L = true then decide ((frac L).1 % (frac L).2 = 0) else true

theorem pairs_iff {m : Int} {L : List Pr} : pairsB m L = true ↔ (1 ≤ m ∧ m ≤ 64) ∧ L.length ≤ 64 ∧ ∀ x ∈ L, gp x = true := by
  unfold pairsB; simp only [Bool.and_eq_true, decide_eq_true_eq, List.all_eq_true, and_assoc]
theorem pairs_no {m : Int} {L : List Pr} (h : ¬ ((1 ≤ m ∧ m ≤ 64) ∧ L.length ≤ 64)) : pairsB m L = false := by
  cases e : pairsB m L with
  | false => rfl
  | true => have := pairs_iff.1 e; exact absurd ⟨this.1, this.2.1⟩ h
theorem pairs_bad {m : Int} {L : List Pr} {k : Nat} (hk : k < L.length) (hb : gp (at' L k) = false) : pairsB m L = false := by
  cases e : pairsB m L with
  | false => rfl
  | true => have := (pairs_iff.1 e).2.2 _ (at_mem hk); rw [hb] at this; cases this
theorem pairs_all {m : Int} {L : List Pr} (h1 : 1 ≤ m ∧ m ≤ 64) (h2 : L.length ≤ 64) (h : ∀ j, j < L.length → gp (at' L j) = true) : pairsB m L = true :=
  pairs_iff.2 ⟨h1, h2, fun x hx => by obtain ⟨j, hj, rfl⟩ := mem_at hx; exact h j hj⟩
theorem one_0 {m : Int} {L : List Pr} {k : Int} (h : pairsB m L = true) (h1 : 0 ≤ k) (h2 : k < L.length) : oneE m L k = 0 ∧ oneB m L k = fits m L (at' L k.toNat) := by
  have e : oneE m L k = 0 := if_pos ⟨h, h1, h2⟩
  exact ⟨e, by unfold oneB; rw [e]; rfl⟩
theorem one_1 {m : Int} {L : List Pr} {k : Int} (h : ¬ (pairsB m L = true ∧ 0 ≤ k ∧ k < L.length)) : oneE m L k = 1 ∧ oneB m L k = false := by
  have e : oneE m L k = 1 := if_neg h
  exact ⟨e, by unfold oneB; rw [e]; rfl⟩
theorem all_0 {m : Int} {L : List Pr} (h : pairsB m L = true) : allE m L = 0 ∧ allB m L = L.all (fits m L) :=
  ⟨if_pos h, by unfold allB; rw [h, Bool.true_and]⟩
theorem all_1 {m : Int} {L : List Pr} (h : pairsB m L = false) : allE m L = 1 ∧ allB m L = false :=
  ⟨if_neg (by rw [h]; decide), by unfold allB; rw [h, Bool.false_and]⟩
theorem allB_iff {m : Int} {L : List Pr} (h : pairsB m L = true) : allB m L = true ↔ ∀ o ∈ L, fits m L o = true := by
  rw [(all_0 h).2, List.all_eq_true]
theorem all_yes {m : Int} {L : List Pr} (h : pairsB m L = true) (hf : ∀ j, j < L.length → fits m L (at' L j) = true) : allB m L = true :=
  (allB_iff h).2 fun x hx => by obtain ⟨j, hj, rfl⟩ := mem_at hx; exact hf j hj
theorem all_no {m : Int} {L : List Pr} {k : Nat} (h : pairsB m L = true) (hk : k < L.length) (hf : fits m L (at' L k) = false) : allB m L = false := by
  cases e : allB m L with
  | false => rfl
  | true => have := (allB_iff h).1 e _ (at_mem hk); rw [hf] at this; cases this

/-! Work. -/
theorem run_parts {x : Pr} (h : gp x = true) {r : Int} (hr : 0 ≤ r) : ∃ K j, r / x.2 * x.2 = r - j ∧ 0 ≤ j ∧ j < x.2 ∧ 0 ≤ r / x.2 ∧ K = r / x.2 * x.1 ∧ 0 ≤ K ∧ run x r = K + min x.1 j := by
  obtain ⟨h1, h2, h3⟩ := gp_t h
  have d1 := Int.mul_ediv_add_emod r x.2
  have d2 := Int.emod_nonneg r (show x.2 ≠ 0 by omega)
  have d3 := Int.emod_lt_of_pos r (show 0 < x.2 by omega)
  have d4 : 0 ≤ r / x.2 := Int.ediv_nonneg hr (by omega)
  have e : r / x.2 * x.2 = r - r % x.2 := by rw [Int.mul_comm]; omega
  refine ⟨_, r % x.2, e, d2, d3, d4, rfl, Int.mul_nonneg d4 (by omega), ?_⟩
  unfold run
  rw [e, show r - (r - r % x.2) = r % x.2 by omega]
theorem run_step {x : Pr} (h : gp x = true) {r : Int} (hr : 0 ≤ r) : 0 ≤ run x r ∧ run x r ≤ run x (r + 1) ∧ run x (r + 1) ≤ run x r + 1 := by
  obtain ⟨h1, h2, h3⟩ := gp_t h
  obtain ⟨K, j, a1, a2, a3, a4, aK, a5, a6⟩ := run_parts h hr
  by_cases hj : j + 1 < x.2
  · have e : (r + 1) / x.2 = r / x.2 := by
      have := Int.add_mul_ediv_right (j + 1) (r / x.2) (show x.2 ≠ 0 by omega)
      rw [a1, show j + 1 + (r - j) = r + 1 by omega, Int.ediv_eq_zero_of_lt (by omega) hj] at this
      omega
    have e2 : run x (r + 1) = K + min x.1 (j + 1) := by
      unfold run; rw [e, a1, ← aK, show r + 1 - (r - j) = j + 1 by omega]
    rw [e2, a6]
    omega
  · have hj2 : j + 1 = x.2 := by omega
    have e : (r + 1) / x.2 = r / x.2 + 1 := by
      have := Int.add_mul_ediv_right (j + 1) (r / x.2) (show x.2 ≠ 0 by omega)
      rw [a1, show j + 1 + (r - j) = r + 1 by omega, hj2, Int.ediv_self (by omega)] at this
      omega
    have e2 : run x (r + 1) = K + x.1 := by
      unfold run
      rw [e, Int.add_mul, Int.add_mul, Int.one_mul, Int.one_mul, a1, ← aK, show r + 1 - (r - j + x.2) = 0 by omega]
      omega
    rw [e2, a6]
    omega
theorem run_per {x : Pr} (h : gp x = true) (r : Int) : run x (r + x.2) = run x r + x.1 := by
  obtain ⟨h1, h2, h3⟩ := gp_t h
  have e : (r + x.2) / x.2 = r / x.2 + 1 := Int.add_ediv_of_dvd_right (Int.dvd_refl _) |>.trans (by rw [Int.ediv_self (by omega)])
  unfold run
  rw [e, Int.add_mul, Int.add_mul, Int.one_mul, Int.one_mul]
  rw [show r + x.2 - (r / x.2 * x.2 + x.2) = r - r / x.2 * x.2 by omega]
  omega
theorem work_lo {x : Pr} (h : gp x = true) {n : Int} (hn : 0 ≤ n) : 0 ≤ workN x n ∧ workN x n ≤ n := by
  obtain ⟨h1, h2, h3⟩ := gp_t h
  have := (run_step h (show 0 ≤ n + x.2 - x.1 by omega)).1
  unfold workN; omega
theorem work_step {x : Pr} (h : gp x = true) {n : Int} (hn : 0 ≤ n) : workN x n ≤ workN x (n + 1) ∧ workN x (n + 1) ≤ workN x n + 1 := by
  obtain ⟨h1, h2, h3⟩ := gp_t h
  have := run_step h (show 0 ≤ n + x.2 - x.1 by omega)
  rw [show n + x.2 - x.1 + 1 = n + 1 + x.2 - x.1 by omega] at this
  unfold workN; omega
theorem work_per {x : Pr} (h : gp x = true) {n : Int} (hn : 0 ≤ n) : workN x (n + x.2) ≤ workN x n + x.1 + x.2 ∧ (workN x n = n ∨ workN x (n + x.2) = workN x n + x.1) := by
  obtain ⟨h1, h2, h3⟩ := gp_t h
  have := run_per h (n + x.2 - x.1)
  rw [show n + x.2 - x.1 + x.2 = n + x.2 + x.2 - x.1 by omega] at this
  unfold workN; omega
theorem work_t {x : Pr} {n : Int} (h : gp x = true) (h0 : 0 ≤ n) (h1 : n ≤ 2147483648) : workB x n = true ∧ workV x n = workN x n := by
  have e : workB x n = true := by unfold workB; rw [h, decide_eq_true ⟨h0, h1⟩]; rfl
  exact ⟨e, if_pos e⟩
theorem work_f {x : Pr} {n : Int} (h : ¬ (gp x = true ∧ 0 ≤ n ∧ n ≤ 2147483648)) : workB x n = false ∧ workV x n = 0 := by
  have e : workB x n = false := by
    cases e : workB x n with
    | false => rfl
    | true => unfold workB at e; simp only [Bool.and_eq_true, decide_eq_true_eq] at e; exact absurd e h
  exact ⟨e, if_neg (by rw [e]; decide)⟩
theorem takes_t {x o : Pr} (h : gp x = true) (h' : gp o = true) : takesB x o = true ∧ takesV x o = takesN x o := by
  have e : takesB x o = true := by unfold takesB; rw [h, h']; rfl
  exact ⟨e, if_pos e⟩
theorem takes_f {x o : Pr} (h : (gp x && gp o) = false) : takesB x o = false ∧ takesV x o = 0 := ⟨h, if_neg (by unfold takesB; rw [h]; decide)⟩
/-- What the walk of Work reckons with. -/
theorem work_parts {x : Pr} (h : gp x = true) {n : Int} (h0 : 0 ≤ n) (h1 : n ≤ 2147483648) :
    ∃ w, (n + x.2 - x.1) / x.2 = w ∧ (0 ≤ n + x.2 - x.1 ∧ n + x.2 - x.1 ≤ 4294967296) ∧ (0 ≤ w ∧ w ≤ 4294967296) ∧ (0 ≤ w * x.1 ∧ w * x.1 ≤ 4294967296) ∧ (0 ≤ w * x.2 ∧ w * x.2 ≤ 4294967296) ∧ (0 ≤ n + x.2 - x.1 - w * x.2 ∧ n + x.2 - x.1 - w * x.2 ≤ 2147483648) ∧
      workN x n = min n (w * x.1 + min x.1 (n + x.2 - x.1 - w * x.2)) := by
  obtain ⟨g1, g2, g3⟩ := gp_t h
  obtain ⟨K, j, a1, a2, a3, a4, aK, a5, a6⟩ := run_parts h (show 0 ≤ n + x.2 - x.1 by omega)
  have m1 : (n + x.2 - x.1) / x.2 * x.1 ≤ (n + x.2 - x.1) / x.2 * x.2 := Int.mul_le_mul_of_nonneg_left g2 a4
  have m2 : (n + x.2 - x.1) / x.2 ≤ n + x.2 - x.1 := Int.ediv_le_self _ (by omega)
  refine ⟨_, rfl, by omega, ⟨a4, by omega⟩, ⟨by omega, by omega⟩, ⟨by omega, by omega⟩, ⟨by omega, by omega⟩, rfl⟩

/-! Takes. -/
theorem room_lo {o : Pr} (h : gp o = true) : 1 ≤ room o ∧ room o ≤ o.2 ∧ room o ≤ 2147483648 := by
  obtain ⟨h1, h2, h3⟩ := gp_t h; unfold room; omega
theorem takes_lo {x o : Pr} (h : gp x = true) (h' : gp o = true) : 0 ≤ takesN x o ∧ takesN x o ≤ room o := by
  have := room_lo h'
  have g := gp_t h'
  have := work_lo h (show 0 ≤ o.2 by omega)
  unfold takesN; omega
theorem tot_nil (o : Pr) : tot [] o = 0 := rfl
theorem tot_cons (x : Pr) (L : List Pr) (o : Pr) : tot (x :: L) o = takesN x o + tot L o := by unfold tot; simp
theorem tot_app (a b : List Pr) (o : Pr) : tot (a ++ b) o = tot a o + tot b o := by unfold tot; simp
theorem tot_perm {a b : List Pr} (h : a.Perm b) (o : Pr) : tot a o = tot b o := by
  induction h with
  | nil => rfl
  | cons x _ ih => rw [tot_cons, tot_cons, ih]
  | swap x y l => simp only [tot_cons]; omega
  | trans _ _ ih1 ih2 => rw [ih1, ih2]
theorem tot_bd {L : List Pr} {o : Pr} (h : ∀ x ∈ L, gp x = true) (h' : gp o = true) : 0 ≤ tot L o ∧ tot L o ≤ (L.length : Int) * room o := by
  induction L with
  | nil => rw [tot_nil]; simp
  | cons x L ih =>
    have a := takes_lo (h x (by simp)) h'
    have b := ih (fun y hy => h y (by simp [hy]))
    rw [tot_cons, List.length_cons]
    have e : ((L.length + 1 : Nat) : Int) * room o = (L.length : Int) * room o + room o := by
      rw [show ((L.length + 1 : Nat) : Int) = (L.length : Int) + 1 by omega, Int.add_mul, Int.one_mul]
    omega
theorem tot_small {L : List Pr} {o : Pr} (h : ∀ x ∈ L, gp x = true) (h' : gp o = true) (hl : L.length ≤ 64) : 0 ≤ tot L o ∧ tot L o ≤ 137438953472 := by
  have a := tot_bd h h'
  have b := room_lo h'
  have c : (L.length : Int) * room o ≤ 64 * room o := Int.mul_le_mul_of_nonneg_right (by omega) (by omega)
  omega
theorem tot_others {L : List Pr} {o : Pr} (h : ∀ x ∈ L, gp x = true) (ho : o ∈ L) : tot L o - takesN o o ≤ ((L.length : Int) - 1) * room o := by
  obtain ⟨a, b, rfl⟩ := List.append_of_mem ho
  have h' := h o (by simp)
  have t1 := tot_bd (L := a) (o := o) (fun x hx => h x (by simp [hx])) h'
  have t2 := tot_bd (L := b) (o := o) (fun x hx => h x (by simp [hx])) h'
  rw [tot_app, tot_cons, List.length_append, List.length_cons]
  rw [show ((a.length + (b.length + 1) : Nat) : Int) - 1 = (a.length : Int) + (b.length : Int) by omega, Int.add_mul]
  omega
theorem fits_iff {m : Int} {L : List Pr} {o : Pr} : fits m L o = true ↔ tot L o - takesN o o < m * room o := decide_eq_true_iff
theorem few_fit {m : Int} {L : List Pr} (h : pairsB m L = true) (hl : (L.length : Int) ≤ m) : allB m L = true := by
  obtain ⟨h1, h2, h3⟩ := pairs_iff.1 h
  refine (allB_iff h).2 fun o ho => fits_iff.2 ?_
  have a := tot_others h3 ho
  have b := room_lo (h3 o ho)
  have c : ((L.length : Int) - 1) * room o ≤ (m - 1) * room o := Int.mul_le_mul_of_nonneg_right (by omega) (by omega)
  have d : (m - 1) * room o = m * room o - room o := by rw [Int.sub_mul, Int.one_mul]
  omega
theorem more_fit {m : Int} {L : List Pr} (h : pairsB m L = true) (h' : pairsB (m + 1) L = true) (ha : allB m L = true) : allB (m + 1) L = true := by
  obtain ⟨h1, h2, h3⟩ := pairs_iff.1 h
  refine (allB_iff h').2 fun o ho => fits_iff.2 ?_
  have a := fits_iff.1 ((allB_iff h).1 ha o ho)
  have b := room_lo (h3 o ho)
  have d : (m + 1) * room o = m * room o + room o := by rw [Int.add_mul, Int.one_mul]
  omega
/-- Without some of them those that are left still fit. -/
theorem less_fit {m : Int} {L L' : List Pr} (h : pairsB m L = true) (h' : pairsB m L' = true) (hs : ∀ x ∈ L', x ∈ L) (ht : ∀ o ∈ L, tot L' o ≤ tot L o) (ha : allB m L = true) : allB m L' = true := by
  refine (allB_iff h').2 fun o ho => fits_iff.2 ?_
  have a := fits_iff.1 ((allB_iff h).1 ha o (hs o ho))
  have b := ht o (hs o ho)
  omega
def but (L : List Pr) (k : Nat) : List Pr := L.take k ++ L.drop (k + 1)
theorem but_parts {L : List Pr} {k : Nat} (hk : k < L.length) : L = L.take k ++ at' L k :: L.drop (k + 1) := by
  have e : L.drop k = at' L k :: L.drop (k + 1) := by
    rw [List.drop_eq_getElem_cons hk]
    have := at_eq hk
    rw [List.getElem?_eq_getElem hk] at this
    rw [Option.some.inj this]
  rw [← e, List.take_append_drop]
theorem but_fit {m : Int} {L : List Pr} {k : Nat} (hk : k < L.length) (h : pairsB m L = true) : pairsB m (but L k) = true ∧ (allB m L = true → allB m (but L k) = true) := by
  obtain ⟨h1, h2, h3⟩ := pairs_iff.1 h
  have hs : ∀ x ∈ but L k, x ∈ L := fun x hx => by
    unfold but at hx
    rcases List.mem_append.1 hx with hx | hx
    · exact List.mem_of_mem_take hx
    · exact List.mem_of_mem_drop hx
  have hp : pairsB m (but L k) = true := pairs_iff.2 ⟨h1, by unfold but; simp; omega, fun x hx => h3 x (hs x hx)⟩
  refine ⟨hp, less_fit h hp hs fun o ho => ?_⟩
  have e : tot L o = tot (L.take k) o + (takesN (at' L k) o + tot (L.drop (k + 1)) o) := by
    conv => lhs; rw [but_parts hk]
    rw [tot_app, tot_cons]
  have := takes_lo (h3 _ (at_mem hk)) (h3 o ho)
  unfold but
  rw [tot_app, e]; omega
theorem app_fit {m : Int} {L : List Pr} {x : Pr} (h : pairsB m L = true) (hx : gp x = true) (hl : L.length ≤ 63) : pairsB m (L ++ [x]) = true ∧ (allB m (L ++ [x]) = true → allB m L = true) := by
  obtain ⟨h1, h2, h3⟩ := pairs_iff.1 h
  have hp : pairsB m (L ++ [x]) = true := pairs_iff.2 ⟨h1, by simp; omega, fun y hy => by
    rcases List.mem_append.1 hy with hy | hy
    · exact h3 y hy
    · rw [List.mem_singleton.1 hy]; exact hx⟩
  refine ⟨hp, less_fit hp h (fun y hy => List.mem_append_left _ hy) fun o ho => ?_⟩
  have ho' : gp o = true := (pairs_iff.1 hp).2.2 o ho
  have := takes_lo hx ho'
  rw [tot_app, tot_cons, tot_nil]; omega
theorem perm_fit {m : Int} {L R : List Pr} (hp : L.Perm R) : pairsB m L = pairsB m R ∧ allB m L = allB m R := by
  have e1 : pairsB m L = pairsB m R := by
    rw [Bool.eq_iff_iff, pairs_iff, pairs_iff, hp.length_eq]
    exact ⟨fun ⟨a, b, c⟩ => ⟨a, b, fun x hx => c x (hp.mem_iff.2 hx)⟩, fun ⟨a, b, c⟩ => ⟨a, b, fun x hx => c x (hp.mem_iff.1 hx)⟩⟩
  refine ⟨e1, ?_⟩
  cases h : pairsB m L with
  | false => rw [(all_1 h).2, (all_1 (e1.symm.trans h)).2]
  | true =>
    rw [Bool.eq_iff_iff, allB_iff h, allB_iff (e1.symm.trans h)]
    have e : ∀ o, fits m L o = fits m R o := fun o => by unfold fits; rw [tot_perm hp]
    exact ⟨fun f o ho => by rw [← e]; exact f o (hp.mem_iff.2 ho), fun f o ho => by rw [e]; exact f o (hp.mem_iff.1 ho)⟩
/-- Turned by t places. -/
def turned (L : List Pr) (t : Nat) : List Pr := (List.range L.length).map fun i => at' L ((i + t) % L.length)
theorem turned_eq {L : List Pr} {t : Nat} (ht : t < L.length) : turned L t = L.drop t ++ L.take t := by
  apply List.ext_getElem?
  intro i
  unfold turned
  by_cases hi : i < L.length
  · rw [List.getElem?_map, List.getElem?_range hi, Option.map_some]
    by_cases h1 : i < L.length - t
    · rw [List.getElem?_append_left (by simp; omega), List.getElem?_drop, Nat.mod_eq_of_lt (by omega), Nat.add_comm i t, at_eq (by omega)]
    · rw [List.getElem?_append_right (by simp; omega), List.length_drop, List.getElem?_take, if_pos (by omega), Nat.mod_eq_sub_mod (by omega), Nat.mod_eq_of_lt (by omega), show i + t - L.length = i - (L.length - t) by omega, at_eq (by omega)]
  · rw [List.getElem?_eq_none (by simp; omega), List.getElem?_eq_none (by simp; omega)]
theorem turned_perm {L : List Pr} {t : Nat} (ht : t < L.length) : L.Perm (turned L t) := by
  rw [turned_eq ht]
  have := @List.perm_append_comm _ (L.take t) (L.drop t)
  rwa [List.take_append_drop] at this
theorem turned_len (L : List Pr) (t : Nat) : (turned L t).length = L.length := by simp [turned]
theorem turned_snoc (L : List Pr) (t k : Nat) (hk : k < L.length) : (turned L t).take (k + 1) = (turned L t).take k ++ [at' L ((k + t) % L.length)] := by
  rw [List.take_add_one]; congr 1
  unfold turned
  rw [List.getElem?_map, List.getElem?_range hk]; rfl

/-! Who takes every tick. -/
theorem work_full {p : Int} (hp : gp (p, p) = true) {n : Int} (hn : 0 ≤ n) : workN (p, p) n = n := by
  have g := gp_t hp
  simp only at g
  obtain ⟨K, j, a1, a2, a3, a4, aK, a5, a6⟩ := run_parts hp (show 0 ≤ n + (p, p).2 - (p, p).1 by simp; omega)
  simp only at a1 a3 aK a6
  unfold workN
  simp only
  rw [a6]; omega
theorem takes_full {p : Int} {o : Pr} (hp : gp (p, p) = true) (ho : gp o = true) : takesN (p, p) o = room o := by
  have := room_lo ho
  have g := gp_t ho
  unfold takesN
  rw [work_full hp (by omega)]; omega
theorem tot_rep (M : Nat) (x o : Pr) : tot (List.replicate M x) o = (M : Int) * takesN x o := by
  induction M with
  | zero => simp [tot_nil]
  | succ M ih =>
    rw [List.replicate_succ, tot_cons, ih, show ((M + 1 : Nat) : Int) = (M : Int) + 1 by omega, Int.add_mul, Int.one_mul]; omega
theorem full_fit {M : Nat} {p : Int} (hM : 1 ≤ M) (hM' : M ≤ 64) (hp : gp (p, p) = true) : pairsB M (List.replicate M (p, p)) = true ∧ allB M (List.replicate M (p, p)) = true := by
  have h : pairsB M (List.replicate M (p, p)) = true := pairs_iff.2 ⟨by omega, by simp; omega, fun x hx => by rw [(List.mem_replicate.1 hx).2]; exact hp⟩
  exact ⟨h, few_fit h (by simp)⟩
theorem full_no {M : Nat} {p : Int} {x : Pr} (hM : 1 ≤ M) (hM' : M ≤ 63) (hp : gp (p, p) = true) (hx : gp x = true) :
    oneE M (List.replicate M (p, p) ++ [x]) (M : Int) = 0 ∧ oneB M (List.replicate M (p, p) ++ [x]) (M : Int) = false := by
  have h : pairsB M (List.replicate M (p, p) ++ [x]) = true := pairs_iff.2 ⟨by omega, by simp; omega, fun y hy => by
    rcases List.mem_append.1 hy with hy | hy
    · rw [(List.mem_replicate.1 hy).2]; exact hp
    · rw [List.mem_singleton.1 hy]; exact hx⟩
  obtain ⟨e1, e2⟩ := one_0 (k := (M : Int)) h (by omega) (by simp; omega)
  refine ⟨e1, e2.trans ?_⟩
  have e : at' (List.replicate M (p, p) ++ [x]) (M : Int).toNat = x := by
    unfold at'; simp
  rw [e]
  unfold fits
  rw [tot_app, tot_cons, tot_nil, tot_rep, takes_full hp hx]
  exact decide_eq_false (by omega)

/-! The fraction. -/
/-- How many take every tick. -/
def fullN : List Pr → Int
  | [] => 0
  | x :: l => (if x.1 = x.2 then 1 else 0) + fullN l
theorem fullN_app (a b : List Pr) : fullN (a ++ b) = fullN a + fullN b := by
  induction a with
  | nil => simp [fullN]
  | cons x a ih => simp only [List.cons_append, fullN, ih]; omega
theorem fullN_bd (L : List Pr) : 0 ≤ fullN L ∧ fullN L ≤ L.length := by
  induction L with
  | nil => simp [fullN]
  | cons x L ih => simp only [fullN, List.length_cons]; split <;> omega
theorem frac_facts {L : List Pr} (h : ∀ x ∈ L, gp x = true) :
    1 ≤ (frac L).2 ∧ fullN L * (frac L).2 ≤ (frac L).1 ∧ (frac L).1 ≤ (L.length : Int) * (frac L).2 ∧ (L.length ≠ 0 → 1 ≤ (frac L).1) := by
  induction L with
  | nil => simp [frac, fullN]
  | cons x L ih =>
    obtain ⟨i1, i2, i3, i4⟩ := ih (fun y hy => h y (by simp [hy]))
    obtain ⟨g1, g2, g3⟩ := gp_t (h x (by simp))
    simp only [frac, fullN, List.length_cons]
    generalize (frac L).1 = n at *
    generalize (frac L).2 = d at *
    have a1 : 1 ≤ d * x.2 := by have := Int.mul_le_mul i1 (show (1 : Int) ≤ x.2 by omega) (by omega) (by omega); omega
    have a2 : fullN L * d * x.2 ≤ n * x.2 := Int.mul_le_mul_of_nonneg_right i2 (by omega)
    have a3 : n * x.2 ≤ (L.length : Int) * d * x.2 := Int.mul_le_mul_of_nonneg_right i3 (by omega)
    have a4 : x.1 * d ≤ x.2 * d := Int.mul_le_mul_of_nonneg_right g2 (by omega)
    have a5 : 1 ≤ x.1 * d := by have := Int.mul_le_mul g1 i1 (by omega) (by omega); omega
    have a6 : 0 ≤ n := by
      have := Int.mul_nonneg (fullN_bd L).1 (show 0 ≤ d by omega); omega
    have a7 : 0 ≤ n * x.2 := Int.mul_nonneg a6 (by omega)
    refine ⟨a1, ?_, ?_, fun _ => by omega⟩
    · rw [← Int.mul_assoc]
      split
      · rename_i e
        rw [Int.add_mul, Int.add_mul, Int.one_mul, e, Int.mul_comm d]; omega
      · rw [Int.zero_add]; omega
    · rw [show ((L.length + 1 : Nat) : Int) = (L.length : Int) + 1 by omega, Int.add_mul, Int.one_mul, ← Int.mul_assoc, Int.mul_comm d x.2]; omega
theorem use_0 {L : List Pr} (h : ¬ (L.length ≤ 64 ∧ ∀ x ∈ L, gp x = true)) : useN L = 0 ∧ useX L = true := by
  have e : useOk L = false := by
    cases e : useOk L with
    | false => rfl
    | true => unfold useOk at e; simp only [Bool.and_eq_true, decide_eq_true_eq, List.all_eq_true] at e; exact absurd e h
  exact ⟨if_neg (by rw [e]; decide), if_neg (by rw [e]; decide)⟩
theorem use_1 {L : List Pr} (h1 : L.length ≤ 64) (h : ∀ x ∈ L, gp x = true) : useN L = ((frac L).1 + (frac L).2 - 1) / (frac L).2 ∧ useX L = decide ((frac L).1 % (frac L).2 = 0) := by
  have e : useOk L = true := by unfold useOk; simp only [Bool.and_eq_true, decide_eq_true_eq, List.all_eq_true]; exact ⟨h1, h⟩
  exact ⟨if_pos e, if_pos e⟩
theorem use_facts {L : List Pr} (h1 : L.length ≤ 64) (h : ∀ x ∈ L, gp x = true) :
    fullN L ≤ useN L ∧ useN L ≤ L.length ∧ (L.length ≠ 0 → 1 ≤ useN L) ∧ (fullN L = L.length → useX L = true ∧ useN L = L.length) := by
  obtain ⟨e1, e2⟩ := use_1 h1 h
  obtain ⟨f1, f2, f3, f4⟩ := frac_facts h
  rw [e1, e2]
  generalize (frac L).1 = n at *
  generalize (frac L).2 = d at *
  have hd : 0 < d := by omega
  have a1 : fullN L ≤ (n + d - 1) / d := (Int.le_ediv_iff_mul_le hd).2 (by omega)
  have a2 : (n + d - 1) / d ≤ (L.length : Int) := Int.le_of_lt_add_one (Int.ediv_lt_of_lt_mul hd (by rw [Int.add_mul, Int.one_mul]; omega))
  refine ⟨a1, a2, fun e => (Int.le_ediv_iff_mul_le hd).2 (by have := f4 e; omega), fun e => ?_⟩
  have en : n = (L.length : Int) * d := by rw [e] at f2; omega
  exact ⟨decide_eq_true (by rw [en]; exact Int.mul_emod_left _ _), by rw [e] at a1; omega⟩
theorem fullN_rep (M : Nat) (p : Int) : fullN (List.replicate M (p, p)) = M := by
  induction M with
  | zero => rfl
  | succ M ih => rw [List.replicate_succ, fullN, ih, if_pos rfl]; omega
theorem use_full {M : Nat} {p : Int} (hM' : M ≤ 64) (hp : gp (p, p) = true) : useN (List.replicate M (p, p)) = M ∧ useX (List.replicate M (p, p)) = true := by
  have := (use_facts (L := List.replicate M (p, p)) (by simp; omega) (fun x hx => by rw [(List.mem_replicate.1 hx).2]; exact hp)).2.2.2 (by rw [fullN_rep]; simp)
  simp only [List.length_replicate] at this
  exact ⟨this.2, this.1⟩
/-! The others, one after another. -/
def oth (L : List Pr) (k j : Nat) : Int := tot (L.take j) (at' L k) - (if k < j then takesN (at' L k) (at' L k) else 0)
theorem oth_zero (L : List Pr) (k : Nat) : oth L k 0 = 0 := by unfold oth; simp [tot_nil]
theorem oth_same {L : List Pr} {k : Nat} (hk : k < L.length) : oth L k (k + 1) = oth L k k := by
  unfold oth
  rw [take_snoc L k hk, tot_app, tot_cons, tot_nil, if_pos (by omega), if_neg (by omega)]; omega
theorem oth_next {L : List Pr} {k j : Nat} (hj : j < L.length) (hne : j ≠ k) : oth L k (j + 1) = oth L k j + takesN (at' L j) (at' L k) := by
  unfold oth
  rw [take_snoc L j hj, tot_app, tot_cons, tot_nil]
  by_cases h : k < j
  · rw [if_pos h, if_pos (by omega)]; omega
  · rw [if_neg h, if_neg (by omega)]; omega
theorem oth_end {L : List Pr} {k : Nat} (hk : k < L.length) : oth L k L.length = tot L (at' L k) - takesN (at' L k) (at' L k) := by
  unfold oth; rw [List.take_length, if_pos hk]
theorem oth_lo {L : List Pr} {k : Nat} (h : ∀ x ∈ L, gp x = true) (hk : k < L.length) : ∀ j, j ≤ L.length → 0 ≤ oth L k j := by
  intro j
  induction j with
  | zero => intro _; rw [oth_zero]; omega
  | succ j ih =>
    intro hj
    have := ih (by omega)
    by_cases e : j = k
    · subst e; rw [oth_same hk]; omega
    · have t := takes_lo (h _ (at_mem (show j < L.length by omega))) (h _ (at_mem hk))
      rw [oth_next (by omega) e]; omega
theorem oth_bd {L : List Pr} {k : Nat} (h : ∀ x ∈ L, gp x = true) (hl : L.length ≤ 64) (hk : k < L.length) (j : Nat) (hj : j ≤ L.length) : 0 ≤ oth L k j ∧ oth L k j ≤ 137438953472 := by
  refine ⟨oth_lo h hk j hj, ?_⟩
  have a := tot_small (L := L.take j) (o := at' L k) (fun x hx => h x (List.mem_of_mem_take hx)) (h _ (at_mem hk)) (by simp; omega)
  have b := takes_lo (h _ (at_mem hk)) (h _ (at_mem hk))
  unfold oth
  split <;> omega
theorem fits_oth {m : Int} {L : List Pr} {k : Nat} (hk : k < L.length) : fits m L (at' L k) = decide (oth L k L.length < m * ((at' L k).2 - (at' L k).1 + 1)) := by
  rw [oth_end hk]; rfl
theorem room_mul {m : Int} {o : Pr} (h0 : 1 ≤ m) (h1 : m ≤ 64) (h : gp o = true) : 0 ≤ m * (o.2 - o.1 + 1) ∧ m * (o.2 - o.1 + 1) ≤ 137438953472 := by
  have b := room_lo h
  unfold room at b
  have c := Int.mul_nonneg (show 0 ≤ m by omega) (show 0 ≤ o.2 - o.1 + 1 by omega)
  have d : m * (o.2 - o.1 + 1) ≤ 64 * (o.2 - o.1 + 1) := Int.mul_le_mul_of_nonneg_right h1 (by omega)
  exact ⟨c, by omega⟩
end Go.Proofs.Ytldccbinndbcdaa.Wn
