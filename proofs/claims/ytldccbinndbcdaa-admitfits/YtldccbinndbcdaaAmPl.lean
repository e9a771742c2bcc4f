/- Who may come in: plain mathematics, by the chapter's words. Of no program. -/
import Derived.Test.YtldccbinndbcdaaWnPl
namespace Go.Proofs.Ytldccbinndbcdaa.Am
open Go.RowKit Go.Proofs.Ytldccbinndbcdaa.Wn
set_option linter.unusedVariables false
set_option linter.unusedSimpArgs false
/-- An entry: its id, its pair, its Till. -/
structure En where
  id : Int
  pr : Pr
  till : Int
/-- A book: its CPUs, who is live, who has left. -/
structure Bs where
  cpus : Int
  ins : List En
  outs : List En
def lingers (s : Bs) (now : Int) : List En := s.outs.filter (fun e => decide (now < e.till))
def prs (l : List En) : List Pr := l.map (·.pr)
def counted (s : Bs) (now : Int) : List Pr := prs s.ins ++ prs (lingers s now)
def countedAt (s : Bs) (now : Int) (i : Nat) (x : Pr) : List Pr := (prs s.ins).set i x ++ prs (lingers s now)
def findI (s : Bs) (id : Int) : Nat := s.ins.findIdx (fun e => decide (e.id = id))
def isLive (s : Bs) (id : Int) : Bool := decide (findI s id < s.ins.length)
def argB (x : Pr) (now : Int) : Bool := gp x && decide (0 ≤ now)
def askE (s : Bs) (x : Pr) (now : Int) : Int :=
  if argB x now = true then (if 32 ≤ s.ins.length ∨ 63 ≤ (counted s now).length then 3 else if allB s.cpus (counted s now ++ [x]) = true then 0 else 7) else 1
def enterE (s : Bs) (id : Int) (x : Pr) (now : Int) : Int :=
  if argB x now = true then (if isLive s id = true then 5 else askE s x now) else 1
def entered (s : Bs) (id : Int) (x : Pr) : Bs := ⟨s.cpus, s.ins ++ [⟨id, x, -1⟩], s.outs⟩
def enter (s : Bs) (id : Int) (x : Pr) (now : Int) : Bs := if enterE s id x now = 0 then entered s id x else s
def leaveE (s : Bs) (id till now : Int) : Int := if 0 ≤ till ∧ 0 ≤ now then (if isLive s id = true then 0 else 2) else 1
def atE (l : List En) (i : Nat) : En := l.getD i ⟨0, (0, 0), 0⟩
def left (s : Bs) (id till now : Int) : Bs :=
  ⟨s.cpus, s.ins.take (findI s id) ++ s.ins.drop (findI s id + 1), if now < till then s.outs ++ [⟨(atE s.ins (findI s id)).id, (atE s.ins (findI s id)).pr, till⟩] else s.outs⟩
def leave (s : Bs) (id till now : Int) : Bs := if leaveE s id till now = 0 then left s id till now else s
def changeE (s : Bs) (id : Int) (x : Pr) (now : Int) : Int :=
  if argB x now = true then (if isLive s id = true then (if allB s.cpus (countedAt s now (findI s id) x) = true then 0 else 7) else 2) else 1
def put (l : List En) (i : Nat) (x : Pr) : List En := l.set i ⟨(atE l i).id, x, (atE l i).till⟩
def changed (s : Bs) (id : Int) (x : Pr) : Bs := ⟨s.cpus, put s.ins (findI s id) x, s.outs⟩
def change (s : Bs) (id : Int) (x : Pr) (now : Int) : Bs := if changeE s id x now = 0 then changed s id x else s

theorem atE_eq {l : List En} {i : Nat} (h : i < l.length) : l[i]? = some (atE l i) := by
  unfold atE; rw [List.getD_eq_getElem?_getD, List.getElem?_eq_getElem h]; rfl
theorem atE_get {l : List En} {i : Nat} (h : i < l.length) : l[i] = atE l i := by
  have := atE_eq h
  rw [List.getElem?_eq_getElem h] at this
  exact Option.some.inj this
theorem takeE_snoc (l : List En) (k : Nat) (h : k < l.length) : l.take (k + 1) = l.take k ++ [atE l k] := by
  rw [List.take_add_one, atE_eq h]; rfl
theorem prs_len (l : List En) : (prs l).length = l.length := by simp [prs]
theorem prs_app (a b : List En) : prs (a ++ b) = prs a ++ prs b := by simp [prs]
theorem lingers_len (s : Bs) (now : Int) : (lingers s now).length ≤ s.outs.length := List.length_filter_le _ _
/-- The first whose id it is. -/
theorem find_at {s : Bs} {id : Int} {k : Nat} (hk : k < s.ins.length) (h : (atE s.ins k).id = id) (hb : ∀ j, j < k → (atE s.ins j).id ≠ id) : findI s id = k := by
  unfold findI
  refine (List.findIdx_eq hk).2 ⟨by rw [atE_get hk]; exact decide_eq_true h, fun j hj => ?_⟩
  rw [atE_get (by omega)]; exact decide_eq_false (hb j hj)
theorem find_none {s : Bs} {id : Int} (hb : ∀ j, j < s.ins.length → (atE s.ins j).id ≠ id) : findI s id = s.ins.length := by
  unfold findI
  refine List.findIdx_eq_length.2 fun e he => ?_
  obtain ⟨j, hj, rfl⟩ := List.mem_iff_getElem.1 he
  rw [atE_get hj]; exact decide_eq_false (hb j hj)
theorem live_at {s : Bs} {id : Int} {k : Nat} (hk : k < s.ins.length) (h : (atE s.ins k).id = id) (hb : ∀ j, j < k → (atE s.ins j).id ≠ id) : isLive s id = true := by
  unfold isLive; rw [find_at hk h hb]; exact decide_eq_true hk
theorem live_none {s : Bs} {id : Int} (hb : ∀ j, j < s.ins.length → (atE s.ins j).id ≠ id) : isLive s id = false := by
  unfold isLive; rw [find_none hb]; exact decide_eq_false (by omega)
theorem live_lt {s : Bs} {id : Int} (h : isLive s id = true) : findI s id < s.ins.length := of_decide_eq_true h
theorem live_of {s : Bs} {id : Int} {k : Nat} (hk : k < s.ins.length) (h : (atE s.ins k).id = id) : isLive s id = true := by
  cases e : isLive s id with
  | true => rfl
  | false =>
    have h1 : ¬ findI s id < s.ins.length := of_decide_eq_false e
    have h2 : findI s id = s.ins.length := by
      have := List.findIdx_le_length (xs := s.ins) (p := fun e => decide (e.id = id))
      unfold findI at h1 ⊢; omega
    unfold findI at h2
    have := List.findIdx_eq_length.1 h2 (s.ins[k]) (List.getElem_mem hk)
    rw [atE_get hk, decide_eq_true h] at this; cases this

/-! Each call's cases. -/
theorem arg_t {x : Pr} {now : Int} (h : gp x = true) (h0 : 0 ≤ now) : argB x now = true := by unfold argB; rw [h, decide_eq_true h0]; rfl
theorem arg_f1 {x : Pr} {now : Int} (h : gp x = false) : argB x now = false := by unfold argB; rw [h]; rfl
theorem arg_f2 {x : Pr} {now : Int} (h : now < 0) : argB x now = false := by unfold argB; rw [decide_eq_false (by omega), Bool.and_false]
theorem ask_1 {s : Bs} {x : Pr} {now : Int} (h : argB x now = false) : askE s x now = 1 := if_neg (by rw [h]; decide)
theorem ask_3 {s : Bs} {x : Pr} {now : Int} (h : argB x now = true) (hf : 32 ≤ s.ins.length ∨ 63 ≤ (counted s now).length) : askE s x now = 3 := by
  unfold askE; rw [if_pos h, if_pos hf]
theorem ask_b {s : Bs} {x : Pr} {now : Int} (h : argB x now = true) (hf : ¬ (32 ≤ s.ins.length ∨ 63 ≤ (counted s now).length)) : askE s x now = if allB s.cpus (counted s now ++ [x]) = true then 0 else 7 := by
  unfold askE; rw [if_pos h, if_neg hf]
theorem enter_1 {s : Bs} {id : Int} {x : Pr} {now : Int} (h : argB x now = false) : enterE s id x now = 1 ∧ enter s id x now = s := by
  have e : enterE s id x now = 1 := if_neg (by rw [h]; decide)
  exact ⟨e, if_neg (by rw [e]; decide)⟩
theorem enter_5 {s : Bs} {id : Int} {x : Pr} {now : Int} (h : argB x now = true) (hl : isLive s id = true) : enterE s id x now = 5 ∧ enter s id x now = s := by
  have e : enterE s id x now = 5 := by unfold enterE; rw [if_pos h, if_pos hl]
  exact ⟨e, if_neg (by rw [e]; decide)⟩
theorem enter_a {s : Bs} {id : Int} {x : Pr} {now : Int} (h : argB x now = true) (hl : isLive s id = false) : enterE s id x now = askE s x now := by
  unfold enterE; rw [if_pos h, if_neg (by rw [hl]; decide)]
theorem enter_y {s : Bs} {id : Int} {x : Pr} {now : Int} (h : enterE s id x now = 0) : enter s id x now = entered s id x := if_pos h
theorem enter_n {s : Bs} {id : Int} {x : Pr} {now : Int} (h : enterE s id x now ≠ 0) : enter s id x now = s := if_neg h
theorem leave_1 {s : Bs} {id till now : Int} (h : ¬ (0 ≤ till ∧ 0 ≤ now)) : leaveE s id till now = 1 ∧ leave s id till now = s := by
  have e : leaveE s id till now = 1 := if_neg h
  exact ⟨e, if_neg (by rw [e]; decide)⟩
theorem leave_2 {s : Bs} {id till now : Int} (h : 0 ≤ till ∧ 0 ≤ now) (hl : isLive s id = false) : leaveE s id till now = 2 ∧ leave s id till now = s := by
  have e : leaveE s id till now = 2 := by unfold leaveE; rw [if_pos h, if_neg (by rw [hl]; decide)]
  exact ⟨e, if_neg (by rw [e]; decide)⟩
theorem leave_0 {s : Bs} {id till now : Int} (h : 0 ≤ till ∧ 0 ≤ now) (hl : isLive s id = true) : leaveE s id till now = 0 ∧ leave s id till now = left s id till now := by
  have e : leaveE s id till now = 0 := by unfold leaveE; rw [if_pos h, if_pos hl]
  exact ⟨e, if_pos e⟩
theorem change_1 {s : Bs} {id : Int} {x : Pr} {now : Int} (h : argB x now = false) : changeE s id x now = 1 ∧ change s id x now = s := by
  have e : changeE s id x now = 1 := if_neg (by rw [h]; decide)
  exact ⟨e, if_neg (by rw [e]; decide)⟩
theorem change_2 {s : Bs} {id : Int} {x : Pr} {now : Int} (h : argB x now = true) (hl : isLive s id = false) : changeE s id x now = 2 ∧ change s id x now = s := by
  have e : changeE s id x now = 2 := by unfold changeE; rw [if_pos h, if_neg (by rw [hl]; decide)]
  exact ⟨e, if_neg (by rw [e]; decide)⟩
theorem change_7 {s : Bs} {id : Int} {x : Pr} {now : Int} (h : argB x now = true) (hl : isLive s id = true) (ha : allB s.cpus (countedAt s now (findI s id) x) = false) : changeE s id x now = 7 ∧ change s id x now = s := by
  have e : changeE s id x now = 7 := by unfold changeE; rw [if_pos h, if_pos hl, if_neg (by rw [ha]; decide)]
  exact ⟨e, if_neg (by rw [e]; decide)⟩
theorem change_0 {s : Bs} {id : Int} {x : Pr} {now : Int} (h : argB x now = true) (hl : isLive s id = true) (ha : allB s.cpus (countedAt s now (findI s id) x) = true) : changeE s id x now = 0 ∧ change s id x now = changed s id x := by
  have e : changeE s id x now = 0 := by unfold changeE; rw [if_pos h, if_pos hl, if_pos ha]
  exact ⟨e, if_pos e⟩

/-! All that are counted fit. -/
theorem tot_sub {L L' : List Pr} {o : Pr} (h : List.Sublist L' L) (hg : ∀ x ∈ L, gp x = true) (ho : gp o = true) : tot L' o ≤ tot L o := by
  induction h with
  | slnil => exact Int.le_refl _
  | cons x h ih =>
    have := ih (fun y hy => hg y (by simp [hy]))
    have t := takes_lo (hg x (by simp)) ho
    rw [tot_cons]; omega
  | cons_cons x h ih =>
    have := ih (fun y hy => hg y (by simp [hy]))
    rw [tot_cons, tot_cons]; omega
theorem sub_fit {m : Int} {L L' : List Pr} (h : List.Sublist L' L) (hp : pairsB m L = true) : pairsB m L' = true ∧ (allB m L = true → allB m L' = true) := by
  obtain ⟨h1, h2, h3⟩ := pairs_iff.1 hp
  have hp' : pairsB m L' = true := pairs_iff.2 ⟨h1, Nat.le_trans h.length_le h2, fun x hx => h3 x (h.subset hx)⟩
  exact ⟨hp', less_fit hp hp' (fun x hx => h.subset hx) (fun o ho => tot_sub h h3 (h3 o ho))⟩
theorem all_pairs {m : Int} {L : List Pr} (h : allB m L = true) : pairsB m L = true := by
  cases e : pairsB m L with
  | true => rfl
  | false => rw [(all_1 e).2] at h; cases h
theorem all_perm {m : Int} {L R : List Pr} (hp : L.Perm R) (h : allB m L = true) : allB m R = true := by rw [← (perm_fit hp).2]; exact h
theorem all_sub {m : Int} {L L' : List Pr} (hs : List.Sublist L' L) (h : allB m L = true) : allB m L' = true := (sub_fit hs (all_pairs h)).2 h
/-- What AdmitFits keeps. -/
def Fit (s : Bs) (now : Int) : Prop := allB s.cpus (counted s now) = true ∧ s.ins.length ≤ 32
theorem lingers_later {s : Bs} {now now' : Int} (h : now ≤ now') : List.Sublist (lingers s now') (lingers s now) := by
  unfold lingers
  induction s.outs with
  | nil => exact List.Sublist.refl _
  | cons e l ih =>
    simp only [List.filter_cons]
    by_cases h1 : now' < e.till
    · rw [if_pos (decide_eq_true h1), if_pos (decide_eq_true (show now < e.till by omega))]; exact ih.cons_cons _
    · rw [if_neg (by simp; omega)]
      split
      · exact ih.cons _
      · exact ih
theorem fit_later {s : Bs} {now now' : Int} (h : now ≤ now') (hf : Fit s now) : Fit s now' :=
  ⟨all_sub ((List.Sublist.refl _).append ((lingers_later h).map _)) hf.1, hf.2⟩
theorem fit_new {c now : Int} (h : 1 ≤ c ∧ c ≤ 64) : Fit ⟨c, [], []⟩ now := by
  refine ⟨?_, by simp⟩
  have : pairsB c (counted ⟨c, [], []⟩ now) = true := pairs_iff.2 ⟨h, by simp [counted, prs, lingers], by simp [counted, prs, lingers]⟩
  exact few_fit this (by simp [counted, prs, lingers]; omega)
theorem enter_ok {s : Bs} {id : Int} {x : Pr} {now : Int} (h0 : enterE s id x now = 0) : argB x now = true ∧ isLive s id = false ∧ s.ins.length < 32 ∧ allB s.cpus (counted s now ++ [x]) = true := by
  have ha : argB x now = true := by
    cases e : argB x now with
    | true => rfl
    | false => rw [(enter_1 e).1] at h0; cases h0
  have hl : isLive s id = false := by
    cases e : isLive s id with
    | false => rfl
    | true => rw [(enter_5 ha e).1] at h0; cases h0
  rw [enter_a ha hl] at h0
  by_cases hfull : 32 ≤ s.ins.length ∨ 63 ≤ (counted s now).length
  · rw [ask_3 ha hfull] at h0; cases h0
  rw [ask_b ha hfull] at h0
  refine ⟨ha, hl, by omega, ?_⟩
  cases e : allB s.cpus (counted s now ++ [x]) with
  | true => rfl
  | false => rw [e] at h0; cases h0
theorem fit_enter {s : Bs} {id : Int} {x : Pr} {now : Int} (hf : Fit s now) : Fit (enter s id x now) now := by
  by_cases h0 : enterE s id x now = 0
  · rw [enter_y h0]
    obtain ⟨_, _, hlt, hall⟩ := enter_ok h0
    refine ⟨all_perm ?_ hall, by simp [entered]; omega⟩
    show (counted s now ++ [x]).Perm (prs (s.ins ++ [⟨id, x, -1⟩]) ++ prs (lingers s now))
    rw [prs_app, counted, List.append_assoc, List.append_assoc]
    exact List.Perm.append_left _ List.perm_append_comm
  · rw [enter_n h0]; exact hf
theorem takedrop_perm {l : List En} {k : Nat} (hk : k < l.length) : l.Perm (atE l k :: (l.take k ++ l.drop (k + 1))) := by
  have e : l = l.take k ++ atE l k :: l.drop (k + 1) := by
    have : l.drop k = atE l k :: l.drop (k + 1) := by rw [List.drop_eq_getElem_cons hk, atE_get hk]
    rw [← this, List.take_append_drop]
  conv => lhs; rw [e]
  exact List.perm_middle
theorem fit_leave {s : Bs} {id till now : Int} (hf : Fit s now) : Fit (leave s id till now) now := by
  by_cases h : 0 ≤ till ∧ 0 ≤ now
  · cases hl : isLive s id with
    | false => rw [(leave_2 h hl).2]; exact hf
    | true =>
      rw [(leave_0 h hl).2]
      have hk := live_lt hl
      have hP : (prs s.ins).Perm ((atE s.ins (findI s id)).pr :: prs (s.ins.take (findI s id) ++ s.ins.drop (findI s id + 1))) := (takedrop_perm hk).map _
      refine ⟨?_, by simp [left]; have := hf.2; omega⟩
      by_cases ht : now < till
      · refine all_perm ?_ hf.1
        show (prs s.ins ++ prs (lingers s now)).Perm (prs (s.ins.take (findI s id) ++ s.ins.drop (findI s id + 1)) ++ prs (lingers (left s id till now) now))
        have e : lingers (left s id till now) now = lingers s now ++ [⟨(atE s.ins (findI s id)).id, (atE s.ins (findI s id)).pr, till⟩] := by
          unfold lingers left; rw [if_pos ht, List.filter_append]; simp [ht]
        rw [e, prs_app (lingers s now)]
        refine (hP.append_right _).trans ?_
        rw [List.cons_append, ← List.append_assoc]
        exact List.perm_append_comm (l₁ := [(atE s.ins (findI s id)).pr]) (l₂ := prs (s.ins.take (findI s id) ++ s.ins.drop (findI s id + 1)) ++ prs (lingers s now))
      · have e : lingers (left s id till now) now = lingers s now := by unfold lingers left; rw [if_neg ht]
        refine all_sub ?_ (all_perm (hP.append_right _) hf.1)
        show List.Sublist (prs (s.ins.take (findI s id) ++ s.ins.drop (findI s id + 1)) ++ prs (lingers (left s id till now) now)) _
        rw [e, List.cons_append]
        exact List.sublist_cons_self _ _
  · rw [(leave_1 h).2]; exact hf
theorem prs_put {l : List En} {i : Nat} {x : Pr} : prs (put l i x) = (prs l).set i x := by
  unfold prs put; rw [List.map_set]
theorem fit_change {s : Bs} {id : Int} {x : Pr} {now : Int} (hf : Fit s now) : Fit (change s id x now) now := by
  cases ha : argB x now with
  | false => rw [(change_1 ha).2]; exact hf
  | true =>
    cases hl : isLive s id with
    | false => rw [(change_2 ha hl).2]; exact hf
    | true =>
      cases hall : allB s.cpus (countedAt s now (findI s id) x) with
      | false => rw [(change_7 ha hl hall).2]; exact hf
      | true =>
        rw [(change_0 ha hl hall).2]
        refine ⟨?_, by simp [changed, put]; exact hf.2⟩
        show allB s.cpus (prs (put s.ins (findI s id) x) ++ prs (lingers s now)) = true
        rw [prs_put]; exact hall
/-- As many as may be. -/
def Small (s : Bs) : Prop := s.ins.length ≤ 32 ∧ s.outs.length ≤ 500
end Go.Proofs.Ytldccbinndbcdaa.Am
