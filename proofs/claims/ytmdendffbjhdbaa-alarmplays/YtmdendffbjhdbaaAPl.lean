/- Alarms and the reference's side by side. -/
import Derived.Test.YtmdendffbjhdbaaAR5
namespace Go.Proofs.Ytmdendffbjhdbaa.Con
open Go.RowKit Go.Proofs.Ytmdendffbjhdbaa.Hq
set_option linter.unusedVariables false
set_option linter.unusedSimpArgs false
/- Plain: what the calls make of a row. -/
def fil (c id : Int) (L : List Rg) : List Rg := L.filter fun y => decide (¬ (y.1 = c ∧ y.2.1 = id))
theorem fil_mem (c id : Int) (L : List Rg) (y : Rg) : y ∈ fil c id L ↔ ¬ (y.1 = c ∧ y.2.1 = id) ∧ y ∈ L := by
  unfold fil; rw [List.mem_filter, decide_eq_true_eq]; exact And.comm
theorem fil_srt {c id : Int} {L : List Rg} (h : L.Pairwise rlt) : (fil c id L).Pairwise rlt := h.filter _
theorem fil_len (c id : Int) (L : List Rg) : (fil c id L).length ≤ L.length := List.length_filter_le _ _
theorem fil_none {c id : Int} {L : List Rg} (h : ∀ t, (c, id, t) ∉ L) : fil c id L = L := by
  unfold fil
  rw [List.filter_eq_self]
  rintro ⟨y1, y2, y3⟩ hy
  rw [decide_eq_true_eq]
  rintro ⟨e1, e2⟩
  simp only at e1 e2
  subst e1; subst e2
  exact h _ hy
instance (n : Nat) (now c id t : Int) : Decidable (rArmOk n now c id t) := by unfold rArmOk; infer_instance
def armF (n : Nat) (now c id t : Int) (L : List Rg) : List Rg := if rArmOk n now c id t then ins (c, id, t) (fil c id L) else L
def armR (n : Nat) (now c id t : Int) : Int := if rArmOk n now c id t then 0 else 1
theorem arm_mem (c id t : Int) (L : List Rg) (y : Rg) : y ∈ ins (c, id, t) (fil c id L) ↔ y = (c, id, t) ∨ (¬ (y.1 = c ∧ y.2.1 = id) ∧ y ∈ L) := by
  rw [ins_mem, fil_mem]
def canR (c id : Int) (L : List Rg) : Bool := L.any fun y => decide (y.1 = c ∧ y.2.1 = id)
theorem can_yes {c id : Int} {L : List Rg} : canR c id L = true ↔ ∃ t, (c, id, t) ∈ L := by
  unfold canR
  rw [List.any_eq_true]
  constructor
  · rintro ⟨⟨y1, y2, y3⟩, hy, e⟩
    rw [decide_eq_true_eq] at e
    obtain ⟨e1, e2⟩ := e
    simp only at e1 e2
    subst e1; subst e2
    exact ⟨_, hy⟩
  · rintro ⟨t, h⟩
    exact ⟨_, h, by simp⟩
theorem can_no {c id : Int} {L : List Rg} (h : ∀ t, (c, id, t) ∉ L) : canR c id L = false := by
  cases e : canR c id L with
  | false => rfl
  | true => obtain ⟨t, ht⟩ := can_yes.1 e; exact absurd ht (h t)
def inR (n : Nat) (c tc : Int) : Prop := 0 ≤ c ∧ c < n ∧ 0 ≤ tc ∧ tc < n
instance (n : Nat) (c tc : Int) : Decidable (inR n c tc) := by unfold inR; infer_instance
def fnd (c id : Int) (L : List Rg) : Option Rg := L.find? fun y => decide (y.1 = c ∧ y.2.1 = id)
theorem fnd_some {c id t : Int} {L : List Rg} (hu : Uq L) (h : (c, id, t) ∈ L) : fnd c id L = some (c, id, t) := by
  cases e : fnd c id L with
  | none =>
    unfold fnd at e
    rw [List.find?_eq_none] at e
    exact absurd (e _ h) (by simp)
  | some y =>
    unfold fnd at e
    have h1 := List.find?_some e
    have h2 := List.mem_of_find?_eq_some e
    rw [decide_eq_true_eq] at h1
    obtain ⟨y1, y2, y3⟩ := y
    obtain ⟨e1, e2⟩ := h1
    simp only at e1 e2
    subst e1; subst e2
    rw [hu _ _ _ _ h2 h]
theorem fnd_none {c id : Int} {L : List Rg} (h : ∀ t, (c, id, t) ∉ L) : fnd c id L = none := by
  unfold fnd
  rw [List.find?_eq_none]
  rintro ⟨y1, y2, y3⟩ hy
  rw [decide_eq_true_eq]
  rintro ⟨e1, e2⟩
  simp only at e1 e2
  subst e1; subst e2
  exact h _ hy
def movF (n : Nat) (c tc id : Int) (L : List Rg) : List Rg := if inR n c tc then (match fnd c id L with | some y => ins (tc, id, y.2.2) (fil tc id (fil c id L)) | none => L) else L
def movR (n : Nat) (c tc id : Int) (L : List Rg) : Int := if inR n c tc then (match fnd c id L with | some _ => 0 | none => 4) else 1
theorem mov_mem (c tc id t : Int) (L : List Rg) (y : Rg) : y ∈ ins (tc, id, t) (fil tc id (fil c id L)) ↔ y = (tc, id, t) ∨ (¬ (y.1 = tc ∧ y.2.1 = id) ∧ ¬ (y.1 = c ∧ y.2.1 = id) ∧ y ∈ L) := by
  rw [ins_mem, fil_mem, fil_mem]
/-- What stands of a row. -/
structure GI (now : Int) (L : List Rg) (m : Nat) : Prop where
  srt : L.Pairwise rlt
  low : ∀ x ∈ L, now ≤ x.2.2
  len : L.length ≤ m
theorem ins_le (x : Rg) (L : List Rg) (h : x ∉ L) : (ins x L).length ≤ L.length + 1 := by rw [ins_len x L h]; exact Nat.le_refl _
theorem GI.arm {now : Int} {L : List Rg} {m : Nat} (g : GI now L m) (n : Nat) (c id t : Int) : GI now (armF n now c id t L) (m + 1) := by
  unfold armF
  split
  · rename_i hok
    refine ⟨ins_srt _ (fil_srt g.srt), fun x hx => ?_, ?_⟩
    · rcases (arm_mem _ _ _ _ _).1 hx with rfl | h
      · exact hok.2.2.2.2.1
      · exact g.low x h.2
    · have h1 := ins_le (c, id, t) (fil c id L) (fun h => ((fil_mem _ _ _ _).1 h).1 ⟨rfl, rfl⟩)
      have h2 := fil_len c id L
      have := g.len
      omega
  · exact ⟨g.srt, g.low, by have := g.len; omega⟩
theorem GI.can {now : Int} {L : List Rg} {m : Nat} (g : GI now L m) (c id : Int) : GI now (fil c id L) m :=
  ⟨fil_srt g.srt, fun x hx => g.low x ((fil_mem _ _ _ _).1 hx).2, Nat.le_trans (fil_len _ _ _) g.len⟩
theorem GI.mono {now : Int} {L : List Rg} {m m' : Nat} (g : GI now L m) (h : m ≤ m') : GI now L m' := ⟨g.srt, g.low, Nat.le_trans g.len h⟩
theorem GI.mov {now : Int} {L : List Rg} {m : Nat} (g : GI now L m) (n : Nat) (c tc id : Int) : GI now (movF n c tc id L) (m + 1) := by
  unfold movF
  split
  · split
    · rename_i y hy
      have hm : y ∈ L := List.mem_of_find?_eq_some hy
      refine ⟨ins_srt _ (fil_srt (fil_srt g.srt)), fun x hx => ?_, ?_⟩
      · rcases (mov_mem _ _ _ _ _ _).1 hx with rfl | h
        · exact g.low y hm
        · exact g.low x h.2.2
      · have h1 := ins_le (tc, id, y.2.2) (fil tc id (fil c id L)) (fun h => ((fil_mem _ _ _ _).1 h).1 ⟨rfl, rfl⟩)
        have h2 := fil_len tc id (fil c id L)
        have h3 := fil_len c id L
        have := g.len
        omega
    · exact g.mono (by omega)
  · exact g.mono (by omega)
theorem GI.dn {now : Int} {L : List Rg} {m : Nat} (g : GI now L m) (t : Int) : GI t (dn t L) m :=
  ⟨g.srt.filter _, fun x hx => by have := ((dn_mem _ _ _).1 hx).2; omega, Nat.le_trans (List.length_filter_le _ _) g.len⟩
/- Side by side. -/
structure PM (W wr : World) (ab n : Nat) (na : Int) (La : List Rg) (rb : Nat) (nr : Int) (v : Value) (Lr : List Rg) (xb : Nat) (cs : Array Value) : Prop where
  al : AL W wr ab n na La
  rl : Rl wr rb n nr v Lr
  past : W.heap.size ≤ rb
  box : wr.heap[xb]? = some (.cells cs 45 (0, 0))
section
variable {W wr w' : World} {ab n rb xb : Nat} {na nr na' nr' now : Int} {La Lr La' Lr' L : List Rg} {v v' : Value} {cs : Array Value}
theorem AL.uq (a : AL W wr ab n now L) : Uq L := by
  obtain ⟨d, h1, h2, h3, rfl, rfl, rfl, h4⟩ := a
  exact fun c i x y e1 e2 => has_uniq h1 ((h4 _ _ _).2 e1) ((h4 _ _ _).2 e2)
theorem PM.a_call (h : PM W wr ab n na La rb nr v Lr xb cs) (al' : AL W w' ab n na' La') (kp : Kp wr w') : PM W w' ab n na' La' rb nr v Lr xb cs :=
  ⟨al', h.rl.kp kp, h.past, (kp xb ⟨_, _, _, h.box, by decide, by decide, by decide, by decide⟩).trans h.box⟩
theorem PM.r_call (h : PM W wr ab n na La rb nr v Lr xb cs) (rl' : Rl w' rb n nr' v' Lr') (rt : RT wr w' rb) : PM W w' ab n na La rb nr' v' Lr' xb cs := by
  refine ⟨h.al.kept (rt.toBelow h.al.bel.size h.past) fun k hk ho => rt.block k hk fun e => ho (e ▸ h.rl.oth), rl', h.past, ?_⟩
  refine (rt.block xb (Array.getElem?_eq_some_iff.1 h.box).1 ?_).trans h.box
  rintro rfl
  have := h.box.symm.trans h.rl.str
  simp at this
theorem PM.more (h : PM W wr ab n na La rb nr v Lr xb cs) (hB : Below wr.heap.size wr w') : PM W w' ab n na La rb nr v Lr xb cs :=
  ⟨h.al.more hB, h.rl.below hB, h.past, row_kept hB h.box⟩
theorem PM.drew (h : PM W wr ab n na La rb nr v Lr xb cs) : PM W wr.drew ab n na La rb nr v Lr xb cs := h.more (bel_drew (Below.refl _ _))
theorem PM.cell (h : PM W wr ab n na La rb nr v Lr xb cs) {i : Nat} {u : Value} (hi : cs[i]? = some u) : wr.cell? ⟨xb, i, none⟩ = some u := by rw [cell_of_row wr _ _ _ _ _ h.box]; exact hi
theorem pm_arm (h : PM W wr ab n now L rb nr v Lr xb cs) (c id t : Int) :
    Calls Try.prog 9 #[.pointer (some ⟨ab, 0, none⟩), .int .i64 c, .int .i64 id, .int .i64 t] wr fun e w' => e = .returned (.int .i64 (armR n now c id t)) ∧ Hid (PM W w' ab n now (armF n now c id t L) rb nr v Lr xb cs) := by
  unfold armR armF
  by_cases hok : rArmOk n now c id t
  · rw [if_pos hok, if_pos hok]
    obtain ⟨o1, o2, o3, o4, o5, o6⟩ := hok
    refine (armL_ok h.al o1 o2 o3 o4 o5 o6 (arm_mem c id t L)).mono ?_
    rintro e w' ⟨rfl, S, K⟩
    exact ⟨rfl, hide (h.a_call S.out K.out)⟩
  · rw [if_neg hok, if_neg hok]
    refine (armL_bad h.al hok).mono ?_
    rintro e w' ⟨rfl, rfl⟩
    exact ⟨rfl, hide h⟩
theorem pm_rarm {m : Nat} (h : PM W wr ab n na La rb now v L xb cs) (g : GI now L m) (hu : Uq L) (hm : m < 1000) (c id t : Int) :
    Calls Try.prog 16 #[.pointer (some ⟨rb, 0, none⟩), .int .i64 c, .int .i64 id, .int .i64 t] wr fun e w' => e = .returned (.int .i64 (armR n now c id t)) ∧ ∃ v', Hid (PM W w' ab n na La rb now v' (armF n now c id t L) xb cs) := by
  unfold armR armF
  by_cases hok : rArmOk n now c id t
  · rw [if_pos hok, if_pos hok]
    refine (rarm_ok h.rl g.srt hu (by have := g.len; omega) hok).mono ?_
    rintro e w' ⟨rfl, v', L', A⟩
    have E : L' = ins (c, id, t) (fil c id L) := srt_eq _ _ A.srt (ins_srt _ (fil_srt g.srt)) fun y => by rw [A.mem, arm_mem]
    subst E
    exact ⟨rfl, v', hide (h.r_call A.rl A.rt)⟩
  · rw [if_neg hok, if_neg hok]
    refine (rarm_bad h.rl hok).mono ?_
    rintro e w' ⟨rfl, rfl⟩
    exact ⟨rfl, v, hide h⟩
theorem pm_can (h : PM W wr ab n now L rb nr v Lr xb cs) (c id : Int) (hid : in64 id) :
    Calls Try.prog 13 #[.pointer (some ⟨ab, 0, none⟩), .int .i64 c, .int .i64 id] wr fun e w' => e = .returned (.bool (canR c id L)) ∧ Hid (PM W w' ab n now (fil c id L) rb nr v Lr xb cs) := by
  by_cases hx : ∃ t, (c, id, t) ∈ L
  · rw [can_yes.2 hx]
    obtain ⟨t, ht⟩ := hx
    refine (cancelL_yes h.al ht (fil_mem c id L)).mono ?_
    rintro e w' ⟨rfl, S, K⟩
    exact ⟨rfl, hide (h.a_call S.out K.out)⟩
  · have hno : ∀ t, (c, id, t) ∉ L := fun t ht => hx ⟨t, ht⟩
    rw [can_no hno, fil_none hno]
    refine (cancelL_no h.al hid hno).mono ?_
    rintro e w' ⟨rfl, rfl⟩
    exact ⟨rfl, hide h⟩
theorem pm_rcan {m : Nat} (h : PM W wr ab n na La rb now v L xb cs) (g : GI now L m) (hu : Uq L) (c id : Int) :
    Calls Try.prog 17 #[.pointer (some ⟨rb, 0, none⟩), .int .i64 c, .int .i64 id] wr fun e w' => ∃ r v', e = .returned (.tuple #[.int .i64 r, .bool (canR c id L)]) ∧ Hid (PM W w' ab n na La rb now v' (fil c id L) xb cs) := by
  refine (rcan_any h.rl g.srt hu c id).mono ?_
  rintro e w' ⟨r, b, v', L', rfl, C⟩
  have E : L' = fil c id L := srt_eq _ _ C.out.srt (fil_srt g.srt) fun y => by rw [C.out.mem, fil_mem]
  have hb : b = canR c id L := by
    cases b with
    | true => exact (can_yes.2 ⟨r, C.out.yes rfl⟩).symm
    | false => exact (can_no (C.out.no rfl).2).symm
  subst E
  rw [← hb]
  exact ⟨r, v', rfl, hide (h.r_call C.out.rl C.out.rt)⟩
theorem pm_mov (h : PM W wr ab n now L rb nr v Lr xb cs) (c tc id : Int) (hid : in64 id) :
    Calls Try.prog 10 #[.pointer (some ⟨ab, 0, none⟩), .int .i64 c, .int .i64 tc, .int .i64 id] wr fun e w' => e = .returned (.int .i64 (movR n c tc id L)) ∧ Hid (PM W w' ab n now (movF n c tc id L) rb nr v Lr xb cs) := by
  unfold movR movF
  by_cases hin : inR n c tc
  · rw [if_pos hin, if_pos hin]
    by_cases hx : ∃ t, (c, id, t) ∈ L
    · obtain ⟨t, ht⟩ := hx
      rw [fnd_some h.al.uq ht]
      refine (moveL_ok h.al hin.2.2.1 hin.2.2.2 ht (mov_mem c tc id t L)).mono ?_
      rintro e w' ⟨rfl, S, K⟩
      exact ⟨rfl, hide (h.a_call S.out K.out)⟩
    · have hno : ∀ t, (c, id, t) ∉ L := fun t ht => hx ⟨t, ht⟩
      rw [fnd_none hno]
      refine (moveL_none h.al hid hin.1 hin.2.1 hin.2.2.1 hin.2.2.2 hno).mono ?_
      rintro e w' ⟨rfl, rfl⟩
      exact ⟨rfl, hide h⟩
  · rw [if_neg hin, if_neg hin]
    refine (moveL_bad h.al hin).mono ?_
    rintro e w' ⟨rfl, rfl⟩
    exact ⟨rfl, hide h⟩
theorem pm_rmov {m : Nat} (h : PM W wr ab n na La rb now v L xb cs) (g : GI now L m) (hu : Uq L) (hm : m < 1000) (hf : ∀ c i t, (c, i, t) ∈ L → 0 ≤ i ∧ i < 1024 ∧ t ≤ top2) (c tc id : Int) :
    Calls Try.prog 18 #[.pointer (some ⟨rb, 0, none⟩), .int .i64 c, .int .i64 tc, .int .i64 id] wr fun e w' => e = .returned (.int .i64 (movR n c tc id L)) ∧ ∃ v', Hid (PM W w' ab n na La rb now v' (movF n c tc id L) xb cs) := by
  unfold movR movF
  by_cases hin : inR n c tc
  · rw [if_pos hin, if_pos hin]
    by_cases hx : ∃ t, (c, id, t) ∈ L
    · obtain ⟨t, ht⟩ := hx
      rw [fnd_some hu ht]
      have f := hf _ _ _ ht
      refine (rmove_ok h.rl g.srt hu (by have := g.len; omega) hin.1 hin.2.1 hin.2.2.1 hin.2.2.2 ht f.1 f.2.1 (g.low _ ht) f.2.2).mono ?_
      rintro e w' ⟨rfl, v', L', A⟩
      have E : L' = ins (tc, id, t) (fil tc id (fil c id L)) := srt_eq _ _ A.out.srt (ins_srt _ (fil_srt (fil_srt g.srt))) fun y => by rw [A.out.mem, mov_mem]
      subst E
      exact ⟨rfl, v', hide (h.r_call A.out.rl A.out.rt)⟩
    · have hno : ∀ t, (c, id, t) ∉ L := fun t ht => hx ⟨t, ht⟩
      rw [fnd_none hno]
      refine (rmove_none h.rl g.srt hu hin.1 hin.2.1 hin.2.2.1 hin.2.2.2 hno).mono ?_
      rintro e w' ⟨rfl, v', L', A⟩
      have E : L' = L := srt_eq _ _ A.out.srt g.srt A.out.mem
      subst E
      exact ⟨rfl, v', hide (h.r_call A.out.rl A.out.rt)⟩
  · rw [if_neg hin, if_neg hin]
    refine (rmove_bad h.rl hin).mono ?_
    rintro e w' ⟨rfl, rfl⟩
    exact ⟨rfl, v, hide h⟩
/- To, where it may be. -/
theorem pm_to {m : Nat} (h : PM W wr ab n now L rb nr v Lr xb cs) (g : GI now L m) {t : Int} (t0 : now ≤ t) (t1 : t ≤ top2) :
    Calls Try.prog 14 #[.pointer (some ⟨ab, 0, none⟩), .int .i64 t] wr fun e w' => ∃ v1, e = .returned (.tuple #[v1, .int .i64 0]) ∧ Hid (PM W w' ab n t (dn t L) rb nr v Lr xb cs) ∧ Hid (RRow wr.heap.size w' v1 (up t L)) := by
  refine (toL_ok h.al t0 t1 (g.srt.filter _) (up_mem t L) (dn_mem t L)).mono ?_
  rintro e w' ⟨v1, rfl, S, T⟩
  exact ⟨v1, rfl, hide (h.a_call S.out T.out.2), hide T.out.1⟩
theorem pm_rto {m B : Nat} {v1 : Value} (h : PM W wr ab n na La rb now v L xb cs) (g : GI now L m) {t : Int} (t0 : now ≤ t) (t1 : t ≤ top2) (hr : RRow B wr v1 (up t L)) :
    Calls Try.prog 19 #[.pointer (some ⟨rb, 0, none⟩), .int .i64 t] wr fun e w' => ∃ v2 v', e = .returned (.tuple #[v2, .int .i64 0]) ∧ Hid (PM W w' ab n na La rb t v' (dn t L) xb cs) ∧ Hid (RdC w' w'.heap.size 3 v1 (up t L).length (ringsV (up t L))) ∧ Hid (RdC w' w'.heap.size 3 v2 (up t L).length (ringsV (up t L))) := by
  refine (rto_ok h.rl g.srt t0 t1).mono ?_
  rintro e w' ⟨v2, v', rfl, R⟩
  refine ⟨v2, v', rfl, hide (h.r_call R.rl R.rt), hide ?_, hide R.row⟩
  have hk : RRow B w' v1 (up t L) := hr.kept fun k hk => R.rt.block k (hr.lt k hk) ?_
  · exact RdC.own hk
  · rintro rfl
    rcases hr.form with ⟨rfl, _⟩ | ⟨g, cap, cur, rfl, _, hg, _⟩
    · simp [Value.ownBlock] at hk
    · simp [Value.ownBlock] at hk
      subst hk
      have := hg.symm.trans h.rl.str
      simp at this
end
end Go.Proofs.Ytmdendffbjhdbaa.Con
