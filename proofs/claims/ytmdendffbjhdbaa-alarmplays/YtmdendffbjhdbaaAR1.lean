/- The reference's alarms: a row in order. -/
import Derived.Test.YtmdendffbjhdbaaAOnce
import Derived.Test.YtmdendffbjhdbaaOrdT
import Derived.Deep.CutRange
namespace Go.Proofs.Ytmdendffbjhdbaa.Con
open Go.RowKit Go.Proofs.Ytmdendffbjhdbaa.Hq
set_option linter.unusedVariables false
set_option linter.unusedSimpArgs false
attribute [local go_sem ↓] Go.wp_at_zero Go.wp_at_succ
def atR (L : List Rg) (k : Nat) : Rg := L.getD k (0, 0, 0)
theorem atR_eq {L : List Rg} {k : Nat} (h : k < L.length) : L[k]? = some (atR L k) := by
  unfold atR; rw [List.getD_eq_getElem?_getD, List.getElem?_eq_getElem h]; rfl
theorem atR_mem {L : List Rg} {k : Nat} (h : k < L.length) : atR L k ∈ L := List.mem_of_getElem? (atR_eq h)
theorem mem_atR {L : List Rg} {x : Rg} (h : x ∈ L) : ∃ k, k < L.length ∧ x = atR L k := by
  obtain ⟨k, hk⟩ := List.getElem?_of_mem h
  have hl := (List.getElem?_eq_some_iff.1 hk).1
  rw [atR_eq hl] at hk
  exact ⟨k, hl, (Option.some.inj hk).symm⟩
theorem drop_atR {L : List Rg} {k : Nat} (h : k < L.length) : L.drop k = atR L k :: L.drop (k + 1) := by
  rw [List.drop_eq_getElem_cons h]
  congr 1
  have := atR_eq h
  rw [List.getElem?_eq_getElem h] at this
  exact Option.some.inj this
theorem ringsV_app (l m : List Rg) : ringsV (l ++ m) = ringsV l ++ ringsV m := by
  induction m generalizing l with
  | nil => simp [rv0]
  | cons x m ih =>
    rw [show l ++ x :: m = (l ++ [x]) ++ m by simp, ih, ringsV_snoc, show x :: m = [x] ++ m from rfl, ih [x], rv1, List.append_assoc]
theorem ringsV_take (l : List Rg) (k : Nat) (h : k ≤ l.length) : (ringsV l).take (k * 3) = ringsV (l.take k) := by
  have e : ringsV l = ringsV (l.take k) ++ ringsV (l.drop k) := by rw [← ringsV_app, List.take_append_drop]
  rw [e, List.take_append_of_le_length (by rw [ringsV_len, List.length_take]; omega), List.take_of_length_le (by rw [ringsV_len, List.length_take]; omega)]
theorem ringsV_drop (l : List Rg) (k : Nat) (h : k ≤ l.length) : (ringsV l).drop (k * 3) = ringsV (l.drop k) := by
  have e : ringsV l = ringsV (l.take k) ++ ringsV (l.drop k) := by rw [← ringsV_app, List.take_append_drop]
  have e2 : k * 3 = (ringsV (l.take k)).length := by rw [ringsV_len, List.length_take]; omega
  rw [e, e2, List.drop_left]
theorem one_rings (L : List Rg) : ∀ u ∈ ringsV L, u.oneCell' = true := by
  induction L with
  | nil => rw [rv0]; simp
  | cons x L ih =>
    rw [show x :: L = [x] ++ L from rfl, ringsV_app, rv1]
    intro u hu
    rcases List.mem_append.1 hu with hu | hu
    · simp [encR] at hu; rcases hu with rfl | rfl | rfl <;> rfl
    · exact ih u hu
/-- No CPU has an id twice. -/
def Uq (L : List Rg) : Prop := ∀ c i x y, (c, i, x) ∈ L → (c, i, y) ∈ L → x = y
theorem srt_nodup {L : List Rg} (h : L.Pairwise rlt) : L.Nodup := by
  refine List.Pairwise.imp ?_ h
  intro a b hx e
  subst e
  exact rlt_irrefl _ hx
def cutAt (L : List Rg) (k : Nat) : List Rg := L.take k ++ L.drop (k + 1)
theorem perm_cutR (L : List Rg) (k : Nat) (h : k < L.length) : (atR L k :: cutAt L k).Perm L := by
  unfold cutAt
  refine (List.perm_middle (a := atR L k) (l₁ := L.take k) (l₂ := L.drop (k + 1))).symm.trans ?_
  rw [← drop_atR h, List.take_append_drop]
theorem cut_srt {L : List Rg} (k : Nat) (h : L.Pairwise rlt) : (cutAt L k).Pairwise rlt := by
  refine List.Pairwise.sublist ?_ h
  unfold cutAt
  have : (L.take k ++ L.drop (k + 1)).Sublist (L.take k ++ L.drop k) := List.Sublist.append (List.Sublist.refl _) (by rw [← List.drop_drop]; exact List.drop_sublist _ _)
  rwa [List.take_append_drop] at this
theorem cut_mem {L : List Rg} {k : Nat} {c id t : Int} (hs : L.Pairwise rlt) (hu : Uq L) (hk : k < L.length) (he : atR L k = (c, id, t)) (x : Rg) : x ∈ cutAt L k ↔ ¬ (x.1 = c ∧ x.2.1 = id) ∧ x ∈ L := by
  have P := perm_cutR L k hk
  have nd := P.nodup_iff.2 (srt_nodup hs)
  rw [List.nodup_cons] at nd
  rw [← P.mem_iff, List.mem_cons]
  constructor
  · intro hx
    refine ⟨?_, .inr hx⟩
    rintro ⟨e1, e2⟩
    have hm : x ∈ L := P.mem_iff.1 (List.mem_cons_of_mem _ hx)
    have h2 := atR_mem hk
    rw [he] at h2
    obtain ⟨x1, x2, x3⟩ := x
    simp only at e1 e2
    subst e1; subst e2
    have := hu _ _ _ _ hm h2
    subst this
    exact nd.1 (by rw [he]; exact hx)
  · rintro ⟨h1, h2 | h2⟩
    · rw [h2, he] at h1; exact absurd ⟨rfl, rfl⟩ h1
    · exact h2
theorem put_srt {x : Rg} {L : List Rg} {k : Nat} (h1 : ∀ j, j < k → rlt (atR L j) x) (h2 : k = L.length ∨ ¬ rlt (atR L k) x) (hk : k ≤ L.length) (hn : x ∉ L) (hA : L.Pairwise rlt) : (L.take k ++ x :: L.drop k).Pairwise rlt := by
  rw [← List.take_append_drop k L, List.pairwise_append] at hA
  obtain ⟨a1, a2, a3⟩ := hA
  have e1 : ∀ y ∈ L.take k, rlt y x := by
    intro y hy
    obtain ⟨i, hi, rfl⟩ := List.getElem_of_mem hy
    rw [List.length_take] at hi
    have := h1 i (by omega)
    unfold atR at this
    rw [List.getD_eq_getElem?_getD, List.getElem?_eq_getElem (by omega)] at this
    simpa using this
  have e2 : ∀ y ∈ L.drop k, rlt x y := by
    intro y hy
    rcases h2 with rfl | h2
    · simp at hy
    · rcases Nat.lt_or_ge k L.length with h3 | h3
      · have hx : rlt x (atR L k) := rlt_conn h2 fun e => hn (e ▸ atR_mem h3)
        rw [drop_atR h3] at hy a2
        rcases List.mem_cons.1 hy with rfl | hy
        · exact hx
        · exact rlt_trans hx ((List.pairwise_cons.1 a2).1 y hy)
      · rw [List.drop_of_length_le h3] at hy; cases hy
  rw [List.pairwise_append]
  refine ⟨a1, List.pairwise_cons.2 ⟨e2, a2⟩, ?_⟩
  intro y hy z hz
  rcases List.mem_cons.1 hz with rfl | hz
  · exact e1 y hy
  · exact a3 y hy z hz
theorem put_mem (x y : Rg) (L : List Rg) (k : Nat) : y ∈ L.take k ++ x :: L.drop k ↔ y = x ∨ y ∈ L := by
  have P : (L.take k ++ x :: L.drop k).Perm (x :: L) := by
    refine List.perm_middle.trans ?_
    rw [List.take_append_drop]
  rw [P.mem_iff, List.mem_cons]
/-- The reference's alarms at rb. -/
structure Rl (W : World) (rb n : Nat) (now : Int) (v : Value) (L : List Rg) : Prop where
  str : W.heap[rb]? = some (.cells #[.int .i64 n, .int .i64 now, v] 43 (0, 0))
  row : RdC W W.heap.size 3 v L.length (ringsV L)
  own : ∀ k, v.ownBlock = some k → ∃ cs f, W.heap[k]? = some (.cells cs 38 f)
  len : L.length ≤ 1000
section
variable {W W' w3 : World} {rb n : Nat} {now : Int} {v : Value} {L L' : List Rg}
theorem Rl.lt (h : Rl W rb n now v L) : rb < W.heap.size := (Array.getElem?_eq_some_iff.1 h.str).1
theorem Rl.cells (h : Rl W rb n now v L) : W.cell? ⟨rb, 0, none⟩ = some (.int .i64 n) ∧ W.cell? ⟨rb, 1, none⟩ = some (.int .i64 now) ∧ W.cell? ⟨rb, 2, none⟩ = some v := by
  refine ⟨?_, ?_, ?_⟩ <;> (rw [cell_of_row W rb _ _ _ _ h.str]; rfl)
theorem Rl.frozen (h : Rl W rb n now v L) (j : Nat) : W.frozen? ⟨rb, j, none⟩ = false := by
  have := h.str
  simp [World.frozen?, this]
theorem Rl.form (h : Rl W rb n now v L) : ∃ p cap, v = .slice p L.length cap ∧ L.length ≤ cap ∧ cap ≤ maxLen := by
  obtain ⟨_, p, cap, rfl, h1, h2, _⟩ := h.row
  exact ⟨p, cap, rfl, h1, h2⟩
theorem Rl.item {p : Option Addr} {m cap : Nat} (h : Rl W rb n now (.slice p m cap) L) (i : Nat) (hi : i < L.length) :
    ∃ b o, p = some ⟨b, o, none⟩ ∧ b < W.heap.size ∧ W.cell? ⟨b, o + i * 3, none⟩ = some (.int .i64 (atR L i).1) ∧ W.cell? ⟨b, o + i * 3 + 1, none⟩ = some (.int .i64 (atR L i).2.1) ∧ W.cell? ⟨b, o + i * 3 + 2, none⟩ = some (.int .i64 (atR L i).2.2) := by
  obtain ⟨_, p', cap', e, h1, h2, h3⟩ := h.row
  simp only [Value.slice.injEq] at e
  obtain ⟨rfl, rfl, rfl⟩ := e
  obtain ⟨b, o, rfl, hb, hc⟩ := h3 (by omega)
  obtain ⟨r0, r1, r2⟩ := ringsV_cells L i hi
  exact ⟨b, o, rfl, hb, hc _ _ r0, hc _ _ r1, hc _ _ r2⟩
theorem Rl.own_lt (h : Rl W rb n now v L) {k : Nat} (e : v.ownBlock = some k) : k < W.heap.size := by
  obtain ⟨cs, f, h⟩ := h.own k e; exact (Array.getElem?_eq_some_iff.1 h).1
theorem Rl.own_ne (h : Rl W rb n now v L) {k : Nat} (e : v.ownBlock = some k) : k ≠ rb := by
  rintro rfl
  obtain ⟨cs, f, h2⟩ := h.own _ e
  have := h.str.symm.trans h2
  simp at this
theorem rd_kept {size m : Nat} {xs : List Value} (h : RdC W W.heap.size size v m xs) (hk : ∀ k, k < W.heap.size → v.ownBlock = some k → W'.heap[k]? = W.heap[k]?) : RdC W' W'.heap.size size v m xs := by
  obtain ⟨h1, p, cap, rfl, h2, h3, h4⟩ := h
  refine ⟨h1, p, cap, rfl, h2, h3, fun h0 => ?_⟩
  obtain ⟨b, o, rfl, hb, hc⟩ := h4 h0
  have e := hk b hb rfl
  refine ⟨b, o, rfl, ?_, fun j u hu => (World.cell?_of_block e).trans (hc j u hu)⟩
  rw [Array.getElem?_eq_getElem hb] at e
  exact (Array.getElem?_eq_some_iff.1 e).1
theorem Rl.kept (h : Rl W rb n now v L) (hk : ∀ k, k < W.heap.size → (k = rb ∨ v.ownBlock = some k) → W'.heap[k]? = W.heap[k]?) : Rl W' rb n now v L := by
  refine ⟨(hk rb h.lt (.inl rfl)).trans h.str, rd_kept h.row fun k h1 h2 => hk k h1 (.inr h2), fun k e => ?_, h.len⟩
  obtain ⟨cs, f, e2⟩ := h.own k e
  exact ⟨cs, f, (hk k (h.own_lt e) (.inr e)).trans e2⟩
theorem Rl.below (h : Rl W rb n now v L) (hB : Below W.heap.size W W') : Rl W' rb n now v L := h.kept fun k hk _ => hB.block k hk
theorem Rl.kp (h : Rl W rb n now v L) (hK : Kp W W') : Rl W' rb n now v L := by
  refine h.kept fun k hk e => hK k ?_
  rcases e with rfl | e
  · exact ⟨_, _, _, h.str, by decide, by decide, by decide, by decide⟩
  · obtain ⟨cs, f, e2⟩ := h.own k e
    exact ⟨_, _, _, e2, by decide, by decide, by decide, by decide⟩
theorem Rl.oth (h : Rl W rb n now v L) : Oth W rb := ⟨_, _, _, h.str, by decide, by decide, by decide, by decide⟩
end
/-- What a call on it may turn. -/
structure RT (W W' : World) (rb : Nat) : Prop where
  os : W'.os = W.os
  tape : W'.tape = W.tape
  output : W'.output = W.output
  size : W.heap.size ≤ W'.heap.size
  block : ∀ k, k < W.heap.size → k ≠ rb → W'.heap[k]? = W.heap[k]?
section
variable {W W1 W' w3 : World} {rb n : Nat} {now : Int} {v : Value} {L L' : List Rg}
theorem RT.refl (W : World) (rb : Nat) : RT W W rb := ⟨rfl, rfl, rfl, Nat.le_refl _, fun _ _ _ => rfl⟩
theorem RT.below (h : Below W.heap.size W W') (rb : Nat) : RT W W' rb := ⟨h.os, h.tape, h.output, h.size, fun k hk _ => h.block k hk⟩
theorem RT.trans (h : RT W W1 rb) (k : RT W1 W' rb) : RT W W' rb :=
  ⟨k.os.trans h.os, k.tape.trans h.tape, k.output.trans h.output, Nat.le_trans h.size k.size, fun j hj hne => (k.block j (by have := h.size; omega) hne).trans (h.block j hj hne)⟩
theorem RT.toBelow (h : RT W W' rb) {B : Nat} (hB : B ≤ W.heap.size) (hr : B ≤ rb) : Below B W W' :=
  ⟨h.os, h.tape, h.output, h.size, fun k hk => h.block k (by omega) (by omega)⟩
/-- A row made anew, laid into it. -/
theorem rl_store {q : Option Addr} {m d : Nat} (h : Rl W rb n now v L) (hB : Below W.heap.size W w3) (ho : w3.ownsRow W.heap.size 38 3 (.slice q m d) m (ringsV L')) (hn : L'.length = m) (hl : m ≤ 1000) :
    Rl (w3.setCell ⟨rb, 2, none⟩ (.slice q m d)) rb n now (.slice q m d) L' ∧ RT W (w3.setCell ⟨rb, 2, none⟩ (.slice q m d)) rb := by
  have hlt := h.lt
  have hs3 : w3.heap[rb]? = _ := (hB.block rb hlt).trans h.str
  have hne : ∀ k, (Value.slice q m d).ownBlock = some k → k ≠ rb := fun k e => by have := own_past ho k e; omega
  have ho' : (w3.setCell ⟨rb, 2, none⟩ (.slice q m d)).ownsRow W.heap.size 38 3 (.slice q m d) m (ringsV L') := own_kept ho fun k e => heap_setCell_other w3 _ k _ (hne k e)
  refine ⟨⟨?_, ?_, ?_, by omega⟩, ⟨hB.os, hB.tape, hB.output, by simpa using hB.size, ?_⟩⟩
  · rw [heap_setCell_same w3 rb 2 _ _ _ hs3]; rfl
  · rw [hn]; exact RdC.own ho'
  · intro k e
    obtain ⟨_, ⟨e0, _⟩ | ⟨g, cap, cur, e0, _, hg, _⟩⟩ := ho'
    · rw [e0] at e; simp [Value.ownBlock] at e
    · rw [e0] at e; simp [Value.ownBlock] at e; subst e; exact ⟨_, _, hg⟩
  · intro k hk hk'
    exact (heap_setCell_other w3 _ k _ hk').trans (hB.block k hk)
end
theorem infoRg : (Try.prog.info? 38).map (fun i => (i.zero, i.size, i.bytes)) = some (some (.agg #[.int .i64 0, .int .i64 0, .int .i64 0]), 3, 24) := by kernel_rfl
theorem below_drewN' {B : Nat} {a w : World} (h : Below B a w) (n : Nat) : Below B a (w.drewN n) := ⟨h.os, h.tape, h.output, h.size, h.block⟩
theorem ret_bool' {a b : Bool} (h : a = b) : Ending.returned (.bool a) = .returned (.bool b) := by rw [h]
/-- The reference's order. -/
theorem rbefore_any (a b : Rg) (W : World) : Calls Try.prog 32 #[.agg #[.int .i64 a.1, .int .i64 a.2.1, .int .i64 a.2.2], .agg #[.int .i64 b.1, .int .i64 b.2.1, .int .i64 b.2.2]] W fun e w' => e = .returned (.bool (decide (rlt a b))) ∧ Below W.heap.size W w' := by
  obtain ⟨a0, a1, a2⟩ := a
  obtain ⟨b0, b1, b2⟩ := b
  by_cases h2 : a2 = b2
  · by_cases h0 : a0 = b0
    · have E : Hid (decide (a1 < b1) = decide (rlt (a0, a1, a2) (b0, b1, b2))) := hide (by subst h2; subst h0; apply decide_eq_decide.2; unfold rlt; simp)
      subst h2; subst h0
      go_enter Try.func32, Try.ntmps32
      go_wp2
      go_ret
      exact ⟨ret_bool' E.out, ((Below.refl _ _).alloc (Nat.le_refl _) _).alloc (by simp) _⟩
    · have E : Hid (decide (a0 < b0) = decide (rlt (a0, a1, a2) (b0, b1, b2))) := hide (by subst h2; apply decide_eq_decide.2; unfold rlt; simp [h0])
      subst h2
      go_enter Try.func32, Try.ntmps32
      go_wp2
      go_ret
      exact ⟨ret_bool' E.out, ((Below.refl _ _).alloc (Nat.le_refl _) _).alloc (by simp) _⟩
  · have E : Hid (decide (a2 < b2) = decide (rlt (a0, a1, a2) (b0, b1, b2))) := hide (by apply decide_eq_decide.2; unfold rlt; simp [h2])
    go_enter Try.func32, Try.ntmps32
    go_wp2
    go_ret
    exact ⟨ret_bool' E.out, ((Below.refl _ _).alloc (Nat.le_refl _) _).alloc (by simp) _⟩
section
variable {W : World} {rb n : Nat} {now : Int} {v : Value} {L : List Rg}
/-- Register. -/
theorem rreg_any (h : Rl W rb n now v L) (hs : L.Pairwise rlt) (c : Int) : ∃ x b, IsReg L c x b ∧ Calls Try.prog 20 #[.pointer (some ⟨rb, 0, none⟩), .int .i64 c] W fun e w' => e = .returned (.tuple #[.int .i64 x, .bool b]) ∧ w' = W := by
  have key : (∃ k, k < L.length ∧ (atR L k).1 = c ∧ ∀ j, j < k → (atR L j).1 ≠ c) ∨ (∀ j, j < L.length → (atR L j).1 ≠ c) := by
    by_cases hx : ∃ k, k < L.length ∧ (atR L k).1 = c
    · left
      obtain ⟨k, hk⟩ := hx
      induction k using Nat.strongRecOn with
      | _ k ih =>
        by_cases hy : ∃ j, j < k ∧ (atR L j).1 = c
        · obtain ⟨j, hj, e⟩ := hy
          exact ih j hj ⟨by omega, e⟩
        · exact ⟨k, hk.1, hk.2, fun j hj e => hy ⟨j, hj, e⟩⟩
    · right; intro j hj e; exact hx ⟨j, hj, e⟩
  obtain ⟨p, cap, rfl, hn, hm⟩ := h.form
  obtain ⟨_, _, c2⟩ := h.cells
  have hl := h.len
  have H := hide h
  rcases key with ⟨K, hK, eK, fK⟩ | hnone
  · refine ⟨(atR L K).2.2, true, ⟨fun e => by simp at e, fun _ => ⟨⟨(atR L K).2.1, ?_⟩, ?_⟩⟩, ?_⟩
    · have := atR_mem hK
      rw [← eK]; exact this
    · intro i t hm
      obtain ⟨j, hj, e⟩ := mem_atR hm
      rcases Nat.lt_trichotomy j K with r | r | r
      · have := fK j r; rw [← e] at this; exact absurd rfl this
      · subst r; rw [← e]; exact Int.le_refl _
      · have P := List.pairwise_iff_getElem.1 hs K j hK hj r
        have e1 := atR_eq hK
        have e2 := atR_eq hj
        rw [List.getElem?_eq_getElem hK] at e1
        rw [List.getElem?_eq_getElem hj] at e2
        rw [Option.some.inj e1, Option.some.inj e2, ← e] at P
        unfold rlt at P
        simp only at P
        omega
    · clear h hs
      have FK := hide fK
      clear fK
      obtain ⟨z, hz⟩ : ∃ z, (atR L K).2.2 = z := ⟨_, rfl⟩
      have EZ := hide hz
      rw [hz]
      clear hz
      go_enter Try.func20, Try.ntmps20
      go_wp2
      go_loop [6] (fun s => ∃ k : Nat, k ≤ K ∧ s = .int .i64 k) (fun s => K - (intOf s).toNat)
      case atStart => exact ⟨0, by omega, rfl⟩
      case round =>
        obtain ⟨k, hk, rfl⟩ := hrel
        obtain ⟨b, o, rfl, hb, x0, x1, x2⟩ := H.out.item k (by omega)
        have hk1 : (k : Int) < (L.length : Int) := by omega
        by_cases hkK : k = K
        · subst hkK
          rw [eK] at x0
          rw [EZ.out] at x2
          go_wp2
          go_ret2
          exact ⟨rfl, rfl⟩
        · have hz := FK.out k (by omega)
          clear eK
          generalize (atR L k).1 = z at *
          have hz2 : (z == c) = false := by simp [hz]
          go_wp2
          go_round
          case rel => exact ⟨k + 1, by omega, by go_num⟩
          case measure => simp [intOf]; omega
  · refine ⟨0, false, ⟨fun _ => ⟨rfl, ?_⟩, fun e => by simp at e⟩, ?_⟩
    · intro i t hm
      obtain ⟨j, hj, e⟩ := mem_atR hm
      have := hnone j hj
      rw [← e] at this
      exact this rfl
    · clear h hs
      have FK := hide hnone
      clear hnone
      go_enter Try.func20, Try.ntmps20
      go_wp2
      go_loop [6] (fun s => ∃ k : Nat, k ≤ L.length ∧ s = .int .i64 k) (fun s => L.length - (intOf s).toNat)
      case atStart => exact ⟨0, by omega, rfl⟩
      case round =>
        obtain ⟨k, hk, rfl⟩ := hrel
        by_cases hkn : k < L.length
        · obtain ⟨b, o, rfl, hb, x0, x1, x2⟩ := H.out.item k hkn
          have hk1 : (k : Int) < (L.length : Int) := by omega
          have hz := FK.out k hkn
          generalize (atR L k).1 = z at *
          have hz2 : (z == c) = false := by simp [hz]
          go_wp2
          go_round
          case rel => exact ⟨k + 1, by omega, by go_num⟩
          case measure => simp [intOf]; omega
        · obtain rfl : k = L.length := by omega
          go_wp2
          go_ret2
          exact ⟨rfl, rfl⟩
end
end Go.Proofs.Ytmdendffbjhdbaa.Con
