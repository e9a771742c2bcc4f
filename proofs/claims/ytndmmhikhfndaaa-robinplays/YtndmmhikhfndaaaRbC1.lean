/- The landed code: a robin in memory; New, Len, held, turn, Add, Drop, See, Take. -/
import Derived.Test.YtndmmhikhfndaaaQOps
import Derived.Test.YtndmmhikhfndaaaRbAw
namespace Go.Proofs.Ytndmmhikhfndaaa.Rb
open Go.RowKit Go.Proofs.Ytndmmhikhfndaaa.Con Go.Proofs.Ytndmmhikhfndaaa.Fp
set_option linter.unusedVariables false
set_option linter.unusedSimpArgs false
/-- The first x's place, -1 of none. -/
def plc (xs : List Int) (x : Int) : Int := if x ∈ xs then ((xs.idxOf x : Nat) : Int) else -1
theorem idxFrom_eq (x : Int) : ∀ (xs : List Int) (i : Nat), Lib.idxFrom xs x i = if x ∈ xs then ((i + xs.idxOf x : Nat) : Int) else -1
  | [], i => by simp [Lib.idxFrom]
  | z :: zs, i => by
    rw [Lib.idxFrom, idxFrom_eq x zs (i + 1)]
    by_cases h : z = x
    · subst h; simp
    · have h' : ¬ x = z := fun e => h e.symm
      by_cases hm : x ∈ zs
      · have hb : (z == x) = false := by simp [h]
        simp [h, h', hm, List.idxOf_cons, hb]; omega
      · simp [h, h', hm]
theorem idxOf_eq (xs : List Int) (x : Int) : Lib.idxOf xs x = plc xs x := by
  unfold Lib.idxOf plc
  rw [idxFrom_eq, Nat.zero_add]
theorem take_snoc (zs : List Int) (k : Nat) (h : k < zs.length) : zs.take (k + 1) = zs.take k ++ [zs.getD k 0] := by
  rw [List.take_succ_eq_append_getElem h, List.getD_eq_getElem?_getD, List.getElem?_eq_getElem h]; rfl
theorem drop_cons (zs : List Int) (k : Nat) (h : k < zs.length) : zs.drop k = zs.getD k 0 :: zs.drop (k + 1) := by
  rw [List.drop_eq_getElem_cons h, List.getD_eq_getElem?_getD, List.getElem?_eq_getElem h]; rfl
/-- A robin at b, its fifo at fb; footprint F. -/
structure Rq (fb : Nat) (w : World) (b : Nat) (s : Rs) (v : Value) (F : Nat → Prop) : Prop where
  str : w.heap[b]? = some (.cells #[ptr fb] 44 (0, 0))
  fi : Fi w 0 fb s.room v s.l
  ne : b ≠ fb
  off : v.ownBlock ≠ some b
  foot : ∀ k, F k ↔ k = b ∨ k = fb ∨ v.ownBlock = some k
def Ri : RbI := fun w b s F => ∃ fb v, Rq fb w b s v F
section
variable {w w' : World} {fb b : Nat} {s s' : Rs} {v v' : Value} {F F' : Nat → Prop}
theorem Rq.cell (h : Rq fb w b s v F) : w.cell? ⟨b, 0, none⟩ = some (ptr fb) := by
  rw [cell_of_row w b _ _ _ _ h.str]; rfl
theorem Rq.lt (h : Rq fb w b s v F) : ∀ k, F k → k < w.heap.size := fun k hk => by
  rcases (h.foot k).1 hk with rfl | rfl | e
  · exact (Array.getElem?_eq_some_iff.1 h.str).1
  · exact h.fi.lt
  · exact h.fi.row.lt k e
theorem Rq.keep (h : Rq fb w b s v F) (hk : ∀ k, F k → w'.heap[k]? = w.heap[k]?) : Rq fb w' b s v F :=
  ⟨(hk b ((h.foot b).2 (.inl rfl))).trans h.str, h.fi.kept (hk fb ((h.foot fb).2 (.inr (.inl rfl)))) (fun k e => hk k ((h.foot k).2 (.inr (.inr e)))), h.ne, h.off, h.foot⟩
theorem Rq.nx (h : Rq fb w b s v F) (hB : Nx w w') : Rq fb w' b s v F := h.keep fun k hk => hB.block k (h.lt k hk)
theorem ri_kept : Kept Ri := ⟨fun ⟨_, _, h⟩ => h.lt, fun ⟨fb, v, h⟩ _ hk => ⟨fb, v, h.keep hk⟩⟩
/-- The fifo is turned. -/
theorem Rq.turn (h : Rq fb w b s v F) (hf : Fi w' 0 fb s.room v' s'.l) (hr : s'.room = s.room) (hT : Con.Turn w w' fb v v') : ∃ F', Rq fb w' b s' v' F' ∧ Tn w w' F F' := by
  have hb := (Array.getElem?_eq_some_iff.1 h.str).1
  refine ⟨fun k => k = b ∨ k = fb ∨ v'.ownBlock = some k, ⟨(hT.block b hb h.ne h.off).trans h.str, by rw [hr]; exact hf, h.ne, fun e => ?_, fun k => Iff.rfl⟩, ⟨hT.size, hT.os, hT.tape, hT.output, fun k hk hF => hT.block k hk (fun e => hF ((h.foot k).2 (.inr (.inl e)))) (fun e => hF ((h.foot k).2 (.inr (.inr e)))), fun k hk => ?_⟩⟩
  · rcases hT.own b e with e | e
    · exact h.off e
    · omega
  · rcases hk with rfl | rfl | e
    · exact .inl ((h.foot _).2 (.inl rfl))
    · exact .inl ((h.foot _).2 (.inr (.inl rfl)))
    · rcases hT.own k e with e | e
      · exact .inl ((h.foot k).2 (.inr (.inr e)))
      · exact .inr e
theorem Rq.out (h : Rq fb w b s v F) {ys : List Int} (hO : OutPost w 0 fb s.room v ys w') (hs : s'.l = ys) (hr : s'.room = s.room) : ∃ F', Ri w' b s' F' ∧ Tn w w' F F' := by
  obtain ⟨v', h1, h2⟩ := hO
  subst hs
  obtain ⟨F', h3, h4⟩ := h.turn h1 hr h2
  exact ⟨F', ⟨fb, v', h3⟩, h4⟩
theorem rq_len (h : Rq fb w b s v F) : Calls Try.prog 23 #[ptr fb] w fun e w' => e = .returned (.int .i64 (s.l.length : Int)) ∧ w' = w := len_any h.fi
theorem rq_place (h : Rq fb w b s v F) (x : Int) : Calls Try.prog 17 #[ptr fb, .int .i64 x] w fun e w' => e = .returned (.int .i64 (plc s.l x)) ∧ w' = w := by
  rw [← idxOf_eq]; exact place_any h.fi x
theorem rq_put (h : Rq fb w b s v F) (x : Int) (hl : s.l.length < s.room) : Calls Try.prog 18 #[ptr fb, .int .i64 x] w fun e w' => e = .returned (.bool true) ∧ ∃ F', Ri w' b ⟨s.room, s.l ++ [x]⟩ F' ∧ Tn w w' F F' :=
  (put_ok h.fi x hl).mono fun e w' ⟨e1, hO⟩ => ⟨e1, h.out hO rfl rfl⟩
theorem rq_full (h : Rq fb w b s v F) (x : Int) (hl : s.l.length = s.room) : Calls Try.prog 18 #[ptr fb, .int .i64 x] w fun e w' => e = .returned (.bool false) ∧ Nx w w' := put_full h.fi x hl
theorem rq_drop (h : Rq fb w b s v F) (x : Int) : Calls Try.prog 19 #[ptr fb, .int .i64 x] w fun e w' => e = .returned (.bool (decide (x ∈ s.l))) ∧ ∃ F', Ri w' b ⟨s.room, s.l.erase x⟩ F' ∧ Tn w w' F F' := by
  by_cases hx : x ∈ s.l
  · have hk : Lib.idxOf s.l x = ((s.l.idxOf x : Nat) : Int) := by rw [idxOf_eq]; unfold plc; rw [if_pos hx]
    refine (drop_some h.fi x _ (List.idxOf_lt_length_of_mem hx) hk).mono ?_
    rintro e w' ⟨rfl, hO⟩
    rw [List.erase_eq_eraseIdx_of_idxOf rfl, decide_eq_true hx]
    exact ⟨rfl, h.out hO rfl rfl⟩
  · refine (drop_none h.fi x (by rw [idxOf_eq]; unfold plc; rw [if_neg hx]; omega)).mono ?_
    rintro e w' ⟨rfl, rfl⟩
    rw [List.erase_of_not_mem hx, decide_eq_false hx]
    exact ⟨rfl, F, ⟨fb, v, h⟩, Tn.of_nx (Nx.refl _) F⟩
theorem rq_turn (h : Rq fb w b s v F) {x : Int} {xs : List Int} (hl : s.l = x :: xs) : Calls Try.prog 26 #[ptr fb] w fun e w' => e = .returned (.bool true) ∧ ∃ F', Ri w' b ⟨s.room, xs ++ [x]⟩ F' ∧ Tn w w' F F' := by
  have hf := h.fi
  rw [hl] at hf
  exact (turn_some hf).mono fun e w' ⟨e1, hO⟩ => ⟨e1, h.out hO rfl rfl⟩
/-- Told: a row of its own. -/
theorem rq_all (h : Rq fb w b s v F) : Calls Try.prog 22 #[ptr fb] w fun e w' => ∃ p c, e = .returned (.slice p s.l.length c) ∧ Hid (IRow w.heap.size w' (.slice p s.l.length c) s.l) ∧ Nx w w' :=
  (all_any h.fi).mono fun e w' ⟨p, c, e1, h1, h2⟩ => ⟨p, c, e1, h1, h2⟩
theorem irow_is {B : Nat} {l : List Int} (h : IRow B w v l) : Is w v l := RdC.own h
/-- A row that was made behind w0, where all of F lies. -/
theorem irow_sf {w0 : World} {l : List Int} (h : IRow w0.heap.size w v l) (hF : ∀ k, F k → k < w0.heap.size) : Sf w F v l :=
  ⟨irow_is h, fun k hk _ hf => by have := hF k hf; have := h.past k hk; omega⟩
theorem upto_sf {B : Nat} {l : List Int} (h : IRow B w v l) (hF : ∀ k, F k → k < B) (k : Nat) (hk : k ≤ l.length) : ∃ p c, (∀ w1 : World, (Instr.slice 28 v none (some (.int .i64 (k : Int))) none).run Try.prog w1 = .ok (.slice p k c) w1) ∧ Sf w F (.slice p k c) (l.take k) := by
  obtain ⟨i0, hi, hz0, hz1, hz2⟩ := info_parts infoI
  have hl : (l.take k).length = k := by rw [List.length_take]; omega
  have hiv : (ivs l).take (k * 1) = ivs (l.take k) := by rw [Nat.mul_one]; unfold ivs; rw [List.map_take]
  have hr : RdC w w.heap.size 1 v l.length (ivs l) := irow_is h
  have hp := h.past
  obtain ⟨h1, p, cap, rfl, h2, h3, h4⟩ := hr
  have hrun : ∀ w1 : World, (Instr.slice 28 (.slice p l.length cap) none (some (.int .i64 (k : Int))) none).run Try.prog w1 = .ok (.slice (if cap = 0 then p else p.map (·.add (0 * 1))) k cap) w1 := fun w1 => by
    have : (k : Int) ≤ (cap : Int) := by omega
    simp [Instr.slice, run_underlying Try.underlying28, Instr.sliceBounds, run_sliceBound, sizeOf, typeInfo, hi, hz1, this]
  refine ⟨_, _, hrun, ⟨⟨by rw [ivs_len, hl]; omega, _, _, by rw [hl], by omega, h3, fun h0 => ?_⟩, fun j hj h0 hf => ?_⟩⟩
  · obtain ⟨b, o, rfl, hb, hc⟩ := h4 (by omega)
    rw [if_neg (by omega)]
    refine ⟨b, o, by simp [Addr.add], hb, fun j u hu => hc j u ?_⟩
    rw [← hiv, List.getElem?_take] at hu
    split at hu
    · exact hu
    · cases hu
  · obtain ⟨b, o, rfl, hb, hc⟩ := h4 (by omega)
    rw [if_neg (by omega)] at hj
    have e : b = j := by simpa [Value.ownBlock, Addr.add] using hj
    subst e
    have := hp b (by simp [Value.ownBlock])
    have := hF b hf
    omega
end
attribute [local go_sem ↓] Go.wp_at_zero Go.wp_at_succ
theorem newC : NewC Ri := by
  intro most W
  have HN := hide (new_any most W)
  have FIN : Hid (∀ (W1 : World) (fb : Nat), Fi W1 W.heap.size fb (Con.held most) (.slice none 0 0) [] → Nx W W1 → Ri (W1.alloc (.cells #[ptr fb] 44)) W1.heap.size (newS most) (fun k => k = W1.heap.size ∨ k = fb) ∧ (∀ k, k = W1.heap.size ∨ k = fb → W.heap.size ≤ k) ∧ Nx W (W1.alloc (.cells #[ptr fb] 44))) := hide (fun W1 fb hf hB => by
    refine ⟨⟨fb, .slice none 0 0, heap_alloc_new _ _, ?_, by have := hf.lt; omega, by simp [Value.ownBlock], fun k => by simp [Value.ownBlock]⟩, fun k hk => ?_, Nx.trans hB (Nx.alloc _ _)⟩
    · exact (hf.below (Nx.alloc _ _)).mono (Nat.zero_le _)
    · rcases hk with rfl | rfl
      · exact hB.size
      · exact hf.past)
  unfold NewPost at HN
  go_enter Try.func8, Try.ntmps8
  go_wp2_with (go_at_call 16; refine HN.out.mono ?_; rintro e W1 ⟨fb, rfl, hT, hB⟩; have T1 := hide hT; have B1 := hide hB; clear hT hB)
  go_ret
  exact ⟨_, _, rfl, FIN.out _ _ T1.out B1.out⟩
section
variable {W : World} {b : Nat} {s : Rs} {F : Nat → Prop}
theorem len_ri (h : Ri W b s F) : Calls Try.prog 15 #[ptr b] W fun e w' => e = .returned (.int .i64 s.l.length) ∧ w' = W := by
  obtain ⟨fb, v, h⟩ := h
  have c0 := h.cell
  have HL := hide (rq_len h)
  clear h
  go_enter Try.func15, Try.ntmps15
  go_wp2_with (go_at_call 23; refine HL.out.mono ?_; rintro e w1 ⟨rfl, hw⟩; have hw2 := hw.symm; clear hw; subst hw2)
  go_ret
  exact ⟨rfl, rfl⟩
theorem lenC : LenC Ri := fun W b s F h _ => (len_ri h).mono fun e w' ⟨e1, h1⟩ => ⟨e1, by rw [h1]; exact Nx.refl _⟩
theorem held_ri (h : Ri W b s F) (n : Int) : Calls Try.prog 20 #[ptr b, .int .i64 n] W fun e w' => e = .returned (.int .i64 (clN s n : Int)) ∧ w' = W := by
  have HL := hide (len_ri h)
  have FE : Hid (min (max n 0) (s.l.length : Int) = (clN s n : Int)) := hide (by unfold clN; omega)
  generalize clN s n = N at *
  generalize s.l.length = M at *
  clear h
  go_enter Try.func20, Try.ntmps20
  go_wp2_with (go_at_call 15; refine HL.out.mono ?_; rintro e w1 ⟨rfl, hw⟩; have hw2 := hw.symm; clear hw; subst hw2)
  go_ret
  exact ⟨ret_i64 FE.out, rfl⟩
theorem turn_step (l : List Int) (k : Nat) (h : k < l.length) : l.drop k ++ l.take k = l.getD k 0 :: (l.drop (k + 1) ++ l.take k) ∧ (l.drop (k + 1) ++ l.take k) ++ [l.getD k 0] = l.drop (k + 1) ++ l.take (k + 1) := by
  refine ⟨by rw [drop_cons l k h]; rfl, by rw [take_snoc l k h, List.append_assoc]⟩
theorem turn_ri (h : Ri W b s F) (n : Nat) (hn : n ≤ s.l.length) (hm : s.l.length ≤ 256) : Calls Try.prog 21 #[ptr b, .int .i64 (n : Int)] W fun e w' => e = .returned (.tuple #[]) ∧ ∃ F', Hid (Ri w' b ⟨s.room, s.l.drop n ++ s.l.take n⟩ F' ∧ Tn W w' F F') := by
  have H := hide h
  have ST := hide (fun k (hk : k < n) => turn_step s.l k (by omega))
  have H0 : Hid (Ri W b ⟨s.room, s.l.drop 0 ++ s.l.take 0⟩ F ∧ Tn W W F F) := hide ⟨by rw [List.drop_zero, List.take_zero, List.append_nil]; exact h, Tn.of_nx (Nx.refl _) F⟩
  have hn9 : n ≤ 256 := by omega
  clear h hn hm
  go_enter Try.func21, Try.ntmps21
  go_wp2
  go_loopw [5] (fun i wr => ∃ k : Nat, k ≤ n ∧ i = .int .i64 (k : Int) ∧ ∃ F', Hid (Ri wr b ⟨s.room, s.l.drop k ++ s.l.take k⟩ F' ∧ Tn W wr F F')) (fun i _ => n - (intOf i).toNat)
  case atStart => exact ⟨0, by omega, rfl, F, H0⟩
  case round =>
    obtain ⟨k, hk, rfl, F1, H1⟩ := hrel
    by_cases hkn : k < n
    · have hk1 : (k : Int) < (n : Int) := by omega
      obtain ⟨e1, e2⟩ := ST.out k hkn
      obtain ⟨fb, v, hq⟩ := H1.out.1
      have T1 := hide H1.out.2
      have c0 := hq.cell
      have HT := hide (rq_turn hq e1)
      rw [e2] at HT
      clear hq H1 e1 e2
      go_wp2_with fail
      refine HT.out.mono ?_
      rintro ee w2 ⟨rfl, F2, h2⟩
      have H2 := hide h2
      clear h2
      go_wp2
      go_round
      case rel => exact ⟨k + 1, by omega, by go_num, F2, hide ⟨H2.out.1, T1.out.trans H2.out.2⟩⟩
      case measure => simp [intOf]; omega
    · obtain rfl : k = n := by omega
      go_wp2
      go_end0
      exact ⟨rfl, F1, H1⟩
end
end Go.Proofs.Ytndmmhikhfndaaa.Rb
