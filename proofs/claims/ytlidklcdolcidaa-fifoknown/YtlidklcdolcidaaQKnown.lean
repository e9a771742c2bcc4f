/- FifoKnown's walk: two fifos side by side. -/
import Derived.Test.YtlidklcdolcidaaQRel
namespace Go.Proofs.Ytlidklcdolcidaa.Con
open Go.RowKit
set_option linter.unusedVariables false
set_option linter.unusedSimpArgs false
attribute [local go_sem ↓] Go.wp_at_zero Go.wp_at_succ
structure S2 (W wr : World) (fb m : Nat) (v : Value) (xs : List Int) (gb n : Nat) (u : Value) (ys : List Int) : Prop where
  f : Fi wr W.heap.size fb m v xs
  g : Fi wr W.heap.size gb n u ys
  below : Below W.heap.size W wr
  ne : fb ≠ gb
  ap : ∀ k, v.ownBlock = some k → u.ownBlock ≠ some k
section
variable {W wr w' : World} {fb gb m n : Nat} {v u : Value} {xs ys zs : List Int}
theorem S2.swap (h : S2 W wr fb m v xs gb n u ys) : S2 W wr gb n u ys fb m v xs := ⟨h.g, h.f, h.below, fun e => h.ne e.symm, fun k h1 h2 => h.ap k h2 h1⟩
theorem S2.vg (h : S2 W wr fb m v xs gb n u ys) : v.ownBlock ≠ some gb := by
  intro e
  obtain ⟨cur, hc⟩ := h.f.row.blk e
  have := h.g.str.symm.trans hc
  simp at this
theorem S2.bel (h : S2 W wr fb m v xs gb n u ys) (hB : Below wr.heap.size wr w') : S2 W w' fb m v xs gb n u ys :=
  ⟨h.f.below hB, h.g.below hB, h.below.trans (hB.mono h.below.size), h.ne, h.ap⟩
theorem S2.left (h : S2 W wr fb m v xs gb n u ys) (hO : OutPost wr W.heap.size fb m v zs w') : ∃ v', S2 W w' fb m v' zs gb n u ys := by
  obtain ⟨v', h1, h2⟩ := hO
  refine ⟨v', h1, h.g.kept (h2.block _ h.g.lt (fun e => h.ne e.symm) h.vg) (fun k hk => h2.block k (h.g.row.lt k hk) (fun e => h.swap.vg (e ▸ hk)) (fun e => h.ap k e hk)), h.below.trans (h2.toBelow h.f), h.ne, fun k hk e => ?_⟩
  rcases h2.own k hk with e' | e'
  · exact h.ap k e' e
  · have := h.g.row.lt k e; omega
theorem s2_put (h : S2 W wr fb m v xs gb n u ys) (x : Int) (hf : xs.length < m) (hz : xs ++ [x] = zs) :
    Calls Try.prog 13 #[.pointer (some ⟨fb, 0, none⟩), .int .i64 x] wr fun e w' => e = .returned (.bool true) ∧ ∃ v', Hid (S2 W w' fb m v' zs gb n u ys) := by
  subst hz
  refine (put_ok h.f x hf).mono ?_
  rintro e w' ⟨rfl, hO⟩
  obtain ⟨v', h'⟩ := h.left hO
  exact ⟨rfl, v', hide h'⟩
theorem s2_full (h : S2 W wr fb m v xs gb n u ys) (x : Int) (hf : xs.length = m) :
    Calls Try.prog 13 #[.pointer (some ⟨fb, 0, none⟩), .int .i64 x] wr fun e w' => e = .returned (.bool false) ∧ Hid (S2 W w' fb m v xs gb n u ys) := by
  refine (put_full h.f x hf).mono ?_
  rintro e w' ⟨rfl, hB⟩
  exact ⟨rfl, hide (h.bel hB)⟩
theorem s2_drop (h : S2 W wr fb m v xs gb n u ys) (x : Int) (b : Bool) (hb : decide (x ∈ xs) = b) (hz : xs.erase x = zs) :
    Calls Try.prog 12 #[.pointer (some ⟨fb, 0, none⟩), .int .i64 x] wr fun e w' => e = .returned (.bool b) ∧ ∃ v', Hid (S2 W w' fb m v' zs gb n u ys) := by
  subst hz
  subst hb
  refine (drop_any h.f x).mono ?_
  rintro e w' ⟨rfl, hO⟩
  obtain ⟨v', h'⟩ := h.left hO
  exact ⟨rfl, v', hide h'⟩
theorem s2_turn {x : Int} (h : S2 W wr fb m v (x :: xs) gb n u ys) (hz : xs ++ [x] = zs) :
    Calls Try.prog 11 #[.pointer (some ⟨fb, 0, none⟩)] wr fun e w' => e = .returned (.bool true) ∧ ∃ v', Hid (S2 W w' fb m v' zs gb n u ys) := by
  subst hz
  refine (turn_some h.f).mono ?_
  rintro e w' ⟨rfl, hO⟩
  obtain ⟨v', h'⟩ := h.left hO
  exact ⟨rfl, v', hide h'⟩
end
theorem rep_snoc (k : Nat) : List.replicate k (7 : Int) ++ [7] = List.replicate (k + 1) 7 := by rw [List.replicate_succ']
theorem rep_mem : decide ((7 : Int) ∈ List.replicate 256 (7 : Int)) = true := by
  rw [List.replicate_succ]; exact decide_eq_true List.mem_cons_self
theorem rep_erase : (List.replicate 256 (7 : Int)).erase 7 = List.replicate 255 7 := by
  rw [List.replicate_succ, List.erase_cons_head]
theorem s2_start {W w0 w1 w2 : World} {fb gb : Nat} {a b : Int} (h0 : Below W.heap.size W w0) (hF : Fi w1 w0.heap.size fb (held a) (.slice none 0 0) []) (hB : Below w0.heap.size w0 w1)
    (hG : Fi w2 w1.heap.size gb (held b) (.slice none 0 0) []) (hC : Below w1.heap.size w1 w2) : S2 W w2 fb (held a) (.slice none 0 0) [] gb (held b) (.slice none 0 0) [] := by
  have s0 := h0.size
  have s1 := hB.size
  refine ⟨(hF.below hC).mono s0, hG.mono (by omega), (h0.trans (hB.mono s0)).trans (hC.mono (by omega)), ?_, fun k hk => by simp [Value.ownBlock] at hk⟩
  have := hF.lt
  have := hG.past
  omega
set_option maxRecDepth 100000 in
set_option maxHeartbeats 4000000 in
theorem known_walk (W0 : World) : Calls Try.prog 3 #[] W0 fun e w' => e = .returned (.bool true) ∧ Below W0.heap.size W0 w' := by
  have hA := hide (awake_any W0)
  have N1 := hide (fun W => new_any (-1) W)
  have N2 := hide (fun W => new_any 999 W)
  unfold NewPost at N1 N2
  go_enter Try.func3, Try.ntmps3
  go_wp2_with (go_at_call 7; refine hA.out.mono ?_; rintro e w0 ⟨rfl, hB0⟩; have HB0 := hide hB0; clear hB0)
  refine (N1.out _).mono ?_
  rintro e w1 ⟨fb, rfl, q1, b1⟩
  have A1 := hide (And.intro q1 b1)
  clear q1 b1
  go_wp2_with fail
  refine (N2.out _).mono ?_
  rintro e w2 ⟨gb, rfl, q1, b1⟩
  have S0 := hide (s2_start HB0.out A1.out.1 A1.out.2 q1 b1)
  rw [show held (-1) = 1 by decide, show held 999 = 256 by decide] at S0
  clear q1 b1 A1 HB0 hA N1 N2
  go_wp2_with fail
  -- Get, Front, Turn of none
  refine (get_none S0.out.f).mono ?_
  rintro e w3 ⟨rfl, hw⟩
  have hw2 := hw.symm; clear hw; subst hw2
  go_wp2_with fail
  refine (front_none S0.out.f).mono ?_
  rintro e w3 ⟨rfl, hw⟩
  have hw2 := hw.symm; clear hw; subst hw2
  go_wp2_with fail
  refine (turn_none S0.out.f).mono ?_
  rintro e w3 ⟨rfl, hw⟩
  have hw2 := hw.symm; clear hw; subst hw2
  go_wp2_with fail
  refine (s2_drop (zs := []) S0.out 5 false (by decide) (by decide)).mono ?_
  rintro e w3 ⟨rfl, v3, S1⟩
  clear S0
  go_wp2_with fail
  refine (s2_put (zs := [5]) S1.out 5 (by decide) rfl).mono ?_
  rintro e w4 ⟨rfl, v4, S2⟩
  clear S1
  go_wp2_with fail
  refine (s2_full S2.out 6 rfl).mono ?_
  rintro e w5 ⟨rfl, S3⟩
  clear S2
  go_wp2_with fail
  refine (s2_turn (zs := [5]) S3.out rfl).mono ?_
  rintro e w6 ⟨rfl, v6, S4⟩
  clear S3
  go_wp2_with fail
  refine (front_some S4.out.f).mono ?_
  rintro e w7 ⟨rfl, hw⟩
  have hw2 := hw.symm; clear hw; subst hw2
  go_wp2_with fail
  refine (s2_drop (zs := []) S4.out 5 true (by decide) (by decide)).mono ?_
  rintro e w8 ⟨rfl, v8, S5⟩
  clear S4
  go_wp2_with fail
  go_loopw [15] (fun s wr => ∃ k : Nat, k ≤ 256 ∧ s = .int .i64 k ∧ ∃ u, Hid (S2 W0 wr gb 256 u (List.replicate k 7) fb 1 v8 [])) (fun s _ => 256 - (intOf s).toNat)
  case atStart => exact ⟨0, by omega, rfl, _, hide S5.out.swap⟩
  case round =>
    clear S5
    obtain ⟨k, hk, rfl, u, HR⟩ := hrel
    by_cases hkn : k < 256
    · have hk1 : (k : Int) < 256 := by omega
      have PU := hide (s2_put (zs := List.replicate (k + 1) 7) HR.out 7 (by simpa using hkn) (rep_snoc k))
      generalize hT : List.replicate (k + 1) (7 : Int) = T at PU
      have HT := hide hT
      clear hT
      go_wp2_with (go_at_call 13; refine PU.out.mono ?_; rintro e w2 ⟨rfl, v2, R2⟩)
      go_roundw
      case rel => exact ⟨k + 1, by omega, by go_num, v2, by rw [HT.out]; exact R2⟩
      case measure => simp [intOf]; omega
    · obtain rfl : k = 256 := by omega
      have PF := hide (s2_full HR.out 7 (by simp))
      have M := hide rep_mem
      have E := hide rep_erase
      have L : Hid ((List.replicate 255 (7 : Int)).length = 255) := hide (by simp)
      generalize List.replicate 255 (7 : Int) = T at *
      generalize List.replicate 256 (7 : Int) = T2 at *
      go_wp2_with (first
        | (go_at_call 13; refine PF.out.mono ?_; rintro e w2 ⟨rfl, R2⟩)
        | (go_at_call 12; refine (s2_drop (zs := T) R2.out 7 true M.out E.out).mono ?_; rintro e w3 ⟨rfl, v3, R3⟩; have LF := hide (len_any R3.out.g); have LG := hide (len_any R3.out.f); rw [L.out] at LG; have PF2 := hide (place_any R3.out.g 5); rw [show Lib.idxOf [] 5 = -1 by decide] at PF2))
      refine LF.out.mono ?_
      rintro e w4 ⟨rfl, hw⟩
      have hw2 := hw.symm; clear hw; subst hw2
      go_wp2_with fail
      refine PF2.out.mono ?_
      rintro e w4 ⟨rfl, hw⟩
      have hw2 := hw.symm; clear hw; subst hw2
      go_wp2_with fail
      refine LG.out.mono ?_
      rintro e w4 ⟨rfl, hw⟩
      have hw2 := hw.symm; clear hw; subst hw2
      go_wp2
      go_ret
      exact ⟨rfl, R3.out.below⟩
end Go.Proofs.Ytlidklcdolcidaa.Con
