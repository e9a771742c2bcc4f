/- PokeAll's walk. -/
import Derived.Test.YtigofonhibaojaaPNew
namespace Go.Proofs.Ytigofonhibaojaa.Con
open Go.RowKit Go.Proofs.Ytigofonhibaojaa.Mk
set_option linter.unusedVariables false
set_option linter.unusedSimpArgs false
theorem of_one (x : Int) (W : World) : Calls Try.prog 11 #[.slice (some ⟨W.heap.size, 0, none⟩) 1 1] (W.alloc (.cells #[.int .i64 x] 3)) fun e w' => e = .returned (.int .u64 (withN 0 x : Nat)) ∧ w' = W.alloc (.cells #[.int .i64 x] 3) := by
  have := of_some W.heap.size 0 1 [x] (W.alloc (.cells #[.int .i64 x] 3)) (by
    intro j hj
    match j, hj with
    | 0, _ => simp) (by simp)
  exact this
theorem rung_bit (s : Nat → Td) (a : Nat) : ∀ (k j : Nat), k ≤ 64 → (rung s a k).testBit j = decide (j < k ∧ j ≠ a ∧ (s j).w = 0)
  | 0, j, _ => by simp [rung]
  | k + 1, j, h => by
    have ih := rung_bit s a k j (by omega)
    unfold rung
    split
    · rename_i hc
      rw [withN_bit, ih]
      by_cases e : j = k
      · subst e
        simp [hc.1, hc.2]; omega
      · have e1 : ¬ ((j : Int) = (k : Int) ∧ j < 64) := by omega
        rw [decide_eq_false e1, Bool.or_false]
        congr 1; apply propext; constructor <;> (intro hh; exact ⟨by omega, hh.2⟩)
    · rename_i hc
      rw [ih]
      congr 1; apply propext; constructor
      · intro hh; exact ⟨by omega, hh.2⟩
      · intro hh
        by_cases e : j = k
        · subst e; exact absurd hh.2 hc
        · exact ⟨by omega, hh.2⟩
theorem waits_bit (s : Nat → Td) : ∀ (k j : Nat), k ≤ 64 → (waits s k).testBit j = decide (j < k ∧ (s j).w ≠ 0)
  | 0, j, _ => by simp [waits]
  | k + 1, j, h => by
    have ih := waits_bit s k j (by omega)
    unfold waits
    split
    · rename_i hc
      rw [ih]
      congr 1; apply propext; constructor
      · intro hh; exact ⟨by omega, hh.2⟩
      · intro hh
        by_cases e : j = k
        · subst e; exact absurd hc hh.2
        · exact ⟨by omega, hh.2⟩
    · rename_i hc
      rw [withN_bit, ih]
      by_cases e : j = k
      · subst e
        simp [hc]; omega
      · have e1 : ¬ ((j : Int) = (k : Int) ∧ j < 64) := by omega
        rw [decide_eq_false e1, Bool.or_false]
        congr 1; apply propext; constructor <;> (intro hh; exact ⟨by omega, hh.2⟩)
/-- All but a told x. -/
def sK (n a x : Nat) : Nat → Td := fun j => if j < n ∧ j ≠ a then ⟨x, withN 0 (a : Int), 1⟩ else ⟨0, 0, 0⟩
/-- The first k have read it. -/
def rK (n a x k : Nat) : Nat → Td := fun j => if j < n ∧ j ≠ a then (if j < k then ⟨0, 0, 1⟩ else ⟨x, withN 0 (a : Int), 1⟩) else ⟨0, 0, 0⟩
theorem allS_s0 (n a x : Nat) (hx : 1 ≤ x) : allS s0 a x n = sK n a x := by
  funext j; unfold allS sK
  split
  · simp [tell, s0]
  · rfl
theorem with_twice (m : Nat) (i : Int) : withN (withN m i) i = withN m i := by unfold withN; rw [Nat.or_assoc, Nat.or_self]
theorem allS_sK (n a x : Nat) (hx : 1 ≤ x) : allS (sK n a x) a x n = sK n a x := by
  funext j; unfold allS
  split
  · rename_i h
    unfold sK
    rw [if_pos h]
    simp [tell, with_twice, Nat.or_self]; omega
  · rfl
theorem rung_s0 (n a : Nat) (hn : n ≤ 64) : rung s0 a n = withoutN (fullN (n : Int)) (a : Int) := by
  apply word_ext (rung_lt _ _ _) (withoutN_lt _ (by have := fullN_le (n : Int); omega))
  intro j hj
  rw [rung_bit _ _ _ _ hn, withoutN_bit _ _ _ (by have := fullN_le (n : Int); omega), fullN_bit]
  by_cases h1 : j < n
  · by_cases h2 : j = a
    · subst h2; simp
    · have e : ¬ ((j : Int) = (a : Int)) := by omega
      simp [s0, h1, h2, e, hj]
  · simp [h1]
theorem rung_sK (n a x : Nat) (hn : n ≤ 64) (hx : 1 ≤ x) : rung (sK n a x) a n = 0 := by
  apply word_ext (rung_lt _ _ _) (by decide)
  intro j hj
  rw [rung_bit _ _ _ _ hn, Nat.zero_testBit]
  apply decide_eq_false
  rintro ⟨h1, h2, h3⟩
  unfold sK at h3
  rw [if_pos ⟨h1, h2⟩] at h3
  simp at h3; omega
theorem rK_zero (n a x : Nat) : rK n a x 0 = sK n a x := by
  funext j; unfold rK sK
  split
  · rw [if_neg (by omega)]
  · rfl
theorem rK_self (n a x : Nat) : rK n a x (a + 1) = rK n a x a := by
  funext j; unfold rK
  split
  · rename_i h
    by_cases e : j < a
    · rw [if_pos (by omega), if_pos e]
    · rw [if_neg (by omega), if_neg e]
  · rfl
theorem rK_k (n a x k : Nat) (hk : k < n) (h : k ≠ a) : rK n a x k k = ⟨x, withN 0 (a : Int), 1⟩ := by unfold rK; rw [if_pos ⟨hk, h⟩, if_neg (by omega)]
theorem rK_k1 (n a x k : Nat) (hk : k < n) (h : k ≠ a) : rK n a x (k + 1) k = ⟨0, 0, 1⟩ := by unfold rK; rw [if_pos ⟨hk, h⟩, if_pos (by omega)]
theorem rK_step (n a x k : Nat) (hk : k < n) (h : k ≠ a) : readS (rK n a x k) k = rK n a x (k + 1) := by
  funext j; unfold readS
  by_cases e : j = k
  · subst e
    rw [if_pos rfl, rK_k n a x j hk h, rK_k1 n a x j hk h]
  · rw [if_neg e]
    unfold rK
    by_cases h2 : j < n ∧ j ≠ a
    · rw [if_pos h2, if_pos h2]
      by_cases h3 : j < k
      · rw [if_pos h3, if_pos (by omega)]
      · rw [if_neg h3, if_neg (by omega)]
    · rw [if_neg h2, if_neg h2]
theorem rK_a (n a x k : Nat) : rK n a x k a = ⟨0, 0, 0⟩ := by unfold rK; rw [if_neg (by omega)]
theorem waits_rK (n a x : Nat) (hn : n ≤ 64) : waits (rK n a x n) n = 0 := by
  apply word_ext (waits_lt _ _) (by decide)
  intro j hj
  rw [waits_bit _ _ _ hn, Nat.zero_testBit]
  apply decide_eq_false
  rintro ⟨h1, h2⟩
  apply h2
  unfold rK
  split
  · rfl
  · rfl
def sKk (n a x k : Nat) : Nat → Td := if k = 0 then s0 else sK n a x
theorem sKk_step (n a x k : Nat) (hx : 1 ≤ x) : allS (sKk n a x k) a x n = sKk n a x (k + 1) := by
  unfold sKk
  rw [if_neg (Nat.succ_ne_zero k)]
  split
  · exact allS_s0 n a x hx
  · exact allS_sK n a x hx
set_option maxRecDepth 100000 in
set_option maxHeartbeats 4000000 in
theorem all_walk (cpus fr what times : Int) (W : World) : Calls Try.prog 5 #[.int .i64 cpus, .int .i64 fr, .int .i64 what, .int .i64 times] W fun e w' => e = .returned (.bool true) ∧ Below W.heap.size W w' := by
  have A := hide (awake_any W)
  by_cases hb : cpus < 1 ∨ 64 < cpus ∨ fr < 0 ∨ cpus ≤ fr ∨ what < 1 ∨ 15 < what ∨ times < 1 ∨ 5 < times
  · rcases hb with h | h | h | h | h | h | h | h
    all_goals
      go_enter Try.func5, Try.ntmps5
      go_wp2_with (go_at_call 6; refine A.out.mono ?_; rintro e w1 ⟨rfl, HB⟩)
      all_goals go_ret
      all_goals exact ⟨rfl, HB.out⟩
  · obtain ⟨n, rfl⟩ : ∃ n : Nat, cpus = n := ⟨cpus.toNat, by omega⟩
    obtain ⟨a, rfl⟩ : ∃ a : Nat, fr = a := ⟨fr.toNat, by omega⟩
    obtain ⟨x, rfl⟩ : ∃ x : Nat, what = x := ⟨what.toNat, by omega⟩
    obtain ⟨t, rfl⟩ : ∃ t : Nat, times = t := ⟨times.toNat, by omega⟩
    have hn1 : 1 ≤ n := by omega
    have hn2 : n ≤ 64 := by omega
    have ha : a < n := by omega
    have hx1 : 1 ≤ x := by omega
    have hx2 : x ≤ 15 := by omega
    have ht1 : 1 ≤ t := by omega
    have ht2 : t ≤ 5 := by omega
    have b1 : ¬ (n : Int) < 1 := by omega
    have b2 : ¬ (64 : Int) < (n : Int) := by omega
    have b3 : ¬ (a : Int) < 0 := by omega
    have b4 : ¬ (n : Int) ≤ (a : Int) := by omega
    have b5 : ¬ (x : Int) < 1 := by omega
    have b6 : ¬ (15 : Int) < (x : Int) := by omega
    have b7 : ¬ (t : Int) < 1 := by omega
    have b8 : ¬ (5 : Int) < (t : Int) := by omega
    clear hb
    have N := hide (fun W' => new_any W' n hn1 hn2)
    unfold NewPost at N
    have FL := hide (fun W' => full_any (n : Int) W')
    have WO := hide (fun W' => without_any (fullN (n : Int)) (a : Int) W' (by have := fullN_le (n : Int); omega))
    have RS := hide (rung_s0 n a hn2)
    have RK := hide (rung_sK n a x hn2 hx1)
    rw [← RS.out] at WO
    generalize fullN (n : Int) = fu at *
    clear RS
    go_enter Try.func5, Try.ntmps5
    go_wp2_with (first
      | (go_at_call 6; refine A.out.mono ?_; rintro e w1 ⟨rfl, HB⟩)
      | (go_at_call 7; refine (N.out _).mono ?_; rintro e w2 ⟨b, g, rfl, P0⟩))
    have P := hide (PL.trans HB.out P0.out)
    clear HB P0 N A
    go_loopw [11] (fun i wr => ∃ k : Nat, k ≤ t ∧ i = .int .i64 k ∧ Hid (PL W wr b g n k (sKk n a x k))) (fun i _ => t - (intOf i).toNat)
    case atStart => exact ⟨0, by omega, rfl, P⟩
    case round =>
      clear P
      obtain ⟨k, hk, rfl, P⟩ := hrel
      by_cases hkt : k < t
      · have hk1 : (k : Int) < (t : Int) := by omega
        have AA := hide (all_any P.out.pk a x ha hx1 hx2 (by omega))
        rw [sKk_step n a x k hx1] at AA
        by_cases hk0 : k = 0
        · subst hk0
          rw [show sKk n a x 0 = s0 from rfl] at AA
          generalize rung s0 a n = ru at *
          go_wp2_with (first
            | (go_at_call 9; refine AA.out.mono ?_; rintro e w3 ⟨rfl, G⟩)
            | (go_at_call 15; refine (FL.out _).mono ?_; rintro e w' ⟨rfl, hw⟩; have hw2 := hw.symm; clear hw; subst hw2)
            | (go_at_call 16; refine (WO.out _).mono ?_; rintro e w' ⟨rfl, hw⟩; have hw2 := hw.symm; clear hw; subst hw2))
          go_roundw
          case rel => exact ⟨1, by omega, by go_num, hide (P.out.got G.out)⟩
          case measure => simp [intOf]; omega
        · have hk2 : (0 : Int) < (k : Int) := by omega
          rw [show sKk n a x k = sK n a x by unfold sKk; rw [if_neg hk0], RK.out] at AA
          generalize rung s0 a n = ru at *
          go_wp2_with (first
            | (go_at_call 9; refine AA.out.mono ?_; rintro e w3 ⟨rfl, G⟩)
            | (go_at_call 15; refine (FL.out _).mono ?_; rintro e w' ⟨rfl, hw⟩; have hw2 := hw.symm; clear hw; subst hw2)
            | (go_at_call 16; refine (WO.out _).mono ?_; rintro e w' ⟨rfl, hw⟩; have hw2 := hw.symm; clear hw; subst hw2))
          go_roundw
          case rel => exact ⟨k + 1, by omega, by go_num, hide (P.out.got G.out)⟩
          case measure => simp [intOf]; omega
      · obtain rfl : k = t := by omega
        rw [show sKk n a x k = rK n a x 0 by unfold sKk; rw [if_neg (by omega), rK_zero]] at P
        go_wp2
        go_loopw [15] (fun i wr => ∃ c : Nat, c ≤ n ∧ i = .int .i64 c ∧ Hid (PL W wr b g n k (rK n a x c))) (fun i _ => n - (intOf i).toNat)
        case atStart => exact ⟨0, by omega, rfl, P⟩
        case round =>
          clear P
          obtain ⟨c, hc, rfl, P⟩ := hrel
          by_cases hcn : c < n
          · have hc1 : (c : Int) < (n : Int) := by omega
            by_cases hca : c = a
            · subst hca
              have RD := hide (read_none P.out.pk c ha (by rw [rK_a]))
              have CT : Hid (∀ w', Snd wr b g n k (rK n c x c) w' → Calls Try.prog 14 #[.pointer (some ⟨b, 0, none⟩), .int .i64 (c : Int)] w' fun e w2 => e = .returned (.int .i64 0) ∧ w2 = w') := hide (fun w' h => by
                have := count_any h.1 c ha
                rw [rK_a] at this
                exact this)
              have ST := hide (fun w' (h : Snd wr b g n k (rK n c x c) w') => P.out.got h)
              rw [← rK_self] at ST
              go_wp2_with (first
                | (go_at_call 10; refine RD.out.mono ?_; rintro e w3 ⟨rfl, G⟩)
                | (go_at_call 14; refine (CT.out _ G.out).mono ?_; rintro e w' ⟨rfl, hw⟩; have hw2 := hw.symm; clear hw; subst hw2))
              go_roundw
              case rel => exact ⟨c + 1, by omega, by go_num, hide (ST.out _ (by rw [rK_self]; exact G.out))⟩
              case measure => simp [intOf]; omega
            · have hq : ((c : Int) == (a : Int)) = false := by simp; omega
              have RD := hide (read_any P.out.pk c hcn (by rw [rK_k n a x c hcn hca]; simp; omega))
              rw [rK_step n a x c hcn hca, rK_k n a x c hcn hca] at RD
              have ST := hide (fun w' (h : Snd wr b g n k (rK n a x (c + 1)) w') => P.out.got h)
              have OO := hide (fun W' => of_one (a : Int) W')
              have CT : Hid (∀ w' m', PK w' b g n m' (rK n a x (c + 1)) → Calls Try.prog 14 #[.pointer (some ⟨b, 0, none⟩), .int .i64 (c : Int)] w' fun e w2 => e = .returned (.int .i64 1) ∧ w2 = w') := hide (fun w' m' h => by
                have := count_any h c hcn
                rw [rK_k1 n a x c hcn hca] at this
                exact this)
              simp only [] at RD
              generalize withN 0 (a : Int) = ff at *
              go_wp2_with (first
                | (go_at_call 10; refine RD.out.mono ?_; rintro e w3 ⟨rfl, G⟩; have P3 := hide (ST.out _ G.out); have P4 := hide (fun o => P3.out.bel ((Below.refl w3.heap.size w3).alloc (Nat.le_refl _) o)))
                | (go_at_call 11; refine (OO.out _).mono ?_; rintro e w' ⟨rfl, hw⟩; have hw2 := hw.symm; clear hw; subst hw2)
                | (go_at_call 14; refine (CT.out _ _ (P4.out _).pk).mono ?_; rintro e w' ⟨rfl, hw⟩; have hw2 := hw.symm; clear hw; subst hw2))
              go_roundw
              case rel => exact ⟨c + 1, by omega, by go_num, hide (P4.out _)⟩
              case measure => simp [intOf]; omega
          · obtain rfl : c = n := by omega
            have WA := hide (waits_any P.out.pk)
            rw [waits_rK c a x hn2] at WA
            go_wp2_with (go_at_call 13; refine WA.out.mono ?_; rintro e w3 ⟨rfl, HB⟩)
            go_ret
            exact ⟨rfl, (P.out.bel HB.out).below⟩
end Go.Proofs.Ytigofonhibaojaa.Con
