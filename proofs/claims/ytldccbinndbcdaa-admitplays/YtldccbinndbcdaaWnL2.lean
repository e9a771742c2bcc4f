/- The landed code: goodCPUs, goodAll, fits, One, All. -/
import Derived.Test.YtldccbinndbcdaaWnL1
namespace Go.Proofs.Ytldccbinndbcdaa.Wn
open Go.RowKit Go.Proofs.Ytldccbinndbcdaa.Con
set_option linter.unusedVariables false
set_option linter.unusedSimpArgs false
attribute [local go_sem ↓] Go.wp_at_zero Go.wp_at_succ
def cpusB (m : Int) : Bool := decide (1 ≤ m ∧ m ≤ 64)
theorem useOk_no {L : List Pr} (h : ¬ (L.length : Int) ≤ 64) : useOk L = false := by
  cases e : useOk L with
  | false => rfl
  | true => unfold useOk at e; simp only [Bool.and_eq_true, decide_eq_true_eq, List.all_eq_true] at e; omega
theorem useOk_iff {L : List Pr} : useOk L = true ↔ L.length ≤ 64 ∧ ∀ x ∈ L, gp x = true := by
  unfold useOk; simp only [Bool.and_eq_true, decide_eq_true_eq, List.all_eq_true]
theorem useOk_bad {L : List Pr} {k : Nat} (hk : k < L.length) (hb : gp (at' L k) = false) : useOk L = false := by
  cases e : useOk L with
  | false => rfl
  | true => have := (useOk_iff.1 e).2 _ (at_mem hk); rw [hb] at this; cases this
theorem useOk_all {L : List Pr} (h2 : (L.length : Int) ≤ 64) (h : ∀ j, j < L.length → gp (at' L j) = true) : useOk L = true :=
  useOk_iff.2 ⟨by omega, fun x hx => by obtain ⟨j, hj, rfl⟩ := mem_at hx; exact h j hj⟩
theorem pairsB_and (m : Int) (L : List Pr) : pairsB m L = (cpusB m && useOk L) := by
  unfold pairsB cpusB useOk; rw [Bool.and_assoc]
set_option maxHeartbeats 2000000 in
theorem cpus_any (m : Int) (w : World) : Calls Try.prog 34 #[.int .i64 m] w fun e w' => e = .returned (.bool (cpusB m)) ∧ w' = w := by
  by_cases h1 : 1 ≤ m
  · by_cases h2 : m ≤ 64
    · have FE := hide (show cpusB m = true from decide_eq_true ⟨h1, h2⟩)
      go_enter Try.func34, Try.ntmps34
      go_wp2
      go_ret
      exact ⟨by rw [FE.out]; rfl, rfl⟩
    · have FE := hide (show cpusB m = false from decide_eq_false (by omega))
      go_enter Try.func34, Try.ntmps34
      go_wp2
      go_ret
      exact ⟨by rw [FE.out]; rfl, rfl⟩
  · have FE := hide (show cpusB m = false from decide_eq_false (by omega))
    go_enter Try.func34, Try.ntmps34
    go_wp2
    go_ret
    exact ⟨by rw [FE.out]; rfl, rfl⟩
set_option maxHeartbeats 4000000 in
theorem pairs_any {W : World} {v : Value} {L : List Pr} (h : Sl W v L) : Calls Try.prog 35 #[v] W fun e w' => e = .returned (.bool (useOk L)) ∧ Nx W w' := by
  obtain ⟨p, cap, rfl, hn, hm⟩ := h.form
  have hmx : (L.length : Int) ≤ 9223372036854775807 := by unfold maxLen at hm; omega
  have H := hide h
  clear h
  by_cases hl : (L.length : Int) ≤ 64
  rotate_left
  · have FE := hide (useOk_no hl)
    go_enter Try.func35, Try.ntmps35
    go_wp2
    go_ret
    exact ⟨by rw [FE.out]; rfl, Nx.refl _⟩
  have HN : Hid (∀ k, k < L.length → gp (at' L k) = false → useOk L = false) := hide (fun k hk hb => useOk_bad hk hb)
  have HY : Hid ((∀ j, j < L.length → gp (at' L j) = true) → useOk L = true) := hide (fun h1 => useOk_all hl h1)
  have HG := hide goodC
  go_enter Try.func35, Try.ntmps35
  go_wp2
  go_loopw [4, 10] (fun _ i wr => ∃ k : Nat, k ≤ L.length ∧ i = .int .i64 k ∧ Hid (∀ j, j < k → gp (at' L j) = true) ∧ Hid (Below W.heap.size W wr)) (fun _ i _ => L.length - (intOf i).toNat)
  case atStart => exact ⟨0, by omega, rfl, hide (fun j hj => by omega), hide (Below.refl _ _)⟩
  case round =>
    obtain ⟨k, hk, rfl, HR, HB⟩ := hrel
    by_cases hkn : k < L.length
    · obtain ⟨b, o, rfl, hb, x0, x1⟩ := (H.out.below HB.out).at hkn
      have hk1 : (k : Int) < (L.length : Int) := by omega
      have HP := hide (fun w => HG.out (at' L k) w)
      have hN1 := HN.out k hkn
      have hR1 : gp (at' L k) = true → ∀ j, j < k + 1 → gp (at' L j) = true := fun e j hj => by
        rcases Nat.lt_or_ge j k with h1 | h1
        · exact HR.out j h1
        · obtain rfl : j = k := by omega
          exact e
      have eg : prv (at' L k) = .agg #[.int .i64 (at' L k).1, .int .i64 (at' L k).2] := rfl
      rw [eg] at HP
      have HB3 : Hid (∀ o w2, Nx (wr.alloc o) w2 → Below W.heap.size W w2) := hide (fun o w2 h => (bel_alloc2 HB.out o).trans (Below.mono h (by have := HB.out.size; simp; omega)))
      clear HR HB eg
      cases hg : gp (at' L k) with
      | false =>
        have FE := hide (hN1 hg)
        rw [hg] at HP
        clear hN1 hR1 hg
        generalize (at' L k).1 = z at *
        generalize (at' L k).2 = z' at *
        go_wp2_with fail
        refine (HP.out _).mono ?_
        rintro e w2 ⟨rfl, hb⟩
        have HB4 := hide (HB3.out _ _ hb)
        clear hb
        go_wp2
        go_ret
        exact ⟨by rw [FE.out]; rfl, HB4.out⟩
      | true =>
        have FE := hide (hR1 hg)
        rw [hg] at HP
        clear hN1 hR1 hg
        generalize (at' L k).1 = z at *
        generalize (at' L k).2 = z' at *
        go_wp2_with fail
        refine (HP.out _).mono ?_
        rintro e w2 ⟨rfl, hb⟩
        have HB4 := hide (HB3.out _ _ hb)
        clear hb
        go_wp2
        go_round
        case rel => exact ⟨k + 1, by omega, by go_num, FE, HB4⟩
        case measure => simp [intOf]; omega
    · obtain rfl : k = L.length := by omega
      have FE := hide (HY.out HR.out)
      go_wp2
      go_ret
      exact ⟨by rw [FE.out]; rfl, HB.out⟩
set_option maxHeartbeats 4000000 in
theorem fits_any {W : World} {v : Value} {L : List Pr} (h : Sl W v L) (m : Int) (c : Nat) (hp : pairsB m L = true) (hc : c < L.length) : Calls Try.prog 36 #[.int .i64 m, v, .int .i64 (c : Int)] W fun e w' => e = .returned (.bool (fits m L (at' L c))) ∧ Nx W w' := by
  obtain ⟨p, cap, rfl, hn, hm⟩ := h.form
  have hmx : (L.length : Int) ≤ 9223372036854775807 := by unfold maxLen at hm; omega
  have H := hide h
  clear h
  obtain ⟨⟨m0, m1⟩, hl, hall⟩ := pairs_iff.1 hp
  have E : Hid (fits m L (at' L c) = decide (oth L c L.length < m * room (at' L c))) := hide (fits_oth hc)
  have hS0 := hide (oth_zero L c)
  have hSs := hide (oth_same hc)
  have hSn : Hid (∀ j, j < L.length → j ≠ c → oth L c (j + 1) = oth L c j + takesN (at' L j) (at' L c)) := hide (fun j hj hne => oth_next hj hne)
  have hSb : Hid (∀ j, j ≤ L.length → 0 ≤ oth L c j ∧ oth L c j ≤ 137438953472) := hide (fun j hj => oth_bd hall hl hc j hj)
  obtain ⟨f0, f1⟩ : 0 ≤ m * room (at' L c) ∧ m * room (at' L c) ≤ 137438953472 := room_mul m0 m1 (hall _ (at_mem hc))
  have HT : Hid (∀ j, j < L.length → ∀ w, Calls Try.prog 46 #[prv (at' L j), prv (at' L c)] w fun e w' => e = .returned (.tuple #[.int .i64 (takesN (at' L j) (at' L c)), .bool true]) ∧ Nx w w') := hide (fun j hj w => by
    have t := takes_t (hall _ (at_mem hj)) (hall _ (at_mem hc))
    have := takesC (at' L j) (at' L c) w
    rwa [t.1, t.2] at this)
  have HTb : Hid (∀ j, j < L.length → 0 ≤ takesN (at' L j) (at' L c) ∧ takesN (at' L j) (at' L c) ≤ 2147483648) := hide (fun j hj => by
    have a := takes_lo (hall _ (at_mem hj)) (hall _ (at_mem hc))
    have b := room_lo (hall _ (at_mem hc))
    omega)
  have HR : Hid (∀ w, Calls Try.prog 47 #[.agg #[.int .i64 (at' L c).1, .int .i64 (at' L c).2]] w fun e w' => e = .returned (.int .i64 (room (at' L c))) ∧ Nx w w') := hide (fun w => enough_any (at' L c) (hall _ (at_mem hc)) w)
  clear hp hall
  have hc1 : (c : Int) < (L.length : Int) := by omega
  go_enter Try.func36, Try.ntmps36
  go_wp2
  go_loopw [7, 8, 9, 10, 11, 14] (fun t _ _ _ _ i wr => ∃ k : Nat, k ≤ L.length ∧ t = .int .i64 (oth L c k) ∧ i = .int .i64 k ∧ Hid (Below W.heap.size W wr)) (fun _ _ _ _ _ i _ => L.length - (intOf i).toNat)
  case atStart => exact ⟨0, by omega, by rw [hS0.out], rfl, hide (Below.refl _ _)⟩
  case round =>
    obtain ⟨k, hk, rfl, rfl, HB⟩ := hrel
    by_cases hkn : k < L.length
    · have hk1 : (k : Int) < (L.length : Int) := by omega
      obtain ⟨b, o, rfl, hbW, q0, q1⟩ := H.out.at hkn
      have hbr : Hid (b < wr.heap.size) := hide (Nat.lt_of_lt_of_le hbW HB.out.size)
      by_cases hkc : k = c
      · have hS := hide hSs.out
        subst hkc
        have x0 := (HB.out.cell (p := ⟨b, o + k * 2, none⟩) hbW).trans q0
        have x1 := (HB.out.cell (p := ⟨b, o + k * 2 + 1, none⟩) hbW).trans q1
        have HB2 := hide (fun o => bel_alloc2 HB.out o)
        clear q0 q1
        go_wp2
        go_round
        case rel => exact ⟨k + 1, by omega, by rw [hS.out], by go_num, hide (HB2.out _)⟩
        case measure => simp [intOf]; omega
      · obtain ⟨b', o', e', _, q2, q3⟩ := H.out.at hc
        simp only [Option.some.injEq, Addr.mk.injEq, and_true] at e'
        obtain ⟨rfl, rfl⟩ := e'
        have QQ : Hid (∀ w', Below W.heap.size W w' → (w'.cell? ⟨b, o + k * 2, none⟩ = some (.int .i64 (at' L k).1) ∧ w'.cell? ⟨b, o + k * 2 + 1, none⟩ = some (.int .i64 (at' L k).2)) ∧ w'.cell? ⟨b, o + c * 2, none⟩ = some (.int .i64 (at' L c).1) ∧ w'.cell? ⟨b, o + c * 2 + 1, none⟩ = some (.int .i64 (at' L c).2)) := hide (fun w' hB =>
          ⟨⟨(hB.cell (p := ⟨b, o + k * 2, none⟩) hbW).trans q0, (hB.cell (p := ⟨b, o + k * 2 + 1, none⟩) hbW).trans q1⟩, (hB.cell (p := ⟨b, o + c * 2, none⟩) hbW).trans q2, (hB.cell (p := ⟨b, o + c * 2 + 1, none⟩) hbW).trans q3⟩)
        obtain ⟨⟨x0, x1⟩, x2, x3⟩ := QQ.out wr HB.out
        clear q0 q1 q2 q3
        have hkc' : ((k : Int) != (c : Int)) = true := by simp; omega
        have hkc2 : ((k : Int) == (c : Int)) = false := by simp; omega
        have hS := hSn.out k hkn hkc
        have sb := hSb.out k hk
        have sb1 := hSb.out (k + 1) (by omega)
        rw [hS] at sb1
        have HTk : Hid (∀ w, Calls Try.prog 46 #[.agg #[.int .i64 (at' L k).1, .int .i64 (at' L k).2], .agg #[.int .i64 (at' L c).1, .int .i64 (at' L c).2]] w fun e w' => e = .returned (.tuple #[.int .i64 (takesN (at' L k) (at' L c)), .bool true]) ∧ Nx w w') := hide (HT.out k hkn)
        have CC : Hid (∀ w2, Nx (wr.alloc (.cells #[.int .i64 (at' L k).1, .int .i64 (at' L k).2] 28)) w2 → Below W.heap.size W w2 ∧ w2.cell? ⟨wr.heap.size, 0, none⟩ = some (.int .i64 (at' L k).1) ∧ w2.cell? ⟨wr.heap.size, 1, none⟩ = some (.int .i64 (at' L k).2)) := hide (fun w2 h => by
          have r0 := box1 h
          obtain ⟨a0, a1⟩ := row2 r0
          exact ⟨(bel_alloc2 HB.out _).trans (Below.mono h (by have := HB.out.size; simp; omega)), a0, a1⟩)
        have tb := HTb.out k hkn
        have hS := hide hS
        generalize takesN (at' L k) (at' L c) = tk at *
        generalize (at' L k).1 = z at *
        generalize (at' L k).2 = z' at *
        generalize (at' L c).1 = y at *
        generalize (at' L c).2 = y' at *
        generalize oth L c k = s at *
        have C0 := CC.out _ (bel_drew (Nx.refl _))
        have Q0 := QQ.out _ C0.1
        have CN : Hid (∀ w2, Nx ((wr.alloc (.cells #[.int .i64 z, .int .i64 z'] 28)).drew) w2 → Nx (wr.alloc (.cells #[.int .i64 z, .int .i64 z'] 28)) w2) := hide (fun w2 h => Nx.trans (bel_drew (Nx.refl _)) h)
        go_wp2
        go_region_held3 (fun w' => (w'.cell? ⟨wr.heap.size, 0, none⟩ = some (.int .i64 z) ∧ w'.cell? ⟨wr.heap.size, 1, none⟩ = some (.int .i64 z')) ∧ w'.cell? ⟨b, o + c * 2, none⟩ = some (.int .i64 y) ∧ w'.cell? ⟨b, o + c * 2 + 1, none⟩ = some (.int .i64 y')) (first | (exact ⟨C0.2, Q0.2⟩) | go_keep) ((with_reducible refine (HTk.out _).mono ?_; rintro e w2 ⟨rfl, hb⟩; obtain ⟨B2, x0, x1⟩ := CC.out w2 (CN.out w2 hb); obtain ⟨_, x2, x3⟩ := QQ.out w2 B2))
        have HB2 := hide (CC.out w2 (CN.out w2 hb)).1
        go_wp2
        go_roundw
        case rel => exact ⟨k + 1, by omega, by rw [hS.out], by go_num, HB2⟩
        case measure => simp [intOf]; omega
    · obtain rfl : k = L.length := by omega
      obtain ⟨b, o, rfl, hbW, q2, q3⟩ := H.out.at hc
      have x2 := (HB.out.cell (p := ⟨b, o + c * 2, none⟩) hbW).trans q2
      have x3 := (HB.out.cell (p := ⟨b, o + c * 2 + 1, none⟩) hbW).trans q3
      have sb := hSb.out L.length (Nat.le_refl _)
      have HB' : Hid (∀ w, Nx wr w → Below W.heap.size W w) := hide (fun w h => HB.out.trans (Below.mono h HB.out.size))
      clear q2 q3 HB hSn HT HTb hSb
      generalize (at' L c).1 = y at *
      generalize (at' L c).2 = y' at *
      generalize oth L c L.length = s at *
      generalize room (at' L c) = r at *
      go_wp2_with fail
      refine (HR.out _).mono ?_
      rintro e w2 ⟨rfl, hb⟩
      have HB2 := hide (HB'.out _ hb)
      clear hb
      go_wp2
      go_ret
      exact ⟨by rw [E.out]; rfl, HB2.out⟩
set_option maxHeartbeats 4000000 in
theorem allC : AllC := by
  intro m L v W h
  obtain ⟨p, cap, rfl, hn, hm⟩ := h.form
  have hmx : (L.length : Int) ≤ 9223372036854775807 := by unfold maxLen at hm; omega
  have HC := hide (fun w => cpus_any m w)
  have HP := hide (pairs_any h)
  have H := hide h
  clear h
  cases hm2 : cpusB m with
  | false =>
    have E := hide (all_1 (m := m) (L := L) (by rw [pairsB_and, hm2]; rfl))
    rw [hm2] at HC
    clear hm2
    go_enter Try.func21, Try.ntmps21
    go_wp2_with (go_at_call 34; refine (HC.out _).mono ?_; rintro e w9 ⟨rfl, hw9⟩; rw [hw9]; clear hw9)
    go_ret2
    exact ⟨ret2 (by rw [E.out.2]; rfl) (by rw [E.out.1]; rfl), Nx.refl _⟩
  | true =>
    rw [hm2] at HC
    cases hp : useOk L with
    | false =>
      have E := hide (all_1 (m := m) (L := L) (by rw [pairsB_and, hp, Bool.and_false]))
      rw [hp] at HP
      clear hp hm2
      go_enter Try.func21, Try.ntmps21
      go_wp2_with (go_at_call 34; refine (HC.out _).mono ?_; rintro e w9 ⟨rfl, hw9⟩; rw [hw9]; clear hw9)
      refine HP.out.mono ?_
      rintro e w1 ⟨rfl, hb⟩
      go_wp2
      go_ret2
      exact ⟨ret2 (by rw [E.out.2]; rfl) (by rw [E.out.1]; rfl), hb⟩
    | true =>
      have hpp : pairsB m L = true := by rw [pairsB_and, hm2, hp]; rfl
      have E := hide (all_0 hpp).1
      have HY : Hid ((∀ j, j < L.length → fits m L (at' L j) = true) → allB m L = true) := hide (fun h => all_yes hpp h)
      have HN : Hid (∀ k, k < L.length → fits m L (at' L k) = false → allB m L = false) := hide (fun k hk h => all_no hpp hk h)
      have HO : Hid (∀ k : Nat, k < L.length → ∀ w, Below W.heap.size W w → Calls Try.prog 36 #[.int .i64 m, .slice p L.length cap, .int .i64 (k : Int)] w fun e w' => e = .returned (.bool (fits m L (at' L k))) ∧ Nx w w') := hide (fun k hk w hB => fits_any (H.out.below hB) m k hpp hk)
      rw [hp] at HP
      clear hp hm2 hpp
      go_enter Try.func21, Try.ntmps21
      go_wp2_with (go_at_call 34; refine (HC.out _).mono ?_; rintro e w9 ⟨rfl, hw9⟩; rw [hw9]; clear hw9)
      refine HP.out.mono ?_
      rintro e w1 ⟨rfl, hb1⟩
      have HB1 := hide hb1
      clear hb1 HP
      go_wp2
      go_loopw [6, 17] (fun _ i wr => ∃ k : Nat, k ≤ L.length ∧ i = .int .i64 k ∧ Hid (∀ j, j < k → fits m L (at' L j) = true) ∧ Hid (Below W.heap.size W wr)) (fun _ i _ => L.length - (intOf i).toNat)
      case atStart => exact ⟨0, by omega, rfl, hide (fun j hj => by omega), HB1⟩
      case round =>
        obtain ⟨k, hk, rfl, HR, HB⟩ := hrel
        by_cases hkn : k < L.length
        · have hk1 : (k : Int) < (L.length : Int) := by omega
          have HOk := hide (HO.out k hkn wr HB.out)
          have hN1 := HN.out k hkn
          have hR1 : fits m L (at' L k) = true → ∀ j, j < k + 1 → fits m L (at' L j) = true := fun e j hj => by
            rcases Nat.lt_or_ge j k with h1 | h1
            · exact HR.out j h1
            · obtain rfl : j = k := by omega
              exact e
          have HB3 : Hid (∀ w2, Nx wr w2 → Below W.heap.size W w2) := hide (fun w2 h => HB.out.trans (Below.mono h HB.out.size))
          cases hf : fits m L (at' L k) with
          | false =>
            have FE := hide (hN1 hf)
            rw [hf] at HOk
            clear hN1 hR1 hf HR
            go_wp2_with fail
            refine HOk.out.mono ?_
            rintro e w2 ⟨rfl, hb⟩
            go_wp2
            go_ret2
            exact ⟨ret2 (by rw [FE.out]; rfl) (by rw [E.out]; rfl), HB3.out _ hb⟩
          | true =>
            have FE := hide (hR1 hf)
            rw [hf] at HOk
            clear hN1 hR1 hf HR
            go_wp2_with fail
            refine HOk.out.mono ?_
            rintro e w2 ⟨rfl, hb⟩
            have HB4 := hide (HB3.out _ hb)
            clear hb
            go_wp2
            go_round
            case rel => exact ⟨k + 1, by omega, by go_num, FE, HB4⟩
            case measure => simp [intOf]; omega
        · obtain rfl : k = L.length := by omega
          have FE := hide (HY.out HR.out)
          go_wp2
          go_ret2
          exact ⟨ret2 (by rw [FE.out]; rfl) (by rw [E.out]; rfl), HB.out⟩
end Go.Proofs.Ytldccbinndbcdaa.Wn
