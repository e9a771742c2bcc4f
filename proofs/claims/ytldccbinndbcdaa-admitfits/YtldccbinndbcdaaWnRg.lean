/- The reference's One and All. -/
import Derived.Test.YtldccbinndbcdaaWnRf
namespace Go.Proofs.Ytldccbinndbcdaa.Wn
open Go.RowKit Go.Proofs.Ytldccbinndbcdaa.Con
set_option linter.unusedVariables false
set_option linter.unusedSimpArgs false
attribute [local go_sem ↓] Go.wp_at_zero Go.wp_at_succ
set_option maxHeartbeats 4000000 in
theorem rone_any {W : World} {v : Value} {L : List Pr} (h : Sl W v L) (m k : Int) : Calls Try.prog 45 #[.int .i64 m, v, .int .i64 k] W fun e w' => e = .returned (.tuple #[.bool (oneB m L k), .int .i64 (oneE m L k)]) ∧ Nx W w' := by
  obtain ⟨p, cap, rfl, hn, hm⟩ := h.form
  have hmx : (L.length : Int) ≤ 9223372036854775807 := by unfold maxLen at hm; omega
  have HP := hide (rpairs_any h m)
  have H := hide h
  clear h
  cases hp : pairsB m L with
  | false =>
    have E := hide (one_1 (m := m) (L := L) (k := k) (by rw [hp]; simp))
    rw [hp] at HP
    clear hp
    go_enter Try.func45, Try.ntmps45
    go_wp2_with fail
    refine HP.out.mono ?_
    rintro e w1 ⟨rfl, hb⟩
    go_wp2
    go_ret2
    exact ⟨ret2 (by rw [E.out.2]; rfl) (by rw [E.out.1]; rfl), hb⟩
  | true =>
    rw [hp] at HP
    by_cases k0 : k < 0
    · have E := hide (one_1 (m := m) (L := L) (k := k) (by omega))
      clear hp
      go_enter Try.func45, Try.ntmps45
      go_wp2_with fail
      refine HP.out.mono ?_
      rintro e w1 ⟨rfl, hb⟩
      go_wp2
      go_ret2
      exact ⟨ret2 (by rw [E.out.2]; rfl) (by rw [E.out.1]; rfl), hb⟩
    by_cases k1 : (L.length : Int) ≤ k
    · have E := hide (one_1 (m := m) (L := L) (k := k) (by omega))
      clear hp
      go_enter Try.func45, Try.ntmps45
      go_wp2_with fail
      refine HP.out.mono ?_
      rintro e w1 ⟨rfl, hb⟩
      go_wp2
      go_ret2
      exact ⟨ret2 (by rw [E.out.2]; rfl) (by rw [E.out.1]; rfl), hb⟩
    obtain ⟨c, rfl⟩ : ∃ c : Nat, k = (c : Int) := ⟨k.toNat, by omega⟩
    have hc : c < L.length := by omega
    obtain ⟨e1, e2⟩ := one_0 (k := (c : Int)) hp (by omega) (by omega)
    obtain ⟨⟨m0, m1⟩, hl, hall⟩ := pairs_iff.1 hp
    rw [show ((c : Int).toNat) = c by omega, fits_oth hc] at e2
    have E := hide (And.intro e1 e2)
    have hS0 := hide (oth_zero L c)
    have hSs := hide (oth_same hc)
    have hSn : Hid (∀ j, j < L.length → j ≠ c → oth L c (j + 1) = oth L c j + takesN (at' L j) (at' L c)) := hide (fun j hj hne => oth_next hj hne)
    have hSb : Hid (∀ j, j ≤ L.length → 0 ≤ oth L c j ∧ oth L c j ≤ 137438953472) := hide (fun j hj => oth_bd hall hl hc j hj)
    obtain ⟨f0, f1⟩ := room_mul m0 m1 (hall _ (at_mem hc))
    obtain ⟨g1, g2, g3⟩ := gp_t (hall _ (at_mem hc))
    have HT : Hid (∀ j, j < L.length → ∀ w, Calls Try.prog 53 #[prv (at' L j), prv (at' L c)] w fun e w' => e = .returned (.tuple #[.int .i64 (takesN (at' L j) (at' L c)), .bool true]) ∧ Nx w w') := hide (fun j hj w => by
      have t := takes_t (hall _ (at_mem hj)) (hall _ (at_mem hc))
      have := rtakes_any (at' L j) (at' L c) w
      rwa [t.1, t.2] at this)
    have HTb : Hid (∀ j, j < L.length → 0 ≤ takesN (at' L j) (at' L c) ∧ takesN (at' L j) (at' L c) ≤ 2147483648) := hide (fun j hj => by
      have a := takes_lo (hall _ (at_mem hj)) (hall _ (at_mem hc))
      have b := room_lo (hall _ (at_mem hc))
      omega)
    clear hp e1 e2 hall
    have d0 : decide ((c : Int) < 0) = false := decide_eq_false (by omega)
    have d1 : decide ((L.length : Int) ≤ (c : Int)) = false := decide_eq_false (by omega)
    have d2 : decide (L.length ≤ c) = false := decide_eq_false (by omega)
    go_enter Try.func45, Try.ntmps45
    go_wp2_with fail
    refine HP.out.mono ?_
    rintro e w1 ⟨rfl, hb1⟩
    have HB1 := hide hb1
    clear hb1 HP
    go_wp2
    go_loopw [8, 9, 10, 11] (fun t i _ _ wr => ∃ k : Nat, k ≤ L.length ∧ t = .int .i64 (oth L c k) ∧ i = .int .i64 k ∧ Hid (Below W.heap.size W wr)) (fun _ i _ _ _ => L.length - (intOf i).toNat)
    case atStart => exact ⟨0, by omega, by rw [hS0.out], rfl, HB1⟩
    case round =>
      obtain ⟨k, hk, rfl, rfl, HB⟩ := hrel
      by_cases hkn : k < L.length
      · have hk1 : (k : Int) < (L.length : Int) := by omega
        by_cases hkc : k = c
        · have hS := hide hSs.out
          subst hkc
          go_wp2
          go_round
          case rel => exact ⟨k + 1, by omega, by rw [hS.out], by go_num, HB⟩
          case measure => simp [intOf]; omega
        · obtain ⟨b, o, rfl, hbW, q0, q1⟩ := H.out.at hkn
          obtain ⟨b', o', e', _, q2, q3⟩ := H.out.at hc
          simp only [Option.some.injEq, Addr.mk.injEq, and_true] at e'
          obtain ⟨rfl, rfl⟩ := e'
          have QQ : Hid (∀ w', Below W.heap.size W w' → (w'.cell? ⟨b, o + k * 2, none⟩ = some (.int .i64 (at' L k).1) ∧ w'.cell? ⟨b, o + k * 2 + 1, none⟩ = some (.int .i64 (at' L k).2)) ∧ w'.cell? ⟨b, o + c * 2, none⟩ = some (.int .i64 (at' L c).1) ∧ w'.cell? ⟨b, o + c * 2 + 1, none⟩ = some (.int .i64 (at' L c).2)) := hide (fun w' hB =>
            ⟨⟨(hB.cell (p := ⟨b, o + k * 2, none⟩) hbW).trans q0, (hB.cell (p := ⟨b, o + k * 2 + 1, none⟩) hbW).trans q1⟩, (hB.cell (p := ⟨b, o + c * 2, none⟩) hbW).trans q2, (hB.cell (p := ⟨b, o + c * 2 + 1, none⟩) hbW).trans q3⟩)
          obtain ⟨⟨x0, x1⟩, x2, x3⟩ := QQ.out wr HB.out
          clear q0 q1 q2 q3
          have hkc' : ((k : Int) != (c : Int)) = true := by simp; omega
          have hkc2 : ((k : Int) == (c : Int)) = false := by simp; omega
          have hS := hSn.out k hkn hkc
          have sb := hSb.out k hk
          have sb1 := hSb.out (k + 1) (by omega)
          rw [hS] at sb1
          have HTk : Hid (∀ w, Calls Try.prog 53 #[.agg #[.int .i64 (at' L k).1, .int .i64 (at' L k).2], .agg #[.int .i64 (at' L c).1, .int .i64 (at' L c).2]] w fun e w' => e = .returned (.tuple #[.int .i64 (takesN (at' L k) (at' L c)), .bool true]) ∧ Nx w w') := hide (HT.out k hkn)
          have hB3 : Hid (∀ w2, Nx wr.drew w2 → Below W.heap.size W w2) := hide (fun w2 h => (bel_drew HB.out).trans (Below.mono h HB.out.size))
          have tb := HTb.out k hkn
          have hS := hide hS
          generalize takesN (at' L k) (at' L c) = tk at *
          generalize (at' L k).1 = z at *
          generalize (at' L k).2 = z' at *
          generalize (at' L c).1 = y at *
          generalize (at' L c).2 = y' at *
          generalize oth L c k = s at *
          go_wp2
          go_region_held3 (fun w' => w'.cell? ⟨b, o + k * 2, none⟩ = some (.int .i64 z) ∧ w'.cell? ⟨b, o + k * 2 + 1, none⟩ = some (.int .i64 z') ∧ w'.cell? ⟨b, o + c * 2, none⟩ = some (.int .i64 y) ∧ w'.cell? ⟨b, o + c * 2 + 1, none⟩ = some (.int .i64 y')) (first | (exact ⟨x0, x1, x2, x3⟩) | go_keep) ((with_reducible refine (HTk.out _).mono ?_; rintro e w2 ⟨rfl, hb⟩; obtain ⟨⟨x0, x1⟩, x2, x3⟩ := QQ.out w2 (hB3.out w2 hb)))
          have HB2 := hide (hB3.out w2 hb)
          go_wp2
          go_roundw
          case rel => exact ⟨k + 1, by omega, by rw [hS.out], by go_num, HB2⟩
          case measure => simp [intOf]; omega
      · obtain rfl : k = L.length := by omega
        obtain ⟨b, o, rfl, hbW, q2, q3⟩ := H.out.at hc
        have x2 := (HB.out.cell (p := ⟨b, o + c * 2, none⟩) hbW).trans q2
        have x3 := (HB.out.cell (p := ⟨b, o + c * 2 + 1, none⟩) hbW).trans q3
        have sb := hSb.out L.length (Nat.le_refl _)
        have HB' : Hid (∀ n, Below W.heap.size W (wr.drewN n)) := hide (fun n => bel_drewN HB.out n)
        clear q2 q3 HB hSn HT HTb hSb
        generalize (at' L c).1 = y at *
        generalize (at' L c).2 = y' at *
        generalize oth L c L.length = s at *
        go_wp2
        go_quiet (fail)
        go_wp2
        go_ret2
        exact ⟨ret2 (by rw [E.out.2]; rfl) (by rw [E.out.1]; rfl), HB'.out _⟩
set_option maxHeartbeats 4000000 in
theorem rall_any {W : World} {v : Value} {L : List Pr} (h : Sl W v L) (m : Int) : Calls Try.prog 32 #[.int .i64 m, v] W fun e w' => e = .returned (.tuple #[.bool (allB m L), .int .i64 (allE m L)]) ∧ Nx W w' := by
  obtain ⟨p, cap, rfl, hn, hm⟩ := h.form
  have hmx : (L.length : Int) ≤ 9223372036854775807 := by unfold maxLen at hm; omega
  have HP := hide (rpairs_any h m)
  have H := hide h
  clear h
  cases hp : pairsB m L with
  | false =>
    have E := hide (all_1 hp)
    rw [hp] at HP
    clear hp
    go_enter Try.func32, Try.ntmps32
    go_wp2_with fail
    refine HP.out.mono ?_
    rintro e w1 ⟨rfl, hb⟩
    go_wp2
    go_ret2
    exact ⟨ret2 (by rw [E.out.2]; rfl) (by rw [E.out.1]; rfl), hb⟩
  | true =>
    have E := hide (all_0 hp).1
    have HY : Hid ((∀ j, j < L.length → fits m L (at' L j) = true) → allB m L = true) := hide (fun h => all_yes hp h)
    have HN : Hid (∀ k, k < L.length → fits m L (at' L k) = false → allB m L = false) := hide (fun k hk h => all_no hp hk h)
    have HO : Hid (∀ k : Nat, k < L.length → ∀ w, Below W.heap.size W w → Calls Try.prog 45 #[.int .i64 m, .slice p L.length cap, .int .i64 (k : Int)] w fun e w' => e = .returned (.tuple #[.bool (fits m L (at' L k)), .int .i64 0]) ∧ Nx w w') := hide (fun k hk w hB => by
      have e := one_0 (k := (k : Int)) hp (by omega) (by omega)
      rw [show ((k : Int).toNat) = k by omega] at e
      have := rone_any (H.out.below hB) m (k : Int)
      rwa [e.1, e.2] at this)
    rw [hp] at HP
    clear hp
    go_enter Try.func32, Try.ntmps32
    go_wp2_with fail
    refine HP.out.mono ?_
    rintro e w1 ⟨rfl, hb1⟩
    have HB1 := hide hb1
    clear hb1 HP
    go_wp2
    go_loopw [6, 7, 8] (fun i _ _ wr => ∃ k : Nat, k ≤ L.length ∧ i = .int .i64 k ∧ Hid (∀ j, j < k → fits m L (at' L j) = true) ∧ Hid (Below W.heap.size W wr)) (fun i _ _ _ => L.length - (intOf i).toNat)
    case atStart => exact ⟨0, by omega, rfl, hide (fun j hj => by omega), HB1⟩
    case round =>
      obtain ⟨k, hk, rfl, HR, HB⟩ := hrel
      by_cases hkn : k < L.length
      · have hk1 : (k : Int) < (L.length : Int) := by omega
        have HOk := hide (HO.out k hkn wr HB.out)
        have hN1 := HN.out k hkn
        have hR1 : fits m L (at' L k) = true → ∀ j, j < k + 1 → fits m L (at' L j) = true := fun e j hj => by
          rcases Nat.lt_or_ge j k with h1 | h1
          · exact HR.out j h1
          · obtain rfl : j = k := by omega
            exact e
        have HB3 : Hid (∀ w2, Nx wr w2 → Below W.heap.size W w2) := hide (fun w2 h => HB.out.trans (Below.mono h HB.out.size))
        cases hf : fits m L (at' L k) with
        | false =>
          have FE := hide (hN1 hf)
          rw [hf] at HOk
          clear hN1 hR1 hf HR
          go_wp2_with fail
          refine HOk.out.mono ?_
          rintro e w2 ⟨rfl, hb⟩
          go_wp2
          go_ret2
          exact ⟨ret2 (by rw [FE.out]; rfl) (by rw [E.out]; rfl), HB3.out _ hb⟩
        | true =>
          have FE := hide (hR1 hf)
          rw [hf] at HOk
          clear hN1 hR1 hf HR
          go_wp2_with fail
          refine HOk.out.mono ?_
          rintro e w2 ⟨rfl, hb⟩
          have HB2 := hide (HB3.out _ hb)
          go_wp2
          go_round
          case rel => exact ⟨k + 1, by omega, by go_num, FE, HB2⟩
          case measure => simp [intOf]; omega
      · obtain rfl : k = L.length := by omega
        have FE := hide (HY.out HR.out)
        go_wp2
        go_ret2
        exact ⟨ret2 (by rw [FE.out]; rfl) (by rw [E.out]; rfl), HB.out⟩
end Go.Proofs.Ytldccbinndbcdaa.Wn
