/- HeapAll's walk. -/
import Derived.Test.YtocgeplpehioeaaHAll
namespace Go.Proofs.Ytocgeplpehioeaa.Con
open Go.RowKit Go.Proofs.Ytocgeplpehioeaa.Hq
set_option linter.unusedVariables false
set_option linter.unusedSimpArgs false
theorem row_item {W : World} {r : Nat} {m : List It} (hr : W.heap[r]? = some (.cells (flat m).toArray 29 (0, 0))) (i : Nat) (hi : i < m.length) :
    W.cell? ⟨r, i * 2, none⟩ = some (.int .i64 (at' m i).1) ∧ W.cell? ⟨r, i * 2 + 1, none⟩ = some (.int .i64 (at' m i).2) := by
  refine ⟨?_, ?_⟩
  · rw [cell_of_row W r _ _ _ _ hr, List.getElem?_toArray, flat_get m _ (by omega)]
    unfold cellv; rw [if_pos (by omega), show i * 2 / 2 = i by omega]
  · rw [cell_of_row W r _ _ _ _ hr, List.getElem?_toArray, flat_get m _ (by omega)]
    unfold cellv; rw [if_neg (by omega), show (i * 2 + 1) / 2 = i by omega]
theorem row_keep {W W' : World} {r : Nat} {o : Obj} (hB : Below W.heap.size W W') (hr : W.heap[r]? = some o) : W'.heap[r]? = some o :=
  (hB.block r (Array.getElem?_eq_some_iff.1 hr).1).trans hr
set_option maxRecDepth 100000 in
set_option maxHeartbeats 4000000 in
theorem all_walk (p : Option Addr) (c : Nat) (zs : List Int) (g : Bool) (a : Int) (W : World) (hl : zs.length ≤ 9223372036854775807) (hwf : ∀ z ∈ zs, in64 z) (ha : in64 a)
    (h1 : zs.length ≤ 60 → 0 < zs.length → ∃ b o, p = some ⟨b, o, none⟩ ∧ b < W.heap.size ∧ ∀ j, j < zs.length → W.cell? ⟨b, o + j, none⟩ = some (.int .i64 (zs.getD j 0))) :
    Calls Try.prog 7 #[.slice p zs.length c, .bool g, .int .i64 a] W fun e w' => e = .returned (.bool true) ∧ Below W.heap.size W w' := by
  have hA := hide (awake_any W)
  by_cases hn : zs.length < 1 ∨ 60 < zs.length ∨ a < 0
  · have hn0 : decide ((zs.length : Int) < 1) = true ∨ (decide ((zs.length : Int) < 1) = false ∧ decide (60 < (zs.length : Int)) = true) ∨ (decide ((zs.length : Int) < 1) = false ∧ decide (60 < (zs.length : Int)) = false ∧ decide (a < 0) = true) := by
      simp only [decide_eq_true_iff, decide_eq_false_iff_not]; omega
    clear h1 hwf
    generalize zs.length = n at *
    rcases hn0 with h2 | ⟨h2, h3⟩ | ⟨h2, h3, h4⟩
    all_goals
      clear hn
      go_enter Try.func7, Try.ntmps7
      go_wp2_with (go_at_call 8; refine hA.out.mono ?_; rintro e w1 ⟨rfl, hB1⟩)
      go_ret
      exact ⟨rfl, hB1⟩
  · have hn1 : 1 ≤ zs.length ∧ zs.length ≤ 60 ∧ 0 ≤ a := by omega
    obtain ⟨n1, n2, n3⟩ := hn1
    obtain ⟨b, o, rfl, hbl, hcl⟩ := h1 n2 (by omega)
    have d1 : decide ((zs.length : Int) < 1) = false := decide_eq_false (by omega)
    have d2 : decide (60 < (zs.length : Int)) = false := decide_eq_false (by omega)
    have d3 : decide (a < 0) = false := decide_eq_false (by omega)
    have HC := hide hcl
    have HW := hide hwf
    obtain ⟨n, hnn⟩ : ∃ n, zs.length = n := ⟨_, rfl⟩
    have NN := hide hnn
    rw [hnn] at n1 n2 hl d1 d2 ⊢
    clear hnn h1 hwf hcl hn ha
    obtain ⟨t, ht⟩ : ∃ t : Nat, a % (n : Int) = (t : Int) := ⟨(a % (n : Int)).toNat, (Int.toNat_of_nonneg (Int.emod_nonneg _ (by omega))).symm⟩
    have htn : t < n := by have := Int.emod_lt_of_pos a (show (0 : Int) < (n : Int) by omega); omega
    have m1 : (1 : Int) ≤ (n : Int) := by omega
    have m2 : (n : Int) ≤ 60 := by omega
    have HN := hide (fun W' => new_any 100 g W')
    go_enter Try.func7, Try.ntmps7
    go_wp2_with (go_at_call 8; refine hA.out.mono ?_; rintro e w1 ⟨rfl, hB1⟩; have HB1 := hide hB1; clear hB1)
    refine (HN.out _).mono ?_
    rintro e w2 ⟨hb1, mb1, rfl, q1, b1, p1, p1'⟩
    rw [held100] at q1
    have A1 := hide (And.intro q1 (And.intro b1 (And.intro p1 p1')))
    clear q1 b1 p1 p1'
    go_wp2_with fail
    refine (HN.out _).mono ?_
    rintro e w3 ⟨hb2, mb2, rfl, q1, b1, p1, p1'⟩
    rw [held100] at q1
    have hs1 := HB1.out.size
    have S0 : Hid (S2 W w3 ⟨hb1, mb1, 100, g, .slice none 0 0, []⟩ ⟨hb2, mb2, 100, g, .slice none 0 0, []⟩) := hide (by
      have := s2_start A1.out.1 A1.out.2.1 A1.out.2.2.1 A1.out.2.2.2 q1 b1 p1 p1'
      exact ⟨this.a1, this.a2, this.s12, fun k hk => Nat.le_trans hs1 (this.far k hk), HB1.out.trans (this.below.mono hs1)⟩)
    clear q1 b1 p1 p1' A1 HN hA hs1
    go_wp2_with fail
    go_loopw [9] (fun s wr => ∃ k : Nat, k ≤ n ∧ s = .int .i64 k ∧ ∃ v1 l1 v2 l2, Hid (l1.Perm (its zs k)) ∧ Hid (l2.Perm (rot zs t n k)) ∧ Hid (S2 W wr ⟨hb1, mb1, 100, g, v1, l1⟩ ⟨hb2, mb2, 100, g, v2, l2⟩)) (fun s _ => n - (intOf s).toNat)
    case atStart => exact ⟨0, by omega, rfl, _, _, _, _, hide (List.Perm.refl _), hide (List.Perm.refl _), S0⟩
    case round =>
      obtain ⟨k, hk, rfl, v1, l1, v2, l2, P1, P2, SR⟩ := hrel
      by_cases hkn : k < n
      · obtain ⟨kk, hkk⟩ : ∃ kk, (k + t) % n = kk := ⟨_, rfl⟩
        have hkl : kk < n := by rw [← hkk]; exact Nat.mod_lt _ (by omega)
        have ekk : ((k : Int) + (t : Int)) % (n : Int) = (kk : Int) := by rw [← hkk, Int.natCast_emod, Int.natCast_add]
        have KK := hide hkk
        clear hkk
        have c1 : wr.cell? ⟨b, o + k, none⟩ = some (.int .i64 (zs.getD k 0)) := by
          rw [SR.out.below.cell (p := ⟨b, o + k, none⟩) hbl]
          exact HC.out k (by rw [NN.out]; exact hkn)
        have C2 := hide (HC.out kk (by rw [NN.out]; exact hkl))
        have i1 := hide (its_in HW.out (i := k) (by rw [NN.out]; exact hkn))
        have i2 := hide (its_in HW.out (i := kk) (by rw [NN.out]; exact hkl))
        have hl1 : l1.length = k := by rw [P1.out.length_eq, its_len]
        have hl2 : l2.length = k := by rw [P2.out.length_eq, rot_len]
        have L1 := hide hl1
        have L2 := hide hl2
        clear hl1 hl2
        have PU := hide (s2_put SR.out (k : Int) (zs.getD k 0) ((in64_iff _).2 (by omega)) i1.out (by
          intro y hy
          obtain ⟨i, hi, rfl⟩ := its_mem (P1.out.mem_iff.1 hy)
          show (i : Int) ≠ k
          omega) (by rw [L1.out]; omega))
        have Q1 : Hid (∀ l' : List It, l'.Perm (((k : Int), zs.getD k 0) :: l1) → l'.Perm (its zs (k + 1))) := hide (fun l' h => by
          rw [its_succ]
          exact h.trans ((P1.out.cons _).trans (List.perm_append_comm (l₁ := [_]))))
        have Q2 : Hid (∀ l' : List It, l'.Perm (((kk : Int), zs.getD kk 0) :: l2) → l'.Perm (rot zs t n (k + 1))) := hide (fun l' h => by
          rw [rot_succ, KK.out]
          exact h.trans ((P2.out.cons _).trans (List.perm_append_comm (l₁ := [_]))))
        have Q3 : Hid (∀ y ∈ l2, y.1 ≠ (kk : Int)) := hide (by
          intro y hy e
          obtain ⟨j, hj, rfl⟩ := rot_mem (P2.out.mem_iff.1 hy)
          have e' : (((j + t) % n : Nat) : Int) = (kk : Int) := e
          have := rot_inj (t := t) (show j < n by omega) hkn (by rw [KK.out]; omega)
          omega)
        generalize zs.getD k 0 = z1 at *
        generalize zs.getD kk 0 = z2 at *
        have hk1 : (k : Int) < (n : Int) := by omega
        have hk2 : (kk : Int) < (n : Int) := by omega
        go_wp2_with fail
        refine PU.out.mono ?_
        rintro e w4 ⟨rfl, v1', l1', P1', SR'⟩
        have c2 : w4.cell? ⟨b, o + kk, none⟩ = some (.int .i64 z2) := by
          rw [SR'.out.below.cell (p := ⟨b, o + kk, none⟩) hbl]; exact C2.out
        clear c1
        go_wp2_with fail
        refine (s2_put SR'.out.rot (kk : Int) z2 ((in64_iff _).2 (by omega)) i2.out Q3.out (by rw [L2.out]; omega)).mono ?_
        rintro e w5 ⟨rfl, v2', l2', P2', SR''⟩
        clear c2
        go_wp2_with fail
        go_roundw
        case rel => exact ⟨k + 1, by omega, by go_num, _, _, _, _, hide (Q1.out _ P1'.out), hide (Q2.out _ P2'.out), hide SR''.out.rot⟩
        case measure => simp [intOf]; omega
      · obtain rfl : k = n := by omega
        have L1 : Hid (l1.length = k) := hide (by rw [P1.out.length_eq, its_len])
        have L2 : Hid (l2.length = k) := hide (by rw [P2.out.length_eq, rot_len])
        have A1 := hide (s2_all SR.out (by rw [L1.out]; omega))
        rw [L1.out] at A1
        go_wp2_with fail
        refine A1.out.mono ?_
        rintro e w4 ⟨r1, x, rfl, X1, X2, X3, X4, SA, X5⟩
        have A2 := hide (s2_all SA.out.rot (by rw [L2.out]; omega))
        rw [L2.out] at A2
        go_wp2_with fail
        refine A2.out.mono ?_
        rintro e w5 ⟨r2, y, rfl, Y1, Y2, Y3, Y4, SB, Y5⟩
        have E := all_same htn P1.out P2.out X2.out Y2.out X3.out Y3.out
        subst E
        have X4' := hide (row_keep Y5.out X4.out)
        clear X4 Y2 X2 X3 Y3 SA A1 A2 X5 SR Y1
        go_wp2_with fail
        go_loopw [13] (fun s wr => ∃ j : Nat, j ≤ k ∧ s = .int .i64 j ∧ Hid (Below w5.heap.size w5 wr)) (fun s _ => k - (intOf s).toNat)
        case atStart => exact ⟨0, by omega, rfl, hide (Below.refl _ _)⟩
        case round =>
          obtain ⟨j, hj, rfl, RB⟩ := hrel
          by_cases hjk : j < k
          · obtain ⟨u0, u1⟩ := row_item (row_keep RB.out X4'.out) j (by rw [X1.out]; exact hjk)
            obtain ⟨y0, y1⟩ := row_item (row_keep RB.out Y4.out) j (by rw [X1.out]; exact hjk)
            generalize (at' x j).1 = z1 at *
            generalize (at' x j).2 = z2 at *
            have hj1 : (j : Int) < (k : Int) := by omega
            have j0 : (0 : Int) ≤ (j : Int) := by omega
            go_wp2
            go_quiet (fail)
            go_wp2
            go_roundw
            case rel => exact ⟨j + 1, by omega, by go_num, hide (below_drewN RB.out _)⟩
            case measure => simp [intOf]; omega
          · obtain rfl : j = k := by omega
            have LN := hide (len_any (SB.out.rot.more RB.out).a1)
            rw [L1.out] at LN
            go_wp2_with fail
            refine LN.out.mono ?_
            rintro e w6 ⟨rfl, rfl⟩
            go_wp2_with fail
            go_ret
            exact ⟨rfl, (SB.out.rot.more RB.out).below⟩
end Go.Proofs.Ytocgeplpehioeaa.Con
