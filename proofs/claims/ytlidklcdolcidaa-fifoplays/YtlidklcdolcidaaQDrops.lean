/- FifoDrops' walk. -/
import Derived.Test.YtlidklcdolcidaaQRel
namespace Go.Proofs.Ytlidklcdolcidaa.Con
open Go.RowKit
set_option linter.unusedVariables false
set_option linter.unusedSimpArgs false
attribute [local go_sem ↓] Go.wp_at_zero Go.wp_at_succ
/-- A fifo and a row of the law's own, apart. -/
structure DR (W wr : World) (fb m : Nat) (v : Value) (xs : List Int) (u : Value) (ys : List Int) : Prop where
  fi : Fi wr W.heap.size fb m v xs
  row : IRow W.heap.size wr u ys
  below : Below W.heap.size W wr
  ap : ∀ k, u.ownBlock = some k → v.ownBlock ≠ some k
section
variable {W wr w' : World} {fb m : Nat} {v u : Value} {xs ys : List Int}
theorem DR.ne (h : DR W wr fb m v xs u ys) : u.ownBlock ≠ some fb := by
  intro e
  obtain ⟨cur, hc⟩ := h.row.blk e
  have := h.fi.str.symm.trans hc
  simp at this
/-- The fifo turns. -/
theorem DR.turn (h : DR W wr fb m v xs u ys) {zs : List Int} (hO : OutPost wr W.heap.size fb m v zs w') : ∃ v', DR W w' fb m v' zs u ys := by
  obtain ⟨v', h1, h2⟩ := hO
  refine ⟨v', h1, h.row.kept (fun k hk => h2.block k (h.row.lt k hk) (fun e => h.ne (e ▸ hk)) (h.ap k hk)), h.below.trans (h2.toBelow h.fi), fun k hk e => ?_⟩
  rcases h2.own k e with e' | e'
  · exact h.ap k hk e'
  · have := h.row.lt k hk; omega
theorem DR.bel (h : DR W wr fb m v xs u ys) (hB : Below wr.heap.size wr w') : DR W w' fb m v xs u ys :=
  ⟨h.fi.below hB, h.row.kept (fun k hk => hB.block k (h.row.lt k hk)), h.below.trans (hB.mono h.below.size), h.ap⟩
/-- The row grows. -/
theorem DR.app (h : DR W wr fb m v xs u ys) {u' : Value} {zs : List Int} (hr : IRow W.heap.size w' u' zs) (hg : wr.grownBy w' u.ownBlock) (ho : u'.ownBlock = u.ownBlock ∨ u'.ownBlock = some (wr.heap.size + 1)) : DR W w' fb m v xs u' zs := by
  refine ⟨h.fi.kept (hg.block _ h.fi.lt (fun e => h.ne e.symm)) (fun k hk => hg.block k (h.fi.row.lt k hk) (fun e => h.ap k e.symm hk)), hr, below_grown h.below h.below.size hg h.row.past, fun k hk e => ?_⟩
  rcases ho with q | q
  · exact h.ap k (q ▸ hk) e
  · rw [hk] at q
    have := h.fi.row.lt k e
    simp at q; omega
theorem dr_put (h : DR W wr fb m v xs u ys) (x : Int) (hf : xs.length < m) :
    Calls Try.prog 13 #[.pointer (some ⟨fb, 0, none⟩), .int .i64 x] wr fun e w' => e = .returned (.bool true) ∧ ∃ v', Hid (DR W w' fb m v' (xs ++ [x]) u ys) := by
  refine (put_ok h.fi x hf).mono ?_
  rintro e w' ⟨rfl, hO⟩
  obtain ⟨v', h'⟩ := h.turn hO
  exact ⟨rfl, v', hide h'⟩
theorem dr_drop (h : DR W wr fb m v xs u ys) (x : Int) :
    Calls Try.prog 12 #[.pointer (some ⟨fb, 0, none⟩), .int .i64 x] wr fun e w' => e = .returned (.bool (decide (x ∈ xs))) ∧ ∃ v', Hid (DR W w' fb m v' (xs.erase x) u ys) := by
  refine (drop_any h.fi x).mono ?_
  rintro e w' ⟨rfl, hO⟩
  obtain ⟨v', h'⟩ := h.turn hO
  exact ⟨rfl, v', hide h'⟩
theorem dr_all (h : DR W wr fb m v xs u ys) :
    Calls Try.prog 17 #[.pointer (some ⟨fb, 0, none⟩)] wr fun e w' => ∃ p c, e = .returned (.slice p xs.length c) ∧ Hid (IRow wr.heap.size w' (.slice p xs.length c) xs ∧ DR W w' fb m v xs u ys) := by
  refine (all_any h.fi).mono ?_
  rintro e w' ⟨p, c, rfl, h1, h2⟩
  exact ⟨p, c, rfl, hide ⟨h1, h.bel h2⟩⟩
end
theorem mem_plc (xs : List Int) (x : Int) : decide (x ∈ xs) = decide (0 ≤ plc xs x) := by
  by_cases h : x ∈ xs
  · have : ¬ plc xs x < 0 := fun e => plc_lt.1 e h
    rw [decide_eq_true h, decide_eq_true (by omega)]
  · have := plc_lt.2 h
    rw [decide_eq_false h, decide_eq_false (by omega)]
/-- One more, in the law's own way. -/
def nextAt (xs : List Int) (z x : Int) : Int := plc (xs ++ [z]) x
theorem step_hit {xs : List Int} {z x : Int} (hz : z = x) (hn : plc xs x < 0) : plc (xs ++ [z]) x = (xs.length : Int) ∧ (xs ++ [z]).erase x = xs.erase x := by
  have h := plc_lt.1 hn
  rw [plc_snoc, erase_snoc, if_neg h, if_neg h, if_pos hz, if_pos hz, List.erase_of_not_mem h]
  exact ⟨rfl, rfl⟩
theorem step_miss {xs : List Int} {z x : Int} (h : ¬ (z = x ∧ plc xs x < 0)) : plc (xs ++ [z]) x = plc xs x ∧ (xs ++ [z]).erase x = xs.erase x ++ [z] := by
  rw [plc_snoc, erase_snoc]
  by_cases hm : x ∈ xs
  · rw [if_pos hm, if_pos hm]; exact ⟨rfl, rfl⟩
  · have hz : ¬ z = x := fun e => h ⟨e, plc_lt.2 hm⟩
    rw [if_neg hm, if_neg hm, if_neg hz, if_neg hz, List.erase_of_not_mem hm]
    refine ⟨?_, rfl⟩
    unfold plc; rw [if_neg hm]
set_option maxRecDepth 100000 in
set_option maxHeartbeats 1600000 in
theorem drops_walk (p : Option Addr) (c : Nat) (zs : List Int) (x : Int) (W : World) (hl : zs.length ≤ 9223372036854775807)
    (h1 : 0 < zs.length → ∃ b o, p = some ⟨b, o, none⟩ ∧ b < W.heap.size ∧ ∀ j, j < zs.length → W.cell? ⟨b, o + j, none⟩ = some (.int .i64 (zs.getD j 0))) :
    Calls Try.prog 6 #[.slice p zs.length c, .int .i64 x] W fun e w' => e = .returned (.bool true) ∧ Below W.heap.size W w' := by
  have hA := hide (awake_any W)
  by_cases hn : 100 < zs.length
  · have hn' : (100 : Int) < (zs.length : Int) := by omega
    go_enter Try.func6, Try.ntmps6
    go_wp2_with (go_at_call 7; refine hA.out.mono ?_; rintro e w1 ⟨rfl, hB1⟩)
    go_ret
    exact ⟨rfl, hB1⟩
  · have H1 := hide h1
    clear h1
    have hn' : ¬ (100 : Int) < (zs.length : Int) := by omega
    obtain ⟨K, hnn⟩ : ∃ n, zs.length = n := ⟨_, rfl⟩
    have NN := hide hnn
    rw [hnn] at hl hn hn' ⊢
    clear hnn
    have HN := hide (fun W' => new_any 200 W')
    unfold NewPost at HN
    go_enter Try.func6, Try.ntmps6
    go_wp2_with (first
      | (go_at_call 7; refine hA.out.mono ?_; rintro e w0 ⟨rfl, hB0⟩; have HB0 := hide hB0; clear hB0)
      | (go_at_call 8; refine (HN.out _).mono ?_; rintro e w1 ⟨fb, rfl, hT, hB⟩; have J0 := hide (rl_new HB0.out hT hB); clear hT hB))
    rw [show held 200 = 200 by decide] at J0
    have J1 : Hid (∃ v, DR W w1 fb 200 v (zs.take 0) (.slice none 0 0) ((zs.take 0).erase x)) := hide (by
      obtain ⟨v, k1, k2⟩ := J0.out
      exact ⟨v, k1, IRow.nil _ _, k2, fun k hk => by simp [Value.ownBlock] at hk⟩)
    clear HB0 HN hA J0
    go_loopw [6, 7, 8] (fun u a s wr => ∃ k : Nat, k ≤ K ∧ s = .int .i64 k ∧ a = .int .i64 (plc (zs.take k) x) ∧ Hid (∃ v, DR W wr fb 200 v (zs.take k) u ((zs.take k).erase x))) (fun _ _ s _ => K - (intOf s).toNat)
    case atStart => exact ⟨0, by omega, rfl, rfl, J1⟩
    case round =>
      clear J1
      obtain ⟨k, hk, rfl, rfl, HR⟩ := hrel
      by_cases hkn : k < K
      · obtain ⟨v, hR⟩ := HR.out
        have R := hide hR
        clear HR hR
        obtain ⟨pu, cu, hu⟩ := R.out.row.form
        obtain ⟨b, o, rfl, hbl, hcl⟩ := H1.out (by rw [NN.out]; omega)
        have hc0 := hcl k (by rw [NN.out]; exact hkn)
        have FT := hide (take_snoc zs k (by rw [NN.out]; exact hkn))
        have TL : Hid ((zs.take k).length = k) := hide (by rw [List.length_take, NN.out]; omega)
        have EL : Hid (((zs.take k).erase x).length ≤ k) := hide (by have := List.length_erase_le (a := x) (l := zs.take k); rw [TL.out] at this; exact this)
        have PU := hide (dr_put R.out (zs.getD k 0) (by rw [TL.out]; omega))
        rw [← FT.out] at PU
        have SH := hide (fun h1 h2 => step_hit (xs := zs.take k) (z := zs.getD k 0) (x := x) h1 h2)
        have SM := hide (fun h1 => step_miss (xs := zs.take k) (z := zs.getD k 0) (x := x) h1)
        rw [← FT.out, TL.out] at SH
        rw [← FT.out] at SM
        have a0 : wr.cell? ⟨b, o + k, none⟩ = some (.int .i64 (zs.getD k 0)) := by rw [R.out.below.cell (p := ⟨b, o + k, none⟩) hbl]; exact hc0
        generalize zs.getD k 0 = z at *
        have CL : Hid (∀ w' v' xs' u' ys', DR W w' fb 200 v' xs' u' ys' → w'.cell? ⟨b, o + k, none⟩ = some (.int .i64 z)) := hide (fun w' _ _ _ _ h => by rw [h.below.cell (p := ⟨b, o + k, none⟩) hbl]; exact hc0)
        have hk1 : (k : Int) < (K : Int) := by omega
        clear hcl hc0 FT
        generalize hT : zs.take k = T at *
        generalize hT1 : zs.take (k + 1) = T1 at *
        have HT1 := hide hT1
        clear hT hT1
        generalize hE : T.erase x = E at *
        clear hE
        subst hu
        by_cases hz : z = x ∧ plc T x < 0
        · obtain ⟨e1, e2⟩ := SH.out hz.1 hz.2
          obtain ⟨hz1, hz2⟩ := hz
          have E1 := hide e1
          have E2 := hide e2
          clear e1 e2
          subst hz1
          generalize plc T z = A at *
          go_wp2_with (go_at_call 13; refine PU.out.mono ?_; rintro e w2 ⟨rfl, v2, R2⟩; have a1 := CL.out _ _ _ _ _ R2.out)
          go_roundw
          case rel => exact ⟨k + 1, by omega, by go_num, by rw [HT1.out, E1.out], hide ⟨v2, by rw [HT1.out, E2.out]; exact R2.out⟩⟩
          case measure => simp [intOf]; omega
        · obtain ⟨e1, e2⟩ := SM.out hz
          have E1 := hide e1
          have E2 := hide e2
          clear e1 e2
          have hB0 := R.out.below.size
          by_cases hz1 : z = x
          · have hz2 : ¬ plc T x < 0 := fun e => hz ⟨hz1, e⟩
            clear hz
            subst hz1
            generalize hA : plc T z = A at *
            have HA0 := hide hA
            clear hA
            go_wp2_with (first
              | (go_at_call 13; refine PU.out.mono ?_; rintro e w2 ⟨rfl, v2, R2⟩; have a1 := CL.out _ _ _ _ _ R2.out)
              | (at_builtin; refine wpList_iapp (w := w2) rfl _ _ rfl W.heap.size z _ E rfl rfl (by exact R2.out.row) (by exact R2.out.below.size) (by have := EL.out; omega) ?_; intro p3 c3 w3 HA))
            have R3 := hide (R2.out.app HA.out.1 HA.out.2.1 HA.out.2.2)
            go_roundw
            case rel => exact ⟨k + 1, by omega, by go_num, by rw [HT1.out, E1.out], hide ⟨v2, by rw [HT1.out, E2.out]; exact R3.out⟩⟩
            case measure => simp [intOf]; omega
          · clear hz
            generalize hA : plc T x = A at *
            have HA0 := hide hA
            clear hA
            go_wp2_with (first
              | (go_at_call 13; refine PU.out.mono ?_; rintro e w2 ⟨rfl, v2, R2⟩; have a1 := CL.out _ _ _ _ _ R2.out)
              | (at_builtin; refine wpList_iapp (w := w2) rfl _ _ rfl W.heap.size z _ E rfl rfl (by exact R2.out.row) (by exact R2.out.below.size) (by have := EL.out; omega) ?_; intro p3 c3 w3 HA))
            have R3 := hide (R2.out.app HA.out.1 HA.out.2.1 HA.out.2.2)
            go_roundw
            case rel => exact ⟨k + 1, by omega, by go_num, by rw [HT1.out, E1.out], hide ⟨v2, by rw [HT1.out, E2.out]; exact R3.out⟩⟩
            case measure => simp [intOf]; omega
      · obtain rfl : k = K := by omega
        obtain ⟨v, hR⟩ := HR.out
        have TZ := hide (List.take_of_length_le (l := zs) (i := k) (by rw [NN.out]; omega))
        rw [TZ.out] at hR ⊢
        have R := hide hR
        clear HR hR TZ
        obtain ⟨pu, cu, hu⟩ := R.out.row.form
        subst hu
        have EL : Hid ((zs.erase x).length ≤ 100) := hide (by have := List.length_erase_le (a := x) (l := zs); rw [NN.out] at this; omega)
        have PL := hide (place_plc R.out.fi x)
        have DP := hide (dr_drop R.out x)
        have MP := hide (mem_plc zs x)
        rw [MP.out] at DP
        generalize plc zs x = A at *
        generalize zs.erase x = E at *
        go_wp2_with (first
          | (go_at_call 15; refine PL.out.mono ?_; rintro e w2 ⟨rfl, hw⟩; have hw2 := hw.symm; clear hw; subst hw2)
          | (go_at_call 12; refine DP.out.mono ?_; rintro e w3 ⟨rfl, v3, R3⟩)
          | (go_at_call 17; refine (dr_all R3.out).mono ?_; rintro e w4 ⟨p4, c4, rfl, R4⟩)
          | (go_at_call 16; refine (ints_same (xs := E) (n := E.length) R4.out.1.rd R4.out.2.row.rd (by have := EL.out; omega)).mono ?_; rintro e w5 ⟨rfl, hB5⟩; have B5 := hide hB5; clear hB5))
        go_ret
        exact ⟨rfl, R4.out.2.below.trans (B5.out.mono R4.out.2.below.size)⟩
end Go.Proofs.Ytlidklcdolcidaa.Con
