/- IdsOnce's walk. -/
import Derived.Test.YtmegbbgolmejnaaIOnceR
import Derived.Test.YtmegbbgolmejnaaOrdT
namespace Go.Proofs.Ytmegbbgolmejnaa.Con
open Go.RowKit
set_option linter.unusedVariables false
set_option linter.unusedSimpArgs false
attribute [local go_sem ↓] Go.wp_at_zero Go.wp_at_succ
theorem NRow.at {B : Nat} {w : World} {xs : List Nat} {p : Option Addr} {c : Nat} (h : NRow B w (.slice p xs.length c) xs) (k : Nat) (hk : k < xs.length) : ∃ g, p = some ⟨g, 0, none⟩ ∧ w.cell? ⟨g, k, none⟩ = some (.int .u32 ((xs.getD k 0 : Nat) : Int)) := by
  obtain ⟨_, q, cap, e, _, _, h4⟩ := RdC.own h
  obtain ⟨b, o, hq, _, hc⟩ := h4 (by omega)
  rcases h.2 with ⟨h0, h1⟩ | ⟨g, cap, cur, e1, _⟩
  · omega
  · simp at e e1
    refine ⟨g, e1.1, ?_⟩
    have hbo : b = g ∧ o = 0 := by
      have := e.1.symm.trans e1.1
      rw [hq] at this
      simpa using this
    have := hc k (.int .u32 ((xs.getD k 0 : Nat) : Int)) (by unfold namesV; rw [List.getElem?_map, List.getElem?_eq_getElem hk, List.getD_eq_getElem?_getD, List.getElem?_eq_getElem hk]; rfl)
    rw [hbo.1, hbo.2, Nat.zero_add] at this
    exact this
set_option maxRecDepth 100000 in
set_option maxHeartbeats 4000000 in
theorem once_walk (most : Int) (q : Option Addr) (d : Nat) (zs : List Int) (W : World) (hl : zs.length ≤ 9223372036854775807) (hwf : ∀ z ∈ zs, (Lit.int .i64 z).wf = true)
    (h1 : 0 < zs.length → ∃ b o, q = some ⟨b, o, none⟩ ∧ b < W.heap.size ∧ ∀ j, j < zs.length → W.cell? ⟨b, o + j, none⟩ = some (.int .i64 (zs.getD j 0))) :
    Calls Try.prog 6 #[.int .i64 most, .slice q zs.length d] W fun e w' => e = .returned (.bool true) ∧ Below W.heap.size W w' := by
  have hA := hide (awake_any W)
  by_cases hn : 100 < zs.length
  · have hn' : (100 : Int) < (zs.length : Int) := by omega
    go_enter Try.func6, Try.ntmps6
    go_wp2_with (go_at_call 7; refine hA.out.mono ?_; rintro e w1 ⟨rfl, hB1⟩)
    go_ret
    exact ⟨rfl, hB1⟩
  · have H1 := hide h1
    clear h1 hwf
    have hn' : ¬ (100 : Int) < (zs.length : Int) := by omega
    obtain ⟨m, hnn⟩ : ∃ m, zs.length = m := ⟨_, rfl⟩
    have NN := hide hnn
    rw [hnn] at hl hn hn' ⊢
    clear hnn
    have HN := hide (fun W' => new_any most W')
    unfold NewPost at HN
    have hmm := fun W => run_makeMap (P := Try.prog) 51 W
    go_enter Try.func6, Try.ntmps6
    go_wp2_with (first
      | (go_at_call 7; refine hA.out.mono ?_; rintro e w0 ⟨rfl, hB1⟩; have HB1 := hide hB1; clear hB1)
      | (go_at_call 8; refine (HN.out _).mono ?_; rintro e w1 ⟨tb, rb, rfl, hT, hB, p1, p2⟩; have HT := hide hT; have HB := hide hB; clear hT hB))
    have ST := hide (or_start HB1.out HT.out HB.out p1 p2)
    generalize held most = n at *
    generalize hW3 : w1.alloc (Obj.map #[] 0) = W3 at *
    generalize w1.heap.size = mb at *
    clear hmm HB1 HT HB p1 p2 HN hA hW3
    go_loopw [7, 8] (fun v s wr => ∃ j : Nat, j ≤ m ∧ s = .int .i64 j ∧ ∃ l xs f, Hid (OR W wr tb rb n mb j l v xs xs f)) (fun _ s _ => m - (intOf s).toNat)
    case atStart => exact ⟨0, by omega, rfl, _, _, _, ST⟩
    case round =>
      obtain ⟨j, hj, rfl, l, xs, f, HR⟩ := hrel
      obtain ⟨p, c, hv⟩ := HR.out.row.form
      subst hv
      have hlen := HR.out.len
      by_cases hjn : j < m
      · have hj1 : (j : Int) < (m : Int) := by omega
        obtain ⟨b, o, rfl, hbl, hcl⟩ := H1.out (by rw [NN.out]; omega)
        have CL : Hid (∀ w', Below W.heap.size W w' → w'.cell? ⟨b, o + j, none⟩ = some (.int .i64 (zs.getD j 0))) := hide (fun w' hB => by
          rw [hB.cell (p := ⟨b, o + j, none⟩) hbl]
          exact hcl j (by rw [NN.out]; exact hjn))
        have c1 := CL.out _ HR.out.below
        clear hcl
        generalize zs.getD j 0 = z at *
        by_cases hz : 0 ≤ z ∧ z < (xs.length : Int)
        · obtain ⟨z0, z1⟩ := hz
          obtain ⟨k, rfl⟩ := Int.eq_ofNat_of_zero_le z0
          have hk : k < xs.length := by omega
          obtain ⟨g, rfl, hc⟩ := HR.out.row.at k hk
          have GV := hide (or_give HR.out (by omega) k hk)
          generalize xs.getD k 0 = x at hc GV
          go_wp2_with (go_at_call 11; refine GV.out.mono ?_; rintro e w2 ⟨rfl, l2, R2⟩)
          clear GV HR hc
          generalize hP : (some ⟨g, 0, none⟩ : Option Addr) = P at *
          clear hP
          obtain ⟨i0, hi, hz0, hz1', hz2⟩ := info_parts infoNm
          have hwk : IntKind.i64.wrap ((k : Int) + 1) = (k : Int) + 1 := by rw [IntKind.wrap_i64]; omega
          have hrd := RdC.own R2.out.row
          obtain ⟨p1, c1', hs1, r1⟩ := hrd.upto 35 26 i0 Try.underlying35 hi hz1' k (by omega)
          obtain ⟨p2, c2', hs2, r2⟩ := hrd.from 35 26 i0 Try.underlying35 hi hz1' (k + 1) (by omega)
          rw [show ((k + 1 : Nat) : Int) = (k : Int) + 1 by omega] at hs2
          have R1 := hide r1
          have R3 := hide r2
          obtain ⟨M, hM⟩ : ∃ M, xs.length - (k + 1) = M := ⟨_, rfl⟩
          obtain ⟨N, hN⟩ : ∃ N, k + M = N := ⟨_, rfl⟩
          rw [hM] at hs2 R3
          obtain ⟨TK, hTK⟩ : ∃ TK, List.take (k * 1) (namesV xs) = TK := ⟨_, rfl⟩
          obtain ⟨DK, hDK⟩ : ∃ DK, List.drop ((k + 1) * 1) (namesV xs) = DK := ⟨_, rfl⟩
          obtain ⟨TK2, hTE⟩ : ∃ TK2, TK ++ DK = TK2 := ⟨_, rfl⟩
          have on : ∀ u ∈ namesV xs, u.oneCell' = true := by
            intro u hu
            unfold namesV at hu
            obtain ⟨y, _, rfl⟩ := List.mem_map.1 hu
            rfl
          have ON1 : Hid (∀ u ∈ TK, u.oneCell' = true) := hide (fun u hu => on u (List.mem_of_mem_take (by rw [hTK]; exact hu)))
          have ON2 : Hid (∀ u ∈ DK, u.oneCell' = true) := hide (fun u hu => on u (List.mem_of_mem_drop (by rw [hDK]; exact hu)))
          have SZ1 : Hid (k ≤ maxLen ∧ k * 4 ≤ 140737488355328) := hide ⟨by unfold maxLen; omega, by omega⟩
          have SZ2 : Hid (N ≤ maxLen ∧ N * 4 ≤ 140737488355328) := hide ⟨by unfold maxLen; omega, by omega⟩
          have KM := hide hN
          have TE2 := hide hTE
          have KS : Hid (∀ w', Below w2.heap.size w2 w' → w'.cell? ⟨b, o + j, none⟩ = some (.int .i64 (k : Int))) := hide (fun w' hB => CL.out w' (R2.out.below.trans (hB.mono R2.out.below.size)))
          have FIN : Hid (∀ (v' : Value) w', Below w2.heap.size w2 w' → w'.ownsRow w2.heap.size 26 1 v' N TK2 → ∃ l f ys, Hid (OR W w' tb rb n mb (j + 1) l v' ys ys f)) := hide (by
            intro v' w' hB ho
            refine ⟨_, _, _, hide ((R2.out.bel hB).newrow (NRow.mono (B := w2.heap.size) ?_ R2.out.below.size))⟩
            unfold NRow
            have e1 : (xs.take k ++ xs.drop (k + 1)).length = N := by rw [List.length_append, List.length_take, List.length_drop]; omega
            have e2 : namesV (xs.take k ++ xs.drop (k + 1)) = TK2 := by rw [← hTE, ← hTK, ← hDK, Nat.mul_one, Nat.mul_one]; simp [namesV, List.map_take, List.map_drop]
            rw [e1, e2]; exact ho)
          rw [hTK] at R1
          rw [hDK] at R3
          clear r1 r2 hM hN hTK hDK hTE on hrd
          refine wp_region_noPanic ?_
          refine OrdT.region_T (S := fun w' => w'.cell? ⟨b, o + j, none⟩ = some (.int .i64 (k : Int))) 16 (by kernel_rfl) ?_ (fun hHeld => ?_)
          · exact KS.out _ (bel_drew (Below.refl _ _))
          refine OrdT.AnyT.take (i := 1) (v := ?_) (some 50) (by rfl) (by rfl) (by kernel_rfl) (by kernel_rfl) (by kernel_rfl) (by kernel_rfl) (fun _ _ _ h => h) (Or.inl ⟨by rfl, ?_⟩) (by assumption) ?_
          rotate_left
          · intro w hSw; (try dsimp only at hSw); first | (go_simp; done) | (go_simp; with_reducible rfl)
          (try simp only [Act.put, List.setIfInBounds_toArray, List.set_cons_zero, List.set_cons_succ])
          refine OrdT.AnyT.take (i := 2) (v := ?_) (some 51) (by rfl) (by rfl) (by kernel_rfl) (by kernel_rfl) (by kernel_rfl) (by kernel_rfl) (fun _ _ _ h => h) (Or.inl ⟨by rfl, ?_⟩) (by assumption) ?_
          rotate_left
          · intro w hSw; (try dsimp only at hSw); first | (go_simp; done) | (go_simp; with_reducible rfl)
          (try simp only [Act.put, List.setIfInBounds_toArray, List.set_cons_zero, List.set_cons_succ])
          refine OrdT.AnyT.take (i := 3) (v := ?_) (some 52) (by rfl) (by rfl) (by kernel_rfl) (by kernel_rfl) (by kernel_rfl) (by kernel_rfl) (fun _ _ _ h => h) (Or.inl ⟨by rfl, ?_⟩) (by assumption) ?_
          rotate_left
          · intro w hSw; (try dsimp only at hSw); first | (go_simp; done) | (go_simp; with_reducible rfl)
          (try simp only [Act.put, List.setIfInBounds_toArray, List.set_cons_zero, List.set_cons_succ])
          refine OrdT.AnyT.take (i := 4) (v := ?_) (some 53) (by rfl) (by rfl) (by kernel_rfl) (by kernel_rfl) (by kernel_rfl) (by kernel_rfl) (fun _ _ _ h => h) (Or.inl ⟨by rfl, ?_⟩) (by assumption) ?_
          rotate_left
          · intro w hSw; (try dsimp only at hSw); first | (go_simp; done) | (go_simp; with_reducible rfl)
          (try simp only [Act.put, List.setIfInBounds_toArray, List.set_cons_zero, List.set_cons_succ])
          refine OrdT.AnyT.take (i := 5) (v := ?_) (some 54) (by rfl) (by rfl) (by kernel_rfl) (by kernel_rfl) (by kernel_rfl) (by kernel_rfl) (fun _ _ _ h => h) (Or.inl ⟨by rfl, ?_⟩) (by assumption) ?_
          rotate_left
          · intro w hSw; (try dsimp only at hSw); first | (go_simp; done) | (go_simp; with_reducible rfl)
          (try simp only [Act.put, List.setIfInBounds_toArray, List.set_cons_zero, List.set_cons_succ])
          refine OrdT.AnyT.take (i := 6) (v := ?_) (some 55) (by rfl) (by rfl) (by kernel_rfl) (by kernel_rfl) (by kernel_rfl) (by kernel_rfl) (fun _ _ _ h => h) (Or.inl ⟨by rfl, ?_⟩) (by assumption) ?_
          rotate_left
          · intro w hSw; (try dsimp only at hSw); first | (go_simp; done) | (go_simp; with_reducible rfl)
          (try simp only [Act.put, List.setIfInBounds_toArray, List.set_cons_zero, List.set_cons_succ])
          refine OrdT.AnyT.take (i := 8) (v := ?_) (some 57) (by rfl) (by rfl) (by kernel_rfl) (by kernel_rfl) (by kernel_rfl) (by kernel_rfl) (fun _ _ _ h => h) (Or.inl ⟨by rfl, ?_⟩) (by assumption) ?_
          rotate_left
          · intro w hSw; (try dsimp only at hSw); first | (go_simp; done) | (go_simp; with_reducible rfl)
          (try simp only [Act.put, List.setIfInBounds_toArray, List.set_cons_zero, List.set_cons_succ])
          refine OrdT.AnyT.take (i := 9) (v := ?_) (some 58) (by rfl) (by rfl) (by kernel_rfl) (by kernel_rfl) (by kernel_rfl) (by kernel_rfl) (fun _ _ _ h => h) (Or.inl ⟨by rfl, ?_⟩) (by assumption) ?_
          rotate_left
          · intro w hSw; (try dsimp only at hSw); first | (go_simp; done) | (go_simp; with_reducible rfl)
          (try simp only [Act.put, List.setIfInBounds_toArray, List.set_cons_zero, List.set_cons_succ])
          refine OrdT.AnyT.take (i := 10) (v := ?_) (some 59) (by rfl) (by rfl) (by kernel_rfl) (by kernel_rfl) (by kernel_rfl) (by kernel_rfl) (fun _ _ _ h => h) (Or.inl ⟨by rfl, ?_⟩) (by assumption) ?_
          rotate_left
          · intro w hSw; (try dsimp only at hSw); first | (go_simp; done) | (go_simp; with_reducible rfl)
          (try simp only [Act.put, List.setIfInBounds_toArray, List.set_cons_zero, List.set_cons_succ])
          refine OrdT.AnyT.take (i := 11) (v := ?_) (some 60) (by rfl) (by rfl) (by kernel_rfl) (by kernel_rfl) (by kernel_rfl) (by kernel_rfl) (fun _ _ _ h => h) (Or.inl ⟨by rfl, ?_⟩) (by assumption) ?_
          rotate_left
          · intro w hSw; (try dsimp only at hSw); first | (go_simp; done) | (go_simp; with_reducible rfl)
          (try simp only [Act.put, List.setIfInBounds_toArray, List.set_cons_zero, List.set_cons_succ])
          refine OrdT.AnyT.take (i := 12) (v := ?_) (some 61) (by rfl) (by rfl) (by kernel_rfl) (by kernel_rfl) (by kernel_rfl) (by kernel_rfl) (fun _ _ _ h => h) (Or.inl ⟨by rfl, ?_⟩) (by assumption) ?_
          rotate_left
          · intro w hSw; (try dsimp only at hSw); first | (go_simp; done) | (go_simp; with_reducible rfl)
          (try simp only [Act.put, List.setIfInBounds_toArray, List.set_cons_zero, List.set_cons_succ])
          refine OrdT.AnyT.take (i := 13) (v := ?_) (some 62) (by rfl) (by rfl) (by kernel_rfl) (by kernel_rfl) (by kernel_rfl) (by kernel_rfl) (fun _ _ _ h => h) (Or.inl ⟨by rfl, ?_⟩) (by assumption) ?_
          rotate_left
          · intro w hSw; (try dsimp only at hSw); first | (go_simp; done) | (go_simp; with_reducible rfl)
          (try simp only [Act.put, List.setIfInBounds_toArray, List.set_cons_zero, List.set_cons_succ])
          refine OrdT.AnyT.take (i := 14) (v := ?_) (some 63) (by rfl) (by rfl) (by kernel_rfl) (by kernel_rfl) (by kernel_rfl) (by kernel_rfl) (fun _ _ _ h => h) (Or.inl ⟨by rfl, ?_⟩) (by assumption) ?_
          rotate_left
          · intro w hSw; (try dsimp only at hSw); first | (go_simp; done) | (go_simp; with_reducible rfl)
          (try simp only [Act.put, List.setIfInBounds_toArray, List.set_cons_zero, List.set_cons_succ])
          clear hHeld
          refine OrdT.AnyT.one (i := 0) (by kernel_rfl) (by rfl) (fun K hK => ?_)
          go_simp
          refine hK.out _ _ (fun _ => KS.out _ (by repeat (first | exact Below.refl _ _ | exact HB2 | exact HB1 | refine bel_drew ?_ | refine bel_alloc ?_ (Nat.le_refl _) _))) ?_
          clear hK K
          (try simp only [Act.put, List.setIfInBounds_toArray, List.set_cons_zero, List.set_cons_succ])
          refine OrdT.AnyT.one (i := 7) (by kernel_rfl) (by rfl) (fun K hK => ?_)
          refine step_append_rd (some 56) (by rfl) (by rfl) _ _ 35 (by rfl) w2.heap.size 26 i0 (.int .u32 0) 1 4 Try.underlying35 hi hz0 hz1' hz2 rfl (by decide) (.slice (some ⟨w2.heap.size, 0, none⟩) 0 0) 0 [] (by rfl) (by exact own_empty (by exact heap_alloc_at _ _ _ (by simp)) (Nat.le_refl _)) _ (.slice p1 k c1') k TK (by rfl) (by exact (R1.out.below (by repeat (first | exact Below.refl _ _ | exact HB2 | exact HB1 | refine bel_drew ?_ | refine bel_alloc ?_ (Nat.le_refl _) _)))) (by exact ON1.out) k (by exact Nat.zero_add k) TK (by exact List.nil_append TK) (by exact SZ1.out.1) (by exact SZ1.out.2) (by exact bel_le (W := w2) (Nat.le_refl _) (by repeat (first | exact Below.refl _ _ | exact HB2 | exact HB1 | refine bel_drew ?_ | refine bel_alloc ?_ (Nat.le_refl _) _))) ?_
          intro qq1 dd1 ww1 ho1 hg1 ha1 hp1
          have HB1 : Below w2.heap.size w2 ww1 := below_grown (by repeat (first | exact Below.refl _ _ | exact HB2 | exact HB1 | refine bel_drew ?_ | refine bel_alloc ?_ (Nat.le_refl _) _)) (by exact bel_le (W := w2) (Nat.le_refl _) (by repeat (first | exact Below.refl _ _ | exact HB2 | exact HB1 | refine bel_drew ?_ | refine bel_alloc ?_ (Nat.le_refl _) _))) hg1 hp1
          clear ha1 hp1
          refine hK.out _ _ (fun _ => KS.out _ HB1) ?_
          clear hK K
          (try simp only [Act.put, List.setIfInBounds_toArray, List.set_cons_zero, List.set_cons_succ])
          refine OrdT.AnyT.one (i := 15) (by kernel_rfl) (by rfl) (fun K hK => ?_)
          refine step_append_rd (some 64) (by rfl) (by rfl) _ _ 35 (by rfl) w2.heap.size 26 i0 (.int .u32 0) 1 4 Try.underlying35 hi hz0 hz1' hz2 rfl (by decide) (.slice qq1 k dd1) k TK (by rfl) (by exact ho1) _ (.slice p2 M c2') M DK (by rfl) (by exact (R3.out.below (by repeat (first | exact Below.refl _ _ | exact HB2 | exact HB1 | refine bel_drew ?_ | refine bel_alloc ?_ (Nat.le_refl _) _)))) (by exact ON2.out) N (by exact KM.out) TK2 (by exact TE2.out) (by exact SZ2.out.1) (by exact SZ2.out.2) (by exact bel_le (W := w2) (Nat.le_refl _) (by repeat (first | exact Below.refl _ _ | exact HB2 | exact HB1 | refine bel_drew ?_ | refine bel_alloc ?_ (Nat.le_refl _) _))) ?_
          intro qq2 dd2 ww2 ho2 hg2 ha2 hp2
          have HB2 : Below w2.heap.size w2 ww2 := below_grown (by repeat (first | exact Below.refl _ _ | exact HB2 | exact HB1 | refine bel_drew ?_ | refine bel_alloc ?_ (Nat.le_refl _) _)) (by exact bel_le (W := w2) (Nat.le_refl _) (by repeat (first | exact Below.refl _ _ | exact HB2 | exact HB1 | refine bel_drew ?_ | refine bel_alloc ?_ (Nat.le_refl _) _))) hg2 hp2
          clear ha2 hp2
          refine hK.out _ _ (fun _ => KS.out _ HB2) ?_
          clear hK K
          (try simp only [Act.put, List.setIfInBounds_toArray, List.set_cons_zero, List.set_cons_succ])
          refine OrdT.AnyT.one (i := 16) (by kernel_rfl) (by rfl) (fun K hK => ?_)
          go_simp
          refine hK.out _ _ (fun h => absurd rfl h) ?_
          clear hK K
          (try simp only [Act.put, List.setIfInBounds_toArray, List.set_cons_zero, List.set_cons_succ])
          refine OrdT.AnyT.done (by kernel_rfl) ?_ _
          refine NoPanic.normal ?_
          go_wp2
          go_roundw
          case rel =>
            obtain ⟨l3, f3, ys3, R4⟩ := FIN.out _ _ HB2 ho2
            exact ⟨j + 1, by omega, by go_num, _, _, _, R4⟩
          case measure => simp [intOf]; omega
        · by_cases hz0 : 0 ≤ z
          · have hz1 : ¬ z < (xs.length : Int) := by omega
            clear hz
            rcases free_full l with ⟨p, hp⟩ | hf
            · have TK := hide (or_take HR.out (by omega) p hp)
              go_wp2_with (first
                | (go_at_call 9; refine TK.out.mono ?_; rintro e w2 ⟨N, rfl, hlk, TO⟩; unfold Took at TO)
                | (go_at_call 10; refine TO.out.mono ?_; rintro e w3 ⟨rfl, w4, l', f', hrun, R4⟩)
                | (at_builtin; refine wpList_napp rfl _ _ rfl W.heap.size N _ xs rfl rfl (by exact R4.out.row) (by exact R4.out.below.size) (by omega) ?_; intro v5 w5 HA))
              have R5 := hide (R4.out.app HA.out.1 HA.out.2.1)
              go_roundw
              case rel => exact ⟨j + 1, by omega, by go_num, _, _, _, R5⟩
              case measure => simp [intOf]; omega
            · have TF := hide (take_full HR.out.tab hf)
              go_wp2_with (go_at_call 9; refine TF.out.mono ?_; rintro e w' ⟨rfl, hw⟩; have hw2 := hw.symm; clear hw; subst hw2)
              go_roundw
              case rel => exact ⟨j + 1, by omega, by go_num, _, _, _, hide HR.out.next⟩
              case measure => simp [intOf]; omega
          · have hz0' : ¬ 0 ≤ z := hz0
            clear hz
            rcases free_full l with ⟨p, hp⟩ | hf
            · have TK := hide (or_take HR.out (by omega) p hp)
              go_wp2_with (first
                | (go_at_call 9; refine TK.out.mono ?_; rintro e w2 ⟨N, rfl, hlk, TO⟩; unfold Took at TO)
                | (go_at_call 10; refine TO.out.mono ?_; rintro e w3 ⟨rfl, w4, l', f', hrun, R4⟩)
                | (at_builtin; refine wpList_napp rfl _ _ rfl W.heap.size N _ xs rfl rfl (by exact R4.out.row) (by exact R4.out.below.size) (by omega) ?_; intro v5 w5 HA))
              have R5 := hide (R4.out.app HA.out.1 HA.out.2.1)
              go_roundw
              case rel => exact ⟨j + 1, by omega, by go_num, _, _, _, R5⟩
              case measure => simp [intOf]; omega
            · have TF := hide (take_full HR.out.tab hf)
              go_wp2_with (go_at_call 9; refine TF.out.mono ?_; rintro e w' ⟨rfl, hw⟩; have hw2 := hw.symm; clear hw; subst hw2)
              go_roundw
              case rel => exact ⟨j + 1, by omega, by go_num, _, _, _, hide HR.out.next⟩
              case measure => simp [intOf]; omega
      · obtain rfl : j = m := by omega
        have LI := hide (list_any HR.out.tab)
        have PL := hide HR.out.perm.length_eq
        have SB := hide HR.out.below
        clear HR
        go_wp2_with fail
        refine LI.out.mono ?_
        rintro e w2 ⟨v2, rfl, hN, hB⟩
        obtain ⟨p2, c2, hv⟩ := hN.form
        rw [← PL.out] at hv
        subst hv
        have FIN := hide (SB.out.trans (hB.mono SB.out.size))
        clear hN hB
        go_wp2
        go_ret
        exact ⟨rfl, FIN.out⟩
end Go.Proofs.Ytmegbbgolmejnaa.Con
