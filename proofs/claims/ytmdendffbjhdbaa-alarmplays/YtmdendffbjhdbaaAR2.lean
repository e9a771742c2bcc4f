/- The reference's Cancel. -/
import Derived.Test.YtmdendffbjhdbaaAR1
namespace Go.Proofs.Ytmdendffbjhdbaa.Con
open Go.RowKit Go.Proofs.Ytmdendffbjhdbaa.Hq
set_option linter.unusedVariables false
set_option linter.unusedSimpArgs false
attribute [local go_sem ↓] Go.wp_at_zero Go.wp_at_succ
section
variable {W : World} {rb n : Nat} {now : Int} {v : Value} {L : List Rg}
def hit (L : List Rg) (c id : Int) (j : Nat) : Prop := (atR L j).1 = c ∧ (atR L j).2.1 = id
set_option maxHeartbeats 1600000 in
theorem rcan_none (h : Rl W rb n now v L) (c id : Int) (hno : ∀ j, j < L.length → ¬ hit L c id j) :
    Calls Try.prog 17 #[.pointer (some ⟨rb, 0, none⟩), .int .i64 c, .int .i64 id] W fun e w' => e = .returned (.tuple #[.int .i64 0, .bool false]) ∧ w' = W := by
  obtain ⟨p, cap, rfl, hn, hm⟩ := h.form
  obtain ⟨_, _, c2⟩ := h.cells
  have hl := h.len
  have H := hide h
  have NO := hide hno
  clear h hno
  go_enter Try.func17, Try.ntmps17
  go_wp2
  go_loop [8] (fun s => ∃ k : Nat, k ≤ L.length ∧ s = .int .i64 k) (fun s => L.length - (intOf s).toNat)
  case atStart => exact ⟨0, by omega, rfl⟩
  case round =>
    obtain ⟨k, hk, rfl⟩ := hrel
    by_cases hkn : k < L.length
    · obtain ⟨b, o, rfl, hb, x0, x1, x2⟩ := H.out.item k hkn
      have hk1 : (k : Int) < (L.length : Int) := by omega
      have hz := NO.out k hkn
      unfold hit at hz
      generalize (atR L k).1 = z0 at *
      generalize (atR L k).2.1 = z1 at *
      by_cases h0 : z0 = c
      · have h1 : ¬ z1 = id := fun e => hz ⟨h0, e⟩
        have h2 : (z1 == id) = false := by simp [h1]
        subst h0
        clear hz
        go_wp2
        go_round
        case rel => exact ⟨k + 1, by omega, by go_num⟩
        case measure => simp [intOf]; omega
      · have h2 : (z0 == c) = false := by simp [h0]
        clear hz
        go_wp2
        go_round
        case rel => exact ⟨k + 1, by omega, by go_num⟩
        case measure => simp [intOf]; omega
    · obtain rfl : k = L.length := by omega
      go_wp2
      go_ret2
      exact ⟨rfl, rfl⟩
def RCanP (W : World) (rb n : Nat) (now : Int) (L : List Rg) (K : Nat) (e : Ending) (w' : World) : Prop :=
  e = .returned (.tuple #[.int .i64 (atR L K).2.2, .bool true]) ∧ ∃ v', Rl w' rb n now v' (cutAt L K) ∧ RT W w' rb
set_option maxRecDepth 100000 in
set_option maxHeartbeats 4000000 in
theorem rcan_some (h : Rl W rb n now v L) (c id : Int) (K : Nat) (hK : K < L.length) (hh : hit L c id K) (hno : ∀ j, j < K → ¬ hit L c id j) :
    Calls Try.prog 17 #[.pointer (some ⟨rb, 0, none⟩), .int .i64 c, .int .i64 id] W fun e w' => RCanP W rb n now L K e w' := by
  obtain ⟨p, cap, rfl, hn, hm⟩ := h.form
  obtain ⟨_, _, c2⟩ := h.cells
  have rl := h.lt
  have f2 := h.frozen 2
  have hl := h.len
  have H := hide h
  have NO := hide hno
  have HH := hide hh
  have FINK : Hid (∀ k, k = K → ∀ q N d w3, N + 1 = L.length → Below W.heap.size W w3 → w3.ownsRow W.heap.size 38 3 (.slice q N d) N (ringsV (cutAt L k)) → RCanP W rb n now L K (.returned (.tuple #[.int .i64 (atR L k).2.2, .bool true])) (w3.setCell ⟨rb, 2, none⟩ (.slice q N d))) := hide (fun k e q N d w3 hN hB ho => by
    subst e
    have hlen : (cutAt L k).length = N := by have := (perm_cutR L k hK).length_eq; simp at this; omega
    obtain ⟨f1, f2⟩ := rl_store h hB ho hlen (by omega)
    exact ⟨rfl, _, f1, f2⟩)
  clear hno hh
  go_enter Try.func17, Try.ntmps17
  go_wp2
  go_loop [8] (fun s => ∃ k : Nat, k ≤ K ∧ s = .int .i64 k) (fun s => K - (intOf s).toNat)
  case atStart => exact ⟨0, by omega, rfl⟩
  case round =>
    obtain ⟨k, hk, rfl⟩ := hrel
    obtain ⟨b, o, e0, hb, x0, x1, x2⟩ := H.out.item k (by omega)
    have hk1 : (k : Int) < (L.length : Int) := by omega
    by_cases hkK : k = K
    · have hkl : k < L.length := by omega
      have hh := HH.out
      rw [← hkK] at hh
      unfold hit at hh
      rw [hh.1] at x0
      rw [hh.2] at x1
      have FIN0 := hide (FINK.out k hkK)
      obtain ⟨i0, hi, hz0, hz1', hz2⟩ := info_parts infoRg
      obtain ⟨p1, c1, hs1, r1⟩ := h.row.upto 39 38 i0 Try.underlying39 hi hz1' k (by omega)
      obtain ⟨p2, c2', hs2, r2⟩ := h.row.from 39 38 i0 Try.underlying39 hi hz1' (k + 1) (by omega)
      rw [show ((k + 1 : Nat) : Int) = (k : Int) + 1 by omega] at hs2
      have R1 := hide r1
      have R2 := hide r2
      obtain ⟨m, hm'⟩ : ∃ m, L.length - (k + 1) = m := ⟨_, rfl⟩
      obtain ⟨N, hN⟩ : ∃ N, k + m = N := ⟨_, rfl⟩
      rw [hm'] at hs2 R2
      obtain ⟨TK, hTK⟩ : ∃ TK, List.take (k * 3) (ringsV L) = TK := ⟨_, rfl⟩
      obtain ⟨DK, hDK⟩ : ∃ DK, List.drop ((k + 1) * 3) (ringsV L) = DK := ⟨_, rfl⟩
      obtain ⟨TK2, hTK2⟩ : ∃ TK2, TK ++ DK = TK2 := ⟨_, rfl⟩
      rw [hTK] at R1
      rw [hDK] at R2
      have ON1 : Hid (∀ u ∈ TK, u.oneCell' = true) := hide (by rw [← hTK]; exact fun u hu => one_rings L u (List.mem_of_mem_take hu))
      have ON2 : Hid (∀ u ∈ DK, u.oneCell' = true) := hide (by rw [← hDK]; exact fun u hu => one_rings L u (List.mem_of_mem_drop hu))
      have SZ1 : Hid (k ≤ maxLen ∧ k * 24 ≤ 140737488355328) := hide (by unfold maxLen; omega)
      have SZ2 : Hid (N ≤ maxLen ∧ N * 24 ≤ 140737488355328) := hide (by unfold maxLen; omega)
      have TE2 := hide hTK2
      have KM : Hid (k + m = N) := hide hN
      have KS : Hid (∀ w' : World, Below W.heap.size W w' → w'.cell? ⟨rb, 2, none⟩ = some (.slice p L.length cap) ∧ w'.frozen? ⟨rb, 2, none⟩ = false) := hide (fun w' hB => ⟨(hB.cell (p := ⟨rb, 2, none⟩) rl).trans c2, (hB.frozen (p := ⟨rb, 2, none⟩) rl).trans f2⟩)
      have FL : Hid (TK2 = ringsV (cutAt L k)) := hide (by
        unfold cutAt
        rw [← hTK2, ← hTK, ← hDK, ringsV_take L k (by omega), ringsV_drop L (k + 1) (by omega), ringsV_app])
      have NL : Hid (N + 1 = L.length) := hide (by omega)
      have FIN : Hid (∀ q d w3, Below W.heap.size W w3 → w3.ownsRow W.heap.size 38 3 (.slice q N d) N TK2 → RCanP W rb n now L K (.returned (.tuple #[.int .i64 (atR L k).2.2, .bool true])) (w3.setCell ⟨rb, 2, none⟩ (.slice q N d))) := hide (fun q d w3 hB ho => by
        rw [FL.out] at ho
        exact FIN0.out q N d w3 NL.out hB ho)
      have k1 : (k : Int) ≤ 1024 := by omega
      have k0 : ¬ (k : Int) < 0 := by omega
      have kw : IntKind.i64.wrap ((k : Int) + 1) = (k : Int) + 1 := by rw [IntKind.wrap_i64]; omega
      generalize (atR L k).2.2 = z at *
      subst e0
      clear h r1 r2 hm' hN hTK hDK hTK2 hn hm hl H HH NO FINK FIN0 hkK
      go_wp2
      clear x0 x1 x2
      generalize some (⟨b, o, none⟩ : Addr) = p at *
      as_aux_lemma =>
        refine wp_region_noPanic ?_
        refine OrdT.region_T (S := fun w' => w'.cell? ⟨rb, 2, none⟩ = some (.slice p L.length cap) ∧ w'.frozen? ⟨rb, 2, none⟩ = false) 19 (by kernel_rfl) ?_ (fun hHeld => ?_)
        · exact KS.out _ (bel_drew (Below.refl _ _))
        refine OrdT.AnyT.take (i := 0) (v := ?_) (some 49) (by rfl) (by rfl) (by kernel_rfl) (by kernel_rfl) (by kernel_rfl) (by kernel_rfl) (fun _ _ _ h => h) (Or.inl ⟨by rfl, ?_⟩) (by assumption) ?_
        rotate_left
        · intro w hSw; (try dsimp only at hSw); first | (go_simp; done) | (go_simp; with_reducible rfl)
        (try simp only [Act.put, List.setIfInBounds_toArray, List.set_cons_zero, List.set_cons_succ])
        refine OrdT.AnyT.take (i := 2) (v := ?_) (some 51) (by rfl) (by rfl) (by kernel_rfl) (by kernel_rfl) (by kernel_rfl) (by kernel_rfl) (fun _ _ _ h => h) (Or.inl ⟨by rfl, ?_⟩) (by assumption) ?_
        rotate_left
        · intro w hSw; (try dsimp only at hSw); first | (go_simp; done) | (go_simp; with_reducible rfl)
        (try simp only [Act.put, List.setIfInBounds_toArray, List.set_cons_zero, List.set_cons_succ])
        refine OrdT.AnyT.take (i := 3) (v := ?_) (some 52) (by rfl) (by rfl) (by kernel_rfl) (by kernel_rfl) (by kernel_rfl) (by kernel_rfl) (fun _ _ _ h => h) (Or.inl ⟨by rfl, ?_⟩) (by assumption) ?_
        rotate_left
        · intro w hSw; (try dsimp only at hSw); first | (go_simp; done) | (go_simp; with_reducible rfl)
        (try simp only [Act.put, List.setIfInBounds_toArray, List.set_cons_zero, List.set_cons_succ])
        refine OrdT.AnyT.take (i := 4) (v := ?_) (some 53) (by rfl) (by rfl) (by kernel_rfl) (by kernel_rfl) (by kernel_rfl) (by kernel_rfl) (fun _ _ _ h => h) (Or.inl ⟨by rfl, ?_⟩) (by assumption) ?_
        rotate_left
        · intro w hSw; (try dsimp only at hSw); first | (go_simp; done) | (go_simp; with_reducible rfl)
        (try simp only [Act.put, List.setIfInBounds_toArray, List.set_cons_zero, List.set_cons_succ])
        refine OrdT.AnyT.take (i := 5) (v := ?_) (some 54) (by rfl) (by rfl) (by kernel_rfl) (by kernel_rfl) (by kernel_rfl) (by kernel_rfl) (fun _ _ _ h => h) (Or.inl ⟨by rfl, ?_⟩) (by assumption) ?_
        rotate_left
        · intro w hSw; (try dsimp only at hSw); first | (go_simp; done) | (go_simp; with_reducible rfl)
        (try simp only [Act.put, List.setIfInBounds_toArray, List.set_cons_zero, List.set_cons_succ])
        refine OrdT.AnyT.take (i := 6) (v := ?_) (some 55) (by rfl) (by rfl) (by kernel_rfl) (by kernel_rfl) (by kernel_rfl) (by kernel_rfl) (fun _ _ _ h => h) (Or.inl ⟨by rfl, ?_⟩) (by assumption) ?_
        rotate_left
        · intro w hSw; (try dsimp only at hSw); first | (go_simp; done) | (go_simp; with_reducible rfl)
        (try simp only [Act.put, List.setIfInBounds_toArray, List.set_cons_zero, List.set_cons_succ])
        refine OrdT.AnyT.take (i := 7) (v := ?_) (some 56) (by rfl) (by rfl) (by kernel_rfl) (by kernel_rfl) (by kernel_rfl) (by kernel_rfl) (fun _ _ _ h => h) (Or.inl ⟨by rfl, ?_⟩) (by assumption) ?_
        rotate_left
        · intro w hSw; (try dsimp only at hSw); first | (go_simp; done) | (go_simp; with_reducible rfl)
        (try simp only [Act.put, List.setIfInBounds_toArray, List.set_cons_zero, List.set_cons_succ])
        refine OrdT.AnyT.take (i := 9) (v := ?_) (some 58) (by rfl) (by rfl) (by kernel_rfl) (by kernel_rfl) (by kernel_rfl) (by kernel_rfl) (fun _ _ _ h => h) (Or.inl ⟨by rfl, ?_⟩) (by assumption) ?_
        rotate_left
        · intro w hSw; (try dsimp only at hSw); first | (go_simp; done) | (go_simp; with_reducible rfl)
        (try simp only [Act.put, List.setIfInBounds_toArray, List.set_cons_zero, List.set_cons_succ])
        refine OrdT.AnyT.take (i := 10) (v := ?_) (some 59) (by rfl) (by rfl) (by kernel_rfl) (by kernel_rfl) (by kernel_rfl) (by kernel_rfl) (fun _ _ _ h => h) (Or.inl ⟨by rfl, ?_⟩) (by assumption) ?_
        rotate_left
        · intro w hSw; (try dsimp only at hSw); first | (go_simp; done) | (go_simp; with_reducible rfl)
        (try simp only [Act.put, List.setIfInBounds_toArray, List.set_cons_zero, List.set_cons_succ])
        refine OrdT.AnyT.take (i := 11) (v := ?_) (some 60) (by rfl) (by rfl) (by kernel_rfl) (by kernel_rfl) (by kernel_rfl) (by kernel_rfl) (fun _ _ _ h => h) (Or.inl ⟨by rfl, ?_⟩) (by assumption) ?_
        rotate_left
        · intro w hSw; (try dsimp only at hSw); first | (go_simp; done) | (go_simp; with_reducible rfl)
        (try simp only [Act.put, List.setIfInBounds_toArray, List.set_cons_zero, List.set_cons_succ])
        refine OrdT.AnyT.take (i := 12) (v := ?_) (some 61) (by rfl) (by rfl) (by kernel_rfl) (by kernel_rfl) (by kernel_rfl) (by kernel_rfl) (fun _ _ _ h => h) (Or.inl ⟨by rfl, ?_⟩) (by assumption) ?_
        rotate_left
        · intro w hSw; (try dsimp only at hSw); first | (go_simp; done) | (go_simp; with_reducible rfl)
        (try simp only [Act.put, List.setIfInBounds_toArray, List.set_cons_zero, List.set_cons_succ])
        refine OrdT.AnyT.take (i := 13) (v := ?_) (some 62) (by rfl) (by rfl) (by kernel_rfl) (by kernel_rfl) (by kernel_rfl) (by kernel_rfl) (fun _ _ _ h => h) (Or.inl ⟨by rfl, ?_⟩) (by assumption) ?_
        rotate_left
        · intro w hSw; (try dsimp only at hSw); first | (go_simp; done) | (go_simp; with_reducible rfl)
        (try simp only [Act.put, List.setIfInBounds_toArray, List.set_cons_zero, List.set_cons_succ])
        refine OrdT.AnyT.take (i := 14) (v := ?_) (some 63) (by rfl) (by rfl) (by kernel_rfl) (by kernel_rfl) (by kernel_rfl) (by kernel_rfl) (fun _ _ _ h => h) (Or.inl ⟨by rfl, ?_⟩) (by assumption) ?_
        rotate_left
        · intro w hSw; (try dsimp only at hSw); first | (go_simp; done) | (go_simp; with_reducible rfl)
        (try simp only [Act.put, List.setIfInBounds_toArray, List.set_cons_zero, List.set_cons_succ])
        refine OrdT.AnyT.take (i := 15) (v := ?_) (some 64) (by rfl) (by rfl) (by kernel_rfl) (by kernel_rfl) (by kernel_rfl) (by kernel_rfl) (fun _ _ _ h => h) (Or.inl ⟨by rfl, ?_⟩) (by assumption) ?_
        rotate_left
        · intro w hSw; (try dsimp only at hSw); first | (go_simp; done) | (go_simp; with_reducible rfl)
        (try simp only [Act.put, List.setIfInBounds_toArray, List.set_cons_zero, List.set_cons_succ])
        clear hHeld
        refine OrdT.AnyT.one (i := 1) (by kernel_rfl) (by rfl) (fun K hK => ?_)
        go_simp
        refine hK.out _ _ (fun _ => KS.out _ (by repeat (first | exact Below.refl _ _ | exact HB2 | exact HB1 | refine bel_drew ?_ | refine bel_alloc ?_ (Nat.le_refl _) _))) ?_
        clear hK K
        (try simp only [Act.put, List.setIfInBounds_toArray, List.set_cons_zero, List.set_cons_succ])
        refine OrdT.AnyT.one (i := 8) (by kernel_rfl) (by rfl) (fun K hK => ?_)
        refine step_append_rd (some 57) (by rfl) (by rfl) _ _ 39 (by rfl) W.heap.size 38 i0 (.agg #[.int .i64 0, .int .i64 0, .int .i64 0]) 3 24 Try.underlying39 hi hz0 hz1' hz2 rfl (by decide) (.slice (some ⟨W.heap.size, 0, none⟩) 0 0) 0 [] (by rfl) (by exact own_empty (by exact heap_alloc_at _ _ _ (by simp)) (Nat.le_refl _)) _ (.slice p1 k c1) k TK (by rfl) (by exact (R1.out.below (by repeat (first | exact Below.refl _ _ | exact HB2 | exact HB1 | refine bel_drew ?_ | refine bel_alloc ?_ (Nat.le_refl _) _)))) (by exact ON1.out) k (by exact Nat.zero_add k) TK (by exact List.nil_append TK) (by exact SZ1.out.1) (by exact SZ1.out.2) (by exact bel_le (W := W) (Nat.le_refl _) (by repeat (first | exact Below.refl _ _ | exact HB2 | exact HB1 | refine bel_drew ?_ | refine bel_alloc ?_ (Nat.le_refl _) _))) ?_
        intro q1 d1 w1 ho1 hg1 ha1 hp1
        have HB1 : Below W.heap.size W w1 := below_grown (by repeat (first | exact Below.refl _ _ | exact HB2 | exact HB1 | refine bel_drew ?_ | refine bel_alloc ?_ (Nat.le_refl _) _)) (by exact bel_le (W := W) (Nat.le_refl _) (by repeat (first | exact Below.refl _ _ | exact HB2 | exact HB1 | refine bel_drew ?_ | refine bel_alloc ?_ (Nat.le_refl _) _))) hg1 hp1
        clear ha1 hp1
        refine hK.out _ _ (fun _ => KS.out _ HB1) ?_
        clear hK K
        (try simp only [Act.put, List.setIfInBounds_toArray, List.set_cons_zero, List.set_cons_succ])
        refine OrdT.AnyT.one (i := 16) (by kernel_rfl) (by rfl) (fun K hK => ?_)
        refine step_append_rd (some 65) (by rfl) (by rfl) _ _ 39 (by rfl) W.heap.size 38 i0 (.agg #[.int .i64 0, .int .i64 0, .int .i64 0]) 3 24 Try.underlying39 hi hz0 hz1' hz2 rfl (by decide) (.slice q1 k d1) k TK (by rfl) (by exact ho1) _ (.slice p2 m c2') m DK (by rfl) (by exact (R2.out.below (by repeat (first | exact Below.refl _ _ | exact HB2 | exact HB1 | refine bel_drew ?_ | refine bel_alloc ?_ (Nat.le_refl _) _)))) (by exact ON2.out) N (by exact KM.out) TK2 (by exact TE2.out) (by exact SZ2.out.1) (by exact SZ2.out.2) (by exact bel_le (W := W) (Nat.le_refl _) (by repeat (first | exact Below.refl _ _ | exact HB2 | exact HB1 | refine bel_drew ?_ | refine bel_alloc ?_ (Nat.le_refl _) _))) ?_
        intro q2 d2 w2 ho2 hg2 ha2 hp2
        have HB2 : Below W.heap.size W w2 := below_grown (by repeat (first | exact Below.refl _ _ | exact HB2 | exact HB1 | refine bel_drew ?_ | refine bel_alloc ?_ (Nat.le_refl _) _)) (by exact bel_le (W := W) (Nat.le_refl _) (by repeat (first | exact Below.refl _ _ | exact HB2 | exact HB1 | refine bel_drew ?_ | refine bel_alloc ?_ (Nat.le_refl _) _))) hg2 hp2
        clear ha2 hp2
        refine hK.out _ _ (fun _ => KS.out _ HB2) ?_
        clear hK K
        (try simp only [Act.put, List.setIfInBounds_toArray, List.set_cons_zero, List.set_cons_succ])
        refine OrdT.AnyT.one (i := 17) (by kernel_rfl) (by rfl) (fun K hK => ?_)
        go_simp
        refine hK.out _ _ (fun _ => KS.out _ HB2) ?_
        clear hK K
        (try simp only [Act.put, List.setIfInBounds_toArray, List.set_cons_zero, List.set_cons_succ])
        refine OrdT.AnyT.one (i := 18) (by kernel_rfl) (by rfl) (fun K hK => ?_)
        go_simp
        refine hK.out _ _ (fun _ => KS.out _ HB2) ?_
        clear hK K
        (try simp only [Act.put, List.setIfInBounds_toArray, List.set_cons_zero, List.set_cons_succ])
        refine OrdT.AnyT.one (i := 19) (by kernel_rfl) (by rfl) (fun K hK => ?_)
        obtain ⟨e2, e3⟩ := KS.out _ HB2
        go_simp
        refine hK.out _ _ (fun h => absurd rfl h) ?_
        clear hK K
        (try simp only [Act.put, List.setIfInBounds_toArray, List.set_cons_zero, List.set_cons_succ])
        refine OrdT.AnyT.done (by kernel_rfl) ?_ _
        refine NoPanic.normal ?_
        go_wp2
        go_ret2
        exact FIN.out _ _ _ HB2 ho2
    · have hz := NO.out k (by omega)
      unfold hit at hz
      subst e0
      generalize (atR L k).1 = z0 at *
      generalize (atR L k).2.1 = z1 at *
      by_cases h0 : z0 = c
      · have h1 : ¬ z1 = id := fun e => hz ⟨h0, e⟩
        have h2 : (z1 == id) = false := by simp [h1]
        subst h0
        clear hz h
        go_wp2
        go_round
        case rel => exact ⟨k + 1, by omega, by go_num⟩
        case measure => simp [intOf]; omega
      · have h2 : (z0 == c) = false := by simp [h0]
        clear hz h
        go_wp2
        go_round
        case rel => exact ⟨k + 1, by omega, by go_num⟩
        case measure => simp [intOf]; omega
end
end Go.Proofs.Ytmdendffbjhdbaa.Con
