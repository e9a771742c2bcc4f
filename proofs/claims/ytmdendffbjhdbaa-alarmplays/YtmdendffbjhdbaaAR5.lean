/- The reference's To. -/
import Derived.Test.YtmdendffbjhdbaaAR4
namespace Go.Proofs.Ytmdendffbjhdbaa.Con
open Go.RowKit Go.Proofs.Ytmdendffbjhdbaa.Hq
set_option linter.unusedVariables false
set_option linter.unusedSimpArgs false
attribute [local go_sem ↓] Go.wp_at_zero Go.wp_at_succ
theorem RdC.fromB {W : World} {B size n : Nat} {v : Value} {xs : List Value} (h : RdC W B size v n xs) (t e : TypeId) (i : TypeInfo) (ht : Try.prog.underlying t = some (.slice e)) (hi : Try.prog.info? e = some i) (hs : i.size = size) (k : Nat) (hk : k ≤ n) :
    ∃ p c, (∀ w : World, (Instr.slice t v (some (.int .i64 (k : Int))) none none).run Try.prog w = .ok (.slice p (n - k) c) w) ∧ RdC W B size (.slice p (n - k) c) (n - k) (xs.drop (k * size)) ∧ ∀ j, (Value.slice p (n - k) c).ownBlock = some j → v.ownBlock = some j := by
  obtain ⟨h1, p, cap, rfl, h2, h3, h4⟩ := h
  refine ⟨if cap = k then p else p.map (·.add (k * size)), cap - k, fun w => ?_, ⟨?_, _, cap - k, rfl, by omega, by omega, fun h0 => ?_⟩, ?_⟩
  · subst hs
    have h5 : (k : Int) ≤ (n : Int) := by omega
    have h6 : (k : Int) ≤ (cap : Int) := by omega
    simp [Instr.slice, run_underlying ht, Instr.sliceBounds, run_sliceBound, sizeOf, typeInfo, hi, h5, h6]
  · rw [List.length_drop, h1, Nat.sub_mul]
  · obtain ⟨b, o, rfl, hb, hc⟩ := h4 (by omega)
    rw [if_neg (by omega)]
    refine ⟨b, o + k * size, by simp [Addr.add], hb, fun j u hu => ?_⟩
    rw [List.getElem?_drop] at hu
    have := hc (k * size + j) u hu
    rw [show o + k * size + j = o + (k * size + j) by omega]; exact this
  · intro j hj
    cases p with
    | none => simp [Value.ownBlock] at hj
    | some a =>
      by_cases hc : cap = k
      · rw [if_pos hc] at hj; exact hj
      · rw [if_neg hc] at hj
        simp only [Value.ownBlock, Option.map_some, Option.some.injEq] at hj ⊢
        rw [← hj]
        unfold Addr.add
        split <;> rfl
section
variable {W W1 : World} {rb n : Nat} {now : Int} {v : Value} {L : List Rg}
set_option maxRecDepth 100000 in
set_option maxHeartbeats 4000000 in
theorem rto_ok (h : Rl W rb n now v L) (hs : L.Pairwise rlt) {t : Int} (t0 : now ≤ t) (t1 : t ≤ top2) : Calls Try.prog 19 #[.pointer (some ⟨rb, 0, none⟩), .int .i64 t] W fun e w' => RToP W rb n t L e w' := by
  obtain ⟨_, c1, c2⟩ := h.cells
  have f1 := h.frozen 1
  obtain ⟨a1, s1⟩ := h.tick t
  obtain ⟨p, cap, rfl, hn, hm⟩ := h.form
  have hl := h.len
  have rl : rb < (W.setCell ⟨rb, 1, none⟩ (.int .i64 t)).heap.size := a1.lt
  have A1 := hide a1
  have S1 := hide s1
  have HS := hide hs
  have k1 : ¬ t < now := by omega
  have k2 : ¬ t > 4611686018427387904 := by unfold top2 at t1; omega
  obtain ⟨i0, hi, hz0, hz1', hz2⟩ := info_parts infoRg
  clear h a1 s1 hs t0 t1
  go_enter Try.func19, Try.ntmps19
  go_wp2
  clear c1 f1 c2 k1 k2
  generalize W.setCell ⟨rb, 1, none⟩ (.int .i64 t) = W1 at *
  obtain ⟨_, _, c2⟩ := A1.out.cells
  have f2 := A1.out.frozen 2
  go_loop [6] (fun s => ∃ k : Nat, k ≤ L.length ∧ s = .int .i64 k ∧ Hid (∀ j, j < k → (atR L j).2.2 ≤ t)) (fun s => L.length - (intOf s).toNat)
  case atStart => exact ⟨0, by omega, rfl, hide (fun j hj => by omega)⟩
  case round =>
    obtain ⟨k, hk, rfl, HR⟩ := hrel
    have OUT : Hid ((k = L.length ∨ t < (atR L k).2.2) → up t L = L.take k ∧ dn t L = L.drop k) := hide (fun e => up_take HS.out hk HR.out e)
    have GO : Hid ((atR L k).2.2 ≤ t → ∀ j, j < k + 1 → (atR L j).2.2 ≤ t) := hide (fun e j hj => by
      rcases Nat.lt_or_ge j k with h1 | h1
      · exact HR.out j h1
      · obtain rfl : j = k := by omega
        exact e)
    obtain ⟨p1, c1, hs1, r1⟩ := A1.out.row.upto 39 38 i0 Try.underlying39 hi hz1' k hk
    obtain ⟨p2, c2', hs2, r2, ob⟩ := A1.out.row.fromB 39 38 i0 Try.underlying39 hi hz1' k hk
    rw [ringsV_take L k hk] at r1
    rw [ringsV_drop L k hk] at r2
    have KS : Hid (∀ w' : World, Below W1.heap.size W1 w' → w'.cell? ⟨rb, 2, none⟩ = some (.slice p L.length cap) ∧ w'.frozen? ⟨rb, 2, none⟩ = false) := hide (fun w' hB => ⟨(hB.cell (p := ⟨rb, 2, none⟩) rl).trans c2, (hB.frozen (p := ⟨rb, 2, none⟩) rl).trans f2⟩)
    have FIN : Hid ((k = L.length ∨ t < (atR L k).2.2) → ∀ q d w2, Below W1.heap.size W1 w2 → w2.ownsRow W1.heap.size 38 3 (.slice q k d) k (ringsV (L.take k)) → RToP W rb n t L (.returned (.tuple #[.slice q k d, .int .i64 0])) (w2.setCell ⟨rb, 2, none⟩ (.slice p2 (L.length - k) c2'))) := hide (fun e q d w2 hB ho => by
      obtain ⟨u1, u2⟩ := OUT.out e
      have b1 := A1.out.below hB
      have r2' := (r2.below hB).mono (B' := w2.heap.size) hB.size
      obtain ⟨g1, g2⟩ := b1.cut (w' := w2) (L' := L.drop k) r2' (by simp) (by omega) ob
      refine ⟨_, _, rfl, by rw [u2]; exact g1, (S1.out.trans (RT.below hB rb)).trans g2, ?_⟩
      rw [u1]
      have hne : ∀ j, (Value.slice q k d).ownBlock = some j → j ≠ rb := fun j ej => by have := own_past ho j ej; omega
      have := RdC.own (own_kept (W' := w2.setCell ⟨rb, 2, none⟩ (.slice p2 (L.length - k) c2')) ho fun j ej => heap_setCell_other w2 _ j _ (hne j ej))
      rwa [List.length_take, Nat.min_eq_left hk])
    have R1 := hide r1
    have SZ : Hid (k ≤ maxLen ∧ k * 24 ≤ 140737488355328) := hide (by unfold maxLen; omega)
    have ON : Hid (∀ u ∈ ringsV (L.take k), u.oneCell' = true) := hide (one_rings _)
    have HI := hide hi
    have j0 : ¬ (k : Int) < 0 := by omega
    have j1 : (k : Int) ≤ (L.length : Int) := by omega
    generalize hXS : ringsV (L.take k) = XS at *
    have HXS := hide hXS
    clear r1 r2 ob hXS
    by_cases hkn : k < L.length
    · obtain ⟨b, o, e0, hb, x0, x1, x2⟩ := A1.out.item k hkn
      subst e0
      have hk1 : (k : Int) < (L.length : Int) := by omega
      by_cases ht : (atR L k).2.2 ≤ t
      · have G := hide (GO.out ht)
        clear FIN OUT GO KS hs1 hs2
        generalize (atR L k).2.2 = z at *
        go_wp2
        go_round
        case rel => exact ⟨k + 1, by omega, by go_num, G⟩
        case measure => simp [intOf]; omega
      · have FI := hide (FIN.out (.inr (by omega)))
        clear FIN OUT GO
        generalize (atR L k).2.2 = z at *
        generalize L.length - k = m at *
        go_wp2_with (at_builtin; go_loud (refine wpList_append_rd rfl _ _ 39 rfl W1.heap.size 38 i0 (.agg #[.int .i64 0, .int .i64 0, .int .i64 0]) 3 24 Try.underlying39 HI.out hz0 hz1' hz2 rfl (by decide) (.slice (some ⟨W1.heap.size, 0, none⟩) 0 0) 0 [] (by rfl) (by exact own_empty (by exact heap_alloc_new _ _) (Nat.le_refl _)) W1.heap.size (.slice p1 k c1) k XS (by rfl) (by exact R1.out.below ((Below.refl _ _).alloc (Nat.le_refl _) _)) ON.out k (by exact Nat.zero_add k) XS (by exact List.nil_append XS) SZ.out.1 SZ.out.2 (by simp) ?_; intro q1 d1 w2 HA; have HB2 := hide (below_grown ((Below.refl W1.heap.size W1).alloc (Nat.le_refl _) _) (by simp) HA.out.2.1 (by intro k e; simp [Value.ownBlock] at e; omega)); obtain ⟨e2, e3⟩ := KS.out w2 HB2.out))
        exact bodyPost_ret (v := .tuple #[.slice q1 k d1, .int .i64 0]) (by simp [results, Try.results19, go_sem]) rfl (FI.out _ _ _ HB2.out HA.out.1)
    · obtain rfl : k = L.length := by omega
      have hkd : decide ((L.length : Int) < (L.length : Int)) = false := by simp
      have FI := hide (FIN.out (.inl rfl))
      clear FIN OUT GO
      generalize L.length - L.length = m at *
      go_wp2_with (at_builtin; go_loud (refine wpList_append_rd rfl _ _ 39 rfl W1.heap.size 38 i0 (.agg #[.int .i64 0, .int .i64 0, .int .i64 0]) 3 24 Try.underlying39 HI.out hz0 hz1' hz2 rfl (by decide) (.slice (some ⟨W1.heap.size, 0, none⟩) 0 0) 0 [] (by rfl) (by exact own_empty (by exact heap_alloc_new _ _) (Nat.le_refl _)) W1.heap.size (.slice p1 L.length c1) L.length XS (by rfl) (by exact R1.out.below ((Below.refl _ _).alloc (Nat.le_refl _) _)) ON.out L.length (by exact Nat.zero_add _) XS (by exact List.nil_append XS) SZ.out.1 SZ.out.2 (by simp) ?_; intro q1 d1 w2 HA; have HB2 := hide (below_grown ((Below.refl W1.heap.size W1).alloc (Nat.le_refl _) _) (by simp) HA.out.2.1 (by intro k e; simp [Value.ownBlock] at e; omega)); obtain ⟨e2, e3⟩ := KS.out w2 HB2.out))
      exact bodyPost_ret (v := .tuple #[.slice q1 L.length d1, .int .i64 0]) (by simp [results, Try.results19, go_sem]) rfl (FI.out _ _ _ HB2.out HA.out.1)
end
end Go.Proofs.Ytmdendffbjhdbaa.Con
