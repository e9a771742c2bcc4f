/- The reference's book: Ask. -/
import Derived.Test.YtldccbinndbcdaaAmRc
namespace Go.Proofs.Ytldccbinndbcdaa.Am
open Go.RowKit Go.Proofs.Ytldccbinndbcdaa.Con Go.Proofs.Ytldccbinndbcdaa.Wn Go.Proofs.Ytldccbinndbcdaa.Fp
set_option linter.unusedVariables false
set_option linter.unusedSimpArgs false
attribute [local go_sem ↓] Go.wp_at_zero Go.wp_at_succ
theorem rcounted_all {w : World} {b : Nat} {s : Bs} {vi vo : Value} (h : RBk w b s vi vo) (hs : Small s) (now : Int) (x : Pr) :
    Calls Try.prog 33 #[rptr b, .int .i64 now, .int .i64 (-1), prv x] w fun e w' => ∃ v, e = .returned v ∧ Hid (w'.ownsRow w.heap.size 42 2 v (counted s now).length (flat (counted s now))) ∧ Nx w w' := by
  have e1 : (counted s now).length = s.ins.length + (lingers s now).length := by unfold counted; rw [List.length_append, prs_len, prs_len]
  have e2 : subst s.ins (-1) x s.ins.length ++ prs (lingers s now) = counted s now := by rw [subst_none _ _ (by omega)]; rfl
  have := rcounted_any h hs.1 hs.2 now (-1) x
  rwa [← e1, e2] at this
theorem rcounted_at {w : World} {b : Nat} {s : Bs} {vi vo : Value} (h : RBk w b s vi vo) (hs : Small s) (now : Int) (x : Pr) {n : Nat} (hn : n < s.ins.length) :
    Calls Try.prog 33 #[rptr b, .int .i64 now, .int .i64 (n : Int), prv x] w fun e w' => ∃ v, e = .returned v ∧ Hid (w'.ownsRow w.heap.size 42 2 v (countedAt s now n x).length (flat (countedAt s now n x))) ∧ Nx w w' := by
  have e1 : (countedAt s now n x).length = s.ins.length + (lingers s now).length := by unfold countedAt; rw [List.length_append, List.length_set, prs_len, prs_len]
  have e2 : subst s.ins (n : Int) x s.ins.length ++ prs (lingers s now) = countedAt s now n x := by rw [subst_at _ _ hn]; rfl
  have := rcounted_any h hs.1 hs.2 now (n : Int) x
  rwa [← e1, e2] at this
theorem xcells {w w' : World} {xq xp : Int} (hB : Nx (w.alloc (.cells #[.int .i64 xq, .int .i64 xp] 42)) w') : w'.cell? ⟨w.heap.size, 0, none⟩ = some (.int .i64 xq) ∧ w'.cell? ⟨w.heap.size, 1, none⟩ = some (.int .i64 xp) := row2 (box1 hB)
theorem row2w {w : World} {xq xp : Int} : (w.alloc (.cells #[.int .i64 xq, .int .i64 xp] 42)).cell? ⟨w.heap.size, 0, none⟩ = some (.int .i64 xq) ∧ (w.alloc (.cells #[.int .i64 xq, .int .i64 xp] 42)).cell? ⟨w.heap.size, 1, none⟩ = some (.int .i64 xp) := xcells (Nx.refl _)
set_option maxHeartbeats 16000000 in
set_option maxRecDepth 100000 in
theorem rask_any {w : World} {b : Nat} {s : Bs} {vi vo : Value} (h : RBk w b s vi vo) (hs : Small s) (x : Pr) (now : Int) :
    Calls Try.prog 18 #[rptr b, prv x, .int .i64 now] w fun e w' => e = .returned (.int .i64 (askE s x now)) ∧ Nx w w' := by
  obtain ⟨xq, xp⟩ := x
  obtain ⟨p, cap, rfl, hn, hm⟩ := h.rdI.form
  have HB0 := hide (Nx.alloc w (.cells #[.int .i64 xq, .int .i64 xp] 42))
  have H := hide (h.on HB0.out)
  have hbw0 : b < w.heap.size := (Array.getElem?_eq_some_iff.1 h.row).1
  clear h
  have HP := hide (fun w => rgp_any xq xp w)
  have HC := hide (rcounted_all H.out hs now (xq, xp))
  cases hg : gp (xq, xp) with
  | false =>
    have FE := hide (ask_1 (s := s) (arg_f1 (now := now) hg))
    rw [hg] at HP
    clear hg HC
    go_enter Try.func18, Try.ntmps18
    go_wp2_with (go_at_call 30; refine (HP.out _).mono ?_; rintro e w9 ⟨rfl, hw9⟩; rw [hw9]; clear hw9)
    go_ret
    exact ⟨by rw [FE.out]; rfl, HB0.out⟩
  | true =>
    rw [hg] at HP
    by_cases hw : now < 0
    · have FE := hide (ask_1 (s := s) (arg_f2 (x := (xq, xp)) hw))
      clear hg HC
      go_enter Try.func18, Try.ntmps18
      go_wp2_with (go_at_call 30; refine (HP.out _).mono ?_; rintro e w9 ⟨rfl, hw9⟩; rw [hw9]; clear hw9)
      go_ret
      exact ⟨by rw [FE.out]; rfl, HB0.out⟩
    have ha := arg_t hg (show 0 ≤ now by omega)
    have E3 := hide (fun hf => ask_3 (s := s) ha hf)
    have EB := hide (fun hf => ask_b (s := s) ha hf)
    clear hg ha
    go_enter Try.func18, Try.ntmps18
    go_upto_region 3 with (go_at_call 30; refine (HP.out _).mono ?_; rintro e w9 ⟨rfl, hw9⟩; rw [hw9]; clear hw9)
    go_wp2_with fail
    refine HC.out.mono ?_
    rintro e w2 ⟨v2, rfl, hO2, hN2⟩
    obtain ⟨y0, y1⟩ := xcells hN2
    have H2 := hide (H.out.on hN2)
    have HN2 := hide (Nx.trans HB0.out hN2)
    obtain ⟨p2, c2, rfl⟩ := ownF hO2.out
    have HO2 : Hid (w2.ownsRow (w.heap.size + 1) 42 2 (.slice p2 (counted s now).length c2) (counted s now).length (flat (counted s now))) := hide (by have := hO2.out; simpa using this)
    obtain ⟨b0, b1, b2⟩ := row3 H2.out.row
    have hbl : b < w2.heap.size := World.block_lt_of_cell? w2 _ b0
    have hbw : b < w.heap.size := hbw0
    have hw2 : w.heap.size + 1 ≤ w2.heap.size := by have := hN2.size; simpa using this
    clear hO2 hN2 HC H
    by_cases h1 : 32 ≤ s.ins.length
    · have FE := hide (E3.out (.inl h1))
      have h1' : (32 : Int) ≤ (s.ins.length : Int) := by omega
      clear H2
      go_wp2
      go_ret
      exact ⟨by rw [FE.out]; rfl, HN2.out⟩
    by_cases h2 : 63 ≤ (counted s now).length
    · have FE := hide (E3.out (.inr h2))
      have h1' : ¬ (32 : Int) ≤ (s.ins.length : Int) := by omega
      have h2' : (63 : Int) ≤ ((counted s now).length : Int) := by omega
      clear H2
      go_wp2
      go_ret
      exact ⟨by rw [FE.out]; rfl, HN2.out⟩
    have FB := hide (EB.out (by omega))
    have h1' : ¬ (32 : Int) ≤ (s.ins.length : Int) := by omega
    have h2' : ¬ (63 : Int) ≤ ((counted s now).length : Int) := by omega
    have HAL := hide (fun w' v (hS : Sl w' v (counted s now ++ [(xq, xp)])) => rall_any hS s.cpus)
    have hfl : Hid (flat (counted s now ++ [(xq, xp)]) = flat (counted s now) ++ [.int .i64 xq, .int .i64 xp] ∧ (counted s now ++ [(xq, xp)]).length = (counted s now).length + 1) := hide ⟨by rw [flat_app]; rfl, by simp⟩
    have SLF : Hid (∀ p' c' w', w'.ownsRow (w.heap.size + 1) 42 2 (.slice p' ((counted s now).length + 1) c') ((counted s now).length + 1) (flat (counted s now) ++ [.int .i64 xq, .int .i64 xp]) → Sl w' (.slice p' ((counted s now).length + 1) c') (counted s now ++ [(xq, xp)])) := hide (fun p' c' w' ho => by
      have := Sl.own (L := counted s now ++ [(xq, xp)]) (by rw [hfl.out.1, hfl.out.2]; exact ho)
      exact this)
    have KS : Hid (∀ w', Below (w.heap.size + 1) w2 w' → (w'.cell? ⟨b, 0, none⟩ = some (.int .i64 s.cpus)) ∧ w'.cell? ⟨w.heap.size, 0, none⟩ = some (.int .i64 xq) ∧ w'.cell? ⟨w.heap.size, 1, none⟩ = some (.int .i64 xp)) := hide (fun w' hB => ⟨(hB.cell (p := ⟨b, 0, none⟩) (by show b < _; omega)).trans b0, (hB.cell (p := ⟨w.heap.size, 0, none⟩) (Nat.lt_succ_self _)).trans y0, (hB.cell (p := ⟨w.heap.size, 1, none⟩) (Nat.lt_succ_self _)).trans y1⟩)
    have FIN : Hid (∀ w', Below (w.heap.size + 1) w2 w' → Nx w w') := hide (fun w' hB => Below.trans HN2.out (Below.mono hB (Nat.le_succ _)))
    obtain ⟨i0, hi, hz0, hz1, hz2⟩ := info_parts infoPp
    have ON : Hid (∀ u ∈ [Value.int .i64 xq, .int .i64 xp], u.oneCell' = true) := hide (by intro u hu; simp at hu; rcases hu with rfl | rfl <;> rfl)
    have SZ : Hid ((counted s now).length + 1 ≤ maxLen ∧ ((counted s now).length + 1) * 16 ≤ 140737488355328) := hide ⟨by unfold maxLen; omega, by omega⟩
    have BD : Hid (∀ o, Below (w.heap.size + 1) w2 (w2.drew.alloc o)) := hide (fun o => (bel_drew (Below.refl _ w2)).alloc hw2 o)
    generalize hCL : (counted s now).length = n at *
    generalize flat (counted s now) = F at *
    generalize hAB : allB s.cpus (counted s now ++ [(xq, xp)]) = AB at *
    generalize allE s.cpus (counted s now ++ [(xq, xp)]) = AE at *
    generalize s.cpus = cp at *
    obtain ⟨k0, k1, k2⟩ := KS.out w2 (Below.refl _ _)
    clear H2 b2 hfl hCL hAB y0 y1 b0
    go_wp2
    go_region_held3 (fun w' => w'.cell? ⟨b, 0, none⟩ = some (.int .i64 cp) ∧ w'.cell? ⟨w.heap.size, 0, none⟩ = some (.int .i64 xq) ∧ w'.cell? ⟨w.heap.size, 1, none⟩ = some (.int .i64 xp)) (first | (exact ⟨k0, k1, k2⟩) | go_keep)
      (first
        | (refine step_append_rd (some 43) (by rfl) (by rfl) _ _ 69 (by rfl) (w.heap.size + 1) 42 i0 (.agg #[.int .i64 0, .int .i64 0]) 2 16 Try.underlying69 hi hz0 hz1 hz2 rfl (by decide) (.slice p2 n c2) n F (by rfl) (by exact HO2.out.alloc _) _ (.slice (some ⟨w2.heap.size, 0, none⟩) 1 1) 1 [.int .i64 xq, .int .i64 xp] (by rfl) (by exact rd_one (cs := #[.int .i64 xq, .int .i64 xp]) (by exact heap_alloc_at _ _ _ rfl) rfl) (by exact ON.out) (n + 1) (by exact rfl) (F ++ [.int .i64 xq, .int .i64 xp]) (by exact rfl) (by exact SZ.out.1) (by exact SZ.out.2) (by exact Nat.le_trans hw2 (by simp)) ?_; intro q5 d5 w5 ho5 hg5 ha5 hp5; have HS5 := hide (SLF.out _ _ _ ho5); have HB5 := hide (below_grown (B := w.heap.size + 1) (W := w2) (BD.out _) (by simp; omega) hg5 hp5); obtain ⟨k0, k1, k2⟩ := KS.out w5 HB5.out; clear ho5 hg5 ha5 hp5)
        | (with_reducible refine (HAL.out _ _ HS5.out).mono ?_; rintro e w6 ⟨rfl, hb6⟩; have HB6 := hide (HB5.out.trans (Below.mono hb6 (Nat.le_trans hw2 HB5.out.size))); obtain ⟨k0, k1, k2⟩ := KS.out w6 HB6.out; clear hb6))
    have HF := FIN.out _ HB6.out
    clear HAL SLF KS FIN BD HS5 HB5 HO2
    cases AB with
    | true =>
      go_wp2
      go_ret
      exact ⟨by rw [FB.out]; rfl, HF⟩
    | false =>
      go_wp2
      go_ret
      exact ⟨by rw [FB.out]; rfl, HF⟩
end Go.Proofs.Ytldccbinndbcdaa.Am
