/- The landed book: fit, Ask. -/
import Derived.Test.YtldccbinndbcdaaAdC
import Derived.Test.YtldccbinndbcdaaAdP
namespace Go.Proofs.Ytldccbinndbcdaa.Am
open Go.RowKit Go.Proofs.Ytldccbinndbcdaa.Con Go.Proofs.Ytldccbinndbcdaa.Wn Go.Proofs.Ytldccbinndbcdaa.Fp
set_option linter.unusedVariables false
set_option linter.unusedSimpArgs false
attribute [local go_sem ↓] Go.wp_at_zero Go.wp_at_succ
/-- What is counted: the pairs of the live ones, and of those that linger, in the heap's order; at most 65. -/
def cntL (s : Bs) (H : List Lv) (now : Int) : List Pr := cntT s.ins (wk H now H.length 0)
theorem cnt_len {s : Bs} {H : List Lv} (h : HO H s.outs) (now : Int) : (cntL s H now).length = min 65 (counted s now).length := by
  unfold cntL cntT counted
  have := (h.prs now).length_eq
  rw [List.length_take, List.length_append, List.length_append, ← this]
  simp
theorem cnt_perm {s : Bs} {H : List Lv} (h : HO H s.outs) {now : Int} (hl : (counted s now).length ≤ 65) : (cntL s H now).Perm (counted s now) := by
  have hp := h.prs now
  have e : cntL s H now = prs s.ins ++ ((wk H now H.length 0).map (·.1)).map (·.pr) := by
    unfold cntL cntT
    rw [List.take_of_length_le]
    · rw [List.map_map]; rfl
    · have := hp.length_eq
      unfold counted at hl
      simp only [List.length_append, List.length_map] at hl this ⊢
      omega
  rw [e]
  exact hp.append_left _
theorem cnt_all' {s : Bs} {H : List Lv} (h : HO H s.outs) {now : Int} (x : Pr) (hl : (counted s now).length < 63) : allB s.cpus (cntL s H now ++ [x]) = allB s.cpus (counted s now ++ [x]) :=
  (perm_fit ((cnt_perm h (by omega)).append_right [x])).2
theorem all_many {m : Int} {L : List Pr} (h : 64 < L.length) : allB m L = false := (all_1 (pairs_no (fun hh => by omega))).2
theorem cnt_set {s : Bs} {H : List Lv} (h : HO H s.outs) {now : Int} (x : Pr) {k : Nat} (hk : k < s.ins.length) : allB s.cpus ((cntL s H now).set k x) = allB s.cpus (countedAt s now k x) := by
  have hlen := cnt_len h now
  have hcl : (countedAt s now k x).length = (counted s now).length := by unfold countedAt counted; simp
  by_cases h65 : (counted s now).length ≤ 64
  · have hp := h.prs now
    have e : cntL s H now = prs s.ins ++ ((wk H now H.length 0).map (·.1)).map (·.pr) := by
      unfold cntL cntT
      rw [List.take_of_length_le]
      · rw [List.map_map]; rfl
      · have := hp.length_eq
        unfold counted at h65
        simp only [List.length_append, List.length_map] at h65 this ⊢
        omega
    rw [e, List.set_append_left _ _ (by rw [prs_len]; exact hk)]
    exact (perm_fit (hp.append_left _)).2
  · rw [all_many (by rw [List.length_set, hlen]; omega), all_many (by omega)]
theorem counted_any {w : World} {b : Nat} {s : Bs} {vi vo : Value} {H : List Lv} (h : BB w b s vi vo H) (hs : Small s) (now : Int) :
    Calls Try.prog 26 #[ptr b, .int .i64 now] w fun e w' => ∃ v, e = .returned v ∧ Hid (w'.ownsRow w.heap.size 28 2 v (cntL s H now).length (flat (cntL s H now))) ∧ Nx w w' :=
  callsIn_wide.1 (counted_in Fence.wide rfl 6 trivial trivial trivial trivial rfl (Nat.le_refl _) h hs now)
set_option maxHeartbeats 2000000 in
theorem fit_any {w : World} {b : Nat} {s : Bs} {vi vo : Value} {H : List Lv} (h : BB w b s vi vo H) {v : Value} {L : List Pr} (hS : Sl w v L) :
    Calls Try.prog 27 #[ptr b, v] w fun e w' => e = .returned (.int .i64 (if allB s.cpus L = true then 0 else 7)) ∧ Nx w w' := by
  obtain ⟨c0, _, _⟩ := row3 h.row
  have HA := hide (allC s.cpus L v w hS)
  obtain ⟨p, cap, rfl, _, _⟩ := hS.form
  clear h hS
  generalize s.cpus = cp at *
  generalize allE cp L = AE at *
  cases hAB : allB cp L with
  | true =>
    rw [hAB] at HA
    go_enter Try.func27, Try.ntmps27
    go_wp2_with (go_at_call 21; refine HA.out.mono ?_; rintro e w9 ⟨rfl, hw9⟩)
    go_ret
    exact ⟨rfl, hw9⟩
  | false =>
    rw [hAB] at HA
    go_enter Try.func27, Try.ntmps27
    go_wp2_with (go_at_call 21; refine HA.out.mono ?_; rintro e w9 ⟨rfl, hw9⟩)
    go_ret
    exact ⟨rfl, hw9⟩
set_option maxHeartbeats 16000000 in
set_option maxRecDepth 100000 in
theorem ask_any {w : World} {b : Nat} {s : Bs} {vi vo : Value} {H : List Lv} (h : BB w b s vi vo H) (hs : Small s) (x : Pr) (now : Int) :
    Calls Try.prog 11 #[ptr b, prv x, .int .i64 now] w fun e w' => e = .returned (.int .i64 (askE s x now)) ∧ Nx w w' := by
  obtain ⟨xq, xp⟩ := x
  obtain ⟨p, cap, rfl, hn, hm⟩ := h.rdI.form
  have HB0 := hide (Nx.alloc w (.cells #[.int .i64 xq, .int .i64 xp] 28))
  have HX := hide (heap_alloc_new w (.cells #[.int .i64 xq, .int .i64 xp] 28))
  have H0 := hide (h.on HB0.out)
  have hbw0 : b < w.heap.size := (Array.getElem?_eq_some_iff.1 h.row).1
  have HW := hide h
  clear h
  have HP := hide (good_any (xq, xp) now (w.alloc (.cells #[.int .i64 xq, .int .i64 xp] 28)))
  cases ha : argB (xq, xp) now with
  | false =>
    have FE := hide (ask_1 (s := s) ha)
    rw [ha] at HP
    clear ha
    go_enter Try.func11, Try.ntmps11
    go_wp2_with (go_at_call 22; refine HP.out.mono ?_; rintro e w9 ⟨rfl, hw9⟩; have HN9 := hide (Nx.trans HB0.out hw9); clear hw9)
    go_ret
    exact ⟨by rw [FE.out]; rfl, HN9.out⟩
  | true =>
    rw [ha] at HP
    have E3 := hide (fun hf => ask_3 (s := s) ha hf)
    have EB := hide (fun hf => ask_b (s := s) ha hf)
    clear ha
    go_enter Try.func11, Try.ntmps11
    go_upto_region 3 with (go_at_call 22; refine HP.out.mono ?_; rintro e w1 ⟨rfl, hw1⟩; have HN1 := hide hw1; clear hw1)
    have H1 := hide (H0.out.on HN1.out)
    have HX1 := hide ((HN1.out.block _ (Array.getElem?_eq_some_iff.1 HX.out).1).trans HX.out)
    have HC := hide (counted_any H1.out hs now)
    clear HP H0
    go_wp2_with fail
    refine HC.out.mono ?_
    rintro e w2 ⟨v2, rfl, hO2, hN2⟩
    have H2 := hide (H1.out.on hN2)
    have HX2 := hide ((hN2.block _ (Array.getElem?_eq_some_iff.1 HX1.out).1).trans HX1.out)
    have HN2 := hide (Nx.trans HB0.out (Nx.trans HN1.out hN2))
    have hz1 : w.heap.size + 1 ≤ w1.heap.size := by have := HN1.out.size; simpa using this
    have hz2 := hN2.size
    obtain ⟨p2, c2, rfl⟩ := ownF hO2.out
    have HO2 := hide (ownB hO2.out hz1)
    have hcl := hide (cnt_len H2.out.ho now)
    have hca := hide (fun hl => cnt_all' (x := (xq, xp)) H2.out.ho (now := now) hl)
    obtain ⟨b0, b1, b2⟩ := row3 H2.out.row
    have y0 : w2.cell? ⟨w.heap.size, 0, none⟩ = some (.int .i64 xq) := (cell_of_row w2 _ 0 _ _ _ HX2.out).trans rfl
    have y1 : w2.cell? ⟨w.heap.size, 1, none⟩ = some (.int .i64 xp) := (cell_of_row w2 _ 1 _ _ _ HX2.out).trans rfl
    have hbl : b < w2.heap.size := World.block_lt_of_cell? w2 _ b0
    clear hO2 hN2 HC H1 HX1 HX HN1
    generalize hCL : cntL s H now = CL at *
    by_cases h1 : 32 ≤ s.ins.length
    · have FE := hide (E3.out (.inl h1))
      have h1' : (32 : Int) ≤ (s.ins.length : Int) := by omega
      clear H2 b0 b2
      go_wp2
      go_ret
      exact ⟨by rw [FE.out]; rfl, HN2.out⟩
    have h1' : ¬ (32 : Int) ≤ (s.ins.length : Int) := by omega
    by_cases h2 : 63 ≤ (counted s now).length
    · have FE := hide (E3.out (.inr h2))
      have h2' : (63 : Int) ≤ (CL.length : Int) := by have := hcl.out; omega
      clear H2 b0 b2
      go_wp2
      go_ret
      exact ⟨by rw [FE.out]; rfl, HN2.out⟩
    have h2' : ¬ (63 : Int) ≤ (CL.length : Int) := by have := hcl.out; omega
    have h2n : CL.length ≤ 62 := by omega
    have FB := hide (EB.out (by omega))
    have hall := hide (hca.out (by omega))
    have hfl : Hid (flat (CL ++ [(xq, xp)]) = flat CL ++ [.int .i64 xq, .int .i64 xp] ∧ (CL ++ [(xq, xp)]).length = CL.length + 1) := hide ⟨by rw [flat_app]; rfl, by simp⟩
    have HFI := hide (fun w' v' (hN : Nx w w') (ho : w'.ownsRow (w.heap.size + 1) 28 2 v' (CL.length + 1) (flat CL ++ [.int .i64 xq, .int .i64 xp])) => fit_any (HW.out.on hN) (L := CL ++ [(xq, xp)]) (v := v') (Sl.own (by rw [hfl.out.1, hfl.out.2]; exact ho)))
    rw [hall.out] at HFI
    have BD : Hid (Below (w.heap.size + 1) w2 (w2.alloc (.cells #[.int .i64 xq, .int .i64 xp] 28))) := hide (bel_alloc (Below.refl _ w2) (by omega) _)
    have OW : Hid ((w2.alloc (.cells #[.int .i64 xq, .int .i64 xp] 28)).ownsRow (w.heap.size + 1) 28 2 (.slice p2 CL.length c2) CL.length (flat CL)) := hide (HO2.out.alloc _)
    have RD : Hid (RdC (w2.alloc (.cells #[.int .i64 xq, .int .i64 xp] 28)) (w2.heap.size + 1) 2 (.slice (some ⟨w2.heap.size, 0, none⟩) 1 1) 1 [.int .i64 xq, .int .i64 xp]) := hide (by
      have := rd_one (w := (w2.alloc (.cells #[.int .i64 xq, .int .i64 xp] 28))) (size := 2) (heap_alloc_new w2 _) rfl
      simpa using this)
    generalize flat CL = FL at *
    generalize hm0 : CL.length = m at *
    generalize (if allB s.cpus (counted s now ++ [(xq, xp)]) = true then (0 : Int) else 7) = r at *
    clear hCL hcl hca hm0 hfl hall H2 b0 b2 E3 EB
    go_wp2_with (first
      | (at_builtin; refine wpList_append_rd (w := w2.alloc (.cells #[.int .i64 xq, .int .i64 xp] 28)) rfl _ _ 48 rfl rfl rfl Try.underlying48 infoWp rfl (by decide) (by decide) OW.out (by simp; omega) RD.out (by intro u hu; simp at hu; rcases hu with rfl | rfl <;> rfl) (by omega) ?_; intro p5 c5 w5 HA5; have HB5 := hide (Con.below_grown BD.out (by simp; omega) HA5.out.2 (own_past OW.out)); have HN5 := hide (Below.trans HN2.out (Below.mono HB5.out (Nat.le_succ _))); have HF5 := hide (HFI.out w5 _ HN5.out HA5.out.1); clear HA5 HFI HB5)
      | (go_at_call 27; refine HF5.out.mono ?_; rintro e w6 ⟨rfl, hw6⟩; have HN6 := hide (Nx.trans HN5.out hw6); clear hw6))
    go_ret
    exact ⟨by rw [FB.out]; rfl, HN6.out⟩
end Go.Proofs.Ytldccbinndbcdaa.Am
