/- WinFull: who takes every tick of a CPU. -/
import Derived.Test.YtkfddjmhoekjgabWnWork
import Derived.Test.YtkfddjmhoekjgabWnUse
namespace Go.Proofs.Ytkfddjmhoekjgab.Wn
open Go.RowKit Go.Proofs.Ytkfddjmhoekjgab.Con
set_option linter.unusedVariables false
set_option linter.unusedSimpArgs false
theorem own_nx {w w' : World} {B e n : Nat} {v : Value} {xs : List Value} (h : w.ownsRow B e 2 v n xs) (hB : Nx w w') : w'.ownsRow B e 2 v n xs := own_kept h (fun k hk => hB.block k (own_lt h k hk))
theorem flat_rep (y : Pr) (k : Nat) : flat (List.replicate (k + 1) y) = flat (List.replicate k y) ++ [.int .i64 y.1, .int .i64 y.2] := by
  rw [List.replicate_succ', flat_app]; rfl
set_option maxHeartbeats 8000000 in
theorem full_walk (hA : Hid AwakeC) (hG : Hid GoodC) (hO : Hid OneC) (hAl : Hid AllC) (hU : Hid UseC) (m p : Int) (x : Pr) (W : World) :
    Calls Try.prog 3 #[.int .i64 m, .int .i64 p, prv x] W fun e w' => e = .returned (.bool true) ∧ Nx W w' := by
  obtain ⟨xq, xp⟩ := x
  have HB0 := hide (Nx.alloc W (.cells #[.int .i64 xq, .int .i64 xp] 23))
  have KS := hide (Vp.new W (xq, xp))
  go_enter Try.func3, Try.ntmps3
  go_wp2_with fail
  refine (hA.out _).mono ?_
  rintro e w1 ⟨rfl, hb⟩
  have K1 := hide (KS.out.below hb)
  have B1 := hide (Nx.trans HB0.out hb)
  clear hb HB0 KS
  obtain ⟨xb, hxb⟩ : ∃ xb, W.heap.size = xb := ⟨_, rfl⟩
  rw [hxb] at K1
  have HXB := hide hxb
  (try rw [hxb])
  clear hxb
  obtain ⟨x0, x1⟩ := K1.out.cells
  by_cases m0 : m < 1
  · go_wp2
    go_ret
    exact ⟨rfl, B1.out⟩
  by_cases m1 : 30 < m
  · go_wp2
    go_ret
    exact ⟨rfl, B1.out⟩
  by_cases p0 : p < 1
  · go_wp2
    go_ret
    exact ⟨rfl, B1.out⟩
  by_cases p1 : 2147483648 < p
  · go_wp2
    go_ret
    exact ⟨rfl, B1.out⟩
  have dm0 : decide (m < 1) = false := decide_eq_false m0
  have dm1 : decide (30 < m) = false := decide_eq_false m1
  have dp0 : decide (p < 1) = false := decide_eq_false p0
  have dp1 : decide (2147483648 < p) = false := decide_eq_false p1
  go_wp2_with fail
  refine (hG.out (xq, xp) _).mono ?_
  rintro e w2 ⟨rfl, hb⟩
  have K2 := hide (K1.out.below hb)
  have B2 := hide (Nx.trans B1.out hb)
  clear hb K1 B1 x0 x1
  cases hgx : gp (xq, xp) with
  | false =>
    clear hgx
    go_wp2
    go_ret
    exact ⟨rfl, B2.out⟩
  | true =>
    obtain ⟨M, rfl⟩ : ∃ M : Nat, m = (M : Int) := ⟨m.toNat, by omega⟩
    have hM1 : 1 ≤ M := by omega
    have hM30 : M ≤ 30 := by omega
    have hgp : gp (p, p) = true := gp_y ⟨by show 1 ≤ p; omega, Int.le_refl _, by show p ≤ 2147483648; omega⟩
    have FF := hide (full_fit hM1 (by omega) hgp)
    have FU := hide (use_full (M := M) (by omega) hgp)
    have FN := hide (full_no hM1 (by omega) hgp hgx)
    have HS := hide (flat_rep (p, p))
    clear hgx hgp
    go_wp2
    go_loopw [7, 8] (fun r i wr => ∃ k : Nat, k ≤ M ∧ i = .int .i64 k ∧ Hid (wr.ownsRow w2.heap.size 23 2 r k (flat (List.replicate k (p, p)))) ∧ Hid (Nx w2 wr)) (fun _ i _ => M - (intOf i).toNat)
    case atStart => exact ⟨0, by omega, rfl, hide (World.ownsRow_nil _ _ _ _), hide (Nx.refl _)⟩
    case round =>
      obtain ⟨k, hk, rfl, HO, HB⟩ := hrel
      obtain ⟨p0', c0, rfl⟩ := own_form HO.out
      by_cases hkn : k < M
      · have hk1 : (k : Int) < (M : Int) := by omega
        have OW : Hid ((wr.alloc (.cells #[.int .i64 p, .int .i64 p] 23)).ownsRow w2.heap.size 23 2 (.slice p0' k c0) k (flat (List.replicate k (p, p)))) := hide (HO.out.alloc _)
        have RD : Hid (RdC (wr.alloc (.cells #[.int .i64 p, .int .i64 p] 23)) (wr.heap.size + 1) 2 (.slice (some ⟨wr.heap.size, 0, none⟩) 1 1) 1 [.int .i64 p, .int .i64 p]) := hide (by
          have := rd_one (w := (wr.alloc (.cells #[.int .i64 p, .int .i64 p] 23))) (size := 2) (heap_alloc_new wr _) rfl
          simpa using this)
        have BD : Hid (Below w2.heap.size w2 (wr.alloc (.cells #[.int .i64 p, .int .i64 p] 23))) := hide (bel_alloc HB.out (Nat.le_refl _) _)
        have hs := hide (HS.out k)
        generalize flat (List.replicate k (p, p)) = F at *
        go_wp2_with (at_builtin; refine wpList_append_rd (w := wr.alloc (.cells #[.int .i64 p, .int .i64 p] 23)) rfl _ _ 26 rfl rfl rfl Try.underlying26 infoPr rfl (by decide) (by decide) OW.out BD.out.size RD.out (by intro u hu; simp at hu; subst hu; rfl) (by omega) ?_; intro p5 c5 w5 HA5; refine Hid.out ?_)
        refine hide ?_
        have HB5 := hide (below_grown BD.out BD.out.size HA5.out.2 (own_past OW.out))
        have HO5 : Hid (w5.ownsRow w2.heap.size 23 2 (.slice p5 (k + 1) c5) (k + 1) (flat (List.replicate (k + 1) (p, p)))) := hide (by rw [hs.out]; exact HA5.out.1)
        clear HA5 BD RD OW HO HB hs
        go_wp2
        go_roundw
        case rel => exact ⟨k + 1, by omega, by go_num, HO5, HB5⟩
        case measure => simp [intOf]; omega
      · obtain rfl : k = M := by omega
        have HL : Hid (Sl wr (.slice p0' k c0) (List.replicate k (p, p))) := hide (by
          have h1 := HO.out
          have := Sl.own (L := List.replicate k (p, p)) (by rw [List.length_replicate]; exact h1)
          exact this)
        have HA1 := hide (hAl.out (k : Int) _ _ _ HL.out)
        rw [(all_0 FF.out.1).1, FF.out.2] at HA1
        have HU1 := hide (fun w (h : Sl w (.slice p0' k c0) (List.replicate k (p, p))) => hU.out _ _ w h)
        rw [FU.out.1, FU.out.2] at HU1
        have HO1 := hide (fun w v (h : Sl w v (List.replicate k (p, p) ++ [(xq, xp)])) => hO.out (k : Int) _ v (k : Int) w h)
        rw [FN.out.1, FN.out.2] at HO1
        have HW := hide (Nx.trans B2.out HB.out)
        have KX := hide (K2.out.below HB.out)
        have SLF : Hid (∀ p' c' w', w'.ownsRow w2.heap.size 23 2 (.slice p' (k + 1) c') (k + 1) (flat (List.replicate k (p, p)) ++ [.int .i64 xq, .int .i64 xp]) → Sl w' (.slice p' (k + 1) c') (List.replicate k (p, p) ++ [(xq, xp)])) := hide (fun p' c' w' ho => by
          have e2 : flat (List.replicate k (p, p) ++ [(xq, xp)]) = flat (List.replicate k (p, p)) ++ [.int .i64 xq, .int .i64 xp] := by rw [flat_app]; rfl
          have e1 : (List.replicate k (p, p) ++ [(xq, xp)]).length = k + 1 := by simp
          have := Sl.own (L := List.replicate k (p, p) ++ [(xq, xp)]) (by rw [e1, e2]; exact ho)
          exact this)
        clear FF FU FN HS
        go_wp2_with fail
        refine HA1.out.mono ?_
        rintro e w3 ⟨rfl, hb⟩
        have HW3 := hide (Nx.trans HW.out hb)
        have HL3 := hide (HL.out.below hb)
        have KX3 := hide (KX.out.below hb)
        have HO3 := hide (own_nx HO.out hb)
        have HB3 := hide (Nx.trans HB.out hb)
        clear hb HW HL KX HA1 HO HB
        go_wp2_with fail
        refine (HU1.out _ HL3.out).mono ?_
        rintro e w4 ⟨rfl, hb⟩
        have HW4 := hide (Nx.trans HW3.out hb)
        have KX4 := hide (KX3.out.below hb)
        have HO4 := hide (own_nx HO3.out hb)
        have HB4 := hide (Nx.trans HB3.out hb)
        clear hb HW3 HL3 KX3 HU1 HO3 HB3
        obtain ⟨x0, x1⟩ := KX4.out.cells
        have OW : Hid ((w4.alloc (.cells #[.int .i64 xq, .int .i64 xp] 23)).ownsRow w2.heap.size 23 2 (.slice p0' k c0) k (flat (List.replicate k (p, p)))) := hide (HO4.out.alloc _)
        have RD : Hid (RdC (w4.alloc (.cells #[.int .i64 xq, .int .i64 xp] 23)) (w4.heap.size + 1) 2 (.slice (some ⟨w4.heap.size, 0, none⟩) 1 1) 1 [.int .i64 xq, .int .i64 xp]) := hide (by
          have := rd_one (w := (w4.alloc (.cells #[.int .i64 xq, .int .i64 xp] 23))) (size := 2) (heap_alloc_new w4 _) rfl
          simpa using this)
        have BD : Hid (Below w2.heap.size w2 (w4.alloc (.cells #[.int .i64 xq, .int .i64 xp] 23))) := hide (bel_alloc HB4.out (Nat.le_refl _) _)
        generalize flat (List.replicate k (p, p)) = F at *
        go_wp2_with (at_builtin; refine wpList_append_rd (w := w4.alloc (.cells #[.int .i64 xq, .int .i64 xp] 23)) rfl _ _ 26 rfl rfl rfl Try.underlying26 infoPr rfl (by decide) (by decide) OW.out BD.out.size RD.out (by intro u hu; simp at hu; rcases hu with rfl | rfl <;> rfl) (by omega) ?_; intro p5 c5 w5 HA5; refine Hid.out ?_)
        refine hide ?_
        have HB5 := hide (below_grown BD.out BD.out.size HA5.out.2 (own_past OW.out))
        have HS5 := hide (SLF.out _ _ _ HA5.out.1)
        clear HA5 BD RD OW HO4 SLF
        go_wp2_with fail
        refine (HO1.out _ _ HS5.out).mono ?_
        rintro e w6 ⟨rfl, hb⟩
        have HB6 := hide (Nx.trans B2.out (Nx.trans HB5.out hb))
        clear hb
        go_wp2
        go_ret
        exact ⟨rfl, HB6.out⟩
end Go.Proofs.Ytkfddjmhoekjgab.Wn
