/- PokePlays' walk. -/
import Derived.Test.YtigofonhibaojaaPPl
import Derived.Deep.CutBlock
import Derived.Deep.CutRange
namespace Go.Proofs.Ytigofonhibaojaa.Con
open Go.RowKit Go.Proofs.Ytigofonhibaojaa.Mk
set_option linter.unusedVariables false
set_option linter.unusedSimpArgs false
/-- The three arrays, as the state tells them. -/
def wI (s : Nat → Td) : Nat → Int := fun j => ((s j).w : Int)
def fI (s : Nat → Td) : Nat → Int := fun j => ((s j).f : Int)
def rI (s : Nat → Td) : Nat → Int := fun j => ((s j).r : Int)
theorem mayB_parts (n : Nat) (fr wh : Int) : mayB n fr wh = (decide (0 ≤ fr) && decide (fr < (n : Int)) && (decide (1 ≤ wh) && decide (wh ≤ 15))) := rfl
theorem hasB_to {n : Nat} {x : Int} (h : hasB n x = true) : ∃ k : Nat, x = k ∧ k < n := by
  unfold hasB at h
  simp at h
  exact ⟨x.toNat, by omega, by omega⟩
theorem mayB_to {n : Nat} {a x : Int} (h : mayB n a x = true) : (∃ k : Nat, a = k ∧ k < n) ∧ ∃ y : Nat, x = y ∧ 1 ≤ y ∧ y ≤ 15 := by
  unfold mayB at h
  rw [Bool.and_eq_true] at h
  refine ⟨hasB_to h.1, ?_⟩
  have := h.2
  simp at this
  exact ⟨x.toNat, by omega, by omega, by omega⟩
/-- The bit of a number, put into a word as the law puts it. -/
theorem or_bit (f a : Nat) (hf : f < 18446744073709551616) (ha : a < 64) : bits BinOp.or IntKind.u64 (f : Int) (IntKind.u64.wrap ((2 : Int) ^ a)) = ((withN f (a : Int) : Nat) : Int) := by
  have h2 : (2 : Nat) ^ a < 2 ^ 64 := Nat.pow_lt_pow_right (by decide) ha
  have e : (2 : Nat) ^ 64 = 18446744073709551616 := by decide
  rw [pow_wrap a ha, u64_or_nat f (2 ^ a) hf (by omega)]
  unfold withN onlyN
  rw [if_pos (by omega)]
  rfl
theorem upd_send1 (s : Nat → Td) (a t x : Nat) (j : Nat) : wI (sendS s a t x) j = upd (wI s) t (((s t).w ||| x : Nat) : Int) j := by
  unfold wI sendS upd tell; split <;> simp_all
theorem upd_send2 (s : Nat → Td) (a t x : Nat) (j : Nat) : fI (sendS s a t x) j = upd (fI s) t ((withN (s t).f (a : Int) : Nat) : Int) j := by
  unfold fI sendS upd tell; split <;> simp_all
theorem upd_send3 (s : Nat → Td) (a t x : Nat) (hw : (s t).w = 0) (j : Nat) : rI (sendS s a t x) j = upd (rI s) t (((s t).r : Int) + 1) j := by
  unfold rI sendS upd tell; split <;> simp_all
theorem upd_send4 (s : Nat → Td) (a t x : Nat) (hw : (s t).w ≠ 0) (j : Nat) : rI (sendS s a t x) j = rI s j := by
  unfold rI sendS tell; split <;> simp_all
theorem upd_read1 (s : Nat → Td) (t : Nat) (j : Nat) : wI (readS s t) j = upd (wI s) t 0 j := by
  unfold wI readS upd; split <;> simp_all
theorem upd_read2 (s : Nat → Td) (t : Nat) (j : Nat) : fI (readS s t) j = upd (fI s) t 0 j := by
  unfold fI readS upd; split <;> simp_all
theorem upd_read3 (s : Nat → Td) (t : Nat) (j : Nat) : rI (readS s t) j = rI s j := by
  unfold rI readS; split <;> simp_all
set_option maxRecDepth 100000 in
set_option maxHeartbeats 8000000 in
theorem plays_main {n N : Nat} (h1 : 1 ≤ n) (h2 : n ≤ 64) (hN : N ≤ 100) (p : Option Addr) (c : Nat) (Z : Nat → Nat → Int) (W : World)
    (hp : 0 < N → ∃ b o, p = some ⟨b, o, none⟩ ∧ b < W.heap.size ∧ ∀ j i, j < N → i < 4 → W.cell? ⟨b, o + (j * 4 + i), none⟩ = some (.int .i64 (Z j i))) :
    Calls Try.prog 4 #[.int .i64 (n : Int), .slice p N c] W fun e w' => e = .returned (.bool true) ∧ Below W.heap.size W w' := by
  have A := hide (awake_any W)
  have NW := hide (fun W' => new_any W' n h1 h2)
  unfold NewPost at NW
  have HP := hide hp
  clear hp
  have q1 : ¬ (n : Int) < 1 := by omega
  have q2 : ¬ (64 : Int) < (n : Int) := by omega
  have q3 : ¬ (100 : Int) < (N : Int) := by omega
  go_enter Try.func4, Try.ntmps4
  go_upto_region 8 with (first
    | (go_at_call 6; refine A.out.mono ?_; rintro e w0 ⟨rfl, HB⟩)
    | (go_at_call 7; refine (NW.out _).mono ?_; rintro e w1 ⟨b, g, rfl, P0⟩))
  have PP := hide (PL.trans HB.out P0.out)
  clear A NW HB P0 q1 q2 q3
  go_upto_region 9 with fail
  generalize hO1 : Obj.cells #[Value.int IntKind.i64 0, Value.int IntKind.i64 0, Value.int IntKind.i64 0, Value.int IntKind.i64 0, Value.int IntKind.i64 0, Value.int IntKind.i64 0, Value.int IntKind.i64 0, Value.int IntKind.i64 0, Value.int IntKind.i64 0, Value.int IntKind.i64 0, Value.int IntKind.i64 0, Value.int IntKind.i64 0, Value.int IntKind.i64 0, Value.int IntKind.i64 0, Value.int IntKind.i64 0, Value.int IntKind.i64 0, Value.int IntKind.i64 0, Value.int IntKind.i64 0, Value.int IntKind.i64 0, Value.int IntKind.i64 0, Value.int IntKind.i64 0, Value.int IntKind.i64 0, Value.int IntKind.i64 0, Value.int IntKind.i64 0, Value.int IntKind.i64 0, Value.int IntKind.i64 0, Value.int IntKind.i64 0, Value.int IntKind.i64 0, Value.int IntKind.i64 0, Value.int IntKind.i64 0, Value.int IntKind.i64 0, Value.int IntKind.i64 0, Value.int IntKind.i64 0, Value.int IntKind.i64 0, Value.int IntKind.i64 0, Value.int IntKind.i64 0, Value.int IntKind.i64 0, Value.int IntKind.i64 0, Value.int IntKind.i64 0, Value.int IntKind.i64 0, Value.int IntKind.i64 0, Value.int IntKind.i64 0, Value.int IntKind.i64 0, Value.int IntKind.i64 0, Value.int IntKind.i64 0, Value.int IntKind.i64 0, Value.int IntKind.i64 0, Value.int IntKind.i64 0, Value.int IntKind.i64 0, Value.int IntKind.i64 0, Value.int IntKind.i64 0, Value.int IntKind.i64 0, Value.int IntKind.i64 0, Value.int IntKind.i64 0, Value.int IntKind.i64 0, Value.int IntKind.i64 0, Value.int IntKind.i64 0, Value.int IntKind.i64 0, Value.int IntKind.i64 0, Value.int IntKind.i64 0, Value.int IntKind.i64 0, Value.int IntKind.i64 0, Value.int IntKind.i64 0, Value.int IntKind.i64 0] 40 = O1
  have E1 : Hid (O1 = .cells (Array.replicate 64 (.int .i64 0)) 40) := hide hO1.symm
  clear hO1
  go_upto_region 10 with fail
  generalize hO2 : Obj.cells #[Value.int IntKind.u64 0, Value.int IntKind.u64 0, Value.int IntKind.u64 0, Value.int IntKind.u64 0, Value.int IntKind.u64 0, Value.int IntKind.u64 0, Value.int IntKind.u64 0, Value.int IntKind.u64 0, Value.int IntKind.u64 0, Value.int IntKind.u64 0, Value.int IntKind.u64 0, Value.int IntKind.u64 0, Value.int IntKind.u64 0, Value.int IntKind.u64 0, Value.int IntKind.u64 0, Value.int IntKind.u64 0, Value.int IntKind.u64 0, Value.int IntKind.u64 0, Value.int IntKind.u64 0, Value.int IntKind.u64 0, Value.int IntKind.u64 0, Value.int IntKind.u64 0, Value.int IntKind.u64 0, Value.int IntKind.u64 0, Value.int IntKind.u64 0, Value.int IntKind.u64 0, Value.int IntKind.u64 0, Value.int IntKind.u64 0, Value.int IntKind.u64 0, Value.int IntKind.u64 0, Value.int IntKind.u64 0, Value.int IntKind.u64 0, Value.int IntKind.u64 0, Value.int IntKind.u64 0, Value.int IntKind.u64 0, Value.int IntKind.u64 0, Value.int IntKind.u64 0, Value.int IntKind.u64 0, Value.int IntKind.u64 0, Value.int IntKind.u64 0, Value.int IntKind.u64 0, Value.int IntKind.u64 0, Value.int IntKind.u64 0, Value.int IntKind.u64 0, Value.int IntKind.u64 0, Value.int IntKind.u64 0, Value.int IntKind.u64 0, Value.int IntKind.u64 0, Value.int IntKind.u64 0, Value.int IntKind.u64 0, Value.int IntKind.u64 0, Value.int IntKind.u64 0, Value.int IntKind.u64 0, Value.int IntKind.u64 0, Value.int IntKind.u64 0, Value.int IntKind.u64 0, Value.int IntKind.u64 0, Value.int IntKind.u64 0, Value.int IntKind.u64 0, Value.int IntKind.u64 0, Value.int IntKind.u64 0, Value.int IntKind.u64 0, Value.int IntKind.u64 0, Value.int IntKind.u64 0] 41 = O2
  have E2 : Hid (O2 = .cells (Array.replicate 64 (.int .u64 0)) 41) := hide hO2.symm
  clear hO2
  go_upto_region 11 with fail
  generalize hO3 : Obj.cells #[Value.int IntKind.i64 0, Value.int IntKind.i64 0, Value.int IntKind.i64 0, Value.int IntKind.i64 0, Value.int IntKind.i64 0, Value.int IntKind.i64 0, Value.int IntKind.i64 0, Value.int IntKind.i64 0, Value.int IntKind.i64 0, Value.int IntKind.i64 0, Value.int IntKind.i64 0, Value.int IntKind.i64 0, Value.int IntKind.i64 0, Value.int IntKind.i64 0, Value.int IntKind.i64 0, Value.int IntKind.i64 0, Value.int IntKind.i64 0, Value.int IntKind.i64 0, Value.int IntKind.i64 0, Value.int IntKind.i64 0, Value.int IntKind.i64 0, Value.int IntKind.i64 0, Value.int IntKind.i64 0, Value.int IntKind.i64 0, Value.int IntKind.i64 0, Value.int IntKind.i64 0, Value.int IntKind.i64 0, Value.int IntKind.i64 0, Value.int IntKind.i64 0, Value.int IntKind.i64 0, Value.int IntKind.i64 0, Value.int IntKind.i64 0, Value.int IntKind.i64 0, Value.int IntKind.i64 0, Value.int IntKind.i64 0, Value.int IntKind.i64 0, Value.int IntKind.i64 0, Value.int IntKind.i64 0, Value.int IntKind.i64 0, Value.int IntKind.i64 0, Value.int IntKind.i64 0, Value.int IntKind.i64 0, Value.int IntKind.i64 0, Value.int IntKind.i64 0, Value.int IntKind.i64 0, Value.int IntKind.i64 0, Value.int IntKind.i64 0, Value.int IntKind.i64 0, Value.int IntKind.i64 0, Value.int IntKind.i64 0, Value.int IntKind.i64 0, Value.int IntKind.i64 0, Value.int IntKind.i64 0, Value.int IntKind.i64 0, Value.int IntKind.i64 0, Value.int IntKind.i64 0, Value.int IntKind.i64 0, Value.int IntKind.i64 0, Value.int IntKind.i64 0, Value.int IntKind.i64 0, Value.int IntKind.i64 0, Value.int IntKind.i64 0, Value.int IntKind.i64 0, Value.int IntKind.i64 0] 42 = O3
  have E3 : Hid (O3 = .cells (Array.replicate 64 (.int .i64 0)) 42) := hide hO3.symm
  clear hO3
  have J0 : Hid (PS W (((w1.alloc O1).alloc O2).alloc O3) b g n 0 s0 w1.heap.size (w1.heap.size + 1) (w1.heap.size + 1 + 1) (wI s0) (fI s0) (rI s0)) := hide (PS.start PP.out E1.out E2.out E3.out)
  clear E1 E2 E3 PP
  generalize w1.heap.size = g1 at *
  generalize ((w1.alloc O1).alloc O2).alloc O3 = w2 at *
  go_wp2
  go_loopw [10] (fun i wr => ∃ k : Nat, k ≤ N ∧ i = .int .i64 k ∧ ∃ m s, m ≤ k ∧ Hid (PS W wr b g n m s g1 (g1 + 1) (g1 + 1 + 1) (wI s) (fI s) (rI s))) (fun i _ => N - (intOf i).toNat)
  case atStart => exact ⟨0, by omega, rfl, 0, s0, by omega, J0⟩
  case round =>
    clear J0
    obtain ⟨k, hk, rfl, m, s, hm, S⟩ := hrel
    by_cases hkn : k < N
    · have k1 : (k : Int) < (N : Int) := by omega
      obtain ⟨lb, o, rfl, hb, hc⟩ := HP.out (by omega)
      have HC : Hid (∀ i, i < 4 → wr.cell? ⟨lb, o + (k * 4 + i), none⟩ = some (.int .i64 (Z k i))) := hide (fun i hi => (S.out.pl.below.cell (p := ⟨lb, o + (k * 4 + i), none⟩) hb).trans (hc k i hkn hi))
      have z0 : wr.cell? ⟨lb, o + k * 4, none⟩ = some (.int .i64 (Z k 0)) := HC.out 0 (by omega)
      have z1 : wr.cell? ⟨lb, o + k * 4 + 1, none⟩ = some (.int .i64 (Z k 1)) := HC.out 1 (by omega)
      have z2 : wr.cell? ⟨lb, o + k * 4 + 2, none⟩ = some (.int .i64 (Z k 2)) := HC.out 2 (by omega)
      have z3 : wr.cell? ⟨lb, o + k * 4 + 3, none⟩ = some (.int .i64 (Z k 3)) := HC.out 3 (by omega)
      clear hc HC
      generalize Z k 0 = op at *
      generalize Z k 1 = fr at *
      generalize Z k 2 = tt at *
      generalize Z k 3 = wh at *
      have X0 : Hid (PX W (wr.alloc (.cells #[.int .i64 op, .int .i64 fr, .int .i64 tt, .int .i64 wh] 44)) b g n m s g1 (g1 + 1) (g1 + 1 + 1) (wI s) (fI s) (rI s) wr.heap.size ⟨op, fr, tt, wh⟩) := hide (S.out.lay ⟨op, fr, tt, wh⟩)
      go_upto_region 15 with fail
      generalize wr.heap.size = xb at *
      generalize wr.alloc (.cells #[.int .i64 op, .int .i64 fr, .int .i64 tt, .int .i64 wh] 44) = w3 at *
      clear z0 z1 z2 z3 S
      obtain ⟨c0, c1, c2, c3⟩ := X0.out.cells
      simp only [] at c0 c1 c2 c3
      go_cut [12] from 61 to 304 (fun t wx => t = .bool (mayB n fr wh) ∧ wx = w3)
      case first => as_aux_lemma =>
        -- [[good
        have E := hide (mayB_parts n fr wh)
        by_cases t0 : 0 ≤ fr
        · by_cases t1 : fr < (n : Int)
          · by_cases t2 : 1 ≤ wh
            · by_cases t3 : wh ≤ 15
              · have D : Hid (mayB n fr wh = true) := hide (by rw [E.out]; simp; omega)
                generalize mayB n fr wh = BB at *
                go_wp2
                go_meet
                case rel => exact ⟨by rw [D.out], rfl⟩
              · have D : Hid (mayB n fr wh = false) := hide (by rw [E.out]; simp; omega)
                generalize mayB n fr wh = BB at *
                go_wp2
                go_meet
                case rel => exact ⟨by rw [D.out], rfl⟩
            · have D : Hid (mayB n fr wh = false) := hide (by rw [E.out]; simp; omega)
              generalize mayB n fr wh = BB at *
              go_wp2
              go_meet
              case rel => exact ⟨by rw [D.out], rfl⟩
          · have D : Hid (mayB n fr wh = false) := hide (by rw [E.out]; simp; omega)
            generalize mayB n fr wh = BB at *
            go_wp2
            go_meet
            case rel => exact ⟨by rw [D.out], rfl⟩
        · have D : Hid (mayB n fr wh = false) := hide (by rw [E.out]; simp; omega)
          generalize mayB n fr wh = BB at *
          go_wp2
          go_meet
          case rel => exact ⟨by rw [D.out], rfl⟩
        -- ]]good
      case rest => as_aux_lemma =>
       obtain ⟨rfl, hw⟩ := hcut
       have hw2 := hw.symm; clear hw; subst hw2
       obtain ⟨GB, hGB⟩ : ∃ GB, mayB n fr wh = GB := ⟨_, rfl⟩
       have HG := hide hGB
       rw [hGB]
       clear hGB
       go_upto_region 16 with fail
       go_cut [13] from 61 to 304 (fun t wx => t = .bool (hasB n tt) ∧ wx = w3)
       case first => as_aux_lemma =>
        -- [[have
        by_cases t0 : 0 ≤ tt
        · by_cases t1 : tt < (n : Int)
          · have D : Hid (hasB n tt = true) := hide (by unfold hasB; simp; omega)
            generalize hasB n tt = BB at *
            go_wp2
            go_meet
            case rel => exact ⟨by rw [D.out], rfl⟩
          · have D : Hid (hasB n tt = false) := hide (by unfold hasB; simp; omega)
            generalize hasB n tt = BB at *
            go_wp2
            go_meet
            case rel => exact ⟨by rw [D.out], rfl⟩
        · have D : Hid (hasB n tt = false) := hide (by unfold hasB; simp; omega)
          generalize hasB n tt = BB at *
          go_wp2
          go_meet
          case rel => exact ⟨by rw [D.out], rfl⟩
        -- ]]have
       case rest => as_aux_lemma =>
        obtain ⟨rfl, hw⟩ := hcut
        have hw2 := hw.symm; clear hw; subst hw2
        obtain ⟨TB, hTB⟩ : ∃ TB, hasB n tt = TB := ⟨_, rfl⟩
        have HT := hide hTB
        rw [hTB]
        clear hTB
        go_upto_block 2 with fail
        go_cut [14, 15, 16, 17, 18, 19, 20, 21, 22] from 61 to 304 (fun _ _ _ _ _ _ _ _ _ wx => ∃ m' s', m' ≤ k + 1 ∧ Hid (PS W wx b g n m' s' g1 (g1 + 1) (g1 + 1 + 1) (wI s') (fI s') (rI s')))
        case first => as_aux_lemma =>
          by_cases h0 : op = 0
          · subst h0
            -- [[send
            by_cases hgt : (TB && GB) = true
            · rw [Bool.and_eq_true] at hgt
              obtain ⟨rfl, rfl⟩ := hgt
              obtain ⟨⟨a, rfl, ha⟩, x, rfl, hx1, hx2⟩ := mayB_to HG.out
              obtain ⟨t, rfl, ht⟩ := hasB_to HT.out
              clear HG HT
              have ht64 : t < 64 := Nat.lt_of_lt_of_le ht h2
              have ha64 : a < 64 := Nat.lt_of_lt_of_le ha h2
              have SD := hide (send_any X0.out.ps.pl.pk a t x ha ht hx1 hx2 (by omega))
              obtain ⟨wf1, wf2, wf3⟩ := X0.out.ps.pl.pk.wf t ht
              have XS := hide (fun (w' : World) (h : Snd w3 b g n (m + 1) (sendS s a t x) w') => X0.out.snd h)
              have ob := or_bit (s t).f a wf2 ha64
              have os := (or_small (s t).w x wf1 hx2).1
              have U1 := hide (upd_send1 s a t x)
              have U2 := hide (upd_send2 s a t x)
              have U3a := hide (upd_send3 s a t x)
              have U3b := hide (upd_send4 s a t x)
              have WI : Hid (wI s t = ((s t).w : Int)) := hide rfl
              have FI : Hid (fI s t = ((s t).f : Int)) := hide rfl
              have RI : Hid (rI s t = ((s t).r : Int)) := hide rfl
              clear X0
              generalize (s t).w ||| x = ww at *
              generalize withN (s t).f (a : Int) = ff at *
              generalize (s t).w = w0 at *
              generalize (s t).f = f0 at *
              generalize (s t).r = r0 at *
              by_cases hw : w0 = 0
              · have U3 := hide (U3a.out hw)
                have D := hide (decide_eq_true hw)
                have hq : ((w0 : Int) == 0) = true := by simp [hw]
                clear U3a U3b hw
                rw [D.out] at SD
                go_upto_region 30 with (go_at_call 8; refine SD.out.mono ?_; rintro e w4 ⟨rfl, G⟩)
                have X1 := hide (XS.out _ G.out)
                clear SD G XS D c0 c1 c2 c3
                obtain ⟨c0, c1, c2, c3⟩ := X1.out.cells
                obtain ⟨d1, d2, d3, e1, e2, e3⟩ := X1.out.at t ht64
                simp only [] at c0 c1 c2 c3
                rw [WI.out] at d1
                rw [FI.out] at d2
                rw [RI.out] at d3
                go_upto_region 36 with fail
                go_upto_region 37 with fail
                have X2 := hide (X1.out.set3 t ht64 ((r0 : Int) + 1))
                generalize w4.setCell ⟨g1 + 1 + 1, t, none⟩ (.int .i64 ((r0 : Int) + 1)) = w5 at *
                clear c0 c1 c2 c3 d1 d2 d3 e1 e2 e3
                obtain ⟨c0, c1, c2, c3⟩ := X2.out.cells
                obtain ⟨d1, d2, d3, e1, e2, e3⟩ := X2.out.at t ht64
                simp only [] at c0 c1 c2 c3
                rw [WI.out] at d1
                rw [FI.out] at d2
                clear d3
                go_region
                have X3 := hide ((X2.out.set1 t ht64 (ww : Int)).drew)
                generalize (w5.setCell ⟨g1, t, none⟩ (.int .i64 (ww : Int))).drew = w6 at *
                clear c0 c1 c2 c3 d1 d2 e1 e2 e3
                obtain ⟨c0, c1, c2, c3⟩ := X3.out.cells
                obtain ⟨d1, d2, d3, e1, e2, e3⟩ := X3.out.at t ht64
                simp only [] at c0 c1 c2 c3
                rw [FI.out] at d2
                clear d1 d3
                go_upto_region 38 with fail
                go_region
                have X4 := hide ((X3.out.set2 t ht64 (ff : Int)).drew)
                go_wp2
                go_meet
                case rel => exact ⟨m + 1, sendS s a t x, by omega, hide (X4.out.ps.fit (fun j _ => U1.out j) (fun j _ => U2.out j) (fun j _ => U3.out j))⟩
              · have U3 := hide (U3b.out hw)
                have D := hide (decide_eq_false hw)
                have hq : ((w0 : Int) == 0) = false := by simp; omega
                clear U3a U3b hw
                rw [D.out] at SD
                go_upto_region 30 with (go_at_call 8; refine SD.out.mono ?_; rintro e w4 ⟨rfl, G⟩)
                have X1 := hide (XS.out _ G.out)
                clear SD G XS D c0 c1 c2 c3
                obtain ⟨c0, c1, c2, c3⟩ := X1.out.cells
                obtain ⟨d1, d2, d3, e1, e2, e3⟩ := X1.out.at t ht64
                simp only [] at c0 c1 c2 c3
                rw [WI.out] at d1
                rw [FI.out] at d2
                rw [RI.out] at d3
                go_upto_region 37 with fail
                go_region
                have X3 := hide ((X1.out.set1 t ht64 (ww : Int)).drew)
                generalize (w4.setCell ⟨g1, t, none⟩ (.int .i64 (ww : Int))).drew = w6 at *
                clear c0 c1 c2 c3 d1 d2 e1 e2 e3 d3
                obtain ⟨c0, c1, c2, c3⟩ := X3.out.cells
                obtain ⟨d1, d2, d3, e1, e2, e3⟩ := X3.out.at t ht64
                simp only [] at c0 c1 c2 c3
                rw [FI.out] at d2
                clear d1 d3
                go_upto_region 38 with fail
                go_region
                have X4 := hide ((X3.out.set2 t ht64 (ff : Int)).drew)
                go_wp2
                go_meet
                case rel => exact ⟨m + 1, sendS s a t x, by omega, hide (X4.out.ps.fit (fun j _ => U1.out j) (fun j _ => U2.out j) (fun j _ => U3.out j))⟩
            · have hf : (TB && GB) = false := by simpa using hgt
              have SN := hide (send_no X0.out.ps.pl.pk fr tt wh (by rw [HT.out, HG.out]; exact hf))
              have PP := hide X0.out.ps
              clear hgt X0 HG HT
              cases GB with
              | false =>
                clear hf
                go_wp2_with (go_at_call 8; refine SN.out.mono ?_; rintro e w' ⟨rfl, hw⟩; have hw2 := hw.symm; clear hw; subst hw2)
                go_meet
                case rel => exact ⟨m, s, by omega, PP⟩
              | true =>
                obtain rfl : TB = false := by simpa using hf
                clear hf
                go_wp2_with (go_at_call 8; refine SN.out.mono ?_; rintro e w' ⟨rfl, hw⟩; have hw2 := hw.symm; clear hw; subst hw2)
                go_meet
                case rel => exact ⟨m, s, by omega, PP⟩
            -- ]]send
          · have n0 : (op == 0) = false := by simp [h0]
            by_cases h1 : op = 1
            · subst h1
              -- [[all
              cases GB with
              | false =>
                have SN := hide (all_no X0.out.ps.pl.pk fr wh HG.out)
                have PP := hide X0.out.ps
                clear X0 HG HT
                go_wp2_with (go_at_call 9; refine SN.out.mono ?_; rintro e w' ⟨rfl, hw⟩; have hw2 := hw.symm; clear hw; subst hw2)
                go_meet
                case rel => exact ⟨m, s, by omega, PP⟩
              | true =>
                obtain ⟨⟨a, rfl, ha⟩, x, rfl, hx1, hx2⟩ := mayB_to HG.out
                clear HG HT
                have ha64 : a < 64 := Nat.lt_of_lt_of_le ha h2
                have SD := hide (all_any X0.out.ps.pl.pk a x ha hx1 hx2 (by omega))
                have WF := hide X0.out.ps.pl.pk.wf
                have XS := hide (fun (w' : World) (h : Snd w3 b g n (m + 1) (allS s a x n) w') => X0.out.snd h)
                clear X0
                go_upto_region 41 with (go_at_call 9; refine SD.out.mono ?_; rintro e w4 ⟨rfl, G⟩)
                have X1 : Hid (PX W w4 b g n (m + 1) (allS s a x n) g1 (g1 + 1) (g1 + 1 + 1) (wI (allS s a x 0)) (fI (allS s a x 0)) (rI (allS s a x 0)) xb ⟨1, a, tt, x⟩) := hide (by rw [allS_zero]; exact XS.out _ G.out)
                clear SD G XS c0 c1 c2 c3
                go_wp2
                go_loopw [18, 19] (fun u i wr => ∃ j : Nat, j ≤ n ∧ u = .int .u64 (rung s a j : Nat) ∧ i = .int .i64 j ∧ Hid (PX W wr b g n (m + 1) (allS s a x n) g1 (g1 + 1) (g1 + 1 + 1) (wI (allS s a x j)) (fI (allS s a x j)) (rI (allS s a x j)) xb ⟨1, a, tt, x⟩)) (fun _ i _ => n - (intOf i).toNat)
                case atStart => exact ⟨0, by omega, rfl, rfl, X1⟩
                case round =>
                  clear X1
                  obtain ⟨j, hj, rfl, rfl, X⟩ := hrel
                  by_cases hjn : j < n
                  · have hj1 : (j : Int) < (n : Int) := by omega
                    have hj64 : j < 64 := Nat.lt_of_lt_of_le hjn h2
                    by_cases hja : j = a
                    · subst hja
                      have hq : ((j : Int) == (j : Int)) = true := by simp
                      have e1 := hide (show rung s j (j + 1) = rung s j j by simp [rung])
                      have e2 : Hid (PX W wr b g n (m + 1) (allS s j x n) g1 (g1 + 1) (g1 + 1 + 1) (wI (allS s j x (j + 1))) (fI (allS s j x (j + 1))) (rI (allS s j x (j + 1))) xb ⟨1, j, tt, x⟩) := hide (by rw [allS_self]; exact X.out)
                      obtain ⟨c0, c1, c2, c3⟩ := X.out.cells
                      simp only [] at c0 c1 c2 c3
                      clear X
                      go_wp2
                      go_roundw
                      case rel => exact ⟨j + 1, by omega, by rw [e1.out], by go_num, e2⟩
                      case measure => simp [intOf]; omega
                    · have hqa : ((j : Int) == (a : Int)) = false := by simp; omega
                      have WI : Hid (wI (allS s a x j) j = ((s j).w : Int)) := hide (by unfold wI; rw [allS_at])
                      have FI : Hid (fI (allS s a x j) j = ((s j).f : Int)) := hide (by unfold fI; rw [allS_at])
                      have RI : Hid (rI (allS s a x j) j = ((s j).r : Int)) := hide (by unfold rI; rw [allS_at])
                      obtain ⟨wf1, wf2, wf3⟩ := WF.out j hjn
                      have ob := or_bit (s j).f a wf2 ha64
                      have or := or_bit (rung s a j) j (rung_lt s a j) hj64
                      have os := (or_small (s j).w x wf1 hx2).1
                      have U1 := hide (upd_send1 (allS s a x j) a j x)
                      have U2 := hide (upd_send2 (allS s a x j) a j x)
                      have U3a := hide (upd_send3 (allS s a x j) a j x)
                      have U3b := hide (upd_send4 (allS s a x j) a j x)
                      rw [allS_step s a x j hja, allS_at] at U1 U2 U3a
                      rw [allS_step s a x j hja] at U3b
                      rw [allS_at] at U3b
                      have RGa := hide (fun hw : (s j).w = 0 => show rung s a (j + 1) = withN (rung s a j) (j : Int) by simp [rung, hw, hja])
                      have RGb := hide (fun hw : (s j).w ≠ 0 => show rung s a (j + 1) = rung s a j by simp [rung, hw])
                      obtain ⟨c0, c1, c2, c3⟩ := X.out.cells
                      obtain ⟨d1, d2, d3, e1, e2, e3⟩ := X.out.at j hj64
                      simp only [] at c0 c1 c2 c3
                      rw [WI.out] at d1
                      rw [FI.out] at d2
                      rw [RI.out] at d3
                      generalize (s j).w ||| x = ww at *
                      generalize withN (s j).f (a : Int) = ff at *
                      generalize withN (rung s a j) (j : Int) = rr at *
                      generalize (s j).w = w0 at *
                      generalize (s j).f = f0 at *
                      generalize (s j).r = r0 at *
                      by_cases hw : w0 = 0
                      · have U3 := hide (U3a.out hw)
                        have RG := hide (RGa.out hw)
                        have hq : ((w0 : Int) == 0) = true := by simp [hw]
                        clear U3a U3b hw RGa RGb
                        go_upto_region 51 with fail
                        go_upto_region 52 with fail
                        have X2 := hide (X.out.set3 j hj64 ((r0 : Int) + 1))
                        generalize wr.setCell ⟨g1 + 1 + 1, j, none⟩ (.int .i64 ((r0 : Int) + 1)) = w5 at *
                        clear c0 c1 c2 c3 d1 d2 d3 e1 e2 e3
                        obtain ⟨c0, c1, c2, c3⟩ := X2.out.cells
                        obtain ⟨d1, d2, d3, e1, e2, e3⟩ := X2.out.at j hj64
                        simp only [] at c0 c1 c2 c3
                        rw [WI.out] at d1
                        rw [FI.out] at d2
                        clear d3
                        go_region
                        have X3 := hide ((X2.out.set1 j hj64 (ww : Int)).drew)
                        generalize (w5.setCell ⟨g1, j, none⟩ (.int .i64 (ww : Int))).drew = w6 at *
                        clear c0 c1 c2 c3 d1 d2 e1 e2 e3
                        obtain ⟨c0, c1, c2, c3⟩ := X3.out.cells
                        obtain ⟨d1, d2, d3, e1, e2, e3⟩ := X3.out.at j hj64
                        simp only [] at c0 c1 c2 c3
                        rw [FI.out] at d2
                        clear d1 d3
                        go_upto_region 53 with fail
                        go_region
                        have X4 := hide ((X3.out.set2 j hj64 (ff : Int)).drew)
                        go_wp2
                        go_roundw
                        case rel => exact ⟨j + 1, by omega, by rw [RG.out], by go_num, hide (X4.out.fit (fun j _ => U1.out j) (fun j _ => U2.out j) (fun j _ => U3.out j))⟩
                        case measure => simp [intOf]; omega
                      · have U3 := hide (U3b.out hw)
                        have RG := hide (RGb.out hw)
                        have hq : ((w0 : Int) == 0) = false := by simp; omega
                        clear U3a U3b hw RGa RGb
                        go_upto_region 52 with fail
                        go_region
                        have X3 := hide ((X.out.set1 j hj64 (ww : Int)).drew)
                        generalize (wr.setCell ⟨g1, j, none⟩ (.int .i64 (ww : Int))).drew = w6 at *
                        clear c0 c1 c2 c3 d1 d2 e1 e2 e3 d3
                        obtain ⟨c0, c1, c2, c3⟩ := X3.out.cells
                        obtain ⟨d1, d2, d3, e1, e2, e3⟩ := X3.out.at j hj64
                        simp only [] at c0 c1 c2 c3
                        rw [FI.out] at d2
                        clear d1 d3
                        go_upto_region 53 with fail
                        go_region
                        have X4 := hide ((X3.out.set2 j hj64 (ff : Int)).drew)
                        go_wp2
                        go_roundw
                        case rel => exact ⟨j + 1, by omega, by rw [RG.out], by go_num, hide (X4.out.fit (fun j _ => U1.out j) (fun j _ => U2.out j) (fun j _ => U3.out j))⟩
                        case measure => simp [intOf]; omega
                  · obtain rfl : j = n := by omega
                    go_wp2
                    go_meet
                    case rel => exact ⟨m + 1, allS s a x j, by omega, hide X.out.ps⟩
              -- ]]all
            · have n1 : (op == 1) = false := by simp [h1]
              -- [[read
              cases TB with
              | false =>
                have SN := hide (read_no X0.out.ps.pl.pk tt HT.out)
                have PP := hide X0.out.ps
                clear X0 HG HT
                go_wp2_with (go_at_call 10; refine SN.out.mono ?_; rintro e w' ⟨rfl, hw⟩; have hw2 := hw.symm; clear hw; subst hw2)
                go_meet
                case rel => exact ⟨m, s, by omega, PP⟩
              | true =>
                obtain ⟨t, rfl, ht⟩ := hasB_to HT.out
                clear HG HT
                have ht64 : t < 64 := Nat.lt_of_lt_of_le ht h2
                have WI : Hid (wI s t = ((s t).w : Int)) := hide rfl
                have FI : Hid (fI s t = ((s t).f : Int)) := hide rfl
                by_cases hw : (s t).w = 0
                · have RN := hide (read_none X0.out.ps.pl.pk t ht hw)
                  have XS := hide (fun (w' : World) (h : Snd w3 b g n m s w') => X0.out.snd h)
                  rw [hw] at WI
                  clear X0 c0
                  go_upto_region 22 with (go_at_call 10; refine RN.out.mono ?_; rintro e w4 ⟨rfl, G⟩)
                  have X1 := hide (XS.out _ G.out)
                  clear RN G XS c1 c2 c3 hw
                  obtain ⟨c0, c1, c2, c3⟩ := X1.out.cells
                  obtain ⟨d1, d2, d3, e1, e2, e3⟩ := X1.out.at t ht64
                  simp only [] at c0 c1 c2 c3
                  rw [WI.out] at d1
                  have d1' : w4.cell? ⟨g1, t, none⟩ = some (.int .i64 0) := d1
                  clear d1 d2 d3
                  go_wp2
                  go_meet
                  case rel => exact ⟨m, s, by omega, hide X1.out.ps⟩
                · have RN := hide (read_any X0.out.ps.pl.pk t ht hw)
                  have XS := hide (fun (w' : World) (h : Snd w3 b g n m (readS s t) w') => X0.out.snd h)
                  have hq : (((s t).w : Int) == 0) = false := by simp; omega
                  have hq2 : (((s t).w : Int) != ((s t).w : Int)) = false := by simp
                  have hq3 : (((s t).f : Int) != ((s t).f : Int)) = false := by simp
                  have U1 := hide (upd_read1 s t)
                  have U2 := hide (upd_read2 s t)
                  have U3 := hide (upd_read3 s t)
                  clear X0 c0 hw
                  generalize (s t).w = w0 at *
                  generalize (s t).f = f0 at *
                  go_upto_region 22 with (go_at_call 10; refine RN.out.mono ?_; rintro e w4 ⟨rfl, G⟩)
                  have X1 := hide (XS.out _ G.out)
                  clear RN G XS c1 c2 c3
                  obtain ⟨c0, c1, c2, c3⟩ := X1.out.cells
                  obtain ⟨d1, d2, d3, e1, e2, e3⟩ := X1.out.at t ht64
                  simp only [] at c0 c1 c2 c3
                  rw [WI.out] at d1
                  rw [FI.out] at d2
                  clear d3
                  go_upto_region 21 with fail
                  have Y1 := hide (X1.out.set1 t ht64 0)
                  have Y2 := hide (X1.out.set2 t ht64 0)
                  obtain ⟨_, _, y1, _⟩ := Y1.out.cells
                  obtain ⟨_, _, y2, _⟩ := Y2.out.cells
                  obtain ⟨_, y3, _, _, y5, _⟩ := Y1.out.at t ht64
                  obtain ⟨y4, _, _, y6, _, _⟩ := Y2.out.at t ht64
                  rw [FI.out] at y3
                  rw [WI.out] at y4
                  simp only [] at y1 y2
                  have ht4 : (t : Int) < 64 := by omega
                  clear Y1 Y2
                  go_region
                  have X2 := hide (((X1.out.set1 t ht64 0).set2 t ht64 0).drew)
                  go_wp2
                  go_meet
                  case rel => exact ⟨m, readS s t, by omega, hide (X2.out.ps.fit (fun j _ => U1.out j) (fun j _ => U2.out j) (fun j _ => U3.out j))⟩
              -- ]]read
        case rest => as_aux_lemma =>
          obtain ⟨m', s', hm', Y⟩ := hcut
          clear X0
          -- [[rest
          have LO := hide (fun (j : Nat) (hj : j < n) => Y.out.pl.pk.wf j hj)
          go_upto_region 57 with fail
          go_wp2
          go_loopw [23, 24] (fun u i wr => ∃ j : Nat, j ≤ n ∧ u = .int .u64 (waits s' j : Nat) ∧ i = .int .i64 j ∧ Hid (PS W wr b g n m' s' g1 (g1 + 1) (g1 + 1 + 1) (wI s') (fI s') (rI s'))) (fun _ i _ => n - (intOf i).toNat)
          case atStart => exact ⟨0, by omega, rfl, rfl, Y⟩
          case round =>
            clear Y
            obtain ⟨j, hj, rfl, rfl, X⟩ := hrel
            by_cases hjn : j < n
            · have hj1 : (j : Int) < (n : Int) := by omega
              have hj64 : j < 64 := Nat.lt_of_lt_of_le hjn h2
              have d1 : wr.cell? ⟨g1, j, none⟩ = some (.int .i64 ((s' j).w : Int)) := X.out.a1.cell j hj64
              have d3 : wr.cell? ⟨g1 + 1 + 1, j, none⟩ = some (.int .i64 ((s' j).r : Int)) := X.out.a3.cell j hj64
              have SE := hide (fun nq => see_any (X.out.pl.pk.below (bel_drewN (Below.refl wr.heap.size wr) nq)) j hjn)
              have CO := hide (fun nq => count_any (X.out.pl.pk.below (bel_drewN (Below.refl wr.heap.size wr) nq)) j hjn)
              have or := or_bit (waits s' j) j (waits_lt s' j) hj64
              have RGa := hide (fun hw : (s' j).w = 0 => show waits s' (j + 1) = waits s' j by simp [waits, hw])
              have RGb := hide (fun hw : (s' j).w ≠ 0 => show waits s' (j + 1) = withN (waits s' j) (j : Int) by simp [waits, hw])
              have XD := hide (fun nq => X.out.bel (bel_drewN (Below.refl wr.heap.size wr) nq))
              have ha : (((s' j).w : Int) != ((s' j).w : Int)) = false := by simp
              have hb2 : (((s' j).r : Int) != ((s' j).r : Int)) = false := by simp
              clear X LO
              generalize withN (waits s' j) (j : Int) = rr at *
              generalize (s' j).w = w0 at *
              generalize (s' j).r = r0 at *
              by_cases hw : w0 = 0
              · have RG := hide (RGa.out hw)
                have hq : ((w0 : Int) != 0) = false := by simp [hw]
                clear hw RGa RGb
                go_upto_region 62 with fail
                go_quiet ((first
                  | (go_at_call 12; exact Calls.quiet_of_same (SE.out _))
                  | (go_at_call 14; exact Calls.quiet_of_same (CO.out _))))
                go_wp2
                go_roundw
                case rel => exact ⟨j + 1, by omega, by rw [RG.out], by go_num, hide (XD.out _)⟩
                case measure => simp [intOf]; omega
              · have RG := hide (RGb.out hw)
                have hq : ((w0 : Int) != 0) = true := by simp; omega
                clear hw RGa RGb
                go_upto_region 62 with fail
                go_quiet ((first
                  | (go_at_call 12; exact Calls.quiet_of_same (SE.out _))
                  | (go_at_call 14; exact Calls.quiet_of_same (CO.out _))))
                go_wp2
                go_roundw
                case rel => exact ⟨j + 1, by omega, by rw [RG.out], by go_num, hide (XD.out _)⟩
                case measure => simp [intOf]; omega
            · obtain rfl : j = n := by omega
              have WA := hide (waits_any X.out.pl.pk)
              have hwt : (((waits s' j : Nat) : Int) != ((waits s' j : Nat) : Int)) = false := by simp
              generalize waits s' j = wv at *
              go_wp2_with (go_at_call 13; refine WA.out.mono ?_; rintro e w5 ⟨rfl, HB⟩)
              go_roundw
              case rel => exact ⟨k + 1, by omega, by go_num, m', s', hm', hide (X.out.bel HB.out)⟩
              case measure => simp [intOf]; omega
          -- ]]rest
    · -- [[end
      go_wp2
      go_ret
      exact ⟨rfl, S.out.pl.below⟩
      -- ]]end
end Go.Proofs.Ytigofonhibaojaa.Con
