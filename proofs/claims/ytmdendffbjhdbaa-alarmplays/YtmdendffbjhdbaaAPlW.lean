/- AlarmPlays' walk. -/
import Derived.Test.YtmdendffbjhdbaaAPl
import Derived.Deep.CutBlock
namespace Go.Proofs.Ytmdendffbjhdbaa.Con
open Go.RowKit Go.Proofs.Ytmdendffbjhdbaa.Hq
set_option linter.unusedVariables false
set_option linter.unusedSimpArgs false
attribute [local go_sem ↓] Go.wp_at_zero Go.wp_at_succ
/-- Both at the end of a round: the same row. -/
structure PQ (W wr : World) (ab n rb : Nat) (now : Int) (v : Value) (L : List Rg) (m : Nat) : Prop where
  al : AL W wr ab n now L
  rl : Rl wr rb n now v L
  past : W.heap.size ≤ rb
  gi : GI now L m
  t0 : 0 ≤ now
  t1 : now ≤ top2
theorem PQ.lay {W wr : World} {ab n rb m : Nat} {now : Int} {v : Value} {L : List Rg} (h : PQ W wr ab n rb now v L m) (cs : Array Value) : PM W (wr.alloc (.cells cs 45)) ab n now L rb now v L wr.heap.size cs := by
  have hB : Below wr.heap.size wr (wr.alloc (.cells cs 45)) := (Below.refl _ _).alloc (Nat.le_refl _) _
  exact ⟨h.al.more hB, h.rl.below hB, h.past, heap_alloc_new _ _⟩
/-- Both in a round, with the row's fact. -/
structure PX (W wr : World) (ab n rb : Nat) (now : Int) (v : Value) (L : List Rg) (m xb : Nat) (cs : Array Value) : Prop where
  pm : PM W wr ab n now L rb now v L xb cs
  gi : GI now L m
  t0 : 0 ≤ now
  t1 : now ≤ top2
theorem PX.drew {W wr : World} {ab n rb m xb : Nat} {now : Int} {v : Value} {L : List Rg} {cs : Array Value} (h : PX W wr ab n rb now v L m xb cs) : PX W wr.drew ab n rb now v L m xb cs := ⟨h.pm.drew, h.gi, h.t0, h.t1⟩
theorem PX.more {W wr w' : World} {ab n rb m xb : Nat} {now : Int} {v : Value} {L : List Rg} {cs : Array Value} (h : PX W wr ab n rb now v L m xb cs) (hB : Below wr.heap.size wr w') : PX W w' ab n rb now v L m xb cs := ⟨h.pm.more hB, h.gi, h.t0, h.t1⟩
theorem PX.pq {W wr : World} {ab n rb m xb : Nat} {now : Int} {v : Value} {L : List Rg} {cs : Array Value} (h : PX W wr ab n rb now v L m xb cs) : PQ W wr ab n rb now v L m := ⟨h.pm.al, h.pm.rl, h.pm.past, h.gi, h.t0, h.t1⟩
theorem next_is {now : Int} {L : List Rg} {m : Nat} (g : GI now L m) : IsNext L (atR L 0).2.2 (decide (0 < L.length)) := by
  constructor
  · intro e
    have : L = [] := List.eq_nil_of_length_eq_zero (by simpa using e)
    subst this
    exact ⟨rfl, rfl⟩
  · intro e
    have h0 : 0 < L.length := by simpa using e
    refine ⟨⟨_, _, atR_mem h0⟩, ?_⟩
    intro c i t hm
    obtain ⟨j, hj, e⟩ := mem_atR hm
    rcases Nat.eq_zero_or_pos j with rfl | hp
    · rw [← e]; exact Int.le_refl _
    · have P := List.pairwise_iff_getElem.1 g.srt 0 j h0 hj hp
      have e1 := atR_eq h0
      have e2 := atR_eq hj
      rw [List.getElem?_eq_getElem h0] at e1
      rw [List.getElem?_eq_getElem hj] at e2
      rw [Option.some.inj e1, Option.some.inj e2, ← e] at P
      unfold rlt at P
      simp only at P
      omega
theorem rreg_is {W : World} {rb n : Nat} {now : Int} {v : Value} {L : List Rg} (h : Rl W rb n now v L) (hs : L.Pairwise rlt) {c x : Int} {b : Bool} (hr : IsReg L c x b) : Calls Try.prog 20 #[.pointer (some ⟨rb, 0, none⟩), .int .i64 c] W fun e w' => e = .returned (.tuple #[.int .i64 x, .bool b]) ∧ w' = W := by
  obtain ⟨x', b', hr', hC⟩ := rreg_any h hs c
  obtain ⟨rfl, rfl⟩ := hr'.uniq hr
  exact hC
theorem rd_nil (W : World) : RdC W W.heap.size 3 (.slice none 0 0) ([] : List Rg).length (ringsV []) := ⟨by simp [rv0], none, 0, rfl, Nat.le_refl _, Nat.zero_le _, fun h => by simp at h⟩
def adj (now at_ : Int) : Int := if 0 ≤ at_ ∧ at_ ≤ 1099511627776 then now + at_ else at_
set_option maxHeartbeats 8000000 in
set_option maxRecDepth 100000 in
theorem plays_main {n N : Nat} (h1 : 1 ≤ n) (h2 : n ≤ 64) (hN : N ≤ 80) (p : Option Addr) (c : Nat) (Z : Nat → Nat → Int) (W : World) (hwf : ∀ j i, j < N → i < 5 → in64 (Z j i))
    (hp : 0 < N → ∃ b o, p = some ⟨b, o, none⟩ ∧ b < W.heap.size ∧ ∀ j i, j < N → i < 5 → W.cell? ⟨b, o + (j * 5 + i), none⟩ = some (.int .i64 (Z j i))) :
    Calls Try.prog 4 #[.int .i64 (n : Int), .slice p N c] W fun e w' => e = .returned (.bool true) ∧ Below W.heap.size W w' := by
  have hA := hide (awake_any W)
  have NW := hide (fun wr hB => newL_ok (n := n) (W := W) (wr := wr) h1 h2 hB)
  have HW := hide hwf
  have HP := hide hp
  clear hwf hp
  have g1 : ¬ (n : Int) < 1 := by omega
  have g2 : ¬ (n : Int) > 64 := by omega
  have g3 : ¬ (N : Int) > 80 := by omega
  go_enter Try.func4, Try.ntmps4
  go_wp2_with (first
    | (go_at_call 7; refine hA.out.mono ?_; rintro e w0 ⟨rfl, hB0⟩; have HB0 := hide hB0; clear hB0)
    | (go_at_call 8; refine (NW.out _ HB0.out).mono ?_; rintro e w1 ⟨ab, rfl, S0, B0⟩))
  clear hA NW HB0 B0
  have J0 : Hid (PQ W (w1.alloc (.cells #[.int .i64 (n : Int), .int .i64 0, .slice none 0 0] 43)) ab n w1.heap.size 0 (.slice none 0 0) [] 0) := hide (by
    have hB : Below w1.heap.size w1 (w1.alloc (.cells #[.int .i64 (n : Int), .int .i64 0, .slice none 0 0] 43)) := (Below.refl _ _).alloc (Nat.le_refl _) _
    refine ⟨S0.out.more hB, ⟨heap_alloc_new _ _, ⟨by simp [rv0], none, 0, rfl, Nat.le_refl _, Nat.zero_le _, fun h => by simp at h⟩, fun k e => by simp [Value.ownBlock] at e, by simp⟩, S0.out.bel.size, ⟨List.Pairwise.nil, by simp, by simp⟩, by omega, by unfold top2; omega⟩)
  generalize w1.heap.size = rb at *
  generalize w1.alloc (.cells #[.int .i64 (n : Int), .int .i64 0, .slice none 0 0] 43) = w2 at *
  clear S0
  go_loopw [8] (fun i wr => ∃ k : Nat, k ≤ N ∧ i = .int .i64 k ∧ ∃ now v L, Hid (PQ W wr ab n rb now v L k)) (fun i _ => N - (intOf i).toNat)
  case atStart => exact ⟨0, by omega, rfl, _, _, _, J0⟩
  case round =>
    obtain ⟨k, hk, rfl, now, v, L, S⟩ := hrel
    by_cases hkn : k < N
    · have k1 : (k : Int) < (N : Int) := by omega
      obtain ⟨b, o, rfl, hb, hc⟩ := HP.out (by omega)
      have HC : Hid (∀ i, i < 5 → wr.cell? ⟨b, o + (k * 5 + i), none⟩ = some (.int .i64 (Z k i))) := hide (fun i hi => (S.out.al.bel.cell (p := ⟨b, o + (k * 5 + i), none⟩) hb).trans (hc k i hkn hi))
      have I3 := hide (HW.out k 3 hkn (by omega))
      have q0 : wr.cell? ⟨b, o + k * 5, none⟩ = some (.int .i64 (Z k 0)) := HC.out 0 (by omega)
      have q1 : wr.cell? ⟨b, o + k * 5 + 1, none⟩ = some (.int .i64 (Z k 1)) := HC.out 1 (by omega)
      have q2 : wr.cell? ⟨b, o + k * 5 + 2, none⟩ = some (.int .i64 (Z k 2)) := HC.out 2 (by omega)
      have q3 : wr.cell? ⟨b, o + k * 5 + 3, none⟩ = some (.int .i64 (Z k 3)) := HC.out 3 (by omega)
      have q4 : wr.cell? ⟨b, o + k * 5 + 4, none⟩ = some (.int .i64 (Z k 4)) := HC.out 4 (by omega)
      clear hc HC
      generalize Z k 0 = op at *
      generalize Z k 1 = cp at *
      generalize Z k 2 = tc at *
      generalize Z k 3 = id at *
      generalize Z k 4 = tk at *
      have X0 : Hid (PX W (wr.alloc (.cells #[.int .i64 op, .int .i64 cp, .int .i64 tc, .int .i64 id, .int .i64 tk] 45)) ab n rb now v L k wr.heap.size #[.int .i64 op, .int .i64 cp, .int .i64 tc, .int .i64 id, .int .i64 tk]) := hide ⟨S.out.lay _, S.out.gi, S.out.t0, S.out.t1⟩
      have n0 := S.out.t0
      have n1 : now ≤ 4611686018427387904 := S.out.t1
      go_upto_region 14 with fail
      generalize wr.heap.size = xb at *
      generalize wr.alloc (.cells #[.int .i64 op, .int .i64 cp, .int .i64 tc, .int .i64 id, .int .i64 tk] 45) = w3 at *
      clear q0 q1 q2 q3 q4 S
      have c1 : w3.cell? ⟨rb, 1, none⟩ = some (.int .i64 now) := X0.out.pm.rl.cells.2.1
      go_cut [80] from 63 to 227 (fun s wx => s = .bool (decide (0 ≤ tk ∧ tk ≤ 1099511627776)) ∧ wx = w3)
      case first => as_aux_lemma =>
        have E : Hid (decide (0 ≤ tk ∧ tk ≤ 1099511627776) = (decide (0 ≤ tk) && decide (tk ≤ 1099511627776))) := hide (by simp)
        by_cases t0 : 0 ≤ tk
        · by_cases t1 : tk ≤ 1099511627776
          · have D : Hid (decide (0 ≤ tk ∧ tk ≤ 1099511627776) = true) := hide (decide_eq_true ⟨t0, t1⟩)
            go_wp2
            go_meet
            case rel => exact ⟨by rw [D.out], rfl⟩
          · have D : Hid (decide (0 ≤ tk ∧ tk ≤ 1099511627776) = false) := hide (decide_eq_false fun h => t1 h.2)
            go_wp2
            go_meet
            case rel => exact ⟨by rw [D.out], rfl⟩
        · have D : Hid (decide (0 ≤ tk ∧ tk ≤ 1099511627776) = false) := hide (decide_eq_false fun h => t0 h.1)
          go_wp2
          go_meet
          case rel => exact ⟨by rw [D.out], rfl⟩
      case rest => as_aux_lemma =>
       obtain ⟨rfl, hw⟩ := hcut
       have hw2 := hw.symm; clear hw; subst hw2
       have AD : Hid (adj now tk = if decide (0 ≤ tk ∧ tk ≤ 1099511627776) = true then now + tk else tk) := hide (by unfold adj; by_cases h : 0 ≤ tk ∧ tk ≤ 1099511627776 <;> simp [h])
       have AB : Hid (decide (0 ≤ tk ∧ tk ≤ 1099511627776) = true → 0 ≤ tk ∧ tk ≤ 1099511627776) := hide (fun h => of_decide_eq_true h)
       generalize decide (0 ≤ tk ∧ tk ≤ 1099511627776) = BB at *
       go_upto_if 80 with fail
       go_cut [10] from 63 to 227 (fun s wx => s = .int .i64 (adj now tk) ∧ wx = w3)
       case first => as_aux_lemma =>
        cases BB with
        | true =>
          have e := AD.out
          rw [if_pos rfl] at e
          have hb := AB.out rfl
          generalize adj now tk = T at *
          subst e
          clear AD AB
          go_wp2
          go_meet
          case rel => exact ⟨rfl, rfl⟩
        | false =>
          have e := AD.out
          rw [if_neg (by simp)] at e
          generalize adj now tk = T at *
          subst e
          clear AD AB
          go_wp2
          go_meet
          case rel => exact ⟨rfl, rfl⟩
       case rest => as_aux_lemma =>
        obtain ⟨rfl, hw⟩ := hcut
        have hw2 := hw.symm; clear hw; subst hw2
        clear c1 AD AB
        generalize adj now tk = T at *
        have bz : w3.cell? ⟨xb, 0, none⟩ = some (.int .i64 op) := X0.out.pm.cell rfl
        go_upto_block 2 with fail
        clear bz
        go_cut [11] from 63 to 227 (fun s wx => s = .bool true ∧ ∃ now' v' L', Hid (PX W wx ab n rb now' v' L' (k + 1) xb #[.int .i64 op, .int .i64 cp, .int .i64 tc, .int .i64 id, .int .i64 tk]))
        case first => as_aux_lemma =>
          have GI0 := hide X0.out.gi
          have UQ := hide X0.out.pm.al.uq
          have FT : Hid (∀ c i t, (c, i, t) ∈ L → 0 ≤ i ∧ i < 1024 ∧ t ≤ top2) := hide (fun c i t hm => by have := X0.out.pm.al.fit hm; exact ⟨this.2.2.1, this.2.2.2.1, this.2.2.2.2.2⟩)
          have CK : Hid (∀ (w' : World) na La nr v Lr, PM W w' ab n na La rb nr v Lr xb #[.int .i64 op, .int .i64 cp, .int .i64 tc, .int .i64 id, .int .i64 tk] → w'.cell? ⟨xb, 0, none⟩ = some (.int .i64 op) ∧ w'.cell? ⟨xb, 1, none⟩ = some (.int .i64 cp) ∧ w'.cell? ⟨xb, 2, none⟩ = some (.int .i64 tc) ∧ w'.cell? ⟨xb, 3, none⟩ = some (.int .i64 id)) := hide (fun w' _ _ _ _ _ h => ⟨h.cell rfl, h.cell rfl, h.cell rfl, h.cell rfl⟩)
          have CKA : Hid (∀ (w' : World) na La nr v Lr, PM W w' ab n na La rb nr v Lr xb #[.int .i64 op, .int .i64 cp, .int .i64 tc, .int .i64 id, .int .i64 tk] → w'.cell? ⟨xb, 1, none⟩ = some (.int .i64 cp) ∧ w'.cell? ⟨xb, 3, none⟩ = some (.int .i64 id)) := hide (fun w' _ _ _ _ _ h => ⟨h.cell rfl, h.cell rfl⟩)
          have CKB : Hid (∀ (w' : World) na La nr v Lr, PM W w' ab n na La rb nr v Lr xb #[.int .i64 op, .int .i64 cp, .int .i64 tc, .int .i64 id, .int .i64 tk] → w'.cell? ⟨xb, 1, none⟩ = some (.int .i64 cp) ∧ w'.cell? ⟨xb, 2, none⟩ = some (.int .i64 tc) ∧ w'.cell? ⟨xb, 3, none⟩ = some (.int .i64 id)) := hide (fun w' _ _ _ _ _ h => ⟨h.cell rfl, h.cell rfl, h.cell rfl⟩)
          have P0 := hide X0.out.pm
          have T0 := hide X0.out.t0
          have T1 := hide X0.out.t1
          obtain ⟨b0, b1, b2, b3⟩ := CK.out _ _ _ _ _ _ P0.out
          clear X0
          by_cases h0 : op = 0
          · subst h0
            -- [[arm
            go_wp2
            go_region_held3 (fun w' => w'.cell? ⟨xb, 1, none⟩ = some (.int .i64 cp) ∧ w'.cell? ⟨xb, 3, none⟩ = some (.int .i64 id))
              (first | go_keep | exact CKA.out _ _ _ _ _ _ M2.out | exact CKA.out _ _ _ _ _ _ M1.out)
              ((first
                | (go_at_call 9; refine (pm_arm (by first | exact P0.out.drew | exact P0.out) cp id T).mono ?_; rintro e w5 ⟨rfl, M1⟩)
                | (go_at_call 16; refine (pm_rarm (by exact M1.out) GI0.out UQ.out (by omega) cp id T).mono ?_; rintro e w6 ⟨rfl, v6, M2⟩)))
            go_wp2
            go_meet
            case rel => exact ⟨by first | rfl | simp, now, v6, _, hide ⟨M2.out, GI0.out.arm n cp id T, T0.out, T1.out⟩⟩
            -- ]]arm
          · have n0' : (op == 0) = false := by simp [h0]
            by_cases h1 : op = 1
            · subst h1
              -- [[can
              go_wp2_with (first
                | (go_at_call 17; refine (pm_rcan P0.out GI0.out UQ.out cp id).mono ?_; rintro e w5 ⟨r5, v5, rfl, M1⟩; obtain ⟨b0', b1', b2', b3'⟩ := CK.out _ _ _ _ _ _ M1.out)
                | (go_at_call 13; refine (pm_can M1.out cp id I3.out).mono ?_; rintro e w6 ⟨rfl, M2⟩))
              go_meet
              case rel => exact ⟨by first | rfl | simp, now, v5, _, hide ⟨M2.out, (GI0.out.can cp id).mono (by omega), T0.out, T1.out⟩⟩
              -- ]]can
            · have n1' : (op == 1) = false := by simp [h1]
              by_cases h2 : op = 2
              · subst h2
                -- [[mov
                go_wp2
                go_region_held3 (fun w' => w'.cell? ⟨xb, 1, none⟩ = some (.int .i64 cp) ∧ w'.cell? ⟨xb, 2, none⟩ = some (.int .i64 tc) ∧ w'.cell? ⟨xb, 3, none⟩ = some (.int .i64 id))
                  (first | go_keep | exact CKB.out _ _ _ _ _ _ M2.out | exact CKB.out _ _ _ _ _ _ M1.out)
                  ((first
                    | (go_at_call 10; refine (pm_mov (by first | exact P0.out.drew | exact P0.out) cp tc id I3.out).mono ?_; rintro e w5 ⟨rfl, M1⟩)
                    | (go_at_call 18; refine (pm_rmov (by exact M1.out) GI0.out UQ.out (by omega) FT.out cp tc id).mono ?_; rintro e w6 ⟨rfl, v6, M2⟩)))
                go_wp2
                go_meet
                case rel => exact ⟨by first | rfl | simp, now, v6, _, hide ⟨M2.out, GI0.out.mov n cp tc id, T0.out, T1.out⟩⟩
                -- ]]mov
              · have n2' : (op == 2) = false := by simp [h2]
                -- [[to
                by_cases hok : now ≤ T ∧ T ≤ top2
                · have TA := hide (pm_to P0.out GI0.out hok.1 hok.2)
                  have TB : Hid (∀ B v1 w5, PM W w5 ab n T (dn T L) rb now v L xb #[.int .i64 op, .int .i64 cp, .int .i64 tc, .int .i64 id, .int .i64 tk] → RRow B w5 v1 (up T L) → _) := hide (fun B v1 w5 h hr => pm_rto (B := B) (v1 := v1) h GI0.out hok.1 hok.2 hr)
                  have HL : Hid ((up T L).length ≤ 100000) := hide (by have := List.length_filter_le (fun x : Rg => decide (x.2.2 ≤ T)) L; have := GI0.out.len; unfold up; omega)
                  have GD := hide ((GI0.out.dn T).mono (show k ≤ k + 1 by omega))
                  have TT : Hid (0 ≤ T ∧ T ≤ top2) := hide ⟨by have := T0.out; omega, hok.2⟩
                  clear hok b0 b1 b2 b3
                  obtain ⟨b0, _⟩ := CK.out _ _ _ _ _ _ P0.out
                  go_wp2_with (first
                    | (go_at_call 14; refine TA.out.mono ?_; rintro e w5 ⟨v1, rfl, M1, R1⟩)
                    | (go_at_call 19; refine (TB.out _ _ _ M1.out R1.out).mono ?_; rintro e w6 ⟨v2, v6, rfl, M2, D1, D2⟩)
                    | (go_at_call 15; refine (rings_same D1.out D2.out HL.out).mono ?_; rintro e w7 ⟨rfl, hB⟩; have M3 := hide (M2.out.more hB); clear hB))
                  go_meet
                  case rel => exact ⟨by first | rfl | simp, T, v6, _, hide ⟨M3.out, GD.out, TT.out.1, TT.out.2⟩⟩
                · have TA := hide (toL_bad P0.out.al hok)
                  have TB := hide (rto_bad P0.out.rl hok)
                  clear hok
                  go_wp2_with (first
                    | (go_at_call 14; refine TA.out.mono ?_; rintro e w5 ⟨rfl, hw⟩; have hw2 := hw.symm; clear hw; subst hw2)
                    | (go_at_call 19; refine TB.out.mono ?_; rintro e w5 ⟨rfl, hw⟩; have hw2 := hw.symm; clear hw; subst hw2)
                    | (go_at_call 15; refine (rings_same (rs := []) (rd_nil _) (rd_nil _) (by simp)).mono ?_; rintro e w7 ⟨rfl, hB⟩; have M3 := hide (P0.out.more hB); clear hB))
                  go_meet
                  case rel => exact ⟨by first | rfl | simp, now, v, L, hide ⟨M3.out, GI0.out.mono (by omega), T0.out, T1.out⟩⟩
                -- ]]to
        case rest => as_aux_lemma =>
          obtain ⟨rfl, now', v', L', Y⟩ := hcut
          clear X0
          -- [[rest
          obtain ⟨x, bb, hreg, _⟩ := rreg_any Y.out.pm.rl Y.out.gi.srt cp
          have RA := hide (regL Y.out.pm.al hreg)
          have RB : Hid (∀ w5, Rl w5 rb n now' v' L' → _) := hide (fun w5 h => rreg_is h Y.out.gi.srt hreg)
          have RN : Hid (∀ w5, AL W w5 ab n now' L' → _) := hide (fun w5 h => nextL h (next_is Y.out.gi))
          have CK : Hid (∀ (w' : World) na La nr v Lr, PM W w' ab n na La rb nr v Lr xb #[.int .i64 op, .int .i64 cp, .int .i64 tc, .int .i64 id, .int .i64 tk] → w'.cell? ⟨xb, 1, none⟩ = some (.int .i64 cp)) := hide (fun w' _ _ _ _ _ h => h.cell rfl)
          have b1 := CK.out _ _ _ _ _ _ Y.out.pm
          have LN := Y.out.gi.len
          obtain ⟨p', cap', hv', hn', hm'⟩ := Y.out.pm.rl.form
          clear hreg
          by_cases h0 : 0 < L'.length
          · have D0 := decide_eq_true h0
            have h0' : (0 : Int) < (L'.length : Int) := by omega
            have IT : Hid (∀ w6, Rl w6 rb n now' v' L' → ∃ b o, p' = some ⟨b, o, none⟩ ∧ w6.cell? ⟨b, o + 2, none⟩ = some (.int .i64 (atR L' 0).2.2)) := hide (fun w6 h => by
              rw [hv'] at h
              obtain ⟨b, o, e, _, _, _, x2⟩ := h.item 0 h0
              exact ⟨b, o, e, by simpa using x2⟩)
            have CE : Hid (∀ w6, Rl w6 rb n now' v' L' → w6.cell? ⟨rb, 1, none⟩ = some (.int .i64 now') ∧ w6.cell? ⟨rb, 2, none⟩ = some (.slice p' L'.length cap')) := hide (fun w6 h => by
              have := h.cells; rw [hv'] at this; exact ⟨this.2.1, this.2.2⟩)
            rw [D0] at RN
            clear D0
            generalize (atR L' 0).2.2 = z at *
            go_wp2_with (first
              | (go_at_call 11; refine RA.out.mono ?_; rintro e w5 ⟨rfl, S5, B5⟩; have Y5 := hide (Y.out.more B5.out); have b1' := CK.out _ _ _ _ _ _ Y5.out.pm; clear S5 B5)
              | (go_at_call 20; refine (RB.out _ Y5.out.pm.rl).mono ?_; rintro e w6 ⟨rfl, hw⟩; have hw2 := hw.symm; clear hw; subst hw2)
              | (go_at_call 12; refine (RN.out _ Y5.out.pm.al).mono ?_; rintro e w6 ⟨rfl, S6, B6⟩; have Y6 := hide (Y5.out.more B6.out); clear S6 B6))
            obtain ⟨e1, e2⟩ := CE.out _ Y6.out.pm.rl
            obtain ⟨bk, ok, rfl, e3⟩ := IT.out _ Y6.out.pm.rl
            have NOW := hide (fun nq => nowL (Y6.out.pm.al.more (bel_drewN (Below.refl w6.heap.size w6) nq)))
            clear RA RB RN CK IT CE b1 b1' hv' hn' hm'
            refine wp_region_quiet_lit (by as_aux_lemma => kernel_rfl) (by as_aux_lemma => kernel_rfl) ?_
            repeat (go_big_quiet_step ((go_at_call 21; exact Calls.quiet_of_same (NOW.out _))))
            refine wpQuiet_nil ?_
            intro _ hw'
            obtain ⟨nq, hw''⟩ := hw'
            subst hw''
            go_wp2
            go_roundw
            case rel => exact ⟨k + 1, by omega, by go_num, now', v', L', hide (Y6.out.more (bel_drewN (Below.refl _ _) _)).pq⟩
            case measure => simp [intOf]; omega
          · have D0 := decide_eq_false h0
            have hl0 : L'.length = 0 := by omega
            have CE : Hid (∀ w6, Rl w6 rb n now' v' L' → w6.cell? ⟨rb, 1, none⟩ = some (.int .i64 now') ∧ w6.cell? ⟨rb, 2, none⟩ = some (.slice p' 0 cap')) := hide (fun w6 h => by
              have := h.cells; rw [hv', hl0] at this; exact ⟨this.2.1, this.2.2⟩)
            rw [D0] at RN
            clear D0 LN
            generalize (atR L' 0).2.2 = z at *
            go_wp2_with (first
              | (go_at_call 11; refine RA.out.mono ?_; rintro e w5 ⟨rfl, S5, B5⟩; have Y5 := hide (Y.out.more B5.out); have b1' := CK.out _ _ _ _ _ _ Y5.out.pm; clear S5 B5)
              | (go_at_call 20; refine (RB.out _ Y5.out.pm.rl).mono ?_; rintro e w6 ⟨rfl, hw⟩; have hw2 := hw.symm; clear hw; subst hw2)
              | (go_at_call 12; refine (RN.out _ Y5.out.pm.al).mono ?_; rintro e w6 ⟨rfl, S6, B6⟩; have Y6 := hide (Y5.out.more B6.out); clear S6 B6))
            obtain ⟨e1, e2⟩ := CE.out _ Y6.out.pm.rl
            have NOW := hide (fun nq => nowL (Y6.out.pm.al.more (bel_drewN (Below.refl w6.heap.size w6) nq)))
            clear RA RB RN CK CE b1 b1' hv' hn' hm' hl0
            refine wp_region_quiet_lit (by as_aux_lemma => kernel_rfl) (by as_aux_lemma => kernel_rfl) ?_
            repeat (go_big_quiet_step ((go_at_call 21; exact Calls.quiet_of_same (NOW.out _))))
            refine wpQuiet_nil ?_
            intro _ hw'
            obtain ⟨nq, hw''⟩ := hw'
            subst hw''
            go_wp2
            go_roundw
            case rel => exact ⟨k + 1, by omega, by go_num, now', v', L', hide (Y6.out.more (bel_drewN (Below.refl _ _) _)).pq⟩
            case measure => simp [intOf]; omega
          -- ]]rest
    · obtain rfl : k = N := by omega
      go_wp2
      go_ret
      exact ⟨rfl, S.out.al.bel⟩
end Go.Proofs.Ytmdendffbjhdbaa.Con
