/- AlarmRegisters' walk. -/
import Derived.Test.YtmdendffbjhdbaaAKnown
namespace Go.Proofs.Ytmdendffbjhdbaa.Con
open Go.RowKit Go.Proofs.Ytmdendffbjhdbaa.Hq
set_option linter.unusedVariables false
set_option linter.unusedSimpArgs false
attribute [local go_sem ↓] Go.wp_at_zero Go.wp_at_succ
/-- Alarms of the call's own. -/
structure AX (W wr : World) (ab n : Nat) (d : AD) : Prop where
  at' : d.At wr
  below : Below W.heap.size W wr
  past : ∀ k, d.Foot k → W.heap.size ≤ k
  eab : d.ab = ab
  en : d.hs.length = n
section
variable {W wr w' : World} {ab n : Nat} {d : AD}
theorem AX.did {R : Int → Int → Int → Prop} (a : AX W wr ab n d) (h : Did wr d R w') : ∃ d', Hid (AX W w' ab n d') := by
  obtain ⟨d', a', s, e1, e2, e3, e4⟩ := h
  have hz := a.below.size
  exact ⟨d', hide ⟨a', a.below.trans (s.toBelow hz a.past), s.past hz a.past, e1.trans a.eab, e3.trans a.en⟩⟩
theorem AX.more (a : AX W wr ab n d) (hB : Below wr.heap.size wr w') : AX W w' ab n d := ⟨a.at'.below hB, a.below.trans (hB.mono a.below.size), a.past, a.eab, a.en⟩
theorem AX.drew (a : AX W wr ab n d) : AX W wr.drew ab n d := a.more (bel_drew (Below.refl _ _))
theorem armX (a : AX W wr ab n d) (c id t : Int) : Calls Try.prog 9 #[.pointer (some ⟨ab, 0, none⟩), .int .i64 c, .int .i64 id, .int .i64 t] wr fun e w' => ∃ r d', e = .returned (.int .i64 r) ∧ Hid (AX W w' ab n d') := by
  obtain rfl := a.eab
  by_cases h : armOk d c id t
  · refine (arm_ok a.at' h).mono ?_
    rintro e w' ⟨rfl, hD⟩
    obtain ⟨d', h'⟩ := a.did hD
    exact ⟨_, d', rfl, h'⟩
  · refine (arm_bad a.at' h).mono ?_
    rintro e w' ⟨rfl, rfl⟩
    exact ⟨_, d, rfl, hide a⟩
theorem moveX (a : AX W wr ab n d) (c to id : Int) (hid : in64 id) : Calls Try.prog 10 #[.pointer (some ⟨ab, 0, none⟩), .int .i64 c, .int .i64 to, .int .i64 id] wr fun e w' => ∃ r d', e = .returned (.int .i64 r) ∧ Hid (AX W w' ab n d') := by
  obtain rfl := a.eab
  by_cases h : isCpu d c ∧ isCpu d to
  · by_cases hh : ∃ t, Has d c id t
    · obtain ⟨t, hh⟩ := hh
      refine (move_ok a.at' h.2 hh).mono ?_
      rintro e w' ⟨rfl, hD⟩
      obtain ⟨d', h'⟩ := a.did hD
      exact ⟨_, d', rfl, h'⟩
    · refine (move_none a.at' hid h.1 h.2 fun t ht => hh ⟨t, ht⟩).mono ?_
      rintro e w' ⟨rfl, rfl⟩
      exact ⟨_, d, rfl, hide a⟩
  · refine (move_bad a.at' h).mono ?_
    rintro e w' ⟨rfl, rfl⟩
    exact ⟨_, d, rfl, hide a⟩
theorem regX (a : AX W wr ab n d) (c : Int) : Calls Try.prog 11 #[.pointer (some ⟨ab, 0, none⟩), .int .i64 c] wr fun e w' => e = .returned (.tuple #[.int .i64 (regOf d c).1, .bool (regOf d c).2]) ∧ Hid (AX W w' ab n d) := by
  obtain rfl := a.eab
  refine (register_any a.at' c).mono ?_
  rintro e w' ⟨rfl, hB⟩
  exact ⟨rfl, hide (a.more hB)⟩
theorem nextX (a : AX W wr ab n d) : Calls Try.prog 12 #[.pointer (some ⟨ab, 0, none⟩)] wr fun e w' => e = .returned (.tuple #[.int .i64 (nextTo d n).1, .bool (nextTo d n).2]) ∧ Hid (AX W w' ab n d) := by
  obtain rfl := a.eab
  obtain rfl := a.en
  refine (next_any a.at').mono ?_
  rintro e w' ⟨rfl, hB⟩
  exact ⟨rfl, hide (a.more hB)⟩
theorem newX (h1 : 1 ≤ n) (h2 : n ≤ 64) (hB : Below W.heap.size W wr) : Calls Try.prog 8 #[.int .i64 (n : Int)] wr fun e w' => ∃ ab d, e = .returned (.tuple #[.pointer (some ⟨ab, 0, none⟩), .int .i64 0]) ∧ Hid (AX W w' ab n d) := by
  refine (newA_ok h1 h2 wr).mono ?_
  rintro e w' ⟨d, rfl, r⟩
  exact ⟨_, d, rfl, hide ⟨r.at', hB.trans (r.below.mono hB.size), fun k hk => Nat.le_trans hB.size (r.past k hk), rfl, r.len⟩⟩
end
set_option maxHeartbeats 4000000 in
set_option maxRecDepth 100000 in
theorem regs_main {n N : Nat} (h1 : 1 ≤ n) (h2 : n ≤ 64) (hN : N ≤ 60) (p : Option Addr) (c : Nat) (Z : Nat → Nat → Int) (W : World) (hwf : ∀ j i, j < N → i < 5 → in64 (Z j i))
    (hp : 0 < N → ∃ b o, p = some ⟨b, o, none⟩ ∧ b < W.heap.size ∧ ∀ j i, j < N → i < 5 → W.cell? ⟨b, o + (j * 5 + i), none⟩ = some (.int .i64 (Z j i))) :
    Calls Try.prog 6 #[.int .i64 (n : Int), .slice p N c] W fun e w' => e = .returned (.bool true) ∧ Below W.heap.size W w' := by
  have hA := hide (awake_any W)
  have NW := hide (fun wr hB => newX (n := n) (W := W) (wr := wr) h1 h2 hB)
  have HW := hide hwf
  have HP := hide hp
  clear hwf hp
  have g1 : ¬ (n : Int) < 1 := by omega
  have g2 : ¬ (n : Int) > 64 := by omega
  have g3 : ¬ (N : Int) > 60 := by omega
  go_enter Try.func6, Try.ntmps6
  go_wp2_with (first
    | (go_at_call 7; refine hA.out.mono ?_; rintro e w0 ⟨rfl, hB0⟩; have HB0 := hide hB0; clear hB0)
    | (go_at_call 8; refine (NW.out _ HB0.out).mono ?_; rintro e w1 ⟨ab, d0, rfl, S0⟩))
  clear hA NW HB0
  go_loopw [7] (fun i wr => ∃ k : Nat, k ≤ N ∧ i = .int .i64 k ∧ ∃ d, Hid (AX W wr ab n d)) (fun i _ => N - (intOf i).toNat)
  case atStart => exact ⟨0, by omega, rfl, _, S0⟩
  case round =>
    obtain ⟨k, hk, rfl, d, S⟩ := hrel
    by_cases hkn : k < N
    · have k1 : (k : Int) < (N : Int) := by omega
      obtain ⟨b, o, rfl, hb, hc⟩ := HP.out (by omega)
      have HC : Hid (∀ w' i, Below W.heap.size W w' → i < 5 → w'.cell? ⟨b, o + (k * 5 + i), none⟩ = some (.int .i64 (Z k i))) := hide (fun w' i hB hi => (hB.cell (p := ⟨b, o + (k * 5 + i), none⟩) hb).trans (hc k i hkn hi))
      have I3 := hide (HW.out k 3 hkn (by omega))
      have CC : Hid (∀ w' d', AX W w' ab n d' → w'.cell? ⟨b, o + k * 5, none⟩ = some (.int .i64 (Z k 0)) ∧ w'.cell? ⟨b, o + k * 5 + 1, none⟩ = some (.int .i64 (Z k 1)) ∧ w'.cell? ⟨b, o + k * 5 + 2, none⟩ = some (.int .i64 (Z k 2)) ∧ w'.cell? ⟨b, o + k * 5 + 3, none⟩ = some (.int .i64 (Z k 3)) ∧ w'.cell? ⟨b, o + k * 5 + 4, none⟩ = some (.int .i64 (Z k 4))) := hide (fun w' d' a => ⟨HC.out w' 0 a.below (by omega), HC.out w' 1 a.below (by omega), HC.out w' 2 a.below (by omega), HC.out w' 3 a.below (by omega), HC.out w' 4 a.below (by omega)⟩)
      clear hc HC
      generalize Z k 0 = op at *
      generalize Z k 1 = cp at *
      generalize Z k 2 = to at *
      generalize Z k 3 = id at *
      generalize Z k 4 = tk at *
      obtain ⟨q0, q1, q2, q3, q4⟩ := CC.out _ _ S.out
      by_cases h0 : op = 0
      · subst h0
        have A := hide (fun c id t => armX S.out.drew c id t)
        go_wp2
        go_region_held3 (fun w' => w'.cell? ⟨b, o + k * 5 + 1, none⟩ = some (.int .i64 cp) ∧ w'.cell? ⟨b, o + k * 5 + 3, none⟩ = some (.int .i64 id) ∧ w'.cell? ⟨b, o + k * 5 + 4, none⟩ = some (.int .i64 tk)) (first | go_keep | (obtain ⟨z0, z1, z2, z3, z4⟩ := CC.out _ _ S1.out; exact ⟨z1, z3, z4⟩))
          ((go_at_call 9; refine (A.out _ _ _).mono ?_; rintro e w1 ⟨r1, d1, rfl, S1⟩))
        clear A q0 q1 q2 q3 q4
        have NS := hide (nextTo_succ d1)
        have N0 : Hid (nextTo d1 0 = (0, false)) := hide rfl
        have NX := hide (fun w' a => nextX (W := W) (wr := w') (ab := ab) (n := n) (d := d1) a)
        generalize nextTo d1 = nt at *
        go_wp2
        go_loopw [8, 9, 10] (fun l s i wr => ∃ k : Nat, k ≤ n ∧ i = .int .i64 k ∧ l = .int .i64 (nt k).1 ∧ s = .bool (nt k).2 ∧ Hid (AX W wr ab n d1)) (fun _ _ i _ => n - (intOf i).toNat)
        case atStart => exact ⟨0, by omega, rfl, by rw [N0.out], by rw [N0.out], S1⟩
        case round => as_aux_lemma =>
          obtain ⟨j, hj, rfl, rfl, rfl, S2⟩ := hrel
          by_cases hjn : j < n
          · have j1 : (j : Int) < (n : Int) := by omega
            have A := hide (regX S2.out (j : Int))
            obtain ⟨⟨q1, q2⟩, hq⟩ : ∃ q, nt (j + 1) = q := ⟨_, rfl⟩
            have Q := hide hq
            have E : Hid ((q1, q2) = nx (nt j) (regOf d1 j)) := hide (by rw [← hq, NS.out j])
            clear hq NX
            generalize nt j = p at *
            obtain ⟨p1, p2⟩ := p
            generalize regOf d1 (j : Int) = r at *
            obtain ⟨r1, r2⟩ := r
            clear NS
            cases r2
            · have e := E.out
              simp [nx] at e
              obtain ⟨rfl, rfl⟩ := e
              go_wp2_with (go_at_call 11; refine A.out.mono ?_; rintro e w1 ⟨rfl, S3⟩)
              go_roundw
              case rel => exact ⟨j + 1, by omega, by go_num, by rw [Q.out], by rw [Q.out], S3⟩
              case measure => simp [intOf]; omega
            · cases p2
              · have e := E.out
                simp [nx] at e
                obtain ⟨rfl, rfl⟩ := e
                go_wp2_with (go_at_call 11; refine A.out.mono ?_; rintro e w1 ⟨rfl, S3⟩)
                go_roundw
                case rel => exact ⟨j + 1, by omega, by go_num, by rw [Q.out], by rw [Q.out], S3⟩
                case measure => simp [intOf]; omega
              · by_cases hlt : r1 < p1
                · have e := E.out
                  simp [nx, hlt] at e
                  obtain ⟨rfl, rfl⟩ := e
                  go_wp2_with (go_at_call 11; refine A.out.mono ?_; rintro e w1 ⟨rfl, S3⟩)
                  go_roundw
                  case rel => exact ⟨j + 1, by omega, by go_num, by rw [Q.out], by rw [Q.out], S3⟩
                  case measure => simp [intOf]; omega
                · have e := E.out
                  simp [nx, hlt] at e
                  obtain ⟨rfl, rfl⟩ := e
                  go_wp2_with (go_at_call 11; refine A.out.mono ?_; rintro e w1 ⟨rfl, S3⟩)
                  go_roundw
                  case rel => exact ⟨j + 1, by omega, by go_num, by rw [Q.out], by rw [Q.out], S3⟩
                  case measure => simp [intOf]; omega
          · obtain rfl : j = n := by omega
            have A := hide (NX.out _ S2.out)
            clear NX NS
            generalize nt j = p at *
            obtain ⟨p1, p2⟩ := p
            go_wp2_with (go_at_call 12; refine A.out.mono ?_; rintro e w1 ⟨rfl, S3⟩)
            go_roundw
            case rel => exact ⟨k + 1, by omega, by go_num, d1, S3⟩
            case measure => simp [intOf]; omega
      · have n0 : (op == 0) = false := by simp [h0]
        have A := hide (fun c to => moveX S.out.drew c to id I3.out)
        go_wp2
        go_region_held3 (fun w' => w'.cell? ⟨b, o + k * 5 + 1, none⟩ = some (.int .i64 cp) ∧ w'.cell? ⟨b, o + k * 5 + 2, none⟩ = some (.int .i64 to) ∧ w'.cell? ⟨b, o + k * 5 + 3, none⟩ = some (.int .i64 id)) (first | go_keep | (obtain ⟨z0, z1, z2, z3, z4⟩ := CC.out _ _ S1.out; exact ⟨z1, z2, z3⟩))
          ((go_at_call 10; refine (A.out _ _).mono ?_; rintro e w1 ⟨r1, d1, rfl, S1⟩))
        clear A q0 q1 q2 q3 q4
        have NS := hide (nextTo_succ d1)
        have N0 : Hid (nextTo d1 0 = (0, false)) := hide rfl
        have NX := hide (fun w' a => nextX (W := W) (wr := w') (ab := ab) (n := n) (d := d1) a)
        generalize nextTo d1 = nt at *
        go_wp2
        go_loopw [8, 9, 10] (fun l s i wr => ∃ k : Nat, k ≤ n ∧ i = .int .i64 k ∧ l = .int .i64 (nt k).1 ∧ s = .bool (nt k).2 ∧ Hid (AX W wr ab n d1)) (fun _ _ i _ => n - (intOf i).toNat)
        case atStart => exact ⟨0, by omega, rfl, by rw [N0.out], by rw [N0.out], S1⟩
        case round => as_aux_lemma =>
          obtain ⟨j, hj, rfl, rfl, rfl, S2⟩ := hrel
          by_cases hjn : j < n
          · have j1 : (j : Int) < (n : Int) := by omega
            have A := hide (regX S2.out (j : Int))
            obtain ⟨⟨q1, q2⟩, hq⟩ : ∃ q, nt (j + 1) = q := ⟨_, rfl⟩
            have Q := hide hq
            have E : Hid ((q1, q2) = nx (nt j) (regOf d1 j)) := hide (by rw [← hq, NS.out j])
            clear hq NX
            generalize nt j = p at *
            obtain ⟨p1, p2⟩ := p
            generalize regOf d1 (j : Int) = r at *
            obtain ⟨r1, r2⟩ := r
            clear NS
            cases r2
            · have e := E.out
              simp [nx] at e
              obtain ⟨rfl, rfl⟩ := e
              go_wp2_with (go_at_call 11; refine A.out.mono ?_; rintro e w1 ⟨rfl, S3⟩)
              go_roundw
              case rel => exact ⟨j + 1, by omega, by go_num, by rw [Q.out], by rw [Q.out], S3⟩
              case measure => simp [intOf]; omega
            · cases p2
              · have e := E.out
                simp [nx] at e
                obtain ⟨rfl, rfl⟩ := e
                go_wp2_with (go_at_call 11; refine A.out.mono ?_; rintro e w1 ⟨rfl, S3⟩)
                go_roundw
                case rel => exact ⟨j + 1, by omega, by go_num, by rw [Q.out], by rw [Q.out], S3⟩
                case measure => simp [intOf]; omega
              · by_cases hlt : r1 < p1
                · have e := E.out
                  simp [nx, hlt] at e
                  obtain ⟨rfl, rfl⟩ := e
                  go_wp2_with (go_at_call 11; refine A.out.mono ?_; rintro e w1 ⟨rfl, S3⟩)
                  go_roundw
                  case rel => exact ⟨j + 1, by omega, by go_num, by rw [Q.out], by rw [Q.out], S3⟩
                  case measure => simp [intOf]; omega
                · have e := E.out
                  simp [nx, hlt] at e
                  obtain ⟨rfl, rfl⟩ := e
                  go_wp2_with (go_at_call 11; refine A.out.mono ?_; rintro e w1 ⟨rfl, S3⟩)
                  go_roundw
                  case rel => exact ⟨j + 1, by omega, by go_num, by rw [Q.out], by rw [Q.out], S3⟩
                  case measure => simp [intOf]; omega
          · obtain rfl : j = n := by omega
            have A := hide (NX.out _ S2.out)
            clear NX NS
            generalize nt j = p at *
            obtain ⟨p1, p2⟩ := p
            go_wp2_with (go_at_call 12; refine A.out.mono ?_; rintro e w1 ⟨rfl, S3⟩)
            go_roundw
            case rel => exact ⟨k + 1, by omega, by go_num, d1, S3⟩
            case measure => simp [intOf]; omega
    · obtain rfl : k = N := by omega
      go_wp2
      go_ret
      exact ⟨rfl, S.out.below⟩
set_option maxHeartbeats 1600000 in
theorem regs_of (cpus : Int) (p : Option Addr) (c N : Nat) (Z : Nat → Nat → Int) (W : World) (hl : N ≤ 9223372036854775807) (hwf : ∀ j i, j < N → i < 5 → in64 (Z j i))
    (hp : 0 < N → ∃ b o, p = some ⟨b, o, none⟩ ∧ b < W.heap.size ∧ ∀ j i, j < N → i < 5 → W.cell? ⟨b, o + (j * 5 + i), none⟩ = some (.int .i64 (Z j i))) :
    Calls Try.prog 6 #[.int .i64 cpus, .slice p N c] W fun e w' => e = .returned (.bool true) ∧ Below W.heap.size W w' := by
  by_cases k1 : cpus < 1
  · have hA := hide (awake_any W)
    clear hwf hp
    go_enter Try.func6, Try.ntmps6
    go_wp2_with (go_at_call 7; refine hA.out.mono ?_; rintro e w0 ⟨rfl, hB0⟩; have HB0 := hide hB0; clear hB0)
    go_ret
    exact ⟨rfl, HB0.out⟩
  · by_cases k2 : cpus > 64
    · have hA := hide (awake_any W)
      clear hwf hp
      go_enter Try.func6, Try.ntmps6
      go_wp2_with (go_at_call 7; refine hA.out.mono ?_; rintro e w0 ⟨rfl, hB0⟩; have HB0 := hide hB0; clear hB0)
      go_ret
      exact ⟨rfl, HB0.out⟩
    · by_cases k3 : (N : Int) > 60
      · have hA := hide (awake_any W)
        clear hwf hp
        go_enter Try.func6, Try.ntmps6
        go_wp2_with (go_at_call 7; refine hA.out.mono ?_; rintro e w0 ⟨rfl, hB0⟩; have HB0 := hide hB0; clear hB0)
        go_ret
        exact ⟨rfl, HB0.out⟩
      · obtain ⟨n, rfl⟩ := Int.eq_ofNat_of_zero_le (show 0 ≤ cpus by omega)
        exact regs_main (by omega) (by omega) (by omega) p c Z W hwf hp
end Go.Proofs.Ytmdendffbjhdbaa.Con
