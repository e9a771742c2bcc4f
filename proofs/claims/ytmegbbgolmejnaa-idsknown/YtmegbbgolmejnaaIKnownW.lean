/- IdsKnown's walk. -/
import Derived.Test.YtmegbbgolmejnaaIKnown
namespace Go.Proofs.Ytmegbbgolmejnaa.Con
open Go.RowKit
set_option linter.unusedVariables false
set_option linter.unusedSimpArgs false
set_option maxRecDepth 100000 in
set_option maxHeartbeats 8000000 in
theorem known_walk (W0 : World) : Calls Try.prog 3 #[] W0 fun e w' => e = .returned (.bool true) ∧ Below W0.heap.size W0 w' := by
  have hA := hide (awake_any W0)
  have N1 := hide (fun W => new_any 0 W)
  have N2 := hide (fun W => new_any 1000 W)
  unfold NewPost at N1 N2
  rw [show held 0 = 1 by decide] at N1
  rw [show held 1000 = 256 by decide, tk_zero] at N2
  have M1 := hide (fun W => make_any 256 0 W)
  have M2 := hide (fun W => make_any 0 16777216 W)
  have M3 := hide (fun W => make_any (-1) 0 W)
  have M4 := hide (fun W => make_any 255 16777215 W)
  unfold MakePost at M1 M2 M3 M4
  rw [show fine 256 0 = false by decide] at M1
  rw [show fine 0 16777216 = false by decide] at M2
  rw [show fine (-1) 0 = false by decide] at M3
  rw [show fine 255 16777215 = true by decide, show nm (Int.toNat 255) (Int.toNat 16777215) = 4294967295 by decide] at M4
  go_enter Try.func3, Try.ntmps3
  go_wp2_with (go_at_call 7; refine hA.out.mono ?_; rintro e w0 ⟨rfl, hB0⟩; have HB0 := hide hB0; clear hB0)
  refine (N1.out _).mono ?_
  rintro e w1 ⟨t1, r1, rfl, q1, b1, p1, p1'⟩
  have A1 := hide (And.intro q1 (And.intro b1 (And.intro p1 p1')))
  clear q1 b1 p1 p1'
  go_wp2_with fail
  refine (N2.out _).mono ?_
  rintro e w2 ⟨t2, r2, rfl, q1, b1, p1, p1'⟩
  have A2 := hide (And.intro q1 (And.intro b1 (And.intro p1 p1')))
  clear q1 b1 p1 p1'
  have S0 : Hid (S2 W0 w2 t1 r1 1 [(0, false)] t2 r2 256 (tk 0)) := hide (known_start HB0.out A1.out A2.out)
  clear A1 A2 HB0 hA N1 N2
  go_wp2_with fail
  -- a, _ := t.Take()
  refine (s2_take (l' := [(0, true)]) S0.out 0 (free0 0 _) 0 rfl rfl).mono ?_
  rintro e w3 ⟨rfl, S1⟩
  clear S0
  go_wp2_with fail
  refine (take_full S1.out.a1 (full1 0)).mono ?_
  rintro e w' ⟨rfl, rfl⟩
  go_wp2_with fail
  refine (s2_is S1.out 0 (by omega) 0 known_isE.1).mono ?_
  rintro e w4 ⟨rfl, S2⟩
  clear S1
  go_wp2_with fail
  refine (s2_is S2.out 1 (by omega) 2 known_isE.2.1).mono ?_
  rintro e w5 ⟨rfl, S3⟩
  clear S2
  go_wp2_with fail
  refine (s2_is S3.out 256 (by omega) 2 known_isE.2.2.1).mono ?_
  rintro e w6 ⟨rfl, S4⟩
  clear S3
  go_wp2_with fail
  refine (s2_give S4.out 0 (by omega) 0 known_isE.1 known_isE.2.2.2.1).mono ?_
  rintro e w7 ⟨rfl, S5⟩
  clear S4
  go_wp2_with fail
  refine (s2_is S5.out 0 (by omega) 10 known_isE.2.2.2.2.1).mono ?_
  rintro e w8 ⟨rfl, S6⟩
  clear S5
  go_wp2_with fail
  refine (s2_give S6.out 0 (by omega) 10 known_isE.2.2.2.2.1 known_isE.2.2.2.2.2.1).mono ?_
  rintro e w9 ⟨rfl, S7⟩
  clear S6
  go_wp2_with fail
  refine (s2_is S7.out 256 (by omega) 2 known_isE.2.2.2.2.2.2).mono ?_
  rintro e w10 ⟨rfl, S8⟩
  clear S7
  go_wp2_with fail
  have AT := hide (at_any S8.out.a1 0)
  unfold AtPost at AT
  rw [if_neg (by decide), show (decide ((0 : Int) ≤ 0) && (sp [(1, false)] (Int.toNat 0)).2) = false by decide] at AT
  refine AT.out.mono ?_
  rintro e w' ⟨rfl, rfl⟩
  clear AT
  go_wp2_with fail
  refine (s2_take (l' := [(1, true)]) S8.out 0 (free0 1 _) 256 rfl rfl).mono ?_
  rintro e w11 ⟨rfl, S9⟩
  clear S8
  go_wp2_with fail
  have AT := hide (at_any S9.out.a1 0)
  unfold AtPost at AT
  rw [if_pos (by decide), show (decide ((0 : Int) ≤ 0) && (sp [(1, true)] (Int.toNat 0)).2) = true by decide, show nm (Int.toNat 0) (sp [(1, true)] (Int.toNat 0)).1 = 256 by decide] at AT
  refine AT.out.mono ?_
  rintro e w' ⟨rfl, rfl⟩
  clear AT
  go_wp2_with fail
  refine (M1.out _).mono ?_
  rintro e w' ⟨rfl, rfl⟩
  go_wp2_with fail
  refine (M2.out _).mono ?_
  rintro e w' ⟨rfl, rfl⟩
  go_wp2_with fail
  refine (M3.out _).mono ?_
  rintro e w' ⟨rfl, rfl⟩
  go_wp2_with fail
  refine (M4.out _).mono ?_
  rintro e w' ⟨rfl, rfl⟩
  clear M1 M2 M3 M4
  go_wp2_with fail
  go_loopw [28] (fun s wr => ∃ x : Nat, x ≤ 256 ∧ s = .int .i64 x ∧ Hid (S2 W0 wr t1 r1 1 [(1, true)] t2 r2 256 (tk x))) (fun s _ => 256 - (intOf s).toNat)
  case atStart => exact ⟨0, by omega, rfl, S9⟩
  case round =>
    obtain ⟨x, hx, rfl, S⟩ := hrel
    by_cases hx2 : x < 256
    · have hx1 : (x : Int) < 256 := by omega
      have T := hide (s2_take2 S.out x (tk_free x hx2) x (tk_nm x hx2) (tk_set x hx2))
      have P := hide (fun w => place_any x (by omega) w)
      rw [Nat.mod_eq_of_lt hx2] at P
      go_wp2_with (first
        | (go_at_call 9; refine T.out.mono ?_; rintro e w' ⟨rfl, S'⟩)
        | (go_at_call 14; refine (P.out _).mono ?_; rintro e w' ⟨rfl, rfl⟩))
      go_roundw
      case rel => exact ⟨x + 1, by omega, by go_num, S'⟩
      case measure => simp [intOf]; omega
    · obtain rfl : x = 256 := by omega
      have TF := hide (take_full S.out.a2 tk_full)
      have LI := hide (list_any S.out.a2)
      have SB := hide (S.out.below)
      clear S
      go_wp2_with (go_at_call 9; refine TF.out.mono ?_; rintro e w' ⟨rfl, rfl⟩)
      refine LI.out.mono ?_
      rintro e w2 ⟨v, rfl, hN, hB⟩
      obtain ⟨p, c, hv⟩ := hN.form
      rw [tk_names 256 (by omega)] at hv
      subst hv
      have FIN := hide (SB.out.trans (hB.mono SB.out.size))
      clear hN hB
      go_wp2
      go_ret
      exact ⟨rfl, FIN.out⟩
end Go.Proofs.Ytmegbbgolmejnaa.Con
