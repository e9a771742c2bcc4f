/- The law TickMuls: a product by one more is the product and the factor, and windows undo a product; it returns true, and nothing else turns. -/
import Derived.Test.YtfcgdjcjmmmejabRows
import Derived.Test.YtfcgdjcjmmmejabAwake
import Derived.WalkKit
import Derived.ProofKit
import Derived.OpenShut
namespace Go.Proofs.Ytfcgdjcjmmmejab.tickMuls
open Go.ChangeShapes Go.WideShapes Go.ChangeAt Go.RowKit
set_option linter.unusedVariables false      -- a walk need not use every 'w<i>' (that an integer argument fits its kind)

theorem hide {p : Prop} (h : p) : Hid p := h
theorem mul_t {a b : Int} (h : Con.mulB a b = true) : (0 ≤ a ∧ a ≤ 4611686018427387904) ∧ (0 ≤ b ∧ b ≤ 4611686018427387904) ∧ a * b ≤ 4611686018427387904 ∧ Con.mulV a b = a * b := by
  have h' := h
  simp only [Con.mulB, Bool.and_eq_true, decide_eq_true_eq] at h'
  exact ⟨Con.good_t h'.1.1, Con.good_t h'.1.2, h'.2, by simp [Con.mulV, h]⟩
theorem mul_up {a p : Int} (h : Con.mulB a p = true) (h1 : 1 ≤ p) (h2 : p ≤ 2147483648) :
    Con.winB (a * p) p = true ∧ Con.winV (a * p) p = a ∧ Con.mulB a (p + 1) = Con.addB (a * p) a ∧ (Con.addB (a * p) a = true → Con.mulV a (p + 1) = Con.addV (a * p) a) := by
  obtain ⟨ha, hp, hm, e⟩ := mul_t h
  have h0 := Int.mul_nonneg ha.1 hp.1
  have hw : Con.winB (a * p) p = true := by
    simp only [Con.winB, Con.good, Con.period, Bool.and_eq_true, decide_eq_true_eq]
    omega
  have hs : a * (p + 1) = a * p + a := by rw [Int.mul_add, Int.mul_one]
  have hq : Con.mulB a (p + 1) = Con.addB (a * p) a := by
    rw [Bool.eq_iff_iff]
    simp only [Con.mulB, Con.addB, Con.good, Bool.and_eq_true, decide_eq_true_eq, hs]
    omega
  refine ⟨hw, ?_, hq, ?_⟩
  · simp only [Con.winV, hw, if_true]
    exact Int.mul_ediv_cancel _ (by omega)
  · intro hb
    simp only [Con.mulV, hq, Con.addV, hb, if_true, hs]
theorem own : ownKnob Try.prog.godebug = none := by kernel_rfl

/-! ### STEP 1: THE WALK: the Go text returns true. 'Grown w w'': the world has at most new blocks (Derived/RowKit3.lean). Part the cases AHEAD of 'go_enter' where a test parts the walk; take each callee by a contract of your own. -/
set_option maxRecDepth 100000 in
set_option maxHeartbeats 1600000 in
theorem walk (a0 : Int) (a1 : Int) (w0 : (Lit.int .i64 a0).wf = true) (w1 : (Lit.int .i64 a1).wf = true) (w : World) :
    Calls Try.prog 3 #[.int .i64 a0, .int .i64 a1] w fun e w' => e = .returned (.bool true) ∧ Grown w w' := by
  cases h1 : Con.mulB a0 a1
  · go_enter Try.func3, Try.ntmps3
    go_wp2_with (first | (go_at_call 4; refine (Con.awake_any _).mono ?_; rintro e w' ⟨rfl, rfl⟩) | (go_at_call 7; refine (Con.add_any _ _ _).mono ?_; rintro e w' ⟨rfl, rfl⟩) | (go_at_call 5; refine (Con.mul_any _ _ _).mono ?_; rintro e w' ⟨rfl, rfl⟩) | (go_at_call 8; refine (Con.share_any _ _ _ _).mono ?_; rintro e w' ⟨rfl, rfl⟩) | (go_at_call 6; refine (Con.win_any _ _ _).mono ?_; rintro e w' ⟨rfl, rfl⟩) | (go_at_call 9; refine (Con.up_any _ _ _ _).mono ?_; rintro e w' ⟨rfl, rfl⟩) | (go_at_call 10; refine (Con.good_any _ _).mono ?_; rintro e w' ⟨rfl, rfl⟩))
    go_ret
    exact ⟨rfl, by repeat (first | exact Grown.refl _ | apply Grown.drew | apply Grown.alloc)⟩
  · by_cases l1 : a1 < 1
    · go_enter Try.func3, Try.ntmps3
      go_wp2_with (first | (go_at_call 4; refine (Con.awake_any _).mono ?_; rintro e w' ⟨rfl, rfl⟩) | (go_at_call 7; refine (Con.add_any _ _ _).mono ?_; rintro e w' ⟨rfl, rfl⟩) | (go_at_call 5; refine (Con.mul_any _ _ _).mono ?_; rintro e w' ⟨rfl, rfl⟩) | (go_at_call 8; refine (Con.share_any _ _ _ _).mono ?_; rintro e w' ⟨rfl, rfl⟩) | (go_at_call 6; refine (Con.win_any _ _ _).mono ?_; rintro e w' ⟨rfl, rfl⟩) | (go_at_call 9; refine (Con.up_any _ _ _ _).mono ?_; rintro e w' ⟨rfl, rfl⟩) | (go_at_call 10; refine (Con.good_any _ _).mono ?_; rintro e w' ⟨rfl, rfl⟩))
      go_ret
      exact ⟨rfl, by repeat (first | exact Grown.refl _ | apply Grown.drew | apply Grown.alloc)⟩
    · by_cases l2 : 2147483648 < a1
      · go_enter Try.func3, Try.ntmps3
        go_wp2_with (first | (go_at_call 4; refine (Con.awake_any _).mono ?_; rintro e w' ⟨rfl, rfl⟩) | (go_at_call 7; refine (Con.add_any _ _ _).mono ?_; rintro e w' ⟨rfl, rfl⟩) | (go_at_call 5; refine (Con.mul_any _ _ _).mono ?_; rintro e w' ⟨rfl, rfl⟩) | (go_at_call 8; refine (Con.share_any _ _ _ _).mono ?_; rintro e w' ⟨rfl, rfl⟩) | (go_at_call 6; refine (Con.win_any _ _ _).mono ?_; rintro e w' ⟨rfl, rfl⟩) | (go_at_call 9; refine (Con.up_any _ _ _ _).mono ?_; rintro e w' ⟨rfl, rfl⟩) | (go_at_call 10; refine (Con.good_any _ _).mono ?_; rintro e w' ⟨rfl, rfl⟩))
        go_ret
        exact ⟨rfl, by repeat (first | exact Grown.refl _ | apply Grown.drew | apply Grown.alloc)⟩
      · obtain ⟨m1, m2, m3, m4⟩ := mul_up h1 (by omega) (by omega)
        obtain ⟨ha, hp, hm, e⟩ := mul_t h1
        cases h2 : Con.addB (a0 * a1) a0
        · rw [h2] at m3
          clear m4
          go_enter Try.func3, Try.ntmps3
          go_wp2_with (first | (go_at_call 4; refine (Con.awake_any _).mono ?_; rintro e w' ⟨rfl, rfl⟩) | (go_at_call 7; refine (Con.add_any _ _ _).mono ?_; rintro e w' ⟨rfl, rfl⟩) | (go_at_call 5; refine (Con.mul_any _ _ _).mono ?_; rintro e w' ⟨rfl, rfl⟩) | (go_at_call 8; refine (Con.share_any _ _ _ _).mono ?_; rintro e w' ⟨rfl, rfl⟩) | (go_at_call 6; refine (Con.win_any _ _ _).mono ?_; rintro e w' ⟨rfl, rfl⟩) | (go_at_call 9; refine (Con.up_any _ _ _ _).mono ?_; rintro e w' ⟨rfl, rfl⟩) | (go_at_call 10; refine (Con.good_any _ _).mono ?_; rintro e w' ⟨rfl, rfl⟩))
          go_ret
          exact ⟨rfl, by repeat (first | exact Grown.refl _ | apply Grown.drew | apply Grown.alloc)⟩
        · rw [h2] at m3
          have m5 := m4 h2
          clear m4
          go_enter Try.func3, Try.ntmps3
          go_wp2_with (first | (go_at_call 4; refine (Con.awake_any _).mono ?_; rintro e w' ⟨rfl, rfl⟩) | (go_at_call 7; refine (Con.add_any _ _ _).mono ?_; rintro e w' ⟨rfl, rfl⟩) | (go_at_call 5; refine (Con.mul_any _ _ _).mono ?_; rintro e w' ⟨rfl, rfl⟩) | (go_at_call 8; refine (Con.share_any _ _ _ _).mono ?_; rintro e w' ⟨rfl, rfl⟩) | (go_at_call 6; refine (Con.win_any _ _ _).mono ?_; rintro e w' ⟨rfl, rfl⟩) | (go_at_call 9; refine (Con.up_any _ _ _ _).mono ?_; rintro e w' ⟨rfl, rfl⟩) | (go_at_call 10; refine (Con.good_any _ _).mono ?_; rintro e w' ⟨rfl, rfl⟩))
          go_ret
          exact ⟨rfl, by repeat (first | exact Grown.refl _ | apply Grown.drew | apply Grown.alloc)⟩

/-! ### THE ROW's STEP: WRITTEN OUT: LEAVE IT -/
set_option maxRecDepth 100000 in
theorem lifted (os : Os) (started : os.Started) (H : Type) (enc : TypeId × Value → H) :
    ReturnsInHanded {} Try.checked os 3 .any (Rows.tickMulsSpec.pre6 enc Try.prog Try.f3 Rows.tickMulsRow.domain false) (Rows.tickMulsSpec.post enc Try.prog Try.f3 false true false false) := by
  refine returnsInHanded_of_change (C := Try.checked) own started (by kernel_rfl) Try.func3
    (ChangeSpec.witness6 (enc := enc) (C := Try.checked) false ⟨#[], #[.int .i64 0, .int .i64 0], []⟩ 8 (by kernel_rfl) (by kernel_rfl) (by kernel_rfl) (by kernel_rfl)) ?_
  intro W base args ds gs before hval0 hW hcnd _
  have hval : ∀ (j : Nat) t v, Try.f3.params[j]? = some t → args[j]? = some v → Value.okWide Try.prog W .any base t v := hval0
  have hW' := hW
  obtain ⟨p, q, hA0, hV, rfl, hfz, hnd⟩ := hW
  have hA : DataW.TrodAll enc Try.prog W 0 (fun _ => true) true Try.f3.params.toList args.toList ds p := hA0
  rw [Try.params3] at hA hval
  obtain ⟨v0, vs0, d0, ds0, p0, q0, hargs, rfl, rfl, h0, r0⟩ := trodAll_cons hA
  obtain ⟨v1, vs1, d1, ds1, p1, q1, rfl, rfl, rfl, h1, r1⟩ := trodAll_cons r0
  obtain ⟨rfl, rfl, rfl⟩ := trodAll_nil r1
  obtain rfl : args = #[v0, v1] := by cases args; simp_all
  obtain ⟨rfl, rfl⟩ := trodVars_none hV
  obtain ⟨a0, rfl, rfl, rfl, w0⟩ := open_int Try.underlying2 (hval 0 2 v0 rfl rfl) h0
  obtain ⟨a1, rfl, rfl, rfl, w1⟩ := open_int Try.underlying2 (hval 1 2 v1 rfl rfl) h1
  clear hA0 hval0
  simp only [List.append_nil] at hW'
  refine (walk a0 a1 w0 w1 W).mono fun e W' ⟨he, hg⟩ => ?_
  subst he
  exact ⟨_, rfl, post_of_same (pa := []) (pv := []) hW' (fun _ _ _ => (trodAll_cons_mk (shut_bool Try.underlying4 _) trodAll_mk0)) (fun sp _ => (trodAll_cons_mk (shut_int Try.underlying2 w0) (trodAll_cons_mk (shut_int Try.underlying2 w1) trodAll_mk0))) (fun _ _ => rfl) rfl
    (hg.frame _) hg.2.1 (ok_one (by kernel_rfl) rfl (okWide_bool_mk Try.underlying4 _))⟩

theorem over : Rows.tickMulsRow.holds Try.pinned (OpenSpec.ofChange Rows.tickMulsSpec) :=
  OpenClaim.holds_of_wide 3 Try.f3 rfl rfl rfl rfl rfl rfl rfl ⟨rfl, rfl, rfl, rfl, rfl⟩ rfl rfl rfl rfl rfl (by kernel_rfl) Try.func3 (by kernel_rfl)
    (of_decide_eq_true (by kernel_rfl)) (by unfold Func.isWrapper; first | (rw [if_pos (by decide +kernel)]; kernel_rfl) | (rw [if_neg (by decide +kernel)]; exact ⟨rfl, rfl⟩))
    (fun os started H enc _ => lifted os started H enc)

/-- ████ THE STATEMENT ████ -/
theorem proved : Rows.TickMulsSaid :=
  over
#print axioms proved
end Go.Proofs.Ytfcgdjcjmmmejab.tickMuls

namespace Go.Proofs.Ytfcgdjcjmmmejab
theorem tickMuls_holds : Rows.TickMulsSaid := tickMuls.proved
end Go.Proofs.Ytfcgdjcjmmmejab
