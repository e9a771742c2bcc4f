/- The law TickKnown: the closed examples of chapter 1 answer as they are told; it returns true, and nothing else turns. -/
import Derived.Test.YtfcgdjcjmmmejaaRows
import Derived.Test.YtfcgdjcjmmmejaaAwake
import Derived.WalkKit
import Derived.ProofKit
import Derived.OpenShut
namespace Go.Proofs.Ytfcgdjcjmmmejaa.tickKnown
open Go.ChangeShapes Go.WideShapes Go.ChangeAt Go.RowKit
set_option linter.unusedVariables false      -- a walk need not use every 'w<i>' (that an integer argument fits its kind)

theorem own : ownKnob Try.prog.godebug = none := by kernel_rfl

/-! ### STEP 1: THE WALK: the Go text returns true. 'Grown w w'': the world has at most new blocks (Derived/RowKit3.lean). Part the cases AHEAD of 'go_enter' where a test parts the walk; take each callee by a contract of your own. -/
set_option maxRecDepth 100000 in
set_option maxHeartbeats 1600000 in
theorem walk  (w : World) :
    Calls Try.prog 3 #[] w fun e w' => e = .returned (.bool true) ∧ Grown w w' := by
  have f0 : Con.addV 4611686018427387904 0 = 4611686018427387904 := by decide
  have f1 : Con.addB 4611686018427387904 0 = true := by decide
  have f2 : Con.addB 4611686018427387904 1 = false := by decide
  have f3 : Con.subB 1 2 = false := by decide
  have f4 : Con.addB (-1) 2 = false := by decide
  have f5 : Con.mulV 2147483648 2147483648 = 4611686018427387904 := by decide
  have f6 : Con.mulB 2147483648 2147483648 = true := by decide
  have f7 : Con.mulB 4294967296 2147483648 = false := by decide
  have f8 : Con.mulV 4611686018427387904 0 = 0 := by decide
  have f9 : Con.mulB 4611686018427387904 0 = true := by decide
  have f10 : Con.shareV 2147483648 2147483648 2147483648 = 2147483648 := by decide
  have f11 : Con.shareB 2147483648 2147483648 2147483648 = true := by decide
  have f12 : Con.shareB 1 4 3 = false := by decide
  have f13 : Con.shareB 2147483649 1 1 = false := by decide
  have f14 : Con.cmpV 2147483648 1 2147483648 1 = 0 := by decide
  have f15 : Con.cmpB 2147483648 1 2147483648 1 = true := by decide
  have f16 : Con.cmpB 1 0 1 1 = false := by decide
  have f17 : Con.winV 4611686018427387904 1 = 4611686018427387904 := by decide
  have f18 : Con.winB 4611686018427387904 1 = true := by decide
  have f19 : Con.winB 1 0 = false := by decide
  have f20 : Con.upV 3 4 9 = 4 := by decide
  have f21 : Con.upB 3 4 9 = true := by decide
  have f22 : Con.upV 4 4 9 = 13 := by decide
  have f23 : Con.upB 4 4 9 = true := by decide
  have f24 : Con.upB 4611686018427387904 4611686018427387904 1 = false := by decide
  have f25 : Con.good 4611686018427387904 = true := by decide
  have f26 : Con.good 4611686018427387905 = false := by decide
  have f27 : Con.good (-1) = false := by decide
  go_enter Try.func3, Try.ntmps3
  go_wp2_with (first | (go_at_call 9; refine (Con.awake_any _).mono ?_; rintro e w' ⟨rfl, rfl⟩) | (go_at_call 10; refine (Con.add_any _ _ _).mono ?_; rintro e w' ⟨rfl, rfl⟩) | (go_at_call 11; refine (Con.sub_any _ _ _).mono ?_; rintro e w' ⟨rfl, rfl⟩) | (go_at_call 12; refine (Con.mul_any _ _ _).mono ?_; rintro e w' ⟨rfl, rfl⟩) | (go_at_call 13; refine (Con.share_any _ _ _ _).mono ?_; rintro e w' ⟨rfl, rfl⟩) | (go_at_call 14; refine (Con.cmp_any _ _ _ _ _).mono ?_; rintro e w' ⟨rfl, rfl⟩) | (go_at_call 15; refine (Con.win_any _ _ _).mono ?_; rintro e w' ⟨rfl, rfl⟩) | (go_at_call 16; refine (Con.up_any _ _ _ _).mono ?_; rintro e w' ⟨rfl, rfl⟩) | (go_at_call 17; refine (Con.good_any _ _).mono ?_; rintro e w' ⟨rfl, rfl⟩))
  go_ret
  exact ⟨rfl, by repeat (first | exact Grown.refl _ | apply Grown.drew | apply Grown.alloc)⟩

/-! ### THE ROW's STEP: WRITTEN OUT: LEAVE IT -/
set_option maxRecDepth 100000 in
theorem lifted (os : Os) (started : os.Started) (H : Type) (enc : TypeId × Value → H) :
    ReturnsInHanded {} Try.checked os 3 .any (Rows.tickKnownSpec.pre6 enc Try.prog Try.f3 Rows.tickKnownRow.domain false) (Rows.tickKnownSpec.post enc Try.prog Try.f3 false true false false) := by
  refine returnsInHanded_of_change (C := Try.checked) own started (by kernel_rfl) Try.func3
    (ChangeSpec.witness6 (enc := enc) (C := Try.checked) false ⟨#[], #[], []⟩ 8 (by kernel_rfl) (by kernel_rfl) (by kernel_rfl) (by kernel_rfl)) ?_
  intro W base args ds gs before hval0 hW hcnd _
  have hval : ∀ (j : Nat) t v, Try.f3.params[j]? = some t → args[j]? = some v → Value.okWide Try.prog W .any base t v := hval0
  have hW' := hW
  obtain ⟨p, q, hA0, hV, rfl, hfz, hnd⟩ := hW
  have hA : DataW.TrodAll enc Try.prog W 0 (fun _ => true) true Try.f3.params.toList args.toList ds p := hA0
  rw [Try.params3] at hA hval
  obtain ⟨rfl, rfl, rfl⟩ := trodAll_none hA
  obtain ⟨rfl, rfl⟩ := trodVars_none hV
  clear hA0 hval0
  simp only [List.append_nil] at hW'
  refine (walk  W).mono fun e W' ⟨he, hg⟩ => ?_
  subst he
  exact ⟨_, rfl, post_of_same (pa := []) (pv := []) hW' (fun _ _ _ => (trodAll_cons_mk (shut_bool Try.underlying4 _) trodAll_mk0)) (fun sp _ => rfl) (fun _ _ => rfl) rfl
    (hg.frame _) hg.2.1 (ok_one (by kernel_rfl) rfl (okWide_bool_mk Try.underlying4 _))⟩

theorem over : Rows.tickKnownRow.holds Try.pinned (OpenSpec.ofChange Rows.tickKnownSpec) :=
  OpenClaim.holds_of_wide 3 Try.f3 rfl rfl rfl rfl rfl rfl rfl ⟨rfl, rfl, rfl, rfl, rfl⟩ rfl rfl rfl rfl rfl (by kernel_rfl) Try.func3 (by kernel_rfl)
    (of_decide_eq_true (by kernel_rfl)) (by unfold Func.isWrapper; first | (rw [if_pos (by decide +kernel)]; kernel_rfl) | (rw [if_neg (by decide +kernel)]; exact ⟨rfl, rfl⟩))
    (fun os started H enc _ => lifted os started H enc)

/-- ████ THE STATEMENT ████ -/
theorem proved : Rows.TickKnownSaid :=
  over
#print axioms proved
end Go.Proofs.Ytfcgdjcjmmmejaa.tickKnown

namespace Go.Proofs.Ytfcgdjcjmmmejaa
theorem tickKnown_holds : Rows.TickKnownSaid := tickKnown.proved
end Go.Proofs.Ytfcgdjcjmmmejaa
