/- The law TickUps: the next one above is above, at most a period above, and whole periods from the first; it returns true, and nothing else turns. -/
import Derived.Test.YtfcgdjcjmmmejaaRows
import Derived.Test.YtfcgdjcjmmmejaaAwake
import Derived.WalkKit
import Derived.ProofKit
import Derived.OpenShut
namespace Go.Proofs.Ytfcgdjcjmmmejaa.tickUps
open Go.ChangeShapes Go.WideShapes Go.ChangeAt Go.RowKit
set_option linter.unusedVariables false      -- a walk need not use every 'w<i>' (that an integer argument fits its kind)

theorem up_facts {t d p : Int} (h : Con.upB t d p = true) :
    (0 ≤ t ∧ t ≤ 4611686018427387904) ∧ (0 ≤ d ∧ d ≤ 4611686018427387904) ∧ (1 ≤ p ∧ p ≤ 2147483648) ∧ (0 ≤ Con.upV t d p ∧ Con.upV t d p ≤ 4611686018427387904) ∧ Con.upV t d p = Con.nextOf t d p := by
  have h' := h
  simp only [Con.upB, Bool.and_eq_true] at h'
  obtain ⟨⟨⟨h1, h2⟩, h3⟩, h4⟩ := h'
  have e : Con.upV t d p = Con.nextOf t d p := by simp [Con.upV, h]
  exact ⟨Con.good_t h1, Con.good_t h2, Con.period_t h3, by rw [e]; exact Con.good_t h4, e⟩
theorem up_says {t d p : Int} (h : Con.upB t d p = true) :
    t < Con.upV t d p ∧ d ≤ Con.upV t d p ∧ (Con.upV t d p ≠ d → Con.upV t d p - t ≤ p) ∧ Con.winB (Con.upV t d p - d) p = true ∧ Con.winV (Con.upV t d p - d) p * p = Con.upV t d p - d := by
  obtain ⟨ht, hd, hp, hu, e⟩ := up_facts h
  have hu2 : d ≤ Con.upV t d p → Con.winB (Con.upV t d p - d) p = true := by
    intro hle
    simp only [Con.winB, Con.good, Con.period, Bool.and_eq_true, decide_eq_true_eq]
    omega
  by_cases hlt : t < d
  · have e' : Con.upV t d p = d := by rw [e]; simp [Con.nextOf, hlt]
    have hb := hu2 (by omega)
    refine ⟨by omega, by omega, fun hne => absurd e' hne, hb, ?_⟩
    simp [Con.winV, e']
  · have e' : Con.upV t d p = d + ((t - d) / p + 1) * p := by rw [e]; simp [Con.nextOf, hlt]
    have b := Con.next_bd hd.1 (show d ≤ t by omega) hp.1
    have h1 : t - d < ((t - d) / p + 1) * p := Int.lt_ediv_add_one_mul_self _ (by omega)
    have hle : d ≤ Con.upV t d p := by omega
    have hb := hu2 hle
    have hs : Con.upV t d p - d = ((t - d) / p + 1) * p := by omega
    refine ⟨by omega, hle, fun _ => by omega, hb, ?_⟩
    simp only [Con.winV, hb, if_true]
    rw [hs, Int.mul_ediv_cancel _ (by omega)]
theorem hide {p : Prop} (h : p) : Hid p := h
theorem own : ownKnob Try.prog.godebug = none := by kernel_rfl

/-! ### STEP 1: THE WALK: the Go text returns true. 'Grown w w'': the world has at most new blocks (Derived/RowKit3.lean). Part the cases AHEAD of 'go_enter' where a test parts the walk; take each callee by a contract of your own. -/
set_option maxRecDepth 100000 in
set_option maxHeartbeats 1600000 in
theorem walk (a0 : Int) (a1 : Int) (a2 : Int) (w0 : (Lit.int .i64 a0).wf = true) (w1 : (Lit.int .i64 a1).wf = true) (w2 : (Lit.int .i64 a2).wf = true) (w : World) :
    Calls Try.prog 6 #[.int .i64 a0, .int .i64 a1, .int .i64 a2] w fun e w' => e = .returned (.bool true) ∧ Grown w w' := by
  cases h1 : Con.upB a0 a1 a2
  · go_enter Try.func6, Try.ntmps6
    go_wp2_with (first | (go_at_call 9; refine (Con.awake_any _).mono ?_; rintro e w' ⟨rfl, rfl⟩) | (go_at_call 10; refine (Con.add_any _ _ _).mono ?_; rintro e w' ⟨rfl, rfl⟩) | (go_at_call 11; refine (Con.sub_any _ _ _).mono ?_; rintro e w' ⟨rfl, rfl⟩) | (go_at_call 12; refine (Con.mul_any _ _ _).mono ?_; rintro e w' ⟨rfl, rfl⟩) | (go_at_call 13; refine (Con.share_any _ _ _ _).mono ?_; rintro e w' ⟨rfl, rfl⟩) | (go_at_call 14; refine (Con.cmp_any _ _ _ _ _).mono ?_; rintro e w' ⟨rfl, rfl⟩) | (go_at_call 15; refine (Con.win_any _ _ _).mono ?_; rintro e w' ⟨rfl, rfl⟩) | (go_at_call 16; refine (Con.up_any _ _ _ _).mono ?_; rintro e w' ⟨rfl, rfl⟩) | (go_at_call 17; refine (Con.good_any _ _).mono ?_; rintro e w' ⟨rfl, rfl⟩))
    go_ret
    exact ⟨rfl, by repeat (first | exact Grown.refl _ | apply Grown.drew | apply Grown.alloc)⟩
  · obtain ⟨ht, hd, hp, hu, e⟩ := up_facts h1
    clear e
    obtain ⟨s1, s2, s3, s4, s5⟩ := up_says h1
    have s6 : 0 ≤ Con.winV (Con.upV a0 a1 a2 - a1) a2 * a2 ∧ Con.winV (Con.upV a0 a1 a2 - a1) a2 * a2 ≤ 4611686018427387904 := by omega
    have s7 : (Con.winV (Con.upV a0 a1 a2 - a1) a2 * a2 == Con.upV a0 a1 a2 - a1) = true := by simp [s5]
    clear s5
    by_cases he : Con.upV a0 a1 a2 = a1
    · have hz : (Con.upV a0 a1 a2 == a1) = true := by simp [he]
      clear he s3
      go_enter Try.func6, Try.ntmps6
      go_wp2_with (first | (go_at_call 9; refine (Con.awake_any _).mono ?_; rintro e w' ⟨rfl, rfl⟩) | (go_at_call 10; refine (Con.add_any _ _ _).mono ?_; rintro e w' ⟨rfl, rfl⟩) | (go_at_call 11; refine (Con.sub_any _ _ _).mono ?_; rintro e w' ⟨rfl, rfl⟩) | (go_at_call 12; refine (Con.mul_any _ _ _).mono ?_; rintro e w' ⟨rfl, rfl⟩) | (go_at_call 13; refine (Con.share_any _ _ _ _).mono ?_; rintro e w' ⟨rfl, rfl⟩) | (go_at_call 14; refine (Con.cmp_any _ _ _ _ _).mono ?_; rintro e w' ⟨rfl, rfl⟩) | (go_at_call 15; refine (Con.win_any _ _ _).mono ?_; rintro e w' ⟨rfl, rfl⟩) | (go_at_call 16; refine (Con.up_any _ _ _ _).mono ?_; rintro e w' ⟨rfl, rfl⟩) | (go_at_call 17; refine (Con.good_any _ _).mono ?_; rintro e w' ⟨rfl, rfl⟩))
      go_ret
      exact ⟨rfl, by repeat (first | exact Grown.refl _ | apply Grown.drew | apply Grown.alloc)⟩
    · have hz : (Con.upV a0 a1 a2 == a1) = false := by simp [he]
      have s3' := s3 he
      clear he s3
      go_enter Try.func6, Try.ntmps6
      go_wp2_with (first | (go_at_call 9; refine (Con.awake_any _).mono ?_; rintro e w' ⟨rfl, rfl⟩) | (go_at_call 10; refine (Con.add_any _ _ _).mono ?_; rintro e w' ⟨rfl, rfl⟩) | (go_at_call 11; refine (Con.sub_any _ _ _).mono ?_; rintro e w' ⟨rfl, rfl⟩) | (go_at_call 12; refine (Con.mul_any _ _ _).mono ?_; rintro e w' ⟨rfl, rfl⟩) | (go_at_call 13; refine (Con.share_any _ _ _ _).mono ?_; rintro e w' ⟨rfl, rfl⟩) | (go_at_call 14; refine (Con.cmp_any _ _ _ _ _).mono ?_; rintro e w' ⟨rfl, rfl⟩) | (go_at_call 15; refine (Con.win_any _ _ _).mono ?_; rintro e w' ⟨rfl, rfl⟩) | (go_at_call 16; refine (Con.up_any _ _ _ _).mono ?_; rintro e w' ⟨rfl, rfl⟩) | (go_at_call 17; refine (Con.good_any _ _).mono ?_; rintro e w' ⟨rfl, rfl⟩))
      go_ret
      exact ⟨rfl, by repeat (first | exact Grown.refl _ | apply Grown.drew | apply Grown.alloc)⟩

/-! ### THE ROW's STEP: WRITTEN OUT: LEAVE IT -/
set_option maxRecDepth 100000 in
theorem lifted (os : Os) (started : os.Started) (H : Type) (enc : TypeId × Value → H) :
    ReturnsInHanded {} Try.checked os 6 .any (Rows.tickUpsSpec.pre6 enc Try.prog Try.f6 Rows.tickUpsRow.domain false) (Rows.tickUpsSpec.post enc Try.prog Try.f6 false true false false) := by
  refine returnsInHanded_of_change (C := Try.checked) own started (by kernel_rfl) Try.func6
    (ChangeSpec.witness6 (enc := enc) (C := Try.checked) false ⟨#[], #[.int .i64 0, .int .i64 0, .int .i64 0], []⟩ 8 (by kernel_rfl) (by kernel_rfl) (by kernel_rfl) (by kernel_rfl)) ?_
  intro W base args ds gs before hval0 hW hcnd _
  have hval : ∀ (j : Nat) t v, Try.f6.params[j]? = some t → args[j]? = some v → Value.okWide Try.prog W .any base t v := hval0
  have hW' := hW
  obtain ⟨p, q, hA0, hV, rfl, hfz, hnd⟩ := hW
  have hA : DataW.TrodAll enc Try.prog W 0 (fun _ => true) true Try.f6.params.toList args.toList ds p := hA0
  rw [Try.params6] at hA hval
  obtain ⟨v0, vs0, d0, ds0, p0, q0, hargs, rfl, rfl, h0, r0⟩ := trodAll_cons hA
  obtain ⟨v1, vs1, d1, ds1, p1, q1, rfl, rfl, rfl, h1, r1⟩ := trodAll_cons r0
  obtain ⟨v2, vs2, d2, ds2, p2, q2, rfl, rfl, rfl, h2, r2⟩ := trodAll_cons r1
  obtain ⟨rfl, rfl, rfl⟩ := trodAll_nil r2
  obtain rfl : args = #[v0, v1, v2] := by cases args; simp_all
  obtain ⟨rfl, rfl⟩ := trodVars_none hV
  obtain ⟨a0, rfl, rfl, rfl, w0⟩ := open_int Try.underlying2 (hval 0 2 v0 rfl rfl) h0
  obtain ⟨a1, rfl, rfl, rfl, w1⟩ := open_int Try.underlying2 (hval 1 2 v1 rfl rfl) h1
  obtain ⟨a2, rfl, rfl, rfl, w2⟩ := open_int Try.underlying2 (hval 2 2 v2 rfl rfl) h2
  clear hA0 hval0
  simp only [List.append_nil] at hW'
  refine (walk a0 a1 a2 w0 w1 w2 W).mono fun e W' ⟨he, hg⟩ => ?_
  subst he
  exact ⟨_, rfl, post_of_same (pa := []) (pv := []) hW' (fun _ _ _ => (trodAll_cons_mk (shut_bool Try.underlying4 _) trodAll_mk0)) (fun sp _ => (trodAll_cons_mk (shut_int Try.underlying2 w0) (trodAll_cons_mk (shut_int Try.underlying2 w1) (trodAll_cons_mk (shut_int Try.underlying2 w2) trodAll_mk0)))) (fun _ _ => rfl) rfl
    (hg.frame _) hg.2.1 (ok_one (by kernel_rfl) rfl (okWide_bool_mk Try.underlying4 _))⟩

theorem over : Rows.tickUpsRow.holds Try.pinned (OpenSpec.ofChange Rows.tickUpsSpec) :=
  OpenClaim.holds_of_wide 6 Try.f6 rfl rfl rfl rfl rfl rfl rfl ⟨rfl, rfl, rfl, rfl, rfl⟩ rfl rfl rfl rfl rfl (by kernel_rfl) Try.func6 (by kernel_rfl)
    (of_decide_eq_true (by kernel_rfl)) (by unfold Func.isWrapper; first | (rw [if_pos (by decide +kernel)]; kernel_rfl) | (rw [if_neg (by decide +kernel)]; exact ⟨rfl, rfl⟩))
    (fun os started H enc _ => lifted os started H enc)

/-- ████ THE STATEMENT ████ -/
theorem proved : Rows.TickUpsSaid :=
  over
#print axioms proved
end Go.Proofs.Ytfcgdjcjmmmejaa.tickUps

namespace Go.Proofs.Ytfcgdjcjmmmejaa
theorem tickUps_holds : Rows.TickUpsSaid := tickUps.proved
end Go.Proofs.Ytfcgdjcjmmmejaa
