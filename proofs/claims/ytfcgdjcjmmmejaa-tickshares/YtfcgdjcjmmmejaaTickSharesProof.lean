/- The law TickShares: a share is at most the whole, of more no less, of all it is all, and it is the greatest that does not pass it; it returns true, and nothing else turns. -/
import Derived.Test.YtfcgdjcjmmmejaaRows
import Derived.Test.YtfcgdjcjmmmejaaAwake
import Derived.WalkKit
import Derived.ProofKit
import Derived.OpenShut
namespace Go.Proofs.Ytfcgdjcjmmmejaa.tickShares
open Go.ChangeShapes Go.WideShapes Go.ChangeAt Go.RowKit
set_option linter.unusedVariables false      -- a walk need not use every 'w<i>' (that an integer argument fits its kind)

theorem share_facts {x q p : Int} (h : Con.shareB x q p = true) :
    (0 ≤ x ∧ x ≤ 2147483648) ∧ (1 ≤ p ∧ p ≤ 2147483648) ∧ (0 ≤ q ∧ q ≤ p) ∧ Con.shareV x q p = x * q / p := by
  have h' := h
  simp only [Con.shareB, Bool.and_eq_true, decide_eq_true_eq] at h'
  obtain ⟨⟨⟨h1, h2⟩, h3⟩, h4⟩ := h'
  exact ⟨Con.amount_t h1, Con.period_t h2, ⟨h3, h4⟩, by simp [Con.shareV, h]⟩
theorem share_range {x q p : Int} (h : Con.shareB x q p = true) :
    0 ≤ Con.shareV x q p ∧ Con.shareV x q p ≤ x := by
  obtain ⟨hx, hp, hq, e⟩ := share_facts h
  rw [e]
  refine ⟨Int.ediv_nonneg (Int.mul_nonneg hx.1 hq.1) (by omega), ?_⟩
  have h1 : x * q ≤ x * p := Int.mul_le_mul_of_nonneg_left hq.2 hx.1
  have h2 : x * q / p ≤ x * p / p := Int.ediv_le_ediv (by omega) h1
  rwa [Int.mul_ediv_cancel _ (by omega)] at h2
theorem share_mono {x y q p : Int} (h : Con.shareB x q p = true) (h' : Con.shareB y q p = true) (hxy : x ≤ y) :
    Con.shareV x q p ≤ Con.shareV y q p := by
  obtain ⟨hx, hp, hq, e⟩ := share_facts h
  obtain ⟨_, _, _, e'⟩ := share_facts h'
  rw [e, e']
  exact Int.ediv_le_ediv (by omega) (Int.mul_le_mul_of_nonneg_right hxy hq.1)
theorem share_all {x q p : Int} (h : Con.shareB x q p = true) : Con.shareV x p p = x := by
  obtain ⟨hx, hp, hq, e⟩ := share_facts h
  have hb : Con.shareB x p p = true := by
    simp only [Con.shareB, Bool.and_eq_true, decide_eq_true_eq] at h ⊢
    exact ⟨⟨h.1.1, by omega⟩, by omega⟩
  rw [(share_facts hb).2.2.2, Int.mul_ediv_cancel _ (by omega)]
theorem share_lo {x q p : Int} (h : Con.shareB x q p = true) : Con.shareV x q p * p ≤ x * q := by
  obtain ⟨hx, hp, hq, e⟩ := share_facts h
  rw [e]
  exact Int.ediv_mul_le _ (by omega)
theorem share_hi {x q p : Int} (h : Con.shareB x q p = true) : x * q < (Con.shareV x q p + 1) * p := by
  obtain ⟨hx, hp, hq, e⟩ := share_facts h
  rw [e]
  exact Int.lt_ediv_add_one_mul_self _ (by omega)
theorem share_bds {x q p : Int} (h : Con.shareB x q p = true) :
    (0 ≤ Con.shareV x q p * p ∧ Con.shareV x q p * p ≤ 4611686018427387904) ∧ (0 ≤ x * q ∧ x * q ≤ 4611686018427387904) ∧ (0 ≤ (Con.shareV x q p + 1) * p ∧ (Con.shareV x q p + 1) * p ≤ 4611686020574871552) := by
  obtain ⟨hx, hp, hq, e⟩ := share_facts h
  have r := share_range h
  have e1 : (Con.shareV x q p + 1) * p = Con.shareV x q p * p + p := by rw [Int.add_mul, Int.one_mul]
  have b1 := Con.mul_bd31 r.1 (show 0 ≤ p by omega) (by omega) hp.2
  have b2 := Con.mul_bd31 hx.1 hq.1 hx.2 (by omega)
  omega
theorem share_cmp {x q p : Int} (h : Con.shareB x q p = true) (h0 : x ≠ 0) :
    Con.cmpB (Con.shareV x q p) x q p = true ∧ Con.cmpV (Con.shareV x q p) x q p ≤ 0 := by
  obtain ⟨hx, hp, hq, e⟩ := share_facts h
  have r := share_range h
  have l := share_lo h
  have hb : Con.cmpB (Con.shareV x q p) x q p = true := by
    simp only [Con.cmpB, Con.amount, Con.period, Bool.and_eq_true, decide_eq_true_eq]
    omega
  refine ⟨hb, ?_⟩
  have hl : ¬ q * x < Con.shareV x q p * p := by rw [Int.mul_comm q x]; omega
  simp only [Con.cmpV, hb, if_true, Con.cmpOf]
  split
  · omega
  · omega
theorem hide {p : Prop} (h : p) : Hid p := h
theorem own : ownKnob Try.prog.godebug = none := by kernel_rfl

/-! ### STEP 1: THE WALK: the Go text returns true. 'Grown w w'': the world has at most new blocks (Derived/RowKit3.lean). Part the cases AHEAD of 'go_enter' where a test parts the walk; take each callee by a contract of your own. -/
set_option maxRecDepth 100000 in
set_option maxHeartbeats 1600000 in
theorem walk (a0 : Int) (a1 : Int) (a2 : Int) (a3 : Int) (w0 : (Lit.int .i64 a0).wf = true) (w1 : (Lit.int .i64 a1).wf = true) (w2 : (Lit.int .i64 a2).wf = true) (w3 : (Lit.int .i64 a3).wf = true) (w : World) :
    Calls Try.prog 5 #[.int .i64 a0, .int .i64 a1, .int .i64 a2, .int .i64 a3] w fun e w' => e = .returned (.bool true) ∧ Grown w w' := by
  cases h1 : Con.shareB a0 a2 a3
  · go_enter Try.func5, Try.ntmps5
    go_wp2_with (first | (go_at_call 9; refine (Con.awake_any _).mono ?_; rintro e w' ⟨rfl, rfl⟩) | (go_at_call 10; refine (Con.add_any _ _ _).mono ?_; rintro e w' ⟨rfl, rfl⟩) | (go_at_call 11; refine (Con.sub_any _ _ _).mono ?_; rintro e w' ⟨rfl, rfl⟩) | (go_at_call 12; refine (Con.mul_any _ _ _).mono ?_; rintro e w' ⟨rfl, rfl⟩) | (go_at_call 13; refine (Con.share_any _ _ _ _).mono ?_; rintro e w' ⟨rfl, rfl⟩) | (go_at_call 14; refine (Con.cmp_any _ _ _ _ _).mono ?_; rintro e w' ⟨rfl, rfl⟩) | (go_at_call 15; refine (Con.win_any _ _ _).mono ?_; rintro e w' ⟨rfl, rfl⟩) | (go_at_call 16; refine (Con.up_any _ _ _ _).mono ?_; rintro e w' ⟨rfl, rfl⟩) | (go_at_call 17; refine (Con.good_any _ _).mono ?_; rintro e w' ⟨rfl, rfl⟩))
    go_ret
    exact ⟨rfl, by repeat (first | exact Grown.refl _ | apply Grown.drew | apply Grown.alloc)⟩
  · cases h2 : Con.shareB a1 a2 a3
    · go_enter Try.func5, Try.ntmps5
      go_wp2_with (first | (go_at_call 9; refine (Con.awake_any _).mono ?_; rintro e w' ⟨rfl, rfl⟩) | (go_at_call 10; refine (Con.add_any _ _ _).mono ?_; rintro e w' ⟨rfl, rfl⟩) | (go_at_call 11; refine (Con.sub_any _ _ _).mono ?_; rintro e w' ⟨rfl, rfl⟩) | (go_at_call 12; refine (Con.mul_any _ _ _).mono ?_; rintro e w' ⟨rfl, rfl⟩) | (go_at_call 13; refine (Con.share_any _ _ _ _).mono ?_; rintro e w' ⟨rfl, rfl⟩) | (go_at_call 14; refine (Con.cmp_any _ _ _ _ _).mono ?_; rintro e w' ⟨rfl, rfl⟩) | (go_at_call 15; refine (Con.win_any _ _ _).mono ?_; rintro e w' ⟨rfl, rfl⟩) | (go_at_call 16; refine (Con.up_any _ _ _ _).mono ?_; rintro e w' ⟨rfl, rfl⟩) | (go_at_call 17; refine (Con.good_any _ _).mono ?_; rintro e w' ⟨rfl, rfl⟩))
      go_ret
      exact ⟨rfl, by repeat (first | exact Grown.refl _ | apply Grown.drew | apply Grown.alloc)⟩
    · have r := share_range h1
      have ea := share_all h1
      have l := share_lo h1
      have u := share_hi h1
      have bd := share_bds h1
      have hf := share_facts h1
      have hfx := hf.1
      have hfp := hf.2.1
      clear hf
      by_cases hxy : a1 < a0
      · by_cases hx0 : a0 = 0
        · have hz : (a0 == 0) = true := by simp [hx0]
          have hx0' := hide hx0
          clear hx0
          go_enter Try.func5, Try.ntmps5
          go_wp2_with (first | (go_at_call 9; refine (Con.awake_any _).mono ?_; rintro e w' ⟨rfl, rfl⟩) | (go_at_call 10; refine (Con.add_any _ _ _).mono ?_; rintro e w' ⟨rfl, rfl⟩) | (go_at_call 11; refine (Con.sub_any _ _ _).mono ?_; rintro e w' ⟨rfl, rfl⟩) | (go_at_call 12; refine (Con.mul_any _ _ _).mono ?_; rintro e w' ⟨rfl, rfl⟩) | (go_at_call 13; refine (Con.share_any _ _ _ _).mono ?_; rintro e w' ⟨rfl, rfl⟩) | (go_at_call 14; refine (Con.cmp_any _ _ _ _ _).mono ?_; rintro e w' ⟨rfl, rfl⟩) | (go_at_call 15; refine (Con.win_any _ _ _).mono ?_; rintro e w' ⟨rfl, rfl⟩) | (go_at_call 16; refine (Con.up_any _ _ _ _).mono ?_; rintro e w' ⟨rfl, rfl⟩) | (go_at_call 17; refine (Con.good_any _ _).mono ?_; rintro e w' ⟨rfl, rfl⟩))
          go_ret
          exact ⟨rfl, by repeat (first | exact Grown.refl _ | apply Grown.drew | apply Grown.alloc)⟩
        · have hz : (a0 == 0) = false := by simp [hx0]
          have hc := share_cmp h1 hx0
          obtain ⟨hc1, hc2⟩ := hc
          go_enter Try.func5, Try.ntmps5
          go_wp2_with (first | (go_at_call 9; refine (Con.awake_any _).mono ?_; rintro e w' ⟨rfl, rfl⟩) | (go_at_call 10; refine (Con.add_any _ _ _).mono ?_; rintro e w' ⟨rfl, rfl⟩) | (go_at_call 11; refine (Con.sub_any _ _ _).mono ?_; rintro e w' ⟨rfl, rfl⟩) | (go_at_call 12; refine (Con.mul_any _ _ _).mono ?_; rintro e w' ⟨rfl, rfl⟩) | (go_at_call 13; refine (Con.share_any _ _ _ _).mono ?_; rintro e w' ⟨rfl, rfl⟩) | (go_at_call 14; refine (Con.cmp_any _ _ _ _ _).mono ?_; rintro e w' ⟨rfl, rfl⟩) | (go_at_call 15; refine (Con.win_any _ _ _).mono ?_; rintro e w' ⟨rfl, rfl⟩) | (go_at_call 16; refine (Con.up_any _ _ _ _).mono ?_; rintro e w' ⟨rfl, rfl⟩) | (go_at_call 17; refine (Con.good_any _ _).mono ?_; rintro e w' ⟨rfl, rfl⟩))
          go_ret
          exact ⟨rfl, by repeat (first | exact Grown.refl _ | apply Grown.drew | apply Grown.alloc)⟩
      · have hm := share_mono h1 h2 (by omega)
        by_cases hx0 : a0 = 0
        · have hz : (a0 == 0) = true := by simp [hx0]
          have hx0' := hide hx0
          clear hx0
          go_enter Try.func5, Try.ntmps5
          go_wp2_with (first | (go_at_call 9; refine (Con.awake_any _).mono ?_; rintro e w' ⟨rfl, rfl⟩) | (go_at_call 10; refine (Con.add_any _ _ _).mono ?_; rintro e w' ⟨rfl, rfl⟩) | (go_at_call 11; refine (Con.sub_any _ _ _).mono ?_; rintro e w' ⟨rfl, rfl⟩) | (go_at_call 12; refine (Con.mul_any _ _ _).mono ?_; rintro e w' ⟨rfl, rfl⟩) | (go_at_call 13; refine (Con.share_any _ _ _ _).mono ?_; rintro e w' ⟨rfl, rfl⟩) | (go_at_call 14; refine (Con.cmp_any _ _ _ _ _).mono ?_; rintro e w' ⟨rfl, rfl⟩) | (go_at_call 15; refine (Con.win_any _ _ _).mono ?_; rintro e w' ⟨rfl, rfl⟩) | (go_at_call 16; refine (Con.up_any _ _ _ _).mono ?_; rintro e w' ⟨rfl, rfl⟩) | (go_at_call 17; refine (Con.good_any _ _).mono ?_; rintro e w' ⟨rfl, rfl⟩))
          go_ret
          exact ⟨rfl, by repeat (first | exact Grown.refl _ | apply Grown.drew | apply Grown.alloc)⟩
        · have hz : (a0 == 0) = false := by simp [hx0]
          have hc := share_cmp h1 hx0
          obtain ⟨hc1, hc2⟩ := hc
          go_enter Try.func5, Try.ntmps5
          go_wp2_with (first | (go_at_call 9; refine (Con.awake_any _).mono ?_; rintro e w' ⟨rfl, rfl⟩) | (go_at_call 10; refine (Con.add_any _ _ _).mono ?_; rintro e w' ⟨rfl, rfl⟩) | (go_at_call 11; refine (Con.sub_any _ _ _).mono ?_; rintro e w' ⟨rfl, rfl⟩) | (go_at_call 12; refine (Con.mul_any _ _ _).mono ?_; rintro e w' ⟨rfl, rfl⟩) | (go_at_call 13; refine (Con.share_any _ _ _ _).mono ?_; rintro e w' ⟨rfl, rfl⟩) | (go_at_call 14; refine (Con.cmp_any _ _ _ _ _).mono ?_; rintro e w' ⟨rfl, rfl⟩) | (go_at_call 15; refine (Con.win_any _ _ _).mono ?_; rintro e w' ⟨rfl, rfl⟩) | (go_at_call 16; refine (Con.up_any _ _ _ _).mono ?_; rintro e w' ⟨rfl, rfl⟩) | (go_at_call 17; refine (Con.good_any _ _).mono ?_; rintro e w' ⟨rfl, rfl⟩))
          go_ret
          exact ⟨rfl, by repeat (first | exact Grown.refl _ | apply Grown.drew | apply Grown.alloc)⟩

/-! ### THE ROW's STEP: WRITTEN OUT: LEAVE IT -/
set_option maxRecDepth 100000 in
theorem lifted (os : Os) (started : os.Started) (H : Type) (enc : TypeId × Value → H) :
    ReturnsInHanded {} Try.checked os 5 .any (Rows.tickSharesSpec.pre6 enc Try.prog Try.f5 Rows.tickSharesRow.domain false) (Rows.tickSharesSpec.post enc Try.prog Try.f5 false true false false) := by
  refine returnsInHanded_of_change (C := Try.checked) own started (by kernel_rfl) Try.func5
    (ChangeSpec.witness6 (enc := enc) (C := Try.checked) false ⟨#[], #[.int .i64 0, .int .i64 0, .int .i64 0, .int .i64 0], []⟩ 8 (by kernel_rfl) (by kernel_rfl) (by kernel_rfl) (by kernel_rfl)) ?_
  intro W base args ds gs before hval0 hW hcnd _
  have hval : ∀ (j : Nat) t v, Try.f5.params[j]? = some t → args[j]? = some v → Value.okWide Try.prog W .any base t v := hval0
  have hW' := hW
  obtain ⟨p, q, hA0, hV, rfl, hfz, hnd⟩ := hW
  have hA : DataW.TrodAll enc Try.prog W 0 (fun _ => true) true Try.f5.params.toList args.toList ds p := hA0
  rw [Try.params5] at hA hval
  obtain ⟨v0, vs0, d0, ds0, p0, q0, hargs, rfl, rfl, h0, r0⟩ := trodAll_cons hA
  obtain ⟨v1, vs1, d1, ds1, p1, q1, rfl, rfl, rfl, h1, r1⟩ := trodAll_cons r0
  obtain ⟨v2, vs2, d2, ds2, p2, q2, rfl, rfl, rfl, h2, r2⟩ := trodAll_cons r1
  obtain ⟨v3, vs3, d3, ds3, p3, q3, rfl, rfl, rfl, h3, r3⟩ := trodAll_cons r2
  obtain ⟨rfl, rfl, rfl⟩ := trodAll_nil r3
  obtain rfl : args = #[v0, v1, v2, v3] := by cases args; simp_all
  obtain ⟨rfl, rfl⟩ := trodVars_none hV
  obtain ⟨a0, rfl, rfl, rfl, w0⟩ := open_int Try.underlying2 (hval 0 2 v0 rfl rfl) h0
  obtain ⟨a1, rfl, rfl, rfl, w1⟩ := open_int Try.underlying2 (hval 1 2 v1 rfl rfl) h1
  obtain ⟨a2, rfl, rfl, rfl, w2⟩ := open_int Try.underlying2 (hval 2 2 v2 rfl rfl) h2
  obtain ⟨a3, rfl, rfl, rfl, w3⟩ := open_int Try.underlying2 (hval 3 2 v3 rfl rfl) h3
  clear hA0 hval0
  simp only [List.append_nil] at hW'
  refine (walk a0 a1 a2 a3 w0 w1 w2 w3 W).mono fun e W' ⟨he, hg⟩ => ?_
  subst he
  exact ⟨_, rfl, post_of_same (pa := []) (pv := []) hW' (fun _ _ _ => (trodAll_cons_mk (shut_bool Try.underlying4 _) trodAll_mk0)) (fun sp _ => (trodAll_cons_mk (shut_int Try.underlying2 w0) (trodAll_cons_mk (shut_int Try.underlying2 w1) (trodAll_cons_mk (shut_int Try.underlying2 w2) (trodAll_cons_mk (shut_int Try.underlying2 w3) trodAll_mk0))))) (fun _ _ => rfl) rfl
    (hg.frame _) hg.2.1 (ok_one (by kernel_rfl) rfl (okWide_bool_mk Try.underlying4 _))⟩

theorem over : Rows.tickSharesRow.holds Try.pinned (OpenSpec.ofChange Rows.tickSharesSpec) :=
  OpenClaim.holds_of_wide 5 Try.f5 rfl rfl rfl rfl rfl rfl rfl ⟨rfl, rfl, rfl, rfl, rfl⟩ rfl rfl rfl rfl rfl (by kernel_rfl) Try.func5 (by kernel_rfl)
    (of_decide_eq_true (by kernel_rfl)) (by unfold Func.isWrapper; first | (rw [if_pos (by decide +kernel)]; kernel_rfl) | (rw [if_neg (by decide +kernel)]; exact ⟨rfl, rfl⟩))
    (fun os started H enc _ => lifted os started H enc)

/-- ████ THE STATEMENT ████ -/
theorem proved : Rows.TickSharesSaid :=
  over
#print axioms proved
end Go.Proofs.Ytfcgdjcjmmmejaa.tickShares

namespace Go.Proofs.Ytfcgdjcjmmmejaa
theorem tickShares_holds : Rows.TickSharesSaid := tickShares.proved
end Go.Proofs.Ytfcgdjcjmmmejaa
