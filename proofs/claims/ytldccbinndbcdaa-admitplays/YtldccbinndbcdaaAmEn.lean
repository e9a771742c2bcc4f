/- Two slices of entries, compared. -/
import Derived.Test.YtldccbinndbcdaaAmSl
import Derived.Test.YtldccbinndbcdaaWnRf
namespace Go.Proofs.Ytldccbinndbcdaa.Am
open Go.RowKit Go.Proofs.Ytldccbinndbcdaa.Con Go.Proofs.Ytldccbinndbcdaa.Wn Go.Proofs.Ytldccbinndbcdaa.Fp
set_option linter.unusedVariables false
set_option linter.unusedSimpArgs false
attribute [local go_sem ↓] Go.wp_at_zero Go.wp_at_succ
set_option maxHeartbeats 4000000 in
theorem entries_any {w : World} {va vb : Value} {L : List En} (ha : Es w va L) (hb : Es w vb L) : Calls Try.prog 19 #[va, vb] w fun e w' => e = .returned (.bool true) ∧ Nx w w' := by
  obtain ⟨pa, capa, rfl, hna, hma⟩ := ha.form
  obtain ⟨pb, capb, rfl, hnb, hmb⟩ := hb.form
  have hmx : (L.length : Int) ≤ 9223372036854775807 := by unfold maxLen at hma; omega
  have HA := hide ha
  have HB := hide hb
  clear ha hb
  go_enter Try.func19, Try.ntmps19
  go_wp2
  go_loopw [5] (fun i wr => ∃ k : Nat, k ≤ L.length ∧ i = .int .i64 (k : Int) ∧ Hid (Nx w wr)) (fun i _ => L.length - (intOf i).toNat)
  case atStart => exact ⟨0, by omega, rfl, hide (Nx.refl _)⟩
  case round =>
    obtain ⟨k, hk, rfl, HN⟩ := hrel
    by_cases hkn : k < L.length
    · have hk1 : (k : Int) < (L.length : Int) := by omega
      obtain ⟨ba, oa, rfl, hba, x0, x1, x2, x3⟩ := (HA.out.below HN.out).at hkn
      obtain ⟨bb, ob, rfl, hbb, y0, y1, y2, y3⟩ := (HB.out.below HN.out).at hkn
      have HN' : Hid (∀ n, Nx w (wr.drewN n)) := hide (fun n => bel_drewN HN.out n)
      clear HN
      generalize (atE L k).id = z0 at *
      generalize (atE L k).pr.1 = z1 at *
      generalize (atE L k).pr.2 = z2 at *
      generalize (atE L k).till = z3 at *
      go_wp2
      go_quiet (fail)
      go_wp2
      go_round
      case rel => exact ⟨k + 1, by omega, by go_num, hide (HN'.out _)⟩
      case measure => simp [intOf]; omega
    · obtain rfl : k = L.length := by omega
      go_wp2
      go_ret
      exact ⟨rfl, HN.out⟩
end Go.Proofs.Ytldccbinndbcdaa.Am
