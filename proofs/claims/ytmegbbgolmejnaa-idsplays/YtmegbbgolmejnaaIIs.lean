/- Is. -/
import Derived.Test.YtmegbbgolmejnaaITab
import Derived.Deep.CutBlock
import Derived.WalkSmall
import Derived.Deep.CutRange
namespace Go.Proofs.Ytmegbbgolmejnaa.Con
open Go.RowKit
set_option linter.unusedVariables false
set_option linter.unusedSimpArgs false
attribute [local go_sem ↓] Go.wp_at_zero Go.wp_at_succ
section
variable {W : World} {tb rb n : Nat} {l : List Sp}
def IsPost (W : World) (l : List Sp) (m : Nat) (e : Ending) (w' : World) : Prop := e = .returned (.int .i64 (isE l m)) ∧ Below W.heap.size W w'
theorem is_out (h : Tb W tb rb n l) (m : Nat) (hm : m < 4294967296) (ho : n ≤ m % 256) :
    Calls Try.prog 10 #[.pointer (some ⟨tb, 0, none⟩), .int .u32 m] W fun e w' => IsPost W l m e w' := by
  have FIN : Hid (∀ w', Below W.heap.size W w' → IsPost W l m (.returned (.int .i64 2)) w') := hide (fun w' hB => ⟨by unfold isE; rw [if_pos (by rw [h.len]; exact ho)], hB⟩)
  have c0 := h.cell
  have P := hide (fun w => place_any m hm w)
  generalize m % 256 = p at *
  have ho' : (n : Int) ≤ (p : Int) := by omega
  clear h
  go_enter Try.func10, Try.ntmps10
  go_wp2
  go_quiet ((go_at_call 14; exact Calls.quiet_of_same (P.out _)))
  go_wp2
  go_ret
  exact FIN.out _ ⟨rfl, rfl, rfl, Nat.le_refl _, fun _ _ => rfl⟩
theorem is_in (h : Tb W tb rb n l) (m : Nat) (hm : m < 4294967296) (ho : m % 256 < n) :
    Calls Try.prog 10 #[.pointer (some ⟨tb, 0, none⟩), .int .u32 m] W fun e w' => IsPost W l m e w' := by
  have c0 := h.cell
  have P := hide (fun w => place_any m hm w)
  have Gn := hide (fun w => gen_any m hm w)
  obtain ⟨a0, a1, _, _⟩ := h.item (m % 256) ho
  have FIN : Hid (∀ w' r, Below W.heap.size W w' → r = isE l m → IsPost W l m (.returned (.int .i64 r)) w') := hide (fun w' r hB hr => ⟨by rw [hr], hB⟩)
  have n0 := World.block_lt_of_cell? W _ c0
  have n1 := World.block_lt_of_cell? W _ a0
  have E : Hid (isE l m = if (sp l (m % 256)).2 = true ∧ m / 256 = (sp l (m % 256)).1 then 0 else if m / 256 < (sp l (m % 256)).1 then 10 else 2) := hide (by unfold isE; rw [if_neg (by rw [h.len]; omega)])
  clear h
  generalize m % 256 = p at *
  generalize m / 256 = g at *
  generalize (sp l p).1 = G at *
  generalize (sp l p).2 = T at *
  have ho' : ¬ (n : Int) ≤ (p : Int) := by omega
  have ho2 : (p : Int) < (n : Int) := by omega
  go_enter Try.func10, Try.ntmps10
  go_wp2
  go_quiet ((go_at_call 14; exact Calls.quiet_of_same (P.out _)))
  go_upto_region 3 with fail
  have BD : Hid (Below W.heap.size W (W.drewN nq)) := hide ⟨rfl, rfl, rfl, Nat.le_refl _, fun _ _ => rfl⟩
  have c0' : (W.drewN nq).cell? ⟨tb, 0, none⟩ = some (.slice (some ⟨rb, 0, none⟩) n n) := c0
  have a0' : (W.drewN nq).cell? ⟨rb, p * 2, none⟩ = some (.int .i64 (G : Int)) := a0
  have a1' : (W.drewN nq).cell? ⟨rb, p * 2 + 1, none⟩ = some (.bool T) := a1
  have n0' : tb < (W.drewN nq).heap.size := n0
  have n1' : rb < (W.drewN nq).heap.size := n1
  clear c0 a0 a1 n0 n1
  generalize W.drewN nq = W1 at *
  go_cut [5] from 6 (fun s wx => ∃ sb, s = .pointer (some ⟨sb, 0, none⟩) ∧ wx.cell? ⟨sb, 0, none⟩ = some (.int .i64 (G : Int)) ∧ wx.cell? ⟨sb, 1, none⟩ = some (.bool T) ∧ Hid (Below W.heap.size W wx))
  case first =>
    go_region_with ((go_at_call 14; refine (P.out _).mono ?_; rintro e w' ⟨rfl, rfl⟩))
    all_goals
      go_wp2
      go_meet
      case rel => exact ⟨_, rfl, by simp, by simp, hide (bel_drew (BD.out.alloc BD.out.size _))⟩
  case rest =>
    obtain ⟨sb, rfl, s0, s1, hB⟩ := hcut
    clear c0' a0' a1' n0' n1'
    cases T with
    | true =>
      by_cases hg : g = G
      · subst hg
        rw [if_pos ⟨rfl, rfl⟩] at E
        go_wp2
        go_quiet ((go_at_call 20; exact Calls.quiet_of_same (Gn.out _)))
        go_wp2
        go_ret
        exact FIN.out _ _ (below_drewN hB.out _) E.out.symm
      · have hg' : ((g : Int) == (G : Int)) = false := by simp; omega
        by_cases hl : g < G
        · rw [if_neg (by simp [hg]), if_pos hl] at E
          have hl' : (g : Int) < (G : Int) := by omega
          go_wp2
          go_quiet ((go_at_call 20; exact Calls.quiet_of_same (Gn.out _)))
          have B2 := hide (below_drewN hB.out nq)
          have s0' : (wc.drewN nq).cell? ⟨sb, 0, none⟩ = some (.int .i64 (G : Int)) := s0
          clear s0 s1 hB
          generalize wc.drewN nq = w2 at *
          go_wp2
          go_quiet ((go_at_call 20; exact Calls.quiet_of_same (Gn.out _)))
          go_wp2
          go_ret
          exact FIN.out _ _ (below_drewN B2.out _) E.out.symm
        · rw [if_neg (by simp [hg]), if_neg hl] at E
          have hl' : ¬ (g : Int) < (G : Int) := by omega
          go_wp2
          go_quiet ((go_at_call 20; exact Calls.quiet_of_same (Gn.out _)))
          have B2 := hide (below_drewN hB.out nq)
          have s0' : (wc.drewN nq).cell? ⟨sb, 0, none⟩ = some (.int .i64 (G : Int)) := s0
          clear s0 s1 hB
          generalize wc.drewN nq = w2 at *
          go_wp2
          go_quiet ((go_at_call 20; exact Calls.quiet_of_same (Gn.out _)))
          go_wp2
          go_ret
          exact FIN.out _ _ (below_drewN B2.out _) E.out.symm
    | false =>
      by_cases hl : g < G
      · rw [if_neg (by simp), if_pos hl] at E
        have hl' : (g : Int) < (G : Int) := by omega
        go_wp2
        go_quiet ((go_at_call 20; exact Calls.quiet_of_same (Gn.out _)))
        have B2 := hide (below_drewN hB.out nq)
        have s0' : (wc.drewN nq).cell? ⟨sb, 0, none⟩ = some (.int .i64 (G : Int)) := s0
        clear s0 s1 hB
        generalize wc.drewN nq = w2 at *
        go_wp2
        go_quiet ((go_at_call 20; exact Calls.quiet_of_same (Gn.out _)))
        go_wp2
        go_ret
        exact FIN.out _ _ (below_drewN B2.out _) E.out.symm
      · rw [if_neg (by simp), if_neg hl] at E
        have hl' : ¬ (g : Int) < (G : Int) := by omega
        go_wp2
        go_quiet ((go_at_call 20; exact Calls.quiet_of_same (Gn.out _)))
        have B2 := hide (below_drewN hB.out nq)
        have s0' : (wc.drewN nq).cell? ⟨sb, 0, none⟩ = some (.int .i64 (G : Int)) := s0
        clear s0 s1 hB
        generalize wc.drewN nq = w2 at *
        go_wp2
        go_quiet ((go_at_call 20; exact Calls.quiet_of_same (Gn.out _)))
        go_wp2
        go_ret
        exact FIN.out _ _ (below_drewN B2.out _) E.out.symm
end
end Go.Proofs.Ytmegbbgolmejnaa.Con
