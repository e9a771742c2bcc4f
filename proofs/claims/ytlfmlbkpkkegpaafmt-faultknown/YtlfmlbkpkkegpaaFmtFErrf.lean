/- fmt.Errorf of "more: %w" and the Fault open -1 round the lock: a *fmt.wrapError with that Fault in it, whatever its text. -/
import Derived.Test.YtlfmlbkpkkegpaaFmtFErr3
import Derived.Test.YtlfmlbkpkkegpaaFmtFFmt
import Derived.WalkSpells
namespace Go.Proofs.YtlfmlbkpkkegpaaFmt.Con
open Go.RowKit Go.Extern.Stop Go.Stop Go.Extern Go.Shelf
set_option linter.unusedVariables false

/-- Where the two Faults lie. -/
structure TwoAt (w : World) (bo b : Nat) : Prop where
  g0 : w.cell? ⟨bo, 0, none⟩ = some (.string openS)
  g1 : w.cell? ⟨bo, 1, none⟩ = some (.int .i64 (-1))
  g2 : w.cell? ⟨bo, 2, none⟩ = some (.iface 32 (.pointer (some ⟨b, 0, none⟩)))
  h0 : w.cell? ⟨b, 0, none⟩ = some (.string lock)
  h1 : w.cell? ⟨b, 1, none⟩ = some (.int .i64 3)
  h2 : w.cell? ⟨b, 2, none⟩ = some (.iface 26 (.int .i64 5))
  lo : bo < w.heap.size
  lb : b < w.heap.size
theorem TwoAt.below {w w' : World} {bo b : Nat} (h : TwoAt w bo b) (hb : Below w.heap.size w w') : TwoAt w' bo b :=
  ⟨(hb.cell (p := ⟨bo, 0, none⟩) h.lo).trans h.g0, (hb.cell (p := ⟨bo, 1, none⟩) h.lo).trans h.g1, (hb.cell (p := ⟨bo, 2, none⟩) h.lo).trans h.g2,
   (hb.cell (p := ⟨b, 0, none⟩) h.lb).trans h.h0, (hb.cell (p := ⟨b, 1, none⟩) h.lb).trans h.h1, (hb.cell (p := ⟨b, 2, none⟩) h.lb).trans h.h2,
   Nat.lt_of_lt_of_le h.lo hb.size, Nat.lt_of_lt_of_le h.lb hb.size⟩

set_option maxRecDepth 100000 in
set_option maxHeartbeats 2000000 in
theorem errorf_w (F : Interp) (bo b blk : Nat) (w : World) (hF : F.answers w.tape) (hg : Laid w) (ht : Tab w) (h2 : TwoAt w bo b) (hc0 : w.cell? ⟨blk, 0, none⟩ = some (.iface 32 (.pointer (some ⟨bo, 0, none⟩)))) :
    Calls Tryf.prog 8 #[.string ⟨#[109, 111, 114, 101, 58, 32, 37, 119]⟩, .slice (some ⟨blk, 0, none⟩) 1 1] w fun e w' =>
      ∃ w₃ t, Below w.heap.size w w₃ ∧ e = .returned (.iface 52 (.pointer (some ⟨w₃.heap.size, 0, none⟩))) ∧
        w' = (w₃.alloc (.cells #[.string t, .iface 32 (.pointer (some ⟨bo, 0, none⟩))] 133)).drew := by
  have hF' := answers_open hF
  have hb : blk < w.heap.size := World.block_lt_of_cell? _ _ hc0
  have ERR := hide (error_open bo b w hg ht h2.g0 h2.g1 h2.g2 h2.h0 h2.h1 h2.h2)
  clear hF hg ht h2
  have f1 := callErrorf
  have f2 := fmtGuard
  have f3 := fmt0
  have f4 := fmt0r
  have f5 := actF
  have f6 := isErrorF
  have f7 := strF
  have f8 := ptrW
  have f9 := elemW
  go_enter Tryf.func8, Tryf.ntmps8
  go_wp2
  apply rows_call nextTurns
  case hr =>
    go_simp
    exact ⟨⟨rfl, rfl, rfl⟩, rfl⟩
  case hi => exact invokeErrorF _ _
  case hc =>
    refine (unhide ERR).mono fun e w₃ ⟨he, hx⟩ => ?_
    subst he
    have hF3 : ∀ i name reading k range, w₃.tape i (.extern (word name reading k) range) = F name reading k := by rw [hx.tape]; exact hF'
    have hc03 : w₃.cell? ⟨blk, 0, none⟩ = some (.iface 32 (.pointer (some ⟨bo, 0, none⟩))) := by rw [hx.cell hb]; exact hc0
    apply rows_value nextReturned
    case hr =>
      go_simp
      exact ⟨rfl, rfl⟩
    case h =>
      go_wp2
      go_ret
      exact ⟨w₃, hx, rfl, _, rfl⟩
end Go.Proofs.YtlfmlbkpkkegpaaFmt.Con
