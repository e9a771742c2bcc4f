/- What the law's texts answers of two lists alike. -/
import Derived.Test.YtlfmlbkpkkegpaaFmtFCode
import Derived.Deep.QuietTactic
import Derived.BigQuiet
namespace Go.Proofs.YtlfmlbkpkkegpaaFmt.Con
open Go.RowKit Go.Extern.Stop Go.Stop Go.Extern
set_option linter.unusedVariables false

theorem below_drewN {B : Nat} {a w : World} (h : Below B a w) (n : Nat) : Below B a (w.drewN n) := ⟨h.os, h.tape, h.output, h.size, h.block⟩

set_option maxRecDepth 100000 in
set_option maxHeartbeats 1000000 in
theorem texts_same (ga oa ca gb ob cb n : Nat) (s : Nat → ByteArray) (w : World) (hn : n < 1000000) (ha : ga < w.heap.size) (hb : gb < w.heap.size)
    (hA : ∀ j, j < n → w.cell? ⟨ga, oa + j, none⟩ = some (.string (s j))) (hB : ∀ j, j < n → w.cell? ⟨gb, ob + j, none⟩ = some (.string (s j))) :
    Calls Tryf.prog 12 #[.slice (some ⟨ga, oa, none⟩) n ca, .slice (some ⟨gb, ob, none⟩) n cb] w fun e w' => e = .returned (.bool true) ∧ Below w.heap.size w w' := by
  have HA := hide hA
  have HB := hide hB
  clear hA hB
  go_enter Tryf.func12, Tryf.ntmps12
  go_wp2
  go_loopw [5] (fun i wr => ∃ k : Nat, k ≤ n ∧ i = .int .i64 k ∧ Below w.heap.size w wr) (fun i wr => n - (intOf i).toNat)
  case atStart => exact ⟨0, Nat.zero_le _, rfl, Below.refl _ _⟩
  case round =>
    obtain ⟨k, hk, rfl, hbw⟩ := hrel
    by_cases hlt : k < n
    · have kA : wr.cell? ⟨ga, oa + k, none⟩ = some (.string (s k)) := (hbw.cell (p := ⟨ga, oa + k, none⟩) ha).trans (unhide HA k hlt)
      have kB : wr.cell? ⟨gb, ob + k, none⟩ = some (.string (s k)) := (hbw.cell (p := ⟨gb, ob + k, none⟩) hb).trans (unhide HB k hlt)
      have i1 : (k : Int) < (n : Int) := by omega
      go_wp2
      go_quiet (fail)
      go_wp2
      exact ⟨⟨k + 1, by omega, by go_num, below_drewN hbw _⟩, by simp [intOf]; omega⟩
    · go_wp2
      go_ret
      exact ⟨rfl, hbw⟩
end Go.Proofs.YtlfmlbkpkkegpaaFmt.Con
