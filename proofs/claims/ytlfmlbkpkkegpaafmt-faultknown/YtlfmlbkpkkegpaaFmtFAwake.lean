/- The law's awake: what the document tells of a lock. -/
import Derived.Test.YtlfmlbkpkkegpaaFmtFErr
namespace Go.Proofs.YtlfmlbkpkkegpaaFmt.Con
open Go.RowKit Go.Extern.Stop Go.Stop Go.Extern Go.Shelf
set_option linter.unusedVariables false

/-- One Fault round a chain. -/
theorem Chain.cons {w : World} {B : Value} {l : List (Option (ByteArray × Int))} {v : Value} (h : Chain w B l v) (op : ByteArray) (id : Int) :
    Chain (w.alloc (.cells #[.string op, .int .i64 id, v] 36)) B (some (op, id) :: l) (.iface 32 (.pointer (some ⟨w.heap.size, 0, none⟩))) := by
  refine ⟨w.heap.size, v, rfl, by simp, by simp, by simp, by simp, h.below ((Below.refl _ w).alloc (Nat.le_refl _) _)⟩
theorem Chain.bare (w : World) (B : Value) : Chain w B [] B := rfl

set_option maxRecDepth 100000 in
set_option maxHeartbeats 1000000 in
theorem awake_any (w : World) (hg : Laid w) : Calls Tryf.prog 5 #[] w fun e w' => e = .returned (.bool true) ∧ Below w.heap.size w w' := by
  have b0 : Below w.heap.size w (w.alloc (.cells #[.string lock, .int .i64 3, .iface 26 (.int .i64 5)] 36)) := (Below.refl _ w).alloc (Nat.le_refl _) _
  have C0 := hide ((Chain.bare w (.iface 26 (.int .i64 5))).cons lock 3)
  have G0 := hide (hg.below hg.pos b0)
  have B0 := hide b0
  have hE := hide (error_lock w.heap.size _ (hg.below hg.pos b0) (by simp) (by simp) (by simp))
  clear b0 hg
  have mE := methodErrorF
  go_enter Tryf.func5, Tryf.ntmps5
  go_wp2_with (go_at_call 6; refine (new_any lock 3 5 _ rfl).mono ?_)
  rintro e w0 ⟨rfl, rfl⟩
  go_wp2_with fail
  refine (unhide hE).mono ?_
  rintro e w1 ⟨rfl, b1⟩
  have C1 := hide ((unhide C0).below b1)
  have G1 := hide ((unhide G0).below (unhide G0).pos b1)
  have B1 := hide ((unhide B0).trans (b1.mono (unhide B0).size))
  have hsaid : ((⟨said.toArray⟩ : ByteArray) == ⟨#[108, 111, 99, 107, 32, 51, 58, 32, 101, 114, 114, 111, 114, 32, 53]⟩) = true := by decide +kernel
  go_wp2_with fail
  refine (code_chain [some (lock, 3)] 5 _ _ (unhide C1) (unhide G1)).mono ?_
  rintro e w2 ⟨rfl, b2⟩
  have C2 := hide ((unhide C1).below b2)
  have B2 := hide ((unhide B1).trans (b2.mono (unhide B1).size))
  go_wp2_with fail
  refine (is_chain [some (lock, 3)] 5 5 _ _ (unhide C2)).mono ?_
  rintro e w3 ⟨rfl, rfl⟩
  go_wp2
  go_ret
  exact ⟨rfl, unhide B2⟩
end Go.Proofs.YtlfmlbkpkkegpaaFmt.Con
