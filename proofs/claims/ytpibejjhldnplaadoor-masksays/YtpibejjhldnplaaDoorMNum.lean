/- What the reference's Num answers of a number below a hundred. -/
import Derived.Test.YtpibejjhldnplaaDoorMRef
import Derived.Deep.RegionHeld3
import Derived.Deep.RegionWith
import Derived.BigRegion
import Derived.Laws.IdiomStrings
namespace Go.Proofs.YtpibejjhldnplaaDoor.Con
open Go.RowKit Go.Proofs.YtpibejjhldnplaaDoor.Mk
set_option linter.unusedVariables false
/-- The byte of a digit. -/
def chr (d : Nat) : UInt8 := (48 + d).toUInt8
theorem dig1 : ∀ n : Fin 10, Lib.decDigits n.val = [chr n.val] := by decide +kernel
theorem dig2 : ∀ n : Fin 100, 10 ≤ n.val → Lib.decDigits n.val = Lib.decDigits (n.val / 10) ++ [chr (n.val % 10)] := by decide +kernel
theorem chr_nat : ∀ d : Fin 10, (chr d.val).toNat = 48 + d.val := by decide +kernel
/-- One byte as text. -/
theorem conv_chr (d : Nat) (hd : d < 10) (z : Int) (hz : z = 48 + d) (w : World) :
    (convert 56 9 (.slice (some ⟨w.heap.size, 0, none⟩) 1 1)).run Tryd.prog (w.alloc (.cells #[.int .u8 z] 5)) = .ok (.string ⟨#[chr d]⟩) (w.alloc (.cells #[.int .u8 z] 5)) := by
  refine run_convert_bytes_back (w.alloc (.cells #[.int .u8 z] 5)) 56 9 5 ⟨w.heap.size, 0, none⟩ 1 [chr d] Tryd.underlying56 Tryd.underlying5 Tryd.underlying9 ?_
  intro j hj
  match j, hj with
  | 0, _ =>
    have := chr_nat ⟨d, hd⟩
    simp only at this
    simp only [List.getElem_cons_zero, this]
    subst hz
    simp [Addr.add]

set_option maxRecDepth 100000 in
set_option maxHeartbeats 400000 in
theorem num_one (n : Nat) (w : World) (hn : n < 10) :
    Calls Tryd.prog 32 #[.int .i64 n] w fun e w' => e = .returned (.string ⟨(Lib.decDigits n).toArray⟩) ∧ Below w.heap.size w w' := by
  have hd := hide (dig1 ⟨n, hn⟩)
  have hcv := fun w => conv_chr n hn (48 + (n : Int)) rfl w
  go_enter Tryd.func32, Tryd.ntmps32
  go_wp2
  go_ret
  exact ⟨ret_str (by rw [unhide hd]), (Below.refl _ w).alloc (Nat.le_refl _) _⟩
/-- The same, in whatever world that holds the byte. -/
theorem conv_at (d : Nat) (hd : d < 10) (z : Int) (hz : z = 48 + d) (b : Nat) (w : World) (hc : w.cell? ⟨b, 0, none⟩ = some (.int .u8 z)) :
    (convert 56 9 (.slice (some ⟨b, 0, none⟩) 1 1)).run Tryd.prog w = .ok (.string ⟨#[chr d]⟩) w := by
  refine run_convert_bytes_back w 56 9 5 ⟨b, 0, none⟩ 1 [chr d] Tryd.underlying56 Tryd.underlying5 Tryd.underlying9 ?_
  intro j hj
  match j, hj with
  | 0, _ =>
    have := chr_nat ⟨d, hd⟩
    simp only at this
    simp only [List.getElem_cons_zero, this]
    subst hz
    rw [show ((⟨b, 0, none⟩ : Addr).add 0) = ⟨b, 0, none⟩ by simp [Addr.add], hc]; simp
/-- The byte's world, a draw behind it. -/
theorem conv_drew (d : Nat) (hd : d < 10) (z : Int) (hz : z = 48 + d) (w : World) :
    (convert 56 9 (.slice (some ⟨w.heap.size, 0, none⟩) 1 1)).run Tryd.prog (w.alloc (.cells #[.int .u8 z] 5)).drew = .ok (.string ⟨#[chr d]⟩) (w.alloc (.cells #[.int .u8 z] 5)).drew :=
  conv_at d hd z hz w.heap.size _ (by simp)
theorem conv_later (d : Nat) (hd : d < 10) (z : Int) (hz : z = 48 + d) (w w' : World) (hb : Below (w.alloc (.cells #[.int .u8 z] 5)).drew.heap.size (w.alloc (.cells #[.int .u8 z] 5)).drew w') :
    (convert 56 9 (.slice (some ⟨w.heap.size, 0, none⟩) 1 1)).run Tryd.prog w' = .ok (.string ⟨#[chr d]⟩) w' :=
  conv_at d hd z hz w.heap.size w' ((hb.cell (p := ⟨w.heap.size, 0, none⟩) (by simp)).trans (by simp))
theorem num_b1 {w w' : World} (hb : Below w.drew.heap.size w.drew w') (o : Obj) : Below w.heap.size w (w'.alloc o) :=
  ((Below.refl _ w).drew.trans (hb.mono (Nat.le_refl _))).alloc hb.size o
theorem num_b2 {w w' : World} {o : Obj} (hb : Below (w.alloc o).drew.heap.size (w.alloc o).drew w') : Below w.heap.size w w' :=
  (((Below.refl _ w).alloc (Nat.le_refl _) o).drew).trans (hb.mono (by simp))
theorem num_wrap (n : Nat) (hn : n < 100) : IntKind.u8.wrap (IntKind.i64.wrap (48 + (n : Int).tmod 10)) = 48 + ((n % 10 : Nat) : Int) := by
  rw [Int.tmod_eq_emod_of_nonneg (by omega), IntKind.wrap_i64, IntKind.wrap_u8]; omega
theorem num_ten (n : Nat) (w : World) (hn : n < 100) :
    Calls Tryd.prog 32 #[.int .i64 (IntKind.i64.wrap ((n : Int) / 10))] w fun e w' => e = .returned (.string ⟨(Lib.decDigits (n / 10)).toArray⟩) ∧ Below w.heap.size w w' := by
  have := num_one (n / 10) w (by omega)
  rw [show ((n / 10 : Nat) : Int) = IntKind.i64.wrap ((n : Int) / 10) by rw [IntKind.wrap_i64]; omega] at this
  exact this

set_option maxRecDepth 100000 in
set_option maxHeartbeats 1000000 in
theorem num_two (n : Nat) (w : World) (h10 : 10 ≤ n) (hn : n < 100) :
    Calls Tryd.prog 32 #[.int .i64 n] w fun e w' => e = .returned (.string ⟨(Lib.decDigits n).toArray⟩) ∧ Below w.heap.size w w' := by
  have hd := hide (dig2 ⟨n, hn⟩ h10)
  have hl : (Lib.decDigits (n / 10)).length ≤ 2 := dec_le (n / 10) (by omega)
  have h10' : n % 10 < 10 := by omega
  have hnw := hide (num_wrap n hn)
  have hcv := fun w => conv_chr (n % 10) h10' (IntKind.u8.wrap (IntKind.i64.wrap (48 + (n : Int).tmod 10))) (unhide hnw) w
  have hcd := fun w => conv_drew (n % 10) h10' (IntKind.u8.wrap (IntKind.i64.wrap (48 + (n : Int).tmod 10))) (unhide hnw) w
  go_enter Tryd.func32, Tryd.ntmps32
  go_wp2
  go_region_with (go_at_call 32; refine (num_ten n _ hn).mono ?_; rintro e w' ⟨rfl, hb⟩; try have hcv' := conv_later (n % 10) h10' (IntKind.u8.wrap (IntKind.i64.wrap (48 + (n : Int).tmod 10))) (unhide hnw) w w' hb)
  all_goals
    have hB := hide hb
    clear hcv hcd hb
    try clear hcv'
    go_wp2
    go_ret
    refine ⟨ret_str (by rw [unhide hd, ← bytes_app]), ?_⟩
    first
      | exact num_b1 (unhide hB) _
      | exact num_b2 (unhide hB)
theorem num_any (n : Nat) (w : World) (hn : n < 64) :
    Calls Tryd.prog 32 #[.int .i64 n] w fun e w' => e = .returned (.string ⟨(Lib.decDigits n).toArray⟩) ∧ Below w.heap.size w w' := by
  by_cases h : n < 10
  · exact num_one n w h
  · exact num_two n w (by omega) (by omega)
end Go.Proofs.YtpibejjhldnplaaDoor.Con
