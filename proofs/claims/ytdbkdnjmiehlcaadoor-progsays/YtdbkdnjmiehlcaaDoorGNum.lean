/- What the reference's Num answers. -/
import Derived.Test.YtdbkdnjmiehlcaaDoorGRef
import Derived.Deep.RegionWith
import Derived.BigRegion
import Derived.Laws.IdiomStrings
namespace Go.Proofs.YtdbkdnjmiehlcaaDoor.Con
open Go.RowKit Go.Proofs.YtdbkdnjmiehlcaaDoor.Pm
set_option linter.unusedVariables false
set_option linter.unusedSimpArgs false
theorem bytes_app (a b : List UInt8) : (⟨a.toArray⟩ : ByteArray) ++ ⟨b.toArray⟩ = ⟨(a ++ b).toArray⟩ := by
  apply ByteArray.ext; rw [ByteArray.data_append]; simp
theorem dec_len (u : Nat) (h : u < 1000000000000) : (Lib.decDigits u).length ≤ 12 := by
  have key : ∀ k u : Nat, u < 10 ^ (k + 1) → (Lib.decDigits u).length ≤ k + 1 := by
    intro k
    induction k with
    | zero => intro u hu; rw [dec_small (by simpa using hu)]; simp
    | succ k ih =>
      intro u hu
      by_cases h : u < 10
      · rw [dec_small h]; simp
      · rw [dec_big h, List.length_append]
        have := ih (u / 10) (by rw [Nat.pow_succ] at hu; omega)
        simp; omega
  exact key 11 u (by omega)
/-- The byte of a digit. -/
def chr (d : Nat) : UInt8 := UInt8.ofNat (48 + d)
theorem conv_at (d : Nat) (hd : d < 10) (z : Int) (hz : z = 48 + d) (b : Nat) (w : World) (hc : w.cell? ⟨b, 0, none⟩ = some (.int .u8 z)) :
    (convert 55 9 (.slice (some ⟨b, 0, none⟩) 1 1)).run Tryd.prog w = .ok (.string ⟨#[chr d]⟩) w := by
  refine run_convert_bytes_back w 55 9 5 ⟨b, 0, none⟩ 1 [chr d] Tryd.underlying55 Tryd.underlying5 Tryd.underlying9 ?_
  intro j hj
  match j, hj with
  | 0, _ =>
    have := chr_nat d hd
    simp only [List.getElem_cons_zero]
    unfold chr
    rw [this]
    subst hz
    rw [show ((⟨b, 0, none⟩ : Addr).add 0) = ⟨b, 0, none⟩ by simp [Addr.add], hc]; simp
/-- One byte as text. -/
theorem conv_chr (d : Nat) (hd : d < 10) (z : Int) (hz : z = 48 + d) (w : World) :
    (convert 55 9 (.slice (some ⟨w.heap.size, 0, none⟩) 1 1)).run Tryd.prog (w.alloc (.cells #[.int .u8 z] 5)) = .ok (.string ⟨#[chr d]⟩) (w.alloc (.cells #[.int .u8 z] 5)) :=
  conv_at d hd z hz w.heap.size _ (by simp)
/-- The byte's world, a draw behind it. -/
theorem conv_drew (d : Nat) (hd : d < 10) (z : Int) (hz : z = 48 + d) (w : World) :
    (convert 55 9 (.slice (some ⟨w.heap.size, 0, none⟩) 1 1)).run Tryd.prog (w.alloc (.cells #[.int .u8 z] 5)).drew = .ok (.string ⟨#[chr d]⟩) (w.alloc (.cells #[.int .u8 z] 5)).drew :=
  conv_at d hd z hz w.heap.size _ (by simp)
theorem conv_later (d : Nat) (hd : d < 10) (z : Int) (hz : z = 48 + d) (w w' : World) (hb : Below (w.alloc (.cells #[.int .u8 z] 5)).drew.heap.size (w.alloc (.cells #[.int .u8 z] 5)).drew w') :
    (convert 55 9 (.slice (some ⟨w.heap.size, 0, none⟩) 1 1)).run Tryd.prog w' = .ok (.string ⟨#[chr d]⟩) w' :=
  conv_at d hd z hz w.heap.size w' ((hb.cell (p := ⟨w.heap.size, 0, none⟩) (by simp)).trans (by simp))
theorem num_b1 {w w' : World} (hb : Below w.drew.heap.size w.drew w') (o : Obj) : Below w.heap.size w (w'.alloc o) :=
  ((Below.refl _ w).drew.trans (hb.mono (Nat.le_refl _))).alloc hb.size o
theorem num_b2 {w w' : World} {o : Obj} (hb : Below (w.alloc o).drew.heap.size (w.alloc o).drew w') : Below w.heap.size w w' :=
  (((Below.refl _ w).alloc (Nat.le_refl _) o).drew).trans (hb.mono (by simp))
theorem num_wrap (n : Nat) (hn : n < 1099511627776) : IntKind.u8.wrap (IntKind.i64.wrap (48 + (n : Int).tmod 10)) = 48 + ((n % 10 : Nat) : Int) := by
  rw [Int.tmod_eq_emod_of_nonneg (by omega), IntKind.wrap_i64, IntKind.wrap_u8]; omega

set_option maxRecDepth 100000 in
set_option maxHeartbeats 400000 in
theorem num_one (n : Nat) (w : World) (hn : n < 10) :
    Calls Tryd.prog 26 #[.int .i64 n] w fun e w' => e = .returned (sv (Lib.decDigits n)) ∧ Below w.heap.size w w' := by
  have hd := hide (show Lib.decDigits n = [chr n] from dec_small hn)
  have hcv := fun w => conv_chr n hn (48 + (n : Int)) rfl w
  go_enter Tryd.func26, Tryd.ntmps26
  go_wp2
  go_ret
  exact ⟨ret_str (by rw [unhide hd]), (Below.refl _ w).alloc (Nat.le_refl _) _⟩

set_option maxRecDepth 100000 in
set_option maxHeartbeats 1000000 in
theorem num_step (n : Nat) (h10 : 10 ≤ n) (hn : n < 1099511627776)
    (ih : ∀ w : World, Calls Tryd.prog 26 #[.int .i64 ((n / 10 : Nat) : Int)] w fun e w' => e = .returned (sv (Lib.decDigits (n / 10))) ∧ Below w.heap.size w w') (w : World) :
    Calls Tryd.prog 26 #[.int .i64 n] w fun e w' => e = .returned (sv (Lib.decDigits n)) ∧ Below w.heap.size w w' := by
  have hd := hide (show Lib.decDigits n = Lib.decDigits (n / 10) ++ [chr (n % 10)] from dec_big (by omega))
  have hI := hide (show ∀ w : World, Calls Tryd.prog 26 #[.int .i64 (IntKind.i64.wrap ((n : Int) / 10))] w fun e w' => e = .returned (sv (Lib.decDigits (n / 10))) ∧ Below w.heap.size w w' by
    rw [show IntKind.i64.wrap ((n : Int) / 10) = ((n / 10 : Nat) : Int) by rw [IntKind.wrap_i64]; omega]; exact ih)
  clear ih
  have hl : (Lib.decDigits (n / 10)).length ≤ 12 := dec_len _ (by omega)
  generalize Lib.decDigits (n / 10) = l at hd hI hl
  have h10' : n % 10 < 10 := by omega
  have hnw := hide (num_wrap n hn)
  have hcv := fun w => conv_chr (n % 10) h10' (IntKind.u8.wrap (IntKind.i64.wrap (48 + (n : Int).tmod 10))) (unhide hnw) w
  have hcd := fun w => conv_drew (n % 10) h10' (IntKind.u8.wrap (IntKind.i64.wrap (48 + (n : Int).tmod 10))) (unhide hnw) w
  go_enter Tryd.func26, Tryd.ntmps26
  go_wp2
  go_region_with (go_at_call 26; refine (hI.out _).mono ?_; rintro e w' ⟨rfl, hb⟩; try have hcv' := conv_later (n % 10) h10' (IntKind.u8.wrap (IntKind.i64.wrap (48 + (n : Int).tmod 10))) (unhide hnw) w w' hb)
  all_goals
    have hB := hide hb
    clear hcv hcd hb
    try clear hcv'
    go_wp2
    go_ret
    refine ⟨ret_str (by rw [unhide hd, ← bytes_app]), ?_⟩
    first
      | exact num_b1 (unhide hB) _
      | exact num_b2 (unhide hB)
theorem num_nat (n : Nat) (hn : n < 1099511627776) : ∀ w : World,
    Calls Tryd.prog 26 #[.int .i64 n] w fun e w' => e = .returned (sv (Lib.decDigits n)) ∧ Below w.heap.size w w' := by
  induction n using Nat.strongRecOn with
  | _ n ih =>
    intro w
    by_cases h : n < 10
    · exact num_one n w h
    · exact num_step n (by omega) hn (ih (n / 10) (by omega) (by omega)) w
theorem num_any (n : Int) (h0 : 0 ≤ n) (h1 : n ≤ 2147483648) (w : World) :
    Calls Tryd.prog 26 #[.int .i64 n] w fun e w' => e = .returned (sv (Lib.itoa n)) ∧ Below w.heap.size w w' := by
  have := num_nat n.toNat (by omega) w
  rw [show ((n.toNat : Nat) : Int) = n by omega] at this
  rw [itoa_pos h0]; exact this
end Go.Proofs.YtdbkdnjmiehlcaaDoor.Con
