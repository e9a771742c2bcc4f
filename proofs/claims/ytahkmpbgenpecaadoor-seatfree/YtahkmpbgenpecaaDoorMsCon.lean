/- What With, Of and Len of package mask answer, as plain sets. -/
import Derived.Test.YtahkmpbgenpecaaDoorChecked
import Derived.Test.YtahkmpbgenpecaaDoorMBits
import Derived.WalkKit
import Derived.RowKit
import Derived.Laws.BitsAllLaws
import Derived.Laws.Bits128
namespace Go.Proofs.YtahkmpbgenpecaaDoor.Con
open Go.RowKit Go.Proofs.YtahkmpbgenpecaaDoor.Mk
set_option linter.unusedVariables false
set_option linter.unusedSimpArgs false
theorem hideM {p : Prop} (h : p) : Hid p := h
theorem unhide {p : Prop} (h : Hid p) : p := h.out
theorem ret_u64 {a b : Int} (h : a = b) : Ending.returned (.int .u64 a) = .returned (.int .u64 b) := by rw [h]
theorem ret_i64 {a b : Int} (h : a = b) : Ending.returned (.int .i64 a) = .returned (.int .i64 b) := by rw [h]

theorem ret_bool {a b : Bool} (h : a = b) : Ending.returned (.bool a) = .returned (.bool b) := by rw [h]

theorem pow_wrap (k : Nat) (h : k < 64) : IntKind.u64.wrap ((2 : Int) ^ k) = ((2 ^ k : Nat) : Int) := by
  have : (2 : Nat) ^ k < 2 ^ 64 := Nat.pow_lt_pow_right (by decide) h
  have e : (2 : Nat) ^ 64 = 18446744073709551616 := by decide
  have c : ((2 : Int) ^ k) = ((2 ^ k : Nat) : Int) := by simp
  rw [c, IntKind.wrap_u64]
  generalize (2 : Nat) ^ k = y at *
  omega
theorem full_wrap (n : Int) : IntKind.u64.wrap (IntKind.u64.wrap (2 ^ (min (max n 0) 64).toNat) - 1) = ((fullN n : Nat) : Int) := by
  unfold fullN
  by_cases h : (min (max n 0) 64).toNat < 64
  · rw [pow_wrap _ h]
    have : (2 : Nat) ^ (min (max n 0) 64).toNat < 2 ^ 64 := Nat.pow_lt_pow_right (by decide) h
    have p : 0 < (2 : Nat) ^ (min (max n 0) 64).toNat := Nat.pow_pos (by decide)
    have e : (2 : Nat) ^ 64 = 18446744073709551616 := by decide
    rw [IntKind.wrap_u64]
    generalize (2 : Nat) ^ (min (max n 0) 64).toNat = y at *
    omega
  · have e : (min (max n 0) 64).toNat = 64 := by omega
    rw [e]; decide +kernel

set_option maxHeartbeats 400000 in
theorem only_any (i : Int) (w : World) :
    Calls Tryd.prog 24 #[.int .i64 i] w fun e w' => e = .returned (.int .u64 (onlyN i)) ∧ w' = w := by
  by_cases h0 : i < 0
  · have hg := hideM (show onlyN i = 0 by unfold onlyN; rw [if_neg (by omega)])
    go_enter Tryd.func24, Tryd.ntmps24
    go_wp2
    go_ret
    exact ⟨by rw [unhide hg]; rfl, rfl⟩
  · by_cases h1 : i < 64
    · have hg := hideM (show onlyN i = 2 ^ i.toNat by unfold onlyN; rw [if_pos (by omega)])
      go_enter Tryd.func24, Tryd.ntmps24
      go_wp2
      go_ret
      exact ⟨ret_u64 (by rw [unhide hg]; exact pow_wrap _ (by omega)), rfl⟩
    · have hg := hideM (show onlyN i = 0 by unfold onlyN; rw [if_neg (by omega)])
      go_enter Tryd.func24, Tryd.ntmps24
      go_wp2
      go_ret
      exact ⟨by rw [unhide hg]; rfl, rfl⟩

set_option maxHeartbeats 400000 in
theorem with_any (m : Nat) (i : Int) (w : World) (hm : m < 18446744073709551616) :
    Calls Tryd.prog 19 #[.int .u64 m, .int .i64 i] w fun e w' => e = .returned (.int .u64 (withN m i)) ∧ w' = w := by
  go_enter Tryd.func19, Tryd.ntmps19
  go_wp2_with (go_at_call 24; refine (only_any _ _).mono ?_; rintro e w' ⟨rfl, rfl⟩)
  go_ret
  exact ⟨ret_u64 (u64_or_nat m (onlyN i) hm (onlyN_lt i)), rfl⟩
/-- The set of a list. -/
def ofN (zs : List Int) : Nat := zs.foldl withN 0
theorem fold_lt (zs : List Int) : ∀ m, m < 18446744073709551616 → zs.foldl withN m < 18446744073709551616 := by
  induction zs with
  | nil => exact fun m h => h
  | cons z zs ih => exact fun m h => ih _ (withN_lt z h)
theorem ofN_lt (zs : List Int) : ofN zs < 18446744073709551616 := fold_lt zs 0 (by decide)
theorem ofN_snoc (zs : List Int) (k : Nat) (h : k < zs.length) : ofN (zs.take (k + 1)) = withN (ofN (zs.take k)) (zs.getD k 0) := by
  unfold ofN
  rw [List.take_succ_eq_append_getElem h, List.foldl_append, List.getD_eq_getElem?_getD, List.getElem?_eq_getElem h]; rfl

set_option maxHeartbeats 400000 in
theorem of_some (b o c : Nat) (zs : List Int) (w : World) (hc : ∀ j, j < zs.length → w.cell? ⟨b, o + j, none⟩ = some (.int .i64 (zs.getD j 0))) (hl : zs.length ≤ 9223372036854775807) :
    Calls Tryd.prog 12 #[.slice (some ⟨b, o, none⟩) zs.length c] w fun e w' => e = .returned (.int .u64 (ofN zs)) ∧ w' = w := by
  go_enter Tryd.func12, Tryd.ntmps12
  go_wp2
  go_loop [3, 8] (fun x i => ∃ k : Nat, k ≤ zs.length ∧ i = .int .i64 k ∧ x = .int .u64 (ofN (zs.take k))) (fun _ i => zs.length - (intOf i).toNat)
  case atStart => exact ⟨0, Nat.zero_le _, rfl, rfl⟩
  case round =>
    obtain ⟨k, hk, rfl, rfl⟩ := hrel
    by_cases hlt : k < zs.length
    · have hck := hc k hlt
      have hs := hideM (ofN_snoc zs k hlt)
      have hlt2 := ofN_lt (zs.take k)
      clear hc
      go_wp2_with (go_at_call 19; refine (with_any (ofN (zs.take k)) _ _ hlt2).mono ?_; rintro e w' ⟨rfl, rfl⟩)
      go_round
      case rel => exact ⟨k + 1, by omega, by go_num, by rw [unhide hs]; simp [List.getElem?_eq_getElem hlt]⟩
      case measure => simp [intOf]; omega
    · go_wp2
      go_ret
      exact ⟨ret_u64 (by rw [List.take_of_length_le (by omega)]), rfl⟩
set_option maxHeartbeats 400000 in
theorem of_none (p : Option Addr) (c : Nat) (w : World) :
    Calls Tryd.prog 12 #[.slice p 0 c] w fun e w' => e = .returned (.int .u64 0) ∧ w' = w := by
  go_enter Tryd.func12, Tryd.ntmps12
  go_wp2
  go_loop [3, 8] (fun x i => i = .int .i64 0 ∧ x = .int .u64 0) (fun _ _ => 0)
  case atStart => exact ⟨rfl, rfl⟩
  case round =>
    obtain ⟨rfl, rfl⟩ := hrel
    go_wp2
    go_ret
    exact ⟨rfl, rfl⟩
theorem wr64 (n : Nat) (h : n < 18446744073709551616) : IntKind.u64.wrap (n : Int) = (n : Int) := by rw [IntKind.wrap_u64]; omega
theorem and64 (a c : Nat) (ha : a < 18446744073709551616) (hc : c < 18446744073709551616) : bits .and .u64 (a : Int) (c : Int) = ((a &&& c : Nat) : Int) := u64_and_nat a c ha hc
theorem rep85 : rep 85 8 = 6148914691236517205 := by decide
theorem rep51 : rep 51 8 = 3689348814741910323 := by decide
theorem rep15 : rep 15 8 = 1085102592571150095 := by decide
theorem k1 (m : Nat) (hm : m < 18446744073709551616) : IntKind.u64.wrap (bits BinOp.and IntKind.u64 ((m : Int) / 2) 6148914691236517205 + bits BinOp.and IntKind.u64 (m : Int) 6148914691236517205) = ((s1 8 m : Nat) : Int) ∧ s1 8 m < 18446744073709551616 := by
  have a1 : (m / 2 &&& 6148914691236517205) ≤ 6148914691236517205 := Nat.and_le_right
  have a2 : (m &&& 6148914691236517205) ≤ 6148914691236517205 := Nat.and_le_right
  have e1 := and64 (m / 2) 6148914691236517205 (by omega) (by omega)
  have e2 := and64 m 6148914691236517205 (by omega) (by omega)
  have c1 : ((m : Int) / 2) = ((m / 2 : Nat) : Int) := by omega
  unfold s1
  rw [rep85]
  refine ⟨?_, by omega⟩
  rw [c1, show (6148914691236517205 : Int) = ((6148914691236517205 : Nat) : Int) from rfl, e1, e2, ← Int.natCast_add]
  exact wr64 _ (by omega)
theorem k2 (m : Nat) (hm : m < 18446744073709551616) : IntKind.u64.wrap (bits BinOp.and IntKind.u64 ((m : Int) / 4) 3689348814741910323 + bits BinOp.and IntKind.u64 (m : Int) 3689348814741910323) = ((s2 8 m : Nat) : Int) ∧ s2 8 m ≤ 7378697629483820646 := by
  have a1 : (m / 4 &&& 3689348814741910323) ≤ 3689348814741910323 := Nat.and_le_right
  have a2 : (m &&& 3689348814741910323) ≤ 3689348814741910323 := Nat.and_le_right
  have e1 := and64 (m / 4) 3689348814741910323 (by omega) (by omega)
  have e2 := and64 m 3689348814741910323 (by omega) (by omega)
  have c1 : ((m : Int) / 4) = ((m / 4 : Nat) : Int) := by omega
  unfold s2
  rw [rep51]
  refine ⟨?_, by omega⟩
  rw [c1, show (3689348814741910323 : Int) = ((3689348814741910323 : Nat) : Int) from rfl, e1, e2, ← Int.natCast_add]
  exact wr64 _ (by omega)
theorem k3 (m : Nat) (hm : m ≤ 7378697629483820646) : bits BinOp.and IntKind.u64 (IntKind.u64.wrap ((m : Int) / 16 + (m : Int))) 1085102592571150095 = ((s3 8 m : Nat) : Int) := by
  have e1 := and64 (m / 16 + m) 1085102592571150095 (by omega) (by omega)
  have c1 : ((m : Int) / 16 + (m : Int)) = ((m / 16 + m : Nat) : Int) := by omega
  unfold s3
  rw [rep15, c1, wr64 _ (by omega), show (1085102592571150095 : Int) = ((1085102592571150095 : Nat) : Int) from rfl, e1]
theorem k4 (x : Nat) (hx : x < 1157442765409226769) : IntKind.u64.wrap ((x : Int) + (x : Int) / 256) = ((x + x / 256 : Nat) : Int) := by
  rw [IntKind.wrap_u64]; omega
theorem k5 (x : Nat) (hx : x < 1257442765409226769) : IntKind.u64.wrap ((x : Int) + (x : Int) / 65536) = ((x + x / 65536 : Nat) : Int) := by
  rw [IntKind.wrap_u64]; omega
theorem k6 (x : Nat) (hx : x < 1357442765409226769) : IntKind.u64.wrap ((x : Int) + (x : Int) / 4294967296) = ((x + x / 4294967296 : Nat) : Int) := by
  rw [IntKind.wrap_u64]; omega

set_option maxHeartbeats 400000 in
theorem ones_core (m x1 x2 x3 x4 x5 x6 : Nat) (w : World)
    (h1 : IntKind.u64.wrap (bits BinOp.and IntKind.u64 ((m : Int) / 2) 6148914691236517205 + bits BinOp.and IntKind.u64 (m : Int) 6148914691236517205) = (x1 : Int))
    (h2 : IntKind.u64.wrap (bits BinOp.and IntKind.u64 ((x1 : Int) / 4) 3689348814741910323 + bits BinOp.and IntKind.u64 (x1 : Int) 3689348814741910323) = (x2 : Int))
    (h3 : bits BinOp.and IntKind.u64 (IntKind.u64.wrap ((x2 : Int) / 16 + (x2 : Int))) 1085102592571150095 = (x3 : Int))
    (h4 : IntKind.u64.wrap ((x3 : Int) + (x3 : Int) / 256) = (x4 : Int)) (h5 : IntKind.u64.wrap ((x4 : Int) + (x4 : Int) / 65536) = (x5 : Int)) (h6 : IntKind.u64.wrap ((x5 : Int) + (x5 : Int) / 4294967296) = (x6 : Int)) (hx : x6 < 9223372036854775808) :
    Calls Tryd.prog 22 #[.int .u64 m] w fun e w' => e = .returned (.int .i64 ((x6 % 128 : Nat) : Int)) ∧ w' = w := by
  go_enter Tryd.func22, Tryd.ntmps22
  go_wp2
  go_ret
  exact ⟨ret_i64 (by rw [i64_and127]; omega), rfl⟩

theorem ones_any (m : Nat) (w : World) (hm : m < 18446744073709551616) :
    Calls Tryd.prog 22 #[.int .u64 m] w fun e w' => e = .returned (.int .i64 (lenN m)) ∧ w' = w := by
  obtain ⟨a1, b1⟩ := k1 m hm
  obtain ⟨a2, b2⟩ := k2 (s1 8 m) b1
  have a3 := k3 _ b2
  have b3 := popN_bounds m hm
  have e := popN_eq m hm
  unfold popN at e
  simp only at e
  generalize s1 8 m = x1 at *
  generalize s2 8 x1 = x2 at *
  generalize s3 8 x2 = x3 at *
  have a4 := k4 x3 b3
  have b4 : x3 + x3 / 256 < 1257442765409226769 := by omega
  generalize x3 + x3 / 256 = x4 at *
  have a5 := k5 x4 b4
  have b5 : x4 + x4 / 65536 < 1357442765409226769 := by omega
  generalize x4 + x4 / 65536 = x5 at *
  have a6 := k6 x5 b5
  have b6 : x5 + x5 / 4294967296 < 9223372036854775808 := by omega
  generalize x5 + x5 / 4294967296 = x6 at *
  rw [← e]
  exact ones_core m x1 x2 x3 x4 x5 x6 w a1 a2 a3 a4 a5 a6 b6

set_option maxHeartbeats 400000 in
theorem len_any (m : Nat) (w : World) (hm : m < 18446744073709551616) :
    Calls Tryd.prog 15 #[.int .u64 m] w fun e w' => e = .returned (.int .i64 (lenN m)) ∧ w' = w := by
  go_enter Tryd.func15, Tryd.ntmps15
  go_wp2_with (go_at_call 22; refine (ones_any _ _ hm).mono ?_; rintro e w' ⟨rfl, rfl⟩)
  go_ret
  exact ⟨rfl, rfl⟩
end Go.Proofs.YtahkmpbgenpecaaDoor.Con
