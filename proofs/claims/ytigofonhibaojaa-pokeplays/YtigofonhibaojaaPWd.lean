/- What With, Without, Full and Of of package mask answer, as plain sets. -/
import Derived.Test.YtigofonhibaojaaChecked
import Derived.Test.YtigofonhibaojaaMBits
import Derived.WalkKit
import Derived.RowKit
import Derived.Laws.BitsAllLaws
import Derived.Laws.Bits128
namespace Go.Proofs.Ytigofonhibaojaa.Con
open Go.RowKit Go.Proofs.Ytigofonhibaojaa.Mk
set_option linter.unusedVariables false
set_option linter.unusedSimpArgs false
theorem hide {p : Prop} (h : p) : Hid p := h
theorem unhide {p : Prop} (h : Hid p) : p := h.out
theorem ret_u64 {a b : Int} (h : a = b) : Ending.returned (.int .u64 a) = .returned (.int .u64 b) := by rw [h]
theorem ret_i64 {a b : Int} (h : a = b) : Ending.returned (.int .i64 a) = .returned (.int .i64 b) := by rw [h]

theorem ret_bool {a b : Bool} (h : a = b) : Ending.returned (.bool a) = .returned (.bool b) := by rw [h]

theorem pow_wrap (k : Nat) (h : k < 64) : IntKind.u64.wrap ((2 : Int) ^ k) = ((2 ^ k : Nat) : Int) := by
  have : (2 : Nat) ^ k < 2 ^ 64 := Nat.pow_lt_pow_right (by decide) h
  have e : (2 : Nat) ^ 64 = 18446744073709551616 := by decide
  have c : ((2 : Int) ^ k) = ((2 ^ k : Nat) : Int) := by simp
  rw [c, IntKind.wrap_u64]
  generalize (2 : Nat) ^ k = y at *
  omega
theorem full_wrap (n : Int) : IntKind.u64.wrap (IntKind.u64.wrap (2 ^ (min (max n 0) 64).toNat) - 1) = ((fullN n : Nat) : Int) := by
  unfold fullN
  by_cases h : (min (max n 0) 64).toNat < 64
  · rw [pow_wrap _ h]
    have : (2 : Nat) ^ (min (max n 0) 64).toNat < 2 ^ 64 := Nat.pow_lt_pow_right (by decide) h
    have p : 0 < (2 : Nat) ^ (min (max n 0) 64).toNat := Nat.pow_pos (by decide)
    have e : (2 : Nat) ^ 64 = 18446744073709551616 := by decide
    rw [IntKind.wrap_u64]
    generalize (2 : Nat) ^ (min (max n 0) 64).toNat = y at *
    omega
  · have e : (min (max n 0) 64).toNat = 64 := by omega
    rw [e]; decide +kernel

set_option maxHeartbeats 400000 in
theorem only_any (i : Int) (w : World) :
    Calls Try.prog 20 #[.int .i64 i] w fun e w' => e = .returned (.int .u64 (onlyN i)) ∧ w' = w := by
  by_cases h0 : i < 0
  · have hg := hide (show onlyN i = 0 by unfold onlyN; rw [if_neg (by omega)])
    go_enter Try.func20, Try.ntmps20
    go_wp2
    go_ret
    exact ⟨by rw [unhide hg]; rfl, rfl⟩
  · by_cases h1 : i < 64
    · have hg := hide (show onlyN i = 2 ^ i.toNat by unfold onlyN; rw [if_pos (by omega)])
      go_enter Try.func20, Try.ntmps20
      go_wp2
      go_ret
      exact ⟨ret_u64 (by rw [unhide hg]; exact pow_wrap _ (by omega)), rfl⟩
    · have hg := hide (show onlyN i = 0 by unfold onlyN; rw [if_neg (by omega)])
      go_enter Try.func20, Try.ntmps20
      go_wp2
      go_ret
      exact ⟨by rw [unhide hg]; rfl, rfl⟩

theorem full_at (n : Int) (k : Nat) (h : (min (max n 0) 64).toNat = k) : IntKind.u64.wrap (IntKind.u64.wrap (2 ^ k) - 1) = ((fullN n : Nat) : Int) := by rw [← full_wrap n, h]
set_option maxHeartbeats 400000 in
theorem full_any (n : Int) (w : World) :
    Calls Try.prog 15 #[.int .i64 n] w fun e w' => e = .returned (.int .u64 (fullN n)) ∧ w' = w := by
  by_cases h0 : n < 0
  · have F := hide (full_at n 0 (by omega))
    go_enter Try.func15, Try.ntmps15
    go_wp2
    all_goals go_ret
    all_goals exact ⟨ret_u64 F.out, rfl⟩
  · by_cases h1 : n ≤ 64
    · have F := hide (full_at n n.toNat (by omega))
      go_enter Try.func15, Try.ntmps15
      go_wp2
      all_goals go_ret
      all_goals exact ⟨ret_u64 F.out, rfl⟩
    · have F := hide (full_at n 64 (by omega))
      go_enter Try.func15, Try.ntmps15
      go_wp2
      all_goals go_ret
      all_goals exact ⟨ret_u64 F.out, rfl⟩
set_option maxHeartbeats 400000 in
theorem with_any (m : Nat) (i : Int) (w : World) (hm : m < 18446744073709551616) :
    Calls Try.prog 19 #[.int .u64 m, .int .i64 i] w fun e w' => e = .returned (.int .u64 (withN m i)) ∧ w' = w := by
  go_enter Try.func19, Try.ntmps19
  go_wp2_with (go_at_call 20; refine (only_any _ _).mono ?_; rintro e w' ⟨rfl, rfl⟩)
  go_ret
  exact ⟨ret_u64 (u64_or_nat m (onlyN i) hm (onlyN_lt i)), rfl⟩
set_option maxHeartbeats 400000 in
theorem without_any (m : Nat) (i : Int) (w : World) (hm : m < 18446744073709551616) :
    Calls Try.prog 16 #[.int .u64 m, .int .i64 i] w fun e w' => e = .returned (.int .u64 (withoutN m i)) ∧ w' = w := by
  go_enter Try.func16, Try.ntmps16
  go_wp2_with (go_at_call 20; refine (only_any _ _).mono ?_; rintro e w' ⟨rfl, rfl⟩)
  go_ret
  exact ⟨ret_u64 (u64_andNot_nat m (onlyN i) hm (onlyN_lt i)), rfl⟩
/-- The set of a list. -/
def ofN (zs : List Int) : Nat := zs.foldl withN 0
theorem fold_lt (zs : List Int) : ∀ m, m < 18446744073709551616 → zs.foldl withN m < 18446744073709551616 := by
  induction zs with
  | nil => exact fun m h => h
  | cons z zs ih => exact fun m h => ih _ (withN_lt z h)
theorem ofN_lt (zs : List Int) : ofN zs < 18446744073709551616 := fold_lt zs 0 (by decide)
theorem ofN_snoc (zs : List Int) (k : Nat) (h : k < zs.length) : ofN (zs.take (k + 1)) = withN (ofN (zs.take k)) (zs.getD k 0) := by
  unfold ofN
  rw [List.take_succ_eq_append_getElem h, List.foldl_append, List.getD_eq_getElem?_getD, List.getElem?_eq_getElem h]; rfl

set_option maxHeartbeats 400000 in
theorem of_some (b o c : Nat) (zs : List Int) (w : World) (hc : ∀ j, j < zs.length → w.cell? ⟨b, o + j, none⟩ = some (.int .i64 (zs.getD j 0))) (hl : zs.length ≤ 9223372036854775807) :
    Calls Try.prog 11 #[.slice (some ⟨b, o, none⟩) zs.length c] w fun e w' => e = .returned (.int .u64 (ofN zs)) ∧ w' = w := by
  go_enter Try.func11, Try.ntmps11
  go_wp2
  go_loop [3, 8] (fun x i => ∃ k : Nat, k ≤ zs.length ∧ i = .int .i64 k ∧ x = .int .u64 (ofN (zs.take k))) (fun _ i => zs.length - (intOf i).toNat)
  case atStart => exact ⟨0, Nat.zero_le _, rfl, rfl⟩
  case round =>
    obtain ⟨k, hk, rfl, rfl⟩ := hrel
    by_cases hlt : k < zs.length
    · have hck := hc k hlt
      have hs := hide (ofN_snoc zs k hlt)
      have hlt2 := ofN_lt (zs.take k)
      clear hc
      go_wp2_with (go_at_call 19; refine (with_any (ofN (zs.take k)) _ _ hlt2).mono ?_; rintro e w' ⟨rfl, rfl⟩)
      go_round
      case rel => exact ⟨k + 1, by omega, by go_num, by rw [unhide hs]; simp [List.getElem?_eq_getElem hlt]⟩
      case measure => simp [intOf]; omega
    · go_wp2
      go_ret
      exact ⟨ret_u64 (by rw [List.take_of_length_le (by omega)]), rfl⟩
set_option maxHeartbeats 400000 in
theorem of_none (p : Option Addr) (c : Nat) (w : World) :
    Calls Try.prog 11 #[.slice p 0 c] w fun e w' => e = .returned (.int .u64 0) ∧ w' = w := by
  go_enter Try.func11, Try.ntmps11
  go_wp2
  go_loop [3, 8] (fun x i => i = .int .i64 0 ∧ x = .int .u64 0) (fun _ _ => 0)
  case atStart => exact ⟨rfl, rfl⟩
  case round =>
    obtain ⟨rfl, rfl⟩ := hrel
    go_wp2
    go_ret
    exact ⟨rfl, rfl⟩
end Go.Proofs.Ytigofonhibaojaa.Con
