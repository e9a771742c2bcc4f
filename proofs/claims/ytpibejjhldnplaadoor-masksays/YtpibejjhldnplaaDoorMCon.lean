/- What each call of package mask answers, as plain sets: the calls without memory. -/
import Derived.Test.YtpibejjhldnplaaDoorRows
import Derived.Test.YtpibejjhldnplaaDoorMBits
import Derived.Test.YtpibejjhldnplaaDoorShelf
import Derived.WalkKit
import Derived.Laws.BitsAllLaws
import Derived.Laws.Bits128
import Derived.Shelf.Spec.TrailingZeros
namespace Go.Proofs.YtpibejjhldnplaaDoor.Con
open Go.RowKit Go.Proofs.YtpibejjhldnplaaDoor.Mk
set_option linter.unusedVariables false
theorem hide {p : Prop} (h : p) : Hid p := h
theorem unhide {p : Prop} (h : Hid p) : p := h.out
theorem ret_u64 {a b : Int} (h : a = b) : Ending.returned (.int .u64 a) = .returned (.int .u64 b) := by rw [h]
theorem ret_i64 {a b : Int} (h : a = b) : Ending.returned (.int .i64 a) = .returned (.int .i64 b) := by rw [h]

theorem ret_bool {a b : Bool} (h : a = b) : Ending.returned (.bool a) = .returned (.bool b) := by rw [h]

theorem pow_wrap (k : Nat) (h : k < 64) : IntKind.u64.wrap ((2 : Int) ^ k) = ((2 ^ k : Nat) : Int) := by
  have : (2 : Nat) ^ k < 2 ^ 64 := Nat.pow_lt_pow_right (by decide) h
  have e : (2 : Nat) ^ 64 = 18446744073709551616 := by decide
  have c : ((2 : Int) ^ k) = ((2 ^ k : Nat) : Int) := by simp
  rw [c, IntKind.wrap_u64]
  generalize (2 : Nat) ^ k = y at *
  omega
theorem full_wrap (n : Int) : IntKind.u64.wrap (IntKind.u64.wrap (2 ^ (min (max n 0) 64).toNat) - 1) = ((fullN n : Nat) : Int) := by
  unfold fullN
  by_cases h : (min (max n 0) 64).toNat < 64
  · rw [pow_wrap _ h]
    have : (2 : Nat) ^ (min (max n 0) 64).toNat < 2 ^ 64 := Nat.pow_lt_pow_right (by decide) h
    have p : 0 < (2 : Nat) ^ (min (max n 0) 64).toNat := Nat.pow_pos (by decide)
    have e : (2 : Nat) ^ 64 = 18446744073709551616 := by decide
    rw [IntKind.wrap_u64]
    generalize (2 : Nat) ^ (min (max n 0) 64).toNat = y at *
    omega
  · have e : (min (max n 0) 64).toNat = 64 := by omega
    rw [e]; decide +kernel

set_option maxHeartbeats 400000 in
theorem only_any (i : Int) (w : World) :
    Calls Tryd.prog 27 #[.int .i64 i] w fun e w' => e = .returned (.int .u64 (onlyN i)) ∧ w' = w := by
  by_cases h0 : i < 0
  · have hg := hide (show onlyN i = 0 by unfold onlyN; rw [if_neg (by omega)])
    go_enter Tryd.func27, Tryd.ntmps27
    go_wp2
    go_ret
    exact ⟨by rw [unhide hg]; rfl, rfl⟩
  · by_cases h1 : i < 64
    · have hg := hide (show onlyN i = 2 ^ i.toNat by unfold onlyN; rw [if_pos (by omega)])
      go_enter Tryd.func27, Tryd.ntmps27
      go_wp2
      go_ret
      exact ⟨ret_u64 (by rw [unhide hg]; exact pow_wrap _ (by omega)), rfl⟩
    · have hg := hide (show onlyN i = 0 by unfold onlyN; rw [if_neg (by omega)])
      go_enter Tryd.func27, Tryd.ntmps27
      go_wp2
      go_ret
      exact ⟨by rw [unhide hg]; rfl, rfl⟩

set_option maxHeartbeats 400000 in
theorem full_any (n : Int) (w : World) :
    Calls Tryd.prog 17 #[.int .i64 n] w fun e w' => e = .returned (.int .u64 (fullN n)) ∧ w' = w := by
  go_enter Tryd.func17, Tryd.ntmps17
  go_wp2
  go_ret
  exact ⟨ret_u64 (full_wrap n), rfl⟩

theorem wr64 (n : Nat) (h : n < 18446744073709551616) : IntKind.u64.wrap (n : Int) = (n : Int) := by rw [IntKind.wrap_u64]; omega
theorem and64 (a c : Nat) (ha : a < 18446744073709551616) (hc : c < 18446744073709551616) : bits .and .u64 (a : Int) (c : Int) = ((a &&& c : Nat) : Int) := u64_and_nat a c ha hc
theorem rep85 : rep 85 8 = 6148914691236517205 := by decide
theorem rep51 : rep 51 8 = 3689348814741910323 := by decide
theorem rep15 : rep 15 8 = 1085102592571150095 := by decide
theorem k1 (m : Nat) (hm : m < 18446744073709551616) : IntKind.u64.wrap (bits BinOp.and IntKind.u64 ((m : Int) / 2) 6148914691236517205 + bits BinOp.and IntKind.u64 (m : Int) 6148914691236517205) = ((s1 8 m : Nat) : Int) ∧ s1 8 m < 18446744073709551616 := by
  have a1 : (m / 2 &&& 6148914691236517205) ≤ 6148914691236517205 := Nat.and_le_right
  have a2 : (m &&& 6148914691236517205) ≤ 6148914691236517205 := Nat.and_le_right
  have e1 := and64 (m / 2) 6148914691236517205 (by omega) (by omega)
  have e2 := and64 m 6148914691236517205 (by omega) (by omega)
  have c1 : ((m : Int) / 2) = ((m / 2 : Nat) : Int) := by omega
  unfold s1
  rw [rep85]
  refine ⟨?_, by omega⟩
  rw [c1, show (6148914691236517205 : Int) = ((6148914691236517205 : Nat) : Int) from rfl, e1, e2, ← Int.natCast_add]
  exact wr64 _ (by omega)
theorem k2 (m : Nat) (hm : m < 18446744073709551616) : IntKind.u64.wrap (bits BinOp.and IntKind.u64 ((m : Int) / 4) 3689348814741910323 + bits BinOp.and IntKind.u64 (m : Int) 3689348814741910323) = ((s2 8 m : Nat) : Int) ∧ s2 8 m ≤ 7378697629483820646 := by
  have a1 : (m / 4 &&& 3689348814741910323) ≤ 3689348814741910323 := Nat.and_le_right
  have a2 : (m &&& 3689348814741910323) ≤ 3689348814741910323 := Nat.and_le_right
  have e1 := and64 (m / 4) 3689348814741910323 (by omega) (by omega)
  have e2 := and64 m 3689348814741910323 (by omega) (by omega)
  have c1 : ((m : Int) / 4) = ((m / 4 : Nat) : Int) := by omega
  unfold s2
  rw [rep51]
  refine ⟨?_, by omega⟩
  rw [c1, show (3689348814741910323 : Int) = ((3689348814741910323 : Nat) : Int) from rfl, e1, e2, ← Int.natCast_add]
  exact wr64 _ (by omega)
theorem k3 (m : Nat) (hm : m ≤ 7378697629483820646) : bits BinOp.and IntKind.u64 (IntKind.u64.wrap ((m : Int) / 16 + (m : Int))) 1085102592571150095 = ((s3 8 m : Nat) : Int) := by
  have e1 := and64 (m / 16 + m) 1085102592571150095 (by omega) (by omega)
  have c1 : ((m : Int) / 16 + (m : Int)) = ((m / 16 + m : Nat) : Int) := by omega
  unfold s3
  rw [rep15, c1, wr64 _ (by omega), show (1085102592571150095 : Int) = ((1085102592571150095 : Nat) : Int) from rfl, e1]
theorem k4 (x : Nat) (hx : x < 1157442765409226769) : IntKind.u64.wrap ((x : Int) + (x : Int) / 256) = ((x + x / 256 : Nat) : Int) := by
  rw [IntKind.wrap_u64]; omega
theorem k5 (x : Nat) (hx : x < 1257442765409226769) : IntKind.u64.wrap ((x : Int) + (x : Int) / 65536) = ((x + x / 65536 : Nat) : Int) := by
  rw [IntKind.wrap_u64]; omega
theorem k6 (x : Nat) (hx : x < 1357442765409226769) : IntKind.u64.wrap ((x : Int) + (x : Int) / 4294967296) = ((x + x / 4294967296 : Nat) : Int) := by
  rw [IntKind.wrap_u64]; omega

set_option maxHeartbeats 400000 in
theorem ones_core (m x1 x2 x3 x4 x5 x6 : Nat) (w : World)
    (h1 : IntKind.u64.wrap (bits BinOp.and IntKind.u64 ((m : Int) / 2) 6148914691236517205 + bits BinOp.and IntKind.u64 (m : Int) 6148914691236517205) = (x1 : Int))
    (h2 : IntKind.u64.wrap (bits BinOp.and IntKind.u64 ((x1 : Int) / 4) 3689348814741910323 + bits BinOp.and IntKind.u64 (x1 : Int) 3689348814741910323) = (x2 : Int))
    (h3 : bits BinOp.and IntKind.u64 (IntKind.u64.wrap ((x2 : Int) / 16 + (x2 : Int))) 1085102592571150095 = (x3 : Int))
    (h4 : IntKind.u64.wrap ((x3 : Int) + (x3 : Int) / 256) = (x4 : Int)) (h5 : IntKind.u64.wrap ((x4 : Int) + (x4 : Int) / 65536) = (x5 : Int)) (h6 : IntKind.u64.wrap ((x5 : Int) + (x5 : Int) / 4294967296) = (x6 : Int)) (hx : x6 < 9223372036854775808) :
    Calls Tryd.prog 31 #[.int .u64 m] w fun e w' => e = .returned (.int .i64 ((x6 % 128 : Nat) : Int)) ∧ w' = w := by
  go_enter Tryd.func31, Tryd.ntmps31
  go_wp2
  go_ret
  exact ⟨ret_i64 (by rw [i64_and127]; omega), rfl⟩

theorem ones_any (m : Nat) (w : World) (hm : m < 18446744073709551616) :
    Calls Tryd.prog 31 #[.int .u64 m] w fun e w' => e = .returned (.int .i64 (lenN m)) ∧ w' = w := by
  obtain ⟨a1, b1⟩ := k1 m hm
  obtain ⟨a2, b2⟩ := k2 (s1 8 m) b1
  have a3 := k3 _ b2
  have b3 := popN_bounds m hm
  have e := popN_eq m hm
  unfold popN at e
  simp only at e
  generalize s1 8 m = x1 at *
  generalize s2 8 x1 = x2 at *
  generalize s3 8 x2 = x3 at *
  have a4 := k4 x3 b3
  have b4 : x3 + x3 / 256 < 1257442765409226769 := by omega
  generalize x3 + x3 / 256 = x4 at *
  have a5 := k5 x4 b4
  have b5 : x4 + x4 / 65536 < 1357442765409226769 := by omega
  generalize x4 + x4 / 65536 = x5 at *
  have a6 := k6 x5 b5
  have b6 : x5 + x5 / 4294967296 < 9223372036854775808 := by omega
  generalize x5 + x5 / 4294967296 = x6 at *
  rw [← e]
  exact ones_core m x1 x2 x3 x4 x5 x6 w a1 a2 a3 a4 a5 a6 b6

set_option maxHeartbeats 400000 in
theorem len_any (m : Nat) (w : World) (hm : m < 18446744073709551616) :
    Calls Tryd.prog 23 #[.int .u64 m] w fun e w' => e = .returned (.int .i64 (lenN m)) ∧ w' = w := by
  go_enter Tryd.func23, Tryd.ntmps23
  go_wp2_with (go_at_call 31; refine (ones_any _ _ hm).mono ?_; rintro e w' ⟨rfl, rfl⟩)
  go_ret
  exact ⟨rfl, rfl⟩
set_option maxHeartbeats 400000 in
theorem with_any (m : Nat) (i : Int) (w : World) (hm : m < 18446744073709551616) :
    Calls Tryd.prog 15 #[.int .u64 m, .int .i64 i] w fun e w' => e = .returned (.int .u64 (withN m i)) ∧ w' = w := by
  go_enter Tryd.func15, Tryd.ntmps15
  go_wp2_with (go_at_call 27; refine (only_any _ _).mono ?_; rintro e w' ⟨rfl, rfl⟩)
  go_ret
  exact ⟨ret_u64 (u64_or_nat m (onlyN i) hm (onlyN_lt i)), rfl⟩
set_option maxHeartbeats 400000 in
theorem without_any (m : Nat) (i : Int) (w : World) (hm : m < 18446744073709551616) :
    Calls Tryd.prog 16 #[.int .u64 m, .int .i64 i] w fun e w' => e = .returned (.int .u64 (withoutN m i)) ∧ w' = w := by
  go_enter Tryd.func16, Tryd.ntmps16
  go_wp2_with (go_at_call 27; refine (only_any _ _).mono ?_; rintro e w' ⟨rfl, rfl⟩)
  go_ret
  exact ⟨ret_u64 (u64_andNot_nat m (onlyN i) hm (onlyN_lt i)), rfl⟩
set_option maxHeartbeats 400000 in
theorem has_any (m : Nat) (i : Int) (w : World) (hm : m < 18446744073709551616) :
    Calls Tryd.prog 14 #[.int .u64 m, .int .i64 i] w fun e w' => e = .returned (.bool (hasN m i)) ∧ w' = w := by
  have hb := hide (u64_and_nat m (onlyN i) hm (onlyN_lt i))
  go_enter Tryd.func14, Tryd.ntmps14
  go_wp2_with (go_at_call 27; refine (only_any _ _).mono ?_; rintro e w' ⟨rfl, rfl⟩)
  go_ret
  exact ⟨ret_bool (by rw [unhide hb, hasN, Bool.eq_iff_iff]; simp), rfl⟩
set_option maxHeartbeats 400000 in
theorem rank_any (m : Nat) (i : Int) (w : World) (hm : m < 18446744073709551616) :
    Calls Tryd.prog 13 #[.int .u64 m, .int .i64 i] w fun e w' => e = .returned (.int .i64 (lenN (m &&& fullN i))) ∧ w' = w := by
  have hb := u64_and_nat m (fullN i) hm (by have := fullN_le i; omega)
  go_enter Tryd.func13, Tryd.ntmps13
  go_wp2_with (first
    | (go_at_call 17; refine (full_any _ _).mono ?_; rintro e w' ⟨rfl, rfl⟩)
    | (go_at_call 23; refine (len_any (m &&& fullN i) _ (and_lt _ hm)).mono ?_; rintro e w' ⟨rfl, rfl⟩))
  go_ret
  exact ⟨rfl, rfl⟩

/-- The table of the lowest bits is as its initialiser lays it. -/
def Tab (w : World) : Prop := TabAt 0 Lib.deBruijn64tab w
theorem Tab.lt {w : World} (h : Tab w) : 0 < w.heap.size := by
  rcases Nat.lt_or_ge 0 w.heap.size with h' | h'
  · exact h'
  · have := h 0 (by decide)
    simp [World.cell?, Array.getElem?_eq_none h'] at this
theorem Tab.below {w w' : World} {n : Nat} (h : Tab w) (hn : 0 < n) (hb : Below n w w') : Tab w' :=
  fun j hj => (hb.cell (p := ⟨0, j, none⟩) hn).trans (h j hj)
theorem Tab.on {w w' : World} (h : Tab w) (hb : Below w.heap.size w w') : Tab w' := h.below h.lt hb

set_option maxHeartbeats 1000000 in
theorem tz_core (x k idx : Nat) (w : World) (hx0 : ((x : Int) == 0) = false)
    (key : IntKind.u64.wrap (bits BinOp.and IntKind.u64 (x : Int) (IntKind.u64.wrap (-(x : Int))) * 285870213051353865) / 288230376151711744 = (idx : Int))
    (hi : idx < 64) (hk : k < 64) (hcell : w.cell? ⟨0, idx, none⟩ = some (.int .u8 k)) :
    Calls Tryd.prog 26 #[.int .u64 x] w fun e w' => e = .returned (.int .i64 k) ∧ w' = w := by
  go_enter Tryd.func26, Tryd.ntmps26
  go_wp2_with (simp only [key])
  go_ret
  exact ⟨rfl, rfl⟩
theorem tz_any (x : Nat) (w : World) (hx : x < 18446744073709551616) (hx0 : x ≠ 0) (hT : Tab w) :
    Calls Tryd.prog 26 #[.int .u64 x] w fun e w' => e = .returned (.int .i64 (Lib.ctz 64 x)) ∧ w' = w := by
  obtain ⟨hlow, hk⟩ := Lib.lowest_bit 64 x hx0 hx
  obtain ⟨hi, htab⟩ := Lib.deBruijn64_at _ hk
  have hcell := hT _ hi
  rw [htab] at hcell
  exact tz_core x _ _ w (by simp; omega) (tz64_key x _ hx hx0 hlow) hi hk hcell

set_option maxHeartbeats 400000 in
theorem first_any (m : Nat) (f : Int) (w : World) (hm : m < 18446744073709551616) (hT : Tab w) :
    Calls Tryd.prog 10 #[.int .u64 m, .int .i64 f] w fun e w' => e = .returned (.tuple #[.int .i64 (firstN m f).1, .bool (firstN m f).2]) ∧ w' = w := by
  have hb := u64_andNot_nat m (fullN f) hm (by have := fullN_le f; omega)
  have hr := restN_lt f hm
  have hd : (m &&& (18446744073709551615 - fullN f)) = restN m f := rfl
  rw [hd] at hb
  clear hd
  by_cases h0 : restN m f = 0
  · have hg := hide (show firstN m f = (0, false) by unfold firstN; rw [if_pos h0])
    rw [h0] at hb
    clear h0 hr
    go_enter Tryd.func10, Tryd.ntmps10
    go_wp2_with (go_at_call 17; refine (full_any _ _).mono ?_; rintro e w' ⟨rfl, rfl⟩)
    go_ret2
    exact ⟨by rw [unhide hg]; rfl, rfl⟩
  · have hg := hide (show firstN m f = (Lib.ctz 64 (restN m f), true) by unfold firstN; rw [if_neg h0])
    have hz : (((restN m f : Nat) : Int) == 0) = false := by simp; omega
    have hT' := hide hT
    clear hT
    generalize restN m f = x at *
    have hx0 := hide h0
    clear h0
    go_enter Tryd.func10, Tryd.ntmps10
    go_wp2_with (first
      | (go_at_call 17; refine (full_any _ _).mono ?_; rintro e w' ⟨rfl, rfl⟩)
      | (go_at_call 26; refine (tz_any x _ hr (unhide hx0) (unhide hT')).mono ?_; rintro e w' ⟨rfl, rfl⟩))
    go_ret2
    exact ⟨by rw [unhide hg]; rfl, rfl⟩
end Go.Proofs.YtpibejjhldnplaaDoor.Con
