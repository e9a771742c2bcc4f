/- What Around, Nth, runEnd, runText and Of of package mask answer. -/
import Derived.Test.YtpibejjhldnplaaDoorMCon
import Derived.Test.YtpibejjhldnplaaDoorMSets
namespace Go.Proofs.YtpibejjhldnplaaDoor.Con
open Go.RowKit Go.Proofs.YtpibejjhldnplaaDoor.Mk
set_option linter.unusedVariables false

set_option maxHeartbeats 400000 in
theorem around_any (m : Nat) (f : Int) (w : World) (hm : m < 18446744073709551616) (hT : Tab w) :
    Calls Tryd.prog 11 #[.int .u64 m, .int .i64 f] w fun e w' => e = .returned (.tuple #[.int .i64 (aroundN m f).1, .bool (aroundN m f).2]) ∧ w' = w := by
  have hT' := hide hT
  clear hT
  have hF := hide (first_any m f w hm (unhide hT'))
  have hF0 := hide (first_any m 0 w hm (unhide hT'))
  rcases hb : (firstN m f).2 with _ | _
  · have hg := hide (show aroundN m f = firstN m 0 by unfold aroundN; rw [hb]; rfl)
    rw [hb] at hF
    clear hb
    go_enter Tryd.func11, Tryd.ntmps11
    go_wp2_with fail
    refine (unhide hF).mono ?_; rintro e w' ⟨rfl, rfl⟩
    go_wp2_with fail
    refine (unhide hF0).mono ?_; rintro e w' ⟨rfl, rfl⟩
    go_wp2
    go_ret2
    exact ⟨by rw [unhide hg]; rfl, rfl⟩
  · have hg := hide (show aroundN m f = ((firstN m f).1, true) by unfold aroundN; rw [hb]; rfl)
    rw [hb] at hF
    clear hb
    go_enter Tryd.func11, Tryd.ntmps11
    go_wp2_with fail
    refine (unhide hF).mono ?_; rintro e w' ⟨rfl, rfl⟩
    go_wp2
    go_ret2
    exact ⟨by rw [unhide hg]; rfl, rfl⟩

theorem xor_max (m : Nat) (hm : m < 18446744073709551616) : bits BinOp.xor IntKind.u64 IntKind.u64.max (m : Int) = ((18446744073709551615 - m : Nat) : Int) := by
  have e : IntKind.u64.max = ((18446744073709551615 : Nat) : Int) := by decide
  rw [e, u64_xor_nat _ m (by omega) hm]
  congr 1
  apply Nat.eq_of_testBit_eq
  intro j
  rw [Nat.testBit_xor, compl_bit m j hm, show (18446744073709551615 : Nat) = 2 ^ 64 - 1 by decide, Nat.testBit_two_pow_sub_one]
  by_cases hj : j < 64
  · simp [hj]
  · have : m.testBit j = false := by
      rcases hb : m.testBit j with _ | _
      · rfl
      · exact absurd (bit_lt hm hb) hj
    simp [hj, this]
set_option maxHeartbeats 400000 in
theorem runEnd_core (m c i : Nat) (w : World) (hx : bits BinOp.xor IntKind.u64 IntKind.u64.max (m : Int) = (c : Int)) (hc : c < 18446744073709551616) (hT : Tab w) :
    Calls Tryd.prog 28 #[.int .u64 m, .int .i64 i] w fun e w' => e = .returned (.int .i64 ((if (firstN c i).2 then (firstN c i).1 else 64 : Nat) : Int)) ∧ w' = w := by
  have hF := hide (first_any c i w hc hT)
  clear hT
  rcases hb : (firstN c i).2 with _ | _
  · rw [hb] at hF
    clear hb
    go_enter Tryd.func28, Tryd.ntmps28
    go_wp2_with fail
    refine (unhide hF).mono ?_; rintro e w' ⟨rfl, rfl⟩
    go_wp2
    go_ret
    exact ⟨rfl, rfl⟩
  · rw [hb] at hF
    clear hb
    go_enter Tryd.func28, Tryd.ntmps28
    go_wp2_with fail
    refine (unhide hF).mono ?_; rintro e w' ⟨rfl, rfl⟩
    go_wp2
    go_ret
    exact ⟨rfl, rfl⟩
theorem runEnd_any (m i : Nat) (w : World) (hm : m < 18446744073709551616) (hT : Tab w) :
    Calls Tryd.prog 28 #[.int .u64 m, .int .i64 i] w fun e w' => e = .returned (.int .i64 (endN m i)) ∧ w' = w :=
  runEnd_core m (18446744073709551615 - m) i w (xor_max m hm) (compl_lt m) hT
theorem bytes_app (a b : List UInt8) : ((⟨a.toArray⟩ : ByteArray) ++ (⟨b.toArray⟩ : ByteArray)) = ⟨(a ++ b).toArray⟩ := by
  apply ByteArray.ext; rw [ByteArray.data_append]; simp
theorem ret_str {a b : ByteArray} (h : a = b) : Ending.returned (.string a) = .returned (.string b) := by rw [h]

set_option maxHeartbeats 400000 in
theorem runText_any (a b : Nat) (w : World) (ha : a < 64) (hb : b < 64) :
    Calls Tryd.prog 29 #[.int .i64 a, .int .i64 b] w fun e w' => e = .returned (.string ⟨(runTx a b).toArray⟩) ∧ w' = w := by
  by_cases h : a = b
  · have hg := hide (show runTx a b = Lib.decDigits a by unfold runTx; rw [if_pos h])
    have hc : (((a : Int)) == (b : Int)) = true := by simp; omega
    clear h
    go_enter Tryd.func29, Tryd.ntmps29
    go_wp2_with (go_at_call 33; refine (Tryd.strconv_Itoa_small a (by omega) _).mono ?_; rintro e w' ⟨rfl, rfl⟩)
    go_ret
    exact ⟨by rw [unhide hg]; rfl, rfl⟩
  · have hg := hide (show runTx a b = Lib.decDigits a ++ [45] ++ Lib.decDigits b by unfold runTx; rw [if_neg h])
    have hc : (((a : Int)) == (b : Int)) = false := by simp; omega
    have la := dec_le a ha
    have lb := dec_le b hb
    clear h
    go_enter Tryd.func29, Tryd.ntmps29
    go_wp2_with fail
    refine (Tryd.strconv_Itoa_small a (by omega) _).mono ?_; rintro e w' ⟨rfl, rfl⟩
    go_wp2_with fail
    refine (Tryd.strconv_Itoa_small b (by omega) _).mono ?_; rintro e w' ⟨rfl, rfl⟩
    go_wp2
    go_ret
    exact ⟨ret_str (by rw [unhide hg, ← bytes_app, ← bytes_app]), rfl⟩

set_option maxHeartbeats 400000 in
theorem nth_any (m : Nat) (n : Int) (w : World) (hm : m < 18446744073709551616) (hT : Tab w) :
    Calls Tryd.prog 12 #[.int .u64 m, .int .i64 n] w fun e w' => e = .returned (.tuple #[.int .i64 (nthN m n).1, .bool (nthN m n).2]) ∧ w' = w := by
  have hT' := hide hT
  clear hT
  have hl := lenN_le m
  by_cases hin : 0 ≤ n ∧ n < lenN m
  · obtain ⟨k, rfl⟩ : ∃ k : Nat, n = k := ⟨n.toNat, by omega⟩
    have hk : k < lenN m := by omega
    clear hin
    go_enter Tryd.func12, Tryd.ntmps12
    go_wp2_with (go_at_call 23; refine (len_any _ _ hm).mono ?_; rintro e w' ⟨rfl, rfl⟩)
    go_loop [0, 15] (fun x i => ∃ j y : Nat, j ≤ k ∧ i = .int .i64 j ∧ x = .int .u64 y ∧ y < 18446744073709551616 ∧ ones y = (ones m).drop j) (fun _ i => k - (intOf i).toNat)
    case atStart => exact ⟨0, m, Nat.zero_le _, rfl, rfl, hm, rfl⟩
    case round =>
      obtain ⟨j, y, hj, rfl, rfl, hy, ho⟩ := hrel
      have ho' := hide ho
      clear ho
      by_cases hlt : j < k
      · obtain ⟨h0, hd⟩ := drop_low hy (unhide ho') (by omega)
        have hd' := hide hd
        clear hd
        have hb := hide (u64_and_nat y (y - 1) hy (by omega))
        go_wp2
        go_round
        case rel => exact ⟨j + 1, lowN y, by omega, by go_num, by
          rw [show ((y : Int) - 1) = ((y - 1 : Nat) : Int) by omega, unhide hb]; rfl, lowN_lt hy, unhide hd'⟩
        case measure => simp [intOf]; omega
      · obtain rfl : j = k := by omega
        go_wp2_with (go_at_call 10; refine (first_any y 0 _ hy (unhide hT')).mono ?_; rintro e w' ⟨rfl, rfl⟩)
        go_ret2
        exact ⟨by rw [nth_first m j y hy (unhide ho') hk]; rfl, rfl⟩
  · have hg := hide (show nthN m n = (0, false) by unfold nthN; rw [if_neg hin])
    by_cases h0 : n < 0
    · clear hin
      go_enter Tryd.func12, Tryd.ntmps12
      go_wp2
      go_ret2
      exact ⟨by rw [unhide hg]; rfl, rfl⟩
    · have h1 : (lenN m : Int) ≤ n := by omega
      clear hin
      go_enter Tryd.func12, Tryd.ntmps12
      go_wp2_with (go_at_call 23; refine (len_any _ _ hm).mono ?_; rintro e w' ⟨rfl, rfl⟩)
      go_ret2
      exact ⟨by rw [unhide hg]; rfl, rfl⟩

/-- The set of a list. -/
def ofN (zs : List Int) : Nat := zs.foldl withN 0
theorem fold_lt (zs : List Int) : ∀ m, m < 18446744073709551616 → zs.foldl withN m < 18446744073709551616 := by
  induction zs with
  | nil => exact fun m h => h
  | cons z zs ih => exact fun m h => ih _ (withN_lt z h)
theorem ofN_lt (zs : List Int) : ofN zs < 18446744073709551616 := fold_lt zs 0 (by decide)
theorem ofN_snoc (zs : List Int) (k : Nat) (h : k < zs.length) : ofN (zs.take (k + 1)) = withN (ofN (zs.take k)) (zs.getD k 0) := by
  unfold ofN
  rw [List.take_succ_eq_append_getElem h, List.foldl_append, List.getD_eq_getElem?_getD, List.getElem?_eq_getElem h]; rfl

set_option maxHeartbeats 400000 in
theorem of_some (b o c : Nat) (zs : List Int) (w : World) (hc : ∀ j, j < zs.length → w.cell? ⟨b, o + j, none⟩ = some (.int .i64 (zs.getD j 0))) (hl : zs.length ≤ 9223372036854775807) :
    Calls Tryd.prog 9 #[.slice (some ⟨b, o, none⟩) zs.length c] w fun e w' => e = .returned (.int .u64 (ofN zs)) ∧ w' = w := by
  go_enter Tryd.func9, Tryd.ntmps9
  go_wp2
  go_loop [3, 8] (fun x i => ∃ k : Nat, k ≤ zs.length ∧ i = .int .i64 k ∧ x = .int .u64 (ofN (zs.take k))) (fun _ i => zs.length - (intOf i).toNat)
  case atStart => exact ⟨0, Nat.zero_le _, rfl, rfl⟩
  case round =>
    obtain ⟨k, hk, rfl, rfl⟩ := hrel
    by_cases hlt : k < zs.length
    · have hck := hc k hlt
      have hs := hide (ofN_snoc zs k hlt)
      have hlt2 := ofN_lt (zs.take k)
      clear hc
      go_wp2_with (go_at_call 15; refine (with_any (ofN (zs.take k)) _ _ hlt2).mono ?_; rintro e w' ⟨rfl, rfl⟩)
      go_round
      case rel => exact ⟨k + 1, by omega, by go_num, by rw [unhide hs]; simp [List.getElem?_eq_getElem hlt]⟩
      case measure => simp [intOf]; omega
    · go_wp2
      go_ret
      exact ⟨ret_u64 (by rw [List.take_of_length_le (by omega)]), rfl⟩
set_option maxHeartbeats 400000 in
theorem of_none (p : Option Addr) (c : Nat) (w : World) :
    Calls Tryd.prog 9 #[.slice p 0 c] w fun e w' => e = .returned (.int .u64 0) ∧ w' = w := by
  go_enter Tryd.func9, Tryd.ntmps9
  go_wp2
  go_loop [3, 8] (fun x i => i = .int .i64 0 ∧ x = .int .u64 0) (fun _ _ => 0)
  case atStart => exact ⟨rfl, rfl⟩
  case round =>
    obtain ⟨rfl, rfl⟩ := hrel
    go_wp2
    go_ret
    exact ⟨rfl, rfl⟩
end Go.Proofs.YtpibejjhldnplaaDoor.Con
