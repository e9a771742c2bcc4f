/- number: a number from 1 to most, byte by byte. -/
import Derived.Test.YtdbkdnjmiehlcaaDoorGCut
namespace Go.Proofs.YtdbkdnjmiehlcaaDoor.Con
open Go.RowKit Go.Proofs.YtdbkdnjmiehlcaaDoor.Pm
set_option linter.unusedVariables false
set_option linter.unusedSimpArgs false
theorem numFrom_stop {most : Int} {l : List UInt8} {z : Int} {c : UInt8} {r : List UInt8} (h : l = c :: r) (hc : isDig c = false) : numFrom most l z = none := by
  subst h; rw [numFrom, if_neg (by rw [hc]; decide)]
theorem numFrom_over {most : Int} {l : List UInt8} {z : Int} {c : UInt8} {r : List UInt8} (h : l = c :: r) (hc : isDig c = true) (ho : most < z * 10 + dig c) : numFrom most l z = none := by
  subst h; rw [numFrom, if_pos hc, if_pos ho]
theorem numFrom_on {most : Int} {l : List UInt8} {z : Int} {c : UInt8} {r : List UInt8} (h : l = c :: r) (hc : isDig c = true) (ho : ¬ most < z * 10 + dig c) : numFrom most l z = numFrom most r (z * 10 + dig c) := by
  subst h; rw [numFrom, if_pos hc, if_neg ho]
theorem drop_at (l : List UInt8) (k : Nat) (h : k < l.length) : l.drop k = l[k] :: l.drop (k + 1) := List.drop_eq_getElem_cons h
theorem numB_of {l : List UInt8} {c : UInt8} {r : List UInt8} (h : l = c :: r) (hc : c ≠ 48) (most : Int) : numB l most = match numFrom most l 0 with | some n => (n, true) | none => (0, false) := by
  subst h; unfold numB numO; simp only [if_neg hc]; cases numFrom most (c :: r) 0 <;> rfl

set_option maxHeartbeats 1000000 in
theorem number_any (l : List UInt8) (most : Int) (h0 : 0 ≤ most) (h1 : most ≤ 2147483648) (hl : l.length < 1000000) (w : World) :
    Calls Tryd.prog 28 #[sv l, .int .i64 most] w fun e w' => e = .returned (.tuple #[.int .i64 (numB l most).1, .bool (numB l most).2]) ∧ w' = w := by
  cases hq : l with
  | nil =>
    have hn : numB [] most = (0, false) := rfl
    rw [hn]
    go_enter Tryd.func28, Tryd.ntmps28
    go_wp2
    go_ret2
    exact ⟨rfl, rfl⟩
  | cons c r =>
    by_cases hc : c = 48
    · have hn : numB (c :: r) most = (0, false) := by unfold numB numO; simp only [if_pos hc]
      rw [hn]
      subst hc
      go_enter Tryd.func28, Tryd.ntmps28
      go_wp2
      go_ret2
      exact ⟨rfl, rfl⟩
    · have hpos : 0 < l.length := by rw [hq]; simp
      have hF := hide (numB_of hq hc most)
      have hc0 : ¬ (c.toNat : Int) = 48 := fun e => hc (by
        have : c.toNat = 48 := by omega
        exact UInt8.toNat_inj.1 this)
      rw [← hq]
      have hG : Hid (∀ k, ∀ h : k < (⟨l.toArray⟩ : ByteArray).size, (⟨l.toArray⟩ : ByteArray)[k] = l.getD k 0) := hide (fun k h => by
        have h' : k < l.length := by have h2 : k < l.toArray.size := h; simpa using h2
        show l.toArray[k] = _
        simp [List.getD_eq_getElem?_getD, List.getElem?_eq_getElem h'])
      have hsz : (⟨l.toArray⟩ : ByteArray).size = l.length := by show l.toArray.size = _; simp
      have hie : (⟨l.toArray⟩ : ByteArray).toList.isEmpty = false := by
        cases l with
        | nil => simp at hpos
        | cons a b => simp
      have hcb : ((c.toNat : Int) == 48) = false := by simpa using hc0
      unfold sv
      generalize (⟨l.toArray⟩ : ByteArray) = s at *
      have z0 : s[0]'(by omega) = c := by rw [hG.out]; simp [hq]
      have hD := hide (fun k (h : k < l.length) => drop_at l k h)
      have hE := hide (fun k (h : k < l.length) => show l[k] = l.getD k 0 by simp [List.getD_eq_getElem?_getD, List.getElem?_eq_getElem h])
      clear hq
      generalize hR : numFrom most l 0 = R at *
      have F0 : Hid (R = none → numB l most = (0, false)) := hide (fun e => by rw [hF.out, e])
      have F1 : Hid (∀ n, R = some n → numB l most = (n, true)) := hide (fun n e => by rw [hF.out, e])
      clear hF
      have HR := hide hR
      clear hR hc
      go_enter Tryd.func28, Tryd.ntmps28
      go_wp2
      go_loop [6, 18] (fun n i => ∃ (k : Nat) (z : Int), k ≤ l.length ∧ n = .int .i64 z ∧ i = .int .i64 k ∧ 0 ≤ z ∧ z ≤ most ∧ Hid (numFrom most (l.drop k) z = R)) (fun _ i => l.length - (intOf i).toNat)
      case atStart => exact ⟨0, 0, by omega, rfl, rfl, by omega, h0, HR⟩
      case round =>
        obtain ⟨k, z, hk, rfl, rfl, hz0, hz1, HI⟩ := hrel
        by_cases hkn : k < l.length
        · have hk1 : (k : Int) < (l.length : Int) := by omega
          have zk : s[k]'(by omega) = l.getD k 0 := hG.out k (by omega)
          have hdk := hide (show l.drop k = l.getD k 0 :: l.drop (k + 1) by rw [hD.out k hkn, hE.out k hkn])
          generalize l.getD k 0 = ck at *
          have hm : ck.toNat < 256 := ck.toNat_lt
          have I0 : Hid (isDig ck = false → R = none) := hide (fun e => by rw [← HI.out]; exact numFrom_stop hdk.out e)
          have I1 : Hid (isDig ck = true → most < z * 10 + dig ck → R = none) := hide (fun e h => by rw [← HI.out]; exact numFrom_over hdk.out e h)
          have I2 : Hid (isDig ck = true → ¬ most < z * 10 + dig ck → numFrom most (l.drop (k + 1)) (z * 10 + dig ck) = R) := hide (fun e h => by rw [← HI.out]; exact (numFrom_on hdk.out e h).symm)
          have ID : isDig ck = (decide (48 ≤ ck.toNat) && decide (ck.toNat ≤ 57)) := rfl
          have IE : dig ck = (ck.toNat : Int) - 48 := rfl
          rw [IE] at I1 I2
          rw [ID] at I0 I1 I2
          clear ID IE HI hdk
          by_cases d1 : ck.toNat < 48
          · have FE := hide (F0.out (I0.out (by simp; omega)))
            have d1' : (ck.toNat : Int) < 48 := by omega
            clear I0 I1 I2
            go_wp2
            go_ret2
            rw [FE.out]
            exact ⟨rfl, rfl⟩
          · have d1' : ¬ (ck.toNat : Int) < 48 := by omega
            by_cases d2 : 57 < ck.toNat
            · have FE := hide (F0.out (I0.out (by simp; omega)))
              have d2' : 57 < (ck.toNat : Int) := by omega
              clear I0 I1 I2
              go_wp2
              go_ret2
              rw [FE.out]
              exact ⟨rfl, rfl⟩
            · have d2' : ¬ 57 < (ck.toNat : Int) := by omega
              have hdg : (decide (48 ≤ ck.toNat) && decide (ck.toNat ≤ 57)) = true := by simp; omega
              by_cases d3 : most < z * 10 + ((ck.toNat : Int) - 48)
              · have FE := hide (F0.out (I1.out hdg d3))
                clear I0 I1 I2 hdg
                go_wp2
                go_ret2
                rw [FE.out]
                exact ⟨rfl, rfl⟩
              · have FE := hide (I2.out hdg d3)
                clear I0 I1 I2 hdg
                go_wp2
                go_round
                case rel => exact ⟨k + 1, z * 10 + ((ck.toNat : Int) - 48), by omega, by go_num, by go_num, by omega, by omega, FE⟩
                case measure => simp [intOf]; omega
        · have e : k = l.length := by omega
          have FE := hide (F1.out z (by rw [← HI.out, e, List.drop_length]; rfl))
          subst e
          clear HI
          go_wp2
          go_ret2
          rw [FE.out]
          exact ⟨rfl, rfl⟩
end Go.Proofs.YtdbkdnjmiehlcaaDoor.Con
