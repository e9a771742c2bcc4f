/- Total, Holds, Fits. -/
import Derived.Test.YtmeigdgnfdgnhaaJSl
namespace Go.Proofs.Ytmeigdgnfdgnhaa.Con
open Go.RowKit Go.Proofs.Ytmeigdgnfdgnhaa.Pm
set_option linter.unusedVariables false
set_option linter.unusedSimpArgs false
set_option maxHeartbeats 2000000 in
theorem total_any {W : World} {v : Value} {L : List St} (h : Sl W v L) :
    Calls Try.prog 15 #[v] W fun e w' => e = .returned (.int .i64 (total L)) ∧ Below W.heap.size W w' := by
  obtain ⟨p, cap, rfl, hn, hm⟩ := h.form
  have hg := hide (good_any h)
  have H := hide h
  clear h
  cases hgd : good L with
  | false =>
    have ht := hide (total_bad hgd)
    rw [hgd] at hg
    clear hgd
    go_enter Try.func15, Try.ntmps15
    go_wp2_with (go_at_call 16; refine hg.out.mono ?_; rintro e w1 ⟨rfl, hb⟩)
    go_ret
    exact ⟨by rw [ht.out]; rfl, hb⟩
  | true =>
    have ht := hide (total_good hgd)
    have hS : Hid (∀ k, k < L.length → sumN (L.take (k + 1)) = sumN (L.take k) + (at' L k).2) := hide (fun k hk => sum_snoc L k _ (at_eq hk))
    have hB : Hid (∀ k, 0 ≤ sumN (L.take k) ∧ sumN (L.take k) ≤ 17179869184) := hide (fun k => sum_bound hgd k)
    have hln := (good_len hgd).2
    have hfin : Hid (sumN (L.take L.length) = sumN L) := hide (by rw [List.take_length])
    rw [hgd] at hg
    clear hgd
    go_enter Try.func15, Try.ntmps15
    go_wp2_with fail
    refine hg.out.mono ?_
    rintro e w1 ⟨rfl, hb1⟩
    have HB1 := hide hb1
    clear hb1
    go_wp2
    go_loopw [3, 11] (fun t i wr => ∃ k : Nat, k ≤ L.length ∧ t = .int .i64 (sumN (L.take k)) ∧ i = .int .i64 k ∧ Hid (Below W.heap.size W wr)) (fun _ i _ => L.length - (intOf i).toNat)
    case atStart => exact ⟨0, by omega, rfl, rfl, HB1⟩
    case round =>
      obtain ⟨k, hk, rfl, rfl, HB⟩ := hrel
      by_cases hkn : k < L.length
      · obtain ⟨b, o, rfl, hb, x0, x1⟩ := (H.out.below HB.out).at hkn
        have hk1 : (k : Int) < (L.length : Int) := by omega
        have HB' : Hid (∀ o, Below W.heap.size W (wr.alloc o)) := hide (fun o => bel_alloc2 HB.out o)
        have s1 := hS.out k hkn
        obtain ⟨s2, s3⟩ := hB.out k
        obtain ⟨s4, s5⟩ := hB.out (k + 1)
        generalize (at' L k).1 = z at *
        generalize (at' L k).2 = z' at *
        have HS := hide s1
        rw [s1] at s4 s5
        generalize sumN (L.take k) = t at *
        clear HB s1
        go_wp2
        go_round
        case rel => exact ⟨k + 1, by omega, by first | (rw [HS.out]; done) | (rw [HS.out]; go_num), by go_num, hide (HB'.out _)⟩
        case measure => simp [intOf]; omega
      · obtain rfl : k = L.length := by omega
        go_wp2
        go_ret
        exact ⟨by rw [ht.out, ← hfin.out]; rfl, HB.out⟩

end Go.Proofs.Ytmeigdgnfdgnhaa.Con
