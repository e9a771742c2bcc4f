/- heapSortCmpFunc. -/
import Derived.Test.YtocgeplpehioeaaSSift
namespace Go.Proofs.Ytocgeplpehioeaa.Con
open Go.RowKit Go.Proofs.Ytocgeplpehioeaa.Hq
set_option linter.unusedVariables false
set_option linter.unusedSimpArgs false
set_option maxRecDepth 100000 in
set_option maxHeartbeats 8000000 in
theorem hsort_any {W0 W : World} {hb r : Nat} {g : Bool} {m : List It} {n : Nat} (a b : Nat) (hn : m.length = n) (S : So W0 hb r g m W) (hb' : b ≤ n) (ha : a + 1 < b) :
    Calls Try.prog 41 #[.slice (some ⟨r, 0, none⟩) n n, .int .i64 a, .int .i64 b, .func (.func 27) #[.pointer (some ⟨hb, 0, none⟩)] #[]] W fun e w' => SrtPost W0 hb r g m a b e w' := by
  have hn2 : n ≤ 1024 := by rw [← hn]; exact S.len
  have NN := hide hn
  have S0 := hide S
  clear S hn
  obtain ⟨h, hh⟩ : ∃ h, a + h = b := ⟨b - a, by omega⟩
  obtain ⟨t, ht⟩ : ∃ t, t = (h - 1) / 2 := ⟨_, rfl⟩
  obtain ⟨h1, hh1⟩ : ∃ h1, h1 + 1 = h := ⟨h - 1, by omega⟩
  have e1 : (b : Int) - (a : Int) = (h : Int) := by omega
  have e2 : (h : Int) - 1 = (h1 : Int) := by omega
  have e3 : (h1 : Int) / 2 = (t : Int) := by omega
  have l0 : h ≤ h1 + 1 ∧ h1 + 1 ≤ h := by omega
  have l1 : h1 ≤ 2 * t + 1 ∧ 2 * t ≤ h1 := by omega
  have l2 : a + h ≤ b ∧ b ≤ a + h := by omega
  have HB := hide hh
  have z1 : (a : Int) ≤ 1024 := by omega
  have z2 : (b : Int) ≤ 1024 := by omega
  have z3 : (h : Int) ≤ 1024 := by omega
  clear hh ht hh1
  have M0 : Hid (Mx g a (t + 1) h m) := hide (fun c c0 c1 c2 => by omega)
  go_enter Try.func41, Try.ntmps41
  go_wp2
  go_loopw [11] (fun s wr => ∃ (i : Int) (q : List It), s = .int .i64 i ∧ -1 ≤ i ∧ i ≤ t ∧ q.length = n ∧ Hid (So W0 hb r g q wr) ∧ Hid (Rng a b m q) ∧ Hid (Mx g a (i + 1).toNat h q)) (fun s _ => (intOf s + 1).toNat)
  case atStart => exact ⟨t, m, rfl, by omega, by omega, NN.out, S0, hide (.refl _), hide (by rw [show ((t : Int) + 1).toNat = t + 1 by omega]; exact M0.out)⟩
  case round =>
    obtain ⟨i, q, rfl, hi0, hit, LQ, Sq, Rq, Mq⟩ := hrel
    by_cases hi : 0 ≤ i
    · obtain ⟨k, rfl⟩ : ∃ k : Nat, i = (k : Int) := ⟨i.toNat, by omega⟩
      have SF := hide (sift_any a k h LQ Sq.out (by omega) (by omega) (by have := Mq.out; rwa [show ((k : Int) + 1).toNat = k + 1 by omega] at this))
      go_wp2_with (go_at_call 52; refine SF.out.mono ?_; rintro e w1 ⟨rfl, p, s1, r1, m1⟩; have S1 := hide s1; have R1 := hide r1; have M1 := hide m1; clear s1 r1 m1)
      go_roundw
      case rel => exact ⟨(k : Int) - 1, p, rfl, by omega, by omega, by rw [R1.out.length]; exact LQ, S1, hide (Rq.out.trans (R1.out.mono (Nat.le_refl _) (by omega))), hide (by rw [show ((k : Int) - 1 + 1).toNat = k by omega]; exact M1.out)⟩
      case measure => first | (simp [intOf]; done) | (simp [intOf]; omega)
    · obtain rfl : i = -1 := by omega
      have HS : Hid (Hs g a h h q) := hide (hs_start (by have := Mq.out; rwa [show ((-1 : Int) + 1).toNat = 0 by omega] at this))
      clear Mq M0
      go_wp2
      go_loopw [12] (fun s wr => ∃ (i : Int) (q : List It), s = .int .i64 i ∧ -1 ≤ i ∧ i < h ∧ q.length = n ∧ Hid (So W0 hb r g q wr) ∧ Hid (Rng a b m q) ∧ Hid (Hs g a h (i + 1).toNat q)) (fun s _ => (intOf s + 1).toNat)
      case atStart => exact ⟨h1, q, rfl, by omega, by omega, LQ, Sq, Rq, hide (by rw [show ((h1 : Int) + 1).toNat = h by omega]; exact HS.out)⟩
      case round =>
        clear HS
        obtain ⟨i, p, rfl, hi0', hit', LP, Sp, Rp, HSp⟩ := hrel
        by_cases hi' : 0 ≤ i
        · obtain ⟨k, rfl⟩ : ∃ k : Nat, i = (k : Int) := ⟨i.toNat, by omega⟩
          obtain ⟨K, hK⟩ : ∃ K, K = a + k := ⟨_, rfl⟩
          have e4 : (a : Int) + (k : Int) = (K : Int) := by omega
          have v4 := wrapN K (by omega)
          have hsp : Hs g a h (k + 1) p := by have := HSp.out; rwa [show ((k : Int) + 1).toNat = k + 1 by omega] at this
          obtain ⟨t1, t2, t3⟩ := hs_swap hsp (by omega) (by omega)
          rw [← hK] at t1 t2 t3
          have T1 := hide t1
          have T23 := hide (And.intro t2 t3)
          have KK := hide hK
          have l5 : K ≤ a + k ∧ a + k ≤ K := by omega
          clear hsp t1 t2 t3 hK
          obtain ⟨x0, x1, fx0, fx1⟩ := Sp.out.item a (by omega)
          obtain ⟨y0, y1, fy0, fy1⟩ := Sp.out.item K (by omega)
          have un : (a : Int) < (n : Int) := by omega
          have vn : (K : Int) < (n : Int) := by omega
          generalize ex0 : (at' p a).1 = X0 at *
          generalize ex1 : (at' p a).2 = X1 at *
          generalize ey0 : (at' p K).1 = Y0 at *
          generalize ey1 : (at' p K).2 = Y1 at *
          have SS := hide (Sp.out.swap (i := a) (j := K) (by omega) (by omega) ex0 ex1 ey0 ey1)
          have RS := hide (Rp.out.step a K (by omega) (by omega) (by omega) (by omega) (by omega) (by omega))
          have LS : (swp p a K).length = n := by rw [swp_length]; exact LP
          clear ex0 ex1 ey0 ey1
          obtain ⟨⟨z0, hz0⟩, ⟨z1, hz1⟩, ⟨z2, hz2⟩, ⟨z3, hz3⟩⟩ := four_cells r a K y0 y1
          obtain ⟨⟨z4, hz4⟩, ⟨z5, hz5⟩, ⟨z6, hz6⟩, ⟨z7, hz7⟩⟩ := four_cells r K a x0 x1
          go_wp2
          go_region
          clear hz0 hz1 hz2 hz3 hz4 hz5 hz6 hz7 x0 x1 y0 y1 fx0 fx1 fy0 fy1
          have SF := hide (sift_any a 0 k LS SS.out (by omega) (by omega) T1.out)
          go_wp2_with (go_at_call 52; refine SF.out.mono ?_; rintro e w1 ⟨rfl, p2, s1, r1, m1⟩; have S1 := hide s1; have R1 := hide r1; have M1 := hide m1; clear s1 r1 m1)
          go_roundw
          case rel => exact ⟨(k : Int) - 1, p2, rfl, by omega, by omega, by rw [R1.out.length]; exact LS, S1, hide (RS.out.trans (R1.out.mono (Nat.le_refl _) (by omega))), hide (by rw [show ((k : Int) - 1 + 1).toNat = k by omega]; exact hs_sift M1.out R1.out (by have := T23.out.1; rwa [KK.out] at this ⊢) (by have := T23.out.2; rwa [KK.out] at this ⊢))⟩
          case measure => first | (simp [intOf]; done) | (simp [intOf]; omega)
        · obtain rfl : i = -1 := by omega
          go_wp2
          go_end0
          refine ⟨rfl, p, Sp.out, Rp.out, ?_⟩
          have := hs_end (a := a) (n := h) (m := p) (g := g) (by have := HSp.out; rwa [show ((-1 : Int) + 1).toNat = 0 by omega] at this)
          rwa [HB.out] at this
end Go.Proofs.Ytocgeplpehioeaa.Con
