/- rise. -/
import Derived.Test.YtmdendffbjhdbaaHSwap
namespace Go.Proofs.Ytmdendffbjhdbaa.Con
open Go.RowKit Go.Proofs.Ytmdendffbjhdbaa.Hq
set_option linter.unusedVariables false
set_option maxHeartbeats 4000000 in
theorem rise_any {W : World} {hb mb : Nat} {most : Int} {g : Bool} {v : Value} {l : List It} (h : Hp W hb mb most g v l) (a : Nat) (ha : a < l.length) (hl : l.length ≤ 1024) (hx : Hx g l a) :
    Calls Try.prog 43 #[.pointer (some ⟨hb, 0, none⟩), .int .i64 a] W fun e w' => ∃ (a' : Nat) (l' : List It), e = .returned (.int .i64 a') ∧ a' < l'.length ∧ l'.length = l.length ∧ l'.Perm l ∧ Hx g l' a' ∧ Up g l' a' ∧ (Hq.Kids g l a → Hq.Kids g l' a') ∧ Hp w' hb mb most g v l' ∧ Turn W w' hb mb v v := by
  have hT := hide (Turn.refl W hb mb v)
  have H := hide h
  have HX := hide hx
  clear h hx
  go_enter Try.func43, Try.ntmps43
  go_wp2
  go_loopw [1] (fun s wr => ∃ (b : Nat) (m : List It), s = .int .i64 b ∧ b < m.length ∧ m.length = l.length ∧ b ≤ a ∧ Hid (m.Perm l) ∧ Hid (Hx g m b) ∧ Hid (Hq.Kids g l a → Hq.Kids g m b) ∧ Hid (Hp wr hb mb most g v m) ∧ Hid (Turn W wr hb mb v v)) (fun s _ => (intOf s).toNat)
  case atStart => exact ⟨a, l, rfl, ha, rfl, Nat.le_refl _, hide (List.Perm.refl _), HX, hide id, H, hT⟩
  case round =>
    obtain ⟨b, m, rfl, hbm, hml, hba, HP, HXm, HK, Hm, HT⟩ := hrel
    by_cases h0 : b = 0
    · subst h0
      go_wp2
      go_ret
      exact ⟨0, m, rfl, hbm, hml, HP.out, HXm.out, fun h => absurd h (by omega), HK.out, Hm.out, HT.out⟩
    · obtain ⟨p, hpd⟩ : ∃ p, p = (b - 1) / 2 := ⟨_, rfl⟩
      have hp : ((b : Int) - 1) / 2 = (p : Int) := by omega
      have hpb : p < b := by omega
      have P := hide hpd
      have hah := hide (fun w' (h' : Hp w' hb mb most g v m) => ahead_any h' b p hbm (by omega))
      have hsw := hide (fun w' (h' : Hp w' hb mb most g v m) => swap_any h' b p hbm (by omega) (by omega))
      have hb1 : (1 : Int) ≤ b := by omega
      have hb2 : (b : Int) ≤ 1024 := by omega
      by_cases hlt : lt g (at' m b) (at' m p) = true
      · obtain ⟨s1, s2⟩ := rise_step HXm.out (by omega) hbm (by rw [← hpd]; exact hlt)
        rw [← hpd] at s1 s2
        have S1 := hide s1
        have S2 := hide s2
        clear s1 s2 hpd
        go_wp2_with (first
          | (go_at_call 58; refine (hah.out _ Hm.out).mono ?_; rintro e w1 ⟨rfl, hB1⟩; rw [hlt]; have HB1 := hide hB1; clear hB1)
          | (go_at_call 44; refine (hsw.out _ (Hm.out.below HB1.out)).mono ?_; rintro e w2 ⟨rfl, hH2, hT2⟩; have HH2 := hide hH2; have HT2 := hide hT2; clear hH2 hT2))
        go_roundw
        case rel => exact ⟨p, swp m b p, rfl, by rw [swp_length]; omega, by rw [swp_length]; exact hml, by omega, hide ((swp_perm m b p hbm (by omega)).trans HP.out), S1, hide (fun _ => S2.out), HH2, hide (HT.out.trans ((Turn.below HB1.out hb mb v).trans HT2.out))⟩
        case measure => simp [intOf]; omega
      · have hf : lt g (at' m b) (at' m p) = false := by simpa using hlt
        have hu := hide (show Up g m b from fun _ => by rw [← hpd]; exact hf)
        clear hpd
        go_wp2_with (go_at_call 58; refine (hah.out _ Hm.out).mono ?_; rintro e w1 ⟨rfl, hB1⟩; rw [hf]; have HB1 := hide hB1; clear hB1)
        go_ret
        exact ⟨b, m, rfl, hbm, hml, HP.out, HXm.out, hu.out, HK.out, Hm.out.below HB1.out, HT.out.trans (Turn.below HB1.out hb mb v)⟩
end Go.Proofs.Ytmdendffbjhdbaa.Con
