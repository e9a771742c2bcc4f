/- Give, At. -/
import Derived.Test.YtmegbbgolmejnaaIIs
namespace Go.Proofs.Ytmegbbgolmejnaa.Con
open Go.RowKit
set_option linter.unusedVariables false
set_option linter.unusedSimpArgs false
attribute [local go_sem ↓] Go.wp_at_zero Go.wp_at_succ
section
variable {W : World} {tb rb n : Nat} {l : List Sp}
theorem is_any (h : Tb W tb rb n l) (m : Nat) (hm : m < 4294967296) :
    Calls Try.prog 10 #[.pointer (some ⟨tb, 0, none⟩), .int .u32 m] W fun e w' => IsPost W l m e w' := by
  by_cases ho : n ≤ m % 256
  · exact is_out h m hm ho
  · exact is_in h m hm (by omega)
theorem is_ok {l : List Sp} {m : Nat} (h : isE l m = 0) : m % 256 < l.length ∧ (sp l (m % 256)).2 = true ∧ (sp l (m % 256)).1 = m / 256 := by
  unfold isE at h
  split at h
  · simp at h
  · split at h
    · rename_i h1 h2
      exact ⟨by omega, h2.1, h2.2.symm⟩
    · split at h <;> simp at h
/-- The table behind a Give. -/
def gave (l : List Sp) (m : Nat) : List Sp := if isE l m = 0 then l.set (m % 256) ((m / 256 + 1) % 16777216, false) else l
def GivePost (W : World) (tb rb n : Nat) (l : List Sp) (m : Nat) (e : Ending) (w' : World) : Prop :=
  e = .returned (.int .i64 (isE l m)) ∧ Tb w' tb rb n (gave l m) ∧ Turn W w' rb
theorem give_no (h : Tb W tb rb n l) (m : Nat) (hm : m < 4294967296) (he : isE l m ≠ 0) :
    Calls Try.prog 11 #[.pointer (some ⟨tb, 0, none⟩), .int .u32 m] W fun e w' => GivePost W tb rb n l m e w' := by
  have I := hide (is_any h m hm)
  have FIN : Hid (∀ w', Below W.heap.size W w' → GivePost W tb rb n l m (.returned (.int .i64 (isE l m))) w') := hide (fun w' hB => ⟨rfl, by unfold gave; rw [if_neg he]; exact h.below hB, Turn.below hB rb⟩)
  unfold IsPost at I
  generalize isE l m = E at *
  have hb : (E != 0) = true := by simpa using he
  go_enter Try.func11, Try.ntmps11
  go_wp2_with (go_at_call 10; refine I.out.mono ?_; rintro e w1 ⟨rfl, hB⟩)
  go_ret
  exact FIN.out _ hB
theorem give_mid (h : Tb W tb rb n l) (p : Nat) (hp : p < n) (g : Nat) (hg : g < 16777216) :
    Tb ((W.setCell ⟨rb, p * 2, none⟩ (.int .i64 (g : Nat))).setCell ⟨rb, p * 2 + 1, none⟩ (.bool false)) tb rb n (l.set p (g, false)) ∧ Turn W ((W.setCell ⟨rb, p * 2, none⟩ (.int .i64 (g : Nat))).setCell ⟨rb, p * 2 + 1, none⟩ (.bool false)) rb := by
  have hl := h.len
  have r1 := heap_setCell_same W rb (p * 2) _ _ (.int .i64 (g : Nat)) h.row
  have r2 := heap_setCell_same _ rb (p * 2 + 1) _ _ (.bool false) r1
  refine ⟨h.put p hp _ hg ((heap_setCell_other _ _ tb _ h.ne).trans (heap_setCell_other W _ tb _ h.ne)) r2 (by simp [flat_len, hl]) ?_, ⟨rfl, rfl, rfl, by simp, fun k hk hn => (heap_setCell_other _ _ k _ hn).trans (heap_setCell_other W _ k _ hn)⟩⟩
  intro j hj
  rw [Array.getElem?_setIfInBounds, Array.getElem?_setIfInBounds, List.getElem?_toArray, flat_get l j (by omega)]
  by_cases q : j = p * 2
  · rw [if_neg (by omega), if_pos q.symm, if_pos q, if_pos (by simp [flat_len]; omega)]
  · by_cases q' : j = p * 2 + 1
    · rw [if_pos q'.symm, if_neg q, if_pos q', if_pos (by simp [flat_len]; omega)]
    · rw [if_neg (fun e => q' e.symm), if_neg (fun e => q e.symm), if_neg q, if_neg q']
theorem give_ok (h : Tb W tb rb n l) (m : Nat) (hm : m < 4294967296) (he : isE l m = 0) :
    Calls Try.prog 11 #[.pointer (some ⟨tb, 0, none⟩), .int .u32 m] W fun e w' => GivePost W tb rb n l m e w' := by
  have I := hide (is_any h m hm)
  unfold IsPost at I
  rw [he] at I
  have P := hide (fun w => place_any m hm w)
  have Gn := hide (fun w => gen_any m hm w)
  obtain ⟨k1, _, _⟩ := is_ok he
  rw [h.len] at k1
  have FIN : Hid (∀ w' w1 : World, Below W.heap.size W w1 → Tb w' tb rb n (l.set (m % 256) ((m / 256 + 1) % 16777216, false)) → Turn w1 w' rb → GivePost W tb rb n l m (.returned (.int .i64 0)) w') := hide (fun w' w1 hB hT hR => ⟨by rw [he], by unfold gave; rw [if_pos he]; exact hT, (Turn.below hB rb).trans hR⟩)
  have H := hide h
  have ho : ((m % 256 : Nat) : Int) < (n : Int) := by omega
  have hg : m / 256 < 16777216 := by omega
  clear h he
  go_enter Try.func11, Try.ntmps11
  go_wp2_with (go_at_call 10; refine I.out.mono ?_; rintro e w1 ⟨rfl, hB⟩; have c0 := (H.out.below hB).cell; have HB := hide hB; clear hB)
  generalize m % 256 = p at *
  generalize m / 256 = g at *
  have H1 := hide (H.out.below HB.out)
  obtain ⟨a0, a1, z0, z1⟩ := H1.out.item p k1
  have hne := H1.out.ne
  have hne' : rb ≠ tb := fun e => hne e.symm
  have W1 := hide (show IntKind.i64.wrap ((g : Int) + 1) = (g : Int) + 1 by rw [IntKind.wrap_i64]; omega)
  have W2 := hide (show ((g : Int) + 1).tmod 16777216 = (((g + 1) % 16777216 : Nat) : Int) by rw [Int.tmod_eq_emod_of_nonneg (by omega)]; omega)
  go_region_held3 (fun w' => w'.cell? ⟨tb, 0, none⟩ = some (.slice (some ⟨rb, 0, none⟩) n n)) (go_keep)
    (first
      | (go_at_call 14; refine (P.out _).mono ?_; rintro e w' ⟨rfl, rfl⟩)
      | (go_at_call 20; refine (Gn.out _).mono ?_; rintro e w' ⟨rfl, rfl⟩))
  go_wp2
  go_ret
  rw [W1.out, W2.out]
  have M := give_mid H1.out p k1 ((g + 1) % 16777216) (by omega)
  exact FIN.out _ w1 HB.out (M.1.kept rfl rfl) ⟨M.2.os, M.2.tape, M.2.output, M.2.size, M.2.block⟩
theorem give_any (h : Tb W tb rb n l) (m : Nat) (hm : m < 4294967296) :
    Calls Try.prog 11 #[.pointer (some ⟨tb, 0, none⟩), .int .u32 m] W fun e w' => GivePost W tb rb n l m e w' := by
  by_cases he : isE l m = 0
  · exact give_ok h m hm he
  · exact give_no h m hm he
/-- What At answers. -/
def AtPost (W : World) (l : List Sp) (p : Int) (e : Ending) (w' : World) : Prop :=
  e = .returned (.tuple #[.int .u32 (if 0 ≤ p ∧ (sp l p.toNat).2 = true then nm p.toNat (sp l p.toNat).1 else 0 : Nat), .bool (decide (0 ≤ p) && (sp l p.toNat).2)]) ∧ w' = W
theorem at_out (h : Tb W tb rb n l) (p : Int) (ho : p < 0 ∨ (n : Int) ≤ p) :
    Calls Try.prog 12 #[.pointer (some ⟨tb, 0, none⟩), .int .i64 p] W fun e w' => AtPost W l p e w' := by
  have FIN : Hid (AtPost W l p (.returned (.tuple #[.int .u32 0, .bool false])) W) := hide (by
    unfold AtPost
    rcases ho with ho | ho
    · rw [if_neg (by omega), decide_eq_false (by omega)]; exact ⟨rfl, rfl⟩
    · have : sp l p.toNat = (0, false) := sp_out l _ (by rw [h.len]; omega)
      rw [this]; simp)
  have c0 := h.cell
  clear h
  rcases ho with ho | ho
  · go_enter Try.func12, Try.ntmps12
    go_wp2
    go_ret2
    exact FIN.out
  · have h0 : ¬ p < 0 := by omega
    go_enter Try.func12, Try.ntmps12
    go_wp2
    go_ret2
    exact FIN.out
theorem at_in (h : Tb W tb rb n l) (p : Nat) (ho : p < n) :
    Calls Try.prog 12 #[.pointer (some ⟨tb, 0, none⟩), .int .i64 (p : Int)] W fun e w' => AtPost W l p e w' := by
  obtain ⟨a0, a1, _, _⟩ := h.item p ho
  have J := hide (fun w => join_any p (sp l p).1 (by have := h.hi; omega) (h.fit p) w)
  have FIN : Hid (AtPost W l p (.returned (.tuple #[.int .u32 (if (sp l p).2 = true then nm p (sp l p).1 else 0 : Nat), .bool (sp l p).2])) W) := hide (by
    unfold AtPost
    rw [decide_eq_true (show 0 ≤ (p : Int) by omega)]
    simp)
  have c0 := h.cell
  have ho1 : (p : Int) < (n : Int) := by omega
  have ho2 : ¬ (n : Int) ≤ (p : Int) := by omega
  have ho3 : ¬ (p : Int) < 0 := by omega
  clear h
  generalize nm p (sp l p).1 = N at *
  generalize (sp l p).1 = G at *
  generalize (sp l p).2 = T at *
  cases T with
  | true =>
    rw [if_pos rfl] at FIN
    go_enter Try.func12, Try.ntmps12
    go_wp2_with (go_at_call 21; refine (J.out _).mono ?_; rintro e w' ⟨rfl, rfl⟩)
    go_ret2
    exact FIN.out
  | false =>
    rw [if_neg (by simp)] at FIN
    go_enter Try.func12, Try.ntmps12
    go_wp2
    go_ret2
    exact FIN.out
theorem at_any (h : Tb W tb rb n l) (p : Int) :
    Calls Try.prog 12 #[.pointer (some ⟨tb, 0, none⟩), .int .i64 p] W fun e w' => AtPost W l p e w' := by
  by_cases ho : p < 0 ∨ (n : Int) ≤ p
  · exact at_out h p ho
  · obtain ⟨q, rfl⟩ := Int.eq_ofNat_of_zero_le (show 0 ≤ p by omega)
    exact at_in h q (by omega)
end
end Go.Proofs.Ytmegbbgolmejnaa.Con
