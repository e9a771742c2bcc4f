/- Take, Is, Give, At. -/
import Derived.Test.YtmegbbgolmejnaaICon
namespace Go.Proofs.Ytmegbbgolmejnaa.Con
open Go.RowKit
set_option linter.unusedVariables false
set_option linter.unusedSimpArgs false
attribute [local go_sem ↓] Go.wp_at_zero Go.wp_at_succ
/-- What a call on a table may turn: its row of places. -/
structure Turn (W W' : World) (rb : Nat) : Prop where
  os : W'.os = W.os
  tape : W'.tape = W.tape
  output : W'.output = W.output
  size : W.heap.size ≤ W'.heap.size
  block : ∀ k, k < W.heap.size → k ≠ rb → W'.heap[k]? = W.heap[k]?
theorem Turn.refl (W : World) (rb : Nat) : Turn W W rb := ⟨rfl, rfl, rfl, Nat.le_refl _, fun _ _ _ => rfl⟩
theorem Turn.trans {W W' W'' : World} {rb : Nat} (h : Turn W W' rb) (k : Turn W' W'' rb) : Turn W W'' rb :=
  ⟨k.os.trans h.os, k.tape.trans h.tape, k.output.trans h.output, Nat.le_trans h.size k.size, fun i hi hn => (k.block i (by have := h.size; omega) hn).trans (h.block i hi hn)⟩
theorem Turn.below {W W' : World} (h : Below W.heap.size W W') (rb : Nat) : Turn W W' rb := ⟨h.os, h.tape, h.output, h.size, fun k hk _ => h.block k hk⟩
theorem Turn.toBelow {W W' : World} {rb B : Nat} (h : Turn W W' rb) (h0 : B ≤ W.heap.size) (h1 : B ≤ rb) : Below B W W' :=
  ⟨h.os, h.tape, h.output, h.size, fun k hk => h.block k (by omega) (by omega)⟩
/-- The least that is free. -/
def Free (l : List Sp) (p : Nat) : Prop := p < l.length ∧ (sp l p).2 = false ∧ ∀ q, q < p → (sp l q).2 = true
def Full (l : List Sp) : Prop := ∀ q, q < l.length → (sp l q).2 = true
theorem free_full (l : List Sp) : (∃ p, Free l p) ∨ Full l := by
  have : ∀ m, m ≤ l.length → (∃ p, Free l p) ∨ ∀ q, q < m → (sp l q).2 = true := by
    intro m
    induction m with
    | zero => intro _; exact .inr fun q hq => by omega
    | succ m ih =>
      intro hm
      rcases ih (by omega) with h | h
      · exact .inl h
      · cases e : (sp l m).2 with
        | false => exact .inl ⟨m, by omega, e, h⟩
        | true =>
          refine .inr fun q hq => ?_
          by_cases q' : q = m
          · rw [q']; exact e
          · exact h q (by omega)
  exact this l.length (Nat.le_refl _)
section
variable {W : World} {tb rb n : Nat} {l : List Sp}
def TakePost (W : World) (tb rb n : Nat) (l : List Sp) (p : Nat) (e : Ending) (w' : World) : Prop :=
  e = .returned (.tuple #[.int .u32 (nm p (sp l p).1 : Nat), .int .i64 0]) ∧ Tb w' tb rb n (l.set p ((sp l p).1, true)) ∧ Turn W w' rb
theorem take_mid (h : Tb W tb rb n l) (p : Nat) (hp : p < n) : Tb (W.setCell ⟨rb, p * 2 + 1, none⟩ (.bool true)) tb rb n (l.set p ((sp l p).1, true)) ∧ Turn W (W.setCell ⟨rb, p * 2 + 1, none⟩ (.bool true)) rb := by
  have hl := h.len
  refine ⟨h.put p hp _ (h.fit p) (heap_setCell_other W _ tb _ h.ne) (heap_setCell_same W rb (p * 2 + 1) _ _ (.bool true) h.row) (by simp [flat_len, hl]) ?_, ⟨rfl, rfl, rfl, by simp, fun k hk hn => heap_setCell_other W _ k _ hn⟩⟩
  intro j hj
  rw [Array.getElem?_setIfInBounds, List.getElem?_toArray, flat_get l j (by omega)]
  by_cases q : j = p * 2
  · rw [if_neg (by omega), if_pos q, q]
    unfold cellv
    rw [if_pos (by omega), show p * 2 / 2 = p by omega]
  · by_cases q' : j = p * 2 + 1
    · rw [if_pos q'.symm, if_neg q, if_pos q', if_pos (by simp [flat_len]; omega)]
    · rw [if_neg (fun e => q' e.symm), if_neg q, if_neg q']
theorem take_ok (h : Tb W tb rb n l) (p : Nat) (hf : Free l p) :
    Calls Try.prog 9 #[.pointer (some ⟨tb, 0, none⟩)] W fun e w' => TakePost W tb rb n l p e w' := by
  have hl := h.len
  have hhi := h.hi
  obtain ⟨f1, f2, f3⟩ := hf
  rw [hl] at f1
  have c0 := h.cell
  have H := hide h
  have F3 := hide f3
  have F2 := hide f2
  clear h f2 f3
  go_enter Try.func9, Try.ntmps9
  go_wp2
  go_loop [11] (fun i => ∃ k : Nat, k ≤ p ∧ i = .int .i64 k) (fun i => p - (intOf i).toNat)
  case atStart => exact ⟨0, by omega, rfl⟩
  case round =>
    obtain ⟨k, hk, rfl⟩ := hrel
    have k1 : (k : Int) < (n : Int) := by omega
    obtain ⟨a0, a1, z0, z1⟩ := H.out.item k (by omega)
    by_cases hkp : k < p
    · rw [F3.out k hkp] at a1
      go_wp2
      go_round
      case rel => exact ⟨k + 1, by omega, by go_num⟩
      case measure => simp [intOf]; omega
    · obtain rfl : k = p := by omega
      rw [F2.out] at a1
      have J := hide (fun w => join_any k (sp l k).1 (by omega) (H.out.fit k) w)
      obtain ⟨m1, m2⟩ := take_mid H.out k f1
      obtain ⟨N, hN⟩ : ∃ N, nm k (sp l k).1 = N := ⟨_, rfl⟩
      have FIN : Hid (TakePost W tb rb n l k (.returned (.tuple #[.int .u32 (N : Nat), .int .i64 0])) (W.setCell ⟨rb, k * 2 + 1, none⟩ (.bool true))) := hide ⟨by rw [hN], m1, m2⟩
      have a0' := (m1.item k f1).1
      rw [sp_set l k k _ (by omega), if_pos rfl] at a0'
      clear m1 m2
      rw [hN] at J
      clear hN
      generalize (sp l k).1 = G at a0 a0' J
      go_wp2_with (go_at_call 21; refine (J.out _).mono ?_; rintro e w' ⟨rfl, rfl⟩)
      go_ret2
      exact FIN.out
theorem take_full (h : Tb W tb rb n l) (hf : Full l) :
    Calls Try.prog 9 #[.pointer (some ⟨tb, 0, none⟩)] W fun e w' => e = .returned (.tuple #[.int .u32 0, .int .i64 3]) ∧ w' = W := by
  have hl := h.len
  have hhi := h.hi
  have c0 := h.cell
  have H := hide h
  have F := hide hf
  clear h hf
  go_enter Try.func9, Try.ntmps9
  go_wp2
  go_loop [11] (fun i => ∃ k : Nat, k ≤ n ∧ i = .int .i64 k) (fun i => n - (intOf i).toNat)
  case atStart => exact ⟨0, by omega, rfl⟩
  case round =>
    obtain ⟨k, hk, rfl⟩ := hrel
    by_cases hkn : k < n
    · have k1 : (k : Int) < (n : Int) := by omega
      obtain ⟨a0, a1, z0, z1⟩ := H.out.item k hkn
      rw [F.out k (by omega)] at a1
      go_wp2
      go_round
      case rel => exact ⟨k + 1, by omega, by go_num⟩
      case measure => simp [intOf]; omega
    · obtain rfl : k = n := by omega
      go_wp2
      go_ret2
      exact ⟨rfl, rfl⟩
/-- What Is answers. -/
def isE (l : List Sp) (m : Nat) : Int :=
  if l.length ≤ m % 256 then 2 else if (sp l (m % 256)).2 = true ∧ m / 256 = (sp l (m % 256)).1 then 0 else if m / 256 < (sp l (m % 256)).1 then 10 else 2
end
end Go.Proofs.Ytmegbbgolmejnaa.Con
