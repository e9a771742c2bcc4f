/- New. -/
import Derived.Test.YtmdendffbjhdbaaAOps
import Derived.Laws.MakeOwn
import Derived.Deep.RegionHeld3
namespace Go.Proofs.Ytmdendffbjhdbaa.Con
open Go.RowKit Go.Proofs.Ytmdendffbjhdbaa.Hq
set_option linter.unusedVariables false
set_option linter.unusedSimpArgs false
attribute [local go_sem ↓] Go.wp_at_zero Go.wp_at_succ
/-- The row while it is laid: heaps, then nil. -/
def rowN (hs : List HD) (n : Nat) : List Value := hs.map ptr ++ List.replicate (n - hs.length) (.pointer none)
theorem rowN_len {hs : List HD} {n : Nat} (h : hs.length ≤ n) : (rowN hs n).length = n := by unfold rowN; simp; omega
theorem rowN_nil (n : Nat) : rowN [] n = List.replicate n (.pointer none) := by simp [rowN]
theorem rowN_full (hs : List HD) : rowN hs hs.length = hs.map ptr := by simp [rowN]
theorem rowN_at {hs : List HD} {n : Nat} (h : hs.length < n) : (rowN hs n)[hs.length]? = some (.pointer none) := by
  unfold rowN
  rw [List.getElem?_append_right (by simp), List.length_map, Nat.sub_self, List.getElem?_replicate, if_pos (by omega)]
theorem rowN_set {hs : List HD} {n : Nat} (h : hs.length < n) (x : HD) : (rowN hs n).set hs.length (ptr x) = rowN (hs ++ [x]) n := by
  unfold rowN
  rw [List.set_append_right _ _ (by simp)]
  obtain ⟨m, hm⟩ : ∃ m, n - hs.length = m + 1 := ⟨n - hs.length - 1, by omega⟩
  have : n - (hs ++ [x]).length = m := by simp; omega
  rw [this, hm]
  simp [List.replicate_succ]
theorem made_nil (n : Nat) : madeCells #[.pointer none] (n * 1) = (List.replicate n (Value.pointer none)).toArray := by
  unfold madeCells
  apply Array.ext
  · simp
  · intro j h1 h2
    simp [Nat.mod_one]
theorem infoHp : (Try.prog.info? 57).map (fun i => (i.zero, i.size, i.bytes)) = some (some (.pointer none), 1, 8) := by kernel_rfl
theorem underHp : Try.prog.underlying 54 = some (.slice 57) := by kernel_rfl
theorem mk_heaps (n : Nat) (hn : n ≤ 64) (w : World) : (Instr.makeSlice 54 (.int .i64 (n : Int)) (.int .i64 (n : Int))).run Try.prog w = .ok (.slice (some ⟨w.heap.size, 0, none⟩) n n) (w.alloc (.cells (rowN [] n).toArray 57)) := by
  obtain ⟨i, hi, hz⟩ := Option.map_eq_some_iff.1 infoHp
  simp only [Prod.mk.injEq] at hz
  have := run_make (P := Try.prog) w 54 57 i _ underHp hi hz.1 .i64 .i64 n n (by omega) (by omega) (by rw [hz.2.2]; omega) (by omega)
  rw [this, hz.2.1, rowN_nil, ← made_nil n]
  rfl
structure NI (B : Nat) (W wr : World) (n : Nat) (hs : List HD) : Prop where
  str : wr.heap[B + 1]? = some (.cells #[.int .i64 0, .slice (some ⟨B, 0, none⟩) n n] 56 (0, 0))
  row : wr.heap[B]? = some (.cells (rowN hs n).toArray 57 (0, 0))
  each : ∀ h ∈ hs, h.At wr ∧ h.l = [] ∧ ∀ k, h.Foot k → B + 2 ≤ k
  sep : hs.Pairwise Sep
  below : Below B W wr
  hn : hs.length ≤ n
section
variable {B n : Nat} {W wr w1 w2 : World} {hs : List HD}
theorem NI.c1 (a : NI B W wr n hs) : wr.cell? ⟨B + 1, 1, none⟩ = some (.slice (some ⟨B, 0, none⟩) n n) := by rw [cell_of_row wr _ _ _ _ _ a.str]; rfl
theorem NI.ck (a : NI B W wr n hs) (h : hs.length < n) : wr.cell? ⟨B, hs.length, none⟩ = some (.pointer none) := by
  rw [cell_of_row wr _ _ _ _ _ a.row]
  have := rowN_at h
  simpa using this
theorem NI.fk (a : NI B W wr n hs) : wr.frozen? ⟨B, hs.length, none⟩ = false := by have := a.row; simp [World.frozen?, this]
theorem NI.lt (a : NI B W wr n hs) : B + 1 < wr.heap.size := (Array.getElem?_eq_some_iff.1 a.str).1
theorem NI.step (a : NI B W wr n hs) (hk : hs.length < n) {hb mb : Nat} (q : HQ w1 hb mb (held 1024) false (.slice none 0 0) []) (hB : Below wr.heap.size wr w1) (g1 : wr.heap.size ≤ hb) (g2 : wr.heap.size ≤ mb)
    (hW : w2.heap = (w1.setCell ⟨B, hs.length, none⟩ (.pointer (some ⟨hb, 0, none⟩))).heap) (e1 : w2.os = w1.os) (e2 : w2.tape = w1.tape) (e3 : w2.output = w1.output) : NI B W w2 n (hs ++ [⟨hb, mb, .slice none 0 0, []⟩]) := by
  have hl := a.lt
  have ho : ∀ k, k ≠ B → w2.heap[k]? = w1.heap[k]? := fun k hk => by rw [hW]; exact heap_setCell_other w1 _ k _ hk
  have row1 : w1.heap[B]? = some (.cells (rowN hs n).toArray 57 (0, 0)) := (hB.block _ (by omega)).trans a.row
  have newF : ∀ k, (HD.mk hb mb (.slice none 0 0) []).Foot k → wr.heap.size ≤ k := by
    rintro k (rfl | rfl | hk)
    · exact g1
    · exact g2
    · simp [Value.ownBlock] at hk
  have at2 : ∀ h : HD, h.At w1 → (∀ k, h.Foot k → B + 2 ≤ k) → h.At w2 := fun h ha hf =>
    ⟨(HQ.hp ha).kept fun k hk hc => ho k (by have := hf k hc; omega), ha.heap, ha.room, ha.lo, ha.hi⟩
  refine ⟨?_, ?_, ?_, ?_, ?_, by simp; omega⟩
  · exact ((ho _ (by omega)).trans (hB.block _ hl)).trans a.str
  · rw [hW, heap_setCell_same w1 B hs.length _ _ _ row1, ← rowN_set hk]
    congr 2
    simp [ptr]
  · intro h hh
    rcases List.mem_append.1 hh with hh | hh
    · obtain ⟨r1, r2, r3⟩ := a.each h hh
      exact ⟨at2 h (HQ.below r1 hB) r3, r2, r3⟩
    · simp at hh; subst hh
      have f : ∀ k, (HD.mk hb mb (.slice none 0 0) []).Foot k → B + 2 ≤ k := fun k hk => by have := newF k hk; omega
      exact ⟨at2 _ q f, rfl, f⟩
  · rw [List.pairwise_append]
    refine ⟨a.sep, by simp, ?_⟩
    intro x hx y hy
    simp at hy; subst hy
    intro k h1 h2
    have := newF k h2
    have := (a.each x hx).1.lt h1
    omega
  · have hs2 : w2.heap.size = w1.heap.size := by rw [hW]; simp
    have b1 := a.below.trans (hB.mono (by have := a.below.size; omega))
    refine ⟨e1.trans b1.os, e2.trans b1.tape, e3.trans b1.output, by rw [hs2]; exact b1.size, fun k hk => ?_⟩
    exact (ho k (by omega)).trans (b1.block k hk)
end
/-- What New makes. -/
structure NewR (W w' : World) (n : Nat) (d : AD) : Prop where
  at' : d.At w'
  below : Below W.heap.size W w'
  now : d.now = 0
  len : d.hs.length = n
  past : ∀ k, d.Foot k → W.heap.size ≤ k
  none : ∀ c i a, ¬ Has d c i a
def NewAP (W : World) (n : Nat) (e : Ending) (w' : World) : Prop := ∃ d : AD, e = .returned (.tuple #[.pointer (some ⟨d.ab, 0, none⟩), .int .i64 0]) ∧ NewR W w' n d
theorem NI.fin {W wr : World} {n : Nat} {hs : List HD} (a : NI W.heap.size W wr n hs) (hl : hs.length = n) (h1 : 1 ≤ n) (h2 : n ≤ 64) : NewR W wr n ⟨W.heap.size + 1, W.heap.size, 0, hs⟩ := by
  subst hl
  refine ⟨⟨a.str, by rw [← rowN_full]; exact a.row, ?_, ?_, ?_, ?_, h1, h2, by simp, by simp [top2]⟩, a.below, rfl, rfl, ?_, ?_⟩
  · intro i h hi; exact (a.each h (List.mem_of_getElem? hi)).1
  · intro i j h k hne hi hj
    obtain ⟨hi1, hi2⟩ := List.getElem?_eq_some_iff.1 hi
    obtain ⟨hj1, hj2⟩ := List.getElem?_eq_some_iff.1 hj
    have P := List.pairwise_iff_getElem.1 a.sep
    rcases Nat.lt_or_gt_of_ne hne with r | r
    · have := P i j hi1 hj1 r
      rw [hi2, hj2] at this; exact this
    · have := P j i hj1 hi1 r
      rw [hi2, hj2] at this
      exact fun x e1 e2 => this x e2 e1
  · intro h hh
    have := (a.each h hh).2.2
    exact ⟨fun e => by have := this _ e; simp at this, fun e => by have : W.heap.size + 2 ≤ W.heap.size := this _ e; omega⟩
  · intro h hh x hx
    rw [(a.each h hh).2.1] at hx; cases hx
  · rintro k (rfl | rfl | ⟨h, hh, hk⟩)
    · simp
    · simp
    · have := (a.each h hh).2.2 k hk; omega
  · rintro c i x ⟨_, h, hh, hm⟩
    rw [(a.each h (List.mem_of_getElem? hh)).2.1] at hm; cases hm
theorem new_bad {n : Int} (hb : ¬ (1 ≤ n ∧ n ≤ 64)) (W : World) : Calls Try.prog 8 #[.int .i64 n] W fun e w' => e = .returned (.tuple #[.pointer none, .int .i64 1]) ∧ w' = W := by
  by_cases h1 : n < 1
  · clear hb
    go_enter Try.func8, Try.ntmps8
    go_wp2
    go_ret2
    exact ⟨rfl, rfl⟩
  · have h2 : n > 64 := by omega
    clear hb
    go_enter Try.func8, Try.ntmps8
    go_wp2
    go_ret2
    exact ⟨rfl, rfl⟩
set_option maxHeartbeats 1600000 in
set_option maxRecDepth 20000 in
theorem newA_ok {n : Nat} (h1 : 1 ≤ n) (h2 : n ≤ 64) (W : World) : Calls Try.prog 8 #[.int .i64 (n : Int)] W fun e w' => NewAP W n e w' := by
  have N := fun w => new_any 1024 false w
  unfold NewPost at N
  have N := hide N
  obtain ⟨O, mk, ST⟩ : ∃ O : Obj, (∀ w : World, (Instr.makeSlice 54 (.int .i64 (n : Int)) (.int .i64 (n : Int))).run Try.prog w = .ok (.slice (some ⟨w.heap.size, 0, none⟩) n n) (w.alloc O)) ∧
      Hid (∀ w1 : World, w1 = (W.alloc O).alloc (.cells #[.int .i64 0, .slice (some ⟨W.heap.size, 0, none⟩) n n] 56) → NI W.heap.size W w1 n []) := by
    refine ⟨_, fun w => mk_heaps n h2 w, hide ?_⟩
    rintro w1 rfl
    refine ⟨?_, ?_, by simp, List.Pairwise.nil, ((Below.refl _ _).alloc (Nat.le_refl _) _).alloc (by simp) _, by simp⟩
    · rw [show W.heap.size + 1 = (W.alloc (.cells (rowN [] n).toArray 57)).heap.size by simp, heap_alloc_new]
    · rw [heap_alloc_old _ _ (by simp), heap_alloc_new]
  have FIN : Hid (∀ wr hs, NI W.heap.size W wr n hs → hs.length = n → NewAP W n (.returned (.tuple #[.pointer (some ⟨W.heap.size + 1, 0, none⟩), .int .i64 0])) wr) := hide (fun wr hs a hl => ⟨_, rfl, a.fin hl h1 h2⟩)
  have k1 : ¬ (n : Int) < 1 := by omega
  have k2 : ¬ (n : Int) > 64 := by omega
  go_enter Try.func8, Try.ntmps8
  go_wp2
  go_loopw [21] (fun i wr => ∃ hs, Hid (NI W.heap.size W wr n hs) ∧ i = .int .i64 hs.length) (fun i _ => n - (intOf i).toNat)
  case atStart => exact ⟨[], hide (ST.out _ rfl), rfl⟩
  case round =>
    obtain ⟨hs, R, rfl⟩ := hrel
    by_cases hkn : hs.length < n
    · have c1 := R.out.c1
      have ck := R.out.ck hkn
      have fk := R.out.fk
      have hlt := R.out.lt
      have k3 : (hs.length : Int) < (n : Int) := by omega
      have STP : Hid (∀ w1 w2 hb mb, HQ w1 hb mb (held 1024) false (.slice none 0 0) [] → Below wr.heap.size wr w1 → wr.heap.size ≤ hb → wr.heap.size ≤ mb → w2.heap = (w1.setCell ⟨W.heap.size, hs.length, none⟩ (.pointer (some ⟨hb, 0, none⟩))).heap → w2.os = w1.os → w2.tape = w1.tape → w2.output = w1.output → ∃ h, NI W.heap.size W w2 n (hs ++ [h])) := hide (fun w1 w2 hb mb q hB g1 g2 hW e1 e2 e3 => ⟨_, R.out.step hkn q hB g1 g2 hW e1 e2 e3⟩)
      generalize hkk : hs.length = k at *
      have HK := hide hkk
      clear hkk
      generalize W.heap.size = B at *
      have hlt0 : B < wr.heap.size := by omega
      go_wp2
      go_region_held3 (fun w' => w'.cell? ⟨B + 1, 1, none⟩ = some (.slice (some ⟨B, 0, none⟩) n n)) (go_keep)
        ((go_at_call 22; refine (N.out _).mono ?_; rintro e w1 ⟨hb, mb, rfl, q, hB, g1, g2⟩; have Q := hide (And.intro q (And.intro hB (And.intro g1 g2))); obtain ⟨hcl, hfr⟩ := bcell hB; have ck1 : w1.cell? ⟨B, k, none⟩ = some (.pointer none) := (hcl _ _ hlt0).trans ck; have fk1 : w1.frozen? ⟨B, k, none⟩ = false := (hfr _ _ hlt0).trans fk; have cc1 : w1.cell? ⟨B + 1, 1, none⟩ = some (.slice (some ⟨B, 0, none⟩) n n) := (hcl _ _ hlt).trans c1; clear q g1 g2 hB hcl hfr))
      go_wp2
      have X : Hid (∃ h, NI B W (w1.setCell ⟨B, k, none⟩ (.pointer (some ⟨hb, 0, none⟩))) n (hs ++ [h])) := hide (STP.out w1 _ hb mb Q.out.1 ⟨Q.out.2.1.os, Q.out.2.1.tape, Q.out.2.1.output, Q.out.2.1.size, Q.out.2.1.block⟩ Q.out.2.2.1 Q.out.2.2.2 rfl rfl rfl rfl)
      obtain ⟨hh, hX⟩ := X.out
      have hX := hide hX
      go_roundw
      case rel => exact ⟨hs ++ [hh], hX, by rw [List.length_append, HK.out]; go_num⟩
      case measure => simp [intOf]; omega
    · have hl : hs.length = n := by have := R.out.hn; omega
      have F := hide (FIN.out _ _ R.out hl)
      rw [hl]
      go_wp2
      go_ret2
      exact F.out
end Go.Proofs.Ytmdendffbjhdbaa.Con
