/- following; Free, Leave; a lock whose served ticket is the first. -/
import Derived.Test.YtplcpoajhkcjnaaTAhe
namespace Go.Proofs.Ytplcpoajhkcjnaa.Con
open Go.RowKit
set_option linter.unusedVariables false
set_option linter.unusedSimpArgs false
/-- How far 'following' has come. -/
def Fo (lf : Int → Bool) (L : List Tk) (n f : Nat) (sm : Bool) : Prop := (sm = false ∧ f = n ∧ ∀ p ∈ L, lf p.1 = true) ∨ (sm = true ∧ (∃ p ∈ L, p.2 = f) ∧ ∀ p ∈ L, lf p.1 = false → f ≤ p.2)
theorem uniq {L : List Tk} (ho : Ord L) {y : Int} {t : Nat} (h : (y, t) ∈ L) {p : Tk} (hp : p ∈ L) (e : p.1 = y) : p.2 = t := by
  have h1 := tkOf_of ho h
  have h2 := tkOf_of ho (show (p.1, p.2) ∈ L from hp)
  rw [e, h1] at h2
  injection h2 with h2
  exact h2.symm
theorem Fo.step {lf lf' : Int → Bool} {L : List Tk} {n f : Nat} {sm : Bool} {y : Int} {t : Nat} (h : Fo lf L n f sm) (ho : Ord L) (hm : (y, t) ∈ L) (hlf : ∀ z, lf' z = (lf z && !decide (z = y))) :
    Fo lf' L n (if sm = false ∨ t < f then t else f) true := by
  have key : ∀ p ∈ L, lf' p.1 = false → lf p.1 = false ∨ p.2 = t := by
    intro p hp hl
    rw [hlf] at hl
    by_cases e : p.1 = y
    · exact .inr (uniq ho hm hp e)
    · left; simpa [e] using hl
  rcases h with ⟨rfl, rfl, h⟩ | ⟨rfl, h1, h2⟩
  · rw [if_pos (.inl rfl)]
    refine .inr ⟨rfl, ⟨_, hm, rfl⟩, fun p hp hl => ?_⟩
    rcases key p hp hl with e | e
    · rw [h p hp] at e; cases e
    · omega
  · by_cases ht : t < f
    · rw [if_pos (.inr ht)]
      refine .inr ⟨rfl, ⟨_, hm, rfl⟩, fun p hp hl => ?_⟩
      rcases key p hp hl with e | e
      · have := h2 p hp e; omega
      · omega
    · rw [if_neg (by simp; omega)]
      refine .inr ⟨rfl, h1, fun p hp hl => ?_⟩
      rcases key p hp hl with e | e
      · exact h2 p hp e
      · omega
theorem Fo.last {lf : Int → Bool} {L : List Tk} {n f : Nat} {sm : Bool} (h : Fo lf L n f sm) (ho : Ord L) (hl : ∀ z, lf z = false) : f = sv L n := by
  cases L with
  | nil =>
    rcases h with ⟨_, rfl, _⟩ | ⟨_, ⟨p, hp, _⟩, _⟩
    · rfl
    · cases hp
  | cons p r =>
    rcases h with ⟨_, _, h⟩ | ⟨_, ⟨q, hq, rfl⟩, h⟩
    · have := h p (by simp); rw [hl] at this; cases this
    · have h1 := h p (by simp) (hl _)
      show q.2 = p.2
      rcases List.mem_cons.1 hq with rfl | hq
      · rfl
      · have := ((List.pairwise_cons.1 ho).1 q hq).2
        omega
section
variable {W : World} {b m n s : Nat} {L : List Tk}
set_option maxRecDepth 20000 in
theorem following_any (h : LK W b m n s L) : Calls Try.prog 15 #[.pointer (some ⟨b, 0, none⟩)] W fun e w' => e = .returned (.int .u32 (sv L n : Int)) ∧ Below W.heap.size W w' := by
  obtain ⟨c0, c1, c2, z0, z1⟩ := h.cells
  have H := hide h
  obtain ⟨D, hown, hs, hA⟩ := h.map
  have HA := hide hA
  clear hA h
  go_enter Try.func15, Try.ntmps15
  go_wp2_with (first
    | (at_range; refine wpList_range_own _ rfl _ 32 rfl 3 25 keyI Try.underlying32 _ m L.length D rfl hown ?_; intro w0 hrg0 hg0 hs0)
    | go_in)
  try go_frame
  go_loopw [3, 4] (fun a c wr => ∃ (left : Lit → Bool) (cnt f : Nat) (sm : Bool), wr.ranges Try.prog 3 (plainElem Try.prog 25) m W.heap.size L.length D left cnt ∧ Hid (Below W.heap.size W wr) ∧ a = .int .u32 (f : Int) ∧ c = .bool sm ∧ Hid (Fo (fun y => left (.int .i64 y)) L n f sm))
    (fun _ _ wr => wr.rangeLeft m W.heap.size)
  case atStart =>
    refine ⟨_, _, n, false, hrg0, hide ⟨hg0.os, hg0.tape, hg0.output, hg0.size, fun k hk => hg0.block k hk (by simp)⟩, rfl, rfl, hide (.inl ⟨rfl, rfl, ?_⟩)⟩
    intro p hp
    show Maps.has D _ = true
    rw [(HA.out p.1 (H.out.in64 hp)).1, tkOf_of H.out.ord (show (p.1, p.2) ∈ L from hp)]; rfl
  case round =>
    obtain ⟨left, cnt, f, sm, hrg, HB, rfl, rfl, HF⟩ := hrel
    go_wp2_with (first
      | (at_next; refine wpList_next_ranges_ii _ rfl _ rfl 3 25 .i64 .u32 keyI Try.underlying3 Try.underlying25 m W.heap.size L.length _ _ _ rfl hrg ?_ ?_)
      | go_in)
    · intro _ hl0
      go_wp2
      go_ret
      exact ⟨ret_u32 (by rw [HF.out.last H.out.ord (fun z => hl0 _)]), HB.out⟩
    · intro y c w1 cnt1 hwx hwc hlx hat hrg1 hlt hg1 hs1 hen
      obtain ⟨t, rfl, hyt⟩ := entry_mem HA.out hwx hat
      have HB1 : Hid (Below W.heap.size W w1) := hide (below_grown HB.out HB.out.size hg1 (fun k hk => by injection hk with hk; omega))
      have H1 := hide (H.out.below HB1.out)
      have htt := H.out.t32 hyt
      have FS := hide (HF.out.step (lf' := fun z => left (.int .i64 z) && !(Lit.int .i64 z).sameKey (.int .i64 y)) H.out.ord hyt (fun z => left_at left hwx z))
      cases sm with
      | false =>
        rw [if_pos (.inl rfl)] at FS
        go_wp2
        go_roundw
        case rel => exact ⟨_, cnt1, t, true, hrg1, HB1, rfl, rfl, FS⟩
        case measure => rw [hrg1.left_eq, hrg.left_eq]; exact hlt
      | true =>
        have hft : s ≤ f ∧ f < 4294967296 := by
          rcases HF.out with ⟨e, _⟩ | ⟨_, ⟨p, hp, rfl⟩, _⟩
          · cases e
          · exact H.out.t32 hp
        have W1 := hide (wait_any H1.out t htt.1 htt.2)
        have W2 := hide (wait_any H1.out f hft.1 hft.2)
        obtain ⟨u1, hu1⟩ : ∃ u, t - s = u := ⟨_, rfl⟩
        obtain ⟨u2, hu2⟩ : ∃ u, f - s = u := ⟨_, rfl⟩
        rw [hu1] at W1
        rw [hu2] at W2
        by_cases hlt2 : t < f
        · have hv : (u1 : Int) < (u2 : Int) := by omega
          rw [if_pos (.inr hlt2)] at FS
          go_wp2_with fail
          refine W1.out.mono ?_
          rintro e w2 ⟨rfl, hw⟩
          have hw2 := hw.symm
          clear hw
          subst hw2
          go_wp2_with fail
          refine W2.out.mono ?_
          rintro e w2 ⟨rfl, hw⟩
          have hw2 := hw.symm
          clear hw
          subst hw2
          go_wp2
          go_roundw
          case rel => exact ⟨_, cnt1, t, true, hrg1, HB1, rfl, rfl, FS⟩
          case measure => rw [hrg1.left_eq, hrg.left_eq]; exact hlt
        · have hv : ¬ (u1 : Int) < (u2 : Int) := by omega
          rw [if_neg (by simp; omega)] at FS
          go_wp2_with fail
          refine W1.out.mono ?_
          rintro e w2 ⟨rfl, hw⟩
          have hw2 := hw.symm
          clear hw
          subst hw2
          go_wp2_with fail
          refine W2.out.mono ?_
          rintro e w2 ⟨rfl, hw⟩
          have hw2 := hw.symm
          clear hw
          subst hw2
          go_wp2
          go_roundw
          case rel => exact ⟨_, cnt1, f, true, hrg1, HB1, rfl, rfl, FS⟩
          case measure => rw [hrg1.left_eq, hrg.left_eq]; exact hlt
/-- All but one. -/
def out (L : List Tk) (x : Int) : List Tk := L.filter (fun p => decide (p.1 ≠ x))
theorem out_none {x : Int} : ∀ {L : List Tk}, (∀ p ∈ L, p.1 ≠ x) → out L x = L := fun {L} h => by
  unfold out
  rw [List.filter_eq_self]
  intro p hp
  simpa using h p hp
theorem out_len {x : Int} : ∀ {L : List Tk} {d : Nat}, Ord L → tkOf L x = some d → (out L x).length = L.length - 1
  | [], _, _, h => by cases h
  | p :: r, d, ho, h => by
    unfold Ord at ho
    rw [List.pairwise_cons] at ho
    by_cases e : p.1 = x
    · have : out (p :: r) x = out r x := by unfold out; rw [List.filter_cons_of_neg (by simpa using e)]
      rw [this, out_none fun q hq => fun e' => (ho.1 q hq).1 (e.trans e'.symm)]
      simp
    · have : out (p :: r) x = p :: out r x := by unfold out; rw [List.filter_cons_of_pos (by simpa using e)]
      have hr : tkOf r x = some d := by
        unfold tkOf at h
        rwa [if_neg (fun e' => e e'.symm)] at h
      have hm := tkOf_mem hr
      rw [this, List.length_cons, out_len ho.2 hr]
      have : 0 < r.length := List.length_pos_of_mem hm
      simp; omega
theorem del_lk (h : LK W b m n s L) {x : Int} {d : Nat} (hd : tkOf L x = some d) {w1 : World} (hm : Mp w1 m (if (tkOf L x).isSome then L.length - 1 else L.length) (upd (tkOf L) x none)) (hg : W.grownBy w1 (some m)) : LK w1 b m n s (out L x) ∧ Stp W w1 b m := by
  rw [hd] at hm
  simp only [Option.isSome_some, if_true] at hm
  have hs1 : w1.heap[b]? = _ := (hg.block b h.blt (fun e => h.ne (by simpa using e))).trans h.str
  have hsub : ∀ p ∈ out L x, p ∈ L := fun p hp => (List.mem_filter.1 hp).1
  refine ⟨⟨hs1, ?_, h.ord.sublist List.filter_sublist, fun p hp => h.who p (hsub p hp), fun p hp => h.tic p (hsub p hp), h.sle, h.hi, ?_⟩, ⟨hg.os, hg.tape, hg.output, hg.size, fun k hk h1 h2 => hg.block k hk (by simpa using h2)⟩⟩
  · rw [out_len h.ord hd]
    exact hm.congr fun y _ => tkOf_erase y
  · have := h.len
    rw [out_len h.ord hd]; omega
theorem sv_le {L : List Tk} (ho : Ord L) (ht : ∀ p ∈ L, p.2 < n) : (∀ p ∈ L, sv L n ≤ p.2) ∧ sv L n ≤ n := by
  cases L with
  | nil => exact ⟨by simp, Nat.le_refl _⟩
  | cons p r =>
    refine ⟨fun q hq => ?_, ?_⟩
    · show p.2 ≤ q.2
      rcases List.mem_cons.1 hq with rfl | hq
      · exact Nat.le_refl _
      · exact Nat.le_of_lt ((List.pairwise_cons.1 ho).1 q hq).2
    · exact Nat.le_of_lt (ht p (by simp))
theorem serve_lk {w1 w2 : World} (h : LK w1 b m n s L) (hw : w2 = w1.setCell ⟨b, 1, none⟩ (.int .u32 (sv L n : Int))) : LK w2 b m n (sv L n) L ∧ Stp w1 w2 b m := by
  subst hw
  have hs2 := heap_setCell_same w1 b 1 _ _ (.int .u32 (sv L n : Int)) h.str
  have hoth : ∀ k, k ≠ b → (w1.setCell ⟨b, 1, none⟩ (.int .u32 (sv L n : Int))).heap[k]? = w1.heap[k]? := fun k hk => heap_setCell_other w1 _ _ _ (by simpa using hk)
  obtain ⟨s1, s2⟩ := sv_le h.ord (n := n) (fun p hp => (h.tic p hp).2)
  refine ⟨⟨by rw [hs2]; rfl, h.map.kept (hoth m (fun e => h.ne e.symm)), h.ord, h.who, fun p hp => ⟨s1 p hp, (h.tic p hp).2⟩, s2, h.hi, h.len⟩, ⟨rfl, rfl, rfl, by simp, fun k hk h1 _ => hoth k h1⟩⟩
theorem hasB_true {x : Int} (h : tkOf L x = some s) : hasB L s x = true := by simp [hasB, h]
theorem hasB_false {x : Int} (h : tkOf L x ≠ some s) : hasB L s x = false := by simp [hasB, h]
theorem free_none (h : LK W b m n s L) (x : Int) (hx : Con.in64 x) (hd : tkOf L x = none) : Calls Try.prog 10 #[.pointer (some ⟨b, 0, none⟩), .int .i64 x] W fun e w' => e = .returned (.int .i64 4) ∧ w' = W := by
  obtain ⟨c0, c1, c2, z0, z1⟩ := h.cells
  have hlk := h.map.look hx
  rw [hd] at hlk
  simp only [Option.getD_none, Option.isSome_none] at hlk
  clear h
  go_enter Try.func10, Try.ntmps10
  go_wp2
  go_ret
  exact ⟨rfl, rfl⟩
theorem leave_none (h : LK W b m n s L) (x : Int) (hx : Con.in64 x) (hd : tkOf L x = none) : Calls Try.prog 11 #[.pointer (some ⟨b, 0, none⟩), .int .i64 x] W fun e w' => e = .returned (.int .i64 4) ∧ w' = W := by
  obtain ⟨c0, c1, c2, z0, z1⟩ := h.cells
  have hlk := h.map.look hx
  rw [hd] at hlk
  simp only [Option.getD_none, Option.isSome_none] at hlk
  clear h
  go_enter Try.func11, Try.ntmps11
  go_wp2
  go_ret
  exact ⟨rfl, rfl⟩
theorem free_busy (h : LK W b m n s L) (x : Int) (hx : Con.in64 x) (d : Nat) (hd : tkOf L x = some d) (hn : d ≠ s) : Calls Try.prog 10 #[.pointer (some ⟨b, 0, none⟩), .int .i64 x] W fun e w' => e = .returned (.int .i64 5) ∧ w' = W := by
  obtain ⟨c0, c1, c2, z0, z1⟩ := h.cells
  have hlk := h.map.look hx
  have HS := hide (has_any h x hx)
  rw [hasB_false (by rw [hd]; simpa using hn)] at HS
  rw [hd] at hlk
  simp only [Option.getD_some, Option.isSome_some] at hlk
  clear h
  go_enter Try.func10, Try.ntmps10
  go_wp2_with (go_at_call 12; refine HS.out.mono ?_; rintro e w1 ⟨rfl, hw⟩; have hw2 := hw.symm; clear hw; subst hw2)
  go_ret
  exact ⟨rfl, rfl⟩
theorem leave_busy (h : LK W b m n s L) (x : Int) (hx : Con.in64 x) (hd : tkOf L x = some s) : Calls Try.prog 11 #[.pointer (some ⟨b, 0, none⟩), .int .i64 x] W fun e w' => e = .returned (.int .i64 5) ∧ w' = W := by
  obtain ⟨c0, c1, c2, z0, z1⟩ := h.cells
  have hlk := h.map.look hx
  have HS := hide (has_any h x hx)
  rw [hasB_true hd] at HS
  rw [hd] at hlk
  simp only [Option.getD_some, Option.isSome_some] at hlk
  clear h
  go_enter Try.func11, Try.ntmps11
  go_wp2_with (go_at_call 12; refine HS.out.mono ?_; rintro e w1 ⟨rfl, hw⟩; have hw2 := hw.symm; clear hw; subst hw2)
  go_ret
  exact ⟨rfl, rfl⟩
theorem leave_ok (h : LK W b m n s L) (x : Int) (hx : Con.in64 x) (d : Nat) (hd : tkOf L x = some d) (hn : d ≠ s) : Calls Try.prog 11 #[.pointer (some ⟨b, 0, none⟩), .int .i64 x] W fun e w' => e = .returned (.int .i64 0) ∧ TPost W b m n s (out L x) w' := by
  obtain ⟨c0, c1, c2, z0, z1⟩ := h.cells
  have hlk := h.map.look hx
  have HS := hide (has_any h x hx)
  rw [hasB_false (by rw [hd]; simpa using hn)] at HS
  rw [hd] at hlk
  simp only [Option.getD_some, Option.isSome_some] at hlk
  obtain ⟨w1, hdel, hm1, hg⟩ := h.map.del 0 hx
  have FIN : Hid (TPost W b m n s (out L x) w1) := hide (del_lk h hd hm1 hg)
  clear h hm1 hg
  go_enter Try.func11, Try.ntmps11
  go_wp2_with (go_at_call 12; refine HS.out.mono ?_; rintro e w3 ⟨rfl, hw⟩; have hw2 := hw.symm; clear hw; subst hw2)
  go_ret
  exact ⟨rfl, FIN.out⟩
theorem free_ok (h : LK W b m n s L) (x : Int) (hx : Con.in64 x) (hd : tkOf L x = some s) : Calls Try.prog 10 #[.pointer (some ⟨b, 0, none⟩), .int .i64 x] W fun e w' => e = .returned (.int .i64 0) ∧ TPost W b m n (sv (out L x) n) (out L x) w' := by
  obtain ⟨c0, c1, c2, z0, z1⟩ := h.cells
  have hlk := h.map.look hx
  have HS := hide (has_any h x hx)
  rw [hasB_true hd] at HS
  rw [hd] at hlk
  simp only [Option.getD_some, Option.isSome_some] at hlk
  obtain ⟨w1, hdel, hm1, hg⟩ := h.map.del 0 hx
  have DL := hide (del_lk h hd hm1 hg)
  have FO := hide (following_any DL.out.1)
  clear h hm1 hg
  go_enter Try.func10, Try.ntmps10
  go_wp2_with (first
    | (go_at_call 12; refine HS.out.mono ?_; rintro e w3 ⟨rfl, hw⟩; have hw2 := hw.symm; clear hw; subst hw2)
    | (go_at_call 15; refine FO.out.mono ?_; rintro e w2 ⟨rfl, hB⟩; have L2 := hide (DL.out.1.below hB); have B2 := hide hB; obtain ⟨k0, k1, k2, y0, y1⟩ := L2.out.cells; clear hB))
  go_ret
  have S := serve_lk L2.out rfl
  exact ⟨rfl, S.1, (DL.out.2.trans (Stp.below B2.out b m)).trans S.2⟩
end
end Go.Proofs.Ytplcpoajhkcjnaa.Con
