/- reverseRangeCmpFunc; order2CmpFunc, medianCmpFunc, medianAdjacentCmpFunc, choosePivotCmpFunc. -/
import Derived.Test.YtocgeplpehioeaaSIns
namespace Go.Proofs.Ytocgeplpehioeaa.Con
open Go.RowKit Go.Proofs.Ytocgeplpehioeaa.Hq
set_option linter.unusedVariables false
set_option linter.unusedSimpArgs false
attribute [local go_sem ↓] Go.wp_at_zero Go.wp_at_succ
def RngPost (W0 : World) (hb r : Nat) (g : Bool) (m : List It) (a b : Nat) (e : Ending) (w' : World) : Prop :=
  e = .returned (.tuple #[]) ∧ ∃ m', So W0 hb r g m' w' ∧ Rng a b m m'
set_option maxRecDepth 100000 in
set_option maxHeartbeats 4000000 in
theorem reverse_any {W0 W : World} {hb r : Nat} {g : Bool} {m : List It} {n : Nat} (a b : Nat) (hn : m.length = n) (S : So W0 hb r g m W) (hb' : b ≤ n) (ha : a < b) :
    Calls Try.prog 44 #[.slice (some ⟨r, 0, none⟩) n n, .int .i64 a, .int .i64 b, .func (.func 27) #[.pointer (some ⟨hb, 0, none⟩)] #[]] W fun e w' => RngPost W0 hb r g m a b e w' := by
  have hn2 : n ≤ 1024 := by rw [← hn]; exact S.len
  have NN := hide hn
  have S0 := hide S
  clear S hn
  go_enter Try.func44, Try.ntmps44
  go_wp2
  go_loopw [8, 9] (fun s t wr => ∃ (i j : Nat) (p : List It), s = .int .i64 i ∧ t = .int .i64 j ∧ a ≤ i ∧ j < b ∧ i ≤ b ∧ Hid (So W0 hb r g p wr) ∧ Hid (Rng a b m p)) (fun _ t _ => (intOf t).toNat)
  case atStart => exact ⟨a, b - 1, m, rfl, by go_num, by omega, by omega, by omega, S0, hide (.refl _)⟩
  case round =>
    obtain ⟨i, j, p, rfl, rfl, hai, hjb, hib, Sp, Rp⟩ := hrel
    have hpl : p.length = n := by rw [Rp.out.length]; exact NN.out
    by_cases hij : i < j
    · have hij1 : (i : Int) < (j : Int) := by omega
      obtain ⟨x0, x1, fx0, fx1⟩ := Sp.out.item i (by omega)
      obtain ⟨y0, y1, fy0, fy1⟩ := Sp.out.item j (by omega)
      have i1 : (i : Int) < (n : Int) := by omega
      have j1 : (j : Int) < (n : Int) := by omega
      generalize ex0 : (at' p i).1 = X0 at *
      generalize ex1 : (at' p i).2 = X1 at *
      generalize ey0 : (at' p j).1 = Y0 at *
      generalize ey1 : (at' p j).2 = Y1 at *
      have EX := hide (And.intro ex0 (And.intro ex1 (And.intro ey0 ey1)))
      clear ex0 ex1 ey0 ey1
      obtain ⟨⟨z0, hz0⟩, ⟨z1, hz1⟩, ⟨z2, hz2⟩, ⟨z3, hz3⟩⟩ := four_cells r i j y0 y1
      obtain ⟨⟨z4, hz4⟩, ⟨z5, hz5⟩, ⟨z6, hz6⟩, ⟨z7, hz7⟩⟩ := four_cells r j i x0 x1
      go_wp2
      go_region
      go_wp2
      go_roundw
      case rel => exact ⟨i + 1, j - 1, swp p i j, by go_num, by go_num, by omega, by omega, by omega, hide (Sp.out.swap (by omega) (by omega) EX.out.1 EX.out.2.1 EX.out.2.2.1 EX.out.2.2.2), hide (Rp.out.step i j (by omega) (by omega) (by omega) (by omega) (by omega) (by omega))⟩
      case measure => simp [intOf]; omega
    · have hij1 : ¬ (i : Int) < (j : Int) := by omega
      go_wp2
      go_end0
      unfold RngPost
      exact ⟨rfl, p, Sp.out, Rp.out⟩
/-- The row, and the count of exchanges beside it. -/
structure Sw (W0 : World) (hb r : Nat) (g : Bool) (m : List It) (sb : Nat) (B : Int) (W : World) : Prop where
  so : So W0 hb r g m W
  far : W0.heap.size ≤ sb
  cnt : ∃ s : Int, 0 ≤ s ∧ s ≤ B ∧ W.heap[sb]? = some (.cells #[.int .i64 s] 3 (0, 0))
theorem Sw.below {W0 W W' : World} {hb r sb : Nat} {g : Bool} {m : List It} {B B' : Int} (h : Sw W0 hb r g m sb B W) (hB : Below W.heap.size W W') (hb' : B ≤ B') : Sw W0 hb r g m sb B' W' := by
  obtain ⟨s, h0, h1, h2⟩ := h.cnt
  exact ⟨h.so.below hB, h.far, s, h0, by omega, (hB.block sb (Array.getElem?_eq_some_iff.1 h2).1).trans h2⟩
theorem So.setNew {W0 W : World} {hb r sb o : Nat} {g : Bool} {m : List It} {u : Value} (h : So W0 hb r g m W) (h1 : W0.heap.size ≤ sb) (h2 : sb ≠ r) : So W0 hb r g m (W.setCell ⟨sb, o, none⟩ u) :=
  ⟨(heap_setCell_other W _ r _ (Ne.symm h2)).trans h.row, ⟨h.grown.os, h.grown.tape, h.grown.output, by simpa using h.grown.size, fun k hk hne => (heap_setCell_other W _ k _ (by intro e; have e' : k = sb := e; omega)).trans (h.grown.block k hk hne)⟩, h.gr, h.ne, h.ids, h.len⟩
theorem Sw.inc {W0 W : World} {hb r sb : Nat} {g : Bool} {m : List It} {B s : Int} (h : Sw W0 hb r g m sb B W) (hs : W.heap[sb]? = some (.cells #[.int .i64 s] 3 (0, 0))) (h0 : 0 ≤ s) (h1 : s ≤ B) : Sw W0 hb r g m sb (B + 1) (W.setCell ⟨sb, 0, none⟩ (.int .i64 (s + 1))) := by
  have hne : sb ≠ r := by rintro rfl; rw [h.so.row] at hs; simp at hs
  refine ⟨h.so.setNew h.far hne, h.far, s + 1, by omega, by omega, ?_⟩
  rw [heap_setCell_same W sb 0 _ _ _ hs]; rfl
def OrdPost (W0 : World) (hb r : Nat) (g : Bool) (m : List It) (sb : Nat) (B : Int) (i j : Nat) (e : Ending) (w' : World) : Prop :=
  ∃ x y : Nat, e = .returned (.tuple #[.int .i64 x, .int .i64 y]) ∧ ((x = i ∧ y = j) ∨ (x = j ∧ y = i)) ∧ Sw W0 hb r g m sb (B + 1) w'
set_option maxRecDepth 100000 in
set_option maxHeartbeats 4000000 in
theorem order2_any {W0 W : World} {hb r sb : Nat} {g : Bool} {m : List It} {n : Nat} {B : Int} (i j : Nat) (hn : m.length = n) (S : Sw W0 hb r g m sb B W) (hi : i < n) (hj : j < n) (hB : B ≤ 1000) :
    Calls Try.prog 57 #[.slice (some ⟨r, 0, none⟩) n n, .int .i64 i, .int .i64 j, .pointer (some ⟨sb, 0, none⟩), .func (.func 27) #[.pointer (some ⟨hb, 0, none⟩)] #[]] W fun e w' => OrdPost W0 hb r g m sb B i j e w' := by
  obtain ⟨y0, y1, _, _⟩ := S.so.item i (by omega)
  obtain ⟨x0, x1, _, _⟩ := S.so.item j (by omega)
  have hgr := S.so.great
  have hbl := S.so.hlt
  have rl := S.so.rlt
  have i1 : (i : Int) < (n : Int) := by omega
  have j1 : (j : Int) < (n : Int) := by omega
  have CM := hide (fun w' hg => compare_any hb g (at' m j).1 (at' m j).2 (at' m i).1 (at' m i).2 w' hg)
  have S0 := hide S
  clear S hn
  generalize (at' m j).1 = X0 at *
  generalize (at' m j).2 = X1 at *
  generalize (at' m i).1 = Y0 at *
  generalize (at' m i).2 = Y1 at *
  generalize cf g (X0, X1) (Y0, Y1) = c at *
  go_enter Try.func57, Try.ntmps57
  go_wp2
  go_region_held3 (fun w' => w'.cell? ⟨hb, 1, none⟩ = some (.bool g) ∧ w'.cell? ⟨r, j * 2, none⟩ = some (.int .i64 X0) ∧ w'.cell? ⟨r, j * 2 + 1, none⟩ = some (.int .i64 X1) ∧ w'.cell? ⟨r, i * 2, none⟩ = some (.int .i64 Y0) ∧ w'.cell? ⟨r, i * 2 + 1, none⟩ = some (.int .i64 Y1))
    (first | go_keep | (go_split_ands; refine ⟨?_, ?_, ?_, ?_, ?_⟩ <;> (rw [hcl _ _ (by first | exact hbl | exact rl)]; assumption)))
    ((go_at_call 27; refine (CM.out _ ?_).mono ?_; (simp [*]); rintro e w' ⟨rfl, hB⟩; obtain ⟨hcl, hfr⟩ := bcell hB))
  have Sd : Hid (Sw W0 hb r g m sb B _) := hide (S0.out.below ((below_drewN (Below.refl _ _) 1 : Below W.heap.size W (W.drewN 1)).trans hB) (by omega))
  clear hcl hfr hB x0 x1 y0 y1 hgr CM
  by_cases hlt : c < 0
  · obtain ⟨s, s0, s1, s2⟩ := Sd.out.cnt
    have cs : w'.cell? ⟨sb, 0, none⟩ = some (.int .i64 s) := by rw [cell_of_row w' _ _ _ _ _ s2]; rfl
    have fs : w'.frozen? ⟨sb, 0, none⟩ = false := by simp [World.frozen?, s2]
    have FI := hide (Sd.out.inc s2 s0 s1)
    clear s2
    go_wp2
    go_ret2
    exact ⟨j, i, rfl, .inr ⟨rfl, rfl⟩, FI.out⟩
  · go_wp2
    go_ret2
    exact ⟨i, j, rfl, .inl ⟨rfl, rfl⟩, Sd.out.below (Below.refl _ _) (by omega)⟩
def MedPost (W0 : World) (hb r : Nat) (g : Bool) (m : List It) (sb : Nat) (B : Int) (a b c : Nat) (e : Ending) (w' : World) : Prop :=
  ∃ x : Nat, e = .returned (.int .i64 x) ∧ (x = a ∨ x = b ∨ x = c) ∧ Sw W0 hb r g m sb (B + 3) w'
set_option maxHeartbeats 4000000 in
theorem median_any {W0 W : World} {hb r sb : Nat} {g : Bool} {m : List It} {n : Nat} {B : Int} (a b c : Nat) (hn : m.length = n) (S : Sw W0 hb r g m sb B W) (ha : a < n) (hb' : b < n) (hc : c < n) (hB : B ≤ 900) :
    Calls Try.prog 56 #[.slice (some ⟨r, 0, none⟩) n n, .int .i64 a, .int .i64 b, .int .i64 c, .pointer (some ⟨sb, 0, none⟩), .func (.func 27) #[.pointer (some ⟨hb, 0, none⟩)] #[]] W fun e w' => MedPost W0 hb r g m sb B a b c e w' := by
  have S0 := hide S
  have NN := hide hn
  clear S hn
  go_enter Try.func56, Try.ntmps56
  go_wp2_with fail
  refine (order2_any a b NN.out S0.out ha hb' (by omega)).mono ?_
  rintro e w1 ⟨x, y, rfl, hxy, s1⟩
  have S1 := hide s1
  clear s1 S0
  have hx : x < n ∧ y < n ∧ (x = a ∨ x = b) ∧ (y = a ∨ y = b) := by omega
  have HX := hide hx
  clear hx hxy
  go_wp2_with fail
  refine (order2_any y c NN.out S1.out HX.out.2.1 hc (by omega)).mono ?_
  rintro e w2 ⟨u, v, rfl, huv, s2⟩
  have S2 := hide s2
  clear s2 S1
  have hu : u < n ∧ (u = a ∨ u = b ∨ u = c) := by have := HX.out; omega
  have HU := hide hu
  clear hu huv
  go_wp2_with fail
  refine (order2_any x u NN.out S2.out HX.out.1 HU.out.1 (by omega)).mono ?_
  rintro e w3 ⟨p, q, rfl, hpq, s3⟩
  have S3' := hide s3
  clear s3 S2
  have hq : q = a ∨ q = b ∨ q = c := by have := HX.out; have := HU.out; omega
  have HQq := hide hq
  clear hq hpq
  go_wp2_with fail
  go_ret
  exact ⟨q, rfl, HQq.out, S3'.out.below (Below.refl _ _) (by omega)⟩
def AdjPost (W0 : World) (hb r : Nat) (g : Bool) (m : List It) (sb : Nat) (B : Int) (a : Nat) (e : Ending) (w' : World) : Prop :=
  ∃ x : Nat, e = .returned (.int .i64 x) ∧ (x + 1 = a ∨ x = a ∨ x = a + 1) ∧ Sw W0 hb r g m sb (B + 3) w'
set_option maxHeartbeats 4000000 in
theorem adjacent_any {W0 W : World} {hb r sb : Nat} {g : Bool} {m : List It} {n : Nat} {B : Int} (a : Nat) (hn : m.length = n) (S : Sw W0 hb r g m sb B W) (h0 : 0 < a) (ha : a + 1 < n) (hB : B ≤ 900) :
    Calls Try.prog 55 #[.slice (some ⟨r, 0, none⟩) n n, .int .i64 a, .pointer (some ⟨sb, 0, none⟩), .func (.func 27) #[.pointer (some ⟨hb, 0, none⟩)] #[]] W fun e w' => AdjPost W0 hb r g m sb B a e w' := by
  have hn2 : n ≤ 1024 := by rw [← hn]; exact S.so.len
  obtain ⟨b, hb1⟩ : ∃ b, b + 1 = a := ⟨a - 1, by omega⟩
  obtain ⟨c, hc1⟩ : ∃ c, c = a + 1 := ⟨_, rfl⟩
  have e1 : (a : Int) - 1 = (b : Int) := by omega
  have e2 : (a : Int) + 1 = (c : Int) := by omega
  have ME := hide (median_any b a c hn S (by omega) (by omega) (by omega) hB)
  have F := hide (And.intro hb1 hc1)
  clear S hn hb1 hc1
  go_enter Try.func55, Try.ntmps55
  go_wp2_with (go_at_call 56; refine ME.out.mono ?_; rintro e w1 ⟨x, rfl, hx, s1⟩)
  go_ret
  exact ⟨x, rfl, by have := F.out; omega, s1⟩
end Go.Proofs.Ytocgeplpehioeaa.Con
