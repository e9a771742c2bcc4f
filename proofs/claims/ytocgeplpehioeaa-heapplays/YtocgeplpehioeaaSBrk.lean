/- breakPatternsCmpFunc. -/
import Derived.Test.YtocgeplpehioeaaSPiv
import Derived.Lib.ItoaNum
import Derived.Laws.BitsAllLaws
namespace Go.Proofs.Ytocgeplpehioeaa.Con
open Go.RowKit Go.Proofs.Ytocgeplpehioeaa.Hq
set_option linter.unusedVariables false
set_option linter.unusedSimpArgs false
attribute [local go_sem ↓] Go.wp_at_zero Go.wp_at_succ
theorem xor_range (x y : Int) : 0 ≤ bits .xor .u64 x y ∧ bits .xor .u64 x y < 18446744073709551616 := by
  have e : ∃ z, bits .xor .u64 x y = IntKind.u64.wrap z := ⟨_, rfl⟩
  obtain ⟨z, hz⟩ := e
  rw [hz, IntKind.wrap_u64]
  omega
/-- A word of its own. -/
structure Sx (W0 : World) (hb r : Nat) (g : Bool) (m : List It) (rb : Nat) (W : World) : Prop where
  so : So W0 hb r g m W
  far : W0.heap.size ≤ rb
  wrd : ∃ X : Int, 0 ≤ X ∧ X < 18446744073709551616 ∧ W.heap[rb]? = some (.cells #[.int .u64 X] 85 (0, 0))
theorem Sx.put {W0 W : World} {hb r rb : Nat} {g : Bool} {m : List It} {V : Int} (h : Sx W0 hb r g m rb W) (h0 : 0 ≤ V) (h1 : V < 18446744073709551616) : Sx W0 hb r g m rb (W.setCell ⟨rb, 0, none⟩ (.int .u64 V)).drew := by
  obtain ⟨X, _, _, hx⟩ := h.wrd
  have hne : rb ≠ r := by rintro rfl; rw [h.so.row] at hx; simp at hx
  refine ⟨(h.so.setNew h.far hne).drew, h.far, V, h0, h1, ?_⟩
  show (W.setCell ⟨rb, 0, none⟩ (.int .u64 V)).heap[rb]? = _
  rw [heap_setCell_same W rb 0 _ _ _ hx]; rfl
theorem Sx.put_free {W0 W : World} {hb r rb : Nat} {g : Bool} {m : List It} {u : Value} (h : Sx W0 hb r g m rb W) : (W.setCell ⟨rb, 0, none⟩ u).drew.frozen? ⟨rb, 0, none⟩ = false := by
  obtain ⟨X, _, _, hx⟩ := h.wrd
  have := heap_setCell_same W rb 0 _ _ u hx
  show (W.setCell ⟨rb, 0, none⟩ u).frozen? ⟨rb, 0, none⟩ = false
  simp [World.frozen?, this]
theorem Sx.swap {W0 W : World} {hb r rb : Nat} {g : Bool} {m : List It} (h : Sx W0 hb r g m rb W) {i j : Nat} (hi : i < m.length) (hj : j < m.length) {x0 x1 y0 y1 : Int} (hx0 : (at' m i).1 = x0) (hx1 : (at' m i).2 = x1) (hy0 : (at' m j).1 = y0) (hy1 : (at' m j).2 = y1) :
    Sx W0 hb r g (swp m i j) rb (((((W.setCell ⟨r, i * 2, none⟩ (.int .i64 y0)).setCell ⟨r, i * 2 + 1, none⟩ (.int .i64 y1)).setCell ⟨r, j * 2, none⟩ (.int .i64 x0)).setCell ⟨r, j * 2 + 1, none⟩ (.int .i64 x1))).drew := by
  obtain ⟨X, h0, h1, hx⟩ := h.wrd
  have hne : rb ≠ r := by rintro rfl; rw [h.so.row] at hx; simp at hx
  refine ⟨h.so.swap hi hj hx0 hx1 hy0 hy1, h.far, X, h0, h1, ?_⟩
  show (((((W.setCell ⟨r, i * 2, none⟩ (.int .i64 y0)).setCell ⟨r, i * 2 + 1, none⟩ (.int .i64 y1)).setCell ⟨r, j * 2, none⟩ (.int .i64 x0)).setCell ⟨r, j * 2 + 1, none⟩ (.int .i64 x1))).heap[rb]? = _
  rw [heap_setCell_other _ _ rb _ hne, heap_setCell_other _ _ rb _ hne, heap_setCell_other _ _ rb _ hne, heap_setCell_other _ _ rb _ hne]
  exact hx
def NxtPost (W0 : World) (hb r : Nat) (g : Bool) (m : List It) (rb : Nat) (e : Ending) (w' : World) : Prop :=
  ∃ z : Int, e = .returned (.int .u64 z) ∧ 0 ≤ z ∧ z < 18446744073709551616 ∧ Sx W0 hb r g m rb w'
set_option maxHeartbeats 4000000 in
theorem next_any {W0 W : World} {hb r rb : Nat} {g : Bool} {m : List It} (S : Sx W0 hb r g m rb W) :
    Calls Try.prog 54 #[.pointer (some ⟨rb, 0, none⟩)] W fun e w' => NxtPost W0 hb r g m rb e w' := by
  obtain ⟨X, x0, x1, hx⟩ := S.wrd
  have c0 : W.cell? ⟨rb, 0, none⟩ = some (.int .u64 X) := by rw [cell_of_row W _ _ _ _ _ hx]; rfl
  have f0 : W.frozen? ⟨rb, 0, none⟩ = false := by simp [World.frozen?, hx]
  have R1 := hide (xor_range X (IntKind.u64.wrap (X * 8192)))
  have S0 := hide S
  clear S hx
  go_enter Try.func54, Try.ntmps54
  go_wp2
  go_region
  generalize bits BinOp.xor IntKind.u64 X (IntKind.u64.wrap (X * 8192)) = V1 at *
  generalize hW1 : (W.setCell ⟨rb, 0, none⟩ (.int .u64 V1)).drew = W1
  have S1 := hide (hW1 ▸ S0.out.put R1.out.1 R1.out.2)
  obtain ⟨v0, v1⟩ := R1.out
  obtain ⟨c1, f1⟩ : W1.cell? ⟨rb, 0, none⟩ = some (.int .u64 V1) ∧ W1.frozen? ⟨rb, 0, none⟩ = false := by rw [← hW1]; exact ⟨World.cell?_setCell_same _ _ _ c0, S0.out.put_free⟩
  have R2 := hide (xor_range V1 (V1 / 128))
  clear S0 R1 hW1 c0 f0 x0 x1
  go_wp2
  go_region
  generalize bits BinOp.xor IntKind.u64 V1 (V1 / 128) = V2 at *
  generalize hW2 : (W1.setCell ⟨rb, 0, none⟩ (.int .u64 V2)).drew = W2
  have S2 := hide (hW2 ▸ S1.out.put R2.out.1 R2.out.2)
  obtain ⟨c2, f2⟩ : W2.cell? ⟨rb, 0, none⟩ = some (.int .u64 V2) ∧ W2.frozen? ⟨rb, 0, none⟩ = false := by rw [← hW2]; exact ⟨World.cell?_setCell_same _ _ _ c1, S1.out.put_free⟩
  have R3 := hide (xor_range V2 (IntKind.u64.wrap (V2 * 131072)))
  obtain ⟨w0, w1⟩ := R2.out
  clear S1 R2 hW2 c1 f1 v0 v1
  go_wp2
  go_region
  generalize bits BinOp.xor IntKind.u64 V2 (IntKind.u64.wrap (V2 * 131072)) = V3 at *
  generalize hW3 : (W2.setCell ⟨rb, 0, none⟩ (.int .u64 V3)).drew = W3
  have S3' := hide (hW3 ▸ S2.out.put R3.out.1 R3.out.2)
  have c3 : W3.cell? ⟨rb, 0, none⟩ = some (.int .u64 V3) := by rw [← hW3]; exact World.cell?_setCell_same _ _ _ c2
  clear S2 hW3 c2 f2
  go_wp2
  go_ret
  exact ⟨V3, rfl, R3.out.1, R3.out.2, S3'.out⟩
/-- The power of two past l. -/
theorem pow_past (l : Nat) (h0 : 0 < l) (h1 : l ≤ 1024) : l < 2 ^ Lib.bitLen l ∧ 2 ^ Lib.bitLen l ≤ 2 * l ∧ Lib.bitLen l ≤ 11 := by
  have h := Lib.bitLenAux_bounds 64 l (by omega) (by omega)
  obtain ⟨b1, b2, b3⟩ := h
  have e : Lib.bitLen l = Lib.bitLenAux 64 l := rfl
  rw [← e] at b1 b2 b3
  have h3 := Lib.bitLen_le l 11 (by omega) (by omega)
  refine ⟨b3, ?_, h3⟩
  have : 2 ^ Lib.bitLen l = 2 * 2 ^ (Lib.bitLen l - 1) := by rw [← Nat.pow_succ']; congr 1; omega
  omega
theorem and_le (z : Int) (p : Nat) (h0 : 0 ≤ z) (h1 : z < 18446744073709551616) (hp : 0 < p) (hp2 : p ≤ 4096) : 0 ≤ bits .and .u64 z ((p : Int) - 1) ∧ bits .and .u64 z ((p : Int) - 1) < p := by
  rw [u64_and z ((p : Int) - 1) h0 h1 (by omega) (by omega)]
  have := Nat.and_le_right (n := z.toNat) (m := ((p : Int) - 1).toNat)
  omega
theorem power_any (l : Nat) (h0 : 0 < l) (h1 : l ≤ 1024) (W : World) : Calls Try.prog 53 #[.int .i64 l] W fun e w' => e = .returned (.int .u64 ((2 ^ Lib.bitLen l : Nat) : Int)) ∧ w' = W := by
  have BL := hide (Try.bits_Len (l : Int) W (by omega) (by omega))
  rw [Int.toNat_natCast] at BL
  obtain ⟨p1, p2, p3⟩ := pow_past l h0 h1
  obtain ⟨k, hk⟩ : ∃ k, Lib.bitLen l = k := ⟨_, rfl⟩
  rw [hk] at BL p1 p2 p3 ⊢
  clear hk
  have l1 : (l : Int) ≤ 1024 := by omega
  go_enter Try.func53, Try.ntmps53
  go_wp2_with (go_at_call 34; refine BL.out.mono ?_; rintro e w' ⟨rfl, rfl⟩)
  go_ret
  refine ⟨?_, rfl⟩
  have hp : (2 : Nat) ^ k ≤ 2048 := by omega
  have c : ((2 : Int) ^ k) = ((2 ^ k : Nat) : Int) := by simp
  have e : IntKind.u64.wrap ((2 : Int) ^ k) = ((2 ^ k : Nat) : Int) := by
    rw [c, IntKind.wrap_u64]
    generalize (2 : Nat) ^ k = y at *
    omega
  show Ending.returned (.int .u64 (IntKind.u64.wrap ((2 : Int) ^ k))) = _
  rw [e]
set_option maxRecDepth 100000 in
set_option maxHeartbeats 4000000 in
theorem break_any {W0 W : World} {hb r : Nat} {g : Bool} {m : List It} {n : Nat} (a b : Nat) (hn : m.length = n) (S : So W0 hb r g m W) (hb' : b ≤ n) (ha : a + 12 < b) :
    Calls Try.prog 42 #[.slice (some ⟨r, 0, none⟩) n n, .int .i64 a, .int .i64 b, .func (.func 27) #[.pointer (some ⟨hb, 0, none⟩)] #[]] W fun e w' => RngPost W0 hb r g m a b e w' := by
  have hn2 : n ≤ 1024 := by rw [← hn]; exact S.len
  have NN := hide hn
  obtain ⟨q, hq⟩ : ∃ q, q = (b - a) / 4 := ⟨_, rfl⟩
  obtain ⟨l, hl⟩ : ∃ l, l = b - a := ⟨_, rfl⟩
  obtain ⟨t, ht⟩ : ∃ t, t = a + q * 2 := ⟨_, rfl⟩
  have e0 : (b : Int) - (a : Int) = (l : Int) := by omega
  have e1 : (l : Int) / 4 = (q : Int) := by omega
  have e3 : (a : Int) + (q : Int) * 2 = (t : Int) := by omega
  have F : Hid (a + 2 < t ∧ t + 4 < b) := hide (by omega)
  have l8 : (8 : Int) ≤ (l : Int) := by omega
  have l1 : (l : Int) ≤ 1024 := by omega
  have q1 : (q : Int) ≤ 256 := by omega
  have a1 : (a : Int) ≤ 1024 := by omega
  have t1 : (t : Int) ≤ 1024 := by omega
  obtain ⟨p1, p2, p3⟩ := pow_past l (by omega) (by omega)
  have PW := hide (fun w => power_any l (by omega) (by omega) w)
  have L := hide hl
  have SX : Hid (Sx W0 hb r g m W.heap.size (W.alloc (.cells #[.int .u64 l] 85))) := hide ⟨S.below ((Below.refl _ _).alloc (Nat.le_refl _) _), S.grown.size, l, by omega, by omega, heap_alloc_new W _⟩
  clear S hn hq hl ht
  generalize (2 : Nat) ^ Lib.bitLen l = P at *
  clear p3
  go_enter Try.func42, Try.ntmps42
  go_wp2_with (go_at_call 53; refine (PW.out _).mono ?_; rintro e w' ⟨rfl, rfl⟩)
  generalize W.heap.size = rb at *
  generalize W.alloc (Obj.cells #[Value.int IntKind.u64 (l : Int)] 85) = W1 at *
  go_loopw [11] (fun s wr => ∃ (i : Nat) (p : List It), s = .int .i64 i ∧ t ≤ i + 1 ∧ i ≤ t + 2 ∧ Hid (Sx W0 hb r g p rb wr) ∧ Hid (Rng a b m p)) (fun s _ => t + 2 - (intOf s).toNat)
  case atStart => exact ⟨t - 1, m, by have := F.out; go_num, by omega, by omega, SX, hide (.refl _)⟩
  case round =>
    obtain ⟨i, p, rfl, hi1, hi2, Sp, Rp⟩ := hrel
    have hpl : p.length = n := by rw [Rp.out.length]; exact NN.out
    by_cases hi : i ≤ t + 1
    · have hi3 : (i : Int) ≤ (t : Int) + 1 := by omega
      have NX := hide (next_any Sp.out)
      go_wp2_with fail
      refine NX.out.mono ?_
      rintro e w1 ⟨z, rfl, z0, z1, s1⟩
      have S1 := hide s1
      clear s1 NX
      obtain ⟨o0, o1⟩ := and_le z P z0 z1 (by omega) (by omega)
      generalize ho : bits BinOp.and IntKind.u64 z ((P : Int) - 1) = o at *
      by_cases hol : o < (l : Int)
      · obtain ⟨j, hj⟩ : ∃ j : Nat, (a : Int) + o = (j : Int) := ⟨(a + o).toNat, by omega⟩
        have j0 : (j : Int) < (n : Int) := by have := L.out; omega
        have i0 : (i : Int) < (n : Int) := by have := F.out; omega
        obtain ⟨x0, x1, fx0, fx1⟩ := S1.out.so.item i (by have := F.out; omega)
        obtain ⟨y0, y1, fy0, fy1⟩ := S1.out.so.item j (by omega)
        generalize ex0 : (at' p i).1 = X0 at *
        generalize ex1 : (at' p i).2 = X1 at *
        generalize ey0 : (at' p j).1 = Y0 at *
        generalize ey1 : (at' p j).2 = Y1 at *
        have EX := hide (And.intro ex0 (And.intro ex1 (And.intro ey0 ey1)))
        clear ex0 ex1 ey0 ey1
        obtain ⟨⟨z0, hz0⟩, ⟨z1, hz1⟩, ⟨z2, hz2⟩, ⟨z3, hz3⟩⟩ := four_cells r i j y0 y1
        obtain ⟨⟨z4, hz4⟩, ⟨z5, hz5⟩, ⟨z6, hz6⟩, ⟨z7, hz7⟩⟩ := four_cells r j i x0 x1
        go_wp2_with fail
        go_region
        go_wp2
        go_roundw
        case rel => exact ⟨i + 1, swp p i j, by go_num, by omega, by omega, hide (S1.out.swap (by have := F.out; omega) (by omega) EX.out.1 EX.out.2.1 EX.out.2.2.1 EX.out.2.2.2), hide (Rp.out.step i j (by have := F.out; omega) (by have := F.out; omega) (by omega) (by have := L.out; omega) (by have := F.out; omega) (by omega))⟩
        case measure => simp [intOf]; omega
      · obtain ⟨j, hj⟩ : ∃ j : Nat, (a : Int) + (o - (l : Int)) = (j : Int) := ⟨(a + (o - l)).toNat, by omega⟩
        have j0 : (j : Int) < (n : Int) := by have := L.out; omega
        have i0 : (i : Int) < (n : Int) := by have := F.out; omega
        obtain ⟨x0, x1, fx0, fx1⟩ := S1.out.so.item i (by have := F.out; omega)
        obtain ⟨y0, y1, fy0, fy1⟩ := S1.out.so.item j (by omega)
        generalize ex0 : (at' p i).1 = X0 at *
        generalize ex1 : (at' p i).2 = X1 at *
        generalize ey0 : (at' p j).1 = Y0 at *
        generalize ey1 : (at' p j).2 = Y1 at *
        have EX := hide (And.intro ex0 (And.intro ex1 (And.intro ey0 ey1)))
        clear ex0 ex1 ey0 ey1
        obtain ⟨⟨z0, hz0⟩, ⟨z1, hz1⟩, ⟨z2, hz2⟩, ⟨z3, hz3⟩⟩ := four_cells r i j y0 y1
        obtain ⟨⟨z4, hz4⟩, ⟨z5, hz5⟩, ⟨z6, hz6⟩, ⟨z7, hz7⟩⟩ := four_cells r j i x0 x1
        go_wp2_with fail
        go_region
        go_wp2
        go_roundw
        case rel => exact ⟨i + 1, swp p i j, by go_num, by omega, by omega, hide (S1.out.swap (by have := F.out; omega) (by omega) EX.out.1 EX.out.2.1 EX.out.2.2.1 EX.out.2.2.2), hide (Rp.out.step i j (by have := F.out; omega) (by have := F.out; omega) (by omega) (by have := L.out; omega) (by have := F.out; omega) (by omega))⟩
        case measure => simp [intOf]; omega
    · have hi3 : ¬ (i : Int) ≤ (t : Int) + 1 := by omega
      go_wp2
      go_end0
      exact ⟨rfl, p, Sp.out.so, Rp.out⟩
end Go.Proofs.Ytocgeplpehioeaa.Con
