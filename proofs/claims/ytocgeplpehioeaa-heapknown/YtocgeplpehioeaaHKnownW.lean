/- HeapKnown's walk. -/
import Derived.Test.YtocgeplpehioeaaHKnown
namespace Go.Proofs.Ytocgeplpehioeaa.Con
open Go.RowKit Go.Proofs.Ytocgeplpehioeaa.Hq
set_option linter.unusedVariables false
set_option linter.unusedSimpArgs false
set_option maxRecDepth 100000 in
set_option maxHeartbeats 8000000 in
theorem known_walk (W0 : World) : Calls Try.prog 3 #[] W0 fun e w' => e = .returned (.bool true) ∧ Below W0.heap.size W0 w' := by
  have hA := hide (awake_any W0)
  have N1 := hide (fun W => new_any 0 false W)
  have N2 := hide (fun W => new_any 3 true W)
  have N3 := hide (fun W => new_any 1073741824 false W)
  go_enter Try.func3, Try.ntmps3
  go_wp2_with (go_at_call 8; refine hA.out.mono ?_; rintro e w0 ⟨rfl, hB0⟩; have HB0 := hide hB0; clear hB0)
  refine (N1.out _).mono ?_
  rintro e w1 ⟨hb1, mb1, rfl, q1, b1, p1, p1'⟩
  rw [held0] at q1
  have A1 := hide (And.intro q1 (And.intro b1 (And.intro p1 p1')))
  clear q1 b1 p1 p1'
  go_wp2_with fail
  refine (N2.out _).mono ?_
  rintro e w2 ⟨hb2, mb2, rfl, q1, b1, p1, p1'⟩
  rw [held3] at q1
  have A2 := hide (And.intro q1 (And.intro b1 (And.intro p1 p1')))
  clear q1 b1 p1 p1'
  go_wp2_with fail
  refine (N3.out _).mono ?_
  rintro e w3 ⟨hb3, mb3, rfl, q1, b1, p1, p1'⟩
  rw [heldB] at q1
  have A3 := hide (And.intro q1 (And.intro b1 (And.intro p1 p1')))
  clear q1 b1 p1 p1'
  have S0 : Hid (S3 w0 w3 ⟨hb1, mb1, 1, false, .slice none 0 0, []⟩ ⟨hb2, mb2, 3, true, .slice none 0 0, []⟩ ⟨hb3, mb3, 1024, false, .slice none 0 0, []⟩ []) := hide (known_start A1.out A2.out A3.out)
  go_wp2_with fail
  -- h.Put(7, 1), h.Put(7, 2), h.Put(8, 1)
  refine (s3_put S0.out 7 1 (in64_of _ (by omega)) (in64_of _ (by omega)) (by simp) (by simp)).mono ?_
  rintro e w4 ⟨rfl, v1, l1, P1, S1⟩
  clear S0 A1 A2 A3
  have E1 := hide (perm1 P1.out)
  go_wp2_with fail
  refine (put_busy (show HQ _ hb1 mb1 1 false v1 l1 from S1.out.a1) 7 2 (in64_of _ (by omega)) ⟨(7, 1), by rw [E1.out]; simp, rfl⟩).mono ?_
  rintro e w' ⟨rfl, rfl⟩
  go_wp2_with fail
  refine (put_full (show HQ _ hb1 mb1 1 false v1 l1 from S1.out.a1) 8 1 (in64_of _ (by omega)) (by rw [E1.out]; simp) (by rw [E1.out]; simp)).mono ?_
  rintro e w' ⟨rfl, rfl⟩
  go_wp2_with fail
  -- h.Set(9, 1), h.Drop(9)
  refine (set_none (show HQ _ hb1 mb1 1 false v1 l1 from S1.out.a1) 9 1 (in64_of _ (by omega)) (by rw [E1.out]; simp)).mono ?_
  rintro e w' ⟨rfl, rfl⟩
  go_wp2_with fail
  refine (drop_none (show HQ _ hb1 mb1 1 false v1 l1 from S1.out.a1) 9 (in64_of _ (by omega)) (by rw [E1.out]; simp)).mono ?_
  rintro e w' ⟨rfl, rfl⟩
  go_wp2_with fail
  -- g.Put(5, 3), g.Put(2, 3), g.Put(9, 1)
  refine (s3_put S1.out.rot 5 3 (in64_of _ (by omega)) (in64_of _ (by omega)) (by simp) (by simp)).mono ?_
  rintro e w5 ⟨rfl, v2, l2, P2, S2⟩
  clear S1
  have E2 := hide (perm1 P2.out)
  go_wp2_with fail
  refine (s3_put S2.out 2 3 (in64_of _ (by omega)) (in64_of _ (by omega)) (by rw [E2.out]; simp) (by rw [E2.out]; simp)).mono ?_
  rintro e w6 ⟨rfl, v3, l3, P3, S3'⟩
  rw [E2.out] at P3
  clear S2 E2 P2
  go_wp2_with fail
  refine (s3_put S3'.out 9 1 (in64_of _ (by omega)) (in64_of _ (by omega)) (by intro y hy; have := P3.out.mem_iff.1 hy; simp at this; rcases this with rfl | rfl <;> decide) (by rw [P3.out.length_eq]; simp)).mono ?_
  rintro e w7 ⟨rfl, v4, l4, P4, S4⟩
  have P4' := hide (P4.out.trans (P3.out.cons _))
  clear S3' P4 P3
  go_wp2_with fail
  -- x, _ := g.Pop()
  refine (s3_pop S4.out (2, 3) (known_pop P4'.out).1 (known_pop P4'.out).2).mono ?_
  rintro e w8 ⟨rfl, v5, l5, P5, S5⟩
  have P5' := hide (known_left P4'.out P5.out)
  clear S4 P4' P5
  have S5' := hide (S5.out.lay (2, 3))
  clear S5
  go_wp2_with fail
  -- f := g.Set(9, 99)
  refine (s3_set S5'.out 9 99 (in64_of _ (by omega)) (in64_of _ (by omega)) ⟨(9, 1), P5'.out.mem_iff.2 (by simp), rfl⟩).mono ?_
  rintro e w9 ⟨rfl, v6, l6, P6, S6⟩
  have P6' : Hid (l6.Perm [(9, 99), (5, 3)]) := hide (P6.out.trans (P5'.out.map _))
  generalize hxb : w8.heap.size = xb at *
  clear S5' P5' P6 hxb
  go_wp2_with fail
  -- y, _ := g.Top()
  refine (s3_top S6.out (9, 99) (known_top P6'.out).1 (known_top P6'.out).2).mono ?_
  rintro e w10 ⟨rfl, S7⟩
  have S7' := hide (S7.out.lay (9, 99))
  clear S6 S7
  go_wp2_with fail
  -- g.Key(9), g.Key(2)
  refine (key_some (show HQ _ hb2 mb2 3 true v6 l6 from S7'.out.a1) (9, 99) (P6'.out.mem_iff.2 (by simp))).mono ?_
  rintro e w' ⟨rfl, rfl⟩
  go_wp2_with fail
  refine (key_none (show HQ _ hb2 mb2 3 true v6 l6 from S7'.out.a1) 2 (in64_of _ (by omega)) (by intro y hy; have := P6'.out.mem_iff.1 hy; simp at this; rcases this with rfl | rfl <;> decide)).mono ?_
  rintro e w' ⟨rfl, rfl⟩
  go_wp2_with fail
  -- i := g.Drop(9)
  refine (s3_drop S7'.out 9 (in64_of _ (by omega)) ⟨(9, 99), P6'.out.mem_iff.2 (by simp), rfl⟩).mono ?_
  rintro e w11 ⟨rfl, v7, x7, l7, P7, S8⟩
  have E7 := hide (known_drop P6'.out P7.out.1 P7.out.2)
  generalize hyb : w10.heap.size = yb at *
  clear S7' P6' P7 hyb
  go_wp2_with fail
  -- l := g.All()
  refine (s3_all S8.out (5, 3) E7.out).mono ?_
  rintro e w12 ⟨r, rfl, S9⟩
  clear S8
  go_wp2_with fail
  -- h.Pop(), h.Pop(), h.Top()
  refine (s3_pop S9.out.rot.rot (7, 1) (by rw [E1.out]; simp) (by rw [E1.out]; simp [le_refl])).mono ?_
  rintro e w13 ⟨rfl, v8, l8, P8, S10⟩
  have E8 : Hid (l8 = []) := hide (by have := P8.out.length_eq; rw [E1.out] at this; simp at this; exact this)
  clear S9 P8
  go_wp2_with fail
  refine (s3_pop0 S10.out E8.out).mono ?_
  rintro e w14 ⟨rfl, S11⟩
  have S11' := hide (S11.out.lay (0, 0))
  clear S10 S11
  go_wp2_with fail
  refine (s3_top0 S11'.out E8.out).mono ?_
  rintro e w15 ⟨rfl, S12⟩
  have S12' := hide (S12.out.lay (0, 0)).rot.rot
  clear S11' S12
  go_wp2_with fail
  generalize hnb : w14.heap.size = nb at *
  generalize htb : w15.heap.size = tb at *
  generalize hW16 : w15.alloc (Obj.cells #[Value.int IntKind.i64 0, Value.int IntKind.i64 0] 29) = W16 at *
  clear hnb htb hW16 hA N1 N2 N3 E1 P1 E8
  go_loopw [24] (fun s wr => ∃ k : Nat, k ≤ 1024 ∧ s = .int .i64 k ∧ ∃ v l, Hid (l.Perm (negs k)) ∧ Hid (S3 w0 wr ⟨hb3, mb3, 1024, false, v, l⟩ ⟨hb1, mb1, 1, false, v8, l8⟩ ⟨hb2, mb2, 3, true, v7, l7⟩ [(tb, 0, 0), (nb, 0, 0), (r, 5, 3), (yb, 9, 99), (xb, 2, 3)])) (fun s _ => 1024 - (intOf s).toNat)
  case atStart => exact ⟨0, by omega, rfl, _, _, hide (List.Perm.refl _), S12'⟩
  case round =>
    obtain ⟨k, hk, rfl, v, l, P, S⟩ := hrel
    by_cases hk4 : k < 1024
    · have hk1 : (k : Int) < 1024 := by omega
      have PU := hide (s3_put S.out (k : Int) (-(k : Int)) (in64_of _ (by omega)) (in64_of _ (by omega)) (by intro y hy; have := negs_ne (P.out.mem_iff.1 hy); omega) (by rw [P.out.length_eq, negs_len]; omega))
      go_wp2_with (go_at_call 10; refine PU.out.mono ?_; rintro e w2 ⟨rfl, v', l', P', S'⟩)
      go_roundw
      case rel => exact ⟨k + 1, by omega, by go_num, v', l', hide (by rw [negs_succ]; exact P'.out.trans ((P.out.cons _).trans (List.perm_append_comm (l₁ := [_])))), S'⟩
      case measure => simp [intOf]; omega
    · obtain rfl : k = 1024 := by omega
      have hlen : l.length = 1024 := by rw [P.out.length_eq, negs_len]
      have PF := hide (put_full (show HQ _ hb3 mb3 1024 false v l from S.out.a1) 5000 0 (in64_of _ (by omega)) (by intro y hy; have := negs_ne (P.out.mem_iff.1 hy); omega) (by rw [hlen]; omega))
      have LN := hide (len_any (show HQ _ hb3 mb3 1024 false v l from S.out.a1))
      rw [hlen] at LN
      have bx := (S.out.box (xb, 2, 3) (by simp)).1
      have by' := (S.out.box (yb, 9, 99) (by simp)).1
      have br := (S.out.box (r, 5, 3) (by simp)).1
      have x0 : wr.cell? ⟨xb, 0, none⟩ = some (.int .i64 2) := by rw [cell_of_row wr _ _ _ _ _ bx]; rfl
      have x1 : wr.cell? ⟨xb, 1, none⟩ = some (.int .i64 3) := by rw [cell_of_row wr _ _ _ _ _ bx]; rfl
      have y0 : wr.cell? ⟨yb, 0, none⟩ = some (.int .i64 9) := by rw [cell_of_row wr _ _ _ _ _ by']; rfl
      have y1 : wr.cell? ⟨yb, 1, none⟩ = some (.int .i64 99) := by rw [cell_of_row wr _ _ _ _ _ by']; rfl
      have r0 : wr.cell? ⟨r, 0, none⟩ = some (.int .i64 5) := by rw [cell_of_row wr _ _ _ _ _ br]; rfl
      have r1 : wr.cell? ⟨r, 1, none⟩ = some (.int .i64 3) := by rw [cell_of_row wr _ _ _ _ _ br]; rfl
      have SB := hide (HB0.out.trans (S.out.below.mono HB0.out.size))
      clear bx by' br S P
      go_wp2_with (first
        | (go_at_call 10; refine PF.out.mono ?_; rintro e w2 ⟨rfl, rfl⟩)
        | (go_at_call 17; refine LN.out.mono ?_; rintro e w2 ⟨rfl, rfl⟩))
      go_ret
      exact ⟨rfl, SB.out⟩
end Go.Proofs.Ytocgeplpehioeaa.Con
