/- Beats; what the laws ask of the landed code. -/
import Derived.Test.YtacbiiiadalocaaEdC8
import Derived.Test.YtacbiiiadalocaaEdAw
namespace Go.Proofs.Ytacbiiiadalocaa.Ed
open Go.RowKit Go.Shelf Go.Lib Go.Proofs.Ytacbiiiadalocaa.Con
set_option linter.unusedVariables false
set_option linter.unusedSimpArgs false
attribute [local go_sem ↓] Go.wp_at_zero Go.wp_at_succ
theorem beats_ret {a b : Int} {p q : Bool} (h : b = a) (h' : q = p) : Ending.returned (.tuple #[.int .i64 a, .bool p]) = .returned (.tuple #[.int .i64 b, .bool q]) := by rw [h, h']
set_option maxRecDepth 100000 in
set_option maxHeartbeats 8000000 in
theorem beatsC : BeatsC := by
  intro m L v x W h hl
  obtain ⟨x0, x1, x2⟩ := x
  obtain ⟨p, cap, rfl, hn, hm⟩ := h.form
  obtain ⟨A, hA⟩ : ∃ A : Obj, Obj.cells #[.int .i64 x0, .int .i64 x1, .bool x2] 24 = A := ⟨_, rfl⟩
  have N1 := Nx.alloc W A
  have hs1 : (W.alloc A).heap.size = W.heap.size + 1 := by simp
  have hs2 : ((W.alloc A).alloc A).heap.size = W.heap.size + 1 + 1 := by simp
  have N2 := Nx.alloc (W.alloc A) A
  have R2 := rd_one (w := (W.alloc A).alloc A) (size := 3) (cs := #[.int .i64 x0, .int .i64 x1, .bool x2]) (e := 24) (by rw [hA]; exact heap_alloc_new (W.alloc A) A) rfl
  rw [hs1] at R2
  have N3 := Nx.alloc ((W.alloc A).alloc A) (.cells #[.slice p L.length cap, .slice (some ⟨W.heap.size + 1, 0, none⟩) 1 1] 25)
  have R3 := heap_alloc_new ((W.alloc A).alloc A) (.cells #[.slice p L.length cap, .slice (some ⟨W.heap.size + 1, 0, none⟩) 1 1] 25)
  rw [hs2] at R3
  have q0 := (cell_of_row _ _ 0 _ _ _ R3).trans rfl
  have q1 := (cell_of_row _ _ 1 _ _ _ R3).trans rfl
  have N4 := Nx.trans N1 (Nx.trans N2 N3)
  have HCC := hide (concat_any (L := L) (M := [(x0, x1, x2)]) (h.below N4) (Sl.below (L := [(x0, x1, x2)]) R2 N3) q0 q1 (by simp) (by simp; omega))
  subst hA
  have HN4 := hide N4
  have HSP := hide (fun w v' (hv : Sl w v' (L ++ [(x0, x1, x2)])) => splitC w v' _ hv (by simp; omega) m)
  have HHA := hide (fun w v' R (hv : Sl w v' R) (hl : R.length ≤ 200) => has_any (w := w) hv hl (x0, x1, x2))
  clear N1 N2 N3 N4 R2 R3 q0 q1 hs1 hs2 h
  go_enter Try.func12, Try.ntmps12
  go_wp2_with fail
  refine HCC.out.mono ?_
  rintro e w4 ⟨v4, rfl, h4, n4⟩
  have HN5 := hide (Nx.trans HN4.out n4)
  have H4 := hide (Sl.own h4.out)
  obtain ⟨p4, c4, rfl⟩ := ownF h4.out
  have HSW := hide (HSP.out w4 _ H4.out)
  have HX := hide (fun i => n4.cell (p := ⟨W.heap.size, i, none⟩) (by simp; omega))
  clear n4 h4 HCC HN4 HSP
  have c0 := HX.out 0
  have c1 := HX.out 1
  have c2 := HX.out 2
  simp [go_sem] at c0 c1 c2
  have hlen : (L ++ [(x0, x1, x2)]).length = L.length + 1 := by simp
  rw [hlen] at HSW
  have hg := World.block_lt_of_cell? w4 _ c0
  clear HX
  go_wp2_with fail
  refine HSW.out.mono ?_
  rintro e w5 ⟨v1, v2, R, S, rfl, h1, h2, hs, n5⟩
  have d0 := (n5.cell (p := ⟨W.heap.size, 0, none⟩) hg).trans c0
  have d1 := (n5.cell (p := ⟨W.heap.size, 1, none⟩) hg).trans c1
  have d2 := (n5.cell (p := ⟨W.heap.size, 2, none⟩) hg).trans c2
  have HN6 := hide (Nx.trans HN5.out n5)
  obtain ⟨p1, k1, rfl, hn1, hm1⟩ := h1.out.form
  obtain ⟨p2, k2, rfl, hn2, hm2⟩ := h2.out.form
  have hl1 : R.length ≤ 64 := (sp_len hs.out).1
  have hl2 : S.length ≤ 64 := (sp_len hs.out).2.1
  have HHW := hide (HHA.out w5 _ R h1.out (by omega))
  rw [← sp_beats hs.out] at HHW
  have HS := hs
  have H2 := h2
  clear c0 c1 c2 hg HSW HN5 H4 HHA hs n5 h2
  cases hB : beatsB m L (x0, x1, x2) with
  | false =>
    have E := hide (sp_no hB)
    rw [hB] at HHW
    have HBB := hide hB
    clear hB HS
    go_wp2_with (go_at_call 27; refine HHW.out.mono ?_; rintro e w7 ⟨rfl, n7⟩; have HN7 := hide (Nx.trans HN6.out n7); clear n7)
    go_ret2
    exact ⟨beats_ret E.out HBB.out, HN7.out⟩
  | true =>
    rw [hB] at HHW
    have HBB := hide hB
    rcases Nat.eq_zero_or_pos S.length with h0 | h0
    · have E := hide (sp_room HS.out hB h0)
      have h0' : (S.length : Int) = 0 := by omega
      clear hB HS
      go_wp2_with (go_at_call 27; refine HHW.out.mono ?_; rintro e w7 ⟨rfl, n7⟩; have HN7 := hide (Nx.trans HN6.out n7); clear n7)
      go_ret2
      exact ⟨beats_ret E.out HBB.out, HN7.out⟩
    · have E := hide (sp_full HS.out hB h0)
      have h0' : ((S.length : Int) == 0) = false := by rw [beq_eq_false_iff_ne]; omega
      have h0'' : (0 : Int) < (S.length : Int) := by omega
      have HR := hide (fun w7 (n7 : Nx w5 w7) => Sl.at (H2.out.below n7) h0)
      clear hB HS
      go_wp2_with (go_at_call 27; refine HHW.out.mono ?_; rintro e w7 ⟨rfl, n7⟩; have HN7 := hide (Nx.trans HN6.out n7); obtain ⟨b, o, hp, hb, y0, _, _⟩ := HR.out w7 n7; subst hp; rw [Nat.zero_mul, Nat.add_zero] at y0; clear n7 HR)
      go_ret2
      exact ⟨beats_ret E.out HBB.out, HN7.out⟩
theorem awakeC : AwakeC := awake_of (hide goodC) (hide lessC) (hide pickC)
end Go.Proofs.Ytacbiiiadalocaa.Ed
