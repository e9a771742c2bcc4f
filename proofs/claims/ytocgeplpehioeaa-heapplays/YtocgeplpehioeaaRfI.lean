/- The reference's heap: one put into its place. -/
import Derived.Test.YtocgeplpehioeaaRfA
import Derived.Deep.CutRange
import Derived.Test.YtocgeplpehioeaaOrdT
namespace Go.Proofs.Ytocgeplpehioeaa.Con
open Go.RowKit Go.Proofs.Ytocgeplpehioeaa.Hq
set_option linter.unusedVariables false
set_option linter.unusedSimpArgs false
attribute [local go_sem ↓] Go.wp_at_zero Go.wp_at_succ
theorem info45 : (Try.prog.info? 45).map (fun i => (i.zero, i.size, i.bytes)) = some (some (.agg #[.int .i64 0, .int .i64 0]), 2, 16) := by kernel_rfl
/-- A row of the reference's, made anew, laid into it. -/
theorem rf_store {W w3 : World} {rb : Nat} {most : Int} {g : Bool} {v : Value} {L L' : List It} {q : Option Addr} {n d : Nat} (h : Rf W rb most g v L) (hB : Below W.heap.size W w3) (ho : w3.ownsRow W.heap.size 45 2 (.slice q n d) n (flat L')) (hn : L'.length = n) (hl : n ≤ 1024) :
    Rf (w3.setCell ⟨rb, 2, none⟩ (.slice q n d)) rb most g (.slice q n d) L' ∧ RT W (w3.setCell ⟨rb, 2, none⟩ (.slice q n d)) rb (.slice q n d) := by
  have hlt := h.lt
  have hs3 : w3.heap[rb]? = _ := (hB.block rb hlt).trans h.str
  have hne : ∀ k, (Value.slice q n d).ownBlock = some k → k ≠ rb := fun k e => by have := own_past ho k e; omega
  have ho' : (w3.setCell ⟨rb, 2, none⟩ (.slice q n d)).ownsRow W.heap.size 45 2 (.slice q n d) n (flat L') := own_kept ho fun k e => heap_setCell_other w3 _ k _ (hne k e)
  refine ⟨⟨?_, ?_, ?_, by omega⟩, ⟨hB.os, hB.tape, hB.output, by simpa using hB.size, ?_, own_past ho⟩⟩
  · rw [heap_setCell_same w3 rb 2 _ _ _ hs3]; rfl
  · rw [hn]; exact RdC.own ho'
  · intro k e
    exact ⟨own_lt ho' k e, hne k e⟩
  · intro k hk hk'
    exact (heap_setCell_other w3 _ k _ hk').trans (hB.block k hk)
theorem one_flat45 (l : List It) : ∀ u ∈ flat l, u.oneCell' = true := one_flat l
def InPost (W : World) (rb : Nat) (most : Int) (g : Bool) (L : List It) (x : It) (e : Ending) (w' : World) : Prop :=
  e = .returned (.tuple #[]) ∧ ∃ v' L', Rf w' rb most g v' L' ∧ RT W w' rb v' ∧ L'.Perm (x :: L) ∧ (Asc g L → Asc g L')
set_option maxRecDepth 100000 in
set_option maxHeartbeats 4000000 in
theorem rin_any {W : World} {rb : Nat} {most : Int} {g : Bool} {v : Value} {L : List It} (h : Rf W rb most g v L) (x : It) (hl : L.length < 1024) :
    Calls Try.prog 29 #[.pointer (some ⟨rb, 0, none⟩), .agg #[.int .i64 x.1, .int .i64 x.2]] W fun e w' => InPost W rb most g L x e w' := by
  obtain ⟨x0, x1⟩ := x
  obtain ⟨p, cap, rfl, hn, hm⟩ := h.form
  have hlt := h.lt
  have BW := hide ((Below.refl W.heap.size W).alloc (Nat.le_refl _) (.cells #[.int .i64 x0, .int .i64 x1] 45))
  have B1 : Below W.heap.size W (W.alloc (.cells #[.int .i64 x0, .int .i64 x1] 45)) := (Below.refl _ _).alloc (Nat.le_refl _) _
  have H1 := hide (h.below B1)
  have XB := hide (heap_alloc_new W (.cells #[.int .i64 x0, .int .i64 x1] 45))
  have RA := hide (fun w' hg => rahead_any (W := w') rb g · (x0, x1) hg)
  clear B1 h
  obtain ⟨xb, hxb⟩ : ∃ xb, W.heap.size = xb := ⟨_, rfl⟩
  go_enter Try.func29, Try.ntmps29
  go_wp2
  generalize hW1 : W.alloc (.cells #[.int .i64 x0, .int .i64 x1] 45) = W1 at *
  rw [hxb] at XB
  have hz1 : xb < W1.heap.size := (Array.getElem?_eq_some_iff.1 XB.out).1
  have HW1 := hide hW1
  have HXB := hide hxb
  clear hW1 hxb
  go_loopw [4] (fun s wr => ∃ k : Nat, k ≤ L.length ∧ s = .int .i64 k ∧ Hid (∀ j, j < k → lt g (at' L j) (x0, x1) = true) ∧ Hid (Below W1.heap.size W1 wr)) (fun s _ => L.length - (intOf s).toNat)
  case atStart => exact ⟨0, by omega, rfl, hide (fun j hj => by omega), hide (Below.refl _ _)⟩
  case round =>
    obtain ⟨k, hk, rfl, HR, RB⟩ := hrel
    have Hr := hide (H1.out.below RB.out)
    obtain ⟨_, gc, c2⟩ := Hr.out.cells
    have XR := hide (row_kept RB.out XB.out)
    have xc0 : wr.cell? ⟨xb, 0, none⟩ = some (.int .i64 x0) := by rw [cell_of_row wr _ _ _ _ _ XR.out]; rfl
    have xc1 : wr.cell? ⟨xb, 1, none⟩ = some (.int .i64 x1) := by rw [cell_of_row wr _ _ _ _ _ XR.out]; rfl
    have xl : xb < wr.heap.size := World.block_lt_of_cell? wr _ xc0
    have rl : rb < wr.heap.size := World.block_lt_of_cell? wr _ gc
    go_upto_region 2 with fail
    go_cut [23] from 5 to 25 (fun s wx => ∃ t : Bool, s = .bool t ∧ Hid (t = (decide (k < L.length) && lt g (at' L k) (x0, x1))) ∧ Hid (Below W1.heap.size W1 wx))
    case first => as_aux_lemma =>
      by_cases hkn : k < L.length
      · obtain ⟨b, o, rfl, hb, _, y0, y1⟩ := Hr.out.item k hkn
        have hk1 : (k : Int) < (L.length : Int) := by omega
        have k0 : (0 : Int) ≤ (k : Int) := by omega
        have E1 : Hid ((decide (k < L.length) && lt g (at' L k) (x0, x1)) = lt g (at' L k) (x0, x1)) := hide (by rw [decide_eq_true hkn]; rfl)
        have RA' := hide (fun w' hg => rahead_any (W := w') rb g (at' L k) (x0, x1) hg)
        generalize lt g (at' L k) (x0, x1) = t at *
        generalize (at' L k).1 = z0 at *
        generalize (at' L k).2 = z1 at *
        go_wp2
        go_region_held3 (fun w' => w'.cell? ⟨rb, 1, none⟩ = some (.bool g) ∧ w'.cell? ⟨rb, 2, none⟩ = some (.slice (some ⟨b, o, none⟩) L.length cap) ∧ w'.cell? ⟨b, o + k * 2, none⟩ = some (.int .i64 z0) ∧ w'.cell? ⟨b, o + k * 2 + 1, none⟩ = some (.int .i64 z1) ∧ w'.cell? ⟨xb, 0, none⟩ = some (.int .i64 x0) ∧ w'.cell? ⟨xb, 1, none⟩ = some (.int .i64 x1))
          (first | go_keep | (go_split_ands; refine ⟨?_, ?_, ?_, ?_, ?_, ?_⟩ <;> (rw [hcl _ _ (by first | exact rl | exact hb | exact xl)]; assumption)))
          ((go_at_call 38; refine (RA'.out _ ?_).mono ?_; (simp [*]); rintro e w' ⟨rfl, hB⟩; obtain ⟨hcl, hfr⟩ := bcell hB))
        go_wp2
        go_meet
        case rel => exact ⟨t, rfl, hide E1.out.symm, hide (RB.out.trans (Below.mono (⟨hB.os, hB.tape, hB.output, hB.size, hB.block⟩ : Below wr.heap.size wr w') RB.out.size))⟩
      · have hd : decide ((k : Int) < (L.length : Int)) = false := decide_eq_false (by omega)
        have E1 : Hid ((decide (k < L.length) && lt g (at' L k) (x0, x1)) = false) := hide (by rw [decide_eq_false hkn]; rfl)
        go_wp2
        go_quiet (fail)
        go_wp2
        go_meet
        case rel => exact ⟨false, rfl, hide E1.out.symm, hide (below_drewN RB.out _)⟩
    case rest => as_aux_lemma =>
      obtain ⟨t, rfl, TE, RB2⟩ := hcut
      clear gc c2 xc0 xc1 xl rl XR Hr
      cases t
      · have KE : Hid (k = L.length ∨ lt g (at' L k) (x0, x1) = false) := hide (by
          have := TE.out
          by_cases hkn : k < L.length
          · rw [decide_eq_true hkn] at this; exact .inr this.symm
          · exact .inl (by omega))
        have Hr := hide (H1.out.below RB2.out)
        obtain ⟨_, _, c2⟩ := Hr.out.cells
        have XR := hide (row_kept RB2.out XB.out)
        have xc0 : wc.cell? ⟨xb, 0, none⟩ = some (.int .i64 x0) := by rw [cell_of_row wc _ _ _ _ _ XR.out]; rfl
        have xc1 : wc.cell? ⟨xb, 1, none⟩ = some (.int .i64 x1) := by rw [cell_of_row wc _ _ _ _ _ XR.out]; rfl
        have xl : xb < wc.heap.size := World.block_lt_of_cell? wc _ xc0
        have rl : rb < wc.heap.size := World.block_lt_of_cell? wc _ c2
        have f2 := Hr.out.frozen 2
        obtain ⟨i0, hi, hz⟩ : ∃ i, Try.prog.info? 45 = some i ∧ (i.zero, i.size, i.bytes) = (some (.agg #[.int .i64 0, .int .i64 0]), 2, 16) := by
          have := info45
          rw [Option.map_eq_some_iff] at this
          exact this
        simp only [Prod.mk.injEq] at hz
        obtain ⟨hz0, hz1', hz2⟩ := hz
        obtain ⟨p1, c1, hs1, r1⟩ := Hr.out.row.upto 42 45 i0 Try.underlying42 hi hz1' k hk
        obtain ⟨p2, c2', hs2, r2⟩ := Hr.out.row.from 42 45 i0 Try.underlying42 hi hz1' k hk
        have R1 := hide r1
        have R2 := hide r2
        have HK := hide hk
        clear r1 r2 hk
        obtain ⟨m, hm'⟩ : ∃ m, L.length - k = m := ⟨_, rfl⟩
        rw [hm'] at hs2 R2
        have HM := hide hm'
        have Hn := hide hn
        have Hl := hide hl
        clear hm' hn hl hm
        go_wp2
        obtain ⟨TK, hTK⟩ : ∃ TK, List.take (k * 2) (flat L) = TK := ⟨_, rfl⟩
        obtain ⟨DK, hDK⟩ : ∃ DK, List.drop (k * 2) (flat L) = DK := ⟨_, rfl⟩
        rw [hTK] at R1
        rw [hDK] at R2
        have ON1 : Hid (∀ u ∈ TK, u.oneCell' = true) := hide (by rw [← hTK]; exact fun u hu => one_flat L u (List.mem_of_mem_take hu))
        have ON2 : Hid (∀ u ∈ ([.int .i64 x0, .int .i64 x1] : List Value), u.oneCell' = true) := hide (by intro u hu; simp at hu; rcases hu with rfl | rfl <;> rfl)
        have ON3 : Hid (∀ u ∈ DK, u.oneCell' = true) := hide (by rw [← hDK]; exact fun u hu => one_flat L u (List.mem_of_mem_drop hu))
        have SZ1 : Hid (k ≤ maxLen ∧ k * 16 ≤ 140737488355328) := hide (by have := HK.out; have := Hl.out; unfold maxLen; omega)
        have SZ2 : Hid (k + 1 ≤ maxLen ∧ (k + 1) * 16 ≤ 140737488355328) := hide (by have := HK.out; have := Hl.out; unfold maxLen; omega)
        have SZ3 : Hid (L.length + 1 ≤ maxLen ∧ (L.length + 1) * 16 ≤ 140737488355328) := hide (by have := HK.out; have := Hl.out; unfold maxLen; omega)
        obtain ⟨TK2, hTK2⟩ : ∃ TK2, TK ++ [.int .i64 x0, .int .i64 x1] = TK2 := ⟨_, rfl⟩
        obtain ⟨TK3, hTK3⟩ : ∃ TK3, TK2 ++ DK = TK3 := ⟨_, rfl⟩
        have TE2 := hide hTK2
        have TE3 := hide hTK3
        have KM : Hid (k + 1 + m = L.length + 1) := hide (by have := HM.out; have := HK.out; omega)
        have FL : Hid (TK3 = flat (L.take k ++ (x0, x1) :: L.drop k)) := hide (by
          rw [← hTK3, ← hTK2, ← hTK, ← hDK, flat_take L k HK.out, flat_drop L k HK.out, flat_app, show (x0, x1) :: L.drop k = [(x0, x1)] ++ L.drop k from rfl, flat_app, flat_one, List.append_assoc])
        clear hTK hDK hTK2 hTK3
        have KS : Hid (∀ w' : World, Below wc.heap.size wc w' → w'.cell? ⟨rb, 2, none⟩ = some (.slice p L.length cap) ∧ w'.frozen? ⟨rb, 2, none⟩ = false ∧ w'.cell? ⟨xb, 0, none⟩ = some (.int .i64 x0) ∧ w'.cell? ⟨xb, 1, none⟩ = some (.int .i64 x1)) := hide (fun w' hB => ⟨(hB.cell (p := ⟨rb, 2, none⟩) rl).trans c2, (hB.frozen (p := ⟨rb, 2, none⟩) rl).trans f2, (hB.cell (p := ⟨xb, 0, none⟩) xl).trans xc0, (hB.cell (p := ⟨xb, 1, none⟩) xl).trans xc1⟩)
        have FIN : Hid (∀ q d w3, Below wc.heap.size wc w3 → w3.ownsRow wc.heap.size 45 2 (.slice q (L.length + 1) d) (L.length + 1) TK3 → InPost W rb most g L (x0, x1) (.returned (.tuple #[])) (w3.setCell ⟨rb, 2, none⟩ (.slice q (L.length + 1) d))) := hide (fun q d w3 hB ho => by
          rw [FL.out] at ho
          obtain ⟨f1, f2⟩ := rf_store Hr.out hB ho (by have := HK.out; simp; omega) (by have := Hl.out; omega)
          refine ⟨rfl, _, _, f1, f2.after ?_, perm_put _ _ _, asc_put HK.out HR.out KE.out⟩
          have := BW.out
          exact this.trans (RB2.out.mono this.size))
        refine wp_region_noPanic ?_
        refine OrdT.region_T (S := fun w' => w'.cell? ⟨rb, 2, none⟩ = some (.slice p L.length cap) ∧ w'.frozen? ⟨rb, 2, none⟩ = false ∧ w'.cell? ⟨xb, 0, none⟩ = some (.int .i64 x0) ∧ w'.cell? ⟨xb, 1, none⟩ = some (.int .i64 x1)) 21 (by kernel_rfl) ?_ (fun hHeld => ?_)
        · exact KS.out _ (bel_drew (Below.refl _ _))
        refine OrdT.AnyT.take (i := 0) (v := ?_) (some 26) (by rfl) (by rfl) (by kernel_rfl) (by kernel_rfl) (by kernel_rfl) (by kernel_rfl) (fun _ _ _ h => h) (Or.inl ⟨by rfl, ?_⟩) (by assumption) ?_
        rotate_left
        · intro w hSw; (try dsimp only at hSw); first | (go_simp; done) | (go_simp; with_reducible rfl)
        (try simp only [Act.put, List.setIfInBounds_toArray, List.set_cons_zero, List.set_cons_succ])
        refine OrdT.AnyT.take (i := 2) (v := ?_) (some 28) (by rfl) (by rfl) (by kernel_rfl) (by kernel_rfl) (by kernel_rfl) (by kernel_rfl) (fun _ _ _ h => h) (Or.inl ⟨by rfl, ?_⟩) (by assumption) ?_
        rotate_left
        · intro w hSw; (try dsimp only at hSw); first | (go_simp; done) | (go_simp; with_reducible rfl)
        (try simp only [Act.put, List.setIfInBounds_toArray, List.set_cons_zero, List.set_cons_succ])
        refine OrdT.AnyT.take (i := 3) (v := ?_) (some 29) (by rfl) (by rfl) (by kernel_rfl) (by kernel_rfl) (by kernel_rfl) (by kernel_rfl) (fun _ _ _ h => h) (Or.inl ⟨by rfl, ?_⟩) (by assumption) ?_
        rotate_left
        · intro w hSw; (try dsimp only at hSw); first | (go_simp; done) | (go_simp; with_reducible rfl)
        (try simp only [Act.put, List.setIfInBounds_toArray, List.set_cons_zero, List.set_cons_succ])
        refine OrdT.AnyT.take (i := 4) (v := ?_) (some 30) (by rfl) (by rfl) (by kernel_rfl) (by kernel_rfl) (by kernel_rfl) (by kernel_rfl) (fun _ _ _ h => h) (Or.inl ⟨by rfl, ?_⟩) (by assumption) ?_
        rotate_left
        · intro w hSw; (try dsimp only at hSw); first | (go_simp; done) | (go_simp; with_reducible rfl)
        (try simp only [Act.put, List.setIfInBounds_toArray, List.set_cons_zero, List.set_cons_succ])
        refine OrdT.AnyT.take (i := 5) (v := ?_) (some 31) (by rfl) (by rfl) (by kernel_rfl) (by kernel_rfl) (by kernel_rfl) (by kernel_rfl) (fun _ _ _ h => h) (Or.inl ⟨by rfl, ?_⟩) (by assumption) ?_
        rotate_left
        · intro w hSw; (try dsimp only at hSw); first | (go_simp; done) | (go_simp; with_reducible rfl)
        (try simp only [Act.put, List.setIfInBounds_toArray, List.set_cons_zero, List.set_cons_succ])
        refine OrdT.AnyT.take (i := 6) (v := ?_) (some 32) (by rfl) (by rfl) (by kernel_rfl) (by kernel_rfl) (by kernel_rfl) (by kernel_rfl) (fun _ _ _ h => h) (Or.inl ⟨by rfl, ?_⟩) (by assumption) ?_
        rotate_left
        · intro w hSw; (try dsimp only at hSw); first | (go_simp; done) | (go_simp; with_reducible rfl)
        (try simp only [Act.put, List.setIfInBounds_toArray, List.set_cons_zero, List.set_cons_succ])
        refine OrdT.AnyT.take (i := 7) (v := ?_) (some 33) (by rfl) (by rfl) (by kernel_rfl) (by kernel_rfl) (by kernel_rfl) (by kernel_rfl) (fun _ _ _ h => h) (Or.inl ⟨by rfl, ?_⟩) (by assumption) ?_
        rotate_left
        · intro w hSw; (try dsimp only at hSw); first | (go_simp; done) | (go_simp; with_reducible rfl)
        (try simp only [Act.put, List.setIfInBounds_toArray, List.set_cons_zero, List.set_cons_succ])
        refine OrdT.AnyT.take (i := 9) (v := ?_) (some 35) (by rfl) (by rfl) (by kernel_rfl) (by kernel_rfl) (by kernel_rfl) (by kernel_rfl) (fun _ _ _ h => h) (Or.inl ⟨by rfl, ?_⟩) (by assumption) ?_
        rotate_left
        · intro w hSw; (try dsimp only at hSw); first | (go_simp; done) | (go_simp; with_reducible rfl)
        (try simp only [Act.put, List.setIfInBounds_toArray, List.set_cons_zero, List.set_cons_succ])
        refine OrdT.AnyT.take (i := 12) (v := ?_) (some 38) (by rfl) (by rfl) (by kernel_rfl) (by kernel_rfl) (by kernel_rfl) (by kernel_rfl) (fun _ _ _ h => h) (Or.inl ⟨by rfl, ?_⟩) (by assumption) ?_
        rotate_left
        · intro w hSw; (try dsimp only at hSw); first | (go_simp; done) | (go_simp; with_reducible rfl)
        (try simp only [Act.put, List.setIfInBounds_toArray, List.set_cons_zero, List.set_cons_succ])
        refine OrdT.AnyT.take (i := 13) (v := ?_) (some 39) (by rfl) (by rfl) (by kernel_rfl) (by kernel_rfl) (by kernel_rfl) (by kernel_rfl) (fun _ _ _ h => h) (Or.inl ⟨by rfl, ?_⟩) (by assumption) ?_
        rotate_left
        · intro w hSw; (try dsimp only at hSw); first | (go_simp; done) | (go_simp; with_reducible rfl)
        (try simp only [Act.put, List.setIfInBounds_toArray, List.set_cons_zero, List.set_cons_succ])
        refine OrdT.AnyT.take (i := 14) (v := ?_) (some 40) (by rfl) (by rfl) (by kernel_rfl) (by kernel_rfl) (by kernel_rfl) (by kernel_rfl) (fun _ _ _ h => h) (Or.inl ⟨by rfl, ?_⟩) (by assumption) ?_
        rotate_left
        · intro w hSw; (try dsimp only at hSw); first | (go_simp; done) | (go_simp; with_reducible rfl)
        (try simp only [Act.put, List.setIfInBounds_toArray, List.set_cons_zero, List.set_cons_succ])
        refine OrdT.AnyT.take (i := 15) (v := ?_) (some 41) (by rfl) (by rfl) (by kernel_rfl) (by kernel_rfl) (by kernel_rfl) (by kernel_rfl) (fun _ _ _ h => h) (Or.inl ⟨by rfl, ?_⟩) (by assumption) ?_
        rotate_left
        · intro w hSw; (try dsimp only at hSw); first | (go_simp; done) | (go_simp; with_reducible rfl)
        (try simp only [Act.put, List.setIfInBounds_toArray, List.set_cons_zero, List.set_cons_succ])
        refine OrdT.AnyT.take (i := 16) (v := ?_) (some 42) (by rfl) (by rfl) (by kernel_rfl) (by kernel_rfl) (by kernel_rfl) (by kernel_rfl) (fun _ _ _ h => h) (Or.inl ⟨by rfl, ?_⟩) (by assumption) ?_
        rotate_left
        · intro w hSw; (try dsimp only at hSw); first | (go_simp; done) | (go_simp; with_reducible rfl)
        (try simp only [Act.put, List.setIfInBounds_toArray, List.set_cons_zero, List.set_cons_succ])
        refine OrdT.AnyT.take (i := 17) (v := ?_) (some 43) (by rfl) (by rfl) (by kernel_rfl) (by kernel_rfl) (by kernel_rfl) (by kernel_rfl) (fun _ _ _ h => h) (Or.inl ⟨by rfl, ?_⟩) (by assumption) ?_
        rotate_left
        · intro w hSw; (try dsimp only at hSw); first | (go_simp; done) | (go_simp; with_reducible rfl)
        (try simp only [Act.put, List.setIfInBounds_toArray, List.set_cons_zero, List.set_cons_succ])
        clear hHeld
        refine OrdT.AnyT.two (i := 1) (j := 10) (by kernel_rfl) (by rfl) (by rfl) (fun K hK => ?_) (fun K hK => ?_)
        · go_simp
          refine hK.out _ _ (fun _ => KS.out _ (by repeat (first | exact Below.refl _ _ | exact HB3 | exact HB2 | exact HB1 | refine bel_drew ?_ | refine bel_alloc ?_ (Nat.le_refl _) _))) ?_
          clear hK K
          (try simp only [Act.put, List.setIfInBounds_toArray, List.set_cons_zero, List.set_cons_succ])
          refine OrdT.AnyT.two (i := 8) (j := 10) (by kernel_rfl) (by rfl) (by rfl) (fun K hK => ?_) (fun K hK => ?_)
          · refine step_append_rd (some 34) (by rfl) (by rfl) _ _ 42 (by rfl) wc.heap.size 45 i0 (.agg #[.int .i64 0, .int .i64 0]) 2 16 Try.underlying42 hi hz0 hz1' hz2 rfl (by decide) (.slice (some ⟨wc.heap.size, 0, none⟩) 0 0) 0 [] (by rfl) (by exact own_empty (by first | exact heap_alloc_at _ _ _ (by simp) | exact (Below.heap_alloc _ _ _ (by simp)).trans (heap_alloc_at _ _ _ (by simp))) (by first | exact Nat.le_refl _ | simp)) _ (.slice p1 k c1) k TK (by rfl) (by exact (R1.out.below (by repeat (first | exact Below.refl _ _ | exact HB3 | exact HB2 | exact HB1 | refine bel_drew ?_ | refine bel_alloc ?_ (Nat.le_refl _) _)))) (by exact ON1.out) k (by exact Nat.zero_add k) TK (by exact List.nil_append TK) (by exact SZ1.out.1) (by exact SZ1.out.2) (by exact bel_le (W := wc) (Nat.le_refl _) (by repeat (first | exact Below.refl _ _ | exact HB3 | exact HB2 | exact HB1 | refine bel_drew ?_ | refine bel_alloc ?_ (Nat.le_refl _) _))) ?_
            intro q1 d1 w1 ho1 hg1 ha1 hp1
            have HB1 : Below wc.heap.size wc w1 := below_grown (by repeat (first | exact Below.refl _ _ | exact HB3 | exact HB2 | exact HB1 | refine bel_drew ?_ | refine bel_alloc ?_ (Nat.le_refl _) _)) (by exact bel_le (W := wc) (Nat.le_refl _) (by repeat (first | exact Below.refl _ _ | exact HB3 | exact HB2 | exact HB1 | refine bel_drew ?_ | refine bel_alloc ?_ (Nat.le_refl _) _))) hg1 hp1
            clear ha1 hp1
            refine hK.out _ _ (fun _ => KS.out _ HB1) ?_
            clear hK K
            (try simp only [Act.put, List.setIfInBounds_toArray, List.set_cons_zero, List.set_cons_succ])
            refine OrdT.AnyT.one (i := 10) (by kernel_rfl) (by rfl) (fun K hK => ?_)
            go_simp
            refine hK.out _ _ (fun _ => KS.out _ (by repeat (first | exact Below.refl _ _ | exact HB3 | exact HB2 | exact HB1 | refine bel_drew ?_ | refine bel_alloc ?_ (Nat.le_refl _) _))) ?_
            clear hK K
            (try simp only [Act.put, List.setIfInBounds_toArray, List.set_cons_zero, List.set_cons_succ])
            refine OrdT.AnyT.one (i := 11) (by kernel_rfl) (by rfl) (fun K hK => ?_)
            refine step_append_rd (some 37) (by rfl) (by rfl) _ _ 42 (by rfl) wc.heap.size 45 i0 (.agg #[.int .i64 0, .int .i64 0]) 2 16 Try.underlying42 hi hz0 hz1' hz2 rfl (by decide) (.slice q1 k d1) k TK (by rfl) (by first | exact ho1 | exact own_kept ho1 (fun k e => Below.heap_alloc _ _ _ (own_lt ho1 k e))) _ _ 1 [.int .i64 x0, .int .i64 x1] (by rfl) (by exact rd_one (cs := #[.int .i64 x0, .int .i64 x1]) (by exact heap_alloc_at _ _ _ rfl) rfl) (by exact ON2.out) (k + 1) (by exact rfl) TK2 (by exact TE2.out) (by exact SZ2.out.1) (by exact SZ2.out.2) (by exact bel_le (W := wc) (Nat.le_refl _) (by repeat (first | exact Below.refl _ _ | exact HB3 | exact HB2 | exact HB1 | refine bel_drew ?_ | refine bel_alloc ?_ (Nat.le_refl _) _))) ?_
            intro q2 d2 w2 ho2 hg2 ha2 hp2
            have HB2 : Below wc.heap.size wc w2 := below_grown (by repeat (first | exact Below.refl _ _ | exact HB3 | exact HB2 | exact HB1 | refine bel_drew ?_ | refine bel_alloc ?_ (Nat.le_refl _) _)) (by exact bel_le (W := wc) (Nat.le_refl _) (by repeat (first | exact Below.refl _ _ | exact HB3 | exact HB2 | exact HB1 | refine bel_drew ?_ | refine bel_alloc ?_ (Nat.le_refl _) _))) hg2 hp2
            clear ha2 hp2
            refine hK.out _ _ (fun _ => KS.out _ HB2) ?_
            clear hK K
            (try simp only [Act.put, List.setIfInBounds_toArray, List.set_cons_zero, List.set_cons_succ])
            refine OrdT.AnyT.one (i := 18) (by kernel_rfl) (by rfl) (fun K hK => ?_)
            refine step_append_rd (some 44) (by rfl) (by rfl) _ _ 42 (by rfl) wc.heap.size 45 i0 (.agg #[.int .i64 0, .int .i64 0]) 2 16 Try.underlying42 hi hz0 hz1' hz2 rfl (by decide) (.slice q2 (k + 1) d2) (k + 1) TK2 (by rfl) (by exact ho2) _ (.slice p2 m c2') m DK (by rfl) (by exact (R2.out.below (by repeat (first | exact Below.refl _ _ | exact HB3 | exact HB2 | exact HB1 | refine bel_drew ?_ | refine bel_alloc ?_ (Nat.le_refl _) _)))) (by exact ON3.out) (L.length + 1) (by exact KM.out) TK3 (by exact TE3.out) (by exact SZ3.out.1) (by exact SZ3.out.2) (by exact bel_le (W := wc) (Nat.le_refl _) (by repeat (first | exact Below.refl _ _ | exact HB3 | exact HB2 | exact HB1 | refine bel_drew ?_ | refine bel_alloc ?_ (Nat.le_refl _) _))) ?_
            intro q3 d3 w3 ho3 hg3 ha3 hp3
            have HB3 : Below wc.heap.size wc w3 := below_grown (by repeat (first | exact Below.refl _ _ | exact HB3 | exact HB2 | exact HB1 | refine bel_drew ?_ | refine bel_alloc ?_ (Nat.le_refl _) _)) (by exact bel_le (W := wc) (Nat.le_refl _) (by repeat (first | exact Below.refl _ _ | exact HB3 | exact HB2 | exact HB1 | refine bel_drew ?_ | refine bel_alloc ?_ (Nat.le_refl _) _))) hg3 hp3
            clear ha3 hp3
            refine hK.out _ _ (fun _ => KS.out _ HB3) ?_
            clear hK K
            (try simp only [Act.put, List.setIfInBounds_toArray, List.set_cons_zero, List.set_cons_succ])
            refine OrdT.AnyT.one (i := 19) (by kernel_rfl) (by rfl) (fun K hK => ?_)
            go_simp
            refine hK.out _ _ (fun _ => KS.out _ HB3) ?_
            clear hK K
            (try simp only [Act.put, List.setIfInBounds_toArray, List.set_cons_zero, List.set_cons_succ])
            refine OrdT.AnyT.one (i := 20) (by kernel_rfl) (by rfl) (fun K hK => ?_)
            go_simp
            refine hK.out _ _ (fun _ => KS.out _ HB3) ?_
            clear hK K
            (try simp only [Act.put, List.setIfInBounds_toArray, List.set_cons_zero, List.set_cons_succ])
            refine OrdT.AnyT.one (i := 21) (by kernel_rfl) (by rfl) (fun K hK => ?_)
            obtain ⟨e2, e3, _, _⟩ := KS.out _ HB3
            go_simp
            refine hK.out _ _ (fun h => absurd rfl h) ?_
            clear hK K
            (try simp only [Act.put, List.setIfInBounds_toArray, List.set_cons_zero, List.set_cons_succ])
            refine OrdT.AnyT.done (by kernel_rfl) ?_ _
            refine NoPanic.normal ?_
            go_wp2
            go_end0
            exact FIN.out _ _ _ HB3 ho3
          · go_simp
            refine hK.out _ _ (fun _ => KS.out _ (by repeat (first | exact Below.refl _ _ | exact HB3 | exact HB2 | exact HB1 | refine bel_drew ?_ | refine bel_alloc ?_ (Nat.le_refl _) _))) ?_
            clear hK K
            (try simp only [Act.put, List.setIfInBounds_toArray, List.set_cons_zero, List.set_cons_succ])
            refine OrdT.AnyT.one (i := 8) (by kernel_rfl) (by rfl) (fun K hK => ?_)
            refine step_append_rd (some 34) (by rfl) (by rfl) _ _ 42 (by rfl) wc.heap.size 45 i0 (.agg #[.int .i64 0, .int .i64 0]) 2 16 Try.underlying42 hi hz0 hz1' hz2 rfl (by decide) (.slice (some ⟨wc.heap.size, 0, none⟩) 0 0) 0 [] (by rfl) (by exact own_empty (by first | exact heap_alloc_at _ _ _ (by simp) | exact (Below.heap_alloc _ _ _ (by simp)).trans (heap_alloc_at _ _ _ (by simp))) (by first | exact Nat.le_refl _ | simp)) _ (.slice p1 k c1) k TK (by rfl) (by exact (R1.out.below (by repeat (first | exact Below.refl _ _ | exact HB3 | exact HB2 | exact HB1 | refine bel_drew ?_ | refine bel_alloc ?_ (Nat.le_refl _) _)))) (by exact ON1.out) k (by exact Nat.zero_add k) TK (by exact List.nil_append TK) (by exact SZ1.out.1) (by exact SZ1.out.2) (by exact bel_le (W := wc) (Nat.le_refl _) (by repeat (first | exact Below.refl _ _ | exact HB3 | exact HB2 | exact HB1 | refine bel_drew ?_ | refine bel_alloc ?_ (Nat.le_refl _) _))) ?_
            intro q1 d1 w1 ho1 hg1 ha1 hp1
            have HB1 : Below wc.heap.size wc w1 := below_grown (by repeat (first | exact Below.refl _ _ | exact HB3 | exact HB2 | exact HB1 | refine bel_drew ?_ | refine bel_alloc ?_ (Nat.le_refl _) _)) (by exact bel_le (W := wc) (Nat.le_refl _) (by repeat (first | exact Below.refl _ _ | exact HB3 | exact HB2 | exact HB1 | refine bel_drew ?_ | refine bel_alloc ?_ (Nat.le_refl _) _))) hg1 hp1
            clear ha1 hp1
            refine hK.out _ _ (fun _ => KS.out _ HB1) ?_
            clear hK K
            (try simp only [Act.put, List.setIfInBounds_toArray, List.set_cons_zero, List.set_cons_succ])
            refine OrdT.AnyT.one (i := 11) (by kernel_rfl) (by rfl) (fun K hK => ?_)
            refine step_append_rd (some 37) (by rfl) (by rfl) _ _ 42 (by rfl) wc.heap.size 45 i0 (.agg #[.int .i64 0, .int .i64 0]) 2 16 Try.underlying42 hi hz0 hz1' hz2 rfl (by decide) (.slice q1 k d1) k TK (by rfl) (by first | exact ho1 | exact own_kept ho1 (fun k e => Below.heap_alloc _ _ _ (own_lt ho1 k e))) _ _ 1 [.int .i64 x0, .int .i64 x1] (by rfl) (by exact rd_one (cs := #[.int .i64 x0, .int .i64 x1]) (by exact (hg1.block _ (by first | (simp; done) | (simp; omega)) (by simp [Value.ownBlock])).trans (by exact heap_alloc_at _ _ _ (by simp))) rfl) (by exact ON2.out) (k + 1) (by exact rfl) TK2 (by exact TE2.out) (by exact SZ2.out.1) (by exact SZ2.out.2) (by exact bel_le (W := wc) (Nat.le_refl _) (by repeat (first | exact Below.refl _ _ | exact HB3 | exact HB2 | exact HB1 | refine bel_drew ?_ | refine bel_alloc ?_ (Nat.le_refl _) _))) ?_
            intro q2 d2 w2 ho2 hg2 ha2 hp2
            have HB2 : Below wc.heap.size wc w2 := below_grown (by repeat (first | exact Below.refl _ _ | exact HB3 | exact HB2 | exact HB1 | refine bel_drew ?_ | refine bel_alloc ?_ (Nat.le_refl _) _)) (by exact bel_le (W := wc) (Nat.le_refl _) (by repeat (first | exact Below.refl _ _ | exact HB3 | exact HB2 | exact HB1 | refine bel_drew ?_ | refine bel_alloc ?_ (Nat.le_refl _) _))) hg2 hp2
            clear ha2 hp2
            refine hK.out _ _ (fun _ => KS.out _ HB2) ?_
            clear hK K
            (try simp only [Act.put, List.setIfInBounds_toArray, List.set_cons_zero, List.set_cons_succ])
            refine OrdT.AnyT.one (i := 18) (by kernel_rfl) (by rfl) (fun K hK => ?_)
            refine step_append_rd (some 44) (by rfl) (by rfl) _ _ 42 (by rfl) wc.heap.size 45 i0 (.agg #[.int .i64 0, .int .i64 0]) 2 16 Try.underlying42 hi hz0 hz1' hz2 rfl (by decide) (.slice q2 (k + 1) d2) (k + 1) TK2 (by rfl) (by exact ho2) _ (.slice p2 m c2') m DK (by rfl) (by exact (R2.out.below (by repeat (first | exact Below.refl _ _ | exact HB3 | exact HB2 | exact HB1 | refine bel_drew ?_ | refine bel_alloc ?_ (Nat.le_refl _) _)))) (by exact ON3.out) (L.length + 1) (by exact KM.out) TK3 (by exact TE3.out) (by exact SZ3.out.1) (by exact SZ3.out.2) (by exact bel_le (W := wc) (Nat.le_refl _) (by repeat (first | exact Below.refl _ _ | exact HB3 | exact HB2 | exact HB1 | refine bel_drew ?_ | refine bel_alloc ?_ (Nat.le_refl _) _))) ?_
            intro q3 d3 w3 ho3 hg3 ha3 hp3
            have HB3 : Below wc.heap.size wc w3 := below_grown (by repeat (first | exact Below.refl _ _ | exact HB3 | exact HB2 | exact HB1 | refine bel_drew ?_ | refine bel_alloc ?_ (Nat.le_refl _) _)) (by exact bel_le (W := wc) (Nat.le_refl _) (by repeat (first | exact Below.refl _ _ | exact HB3 | exact HB2 | exact HB1 | refine bel_drew ?_ | refine bel_alloc ?_ (Nat.le_refl _) _))) hg3 hp3
            clear ha3 hp3
            refine hK.out _ _ (fun _ => KS.out _ HB3) ?_
            clear hK K
            (try simp only [Act.put, List.setIfInBounds_toArray, List.set_cons_zero, List.set_cons_succ])
            refine OrdT.AnyT.one (i := 19) (by kernel_rfl) (by rfl) (fun K hK => ?_)
            go_simp
            refine hK.out _ _ (fun _ => KS.out _ HB3) ?_
            clear hK K
            (try simp only [Act.put, List.setIfInBounds_toArray, List.set_cons_zero, List.set_cons_succ])
            refine OrdT.AnyT.one (i := 20) (by kernel_rfl) (by rfl) (fun K hK => ?_)
            go_simp
            refine hK.out _ _ (fun _ => KS.out _ HB3) ?_
            clear hK K
            (try simp only [Act.put, List.setIfInBounds_toArray, List.set_cons_zero, List.set_cons_succ])
            refine OrdT.AnyT.one (i := 21) (by kernel_rfl) (by rfl) (fun K hK => ?_)
            obtain ⟨e2, e3, _, _⟩ := KS.out _ HB3
            go_simp
            refine hK.out _ _ (fun h => absurd rfl h) ?_
            clear hK K
            (try simp only [Act.put, List.setIfInBounds_toArray, List.set_cons_zero, List.set_cons_succ])
            refine OrdT.AnyT.done (by kernel_rfl) ?_ _
            refine NoPanic.normal ?_
            go_wp2
            go_end0
            exact FIN.out _ _ _ HB3 ho3
        · go_simp
          refine hK.out _ _ (fun _ => KS.out _ (by repeat (first | exact Below.refl _ _ | exact HB3 | exact HB2 | exact HB1 | refine bel_drew ?_ | refine bel_alloc ?_ (Nat.le_refl _) _))) ?_
          clear hK K
          (try simp only [Act.put, List.setIfInBounds_toArray, List.set_cons_zero, List.set_cons_succ])
          refine OrdT.AnyT.one (i := 1) (by kernel_rfl) (by rfl) (fun K hK => ?_)
          go_simp
          refine hK.out _ _ (fun _ => KS.out _ (by repeat (first | exact Below.refl _ _ | exact HB3 | exact HB2 | exact HB1 | refine bel_drew ?_ | refine bel_alloc ?_ (Nat.le_refl _) _))) ?_
          clear hK K
          (try simp only [Act.put, List.setIfInBounds_toArray, List.set_cons_zero, List.set_cons_succ])
          refine OrdT.AnyT.one (i := 8) (by kernel_rfl) (by rfl) (fun K hK => ?_)
          refine step_append_rd (some 34) (by rfl) (by rfl) _ _ 42 (by rfl) wc.heap.size 45 i0 (.agg #[.int .i64 0, .int .i64 0]) 2 16 Try.underlying42 hi hz0 hz1' hz2 rfl (by decide) (.slice (some ⟨wc.heap.size + 1, 0, none⟩) 0 0) 0 [] (by rfl) (by exact own_empty (by first | exact heap_alloc_at _ _ _ (by simp) | exact (Below.heap_alloc _ _ _ (by simp)).trans (heap_alloc_at _ _ _ (by simp))) (by first | exact Nat.le_refl _ | simp)) _ (.slice p1 k c1) k TK (by rfl) (by exact (R1.out.below (by repeat (first | exact Below.refl _ _ | exact HB3 | exact HB2 | exact HB1 | refine bel_drew ?_ | refine bel_alloc ?_ (Nat.le_refl _) _)))) (by exact ON1.out) k (by exact Nat.zero_add k) TK (by exact List.nil_append TK) (by exact SZ1.out.1) (by exact SZ1.out.2) (by exact bel_le (W := wc) (Nat.le_refl _) (by repeat (first | exact Below.refl _ _ | exact HB3 | exact HB2 | exact HB1 | refine bel_drew ?_ | refine bel_alloc ?_ (Nat.le_refl _) _))) ?_
          intro q1 d1 w1 ho1 hg1 ha1 hp1
          have HB1 : Below wc.heap.size wc w1 := below_grown (by repeat (first | exact Below.refl _ _ | exact HB3 | exact HB2 | exact HB1 | refine bel_drew ?_ | refine bel_alloc ?_ (Nat.le_refl _) _)) (by exact bel_le (W := wc) (Nat.le_refl _) (by repeat (first | exact Below.refl _ _ | exact HB3 | exact HB2 | exact HB1 | refine bel_drew ?_ | refine bel_alloc ?_ (Nat.le_refl _) _))) hg1 hp1
          clear ha1 hp1
          refine hK.out _ _ (fun _ => KS.out _ HB1) ?_
          clear hK K
          (try simp only [Act.put, List.setIfInBounds_toArray, List.set_cons_zero, List.set_cons_succ])
          refine OrdT.AnyT.one (i := 11) (by kernel_rfl) (by rfl) (fun K hK => ?_)
          refine step_append_rd (some 37) (by rfl) (by rfl) _ _ 42 (by rfl) wc.heap.size 45 i0 (.agg #[.int .i64 0, .int .i64 0]) 2 16 Try.underlying42 hi hz0 hz1' hz2 rfl (by decide) (.slice q1 k d1) k TK (by rfl) (by first | exact ho1 | exact own_kept ho1 (fun k e => Below.heap_alloc _ _ _ (own_lt ho1 k e))) _ _ 1 [.int .i64 x0, .int .i64 x1] (by rfl) (by exact rd_one (cs := #[.int .i64 x0, .int .i64 x1]) (by exact (hg1.block _ (by first | (simp; done) | (simp; omega)) (by simp [Value.ownBlock])).trans (by exact (Below.heap_alloc _ _ _ (by simp)).trans (heap_alloc_at _ _ _ (by simp)))) rfl) (by exact ON2.out) (k + 1) (by exact rfl) TK2 (by exact TE2.out) (by exact SZ2.out.1) (by exact SZ2.out.2) (by exact bel_le (W := wc) (Nat.le_refl _) (by repeat (first | exact Below.refl _ _ | exact HB3 | exact HB2 | exact HB1 | refine bel_drew ?_ | refine bel_alloc ?_ (Nat.le_refl _) _))) ?_
          intro q2 d2 w2 ho2 hg2 ha2 hp2
          have HB2 : Below wc.heap.size wc w2 := below_grown (by repeat (first | exact Below.refl _ _ | exact HB3 | exact HB2 | exact HB1 | refine bel_drew ?_ | refine bel_alloc ?_ (Nat.le_refl _) _)) (by exact bel_le (W := wc) (Nat.le_refl _) (by repeat (first | exact Below.refl _ _ | exact HB3 | exact HB2 | exact HB1 | refine bel_drew ?_ | refine bel_alloc ?_ (Nat.le_refl _) _))) hg2 hp2
          clear ha2 hp2
          refine hK.out _ _ (fun _ => KS.out _ HB2) ?_
          clear hK K
          (try simp only [Act.put, List.setIfInBounds_toArray, List.set_cons_zero, List.set_cons_succ])
          refine OrdT.AnyT.one (i := 18) (by kernel_rfl) (by rfl) (fun K hK => ?_)
          refine step_append_rd (some 44) (by rfl) (by rfl) _ _ 42 (by rfl) wc.heap.size 45 i0 (.agg #[.int .i64 0, .int .i64 0]) 2 16 Try.underlying42 hi hz0 hz1' hz2 rfl (by decide) (.slice q2 (k + 1) d2) (k + 1) TK2 (by rfl) (by exact ho2) _ (.slice p2 m c2') m DK (by rfl) (by exact (R2.out.below (by repeat (first | exact Below.refl _ _ | exact HB3 | exact HB2 | exact HB1 | refine bel_drew ?_ | refine bel_alloc ?_ (Nat.le_refl _) _)))) (by exact ON3.out) (L.length + 1) (by exact KM.out) TK3 (by exact TE3.out) (by exact SZ3.out.1) (by exact SZ3.out.2) (by exact bel_le (W := wc) (Nat.le_refl _) (by repeat (first | exact Below.refl _ _ | exact HB3 | exact HB2 | exact HB1 | refine bel_drew ?_ | refine bel_alloc ?_ (Nat.le_refl _) _))) ?_
          intro q3 d3 w3 ho3 hg3 ha3 hp3
          have HB3 : Below wc.heap.size wc w3 := below_grown (by repeat (first | exact Below.refl _ _ | exact HB3 | exact HB2 | exact HB1 | refine bel_drew ?_ | refine bel_alloc ?_ (Nat.le_refl _) _)) (by exact bel_le (W := wc) (Nat.le_refl _) (by repeat (first | exact Below.refl _ _ | exact HB3 | exact HB2 | exact HB1 | refine bel_drew ?_ | refine bel_alloc ?_ (Nat.le_refl _) _))) hg3 hp3
          clear ha3 hp3
          refine hK.out _ _ (fun _ => KS.out _ HB3) ?_
          clear hK K
          (try simp only [Act.put, List.setIfInBounds_toArray, List.set_cons_zero, List.set_cons_succ])
          refine OrdT.AnyT.one (i := 19) (by kernel_rfl) (by rfl) (fun K hK => ?_)
          go_simp
          refine hK.out _ _ (fun _ => KS.out _ HB3) ?_
          clear hK K
          (try simp only [Act.put, List.setIfInBounds_toArray, List.set_cons_zero, List.set_cons_succ])
          refine OrdT.AnyT.one (i := 20) (by kernel_rfl) (by rfl) (fun K hK => ?_)
          go_simp
          refine hK.out _ _ (fun _ => KS.out _ HB3) ?_
          clear hK K
          (try simp only [Act.put, List.setIfInBounds_toArray, List.set_cons_zero, List.set_cons_succ])
          refine OrdT.AnyT.one (i := 21) (by kernel_rfl) (by rfl) (fun K hK => ?_)
          obtain ⟨e2, e3, _, _⟩ := KS.out _ HB3
          go_simp
          refine hK.out _ _ (fun h => absurd rfl h) ?_
          clear hK K
          (try simp only [Act.put, List.setIfInBounds_toArray, List.set_cons_zero, List.set_cons_succ])
          refine OrdT.AnyT.done (by kernel_rfl) ?_ _
          refine NoPanic.normal ?_
          go_wp2
          go_end0
          exact FIN.out _ _ _ HB3 ho3
      · have hkn : k < L.length := by
          have := TE.out
          simp only [Bool.true_eq, Bool.and_eq_true, decide_eq_true_eq] at this
          exact this.1
        have HR2 : Hid (∀ j, j < k + 1 → lt g (at' L j) (x0, x1) = true) := hide (fun j hj => by
          rcases Nat.lt_or_ge j k with h1 | h1
          · exact HR.out j h1
          · obtain rfl : j = k := by omega
            have := TE.out
            simp only [Bool.true_eq, Bool.and_eq_true, decide_eq_true_eq] at this
            exact this.2)
        go_wp2
        go_roundw
        case rel => exact ⟨k + 1, by omega, by go_num, HR2, RB2⟩
        case measure => simp [intOf]; omega
end Go.Proofs.Ytocgeplpehioeaa.Con
