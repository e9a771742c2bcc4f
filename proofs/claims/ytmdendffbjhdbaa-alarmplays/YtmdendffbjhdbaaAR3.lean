/- The reference's Arm. -/
import Derived.Test.YtmdendffbjhdbaaAR2
namespace Go.Proofs.Ytmdendffbjhdbaa.Con
open Go.RowKit Go.Proofs.Ytmdendffbjhdbaa.Hq
set_option linter.unusedVariables false
set_option linter.unusedSimpArgs false
attribute [local go_sem ↓] Go.wp_at_zero Go.wp_at_succ
section
variable {W W1 : World} {rb n : Nat} {now : Int} {v : Value} {L : List Rg}
theorem Rl.drew (h : Rl W rb n now v L) : Rl W.drew rb n now v L := h.below (bel_drew (Below.refl _ _))
/-- What Cancel does. -/
structure RCan (W w' : World) (rb n : Nat) (now : Int) (L : List Rg) (c id : Int) (r : Int) (b : Bool) (v' : Value) (L' : List Rg) : Prop where
  rl : Rl w' rb n now v' L'
  rt : RT W w' rb
  srt : L'.Pairwise rlt
  mem : ∀ y : Rg, y ∈ L' ↔ ¬ (y.1 = c ∧ y.2.1 = id) ∧ y ∈ L
  len : L'.length ≤ L.length
  yes : b = true → (c, id, r) ∈ L
  no : b = false → r = 0 ∧ ∀ t, (c, id, t) ∉ L
theorem rcan_any (h : Rl W rb n now v L) (hs : L.Pairwise rlt) (hu : Uq L) (c id : Int) :
    Calls Try.prog 17 #[.pointer (some ⟨rb, 0, none⟩), .int .i64 c, .int .i64 id] W fun e w' => ∃ r b v' L', e = .returned (.tuple #[.int .i64 r, .bool b]) ∧ Hid (RCan W w' rb n now L c id r b v' L') := by
  have key : (∃ k, k < L.length ∧ hit L c id k ∧ ∀ j, j < k → ¬ hit L c id j) ∨ (∀ j, j < L.length → ¬ hit L c id j) := by
    by_cases hx : ∃ k, k < L.length ∧ hit L c id k
    · left
      obtain ⟨k, hk⟩ := hx
      induction k using Nat.strongRecOn with
      | _ k ih =>
        by_cases hy : ∃ j, j < k ∧ hit L c id j
        · obtain ⟨j, hj, e⟩ := hy
          exact ih j hj ⟨by omega, e⟩
        · exact ⟨k, hk.1, hk.2, fun j hj e => hy ⟨j, hj, e⟩⟩
    · right; intro j hj e; exact hx ⟨j, hj, e⟩
  rcases key with ⟨K, hK, hh, hno⟩ | hno
  · refine (rcan_some h c id K hK hh hno).mono ?_
    rintro e w' ⟨rfl, v', r1, r2⟩
    have he : atR L K = (c, id, (atR L K).2.2) := Prod.ext hh.1 (Prod.ext hh.2 rfl)
    refine ⟨_, true, v', _, rfl, hide ⟨r1, r2, cut_srt K hs, cut_mem hs hu hK he, ?_, fun _ => ?_, fun e => by simp at e⟩⟩
    · have := (perm_cutR L K hK).length_eq; simp at this; omega
    · have := atR_mem hK; rw [he] at this; exact this
  · refine (rcan_none h c id hno).mono ?_
    rintro e w' ⟨rfl, rfl⟩
    have none : ∀ t, (c, id, t) ∉ L := fun t hm => by
      obtain ⟨j, hj, e⟩ := mem_atR hm
      exact hno j hj ⟨by rw [← e], by rw [← e]⟩
    refine ⟨0, false, v, L, rfl, hide ⟨h, RT.refl _ _, hs, fun y => ⟨fun hy => ⟨?_, hy⟩, fun hy => hy.2⟩, Nat.le_refl _, fun e => by simp at e, fun _ => ⟨rfl, none⟩⟩⟩
    rintro ⟨e1, e2⟩
    obtain ⟨y1, y2, y3⟩ := y
    simp only at e1 e2
    subst e1; subst e2
    exact none _ hy
def rArmOk (n : Nat) (now c id t : Int) : Prop := 0 ≤ c ∧ c < n ∧ 0 ≤ id ∧ id < 1024 ∧ now ≤ t ∧ t ≤ top2
set_option maxHeartbeats 1600000 in
theorem rarm_bad (h : Rl W rb n now v L) {c id t : Int} (hb : ¬ rArmOk n now c id t) :
    Calls Try.prog 16 #[.pointer (some ⟨rb, 0, none⟩), .int .i64 c, .int .i64 id, .int .i64 t] W fun e w' => e = .returned (.int .i64 1) ∧ w' = W := by
  obtain ⟨c0, c1, _⟩ := h.cells
  clear h
  unfold rArmOk top2 at hb
  by_cases k1 : c < 0
  · clear hb
    go_enter Try.func16, Try.ntmps16
    go_wp2
    go_ret
    exact ⟨rfl, rfl⟩
  · by_cases k2 : c ≥ (n : Int)
    · clear hb
      go_enter Try.func16, Try.ntmps16
      go_wp2
      go_ret
      exact ⟨rfl, rfl⟩
    · by_cases k3 : id < 0
      · clear hb
        go_enter Try.func16, Try.ntmps16
        go_wp2
        go_ret
        exact ⟨rfl, rfl⟩
      · by_cases k4 : id > 1023
        · clear hb
          go_enter Try.func16, Try.ntmps16
          go_wp2
          go_ret
          exact ⟨rfl, rfl⟩
        · by_cases k5 : t < now
          · clear hb
            go_enter Try.func16, Try.ntmps16
            go_wp2
            go_ret
            exact ⟨rfl, rfl⟩
          · have k6 : t > 4611686018427387904 := by omega
            clear hb
            go_enter Try.func16, Try.ntmps16
            go_wp2
            go_ret
            exact ⟨rfl, rfl⟩
/-- What Arm does. -/
structure RArm (W w' : World) (rb n : Nat) (now : Int) (L : List Rg) (c id t : Int) (v' : Value) (L' : List Rg) : Prop where
  rl : Rl w' rb n now v' L'
  rt : RT W w' rb
  srt : L'.Pairwise rlt
  mem : ∀ y : Rg, y ∈ L' ↔ y = (c, id, t) ∨ (¬ (y.1 = c ∧ y.2.1 = id) ∧ y ∈ L)
  len : L'.length ≤ L.length + 1
def RArmP (W : World) (rb n : Nat) (now : Int) (L : List Rg) (c id t : Int) (e : Ending) (w' : World) : Prop := e = .returned (.int .i64 0) ∧ ∃ v' L', RArm W w' rb n now L c id t v' L'
set_option maxRecDepth 100000 in
set_option maxHeartbeats 4000000 in
theorem rarm_ok (h : Rl W rb n now v L) (hs : L.Pairwise rlt) (hu : Uq L) (hL : L.length < 1000) {c id t : Int} (hok : rArmOk n now c id t) :
    Calls Try.prog 16 #[.pointer (some ⟨rb, 0, none⟩), .int .i64 c, .int .i64 id, .int .i64 t] W fun e w' => RArmP W rb n now L c id t e w' := by
  obtain ⟨c0, c1, _⟩ := h.cells
  have CAN := hide (rcan_any h hs hu c id)
  unfold rArmOk top2 at hok
  obtain ⟨o1, o2, o3, o4, o5, o6⟩ := hok
  have k1 : ¬ c < 0 := by omega
  have k2 : ¬ c ≥ (n : Int) := by omega
  have k3 : ¬ id < 0 := by omega
  have k4 : ¬ id > 1023 := by omega
  have k5 : ¬ t < now := by omega
  have k6 : ¬ t > 4611686018427387904 := by omega
  clear o1 o2 o3 o4 o5 o6 h hs hu
  go_enter Try.func16, Try.ntmps16
  go_wp2_with (go_at_call 17; refine CAN.out.mono ?_; rintro e w1 ⟨r, bb, v1, L1, rfl, C1⟩)
  have HC := hide C1.out.rl
  have hl1 : L1.length < 1000 := by have := C1.out.len; omega
  have XN : Hid ((c, id, t) ∉ L1) := hide (fun hm => ((C1.out.mem _).1 hm).1 ⟨rfl, rfl⟩)
  obtain ⟨p, cap, rfl, hn, hm⟩ := C1.out.rl.form
  have hlt := C1.out.rl.lt
  have BW := hide ((Below.refl w1.heap.size w1).alloc (Nat.le_refl _) (.cells #[.int .i64 c, .int .i64 id, .int .i64 t] 38))
  have B1 : Below w1.heap.size w1 (w1.alloc (.cells #[.int .i64 c, .int .i64 id, .int .i64 t] 38)) := (Below.refl _ _).alloc (Nat.le_refl _) _
  have H1 := hide (C1.out.rl.below B1)
  have XB := hide (heap_alloc_new w1 (.cells #[.int .i64 c, .int .i64 id, .int .i64 t] 38))
  clear B1 c0 c1 CAN k1 k2 k3 k4 k5 k6
  obtain ⟨xb, hxb⟩ : ∃ xb, w1.heap.size = xb := ⟨_, rfl⟩
  generalize hW1 : w1.alloc (.cells #[.int .i64 c, .int .i64 id, .int .i64 t] 38) = W1 at *
  rw [hxb] at XB
  have hz1 : xb < W1.heap.size := (Array.getElem?_eq_some_iff.1 XB.out).1
  have HW1 := hide hW1
  have HXB := hide hxb
  clear hW1
  (try rw [hxb])
  clear hxb
  go_loopw [10] (fun s wr => ∃ k : Nat, k ≤ L1.length ∧ s = .int .i64 k ∧ Hid (∀ j, j < k → rlt (atR L1 j) (c, id, t)) ∧ Hid (Below W1.heap.size W1 wr)) (fun s _ => L1.length - (intOf s).toNat)
  case atStart => exact ⟨0, by omega, rfl, hide (fun j hj => by omega), hide (Below.refl _ _)⟩
  case round =>
    obtain ⟨k, hk, rfl, HR, RB⟩ := hrel
    have Hr := hide (H1.out.below RB.out)
    obtain ⟨_, _, c2⟩ := Hr.out.cells
    have XR := hide (row_kept RB.out XB.out)
    have xc0 : wr.cell? ⟨xb, 0, none⟩ = some (.int .i64 c) := by rw [cell_of_row wr _ _ _ _ _ XR.out]; rfl
    have xc1 : wr.cell? ⟨xb, 1, none⟩ = some (.int .i64 id) := by rw [cell_of_row wr _ _ _ _ _ XR.out]; rfl
    have xc2 : wr.cell? ⟨xb, 2, none⟩ = some (.int .i64 t) := by rw [cell_of_row wr _ _ _ _ _ XR.out]; rfl
    have xl : xb < wr.heap.size := World.block_lt_of_cell? wr _ xc0
    have rl : rb < wr.heap.size := World.block_lt_of_cell? wr _ c2
    go_upto_region 6 with fail
    go_cut [66] from 49 to 68 (fun s wx => ∃ tt : Bool, s = .bool tt ∧ Hid (tt = (decide (k < L1.length) && decide (rlt (atR L1 k) (c, id, t)))) ∧ Hid (Below W1.heap.size W1 wx))
    case first => as_aux_lemma =>
      by_cases hkn : k < L1.length
      · obtain ⟨b, o, rfl, hb, y0, y1, y2⟩ := Hr.out.item k hkn
        have hk1 : (k : Int) < (L1.length : Int) := by omega
        have k0 : (0 : Int) ≤ (k : Int) := by omega
        have E1 : Hid ((decide (k < L1.length) && decide (rlt (atR L1 k) (c, id, t))) = decide (rlt (atR L1 k) (c, id, t))) := hide (by rw [decide_eq_true hkn]; rfl)
        have RA' := hide (fun w' => rbefore_any (atR L1 k) (c, id, t) w')
        generalize decide (rlt (atR L1 k) (c, id, t)) = tt at *
        generalize (atR L1 k).1 = z0 at *
        generalize (atR L1 k).2.1 = z1 at *
        generalize (atR L1 k).2.2 = z2 at *
        go_wp2
        go_region_held3 (fun w' => w'.cell? ⟨rb, 2, none⟩ = some (.slice (some ⟨b, o, none⟩) L1.length cap) ∧ w'.cell? ⟨b, o + k * 3, none⟩ = some (.int .i64 z0) ∧ w'.cell? ⟨b, o + k * 3 + 1, none⟩ = some (.int .i64 z1) ∧ w'.cell? ⟨b, o + k * 3 + 2, none⟩ = some (.int .i64 z2) ∧ w'.cell? ⟨xb, 0, none⟩ = some (.int .i64 c) ∧ w'.cell? ⟨xb, 1, none⟩ = some (.int .i64 id) ∧ w'.cell? ⟨xb, 2, none⟩ = some (.int .i64 t))
          (first | go_keep | (go_split_ands; refine ⟨?_, ?_, ?_, ?_, ?_, ?_, ?_⟩ <;> (rw [hcl _ _ (by first | exact rl | exact hb | exact xl)]; assumption)))
          ((go_at_call 32; refine (RA'.out _).mono ?_; rintro e w' ⟨rfl, hB⟩; obtain ⟨hcl, hfr⟩ := bcell hB))
        go_wp2
        go_meet
        case rel => exact ⟨tt, rfl, hide E1.out.symm, hide (RB.out.trans (Below.mono (⟨hB.os, hB.tape, hB.output, hB.size, hB.block⟩ : Below wr.heap.size wr w') RB.out.size))⟩
      · have hd : decide ((k : Int) < (L1.length : Int)) = false := decide_eq_false (by omega)
        have E1 : Hid ((decide (k < L1.length) && decide (rlt (atR L1 k) (c, id, t))) = false) := hide (by rw [decide_eq_false hkn]; rfl)
        go_wp2
        go_quiet (fail)
        go_wp2
        go_meet
        case rel => exact ⟨false, rfl, hide E1.out.symm, hide (bel_drewN RB.out _)⟩
    case rest => as_aux_lemma =>
      obtain ⟨tt, rfl, TE, RB2⟩ := hcut
      clear c2 xc0 xc1 xc2 xl rl XR Hr
      cases tt
      · have KE : Hid (k = L1.length ∨ ¬ rlt (atR L1 k) (c, id, t)) := hide (by
          have := TE.out
          by_cases hkn : k < L1.length
          · rw [decide_eq_true hkn] at this; exact .inr (by simpa using this)
          · exact .inl (by omega))
        have Hr := hide (H1.out.below RB2.out)
        obtain ⟨_, _, c2⟩ := Hr.out.cells
        have XR := hide (row_kept RB2.out XB.out)
        have xc0 : wc.cell? ⟨xb, 0, none⟩ = some (.int .i64 c) := by rw [cell_of_row wc _ _ _ _ _ XR.out]; rfl
        have xc1 : wc.cell? ⟨xb, 1, none⟩ = some (.int .i64 id) := by rw [cell_of_row wc _ _ _ _ _ XR.out]; rfl
        have xc2 : wc.cell? ⟨xb, 2, none⟩ = some (.int .i64 t) := by rw [cell_of_row wc _ _ _ _ _ XR.out]; rfl
        have xl : xb < wc.heap.size := World.block_lt_of_cell? wc _ xc0
        have rl : rb < wc.heap.size := World.block_lt_of_cell? wc _ c2
        have f2 := Hr.out.frozen 2
        obtain ⟨i0, hi, hz0, hz1', hz2⟩ := info_parts infoRg
        obtain ⟨p1, c1, hs1, r1⟩ := Hr.out.row.upto 39 38 i0 Try.underlying39 hi hz1' k hk
        obtain ⟨p2, c2', hs2, r2⟩ := Hr.out.row.from 39 38 i0 Try.underlying39 hi hz1' k hk
        have R1 := hide r1
        have R2 := hide r2
        have HK := hide hk
        have k1 : (k : Int) ≤ (L1.length : Int) := by omega
        have k0 : ¬ (k : Int) < 0 := by omega
        clear r1 r2 hk
        obtain ⟨m, hm'⟩ : ∃ m, L1.length - k = m := ⟨_, rfl⟩
        rw [hm'] at hs2 R2
        have HM := hide hm'
        have Hn := hide hn
        have Hl := hide hl1
        clear hm' hn hl1 hm
        go_wp2
        obtain ⟨TK, hTK⟩ : ∃ TK, List.take (k * 3) (ringsV L1) = TK := ⟨_, rfl⟩
        obtain ⟨DK, hDK⟩ : ∃ DK, List.drop (k * 3) (ringsV L1) = DK := ⟨_, rfl⟩
        rw [hTK] at R1
        rw [hDK] at R2
        have ON1 : Hid (∀ u ∈ TK, u.oneCell' = true) := hide (by rw [← hTK]; exact fun u hu => one_rings L1 u (List.mem_of_mem_take hu))
        have ON2 : Hid (∀ u ∈ ([.int .i64 c, .int .i64 id, .int .i64 t] : List Value), u.oneCell' = true) := hide (by intro u hu; simp at hu; rcases hu with rfl | rfl | rfl <;> rfl)
        have ON3 : Hid (∀ u ∈ DK, u.oneCell' = true) := hide (by rw [← hDK]; exact fun u hu => one_rings L1 u (List.mem_of_mem_drop hu))
        have SZ1 : Hid (k ≤ maxLen ∧ k * 24 ≤ 140737488355328) := hide (by have := HK.out; have := Hl.out; unfold maxLen; omega)
        have SZ2 : Hid (k + 1 ≤ maxLen ∧ (k + 1) * 24 ≤ 140737488355328) := hide (by have := HK.out; have := Hl.out; unfold maxLen; omega)
        have SZ3 : Hid (L1.length + 1 ≤ maxLen ∧ (L1.length + 1) * 24 ≤ 140737488355328) := hide (by have := HK.out; have := Hl.out; unfold maxLen; omega)
        obtain ⟨TK2, hTK2⟩ : ∃ TK2, TK ++ [.int .i64 c, .int .i64 id, .int .i64 t] = TK2 := ⟨_, rfl⟩
        obtain ⟨TK3, hTK3⟩ : ∃ TK3, TK2 ++ DK = TK3 := ⟨_, rfl⟩
        have TE2 := hide hTK2
        have TE3 := hide hTK3
        have KM : Hid (k + 1 + m = L1.length + 1) := hide (by have := HM.out; have := HK.out; omega)
        have FL : Hid (TK3 = ringsV (L1.take k ++ (c, id, t) :: L1.drop k)) := hide (by
          rw [← hTK3, ← hTK2, ← hTK, ← hDK, ringsV_take L1 k HK.out, ringsV_drop L1 k HK.out, ringsV_app, show (c, id, t) :: L1.drop k = [(c, id, t)] ++ L1.drop k from rfl, ringsV_app, rv1, List.append_assoc]; rfl)
        clear hTK hDK hTK2 hTK3
        have KS : Hid (∀ w' : World, Below wc.heap.size wc w' → w'.cell? ⟨rb, 2, none⟩ = some (.slice p L1.length cap) ∧ w'.frozen? ⟨rb, 2, none⟩ = false ∧ w'.cell? ⟨xb, 0, none⟩ = some (.int .i64 c) ∧ w'.cell? ⟨xb, 1, none⟩ = some (.int .i64 id) ∧ w'.cell? ⟨xb, 2, none⟩ = some (.int .i64 t)) := hide (fun w' hB => ⟨(hB.cell (p := ⟨rb, 2, none⟩) rl).trans c2, (hB.frozen (p := ⟨rb, 2, none⟩) rl).trans f2, (hB.cell (p := ⟨xb, 0, none⟩) xl).trans xc0, (hB.cell (p := ⟨xb, 1, none⟩) xl).trans xc1, (hB.cell (p := ⟨xb, 2, none⟩) xl).trans xc2⟩)
        have FIN : Hid (∀ q d w3, Below wc.heap.size wc w3 → w3.ownsRow wc.heap.size 38 3 (.slice q (L1.length + 1) d) (L1.length + 1) TK3 → RArmP W rb n now L c id t (.returned (.int .i64 0)) (w3.setCell ⟨rb, 2, none⟩ (.slice q (L1.length + 1) d))) := hide (fun q d w3 hB ho => by
          rw [FL.out] at ho
          obtain ⟨f1, f2⟩ := rl_store Hr.out hB ho (by have := HK.out; simp; omega) (by have := Hl.out; omega)
          have b0 := BW.out
          refine ⟨rfl, _, _, f1, (C1.out.rt.trans (RT.below (b0.trans (RB2.out.mono b0.size)) rb)).trans f2, put_srt HR.out KE.out HK.out XN.out C1.out.srt, fun y => ?_, by have := C1.out.len; have := HK.out; simp; omega⟩
          rw [put_mem, C1.out.mem])
        refine wp_region_noPanic ?_
        refine OrdT.region_T (S := fun w' => w'.cell? ⟨rb, 2, none⟩ = some (.slice p L1.length cap) ∧ w'.frozen? ⟨rb, 2, none⟩ = false ∧ w'.cell? ⟨xb, 0, none⟩ = some (.int .i64 c) ∧ w'.cell? ⟨xb, 1, none⟩ = some (.int .i64 id) ∧ w'.cell? ⟨xb, 2, none⟩ = some (.int .i64 t)) 21 (by kernel_rfl) ?_ (fun hHeld => ?_)
        · exact KS.out _ (bel_drew (Below.refl _ _))
        refine OrdT.AnyT.take (i := 0) (v := ?_) (some 69) (by rfl) (by rfl) (by kernel_rfl) (by kernel_rfl) (by kernel_rfl) (by kernel_rfl) (fun _ _ _ h => h) (Or.inl ⟨by rfl, ?_⟩) (by assumption) ?_
        rotate_left
        · intro w hSw; (try dsimp only at hSw); first | (go_simp; done) | (go_simp; with_reducible rfl)
        (try simp only [Act.put, List.setIfInBounds_toArray, List.set_cons_zero, List.set_cons_succ])
        refine OrdT.AnyT.take (i := 2) (v := ?_) (some 71) (by rfl) (by rfl) (by kernel_rfl) (by kernel_rfl) (by kernel_rfl) (by kernel_rfl) (fun _ _ _ h => h) (Or.inl ⟨by rfl, ?_⟩) (by assumption) ?_
        rotate_left
        · intro w hSw; (try dsimp only at hSw); first | (go_simp; done) | (go_simp; with_reducible rfl)
        (try simp only [Act.put, List.setIfInBounds_toArray, List.set_cons_zero, List.set_cons_succ])
        refine OrdT.AnyT.take (i := 3) (v := ?_) (some 72) (by rfl) (by rfl) (by kernel_rfl) (by kernel_rfl) (by kernel_rfl) (by kernel_rfl) (fun _ _ _ h => h) (Or.inl ⟨by rfl, ?_⟩) (by assumption) ?_
        rotate_left
        · intro w hSw; (try dsimp only at hSw); first | (go_simp; done) | (go_simp; with_reducible rfl)
        (try simp only [Act.put, List.setIfInBounds_toArray, List.set_cons_zero, List.set_cons_succ])
        refine OrdT.AnyT.take (i := 4) (v := ?_) (some 73) (by rfl) (by rfl) (by kernel_rfl) (by kernel_rfl) (by kernel_rfl) (by kernel_rfl) (fun _ _ _ h => h) (Or.inl ⟨by rfl, ?_⟩) (by assumption) ?_
        rotate_left
        · intro w hSw; (try dsimp only at hSw); first | (go_simp; done) | (go_simp; with_reducible rfl)
        (try simp only [Act.put, List.setIfInBounds_toArray, List.set_cons_zero, List.set_cons_succ])
        refine OrdT.AnyT.take (i := 5) (v := ?_) (some 74) (by rfl) (by rfl) (by kernel_rfl) (by kernel_rfl) (by kernel_rfl) (by kernel_rfl) (fun _ _ _ h => h) (Or.inl ⟨by rfl, ?_⟩) (by assumption) ?_
        rotate_left
        · intro w hSw; (try dsimp only at hSw); first | (go_simp; done) | (go_simp; with_reducible rfl)
        (try simp only [Act.put, List.setIfInBounds_toArray, List.set_cons_zero, List.set_cons_succ])
        refine OrdT.AnyT.take (i := 6) (v := ?_) (some 75) (by rfl) (by rfl) (by kernel_rfl) (by kernel_rfl) (by kernel_rfl) (by kernel_rfl) (fun _ _ _ h => h) (Or.inl ⟨by rfl, ?_⟩) (by assumption) ?_
        rotate_left
        · intro w hSw; (try dsimp only at hSw); first | (go_simp; done) | (go_simp; with_reducible rfl)
        (try simp only [Act.put, List.setIfInBounds_toArray, List.set_cons_zero, List.set_cons_succ])
        refine OrdT.AnyT.take (i := 7) (v := ?_) (some 76) (by rfl) (by rfl) (by kernel_rfl) (by kernel_rfl) (by kernel_rfl) (by kernel_rfl) (fun _ _ _ h => h) (Or.inl ⟨by rfl, ?_⟩) (by assumption) ?_
        rotate_left
        · intro w hSw; (try dsimp only at hSw); first | (go_simp; done) | (go_simp; with_reducible rfl)
        (try simp only [Act.put, List.setIfInBounds_toArray, List.set_cons_zero, List.set_cons_succ])
        refine OrdT.AnyT.take (i := 9) (v := ?_) (some 78) (by rfl) (by rfl) (by kernel_rfl) (by kernel_rfl) (by kernel_rfl) (by kernel_rfl) (fun _ _ _ h => h) (Or.inl ⟨by rfl, ?_⟩) (by assumption) ?_
        rotate_left
        · intro w hSw; (try dsimp only at hSw); first | (go_simp; done) | (go_simp; with_reducible rfl)
        (try simp only [Act.put, List.setIfInBounds_toArray, List.set_cons_zero, List.set_cons_succ])
        refine OrdT.AnyT.take (i := 12) (v := ?_) (some 81) (by rfl) (by rfl) (by kernel_rfl) (by kernel_rfl) (by kernel_rfl) (by kernel_rfl) (fun _ _ _ h => h) (Or.inl ⟨by rfl, ?_⟩) (by assumption) ?_
        rotate_left
        · intro w hSw; (try dsimp only at hSw); first | (go_simp; done) | (go_simp; with_reducible rfl)
        (try simp only [Act.put, List.setIfInBounds_toArray, List.set_cons_zero, List.set_cons_succ])
        refine OrdT.AnyT.take (i := 13) (v := ?_) (some 82) (by rfl) (by rfl) (by kernel_rfl) (by kernel_rfl) (by kernel_rfl) (by kernel_rfl) (fun _ _ _ h => h) (Or.inl ⟨by rfl, ?_⟩) (by assumption) ?_
        rotate_left
        · intro w hSw; (try dsimp only at hSw); first | (go_simp; done) | (go_simp; with_reducible rfl)
        (try simp only [Act.put, List.setIfInBounds_toArray, List.set_cons_zero, List.set_cons_succ])
        refine OrdT.AnyT.take (i := 14) (v := ?_) (some 83) (by rfl) (by rfl) (by kernel_rfl) (by kernel_rfl) (by kernel_rfl) (by kernel_rfl) (fun _ _ _ h => h) (Or.inl ⟨by rfl, ?_⟩) (by assumption) ?_
        rotate_left
        · intro w hSw; (try dsimp only at hSw); first | (go_simp; done) | (go_simp; with_reducible rfl)
        (try simp only [Act.put, List.setIfInBounds_toArray, List.set_cons_zero, List.set_cons_succ])
        refine OrdT.AnyT.take (i := 15) (v := ?_) (some 84) (by rfl) (by rfl) (by kernel_rfl) (by kernel_rfl) (by kernel_rfl) (by kernel_rfl) (fun _ _ _ h => h) (Or.inl ⟨by rfl, ?_⟩) (by assumption) ?_
        rotate_left
        · intro w hSw; (try dsimp only at hSw); first | (go_simp; done) | (go_simp; with_reducible rfl)
        (try simp only [Act.put, List.setIfInBounds_toArray, List.set_cons_zero, List.set_cons_succ])
        refine OrdT.AnyT.take (i := 16) (v := ?_) (some 85) (by rfl) (by rfl) (by kernel_rfl) (by kernel_rfl) (by kernel_rfl) (by kernel_rfl) (fun _ _ _ h => h) (Or.inl ⟨by rfl, ?_⟩) (by assumption) ?_
        rotate_left
        · intro w hSw; (try dsimp only at hSw); first | (go_simp; done) | (go_simp; with_reducible rfl)
        (try simp only [Act.put, List.setIfInBounds_toArray, List.set_cons_zero, List.set_cons_succ])
        refine OrdT.AnyT.take (i := 17) (v := ?_) (some 86) (by rfl) (by rfl) (by kernel_rfl) (by kernel_rfl) (by kernel_rfl) (by kernel_rfl) (fun _ _ _ h => h) (Or.inl ⟨by rfl, ?_⟩) (by assumption) ?_
        rotate_left
        · intro w hSw; (try dsimp only at hSw); first | (go_simp; done) | (go_simp; with_reducible rfl)
        (try simp only [Act.put, List.setIfInBounds_toArray, List.set_cons_zero, List.set_cons_succ])
        clear hHeld
        refine OrdT.AnyT.two (i := 1) (j := 10) (by kernel_rfl) (by rfl) (by rfl) (fun K hK => ?_) (fun K hK => ?_)
        · go_simp
          refine hK.out _ _ (fun _ => KS.out _ (by repeat (first | exact Below.refl _ _ | exact HB3 | exact HB2 | exact HB1 | refine bel_drew ?_ | refine bel_alloc ?_ (Nat.le_refl _) _))) ?_
          clear hK K
          (try simp only [Act.put, List.setIfInBounds_toArray, List.set_cons_zero, List.set_cons_succ])
          refine OrdT.AnyT.two (i := 8) (j := 10) (by kernel_rfl) (by rfl) (by rfl) (fun K hK => ?_) (fun K hK => ?_)
          · refine step_append_rd (some 77) (by rfl) (by rfl) _ _ 39 (by rfl) wc.heap.size 38 i0 (.agg #[.int .i64 0, .int .i64 0, .int .i64 0]) 3 24 Try.underlying39 hi hz0 hz1' hz2 rfl (by decide) (.slice (some ⟨wc.heap.size, 0, none⟩) 0 0) 0 [] (by rfl) (by exact own_empty (by first | exact heap_alloc_at _ _ _ (by simp) | exact (Below.heap_alloc _ _ _ (by simp)).trans (heap_alloc_at _ _ _ (by simp))) (by first | exact Nat.le_refl _ | simp)) _ (.slice p1 k c1) k TK (by rfl) (by exact (R1.out.below (by repeat (first | exact Below.refl _ _ | exact HB3 | exact HB2 | exact HB1 | refine bel_drew ?_ | refine bel_alloc ?_ (Nat.le_refl _) _)))) (by exact ON1.out) k (by exact Nat.zero_add k) TK (by exact List.nil_append TK) (by exact SZ1.out.1) (by exact SZ1.out.2) (by exact bel_le (W := wc) (Nat.le_refl _) (by repeat (first | exact Below.refl _ _ | exact HB3 | exact HB2 | exact HB1 | refine bel_drew ?_ | refine bel_alloc ?_ (Nat.le_refl _) _))) ?_
            intro q1 d1 w1 ho1 hg1 ha1 hp1
            have HB1 : Below wc.heap.size wc w1 := below_grown (by repeat (first | exact Below.refl _ _ | exact HB3 | exact HB2 | exact HB1 | refine bel_drew ?_ | refine bel_alloc ?_ (Nat.le_refl _) _)) (by exact bel_le (W := wc) (Nat.le_refl _) (by repeat (first | exact Below.refl _ _ | exact HB3 | exact HB2 | exact HB1 | refine bel_drew ?_ | refine bel_alloc ?_ (Nat.le_refl _) _))) hg1 hp1
            clear ha1 hp1
            refine hK.out _ _ (fun _ => KS.out _ HB1) ?_
            clear hK K
            (try simp only [Act.put, List.setIfInBounds_toArray, List.set_cons_zero, List.set_cons_succ])
            refine OrdT.AnyT.one (i := 10) (by kernel_rfl) (by rfl) (fun K hK => ?_)
            go_simp
            refine hK.out _ _ (fun _ => KS.out _ (by repeat (first | exact Below.refl _ _ | exact HB3 | exact HB2 | exact HB1 | refine bel_drew ?_ | refine bel_alloc ?_ (Nat.le_refl _) _))) ?_
            clear hK K
            (try simp only [Act.put, List.setIfInBounds_toArray, List.set_cons_zero, List.set_cons_succ])
            refine OrdT.AnyT.one (i := 11) (by kernel_rfl) (by rfl) (fun K hK => ?_)
            refine step_append_rd (some 80) (by rfl) (by rfl) _ _ 39 (by rfl) wc.heap.size 38 i0 (.agg #[.int .i64 0, .int .i64 0, .int .i64 0]) 3 24 Try.underlying39 hi hz0 hz1' hz2 rfl (by decide) (.slice q1 k d1) k TK (by rfl) (by first | exact ho1 | exact own_kept ho1 (fun k e => Below.heap_alloc _ _ _ (own_lt ho1 k e))) _ _ 1 [.int .i64 c, .int .i64 id, .int .i64 t] (by rfl) (by exact rd_one (cs := #[.int .i64 c, .int .i64 id, .int .i64 t]) (by exact heap_alloc_at _ _ _ rfl) rfl) (by exact ON2.out) (k + 1) (by exact rfl) TK2 (by exact TE2.out) (by exact SZ2.out.1) (by exact SZ2.out.2) (by exact bel_le (W := wc) (Nat.le_refl _) (by repeat (first | exact Below.refl _ _ | exact HB3 | exact HB2 | exact HB1 | refine bel_drew ?_ | refine bel_alloc ?_ (Nat.le_refl _) _))) ?_
            intro q2 d2 w2 ho2 hg2 ha2 hp2
            have HB2 : Below wc.heap.size wc w2 := below_grown (by repeat (first | exact Below.refl _ _ | exact HB3 | exact HB2 | exact HB1 | refine bel_drew ?_ | refine bel_alloc ?_ (Nat.le_refl _) _)) (by exact bel_le (W := wc) (Nat.le_refl _) (by repeat (first | exact Below.refl _ _ | exact HB3 | exact HB2 | exact HB1 | refine bel_drew ?_ | refine bel_alloc ?_ (Nat.le_refl _) _))) hg2 hp2
            clear ha2 hp2
            refine hK.out _ _ (fun _ => KS.out _ HB2) ?_
            clear hK K
            (try simp only [Act.put, List.setIfInBounds_toArray, List.set_cons_zero, List.set_cons_succ])
            refine OrdT.AnyT.one (i := 18) (by kernel_rfl) (by rfl) (fun K hK => ?_)
            refine step_append_rd (some 87) (by rfl) (by rfl) _ _ 39 (by rfl) wc.heap.size 38 i0 (.agg #[.int .i64 0, .int .i64 0, .int .i64 0]) 3 24 Try.underlying39 hi hz0 hz1' hz2 rfl (by decide) (.slice q2 (k + 1) d2) (k + 1) TK2 (by rfl) (by exact ho2) _ (.slice p2 m c2') m DK (by rfl) (by exact (R2.out.below (by repeat (first | exact Below.refl _ _ | exact HB3 | exact HB2 | exact HB1 | refine bel_drew ?_ | refine bel_alloc ?_ (Nat.le_refl _) _)))) (by exact ON3.out) (L1.length + 1) (by exact KM.out) TK3 (by exact TE3.out) (by exact SZ3.out.1) (by exact SZ3.out.2) (by exact bel_le (W := wc) (Nat.le_refl _) (by repeat (first | exact Below.refl _ _ | exact HB3 | exact HB2 | exact HB1 | refine bel_drew ?_ | refine bel_alloc ?_ (Nat.le_refl _) _))) ?_
            intro q3 d3 w3 ho3 hg3 ha3 hp3
            have HB3 : Below wc.heap.size wc w3 := below_grown (by repeat (first | exact Below.refl _ _ | exact HB3 | exact HB2 | exact HB1 | refine bel_drew ?_ | refine bel_alloc ?_ (Nat.le_refl _) _)) (by exact bel_le (W := wc) (Nat.le_refl _) (by repeat (first | exact Below.refl _ _ | exact HB3 | exact HB2 | exact HB1 | refine bel_drew ?_ | refine bel_alloc ?_ (Nat.le_refl _) _))) hg3 hp3
            clear ha3 hp3
            refine hK.out _ _ (fun _ => KS.out _ HB3) ?_
            clear hK K
            (try simp only [Act.put, List.setIfInBounds_toArray, List.set_cons_zero, List.set_cons_succ])
            refine OrdT.AnyT.one (i := 19) (by kernel_rfl) (by rfl) (fun K hK => ?_)
            go_simp
            refine hK.out _ _ (fun _ => KS.out _ HB3) ?_
            clear hK K
            (try simp only [Act.put, List.setIfInBounds_toArray, List.set_cons_zero, List.set_cons_succ])
            refine OrdT.AnyT.one (i := 20) (by kernel_rfl) (by rfl) (fun K hK => ?_)
            go_simp
            refine hK.out _ _ (fun _ => KS.out _ HB3) ?_
            clear hK K
            (try simp only [Act.put, List.setIfInBounds_toArray, List.set_cons_zero, List.set_cons_succ])
            refine OrdT.AnyT.one (i := 21) (by kernel_rfl) (by rfl) (fun K hK => ?_)
            obtain ⟨e2, e3, _, _, _⟩ := KS.out _ HB3
            go_simp
            refine hK.out _ _ (fun h => absurd rfl h) ?_
            clear hK K
            (try simp only [Act.put, List.setIfInBounds_toArray, List.set_cons_zero, List.set_cons_succ])
            refine OrdT.AnyT.done (by kernel_rfl) ?_ _
            refine NoPanic.normal ?_
            go_wp2
            go_ret
            exact FIN.out _ _ _ HB3 ho3
          · go_simp
            refine hK.out _ _ (fun _ => KS.out _ (by repeat (first | exact Below.refl _ _ | exact HB3 | exact HB2 | exact HB1 | refine bel_drew ?_ | refine bel_alloc ?_ (Nat.le_refl _) _))) ?_
            clear hK K
            (try simp only [Act.put, List.setIfInBounds_toArray, List.set_cons_zero, List.set_cons_succ])
            refine OrdT.AnyT.one (i := 8) (by kernel_rfl) (by rfl) (fun K hK => ?_)
            refine step_append_rd (some 77) (by rfl) (by rfl) _ _ 39 (by rfl) wc.heap.size 38 i0 (.agg #[.int .i64 0, .int .i64 0, .int .i64 0]) 3 24 Try.underlying39 hi hz0 hz1' hz2 rfl (by decide) (.slice (some ⟨wc.heap.size, 0, none⟩) 0 0) 0 [] (by rfl) (by exact own_empty (by first | exact heap_alloc_at _ _ _ (by simp) | exact (Below.heap_alloc _ _ _ (by simp)).trans (heap_alloc_at _ _ _ (by simp))) (by first | exact Nat.le_refl _ | simp)) _ (.slice p1 k c1) k TK (by rfl) (by exact (R1.out.below (by repeat (first | exact Below.refl _ _ | exact HB3 | exact HB2 | exact HB1 | refine bel_drew ?_ | refine bel_alloc ?_ (Nat.le_refl _) _)))) (by exact ON1.out) k (by exact Nat.zero_add k) TK (by exact List.nil_append TK) (by exact SZ1.out.1) (by exact SZ1.out.2) (by exact bel_le (W := wc) (Nat.le_refl _) (by repeat (first | exact Below.refl _ _ | exact HB3 | exact HB2 | exact HB1 | refine bel_drew ?_ | refine bel_alloc ?_ (Nat.le_refl _) _))) ?_
            intro q1 d1 w1 ho1 hg1 ha1 hp1
            have HB1 : Below wc.heap.size wc w1 := below_grown (by repeat (first | exact Below.refl _ _ | exact HB3 | exact HB2 | exact HB1 | refine bel_drew ?_ | refine bel_alloc ?_ (Nat.le_refl _) _)) (by exact bel_le (W := wc) (Nat.le_refl _) (by repeat (first | exact Below.refl _ _ | exact HB3 | exact HB2 | exact HB1 | refine bel_drew ?_ | refine bel_alloc ?_ (Nat.le_refl _) _))) hg1 hp1
            clear ha1 hp1
            refine hK.out _ _ (fun _ => KS.out _ HB1) ?_
            clear hK K
            (try simp only [Act.put, List.setIfInBounds_toArray, List.set_cons_zero, List.set_cons_succ])
            refine OrdT.AnyT.one (i := 11) (by kernel_rfl) (by rfl) (fun K hK => ?_)
            refine step_append_rd (some 80) (by rfl) (by rfl) _ _ 39 (by rfl) wc.heap.size 38 i0 (.agg #[.int .i64 0, .int .i64 0, .int .i64 0]) 3 24 Try.underlying39 hi hz0 hz1' hz2 rfl (by decide) (.slice q1 k d1) k TK (by rfl) (by first | exact ho1 | exact own_kept ho1 (fun k e => Below.heap_alloc _ _ _ (own_lt ho1 k e))) _ _ 1 [.int .i64 c, .int .i64 id, .int .i64 t] (by rfl) (by exact rd_one (cs := #[.int .i64 c, .int .i64 id, .int .i64 t]) (by exact (hg1.block _ (by first | (simp; done) | (simp; omega)) (by simp [Value.ownBlock])).trans (by exact heap_alloc_at _ _ _ (by simp))) rfl) (by exact ON2.out) (k + 1) (by exact rfl) TK2 (by exact TE2.out) (by exact SZ2.out.1) (by exact SZ2.out.2) (by exact bel_le (W := wc) (Nat.le_refl _) (by repeat (first | exact Below.refl _ _ | exact HB3 | exact HB2 | exact HB1 | refine bel_drew ?_ | refine bel_alloc ?_ (Nat.le_refl _) _))) ?_
            intro q2 d2 w2 ho2 hg2 ha2 hp2
            have HB2 : Below wc.heap.size wc w2 := below_grown (by repeat (first | exact Below.refl _ _ | exact HB3 | exact HB2 | exact HB1 | refine bel_drew ?_ | refine bel_alloc ?_ (Nat.le_refl _) _)) (by exact bel_le (W := wc) (Nat.le_refl _) (by repeat (first | exact Below.refl _ _ | exact HB3 | exact HB2 | exact HB1 | refine bel_drew ?_ | refine bel_alloc ?_ (Nat.le_refl _) _))) hg2 hp2
            clear ha2 hp2
            refine hK.out _ _ (fun _ => KS.out _ HB2) ?_
            clear hK K
            (try simp only [Act.put, List.setIfInBounds_toArray, List.set_cons_zero, List.set_cons_succ])
            refine OrdT.AnyT.one (i := 18) (by kernel_rfl) (by rfl) (fun K hK => ?_)
            refine step_append_rd (some 87) (by rfl) (by rfl) _ _ 39 (by rfl) wc.heap.size 38 i0 (.agg #[.int .i64 0, .int .i64 0, .int .i64 0]) 3 24 Try.underlying39 hi hz0 hz1' hz2 rfl (by decide) (.slice q2 (k + 1) d2) (k + 1) TK2 (by rfl) (by exact ho2) _ (.slice p2 m c2') m DK (by rfl) (by exact (R2.out.below (by repeat (first | exact Below.refl _ _ | exact HB3 | exact HB2 | exact HB1 | refine bel_drew ?_ | refine bel_alloc ?_ (Nat.le_refl _) _)))) (by exact ON3.out) (L1.length + 1) (by exact KM.out) TK3 (by exact TE3.out) (by exact SZ3.out.1) (by exact SZ3.out.2) (by exact bel_le (W := wc) (Nat.le_refl _) (by repeat (first | exact Below.refl _ _ | exact HB3 | exact HB2 | exact HB1 | refine bel_drew ?_ | refine bel_alloc ?_ (Nat.le_refl _) _))) ?_
            intro q3 d3 w3 ho3 hg3 ha3 hp3
            have HB3 : Below wc.heap.size wc w3 := below_grown (by repeat (first | exact Below.refl _ _ | exact HB3 | exact HB2 | exact HB1 | refine bel_drew ?_ | refine bel_alloc ?_ (Nat.le_refl _) _)) (by exact bel_le (W := wc) (Nat.le_refl _) (by repeat (first | exact Below.refl _ _ | exact HB3 | exact HB2 | exact HB1 | refine bel_drew ?_ | refine bel_alloc ?_ (Nat.le_refl _) _))) hg3 hp3
            clear ha3 hp3
            refine hK.out _ _ (fun _ => KS.out _ HB3) ?_
            clear hK K
            (try simp only [Act.put, List.setIfInBounds_toArray, List.set_cons_zero, List.set_cons_succ])
            refine OrdT.AnyT.one (i := 19) (by kernel_rfl) (by rfl) (fun K hK => ?_)
            go_simp
            refine hK.out _ _ (fun _ => KS.out _ HB3) ?_
            clear hK K
            (try simp only [Act.put, List.setIfInBounds_toArray, List.set_cons_zero, List.set_cons_succ])
            refine OrdT.AnyT.one (i := 20) (by kernel_rfl) (by rfl) (fun K hK => ?_)
            go_simp
            refine hK.out _ _ (fun _ => KS.out _ HB3) ?_
            clear hK K
            (try simp only [Act.put, List.setIfInBounds_toArray, List.set_cons_zero, List.set_cons_succ])
            refine OrdT.AnyT.one (i := 21) (by kernel_rfl) (by rfl) (fun K hK => ?_)
            obtain ⟨e2, e3, _, _, _⟩ := KS.out _ HB3
            go_simp
            refine hK.out _ _ (fun h => absurd rfl h) ?_
            clear hK K
            (try simp only [Act.put, List.setIfInBounds_toArray, List.set_cons_zero, List.set_cons_succ])
            refine OrdT.AnyT.done (by kernel_rfl) ?_ _
            refine NoPanic.normal ?_
            go_wp2
            go_ret
            exact FIN.out _ _ _ HB3 ho3
        · go_simp
          refine hK.out _ _ (fun _ => KS.out _ (by repeat (first | exact Below.refl _ _ | exact HB3 | exact HB2 | exact HB1 | refine bel_drew ?_ | refine bel_alloc ?_ (Nat.le_refl _) _))) ?_
          clear hK K
          (try simp only [Act.put, List.setIfInBounds_toArray, List.set_cons_zero, List.set_cons_succ])
          refine OrdT.AnyT.one (i := 1) (by kernel_rfl) (by rfl) (fun K hK => ?_)
          go_simp
          refine hK.out _ _ (fun _ => KS.out _ (by repeat (first | exact Below.refl _ _ | exact HB3 | exact HB2 | exact HB1 | refine bel_drew ?_ | refine bel_alloc ?_ (Nat.le_refl _) _))) ?_
          clear hK K
          (try simp only [Act.put, List.setIfInBounds_toArray, List.set_cons_zero, List.set_cons_succ])
          refine OrdT.AnyT.one (i := 8) (by kernel_rfl) (by rfl) (fun K hK => ?_)
          refine step_append_rd (some 77) (by rfl) (by rfl) _ _ 39 (by rfl) wc.heap.size 38 i0 (.agg #[.int .i64 0, .int .i64 0, .int .i64 0]) 3 24 Try.underlying39 hi hz0 hz1' hz2 rfl (by decide) (.slice (some ⟨wc.heap.size + 1, 0, none⟩) 0 0) 0 [] (by rfl) (by exact own_empty (by first | exact heap_alloc_at _ _ _ (by simp) | exact (Below.heap_alloc _ _ _ (by simp)).trans (heap_alloc_at _ _ _ (by simp))) (by first | exact Nat.le_refl _ | simp)) _ (.slice p1 k c1) k TK (by rfl) (by exact (R1.out.below (by repeat (first | exact Below.refl _ _ | exact HB3 | exact HB2 | exact HB1 | refine bel_drew ?_ | refine bel_alloc ?_ (Nat.le_refl _) _)))) (by exact ON1.out) k (by exact Nat.zero_add k) TK (by exact List.nil_append TK) (by exact SZ1.out.1) (by exact SZ1.out.2) (by exact bel_le (W := wc) (Nat.le_refl _) (by repeat (first | exact Below.refl _ _ | exact HB3 | exact HB2 | exact HB1 | refine bel_drew ?_ | refine bel_alloc ?_ (Nat.le_refl _) _))) ?_
          intro q1 d1 w1 ho1 hg1 ha1 hp1
          have HB1 : Below wc.heap.size wc w1 := below_grown (by repeat (first | exact Below.refl _ _ | exact HB3 | exact HB2 | exact HB1 | refine bel_drew ?_ | refine bel_alloc ?_ (Nat.le_refl _) _)) (by exact bel_le (W := wc) (Nat.le_refl _) (by repeat (first | exact Below.refl _ _ | exact HB3 | exact HB2 | exact HB1 | refine bel_drew ?_ | refine bel_alloc ?_ (Nat.le_refl _) _))) hg1 hp1
          clear ha1 hp1
          refine hK.out _ _ (fun _ => KS.out _ HB1) ?_
          clear hK K
          (try simp only [Act.put, List.setIfInBounds_toArray, List.set_cons_zero, List.set_cons_succ])
          refine OrdT.AnyT.one (i := 11) (by kernel_rfl) (by rfl) (fun K hK => ?_)
          refine step_append_rd (some 80) (by rfl) (by rfl) _ _ 39 (by rfl) wc.heap.size 38 i0 (.agg #[.int .i64 0, .int .i64 0, .int .i64 0]) 3 24 Try.underlying39 hi hz0 hz1' hz2 rfl (by decide) (.slice q1 k d1) k TK (by rfl) (by first | exact ho1 | exact own_kept ho1 (fun k e => Below.heap_alloc _ _ _ (own_lt ho1 k e))) _ _ 1 [.int .i64 c, .int .i64 id, .int .i64 t] (by rfl) (by exact rd_one (cs := #[.int .i64 c, .int .i64 id, .int .i64 t]) (by exact (hg1.block _ (by first | (simp; done) | (simp; omega)) (by simp [Value.ownBlock])).trans (by exact (Below.heap_alloc _ _ _ (by simp)).trans (heap_alloc_at _ _ _ (by simp)))) rfl) (by exact ON2.out) (k + 1) (by exact rfl) TK2 (by exact TE2.out) (by exact SZ2.out.1) (by exact SZ2.out.2) (by exact bel_le (W := wc) (Nat.le_refl _) (by repeat (first | exact Below.refl _ _ | exact HB3 | exact HB2 | exact HB1 | refine bel_drew ?_ | refine bel_alloc ?_ (Nat.le_refl _) _))) ?_
          intro q2 d2 w2 ho2 hg2 ha2 hp2
          have HB2 : Below wc.heap.size wc w2 := below_grown (by repeat (first | exact Below.refl _ _ | exact HB3 | exact HB2 | exact HB1 | refine bel_drew ?_ | refine bel_alloc ?_ (Nat.le_refl _) _)) (by exact bel_le (W := wc) (Nat.le_refl _) (by repeat (first | exact Below.refl _ _ | exact HB3 | exact HB2 | exact HB1 | refine bel_drew ?_ | refine bel_alloc ?_ (Nat.le_refl _) _))) hg2 hp2
          clear ha2 hp2
          refine hK.out _ _ (fun _ => KS.out _ HB2) ?_
          clear hK K
          (try simp only [Act.put, List.setIfInBounds_toArray, List.set_cons_zero, List.set_cons_succ])
          refine OrdT.AnyT.one (i := 18) (by kernel_rfl) (by rfl) (fun K hK => ?_)
          refine step_append_rd (some 87) (by rfl) (by rfl) _ _ 39 (by rfl) wc.heap.size 38 i0 (.agg #[.int .i64 0, .int .i64 0, .int .i64 0]) 3 24 Try.underlying39 hi hz0 hz1' hz2 rfl (by decide) (.slice q2 (k + 1) d2) (k + 1) TK2 (by rfl) (by exact ho2) _ (.slice p2 m c2') m DK (by rfl) (by exact (R2.out.below (by repeat (first | exact Below.refl _ _ | exact HB3 | exact HB2 | exact HB1 | refine bel_drew ?_ | refine bel_alloc ?_ (Nat.le_refl _) _)))) (by exact ON3.out) (L1.length + 1) (by exact KM.out) TK3 (by exact TE3.out) (by exact SZ3.out.1) (by exact SZ3.out.2) (by exact bel_le (W := wc) (Nat.le_refl _) (by repeat (first | exact Below.refl _ _ | exact HB3 | exact HB2 | exact HB1 | refine bel_drew ?_ | refine bel_alloc ?_ (Nat.le_refl _) _))) ?_
          intro q3 d3 w3 ho3 hg3 ha3 hp3
          have HB3 : Below wc.heap.size wc w3 := below_grown (by repeat (first | exact Below.refl _ _ | exact HB3 | exact HB2 | exact HB1 | refine bel_drew ?_ | refine bel_alloc ?_ (Nat.le_refl _) _)) (by exact bel_le (W := wc) (Nat.le_refl _) (by repeat (first | exact Below.refl _ _ | exact HB3 | exact HB2 | exact HB1 | refine bel_drew ?_ | refine bel_alloc ?_ (Nat.le_refl _) _))) hg3 hp3
          clear ha3 hp3
          refine hK.out _ _ (fun _ => KS.out _ HB3) ?_
          clear hK K
          (try simp only [Act.put, List.setIfInBounds_toArray, List.set_cons_zero, List.set_cons_succ])
          refine OrdT.AnyT.one (i := 19) (by kernel_rfl) (by rfl) (fun K hK => ?_)
          go_simp
          refine hK.out _ _ (fun _ => KS.out _ HB3) ?_
          clear hK K
          (try simp only [Act.put, List.setIfInBounds_toArray, List.set_cons_zero, List.set_cons_succ])
          refine OrdT.AnyT.one (i := 20) (by kernel_rfl) (by rfl) (fun K hK => ?_)
          go_simp
          refine hK.out _ _ (fun _ => KS.out _ HB3) ?_
          clear hK K
          (try simp only [Act.put, List.setIfInBounds_toArray, List.set_cons_zero, List.set_cons_succ])
          refine OrdT.AnyT.one (i := 21) (by kernel_rfl) (by rfl) (fun K hK => ?_)
          obtain ⟨e2, e3, _, _, _⟩ := KS.out _ HB3
          go_simp
          refine hK.out _ _ (fun h => absurd rfl h) ?_
          clear hK K
          (try simp only [Act.put, List.setIfInBounds_toArray, List.set_cons_zero, List.set_cons_succ])
          refine OrdT.AnyT.done (by kernel_rfl) ?_ _
          refine NoPanic.normal ?_
          go_wp2
          go_ret
          exact FIN.out _ _ _ HB3 ho3
      · have hkn : k < L1.length := by
          have := TE.out
          by_cases hkn : k < L1.length
          · exact hkn
          · rw [decide_eq_false hkn] at this; simp at this
        have HR2 : Hid (∀ j, j < k + 1 → rlt (atR L1 j) (c, id, t)) := hide (fun j hj => by
          rcases Nat.lt_or_ge j k with h1 | h1
          · exact HR.out j h1
          · obtain rfl : j = k := by omega
            have := TE.out
            rw [decide_eq_true hkn] at this
            simpa using this.symm)
        go_wp2
        go_roundw
        case rel => exact ⟨k + 1, by omega, by go_num, HR2, RB2⟩
        case measure => simp [intOf]; omega
end
end Go.Proofs.Ytmdendffbjhdbaa.Con
