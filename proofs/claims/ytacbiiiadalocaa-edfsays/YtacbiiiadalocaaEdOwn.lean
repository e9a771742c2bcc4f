/- The law's own: ints, ent, ents. -/
import Derived.Test.YtacbiiiadalocaaEdRs
namespace Go.Proofs.Ytacbiiiadalocaa.Ed
open Go.RowKit Go.Proofs.Ytacbiiiadalocaa.Con
set_option linter.unusedVariables false
set_option linter.unusedSimpArgs false
attribute [local go_sem ↓] Go.wp_at_zero Go.wp_at_succ
theorem list_ext0 {a b : List Int} (h : a.length = b.length) (h2 : ∀ k, k < a.length → a.getD k 0 = b.getD k 0) : a = b := by
  apply List.ext_getElem h
  intro k h1 h3
  have := h2 k h1
  rwa [List.getD_eq_getElem?_getD, List.getD_eq_getElem?_getD, List.getElem?_eq_getElem h1, List.getElem?_eq_getElem h3] at this
set_option maxHeartbeats 4000000 in
theorem ints_any {W : World} {va vb : Value} {a b : List Int} (ha : Is W va a) (hb : Is W vb b) : Calls Try.prog 15 #[va, vb] W fun e w' => e = .returned (.bool (decide (a = b))) ∧ Nx W w' := by
  obtain ⟨pa, ca, rfl, hna, hma⟩ := ha.form
  obtain ⟨pb, cb, rfl, hnb, hmb⟩ := hb.form
  have hmx : (a.length : Int) ≤ 9223372036854775807 := by unfold maxLen at hma; omega
  have HA := hide ha
  have HB := hide hb
  clear ha hb
  by_cases hl : a.length = b.length
  rotate_left
  · have FE := hide (show decide (a = b) = false from decide_eq_false fun e => hl (by rw [e]))
    have hl' : ((a.length : Int) != (b.length : Int)) = true := by simp; omega
    have hl2 : ((a.length : Int) == (b.length : Int)) = false := by simp; omega
    go_enter Try.func15, Try.ntmps15
    go_wp2
    go_ret
    exact ⟨by rw [FE.out]; rfl, Nx.refl _⟩
  have hl' : ((a.length : Int) != (b.length : Int)) = false := by simp; omega
  have HY : Hid ((∀ k, k < a.length → a.getD k 0 = b.getD k 0) → decide (a = b) = true) := hide (fun h => decide_eq_true (list_ext0 hl h))
  have HX : Hid (∀ k, a.getD k 0 ≠ b.getD k 0 → decide (a = b) = false) := hide (fun k h => decide_eq_false fun e => h (by rw [e]))
  have hlb : (b.length : Int) = (a.length : Int) := by omega
  go_enter Try.func15, Try.ntmps15
  go_wp2
  go_loopw [5] (fun i wr => ∃ k : Nat, k ≤ a.length ∧ i = .int .i64 (k : Int) ∧ Hid (∀ j, j < k → a.getD j 0 = b.getD j 0) ∧ Hid (Nx W wr)) (fun i _ => a.length - (intOf i).toNat)
  case atStart => exact ⟨0, by omega, rfl, hide (fun j hj => by omega), hide (Nx.refl _)⟩
  case round =>
    obtain ⟨k, hk, rfl, HR, HN⟩ := hrel
    by_cases hkn : k < a.length
    rotate_left
    · obtain rfl : k = a.length := by omega
      have FE := hide (HY.out HR.out)
      go_wp2
      go_ret
      exact ⟨by rw [FE.out]; rfl, HN.out⟩
    have hk1 : (k : Int) < (a.length : Int) := by omega
    have hk2 : (k : Int) < (b.length : Int) := by omega
    obtain ⟨ba, oa, rfl, hba, x0⟩ := (HA.out.below HN.out).at hkn
    obtain ⟨bb, ob, rfl, hbb, y0⟩ := (HB.out.below HN.out).at (show k < b.length by omega)
    have HN' : Hid (∀ n, Nx W (wr.drewN n)) := hide (fun n => bel_drewN HN.out n)
    clear HN
    by_cases he : a.getD k 0 = b.getD k 0
    · have HR2 : Hid (∀ j, j < k + 1 → a.getD j 0 = b.getD j 0) := hide (fun j hj => by
        rcases Nat.lt_or_ge j k with g | g
        · exact HR.out j g
        · obtain rfl : j = k := by omega
          exact he)
      rw [he] at x0
      clear HR he
      generalize b.getD k 0 = c at *
      go_wp2
      go_quiet (fail)
      go_wp2
      go_round
      case rel => exact ⟨k + 1, by omega, by go_num, HR2, hide (HN'.out _)⟩
      case measure => simp [intOf]; omega
    · have FE := hide (HX.out k he)
      clear HR
      generalize a.getD k 0 = c at *
      generalize b.getD k 0 = d at *
      have he' : (c != d) = true := by simp [he]
      go_wp2
      go_quiet (fail)
      go_wp2
      go_ret
      exact ⟨by rw [FE.out]; rfl, HN'.out _⟩
theorem sizeEr : (Try.prog.info? 37).map (·.size) = some 3 := by kernel_rfl
set_option maxHeartbeats 2000000 in
theorem ent_any (e0 : Et) (W : World) : Calls Try.prog 20 #[ev e0] W fun e w' => e = .returned (ev e0) ∧ Nx W w' := by
  obtain ⟨a0, a1, a2⟩ := e0
  have HB := hide (bel2 (W := W) (.cells #[.int .i64 a0, .int .i64 a1, .bool a2] 24) (.cells #[.int .i64 a0, .int .i64 a1, .bool a2] 37))
  go_enter Try.func20, Try.ntmps20
  go_wp2
  have PR : Hid (((W.alloc (.cells #[.int .i64 a0, .int .i64 a1, .bool a2] 24)).alloc (.cells #[.int .i64 a0, .int .i64 a1, .bool a2] 37)).heap[W.heap.size + 1]? = some (.cells #[.int .i64 a0, .int .i64 a1, .bool a2] 37 (0, 0))) := hide (by
    have := heap_alloc_new (W.alloc (.cells #[.int .i64 a0, .int .i64 a1, .bool a2] 24)) (.cells #[.int .i64 a0, .int .i64 a1, .bool a2] 37)
    simpa using this)
  refine bodyPost_ret (v := .agg #[.int .i64 a0, .int .i64 a1, .bool a2]) ?_ rfl ⟨rfl, HB.out⟩
  exact results_cell_row (p := 2) (ty := 37) Try.results20 _ _ (W.heap.size + 1) 37 _ (0, 0) _ rfl PR.out Try.underlying37 rfl sizeEr
theorem infoEr : (Try.prog.info? 37).map (fun i => (i.zero, i.size, i.bytes)) = some (some (.agg #[.int .i64 0, .int .i64 0, .bool false]), 3, 24) := by kernel_rfl
set_option maxHeartbeats 4000000 in
theorem ents_any {W : World} {v : Value} {L : List Et} (h : Sl W v L) (hl : L.length ≤ 100) : Calls Try.prog 16 #[v] W fun e w' => ∃ v', e = .returned v' ∧ Hid (w'.ownsRow W.heap.size 37 3 v' L.length (flatE L)) ∧ Nx W w' := by
  obtain ⟨p, cap, rfl, hn, hm⟩ := h.form
  have hmx : (L.length : Int) ≤ 9223372036854775807 := by unfold maxLen at hm; omega
  have H := hide h
  have HEn := hide (fun e w => ent_any e w)
  have HT : Hid (flatE (L.take L.length) = flatE L) := hide (by rw [List.take_length])
  clear h
  go_enter Try.func16, Try.ntmps16
  go_wp2
  go_loopw [3, 4] (fun r i wr => ∃ k : Nat, k ≤ L.length ∧ i = .int .i64 (k : Int) ∧ Hid (wr.ownsRow W.heap.size 37 3 r k (flatE (L.take k))) ∧ Hid (Nx W wr)) (fun _ i _ => L.length - (intOf i).toNat)
  case atStart => exact ⟨0, by omega, rfl, hide (World.ownsRow_nil _ _ _ _), hide (Nx.refl _)⟩
  case round =>
    obtain ⟨k, hk, rfl, HO, HN⟩ := hrel
    obtain ⟨p0, c0, rfl⟩ := ownF HO.out
    by_cases hkn : k < L.length
    rotate_left
    · obtain rfl : k = L.length := by omega
      have FO := HO.out
      rw [HT.out] at FO
      have FO := hide FO
      clear HO
      go_wp2
      go_ret
      exact ⟨_, rfl, FO, HN.out⟩
    have hk1 : (k : Int) < (L.length : Int) := by omega
    obtain ⟨b, o, rfl, hb, x0, x1, x2⟩ := (H.out.below HN.out).at hkn
    have hs := hide (flatE_snoc L k hkn)
    have HEk : Hid (∀ w, Calls Try.prog 20 #[.agg #[.int .i64 (at' L k).1, .int .i64 (at' L k).2.1, .bool (at' L k).2.2]] w fun e w' => e = .returned (.agg #[.int .i64 (at' L k).1, .int .i64 (at' L k).2.1, .bool (at' L k).2.2]) ∧ Nx w w') := hide (fun w => HEn.out (at' L k) w)
    generalize (at' L k).1 = y0 at *
    generalize (at' L k).2.1 = y1 at *
    generalize (at' L k).2.2 = y2 at *
    go_wp2_with fail
    refine (HEk.out _).mono ?_
    rintro e w5 ⟨rfl, hb5⟩
    have OW := hide (ownN HO.out hb5)
    have BD := hide (Nx.trans HN.out hb5)
    clear hb5 HO HN x0 x1 x2
    generalize flatE (L.take k) = FL at *
    go_wp2_with (at_builtin; refine wpList_app (w := w5) rfl _ _ 35 rfl #[.int .i64 y0, .int .i64 y1, .bool y2] rfl rfl rfl Try.underlying35 infoEr rfl (by decide) (by decide) OW.out BD.out.size (by omega) rfl (by intro u hu; simp at hu; rcases hu with rfl | rfl | rfl <;> rfl) ?_; intro p6 c6 w6 HA6; refine Hid.out ?_)
    refine hide ?_
    have HB6 := hide (below_grown BD.out BD.out.size HA6.out.2 (own_past OW.out))
    have HO6 : Hid (w6.ownsRow W.heap.size 37 3 (.slice p6 (k + 1) c6) (k + 1) (flatE (L.take (k + 1)))) := hide (by rw [hs.out]; exact HA6.out.1)
    clear HA6 BD OW hs
    go_wp2
    go_roundw
    case rel => exact ⟨k + 1, by omega, by go_num, HO6, HB6⟩
    case measure => simp [intOf]; omega
end Go.Proofs.Ytacbiiiadalocaa.Ed
