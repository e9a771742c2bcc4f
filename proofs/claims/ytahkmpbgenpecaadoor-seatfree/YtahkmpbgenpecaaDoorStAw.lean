/- Awake. -/
import Derived.Test.YtahkmpbgenpecaaDoorStCon
namespace Go.Proofs.YtahkmpbgenpecaaDoor.St
open Go.RowKit Go.Proofs.YtahkmpbgenpecaaDoor.Con Go.Proofs.YtahkmpbgenpecaaDoor.Mk
set_option linter.unusedVariables false
set_option linter.unusedSimpArgs false
attribute [local go_sem ↓] Go.wp_at_zero Go.wp_at_succ
theorem Is.nil (w : World) : Is w (.slice none 0 0) [] := ⟨rfl, none, 0, rfl, Nat.le_refl _, by unfold maxLen; omega, fun h => by simp at h⟩
theorem Is.new (w : World) (l : List Int) (e : Nat) (hl : l.length ≤ 100) : Is (w.alloc (.cells (ivs l).toArray e)) (.slice (some ⟨w.heap.size, 0, none⟩) l.length l.length) l := Is.lit (heap_alloc_new w _) hl
theorem Is.new2 (w : World) (o : Obj) (l : List Int) (e : Nat) (hl : l.length ≤ 100) : Is ((w.alloc o).alloc (.cells (ivs l).toArray e)) (.slice (some ⟨w.heap.size + 1, 0, none⟩) l.length l.length) l := by
  have := Is.new (w.alloc o) l e hl
  simpa using this
theorem ints_lit {w : World} {v : Value} {l : List Int} (h : Is w v l) (l' : List Int) (hl : l'.length ≤ 100) : Calls Tryd.prog 10 #[v, .slice (some ⟨w.heap.size, 0, none⟩) l'.length l'.length] (w.alloc (.cells (ivs l').toArray 3)) fun e w' => e = .returned (.bool (decide (l = l'))) ∧ Nx w w' := by
  refine (ints_any (h.below (Nx.alloc w _)) (Is.new w l' _ hl)).mono ?_
  rintro e w' ⟨rfl, hb⟩
  exact ⟨rfl, Nx.trans (Nx.alloc _ _) hb⟩
theorem aw_give : giveL [3, -1] [5, 3] = [3, 5] ∧ giveN [3, -1] [5, 3] = 1 ∧ goodS [3, -1] [5, 3] = true := by decide +kernel
set_option maxHeartbeats 8000000 in
set_option maxRecDepth 100000 in
theorem awake_of (hG : Hid GoodC) (hV : Hid GiveC) : AwakeC := by
  intro W HT
  have HT := hide HT
  have CV : Hid (∀ w : World, Tab w → Calls Tryd.prog 8 #[.slice (some ⟨w.heap.size, 0, none⟩) 2 2, .slice (some ⟨w.heap.size + 1, 0, none⟩) 2 2] ((w.alloc (.cells #[.int .i64 3, .int .i64 (-1)] 3)).alloc (.cells #[.int .i64 5, .int .i64 3] 3)) fun e w' => ∃ v', e = .returned (.tuple #[v', .int .i64 1]) ∧ Hid (Is w' v' [3, 5]) ∧ Nx w w') := hide (fun w hw => by
    have h := hV.out [3, -1] [5, 3] _ _ ((w.alloc (.cells #[.int .i64 3, .int .i64 (-1)] 3)).alloc (.cells #[.int .i64 5, .int .i64 3] 3)) ((Is.new w [3, -1] 3 (by decide)).below (Nx.alloc _ _)) (Is.new2 w (.cells #[.int .i64 3, .int .i64 (-1)] 3) [5, 3] 3 (by decide)) (by decide) (by decide) (hw.on (Nx.trans (Nx.alloc _ _) (Nx.alloc _ _)))
    rw [aw_give.1, aw_give.2.1] at h
    refine h.mono ?_
    rintro e w' ⟨v, rfl, hI, hb⟩
    exact ⟨v, rfl, hI, Nx.trans (Nx.trans (Nx.alloc _ _) (Nx.alloc _ _)) hb⟩)
  have CG : Hid (∀ w : World, Calls Tryd.prog 14 #[.slice (some ⟨w.heap.size, 0, none⟩) 2 2, .slice (some ⟨w.heap.size + 1, 0, none⟩) 2 2] ((w.alloc (.cells #[.int .i64 3, .int .i64 (-1)] 3)).alloc (.cells #[.int .i64 5, .int .i64 3] 3)) fun e w' => e = .returned (.bool true) ∧ Nx w w') := hide (fun w => by
    have h := hG.out [3, -1] [5, 3] _ _ ((w.alloc (.cells #[.int .i64 3, .int .i64 (-1)] 3)).alloc (.cells #[.int .i64 5, .int .i64 3] 3)) ((Is.new w [3, -1] 3 (by decide)).below (Nx.alloc _ _)) (Is.new2 w (.cells #[.int .i64 3, .int .i64 (-1)] 3) [5, 3] 3 (by decide)) (by decide)
    rw [aw_give.2.2] at h
    refine h.mono ?_
    rintro e w' ⟨rfl, hb⟩
    exact ⟨rfl, Nx.trans (Nx.trans (Nx.alloc _ _) (Nx.alloc _ _)) hb⟩)
  clear hG hV
  go_enter Tryd.func7, Tryd.ntmps7
  go_wp2_with fail
  refine (CV.out _ HT.out).mono ?_
  rintro ee w1 ⟨v, rfl, hI, hb⟩
  have Iv := hide hI.out
  clear hI
  have N1 := hide (hb)
  have T1 := hide (HT.out.on hb)
  clear hb HT
  go_wp2_with fail
  refine (ints_lit Iv.out [3, 5] (by decide)).mono ?_
  rintro ee w2 ⟨rfl, hb⟩
  have Ivn := hide (Iv.out.below hb)
  clear Iv
  have Iv := Ivn
  clear Ivn
  have N2 := hide (Nx.trans N1.out hb)
  have T2 := hide (T1.out.on hb)
  clear hb N1 T1
  clear Iv
  go_wp2_with fail
  refine (CG.out _).mono ?_
  rintro ee w3 ⟨rfl, hb⟩
  have N3 := hide (Nx.trans N2.out hb)
  have T3 := hide (T2.out.on hb)
  clear hb N2 T2
  go_wp2
  go_ret
  exact ⟨rfl, N3.out⟩
end Go.Proofs.YtahkmpbgenpecaaDoor.St
