/- What (*Fault).Error answers of the Fault round the lock: open -1. -/
import Derived.Test.YtlfmlbkpkkegpaaFmtFErr2
namespace Go.Proofs.YtlfmlbkpkkegpaaFmt.Con
open Go.RowKit Go.Extern.Stop Go.Stop Go.Extern Go.Shelf
set_option linter.unusedVariables false

theorem compF : (Tryf.prog.info? 32).map (·.comparable) = some true := by kernel_rfl
theorem sizeF : (Tryf.prog.info? 36).map (·.size) = some 3 := by kernel_rfl
theorem run_neq_iface_ptr_same {P : Program} (w : World) {ti tp te : TypeId} {ms : Array (String × TypeId)} {i j : TypeInfo} (a : Addr)
    (hi : P.underlying ti = some (.interface ms)) (hp : P.underlying tp = some (.pointer te)) (hinfo : P.info? tp = some i) (hcomp : i.comparable = true) (hte : P.info? te = some j) :
    (binOp .neq ti (.iface tp (.pointer (some a))) (.iface tp (.pointer (some a)))).run P w = .ok (.bool false) w := by
  simp only [binOp]
  simp [Op.equal, Op.maxDepth, run_equalIn_iface_ptr_same w 9998 a hi hp hinfo hcomp hte]

def openS : ByteArray := ⟨#[111, 112, 101, 110]⟩
def saidO : List UInt8 := [111, 112, 101, 110, 32, 45, 49, 58, 32, 108, 111, 99, 107, 32, 51, 58, 32, 101, 114, 114, 111, 114, 32, 53]
theorem headO : openS ++ (⟨#[32]⟩ : ByteArray) ++ ⟨#[45, 49]⟩ ++ ⟨#[58, 32]⟩ = ⟨#[111, 112, 101, 110, 32, 45, 49, 58, 32]⟩ := by decide +kernel
theorem szO : ([] : List Value).length + (openS ++ (⟨#[32]⟩ : ByteArray) ++ ⟨#[45, 49]⟩ ++ ⟨#[58, 32]⟩).size ≤ 140737488355328 := by
  rw [headO]; exact of_decide_eq_true rfl
theorem szO2 : (([] : List Value) ++ Lib.strCells (openS ++ (⟨#[32]⟩ : ByteArray) ++ ⟨#[45, 49]⟩ ++ ⟨#[58, 32]⟩)).length + (lock ++ (⟨#[32]⟩ : ByteArray) ++ ⟨#[51]⟩ ++ ⟨#[58, 32]⟩).size ≤ 140737488355328 := by
  rw [headO, headA, List.nil_append, Lib.strCells_length]; exact of_decide_eq_true rfl
theorem szO3 : (([] : List Value) ++ Lib.strCells (openS ++ (⟨#[32]⟩ : ByteArray) ++ ⟨#[45, 49]⟩ ++ ⟨#[58, 32]⟩) ++ Lib.strCells (lock ++ (⟨#[32]⟩ : ByteArray) ++ ⟨#[51]⟩ ++ ⟨#[58, 32]⟩)).length + err5.size ≤ 140737488355328 := by
  rw [headO, headA, List.nil_append, List.length_append, Lib.strCells_length, Lib.strCells_length]; exact of_decide_eq_true rfl
theorem cellsO : ([] : List Value) ++ Lib.strCells (openS ++ (⟨#[32]⟩ : ByteArray) ++ ⟨#[45, 49]⟩ ++ ⟨#[58, 32]⟩) ++ Lib.strCells (lock ++ (⟨#[32]⟩ : ByteArray) ++ ⟨#[51]⟩ ++ ⟨#[58, 32]⟩) ++ Lib.strCells err5 = Lib.byteCells saidO := by
  rw [headO, headA, List.nil_append, Lib.strCells_eq, Lib.strCells_eq, Lib.strCells_eq, ← Lib.byteCells_append, ← Lib.byteCells_append]; rfl

set_option maxRecDepth 100000 in
set_option maxHeartbeats 8000000 in
theorem error_open (bo b : Nat) (w : World) (hg : Laid w) (ht : Tab w)
    (g0 : w.cell? ⟨bo, 0, none⟩ = some (.string openS)) (g1 : w.cell? ⟨bo, 1, none⟩ = some (.int .i64 (-1))) (g2 : w.cell? ⟨bo, 2, none⟩ = some (.iface 32 (.pointer (some ⟨b, 0, none⟩))))
    (h0 : w.cell? ⟨b, 0, none⟩ = some (.string lock)) (h1 : w.cell? ⟨b, 1, none⟩ = some (.int .i64 3)) (h2 : w.cell? ⟨b, 2, none⟩ = some (.iface 26 (.int .i64 5))) :
    Calls Tryf.prog 17 #[.pointer (some ⟨bo, 0, none⟩)] w fun e w' => e = .returned (.string ⟨saidO.toArray⟩) ∧ Below w.heap.size w w' := by
  have hb : b < w.heap.size := by
    rcases Nat.lt_or_ge b w.heap.size with h | h
    · exact h
    · simp [World.cell?, Array.getElem?_eq_none h] at h0
  have hbo : bo < w.heap.size := by
    rcases Nat.lt_or_ge bo w.heap.size with h | h
    · exact h
    · simp [World.cell?, Array.getElem?_eq_none h] at g0
  have b0 : Below w.heap.size w (w.alloc (.cells #[.pointer none, .slice none 0 0] 77)) := (Below.refl _ w).alloc (Nat.le_refl _) _
  have i0 : Lib.IsBuilderF 77 5 w.heap.size w.heap.size [] (w.alloc (.cells #[.pointer none, .slice none 0 0] 77)) := Lib.IsBuilderF.of (Lib.fresh_isBuilder 77 5 w)
  have k0 := (b0.cell (p := ⟨bo, 0, none⟩) hbo).trans g0
  have k1 := (b0.cell (p := ⟨bo, 1, none⟩) hbo).trans g1
  have T0 := hide (show Tab (w.alloc (.cells #[.pointer none, .slice none 0 0] 77)).drew from ht.below b0.drew)
  have hWsz : (w.alloc (.cells #[.pointer none, .slice none 0 0] 77)).heap.size = w.heap.size + 1 := by simp
  have B0 := hide b0
  have I0 := hide i0
  have HG := hide hg
  have H0 := hide h0; have H1 := hide h1; have H2 := hide h2; have G0 := hide g0; have G2 := hide g2
  obtain ⟨i, hi, hcmp⟩ := Option.map_eq_some_iff.1 compF
  obtain ⟨j, hj, hjs⟩ := Option.map_eq_some_iff.1 sizeF
  have NEQ := hide (fun w' => run_neq_iface_ptr_same (P := Tryf.prog) w' ⟨b, 0, none⟩ Tryf.underlying24 Tryf.underlying32 hi hcmp hj)
  clear b0 i0 hg h0 h1 h2 g0 g1 g2 ht hi hcmp hj hjs
  have z0 : lock.size = 4 := by decide +kernel
  have z1 : openS.size = 4 := by decide +kernel
  go_enter Tryf.func17, Tryf.ntmps17
  go_wp2
  refine wp_loop_rounds 2 ?_
  rw [rounds_succ]
  go_wp2
  go_region_with (first
    | (go_at_call 30; refine (itoam1 _ (unhide T0)).mono ?_; rintro e wq ⟨rfl, hbq⟩; have kq := (hbq.cell (p := ⟨bo, 0, none⟩) (by simp; omega)).trans k0)
    | (go_at_call 29; refine (write_f w.heap.size w.heap.size [] _ _ (by exact isB_below (isB_drew (unhide I0)) hbq) (by exact szO) (by exact Nat.le_trans (by simp) hbq.size)).mono ?_; rintro e w1 ⟨rfl, i1, b1⟩))
  all_goals
    have B1 : Below w.heap.size w w1 := ((unhide B0).drew.trans (hbq.mono (by simp))).trans b1
    have c2 : w1.cell? ⟨bo, 2, none⟩ = some (.iface 32 (.pointer (some ⟨b, 0, none⟩))) := (B1.cell (p := ⟨bo, 2, none⟩) hbo).trans (unhide G2)
    have I1 := hide i1
    clear k0 k1 kq hbq b1 i1
    go_wp2_with (go_at_call 31; refine (outer_fault ⟨b, 0, none⟩ _ ((unhide HG).below (unhide HG).pos B1)).mono ?_)
    rintro e w2 ⟨rfl, b2⟩
    have d2 : w2.cell? ⟨bo, 2, none⟩ = some (.iface 32 (.pointer (some ⟨b, 0, none⟩))) := (b2.cell (p := ⟨bo, 2, none⟩) (Nat.lt_of_lt_of_le hbo B1.size)).trans c2
    have I2 := hide (isB_below (unhide I1) b2)
    have B2 : Below w.heap.size w w2 := B1.trans (b2.mono B1.size)
    have hne := unhide NEQ w2
    have m0 : w2.cell? ⟨b, 0, none⟩ = some (.string lock) := (B2.cell (p := ⟨b, 0, none⟩) hb).trans (unhide H0)
    have m1 : w2.cell? ⟨b, 1, none⟩ = some (.int .i64 3) := (B2.cell (p := ⟨b, 1, none⟩) hb).trans (unhide H1)
    clear c2 I1 b2 B1
    go_wp2
    rw [rounds_succ]
    go_wp2
    refine region_tail 12 (by kernel_rfl) (by kernel_rfl) ?_
    simp only [List.take_succ_cons, List.take_zero, List.drop_succ_cons, List.drop_zero]
    repeat still_step
    still_call (itoa3 _)
    repeat still_step
    refine wpStill_nil ?_
    go_wp2_with fail
    refine (write_f w.heap.size w.heap.size _ _ _ (by exact isB_drew (unhide I2)) (by exact szO2) (by exact B2.size)).mono ?_
    rintro e w3 ⟨rfl, i3, b3⟩
    have B3 : Below w.heap.size w w3 := B2.drew.trans b3
    have I3 := hide i3
    clear i3 b3 m0 m1 I2 hne d2 B2
    have e2 : w3.cell? ⟨b, 2, none⟩ = some (.iface 26 (.int .i64 5)) := (B3.cell (p := ⟨b, 2, none⟩) hb).trans (unhide H2)
    go_wp2_with (go_at_call 31; refine (outer_no 5 _ ((unhide HG).below (unhide HG).pos B3)).mono ?_)
    rintro e w4 ⟨rfl, b4⟩
    have f2 : w4.cell? ⟨b, 2, none⟩ = some (.iface 26 (.int .i64 5)) := (b4.cell (p := ⟨b, 2, none⟩) (Nat.lt_of_lt_of_le hb B3.size)).trans e2
    have I4 := hide (isB_below (unhide I3) b4)
    have B4 : Below w.heap.size w w4 := B3.trans (b4.mono B3.size)
    have hne4 := run_neq_iface_types (P := Tryf.prog) 32 26 (.pointer none) (.int .i64 5) Tryf.underlying24 (by decide) w4
    clear e2 I3 b4 B3
    go_wp2_with (go_at_call 32; refine (words5 _).mono ?_)
    rintro e w5 ⟨rfl, b5⟩
    have I5 := hide (isB_below (unhide I4) b5)
    have B5 : Below w.heap.size w w5 := B4.trans (b5.mono B4.size)
    clear I4 b5 B4 hne4 f2
    go_wp2_with fail
    refine (write_f w.heap.size w.heap.size _ err5 _ (unhide I5) (by exact szO3) B5.size).mono ?_
    rintro e w6 ⟨rfl, i6, b6⟩
    have i6' : Lib.IsBuilderF 77 5 w.heap.size w.heap.size (Lib.byteCells saidO) w6 := by rw [← cellsO]; exact i6
    have I6 := hide i6'
    have B6 : Below w.heap.size w w6 := B5.trans b6
    clear i6 i6' b6 I5 B5
    go_wp2_with (go_at_call 33; refine (Tryf.Builder_String_any_f w.heap.size w.heap.size saidO _ (unhide I6) B6.size).mono ?_)
    rintro e w7 ⟨rfl, _, b7⟩
    go_wp2
    go_ret
    exact ⟨rfl, B6.trans b7⟩
end Go.Proofs.YtlfmlbkpkkegpaaFmt.Con
