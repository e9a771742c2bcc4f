/- What (*Fault).Error answers of a Fault round the lock with an ID below 0, and of one with nothing in it. -/
import Derived.Test.YtlfmlbkpkkegpaaFmtFErr
namespace Go.Proofs.YtlfmlbkpkkegpaaFmt.Con
open Go.RowKit Go.Extern.Stop Go.Stop Go.Extern Go.Shelf
set_option linter.unusedVariables false

/-- The table of powers of ten holds what its initialiser lays. -/
def Tab (w : World) : Prop := Lib.TabIs Tryf.prog w "internal/strconv.uint64pow10" .u64 Lib.pow10Tab
theorem tabG : Tryf.prog.globalNamed "internal/strconv.uint64pow10" = some 1 := by kernel_rfl
theorem Tab.lt {w : World} (h : Tab w) : 1 < w.heap.size := by
  unfold Tab Lib.TabIs World.var? at h
  rw [tabG] at h
  rcases Nat.lt_or_ge 1 w.heap.size with h' | h'
  · exact h'
  · simp [Array.getElem?_eq_none h'] at h
theorem Tab.below {w w' : World} (h : Tab w) (hb : Below w.heap.size w w') : Tab w' := by
  have hl := h.lt
  unfold Tab Lib.TabIs World.var? at h ⊢
  rw [tabG] at h ⊢
  simp only [Option.bind_some] at h ⊢
  rw [hb.block _ hl]; exact h

theorem itoam1 (w : World) (h : Tab w) : Calls Tryf.prog 30 #[.int .i64 (-1)] w fun e w' => e = .returned (.string ⟨#[45, 49]⟩) ∧ Below w.heap.size w w' := by
  refine (Tryf.strconv_Itoa (-1) (by decide) (by decide) w h).mono ?_
  rintro e w' ⟨rfl, k, os, rfl⟩
  refine ⟨by rw [show Lib.itoa (-1) = [45, 49] from by decide +kernel], rfl, rfl, rfl, by simp [Sort.grow, World.drewN], fun j hj => by simp [Sort.grow, World.drewN, Array.getElem?_append, hj]⟩
theorem itoa1 (w : World) : Calls Tryf.prog 30 #[.int .i64 1] w fun e w' => e = .returned (.string ⟨#[49]⟩) ∧ w' = w := by
  have h := Tryf.strconv_Itoa_small 1 (by decide) w
  rw [show Lib.decDigits 1 = [49] from by decide +kernel] at h
  exact h

def nameA : ByteArray := ⟨#[97]⟩
def saidA : List UInt8 := [97, 32, 49, 58, 32, 111, 107]
theorem headE : nameA ++ (⟨#[32]⟩ : ByteArray) ++ ⟨#[49]⟩ ++ ⟨#[58, 32]⟩ = ⟨#[97, 32, 49, 58, 32]⟩ := by decide +kernel
theorem szE : ([] : List Value).length + (nameA ++ (⟨#[32]⟩ : ByteArray) ++ ⟨#[49]⟩ ++ ⟨#[58, 32]⟩).size ≤ 140737488355328 := by
  rw [headE]; exact of_decide_eq_true rfl
theorem szE2 : (([] : List Value) ++ Lib.strCells (nameA ++ (⟨#[32]⟩ : ByteArray) ++ ⟨#[49]⟩ ++ ⟨#[58, 32]⟩)).length + (⟨#[111, 107]⟩ : ByteArray).size ≤ 140737488355328 := by
  rw [headE, List.nil_append, Lib.strCells_length]; exact of_decide_eq_true rfl
theorem cellsE : ([] : List Value) ++ Lib.strCells (nameA ++ (⟨#[32]⟩ : ByteArray) ++ ⟨#[49]⟩ ++ ⟨#[58, 32]⟩) ++ Lib.strCells ⟨#[111, 107]⟩ = Lib.byteCells saidA := by
  rw [headE, List.nil_append, Lib.strCells_eq, Lib.strCells_eq, ← Lib.byteCells_append]; rfl

set_option maxRecDepth 100000 in
set_option maxHeartbeats 4000000 in
theorem error_empty (b : Nat) (w : World) (h0 : w.cell? ⟨b, 0, none⟩ = some (.string nameA)) (h1 : w.cell? ⟨b, 1, none⟩ = some (.int .i64 1)) (h2 : w.cell? ⟨b, 2, none⟩ = some .nilIface) :
    Calls Tryf.prog 17 #[.pointer (some ⟨b, 0, none⟩)] w fun e w' => e = .returned (.string ⟨saidA.toArray⟩) ∧ Below w.heap.size w w' := by
  have hb : b < w.heap.size := by
    rcases Nat.lt_or_ge b w.heap.size with h | h
    · exact h
    · simp [World.cell?, Array.getElem?_eq_none h] at h0
  have b0 : Below w.heap.size w (w.alloc (.cells #[.pointer none, .slice none 0 0] 77)) := (Below.refl _ w).alloc (Nat.le_refl _) _
  have i0 : Lib.IsBuilderF 77 5 w.heap.size w.heap.size [] (w.alloc (.cells #[.pointer none, .slice none 0 0] 77)) := Lib.IsBuilderF.of (Lib.fresh_isBuilder 77 5 w)
  have k0 := (b0.cell (p := ⟨b, 0, none⟩) hb).trans h0
  have k1 := (b0.cell (p := ⟨b, 1, none⟩) hb).trans h1
  have k2 := (b0.cell (p := ⟨b, 2, none⟩) hb).trans h2
  have B0 := hide b0
  have I0 := hide i0
  have H2 := hide h2
  clear b0 i0 h0 h1 h2
  have z0 : nameA.size = 1 := by decide +kernel
  go_enter Tryf.func17, Tryf.ntmps17
  go_wp2
  refine wp_loop_rounds 1 ?_
  rw [rounds_succ]
  go_wp2
  refine region_tail 12 (by kernel_rfl) (by kernel_rfl) ?_
  simp only [List.take_succ_cons, List.take_zero, List.drop_succ_cons, List.drop_zero]
  repeat still_step
  still_call (itoa1 _)
  repeat still_step
  refine wpStill_nil ?_
  go_wp2_with fail
  refine (write_f w.heap.size w.heap.size [] _ _ (by exact isB_drew (unhide I0)) ?lim (by simp)).mono ?_
  case lim => exact szE
  rintro e w1 ⟨rfl, i1, b1⟩
  have B1 : Below w.heap.size w w1 := (unhide B0).trans (Below.trans (Below.drew (Below.refl _ _)) b1)
  clear k0 k1 k2 b1
  have c2 : w1.cell? ⟨b, 2, none⟩ = some .nilIface := (B1.cell (p := ⟨b, 2, none⟩) hb).trans (unhide H2)
  have I1 := hide i1
  clear i1
  go_wp2_with (go_at_call 31; refine (outer_nil _).mono ?_)
  rintro e w2 ⟨rfl, b2⟩
  have d2 : w2.cell? ⟨b, 2, none⟩ = some .nilIface := (b2.cell (p := ⟨b, 2, none⟩) (Nat.lt_of_lt_of_le hb B1.size)).trans c2
  have I2 := hide (isB_below (unhide I1) b2)
  have B2 : Below w.heap.size w w2 := B1.trans (b2.mono B1.size)
  clear c2 I1 b2 B1
  go_wp2_with (go_at_call 32; refine (words_nil _).mono ?_)
  rintro e w3 ⟨rfl, b3⟩
  have I3 := hide (isB_below (unhide I2) b3)
  have B3 : Below w.heap.size w w3 := B2.trans (b3.mono B2.size)
  clear I2 b3 B2 d2
  go_wp2_with fail
  refine (write_f w.heap.size w.heap.size _ ⟨#[111, 107]⟩ _ (unhide I3) ?lim2 B3.size).mono ?_
  case lim2 => exact szE2
  rintro e w4 ⟨rfl, i4, b4⟩
  have i4' : Lib.IsBuilderF 77 5 w.heap.size w.heap.size (Lib.byteCells saidA) w4 := by rw [← cellsE]; exact i4
  have I4 := hide i4'
  have B4 : Below w.heap.size w w4 := B3.trans b4
  clear i4 i4' b4 I3 B3
  go_wp2_with (go_at_call 33; refine (Tryf.Builder_String_any_f w.heap.size w.heap.size saidA _ (unhide I4) B4.size).mono ?_)
  rintro e w5 ⟨rfl, _, b5⟩
  go_wp2
  go_ret
  exact ⟨rfl, B4.trans b5⟩
end Go.Proofs.YtlfmlbkpkkegpaaFmt.Con
