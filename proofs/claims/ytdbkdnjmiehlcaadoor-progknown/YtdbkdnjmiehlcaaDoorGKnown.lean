/- ProgKnown's walk. -/
import Derived.Test.YtdbkdnjmiehlcaaDoorGJoins
namespace Go.Proofs.YtdbkdnjmiehlcaaDoor.Con
open Go.RowKit Go.Proofs.YtdbkdnjmiehlcaaDoor.Pm
set_option linter.unusedVariables false
set_option linter.unusedSimpArgs false
/-- What is no text of a program. -/
def bads : List (List UInt8) := [[], [43], [51, 43], [43, 51], [48], [48, 51], [51, 64, 48], [51, 64, 57], [51, 64], [64, 49], [51, 64, 49, 64, 49], [51, 64, 48, 49], [50, 49, 52, 55, 52, 56, 51, 54, 52, 57], [49, 43, 49, 43, 49, 43, 49, 43, 49, 43, 49, 43, 49, 43, 49, 43, 49], [97], [51, 32, 43, 50], [45, 49]]
def badT (k : Nat) : List UInt8 := bads.getD k []
theorem badT_none : ∀ k : Fin 17, parse (badT k.val) = none := by decide +kernel
theorem badT_len : ∀ k : Fin 17, (badT k.val).length < 1000000 := by decide +kernel
/-- What is no program. -/
def badL (k : Nat) : List St := [[], [(0, 0)], [(0, 2147483649)], [(9, 1)], [(-1, 1)], List.replicate 9 (0, 0)].getD k []
theorem badL_good : ∀ k : Fin 6, good (badL k.val) = false := by decide +kernel
def okT : List UInt8 := [50, 49, 52, 55, 52, 56, 51, 54, 52, 56, 43, 49, 64, 56, 43, 49]
def okL : List St := [(0, 2147483648), (8, 1), (0, 1)]
theorem ok_parse : parse okT = some okL := by decide +kernel
theorem ok_total : total okL = 2147483650 := by decide +kernel
theorem ok_holds : holds okL = 1 := by decide +kernel
theorem ok_fits7 : fits okL 7 = false := by decide +kernel
theorem ok_fits8 : fits okL 8 = true := by decide +kernel
theorem one_fits : fits [(0, 1)] 0 = true := by decide +kernel
theorem info64 : (Tryd.prog.info? 2).map (fun i => (i.zero, i.size, i.bytes)) = some (some (.int .i64 0), 1, 8) := by kernel_rfl
theorem Nx.alloc (w : World) (o : Obj) : Nx w (w.alloc o) := (Below.refl _ w).alloc (Nat.le_refl _) o
set_option maxHeartbeats 8000000 in
theorem known_walk (W : World) (hT : Tab W) : Calls Tryd.prog 3 #[] W fun e w' => e = .returned (.bool true) ∧ Below W.heap.size W w' := by
  have HA := hide (awake_any W hT)
  have T := hide hT
  clear hT
  have hN := hide (fun k (h : k < 17) => badT_none ⟨k, h⟩)
  have hL := hide (fun k (h : k < 17) => badT_len ⟨k, h⟩)
  have E1 := hide ok_parse
  have E2 := hide ok_total
  have E3 := hide ok_holds
  have E4 := hide ok_fits7
  have E5 := hide ok_fits8
  have E6 := hide one_fits
  have lt0 : okT.length < 1000000 := by decide
  have hsv : Hid (sv okT = .string ⟨#[50, 49, 52, 55, 52, 56, 51, 54, 52, 56, 43, 49, 64, 56, 43, 49]⟩) := hide rfl
  go_enter Tryd.func3, Tryd.ntmps3
  go_wp2_with fail
  refine HA.out.mono ?_
  rintro e w1 ⟨rfl, hb⟩
  have T1 := hide (T.out.on hb)
  have B1 := hide hb
  clear hb T HA
  go_wp2
  have harr : (#[.string ⟨#[]⟩, .string ⟨#[43]⟩, .string ⟨#[51, 43]⟩, .string ⟨#[43, 51]⟩, .string ⟨#[48]⟩, .string ⟨#[48, 51]⟩, .string ⟨#[51, 64, 48]⟩, .string ⟨#[51, 64, 57]⟩, .string ⟨#[51, 64]⟩, .string ⟨#[64, 49]⟩, .string ⟨#[51, 64, 49, 64, 49]⟩, .string ⟨#[51, 64, 48, 49]⟩, .string ⟨#[50, 49, 52, 55, 52, 56, 51, 54, 52, 57]⟩, .string ⟨#[49, 43, 49, 43, 49, 43, 49, 43, 49, 43, 49, 43, 49, 43, 49, 43, 49]⟩, .string ⟨#[97]⟩, .string ⟨#[51, 32, 43, 50]⟩, .string ⟨#[45, 49]⟩] : Array Value) = (bads.map fun t => sv t).toArray := rfl
  have hcell : Hid (∀ k, k < 17 → (w1.alloc (.cells #[.string ⟨#[]⟩, .string ⟨#[43]⟩, .string ⟨#[51, 43]⟩, .string ⟨#[43, 51]⟩, .string ⟨#[48]⟩, .string ⟨#[48, 51]⟩, .string ⟨#[51, 64, 48]⟩, .string ⟨#[51, 64, 57]⟩, .string ⟨#[51, 64]⟩, .string ⟨#[64, 49]⟩, .string ⟨#[51, 64, 49, 64, 49]⟩, .string ⟨#[51, 64, 48, 49]⟩, .string ⟨#[50, 49, 52, 55, 52, 56, 51, 54, 52, 57]⟩, .string ⟨#[49, 43, 49, 43, 49, 43, 49, 43, 49, 43, 49, 43, 49, 43, 49, 43, 49]⟩, .string ⟨#[97]⟩, .string ⟨#[51, 32, 43, 50]⟩, .string ⟨#[45, 49]⟩] 9)).cell? ⟨w1.heap.size, k, none⟩ = some (sv (badT k))) := hide (fun k hk => by
    rw [cell_of_row _ _ _ _ _ _ (heap_alloc_new w1 _), harr]
    unfold badT
    rw [List.getElem?_toArray, List.getElem?_map, List.getD_eq_getElem?_getD, List.getElem?_eq_getElem (show k < bads.length from hk)]; rfl)
  clear harr
  have X2 := hide (Nx.alloc w1 (.cells #[.string ⟨#[]⟩, .string ⟨#[43]⟩, .string ⟨#[51, 43]⟩, .string ⟨#[43, 51]⟩, .string ⟨#[48]⟩, .string ⟨#[48, 51]⟩, .string ⟨#[51, 64, 48]⟩, .string ⟨#[51, 64, 57]⟩, .string ⟨#[51, 64]⟩, .string ⟨#[64, 49]⟩, .string ⟨#[51, 64, 49, 64, 49]⟩, .string ⟨#[51, 64, 48, 49]⟩, .string ⟨#[50, 49, 52, 55, 52, 56, 51, 54, 52, 57]⟩, .string ⟨#[49, 43, 49, 43, 49, 43, 49, 43, 49, 43, 49, 43, 49, 43, 49, 43, 49]⟩, .string ⟨#[97]⟩, .string ⟨#[51, 32, 43, 50]⟩, .string ⟨#[45, 49]⟩] 9))
  have hlt : w1.heap.size < (w1.alloc (.cells #[.string ⟨#[]⟩, .string ⟨#[43]⟩, .string ⟨#[51, 43]⟩, .string ⟨#[43, 51]⟩, .string ⟨#[48]⟩, .string ⟨#[48, 51]⟩, .string ⟨#[51, 64, 48]⟩, .string ⟨#[51, 64, 57]⟩, .string ⟨#[51, 64]⟩, .string ⟨#[64, 49]⟩, .string ⟨#[51, 64, 49, 64, 49]⟩, .string ⟨#[51, 64, 48, 49]⟩, .string ⟨#[50, 49, 52, 55, 52, 56, 51, 54, 52, 57]⟩, .string ⟨#[49, 43, 49, 43, 49, 43, 49, 43, 49, 43, 49, 43, 49, 43, 49, 43, 49]⟩, .string ⟨#[97]⟩, .string ⟨#[51, 32, 43, 50]⟩, .string ⟨#[45, 49]⟩] 9)).heap.size := by simp
  generalize w1.alloc (.cells #[.string ⟨#[]⟩, .string ⟨#[43]⟩, .string ⟨#[51, 43]⟩, .string ⟨#[43, 51]⟩, .string ⟨#[48]⟩, .string ⟨#[48, 51]⟩, .string ⟨#[51, 64, 48]⟩, .string ⟨#[51, 64, 57]⟩, .string ⟨#[51, 64]⟩, .string ⟨#[64, 49]⟩, .string ⟨#[51, 64, 49, 64, 49]⟩, .string ⟨#[51, 64, 48, 49]⟩, .string ⟨#[50, 49, 52, 55, 52, 56, 51, 54, 52, 57]⟩, .string ⟨#[49, 43, 49, 43, 49, 43, 49, 43, 49, 43, 49, 43, 49, 43, 49, 43, 49]⟩, .string ⟨#[97]⟩, .string ⟨#[51, 32, 43, 50]⟩, .string ⟨#[45, 49]⟩] 9) = w2 at *
  have B2 := hide (Nx.trans B1.out X2.out)
  have T2 := hide (T1.out.on X2.out)
  generalize w1.heap.size = d at *
  clear X2 B1 T1
  obtain ⟨i0, hi0, hz0, hz1, hz2⟩ := info_parts infoSt
  obtain ⟨i8, hi8, hz80, hz81, hz82⟩ := info_parts info64
  go_loopw [2] (fun i wr => ∃ k : Nat, k ≤ 17 ∧ i = .int .i64 k ∧ Hid (Nx w2 wr)) (fun i _ => 17 - (intOf i).toNat)
  case atStart => exact ⟨0, by omega, rfl, hide (Below.refl _ _)⟩
  case round =>
    obtain ⟨k, hk, rfl, HB⟩ := hrel
    by_cases hkn : k < 17
    · have hk1 : (k : Int) < 17 := by omega
      have x0 := (HB.out.cell (p := ⟨d, k, none⟩) hlt).trans (hcell.out k hkn)
      have hP := hide (parse_no (hN.out k hkn) (hL.out k hkn) wr)
      generalize badT k = t at *
      clear hN hL hcell E1 E2 E3 E4 E5 E6 hsv
      go_wp2_with (go_at_call 9; refine hP.out.mono ?_; rintro e w3 ⟨v3, rfl, HS⟩; refine Hid.out ?_)
      refine hide ?_
      obtain ⟨p3, c3, rfl, _⟩ := HS.out.1.form
      have B3 := hide (Nx.trans HB.out HS.out.2)
      clear HS HB hP
      go_wp2
      go_round
      case rel => exact ⟨k + 1, by omega, by go_num, B3⟩
      case measure => simp [intOf]; omega
    · obtain rfl : k = 17 := by omega
      have B3 := hide (Nx.trans B2.out HB.out)
      have T3 := hide (T2.out.on HB.out)
      clear hcell hlt hN hL HB B2 T2
      go_wp2_with (at_make; (refine wpList_make_full _ rfl _ _ 24 rfl wr.heap.size 29 i0 (.agg #[.int .i64 0, .int .i64 0]) 2 Tryd.underlying24 hi0 hz0 hz1 .i64 .i64 9 9 9 rfl rfl rfl rfl (by rw [hz2]; decide) (by unfold maxLen; omega) (by simp; omega) ?_); intro w5 ho5 hg5; refine Hid.out ?_)
      refine hide ?_
      have C1 : Nx wr (wr.alloc (.cells #[] 29)) := Nx.alloc _ _
      have C2 : Nx wr ((wr.alloc (.cells #[] 29)).alloc (.cells #[.int .i64 0, .int .i64 0] 29)) := Nx.trans C1 (Nx.alloc _ _)
      have C3 : Nx wr (((wr.alloc (.cells #[] 29)).alloc (.cells #[.int .i64 0, .int .i64 0] 29)).alloc (.cells #[.int .i64 0, .int .i64 2147483649] 29)) := Nx.trans C2 (Nx.alloc _ _)
      have C4 : Nx wr ((((wr.alloc (.cells #[] 29)).alloc (.cells #[.int .i64 0, .int .i64 0] 29)).alloc (.cells #[.int .i64 0, .int .i64 2147483649] 29)).alloc (.cells #[.int .i64 9, .int .i64 1] 29)) := Nx.trans C3 (Nx.alloc _ _)
      have D0 : Sl (wr.alloc (.cells #[] 29)) (.slice (some ⟨wr.heap.size, 0, none⟩) 0 0) [] := Sl.fresh (heap_alloc_new _ _) rfl rfl (by decide)
      have D1 : Sl ((wr.alloc (.cells #[] 29)).alloc (.cells #[.int .i64 0, .int .i64 0] 29)) (.slice (some ⟨wr.heap.size + 1, 0, none⟩) 1 1) [(0, 0)] := Sl.fresh (heap_alloc_at _ _ _ (by simp)) rfl rfl (by decide)
      have D2 : Sl (((wr.alloc (.cells #[] 29)).alloc (.cells #[.int .i64 0, .int .i64 0] 29)).alloc (.cells #[.int .i64 0, .int .i64 2147483649] 29)) (.slice (some ⟨wr.heap.size + 1 + 1, 0, none⟩) 1 1) [(0, 2147483649)] := Sl.fresh (heap_alloc_at _ _ _ (by simp)) rfl rfl (by decide)
      have D3 : Sl ((((wr.alloc (.cells #[] 29)).alloc (.cells #[.int .i64 0, .int .i64 0] 29)).alloc (.cells #[.int .i64 0, .int .i64 2147483649] 29)).alloc (.cells #[.int .i64 9, .int .i64 1] 29)) (.slice (some ⟨wr.heap.size + 1 + 1 + 1, 0, none⟩) 1 1) [(9, 1)] := Sl.fresh (heap_alloc_at _ _ _ (by simp)) rfl rfl (by decide)
      have D4 : Sl (((((wr.alloc (.cells #[] 29)).alloc (.cells #[.int .i64 0, .int .i64 0] 29)).alloc (.cells #[.int .i64 0, .int .i64 2147483649] 29)).alloc (.cells #[.int .i64 9, .int .i64 1] 29)).alloc (.cells #[.int .i64 (-1), .int .i64 1] 29)) (.slice (some ⟨wr.heap.size + 1 + 1 + 1 + 1, 0, none⟩) 1 1) [(-1, 1)] := Sl.fresh (heap_alloc_at _ _ _ (by simp)) rfl rfl (by decide)
      have D5 : Hid (Sl w5 (.slice (some ⟨wr.heap.size + 1 + 1 + 1 + 1 + 1, 0, none⟩) 9 9) (List.replicate 9 (0, 0))) := hide (by
        have e : (madeCells (Value.agg #[.int .i64 0, .int .i64 0]).cells (9 * 2)).toList = flat (List.replicate 9 (0, 0)) := by
          unfold madeCells; rw [Array.toList_map, Array.toList_range]; rfl
        rw [e] at ho5
        refine Sl.own (base := wr.heap.size) (e := 29) ?_
        simpa using ho5)
      have E0 := D0.below (Nx.alloc _ (.cells #[.int .i64 0, .int .i64 0] 29))
      have E0 := E0.below (Nx.alloc _ (.cells #[.int .i64 0, .int .i64 2147483649] 29))
      have F1 := D1.below (Nx.alloc _ (.cells #[.int .i64 0, .int .i64 2147483649] 29))
      have E0 := E0.below (Nx.alloc _ (.cells #[.int .i64 9, .int .i64 1] 29))
      have F1 := F1.below (Nx.alloc _ (.cells #[.int .i64 9, .int .i64 1] 29))
      have F2 := D2.below (Nx.alloc _ (.cells #[.int .i64 9, .int .i64 1] 29))
      have E0 := E0.below (Nx.alloc _ (.cells #[.int .i64 (-1), .int .i64 1] 29))
      have F1 := F1.below (Nx.alloc _ (.cells #[.int .i64 (-1), .int .i64 1] 29))
      have F2 := F2.below (Nx.alloc _ (.cells #[.int .i64 (-1), .int .i64 1] 29))
      have F3 := D3.below (Nx.alloc _ (.cells #[.int .i64 (-1), .int .i64 1] 29))
      have N5 : Nx wr (((((wr.alloc (.cells #[] 29)).alloc (.cells #[.int .i64 0, .int .i64 0] 29)).alloc (.cells #[.int .i64 0, .int .i64 2147483649] 29)).alloc (.cells #[.int .i64 9, .int .i64 1] 29)).alloc (.cells #[.int .i64 (-1), .int .i64 1] 29)) := Nx.trans C4 (Nx.alloc _ _)
      have G5 : Nx (((((wr.alloc (.cells #[] 29)).alloc (.cells #[.int .i64 0, .int .i64 0] 29)).alloc (.cells #[.int .i64 0, .int .i64 2147483649] 29)).alloc (.cells #[.int .i64 9, .int .i64 1] 29)).alloc (.cells #[.int .i64 (-1), .int .i64 1] 29)) w5 := below_grown (Below.refl _ _) (Nat.le_refl _) hg5 (fun k h => by cases h)
      have E0 := hide (E0.below G5)
      have F1 := hide (F1.below G5)
      have F2 := hide (F2.below G5)
      have F3 := hide (F3.below G5)
      have F4 := hide (D4.below G5)
      have N6 := hide (Nx.trans N5 G5)
      clear C1 C2 C3 C4 D0 D1 D2 D3 D4 ho5 hg5 N5 G5
      generalize wr.heap.size = d5 at *
      go_wp2
      have X6 := hide (Nx.alloc w5 (.cells #[.slice (some ⟨d5, 0, none⟩) 0 0, .slice (some ⟨d5 + 1, 0, none⟩) 1 1, .slice (some ⟨d5 + 1 + 1, 0, none⟩) 1 1, .slice (some ⟨d5 + 1 + 1 + 1, 0, none⟩) 1 1, .slice (some ⟨d5 + 1 + 1 + 1 + 1, 0, none⟩) 1 1, .slice (some ⟨d5 + 1 + 1 + 1 + 1 + 1, 0, none⟩) 9 9] 25))
      have c0 : Hid (∀ k, k < 6 → ∃ v, (w5.alloc (.cells #[.slice (some ⟨d5, 0, none⟩) 0 0, .slice (some ⟨d5 + 1, 0, none⟩) 1 1, .slice (some ⟨d5 + 1 + 1, 0, none⟩) 1 1, .slice (some ⟨d5 + 1 + 1 + 1, 0, none⟩) 1 1, .slice (some ⟨d5 + 1 + 1 + 1 + 1, 0, none⟩) 1 1, .slice (some ⟨d5 + 1 + 1 + 1 + 1 + 1, 0, none⟩) 9 9] 25)).cell? ⟨w5.heap.size, k, none⟩ = some v ∧ Sl (w5.alloc (.cells #[.slice (some ⟨d5, 0, none⟩) 0 0, .slice (some ⟨d5 + 1, 0, none⟩) 1 1, .slice (some ⟨d5 + 1 + 1, 0, none⟩) 1 1, .slice (some ⟨d5 + 1 + 1 + 1, 0, none⟩) 1 1, .slice (some ⟨d5 + 1 + 1 + 1 + 1, 0, none⟩) 1 1, .slice (some ⟨d5 + 1 + 1 + 1 + 1 + 1, 0, none⟩) 9 9] 25)) v (badL k)) := hide (fun k hk => by
        have hc := fun k => cell_of_row (w5.alloc (.cells #[.slice (some ⟨d5, 0, none⟩) 0 0, .slice (some ⟨d5 + 1, 0, none⟩) 1 1, .slice (some ⟨d5 + 1 + 1, 0, none⟩) 1 1, .slice (some ⟨d5 + 1 + 1 + 1, 0, none⟩) 1 1, .slice (some ⟨d5 + 1 + 1 + 1 + 1, 0, none⟩) 1 1, .slice (some ⟨d5 + 1 + 1 + 1 + 1 + 1, 0, none⟩) 9 9] 25)) w5.heap.size k _ _ _ (heap_alloc_new w5 _)
        match k, hk with
        | 0, _ => exact ⟨_, (hc 0).trans rfl, E0.out.below X6.out⟩
        | 1, _ => exact ⟨_, (hc 1).trans rfl, F1.out.below X6.out⟩
        | 2, _ => exact ⟨_, (hc 2).trans rfl, F2.out.below X6.out⟩
        | 3, _ => exact ⟨_, (hc 3).trans rfl, F3.out.below X6.out⟩
        | 4, _ => exact ⟨_, (hc 4).trans rfl, F4.out.below X6.out⟩
        | 5, _ => exact ⟨_, (hc 5).trans rfl, D5.out.below X6.out⟩)
      have l6 : w5.heap.size < (w5.alloc (.cells #[.slice (some ⟨d5, 0, none⟩) 0 0, .slice (some ⟨d5 + 1, 0, none⟩) 1 1, .slice (some ⟨d5 + 1 + 1, 0, none⟩) 1 1, .slice (some ⟨d5 + 1 + 1 + 1, 0, none⟩) 1 1, .slice (some ⟨d5 + 1 + 1 + 1 + 1, 0, none⟩) 1 1, .slice (some ⟨d5 + 1 + 1 + 1 + 1 + 1, 0, none⟩) 9 9] 25)).heap.size := by simp
      generalize w5.alloc (.cells #[.slice (some ⟨d5, 0, none⟩) 0 0, .slice (some ⟨d5 + 1, 0, none⟩) 1 1, .slice (some ⟨d5 + 1 + 1, 0, none⟩) 1 1, .slice (some ⟨d5 + 1 + 1 + 1, 0, none⟩) 1 1, .slice (some ⟨d5 + 1 + 1 + 1 + 1, 0, none⟩) 1 1, .slice (some ⟨d5 + 1 + 1 + 1 + 1 + 1, 0, none⟩) 9 9] 25) = w6 at *
      have N7 := hide (Nx.trans N6.out X6.out)
      have B7 := hide (Nx.trans B3.out N7.out)
      have T7 := hide (T3.out.on N7.out)
      generalize w5.heap.size = e5 at *
      clear E0 F1 F2 F3 F4 D5 X6 N6 N7 B3 T3
      have hBG := hide (fun k (h : k < 6) => badL_good ⟨k, h⟩)
      go_loopw [6] (fun i wr2 => ∃ k : Nat, k ≤ 6 ∧ i = .int .i64 k ∧ Hid (Nx w6 wr2)) (fun i _ => 6 - (intOf i).toNat)
      case atStart => exact ⟨0, by omega, rfl, hide (Below.refl _ _)⟩
      case round =>
        obtain ⟨k, hk, rfl, N0⟩ := hrel
        by_cases hkn : k < 6
        · have hk1 : (k : Int) < 6 := by omega
          obtain ⟨v, hv, hs⟩ := c0.out k hkn
          have S0 := hide (hs.below N0.out)
          have x0 := (N0.out.cell (p := ⟨e5, k, none⟩) l6).trans hv
          have l0 : e5 < wr.heap.size := Nat.lt_of_lt_of_le l6 N0.out.size
          have T0 := hide (T7.out.on N0.out)
          have hg := hBG.out k hkn
          simp only at hg
          have G := hide hg
          have QT := hide (total_bad hg)
          have QH := hide (holds_bad hg)
          have QX := hide (text_bad hg)
          have QF := hide (fits_bad hg 0)
          clear hv hs hg c0 hBG E1 E2 E3 E4 E5 E6 hsv
          generalize badL k = L at *
          go_wp2_with fail
          refine (good_any S0.out).mono ?_
          rintro e y1 ⟨rfl, hb⟩
          rw [G.out]
          have S1 := hide (S0.out.below hb)
          have T1 := hide (T0.out.on hb)
          have x1 := (hb.cell (p := ⟨e5, k, none⟩) l0).trans x0
          have l1 : e5 < y1.heap.size := Nat.lt_of_lt_of_le l0 hb.size
          have N1 := hide (Nx.trans N0.out hb)
          clear hb S0 T0 x0 l0 N0 G
          go_wp2_with fail
          refine (total_any S1.out).mono ?_
          rintro e y2 ⟨rfl, hb⟩
          rw [QT.out]
          have S2 := hide (S1.out.below hb)
          have T2 := hide (T1.out.on hb)
          have x2 := (hb.cell (p := ⟨e5, k, none⟩) l1).trans x1
          have l2 : e5 < y2.heap.size := Nat.lt_of_lt_of_le l1 hb.size
          have N2 := hide (Nx.trans N1.out hb)
          clear hb S1 T1 x1 l1 N1 QT
          go_wp2_with fail
          refine (holds_any S2.out).mono ?_
          rintro e y3 ⟨rfl, hb⟩
          rw [QH.out]
          have S3 := hide (S2.out.below hb)
          have T3 := hide (T2.out.on hb)
          have x3 := (hb.cell (p := ⟨e5, k, none⟩) l2).trans x2
          have l3 : e5 < y3.heap.size := Nat.lt_of_lt_of_le l2 hb.size
          have N3 := hide (Nx.trans N2.out hb)
          clear hb S2 T2 x2 l2 N2 QH
          go_wp2_with fail
          refine (text_any S3.out T3.out).mono ?_
          rintro e y4 ⟨rfl, hb⟩
          rw [QX.out]
          have S4 := hide (S3.out.below hb)
          have T4 := hide (T3.out.on hb)
          have x4 := (hb.cell (p := ⟨e5, k, none⟩) l3).trans x3
          have l4 : e5 < y4.heap.size := Nat.lt_of_lt_of_le l3 hb.size
          have N4 := hide (Nx.trans N3.out hb)
          clear hb S3 T3 x3 l3 N3 QX
          go_wp2_with fail
          refine (fits_any S4.out none 0 0 (by unfold maxLen; omega)).mono ?_
          rintro e y5 ⟨rfl, hb⟩
          rw [QF.out]
          have S5 := hide (S4.out.below hb)
          have T5 := hide (T4.out.on hb)
          have x5 := (hb.cell (p := ⟨e5, k, none⟩) l4).trans x4
          have l5 : e5 < y5.heap.size := Nat.lt_of_lt_of_le l4 hb.size
          have N5 := hide (Nx.trans N4.out hb)
          clear hb S4 T4 x4 l4 N4 QF
          go_wp2
          go_round
          case rel => exact ⟨k + 1, by omega, by go_num, N5⟩
          case measure => simp [intOf]; omega
        · obtain rfl : k = 6 := by omega
          have B8 := hide (Nx.trans B7.out N0.out)
          have T8 := hide (T7.out.on N0.out)
          clear B7 T7 N0 c0 hBG l6
          go_wp2_with fail
          rw [← hsv.out]
          generalize okT = t at *
          generalize okL = L at *
          refine (parse_at E1.out lt0 wr).mono ?_
          rintro e w9 ⟨v9, rfl, HS⟩
          have S9 := hide HS.out.1
          have B9 := hide (Nx.trans B8.out HS.out.2)
          clear HS B8 E1
          go_wp2_with fail
          refine (total_any S9.out).mono ?_
          rintro e w10 ⟨rfl, hb⟩
          rw [E2.out]
          have S10 := hide (S9.out.below hb)
          have B10 := hide (Nx.trans B9.out hb)
          clear hb S9 B9 E2
          go_wp2_with fail
          refine (holds_any S10.out).mono ?_
          rintro e w11 ⟨rfl, hb⟩
          rw [E3.out]
          have S11 := hide (S10.out.below hb)
          have B11 := hide (Nx.trans B10.out hb)
          clear hb S10 B10 E3
          obtain ⟨w12, hrun, ho, hg⟩ := run_make_full (P := Tryd.prog) w11 w11.heap.size 36 2 i8 (.int .i64 0) 1 Tryd.underlying36 hi8 hz80 hz81 .i64 .i64 7 (by rw [hz82]; decide) (by unfold maxLen; omega) (Nat.le_refl _)
          rw [show ((7 : Nat) : Int) = 7 from rfl] at hrun
          have G12 : Nx w11 w12 := below_grown (Below.refl _ _) (Nat.le_refl _) hg (fun k h => by cases h)
          have S12 := hide (S11.out.below G12)
          have B12 := hide (Nx.trans B11.out G12)
          clear ho hg G12 S11 B11
          go_wp2_with fail
          refine (fits_any S12.out _ 7 7 (by unfold maxLen; omega)).mono ?_
          rintro e w13 ⟨rfl, hb⟩
          rw [E4.out]
          have S13 := hide (S12.out.below hb)
          have B13 := hide (Nx.trans B12.out hb)
          clear hb S12 B12 E4
          obtain ⟨w14, hrun, ho, hg⟩ := run_make_full (P := Tryd.prog) w13 w13.heap.size 36 2 i8 (.int .i64 0) 1 Tryd.underlying36 hi8 hz80 hz81 .i64 .i64 8 (by rw [hz82]; decide) (by unfold maxLen; omega) (Nat.le_refl _)
          rw [show ((8 : Nat) : Int) = 8 from rfl] at hrun
          have G14 : Nx w13 w14 := below_grown (Below.refl _ _) (Nat.le_refl _) hg (fun k h => by cases h)
          have S14 := hide (S13.out.below G14)
          have B14 := hide (Nx.trans B13.out G14)
          clear ho hg G14 S13 B13
          go_wp2_with fail
          refine (fits_any S14.out _ 8 8 (by unfold maxLen; omega)).mono ?_
          rintro e w15 ⟨rfl, hb⟩
          rw [E5.out]
          have B15 := hide (Nx.trans B14.out hb)
          clear hb S14 B14 E5
          go_wp2_with fail
          have D15 : Sl (w15.alloc (.cells #[.int .i64 0, .int .i64 1] 29)) (.slice (some ⟨w15.heap.size, 0, none⟩) 1 1) [(0, 1)] := Sl.fresh (heap_alloc_new _ _) rfl rfl (by decide)
          refine (fits_any D15 none 0 0 (by unfold maxLen; omega)).mono ?_
          rintro e w16 ⟨rfl, hb⟩
          rw [E6.out]
          have B16 := hide (Nx.trans (Nx.trans B15.out (Nx.alloc _ _)) hb)
          clear hb D15 B15
          go_wp2
          go_ret
          exact ⟨rfl, B16.out⟩
end Go.Proofs.YtdbkdnjmiehlcaaDoor.Con
