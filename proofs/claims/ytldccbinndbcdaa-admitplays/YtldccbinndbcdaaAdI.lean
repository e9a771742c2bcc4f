/- Those that left: slices.SortedFunc, inOrder; Lingers. -/
import Derived.Test.YtldccbinndbcdaaAdS
namespace Go.Proofs.Ytldccbinndbcdaa.Am
open Go.RowKit Go.Proofs.Ytldccbinndbcdaa.Con Go.Proofs.Ytldccbinndbcdaa.Wn Go.Proofs.Ytldccbinndbcdaa.Fp
set_option linter.unusedVariables false
set_option linter.unusedSimpArgs false
attribute [local go_sem ↓] Go.wp_at_zero Go.wp_at_succ
set_option maxHeartbeats 4000000 in
theorem sorted_any (H : List Lv) (hH : H.length ≤ 1000) (hp : Hp H) (p : Option Addr) (k cap : Nat) (now : Int) (w : World) (hS : Ls w.heap.size w (.slice p k cap) H) :
    Calls Try.prog 41 #[.func (.func 48) #[] #[.pointer (some ⟨w.heap.size, 0, none⟩), .pointer (some ⟨w.heap.size + 1, 0, none⟩)], .func (.func 42) #[] #[]] ((w.alloc (.cells #[.slice p k cap] 55)).alloc (.cells #[.int .i64 now] 2)) fun e w' => ∃ (v : Value) (D : List Lv), e = .returned v ∧ Hid (D.Perm (wk H now H.length 0) ∧ D.Pairwise (fun a b => a.2 ≤ b.2)) ∧ Hid (w'.ownsRow w.heap.size 79 5 v D.length (flatL D)) ∧ Nx w w' := by
  have HC := hide (collect_above H hH hp p k cap now w hS)
  have hl := Nat.le_trans (wk_len hp now) hH
  generalize wk H now H.length 0 = A at *
  clear hS
  go_enter Try.func41, Try.ntmps41
  go_wp2_with (first
    | (go_at_call 50; refine HC.out.mono ?_; rintro e w1 ⟨v1, rfl, hO1, hN1⟩; have HN1 := hide hN1; have HS1 := hide (sort_any hO1 hN1.size hl); obtain ⟨p1, c1, hv1⟩ := ownF hO1; clear hO1 hN1; subst hv1)
    | (go_at_call 51; refine HS1.out.mono ?_; rintro e w2 ⟨rfl, D, hP, hD, hO2, hB2⟩; have HD := hide (And.intro hP hD); have HO2 := hide hO2; have HN2 := hide (Below.trans HN1.out hB2); clear hP hD hO2 hB2))
  go_ret
  exact ⟨_, D, rfl, HD, HO2, HN2.out⟩
theorem mk_ents (n : Nat) (hn : n ≤ 1000) : ∃ cur : Array Value, cur.size = n * 4 ∧ ∀ w : World, (Instr.makeSlice 32 (.int .i64 (n : Int)) (.int .i64 (n : Int))).run Try.prog w = .ok (.slice (some ⟨w.heap.size, 0, none⟩) n n) (w.alloc (.cells cur 50)) := by
  obtain ⟨i, hi, hz0, hz1, hz2⟩ := info_parts infoAe
  refine ⟨madeCells (Value.agg #[.int .i64 0, .int .i64 0, .int .i64 0, .int .i64 0]).cells (n * 4), by rw [size_madeCells], fun w => ?_⟩
  have := run_make (P := Try.prog) w 32 50 i _ Try.underlying32 hi hz0 .i64 .i64 (n : Int) (n : Int) (by omega) (by omega) (by rw [hz2]; omega) (by omega)
  rw [hz1] at this
  simpa using this
theorem take_set4 (cur : List Value) (m : Nat) (h : m + 4 ≤ cur.length) (a b c d : Value) : ((((cur.set m a).set (m + 1) b).set (m + 2) c).set (m + 3) d).take (m + 4) = cur.take m ++ [a, b, c, d] := by
  apply List.ext_getElem?
  intro j
  by_cases h1 : j < m
  · rw [List.getElem?_take_of_lt (by omega), List.getElem?_append_left (by simp; omega), List.getElem?_take_of_lt h1]
    rw [List.getElem?_set_ne (by omega), List.getElem?_set_ne (by omega), List.getElem?_set_ne (by omega), List.getElem?_set_ne (by omega)]
  · by_cases h2 : j < m + 4
    · obtain ⟨r, rfl⟩ : ∃ r, j = m + r := ⟨j - m, by omega⟩
      rw [List.getElem?_take_of_lt (by omega), List.getElem?_append_right (by simp; omega)]
      have e : m + r - (List.take m cur).length = r := by simp; omega
      rw [e]
      match r, h2 with
      | 0, _ => rw [List.getElem?_set_ne (by omega), List.getElem?_set_ne (by omega), List.getElem?_set_ne (by omega), Nat.add_zero, List.getElem?_set_self (by omega)]; rfl
      | 1, _ => rw [List.getElem?_set_ne (by omega), List.getElem?_set_ne (by omega), List.getElem?_set_self (by simp; omega)]; rfl
      | 2, _ => rw [List.getElem?_set_ne (by omega), List.getElem?_set_self (by simp; omega)]; rfl
      | 3, _ => rw [List.getElem?_set_self (by simp; omega)]; rfl
      | r + 4, h2 => omega
    · rw [List.getElem?_take_eq_none (by omega), List.getElem?_eq_none (by simp; omega)]
/-- A row that is being filled. -/
def Fil (w : World) (g n k : Nat) (L : List En) : Prop := ∃ cur : Array Value, w.heap[g]? = some (.cells cur 50 (0, 0)) ∧ cur.size = n * 4 ∧ cur.toList.take (k * 4) = flatE (L.take k)
theorem Fil.on {w w' : World} {g n k : Nat} {L : List En} (h : Fil w g n k L) (hB : Nx w w') : Fil w' g n k L := by
  obtain ⟨cur, h1, h2, h3⟩ := h
  exact ⟨cur, (hB.block g (Array.getElem?_eq_some_iff.1 h1).1).trans h1, h2, h3⟩
theorem Fil.lt {w : World} {g n k : Nat} {L : List En} (h : Fil w g n k L) : g < w.heap.size := by
  obtain ⟨cur, h1, _⟩ := h
  exact (Array.getElem?_eq_some_iff.1 h1).1
theorem Fil.cell {w : World} {g n k : Nat} {L : List En} (h : Fil w g n k L) {j : Nat} (hj : j < n * 4) : (∃ u, w.cell? ⟨g, j, none⟩ = some u) ∧ w.frozen? ⟨g, j, none⟩ = false := by
  obtain ⟨cur, h1, h2, h3⟩ := h
  refine ⟨⟨cur[j]'(by omega), (cell_of_row w g j _ _ _ h1).trans (Array.getElem?_eq_getElem (by omega))⟩, by simp [World.frozen?, h1]⟩
theorem Fil.next {w : World} {g n k : Nat} {L : List En} (h : Fil w g n k L) (hk : k < n) (hL : L.length = n) {a b c d : Int} (h0 : (atE L k).id = a) (h1 : (atE L k).pr.1 = b) (h2 : (atE L k).pr.2 = c) (h3 : (atE L k).till = d) :
    Fil ((((w.setCell ⟨g, k * 4, none⟩ (.int .i64 a)).setCell ⟨g, k * 4 + 1, none⟩ (.int .i64 b)).setCell ⟨g, k * 4 + 2, none⟩ (.int .i64 c)).setCell ⟨g, k * 4 + 3, none⟩ (.int .i64 d)) g n (k + 1) L := by
  obtain ⟨cur, g1, g2, g3⟩ := h
  refine ⟨_, heap_setCell_same _ g _ _ _ _ (heap_setCell_same _ g _ _ _ _ (heap_setCell_same _ g _ _ _ _ (heap_setCell_same _ g _ _ _ _ g1))), by simpa using g2, ?_⟩
  simp only [Array.toList_setIfInBounds]
  rw [show (k + 1) * 4 = k * 4 + 4 by omega, take_set4 _ _ (by simp; omega), g3, flatE_snoc _ _ (by omega), h0, h1, h2, h3]
theorem own_set4 {w : World} {B e size n g o : Nat} {v : Value} {xs : List Value} (h : w.ownsRow B e size v n xs) (hne : v.ownBlock ≠ some g) (a b c d : Value) : ((((w.setCell ⟨g, o, none⟩ a).setCell ⟨g, o + 1, none⟩ b).setCell ⟨g, o + 2, none⟩ c).setCell ⟨g, o + 3, none⟩ d).ownsRow B e size v n xs :=
  own_kept h fun k hk => by
    have hkg : k ≠ g := fun e => hne (e ▸ hk)
    rw [heap_setCell_other _ ⟨g, o + 3, none⟩ k _ hkg, heap_setCell_other _ ⟨g, o + 2, none⟩ k _ hkg, heap_setCell_other _ ⟨g, o + 1, none⟩ k _ hkg, heap_setCell_other _ ⟨g, o, none⟩ k _ hkg]
theorem Fil.ne {w : World} {g n k : Nat} {L : List En} (h : Fil w g n k L) {B e size m : Nat} {v : Value} {xs : List Value} (ho : w.ownsRow B e size v m xs) (he : e ≠ 50) : v.ownBlock ≠ some g := fun hk => by
  obtain ⟨cur, h1, _⟩ := h
  obtain ⟨cur', hc⟩ := own_blk ho hk
  rw [h1] at hc
  simp only [Option.some.injEq, Obj.cells.injEq] at hc
  exact he hc.2.1.symm
theorem nx_set4 {w : World} {B g o : Nat} (h : B ≤ g) (a b c d : Value) : Below B w ((((w.setCell ⟨g, o, none⟩ a).setCell ⟨g, o + 1, none⟩ b).setCell ⟨g, o + 2, none⟩ c).setCell ⟨g, o + 3, none⟩ d) :=
  ((((Below.refl B w).setCell (p := ⟨g, o, none⟩) h _).setCell (p := ⟨g, o + 1, none⟩) h _).setCell (p := ⟨g, o + 2, none⟩) h _).setCell (p := ⟨g, o + 3, none⟩) h _
set_option maxHeartbeats 8000000 in
set_option maxRecDepth 100000 in
theorem inOrder_any (H : List Lv) (hH : H.length ≤ 1000) (hp : Hp H) (v : Value) (now : Int) (w : World) (hS : Ls w.heap.size w v H) :
    Calls Try.prog 28 #[v, .int .i64 now] w fun e w' => ∃ (v' : Value) (D : List Lv), e = .returned v' ∧ Hid (D.Perm (wk H now H.length 0) ∧ D.Pairwise (fun a b => a.2 ≤ b.2)) ∧ Hid (Es w' v' (D.map (·.1))) ∧ Nx w w' := by
  obtain ⟨p, cap, rfl, hn, hm⟩ := hS.form
  have HA := hide (callsIn_wide.1 (above_in Fence.wide 6 trivial rfl p H.length cap now w))
  have HSO := hide (sorted_any H hH hp p H.length cap now w hS)
  have hl := Nat.le_trans (wk_len hp now) hH
  generalize wk H now H.length 0 = A at *
  clear hS
  go_enter Try.func28, Try.ntmps28
  go_upto_region 2 with (first
    | (go_at_call 40; refine HA.out.mono ?_; rintro e w1 ⟨rfl, hw1⟩; rw [hw1]; clear hw1)
    | (go_at_call 41; refine HSO.out.mono ?_; rintro e w2 ⟨v2, D, rfl, HD, HO2, hN2⟩; have HN2 := hide hN2; obtain ⟨p2, c2, hv2⟩ := ownF HO2.out; clear hN2; subst hv2))
  have hDl : D.length ≤ 1000 := by rw [HD.out.1.length_eq]; exact hl
  have hZ := HN2.out.size
  obtain ⟨cur, hcur, mk⟩ := mk_ents D.length hDl
  have F0 : Hid (Fil (w2.alloc (.cells cur 50)) w2.heap.size D.length 0 (D.map (·.1))) := hide ⟨cur, heap_alloc_new w2 _, hcur, by simp [flatE]⟩
  have O0 : Hid ((w2.alloc (.cells cur 50)).ownsRow w.heap.size 79 5 (.slice p2 D.length c2) D.length (flatL D)) := hide (HO2.out.alloc _)
  have N0 : Hid (Nx w (w2.alloc (.cells cur 50))) := hide (Below.alloc HN2.out hZ _)
  go_upto_region 3 with fail
  clear mk HO2 HN2 HSO HA
  generalize w2.alloc (.cells cur 50) = w3 at *
  obtain ⟨ge, hge⟩ : ∃ ge, w2.heap.size = ge := ⟨_, rfl⟩
  rw [hge] at F0 hZ ⊢
  go_wp2
  go_loopw [7, 8, 18] (fun _ _ i wr => ∃ k : Nat, k ≤ D.length ∧ i = .int .i64 k ∧ Hid (Fil wr ge D.length k (D.map (·.1))) ∧ Hid (wr.ownsRow w.heap.size 79 5 (.slice p2 D.length c2) D.length (flatL D)) ∧ Hid (Nx w wr)) (fun _ _ i _ => D.length - (intOf i).toNat)
  case atStart => exact ⟨0, by omega, rfl, F0, O0, N0⟩
  case round =>
    clear F0 O0 N0
    obtain ⟨k, hk, rfl, HF, HO, HB⟩ := hrel
    by_cases hkn : k < D.length
    · have hk1 : (k : Int) < (D.length : Int) := by omega
      obtain ⟨bd, od, hpd, hbd, q0, q1, q2, q3, q4⟩ := (Ls.own HO.out).at hkn
      subst hpd
      have hat : Hid (atE (D.map (·.1)) k = (atL D k).1) := hide (by
        unfold atE atL
        rw [List.getD_eq_getElem?_getD, List.getD_eq_getElem?_getD, List.getElem?_map]
        cases hq : D[k]? with
        | none => rw [List.getElem?_eq_none_iff] at hq; omega
        | some x => rfl)
      generalize hx : (atL D k) = x at *
      obtain ⟨⟨x0, ⟨x1, x2⟩, x3⟩, x4⟩ := x
      dsimp only at q0 q1 q2 q3 q4 hat
      have hgl := HF.out.lt
      have NA := hide (Nx.alloc wr (.cells #[.int .i64 x0, .int .i64 x1, .int .i64 x2, .int .i64 x3, .int .i64 x4] 79))
      have FA := hide (HF.out.on NA.out)
      have OA := hide (ownN HO.out NA.out)
      have HBA := hide (Nx.trans HB.out NA.out)
      have XA := hide (heap_alloc_new wr (.cells #[.int .i64 x0, .int .i64 x1, .int .i64 x2, .int .i64 x3, .int .i64 x4] 79))
      go_upto_region 6 with fail
      clear q0 q1 q2 q3 q4 NA HF HO HB
      have hbx : wr.heap.size ≠ ge := by omega
      generalize wr.heap.size = bx at *
      generalize wr.alloc (.cells #[.int .i64 x0, .int .i64 x1, .int .i64 x2, .int .i64 x3, .int .i64 x4] 79) = wa at *
      obtain ⟨⟨u0, z0⟩, fz0⟩ := FA.out.cell (j := k * 4) (by omega)
      obtain ⟨⟨u1, z1⟩, fz1⟩ := FA.out.cell (j := k * 4 + 1) (by omega)
      obtain ⟨⟨u2, z2⟩, fz2⟩ := FA.out.cell (j := k * 4 + 2) (by omega)
      obtain ⟨⟨u3, z3⟩, fz3⟩ := FA.out.cell (j := k * 4 + 3) (by omega)
      have y0 : wa.cell? ⟨bx, 0, none⟩ = some (.int .i64 x0) := (cell_of_row wa _ 0 _ _ _ XA.out).trans rfl
      have y1 : wa.cell? ⟨bx, 1, none⟩ = some (.int .i64 x1) := (cell_of_row wa _ 1 _ _ _ XA.out).trans rfl
      have y2 : wa.cell? ⟨bx, 2, none⟩ = some (.int .i64 x2) := (cell_of_row wa _ 2 _ _ _ XA.out).trans rfl
      have y3 : wa.cell? ⟨bx, 3, none⟩ = some (.int .i64 x3) := (cell_of_row wa _ 3 _ _ _ XA.out).trans rfl
      have FB := hide (FA.out.next hkn (by simp) (a := x0) (b := x1) (c := x2) (d := x3) (by rw [hat.out]) (by rw [hat.out]) (by rw [hat.out]) (by rw [hat.out]))
      have NB := hide (Below.trans HBA.out (nx_set4 (o := k * 4) (w := wa) hZ (.int .i64 x0) (.int .i64 x1) (.int .i64 x2) (.int .i64 x3)))
      have OB := hide (own_set4 (g := ge) (o := k * 4) OA.out (FA.out.ne OA.out (by decide)) (.int .i64 x0) (.int .i64 x1) (.int .i64 x2) (.int .i64 x3))
      clear FA HBA XA hat hx OA
      go_wp2
      go_roundw
      case rel => exact ⟨k + 1, by omega, by go_num, FB, OB, NB⟩
      case measure => simp [intOf]; omega
    · obtain rfl : k = D.length := by omega
      have HE : Hid (Es wr (.slice (some ⟨ge, 0, none⟩) D.length D.length) (D.map (·.1))) := hide (by
        obtain ⟨cur, g1, g2, g3⟩ := HF.out
        refine ⟨by rw [flatE_len], some ⟨ge, 0, none⟩, D.length, by simp, by simp, by unfold maxLen; omega, fun _ => ⟨ge, 0, rfl, (Array.getElem?_eq_some_iff.1 g1).1, fun j u hj => ?_⟩⟩
        have hjl := (List.getElem?_eq_some_iff.1 hj).1
        rw [flatE_len, List.length_map] at hjl
        rw [List.take_of_length_le (l := D.map (·.1)) (by simp)] at g3
        rw [Nat.zero_add, cell_of_row wr ge j _ _ _ g1, ← Array.getElem?_toList, ← List.getElem?_take_of_lt hjl, g3]
        exact hj)
      clear HF HO
      go_wp2
      go_ret
      exact ⟨_, D, rfl, HD, HE, HB.out⟩
end Go.Proofs.Ytldccbinndbcdaa.Am
