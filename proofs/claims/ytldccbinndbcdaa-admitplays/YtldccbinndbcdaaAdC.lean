/- The landed book: counted. -/
import Derived.Test.YtldccbinndbcdaaAdQ
namespace Go.Proofs.Ytldccbinndbcdaa.Am
open Go.RowKit Go.Shelf Go.Proofs.Ytldccbinndbcdaa.Con Go.Proofs.Ytldccbinndbcdaa.Wn Go.Proofs.Ytldccbinndbcdaa.Fp
set_option linter.unusedVariables false
set_option linter.unusedSimpArgs false
attribute [local go_sem] Oper.semAt_some
/-- The pairs that are counted: at most 65. -/
def cntT (L : List En) (X : List Lv) : List Pr := (prs L ++ X.map (·.1.pr)).take 65
theorem cnt_y {L : List En} {X : List Lv} (x : Lv) (h : 65 ≤ L.length + X.length) : cntT L (X ++ [x]) = cntT L X ∧ (cntT L X).length = 65 := by
  have hl : (prs L ++ X.map (·.1.pr)).length = L.length + X.length := by simp [prs]
  refine ⟨?_, by unfold cntT; rw [List.length_take, hl]; omega⟩
  unfold cntT
  rw [List.map_append, ← List.append_assoc, List.take_append_of_le_length (by omega)]
theorem cnt_n {L : List En} {X : List Lv} (x : Lv) (h : L.length + X.length < 65) : cntT L (X ++ [x]) = cntT L X ++ [x.1.pr] ∧ (cntT L X).length = L.length + X.length := by
  have hl : (prs L ++ X.map (·.1.pr)).length = L.length + X.length := by simp [prs]
  refine ⟨?_, by unfold cntT; rw [List.length_take, hl]; omega⟩
  unfold cntT
  rw [List.map_append, ← List.append_assoc, List.take_of_length_le (by simp [prs]; omega), List.take_of_length_le (by omega)]
  rfl
theorem cnt_stop {L : List En} {X Y : List Lv} (hp : X <+: Y) (h : 65 ≤ L.length + X.length) : cntT L Y = cntT L X := by
  obtain ⟨r, rfl⟩ := hp
  have hl : (prs L ++ X.map (·.1.pr)).length = L.length + X.length := by simp [prs]
  unfold cntT
  rw [List.map_append, ← List.append_assoc, List.take_append_of_le_length (by omega)]
theorem cnt_0 {L : List En} (h : L.length ≤ 65) : cntT L [] = prs L := by
  unfold cntT; rw [List.map_nil, List.append_nil, List.take_of_length_le (by simp [prs]; exact h)]
theorem mk_pairs (w : World) : ∃ cur : Array Value, cur.size = 65 * 2 ∧ ∀ w : World, (Instr.makeSlice 48 (.int .i64 0) (.int .i64 65)).run Try.prog w = .ok (.slice (some ⟨w.heap.size, 0, none⟩) 0 65) (w.alloc (.cells cur 28)) := by
  obtain ⟨i, hi, hz0, hz1, hz2⟩ := info_parts infoWp
  refine ⟨madeCells (Value.agg #[.int .i64 0, .int .i64 0]).cells (65 * 2), by rw [size_madeCells], fun w => ?_⟩
  have := run_make (P := Try.prog) w 48 28 i _ Try.underlying48 hi hz0 .i64 .i64 0 65 (by omega) (by omega) (by rw [hz2]; omega) (by omega)
  rw [hz1] at this
  exact this
set_option maxRecDepth 100000 in
set_option maxHeartbeats 8000000 in
theorem counted_in (F : Fence) (hd : F.depth = none) (n : Nat) (h26 : F.fn 26) (h40 : F.fn 40) (h48 : F.fn 48) (h49 : F.fn 49) (hro : F.round = none) (hn : 6 ≤ n)
    {w : World} {b : Nat} {s : Bs} {vi vo : Value} {H : List Lv} (h : BB w b s vi vo H) (hs : Small s) (now : Int) :
    CallsIn F n Try.prog 26 #[ptr b, .int .i64 now] w fun e w' => ∃ v, e = .returned v ∧ w'.ownsRow w.heap.size 28 2 v (cntT s.ins (wk H now H.length 0)).length (flat (cntT s.ins (wk H now H.length 0))) ∧ Below w.heap.size w w' := by
  have h1 : 1 ≤ n := by omega
  have hdd : ∀ k : Nat, (F.depth.isSome = true → 1 ≤ k) := fun k h => by rw [hd] at h; cases h
  have hHl : H.length ≤ 500 := by rw [h.ho.len]; exact hs.2
  have hsl := hs.1
  obtain ⟨i0, hi, hz0, hz1, hz2⟩ := info_parts infoWp
  obtain ⟨cur, hcur, mk⟩ := mk_pairs w
  obtain ⟨p, cap, rfl, hn1, hm1⟩ := h.rdI.form
  obtain ⟨po, co, rfl, hn2, hm2⟩ := h.rdO.form
  have H0 := hide h
  clear h
  have hb0 : b < w.heap.size := (Array.getElem?_eq_some_iff.1 H0.out.row).1
  refine callsIn_of_wp_marks Try.func26 rfl h26 ?_ hro
  simp only [Try.ntmps26, List.size_toArray, List.length_cons, List.length_nil, Nat.reduceAdd, Nat.reduceSub, Array.replicate_succ, Array.replicate_zero, List.push_toArray, List.append_toArray, List.nil_append, List.cons_append]
  obtain ⟨_, d1, d2⟩ := row3 H0.out.row
  gi_wp2
  have hN0 : Below w.heap.size w ((w.alloc (.cells cur 28)).alloc (.cells #[.slice (some ⟨w.heap.size, 0, none⟩) 0 65] 48)) := ((Below.refl _ w).alloc (Nat.le_refl _) _).alloc (by simp) _
  have bP := Boxed.new (w.alloc (.cells cur 28)) 48 (.slice (some ⟨w.heap.size, 0, none⟩) 0 65)
  rw [World.size_alloc] at bP
  have rP : ((w.alloc (.cells cur 28)).alloc (.cells #[.slice (some ⟨w.heap.size, 0, none⟩) 0 65] 48)).ownsRow w.heap.size 28 2 (.slice (some ⟨w.heap.size, 0, none⟩) 0 65) 0 (flat []) :=
    ⟨rfl, .inr ⟨_, 65, cur, rfl, Nat.le_refl _, (heap_alloc_old _ _ (by simp)).trans (heap_alloc_new w _), by omega, by unfold maxLen; omega, hcur, rfl⟩⟩
  have hsz : ((w.alloc (.cells cur 28)).alloc (.cells #[.slice (some ⟨w.heap.size, 0, none⟩) 0 65] 48)).heap.size = w.heap.size + 2 := by simp
  obtain ⟨W0, hW0⟩ : ∃ W0, (w.alloc (.cells cur 28)).alloc (.cells #[.slice (some ⟨w.heap.size, 0, none⟩) 0 65] 48) = W0 := ⟨_, rfl⟩
  rw [hW0] at hN0 bP rP hsz ⊢
  clear hW0 mk
  gi_loopw [7, 15] (fun _ i wr => ∃ (k : Nat) (v : Value), k ≤ s.ins.length ∧ i = .int .i64 k ∧ Boxed wr (w.heap.size + 1) 48 v ∧ wr.ownsRow w.heap.size 28 2 v k (flat (prs (s.ins.take k))) ∧ Below w.heap.size w wr) (fun _ i _ => s.ins.length - (intOf i).toNat)
  case atStart => exact ⟨0, _, by omega, rfl, bP, rP, hN0⟩
  case round =>
    clear bP rP hN0
    obtain ⟨k, v, hk, rfl, hv, hrow, hB⟩ := hrel
    by_cases hkn : k < s.ins.length
    · have hk1 : (k : Int) < (s.ins.length : Int) := by omega
      obtain ⟨be, oe, he, hbe, q0, q1, q2, q3⟩ := (Es.below H0.out.rdI hB).at hkn
      subst he
      have hfl := hide (flat_prsR s.ins k hkn)
      have hc := hv.cell
      have hvl := hv.lt
      have hvn : w.heap.size + 1 ≠ wr.heap.size := by omega
      generalize (atE s.ins k).id = y0 at *
      generalize (atE s.ins k).pr.1 = y1 at *
      generalize (atE s.ins k).pr.2 = y2 at *
      generalize (atE s.ins k).till = y3 at *
      have hv1 := hv.alloc (.cells #[.int .i64 y0, .int .i64 y1, .int .i64 y2, .int .i64 y3] 50)
      have hrow1 := hrow.alloc (.cells #[.int .i64 y0, .int .i64 y1, .int .i64 y2, .int .i64 y3] 50)
      have hB1 := hB.alloc hB.size (.cells #[.int .i64 y0, .int .i64 y1, .int .i64 y2, .int .i64 y3] 50)
      gi_wp2_with (gi_at_builtin; refine wpListIn_append_own _ rfl _ _ 48 rfl w.heap.size 28 i0 (.agg #[.int .i64 0, .int .i64 0]) 2 16 Try.underlying48 hi hz0 hz1 hz2 rfl (by decide) _ _ _ rfl (hrow1.alloc _) ⟨wr.heap.size + 1, 0, none⟩ 1 1 [.int .i64 y1, .int .i64 y2] rfl rfl (by have := cells_new (wr.alloc (.cells #[.int .i64 y0, .int .i64 y1, .int .i64 y2, .int .i64 y3] 50)) [.int .i64 y1, .int .i64 y2] 28; rwa [World.size_alloc] at this) (by intro u hu; simp at hu; rcases hu with rfl | rfl <;> rfl) (by unfold maxLen; omega) (by omega) (by have := hB.size; simp; omega) ?_; intro v' w1 hown' hgrow _; obtain ⟨g', cap', rfl⟩ := ownsRow_succ hown'; obtain ⟨hv2, hv3, hr2, hk2, hb2⟩ := hv1.appended (by decide) hrow1 hB1.size (by omega) hown' hgrow; have hc1 := hv2.cell; have hf1 := hv2.frozen)
      go_roundw
      case rel => exact ⟨k + 1, _, by omega, by go_num, hv3, by rw [hfl.out]; exact hr2, hB1.trans hb2⟩
      case measure => simp [intOf]; omega
    · obtain rfl : k = s.ins.length := by omega
      rw [List.take_length] at hrow
      have hc := hv.cell
      obtain ⟨e1, e2⟩ : wr.cell? ⟨b, 2, none⟩ = some (.slice po H.length co) ∧ Ls w.heap.size wr (.slice po H.length co) H := ⟨(hB.cell (p := ⟨b, 2, none⟩) hb0).trans d2, Ls.below H0.out.rdO hB⟩
      gi_wp2_with ((try refine ⟨hdd _, ?_⟩); gi_at_call 40; refine (above_in F (n - 1) h40 hro _ _ _ now _).mono ?_; rintro e w' ⟨rfl, rfl⟩)
      have hSt := above_stops F hd (n - 1) h48 h49 hro w.heap.size now H (by omega) (.slice po H.length co) wr hB.size e2
      have hX : (wk H now H.length 0).length ≤ 500 := Nat.le_trans (wk_len H0.out.ho.hp now) hHl
      have hvl := hv.lt
      have hB2 : Below w.heap.size w ((wr.alloc (.cells #[.slice po H.length co] 55)).alloc (.cells #[.int .i64 now] 2)) := (hB.alloc hB.size _).alloc (by have := hB.size; simp; omega) _
      have hv2 := (hv.alloc (.cells #[.slice po H.length co] 55)).alloc (.cells #[.int .i64 now] 2)
      have hrow2 := (hrow.alloc (.cells #[.slice po H.length co] 55)).alloc (.cells #[.int .i64 now] 2)
      have hsz2 : ((wr.alloc (.cells #[.slice po H.length co] 55)).alloc (.cells #[.int .i64 now] 2)).heap.size = wr.heap.size + 2 := by simp
      have hrow3 : ((wr.alloc (.cells #[.slice po H.length co] 55)).alloc (.cells #[.int .i64 now] 2)).ownsRow w.heap.size 28 2 v (cntT s.ins []).length (flat (cntT s.ins [])) := by rw [cnt_0 (by omega), prs_len]; exact hrow2
      have hBs := hB.size
      generalize (wr.alloc (.cells #[.slice po H.length co] 55)).alloc (.cells #[.int .i64 now] 2) = wz at *
      clear hrow hv e1 hc hrow2
      refine wpIn_rangeFunc_ownH hro h1 (gf := 48) (lb := #[.pointer (some ⟨wr.heap.size, 0, none⟩), .pointer (some ⟨wr.heap.size + 1, 0, none⟩)]) rfl h48 (enters_of Try.func48 (by kernel_rfl) rfl) hSt belowK_t (belowK_b (by omega)) (Below.refl _ _) (fun _ => rfl)
        (fun pre W => (∃ v, Boxed W (w.heap.size + 1) 48 v ∧ W.ownsRow w.heap.size 28 2 v (cntT s.ins pre).length (flat (cntT s.ins pre)) ∧ True) ∧ Below w.heap.size w W)
        (fun c pre W => ((∃ v, Boxed W (w.heap.size + 1) 48 v ∧ W.ownsRow w.heap.size 28 2 v (cntT s.ins pre).length (flat (cntT s.ins pre)) ∧ True) ∧ Below w.heap.size w W) ∧ (c = Code.exit 2 ∧ 65 ≤ s.ins.length + pre.length))
        (OwnFrom.and (Own.from (holdsRow_own w.heap.size (w.heap.size + 1) 48 28 2 (fun pre : List Lv => (cntT s.ins pre).length) (fun pre => flat (cntT s.ins pre)) (fun _ _ => True)) _) (ownFrom_below (Nat.le_refl _) (by omega)))
        (fun c => OwnFrom.and (OwnFrom.and (Own.from (holdsRow_own w.heap.size (w.heap.size + 1) 48 28 2 (fun pre : List Lv => (cntT s.ins pre).length) (fun pre => flat (cntT s.ins pre)) (fun _ _ => True)) _) (ownFrom_below (Nat.le_refl _) (by omega))) (ownFrom_pure _ (fun pre : List Lv => c = Code.exit 2 ∧ 65 ≤ s.ins.length + pre.length)))
        ⟨⟨_, hv2, hrow3, trivial⟩, hB2⟩
        (fun x a' W => ∃ (k : Nat) (cs : Array Value) (t : TypeId), W.heap[k]? = some (.cells cs t (0, 0)) ∧ (w.heap.size + 1 < k ∧ cs = (encL x).toArray ∧ t = 79 ∧ a' = { tmps := #[ptr b, .int .i64 now, undef, undef, .slice none 0 0, .pointer (some ⟨w.heap.size + 1, 0, none⟩), undef, u7, .pointer (some ⟨k, 0, none⟩), .slice (some ⟨w.heap.size, 0, none⟩) 0 65, ptr b, .pointer (some ⟨b, 0, none⟩), .pointer (some ⟨b, 1, none⟩), .slice p s.ins.length cap, .int .i64 s.ins.length, .int .i64 s.ins.length, .bool false, u17, u18, u19, u20, u21, u22, u23, u24, ptr b, .pointer (some ⟨b, 0, none⟩), .pointer (some ⟨b, 2, none⟩), .slice po H.length co, .int .i64 now, .func (.func 48) #[] #[.pointer (some ⟨wr.heap.size, 0, none⟩), .pointer (some ⟨wr.heap.size + 1, 0, none⟩)], lvV x, undef, undef, undef, undef, undef, undef, undef, undef, undef, undef], defers := [] }))
        (fun x a' => block_own _ (fun _ k cs t => w.heap.size + 1 < k ∧ cs = (encL x).toArray ∧ t = 79 ∧ a' = { tmps := #[ptr b, .int .i64 now, undef, undef, .slice none 0 0, .pointer (some ⟨w.heap.size + 1, 0, none⟩), undef, u7, .pointer (some ⟨k, 0, none⟩), .slice (some ⟨w.heap.size, 0, none⟩) 0 65, ptr b, .pointer (some ⟨b, 0, none⟩), .pointer (some ⟨b, 1, none⟩), .slice p s.ins.length cap, .int .i64 s.ins.length, .int .i64 s.ins.length, .bool false, u17, u18, u19, u20, u21, u22, u23, u24, ptr b, .pointer (some ⟨b, 0, none⟩), .pointer (some ⟨b, 2, none⟩), .slice po H.length co, .int .i64 now, .func (.func 48) #[] #[.pointer (some ⟨wr.heap.size, 0, none⟩), .pointer (some ⟨wr.heap.size + 1, 0, none⟩)], lvV x, undef, undef, undef, undef, undef, undef, undef, undef, undef, undef], defers := [] })) ?assign ?body ?done ?stop
      case assign =>
        rintro l pre x W K ⟨⟨v, hv, hrow, _⟩, hB⟩ hK
        have hlt := hv.lt
        have hW := hB.size
        gi_wp2
        exact hK _ _ ((KeepsOthers.alloc _ _).from _) ((Below.refl _ W).alloc hW _) ⟨⟨v, hv.alloc _, hrow.alloc _, trivial⟩, hB.alloc hB.size _⟩ ⟨W.heap.size, _, _, heap_alloc_new W _, hlt, rfl, rfl, rfl⟩
      case body =>
        rintro l pre x a' W hl ⟨r, hr⟩ ⟨⟨v, hv, hrow, _⟩, hB⟩ ⟨Bx, cs, t, hx, hlo, rfl, rfl, rfl⟩ hlt
        have hc := hv.cell
        have hBx : Bx < W.heap.size := (Array.getElem?_eq_some_iff.1 hx).1
        have q1 : W.cell? ⟨Bx, 1, none⟩ = some (.int .i64 x.1.pr.1) := (cell_of_row W _ 1 _ _ _ hx).trans rfl
        have q2 : W.cell? ⟨Bx, 2, none⟩ = some (.int .i64 x.1.pr.2) := (cell_of_row W _ 2 _ _ _ hx).trans rfl
        obtain ⟨pv, cv, rfl⟩ := ownF hrow
        by_cases h65 : 65 ≤ s.ins.length + pre.length
        · obtain ⟨f1, f2⟩ := cnt_y (L := s.ins) (X := pre) x h65
          have f3 : (65 : Int) ≤ ((cntT s.ins pre).length : Int) := by omega
          gi_wp2
          exact ⟨KeepsFrom.refl _ _, ⟨⟨_, hv, by rw [f1]; exact hrow, trivial⟩, hB⟩, rfl, by simp; omega⟩
        · obtain ⟨f1, f2⟩ := cnt_n (L := s.ins) (X := pre) x (by omega)
          have f3 : ¬ (65 : Int) ≤ ((cntT s.ins pre).length : Int) := by omega
          have hfl : Hid (flat (cntT s.ins (pre ++ [x])) = flat (cntT s.ins pre) ++ [.int .i64 x.1.pr.1, .int .i64 x.1.pr.2] ∧ (cntT s.ins (pre ++ [x])).length = (cntT s.ins pre).length + 1) := hide ⟨by rw [f1, flat_app]; rfl, by rw [f1]; simp⟩
          have f4 : (cntT s.ins pre).length ≤ 64 := by omega
          clear f1 f2
          generalize x.1.pr.1 = y1 at *
          generalize x.1.pr.2 = y2 at *
          generalize (cntT s.ins pre).length = m at *
          generalize flat (cntT s.ins pre) = fl at *
          gi_wp2_with (gi_at_builtin; refine wpListIn_append_own _ rfl _ _ 48 rfl w.heap.size 28 i0 (.agg #[.int .i64 0, .int .i64 0]) 2 16 Try.underlying48 hi hz0 hz1 hz2 rfl (by decide) _ _ _ rfl (hrow.alloc _) ⟨W.heap.size, 0, none⟩ 1 1 [.int .i64 y1, .int .i64 y2] rfl rfl (cells_new W [.int .i64 y1, .int .i64 y2] 28) (by intro u hu; simp at hu; rcases hu with rfl | rfl <;> rfl) (by unfold maxLen; omega) (by omega) (by have := hB.size; simp; omega) ?_; intro v' w1 hown' hgrow _; obtain ⟨g', cap', rfl⟩ := ownsRow_succ hown'; obtain ⟨hv2, hv3, hr2, hk2, hb2⟩ := hv.appended (by decide) hrow hB.size (by omega) hown' hgrow; have hc1 := hv2.cell; have hf1 := hv2.frozen)
          exact ⟨hk2.from _, hb2, ⟨_, hv3, by rw [hfl.out.1, hfl.out.2]; exact hr2⟩, hB.trans hb2⟩
      case done =>
        rintro D ys W hD rfl ⟨⟨v, hv, hrow, _⟩, hB⟩ hK
        have hc := hv.cell
        gi_wp2
        refine ⟨by simp, .inl ⟨_, _, rfl, run_takeDeferred hK, ?_⟩⟩
        exact ⟨_, results_tmp rfl _ _ _, v, rfl, ownsRow_putObj hrow _ hK rfl, hB.trans (belowK_b (w := w) (Nat.le_refl _) W D _ _ (by omega) hK rfl rfl)⟩
      case stop =>
        rintro D c pre W hD hpre ⟨⟨⟨v, hv, hrow, _⟩, hB⟩, rfl, h65⟩ hK
        have hc := hv.cell
        have hE := hide (cnt_stop (L := s.ins) hpre h65)
        gi_wp2
        refine ⟨by simp, .inl ⟨_, _, rfl, run_takeDeferred hK, ?_⟩⟩
        exact ⟨_, results_tmp rfl _ _ _, v, rfl, by rw [hE.out]; exact ownsRow_putObj hrow _ hK rfl, hB.trans (belowK_b (w := w) (Nat.le_refl _) W D _ _ (by omega) hK rfl rfl)⟩
end Go.Proofs.Ytldccbinndbcdaa.Am
