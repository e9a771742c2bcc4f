/- slices.Delete at entries: one taken out. -/
import Derived.Test.YtldccbinndbcdaaAdE
import Derived.Deep.RegionLaw
import Derived.Lib.SliceRun
import Derived.Deep.RegionHeld3
namespace Go.Proofs.Ytldccbinndbcdaa.Am
open Go.RowKit Go.Proofs.Ytldccbinndbcdaa.Con Go.Proofs.Ytldccbinndbcdaa.Wn Go.Proofs.Ytldccbinndbcdaa.Fp
set_option linter.unusedVariables false
set_option linter.unusedSimpArgs false
attribute [local go_sem ↓] Go.wp_at_zero Go.wp_at_succ
theorem set_cut (l : List Value) (o : Nat) (v : Value) (h : o < l.length) : (l.set o v).take (o + 1) = l.take o ++ [v] ∧ ∀ k, o < k → (l.set o v).drop k = l.drop k := by
  refine ⟨?_, fun k hk => List.drop_set_of_lt hk⟩
  rw [List.take_set, List.take_add_one, List.getElem?_eq_getElem h]
  show (l.take o ++ [l[o]]).set o v = _
  rw [List.set_append_right _ _ (by simp; omega)]
  have : o - (l.take o).length = 0 := by simp; omega
  rw [this]; rfl
theorem heap_setCells (b : Nat) : ∀ (vs : List Value) (o : Nat) (w : World) (cur : Array Value) (t : TypeId), w.heap[b]? = some (.cells cur t (0, 0)) → o + vs.length ≤ cur.size →
    ∃ cur', (w.setCells b o vs).heap[b]? = some (.cells cur' t (0, 0)) ∧ cur'.size = cur.size ∧ cur'.toList = cur.toList.take o ++ vs ++ cur.toList.drop (o + vs.length)
  | [], o, w, cur, t, h, _ => ⟨cur, h, rfl, by simp⟩
  | v :: r, o, w, cur, t, h, hs => by
    simp only [List.length_cons] at hs
    obtain ⟨cur', h1, h2, h3⟩ := heap_setCells b r (o + 1) (w.setCell ⟨b, o, none⟩ v) (cur.setIfInBounds o v) t (heap_setCell_same _ b _ _ _ _ h) (by simp; omega)
    obtain ⟨c1, c2⟩ := set_cut cur.toList o v (by simp; omega)
    refine ⟨cur', h1, by rw [h2]; simp, ?_⟩
    rw [h3, Array.toList_setIfInBounds, c1, c2 _ (by omega), List.length_cons, show o + 1 + r.length = o + (r.length + 1) by omega]
    simp
theorem grown_setCells (b : Nat) : ∀ (vs : List Value) (o : Nat) (w : World), w.grownBy (w.setCells b o vs) (some b)
  | [], o, w => ⟨rfl, rfl, rfl, Nat.le_refl _, fun _ _ _ => rfl⟩
  | v :: r, o, w => by
    have h := grown_setCells b r (o + 1) (w.setCell ⟨b, o, none⟩ v)
    have hz : (w.setCell ⟨b, o, none⟩ v).heap.size = w.heap.size := by simp [World.setCell]
    exact ⟨h.os, h.tape, h.output, by have := h.size; rw [hz] at this; exact this, fun k hk hne => (h.block k (by rw [hz]; exact hk) hne).trans (heap_setCell_other _ ⟨b, o, none⟩ k _ (fun e => hne (by rw [e])))⟩
theorem run_clear4 (w : World) (ty : TypeId) (g o c : Nat) (hs : ∀ j, j < 4 → (w.cell? ⟨g, o + j, none⟩).isSome = true) (hf : ∀ j, j < 4 → w.frozen? ⟨g, o + j, none⟩ = false) :
    (Builtin.clear_ #[32] ty #[.slice (some ⟨g, o, none⟩) 1 c]).run Try.prog w = .ok (.tuple #[]) (w.setCells g o [.int .i64 0, .int .i64 0, .int .i64 0, .int .i64 0]) := by
  have hst := run_storeCells_cells (P := Try.prog) g o [.int .i64 0, .int .i64 0, .int .i64 0, .int .i64 0] 0 w (by simpa using hs) (by simpa using hf) (by intro u hu; simp at hu; rcases hu with rfl | rfl | rfl | rfl <;> rfl)
  have hz : ∀ w, Sem.run Try.prog (zeroValue 50) w = .ok (.agg #[.int .i64 0, .int .i64 0, .int .i64 0, .int .i64 0]) w := Try.zeroValue50
  have hzc : (Builtin.zeroCells (Value.agg #[.int .i64 0, .int .i64 0, .int .i64 0, .int .i64 0]).cells 1).toList = [.int .i64 0, .int .i64 0, .int .i64 0, .int .i64 0] := by
    simp [Builtin.zeroCells, Value.cells]
    rfl
  simp only [Nat.add_zero] at hst
  simp [Builtin.clear_, run_underlying Try.underlying32, hz, hzc, hst]
theorem flatE_takeD (L : List En) (k : Nat) : flatE (L.take k) = (flatE L).take (k * 4) := by
  induction L generalizing k with
  | nil => simp [flatE]
  | cons e L ih =>
    cases k with
    | zero => simp [flatE]
    | succ k =>
      rw [List.take_succ_cons, show (k + 1) * 4 = k * 4 + 1 + 1 + 1 + 1 by omega]
      simp only [flatE, List.take_succ_cons, ih]
theorem flatE_dropD (L : List En) (k : Nat) : flatE (L.drop k) = (flatE L).drop (k * 4) := by
  induction L generalizing k with
  | nil => simp [flatE]
  | cons e L ih =>
    cases k with
    | zero => simp [flatE]
    | succ k =>
      rw [List.drop_succ_cons, show (k + 1) * 4 = k * 4 + 1 + 1 + 1 + 1 by omega]
      simp only [flatE, List.drop_succ_cons, ih]
/-- The cells of a row, whether they lie there and may be written. -/
theorem row_cells {w : World} {g : Nat} {cur : Array Value} {t : TypeId} (h : w.heap[g]? = some (.cells cur t (0, 0))) {j : Nat} (hj : j < cur.size) : (w.cell? ⟨g, j, none⟩).isSome = true ∧ w.frozen? ⟨g, j, none⟩ = false :=
  ⟨by rw [cell_of_row w g j _ _ _ h, Array.getElem?_eq_getElem hj]; rfl, by simp [World.frozen?, h]⟩
set_option maxHeartbeats 8000000 in
set_option maxRecDepth 100000 in
theorem delete_any {w : World} {base : Nat} {v : Value} {L : List En} {i n : Nat} (h : w.ownsRow base 50 4 v n (flatE L)) (hn : L.length = n) (hi : i < n) (hl : n ≤ 1000) :
    Calls Try.prog 25 #[v, .int .i64 i, .int .i64 ((i : Int) + 1)] w fun e w' => ∃ v', e = .returned v' ∧ Hid (w'.ownsRow base 50 4 v' (n - 1) (flatE (L.take i ++ L.drop (i + 1))) ∧ w.grownBy w' v.ownBlock ∧ v'.ownBlock = v.ownBlock) := by
  obtain ⟨hlen, ⟨_, hz⟩ | ⟨g, cap, cur, rfl, hbg, hg, c1, c2, c3, c4⟩⟩ := h
  · omega
  obtain ⟨i0, hi0, hz0, hz1, hz2⟩ := info_parts infoAe
  obtain ⟨m, hm⟩ : ∃ m, n = i + 1 + m := ⟨n - (i + 1), by omega⟩
  -- what is moved
  have hnews : Hid ((flatE (L.drop (i + 1))).length = m * 4) := hide (by rw [flatE_len, List.length_drop]; omega)
  have hone : Hid (∀ u ∈ flatE (L.drop (i + 1)), u.oneCell' = true) := hide (flatE_one _)
  have hcur : ∀ j u, (flatE L)[j]? = some u → w.cell? ⟨g, j, none⟩ = some u := fun j u hj => by
    have hjl := (List.getElem?_eq_some_iff.1 hj).1
    rw [flatE_len] at hjl
    rw [cell_of_row w g j _ _ _ hg, ← Array.getElem?_toList, ← List.getElem?_take_of_lt (show j < n * 4 by omega), c4]
    exact hj
  obtain ⟨A, hA, hsrc⟩ : ∃ A : Addr, (if cap = i + 1 then some (⟨g, 0, none⟩ : Addr) else some ⟨g, (i + 1) * 4, none⟩) = some A ∧ Hid (∀ t u, (flatE (L.drop (i + 1)))[t]? = some u → w.drew.cell? (A.add t) = some u) := by
    by_cases hcap : cap = i + 1
    · refine ⟨⟨g, 0, none⟩, by simp [hcap], hide (fun t u hu => ?_)⟩
      have h0 := (List.getElem?_eq_some_iff.1 hu).1
      rw [hnews.out] at h0; omega
    · refine ⟨⟨g, (i + 1) * 4, none⟩, by simp [hcap], hide (fun t u hu => ?_)⟩
      rw [Addr.add_lit]
      rw [flatE_dropD, List.getElem?_drop] at hu
      exact hcur _ _ hu
  obtain ⟨news, hnw⟩ : ∃ news, flatE (L.drop (i + 1)) = news := ⟨_, rfl⟩
  rw [hnw] at hnews hone hsrc
  obtain ⟨cur1, g1, g2, g3⟩ := heap_setCells g news (0 + i * 4) w.drew cur 50 hg (by rw [hnews.out, c3]; omega)
  have hgr1 := grown_setCells g news (0 + i * 4) w.drew
  have s3 : Hid (∀ t, t < news.length → (w.drew.cell? ⟨g, 0 + i * 4 + t, none⟩).isSome = true ∧ w.drew.frozen? ⟨g, 0 + i * 4 + t, none⟩ = false) := hide (fun t ht => row_cells (w := w.drew) hg (by rw [hnews.out] at ht; rw [c3]; omega))
  obtain ⟨W1, hW1⟩ : ∃ W1, w.drew.setCells g (0 + i * 4) news = W1 := ⟨_, rfl⟩
  rw [hW1] at g1 hgr1
  have HW1 := hide hW1
  have hcl : ∀ ty, (Builtin.clear_ #[32] ty #[.slice (some ⟨g, (i + m) * 4, none⟩) 1 (cap - (i + m))]).run Try.prog W1 = .ok (.tuple #[]) (W1.setCells g ((i + m) * 4) [.int .i64 0, .int .i64 0, .int .i64 0, .int .i64 0]) :=
    fun ty => run_clear4 W1 ty g ((i + m) * 4) _ (fun j hj => (row_cells g1 (by rw [g2, c3]; omega)).1) (fun j hj => (row_cells g1 (by rw [g2, c3]; omega)).2)
  obtain ⟨cur2, k1, k2, k3⟩ := heap_setCells g [.int .i64 0, .int .i64 0, .int .i64 0, .int .i64 0] ((i + m) * 4) W1 cur1 50 g1 (by rw [g2, c3]; simp; omega)
  have hgr2 := grown_setCells g [.int .i64 0, .int .i64 0, .int .i64 0, .int .i64 0] ((i + m) * 4) W1
  have FIN : Hid ((W1.setCells g ((i + m) * 4) [.int .i64 0, .int .i64 0, .int .i64 0, .int .i64 0]).ownsRow base 50 4 (.slice (some ⟨g, 0, none⟩) (i + m) cap) (n - 1) (flatE (L.take i ++ L.drop (i + 1))) ∧ w.grownBy (W1.setCells g ((i + m) * 4) [.int .i64 0, .int .i64 0, .int .i64 0, .int .i64 0]) (some g)) := hide (by
    have hn1 : n - 1 = i + m := by omega
    have hcl : cur.toList.length = cap * 4 := by simpa using c3
    have e1 : flatE (L.take i ++ L.drop (i + 1)) = cur.toList.take (i * 4) ++ news := by
      rw [flatE_app, hnw, flatE_takeD, ← c4, List.take_take, Nat.min_eq_left (by omega)]
    refine ⟨⟨by rw [flatE_len]; simp; omega, .inr ⟨g, cap, cur2, by rw [hn1], hbg, k1, by omega, c2, by rw [k2, g2, c3], ?_⟩⟩, ?_⟩
    · rw [k3, g3, hn1, e1, Nat.zero_add]
      have hl1 : (cur.toList.take (i * 4) ++ news).length = (i + m) * 4 := by
        rw [List.length_append, List.length_take, hnews.out, hcl]; omega
      rw [List.take_left' hl1, List.append_assoc, List.take_left' hl1]
    · exact ⟨hgr2.os.trans hgr1.os, hgr2.tape.trans hgr1.tape, hgr2.output.trans hgr1.output, Nat.le_trans hgr1.size hgr2.size, fun k hk hne => (hgr2.block k (Nat.lt_of_lt_of_le hk hgr1.size) hne).trans (hgr1.block k hk hne)⟩)
  clear hcur hnw hW1 g1 g2 g3 hgr1 hgr2 k1 k2 k3 hg hbg c3 c4 hlen
  subst hm
  have hic : i ≤ cap := by omega
  have hne : ¬ (i : Int) = (i : Int) + 1 := by omega
  have hq1 : (0 : Int) ≤ (i : Int) + 1 := by omega
  have hq2 : (i : Int) + 1 ≤ (i : Int) + 1 + (m : Int) := by omega
  go_enter Try.func25, Try.ntmps25
  go_wp2_with fail
  go_region_law (refine step_append_room rfl (.tmp 22) (.tmp 25) 32 rfl 50 i0 4 Try.underlying32 hi0 hz1 g 0 i cap (by simp [Act.eval, Act.put]) A m (cap - (i + 1)) news (by simp [Act.eval, Act.put]) hnews.out hsrc.out hone.out (by omega) s3.out ?_; rw [HW1.out])
  have hr1 : (0 : Int) ≤ (i : Int) + (m : Int) := by omega
  have hr2 : (i : Int) + (m : Int) ≤ (i : Int) + 1 + (m : Int) := by omega
  have hr3 : ¬ cap = i + m := by omega
  have hr4 : i + 1 + m - (i + m) = 1 := by omega
  go_wp2_with fail
  go_ret
  exact ⟨_, rfl, hide ⟨FIN.out.1, FIN.out.2, rfl⟩⟩
end Go.Proofs.Ytldccbinndbcdaa.Am
