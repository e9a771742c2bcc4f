/- The reference's book: what its readers tell. -/
import Derived.Test.YtldccbinndbcdaaAmSl
import Derived.Test.YtldccbinndbcdaaWnRg
namespace Go.Proofs.Ytldccbinndbcdaa.Am
open Go.RowKit Go.Proofs.Ytldccbinndbcdaa.Con Go.Proofs.Ytldccbinndbcdaa.Wn Go.Proofs.Ytldccbinndbcdaa.Fp
set_option linter.unusedVariables false
set_option linter.unusedSimpArgs false
attribute [local go_sem ↓] Go.wp_at_zero Go.wp_at_succ
abbrev rptr (b : Nat) : Value := .pointer (some ⟨b, 0, none⟩)
theorem infoEn : (Try.prog.info? 67).map (fun i => (i.zero, i.size, i.bytes)) = some (some (.agg #[.int .i64 0, .int .i64 0, .int .i64 0, .int .i64 0]), 4, 32) := by kernel_rfl
theorem infoPp : (Try.prog.info? 42).map (fun i => (i.zero, i.size, i.bytes)) = some (some (.agg #[.int .i64 0, .int .i64 0]), 2, 16) := by kernel_rfl
theorem ownF {w : World} {B e size n : Nat} {v : Value} {xs : List Value} (h : w.ownsRow B e size v n xs) : ∃ p c, v = .slice p n c := by
  obtain ⟨_, ⟨rfl, rfl⟩ | ⟨g, cap, cur, rfl, _⟩⟩ := h
  · exact ⟨none, 0, rfl⟩
  · exact ⟨_, cap, rfl⟩
theorem ownN {w w' : World} {B e size n : Nat} {v : Value} {xs : List Value} (h : w.ownsRow B e size v n xs) (hB : Nx w w') : w'.ownsRow B e size v n xs := own_kept h (fun k hk => hB.block k (own_lt h k hk))
theorem row3 {w : World} {g e : Nat} {x y z : Value} {fr : Nat × Nat} (h : w.heap[g]? = some (.cells #[x, y, z] e fr)) : w.cell? ⟨g, 0, none⟩ = some x ∧ w.cell? ⟨g, 1, none⟩ = some y ∧ w.cell? ⟨g, 2, none⟩ = some z :=
  ⟨(cell_of_row w g 0 _ e _ h).trans rfl, (cell_of_row w g 1 _ e _ h).trans rfl, (cell_of_row w g 2 _ e _ h).trans rfl⟩
structure RBk (w : World) (b : Nat) (s : Bs) (vi vo : Value) : Prop where
  row : w.heap[b]? = some (.cells #[.int .i64 s.cpus, vi, vo] 39 (0, 0))
  ins : w.ownsRow 0 67 4 vi s.ins.length (flatE s.ins)
  outs : w.ownsRow 0 67 4 vo s.outs.length (flatE s.outs)
  apart : ∀ k, vi.ownBlock = some k → vo.ownBlock ≠ some k
theorem RBk.on {w w' : World} {b : Nat} {s : Bs} {vi vo : Value} (h : RBk w b s vi vo) (hB : Nx w w') : RBk w' b s vi vo :=
  ⟨(hB.block b (Array.getElem?_eq_some_iff.1 h.row).1).trans h.row, ownN h.ins hB, ownN h.outs hB, h.apart⟩
theorem RBk.rdI {w : World} {b : Nat} {s : Bs} {vi vo : Value} (h : RBk w b s vi vo) : Es w vi s.ins := Es.own h.ins
theorem RBk.rdO {w : World} {b : Nat} {s : Bs} {vi vo : Value} (h : RBk w b s vi vo) : Es w vo s.outs := Es.own h.outs
def findV (s : Bs) (id : Int) : Int := if isLive s id = true then (findI s id : Int) else -1
set_option maxHeartbeats 4000000 in
theorem rfind_any {w : World} {b : Nat} {s : Bs} {vi vo : Value} (h : RBk w b s vi vo) (hl : s.ins.length ≤ 32) (id : Int) :
    Calls Try.prog 31 #[rptr b, .int .i64 id] w fun e w' => e = .returned (.int .i64 (findV s id)) ∧ Nx w w' := by
  obtain ⟨p, cap, rfl, hn, hm⟩ := h.rdI.form
  have H := hide h
  have HY : Hid (∀ k, k < s.ins.length → (atE s.ins k).id = id → (∀ j, j < k → (atE s.ins j).id ≠ id) → findV s id = (k : Int)) := hide (fun k hk h1 h2 => by unfold findV; rw [if_pos (live_at hk h1 h2), find_at hk h1 h2])
  have HN : Hid ((∀ j, j < s.ins.length → (atE s.ins j).id ≠ id) → findV s id = -1) := hide (fun h2 => by unfold findV; rw [if_neg (by rw [live_none h2]; decide)])
  clear h
  go_enter Try.func31, Try.ntmps31
  go_wp2
  go_loopw [5] (fun i wr => ∃ k : Nat, k ≤ s.ins.length ∧ i = .int .i64 k ∧ Hid (∀ j, j < k → (atE s.ins j).id ≠ id) ∧ Hid (Nx w wr)) (fun i _ => s.ins.length - (intOf i).toNat)
  case atStart => exact ⟨0, by omega, rfl, hide (fun j hj => by omega), hide (Nx.refl _)⟩
  case round =>
    obtain ⟨k, hk, rfl, HR, HB⟩ := hrel
    have H2 := hide (H.out.on HB.out)
    obtain ⟨_, c1, _⟩ := row3 H2.out.row
    have hbl : b < wr.heap.size := World.block_lt_of_cell? wr _ c1
    by_cases hkn : k < s.ins.length
    · obtain ⟨be, oe, rfl, hbe, q0, _, _, _⟩ := H2.out.rdI.at hkn
      have hk1 : (k : Int) < (s.ins.length : Int) := by omega
      have hY := HY.out k hkn
      by_cases hid : (atE s.ins k).id = id
      · have FE := hide (hY hid HR.out)
        rw [hid] at q0
        clear hY hid HR H2
        go_wp2
        go_ret
        exact ⟨by rw [FE.out]; rfl, HB.out⟩
      · have HR2 : Hid (∀ i, i < k + 1 → (atE s.ins i).id ≠ id) := hide (fun i hi => by
          rcases Nat.lt_or_ge i k with h1 | h1
          · exact HR.out i h1
          · obtain rfl : i = k := by omega
            exact hid)
        clear hY HR H2
        generalize (atE s.ins k).id = u at *
        have hid' : (u == id) = false := by simp [hid]
        go_wp2
        go_round
        case rel => exact ⟨k + 1, by omega, by go_num, HR2, HB⟩
        case measure => simp [intOf]; omega
    · obtain rfl : k = s.ins.length := by omega
      have FE := hide (HN.out HR.out)
      clear H2
      go_wp2
      go_ret
      exact ⟨by rw [FE.out]; rfl, HB.out⟩
def lingL (l : List En) (now : Int) : List En := l.filter (fun e => decide (now < e.till))
theorem ling_y {l : List En} {now : Int} {k : Nat} (hk : k < l.length) (h : now < (atE l k).till) : lingL (l.take (k + 1)) now = lingL (l.take k) now ++ [atE l k] := by
  unfold lingL; rw [takeE_snoc l k hk, List.filter_append]; simp [h]
theorem ling_n {l : List En} {now : Int} {k : Nat} (hk : k < l.length) (h : ¬ now < (atE l k).till) : lingL (l.take (k + 1)) now = lingL (l.take k) now := by
  unfold lingL; rw [takeE_snoc l k hk, List.filter_append]; simp [h]
theorem ling_le (l : List En) (now : Int) (k : Nat) : (lingL (l.take k) now).length ≤ k := Nat.le_trans (List.length_filter_le _ _) (by simp; omega)
theorem flatE_snoc1 (l : List En) (e : En) : flatE (l ++ [e]) = flatE l ++ [.int .i64 e.id, .int .i64 e.pr.1, .int .i64 e.pr.2, .int .i64 e.till] := by rw [flatE_app]; rfl
set_option maxHeartbeats 8000000 in
theorem rlingers_any {w : World} {b : Nat} {s : Bs} {vi vo : Value} (h : RBk w b s vi vo) (hl : s.outs.length ≤ 500) (now : Int) :
    Calls Try.prog 20 #[rptr b, .int .i64 now] w fun e w' => ∃ v, e = .returned v ∧ Hid (w'.ownsRow w.heap.size 67 4 v (lingers s now).length (flatE (lingers s now))) ∧ Nx w w' := by
  obtain ⟨p, cap, rfl, hn, hm⟩ := h.rdO.form
  have H := hide h
  have HT : Hid (lingL (s.outs.take s.outs.length) now = lingers s now) := hide (by rw [List.take_length]; rfl)
  clear h
  go_enter Try.func20, Try.ntmps20
  go_wp2
  go_loopw [5, 6] (fun r i wr => ∃ k : Nat, k ≤ s.outs.length ∧ i = .int .i64 k ∧ Hid (wr.ownsRow w.heap.size 67 4 r (lingL (s.outs.take k) now).length (flatE (lingL (s.outs.take k) now))) ∧ Hid (Nx w wr)) (fun _ i _ => s.outs.length - (intOf i).toNat)
  case atStart => exact ⟨0, by omega, rfl, hide (World.ownsRow_nil _ _ _ _), hide (Nx.refl _)⟩
  case round =>
    obtain ⟨k, hk, rfl, HO, HB⟩ := hrel
    have H2 := hide (H.out.on HB.out)
    obtain ⟨_, _, c2⟩ := row3 H2.out.row
    have hbl : b < wr.heap.size := World.block_lt_of_cell? wr _ c2
    obtain ⟨p0, c0, rfl⟩ := ownF HO.out
    by_cases hkn : k < s.outs.length
    · obtain ⟨be, oe, rfl, hbe, q0, q1, q2, q3⟩ := H2.out.rdO.at hkn
      have hk1 : (k : Int) < (s.outs.length : Int) := by omega
      by_cases ht : now < (atE s.outs k).till
      · have hs := ling_y hkn ht
        have hs1 := hide (show (lingL (s.outs.take (k + 1)) now).length = (lingL (s.outs.take k) now).length + 1 by rw [hs]; simp)
        have hs2 := hide (show flatE (lingL (s.outs.take (k + 1)) now) = flatE (lingL (s.outs.take k) now) ++ [.int .i64 (atE s.outs k).id, .int .i64 (atE s.outs k).pr.1, .int .i64 (atE s.outs k).pr.2, .int .i64 (atE s.outs k).till] by rw [hs]; exact flatE_snoc1 _ _)
        have hle := ling_le s.outs now k
        clear hs H2
        generalize (atE s.outs k).id = y0 at *
        generalize (atE s.outs k).pr.1 = y1 at *
        generalize (atE s.outs k).pr.2 = y2 at *
        generalize (atE s.outs k).till = y3 at *
        generalize flatE (lingL (s.outs.take k) now) = F at *
        generalize (lingL (s.outs.take k) now).length = n at *
        have OW : Hid ((wr.alloc (.cells #[.int .i64 y0, .int .i64 y1, .int .i64 y2, .int .i64 y3] 67)).ownsRow w.heap.size 67 4 (.slice p0 n c0) n F) := hide (HO.out.alloc _)
        have RD : Hid (RdC (wr.alloc (.cells #[.int .i64 y0, .int .i64 y1, .int .i64 y2, .int .i64 y3] 67)) (wr.heap.size + 1) 4 (.slice (some ⟨wr.heap.size, 0, none⟩) 1 1) 1 [.int .i64 y0, .int .i64 y1, .int .i64 y2, .int .i64 y3]) := hide (by
          have := rd_one (w := (wr.alloc (.cells #[.int .i64 y0, .int .i64 y1, .int .i64 y2, .int .i64 y3] 67))) (size := 4) (heap_alloc_new wr _) rfl
          simpa using this)
        have BD : Hid (Below w.heap.size w (wr.alloc (.cells #[.int .i64 y0, .int .i64 y1, .int .i64 y2, .int .i64 y3] 67))) := hide (bel_alloc HB.out (Nat.le_refl _) _)
        go_wp2_with (at_builtin; refine wpList_append_rd (w := wr.alloc (.cells #[.int .i64 y0, .int .i64 y1, .int .i64 y2, .int .i64 y3] 67)) rfl _ _ 37 rfl rfl rfl Try.underlying37 infoEn rfl (by decide) (by decide) OW.out BD.out.size RD.out (by intro u hu; simp at hu; rcases hu with rfl | rfl | rfl | rfl <;> rfl) (by omega) ?_; intro p5 c5 w5 HA5; refine Hid.out ?_)
        refine hide ?_
        have HB5 := hide (below_grown BD.out BD.out.size HA5.out.2 (own_past OW.out))
        have HO5 : Hid (w5.ownsRow w.heap.size 67 4 (.slice p5 (n + 1) c5) (lingL (s.outs.take (k + 1)) now).length (flatE (lingL (s.outs.take (k + 1)) now))) := hide (by rw [hs1.out, hs2.out]; exact HA5.out.1)
        clear HA5 BD RD OW HO HB hs1 hs2
        go_wp2
        go_roundw
        case rel => exact ⟨k + 1, by omega, by go_num, HO5, HB5⟩
        case measure => simp [intOf]; omega
      · have hs := ling_n hkn ht
        have HO5 : Hid (wr.ownsRow w.heap.size 67 4 (.slice p0 (lingL (s.outs.take k) now).length c0) (lingL (s.outs.take (k + 1)) now).length (flatE (lingL (s.outs.take (k + 1)) now))) := hide (by rw [hs]; exact HO.out)
        clear hs H2 HO
        generalize (atE s.outs k).till = y3 at *
        go_wp2
        go_roundw
        case rel => exact ⟨k + 1, by omega, by go_num, HO5, HB⟩
        case measure => simp [intOf]; omega
    · obtain rfl : k = s.outs.length := by omega
      have FE := HO.out
      rw [HT.out] at FE
      have FE := hide FE
      clear H2 HO
      go_wp2
      go_ret
      exact ⟨_, rfl, by rw [HT.out]; exact FE, HB.out⟩
end Go.Proofs.Ytldccbinndbcdaa.Am
