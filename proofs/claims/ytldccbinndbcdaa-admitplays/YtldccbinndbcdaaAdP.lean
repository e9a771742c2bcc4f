/- The landed book: place, Live. -/
import Derived.Test.YtldccbinndbcdaaAdM
import Derived.Test.YtldccbinndbcdaaShelf
namespace Go.Proofs.Ytldccbinndbcdaa.Am
open Go.RowKit Go.Shelf Go.Proofs.Ytldccbinndbcdaa.Con Go.Proofs.Ytldccbinndbcdaa.Wn Go.Proofs.Ytldccbinndbcdaa.Fp
set_option linter.unusedVariables false
set_option linter.unusedSimpArgs false
attribute [local go_sem ↓] Go.wp_at_zero Go.wp_at_succ
set_option maxHeartbeats 2000000 in
theorem pred_any (e : En) (id : Int) (B : Nat) (W : World) (hB : B < W.heap.size) (hc : W.cell? ⟨B, 0, none⟩ = some (.int .i64 id)) :
    Calls Try.prog 39 #[enV e, .pointer (some ⟨B, 0, none⟩)] W fun e1 w' => e1 = .returned (.bool (e.id == id)) ∧ Nx W w' := by
  have HB0 := hide (Nx.alloc W (.cells #[.int .i64 e.id, .int .i64 e.pr.1, .int .i64 e.pr.2, .int .i64 e.till] 50))
  have hne : B ≠ W.heap.size := by omega
  go_enter Try.func39, Try.ntmps39
  go_wp2
  go_ret
  exact ⟨rfl, HB0.out⟩
set_option maxHeartbeats 4000000 in
theorem index_any {w : World} {s : Bs} {v : Value} (h : Es w v s.ins) (hl : s.ins.length ≤ 32) (id : Int) (B : Nat) (hB : B < w.heap.size) (hc : w.cell? ⟨B, 0, none⟩ = some (.int .i64 id)) :
    Calls Try.prog 38 #[v, .func (.func 39) #[] #[.pointer (some ⟨B, 0, none⟩)]] w fun e w' => e = .returned (.int .i64 (findV s id)) ∧ Nx w w' := by
  obtain ⟨p, cap, rfl, hn, hm⟩ := h.form
  have H := hide h
  have HY : Hid (∀ k, k < s.ins.length → (atE s.ins k).id = id → (∀ j, j < k → (atE s.ins j).id ≠ id) → findV s id = (k : Int)) := hide (fun k hk h1 h2 => by unfold findV; rw [if_pos (live_at hk h1 h2), find_at hk h1 h2])
  have HN : Hid ((∀ j, j < s.ins.length → (atE s.ins j).id ≠ id) → findV s id = -1) := hide (fun h2 => by unfold findV; rw [if_neg (by rw [live_none h2]; decide)])
  have HP := hide (fun (e : En) (W : World) (hN : Nx w W) => pred_any e id B W (Nat.lt_of_lt_of_le hB hN.size) ((hN.cell (p := ⟨B, 0, none⟩) hB).trans hc))
  have hg : ∀ args w, (callFunc 39 args).run Try.prog w = .ok (.enter 39 args) w := enters_of Try.func39 (by kernel_rfl) rfl
  clear h hc
  go_enter Try.func38, Try.ntmps38
  go_wp2
  go_loopw [5, 8] (fun _ i wr => ∃ k : Nat, k ≤ s.ins.length ∧ i = .int .i64 k ∧ Hid (∀ j, j < k → (atE s.ins j).id ≠ id) ∧ Hid (Nx w wr)) (fun _ i _ => s.ins.length - (intOf i).toNat)
  case atStart => exact ⟨0, by omega, rfl, hide (fun j hj => by omega), hide (Nx.refl _)⟩
  case round =>
    obtain ⟨k, hk, rfl, HR, HB⟩ := hrel
    have H2 := hide (Es.below H.out HB.out)
    by_cases hkn : k < s.ins.length
    · obtain ⟨be, oe, rfl, hbe, q0, q1, q2, q3⟩ := H2.out.at hkn
      have hk1 : (k : Int) < (s.ins.length : Int) := by omega
      have hY := HY.out k hkn
      have hcall := HP.out (atE s.ins k) wr HB.out
      by_cases hid : (atE s.ins k).id = id
      · have FE := hide (hY hid HR.out)
        have hid' : ((atE s.ins k).id == id) = true := by simp [hid]
        rw [hid'] at hcall
        clear hY hid HR H2 hid' HP
        generalize atE s.ins k = en at *
        obtain ⟨u0, ⟨u1, u2⟩, u3⟩ := en
        dsimp only [enV] at hcall q0 q1 q2 q3
        go_wp2_with (go_at_fn 39; refine hcall.mono ?_; rintro e w' ⟨rfl, hb'⟩; have HB' := hide (Nx.trans HB.out hb'); clear hb')
        go_ret
        exact ⟨by rw [FE.out]; rfl, HB'.out⟩
      · have HR2 : Hid (∀ i, i < k + 1 → (atE s.ins i).id ≠ id) := hide (fun i hi => by
          rcases Nat.lt_or_ge i k with h1 | h1
          · exact HR.out i h1
          · obtain rfl : i = k := by omega
            exact hid)
        have hid' : ((atE s.ins k).id == id) = false := by simp [hid]
        rw [hid'] at hcall
        clear hY hid HR H2 hid'
        generalize atE s.ins k = en at *
        obtain ⟨u0, ⟨u1, u2⟩, u3⟩ := en
        dsimp only [enV] at hcall q0 q1 q2 q3
        go_wp2_with (go_at_fn 39; refine hcall.mono ?_; rintro e w' ⟨rfl, hb'⟩; have HB' := hide (Nx.trans HB.out hb'); clear hb')
        go_roundw
        case rel => exact ⟨k + 1, by omega, by go_num, HR2, HB'⟩
        case measure => simp [intOf]; omega
    · obtain rfl : k = s.ins.length := by omega
      have FE := hide (HN.out HR.out)
      clear H2
      go_wp2
      go_ret
      exact ⟨by rw [FE.out]; rfl, HB.out⟩
set_option maxHeartbeats 4000000 in
theorem place_any {w : World} {b : Nat} {s : Bs} {vi vo : Value} {H : List Lv} (h : BB w b s vi vo H) (hl : s.ins.length ≤ 32) (id : Int) :
    Calls Try.prog 23 #[ptr b, .int .i64 id] w fun e w' => e = .returned (.int .i64 (findV s id)) ∧ Nx w w' := by
  have HB0 := hide (Nx.alloc w (.cells #[.int .i64 id] 3))
  have hI := hide (index_any (Es.below h.rdI HB0.out) hl id w.heap.size (by simp) ((cell_of_row _ _ 0 _ _ _ (heap_alloc_new w (.cells #[.int .i64 id] 3))).trans rfl))
  obtain ⟨_, c1, _⟩ := row3 h.row
  have hb : b < w.heap.size := World.block_lt_of_cell? w _ c1
  have hne : b ≠ w.heap.size := by omega
  obtain ⟨p, cap, rfl, hn, hm⟩ := h.rdI.form
  clear h
  go_enter Try.func23, Try.ntmps23
  go_wp2_with (go_at_call 38; refine hI.out.mono ?_; rintro e w9 ⟨rfl, hw9⟩; have HN9 := hide (Nx.trans HB0.out hw9); clear hw9)
  go_ret
  exact ⟨rfl, HN9.out⟩
def encE (e : En) : List Value := [.int .i64 e.id, .int .i64 e.pr.1, .int .i64 e.pr.2, .int .i64 e.till]
set_option maxHeartbeats 2000000 in
theorem clone_any {w : World} {v : Value} {L : List En} (h : w.ownsRow 0 50 4 v L.length (flatE L)) (hl : L.length ≤ 1000) :
    Calls Try.prog 29 #[v] w fun e w' => ∃ v', e = .returned v' ∧ Hid (Es w' v' L) ∧ Nx w w' := by
  obtain ⟨i, hi, hz0, hz1, hz2⟩ := info_parts infoAe
  obtain ⟨hlen, ⟨rfl, hz⟩ | ⟨g, cap, cur, rfl, hbg, hg, c1, c2, c3, c4⟩⟩ := h
  · have h0 : L = [] := List.eq_nil_of_length_eq_zero hz
    subst h0
    refine (AnyE.slices_Clone_nil Try.cloneEn _ 0 w).mono fun e w' hh => ?_
    obtain ⟨rfl, rfl⟩ := hh
    exact ⟨_, rfl, hide (Es.nil _), Nx.refl _⟩
  · have hc : ∀ j u, (flatE L)[j]? = some u → w.cell? ⟨g, 0 + j, none⟩ = some u := fun j u hj => by
      have hjl := (List.getElem?_eq_some_iff.1 hj).1
      rw [flatE_len] at hjl
      rw [Nat.zero_add, cell_of_row w g j _ _ _ hg, ← Array.getElem?_toList, ← List.getElem?_take_of_lt hjl, c4]
      exact hj
    refine (AnyE.slices_Clone Try.cloneEn i _ 4 32 hi hz0 hz1 hz2 rfl (by decide) Try.sizeOf50 g 0 L.length cap (flatE L) w (by rw [flatE_len]) (by unfold maxLen; omega) (by omega) hc (flatE_one L)).mono fun e w' hh => ?_
    obtain ⟨v', e1, h5, _, h6⟩ := hh
    exact ⟨v', e1, hide (Es.own h5), h6⟩
set_option maxHeartbeats 2000000 in
theorem liveB : LiveC BI := by
  rintro W b s F ⟨vi, vo, H, h, rfl⟩ hs
  have hC := hide (clone_any h.ins (by have := hs.1; omega))
  obtain ⟨_, c1, _⟩ := row3 h.row
  obtain ⟨p, cap, rfl, hn, hm⟩ := h.rdI.form
  clear h
  go_enter Try.func14, Try.ntmps14
  go_wp2_with (go_at_call 29; refine hC.out.mono ?_; rintro e w9 ⟨v9, rfl, h9, n9⟩)
  go_ret
  exact ⟨v9, rfl, h9, n9⟩
end Go.Proofs.Ytldccbinndbcdaa.Am
