/- EdfOrder: in whatever order they stand. -/
import Derived.Test.YtacbiiiadalocaaEdOwn
import Derived.Test.YtacbiiiadalocaaEdBest
namespace Go.Proofs.Ytacbiiiadalocaa.Ed
open Go.RowKit Go.Proofs.Ytacbiiiadalocaa.Con
set_option linter.unusedVariables false
set_option linter.unusedSimpArgs false
attribute [local go_sem ↓] Go.wp_at_zero Go.wp_at_succ
/-- The first n of a list turned by t. -/
def rot (L : List Et) (t n : Nat) : List Et := (List.range n).map fun i => at' L ((i + t) % L.length)
theorem rot_len (L : List Et) (t n : Nat) : (rot L t n).length = n := by simp [rot]
theorem rot_snoc (L : List Et) (t n : Nat) : rot L t (n + 1) = rot L t n ++ [at' L ((n + t) % L.length)] := by unfold rot; rw [List.range_succ, List.map_append]; rfl
theorem rot_perm (L : List Et) {t : Nat} (ht : t < L.length) : L.Perm (rot L t L.length) := by
  have e : rot L t L.length = L.drop t ++ L.take t := by
    apply List.ext_getElem
    · simp [rot_len]; omega
    · intro j h1 h2
      rw [rot_len] at h1
      simp only [rot, List.getElem_map, List.getElem_range]
      by_cases hj : j < L.length - t
      · rw [List.getElem_append_left (by rw [List.length_drop]; omega), List.getElem_drop, Nat.mod_eq_of_lt (by omega)]
        have := at_eq (L := L) (j := j + t) (by omega)
        rw [List.getElem?_eq_getElem (by omega)] at this
        rw [← Option.some.inj this]
        congr 1; omega
      · rw [List.getElem_append_right (by rw [List.length_drop]; omega), List.getElem_take]
        have e2 : (j + t) % L.length = j - (L.drop t).length := by
          rw [List.length_drop, show j + t = (j - (L.length - t)) + L.length by omega, Nat.add_mod_right, Nat.mod_eq_of_lt (by omega)]
        have := at_eq (L := L) (j := (j + t) % L.length) (Nat.mod_lt _ (by omega))
        rw [List.getElem?_eq_getElem (Nat.mod_lt _ (by omega))] at this
        rw [← Option.some.inj this]
        congr 1
  rw [e]
  have : L.Perm (L.take t ++ L.drop t) := by rw [List.take_append_drop]
  exact this.trans List.perm_append_comm
theorem infoEt : (Try.prog.info? 24).map (fun i => (i.zero, i.size, i.bytes)) = some (some (.agg #[.int .i64 0, .int .i64 0, .bool false]), 3, 24) := by kernel_rfl
set_option maxHeartbeats 16000000 in
set_option maxRecDepth 100000 in
theorem order_walk (hA : Hid AwakeC) (hG : Hid GoodC) (hP : Hid PickC) (m : Int) (L : List Et) (t : Int) (v : Value) (W : World) (h : Sl W v L) :
    Calls Try.prog 6 #[.int .i64 m, v, .int .i64 t] W fun e w' => e = .returned (.bool true) ∧ Nx W w' := by
  obtain ⟨p, cap, rfl, hn, hm⟩ := h.form
  have hmx : (L.length : Int) ≤ 9223372036854775807 := by unfold maxLen at hm; omega
  have H := hide h
  clear h
  go_enter Try.func6, Try.ntmps6
  go_wp2_with fail
  refine (hA.out _).mono ?_
  rintro e w1 ⟨rfl, hb⟩
  have B1 := hide hb
  clear hb
  by_cases h1 : (L.length : Int) < 1
  · have h1' : decide ((L.length : Int) < 1) = true := decide_eq_true h1
    go_wp2
    go_ret
    exact ⟨rfl, B1.out⟩
  have h1' : decide ((L.length : Int) < 1) = false := decide_eq_false h1
  by_cases h2 : 64 < (L.length : Int)
  · have h2' : decide (64 < (L.length : Int)) = true := decide_eq_true h2
    go_wp2
    go_ret
    exact ⟨rfl, B1.out⟩
  have h2' : decide (64 < (L.length : Int)) = false := decide_eq_false h2
  by_cases h3 : t < 0
  · have h3' : decide (t < 0) = true := decide_eq_true h3
    go_wp2
    go_ret
    exact ⟨rfl, B1.out⟩
  have h3' : decide (t < 0) = false := decide_eq_false h3
  by_cases h4 : 63 < m
  · have h4' : decide (63 < m) = true := decide_eq_true h4
    go_wp2
    go_ret
    exact ⟨rfl, B1.out⟩
  have h4' : decide (63 < m) = false := decide_eq_false h4
  have hl1 : L.length ≤ 100 := by omega
  go_wp2_with fail
  refine (hG.out m L _ w1 (H.out.below B1.out) hl1).mono ?_
  rintro e w2 ⟨rfl, hb⟩
  have B2 := hide (Nx.trans B1.out hb)
  clear hb B1
  cases hg : goodE m L with
  | false =>
    clear hg
    go_wp2
    go_ret
    exact ⟨rfl, B2.out⟩
  | true =>
    have hm4 : m ≤ 63 := by omega
    obtain ⟨⟨m1, m2⟩, _⟩ := good_iff.1 hg
    obtain ⟨T, rfl⟩ : ∃ T : Nat, t = (T : Int) := ⟨t.toNat, by omega⟩
    have hlp : 0 < L.length := by omega
    have HPR := hide (perm_pick (m := m) (rot_perm L (t := T % L.length) (Nat.mod_lt _ hlp)))
    have HPM := hide (pick_more hg hm4)
    clear hg
    obtain ⟨tm, htm⟩ : ∃ tm, T % L.length = tm := ⟨_, rfl⟩
    have htl : tm < L.length := by rw [← htm]; exact Nat.mod_lt _ hlp
    have htl1 : (tm : Int) < (L.length : Int) := by omega
    have ht1 : (T : Int).tmod (L.length : Int) = (tm : Int) := by rw [← htm]; rfl
    rw [htm] at HPR
    clear htm
    have HS : Hid (∀ w, Nx w2 w → Sl w (.slice p L.length cap) L) := hide (fun w h => H.out.below (Nx.trans B2.out h))
    go_wp2
    go_loopw [7, 8] (fun r i wr => ∃ k : Nat, k ≤ L.length ∧ i = .int .i64 (k : Int) ∧ Hid (wr.ownsRow w2.heap.size 24 3 r k (flatE (rot L tm k))) ∧ Hid (Nx w2 wr)) (fun _ i _ => L.length - (intOf i).toNat)
    case atStart => exact ⟨0, by omega, rfl, hide (World.ownsRow_nil _ _ _ _), hide (Nx.refl _)⟩
    case round =>
      obtain ⟨k, hk, rfl, HO, HN⟩ := hrel
      obtain ⟨p0, c0, rfl⟩ := ownF HO.out
      by_cases hkn : k < L.length
      · have hk1 : (k : Int) < (L.length : Int) := by omega
        obtain ⟨j, hj⟩ : ∃ j, (k + tm) % L.length = j := ⟨_, rfl⟩
        have hjl : j < L.length := by rw [← hj]; exact Nat.mod_lt _ hlp
        have hj1 : (j : Int) < (L.length : Int) := by omega
        have hj0 : decide ((j : Int) < 0) = false := decide_eq_false (by omega)
        have ht2 : ((k : Int) + (tm : Int)).tmod (L.length : Int) = (j : Int) := by rw [← hj]; rfl
        have hs : Hid (flatE (rot L tm (k + 1)) = flatE (rot L tm k) ++ [.int .i64 (at' L j).1, .int .i64 (at' L j).2.1, .bool (at' L j).2.2]) := hide (by rw [rot_snoc, flatE_snoc1, hj])
        obtain ⟨b, o, rfl, hb, x0, x1, x2⟩ := (HS.out _ HN.out).at hjl
        clear hj
        generalize (at' L j).1 = y0 at *
        generalize (at' L j).2.1 = y1 at *
        generalize (at' L j).2.2 = y2 at *
        generalize flatE (rot L tm k) = FL at *
        have OW := HO
        have BD := HN
        go_wp2_with (at_builtin; refine wpList_app (w := wr) rfl _ _ 25 rfl #[.int .i64 y0, .int .i64 y1, .bool y2] rfl rfl rfl Try.underlying25 infoEt rfl (by decide) (by decide) OW.out BD.out.size (by omega) rfl (by intro u hu; simp at hu; rcases hu with rfl | rfl | rfl <;> rfl) ?_; intro p6 c6 w6 HA6; refine Hid.out ?_)
        refine hide ?_
        have HB6 := hide (below_grown BD.out BD.out.size HA6.out.2 (own_past OW.out))
        have HO6 : Hid (w6.ownsRow w2.heap.size 24 3 (.slice p6 (k + 1) c6) (k + 1) (flatE (rot L tm (k + 1)))) := hide (by rw [hs.out]; exact HA6.out.1)
        clear HA6 BD OW hs
        go_wp2
        go_roundw
        case rel => exact ⟨k + 1, by omega, by go_num, HO6, HB6⟩
        case measure => simp [intOf]; omega
      · obtain rfl : k = L.length := by omega
        have HR : Hid (Sl wr (.slice p0 L.length c0) (rot L tm L.length)) := hide (by
          have := HO.out
          have e : (rot L tm L.length).length = L.length := rot_len _ _ _
          have h2 := Sl.own (L := rot L tm L.length) (v := .slice p0 L.length c0) (by rw [e]; exact this)
          exact h2)
        have HPa := hide (hP.out m L _ wr (HS.out _ HN.out) hl1)
        have HPb := hide (fun w (hB : Nx wr w) => hP.out m (rot L tm L.length) _ w (HR.out.below hB) (by rw [rot_len]; exact hl1))
        have HPd := hide (fun w (hB : Nx wr w) => hP.out (m + 1) L _ w (HS.out _ (Nx.trans HN.out hB)) hl1)
        rw [← HPR.out] at HPb
        have HNW := hide (Nx.trans B2.out HN.out)
        clear HO HN HR HPR
        generalize wr = wq at *
        have HPM1 := hide HPM.out.1
        have HPM2 := hide HPM.out.2
        have hp64 : (pickL m L).length ≤ 64 := pick_le
        have hq64 : (pickL (m + 1) L).length ≤ 64 := pick_le
        clear HPM
        generalize pickL (m + 1) L = QL at *
        generalize pickL m L = PL at *
        have hpm : (PL.length : Int) ≤ 64 := by omega
        have hqm : (QL.length : Int) ≤ 64 := by omega
        have hle : decide ((PL.length : Int) + 1 < (QL.length : Int)) = false := decide_eq_false (by have := HPM1.out; omega)
        go_wp2_with fail
        refine HPa.out.mono ?_
        rintro e wa ⟨va, rfl, hI, hb⟩
        have IA := hide hI.out
        have NA := hide hb
        clear hI hb HPa
        obtain ⟨pa, ca, rfl, hna, hma⟩ := IA.out.form
        go_wp2_with fail
        refine (HPb.out _ NA.out).mono ?_
        rintro e wb ⟨vb, rfl, hI, hb⟩
        have IA2 := hide (IA.out.below hb)
        have IB := hide hI.out
        have NB := hide (Nx.trans NA.out hb)
        clear hI hb HPb NA IA
        obtain ⟨pb, cb, rfl, hnb, hmb⟩ := IB.out.form
        go_wp2_with fail
        refine (HPd.out _ NB.out).mono ?_
        rintro e wc ⟨vc, rfl, hI, hb⟩
        have IA := hide (IA2.out.below hb)
        have IB2 := hide (IB.out.below hb)
        have IC := hide hI.out
        have NC := hide (Nx.trans NB.out hb)
        have hin := ints_any IA.out IB2.out
        rw [decide_eq_true (rfl : PL = PL)] at hin
        have HIN := hide hin
        clear hin hI hb HPd NB IA2 IB IB2
        obtain ⟨pc, cc, rfl, hnc, hmc⟩ := IC.out.form
        go_wp2_with fail
        refine HIN.out.mono ?_
        rintro e wd ⟨rfl, hb⟩
        have JA := hide (IA.out.below hb)
        have JC := hide (IC.out.below hb)
        have ND := hide (Nx.trans HNW.out (Nx.trans NC.out hb))
        clear hb HIN IA IC NC HNW
        go_wp2
        go_loopw [12] (fun i wr => ∃ k : Nat, k ≤ PL.length ∧ i = .int .i64 (k : Int) ∧ Hid (Nx wd wr)) (fun i _ => PL.length - (intOf i).toNat)
        case atStart => exact ⟨0, by omega, rfl, hide (Nx.refl _)⟩
        case round =>
          obtain ⟨i, hi', rfl, HN⟩ := hrel
          by_cases hi : i < PL.length
          rotate_left
          · obtain rfl : i = PL.length := by omega
            have BW := hide (Nx.trans ND.out HN.out)
            clear HN
            go_wp2
            go_ret
            exact ⟨rfl, BW.out⟩
          have hi1 : (i : Int) < (PL.length : Int) := by omega
          have HC := hide (HPM2.out _ (getD_mem hi))
          generalize wr = wi at *
          go_wp2
          go_loopw [13, 14] (fun t j wr => ∃ k : Nat, k ≤ QL.length ∧ j = .int .i64 (k : Int) ∧ t = .bool (decide (PL.getD i 0 ∈ QL.take k)) ∧ Hid (Nx wd wr)) (fun _ j _ => QL.length - (intOf j).toNat)
          case atStart => exact ⟨0, by omega, rfl, by simp, HN⟩
          case round =>
            obtain ⟨k, hk', rfl, ht, HNk⟩ := hrel
            by_cases hk : k < QL.length
            rotate_left
            · obtain rfl : k = QL.length := by omega
              rw [List.take_length, decide_eq_true HC.out] at ht
              subst ht
              clear HN
              go_wp2
              go_roundw
              case rel => exact ⟨i + 1, by omega, by go_num, HNk⟩
              case measure => simp [intOf]; omega
            have hk1 : (k : Int) < (QL.length : Int) := by omega
            have HT := hide (mem_take_s hk (PL.getD i 0))
            obtain ⟨ba, oa, rfl, hba, x0⟩ := (JA.out.below HNk.out).at hi
            obtain ⟨bc, oc, rfl, hbc, y0⟩ := (JC.out.below HNk.out).at hk
            have HNn : Hid (∀ n, Nx wd (wr.drewN n)) := hide (fun n => bel_drewN HNk.out n)
            cases hv : decide (PL.getD i 0 ∈ QL.take k) with
            | true =>
              rw [hv] at HT ht
              subst ht
              clear hv HN HNk HC x0 y0
              go_wp2
              go_quiet (fail)
              go_wp2
              go_roundw
              case rel => exact ⟨k + 1, by omega, by go_num, by rw [HT.out]; rfl, hide (HNn.out _)⟩
              case measure => simp [intOf]; omega
            | false =>
              rw [hv] at HT ht
              subst ht
              clear hv HN HNk HC
              have HT2 : Hid (Value.bool (QL.getD k 0 == PL.getD i 0) = .bool (decide (PL.getD i 0 ∈ QL.take (k + 1)))) := hide (by rw [HT.out]; rfl)
              generalize hC0 : QL.getD k 0 = C0 at y0 HT2
              generalize hP0 : PL.getD i 0 = P0 at x0
              rw [hP0] at HT2
              clear HT hC0
              go_wp2
              go_quiet (fail)
              go_wp2
              go_roundw
              case rel => exact ⟨k + 1, by omega, by go_num, HT2.out, hide (HNn.out _)⟩
              case measure => simp [intOf]; omega
end Go.Proofs.Ytacbiiiadalocaa.Ed
