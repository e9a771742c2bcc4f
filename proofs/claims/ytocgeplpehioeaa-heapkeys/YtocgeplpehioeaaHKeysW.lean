/- HeapKeys' walk. -/
import Derived.Test.YtocgeplpehioeaaHKeys
namespace Go.Proofs.Ytocgeplpehioeaa.Con
open Go.RowKit Go.Proofs.Ytocgeplpehioeaa.Hq
set_option linter.unusedVariables false
set_option linter.unusedSimpArgs false
/-- The best of the ids below k. -/
def Best (l : List It) (k : Nat) (b : Int) : Prop := (b = -1 ∧ ∀ y ∈ l, ¬ y.1 < k) ∨ (∃ c, (b, c) ∈ l ∧ 0 ≤ b ∧ b < k ∧ ∀ y ∈ l, y.1 < k → le false (b, c) y)
theorem best_zero {l : List It} (h : ∀ x ∈ l, 0 ≤ x.1 ∧ x.1 ≤ 15) : Best l 0 (-1) := .inl ⟨rfl, fun y hy => by have := h y hy; simp; omega⟩
theorem best_pass {l : List It} {k : Nat} {b : Int} (h : Best l k b) (hn : ∀ y ∈ l, y.1 ≠ k) : Best l (k + 1) b := by
  rcases h with ⟨h1, h2⟩ | ⟨c, h1, h2, h3, h4⟩
  · exact .inl ⟨h1, fun y hy hlt => h2 y hy (by have := hn y hy; omega)⟩
  · exact .inr ⟨c, h1, h2, by omega, fun y hy hlt => h4 y hy (by have := hn y hy; omega)⟩
theorem mem_eq {l : List It} (hd : Ids l) {x y : It} (hx : x ∈ l) (hy : y ∈ l) (e : x.1 = y.1) : x = y := by
  obtain ⟨i, hi, rfl⟩ := mem_at hx
  obtain ⟨j, hj, rfl⟩ := mem_at hy
  rw [hd.inj hi hj e]
theorem best_first {l : List It} (hd : Ids l) {k : Nat} {v : Int} (h : ∀ y ∈ l, ¬ y.1 < k) (hm : ((k : Int), v) ∈ l) : Best l (k + 1) k :=
  .inr ⟨v, hm, by omega, by omega, fun y hy hlt => by
    have e := mem_eq hd hm hy (by have := h y hy; show (k : Int) = y.1; omega)
    rw [e]; exact le_refl _ _⟩
theorem best_less {l : List It} (hd : Ids l) {k : Nat} {b c v : Int} (h4 : ∀ y ∈ l, y.1 < k → le false (b, c) y) (hm : ((k : Int), v) ∈ l) (hlt : v < c) : Best l (k + 1) k :=
  .inr ⟨v, hm, by omega, by omega, fun y hy hl => by
    by_cases e : y.1 = k
    · rw [mem_eq hd hm hy e.symm]; exact le_refl _ _
    · refine le_trans ?_ (h4 y hy (by omega))
      rw [le_iff]; simp; omega⟩
theorem best_more {l : List It} (hd : Ids l) {k : Nat} {b c v : Int} (hb : (b, c) ∈ l) (h0 : 0 ≤ b) (h1 : b < k) (h4 : ∀ y ∈ l, y.1 < k → le false (b, c) y) (hm : ((k : Int), v) ∈ l) (hlt : ¬ v < c) : Best l (k + 1) b :=
  .inr ⟨c, hb, h0, by omega, fun y hy hl => by
    by_cases e : y.1 = k
    · rw [← mem_eq hd hm hy e.symm, le_iff]; simp; omega
    · exact h4 y hy (by omega)⟩
theorem best_end {l : List It} {b : Int} (hd : Ids l) (hh : Heap false l) (hlow : ∀ x ∈ l, 0 ≤ x.1 ∧ x.1 ≤ 15) (h0 : 0 < l.length) (h : Best l 16 b) : (at' l 0).1 = b ∧ kof l b = some (at' l 0).2 ∧ in64 b := by
  rcases h with ⟨_, h2⟩ | ⟨c, h1, h2, h3, h4⟩
  · have hm := at_mem (l := l) h0
    exact absurd (by have := hlow _ hm; simp; omega) (h2 _ hm)
  · have e := top_is hh h1 (fun y hy => h4 y hy (by have := hlow y hy; simp; omega))
    rw [e]
    exact ⟨rfl, kof_some hd h1, (in64_iff _).2 (by simp at h3; omega)⟩
theorem kr_start {W w1 w2 : World} {hb mb : Nat} (h1 : Below W.heap.size W w1) (hQ : HQ w2 hb mb (held 100) false (.slice none 0 0) []) (h2 : Below w1.heap.size w1 w2) (p1 : w1.heap.size ≤ hb) (p2 : w1.heap.size ≤ mb) :
    KR W hb mb w2.heap.size (.slice none 0 0) [] (w2.alloc (.map #[] 0)) := by
  have s1 := h1.size
  have s2 := h2.size
  have e : held 100 = 100 := by decide
  rw [e] at hQ
  have hal : Below w2.heap.size w2 (w2.alloc (.map #[] 0)) := (Below.refl _ _).alloc (Nat.le_refl _) _
  refine ⟨hQ.below hal, Mp.made _ w2, by simp, (h1.trans (h2.mono s1)).trans (hal.mono (by omega)), past_nil (by omega) (by omega), by have := hQ.hp.map.lt; omega, by omega⟩
theorem and15 (n : Int) : bits .and .i64 n 15 = n % 16 := by
  have h15 : (BitVec.ofInt 64 15).toNat = 2 ^ 4 - 1 := by decide
  have key : (BitVec.ofInt 64 n &&& BitVec.ofInt 64 15).toNat = (n % ((2 ^ 64 : Nat) : Int)).toNat % 2 ^ 4 := by
    rw [BitVec.toNat_and, BitVec.toNat_ofInt, h15, Nat.and_two_pow_sub_one_eq_mod]
  show IntKind.i64.wrap ((BitVec.ofInt 64 n &&& BitVec.ofInt 64 15).toNat : Nat) = n % 16
  rw [key, IntKind.wrap_i64]
  omega
theorem kr_top0 {W W4 : World} {hb mb nb : Nat} {v : Value} {l : List It} {b : Int} (h : KR W hb mb nb v l W4) (h0 : 0 < l.length) (hb' : Best l 16 b) :
    Calls Try.prog 14 #[.pointer (some ⟨hb, 0, none⟩)] W4 fun e w' => ∃ x2 : Int, e = .returned (.tuple #[.agg #[.int .i64 b, .int .i64 x2], .bool true]) ∧ Hid ((at' l 0).2 = x2) ∧ Hid (Below W4.heap.size W4 w') := by
  obtain ⟨t1, t2, t3⟩ := best_end h.hq.hp.ids h.hq.heap h.low h0 hb'
  refine (top_any h.hq).mono ?_
  rintro e w' ⟨rfl, hB⟩
  exact ⟨_, by rw [t1, decide_eq_true h0], hide rfl, hide hB⟩
theorem kr_top {W W4 W' : World} {hb mb nb : Nat} {v : Value} {l : List It} {b : Int} (h : KR W hb mb nb v l W4) (h0 : 0 < l.length) (hb' : Best l 16 b) (hB : Below W4.heap.size W4 W') :
    (Instr.lookup 52 (.map (some nb)) (.int .i64 b) false).run Try.prog W' = .ok (.int .i64 (at' l 0).2) W' ∧ (Builtin.len_ #[52] 3 #[.map (some nb)]).run Try.prog W' = .ok (.int .i64 l.length) W' ∧
      (Calls Try.prog 17 #[.pointer (some ⟨hb, 0, none⟩)] W' fun e w' => e = .returned (.int .i64 l.length) ∧ w' = W') ∧ KR W hb mb nb v l W' := by
  obtain ⟨t1, t2, t3⟩ := best_end h.hq.hp.ids h.hq.heap h.low h0 hb'
  have hm := h.map.kept (hB.block nb h.map.lt)
  have hl := hm.look1 underN underL (zeroL W') t3
  rw [t2] at hl
  exact ⟨hl, hm.size underN _, len_any (h.hq.below hB), ⟨h.hq.below hB, hm, h.low, h.below.trans (hB.mono h.below.size), h.past, h.ne, h.far⟩⟩
theorem held100 : held 100 = 100 := by decide
set_option maxRecDepth 100000 in
set_option maxHeartbeats 4000000 in
theorem keys_walk (p q : Option Addr) (c d : Nat) (is zs : List Int) (W : World) (hl : is.length ≤ 9223372036854775807) (hl2 : zs.length ≤ 9223372036854775807) (hwi : ∀ z ∈ is, in64 z) (hwf : ∀ z ∈ zs, in64 z)
    (h0 : 0 < is.length → ∃ b o, p = some ⟨b, o, none⟩ ∧ b < W.heap.size ∧ ∀ j, j < is.length → W.cell? ⟨b, o + j, none⟩ = some (.int .i64 (is.getD j 0)))
    (h1 : 0 < zs.length → ∃ b o, q = some ⟨b, o, none⟩ ∧ b < W.heap.size ∧ ∀ j, j < zs.length → W.cell? ⟨b, o + j, none⟩ = some (.int .i64 (zs.getD j 0))) :
    Calls Try.prog 6 #[.slice p is.length c, .slice q zs.length d] W fun e w' => e = .returned (.bool true) ∧ Below W.heap.size W w' := by
  have hA := hide (awake_any W)
  have H0 := hide h0
  have H1 := hide h1
  have WI := hide hwi
  have WF := hide hwf
  clear h0 h1 hwi hwf
  by_cases hn : 100 < is.length
  · have hn' : (100 : Int) < (is.length : Int) := by omega
    go_enter Try.func6, Try.ntmps6
    go_wp2_with (go_at_call 8; refine hA.out.mono ?_; rintro e w1 ⟨rfl, hB1⟩)
    all_goals
      go_ret
      exact ⟨rfl, hB1⟩
  · by_cases hne : zs.length = is.length
    · have hn' : ¬ (100 : Int) < (is.length : Int) := by omega
      obtain ⟨n, hnn⟩ : ∃ n, is.length = n := ⟨_, rfl⟩
      have N0 := hide hnn
      have N1 := hide (hne.trans hnn)
      rw [hne] at hl2 ⊢
      rw [hnn] at hl hl2 hn hn' ⊢
      clear hnn hne
      have HN := hide (fun W' => new_any 100 false W')
      have hmm := fun W => run_makeMap (P := Try.prog) 52 W
      go_enter Try.func6, Try.ntmps6
      go_wp2_with (first
        | (go_at_call 8; refine hA.out.mono ?_; rintro e w1 ⟨rfl, hB1⟩; have HB1 := hide hB1; clear hB1)
        | (go_at_call 9; refine (HN.out _).mono ?_; rintro e w2 ⟨hb, mb, rfl, hQ2, hB2, p1, p2⟩; have HQ2 := hide hQ2; have HB2 := hide hB2; clear hQ2 hB2))
      have ST := hide (kr_start HB1.out HQ2.out HB2.out p1 p2)
      generalize hW3 : w2.alloc (Obj.map #[] 0) = W3 at *
      generalize w2.heap.size = nb at *
      clear hmm
      go_loopw [7] (fun s wr => ∃ j : Nat, j ≤ n ∧ s = .int .i64 j ∧ ∃ v l, Hid (KR W hb mb nb v l wr)) (fun s _ => n - (intOf s).toNat)
      case atStart => exact ⟨0, by omega, rfl, _, _, ST⟩
      case round =>
        obtain ⟨j, hj, rfl, v, l, HR⟩ := hrel
        by_cases hjn : j < n
        · have hj1 : (j : Int) < (n : Int) := by omega
          obtain ⟨b, o, rfl, hbl, hcl⟩ := H0.out (by rw [N0.out]; omega)
          obtain ⟨b', o', rfl, hbl', hcl'⟩ := H1.out (by rw [N1.out]; omega)
          have c1 : wr.cell? ⟨b, o + j, none⟩ = some (.int .i64 (is.getD j 0)) := by
            rw [HR.out.below.cell (p := ⟨b, o + j, none⟩) hbl]
            exact hcl j (by rw [N0.out]; exact hjn)
          have c2 : ∀ w', Below W.heap.size W w' → w'.cell? ⟨b', o' + j, none⟩ = some (.int .i64 (zs.getD j 0)) := fun w' hB => by
            rw [hB.cell (p := ⟨b', o' + j, none⟩) hbl']
            exact hcl' j (by rw [N1.out]; exact hjn)
          have k1 : in64 (zs.getD j 0) := by
            have hjz : j < zs.length := by rw [N1.out]; exact hjn
            rw [List.getD_eq_getElem?_getD, List.getElem?_eq_getElem hjz]
            exact WF.out _ (List.getElem_mem hjz)
          have c2r := c2 wr HR.out.below
          have C2 := hide c2
          clear c2 hcl hcl'
          generalize is.getD j 0 = a at *
          generalize zs.getD j 0 = key at *
          obtain ⟨id, hid⟩ : ∃ id, bits BinOp.and IntKind.i64 a 15 = id := ⟨_, rfl⟩
          have hid2 : 0 ≤ id ∧ id ≤ 15 := by rw [← hid, and15]; omega
          have idx : in64 id := (in64_iff _).2 (by omega)
          have hlk := HR.out.map.look underN underL (zeroL wr) idx
          rcases kof_cases HR.out.hq.hp.ids id with ⟨kk, hmem, hkof⟩ | ⟨hnon, hkof⟩
          · rw [hkof] at hlk
            simp only [Option.getD_some, Option.isSome_some] at hlk
            have SE := hide (kr_set HR.out hid2 k1 ⟨_, hmem, rfl⟩)
            clear hmem hkof
            go_wp2_with (go_at_call 11; refine SE.out.mono ?_; rintro e w3 ⟨rfl, W4, v', l', hrun, hB3, hK4, hpos⟩; have c3 := C2.out _ hB3.out)
            clear hlk hrun c1 c2r c3 SE
            have IDS := hide hK4.out.hq.hp.ids
            go_loop [11, 12] (fun s t => ∃ (bst : Int) (k : Nat), s = .int .i64 bst ∧ t = .int .i64 k ∧ k ≤ 16 ∧ Hid (Best l' k bst)) (fun _ t => 16 - (intOf t).toNat)
            case atStart => exact ⟨-1, 0, rfl, rfl, by omega, hide (best_zero hK4.out.low)⟩
            case round =>
              obtain ⟨bst, k, rfl, rfl, hk, HBst⟩ := hrel
              by_cases hk16 : k < 16
              · have hk1 : (k : Int) < 16 := by omega
                have lk := hK4.out.map.look underN underL (zeroL W4) (x := (k : Int)) ((in64_iff _).2 (by omega))
                rcases kof_cases IDS.out (k : Int) with ⟨vv, hm, hko⟩ | ⟨hno, hko⟩
                · rw [hko] at lk
                  simp only [Option.getD_some, Option.isSome_some] at lk
                  rcases HBst.out with ⟨rfl, h2⟩ | ⟨cc, g1, g2, g3, g4⟩
                  · have NX := hide (best_first IDS.out h2 hm)
                    clear h2 hm hko
                    go_wp2
                    go_round
                    case rel => exact ⟨k, k + 1, rfl, by go_num, by omega, NX⟩
                    case measure => simp [intOf]; omega
                  · have lb := hK4.out.map.look1 underN underL (zeroL W4) (x := bst) ((in64_iff _).2 (by omega))
                    rw [kof_some (x := (bst, cc)) IDS.out g1] at lb
                    simp only [Option.getD_some] at lb
                    have nb0 : ¬ bst < 0 := by omega
                    by_cases hvc : vv < cc
                    · have NX := hide (best_less IDS.out g4 hm hvc)
                      clear g1 g4 hm hko
                      go_wp2
                      go_round
                      case rel => exact ⟨k, k + 1, rfl, by go_num, by omega, NX⟩
                      case measure => simp [intOf]; omega
                    · have NX := hide (best_more IDS.out g1 g2 g3 g4 hm hvc)
                      clear g1 g4 hm hko
                      go_wp2
                      go_round
                      case rel => exact ⟨bst, k + 1, rfl, by go_num, by omega, NX⟩
                      case measure => simp [intOf]; omega
                · rw [hko] at lk
                  simp only [Option.getD_none, Option.isSome_none] at lk
                  have NX := hide (best_pass HBst.out hno)
                  clear hno hko
                  go_wp2
                  go_round
                  case rel => exact ⟨bst, k + 1, rfl, by go_num, by omega, NX⟩
                  case measure => simp [intOf]; omega
              · obtain rfl : k = 16 := by omega
                have F := hide (fun W' (h : Below W4.heap.size W4 W') => kr_top hK4.out hpos HBst.out h)
                have TP := hide (kr_top0 hK4.out hpos HBst.out)
                go_wp2_with (first
                  | (go_at_call 14; refine TP.out.mono ?_; rintro e w5 ⟨x2, rfl, hx2, hB5⟩; have hF := F.out (w5.alloc (.cells #[.int .i64 bst, .int .i64 x2] 29)) (hB5.out.alloc hB5.out.size _); rw [hx2.out] at hF; obtain ⟨q1, q2, q3⟩ := hF; have Q3 := hide q3; clear q3)
                  | (go_at_call 17; refine Q3.out.1.mono ?_; rintro e w6 ⟨rfl, rfl⟩))
                go_roundw
                case rel => exact ⟨j + 1, by omega, by go_num, v', l', hide Q3.out.2⟩
                case measure => simp [intOf]; omega
          · rw [hkof] at hlk
            simp only [Option.getD_none, Option.isSome_none] at hlk
            have SE := hide (kr_put HR.out hid2 k1 hnon)
            clear hnon hkof
            go_wp2_with (go_at_call 10; refine SE.out.mono ?_; rintro e w3 ⟨rfl, W4, v', l', hrun, hB3, hK4, hpos⟩; have c3 := C2.out _ hB3.out)
            clear hlk hrun c1 c2r c3 SE
            have IDS := hide hK4.out.hq.hp.ids
            go_loop [11, 12] (fun s t => ∃ (bst : Int) (k : Nat), s = .int .i64 bst ∧ t = .int .i64 k ∧ k ≤ 16 ∧ Hid (Best l' k bst)) (fun _ t => 16 - (intOf t).toNat)
            case atStart => exact ⟨-1, 0, rfl, rfl, by omega, hide (best_zero hK4.out.low)⟩
            case round =>
              obtain ⟨bst, k, rfl, rfl, hk, HBst⟩ := hrel
              by_cases hk16 : k < 16
              · have hk1 : (k : Int) < 16 := by omega
                have lk := hK4.out.map.look underN underL (zeroL W4) (x := (k : Int)) ((in64_iff _).2 (by omega))
                rcases kof_cases IDS.out (k : Int) with ⟨vv, hm, hko⟩ | ⟨hno, hko⟩
                · rw [hko] at lk
                  simp only [Option.getD_some, Option.isSome_some] at lk
                  rcases HBst.out with ⟨rfl, h2⟩ | ⟨cc, g1, g2, g3, g4⟩
                  · have NX := hide (best_first IDS.out h2 hm)
                    clear h2 hm hko
                    go_wp2
                    go_round
                    case rel => exact ⟨k, k + 1, rfl, by go_num, by omega, NX⟩
                    case measure => simp [intOf]; omega
                  · have lb := hK4.out.map.look1 underN underL (zeroL W4) (x := bst) ((in64_iff _).2 (by omega))
                    rw [kof_some (x := (bst, cc)) IDS.out g1] at lb
                    simp only [Option.getD_some] at lb
                    have nb0 : ¬ bst < 0 := by omega
                    by_cases hvc : vv < cc
                    · have NX := hide (best_less IDS.out g4 hm hvc)
                      clear g1 g4 hm hko
                      go_wp2
                      go_round
                      case rel => exact ⟨k, k + 1, rfl, by go_num, by omega, NX⟩
                      case measure => simp [intOf]; omega
                    · have NX := hide (best_more IDS.out g1 g2 g3 g4 hm hvc)
                      clear g1 g4 hm hko
                      go_wp2
                      go_round
                      case rel => exact ⟨bst, k + 1, rfl, by go_num, by omega, NX⟩
                      case measure => simp [intOf]; omega
                · rw [hko] at lk
                  simp only [Option.getD_none, Option.isSome_none] at lk
                  have NX := hide (best_pass HBst.out hno)
                  clear hno hko
                  go_wp2
                  go_round
                  case rel => exact ⟨bst, k + 1, rfl, by go_num, by omega, NX⟩
                  case measure => simp [intOf]; omega
              · obtain rfl : k = 16 := by omega
                have F := hide (fun W' (h : Below W4.heap.size W4 W') => kr_top hK4.out hpos HBst.out h)
                have TP := hide (kr_top0 hK4.out hpos HBst.out)
                go_wp2_with (first
                  | (go_at_call 14; refine TP.out.mono ?_; rintro e w5 ⟨x2, rfl, hx2, hB5⟩; have hF := F.out (w5.alloc (.cells #[.int .i64 bst, .int .i64 x2] 29)) (hB5.out.alloc hB5.out.size _); rw [hx2.out] at hF; obtain ⟨q1, q2, q3⟩ := hF; have Q3 := hide q3; clear q3)
                  | (go_at_call 17; refine Q3.out.1.mono ?_; rintro e w6 ⟨rfl, rfl⟩))
                go_roundw
                case rel => exact ⟨j + 1, by omega, by go_num, v', l', hide Q3.out.2⟩
                case measure => simp [intOf]; omega
        · obtain rfl : j = n := by omega
          go_wp2
          go_ret
          exact ⟨rfl, HR.out.below⟩
    · have hn' : ¬ (100 : Int) < (is.length : Int) := by omega
      have hne' : ((zs.length : Int) != (is.length : Int)) = true := by simp; omega
      go_enter Try.func6, Try.ntmps6
      go_wp2_with (go_at_call 8; refine hA.out.mono ?_; rintro e w1 ⟨rfl, hB1⟩)
      all_goals
        go_ret
        exact ⟨rfl, hB1⟩
end Go.Proofs.Ytocgeplpehioeaa.Con
