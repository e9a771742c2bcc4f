/- AdmitAsks: who is told it may come in comes in. -/
import Derived.Test.YtldccbinndbcdaaAmCon
namespace Go.Proofs.Ytldccbinndbcdaa.Am
open Go.RowKit Go.Proofs.Ytldccbinndbcdaa.Con Go.Proofs.Ytldccbinndbcdaa.Wn Go.Proofs.Ytldccbinndbcdaa.Fp
set_option linter.unusedVariables false
set_option linter.unusedSimpArgs false
attribute [local go_sem ↓] Go.wp_at_zero Go.wp_at_succ
/-- A pair in a box. -/
def Vp (w : World) (g : Nat) (x : Pr) : Prop := w.heap[g]? = some (.cells #[.int .i64 x.1, .int .i64 x.2] 28 (0, 0))
theorem Vp.below {w w' : World} {g : Nat} {x : Pr} (h : Vp w g x) (hB : Nx w w') : Vp w' g x := (hB.block g (Array.getElem?_eq_some_iff.1 h).1).trans h
theorem Vp.new (w : World) (x : Pr) : Vp (w.alloc (.cells #[.int .i64 x.1, .int .i64 x.2] 28)) w.heap.size x := heap_alloc_new w _
theorem Vp.cells {w : World} {g : Nat} {q p : Int} (h : Vp w g (q, p)) : w.cell? ⟨g, 0, none⟩ = some (.int .i64 q) ∧ w.cell? ⟨g, 1, none⟩ = some (.int .i64 p) :=
  ⟨(cell_of_row w g 0 _ _ _ h).trans rfl, (cell_of_row w g 1 _ _ _ h).trans rfl⟩
/-- Acts that are read. -/
def Acts (W : World) (lp : Option Addr) (N : Nat) (Z : Nat → Nat → Int) : Prop :=
  0 < N → ∃ b o, lp = some ⟨b, o, none⟩ ∧ b < W.heap.size ∧ ∀ j i, j < N → i < 6 → W.cell? ⟨b, o + (j * 6 + i), none⟩ = some (.int .i64 (Z j i))
theorem Acts.at {W : World} {lp : Option Addr} {N : Nat} {Z : Nat → Nat → Int} (h : Acts W lp N Z) {k : Nat} (hk : k < N) : ∃ b o, lp = some ⟨b, o, none⟩ ∧ ∀ w, Nx W w → w.cell? ⟨b, o + k * 6, none⟩ = some (.int .i64 (Z k 0)) ∧ w.cell? ⟨b, o + k * 6 + 1, none⟩ = some (.int .i64 (Z k 1)) ∧ w.cell? ⟨b, o + k * 6 + 2, none⟩ = some (.int .i64 (Z k 2)) ∧ w.cell? ⟨b, o + k * 6 + 3, none⟩ = some (.int .i64 (Z k 3)) ∧ w.cell? ⟨b, o + k * 6 + 4, none⟩ = some (.int .i64 (Z k 4)) ∧ w.cell? ⟨b, o + k * 6 + 5, none⟩ = some (.int .i64 (Z k 5)) := by
  obtain ⟨b, o, rfl, hb, hc⟩ := h (by omega)
  refine ⟨b, o, rfl, fun w hB => ?_⟩
  have g : ∀ i, i < 6 → w.cell? ⟨b, o + (k * 6 + i), none⟩ = some (.int .i64 (Z k i)) := fun i hi => (hB.cell (p := ⟨b, o + (k * 6 + i), none⟩) hb).trans (hc k i hk hi)
  exact ⟨g 0 (by omega), g 1 (by omega), g 2 (by omega), g 3 (by omega), g 4 (by omega), g 5 (by omega)⟩
theorem enter_ask {s : Bs} {id : Int} {x : Pr} {now : Int} (hl : isLive s id = false) : enterE s id x now = askE s x now := by
  cases ha : argB x now with
  | true => exact enter_a ha hl
  | false => rw [(enter_1 ha).1, ask_1 ha]
theorem enter_live {s : Bs} {id : Int} {x : Pr} {now : Int} (hl : isLive s id = true) : enterE s id x now = 5 ∨ enterE s id x now = 1 := by
  cases ha : argB x now with
  | true => exact .inl (enter_5 ha hl).1
  | false => exact .inr (enter_1 ha).1
theorem enter_outs {s : Bs} {id : Int} {x : Pr} {now : Int} : (enter s id x now).outs = s.outs := by unfold enter; split <;> rfl
theorem leave_outs {s : Bs} {id till now : Int} : (leave s id till now).outs.length ≤ s.outs.length + 1 := by
  unfold leave
  split
  · show (if now < till then s.outs ++ [_] else s.outs).length ≤ _
    split <;> simp
  · omega
set_option maxHeartbeats 16000000 in
set_option maxRecDepth 100000 in
theorem asks_walk {I : BkI} (K : Hid (Bk I)) (hA : Hid AwakeC) (c : Int) (lp : Option Addr) (N cap : Nat) (Z : Nat → Nat → Int) (x : Pr) (id : Int) (W : World) (hcl : Acts W lp N Z) :
    Calls Try.prog 6 #[.int .i64 c, .slice lp N cap, prv x, .int .i64 id] W fun e w' => e = .returned (.bool true) ∧ Nx W w' := by
  obtain ⟨xq, xp⟩ := x
  have HB0 := hide (Nx.alloc W (.cells #[.int .i64 xq, .int .i64 xp] 28))
  have KS := hide (Vp.new W (xq, xp))
  have HCL := hide hcl
  clear hcl
  go_enter Try.func6, Try.ntmps6
  go_wp2_with fail
  refine (hA.out _).mono ?_
  rintro e w1 ⟨rfl, hb⟩
  have K1 := hide (KS.out.below hb)
  have B1 := hide (Nx.trans HB0.out hb)
  clear hb HB0 KS
  obtain ⟨xb, hxb⟩ : ∃ xb, W.heap.size = xb := ⟨_, rfl⟩
  rw [hxb] at K1
  have HXB := hide hxb
  (try rw [hxb])
  clear hxb
  by_cases hc : 1 ≤ c ∧ c ≤ 64
  rotate_left
  · go_wp2_with fail
    refine (at_not K.out (Nx.refl w1) hc).mono ?_
    rintro e w2 ⟨rfl, hb⟩
    have B2 := hide (Nx.trans B1.out hb)
    go_wp2
    go_ret
    exact ⟨rfl, B2.out⟩
  go_wp2_with fail
  refine (at_new K.out (Nx.refl w1) hc).mono ?_
  rintro e w2 ⟨b, rfl, hb⟩
  have A2 := hide hb.out
  clear hb
  by_cases hN : 40 < (N : Int)
  · have B2 := hide (Nx.trans B1.out A2.out.nx)
    go_wp2
    go_ret
    exact ⟨rfl, B2.out⟩
  have dN : decide (40 < (N : Int)) = false := decide_eq_false hN
  have hN40 : N ≤ 40 := by omega
  go_wp2
  go_loopw [11, 12] (fun t i wr => ∃ k : Nat, k ≤ N ∧ i = .int .i64 k ∧ ∃ t' : Int, t = .int .i64 t' ∧ (0 ≤ t' ∧ t' ≤ 1073741824 * (k : Int)) ∧ ∃ s, Hid (At I w1 wr b s) ∧ s.outs.length ≤ k) (fun _ i _ => N - (intOf i).toNat)
  case atStart => exact ⟨0, by omega, rfl, 0, rfl, by omega, _, A2, by simp⟩
  case round =>
    obtain ⟨k, hk, rfl, t, rfl, ⟨ht0, ht1⟩, s, HA, hso⟩ := hrel
    by_cases hkn : k < N
    · have hk1 : (k : Int) < (N : Int) := by omega
      obtain ⟨b0, o0, rfl, hcells⟩ := HCL.out.at hkn
      have QQ : Hid (∀ w', Nx w1 w' → _) := hide (fun w' hB => hcells w' (Nx.trans B1.out hB))
      clear hcells
      generalize Z k 0 = z0 at *
      generalize Z k 1 = z1 at *
      generalize Z k 2 = z2 at *
      generalize Z k 3 = z3 at *
      generalize Z k 4 = z4 at *
      generalize Z k 5 = z5 at *
      obtain ⟨x0, x1, x2, x3, x4, x5⟩ := QQ.out wr HA.out.nx
      by_cases hz4 : 0 < z4
      · by_cases hz5 : z4 < 1073741824
        · skip
          by_cases ho : z0 = 0
          · subst ho
            have HE := hide (fun w (h : At I w1 w b s) => at_enter K.out h z1 (z2, z3) (t + z4))
            have HAx := hide (fun w (hB : Nx wr w) => HA.out.on K.out hB)
            go_wp2
            go_region_held3 (fun w' => w'.cell? ⟨b0, o0 + k * 6 + 1, none⟩ = some (.int .i64 z1) ∧ w'.cell? ⟨b0, o0 + k * 6 + 2, none⟩ = some (.int .i64 z2) ∧ w'.cell? ⟨b0, o0 + k * 6 + 3, none⟩ = some (.int .i64 z3)) (first | (exact ⟨x1, x2, x3⟩) | go_keep) ((with_reducible refine (HE.out _ (HAx.out _ (bel_drew (Nx.refl wr)))).mono ?_; rintro e w5 ⟨rfl, hA5⟩; obtain ⟨x0, x1, x2, x3, x4, x5⟩ := QQ.out w5 hA5.out.nx))
            have A5 := hide hA5.out
            clear hA5 HE HAx
            go_wp2
            go_roundw
            case rel => exact ⟨k + 1, by omega, by go_num, (t + z4), rfl, by omega, _, A5, by rw [enter_outs]; omega⟩
            case measure => simp [intOf]; omega
          have ho' : (z0 == 0) = false := by simp [ho]
          by_cases hz : 0 ≤ z5
          · by_cases hz2 : z5 < 1099511627776
            · have HE := hide (fun w (h : At I w1 w b s) => at_leave K.out h z1 ((t + z4) + z5) (t + z4) (by omega))
              have HAx := hide (fun w (hB : Nx wr w) => HA.out.on K.out hB)
              have hwz : IntKind.i64.wrap ((t + z4) + z5) = (t + z4) + z5 := by rw [IntKind.wrap_i64]; omega
              go_wp2
              go_region_held3 (fun w' => w'.cell? ⟨b0, o0 + k * 6 + 1, none⟩ = some (.int .i64 z1) ∧ w'.cell? ⟨b0, o0 + k * 6 + 5, none⟩ = some (.int .i64 z5)) (first | (exact ⟨x1, x5⟩) | go_keep) ((with_reducible refine (HE.out _ (HAx.out _ (bel_drew (Nx.refl wr)))).mono ?_; rintro e w5 ⟨rfl, hA5⟩; obtain ⟨x0, x1, x2, x3, x4, x5⟩ := QQ.out w5 hA5.out.nx))
              have A5 := hide hA5.out
              clear hA5 HE HAx
              have hlo := hide (leave_outs (s := s) (id := z1) (till := (t + z4) + z5) (now := (t + z4)))
              go_wp2
              go_roundw
              case rel => exact ⟨k + 1, by omega, by go_num, (t + z4), rfl, by omega, _, A5, by have := hlo.out; omega⟩
              case measure => simp [intOf]; omega
            · skip
              go_wp2
              go_roundw
              case rel => exact ⟨k + 1, by omega, by go_num, (t + z4), rfl, by omega, s, HA, by omega⟩
              case measure => simp [intOf]; omega
          · skip
            go_wp2
            go_roundw
            case rel => exact ⟨k + 1, by omega, by go_num, (t + z4), rfl, by omega, s, HA, by omega⟩
            case measure => simp [intOf]; omega
        · skip
          by_cases ho : z0 = 0
          · subst ho
            have HE := hide (fun w (h : At I w1 w b s) => at_enter K.out h z1 (z2, z3) t)
            have HAx := hide (fun w (hB : Nx wr w) => HA.out.on K.out hB)
            go_wp2
            go_region_held3 (fun w' => w'.cell? ⟨b0, o0 + k * 6 + 1, none⟩ = some (.int .i64 z1) ∧ w'.cell? ⟨b0, o0 + k * 6 + 2, none⟩ = some (.int .i64 z2) ∧ w'.cell? ⟨b0, o0 + k * 6 + 3, none⟩ = some (.int .i64 z3)) (first | (exact ⟨x1, x2, x3⟩) | go_keep) ((with_reducible refine (HE.out _ (HAx.out _ (bel_drew (Nx.refl wr)))).mono ?_; rintro e w5 ⟨rfl, hA5⟩; obtain ⟨x0, x1, x2, x3, x4, x5⟩ := QQ.out w5 hA5.out.nx))
            have A5 := hide hA5.out
            clear hA5 HE HAx
            go_wp2
            go_roundw
            case rel => exact ⟨k + 1, by omega, by go_num, t, rfl, by omega, _, A5, by rw [enter_outs]; omega⟩
            case measure => simp [intOf]; omega
          have ho' : (z0 == 0) = false := by simp [ho]
          by_cases hz : 0 ≤ z5
          · by_cases hz2 : z5 < 1099511627776
            · have HE := hide (fun w (h : At I w1 w b s) => at_leave K.out h z1 (t + z5) t (by omega))
              have HAx := hide (fun w (hB : Nx wr w) => HA.out.on K.out hB)
              have hwz : IntKind.i64.wrap (t + z5) = t + z5 := by rw [IntKind.wrap_i64]; omega
              go_wp2
              go_region_held3 (fun w' => w'.cell? ⟨b0, o0 + k * 6 + 1, none⟩ = some (.int .i64 z1) ∧ w'.cell? ⟨b0, o0 + k * 6 + 5, none⟩ = some (.int .i64 z5)) (first | (exact ⟨x1, x5⟩) | go_keep) ((with_reducible refine (HE.out _ (HAx.out _ (bel_drew (Nx.refl wr)))).mono ?_; rintro e w5 ⟨rfl, hA5⟩; obtain ⟨x0, x1, x2, x3, x4, x5⟩ := QQ.out w5 hA5.out.nx))
              have A5 := hide hA5.out
              clear hA5 HE HAx
              have hlo := hide (leave_outs (s := s) (id := z1) (till := t + z5) (now := t))
              go_wp2
              go_roundw
              case rel => exact ⟨k + 1, by omega, by go_num, t, rfl, by omega, _, A5, by have := hlo.out; omega⟩
              case measure => simp [intOf]; omega
            · skip
              go_wp2
              go_roundw
              case rel => exact ⟨k + 1, by omega, by go_num, t, rfl, by omega, s, HA, by omega⟩
              case measure => simp [intOf]; omega
          · skip
            go_wp2
            go_roundw
            case rel => exact ⟨k + 1, by omega, by go_num, t, rfl, by omega, s, HA, by omega⟩
            case measure => simp [intOf]; omega
      · skip
        by_cases ho : z0 = 0
        · subst ho
          have HE := hide (fun w (h : At I w1 w b s) => at_enter K.out h z1 (z2, z3) t)
          have HAx := hide (fun w (hB : Nx wr w) => HA.out.on K.out hB)
          go_wp2
          go_region_held3 (fun w' => w'.cell? ⟨b0, o0 + k * 6 + 1, none⟩ = some (.int .i64 z1) ∧ w'.cell? ⟨b0, o0 + k * 6 + 2, none⟩ = some (.int .i64 z2) ∧ w'.cell? ⟨b0, o0 + k * 6 + 3, none⟩ = some (.int .i64 z3)) (first | (exact ⟨x1, x2, x3⟩) | go_keep) ((with_reducible refine (HE.out _ (HAx.out _ (bel_drew (Nx.refl wr)))).mono ?_; rintro e w5 ⟨rfl, hA5⟩; obtain ⟨x0, x1, x2, x3, x4, x5⟩ := QQ.out w5 hA5.out.nx))
          have A5 := hide hA5.out
          clear hA5 HE HAx
          go_wp2
          go_roundw
          case rel => exact ⟨k + 1, by omega, by go_num, t, rfl, by omega, _, A5, by rw [enter_outs]; omega⟩
          case measure => simp [intOf]; omega
        have ho' : (z0 == 0) = false := by simp [ho]
        by_cases hz : 0 ≤ z5
        · by_cases hz2 : z5 < 1099511627776
          · have HE := hide (fun w (h : At I w1 w b s) => at_leave K.out h z1 (t + z5) t (by omega))
            have HAx := hide (fun w (hB : Nx wr w) => HA.out.on K.out hB)
            have hwz : IntKind.i64.wrap (t + z5) = t + z5 := by rw [IntKind.wrap_i64]; omega
            go_wp2
            go_region_held3 (fun w' => w'.cell? ⟨b0, o0 + k * 6 + 1, none⟩ = some (.int .i64 z1) ∧ w'.cell? ⟨b0, o0 + k * 6 + 5, none⟩ = some (.int .i64 z5)) (first | (exact ⟨x1, x5⟩) | go_keep) ((with_reducible refine (HE.out _ (HAx.out _ (bel_drew (Nx.refl wr)))).mono ?_; rintro e w5 ⟨rfl, hA5⟩; obtain ⟨x0, x1, x2, x3, x4, x5⟩ := QQ.out w5 hA5.out.nx))
            have A5 := hide hA5.out
            clear hA5 HE HAx
            have hlo := hide (leave_outs (s := s) (id := z1) (till := t + z5) (now := t))
            go_wp2
            go_roundw
            case rel => exact ⟨k + 1, by omega, by go_num, t, rfl, by omega, _, A5, by have := hlo.out; omega⟩
            case measure => simp [intOf]; omega
          · skip
            go_wp2
            go_roundw
            case rel => exact ⟨k + 1, by omega, by go_num, t, rfl, by omega, s, HA, by omega⟩
            case measure => simp [intOf]; omega
        · skip
          go_wp2
          go_roundw
          case rel => exact ⟨k + 1, by omega, by go_num, t, rfl, by omega, s, HA, by omega⟩
          case measure => simp [intOf]; omega
    · obtain rfl : k = N := by omega
      have HAs := HA
      go_wp2_with fail
      refine (at_live K.out HA.out).mono ?_
      rintro e w3 ⟨v3, rfl, hE3, hA3, hN3⟩
      obtain ⟨p3, cap3, rfl, hn3, hm3⟩ := hE3.out.form
      have E3 := hide hE3.out
      have A3 := hide hA3.out
      have hsm := A3.out.small
      have hs1 := hsm.1
      clear hE3 hA3 hN3 HA HAs
      have HLV : Hid (∀ j, j < s.ins.length → (atE s.ins j).id = id → isLive s id = true) := hide (fun j hj h => live_of hj h)
      have HLN : Hid ((∀ j, j < s.ins.length → (atE s.ins j).id ≠ id) → isLive s id = false) := hide (fun h => live_none h)
      go_wp2
      go_loopw [14] (fun i wr => ∃ j : Nat, j ≤ s.ins.length ∧ i = .int .i64 j ∧ Hid (∀ i, i < j → (atE s.ins i).id ≠ id) ∧ Hid (Nx w3 wr)) (fun i _ => s.ins.length - (intOf i).toNat)
      case atStart => exact ⟨0, by omega, rfl, hide (fun j hj => by omega), hide (Nx.refl _)⟩
      case round =>
        obtain ⟨j, hj, rfl, HR, HB⟩ := hrel
        have AW := hide (A3.out.on K.out HB.out)
        have VW := hide (K1.out.below AW.out.nx)
        obtain ⟨y0, y1⟩ := VW.out.cells
        by_cases hjn : j < s.ins.length
        · have hj1 : (j : Int) < (s.ins.length : Int) := by omega
          obtain ⟨be, oe, rfl, hbe, q0, _, _, _⟩ := (E3.out.below HB.out).at hjn
          have hV := HLV.out j hjn
          by_cases hid : (atE s.ins j).id = id
          · have hl := hV hid
            rw [hid] at q0
            obtain ⟨E, hE⟩ : ∃ E, enterE s id (xq, xp) t = E := ⟨_, rfl⟩
            have hEE : E = 5 ∨ E = 1 := by rw [← hE]; exact enter_live hl
            have HEN := hide (at_enter K.out AW.out id (xq, xp) t)
            rw [hE] at HEN
            clear hV hid hl hE HR
            rcases hEE with rfl | rfl
            · go_wp2_with fail
              refine HEN.out.mono ?_
              rintro e w5 ⟨rfl, hA5⟩
              have B5 := hide (Nx.trans B1.out hA5.out.nx)
              go_wp2
              go_ret
              exact ⟨rfl, B5.out⟩
            · go_wp2_with fail
              refine HEN.out.mono ?_
              rintro e w5 ⟨rfl, hA5⟩
              have B5 := hide (Nx.trans B1.out hA5.out.nx)
              go_wp2
              go_ret
              exact ⟨rfl, B5.out⟩
          · have HR2 : Hid (∀ i, i < j + 1 → (atE s.ins i).id ≠ id) := hide (fun i hi => by
              rcases Nat.lt_or_ge i j with h1 | h1
              · exact HR.out i h1
              · obtain rfl : i = j := by omega
                exact hid)
            clear hV HR
            generalize (atE s.ins j).id = u at *
            have hid' : (u == id) = false := by simp [hid]
            go_wp2
            go_round
            case rel => exact ⟨j + 1, by omega, by go_num, HR2, HB⟩
            case measure => simp [intOf]; omega
        · obtain rfl : j = s.ins.length := by omega
          have hl := HLN.out HR.out
          have hea := enter_ask (x := (xq, xp)) (now := t) hl
          have hlen : (enter s id (xq, xp) t).ins.length = if enterE s id (xq, xp) t = 0 then s.ins.length + 1 else s.ins.length := by
            unfold enter
            split
            · show (s.ins ++ [_]).length = _; simp
            · rfl
          have HAK := hide (at_ask K.out AW.out (xq, xp) t)
          rw [← hea] at HAK
          have HEN := hide (fun w (h : At I w1 w b s) => at_enter K.out h id (xq, xp) t)
          generalize enter s id (xq, xp) t = s' at *
          generalize enterE s id (xq, xp) t = E at *
          clear HLV HLN HR hl hea
          go_wp2_with fail
          refine HAK.out.mono ?_
          rintro e w5 ⟨rfl, hA5, hN5⟩
          have A5 := hide hA5.out
          clear hA5 hN5 HAK y0 y1 VW AW
          obtain ⟨y0, y1⟩ := (K1.out.below A5.out.nx).cells
          go_wp2_with fail
          refine (HEN.out _ A5.out).mono ?_
          rintro e w6 ⟨rfl, hA6⟩
          have A6 := hide hA6.out
          clear hA6 HEN A5 y0 y1
          by_cases hE0 : E = 0
          · subst hE0
            rw [if_pos rfl] at hlen
            have HLI := hide (at_live K.out A6.out)
            go_wp2_with fail
            refine HLI.out.mono ?_
            rintro e w7 ⟨v7, rfl, hE7, hA7, _⟩
            obtain ⟨p7, cap7, rfl, hn7, hm7⟩ := hE7.out.form
            rw [hlen]
            have B7 := hide (Nx.trans B1.out hA7.out.nx)
            clear hE7 hA7
            go_wp2
            go_ret
            exact ⟨rfl, B7.out⟩
          · have hE0' : (E == 0) = false := by simp [hE0]
            rw [if_neg hE0] at hlen
            have HLI := hide (at_live K.out A6.out)
            go_wp2_with fail
            refine HLI.out.mono ?_
            rintro e w7 ⟨v7, rfl, hE7, hA7, _⟩
            obtain ⟨p7, cap7, rfl, hn7, hm7⟩ := hE7.out.form
            rw [hlen]
            have B7 := hide (Nx.trans B1.out hA7.out.nx)
            clear hE7 hA7
            go_wp2
            go_ret
            exact ⟨rfl, B7.out⟩
end Go.Proofs.Ytldccbinndbcdaa.Am
