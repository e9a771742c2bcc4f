/- EdfOut: whom a new one pushes out. -/
import Derived.Test.YtacbiiiadalocaaEdCon
import Derived.Test.YtacbiiiadalocaaEdRb
import Derived.Test.YtacbiiiadalocaaOrdU
namespace Go.Proofs.Ytacbiiiadalocaa.Ed
open Go.RowKit Go.Proofs.Ytacbiiiadalocaa.Con
set_option linter.unusedVariables false
set_option linter.unusedSimpArgs false
attribute [local go_sem ↓] Go.wp_at_zero Go.wp_at_succ
theorem infoEo : (Try.prog.info? 24).map (fun i => (i.zero, i.size, i.bytes)) = some (some (.agg #[.int .i64 0, .int .i64 0, .bool false]), 3, 24) := by kernel_rfl
/-- An append that is guarded and wanted. -/
theorem step_append_g {w : World} {ops : Array Oper} {o : Oper} {a : Act} {K : Act → World → Prop} {Q : Exit → Act → World → Prop} {E : Prop} (dd : Option Tmp) (hdd : o.dst = dd) (hw : Region.wanted o (yielded ops a.tmps) = true) (s x : Operand) (t : TypeId)
    (ho : o.op = .call { callee := .builtin .append, args := #[s, x], argTypes := #[t, t] })
    (base e : Nat) (i : TypeInfo) (z : Value) (size bytes : Nat) (ht : Try.prog.underlying t = some (.slice e)) (hi : Try.prog.info? e = some i) (hz : i.zero = some z)
    (hsize : i.size = size) (hby : i.bytes = bytes) (hzs : z.cells.size = size) (hsz : 0 < size)
    (v : Value) (n : Nat) (xs : List Value) (hs : a.eval s = v) (hown : w.ownsRow base e size v n xs) (B : Nat) (xv : Value) (m : Nat) (news : List Value) (hxe : a.eval x = xv) (hx : RdC w B size xv m news) (h1 : ∀ u ∈ news, u.oneCell' = true)
    (N : Nat) (hN : n + m = N) (ys : List Value) (hys : xs ++ news = ys) (h63 : N ≤ maxLen) (hbytes : N * bytes ≤ 140737488355328) (hbase : base ≤ w.heap.size)
    (h : ∀ p cap w', w'.ownsRow base e size (.slice p N cap) N ys → w.grownBy w' v.ownBlock → ((Value.slice p N cap).ownBlock = v.ownBlock ∨ (Value.slice p N cap).ownBlock = some w.heap.size) → (∀ k, v.ownBlock = some k → base ≤ k) → K (a.put dd (.slice p N cap)) w') :
    if Region.wanted o (yielded ops a.tmps) = true then Oper.wp Try.prog o a w K Q else E := by
  subst hdd
  subst hN
  subst hys
  rw [if_pos hw]
  obtain ⟨p, cap, w', hr, h2, h3, h4⟩ := run_append_rd w base t o.type e i z size bytes ht hi hz hsize hby hzs hsz v n xs hown B xv m news hx h1 h63 hbytes hbase
  unfold Oper.wp execOp
  simp only [ho, resolve, invoke, builtin, Sem.run_bind, Sem.run_pure, Result.andThen_ok, List.map_toArray, List.map_cons, List.map_nil, hs, hxe, hr]
  exact h p cap w' h2 h3 h4 (own_past hown)
theorem out_sum {m : Int} {L : List Et} {x : Et} (h : goodE m (L ++ [x]) = true) (hl : m ≤ (L.length : Int)) :
    (x.2.2 = true → beatsB m L x = true ∧ (worstO m L).isSome = true ∧ beatsN m L x = (val (worstO m L)).1) ∧
    (x.2.2 = false → ((worstO m L).isSome = false ∧ beatsB m L x = false) ∨ ((worstO m L).isSome = true ∧ beatsB m L x = lessB x (val (worstO m L)) ∧ (beatsB m L x = true → beatsN m L x = (val (worstO m L)).1))) := by
  obtain ⟨e, he, h1, h2, h3, h4, _⟩ := out_full h hl
  constructor
  · intro hx
    cases hf : e.2.2 with
    | true => rw [(h4 hf).2] at hx; cases hx
    | false =>
      have hb : bef x e = true := bef_iff.2 (.inl ⟨hx, hf⟩)
      rw [h3 hf]
      exact ⟨by rw [h1, hb], rfl, h2 hb⟩
  · intro hx
    cases hf : e.2.2 with
    | true =>
      refine .inl ⟨by rw [(h4 hf).1]; rfl, ?_⟩
      rw [h1]
      cases hb : bef x e with
      | false => rfl
      | true =>
        rcases bef_iff.1 hb with ⟨k, _⟩ | ⟨k, _⟩
        · rw [hx] at k; cases k
        · rw [hx, hf] at k; cases k
    | false =>
      rw [h3 hf]
      refine .inr ⟨rfl, ?_, fun hb => h2 (by rw [← h1]; exact hb)⟩
      rw [h1, bef_free hx hf]; rfl
set_option maxHeartbeats 16000000 in
set_option maxRecDepth 100000 in
theorem out_walk (hA : Hid AwakeC) (hG : Hid GoodC) (hL : Hid LessC) (hP : Hid PickC) (hW : Hid WorstC) (hB : Hid BeatsC) (m : Int) (L : List Et) (x : Et) (v : Value) (W : World) (h : Sl W v L) :
    Calls Try.prog 7 #[.int .i64 m, v, ev x] W fun e w' => e = .returned (.bool true) ∧ Nx W w' := by
  obtain ⟨xi, xd, xf⟩ := x
  obtain ⟨p, cap, rfl, hn, hm⟩ := h.form
  have hmx : (L.length : Int) ≤ 9223372036854775807 := by unfold maxLen at hm; omega
  have H := hide h
  clear h
  have RX := hide (heap_alloc_new W (.cells #[.int .i64 xi, .int .i64 xd, .bool xf] 24))
  have N0 := hide (Nx.alloc W (.cells #[.int .i64 xi, .int .i64 xd, .bool xf] 24))
  go_enter Try.func7, Try.ntmps7
  go_upto_region 1 with fail
  generalize hgx : W.heap.size = xb at *
  have HW0 : Hid (∀ w, Nx W w → Sl w (.slice p L.length cap) L) := hide (fun w h => H.out.below h)
  obtain ⟨w0, hw0⟩ : ∃ w0, W.alloc (.cells #[.int .i64 xi, .int .i64 xd, .bool xf] 24) = w0 := ⟨_, rfl⟩
  rw [hw0] at RX N0
  rw [hw0]
  clear hw0 hgx H
  go_wp2_with fail
  refine (hA.out _).mono ?_
  rintro e wk ⟨rfl, hb⟩
  have RX_1 := hide (row_nx RX.out hb)
  have N1 := hide (Nx.trans N0.out hb)
  clear hb RX N0
  by_cases hl : 63 < (L.length : Int)
  · have hl' : decide (63 < (L.length : Int)) = true := decide_eq_true hl
    have N1' : Hid (∀ n, Nx W (wk.drewN n)) := hide (fun n => bel_drewN N1.out n)
    clear RX_1 HW0
    go_wp2
    go_quiet (fail)
    go_wp2
    go_ret
    exact ⟨rfl, N1'.out _⟩
  have hl' : decide (63 < (L.length : Int)) = false := decide_eq_false hl
  have hl1 : L.length ≤ 63 := by omega
  have KS : Hid (∀ w', Nx wk w' → w'.cell? ⟨xb, 0, none⟩ = some (.int .i64 xi) ∧ w'.cell? ⟨xb, 1, none⟩ = some (.int .i64 xd) ∧ w'.cell? ⟨xb, 2, none⟩ = some (.bool xf)) := hide (fun w' hB => row3 (row_nx RX_1.out hB))
  have FIN : Hid (∀ w', Nx wk w' → Nx W w') := hide (fun w' hB => Nx.trans N1.out hB)
  have HLL : Hid (∀ w', Nx wk w' → Sl w' (.slice p L.length cap) L) := hide (fun w' hB => HW0.out _ (Nx.trans N1.out hB))
  have RLf := HLL
  unfold Sl at RLf
  obtain ⟨FL, hFL⟩ : ∃ FL, flatE L = FL := ⟨_, rfl⟩
  obtain ⟨FX, hFX⟩ : ∃ FX, FL ++ [.int .i64 xi, .int .i64 xd, .bool xf] = FX := ⟨_, rfl⟩
  have EFX := hide hFX
  have ON1 : Hid (∀ u ∈ FL, u.oneCell' = true) := hide (by rw [← hFL]; exact flatE_one _)
  have ON2 : Hid (∀ u ∈ [Value.int .i64 xi, .int .i64 xd, .bool xf], u.oneCell' = true) := hide (by intro u hu; simp at hu; rcases hu with rfl | rfl | rfl <;> rfl)
  have SLF : Hid (∀ B p' c' w', w'.ownsRow B 24 3 (.slice p' (L.length + 1) c') (L.length + 1) FX → Sl w' (.slice p' (L.length + 1) c') (L ++ [(xi, xd, xf)])) := hide (fun B p' c' w' ho => by
    have e2 : flatE (L ++ [(xi, xd, xf)]) = FX := by rw [flatE_app, hFL, ← hFX]; rfl
    have e1 : (L ++ [(xi, xd, xf)]).length = L.length + 1 := by simp
    have := Sl.own (L := L ++ [(xi, xd, xf)]) (by rw [e1, e2]; exact ho)
    exact this)
  rw [hFL] at RLf
  have SZ1 : Hid (L.length ≤ maxLen ∧ L.length * 24 ≤ 140737488355328) := hide ⟨by unfold maxLen; omega, by omega⟩
  have SZ2 : Hid (L.length + 1 ≤ maxLen ∧ (L.length + 1) * 24 ≤ 140737488355328) := hide ⟨by unfold maxLen; omega, by omega⟩
  obtain ⟨G2, hG2⟩ : ∃ G, goodE m (L ++ [(xi, xd, xf)]) = G := ⟨_, rfl⟩
  obtain ⟨G1, hG1⟩ : ∃ G, goodE m L = G := ⟨_, rfl⟩
  have HG12 : Hid (G1 = false → G2 = false) := hide (fun h => by
    cases k : G2 with
    | false => rfl
    | true => rw [k] at hG2; rw [(app_parts hG2).1] at hG1; rw [← hG1] at h; cases h)
  have HGA : Hid (∀ q d w, Sl w (.slice q (L.length + 1) d) (L ++ [(xi, xd, xf)]) → Calls Try.prog 13 #[.int .i64 m, .slice q (L.length + 1) d] w fun e w' => e = .returned (.bool G2) ∧ Nx w w') := hide (fun q d w hs => by
    have := hG.out m _ _ w hs (by simp; omega)
    rwa [hG2] at this)
  have HGL : Hid (∀ w, Nx wk w → Calls Try.prog 13 #[.int .i64 m, .slice p L.length cap] w fun e w' => e = .returned (.bool G1) ∧ Nx w w') := hide (fun w hN => by
    have := hG.out m _ _ w (HLL.out w hN) (by omega)
    rwa [hG1] at this)
  have HG2 := hide hG2
  clear hFL hFX hG1 hG2 RX_1 N1 HW0
  obtain ⟨i0, hi, hz0, hz1', hz2⟩ := info_parts infoEo
  go_wp2
  go_cut [33] from 12 to 89 (fun s w' => s = .bool (!G2) ∧ Hid (Nx wk w'))
  case first => as_aux_lemma =>
    refine wp_region_noPanic ?_
    refine OrdU.region_U (S := fun w' => w'.cell? ⟨xb, 0, none⟩ = some (.int .i64 xi) ∧ w'.cell? ⟨xb, 1, none⟩ = some (.int .i64 xd) ∧ w'.cell? ⟨xb, 2, none⟩ = some (.bool xf)) [] (by kernel_rfl) ?_ (fun hHeld => ?_)
    · exact KS.out _ (bel_drew (Below.refl _ _))
    refine OrdU.AnyU.takeP (i := 0) (v := ?_) (some 14) (by rfl) (by rfl) (by kernel_rfl) (by kernel_rfl) (by kernel_rfl) (fun _ _ _ h => h) (Or.inl ⟨by rfl, ?_⟩) ?_
    rotate_left
    · intro w _; first | (go_simp; done) | (go_simp; with_reducible rfl)
    (try simp only [Act.put, List.setIfInBounds_toArray, List.set_cons_zero, List.set_cons_succ])
    refine OrdU.AnyU.takeP (i := 1) (v := ?_) (some 15) (by rfl) (by rfl) (by kernel_rfl) (by kernel_rfl) (by kernel_rfl) (fun _ _ _ h => h) (Or.inl ⟨by rfl, ?_⟩) ?_
    rotate_left
    · intro w _; first | (go_simp; done) | (go_simp; with_reducible rfl)
    (try simp only [Act.put, List.setIfInBounds_toArray, List.set_cons_zero, List.set_cons_succ])
    refine OrdU.AnyU.takeP (i := 2) (v := ?_) (some 16) (by rfl) (by rfl) (by kernel_rfl) (by kernel_rfl) (by kernel_rfl) (fun _ _ _ h => h) (Or.inl ⟨by rfl, ?_⟩) ?_
    rotate_left
    · intro w _; first | (go_simp; done) | (go_simp; with_reducible rfl)
    (try simp only [Act.put, List.setIfInBounds_toArray, List.set_cons_zero, List.set_cons_succ])
    refine OrdU.AnyU.takeP (i := 3) (v := ?_) (some 17) (by rfl) (by rfl) (by kernel_rfl) (by kernel_rfl) (by kernel_rfl) (fun _ _ _ h => h) (Or.inl ⟨by rfl, ?_⟩) ?_
    rotate_left
    · intro w _; first | (go_simp; done) | (go_simp; with_reducible rfl)
    (try simp only [Act.put, List.setIfInBounds_toArray, List.set_cons_zero, List.set_cons_succ])
    refine OrdU.AnyU.takeP (i := 4) (v := ?_) (some 18) (by rfl) (by rfl) (by kernel_rfl) (by kernel_rfl) (by kernel_rfl) (fun _ _ _ h => h) (Or.inl ⟨by rfl, ?_⟩) ?_
    rotate_left
    · intro w _; first | (go_simp; done) | (go_simp; with_reducible rfl)
    (try simp only [Act.put, List.setIfInBounds_toArray, List.set_cons_zero, List.set_cons_succ])
    refine OrdU.AnyU.takeP (i := 5) (v := ?_) (some 19) (by rfl) (by rfl) (by kernel_rfl) (by kernel_rfl) (by kernel_rfl) (fun _ _ _ h => h) (Or.inl ⟨by rfl, ?_⟩) ?_
    rotate_left
    · intro w _; first | (go_simp; done) | (go_simp; with_reducible rfl)
    (try simp only [Act.put, List.setIfInBounds_toArray, List.set_cons_zero, List.set_cons_succ])
    refine OrdU.AnyU.one (i := 6) (by kernel_rfl) (by rfl) (fun K hK => ?_)
    go_simp
    refine (HGL.out _ (bel_drew (Nx.refl wk))).mono ?_
    rintro e w9 ⟨rfl, hb9⟩
    have n9 : Hid (Nx wk w9) := hide (Nx.trans (bel_drew (Nx.refl wk)) hb9)
    have S9 := KS.out _ n9.out
    have KS9 : Hid (∀ w', Below w9.heap.size w9 w' → w'.cell? ⟨xb, 0, none⟩ = some (.int .i64 xi) ∧ w'.cell? ⟨xb, 1, none⟩ = some (.int .i64 xd) ∧ w'.cell? ⟨xb, 2, none⟩ = some (.bool xf)) := hide (fun w' h => KS.out w' (Nx.trans n9.out h))
    have RL9 := hide (RLf.out _ n9.out)
    refine hK.out _ _ (fun _ _ => S9) ?_
    clear hK K
    (try simp only [Act.put, List.setIfInBounds_toArray, List.set_cons_zero, List.set_cons_succ])
    clear hb9 RLf HGL hHeld KS
    cases G1 with
    | false =>
      obtain rfl := HG12.out rfl
      refine OrdU.AnyU.takeP (i := 7) (v := ?_) (some 21) (by rfl) (by rfl) (by kernel_rfl) (by kernel_rfl) (by kernel_rfl) (fun _ _ _ h => h) (Or.inl ⟨by rfl, ?_⟩) ?_
      rotate_left
      · intro w _; first | (go_simp; done) | (go_simp; with_reducible rfl)
      (try simp only [Act.put, List.setIfInBounds_toArray, List.set_cons_zero, List.set_cons_succ])
      refine OrdU.AnyU.takeP (i := 8) (v := ?_) (some 22) (by rfl) (by rfl) (by kernel_rfl) (by kernel_rfl) (by kernel_rfl) (fun _ _ _ h => h) (Or.inl ⟨by rfl, ?_⟩) ?_
      rotate_left
      · intro w _; first | (go_simp; done) | (go_simp; with_reducible rfl)
      (try simp only [Act.put, List.setIfInBounds_toArray, List.set_cons_zero, List.set_cons_succ])
      refine OrdU.AnyU.takeP (i := 9) (v := ?_) (some 23) (by rfl) (by rfl) (by kernel_rfl) (by kernel_rfl) (by kernel_rfl) (fun _ _ _ h => h) (Or.inl ⟨by rfl, ?_⟩) ?_
      rotate_left
      · intro w _; first | (go_simp; done) | (go_simp; with_reducible rfl)
      (try simp only [Act.put, List.setIfInBounds_toArray, List.set_cons_zero, List.set_cons_succ])
      refine OrdU.AnyU.takeP (i := 10) (v := undef) (some 24) (by rfl) (by rfl) (by kernel_rfl) (by kernel_rfl) (by kernel_rfl) (fun _ _ _ h => h) (Or.inr ⟨by rfl, rfl⟩) ?_
      (try simp only [Act.put, List.setIfInBounds_toArray, List.set_cons_zero, List.set_cons_succ])
      refine OrdU.AnyU.takeP (i := 12) (v := undef) (some 26) (by rfl) (by rfl) (by kernel_rfl) (by kernel_rfl) (by kernel_rfl) (fun _ _ _ h => h) (Or.inr ⟨by rfl, rfl⟩) ?_
      (try simp only [Act.put, List.setIfInBounds_toArray, List.set_cons_zero, List.set_cons_succ])
      refine OrdU.AnyU.takeP (i := 14) (v := undef) (some 28) (by rfl) (by rfl) (by kernel_rfl) (by kernel_rfl) (by kernel_rfl) (fun _ _ _ h => h) (Or.inr ⟨by rfl, rfl⟩) ?_
      (try simp only [Act.put, List.setIfInBounds_toArray, List.set_cons_zero, List.set_cons_succ])
      refine OrdU.AnyU.two (i := 11) (j := 15) (by kernel_rfl) (by rfl) (by rfl) (fun K hK => ?_) (fun K hK => ?_)
      · go_simp
        refine hK.out _ _ (fun _ _ => S9) ?_
        clear hK K
        (try simp only [Act.put, List.setIfInBounds_toArray, List.set_cons_zero, List.set_cons_succ])
        refine OrdU.AnyU.two (i := 13) (j := 15) (by kernel_rfl) (by rfl) (by rfl) (fun K hK => ?_) (fun K hK => ?_)
        · go_simp
          refine hK.out _ _ (fun _ _ => S9) ?_
          clear hK K
          (try simp only [Act.put, List.setIfInBounds_toArray, List.set_cons_zero, List.set_cons_succ])
          refine OrdU.AnyU.one (i := 15) (by kernel_rfl) (by rfl) (fun K hK => ?_)
          go_simp
          refine hK.out _ _ (fun _ _ => S9) ?_
          clear hK K
          (try simp only [Act.put, List.setIfInBounds_toArray, List.set_cons_zero, List.set_cons_succ])
          refine OrdU.AnyU.one (i := 16) (by kernel_rfl) (by rfl) (fun K hK => ?_)
          go_simp
          refine hK.out _ _ (fun _ _ => S9) ?_
          clear hK K
          (try simp only [Act.put, List.setIfInBounds_toArray, List.set_cons_zero, List.set_cons_succ])
          refine OrdU.AnyU.one (i := 17) (by kernel_rfl) (by rfl) (fun K hK => ?_)
          go_simp
          refine hK.out _ _ (fun _ _ => S9) ?_
          clear hK K
          (try simp only [Act.put, List.setIfInBounds_toArray, List.set_cons_zero, List.set_cons_succ])
          refine OrdU.AnyU.one (i := 18) (by kernel_rfl) (by rfl) (fun K hK => ?_)
          go_simp
          refine hK.out _ _ (fun _ _ => S9) ?_
          clear hK K
          (try simp only [Act.put, List.setIfInBounds_toArray, List.set_cons_zero, List.set_cons_succ])
          refine OrdU.AnyU.one (i := 19) (by kernel_rfl) (by rfl) (fun K hK => ?_)
          go_simp
          refine hK.out _ _ (fun _ _ => S9) ?_
          clear hK K
          (try simp only [Act.put, List.setIfInBounds_toArray, List.set_cons_zero, List.set_cons_succ])
          refine OrdU.AnyU.done (by kernel_rfl) ?_ _
          refine NoPanic.normal ?_
          go_wp2
          go_meet
          case rel => exact ⟨rfl, n9⟩
        · go_simp
          refine hK.out _ _ (fun _ _ => S9) ?_
          clear hK K
          (try simp only [Act.put, List.setIfInBounds_toArray, List.set_cons_zero, List.set_cons_succ])
          refine OrdU.AnyU.one (i := 13) (by kernel_rfl) (by rfl) (fun K hK => ?_)
          go_simp
          refine hK.out _ _ (fun _ _ => S9) ?_
          clear hK K
          (try simp only [Act.put, List.setIfInBounds_toArray, List.set_cons_zero, List.set_cons_succ])
          refine OrdU.AnyU.one (i := 16) (by kernel_rfl) (by rfl) (fun K hK => ?_)
          go_simp
          refine hK.out _ _ (fun _ _ => S9) ?_
          clear hK K
          (try simp only [Act.put, List.setIfInBounds_toArray, List.set_cons_zero, List.set_cons_succ])
          refine OrdU.AnyU.one (i := 17) (by kernel_rfl) (by rfl) (fun K hK => ?_)
          go_simp
          refine hK.out _ _ (fun _ _ => S9) ?_
          clear hK K
          (try simp only [Act.put, List.setIfInBounds_toArray, List.set_cons_zero, List.set_cons_succ])
          refine OrdU.AnyU.one (i := 18) (by kernel_rfl) (by rfl) (fun K hK => ?_)
          go_simp
          refine hK.out _ _ (fun _ _ => S9) ?_
          clear hK K
          (try simp only [Act.put, List.setIfInBounds_toArray, List.set_cons_zero, List.set_cons_succ])
          refine OrdU.AnyU.one (i := 19) (by kernel_rfl) (by rfl) (fun K hK => ?_)
          go_simp
          refine hK.out _ _ (fun _ _ => S9) ?_
          clear hK K
          (try simp only [Act.put, List.setIfInBounds_toArray, List.set_cons_zero, List.set_cons_succ])
          refine OrdU.AnyU.done (by kernel_rfl) ?_ _
          refine NoPanic.normal ?_
          go_wp2
          go_meet
          case rel => exact ⟨rfl, n9⟩
      · go_simp
        refine hK.out _ _ (fun _ _ => S9) ?_
        clear hK K
        (try simp only [Act.put, List.setIfInBounds_toArray, List.set_cons_zero, List.set_cons_succ])
        refine OrdU.AnyU.one (i := 11) (by kernel_rfl) (by rfl) (fun K hK => ?_)
        go_simp
        refine hK.out _ _ (fun _ _ => S9) ?_
        clear hK K
        (try simp only [Act.put, List.setIfInBounds_toArray, List.set_cons_zero, List.set_cons_succ])
        refine OrdU.AnyU.one (i := 13) (by kernel_rfl) (by rfl) (fun K hK => ?_)
        go_simp
        refine hK.out _ _ (fun _ _ => S9) ?_
        clear hK K
        (try simp only [Act.put, List.setIfInBounds_toArray, List.set_cons_zero, List.set_cons_succ])
        refine OrdU.AnyU.one (i := 16) (by kernel_rfl) (by rfl) (fun K hK => ?_)
        go_simp
        refine hK.out _ _ (fun _ _ => S9) ?_
        clear hK K
        (try simp only [Act.put, List.setIfInBounds_toArray, List.set_cons_zero, List.set_cons_succ])
        refine OrdU.AnyU.one (i := 17) (by kernel_rfl) (by rfl) (fun K hK => ?_)
        go_simp
        refine hK.out _ _ (fun _ _ => S9) ?_
        clear hK K
        (try simp only [Act.put, List.setIfInBounds_toArray, List.set_cons_zero, List.set_cons_succ])
        refine OrdU.AnyU.one (i := 18) (by kernel_rfl) (by rfl) (fun K hK => ?_)
        go_simp
        refine hK.out _ _ (fun _ _ => S9) ?_
        clear hK K
        (try simp only [Act.put, List.setIfInBounds_toArray, List.set_cons_zero, List.set_cons_succ])
        refine OrdU.AnyU.one (i := 19) (by kernel_rfl) (by rfl) (fun K hK => ?_)
        go_simp
        refine hK.out _ _ (fun _ _ => S9) ?_
        clear hK K
        (try simp only [Act.put, List.setIfInBounds_toArray, List.set_cons_zero, List.set_cons_succ])
        refine OrdU.AnyU.done (by kernel_rfl) ?_ _
        refine NoPanic.normal ?_
        go_wp2
        go_meet
        case rel => exact ⟨rfl, n9⟩
    | true =>
      refine OrdU.AnyU.takeP (i := 7) (v := ?_) (some 21) (by rfl) (by rfl) (by kernel_rfl) (by kernel_rfl) (by kernel_rfl) (fun _ _ _ h => h) (Or.inl ⟨by rfl, ?_⟩) ?_
      rotate_left
      · intro w _; first | (go_simp; done) | (go_simp; with_reducible rfl)
      (try simp only [Act.put, List.setIfInBounds_toArray, List.set_cons_zero, List.set_cons_succ])
      refine OrdU.AnyU.takeP (i := 8) (v := ?_) (some 22) (by rfl) (by rfl) (by kernel_rfl) (by kernel_rfl) (by kernel_rfl) (fun _ _ _ h => h) (Or.inl ⟨by rfl, ?_⟩) ?_
      rotate_left
      · intro w _; first | (go_simp; done) | (go_simp; with_reducible rfl)
      (try simp only [Act.put, List.setIfInBounds_toArray, List.set_cons_zero, List.set_cons_succ])
      refine OrdU.AnyU.takeP (i := 9) (v := ?_) (some 23) (by rfl) (by rfl) (by kernel_rfl) (by kernel_rfl) (by kernel_rfl) (fun _ _ _ h => h) (Or.inl ⟨by rfl, ?_⟩) ?_
      rotate_left
      · intro w _; first | (go_simp; done) | (go_simp; with_reducible rfl)
      (try simp only [Act.put, List.setIfInBounds_toArray, List.set_cons_zero, List.set_cons_succ])
      refine OrdU.AnyU.takeP (i := 10) (v := ?_) (some 24) (by rfl) (by rfl) (by kernel_rfl) (by kernel_rfl) (by kernel_rfl) (fun _ _ _ h => h) (Or.inl ⟨by rfl, ?_⟩) ?_
      rotate_left
      · intro w _; first | (go_simp; done) | (go_simp; with_reducible rfl)
      (try simp only [Act.put, List.setIfInBounds_toArray, List.set_cons_zero, List.set_cons_succ])
      refine OrdU.AnyU.takeP (i := 12) (v := ?_) (some 26) (by rfl) (by rfl) (by kernel_rfl) (by kernel_rfl) (by kernel_rfl) (fun _ _ _ h => h) (Or.inl ⟨by rfl, ?_⟩) ?_
      rotate_left
      · intro w _; first | (go_simp; done) | (go_simp; with_reducible rfl)
      (try simp only [Act.put, List.setIfInBounds_toArray, List.set_cons_zero, List.set_cons_succ])
      refine OrdU.AnyU.take (i := 14) (v := ?_) (some 28) (by rfl) (by rfl) (by kernel_rfl) (by kernel_rfl) (by kernel_rfl) (by kernel_rfl) (fun _ _ _ h => h) (Or.inl ⟨by rfl, ?_⟩) (by assumption) ?_
      rotate_left
      · intro w hSw; (try dsimp only at hSw); first | (go_simp; done) | (go_simp; with_reducible rfl)
      (try simp only [Act.put, List.setIfInBounds_toArray, List.set_cons_zero, List.set_cons_succ])
      refine OrdU.AnyU.two (i := 11) (j := 15) (by kernel_rfl) (by rfl) (by rfl) (fun K hK => ?_) (fun K hK => ?_)
      · go_simp
        refine hK.out _ _ (fun _ _ => KS9.out _ (by repeat (first | (with_reducible exact Below.refl _ _) | (with_reducible exact HB2) | (with_reducible exact HB1) | refine bel_drew ?_ | refine bel_alloc ?_ (Nat.le_refl _) _))) ?_
        clear hK K
        (try simp only [Act.put, List.setIfInBounds_toArray, List.set_cons_zero, List.set_cons_succ])
        refine OrdU.AnyU.two (i := 13) (j := 15) (by kernel_rfl) (by rfl) (by rfl) (fun K hK => ?_) (fun K hK => ?_)
        · refine step_append_g (some 27) (by rfl) (by rfl) _ _ 25 (by rfl) w9.heap.size 24 i0 (.agg #[.int .i64 0, .int .i64 0, .bool false]) 3 24 Try.underlying25 hi hz0 hz1' hz2 rfl (by decide) (.slice (some ⟨w9.heap.size, 0, none⟩) 0 0) 0 [] (by rfl) (by exact own_empty (by first | exact heap_alloc_at _ _ _ (by simp) | exact (Below.heap_alloc _ _ _ (by simp)).trans (heap_alloc_at _ _ _ (by simp))) (by first | exact Nat.le_refl _ | simp)) _ (.slice p L.length cap) L.length FL (by rfl) (by exact (RL9.out.below (by repeat (first | (with_reducible exact Below.refl _ _) | (with_reducible exact HB2) | (with_reducible exact HB1) | refine bel_drew ?_ | refine bel_alloc ?_ (Nat.le_refl _) _)))) (by exact ON1.out) L.length (by exact Nat.zero_add _) FL (by exact List.nil_append FL) (by exact SZ1.out.1) (by exact SZ1.out.2) (by exact bel_le (W := w9) (Nat.le_refl _) (by repeat (first | (with_reducible exact Below.refl _ _) | (with_reducible exact HB2) | (with_reducible exact HB1) | refine bel_drew ?_ | refine bel_alloc ?_ (Nat.le_refl _) _))) ?_
          intro q1 d1 w1 ho1 hg1 ha1 hp1
          have HB1 : Below w9.heap.size w9 w1 := below_grown (by repeat (first | (with_reducible exact Below.refl _ _) | (with_reducible exact HB2) | (with_reducible exact HB1) | refine bel_drew ?_ | refine bel_alloc ?_ (Nat.le_refl _) _)) (by exact bel_le (W := w9) (Nat.le_refl _) (by repeat (first | (with_reducible exact Below.refl _ _) | (with_reducible exact HB2) | (with_reducible exact HB1) | refine bel_drew ?_ | refine bel_alloc ?_ (Nat.le_refl _) _))) hg1 hp1
          clear ha1 hp1
          refine hK.out _ _ (fun _ _ => KS9.out _ HB1) ?_
          clear hK K
          (try simp only [Act.put, List.setIfInBounds_toArray, List.set_cons_zero, List.set_cons_succ])
          refine OrdU.AnyU.one (i := 15) (by kernel_rfl) (by rfl) (fun K hK => ?_)
          go_simp
          refine hK.out _ _ (fun _ _ => KS9.out _ (by repeat (first | (with_reducible exact Below.refl _ _) | (with_reducible exact HB2) | (with_reducible exact HB1) | refine bel_drew ?_ | refine bel_alloc ?_ (Nat.le_refl _) _))) ?_
          clear hK K
          (try simp only [Act.put, List.setIfInBounds_toArray, List.set_cons_zero, List.set_cons_succ])
          refine OrdU.AnyU.one (i := 16) (by kernel_rfl) (by rfl) (fun K hK => ?_)
          refine step_append_g (some 30) (by rfl) (by rfl) _ _ 25 (by rfl) w9.heap.size 24 i0 (.agg #[.int .i64 0, .int .i64 0, .bool false]) 3 24 Try.underlying25 hi hz0 hz1' hz2 rfl (by decide) (.slice q1 L.length d1) L.length FL (by rfl) (by first | exact ho1 | exact own_kept ho1 (fun k e => Below.heap_alloc _ _ _ (own_lt ho1 k e))) _ _ 1 [.int .i64 xi, .int .i64 xd, .bool xf] (by rfl) (by exact rd_one (cs := #[.int .i64 xi, .int .i64 xd, .bool xf]) (by exact heap_alloc_at _ _ _ rfl) rfl) (by exact ON2.out) (L.length + 1) (by exact rfl) FX (by exact EFX.out) (by exact SZ2.out.1) (by exact SZ2.out.2) (by exact bel_le (W := w9) (Nat.le_refl _) (by repeat (first | (with_reducible exact Below.refl _ _) | (with_reducible exact HB2) | (with_reducible exact HB1) | refine bel_drew ?_ | refine bel_alloc ?_ (Nat.le_refl _) _))) ?_
          intro q2 d2 w2 ho2 hg2 ha2 hp2
          have HB2 : Below w9.heap.size w9 w2 := below_grown (by repeat (first | (with_reducible exact Below.refl _ _) | (with_reducible exact HB2) | (with_reducible exact HB1) | refine bel_drew ?_ | refine bel_alloc ?_ (Nat.le_refl _) _)) (by exact bel_le (W := w9) (Nat.le_refl _) (by repeat (first | (with_reducible exact Below.refl _ _) | (with_reducible exact HB2) | (with_reducible exact HB1) | refine bel_drew ?_ | refine bel_alloc ?_ (Nat.le_refl _) _))) hg2 hp2
          clear ha2 hp2
          refine hK.out _ _ (fun _ _ => KS9.out _ HB2) ?_
          clear hK K
          (try simp only [Act.put, List.setIfInBounds_toArray, List.set_cons_zero, List.set_cons_succ])
          refine OrdU.AnyU.one (i := 17) (by kernel_rfl) (by rfl) (fun K hK => ?_)
          go_simp
          refine (HGA.out _ _ _ (SLF.out _ _ _ _ ho2)).mono ?_
          rintro e w17 ⟨rfl, hb17⟩
          have HB17 : Below w9.heap.size w9 w17 := HB2.trans (Below.mono hb17 HB2.size)
          clear hb17
          refine hK.out _ _ (fun _ _ => KS9.out _ HB17) ?_
          clear hK K
          (try simp only [Act.put, List.setIfInBounds_toArray, List.set_cons_zero, List.set_cons_succ])
          refine OrdU.AnyU.one (i := 18) (by kernel_rfl) (by rfl) (fun K hK => ?_)
          go_simp
          refine hK.out _ _ (fun _ _ => KS9.out _ HB17) ?_
          clear hK K
          (try simp only [Act.put, List.setIfInBounds_toArray, List.set_cons_zero, List.set_cons_succ])
          refine OrdU.AnyU.one (i := 19) (by kernel_rfl) (by rfl) (fun K hK => ?_)
          go_simp
          refine hK.out _ _ (fun _ _ => KS9.out _ HB17) ?_
          clear hK K
          (try simp only [Act.put, List.setIfInBounds_toArray, List.set_cons_zero, List.set_cons_succ])
          refine OrdU.AnyU.done (by kernel_rfl) ?_ _
          refine NoPanic.normal ?_
          go_wp2
          go_meet
          case rel => exact ⟨rfl, hide (Nx.trans n9.out HB17)⟩
        · go_simp
          refine hK.out _ _ (fun _ _ => KS9.out _ (by repeat (first | (with_reducible exact Below.refl _ _) | (with_reducible exact HB2) | (with_reducible exact HB1) | refine bel_drew ?_ | refine bel_alloc ?_ (Nat.le_refl _) _))) ?_
          clear hK K
          (try simp only [Act.put, List.setIfInBounds_toArray, List.set_cons_zero, List.set_cons_succ])
          refine OrdU.AnyU.one (i := 13) (by kernel_rfl) (by rfl) (fun K hK => ?_)
          refine step_append_g (some 27) (by rfl) (by rfl) _ _ 25 (by rfl) w9.heap.size 24 i0 (.agg #[.int .i64 0, .int .i64 0, .bool false]) 3 24 Try.underlying25 hi hz0 hz1' hz2 rfl (by decide) (.slice (some ⟨w9.heap.size, 0, none⟩) 0 0) 0 [] (by rfl) (by exact own_empty (by first | exact heap_alloc_at _ _ _ (by simp) | exact (Below.heap_alloc _ _ _ (by simp)).trans (heap_alloc_at _ _ _ (by simp))) (by first | exact Nat.le_refl _ | simp)) _ (.slice p L.length cap) L.length FL (by rfl) (by exact (RL9.out.below (by repeat (first | (with_reducible exact Below.refl _ _) | (with_reducible exact HB2) | (with_reducible exact HB1) | refine bel_drew ?_ | refine bel_alloc ?_ (Nat.le_refl _) _)))) (by exact ON1.out) L.length (by exact Nat.zero_add _) FL (by exact List.nil_append FL) (by exact SZ1.out.1) (by exact SZ1.out.2) (by exact bel_le (W := w9) (Nat.le_refl _) (by repeat (first | (with_reducible exact Below.refl _ _) | (with_reducible exact HB2) | (with_reducible exact HB1) | refine bel_drew ?_ | refine bel_alloc ?_ (Nat.le_refl _) _))) ?_
          intro q1 d1 w1 ho1 hg1 ha1 hp1
          have HB1 : Below w9.heap.size w9 w1 := below_grown (by repeat (first | (with_reducible exact Below.refl _ _) | (with_reducible exact HB2) | (with_reducible exact HB1) | refine bel_drew ?_ | refine bel_alloc ?_ (Nat.le_refl _) _)) (by exact bel_le (W := w9) (Nat.le_refl _) (by repeat (first | (with_reducible exact Below.refl _ _) | (with_reducible exact HB2) | (with_reducible exact HB1) | refine bel_drew ?_ | refine bel_alloc ?_ (Nat.le_refl _) _))) hg1 hp1
          clear ha1 hp1
          refine hK.out _ _ (fun _ _ => KS9.out _ HB1) ?_
          clear hK K
          (try simp only [Act.put, List.setIfInBounds_toArray, List.set_cons_zero, List.set_cons_succ])
          refine OrdU.AnyU.one (i := 16) (by kernel_rfl) (by rfl) (fun K hK => ?_)
          refine step_append_g (some 30) (by rfl) (by rfl) _ _ 25 (by rfl) w9.heap.size 24 i0 (.agg #[.int .i64 0, .int .i64 0, .bool false]) 3 24 Try.underlying25 hi hz0 hz1' hz2 rfl (by decide) (.slice q1 L.length d1) L.length FL (by rfl) (by first | exact ho1 | exact own_kept ho1 (fun k e => Below.heap_alloc _ _ _ (own_lt ho1 k e))) _ _ 1 [.int .i64 xi, .int .i64 xd, .bool xf] (by rfl) (by exact rd_one (cs := #[.int .i64 xi, .int .i64 xd, .bool xf]) (by exact (hg1.block _ (by first | (simp; done) | (simp; omega)) (by simp [Value.ownBlock])).trans (heap_alloc_at _ _ _ (by first | (simp; done) | (simp; omega)))) rfl) (by exact ON2.out) (L.length + 1) (by exact rfl) FX (by exact EFX.out) (by exact SZ2.out.1) (by exact SZ2.out.2) (by exact bel_le (W := w9) (Nat.le_refl _) (by repeat (first | (with_reducible exact Below.refl _ _) | (with_reducible exact HB2) | (with_reducible exact HB1) | refine bel_drew ?_ | refine bel_alloc ?_ (Nat.le_refl _) _))) ?_
          intro q2 d2 w2 ho2 hg2 ha2 hp2
          have HB2 : Below w9.heap.size w9 w2 := below_grown (by repeat (first | (with_reducible exact Below.refl _ _) | (with_reducible exact HB2) | (with_reducible exact HB1) | refine bel_drew ?_ | refine bel_alloc ?_ (Nat.le_refl _) _)) (by exact bel_le (W := w9) (Nat.le_refl _) (by repeat (first | (with_reducible exact Below.refl _ _) | (with_reducible exact HB2) | (with_reducible exact HB1) | refine bel_drew ?_ | refine bel_alloc ?_ (Nat.le_refl _) _))) hg2 hp2
          clear ha2 hp2
          refine hK.out _ _ (fun _ _ => KS9.out _ HB2) ?_
          clear hK K
          (try simp only [Act.put, List.setIfInBounds_toArray, List.set_cons_zero, List.set_cons_succ])
          refine OrdU.AnyU.one (i := 17) (by kernel_rfl) (by rfl) (fun K hK => ?_)
          go_simp
          refine (HGA.out _ _ _ (SLF.out _ _ _ _ ho2)).mono ?_
          rintro e w17 ⟨rfl, hb17⟩
          have HB17 : Below w9.heap.size w9 w17 := HB2.trans (Below.mono hb17 HB2.size)
          clear hb17
          refine hK.out _ _ (fun _ _ => KS9.out _ HB17) ?_
          clear hK K
          (try simp only [Act.put, List.setIfInBounds_toArray, List.set_cons_zero, List.set_cons_succ])
          refine OrdU.AnyU.one (i := 18) (by kernel_rfl) (by rfl) (fun K hK => ?_)
          go_simp
          refine hK.out _ _ (fun _ _ => KS9.out _ HB17) ?_
          clear hK K
          (try simp only [Act.put, List.setIfInBounds_toArray, List.set_cons_zero, List.set_cons_succ])
          refine OrdU.AnyU.one (i := 19) (by kernel_rfl) (by rfl) (fun K hK => ?_)
          go_simp
          refine hK.out _ _ (fun _ _ => KS9.out _ HB17) ?_
          clear hK K
          (try simp only [Act.put, List.setIfInBounds_toArray, List.set_cons_zero, List.set_cons_succ])
          refine OrdU.AnyU.done (by kernel_rfl) ?_ _
          refine NoPanic.normal ?_
          go_wp2
          go_meet
          case rel => exact ⟨rfl, hide (Nx.trans n9.out HB17)⟩
      · go_simp
        refine hK.out _ _ (fun _ _ => KS9.out _ (by repeat (first | (with_reducible exact Below.refl _ _) | (with_reducible exact HB2) | (with_reducible exact HB1) | refine bel_drew ?_ | refine bel_alloc ?_ (Nat.le_refl _) _))) ?_
        clear hK K
        (try simp only [Act.put, List.setIfInBounds_toArray, List.set_cons_zero, List.set_cons_succ])
        refine OrdU.AnyU.one (i := 11) (by kernel_rfl) (by rfl) (fun K hK => ?_)
        go_simp
        refine hK.out _ _ (fun _ _ => KS9.out _ (by repeat (first | (with_reducible exact Below.refl _ _) | (with_reducible exact HB2) | (with_reducible exact HB1) | refine bel_drew ?_ | refine bel_alloc ?_ (Nat.le_refl _) _))) ?_
        clear hK K
        (try simp only [Act.put, List.setIfInBounds_toArray, List.set_cons_zero, List.set_cons_succ])
        refine OrdU.AnyU.one (i := 13) (by kernel_rfl) (by rfl) (fun K hK => ?_)
        refine step_append_g (some 27) (by rfl) (by rfl) _ _ 25 (by rfl) w9.heap.size 24 i0 (.agg #[.int .i64 0, .int .i64 0, .bool false]) 3 24 Try.underlying25 hi hz0 hz1' hz2 rfl (by decide) (.slice (some ⟨w9.heap.size + 1, 0, none⟩) 0 0) 0 [] (by rfl) (by exact own_empty (by first | exact heap_alloc_at _ _ _ (by simp) | exact (Below.heap_alloc _ _ _ (by simp)).trans (heap_alloc_at _ _ _ (by simp))) (by first | exact Nat.le_refl _ | simp)) _ (.slice p L.length cap) L.length FL (by rfl) (by exact (RL9.out.below (by repeat (first | (with_reducible exact Below.refl _ _) | (with_reducible exact HB2) | (with_reducible exact HB1) | refine bel_drew ?_ | refine bel_alloc ?_ (Nat.le_refl _) _)))) (by exact ON1.out) L.length (by exact Nat.zero_add _) FL (by exact List.nil_append FL) (by exact SZ1.out.1) (by exact SZ1.out.2) (by exact bel_le (W := w9) (Nat.le_refl _) (by repeat (first | (with_reducible exact Below.refl _ _) | (with_reducible exact HB2) | (with_reducible exact HB1) | refine bel_drew ?_ | refine bel_alloc ?_ (Nat.le_refl _) _))) ?_
        intro q1 d1 w1 ho1 hg1 ha1 hp1
        have HB1 : Below w9.heap.size w9 w1 := below_grown (by repeat (first | (with_reducible exact Below.refl _ _) | (with_reducible exact HB2) | (with_reducible exact HB1) | refine bel_drew ?_ | refine bel_alloc ?_ (Nat.le_refl _) _)) (by exact bel_le (W := w9) (Nat.le_refl _) (by repeat (first | (with_reducible exact Below.refl _ _) | (with_reducible exact HB2) | (with_reducible exact HB1) | refine bel_drew ?_ | refine bel_alloc ?_ (Nat.le_refl _) _))) hg1 hp1
        clear ha1 hp1
        refine hK.out _ _ (fun _ _ => KS9.out _ HB1) ?_
        clear hK K
        (try simp only [Act.put, List.setIfInBounds_toArray, List.set_cons_zero, List.set_cons_succ])
        refine OrdU.AnyU.one (i := 16) (by kernel_rfl) (by rfl) (fun K hK => ?_)
        refine step_append_g (some 30) (by rfl) (by rfl) _ _ 25 (by rfl) w9.heap.size 24 i0 (.agg #[.int .i64 0, .int .i64 0, .bool false]) 3 24 Try.underlying25 hi hz0 hz1' hz2 rfl (by decide) (.slice q1 L.length d1) L.length FL (by rfl) (by first | exact ho1 | exact own_kept ho1 (fun k e => Below.heap_alloc _ _ _ (own_lt ho1 k e))) _ _ 1 [.int .i64 xi, .int .i64 xd, .bool xf] (by rfl) (by exact rd_one (cs := #[.int .i64 xi, .int .i64 xd, .bool xf]) (by exact (hg1.block _ (by first | (simp; done) | (simp; omega)) (by simp [Value.ownBlock])).trans ((heap_alloc_old _ _ (by first | (simp; done) | (simp; omega))).trans (heap_alloc_at _ _ _ (by first | (simp; done) | (simp; omega))))) rfl) (by exact ON2.out) (L.length + 1) (by exact rfl) FX (by exact EFX.out) (by exact SZ2.out.1) (by exact SZ2.out.2) (by exact bel_le (W := w9) (Nat.le_refl _) (by repeat (first | (with_reducible exact Below.refl _ _) | (with_reducible exact HB2) | (with_reducible exact HB1) | refine bel_drew ?_ | refine bel_alloc ?_ (Nat.le_refl _) _))) ?_
        intro q2 d2 w2 ho2 hg2 ha2 hp2
        have HB2 : Below w9.heap.size w9 w2 := below_grown (by repeat (first | (with_reducible exact Below.refl _ _) | (with_reducible exact HB2) | (with_reducible exact HB1) | refine bel_drew ?_ | refine bel_alloc ?_ (Nat.le_refl _) _)) (by exact bel_le (W := w9) (Nat.le_refl _) (by repeat (first | (with_reducible exact Below.refl _ _) | (with_reducible exact HB2) | (with_reducible exact HB1) | refine bel_drew ?_ | refine bel_alloc ?_ (Nat.le_refl _) _))) hg2 hp2
        clear ha2 hp2
        refine hK.out _ _ (fun _ _ => KS9.out _ HB2) ?_
        clear hK K
        (try simp only [Act.put, List.setIfInBounds_toArray, List.set_cons_zero, List.set_cons_succ])
        refine OrdU.AnyU.one (i := 17) (by kernel_rfl) (by rfl) (fun K hK => ?_)
        go_simp
        refine (HGA.out _ _ _ (SLF.out _ _ _ _ ho2)).mono ?_
        rintro e w17 ⟨rfl, hb17⟩
        have HB17 : Below w9.heap.size w9 w17 := HB2.trans (Below.mono hb17 HB2.size)
        clear hb17
        refine hK.out _ _ (fun _ _ => KS9.out _ HB17) ?_
        clear hK K
        (try simp only [Act.put, List.setIfInBounds_toArray, List.set_cons_zero, List.set_cons_succ])
        refine OrdU.AnyU.one (i := 18) (by kernel_rfl) (by rfl) (fun K hK => ?_)
        go_simp
        refine hK.out _ _ (fun _ _ => KS9.out _ HB17) ?_
        clear hK K
        (try simp only [Act.put, List.setIfInBounds_toArray, List.set_cons_zero, List.set_cons_succ])
        refine OrdU.AnyU.one (i := 19) (by kernel_rfl) (by rfl) (fun K hK => ?_)
        go_simp
        refine hK.out _ _ (fun _ _ => KS9.out _ HB17) ?_
        clear hK K
        (try simp only [Act.put, List.setIfInBounds_toArray, List.set_cons_zero, List.set_cons_succ])
        refine OrdU.AnyU.done (by kernel_rfl) ?_ _
        refine NoPanic.normal ?_
        go_wp2
        go_meet
        case rel => exact ⟨rfl, hide (Nx.trans n9.out HB17)⟩
  case rest => as_aux_lemma =>
    obtain ⟨rfl, HN⟩ := hcut
    clear HGA HGL HG12 RLf EFX ON1 ON2 SZ1 SZ2 SLF hi hz0 hz1' hz2
    cases G2 with
    | false =>
      have F1 := hide (FIN.out _ HN.out)
      clear HN KS HLL FIN HG2
      go_wp2
      go_ret
      exact ⟨rfl, F1.out⟩
    | true =>
      have hg := HG2.out
      have hgl := (app_parts hg).1
      have hpl := pick_len hgl
      obtain ⟨⟨m1, m2⟩, _⟩ := good_iff.1 hgl
      have HRoom := hide (fun h => out_room hg h)
      have HFull := hide (fun h => out_sum hg h)
      have HBC := hide (hB.out m L _ (xi, xd, xf) _ (HLL.out _ HN.out) (by omega))
      have HWC := hide (fun w (hN : Nx wk w) => hW.out m L _ w (HLL.out w hN) (by omega))
      have HPC := hide (fun w (hN : Nx wk w) => hP.out m L _ w (HLL.out w hN) (by omega))
      obtain ⟨wi, wd, wf, hwv⟩ : ∃ a b c, val (worstO m L) = (a, b, c) := ⟨_, _, _, rfl⟩
      rw [hwv] at HWC HFull
      have HLC := hide (fun w => hL.out (xi, xd, xf) (wi, wd, wf) w)
      obtain ⟨x0, x1, x2⟩ := KS.out _ HN.out
      clear hg hgl HG2 HLL hwv hG hL hP hW hB hA
      generalize (worstO m L).isSome = wb at *
      generalize beatsN m L (xi, xd, xf) = bn at *
      generalize beatsB m L (xi, xd, xf) = bb at *
      generalize lessB (xi, xd, xf) (wi, wd, wf) = lb at *
      generalize pickL m L = PL at *
      go_wp2_with fail
      refine HBC.out.mono ?_
      rintro e w3 ⟨rfl, hb⟩
      have N3 := hide (Nx.trans HN.out hb)
      clear hb x0 x1 x2 HBC HN
      go_wp2_with fail
      refine (HWC.out _ N3.out).mono ?_
      rintro e w4 ⟨rfl, hb⟩
      have N4 := hide (Nx.trans N3.out hb)
      have N5 := hide (Nx.trans N4.out (Nx.alloc w4 (.cells #[.int .i64 wi, .int .i64 wd, .bool wf] 24)))
      have r0 := hide (heap_alloc_new w4 (.cells #[.int .i64 wi, .int .i64 wd, .bool wf] 24))
      clear hb N3 HWC N4
      go_upto_region 7 with fail
      generalize hg1 : w4.heap.size = g1 at *
      generalize w4.alloc (.cells #[.int .i64 wi, .int .i64 wd, .bool wf] 24) = w5 at *
      clear hg1
      go_wp2_with fail
      refine (HPC.out _ N5.out).mono ?_
      rintro e w6 ⟨v6, rfl, hI, hb⟩
      obtain ⟨p6, c6, rfl, hn6, hm6⟩ := hI.out.form
      have R6 := hide (row_nx r0.out hb)
      have N6 := hide (Nx.trans N5.out hb)
      clear hI hb r0 HPC N5 hn6 hm6
      obtain ⟨c0, c1, c2⟩ := row3 R6.out
      obtain ⟨x0, x1, x2⟩ := KS.out _ N6.out
      have F6 := hide (FIN.out _ N6.out)
      have N6W : Hid (∀ w, Nx w6 w → Nx W w) := hide (fun w h => FIN.out _ (Nx.trans N6.out h))
      obtain ⟨n6, hn6⟩ : ∃ n, PL.length = n := ⟨_, rfl⟩
      rw [hn6] at hpl
      rw [hn6]
      clear hn6 KS FIN N6 R6
      by_cases hlm : (L.length : Int) < m
      · obtain ⟨hb1, hb2⟩ := HRoom.out hlm
        subst hb1
        subst hb2
        have hd : decide ((n6 : Int) < m) = true := decide_eq_true (by omega)
        clear HRoom HFull hpl hlm x0 x1 x2 c0 c1 c2 HLC N6W
        go_wp2
        go_ret
        exact ⟨rfl, F6.out⟩
      · have hd : decide ((n6 : Int) < m) = false := decide_eq_false (by omega)
        obtain ⟨hF1, hF2⟩ := HFull.out (by omega)
        clear HRoom HFull hpl hlm
        cases xf with
        | true =>
          obtain ⟨rfl, rfl, rfl⟩ := hF1 rfl
          clear hF1 hF2 HLC N6W
          go_wp2
          go_ret
          exact ⟨by simp, F6.out⟩
        | false =>
          rcases hF2 rfl with ⟨rfl, rfl⟩ | ⟨rfl, rfl, hbn⟩
          · clear hF1 hF2 HLC N6W
            go_wp2
            go_ret
            exact ⟨by simp, F6.out⟩
          · have hbn := hide hbn
            clear hF1 hF2
            go_wp2_with fail
            refine (HLC.out _).mono ?_
            rintro e w7 ⟨rfl, hb⟩
            have c7 := (hb.cell (p := ⟨g1, 0, none⟩) (World.block_lt_of_cell? _ _ c0)).trans c0
            have F7 := hide (N6W.out _ hb)
            clear hb x0 x1 x2 c0 c1 c2 HLC N6W F6
            cases bb with
            | true =>
              obtain rfl := hbn.out rfl
              go_wp2
              go_ret
              exact ⟨by simp, F7.out⟩
            | false =>
              clear hbn
              go_wp2
              go_ret
              exact ⟨by simp, F7.out⟩
end Go.Proofs.Ytacbiiiadalocaa.Ed
