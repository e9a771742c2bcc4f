/- The reference's Move, To. -/
import Derived.Test.YtmdendffbjhdbaaAR3
namespace Go.Proofs.Ytmdendffbjhdbaa.Con
open Go.RowKit Go.Proofs.Ytmdendffbjhdbaa.Hq
set_option linter.unusedVariables false
set_option linter.unusedSimpArgs false
attribute [local go_sem ↓] Go.wp_at_zero Go.wp_at_succ
section
variable {W W1 : World} {rb n : Nat} {now : Int} {v : Value} {L : List Rg}
set_option maxHeartbeats 1600000 in
theorem rmove_bad (h : Rl W rb n now v L) {c tc id : Int} (hb : ¬ (0 ≤ c ∧ c < n ∧ 0 ≤ tc ∧ tc < n)) :
    Calls Try.prog 18 #[.pointer (some ⟨rb, 0, none⟩), .int .i64 c, .int .i64 tc, .int .i64 id] W fun e w' => e = .returned (.int .i64 1) ∧ w' = W := by
  obtain ⟨c0, c1, _⟩ := h.cells
  clear h
  by_cases k1 : c < 0
  · clear hb
    go_enter Try.func18, Try.ntmps18
    go_wp2
    go_ret
    exact ⟨rfl, rfl⟩
  · by_cases k2 : c ≥ (n : Int)
    · clear hb
      go_enter Try.func18, Try.ntmps18
      go_wp2
      go_ret
      exact ⟨rfl, rfl⟩
    · by_cases k3 : tc < 0
      · clear hb
        go_enter Try.func18, Try.ntmps18
        go_wp2
        go_ret
        exact ⟨rfl, rfl⟩
      · have k4 : tc ≥ (n : Int) := by omega
        clear hb
        go_enter Try.func18, Try.ntmps18
        go_wp2
        go_ret
        exact ⟨rfl, rfl⟩
/-- What a call leaves. -/
structure RNew (W w' : World) (rb n : Nat) (now : Int) (R : Rg → Prop) (M : Nat) (v' : Value) (L' : List Rg) : Prop where
  rl : Rl w' rb n now v' L'
  rt : RT W w' rb
  srt : L'.Pairwise rlt
  mem : ∀ y : Rg, y ∈ L' ↔ R y
  len : L'.length ≤ M
theorem rmove_none (h : Rl W rb n now v L) (hs : L.Pairwise rlt) (hu : Uq L) {c tc id : Int} (h1 : 0 ≤ c) (h2 : c < n) (h3 : 0 ≤ tc) (h4 : tc < n) (hno : ∀ t, (c, id, t) ∉ L) :
    Calls Try.prog 18 #[.pointer (some ⟨rb, 0, none⟩), .int .i64 c, .int .i64 tc, .int .i64 id] W fun e w' => e = .returned (.int .i64 4) ∧ ∃ v' L', Hid (RNew W w' rb n now (fun y => y ∈ L) L.length v' L') := by
  obtain ⟨c0, c1, _⟩ := h.cells
  have CAN := hide (rcan_any h hs hu c id)
  have FIN : Hid (∀ w1 r b v1 L1, RCan W w1 rb n now L c id r b v1 L1 → b = false ∧ RNew W w1 rb n now (fun y => y ∈ L) L.length v1 L1) := hide (fun w1 r b v1 L1 C => by
    cases b with
    | true => exact absurd (C.yes rfl) (hno r)
    | false =>
      refine ⟨rfl, C.rl, C.rt, C.srt, fun y => (C.mem y).trans ⟨fun e => e.2, fun e => ⟨?_, e⟩⟩, C.len⟩
      rintro ⟨e1, e2⟩
      obtain ⟨y1, y2, y3⟩ := y
      simp only at e1 e2
      subst e1; subst e2
      exact hno _ e)
  have k1 : ¬ c < 0 := by omega
  have k2 : ¬ c ≥ (n : Int) := by omega
  have k3 : ¬ tc < 0 := by omega
  have k4 : ¬ tc ≥ (n : Int) := by omega
  clear h hs hu h1 h2 h3 h4 hno
  go_enter Try.func18, Try.ntmps18
  go_wp2_with (go_at_call 17; refine CAN.out.mono ?_; rintro e w1 ⟨r, bb, v1, L1, rfl, C1⟩; obtain ⟨rfl, hF⟩ := FIN.out _ _ _ _ _ C1.out; have HF := hide hF; clear hF C1)
  go_ret
  exact ⟨rfl, v1, L1, HF⟩
theorem rmove_ok (h : Rl W rb n now v L) (hs : L.Pairwise rlt) (hu : Uq L) (hL : L.length < 1000) {c tc id t : Int} (h1 : 0 ≤ c) (h2 : c < n) (h3 : 0 ≤ tc) (h4 : tc < n) (hm : (c, id, t) ∈ L) (i0 : 0 ≤ id) (i1 : id < 1024) (t0 : now ≤ t) (t1 : t ≤ top2) :
    Calls Try.prog 18 #[.pointer (some ⟨rb, 0, none⟩), .int .i64 c, .int .i64 tc, .int .i64 id] W fun e w' => e = .returned (.int .i64 0) ∧ ∃ v' L', Hid (RNew W w' rb n now (fun y => y = (tc, id, t) ∨ (¬ (y.1 = tc ∧ y.2.1 = id) ∧ ¬ (y.1 = c ∧ y.2.1 = id) ∧ y ∈ L)) (L.length + 1) v' L') := by
  obtain ⟨c0, c1, _⟩ := h.cells
  have CAN := hide (rcan_any h hs hu c id)
  have FIN : Hid (∀ w1 r b v1 L1, RCan W w1 rb n now L c id r b v1 L1 → b = true ∧ r = t ∧ Calls Try.prog 16 #[.pointer (some ⟨rb, 0, none⟩), .int .i64 tc, .int .i64 id, .int .i64 t] w1 fun e w' => e = .returned (.int .i64 0) ∧ ∃ v' L', Hid (RNew W w' rb n now (fun y => y = (tc, id, t) ∨ (¬ (y.1 = tc ∧ y.2.1 = id) ∧ ¬ (y.1 = c ∧ y.2.1 = id) ∧ y ∈ L)) (L.length + 1) v' L')) := hide (fun w1 r b v1 L1 C => by
    cases b with
    | false => exact absurd hm ((C.no rfl).2 t)
    | true =>
      refine ⟨rfl, hu _ _ _ _ (C.yes rfl) hm, ?_⟩
      have := C.len
      refine (rarm_ok C.rl C.srt (fun c i x y e1 e2 => hu c i x y ((C.mem _).1 e1).2 ((C.mem _).1 e2).2) (by omega) ⟨h3, h4, i0, i1, t0, t1⟩).mono ?_
      rintro e w' ⟨rfl, v', L', A⟩
      refine ⟨rfl, v', L', hide ⟨A.rl, C.rt.trans A.rt, A.srt, fun y => (A.mem y).trans ?_, by have := A.len; omega⟩⟩
      rw [C.mem])
  have k1 : ¬ c < 0 := by omega
  have k2 : ¬ c ≥ (n : Int) := by omega
  have k3 : ¬ tc < 0 := by omega
  have k4 : ¬ tc ≥ (n : Int) := by omega
  clear h hs hu h1 h2 h3 h4 hm i0 i1 t0 t1
  go_enter Try.func18, Try.ntmps18
  go_wp2_with (first
    | (go_at_call 17; refine CAN.out.mono ?_; rintro e w1 ⟨r, bb, v1, L1, rfl, C1⟩; obtain ⟨rfl, rfl, hF⟩ := FIN.out _ _ _ _ _ C1.out; have HF := hide hF; clear hF C1)
    | (go_at_call 16; refine HF.out.mono ?_; rintro e w2 ⟨rfl, v2, L2, HN⟩))
  go_ret
  exact ⟨rfl, v2, L2, HN⟩
theorem rto_bad (h : Rl W rb n now v L) {t : Int} (hb : ¬ (now ≤ t ∧ t ≤ top2)) : Calls Try.prog 19 #[.pointer (some ⟨rb, 0, none⟩), .int .i64 t] W fun e w' => e = .returned (.tuple #[.slice none 0 0, .int .i64 1]) ∧ w' = W := by
  obtain ⟨c0, c1, _⟩ := h.cells
  clear h
  unfold top2 at hb
  by_cases k1 : t < now
  · clear hb
    go_enter Try.func19, Try.ntmps19
    go_wp2
    exact bodyPost_ret (v := .tuple #[.slice none 0 0, .int .i64 1]) (by simp [results, Try.results19, go_sem]) rfl ⟨rfl, rfl⟩
  · have k2 : t > 4611686018427387904 := by omega
    clear hb
    go_enter Try.func19, Try.ntmps19
    go_wp2
    exact bodyPost_ret (v := .tuple #[.slice none 0 0, .int .i64 1]) (by simp [results, Try.results19, go_sem]) rfl ⟨rfl, rfl⟩
theorem up_take {L : List Rg} {t : Int} {k : Nat} (hs : L.Pairwise rlt) (hk : k ≤ L.length) (h1 : ∀ j, j < k → (atR L j).2.2 ≤ t) (h2 : k = L.length ∨ t < (atR L k).2.2) : up t L = L.take k ∧ dn t L = L.drop k := by
  have e1 : ∀ y ∈ L.take k, y.2.2 ≤ t := by
    intro y hy
    obtain ⟨i, hi, rfl⟩ := List.getElem_of_mem hy
    rw [List.length_take] at hi
    have := h1 i (by omega)
    unfold atR at this
    rw [List.getD_eq_getElem?_getD, List.getElem?_eq_getElem (by omega)] at this
    simpa using this
  have e2 : ∀ y ∈ L.drop k, t < y.2.2 := by
    intro y hy
    rcases h2 with rfl | h2
    · simp at hy
    · rcases Nat.lt_or_ge k L.length with h3 | h3
      · have hd := hs.sublist (List.drop_sublist k L)
        rw [drop_atR h3] at hy hd
        rcases List.mem_cons.1 hy with rfl | hy
        · exact h2
        · have := (List.pairwise_cons.1 hd).1 y hy
          unfold rlt at this
          omega
      · rw [List.drop_of_length_le h3] at hy; cases hy
  have f1 : (L.take k).filter (fun x => decide (x.2.2 ≤ t)) = L.take k := List.filter_eq_self.2 fun y hy => decide_eq_true (e1 y hy)
  have f2 : (L.drop k).filter (fun x => decide (x.2.2 ≤ t)) = [] := List.filter_eq_nil_iff.2 fun y hy => by have := e2 y hy; simp; omega
  have g1 : (L.take k).filter (fun x => decide (t < x.2.2)) = [] := List.filter_eq_nil_iff.2 fun y hy => by have := e1 y hy; simp; omega
  have g2 : (L.drop k).filter (fun x => decide (t < x.2.2)) = L.drop k := List.filter_eq_self.2 fun y hy => decide_eq_true (e2 y hy)
  constructor
  · conv => lhs; rw [← List.take_append_drop k L]
    unfold up
    rw [List.filter_append, f1, f2, List.append_nil]
  · conv => lhs; rw [← List.take_append_drop k L]
    unfold dn
    rw [List.filter_append, g1, g2, List.nil_append]
/-- append in a plain region, out of a slice that is read. -/
theorem wpList_append_rd {ops : Array Oper} {rest : List Oper} {o : Oper} {a : Act} {Q : Exit → Act → World → Prop} {w : World} (hgd : o.guard = none) (s x : Operand) (t : TypeId)
    (ho : o.op = .call { callee := .builtin .append, args := #[s, x], argTypes := #[t, t] }) (base e : Nat) (i : TypeInfo) (z : Value) (size bytes : Nat) (ht : Try.prog.underlying t = some (.slice e)) (hi : Try.prog.info? e = some i) (hz : i.zero = some z)
    (hsize : i.size = size) (hby : i.bytes = bytes) (hzs : z.cells.size = size) (hsz : 0 < size)
    (v : Value) (n : Nat) (xs : List Value) (hs : a.eval s = v) (hown : w.ownsRow base e size v n xs) (B : Nat) (xv : Value) (m : Nat) (news : List Value) (hxe : a.eval x = xv) (hx : RdC w B size xv m news) (h1 : ∀ u ∈ news, u.oneCell' = true)
    (N : Nat) (hN : n + m = N) (ys : List Value) (hys : xs ++ news = ys) (h63 : N ≤ maxLen) (hbytes : N * bytes ≤ 140737488355328) (hbase : base ≤ w.heap.size)
    (k : ∀ p cap w', Hid (w'.ownsRow base e size (.slice p N cap) N ys ∧ w.grownBy w' v.ownBlock ∧ ((Value.slice p N cap).ownBlock = v.ownBlock ∨ (Value.slice p N cap).ownBlock = some w.heap.size)) → wpList Try.prog ops Q rest (a.put o.dst (.slice p N cap)) w') :
    wpList Try.prog ops Q (o :: rest) a w := by
  subst hN
  subst hys
  refine wpList_plain hgd fun K hK => ?_
  obtain ⟨p, cap, w', hr, h2, h3, h4⟩ := run_append_rd w base t o.type e i z size bytes ht hi hz hsize hby hzs hsz v n xs hown B xv m news hx h1 h63 hbytes hbase
  unfold Oper.wp execOp
  simp only [ho, resolve, invoke, builtin, Sem.run_bind, Sem.run_pure, Result.andThen_ok, List.map_toArray, List.map_cons, List.map_nil, hs, hxe, hr]
  exact hK _ _ (k p cap w' (hide ⟨h2, h3, h4⟩))
/-- What To does. -/
structure RTo (W w' : World) (rb n : Nat) (t : Int) (L : List Rg) (v1 v' : Value) : Prop where
  rl : Rl w' rb n t v' (dn t L)
  rt : RT W w' rb
  row : RdC w' w'.heap.size 3 v1 (up t L).length (ringsV (up t L))
def RToP (W : World) (rb n : Nat) (t : Int) (L : List Rg) (e : Ending) (w' : World) : Prop := ∃ v1 v', e = .returned (.tuple #[v1, .int .i64 0]) ∧ RTo W w' rb n t L v1 v'
theorem Rl.tick (h : Rl W rb n now v L) (t : Int) : Rl (W.setCell ⟨rb, 1, none⟩ (.int .i64 t)) rb n t v L ∧ RT W (W.setCell ⟨rb, 1, none⟩ (.int .i64 t)) rb := by
  have ho : ∀ k, k ≠ rb → (W.setCell ⟨rb, 1, none⟩ (.int .i64 t)).heap[k]? = W.heap[k]? := fun k hk => heap_setCell_other W _ k _ hk
  refine ⟨⟨?_, rd_kept h.row fun k _ e => ho k (h.own_ne e), fun k e => ?_, h.len⟩, rfl, rfl, rfl, by simp, fun k _ hne => ho k hne⟩
  · rw [heap_setCell_same W rb 1 _ _ (.int .i64 t) h.str]; rfl
  · obtain ⟨cs, f, e2⟩ := h.own k e
    exact ⟨cs, f, (ho k (h.own_ne e)).trans e2⟩
theorem Rl.cut {w' : World} (h : Rl W rb n now v L) {p : Option Addr} {m c : Nat} {L' : List Rg} (hr : RdC W W.heap.size 3 (.slice p m c) m (ringsV L')) (hm : L'.length = m) (hl : m ≤ 1000) (ho : ∀ k, (Value.slice p m c).ownBlock = some k → v.ownBlock = some k) :
    Rl (W.setCell ⟨rb, 2, none⟩ (.slice p m c)) rb n now (.slice p m c) L' ∧ RT W (W.setCell ⟨rb, 2, none⟩ (.slice p m c)) rb := by
  have hk : ∀ k, k ≠ rb → (W.setCell ⟨rb, 2, none⟩ (.slice p m c)).heap[k]? = W.heap[k]? := fun k hk => heap_setCell_other W _ k _ hk
  refine ⟨⟨?_, by rw [hm]; exact rd_kept hr fun k _ e => hk k (h.own_ne (ho k e)), fun k e => ?_, by omega⟩, rfl, rfl, rfl, by simp, fun k _ hne => hk k hne⟩
  · rw [heap_setCell_same W rb 2 _ _ _ h.str]; rfl
  · obtain ⟨cs, f, e2⟩ := h.own k (ho k e)
    exact ⟨cs, f, (hk k (h.own_ne (ho k e))).trans e2⟩
end
end Go.Proofs.Ytmdendffbjhdbaa.Con
