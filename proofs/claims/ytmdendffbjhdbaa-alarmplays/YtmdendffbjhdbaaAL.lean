/- Alarms of a call's own, told by a plain list; rings. -/
import Derived.Test.YtmdendffbjhdbaaATo
import Derived.Test.YtmdendffbjhdbaaANew
import Derived.BigQuiet
import Derived.Deep.QuietTactic
namespace Go.Proofs.Ytmdendffbjhdbaa.Con
open Go.RowKit Go.Proofs.Ytmdendffbjhdbaa.Hq
set_option linter.unusedVariables false
set_option linter.unusedSimpArgs false
theorem ringsV_cells (rs : List Rg) (k : Nat) (h : k < rs.length) : (ringsV rs)[k * 3]? = some (.int .i64 (rs.getD k (0, 0, 0)).1) ∧ (ringsV rs)[k * 3 + 1]? = some (.int .i64 (rs.getD k (0, 0, 0)).2.1) ∧ (ringsV rs)[k * 3 + 2]? = some (.int .i64 (rs.getD k (0, 0, 0)).2.2) := by
  refine ⟨?_, ?_, ?_⟩
  · rw [ringsV_get _ _ (by omega), show k * 3 / 3 = k by omega, show k * 3 % 3 = 0 by omega]; rfl
  · rw [ringsV_get _ _ (by omega), show (k * 3 + 1) / 3 = k by omega, show (k * 3 + 1) % 3 = 1 by omega]; rfl
  · rw [ringsV_get _ _ (by omega), show (k * 3 + 2) / 3 = k by omega, show (k * 3 + 2) % 3 = 2 by omega]; rfl
theorem bel_drewN {B : Nat} {a w : World} (h : Below B a w) (n : Nat) : Below B a (w.drewN n) := ⟨h.os, h.tape, h.output, h.size, h.block⟩
set_option maxHeartbeats 1600000 in
set_option maxRecDepth 20000 in
theorem rings_same {W : World} {v u : Value} {rs : List Rg} (h1 : RdC W W.heap.size 3 v rs.length (ringsV rs)) (h2 : RdC W W.heap.size 3 u rs.length (ringsV rs)) (hn : rs.length ≤ 100000) :
    Calls Try.prog 15 #[v, u] W fun e w' => e = .returned (.bool true) ∧ Below W.heap.size W w' := by
  obtain ⟨_, p, c, rfl, _, _, k1⟩ := h1
  obtain ⟨_, q, d, rfl, _, _, k2⟩ := h2
  have K1 := hide k1
  have K2 := hide k2
  have CE := hide (ringsV_cells rs)
  clear k1 k2
  generalize rs.length = n at *
  go_enter Try.func15, Try.ntmps15
  go_wp2
  go_loopw [5] (fun i wr => ∃ k : Nat, k ≤ n ∧ i = .int .i64 k ∧ Hid (Below W.heap.size W wr)) (fun i _ => n - (intOf i).toNat)
  case atStart => exact ⟨0, by omega, rfl, hide (Below.refl _ _)⟩
  case round =>
    obtain ⟨k, hk, rfl, HB⟩ := hrel
    by_cases hkn : k < n
    · have k1 : (k : Int) < (n : Int) := by omega
      obtain ⟨b, o, rfl, hb, hc⟩ := K1.out (by omega)
      obtain ⟨b', o', rfl, hb', hc'⟩ := K2.out (by omega)
      obtain ⟨r0, r1, r2⟩ := CE.out k hkn
      have a0 : wr.cell? ⟨b, o + k * 3, none⟩ = _ := (HB.out.cell (p := ⟨b, o + k * 3, none⟩) hb).trans (hc _ _ r0)
      have a1 : wr.cell? ⟨b, o + k * 3 + 1, none⟩ = _ := (HB.out.cell (p := ⟨b, o + k * 3 + 1, none⟩) hb).trans (hc _ _ r1)
      have a2 : wr.cell? ⟨b, o + k * 3 + 2, none⟩ = _ := (HB.out.cell (p := ⟨b, o + k * 3 + 2, none⟩) hb).trans (hc _ _ r2)
      have b0 : wr.cell? ⟨b', o' + k * 3, none⟩ = _ := (HB.out.cell (p := ⟨b', o' + k * 3, none⟩) hb').trans (hc' _ _ r0)
      have b1 : wr.cell? ⟨b', o' + k * 3 + 1, none⟩ = _ := (HB.out.cell (p := ⟨b', o' + k * 3 + 1, none⟩) hb').trans (hc' _ _ r1)
      have b2 : wr.cell? ⟨b', o' + k * 3 + 2, none⟩ = _ := (HB.out.cell (p := ⟨b', o' + k * 3 + 2, none⟩) hb').trans (hc' _ _ r2)
      clear r0 r1 r2
      generalize (rs.getD k (0, 0, 0)) = z at *
      obtain ⟨z0, z1, z2⟩ := z
      clear hc hc' K1 K2 CE
      go_wp2
      go_quiet (fail)
      go_wp2
      go_roundw
      case rel => exact ⟨k + 1, by omega, by go_num, hide (bel_drewN HB.out _)⟩
      case measure => simp [intOf]; omega
    · obtain rfl : k = n := by omega
      go_wp2
      go_ret
      exact ⟨rfl, HB.out⟩
/- Rows in order. -/
theorem rlt_irrefl (x : Rg) : ¬ rlt x x := by unfold rlt; omega
theorem rlt_trans {x y z : Rg} (h1 : rlt x y) (h2 : rlt y z) : rlt x z := by unfold rlt at *; omega
theorem rlt_conn {x y : Rg} (h : ¬ rlt y x) (hne : x ≠ y) : rlt x y := by
  unfold rlt at *
  have : ¬ (x.1 = y.1 ∧ x.2.1 = y.2.1 ∧ x.2.2 = y.2.2) := fun ⟨e1, e2, e3⟩ => hne (Prod.ext e1 (Prod.ext e2 e3))
  omega
theorem srt_eq : ∀ (l m : List Rg), l.Pairwise rlt → m.Pairwise rlt → (∀ x, x ∈ l ↔ x ∈ m) → l = m
  | [], [], _, _, _ => rfl
  | [], y :: m, _, _, h => by have := (h y).2 (by simp); cases this
  | x :: l, [], _, _, h => by have := (h x).1 (by simp); cases this
  | x :: l, y :: m, h1, h2, h => by
    rw [List.pairwise_cons] at h1 h2
    have e : x = y := by
      rcases List.mem_cons.1 ((h x).1 (by simp)) with e | e
      · exact e
      · rcases List.mem_cons.1 ((h y).2 (by simp)) with e' | e'
        · exact e'.symm
        · exact absurd (rlt_trans (h1.1 y e') (h2.1 x e)) (rlt_irrefl x)
    subst e
    rw [srt_eq l m h1.2 h2.2 fun z => ?_]
    constructor
    · intro hz
      rcases List.mem_cons.1 ((h z).1 (List.mem_cons_of_mem _ hz)) with e | e
      · subst e; exact absurd (h1.1 z hz) (rlt_irrefl z)
      · exact e
    · intro hz
      rcases List.mem_cons.1 ((h z).2 (List.mem_cons_of_mem _ hz)) with e | e
      · subst e; exact absurd (h2.1 z hz) (rlt_irrefl z)
      · exact e
theorem srt_strict {rs : List Rg} (h : Srt rs) (n : rs.Nodup) : rs.Pairwise rlt :=
  (List.Pairwise.and h n).imp fun hx => rlt_conn hx.1 hx.2
/- Registers. -/
section
variable {W : World} {d : AD}
theorem reg_spec (a : d.At W) (c : Int) : ((regOf d c).2 = false → (regOf d c).1 = 0 ∧ ∀ i t, ¬ Has d c i t) ∧ ((regOf d c).2 = true → (∃ i, Has d c i (regOf d c).1) ∧ ∀ i t, Has d c i t → (regOf d c).1 ≤ t) := by
  by_cases hc : isCpu d c
  · obtain ⟨i, h, rfl, hi⟩ := cpu_at hc
    have E : regOf d (i : Int) = ((at' h.l 0).2, decide (0 < h.l.length)) := by
      unfold regOf; rw [if_pos (by omega), Int.toNat_natCast, hi]
    rw [E]
    constructor
    · intro e
      have h0 : h.l = [] := List.eq_nil_of_length_eq_zero (by simpa using e)
      refine ⟨by rw [h0]; rfl, fun j t hh => ?_⟩
      rw [has_at hi, h0] at hh; cases hh
    · intro e
      have h0 : 0 < h.l.length := by simpa using e
      exact ⟨⟨_, (has_at hi _ _).2 (at_mem h0)⟩, fun j t hh => le_key (a.each i h hi).heap ((has_at hi _ _).1 hh)⟩
  · have E : regOf d c = (0, false) := by
      unfold regOf
      split
      · rename_i h0
        rw [List.getElem?_eq_none (by have : ¬ c < (d.hs.length : Int) := fun h => hc ⟨h0, h⟩; omega)]
      · rfl
    rw [E]
    exact ⟨fun _ => ⟨rfl, fun i t hh => hc (has_cpu hh)⟩, fun e => by simp at e⟩
theorem next_spec (a : d.At W) : ∀ k : Nat, ((nextTo d k).2 = false → (nextTo d k).1 = 0 ∧ ∀ c i t, Has d c i t → (k : Int) ≤ c) ∧ ((nextTo d k).2 = true → (∃ c i, Has d c i (nextTo d k).1) ∧ ∀ c i t, Has d c i t → c < (k : Int) → (nextTo d k).1 ≤ t)
  | 0 => ⟨fun _ => ⟨rfl, fun c i t hh => hh.1⟩, fun e => by simp [nextTo] at e⟩
  | k + 1 => by
    obtain ⟨i1, i2⟩ := next_spec a k
    obtain ⟨r1, r2⟩ := reg_spec a (k : Int)
    rw [nextTo_succ]
    generalize nextTo d k = q at *
    generalize regOf d (k : Int) = r at *
    obtain ⟨q1, q2⟩ := q
    obtain ⟨r1', r2'⟩ := r
    have cs : ∀ c : Int, c < ((k + 1 : Nat) : Int) → c = (k : Int) ∨ c < (k : Int) := by intro c h; omega
    cases r2' with
    | false =>
      have e : nx (q1, q2) (r1', false) = (q1, q2) := by simp [nx]
      rw [e]
      obtain ⟨_, n1⟩ := r1 rfl
      constructor
      · intro h
        refine ⟨(i1 h).1, fun c i t hh => ?_⟩
        have := (i1 h).2 c i t hh
        have : c ≠ (k : Int) := by rintro rfl; exact n1 _ _ hh
        omega
      · intro h
        refine ⟨(i2 h).1, fun c i t hh hl => ?_⟩
        rcases cs c hl with rfl | hl
        · exact absurd hh (n1 _ _)
        · exact (i2 h).2 c i t hh hl
    | true =>
      obtain ⟨⟨j, m1⟩, m2⟩ := r2 rfl
      cases q2 with
      | false =>
        have e : nx (q1, false) (r1', true) = (r1', true) := by simp [nx]
        rw [e]
        refine ⟨fun h => by simp at h, fun _ => ⟨⟨_, j, m1⟩, fun c i t hh hl => ?_⟩⟩
        rcases cs c hl with rfl | hl
        · exact m2 i t hh
        · have := (i1 rfl).2 c i t hh; omega
      | true =>
        obtain ⟨⟨c0, j0, p1⟩, p2⟩ := i2 rfl
        by_cases hlt : r1' < q1
        · have e : nx (q1, true) (r1', true) = (r1', true) := by simp [nx, hlt]
          rw [e]
          refine ⟨fun h => by simp at h, fun _ => ⟨⟨_, j, m1⟩, fun c i t hh hl => ?_⟩⟩
          rcases cs c hl with rfl | hl
          · exact m2 i t hh
          · have := p2 c i t hh hl; simp at this ⊢; omega
        · have e : nx (q1, true) (r1', true) = (q1, true) := by simp [nx, hlt]
          rw [e]
          refine ⟨fun h => by simp at h, fun _ => ⟨⟨c0, j0, p1⟩, fun c i t hh hl => ?_⟩⟩
          rcases cs c hl with rfl | hl
          · have := m2 i t hh; simp at this ⊢; omega
          · exact p2 c i t hh hl
end
/- What is none of theirs. -/
def Oth (W : World) (k : Nat) : Prop := ∃ cs T f, W.heap[k]? = some (.cells cs T f) ∧ T ≠ 56 ∧ T ≠ 57 ∧ T ≠ 73 ∧ T ≠ 63
theorem Oth.lt {W : World} {k : Nat} (h : Oth W k) : k < W.heap.size := by
  obtain ⟨_, _, _, h, _⟩ := h; exact (Array.getElem?_eq_some_iff.1 h).1
theorem oth_off {W : World} {d : AD} (a : d.At W) {k : Nat} (h : Oth W k) : ¬ d.Foot k := by
  obtain ⟨cs, T, f, h, n1, n2, n3, n4⟩ := h
  rintro (rfl | rfl | ⟨x, hx, hk⟩)
  · rw [a.str] at h; injection h with h; injection h with _ h _; exact n1 h.symm
  · rw [a.row] at h; injection h with h; injection h with _ h _; exact n2 h.symm
  · obtain ⟨i, hi⟩ := List.getElem?_of_mem hx
    have q := (a.each i x hi).hp
    rcases hk with rfl | rfl | hk
    · rw [q.str] at h; injection h with h; injection h with _ h _; exact n3 h.symm
    · obtain ⟨es, c, e⟩ := q.map.isMap
      rw [e] at h; cases h
    · obtain ⟨_, cur, e⟩ := q.row.blk hk
      rw [e] at h; injection h with h; injection h with _ h _; exact n4 h.symm
/-- A call that leaves what is none of theirs. -/
def Kp (W W' : World) : Prop := ∀ k, Oth W k → W'.heap[k]? = W.heap[k]?
theorem Kp.refl (W : World) : Kp W W := fun _ _ => rfl
theorem Kp.below {W W' : World} (h : Below W.heap.size W W') : Kp W W' := fun k hk => h.block k hk.lt
theorem Kp.stp {W W' : World} {d : AD} {f : Nat → Prop} (a : d.At W) (h : Stp W W' d.Foot f) : Kp W W' := fun k hk => h.block k hk.lt (oth_off a hk)
theorem Stp.toBelow {W W' : World} {f f' : Nat → Prop} (s : Stp W W' f f') {B : Nat} (hB : B ≤ W.heap.size) (hf : ∀ k, f k → B ≤ k) : Below B W W' :=
  ⟨s.os, s.tape, s.output, s.size, fun k hk => s.block k (by omega) (fun e => by have := hf k e; omega)⟩
theorem Stp.past {W W' : World} {f f' : Nat → Prop} (s : Stp W W' f f') {B : Nat} (hB : B ≤ W.heap.size) (hf : ∀ k, f k → B ≤ k) : ∀ k, f' k → B ≤ k := fun k h => by
  rcases s.foot k h with e | e
  · exact hf k e
  · omega
/-- Alarms at ab, of n CPUs, at a tick; those that are armed. -/
def AL (W wr : World) (ab n : Nat) (now : Int) (L : List Rg) : Prop :=
  ∃ d : AD, d.At wr ∧ Below W.heap.size W wr ∧ (∀ k, d.Foot k → W.heap.size ≤ k) ∧ d.ab = ab ∧ d.hs.length = n ∧ d.now = now ∧ ∀ c i a, Has d c i a ↔ (c, i, a) ∈ L
section
variable {W wr w' : World} {ab n : Nat} {now : Int} {L L' L1 L2 : List Rg}
theorem AL.bel (a : AL W wr ab n now L) : Below W.heap.size W wr := by obtain ⟨d, _, h, _⟩ := a; exact h
theorem AL.kept (a : AL W wr ab n now L) (hB : Below W.heap.size wr w') (hk : ∀ k, k < wr.heap.size → ¬ Oth wr k → w'.heap[k]? = wr.heap[k]?) : AL W w' ab n now L := by
  obtain ⟨d, h1, h2, h3⟩ := a
  exact ⟨d, h1.kept fun k hl hf => hk k hl fun o => oth_off h1 o hf, h2.trans hB, h3⟩
theorem AL.more (a : AL W wr ab n now L) (hB : Below wr.heap.size wr w') : AL W w' ab n now L :=
  a.kept (hB.mono a.bel.size) fun k hk _ => hB.block k hk
theorem AL.did {R : Int → Int → Int → Prop} {d : AD} (h1 : d.At wr) (h2 : Below W.heap.size W wr) (h3 : ∀ k, d.Foot k → W.heap.size ≤ k) (h : Did wr d R w') (hL : ∀ c i t, R c i t ↔ (c, i, t) ∈ L') : Hid (AL W w' d.ab d.hs.length d.now L') ∧ Hid (Kp wr w') := by
  obtain ⟨d', a', s, e1, e2, e3, e4⟩ := h
  have hz := h2.size
  exact ⟨hide ⟨d', a', h2.trans (s.toBelow hz h3), s.past hz h3, e1, e3, e2, fun c i t => (e4 c i t).trans (hL c i t)⟩, hide (Kp.stp h1 s)⟩
theorem newL_ok (h1 : 1 ≤ n) (h2 : n ≤ 64) (hB : Below W.heap.size W wr) : Calls Try.prog 8 #[.int .i64 (n : Int)] wr fun e w' => ∃ ab, e = .returned (.tuple #[.pointer (some ⟨ab, 0, none⟩), .int .i64 0]) ∧ Hid (AL W w' ab n 0 []) ∧ Hid (Below wr.heap.size wr w') := by
  refine (newA_ok h1 h2 wr).mono ?_
  rintro e w' ⟨d, rfl, r⟩
  refine ⟨_, rfl, hide ⟨d, r.at', hB.trans (r.below.mono hB.size), fun k hk => Nat.le_trans hB.size (r.past k hk), rfl, r.len, r.now, fun c i t => ?_⟩, hide r.below⟩
  simp only [List.not_mem_nil, iff_false]
  exact r.none c i t
theorem armL_bad (a : AL W wr ab n now L) {c id t : Int} (hb : ¬ (0 ≤ c ∧ c < n ∧ 0 ≤ id ∧ id < 1024 ∧ now ≤ t ∧ t ≤ top2)) :
    Calls Try.prog 9 #[.pointer (some ⟨ab, 0, none⟩), .int .i64 c, .int .i64 id, .int .i64 t] wr fun e w' => e = .returned (.int .i64 1) ∧ w' = wr := by
  obtain ⟨d, h1, h2, h3, rfl, rfl, rfl, h4⟩ := a
  exact arm_bad h1 fun ⟨⟨k1, k2⟩, k3, k4, k5, k6⟩ => hb ⟨k1, k2, k3, k4, k5, k6⟩
theorem armL_ok (a : AL W wr ab n now L) {c id t : Int} (k1 : 0 ≤ c) (k2 : c < n) (k3 : 0 ≤ id) (k4 : id < 1024) (k5 : now ≤ t) (k6 : t ≤ top2) (hL : ∀ x : Rg, x ∈ L' ↔ x = (c, id, t) ∨ (¬ (x.1 = c ∧ x.2.1 = id) ∧ x ∈ L)) :
    Calls Try.prog 9 #[.pointer (some ⟨ab, 0, none⟩), .int .i64 c, .int .i64 id, .int .i64 t] wr fun e w' => e = .returned (.int .i64 0) ∧ Hid (AL W w' ab n now L') ∧ Hid (Kp wr w') := by
  obtain ⟨d, h1, h2, h3, rfl, rfl, rfl, h4⟩ := a
  refine (arm_ok h1 ⟨⟨k1, k2⟩, k3, k4, k5, k6⟩).mono ?_
  rintro e w' ⟨rfl, hD⟩
  refine ⟨rfl, AL.did h1 h2 h3 hD fun c' i' t' => ?_⟩
  rw [hL]
  unfold Arms
  rw [h4]
  simp only [Prod.mk.injEq]
theorem cancelL_no (a : AL W wr ab n now L) {c id : Int} (hid : in64 id) (hn : ∀ t, (c, id, t) ∉ L) :
    Calls Try.prog 13 #[.pointer (some ⟨ab, 0, none⟩), .int .i64 c, .int .i64 id] wr fun e w' => e = .returned (.bool false) ∧ w' = wr := by
  obtain ⟨d, h1, h2, h3, rfl, rfl, rfl, h4⟩ := a
  exact cancel_no h1 hid fun t hh => hn t ((h4 _ _ _).1 hh)
theorem AL.fit (a : AL W wr ab n now L) {c id t : Int} (hm : (c, id, t) ∈ L) : 0 ≤ c ∧ c < n ∧ 0 ≤ id ∧ id < 1024 ∧ 0 ≤ t ∧ t ≤ top2 := by
  obtain ⟨d, h1, h2, h3, rfl, rfl, rfl, h4⟩ := a
  have hh := (h4 _ _ _).2 hm
  have hc := has_cpu hh
  obtain ⟨i, h, rfl, hi⟩ := cpu_at hc
  obtain ⟨f1, f2, f3, f4⟩ := h1.fit h (List.mem_of_getElem? hi) _ ((has_at hi _ _).1 hh)
  exact ⟨hc.1, hc.2, f1, f2, f3, f4⟩
theorem cancelL_yes (a : AL W wr ab n now L) {c id t : Int} (hm : (c, id, t) ∈ L) (hL : ∀ x : Rg, x ∈ L' ↔ ¬ (x.1 = c ∧ x.2.1 = id) ∧ x ∈ L) :
    Calls Try.prog 13 #[.pointer (some ⟨ab, 0, none⟩), .int .i64 c, .int .i64 id] wr fun e w' => e = .returned (.bool true) ∧ Hid (AL W w' ab n now L') ∧ Hid (Kp wr w') := by
  have hf := a.fit hm
  obtain ⟨d, h1, h2, h3, rfl, rfl, rfl, h4⟩ := a
  refine (cancel_yes h1 (in64_id hf.2.2.1 hf.2.2.2.1) ((h4 _ _ _).2 hm)).mono ?_
  rintro e w' ⟨rfl, hD⟩
  refine ⟨rfl, AL.did h1 h2 h3 hD fun c' i' t' => ?_⟩
  rw [hL]
  unfold Drops
  rw [h4]
theorem moveL_bad (a : AL W wr ab n now L) {c to id : Int} (hb : ¬ (0 ≤ c ∧ c < n ∧ 0 ≤ to ∧ to < n)) :
    Calls Try.prog 10 #[.pointer (some ⟨ab, 0, none⟩), .int .i64 c, .int .i64 to, .int .i64 id] wr fun e w' => e = .returned (.int .i64 1) ∧ w' = wr := by
  obtain ⟨d, h1, h2, h3, rfl, rfl, rfl, h4⟩ := a
  exact move_bad h1 fun ⟨⟨k1, k2⟩, k3, k4⟩ => hb ⟨k1, k2, k3, k4⟩
theorem moveL_none (a : AL W wr ab n now L) {c to id : Int} (hid : in64 id) (k1 : 0 ≤ c) (k2 : c < n) (k3 : 0 ≤ to) (k4 : to < n) (hn : ∀ t, (c, id, t) ∉ L) :
    Calls Try.prog 10 #[.pointer (some ⟨ab, 0, none⟩), .int .i64 c, .int .i64 to, .int .i64 id] wr fun e w' => e = .returned (.int .i64 4) ∧ w' = wr := by
  obtain ⟨d, h1, h2, h3, rfl, rfl, rfl, h4⟩ := a
  exact move_none h1 hid ⟨k1, k2⟩ ⟨k3, k4⟩ fun t hh => hn t ((h4 _ _ _).1 hh)
theorem moveL_ok (a : AL W wr ab n now L) {c to id t : Int} (k3 : 0 ≤ to) (k4 : to < n) (hm : (c, id, t) ∈ L) (hL : ∀ x : Rg, x ∈ L' ↔ x = (to, id, t) ∨ (¬ (x.1 = to ∧ x.2.1 = id) ∧ ¬ (x.1 = c ∧ x.2.1 = id) ∧ x ∈ L)) :
    Calls Try.prog 10 #[.pointer (some ⟨ab, 0, none⟩), .int .i64 c, .int .i64 to, .int .i64 id] wr fun e w' => e = .returned (.int .i64 0) ∧ Hid (AL W w' ab n now L') ∧ Hid (Kp wr w') := by
  obtain ⟨d, h1, h2, h3, rfl, rfl, rfl, h4⟩ := a
  refine (move_ok h1 ⟨k3, k4⟩ ((h4 _ _ _).2 hm)).mono ?_
  rintro e w' ⟨rfl, hD⟩
  refine ⟨rfl, AL.did h1 h2 h3 hD fun c' i' t' => ?_⟩
  rw [hL]
  unfold Moves
  rw [h4]
  simp only [Prod.mk.injEq]
/-- What a register tells of a list. -/
def IsReg (L : List Rg) (c : Int) (x : Int) (b : Bool) : Prop := (b = false → x = 0 ∧ ∀ i t, (c, i, t) ∉ L) ∧ (b = true → (∃ i, (c, i, x) ∈ L) ∧ ∀ i t, (c, i, t) ∈ L → x ≤ t)
theorem IsReg.uniq {c x y : Int} {b b' : Bool} (h : IsReg L c x b) (k : IsReg L c y b') : x = y ∧ b = b' := by
  cases b <;> cases b'
  · exact ⟨(h.1 rfl).1.trans (k.1 rfl).1.symm, rfl⟩
  · obtain ⟨i, e⟩ := (k.2 rfl).1; exact absurd e ((h.1 rfl).2 i y)
  · obtain ⟨i, e⟩ := (h.2 rfl).1; exact absurd e ((k.1 rfl).2 i x)
  · obtain ⟨⟨i, e⟩, m⟩ := h.2 rfl
    obtain ⟨⟨j, f⟩, m'⟩ := k.2 rfl
    have := m _ _ f
    have := m' _ _ e
    exact ⟨by omega, rfl⟩
theorem regL (a : AL W wr ab n now L) {c x : Int} {b : Bool} (hr : IsReg L c x b) :
    Calls Try.prog 11 #[.pointer (some ⟨ab, 0, none⟩), .int .i64 c] wr fun e w' => e = .returned (.tuple #[.int .i64 x, .bool b]) ∧ Hid (AL W w' ab n now L) ∧ Hid (Below wr.heap.size wr w') := by
  have a0 := a
  obtain ⟨d, h1, h2, h3, rfl, rfl, rfl, h4⟩ := a
  have hs := reg_spec h1 c
  simp only [h4] at hs
  obtain ⟨e1, e2⟩ := IsReg.uniq hs hr
  refine (register_any h1 c).mono ?_
  rintro e w' ⟨rfl, hB⟩
  rw [e1, e2]
  exact ⟨rfl, hide (a0.more hB), hide hB⟩
def IsNext (L : List Rg) (x : Int) (b : Bool) : Prop := (b = false → x = 0 ∧ L = []) ∧ (b = true → (∃ c i, (c, i, x) ∈ L) ∧ ∀ c i t, (c, i, t) ∈ L → x ≤ t)
theorem IsNext.uniq {x y : Int} {b b' : Bool} (h : IsNext L x b) (k : IsNext L y b') : x = y ∧ b = b' := by
  cases b <;> cases b'
  · exact ⟨(h.1 rfl).1.trans (k.1 rfl).1.symm, rfl⟩
  · obtain ⟨c, i, e⟩ := (k.2 rfl).1; rw [(h.1 rfl).2] at e; cases e
  · obtain ⟨c, i, e⟩ := (h.2 rfl).1; rw [(k.1 rfl).2] at e; cases e
  · obtain ⟨⟨c, i, e⟩, m⟩ := h.2 rfl
    obtain ⟨⟨c', j, f⟩, m'⟩ := k.2 rfl
    have := m _ _ _ f
    have := m' _ _ _ e
    exact ⟨by omega, rfl⟩
theorem nextL (a : AL W wr ab n now L) {x : Int} {b : Bool} (hr : IsNext L x b) :
    Calls Try.prog 12 #[.pointer (some ⟨ab, 0, none⟩)] wr fun e w' => e = .returned (.tuple #[.int .i64 x, .bool b]) ∧ Hid (AL W w' ab n now L) ∧ Hid (Below wr.heap.size wr w') := by
  have a0 := a
  have fit := fun c i t => a.fit (c := c) (id := i) (t := t)
  obtain ⟨d, h1, h2, h3, rfl, rfl, rfl, h4⟩ := a
  have hs := next_spec h1 d.hs.length
  simp only [h4] at hs
  have hs' : IsNext L (nextTo d d.hs.length).1 (nextTo d d.hs.length).2 := by
    refine ⟨fun e => ⟨(hs.1 e).1, ?_⟩, fun e => ⟨(hs.2 e).1, fun c i t hm => (hs.2 e).2 c i t hm (fit c i t hm).2.1⟩⟩
    apply List.eq_nil_iff_forall_not_mem.2
    rintro ⟨c, i, t⟩ hm
    have := (hs.1 e).2 c i t hm
    have := (fit c i t hm).2.1
    omega
  obtain ⟨e1, e2⟩ := hs'.uniq hr
  refine (next_any h1).mono ?_
  rintro e w' ⟨rfl, hB⟩
  rw [e1, e2]
  exact ⟨rfl, hide (a0.more hB), hide hB⟩
theorem nowL (a : AL W wr ab n now L) : Calls Try.prog 21 #[.pointer (some ⟨ab, 0, none⟩)] wr fun e w' => e = .returned (.int .i64 now) ∧ w' = wr := by
  obtain ⟨d, h1, h2, h3, rfl, rfl, rfl, h4⟩ := a
  exact now_any h1
theorem toL_bad (a : AL W wr ab n now L) {t : Int} (hb : ¬ (now ≤ t ∧ t ≤ top2)) : Calls Try.prog 14 #[.pointer (some ⟨ab, 0, none⟩), .int .i64 t] wr fun e w' => e = .returned (.tuple #[.slice none 0 0, .int .i64 1]) ∧ w' = wr := by
  obtain ⟨d, h1, h2, h3, rfl, rfl, rfl, h4⟩ := a
  exact to_bad h1 hb
/-- The row that To hands back: of the call's own, none of the alarms'. -/
def ToL (wr w' : World) (v : Value) (L1 : List Rg) : Prop := RRow wr.heap.size w' v L1 ∧ Kp wr w'
theorem toL_ok (a : AL W wr ab n now L) {t : Int} (k1 : now ≤ t) (k2 : t ≤ top2) (s1 : L1.Pairwise rlt) (m1 : ∀ x : Rg, x ∈ L1 ↔ x ∈ L ∧ x.2.2 ≤ t) (m2 : ∀ x : Rg, x ∈ L2 ↔ x ∈ L ∧ t < x.2.2) :
    Calls Try.prog 14 #[.pointer (some ⟨ab, 0, none⟩), .int .i64 t] wr fun e w' => ∃ v, e = .returned (.tuple #[v, .int .i64 0]) ∧ Hid (AL W w' ab n t L2) ∧ Hid (ToL wr w' v L1) := by
  obtain ⟨d, h1, h2, h3, rfl, rfl, rfl, h4⟩ := a
  refine (to_ok h1 ⟨k1, k2⟩).mono ?_
  rintro e w' ⟨v, d', rs, rfl, r⟩
  have hz := h2.size
  have E : rs = L1 := srt_eq _ _ (srt_strict r.srt r.nodup) s1 fun x => by rw [r.rung, m1]; rw [h4]
  subst E
  refine ⟨v, rfl, hide ⟨d', r.at', h2.trans (r.stp.toBelow hz h3), fun k hk => r.stp.past hz h3 k (.inl hk), r.ab, r.len, r.now, fun c i u => ?_⟩, hide ⟨r.row, Kp.stp h1 r.stp⟩⟩
  rw [r.has, m2, h4]
end
end Go.Proofs.Ytmdendffbjhdbaa.Con
