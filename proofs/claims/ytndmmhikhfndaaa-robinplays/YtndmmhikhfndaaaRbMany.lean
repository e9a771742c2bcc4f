/- RobinMany: so many times, and then so many, are both together. -/
import Derived.Test.YtndmmhikhfndaaaRbFair
namespace Go.Proofs.Ytndmmhikhfndaaa.Rb
open Go.RowKit Go.Proofs.Ytndmmhikhfndaaa.Con Go.Proofs.Ytndmmhikhfndaaa.Fp
set_option linter.unusedVariables false
set_option linter.unusedSimpArgs false
attribute [local go_sem ↓] Go.wp_at_zero Go.wp_at_succ
/-- Many, whose slices are new ones. -/
def ManyF (I : RbI) : Prop := ∀ (W : World) (b : Nat) (s : Rs) (F : Nat → Prop) (n t : Int), I W b s F → Gd s → Calls Try.prog 11 #[ptr b, .int .i64 n, .int .i64 t] W fun e w' => ∃ v u F', e = .returned (.tuple #[v, u]) ∧ Hid (I w' b (manyS s n t) F' ∧ Tn W w' F F' ∧ Sf w' F' v (manyC s n t) ∧ Sf w' F' u (manyS s n t).l ∧ (∀ k, v.ownBlock = some k → 0 < s.l.length → W.heap.size ≤ k) ∧ (∀ k, u.ownBlock = some k → 0 < s.l.length → W.heap.size ≤ k))
theorem manyC_of {I : RbI} (h : ManyF I) : ManyC I := fun W b s F n t hI hg => (h W b s F n t hI hg).mono fun e w' ⟨v, u, F', e1, h1, h2, h3, h4, _⟩ => ⟨v, u, F', e1, h1, h2, h3, h4⟩
def Un (F G : Nat → Prop) : Nat → Prop := fun k => F k ∨ G k
section
variable {w w' : World} {F F' G G' : Nat → Prop} {v : Value} {l : List Int}
theorem tn_l (h : Tn w w' F F') (G : Nat → Prop) : Tn w w' (Un F G) (Un F' G) :=
  ⟨h.size, h.os, h.tape, h.output, fun k hk hn => h.keep k hk (fun e => hn (.inl e)), fun k hk => by
    rcases hk with e | e
    · rcases h.new k e with e | e
      · exact .inl (.inl e)
      · exact .inr e
    · exact .inl (.inr e)⟩
theorem tn_r (h : Tn w w' G G') (F : Nat → Prop) : Tn w w' (Un F G) (Un F G') :=
  ⟨h.size, h.os, h.tape, h.output, fun k hk hn => h.keep k hk (fun e => hn (.inr e)), fun k hk => by
    rcases hk with e | e
    · exact .inl (.inl e)
    · rcases h.new k e with e | e
      · exact .inl (.inr e)
      · exact .inr e⟩
theorem Sf.form (h : Sf w F v l) {m : Nat} (hl : l.length = m) (h0 : 0 < m) : ∃ b o c, v = .slice (some ⟨b, o, none⟩) m c := by
  subst hl
  obtain ⟨p, c, rfl, _, _⟩ := h.is.form
  obtain ⟨b, o, rfl, _, _⟩ := h.is.at h0
  exact ⟨b, o, c, rfl⟩
end
theorem Is.cells {w : World} {b o n c : Nat} {l : List Int} (h : Is w (.slice (some ⟨b, o, none⟩) n c) l) {w' : World} (hB : Nx w w') {k : Nat} (hk : k < l.length) : w'.cell? ⟨b, o + k, none⟩ = some (.int .i64 (l.getD k 0)) := by
  obtain ⟨b', o', e, _, hc⟩ := (h.below hB).at hk
  simp only [Option.some.injEq, Addr.mk.injEq, and_true] at e
  obtain ⟨rfl, rfl⟩ := e
  exact hc
/-- Two robins, apart. -/
structure Two (I : RbI) (W w : World) (b : Nat) (s : Rs) (F : Nat → Prop) (c : Nat) (t : Rs) (G : Nat → Prop) : Prop where
  one : At I W w b s F
  two : At I W w c t G
  ap : ∀ k, F k → ¬ G k
section
variable {I : RbI} {W w w' : World} {b c : Nat} {s s' t t' : Rs} {F F' G G' : Nat → Prop}
theorem Two.left (K : Rk I) (h : Two I W w b s F c t G) (hA : At I W w' b s' F') (hT : Tn w w' F F') : Two I W w' b s' F' c t G := by
  obtain ⟨h1, h2⟩ := At.beside K (c := b) (t := s) h.two (fun k hg hf => h.ap k hf hg) h.one.past hT
  exact ⟨hA, h1, fun k hf hg => h2 k hg hf⟩
theorem Two.right (K : Rk I) (h : Two I W w b s F c t G) (hA : At I W w' c t' G') (hT : Tn w w' G G') : Two I W w' b s F c t' G' := by
  obtain ⟨h1, h2⟩ := At.beside K (c := c) (t := t) h.one h.ap h.two.past hT
  exact ⟨h1, hA, h2⟩
theorem two_add_l (K : Rk I) (h : Two I W w b s F c t G) (id : Int) (h1 : addE s id = 0) (h2 : addS s id = s') : Calls Try.prog 9 #[ptr b, .int .i64 id] w fun e w' => ∃ F', e = .returned (.int .i64 0) ∧ Hid (Two I W w' b s' F' c t G) :=
  (at_add' K h.one id h1 h2).mono fun e w' ⟨F', e1, h3, h4⟩ => ⟨F', e1, h.left K h3 h4⟩
theorem two_add_r (K : Rk I) (h : Two I W w b s F c t G) (id : Int) (h1 : addE t id = 0) (h2 : addS t id = t') : Calls Try.prog 9 #[ptr c, .int .i64 id] w fun e w' => ∃ G', e = .returned (.int .i64 0) ∧ Hid (Two I W w' b s F c t' G') :=
  (at_add' K h.two id h1 h2).mono fun e w' ⟨F', e1, h3, h4⟩ => ⟨F', e1, h.right K h3 h4⟩
theorem at_manyF (hM : ManyF I) (h : At I W w b s F) (n q : Int) : Calls Try.prog 11 #[ptr b, .int .i64 n, .int .i64 q] w fun e w' => ∃ v u F', e = .returned (.tuple #[v, u]) ∧ At I W w' b (manyS s n q) F' ∧ Tn w w' F F' ∧ Sf w' F' v (manyC s n q) ∧ Sf w' F' u (manyS s n q).l ∧ (∀ k, v.ownBlock = some k → 0 < s.l.length → w.heap.size ≤ k) ∧ (∀ k, u.ownBlock = some k → 0 < s.l.length → w.heap.size ≤ k) :=
  (hM w b s F n q h.it h.gd).mono fun e w' ⟨v, u, F', e1, h1, h2, h3, h4, h5, h6⟩ => ⟨v, u, F', e1, h.turn h1 h2 (gd_many h.gd n q), h2, h3, h4, h5, h6⟩
theorem two_many_l (K : Rk I) (hM : ManyF I) (h : Two I W w b s F c t G) (n q : Int) : Calls Try.prog 11 #[ptr b, .int .i64 n, .int .i64 q] w fun e w' => ∃ v u F', e = .returned (.tuple #[v, u]) ∧ Hid (Two I W w' b (manyS s n q) F' c t G) ∧ Tn w w' (Un F G) (Un F' G) ∧ Hid (Sf w' (Un F' G) v (manyC s n q)) ∧ Hid (Sf w' (Un F' G) u (manyS s n q).l) :=
  (at_manyF hM h.one n q).mono fun e w' ⟨v, u, F', e1, h1, h2, h3, h4, h5, h6⟩ => ⟨v, u, F', e1, h.left K h1 h2, tn_l h2 G,
    ⟨h3.1, fun k hk h0 hu => hu.elim (h3.2 k hk h0) (fun hg => by have := K.kept.lt h.two.it k hg; have := h5 k hk (by rwa [many_len] at h0); omega)⟩,
    ⟨h4.1, fun k hk h0 hu => hu.elim (h4.2 k hk h0) (fun hg => by have := K.kept.lt h.two.it k hg; have := h6 k hk (by rwa [many_ord_len] at h0); omega)⟩⟩
theorem two_many_r (K : Rk I) (hM : ManyF I) (h : Two I W w b s F c t G) (n q : Int) : Calls Try.prog 11 #[ptr c, .int .i64 n, .int .i64 q] w fun e w' => ∃ v u G', e = .returned (.tuple #[v, u]) ∧ Hid (Two I W w' b s F c (manyS t n q) G') ∧ Tn w w' (Un F G) (Un F G') ∧ Hid (Sf w' (Un F G') v (manyC t n q)) ∧ Hid (Sf w' (Un F G') u (manyS t n q).l) :=
  (at_manyF hM h.two n q).mono fun e w' ⟨v, u, G', e1, h1, h2, h3, h4, h5, h6⟩ => ⟨v, u, G', e1, h.right K h1 h2, tn_r h2 F,
    ⟨h3.1, fun k hk h0 hu => hu.elim (fun hg => by have := K.kept.lt h.one.it k hg; have := h5 k hk (by rwa [many_len] at h0); omega) (h3.2 k hk h0)⟩,
    ⟨h4.1, fun k hk h0 hu => hu.elim (fun hg => by have := K.kept.lt h.one.it k hg; have := h6 k hk (by rwa [many_ord_len] at h0); omega) (h4.2 k hk h0)⟩⟩
end
/-- Where i stands, of the first j of an order that was turned Q times. -/
def fnd (m Q i : Nat) : Nat → Int
  | 0 => -1
  | j + 1 => if (Q + j) % m = i then (j : Int) else fnd m Q i j
theorem fnd_at {m Q i : Nat} : ∀ j, ((∀ k, k < j → (Q + k) % m ≠ i) ∧ fnd m Q i j = -1) ∨ ∃ k, k < j ∧ (Q + k) % m = i ∧ fnd m Q i j = (k : Int) := by
  intro j
  induction j with
  | zero => exact .inl ⟨fun k hk => by omega, rfl⟩
  | succ j ih =>
    by_cases h : (Q + j) % m = i
    · exact .inr ⟨j, by omega, h, by unfold fnd; rw [if_pos h]⟩
    · rcases ih with ⟨h1, h2⟩ | ⟨k, h1, h2, h3⟩
      · refine .inl ⟨fun k hk => ?_, by unfold fnd; rw [if_neg h, h2]⟩
        by_cases e : k = j
        · rw [e]; exact h
        · exact h1 k (by omega)
      · exact .inr ⟨k, by omega, h2, by unfold fnd; rw [if_neg h, h3]⟩
theorem fnd_end {m Q i : Nat} (hi : i < m) : ∃ k, k < m ∧ (Q + k) % m = i ∧ fnd m Q i m = (k : Int) := by
  rcases fnd_at (m := m) (Q := Q) (i := i) m with ⟨h1, _⟩ | h
  · exfalso
    have hr : Q % m < m := Nat.mod_lt _ (by omega)
    refine h1 ((i + (m - Q % m)) % m) (Nat.mod_lt _ (by omega)) ?_
    have hQ := Nat.div_add_mod Q m
    rw [Nat.add_mod_mod, show Q + (i + (m - Q % m)) = m * (Q / m) + (i + m) by omega, Nat.mul_add_mod, Nat.add_mod_right, Nat.mod_eq_of_lt hi]
  · exact h
theorem rot_upto {m Q k : Nat} (h : k < m) : (rot (upto m) Q).getD k 0 = (((Q + k) % m : Nat) : Int) := by
  rw [List.getD_eq_getElem?_getD, rot_get _ _ _ (by rw [upto_len]; exact h), upto_len, upto_get (Nat.mod_lt _ (by omega))]; rfl
theorem ints_eq {W : World} {va vb : Value} {a b : List Int} (ha : Is W va a) (hb : Is W vb b) (he : a = b) : Calls Try.prog 13 #[va, vb] W fun e w' => e = .returned (.bool true) ∧ Nx W w' :=
  (ints_any ha hb).mono fun e w' ⟨e1, h⟩ => ⟨by rw [e1, decide_eq_true he], h⟩
/-- What a, b, both together come to. -/
theorem many_all {m : Nat} (hm : m ≤ 50) (n a b : Int) (ha : 0 ≤ a) (ha2 : a ≤ 549755813888) (hb : 0 ≤ b) (hb2 : b ≤ 549755813888) : ∃ A B : Nat, A ≤ 30000000000000 ∧ B ≤ 30000000000000 ∧
    Ct m A (manyC ⟨60, upto m⟩ n a) ∧ (manyS ⟨60, upto m⟩ n a).l = rot (upto m) A ∧
    Ct m B (manyC (manyS ⟨60, upto m⟩ n a) n b) ∧ Ct m (A + B) (manyC ⟨60, upto m⟩ n (a + b)) ∧
    (manyS (manyS ⟨60, upto m⟩ n a) n b).l = (manyS ⟨60, upto m⟩ n (a + b)).l ∧ (manyS ⟨60, upto m⟩ n (a + b)).l.length = m := by
  have hL := upto_len m
  have hc : ∀ k, clN ⟨60, rot (upto m) k⟩ n = clN ⟨60, upto m⟩ n := fun k => by
    unfold clN; show (min (max n 0) ((rot (upto m) k).length : Int)).toNat = (min (max n 0) ((upto m).length : Int)).toNat; rw [rot_len]
  have hN : clN ⟨60, upto m⟩ n ≤ 50 := Nat.le_trans (clN_le _ _) (by show (upto m).length ≤ 50; omega)
  have hA : clT a ≤ 549755813888 := by unfold clT; omega
  have hB : clT b ≤ 549755813888 := by unfold clT; omega
  have hAB : clT (a + b) = clT a + clT b := by unfold clT; omega
  refine ⟨clN ⟨60, upto m⟩ n * clT a, clN ⟨60, upto m⟩ n * clT b, ?_, ?_, ct_many hL n a, rfl, ?_, ?_, ?_, ?_⟩
  · exact Nat.le_trans (Nat.mul_le_mul hN hA) (by decide)
  · exact Nat.le_trans (Nat.mul_le_mul hN hB) (by decide)
  · have := ct_many (s := manyS ⟨60, upto m⟩ n a) (m := m) ((many_ord_len _ _ _).trans hL) n b
    unfold manyS at this ⊢
    rw [hc] at this
    exact this
  · have := ct_many (s := ⟨60, upto m⟩) hL n (a + b)
    rw [hAB, Nat.mul_add] at this
    exact this
  · unfold manyS
    rw [hc, hAB, Nat.mul_add]
    exact rot_rot _ _ _
  · rw [many_ord_len]; exact hL
set_option maxHeartbeats 16000000 in
set_option maxRecDepth 100000 in
theorem many_walk {I : RbI} (hA : Hid AwakeC) (K : Rk I) (hM : Hid (ManyF I)) (many n a b : Int) (W : World) :
    Calls Try.prog 6 #[.int .i64 many, .int .i64 n, .int .i64 a, .int .i64 b] W fun e w' => e = .returned (.bool true) ∧ Nx W w' := by
  go_enter Try.func6, Try.ntmps6
  go_wp2_with fail
  refine (hA.out _).mono ?_
  rintro ee w0 ⟨rfl, hb⟩
  have N := hide hb
  clear hb hA
  by_cases c1 : many < 1
  · have d1 : decide (many < 1) = true := decide_eq_true c1
    go_wp2
    go_ret
    exact ⟨rfl, N.out⟩
  have d1 : decide (many < 1) = false := decide_eq_false c1
  by_cases c2 : 50 < many
  · have d2 : decide (50 < many) = true := decide_eq_true c2
    go_wp2
    go_ret
    exact ⟨rfl, N.out⟩
  have d2 : decide (50 < many) = false := decide_eq_false c2
  by_cases c3 : a < 0
  · have d3 : decide (a < 0) = true := decide_eq_true c3
    go_wp2
    go_ret
    exact ⟨rfl, N.out⟩
  have d3 : decide (a < 0) = false := decide_eq_false c3
  by_cases c4 : b < 0
  · have d4 : decide (b < 0) = true := decide_eq_true c4
    go_wp2
    go_ret
    exact ⟨rfl, N.out⟩
  have d4 : decide (b < 0) = false := decide_eq_false c4
  by_cases c5 : 549755813888 < a
  · have d5 : decide (549755813888 < a) = true := decide_eq_true c5
    go_wp2
    go_ret
    exact ⟨rfl, N.out⟩
  have d5 : decide (549755813888 < a) = false := decide_eq_false c5
  by_cases c6 : 549755813888 < b
  · have d6 : decide (549755813888 < b) = true := decide_eq_true c6
    go_wp2
    go_ret
    exact ⟨rfl, N.out⟩
  have d6 : decide (549755813888 < b) = false := decide_eq_false c6
  obtain ⟨m, rfl⟩ : ∃ m : Nat, many = m := ⟨many.toNat, by omega⟩
  have hm1 : 1 ≤ m := by omega
  have hm2 : m ≤ 50 := by omega
  have hab : Hid (0 ≤ a ∧ a ≤ 549755813888 ∧ 0 ≤ b ∧ b ≤ 549755813888) := hide ⟨by omega, by omega, by omega, by omega⟩
  clear c3 c4 c5 c6
  go_wp2_with fail
  refine (at_new' K N.out 60 (s' := ⟨60, upto 0⟩) (Rs.ext' (by decide +kernel) (by decide +kernel))).mono ?_
  rintro ee w1 ⟨x, F, rfl, hA, -, hb⟩
  have A := hide hA.out
  clear hA hb N
  go_wp2_with fail
  refine (at_new' K A.out.nx 60 (s' := ⟨60, upto 0⟩) (Rs.ext' (by decide +kernel) (by decide +kernel))).mono ?_
  rintro ee w2 ⟨y, G, rfl, hB, hg, hb⟩
  have T : Hid (Two I W w2 x ⟨60, upto 0⟩ F y ⟨60, upto 0⟩ G) := hide ⟨A.out.on K hb, hB.out, fun k hf hk => by have := hg k hk; have := K.kept.lt A.out.it k hf; omega⟩
  clear A hB hg hb
  go_wp2
  go_loopw [11] (fun i wr => ∃ k : Nat, k ≤ m ∧ i = .int .i64 (k : Int) ∧ ∃ F G, Hid (Two I W wr x ⟨60, upto k⟩ F y ⟨60, upto k⟩ G)) (fun i _ => m - (intOf i).toNat)
  case atStart => exact ⟨0, by omega, rfl, _, _, T⟩
  case round =>
    clear T
    obtain ⟨k, hk, rfl, F, G, T⟩ := hrel
    by_cases hkn : k < m
    · have hk1 : (k : Int) < (m : Int) := by omega
      go_wp2_with fail
      refine (two_add_l K T.out (k : Int) (upto_e (by omega)) (upto_s (by omega))).mono ?_
      rintro ee w3 ⟨F2, rfl, hT⟩
      clear T
      have T := hide hT.out
      clear hT
      go_wp2_with fail
      refine (two_add_r K T.out (k : Int) (upto_e (by omega)) (upto_s (by omega))).mono ?_
      rintro ee w4 ⟨G2, rfl, hT⟩
      clear T
      have T := hide hT.out
      clear hT
      go_wp2
      go_round
      case rel => exact ⟨k + 1, by omega, by go_num, _, _, T⟩
      case measure => simp [intOf]; omega
    · obtain rfl : k = m := by omega
      clear hk hkn
      obtain ⟨QA, QB, hQA, hQB, hC, hO, hD, hE, hPQ, hQl⟩ := many_all hm2 n a b hab.out.1 hab.out.2.1 hab.out.2.2.1 hab.out.2.2.2
      have hsum : a + b ≤ 1099511627776 := by have := hab.out; omega
      have hsum0 : 0 ≤ a + b := by have := hab.out; omega
      have ha0 : 0 ≤ a := hab.out.1
      have hb0 : 0 ≤ b := hab.out.2.2.1
      go_wp2_with fail
      refine (two_many_l K hM.out T.out n a).mono ?_
      rintro ee w3 ⟨vc, vo, F3, rfl, hT, -, hc, ho⟩
      clear T
      have T := hide hT.out
      have SC := hide hc.out
      have SO := hide ho.out
      rw [hO] at SO
      clear hT hc ho
      generalize manyC ⟨60, upto k⟩ n a = LC at *
      generalize manyS ⟨60, upto k⟩ n a = S1 at *
      obtain ⟨bc, oc, cc, rfl⟩ := SC.out.form hC.1 hm1
      obtain ⟨bo, oo, co, rfl⟩ := SO.out.form (by rw [rot_len, upto_len]) hm1
      go_wp2_with fail
      refine (two_many_l K hM.out T.out n b).mono ?_
      rintro ee w4 ⟨vd, vp, F4, rfl, hT, hn, hd, hp⟩
      have SC2 := hide (SC.out.tn hn)
      have SO2 := hide (SO.out.tn hn)
      clear T SC SO
      have T := hide hT.out
      have SD := hide hd.out
      have SP := hide hp.out
      rw [hPQ] at SP
      clear hT hd hp hn hPQ hO
      generalize manyC S1 n b = LD at *
      generalize manyS S1 n b = S2 at *
      obtain ⟨bd, od, cd, rfl⟩ := SD.out.form hD.1 hm1
      obtain ⟨bp, op, cp, rfl⟩ := SP.out.form hQl hm1
      go_wp2_with fail
      refine (two_many_r K hM.out T.out n (a + b)).mono ?_
      rintro ee w5 ⟨ve, vq, G5, rfl, hT, hn, he, hq⟩
      have SC := hide (SC2.out.tn hn)
      have SO := hide (SO2.out.tn hn)
      have SD2 := hide (SD.out.tn hn)
      have SP2 := hide (SP.out.tn hn)
      clear T SC2 SO2 SD SP
      have NX := hide hT.out.one.nx
      have SE := hide he.out
      have SQ := hide hq.out
      clear hT he hq hn
      generalize manyC ⟨60, upto k⟩ n (a + b) = LE at *
      generalize (manyS ⟨60, upto k⟩ n (a + b)).l = LQ at *
      obtain ⟨be, oe, ce, rfl⟩ := SE.out.form hE.1 hm1
      obtain ⟨bq, oq, cq, rfl⟩ := SQ.out.form hQl hm1
      clear hQl
      go_wp2_with fail
      refine (ints_eq SP2.out.is SQ.out.is rfl).mono ?_
      rintro ee w6 ⟨rfl, hb⟩
      have N6 := hide hb
      have NW := hide (Nx.trans NX.out hb)
      have XC := hide (fun (wr : World) (hN : Nx w6 wr) (i : Nat) (hi : i < k) => show wr.cell? ⟨bc, oc + i, none⟩ = some (.int .i64 (cnt k QA i : Int)) from ((SC.out.is.cells (Nx.trans N6.out hN) (by rw [hC.1]; exact hi)).trans (by rw [hC.2 i hi])))
      have XD := hide (fun (wr : World) (hN : Nx w6 wr) (i : Nat) (hi : i < k) => show wr.cell? ⟨bd, od + i, none⟩ = some (.int .i64 (cnt k QB i : Int)) from ((SD2.out.is.cells (Nx.trans N6.out hN) (by rw [hD.1]; exact hi)).trans (by rw [hD.2 i hi])))
      have XE := hide (fun (wr : World) (hN : Nx w6 wr) (i : Nat) (hi : i < k) => show wr.cell? ⟨be, oe + i, none⟩ = some (.int .i64 (cnt k (QA + QB) i : Int)) from ((SE.out.is.cells (Nx.trans N6.out hN) (by rw [hE.1]; exact hi)).trans (by rw [hE.2 i hi])))
      have XO := hide (fun (wr : World) (hN : Nx w6 wr) (i : Nat) (hi : i < k) => show wr.cell? ⟨bo, oo + i, none⟩ = some (.int .i64 (((QA + i) % k : Nat) : Int)) from ((SO.out.is.cells (Nx.trans N6.out hN) (by rw [rot_len, upto_len]; exact hi)).trans (by rw [rot_upto hi])))
      clear hb NX SC SO SD2 SE SP2 SQ hC hD hE N6
      have HQ := hide hQA
      have HQ2 := hide hQB
      clear hQA hQB hab hsum hsum0 ha0 hb0
      go_wp2
      go_loopw [18, 19, 20] (fun i kk jj wr => ∃ q : Nat, q ≤ k ∧ i = .int .i64 (q : Int) ∧ Hid (Nx w6 wr)) (fun i _ _ _ => k - (intOf i).toNat)
      case atStart => exact ⟨0, by omega, rfl, hide (Nx.refl _)⟩
      case round =>
        obtain ⟨i, hi, rfl, HN⟩ := hrel
        by_cases hik : i < k
        · have hi1 : (i : Int) < (k : Int) := by omega
          obtain ⟨k0, hk0, hk1, hk2⟩ := fnd_end (Q := QA) hik
          have HK1 := hide hk1
          have HK2 := hide hk2
          clear hk1 hk2
          go_wp2
          go_loopw [19, 20] (fun kk jj wr => ∃ j : Nat, j ≤ k ∧ jj = .int .i64 (j : Int) ∧ kk = .int .i64 (fnd k QA i j) ∧ Hid (Nx w6 wr)) (fun _ jj _ => k - (intOf jj).toNat)
          case atStart => exact ⟨0, by omega, rfl, rfl, HN⟩
          case round =>
            clear HN
            obtain ⟨j, hj, rfl, rfl, HN⟩ := hrel
            by_cases hjk : j < k
            · have hj1 : (j : Int) < (k : Int) := by omega
              have x0 := XO.out _ HN.out j hjk
              have HF : Hid (fnd k QA i (j + 1) = if (QA + j) % k = i then (j : Int) else fnd k QA i j) := hide rfl
              generalize fnd k QA i j = f0 at *
              generalize hf1 : fnd k QA i (j + 1) = f1 at *
              have HF1 := hide hf1
              clear hf1
              by_cases he : (QA + j) % k = i
              · have e1 : f1 = (j : Int) := by rw [HF.out, if_pos he]
                have HE1 := hide e1
                rw [he] at x0
                clear HF e1 he
                go_wp2
                go_round
                case rel => exact ⟨j + 1, by omega, by go_num, by rw [HF1.out, HE1.out], HN⟩
                case measure => simp [intOf]; omega
              · have e1 : f1 = f0 := by rw [HF.out, if_neg he]
                have HE1 := hide e1
                have hne : ((((QA + j) % k : Nat) : Int) == (i : Int)) = false := by rw [beq_eq_false_iff_ne]; omega
                clear HF e1 he
                generalize (((QA + j) % k : Nat) : Int) = z at *
                go_wp2
                go_round
                case rel => exact ⟨j + 1, by omega, by go_num, by rw [HF1.out, HE1.out], HN⟩
                case measure => simp [intOf]; omega
            · obtain rfl : j = k := by omega
              rw [HK2.out]
              have x1 := XC.out _ HN.out i hik
              have x2 := XD.out _ HN.out k0 hk0
              have x3 := XE.out _ HN.out i hik
              have hs := cnt_add (A := QA) (B := QB) hik hk0 HK1.out
              have b1 := cnt_le hik QA
              have b2 := cnt_le hk0 QB
              have hb1 : ((cnt j QA i : Nat) : Int) ≤ 30000000000000 := by have := HQ.out; omega
              have hb2 : ((cnt j QB k0 : Nat) : Int) ≤ 30000000000000 := by have := HQ2.out; omega
              have hs2 : ((cnt j QA i : Nat) : Int) + ((cnt j QB k0 : Nat) : Int) = ((cnt j (QA + QB) i : Nat) : Int) := by omega
              clear b1 b2 hs
              generalize cnt j QA i = y1 at *
              generalize cnt j QB k0 = y2 at *
              generalize cnt j (QA + QB) i = y3 at *
              have dk : decide ((k0 : Int) < 0) = false := decide_eq_false (by omega)
              have dn : ((y3 : Int) != (y3 : Int)) = false := by simp
              have hk01 : (k0 : Int) < (j : Int) := by omega
              have HN' : Hid (∀ d, Nx w6 (wr.drewN d)) := hide (fun d => bel_drewN HN.out d)
              clear HN XC XD XE XO HK1 HK2 HQ HQ2
              go_wp2
              go_quiet (fail)
              go_wp2
              go_round
              case rel => exact ⟨i + 1, by omega, by go_num, hide (HN'.out _)⟩
              case measure => simp [intOf]; omega
        · obtain rfl : i = k := by omega
          go_wp2
          go_ret
          exact ⟨rfl, Nx.trans NW.out HN.out⟩
end Go.Proofs.Ytndmmhikhfndaaa.Rb
