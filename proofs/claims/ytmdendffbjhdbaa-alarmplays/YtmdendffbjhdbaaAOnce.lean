/- AlarmOnce's walk. -/
import Derived.Test.YtmdendffbjhdbaaAKnown
namespace Go.Proofs.Ytmdendffbjhdbaa.Con
open Go.RowKit Go.Proofs.Ytmdendffbjhdbaa.Hq
set_option linter.unusedVariables false
set_option linter.unusedSimpArgs false
attribute [local go_sem ↓] Go.wp_at_zero Go.wp_at_succ
/-- Into a row in order. -/
def ins (x : Rg) (L : List Rg) : List Rg := L.filter (fun y => decide (rlt y x)) ++ x :: L.filter (fun y => decide (rlt x y))
theorem ins_mem (x y : Rg) (L : List Rg) : y ∈ ins x L ↔ y = x ∨ y ∈ L := by
  unfold ins
  simp only [List.mem_append, List.mem_cons, List.mem_filter, decide_eq_true_eq]
  constructor
  · rintro (h | h | h)
    · exact .inr h.1
    · exact .inl h
    · exact .inr h.1
  · rintro (h | h)
    · exact .inr (.inl h)
    · by_cases e : y = x
      · exact .inr (.inl e)
      · by_cases h2 : rlt x y
        · exact .inr (.inr ⟨h, h2⟩)
        · exact .inl ⟨h, rlt_conn h2 e⟩
theorem ins_srt (x : Rg) {L : List Rg} (h : L.Pairwise rlt) : (ins x L).Pairwise rlt := by
  unfold ins
  rw [List.pairwise_append, List.pairwise_cons]
  refine ⟨h.filter _, ⟨fun y hy => by simpa using (List.mem_filter.1 hy).2, h.filter _⟩, ?_⟩
  intro y hy z hz
  have h1 : rlt y x := by simpa using (List.mem_filter.1 hy).2
  rcases List.mem_cons.1 hz with e | hz
  · rw [e]; exact h1
  · exact rlt_trans h1 (by simpa using (List.mem_filter.1 hz).2)
theorem ins_len (x : Rg) : ∀ (L : List Rg), x ∉ L → (ins x L).length = L.length + 1
  | [], _ => rfl
  | y :: L, h => by
    have ih := ins_len x L (fun e => h (List.mem_cons_of_mem _ e))
    have hne : y ≠ x := fun e => h (by simp [e])
    unfold ins at ih ⊢
    simp only [List.length_append, List.length_cons, List.filter_cons] at ih ⊢
    by_cases h1 : rlt y x
    · have h2 : ¬ rlt x y := fun e => rlt_irrefl x (rlt_trans e h1)
      simp [h1, h2] at ih ⊢; omega
    · have h2 : rlt x y := by
        by_cases h2 : rlt x y
        · exact h2
        · exact absurd (rlt_conn h2 hne) h1
      simp [h1, h2] at ih ⊢; omega
theorem parts_len (t : Int) : ∀ L : List Rg, (L.filter fun x => decide (x.2.2 ≤ t)).length + (L.filter fun x => decide (t < x.2.2)).length = L.length
  | [] => rfl
  | x :: L => by
    have ih := parts_len t L
    simp only [List.filter_cons]
    by_cases h : x.2.2 ≤ t
    · have h2 : ¬ t < x.2.2 := by omega
      simp [h, h2]; omega
    · have h2 : t < x.2.2 := by omega
      simp [h, h2]; omega
theorem and24 (s : Int) : 0 ≤ bits .and .i64 s 16777215 ∧ bits .and .i64 s 16777215 ≤ 16777215 := by
  have e : bits .and .i64 s 16777215 = IntKind.i64.wrap ((BitVec.ofInt 64 s &&& BitVec.ofInt 64 16777215).toNat : Int) := rfl
  have h : (BitVec.ofInt 64 s &&& BitVec.ofInt 64 16777215).toNat ≤ 16777215 := by
    rw [BitVec.toNat_and]
    exact Nat.le_trans Nat.and_le_right (by decide)
  rw [e, IntKind.wrap_i64]
  omega
/-- Those that were armed: the k-th at its tick. -/
def Which (n : Nat) (zs : List Int) (N : Nat) (x : Rg) : Prop := ∃ j : Nat, j < N ∧ x = (((j % n : Nat) : Int), (j : Int), zs.getD j 0)
structure Arm1 (n : Nat) (zs : List Int) (k : Nat) (L : List Rg) : Prop where
  srt : L.Pairwise rlt
  len : L.length = k
  mem : ∀ x, x ∈ L ↔ Which n zs k x
  fit : ∀ j, j < k → 0 ≤ zs.getD j 0 ∧ zs.getD j 0 ≤ 1099511627776
theorem Arm1.nil (n : Nat) (zs : List Int) : Arm1 n zs 0 [] := ⟨List.Pairwise.nil, rfl, fun x => ⟨fun h => absurd h (by simp), fun ⟨j, h, _⟩ => by omega⟩, fun j h => by omega⟩
theorem Arm1.off {n k : Nat} {zs : List Int} {L : List Rg} (a : Arm1 n zs k L) {x : Rg} (h : x ∈ L) : x.2.1 < (k : Int) := by
  obtain ⟨j, hj, rfl⟩ := (a.mem x).1 h
  show (j : Int) < (k : Int)
  omega
theorem Arm1.step {n k : Nat} {zs : List Int} {L : List Rg} (a : Arm1 n zs k L) (h0 : 0 ≤ zs.getD k 0) (h1 : zs.getD k 0 ≤ 1099511627776) : Arm1 n zs (k + 1) (ins (((k % n : Nat) : Int), (k : Int), zs.getD k 0) L) := by
  have hn : ((((k % n : Nat) : Int), (k : Int), zs.getD k 0) : Rg) ∉ L := fun h => by have := a.off h; simp at this
  refine ⟨ins_srt _ a.srt, by rw [ins_len _ _ hn, a.len], fun x => ?_, fun j hj => ?_⟩
  · rw [ins_mem, a.mem]
    constructor
    · rintro (h | ⟨j, hj, h⟩)
      · exact ⟨k, by omega, h⟩
      · exact ⟨j, by omega, h⟩
    · rintro ⟨j, hj, h⟩
      by_cases e : j = k
      · subst e; exact .inl h
      · exact .inr ⟨j, by omega, h⟩
  · by_cases e : j = k
    · subst e; exact ⟨h0, h1⟩
    · exact a.fit j (by omega)
theorem Arm1.has {n k : Nat} {zs : List Int} {L : List Rg} (a : Arm1 n zs k L) (x : Rg) : x ∈ ins (((k % n : Nat) : Int), (k : Int), zs.getD k 0) L ↔ x = (((k % n : Nat) : Int), (k : Int), zs.getD k 0) ∨ (¬ (x.1 = ((k % n : Nat) : Int) ∧ x.2.1 = (k : Int)) ∧ x ∈ L) := by
  rw [ins_mem]
  constructor
  · rintro (h | h)
    · exact .inl h
    · exact .inr ⟨fun e => by have := a.off h; omega, h⟩
  · rintro (h | h)
    · exact .inl h
    · exact .inr h.2
/-- What is left behind a tick. -/
structure Rest (n : Nat) (zs : List Int) (N : Nat) (v : Int) (c : Nat) (L : List Rg) : Prop where
  srt : L.Pairwise rlt
  mem : ∀ x, x ∈ L ↔ Which n zs N x ∧ v < x.2.2
  cnt : c + L.length = N
  fit : ∀ j, j < N → 0 ≤ zs.getD j 0 ∧ zs.getD j 0 ≤ 1099511627776
theorem Arm1.rest {n N : Nat} {zs : List Int} {L : List Rg} (a : Arm1 n zs N L) : Rest n zs N (-1) 0 L := by
  refine ⟨a.srt, fun x => ?_, by rw [a.len]; omega, a.fit⟩
  rw [a.mem]
  constructor
  · rintro ⟨j, hj, rfl⟩
    have := (a.fit j hj).1
    exact ⟨⟨j, hj, rfl⟩, by show (-1 : Int) < zs.getD j 0; omega⟩
  · exact fun h => h.1
def up (t : Int) (L : List Rg) : List Rg := L.filter fun x => decide (x.2.2 ≤ t)
def dn (t : Int) (L : List Rg) : List Rg := L.filter fun x => decide (t < x.2.2)
theorem up_mem (t : Int) (L : List Rg) (x : Rg) : x ∈ up t L ↔ x ∈ L ∧ x.2.2 ≤ t := by unfold up; simp
theorem dn_mem (t : Int) (L : List Rg) (x : Rg) : x ∈ dn t L ↔ x ∈ L ∧ t < x.2.2 := by unfold dn; simp
section
variable {n N c : Nat} {zs : List Int} {v t : Int} {L : List Rg}
theorem Rest.step (r : Rest n zs N v c L) (h : v ≤ t) : Rest n zs N t (c + (up t L).length) (dn t L) := by
  refine ⟨r.srt.filter _, fun x => ?_, by have := parts_len t L; have := r.cnt; unfold up dn; omega, r.fit⟩
  rw [dn_mem, r.mem]
  constructor
  · rintro ⟨⟨h1, _⟩, h2⟩; exact ⟨h1, h2⟩
  · rintro ⟨h1, h2⟩; exact ⟨⟨h1, by omega⟩, h2⟩
theorem Rest.le (r : Rest n zs N v c L) : (up t L).length ≤ N := by have := parts_len t L; have := r.cnt; unfold up; omega
/-- An element of what rang. -/
theorem Rest.at_ (r : Rest n zs N v c L) {j : Nat} (hj : j < (up t L).length) : ∃ i : Nat, i < N ∧ ((up t L).getD j (0, 0, 0)).2.1 = (i : Int) ∧ ((up t L).getD j (0, 0, 0)).2.2 = zs.getD i 0 ∧ zs.getD i 0 ≤ t ∧ v < zs.getD i 0 := by
  have hm : (up t L).getD j (0, 0, 0) ∈ up t L := by
    rw [List.getD_eq_getElem?_getD, List.getElem?_eq_getElem hj]; exact List.getElem_mem _
  obtain ⟨h1, h2⟩ := (up_mem _ _ _).1 hm
  obtain ⟨⟨i, hi, e⟩, h3⟩ := (r.mem _).1 h1
  rw [e] at h2 h3 ⊢
  exact ⟨i, hi, rfl, rfl, h2, h3⟩
theorem Rest.ord (r : Rest n zs N v c L) {j : Nat} (hj : j + 1 < (up t L).length) : ((up t L).getD j (0, 0, 0)).2.2 ≤ ((up t L).getD (j + 1) (0, 0, 0)).2.2 := by
  have P := List.pairwise_iff_getElem.1 (List.Pairwise.filter (fun x : Rg => decide (x.2.2 ≤ t)) r.srt)
  have := P j (j + 1) (by have := hj; unfold up at this; omega) hj (by omega)
  rw [List.getD_eq_getElem?_getD, List.getElem?_eq_getElem (by omega), List.getD_eq_getElem?_getD, List.getElem?_eq_getElem hj]
  unfold rlt at this
  simp only [Option.getD_some]
  unfold up
  omega
theorem Rest.none (r : Rest n zs N 2199023255552 c L) : c = N := by
  have : L = [] := List.eq_nil_iff_forall_not_mem.2 fun x hx => by
    obtain ⟨⟨j, hj, rfl⟩, h⟩ := (r.mem x).1 hx
    have := (r.fit j hj).2
    simp only at h
    omega
  have h := r.cnt
  rw [this] at h
  simpa using h
end
set_option maxHeartbeats 8000000 in
set_option maxRecDepth 100000 in
theorem once_main {n N M : Nat} (h1 : 1 ≤ n) (h2 : n ≤ 64) (hN : N ≤ 60) (hM : M ≤ 40) (p p' : Option Addr) (c c' : Nat) (zs ys : List Int) (W : World)
    (hp : 0 < N → ∃ b o, p = some ⟨b, o, none⟩ ∧ b < W.heap.size ∧ ∀ j, j < N → W.cell? ⟨b, o + j, none⟩ = some (.int .i64 (zs.getD j 0)))
    (hp' : 0 < M → ∃ b o, p' = some ⟨b, o, none⟩ ∧ b < W.heap.size ∧ ∀ j, j < M → W.cell? ⟨b, o + j, none⟩ = some (.int .i64 (ys.getD j 0))) :
    Calls Try.prog 5 #[.int .i64 (n : Int), .slice p N c, .slice p' M c'] W fun e w' => e = .returned (.bool true) ∧ Below W.heap.size W w' := by
  have hA := hide (awake_any W)
  have NW := hide (fun wr hB => newL_ok (n := n) (W := W) (wr := wr) h1 h2 hB)
  have HP := hide hp
  have HP' := hide hp'
  clear hp hp'
  have g1 : ¬ (n : Int) < 1 := by omega
  have g2 : ¬ (n : Int) > 64 := by omega
  have g3 : ¬ (N : Int) > 60 := by omega
  have g4 : ¬ (M : Int) > 40 := by omega
  go_enter Try.func5, Try.ntmps5
  go_wp2_with (first
    | (go_at_call 7; refine hA.out.mono ?_; rintro e w0 ⟨rfl, hB0⟩; have HB0 := hide hB0; clear hB0)
    | (go_at_call 8; refine (NW.out _ HB0.out).mono ?_; rintro e w1 ⟨ab, rfl, S0, B0⟩))
  clear hA NW HB0 B0
  go_loopw [9] (fun i wr => ∃ k : Nat, k ≤ N ∧ i = .int .i64 k ∧ ∃ L, Hid (AL W wr ab n 0 L) ∧ Hid (Arm1 n zs k L)) (fun i _ => N - (intOf i).toNat)
  case atStart => exact ⟨0, by omega, rfl, [], S0, hide (Arm1.nil n zs)⟩
  case round =>
    obtain ⟨k, hk, rfl, L, S, A1⟩ := hrel
    by_cases hkn : k < N
    · have k1 : (k : Int) < (N : Int) := by omega
      obtain ⟨b, o, rfl, hb, hc⟩ := HP.out (by omega)
      have CC : Hid (∀ w', Below W.heap.size W w' → w'.cell? ⟨b, o + k, none⟩ = some (.int .i64 (zs.getD k 0))) := hide (fun w' hB => (hB.cell (p := ⟨b, o + k, none⟩) hb).trans (hc k hkn))
      have q0 := CC.out _ S.out.bel
      have ST := hide (fun h0 h1 => A1.out.step (zs := zs) h0 h1)
      have HS := hide A1.out.has
      have kn : k % n < n := Nat.mod_lt _ (by omega)
      have hrem : (k : Int).tmod (n : Int) = ((k % n : Nat) : Int) := by rw [Int.tmod_eq_emod_of_nonneg (by omega)]; simp
      have nz : ¬ ((n : Int) = 0) := by omega
      have nz2 : ¬ n = 0 := by omega
      have nz3 : ((n : Int) == 0) = false := by simp [nz2]
      clear hc
      generalize zs.getD k 0 = z at *
      by_cases hz0 : z < 0
      · have d1 : decide (z < 0) = true := decide_eq_true hz0
        clear hrem
        go_wp2
        go_quiet (fail)
        have q0' : (wr.drewN nq).cell? ⟨b, o + k, none⟩ = some (.int .i64 z) := q0
        have BB := hide (bel_drewN S.out.bel nq)
        generalize wr.drewN nq = w5 at *
        clear q0
        go_wp2
        go_ret
        exact ⟨rfl, BB.out⟩
      · have d1 : decide (z < 0) = false := decide_eq_false hz0
        by_cases hz1 : z > 1099511627776
        · have d2 : decide (z > 1099511627776) = true := decide_eq_true hz1
          clear hrem
          go_wp2
          go_quiet (fail)
          have q0' : (wr.drewN nq).cell? ⟨b, o + k, none⟩ = some (.int .i64 z) := q0
          have BB := hide (bel_drewN S.out.bel nq)
          generalize wr.drewN nq = w5 at *
          clear q0
          go_wp2
          go_ret
          exact ⟨rfl, BB.out⟩
        · have d2 : decide (z > 1099511627776) = false := decide_eq_false hz1
          generalize hkm : k % n = km at *
          clear hkm
          have AR := hide (fun w' (a : AL W w' ab n 0 L) => armL_ok (c := (km : Int)) (id := (k : Int)) (t := z) a (by omega) (by omega) (by omega) (by omega) (by omega) (by unfold top2; omega) HS.out)
          go_wp2
          go_region_held3 (fun w' => w'.cell? ⟨b, o + k, none⟩ = some (.int .i64 z)) (first | go_keep | exact CC.out _ S2.out.bel)
            ((go_at_call 9; refine (AR.out _ (by exact S.out.more (bel_drew (Below.refl _ _)))).mono ?_; rintro e w2 ⟨rfl, S2, K2⟩))
          go_wp2
          go_roundw
          case rel => exact ⟨k + 1, by omega, by go_num, _, S2, hide (ST.out (by omega) (by omega))⟩
          case measure => simp [intOf]; omega
    · have k1 : ¬ (k : Int) < (N : Int) := by omega
      have R0 : Hid (Rest n zs N (-1) 0 L) := hide (by have := A1.out.rest; rwa [show k = N by omega] at this)
      clear A1
      go_wp2
      go_loopw [10, 11, 12] (fun nw ct i wr => ∃ (k : Nat) (v an : Int) (cn : Nat) (L : List Rg), k ≤ M + 1 ∧ i = .int .i64 k ∧ nw = .int .i64 v ∧ ct = .int .i64 cn ∧ v ≤ an ∧ 0 ≤ an ∧ (k ≤ M → an ≤ 16777216 * k) ∧ (k = M + 1 → v = 2199023255552) ∧ cn ≤ N ∧ Hid (AL W wr ab n an L) ∧ Hid (Rest n zs N v cn L)) (fun _ _ i _ => M + 1 - (intOf i).toNat)
      case atStart => exact ⟨0, -1, 0, 0, L, by omega, rfl, rfl, rfl, by omega, by omega, by omega, by omega, by omega, S, R0⟩
      case round => as_aux_lemma =>
        clear S R0
        obtain ⟨k2, v, an, cn, L, hk2, rfl, rfl, rfl, hva, han, hb1, hb2, hcn, S, R⟩ := hrel
        by_cases hkM : k2 ≤ M
        · have m1 : (k2 : Int) ≤ (M : Int) := by omega
          have hb1 := hb1 hkM
          clear hb2
          have TT : Hid (∀ t w', an ≤ t → t ≤ 2199023255552 → AL W w' ab n an L → Calls Try.prog 14 #[.pointer (some ⟨ab, 0, none⟩), .int .i64 t] w' fun e w2 => ∃ v, e = .returned (.tuple #[v, .int .i64 0]) ∧ Hid (AL W w2 ab n t (dn t L)) ∧ Hid (ToL w' w2 v (up t L))) := hide (fun t w' h1 h2 a => toL_ok a h1 (by unfold top2; omega) (R.out.srt.filter _) (up_mem t L) (dn_mem t L))
          by_cases hkl : k2 < M
          · have m2 : (k2 : Int) < (M : Int) := by omega
            obtain ⟨b', o', rfl, hb', hc'⟩ := HP'.out (by omega)
            have q0 : wr.cell? ⟨b', o' + k2, none⟩ = some (.int .i64 (ys.getD k2 0)) := (S.out.bel.cell (p := ⟨b', o' + k2, none⟩) hb').trans (hc' k2 hkl)
            have h24 := and24 (ys.getD k2 0)
            clear hc' HP'
            generalize ys.getD k2 0 = y at *
            have W1 := hide (show IntKind.i64.wrap (an + bits .and .i64 y 16777215) = an + bits .and .i64 y 16777215 by rw [IntKind.wrap_i64]; omega)
            go_wp2
            go_region_held3 (fun w' => w'.cell? ⟨b', o' + k2, none⟩ = some (.int .i64 y)) (go_keep)
              ((go_at_call 21; refine (nowL (by exact S.out.more (bel_drew (Below.refl _ _)))).mono ?_; rintro e w5 ⟨rfl, rfl⟩))
            have S1 := hide (S.out.more (bel_drew (Below.refl _ _)))
            generalize wr.drew = w1 at *
            clear q0 S
            generalize IntKind.i64.wrap (an + bits .and .i64 y 16777215) = t at *
            have ht1 : an ≤ t := by have := W1.out; omega
            have ht2 : t ≤ 16777216 * ((k2 : Int) + 1) := by have := W1.out; omega
            have ht3 : t ≤ 2199023255552 := by omega
            clear W1 h24
            go_wp2_with (go_at_call 14; refine (TT.out t _ (by omega) (by omega) S1.out).mono ?_; rintro e w2 ⟨v2, rfl, S2, T2⟩; obtain ⟨p2, c2, rfl⟩ := T2.out.1.shape)
            have RD := RdC.own T2.out.1
            obtain ⟨_, p3, c3, e3, _, _, rd⟩ := RD
            injection e3 with e4 e5 e6
            subst e4
            have RD := hide rd
            clear rd e5 e6 TT S1 T2
            have HK := hide (R.out.le (t := t))
            have AT := hide (fun j (hj : j < (up t L).length) => R.out.at_ hj)
            have OR := hide (fun j (hj : j + 1 < (up t L).length) => R.out.ord hj)
            have CE := hide (ringsV_cells (up t L))
            have R2 := hide (R.out.step (t := t) (by omega))
            clear R
            generalize hKK : (up t L).length = K at *
            have HKK := hide hKK
            clear hKK
            have hKN : K ≤ N := HK.out
            have hcK : cn + K ≤ N := by have := R2.out.cnt; omega
            go_loopw [16] (fun i wr => ∃ j : Nat, j ≤ K ∧ i = .int .i64 j ∧ Hid (Below w2.heap.size w2 wr)) (fun i _ => K - (intOf i).toNat)
            case atStart => exact ⟨0, by omega, rfl, hide (Below.refl _ _)⟩
            case round => as_aux_lemma =>
              obtain ⟨j, hj, rfl, HB⟩ := hrel
              by_cases hjn : j < K
              · have j1 : (j : Int) < (K : Int) := by omega
                obtain ⟨b, o, rfl, hb, hc⟩ := RD.out (by omega)
                obtain ⟨pb, po, rfl, hpb, hpc⟩ := HP.out (by omega)
                obtain ⟨i, hi, e1, e2, e3, e4⟩ := AT.out j hjn
                obtain ⟨_, r1, r2⟩ := CE.out j hjn
                rw [e1] at r1
                rw [e2] at r2
                have BW := hide (S2.out.bel.trans (HB.out.mono S2.out.bel.size))
                have a1 : wr.cell? ⟨b, o + j * 3 + 1, none⟩ = some (.int .i64 (i : Int)) := (HB.out.cell (p := ⟨b, o + j * 3 + 1, none⟩) hb).trans (hc _ _ r1)
                have a2 : wr.cell? ⟨b, o + j * 3 + 2, none⟩ = some (.int .i64 (zs.getD i 0)) := (HB.out.cell (p := ⟨b, o + j * 3 + 2, none⟩) hb).trans (hc _ _ r2)
                have a3 : wr.cell? ⟨pb, po + i, none⟩ = some (.int .i64 (zs.getD i 0)) := (BW.out.cell (p := ⟨pb, po + i, none⟩) hpb).trans (hpc i hi)
                have d1 : decide ((i : Int) < 0) = false := decide_eq_false (by omega)
                have d2 : decide ((i : Int) ≥ (N : Int)) = false := decide_eq_false (by omega)
                have i1 : (i : Int) < (N : Int) := by omega
                have i2 : ¬ N ≤ i := by omega
                have i3 : decide (N ≤ i) = false := decide_eq_false i2
                by_cases h0 : 0 < j
                · obtain ⟨jm, hjm⟩ : ∃ jm, j = jm + 1 := ⟨j - 1, by omega⟩
                  have o1 := OR.out jm (by omega)
                  obtain ⟨_, _, r3⟩ := CE.out jm (by omega)
                  rw [← hjm, e2] at o1
                  have a4 : wr.cell? ⟨b, o + jm * 3 + 2, none⟩ = _ := (HB.out.cell (p := ⟨b, o + jm * 3 + 2, none⟩) hb).trans (hc _ _ r3)
                  have hj2 : (j : Int) - 1 = (jm : Int) := by omega
                  have hj3 : IntKind.i64.wrap (jm : Int) = (jm : Int) := by rw [IntKind.wrap_i64]; omega
                  have jm1 : (jm : Int) < (K : Int) := by omega
                  have hjm0 : 0 < (j : Int) := by omega
                  generalize ((up t L).getD jm (0, 0, 0)).2.2 = z' at *
                  clear r1 r2 r3 e1 e2 hjm hc hpc CE OR AT RD
                  generalize zs.getD i 0 = z at *
                  have d3 : decide (z > t) = false := decide_eq_false (by omega)
                  have d4 : decide (z ≤ v) = false := decide_eq_false (by omega)
                  have d5 : decide ((j : Int) > 0) = true := decide_eq_true (by omega)
                  have d6 : decide (z < z') = false := decide_eq_false (by omega)
                  go_wp2
                  refine wp_region_quiet_lit (by as_aux_lemma => kernel_rfl) (by as_aux_lemma => kernel_rfl) ?_
                  repeat (go_big_quiet_step (fail))
                  refine wpQuiet_nil ?_
                  intro _ hw'
                  obtain ⟨nq, hw''⟩ := hw'
                  subst hw''
                  go_wp2
                  go_roundw
                  case rel => exact ⟨j + 1, by omega, by go_num, hide (bel_drewN HB.out _)⟩
                  case measure => simp [intOf]; omega
                · obtain rfl : j = 0 := by omega
                  clear r1 r2 e1 e2 hc hpc CE OR AT RD
                  generalize zs.getD i 0 = z at *
                  have d3 : decide (z > t) = false := decide_eq_false (by omega)
                  have d4 : decide (z ≤ v) = false := decide_eq_false (by omega)
                  simp only [Nat.zero_mul, Nat.add_zero] at a1 a2
                  go_wp2
                  refine wp_region_quiet_lit (by as_aux_lemma => kernel_rfl) (by as_aux_lemma => kernel_rfl) ?_
                  repeat (go_big_quiet_step (fail))
                  refine wpQuiet_nil ?_
                  intro _ hw'
                  obtain ⟨nq, hw''⟩ := hw'
                  subst hw''
                  go_wp2
                  go_roundw
                  case rel => exact ⟨1, by omega, rfl, hide (bel_drewN HB.out _)⟩
                  case measure => simp [intOf]; omega
              · obtain rfl : j = K := by omega
                have W2 : IntKind.i64.wrap ((cn : Int) + (j : Int)) = (cn : Int) + (j : Int) := by rw [IntKind.wrap_i64]; omega
                go_wp2
                go_roundw
                case rel => exact ⟨k2 + 1, t, t, cn + j, _, by omega, by go_num, rfl, by go_num, by omega, by omega, by omega, by omega, by omega, hide (S2.out.more HB.out), R2⟩
                case measure => simp [intOf]; omega
          · have m2 : ¬ (k2 : Int) < (M : Int) := by omega
            have S1 := S
            have hk3 : k2 = M := by omega
            clear S
            have ht1 : an ≤ 2199023255552 := by omega
            go_wp2_with (go_at_call 14; refine (TT.out 2199023255552 _ (by omega) (by omega) S1.out).mono ?_; rintro e w2 ⟨v2, rfl, S2, T2⟩; obtain ⟨p2, c2, rfl⟩ := T2.out.1.shape)
            have RD := RdC.own T2.out.1
            obtain ⟨_, p3, c3, e3, _, _, rd⟩ := RD
            injection e3 with e4 e5 e6
            subst e4
            have RD := hide rd
            clear rd e5 e6 TT S1 T2
            have HK := hide (R.out.le (t := 2199023255552))
            have AT := hide (fun j (hj : j < (up 2199023255552 L).length) => R.out.at_ hj)
            have OR := hide (fun j (hj : j + 1 < (up 2199023255552 L).length) => R.out.ord hj)
            have CE := hide (ringsV_cells (up 2199023255552 L))
            have R2 := hide (R.out.step (t := 2199023255552) (by omega))
            clear R
            generalize hKK : (up 2199023255552 L).length = K at *
            have HKK := hide hKK
            clear hKK
            have hKN : K ≤ N := HK.out
            have hcK : cn + K ≤ N := by have := R2.out.cnt; omega
            go_loopw [16] (fun i wr => ∃ j : Nat, j ≤ K ∧ i = .int .i64 j ∧ Hid (Below w2.heap.size w2 wr)) (fun i _ => K - (intOf i).toNat)
            case atStart => exact ⟨0, by omega, rfl, hide (Below.refl _ _)⟩
            case round => as_aux_lemma =>
              obtain ⟨j, hj, rfl, HB⟩ := hrel
              by_cases hjn : j < K
              · have j1 : (j : Int) < (K : Int) := by omega
                obtain ⟨b, o, rfl, hb, hc⟩ := RD.out (by omega)
                obtain ⟨pb, po, rfl, hpb, hpc⟩ := HP.out (by omega)
                obtain ⟨i, hi, e1, e2, e3, e4⟩ := AT.out j hjn
                obtain ⟨_, r1, r2⟩ := CE.out j hjn
                rw [e1] at r1
                rw [e2] at r2
                have BW := hide (S2.out.bel.trans (HB.out.mono S2.out.bel.size))
                have a1 : wr.cell? ⟨b, o + j * 3 + 1, none⟩ = some (.int .i64 (i : Int)) := (HB.out.cell (p := ⟨b, o + j * 3 + 1, none⟩) hb).trans (hc _ _ r1)
                have a2 : wr.cell? ⟨b, o + j * 3 + 2, none⟩ = some (.int .i64 (zs.getD i 0)) := (HB.out.cell (p := ⟨b, o + j * 3 + 2, none⟩) hb).trans (hc _ _ r2)
                have a3 : wr.cell? ⟨pb, po + i, none⟩ = some (.int .i64 (zs.getD i 0)) := (BW.out.cell (p := ⟨pb, po + i, none⟩) hpb).trans (hpc i hi)
                have d1 : decide ((i : Int) < 0) = false := decide_eq_false (by omega)
                have d2 : decide ((i : Int) ≥ (N : Int)) = false := decide_eq_false (by omega)
                have i1 : (i : Int) < (N : Int) := by omega
                have i2 : ¬ N ≤ i := by omega
                have i3 : decide (N ≤ i) = false := decide_eq_false i2
                by_cases h0 : 0 < j
                · obtain ⟨jm, hjm⟩ : ∃ jm, j = jm + 1 := ⟨j - 1, by omega⟩
                  have o1 := OR.out jm (by omega)
                  obtain ⟨_, _, r3⟩ := CE.out jm (by omega)
                  rw [← hjm, e2] at o1
                  have a4 : wr.cell? ⟨b, o + jm * 3 + 2, none⟩ = _ := (HB.out.cell (p := ⟨b, o + jm * 3 + 2, none⟩) hb).trans (hc _ _ r3)
                  have hj2 : (j : Int) - 1 = (jm : Int) := by omega
                  have hj3 : IntKind.i64.wrap (jm : Int) = (jm : Int) := by rw [IntKind.wrap_i64]; omega
                  have jm1 : (jm : Int) < (K : Int) := by omega
                  have hjm0 : 0 < (j : Int) := by omega
                  generalize ((up 2199023255552 L).getD jm (0, 0, 0)).2.2 = z' at *
                  clear r1 r2 r3 e1 e2 hjm hc hpc CE OR AT RD
                  generalize zs.getD i 0 = z at *
                  have d3 : decide (z > 2199023255552) = false := decide_eq_false (by omega)
                  have d4 : decide (z ≤ v) = false := decide_eq_false (by omega)
                  have d5 : decide ((j : Int) > 0) = true := decide_eq_true (by omega)
                  have d6 : decide (z < z') = false := decide_eq_false (by omega)
                  go_wp2
                  refine wp_region_quiet_lit (by as_aux_lemma => kernel_rfl) (by as_aux_lemma => kernel_rfl) ?_
                  repeat (go_big_quiet_step (fail))
                  refine wpQuiet_nil ?_
                  intro _ hw'
                  obtain ⟨nq, hw''⟩ := hw'
                  subst hw''
                  go_wp2
                  go_roundw
                  case rel => exact ⟨j + 1, by omega, by go_num, hide (bel_drewN HB.out _)⟩
                  case measure => simp [intOf]; omega
                · obtain rfl : j = 0 := by omega
                  clear r1 r2 e1 e2 hc hpc CE OR AT RD
                  generalize zs.getD i 0 = z at *
                  have d3 : decide (z > 2199023255552) = false := decide_eq_false (by omega)
                  have d4 : decide (z ≤ v) = false := decide_eq_false (by omega)
                  simp only [Nat.zero_mul, Nat.add_zero] at a1 a2
                  go_wp2
                  refine wp_region_quiet_lit (by as_aux_lemma => kernel_rfl) (by as_aux_lemma => kernel_rfl) ?_
                  repeat (go_big_quiet_step (fail))
                  refine wpQuiet_nil ?_
                  intro _ hw'
                  obtain ⟨nq, hw''⟩ := hw'
                  subst hw''
                  go_wp2
                  go_roundw
                  case rel => exact ⟨1, by omega, rfl, hide (bel_drewN HB.out _)⟩
                  case measure => simp [intOf]; omega
              · obtain rfl : j = K := by omega
                have W2 : IntKind.i64.wrap ((cn : Int) + (j : Int)) = (cn : Int) + (j : Int) := by rw [IntKind.wrap_i64]; omega
                go_wp2
                go_roundw
                case rel => exact ⟨k2 + 1, 2199023255552, 2199023255552, cn + j, _, by omega, by go_num, rfl, by go_num, by omega, by omega, by omega, by omega, by omega, hide (S2.out.more HB.out), R2⟩
                case measure => simp [intOf]; omega
        · have m1 : ¬ (k2 : Int) ≤ (M : Int) := by omega
          have hv := hb2 (by omega)
          subst hv
          have e := R.out.none
          subst e
          go_wp2
          go_ret
          exact ⟨rfl, S.out.bel⟩
end Go.Proofs.Ytmdendffbjhdbaa.Con
