/- ring. -/
import Derived.Test.YtmdendffbjhdbaaANext
namespace Go.Proofs.Ytmdendffbjhdbaa.Con
open Go.RowKit Go.Proofs.Ytmdendffbjhdbaa.Hq
set_option linter.unusedVariables false
set_option linter.unusedSimpArgs false
attribute [local go_sem ↓] Go.wp_at_zero Go.wp_at_succ
/-- Alarms and a row of those that rang, apart. -/
structure RS (W wr : World) (d : AD) (B : Nat) (v0 v : Value) (d' : AD) (L : List Rg) : Prop where
  at' : d'.At wr
  stp : Stp W wr (fun k => d.Foot k ∨ v0.ownBlock = some k) (fun k => d'.Foot k ∨ v.ownBlock = some k)
  row : RRow B wr v L
  off : ∀ k, v.ownBlock = some k → ¬ d'.Foot k
  hB : B ≤ wr.heap.size
section
variable {W wr w1 : World} {d d' d'' : AD} {B : Nat} {v0 v v1 : Value} {L L1 : List Rg}
theorem RS.start (a : d.At W) (hr : RRow B W v L) (ho : ∀ k, v.ownBlock = some k → ¬ d.Foot k) (hB : B ≤ W.heap.size) : RS W W d B v v d L :=
  ⟨a, Stp.below (Below.refl _ _) _, hr, ho, hB⟩
theorem RS.turn (r : RS W wr d B v0 v d' L) (s : Stp wr w1 d'.Foot d''.Foot) (a : d''.At w1) : RS W w1 d B v0 v d'' L := by
  refine ⟨a, r.stp.trans ⟨s.os, s.tape, s.output, s.size, fun k hk hn => s.block k hk fun h => hn (.inl h), ?_⟩, r.row.kept fun k hk => s.block k (r.row.lt k hk) (r.off k hk), ?_, Nat.le_trans r.hB s.size⟩
  · rintro k (h | h)
    · rcases s.foot k h with h | h
      · exact .inl (.inl h)
      · exact .inr h
    · exact .inl (.inr h)
  · intro k hk hf
    rcases s.foot k hf with h | h
    · exact r.off k hk h
    · have := r.row.lt k hk; omega
theorem RS.more (r : RS W wr d B v0 v d' L) (hb : Below wr.heap.size wr w1) : RS W w1 d B v0 v d' L := r.turn (Stp.below hb _) (r.at'.below hb)
theorem RS.app (r : RS W wr d B v0 v d' L) (h1 : RRow B w1 v1 L1) (h2 : wr.grownBy w1 v.ownBlock) (h3 : v1.ownBlock = v.ownBlock ∨ ∃ m, v1.ownBlock = some m ∧ wr.heap.size ≤ m) : RS W w1 d B v0 v1 d' L1 := by
  have hz := h2.size
  refine ⟨r.at'.kept fun k hk hf => h2.block k hk fun e => r.off k e.symm hf, r.stp.trans ⟨h2.os, h2.tape, h2.output, h2.size, fun k hk hn => h2.block k hk fun e => hn (.inr e.symm), ?_⟩, h1, ?_, Nat.le_trans r.hB hz⟩
  · rintro k (h | h)
    · exact .inl (.inl h)
    · rcases h3 with e | ⟨m, e, hm⟩
      · exact .inl (.inr (e ▸ h))
      · rw [e] at h; cases h; exact .inr hm
  · intro k hk hf
    rcases h3 with e | ⟨m, e, hm⟩
    · exact r.off k (e ▸ hk) hf
    · rw [e] at hk; cases hk
      have := r.at'.lt hf; omega
theorem RS.trans {W0 : World} {d0 : AD} {vv : Value} (r : RS W0 W d0 B vv v0 d L1) (s : RS W wr d B v0 v d' L) : RS W0 wr d0 B vv v d' L := ⟨s.at', r.stp.trans s.stp, s.row, s.off, s.hB⟩
end
def vlen : Value → Nat
  | .slice _ n _ => n
  | _ => 0
def tag (i : Nat) (x : It) : Rg := ((i : Int), x.1, x.2)
def wth (d : AD) (i : Nat) (h : HD) : AD := { d with hs := d.hs.set i h }
section
variable {W wr w1 w2 : World} {d : AD} {i B : Nat} {h h' : HD} {v0 v v1 : Value} {rs : List Rg} {ps : List It}
theorem wth_self (hi : d.hs[i]? = some h) : wth d i h = d := by
  unfold wth
  obtain ⟨hl, e⟩ := List.getElem?_eq_some_iff.1 hi
  rw [← e, List.set_getElem_self]
theorem wth_get (hi : i < d.hs.length) (h' : HD) : (wth d i h').hs[i]? = some h' := by simp [wth, hi]
theorem wth_wth (h' h1 : HD) : wth (wth d i h') i h1 = wth d i h1 := by simp [wth]
theorem wth_len (h' : HD) : (wth d i h').hs.length = d.hs.length := by simp [wth]
/-- What the loop of ring keeps. -/
def RingI (W : World) (d : AD) (i : Nat) (h : HD) (B : Nat) (v0 : Value) (rs : List Rg) (v : Value) (wr : World) (h' : HD) (ps : List It) : Prop :=
  RS W wr d B v0 v (wth d i h') (rs ++ ps.map (tag i)) ∧ (ps ++ h'.l).Perm h.l ∧ ∀ x ∈ ps, x.2 ≤ d.now
theorem RingI.more (r : RingI W d i h B v0 rs v wr h' ps) (hb : Below wr.heap.size wr w1) : RingI W d i h B v0 rs v w1 h' ps := ⟨r.1.more hb, r.2⟩
/-- Popped: the structure. -/
theorem ring_mid (hlt : i < d.hs.length) (r : RS W wr d B v0 v (wth d i h') (rs ++ ps.map (tag i))) {l1 : List It} (q : HQ w1 h'.hb h'.mb 1024 false v1 l1) (p : (at' h'.l 0 :: l1).Perm h'.l) (T : Turn wr w1 h'.hb h'.mb h'.v v1) :
    RS W w1 d B v0 v (wth d i { h' with v := v1, l := l1 }) (rs ++ ps.map (tag i)) := by
  obtain ⟨r1, r2⟩ := r.at'.one (wth_get hlt h') (Stp.of (l' := l1) T) q rfl (fun x hx => r.at'.fit h' (List.mem_of_getElem? (wth_get hlt h')) x (p.mem_iff.1 (List.mem_cons_of_mem _ hx)))
  have e : ({ wth d i h' with hs := (wth d i h').hs.set i { h' with v := v1, l := l1 } } : AD) = wth d i { h' with v := v1, l := l1 } := wth_wth _ _
  rw [e] at r1 r2
  exact r.turn r2 r1
theorem ring_reg (hlt : i < d.hs.length) : regOf (wth d i h') (i : Int) = ((at' h'.l 0).2, decide (0 < h'.l.length)) := by
  unfold regOf; rw [if_pos (by omega), Int.toNat_natCast, wth_get hlt]
def RingP (W : World) (d : AD) (i : Nat) (h : HD) (B : Nat) (v0 : Value) (rs : List Rg) (e : Ending) (w' : World) : Prop :=
  ∃ v h' ps, e = .returned v ∧ RingI W d i h B v0 rs v w' h' ps ∧ ∀ x ∈ h'.l, d.now < x.2
theorem le_key {l : List It} (hh : Heap false l) {x : It} (hx : x ∈ l) : (at' l 0).2 ≤ x.2 := by
  obtain ⟨j, hj, rfl⟩ := mem_at hx
  have := heap_min hh j hj
  rw [le_iff] at this
  simp at this; omega
set_option maxHeartbeats 1600000 in
set_option maxRecDepth 20000 in
theorem ring_any (a : d.At W) (hi : d.hs[i]? = some h) (hr : RRow B W v0 rs) (ho : ∀ k, v0.ownBlock = some k → ¬ d.Foot k) (hB : B ≤ W.heap.size) (hl : rs.length ≤ 70000) :
    Calls Try.prog 29 #[.pointer (some ⟨d.ab, 0, none⟩), .int .i64 (i : Int), v0] W fun e w' => RingP W d i h B v0 rs e w' := by
  have hlt : i < d.hs.length := (List.getElem?_eq_some_iff.1 hi).1
  have HL := hide (a.each i h hi).len
  have ST : Hid (RingI W d i h B v0 rs v0 W h []) := hide ⟨by rw [wth_self hi]; simpa using RS.start a hr ho hB, by simp, by simp⟩
  generalize hN : rs.length + h.l.length = N
  have HN := hide hN
  clear a hi hr ho hB hN
  go_enter Try.func29, Try.ntmps29
  go_wp2
  go_loopw [2] (fun v wr => ∃ h' ps, Hid (RingI W d i h B v0 rs v wr h' ps)) (fun v _ => N - vlen v)
  case atStart => exact ⟨h, [], ST⟩
  case round =>
    generalize u2 = v at *
    obtain ⟨h', ps, R⟩ := hrel
    have REG := register_any R.out.1.at' (i : Int)
    rw [ring_reg hlt] at REG
    by_cases h0 : 0 < h'.l.length
    · rw [decide_eq_true h0] at REG
      have c0 := R.out.1.at'.c0
      by_cases hd : d.now < (at' h'.l 0).2
      · have REG := hide REG
        have FIN : Hid (∀ x ∈ h'.l, d.now < x.2) := hide (fun x hx => by
          have := le_key (R.out.1.at'.each i h' (wth_get hlt h')).heap hx
          omega)
        generalize (at' h'.l 0).2 = K at *
        have hd' : K > d.now := hd
        clear c0
        go_wp2_with (go_at_call 11; refine REG.out.mono ?_; rintro e w1 ⟨rfl, hw⟩; have R1 := hide (R.out.more hw); have c0 : w1.cell? ⟨d.ab, 0, none⟩ = some (.int .i64 d.now) := R1.out.1.at'.c0)
        go_ret
        exact ⟨_, h', ps, rfl, R1.out, FIN.out⟩
      · have REG := hide REG
        have PP := (fun w1 (r : RingI W d i h B v0 rs v w1 h' ps) => pop_ok (r.1.at'.each i h' (wth_get hlt h')) h0)
        unfold PopPost at PP
        have FIN : Hid (∀ w1 w2 v1 l1, RingI W d i h B v0 rs v w1 h' ps → HQ w2 h'.hb h'.mb 1024 false v1 l1 → (at' h'.l 0 :: l1).Perm h'.l → Turn w1 w2 h'.hb h'.mb h'.v v1 → RS W w2 d B v0 v (wth d i { h' with v := v1, l := l1 }) (rs ++ ps.map (tag i))) := hide (fun w1 w2 v1 l1 r q p T => ring_mid hlt r.1 q p T)
        have CI : Hid (∀ w1, RingI W d i h B v0 rs v w1 h' ps → w1.cell? ⟨d.rb, i, none⟩ = some (.pointer (some ⟨h'.hb, 0, none⟩)) ∧ w1.cell? ⟨d.ab, 1, none⟩ = some (.slice (some ⟨d.rb, 0, none⟩) d.hs.length d.hs.length) ∧ w1.cell? ⟨d.ab, 0, none⟩ = some (.int .i64 d.now)) := hide (fun w1 r => ⟨r.1.at'.ci (wth_get hlt h'), by have := r.1.at'.c1; rwa [wth_len] at this, r.1.at'.c0⟩)
        have HV : Hid (vlen v = rs.length + ps.length) := hide (by
          obtain ⟨p, c, e⟩ := R.out.1.row.shape
          rw [e]; simp [vlen])
        have HP : Hid (ps.length + h'.l.length = h.l.length) := hide (by have := R.out.2.1.length_eq; simpa using this)
        have H0 := hide h0
        generalize at' h'.l 0 = X at *
        obtain ⟨X1, X2⟩ := X
        have PP := hide PP
        have hd' : ¬ X2 > d.now := hd
        clear c0
        go_wp2_with (first
          | (go_at_call 11; refine REG.out.mono ?_; rintro e w1 ⟨rfl, hw⟩; have R1 := hide (R.out.more hw); obtain ⟨ci, c1, c0⟩ := CI.out _ R1.out)
          | (go_at_call 36; refine (PP.out _ R1.out).mono ?_; rintro e w2 ⟨rfl, v1, l1, q, p, T⟩; have R2 := hide (FIN.out _ _ _ _ R1.out q p T); have P := hide p; clear q p T c0 c1 ci)
          | (at_builtin; go_loud (refine wpList_rapp rfl _ _ rfl B ((i : Int), X1, X2) v (rs ++ ps.map (tag i)) rfl (by first | rfl | (simp [go_sem])) (by exact (R2.out.more ((Below.refl _ _).alloc (Nat.le_refl _) _)).row) (by exact (R2.out.more ((Below.refl _ _).alloc (Nat.le_refl _) _)).hB) (by have := HP.out; have := HL.out; simp; omega) ?_; intro p3 c3 w3 HA)))
        have R3 := hide ((R2.out.more ((Below.refl _ _).alloc (Nat.le_refl _) _)).app HA.out.1 HA.out.2.1 (by
          rcases HA.out.2.2 with e | e
          · exact .inl e
          · exact .inr ⟨_, e, by omega⟩))
        have FI : Hid (RingI W d i h B v0 rs (.slice p3 (rs.length + ps.length + 1) c3) w3 { h' with v := v1, l := l1 } (ps ++ [(X1, X2)])) := hide (by
          refine ⟨?_, ?_, ?_⟩
          · have := R3.out
            rw [List.length_append, List.length_map] at this
            simpa [List.append_assoc, tag] using this
          · refine List.Perm.trans ?_ R.out.2.1
            rw [List.append_assoc]
            exact P.out.append_left ps
          · intro x hx
            rcases List.mem_append.1 hx with hx | hx
            · exact R.out.2.2 x hx
            · simp at hx; subst hx; show X2 ≤ d.now; omega)
        go_roundw
        case rel => exact ⟨_, _, FI⟩
        case measure =>
          have := HV.out; have := HP.out; have := H0.out; have := HN.out
          rw [HV.out]
          show N - (rs.length + ps.length + 1) < N - (rs.length + ps.length)
          omega
    · rw [decide_eq_false h0] at REG
      have REG := hide REG
      have FIN : Hid (∀ x ∈ h'.l, d.now < x.2) := hide (fun x hx => absurd (List.length_pos_of_mem hx) h0)
      generalize (at' h'.l 0).2 = K at *
      go_wp2_with (go_at_call 11; refine REG.out.mono ?_; rintro e w1 ⟨rfl, hw⟩; have R1 := hide (R.out.more hw))
      go_ret
      exact ⟨_, h', ps, rfl, R1.out, FIN.out⟩
end
end Go.Proofs.Ytmdendffbjhdbaa.Con
