/- A heap and the reference's side by side. -/
import Derived.Test.YtocgeplpehioeaaRfP
namespace Go.Proofs.Ytocgeplpehioeaa.Con
open Go.RowKit Go.Proofs.Ytocgeplpehioeaa.Hq
set_option linter.unusedVariables false
set_option linter.unusedSimpArgs false
def HFoot (hb mb : Nat) (v : Value) (k : Nat) : Prop := k = hb ∨ k = mb ∨ v.ownBlock = some k
def RFoot (rb : Nat) (rv : Value) (k : Nat) : Prop := k = rb ∨ rv.ownBlock = some k
structure PM (W0 W : World) (hb mb : Nat) (most : Int) (g : Bool) (v : Value) (l : List It) (rb : Nat) (rv : Value) (L : List It) (bs : List (Nat × Obj)) : Prop where
  hq : HQ W hb mb most g v l
  rf : Rf W rb most g rv L
  sep : ∀ k, RFoot rb rv k → ¬ HFoot hb mb v k
  far : ∀ k, (RFoot rb rv k ∨ HFoot hb mb v k) → W0.heap.size ≤ k
  below : Below W0.heap.size W0 W
  box : ∀ x ∈ bs, W.heap[x.1]? = some x.2 ∧ ¬ HFoot hb mb v x.1 ∧ ¬ RFoot rb rv x.1
section
variable {W0 W W' : World} {hb mb rb : Nat} {most : Int} {g : Bool} {v v' rv rv' : Value} {l l' L L' : List It} {bs : List (Nat × Obj)}
theorem PM.hlt (h : PM W0 W hb mb most g v l rb rv L bs) {k : Nat} (hk : HFoot hb mb v k) : k < W.heap.size := by
  rcases hk with rfl | rfl | hk
  · exact h.hq.hp.lt
  · exact h.hq.hp.map.lt
  · exact (h.hq.hp.row.blk hk).1
theorem PM.rlt (h : PM W0 W hb mb most g v l rb rv L bs) {k : Nat} (hk : RFoot rb rv k) : k < W.heap.size := by
  rcases hk with rfl | hk
  · exact h.rf.lt
  · exact (h.rf.own k hk).1
theorem PM.hturn (h : PM W0 W hb mb most g v l rb rv L bs) (hT : Turn W W' hb mb v v') (hq : HQ W' hb mb most g v' l') : PM W0 W' hb mb most g v' l' rb rv L bs := by
  have hz := h.below.size
  have hnew : ∀ k, HFoot hb mb v' k → HFoot hb mb v k ∨ W.heap.size ≤ k := by
    rintro k (rfl | rfl | hk)
    · exact .inl (.inl rfl)
    · exact .inl (.inr (.inl rfl))
    · rcases hT.own k hk with e | e
      · exact .inl (.inr (.inr e))
      · exact .inr e
  have hold : ∀ k, k < W.heap.size → ¬ HFoot hb mb v k → W'.heap[k]? = W.heap[k]? := fun k hk hf => hT.block k hk (fun e => hf (.inl e)) (fun e => hf (.inr (.inl e))) (fun e => hf (.inr (.inr e.symm)))
  refine ⟨hq, h.rf.kept hT.size fun k hk hc => hold k hk (h.sep k hc), ?_, ?_, ?_, ?_⟩
  · intro k hk hf
    rcases hnew k hf with e | e
    · exact h.sep k hk e
    · have := h.rlt hk; omega
  · rintro k (hk | hk)
    · exact h.far k (.inl hk)
    · rcases hnew k hk with e | e
      · exact h.far k (.inr e)
      · omega
  · exact h.below.trans ⟨hT.os, hT.tape, hT.output, hT.size, fun k hk => hold k (by omega) fun hf => by have := h.far k (.inr hf); omega⟩
  · intro x hx
    obtain ⟨h1, h2, h3⟩ := h.box x hx
    have hlt : x.1 < W.heap.size := (Array.getElem?_eq_some_iff.1 h1).1
    refine ⟨(hold x.1 hlt h2).trans h1, fun hf => ?_, h3⟩
    rcases hnew _ hf with e | e
    · exact h2 e
    · omega
theorem PM.rturn (h : PM W0 W hb mb most g v l rb rv L bs) (ho : W'.os = W.os) (ht : W'.tape = W.tape) (hu : W'.output = W.output) (hs : W.heap.size ≤ W'.heap.size) (hbk : ∀ k, k < W.heap.size → k ≠ rb → W'.heap[k]? = W.heap[k]?)
    (hown : ∀ k, rv'.ownBlock = some k → rv.ownBlock = some k ∨ W.heap.size ≤ k) (rf : Rf W' rb most g rv' L') : PM W0 W' hb mb most g v l rb rv' L' bs := by
  have hz := h.below.size
  have hnew : ∀ k, RFoot rb rv' k → RFoot rb rv k ∨ W.heap.size ≤ k := by
    rintro k (rfl | hk)
    · exact .inl (.inl rfl)
    · rcases hown k hk with e | e
      · exact .inl (.inr e)
      · exact .inr e
  have hnr : ∀ k, HFoot hb mb v k → k ≠ rb := by
    rintro k hk rfl
    exact h.sep k (.inl rfl) hk
  refine ⟨⟨h.hq.hp.kept fun k hk hc => hbk k hk (hnr k hc), h.hq.heap, h.hq.room, h.hq.lo, h.hq.hi⟩, rf, ?_, ?_, ?_, ?_⟩
  · intro k hk hf
    rcases hnew k hk with e | e
    · exact h.sep k e hf
    · have := h.hlt hf; omega
  · rintro k (hk | hk)
    · rcases hnew k hk with e | e
      · exact h.far k (.inl e)
      · omega
    · exact h.far k (.inr hk)
  · exact h.below.trans ⟨ho, ht, hu, hs, fun k hk => hbk k (by omega) fun e => by have := h.far k (.inl (.inl e)); omega⟩
  · intro x hx
    obtain ⟨h1, h2, h3⟩ := h.box x hx
    have hlt : x.1 < W.heap.size := (Array.getElem?_eq_some_iff.1 h1).1
    refine ⟨(hbk x.1 hlt fun e => h3 (.inl e)).trans h1, h2, fun hf => ?_⟩
    rcases hnew _ hf with e | e
    · exact h3 e
    · omega
theorem PM.rt (h : PM W0 W hb mb most g v l rb rv L bs) (hR : RT W W' rb rv') (rf : Rf W' rb most g rv' L') : PM W0 W' hb mb most g v l rb rv' L' bs :=
  h.rturn hR.os hR.tape hR.output hR.size hR.block (fun k e => .inr (hR.own k e)) rf
theorem PM.more (h : PM W0 W hb mb most g v l rb rv L bs) (hB : Below W.heap.size W W') : PM W0 W' hb mb most g v l rb rv L bs :=
  ⟨h.hq.below hB, h.rf.below hB, h.sep, h.far, h.below.trans (hB.mono h.below.size), fun x hx => by
    obtain ⟨h1, h2⟩ := h.box x hx
    exact ⟨(hB.block x.1 (Array.getElem?_eq_some_iff.1 h1).1).trans h1, h2⟩⟩
theorem PM.drew (h : PM W0 W hb mb most g v l rb rv L bs) : PM W0 W.drew hb mb most g v l rb rv L bs := h.more (bel_drew (Below.refl _ _))
theorem PM.drewN (h : PM W0 W hb mb most g v l rb rv L bs) (n : Nat) : PM W0 (W.drewN n) hb mb most g v l rb rv L bs := h.more (below_drewN (Below.refl _ _) n)
theorem PM.lay (h : PM W0 W hb mb most g v l rb rv L bs) (o : Obj) : PM W0 (W.alloc o) hb mb most g v l rb rv L ((W.heap.size, o) :: bs) := by
  have h' := h.more (W' := W.alloc o) ((Below.refl _ _).alloc (Nat.le_refl _) _)
  refine { h' with box := fun y hy => ?_ }
  rcases List.mem_cons.1 hy with rfl | hy
  · exact ⟨heap_alloc_new W _, fun hf => by have := h.hlt hf; simp at this, fun hf => by have := h.rlt hf; simp at this⟩
  · exact h'.box y hy
theorem PM.sub (h : PM W0 W hb mb most g v l rb rv L bs) {cs : List (Nat × Obj)} (hs : ∀ x ∈ cs, x ∈ bs) : PM W0 W hb mb most g v l rb rv L cs := { h with box := fun x hx => h.box x (hs x hx) }
theorem PM.bare (h : PM W0 W hb mb most g v l rb rv L bs) : PM W0 W hb mb most g v l rb rv L [] := { h with box := fun x hx => by cases hx }
theorem PM.cell (h : PM W0 W hb mb most g v l rb rv L bs) {b j : Nat} {cs : Array Value} {t : TypeId} {u : Value} (hm : (b, Obj.cells cs t (0, 0)) ∈ bs) (hj : cs[j]? = some u) : W.cell? ⟨b, j, none⟩ = some u := by
  rw [cell_of_row W b j cs t _ (h.box _ hm).1]; exact hj
theorem PM.ids (h : PM W0 W hb mb most g v l rb rv L bs) (hp : l.Perm L) : Ids L := h.hq.hp.ids.perm hp.symm
/- What each call answers, and what is there behind it. -/
def PutRel (most : Int) (l : List It) (x : It) (c : Int) (l1 : List It) : Prop :=
  ((∃ y ∈ l, y.1 = x.1) ∧ c = 5 ∧ l1 = l) ∨ ((∀ y ∈ l, y.1 ≠ x.1) ∧ most ≤ l.length ∧ c = 3 ∧ l1 = l) ∨ ((∀ y ∈ l, y.1 ≠ x.1) ∧ ¬ most ≤ l.length ∧ c = 0 ∧ l1.Perm (x :: l))
theorem put_cases (most : Int) (l : List It) (x : It) : (∃ y ∈ l, y.1 = x.1) ∨ ((∀ y ∈ l, y.1 ≠ x.1) ∧ most ≤ l.length) ∨ ((∀ y ∈ l, y.1 ≠ x.1) ∧ ¬ most ≤ l.length) := by
  by_cases h : ∃ y ∈ l, y.1 = x.1
  · exact .inl h
  · have h' : ∀ y ∈ l, y.1 ≠ x.1 := fun y hy e => h ⟨y, hy, e⟩
    by_cases h2 : most ≤ l.length
    · exact .inr (.inl ⟨h', h2⟩)
    · exact .inr (.inr ⟨h', h2⟩)
theorem put_same {x : It} {c d : Int} {l1 L1 : List It} (hp : l.Perm L) (h : PutRel most l x c l1) (k : PutRel most L x d L1) : c = d ∧ l1.Perm L1 := by
  have e1 : (∃ y ∈ l, y.1 = x.1) → (∃ y ∈ L, y.1 = x.1) := fun ⟨y, hy, e⟩ => ⟨y, hp.mem_iff.1 hy, e⟩
  have e2 : (∃ y ∈ L, y.1 = x.1) → (∃ y ∈ l, y.1 = x.1) := fun ⟨y, hy, e⟩ => ⟨y, hp.mem_iff.2 hy, e⟩
  have el := hp.length_eq
  rcases h with ⟨h1, rfl, rfl⟩ | ⟨h1, h2, rfl, rfl⟩ | ⟨h1, h2, rfl, h3⟩
  · rcases k with ⟨k1, rfl, rfl⟩ | ⟨k1, k2, rfl, rfl⟩ | ⟨k1, k2, rfl, k3⟩
    · exact ⟨rfl, hp⟩
    · obtain ⟨y, hy, e⟩ := e1 h1; exact absurd e (k1 y hy)
    · obtain ⟨y, hy, e⟩ := e1 h1; exact absurd e (k1 y hy)
  · rcases k with ⟨k1, rfl, rfl⟩ | ⟨k1, k2, rfl, rfl⟩ | ⟨k1, k2, rfl, k3⟩
    · obtain ⟨y, hy, e⟩ := e2 k1; exact absurd e (h1 y hy)
    · exact ⟨rfl, hp⟩
    · omega
  · rcases k with ⟨k1, rfl, rfl⟩ | ⟨k1, k2, rfl, rfl⟩ | ⟨k1, k2, rfl, k3⟩
    · obtain ⟨y, hy, e⟩ := e2 k1; exact absurd e (h1 y hy)
    · omega
    · exact ⟨rfl, h3.trans ((hp.cons _).trans k3.symm)⟩
theorem pm_hput (h : PM W0 W hb mb most g v l rb rv L bs) (id key : Int) (hid : in64 id) (hkey : in64 key) :
    Calls Try.prog 10 #[.pointer (some ⟨hb, 0, none⟩), .int .i64 id, .int .i64 key] W fun e w' => ∃ c v1 l1, e = .returned (.int .i64 c) ∧ Hid (PutRel most l (id, key) c l1) ∧ Hid (PM W0 w' hb mb most g v1 l1 rb rv L bs) := by
  rcases put_cases most l (id, key) with h1 | ⟨h1, h2⟩ | ⟨h1, h2⟩
  · refine (put_busy h.hq id key hid h1).mono ?_
    rintro e w' ⟨rfl, rfl⟩
    exact ⟨5, v, l, rfl, hide (.inl ⟨h1, rfl, rfl⟩), hide h⟩
  · refine (put_full h.hq id key hid h1 h2).mono ?_
    rintro e w' ⟨rfl, rfl⟩
    exact ⟨3, v, l, rfl, hide (.inr (.inl ⟨h1, h2, rfl, rfl⟩)), hide h⟩
  · refine (put_ok h.hq id key hid hkey h1 (by omega)).mono ?_
    rintro e w' ⟨rfl, v', l', hQ, hp, hT⟩
    exact ⟨0, v', l', rfl, hide (.inr (.inr ⟨h1, h2, rfl, hp⟩)), hide (h.hturn hT hQ)⟩
theorem pm_rput (h : PM W0 W hb mb most g v l rb rv L bs) (hd : Ids L) (id key : Int) :
    Calls Try.prog 19 #[.pointer (some ⟨rb, 0, none⟩), .int .i64 id, .int .i64 key] W fun e w' => ∃ c rv1 L1, e = .returned (.int .i64 c) ∧ Hid (PutRel most L (id, key) c L1 ∧ (Asc g L → Asc g L1)) ∧ Hid (PM W0 w' hb mb most g v l rb rv1 L1 bs) := by
  rcases put_cases most L (id, key) with h1 | ⟨h1, h2⟩ | ⟨h1, h2⟩
  · refine (rput_busy h.rf hd id key h1).mono ?_
    rintro e w' ⟨rfl, rfl⟩
    exact ⟨5, rv, L, rfl, hide ⟨.inl ⟨h1, rfl, rfl⟩, fun a => a⟩, hide h⟩
  · refine (rput_full h.rf hd id key h1 h2).mono ?_
    rintro e w' ⟨rfl, hB⟩
    exact ⟨3, rv, L, rfl, hide ⟨.inr (.inl ⟨h1, h2, rfl, rfl⟩), fun a => a⟩, hide (h.more hB)⟩
  · refine (rput_ok h.rf hd id key h1 h2 h.hq.hi).mono ?_
    rintro e w' ⟨rfl, v', L', r1, r2, r3, r4⟩
    exact ⟨0, v', L', rfl, hide ⟨.inr (.inr ⟨h1, h2, rfl, r3⟩), r4⟩, hide (h.rt r2 r1)⟩
def SetRel (l : List It) (x : It) (c : Int) (l1 : List It) : Prop :=
  (∃ y l0, y.1 = x.1 ∧ (y :: l0).Perm l ∧ l1.Perm (x :: l0) ∧ c = 0) ∨ ((∀ y ∈ l, y.1 ≠ x.1) ∧ c = 2 ∧ l1 = l)
theorem one_out {y z : It} {l0 L0 : List It} (hd : Ids l) (hp : l.Perm L) (e : y.1 = z.1) (h1 : (y :: l0).Perm l) (h2 : (z :: L0).Perm L) : y = z ∧ l0.Perm L0 := by
  have my : y ∈ l := h1.mem_iff.1 (by simp)
  have mz : z ∈ l := hp.mem_iff.2 (h2.mem_iff.1 (by simp))
  obtain ⟨i, hi, rfl⟩ := mem_at my
  obtain ⟨j, hj, rfl⟩ := mem_at mz
  obtain rfl := hd.inj hi hj e
  exact ⟨rfl, (List.perm_cons _).1 ((h1.trans hp).trans h2.symm)⟩
theorem set_same {x : It} {c d : Int} {l1 L1 : List It} (hd : Ids l) (hp : l.Perm L) (h : SetRel l x c l1) (k : SetRel L x d L1) : c = d ∧ l1.Perm L1 := by
  rcases h with ⟨y, l0, h1, h2, h3, rfl⟩ | ⟨h1, rfl, rfl⟩
  · rcases k with ⟨z, L0, k1, k2, k3, rfl⟩ | ⟨k1, rfl, rfl⟩
    · obtain ⟨_, e⟩ := one_out hd hp (h1.trans k1.symm) h2 k2
      exact ⟨rfl, h3.trans ((e.cons _).trans k3.symm)⟩
    · exact absurd h1 (k1 y (hp.mem_iff.1 (h2.mem_iff.1 (by simp))))
  · rcases k with ⟨z, L0, k1, k2, k3, rfl⟩ | ⟨k1, rfl, rfl⟩
    · exact absurd k1 (h1 z (hp.mem_iff.2 (k2.mem_iff.1 (by simp))))
    · exact ⟨rfl, hp⟩
theorem setK_perm {x : It} (hd : Ids l) {y : It} (hy : y ∈ l) (e : y.1 = x.1) : ∃ l0, (y :: l0).Perm l ∧ (setK l x.1 x.2).Perm (x :: l0) := by
  have hp := List.perm_cons_erase hy
  refine ⟨l.erase y, hp.symm, ?_⟩
  unfold setK
  refine (hp.map _).trans ?_
  rw [List.map_cons, if_pos e]
  have : (l.erase y).map (fun z => if z.1 = x.1 then (x.1, x.2) else z) = l.erase y := by
    refine (List.map_congr_left ?_).trans (List.map_id _)
    intro z hz
    rw [if_neg]
    · rfl
    · intro e2
      have hd2 := hd.perm hp.symm
      unfold Ids at hd2
      rw [List.map_cons, List.nodup_cons] at hd2
      exact hd2.1 (List.mem_map.2 ⟨z, hz, e2.trans e.symm⟩)
  rw [this]
theorem pm_hset (h : PM W0 W hb mb most g v l rb rv L bs) (id key : Int) (hid : in64 id) (hkey : in64 key) :
    Calls Try.prog 11 #[.pointer (some ⟨hb, 0, none⟩), .int .i64 id, .int .i64 key] W fun e w' => ∃ c v1 l1, e = .returned (.int .i64 c) ∧ Hid (SetRel l (id, key) c l1) ∧ Hid (PM W0 w' hb mb most g v1 l1 rb rv L bs) := by
  by_cases h1 : ∃ y ∈ l, y.1 = id
  · refine (set_ok h.hq id key hid hkey h1).mono ?_
    rintro e w' ⟨rfl, v', l', hQ, hp, hT⟩
    obtain ⟨y, hy, e⟩ := h1
    obtain ⟨l0, q1, q2⟩ := setK_perm (x := (id, key)) h.hq.hp.ids hy e
    exact ⟨0, v', l', rfl, hide (.inl ⟨y, l0, e, q1, hp.trans q2, rfl⟩), hide (h.hturn hT hQ)⟩
  · have h2 : ∀ y ∈ l, y.1 ≠ id := fun y hy e => h1 ⟨y, hy, e⟩
    refine (set_none h.hq id key hid h2).mono ?_
    rintro e w' ⟨rfl, rfl⟩
    exact ⟨2, v, l, rfl, hide (.inr ⟨h2, rfl, rfl⟩), hide h⟩
theorem pm_rset (h : PM W0 W hb mb most g v l rb rv L bs) (hd : Ids L) (id key : Int) :
    Calls Try.prog 20 #[.pointer (some ⟨rb, 0, none⟩), .int .i64 id, .int .i64 key] W fun e w' => ∃ c rv1 L1, e = .returned (.int .i64 c) ∧ Hid (SetRel L (id, key) c L1 ∧ (Asc g L → Asc g L1)) ∧ Hid (PM W0 w' hb mb most g v l rb rv1 L1 bs) := by
  by_cases h1 : ∃ y ∈ L, y.1 = id
  · refine (rset_ok h.rf hd id key h1).mono ?_
    rintro e w' ⟨rfl, v', y, L0, L', r1, r2, r3, r4, r5, r6⟩
    exact ⟨0, v', L', rfl, hide ⟨.inl ⟨y, L0, r3, r4, r5, rfl⟩, r6⟩, hide (h.rt r2 r1)⟩
  · have h2 : ∀ y ∈ L, y.1 ≠ id := fun y hy e => h1 ⟨y, hy, e⟩
    refine (rset_none h.rf hd id key h2).mono ?_
    rintro e w' ⟨rfl, rfl⟩
    exact ⟨2, rv, L, rfl, hide ⟨.inr ⟨h2, rfl, rfl⟩, fun a => a⟩, hide h⟩
def DropRel (l : List It) (id : Int) (c : Bool) (l1 : List It) : Prop :=
  (∃ y, y.1 = id ∧ (y :: l1).Perm l ∧ c = true) ∨ ((∀ y ∈ l, y.1 ≠ id) ∧ c = false ∧ l1 = l)
theorem drop_same {id : Int} {c d : Bool} {l1 L1 : List It} (hd : Ids l) (hp : l.Perm L) (h : DropRel l id c l1) (k : DropRel L id d L1) : c = d ∧ l1.Perm L1 := by
  rcases h with ⟨y, h1, h2, rfl⟩ | ⟨h1, rfl, rfl⟩
  · rcases k with ⟨z, k1, k2, rfl⟩ | ⟨k1, rfl, rfl⟩
    · exact ⟨rfl, (one_out hd hp (h1.trans k1.symm) h2 k2).2⟩
    · exact absurd h1 (k1 y (hp.mem_iff.1 (h2.mem_iff.1 (by simp))))
  · rcases k with ⟨z, k1, k2, rfl⟩ | ⟨k1, rfl, rfl⟩
    · exact absurd k1 (h1 z (hp.mem_iff.2 (k2.mem_iff.1 (by simp))))
    · exact ⟨rfl, hp⟩
theorem pm_hdrop (h : PM W0 W hb mb most g v l rb rv L bs) (id : Int) (hid : in64 id) :
    Calls Try.prog 12 #[.pointer (some ⟨hb, 0, none⟩), .int .i64 id] W fun e w' => ∃ c v1 l1, e = .returned (.bool c) ∧ Hid (DropRel l id c l1) ∧ Hid (PM W0 w' hb mb most g v1 l1 rb rv L bs) := by
  by_cases h1 : ∃ y ∈ l, y.1 = id
  · refine (drop_ok h.hq id hid h1).mono ?_
    rintro e w' ⟨rfl, v', x, l', hQ, hx, hp, hT⟩
    exact ⟨true, v', l', rfl, hide (.inl ⟨x, hx, hp, rfl⟩), hide (h.hturn hT hQ)⟩
  · have h2 : ∀ y ∈ l, y.1 ≠ id := fun y hy e => h1 ⟨y, hy, e⟩
    refine (drop_none h.hq id hid h2).mono ?_
    rintro e w' ⟨rfl, rfl⟩
    exact ⟨false, v, l, rfl, hide (.inr ⟨h2, rfl, rfl⟩), hide h⟩
theorem pm_rdrop (h : PM W0 W hb mb most g v l rb rv L bs) (hd : Ids L) (id : Int) :
    Calls Try.prog 21 #[.pointer (some ⟨rb, 0, none⟩), .int .i64 id] W fun e w' => ∃ c rv1 L1, e = .returned (.bool c) ∧ Hid (DropRel L id c L1 ∧ (Asc g L → Asc g L1)) ∧ Hid (PM W0 w' hb mb most g v l rb rv1 L1 bs) := by
  by_cases h1 : ∃ y ∈ L, y.1 = id
  · obtain ⟨y, hy, he⟩ := h1
    obtain ⟨i, hi, rfl⟩ := mem_at hy
    refine (rdrop_some h.rf hd id i hi he).mono ?_
    rintro e w' ⟨rfl, v', L', r1, r2, r3, r4⟩
    exact ⟨true, v', L', rfl, hide ⟨.inl ⟨_, he, r3, rfl⟩, r4⟩, hide (h.rt r2 r1)⟩
  · have h2 : ∀ y ∈ L, y.1 ≠ id := fun y hy e => h1 ⟨y, hy, e⟩
    refine (rdrop_none h.rf hd id h2).mono ?_
    rintro e w' ⟨rfl, rfl⟩
    exact ⟨false, rv, L, rfl, hide ⟨.inr ⟨h2, rfl, rfl⟩, fun a => a⟩, hide h⟩
end
theorem RdC.fromAt {W : World} {B size n cap k : Nat} {p : Option Addr} {xs : List Value} (h : RdC W B size (.slice p n cap) n xs) (hk : k ≤ n) :
    RdC W B size (.slice (if cap = k then p else p.map (·.add (k * size))) (n - k) (cap - k)) (n - k) (xs.drop (k * size)) ∧ ∀ j, (Value.slice (if cap = k then p else p.map (·.add (k * size))) (n - k) (cap - k)).ownBlock = some j → (Value.slice p n cap).ownBlock = some j := by
  obtain ⟨h1, p', cap', e, h2, h3, h4⟩ := h
  simp only [Value.slice.injEq, true_and] at e
  obtain ⟨rfl, rfl⟩ := e
  refine ⟨⟨?_, _, cap - k, rfl, by omega, by omega, fun h0 => ?_⟩, ?_⟩
  · rw [List.length_drop, h1, Nat.sub_mul]
  · obtain ⟨b, o, rfl, hb, hc⟩ := h4 (by omega)
    rw [if_neg (by omega)]
    refine ⟨b, o + k * size, by simp [Addr.add], hb, fun j u hu => ?_⟩
    rw [List.getElem?_drop] at hu
    have := hc (k * size + j) u hu
    rw [show o + k * size + j = o + (k * size + j) by omega]; exact this
  · intro j hj
    split at hj
    · cases p <;> exact hj
    · cases p with
      | none => simp [Value.ownBlock] at hj
      | some a => simp [Value.ownBlock, Addr.add] at hj ⊢; split at hj <;> exact hj
section
variable {W0 W W' : World} {hb mb rb : Nat} {most : Int} {g : Bool} {v v' rv rv' : Value} {l l' L L' : List It} {bs : List (Nat × Obj)}
theorem top_same (h : HQ W hb mb most g v l) (hp : l.Perm L) (ha : Asc g L) : at' l 0 = at' L 0 := by
  rcases Nat.eq_zero_or_pos L.length with h0 | h0
  · have e1 : L = [] := List.eq_nil_of_length_eq_zero h0
    have e2 : l = [] := List.eq_nil_of_length_eq_zero (by rw [hp.length_eq]; exact h0)
    rw [e1, e2]
  · refine top_is h.heap (hp.mem_iff.2 (at_mem h0)) ?_
    intro y hy
    obtain ⟨i, hi, rfl⟩ := mem_at (hp.mem_iff.1 hy)
    unfold Asc at ha
    rw [List.pairwise_iff_getElem] at ha
    have ge : ∀ k (hk : k < L.length), L[k] = at' L k := by
      intro k hk
      have := at_eq hk
      rw [List.getElem?_eq_getElem hk] at this
      simpa using this
    rcases Nat.eq_zero_or_pos i with rfl | hi0
    · exact le_refl _ _
    · have := ha 0 i h0 hi hi0
      rwa [ge 0 h0, ge i hi] at this
theorem pm_hpop (h : PM W0 W hb mb most g v l rb rv L bs) (hp : l.Perm L) (ha : Asc g L) (h0 : 0 < L.length) :
    Calls Try.prog 13 #[.pointer (some ⟨hb, 0, none⟩)] W fun e w' => e = .returned (.tuple #[.agg #[.int .i64 (at' L 0).1, .int .i64 (at' L 0).2], .bool true]) ∧ ∃ v1 l1, Hid (l1.Perm (L.drop 1)) ∧ Hid (PM W0 w' hb mb most g v1 l1 rb rv L bs) := by
  have ht := top_same h.hq hp ha
  refine (pop_ok h.hq (by rw [hp.length_eq]; exact h0)).mono ?_
  rintro e w' ⟨rfl, v', l', hQ, hpp, hT⟩
  rw [ht] at hpp
  refine ⟨by rw [ht], v', l', hide ?_, hide (h.hturn hT hQ)⟩
  have hd : L = at' L 0 :: L.drop 1 := by
    have := List.drop_eq_getElem_cons h0
    rw [List.drop_zero] at this
    have h2 := at_eq h0
    rw [List.getElem?_eq_getElem h0] at h2
    simp only [Option.some.injEq] at h2
    rw [h2] at this
    exact this
  have h3 := hpp.trans hp
  rw [hd] at h3
  exact (List.perm_cons _).1 h3
theorem pm_hpop0 (h : PM W0 W hb mb most g v l rb rv L bs) (hp : l.Perm L) (h0 : L.length = 0) :
    Calls Try.prog 13 #[.pointer (some ⟨hb, 0, none⟩)] W fun e w' => e = .returned (.tuple #[.agg #[.int .i64 0, .int .i64 0], .bool false]) ∧ Hid (PM W0 w' hb mb most g v l rb rv L bs) := by
  refine (pop_none h.hq (List.eq_nil_of_length_eq_zero (by rw [hp.length_eq]; exact h0))).mono ?_
  rintro e w' ⟨rfl, hB⟩
  exact ⟨rfl, hide (h.more hB)⟩
theorem pm_htop (h : PM W0 W hb mb most g v l rb rv L bs) (hp : l.Perm L) (ha : Asc g L) :
    Calls Try.prog 14 #[.pointer (some ⟨hb, 0, none⟩)] W fun e w' => e = .returned (.tuple #[.agg #[.int .i64 (at' L 0).1, .int .i64 (at' L 0).2], .bool (decide (0 < L.length))]) ∧ Hid (PM W0 w' hb mb most g v l rb rv L bs) := by
  refine (top_any h.hq).mono ?_
  rintro e w' ⟨rfl, hB⟩
  exact ⟨by rw [top_same h.hq hp ha, hp.length_eq], hide (h.more hB)⟩
theorem pm_hkey (h : PM W0 W hb mb most g v l rb rv L bs) (hp : l.Perm L) (i : Nat) (hi : i < L.length) :
    Calls Try.prog 15 #[.pointer (some ⟨hb, 0, none⟩), .int .i64 (at' L i).1] W fun e w' => e = .returned (.tuple #[.int .i64 (at' L i).2, .bool true]) ∧ w' = W := key_some h.hq (at' L i) (hp.mem_iff.2 (at_mem hi))
theorem pm_hkey0 (h : PM W0 W hb mb most g v l rb rv L bs) (hp : l.Perm L) (id : Int) (hid : in64 id) (hth : ∀ y ∈ L, y.1 ≠ id) :
    Calls Try.prog 15 #[.pointer (some ⟨hb, 0, none⟩), .int .i64 id] W fun e w' => e = .returned (.tuple #[.int .i64 0, .bool false]) ∧ w' = W := key_none h.hq id hid fun y hy => hth y (hp.mem_iff.1 hy)
theorem pm_hlen (h : PM W0 W hb mb most g v l rb rv L bs) (hp : l.Perm L) :
    Calls Try.prog 17 #[.pointer (some ⟨hb, 0, none⟩)] W fun e w' => e = .returned (.int .i64 L.length) ∧ w' = W := by
  have := len_any h.hq
  rwa [hp.length_eq] at this
/-- The first one struck off the reference's row. -/
theorem PM.tail (h : PM W0 W hb mb most g v l rb rv L bs) {p : Option Addr} {m c : Nat} (hr : RdC W W.heap.size 2 (.slice p m c) m ((flat L).drop 2)) (hm : m = L.length - 1) (h0 : 0 < L.length) (ho : ∀ j, (Value.slice p m c).ownBlock = some j → rv.ownBlock = some j) :
    PM W0 (W.setCell ⟨rb, 2, none⟩ (.slice p m c)) hb mb most g v l rb (.slice p m c) (L.drop 1) bs := by
  have hs3 := h.rf.str
  have hold : ∀ k, k ≠ rb → (W.setCell ⟨rb, 2, none⟩ (.slice p m c)).heap[k]? = W.heap[k]? := fun k hk => heap_setCell_other W _ k _ hk
  refine h.rturn rfl rfl rfl (by simp) (fun k _ hk => hold k hk) (fun k e => .inl (ho k e)) ⟨?_, ?_, ?_, ?_⟩
  · rw [heap_setCell_same W rb 2 _ _ _ hs3]; rfl
  · have e1 : (L.drop 1).length = m := by rw [List.length_drop, hm]
    have e2 : flat (L.drop 1) = (flat L).drop 2 := (flat_drop L 1 h0).symm
    rw [e1, e2]
    obtain ⟨h1, p', cap, e, h2, h3, h4⟩ := hr
    simp only [Value.slice.injEq] at e
    obtain ⟨rfl, _, rfl⟩ := e
    refine ⟨h1, p, c, rfl, h2, h3, fun h0 => ?_⟩
    obtain ⟨b, o, rfl, hb', hc⟩ := h4 h0
    refine ⟨b, o, rfl, by simpa using hb', fun j u hu => ?_⟩
    have hne : b ≠ rb := (h.rf.own b (ho b rfl)).2
    rw [World.cell?_of_block (hold b hne)]
    exact hc j u hu
  · intro k e
    obtain ⟨a1, a2⟩ := h.rf.own k (ho k e)
    exact ⟨by simpa using a1, a2⟩
  · have := h.rf.len; simp; omega
end
end Go.Proofs.Ytocgeplpehioeaa.Con
