/- Alarms in memory: heaps side by side, a row of them. -/
import Derived.Test.YtmdendffbjhdbaaHPop
namespace Go.Proofs.Ytmdendffbjhdbaa.Con
open Go.RowKit Go.Proofs.Ytmdendffbjhdbaa.Hq
set_option linter.unusedVariables false
set_option linter.unusedSimpArgs false
/-- A heap: where it lies, what it holds. -/
structure HD where
  hb : Nat
  mb : Nat
  v : Value
  l : List It
def HD.At (d : HD) (W : World) : Prop := HQ W d.hb d.mb 1024 false d.v d.l
def HD.Foot (d : HD) (k : Nat) : Prop := k = d.hb ∨ k = d.mb ∨ d.v.ownBlock = some k
theorem HD.At.lt {d : HD} {W : World} (h : d.At W) {k : Nat} (hk : d.Foot k) : k < W.heap.size := by
  rcases hk with rfl | rfl | hk
  · exact HQ.hp h |>.lt
  · exact HQ.hp h |>.map.lt
  · exact (HQ.hp h |>.row.blk hk).1
/-- What a call may turn: what lies in f; what is new lies in f'. -/
structure Stp (W W' : World) (f f' : Nat → Prop) : Prop where
  os : W'.os = W.os
  tape : W'.tape = W.tape
  output : W'.output = W.output
  size : W.heap.size ≤ W'.heap.size
  block : ∀ k, k < W.heap.size → ¬ f k → W'.heap[k]? = W.heap[k]?
  foot : ∀ k, f' k → f k ∨ W.heap.size ≤ k
theorem Stp.of {W W' : World} {d : HD} {v' : Value} {l' : List It} (h : Turn W W' d.hb d.mb d.v v') : Stp W W' d.Foot (HD.Foot { d with v := v', l := l' }) where
  os := h.os
  tape := h.tape
  output := h.output
  size := h.size
  block := fun k hk hf => h.block k hk (fun e => hf (.inl e)) (fun e => hf (.inr (.inl e))) (fun e => hf (.inr (.inr e.symm)))
  foot := fun k hk => by
    rcases hk with hk | hk | hk
    · exact .inl (.inl hk)
    · exact .inl (.inr (.inl hk))
    · rcases h.own k hk with e | e
      · exact .inl (.inr (.inr e))
      · exact .inr e
theorem Stp.below {W W' : World} (h : Below W.heap.size W W') (f : Nat → Prop) : Stp W W' f f := ⟨h.os, h.tape, h.output, h.size, fun k hk _ => h.block k hk, fun _ e => .inl e⟩
theorem Stp.trans {W W' W'' : World} {f f' f'' : Nat → Prop} (h : Stp W W' f f') (k : Stp W' W'' f' f'') : Stp W W'' f f'' := by
  have s := h.size
  refine ⟨k.os.trans h.os, k.tape.trans h.tape, k.output.trans h.output, Nat.le_trans h.size k.size, fun i hi hn => ?_, fun i hi => ?_⟩
  · refine (k.block i (by omega) fun e => ?_).trans (h.block i hi hn)
    rcases h.foot i e with e | e
    · exact hn e
    · omega
  · rcases k.foot i hi with e | e
    · exact h.foot i e
    · exact .inr (by omega)
def Sep (d e : HD) : Prop := ∀ k, d.Foot k → ¬ e.Foot k
theorem HD.At.stp {d d' e : HD} {W W' : World} (he : e.At W) (hs : Sep d e) (h : Stp W W' d.Foot d'.Foot) : e.At W' ∧ Sep d' e := by
  refine ⟨⟨(HQ.hp he).kept fun k hk hc => h.block k hk fun hf => hs k hf hc, he.heap, he.room, he.lo, he.hi⟩, ?_⟩
  intro k hk hf
  rcases h.foot k hk with h1 | h1
  · exact hs k h1 hf
  · have := he.lt hf; omega
def ptr (h : HD) : Value := .pointer (some ⟨h.hb, 0, none⟩)
/-- Alarms: where they lie, the tick, the heaps. -/
structure AD where
  ab : Nat
  rb : Nat
  now : Int
  hs : List HD
def AD.Foot (d : AD) (k : Nat) : Prop := k = d.ab ∨ k = d.rb ∨ ∃ h ∈ d.hs, h.Foot k
def top2 : Int := 4611686018427387904
structure AD.At (d : AD) (W : World) : Prop where
  str : W.heap[d.ab]? = some (.cells #[.int .i64 d.now, .slice (some ⟨d.rb, 0, none⟩) d.hs.length d.hs.length] 56 (0, 0))
  row : W.heap[d.rb]? = some (.cells (d.hs.map ptr).toArray 57 (0, 0))
  each : ∀ (i : Nat) (h : HD), d.hs[i]? = some h → h.At W
  sep : ∀ (i j : Nat) (h k : HD), i ≠ j → d.hs[i]? = some h → d.hs[j]? = some k → Sep h k
  far : ∀ h ∈ d.hs, ¬ h.Foot d.ab ∧ ¬ h.Foot d.rb
  fit : ∀ h ∈ d.hs, ∀ x ∈ h.l, 0 ≤ x.1 ∧ x.1 < 1024 ∧ 0 ≤ x.2 ∧ x.2 ≤ top2
  lo : 1 ≤ d.hs.length
  hi : d.hs.length ≤ 64
  t0 : 0 ≤ d.now
  t1 : d.now ≤ top2
section
variable {W W' : World} {d : AD} {h h' : HD} {i : Nat}
theorem AD.At.ne (a : d.At W) : d.ab ≠ d.rb := by
  intro e
  have := a.str
  rw [e, a.row] at this
  simp at this
theorem AD.At.la (a : d.At W) : d.ab < W.heap.size := (Array.getElem?_eq_some_iff.1 a.str).1
theorem AD.At.lr (a : d.At W) : d.rb < W.heap.size := (Array.getElem?_eq_some_iff.1 a.row).1
theorem AD.At.lt (a : d.At W) {k : Nat} (hk : d.Foot k) : k < W.heap.size := by
  rcases hk with rfl | rfl | ⟨h, hm, hk⟩
  · exact a.la
  · exact a.lr
  · obtain ⟨i, hi⟩ := List.getElem?_of_mem hm
    exact (a.each i h hi).lt hk
theorem AD.At.c0 (a : d.At W) : W.cell? ⟨d.ab, 0, none⟩ = some (.int .i64 d.now) := by rw [cell_of_row W _ _ _ _ _ a.str]; rfl
theorem AD.At.c1 (a : d.At W) : W.cell? ⟨d.ab, 1, none⟩ = some (.slice (some ⟨d.rb, 0, none⟩) d.hs.length d.hs.length) := by rw [cell_of_row W _ _ _ _ _ a.str]; rfl
theorem AD.At.ci (a : d.At W) (hi : d.hs[i]? = some h) : W.cell? ⟨d.rb, i, none⟩ = some (.pointer (some ⟨h.hb, 0, none⟩)) := by
  rw [cell_of_row W _ _ _ _ _ a.row]; simp [hi, ptr]
/-- What draws and lays anew leaves them. -/
theorem AD.At.kept (a : d.At W) (hk : ∀ k, k < W.heap.size → d.Foot k → W'.heap[k]? = W.heap[k]?) : d.At W' where
  str := (hk _ a.la (.inl rfl)).trans a.str
  row := (hk _ a.lr (.inr (.inl rfl))).trans a.row
  each := fun i h hi => ⟨(HQ.hp (a.each i h hi)).kept fun k hl hf => hk k hl (.inr (.inr ⟨h, List.mem_of_getElem? hi, hf⟩)), (a.each i h hi).heap, (a.each i h hi).room, (a.each i h hi).lo, (a.each i h hi).hi⟩
  sep := a.sep
  far := a.far
  fit := a.fit
  lo := a.lo
  hi := a.hi
  t0 := a.t0
  t1 := a.t1
theorem AD.At.below (a : d.At W) (hB : Below W.heap.size W W') : d.At W' := a.kept fun k hk _ => hB.block k hk
theorem ptr_set {l : List HD} (hi : l[i]? = some h) (e : h'.hb = h.hb) : (l.set i h').map ptr = l.map ptr := by
  rw [List.map_set]
  apply List.ext_getElem?
  intro j
  rw [List.getElem?_set]
  split
  · rename_i hij; subst hij
    split
    · simp [hi, ptr, e]
    · rename_i hl; rw [List.getElem?_eq_none (by simpa using hl)]
  · rfl
/-- A call on one of the heaps. -/
theorem AD.At.one (a : d.At W) (hi : d.hs[i]? = some h) (s : Stp W W' h.Foot h'.Foot) (ha : h'.At W') (e : h'.hb = h.hb) (hf : ∀ x ∈ h'.l, 0 ≤ x.1 ∧ x.1 < 1024 ∧ 0 ≤ x.2 ∧ x.2 ≤ top2) :
    AD.At { d with hs := d.hs.set i h' } W' ∧ Stp W W' d.Foot (AD.Foot { d with hs := d.hs.set i h' }) := by
  have hm := List.mem_of_getElem? hi
  have hlt : i < d.hs.length := (List.getElem?_eq_some_iff.1 hi).1
  have hget : ∀ j k, (d.hs.set i h')[j]? = some k → (j = i ∧ k = h') ∨ (j ≠ i ∧ d.hs[j]? = some k) := by
    intro j k hj
    rw [List.getElem?_set] at hj
    split at hj
    · rename_i hij; subst hij
      simp only [hlt, if_true, Option.some.injEq] at hj
      exact .inl ⟨rfl, hj.symm⟩
    · rename_i hij; exact .inr ⟨fun e => hij e.symm, hj⟩
  have hmem : ∀ k ∈ d.hs.set i h', k = h' ∨ ∃ j, j ≠ i ∧ d.hs[j]? = some k := by
    intro k hk
    obtain ⟨j, hj⟩ := List.getElem?_of_mem hk
    rcases hget j k hj with ⟨_, r⟩ | ⟨r1, r2⟩
    · exact .inl r
    · exact .inr ⟨j, r1, r2⟩
  have fresh : ∀ k, k < W.heap.size → h'.Foot k → h.Foot k := by
    intro k hk hf
    rcases s.foot k hf with r | r
    · exact r
    · omega
  refine ⟨⟨?_, ?_, ?_, ?_, ?_, ?_, ?_, ?_, a.t0, a.t1⟩, ⟨s.os, s.tape, s.output, s.size, ?_, ?_⟩⟩
  · simp only [List.length_set]
    exact (s.block _ a.la (a.far h hm).1).trans a.str
  · simp only [ptr_set hi e]
    exact (s.block _ a.lr (a.far h hm).2).trans a.row
  · intro j k hj
    rcases hget j k hj with ⟨_, rfl⟩ | ⟨r1, r2⟩
    · exact ha
    · exact ((a.each j k r2).stp (a.sep i j h k (fun e => r1 e.symm) hi r2) s).1
  · intro j j' k k' hne hj hj'
    rcases hget j k hj with ⟨rfl, rfl⟩ | ⟨r1, r2⟩ <;> rcases hget j' k' hj' with ⟨rfl, rfl⟩ | ⟨r3, r4⟩
    · exact absurd rfl hne
    · exact ((a.each j' k' r4).stp (a.sep j j' h k' hne hi r4) s).2
    · have := ((a.each j k r2).stp (a.sep j' j h k (fun e => hne e.symm) hi r2) s).2
      exact fun x h1 h2 => this x h2 h1
    · exact a.sep j j' k k' hne r2 r4
  · intro k hk
    rcases hmem k hk with rfl | ⟨j, _, hj⟩
    · exact ⟨fun hf => (a.far h hm).1 (fresh _ a.la hf), fun hf => (a.far h hm).2 (fresh _ a.lr hf)⟩
    · exact a.far k (List.mem_of_getElem? hj)
  · intro k hk
    rcases hmem k hk with rfl | ⟨j, _, hj⟩
    · exact hf
    · exact a.fit k (List.mem_of_getElem? hj)
  · simpa using a.lo
  · simpa using a.hi
  · intro k hk hn
    exact s.block k hk fun hf => hn (.inr (.inr ⟨h, hm, hf⟩))
  · rintro k (r | r | ⟨x, hx, r⟩)
    · exact .inl (.inl r)
    · exact .inl (.inr (.inl r))
    · rcases hmem x hx with rfl | ⟨j, _, hj⟩
      · rcases s.foot k r with r | r
        · exact .inl (.inr (.inr ⟨h, hm, r⟩))
        · exact .inr r
      · exact .inl (.inr (.inr ⟨x, List.mem_of_getElem? hj, r⟩))
end
/-- Which are armed. -/
def Has (d : AD) (c i a : Int) : Prop := 0 ≤ c ∧ ∃ h, d.hs[c.toNat]? = some h ∧ (i, a) ∈ h.l
def isCpu (d : AD) (c : Int) : Prop := 0 ≤ c ∧ c < d.hs.length
instance (d : AD) (c : Int) : Decidable (isCpu d c) := by unfold isCpu; infer_instance
theorem cpu_at {d : AD} {c : Int} (h : isCpu d c) : ∃ (i : Nat) (k : HD), c = (i : Int) ∧ d.hs[i]? = some k := by
  obtain ⟨h0, h1⟩ := h
  obtain ⟨i, rfl⟩ := Int.eq_ofNat_of_zero_le h0
  exact ⟨i, d.hs[i]'(by omega), rfl, List.getElem?_eq_getElem _⟩
theorem has_cpu {d : AD} {c i a : Int} (h : Has d c i a) : isCpu d c := by
  obtain ⟨h0, k, hk, _⟩ := h
  have := (List.getElem?_eq_some_iff.1 hk).1
  exact ⟨h0, by omega⟩
/-- Ids are told apart: one key each. -/
theorem has_uniq {d : AD} {W : World} (a : d.At W) {c i x y : Int} (h1 : Has d c i x) (h2 : Has d c i y) : x = y := by
  obtain ⟨_, k, hk, m1⟩ := h1
  obtain ⟨_, k', hk', m2⟩ := h2
  rw [hk] at hk'; cases hk'
  have hd := (HQ.hp (a.each _ _ hk)).ids
  obtain ⟨p, hp, e1⟩ := mem_at m1
  obtain ⟨q, hq, e2⟩ := mem_at m2
  have := hd.inj hp hq (by rw [e1, e2])
  subst this
  rw [e1] at e2; cases e2; rfl
section
variable {W : World} {d : AD}
theorem has_any (a : d.At W) (c : Int) : Calls Try.prog 23 #[.pointer (some ⟨d.ab, 0, none⟩), .int .i64 c] W fun e w' => e = .returned (.bool (decide (isCpu d c))) ∧ w' = W := by
  have c1 := a.c1
  by_cases h0 : 0 ≤ c
  · by_cases h1 : c < d.hs.length
    · rw [show decide (isCpu d c) = true from decide_eq_true ⟨h0, h1⟩]
      clear a
      go_enter Try.func23, Try.ntmps23
      go_wp2
      go_ret
      exact ⟨rfl, rfl⟩
    · rw [show decide (isCpu d c) = false from decide_eq_false fun h => h1 h.2]
      clear a
      go_enter Try.func23, Try.ntmps23
      go_wp2
      go_ret
      exact ⟨rfl, rfl⟩
  · rw [show decide (isCpu d c) = false from decide_eq_false fun h => h0 h.1]
    clear a
    go_enter Try.func23, Try.ntmps23
    go_wp2
    go_ret
    exact ⟨rfl, rfl⟩
def okAt (d : AD) (t : Int) : Prop := d.now ≤ t ∧ t ≤ top2
instance (d : AD) (t : Int) : Decidable (okAt d t) := by unfold okAt; infer_instance
theorem ahead_all (a : d.At W) (t : Int) : Calls Try.prog 24 #[.pointer (some ⟨d.ab, 0, none⟩), .int .i64 t] W fun e w' => e = .returned (.bool (decide (okAt d t))) ∧ w' = W := by
  have c0 := a.c0
  by_cases h0 : d.now ≤ t
  · by_cases h1 : t ≤ 4611686018427387904
    · rw [show decide (okAt d t) = true from decide_eq_true ⟨h0, h1⟩]
      clear a
      go_enter Try.func24, Try.ntmps24
      go_wp2
      go_ret
      exact ⟨rfl, rfl⟩
    · rw [show decide (okAt d t) = false from decide_eq_false fun h => h1 h.2]
      clear a
      go_enter Try.func24, Try.ntmps24
      go_wp2
      go_ret
      exact ⟨rfl, rfl⟩
  · rw [show decide (okAt d t) = false from decide_eq_false fun h => h0 h.1]
    clear a
    go_enter Try.func24, Try.ntmps24
    go_wp2
    go_ret
    exact ⟨rfl, rfl⟩
theorem now_any (a : d.At W) : Calls Try.prog 21 #[.pointer (some ⟨d.ab, 0, none⟩)] W fun e w' => e = .returned (.int .i64 d.now) ∧ w' = W := by
  have c0 := a.c0
  clear a
  go_enter Try.func21, Try.ntmps21
  go_wp2
  go_ret
  exact ⟨rfl, rfl⟩
end
end Go.Proofs.Ytmdendffbjhdbaa.Con
