/- HeapKeys: what the law's own map and the heap hold. -/
import Derived.Test.YtocgeplpehioeaaHAwake
import Derived.Laws.BitsAllLaws
namespace Go.Proofs.Ytocgeplpehioeaa.Con
open Go.RowKit Go.Proofs.Ytocgeplpehioeaa.Hq
set_option linter.unusedVariables false
set_option linter.unusedSimpArgs false
theorem underN : Try.prog.underlying 52 = some (.map 3 2) := by kernel_rfl
theorem underL : Try.prog.underlying 2 = some (.int .i64) := by kernel_rfl
theorem zeroL (w : World) : (zeroValue 2).run Try.prog w = .ok (.int .i64 0) w := by kernel_rfl
/-- The key of an id. -/
def kof (l : List It) (x : Int) : Option Int := (l.find? fun y => decide (y.1 = x)).map (·.2)
theorem kof_some {l : List It} (hd : Ids l) {x : It} (hx : x ∈ l) : kof l x.1 = some x.2 := by
  unfold kof
  cases hf : l.find? (fun y => decide (y.1 = x.1)) with
  | none =>
    have := List.find?_eq_none.1 hf x hx
    simp at this
  | some y =>
    have h1 := List.mem_of_find?_eq_some hf
    have h2 := List.find?_some hf
    have h3 : y.1 = x.1 := by simpa using h2
    obtain ⟨i, hi, rfl⟩ := mem_at h1
    obtain ⟨j, hj, rfl⟩ := mem_at hx
    rw [hd.inj hi hj h3]; rfl
theorem kof_none {l : List It} {x : Int} (h : ∀ y ∈ l, y.1 ≠ x) : kof l x = none := by
  unfold kof
  have : l.find? (fun y => decide (y.1 = x)) = none := by
    rw [List.find?_eq_none]
    intro y hy
    simpa using h y hy
  rw [this]; rfl
theorem kof_cases {l : List It} (hd : Ids l) (x : Int) : (∃ c, (x, c) ∈ l ∧ kof l x = some c) ∨ ((∀ y ∈ l, y.1 ≠ x) ∧ kof l x = none) := by
  by_cases h : ∃ y ∈ l, y.1 = x
  · obtain ⟨y, hy, rfl⟩ := h
    exact .inl ⟨y.2, hy, kof_some hd hy⟩
  · have h' : ∀ y ∈ l, y.1 ≠ x := fun y hy e => h ⟨y, hy, e⟩
    exact .inr ⟨h', kof_none h'⟩
theorem kof_perm {l m : List It} (hd : Ids l) (hp : m.Perm l) (x : Int) : kof m x = kof l x := by
  rcases kof_cases hd x with ⟨c, hc, e⟩ | ⟨hne, e⟩
  · rw [e]; exact kof_some (hd.perm hp) (hp.mem_iff.2 hc)
  · rw [e]; exact kof_none fun y hy => hne y (hp.mem_iff.1 hy)
theorem kof_cons (l : List It) (x : It) (z : Int) : kof (x :: l) z = upd (kof l) x.1 (some x.2) z := by
  unfold kof upd
  rw [List.find?_cons]
  by_cases e : x.1 = z
  · rw [decide_eq_true e, if_pos e.symm]; rfl
  · rw [decide_eq_false e, if_neg (fun h => e h.symm)]
theorem kof_setK {l : List It} (hd : Ids l) {id : Int} (hth : ∃ y ∈ l, y.1 = id) (key z : Int) : kof (setK l id key) z = upd (kof l) id (some key) z := by
  have hd' : Ids (setK l id key) := by unfold Ids; rw [setK_ids]; exact hd
  unfold upd
  by_cases e : z = id
  · rw [if_pos e, e]
    obtain ⟨y, hy, rfl⟩ := hth
    exact kof_some (x := (y.1, key)) hd' (List.mem_map.2 ⟨y, hy, by simp⟩)
  · rw [if_neg e]
    rcases kof_cases hd z with ⟨c, hc, e'⟩ | ⟨hne, e'⟩
    · rw [e']
      exact kof_some (x := (z, c)) hd' (List.mem_map.2 ⟨(z, c), hc, by simp [e]⟩)
    · rw [e']
      refine kof_none fun y hy => ?_
      obtain ⟨y', hy', rfl⟩ := List.mem_map.1 hy
      split
      · exact fun h => e h.symm
      · exact hne y' hy'
/-- The heap and the map agree. -/
structure KR (W : World) (hb mb nb : Nat) (v : Value) (l : List It) (wr : World) : Prop where
  hq : HQ wr hb mb 100 false v l
  map : Mp 2 wr nb l.length (kof l)
  low : ∀ x ∈ l, 0 ≤ x.1 ∧ x.1 ≤ 15
  below : Below W.heap.size W wr
  past : Past W.heap.size hb mb v
  ne : nb ≠ mb
  far : W.heap.size ≤ nb
theorem pigeon : ∀ (n : Nat) (l : List Nat), l.Nodup → (∀ x ∈ l, x < n) → l.length ≤ n
  | 0, l, _, h => by
    cases l with
    | nil => simp
    | cons a l => exact absurd (h a (by simp)) (by omega)
  | n + 1, l, hd, h => by
    by_cases hm : n ∈ l
    · have h1 := pigeon n (l.erase n) (hd.erase n) (fun x hx => by
        have hx' := List.mem_of_mem_erase hx
        have : x ≠ n := by rintro rfl; exact (List.Nodup.not_mem_erase hd) hx
        have := h x hx'
        omega)
      have := List.length_erase_of_mem hm
      omega
    · have h1 := pigeon n l hd (fun x hx => by
        have : x ≠ n := by rintro rfl; exact hm hx
        have := h x hx
        omega)
      omega
theorem low_len {l : List It} (hd : Ids l) (h : ∀ x ∈ l, 0 ≤ x.1 ∧ x.1 ≤ 15) : l.length ≤ 16 := by
  have h1 : (l.map (fun x : It => x.1.toNat)).Nodup := by
    unfold Ids List.Nodup at *
    rw [List.pairwise_map] at hd ⊢
    refine List.Pairwise.imp_of_mem ?_ hd
    intro a b ha hb hne e
    have := h a ha
    have := h b hb
    exact hne (by omega)
  have := pigeon 16 _ h1 (fun y hy => by
    obtain ⟨x, hx, rfl⟩ := List.mem_map.1 hy
    have := h x hx
    omega)
  simpa using this
/-- Behind a call on the heap, the law notes the key. -/
theorem kr_note {W wr w3 : World} {hb mb nb : Nat} {v v' : Value} {l l' : List It} (h : KR W hb mb nb v l wr) (hQ : HQ w3 hb mb 100 false v' l') (hT : Turn wr w3 hb mb v v') {id key : Int} (hid : 0 ≤ id ∧ id ≤ 15) (hkey : in64 key)
    (hk : ∀ z, in64 z → kof l' z = upd (kof l) id (some key) z) (hlen : l'.length = if (kof l id).isSome then l.length else l.length + 1) (hlow : ∀ x ∈ l', 0 ≤ x.1 ∧ x.1 ≤ 15) :
    ∃ W4, (Instr.mapUpdate 52 (.map (some nb)) (.int .i64 id) (.int .i64 key)).run Try.prog w3 = .ok () W4 ∧ Below W.heap.size W w3 ∧ KR W hb mb nb v' l' W4 := by
  obtain ⟨es, cl, hmap⟩ := h.map.isMap
  have n1 : nb ≠ hb := by rintro rfl; rw [h.hq.hp.str] at hmap; cases hmap
  have n2 : some nb ≠ v.ownBlock := fun e => by
    obtain ⟨_, cur, hc⟩ := h.hq.hp.row.blk e.symm
    rw [hmap] at hc; cases hc
  have hl16 := low_len h.hq.hp.ids h.low
  have hm3 := h.map.kept (hT.block nb h.map.lt n1 h.ne n2)
  obtain ⟨W4, hrun, hm4, hg4⟩ := hm3.put underN underL (by show _ < maxLen; unfold maxLen; omega) (x := id) ((in64_iff _).2 (by omega)) hkey
  obtain ⟨b1, b2⟩ := hT.past h.below.size h.past
  obtain ⟨es3, cl3, hmap3⟩ := hm3.isMap
  have m1 : some hb ≠ some nb := fun e => n1 (by simpa using e.symm)
  have m2 : some mb ≠ some nb := fun e => h.ne (by simpa using e.symm)
  have m3 : ∀ k, v'.ownBlock = some k → some k ≠ some nb := fun k hk e => by
    obtain ⟨_, cur, hc⟩ := hQ.hp.row.blk hk
    have : k = nb := by simpa using e
    subst this
    rw [hmap3] at hc; cases hc
  have b3 : Below W.heap.size W w3 := h.below.trans b1
  have hs := b3.size
  have hfar := h.far
  refine ⟨W4, hrun, b3, ⟨hQ.hp.kept fun k hk hc => hg4.block k hk (by
    rcases hc with rfl | rfl | hc
    · exact m1
    · exact m2
    · exact m3 k hc), hQ.heap, hQ.room, hQ.lo, hQ.hi⟩, ?_, hlow, b3.trans ⟨hg4.os, hg4.tape, hg4.output, hg4.size, fun k hk => hg4.block k (by omega) (by simp; omega)⟩, b2, h.ne, h.far⟩
  rw [hlen]
  exact hm4.congr hk
theorem kr_set {W wr : World} {hb mb nb : Nat} {v : Value} {l : List It} (h : KR W hb mb nb v l wr) {id key : Int} (hid : 0 ≤ id ∧ id ≤ 15) (hkey : in64 key) (hth : ∃ y ∈ l, y.1 = id) :
    Calls Try.prog 11 #[.pointer (some ⟨hb, 0, none⟩), .int .i64 id, .int .i64 key] wr fun e w3 => e = .returned (.int .i64 0) ∧ ∃ W4 v' l', (Instr.mapUpdate 52 (.map (some nb)) (.int .i64 id) (.int .i64 key)).run Try.prog w3 = .ok () W4 ∧ Hid (Below W.heap.size W w3) ∧ Hid (KR W hb mb nb v' l' W4) ∧ 0 < l'.length := by
  refine (set_ok h.hq id key ((in64_iff _).2 (by omega)) hkey hth).mono ?_
  rintro e w3 ⟨rfl, v', l', hQ, hp, hT⟩
  have hd : Ids (setK l id key) := by unfold Ids; rw [setK_ids]; exact h.hq.hp.ids
  have hlen : l'.length = l.length := by rw [hp.length_eq]; simp [setK]
  obtain ⟨y, hy, hye⟩ := hth
  have hpos : 0 < l.length := List.length_pos_of_mem hy
  obtain ⟨W4, r1, r2, r3⟩ := kr_note h hQ hT hid hkey (fun z _ => by rw [kof_perm hd hp]; exact kof_setK h.hq.hp.ids ⟨y, hy, hye⟩ key z)
    (by rw [← hye, kof_some h.hq.hp.ids hy]; simpa using hlen)
    (fun x hx => by
      have := hp.mem_iff.1 hx
      obtain ⟨x', hx', rfl⟩ := List.mem_map.1 this
      split
      · exact hid
      · exact h.low x' hx')
  exact ⟨rfl, W4, v', l', r1, hide r2, hide r3, by omega⟩
theorem kr_put {W wr : World} {hb mb nb : Nat} {v : Value} {l : List It} (h : KR W hb mb nb v l wr) {id key : Int} (hid : 0 ≤ id ∧ id ≤ 15) (hkey : in64 key) (hth : ∀ y ∈ l, y.1 ≠ id) :
    Calls Try.prog 10 #[.pointer (some ⟨hb, 0, none⟩), .int .i64 id, .int .i64 key] wr fun e w3 => e = .returned (.int .i64 0) ∧ ∃ W4 v' l', (Instr.mapUpdate 52 (.map (some nb)) (.int .i64 id) (.int .i64 key)).run Try.prog w3 = .ok () W4 ∧ Hid (Below W.heap.size W w3) ∧ Hid (KR W hb mb nb v' l' W4) ∧ 0 < l'.length := by
  have hl16 := low_len h.hq.hp.ids h.low
  refine (put_ok h.hq id key ((in64_iff _).2 (by omega)) hkey hth (by omega)).mono ?_
  rintro e w3 ⟨rfl, v', l', hQ, hp, hT⟩
  have hlen : l'.length = l.length + 1 := by rw [hp.length_eq]; simp
  have hd : Ids ((id, key) :: l) := hQ.hp.ids.perm hp.symm
  obtain ⟨W4, r1, r2, r3⟩ := kr_note h hQ hT hid hkey (fun z _ => by rw [kof_perm hd hp]; exact kof_cons l (id, key) z)
    (by rw [kof_none hth]; simpa using hlen)
    (fun x hx => by
      rcases List.mem_cons.1 (hp.mem_iff.1 hx) with rfl | hx
      · exact hid
      · exact h.low x hx)
  exact ⟨rfl, W4, v', l', r1, hide r2, hide r3, by omega⟩
end Go.Proofs.Ytocgeplpehioeaa.Con
