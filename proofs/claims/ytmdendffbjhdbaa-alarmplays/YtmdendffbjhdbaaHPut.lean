/- Put. -/
import Derived.Test.YtmdendffbjhdbaaHNew
namespace Go.Proofs.Ytmdendffbjhdbaa.Con
open Go.RowKit Go.Proofs.Ytmdendffbjhdbaa.Hq
set_option linter.unusedVariables false
set_option linter.unusedSimpArgs false
section
variable {W : World} {hb mb : Nat} {most : Int} {g : Bool} {v : Value} {l : List It}
theorem put_busy (h : HQ W hb mb most g v l) (id key : Int) (hid : in64 id) (hth : ∃ y ∈ l, y.1 = id) :
    Calls Try.prog 34 #[.pointer (some ⟨hb, 0, none⟩), .int .i64 id, .int .i64 key] W fun e w' => e = .returned (.int .i64 5) ∧ w' = W := by
  obtain ⟨c0, _, c2, c3⟩ := h.hp.cells
  rcases pos_cases h.hp.ids id with ⟨i, hi, hie, hp⟩ | ⟨hne, _⟩
  · have hlk := h.hp.map.look underM underI (zeroI W) hid
    rw [hp] at hlk
    simp only [Option.getD_some, Option.isSome_some] at hlk
    go_enter Try.func34, Try.ntmps34
    go_wp2
    go_ret
    exact ⟨rfl, rfl⟩
  · obtain ⟨y, hy, e⟩ := hth
    exact absurd e (hne y hy)
theorem put_full (h : HQ W hb mb most g v l) (id key : Int) (hid : in64 id) (hth : ∀ y ∈ l, y.1 ≠ id) (hf : most ≤ l.length) :
    Calls Try.prog 34 #[.pointer (some ⟨hb, 0, none⟩), .int .i64 id, .int .i64 key] W fun e w' => e = .returned (.int .i64 3) ∧ w' = W := by
  obtain ⟨p, cap, rfl⟩ := h.slice
  obtain ⟨c0, _, c2, c3⟩ := h.hp.cells
  have hlk := h.hp.map.look underM underI (zeroI W) hid
  rw [pos_none hth] at hlk
  simp only [Option.getD_none, Option.isSome_none] at hlk
  go_enter Try.func34, Try.ntmps34
  go_wp2
  go_ret
  exact ⟨rfl, rfl⟩
def PutPost (W : World) (hb mb : Nat) (most : Int) (g : Bool) (v : Value) (l : List It) (x : It) (e : Ending) (w' : World) : Prop :=
  e = .returned (.int .i64 0) ∧ ∃ (v' : Value) (l' : List It), HQ w' hb mb most g v' l' ∧ l'.Perm (x :: l) ∧ Turn W w' hb mb v v'
theorem info29 : (Try.prog.info? 63).map (fun i => (i.zero, i.size, i.bytes)) = some (some (.agg #[.int .i64 0, .int .i64 0]), 2, 16) := by kernel_rfl
theorem ids_snoc {l : List It} (h : Ids l) (x : It) (hx : ∀ y ∈ l, y.1 ≠ x.1) : Ids (l ++ [x]) := by
  refine Ids.perm (l := x :: l) ?_ List.perm_append_comm
  unfold Ids at *
  rw [List.map_cons, List.nodup_cons]
  refine ⟨fun hm => ?_, h⟩
  obtain ⟨y, hy, e⟩ := List.mem_map.1 hm
  exact hx y hy e
theorem pos_snoc {l : List It} (h : Ids l) (x : It) (hx : ∀ y ∈ l, y.1 ≠ x.1) (z : Int) : pos (l ++ [x]) z = upd (pos l) x.1 (some (l.length : Int)) z := by
  have hd := ids_snoc h x hx
  unfold upd
  by_cases e : z = x.1
  · rw [if_pos e]
    have := pos_some hd (i := l.length) (by simp)
    rw [at_snoc, if_pos rfl] at this
    rw [e]; exact this
  · rw [if_neg e]
    rcases pos_cases h z with ⟨k, hk, e', hp⟩ | ⟨hne, hp⟩
    · have := pos_some hd (i := k) (by simp; omega)
      rw [at_snoc, if_neg (by omega), e'] at this
      rw [this, hp]
    · rw [hp]
      refine pos_none fun y hy => ?_
      rcases List.mem_append.1 hy with hy | hy
      · exact hne y hy
      · simp at hy; subst hy; exact fun e' => e e'.symm
/-- Behind the append and the note of its place. -/
theorem put_mid {W w1 W2 W3 : World} {v' : Value} {o : Obj} {x : It} (h : Hp W hb mb most g v l) (hx : ∀ y ∈ l, y.1 ≠ x.1) (hin : in64 x.1 ∧ in64 x.2)
    (hown : w1.ownsRow 0 63 2 v' (l.length + 1) (flat l ++ [.int .i64 x.1, .int .i64 x.2])) (hgr : (W.alloc o).grownBy w1 v.ownBlock) (hat : v'.ownBlock = v.ownBlock ∨ v'.ownBlock = some (W.heap.size + 1))
    (hW2 : W2 = w1.setCell ⟨hb, 2, none⟩ v') (hg3 : W2.grownBy W3 (some mb)) (hm : Mp 3 W3 mb (if (pos l x.1).isSome then l.length else l.length + 1) (upd (pos l) x.1 (some (l.length : Int)))) :
    Hp W3 hb mb most g v' (l ++ [x]) ∧ Turn W W3 hb mb v v' := by
  subst hW2
  rw [pos_none hx] at hm
  simp only [Option.isSome_none, Bool.false_eq_true, if_false] at hm
  have hlt := h.lt
  have hmt := h.map.lt
  have b1 : ∀ k, k < W.heap.size → some k ≠ v.ownBlock → w1.heap[k]? = W.heap[k]? := fun k hk hne => (hgr.block k (by simp; omega) hne).trans (Below.heap_alloc W o k hk)
  have hrow : Row w1 v' (l ++ [x]) := by
    unfold Row
    rw [flat_snoc]
    simpa using hown
  have hs1 : w1.heap[hb]? = _ := (b1 hb hlt (fun e => h.row_hb e.symm)).trans h.str
  have hs2 := heap_setCell_same w1 hb 2 _ _ v' hs1
  have hnb : some hb ≠ some mb := fun e => h.ne (by simpa using e.symm)
  have hl2 : hb < (w1.setCell ⟨hb, 2, none⟩ v').heap.size := (Array.getElem?_eq_some_iff.1 hs2).1
  refine ⟨⟨?_, ?_, ?_, ids_snoc h.ids x hx, ?_⟩, ⟨?_, ?_, ?_, ?_, ?_, ?_⟩⟩
  · rw [hg3.block hb hl2 hnb, hs2]; rfl
  · refine hrow.kept fun k hk => ?_
    obtain ⟨hk1, cur, hk2⟩ := hrow.blk hk
    have k1 : k ≠ hb := by rintro rfl; rw [hs1] at hk2; cases hk2
    have k2 : k ≠ mb := by
      rintro rfl
      rcases hat with e | e
      · exact h.row_mb (e ▸ hk)
      · rw [hk] at e; simp at e; omega
    rw [hg3.block k (by simpa using hk1) (by simpa using k2)]
    exact heap_setCell_other w1 _ k _ k1
  · rw [List.length_append]
    exact hm.congr fun z _ => pos_snoc h.ids x hx z
  · intro y hy
    rcases List.mem_append.1 hy with hy | hy
    · exact h.fit y hy
    · simp at hy; subst hy; exact hin
  · exact hg3.os.trans hgr.os
  · exact hg3.tape.trans hgr.tape
  · exact hg3.output.trans hgr.output
  · have s1 := hgr.size
    have s2 := hg3.size
    simp at s1 s2
    omega
  · intro k hk k1 k2 k3
    rw [hg3.block k (by have := hgr.size; simp at this ⊢; omega) (by simpa using k2), heap_setCell_other w1 _ k _ k1]
    exact b1 k hk k3
  · intro k hk
    rcases hat with e | e
    · exact .inl (e ▸ hk)
    · rw [hk] at e; simp at e; exact .inr (by omega)
set_option maxHeartbeats 4000000 in
set_option maxRecDepth 20000 in
theorem put_ok (h : HQ W hb mb most g v l) (id key : Int) (hid : in64 id) (hkey : in64 key) (hth : ∀ y ∈ l, y.1 ≠ id) (hf : (l.length : Int) < most) :
    Calls Try.prog 34 #[.pointer (some ⟨hb, 0, none⟩), .int .i64 id, .int .i64 key] W fun e w' => PutPost W hb mb most g v l (id, key) e w' := by
  have hl := h.len
  obtain ⟨c0, _, c2, c3⟩ := h.hp.cells
  have hown : W.ownsRow 0 63 2 v l.length (flat l) := h.hp.row
  have HO := hide hown
  obtain ⟨p, cap, hv⟩ := h.slice
  have V := hide hv
  rw [hv] at c2
  have hbl := World.block_lt_of_cell? W _ c2
  obtain ⟨i0, hi, hz⟩ : ∃ i, Try.prog.info? 63 = some i ∧ (i.zero, i.size, i.bytes) = (some (.agg #[.int .i64 0, .int .i64 0]), 2, 16) := by
    have := info29
    rw [Option.map_eq_some_iff] at this
    exact this
  simp only [Prod.mk.injEq] at hz
  obtain ⟨hz0, hz1, hz2⟩ := hz
  have hlk := h.hp.map.look underM underI (zeroI W) hid
  rw [pos_none hth] at hlk
  simp only [Option.getD_none, Option.isSome_none] at hlk
  have H := hide h
  have TH := hide hth
  clear h hth hown hv
  go_enter Try.func34, Try.ntmps34
  go_wp2_with (at_builtin; refine wpList_append_own_at _ rfl _ _ 71 rfl 0 63 i0 (.agg #[.int .i64 0, .int .i64 0]) 2 16 Try.underlying71 hi hz0 hz1 hz2 rfl (by decide) _ l.length (flat l) rfl (V.out ▸ HO.out.alloc _) ⟨W.heap.size, 0, none⟩ 1 1 [.int .i64 id, .int .i64 key] rfl rfl ?c1 ?c2 ?c3 ?c4 ?c5 ?_)
  case c2 => first | exact ⟨rfl, rfl⟩ | (intro u hu; simp at hu; rcases hu with rfl | rfl <;> rfl)
  case c3 => unfold maxLen; omega
  case c4 => omega
  intro v' w1 hown' hgrow _ hat
  obtain ⟨r', cap', hv'⟩ : ∃ r' cap', v' = .slice (some ⟨r', 0, none⟩) (l.length + 1) cap' := by
    rcases hown'.2 with ⟨_, h⟩ | ⟨r', cap', cur', h, _⟩
    · omega
    · exact ⟨r', cap', h⟩
  subst hv'
  rw [← V.out] at hgrow hat
  have hat' : (Value.slice (some ⟨r', 0, none⟩) (l.length + 1) cap').ownBlock = v.ownBlock ∨ (Value.slice (some ⟨r', 0, none⟩) (l.length + 1) cap').ownBlock = some (W.heap.size + 1) := by simpa using hat
  have hne1 : some hb ≠ v.ownBlock := fun e => H.out.hp.row_hb e.symm
  have e2 : w1.cell? ⟨hb, 2, none⟩ = some (.slice p l.length cap) := hgrow.cell (by simp [c2, hbl, go_sem]) hne1
  have e3 : w1.cell? ⟨hb, 3, none⟩ = some (.map (some mb)) := hgrow.cell (by simp [c3, hbl, go_sem]) hne1
  have f2 : w1.frozen? ⟨hb, 2, none⟩ = false := by
    have := (hgrow.block hb (by simp; omega) hne1).trans ((Below.heap_alloc W _ hb hbl).trans H.out.hp.str)
    simp [World.frozen?, this]
  have hmb1 : some mb ≠ v.ownBlock := fun e => H.out.hp.row_mb e.symm
  have hmp : Mp 3 (w1.setCell ⟨hb, 2, none⟩ (.slice (some ⟨r', 0, none⟩) (l.length + 1) cap')) mb l.length (pos l) := H.out.hp.map.kept ((heap_setCell_other w1 _ mb _ H.out.hp.ne).trans ((hgrow.block mb (by have := H.out.hp.map.lt; simp; omega) hmb1).trans (Below.heap_alloc W _ mb H.out.hp.map.lt)))
  obtain ⟨W3, hrun, hm3, hg3⟩ := hmp.put underM underI (by show _ < maxLen; unfold maxLen; omega) (c := (l.length : Int)) hid ((in64_iff _).2 (by omega))
  obtain ⟨q1, q2⟩ := put_mid (x := (id, key)) H.out.hp TH.out ⟨hid, hkey⟩ hown' hgrow hat' rfl hg3 hm3
  obtain ⟨x1, x2⟩ := put_hx H.out.heap (id, key)
  have RI := hide (rise_any q1 l.length (by simp) (by simp; have := H.out.hi; omega) x1)
  have X2 := hide x2
  have Q2 := hide q2
  clear q1 q2 x1 x2 hg3 hm3 hmp hown' hgrow hat hat' c0 c2 c3 hlk
  go_wp2_with (go_at_call 43; refine RI.out.mono ?_; rintro e w4 ⟨a', l', rfl, r1, r2, r3, r4, r5, r6, r7, r8⟩)
  go_ret
  unfold PutPost
  refine ⟨rfl, _, l', ⟨r7, heap_of r4 (r6 X2.out) r5, ?_, H.out.lo, H.out.hi⟩, r3.trans List.perm_append_comm, Q2.out.trans r8⟩
  rw [r2]; simp; omega
end
end Go.Proofs.Ytmdendffbjhdbaa.Con
