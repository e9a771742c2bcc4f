/- IdsOnce: the table, the set and the row of names side by side. -/
import Derived.Test.YtmegbbgolmejnaaIOnce
namespace Go.Proofs.Ytmegbbgolmejnaa.Con
open Go.RowKit
set_option linter.unusedVariables false
set_option linter.unusedSimpArgs false
/-- Behind i rounds; xs lies in memory, ys are taken. -/
structure OR (W0 wr : World) (tb rb n mb i : Nat) (l : List Sp) (v : Value) (xs ys : List Nat) (f : Nat → Bool) : Prop where
  tab : Tb wr tb rb n l
  sn : Seen wr mb i f
  row : NRow W0.heap.size wr v xs
  below : Below W0.heap.size W0 wr
  pr : W0.heap.size ≤ rb
  pm : W0.heap.size ≤ mb
  perm : ys.Perm (names l n)
  old : Old l f
  gens : ∀ p, (sp l p).1 ≤ i
section
variable {W0 wr w1 : World} {tb rb n mb i : Nat} {l : List Sp} {v : Value} {xs ys : List Nat} {f : Nat → Bool}
theorem NRow.blk {B : Nat} {w : World} {v : Value} {xs : List Nat} (h : NRow B w v xs) {k : Nat} (hk : v.ownBlock = some k) : ∃ cur, w.heap[k]? = some (.cells cur 26 (0, 0)) := by
  rcases h.2 with ⟨rfl, _⟩ | ⟨g, cap, cur, rfl, hb, hg, _⟩
  · simp [Value.ownBlock] at hk
  · simp [Value.ownBlock] at hk
    subst hk
    exact ⟨cur, hg⟩
theorem NRow.mono {B B' : Nat} {w : World} {v : Value} {xs : List Nat} (h : NRow B w v xs) (hB : B' ≤ B) : NRow B' w v xs := by
  obtain ⟨h1, ⟨h0, h2⟩ | ⟨g, cap, cur, rfl, h0, hg, r⟩⟩ := h
  · exact ⟨h1, .inl ⟨h0, h2⟩⟩
  · exact ⟨h1, .inr ⟨g, cap, cur, rfl, by omega, hg, r⟩⟩
theorem OR.mt (h : OR W0 wr tb rb n mb i l v xs ys f) : mb ≠ tb := by
  obtain ⟨es, c, hm⟩ := h.sn.isMap
  rintro rfl
  rw [h.tab.str] at hm; cases hm
theorem OR.mr (h : OR W0 wr tb rb n mb i l v xs ys f) : mb ≠ rb := by
  obtain ⟨es, c, hm⟩ := h.sn.isMap
  rintro rfl
  rw [h.tab.row] at hm; cases hm
theorem OR.vt (h : OR W0 wr tb rb n mb i l v xs ys f) {k : Nat} (hk : v.ownBlock = some k) : k ≠ tb ∧ k ≠ rb ∧ k ≠ mb := by
  obtain ⟨cur, hc⟩ := h.row.blk hk
  obtain ⟨es, c, hm⟩ := h.sn.isMap
  refine ⟨?_, ?_, ?_⟩
  · rintro rfl
    have := h.tab.str.symm.trans hc
    simp at this
  · rintro rfl
    have := h.tab.row.symm.trans hc
    simp at this
  · rintro rfl
    rw [hm] at hc; cases hc
theorem OR.len (h : OR W0 wr tb rb n mb i l v xs ys f) : ys.length ≤ 256 := by
  have h1 := h.perm.length_eq
  have h2 := names_le l n
  have h3 := h.tab.hi
  omega
/-- A call that turns nothing of this. -/
theorem OR.bel (h : OR W0 wr tb rb n mb i l v xs ys f) (hB : Below wr.heap.size wr w1) : OR W0 w1 tb rb n mb i l v xs ys f :=
  ⟨h.tab.below hB, h.sn.kept (hB.block _ h.sn.lt), h.row.kept (fun k hk => hB.block k (h.row.lt k hk)), h.below.trans (hB.mono h.below.size), h.pr, h.pm, h.perm, h.old, h.gens⟩
theorem OR.next (h : OR W0 wr tb rb n mb i l v xs ys f) : OR W0 wr tb rb n mb (i + 1) l v xs ys f :=
  ⟨h.tab, h.sn.mono (by omega), h.row, h.below, h.pr, h.pm, h.perm, h.old, fun p => by have := h.gens p; omega⟩
theorem OR.newrow (h : OR W0 wr tb rb n mb i l v xs ys f) {v' : Value} (hr : NRow W0.heap.size wr v' ys) : OR W0 wr tb rb n mb i l v' ys ys f :=
  ⟨h.tab, h.sn, hr, h.below, h.pr, h.pm, h.perm, h.old, h.gens⟩
/-- .. that turns the table. -/
theorem OR.turn (h : OR W0 wr tb rb n mb i l v xs ys f) {l' : List Sp} (hT : Tb w1 tb rb n l') (hR : Turn wr w1 rb) {ys' : List Nat} (hp : ys'.Perm (names l' n)) (ho : Old l' f) (hg : ∀ p, (sp l' p).1 ≤ i + 1) : OR W0 w1 tb rb n mb (i + 1) l' v xs ys' f :=
  ⟨hT, (h.sn.mono (by omega)).kept (hR.block _ h.sn.lt h.mr), h.row.kept (fun k hk => hR.block k (h.row.lt k hk) (h.vt hk).2.1), h.below.trans (hR.toBelow h.below.size h.pr), h.pr, h.pm, hp, ho, hg⟩
theorem perm_cut (xs : List Nat) (k : Nat) (h : k < xs.length) : (xs.getD k 0 :: (xs.take k ++ xs.drop (k + 1))).Perm xs := by
  have hd : xs.drop k = xs.getD k 0 :: xs.drop (k + 1) := by
    rw [List.drop_eq_getElem_cons h]
    congr 1
    rw [List.getD_eq_getElem?_getD, List.getElem?_eq_getElem h]; rfl
  refine (List.perm_middle (a := xs.getD k 0) (l₁ := xs.take k) (l₂ := xs.drop (k + 1))).symm.trans ?_
  rw [← hd, List.take_append_drop]
theorem getD_mem (xs : List Nat) (k : Nat) (h : k < xs.length) : xs.getD k 0 ∈ xs := by
  rw [List.getD_eq_getElem?_getD, List.getElem?_eq_getElem h]; exact List.getElem_mem h
theorem names_lt {l : List Sp} {n x : Nat} (hn : n ≤ 256) (hf : ∀ i, (sp l i).1 < 16777216) (h : x ∈ names l n) : x < 4294967296 := by
  obtain ⟨p, hp, _, rfl⟩ := names_mem h
  exact nm_lt (by omega) (hf p)
theorem or_give (h : OR W0 wr tb rb n mb i l v xs xs f) (hi : i < 100) (k : Nat) (hk : k < xs.length) :
    Calls Try.prog 11 #[.pointer (some ⟨tb, 0, none⟩), .int .u32 ((xs.getD k 0 : Nat) : Int)] wr fun e w1 => e = .returned (.int .i64 0) ∧ ∃ l', Hid (OR W0 w1 tb rb n mb (i + 1) l' v xs (xs.take k ++ xs.drop (k + 1)) f) := by
  have hm := h.perm.mem_iff.1 (getD_mem xs k hk)
  have he := names_isE h.tab.hi h.tab.len hm
  refine (give_any h.tab _ (names_lt h.tab.hi h.tab.fit hm)).mono ?_
  rintro e w1 ⟨rfl, hT, hR⟩
  refine ⟨by rw [he], _, hide (h.turn hT hR ?_ ?_ ?_)⟩
  · unfold gave
    rw [if_pos he]
    obtain ⟨k1, k2, k3⟩ := is_ok he
    have hg := names_give (g := (xs.getD k 0 / 256 + 1) % 16777216) k1 k2 n (by rw [← h.tab.len]; exact k1)
    rw [k3] at hg
    have e1 : nm (xs.getD k 0 % 256) (xs.getD k 0 / 256) = xs.getD k 0 := by unfold nm; omega
    rw [e1] at hg
    exact List.Perm.cons_inv ((perm_cut xs k hk).trans (h.perm.trans hg))
  · unfold gave
    rw [if_pos he]
    obtain ⟨k1, k2, k3⟩ := is_ok he
    rw [← k3]
    exact h.old.gave k1 (by have := h.gens (xs.getD k 0 % 256); omega)
  · intro p
    unfold gave
    rw [if_pos he]
    obtain ⟨k1, k2, k3⟩ := is_ok he
    rw [sp_set l _ p _ k1]
    split
    · have := h.gens (xs.getD k 0 % 256)
      rw [k3] at this
      simp only
      omega
    · have := h.gens p; omega
/-- Behind a Take: what the law asks of the name, and notes. -/
def Took (W0 : World) (tb rb n mb i N : Nat) (v : Value) (xs : List Nat) (w1 : World) : Prop :=
  Calls Try.prog 10 #[.pointer (some ⟨tb, 0, none⟩), .int .u32 (N : Int)] w1 fun e w2 => e = .returned (.int .i64 0) ∧
    ∃ w3 l' f', (Instr.mapUpdate 51 (.map (some mb)) (.int .u32 (N : Int)) (.bool true)).run Try.prog w2 = .ok () w3 ∧ Hid (OR W0 w3 tb rb n mb (i + 1) l' v xs (xs ++ [N]) f')
theorem or_take (h : OR W0 wr tb rb n mb i l v xs xs f) (hi : i < 100) (p : Nat) (hp : Free l p) :
    Calls Try.prog 9 #[.pointer (some ⟨tb, 0, none⟩)] wr fun e w1 => ∃ N : Nat, e = .returned (.tuple #[.int .u32 (N : Int), .int .i64 0]) ∧
      (Instr.lookup 51 (.map (some mb)) (.int .u32 (N : Int)) false).run Try.prog w1 = .ok (.bool false) w1 ∧ Hid (Took W0 tb rb n mb i N v xs w1) := by
  have hl := h.tab.len
  have hhi := h.tab.hi
  have hpn : p < n := by rw [← hl]; exact hp.1
  have hN : nm p (sp l p).1 < 4294967296 := nm_lt (by omega) (h.tab.fit p)
  refine (take_ok h.tab p hp).mono ?_
  rintro e w1 ⟨rfl, hT, hR⟩
  have hs1 := h.sn.kept (hR.block _ h.sn.lt h.mr)
  refine ⟨_, rfl, ?_, hide ?_⟩
  · rw [hs1.look hN, h.old.fresh (by omega) hp.2.1]
  · refine (is_any hT _ hN).mono ?_
    rintro e w2 ⟨rfl, hB⟩
    rw [isE_took hhi hl hpn]
    have hs2 := hs1.kept (hB.block _ hs1.lt)
    obtain ⟨w3, hr, hs3, hg3⟩ := hs2.put (by unfold maxLen; omega) hN
    have hk1 : ∀ k, k < wr.heap.size → k ≠ rb → w2.heap[k]? = wr.heap[k]? := fun k hk hne => (hB.block k (by have := hR.size; omega)).trans (hR.block k hk hne)
    have z1 := hR.size
    have z2 := hB.size
    have t1 := hT.tlt
    have t2 := hT.rlt
    refine ⟨rfl, w3, _, _, hr, hide ⟨?_, hs3, ?_, ?_, h.pr, h.pm, ?_, h.old.took (by omega) (by omega) hp.2.1, ?_⟩⟩
    · exact (hT.below hB).kept (hg3.block _ (by omega) (fun e => h.mt (by simpa using e.symm))) (hg3.block _ (by omega) (fun e => h.mr (by simpa using e.symm)))
    · refine h.row.kept fun k hk => ?_
      obtain ⟨v1, v2, v3⟩ := h.vt hk
      have := h.row.lt k hk
      exact (hg3.block k (by omega) (fun e => v3 (by simpa using e))).trans (hk1 k this v2)
    · refine (h.below.trans (hR.toBelow h.below.size h.pr)).trans ?_
      have z0 := h.below.size
      have hpm := h.pm
      refine (hB.mono (by omega)).trans ⟨hg3.os, hg3.tape, hg3.output, hg3.size, fun k hk => hg3.block k (by omega) (fun e => ?_)⟩
      have : k = mb := by simpa using e
      omega
    · refine List.Perm.trans ?_ (names_take (by omega) hp.2.1 n hpn).symm
      exact List.Perm.trans List.perm_append_comm (h.perm.cons _)
    · intro q
      rw [sp_set l p q _ (by omega)]
      split
      · have := h.gens p; simp only; omega
      · have := h.gens q; omega
/-- .. and behind the append. -/
theorem OR.app {ys : List Nat} {w' : World} {v' : Value} (h : OR W0 wr tb rb n mb i l v xs ys f) (hr : NRow W0.heap.size w' v' ys) (hg : wr.grownBy w' v.ownBlock) : OR W0 w' tb rb n mb i l v' ys ys f := by
  have z0 := h.below.size
  refine ⟨h.tab.kept (hg.block _ h.tab.tlt (fun e => (h.vt e.symm).1 rfl)) (hg.block _ h.tab.rlt (fun e => (h.vt e.symm).2.1 rfl)), h.sn.kept (hg.block _ h.sn.lt (fun e => (h.vt e.symm).2.2 rfl)), hr, ?_, h.pr, h.pm, h.perm, h.old, h.gens⟩
  exact below_grown h.below z0 hg h.row.past
end
theorem or_start {W0 w0 w1 : World} {tb rb n : Nat} (h0 : Below W0.heap.size W0 w0) (hT : Tb w1 tb rb n (List.replicate n (0, false))) (hB : Below w0.heap.size w0 w1) (h1 : w0.heap.size ≤ tb) (h2 : w0.heap.size ≤ rb) :
    OR W0 (w1.alloc (.map #[] 0)) tb rb n w1.heap.size 0 (List.replicate n (0, false)) (.slice none 0 0) [] [] (fun _ => false) := by
  have s0 := h0.size
  have s1 := hB.size
  have hal : Below w1.heap.size w1 (w1.alloc (.map #[] 0)) := (Below.refl _ _).alloc (Nat.le_refl _) _
  refine ⟨hT.below hal, Seen.made w1, NRow.nil _ _, (h0.trans (hB.mono s0)).trans (hal.mono (by omega)), by omega, by omega, ?_, Old.none _, fun p => by rw [sp_rep]; simp⟩
  have : ∀ k, names (List.replicate n (0, false)) k = [] := by
    intro k
    induction k with
    | zero => rfl
    | succ k ih => rw [names_no (by rw [sp_rep]), ih]
  rw [this]
end Go.Proofs.Ytmegbbgolmejnaa.Con
