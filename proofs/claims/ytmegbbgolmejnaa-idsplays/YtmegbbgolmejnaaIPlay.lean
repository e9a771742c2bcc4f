/- IdsPlays: the table, the reference's and the row of names that were had, side by side. -/
import Derived.Test.YtmegbbgolmejnaaIRef
import Derived.Test.YtmegbbgolmejnaaIOnceR
namespace Go.Proofs.Ytmegbbgolmejnaa.Con
open Go.RowKit
set_option linter.unusedVariables false
set_option linter.unusedSimpArgs false
/-- The two hold the same; what was had is xs. -/
structure PR (W0 wr : World) (tb rb n wb gb kb : Nat) (l : List Sp) (v : Value) (xs : List Nat) : Prop where
  tab : Tb wr tb rb n l
  ref : Rf wr wb gb kb n l
  row : NRow W0.heap.size wr v xs
  below : Below W0.heap.size W0 wr
  pr : W0.heap.size ≤ rb
  pg : W0.heap.size ≤ gb
  pk : W0.heap.size ≤ kb
  had : ∀ x ∈ xs, x < 4294967296
section
variable {W0 wr w1 : World} {tb rb n wb gb kb : Nat} {l l' : List Sp} {v : Value} {xs : List Nat}
theorem PR.apart (h : PR W0 wr tb rb n wb gb kb l v xs) : tb ≠ gb ∧ tb ≠ kb ∧ rb ≠ gb ∧ rb ≠ kb ∧ wb ≠ rb ∧ gb ≠ rb ∧ kb ≠ rb := by
  refine ⟨?_, ?_, ?_, ?_, ?_, ?_, ?_⟩
  · rintro rfl
    have := h.tab.str.symm.trans h.ref.gen
    simp at this
  · rintro rfl
    have := h.tab.str.symm.trans h.ref.tak
    simp at this
  · rintro rfl
    have := h.tab.row.symm.trans h.ref.gen
    simp at this
  · rintro rfl
    have := h.tab.row.symm.trans h.ref.tak
    simp at this
  · rintro rfl
    have := h.tab.row.symm.trans h.ref.str
    simp at this
  · rintro rfl
    have := h.tab.row.symm.trans h.ref.gen
    simp at this
  · rintro rfl
    have := h.tab.row.symm.trans h.ref.tak
    simp at this
theorem PR.vt (h : PR W0 wr tb rb n wb gb kb l v xs) {k : Nat} (hk : v.ownBlock = some k) : k ≠ tb ∧ k ≠ rb ∧ k ≠ wb ∧ k ≠ gb ∧ k ≠ kb := by
  obtain ⟨cur, hc⟩ := h.row.blk hk
  refine ⟨?_, ?_, ?_, ?_, ?_⟩
  · rintro rfl
    have := h.tab.str.symm.trans hc
    simp at this
  · rintro rfl
    have := h.tab.row.symm.trans hc
    simp at this
  · rintro rfl
    have := h.ref.str.symm.trans hc
    simp at this
  · rintro rfl
    have := h.ref.gen.symm.trans hc
    simp at this
  · rintro rfl
    have := h.ref.tak.symm.trans hc
    simp at this
theorem PR.bel (h : PR W0 wr tb rb n wb gb kb l v xs) (hB : Below wr.heap.size wr w1) : PR W0 w1 tb rb n wb gb kb l v xs :=
  ⟨h.tab.below hB, h.ref.kept (hB.block _ h.ref.wlt) (hB.block _ h.ref.glt) (hB.block _ h.ref.klt), h.row.kept (fun k hk => hB.block k (h.row.lt k hk)), h.below.trans (hB.mono h.below.size), h.pr, h.pg, h.pk, h.had⟩
/-- A call on the one, then the same on the other. -/
theorem PR.both (h : PR W0 wr tb rb n wb gb kb l v xs) {w2 : World} (hT : Tb w1 tb rb n l') (hR : Turn wr w1 rb) (hF : Rf w1 wb gb kb n l → Rf w2 wb gb kb n l') (hQ : RT w1 w2 gb kb) : PR W0 w2 tb rb n wb gb kb l' v xs := by
  obtain ⟨a1, a2, a3, a4, a5, a6, a7⟩ := h.apart
  have s1 := hR.size
  have r1 : Rf w1 wb gb kb n l := h.ref.kept (hR.block _ h.ref.wlt a5) (hR.block _ h.ref.glt a6) (hR.block _ h.ref.klt a7)
  have b1 := h.below.trans (hR.toBelow h.below.size h.pr)
  refine ⟨hT.kept (hQ.block _ hT.tlt a1 a2) (hQ.block _ hT.rlt a3 a4), hF r1, ?_, b1.trans (hQ.toBelow b1.size h.pg h.pk), h.pr, h.pg, h.pk, h.had⟩
  refine h.row.kept fun k hk => ?_
  obtain ⟨v1, v2, v3, v4, v5⟩ := h.vt hk
  have := h.row.lt k hk
  exact (hQ.block k (by omega) v4 v5).trans (hR.block k this v2)
/-- Take on both. -/
theorem pr_take (h : PR W0 wr tb rb n wb gb kb l v xs) (p : Nat) (hp : Free l p) :
    Calls Try.prog 9 #[.pointer (some ⟨tb, 0, none⟩)] wr fun e w1 => ∃ N : Nat, N < 4294967296 ∧ e = .returned (.tuple #[.int .u32 (N : Int), .int .i64 0]) ∧
      Hid (Calls Try.prog 17 #[.pointer (some ⟨wb, 0, none⟩)] w1 fun e w2 => e = .returned (.tuple #[.int .i64 (N : Int), .int .i64 0]) ∧ ∃ l', Hid (PR W0 w2 tb rb n wb gb kb l' v xs)) := by
  obtain ⟨a1, a2, a3, a4, a5, a6, a7⟩ := h.apart
  have hpn : p < n := by rw [← h.tab.len]; exact hp.1
  have hhi := h.tab.hi
  refine (take_ok h.tab p hp).mono ?_
  rintro e w1 ⟨rfl, hT, hR⟩
  have r1 : Rf w1 wb gb kb n l := h.ref.kept (hR.block _ h.ref.wlt a5) (hR.block _ h.ref.glt a6) (hR.block _ h.ref.klt a7)
  refine ⟨_, nm_lt (by omega) (h.tab.fit p), rfl, hide ?_⟩
  refine (rtake_ok r1 p hp).mono ?_
  rintro e w2 ⟨rfl, hF, hQ⟩
  exact ⟨rfl, _, hide (h.both hT hR (fun _ => hF) hQ)⟩
/-- Give on both. -/
theorem pr_give (h : PR W0 wr tb rb n wb gb kb l v xs) (m : Nat) (hm : m < 4294967296) :
    Calls Try.prog 11 #[.pointer (some ⟨tb, 0, none⟩), .int .u32 (m : Int)] wr fun e w1 => ∃ E : Int, e = .returned (.int .i64 E) ∧
      Hid (Calls Try.prog 18 #[.pointer (some ⟨wb, 0, none⟩), .int .i64 (m : Int)] w1 fun e w2 => e = .returned (.int .i64 E) ∧ ∃ l', Hid (PR W0 w2 tb rb n wb gb kb l' v xs)) := by
  obtain ⟨a1, a2, a3, a4, a5, a6, a7⟩ := h.apart
  refine (give_any h.tab m hm).mono ?_
  rintro e w1 ⟨rfl, hT, hR⟩
  have r1 : Rf w1 wb gb kb n l := h.ref.kept (hR.block _ h.ref.wlt a5) (hR.block _ h.ref.glt a6) (hR.block _ h.ref.klt a7)
  refine ⟨_, rfl, hide ?_⟩
  refine (rgive_any r1 m hm).mono ?_
  rintro e w2 ⟨rfl, hF, hQ⟩
  exact ⟨rfl, _, hide (h.both hT hR (fun _ => hF) hQ)⟩
/-- Is on both. -/
theorem pr_is (h : PR W0 wr tb rb n wb gb kb l v xs) (m : Nat) (hm : m < 4294967296) :
    Calls Try.prog 10 #[.pointer (some ⟨tb, 0, none⟩), .int .u32 (m : Int)] wr fun e w1 => ∃ E : Int, e = .returned (.int .i64 E) ∧
      Hid (Calls Try.prog 19 #[.pointer (some ⟨wb, 0, none⟩), .int .i64 (m : Int)] w1 fun e w2 => e = .returned (.int .i64 E) ∧ Hid (PR W0 w2 tb rb n wb gb kb l v xs)) := by
  refine (is_any h.tab m hm).mono ?_
  rintro e w1 ⟨rfl, hB⟩
  have h1 := h.bel hB
  refine ⟨_, rfl, hide ?_⟩
  refine (ris_any h1.ref m hm).mono ?_
  rintro e w2 ⟨rfl, hw⟩
  subst hw
  exact ⟨rfl, hide h1⟩
theorem PR.app (h : PR W0 wr tb rb n wb gb kb l v xs) {w' : World} {v' : Value} {N : Nat} (hN : N < 4294967296) (hr : NRow W0.heap.size w' v' (xs ++ [N])) (hg : wr.grownBy w' v.ownBlock) : PR W0 w' tb rb n wb gb kb l v' (xs ++ [N]) := by
  refine ⟨h.tab.kept (hg.block _ h.tab.tlt (fun e => (h.vt e.symm).1 rfl)) (hg.block _ h.tab.rlt (fun e => (h.vt e.symm).2.1 rfl)), h.ref.kept (hg.block _ h.ref.wlt (fun e => (h.vt e.symm).2.2.1 rfl)) (hg.block _ h.ref.glt (fun e => (h.vt e.symm).2.2.2.1 rfl)) (hg.block _ h.ref.klt (fun e => (h.vt e.symm).2.2.2.2 rfl)), hr, below_grown h.below h.below.size hg h.row.past, h.pr, h.pg, h.pk, ?_⟩
  intro x hx
  rcases List.mem_append.1 hx with hx | hx
  · exact h.had x hx
  · obtain rfl : x = N := by simpa using hx
    exact hN
end
theorem pr_start {W0 w0 w1 w2 : World} {tb rb n wb gb kb : Nat} {l : List Sp} (h0 : Below W0.heap.size W0 w0) (hT : Tb w1 tb rb n l) (hB : Below w0.heap.size w0 w1) (h2 : w0.heap.size ≤ rb)
    (hF : Rf w2 wb gb kb n l) (hC : Below w1.heap.size w1 w2) (k2 : w1.heap.size ≤ gb) (k3 : w1.heap.size ≤ kb) : PR W0 w2 tb rb n wb gb kb l (.slice none 0 0) [] := by
  have s0 := h0.size
  have s1 := hB.size
  exact ⟨hT.below hC, hF, NRow.nil _ _, (h0.trans (hB.mono s0)).trans (hC.mono (by omega)), by omega, by omega, by omega, by simp⟩
theorem names_at {l : List Sp} {p : Nat} (ht : (sp l p).2 = true) : ∀ k, p < k → (names l k)[(names l p).length]? = some (nm p (sp l p).1)
  | 0, h => by omega
  | k + 1, h => by
    by_cases e : p = k
    · subst e
      rw [names_yes ht, List.getElem?_append_right (Nat.le_refl _), Nat.sub_self]; rfl
    · have ih := names_at ht k (by omega)
      rw [names, List.getElem?_append_left (List.getElem?_eq_some_iff.1 ih).1, ih]
end Go.Proofs.Ytmegbbgolmejnaa.Con
