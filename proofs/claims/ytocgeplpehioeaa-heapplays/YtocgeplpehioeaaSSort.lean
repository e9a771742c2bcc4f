/- SortFunc, and All: the items in order. -/
import Derived.Test.YtocgeplpehioeaaSPdqW
namespace Go.Proofs.Ytocgeplpehioeaa.Con
open Go.RowKit Go.Proofs.Ytocgeplpehioeaa.Hq
set_option linter.unusedVariables false
set_option linter.unusedSimpArgs false
theorem bl64 (n : Nat) (h : n ≤ 1024) : Lib.bitLen n ≤ 64 := by
  have : ∀ k : Fin 1025, Lib.bitLen k.val ≤ 64 := by decide +kernel
  exact this ⟨n, by omega⟩
theorem bel0 (g : Bool) (b : Nat) (m : List It) : Bel g 0 b m := fun h => by omega
theorem sort_any {W0 W : World} {hb r : Nat} {g : Bool} {m : List It} {n : Nat} (hn : m.length = n) (S : So W0 hb r g m W) :
    Calls Try.prog 26 #[.slice (some ⟨r, 0, none⟩) n n, .func (.func 27) #[.pointer (some ⟨hb, 0, none⟩)] #[]] W fun e w' => SrtPost W0 hb r g m 0 n e w' := by
  have hn2 : n ≤ 1024 := by rw [← hn]; exact S.len
  have LN := hide (Try.bits_Len (n : Int) W (by omega) (by omega))
  rw [Int.toNat_natCast] at LN
  have PD := hide (pdq_any W0 hb r g n (n + 1) 0 n (Lib.bitLen n) m W (by omega) hn S (Nat.le_refl _) (Nat.zero_le _) (bl64 n hn2) (bel0 g n m))
  generalize Lib.bitLen n = lim at *
  clear S hn
  go_enter Try.func26, Try.ntmps26
  go_wp2_with (go_at_call 34; refine LN.out.mono ?_; rintro e w' ⟨rfl, rfl⟩)
  refine PD.out.mono ?_
  rintro e w1 ⟨rfl, hP⟩
  go_wp2
  go_end0
  exact ⟨rfl, hP⟩
/-- In order, all of it. -/
def Asc (g : Bool) (l : List It) : Prop := l.Pairwise (le g)
theorem asc_of {g : Bool} {l : List It} (h : Srt g 0 l.length l) : Asc g l := by
  unfold Asc
  rw [List.pairwise_iff_getElem]
  intro i j hi hj hij
  have := h.le i j (Nat.zero_le _) (by omega) hj
  have ge : ∀ k (hk : k < l.length), l[k] = at' l k := by
    intro k hk
    have := at_eq hk
    rw [List.getElem?_eq_getElem hk] at this
    simpa using this
  rw [ge i hi, ge j hj]; exact this
theorem asc_eq {g : Bool} {l m : List It} (hl : Asc g l) (hm : Asc g m) (hp : l.Perm m) : l = m :=
  hp.eq_of_pairwise (fun a b _ _ h1 h2 => le_antisymm h1 h2) hl hm
theorem all_any {W : World} {hb mb : Nat} {most : Int} {g : Bool} {v : Value} {l : List It} (h : HQ W hb mb most g v l) (h0 : 0 < l.length) :
    Calls Try.prog 16 #[.pointer (some ⟨hb, 0, none⟩)] W fun e w' => AllPost W (fun l' => l'.Perm l ∧ Asc g l') l.length e w' := by
  refine all_of _ h h0 ?_
  intro W1 hB hr
  have h1 := h.below hB
  obtain ⟨_, c1, _, _⟩ := h1.hp.cells
  have hlt := h.hp.lt
  refine (sort_any (W0 := W1) (W := W1) (m := l) (g := g) rfl ⟨hr, ⟨rfl, rfl, rfl, Nat.le_refl _, fun _ _ _ => rfl⟩, c1, by omega, h.hp.ids, h.len⟩).mono ?_
  rintro e w' ⟨rfl, p, s, rg, so⟩
  have hlen := rg.length
  refine ⟨rfl, p, hlen, ⟨rg.perm, asc_of (by rw [hlen]; exact so)⟩, s.row, s.grown.size, s.grown.os, s.grown.tape, s.grown.output, fun k hk hne => s.grown.block k hk (by simpa using hne)⟩
end Go.Proofs.Ytocgeplpehioeaa.Con
