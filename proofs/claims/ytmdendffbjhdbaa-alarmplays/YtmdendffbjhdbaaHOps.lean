/- Set, Drop, Key, Pop. -/
import Derived.Test.YtmdendffbjhdbaaHPut
namespace Go.Proofs.Ytmdendffbjhdbaa.Con
open Go.RowKit Go.Proofs.Ytmdendffbjhdbaa.Hq
set_option linter.unusedVariables false
set_option linter.unusedSimpArgs false
section
variable {W : World} {hb mb : Nat} {most : Int} {g : Bool} {v : Value} {l : List It}
theorem set_none (h : HQ W hb mb most g v l) (id key : Int) (hid : in64 id) (hth : ∀ y ∈ l, y.1 ≠ id) :
    Calls Try.prog 33 #[.pointer (some ⟨hb, 0, none⟩), .int .i64 id, .int .i64 key] W fun e w' => e = .returned (.int .i64 2) ∧ w' = W := by
  obtain ⟨c0, _, c2, c3⟩ := h.hp.cells
  have hlk := h.hp.map.look underM underI (zeroI W) hid
  rw [pos_none hth] at hlk
  simp only [Option.getD_none, Option.isSome_none] at hlk
  go_enter Try.func33, Try.ntmps33
  go_wp2
  go_ret
  exact ⟨rfl, rfl⟩
/-- The key of id made another. -/
def setK (l : List It) (id key : Int) : List It := l.map fun y => if y.1 = id then (id, key) else y
theorem setK_eq {l : List It} (hd : Ids l) {i : Nat} (hi : i < l.length) (key : Int) : l.set i ((at' l i).1, key) = setK l (at' l i).1 key := by
  apply ext_at (by simp [setK])
  intro k hk
  have hk' : k < l.length := by simpa using hk
  rw [at_set l i k _ hi]
  have : at' (setK l (at' l i).1 key) k = if (at' l k).1 = (at' l i).1 then ((at' l i).1, key) else at' l k := by
    have h1 := at_eq (l := setK l (at' l i).1 key) (i := k) (by simp [setK]; exact hk')
    unfold setK at h1
    rw [List.getElem?_map, at_eq hk'] at h1
    have h2 := Option.some.inj h1
    exact h2.symm
  rw [this]
  by_cases e : k = i
  · subst e; rw [if_pos rfl, if_pos rfl]
  · rw [if_neg e, if_neg (fun e' => e (hd.inj hk' hi e'))]
theorem setK_ids (l : List It) (id key : Int) : (setK l id key).map (·.1) = l.map (·.1) := by
  unfold setK
  rw [List.map_map]
  apply List.map_congr_left
  intro y _
  simp only [Function.comp]
  split
  · rename_i h; exact h.symm
  · rfl
theorem pos_ids {l m : List It} (h : m.map (·.1) = l.map (·.1)) (x : Int) : pos m x = pos l x := by
  have e : ∀ k : List It, pos k x = ((k.map (·.1)).findIdx? (fun y => decide (y = x))).map (fun n : Nat => (n : Int)) := by
    intro k
    unfold pos
    rw [List.findIdx?_map]; rfl
  rw [e, e, h]
def SetPost (W : World) (hb mb : Nat) (most : Int) (g : Bool) (v : Value) (l : List It) (e : Ending) (w' : World) : Prop :=
  e = .returned (.int .i64 0) ∧ ∃ (v' : Value) (l' : List It), HQ w' hb mb most g v' l' ∧ l'.Perm l ∧ Turn W w' hb mb v v'
theorem set_mid {r cap i : Nat} (h : Hp W hb mb most g (.slice (some ⟨r, 0, none⟩) l.length cap) l) (hi : i < l.length) (key : Int) (hk : in64 key) :
    Hp (W.setCell ⟨r, i * 2 + 1, none⟩ (.int .i64 key)) hb mb most g (.slice (some ⟨r, 0, none⟩) l.length cap) (l.set i ((at' l i).1, key)) ∧
    Turn W (W.setCell ⟨r, i * 2 + 1, none⟩ (.int .i64 key)) hb mb (.slice (some ⟨r, 0, none⟩) l.length cap) (.slice (some ⟨r, 0, none⟩) l.length cap) := by
  have hrb : hb ≠ r := fun e => h.row_hb (by simp [Value.ownBlock, e])
  have hrm : mb ≠ r := fun e => h.row_mb (by simp [Value.ownBlock, e])
  obtain ⟨r', cap', cur, e, hgr, hn, hmx, hs, hc⟩ := h.row.form (by omega)
  simp at e
  obtain ⟨rfl, rfl⟩ := e
  have hr2 := heap_setCell_same W r (i * 2 + 1) _ _ (.int .i64 key) hgr
  have hids : (l.set i ((at' l i).1, key)).map (·.1) = l.map (·.1) := by rw [setK_eq h.ids hi, setK_ids]
  refine ⟨⟨(heap_setCell_other W _ hb _ hrb).trans h.str, ?_, ?_, ?_, ?_⟩, ⟨rfl, rfl, rfl, by simp, ?_, fun _ e => .inl e⟩⟩
  · have := Row.of (l := l.set i ((at' l i).1, key)) (cap := cap) hr2 (by simpa using hn) hmx (by simp [hs]) ?_
    · rw [List.length_set] at this; exact this
    · intro j hj
      rw [List.length_set] at hj
      have := hc j hj
      unfold cellv at this ⊢
      rw [at_set l i _ _ hi, Array.getElem?_setIfInBounds]
      by_cases e1 : j / 2 = i
      · rw [if_pos e1]
        by_cases p : j % 2 = 0
        · rw [if_neg (by omega), if_pos p, this, if_pos p, e1]
        · rw [if_pos (by omega), if_pos (by omega), if_neg p]
      · rw [if_neg (by omega), if_neg e1, this]
  · rw [List.length_set]
    exact (h.map.kept (heap_setCell_other W _ mb _ hrm)).congr fun x _ => pos_ids hids x
  · unfold Ids; rw [hids]; exact h.ids
  · intro y hy
    rcases List.mem_or_eq_of_mem_set hy with hy | rfl
    · exact h.fit y hy
    · exact ⟨(h.fit _ (at_mem hi)).1, hk⟩
  · intro k hk k1 k2 k3
    exact heap_setCell_other W _ k _ (by simpa [Value.ownBlock] using k3)
set_option maxHeartbeats 800000 in
theorem set_ok (h : HQ W hb mb most g v l) (id key : Int) (hid : in64 id) (hkey : in64 key) (hth : ∃ y ∈ l, y.1 = id) :
    Calls Try.prog 33 #[.pointer (some ⟨hb, 0, none⟩), .int .i64 id, .int .i64 key] W fun e w' => SetPost W hb mb most g v (setK l id key) e w' := by
  have hl := h.len
  rcases pos_cases h.hp.ids id with ⟨i, hi, hie, hp⟩ | ⟨hne, _⟩
  · obtain ⟨r, cap, rfl, hn, hm⟩ := h.hp.form (by omega)
    obtain ⟨c0, _, c2, c3⟩ := h.hp.cells
    obtain ⟨a0, a1, f0, f1⟩ := h.hp.item rfl i hi
    have hlk := h.hp.map.look underM underI (zeroI W) hid
    rw [hp] at hlk
    simp only [Option.getD_some, Option.isSome_some] at hlk
    obtain ⟨m1, m2⟩ := set_mid h.hp hi key hkey
    have ME := hide (mend_any m1 i (by simpa using hi) (by simpa using hl) (set_hx h.heap i hi _))
    have M2 := hide m2
    have SK := hide (setK_eq h.hp.ids hi key)
    have H := hide h
    have i1 : (i : Int) < (l.length : Int) := by omega
    subst hie
    clear h m1 m2 hth hp
    generalize (at' l i).1 = x at *
    generalize (at' l i).2 = y at *
    obtain ⟨n, hnn⟩ : ∃ n, n = l.length := ⟨_, rfl⟩
    go_enter Try.func33, Try.ntmps33
    go_wp2_with (go_at_call 42; refine ME.out.mono ?_; rintro e w1 ⟨rfl, l', k1, k2, k3, k4, k5⟩)
    go_ret
    unfold SetPost
    refine ⟨rfl, _, l', ⟨k4, k3, ?_, H.out.lo, H.out.hi⟩, by rw [← SK.out]; exact k2, M2.out.trans k5⟩
    rw [k1, List.length_set]; exact H.out.room
  · obtain ⟨y, hy, e⟩ := hth
    exact absurd e (hne y hy)
theorem drop_none (h : HQ W hb mb most g v l) (id : Int) (hid : in64 id) (hth : ∀ y ∈ l, y.1 ≠ id) :
    Calls Try.prog 27 #[.pointer (some ⟨hb, 0, none⟩), .int .i64 id] W fun e w' => e = .returned (.bool false) ∧ w' = W := by
  obtain ⟨c0, _, c2, c3⟩ := h.hp.cells
  have hlk := h.hp.map.look underM underI (zeroI W) hid
  rw [pos_none hth] at hlk
  simp only [Option.getD_none, Option.isSome_none] at hlk
  go_enter Try.func27, Try.ntmps27
  go_wp2
  go_ret
  exact ⟨rfl, rfl⟩
def DropPost (W : World) (hb mb : Nat) (most : Int) (g : Bool) (v : Value) (l : List It) (id : Int) (e : Ending) (w' : World) : Prop :=
  e = .returned (.bool true) ∧ ∃ (v' : Value) (x : It) (l' : List It), HQ w' hb mb most g v' l' ∧ x.1 = id ∧ (x :: l').Perm l ∧ Turn W w' hb mb v v'
theorem drop_ok (h : HQ W hb mb most g v l) (id : Int) (hid : in64 id) (hth : ∃ y ∈ l, y.1 = id) :
    Calls Try.prog 27 #[.pointer (some ⟨hb, 0, none⟩), .int .i64 id] W fun e w' => DropPost W hb mb most g v l id e w' := by
  rcases pos_cases h.hp.ids id with ⟨i, hi, hie, hp⟩ | ⟨hne, _⟩
  · obtain ⟨c0, _, c2, c3⟩ := h.hp.cells
    have hlk := h.hp.map.look underM underI (zeroI W) hid
    rw [hp] at hlk
    simp only [Option.getD_some, Option.isSome_some] at hlk
    have TO := hide (takeOut_any h.hp h.heap i hi h.len)
    have H := hide h
    clear h hth hp
    go_enter Try.func27, Try.ntmps27
    go_wp2_with (go_at_call 35; refine TO.out.mono ?_; rintro e w1 ⟨rfl, l', v', k1, k2, k3, k4⟩)
    go_ret
    unfold DropPost
    refine ⟨rfl, v', _, l', ⟨k3, k2, ?_, H.out.lo, H.out.hi⟩, hie, k1, k4⟩
    have := k1.length_eq
    have := H.out.room
    simp at *; omega
  · obtain ⟨y, hy, e⟩ := hth
    exact absurd e (hne y hy)
theorem key_none (h : HQ W hb mb most g v l) (id : Int) (hid : in64 id) (hth : ∀ y ∈ l, y.1 ≠ id) :
    Calls Try.prog 26 #[.pointer (some ⟨hb, 0, none⟩), .int .i64 id] W fun e w' => e = .returned (.tuple #[.int .i64 0, .bool false]) ∧ w' = W := by
  obtain ⟨c0, _, c2, c3⟩ := h.hp.cells
  have hlk := h.hp.map.look underM underI (zeroI W) hid
  rw [pos_none hth] at hlk
  simp only [Option.getD_none, Option.isSome_none] at hlk
  go_enter Try.func26, Try.ntmps26
  go_wp2
  go_ret2
  exact ⟨rfl, rfl⟩
theorem key_some (h : HQ W hb mb most g v l) (x : It) (hx : x ∈ l) :
    Calls Try.prog 26 #[.pointer (some ⟨hb, 0, none⟩), .int .i64 x.1] W fun e w' => e = .returned (.tuple #[.int .i64 x.2, .bool true]) ∧ w' = W := by
  obtain ⟨i, hi, rfl⟩ := mem_at hx
  obtain ⟨r, cap, rfl, hn, hm⟩ := h.hp.form (by omega)
  obtain ⟨c0, _, c2, c3⟩ := h.hp.cells
  obtain ⟨a0, a1, f0, f1⟩ := h.hp.item rfl i hi
  have hlk := h.hp.map.look underM underI (zeroI W) (h.hp.fit _ hx).1
  rw [pos_some h.hp.ids hi] at hlk
  simp only [Option.getD_some, Option.isSome_some] at hlk
  have i1 : (i : Int) < (l.length : Int) := by omega
  clear h hx
  generalize (at' l i).1 = x at *
  generalize (at' l i).2 = y at *
  go_enter Try.func26, Try.ntmps26
  go_wp2
  go_ret2
  exact ⟨rfl, rfl⟩
end
end Go.Proofs.Ytmdendffbjhdbaa.Con
