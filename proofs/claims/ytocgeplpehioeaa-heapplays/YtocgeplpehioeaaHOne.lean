/- All of one item. -/
import Derived.Test.YtocgeplpehioeaaHThree
import Derived.Laws.CopyOwn
import Derived.Deep.WholeRow
import Derived.Laws.MakeOwn
import Derived.Test.YtocgeplpehioeaaShelf
namespace Go.Proofs.Ytocgeplpehioeaa.Con
open Go.RowKit Go.Proofs.Ytocgeplpehioeaa.Hq
set_option linter.unusedVariables false
set_option linter.unusedSimpArgs false
theorem len1 (w : World) : Calls Try.prog 34 #[.int .u64 1] w fun e w' => (∃ k : Int, e = .returned (.int .i64 k)) ∧ w' = w := by
  exact (Try.bits_Len 1 w (by decide) (by decide)).mono fun e w' ⟨he, hw⟩ => ⟨⟨_, he⟩, hw⟩
theorem ins1 (r : Option Addr) (f : Value) (w : World) : Calls Try.prog 40 #[.slice r 1 1, .int .i64 0, .int .i64 1, f] w fun e w' => e = .returned (.tuple #[]) ∧ w' = w := by
  go_enter Try.func40, Try.ntmps40
  go_wp2
  go_loop [8] (fun i => i = .int .i64 1) (fun _ => 0)
  case atStart => rfl
  case round =>
    subst hrel
    go_wp2
    go_end0
    exact ⟨rfl, rfl⟩
theorem pdq1 (r : Option Addr) (f : Value) (k : Int) (w : World) : Calls Try.prog 33 #[.slice r 1 1, .int .i64 0, .int .i64 1, .int .i64 k, f] w fun e w' => e = .returned (.tuple #[]) ∧ w' = w := by
  go_enter Try.func33, Try.ntmps33
  go_wp2
  go_loop [1, 2, 3, 10, 11] (fun a b c d e => a = .int .i64 0 ∧ b = .int .i64 1) (fun _ _ _ _ _ => 0)
  case atStart => exact ⟨rfl, rfl⟩
  case round =>
    obtain ⟨rfl, rfl⟩ := hrel
    go_wp2_with (go_at_call 40; refine (ins1 _ _ _).mono ?_; rintro e w' ⟨rfl, rfl⟩)
    refine bodyPost_ret (results_none rfl _ _ _) rfl ?_
    exact ⟨rfl, rfl⟩
theorem sort1 (r : Option Addr) (f : Value) (w : World) : Calls Try.prog 26 #[.slice r 1 1, f] w fun e w' => e = .returned (.tuple #[]) ∧ w' = w := by
  go_enter Try.func26, Try.ntmps26
  go_wp2_with (first
    | (go_at_call 34; refine (len1 _).mono ?_; rintro e w' ⟨⟨k, rfl⟩, rfl⟩)
    | (go_at_call 33; refine (pdq1 _ _ _ _).mono ?_; rintro e w' ⟨rfl, rfl⟩))
  go_end0
  exact ⟨rfl, rfl⟩
theorem under34 : Try.prog.underlying 34 = some (.slice 29) := by kernel_rfl
theorem one_flat (l : List It) : ∀ u ∈ flat l, u.oneCell' = true := by
  intro u hu
  unfold flat at hu
  obtain ⟨j, _, rfl⟩ := List.mem_map.1 hu
  unfold cellv
  split <;> rfl
/-- The items copied into a row of their length. -/
theorem run_copy_items {W : World} {v : Value} {l : List It} (h : Row W v l) (h0 : 0 < l.length) (d : Nat) (cur : Array Value) (ty : TypeId) (hd : W.heap[d]? = some (.cells cur 29 (0, 0))) (hs : cur.size = l.length * 2) (c : Nat) :
    (Builtin.copy_ #[34, 34] ty #[.slice (some ⟨d, 0, none⟩) l.length c, v]).run Try.prog W = .ok (.int .i64 l.length) (W.setRow d (flat l).toArray) := by
  obtain ⟨r, cap, cur', rfl, hg, hn, hm, hs', hc⟩ := h.form h0
  obtain ⟨i0, hi, hz⟩ : ∃ i, Try.prog.info? 29 = some i ∧ (i.zero, i.size, i.bytes) = (some (.agg #[.int .i64 0, .int .i64 0]), 2, 16) := by
    have := info29
    rw [Option.map_eq_some_iff] at this
    exact this
  simp only [Prod.mk.injEq] at hz
  obtain ⟨hz0, hz1, hz2⟩ := hz
  have hf := run_firstCells_some (P := Try.prog) W 2 l.length ⟨r, 0, none⟩ l.length cap (flat l) (flat_len l) (fun j u hu => by
    have hj : j < l.length * 2 := by
      have := (List.getElem?_eq_some_iff.1 hu).1
      rw [flat_len] at this; exact this
    have hadd : (⟨r, 0, none⟩ : Addr).add j = ⟨r, j, none⟩ := by unfold Addr.add; split <;> simp_all
    rw [hadd, cell_of_row W r j _ _ _ hg, hc j hj, ← flat_get l j hj]; exact hu)
  have hst := run_storeCells_at Try.prog d 0 29 (flat l) 0 cur W hd (by rw [flat_len]; omega) (one_flat l)
  have hrow : cur.toList.take (0 + 0) ++ (flat l) ++ cur.toList.drop (0 + 0 + (flat l).length) = flat l := by
    rw [flat_len]
    simp
    omega
  rw [hrow] at hst
  simp only [Builtin.copy_, Sem.run_bind, run_underlying under34, Result.andThen_ok, Builtin.lenOf, Nat.min_self, sizeOf, typeInfo, hi, Sem.run_pure]
  simp [run_underlying under34, sizeOf, typeInfo, hi, Builtin.lenOf, hz1, hf, hst, goInt, Result.andThen]
theorem run_make_items (n : Nat) (hn : n ≤ 1024) (W : World) : ∃ cur : Array Value, cur.size = n * 2 ∧ (Instr.makeSlice 34 (.int .i64 n) (.int .i64 n)).run Try.prog W = .ok (.slice (some ⟨W.heap.size, 0, none⟩) n n) (W.alloc (.cells cur 29)) := by
  obtain ⟨i0, hi, hz⟩ : ∃ i, Try.prog.info? 29 = some i ∧ (i.zero, i.size, i.bytes) = (some (.agg #[.int .i64 0, .int .i64 0]), 2, 16) := by
    have := info29
    rw [Option.map_eq_some_iff] at this
    exact this
  simp only [Prod.mk.injEq] at hz
  obtain ⟨hz0, hz1, hz2⟩ := hz
  have := run_make (P := Try.prog) W 34 29 i0 _ under34 hi hz0 .i64 .i64 (n : Int) (n : Int) (by omega) (by omega) (by rw [hz2]; omega) (by omega)
  rw [hz1] at this
  refine ⟨_, ?_, this⟩
  rw [size_madeCells]; simp
/-- What the sort is handed. -/
def cmpV (hb : Nat) : Value := .func (.func 27) #[.pointer (some ⟨hb, 0, none⟩)] #[]
/-- All, given what the sort does. -/
def AllPost (W : World) (m : List It → Prop) (n : Nat) (e : Ending) (w' : World) : Prop :=
  ∃ (r : Nat) (l' : List It), e = .returned (.slice (some ⟨r, 0, none⟩) n n) ∧ l'.length = n ∧ m l' ∧ w'.heap[r]? = some (.cells (flat l').toArray 29 (0, 0)) ∧ Below W.heap.size W w' ∧ W.heap.size ≤ r
def SortPost (W : World) (m : List It → Prop) (r n : Nat) (e : Ending) (w' : World) : Prop :=
  e = .returned (.tuple #[]) ∧ ∃ l' : List It, l'.length = n ∧ m l' ∧ w'.heap[r]? = some (.cells (flat l').toArray 29 (0, 0)) ∧ W.heap.size ≤ w'.heap.size ∧ w'.os = W.os ∧ w'.tape = W.tape ∧ w'.output = W.output ∧ ∀ k, k < W.heap.size → k ≠ r → w'.heap[k]? = W.heap[k]?
set_option maxHeartbeats 800000 in
theorem all_of {W : World} {hb mb : Nat} {most : Int} {g : Bool} {v : Value} {l : List It} (m : List It → Prop) (h : HQ W hb mb most g v l) (h0 : 0 < l.length)
    (hsort : ∀ W1, Below W.heap.size W W1 → W1.heap[W.heap.size]? = some (.cells (flat l).toArray 29 (0, 0)) → Calls Try.prog 26 #[.slice (some ⟨W.heap.size, 0, none⟩) l.length l.length, cmpV hb] W1 fun e w' => SortPost W1 m W.heap.size l.length e w') :
    Calls Try.prog 16 #[.pointer (some ⟨hb, 0, none⟩)] W fun e w' => AllPost W m l.length e w' := by
  have hl := h.len
  obtain ⟨cur, hcs, hmk⟩ := run_make_items l.length hl W
  have hal : Below W.heap.size W (W.alloc (.cells cur 29)) := (Below.refl _ _).alloc (Nat.le_refl _) _
  have hcp := run_copy_items (h.below hal).hp.row h0 W.heap.size cur 3 (heap_alloc_new W _) hcs l.length
  rw [World.setRow_alloc_new] at hcp
  have HS := hide (hsort (W.alloc (.cells (flat l).toArray 29)) ((Below.refl _ _).alloc (Nat.le_refl _) _) (heap_alloc_new W _))
  obtain ⟨p, cap, rfl⟩ := h.slice
  obtain ⟨_, _, c2, _⟩ := h.hp.cells
  have hbl := World.block_lt_of_cell? W _ c2
  have hmf : ∀ (fn : Fn) (first cap : Array Value) (w : World), (Instr.makeFunc fn first cap).run Try.prog w = .ok (.func fn first cap) w := fun _ _ _ _ => rfl
  generalize (flat l).toArray = FL at *
  clear h hsort hal
  go_enter Try.func16, Try.ntmps16
  go_wp2_with (go_at_call 26; refine HS.out.mono ?_; rintro e w1 ⟨rfl, hP⟩)
  go_ret
  obtain ⟨l', k1, k2, k3, k4, k5, k6, k7, k8⟩ := hP
  unfold AllPost
  refine ⟨W.heap.size, l', rfl, k1, k2, k3, ?_, Nat.le_refl _⟩
  refine ⟨k5, k6, k7, by simp at k4; omega, fun k hk => ?_⟩
  rw [k8 k (by simp; omega) (by omega)]
  exact heap_alloc_old W _ hk
theorem all_one {W : World} {hb mb : Nat} {most : Int} {g : Bool} {v : Value} {l : List It} {x : It} (h : HQ W hb mb most g v l) (hx : l = [x]) :
    Calls Try.prog 16 #[.pointer (some ⟨hb, 0, none⟩)] W fun e w' => AllPost W (fun l' => l' = [x]) 1 e w' := by
  subst hx
  refine all_of _ h (by simp) ?_
  intro W1 hB hr
  refine (sort1 _ _ _).mono ?_
  rintro e w' ⟨rfl, rfl⟩
  exact ⟨rfl, [x], rfl, rfl, hr, Nat.le_refl _, rfl, rfl, rfl, fun _ _ _ => rfl⟩
end Go.Proofs.Ytocgeplpehioeaa.Con
