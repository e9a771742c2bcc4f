/- slices.AppendSeq, slices.Collect, at leavers. -/
import Derived.Test.YtldccbinndbcdaaAdW
import Derived.RangeFuncBox
import Derived.RangeFuncCalls
import Derived.Maps.AppendAt
import Derived.LoopNIn
import Derived.LoopIn
namespace Go.Proofs.Ytldccbinndbcdaa.Am
open Go.RowKit Go.Shelf Go.Proofs.Ytldccbinndbcdaa.Con Go.Proofs.Ytldccbinndbcdaa.Wn Go.Proofs.Ytldccbinndbcdaa.Fp
set_option linter.unusedVariables false
set_option linter.unusedSimpArgs false
attribute [local go_sem] Oper.semAt_some
theorem cells_new (W : World) (cs : List Value) (t : TypeId) : ∀ j u, cs[j]? = some u → (W.alloc (.cells cs.toArray t)).cell? ((⟨W.heap.size, 0, none⟩ : Addr).add j) = some u := by
  intro j u h
  rw [Addr.add_lit]
  exact (cell_of_row _ _ _ _ _ _ (heap_alloc_new W _)).trans (by simpa using h)
/-- A block of cells abides the turn of what is no cells. -/
theorem block_own {β : Type} (B : Nat) (p : β → Nat → Array Value → TypeId → Prop) : OwnFrom B (fun (s : β) W => ∃ (k : Nat) (cs : Array Value) (t : TypeId), W.heap[k]? = some (.cells cs t (0, 0)) ∧ p s k cs t) := by
  rintro s W W' row ⟨k, cs, t, h, hp⟩ hg hr
  refine ⟨k, cs, t, (hg.block k (Array.getElem?_eq_some_iff.1 h).1 (fun e => ?_)).trans h, hp⟩
  obtain ⟨_, o, ho, hc⟩ := hr k e.symm
  rw [h] at ho; cases ho; cases hc
set_option maxRecDepth 100000 in
set_option maxHeartbeats 4000000 in
theorem appendSeq_in (F : Fence) (n : Nat) (h55 : F.fn 55) (hro : F.round = none) (hn : 2 ≤ n) (gf : Nat) (lb : Array Value) (hFg : F.fn gf) (eg : ∀ args w, (callFunc gf args).run Try.prog w = .ok (.enter gf args) w)
    (L : List Lv) (Sp : List Lv → Prop) (N n₀ : Nat) (hN : N ≤ 1000) (w : World) (hn₀ : n₀ ≤ w.heap.size) (hseq : SeqStopsK F (n - 1) Try.prog gf lb (fun x : Lv => #[lvV x]) (Below n₀) (fun ys => ys = L) Sp N w) :
    CallsIn F n Try.prog 55 #[.slice none 0 0, .func (.func gf) #[] lb] w fun e w' => ∃ v, e = .returned v ∧ w'.ownsRow w.heap.size 79 5 v L.length (flatL L) ∧ Below w.heap.size w w' := by
  have h1 : 1 ≤ n := by omega
  obtain ⟨i0, hi, hz0, hz1, hz2⟩ := info_parts infoLv
  refine callsIn_of_wp_marks Try.func55 rfl h55 ?_ hro
  simp only [Try.ntmps55, List.size_toArray, List.length_cons, List.length_nil, Nat.reduceAdd, Nat.reduceSub, Array.replicate_succ, Array.replicate_zero, List.push_toArray, List.append_toArray, List.nil_append, List.cons_append]
  gi_wp2
  have bS := Boxed.new w 54 (.slice none 0 0)
  have hB0 : Below w.heap.size w (w.alloc (.cells #[.slice none 0 0] 54)) := (Below.refl _ w).alloc (Nat.le_refl _) _
  have hsz : (w.alloc (.cells #[.slice none 0 0] 54)).heap.size = w.heap.size + 1 := by simp
  obtain ⟨W0, hW0⟩ : ∃ W0, w.alloc (.cells #[.slice none 0 0] 54) = W0 := ⟨_, rfl⟩
  rw [hW0] at bS hB0 hsz ⊢
  clear hW0
  refine wpIn_rangeFunc_ownH hro h1 (gf := gf) (lb := lb) rfl hFg eg hseq belowK_t (belowK_b (by omega)) hB0 (fun _ => rfl)
    (fun pre W => (∃ v, Boxed W w.heap.size 54 v ∧ W.ownsRow w.heap.size 79 5 v pre.length (flatL pre) ∧ True) ∧ Below w.heap.size w W)
    (fun _ _ _ => False)
    (OwnFrom.and (Own.from (holdsRow_own w.heap.size w.heap.size 54 79 5 (fun pre : List Lv => pre.length) (fun pre => flatL pre) (fun _ _ => True)) _) (ownFrom_below (Nat.le_refl _) (by omega)))
    (fun _ _ _ _ _ hs _ _ => hs)
    ⟨⟨_, bS, World.ownsRow_nil _ _ _ _, trivial⟩, hB0⟩
    (fun x a' W => ∃ (k : Nat) (cs : Array Value) (t : TypeId), W.heap[k]? = some (.cells cs t (0, 0)) ∧ (w.heap.size < k ∧ cs = (encL x).toArray ∧ t = 79 ∧ a' = { tmps := #[.slice none 0 0, .func (.func gf) #[] lb, .pointer (some ⟨w.heap.size, 0, none⟩), undef, .slice none 0 0, .pointer (some ⟨k, 0, none⟩), .func (.func gf) #[] lb, lvV x, undef, undef, undef, undef, undef], defers := [] }))
    (fun x a' => block_own _ (fun _ k cs t => w.heap.size < k ∧ cs = (encL x).toArray ∧ t = 79 ∧ a' = { tmps := #[.slice none 0 0, .func (.func gf) #[] lb, .pointer (some ⟨w.heap.size, 0, none⟩), undef, .slice none 0 0, .pointer (some ⟨k, 0, none⟩), .func (.func gf) #[] lb, lvV x, undef, undef, undef, undef, undef], defers := [] })) ?assign ?body ?done ?stop
  case assign =>
    rintro l pre x W K ⟨⟨v, hv, hrow, _⟩, hB⟩ hK
    have hlt := hv.lt
    have hW := hB.size
    gi_wp2
    exact hK _ _ ((KeepsOthers.alloc _ _).from _) ((Below.refl n₀ W).alloc (by omega) _) ⟨⟨v, hv.alloc _, hrow.alloc _, trivial⟩, hB.alloc hB.size _⟩ ⟨W.heap.size, _, _, heap_alloc_new W _, hlt, rfl, rfl, rfl⟩
  case body =>
    rintro l pre x a' W hl ⟨r, hr⟩ ⟨⟨v, hv, hrow, _⟩, hB⟩ ⟨Bx, cs, t, hx, hlo, rfl, rfl, rfl⟩ hlt
    have hc := hv.cell
    have hBx : Bx < W.heap.size := (Array.getElem?_eq_some_iff.1 hx).1
    have q0 : W.cell? ⟨Bx, 0, none⟩ = some (.int .i64 x.1.id) := (cell_of_row W _ 0 _ _ _ hx).trans rfl
    have q1 : W.cell? ⟨Bx, 1, none⟩ = some (.int .i64 x.1.pr.1) := (cell_of_row W _ 1 _ _ _ hx).trans rfl
    have q2 : W.cell? ⟨Bx, 2, none⟩ = some (.int .i64 x.1.pr.2) := (cell_of_row W _ 2 _ _ _ hx).trans rfl
    have q3 : W.cell? ⟨Bx, 3, none⟩ = some (.int .i64 x.1.till) := (cell_of_row W _ 3 _ _ _ hx).trans rfl
    have q4 : W.cell? ⟨Bx, 4, none⟩ = some (.int .i64 x.2) := (cell_of_row W _ 4 _ _ _ hx).trans rfl
    have hfl : Hid (flatL (pre ++ [x]) = flatL pre ++ [.int .i64 x.1.id, .int .i64 x.1.pr.1, .int .i64 x.1.pr.2, .int .i64 x.1.till, .int .i64 x.2] ∧ (pre ++ [x]).length = pre.length + 1) := hide ⟨flatL_snoc1 pre x, by simp⟩
    generalize x.1.id = y0 at *
    generalize x.1.pr.1 = y1 at *
    generalize x.1.pr.2 = y2 at *
    generalize x.1.till = y3 at *
    generalize x.2 = y4 at *
    gi_wp2_with (gi_at_builtin; refine wpListIn_append_own _ rfl _ _ 54 rfl w.heap.size 79 i0 (.agg #[.int .i64 0, .int .i64 0, .int .i64 0, .int .i64 0, .int .i64 0]) 5 40 Try.underlying54 hi hz0 hz1 hz2 rfl (by decide) _ _ _ rfl (hrow.alloc _) ⟨W.heap.size, 0, none⟩ 1 1 [.int .i64 y0, .int .i64 y1, .int .i64 y2, .int .i64 y3, .int .i64 y4] rfl rfl (cells_new W [.int .i64 y0, .int .i64 y1, .int .i64 y2, .int .i64 y3, .int .i64 y4] 79) (by intro u hu; simp at hu; rcases hu with rfl | rfl | rfl | rfl | rfl <;> rfl) (by unfold maxLen; omega) (by omega) (by have := hB.size; simp; omega) ?_; intro v' w1 hown' hgrow _; obtain ⟨g', cap', rfl⟩ := ownsRow_succ hown'; obtain ⟨hv1, hv2, hr2, hk2, hb2⟩ := hv.appended (by decide) hrow hB.size (Nat.le_refl _) hown' hgrow; have hc1 := hv1.cell; have hf1 := hv1.frozen)
    exact ⟨hk2.from _, hb2.mono hn₀, ⟨_, hv2, by rw [hfl.out.1, hfl.out.2]; exact hr2, trivial⟩, hB.trans hb2⟩
  case done =>
    rintro D ys W hD rfl ⟨⟨v, hv, hrow, _⟩, hB⟩ hK
    have hc := hv.cell
    gi_wp2
    refine ⟨by simp, .inl ⟨_, _, rfl, run_takeDeferred hK, ?_⟩⟩
    exact ⟨_, results_tmp rfl _ _ _, v, rfl, ownsRow_putObj hrow _ hK rfl, hB.trans (belowK_b (w := w) (Nat.le_refl _) W D _ _ (by omega) hK rfl rfl)⟩
  case stop =>
    rintro D c pre W _ _ h _
    exact h.elim
set_option maxHeartbeats 2000000 in
theorem collect_in (F : Fence) (n : Nat) (h50 : F.fn 50) (h55 : F.fn 55) (hro : F.round = none) (hn : 3 ≤ n) (gf : Nat) (lb : Array Value) (hFg : F.fn gf) (eg : ∀ args w, (callFunc gf args).run Try.prog w = .ok (.enter gf args) w)
    (L : List Lv) (Sp : List Lv → Prop) (N n₀ : Nat) (hN : N ≤ 1000) (w : World) (hn₀ : n₀ ≤ w.heap.size) (hseq : SeqStopsK F (n - 1 - 1) Try.prog gf lb (fun x : Lv => #[lvV x]) (Below n₀) (fun ys => ys = L) Sp N w) :
    CallsIn F n Try.prog 50 #[.func (.func gf) #[] lb] w fun e w' => ∃ v, e = .returned v ∧ w'.ownsRow w.heap.size 79 5 v L.length (flatL L) ∧ Below w.heap.size w w' := by
  have h1 : 1 ≤ n := by omega
  have hA := appendSeq_in F (n - 1) h55 hro (by omega) gf lb hFg eg L Sp N n₀ hN w hn₀ hseq
  refine callsIn_of_wp Try.func50 rfl h50 ?_ hro
  simp only [Try.ntmps50, List.size_toArray, List.length_cons, List.length_nil, Nat.reduceAdd, Nat.reduceSub, Array.replicate_succ, Array.replicate_zero, List.push_toArray, List.append_toArray, List.nil_append, List.cons_append]
  gi_wp2_with (gi_at_call 55; refine hA.mono ?_; rintro e w' ⟨v, rfl, hrow, hb⟩)
  go_ret
  exact ⟨v, rfl, hrow, hb⟩
/-- slices.Collect of those above now. -/
theorem collect_above (H : List Lv) (hH : H.length ≤ 1000) (hp : Hp H) (p : Option Addr) (k cap : Nat) (now : Int) (w : World) (hS : Ls w.heap.size w (.slice p k cap) H) :
    Calls Try.prog 50 #[.func (.func 48) #[] #[.pointer (some ⟨w.heap.size, 0, none⟩), .pointer (some ⟨w.heap.size + 1, 0, none⟩)]] ((w.alloc (.cells #[.slice p k cap] 55)).alloc (.cells #[.int .i64 now] 2)) fun e w' => ∃ v, e = .returned v ∧ w'.ownsRow w.heap.size 79 5 v (wk H now H.length 0).length (flatL (wk H now H.length 0)) ∧ Nx w w' := by
  have hb : Nx w ((w.alloc (.cells #[.slice p k cap] 55)).alloc (.cells #[.int .i64 now] 2)) := ((Below.refl _ w).alloc (Nat.le_refl _) _).alloc (by simp) _
  have hl := Nat.le_trans (wk_len hp now) hH
  refine (callsIn_wide.1 (collect_in Fence.wide 6 trivial trivial rfl (by omega) _ _ trivial (enters_of Try.func48 (by kernel_rfl) rfl) (wk H now H.length 0) _ _ w.heap.size hl _ hb.size (above_stops Fence.wide rfl _ trivial trivial rfl w.heap.size now H hH _ w (Nat.le_refl _) hS))).mono fun e w' ⟨v, e1, h1, h2⟩ => ?_
  exact ⟨v, e1, ownB h1 hb.size, Nx.trans hb h2⟩
end Go.Proofs.Ytldccbinndbcdaa.Am
