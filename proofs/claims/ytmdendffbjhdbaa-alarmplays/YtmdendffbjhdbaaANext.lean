/- Next; the row of those that rang; ring. -/
import Derived.Test.YtmdendffbjhdbaaAOps
import Derived.Test.YtmdendffbjhdbaaASort
import Derived.Test.YtmdendffbjhdbaaApd
namespace Go.Proofs.Ytmdendffbjhdbaa.Con
open Go.RowKit Go.Proofs.Ytmdendffbjhdbaa.Hq
set_option linter.unusedVariables false
set_option linter.unusedSimpArgs false
attribute [local go_sem ↓] Go.wp_at_zero Go.wp_at_succ
def nx (a r : Int × Bool) : Int × Bool := if r.2 = true ∧ (a.2 = false ∨ r.1 < a.1) then (r.1, true) else a
def nextTo (d : AD) : Nat → Int × Bool
  | 0 => (0, false)
  | k + 1 => nx (nextTo d k) (regOf d k)
theorem nextTo_succ (d : AD) (k : Nat) : nextTo d (k + 1) = nx (nextTo d k) (regOf d k) := rfl
section
variable {W : World} {d : AD}
set_option maxHeartbeats 1600000 in
theorem next_any (a : d.At W) :
    Calls Try.prog 12 #[.pointer (some ⟨d.ab, 0, none⟩)] W fun e w' => e = .returned (.tuple #[.int .i64 (nextTo d d.hs.length).1, .bool (nextTo d d.hs.length).2]) ∧ Below W.heap.size W w' := by
  have c1 := a.c1
  have hhi := a.hi
  have R := hide (fun wr (hB : Below W.heap.size W wr) (k : Nat) => register_any (a.below hB) (k : Int))
  have NS := hide (nextTo_succ d)
  have N0 : Hid (nextTo d 0 = (0, false)) := hide rfl
  generalize nextTo d = nt at *
  generalize hn : d.hs.length = n at *
  clear a
  go_enter Try.func12, Try.ntmps12
  go_wp2
  go_loopw [4, 5, 14] (fun l s i wr => ∃ k : Nat, k ≤ n ∧ i = .int .i64 k ∧ l = .int .i64 (nt k).1 ∧ s = .bool (nt k).2 ∧ Hid (Below W.heap.size W wr)) (fun _ _ i _ => n - (intOf i).toNat)
  case atStart => exact ⟨0, by omega, rfl, by rw [N0.out], by rw [N0.out], hide (Below.refl _ _)⟩
  case round =>
    obtain ⟨k, hk, rfl, rfl, rfl, HB⟩ := hrel
    by_cases hkn : k < n
    · have k1 : (k : Int) < (n : Int) := by omega
      have A := hide (R.out _ HB.out k)
      obtain ⟨⟨q1, q2⟩, hq⟩ : ∃ q, nt (k + 1) = q := ⟨_, rfl⟩
      have Q := hide hq
      have E : Hid ((q1, q2) = nx (nt k) (regOf d k)) := hide (by rw [← hq, NS.out k])
      clear hq
      generalize nt k = p at *
      obtain ⟨p1, p2⟩ := p
      generalize regOf d (k : Int) = r at *
      obtain ⟨r1, r2⟩ := r
      clear NS
      have Z := hide HB.out.size
      cases r2
      · have e := E.out
        simp [nx] at e
        obtain ⟨rfl, rfl⟩ := e
        go_wp2_with (go_at_call 11; refine A.out.mono ?_; rintro e w1 ⟨rfl, hw⟩; have hw := hide hw)
        go_roundw
        case rel => exact ⟨k + 1, by omega, by go_num, by rw [Q.out], by rw [Q.out], hide (HB.out.trans (hw.out.mono Z.out))⟩
        case measure => simp [intOf]; omega
      · cases p2
        · have e := E.out
          simp [nx] at e
          obtain ⟨rfl, rfl⟩ := e
          go_wp2_with (go_at_call 11; refine A.out.mono ?_; rintro e w1 ⟨rfl, hw⟩; have hw := hide hw)
          go_roundw
          case rel => exact ⟨k + 1, by omega, by go_num, by rw [Q.out], by rw [Q.out], hide (HB.out.trans (hw.out.mono Z.out))⟩
          case measure => simp [intOf]; omega
        · by_cases hlt : r1 < p1
          · have e := E.out
            simp [nx, hlt] at e
            obtain ⟨rfl, rfl⟩ := e
            go_wp2_with (go_at_call 11; refine A.out.mono ?_; rintro e w1 ⟨rfl, hw⟩; have hw := hide hw)
            go_roundw
            case rel => exact ⟨k + 1, by omega, by go_num, by rw [Q.out], by rw [Q.out], hide (HB.out.trans (hw.out.mono Z.out))⟩
            case measure => simp [intOf]; omega
          · have e := E.out
            simp [nx, hlt] at e
            obtain ⟨rfl, rfl⟩ := e
            go_wp2_with (go_at_call 11; refine A.out.mono ?_; rintro e w1 ⟨rfl, hw⟩; have hw := hide hw)
            go_roundw
            case rel => exact ⟨k + 1, by omega, by go_num, by rw [Q.out], by rw [Q.out], hide (HB.out.trans (hw.out.mono Z.out))⟩
            case measure => simp [intOf]; omega
    · obtain rfl : k = n := by omega
      go_wp2
      refine bodyPost_ret (v := .tuple #[.int .i64 (nt k).1, .bool (nt k).2]) (by simp [results, Try.results12, go_sem]) rfl ⟨rfl, HB.out⟩
end
theorem infoR : (Try.prog.info? 52).map (fun i => (i.zero, i.size, i.bytes)) = some (some (.agg #[.int .i64 0, .int .i64 0, .int .i64 0]), 3, 24) := by kernel_rfl
theorem info_parts {e : TypeId} {z : Value} {s b : Nat} (h : (Try.prog.info? e).map (fun i => (i.zero, i.size, i.bytes)) = some (some z, s, b)) : ∃ i, Try.prog.info? e = some i ∧ i.zero = some z ∧ i.size = s ∧ i.bytes = b := by
  obtain ⟨i, hi, hz⟩ := Option.map_eq_some_iff.1 h
  simp only [Prod.mk.injEq] at hz
  exact ⟨i, hi, hz⟩
section
variable {B : Nat} {w w' : World} {v : Value} {rs : List Rg}
theorem RRow.nil (B : Nat) (w : World) : RRow B w (.slice none 0 0) [] := ⟨by rw [ringsV_len], .inl ⟨rfl, rfl⟩⟩
theorem RRow.past (h : RRow B w v rs) : ∀ k, v.ownBlock = some k → B ≤ k := own_past h
theorem RRow.lt (h : RRow B w v rs) : ∀ k, v.ownBlock = some k → k < w.heap.size := own_lt h
theorem RRow.kept (h : RRow B w v rs) (hk : ∀ k, v.ownBlock = some k → w'.heap[k]? = w.heap[k]?) : RRow B w' v rs := own_kept h hk
theorem RRow.shape (h : RRow B w v rs) : ∃ p c, v = .slice p rs.length c := by
  rcases h.2 with ⟨rfl, h0⟩ | ⟨g, cap, cur, rfl, _⟩
  · exact ⟨none, 0, by rw [h0]⟩
  · exact ⟨_, cap, rfl⟩
/-- One more at the end. -/
theorem RRow.app (h : RRow B w v rs) (hB : B ≤ w.heap.size) (hx : rs.length ≤ 100000) (N : Rg) (ty : TypeId) :
    ∃ p c w', (Builtin.append_ #[33, 33] ty #[v, .slice (some ⟨w.heap.size, 0, none⟩) 1 1]).run Try.prog (w.alloc (.cells #[.int .i64 N.1, .int .i64 N.2.1, .int .i64 N.2.2] 52)) = .ok (.slice p (rs.length + 1) c) w' ∧ RRow B w' (.slice p (rs.length + 1) c) (rs ++ [N]) ∧
      w.grownBy w' v.ownBlock ∧ ((Value.slice p (rs.length + 1) c).ownBlock = v.ownBlock ∨ (Value.slice p (rs.length + 1) c).ownBlock = some (w.heap.size + 1)) := by
  obtain ⟨i0, hi, hz0, hz1, hz2⟩ := info_parts infoR
  have hr := rd_one (heap_alloc_new w (.cells #[.int .i64 N.1, .int .i64 N.2.1, .int .i64 N.2.2] 52)) (size := 3) rfl
  obtain ⟨p, c, w', r1, r2, r3, r4⟩ := run_append_rd (w.alloc (.cells #[.int .i64 N.1, .int .i64 N.2.1, .int .i64 N.2.2] 52)) B 33 ty 52 i0 (.agg #[.int .i64 0, .int .i64 0, .int .i64 0]) 3 24 Try.underlying33 hi hz0 hz1 hz2 rfl (by decide) v rs.length (ringsV rs) (h.alloc _) _ _ 1 _ hr (by intro u hu; simp at hu; rcases hu with rfl | rfl | rfl <;> rfl) (by unfold maxLen; omega) (by omega) (by simp; omega)
  refine ⟨p, c, w', r1, ?_, ⟨r3.os, r3.tape, r3.output, by have := r3.size; simp at this; omega, fun k hk hn => (r3.block k (by simp; omega) hn).trans (heap_alloc_old w _ hk)⟩, by simpa using r4⟩
  unfold RRow
  rw [List.length_append, ringsV_snoc]
  exact r2
end
/-- .. in a walk. -/
theorem wpList_rapp {ops : Array Oper} {rest : List Oper} {o : Oper} {a : Act} {Q : Exit → Act → World → Prop} {w : World} (hgd : o.guard = none) (s x : Operand)
    (ho : o.op = .call { callee := .builtin .append, args := #[s, x], argTypes := #[33, 33] }) (B : Nat) (N : Rg) (v : Value) (rs : List Rg) (hs : a.eval s = v) (hx : a.eval x = .slice (some ⟨w.heap.size, 0, none⟩) 1 1)
    (h : RRow B w v rs) (hB : B ≤ w.heap.size) (hl : rs.length ≤ 100000)
    (k : ∀ p c w', Hid (RRow B w' (.slice p (rs.length + 1) c) (rs ++ [N]) ∧ w.grownBy w' v.ownBlock ∧ ((Value.slice p (rs.length + 1) c).ownBlock = v.ownBlock ∨ (Value.slice p (rs.length + 1) c).ownBlock = some (w.heap.size + 1))) → wpList Try.prog ops Q rest (a.put o.dst (.slice p (rs.length + 1) c)) w') :
    wpList Try.prog ops Q (o :: rest) a (w.alloc (.cells #[.int .i64 N.1, .int .i64 N.2.1, .int .i64 N.2.2] 52)) := by
  refine wpList_plain hgd fun K hK => ?_
  obtain ⟨p, c, w', hr, h2, h3, h4⟩ := h.app hB hl N o.type
  unfold Oper.wp execOp
  simp only [ho, resolve, invoke, builtin, Sem.run_bind, Sem.run_pure, Result.andThen_ok, List.map_toArray, List.map_cons, List.map_nil, hs, hx, hr]
  exact hK _ _ (k p c w' (hide ⟨h2, h3, h4⟩))
end Go.Proofs.Ytmdendffbjhdbaa.Con
