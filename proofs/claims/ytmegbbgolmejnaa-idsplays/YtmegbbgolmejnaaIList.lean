/- List; the example that the laws ask first. -/
import Derived.Test.YtmegbbgolmejnaaIGive
import Derived.OwnWalk
namespace Go.Proofs.Ytmegbbgolmejnaa.Con
open Go.RowKit
set_option linter.unusedVariables false
set_option linter.unusedSimpArgs false
attribute [local go_sem ↓] Go.wp_at_zero Go.wp_at_succ
/-- The names that are taken among the first k places. -/
def names (l : List Sp) : Nat → List Nat
  | 0 => []
  | k + 1 => names l k ++ if (sp l k).2 = true then [nm k (sp l k).1] else []
theorem names_le (l : List Sp) (k : Nat) : (names l k).length ≤ k := by
  induction k with
  | zero => simp [names]
  | succ k ih =>
    rw [names, List.length_append]
    split
    · simp; omega
    · simp; omega
theorem names_yes {l : List Sp} {k : Nat} (h : (sp l k).2 = true) : names l (k + 1) = names l k ++ [nm k (sp l k).1] := by rw [names, if_pos h]
theorem names_no {l : List Sp} {k : Nat} (h : (sp l k).2 = false) : names l (k + 1) = names l k := by rw [names, if_neg (by simp [h]), List.append_nil]
def namesV (xs : List Nat) : List Value := xs.map fun x : Nat => Value.int .u32 (x : Int)
theorem namesV_snoc (xs : List Nat) (x : Nat) : namesV (xs ++ [x]) = namesV xs ++ [.int .u32 (x : Int)] := by simp [namesV]
theorem infoNm : (Try.prog.info? 26).map (fun i => (i.zero, i.size, i.bytes)) = some (some (.int .u32 0), 1, 4) := by kernel_rfl
theorem info_parts {e : TypeId} {z : Value} {s b : Nat} (h : (Try.prog.info? e).map (fun i => (i.zero, i.size, i.bytes)) = some (some z, s, b)) : ∃ i, Try.prog.info? e = some i ∧ i.zero = some z ∧ i.size = s ∧ i.bytes = b := by
  obtain ⟨i, hi, hz⟩ := Option.map_eq_some_iff.1 h
  simp only [Prod.mk.injEq] at hz
  exact ⟨i, hi, hz⟩
/-- A row of names, ours. -/
def NRow (B : Nat) (w : World) (v : Value) (xs : List Nat) : Prop := w.ownsRow B 26 1 v xs.length (namesV xs)
theorem NRow.nil (B : Nat) (w : World) : NRow B w (.slice none 0 0) [] := World.ownsRow_nil _ _ _ _
theorem NRow.form {B : Nat} {w : World} {v : Value} {xs : List Nat} (h : NRow B w v xs) : ∃ p c, v = .slice p xs.length c := by
  rcases h.2 with ⟨rfl, h0⟩ | ⟨g, cap, cur, rfl, _⟩
  · exact ⟨none, 0, by rw [h0]⟩
  · exact ⟨_, cap, rfl⟩
/-- One more name at the end. -/
theorem NRow.app {B : Nat} {w : World} {v : Value} {xs : List Nat} (h : NRow B w v xs) (hB : B ≤ w.heap.size) (hx : xs.length ≤ 1000) (N : Nat) (ty : TypeId) :
    ∃ v' w', (Builtin.append_ #[35, 35] ty #[v, .slice (some ⟨w.heap.size, 0, none⟩) 1 1]).run Try.prog (w.alloc (.cells #[.int .u32 (N : Int)] 26)) = .ok v' w' ∧ NRow B w' v' (xs ++ [N]) ∧
      w.grownBy w' v.ownBlock ∧ (v'.ownBlock = v.ownBlock ∨ v'.ownBlock = some (w.heap.size + 1)) := by
  obtain ⟨i0, hi, hz0, hz1, hz2⟩ := info_parts infoNm
  have hr := rd_one (heap_alloc_new w (.cells #[.int .u32 (N : Int)] 26)) (size := 1) rfl
  obtain ⟨p, c, w', r1, r2, r3, r4⟩ := run_append_rd (w.alloc (.cells #[.int .u32 (N : Int)] 26)) B 35 ty 26 i0 (.int .u32 0) 1 4 Try.underlying35 hi hz0 hz1 hz2 rfl (by decide) v xs.length (namesV xs) (h.alloc _) _ _ 1 _ hr (by intro u hu; simp at hu; subst hu; rfl) (by unfold maxLen; omega) (by omega) (by simp; omega)
  refine ⟨_, w', r1, ?_, ⟨r3.os, r3.tape, r3.output, by have := r3.size; simp at this; omega, fun k hk hn => (r3.block k (by simp; omega) hn).trans (heap_alloc_old w _ hk)⟩, by simpa using r4⟩
  unfold NRow
  rw [List.length_append, namesV_snoc]
  exact r2
/-- .. in a walk. -/
theorem wpList_napp {ops : Array Oper} {rest : List Oper} {o : Oper} {a : Act} {Q : Exit → Act → World → Prop} {w : World} (hgd : o.guard = none) (s x : Operand)
    (ho : o.op = .call { callee := .builtin .append, args := #[s, x], argTypes := #[35, 35] }) (B N : Nat) (v : Value) (xs : List Nat) (hs : a.eval s = v) (hx : a.eval x = .slice (some ⟨w.heap.size, 0, none⟩) 1 1)
    (h : NRow B w v xs) (hB : B ≤ w.heap.size) (hl : xs.length ≤ 1000)
    (k : ∀ v' w', Hid (NRow B w' v' (xs ++ [N]) ∧ w.grownBy w' v.ownBlock ∧ (v'.ownBlock = v.ownBlock ∨ v'.ownBlock = some (w.heap.size + 1))) → wpList Try.prog ops Q rest (a.put o.dst v') w') :
    wpList Try.prog ops Q (o :: rest) a (w.alloc (.cells #[.int .u32 (N : Int)] 26)) := by
  refine wpList_plain hgd fun K hK => ?_
  obtain ⟨v', w', hr, h2, h3, h4⟩ := h.app hB hl N o.type
  unfold Oper.wp execOp
  simp only [ho, resolve, invoke, builtin, Sem.run_bind, Sem.run_pure, Result.andThen_ok, List.map_toArray, List.map_cons, List.map_nil, hs, hx, hr]
  exact hK _ _ (k v' w' (hide ⟨h2, h3, h4⟩))
theorem NRow.past {B : Nat} {w : World} {v : Value} {xs : List Nat} (h : NRow B w v xs) : ∀ k, v.ownBlock = some k → B ≤ k := own_past h
theorem NRow.lt {B : Nat} {w : World} {v : Value} {xs : List Nat} (h : NRow B w v xs) : ∀ k, v.ownBlock = some k → k < w.heap.size := own_lt h
theorem NRow.kept {B : Nat} {w w' : World} {v : Value} {xs : List Nat} (h : NRow B w v xs) (hk : ∀ k, v.ownBlock = some k → w'.heap[k]? = w.heap[k]?) : NRow B w' v xs := own_kept h hk
section
variable {W : World} {tb rb n : Nat} {l : List Sp}
def ListPost (W : World) (n : Nat) (l : List Sp) (e : Ending) (w' : World) : Prop :=
  ∃ v, e = .returned v ∧ NRow W.heap.size w' v (names l n) ∧ Below W.heap.size W w'
set_option maxHeartbeats 1600000 in
theorem list_any (h : Tb W tb rb n l) :
    Calls Try.prog 15 #[.pointer (some ⟨tb, 0, none⟩)] W fun e w' => ListPost W n l e w' := by
  obtain ⟨i0, hi, hz0, hz1, hz2⟩ := info_parts infoNm
  have hhi := h.hi
  have c0 := h.cell
  have H := hide h
  clear h
  go_enter Try.func15, Try.ntmps15
  go_wp2
  go_loopw [3, 12] (fun v i wr => ∃ k : Nat, k ≤ n ∧ i = .int .i64 k ∧ Hid (NRow W.heap.size wr v (names l k)) ∧ Hid (Below W.heap.size W wr)) (fun _ i _ => n - (intOf i).toNat)
  case atStart => exact ⟨0, by omega, rfl, hide (NRow.nil _ _), hide (Below.refl _ _)⟩
  case round =>
    rename_i v _
    obtain ⟨k, hk, rfl, HR, HB⟩ := hrel
    by_cases hkn : k < n
    · have k1 : (k : Int) < (n : Int) := by omega
      have A := hide (at_in (H.out.below HB.out) k hkn)
      unfold AtPost at A
      cases hT : (sp l k).2 with
      | true =>
        have FT := hide (names_yes hT)
        obtain ⟨N, hN⟩ : ∃ N, nm k (sp l k).1 = N := ⟨_, rfl⟩
        rw [hN] at FT
        have E : (if 0 ≤ (k : Int) ∧ (sp l (k : Int).toNat).2 = true then nm (k : Int).toNat (sp l (k : Int).toNat).1 else 0) = N ∧ (decide (0 ≤ (k : Int)) && (sp l (k : Int).toNat).2) = true := by
          rw [Int.toNat_natCast, if_pos ⟨by omega, hT⟩, hT]; simpa using hN
        rw [E.1, E.2] at A
        clear hT hN E
        have hle := names_le l k
        have hs := HB.out.size
        go_wp2_with (first
          | (go_at_call 12; refine A.out.mono ?_; rintro e w1 ⟨rfl, hw⟩; have hw2 := hw.symm; clear hw; subst hw2)
          | (at_builtin; refine wpList_napp rfl _ _ rfl W.heap.size N _ (names l k) rfl rfl (by exact HR.out) hs (by omega) ?_; intro v2 w2 HA))
        have R2 : Hid (NRow W.heap.size w2 v2 (names l (k + 1))) := hide (by rw [FT.out]; exact HA.out.1)
        have B2 := hide (below_grown HB.out hs HA.out.2.1 HR.out.past)
        go_roundw
        case rel => exact ⟨k + 1, by omega, by go_num, R2, B2⟩
        case measure => simp [intOf]; omega
      | false =>
        have FT := hide (names_no hT)
        have E : (if 0 ≤ (k : Int) ∧ (sp l (k : Int).toNat).2 = true then nm (k : Int).toNat (sp l (k : Int).toNat).1 else 0) = 0 ∧ (decide (0 ≤ (k : Int)) && (sp l (k : Int).toNat).2) = false := by
          rw [Int.toNat_natCast, if_neg (by rw [hT]; simp), hT]; simp
        rw [E.1, E.2] at A
        clear hT E
        have R2 : Hid (NRow W.heap.size _ _ (names l (k + 1))) := hide (by rw [FT.out]; exact HR.out)
        go_wp2_with (go_at_call 12; refine A.out.mono ?_; rintro e w1 ⟨rfl, hw⟩; have hw2 := hw.symm; clear hw; subst hw2)
        go_roundw
        case rel => exact ⟨k + 1, by omega, by go_num, R2, HB⟩
        case measure => simp [intOf]; omega
    · obtain rfl : k = n := by omega
      go_wp2
      go_ret
      exact ⟨_, rfl, HR.out, HB.out⟩
end
theorem awake_list : isE [(0, true), (0, false), (0, false), (0, false)] 0 = 0 ∧ gave [(0, true), (0, false), (0, false), (0, false)] 0 = [(1, false), (0, false), (0, false), (0, false)] := by
  have : isE [(0, true), (0, false), (0, false), (0, false)] 0 = 0 := by decide
  unfold gave
  rw [if_pos this]
  exact ⟨this, by decide⟩
theorem free0 (g : Nat) (l : List Sp) : Free ((g, false) :: l) 0 := ⟨by simp, rfl, fun q hq => by omega⟩
theorem Turn.tb {W W' : World} {tb rb n rb' : Nat} {l : List Sp} (h : Turn W W' rb') (ht : Tb W tb rb n l) (h1 : tb ≠ rb') (h2 : rb ≠ rb') : Tb W' tb rb n l := ht.kept (h.block _ ht.tlt h1) (h.block _ ht.rlt h2)
set_option maxHeartbeats 1600000 in
set_option maxRecDepth 100000 in
theorem awake_any (W : World) : Calls Try.prog 7 #[] W fun e w' => e = .returned (.bool true) ∧ Below W.heap.size W w' := by
  have HN := hide (new_any 4 W)
  have e4 : held 4 = 4 := by decide
  unfold NewPost at HN
  rw [e4] at HN
  have P0 := hide (fun w => place_any 0 (by omega) w)
  have G0 := hide (fun w => gen_any 0 (by omega) w)
  have P1 := hide (fun w => place_any 256 (by omega) w)
  have G1 := hide (fun w => gen_any 256 (by omega) w)
  go_enter Try.func7, Try.ntmps7
  go_wp2_with (go_at_call 8; refine HN.out.mono ?_; rintro e W1 ⟨tb, rb, rfl, hT1, hB1, p1, p2⟩; have T1 := hide hT1; have B1 := hide hB1; clear hT1 hB1)
  have TK := hide (take_ok T1.out 0 (free0 0 _))
  refine TK.out.mono ?_
  rintro e W2 ⟨rfl, hT2, hR2⟩
  have T2 : Hid (Tb W2 tb rb 4 [(0, true), (0, false), (0, false), (0, false)]) := hide hT2
  have R2 := hide hR2
  clear hT2 hR2 TK
  go_wp2_with fail
  have GV := hide (give_any T2.out 0 (by omega))
  unfold GivePost at GV
  rw [awake_list.1, awake_list.2] at GV
  refine GV.out.mono ?_
  rintro e W3 ⟨rfl, hT3, hR3⟩
  have T3 := hide hT3
  have R3 := hide hR3
  clear hT3 hR3 GV
  go_wp2_with fail
  have TK := hide (take_ok T3.out 0 (free0 1 _))
  refine TK.out.mono ?_
  rintro e W4 ⟨rfl, hT4, hR4⟩
  have R4 := hide (R2.out.trans (R3.out.trans hR4))
  clear hT4 hR4 TK
  go_wp2_with (first
    | (go_at_call 14; first | (refine (P0.out _).mono ?_; rintro e w' ⟨rfl, rfl⟩) | (refine (P1.out _).mono ?_; rintro e w' ⟨rfl, rfl⟩))
    | (go_at_call 20; first | (refine (G0.out _).mono ?_; rintro e w' ⟨rfl, rfl⟩) | (refine (G1.out _).mono ?_; rintro e w' ⟨rfl, rfl⟩)))
  go_ret
  have s1 := B1.out.size
  exact ⟨rfl, B1.out.trans (R4.out.toBelow s1 p2)⟩
end Go.Proofs.Ytmegbbgolmejnaa.Con
