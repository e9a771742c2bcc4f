/- String's walk. -/
import Derived.Test.YtpibejjhldnplaaDoorMStr
namespace Go.Proofs.YtpibejjhldnplaaDoor.Con
open Go.RowKit Go.Proofs.YtpibejjhldnplaaDoor.Mk
set_option linter.unusedVariables false

theorem infoStr : (Tryd.prog.info? 9).map (fun i => (i.zero, i.size, i.bytes)) = some (some (.string ⟨#[]⟩), 1, 16) := by kernel_rfl
def strsV (l : List (List UInt8)) : List Value := l.map fun t => Value.string ⟨t.toArray⟩
/-- The loop of String: pre is gathered, the runs from k on are to come. -/
def StrRel (m : Nat) (w : World) (v i ok : Value) (wr : World) : Prop :=
  ∃ (pre : List (List UInt8)) (n k : Nat), runs m = pre ++ runsFrom m n k ∧ k ≤ 64 ∧ 64 - k < n ∧ i = .int .i64 (headOf (onesFrom m k)).1 ∧ ok = .bool (headOf (onesFrom m k)).2 ∧ wr.ownsRow w.heap.size 9 1 v pre.length (strsV pre) ∧ Below w.heap.size w wr
theorem spre_le {m n k : Nat} {pre : List (List UInt8)} (hm : m < 18446744073709551616) (h : runs m = pre ++ runsFrom m n k) : pre.length ≤ 64 := by
  have := runsFrom_len m hm 65 0 (by omega)
  unfold runs at h
  rw [h, List.length_append] at this
  omega
theorem strRel_step {m n k j : Nat} {w wr w1 : World} {pre : List (List UInt8)} {v v' : Value} {o : Obj} {l : List Nat} (hm : m < 18446744073709551616) (h : runs m = pre ++ runsFrom m n k) (hn : 64 - k < n) (hj : onesFrom m k = j :: l)
    (hown : (wr.alloc o).ownsRow w.heap.size 9 1 v pre.length (strsV pre)) (hB : Below w.heap.size w wr)
    (hown' : w1.ownsRow w.heap.size 9 1 v' (pre.length + 1) (strsV pre ++ [.string ⟨(runTx j (endN m j - 1)).toArray⟩])) (hg : (wr.alloc o).grownBy w1 v.ownBlock) :
    StrRel m w v' (.int .i64 (headOf (onesFrom m (endN m j))).1) (.bool (headOf (onesFrom m (endN m j))).2) w1 := by
  obtain ⟨h1, h2, h3, _, _⟩ := onesFrom_cons hj
  have h4 := endN_gt hm h2 h3
  have h5 := endN_le m j
  obtain ⟨n', rfl⟩ : ∃ n', n = n' + 1 := ⟨n - 1, by omega⟩
  refine ⟨pre ++ [runTx j (endN m j - 1)], n', endN m j, ?_, h5, by omega, rfl, rfl, ?_, ?_⟩
  · rw [h, runsFrom_cons hj]; simp
  · rw [List.length_append, strsV, List.map_append]; exact hown'
  · exact (hB.alloc hB.size o).grown hg (by have := hB.size; simp; omega) (fun k hk => (hown.lt k hk).1)
theorem strN_of {m : Nat} (h : m ≠ 0) : strN m = Lib.join (runs m) [44] := by unfold strN; rw [if_neg h]
theorem lens_le (l : List (List UInt8)) (h : ∀ x ∈ l, x.length ≤ 5) : Lib.lens l ≤ 5 * l.length := by
  induction l with
  | nil => simp [Lib.lens]
  | cons x l ih =>
    have h1 := h x (List.mem_cons_self)
    have h2 := ih (fun y hy => h y (List.mem_cons_of_mem _ hy))
    simp [Lib.lens] at h2 ⊢; omega
theorem join_le (l : List (List UInt8)) (h : ∀ x ∈ l, x.length ≤ 5) (hl : l.length ≤ 64) : (Lib.join l [44]).length ≤ 140737488355328 := by
  cases l with
  | nil => simp [Lib.join_nil]
  | cons x r =>
    have := lens_le _ h
    simp at hl
    rw [Lib.join_length]; simp at this ⊢; omega

set_option maxHeartbeats 1600000 in
set_option maxRecDepth 100000 in
theorem string_any (m : Nat) (w : World) (hm : m < 18446744073709551616) (hT : Tab w) :
    Calls Tryd.prog 18 #[.int .u64 m] w fun e w' => e = .returned (.string ⟨(strN m).toArray⟩) ∧ Below w.heap.size w w' := by
  obtain ⟨i0, hi, hz0, hz1, hz2⟩ := info_parts infoStr
  have hT' := hide hT
  clear hT
  by_cases h0 : m = 0
  · subst h0
    go_enter Tryd.func18, Tryd.ntmps18
    go_wp2
    go_ret
    exact ⟨rfl, Below.refl _ _⟩
  · have hS := hide (strN_of h0)
    have hz : (((m : Nat) : Int) == 0) = false := by simp; omega
    clear h0
    go_enter Tryd.func18, Tryd.ntmps18
    go_wp2_with (go_at_call 10; refine (first_any m 0 _ hm (unhide hT')).mono ?_; rintro e w' ⟨rfl, rfl⟩)
    go_loopw [3, 4, 5] (fun v i ok wr => StrRel m w' v i ok wr) (fun _ i ok _ => left i ok)
    case atStart => exact ⟨[], 65, 0, rfl, by omega, by omega, by rw [first_head0 m hm], by rw [first_head0 m hm], World.ownsRow_nil _ _ _ _, Below.refl _ _⟩
    case round =>
      obtain ⟨pre, n, k, hpre, hk, hn, rfl, rfl, hown, hB⟩ := hrel
      have hle := spre_le hm hpre
      have hP := hide hpre
      have hTr := hide ((unhide hT').on hB)
      have hsz := hB.size
      clear hpre
      cases hq : onesFrom m k with
      | nil =>
        have e : runs m = pre := by rw [unhide hP, runsFrom_nil hq, List.append_nil]
        have hJ := hide (show strN m = Lib.join pre [44] by rw [unhide hS, e])
        have hb5 : ∀ x ∈ pre, x.length ≤ 5 := by rw [← e]; exact runsFrom_mem m hm 65 0
        have hjl := hide (join_le pre hb5 hle)
        clear hq e hb5
        simp only [headOf]
        rcases hown.2 with ⟨hv, hp⟩ | ⟨g, cap, cur, hv, hb, hg, h1, h2, h3, h4⟩
        · have hp' : pre = [] := by simpa using hp
          subst hp'
          subst hv
          go_wp2_with (go_at_call 30; refine (Tryd.strings_Join_none none 0 ⟨#[44]⟩ _).mono ?_; rintro e w1 ⟨rfl, rfl⟩)
          go_ret
          exact ⟨by rw [unhide hJ]; rfl, hB⟩
        · subst hv
          have hc := hide hown
          clear hown
          have hcell : ∀ (t : Nat) (x : ByteArray), (pre.map fun l => (⟨l.toArray⟩ : ByteArray))[t]? = some x → wr.cell? ⟨g, 0 + t, none⟩ = some (.string x) := by
            intro t x hx
            have := (unhide hc).cells (g := g) rfl t (.string x) (by
              rw [List.getElem?_map] at hx
              obtain ⟨y, hy, rfl⟩ := Option.map_eq_some_iff.1 hx
              unfold strsV; rw [List.getElem?_map, hy]; rfl)
            have e : (⟨g, 0, none⟩ : Addr).add t = ⟨g, 0 + t, none⟩ := by unfold Addr.add; split <;> simp_all
            rw [e] at this; exact this
          have hml : (pre.map fun l => (⟨l.toArray⟩ : ByteArray)).map (·.data.toList) = pre := by
            rw [List.map_map]; conv => rhs; rw [← List.map_id pre]
            apply List.map_congr_left; intro y _; rfl
          have hC := hide (Tryd.strings_Join g 0 cap (pre.map fun l => (⟨l.toArray⟩ : ByteArray)) ⟨#[44]⟩ wr hcell (by
            have := (unhide hc).lt g rfl; exact this.2) (by simp; omega) (by simpa using h1) (by rw [hml]; exact unhide hjl))
          rw [hml, List.length_map] at hC
          clear hcell hml hg h3 h4
          go_wp2_with fail
          refine (unhide hC).mono ?_
          rintro e w1 ⟨rfl, hb1⟩
          have hfin := hide (hB.trans (hb1.mono hsz))
          clear hC
          go_wp2
          go_ret
          exact ⟨by rw [unhide hJ]; rfl, unhide hfin⟩
      | cons j l =>
        obtain ⟨h1, h2, h3, h4, h5⟩ := onesFrom_cons hq
        have h6 := endN_gt hm h2 h3
        have h7 := endN_le m j
        have hq' := hide hq
        clear hq h3 h4 h5
        simp only [headOf]
        have hE := hide (runEnd_any m j wr hm (unhide hTr))
        have hX := hide (fun W => runText_any j (endN m j - 1) W h2 (by omega))
        go_wp2_with fail
        refine (unhide hE).mono ?_
        rintro e w1 ⟨rfl, rfl⟩
        go_wp2_with fail
        rw [show ((endN m j : Nat) : Int) - 1 = ((endN m j - 1 : Nat) : Int) by omega]
        refine (unhide hX _).mono ?_
        rintro e w2 ⟨rfl, rfl⟩
        go_wp2_with (first
          | (at_builtin; refine wpList_append_own _ rfl _ _ 48 rfl w'.heap.size 9 i0 (.string ⟨#[]⟩) 1 16 Tryd.underlying48 hi hz0 hz1 hz2 rfl (by decide) _ _ _ rfl (hown.alloc _) ⟨w2.heap.size, 0, none⟩ 1 1 [.string ⟨(runTx j (endN m j - 1)).toArray⟩] rfl rfl ?c1 ?c2 ?c3 ?c4 ?c5 ?_))
        case c1 =>
          intro t u hj
          match t, hj with
          | 0, hj => simp at hj; subst hj; simp [Addr.add]
        case c2 => intro u hu; simp at hu; subst hu; rfl
        case c3 => unfold maxLen; omega
        case c4 => omega
        case c5 => simp; omega
        intro v' w3 hown' hgrow _
        have hB1 : Below w'.heap.size w' w3 := (hB.alloc hB.size _).grown hgrow (by simp; omega) (fun k hk => (hown.lt k hk).1)
        have hT1 := hide ((unhide hT').on hB1)
        have R := hide (strRel_step hm (unhide hP) hn (unhide hq') (hown.alloc _) hB hown' hgrow)
        have hF := hide (first_any m ((endN m j : Nat) : Int) w3 hm (unhide hT1))
        clear hown' hgrow hown hB1 hB hX
        go_wp2_with fail
        refine (unhide hF).mono ?_
        rintro e w4 ⟨rfl, hw4⟩
        subst hw4
        clear hF
        go_wp2
        go_roundw
        case rel => rw [first_head m (endN m j) hm]; exact unhide R
        case measure => rw [first_head m (endN m j) hm]; exact left_lt m (endN m j) j h6 h2
end Go.Proofs.YtpibejjhldnplaaDoor.Con
