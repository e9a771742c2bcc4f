/- The iterator over the Faults in an error: what it hands to a loop's body, for every body that keeps what lay. -/
import Derived.Test.YtlfmlbkpkkegpaaFmtFCode
import Derived.RangeFuncNested
import Derived.RangeFuncBound
import Derived.RangeFuncCalls
import Derived.RangeFuncLeaves
import Derived.RangeFuncFrom
import Derived.Shelf.Abstract
import Derived.Shelf.RegionOpen
import Derived.OwnWalkIn
import Derived.TacticsInMore
import Derived.LoopNIn
import Derived.LoopIn
namespace Go.Proofs.YtlfmlbkpkkegpaaFmt.Con
open Go.RowKit Go.Extern.Stop Go.Stop Go.Extern Go.Shelf
set_option linter.unusedVariables false
attribute [local go_sem] Oper.semAt_some

/-- A Fault in memory: its block below n0, its Op and its ID as the world w0 has them. -/
abbrev El (n0 : Nat) (w0 : World) := { x : Nat × ByteArray × Int // x.1 < n0 ∧ w0.cell? ⟨x.1, 0, none⟩ = some (.string x.2.1) ∧ w0.cell? ⟨x.1, 1, none⟩ = some (.int .i64 x.2.2) }

/-- What may lie innermost. -/
def Inner (B : Value) : Prop := (∃ c, B = .iface 26 (.int .i64 c)) ∨ (∃ q, B = .iface 53 (.pointer (some q))) ∨ B = .nilIface
/-- v is that Fault, or what fmt has wrapped round it. -/
def Link (n0 : Nat) (W : World) (b : Nat) (v : Value) : Prop :=
  v = .iface 32 (.pointer (some ⟨b, 0, none⟩)) ∨ ∃ bw, bw < n0 ∧ v = .iface 52 (.pointer (some ⟨bw, 0, none⟩)) ∧ W.cell? ⟨bw, 1, none⟩ = some (.iface 32 (.pointer (some ⟨b, 0, none⟩)))
theorem Link.below {n0 : Nat} {A B : World} {b : Nat} {v : Value} (hb : Below n0 A B) (h : Link n0 A b v) : Link n0 B b v := by
  rcases h with h | ⟨bw, h1, h2, h3⟩
  · exact .inl h
  · exact .inr ⟨bw, h1, h2, (hb.cell (p := ⟨bw, 1, none⟩) h1).trans h3⟩

/-- A chain by its Faults. -/
def ChainX (n0 : Nat) (w0 : World) (W : World) (B : Value) : List (El n0 w0) → Value → Prop
  | [], v => v = B
  | x :: l, v => ∃ v', Link n0 W x.1.1 v ∧ W.cell? ⟨x.1.1, 2, none⟩ = some v' ∧ ChainX n0 w0 W B l v'
theorem ChainX.below {n0 : Nat} {w0 A B : World} {c : Value} (hb : Below n0 A B) : ∀ {l : List (El n0 w0)} {v : Value}, ChainX n0 w0 A c l v → ChainX n0 w0 B c l v
  | [], _, h => h
  | x :: l, v, h => by
    obtain ⟨v', h1, h2, h3⟩ := h
    exact ⟨v', h1.below hb, (hb.cell (p := ⟨x.1.1, 2, none⟩) x.2.1).trans h2, h3.below hb⟩
/-- What stands for an element, as Ops and IDs. -/
def nm {n0 : Nat} {w0 : World} (x : El n0 w0) : ByteArray × Int := x.1.2

/-- The variable f of the iterator's loop. -/
def ptrOf {n0 : Nat} {w0 : World} : List (El n0 w0) → Value
  | [] => .pointer none
  | x :: _ => .pointer (some ⟨x.1.1, 0, none⟩)
theorem ptrOf_nil {n0 : Nat} {w0 : World} : ptrOf ([] : List (El n0 w0)) = .pointer none := rfl
theorem ptrOf_cons {n0 : Nat} {w0 : World} (x : El n0 w0) (l : List (El n0 w0)) : ptrOf (x :: l) = .pointer (some ⟨x.1.1, 0, none⟩) := rfl
def RestX (n0 : Nat) (w0 : World) (W : World) (B : Value) : List (El n0 w0) → Prop
  | [] => True
  | x :: l => ∃ v', W.cell? ⟨x.1.1, 2, none⟩ = some v' ∧ ChainX n0 w0 W B l v'
theorem ChainX.rest {n0 : Nat} {w0 W : World} {c : Value} {l : List (El n0 w0)} {v : Value} (h : ChainX n0 w0 W c l v) : RestX n0 w0 W c l := by
  cases l with
  | nil => trivial
  | cons x l => obtain ⟨v', _, h2, h3⟩ := h; exact ⟨v', h2, h3⟩
theorem RestX.below {n0 : Nat} {w0 A B : World} {c : Value} (hb : Below n0 A B) {l : List (El n0 w0)} (h : RestX n0 w0 A c l) : RestX n0 w0 B c l := by
  cases l with
  | nil => trivial
  | cons x l => obtain ⟨v', h2, h3⟩ := h; exact ⟨v', (hb.cell (p := ⟨x.1.1, 2, none⟩) x.2.1).trans h2, h3.below hb⟩

/-- How many Faults from a pointer on, counted up to the fuel. -/
def cntP (W : World) : Nat → Value → Nat
  | 0, _ => 0
  | n + 1, .pointer (some a) => match W.cell? ⟨a.block, a.off + 2, none⟩ with
    | some (.iface t (.pointer (some q))) => if t = 32 then cntP W n (.pointer (some q)) + 1 else if t = 52 then (match W.cell? ⟨q.block, q.off + 1, none⟩ with
      | some (.iface t2 (.pointer (some r))) => if t2 = 32 then cntP W n (.pointer (some r)) + 1 else 1
      | _ => 1) else 1
    | _ => 1
  | _ + 1, _ => 0
theorem cntP_rest {n0 : Nat} {w0 W : World} {B : Value} (hB : Inner B) : ∀ {l : List (El n0 w0)} {n : Nat}, RestX n0 w0 W B l → l.length ≤ n → cntP W n (ptrOf l) = l.length
  | [], n, _, _ => by cases n <;> rfl
  | [x], n, h, hn => by
    obtain ⟨v', h2, h3⟩ := h
    obtain rfl : v' = B := h3
    cases n with
    | zero => simp at hn
    | succ n =>
      rw [ptrOf_cons]
      unfold cntP
      simp only [Nat.zero_add, h2]
      rcases hB with ⟨c, rfl⟩ | ⟨q, rfl⟩ | rfl
      · rfl
      · rfl
      · rfl
  | x :: y :: l, n, h, hn => by
    obtain ⟨v', h2, v'', hl, h3, h4⟩ := h
    cases n with
    | zero => simp at hn
    | succ n =>
      have e := cntP_rest hB (l := y :: l) (n := n) ⟨v'', h3, h4⟩ (by simpa using hn)
      rw [ptrOf_cons] at e ⊢
      unfold cntP
      rcases hl with rfl | ⟨bw, hbw, rfl, hc⟩
      · simp only [Nat.zero_add, h2, if_true, e, List.length_cons]
      · simp only [Nat.zero_add, h2, hc, if_true, e, List.length_cons]
        rfl

/-- outermost, at a chain. -/
theorem outer_x {n0 : Nat} {w0 W : World} {B : Value} (hB : Inner B) {l : List (El n0 w0)} {v : Value} (h : ChainX n0 w0 W B l v) (hg : Laid W) (hn0 : n0 ≤ W.heap.size) :
    Calls Tryf.prog 31 #[v] W fun e w' => e = .returned (ptrOf l) ∧ Below W.heap.size W w' := by
  cases l with
  | nil =>
    obtain rfl : v = _ := h
    rcases hB with ⟨c, rfl⟩ | ⟨q, rfl⟩ | rfl
    · exact outer_no c W hg
    · exact outer_noO q W hg
    · exact outer_nil W
  | cons x l =>
    obtain ⟨v', hl, _⟩ := h
    rcases hl with rfl | ⟨bw, hbw, rfl, hc⟩
    · exact outer_fault ⟨x.1.1, 0, none⟩ W hg
    · exact outer_fault1 bw ⟨x.1.1, 0, none⟩ W hg (Nat.lt_of_lt_of_le hbw hn0) hc

theorem grown_of_below {A B : World} (h : Below A.heap.size A B) : A.grownBy B none := ⟨h.os, h.tape, h.output, h.size, fun k hk _ => h.block k hk⟩

set_option maxHeartbeats 1000000 in
theorem faults_any (t : TypeId) (v : Value) (w : World) :
    Calls Tryf.prog 21 #[.iface t v] w fun e w' => e = .returned (.func (.func 35) #[] #[.pointer (some ⟨w.heap.size, 0, none⟩)]) ∧ w' = w.alloc (.cells #[.iface t v] 24) := by
  have hmf : ∀ (fn : Fn) (first cap : Array Value) (w : World), (Instr.makeFunc fn first cap).run Tryf.prog w = .ok (.func fn first cap) w := fun _ _ _ _ => rfl
  go_enter Tryf.func21, Tryf.ntmps21
  go_wp2
  go_ret
  exact ⟨rfl, rfl⟩

set_option maxHeartbeats 1000000 in
theorem faults_nil (w : World) :
    Calls Tryf.prog 21 #[.nilIface] w fun e w' => e = .returned (.func (.func 35) #[] #[.pointer (some ⟨w.heap.size, 0, none⟩)]) ∧ w' = w.alloc (.cells #[.nilIface] 24) := by
  have hmf : ∀ (fn : Fn) (first cap : Array Value) (w : World), (Instr.makeFunc fn first cap).run Tryf.prog w = .ok (.func fn first cap) w := fun _ _ _ _ => rfl
  go_enter Tryf.func21, Tryf.ntmps21
  go_wp2
  go_ret
  exact ⟨rfl, rfl⟩

set_option maxRecDepth 100000 in
set_option maxHeartbeats 2000000 in
theorem faults_in (n : Nat) (hn : 1 ≤ n) (l Bn n0 : Nat) (w0 : World) (B : Value) (hIn : Inner B) (v0 : Value) (xs : List (El n0 w0)) (J Jx : List (El n0 w0) → World → Prop) (W : World)
    (hJ : AbidesFrom W.heap.size J) (hJx : AbidesFrom W.heap.size Jx)
    (hY : ∀ pre x W1, J pre W1 → pre.length < xs.length → YieldAt Fence.wide (n - 1) Tryf.prog l #[.pointer (some ⟨x.1.1, 0, none⟩)] W1 fun e W' =>
      (e = .returned (.bool true) ∧ J (pre ++ [x]) W' ∧ Below n0 W1 W') ∨ (e = .returned (.bool false) ∧ Jx (pre ++ [x]) W'))
    (hn0 : n0 ≤ W.heap.size) (h1n0 : 0 < n0) (hg : Laid W) (hBn : W.cell? ⟨Bn, 0, none⟩ = some v0) (hL : ChainX n0 w0 W B xs v0) (h0 : J [] W) :
    CallsIn Fence.wide n Tryf.prog 35 #[.func (.yield l) #[] #[], .pointer (some ⟨Bn, 0, none⟩)] W fun e W' => (∃ v, e = .returned v) ∧
      ((∃ ys, ys = xs ∧ J ys W') ∨ (∃ pre, pre <+: xs ∧ Jx pre W')) := by
  refine callsIn_of_wp Tryf.func35 rfl trivial ?_ rfl
  simp only [Tryf.ntmps35, List.size_toArray, List.length_cons, List.length_nil, Nat.reduceAdd, Nat.reduceSub, Array.replicate_succ, Array.replicate_zero, List.push_toArray, List.append_toArray, List.nil_append, List.cons_append]
  have HL := hide hL
  have HG := hide hg
  clear hL hg
  gi_wp2_with (refine ⟨trivial, ?_⟩; gi_at_call 31; refine (callsIn_wide.2 (outer_x hIn (unhide HL) (unhide HG) hn0)).mono ?_; rintro e W1 ⟨rfl, b1⟩)
  have L1 := hide ((unhide HL).rest.below (b1.mono hn0))
  have G1 := hide ((unhide HG).below h1n0 (b1.mono hn0))
  have J1 := hide (hJ [] W W1 none h0 (grown_of_below b1) (fun r e => by cases e))
  have S1 := hide b1.size
  have HJ := hide hJ
  clear hJ hJx b1 h0 HL HG
  gi_loopw [3] (fun p wr => ∃ (pre rest : List (El n0 w0)), p = ptrOf rest ∧ xs = pre ++ rest ∧ RestX n0 w0 wr B rest ∧ J pre wr ∧ Laid wr ∧ W.heap.size ≤ wr.heap.size)
    (fun p wr => cntP wr xs.length p)
  case atStart => exact ⟨[], xs, rfl, rfl, unhide L1, unhide J1, unhide G1, unhide S1⟩
  case round =>
    obtain ⟨pre, rest, rfl, hx, hl, hJs, hG, hS⟩ := hrel
    have HX := hide hx
    have HGr := hide hG
    have HSr := hide hS
    clear hx hG hS L1 G1 J1 S1
    cases rest with
    | nil =>
      simp only [ptrOf_nil]
      gi_wp2
      refine ⟨fun f h => (by cases h), ?_⟩
      gi_wp2
      go_end0
      exact ⟨⟨_, rfl⟩, .inl ⟨pre, by simp [unhide HX], hJs⟩⟩
    | cons x rest =>
      have Hl := hide hl
      obtain ⟨v', hq, hr⟩ := hl
      obtain ⟨fn, tmps, assign, body, hy, hR⟩ := hY pre x wr hJs (by rw [unhide HX]; simp)
      have Hq := hide hq
      have Hr := hide hr
      clear hq hr
      simp only [ptrOf_cons]
      gi_wp2
      refine hR.mono ?_
      rintro e W3 (⟨rfl, hJ3, hk3⟩ | ⟨rfl, hJx3⟩)
      · have hq3 : W3.cell? ⟨x.1.1, 2, none⟩ = some v' := (hk3.cell (p := ⟨x.1.1, 2, none⟩) x.2.1).trans (unhide Hq)
        have Hr3 := hide ((unhide Hr).below hk3)
        have G3 := hide ((unhide HGr).below h1n0 hk3)
        have J3 := hide hJ3
        have K3 := hide hk3
        clear hJ3 hk3 hR hy
        gi_wp2_with (refine ⟨trivial, ?_⟩; gi_at_call 31; refine (callsIn_wide.2 (outer_x hIn (unhide Hr3) (unhide G3) (Nat.le_trans hn0 (Nat.le_trans (unhide HSr) (unhide K3).size)))).mono ?_; rintro e W4 ⟨rfl, b4⟩)
        have b4' : Below n0 W3 W4 := b4.mono (Nat.le_trans hn0 (Nat.le_trans (unhide HSr) (unhide K3).size))
        go_roundw
        case rel => exact ⟨pre ++ [x], rest, rfl, by simp [unhide HX], (unhide Hr3).rest.below b4', (unhide HJ) _ _ _ none (unhide J3) (grown_of_below b4) (fun r e => by cases e), (unhide G3).below h1n0 b4', Nat.le_trans (unhide HSr) (Nat.le_trans (unhide K3).size b4.size)⟩
        case measure =>
          have e1 := cntP_rest hIn (n := xs.length) ((unhide Hr3).rest.below b4') (by rw [unhide HX]; simp; omega)
          have e2 := cntP_rest hIn (n := xs.length) (unhide Hl) (by rw [unhide HX]; simp)
          show cntP W4 xs.length (ptrOf rest) < cntP wr xs.length (.pointer (some ⟨x.1.1, 0, none⟩))
          rw [e1, show Value.pointer (some ⟨x.1.1, 0, none⟩) = ptrOf (x :: rest) from rfl, e2]; simp
      · gi_wp2
        go_end0
        exact ⟨⟨_, rfl⟩, .inr ⟨pre ++ [x], ⟨rest, by simp [unhide HX]⟩, hJx3⟩⟩

/-- The iterator's contract, as the laws of a range over a function take it. -/
theorem faults_stops (n : Nat) (hn : 1 ≤ n) (Bn : Nat) (w0 : World) (B : Value) (hIn : Inner B) (v0 : Value) (xs : List (El w0.heap.size w0)) (w : World) (hBn : Bn < w.heap.size) (hb : Below w0.heap.size w0 w)
    (hg : Laid w0) (hc : w.cell? ⟨Bn, 0, none⟩ = some v0) (hL : ChainX w0.heap.size w0 w0 B xs v0) :
    SeqStopsK Fence.wide n Tryf.prog 35 #[.pointer (some ⟨Bn, 0, none⟩)] (fun x : El w0.heap.size w0 => #[Value.pointer (some ⟨x.1.1, 0, none⟩)]) (Below w0.heap.size) (fun ys => ys = xs) (fun pre => pre <+: xs) xs.length w := fun l J Jx W hW hJ hJx hY h0 =>
  faults_in n hn l Bn w0.heap.size w0 B hIn v0 xs J Jx W hJ hJx hY (Nat.le_trans hb.size hW.size) hg.pos (hg.below hg.pos (hb.trans (hW.mono hb.size))) ((hW.cell (p := ⟨Bn, 0, none⟩) hBn).trans hc) (hL.below (hb.trans (hW.mono hb.size))) h0

theorem box_cell {W : World} {B : Nat} {v : Value} {t : TypeId} (h : W.heap[B]? = some (.cells #[v] t (0, 0))) : W.cell? ⟨B, 0, none⟩ = some v ∧ W.frozen? ⟨B, 0, none⟩ = false := by
  constructor <;> simp [World.cell?, World.frozen?, h]
theorem cell_new (W : World) (v : Value) (t : TypeId) : (W.alloc (.cells #[v] t)).cell? ⟨W.heap.size, 0, none⟩ = some v ∧ (W.alloc (.cells #[v] t)).frozen? ⟨W.heap.size, 0, none⟩ = false :=
  box_cell (World.alloc_heap_new W _)
theorem cell_al {W : World} {a : Addr} {v : Value} (o : Obj) (h : W.cell? a = some v) : (W.alloc o).cell? a = some v := cell_kept h (World.grownBy_alloc W o none) (fun r e => by cases e)
theorem frozen_al {W : World} {a : Addr} {v : Value} (o : Obj) (h : W.cell? a = some v) (hf : W.frozen? a = false) : (W.alloc o).frozen? a = false := (frozen_kept h (World.grownBy_alloc W o none) (fun r e => by cases e)).trans hf
end Go.Proofs.YtlfmlbkpkkegpaaFmt.Con
