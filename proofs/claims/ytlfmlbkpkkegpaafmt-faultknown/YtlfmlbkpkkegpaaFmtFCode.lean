/- What Code and outermost answer over a chain: the deferred closures find no panic. -/
import Derived.Test.YtlfmlbkpkkegpaaFmtFAs2
import Derived.Defers
import Derived.Recover
namespace Go.Proofs.YtlfmlbkpkkegpaaFmt.Con
open Go.RowKit Go.Extern.Stop Go.Stop Go.Extern
set_option linter.unusedVariables false

/-- The variable errors.errorType holds what its initialiser lays. -/
def Laid (w : World) : Prop := w.cell? ⟨0, 0, none⟩ = some (.iface 85 (.agg #[.pointer (some ⟨4, 24, none⟩)]))
theorem Laid.pos {w : World} (h : Laid w) : 0 < w.heap.size := by
  rcases Nat.eq_zero_or_pos w.heap.size with h0 | h'
  · unfold Laid at h; simp [World.cell?, h0] at h
  · exact h'
theorem Laid.below {w w' : World} {n : Nat} (h : Laid w) (hn : 0 < n) (hb : Below n w w') : Laid w' := (hb.cell (p := ⟨0, 0, none⟩) hn).trans h

theorem code_catch (p : Addr) (w : World) :
    CallsD Tryf.prog 26 #[.pointer (some p)] .returning w fun e u' w' => e = .returned (.tuple #[]) ∧ u' = .returning ∧ w' = w := by
  refine callsD_of_wpS Tryf.func26 rfl fun c₀ cs hu => ?_
  apply wpS_seq
  apply wpS_region
  simp [wpOpsS, go_sem, recoverD, hu, Tryf.ntmps26, Exit.thenS]
  refine wpS_cond (t := false) (by simp [Act.eval, Array.replicate]) ?_
  simp only [Bool.false_eq_true, if_false]
  refine wpS_of_wp (wp_skip ?_)
  cases c₀
  simp_all [bodyPostS, results, Tryf.results26]
theorem outer_catch (p : Addr) (w : World) :
    CallsD Tryf.prog 40 #[.pointer (some p)] .returning w fun e u' w' => e = .returned (.tuple #[]) ∧ u' = .returning ∧ w' = w := by
  refine callsD_of_wpS Tryf.func40 rfl fun c₀ cs hu => ?_
  apply wpS_seq
  apply wpS_region
  simp [wpOpsS, go_sem, recoverD, hu, Tryf.ntmps40, Exit.thenS]
  refine wpS_cond (t := false) (by simp [Act.eval, Array.replicate]) ?_
  simp only [Bool.false_eq_true, if_false]
  refine wpS_of_wp (wp_skip ?_)
  cases c₀
  simp_all [bodyPostS, results, Tryf.results40]

/-- as_errno, with less said of the world. -/
theorem as_errno' (l0 : List (Option (ByteArray × Int))) (c : Int) (v0 : Value) (n : Nat) (old : Value) (w : World) (h0 : Chain w (.iface 26 (.int .i64 c)) l0 v0)
    (hg : Laid w) (ht0 : w.cell? ⟨n, 0, none⟩ = some old) (hf0 : w.frozen? ⟨n, 0, none⟩ = false) :
    Calls Tryf.prog 11 #[v0, .iface 71 (.pointer (some ⟨n, 0, none⟩))] w fun e w' => e = .returned (.bool true) ∧ w'.cell? ⟨n, 0, none⟩ = some (.int .i64 c) ∧ w'.frozen? ⟨n, 0, none⟩ = false ∧ Below n w w' := by
  refine (as_errno l0 c v0 n old w h0 hg ht0 hf0).mono ?_
  rintro e w' ⟨rfl, rfl⟩
  have hn0 : n < w.heap.size := by
    rcases Nat.lt_or_ge n w.heap.size with h | h
    · exact h
    · simp [World.cell?, Array.getElem?_eq_none h] at ht0
  have hB := ((((Below.refl w.heap.size w).alloc (Nat.le_refl _) (.cells #[.pointer (some ⟨n, 0, none⟩)] 71)).alloc (by simp) (.cells #[.pointer (some ⟨4, 71, none⟩), .pointer (some ⟨w.heap.size, 0, none⟩), .int .u64 150] 62)).alloc (by simp; omega) (.cells #[.pointer (some ⟨4, 71, none⟩), .pointer (some ⟨w.heap.size, 0, none⟩), .int .u64 150] 62)).alloc (by simp; omega) (.cells #[.int .i64 c] 26)
  refine ⟨rfl, ?_, ?_, ?_⟩
  · exact World.cell?_setCell_same' _ _ _ (by rw [hB.cell (p := ⟨n, 0, none⟩) hn0, ht0]; rfl)
  · rw [World.frozen?_setCell]; exact (hB.frozen (p := ⟨n, 0, none⟩) hn0).trans hf0
  · exact (hB.mono (Nat.le_of_lt hn0)).setCell (p := ⟨n, 0, none⟩) (Nat.le_refl _) _

theorem as_errno_no' (l0 : List (Option (ByteArray × Int))) (q : Addr) (v0 : Value) (n : Nat) (old : Value) (w : World) (h0 : Chain w (.iface 53 (.pointer (some q))) l0 v0)
    (hg : Laid w) (ht0 : w.cell? ⟨n, 0, none⟩ = some old) (hf0 : w.frozen? ⟨n, 0, none⟩ = false) :
    Calls Tryf.prog 11 #[v0, .iface 71 (.pointer (some ⟨n, 0, none⟩))] w fun e w' => e = .returned (.bool false) ∧ w'.cell? ⟨n, 0, none⟩ = some old ∧ w'.frozen? ⟨n, 0, none⟩ = false ∧ Below n w w' := by
  refine (as_errno_no l0 q v0 n old w h0 hg ht0 hf0).mono ?_
  rintro e w' ⟨rfl, rfl⟩
  have hn0 : n < w.heap.size := by
    rcases Nat.lt_or_ge n w.heap.size with h | h
    · exact h
    · simp [World.cell?, Array.getElem?_eq_none h] at ht0
  have hB := (((Below.refl w.heap.size w).alloc (Nat.le_refl _) (.cells #[.pointer (some ⟨n, 0, none⟩)] 71)).alloc (by simp) (.cells #[.pointer (some ⟨4, 71, none⟩), .pointer (some ⟨w.heap.size, 0, none⟩), .int .u64 150] 62)).alloc (by simp; omega) (.cells #[.pointer (some ⟨4, 71, none⟩), .pointer (some ⟨w.heap.size, 0, none⟩), .int .u64 150] 62)
  exact ⟨rfl, (hB.cell (p := ⟨n, 0, none⟩) hn0).trans ht0, (hB.frozen (p := ⟨n, 0, none⟩) hn0).trans hf0, hB.mono (Nat.le_of_lt hn0)⟩

theorem as_fault' (p : Addr) (n : Nat) (old : Value) (w : World)
    (hg : Laid w) (ht0 : w.cell? ⟨n, 0, none⟩ = some old) (hf0 : w.frozen? ⟨n, 0, none⟩ = false) :
    Calls Tryf.prog 11 #[.iface 32 (.pointer (some p)), .iface 34 (.pointer (some ⟨n, 0, none⟩))] w fun e w' => e = .returned (.bool true) ∧ w'.cell? ⟨n, 0, none⟩ = some (.pointer (some p)) ∧ w'.frozen? ⟨n, 0, none⟩ = false ∧ Below n w w' := by
  refine (as_fault p n old w hg ht0 hf0).mono ?_
  rintro e w' ⟨rfl, rfl⟩
  have hn0 : n < w.heap.size := by
    rcases Nat.lt_or_ge n w.heap.size with h | h
    · exact h
    · simp [World.cell?, Array.getElem?_eq_none h] at ht0
  have hB := ((((Below.refl w.heap.size w).alloc (Nat.le_refl _) (.cells #[.pointer (some ⟨n, 0, none⟩)] 34)).alloc (by simp) (.cells #[.pointer (some ⟨4, 34, none⟩), .pointer (some ⟨w.heap.size, 0, none⟩), .int .u64 150] 62)).alloc (by simp; omega) (.cells #[.pointer (some ⟨4, 34, none⟩), .pointer (some ⟨w.heap.size, 0, none⟩), .int .u64 150] 62)).alloc (by simp; omega) (.cells #[.pointer (some p)] 32)
  refine ⟨rfl, ?_, ?_, ?_⟩
  · exact World.cell?_setCell_same' _ _ _ (by rw [hB.cell (p := ⟨n, 0, none⟩) hn0, ht0]; rfl)
  · rw [World.frozen?_setCell]; exact (hB.frozen (p := ⟨n, 0, none⟩) hn0).trans hf0
  · exact (hB.mono (Nat.le_of_lt hn0)).setCell (p := ⟨n, 0, none⟩) (Nat.le_refl _) _

theorem as_fault1' (bw : Nat) (p : Addr) (n : Nat) (old : Value) (w : World) (hbw : bw < w.heap.size) (hcw : w.cell? ⟨bw, 1, none⟩ = some (.iface 32 (.pointer (some p))))
    (hg : Laid w) (ht0 : w.cell? ⟨n, 0, none⟩ = some old) (hf0 : w.frozen? ⟨n, 0, none⟩ = false) :
    Calls Tryf.prog 11 #[.iface 52 (.pointer (some ⟨bw, 0, none⟩)), .iface 34 (.pointer (some ⟨n, 0, none⟩))] w fun e w' => e = .returned (.bool true) ∧ w'.cell? ⟨n, 0, none⟩ = some (.pointer (some p)) ∧ w'.frozen? ⟨n, 0, none⟩ = false ∧ Below n w w' := by
  refine (as_fault1 bw p n old w hbw hcw hg ht0 hf0).mono ?_
  rintro e w' ⟨rfl, rfl⟩
  have hn0 : n < w.heap.size := by
    rcases Nat.lt_or_ge n w.heap.size with h | h
    · exact h
    · simp [World.cell?, Array.getElem?_eq_none h] at ht0
  have hB := ((((Below.refl w.heap.size w).alloc (Nat.le_refl _) (.cells #[.pointer (some ⟨n, 0, none⟩)] 34)).alloc (by simp) (.cells #[.pointer (some ⟨4, 34, none⟩), .pointer (some ⟨w.heap.size, 0, none⟩), .int .u64 150] 62)).alloc (by simp; omega) (.cells #[.pointer (some ⟨4, 34, none⟩), .pointer (some ⟨w.heap.size, 0, none⟩), .int .u64 150] 62)).alloc (by simp; omega) (.cells #[.pointer (some p)] 32)
  refine ⟨rfl, ?_, ?_, ?_⟩
  · exact World.cell?_setCell_same' _ _ _ (by rw [hB.cell (p := ⟨n, 0, none⟩) hn0, ht0]; rfl)
  · rw [World.frozen?_setCell]; exact (hB.frozen (p := ⟨n, 0, none⟩) hn0).trans hf0
  · exact (hB.mono (Nat.le_of_lt hn0)).setCell (p := ⟨n, 0, none⟩) (Nat.le_refl _) _

theorem as_fault_no' (c : Int) (n : Nat) (old : Value) (w : World)
    (hg : Laid w) (ht0 : w.cell? ⟨n, 0, none⟩ = some old) (hf0 : w.frozen? ⟨n, 0, none⟩ = false) :
    Calls Tryf.prog 11 #[.iface 26 (.int .i64 c), .iface 34 (.pointer (some ⟨n, 0, none⟩))] w fun e w' => e = .returned (.bool false) ∧ w'.cell? ⟨n, 0, none⟩ = some old ∧ w'.frozen? ⟨n, 0, none⟩ = false ∧ Below n w w' := by
  refine (as_fault_no c n old w hg ht0).mono ?_
  rintro e w' ⟨rfl, rfl⟩
  have hn0 : n < w.heap.size := by
    rcases Nat.lt_or_ge n w.heap.size with h | h
    · exact h
    · simp [World.cell?, Array.getElem?_eq_none h] at ht0
  have hB := (((Below.refl w.heap.size w).alloc (Nat.le_refl _) (.cells #[.pointer (some ⟨n, 0, none⟩)] 34)).alloc (by simp) (.cells #[.pointer (some ⟨4, 34, none⟩), .pointer (some ⟨w.heap.size, 0, none⟩), .int .u64 150] 62)).alloc (by simp; omega) (.cells #[.pointer (some ⟨4, 34, none⟩), .pointer (some ⟨w.heap.size, 0, none⟩), .int .u64 150] 62)
  exact ⟨rfl, (hB.cell (p := ⟨n, 0, none⟩) hn0).trans ht0, (hB.frozen (p := ⟨n, 0, none⟩) hn0).trans hf0, hB.mono (Nat.le_of_lt hn0)⟩

theorem as_fault_noO' (q : Addr) (n : Nat) (old : Value) (w : World)
    (hg : Laid w) (ht0 : w.cell? ⟨n, 0, none⟩ = some old) (hf0 : w.frozen? ⟨n, 0, none⟩ = false) :
    Calls Tryf.prog 11 #[.iface 53 (.pointer (some q)), .iface 34 (.pointer (some ⟨n, 0, none⟩))] w fun e w' => e = .returned (.bool false) ∧ w'.cell? ⟨n, 0, none⟩ = some old ∧ w'.frozen? ⟨n, 0, none⟩ = false ∧ Below n w w' := by
  refine (as_fault_noO q n old w hg ht0).mono ?_
  rintro e w' ⟨rfl, rfl⟩
  have hn0 : n < w.heap.size := by
    rcases Nat.lt_or_ge n w.heap.size with h | h
    · exact h
    · simp [World.cell?, Array.getElem?_eq_none h] at ht0
  have hB := (((Below.refl w.heap.size w).alloc (Nat.le_refl _) (.cells #[.pointer (some ⟨n, 0, none⟩)] 34)).alloc (by simp) (.cells #[.pointer (some ⟨4, 34, none⟩), .pointer (some ⟨w.heap.size, 0, none⟩), .int .u64 150] 62)).alloc (by simp; omega) (.cells #[.pointer (some ⟨4, 34, none⟩), .pointer (some ⟨w.heap.size, 0, none⟩), .int .u64 150] 62)
  exact ⟨rfl, (hB.cell (p := ⟨n, 0, none⟩) hn0).trans ht0, (hB.frozen (p := ⟨n, 0, none⟩) hn0).trans hf0, hB.mono (Nat.le_of_lt hn0)⟩

set_option maxRecDepth 100000 in
set_option maxHeartbeats 1000000 in
theorem code_chain (l0 : List (Option (ByteArray × Int))) (c : Int) (v0 : Value) (w : World) (h0 : Chain w (.iface 26 (.int .i64 c)) l0 v0) (hg : Laid w) :
    Calls Tryf.prog 14 #[v0] w fun e w' => e = .returned (.int .i64 c) ∧ Below w.heap.size w w' := by
  have hmf : ∀ (fn : Fn) (first cap : Array Value) (w : World), (Instr.makeFunc fn first cap).run Tryf.prog w = .ok (.func fn first cap) w := fun _ _ _ _ => rfl
  obtain ⟨t0, u0, rfl⟩ := h0.iface ⟨_, _, rfl⟩
  have hB1 : Below w.heap.size w (w.alloc (.cells #[.int .i64 0] 26)) := (Below.refl _ w).alloc (Nat.le_refl _) _
  have ha := as_errno' l0 c (.iface t0 u0) w.heap.size (.int .i64 0) (w.alloc (.cells #[.int .i64 0] 26)) (h0.below hB1) (hg.below hg.pos hB1) (by simp) (by simp)
  have HA := hide ha
  clear ha h0
  have hBB := hide hB1
  clear hB1
  go_enter_defers Tryf.func14, Tryf.ntmps14
  go_wp2_with (go_at_call 11; refine (unhide HA).mono ?_; rintro e w' ⟨rfl, hc', hf', hb'⟩)
  refine leaves_cons (f := 26) (args := #[.pointer (some ⟨w.heap.size, 0, none⟩)]) (by simp) (by simp [go_sem]) ?_
  refine (code_catch ⟨w.heap.size, 0, none⟩ _).mono ?_
  rintro e u' w'' ⟨rfl, rfl, rfl⟩
  simp [Leaves, settle, results, Tryf.results14, go_sem, hc']
  exact ((unhide hBB).trans hb').setCell (p := ⟨w.heap.size, 0, none⟩) (Nat.le_refl _) _

set_option maxRecDepth 100000 in
set_option maxHeartbeats 1000000 in
theorem code_no (l0 : List (Option (ByteArray × Int))) (q : Addr) (v0 : Value) (w : World) (h0 : Chain w (.iface 53 (.pointer (some q))) l0 v0) (hg : Laid w) :
    Calls Tryf.prog 14 #[v0] w fun e w' => e = .returned (.int .i64 1) ∧ Below w.heap.size w w' := by
  have hmf : ∀ (fn : Fn) (first cap : Array Value) (w : World), (Instr.makeFunc fn first cap).run Tryf.prog w = .ok (.func fn first cap) w := fun _ _ _ _ => rfl
  obtain ⟨t0, u0, rfl⟩ := h0.iface ⟨_, _, rfl⟩
  have hB1 : Below w.heap.size w (w.alloc (.cells #[.int .i64 0] 26)) := (Below.refl _ w).alloc (Nat.le_refl _) _
  have ha := as_errno_no' l0 q (.iface t0 u0) w.heap.size (.int .i64 0) (w.alloc (.cells #[.int .i64 0] 26)) (h0.below hB1) (hg.below hg.pos hB1) (by simp) (by simp)
  have HA := hide ha
  clear ha h0
  have hBB := hide hB1
  clear hB1
  go_enter_defers Tryf.func14, Tryf.ntmps14
  go_wp2_with (go_at_call 11; refine (unhide HA).mono ?_; rintro e w' ⟨rfl, hc', hf', hb'⟩)
  refine leaves_cons (f := 26) (args := #[.pointer (some ⟨w.heap.size, 0, none⟩)]) (by simp) (by simp [go_sem]) ?_
  refine (code_catch ⟨w.heap.size, 0, none⟩ _).mono ?_
  rintro e u' w'' ⟨rfl, rfl, rfl⟩
  simp [Leaves, settle, results, Tryf.results14, go_sem, hc']
  exact ((unhide hBB).trans hb').setCell (p := ⟨w.heap.size, 0, none⟩) (Nat.le_refl _) _

set_option maxRecDepth 100000 in
set_option maxHeartbeats 1000000 in
theorem code_nil (w : World) :
    Calls Tryf.prog 14 #[.nilIface] w fun e w' => e = .returned (.int .i64 0) ∧ Below w.heap.size w w' := by
  have hBB := hide (show Below w.heap.size w (w.alloc (.cells #[.int .i64 0] 26)) from (Below.refl _ w).alloc (Nat.le_refl _) _)
  go_enter_defers Tryf.func14, Tryf.ntmps14
  go_wp2
  simp [bodyPostD, Leaves, results, Tryf.results14, go_sem]
  exact unhide hBB

set_option maxRecDepth 100000 in
set_option maxHeartbeats 1000000 in
theorem outer_fault (p : Addr) (w : World) (hg : Laid w) :
    Calls Tryf.prog 31 #[.iface 32 (.pointer (some p))] w fun e w' => e = .returned (.pointer (some p)) ∧ Below w.heap.size w w' := by
  have hmf : ∀ (fn : Fn) (first cap : Array Value) (w : World), (Instr.makeFunc fn first cap).run Tryf.prog w = .ok (.func fn first cap) w := fun _ _ _ _ => rfl
  have hB1 : Below w.heap.size w (w.alloc (.cells #[.pointer none] 32)) := (Below.refl _ w).alloc (Nat.le_refl _) _
  have HA := hide (as_fault' p w.heap.size (.pointer none) (w.alloc (.cells #[.pointer none] 32)) (hg.below hg.pos hB1) (by simp) (by simp))
  have hBB := hide hB1
  clear hB1
  go_enter_defers Tryf.func31, Tryf.ntmps31
  go_wp2_with (go_at_call 11; refine (unhide HA).mono ?_; rintro e w' ⟨rfl, hc', hf', hb'⟩)
  refine leaves_cons (f := 40) (args := #[.pointer (some ⟨w.heap.size, 0, none⟩)]) (by simp) (by simp [go_sem]) ?_
  refine (outer_catch ⟨w.heap.size, 0, none⟩ _).mono ?_
  rintro e u' w'' ⟨rfl, rfl, rfl⟩
  simp [Leaves, settle, results, Tryf.results31, go_sem, hc']
  exact ((unhide hBB).trans hb').setCell (p := ⟨w.heap.size, 0, none⟩) (Nat.le_refl _) _

set_option maxRecDepth 100000 in
set_option maxHeartbeats 1000000 in
theorem outer_fault1 (bw : Nat) (p : Addr) (w : World) (hg : Laid w) (hbw : bw < w.heap.size) (hcw : w.cell? ⟨bw, 1, none⟩ = some (.iface 32 (.pointer (some p)))) :
    Calls Tryf.prog 31 #[.iface 52 (.pointer (some ⟨bw, 0, none⟩))] w fun e w' => e = .returned (.pointer (some p)) ∧ Below w.heap.size w w' := by
  have hmf : ∀ (fn : Fn) (first cap : Array Value) (w : World), (Instr.makeFunc fn first cap).run Tryf.prog w = .ok (.func fn first cap) w := fun _ _ _ _ => rfl
  have hB1 : Below w.heap.size w (w.alloc (.cells #[.pointer none] 32)) := (Below.refl _ w).alloc (Nat.le_refl _) _
  have HA := hide (as_fault1' bw p w.heap.size (.pointer none) (w.alloc (.cells #[.pointer none] 32)) (Nat.lt_of_lt_of_le hbw hB1.size) ((hB1.cell (p := ⟨bw, 1, none⟩) hbw).trans hcw) (hg.below hg.pos hB1) (by simp) (by simp))
  have hBB := hide hB1
  clear hB1 hcw
  go_enter_defers Tryf.func31, Tryf.ntmps31
  go_wp2_with (go_at_call 11; refine (unhide HA).mono ?_; rintro e w' ⟨rfl, hc', hf', hb'⟩)
  refine leaves_cons (f := 40) (args := #[.pointer (some ⟨w.heap.size, 0, none⟩)]) (by simp) (by simp [go_sem]) ?_
  refine (outer_catch ⟨w.heap.size, 0, none⟩ _).mono ?_
  rintro e u' w'' ⟨rfl, rfl, rfl⟩
  simp [Leaves, settle, results, Tryf.results31, go_sem, hc']
  exact ((unhide hBB).trans hb').setCell (p := ⟨w.heap.size, 0, none⟩) (Nat.le_refl _) _

set_option maxRecDepth 100000 in
set_option maxHeartbeats 1000000 in
theorem outer_no (c : Int) (w : World) (hg : Laid w) :
    Calls Tryf.prog 31 #[.iface 26 (.int .i64 c)] w fun e w' => e = .returned (.pointer none) ∧ Below w.heap.size w w' := by
  have hmf : ∀ (fn : Fn) (first cap : Array Value) (w : World), (Instr.makeFunc fn first cap).run Tryf.prog w = .ok (.func fn first cap) w := fun _ _ _ _ => rfl
  have hB1 : Below w.heap.size w (w.alloc (.cells #[.pointer none] 32)) := (Below.refl _ w).alloc (Nat.le_refl _) _
  have HA := hide (as_fault_no' c w.heap.size (.pointer none) (w.alloc (.cells #[.pointer none] 32)) (hg.below hg.pos hB1) (by simp) (by simp))
  have hBB := hide hB1
  clear hB1
  go_enter_defers Tryf.func31, Tryf.ntmps31
  go_wp2_with (go_at_call 11; refine (unhide HA).mono ?_; rintro e w' ⟨rfl, hc', hf', hb'⟩)
  refine leaves_cons (f := 40) (args := #[.pointer (some ⟨w.heap.size, 0, none⟩)]) (by simp) (by simp [go_sem]) ?_
  refine (outer_catch ⟨w.heap.size, 0, none⟩ _).mono ?_
  rintro e u' w'' ⟨rfl, rfl, rfl⟩
  simp [Leaves, settle, results, Tryf.results31, go_sem, hc']
  exact ((unhide hBB).trans hb').setCell (p := ⟨w.heap.size, 0, none⟩) (Nat.le_refl _) _

set_option maxRecDepth 100000 in
set_option maxHeartbeats 1000000 in
theorem outer_noO (q : Addr) (w : World) (hg : Laid w) :
    Calls Tryf.prog 31 #[.iface 53 (.pointer (some q))] w fun e w' => e = .returned (.pointer none) ∧ Below w.heap.size w w' := by
  have hmf : ∀ (fn : Fn) (first cap : Array Value) (w : World), (Instr.makeFunc fn first cap).run Tryf.prog w = .ok (.func fn first cap) w := fun _ _ _ _ => rfl
  have hB1 : Below w.heap.size w (w.alloc (.cells #[.pointer none] 32)) := (Below.refl _ w).alloc (Nat.le_refl _) _
  have HA := hide (as_fault_noO' q w.heap.size (.pointer none) (w.alloc (.cells #[.pointer none] 32)) (hg.below hg.pos hB1) (by simp) (by simp))
  have hBB := hide hB1
  clear hB1
  go_enter_defers Tryf.func31, Tryf.ntmps31
  go_wp2_with (go_at_call 11; refine (unhide HA).mono ?_; rintro e w' ⟨rfl, hc', hf', hb'⟩)
  refine leaves_cons (f := 40) (args := #[.pointer (some ⟨w.heap.size, 0, none⟩)]) (by simp) (by simp [go_sem]) ?_
  refine (outer_catch ⟨w.heap.size, 0, none⟩ _).mono ?_
  rintro e u' w'' ⟨rfl, rfl, rfl⟩
  simp [Leaves, settle, results, Tryf.results31, go_sem, hc']
  exact ((unhide hBB).trans hb').setCell (p := ⟨w.heap.size, 0, none⟩) (Nat.le_refl _) _

set_option maxRecDepth 100000 in
set_option maxHeartbeats 1000000 in
theorem outer_nil (w : World) :
    Calls Tryf.prog 31 #[.nilIface] w fun e w' => e = .returned (.pointer none) ∧ Below w.heap.size w w' := by
  have hmf : ∀ (fn : Fn) (first cap : Array Value) (w : World), (Instr.makeFunc fn first cap).run Tryf.prog w = .ok (.func fn first cap) w := fun _ _ _ _ => rfl
  have hBB := hide (show Below w.heap.size w (w.alloc (.cells #[.pointer none] 32)) from (Below.refl _ w).alloc (Nat.le_refl _) _)
  go_enter_defers Tryf.func31, Tryf.ntmps31
  go_wp2_with (go_at_call 11; refine (as_nil _ _).mono ?_; rintro e w' ⟨rfl, rfl⟩)
  refine leaves_cons (f := 40) (args := #[.pointer (some ⟨w.heap.size, 0, none⟩)]) (by simp) (by simp [go_sem]) ?_
  refine (outer_catch ⟨w.heap.size, 0, none⟩ _).mono ?_
  rintro e u' w'' ⟨rfl, rfl, rfl⟩
  simp [Leaves, settle, results, Tryf.results31, go_sem]
  exact unhide hBB
end Go.Proofs.YtlfmlbkpkkegpaaFmt.Con
