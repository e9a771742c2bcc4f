/- Servers: plain mathematics, by the chapter's words. Of no program. -/
import Derived.Test.YtegfhndcimkjoaaTkDef
namespace Go.Proofs.Ytegfhndcimkjoaa.Cb
open Go.Proofs.Ytegfhndcimkjoaa.Tk
set_option linter.unusedVariables false
set_option linter.unusedSimpArgs false
structure Sv where
  q : Int
  p : Int
  b : Int
  d : Int
  m : Int
def pairB (q p : Int) : Bool := decide (1 ≤ q ∧ q ≤ p ∧ p ≤ 2147483648)
def sgood (s : Sv) : Bool := decide ((1 ≤ s.q ∧ s.q ≤ s.p ∧ s.p ≤ 2147483648) ∧ (0 ≤ s.b ∧ s.b ≤ s.q) ∧ (0 ≤ s.d ∧ s.d ≤ 4611686018427387904) ∧ (0 ≤ s.m ∧ s.m ≤ 2) ∧ (s.m = 1 → 0 < s.b))
theorem sgood_iff (s : Sv) : sgood s = true ↔ (1 ≤ s.q ∧ s.q ≤ s.p ∧ s.p ≤ 2147483648) ∧ (0 ≤ s.b ∧ s.b ≤ s.q) ∧ (0 ≤ s.d ∧ s.d ≤ 4611686018427387904) ∧ (0 ≤ s.m ∧ s.m ≤ 2) ∧ (s.m = 1 → 0 < s.b) := by
  unfold sgood; exact decide_eq_true_iff
theorem sbad {s : Sv} (h : ¬ ((1 ≤ s.q ∧ s.q ≤ s.p ∧ s.p ≤ 2147483648) ∧ (0 ≤ s.b ∧ s.b ≤ s.q) ∧ (0 ≤ s.d ∧ s.d ≤ 4611686018427387904) ∧ (0 ≤ s.m ∧ s.m ≤ 2) ∧ (s.m = 1 → 0 < s.b))) : sgood s = false := decide_eq_false h
/-- How much of the window is left, at most P. -/
def leftX (s : Sv) (now : Int) : Int := min (s.d - now) s.p
/-- The budget, cut. -/
def cutB (s : Sv) (now : Int) : Int := if leftX s now * s.q < s.b * s.p then leftX s now * s.q / s.p else s.b
def modeB (b : Int) : Int := if b = 0 then 2 else 1
def wakeS (s : Sv) (now : Int) : Sv := if s.d ≤ now then ⟨s.q, s.p, s.q, now + s.p, 1⟩ else ⟨s.q, s.p, cutB s now, s.d, modeB (cutB s now)⟩
def wakeE (s : Sv) (now : Int) : Int := if (sgood s && good now) = true then (if s.m = 0 then (if s.d ≤ now ∧ ¬ now + s.p ≤ 4611686018427387904 then 6 else 0) else 5) else 1
def wake (s : Sv) (now : Int) : Sv := if wakeE s now = 0 then wakeS s now else s
def useE (s : Sv) (n : Int) : Int := if sgood s = true ∧ 1 ≤ n ∧ n ≤ s.b then (if s.m = 1 then 0 else 4) else 1
def use (s : Sv) (n : Int) : Sv := if useE s n = 0 then ⟨s.q, s.p, s.b - n, s.d, modeB (s.b - n)⟩ else s
def idleE (s : Sv) : Int := if sgood s = true then (if s.m = 0 then 4 else 0) else 1
def idle (s : Sv) : Sv := if idleE s = 0 then { s with m := 0 } else s
def waitE (s : Sv) : Int := if sgood s = true then (if s.m = 1 then 0 else 4) else 1
def wait (s : Sv) : Sv := if waitE s = 0 then { s with m := 2 } else s
def turnB (s : Sv) (now : Int) : Bool := sgood s && good now && decide (s.m ≠ 0) && decide (s.d ≤ now) && good (nextOf now s.d s.p)
def turn (s : Sv) (now : Int) : Sv := if turnB s now = true then ⟨s.q, s.p, s.q, nextOf now s.d s.p, 1⟩ else s
def newE (q p : Int) : Int := if pairB q p = true then 0 else 1
def new (q p : Int) : Sv := if newE q p = 0 then ⟨q, p, 0, 0, 0⟩ else ⟨0, 0, 0, 0, 0⟩

/-! What a cut budget is. -/
theorem cut_facts {s : Sv} {now : Int} (h : sgood s = true) (hn : now < s.d) :
    (0 ≤ cutB s now ∧ cutB s now ≤ s.b) ∧ cutB s now * s.p ≤ leftX s now * s.q ∧ (cutB s now = s.b ∨ leftX s now * s.q < (cutB s now + 1) * s.p) ∧ (1 ≤ leftX s now ∧ leftX s now ≤ 2147483648) ∧ 0 ≤ leftX s now * s.q ∧ leftX s now * s.q ≤ 4611686018427387904 ∧ 0 ≤ s.b * s.p ∧ s.b * s.p ≤ 4611686018427387904 := by
  obtain ⟨⟨h1, h2, h3⟩, ⟨h4, h5⟩, ⟨h6, h7⟩, _, _⟩ := (sgood_iff s).1 h
  have hx : 1 ≤ leftX s now ∧ leftX s now ≤ 2147483648 := by unfold leftX; omega
  have m1 := mul_bd31 (a := leftX s now) (b := s.q) (by omega) (by omega) hx.2 (by omega)
  have m2 := mul_bd31 (a := s.b) (b := s.p) h4 (by omega) (by omega) h3
  have hp : 0 < s.p := by omega
  by_cases hc : leftX s now * s.q < s.b * s.p
  · have e : cutB s now = leftX s now * s.q / s.p := by unfold cutB; rw [if_pos hc]
    have d1 := div_bd m1.1 (show 1 ≤ s.p by omega)
    have d2 : leftX s now * s.q / s.p * s.p ≤ leftX s now * s.q := Int.ediv_mul_le _ (by omega)
    have d3 : leftX s now * s.q < (leftX s now * s.q / s.p + 1) * s.p := Int.lt_ediv_add_one_mul_self _ hp
    have d4 : leftX s now * s.q / s.p < s.b := Int.ediv_lt_of_lt_mul hp hc
    rw [e]
    exact ⟨⟨d1.1, by omega⟩, d2, .inr d3, hx, m1.1, m1.2, m2.1, m2.2⟩
  · have e : cutB s now = s.b := by unfold cutB; rw [if_neg hc]
    rw [e]
    exact ⟨⟨h4, by omega⟩, by omega, .inl rfl, hx, m1.1, m1.2, m2.1, m2.2⟩
theorem mode_facts (b : Int) (h : 0 ≤ b) : (0 ≤ modeB b ∧ modeB b ≤ 2) ∧ modeB b ≠ 0 ∧ (modeB b = 1 ↔ 0 < b) ∧ (modeB b = 2 ↔ b = 0) := by
  unfold modeB; split <;> omega
theorem wakeE_zero {s : Sv} {now : Int} : wakeE s now = 0 ↔ sgood s = true ∧ good now = true ∧ s.m = 0 ∧ (s.d ≤ now → now + s.p ≤ 4611686018427387904) := by
  unfold wakeE
  by_cases h : (sgood s && good now) = true
  · rw [if_pos h]
    simp only [Bool.and_eq_true] at h
    by_cases hm : s.m = 0
    · rw [if_pos hm]
      by_cases hd : s.d ≤ now ∧ ¬ now + s.p ≤ 4611686018427387904
      · rw [if_pos hd]
        constructor
        · intro e; cases e
        · rintro ⟨_, _, _, h4⟩; exact absurd (h4 hd.1) hd.2
      · rw [if_neg hd]
        exact ⟨fun _ => ⟨h.1, h.2, hm, fun e => Classical.byContradiction fun hc => hd ⟨e, hc⟩⟩, fun _ => rfl⟩
    · rw [if_neg hm]
      constructor
      · intro e; cases e
      · rintro ⟨_, _, h3, _⟩; exact absurd h3 hm
  · rw [if_neg h]
    constructor
    · intro e; cases e
    · rintro ⟨h1, h2, _⟩; exact absurd (by rw [h1, h2]; rfl) h
theorem useE_zero {s : Sv} {n : Int} : useE s n = 0 ↔ sgood s = true ∧ 1 ≤ n ∧ n ≤ s.b ∧ s.m = 1 := by
  unfold useE
  by_cases h : sgood s = true ∧ 1 ≤ n ∧ n ≤ s.b
  · rw [if_pos h]
    by_cases hm : s.m = 1
    · rw [if_pos hm]; exact ⟨fun _ => ⟨h.1, h.2.1, h.2.2, hm⟩, fun _ => rfl⟩
    · rw [if_neg hm]; exact ⟨fun e => (by cases e), fun e => absurd e.2.2.2 hm⟩
  · rw [if_neg h]; exact ⟨fun e => (by cases e), fun e => absurd ⟨e.1, e.2.1, e.2.2.1⟩ h⟩
theorem idleE_zero {s : Sv} : idleE s = 0 ↔ sgood s = true ∧ s.m ≠ 0 := by
  unfold idleE
  by_cases h : sgood s = true
  · rw [if_pos h]
    by_cases hm : s.m = 0
    · rw [if_pos hm]; exact ⟨fun e => (by cases e), fun e => absurd hm e.2⟩
    · rw [if_neg hm]; exact ⟨fun _ => ⟨h, hm⟩, fun _ => rfl⟩
  · rw [if_neg h]; exact ⟨fun e => (by cases e), fun e => absurd e.1 h⟩
theorem waitE_zero {s : Sv} : waitE s = 0 ↔ sgood s = true ∧ s.m = 1 := by
  unfold waitE
  by_cases h : sgood s = true
  · rw [if_pos h]
    by_cases hm : s.m = 1
    · rw [if_pos hm]; exact ⟨fun _ => ⟨h, hm⟩, fun _ => rfl⟩
    · rw [if_neg hm]; exact ⟨fun e => (by cases e), fun e => absurd e.2 hm⟩
  · rw [if_neg h]; exact ⟨fun e => (by cases e), fun e => absurd e.1 h⟩
theorem turnB_iff {s : Sv} {now : Int} : turnB s now = true ↔ sgood s = true ∧ good now = true ∧ s.m ≠ 0 ∧ s.d ≤ now ∧ good (nextOf now s.d s.p) = true := by
  unfold turnB; simp only [Bool.and_eq_true, decide_eq_true_eq]; exact ⟨fun ⟨⟨⟨⟨a, b⟩, c⟩, d⟩, e⟩ => ⟨a, b, c, d, e⟩, fun ⟨a, b, c, d, e⟩ => ⟨⟨⟨⟨a, b⟩, c⟩, d⟩, e⟩⟩
theorem next_facts {now d p : Int} (hd : 0 ≤ d) (hn : d ≤ now) (hp : 1 ≤ p) : now < nextOf now d p ∧ nextOf now d p - now ≤ p ∧ d + p ≤ nextOf now d p ∧ (nextOf now d p - d) % p = 0 := by
  have e : nextOf now d p = d + ((now - d) / p + 1) * p := by unfold nextOf; rw [if_neg (by omega)]
  have h1 := next_bd hd hn hp
  have h2 : (now - d) < ((now - d) / p + 1) * p := Int.lt_ediv_add_one_mul_self _ (by omega)
  have h3 : ((now - d) / p + 1) * p = (now - d) / p * p + p := by rw [Int.add_mul, Int.one_mul]
  have h4 : 0 ≤ (now - d) / p * p := Int.mul_nonneg h1.1 (by omega)
  refine ⟨by omega, by omega, by omega, ?_⟩
  rw [e, show d + ((now - d) / p + 1) * p - d = ((now - d) / p + 1) * p by omega]
  exact Int.mul_emod_left _ _

/-! Every call keeps a server Good, its Q and P; a Due never goes back; a new one is at least P on. -/
def Keeps (s t : Sv) : Prop := sgood t = true ∧ t.q = s.q ∧ t.p = s.p ∧ s.d ≤ t.d ∧ (s.d < t.d → s.p ≤ t.d - s.d) ∧ (t.d = s.d → t.b ≤ s.b)
theorem Keeps.same {s : Sv} (h : sgood s = true) : Keeps s s := ⟨h, rfl, rfl, Int.le_refl _, fun e => absurd e (by omega), fun _ => Int.le_refl _⟩
theorem wake_keeps {s : Sv} {now : Int} (h : sgood s = true) : Keeps s (wake s now) := by
  unfold wake
  split
  · rename_i hz
    obtain ⟨_, h2, h3, h4⟩ := wakeE_zero.1 hz
    have hg := good_t h2
    obtain ⟨⟨a1, a2, a3⟩, ⟨a4, a5⟩, ⟨a6, a7⟩, _, _⟩ := (sgood_iff s).1 h
    unfold wakeS
    split
    · rename_i hd
      have := h4 hd
      refine ⟨(sgood_iff _).2 ⟨⟨a1, a2, a3⟩, ⟨by show 0 ≤ s.q; omega, Int.le_refl _⟩, ⟨by show 0 ≤ now + s.p; omega, by show now + s.p ≤ _; omega⟩, ⟨by show (0 : Int) ≤ 1; omega, by show (1 : Int) ≤ 2; omega⟩, fun _ => by show 0 < s.q; omega⟩, rfl, rfl, by show s.d ≤ now + s.p; omega, fun _ => by show s.p ≤ now + s.p - s.d; omega, fun e => ?_⟩
      have e : now + s.p = s.d := e
      omega
    · rename_i hd
      have hc := cut_facts (now := now) h (by omega)
      have hm := mode_facts (cutB s now) hc.1.1
      exact ⟨(sgood_iff _).2 ⟨⟨a1, a2, a3⟩, ⟨hc.1.1, by show cutB s now ≤ s.q; omega⟩, ⟨a6, a7⟩, hm.1, fun e => hm.2.2.1.1 e⟩, rfl, rfl, Int.le_refl _, fun e => absurd e (by show ¬ s.d < s.d; omega), fun _ => hc.1.2⟩
  · exact Keeps.same h
theorem use_keeps {s : Sv} {n : Int} (h : sgood s = true) : Keeps s (use s n) := by
  unfold use
  split
  · rename_i hz
    obtain ⟨_, h2, h3, h4⟩ := useE_zero.1 hz
    obtain ⟨⟨a1, a2, a3⟩, ⟨a4, a5⟩, ⟨a6, a7⟩, _, _⟩ := (sgood_iff s).1 h
    have hm := mode_facts (s.b - n) (by omega)
    exact ⟨(sgood_iff _).2 ⟨⟨a1, a2, a3⟩, ⟨by show 0 ≤ s.b - n; omega, by show s.b - n ≤ s.q; omega⟩, ⟨a6, a7⟩, hm.1, fun e => hm.2.2.1.1 e⟩, rfl, rfl, Int.le_refl _, fun e => absurd e (by show ¬ s.d < s.d; omega), fun _ => by show s.b - n ≤ s.b; omega⟩
  · exact Keeps.same h
theorem idle_keeps {s : Sv} (h : sgood s = true) : Keeps s (idle s) := by
  unfold idle
  split
  · obtain ⟨a, b, c, d, e⟩ := (sgood_iff s).1 h
    exact ⟨(sgood_iff _).2 ⟨a, b, c, ⟨by show (0 : Int) ≤ 0; omega, by show (0 : Int) ≤ 2; omega⟩, fun h0 => absurd (show (0 : Int) = 1 from h0) (by omega)⟩, rfl, rfl, Int.le_refl _, fun e => absurd e (by show ¬ s.d < s.d; omega), fun _ => Int.le_refl _⟩
  · exact Keeps.same h
theorem wait_keeps {s : Sv} (h : sgood s = true) : Keeps s (wait s) := by
  unfold wait
  split
  · obtain ⟨a, b, c, d, e⟩ := (sgood_iff s).1 h
    exact ⟨(sgood_iff _).2 ⟨a, b, c, ⟨by show (0 : Int) ≤ 2; omega, by show (2 : Int) ≤ 2; omega⟩, fun h0 => absurd (show (2 : Int) = 1 from h0) (by omega)⟩, rfl, rfl, Int.le_refl _, fun e => absurd e (by show ¬ s.d < s.d; omega), fun _ => Int.le_refl _⟩
  · exact Keeps.same h
theorem turn_facts {s : Sv} {now : Int} (h : turnB s now = true) : sgood (turn s now) = true ∧ (turn s now).q = s.q ∧ (turn s now).p = s.p ∧ (turn s now).b = s.q ∧ (turn s now).m = 1 ∧ now < (turn s now).d ∧ (turn s now).d - now ≤ s.p ∧ s.d + s.p ≤ (turn s now).d ∧ ((turn s now).d - s.d) % s.p = 0 ∧ 1 ≤ s.p := by
  have e : turn s now = ⟨s.q, s.p, s.q, nextOf now s.d s.p, 1⟩ := by unfold turn; rw [if_pos h]
  obtain ⟨h1, h2, h3, h4, h5⟩ := turnB_iff.1 h
  obtain ⟨⟨a1, a2, a3⟩, ⟨a4, a5⟩, ⟨a6, a7⟩, _, _⟩ := (sgood_iff s).1 h1
  have hn := next_facts a6 h4 (show 1 ≤ s.p by omega)
  have hg := good_t h5
  rw [e]
  exact ⟨(sgood_iff _).2 ⟨⟨a1, a2, a3⟩, ⟨by show 0 ≤ s.q; omega, Int.le_refl _⟩, hg, ⟨by show (0 : Int) ≤ 1; omega, by show (1 : Int) ≤ 2; omega⟩, fun _ => by show 0 < s.q; omega⟩, rfl, rfl, rfl, rfl, hn.1, hn.2.1, hn.2.2.1, hn.2.2.2, by omega⟩
theorem turn_keeps {s : Sv} {now : Int} (h : sgood s = true) : Keeps s (turn s now) := by
  cases ht : turnB s now with
  | false => rw [show turn s now = s by unfold turn; rw [ht]; rfl]; exact Keeps.same h
  | true =>
    obtain ⟨h1, h2, h3, h4, h5, h6, h7, h8, h9, h10⟩ := turn_facts ht
    exact ⟨h1, h2, h3, by omega, fun _ => by omega, fun e => by omega⟩

/-! The laws, in plain numbers. -/
/-- CbsUses. -/
theorem uses_law {s : Sv} {a b : Int} (h : sgood s = true) (hm : s.m = 1) (ha : 1 ≤ a) (hb : 1 ≤ b) :
    (s.b < a + b → useE s (a + b) = 1 ∧ use s (a + b) = s ∧ (useE s a = 0 → useE (use s a) b = 1)) ∧
    (a + b ≤ s.b → useE s a = 0 ∧ useE (use s a) b = 0 ∧ useE s (a + b) = 0 ∧ use (use s a) b = use s (a + b) ∧ (use s (a + b)).b = s.b - a - b ∧ ((use s (a + b)).m = 2 ↔ (use s (a + b)).b = 0)) := by
  refine ⟨fun hc => ?_, fun hc => ?_⟩
  · have e1 : useE s (a + b) = 1 := by unfold useE; rw [if_neg (by omega)]
    refine ⟨e1, by unfold use; rw [if_neg (by rw [e1]; omega)], fun e0 => ?_⟩
    have e2 : use s a = ⟨s.q, s.p, s.b - a, s.d, modeB (s.b - a)⟩ := by unfold use; rw [if_pos e0]
    rw [e2]; unfold useE
    rw [if_neg (by show ¬ (_ ∧ 1 ≤ b ∧ b ≤ s.b - a); omega)]
  · have e0 : useE s a = 0 := useE_zero.2 ⟨h, ha, by omega, hm⟩
    have e2 : use s a = ⟨s.q, s.p, s.b - a, s.d, modeB (s.b - a)⟩ := by unfold use; rw [if_pos e0]
    have hk := (use_keeps (n := a) h).1
    rw [e2] at hk ⊢
    have hmf := mode_facts (s.b - a) (by omega)
    have e3 : useE ⟨s.q, s.p, s.b - a, s.d, modeB (s.b - a)⟩ b = 0 := useE_zero.2 ⟨hk, hb, by show b ≤ s.b - a; omega, hmf.2.2.1.2 (by omega)⟩
    have e4 : useE s (a + b) = 0 := useE_zero.2 ⟨h, by omega, hc, hm⟩
    have e5 : use s (a + b) = ⟨s.q, s.p, s.b - (a + b), s.d, modeB (s.b - (a + b))⟩ := by unfold use; rw [if_pos e4]
    have e6 : use ⟨s.q, s.p, s.b - a, s.d, modeB (s.b - a)⟩ b = ⟨s.q, s.p, s.b - a - b, s.d, modeB (s.b - a - b)⟩ := by unfold use; rw [if_pos e3]
    refine ⟨e0, e3, e4, ?_, ?_, ?_⟩
    · rw [e6, e5, show s.b - a - b = s.b - (a + b) by omega]
    · rw [e5]; show s.b - (a + b) = s.b - a - b; omega
    · rw [e5]; exact (mode_facts _ (by omega)).2.2.2
/-- CbsCut. -/
theorem cut_law {s : Sv} {now : Int} (h : sgood s = true) (hm : s.m = 0) (h0 : 0 ≤ now) (hn : now < s.d) :
    wakeE s now = 0 ∧ wake s now = ⟨s.q, s.p, cutB s now, s.d, modeB (cutB s now)⟩ := by
  obtain ⟨_, _, ⟨a6, a7⟩, _, _⟩ := (sgood_iff s).1 h
  have e : wakeE s now = 0 := wakeE_zero.2 ⟨h, by unfold good; exact decide_eq_true ⟨h0, by omega⟩, hm, fun hc => by omega⟩
  refine ⟨e, ?_⟩
  unfold wake; rw [if_pos e]; unfold wakeS; rw [if_neg (by omega)]
/-- CbsWindows: one round. -/
def usedOn (s t : Sv) (op used : Int) : Int := if t.d ≠ s.d then 0 else if t.b < s.b ∧ op = 1 then used + s.b - t.b else used
theorem used_law {s t : Sv} {op used : Int} (hk : Keeps s t) (h0 : 0 ≤ used) (h1 : used + s.b ≤ s.q) : 0 ≤ usedOn s t op used ∧ usedOn s t op used + t.b ≤ t.q := by
  obtain ⟨hg, hq, hp, hd1, hd2, hb⟩ := hk
  obtain ⟨_, ⟨b1, b2⟩, _⟩ := (sgood_iff t).1 hg
  unfold usedOn
  by_cases hd : t.d = s.d
  · rw [if_neg (by omega)]
    have := hb hd
    split <;> omega
  · rw [if_pos hd]; omega
theorem new_facts {q p : Int} (h : newE q p = 0) : (1 ≤ q ∧ q ≤ p ∧ p ≤ 2147483648) ∧ new q p = ⟨q, p, 0, 0, 0⟩ ∧ sgood ⟨q, p, 0, 0, 0⟩ = true := by
  have hp : pairB q p = true := by
    unfold newE at h
    split at h
    · assumption
    · cases h
  have hp' : 1 ≤ q ∧ q ≤ p ∧ p ≤ 2147483648 := by unfold pairB at hp; exact of_decide_eq_true hp
  refine ⟨hp', by unfold new; rw [if_pos h], (sgood_iff _).2 ⟨hp', ⟨Int.le_refl _, by show (0 : Int) ≤ q; omega⟩, ⟨Int.le_refl _, by show (0 : Int) ≤ _; omega⟩, ⟨Int.le_refl _, by show (0 : Int) ≤ 2; omega⟩, fun e => absurd (show (0 : Int) = 1 from e) (by omega)⟩⟩
end Go.Proofs.Ytegfhndcimkjoaa.Cb
