/- Steps and their texts: plain mathematics. Of no program. -/
import Derived.Lib.ItoaNum
import Derived.Lib.IndexMore
import Derived.Lib.IndexBytes
namespace Go.Proofs.YtdbkdnjmiehlcaaDoor.Pm
set_option linter.unusedVariables false
set_option linter.unusedSimpArgs false
/-- A step: which semaphore, how many ticks. -/
abbrev St := Int × Int
def goodS (s : St) : Bool := decide (0 ≤ s.1) && decide (s.1 ≤ 8) && decide (1 ≤ s.2) && decide (s.2 ≤ 2147483648)
def good (l : List St) : Bool := decide (1 ≤ l.length) && decide (l.length ≤ 8) && l.all goodS
def sumN : List St → Int
  | [] => 0
  | s :: l => s.2 + sumN l
def cntS : List St → Nat
  | [] => 0
  | s :: l => (if s.1 = 0 then 0 else 1) + cntS l
def total (l : List St) : Int := if good l = true then sumN l else 0
def holds (l : List St) : Nat := if good l = true then cntS l else 0
def fits (l : List St) (m : Nat) : Bool := good l && l.all fun s => decide (s.1 ≤ (m : Int))
def txtS (s : St) : List UInt8 := Lib.itoa s.2 ++ (if s.1 = 0 then [] else 64 :: Lib.itoa s.1)
def txt : List St → List UInt8
  | [] => []
  | s :: l => txtS s ++ (if l = [] then [] else 43 :: txt l)
def text (l : List St) : List UInt8 := if good l = true then txt l else []

theorem goodS_iff (s : St) : goodS s = true ↔ (0 ≤ s.1 ∧ s.1 ≤ 8) ∧ 1 ≤ s.2 ∧ s.2 ≤ 2147483648 := by
  unfold goodS; simp only [Bool.and_eq_true, decide_eq_true_eq]; omega
theorem good_iff (l : List St) : good l = true ↔ (1 ≤ l.length ∧ l.length ≤ 8) ∧ ∀ s ∈ l, goodS s = true := by
  unfold good; simp only [Bool.and_eq_true, decide_eq_true_eq, List.all_eq_true]

/-- A byte's digit. -/
def dig (c : UInt8) : Int := (c.toNat : Int) - 48
def isDig (c : UInt8) : Bool := decide (48 ≤ c.toNat) && decide (c.toNat ≤ 57)
theorem chr_nat (d : Nat) (h : d < 10) : (UInt8.ofNat (48 + d)).toNat = 48 + d := by
  simp only [UInt8.toNat_ofNat']; omega
theorem chr_dig (d : Nat) (h : d < 10) : dig (UInt8.ofNat (48 + d)) = d := by
  unfold dig; rw [chr_nat d h]; omega
theorem chr_isDig (d : Nat) (h : d < 10) : isDig (UInt8.ofNat (48 + d)) = true := by
  unfold isDig; rw [chr_nat d h]; simp; omega
theorem chr_back (c : UInt8) (h : isDig c = true) : ∃ d : Nat, d < 10 ∧ c = UInt8.ofNat (48 + d) ∧ dig c = d := by
  unfold isDig at h
  simp only [Bool.and_eq_true, decide_eq_true_eq] at h
  have e : c = UInt8.ofNat (48 + (c.toNat - 48)) := by
    rw [show 48 + (c.toNat - 48) = c.toNat by omega]; simp
  refine ⟨c.toNat - 48, by omega, e, ?_⟩
  unfold dig; omega
theorem dec_small {u : Nat} (h : u < 10) : Lib.decDigits u = [UInt8.ofNat (48 + u)] := Lib.decDigits_one h
theorem dec_big {u : Nat} (h : ¬ u < 10) : Lib.decDigits u = Lib.decDigits (u / 10) ++ [UInt8.ofNat (48 + u % 10)] := by
  rw [Lib.decDigits, dif_neg h]
theorem dec_ne (u : Nat) : Lib.decDigits u ≠ [] := by
  by_cases h : u < 10
  · rw [dec_small h]; simp
  · rw [dec_big h]; simp
theorem dec_all (u : Nat) : ∀ c ∈ Lib.decDigits u, isDig c = true := by
  induction u using Nat.strongRecOn with
  | _ u ih =>
    intro c hc
    by_cases h : u < 10
    · rw [dec_small h] at hc
      rw [List.mem_singleton.1 hc]; exact chr_isDig u h
    · rw [dec_big h] at hc
      rcases List.mem_append.1 hc with h1 | h1
      · exact ih (u / 10) (by omega) c h1
      · rw [List.mem_singleton.1 h1]; exact chr_isDig (u % 10) (by omega)
theorem dec_head (u : Nat) (h1 : 1 ≤ u) : ∀ c r, Lib.decDigits u = c :: r → c ≠ 48 := by
  induction u using Nat.strongRecOn with
  | _ u ih =>
    intro c r hc
    by_cases h : u < 10
    · rw [dec_small h] at hc
      simp only [List.cons.injEq] at hc
      rw [← hc.1]
      intro e
      have := congrArg UInt8.toNat e
      rw [chr_nat u h] at this
      simp at this; omega
    · rw [dec_big h] at hc
      cases hq : Lib.decDigits (u / 10) with
      | nil => exact absurd hq (dec_ne _)
      | cons x y =>
        rw [hq] at hc
        simp only [List.cons_append, List.cons.injEq] at hc
        rw [← hc.1]
        exact ih (u / 10) (by omega) (by omega) x y hq
theorem itoa_pos {n : Int} (h : 0 ≤ n) : Lib.itoa n = Lib.decDigits n.toNat := by
  unfold Lib.itoa; rw [if_neg (by omega)]
theorem itoa_len (n : Int) (h0 : 0 ≤ n) (h : n ≤ 2147483648) : (Lib.itoa n).length ≤ 10 := by
  rw [itoa_pos h0]
  have key : ∀ k u : Nat, u < 10 ^ (k + 1) → (Lib.decDigits u).length ≤ k + 1 := by
    intro k
    induction k with
    | zero => intro u hu; rw [dec_small (by simpa using hu)]; simp
    | succ k ih =>
      intro u hu
      by_cases h : u < 10
      · rw [dec_small h]; simp
      · rw [dec_big h, List.length_append]
        have := ih (u / 10) (by rw [Nat.pow_succ] at hu; omega)
        simp; omega
  exact key 9 n.toNat (by omega)

/-- The program's number: its digits, told one by one. -/
def numFrom (most : Int) : List UInt8 → Int → Option Int
  | [], n => some n
  | c :: r, n => if isDig c = true then (if most < n * 10 + dig c then none else numFrom most r (n * 10 + dig c)) else none
def numO (l : List UInt8) (most : Int) : Option Int :=
  match l with
  | [] => none
  | c :: r => if c = 48 then none else numFrom most (c :: r) 0
def numB (l : List UInt8) (most : Int) : Int × Bool :=
  match numO l most with
  | some n => (n, true)
  | none => (0, false)
theorem numFrom_app (most : Int) (a b : List UInt8) : ∀ n, numFrom most (a ++ b) n = (numFrom most a n).bind (numFrom most b) := by
  induction a with
  | nil => intro n; rfl
  | cons c r ih =>
    intro n
    simp only [List.cons_append, numFrom]
    split
    · split
      · rfl
      · exact ih _
    · rfl
theorem numFrom_one (most : Int) (c : UInt8) (n : Int) : numFrom most [c] n = if isDig c = true then (if most < n * 10 + dig c then none else some (n * 10 + dig c)) else none := rfl
theorem numFrom_dec (most : Int) (u : Nat) (h : (u : Int) ≤ most) : numFrom most (Lib.decDigits u) 0 = some (u : Int) := by
  induction u using Nat.strongRecOn with
  | _ u ih =>
    by_cases h1 : u < 10
    · rw [dec_small h1, numFrom_one, if_pos (chr_isDig u h1), chr_dig u h1, if_neg (by omega)]; simp
    · rw [dec_big h1, numFrom_app, ih (u / 10) (by omega) (by omega), Option.bind_some, numFrom_one, if_pos (chr_isDig _ (by omega)), chr_dig _ (by omega), if_neg (by omega)]
      congr 1; omega
theorem numO_itoa (n most : Int) (h1 : 1 ≤ n) (h2 : n ≤ most) : numO (Lib.itoa n) most = some n := by
  rw [itoa_pos (by omega)]
  have := numFrom_dec most n.toNat (by omega)
  cases hq : Lib.decDigits n.toNat with
  | nil => exact absurd hq (dec_ne _)
  | cons c r =>
    have hc := dec_head n.toNat (by omega) c r hq
    show (if c = 48 then none else numFrom most (c :: r) 0) = some n
    rw [if_neg hc, ← hq, this]
    congr 1; omega
theorem numFrom_back (most : Int) : ∀ (k : Nat) (l : List UInt8) (n : Int), l.length = k → l ≠ [] → (∀ c r, l = c :: r → c ≠ 48) → numFrom most l 0 = some n → 1 ≤ n ∧ n ≤ most ∧ l = Lib.decDigits n.toNat := by
  intro k
  induction k with
  | zero => intro l n hl hne; exact absurd (List.eq_nil_of_length_eq_zero hl) hne
  | succ k ih =>
    intro l n hl hne h0 hn
    have hsp := List.dropLast_concat_getLast hne
    have hlen : l.dropLast.length = k := by rw [List.length_dropLast]; omega
    rw [← hsp, numFrom_app] at hn
    generalize l.getLast hne = c at hsp hn
    by_cases hd : l.dropLast = []
    · rw [hd] at hn hsp
      simp only [List.nil_append] at hsp
      simp only [numFrom, Option.bind_some] at hn
      split at hn
      · rename_i hc
        obtain ⟨d, hd1, rfl, hd2⟩ := chr_back c hc
        rw [hd2] at hn
        split at hn
        · cases hn
        · simp only [Option.some.injEq] at hn
          have h48 := h0 _ _ hsp.symm
          have hd0 : d ≠ 0 := by rintro rfl; exact h48 (by decide)
          refine ⟨by omega, by omega, ?_⟩
          rw [← hsp, show n.toNat = d by omega, dec_small hd1]
      · cases hn
    · cases hq : numFrom most l.dropLast 0 with
      | none => rw [hq] at hn; cases hn
      | some m =>
        obtain ⟨i1, i2, i3⟩ := ih l.dropLast m hlen hd (by
          intro x y hxy
          refine h0 x (y ++ [c]) ?_
          rw [← hsp, hxy]; rfl) hq
        rw [hq, Option.bind_some, numFrom_one] at hn
        split at hn
        · rename_i hc
          obtain ⟨d, hd1, rfl, hd2⟩ := chr_back c hc
          rw [hd2] at hn
          split at hn
          · cases hn
          · simp only [Option.some.injEq] at hn
            refine ⟨by omega, by omega, ?_⟩
            rw [← hsp, i3, dec_big (u := n.toNat) (by omega), show n.toNat / 10 = m.toNat by omega, show n.toNat % 10 = d by omega]
        · cases hn
theorem numO_iff (l : List UInt8) (most n : Int) : numO l most = some n ↔ 1 ≤ n ∧ n ≤ most ∧ l = Lib.itoa n := by
  constructor
  · intro h
    cases l with
    | nil => cases h
    | cons c r =>
      unfold numO at h
      simp only at h
      split at h
      · cases h
      · rename_i hc
        obtain ⟨h1, h2, h3⟩ := numFrom_back most _ (c :: r) n rfl (by simp) (by
          intro x y e
          simp only [List.cons.injEq] at e
          rw [← e.1]; exact hc) h
        exact ⟨h1, h2, by rw [itoa_pos (by omega)]; exact h3⟩
  · rintro ⟨h1, h2, rfl⟩
    exact numO_itoa n most h1 h2
theorem numB_iff (l : List UInt8) (most n : Int) : numB l most = (n, true) ↔ 1 ≤ n ∧ n ≤ most ∧ l = Lib.itoa n := by
  rw [← numO_iff]
  unfold numB
  cases numO l most with
  | none => simp
  | some m => simp
theorem numB_itoa (n most : Int) (h1 : 1 ≤ n) (h2 : n ≤ most) : numB (Lib.itoa n) most = (n, true) := (numB_iff _ _ _).2 ⟨h1, h2, rfl⟩
theorem numB_bound (l : List UInt8) (most : Int) (h : 0 ≤ most) : 0 ≤ (numB l most).1 ∧ (numB l most).1 ≤ most := by
  cases hq : (numB l most).2 with
  | true =>
    have := (numB_iff l most (numB l most).1).1 (by rw [← hq])
    omega
  | false =>
    have : (numB l most).1 = 0 := by
      unfold numB at *
      cases h : numO l most with
      | none => rfl
      | some m => rw [h] at hq; cases hq
    omega

/-- The text, cut. -/
theorem cut_none {l : List UInt8} {c : UInt8} (h : c ∉ l) : Lib.cut l [c] = (l, [], false) := by
  have e : Lib.index l [c] = -1 := by
    rw [Lib.index_one]
    induction l with
    | nil => rfl
    | cons b l ih =>
      rw [List.mem_cons, not_or] at h
      unfold Lib.indexByte
      have hb : (b == c) = false := by rw [beq_eq_false_iff_ne]; exact fun e => h.1 e.symm
      rw [hb, ih h.2]; rfl
  unfold Lib.cut
  rw [e, if_neg (by omega)]
theorem index_at {a b : List UInt8} {c : UInt8} (h : c ∉ a) : Lib.index (a ++ c :: b) [c] = (a.length : Int) := by
  rw [Lib.index_one]
  induction a with
  | nil => simp [Lib.indexByte]
  | cons x a ih =>
    rw [List.mem_cons, not_or] at h
    have hb : (x == c) = false := by rw [beq_eq_false_iff_ne]; exact fun e => h.1 e.symm
    rw [List.cons_append]
    unfold Lib.indexByte
    rw [hb, ih h.2]
    have : ((a.length : Int) == -1) = false := by rw [beq_eq_false_iff_ne]; omega
    rw [this]; simp
theorem cut_at {a b : List UInt8} {c : UInt8} (h : c ∉ a) : Lib.cut (a ++ c :: b) [c] = (a, b, true) := by
  unfold Lib.cut
  rw [index_at h, if_pos (by omega), Int.toNat_natCast]
  simp
theorem cut_cases (l : List UInt8) (c : UInt8) : (c ∉ l ∧ Lib.cut l [c] = (l, [], false)) ∨ ∃ a b, l = a ++ c :: b ∧ c ∉ a ∧ Lib.cut l [c] = (a, b, true) := by
  by_cases h : c ∈ l
  · obtain ⟨a, b, rfl, ha⟩ := List.eq_append_cons_of_mem h
    exact .inr ⟨a, b, rfl, ha, cut_at ha⟩
  · exact .inl ⟨h, cut_none h⟩
theorem split_eq {x y a b : List UInt8} {c : UInt8} (hx : c ∉ x) (ha : c ∉ a) (h : x ++ c :: y = a ++ c :: b) : x = a ∧ y = b := by
  have e : (x, y, true) = (a, b, true) := by rw [← cut_at (b := y) hx, h, cut_at ha]
  simp only [Prod.mk.injEq] at e
  exact ⟨e.1, e.2.1⟩

/-- One step's text, read. -/
def pstep (t : List UInt8) : St × Bool :=
  if (numB (Lib.cut t [64]).1 2147483648).2 = false ∨ (Lib.cut t [64]).2.2 = false then ((0, (numB (Lib.cut t [64]).1 2147483648).1), (numB (Lib.cut t [64]).1 2147483648).2)
  else (((numB (Lib.cut t [64]).2.1 8).1, (numB (Lib.cut t [64]).1 2147483648).1), (numB (Lib.cut t [64]).2.1 8).2)
theorem itoa_all {n : Int} (h : 0 ≤ n) : ∀ c ∈ Lib.itoa n, isDig c = true := by rw [itoa_pos h]; exact dec_all _
theorem no_at {n : Int} (h : 0 ≤ n) : (64 : UInt8) ∉ Lib.itoa n := fun hc => by
  have := itoa_all h _ hc
  revert this; decide
theorem no_plus {n : Int} (h : 0 ≤ n) : (43 : UInt8) ∉ Lib.itoa n := fun hc => by
  have := itoa_all h _ hc
  revert this; decide
theorem pair_true {α : Type} (x : α × Bool) (h : x.2 = true) : x = (x.1, true) := by rw [← h]
theorem pstep_iff (t : List UInt8) (s : St) : pstep t = (s, true) ↔ goodS s = true ∧ txtS s = t := by
  obtain ⟨m, n⟩ := s
  rw [goodS_iff]
  constructor
  · intro h
    unfold pstep at h
    rcases cut_cases t 64 with ⟨hn, hc⟩ | ⟨a, b, rfl, ha, hc⟩
    · rw [hc] at h
      simp only [or_true, if_true, Prod.mk.injEq] at h
      obtain ⟨⟨rfl, h1⟩, h2⟩ := h
      have := (numB_iff t 2147483648 n).1 (by rw [← h1, ← h2])
      refine ⟨by simp only; omega, ?_⟩
      unfold txtS
      simp [this.2.2]
    · rw [hc] at h
      simp only [or_false, Bool.true_eq_false] at h
      split at h
      · rename_i hf
        simp only [Prod.mk.injEq] at h
        rw [hf] at h
        cases h.2
      · rename_i hf
        simp only [Prod.mk.injEq] at h
        obtain ⟨⟨h1, h2⟩, h3⟩ := h
        have i1 := (numB_iff a 2147483648 n).1 (by rw [← h2, ← (by simpa using hf : (numB a 2147483648).2 = true)])
        have i2 := (numB_iff b 8 m).1 (by rw [← h1, ← h3])
        refine ⟨by simp only; omega, ?_⟩
        unfold txtS
        rw [if_neg (by simp only; omega), ← i1.2.2, ← i2.2.2]
  · rintro ⟨⟨h1, h2, h3⟩, rfl⟩
    simp only at h1 h2 h3
    unfold pstep txtS
    by_cases hm : m = 0
    · simp only [hm, if_true, List.append_nil]
      rw [cut_none (no_at (by omega)), numB_itoa n _ (by omega) (by omega)]
      simp
    · simp only [hm, if_false]
      rw [cut_at (no_at (by omega)), numB_itoa n _ (by omega) (by omega), numB_itoa m _ (by omega) (by omega)]
      simp
theorem pstep_bound (t : List UInt8) : (0 ≤ (pstep t).1.1 ∧ (pstep t).1.1 ≤ 8) ∧ 0 ≤ (pstep t).1.2 ∧ (pstep t).1.2 ≤ 2147483648 := by
  have h1 := numB_bound (Lib.cut t [64]).1 2147483648 (by omega)
  have h2 := numB_bound (Lib.cut t [64]).2.1 8 (by omega)
  unfold pstep
  split
  · simp only; omega
  · simp only; omega
/-- A text, read: at most k steps more. -/
def pgo : Nat → List St → List UInt8 → Option (List St)
  | 0, _, _ => none
  | k + 1, p, r => if (pstep (Lib.cut r [43]).1).2 = true then (if (Lib.cut r [43]).2.2 = true then pgo k (p ++ [(pstep (Lib.cut r [43]).1).1]) (Lib.cut r [43]).2.1 else some (p ++ [(pstep (Lib.cut r [43]).1).1])) else none
def parse (s : List UInt8) : Option (List St) := pgo 8 [] s
theorem txtS_plus {s : St} (h : goodS s = true) : (43 : UInt8) ∉ txtS s := by
  rw [goodS_iff] at h
  unfold txtS
  intro hc
  rcases List.mem_append.1 hc with h1 | h1
  · exact no_plus (by omega) h1
  · split at h1
    · cases h1
    · rcases List.mem_cons.1 h1 with h2 | h2
      · revert h2; decide
      · exact no_plus (by omega) h2
theorem pgo_iff : ∀ (k : Nat) (acc : List St) (s : List UInt8) (p : List St), pgo k acc s = some p ↔ ∃ q, p = acc ++ q ∧ q ≠ [] ∧ q.length ≤ k ∧ (∀ x ∈ q, goodS x = true) ∧ txt q = s := by
  intro k
  induction k with
  | zero =>
    intro acc s p
    constructor
    · intro h; cases h
    · rintro ⟨q, _, hne, hl, _⟩
      exact absurd (List.eq_nil_of_length_eq_zero (by omega)) hne
  | succ k ih =>
    intro acc s p
    unfold pgo
    rcases cut_cases s 43 with ⟨hn, hc⟩ | ⟨a, b, rfl, ha, hc⟩
    · rw [hc]
      simp only [Bool.false_eq_true, if_false]
      constructor
      · intro h
        split at h
        · rename_i hs
          have := (pstep_iff s (pstep s).1).1 (pair_true _ hs)
          simp only [Option.some.injEq] at h
          refine ⟨[(pstep s).1], h.symm, by simp, by simp, ?_, ?_⟩
          · intro x hx; rw [List.mem_singleton.1 hx]; exact this.1
          · simp [txt, this.2]
        · cases h
      · rintro ⟨q, rfl, hne, hl, hg, rfl⟩
        cases q with
        | nil => exact absurd rfl hne
        | cons x q =>
          by_cases hq : q = []
          · subst hq
            have hx := hg x List.mem_cons_self
            have e : txt [x] = txtS x := by simp [txt]
            rw [e]
            have := (pstep_iff (txtS x) x).2 ⟨hx, rfl⟩
            rw [this]; simp
          · exfalso
            refine hn ?_
            simp [txt, hq]
    · rw [hc]
      simp only [if_true]
      constructor
      · intro h
        split at h
        · rename_i hs
          have := (pstep_iff a (pstep a).1).1 (pair_true _ hs)
          obtain ⟨q, hp, hne, hl, hg, ht⟩ := (ih _ _ _).1 h
          refine ⟨(pstep a).1 :: q, by rw [hp]; simp, by simp, by simp; omega, ?_, ?_⟩
          · intro x hx
            rcases List.mem_cons.1 hx with rfl | hx
            · exact this.1
            · exact hg x hx
          · simp [txt, hne, this.2, ht]
        · cases h
      · rintro ⟨q, rfl, hne, hl, hg, ht⟩
        cases q with
        | nil => exact absurd rfl hne
        | cons x q =>
          have hx := hg x List.mem_cons_self
          have hp := txtS_plus hx
          by_cases hq : q = []
          · exfalso
            subst hq
            have e : txt [x] = txtS x := by simp [txt]
            rw [e] at ht
            rw [ht] at hp
            exact hp (by simp)
          · simp only [txt, hq, if_false] at ht
            obtain ⟨e1, e2⟩ := split_eq hp ha ht
            have := (pstep_iff a x).2 ⟨hx, e1⟩
            rw [this]
            simp only [if_true]
            rw [ih]
            exact ⟨q, by simp, hq, by simp at hl; omega, fun y hy => hg y (List.mem_cons_of_mem _ hy), e2⟩
theorem parse_iff (s : List UInt8) (p : List St) : parse s = some p ↔ good p = true ∧ txt p = s := by
  unfold parse
  rw [pgo_iff, good_iff]
  constructor
  · rintro ⟨q, rfl, hne, hl, hg, rfl⟩
    have : p.length ≠ 0 := fun h => hne (List.eq_nil_of_length_eq_zero h)
    exact ⟨⟨⟨by omega, hl⟩, hg⟩, rfl⟩
  · rintro ⟨⟨⟨h1, h2⟩, hg⟩, rfl⟩
    exact ⟨p, rfl, by rintro rfl; simp at h1, h2, hg, rfl⟩
/-- A program's text is read as it. -/
theorem parse_txt {p : List St} (h : good p = true) : parse (txt p) = some p := (parse_iff _ _).2 ⟨h, rfl⟩
theorem txt_inj {p q : List St} (hp : good p = true) (hq : good q = true) (h : txt p = txt q) : p = q := by
  have := parse_txt hp
  rw [h, parse_txt hq] at this
  simpa using this.symm

/-- The reference's reading: a state that takes byte by byte: what is behind, and the step that is being read. -/
def rgo : List UInt8 → Bool → List St → St → Option (List St)
  | [], _, acc, cur => some (acc ++ [cur])
  | c :: r, at', acc, cur =>
    if 9 < acc.length + 1 then some (acc ++ [cur])
    else if c = 43 then rgo r false (acc ++ [cur]) (0, 0)
    else if c = 64 then rgo r true acc cur
    else if isDig c = false ∨ 1099511627776 < cur.2 ∨ 1000 < cur.1 then none
    else if at' = true then rgo r true acc (10 * cur.1 + dig c, cur.2)
    else rgo r false acc (cur.1, 10 * cur.2 + dig c)
def rparse (s : List UInt8) : Option (List St) :=
  match rgo s false [] (0, 0) with
  | none => none
  | some p => if good p = true ∧ txt p = s then some p else none
theorem rgo_one (c : UInt8) (r : List UInt8) (acc : List St) (n : Int) (hl : acc.length ≤ 8) (hc : isDig c = true) (hn : n ≤ 1099511627776) :
    rgo (c :: r) false acc (0, n) = rgo r false acc (0, 10 * n + dig c) := by
  have h1 : c ≠ 43 := by rintro rfl; revert hc; decide
  have h2 : c ≠ 64 := by rintro rfl; revert hc; decide
  rw [rgo, if_neg (by omega), if_neg h1, if_neg h2, if_neg (by rw [hc]; simp; omega), if_neg (by simp)]
theorem rgo_dec (u : Nat) (hu : u ≤ 2147483648) (acc : List St) (hl : acc.length ≤ 8) : ∀ r, rgo (Lib.decDigits u ++ r) false acc (0, 0) = rgo r false acc (0, (u : Int)) := by
  induction u using Nat.strongRecOn with
  | _ u ih =>
    intro r
    by_cases h1 : u < 10
    · rw [dec_small h1, List.singleton_append, rgo_one _ _ _ _ hl (chr_isDig u h1) (by omega), chr_dig u h1]
      simp
    · rw [dec_big h1, List.append_assoc, ih (u / 10) (by omega) (by omega), List.singleton_append, rgo_one _ _ _ _ hl (chr_isDig _ (by omega)) (by omega), chr_dig _ (by omega)]
      congr 2; omega
theorem rgo_step (s : St) (hs : goodS s = true) (acc : List St) (hl : acc.length ≤ 8) (r : List UInt8) : rgo (txtS s ++ r) false acc (0, 0) = rgo r (decide (s.1 ≠ 0)) acc s := by
  obtain ⟨m, n⟩ := s
  rw [goodS_iff] at hs
  simp only at hs
  unfold txtS
  rw [itoa_pos (by simp only; omega), List.append_assoc, rgo_dec _ (by simp only; omega) acc hl]
  have en : ((n.toNat : Nat) : Int) = n := by omega
  simp only [en]
  by_cases hm : m = 0
  · simp [hm]
  · simp only [hm, if_false, List.cons_append]
    rw [rgo, if_neg (by omega), if_neg (by decide), if_pos rfl, itoa_pos (by omega), dec_small (show m.toNat < 10 by omega), List.singleton_append, rgo]
    have hd := chr_isDig m.toNat (by omega)
    have hz := chr_dig m.toNat (by omega)
    generalize UInt8.ofNat (48 + m.toNat) = c at hd hz
    have h1 : c ≠ 43 := by rintro rfl; revert hd; decide
    have h2 : c ≠ 64 := by rintro rfl; revert hd; decide
    rw [if_neg (by omega), if_neg h1, if_neg h2, if_neg (by rw [hd]; simp; omega), if_pos rfl, hz]
    simp only [Int.mul_zero, Int.zero_add, ne_eq, hm, not_false_eq_true, decide_true]
    congr 2; omega
theorem rgo_txt : ∀ (q : List St) (acc : List St), q ≠ [] → (∀ x ∈ q, goodS x = true) → acc.length + q.length ≤ 8 → rgo (txt q) false acc (0, 0) = some (acc ++ q) := by
  intro q
  induction q with
  | nil => intro acc h; exact absurd rfl h
  | cons x q ih =>
    intro acc _ hg hl
    simp only [List.length_cons] at hl
    have hx := hg x List.mem_cons_self
    simp only [txt]
    rw [rgo_step x hx acc (by omega)]
    by_cases hq : q = []
    · simp only [hq, if_true]
      rw [rgo]
    · simp only [hq, if_false]
      rw [rgo, if_neg (by omega), if_pos rfl, ih (acc ++ [x]) hq (fun y hy => hg y (List.mem_cons_of_mem _ hy)) (by simp; omega)]
      simp
/-- Both read alike. -/
theorem rparse_eq (s : List UInt8) : rparse s = parse s := by
  apply Option.ext
  intro p
  constructor
  · intro h
    unfold rparse at h
    split at h
    · cases h
    · split at h
      · rename_i hh
        simp only [Option.some.injEq] at h
        subst h
        exact (parse_iff _ _).2 hh
      · cases h
  · intro h
    have hh := (parse_iff _ _).1 h
    have hg := (good_iff p).1 hh.1
    unfold rparse
    rw [← hh.2, rgo_txt p [] (by rintro rfl; simp at hg) hg.2 (by simp; omega)]
    simp [hh.1]

/-- Two programs, one behind the other. -/
theorem sum_app (p q : List St) : sumN (p ++ q) = sumN p + sumN q := by
  induction p with
  | nil => simp [sumN]
  | cons x p ih => simp [sumN, ih]; omega
theorem cnt_app (p q : List St) : cntS (p ++ q) = cntS p + cntS q := by
  induction p with
  | nil => simp [cntS]
  | cons x p ih => simp [cntS, ih]; omega
theorem txt_app (p q : List St) (hp : p ≠ []) (hq : q ≠ []) : txt (p ++ q) = txt p ++ 43 :: txt q := by
  induction p with
  | nil => exact absurd rfl hp
  | cons x p ih =>
    by_cases h : p = []
    · subst h; simp [txt, hq]
    · simp [txt, h, hq, ih h]
theorem good_app {p q : List St} (hp : good p = true) (hq : good q = true) (hl : p.length + q.length ≤ 8) : good (p ++ q) = true := by
  rw [good_iff] at *
  refine ⟨by rw [List.length_append]; omega, ?_⟩
  intro x hx
  rcases List.mem_append.1 hx with h | h
  · exact hp.2 x h
  · exact hq.2 x h
theorem sum_ge {p : List St} (h : ∀ x ∈ p, goodS x = true) : (p.length : Int) ≤ sumN p ∧ sumN p ≤ p.length * 2147483648 := by
  induction p with
  | nil => simp [sumN]
  | cons x p ih =>
    have h1 := (goodS_iff x).1 (h x List.mem_cons_self)
    have h2 := ih fun y hy => h y (List.mem_cons_of_mem _ hy)
    simp only [sumN, List.length_cons]; omega
theorem cnt_le (p : List St) : cntS p ≤ p.length := by
  induction p with
  | nil => simp [cntS]
  | cons x p ih => simp only [cntS, List.length_cons]; split <;> omega
theorem txtS_len {s : St} (h : goodS s = true) : (txtS s).length ≤ 21 := by
  rw [goodS_iff] at h
  have h1 := itoa_len s.2 (by omega) (by omega)
  have h2 := itoa_len s.1 (by omega) (by omega)
  unfold txtS
  rw [List.length_append]
  split
  · simp; omega
  · simp; omega
theorem txt_len {p : List St} (h : ∀ x ∈ p, goodS x = true) : (txt p).length ≤ 22 * p.length := by
  induction p with
  | nil => simp [txt]
  | cons x p ih =>
    have h1 := txtS_len (h x List.mem_cons_self)
    have h2 := ih fun y hy => h y (List.mem_cons_of_mem _ hy)
    simp only [txt, List.length_append, List.length_cons]
    split
    · simp; omega
    · simp only [List.length_cons]; omega
/-- Step by step. -/
theorem take_snoc (l : List St) (k : Nat) (x : St) (h : l[k]? = some x) : l.take (k + 1) = l.take k ++ [x] := by
  rw [List.take_add_one, h]; rfl
theorem sum_snoc (l : List St) (k : Nat) (x : St) (h : l[k]? = some x) : sumN (l.take (k + 1)) = sumN (l.take k) + x.2 := by
  rw [take_snoc l k x h, sum_app]; simp [sumN]
theorem cnt_snoc (l : List St) (k : Nat) (x : St) (h : l[k]? = some x) : cntS (l.take (k + 1)) = cntS (l.take k) + (if x.1 = 0 then 0 else 1) := by
  rw [take_snoc l k x h, cnt_app]; simp [cntS]
theorem txt_snoc (l : List St) (k : Nat) (x : St) (h : l[k]? = some x) : txt (l.take (k + 1)) = txt (l.take k) ++ (if 0 < k then [43] else []) ++ txtS x := by
  have hlt : k < l.length := (List.getElem?_eq_some_iff.1 h).1
  rw [take_snoc l k x h]
  by_cases hk : 0 < k
  · rw [txt_app _ _ (by intro e; have := congrArg List.length e; rw [List.length_take, List.length_nil] at this; omega) (by simp), if_pos hk]
    simp [txt]
  · rw [if_neg hk, show k = 0 by omega]
    simp [txt]
theorem sum_bound {l : List St} (h : good l = true) (k : Nat) : 0 ≤ sumN (l.take k) ∧ sumN (l.take k) ≤ 17179869184 := by
  obtain ⟨⟨h1, h2⟩, h3⟩ := (good_iff l).1 h
  have := sum_ge (p := l.take k) fun x hx => h3 x (List.mem_of_mem_take hx)
  rw [List.length_take] at this
  omega
theorem txt_bound {l : List St} (h : good l = true) (k : Nat) : (txt (l.take k)).length ≤ 176 := by
  obtain ⟨⟨h1, h2⟩, h3⟩ := (good_iff l).1 h
  have := txt_len (p := l.take k) fun x hx => h3 x (List.mem_of_mem_take hx)
  rw [List.length_take] at this
  omega
theorem good_at {l : List St} (h : good l = true) {k : Nat} {x : St} (hx : l[k]? = some x) : (0 ≤ x.1 ∧ x.1 ≤ 8) ∧ 1 ≤ x.2 ∧ x.2 ≤ 2147483648 :=
  (goodS_iff x).1 (((good_iff l).1 h).2 x (List.mem_of_getElem? hx))
end Go.Proofs.YtdbkdnjmiehlcaaDoor.Pm
