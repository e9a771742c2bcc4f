/- set, Arm, Cancel, Move, Register. -/
import Derived.Test.YtmdendffbjhdbaaACon
namespace Go.Proofs.Ytmdendffbjhdbaa.Con
open Go.RowKit Go.Proofs.Ytmdendffbjhdbaa.Hq
set_option linter.unusedVariables false
set_option linter.unusedSimpArgs false
/-- As many as there are numbers. -/
theorem few : ∀ (n : Nat) (l : List Int), l.Nodup → (∀ x ∈ l, 0 ≤ x ∧ x < (n : Int)) → l.length ≤ n
  | 0, l, _, h => by
    cases l with
    | nil => simp
    | cons x r => have := h x (by simp); omega
  | n + 1, l, hd, h => by
    by_cases hm : (n : Int) ∈ l
    · have := few n (l.erase (n : Int)) (hd.erase _) (by
        intro x hx
        rw [hd.mem_erase_iff] at hx
        have := h x hx.2
        have := hx.1
        omega)
      rw [List.length_erase_of_mem hm] at this
      omega
    · have := few n l hd (by
        intro x hx
        have := h x hx
        have : x ≠ (n : Int) := fun e => hm (e ▸ hx)
        omega)
      omega
theorem setK_mem {l : List It} {id key : Int} (hth : ∃ y ∈ l, y.1 = id) (x : It) : x ∈ setK l id key ↔ x = (id, key) ∨ (x.1 ≠ id ∧ x ∈ l) := by
  unfold setK
  rw [List.mem_map]
  constructor
  · rintro ⟨y, hy, rfl⟩
    split
    · exact .inl rfl
    · rename_i hne; exact .inr ⟨hne, hy⟩
  · rintro (rfl | ⟨h1, h2⟩)
    · obtain ⟨y, hy, e⟩ := hth
      exact ⟨y, hy, by rw [if_pos e]⟩
    · exact ⟨x, h2, by rw [if_neg h1]⟩
/-- What a call did to them. -/
def Did (W : World) (d : AD) (R : Int → Int → Int → Prop) (w' : World) : Prop :=
  ∃ d' : AD, d'.At w' ∧ Stp W w' d.Foot d'.Foot ∧ d'.ab = d.ab ∧ d'.now = d.now ∧ d'.hs.length = d.hs.length ∧ ∀ c i a, Has d' c i a ↔ R c i a
theorem has_set {d : AD} {i : Nat} {h' : HD} (hi : i < d.hs.length) (c j a : Int) : Has { d with hs := d.hs.set i h' } c j a ↔ (c = (i : Int) ∧ (j, a) ∈ h'.l) ∨ (c ≠ (i : Int) ∧ Has d c j a) := by
  unfold Has
  by_cases h : c = (i : Int)
  · subst h
    simp [hi]
  · simp only [h, false_and, false_or, ne_eq, not_false_eq_true, true_and, List.getElem?_set]
    constructor
    · rintro ⟨h0, k, hk, hm⟩
      rw [if_neg (by omega)] at hk
      exact ⟨h0, k, hk, hm⟩
    · rintro ⟨h0, k, hk, hm⟩
      exact ⟨h0, k, by rw [if_neg (by omega)]; exact hk, hm⟩
section
variable {W w' : World} {d : AD} {h : HD} {i : Nat}
theorem AD.At.did (a : d.At W) (hi : d.hs[i]? = some h) {v' : Value} {l' : List It} (hT : Turn W w' h.hb h.mb h.v v') (hq : HQ w' h.hb h.mb 1024 false v' l') (R : Int → Int → Int → Prop)
    (hf : ∀ x ∈ l', 0 ≤ x.1 ∧ x.1 < 1024 ∧ 0 ≤ x.2 ∧ x.2 ≤ top2) (hR : ∀ c j t, R c j t ↔ (c = (i : Int) ∧ (j, t) ∈ l') ∨ (c ≠ (i : Int) ∧ Has d c j t)) : Did W d R w' := by
  have hlt : i < d.hs.length := (List.getElem?_eq_some_iff.1 hi).1
  obtain ⟨r1, r2⟩ := a.one hi (Stp.of (l' := l') hT) hq rfl hf
  refine ⟨_, r1, r2, rfl, rfl, by simp, ?_⟩
  intro c j t
  rw [has_set hlt, hR]
theorem has_at (hi : d.hs[i]? = some h) (j t : Int) : Has d (i : Int) j t ↔ (j, t) ∈ h.l := by
  unfold Has
  constructor
  · rintro ⟨_, k, hk, hm⟩
    simp only [Int.toNat_natCast] at hk
    rw [hi] at hk; cases hk; exact hm
  · intro hm; exact ⟨by omega, h, by simpa using hi, hm⟩
def Arms (d : AD) (c id t : Int) (c' j a : Int) : Prop := (c' = c ∧ j = id ∧ a = t) ∨ (¬ (c' = c ∧ j = id) ∧ Has d c' j a)
def SetP (W : World) (d : AD) (c id t : Int) (e : Ending) (w' : World) : Prop := e = .returned (.tuple #[]) ∧ Did W d (Arms d c id t) w'
theorem did_set (a : d.At W) (hi : d.hs[i]? = some h) {v' : Value} {l' : List It} (hT : Turn W w' h.hb h.mb h.v v') (hq : HQ w' h.hb h.mb 1024 false v' l') {id t : Int} (h0 : 0 ≤ id) (h1 : id < 1024) (h2 : 0 ≤ t) (h3 : t ≤ top2)
    (hm : ∀ x, x ∈ l' ↔ x = (id, t) ∨ (x.1 ≠ id ∧ x ∈ h.l)) : Did W d (Arms d i id t) w' := by
  refine a.did hi hT hq _ ?_ ?_
  · intro x hx
    rcases (hm x).1 hx with rfl | ⟨_, r⟩
    · exact ⟨h0, h1, h2, h3⟩
    · exact a.fit h (List.mem_of_getElem? hi) x r
  · intro c j u
    unfold Arms
    by_cases hc : c = (i : Int)
    · subst hc
      rw [hm, has_at hi]
      simp
    · simp [hc]
theorem in64_id {id : Int} (h0 : 0 ≤ id) (h1 : id < 1024) : in64 id := (in64_iff _).2 (by omega)
theorem in64_t {t : Int} (h0 : 0 ≤ t) (h1 : t ≤ top2) : in64 t := (in64_iff _).2 (by unfold top2 at h1; omega)
set_option maxHeartbeats 800000 in
theorem set_any (a : d.At W) (hi : d.hs[i]? = some h) {id t : Int} (h0 : 0 ≤ id) (h1 : id < 1024) (h2 : 0 ≤ t) (h3 : t ≤ top2) :
    Calls Try.prog 25 #[.pointer (some ⟨d.ab, 0, none⟩), .int .i64 (i : Int), .int .i64 id, .int .i64 t] W fun e w' => SetP W d i id t e w' := by
  have c1 := a.c1
  have ci := a.ci hi
  have hlt : i < d.hs.length := (List.getElem?_eq_some_iff.1 hi).1
  have hq := a.each i h hi
  by_cases hth : ∃ y ∈ h.l, y.1 = id
  · have S := hide (set_ok hq id t (in64_id h0 h1) (in64_t h2 h3) hth)
    have FIN : Hid (∀ e w', SetPost W h.hb h.mb 1024 false h.v (setK h.l id t) e w' → e = .returned (.int .i64 0) ∧ SetP W d i id t (.returned (.tuple #[])) w') := hide (by
      rintro e w' ⟨rfl, v', l', q, p, T⟩
      exact ⟨rfl, rfl, did_set a hi T q h0 h1 h2 h3 fun x => by rw [p.mem_iff, setK_mem hth]⟩)
    clear a hq hi
    go_enter Try.func25, Try.ntmps25
    go_wp2_with (go_at_call 33; refine S.out.mono ?_; intro e w' hp; obtain ⟨rfl, hF⟩ := FIN.out _ _ hp; clear hp)
    refine bodyPost_ret (v := .tuple #[]) (by simp [results, Try.results25, go_sem]) rfl hF
  · have hth' : ∀ y ∈ h.l, y.1 ≠ id := fun y hy e => hth ⟨y, hy, e⟩
    have hroom : (h.l.length : Int) < 1024 := by
      have := few 1024 (id :: h.l.map (·.1)) (by
        rw [List.nodup_cons]
        refine ⟨fun hm => ?_, (HQ.hp hq).ids⟩
        obtain ⟨y, hy, e⟩ := List.mem_map.1 hm
        exact hth' y hy e) (by
        intro x hx
        rcases List.mem_cons.1 hx with rfl | hx
        · omega
        · obtain ⟨y, hy, rfl⟩ := List.mem_map.1 hx
          have := a.fit h (List.mem_of_getElem? hi) y hy
          omega)
      simp at this; omega
    have S := hide (set_none hq id t (in64_id h0 h1) hth')
    have P := hide (put_ok hq id t (in64_id h0 h1) (in64_t h2 h3) hth' hroom)
    have FIN : Hid (∀ e w', PutPost W h.hb h.mb 1024 false h.v h.l (id, t) e w' → e = .returned (.int .i64 0) ∧ SetP W d i id t (.returned (.tuple #[])) w') := hide (by
      rintro e w' ⟨rfl, v', l', q, p, T⟩
      refine ⟨rfl, rfl, did_set a hi T q h0 h1 h2 h3 fun x => ?_⟩
      rw [p.mem_iff, List.mem_cons]
      constructor
      · rintro (r | r)
        · exact .inl r
        · exact .inr ⟨hth' x r, r⟩
      · rintro (r | r)
        · exact .inl r
        · exact .inr r.2)
    clear a hq hi hroom
    go_enter Try.func25, Try.ntmps25
    go_wp2_with (first
      | (go_at_call 33; refine S.out.mono ?_; rintro e w' ⟨rfl, rfl⟩)
      | (go_at_call 34; refine P.out.mono ?_; intro e w' hp; obtain ⟨rfl, hF⟩ := FIN.out _ _ hp; clear hp))
    refine bodyPost_ret (v := .tuple #[]) (by simp [results, Try.results25, go_sem]) rfl hF
def armOk (d : AD) (c id t : Int) : Prop := isCpu d c ∧ 0 ≤ id ∧ id < 1024 ∧ okAt d t
set_option maxHeartbeats 800000 in
theorem arm_bad (a : d.At W) {c id t : Int} (hb : ¬ armOk d c id t) :
    Calls Try.prog 9 #[.pointer (some ⟨d.ab, 0, none⟩), .int .i64 c, .int .i64 id, .int .i64 t] W fun e w' => e = .returned (.int .i64 1) ∧ w' = W := by
  have C := has_any a c
  have A := ahead_all a t
  by_cases k1 : isCpu d c
  · rw [decide_eq_true k1] at C
    have C := hide C
    by_cases k2 : id < 0
    · clear hb A a
      go_enter Try.func9, Try.ntmps9
      go_wp2_with (go_at_call 23; refine C.out.mono ?_; rintro e w' ⟨rfl, rfl⟩)
      go_ret
      exact ⟨rfl, rfl⟩
    · by_cases k3 : 1024 ≤ id
      · clear hb A a
        go_enter Try.func9, Try.ntmps9
        go_wp2_with (go_at_call 23; refine C.out.mono ?_; rintro e w' ⟨rfl, rfl⟩)
        go_ret
        exact ⟨rfl, rfl⟩
      · rw [decide_eq_false (fun h => hb ⟨k1, by omega, by omega, h⟩)] at A
        have A := hide A
        clear hb a
        go_enter Try.func9, Try.ntmps9
        go_wp2_with (first
          | (go_at_call 23; refine C.out.mono ?_; rintro e w' ⟨rfl, rfl⟩)
          | (go_at_call 24; refine A.out.mono ?_; rintro e w' ⟨rfl, rfl⟩))
        go_ret
        exact ⟨rfl, rfl⟩
  · rw [decide_eq_false k1] at C
    have C := hide C
    clear hb A a
    go_enter Try.func9, Try.ntmps9
    go_wp2_with (go_at_call 23; refine C.out.mono ?_; rintro e w' ⟨rfl, rfl⟩)
    go_ret
    exact ⟨rfl, rfl⟩
def ArmP (W : World) (d : AD) (c id t : Int) (e : Ending) (w' : World) : Prop := e = .returned (.int .i64 0) ∧ Did W d (Arms d c id t) w'
set_option maxHeartbeats 800000 in
theorem arm_ok (a : d.At W) {c id t : Int} (hb : armOk d c id t) :
    Calls Try.prog 9 #[.pointer (some ⟨d.ab, 0, none⟩), .int .i64 c, .int .i64 id, .int .i64 t] W fun e w' => ArmP W d c id t e w' := by
  obtain ⟨k1, k2, k3, k4⟩ := hb
  have C := has_any a c
  have A := ahead_all a t
  rw [decide_eq_true k1] at C
  rw [decide_eq_true k4] at A
  obtain ⟨i, h, rfl, hi⟩ := cpu_at k1
  have S := hide (set_any a hi k2 k3 (by have := a.t0; have := k4.1; omega) k4.2)
  have C := hide C
  have A := hide A
  have k2' : ¬ id < 0 := by omega
  have k3' : ¬ 1024 ≤ id := by omega
  clear a hi k1 k4
  go_enter Try.func9, Try.ntmps9
  go_wp2_with (first
    | (go_at_call 23; refine C.out.mono ?_; rintro e w' ⟨rfl, rfl⟩)
    | (go_at_call 24; refine A.out.mono ?_; rintro e w' ⟨rfl, rfl⟩)
    | (go_at_call 25; refine S.out.mono ?_; rintro e w' ⟨rfl, hS⟩))
  go_ret
  exact ⟨rfl, hS⟩
def Drops (d : AD) (c id : Int) (c' j a : Int) : Prop := ¬ (c' = c ∧ j = id) ∧ Has d c' j a
theorem no_has (hi : d.hs[i]? = some h) {id : Int} (hn : ∀ t, ¬ Has d (i : Int) id t) : ∀ y ∈ h.l, y.1 ≠ id := by
  rintro ⟨y1, y2⟩ hy rfl
  exact hn y2 ((has_at hi _ _).2 hy)
theorem did_drop (a : d.At W) (hi : d.hs[i]? = some h) {e : Ending} {id : Int} (hp : DropPost W h.hb h.mb 1024 false h.v h.l id e w') : e = .returned (.bool true) ∧ Did W d (Drops d i id) w' := by
  obtain ⟨rfl, v', x, l', q, rfl, p, T⟩ := hp
  refine ⟨rfl, a.did hi T q _ ?_ ?_⟩
  · intro y hy
    exact a.fit h (List.mem_of_getElem? hi) y (p.mem_iff.1 (List.mem_cons_of_mem _ hy))
  · intro c j u
    unfold Drops
    by_cases hc : c = (i : Int)
    · subst hc
      rw [has_at hi, ← p.mem_iff, List.mem_cons]
      have hn : ∀ y ∈ l', y.1 ≠ x.1 := by
        have := (HQ.hp (a.each i h hi)).ids.perm p
        unfold Ids at this
        rw [List.map_cons, List.nodup_cons] at this
        intro y hy e
        exact this.1 (List.mem_map.2 ⟨y, hy, e⟩)
      constructor
      · rintro ⟨h1, h2 | h2⟩
        · subst h2; exact absurd ⟨rfl, rfl⟩ h1
        · exact .inl ⟨rfl, h2⟩
      · rintro (⟨_, h2⟩ | ⟨h1, _⟩)
        · exact ⟨fun h => hn _ h2 h.2, .inr h2⟩
        · exact absurd rfl h1
    · simp [hc]
set_option maxHeartbeats 800000 in
theorem cancel_no (a : d.At W) {c id : Int} (hid : in64 id) (hn : ∀ t, ¬ Has d c id t) :
    Calls Try.prog 13 #[.pointer (some ⟨d.ab, 0, none⟩), .int .i64 c, .int .i64 id] W fun e w' => e = .returned (.bool false) ∧ w' = W := by
  have C := has_any a c
  by_cases k1 : isCpu d c
  · rw [decide_eq_true k1] at C
    obtain ⟨i, h, rfl, hi⟩ := cpu_at k1
    have c1 := a.c1
    have ci := a.ci hi
    have hlt : i < d.hs.length := (List.getElem?_eq_some_iff.1 hi).1
    have D := hide (drop_none (a.each i h hi) id hid (no_has hi hn))
    have C := hide C
    clear a hi hn k1
    go_enter Try.func13, Try.ntmps13
    go_wp2_with (first
      | (go_at_call 23; refine C.out.mono ?_; rintro e w' ⟨rfl, rfl⟩)
      | (go_at_call 27; refine D.out.mono ?_; rintro e w' ⟨rfl, rfl⟩))
    go_ret
    exact ⟨rfl, rfl⟩
  · rw [decide_eq_false k1] at C
    have C := hide C
    clear a hn
    go_enter Try.func13, Try.ntmps13
    go_wp2_with (go_at_call 23; refine C.out.mono ?_; rintro e w' ⟨rfl, rfl⟩)
    go_ret
    exact ⟨rfl, rfl⟩
set_option maxHeartbeats 800000 in
theorem cancel_yes (a : d.At W) {c id t : Int} (hid : in64 id) (hh : Has d c id t) :
    Calls Try.prog 13 #[.pointer (some ⟨d.ab, 0, none⟩), .int .i64 c, .int .i64 id] W fun e w' => e = .returned (.bool true) ∧ Did W d (Drops d c id) w' := by
  have C := has_any a c
  have k1 := has_cpu hh
  rw [decide_eq_true k1] at C
  obtain ⟨i, h, rfl, hi⟩ := cpu_at k1
  have c1 := a.c1
  have ci := a.ci hi
  have hlt : i < d.hs.length := (List.getElem?_eq_some_iff.1 hi).1
  have D := hide (drop_ok (a.each i h hi) id hid ⟨_, (has_at hi _ _).1 hh, rfl⟩)
  have FIN := hide (fun e w' => did_drop (e := e) (w' := w') (id := id) a hi)
  have C := hide C
  clear a hi hh k1
  go_enter Try.func13, Try.ntmps13
  go_wp2_with (first
    | (go_at_call 23; refine C.out.mono ?_; rintro e w' ⟨rfl, rfl⟩)
    | (go_at_call 27; refine D.out.mono ?_; intro e w' hp; obtain ⟨rfl, hF⟩ := FIN.out _ _ hp; clear hp))
  go_ret
  exact ⟨rfl, hF⟩
/-- A register. -/
def regOf (d : AD) (c : Int) : Int × Bool := if 0 ≤ c then (match d.hs[c.toNat]? with | some h => ((at' h.l 0).2, decide (0 < h.l.length)) | none => (0, false)) else (0, false)
set_option maxHeartbeats 800000 in
theorem register_any (a : d.At W) (c : Int) :
    Calls Try.prog 11 #[.pointer (some ⟨d.ab, 0, none⟩), .int .i64 c] W fun e w' => e = .returned (.tuple #[.int .i64 (regOf d c).1, .bool (regOf d c).2]) ∧ Below W.heap.size W w' := by
  have C := has_any a c
  by_cases k1 : isCpu d c
  · rw [decide_eq_true k1] at C
    obtain ⟨i, h, rfl, hi⟩ := cpu_at k1
    have c1 := a.c1
    have ci := a.ci hi
    have hlt : i < d.hs.length := (List.getElem?_eq_some_iff.1 hi).1
    have T := hide (top_any (a.each i h hi))
    have C := hide C
    have E : regOf d (i : Int) = ((at' h.l 0).2, decide (0 < h.l.length)) := by
      unfold regOf; rw [if_pos (by omega), Int.toNat_natCast, hi]
    rw [E]
    clear a hi k1 E
    generalize decide (0 < h.l.length) = B at *
    generalize (at' h.l 0).2 = X at *
    generalize (at' h.l 0).1 = Y at *
    go_enter Try.func11, Try.ntmps11
    go_wp2_with (first
      | (go_at_call 23; refine C.out.mono ?_; rintro e w' ⟨rfl, rfl⟩)
      | (go_at_call 28; refine T.out.mono ?_; rintro e w' ⟨rfl, hB⟩))
    refine bodyPost_ret (v := .tuple #[.int .i64 X, .bool B]) (by simp [results, Try.results11, go_sem]) rfl ⟨rfl, ?_⟩
    exact hB.alloc hB.size _
  · rw [decide_eq_false k1] at C
    have C := hide C
    have E : regOf d c = (0, false) := by
      unfold regOf
      split
      · rename_i h0
        rw [List.getElem?_eq_none (by have : ¬ c < (d.hs.length : Int) := fun h => k1 ⟨h0, h⟩; omega)]
      · rfl
    rw [E]
    clear a E
    go_enter Try.func11, Try.ntmps11
    go_wp2_with (go_at_call 23; refine C.out.mono ?_; rintro e w' ⟨rfl, rfl⟩)
    refine bodyPost_ret (v := .tuple #[.int .i64 0, .bool false]) (by simp [results, Try.results11, go_sem]) rfl ⟨rfl, Below.refl _ _⟩
set_option maxHeartbeats 800000 in
theorem move_bad (a : d.At W) {c to id : Int} (hb : ¬ (isCpu d c ∧ isCpu d to)) :
    Calls Try.prog 10 #[.pointer (some ⟨d.ab, 0, none⟩), .int .i64 c, .int .i64 to, .int .i64 id] W fun e w' => e = .returned (.int .i64 1) ∧ w' = W := by
  have C := hide (has_any a)
  by_cases k1 : isCpu d c
  · have K1 := hide (decide_eq_true k1)
    have K2 := hide (decide_eq_false (fun h : isCpu d to => hb ⟨k1, h⟩))
    clear hb a k1
    go_enter Try.func10, Try.ntmps10
    go_wp2_with (go_at_call 23; refine (C.out _).mono ?_; rintro e w' ⟨rfl, rfl⟩; first | rw [K1.out] | rw [K2.out])
    go_ret
    exact ⟨rfl, rfl⟩
  · have K1 := hide (decide_eq_false k1)
    clear hb a
    go_enter Try.func10, Try.ntmps10
    go_wp2_with (go_at_call 23; refine (C.out _).mono ?_; rintro e w' ⟨rfl, rfl⟩; rw [K1.out])
    go_ret
    exact ⟨rfl, rfl⟩
set_option maxHeartbeats 800000 in
theorem move_none (a : d.At W) {c to id : Int} (hid : in64 id) (k1 : isCpu d c) (k2 : isCpu d to) (hn : ∀ t, ¬ Has d c id t) :
    Calls Try.prog 10 #[.pointer (some ⟨d.ab, 0, none⟩), .int .i64 c, .int .i64 to, .int .i64 id] W fun e w' => e = .returned (.int .i64 4) ∧ w' = W := by
  have C : Hid (∀ x, isCpu d x → Calls Try.prog 23 #[.pointer (some ⟨d.ab, 0, none⟩), .int .i64 x] W fun e w' => e = .returned (.bool true) ∧ w' = W) := hide fun x hx => by
    have := has_any a x; rw [decide_eq_true hx] at this; exact this
  have K2 := hide k2
  have K1 := hide k1
  obtain ⟨i, h, rfl, hi⟩ := cpu_at k1
  have c1 := a.c1
  have ci := a.ci hi
  have hlt : i < d.hs.length := (List.getElem?_eq_some_iff.1 hi).1
  have D := hide (key_none (a.each i h hi) id hid (no_has hi hn))
  clear a hi hn k1 k2
  go_enter Try.func10, Try.ntmps10
  go_wp2_with (first
    | (go_at_call 23; refine (C.out _ (by first | exact K1.out | exact K2.out)).mono ?_; rintro e w' ⟨rfl, rfl⟩)
    | (go_at_call 26; refine D.out.mono ?_; rintro e w' ⟨rfl, rfl⟩))
  go_ret
  exact ⟨rfl, rfl⟩
def Moves (d : AD) (c to id t : Int) (c' j a : Int) : Prop := (c' = to ∧ j = id ∧ a = t) ∨ (¬ (c' = to ∧ j = id) ∧ ¬ (c' = c ∧ j = id) ∧ Has d c' j a)
set_option maxHeartbeats 800000 in
theorem move_ok (a : d.At W) {c to id t : Int} (k2 : isCpu d to) (hh : Has d c id t) :
    Calls Try.prog 10 #[.pointer (some ⟨d.ab, 0, none⟩), .int .i64 c, .int .i64 to, .int .i64 id] W fun e w' => e = .returned (.int .i64 0) ∧ Did W d (Moves d c to id t) w' := by
  have k1 := has_cpu hh
  have C : Hid (∀ x, isCpu d x → Calls Try.prog 23 #[.pointer (some ⟨d.ab, 0, none⟩), .int .i64 x] W fun e w' => e = .returned (.bool true) ∧ w' = W) := hide fun x hx => by
    have := has_any a x; rw [decide_eq_true hx] at this; exact this
  have K2 := hide k2
  have K1 := hide k1
  obtain ⟨i, h, rfl, hi⟩ := cpu_at k1
  have c1 := a.c1
  have ci := a.ci hi
  have hlt : i < d.hs.length := (List.getElem?_eq_some_iff.1 hi).1
  have hm := (has_at hi _ _).1 hh
  have hf := a.fit h (List.mem_of_getElem? hi) _ hm
  have K := hide (key_some (a.each i h hi) (id, t) hm)
  have D := hide (drop_ok (a.each i h hi) id (in64_id hf.1 hf.2.1) ⟨_, hm, rfl⟩)
  have DF := hide (fun e w' => did_drop (e := e) (w' := w') (id := id) a hi)
  obtain ⟨j, h2, rfl, hj⟩ := cpu_at k2
  have S : Hid (∀ w1, Did W d (Drops d i id) w1 → Calls Try.prog 25 #[.pointer (some ⟨d.ab, 0, none⟩), .int .i64 (j : Int), .int .i64 id, .int .i64 t] w1 fun e w' => e = .returned (.tuple #[]) ∧ Did W d (Moves d i j id t) w') := hide (by
    rintro w1 ⟨d1, a1, s1, e1, e2, e3, e4⟩
    obtain ⟨j', h3, he, hj'⟩ := cpu_at (d := d1) (c := (j : Int)) ⟨by omega, by rw [e3]; exact k2.2⟩
    have : j' = j := by omega
    subst this
    rw [← e1]
    refine (set_any a1 hj' hf.1 hf.2.1 hf.2.2.1 hf.2.2.2).mono ?_
    rintro e w' ⟨rfl, d2, a2, s2, f1, f2, f3, f4⟩
    refine ⟨rfl, d2, a2, s1.trans s2, f1.trans e1, f2.trans e2, f3.trans e3, fun c' i' t' => ?_⟩
    rw [f4]
    unfold Arms Moves
    rw [e4]
    unfold Drops
    exact Iff.rfl)
  clear a hi hm hf k1 k2 hh hj
  go_enter Try.func10, Try.ntmps10
  go_wp2_with (first
    | (go_at_call 23; refine (C.out _ (by first | exact K1.out | exact K2.out)).mono ?_; rintro e w' ⟨rfl, rfl⟩)
    | (go_at_call 26; refine K.out.mono ?_; rintro e w' ⟨rfl, rfl⟩)
    | (go_at_call 27; refine D.out.mono ?_; intro e w' hp; obtain ⟨rfl, hF⟩ := DF.out _ _ hp; have hF := hide hF; clear hp)
    | (go_at_call 25; refine (S.out _ hF.out).mono ?_; rintro e w2 ⟨rfl, hS⟩))
  go_ret
  exact ⟨rfl, hS⟩
end
end Go.Proofs.Ytmdendffbjhdbaa.Con
