/- To. -/
import Derived.Test.YtmdendffbjhdbaaARing
namespace Go.Proofs.Ytmdendffbjhdbaa.Con
open Go.RowKit Go.Proofs.Ytmdendffbjhdbaa.Hq
set_option linter.unusedVariables false
set_option linter.unusedSimpArgs false
attribute [local go_sem ↓] Go.wp_at_zero Go.wp_at_succ
/-- What k CPUs leave. -/
structure TI (d : AD) (t : Int) (k : Nat) (d' : AD) (rs : List Rg) : Prop where
  ab : d'.ab = d.ab
  now : d'.now = t
  len : d'.hs.length = d.hs.length
  rest : ∀ j : Nat, k ≤ j → d'.hs[j]? = d.hs[j]?
  has : ∀ c j u, Has d' c j u ↔ Has d c j u ∧ (t < u ∨ (k : Int) ≤ c)
  rung : ∀ r : Rg, r ∈ rs ↔ Has d r.1 r.2.1 r.2.2 ∧ r.2.2 ≤ t ∧ r.1 < (k : Int)
  nodup : rs.Nodup
  few : rs.length ≤ 1024 * k
section
variable {W wr w' : World} {d d' : AD} {t : Int} {k : Nat} {rs : List Rg} {h h' : HD} {ps : List It}
theorem ti_start (a : d.At W) : TI d t 0 { d with now := t } [] := by
  refine ⟨rfl, rfl, rfl, fun _ _ => rfl, ?_, ?_, List.nodup_nil, by simp⟩
  · intro c j u
    constructor
    · intro hh; exact ⟨hh, .inr hh.1⟩
    · intro hh; exact hh.1
  · intro r
    constructor
    · intro hh; cases hh
    · intro hh; have := hh.1.1; have := hh.2.2; simp at this; omega
theorem tag_mem (i : Nat) (r : Rg) : r ∈ ps.map (tag i) ↔ r.1 = (i : Int) ∧ (r.2.1, r.2.2) ∈ ps := by
  rw [List.mem_map]
  constructor
  · rintro ⟨x, hx, rfl⟩; exact ⟨rfl, hx⟩
  · rintro ⟨h1, h2⟩; exact ⟨_, h2, by unfold tag; rw [← h1]⟩
theorem ti_step (T : TI d t k d' rs) (hk : d.hs[k]? = some h) (hd : Ids h.l) (hlen : h.l.length ≤ 1024) (P : (ps ++ h'.l).Perm h.l) (h1 : ∀ x ∈ ps, x.2 ≤ t) (h2 : ∀ x ∈ h'.l, t < x.2) :
    TI d t (k + 1) (wth d' k h') (rs ++ ps.map (tag k)) := by
  have hlt : k < d.hs.length := (List.getElem?_eq_some_iff.1 hk).1
  have m1 : ∀ x, x ∈ h'.l ↔ x ∈ h.l ∧ t < x.2 := by
    intro x
    rw [← P.mem_iff, List.mem_append]
    constructor
    · intro hx; exact ⟨.inr hx, h2 x hx⟩
    · rintro ⟨hx | hx, hu⟩
      · have := h1 x hx; omega
      · exact hx
  have m2 : ∀ x, x ∈ ps ↔ x ∈ h.l ∧ x.2 ≤ t := by
    intro x
    rw [← P.mem_iff, List.mem_append]
    constructor
    · intro hx; exact ⟨.inl hx, h1 x hx⟩
    · rintro ⟨hx | hx, hu⟩
      · exact hx
      · have := h2 x hx; omega
  have nd : (ps ++ h'.l).Nodup := P.nodup_iff.2 (List.Pairwise.of_map (·.1) (fun a b hne e => hne (by rw [e])) hd)
  refine ⟨T.ab, T.now, by rw [wth_len, T.len], ?_, ?_, ?_, ?_, ?_⟩
  · intro j hj
    unfold wth
    simp only [List.getElem?_set]
    rw [if_neg (by omega)]
    exact T.rest j (by omega)
  · intro c j u
    unfold wth
    rw [has_set (by rw [T.len]; exact hlt), T.has]
    by_cases hc : c = (k : Int)
    · subst hc
      rw [m1, has_at hk]
      simp
      intro _
      omega
    · constructor
      · rintro (⟨e, _⟩ | ⟨_, e1, e2⟩)
        · exact absurd e hc
        · exact ⟨e1, by rcases e2 with e | e; exact .inl e; exact .inr (by push_cast; omega)⟩
      · rintro ⟨e1, e2⟩
        exact .inr ⟨hc, e1, by rcases e2 with e | e; exact .inl e; exact .inr (by push_cast at e; omega)⟩
  · intro r
    rw [List.mem_append, T.rung, tag_mem, m2]
    constructor
    · rintro (⟨e1, e2, e3⟩ | ⟨e1, e2, e3⟩)
      · exact ⟨e1, e2, by push_cast; omega⟩
      · refine ⟨?_, e3, by push_cast; omega⟩
        rw [e1]; exact (has_at hk _ _).2 e2
    · rintro ⟨e1, e2, e3⟩
      by_cases hc : r.1 = (k : Int)
      · rw [hc] at e1
        exact .inr ⟨hc, (has_at hk _ _).1 e1, e2⟩
      · exact .inl ⟨e1, e2, by push_cast at e3; omega⟩
  · rw [List.nodup_append]
    refine ⟨T.nodup, ?_, ?_⟩
    · have := (List.nodup_append.1 nd).1
      exact List.Pairwise.map _ (fun a b hne e => hne (by unfold tag at e; simp at e; exact Prod.ext e.1 e.2)) this
    · intro x hx y hy e
      subst e
      have := ((T.rung x).1 hx).2.2
      have := ((tag_mem k x).1 hy).1
      omega
  · have := T.few
    have := P.length_eq
    simp at this ⊢
    omega
theorem AD.At.tick (a : d.At W) (h0 : 0 ≤ t) (h1 : t ≤ top2) : AD.At { d with now := t } (W.setCell ⟨d.ab, 0, none⟩ (.int .i64 t)) ∧ Stp W (W.setCell ⟨d.ab, 0, none⟩ (.int .i64 t)) d.Foot (AD.Foot { d with now := t }) := by
  have ho : ∀ k, k ≠ d.ab → (W.setCell ⟨d.ab, 0, none⟩ (.int .i64 t)).heap[k]? = W.heap[k]? := fun k hk => heap_setCell_other W _ k _ hk
  refine ⟨⟨?_, ?_, ?_, a.sep, a.far, a.fit, a.lo, a.hi, h0, h1⟩, ⟨rfl, rfl, rfl, by simp, fun k hk hn => ho k fun e => hn (.inl e), fun k hk => .inl hk⟩⟩
  · rw [heap_setCell_same W d.ab 0 _ _ (.int .i64 t) a.str]; rfl
  · exact (ho _ (fun e => a.ne e.symm)).trans a.row
  · intro i h hi
    have q := a.each i h hi
    exact ⟨(HQ.hp q).kept fun k hk hf => ho k fun e => (a.far h (List.mem_of_getElem? hi)).1 (e ▸ hf), q.heap, q.room, q.lo, q.hi⟩
theorem to_bad (a : d.At W) (hb : ¬ okAt d t) : Calls Try.prog 14 #[.pointer (some ⟨d.ab, 0, none⟩), .int .i64 t] W fun e w' => e = .returned (.tuple #[.slice none 0 0, .int .i64 1]) ∧ w' = W := by
  have A := ahead_all a t
  rw [decide_eq_false hb] at A
  have A := hide A
  clear a hb
  go_enter Try.func14, Try.ntmps14
  go_wp2_with (go_at_call 24; refine A.out.mono ?_; rintro e w' ⟨rfl, rfl⟩)
  exact bodyPost_ret (v := .tuple #[.slice none 0 0, .int .i64 1]) (by simp [results, Try.results14, go_sem]) rfl ⟨rfl, rfl⟩
/-- What To does. -/
structure ToR (W : World) (d : AD) (t : Int) (v : Value) (w' : World) (d' : AD) (rs : List Rg) : Prop where
  at' : d'.At w'
  stp : Stp W w' d.Foot (fun k => d'.Foot k ∨ v.ownBlock = some k)
  row : RRow W.heap.size w' v rs
  off : ∀ k, v.ownBlock = some k → ¬ d'.Foot k
  ab : d'.ab = d.ab
  now : d'.now = t
  len : d'.hs.length = d.hs.length
  has : ∀ c j u, Has d' c j u ↔ Has d c j u ∧ t < u
  rung : ∀ r : Rg, r ∈ rs ↔ Has d r.1 r.2.1 r.2.2 ∧ r.2.2 ≤ t
  nodup : rs.Nodup
  srt : Srt rs
def ToP (W : World) (d : AD) (t : Int) (e : Ending) (w' : World) : Prop := ∃ v d' rs, e = .returned (.tuple #[v, .int .i64 0]) ∧ ToR W d t v w' d' rs
theorem nil_own (k : Nat) : ¬ ((Value.slice none 0 0).ownBlock = some k) := by simp [Value.ownBlock]
theorem to_end {W1 w2 : World} {v : Value} {rs' : List Rg} (s1 : Stp W W1 d.Foot (AD.Foot { d with now := t })) (R : RS W1 wr { d with now := t } W.heap.size (.slice none 0 0) v d' rs) (T : TI d t d.hs.length d' rs) (p : rs'.Perm rs) (s : Srt rs') (r : RRow W.heap.size w2 v rs') (g : wr.grownBy w2 v.ownBlock) : ToR W d t v w2 d' rs' := by
  have R2 := R.app r g (.inl rfl)
  refine ⟨R2.at', ?_, R2.row, R2.off, T.ab, T.now, T.len, ?_, ?_, p.nodup_iff.2 T.nodup, s⟩
  · refine s1.trans ⟨R2.stp.os, R2.stp.tape, R2.stp.output, R2.stp.size, fun k hk hn => R2.stp.block k hk ?_, fun k hk => ?_⟩
    · rintro (e | e)
      · exact hn e
      · exact nil_own k e
    · rcases R2.stp.foot k hk with (e | e) | e
      · exact .inl e
      · exact absurd e (nil_own k)
      · exact .inr e
  · intro c j u
    rw [T.has]
    constructor
    · rintro ⟨e1, e2⟩
      have := (has_cpu e1).2
      exact ⟨e1, by omega⟩
    · rintro ⟨e1, e2⟩; exact ⟨e1, .inl e2⟩
  · intro x
    rw [p.mem_iff, T.rung]
    constructor
    · rintro ⟨e1, e2, _⟩; exact ⟨e1, e2⟩
    · rintro ⟨e1, e2⟩; exact ⟨e1, e2, (has_cpu e1).2⟩
set_option maxHeartbeats 1600000 in
set_option maxRecDepth 20000 in
theorem to_ok (a : d.At W) (hok : okAt d t) : Calls Try.prog 14 #[.pointer (some ⟨d.ab, 0, none⟩), .int .i64 t] W fun e w' => ToP W d t e w' := by
  have A := ahead_all a t
  rw [decide_eq_true hok] at A
  have A := hide A
  obtain ⟨a1, s1⟩ := a.tick (t := t) (by have := a.t0; have := hok.1; omega) hok.2
  have S1 := hide s1
  have A1 := hide a1
  have HD := hide (fun i h hi => (a.each i h hi).hp.ids)
  have HL := hide (fun i h hi => (a.each i h hi).len)
  have ST : Hid (RS (W.setCell ⟨d.ab, 0, none⟩ (.int .i64 t)) (W.setCell ⟨d.ab, 0, none⟩ (.int .i64 t)) { d with now := t } W.heap.size (.slice none 0 0) (.slice none 0 0) { d with now := t } []) := hide (RS.start a1 (RRow.nil _ _) (fun k e => absurd e (nil_own k)) (by simp))
  have TS : Hid (TI d t 0 { d with now := t } []) := hide (ti_start a)
  have c0 := a.c0
  have c1 := a.c1
  have c1' := a1.c1
  have f0 : W.frozen? ⟨d.ab, 0, none⟩ = false := by have := a.str; simp [World.frozen?, this]
  have hla := a.la
  have hhi := a.hi
  clear a a1 s1 hok
  go_enter Try.func14, Try.ntmps14
  go_wp2_with (go_at_call 24; refine A.out.mono ?_; rintro e w' ⟨rfl, hw⟩; have hw2 := hw.symm; clear hw; subst hw2)
  go_loopw [6, 21] (fun v i wr => ∃ k : Nat, k ≤ d.hs.length ∧ i = .int .i64 k ∧ ∃ d' rs', Hid (RS (W.setCell ⟨d.ab, 0, none⟩ (.int .i64 t)) wr { d with now := t } W.heap.size (.slice none 0 0) v d' rs') ∧ Hid (TI d t k d' rs')) (fun _ i _ => d.hs.length - (intOf i).toNat)
  case atStart => exact ⟨0, by omega, rfl, _, _, ST, TS⟩
  case round =>
    obtain ⟨k, hk, rfl, d', rs', R, T⟩ := hrel
    generalize u6 = v at *
    by_cases hkn : k < d.hs.length
    · have k1 : (k : Int) < (d.hs.length : Int) := by omega
      obtain ⟨h, hh⟩ : ∃ h, d.hs[k]? = some h := ⟨_, List.getElem?_eq_getElem hkn⟩
      have RG := ring_any R.out.at' ((T.out.rest k (Nat.le_refl _)).trans hh) R.out.row R.out.off R.out.hB (by have := T.out.few; omega)
      rw [T.out.ab] at RG
      have FIN : Hid (∀ e w2, RingP wr d' k h W.heap.size v rs' e w2 → ∃ v2, e = .returned v2 ∧ ∃ d2 rs2, Hid (RS (W.setCell ⟨d.ab, 0, none⟩ (.int .i64 t)) w2 { d with now := t } W.heap.size (.slice none 0 0) v2 d2 rs2) ∧ Hid (TI d t (k + 1) d2 rs2)) := hide (by
        rintro e w2 ⟨v2, h', ps, rfl, ⟨r1, r2, r3⟩, r4⟩
        rw [T.out.now] at r3 r4
        exact ⟨v2, rfl, _, _, hide (R.out.trans r1), hide (ti_step T.out hh (HD.out k h hh) (HL.out k h hh) r2 r3 r4)⟩)
      have RG := hide RG
      clear hh
      go_wp2_with (go_at_call 29; refine RG.out.mono ?_; intro e w2 hp; obtain ⟨v2, rfl, d2, rs2, R2, T2⟩ := FIN.out _ _ hp; clear hp)
      go_roundw
      case rel => exact ⟨k + 1, by omega, by go_num, d2, rs2, R2, T2⟩
      case measure => simp [intOf]; omega
    · obtain rfl : k = d.hs.length := by omega
      have SR := hide (sortR_any R.out.row (by have := T.out.few; omega))
      have FIN : Hid (∀ e w2, SortP W.heap.size wr v rs' e w2 → e = .returned (.tuple #[]) ∧ ToP W d t (.returned (.tuple #[v, .int .i64 0])) w2) := hide (by
        rintro e w2 ⟨rfl, rs2, p, s, r, g⟩
        exact ⟨rfl, v, d', rs2, rfl, to_end S1.out R.out T.out p s r g⟩)
      go_wp2_with (go_at_call 30; refine SR.out.mono ?_; intro e w2 hp; obtain ⟨rfl, hF⟩ := FIN.out _ _ hp; clear hp)
      exact bodyPost_ret (v := .tuple #[v, .int .i64 0]) (by simp [results, Try.results14, go_sem]) rfl hF
end
end Go.Proofs.Ytmdendffbjhdbaa.Con
