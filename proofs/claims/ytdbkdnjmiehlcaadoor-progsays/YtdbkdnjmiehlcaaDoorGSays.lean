/- ProgSays' walk. (Written by mkGSays.py.) -/
import Derived.Test.YtdbkdnjmiehlcaaDoorGRp
import Derived.Test.YtdbkdnjmiehlcaaDoorGJoins
namespace Go.Proofs.YtdbkdnjmiehlcaaDoor.Con
open Go.RowKit Go.Proofs.YtdbkdnjmiehlcaaDoor.Pm
set_option linter.unusedVariables false
set_option linter.unusedSimpArgs false
/-- What was read, in one world: the answer's steps, whether it was one. -/
def Rd (W : World) (R : Option (List St)) (e : Ending) (w' : World) : Prop :=
  ∃ v q b, e = .returned (.tuple #[v, .bool b]) ∧ Hid (Sl w' v q ∧ R = (if b = true then some q else none) ∧ (b = false → q = []) ∧ Below W.heap.size W w')
theorem Rd.of {W : World} {R : Option (List St)} {e : Ending} {w' : World} (h : ParsePost W R e w') : Rd W R e w' := by
  obtain ⟨v, q, b, h1, h2, h3, h4, h5⟩ := h
  exact ⟨v, q, b, h1, hide ⟨h2, h3, h4, h5⟩⟩
theorem rd_same {R : Option (List St)} {q q' : List St} {b b' : Bool} (h : R = (if b = true then some q else none)) (h' : R = (if b' = true then some q' else none)) (hq : b = false → q = []) (hq' : b' = false → q' = []) : b' = b ∧ q' = q := by
  rw [h] at h'
  cases b with
  | true =>
    cases b' with
    | true => simp at h'; exact ⟨rfl, h'.symm⟩
    | false => simp at h'
  | false =>
    cases b' with
    | true => simp at h'
    | false => exact ⟨rfl, by rw [hq rfl, hq' rfl]⟩
theorem rd_len {t : List UInt8} {q : List St} {b : Bool} (h : parse t = (if b = true then some q else none)) (hq : b = false → q = []) : q.length ≤ 1000 := by
  cases b with
  | false => rw [hq rfl]; simp
  | true =>
    have := (good_len ((parse_iff t q).1 (by simpa using h)).1).2
    omega
set_option maxHeartbeats 8000000 in
theorem says_walk {W : World} {v : Value} {L : List St} (h : Sl W v L) (s : ByteArray) (sp : Option Addr) (m sc : Nat) (hmc : m ≤ maxLen) (hT : Tab W) :
    Calls Tryd.prog 4 #[v, .string s, .slice sp m sc] W fun e w' => e = .returned (.bool true) ∧ Below W.heap.size W w' := by
  obtain ⟨p, cap, rfl, hn, hm⟩ := h.form
  have HA := hide (awake_any W hT)
  have H := hide h
  have T := hide hT
  clear h hT
  by_cases h20 : 20 < L.length
  · have h20' : 20 < (L.length : Int) := by omega
    go_enter Tryd.func4, Tryd.ntmps4
    go_wp2_with fail
    refine HA.out.mono ?_
    rintro e w1 ⟨rfl, hb⟩
    have B1 := hide hb
    clear hb
    go_wp2
    go_ret
    exact ⟨rfl, B1.out⟩
  · have h20' : ¬ 20 < (L.length : Int) := by omega
    by_cases h200 : 200 < s.size
    · have h200' : 200 < (s.size : Int) := by omega
      go_enter Tryd.func4, Tryd.ntmps4
      go_wp2_with fail
      refine HA.out.mono ?_
      rintro e w1 ⟨rfl, hb⟩
      have B1 := hide hb
      clear hb
      go_wp2
      go_ret
      exact ⟨rfl, B1.out⟩
    · have h200' : ¬ 200 < (s.size : Int) := by omega
      by_cases hm20 : 20 < m
      · have hm20' : 20 < (m : Int) := by omega
        go_enter Tryd.func4, Tryd.ntmps4
        go_wp2_with fail
        refine HA.out.mono ?_
        rintro e w1 ⟨rfl, hb⟩
        have B1 := hide hb
        clear hb
        go_wp2
        go_ret
        exact ⟨rfl, B1.out⟩
      · have hm20' : ¬ 20 < (m : Int) := by omega
        have hl : L.length ≤ 1000 := by omega
        have hs6 : s.data.toList.length < 1000000 := by
          have : s.data.toList.length = s.size := Array.length_toList
          omega
        have hPa : Hid (∀ w, Calls Tryd.prog 9 #[.string s] w fun e w' => Rd w (parse s.data.toList) e w') := hide (fun w => (parse_any s.data.toList hs6 w).mono (fun _ _ h => Rd.of h))
        have hPb : Hid (∀ w, Calls Tryd.prog 16 #[.string s] w fun e w' => Rd w (parse s.data.toList) e w') := hide (fun w => (rparse_any s.data.toList hs6 w).mono (fun _ _ h => by rw [rparse_eq] at h; exact Rd.of h))
        have hQl : Hid (∀ q b, parse s.data.toList = (if b = true then some q else none) → (b = false → q = []) → q.length ≤ 1000) := hide (fun q b h hq => rd_len h hq)
        generalize parse s.data.toList = R at *
        go_enter Tryd.func4, Tryd.ntmps4
        go_wp2_with fail
        refine HA.out.mono ?_
        rintro e w1 ⟨rfl, hb⟩
        have H1 := hide (H.out.below hb)
        have T1 := hide (T.out.on hb)
        have B1 := hide hb
        clear hb H T
        go_wp2_with fail
        refine (own_at H1.out hl).mono ?_
        rintro e w2 ⟨v2, rfl, HS⟩
        have O2 := hide HS.out.1
        have H2 := hide (H1.out.below HS.out.2)
        have T2 := hide (T1.out.on HS.out.2)
        have B2 := hide (Nx.trans B1.out HS.out.2)
        clear HS H1 T1 B1
        go_wp2_with fail
        refine (hPa.out _).mono ?_
        rintro e w3 ⟨va, q, ok, rfl, HS⟩
        have A3 := hide HS.out.1
        have QA := hide HS.out.2.1
        have QN := hide HS.out.2.2.1
        have O3 := hide (O2.out.below HS.out.2.2.2)
        have H3 := hide (H2.out.below HS.out.2.2.2)
        have T3 := hide (T2.out.on HS.out.2.2.2)
        have B3 := hide (Nx.trans B2.out HS.out.2.2.2)
        clear HS O2 H2 T2 B2
        go_wp2_with fail
        refine (hPb.out _).mono ?_
        rintro e w4 ⟨vb, q', yes, rfl, HS⟩
        obtain ⟨rfl, rfl⟩ := rd_same QA.out HS.out.2.1 QN.out HS.out.2.2.1
        have hql := hQl.out _ _ QA.out QN.out
        have A4 := hide (A3.out.below HS.out.2.2.2)
        have D4 := hide HS.out.1
        have O4 := hide (O3.out.below HS.out.2.2.2)
        have H4 := hide (H3.out.below HS.out.2.2.2)
        have T4 := hide (T3.out.on HS.out.2.2.2)
        have B4 := hide (Nx.trans B3.out HS.out.2.2.2)
        clear HS O3 H3 T3 B3 A3 QA QN hQl hPa hPb
        go_wp2_with fail
        refine (good_any H4.out).mono ?_
        rintro e w5 ⟨rfl, hb⟩
        have A5 := hide (A4.out.below hb)
        have D5 := hide (D4.out.below hb)
        have O5 := hide (O4.out.below hb)
        have H5 := hide (H4.out.below hb)
        have T5 := hide (T4.out.on hb)
        have B5 := hide (Nx.trans B4.out hb)
        clear hb
        go_wp2_with fail
        refine (rgood_any O5.out hl).mono ?_
        rintro e wq ⟨rfl, hwq⟩
        have hwq2 := hwq.symm; clear hwq; subst hwq2
        generalize good L = g at *
        go_wp2_with fail
        refine (total_any H5.out).mono ?_
        rintro e w6 ⟨rfl, hb⟩
        have A6 := hide (A5.out.below hb)
        have D6 := hide (D5.out.below hb)
        have O6 := hide (O5.out.below hb)
        have H6 := hide (H5.out.below hb)
        have T6 := hide (T5.out.on hb)
        have B6 := hide (Nx.trans B5.out hb)
        clear hb
        go_wp2_with fail
        refine (rtotal_any O6.out hl).mono ?_
        rintro e wq ⟨rfl, hwq⟩
        have hwq2 := hwq.symm; clear hwq; subst hwq2
        generalize total L = tl at *
        go_wp2_with fail
        refine (holds_any H6.out).mono ?_
        rintro e w7 ⟨rfl, hb⟩
        have A7 := hide (A6.out.below hb)
        have D7 := hide (D6.out.below hb)
        have O7 := hide (O6.out.below hb)
        have H7 := hide (H6.out.below hb)
        have T7 := hide (T6.out.on hb)
        have B7 := hide (Nx.trans B6.out hb)
        clear hb
        go_wp2_with fail
        refine (rholds_any O7.out hl).mono ?_
        rintro e wq ⟨rfl, hwq⟩
        have hwq2 := hwq.symm; clear hwq; subst hwq2
        generalize holds L = hh at *
        go_wp2_with fail
        refine (text_any H7.out T7.out).mono ?_
        rintro e w8 ⟨rfl, hb⟩
        have A8 := hide (A7.out.below hb)
        have D8 := hide (D7.out.below hb)
        have O8 := hide (O7.out.below hb)
        have H8 := hide (H7.out.below hb)
        have T8 := hide (T7.out.on hb)
        have B8 := hide (Nx.trans B7.out hb)
        clear hb
        go_wp2_with fail
        refine (rtext_any O8.out hl).mono ?_
        rintro e w9 ⟨rfl, hb⟩
        have A9 := hide (A8.out.below hb)
        have D9 := hide (D8.out.below hb)
        have O9 := hide (O8.out.below hb)
        have H9 := hide (H8.out.below hb)
        have T9 := hide (T8.out.on hb)
        have B9 := hide (Nx.trans B8.out hb)
        clear hb
        generalize text L = x at *
        go_wp2_with fail
        refine (same_any A9.out D9.out hql).mono ?_
        rintro e w10 ⟨rfl, hb⟩
        rw [show decide (q' = q') = true by simp]
        have A10 := hide (A9.out.below hb)
        have D10 := hide (D9.out.below hb)
        have O10 := hide (O9.out.below hb)
        have H10 := hide (H9.out.below hb)
        have T10 := hide (T9.out.on hb)
        have B10 := hide (Nx.trans B9.out hb)
        clear hb
        go_wp2_with fail
        refine (fits_any H10.out sp m sc hmc).mono ?_
        rintro e w11 ⟨rfl, hb⟩
        have A11 := hide (A10.out.below hb)
        have D11 := hide (D10.out.below hb)
        have O11 := hide (O10.out.below hb)
        have H11 := hide (H10.out.below hb)
        have T11 := hide (T10.out.on hb)
        have B11 := hide (Nx.trans B10.out hb)
        clear hb
        go_wp2_with fail
        refine (rfits_any O11.out hl m).mono ?_
        rintro e wq ⟨rfl, hwq⟩
        have hwq2 := hwq.symm; clear hwq; subst hwq2
        generalize fits L m = ff at *
        go_wp2
        go_ret
        exact ⟨by simp, B11.out⟩
end Go.Proofs.YtdbkdnjmiehlcaaDoor.Con
