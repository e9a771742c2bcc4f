/- The walk of the law FaultDeep: at a list of one to twenty Ops and a number from 1 to 13 it returns true. -/
import Derived.Test.YtlfmlbkpkkegpaaDoorCards
import Derived.Test.YtlfmlbkpkkegpaaDoorTie
import Derived.Test.YtlfmlbkpkkegpaaDoorRow
import Derived.Test.YtlfmlbkpkkegpaaDoorDeep
import Derived.Test.YtlfmlbkpkkegpaaDoorOps
import Derived.Test.YtlfmlbkpkkegpaaDoorWho
import Derived.Test.YtlfmlbkpkkegpaaDoorTexts
import Derived.Lib.QuietBelow
import Derived.BigQuiet
import Derived.Deep.Strs
namespace Go.Proofs.YtlfmlbkpkkegpaaDoor.faultDeep
open Go.ChangeShapes Go.WideShapes Go.ChangeAt Go.RowKit Go.ChangeMaps Con Go.Stop Go.Sort Go.BigFrame
set_option linter.unusedVariables false

/-- The Faults behind k rounds, the outermost first. -/
def Lk (S : Nat → ByteArray) : Nat → List (ByteArray × Int)
  | 0 => []
  | k + 1 => (S k, (k : Int)) :: Lk S k
theorem Lk_len (S : Nat → ByteArray) : ∀ k, (Lk S k).length = k
  | 0 => rfl
  | k + 1 => by simp [Lk, Lk_len S k]
theorem Lk_get (S : Nat → ByteArray) : ∀ k j, j < k → (Lk S k)[j]? = some (S (k - 1 - j), ((k - 1 - j : Nat) : Int))
  | 0, j, h => absurd h (Nat.not_lt_zero _)
  | k + 1, 0, _ => by simp [Lk]
  | k + 1, j + 1, h => by
    have := Lk_get S k j (by omega)
    simp only [Lk, List.getElem?_cons_succ, this]
    rw [show k + 1 - 1 - (j + 1) = k - 1 - j from by omega]

/-- Ops at a chain that is not bare. -/
theorem ops_chain (l0 : List (ByteArray × Int)) (c : Int) (v0 : Value) (w : World) (h0 : Chain w c l0 v0) (hg : Laid w) (hlen : l0.length < 1000000) (hne : l0 ≠ []) :
    Calls Tryd.prog 14 #[v0] w fun e W' => ∃ g cap : Nat, e = .returned (.slice (some ⟨g, 0, none⟩) l0.length cap) ∧ l0.length ≤ cap ∧ cap ≤ 9223372036854775807 ∧ g < W'.heap.size ∧ (∀ j x, l0[j]? = some x → W'.cell? ⟨g, j, none⟩ = some (.string x.1)) ∧ Below w.heap.size w W' := by
  obtain ⟨t0, u0, rfl⟩ := h0.iface
  obtain ⟨xs, rfl, hx⟩ := h0.toX
  refine (ops_x c t0 u0 w xs hx hg (by simpa using hlen)).mono ?_
  rintro e W' ⟨v, rfl, hown, hb⟩
  rw [List.length_map]
  have hown0 := hown
  rcases hown.2 with ⟨_, hz⟩ | ⟨g, cap, cur, rfl, hbg, hgb, hnc, hcm, hcs, htk⟩
  · exact absurd (by cases xs <;> simp_all) hne
  · refine ⟨g, cap, rfl, hnc, (by unfold maxLen at hcm; omega), (Array.getElem?_eq_some_iff.1 hgb).1, fun j x hj => ?_, hb⟩
    have hj' : (opsV xs)[j]? = some (.string x.1) := by
      rw [List.getElem?_map] at hj
      unfold opsV
      rw [List.getElem?_map]
      cases hxj : xs[j]? with
      | none => rw [hxj] at hj; simp at hj
      | some y => rw [hxj] at hj; simp [nm] at hj; simp [hj]
    have := hown0.cells (g := g) rfl j _ hj'
    rwa [show (⟨g, 0, none⟩ : Addr).add j = ⟨g, j, none⟩ from by by_cases h : j = 0 <;> simp [Addr.add, h]] at this

theorem ops_Lk (S : Nat → ByteArray) (k : Nat) (c : Int) (v0 : Value) (w : World) (h0 : Chain w c (Lk S k) v0) (hg : Laid w) (hk : 1 ≤ k) (hk2 : k ≤ 21) :
    Calls Tryd.prog 14 #[v0] w fun e W' => ∃ g cap : Nat, e = .returned (.slice (some ⟨g, 0, none⟩) k cap) ∧ k ≤ cap ∧ cap ≤ 9223372036854775807 ∧ g < W'.heap.size ∧ (∀ j, j < k → W'.cell? ⟨g, j, none⟩ = some (.string (S (k - 1 - j)))) ∧ Below w.heap.size w W' := by
  refine (ops_chain (Lk S k) c v0 w h0 hg (by rw [Lk_len]; omega) (by cases k <;> simp_all [Lk])).mono ?_
  rintro e W' ⟨g, cap, rfl, h1, h2, h3, h4, h5⟩
  rw [Lk_len] at h1
  exact ⟨g, cap, by rw [Lk_len], h1, h2, h3, fun j hj => h4 j _ (Lk_get S k j hj), h5⟩

set_option maxRecDepth 100000 in
set_option maxHeartbeats 8000000 in
theorem walk_in (b off n cap : Nat) (S : Nat → ByteArray) (code : Int) (w : World) (hg : Laid w) (h1 : 1 ≤ n) (h2 : n ≤ 20) (h3 : 1 ≤ code) (h4 : code ≤ 13) (hb : b < w.heap.size)
    (hcell : ∀ j, j < n → w.cell? ⟨b, off + j, none⟩ = some (.string (S j))) :
    Calls Tryd.prog 5 #[.slice (some ⟨b, off, none⟩) n cap, .int .i64 code] w fun e w' => e = .returned (.bool true) ∧ Below w.heap.size w w' := by
  have hz : (code == 0) = false := beq_eq_false_iff_ne.2 (by omega)
  have HG := hide hg
  have HC := hide hcell
  clear hg hcell
  go_enter Tryd.func5, Tryd.ntmps5
  go_wp2_with fail
  refine (awake_any _ (unhide HG)).mono ?_
  rintro e w1 ⟨rfl, b1⟩
  have c0 : w1.cell? ⟨b, off, none⟩ = some (.string (S 0)) := (b1.cell (p := ⟨b, off, none⟩) hb).trans (unhide HC 0 (by omega))
  have G1 := hide ((unhide HG).below (unhide HG).pos b1)
  have B1 := hide b1
  clear b1
  go_wp2_with fail
  refine (new_any (S 0) 0 code _ hz).mono ?_
  rintro e w2 ⟨rfl, rfl⟩
  have C2 := hide ((Chain.bare w1 code).cons (S 0) 0)
  have b2 : Below w1.heap.size w1 (w1.alloc (.cells #[.string (S 0), .int .i64 0, .iface 26 (.int .i64 code)] 33)) := (Below.refl _ w1).alloc (Nat.le_refl _) _
  have B2 := hide ((unhide B1).trans (b2.mono (unhide B1).size))
  clear b2 B1 G1 c0
  go_wp2_with fail
  go_loopw [5, 6] (fun ve vi wr => ∃ (k : Nat) (te : TypeId) (ue : Value), 1 ≤ k ∧ k ≤ n ∧ vi = .int .i64 k ∧ ve = .iface te ue ∧ Chain wr code (Lk S k) (.iface te ue) ∧ Below w.heap.size w wr) (fun ve vi wr => n - (intOf vi).toNat)
  case atStart => exact ⟨1, _, _, by omega, h1, rfl, rfl, unhide C2, unhide B2⟩
  case round =>
    obtain ⟨k, te, ue, hk1, hkn, rfl, rfl, hch, hB⟩ := hrel
    by_cases hlt : k < n
    · have CH := hide hch
      have BB := hide hB
      have ck : wr.cell? ⟨b, off + k, none⟩ = some (.string (S k)) := (hB.cell (p := ⟨b, off + k, none⟩) hb).trans (unhide HC k hlt)
      have ikn : (k : Int) < (n : Int) := by omega
      clear hch hB C2 B2
      go_wp2_with fail
      refine (wrap_any (S k) k te ue _).mono ?_
      rintro e wx ⟨rfl, rfl⟩
      have d1 : Below wr.heap.size wr (wr.alloc (.cells #[.string (S k), .int .i64 k, .iface te ue] 33)) := (Below.refl _ wr).alloc (Nat.le_refl _) _
      have CW := hide ((unhide CH).cons (S k) k)
      have CE := hide ((unhide CH).below d1)
      have BW := hide ((unhide BB).trans (d1.mono (unhide BB).size))
      generalize wr.alloc (.cells #[.string (S k), .int .i64 k, .iface te ue] 33) = W1 at CW CE BW ⊢
      generalize wr.heap.size = bw at CW ⊢
      have GW := hide ((unhide HG).below (unhide HG).pos (unhide BW))
      clear d1 CH BB ck
      go_wp2_with fail
      refine (ops_Lk S (k + 1) code _ _ (unhide CW) (unhide GW) (by omega) (by omega)).mono ?_
      rintro e W2 ⟨gl, cl, rfl, hcl, hcl2, hgl, hlc, d2⟩
      have LC := hide hlc
      have D2 := hide d2
      clear hlc d2
      go_wp2_with fail
      refine (ops_Lk S k code _ _ ((unhide CE).below (unhide D2)) ((unhide GW).below (unhide GW).pos (unhide D2)) hk1 (by omega)).mono ?_
      rintro e W3 ⟨gm, cm, rfl, hcm, hcm2, hgm, hmc, d3⟩
      have MC := hide hmc
      have D3 := hide ((unhide D2).trans (d3.mono (unhide D2).size))
      have ck3 : W3.cell? ⟨b, off + k, none⟩ = some (.string (S k)) := (((unhide BW).trans ((unhide D3).mono (unhide BW).size)).cell (p := ⟨b, off + k, none⟩) hb).trans (unhide HC k hlt)
      have LC3 := hide (fun j (hj : j < k + 1) => (d3.cell (p := ⟨gl, j, none⟩) hgl).trans (unhide LC j hj))
      have hgl3 : gl < W3.heap.size := Nat.lt_of_lt_of_le hgl d3.size
      clear hmc d3 LC D2 hgl
      go_wp2_with fail
      refine (who_chain (Lk S (k + 1)) code _ (S k) _ ((unhide CW).below (unhide D3)) ((unhide GW).below (unhide GW).pos (unhide D3))).mono ?_
      rintro e W4 ⟨he, d4⟩
      rw [show whoE (whoL (S k) (Lk S (k + 1))) = .returned (.tuple #[.int .i64 k, .bool true]) from by simp [whoE, whoL, Lk]] at he
      subst he
      have D4 := hide ((unhide D3).trans (d4.mono (unhide D3).size))
      have C4 := hide ((unhide CW).below (unhide D4))
      have E4 := hide ((unhide CE).below (unhide D4))
      have G4 := hide ((unhide GW).below (unhide GW).pos (unhide D4))
      have B4 := hide ((unhide BW).trans ((unhide D4).mono (unhide BW).size))
      have LC4 := hide (fun j (hj : j < k + 1) => (d4.cell (p := ⟨gl, j, none⟩) hgl3).trans (unhide LC3 j hj))
      have MC4 := hide (fun j (hj : j < k) => (d4.cell (p := ⟨gm, j, none⟩) hgm).trans (unhide MC j hj))
      have hgl4 : gl < W4.heap.size := Nat.lt_of_lt_of_le hgl3 d4.size
      have hgm4 : gm < W4.heap.size := Nat.lt_of_lt_of_le hgm d4.size
      have hb4 : b < W4.heap.size := Nat.lt_of_lt_of_le hb (unhide B4).size
      have hD1 : ∀ d os, Calls Tryd.prog 11 #[.iface 28 (.pointer (some ⟨bw, 0, none⟩))] (grow (redrawn W4 d) os) fun e W' => e = .returned (.int .i64 ((k : Int) + 1)) ∧ ∃ p : Regrown, W' = grow (redrawn W4 p.d) p.os := fun d os =>
        have hW := below_regrown W4 d os
        (deep_chain (Lk S (k + 1)) code _ _ ((unhide C4).below hW) ((unhide G4).below (unhide G4).pos hW) (by rw [Lk_len]; omega)).mono (by rintro e W' ⟨rfl, h⟩; exact ⟨by rw [Lk_len]; simp, regrown_of_below (hW.trans (h.mono hW.size))⟩)
      have hD2 : ∀ d os, Calls Tryd.prog 11 #[.iface te ue] (grow (redrawn W4 d) os) fun e W' => e = .returned (.int .i64 (k : Int)) ∧ ∃ p : Regrown, W' = grow (redrawn W4 p.d) p.os := fun d os =>
        have hW := below_regrown W4 d os
        (deep_chain (Lk S k) code _ _ ((unhide E4).below hW) ((unhide G4).below (unhide G4).pos hW) (by rw [Lk_len]; omega)).mono (by rintro e W' ⟨rfl, h⟩; exact ⟨by rw [Lk_len], regrown_of_below (hW.trans (h.mono hW.size))⟩)
      have hCo : ∀ d os, Calls Tryd.prog 13 #[.iface 28 (.pointer (some ⟨bw, 0, none⟩))] (grow (redrawn W4 d) os) fun e W' => e = .returned (.int .i64 code) ∧ ∃ p : Regrown, W' = grow (redrawn W4 p.d) p.os := fun d os =>
        have hW := below_regrown W4 d os
        (code_chain (Lk S (k + 1)) code _ _ ((unhide C4).below hW) ((unhide G4).below (unhide G4).pos hW)).mono (by rintro e W' ⟨rfl, h⟩; exact ⟨rfl, regrown_of_below (hW.trans (h.mono hW.size))⟩)
      have kA := cell_regrown (unhide LC4 0 (by omega))
      have kB := cell_regrown (((unhide B4).cell (p := ⟨b, off + k, none⟩) hb).trans (unhide HC k hlt))
      have hT : ∀ d os c1, Calls Tryd.prog 16 #[.slice (some ⟨gl, 1, none⟩) k c1, .slice (some ⟨gm, 0, none⟩) k cm] (grow (redrawn W4 d) os) fun e W' => e = .returned (.bool true) ∧ ∃ p : Regrown, W' = grow (redrawn W4 p.d) p.os := fun d os c1 =>
        have hW := below_regrown W4 d os
        (texts_same gl 1 c1 gm 0 cm k (fun j => S (k - 1 - j)) _ (by omega) (Nat.lt_of_lt_of_le hgl4 hW.size) (Nat.lt_of_lt_of_le hgm4 hW.size)
          (fun j hj => (hW.cell (p := ⟨gl, 1 + j, none⟩) hgl4).trans (by have := unhide LC4 (1 + j) (by omega); rwa [show k + 1 - 1 - (1 + j) = k - 1 - j from by omega] at this))
          (fun j hj => (hW.cell (p := ⟨gm, 0 + j, none⟩) hgm4).trans (by have := unhide MC4 j hj; rwa [show 0 + j = j from by omega]))).mono (by rintro e W' ⟨rfl, h⟩; exact ⟨rfl, regrown_of_below (hW.trans (h.mono hW.size))⟩)
      have hki : (k : Int) ≤ 20 := by omega
      have hk1i : (1 : Int) ≤ (k : Int) := by omega
      clear CW CE BW GW LC3 MC ck3 D3 D4 d4 hgl3 hgm LC4 MC4 E4 G4 hgl4 hgm4 hb4
      go_wp2_with fail
      refine wp_region_quiet_below (by kernel_rfl) (by kernel_rfl) ?_
      repeat (go_big_quiet_step (first | exact hD1 _ _ | exact hD2 _ _ | exact hCo _ _ | exact hT _ _ _))
      refine wpQuiet_nil ?_
      intro _ hw'
      obtain ⟨⟨dq, osq⟩, hw''⟩ := hw'
      subst hw''
      clear hD1 hD2 hCo hT kA kB
      go_wp2_with fail
      have hW := below_regrown W4 dq osq
      exact ⟨⟨k + 1, _, _, by omega, by omega, by go_num, rfl, (unhide C4).below hW, (unhide B4).trans (hW.mono (unhide B4).size)⟩, by simp [intOf]; omega⟩
    · clear C2 B2 hch
      go_wp2
      go_ret
      exact ⟨rfl, hB⟩
end Go.Proofs.YtlfmlbkpkkegpaaDoor.faultDeep
