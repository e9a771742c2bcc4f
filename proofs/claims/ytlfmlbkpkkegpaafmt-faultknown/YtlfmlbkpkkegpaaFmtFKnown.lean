/- The walk of the law FaultKnown: it returns true. -/
import Derived.Test.YtlfmlbkpkkegpaaFmtFState
namespace Go.Proofs.YtlfmlbkpkkegpaaFmt.faultKnown
open Go.RowKit Go.Extern.Stop Go.Stop Go.Extern Go.Shelf Con
set_option linter.unusedVariables false

theorem who_lock : whoE (whoL lock [(runS, 7), (openS, -1), (lock, 3)]) = .returned (.tuple #[.int .i64 3, .bool true]) := by
  rw [show whoL lock [(runS, 7), (openS, -1), (lock, 3)] = some (lock, 3) from by decide +kernel]; rfl
theorem who_run : whoE (whoL runS [(runS, 7), (openS, -1), (lock, 3)]) = .returned (.tuple #[.int .i64 7, .bool true]) := by
  rw [show whoL runS [(runS, 7), (openS, -1), (lock, 3)] = some (runS, 7) from by decide +kernel]; rfl
theorem who_more : whoE (whoL moreS [(runS, 7), (openS, -1), (lock, 3)]) = .returned (.tuple #[.int .i64 0, .bool false]) := by
  rw [show whoL moreS [(runS, 7), (openS, -1), (lock, 3)] = none from by decide +kernel]; rfl

set_option maxRecDepth 100000 in
set_option maxHeartbeats 20000000 in
theorem walk (F : Interp) (w : World) (hF : F.answers w.tape) (hg : Laid w) (ht : Tab w) :
    Calls Tryf.prog 3 #[] w fun e w' => e = .returned (.bool true) ∧ Below w.heap.size w w' := by
  have HF := hide hF
  have HG := hide hg
  have HT := hide ht
  clear hF hg ht
  go_enter Tryf.func3, Tryf.ntmps3
  go_wp2_with fail
  refine (awake_any _ (unhide HG)).mono ?_
  rintro e w1 ⟨rfl, b1⟩
  have B1 := hide b1
  clear b1
  go_wp2_with fail
  refine (new_any lock 3 5 _ rfl).mono ?_
  rintro e w2 ⟨rfl, rfl⟩
  go_wp2_with fail
  refine (wrap_any openS (-1) _ _ _).mono ?_
  rintro e w3 ⟨rfl, rfl⟩
  go_wp2_with fail
  have b3 : Below w1.heap.size w1 (((w1.alloc (.cells #[.string lock, .int .i64 3, .iface 26 (.int .i64 5)] 36)).alloc (.cells #[.string openS, .int .i64 (-1), .iface 32 (.pointer (some ⟨w1.heap.size, 0, none⟩))] 36)).alloc (.cells #[.iface 32 (.pointer (some ⟨w1.heap.size + 1, 0, none⟩))] 20)) := (((Below.refl _ w1).alloc (Nat.le_refl _) _).alloc (by simp) _).alloc (by simp; omega) _
  have t3 : TwoAt (((w1.alloc (.cells #[.string lock, .int .i64 3, .iface 26 (.int .i64 5)] 36)).alloc (.cells #[.string openS, .int .i64 (-1), .iface 32 (.pointer (some ⟨w1.heap.size, 0, none⟩))] 36)).alloc (.cells #[.iface 32 (.pointer (some ⟨w1.heap.size + 1, 0, none⟩))] 20)) (w1.heap.size + 1) w1.heap.size := by
    refine ⟨?_, ?_, ?_, ?_, ?_, ?_, by simp, by simp; omega⟩
    · rw [World.cell?_alloc_lt _ _ ⟨w1.heap.size + 1, 0, none⟩ (by simp), World.cell?_alloc_at _ _ _ _ (by simp)]; rfl
    · rw [World.cell?_alloc_lt _ _ ⟨w1.heap.size + 1, 1, none⟩ (by simp), World.cell?_alloc_at _ _ _ _ (by simp)]; rfl
    · rw [World.cell?_alloc_lt _ _ ⟨w1.heap.size + 1, 2, none⟩ (by simp), World.cell?_alloc_at _ _ _ _ (by simp)]; rfl
    · rw [World.cell?_alloc_lt _ _ ⟨w1.heap.size, 0, none⟩ (by simp; omega), World.cell?_alloc_lt _ _ ⟨w1.heap.size, 0, none⟩ (by simp)]; simp
    · rw [World.cell?_alloc_lt _ _ ⟨w1.heap.size, 1, none⟩ (by simp; omega), World.cell?_alloc_lt _ _ ⟨w1.heap.size, 1, none⟩ (by simp)]; simp
    · rw [World.cell?_alloc_lt _ _ ⟨w1.heap.size, 2, none⟩ (by simp; omega), World.cell?_alloc_lt _ _ ⟨w1.heap.size, 2, none⟩ (by simp)]; simp
  have c3 : (((w1.alloc (.cells #[.string lock, .int .i64 3, .iface 26 (.int .i64 5)] 36)).alloc (.cells #[.string openS, .int .i64 (-1), .iface 32 (.pointer (some ⟨w1.heap.size, 0, none⟩))] 36)).alloc (.cells #[.iface 32 (.pointer (some ⟨w1.heap.size + 1, 0, none⟩))] 20)).cell? ⟨w1.heap.size + 1 + 1, 0, none⟩ = some (.iface 32 (.pointer (some ⟨w1.heap.size + 1, 0, none⟩))) := by
    rw [World.cell?_alloc_at _ _ _ _ (by simp)]; rfl
  generalize (((w1.alloc (.cells #[.string lock, .int .i64 3, .iface 26 (.int .i64 5)] 36)).alloc (.cells #[.string openS, .int .i64 (-1), .iface 32 (.pointer (some ⟨w1.heap.size, 0, none⟩))] 36)).alloc (.cells #[.iface 32 (.pointer (some ⟨w1.heap.size + 1, 0, none⟩))] 20)) = W3 at b3 t3 c3 ⊢
  have B3 := hide ((unhide B1).trans (b3.mono (unhide B1).size))
  clear b3 B1
  generalize w1.heap.size + 1 + 1 = blk at c3 ⊢
  generalize w1.heap.size + 1 = bo at t3 c3 ⊢
  generalize w1.heap.size = bl at t3 ⊢
  have T3 := hide t3
  have C3 := hide c3
  clear t3 c3
  refine (errorf_w F bo bl blk W3 (by rw [(unhide B3).tape]; exact unhide HF) ((unhide HG).below (unhide HG).pos (unhide B3)) ((unhide HT).below (unhide B3)) (unhide T3) (unhide C3)).mono ?_
  rintro e w4 ⟨w₃, t, hx, rfl, rfl⟩
  have d4 : Below W3.heap.size W3 (w₃.alloc (.cells #[.string t, .iface 32 (.pointer (some ⟨bo, 0, none⟩))] 133)).drew := (hx.alloc hx.size _).drew
  have e4 : (w₃.alloc (.cells #[.string t, .iface 32 (.pointer (some ⟨bo, 0, none⟩))] 133)).drew.cell? ⟨w₃.heap.size, 1, none⟩ = some (.iface 32 (.pointer (some ⟨bo, 0, none⟩))) := by simp
  have l4 : w₃.heap.size < (w₃.alloc (.cells #[.string t, .iface 32 (.pointer (some ⟨bo, 0, none⟩))] 133)).drew.heap.size := by simp
  generalize (w₃.alloc (.cells #[.string t, .iface 32 (.pointer (some ⟨bo, 0, none⟩))] 133)).drew = W4 at d4 e4 l4 ⊢
  generalize w₃.heap.size = bw at e4 l4 ⊢
  have B4 := hide ((unhide B3).trans (d4.mono (unhide B3).size))
  have T4 := hide ((unhide T3).below d4)
  have E4 := hide e4
  have L4 := hide l4
  clear d4 e4 l4 hx T3 C3 B3
  go_wp2_with fail
  refine (wrap_any runS 7 _ _ _).mono ?_
  rintro e w5 ⟨rfl, rfl⟩
  have d5 : Below W4.heap.size W4 (W4.alloc (.cells #[.string runS, .int .i64 7, .iface 52 (.pointer (some ⟨bw, 0, none⟩))] 36)) := (Below.refl _ W4).alloc (Nat.le_refl _) _
  have x5 : ∀ j v, (#[Value.string runS, .int .i64 7, .iface 52 (.pointer (some ⟨bw, 0, none⟩))] : Array Value)[j]? = some v → (W4.alloc (.cells #[.string runS, .int .i64 7, .iface 52 (.pointer (some ⟨bw, 0, none⟩))] 36)).cell? ⟨W4.heap.size, j, none⟩ = some v := fun j v h => by
    rw [World.cell?_alloc_at _ _ _ _ rfl]; exact h
  have l5 : W4.heap.size < (W4.alloc (.cells #[.string runS, .int .i64 7, .iface 52 (.pointer (some ⟨bw, 0, none⟩))] 36)).heap.size := by simp
  generalize W4.alloc (.cells #[.string runS, .int .i64 7, .iface 52 (.pointer (some ⟨bw, 0, none⟩))] 36) = W5 at d5 x5 l5 ⊢
  have B5 := hide ((unhide B4).trans (d5.mono (unhide B4).size))
  have T5 := hide ((unhide T4).below d5)
  have E5 := hide ((d5.cell (p := ⟨bw, 1, none⟩) (unhide L4)).trans (unhide E4))
  have LW5 := hide (Nat.lt_of_lt_of_le (unhide L4) d5.size)
  generalize W4.heap.size = bx at x5 l5 ⊢
  have X5 := hide x5
  have LX5 := hide l5
  clear d5 x5 l5 B4 T4 E4 L4
  go_wp2_with fail
  refine (errors_new _ _).mono ?_
  rintro e w6 ⟨rfl, rfl⟩
  go_wp2_with fail
  refine (wrap_any runS 7 _ _ _).mono ?_
  rintro e w7 ⟨rfl, rfl⟩
  rw [World.size_alloc]
  have d7 : Below W5.heap.size W5 ((W5.alloc (.cells #[.string ⟨#[111, 116, 104, 101, 114]⟩] 55)).alloc (.cells #[.string runS, .int .i64 7, .iface 53 (.pointer (some ⟨W5.heap.size, 0, none⟩))] 36)) := ((Below.refl _ W5).alloc (Nat.le_refl _) _).alloc (by simp) _
  have z7 : ∀ j v, (#[Value.string runS, .int .i64 7, .iface 53 (.pointer (some ⟨W5.heap.size, 0, none⟩))] : Array Value)[j]? = some v → ((W5.alloc (.cells #[.string ⟨#[111, 116, 104, 101, 114]⟩] 55)).alloc (.cells #[.string runS, .int .i64 7, .iface 53 (.pointer (some ⟨W5.heap.size, 0, none⟩))] 36)).cell? ⟨W5.heap.size + 1, j, none⟩ = some v := fun j v h => by
    rw [World.cell?_alloc_at _ _ _ _ (by simp)]; exact h
  have l7 : W5.heap.size + 1 < ((W5.alloc (.cells #[.string ⟨#[111, 116, 104, 101, 114]⟩] 55)).alloc (.cells #[.string runS, .int .i64 7, .iface 53 (.pointer (some ⟨W5.heap.size, 0, none⟩))] 36)).heap.size := by simp
  generalize (W5.alloc (.cells #[.string ⟨#[111, 116, 104, 101, 114]⟩] 55)).alloc (.cells #[.string runS, .int .i64 7, .iface 53 (.pointer (some ⟨W5.heap.size, 0, none⟩))] 36) = W7 at d7 z7 l7 ⊢
  have B7 := hide ((unhide B5).trans (d7.mono (unhide B5).size))
  generalize W5.heap.size + 1 = bz at z7 l7 ⊢
  generalize W5.heap.size = q at z7 ⊢
  have S7 := hide (show St W7 bl bo bw bx q bz from ⟨(unhide T5).below d7, (d7.cell (p := ⟨bw, 1, none⟩) (unhide LW5)).trans (unhide E5), Nat.lt_of_lt_of_le (unhide LW5) d7.size,
    (d7.cell (p := ⟨bx, 0, none⟩) (unhide LX5)).trans (unhide X5 0 _ rfl), (d7.cell (p := ⟨bx, 1, none⟩) (unhide LX5)).trans (unhide X5 1 _ rfl), (d7.cell (p := ⟨bx, 2, none⟩) (unhide LX5)).trans (unhide X5 2 _ rfl), Nat.lt_of_lt_of_le (unhide LX5) d7.size,
    z7 0 _ rfl, z7 1 _ rfl, z7 2 _ rfl, l7, (unhide HG).below (unhide HG).pos (unhide B7), (unhide HT).below (unhide B7)⟩)
  clear d7 z7 l7 T5 E5 LW5 LX5 X5 B5 HG HT HF
  go_wp2_with fail
  refine ((unhide S7).who lock).mono ?_
  rintro e W8 ⟨he, d8⟩
  rw [who_lock] at he
  subst he
  have B8 := hide ((unhide B7).trans (d8.mono (unhide B7).size))
  have S8 := hide ((unhide S7).below d8)
  clear d8 S7 B7
  go_wp2_with fail
  refine ((unhide S8).who runS).mono ?_
  rintro e W9 ⟨he, d9⟩
  rw [who_run] at he
  subst he
  have B9 := hide ((unhide B8).trans (d9.mono (unhide B8).size))
  have S9 := hide ((unhide S8).below d9)
  clear d9 S8 B8
  go_wp2_with fail
  refine ((unhide S9).who moreS).mono ?_
  rintro e W10 ⟨he, d10⟩
  rw [who_more] at he
  subst he
  have B10 := hide ((unhide B9).trans (d10.mono (unhide B9).size))
  have S10 := hide ((unhide S9).below d10)
  clear d10 S9 B9
  go_wp2_with fail
  have a10 : Below W10.heap.size W10 (W10.alloc (.cells #[.pointer none] 32)) := (Below.refl _ W10).alloc (Nat.le_refl _) _
  refine (as_fault1' bw ⟨bo, 0, none⟩ W10.heap.size (.pointer none) _ ((unhide S10).below a10).lw ((unhide S10).below a10).w1 ((unhide S10).below a10).laid (by simp) (by simp)).mono ?_
  rintro e W11 ⟨rfl, p11, _, d11⟩
  have S11 := hide ((unhide S10).below (a10.trans d11))
  have B11 := hide ((unhide B10).trans ((a10.trans d11).mono (unhide B10).size))
  have P11 := hide p11
  have LP := hide (show W10.heap.size < W11.heap.size from by have := d11.size; simp at this; omega)
  clear a10 p11 d11 S10 B10
  generalize W10.heap.size = pb at P11 LP ⊢
  have mE := methodErrorF
  have hs1 : saidO = [111, 112, 101, 110, 32, 45, 49, 58, 32, 108, 111, 99, 107, 32, 51, 58, 32, 101, 114, 114, 111, 114, 32, 53] := rfl
  have hs2 : openS.toList = [111, 112, 101, 110] := by decide +kernel
  have hs3 : saidA = [97, 32, 49, 58, 32, 111, 107] := rfl
  go_wp2_with fail
  have d12 : Below W11.heap.size W11 (W11.alloc (.cells #[.string ⟨#[97]⟩, .int .i64 1, .nilIface] 36)) := (Below.refl _ W11).alloc (Nat.le_refl _) _
  have F12 := hide (show Fin (W11.alloc (.cells #[.string ⟨#[97]⟩, .int .i64 1, .nilIface] 36)) bl bo bw bx q bz pb W11.heap.size from ⟨(unhide S11).below d12, (d12.cell (p := ⟨pb, 0, none⟩) (unhide LP)).trans (unhide P11), Nat.lt_of_lt_of_le (unhide LP) d12.size, by simp [nameA], by simp, by simp, by simp⟩)
  have B12 := hide ((unhide B11).trans (d12.mono (unhide B11).size))
  refine (new_ok nameA 1 _).mono ?_
  rintro e W12 ⟨rfl, rfl⟩
  generalize W11.alloc (.cells #[.string ⟨#[97]⟩, .int .i64 1, .nilIface] 36) = W12 at F12 B12 ⊢
  generalize W11.heap.size = be at F12 ⊢
  clear d12 S11 P11 LP B11
  go_wp2_with fail
  refine (wrap_nil nameA 1 _).mono ?_
  rintro e Wx ⟨rfl, rfl⟩
  go_wp2_with fail
  refine (error_open bo bl _ (unhide F12).s.laid (unhide F12).s.tab (unhide F12).s.two.g0 (unhide F12).s.two.g1 (unhide F12).s.two.g2 (unhide F12).s.two.h0 (unhide F12).s.two.h1 (unhide F12).s.two.h2).mono ?_
  rintro e W13 ⟨rfl, d⟩
  have F13 := hide ((unhide F12).below d)
  have B13 := hide ((unhide B12).trans (d.mono (unhide B12).size))
  clear d F12 B12
  go_wp2_with fail
  refine ((unhide F13).s.ops).mono ?_
  rintro e W14 ⟨g, cap, rfl, hgl, ⟨ga, gb, gc⟩, d⟩
  have F14 := hide ((unhide F13).below d)
  have B14 := hide ((unhide B13).trans (d.mono (unhide B13).size))
  have GL := hide (And.intro hgl (And.intro ga (And.intro gb gc)))
  clear d F13 B13 hgl ga gb gc
  go_wp2_with fail
  have dd : Below W14.heap.size W14 (W14.alloc (.cells #[.string runS, .string openS, .string lock] 9)) := (Below.refl _ W14).alloc (Nat.le_refl _) _
  refine (texts3 g cap W14.heap.size (W14.alloc (.cells #[.string runS, .string openS, .string lock] 9)) (Nat.lt_of_lt_of_le (unhide GL).1 dd.size) (by simp) ((dd.cell (p := ⟨g, 0, none⟩) (unhide GL).1).trans (unhide GL).2.1) ((dd.cell (p := ⟨g, 1, none⟩) (unhide GL).1).trans (unhide GL).2.2.1) ((dd.cell (p := ⟨g, 2, none⟩) (unhide GL).1).trans (unhide GL).2.2.2) (by simp) (by simp) (by simp)).mono ?_
  rintro e W15 ⟨rfl, d0⟩
  have d := dd.trans (d0.mono dd.size)
  have F15 := hide ((unhide F14).below d)
  have B15 := hide ((unhide B14).trans (d.mono (unhide B14).size))
  clear d d0 dd F14 B14 GL
  go_wp2_with fail
  refine (code_chain _ 5 _ _ (unhide F15).s.chain (unhide F15).s.laid).mono ?_
  rintro e W16 ⟨rfl, d⟩
  have F16 := hide ((unhide F15).below d)
  have B16 := hide ((unhide B15).trans (d.mono (unhide B15).size))
  clear d F15 B15
  go_wp2_with fail
  refine ((unhide F16).s.deep).mono ?_
  rintro e W17 ⟨rfl, d⟩
  have F17 := hide ((unhide F16).below d)
  have B17 := hide ((unhide B16).trans (d.mono (unhide B16).size))
  clear d F16 B16
  have kp := (unhide F17).p0
  have k0 := (unhide F17).s.two.g0
  have k1 := (unhide F17).s.two.g1
  go_wp2_with fail
  refine (is_chain _ 5 5 _ _ (unhide F17).s.chain).mono ?_
  rintro e Wx ⟨rfl, rfl⟩
  clear kp k0 k1
  go_wp2_with fail
  refine (is_chain _ 5 1 _ _ (unhide F17).s.chain).mono ?_
  rintro e Wx ⟨rfl, rfl⟩
  go_wp2_with fail
  refine (code_no _ ⟨q, 0, none⟩ _ _ (unhide F17).s.chainZ (unhide F17).s.laid).mono ?_
  rintro e W18 ⟨rfl, d⟩
  have F18 := hide ((unhide F17).below d)
  have B18 := hide ((unhide B17).trans (d.mono (unhide B17).size))
  clear d F17 B17
  go_wp2_with fail
  refine (code_nil _).mono ?_
  rintro e W19 ⟨rfl, d⟩
  have F19 := hide ((unhide F18).below d)
  have B19 := hide ((unhide B18).trans (d.mono (unhide B18).size))
  clear d F18 B18
  go_wp2_with fail
  refine (code_no [] ⟨q, 0, none⟩ _ _ (Chain.bare _ _) (unhide F19).s.laid).mono ?_
  rintro e W20 ⟨rfl, d⟩
  have F20 := hide ((unhide F19).below d)
  have B20 := hide ((unhide B19).trans (d.mono (unhide B19).size))
  clear d F19 B19
  go_wp2_with fail
  refine (code_chain [] 3 _ _ (Chain.bare _ _) (unhide F20).s.laid).mono ?_
  rintro e W21 ⟨rfl, d⟩
  have F21 := hide ((unhide F20).below d)
  have B21 := hide ((unhide B20).trans (d.mono (unhide B20).size))
  clear d F20 B20
  go_wp2_with fail
  refine (deep_nil _ (unhide F21).s.laid).mono ?_
  rintro e W22 ⟨rfl, d⟩
  have F22 := hide ((unhide F21).below d)
  have B22 := hide ((unhide B21).trans (d.mono (unhide B21).size))
  clear d F21 B21
  go_wp2_with fail
  refine ((unhide F22).s.opsOther).mono ?_
  rintro e W23 ⟨ao, cap2, rfl, d⟩
  have F23 := hide ((unhide F22).below d)
  have B23 := hide ((unhide B22).trans (d.mono (unhide B22).size))
  clear d F22 B22
  go_wp2_with fail
  refine (error_empty be _ (unhide F23).e0 (unhide F23).e1 (unhide F23).e2).mono ?_
  rintro e W24 ⟨rfl, d⟩
  have F24 := hide ((unhide F23).below d)
  have B24 := hide ((unhide B23).trans (d.mono (unhide B23).size))
  clear d F23 B23
  go_wp2_with fail
  refine (funwrap_any be _ _ (unhide F24).e2).mono ?_
  rintro e Wx ⟨rfl, rfl⟩
  go_wp2_with fail
  refine (is_other bz ⟨q, 0, none⟩ _ (unhide F24).s.z2).mono ?_
  rintro e Wx ⟨rfl, rfl⟩
  go_wp2
  go_ret
  exact ⟨rfl, unhide B24⟩
end Go.Proofs.YtlfmlbkpkkegpaaFmt.faultKnown
