/- The last region of MaskSays, the arm 'Neg'. -/
import Derived.Test.YtpibejjhldnplaaDoorMLex
namespace Go.Proofs.YtpibejjhldnplaaDoor.Con
open Go.RowKit Go.Proofs.YtpibejjhldnplaaDoor.Mk
set_option linter.unusedVariables false

set_option maxRecDepth 100000 in
set_option maxHeartbeats 8000000 in
theorem finNeg {x3 x4 x5 x6 x11 x15 x28 x29 x30 x31 x32 x33 x34 x35 x36 x37 x38 x39 x40 x41 x42 x43 x44 x45 x46 x47 x48 x49 x50 x51 x52 x53 x54 x55 x56 x57 x58 x59 x60 x61 x62 x63 x64 x65 x66 x67 x68 x69 x70 x71 x72 x73 x74 x75 x76 x77 x78 x79 x80 x81 x82 x83 x84 x85 x86 x87 x88 x89 x90 x91 x92 x93 x94 x95 x96 x97 x98 x99 x100 x101 x102 x103 x104 x105 x106 x107 x108 x109 x110 x111 x112 x113 x114 x115 x116 x117 x118 x119 x120 x121 x122 x123 x124 x125 x126 x127 x128 x129 x130 x131 x132 x133 x134 x135 x136 x137 x138 x139 x140 x141 x142 x143 x144 x145 x146 x147 x148 x149 x150 x151 x152 x153 x154 x155 x156 x157 x158 x159 x160 x161 x162 x163 x164 x165 x166 x167 x168 x169 x170 x171 x172 x173 x174 x175 x176 x177 x178 x179 x180 x181 x182 x183 x184 x185 x186 x187 x188 x189 x190 x191 x192 x193 x194 x195 x196 x197 x198 x199 x200 x201 x202 x203 x204 x205 x206 x207 x208 x209 x210 x211 x212 x213 x214 x215 x216 x217 x218 x219 x220 x221 x222 x223 x224 x225 x226 x227 x228 x229 x230 x231 x232 x233 x234 x235 : Value} {m : Nat} (i : Int) (hi : i < 0) {pa p : Option Addr} {ca c : Nat} {zs : List Int} {f rk nt ar : Nat} {b ni ab : Bool} {gs go g1 g2 : Nat} {w wc : World} {Q : Exit → Act → World → Prop} (hm : m < 18446744073709551616) (hl : zs.length ≤ 9223372036854775807)
    (hRk : Hid (rk = lenN (m &&& fullN i))) (hT3 : Hid (Tab wc)) (hAs3 : Hid (Arr wc gs m)) (hAo3 : Hid (Arr wc go (ofN zs))) (hAw3 : Hid (Arr wc g1 (withN m i))) (hAx3 : Hid (Arr wc g2 (withoutN m i))) (hB3 : Hid (Below w.heap.size w wc))
    (hI3 : Hid (Ints wc (.slice pa (ones m).length ca) ((ones m).map fun j : Nat => (j : Int))))
    (hp' : Hid (0 < zs.length → ∃ b o, p = some ⟨b, o, none⟩ ∧ b < w.heap.size ∧ ∀ j, j < zs.length → w.cell? ⟨b, o + j, none⟩ = some (.int .i64 (zs.getD j 0))))
    (hQ : ∀ a' w', a'.tmps.getD 6 undef = .bool true → a'.defers = [] → Below w.heap.size w w' → Q .normal a' w') :
    Code.wp Tryd.prog ((Tryd.f4.body.bind (regionOf 33)).getD .skip) Q ⟨#[.int .u64 m, .int .i64 i, .slice p zs.length c, x3, x4, x5, x6, .int .u64 m, .pointer (some ⟨gs, 0, none⟩), .slice pa (ones m).length ca, .pointer (some ⟨go, 0, none⟩), x11, .int .i64 rk, .int .i64 f, .bool b, x15, .int .i64 ar, .bool ab, .int .i64 nt, .bool ni, .pointer (some ⟨g1, 0, none⟩), .pointer (some ⟨g2, 0, none⟩), .int .i64 f, .bool b, .int .i64 ar, .bool ab, .int .i64 nt, .bool ni, x28, x29, x30, x31, x32, x33, x34, x35, x36, x37, x38, x39, x40, x41, x42, x43, x44, x45, x46, x47, x48, x49, x50, x51, x52, x53, x54, x55, x56, x57, x58, x59, x60, x61, x62, x63, x64, x65, x66, x67, x68, x69, x70, x71, x72, x73, x74, x75, x76, x77, x78, x79, x80, x81, x82, x83, x84, x85, x86, x87, x88, x89, x90, x91, x92, x93, x94, x95, x96, x97, x98, x99, x100, x101, x102, x103, x104, x105, x106, x107, x108, x109, x110, x111, x112, x113, x114, x115, x116, x117, x118, x119, x120, x121, x122, x123, x124, x125, x126, x127, x128, x129, x130, x131, x132, x133, x134, x135, x136, x137, x138, x139, x140, x141, x142, x143, x144, x145, x146, x147, x148, x149, x150, x151, x152, x153, x154, x155, x156, x157, x158, x159, x160, x161, x162, x163, x164, x165, x166, x167, x168, x169, x170, x171, x172, x173, x174, x175, x176, x177, x178, x179, x180, x181, x182, x183, x184, x185, x186, x187, x188, x189, x190, x191, x192, x193, x194, x195, x196, x197, x198, x199, x200, x201, x202, x203, x204, x205, x206, x207, x208, x209, x210, x211, x212, x213, x214, x215, x216, x217, x218, x219, x220, x221, x222, x223, x224, x225, x226, x227, x228, x229, x230, x231, x232, x233, x234, x235], []⟩ wc := by
  have hQ' := hide hQ
  clear hQ
  have hin : ¬ (0 ≤ i ∧ i < 64) := by omega
  have hd0 : decide (0 ≤ i) = false := decide_eq_false (by omega)
  conv => arg 2; whnf
  have hLs := hide (list_any m wc.drew hm ((unhide hT3).on (Below.refl _ wc).drew))
  refine wp_region_noPanic ?_
  refine wp_region_any (by as_aux_lemma => kernel_rfl) ?_
  refine wpAny_take (i := 0) rfl (by as_aux_lemma => kernel_rfl) (by as_aux_lemma => kernel_rfl) (by as_aux_lemma => kernel_rfl) (fun _ _ _ h => h) (.inl ⟨rfl, fun w => rfl⟩) ?_
  refine wpAny_take (i := 2) rfl (by as_aux_lemma => kernel_rfl) (by as_aux_lemma => kernel_rfl) (by as_aux_lemma => kernel_rfl) (fun _ _ _ h => h) (.inl ⟨rfl, fun w => rfl⟩) ?_
  as_aux_lemma =>
    refine wpAny_ready (rs := [1]) (by as_aux_lemma => kernel_rfl) (by simp) ?_
    refine AllReady.cons rfl (fun K hK => ?_) AllReady.nil
    go_simp
    refine (unhide hLs).mono ?_
    rintro e w5 ⟨v5, rfl, hr5, hb5⟩
    have hbd : Below wc.heap.size wc w5 := (Below.refl _ wc).drew.trans (hb5.mono (Nat.le_refl _))
    have hI5 := hide ((unhide hI3).below hbd)
    have hV5 := hide (ints_of_row (l := ones m) hr5)
    have hB5 := hide hbd
    have hIn := hide (ints_same v5 (.slice pa (ones m).length ca) _ w5 (unhide hV5) (unhide hI5))
    clear hbd hr5 hb5 hLs hI3
    refine hK _ _ ?_
    clear hK K
    as_aux_lemma =>
      refine wpAny_ready (rs := [3]) (by as_aux_lemma => kernel_rfl) (by simp) ?_
      refine AllReady.cons rfl (fun K hK => ?_) AllReady.nil
      go_simp
      refine (unhide hIn).mono ?_
      rintro e w6 ⟨rfl, nq, hw6⟩
      refine hK _ _ ?_
      clear hK K
      as_aux_lemma =>
        have hb6 : Below wc.heap.size wc w6 := by rw [hw6]; exact below_drewN (unhide hB5) nq
        have hT6 := hide ((unhide hT3).on hb6)
        have hAs6 := hide ((unhide hAs3).below hb6 (unhide hAs3).lt)
        have hAo6 := hide ((unhide hAo3).below hb6 (unhide hAo3).lt)
        have hAw6 := hide ((unhide hAw3).below hb6 (unhide hAw3).lt)
        have hAx6 := hide ((unhide hAx3).below hb6 (unhide hAx3).lt)
        have hB6 := hide ((unhide hB3).trans (hb6.mono (unhide hB3).size))
        clear hw6 hb6 hIn hI5 hV5 hB5 hT3 hAs3 hAo3 hAw3 hAx3 hB3
        have qHas := fun d os => q_same (has_out m i (Sort.grow (redrawn w6 d) os) hm hin)
        have qLen := fun d os => q_same (len_ones m (Sort.grow (redrawn w6 d) os) hm)
        have qStr := fun d os => Calls.regrown_of (string_any m (Sort.grow (redrawn w6 d) os) hm ((unhide hT6).on (below_regrown w6 d os)))
        have qSet := fun d os => Calls.regrown_of (setText_any m (Sort.grow (redrawn w6 d) os) hm)
        have qOf := fun d os => q_same (of_arg p c zs w (Sort.grow (redrawn w6 d) os) hl ((unhide hB6).trans ((below_regrown w6 d os).mono (unhide hB6).size)) (unhide hp'))
        have qWo := fun d os => Calls.regrown_of (refWord_any (ofN zs) (Sort.grow (redrawn w6 d) os) (ofN_lt zs))
        have qRk := fun d os => q_same (rank_any m i (Sort.grow (redrawn w6 d) os) hm)
        simp only [← unhide hRk] at qRk
        have qWi := fun d os => q_same (with_any m i (Sort.grow (redrawn w6 d) os) hm)
        have qWw := fun d os => Calls.regrown_of (refWord_any (withN m i) (Sort.grow (redrawn w6 d) os) (withN_lt _ hm))
        have qWt := fun d os => q_same (without_any m i (Sort.grow (redrawn w6 d) os) hm)
        have qWx := fun d os => Calls.regrown_of (refWord_any (withoutN m i) (Sort.grow (redrawn w6 d) os) (withoutN_lt _ hm))
        refine quiet_behind4 (C := fun w' => ∃ p : Regrown, w' = Sort.grow (redrawn w6 p.d) p.os) (by as_aux_lemma => kernel_rfl) lex33 ⟨⟨w6.drawn, #[]⟩, by rw [Sort.grow_empty]; rfl⟩ (by simp only [List.append]; rfl) ?_
        as_aux_lemma =>
          iterate 10 (go_big_quiet_step (first | (go_at_call 23; exact qLen _ _) | (go_at_call 18; exact qStr _ _)))
          clear qLen qStr
          as_aux_lemma =>
            refine wpQuiet_step (fun K hK => ?_)
            refine step_wanted rfl ?_
            refine quiet_arr (.tmp 8) rfl rfl (by rintro _ ⟨⟨d, os⟩, rfl⟩; exact (unhide hAs6).below (below_regrown w6 d os) (unhide hAs6).lt) ?_
            go_simp
            refine hK _ ?_
            clear hK K
            iterate 6 (go_big_quiet_step (first | (go_at_call 24; exact qSet _ _) | (go_at_call 9; exact qOf _ _)))
            clear qSet qOf
            as_aux_lemma =>
              refine wpQuiet_step (fun K hK => ?_)
              refine step_wanted rfl ?_
              refine quiet_arr (.tmp 10) rfl rfl (by rintro _ ⟨⟨d, os⟩, rfl⟩; exact (unhide hAo6).below (below_regrown w6 d os) (unhide hAo6).lt) ?_
              go_simp
              refine hK _ ?_
              clear hK K
              iterate 10 (go_big_quiet_step (first | (go_at_call 25; exact qWo _ _) | (go_at_call 14; exact qHas _ _) | (go_at_call 13; exact qRk _ _) | (go_at_call 15; exact qWi _ _)))
              as_aux_lemma =>
                iterate 10 (go_big_quiet_step (first | (go_at_call 25; exact qWo _ _) | (go_at_call 14; exact qHas _ _) | (go_at_call 13; exact qRk _ _) | (go_at_call 15; exact qWi _ _)))
                as_aux_lemma =>
                  iterate 10 (go_big_quiet_step (first | (go_at_call 25; exact qWo _ _) | (go_at_call 14; exact qHas _ _) | (go_at_call 13; exact qRk _ _) | (go_at_call 15; exact qWi _ _)))
                  as_aux_lemma =>
                    iterate 10 (go_big_quiet_step (first | (go_at_call 25; exact qWo _ _) | (go_at_call 14; exact qHas _ _) | (go_at_call 13; exact qRk _ _) | (go_at_call 15; exact qWi _ _)))
                    as_aux_lemma =>
                      iterate 10 (go_big_quiet_step (first | (go_at_call 25; exact qWo _ _) | (go_at_call 14; exact qHas _ _) | (go_at_call 13; exact qRk _ _) | (go_at_call 15; exact qWi _ _)))
                      as_aux_lemma =>
                        iterate 11 (go_big_quiet_step (first | (go_at_call 25; exact qWo _ _) | (go_at_call 14; exact qHas _ _) | (go_at_call 13; exact qRk _ _) | (go_at_call 15; exact qWi _ _)))
                        clear qWo qHas qRk qWi
                        as_aux_lemma =>
                          refine wpQuiet_step (fun K hK => ?_)
                          refine step_wanted rfl ?_
                          refine quiet_arr (.tmp 20) rfl rfl (by rintro _ ⟨⟨d, os⟩, rfl⟩; exact (unhide hAw6).below (below_regrown w6 d os) (unhide hAw6).lt) ?_
                          go_simp
                          refine hK _ ?_
                          clear hK K
                          iterate 7 (go_big_quiet_step (first | (go_at_call 25; exact qWw _ _) | (go_at_call 16; exact qWt _ _)))
                          clear qWw qWt
                          as_aux_lemma =>
                            refine wpQuiet_step (fun K hK => ?_)
                            refine step_wanted rfl ?_
                            refine quiet_arr (.tmp 21) rfl rfl (by rintro _ ⟨⟨d, os⟩, rfl⟩; exact (unhide hAx6).below (below_regrown w6 d os) (unhide hAx6).lt) ?_
                            go_simp
                            refine hK _ ?_
                            clear hK K
                            repeat (go_big_quiet_step (first | (go_at_call 25; exact qWx _ _)))
                            refine wpQuiet_nil ?_
                            intro _ hw'
                            obtain ⟨⟨dq, osq⟩, hw''⟩ := hw'
                            subst hw''
                            clear qWx
                            have hW := hide (below_regrown w6 dq osq)
                            refine NoPanic.normal ?_
                            exact unhide hQ' _ _ (by simp) rfl ((unhide hB6).trans ((unhide hW).mono (unhide hB6).size))
end Go.Proofs.YtpibejjhldnplaaDoor.Con
