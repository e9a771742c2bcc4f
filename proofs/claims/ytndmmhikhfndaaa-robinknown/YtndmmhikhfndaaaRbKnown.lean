/- RobinKnown: the examples. -/
import Derived.Test.YtndmmhikhfndaaaRbAw
namespace Go.Proofs.Ytndmmhikhfndaaa.Rb
open Go.RowKit Go.Proofs.Ytndmmhikhfndaaa.Con Go.Proofs.Ytndmmhikhfndaaa.Fp
set_option linter.unusedVariables false
set_option linter.unusedSimpArgs false
attribute [local go_sem ↓] Go.wp_at_zero Go.wp_at_succ
set_option maxHeartbeats 16000000 in
set_option maxRecDepth 100000 in
theorem known_walk {I : RbI} (hA : Hid AwakeC) (K : Rk I) (W : World) :
    Calls Try.prog 3 #[] W fun e w' => e = .returned (.bool true) ∧ Nx W w' := by
  go_enter Try.func3, Try.ntmps3
  go_wp2_with fail
  refine (hA.out _).mono ?_
  rintro ee w0 ⟨rfl, hb⟩
  have N := hide hb
  clear hb hA
  go_wp2_with fail
  refine (at_new' K N.out 3 (s' := ⟨3, []⟩) (Rs.ext' (by decide +kernel) (by decide +kernel))).mono ?_
  rintro ee w1 ⟨b, F, rfl, hA, -, hb⟩
  have A := hide hA.out
  clear hA hb N
  go_wp2_with fail
  refine (at_add' K A.out (-1) (x := 1) (s' := ⟨3, []⟩) (by decide +kernel) (Rs.ext' (by decide +kernel) (by decide +kernel))).mono ?_
  rintro ee w2 ⟨F2, rfl, hA, hT⟩
  clear A
  have A := hide hA.out
  clear hA hT
  go_wp2_with fail
  refine (at_add' K A.out 4 (x := 0) (s' := ⟨3, [4]⟩) (by decide +kernel) (Rs.ext' (by decide +kernel) (by decide +kernel))).mono ?_
  rintro ee w3 ⟨F3, rfl, hA, hT⟩
  clear A
  have A := hide hA.out
  clear hA hT
  go_wp2_with fail
  refine (at_add' K A.out 4 (x := 5) (s' := ⟨3, [4]⟩) (by decide +kernel) (Rs.ext' (by decide +kernel) (by decide +kernel))).mono ?_
  rintro ee w4 ⟨F4, rfl, hA, hT⟩
  clear A
  have A := hide hA.out
  clear hA hT
  go_wp2_with fail
  refine (at_add' K A.out 5 (x := 0) (s' := ⟨3, [4, 5]⟩) (by decide +kernel) (Rs.ext' (by decide +kernel) (by decide +kernel))).mono ?_
  rintro ee w5 ⟨F5, rfl, hA, hT⟩
  clear A
  have A := hide hA.out
  clear hA hT
  go_wp2_with fail
  refine (at_add' K A.out 6 (x := 0) (s' := ⟨3, [4, 5, 6]⟩) (by decide +kernel) (Rs.ext' (by decide +kernel) (by decide +kernel))).mono ?_
  rintro ee w6 ⟨F6, rfl, hA, hT⟩
  clear A
  have A := hide hA.out
  clear hA hT
  go_wp2_with fail
  refine (at_add' K A.out 7 (x := 3) (s' := ⟨3, [4, 5, 6]⟩) (by decide +kernel) (Rs.ext' (by decide +kernel) (by decide +kernel))).mono ?_
  rintro ee w7 ⟨F7, rfl, hA, hT⟩
  clear A
  have A := hide hA.out
  clear hA hT
  go_wp2_with fail
  refine (at_drop' K A.out 9 (x := 2) (s' := ⟨3, [4, 5, 6]⟩) (by decide +kernel) (Rs.ext' (by decide +kernel) (by decide +kernel))).mono ?_
  rintro ee w8 ⟨F8, rfl, hA, hT⟩
  clear A
  have A := hide hA.out
  clear hA hT
  go_wp2_with fail
  refine (at_many' K A.out 2 4 (L := [3, 3, 2]) (M := [6, 4, 5]) (s' := ⟨3, [6, 4, 5]⟩) (by decide +kernel) (Rs.ext' (by decide +kernel) (by decide +kernel))).mono ?_
  rintro ee w9 ⟨n, l, F9, rfl, hA, hT, hn, hl⟩
  clear A
  have A := hide hA.out
  clear hA hT
  have Sn := hide hn.out
  clear hn
  have Sl := hide hl.out
  clear hl
  go_wp2_with fail
  refine (at_see' K A.out 9 (L := [6, 4, 5]) (by decide +kernel)).mono ?_
  rintro ee w10 ⟨f, F10, rfl, hA, hT, hf⟩
  have Snn := hide (Sn.out.tn hT)
  clear Sn
  have Sn := Snn
  clear Snn
  have Sln := hide (Sl.out.tn hT)
  clear Sl
  have Sl := Sln
  clear Sln
  clear A
  have A := hide hA.out
  clear hA hT
  have Sf := hide hf.out
  clear hf
  go_wp2_with fail
  refine (at_drop' K A.out 4 (x := 0) (s' := ⟨3, [6, 5]⟩) (by decide +kernel) (Rs.ext' (by decide +kernel) (by decide +kernel))).mono ?_
  rintro ee w11 ⟨F11, rfl, hA, hT⟩
  have Snn := hide (Sn.out.tn hT)
  clear Sn
  have Sn := Snn
  clear Snn
  have Sln := hide (Sl.out.tn hT)
  clear Sl
  have Sl := Sln
  clear Sln
  have Sfn := hide (Sf.out.tn hT)
  clear Sf
  have Sf := Sfn
  clear Sfn
  clear A
  have A := hide hA.out
  clear hA hT
  go_wp2_with fail
  refine (at_many' K A.out 5 1099511627776 (L := [1099511627776, 1099511627776]) (M := [6, 5]) (s' := ⟨3, [6, 5]⟩) (by decide +kernel) (Rs.ext' (by decide +kernel) (by decide +kernel))).mono ?_
  rintro ee w12 ⟨m, k, F12, rfl, hA, hT, hm, hk⟩
  have Snn := hide (Sn.out.tn hT)
  clear Sn
  have Sn := Snn
  clear Snn
  have Sln := hide (Sl.out.tn hT)
  clear Sl
  have Sl := Sln
  clear Sln
  have Sfn := hide (Sf.out.tn hT)
  clear Sf
  have Sf := Sfn
  clear Sfn
  clear A
  have A := hide hA.out
  clear hA hT
  have Sm := hide hm.out
  clear hm
  have Sk := hide hk.out
  clear hk
  go_wp2_with fail
  refine (at_see' K A.out (-1) (L := []) (by decide +kernel)).mono ?_
  rintro ee w13 ⟨h, F13, rfl, hA, hT, hh⟩
  have Snn := hide (Sn.out.tn hT)
  clear Sn
  have Sn := Snn
  clear Snn
  have Sln := hide (Sl.out.tn hT)
  clear Sl
  have Sl := Sln
  clear Sln
  have Sfn := hide (Sf.out.tn hT)
  clear Sf
  have Sf := Sfn
  clear Sfn
  have Smn := hide (Sm.out.tn hT)
  clear Sm
  have Sm := Smn
  clear Smn
  have Skn := hide (Sk.out.tn hT)
  clear Sk
  have Sk := Skn
  clear Skn
  clear A
  have A := hide hA.out
  clear hA hT
  have Sh := hide hh.out
  clear hh
  obtain ⟨ph, ch, rfl, _, _⟩ := Sh.out.is.form
  clear Sh
  go_wp2_with fail
  refine (at_new' K A.out.nx 0 (s' := ⟨1, []⟩) (Rs.ext' (by decide +kernel) (by decide +kernel))).mono ?_
  rintro ee wx ⟨b2, F2, rfl, hA2, hF2, hb⟩
  go_wp2_with fail
  refine (at_many' K hA2.out 1 5 (L := []) (M := []) (s' := ⟨1, []⟩) (by decide +kernel) (Rs.ext' (by decide +kernel) (by decide +kernel))).mono ?_
  rintro ee wy ⟨vi, vj, F3, rfl, hA3, hT, hi, hj⟩
  have hN : Nx w13 wy := hT.below hb (Nat.le_refl _) hF2
  have Snn := hide (Sn.out.nx hN)
  clear Sn
  have Sn := Snn
  clear Snn
  have Sln := hide (Sl.out.nx hN)
  clear Sl
  have Sl := Sln
  clear Sln
  have Sfn := hide (Sf.out.nx hN)
  clear Sf
  have Sf := Sfn
  clear Sfn
  have Smn := hide (Sm.out.nx hN)
  clear Sm
  have Sm := Smn
  clear Smn
  have Skn := hide (Sk.out.nx hN)
  clear Sk
  have Sk := Skn
  clear Skn
  have An := hide (A.out.on K hN)
  clear A
  have A := An
  clear An
  obtain ⟨pi, ci, rfl, _, _⟩ := hi.out.is.form
  obtain ⟨pj, cj, rfl, _, _⟩ := hj.out.is.form
  clear hA2 hF2 hb hA3 hT hi hj hN
  go_wp2_with fail
  refine (at_many' K A.out 1 (-3) (L := [0, 0]) (M := [6, 5]) (s' := ⟨3, [6, 5]⟩) (by decide +kernel) (Rs.ext' (by decide +kernel) (by decide +kernel))).mono ?_
  rintro ee w14 ⟨o, p, F14, rfl, hA, hT, ho, hp⟩
  have Snn := hide (Sn.out.tn hT)
  clear Sn
  have Sn := Snn
  clear Snn
  have Sln := hide (Sl.out.tn hT)
  clear Sl
  have Sl := Sln
  clear Sln
  have Sfn := hide (Sf.out.tn hT)
  clear Sf
  have Sf := Sfn
  clear Sfn
  have Smn := hide (Sm.out.tn hT)
  clear Sm
  have Sm := Smn
  clear Smn
  have Skn := hide (Sk.out.tn hT)
  clear Sk
  have Sk := Skn
  clear Skn
  clear A
  have A := hide hA.out
  clear hA hT
  have So := hide ho.out
  clear ho
  have Sp := hide hp.out
  clear hp
  obtain ⟨bn, on, cn, rfl, hcn⟩ := Sn.out.is.put (by decide)
  have Cn := hide hcn
  clear hcn Sn
  obtain ⟨bm, om, cm, rfl, hcm⟩ := Sm.out.is.put (by decide)
  have Cm := hide hcm
  clear hcm Sm
  obtain ⟨bo, oo, co, rfl, hco⟩ := So.out.is.put (by decide)
  have Co := hide hco
  clear hco So
  have xn0 : w14.cell? ⟨bn, on, none⟩ = some (.int .i64 3) := Cn.out _ (Nx.refl _) 0 (by decide)
  have xn1 : w14.cell? ⟨bn, on + 1, none⟩ = some (.int .i64 3) := Cn.out _ (Nx.refl _) 1 (by decide)
  have xn2 : w14.cell? ⟨bn, on + 2, none⟩ = some (.int .i64 2) := Cn.out _ (Nx.refl _) 2 (by decide)
  have NB := hide (Nx.refl w14)
  go_wp2_with fail
  refine (ints_lit Sl.out.is [6, 4, 5] (by decide)).mono ?_
  rintro ee w15 ⟨rfl, hb⟩
  clear Sl
  have Sfn := hide (Sf.out.nx hb)
  clear Sf
  have Sf := Sfn
  clear Sfn
  have Skn := hide (Sk.out.nx hb)
  clear Sk
  have Sk := Skn
  clear Skn
  have Spn := hide (Sp.out.nx hb)
  clear Sp
  have Sp := Spn
  clear Spn
  have An := hide (A.out.on K hb)
  clear A
  have A := An
  clear An
  have NBn := hide (Nx.trans NB.out hb)
  clear NB
  have NB := NBn
  clear NBn
  clear xn0 xn1 xn2
  clear hb
  go_wp2_with fail
  refine (ints_lit Sf.out.is [6, 4, 5] (by decide)).mono ?_
  rintro ee w16 ⟨rfl, hb⟩
  clear Sf
  have Skn := hide (Sk.out.nx hb)
  clear Sk
  have Sk := Skn
  clear Skn
  have Spn := hide (Sp.out.nx hb)
  clear Sp
  have Sp := Spn
  clear Spn
  have An := hide (A.out.on K hb)
  clear A
  have A := An
  clear An
  have NBn := hide (Nx.trans NB.out hb)
  clear NB
  have NB := NBn
  clear NBn
  clear hb
  have xm0 : w16.cell? ⟨bm, om, none⟩ = some (.int .i64 1099511627776) := Cm.out _ NB.out 0 (by decide)
  have xm1 : w16.cell? ⟨bm, om + 1, none⟩ = some (.int .i64 1099511627776) := Cm.out _ NB.out 1 (by decide)
  go_wp2_with fail
  refine (ints_lit Sk.out.is [6, 5] (by decide)).mono ?_
  rintro ee w17 ⟨rfl, hb⟩
  clear Sk
  have Spn := hide (Sp.out.nx hb)
  clear Sp
  have Sp := Spn
  clear Spn
  have An := hide (A.out.on K hb)
  clear A
  have A := An
  clear An
  have NBn := hide (Nx.trans NB.out hb)
  clear NB
  have NB := NBn
  clear NBn
  clear xm0 xm1
  clear hb
  have xo0 : w17.cell? ⟨bo, oo, none⟩ = some (.int .i64 0) := Co.out _ NB.out 0 (by decide)
  go_wp2_with fail
  refine (ints_lit Sp.out.is [6, 5] (by decide)).mono ?_
  rintro ee w18 ⟨rfl, hb⟩
  clear Sp
  have An := hide (A.out.on K hb)
  clear A
  have A := An
  clear An
  have NBn := hide (Nx.trans NB.out hb)
  clear NB
  have NB := NBn
  clear NBn
  clear xo0
  clear hb
  go_wp2
  go_ret
  exact ⟨rfl, A.out.nx⟩
end Go.Proofs.Ytndmmhikhfndaaa.Rb
