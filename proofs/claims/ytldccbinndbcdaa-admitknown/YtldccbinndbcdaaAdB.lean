/- The landed book keeps what is asked of it. -/
import Derived.Test.YtldccbinndbcdaaAdV
import Derived.Test.YtldccbinndbcdaaAdH
import Derived.Test.YtldccbinndbcdaaAdI
import Derived.Test.YtldccbinndbcdaaAmKnown
namespace Go.Proofs.Ytldccbinndbcdaa.Am
open Go.RowKit Go.Proofs.Ytldccbinndbcdaa.Con Go.Proofs.Ytldccbinndbcdaa.Wn Go.Proofs.Ytldccbinndbcdaa.Fp
set_option linter.unusedVariables false
set_option linter.unusedSimpArgs false
attribute [local go_sem ↓] Go.wp_at_zero Go.wp_at_succ
set_option maxHeartbeats 4000000 in
theorem lingersB : LingersC BI := by
  rintro W b s F now ⟨vi, vo, H, h, rfl⟩ hs
  have hH : H.length ≤ 1000 := by rw [h.ho.len]; have := hs.2; omega
  have HI := hide (inOrder_any H hH h.ho.hp vo now W h.rdO)
  have HS := hide (fun D hp hd => h.ho.sorted now (D := D) hp hd)
  obtain ⟨_, _, c2⟩ := row3 h.row
  obtain ⟨p, cap, rfl, hn, hm⟩ := h.rdO.form
  clear h
  go_enter Try.func12, Try.ntmps12
  go_wp2_with (go_at_call 28; refine HI.out.mono ?_; rintro e w9 ⟨v9, D, rfl, hD, h9, n9⟩)
  go_ret
  exact ⟨v9, rfl, hide (by have := h9.out; rwa [HS.out D hD.out.1 hD.out.2] at this), n9⟩
theorem bkC : Bk BI where
  kept := keptB
  new := newB
  ask := by
    rintro W b s F x now ⟨vi, vo, H, h, rfl⟩ hs
    exact ask_any h hs x now
  enter := by
    rintro W b s F id x now ⟨vi, vo, H, h, rfl⟩ hs
    exact (enter_any h hs id x now).mono fun e w' ⟨vi', vo', H', e1, hh⟩ => ⟨_, e1, hide ⟨⟨vi', vo', H', hh.out.1, rfl⟩, hh.out.2⟩⟩
  leave := by
    rintro W b s F id till now ⟨vi, vo, H, h, rfl⟩ hs
    exact (leave_any h hs id till now).mono fun e w' ⟨e1, vi', vo', H', hh⟩ => ⟨_, e1, hide ⟨⟨vi', vo', H', hh.out.1, rfl⟩, hh.out.2⟩⟩
  change := by
    rintro W b s F id x now ⟨vi, vo, H, h, rfl⟩ hs
    exact (change_any h hs id x now).mono fun e w' ⟨vi', vo', H', e1, hh⟩ => ⟨_, e1, hide ⟨⟨vi', vo', H', hh.out.1, rfl⟩, hh.out.2⟩⟩
  live := liveB
  lingers := lingersB
theorem awakeC : AwakeC := awake_of (hide bkC)
end Go.Proofs.Ytldccbinndbcdaa.Am
