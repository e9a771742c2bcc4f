/- The sort, split; all calls but Beats. -/
import Derived.Test.YtacbiiiadalocaaEdC7
import Derived.Shelf.SlSortCmp.NoneTotal
namespace Go.Proofs.Ytacbiiiadalocaa.Ed
open Go.RowKit Go.Shelf Go.Lib Go.Proofs.Ytacbiiiadalocaa.Con
theorem sortC : SortC := by
  intro w base v L h hb hL
  by_cases h0 : L = []
  · subst h0
    obtain ⟨p, c, rfl⟩ := ownF h
    refine (AnyF.slices_SortFunc_none Try.sortEt p c _ w).mono fun e w' hh => ?_
    obtain ⟨rfl, rfl⟩ := hh
    exact ⟨rfl, [], ⟨List.Perm.refl _, List.Pairwise.nil⟩, hide h, Below.refl _ _⟩
  · exact sort_pos h0 h hb hL
theorem splitC : SplitC := lsplit_of (hide sortC)
theorem pickC : PickC := lpick_of (hide splitC)
theorem firstC : FirstC := lfirst_of (hide splitC)
theorem worstC : WorstC := lworst_of (hide splitC)
end Go.Proofs.Ytacbiiiadalocaa.Ed
