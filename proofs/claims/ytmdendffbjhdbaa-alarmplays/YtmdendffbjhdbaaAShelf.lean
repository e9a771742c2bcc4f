/- What the library is laid as. -/
import Derived.Test.YtmdendffbjhdbaaRows
import Derived.Shelf.SlSortCmp.NoneTotal
import Derived.Shelf.Lay
import Derived.Ground.SlsfProg
namespace Go.Proofs
open Go.Shelf Go.RowKit Go.Lib Go.Sort
shelf_lay_g SlLaysF0.n6 Slsf 6 at Try 30 as Try.sortR
end Go.Proofs
