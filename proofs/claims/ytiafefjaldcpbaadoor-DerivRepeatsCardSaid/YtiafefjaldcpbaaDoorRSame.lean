import Derived.Test.YtiafefjaldcpbaaDoorSame
import Derived.Test.YtiafefjaldcpbaaDoorQBelow
namespace Go.Proofs.YtiafefjaldcpbaaDoor
open Go Go.RowKit
theorem two_boxes (w:World) (o o':Obj):Below w.heap.size w ((w.alloc o).alloc o'):=((Below.refl _ _).alloc (Nat.le_refl _) _).alloc (by simp) _
end Go.Proofs.YtiafefjaldcpbaaDoor
