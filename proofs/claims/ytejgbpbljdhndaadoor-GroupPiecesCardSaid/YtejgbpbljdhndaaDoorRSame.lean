import Derived.Test.YtejgbpbljdhndaaDoorSame
import Derived.Test.YtejgbpbljdhndaaDoorQBelow
namespace Go.Proofs.YtejgbpbljdhndaaDoor
open Go Go.RowKit
theorem z0e (w:World) (o o':Obj):Below w.heap.size w ((w.alloc o).alloc o'):=((Below.refl _ _).alloc (Nat.le_refl _) _).alloc (by simp) _
end Go.Proofs.YtejgbpbljdhndaaDoor
