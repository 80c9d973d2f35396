import Derived.Below
import Derived.Deep.Draws
import Derived.Test.YtngfihoempcplaaGreatDoorName2
namespace Go.Proofs.YtngfihoempcplaaGreatDoor
open Go Go.RowKit
theorem below_drewN {B:Nat} {a w:World} (h:Below B a w) (n:Nat):Below B a (w.drewN n):=⟨h.os,h.tape,h.output,h.size,h.block⟩
end Go.Proofs.YtngfihoempcplaaGreatDoor
