import Derived.WalkKit
namespace Go.Proofs.YtngfihoempcplaaGreatDoor
open Go Go.RowKit
end Go.Proofs.YtngfihoempcplaaGreatDoor
