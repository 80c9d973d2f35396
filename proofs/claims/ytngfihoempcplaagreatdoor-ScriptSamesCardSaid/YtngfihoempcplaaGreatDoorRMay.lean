import Derived.Test.YtngfihoempcplaaGreatDoorSame
namespace Go.Proofs.YtngfihoempcplaaGreatDoor
open Go Go.RowKit
end Go.Proofs.YtngfihoempcplaaGreatDoor
