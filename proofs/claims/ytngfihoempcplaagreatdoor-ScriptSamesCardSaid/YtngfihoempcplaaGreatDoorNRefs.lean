import Derived.Test.YtngfihoempcplaaGreatDoorNSums
namespace Go.Proofs.YtngfihoempcplaaGreatDoor
open Go Go.RowKit
end Go.Proofs.YtngfihoempcplaaGreatDoor
