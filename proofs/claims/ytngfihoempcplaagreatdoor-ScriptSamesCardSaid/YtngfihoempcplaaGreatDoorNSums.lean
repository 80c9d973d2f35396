import Derived.Test.YtngfihoempcplaaGreatDoorRows
import Derived.WalkKit
import Derived.WalkSpells
import Derived.WalkLawsBesides
import Derived.Lib.Hide
import Derived.Test.YtngfihoempcplaaGreatDoorNPlain
namespace Go.Proofs.YtngfihoempcplaaGreatDoor
open Go Go.RowKit
end Go.Proofs.YtngfihoempcplaaGreatDoor
