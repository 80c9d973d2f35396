import Derived.Test.YtngfihoempcplaaGreatDoorPrint
import Derived.Test.YtngfihoempcplaaGreatDoorCf
namespace Go.Proofs.YtngfihoempcplaaGreatDoor
open Go Go.RowKit
theorem ba_eq (S:BA) (l:Bs) (h:S.data.toList=l):S=⟨l.toArray⟩:=by
 apply ByteArray.ext;rw[←h]
end Go.Proofs.YtngfihoempcplaaGreatDoor
