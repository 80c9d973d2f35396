import Derived.Test.YtngfihoempcplaaGreatDoorParseL
namespace Go.Proofs.YtngfihoempcplaaGreatDoor
open Go Go.RowKit
theorem cat_data (T U:ByteArray) (t u:Bs) (h:T.data.toList=t) (g:U.data.toList=u):(T++U).data.toList=t++u:=by
 rw[ByteArray.data_append,Array.toList_append,h,g]
end Go.Proofs.YtngfihoempcplaaGreatDoor
