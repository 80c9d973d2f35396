import Derived.Test.YtmmmleoeokaaeaaDoorSame
namespace Go.Proofs.YtmmmleoeokaaeaaDoor
open Go Go.RowKit
end Go.Proofs.YtmmmleoeokaaeaaDoor
