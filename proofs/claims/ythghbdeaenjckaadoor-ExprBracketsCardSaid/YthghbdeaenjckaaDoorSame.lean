import Derived.Laws.StructEq
import Derived.RegionTactic
import Derived.ChangeAlike
import Derived.Test.YthghbdeaenjckaaDoorRd
namespace Go.Proofs.YthghbdeaenjckaaDoor
open Go Go.RowKit
end Go.Proofs.YthghbdeaenjckaaDoor
