import Derived.Test.YthghbdeaenjckaaDoorSame
namespace Go.Proofs.YthghbdeaenjckaaDoor
open Go Go.RowKit
end Go.Proofs.YthghbdeaenjckaaDoor
