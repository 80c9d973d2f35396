import Derived.WalkKit
namespace Go.Proofs.YthghbdeaenjckaaDoor
open Go Go.RowKit
theorem ret_two {k l:IntKind} {a b c d:Int} (h:a=b) (g:c=d):Ending.returned (.tuple #[.int k a,.int l c])= .returned (.tuple #[.int k b,.int l d]):=by rw[h,g]
end Go.Proofs.YthghbdeaenjckaaDoor
