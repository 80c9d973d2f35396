import Derived.WalkKit
namespace Go.Proofs.YthghbdeaenjckaaGreatDoor
open Go Go.RowKit
theorem ret_intN {k:IntKind} {a b:Int} (h:a=b):Ending.returned (.int k a)= .returned (.int k b):=by rw[h]
theorem ret_two {k l:IntKind} {a b c d:Int} (h:a=b) (g:c=d):Ending.returned (.tuple #[.int k a,.int l c])= .returned (.tuple #[.int k b,.int l d]):=by rw[h,g]
end Go.Proofs.YthghbdeaenjckaaGreatDoor
