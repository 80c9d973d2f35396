import Derived.Test.YthghbdeaenjckaaDoorRows
import Derived.WalkKit
import Derived.WalkSpells
import Derived.WalkLawsBesides
import Derived.Lib.Hide
import Derived.Test.YthghbdeaenjckaaDoorNPlain
namespace Go.Proofs.YthghbdeaenjckaaDoor
open Go Go.RowKit
theorem of_pos (m:Int) (h0:0≤m) (h1:m≤9223372036854775807) (w:World):
  Calls Tryd.prog 37 #[.bool false,.int .u64 m] w fun e w'=>e= .returned (.tuple #[.int .i64 m,.int .i64 0])∧w=w':=by
 go_enter Tryd.func37,Tryd.ntmps37;go_wp2
 go_ret2
 exact⟨rfl,rfl⟩
theorem of_neg (m:Int) (h0:0≤m) (h1:m≤9223372036854775807) (w:World):
  Calls Tryd.prog 37 #[.bool true,.int .u64 m] w fun e w'=>e= .returned (.tuple #[.int .i64 (-m),.int .i64 0])∧w=w':=by
 go_enter Tryd.func37,Tryd.ntmps37;go_wp2
 go_ret2
 exact⟨ret_two (by omega) rfl,rfl⟩
theorem of_least (w:World):
  Calls Tryd.prog 37 #[.bool true,.int .u64 9223372036854775808] w fun e w'=>e= .returned (.tuple #[.int .i64 (-9223372036854775808),.int .i64 0])∧w=w':=by
 go_enter Tryd.func37,Tryd.ntmps37;go_wp2
 go_ret2
 exact⟨rfl,rfl⟩
theorem of_no_pos (m:Int) (h0:9223372036854775808≤m) (w:World):
  Calls Tryd.prog 37 #[.bool false,.int .u64 m] w fun e w'=>e= .returned (.tuple #[.int .i64 0,.int .i64 3])∧w=w':=by
 go_enter Tryd.func37,Tryd.ntmps37;go_wp2
 go_ret2
 exact⟨rfl,rfl⟩
theorem of_no_neg (m:Int) (h0:9223372036854775808<m) (w:World):
  Calls Tryd.prog 37 #[.bool true,.int .u64 m] w fun e w'=>e= .returned (.tuple #[.int .i64 0,.int .i64 3])∧w=w':=by
 go_enter Tryd.func37,Tryd.ntmps37;go_wp2
 go_ret2
 exact⟨rfl,rfl⟩
end Go.Proofs.YthghbdeaenjckaaDoor
