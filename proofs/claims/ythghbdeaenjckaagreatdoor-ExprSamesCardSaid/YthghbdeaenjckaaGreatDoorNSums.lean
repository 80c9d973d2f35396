import Derived.Test.YthghbdeaenjckaaGreatDoorRows
import Derived.WalkKit
import Derived.WalkSpells
import Derived.WalkLawsBesides
import Derived.Lib.Hide
import Derived.Test.YthghbdeaenjckaaGreatDoorNPlain
namespace Go.Proofs.YthghbdeaenjckaaGreatDoor
open Go Go.RowKit
theorem mag_pos (a:Int) (h0:0≤a) (h1:a≤9223372036854775807) (w:World):
  Calls Tryz.prog 70 #[.int .i64 a] w fun e w'=>e= .returned (.int .u64 a)∧w=w':=by
 go_enter Tryz.func70,Tryz.ntmps70;go_wp2;go_ret;exact⟨rfl,rfl⟩
theorem mag_neg (a:Int) (h0:a<0) (h1: -9223372036854775808≤a) (w:World):
  Calls Tryz.prog 70 #[.int .i64 a] w fun e w'=>e= .returned (.int .u64 (-a))∧w=w':=by
 go_enter Tryz.func70,Tryz.ntmps70;go_wp2;go_ret;exact⟨ret_intN (by simp only[IntKind.wrap_u64];omega),rfl⟩
theorem of_pos (m:Int) (h0:0≤m) (h1:m≤9223372036854775807) (w:World):
  Calls Tryz.prog 75 #[.bool false,.int .u64 m] w fun e w'=>e= .returned (.tuple #[.int .i64 m,.int .i64 0])∧w=w':=by
 go_enter Tryz.func75,Tryz.ntmps75;go_wp2
 go_ret2
 exact⟨rfl,rfl⟩
theorem of_neg (m:Int) (h0:0≤m) (h1:m≤9223372036854775807) (w:World):
  Calls Tryz.prog 75 #[.bool true,.int .u64 m] w fun e w'=>e= .returned (.tuple #[.int .i64 (-m),.int .i64 0])∧w=w':=by
 go_enter Tryz.func75,Tryz.ntmps75;go_wp2
 go_ret2
 exact⟨ret_two (by omega) rfl,rfl⟩
theorem of_least (w:World):
  Calls Tryz.prog 75 #[.bool true,.int .u64 9223372036854775808] w fun e w'=>e= .returned (.tuple #[.int .i64 (-9223372036854775808),.int .i64 0])∧w=w':=by
 go_enter Tryz.func75,Tryz.ntmps75;go_wp2
 go_ret2
 exact⟨rfl,rfl⟩
theorem of_no_pos (m:Int) (h0:9223372036854775808≤m) (w:World):
  Calls Tryz.prog 75 #[.bool false,.int .u64 m] w fun e w'=>e= .returned (.tuple #[.int .i64 0,.int .i64 3])∧w=w':=by
 go_enter Tryz.func75,Tryz.ntmps75;go_wp2
 go_ret2
 exact⟨rfl,rfl⟩
theorem of_no_neg (m:Int) (h0:9223372036854775808<m) (w:World):
  Calls Tryz.prog 75 #[.bool true,.int .u64 m] w fun e w'=>e= .returned (.tuple #[.int .i64 0,.int .i64 3])∧w=w':=by
 go_enter Tryz.func75,Tryz.ntmps75;go_wp2
 go_ret2
 exact⟨rfl,rfl⟩
end Go.Proofs.YthghbdeaenjckaaGreatDoor
