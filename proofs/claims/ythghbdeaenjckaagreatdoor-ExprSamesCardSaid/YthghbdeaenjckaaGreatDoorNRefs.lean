import Derived.Test.YthghbdeaenjckaaGreatDoorNSums
namespace Go.Proofs.YthghbdeaenjckaaGreatDoor
open Go Go.RowKit
theorem of_ok (s:Bool) (m n:Int) (h0:0≤m) (hn:n=if s=true then -m else m) (hr: -9223372036854775808≤n∧n≤9223372036854775807) (w:World):
  Calls Tryz.prog 75 #[.bool s,.int .u64 m] w fun e w'=>e= .returned (.tuple #[.int .i64 n,.int .i64 0])∧w=w':=by
 cases s
 ·simp at hn;subst hn
  exact of_pos n h0 hr.2 w
 ·simp at hn;subst hn
  by_cases g:m=9223372036854775808
  ·subst g
   exact of_least w
  ·exact of_neg m h0 (by omega) w
theorem of_no (s:Bool) (m n:Int) (h0:0≤m) (hn:n=if s=true then -m else m) (hr:¬ (-9223372036854775808≤n∧n≤9223372036854775807)) (w:World):
  Calls Tryz.prog 75 #[.bool s,.int .u64 m] w fun e w'=>e= .returned (.tuple #[.int .i64 0,.int .i64 3])∧w=w':=by
 cases s
 ·simp at hn;subst hn
  exact of_no_pos n (by omega) w
 ·simp at hn;subst hn
  exact of_no_neg m (by omega) w
theorem mag_any (a:Int) (ha: -9223372036854775808≤a∧a≤9223372036854775807) (w:World):
  Calls Tryz.prog 70 #[.int .i64 a] w fun e w'=>e= .returned (.int .u64 (if a<0 then -a else a))∧w=w':=by
 by_cases h:a<0
 ·rw[if_pos h];exact mag_neg a h ha.1 w
 ·rw[if_neg h];exact mag_pos a (by omega) ha.2 w
end Go.Proofs.YthghbdeaenjckaaGreatDoor
