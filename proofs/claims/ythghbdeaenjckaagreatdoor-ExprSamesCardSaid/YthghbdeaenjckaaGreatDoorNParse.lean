import Derived.WalkSmall
import Derived.Lib.ParseIntBTie
import Derived.Lib.AtoiErrMem
import Derived.Test.YthghbdeaenjckaaGreatDoorNText
namespace Go.Proofs.YthghbdeaenjckaaGreatDoor
open Go Go.RowKit
def Given (w:World):Prop:=Lib.TabIs Tryz.prog w "internal/strconv.uint64pow10" .u64 Lib.pow10Tab
theorem gT:∃ g,Tryz.prog.globalNamed "internal/strconv.uint64pow10"=some g:=Option.isSome_iff_exists.1 (by kernel_rfl)
theorem Given.below {w w':World} (h:Given w) (hb:Below w.heap.size w w'):Given w':=by
 obtain⟨g1,e1⟩:=gT
 have c1:g1<w.heap.size:=by
  have:=h.cell e1 0 (by decide);exact Lib.lt_of_cell this
 exact var?_below hb e1 c1 h
theorem below_grow (w:World) (q:Nat) (os:Array Obj):Below w.heap.size w (Sort.grow (w.drewN q) os):=
 ⟨rfl,rfl,rfl,by simp[Sort.grow,World.drewN],fun k hk=>by
  show (w.heap++os)[k]?=w.heap[k]?;rw[Array.getElem?_append_left hk]⟩
theorem print_any (n:Int) (h: -9223372036854775808≤n∧n≤9223372036854775807) (w:World) (hG:Given w):
  Calls Tryz.prog 67 #[.int .i64 n] w fun e w'=>e= .returned (.string ⟨(Lib.itoa n).toArray⟩)∧Below w.heap.size w w':=by
 have k27:Calls Tryz.prog 92 #[.int .i64 n,.int .i64 10] w fun e w'=>e= .returned (.string ⟨(Lib.itoa n).toArray⟩)∧Below w.heap.size w w':=
  (Tryz.strconv_FormatInt_10 n h.1 h.2 w hG).mono fun e w' ⟨he,k,os,hw⟩=>⟨he,by rw[hw];exact below_grow w k os⟩
 obtain⟨t,ht⟩:∃ t:ByteArray,t=⟨(Lib.itoa n).toArray⟩:=⟨_,rfl⟩;rw[←ht] at k27 ⊢;clear ht hG;go_enter Tryz.func67,Tryz.ntmps67;go_wp2_with (go_at_call 92;((with_reducible refine k27.mono ?_));rintro e w1 ⟨rfl,hb⟩);go_ret;exact⟨rfl,hb⟩
end Go.Proofs.YthghbdeaenjckaaGreatDoor
