import Derived.WalkSmall
import Derived.Lib.ParseIntBTie
import Derived.Lib.AtoiErrMem
import Derived.Test.YtngfihoempcplaaGreatDoorNText
namespace Go.Proofs.YtngfihoempcplaaGreatDoor
open Go Go.RowKit
def Given (w:World):Prop:=Lib.TabIs Tryz.prog w "internal/strconv.uint64pow10" .u64 Lib.pow10Tab∧
 (∃ tp p,w.var? Tryz.prog "strconv.ErrRange"=some #[.iface tp p])∧∃ tp p,w.var? Tryz.prog "strconv.ErrSyntax"=some #[.iface tp p]
theorem gT:∃ g,Tryz.prog.globalNamed "internal/strconv.uint64pow10"=some g:=Option.isSome_iff_exists.1 (by kernel_rfl)
theorem gR:∃ g,Tryz.prog.globalNamed "strconv.ErrRange"=some g:=Option.isSome_iff_exists.1 (by kernel_rfl)
theorem gS:∃ g,Tryz.prog.globalNamed "strconv.ErrSyntax"=some g:=Option.isSome_iff_exists.1 (by kernel_rfl)
theorem lt_of_var {w:World} {n:String} {g:Nat} {x:Value} (hg:Tryz.prog.globalNamed n=some g) (h:w.var? Tryz.prog n=some #[x]):g<w.heap.size:=by
 have:=World.var?_cell hg h 0;exact Lib.lt_of_cell (a:=⟨g,0,none⟩) (v:=x) (by simpa using this)
theorem Given.below {w w':World} (h:Given w) (hb:Below w.heap.size w w'):Given w':=by
 obtain⟨hT,⟨tp,p,hR⟩,tq,q,hS⟩:=h;obtain⟨g1,e1⟩:=gT;obtain⟨g2,e2⟩:=gR;obtain⟨g3,e3⟩:=gS
 have c1:g1<w.heap.size:=by
  have:=hT.cell e1 0 (by decide);exact Lib.lt_of_cell this
 exact⟨var?_below hb e1 c1 hT,⟨tp,p,var?_below hb e2 (lt_of_var e2 hR) hR⟩,tq,q,var?_below hb e3 (lt_of_var e3 hS) hS⟩
theorem below_grow (w:World) (q:Nat) (os:Array Obj):Below w.heap.size w (Sort.grow (w.drewN q) os):=
 ⟨rfl,rfl,rfl,by simp[Sort.grow,World.drewN],fun k hk=>by
  show (w.heap++os)[k]?=w.heap[k]?;rw[Array.getElem?_append_left hk]⟩
theorem print_any (n:Int) (h: -9223372036854775808≤n∧n≤9223372036854775807) (w:World) (hG:Given w):
  Calls Tryz.prog 87 #[.int .i64 n] w fun e w'=>e= .returned (.string ⟨(Lib.itoa n).toArray⟩)∧Below w.heap.size w w':=by
 have k27:Calls Tryz.prog 116 #[.int .i64 n,.int .i64 10] w fun e w'=>e= .returned (.string ⟨(Lib.itoa n).toArray⟩)∧Below w.heap.size w w':=
  (Tryz.strconv_FormatInt_10 n h.1 h.2 w hG.1).mono fun e w' ⟨he,k,os,hw⟩=>⟨he,by rw[hw];exact below_grow w k os⟩
 obtain⟨t,ht⟩:∃ t:ByteArray,t=⟨(Lib.itoa n).toArray⟩:=⟨_,rfl⟩;rw[←ht] at k27 ⊢;clear ht hG;go_enter Tryz.func87,Tryz.ntmps87;go_wp2_with (go_at_call 116;((with_reducible refine k27.mono ?_));rintro e w1 ⟨rfl,hb⟩);go_ret;exact⟨rfl,hb⟩
theorem parse_form (s:ByteArray) (hf:formL s.data.toList=false) (hm:s.size≤4000) (w:World):
  Calls Tryz.prog 96 #[.string s] w fun e w'=>e= .returned (.tuple #[.int .i64 0,.int .i64 1])∧w=w':=by
 have HF:=Lib.hid hf;clear hf;go_enter Tryz.func96,Tryz.ntmps96;go_wp2_with (go_at_call 126;((with_reducible refine(istext_any s false HF.out.symm (by omega) _).mono ?_));rintro e w1 ⟨rfl,rfl⟩)
 go_ret2
 exact⟨rfl,rfl⟩
theorem parse_ok (s:ByteArray) (v:Int) (hf:formL s.data.toList=true) (hv:Lib.parseIntB 64 s.data.toList= .ok v) (hm:s.size≤4000) (w:World):
  Calls Tryz.prog 96 #[.string s] w fun e w'=>e= .returned (.tuple #[.int .i64 v,.int .i64 0])∧Below w.heap.size w w':=by
 have HF:=Lib.hid hf
 have k29:Calls Tryz.prog 127 #[.string s,.int .i64 10,.int .i64 64] w fun e w'=>e= .returned (.tuple #[.int .i64 v,.nilIface])∧Below w.heap.size w w':=
  (Tryz.strconv_ParseInt_10_at64_ok s (by omega) v hv w).mono fun e w' ⟨he,hw⟩=>⟨he,by
   rcases hw with rfl | ⟨t,rfl⟩
   ·exact Below.refl _ _
   ·exact Lib.bytesWorld_below w 5 t⟩
 clear hf hv;go_enter Tryz.func96,Tryz.ntmps96;go_wp2_with (first | (go_at_call 126;((with_reducible refine(istext_any s true HF.out.symm (by omega) _).mono ?_));rintro e w1 ⟨rfl,rfl⟩) | (go_at_call 127;((with_reducible refine k29.mono ?_));rintro e w1 ⟨rfl,hb⟩))
 go_ret2
 exact⟨rfl,hb⟩
theorem parse_over (s:ByteArray) (hf:formL s.data.toList=true) (hv:Lib.parseIntB 64 s.data.toList= .range) (hm:s.size≤4000) (w:World) (hG:Given w):
  Calls Tryz.prog 96 #[.string s] w fun e w'=>e= .returned (.tuple #[.int .i64 0,.int .i64 3])∧Below w.heap.size w w':=by
 have HF:=Lib.hid hf;obtain⟨_,⟨tp,p,hR⟩,_⟩:=hG
 have k29:Calls Tryz.prog 127 #[.string s,.int .i64 10,.int .i64 64] w fun e w'=>∃ N n,e= .returned (.tuple #[.int .i64 n,.iface 187 (.pointer (some ⟨N,0,none⟩))])∧Below w.heap.size w w':=
  (Tryz.strconv_ParseInt_10_at64_range_var s (by omega) hv tp p w hR).mono fun e w' ⟨N,he,_,_,hw⟩=>⟨N,_,he,hw⟩
 clear hf hv hR;go_enter Tryz.func96,Tryz.ntmps96;go_wp2_with (first | (go_at_call 126;((with_reducible refine(istext_any s true HF.out.symm (by omega) _).mono ?_));rintro e w1 ⟨rfl,rfl⟩) | (go_at_call 127;((with_reducible refine k29.mono ?_));rintro e w1 ⟨N,n,rfl,hb⟩))
 go_ret2
 exact⟨rfl,hb⟩
end Go.Proofs.YtngfihoempcplaaGreatDoor
