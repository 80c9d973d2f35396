import Derived.Test.YtejgbpbljdhndaaDoorRText
import Derived.Test.YtejgbpbljdhndaaDoorRForm
namespace Go.Proofs.YtejgbpbljdhndaaDoor
open Go Go.RowKit
set_option maxRecDepth 100000
set_option maxHeartbeats 4000000
theorem y35 (r:Re) (A:Option Addr) (c:Nat) (w:World) (hk:Kids (Lt w.heap.size) w A r) (hs:sizeE r≤600):
  Calls Tryd.prog 32 #[valR r A c] w (PostW w (printE r)):=by
 obtain⟨R,hR⟩:∃ R,R=printE r:=⟨_,rfl⟩;rw[←hR];unfold printE at hR;have htl:=y2u r;obtain⟨F,hF⟩:∃ F,F=form r 3 0 0:=⟨_,rfl⟩;rw[←hF] at hR
 have K22:Hid (∀ w1,Below w.heap.size w w1→Calls Tryd.prog 44 #[valR r A c,.int .i64 0,.int .i64 0,.int .i64 0] w1 (PostFR w1 F)):=Lib.hid fun w1 h1=>by
  rw[hF];exact y68 r A c 0 0 0 w1 (hk.next h1) (by omega) (by omega) (by omega)
 have K17:Hid (∀ w1 g,F=some g→Below w.heap.size w w1→Calls Tryd.prog 45 #[valR r A c] w1 fun e w'=>e= .returned (.string ⟨(textE r).toArray⟩)∧Below w1.heap.size w1 w'):=Lib.hid fun w1 g h1 h2=>
  y48 r A c w1 3 0 0 g (hk.next h2) (hF.symm.trans h1) (by omega) (by omega)
 obtain⟨T,hT⟩:∃ T,T=textE r:=⟨_,rfl⟩;rw[←hT] at hR K17 htl;obtain⟨U,hU⟩:∃ U:ByteArray,U=⟨T.toArray⟩:=⟨_,rfl⟩;rw[←hU] at hR K17;have hUl:U.size=T.length:=by rw[←z0o,hU]
 clear hk hF hT hU;obtain⟨k,s0,s1,s2,s3,m,lo,hi,n,e1⟩:=y3h r A c;rw[e1] at K22 K17 ⊢;clear e1;have HB:=Lib.hid (z0b w (.cells #[.int .i64 k,.int .u64 s0,.int .u64 s1,.int .u64 s2,.int .u64 s3,.slice A m c,.int .i64 lo,.int .i64 hi,.int .i64 n] 27));have HX:=Lib.hid (Box9.new w (.int .i64 k) (.int .u64 s0) (.int .u64 s1) (.int .u64 s2) (.int .u64 s3) (.slice A m c) (.int .i64 lo) (.int .i64 hi) (.int .i64 n))
 cases F with
 | none=>
   have HR:Hid (R=(⟨#[]⟩,5)):=Lib.hid hR;clear hR;go_enter Tryd.func32,Tryd.ntmps32;go_wp2_with (go_at_call 44;((with_reducible refine(K22.out _ HB.out).mono ?_));rintro e w1 ⟨⟨z,rfl⟩,hb1⟩;have HB1:=Lib.hid (z1d HB.out hb1);clear hb1)
   go_ret2
   rw[HR.out];exact⟨rfl,HB1.out⟩
 | some g=>
   by_cases h200:200<T.length
   ·have HR:Hid (R=(⟨#[]⟩,2)):=Lib.hid (by rw[hR];exact if_pos h200)
    have hu:200<U.size:=by omega
    clear hR;go_enter Tryd.func32,Tryd.ntmps32;go_wp2_with (first | (go_at_call 44;((with_reducible refine(K22.out _ HB.out).mono ?_));rintro e w1 ⟨rfl,hb1⟩;have HB1:=Lib.hid (z1d HB.out hb1);have HX1:=Lib.hid (HX.out.later hb1);obtain⟨x0,x1,x2,x3,x4,x5,x6,x7,x8,_⟩:=HX1.out;clear hb1) | (go_at_call 45;((with_reducible refine(K17.out _ g rfl HB1.out).mono ?_));rintro e w2 ⟨rfl,hb2⟩;have HB2:=Lib.hid (z1d HB1.out hb2);clear hb2))
    go_ret2
    rw[HR.out];exact⟨rfl,HB2.out⟩
   ·have HR:Hid (R=(U,0)):=Lib.hid (by rw[hR];exact if_neg h200)
    have hu:¬ 200<U.size:=by omega
    clear hR;go_enter Tryd.func32,Tryd.ntmps32;go_wp2_with (first | (go_at_call 44;((with_reducible refine(K22.out _ HB.out).mono ?_));rintro e w1 ⟨rfl,hb1⟩;have HB1:=Lib.hid (z1d HB.out hb1);have HX1:=Lib.hid (HX.out.later hb1);obtain⟨x0,x1,x2,x3,x4,x5,x6,x7,x8,_⟩:=HX1.out;clear hb1) | (go_at_call 45;((with_reducible refine(K17.out _ g rfl HB1.out).mono ?_));rintro e w2 ⟨rfl,hb2⟩;have HB2:=Lib.hid (z1d HB1.out hb2);clear hb2))
    go_ret2
    rw[HR.out];exact⟨rfl,HB2.out⟩
end Go.Proofs.YtejgbpbljdhndaaDoor
