import Derived.Test.YtmmmleoeokaaeaaDoorTkQ
import Derived.Test.YtmmmleoeokaaeaaDoorQBelow
namespace Go.Proofs.YtmmmleoeokaaeaaDoor
open Go Go.RowKit
set_option maxRecDepth 100000
set_option maxHeartbeats 4000000
theorem read1_parts {N:Nat} {t:Tok} (h:Read1 N t):t.parts.length≤1+2 * N:=by
 rcases h.parts with e | ⟨l,q,e,hl⟩
 ·rw[e];simp
 ·have:=parse_len l t.parts (by rw[e]);omega
theorem tany_some (s:ByteArray) (hs:¬ 120<s.size) (ts:List Tok) (h:scan s.data.toList=(some ts,0,0)) (hp:∀ t∈ts,t.parts.length≤1000000) (hl:ts.length≤1000000) (w:World) (hG:Given w):
  Calls Tryd.prog 3 #[.string s] w fun e w'=>e= .returned (.bool true)∧Below w.heap.size w w':=by
 have HG:=Lib.hid hG;have KA:=Lib.hid (awakeT_any w hG);have K1:=Lib.hid fun w hg=>scan_read s (by omega) (some ts) 0 0 ts rfl h w hg
 have K2:=Lib.hid fun w=>rscan_read s (by omega) (some ts) 0 0 ts rfl h w
 have HP:=Lib.hid hp;obtain⟨n,hn⟩:∃ n,n=ts.length:=⟨_,rfl⟩;have HN:=Lib.hid hn;have hn1:n≤1000000:=by omega
 have K1:Hid (∀ w,Given w→Calls Tryd.prog 6 #[.string s] w fun e w'=>∃ A c,e= .returned (.tuple #[.slice A n c,.int .i64 0,.int .i64 0])∧RdT w'.heap.size w' A n ts∧Below w.heap.size w w'):=Lib.hid fun w hg=>by rw[hn];exact K1.out w hg
 have K2:Hid (∀ w,Calls Tryd.prog 7 #[.string s] w fun e w'=>∃ A c,e= .returned (.tuple #[.slice A n c,.int .i64 0,.int .i64 0])∧RdT w'.heap.size w' A n ts∧Below w.heap.size w w'):=Lib.hid fun w=>by rw[hn];exact K2.out w
 clear h hG hp hn hl;go_enter Tryd.func3,Tryd.ntmps3;go_wp2_with (first | (go_at_call 5;((with_reducible refine(KA.out).mono ?_));rintro e w0 ⟨rfl,hb0⟩;have B0:=Lib.hid hb0;clear hb0) | (go_at_call 6;((with_reducible refine(K1.out _ (HG.out.below B0.out)).mono ?_));rintro e w1 ⟨A,c,rfl,hr1,hb1⟩;have R1:=Lib.hid hr1;have B1:=Lib.hid (B0.out.trans (hb1.mono B0.out.size));clear hr1 hb1) | (go_at_call 7;((with_reducible refine(K2.out _).mono ?_));rintro e w2 ⟨A',c',rfl,hr2,hb2⟩;have R2:=Lib.hid hr2;have R1:=Lib.hid (R1.out.next hb2);have B2:=Lib.hid (B1.out.trans (hb2.mono B1.out.size));clear hr2 hb2))
 go_loopw [44] (fun i wr=>∃ k:Nat,k≤n∧i= .int .i64 k∧Below w2.heap.size w2 wr) (fun i _=>n - (intOf i).toNat)
 case atStart=>exact⟨0,by omega,rfl,Below.refl _ _⟩
 case round=>
  obtain⟨k,hk,rfl,hb⟩:=hrel;have HB:=Lib.hid hb;clear hb;by_cases a:k<n
  ·obtain⟨t,ht⟩:∃ t,ts[k]?=some t:=⟨_,List.getElem?_eq_getElem (by have:=HN.out;omega)⟩
   obtain⟨ad,A1,c1,rfl,hx,hrx⟩:=(R1.out.next HB.out).at_ ht
   obtain⟨ad',A2,c2,rfl,hy,hry⟩:=(R2.out.next HB.out).at_ ht
   have K:∀ x:Bw wr,Calls Tryd.prog 8 #[tokA t A1 c1,tokA t A2 c2] x.at fun e w'=>e= .returned (.bool true)∧Below x.at.heap.size x.at w':=fun x=>by
    have:=tsame_any t t A1 A2 c1 c2 x.at (hrx.onto x.2) (hry.onto x.2) (HP.out t (List.mem_of_getElem? ht));rw[eqT_self] at this;exact this
   unfold tokA at K;obtain⟨x0,x1,x2,x3,x4⟩:=hx;obtain⟨y0,y1,y2,y3,y4⟩:=hy;obtain⟨W,hW⟩:∃ W:ByteArray,W=⟨t.word.toArray⟩:=⟨_,rfl⟩;obtain⟨m,hm⟩:∃ m,m=t.parts.length:=⟨_,rfl⟩;rw[←hW] at x1 y1 K;rw[←hm] at x3 y3 K;have p0:=bw_cell x0;have p1:=bw_cell x1;have p2:=bw_cell x2;have p3:=bw_cell x3;have p4:=bw_cell x4;have q0:=bw_cell y0;have q1:=bw_cell y1;have q2:=bw_cell y2;have q3:=bw_cell y3;have q4:=bw_cell y4;have HK:=Lib.hid K;clear K hrx hry ht hW hm;go_wp2;have hne:=bw_some wr;refine wp_region_below (by kernel_rfl) (by kernel_rfl) ?_
   repeat (go_big_quiet_step ((go_at_call 8;with_reducible exact bw_calls (HK.out _))))
   refine wpQuiet_nil ?_;intro w3 hw3;obtain⟨m3,rfl⟩:=hw3;obtain⟨w4,hw4⟩:∃ x,x=m3.at:=⟨_,rfl⟩;have HB3:Hid (Below wr.heap.size wr w4):=Lib.hid (by rw[hw4];exact m3.2);rw[←hw4];clear hw4;go_wp2
   go_roundw
   case rel=>exact⟨k+1,by omega,by go_num,HB.out.trans (HB3.out.mono HB.out.size)⟩
   case measure=>simp[intOf];omega
  ·go_wp2
   go_ret;exact⟨rfl,B2.out.trans (HB.out.mono B2.out.size)⟩
theorem tany_none (s:ByteArray) (hs:¬ 120<s.size) (q:Nat) (x:Int) (h:scan s.data.toList=(none,q,x)) (w:World) (hG:Given w):
  Calls Tryd.prog 3 #[.string s] w fun e w'=>e= .returned (.bool true)∧Below w.heap.size w w':=by
 have HG:=Lib.hid hG;have KA:=Lib.hid (awakeT_any w hG);have K1:Hid (∀ w,Given w→Calls Tryd.prog 6 #[.string s] w fun e w'=>∃ A c,e= .returned (.tuple #[.slice A 0 c,.int .i64 q,.int .i64 x])∧Below w.heap.size w w'):=Lib.hid fun w hg=>(scan_read s (by omega) none q x [] rfl h w hg).mono fun e w' ⟨A,c,he,_,hb⟩=>⟨A,c,he,hb⟩
 have K2:Hid (∀ w,Calls Tryd.prog 7 #[.string s] w fun e w'=>∃ A c,e= .returned (.tuple #[.slice A 0 c,.int .i64 q,.int .i64 x])∧Below w.heap.size w w'):=Lib.hid fun w=>(rscan_read s (by omega) none q x [] rfl h w).mono fun e w' ⟨A,c,he,_,hb⟩=>⟨A,c,he,hb⟩
 clear h hG;go_enter Tryd.func3,Tryd.ntmps3;go_wp2_with (first | (go_at_call 5;((with_reducible refine(KA.out).mono ?_));rintro e w0 ⟨rfl,hb0⟩;have B0:=Lib.hid hb0;clear hb0) | (go_at_call 6;((with_reducible refine(K1.out _ (HG.out.below B0.out)).mono ?_));rintro e w1 ⟨A,c,rfl,hb1⟩;have B1:=Lib.hid (B0.out.trans (hb1.mono B0.out.size));clear hb1) | (go_at_call 7;((with_reducible refine(K2.out _).mono ?_));rintro e w2 ⟨A',c',rfl,hb2⟩;have B2:=Lib.hid (B1.out.trans (hb2.mono B1.out.size));clear hb2))
 go_loopw [44] (fun i wr=>i= .int .i64 0∧wr=w2) (fun _ _=>0)
 case atStart=>exact⟨rfl,rfl⟩
 case round=>
  obtain⟨rfl,rfl⟩:=hrel;go_wp2;go_ret;exact⟨rfl,B2.out⟩
theorem tany_long (s:ByteArray) (hs:120<s.size) (w:World) (hG:Given w):
  Calls Tryd.prog 3 #[.string s] w fun e w'=>e= .returned (.bool true)∧Below w.heap.size w w':=by
 have KA:=Lib.hid (awakeT_any w hG);clear hG;go_enter Tryd.func3,Tryd.ntmps3;go_wp2_with (go_at_call 5;((with_reducible refine(KA.out).mono ?_));rintro e w0 ⟨rfl,hb0⟩);go_ret;exact⟨rfl,hb0⟩
theorem walk_tany (s:ByteArray) (w:World) (hG:Given w):Calls Tryd.prog 3 #[.string s] w fun e w'=>e= .returned (.bool true)∧Below w.heap.size w w':=by
 by_cases hs:120<s.size
 ·exact tany_long s hs w hG
 ·have hl:s.data.toList.length≤120:=by rw[len_data];omega
  rcases scan_cases s.data.toList with ⟨q,e,h,_⟩ | ⟨out,h,h1,h2,_⟩
  ·exact tany_none s hs q e h w hG
  ·exact tany_some s hs out h (fun t ht=>by have:=read1_parts (h1 t ht);omega) (by omega) w hG
end Go.Proofs.YtmmmleoeokaaeaaDoor
