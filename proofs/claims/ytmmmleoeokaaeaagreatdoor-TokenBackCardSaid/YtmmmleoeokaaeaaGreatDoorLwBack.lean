import Derived.Test.YtmmmleoeokaaeaaGreatDoorTkT
namespace Go.Proofs.YtmmmleoeokaaeaaGreatDoor
open Go Go.RowKit
set_option maxRecDepth 100000
set_option maxHeartbeats 4000000
theorem noPl_parts {xs ys:List Tok} (h:noPl xs=noPl ys) {B:Nat} (hp:∀ t∈ys,t.parts.length≤B):∀ t∈xs,t.parts.length≤B:=by
 intro t ht;have h1:withPl t 0∈noPl xs:=by unfold noPl;exact List.mem_map.2 ⟨t,ht,rfl⟩
 rw[h] at h1;unfold noPl at h1;obtain⟨u,hu,e⟩:=List.mem_map.1 h1;have:=hp u hu;have e2:(withPl u 0).parts=(withPl t 0).parts:=by rw[e]
 rw[show t.parts=u.parts from e2.symm];exact this
structure AnsT (A:Option Addr) (n c:Nat) (ts:List Tok) (S:ByteArray) (f:Int) (w:World):Prop where
 g:Given w
 k4:Calls Tryz.prog 4 #[] w fun e w'=>e= .returned (.bool true)∧Below w.heap.size w w'
 k5:∀ w0,Below w.heap.size w w0→Calls Tryz.prog 5 #[.slice A n c] w0 fun e w'=>e= .returned (.bool true)∧Below w0.heap.size w0 w'
 k6:∀ w0,Below w.heap.size w w0→Calls Tryz.prog 6 #[.slice A n c] w0 fun e w'=>e= .returned (.tuple #[.string S,.int .i64 f])∧Below w0.heap.size w0 w'
 k7:∀ w0,Below w.heap.size w w0→Calls Tryz.prog 7 #[.slice A n c] w0 fun e w'=>e= .returned (.tuple #[.string S,.int .i64 f])∧Below w0.heap.size w0 w'
 row:∀ k t,ts[k]?=some t→k<n→∃ ad A' c',A=some ad∧(∀ w',Below w.heap.size w w'→At5 w' (ad.add (k * 5)) t A' c')∧
  (∀ w0,Below w.heap.size w w0→Calls Tryz.prog 8 #[tokA t A' c'] w0 fun e w'=>e= .returned (.tuple #[.string (textB t),.int .i64 (errB t)])∧Below w0.heap.size w0 w')∧
  (∀ w0,Below w.heap.size w w0→Calls Tryz.prog 9 #[tokA t A' c'] w0 fun e w'=>e= .returned (.tuple #[.string (textB t),.int .i64 (errB t)])∧Below w0.heap.size w0 w')
 len:n=ts.length
 few:n≤30
theorem ansT_of (A:Option Addr) (n c:Nat) (ts:List Tok) (w:World) (h:RdT w.heap.size w A n ts) (hG:Given w) (hs:smallT ts=true) (hn:∀ t∈ts, -9223372036854775808≤t.n∧t.n≤9223372036854775807):AnsT A n c ts (joinB ts) (joinE ts) w:=by
 have hs0:=hs;unfold smallT at hs;rw[Bool.and_eq_true,List.all_eq_true] at hs;obtain⟨s1,s2⟩:=hs;have s1:=of_decide_eq_true s1;have hl:=h.1;have hf:∀ t∈ts,FitT t:=fun t ht=>(okS_facts (s2 t ht) (hn t ht)).1
 have hc:∀ t∈ts,(candT t).length≤2000:=fun t ht=>(okS_facts (s2 t ht) (hn t ht)).2
 refine⟨hG,awakeT_any w hG,fun w0 hb=>?_,fun w0 hb=>?_,fun w0 hb=>?_,fun k t ht hk=>?_,hl,by omega⟩
 ·have:=smallT_any A n c ts w0 (h.next hb) (by omega) (fun t ht=>by have:=(hf t ht).parts;omega)
  rw[hs0] at this;exact this
 ·exact join_any A n c ts w0 (h.next hb) (by omega) hf (hG.below hb)
 ·exact rjoin_any A n c ts w0 (h.next hb) (by omega) hf hc
 ·have hm:=List.mem_of_getElem? ht
  obtain⟨ad,A',c',e,hev⟩:=h.all_ ht;exact⟨ad,A',c',e,fun w' hb=>(hev w' hb).1,fun w0 hb=>text_any t A' c' w0 ((hev w0 hb).2.up hb.size) (hf t hm) (hG.below hb),fun w0 hb=>rtext_any t A' c' w0 ((hev w0 hb).2.up hb.size) (hf t hm) (hc t hm)⟩
theorem tback_no (A:Option Addr) (n c:Nat) (ts:List Tok) (S:ByteArray) (f:Int) (w:World) (h:AnsT A n c ts S f w) (hf0:(f != 0)=true):
  Calls Tryz.prog 3 #[.slice A n c] w fun e w'=>e= .returned (.bool true)∧Below w.heap.size w w':=by
 have H:=Lib.hid h;have hfew:=h.few;clear h;go_enter Tryz.func3,Tryz.ntmps3;go_wp2_with (first | (go_at_call 4;((with_reducible refine(H.out.k4).mono ?_));rintro e w0 ⟨rfl,hb0⟩;have B0:=Lib.hid hb0;clear hb0) | (go_at_call 5;((with_reducible refine(H.out.k5 _ B0.out).mono ?_));rintro e w1 ⟨rfl,hb1⟩;have B1:=Lib.hid (B0.out.trans (hb1.mono B0.out.size));clear hb1) | (go_at_call 6;((with_reducible refine(H.out.k6 _ B1.out).mono ?_));rintro e w2 ⟨rfl,hb2⟩;have B2:=Lib.hid (B1.out.trans (hb2.mono B1.out.size));clear hb2) | (go_at_call 7;((with_reducible refine(H.out.k7 _ B2.out).mono ?_));rintro e w3 ⟨rfl,hb3⟩;have B3:=Lib.hid (B2.out.trans (hb3.mono B2.out.size));clear hb3))
 go_loopw [41] (fun i wr=>∃ k:Nat,k≤n∧i= .int .i64 k∧Below w.heap.size w wr) (fun i _=>n - (intOf i).toNat)
 case atStart=>exact⟨0,by omega,rfl,B3.out⟩
 case round=>
  obtain⟨k,hk,rfl,hb⟩:=hrel;have HB:=Lib.hid hb;clear hb;by_cases a:k<n
  ·obtain⟨t,ht⟩:∃ t,ts[k]?=some t:=⟨_,List.getElem?_eq_getElem (by have:=H.out.len;omega)⟩
   obtain⟨ad,A',c',rfl,hat,hk8,hk9⟩:=H.out.row k t ht a;obtain⟨c0,c1,c2,c3,c4⟩:=hat wr HB.out;unfold tokA at hk8 hk9;have K8:=Lib.hid hk8;have K9:=Lib.hid hk9;generalize (⟨t.word.toArray⟩:ByteArray)=W at c1 K8 K9;generalize t.parts.length=m at c3 K8 K9;generalize textB t=T at K8 K9;generalize errB t=x at K8 K9;clear hk8 hk9 hat ht;go_wp2_with (first | (go_at_call 8;((with_reducible refine(K8.out _ (HB.out.alloc HB.out.size _)).mono ?_));rintro e w4 ⟨rfl,hb4⟩;obtain⟨hc4,hz4⟩:=bcell hb4;have B4:=Lib.hid ((HB.out.alloc HB.out.size _).trans (hb4.mono (HB.out.alloc HB.out.size _).size));clear hb4) | (go_at_call 9;((with_reducible refine(K9.out _ B4.out).mono ?_));rintro e w5 ⟨rfl,hb5⟩;have B5:=Lib.hid (B4.out.trans (hb5.mono B4.out.size));clear hb5))
   go_roundw
   case rel=>exact⟨k+1,by omega,by go_num,B5.out⟩
   case measure=>simp[intOf];omega
  ·go_wp2
   go_ret;exact⟨rfl,HB.out⟩
theorem tback_yes (A:Option Addr) (n c:Nat) (ts:List Tok) (S:ByteArray) (w:World) (h:AnsT A n c ts S 0 w)
  (hsc:∀ w0,Given w0→Calls Tryz.prog 10 #[.string S] w0 fun e w'=>∃ A2 c2 xs,e= .returned (.tuple #[.slice A2 n c2,.int .i64 0,.int .i64 0])∧RdT w'.heap.size w' A2 n xs∧noPl xs=noPl ts∧Below w0.heap.size w0 w')
  (hr:RdT w.heap.size w A n ts) (hp:∀ t∈ts,t.parts.length≤1000000):
  Calls Tryz.prog 3 #[.slice A n c] w fun e w'=>e= .returned (.bool true)∧Below w.heap.size w w':=by
 have H:=Lib.hid h;have hfew:=h.few;have KS:=Lib.hid hsc;have K11:Hid (∀ w',Below w.heap.size w w'→∀ A2 c2 xs,RdT w'.heap.size w' A2 n xs→noPl xs=noPl ts→Calls Tryz.prog 11 #[.slice A2 n c2,.slice A n c] w' fun e w2=>e= .returned (.bool true)∧Below w'.heap.size w' w2):=Lib.hid fun w' hb A2 c2 xs h1 he=>lsame_yes A2 A n c2 c xs ts w' h1 (hr.next hb) (by omega) he (noPl_parts he hp)
 clear h hsc hr hp;go_enter Tryz.func3,Tryz.ntmps3;go_wp2_with (first | (go_at_call 4;((with_reducible refine(H.out.k4).mono ?_));rintro e w0 ⟨rfl,hb0⟩;have B0:=Lib.hid hb0;clear hb0) | (go_at_call 5;((with_reducible refine(H.out.k5 _ B0.out).mono ?_));rintro e w1 ⟨rfl,hb1⟩;have B1:=Lib.hid (B0.out.trans (hb1.mono B0.out.size));clear hb1) | (go_at_call 6;((with_reducible refine(H.out.k6 _ B1.out).mono ?_));rintro e w2 ⟨rfl,hb2⟩;have B2:=Lib.hid (B1.out.trans (hb2.mono B1.out.size));clear hb2) | (go_at_call 7;((with_reducible refine(H.out.k7 _ B2.out).mono ?_));rintro e w3 ⟨rfl,hb3⟩;have B3:=Lib.hid (B2.out.trans (hb3.mono B2.out.size));clear hb3))
 go_loopw [41] (fun i wr=>∃ k:Nat,k≤n∧i= .int .i64 k∧Below w.heap.size w wr) (fun i _=>n - (intOf i).toNat)
 case atStart=>exact⟨0,by omega,rfl,B3.out⟩
 case round=>
  obtain⟨k,hk,rfl,hb⟩:=hrel;have HB:=Lib.hid hb;clear hb;by_cases a:k<n
  ·obtain⟨t,ht⟩:∃ t,ts[k]?=some t:=⟨_,List.getElem?_eq_getElem (by have:=H.out.len;omega)⟩
   obtain⟨ad,A',c',rfl,hat,hk8,hk9⟩:=H.out.row k t ht a;obtain⟨c0,c1,c2,c3,c4⟩:=hat wr HB.out;unfold tokA at hk8 hk9;have K8:=Lib.hid hk8;have K9:=Lib.hid hk9;generalize (⟨t.word.toArray⟩:ByteArray)=W at c1 K8 K9;generalize t.parts.length=m at c3 K8 K9;generalize textB t=T at K8 K9;generalize errB t=x at K8 K9;clear hk8 hk9 hat ht;go_wp2_with (first | (go_at_call 8;((with_reducible refine(K8.out _ (HB.out.alloc HB.out.size _)).mono ?_));rintro e w4 ⟨rfl,hb4⟩;obtain⟨hc4,hz4⟩:=bcell hb4;have B4:=Lib.hid ((HB.out.alloc HB.out.size _).trans (hb4.mono (HB.out.alloc HB.out.size _).size));clear hb4) | (go_at_call 9;((with_reducible refine(K9.out _ B4.out).mono ?_));rintro e w5 ⟨rfl,hb5⟩;have B5:=Lib.hid (B4.out.trans (hb5.mono B4.out.size));clear hb5))
   go_roundw
   case rel=>exact⟨k+1,by omega,by go_num,B5.out⟩
   case measure=>simp[intOf];omega
  ·go_wp2_with (first | (go_at_call 10;((with_reducible refine(KS.out _ (H.out.g.below HB.out)).mono ?_));rintro e w6 ⟨A2,c2,xs,rfl,hr6,hn6,hb6⟩;have R6:=Lib.hid hr6;have N6:=Lib.hid hn6;have B6:=Lib.hid (HB.out.trans (hb6.mono HB.out.size));clear hr6 hn6 hb6) | (go_at_call 11;((with_reducible refine(K11.out _ B6.out _ _ _ R6.out N6.out).mono ?_));rintro e w7 ⟨rfl,hb7⟩;have B7:=Lib.hid (B6.out.trans (hb7.mono B6.out.size));clear hb7))
   go_ret;exact⟨rfl,B7.out⟩
theorem tback_large (A:Option Addr) (n c:Nat) (ts:List Tok) (w:World) (h:RdT w.heap.size w A n ts) (hG:Given w) (hmax:n≤9223372036854775807) (hps:∀ t∈ts,t.parts.length≤9223372036854775807) (hs:smallT ts=false):
  Calls Tryz.prog 3 #[.slice A n c] w fun e w'=>e= .returned (.bool true)∧Below w.heap.size w w':=by
 have KA:=Lib.hid (awakeT_any w hG)
 have K5:Hid (∀ w0,Below w.heap.size w w0→Calls Tryz.prog 5 #[.slice A n c] w0 fun e w'=>e= .returned (.bool false)∧Below w0.heap.size w0 w'):=Lib.hid fun w0 hb=>by
  have:=smallT_any A n c ts w0 (h.next hb) hmax hps;rw[hs] at this;exact this
 clear h hG hs hps;go_enter Tryz.func3,Tryz.ntmps3;go_wp2_with (first | (go_at_call 4;((with_reducible refine(KA.out).mono ?_));rintro e w0 ⟨rfl,hb0⟩) | (go_at_call 5;((with_reducible refine(K5.out _ hb0).mono ?_));rintro e w1 ⟨rfl,hb1⟩));go_ret;exact⟨rfl,hb0.trans (hb1.mono hb0.size)⟩
theorem joinE_cases (ts:List Tok):(joinE ts != 0)=true∨(joinE ts=0∧ts.all okT=true∧(joinT ts).length≤2000∧joinB ts=⟨(joinT ts).toArray⟩):=by
 unfold joinE joinB;by_cases h1:ts.all okT=true
 ·rw[if_pos h1]
  by_cases h2:2000<(joinT ts).length
  ·rw[if_pos h2];exact .inl rfl
  ·rw[if_neg h2,if_pos ⟨h1,h2⟩];exact .inr ⟨rfl,h1,by omega,rfl⟩
 ·rw[if_neg h1];exact .inl rfl
theorem walk_tback (A:Option Addr) (n c:Nat) (ts:List Tok) (w:World) (h:RdT w.heap.size w A n ts) (hG:Given w) (hmax:n≤9223372036854775807) (hps:∀ t∈ts,t.parts.length≤9223372036854775807) (hn:∀ t∈ts, -9223372036854775808≤t.n∧t.n≤9223372036854775807):
  Calls Tryz.prog 3 #[.slice A n c] w fun e w'=>e= .returned (.bool true)∧Below w.heap.size w w':=by
 by_cases hs:smallT ts=true
 ·have hans:=ansT_of A n c ts w h hG hs hn
  have hs0:=hs;unfold smallT at hs;rw[Bool.and_eq_true,List.all_eq_true] at hs;have hp:∀ t∈ts,t.parts.length≤1000000:=fun t ht=>by have:=(okS_facts (hs.2 t ht) (hn t ht)).1.parts;omega
  rcases joinE_cases ts with h0 | ⟨h0,h1,h2,h3⟩
  ·exact tback_no A n c ts _ _ w hans h0
  ·rw[h0] at hans
   refine tback_yes A n c ts _ w hans (fun w0 hg=>?_) h hp;obtain⟨out,o1,o2⟩:=scan_join ts (fun t ht=>⟨by rw[List.all_eq_true] at h1;exact h1 t ht,(hn t ht).2⟩) h2;have hS:(joinB ts).data.toList=joinT ts:=by rw[h3]
   have hl:out.length=n:=by rw[noPl_len o2,h.1]
   rw[←hS] at o1;exact(scan_read (joinB ts) (by rw[←len_data,hS];omega) (some out) 0 0 out rfl o1 w0 hg).mono fun e w' ⟨A2,c2,he,hr,hb⟩=>⟨A2,c2,out,by rw[←hl];exact he,by rw[←hl];exact hr,o2,hb⟩
 ·exact tback_large A n c ts w h hG hmax hps (Bool.eq_false_iff.2 hs)
end Go.Proofs.YtmmmleoeokaaeaaGreatDoor
