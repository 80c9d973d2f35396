import Derived.Test.YtejgbpbljdhndaaDoorD5
import Derived.Test.YtejgbpbljdhndaaDoorD7
import Derived.Test.YtejgbpbljdhndaaDoorParse
namespace Go.Proofs.YtejgbpbljdhndaaDoor
open Go Go.RowKit
set_option maxRecDepth 100000
set_option maxHeartbeats 4000000
theorem z42 {s:Bs} {grp:Rd} (hg:Good s grp) (h:Gr s grp):Gr s (pieceR grp s):=by
 intro k g x q g' hk hgk he;unfold pieceR at he
 rcases ha:atomR grp s k g with ⟨q1,e⟩ | ⟨y,q1,g1⟩
 ·rw[ha] at he;cases he
 ·rw[ha] at he
  have h1:=y2m hg h k g y q1 g1 hk hgk ha;have h2:=(z13 hg k g hk).2 y q1 g1 ha;dsimp only at he;by_cases hr:rep y=true
  ·rw[if_pos hr] at he
   exact y95 h2.2 h1 he
  ·rw[if_neg hr] at he
   by_cases hs:signAt s q1
   ·rw[if_pos hs] at he;cases he
   ·rw[if_neg hs] at he
    injection he with _ e1 e2;omega
theorem z8x (s:Bs):∀ m,Gr s (grpRR s m)
 | 0=>by intro k g x q g' _ _ he;cases he
 | m+1=>by
   have hp:=z0v (z11 (s:=s) (pc:=fun grp=>pieceR grp s) (fun _ h=>z0v h) m);have hx:GrE s (exM (fun grp=>pieceR grp s) s m):=y1s (z1h hp) (z8h hp (z42 (z11 (fun _ h=>z0v h) m) (z8x s m)));intro k g x q g' hk hgk he;unfold grpRR at he;rw[z2y] at he;unfold grpR at he
   rcases ha:exM (fun grp=>pieceR grp s) s m (k+1) (g+1) with ⟨q1,e⟩ | ⟨y,q1,g1⟩
   ·rw[ha] at he;cases he
   ·rw[ha] at he
    have:=hx (k+1) (g+1) y q1 g1 (by omega) (by omega) ha;dsimp only at he
    split at he
    ·injection he with _ e1 e2;omega
    ·cases he
theorem x0i (s:ByteArray) (hs:s.size≤200) (m d:Nat) (grp:Rd) (hgrp:grp=grpRR s.data.toList m) (hat:RdD 66 s d (atomR grp s.data.toList)):RdED 25 s d (exR s.data.toList m):=by
 have g1:Good s.data.toList grp:=by rw[hgrp];exact z11 (pc:=fun grp=>pieceR grp s.data.toList) (fun _ h=>z0v h) m
 have g2:Gr s.data.toList grp:=by rw[hgrp];exact z8x s.data.toList m
 have hpi:=y3o s d grp hs hat (y4n (z13 g1) (y2m g1 g2));have hro:=y97 s d _ hs hpi (y4n (z0v g1) (z42 g1 g2)) (z0v g1);have hex:=y8m s d _ hs hro (y20 (z1h (z0v g1)) (z8h (z0v g1) (z42 g1 g2))) (z1h (z0v g1));rw[hgrp] at hex;exact hex
theorem saneR (s:ByteArray) (m:Nat):SaneE s (exR s.data.toList m):=by
 have g1:=z11 (s:=s.data.toList) (pc:=fun grp=>pieceR grp s.data.toList) (fun _ h=>z0v h) m;have g2:=z8x s.data.toList m;exact y20 (z5q (z1h (z0v g1))) (y1s (z1h (z0v g1)) (z8h (z0v g1) (z42 g1 g2)))
theorem y5h (s:ByteArray) (hs:s.size≤200):∀ m d,m+d=64→RdED 25 s d (exR s.data.toList m)
 | 0,d,h=>by
   obtain rfl:d=64:=by omega
   exact x0i s hs 0 64 (grpD 64 (exR s.data.toList 0) s.data.toList) rfl (z9r s 64 _ hs (by omega) (fun h=>by omega) (saneR s 0))
 | m+1,d,h=>by
   refine x0i s hs (m+1) d (grpD d (exR s.data.toList m) s.data.toList) ?_ (z9r s d _ hs (by omega) (fun _=>y5h s hs m (d+1) (by omega)) (saneR s m));unfold grpD;rw[if_neg (by omega)];show _=grpM _ s.data.toList (m+1);rw[z2y]
   rfl
theorem y8a (w:World) (o1:Obj) (s:ByteArray):Rdr (w.heap.size+1) ((w.alloc o1).alloc (.cells #[.string s,.int .i64 0,.int .i64 0,.int .i64 0] 68)) s 0 0 0:=by
 refine⟨?_,?_,?_,?_,?_,?_,?_⟩ <;> simp[go_sem]
theorem y3u (s:ByteArray) (w:World):Calls Tryd.prog 12 #[.string s] w (PostX w (parseE s.data.toList)):=by
 obtain⟨R,hR⟩:∃ R,R=parseE s.data.toList:=⟨_,rfl⟩;rw[←hR];unfold parseE at hR;have hsz:s.data.toList.length=s.size:=rfl;rw[hsz] at hR;have HN:=Lib.hid (Box9.new w (.int .i64 0) (.int .u64 0) (.int .u64 0) (.int .u64 0) (.int .u64 0) (.slice none 0 0) (.int .i64 0) (.int .i64 0) (.int .i64 0));by_cases h200:200<s.size
 ·rw[if_pos h200] at hR
  have HX:=Lib.hid hR;obtain⟨e0,e1,e2,e3,e4,e5,e6,e7,e8⟩:=Box9.freed HN.out;obtain⟨d0,d1,d2,d3,d4,d5,d6,d7,d8,_⟩:=HN.out;have b1:decide ((200:Int)<(s.size:Int))=true:=by simp;omega
  clear hR hsz;go_enter Tryd.func12,Tryd.ntmps12;go_wp2;exact bodyPost_ret (v:= .tuple #[.agg #[.int .i64 0,.int .u64 0,.int .u64 0,.int .u64 0,.int .u64 0,.slice none 0 0,.int .i64 0,.int .i64 0,.int .i64 0],.int .i64 200,.int .i64 2]) (by simp[results,Tryd.results12,go_sem,d0,d1,d2,d3,d4,d5,d6,d7,d8]) rfl (z6i HX.out (by rfl) (z0b w _))
 ·rw[if_neg h200] at hR
  have b1:decide ((200:Int)<(s.size:Int))=false:=by simp;omega
  have hex:=y5h s (by omega) 64 0 rfl;have HR0:=Lib.hid (y8a w (.cells #[.int .i64 0,.int .u64 0,.int .u64 0,.int .u64 0,.int .u64 0,.slice none 0 0,.int .i64 0,.int .i64 0,.int .i64 0] 27) s);have HB0:=Lib.hid (HN.out.grown (b:=w.heap.size+1) (z0f (z0b _ (.cells #[.string s,.int .i64 0,.int .i64 0,.int .i64 0] 68))) (by omega));have HW:=Lib.hid (z0e w (.cells #[.int .i64 0,.int .u64 0,.int .u64 0,.int .u64 0,.int .u64 0,.slice none 0 0,.int .i64 0,.int .i64 0,.int .i64 0] 27) (.cells #[.string s,.int .i64 0,.int .i64 0,.int .i64 0] 68));rw[x18 s.data.toList 64 0 0 (by omega)] at hR
  rcases hgg:exR s.data.toList 64 0 0 with ⟨q,er⟩ | ⟨x,q,g'⟩
  ·have her:=((y8q s.data.toList 64) 0 0 (by omega)).1 q er hgg
   obtain⟨zz,hzz⟩:∃ zz:Nat,er=zz:=⟨er.toNat,by omega⟩;have hz0:zz≠0:=by omega
   have KP:=Lib.hid (x0p hex (w.heap.size+1) (k:=0) (g:=0) (q:=q) (z:=zz) 0 rfl (by omega) (by omega) hgg hzz);rw[hgg,hzz] at hR;have HX:=Lib.hid hR;have t0:((zz:Int)==0)=false:=by simp;omega
   have t0':(zz==0)=false:=by simp;omega
   have t1:((zz:Int) != 0)=true:=by simp;omega
   have t1':(zz != 0)=true:=by simp;omega
   clear hR hsz hgg her hzz hz0;go_enter Tryd.func12,Tryd.ntmps12;go_wp2_with (go_at_call 25;(with_reducible refine(KP.out _ HR0.out).mono ?_);go_must (rintro _ wv ⟨⟨⟨kx,S,ks,lo,hi,n⟩,A,c,he⟩,⟨g2,hr1⟩,hg1⟩;have he2:_=Ending.returned (.agg #[.int .i64 kx,.int .u64 S.1.toNat,.int .u64 S.2.1.toNat,.int .u64 S.2.2.1.toNat,.int .u64 S.2.2.2.toNat,.slice A ks.length c,.int .i64 lo,.int .i64 hi,.int .i64 n]):=he;clear he;subst he2;have HR1:=Lib.hid (hr1.low (z0b wv (.cells #[.int .i64 kx,.int .u64 S.1.toNat,.int .u64 S.2.1.toNat,.int .u64 S.2.2.1.toNat,.int .u64 S.2.2.2.toNat,.slice A ks.length c,.int .i64 lo,.int .i64 hi,.int .i64 n] 27)));have HB1:=(HB0.out.grown hg1 (by omega)).grown (b:=w.heap.size+1) (z0f (z0b wv (.cells #[.int .i64 kx,.int .u64 S.1.toNat,.int .u64 S.2.1.toNat,.int .u64 S.2.2.1.toNat,.int .u64 S.2.2.2.toNat,.slice A ks.length c,.int .i64 lo,.int .i64 hi,.int .i64 n] 27))) (by omega);have HW1:=Lib.hid ((z18 HW.out hg1 (by omega)).trans ((z0b wv (.cells #[.int .i64 kx,.int .u64 S.1.toNat,.int .u64 S.2.1.toNat,.int .u64 S.2.2.1.toNat,.int .u64 S.2.2.2.toNat,.slice A ks.length c,.int .i64 lo,.int .i64 hi,.int .i64 n] 27)).mono (by have:=HW.out.size;have:=hg1.size;omega)));have HBX:=Lib.hid HB1;obtain⟨c0,c1,c2,c3,f1,f2,f3⟩:=HR1.out;obtain⟨d0,d1,d2,d3,d4,d5,d6,d7,d8,_⟩:=HBX.out;obtain⟨e0,e1,e2,e3,e4,e5,e6,e7,e8⟩:=Box9.freed HBX.out;clear HB1 hg1 hr1))
   go_region
   go_wp2;obtain⟨W3,hW3⟩:∃ W3,W3=put9 (wv.alloc (.cells #[.int .i64 kx,.int .u64 S.1.toNat,.int .u64 S.2.1.toNat,.int .u64 S.2.2.1.toNat,.int .u64 S.2.2.2.toNat,.slice A ks.length c,.int .i64 lo,.int .i64 hi,.int .i64 n] 27)) w.heap.size (.int .i64 0) (.int .u64 0) (.int .u64 0) (.int .u64 0) (.int .u64 0) (.slice none 0 0) (.int .i64 0) (.int .i64 0) (.int .i64 0):=⟨_,rfl⟩;have hb3:Box9 W3 w.heap.size (.int .i64 0) (.int .u64 0) (.int .u64 0) (.int .u64 0) (.int .u64 0) (.slice none 0 0) (.int .i64 0) (.int .i64 0) (.int .i64 0):=by rw[hW3];exact HBX.out.put _ _ _ _ _ _ _ _ _
   have hbl:Below w.heap.size w W3:=by rw[hW3];exact z6s HW1.out (Nat.le_refl _) _ _ _ _ _ _ _ _ _
   unfold put9 at hW3;rw[←hW3];obtain⟨l0,l1,l2,l3,l4,l5,l6,l7,l8,_⟩:=hb3.drew;exact bodyPost_ret (v:= .tuple #[.agg #[.int .i64 0,.int .u64 0,.int .u64 0,.int .u64 0,.int .u64 0,.slice none 0 0,.int .i64 0,.int .i64 0,.int .i64 0],.int .i64 q,.int .i64 zz]) (by simp[results,Tryd.results12,go_sem,l0,l1,l2,l3,l4,l5,l6,l7,l8]) rfl (z6i HX.out (by rfl) hbl.drew)
  ·obtain⟨kx,S,ks,lo,hi,n⟩:=x
   have KP:=Lib.hid (ex_ok hex (w.heap.size+1) (k:=0) (g:=0) 0 rfl (by omega) (by omega) hgg);rw[hgg] at hR;dsimp only at hR;by_cases hq2:q<s.size
   ·rw[if_pos hq2] at hR
    have HX:=Lib.hid hR;have b2:decide ((q:Int)<(s.size:Int))=true:=by simp;omega
    have KF:=Lib.hid (z07 1 1 rfl (w.heap.size+1) s q g');clear hR hsz hgg;go_enter Tryd.func12,Tryd.ntmps12;go_wp2_with (first | (go_at_call 25;(with_reducible refine(KP.out _ HR0.out).mono ?_);go_must (rintro _ wv ⟨⟨A,c,he,hkid⟩,hr1,hg1⟩;have he2:_=Ending.returned (.agg #[.int .i64 kx,.int .u64 S.1.toNat,.int .u64 S.2.1.toNat,.int .u64 S.2.2.1.toNat,.int .u64 S.2.2.2.toNat,.slice A ks.length c,.int .i64 lo,.int .i64 hi,.int .i64 n]):=he;clear he;subst he2;have HR1:=Lib.hid (hr1.low (z0b wv (.cells #[.int .i64 kx,.int .u64 S.1.toNat,.int .u64 S.2.1.toNat,.int .u64 S.2.2.1.toNat,.int .u64 S.2.2.2.toNat,.slice A ks.length c,.int .i64 lo,.int .i64 hi,.int .i64 n] 27)));have HB1:=(HB0.out.grown hg1 (by omega)).grown (b:=w.heap.size+1) (z0f (z0b wv (.cells #[.int .i64 kx,.int .u64 S.1.toNat,.int .u64 S.2.1.toNat,.int .u64 S.2.2.1.toNat,.int .u64 S.2.2.2.toNat,.slice A ks.length c,.int .i64 lo,.int .i64 hi,.int .i64 n] 27))) (by omega);have HW1:=Lib.hid ((z18 HW.out hg1 (by omega)).trans ((z0b wv (.cells #[.int .i64 kx,.int .u64 S.1.toNat,.int .u64 S.2.1.toNat,.int .u64 S.2.2.1.toNat,.int .u64 S.2.2.2.toNat,.slice A ks.length c,.int .i64 lo,.int .i64 hi,.int .i64 n] 27)).mono (by have:=HW.out.size;have:=hg1.size;omega)));have HBX:=Lib.hid HB1;obtain⟨c0,c1,c2,c3,f1,f2,f3⟩:=HR1.out;obtain⟨d0,d1,d2,d3,d4,d5,d6,d7,d8,_⟩:=HBX.out;obtain⟨e0,e1,e2,e3,e4,e5,e6,e7,e8⟩:=Box9.freed HBX.out;have HKD:=Lib.hid (((hkid.grownF (b:=w.heap.size+1) (z0f (z0b wv (.cells #[.int .i64 kx,.int .u64 S.1.toNat,.int .u64 S.2.1.toNat,.int .u64 S.2.2.1.toNat,.int .u64 S.2.2.2.toNat,.slice A ks.length c,.int .i64 lo,.int .i64 hi,.int .i64 n] 27))) (.inl (by simp)) (Nat.le_refl _))));obtain⟨x0,x1,x2,x3,x4,x5,x6,x7,x8,_⟩:=Box9.new wv (.int .i64 kx) (.int .u64 S.1.toNat) (.int .u64 S.2.1.toNat) (.int .u64 S.2.2.1.toNat) (.int .u64 S.2.2.2.toNat) (.slice A ks.length c) (.int .i64 lo) (.int .i64 hi) (.int .i64 n);have HWS:=Lib.hid hg1.size;clear HB1 hg1 hr1 hkid)) | (go_at_call 26;(with_reducible refine(KF.out _ HR1.out).mono ?_);go_must (rintro _ wz ⟨he,hr2,hg2⟩;subst he;have HW2:=Lib.hid (z18 HW1.out hg2 (by omega));have HBY:=Lib.hid (HBX.out.grown hg2 (by omega));obtain⟨c0,c1,c2,c3,f1,f2,f3⟩:=hr2;obtain⟨d0,d1,d2,d3,d4,d5,d6,d7,d8,_⟩:=HBY.out;obtain⟨e0,e1,e2,e3,e4,e5,e6,e7,e8⟩:=Box9.freed HBY.out;clear hg2)))
    go_region
    go_wp2;obtain⟨W3,hW3⟩:∃ W3,W3=put9 wz w.heap.size (.int .i64 0) (.int .u64 0) (.int .u64 0) (.int .u64 0) (.int .u64 0) (.slice none 0 0) (.int .i64 0) (.int .i64 0) (.int .i64 0):=⟨_,rfl⟩;have hb3:Box9 W3 w.heap.size (.int .i64 0) (.int .u64 0) (.int .u64 0) (.int .u64 0) (.int .u64 0) (.slice none 0 0) (.int .i64 0) (.int .i64 0) (.int .i64 0):=by rw[hW3];exact HBY.out.put _ _ _ _ _ _ _ _ _
    have hbl:Below w.heap.size w W3:=by rw[hW3];exact z6s HW2.out (Nat.le_refl _) _ _ _ _ _ _ _ _ _
    unfold put9 at hW3;rw[←hW3];obtain⟨l0,l1,l2,l3,l4,l5,l6,l7,l8,_⟩:=hb3.drew;exact bodyPost_ret (v:= .tuple #[.agg #[.int .i64 0,.int .u64 0,.int .u64 0,.int .u64 0,.int .u64 0,.slice none 0 0,.int .i64 0,.int .i64 0,.int .i64 0],.int .i64 q,.int .i64 1]) (by simp[results,Tryd.results12,go_sem,l0,l1,l2,l3,l4,l5,l6,l7,l8]) rfl (z6i HX.out (by rfl) hbl.drew)
   ·rw[if_neg hq2] at hR
    have HX:=Lib.hid hR;have b2:decide ((q:Int)<(s.size:Int))=false:=by simp;omega
    clear hR hsz hgg;go_enter Tryd.func12,Tryd.ntmps12;go_wp2_with (go_at_call 25;(with_reducible refine(KP.out _ HR0.out).mono ?_);go_must (rintro _ wv ⟨⟨A,c,he,hkid⟩,hr1,hg1⟩;have he2:_=Ending.returned (.agg #[.int .i64 kx,.int .u64 S.1.toNat,.int .u64 S.2.1.toNat,.int .u64 S.2.2.1.toNat,.int .u64 S.2.2.2.toNat,.slice A ks.length c,.int .i64 lo,.int .i64 hi,.int .i64 n]):=he;clear he;subst he2;have HR1:=Lib.hid (hr1.low (z0b wv (.cells #[.int .i64 kx,.int .u64 S.1.toNat,.int .u64 S.2.1.toNat,.int .u64 S.2.2.1.toNat,.int .u64 S.2.2.2.toNat,.slice A ks.length c,.int .i64 lo,.int .i64 hi,.int .i64 n] 27)));have HB1:=(HB0.out.grown hg1 (by omega)).grown (b:=w.heap.size+1) (z0f (z0b wv (.cells #[.int .i64 kx,.int .u64 S.1.toNat,.int .u64 S.2.1.toNat,.int .u64 S.2.2.1.toNat,.int .u64 S.2.2.2.toNat,.slice A ks.length c,.int .i64 lo,.int .i64 hi,.int .i64 n] 27))) (by omega);have HW1:=Lib.hid ((z18 HW.out hg1 (by omega)).trans ((z0b wv (.cells #[.int .i64 kx,.int .u64 S.1.toNat,.int .u64 S.2.1.toNat,.int .u64 S.2.2.1.toNat,.int .u64 S.2.2.2.toNat,.slice A ks.length c,.int .i64 lo,.int .i64 hi,.int .i64 n] 27)).mono (by have:=HW.out.size;have:=hg1.size;omega)));have HBX:=Lib.hid HB1;obtain⟨c0,c1,c2,c3,f1,f2,f3⟩:=HR1.out;obtain⟨d0,d1,d2,d3,d4,d5,d6,d7,d8,_⟩:=HBX.out;obtain⟨e0,e1,e2,e3,e4,e5,e6,e7,e8⟩:=Box9.freed HBX.out;have HKD:=Lib.hid (((hkid.grownF (b:=w.heap.size+1) (z0f (z0b wv (.cells #[.int .i64 kx,.int .u64 S.1.toNat,.int .u64 S.2.1.toNat,.int .u64 S.2.2.1.toNat,.int .u64 S.2.2.2.toNat,.slice A ks.length c,.int .i64 lo,.int .i64 hi,.int .i64 n] 27))) (.inl (by simp)) (Nat.le_refl _))));obtain⟨x0,x1,x2,x3,x4,x5,x6,x7,x8,_⟩:=Box9.new wv (.int .i64 kx) (.int .u64 S.1.toNat) (.int .u64 S.2.1.toNat) (.int .u64 S.2.2.1.toNat) (.int .u64 S.2.2.2.toNat) (.slice A ks.length c) (.int .i64 lo) (.int .i64 hi) (.int .i64 n);have HWS:=Lib.hid hg1.size;clear HB1 hg1 hr1 hkid));obtain⟨W3,hW3⟩:∃ W3,W3=put9 (wv.alloc (.cells #[.int .i64 kx,.int .u64 S.1.toNat,.int .u64 S.2.1.toNat,.int .u64 S.2.2.1.toNat,.int .u64 S.2.2.2.toNat,.slice A ks.length c,.int .i64 lo,.int .i64 hi,.int .i64 n] 27)) w.heap.size (.int .i64 kx) (.int .u64 S.1.toNat) (.int .u64 S.2.1.toNat) (.int .u64 S.2.2.1.toNat) (.int .u64 S.2.2.2.toNat) (.slice A ks.length c) (.int .i64 lo) (.int .i64 hi) (.int .i64 n):=⟨_,rfl⟩;have hb3:Box9 W3 w.heap.size (.int .i64 kx) (.int .u64 S.1.toNat) (.int .u64 S.2.1.toNat) (.int .u64 S.2.2.1.toNat) (.int .u64 S.2.2.2.toNat) (.slice A ks.length c) (.int .i64 lo) (.int .i64 hi) (.int .i64 n):=by rw[hW3];exact HBX.out.put _ _ _ _ _ _ _ _ _
    have hbl:Below w.heap.size w W3:=by rw[hW3];exact z6s HW1.out (Nat.le_refl _) _ _ _ _ _ _ _ _ _
    have KK:Kids (Fr w.heap.size W3.heap.size) W3 A (.mk kx S ks lo hi n):=by
     have hs2:=congrArg (fun W=>W.heap.size) hW3;simp only[z0k] at hs2;rw[hs2,hW3];exact(HKD.out.put9 (.inl (by simp;omega)) _ _ _ _ _ _ _ _ _).wide (by simp;omega) (by simp)
    unfold put9 at hW3;rw[←hW3];obtain⟨l0,l1,l2,l3,l4,l5,l6,l7,l8,_⟩:=hb3;exact bodyPost_ret (v:= .tuple #[.agg #[.int .i64 kx,.int .u64 S.1.toNat,.int .u64 S.2.1.toNat,.int .u64 S.2.2.1.toNat,.int .u64 S.2.2.2.toNat,.slice A ks.length c,.int .i64 lo,.int .i64 hi,.int .i64 n],.int .i64 0,.int .i64 0]) (by simp[results,Tryd.results12,go_sem,l0,l1,l2,l3,l4,l5,l6,l7,l8]) rfl (y93 HX.out A c (by rfl) KK hbl)
end Go.Proofs.YtejgbpbljdhndaaDoor
