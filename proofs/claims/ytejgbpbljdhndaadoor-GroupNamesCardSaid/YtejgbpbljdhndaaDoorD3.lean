import Derived.Test.YtejgbpbljdhndaaDoorParse
import Derived.Test.YtejgbpbljdhndaaDoorQTail
import Derived.Deep.RegionHeld3
namespace Go.Proofs.YtejgbpbljdhndaaDoor
open Go Go.RowKit
set_option maxRecDepth 100000
set_option maxHeartbeats 4000000
def isB (s:ByteArray) (k o:Nat) (c:UInt8):Bool:=decide (o=0) && decide (s.data.toList[k]?=some c)
theorem x32 (c:UInt8) (y:Int) (hy:y=c.toNat) (b:Nat) (w:World) (s:ByteArray) (k g o:Nat) (h:Rdr b w s k g o) (ho:o≤100):
  Calls Tryd.prog 35 #[.pointer (some ⟨b,0,none⟩),.int .u8 y] w fun e w'=>e= .returned (.bool (isB s k o c))∧∃ m,w'=w.drewN m:=by
 obtain⟨v,hv⟩:∃ v,v=isB s k o c:=⟨_,rfl⟩;rw[←hv];unfold isB at hv;obtain⟨c0,c1,_,c3,_,_,_⟩:=h
 suffices hs:Calls Tryd.prog 35 #[.pointer (some ⟨b,0,none⟩),.int .u8 y] w fun e w'=>e= .returned (.bool v)∧Hid (∃ m,w'=w.drewN m) from hs.mono fun e w' ⟨a,b⟩=>⟨a,b.out⟩
 by_cases o0:o=0
 ·subst o0
  rw[decide_eq_true rfl,Bool.true_and] at hv;by_cases a:k<s.size
  ·rw[z2g s k a] at hv
   obtain⟨x,hx⟩:∃ x:Int,x=(s[k].toNat:Int):=⟨_,rfl⟩
   have hxy:v=decide (x=y):=by
    rw[hv,decide_eq_decide,hx,hy]
    constructor
    ·intro h;injection h with h;rw[h]
    ·intro h;rw[u8_eq h]
   have HV:=Lib.hid hxy;have b1:decide ((k:Int)<(s.size:Int))=true:=by simp;omega
   clear hv hxy;by_cases e:x=y
   ·subst e
    have t:((s[k].toNat:Int)==x)=true:=by rw[hx];simp
    have HV2:Hid (v=true):=Lib.hid (by rw[HV.out];simp);clear HV hx hy;go_enter Tryd.func35,Tryd.ntmps35;go_wp2;go_quiet (fail);go_wp2;go_ret;exact⟨z0n HV2.out.symm,Lib.hid ⟨_,rfl⟩⟩
   ·have t:((s[k].toNat:Int)==y)=false:=by rw[←hx];simpa using e
    have HV2:Hid (v=false):=Lib.hid (by rw[HV.out];simpa using e);clear HV hx hy e;go_enter Tryd.func35,Tryd.ntmps35;go_wp2;go_quiet (fail);go_wp2;go_ret;exact⟨z0n HV2.out.symm,Lib.hid ⟨_,rfl⟩⟩
  ·rw[z3h s k a] at hv
   have HV:Hid (v=false):=Lib.hid (by rw[hv];simp);have b1:decide ((k:Int)<(s.size:Int))=false:=by simp;omega
   have b2:decide (k<s.size)=false:=by simp;omega
   clear hv hy;go_enter Tryd.func35,Tryd.ntmps35;go_wp2;go_quiet (fail);go_wp2;go_ret;exact⟨z0n HV.out.symm,Lib.hid ⟨_,rfl⟩⟩
 ·have HV:Hid (v=false):=Lib.hid (by rw[hv,decide_eq_false o0];rfl)
  have b0:((o:Int)==0)=false:=by simp;omega
  have b0':(o==0)=false:=by simp;omega
  clear hv o0 hy;go_enter Tryd.func35,Tryd.ntmps35;go_wp2;go_quiet (fail);go_wp2;go_ret;exact⟨z0n HV.out.symm,Lib.hid ⟨_,rfl⟩⟩
theorem z82 (er:Nat) (z:Int) (hz:z=er) (b:Nat) (w:World) (s:ByteArray) (k g o:Nat) (h:Rdr b w s k g o) (ho:o≤100):
  Calls Tryd.prog 26 #[.pointer (some ⟨b,0,none⟩),.int .i64 z] w fun e w'=>e= .returned (.tuple #[])∧Rdr b w' s k g (if o=0 then er else o)∧w.grownBy w' (some b):=by
 have H:=Lib.hid h;obtain⟨c0,c1,_,c3,_,_,f3⟩:=h;by_cases o0:o=0
 ·subst o0
  rw[if_pos rfl];have HZ:=Lib.hid hz;clear hz;go_enter Tryd.func26,Tryd.ntmps26;go_wp2
  go_end0
  exact⟨rfl,by rw[HZ.out];exact H.out.open_ er,z0h b 3 _ _⟩
 ·rw[if_neg o0]
  have b0:((o:Int)==0)=false:=by simp;omega
  have b0':(o==0)=false:=by simp;omega
  clear o0 hz;go_enter Tryd.func26,Tryd.ntmps26;go_wp2
  go_end0
  exact⟨rfl,H.out,z5j w _⟩
def PostG (b:Nat) (w:World) (s:ByteArray) (k g:Nat) (R:Option Int) (e:Ending) (w':World):Prop:=w.grownBy w' (some b)∧match R with
 | none=>e= .returned (.int .i64 (-1))∧Rdr b w' s k g 1
 | some n=>e= .returned (.int .i64 n)∧Rdr b w' s (k+1) g 0
theorem z56 {b:Nat} {w w':World} {s:ByteArray} {k g:Nat} {R:Option Int} (h:R=none) (hr:Rdr b w' s k g 1) (hg:w.grownBy w' (some b)):PostG b w s k g R (.returned (.int .i64 (-1))) w':=by subst h;exact⟨hg,rfl,hr⟩
theorem y4h {b:Nat} {w w':World} {s:ByteArray} {k g:Nat} {n z:Int} {R:Option Int} (h:R=some n) (hz:z=n) (hr:Rdr b w' s (k+1) g 0) (hg:w.grownBy w' (some b)):PostG b w s k g R (.returned (.int .i64 z)) w':=by subst h hz;exact⟨hg,rfl,hr⟩
theorem z9p (least:Int) (_:0≤least) (_:least≤8) (b:Nat) (w:World) (s:ByteArray) (k g:Nat) (h:Rdr b w s k g 0) (hs:s.size≤1000000) (hk:k≤s.size):
  Calls Tryd.prog 79 #[.pointer (some ⟨b,0,none⟩),.int .i64 least] w (PostG b w s k g (numb s.data.toList k least)):=by
 obtain⟨R,hR⟩:∃ R,R=numb s.data.toList k least:=⟨_,rfl⟩;rw[←hR];unfold numb at hR;have H:=Lib.hid h
 have KF:Hid (∀ w1,Rdr b w1 s k g 0→Calls Tryd.prog 26 #[.pointer (some ⟨b,0,none⟩),.int .i64 1] w1 fun e w'=>e= .returned (.tuple #[])∧Rdr b w' s k g 1∧w1.grownBy w' (some b)):=Lib.hid fun w1 h1=>by
  have:=z82 1 1 rfl b w1 s k g 0 h1 (by omega);simpa using this
 obtain⟨c0,c1,_,_,f1,_,_⟩:=h;by_cases a:k<s.size
 ·rw[z2g s k a] at hR
  dsimp only at hR;obtain⟨y,hy⟩:∃ y:Int,y=(s[k].toNat:Int):=⟨_,rfl⟩;have hyb:0≤y∧y<256:=by rw[hy];have:=s[k].toNat_lt;omega
  obtain⟨hy0,hy1⟩:=hyb;rw[←hy] at hR;have b1:decide ((k:Int)<(s.size:Int))=true:=by simp;omega
  have hyy:(s[k].toNat:Int)=y:=hy.symm;by_cases h1:y - 48<least∨8<y - 48
  ·rw[if_pos h1] at hR
   have HR:=Lib.hid hR;clear hR hy;by_cases d1:48≤y
   ·by_cases d2:y≤56
    ·have d3:decide (least≤y - 48)=false:=by simp;omega
     have t1:decide (48≤y)=true:=by simp;omega
     have t2:decide (y≤56)=true:=by simp;omega
     clear h1;go_enter Tryd.func79,Tryd.ntmps79;go_wp2;go_quiet (fail);go_wp2_with (go_at_call 26;((with_reducible refine(KF.out _ (H.out.drews _)).mono ?_));rintro e w1 ⟨rfl,hr1,hg1⟩);go_ret;exact z56 HR.out hr1 (z0a (z0d _ _ _) hg1)
    ·have t1:decide (48≤y)=true:=by simp;omega
     have t2:decide (y≤56)=false:=by simp;omega
     clear h1;go_enter Tryd.func79,Tryd.ntmps79;go_wp2;go_quiet (fail);go_wp2_with (go_at_call 26;((with_reducible refine(KF.out _ (H.out.drews _)).mono ?_));rintro e w1 ⟨rfl,hr1,hg1⟩);go_ret;exact z56 HR.out hr1 (z0a (z0d _ _ _) hg1)
   ·have t1:decide (48≤y)=false:=by simp;omega
    clear h1;go_enter Tryd.func79,Tryd.ntmps79;go_wp2;go_quiet (fail);go_wp2_with (go_at_call 26;((with_reducible refine(KF.out _ (H.out.drews _)).mono ?_));rintro e w1 ⟨rfl,hr1,hg1⟩);go_ret;exact z56 HR.out hr1 (z0a (z0d _ _ _) hg1)
  ·rw[if_neg h1] at hR
   have HR:=Lib.hid hR;have d3:decide (least≤y - 48)=true:=by simp;omega
   have t1:decide (48≤y)=true:=by simp;omega
   have t2:decide (y≤56)=true:=by simp;omega
   have hkb:(k:Int)≤1000000:=by omega
   have H1:Hid (∀ m,Rdr b ((w.drewN m).setCell ⟨b,1,none⟩ (.int .i64 ((k:Int)+1))) s (k+1) g 0):=Lib.hid fun m=>(H.out.drews m).at_ (k+1)
   obtain⟨g0,g1,_,_,_,_,_⟩:=H1.out 1;clear hR hy h1;go_enter Tryd.func79,Tryd.ntmps79;go_wp2;go_quiet (fail);go_wp2;go_quiet (fail);go_wp2;go_ret;exact y4h HR.out rfl ((H1.out _).drews _) (z0a (z0a (z0d _ _ _) (z0h b 1 _ _)) (z0d _ _ _))
 ·rw[z3h s k a] at hR
  have HR:=Lib.hid hR;have b1:decide ((k:Int)<(s.size:Int))=false:=by simp;omega
  have b2:decide (k<s.size)=false:=by simp;omega
  clear hR;go_enter Tryd.func79,Tryd.ntmps79;go_wp2;go_quiet (fail);go_wp2_with (go_at_call 26;((with_reducible refine(KF.out _ (H.out.drews _)).mono ?_));rintro e w1 ⟨rfl,hr1,hg1⟩);go_ret;exact z56 HR.out hr1 (z0a (z0d _ _ _) hg1)
theorem Rdr.incz {b:Nat} {w:World} {s:ByteArray} {k g o:Nat} (h:Rdr b w s k g o) (z:Int) (hz:z=(k:Int)+1):Rdr b (w.setCell ⟨b,1,none⟩ (.int .i64 z)) s (k+1) g o:=by subst hz;exact h.at_ (k+1)
abbrev IsT (b:Nat) (s:ByteArray) (g o k:Nat) (y:Int) (v:Bool):Prop:=∀ w,Rdr b w s k g o→Calls Tryd.prog 35 #[.pointer (some ⟨b,0,none⟩),.int .u8 y] w fun e w'=>e= .returned (.bool v)∧Rdr b w' s k g o∧w.grownBy w' (some b)
theorem is_t (c:UInt8) (y:Int) (hy:y=c.toNat) (b:Nat) (s:ByteArray) (k g o:Nat) (ho:o≤100) (v:Bool) (h:isB s k o c=v):IsT b s g o k y v:=fun w hr=>by
 have:=x32 c y hy b w s k g o hr ho;rw[h] at this;exact this.mono fun e w' ⟨a,m,hm⟩=>⟨a,by rw[hm];exact hr.drews m,by rw[hm];exact z0d _ m _⟩
theorem y0l (s:ByteArray) (k:Nat) {o:Nat} (c:UInt8) (h:o≠0):isB s k o c=false:=by unfold isB;rw[decide_eq_false h];rfl
theorem z5u {s:ByteArray} {k:Nat} {c:UInt8} (h:s.data.toList[k]?=some c):isB s k 0 c=true:=by unfold isB;rw[decide_eq_true h];rfl
theorem is_no {s:ByteArray} {k:Nat} {c:UInt8} (h:s.data.toList[k]?≠some c):isB s k 0 c=false:=by unfold isB;rw[decide_eq_false h,Bool.and_false]
abbrev FailT (b:Nat) (s:ByteArray) (k g o o':Nat) (z:Int):Prop:=∀ w,Rdr b w s k g o→Calls Tryd.prog 26 #[.pointer (some ⟨b,0,none⟩),.int .i64 z] w fun e w'=>e= .returned (.tuple #[])∧Rdr b w' s k g o'∧w.grownBy w' (some b)
theorem z07 (er:Nat) (z:Int) (hz:z=er) (b:Nat) (s:ByteArray) (k g:Nat):FailT b s k g 0 er z:=fun w h=>by
 have:=z82 er z hz b w s k g 0 h (by omega);rw[if_pos rfl] at this;exact this
theorem z89 (er:Nat) (z:Int) (hz:z=er) (b:Nat) (s:ByteArray) (k g:Nat) {o:Nat} (h0:o≠0) (h1:o≤100):FailT b s k g o o z:=fun w h=>by
 have:=z82 er z hz b w s k g o h h1;rw[if_neg h0] at this;exact this
abbrev DigT (b:Nat) (s:ByteArray) (k g:Nat) (least:Int) (r:Int) (k' o':Nat):Prop:=∀ w,Rdr b w s k g 0→Calls Tryd.prog 79 #[.pointer (some ⟨b,0,none⟩),.int .i64 least] w fun e w'=>e= .returned (.int .i64 r)∧Rdr b w' s k' g o'∧w.grownBy w' (some b)
theorem x0k (b:Nat) {s:ByteArray} {k:Nat} (g:Nat) {least:Int} (h:numb s.data.toList k least=none) (h0:0≤least) (h8:least≤8) (hs:s.size≤1000000) (hk:k≤s.size):DigT b s k g least (-1) k 1:=fun w hr=>by
 have:=z9p least h0 h8 b w s k g hr hs hk;rw[h] at this;exact this.mono fun e w' ⟨a,c,d⟩=>⟨c,d,a⟩
theorem y4v (b:Nat) {s:ByteArray} {k:Nat} (g:Nat) {least n:Int} (h:numb s.data.toList k least=some n) (h0:0≤least) (h8:least≤8) (hs:s.size≤1000000) (hk:k≤s.size):DigT b s k g least n (k+1) 0:=fun w hr=>by
 have:=z9p least h0 h8 b w s k g hr hs hk;rw[h] at this;exact this.mono fun e w' ⟨a,c,d⟩=>⟨c,d,a⟩
def PostZ (b:Nat) (w:World) (s:ByteArray) (g:Nat) (R:Res (Int × Int)) (e:Ending) (w':World):Prop:=w.grownBy w' (some b)∧match R with
 | .bad q=>e= .returned (.tuple #[.int .i64 0,.int .i64 0])∧Rdr b w' s q g 1
 | .ok p q=>e= .returned (.tuple #[.int .i64 p.1,.int .i64 p.2])∧Rdr b w' s q g 0
theorem z4q {b:Nat} {w w':World} {s:ByteArray} {g q:Nat} {R:Res (Int × Int)} (h:R= .bad q) (hr:Rdr b w' s q g 1) (hg:w.grownBy w' (some b)):PostZ b w s g R (.returned (.tuple #[.int .i64 0,.int .i64 0])) w':=by subst h;exact⟨hg,rfl,hr⟩
theorem z9d {b:Nat} {w w':World} {s:ByteArray} {g q:Nat} {lo hi:Int} {R:Res (Int × Int)} (h:R= .ok (lo,hi) q) (hr:Rdr b w' s q g 0) (hg:w.grownBy w' (some b)):PostZ b w s g R (.returned (.tuple #[.int .i64 lo,.int .i64 hi])) w':=by subst h;exact⟨hg,rfl,hr⟩
theorem z7u (b:Nat) (w:World) (s:ByteArray) (k g:Nat) (h:Rdr b w s k g 0) (hs:s.size≤1000000) (hk:k≤s.size):
  Calls Tryd.prog 67 #[.pointer (some ⟨b,0,none⟩)] w (PostZ b w s g (bnds s.data.toList k)):=by
 obtain⟨R,hR⟩:∃ R,R=bnds s.data.toList k:=⟨_,rfl⟩;rw[←hR];unfold bnds at hR;have hsz:s.data.toList.length=s.size:=rfl;have HR:=Lib.hid h;have HG:Hid (w.grownBy w (some b)):=Lib.hid (z5j w _);obtain⟨c0,c1,c2,c3,f1,f2,f3⟩:=h
 rcases h1:numb s.data.toList k 0 with _ | lo
 ·rw[h1] at hR
  have HX:=Lib.hid hR;have KA:=Lib.hid (x0k b g h1 (by omega) (by omega) hs hk);have KB:=Lib.hid (is_t 44 44 rfl b s k g 1 (by omega) false (y0l s k 44 (by omega)));have KC:=Lib.hid (is_t 125 125 rfl b s k g 1 (by omega) false (y0l s k 125 (by omega)));have KF:=Lib.hid (z89 1 1 rfl b s k g (o:=1) (by omega) (by omega));clear hR h1 hsz;go_enter Tryd.func67,Tryd.ntmps67
  go_wp2_with (first
   | (go_at_call 79;(with_reducible refine(Hid.out KA _ (Hid.out HR)).mono ?_);go_must (rintro _ wv ⟨he,hr1,hg1⟩;subst he;have hg2:=z0a (Hid.out HG) hg1;clear HR;have HR:=Lib.hid hr1;clear HG;have HG:=Lib.hid hg2;obtain⟨c0,c1,c2,c3,f1,f2,f3⟩:=hr1;clear hg1 hg2))
   | (go_at_call 35;(with_reducible refine(Hid.out KB _ (Hid.out HR)).mono ?_);go_must (rintro _ wv ⟨he,hr1,hg1⟩;subst he;have hg2:=z0a (Hid.out HG) hg1;clear HR;have HR:=Lib.hid hr1;clear HG;have HG:=Lib.hid hg2;obtain⟨c0,c1,c2,c3,f1,f2,f3⟩:=hr1;clear hg1 hg2))
   | (go_at_call 35;(with_reducible refine(Hid.out KC _ (Hid.out HR)).mono ?_);go_must (rintro _ wv ⟨he,hr1,hg1⟩;subst he;have hg2:=z0a (Hid.out HG) hg1;clear HR;have HR:=Lib.hid hr1;clear HG;have HG:=Lib.hid hg2;obtain⟨c0,c1,c2,c3,f1,f2,f3⟩:=hr1;clear hg1 hg2))
   | (go_at_call 26;(with_reducible refine(Hid.out KF _ (Hid.out HR)).mono ?_);go_must (rintro _ wv ⟨he,hr1,hg1⟩;subst he;have hg2:=z0a (Hid.out HG) hg1;clear HR;have HR:=Lib.hid hr1;clear HG;have HG:=Lib.hid hg2;obtain⟨c0,c1,c2,c3,f1,f2,f3⟩:=hr1;clear hg1 hg2)))
  go_ret2
  exact z4q HX.out HR.out HG.out
 ·rw[h1] at hR
  dsimp only at hR;obtain⟨k1,l0,l8,_⟩:=z5m h1;rw[hsz] at k1;have KA:=Lib.hid (y4v b g h1 (by omega) (by omega) hs hk);have hkb:(k:Int)≤1000000:=by omega
  by_cases h2:s.data.toList[k+1]?=some 44
  ·rw[if_pos h2] at hR
   have k2:=z0r h2;rw[hsz] at k2;have KB:=Lib.hid (is_t 44 44 rfl b s (k+1) g 0 (by omega) true (z5u h2));by_cases h3:s.data.toList[k+2]?=some 125
   ·rw[if_pos h3] at hR
    have HX:=Lib.hid hR;have KC:=Lib.hid (is_t 125 125 rfl b s (k+2) g 0 (by omega) true (z5u h3));clear hR h1 h2 h3 hsz;go_enter Tryd.func67,Tryd.ntmps67
    go_wp2_with (first
     | (go_at_call 79;(with_reducible refine(Hid.out KA _ (Hid.out HR)).mono ?_);go_must (rintro _ wv ⟨he,hr1,hg1⟩;subst he;have hg2:=z0a (Hid.out HG) hg1;clear HR;have HR:=Lib.hid hr1;clear HG;have HG:=Lib.hid hg2;obtain⟨c0,c1,c2,c3,f1,f2,f3⟩:=hr1;clear hg1 hg2))
     | (go_at_call 35;(with_reducible refine(Hid.out KB _ (Hid.out HR)).mono ?_);go_must (rintro _ wv ⟨he,hr1,hg1⟩;subst he;have hg2:=z0a (Hid.out HG) hg1;clear HR;have HR:=Lib.hid hr1;clear HG;have HG:=Lib.hid hg2;obtain⟨c0,c1,c2,c3,f1,f2,f3⟩:=hr1;clear hg1 hg2))
     | (go_at_call 35;(with_reducible refine(Hid.out KC _ (Rdr.incz (Hid.out HR) _ ?_)).mono ?_);(omega);go_must (rintro _ wv ⟨he,hr1,hg1⟩;subst he;have hg2:=z0a (z0a (Hid.out HG) (z0h b 1 _ _)) hg1;clear HR;have HR:=Lib.hid hr1;clear HG;have HG:=Lib.hid hg2;obtain⟨c0,c1,c2,c3,f1,f2,f3⟩:=hr1;clear hg1 hg2))
     | (go_at_call 35;(with_reducible refine(Hid.out KC _ (Hid.out HR)).mono ?_);go_must (rintro _ wv ⟨he,hr1,hg1⟩;subst he;have hg2:=z0a (Hid.out HG) hg1;clear HR;have HR:=Lib.hid hr1;clear HG;have HG:=Lib.hid hg2;obtain⟨c0,c1,c2,c3,f1,f2,f3⟩:=hr1;clear hg1 hg2)))
    go_ret2
    exact z9d HX.out (Rdr.incz HR.out _ (by omega)) (z0a HG.out (z0h b 1 _ _))
   ·rw[if_neg h3] at hR
    have KC:=Lib.hid (is_t 125 125 rfl b s (k+2) g 0 (by omega) false (is_no h3))
    rcases h4:numb s.data.toList (k+2) lo with _ | hi
    ·rw[h4] at hR
     have HX:=Lib.hid hR;have KD:=Lib.hid (x0k b g h4 l0 l8 hs (by omega));have KE:=Lib.hid (is_t 125 125 rfl b s (k+2) g 1 (by omega) false (y0l s (k+2) 125 (by omega)));have KF:=Lib.hid (z89 1 1 rfl b s (k+2) g (o:=1) (by omega) (by omega));clear hR h1 h2 h3 h4 hsz;go_enter Tryd.func67,Tryd.ntmps67
     go_wp2_with (first
      | (go_at_call 79;(with_reducible refine(Hid.out KA _ (Hid.out HR)).mono ?_);go_must (rintro _ wv ⟨he,hr1,hg1⟩;subst he;have hg2:=z0a (Hid.out HG) hg1;clear HR;have HR:=Lib.hid hr1;clear HG;have HG:=Lib.hid hg2;obtain⟨c0,c1,c2,c3,f1,f2,f3⟩:=hr1;clear hg1 hg2))
      | (go_at_call 35;(with_reducible refine(Hid.out KB _ (Hid.out HR)).mono ?_);go_must (rintro _ wv ⟨he,hr1,hg1⟩;subst he;have hg2:=z0a (Hid.out HG) hg1;clear HR;have HR:=Lib.hid hr1;clear HG;have HG:=Lib.hid hg2;obtain⟨c0,c1,c2,c3,f1,f2,f3⟩:=hr1;clear hg1 hg2))
      | (go_at_call 35;(with_reducible refine(Hid.out KC _ (Rdr.incz (Hid.out HR) _ ?_)).mono ?_);(omega);go_must (rintro _ wv ⟨he,hr1,hg1⟩;subst he;have hg2:=z0a (z0a (Hid.out HG) (z0h b 1 _ _)) hg1;clear HR;have HR:=Lib.hid hr1;clear HG;have HG:=Lib.hid hg2;obtain⟨c0,c1,c2,c3,f1,f2,f3⟩:=hr1;clear hg1 hg2))
      | (go_at_call 79;(with_reducible refine(Hid.out KD _ (Hid.out HR)).mono ?_);go_must (rintro _ wv ⟨he,hr1,hg1⟩;subst he;have hg2:=z0a (Hid.out HG) hg1;clear HR;have HR:=Lib.hid hr1;clear HG;have HG:=Lib.hid hg2;obtain⟨c0,c1,c2,c3,f1,f2,f3⟩:=hr1;clear hg1 hg2))
      | (go_at_call 35;(with_reducible refine(Hid.out KE _ (Hid.out HR)).mono ?_);go_must (rintro _ wv ⟨he,hr1,hg1⟩;subst he;have hg2:=z0a (Hid.out HG) hg1;clear HR;have HR:=Lib.hid hr1;clear HG;have HG:=Lib.hid hg2;obtain⟨c0,c1,c2,c3,f1,f2,f3⟩:=hr1;clear hg1 hg2))
      | (go_at_call 26;(with_reducible refine(Hid.out KF _ (Hid.out HR)).mono ?_);go_must (rintro _ wv ⟨he,hr1,hg1⟩;subst he;have hg2:=z0a (Hid.out HG) hg1;clear HR;have HR:=Lib.hid hr1;clear HG;have HG:=Lib.hid hg2;obtain⟨c0,c1,c2,c3,f1,f2,f3⟩:=hr1;clear hg1 hg2)))
     go_ret2
     exact z4q HX.out HR.out HG.out
    ·rw[h4] at hR
     dsimp only at hR;have k3:=(z5m h4).1;rw[hsz] at k3;have KD:=Lib.hid (y4v b g h4 l0 l8 hs (by omega));unfold closeB at hR;by_cases h5:s.data.toList[k+3]?=some 125
     ·rw[if_pos h5] at hR
      have HX:=Lib.hid hR;have KE:=Lib.hid (is_t 125 125 rfl b s (k+3) g 0 (by omega) true (z5u h5));clear hR h1 h2 h3 h4 h5 hsz;go_enter Tryd.func67,Tryd.ntmps67
      go_wp2_with (first
       | (go_at_call 79;(with_reducible refine(Hid.out KA _ (Hid.out HR)).mono ?_);go_must (rintro _ wv ⟨he,hr1,hg1⟩;subst he;have hg2:=z0a (Hid.out HG) hg1;clear HR;have HR:=Lib.hid hr1;clear HG;have HG:=Lib.hid hg2;obtain⟨c0,c1,c2,c3,f1,f2,f3⟩:=hr1;clear hg1 hg2))
       | (go_at_call 35;(with_reducible refine(Hid.out KB _ (Hid.out HR)).mono ?_);go_must (rintro _ wv ⟨he,hr1,hg1⟩;subst he;have hg2:=z0a (Hid.out HG) hg1;clear HR;have HR:=Lib.hid hr1;clear HG;have HG:=Lib.hid hg2;obtain⟨c0,c1,c2,c3,f1,f2,f3⟩:=hr1;clear hg1 hg2))
       | (go_at_call 35;(with_reducible refine(Hid.out KC _ (Rdr.incz (Hid.out HR) _ ?_)).mono ?_);(omega);go_must (rintro _ wv ⟨he,hr1,hg1⟩;subst he;have hg2:=z0a (z0a (Hid.out HG) (z0h b 1 _ _)) hg1;clear HR;have HR:=Lib.hid hr1;clear HG;have HG:=Lib.hid hg2;obtain⟨c0,c1,c2,c3,f1,f2,f3⟩:=hr1;clear hg1 hg2))
       | (go_at_call 79;(with_reducible refine(Hid.out KD _ (Hid.out HR)).mono ?_);go_must (rintro _ wv ⟨he,hr1,hg1⟩;subst he;have hg2:=z0a (Hid.out HG) hg1;clear HR;have HR:=Lib.hid hr1;clear HG;have HG:=Lib.hid hg2;obtain⟨c0,c1,c2,c3,f1,f2,f3⟩:=hr1;clear hg1 hg2))
       | (go_at_call 35;(with_reducible refine(Hid.out KE _ (Hid.out HR)).mono ?_);go_must (rintro _ wv ⟨he,hr1,hg1⟩;subst he;have hg2:=z0a (Hid.out HG) hg1;clear HR;have HR:=Lib.hid hr1;clear HG;have HG:=Lib.hid hg2;obtain⟨c0,c1,c2,c3,f1,f2,f3⟩:=hr1;clear hg1 hg2)))
      go_ret2
      exact z9d HX.out (Rdr.incz HR.out _ (by omega)) (z0a HG.out (z0h b 1 _ _))
     ·rw[if_neg h5] at hR
      have HX:=Lib.hid hR;have KE:=Lib.hid (is_t 125 125 rfl b s (k+3) g 0 (by omega) false (is_no h5));have KF:=Lib.hid (z07 1 1 rfl b s (k+3) g);clear hR h1 h2 h3 h4 h5 hsz;go_enter Tryd.func67,Tryd.ntmps67
      go_wp2_with (first
       | (go_at_call 79;(with_reducible refine(Hid.out KA _ (Hid.out HR)).mono ?_);go_must (rintro _ wv ⟨he,hr1,hg1⟩;subst he;have hg2:=z0a (Hid.out HG) hg1;clear HR;have HR:=Lib.hid hr1;clear HG;have HG:=Lib.hid hg2;obtain⟨c0,c1,c2,c3,f1,f2,f3⟩:=hr1;clear hg1 hg2))
       | (go_at_call 35;(with_reducible refine(Hid.out KB _ (Hid.out HR)).mono ?_);go_must (rintro _ wv ⟨he,hr1,hg1⟩;subst he;have hg2:=z0a (Hid.out HG) hg1;clear HR;have HR:=Lib.hid hr1;clear HG;have HG:=Lib.hid hg2;obtain⟨c0,c1,c2,c3,f1,f2,f3⟩:=hr1;clear hg1 hg2))
       | (go_at_call 35;(with_reducible refine(Hid.out KC _ (Rdr.incz (Hid.out HR) _ ?_)).mono ?_);(omega);go_must (rintro _ wv ⟨he,hr1,hg1⟩;subst he;have hg2:=z0a (z0a (Hid.out HG) (z0h b 1 _ _)) hg1;clear HR;have HR:=Lib.hid hr1;clear HG;have HG:=Lib.hid hg2;obtain⟨c0,c1,c2,c3,f1,f2,f3⟩:=hr1;clear hg1 hg2))
       | (go_at_call 79;(with_reducible refine(Hid.out KD _ (Hid.out HR)).mono ?_);go_must (rintro _ wv ⟨he,hr1,hg1⟩;subst he;have hg2:=z0a (Hid.out HG) hg1;clear HR;have HR:=Lib.hid hr1;clear HG;have HG:=Lib.hid hg2;obtain⟨c0,c1,c2,c3,f1,f2,f3⟩:=hr1;clear hg1 hg2))
       | (go_at_call 35;(with_reducible refine(Hid.out KE _ (Hid.out HR)).mono ?_);go_must (rintro _ wv ⟨he,hr1,hg1⟩;subst he;have hg2:=z0a (Hid.out HG) hg1;clear HR;have HR:=Lib.hid hr1;clear HG;have HG:=Lib.hid hg2;obtain⟨c0,c1,c2,c3,f1,f2,f3⟩:=hr1;clear hg1 hg2))
       | (go_at_call 26;(with_reducible refine(Hid.out KF _ (Hid.out HR)).mono ?_);go_must (rintro _ wv ⟨he,hr1,hg1⟩;subst he;have hg2:=z0a (Hid.out HG) hg1;clear HR;have HR:=Lib.hid hr1;clear HG;have HG:=Lib.hid hg2;obtain⟨c0,c1,c2,c3,f1,f2,f3⟩:=hr1;clear hg1 hg2)))
      go_ret2
      exact z4q HX.out HR.out HG.out
  ·rw[if_neg h2] at hR
   unfold closeB at hR;have KB:=Lib.hid (is_t 44 44 rfl b s (k+1) g 0 (by omega) false (is_no h2));by_cases h3:s.data.toList[k+1]?=some 125
   ·rw[if_pos h3] at hR
    have HX:=Lib.hid hR;have KC:=Lib.hid (is_t 125 125 rfl b s (k+1) g 0 (by omega) true (z5u h3));clear hR h1 h2 h3 hsz;go_enter Tryd.func67,Tryd.ntmps67
    go_wp2_with (first
     | (go_at_call 79;(with_reducible refine(Hid.out KA _ (Hid.out HR)).mono ?_);go_must (rintro _ wv ⟨he,hr1,hg1⟩;subst he;have hg2:=z0a (Hid.out HG) hg1;clear HR;have HR:=Lib.hid hr1;clear HG;have HG:=Lib.hid hg2;obtain⟨c0,c1,c2,c3,f1,f2,f3⟩:=hr1;clear hg1 hg2))
     | (go_at_call 35;(with_reducible refine(Hid.out KB _ (Hid.out HR)).mono ?_);go_must (rintro _ wv ⟨he,hr1,hg1⟩;subst he;have hg2:=z0a (Hid.out HG) hg1;clear HR;have HR:=Lib.hid hr1;clear HG;have HG:=Lib.hid hg2;obtain⟨c0,c1,c2,c3,f1,f2,f3⟩:=hr1;clear hg1 hg2))
     | (go_at_call 35;(with_reducible refine(Hid.out KC _ (Hid.out HR)).mono ?_);go_must (rintro _ wv ⟨he,hr1,hg1⟩;subst he;have hg2:=z0a (Hid.out HG) hg1;clear HR;have HR:=Lib.hid hr1;clear HG;have HG:=Lib.hid hg2;obtain⟨c0,c1,c2,c3,f1,f2,f3⟩:=hr1;clear hg1 hg2)))
    go_ret2
    exact z9d HX.out (Rdr.incz HR.out _ (by omega)) (z0a HG.out (z0h b 1 _ _))
   ·rw[if_neg h3] at hR
    have HX:=Lib.hid hR;have KC:=Lib.hid (is_t 125 125 rfl b s (k+1) g 0 (by omega) false (is_no h3));have KF:=Lib.hid (z07 1 1 rfl b s (k+1) g);clear hR h1 h2 h3 hsz;go_enter Tryd.func67,Tryd.ntmps67
    go_wp2_with (first
     | (go_at_call 79;(with_reducible refine(Hid.out KA _ (Hid.out HR)).mono ?_);go_must (rintro _ wv ⟨he,hr1,hg1⟩;subst he;have hg2:=z0a (Hid.out HG) hg1;clear HR;have HR:=Lib.hid hr1;clear HG;have HG:=Lib.hid hg2;obtain⟨c0,c1,c2,c3,f1,f2,f3⟩:=hr1;clear hg1 hg2))
     | (go_at_call 35;(with_reducible refine(Hid.out KB _ (Hid.out HR)).mono ?_);go_must (rintro _ wv ⟨he,hr1,hg1⟩;subst he;have hg2:=z0a (Hid.out HG) hg1;clear HR;have HR:=Lib.hid hr1;clear HG;have HG:=Lib.hid hg2;obtain⟨c0,c1,c2,c3,f1,f2,f3⟩:=hr1;clear hg1 hg2))
     | (go_at_call 35;(with_reducible refine(Hid.out KC _ (Hid.out HR)).mono ?_);go_must (rintro _ wv ⟨he,hr1,hg1⟩;subst he;have hg2:=z0a (Hid.out HG) hg1;clear HR;have HR:=Lib.hid hr1;clear HG;have HG:=Lib.hid hg2;obtain⟨c0,c1,c2,c3,f1,f2,f3⟩:=hr1;clear hg1 hg2))
     | (go_at_call 26;(with_reducible refine(Hid.out KF _ (Hid.out HR)).mono ?_);go_must (rintro _ wv ⟨he,hr1,hg1⟩;subst he;have hg2:=z0a (Hid.out HG) hg1;clear HR;have HR:=Lib.hid hr1;clear HG;have HG:=Lib.hid hg2;obtain⟨c0,c1,c2,c3,f1,f2,f3⟩:=hr1;clear hg1 hg2)))
    go_ret2
    exact z4q HX.out HR.out HG.out
theorem z9l {s:Bs} {k:Nat} (acc:List Sp) (hk:k≤s.length):match goS s k acc with
  | .bad _=>True
  | .ok l q=>l.length+k≤acc.length+q:=by
 refine y00 (s:=s) (fun k acc=>match goS s k acc with
  | .bad _=>True
  | .ok l q=>l.length+k≤acc.length+q) ?_ ?_ ?_ (s.length - k+1) k acc (by omega) hk
 ·intro k acc h h1
  rw[z8q h h1];dsimp only;omega
 ·intro k q acc hk he hi
  rw[z2j he hi];trivial
 ·intro k q acc sp hk he hi ih
  obtain⟨a,b⟩:=z66 hk hi;rw[z3u he hk hi]
  rcases hg:goS s q (acc++[sp]) with q' | ⟨l,q'⟩
  ·trivial
  ·rw[hg] at ih;dsimp only at ih ⊢;rw[List.length_append] at ih;simp at ih;omega
theorem x07 {B:Nat} {w0 w:World} {A:Option Addr} {n c b:Nat} {l:List Sp} (h:RowS B w0 w (.slice A n c) l) (hb:b<B) (u:Value):RdS (w.setCell ⟨b,1,none⟩ u).heap.size (w.setCell ⟨b,1,none⟩ u) A l:=fun hn=>by
 have hrow:=ownsRow_setCell_below h.row (a:=⟨b,1,none⟩) hb u
 rcases hrow.2 with ⟨e,h0⟩ | ⟨g,cap,cur,e,_,hg,_⟩
 ·omega
 ·injection e with e1 e2 e3
  subst e1 e2 e3;exact⟨_,rfl,(Array.getElem?_eq_some_iff.1 hg).1,fun j u hu=>hrow.cells (g:=g) rfl j u hu⟩
abbrev SpT (s:ByteArray) (k:Nat) (l:List Sp) (zn zb:Int):Prop:=∀ (z:Int) (w:World),z=k→Calls Tryd.prog 84 #[.string s,.int .i64 z] w fun e w'=>∃ A n c,e= .returned (.tuple #[.slice A n c,.int .i64 zn,.int .i64 zb])∧n=l.length∧(∀ b u,b<w.heap.size→RdS (w'.setCell ⟨b,1,none⟩ u).heap.size (w'.setCell ⟨b,1,none⟩ u) A l)∧Below w.heap.size w w'
theorem sp_t (s:ByteArray) (k:Nat) (hk:k≤s.size) (hs:s.size≤1000000) {R:Res (List Sp)} (hR:goS s.data.toList k []=R):SpT s k (lstS R) (nxtS R) (badS R):=fun z w hz=>by
 subst hz hR;refine(y30 s k hk hs w).mono fun e w' ⟨v,h1,h2⟩=>?_
 obtain⟨A,c,rfl⟩:=z1k h2.row;exact⟨A,_,c,h1,rfl,fun b u hb=>x07 h2 hb u,h2.below⟩
abbrev OfT (l:List Sp) (no:Bool) (A:Option Addr) (n c:Nat) (W:World):Prop:=∀ w,Below W.heap.size W w→Calls Tryd.prog 77 #[.slice A n c,.bool no] w fun e w'=>e= .returned (.agg #[.int .u64 (ofS l no).1.toNat,.int .u64 (ofS l no).2.1.toNat,.int .u64 (ofS l no).2.2.1.toNat,.int .u64 (ofS l no).2.2.2.toNat])∧Below w.heap.size w w'
theorem of_t (l:List Sp) (no:Bool) (A:Option Addr) (n c:Nat) (W:World) (hn:n=l.length) (hr:RdS W.heap.size W A l) (hm:l.length≤1000000):OfT l no A n c W:=fun w hb=>by
 subst hn;exact x0w A c l no w ((hr.keep hb).up hb.size) hm
def PostK (b:Nat) (w:World) (s:ByteArray) (g:Nat) (R:Res S4) (e:Ending) (w':World):Prop:=w.grownBy w' (some b)∧match R with
 | .bad q=>e= .returned (.agg #[.int .i64 0,.int .u64 0,.int .u64 0,.int .u64 0,.int .u64 0,.slice none 0 0,.int .i64 0,.int .i64 0,.int .i64 0])∧Rdr b w' s q g 1
 | .ok S q=>e= .returned (valR (rSet S) none 0)∧Rdr b w' s q g 0
theorem z93 {b:Nat} {w w':World} {s:ByteArray} {g q:Nat} {R:Res S4} (h:R= .bad q) (hr:Rdr b w' s q g 1) (hg:w.grownBy w' (some b)):PostK b w s g R (.returned (.agg #[.int .i64 0,.int .u64 0,.int .u64 0,.int .u64 0,.int .u64 0,.slice none 0 0,.int .i64 0,.int .i64 0,.int .i64 0])) w':=by subst h;exact⟨hg,rfl,hr⟩
theorem y2j {b:Nat} {w w':World} {s:ByteArray} {g q:Nat} {S:S4} {R:Res S4} (h:R= .ok S q) (hr:Rdr b w' s q g 0) (hg:w.grownBy w' (some b)):PostK b w s g R (.returned (.agg #[.int .i64 1,.int .u64 S.1.toNat,.int .u64 S.2.1.toNat,.int .u64 S.2.2.1.toNat,.int .u64 S.2.2.2.toNat,.slice none 0 0,.int .i64 0,.int .i64 0,.int .i64 0])) w':=by subst h;exact⟨hg,rfl,hr⟩
theorem Rdr.low {b:Nat} {w w':World} {s:ByteArray} {k g o:Nat} (h:Rdr b w s k g o) (hb:Below w.heap.size w w'):Rdr b w' s k g o:=h.below hb
theorem z1v (w:World):Below w.heap.size w w.drew:=(Below.refl _ _).drew
theorem Box9.low {w w':World} {c:Nat} {v0 v1 v2 v3 v4 v5 v6 v7 v8:Value} (h:Box9 w c v0 v1 v2 v3 v4 v5 v6 v7 v8) (hb:Below w.heap.size w w'):Box9 w' c v0 v1 v2 v3 v4 v5 v6 v7 v8:=h.grown (b:=c+1) (z0f hb) (by omega)
theorem z98 (b:Nat) (w:World) (s:ByteArray) (k g:Nat) (h:Rdr b w s k g 0) (hs:s.size≤1000000) (hk:k≤s.size):
  Calls Tryd.prog 76 #[.pointer (some ⟨b,0,none⟩)] w (PostK b w s g (cls s.data.toList k)):=by
 obtain⟨R,hR⟩:∃ R,R=cls s.data.toList k:=⟨_,rfl⟩;rw[←hR];unfold cls at hR;have hsz:s.data.toList.length=s.size:=rfl;have hb:=Lib.hid h.lt;have HR:=Lib.hid (h.low (z0b w (.cells #[.int .i64 0,.int .u64 0,.int .u64 0,.int .u64 0,.int .u64 0,.slice none 0 0,.int .i64 0,.int .i64 0,.int .i64 0] 27)));have HG:Hid (w.grownBy (w.alloc (.cells #[.int .i64 0,.int .u64 0,.int .u64 0,.int .u64 0,.int .u64 0,.slice none 0 0,.int .i64 0,.int .i64 0,.int .i64 0] 27)) (some b)):=Lib.hid (z0f (z0b w _));have HB:=Lib.hid (Box9.new w (.int .i64 0) (.int .u64 0) (.int .u64 0) (.int .u64 0) (.int .u64 0) (.slice none 0 0) (.int .i64 0) (.int .i64 0) (.int .i64 0));obtain⟨c0,c1,c2,c3,f1,f2,f3⟩:=HR.out;obtain⟨d0,d1,d2,d3,d4,d5,d6,d7,d8,_⟩:=HB.out;obtain⟨e0,e1,e2,e3,e4,e5,e6,e7,e8⟩:=Box9.freed HB.out;have hkb:(k:Int)≤1000000:=by omega
 clear h;by_cases h1:s.data.toList[k]?=some 94
 ·rw[if_pos h1] at hR
  have k1:=z0r h1;rw[hsz] at k1;have KN:=Lib.hid (is_t 94 94 rfl b s k g 0 (by omega) true (z5u h1));have hcnt:=z9l (s:=s.data.toList) (k:=(k+1)) [] (by rw[hsz];omega)
  rcases hgo:goS s.data.toList (k+1) [] with q | ⟨l,q⟩
  ·have KS:=Lib.hid (show SpT s (k+1) [] (-1) q from sp_t s (k+1) (by omega) hs hgo)
   rw[hgo] at hR hcnt;have HX:=Lib.hid hR;have KF:=Lib.hid (z07 1 1 rfl b s q g);clear hR hgo h1 hsz hcnt;go_enter Tryd.func76,Tryd.ntmps76;go_wp2_with (go_at_call 35;(with_reducible refine(Hid.out KN _ (Hid.out HR)).mono ?_);go_must (rintro _ wv ⟨he,hr1,hg1⟩;subst he;have hg2:=z0a (Hid.out HG) hg1;have hb2:=Box9.grown (Hid.out HB) hg1 (Nat.ne_of_gt (Hid.out hb));clear HR;have HR:=Lib.hid hr1;clear HG;have HG:=Lib.hid hg2;clear HB;have HB:=Lib.hid hb2;obtain⟨c0,c1,c2,c3,f1,f2,f3⟩:=hr1;obtain⟨d0,d1,d2,d3,d4,d5,d6,d7,d8,_⟩:=HB.out;obtain⟨e0,e1,e2,e3,e4,e5,e6,e7,e8⟩:=Box9.freed HB.out;clear hg1 hg2 hb2));have HRD:=Lib.hid (Rdr.low (Rdr.incz HR.out ((k:Int)+1) rfl) (z1v _));have HGD:=Lib.hid (z0a (z0a HG.out (z0h b 1 wv (.int .i64 ((k:Int)+1)))) (z0f (b:=b) (z1v _)));have HBD:=Lib.hid (Box9.low (Box9.other HB.out (a:=⟨b,1,none⟩) (Nat.ne_of_lt hb.out) (.int .i64 ((k:Int)+1))) (z1v _));obtain⟨c0,c1,c2,c3,f1,f2,f3⟩:=(Rdr.incz HR.out ((k:Int)+1) rfl)
   go_region_held3 (fun w'=>w'.cell? ⟨b,0,none⟩=some (.string s)∧w'.cell? ⟨b,1,none⟩=some (.int .i64 ((k:Int)+1)))
    (first | go_keep | exact⟨c0,c1⟩)
    (first
     | (go_at_call 84;(with_reducible refine(KS.out _ _ ?_).mono ?_);(omega);go_must (rintro _ wq ⟨A1,n1,c1',he,hn1,hrd,hbl⟩;subst he;have hr1:=HRD.out.low hbl;have hb2:=HBD.out.low hbl;have hg2:=z0a HGD.out (z0f hbl);clear HR;have HR:=Lib.hid hr1;clear HG;have HG:=Lib.hid hg2;clear HB;have HB:=Lib.hid hb2;have HRDS:=Lib.hid (hrd b (.int .i64 q) HRD.out.lt);have HN1:=Lib.hid hn1;clear hn1;obtain⟨c0,c1,c2,c3,f1,f2,f3⟩:=hr1;obtain⟨d0,d1,d2,d3,d4,d5,d6,d7,d8,_⟩:=HB.out;obtain⟨e0,e1,e2,e3,e4,e5,e6,e7,e8⟩:=Box9.freed HB.out;clear hbl hg2 hb2 hrd)))
   go_wp2_with (go_at_call 26;(with_reducible refine(Hid.out KF _ (Rdr.at_ (Hid.out HR) q)).mono ?_);go_must (rintro _ wv ⟨he,hr1,hg1⟩;subst he;have hg2:=z0a (z0a (Hid.out HG) (z0h b 1 _ _)) hg1;have hb2:=Box9.grown (Box9.other (Hid.out HB) (Nat.ne_of_lt (Hid.out hb)) _) hg1 (Nat.ne_of_gt (Hid.out hb));clear HR;have HR:=Lib.hid hr1;clear HG;have HG:=Lib.hid hg2;clear HB;have HB:=Lib.hid hb2;obtain⟨c0,c1,c2,c3,f1,f2,f3⟩:=hr1;obtain⟨d0,d1,d2,d3,d4,d5,d6,d7,d8,_⟩:=HB.out;obtain⟨e0,e1,e2,e3,e4,e5,e6,e7,e8⟩:=Box9.freed HB.out;clear hg1 hg2 hb2));obtain⟨W3,hW3,hbx,hr,hgw⟩:=endT (.int .i64 0) (.int .u64 0) (.int .u64 0) (.int .u64 0) (.int .u64 0) (.slice none 0 0) (.int .i64 0) (.int .i64 0) (.int .i64 0) hb.out HR.out HG.out HB.out;unfold put9 at hW3;rw[←hW3];obtain⟨l0,l1,l2,l3,l4,l5,l6,l7,l8,_⟩:=hbx;exact bodyPost_ret (v:= .agg #[.int .i64 0,.int .u64 0,.int .u64 0,.int .u64 0,.int .u64 0,.slice none 0 0,.int .i64 0,.int .i64 0,.int .i64 0]) (by simp[results,Tryd.results76,go_sem,l0,l1,l2,l3,l4,l5,l6,l7,l8]) rfl (z93 HX.out hr hgw)
  ·have KS:=Lib.hid (show SpT s (k+1) l q 0 from sp_t s (k+1) (by omega) hs hgo)
   rw[hgo] at hR hcnt;dsimp only at hR hcnt;have hqb:=(z85 (by rw[hsz];omega) hgo).2.1;rw[hsz] at hqb;have hll:l.length≤1000000:=by simp at hcnt;omega
   obtain⟨S,hS⟩:∃ S,S=ofS l true:=⟨_,rfl⟩;have HX:Hid (R= .ok S q):=Lib.hid (by rw[hR,hS,y4g]);have KO:Hid (∀ A n c W,n=l.length→RdS W.heap.size W A l→OfT l true A n c W):=Lib.hid fun A n c W h1 h2=>of_t l true A n c W h1 h2 hll
   have hq0:¬ (q:Int)<0:=by omega
   simp only[OfT] at KO;rw[←hS] at KO;clear hR hgo h1 hsz hcnt hll hS;go_enter Tryd.func76,Tryd.ntmps76;go_wp2_with (go_at_call 35;(with_reducible refine(Hid.out KN _ (Hid.out HR)).mono ?_);go_must (rintro _ wv ⟨he,hr1,hg1⟩;subst he;have hg2:=z0a (Hid.out HG) hg1;have hb2:=Box9.grown (Hid.out HB) hg1 (Nat.ne_of_gt (Hid.out hb));clear HR;have HR:=Lib.hid hr1;clear HG;have HG:=Lib.hid hg2;clear HB;have HB:=Lib.hid hb2;obtain⟨c0,c1,c2,c3,f1,f2,f3⟩:=hr1;obtain⟨d0,d1,d2,d3,d4,d5,d6,d7,d8,_⟩:=HB.out;obtain⟨e0,e1,e2,e3,e4,e5,e6,e7,e8⟩:=Box9.freed HB.out;clear hg1 hg2 hb2));have HRD:=Lib.hid (Rdr.low (Rdr.incz HR.out ((k:Int)+1) rfl) (z1v _));have HGD:=Lib.hid (z0a (z0a HG.out (z0h b 1 wv (.int .i64 ((k:Int)+1)))) (z0f (b:=b) (z1v _)));have HBD:=Lib.hid (Box9.low (Box9.other HB.out (a:=⟨b,1,none⟩) (Nat.ne_of_lt hb.out) (.int .i64 ((k:Int)+1))) (z1v _));obtain⟨c0,c1,c2,c3,f1,f2,f3⟩:=(Rdr.incz HR.out ((k:Int)+1) rfl)
   go_region_held3 (fun w'=>w'.cell? ⟨b,0,none⟩=some (.string s)∧w'.cell? ⟨b,1,none⟩=some (.int .i64 ((k:Int)+1)))
    (first | go_keep | exact⟨c0,c1⟩)
    (first
     | (go_at_call 84;(with_reducible refine(KS.out _ _ ?_).mono ?_);(omega);go_must (rintro _ wq ⟨A1,n1,c1',he,hn1,hrd,hbl⟩;subst he;have hr1:=HRD.out.low hbl;have hb2:=HBD.out.low hbl;have hg2:=z0a HGD.out (z0f hbl);clear HR;have HR:=Lib.hid hr1;clear HG;have HG:=Lib.hid hg2;clear HB;have HB:=Lib.hid hb2;have HRDS:=Lib.hid (hrd b (.int .i64 q) HRD.out.lt);have HN1:=Lib.hid hn1;clear hn1;obtain⟨c0,c1,c2,c3,f1,f2,f3⟩:=hr1;obtain⟨d0,d1,d2,d3,d4,d5,d6,d7,d8,_⟩:=HB.out;obtain⟨e0,e1,e2,e3,e4,e5,e6,e7,e8⟩:=Box9.freed HB.out;clear hbl hg2 hb2 hrd)))
   go_wp2_with (go_at_call 77;(with_reducible refine(KO.out _ _ _ _ HN1.out HRDS.out _ (Below.refl _ _)).mono ?_);go_must (rintro _ wv ⟨he,hbl⟩;subst he;have hr1:=(HR.out.at_ q).low hbl;have hb2:=(Box9.other HB.out (a:=⟨b,1,none⟩) (Nat.ne_of_lt hb.out) (.int .i64 q)).low hbl;have hg2:=z0a (z0a HG.out (z0h b 1 _ (.int .i64 q))) (z0f hbl);clear HR;have HR:=Lib.hid hr1;clear HG;have HG:=Lib.hid hg2;clear HB;have HB:=Lib.hid hb2;obtain⟨c0,c1,c2,c3,f1,f2,f3⟩:=hr1;obtain⟨d0,d1,d2,d3,d4,d5,d6,d7,d8,_⟩:=HB.out;obtain⟨e0,e1,e2,e3,e4,e5,e6,e7,e8⟩:=Box9.freed HB.out;clear hbl hg2 hb2));obtain⟨W3,hW3,hbx,hr,hgw⟩:=endT (.int .i64 1) (.int .u64 S.1.toNat) (.int .u64 S.2.1.toNat) (.int .u64 S.2.2.1.toNat) (.int .u64 S.2.2.2.toNat) (.slice none 0 0) (.int .i64 0) (.int .i64 0) (.int .i64 0) hb.out HR.out HG.out HB.out;unfold put9 at hW3;rw[←hW3];obtain⟨l0,l1,l2,l3,l4,l5,l6,l7,l8,_⟩:=hbx;exact bodyPost_ret (v:= .agg #[.int .i64 1,.int .u64 S.1.toNat,.int .u64 S.2.1.toNat,.int .u64 S.2.2.1.toNat,.int .u64 S.2.2.2.toNat,.slice none 0 0,.int .i64 0,.int .i64 0,.int .i64 0]) (by simp[results,Tryd.results76,go_sem,l0,l1,l2,l3,l4,l5,l6,l7,l8]) rfl (y2j HX.out hr hgw)
 ·rw[if_neg h1] at hR
  have KN:=Lib.hid (is_t 94 94 rfl b s k g 0 (by omega) false (is_no h1));have hcnt:=z9l (s:=s.data.toList) (k:=k) [] (by rw[hsz];omega)
  rcases hgo:goS s.data.toList k [] with q | ⟨l,q⟩
  ·have KS:=Lib.hid (show SpT s k [] (-1) q from sp_t s k (by omega) hs hgo)
   rw[hgo] at hR hcnt;have HX:=Lib.hid hR;have KF:=Lib.hid (z07 1 1 rfl b s q g);clear hR hgo h1 hsz hcnt;go_enter Tryd.func76,Tryd.ntmps76;go_wp2_with (go_at_call 35;(with_reducible refine(Hid.out KN _ (Hid.out HR)).mono ?_);go_must (rintro _ wv ⟨he,hr1,hg1⟩;subst he;have hg2:=z0a (Hid.out HG) hg1;have hb2:=Box9.grown (Hid.out HB) hg1 (Nat.ne_of_gt (Hid.out hb));clear HR;have HR:=Lib.hid hr1;clear HG;have HG:=Lib.hid hg2;clear HB;have HB:=Lib.hid hb2;obtain⟨c0,c1,c2,c3,f1,f2,f3⟩:=hr1;obtain⟨d0,d1,d2,d3,d4,d5,d6,d7,d8,_⟩:=HB.out;obtain⟨e0,e1,e2,e3,e4,e5,e6,e7,e8⟩:=Box9.freed HB.out;clear hg1 hg2 hb2));have HRD:=Lib.hid (Rdr.low HR.out (z1v _));have HGD:=Lib.hid (z0a HG.out (z0f (b:=b) (z1v _)));have HBD:=Lib.hid (Box9.low HB.out (z1v _));obtain⟨c0,c1,c2,c3,f1,f2,f3⟩:=HR.out
   go_region_held3 (fun w'=>w'.cell? ⟨b,0,none⟩=some (.string s)∧w'.cell? ⟨b,1,none⟩=some (.int .i64 (k:Int)))
    (first | go_keep | exact⟨c0,c1⟩)
    (first
     | (go_at_call 84;(with_reducible refine(KS.out _ _ ?_).mono ?_);(omega);go_must (rintro _ wq ⟨A1,n1,c1',he,hn1,hrd,hbl⟩;subst he;have hr1:=HRD.out.low hbl;have hb2:=HBD.out.low hbl;have hg2:=z0a HGD.out (z0f hbl);clear HR;have HR:=Lib.hid hr1;clear HG;have HG:=Lib.hid hg2;clear HB;have HB:=Lib.hid hb2;have HRDS:=Lib.hid (hrd b (.int .i64 q) HRD.out.lt);have HN1:=Lib.hid hn1;clear hn1;obtain⟨c0,c1,c2,c3,f1,f2,f3⟩:=hr1;obtain⟨d0,d1,d2,d3,d4,d5,d6,d7,d8,_⟩:=HB.out;obtain⟨e0,e1,e2,e3,e4,e5,e6,e7,e8⟩:=Box9.freed HB.out;clear hbl hg2 hb2 hrd)))
   go_wp2_with (go_at_call 26;(with_reducible refine(Hid.out KF _ (Rdr.at_ (Hid.out HR) q)).mono ?_);go_must (rintro _ wv ⟨he,hr1,hg1⟩;subst he;have hg2:=z0a (z0a (Hid.out HG) (z0h b 1 _ _)) hg1;have hb2:=Box9.grown (Box9.other (Hid.out HB) (Nat.ne_of_lt (Hid.out hb)) _) hg1 (Nat.ne_of_gt (Hid.out hb));clear HR;have HR:=Lib.hid hr1;clear HG;have HG:=Lib.hid hg2;clear HB;have HB:=Lib.hid hb2;obtain⟨c0,c1,c2,c3,f1,f2,f3⟩:=hr1;obtain⟨d0,d1,d2,d3,d4,d5,d6,d7,d8,_⟩:=HB.out;obtain⟨e0,e1,e2,e3,e4,e5,e6,e7,e8⟩:=Box9.freed HB.out;clear hg1 hg2 hb2));obtain⟨W3,hW3,hbx,hr,hgw⟩:=endT (.int .i64 0) (.int .u64 0) (.int .u64 0) (.int .u64 0) (.int .u64 0) (.slice none 0 0) (.int .i64 0) (.int .i64 0) (.int .i64 0) hb.out HR.out HG.out HB.out;unfold put9 at hW3;rw[←hW3];obtain⟨l0,l1,l2,l3,l4,l5,l6,l7,l8,_⟩:=hbx;exact bodyPost_ret (v:= .agg #[.int .i64 0,.int .u64 0,.int .u64 0,.int .u64 0,.int .u64 0,.slice none 0 0,.int .i64 0,.int .i64 0,.int .i64 0]) (by simp[results,Tryd.results76,go_sem,l0,l1,l2,l3,l4,l5,l6,l7,l8]) rfl (z93 HX.out hr hgw)
  ·have KS:=Lib.hid (show SpT s k l q 0 from sp_t s k (by omega) hs hgo)
   rw[hgo] at hR hcnt;dsimp only at hR hcnt;have hqb:=(z85 (by rw[hsz];omega) hgo).2.1;rw[hsz] at hqb;have hll:l.length≤1000000:=by simp at hcnt;omega
   obtain⟨S,hS⟩:∃ S,S=ofS l false:=⟨_,rfl⟩;have HX:Hid (R= .ok S q):=Lib.hid (by rw[hR,hS,x4g]);have KO:Hid (∀ A n c W,n=l.length→RdS W.heap.size W A l→OfT l false A n c W):=Lib.hid fun A n c W h1 h2=>of_t l false A n c W h1 h2 hll
   have hq0:¬ (q:Int)<0:=by omega
   simp only[OfT] at KO;rw[←hS] at KO;clear hR hgo h1 hsz hcnt hll hS;go_enter Tryd.func76,Tryd.ntmps76;go_wp2_with (go_at_call 35;(with_reducible refine(Hid.out KN _ (Hid.out HR)).mono ?_);go_must (rintro _ wv ⟨he,hr1,hg1⟩;subst he;have hg2:=z0a (Hid.out HG) hg1;have hb2:=Box9.grown (Hid.out HB) hg1 (Nat.ne_of_gt (Hid.out hb));clear HR;have HR:=Lib.hid hr1;clear HG;have HG:=Lib.hid hg2;clear HB;have HB:=Lib.hid hb2;obtain⟨c0,c1,c2,c3,f1,f2,f3⟩:=hr1;obtain⟨d0,d1,d2,d3,d4,d5,d6,d7,d8,_⟩:=HB.out;obtain⟨e0,e1,e2,e3,e4,e5,e6,e7,e8⟩:=Box9.freed HB.out;clear hg1 hg2 hb2));have HRD:=Lib.hid (Rdr.low HR.out (z1v _));have HGD:=Lib.hid (z0a HG.out (z0f (b:=b) (z1v _)));have HBD:=Lib.hid (Box9.low HB.out (z1v _));obtain⟨c0,c1,c2,c3,f1,f2,f3⟩:=HR.out
   go_region_held3 (fun w'=>w'.cell? ⟨b,0,none⟩=some (.string s)∧w'.cell? ⟨b,1,none⟩=some (.int .i64 (k:Int)))
    (first | go_keep | exact⟨c0,c1⟩)
    (first
     | (go_at_call 84;(with_reducible refine(KS.out _ _ ?_).mono ?_);(omega);go_must (rintro _ wq ⟨A1,n1,c1',he,hn1,hrd,hbl⟩;subst he;have hr1:=HRD.out.low hbl;have hb2:=HBD.out.low hbl;have hg2:=z0a HGD.out (z0f hbl);clear HR;have HR:=Lib.hid hr1;clear HG;have HG:=Lib.hid hg2;clear HB;have HB:=Lib.hid hb2;have HRDS:=Lib.hid (hrd b (.int .i64 q) HRD.out.lt);have HN1:=Lib.hid hn1;clear hn1;obtain⟨c0,c1,c2,c3,f1,f2,f3⟩:=hr1;obtain⟨d0,d1,d2,d3,d4,d5,d6,d7,d8,_⟩:=HB.out;obtain⟨e0,e1,e2,e3,e4,e5,e6,e7,e8⟩:=Box9.freed HB.out;clear hbl hg2 hb2 hrd)))
   go_wp2_with (go_at_call 77;(with_reducible refine(KO.out _ _ _ _ HN1.out HRDS.out _ (Below.refl _ _)).mono ?_);go_must (rintro _ wv ⟨he,hbl⟩;subst he;have hr1:=(HR.out.at_ q).low hbl;have hb2:=(Box9.other HB.out (a:=⟨b,1,none⟩) (Nat.ne_of_lt hb.out) (.int .i64 q)).low hbl;have hg2:=z0a (z0a HG.out (z0h b 1 _ (.int .i64 q))) (z0f hbl);clear HR;have HR:=Lib.hid hr1;clear HG;have HG:=Lib.hid hg2;clear HB;have HB:=Lib.hid hb2;obtain⟨c0,c1,c2,c3,f1,f2,f3⟩:=hr1;obtain⟨d0,d1,d2,d3,d4,d5,d6,d7,d8,_⟩:=HB.out;obtain⟨e0,e1,e2,e3,e4,e5,e6,e7,e8⟩:=Box9.freed HB.out;clear hbl hg2 hb2));obtain⟨W3,hW3,hbx,hr,hgw⟩:=endT (.int .i64 1) (.int .u64 S.1.toNat) (.int .u64 S.2.1.toNat) (.int .u64 S.2.2.1.toNat) (.int .u64 S.2.2.2.toNat) (.slice none 0 0) (.int .i64 0) (.int .i64 0) (.int .i64 0) hb.out HR.out HG.out HB.out;unfold put9 at hW3;rw[←hW3];obtain⟨l0,l1,l2,l3,l4,l5,l6,l7,l8,_⟩:=hbx;exact bodyPost_ret (v:= .agg #[.int .i64 1,.int .u64 S.1.toNat,.int .u64 S.2.1.toNat,.int .u64 S.2.2.1.toNat,.int .u64 S.2.2.2.toNat,.slice none 0 0,.int .i64 0,.int .i64 0,.int .i64 0]) (by simp[results,Tryd.results76,go_sem,l0,l1,l2,l3,l4,l5,l6,l7,l8]) rfl (y2j HX.out hr hgw)
end Go.Proofs.YtejgbpbljdhndaaDoor
