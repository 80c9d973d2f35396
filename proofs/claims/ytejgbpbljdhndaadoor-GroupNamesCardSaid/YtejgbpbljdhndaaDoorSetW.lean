import Derived.Laws.Bits64b
import Derived.Laws.Bits128
import Derived.Test.YtejgbpbljdhndaaDoorRSame
import Derived.Test.YtejgbpbljdhndaaDoorTold
import Derived.Test.YtejgbpbljdhndaaDoorPop
import Derived.Test.YtejgbpbljdhndaaDoorQTail
namespace Go.Proofs.YtejgbpbljdhndaaDoor
open Go Go.RowKit
set_option maxRecDepth 100000
set_option maxHeartbeats 2000000
theorem and64 (a b:Nat) (ha:a<18446744073709551616) (hb:b<18446744073709551616) {v:Nat} (h:v=a &&& b):bits .and .u64 (a:Int) (b:Int)=(v:Int):=by rw[h];exact bits_and_u64_nat a b ha hb
theorem z4d (a b:Nat) {v:Nat} (h:v=a+b) (hv:v<18446744073709551616):IntKind.u64.wrap ((a:Int)+(b:Int))=(v:Int):=by
 rw[IntKind.wrap_u64,h];omega
theorem x2z (x:Nat) (hx:x<18446744073709551616) (w:World):
  Calls Tryd.prog 80 #[.int .u64 x] w fun e w'=>e= .returned (.int .i64 (cnt (fun i=>x.testBit i) 64))∧w=w':=by
 obtain⟨x1,x2,x3,x4,x5,x6,e1,e2,e3,e4,e5,e6,l1,l2,l2',l3,l4,l5,l6,hr⟩:=y4l x hx;obtain⟨r,hr0⟩:∃ r,r=cnt (fun i=>x.testBit i) 64:=⟨_,rfl⟩;rw[←hr0] at hr ⊢;clear hr0;obtain⟨p1,hp1⟩:∃ p1,p1=(x / 2 &&& 6148914691236517205):=⟨_,rfl⟩;obtain⟨q1,hq1⟩:∃ q1,q1=(x &&& 6148914691236517205):=⟨_,rfl⟩;obtain⟨p2,hp2⟩:∃ p1,p1=(x1 / 4 &&& 3689348814741910323):=⟨_,rfl⟩;obtain⟨q2,hq2⟩:∃ q1,q1=(x1 &&& 3689348814741910323):=⟨_,rfl⟩;obtain⟨y2,hy2⟩:∃ y2,y2=x2 / 16+x2:=⟨_,rfl⟩;rw[←hp1,←hq1] at e1;rw[←hp2,←hq2] at e2;rw[←hy2] at e3 l2';have a1:bits .and .u64 ((x:Int) / 2) 6148914691236517205=(p1:Int):=and64 (x / 2) 6148914691236517205 (by omega) (by omega) hp1;have a2:bits .and .u64 (x:Int) 6148914691236517205=(q1:Int):=and64 x 6148914691236517205 hx (by omega) hq1;have a3:=z4d p1 q1 e1 l1;have b1:bits .and .u64 ((x1:Int) / 4) 3689348814741910323=(p2:Int):=and64 (x1 / 4) 3689348814741910323 (by omega) (by omega) hp2;have b2:bits .and .u64 (x1:Int) 3689348814741910323=(q2:Int):=and64 x1 3689348814741910323 l1 (by omega) hq2;have b3:=z4d p2 q2 e2 l2;have c1:IntKind.u64.wrap ((x2:Int) / 16+(x2:Int))=(y2:Int):=z4d (x2 / 16) x2 hy2 l2';have c2:bits .and .u64 (y2:Int) 1085102592571150095=(x3:Int):=and64 y2 1085102592571150095 l2' (by omega) e3;have d1:IntKind.u64.wrap ((x3:Int)+(x3:Int) / 256)=(x4:Int):=z4d x3 (x3 / 256) e4 l4;have d2:IntKind.u64.wrap ((x4:Int)+(x4:Int) / 65536)=(x5:Int):=z4d x4 (x4 / 65536) e5 l5;have d3:IntKind.u64.wrap ((x5:Int)+(x5:Int) / 4294967296)=(x6:Int):=z4d x5 (x5 / 4294967296) e6 (by omega);have d4:bits .and .i64 (x6:Int) 127=(r:Int):=by rw[i64_and127,←hr];omega
 clear hp1 hq1 hp2 hq2 hy2 e1 e2 e3 e4 e5 e6 hr;go_enter Tryd.func80,Tryd.ntmps80;go_wp2;go_ret;exact⟨rfl,rfl⟩
theorem y1k (S:S4) (q:Nat) (hq:q<4):[Value.int .u64 S.1.toNat,.int .u64 S.2.1.toNat,.int .u64 S.2.2.1.toNat,.int .u64 S.2.2.2.toNat][q]?=some (.int .u64 (wd S q).toNat):=by
 have h:q=0∨q=1∨q=2∨q=3:=by omega
 rcases h with rfl | rfl | rfl | rfl <;> rfl
theorem y01 (x i:Nat) (hx:x<18446744073709551616) {t:Nat} (ht:t=if x.testBit i then 1 else 0):bits .and .u64 ((x:Int) / 2 ^ i) 1=(t:Int):=by
 have e:((x:Int) / 2 ^ i)=((x / 2 ^ i:Nat):Int):=by push_cast;rfl
 rw[e];refine and64 (x / 2 ^ i) 1 (Nat.lt_of_le_of_lt (Nat.div_le_self _ _) hx) (by omega) ?_;rw[ht,Nat.and_one_is_mod,Nat.testBit_eq_decide_div_mod_eq]
 rcases Nat.mod_two_eq_zero_or_one (x / 2 ^ i) with h | h <;> rw[h] <;> rfl
theorem y0s (S:S4) (c:Nat) (hc:c≤256) (w:World):Calls Tryd.prog 72 #[.agg #[.int .u64 S.1.toNat,.int .u64 S.2.1.toNat,.int .u64 S.2.2.1.toNat,.int .u64 S.2.2.2.toNat],.int .i64 c] w fun e w'=>e= .returned (.int .i64 (nxt S c))∧Below w.heap.size w w':=by
 obtain⟨v,hv⟩:∃ v,v=nxt S c:=⟨_,rfl⟩;rw[←hv];have HV:=Lib.hid hv;have HW:=Lib.hid fun q hq=>y1k S q hq
 obtain⟨s0,hs0⟩:∃ s0:Int,s0=S.1.toNat:=⟨_,rfl⟩;obtain⟨s1,hs1⟩:∃ s1:Int,s1=S.2.1.toNat:=⟨_,rfl⟩;obtain⟨s2,hs2⟩:∃ s2:Int,s2=S.2.2.1.toNat:=⟨_,rfl⟩;obtain⟨s3,hs3⟩:∃ s3:Int,s3=S.2.2.2.toNat:=⟨_,rfl⟩;rw[←hs0,←hs1,←hs2,←hs3] at HW ⊢;clear hv hs0 hs1 hs2 hs3;go_enter Tryd.func72,Tryd.ntmps72;go_wp2
 go_loopw [1] (fun i wr=>∃ k:Nat,k≤256∧i= .int .i64 k∧v=nxt S k∧wr=w.alloc (.cells #[.int .u64 s0,.int .u64 s1,.int .u64 s2,.int .u64 s3] 24)) (fun i _=>256 - (intOf i).toNat)
 case atStart=>exact⟨c,hc,rfl,HV.out,rfl⟩
 case round=>
  obtain⟨k,hk,rfl,hn,rfl⟩:=hrel;have HN:=Lib.hid hn;clear hn;by_cases a:k<256
  ·have hget:=HW.out (k / 64) (by omega)
   obtain⟨x,hx⟩:∃ x,x=(wd S (k / 64)).toNat:=⟨_,rfl⟩;have hxl:x<18446744073709551616:=by rw[hx];exact(wd S (k / 64)).toNat_lt
   rw[←hx] at hget
   cases hm:mem S k with
   | false=>
     have hb:=y01 x (k % 64) hxl (t:=0) (by rw[hx];unfold mem at hm;rw[hm];rfl);have HX:Hid (v=nxt S (k+1)):=Lib.hid (by rw[HN.out,x0j a hm]);clear hm hx;go_wp2
     go_roundw
     case rel=>exact⟨k+1,by omega,by go_num,HX.out,trivial⟩
     case measure=>simp[intOf];omega
   | true=>
     have hb:=y01 x (k % 64) hxl (t:=1) (by rw[hx];unfold mem at hm;rw[hm];rfl);have HX:Hid (v=k):=Lib.hid (by rw[HN.out,x0t hm]);clear hm hx;go_wp2;go_ret;exact⟨by rw[HX.out];rfl,z0b _ _⟩
  ·have HX:Hid (v=k):=Lib.hid (by rw[HN.out,y46 a])
   go_wp2;go_ret;exact⟨by rw[HX.out];rfl,z0b _ _⟩
def SetAt (w:World) (b:Nat) (S:S4):Prop:=(∀ q,q<4→w.cell? ⟨b,q,none⟩=some (.int .u64 (wd S q).toNat))∧∀ q,q<4→w.frozen? ⟨b,q,none⟩=false
theorem SetAt.put {w:World} {b:Nat} {S:S4} (h:SetAt w b S) {q:Nat} (hq:q<4) (x:UInt64):SetAt (w.setCell ⟨b,q,none⟩ (.int .u64 x.toNat)) b (setw S q x):=by
 refine⟨fun q' hq'=>?_,fun q' hq'=>by rw[World.frozen?_setCell];exact h.2 q' hq'⟩;rw[y1q _ _ _ _ hq hq'];by_cases e:q'=q
 ·rw[if_pos e,e];exact World.cell?_setCell_same _ _ _ (h.1 q hq)
 ·rw[if_neg e,World.cell?_setCell_other _ _ _ _ (fun e'=>e (by injection e' with _ e';exact e'.symm))];exact h.1 q' hq'
theorem SetAt.drew {w:World} {b:Nat} {S:S4} (h:SetAt w b S):SetAt w.drew b S:=h
theorem SetAt.four {w:World} {b:Nat} {S:S4} (h:SetAt w b S):w.cell? ⟨b,0,none⟩=some (.int .u64 S.1.toNat)∧w.cell? ⟨b,1,none⟩=some (.int .u64 S.2.1.toNat)∧w.cell? ⟨b,2,none⟩=some (.int .u64 S.2.2.1.toNat)∧w.cell? ⟨b,3,none⟩=some (.int .u64 S.2.2.2.toNat):=
 ⟨h.1 0 (by omega),h.1 1 (by omega),h.1 2 (by omega),h.1 3 (by omega)⟩
theorem SetAt.freed {w:World} {b:Nat} {S:S4} (h:SetAt w b S):w.frozen? ⟨b,0,none⟩=false∧w.frozen? ⟨b,1,none⟩=false∧w.frozen? ⟨b,2,none⟩=false∧w.frozen? ⟨b,3,none⟩=false:=⟨h.2 0 (by omega),h.2 1 (by omega),h.2 2 (by omega),h.2 3 (by omega)⟩
theorem SetAt.other {w:World} {b:Nat} {S:S4} (h:SetAt w b S) {a:Addr} (ha:a.block≠b) (u:Value):SetAt (w.setCell a u) b S:=
 ⟨fun q hq=>by rw[World.cell?_setCell_other _ _ _ _ (fun e=>ha (by rw[e]))];exact h.1 q hq,fun q hq=>by rw[World.frozen?_setCell];exact h.2 q hq⟩
theorem SetAt.all {w:World} {b:Nat} {S:S4} (h:SetAt w b S) (T:S4):SetAt ((((w.setCell ⟨b,0,none⟩ (.int .u64 T.1.toNat)).setCell ⟨b,1,none⟩ (.int .u64 T.2.1.toNat)).setCell ⟨b,2,none⟩ (.int .u64 T.2.2.1.toNat)).setCell ⟨b,3,none⟩ (.int .u64 T.2.2.2.toNat)) b T:=by
 have:=(((h.put (q:=0) (by omega) T.1).put (q:=1) (by omega) T.2.1).put (q:=2) (by omega) T.2.2.1).put (q:=3) (by omega) T.2.2.2;exact this
theorem z69 (w:World) (o:Obj):SetAt ((w.alloc o).alloc (.cells #[.int .u64 0,.int .u64 0,.int .u64 0,.int .u64 0] 24)) (w.heap.size+1) none4:=by
 refine⟨fun q hq=>?_,fun q hq=>?_⟩ <;> have h:q=0∨q=1∨q=2∨q=3:=by omega
 ·rcases h with rfl | rfl | rfl | rfl <;> simp[go_sem,wd,none4]
 ·rcases h with rfl | rfl | rfl | rfl <;> simp[go_sem]
def cplTo (S:S4):Nat→S4
 | 0=>S
 | q+1=>setw (cplTo S q) q (~~~ (wd S q))
theorem y18 (S:S4):∀ q,q≤4→∀ p,p<4→q≤p→wd (cplTo S q) p=wd S p
 | 0,_,_,_,_=>rfl
 | q+1,h,p,hp,hq=>by rw[cplTo,y1q _ _ _ _ (by omega) hp,if_neg (by omega)];exact y18 S q (by omega) p hp (by omega)
theorem y4w (S:S4):cplTo S 4=compl S:=rfl
theorem y8s (x:UInt64):bits .xor .u64 (if IntKind.u64.signed=true then -1 else IntKind.u64.max) (x.toNat:Int)=((~~~ x).toNat:Int):=by
 have e:(if IntKind.u64.signed=true then (-1:Int) else IntKind.u64.max)=((18446744073709551615:Nat):Int):=by decide
 rw[e,bits_xor_u64_nat _ _ (by omega) x.toNat_lt]
 congr 1
theorem y27 (w:World) (o o':Obj):((w.alloc o).alloc o').heap.size=w.heap.size+2:=by simp
theorem y0g (w:World) (o':Obj) (cs:Array Value) (T:TypeId) (j:Nat) (u:Value) (h:cs.toList[j]?=some u):((w.alloc (.cells cs T)).alloc o').cell? ⟨w.heap.size,j,none⟩=some u:=by
 have h0:=z0l w T cs j u h;have hadd:(⟨w.heap.size,0,none⟩:Addr).add j=⟨w.heap.size,j,none⟩:=by unfold Addr.add;split <;> simp_all
 rw[hadd] at h0;exact(World.cell?_alloc_lt _ o' ⟨w.heap.size,j,none⟩ (by simp)).trans h0
theorem z9t (S:S4) (w:World) (o':Obj):SetAt ((w.alloc (.cells #[.int .u64 S.1.toNat,.int .u64 S.2.1.toNat,.int .u64 S.2.2.1.toNat,.int .u64 S.2.2.2.toNat] 24)).alloc o') w.heap.size S:=by
 refine⟨fun q hq=>y0g w o' _ 24 q _ (y1k S q hq),fun q hq=>?_⟩;have h:q=0∨q=1∨q=2∨q=3:=by omega
 rcases h with rfl | rfl | rfl | rfl <;> simp[go_sem]
def setV4 (S:S4):Value:= .agg #[.int .u64 S.1.toNat,.int .u64 S.2.1.toNat,.int .u64 S.2.2.1.toNat,.int .u64 S.2.2.2.toNat]
theorem y3j (S:S4) (w:World):Calls Tryd.prog 73 #[.agg #[.int .u64 S.1.toNat,.int .u64 S.2.1.toNat,.int .u64 S.2.2.1.toNat,.int .u64 S.2.2.2.toNat]] w fun e w'=>e= .returned (setV4 (compl S))∧Below w.heap.size w w':=by
 have HZ:=Lib.hid fun o'=>z9t S w o'
 obtain⟨s0,hs0⟩:∃ s0:Int,s0=S.1.toNat:=⟨_,rfl⟩;obtain⟨s1,hs1⟩:∃ s1:Int,s1=S.2.1.toNat:=⟨_,rfl⟩;obtain⟨s2,hs2⟩:∃ s2:Int,s2=S.2.2.1.toNat:=⟨_,rfl⟩;obtain⟨s3,hs3⟩:∃ s3:Int,s3=S.2.2.2.toNat:=⟨_,rfl⟩;rw[←hs0,←hs1,←hs2,←hs3] at HZ ⊢;clear hs0 hs1 hs2 hs3;go_enter Tryd.func73,Tryd.ntmps73;go_wp2
 go_loopw [4] (fun i wr=>∃ q:Nat,q≤4∧i= .int .i64 q∧SetAt wr w.heap.size (cplTo S q)∧Below w.heap.size w wr∧wr.heap.size=w.heap.size+2∧SetAt wr (w.heap.size+1) none4) (fun i _=>4 - (intOf i).toNat)
 case atStart=>
  exact⟨0,by omega,rfl,HZ.out _,z0e _ _ _,y27 _ _ _,z69 _ _⟩
 case round=>
  obtain⟨q,hq,rfl,hset,hb,hsz,hres⟩:=hrel;by_cases a:q<4
  ·have c1:=hset.1 q a
   have f1:=hset.2 q a;rw[y18 S q hq q a (Nat.le_refl _)] at c1;have hx:=y8s (wd S q);have HS:=Lib.hid (hset.put a (~~~ (wd S q)));obtain⟨x,hx0⟩:∃ x:Int,x=(wd S q).toNat:=⟨_,rfl⟩;obtain⟨y,hy0⟩:∃ y:Int,y=(~~~ (wd S q)).toNat:=⟨_,rfl⟩;rw[←hx0] at c1 hx;rw[←hy0] at hx HS;have HB:=Lib.hid hb;have HR:=Lib.hid hres;clear hset hx0 hy0 hb hres;go_wp2
   go_roundw
   case rel=>
    exact⟨q+1,by omega,by go_num,HS.out,HB.out.setCell (Nat.le_refl _) _,by simpa[World.setCell] using hsz,HR.out.other (by show w.heap.size≠w.heap.size+1;omega) _⟩
   case measure=>simp[intOf];omega
  ·obtain rfl:q=4:=by omega
   rw[y4w] at hset;obtain⟨c0,c1,c2,c3⟩:=hset.four;obtain⟨g0,g1,g2,g3⟩:=hres.four;obtain⟨f0,f1,f2,f3⟩:=hres.freed;have HB:=Lib.hid hb;have HR:=Lib.hid (hres.all (compl S));clear hset hres hb;go_wp2;obtain⟨W3,hW3⟩:∃ W3,W3=((((wr.setCell ⟨w.heap.size+1,0,none⟩ (.int .u64 (compl S).1.toNat)).setCell ⟨w.heap.size+1,1,none⟩ (.int .u64 (compl S).2.1.toNat)).setCell ⟨w.heap.size+1,2,none⟩ (.int .u64 (compl S).2.2.1.toNat)).setCell ⟨w.heap.size+1,3,none⟩ (.int .u64 (compl S).2.2.2.toNat)):=⟨_,rfl⟩;have hr:=HR.out;rw[←hW3] at hr ⊢;obtain⟨d0,d1,d2,d3⟩:=hr.four;refine bodyPost_ret (v:=setV4 (compl S)) (by unfold setV4;simp[results,Tryd.results73,go_sem,d0,d1,d2,d3]) rfl ⟨rfl,?_⟩;rw[hW3];exact(((HB.out.setCell (by simp) _).setCell (by simp) _).setCell (by simp) _).setCell (by simp) _
theorem x3w (S:S4) (q:Nat) (hq:q<4) (W:World):(Instr.index 24 (.agg #[.int .u64 S.1.toNat,.int .u64 S.2.1.toNat,.int .u64 S.2.2.1.toNat,.int .u64 S.2.2.2.toNat]) (.int .i64 (q:Nat))).run Tryd.prog W= .ok (.int .u64 (wd S q).toNat) W:=by
 have h:q=0∨q=1∨q=2∨q=3:=by omega
 rcases h with rfl | rfl | rfl | rfl <;> simp[Instr.index,run_underlying Tryd.underlying24,asIntOf,go_sem,wd]
theorem y9k (S:S4) (q:Nat):cnt (mem S) (64 * (q+1))=cnt (mem S) (64 * q)+cnt (fun i=>(wd S q).toNat.testBit i) 64:=by
 rw[show 64 * (q+1)=64 * q+64 by omega,z67]
 congr 1
 exact z4t fun i hi=>by unfold mem;rw[show (64 * q+i) / 64=q by omega,show (64 * q+i) % 64=i by omega]
theorem y92 (S:S4) (w:World):Calls Tryd.prog 70 #[.agg #[.int .u64 S.1.toNat,.int .u64 S.2.1.toNat,.int .u64 S.2.2.1.toNat,.int .u64 S.2.2.2.toNat]] w fun e w'=>e= .returned (.int .i64 (cnt (mem S) 256))∧Below w.heap.size w w':=by
 obtain⟨v,hv⟩:∃ v,v=cnt (mem S) 256:=⟨_,rfl⟩;rw[←hv];have HV:=Lib.hid hv;have HW:=Lib.hid fun q hq=>x3w S q hq
 have KP:=Lib.hid fun q w=>x2z (wd S q).toNat (wd S q).toNat_lt w
 obtain⟨s0,hs0⟩:∃ s0:Int,s0=S.1.toNat:=⟨_,rfl⟩;obtain⟨s1,hs1⟩:∃ s1:Int,s1=S.2.1.toNat:=⟨_,rfl⟩;obtain⟨s2,hs2⟩:∃ s2:Int,s2=S.2.2.1.toNat:=⟨_,rfl⟩;obtain⟨s3,hs3⟩:∃ s3:Int,s3=S.2.2.2.toNat:=⟨_,rfl⟩;rw[←hs0,←hs1,←hs2,←hs3] at HW ⊢;clear hv hs0 hs1 hs2 hs3;go_enter Tryd.func70,Tryd.ntmps70;go_wp2
 go_loopw [3,7] (fun n i wr=>∃ q:Nat,q≤4∧i= .int .i64 q∧n= .int .i64 (cnt (mem S) (64 * q))∧wr=w.alloc (.cells #[.int .u64 s0,.int .u64 s1,.int .u64 s2,.int .u64 s3] 24)) (fun _ i _=>4 - (intOf i).toNat)
 case atStart=>exact⟨0,by omega,rfl,rfl,rfl⟩
 case round=>
  obtain⟨q,hq,rfl,rfl,rfl⟩:=hrel;by_cases a:q<4
  ·have hget:=HW.out q a
   have hx:=KP.out q;have HC:=Lib.hid (y9k S q);have hc1:=z9j (mem S) (64 * q);have hc2:=z9j (fun i=>(wd S q).toNat.testBit i) 64;obtain⟨c1,hcc1⟩:∃ c,c=cnt (mem S) (64 * q):=⟨_,rfl⟩;obtain⟨c2,hcc2⟩:∃ c,c=cnt (fun i=>(wd S q).toNat.testBit i) 64:=⟨_,rfl⟩;rw[←hcc1] at hc1 HC ⊢;rw[←hcc2] at hc2 HC hx;obtain⟨x,hx0⟩:∃ x:Int,x=(wd S q).toNat:=⟨_,rfl⟩;rw[←hx0] at hget hx;have HX:=Lib.hid hx;clear hx hx0 hcc1 hcc2;go_wp2_with (go_at_call 80;((with_reducible refine(HX.out _).mono ?_));rintro e w' ⟨rfl,rfl⟩)
   go_roundw
   case rel=>exact⟨q+1,by omega,by go_num,by rw[HC.out];push_cast;rfl,trivial⟩
   case measure=>simp[intOf];omega
  ·obtain rfl:q=4:=by omega
   have HX:Hid (v=cnt (mem S) (64 * 4)):=Lib.hid HV.out;go_wp2;go_ret;exact⟨by rw[HX.out];rfl,z0b _ _⟩
theorem y6s (S:S4) (c:Nat) (hc:c<256) (w:World):Calls Tryd.prog 21 #[.agg #[.int .u64 S.1.toNat,.int .u64 S.2.1.toNat,.int .u64 S.2.2.1.toNat,.int .u64 S.2.2.2.toNat],.int .u8 c] w fun e w'=>e= .returned (.bool (mem S c))∧Below w.heap.size w w':=by
 have hget:=y1k S (c / 64) (by omega);obtain⟨x,hx⟩:∃ x,x=(wd S (c / 64)).toNat:=⟨_,rfl⟩;rw[←hx] at hget
 have hb:(((x:Int) / 2 ^ (c % 64)).tmod 2==1)=mem S c:=by
  unfold mem;rw[←hx,Nat.testBit_eq_decide_div_mod_eq];have e:((x:Int) / 2 ^ (c % 64)).tmod 2=((x / 2 ^ (c % 64) % 2:Nat):Int):=by push_cast;rfl
  rw[e]
  rcases Nat.mod_two_eq_zero_or_one (x / 2 ^ (c % 64)) with h | h <;> rw[h] <;> rfl
 obtain⟨s0,hs0⟩:∃ s0:Int,s0=S.1.toNat:=⟨_,rfl⟩;obtain⟨s1,hs1⟩:∃ s1:Int,s1=S.2.1.toNat:=⟨_,rfl⟩;obtain⟨s2,hs2⟩:∃ s2:Int,s2=S.2.2.1.toNat:=⟨_,rfl⟩;obtain⟨s3,hs3⟩:∃ s3:Int,s3=S.2.2.2.toNat:=⟨_,rfl⟩;rw[←hs0,←hs1,←hs2,←hs3] at hget ⊢;obtain⟨v,hv⟩:∃ v,v=mem S c:=⟨_,rfl⟩;rw[←hv] at hb ⊢;clear hs0 hs1 hs2 hs3 hx hv;go_enter Tryd.func21,Tryd.ntmps21;go_wp2;go_ret;exact⟨rfl,z0b _ _⟩
theorem z6a (i:Nat) (h:i<64):IntKind.u64.wrap (2 ^ i)=((2 ^ i:Nat):Int):=by
 have h1:(2:Nat) ^ i<2 ^ 64:=Nat.pow_lt_pow_right (by omega) h;have e:((2:Int) ^ i)=((2 ^ i:Nat):Int):=by push_cast;rfl
 rw[e,IntKind.wrap_u64];exact Int.emod_eq_of_lt (Int.natCast_nonneg _) (Int.ofNat_lt.2 h1)
theorem y8c (c:Nat):ins none4 c=setw none4 (c / 64) (UInt64.ofNat (2 ^ (c % 64))):=by
 unfold ins;have:(wd none4 (c / 64)).toNat=0:=by unfold wd none4;split <;> (try split) <;> (try split) <;> rfl
 rw[this,Nat.zero_or]
theorem y73 (i:Nat) (h:i<64):(UInt64.ofNat (2 ^ i)).toNat=2 ^ i:=by
 rw[UInt64.toNat_ofNat',Nat.mod_eq_of_lt (Nat.pow_lt_pow_right (by omega) h)]
theorem x08 (c:Nat) (hc:c<256) (w:World):Calls Tryd.prog 78 #[.int .u8 c] w fun e w'=>e= .returned (setV4 (ins none4 c))∧Below w.heap.size w w':=by
 rw[y8c];have hp:=z6a (c % 64) (by omega);have hw:=y73 (c % 64) (by omega);obtain⟨p,hp0⟩:∃ p:Nat,p=2 ^ (c % 64):=⟨_,rfl⟩;rw[←hp0] at hp hw;rw[←hp0];have HW:=Lib.hid hw;clear hw hp0;have h:c / 64=0∨c / 64=1∨c / 64=2∨c / 64=3:=by omega
 rcases h with h | h | h | h
 ·rw[h]
  have hr:setV4 (setw none4 0 (UInt64.ofNat p))= .agg #[.int .u64 p,.int .u64 0,.int .u64 0,.int .u64 0]:=by unfold setV4 setw;rw[if_pos rfl];dsimp only;rw[HW.out];rfl
  rw[hr];clear hr;go_enter Tryd.func78,Tryd.ntmps78;go_wp2;exact bodyPost_ret (v:= .agg #[.int .u64 p,.int .u64 0,.int .u64 0,.int .u64 0]) (by simp[results,Tryd.results78,go_sem]) rfl ⟨rfl,z0e _ _ _⟩
 ·rw[h]
  have hr:setV4 (setw none4 1 (UInt64.ofNat p))= .agg #[.int .u64 0,.int .u64 p,.int .u64 0,.int .u64 0]:=by unfold setV4 setw;rw[if_neg (by omega),if_pos rfl];dsimp only;rw[HW.out];rfl
  rw[hr];clear hr;go_enter Tryd.func78,Tryd.ntmps78;go_wp2;exact bodyPost_ret (v:= .agg #[.int .u64 0,.int .u64 p,.int .u64 0,.int .u64 0]) (by simp[results,Tryd.results78,go_sem]) rfl ⟨rfl,z0e _ _ _⟩
 ·rw[h]
  have hr:setV4 (setw none4 2 (UInt64.ofNat p))= .agg #[.int .u64 0,.int .u64 0,.int .u64 p,.int .u64 0]:=by unfold setV4 setw;rw[if_neg (by omega),if_neg (by omega),if_pos rfl];dsimp only;rw[HW.out];rfl
  rw[hr];clear hr;go_enter Tryd.func78,Tryd.ntmps78;go_wp2;exact bodyPost_ret (v:= .agg #[.int .u64 0,.int .u64 0,.int .u64 p,.int .u64 0]) (by simp[results,Tryd.results78,go_sem]) rfl ⟨rfl,z0e _ _ _⟩
 ·rw[h]
  have hr:setV4 (setw none4 3 (UInt64.ofNat p))= .agg #[.int .u64 0,.int .u64 0,.int .u64 0,.int .u64 p]:=by unfold setV4 setw;rw[if_neg (by omega),if_neg (by omega),if_neg (by omega)];dsimp only;rw[HW.out];rfl
  rw[hr];clear hr;go_enter Tryd.func78,Tryd.ntmps78;go_wp2;exact bodyPost_ret (v:= .agg #[.int .u64 0,.int .u64 0,.int .u64 0,.int .u64 p]) (by simp[results,Tryd.results78,go_sem]) rfl ⟨rfl,z0e _ _ _⟩
def RdS (B:Nat) (w:World) (A:Option Addr) (l:List Sp):Prop:=0<l.length→∃ ad,A=some ad∧ad.block<B∧∀ j u,(cellsS l)[j]?=some u→w.cell? (ad.add j)=some u
theorem RdS.keep {B:Nat} {w w':World} {A:Option Addr} {l:List Sp} (h:RdS B w A l) (hb:Below B w w'):RdS B w' A l:=by
 intro hn;obtain⟨ad,e,hlt,hc⟩:=h hn;exact⟨ad,e,hlt,fun j u hu=>(hb.cell (by rw[z0j];exact hlt)).trans (hc j u hu)⟩
theorem RdS.up {B B':Nat} {w:World} {A:Option Addr} {l:List Sp} (h:RdS B w A l) (hB:B≤B'):RdS B' w A l:=by
 intro hn;obtain⟨ad,e,hlt,hc⟩:=h hn;exact⟨ad,e,by omega,hc⟩
theorem z6g:∀ (l:List Sp) (k:Nat) (p:Sp),l[k]?=some p→(cellsS l)[k * 2]?=some (.int .u8 p.1.toNat)∧(cellsS l)[k * 2+1]?=some (.int .u8 p.2.toNat)
 | [],k,p,h=>by simp at h
 | q::r,0,p,h=>by
   injection h with h;subst h;rw[z6y];simp
 | q::r,k+1,p,h=>by
   have ih:=z6g r k p (by simpa using h);rw[z6y,show (k+1) * 2=k * 2+2 by omega];simpa using ih
def At2 (w:World) (a:Addr) (x y:Int):Prop:=w.cell? a=some (.int .u8 x)∧w.cell? ⟨a.block,a.off+1,none⟩=some (.int .u8 y)
theorem RdS.at_ {B:Nat} {w:World} {A:Option Addr} {l:List Sp} {k:Nat} {p:Sp} (h:RdS B w A l) (hk:l[k]?=some p):∃ ad,A=some ad∧At2 w (ad.add (k * 2)) p.1.toNat p.2.toNat:=by
 obtain⟨ad,e,_,hc⟩:=h (by have:=(List.getElem?_eq_some_iff.1 hk).1;omega);obtain⟨a,b⟩:=z6g l k p hk;exact⟨ad,e,hc _ _ a,by rw[z23 _ _ _ (by omega)];exact hc _ _ b⟩
theorem y40 (S:S4) (c:Nat):bits .or .u64 ((wd S (c / 64)).toNat:Int) ((2 ^ (c % 64):Nat):Int)=((UInt64.ofNat ((wd S (c / 64)).toNat ||| 2 ^ (c % 64))).toNat:Int):=by
 rw[bits_or_u64_nat _ _ (wd S (c / 64)).toNat_lt (by have:(2:Nat) ^ (c % 64)<2 ^ 64:=Nat.pow_lt_pow_right (by omega) (by omega);omega),y2h]
theorem y9z {α:Type} {ps:List α} {k:Nat} {p:α} (f:α→Bool) (h:ps[k]?=some p):(ps.take (k+1)).any f=((ps.take k).any f || f p):=by
 obtain⟨hk,e⟩:=List.getElem?_eq_some_iff.1 h;rw[List.take_succ_eq_append_getElem hk,e];simp
def anyTo (l:List Sp) (c j:Nat):Bool:=(l.take j).any (hasS c)
theorem y31 {l:List Sp} {c k:Nat} {p:Sp} (h:l[k]?=some p):anyTo l c (k+1)=(anyTo l c k || hasS c p):=y9z (hasS c) h
theorem y3p (l:List Sp) (c:Nat):anyTo l c 0=false:=by simp[anyTo]
theorem y6p {l:List Sp} {c k:Nat} (h:l.length≤k):anyTo l c k=l.any (hasS c):=by unfold anyTo;rw[List.take_of_length_le h]
theorem x0w (A:Option Addr) (cp:Nat) (l:List Sp) (no:Bool) (w:World) (hr:RdS w.heap.size w A l) (hm:l.length≤1000000):Calls Tryd.prog 77 #[.slice A l.length cp,.bool no] w fun e w'=>e= .returned (setV4 (ofS l no))∧Below w.heap.size w w':=by
 obtain⟨m,hm0⟩:∃ m,m=l.length:=⟨_,rfl⟩;rw[←hm0] at hm ⊢;have HM:=Lib.hid hm0;have HR:=Lib.hid hr;obtain⟨T,hT⟩:∃ T,T=ofS l no:=⟨_,rfl⟩;rw[←hT];have HT:=Lib.hid hT;clear hm0 hr hT;go_enter Tryd.func77,Tryd.ntmps77;go_wp2
 go_loopw [6] (fun i wr=>∃ c:Nat,c≤256∧i= .int .i64 c∧SetAt wr (w.heap.size+1) (ofN l no c)∧Below w.heap.size w wr∧wr.heap.size=w.heap.size+2∧SetAt wr w.heap.size none4) (fun i _=>256 - (intOf i).toNat)
 case atStart=>exact⟨0,by omega,rfl,z69 _ _,z0e _ _ _,y27 _ _ _,z9t none4 w _⟩
 case round=>
  obtain⟨c,hc,rfl,hset,hbl,hsz,hres⟩:=hrel;have HS0:=Lib.hid hset;have HB:=Lib.hid hbl;have HR2:=Lib.hid hres;clear hset hbl hres;by_cases a:c<256
  ·go_wp2
   go_loopw [7,8] (fun mt i wq=>∃ j:Nat,j≤m∧i= .int .i64 j∧mt= .bool (anyTo l c j)∧wq=wr) (fun _ i _=>m - (intOf i).toNat)
   case atStart=>exact⟨0,by omega,rfl,by rw[y3p],rfl⟩
   case round=>
    obtain⟨j,hj,rfl,rfl,rfl⟩:=hrel;by_cases ha:j<m
    ·obtain⟨p,hp⟩:=z0u HM.out ha
     obtain⟨ad,rfl,c0,c1⟩:=(HR.out.keep HB.out).at_ hp
     have HX:=Lib.hid (y31 (c:=c) hp);obtain⟨b0,hb0⟩:∃ b0,b0=anyTo l c j:=⟨_,rfl⟩;rw[←hb0] at HX ⊢;obtain⟨x,hx⟩:∃ x,x=p.1.toNat:=⟨_,rfl⟩;obtain⟨y,hy⟩:∃ y,y=p.2.toNat:=⟨_,rfl⟩;have hh:hasS c p=(decide (x≤c) && decide (c≤y)):=by rw[hx,hy];rfl
     rw[hh] at HX;have hx2:x<256:=by rw[hx];exact p.1.toNat_lt
     have hy2:y<256:=by rw[hy];exact p.2.toNat_lt
     rw[←hx] at c0;rw[←hy] at c1;clear hp hb0 hx hy hh
     cases b0 with
     | true=>
       go_wp2
       go_roundw
       case rel=>exact⟨j+1,by omega,by go_num,by rw[HX.out];rfl,trivial⟩
       case measure=>simp[intOf];omega
     | false=>
       by_cases h1:x≤c
       ·by_cases h2:c≤y
        ·go_wp2
         go_roundw
         case rel=>exact⟨j+1,by omega,by go_num,by rw[HX.out];simp[h1,h2],trivial⟩
         case measure=>simp[intOf];omega
        ·go_wp2
         go_roundw
         case rel=>exact⟨j+1,by omega,by go_num,by rw[HX.out];simp[h1,h2],trivial⟩
         case measure=>simp[intOf];omega
       ·go_wp2
        go_roundw
        case rel=>exact⟨j+1,by omega,by go_num,by rw[HX.out];simp[h1],trivial⟩
        case measure=>simp[intOf];omega
    ·have HE:=y6p (c:=c) (show l.length≤j by have:=HM.out;omega)
     rw[HE];clear HE;obtain⟨mt,hmt⟩:∃ mt,mt=l.any (hasS c):=⟨_,rfl⟩;rw[←hmt];have HO:Hid (ofN l no (c+1)=if mt != no then ins (ofN l no c) c else ofN l no c):=Lib.hid (by rw[ofN,←hmt]);clear hmt;have hcase:mt=no∨mt= !no:=by cases mt <;> cases no <;> simp
     rcases hcase with rfl | rfl
     ·have HO:Hid (ofN l mt (c+1)=ofN l mt c):=Lib.hid (by have:=HO.out;simpa using this)
      have hne:(mt != mt)=false:=by simp
      go_wp2
      go_roundw
      case rel=>exact⟨c+1,by omega,by go_num,by rw[HO.out];exact HS0.out,HB.out,hsz,HR2.out⟩
      case measure=>simp[intOf];omega
     ·have HO:Hid (ofN l no (c+1)=ins (ofN l no c) c):=Lib.hid (by have:=HO.out;cases no <;> simpa using this)
      have hne:((!no) != no)=true:=by cases no <;> rfl
      cases no
      ·skip
       have hset:=HS0.out;have c1:=hset.1 (c / 64) (by omega);have f1:=hset.2 (c / 64) (by omega);have hor:=y40 (ofN l false c) c;have hp:=z6a (c % 64) (by omega)
       have HS:Hid (SetAt (wr.drew.setCell ⟨w.heap.size+1,c / 64,none⟩ (.int .u64 (UInt64.ofNat ((wd (ofN l false c) (c / 64)).toNat ||| 2 ^ (c % 64))).toNat)) (w.heap.size+1) (ofN l false (c+1))):=Lib.hid (by
        rw[HO.out];unfold ins;exact hset.drew.put (by omega) _)
       obtain⟨p,hp0⟩:∃ p:Nat,p=2 ^ (c % 64):=⟨_,rfl⟩;rw[←hp0] at hp hor HS;obtain⟨x,hx0⟩:∃ x:Int,x=(wd (ofN l false c) (c / 64)).toNat:=⟨_,rfl⟩;obtain⟨y,hy0⟩:∃ y:Int,y=(UInt64.ofNat ((wd (ofN l false c) (c / 64)).toNat ||| p)).toNat:=⟨_,rfl⟩;rw[←hx0] at c1 hor;rw[←hy0] at hor HS;clear hset hx0 hy0 hp0;go_wp2;refine z0t 11 (by kernel_rfl) (by kernel_rfl) ?_;simp only[List.take_succ_cons,List.take_zero,List.drop_succ_cons,List.drop_zero]
       repeat (go_big_quiet_step (fail))
       refine wpQuiet_nil ?_;go_wp2
       go_roundw
       case rel=>
        refine⟨c+1,by omega,by go_num,HS.out,(HB.out.drew).setCell (by simp) _,by simpa[World.setCell] using hsz,HR2.out.drew.other (by show w.heap.size+1≠w.heap.size;omega) _⟩
       case measure=>simp[intOf];omega
      ·skip
       have hset:=HS0.out;have c1:=hset.1 (c / 64) (by omega);have f1:=hset.2 (c / 64) (by omega);have hor:=y40 (ofN l true c) c;have hp:=z6a (c % 64) (by omega)
       have HS:Hid (SetAt (wr.drew.setCell ⟨w.heap.size+1,c / 64,none⟩ (.int .u64 (UInt64.ofNat ((wd (ofN l true c) (c / 64)).toNat ||| 2 ^ (c % 64))).toNat)) (w.heap.size+1) (ofN l true (c+1))):=Lib.hid (by
        rw[HO.out];unfold ins;exact hset.drew.put (by omega) _)
       obtain⟨p,hp0⟩:∃ p:Nat,p=2 ^ (c % 64):=⟨_,rfl⟩;rw[←hp0] at hp hor HS;obtain⟨x,hx0⟩:∃ x:Int,x=(wd (ofN l true c) (c / 64)).toNat:=⟨_,rfl⟩;obtain⟨y,hy0⟩:∃ y:Int,y=(UInt64.ofNat ((wd (ofN l true c) (c / 64)).toNat ||| p)).toNat:=⟨_,rfl⟩;rw[←hx0] at c1 hor;rw[←hy0] at hor HS;clear hset hx0 hy0 hp0;go_wp2;refine z0t 11 (by kernel_rfl) (by kernel_rfl) ?_;simp only[List.take_succ_cons,List.take_zero,List.drop_succ_cons,List.drop_zero]
       repeat (go_big_quiet_step (fail))
       refine wpQuiet_nil ?_;go_wp2
       go_roundw
       case rel=>
        refine⟨c+1,by omega,by go_num,HS.out,(HB.out.drew).setCell (by simp) _,by simpa[World.setCell] using hsz,HR2.out.drew.other (by show w.heap.size+1≠w.heap.size;omega) _⟩
       case measure=>simp[intOf];omega
  ·obtain rfl:c=256:=by omega
   have hset:SetAt wr (w.heap.size+1) T:=by rw[HT.out];exact HS0.out
   obtain⟨c0,c1,c2,c3⟩:=hset.four;obtain⟨g0,g1,g2,g3⟩:=HR2.out.four;obtain⟨f0,f1,f2,f3⟩:=HR2.out.freed;have HR:=Lib.hid (HR2.out.all T);clear hset;go_wp2;obtain⟨W3,hW3⟩:∃ W3,W3=((((wr.setCell ⟨w.heap.size,0,none⟩ (.int .u64 T.1.toNat)).setCell ⟨w.heap.size,1,none⟩ (.int .u64 T.2.1.toNat)).setCell ⟨w.heap.size,2,none⟩ (.int .u64 T.2.2.1.toNat)).setCell ⟨w.heap.size,3,none⟩ (.int .u64 T.2.2.2.toNat)):=⟨_,rfl⟩;have hr:=HR.out;rw[←hW3] at hr ⊢;obtain⟨d0,d1,d2,d3⟩:=hr.four;refine bodyPost_ret (v:=setV4 T) (by unfold setV4;simp[results,Tryd.results77,go_sem,d0,d1,d2,d3]) rfl ⟨rfl,?_⟩;rw[hW3];exact(((HB.out.setCell (Nat.le_refl _) _).setCell (Nat.le_refl _) _).setCell (Nat.le_refl _) _).setCell (Nat.le_refl _) _
end Go.Proofs.YtejgbpbljdhndaaDoor
