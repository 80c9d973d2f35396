import Derived.Test.YtejgbpbljdhndaaDoorRSign
import Derived.Test.YtejgbpbljdhndaaDoorQTail
namespace Go.Proofs.YtejgbpbljdhndaaDoor
open Go Go.RowKit
set_option maxRecDepth 100000
set_option maxHeartbeats 4000000
theorem z5s {S:S4} {c:Nat} (h:mem S c=false):runsTo S (c+1)=runsTo S c:=by rw[runsTo,if_neg (by simp[h])]
theorem z41 {S:S4} {c:Nat} (h:mem S c=true) (h0:runsTo S c=[]):runsTo S (c+1)=[]++[(UInt8.ofNat c,UInt8.ofNat c)]:=by rw[runsTo,if_pos h,h0,z3k];rfl
theorem z7c {S:S4} {c:Nat} {r:List Sp} {p:Sp} (h:mem S c=true) (hr:runsTo S c=r++[p]) (hp:p.2.toNat+1=c):runsTo S (c+1)=r++[(p.1,UInt8.ofNat c)]:=by rw[runsTo,if_pos h,hr,z3c hp]
theorem z8s {S:S4} {c:Nat} {r:List Sp} {p:Sp} (h:mem S c=true) (hr:runsTo S c=r++[p]) (hp:p.2.toNat+1≠c):runsTo S (c+1)=(r++[p])++[(UInt8.ofNat c,UInt8.ofNat c)]:=by rw[runsTo,if_pos h,hr,z4k hp]
theorem y3c (r:List Sp) (p:Sp) (b:UInt8):(cellsS (r++[p])).set (r.length * 2+1) (.int .u8 b.toNat)=cellsS (r++[(p.1,b)]):=by
 rw[z3j,z3j,List.set_append_right _ _ (by rw[z4x];omega),z4x];rw[show r.length * 2+1 - r.length * 2=1 by omega]
 rfl
theorem z62 (p:Sp) (h:p.1.toNat≤p.2.toNat):itemJ p=(if p.1=94 then [92] else [])++(if p.1≠p.2∧p.2=94 then esc sgI p.1++[45,92,94] else itemT p):=by
 have key:∀ c:UInt8,esc sgJ c=(if c=94 then [92] else [])++esc sgI c:=y5d _ (by decide+kernel);unfold itemJ itemT;rw[key p.1];generalize (if p.1=94 then ([92]:Bs) else [])=Z;by_cases e:p.1=p.2
 ·have h1:¬ (p.1.toNat:Int)<(p.2.toNat:Int):=by rw[e];omega
  rw[if_neg h1,if_neg h1,if_neg (fun x=>x.1 e)];simp
 ·have h1:(p.1.toNat:Int)<(p.2.toNat:Int):=by
   have:p.1.toNat≠p.2.toNat:=fun x=>e (UInt8.toNat_inj.1 x)
   omega
  rw[if_pos h1,if_pos h1];by_cases e2:p.2=94
  ·have k94:(45::esc sgJ p.2:Bs)=[45,92,94]:=by rw[e2];decide
   rw[if_pos ⟨e,e2⟩,k94];simp
  ·rw[key p.2,if_neg e2,if_neg (fun x=>e2 x.2)]
   simp
theorem x2j (w:World) (p:Sp) (x y:Int) (hx:x=p.1.toNat) (hy:y=p.2.toNat):RdS (w.alloc (.cells #[.int .u8 x,.int .u8 y] 138)).heap.size (w.alloc (.cells #[.int .u8 x,.int .u8 y] 138)) (some ⟨w.heap.size,0,none⟩) [p]:=fun _=>
 ⟨_,rfl,by simp,fun j u hu=>z0l w 138 #[.int .u8 x,.int .u8 y] j u (by rw[hx,hy];exact hu)⟩
theorem y15 (p:Sp) (h:p.1.toNat≤p.2.toNat) (x y:Int) (hx:x=p.1.toNat) (hy:y=p.2.toNat) (T:ByteArray) (hT:T=⟨(itemT p).toArray⟩) (w:World):
  Calls Tryd.prog 75 #[.slice (some ⟨w.heap.size,0,none⟩) 1 1] (w.alloc (.cells #[.int .u8 x,.int .u8 y] 138)) fun e w'=>e= .returned (.string T)∧Below (w.alloc (.cells #[.int .u8 x,.int .u8 y] 138)).heap.size (w.alloc (.cells #[.int .u8 x,.int .u8 y] 138)) w':=by
 have:=y7n (some ⟨w.heap.size,0,none⟩) 1 1 [p] rfl (w.alloc (.cells #[.int .u8 x,.int .u8 y] 138)) (x2j w p x y hx hy) (by omega) (by simp[okS];omega);rw[hT];simpa using this
theorem RowS.cellsAt {B:Nat} {w1 w:World} {g n cap:Nat} {l:List Sp} (h:RowS B w1 w (.slice (some ⟨g,0,none⟩) n cap) l) {j:Nat} {p:Sp} (hj:l[j]?=some p):w.cell? ⟨g,j * 2,none⟩=some (.int .u8 p.1.toNat)∧w.cell? ⟨g,j * 2+1,none⟩=some (.int .u8 p.2.toNat):=by
 have hn:n=l.length:=by
  rcases h.row.2 with ⟨e,_⟩ | ⟨g',cap',cur,e,_⟩
  ·injection e with e;cases e
  ·injection e
 subst hn;have hlt:=(List.getElem?_eq_some_iff.1 hj).1
 have c:∀ i u,(cellsS l)[j * 2+i]?=some u→i<2→w.cell? ⟨g,j * 2+i,none⟩=some u:=fun i u hu hi=>by
  rw[h.row.cellAt _ (by omega),hu]
 obtain⟨a,b⟩:=z6g l j p hj;exact⟨c 0 _ a (by omega),c 1 _ b (by omega)⟩
theorem Row1.set_last {B:Nat} {w1 w:World} {g n cap m:Nat} {r:List Sp} {p:Sp} {b:UInt8} {x:Int} (h:RowS B w1 w (.slice (some ⟨g,0,none⟩) n cap) (r++[p])) (hn:n=(r++[p]).length) (hm:m=r.length) (hx:x=b.toNat):
  RowS B w1 (w.setCell ⟨g,m * 2+1,none⟩ (.int .u8 x)) (.slice (some ⟨g,0,none⟩) n cap) (r++[(p.1,b)]):=by
 subst hn hm hx;obtain⟨o1,o2⟩:=h.row.stored (r.length * 2+1) (.int .u8 b.toNat);rw[y3c] at o1;have e:(r++[(p.1,b)]).length=(r++[p]).length:=by simp
 have:=h.grown o1 o2;unfold RowS;rw[e];exact this
theorem Row1.count {B:Nat} {w1 w:World} {v:Value} {n:Nat} {l:List Sp} (h:RowS B w1 w v l) (hn:n=l.length):Row1 138 2 B w1 w v n (cellsS l):=by subst hn;exact h
theorem Row1.spanN {B:Nat} {w0 w w':World} {v v':Value} {n:Nat} {l:List Sp} {p:Sp} (h:Row1 138 2 B w0 w v n (cellsS l)) (hn:n=l.length) (ho:w'.ownsRow B 138 2 v' (n+1) (cellsS l++[.int .u8 p.1.toNat,.int .u8 p.2.toNat])) (hg:w.grownBy w' v.ownBlock):RowS B w0 w' v' (l++[p]):=by
 subst hn;exact Row1.span h ho hg
theorem z1d {w w1 w2:World} (h:Below w.heap.size w w1) (hb:Below w1.heap.size w1 w2):Below w.heap.size w w2:=h.trans (hb.mono h.size)
theorem z0p {w w2:World} {m:Nat} {o:Obj} (h:Below ((w.drewN m).alloc o).heap.size ((w.drewN m).alloc o) w2):Below w.heap.size w w2:=
 ((below_drewN (Below.refl _ _) m).alloc (Nat.le_refl _) o).trans (h.mono (by simp))
def LoopSC (S:S4) (B:Nat) (w1:World) (v i:Value) (w:World):Prop:=∃ c:Nat,c≤256∧i= .int .i64 c∧RowS B w1 w v (runsTo S c)∧(runsTo S c=[]→v= .slice none 0 0)
def LoopSA (c:UInt8) (w0:World) (i:Value) (w:World):Prop:=∃ j:Nat,j≤12∧i= .int .i64 j∧Below w0.heap.size w0 w∧∀ k,k<j→sgA[k]?≠some c
def LoopSI (L:List Sp) (w0:World) (o i:Value) (w:World):Prop:=∃ (j:Nat) (T:ByteArray),j≤L.length∧i= .int .i64 j∧o= .string T∧T.data.toList=91::(L.take j).flatMap itemJ∧Below w0.heap.size w0 w
theorem x21 (j:Nat) (h:j<setA.size):sgA[j]?=some setA[j]:=by
 have e:setA.data.toList=sgA:=rfl;rw[←e];exact z2g setA j h
theorem y2r {SA:ByteArray} (e:SA=setA) (j:Nat) (h:j<SA.size):sgA[j]?=some SA[j]:=by subst e;exact x21 j h
theorem y5b {c:UInt8} {j:Nat} (hj:¬ j<12) (h:∀ k,k<j→sgA[k]?≠some c):c ∉ sgA:=fun hc=>by
 obtain⟨k,hk,e⟩:=List.mem_iff_getElem.1 hc;have:sgA.length=12:=rfl;exact h k (by omega) (by rw[List.getElem?_eq_getElem hk,e])
theorem z9x {L:List Sp} {j:Nat} {p:Sp} (h:L[j]?=some p):(91::(L.take (j+1)).flatMap itemJ:Bs)=(91::(L.take j).flatMap itemJ)++itemJ p:=by
 rw[z9h itemJ h];rfl
theorem y8z (S:S4) (w:World):Calls Tryd.prog 64 #[.agg #[.int .u64 S.1.toNat,.int .u64 S.2.1.toNat,.int .u64 S.2.2.1.toNat,.int .u64 S.2.2.2.toNat]] w fun e w'=>e= .returned (.string ⟨(setText S).toArray⟩)∧Below w.heap.size w w':=by
 obtain⟨R,hR⟩:∃ R:ByteArray,R=⟨(setText S).toArray⟩:=⟨_,rfl⟩;rw[←hR];have HR:=Lib.hid hR;obtain⟨i0,hi0,hz0,hz1,hz2⟩:=info_parts x0l
 have K40:Hid (∀ (c:Nat) (v:Bool),c<256→mem S c=v→∀ w,Calls Tryd.prog 21 #[.agg #[.int .u64 S.1.toNat,.int .u64 S.2.1.toNat,.int .u64 S.2.2.1.toNat,.int .u64 S.2.2.2.toNat],.int .u8 c] w fun e w'=>e= .returned (.bool v)∧Below w.heap.size w w'):=Lib.hid fun c v hc hv w=>by
  rw[←hv];exact y6s S c hc w
 obtain⟨s0,hs0⟩:∃ s0:Int,s0=S.1.toNat:=⟨_,rfl⟩;obtain⟨s1,hs1⟩:∃ s1:Int,s1=S.2.1.toNat:=⟨_,rfl⟩;obtain⟨s2,hs2⟩:∃ s2:Int,s2=S.2.2.1.toNat:=⟨_,rfl⟩;obtain⟨s3,hs3⟩:∃ s3:Int,s3=S.2.2.2.toNat:=⟨_,rfl⟩;rw[←hs0,←hs1,←hs2,←hs3] at K40 ⊢;clear hs0 hs1 hs2 hs3 hR;have hbo:Below w.heap.size w (w.alloc (.cells #[.int .u64 s0,.int .u64 s1,.int .u64 s2,.int .u64 s3] 24)):=z0b w _;have hx0:(w.alloc (.cells #[.int .u64 s0,.int .u64 s1,.int .u64 s2,.int .u64 s3] 24)).cell? ⟨w.heap.size,0,none⟩=some (.int .u64 s0):=by simp[go_sem]
 have hx1:(w.alloc (.cells #[.int .u64 s0,.int .u64 s1,.int .u64 s2,.int .u64 s3] 24)).cell? ⟨w.heap.size,1,none⟩=some (.int .u64 s1):=by simp[go_sem]
 have hx2:(w.alloc (.cells #[.int .u64 s0,.int .u64 s1,.int .u64 s2,.int .u64 s3] 24)).cell? ⟨w.heap.size,2,none⟩=some (.int .u64 s2):=by simp[go_sem]
 have hx3:(w.alloc (.cells #[.int .u64 s0,.int .u64 s1,.int .u64 s2,.int .u64 s3] 24)).cell? ⟨w.heap.size,3,none⟩=some (.int .u64 s3):=by simp[go_sem]
 have HBO:=Lib.hid hbo;have HX0:=Lib.hid hx0;have HX1:=Lib.hid hx1;have HX2:=Lib.hid hx2;have HX3:=Lib.hid hx3;clear hbo hx0 hx1 hx2 hx3;go_enter Tryd.func64,Tryd.ntmps64;go_wp2
 go_loopw [3,4] (fun v i wr=>LoopSC S (w.heap.size+1) (w.alloc (.cells #[.int .u64 s0,.int .u64 s1,.int .u64 s2,.int .u64 s3] 24)) v i wr) (fun _ i _=>256 - (intOf i).toNat)
 case atStart=>exact⟨0,by omega,rfl,⟨World.ownsRow_nil _ _ _ _,Below.refl _ _,by simp⟩,fun _=>rfl⟩
 case round=>
  obtain⟨c,hc,rfl,hT,hnil0⟩:=hrel;have x0:=(hT.below.cell (p:=⟨w.heap.size,0,none⟩) (Nat.lt_succ_self _)).trans HX0.out;have x1:=(hT.below.cell (p:=⟨w.heap.size,1,none⟩) (Nat.lt_succ_self _)).trans HX1.out;have x2:=(hT.below.cell (p:=⟨w.heap.size,2,none⟩) (Nat.lt_succ_self _)).trans HX2.out;have x3:=(hT.below.cell (p:=⟨w.heap.size,3,none⟩) (Nat.lt_succ_self _)).trans HX3.out;have HT:=Lib.hid hT;have HN0:=Lib.hid hnil0;clear hT hnil0;by_cases a:c<256
  ·have hcm:(c:Int) % 256=c:=by omega
   have HCB:Hid ((UInt8.ofNat c).toNat=c):=Lib.hid (z3s a)
   rcases hm:mem S c with _ | _
   ·have K:=Lib.hid (K40.out c _ a hm)
    have HM:=Lib.hid hm;clear hm;go_wp2_with (go_at_call 21;((with_reducible refine(K.out _).mono ?_));rintro e w1 ⟨rfl,hb1⟩;have HB1:=Lib.hid hb1;clear hb1)
    go_roundw
    case rel=>exact⟨c+1,by omega,by go_num,by rw[z5s HM.out];exact HT.out.beyond HB1.out,by rw[z5s HM.out];exact HN0.out⟩
    case measure=>simp[intOf];omega
   ·have K:=Lib.hid (K40.out c _ a hm)
    have HM:=Lib.hid hm;clear hm
    rcases z1g (runsTo S c) with h0 | ⟨r,p,hr⟩
    ·obtain rfl:=HN0.out h0
     have HE:=Lib.hid h0;have HT2:Hid (Row1 138 2 (w.heap.size+1) (w.alloc (.cells #[.int .u64 s0,.int .u64 s1,.int .u64 s2,.int .u64 s3] 24)) wr (.slice none 0 0) 0 []):=Lib.hid (by have:=HT.out;rw[h0] at this;exact this);clear h0;go_wp2_with (first | (go_at_call 21;((with_reducible refine(K.out _).mono ?_));rintro e w1 ⟨rfl,hb1⟩;have HT3:=Lib.hid (HT2.out.beyond hb1);clear hb1) | (at_builtin;refine wpList_append_own _ rfl (.tmp 44) (.tmp 50) 136 rfl (w.heap.size+1) 138 i0 (.agg #[.int .u8 0,.int .u8 0]) 2 2 Tryd.underlying136 hi0 hz0 hz1 hz2 rfl (by decide) _ _ _ rfl (HT3.out.alloc _).row ⟨w1.heap.size,0,none⟩ 1 1 [.int .u8 c,.int .u8 c] rfl rfl (fun j u hu=>z0l w1 138 #[.int .u8 c,.int .u8 c] j u hu) (z2s _ _) (by unfold maxLen;omega) (by omega) (HT3.out.alloc _).size ?_;intro v2 w3 hown' hgrow hnil;have HG:=Lib.hid hgrow;have HOW:=Lib.hid hown';clear hown' hgrow))
     go_roundw
     case rel=>
      have h3:=Row1.span (l:=[]) (HT3.out.alloc _) (p:=(UInt8.ofNat c,UInt8.ofNat c)) (by rw[HCB.out];exact HOW.out) HG.out;exact⟨c+1,by omega,by go_num,by rw[z41 HM.out HE.out];exact h3,by rw[z41 HM.out HE.out];intro h;simp at h⟩
     case measure=>simp[intOf];omega
    ·have hlen:(runsTo S c).length=r.length+1:=by rw[hr];simp
     have HT2:=Lib.hid (show RowS (w.heap.size+1) (w.alloc (.cells #[.int .u64 s0,.int .u64 s1,.int .u64 s2,.int .u64 s3] 24)) wr _ (r++[p]) by have:=HT.out;rw[hr] at this;exact this)
     rcases z3r HT2.out.row with ⟨rfl,hn⟩ | ⟨g,cap,rfl,hcap⟩
     ·simp at hn
     obtain⟨m,hmr⟩:∃ m,m=r.length:=⟨_,rfl⟩;have HMR:=Lib.hid hmr;obtain⟨n,hnn⟩:∃ n,n=(r++[p]).length:=⟨_,rfl⟩;have hnm:n=m+1:=by rw[hnn,hmr];simp
     rw[←hnn] at hcap HT2 ⊢;have HNN:=Lib.hid hnn;have hl256:n≤256:=by have:=z54 S c;omega
     obtain⟨y,hy⟩:∃ y:Int,y=p.2.toNat:=⟨_,rfl⟩;have HY:=Lib.hid hy;have HRR:=Lib.hid hr;have hyb:0≤y∧y<256:=by rw[hy];have:=p.2.toNat_lt;omega
     have hwy:wrap64 y=y:=by unfold wrap64;omega
     have n0:0<n:=by omega
     have n1:(n:Int) - 1=(m:Int):=by omega
     have n2:decide ((m:Int)<(n:Int))=true:=by simp;omega
     have n3:m<n:=by omega
     have HC2:Hid (∀ w1,RowS (w.heap.size+1) (w.alloc (.cells #[.int .u64 s0,.int .u64 s1,.int .u64 s2,.int .u64 s3] 24)) w1 (.slice (some ⟨g,0,none⟩) n cap) (r++[p])→w1.cell? ⟨g,m * 2+1,none⟩=some (.int .u8 y)∧w1.frozen? ⟨g,m * 2+1,none⟩=false):=Lib.hid fun w1 h=>by
      have hp:(r++[p])[m]?=some p:=by rw[HMR.out,List.getElem?_append_right (Nat.le_refl _)];simp
      rw[HY.out];refine⟨(RowS.cellsAt h hp).2,?_⟩;have hh:n=(r++[p]).length:=HNN.out;subst hh;exact h.row.frozenAt _
     by_cases hyc:y+1=(c:Int)
     ·have t1:(y==(c:Int) - 1)=true:=by simp;omega
      have HGR:=Lib.hid (z7c HM.out hr (p:=p) (by omega));clear hy hr hmr hnn hlen hnm hyc;go_wp2_with (go_at_call 21;((with_reducible refine(K.out _).mono ?_));rintro e w1 ⟨rfl,hb1⟩;have HT3:=Lib.hid (HT2.out.beyond hb1);obtain⟨q0,q1⟩:=HC2.out _ HT3.out;clear hb1)
      go_roundw
      case rel=>
       refine⟨c+1,by omega,by go_num,?_,by rw[HGR.out];intro h;simp at h⟩;rw[HGR.out];exact HT3.out.set_last HNN.out HMR.out (HCB.out.symm ▸ rfl)
      case measure=>simp[intOf];omega
     ·have t1:(y==(c:Int) - 1)=false:=by simp;omega
      have HGR:=Lib.hid (z8s HM.out hr (p:=p) (by omega));clear hy hr hmr hnn hlen hnm hyc;go_wp2_with (first | (go_at_call 21;((with_reducible refine(K.out _).mono ?_));rintro e w1 ⟨rfl,hb1⟩;have HT3:=Lib.hid (HT2.out.beyond hb1);obtain⟨q0,q1⟩:=HC2.out _ HT3.out;have HT4:=Lib.hid (HT3.out.count HNN.out);clear hb1) | (at_builtin;refine wpList_append_own _ rfl (.tmp 44) (.tmp 50) 136 rfl (w.heap.size+1) 138 i0 (.agg #[.int .u8 0,.int .u8 0]) 2 2 Tryd.underlying136 hi0 hz0 hz1 hz2 rfl (by decide) _ _ _ rfl (HT4.out.alloc _).row ⟨w1.heap.size,0,none⟩ 1 1 [.int .u8 c,.int .u8 c] rfl rfl (fun j u hu=>z0l w1 138 #[.int .u8 c,.int .u8 c] j u hu) (z2s _ _) (by unfold maxLen;omega) (by omega) (HT4.out.alloc _).size ?_;intro v2 w3 hown' hgrow hnil;have HG:=Lib.hid hgrow;have HOW:=Lib.hid hown';clear hown' hgrow))
      go_roundw
      case rel=>
       refine⟨c+1,by omega,by go_num,?_,by rw[HGR.out];intro h;simp at h⟩;rw[HGR.out];exact(HT4.out.alloc _).spanN HNN.out (by rw[HCB.out];exact HOW.out) HG.out
      case measure=>simp[intOf];omega
  ·have hc256:c=256:=by omega
   have hbc:decide ((c:Int)<256)=false:=by simp;omega
   have HB:Hid (Below w.heap.size w wr):=Lib.hid (HBO.out.trans (HT.out.below.mono (by omega)));obtain⟨Q,hQ⟩:∃ Q,Q=runs S:=⟨_,rfl⟩;have HQ:=Lib.hid hQ;have hHL:=HT.out;have hN0:=HN0.out;rw[show runsTo S c=Q by rw[hc256];exact hQ.symm] at hHL hN0;have hl256:Q.length≤256:=by rw[hQ];exact z54 S 256
   have HOK:Hid (Q.all okS=true):=Lib.hid (by rw[hQ];exact z8k S 256 (by omega));clear hQ x0 x1 x2 x3 hc256;by_cases hq0:Q=[]
   ·obtain rfl:=hN0 hq0
    have HX:Hid (R=⟨#[91,94,0,45,255,93]⟩):=Lib.hid (by rw[HR.out,z6r (by rw[←HQ.out];exact hq0)]);clear hHL hN0 hq0;go_wp2;go_ret;exact⟨z1z HX.out.symm,HB.out⟩
   ·rcases z3r hHL.row with ⟨rfl,hn⟩ | ⟨g,cap,rfl,hcap⟩
    ·exact absurd (List.eq_nil_of_length_eq_zero hn) hq0
    obtain⟨n,hnn⟩:∃ n,n=Q.length:=⟨_,rfl⟩;have hn0:0<n:=by rw[hnn];exact List.length_pos_iff.2 hq0
    have HN:=Lib.hid hnn;rw[←hnn] at hl256 hcap hHL ⊢;have HL:Hid (RowS (w.heap.size+1) (w.alloc (.cells #[.int .u64 s0,.int .u64 s1,.int .u64 s2,.int .u64 s3] 24)) wr (.slice (some ⟨g,0,none⟩) n cap) Q):=Lib.hid (by have:=HN.out;subst this;exact hHL);clear hHL hN0 hnn;have m0:((n:Int)==0)=false:=by simp;omega
    have m0':(n==0)=false:=by simp;omega
    by_cases n1:n=1
    ·have hone1:∃ p,Q=[p]:=List.length_eq_one_iff.1 (by rw[←HN.out];exact n1)
     obtain⟨p,hp⟩:=hone1;have m1:((n:Int)==1)=true:=by simp;omega
     have m1':(n==1)=true:=by simp;omega
     obtain⟨c0,c1⟩:=RowS.cellsAt HL.out (j:=0) (p:=p) (by rw[hp];rfl);rw[Nat.zero_mul] at c0 c1;obtain⟨x,hx⟩:∃ x:Int,x=p.1.toNat:=⟨_,rfl⟩;obtain⟨y,hy⟩:∃ y:Int,y=p.2.toNat:=⟨_,rfl⟩;rw[←hx] at c0;rw[←hy] at c1;have hxb:0≤x∧x<256:=by rw[hx];have:=p.1.toNat_lt;omega
     have hyb:0≤y∧y<256:=by rw[hy];have:=p.2.toNat_lt;omega
     clear hq0 n1;by_cases f1:x=0∧y=255
     ·obtain⟨rfl,rfl⟩:=f1
      have hp1:p.1=0:=u8_eq hx.symm;have hp2:p.2=255:=u8_eq hy.symm
      have HX:Hid (R=⟨#[46]⟩):=Lib.hid (by
       rw[HR.out,z5t (by rw[←HQ.out,hp,show p=(0,255) from Prod.ext hp1 hp2])])
      clear hp hx hy hp1 hp2;go_wp2;go_ret;exact⟨z1z HX.out.symm,HB.out⟩
     ·by_cases f2:x=y
      ·subst f2
       have hpp:p.1=p.2:=u8_eq (by rw[←hx];exact hy)
       have HQT:Hid (setText S=esc sgA p.1):=Lib.hid (by
        rw[z6q (c:=p.1) (by rw[←HQ.out,hp,show p=(p.1,p.1) from Prod.ext rfl hpp.symm])])
       have hone:=fun (W:World)=>z4f W x p.1 hx.symm
       have HX0:Hid ((p.1.toNat:Int)=x):=Lib.hid hx.symm;have HX0':=HX0;clear hp hx hy hpp f1;have tt:(x==x)=true:=by simp
       by_cases z0:x=0
       ·subst z0
        clear tt;go_wp2;go_quiet (fail);go_wp2;generalize hSA:(⟨#[92,124,40,41,42,43,63,123,46,91,94,36]⟩:ByteArray)=SA;have hsz:SA.size=12:=by rw[←hSA];rfl
        have HSA:Hid (SA=setA):=Lib.hid hSA.symm;clear hSA
        go_loopw [7] (fun i w9=>LoopSA p.1 wr i w9) (fun i _=>12 - (intOf i).toNat)
        case atStart=>exact⟨0,by omega,rfl,below_drewN (Below.refl _ _) _,fun k hk=>by omega⟩
        case round=>
         obtain⟨j,hj,rfl,hb3,hno⟩:=hrel;have HB3:=Lib.hid hb3;have HNO:=Lib.hid hno;clear hb3 hno;by_cases a:j<12
         ·have a2:j<SA.size:=by omega
          by_cases e:SA[j]=p.1
          ·have b:((SA[j].toNat:Int)==0)=true:=by rw[e,←HX0'.out];simp
           have HRR:Hid (R=⟨#[92,p.1]⟩):=Lib.hid (by
            have hin:p.1∈sgA:=by rw[←e];exact List.mem_of_getElem? (y2r HSA.out j a2)
            rw[HR.out,HQT.out];unfold esc;rw[if_pos hin])
           clear e;go_wp2;go_ret;exact⟨z1z (by rw[HRR.out];rfl),z1d HB.out ((HB3.out.alloc HB3.out.size) _)⟩
          ·have b:((SA[j].toNat:Int)==0)=false:=by
            rw[←HX0'.out];have:SA[j].toNat≠p.1.toNat:=fun h=>e (UInt8.toNat_inj.1 h)
            simp;omega
           have HNE:Hid (∀ k,k<j+1→sgA[k]?≠some p.1):=Lib.hid (fun k hk=>by
            by_cases hkj:k=j
            ·subst hkj
             rw[y2r HSA.out k a2];intro h;injection h with h
             exact e h
            ·exact HNO.out k (by omega))
           clear e;go_wp2
           go_roundw
           case rel=>exact⟨j+1,by omega,by go_num,HB3.out,HNE.out⟩
           case measure=>simp[intOf];omega
         ·have HRR:Hid (R=⟨#[p.1]⟩):=Lib.hid (by
           rw[HR.out,HQT.out];unfold esc;rw[if_neg (y5b a HNO.out)])
          go_wp2;go_ret;exact⟨z1z HRR.out.symm,z1d HB.out ((HB3.out.alloc HB3.out.size) _)⟩
       ·have z1:(x==0)=false:=by simp;omega
        clear z0;go_wp2;go_quiet (fail);go_wp2;generalize hSA:(⟨#[92,124,40,41,42,43,63,123,46,91,94,36]⟩:ByteArray)=SA;have hsz:SA.size=12:=by rw[←hSA];rfl
        have HSA:Hid (SA=setA):=Lib.hid hSA.symm;clear hSA
        go_loopw [7] (fun i w9=>LoopSA p.1 wr i w9) (fun i _=>12 - (intOf i).toNat)
        case atStart=>exact⟨0,by omega,rfl,below_drewN (Below.refl _ _) _,fun k hk=>by omega⟩
        case round=>
         obtain⟨j,hj,rfl,hb3,hno⟩:=hrel;have HB3:=Lib.hid hb3;have HNO:=Lib.hid hno;clear hb3 hno;by_cases a:j<12
         ·have a2:j<SA.size:=by omega
          by_cases e:SA[j]=p.1
          ·have b:((SA[j].toNat:Int)==x)=true:=by rw[e,←HX0'.out];simp
           have HRR:Hid (R=⟨#[92,p.1]⟩):=Lib.hid (by
            have hin:p.1∈sgA:=by rw[←e];exact List.mem_of_getElem? (y2r HSA.out j a2)
            rw[HR.out,HQT.out];unfold esc;rw[if_pos hin])
           clear e;go_wp2;go_ret;exact⟨z1z (by rw[HRR.out];rfl),z1d HB.out ((HB3.out.alloc HB3.out.size) _)⟩
          ·have b:((SA[j].toNat:Int)==x)=false:=by
            rw[←HX0'.out];have:SA[j].toNat≠p.1.toNat:=fun h=>e (UInt8.toNat_inj.1 h)
            simp;omega
           have HNE:Hid (∀ k,k<j+1→sgA[k]?≠some p.1):=Lib.hid (fun k hk=>by
            by_cases hkj:k=j
            ·subst hkj
             rw[y2r HSA.out k a2];intro h;injection h with h
             exact e h
            ·exact HNO.out k (by omega))
           clear e;go_wp2
           go_roundw
           case rel=>exact⟨j+1,by omega,by go_num,HB3.out,HNE.out⟩
           case measure=>simp[intOf];omega
         ·have HRR:Hid (R=⟨#[p.1]⟩):=Lib.hid (by
           rw[HR.out,HQT.out];unfold esc;rw[if_neg (y5b a HNO.out)])
          go_wp2;go_ret;exact⟨z1z HRR.out.symm,z1d HB.out ((HB3.out.alloc HB3.out.size) _)⟩
      ·have HQT:Hid (setText S=91::(Q.flatMap itemJ++[93])):=Lib.hid (by
        rw[HQ.out];have h12:∀ c,p≠(c,c):=fun c h=>f2 (by rw[hx,hy,h])
        refine z32 (by rw[←HQ.out,hp];simp) (fun c hc=>?_) (fun hc=>?_)
        ·rw[←HQ.out,hp] at hc
         injection hc with hc _
         exact h12 c hc
        ·rw[←HQ.out,hp] at hc
         injection hc with hc _
         exact f1 ⟨by rw[hx,hc];rfl,by rw[hy,hc];rfl⟩)
       clear hp hx hy;have t2:(x==y)=false:=by simp;omega
       by_cases z0:x=0
       all_goals
        first | (subst z0;have z2:(y==255)=false:=(by simp;omega);clear f1 f2) | (have z1:(x==0)=false:=(by simp;omega);clear f1 f2 z0)
        go_wp2;go_quiet (fail);go_wp2
        go_loopw [8,9] (fun o i w9=>LoopSI Q wr o i w9) (fun _ i _=>n - (intOf i).toNat)
        case atStart=>exact⟨0,⟨#[91]⟩,by omega,rfl,rfl,rfl,below_drewN (Below.refl _ _) _⟩
        case round=>
         obtain⟨j,T,hj,rfl,rfl,hT3,hb3⟩:=hrel;have HB3:=Lib.hid hb3;have HT3:=Lib.hid hT3
         have hTl:T.size≤1400:=by
          rw[←z0o,hT3,List.length_cons];have:=z4a (Q.take j);have h2:(Q.take j).length≤256:=by rw[List.length_take];have:=HN.out;omega
          omega
         clear hb3 hT3;by_cases a:j<n
         ·obtain⟨q,hq⟩:=z0u HN.out a
          obtain⟨x,hx⟩:∃ x:Int,x=q.1.toNat:=⟨_,rfl⟩;obtain⟨y,hy⟩:∃ y:Int,y=q.2.toNat:=⟨_,rfl⟩
          have hle:q.1.toNat≤q.2.toNat:=by
           have:=List.all_eq_true.1 HOK.out q (List.mem_of_getElem? hq);unfold okS at this;rw[decide_eq_true_eq] at this;omega
          obtain⟨c0,c1⟩:=RowS.cellsAt (HL.out.beyond HB3.out) hq;rw[←hx] at c0;rw[←hy] at c1;have HF:Hid ((91::(Q.take (j+1)).flatMap itemJ:Bs)=(91::(Q.take j).flatMap itemJ)++((if q.1=94 then [92] else [])++(if q.1≠q.2∧q.2=94 then esc sgI q.1++[45,92,94] else itemT q))):=Lib.hid (by rw[z9x hq,z62 q hle])
          have hx94:q.1=94 ↔ x=94:=by
           rw[hx];constructor
           ·intro h;rw[h];rfl
           ·intro h;exact u8_eq (by rw[h];rfl)
          have hy94:q.2=94 ↔ y=94:=by
           rw[hy];constructor
           ·intro h;rw[h];rfl
           ·intro h;exact u8_eq (by rw[h];rfl)
          have hxy:q.1=q.2 ↔ x=y:=by
           rw[hx,hy];constructor
           ·intro h;rw[h]
           ·intro h;exact u8_eq h
          obtain⟨TI,hTI⟩:∃ TI:ByteArray,TI=⟨(itemT q).toArray⟩:=⟨_,rfl⟩
          have KI:Hid (∀ (w:World) (h:Nat),h=w.heap.size→Calls Tryd.prog 75 #[.slice (some ⟨h,0,none⟩) 1 1] (w.alloc (.cells #[.int .u8 x,.int .u8 y] 138)) fun e w'=>e= .returned (.string TI)∧Below (w.alloc (.cells #[.int .u8 x,.int .u8 y] 138)).heap.size (w.alloc (.cells #[.int .u8 x,.int .u8 y] 138)) w'):=Lib.hid fun w h e=>by
           subst e;exact y15 q hle x y hx hy TI hTI w
          have hTIl:TI.size≤10:=z3n (l:=itemT q) (by rw[hTI]) (by have:=z6o q;omega);have HTI:Hid (TI.data.toList=itemT q):=Lib.hid (by rw[hTI]);have hxb:0≤x∧x<256:=by rw[hx];have:=q.1.toNat_lt;omega
          have hyb:0≤y∧y<256:=by rw[hy];have:=q.2.toNat_lt;omega
          have hxle:x≤y:=by omega
          have n2:decide ((j:Int)<(n:Int))=true:=by simp;omega
          have jl:j<n:=a;clear hTI;by_cases f1:x=94
          ·subst f1
           by_cases f2:(94:Int)=y
           ·obtain rfl:y=94:=f2.symm
            have HX:Hid ((91::(Q.take (j+1)).flatMap itemJ:Bs)=(91::(Q.take j).flatMap itemJ)++([92]++(itemT q))):=Lib.hid (by rw[HF.out,if_pos (hx94.2 rfl),if_neg (fun h=>h.1 (hxy.2 rfl))]);clear hq hx hy hle hx94 hy94 hxy hxle;go_wp2;go_quiet (fail);go_wp2_with (go_at_call 75;((with_reducible refine(KI.out _ _ ?_).mono ?_));(first | rfl | (simp;done));rintro e w5 ⟨rfl,hb5⟩;have HB5:=Lib.hid hb5;clear hb5)
            go_roundw
            case rel=>exact⟨j+1,_,by have:=HN.out;omega,by go_num,rfl,by rw[HX.out];have:=z0q _ _ _ _ (z0q _ _ _ _ HT3.out (rfl:(⟨#[92]⟩:ByteArray).data.toList=[92])) HTI.out;simpa using this,z1d HB3.out (z0p HB5.out)⟩
            case measure=>simp[intOf];omega
           ·have e2:(94 != y)=true:=by simp;omega
            have e3:(y==94)=false:=by simp;omega
            have HX:Hid ((91::(Q.take (j+1)).flatMap itemJ:Bs)=(91::(Q.take j).flatMap itemJ)++([92]++(itemT q))):=Lib.hid (by rw[HF.out,if_pos (hx94.2 rfl),if_neg (fun h=>absurd (hy94.1 h.2) (by omega))]);clear hq hx hy hle hx94 hy94 hxy hxle;go_wp2;go_quiet (fail);go_wp2_with (go_at_call 75;((with_reducible refine(KI.out _ _ ?_).mono ?_));(first | rfl | (simp;done));rintro e w5 ⟨rfl,hb5⟩;have HB5:=Lib.hid hb5;clear hb5)
            go_roundw
            case rel=>exact⟨j+1,_,by have:=HN.out;omega,by go_num,rfl,by rw[HX.out];have:=z0q _ _ _ _ (z0q _ _ _ _ HT3.out (rfl:(⟨#[92]⟩:ByteArray).data.toList=[92])) HTI.out;simpa using this,z1d HB3.out (z0p HB5.out)⟩
            case measure=>simp[intOf];omega
          ·by_cases f2:x=y
           ·subst f2
            have e1:(x==94)=false:=by simp;omega
            have e2:(x != x)=false:=by simp
            have HX:Hid ((91::(Q.take (j+1)).flatMap itemJ:Bs)=(91::(Q.take j).flatMap itemJ)++([]++(itemT q))):=Lib.hid (by rw[HF.out,if_neg (fun h=>absurd (hx94.1 h) (by omega)),if_neg (fun h=>h.1 (hxy.2 rfl))]);clear hq hx hy hle hx94 hy94 hxy hxle;go_wp2;go_quiet (fail);go_wp2_with (go_at_call 75;((with_reducible refine(KI.out _ _ ?_).mono ?_));(first | rfl | (simp;done));rintro e w5 ⟨rfl,hb5⟩;have HB5:=Lib.hid hb5;clear hb5)
            go_roundw
            case rel=>exact⟨j+1,_,by have:=HN.out;omega,by go_num,rfl,by rw[HX.out];have:=z0q _ _ _ _ HT3.out HTI.out;simpa using this,z1d HB3.out (z0p HB5.out)⟩
            case measure=>simp[intOf];omega
           ·by_cases f3:y=94
            ·subst f3
             have e1:(x==94)=false:=by simp;omega
             have e2:(x != 94)=true:=by simp;omega
             have HX:Hid ((91::(Q.take (j+1)).flatMap itemJ:Bs)=(91::(Q.take j).flatMap itemJ)++([]++(esc sgI q.1++[45,92,94]))):=Lib.hid (by rw[HF.out,if_neg (fun h=>absurd (hx94.1 h) (by omega)),if_pos ⟨fun h=>absurd (hxy.1 h) (by omega),hy94.2 rfl⟩]);obtain⟨TS,hTS⟩:∃ TS:ByteArray,TS=⟨(itemT (q.1,q.1)).toArray⟩:=⟨_,rfl⟩
             have KS:Hid (∀ (w:World) (h:Nat),h=w.heap.size→Calls Tryd.prog 75 #[.slice (some ⟨h,0,none⟩) 1 1] (w.alloc (.cells #[.int .u8 x,.int .u8 x] 138)) fun e w'=>e= .returned (.string TS)∧Below (w.alloc (.cells #[.int .u8 x,.int .u8 x] 138)).heap.size (w.alloc (.cells #[.int .u8 x,.int .u8 x] 138)) w'):=Lib.hid fun w h e=>by
              subst e;exact y15 (q.1,q.1) (Nat.le_refl _) x x hx hx TS hTS w
             have HIT:Hid (TS.data.toList=esc sgI q.1):=Lib.hid (by rw[hTS];simp[itemT]);have hTSl:TS.size≤2:=z3n (l:=esc sgI q.1) HIT.out (z26 _ _);clear hTS;clear hq hx hy hle hx94 hy94 hxy hxle;go_wp2;go_quiet (fail);go_wp2;refine z0t 10 (by kernel_rfl) (by kernel_rfl) ?_;simp only[List.take_succ_cons,List.take_zero,List.drop_succ_cons,List.drop_zero]
             repeat (go_big_quiet_step (fail))
             refine wpQuiet_nil ?_;go_wp2_with (go_at_call 75;((with_reducible refine(KS.out _ _ ?_).mono ?_));(first | rfl | (simp;done));rintro e w5 ⟨rfl,hb5⟩;have HB5:=Lib.hid hb5;clear hb5)
             go_roundw
             case rel=>exact⟨j+1,_,by have:=HN.out;omega,by go_num,rfl,by rw[HX.out];have:=z0q _ _ _ _ (z0q _ _ _ _ HT3.out HIT.out) (rfl:(⟨#[45,92,94]⟩:ByteArray).data.toList=[45,92,94]);simpa using this,z1d HB3.out (z0p HB5.out)⟩
             case measure=>simp[intOf];omega
            ·have e1:(x==94)=false:=by simp;omega
             have e2:(x != y)=true:=by simp;omega
             have e3:(y==94)=false:=by simp;omega
             have HX:Hid ((91::(Q.take (j+1)).flatMap itemJ:Bs)=(91::(Q.take j).flatMap itemJ)++([]++(itemT q))):=Lib.hid (by rw[HF.out,if_neg (fun h=>absurd (hx94.1 h) (by omega)),if_neg (fun h=>absurd (hy94.1 h.2) (by omega))]);clear hq hx hy hle hx94 hy94 hxy hxle;go_wp2;go_quiet (fail);go_wp2_with (go_at_call 75;((with_reducible refine(KI.out _ _ ?_).mono ?_));(first | rfl | (simp;done));rintro e w5 ⟨rfl,hb5⟩;have HB5:=Lib.hid hb5;clear hb5)
             go_roundw
             case rel=>exact⟨j+1,_,by have:=HN.out;omega,by go_num,rfl,by rw[HX.out];have:=z0q _ _ _ _ HT3.out HTI.out;simpa using this,z1d HB3.out (z0p HB5.out)⟩
             case measure=>simp[intOf];omega
         ·have HX:Hid (Q.take j=Q):=Lib.hid (List.take_of_length_le (by have:=HN.out;omega))
          go_wp2;go_ret;exact⟨z1z (by rw[HR.out,HQT.out];exact ba_eq _ _ (by have:=z0q _ _ _ _ HT3.out (rfl:(⟨#[93]⟩:ByteArray).data.toList=[93]);rw[HX.out] at this;exact this)),z1d HB.out HB3.out⟩
    ·have m1:((n:Int)==1)=false:=by simp;omega
     have m1':(n==1)=false:=by simp;omega
     have HQT:Hid (setText S=91::(Q.flatMap itemJ++[93])):=Lib.hid (by
      rw[HQ.out];refine z32 (by rw[←HQ.out];exact hq0) (fun c hc=>?_) (fun hc=>?_) <;> (rw[←HQ.out] at hc;have:=HN.out;rw[hc] at this;exact n1 this))
     clear hq0;go_wp2;go_quiet (fail);go_wp2
     go_loopw [8,9] (fun o i w9=>LoopSI Q wr o i w9) (fun _ i _=>n - (intOf i).toNat)
     case atStart=>exact⟨0,⟨#[91]⟩,by omega,rfl,rfl,rfl,below_drewN (Below.refl _ _) _⟩
     case round=>
      obtain⟨j,T,hj,rfl,rfl,hT3,hb3⟩:=hrel;have HB3:=Lib.hid hb3;have HT3:=Lib.hid hT3
      have hTl:T.size≤1400:=by
       rw[←z0o,hT3,List.length_cons];have:=z4a (Q.take j);have h2:(Q.take j).length≤256:=by rw[List.length_take];have:=HN.out;omega
       omega
      clear hb3 hT3;by_cases a:j<n
      ·obtain⟨q,hq⟩:=z0u HN.out a
       obtain⟨x,hx⟩:∃ x:Int,x=q.1.toNat:=⟨_,rfl⟩;obtain⟨y,hy⟩:∃ y:Int,y=q.2.toNat:=⟨_,rfl⟩
       have hle:q.1.toNat≤q.2.toNat:=by
        have:=List.all_eq_true.1 HOK.out q (List.mem_of_getElem? hq);unfold okS at this;rw[decide_eq_true_eq] at this;omega
       obtain⟨c0,c1⟩:=RowS.cellsAt (HL.out.beyond HB3.out) hq;rw[←hx] at c0;rw[←hy] at c1;have HF:Hid ((91::(Q.take (j+1)).flatMap itemJ:Bs)=(91::(Q.take j).flatMap itemJ)++((if q.1=94 then [92] else [])++(if q.1≠q.2∧q.2=94 then esc sgI q.1++[45,92,94] else itemT q))):=Lib.hid (by rw[z9x hq,z62 q hle])
       have hx94:q.1=94 ↔ x=94:=by
        rw[hx];constructor
        ·intro h;rw[h];rfl
        ·intro h;exact u8_eq (by rw[h];rfl)
       have hy94:q.2=94 ↔ y=94:=by
        rw[hy];constructor
        ·intro h;rw[h];rfl
        ·intro h;exact u8_eq (by rw[h];rfl)
       have hxy:q.1=q.2 ↔ x=y:=by
        rw[hx,hy];constructor
        ·intro h;rw[h]
        ·intro h;exact u8_eq h
       obtain⟨TI,hTI⟩:∃ TI:ByteArray,TI=⟨(itemT q).toArray⟩:=⟨_,rfl⟩
       have KI:Hid (∀ (w:World) (h:Nat),h=w.heap.size→Calls Tryd.prog 75 #[.slice (some ⟨h,0,none⟩) 1 1] (w.alloc (.cells #[.int .u8 x,.int .u8 y] 138)) fun e w'=>e= .returned (.string TI)∧Below (w.alloc (.cells #[.int .u8 x,.int .u8 y] 138)).heap.size (w.alloc (.cells #[.int .u8 x,.int .u8 y] 138)) w'):=Lib.hid fun w h e=>by
        subst e;exact y15 q hle x y hx hy TI hTI w
       have hTIl:TI.size≤10:=z3n (l:=itemT q) (by rw[hTI]) (by have:=z6o q;omega);have HTI:Hid (TI.data.toList=itemT q):=Lib.hid (by rw[hTI]);have hxb:0≤x∧x<256:=by rw[hx];have:=q.1.toNat_lt;omega
       have hyb:0≤y∧y<256:=by rw[hy];have:=q.2.toNat_lt;omega
       have hxle:x≤y:=by omega
       have n2:decide ((j:Int)<(n:Int))=true:=by simp;omega
       have jl:j<n:=a;clear hTI;by_cases f1:x=94
       ·subst f1
        by_cases f2:(94:Int)=y
        ·obtain rfl:y=94:=f2.symm
         have HX:Hid ((91::(Q.take (j+1)).flatMap itemJ:Bs)=(91::(Q.take j).flatMap itemJ)++([92]++(itemT q))):=Lib.hid (by rw[HF.out,if_pos (hx94.2 rfl),if_neg (fun h=>h.1 (hxy.2 rfl))]);clear hq hx hy hle hx94 hy94 hxy hxle;go_wp2;go_quiet (fail);go_wp2_with (go_at_call 75;((with_reducible refine(KI.out _ _ ?_).mono ?_));(first | rfl | (simp;done));rintro e w5 ⟨rfl,hb5⟩;have HB5:=Lib.hid hb5;clear hb5)
         go_roundw
         case rel=>exact⟨j+1,_,by have:=HN.out;omega,by go_num,rfl,by rw[HX.out];have:=z0q _ _ _ _ (z0q _ _ _ _ HT3.out (rfl:(⟨#[92]⟩:ByteArray).data.toList=[92])) HTI.out;simpa using this,z1d HB3.out (z0p HB5.out)⟩
         case measure=>simp[intOf];omega
        ·have e2:(94 != y)=true:=by simp;omega
         have e3:(y==94)=false:=by simp;omega
         have HX:Hid ((91::(Q.take (j+1)).flatMap itemJ:Bs)=(91::(Q.take j).flatMap itemJ)++([92]++(itemT q))):=Lib.hid (by rw[HF.out,if_pos (hx94.2 rfl),if_neg (fun h=>absurd (hy94.1 h.2) (by omega))]);clear hq hx hy hle hx94 hy94 hxy hxle;go_wp2;go_quiet (fail);go_wp2_with (go_at_call 75;((with_reducible refine(KI.out _ _ ?_).mono ?_));(first | rfl | (simp;done));rintro e w5 ⟨rfl,hb5⟩;have HB5:=Lib.hid hb5;clear hb5)
         go_roundw
         case rel=>exact⟨j+1,_,by have:=HN.out;omega,by go_num,rfl,by rw[HX.out];have:=z0q _ _ _ _ (z0q _ _ _ _ HT3.out (rfl:(⟨#[92]⟩:ByteArray).data.toList=[92])) HTI.out;simpa using this,z1d HB3.out (z0p HB5.out)⟩
         case measure=>simp[intOf];omega
       ·by_cases f2:x=y
        ·subst f2
         have e1:(x==94)=false:=by simp;omega
         have e2:(x != x)=false:=by simp
         have HX:Hid ((91::(Q.take (j+1)).flatMap itemJ:Bs)=(91::(Q.take j).flatMap itemJ)++([]++(itemT q))):=Lib.hid (by rw[HF.out,if_neg (fun h=>absurd (hx94.1 h) (by omega)),if_neg (fun h=>h.1 (hxy.2 rfl))]);clear hq hx hy hle hx94 hy94 hxy hxle;go_wp2;go_quiet (fail);go_wp2_with (go_at_call 75;((with_reducible refine(KI.out _ _ ?_).mono ?_));(first | rfl | (simp;done));rintro e w5 ⟨rfl,hb5⟩;have HB5:=Lib.hid hb5;clear hb5)
         go_roundw
         case rel=>exact⟨j+1,_,by have:=HN.out;omega,by go_num,rfl,by rw[HX.out];have:=z0q _ _ _ _ HT3.out HTI.out;simpa using this,z1d HB3.out (z0p HB5.out)⟩
         case measure=>simp[intOf];omega
        ·by_cases f3:y=94
         ·subst f3
          have e1:(x==94)=false:=by simp;omega
          have e2:(x != 94)=true:=by simp;omega
          have HX:Hid ((91::(Q.take (j+1)).flatMap itemJ:Bs)=(91::(Q.take j).flatMap itemJ)++([]++(esc sgI q.1++[45,92,94]))):=Lib.hid (by rw[HF.out,if_neg (fun h=>absurd (hx94.1 h) (by omega)),if_pos ⟨fun h=>absurd (hxy.1 h) (by omega),hy94.2 rfl⟩]);obtain⟨TS,hTS⟩:∃ TS:ByteArray,TS=⟨(itemT (q.1,q.1)).toArray⟩:=⟨_,rfl⟩
          have KS:Hid (∀ (w:World) (h:Nat),h=w.heap.size→Calls Tryd.prog 75 #[.slice (some ⟨h,0,none⟩) 1 1] (w.alloc (.cells #[.int .u8 x,.int .u8 x] 138)) fun e w'=>e= .returned (.string TS)∧Below (w.alloc (.cells #[.int .u8 x,.int .u8 x] 138)).heap.size (w.alloc (.cells #[.int .u8 x,.int .u8 x] 138)) w'):=Lib.hid fun w h e=>by
           subst e;exact y15 (q.1,q.1) (Nat.le_refl _) x x hx hx TS hTS w
          have HIT:Hid (TS.data.toList=esc sgI q.1):=Lib.hid (by rw[hTS];simp[itemT]);have hTSl:TS.size≤2:=z3n (l:=esc sgI q.1) HIT.out (z26 _ _);clear hTS;clear hq hx hy hle hx94 hy94 hxy hxle;go_wp2;go_quiet (fail);go_wp2;refine z0t 10 (by kernel_rfl) (by kernel_rfl) ?_;simp only[List.take_succ_cons,List.take_zero,List.drop_succ_cons,List.drop_zero]
          repeat (go_big_quiet_step (fail))
          refine wpQuiet_nil ?_;go_wp2_with (go_at_call 75;((with_reducible refine(KS.out _ _ ?_).mono ?_));(first | rfl | (simp;done));rintro e w5 ⟨rfl,hb5⟩;have HB5:=Lib.hid hb5;clear hb5)
          go_roundw
          case rel=>exact⟨j+1,_,by have:=HN.out;omega,by go_num,rfl,by rw[HX.out];have:=z0q _ _ _ _ (z0q _ _ _ _ HT3.out HIT.out) (rfl:(⟨#[45,92,94]⟩:ByteArray).data.toList=[45,92,94]);simpa using this,z1d HB3.out (z0p HB5.out)⟩
          case measure=>simp[intOf];omega
         ·have e1:(x==94)=false:=by simp;omega
          have e2:(x != y)=true:=by simp;omega
          have e3:(y==94)=false:=by simp;omega
          have HX:Hid ((91::(Q.take (j+1)).flatMap itemJ:Bs)=(91::(Q.take j).flatMap itemJ)++([]++(itemT q))):=Lib.hid (by rw[HF.out,if_neg (fun h=>absurd (hx94.1 h) (by omega)),if_neg (fun h=>absurd (hy94.1 h.2) (by omega))]);clear hq hx hy hle hx94 hy94 hxy hxle;go_wp2;go_quiet (fail);go_wp2_with (go_at_call 75;((with_reducible refine(KI.out _ _ ?_).mono ?_));(first | rfl | (simp;done));rintro e w5 ⟨rfl,hb5⟩;have HB5:=Lib.hid hb5;clear hb5)
          go_roundw
          case rel=>exact⟨j+1,_,by have:=HN.out;omega,by go_num,rfl,by rw[HX.out];have:=z0q _ _ _ _ HT3.out HTI.out;simpa using this,z1d HB3.out (z0p HB5.out)⟩
          case measure=>simp[intOf];omega
      ·have HX:Hid (Q.take j=Q):=Lib.hid (List.take_of_length_le (by have:=HN.out;omega))
       go_wp2;go_ret;exact⟨z1z (by rw[HR.out,HQT.out];exact ba_eq _ _ (by have:=z0q _ _ _ _ HT3.out (rfl:(⟨#[93]⟩:ByteArray).data.toList=[93]);rw[HX.out] at this;exact this)),z1d HB.out HB3.out⟩
end Go.Proofs.YtejgbpbljdhndaaDoor
