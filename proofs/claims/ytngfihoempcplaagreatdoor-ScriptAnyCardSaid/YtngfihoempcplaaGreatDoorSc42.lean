import Derived.Test.YtngfihoempcplaaGreatDoorCf
import Derived.Test.YtngfihoempcplaaGreatDoorSc36
import Derived.Test.YtngfihoempcplaaGreatDoorEx14
import Derived.Deep.Slices
import Derived.Test.YtngfihoempcplaaGreatDoorSq1
namespace Go.Proofs.YtngfihoempcplaaGreatDoor
open Go Go.RowKit
set_option maxRecDepth 100000
set_option maxHeartbeats 20000000
def PL (b:List Cm):Prop:=∀ (b2:List Cm) (A A':OA) (c c':Nat) (w:World),RowC (LtX w.heap.size) w A b→RowC (LtX w.heap.size) w A' b2→(∀ x∈b,FitC x)→(∀ x∈b2,FitC x)→b.length≤1000000→
 Cz 8 #[.slice A b.length c,.slice A' b2.length c'] w fun e w'=>e= .returned (.bool (eqB (b.map stC) (b2.map stC)))∧Below w.heap.size w w'
def QC (c:Cm):Prop:=PL c.body∧PL c.els∧∀ r∈c.rules,PL r.body
theorem y3q {c:Cm} (h:FitC c):c.name.length≤1000000∧c.parts.length≤100000∧(∀ q∈c.parts,q.1.length≤100000∧q.2.length≤100000)∧sizeX c.cond≤1000000∧nmX c.cond≤1000000∧c.body.length≤1000000∧c.els.length≤1000000∧c.rules.length≤1000000∧
  (∀ x∈c.body,FitC x)∧(∀ x∈c.els,FitC x)∧∀ r∈c.rules,FitR r:=by
 cases h with | mk h1 h2 h3 h4 h5 h6 h7 h8 h9 h10 h11=>exact⟨h1,h2,h3,h4,h5,h6,h7,h8,h9,h10,h11⟩
theorem y2u {r:Ru} (h:FitR r):r.pt.length≤1000000∧r.body.length≤1000000∧∀ x∈r.body,FitC x:=by
 cases h with | mk h1 h2 h3=>exact⟨h1,h2,h3⟩
theorem z2x {r r':Cm}:stC r=stC r' ↔ r.kind=r'.kind∧r.name=r'.name∧r.n=r'.n∧r.parts=r'.parts∧r.cond=r'.cond∧r.body.map stC=r'.body.map stC∧r.els.map stC=r'.els.map stC∧r.rules.map stR=r'.rules.map stR:=by cases r;cases r';exact y7x
theorem z7a {r r':Ru}:stR r=stR r' ↔ r.kind=r'.kind∧r.peer=r'.peer∧(r.pk=r'.pk∧r.pt=r'.pt)∧r.body.map stC=r'.body.map stC:=by cases r;cases r';exact z9b
theorem y98 (wr:World) (c1 c2:List Value) (h1:0<c1.length) (h2:0<c2.length) (T:TypeId):∀ W',Below ((wr.alloc (.cells c1.toArray T)).alloc (.cells c2.toArray T)).heap.size ((wr.alloc (.cells c1.toArray T)).alloc (.cells c2.toArray T)) W'→BoxL W' wr.heap.size c1∧BoxL W' (wr.heap.size+1) c2:=fun W' hb=>by
 have e1:=BoxL.new wr T c1;have e2:=BoxL.new (wr.alloc (.cells c1.toArray T)) T c2;rw[z0j] at e2;exact⟨(e1.low h1 (z0b _ _)).low h1 hb,e2.low h2 hb⟩
theorem z9o (ks:List Cm) (ih:∀ x∈ks,QC x):PL ks:=by
 intro ks2 A A' c c' w hk hk' hs hs' hm9;obtain⟨v,hv⟩:∃ v,v=eqB (ks.map stC) (ks2.map stC):=⟨_,rfl⟩;rw[←hv];have HV:=zz hv;obtain⟨m,hm⟩:∃ m,m=ks.length:=⟨_,rfl⟩;obtain⟨m2,hm2⟩:∃ m,m=ks2.length:=⟨_,rfl⟩;rw[←hm] at hm9;rw[←hm,←hm2];have HK:=zz hk;have HK':=zz hk';have HI:=zz ih;have HS:=zz hs;have HS':=zz hs';have HM:=zz hm;have HM':=zz hm2;clear hv ih hk hk' hs hs' hm hm2;by_cases f6:m=m2
 ·have g6:((m:Int) != (m2:Int))=false:=by simp[f6]
  have g7:(m != m2)=false:=by simp[f6]
  subst f6;go_enter Tryz.func8,Tryz.ntmps8;go_wp2
  go_loopw [5] (fun i wr=>∃ j:Nat,j≤m∧i= .int .i64 j∧(ks.map stC).take j=(ks2.map stC).take j∧Below w.heap.size w wr) (fun i _=>m - (intOf i).toNat)
  case atStart=>exact⟨0,by omega,rfl,rfl,Below.refl _ _⟩
  case round=>
   obtain⟨j,hj,rfl,ht,hb⟩:=hrel;obtain⟨V,hV⟩:∃ V,V=wr:=⟨_,rfl⟩;subst hV;have HB:=zz hb;have HT:=zz ht;clear ht;by_cases a:j<m
   ·obtain⟨r,hr⟩:=z0t HM.out a
    obtain⟨r',hr'⟩:=z0t HM'.out a;obtain⟨ad,lk,rfl,hp,h9,hkr⟩:=z4p HK.out hb hr;obtain⟨ad',lk',rfl,hp',h9',hkr'⟩:=z4p HK'.out hb hr';have hmem:=List.mem_of_getElem? hr;have hmem':=List.mem_of_getElem? hr';have hQ:=HI.out r hmem;have hf:=y3q (HS.out r hmem);have hf':=y3q (HS'.out r' hmem');have HR:=zz (z2u (f:=stC) hr);have HR':=zz (z2u (f:=stC) hr');have hbt:(ad.add (j * 13)).block<V.heap.size:=by rw[z0p];have:=hb.size;omega
    have hbt':(ad'.add (j * 13)).block<V.heap.size:=by rw[z0p];have:=hb.size;omega
    have hK:=z0u.1 (hkr.of (fun _ h=>hb.cell h) fun _ h=>Nat.lt_of_lt_of_le h hb.size:KidC (LtX V.heap.size) V lk r);have hK':=z0u.1 (hkr'.of (fun _ h=>hb.cell h) fun _ h=>Nat.lt_of_lt_of_le h hb.size:KidC (LtX V.heap.size) V lk' r')
    have K4:Hid (∀ w',Below V.heap.size V w'→Cz 21 #[.slice lk.p r.parts.length lk.cp,.slice lk'.p r'.parts.length lk'.cp] w' fun e w2=>e= .returned (.bool (eqB r.parts r'.parts))∧Below w'.heap.size w' w2):=zz fun w' hw=>by
     have:=y78 _ _ _ _ lk.cp lk'.cp r.parts r'.parts w' (z5e.1 (hK.1.next hw)) (z5e.1 (hK'.1.next hw)) (by have:=hf.2.1;omega);by_cases h:r.parts=r'.parts
     ·rw[decide_eq_true h] at this;rw[z0v h];exact this
     ·rw[decide_eq_false h] at this;rw[z0x h];exact this
    have K5:Hid (∀ w',Below V.heap.size V w'→Cz 22 #[.agg #[r.cond.kind,r.cond.n,r.cond.name,r.cond.op,.slice lk.x r.cond.kids.length lk.cx],.agg #[r'.cond.kind,r'.cond.n,r'.cond.name,r'.cond.op,.slice lk'.x r'.cond.kids.length lk'.cx]] w' fun e w2=>e= .returned (.bool (eqB r.cond r'.cond))∧Below w'.heap.size w' w2):=zz fun w' hw=>by
     have:=y6s r.cond r'.cond lk.x lk'.x lk.cx lk'.cx w' (hK.2.1.next hw) (hK'.2.1.next hw) hf.2.2.2.1 hf'.2.2.2.1;rw[z4q,z4q] at this;exact this
    have K6:Hid (∀ w',Below V.heap.size V w'→Cz 8 #[.slice lk.b r.body.length lk.cb,.slice lk'.b r'.body.length lk'.cb] w' fun e w2=>e= .returned (.bool (eqB (r.body.map stC) (r'.body.map stC)))∧Below w'.heap.size w' w2):=zz fun w' hw=>
     hQ.1 _ _ _ _ _ w' (hK.2.2.1.next hw) (hK'.2.2.1.next hw) hf.2.2.2.2.2.2.2.2.1 hf'.2.2.2.2.2.2.2.2.1 hf.2.2.2.2.2.1
    have K7:Hid (∀ w',Below V.heap.size V w'→Cz 8 #[.slice lk.e r.els.length lk.ce,.slice lk'.e r'.els.length lk'.ce] w' fun e w2=>e= .returned (.bool (eqB (r.els.map stC) (r'.els.map stC)))∧Below w'.heap.size w' w2):=zz fun w' hw=>
     hQ.2.1 _ _ _ _ _ w' (hK.2.2.2.1.next hw) (hK'.2.2.2.1.next hw) hf.2.2.2.2.2.2.2.2.2.1 hf'.2.2.2.2.2.2.2.2.2.1 hf.2.2.2.2.2.2.1
    have KU:Hid (∀ (i:Nat) (z z':Ru) (B B':OA) (k k':Nat) w',r.rules[i]?=some z→r'.rules[i]?=some z'→Below V.heap.size V w'→KidR (LtX V.heap.size) V B z→KidR (LtX V.heap.size) V B' z'→Cz 8 #[.slice B z.body.length k,.slice B' z'.body.length k'] w' fun e w2=>e= .returned (.bool (eqB (z.body.map stC) (z'.body.map stC)))∧Below w'.heap.size w' w2):=zz fun i z z' B B' k k' w' h1 h2 hw hz hz'=>by
     have m1:=List.mem_of_getElem? h1;have q1:=y2u (hf.2.2.2.2.2.2.2.2.2.2 z m1);have q2:=y2u (hf'.2.2.2.2.2.2.2.2.2.2 z' (List.mem_of_getElem? h2));exact hQ.2.2 z m1 _ _ _ _ _ w' ((z2j.1 hz).next hw) ((z2j.1 hz').next hw) q1.2.2 q2.2.2 q1.2.1
    have HU:Hid (RowU (LtX V.heap.size) V lk.u r.rules∧RowU (LtX V.heap.size) V lk'.u r'.rules∧r.rules.length≤1000000):=zz ⟨hK.2.2.2.2,hK'.2.2.2.2,hf.2.2.2.2.2.2.2.1⟩;obtain⟨X,hX⟩:∃ X:BA,X=⟨r.name.toArray⟩:=⟨_,rfl⟩;obtain⟨X2,hX2⟩:∃ X:BA,X=⟨r'.name.toArray⟩:=⟨_,rfl⟩;have gx:=z2s hX hX2;have HNO:Hid (stC r≠stC r'→v=false):=zz fun h=>by rw[HV.out];exact z0x (z4m HR.out HR'.out h)
    obtain⟨c0,c1,c2,c3,c4,c5,c6,c7,c8,c9,c10,c11,c12⟩:=h9.at13;obtain⟨d0,d1,d2,d3,d4,d5,d6,d7,d8,d9,d10,d11,d12⟩:=h9'.at13;rw[←hX] at c1;rw[←hX2] at d1;clear hX hX2;have HBX:=zz (y98 V [r.kind,X,r.n,.slice lk.p r.parts.length lk.cp,r.cond.kind,r.cond.n,r.cond.name,r.cond.op,.slice lk.x r.cond.kids.length lk.cx,.slice lk.b r.body.length lk.cb,.slice lk.e r.els.length lk.ce,.slice lk.u r.rules.length lk.cu,r.pl] [r'.kind,X2,r'.n,.slice lk'.p r'.parts.length lk'.cp,r'.cond.kind,r'.cond.n,r'.cond.name,r'.cond.op,.slice lk'.x r'.cond.kids.length lk'.cx,.slice lk'.b r'.body.length lk'.cb,.slice lk'.e r'.els.length lk'.ce,.slice lk'.u r'.rules.length lk'.cu,r'.pl] (by simp) (by simp) 41);clear hr hr' hmem hmem' hQ hf hf' hkr hkr' hK hK' h9 h9' hp hp' hb;by_cases q1:r.kind=r'.kind
    ·have h1:(r.kind != r'.kind)=false:=by simp[q1]
     have Q1:=zz q1;clear q1;by_cases q2:r.name=r'.name
     ·rw[z0v q2] at gx
      have Q2:=zz q2;clear q2;by_cases q3:r.n=r'.n
      ·have h3:(r.n != r'.n)=false:=by simp[q3]
       have Q3:=zz q3;clear q3;by_cases q4:r.parts=r'.parts
       ·rw[z0v q4] at K4
        have Q4:=zz q4;clear q4;by_cases q5:r.cond=r'.cond
        ·rw[z0v q5] at K5
         have Q5:=zz q5;clear q5;by_cases q6:r.body.map stC=r'.body.map stC
         ·rw[z0v q6] at K6
          have Q6:=zz q6;clear q6;by_cases q7:r.els.map stC=r'.els.map stC
          ·rw[z0v q7] at K7
           have Q7:=zz q7;clear q7;by_cases q8:r.rules.length=r'.rules.length
           ·have g8:((r.rules.length:Int) != (r'.rules.length:Int))=false:=by simp[q8]
            have g9:(r.rules.length != r'.rules.length)=false:=by simp[q8]
            have HL8:=zz q8;obtain⟨l4,hl4⟩:∃ x,x=r.rules.length:=⟨_,rfl⟩;obtain⟨l5,hl5⟩:∃ x,x=r'.rules.length:=⟨_,rfl⟩;have HL4:=zz hl4;have HL5:=zz hl5;have hl9:l4≤1000000:=by rw[hl4];exact HU.out.2.2
            rw[←hl4,←hl5] at g8 g9 q8;rw[←hl4,←hl5] at HBX;rw[←hl4] at c11;rw[←hl5] at d11;subst q8;clear hl4 hl5;go_wp2_with (first | (go_at_call 21;go_must ((with_reducible refine(K4.out _ (z0a V _ _)).mono ?_);rintro e v4 ⟨rfl,hb4⟩;have HT4:=zz hb4;clear hb4;obtain⟨u1,u2⟩:=HBX.out _ HT4.out;obtain⟨x0,x1,x2,x3,x4,x5,x6,x7,x8,x9,x10,x11,x12⟩:=u1.all13;obtain⟨y0,y1,y2,y3,y4,y5,y6,y7,y8,y9,y10,y11,y12⟩:=u2.all13;clear u1 u2 x0 x1 x2 x12 y0 y1 y2 y12)) | (go_at_call 22;go_must ((with_reducible refine(K5.out _ ((z0a V _ _).trans (HT4.out.mono (by simp;omega)))).mono ?_);rintro e v5 ⟨rfl,hb5⟩;have HT5:=zz (HT4.out.trans (hb5.mono HT4.out.size));clear hb5;obtain⟨u1,u2⟩:=HBX.out _ HT5.out;obtain⟨x0,x1,x2,x3,x4,x5,x6,x7,x8,x9,x10,x11,x12⟩:=u1.all13;obtain⟨y0,y1,y2,y3,y4,y5,y6,y7,y8,y9,y10,y11,y12⟩:=u2.all13;clear u1 u2 x0 x1 x2 x12 y0 y1 y2 y12)) | (go_at_call 8;((with_reducible refine(K6.out _ ((z0a V _ _).trans (HT5.out.mono (by simp;omega)))).mono ?_);rintro e v6 ⟨rfl,hb6⟩;have HT6:=zz (HT5.out.trans (hb6.mono HT5.out.size));clear hb6 K6;obtain⟨u1,u2⟩:=HBX.out _ HT6.out;obtain⟨x0,x1,x2,x3,x4,x5,x6,x7,x8,x9,x10,x11,x12⟩:=u1.all13;obtain⟨y0,y1,y2,y3,y4,y5,y6,y7,y8,y9,y10,y11,y12⟩:=u2.all13;clear u1 u2 x0 x1 x2 x12 y0 y1 y2 y12)) | (go_at_call 8;go_must ((with_reducible refine(K7.out _ ((z0a V _ _).trans (HT6.out.mono (by simp;omega)))).mono ?_);rintro e v7 ⟨rfl,hb7⟩;have HT7:=zz (HT6.out.trans (hb7.mono HT6.out.size));clear hb7;obtain⟨u1,u2⟩:=HBX.out _ HT7.out;obtain⟨x0,x1,x2,x3,x4,x5,x6,x7,x8,x9,x10,x11,x12⟩:=u1.all13;obtain⟨y0,y1,y2,y3,y4,y5,y6,y7,y8,y9,y10,y11,y12⟩:=u2.all13;clear u1 u2 x0 x1 x2 x12 y0 y1 y2 y12)))
            go_loopw [8] (fun i wr2=>∃ q:Nat,q≤l4∧i= .int .i64 q∧(r.rules.map stR).take q=(r'.rules.map stR).take q∧Hid (Below ((V.alloc (.cells #[r.kind,X,r.n,.slice lk.p r.parts.length lk.cp,r.cond.kind,r.cond.n,r.cond.name,r.cond.op,.slice lk.x r.cond.kids.length lk.cx,.slice lk.b r.body.length lk.cb,.slice lk.e r.els.length lk.ce,.slice lk.u l4 lk.cu,r.pl] 41)).alloc (.cells #[r'.kind,X2,r'.n,.slice lk'.p r'.parts.length lk'.cp,r'.cond.kind,r'.cond.n,r'.cond.name,r'.cond.op,.slice lk'.x r'.cond.kids.length lk'.cx,.slice lk'.b r'.body.length lk'.cb,.slice lk'.e r'.els.length lk'.ce,.slice lk'.u l4 lk'.cu,r'.pl] 41)).heap.size ((V.alloc (.cells #[r.kind,X,r.n,.slice lk.p r.parts.length lk.cp,r.cond.kind,r.cond.n,r.cond.name,r.cond.op,.slice lk.x r.cond.kids.length lk.cx,.slice lk.b r.body.length lk.cb,.slice lk.e r.els.length lk.ce,.slice lk.u l4 lk.cu,r.pl] 41)).alloc (.cells #[r'.kind,X2,r'.n,.slice lk'.p r'.parts.length lk'.cp,r'.cond.kind,r'.cond.n,r'.cond.name,r'.cond.op,.slice lk'.x r'.cond.kids.length lk'.cx,.slice lk'.b r'.body.length lk'.cb,.slice lk'.e r'.els.length lk'.ce,.slice lk'.u l4 lk'.cu,r'.pl] 41)) wr2)) (fun i _=>l4 - (intOf i).toNat)
            case atStart=>exact⟨0,by omega,rfl,rfl,HT7⟩
            case round=>
             obtain⟨q,hq,rfl,htq,HW⟩:=hrel;have HTQ:=zz htq;obtain⟨u1,u2⟩:=HBX.out _ HW.out;have x11:=u1.at_ 11 _ rfl
             have y11:=u2.at_ 11 _ rfl
             have hbw:Below V.heap.size V wr:=(z0a V _ _).trans (HW.out.mono (by simp;omega));have hzw:V.heap.size+1<wr.heap.size:=by have:=HW.out.size;simp at this;omega
             clear htq u1 u2 c0 c1 c2 c3 c4 c5 c6 c7 c8 c9 c10 c11 c12 d0 d1 d2 d3 d4 d5 d6 d7 d8 d9 d10 d11 d12;by_cases aq:q<l4
             ·obtain⟨z,hz⟩:=z0t HL4.out aq
              obtain⟨z',hz'⟩:=z0t HL5.out aq;obtain⟨ad3,B,k3,hu,hp3,h3z,hk3⟩:=z4l HU.out.1 hbw hz;obtain⟨ad4,B',k4,hu',hp4,h4z,hk4⟩:=z4l HU.out.2.1 hbw hz'
              have K8:Hid (∀ w',Below wr.heap.size wr w'→Cz 8 #[.slice B z.body.length k3,.slice B' z'.body.length k4] w' fun e w2=>e= .returned (.bool (eqB (z.body.map stC) (z'.body.map stC)))∧Below w'.heap.size w' w2):=zz fun w' hw=>
               KU.out q z z' B B' k3 k4 w' hz hz' (hbw.trans (hw.mono hbw.size)) hk3 hk4
              have HRZ:=zz (z2u (f:=stR) hz);have HRZ':=zz (z2u (f:=stR) hz');have HN8:Hid (stR z≠stR z'→v=false):=zz fun h=>HNO.out fun e=>(z4m HRZ.out HRZ'.out h) (z2x.1 e).2.2.2.2.2.2.2
              have hbz:(ad3.add (q * 6)).block<wr.heap.size:=by rw[z0p];have:=hbw.size;omega
              have hbz':(ad4.add (q * 6)).block<wr.heap.size:=by rw[z0p];have:=hbw.size;omega
              obtain⟨Y,hY⟩:∃ X:BA,X=⟨z.pt.toArray⟩:=⟨_,rfl⟩;obtain⟨Y2,hY2⟩:∃ X:BA,X=⟨z'.pt.toArray⟩:=⟨_,rfl⟩;have gy:=z2s hY hY2;have hP:=x2j z.pk z'.pk Y Y2;obtain⟨c0,c1,c2,c3,c4,c5⟩:=h3z.at6;obtain⟨d0,d1,d2,d3,d4,d5⟩:=h4z.at6;rw[←hY] at c3;rw[←hY2] at d3;rw[hu] at x11;rw[hu'] at y11;clear hz hz' hk3 hk4 hp3 hp4 h3z h4z hu hu' hY hY2 hbw;by_cases p1:z.kind=z'.kind
              ·have e1:(z.kind != z'.kind)=false:=by simp[p1]
               have P1:=zz p1;clear p1;by_cases p2:z.peer=z'.peer
               ·have e2:(z.peer != z'.peer)=false:=by simp[p2]
                have P2:=zz p2;clear p2;by_cases p3:z.pk=z'.pk∧z.pt=z'.pt
                ·have e3:(z.pk==z'.pk && Y.toList==Y2.toList)=true:=by rw[gy,z0v p3.2,p3.1];simp
                 rw[e3] at hP;simp only[Bool.not_true] at hP;have P3:=zz p3;clear p3 e3 gy;by_cases p4:z.body.map stC=z'.body.map stC
                 ·rw[z0v p4] at K8
                  have HX:Hid ((r.rules.map stR).take (q+1)=(r'.rules.map stR).take (q+1)):=zz (by
                   have h7:=HRZ.out;rw[z7a.2 ⟨P1.out,P2.out,P3.out,p4⟩] at h7;exact z3l HTQ.out h7 HRZ'.out)
                  clear p4;go_wp2_with (go_at_call 8;go_must ((with_reducible refine(K8.out _ (z0a wr _ _)).mono ?_);rintro e w9 ⟨rfl,hb9⟩;have HB9:=zz ((z0a wr _ _).trans (hb9.mono (by simp;omega)));clear hb9))
                  go_roundw
                  case rel=>exact⟨q+1,by omega,by go_num,HX.out,zz (HW.out.trans (HB9.out.mono HW.out.size))⟩
                  case measure=>simp[intOf];omega
                 ·rw[z0x p4] at K8
                  have HX:Hid (v=false):=zz (HN8.out fun h=>p4 (z7a.1 h).2.2.2);clear p4;go_wp2_with (go_at_call 8;go_must ((with_reducible refine(K8.out _ (z0a wr _ _)).mono ?_);rintro e w9 ⟨rfl,hb9⟩;have HB9:=zz ((z0a wr _ _).trans (hb9.mono (by simp;omega)));clear hb9));go_ret;exact⟨z0c HX.out.symm,HB.out.trans (((z0a V _ _).trans ((HW.out.trans (HB9.out.mono HW.out.size)).mono (by simp;omega))).mono HB.out.size)⟩
                ·have e3:(z.pk==z'.pk && Y.toList==Y2.toList)=false:=by
                  rw[gy];by_cases h:z.pk=z'.pk
                  ·rw[z0x (fun e=>p3 ⟨h,e⟩)];simp
                  ·simp[h]
                 rw[e3] at hP;simp only[Bool.not_false] at hP;have HX:Hid (v=false):=zz (HN8.out fun h=>p3 (z7a.1 h).2.2.1);clear p3 e3 gy;go_wp2;go_ret;exact⟨z0c HX.out.symm,HB.out.trans (((z0a V _ _).trans ((HW.out.trans ((z0a wr _ _).mono HW.out.size)).mono (by simp;omega))).mono HB.out.size)⟩
               ·have e2:(z.peer != z'.peer)=true:=by simp[p2]
                have HX:Hid (v=false):=zz (HN8.out fun h=>p2 (z7a.1 h).2.1);clear p2 hP gy;go_wp2;go_ret;exact⟨z0c HX.out.symm,HB.out.trans (((z0a V _ _).trans ((HW.out.trans ((z0a wr _ _).mono HW.out.size)).mono (by simp;omega))).mono HB.out.size)⟩
              ·have e1:(z.kind != z'.kind)=true:=by simp[p1]
               have HX:Hid (v=false):=zz (HN8.out fun h=>p1 (z7a.1 h).1);clear p1 hP gy;go_wp2;go_ret;exact⟨z0c HX.out.symm,HB.out.trans (((z0a V _ _).trans ((HW.out.trans ((z0a wr _ _).mono HW.out.size)).mono (by simp;omega))).mono HB.out.size)⟩
             ·have HX:Hid ((ks.map stC).take (j+1)=(ks2.map stC).take (j+1)):=zz (by
               have h8:=HTQ.out;rw[List.take_of_length_le (by rw[List.length_map];have:=HL4.out;omega),List.take_of_length_le (by rw[List.length_map];have:=HL5.out;omega)] at h8;have h7:=HR.out;rw[z2x.2 ⟨Q1.out,Q2.out,Q3.out,Q4.out,Q5.out,Q6.out,Q7.out,h8⟩] at h7;exact z3l HT.out h7 HR'.out)
              have HBW:=zz hbw;clear hbw;go_wp2
              go_roundw
              case rel=>exact⟨j+1,by omega,by go_num,HX.out,HB.out.trans (HBW.out.mono HB.out.size)⟩
              case measure=>simp[intOf];omega
           ·have g8:((r.rules.length:Int) != (r'.rules.length:Int))=true:=by simp;omega
            have g9:(r.rules.length != r'.rules.length)=true:=by simp[q8]
            have HX:Hid (v=false):=zz (HNO.out fun h=>q8 (by have:=congrArg List.length (z2x.1 h).2.2.2.2.2.2.2;simpa using this));clear q8;go_wp2_with (first | (go_at_call 21;go_must ((with_reducible refine(K4.out _ (z0a V _ _)).mono ?_);rintro e v4 ⟨rfl,hb4⟩;have HT4:=zz hb4;clear hb4;obtain⟨u1,u2⟩:=HBX.out _ HT4.out;obtain⟨x0,x1,x2,x3,x4,x5,x6,x7,x8,x9,x10,x11,x12⟩:=u1.all13;obtain⟨y0,y1,y2,y3,y4,y5,y6,y7,y8,y9,y10,y11,y12⟩:=u2.all13;clear u1 u2 x0 x1 x2 x12 y0 y1 y2 y12)) | (go_at_call 22;go_must ((with_reducible refine(K5.out _ ((z0a V _ _).trans (HT4.out.mono (by simp;omega)))).mono ?_);rintro e v5 ⟨rfl,hb5⟩;have HT5:=zz (HT4.out.trans (hb5.mono HT4.out.size));clear hb5;obtain⟨u1,u2⟩:=HBX.out _ HT5.out;obtain⟨x0,x1,x2,x3,x4,x5,x6,x7,x8,x9,x10,x11,x12⟩:=u1.all13;obtain⟨y0,y1,y2,y3,y4,y5,y6,y7,y8,y9,y10,y11,y12⟩:=u2.all13;clear u1 u2 x0 x1 x2 x12 y0 y1 y2 y12)) | (go_at_call 8;((with_reducible refine(K6.out _ ((z0a V _ _).trans (HT5.out.mono (by simp;omega)))).mono ?_);rintro e v6 ⟨rfl,hb6⟩;have HT6:=zz (HT5.out.trans (hb6.mono HT5.out.size));clear hb6 K6;obtain⟨u1,u2⟩:=HBX.out _ HT6.out;obtain⟨x0,x1,x2,x3,x4,x5,x6,x7,x8,x9,x10,x11,x12⟩:=u1.all13;obtain⟨y0,y1,y2,y3,y4,y5,y6,y7,y8,y9,y10,y11,y12⟩:=u2.all13;clear u1 u2 x0 x1 x2 x12 y0 y1 y2 y12)) | (go_at_call 8;go_must ((with_reducible refine(K7.out _ ((z0a V _ _).trans (HT6.out.mono (by simp;omega)))).mono ?_);rintro e v7 ⟨rfl,hb7⟩;have HT7:=zz (HT6.out.trans (hb7.mono HT6.out.size));clear hb7;obtain⟨u1,u2⟩:=HBX.out _ HT7.out;obtain⟨x0,x1,x2,x3,x4,x5,x6,x7,x8,x9,x10,x11,x12⟩:=u1.all13;obtain⟨y0,y1,y2,y3,y4,y5,y6,y7,y8,y9,y10,y11,y12⟩:=u2.all13;clear u1 u2 x0 x1 x2 x12 y0 y1 y2 y12)));go_ret;exact⟨z0c HX.out.symm,HB.out.trans (((z0a V _ _).trans (HT7.out.mono (by simp;omega))).mono HB.out.size)⟩
          ·rw[z0x q7] at K7
           have HX:Hid (v=false):=zz (HNO.out fun h=>q7 (z2x.1 h).2.2.2.2.2.2.1);clear q7;go_wp2_with (first | (go_at_call 21;go_must ((with_reducible refine(K4.out _ (z0a V _ _)).mono ?_);rintro e v4 ⟨rfl,hb4⟩;have HT4:=zz hb4;clear hb4;obtain⟨u1,u2⟩:=HBX.out _ HT4.out;obtain⟨x0,x1,x2,x3,x4,x5,x6,x7,x8,x9,x10,x11,x12⟩:=u1.all13;obtain⟨y0,y1,y2,y3,y4,y5,y6,y7,y8,y9,y10,y11,y12⟩:=u2.all13;clear u1 u2 x0 x1 x2 x12 y0 y1 y2 y12)) | (go_at_call 22;go_must ((with_reducible refine(K5.out _ ((z0a V _ _).trans (HT4.out.mono (by simp;omega)))).mono ?_);rintro e v5 ⟨rfl,hb5⟩;have HT5:=zz (HT4.out.trans (hb5.mono HT4.out.size));clear hb5;obtain⟨u1,u2⟩:=HBX.out _ HT5.out;obtain⟨x0,x1,x2,x3,x4,x5,x6,x7,x8,x9,x10,x11,x12⟩:=u1.all13;obtain⟨y0,y1,y2,y3,y4,y5,y6,y7,y8,y9,y10,y11,y12⟩:=u2.all13;clear u1 u2 x0 x1 x2 x12 y0 y1 y2 y12)) | (go_at_call 8;((with_reducible refine(K6.out _ ((z0a V _ _).trans (HT5.out.mono (by simp;omega)))).mono ?_);rintro e v6 ⟨rfl,hb6⟩;have HT6:=zz (HT5.out.trans (hb6.mono HT5.out.size));clear hb6 K6;obtain⟨u1,u2⟩:=HBX.out _ HT6.out;obtain⟨x0,x1,x2,x3,x4,x5,x6,x7,x8,x9,x10,x11,x12⟩:=u1.all13;obtain⟨y0,y1,y2,y3,y4,y5,y6,y7,y8,y9,y10,y11,y12⟩:=u2.all13;clear u1 u2 x0 x1 x2 x12 y0 y1 y2 y12)) | (go_at_call 8;go_must ((with_reducible refine(K7.out _ ((z0a V _ _).trans (HT6.out.mono (by simp;omega)))).mono ?_);rintro e v7 ⟨rfl,hb7⟩;have HT7:=zz (HT6.out.trans (hb7.mono HT6.out.size));clear hb7;obtain⟨u1,u2⟩:=HBX.out _ HT7.out;obtain⟨x0,x1,x2,x3,x4,x5,x6,x7,x8,x9,x10,x11,x12⟩:=u1.all13;obtain⟨y0,y1,y2,y3,y4,y5,y6,y7,y8,y9,y10,y11,y12⟩:=u2.all13;clear u1 u2 x0 x1 x2 x12 y0 y1 y2 y12)));go_ret;exact⟨z0c HX.out.symm,HB.out.trans (((z0a V _ _).trans (HT7.out.mono (by simp;omega))).mono HB.out.size)⟩
         ·rw[z0x q6] at K6
          have HX:Hid (v=false):=zz (HNO.out fun h=>q6 (z2x.1 h).2.2.2.2.2.1);clear q6;go_wp2_with (first | (go_at_call 21;go_must ((with_reducible refine(K4.out _ (z0a V _ _)).mono ?_);rintro e v4 ⟨rfl,hb4⟩;have HT4:=zz hb4;clear hb4;obtain⟨u1,u2⟩:=HBX.out _ HT4.out;obtain⟨x0,x1,x2,x3,x4,x5,x6,x7,x8,x9,x10,x11,x12⟩:=u1.all13;obtain⟨y0,y1,y2,y3,y4,y5,y6,y7,y8,y9,y10,y11,y12⟩:=u2.all13;clear u1 u2 x0 x1 x2 x12 y0 y1 y2 y12)) | (go_at_call 22;go_must ((with_reducible refine(K5.out _ ((z0a V _ _).trans (HT4.out.mono (by simp;omega)))).mono ?_);rintro e v5 ⟨rfl,hb5⟩;have HT5:=zz (HT4.out.trans (hb5.mono HT4.out.size));clear hb5;obtain⟨u1,u2⟩:=HBX.out _ HT5.out;obtain⟨x0,x1,x2,x3,x4,x5,x6,x7,x8,x9,x10,x11,x12⟩:=u1.all13;obtain⟨y0,y1,y2,y3,y4,y5,y6,y7,y8,y9,y10,y11,y12⟩:=u2.all13;clear u1 u2 x0 x1 x2 x12 y0 y1 y2 y12)) | (go_at_call 8;go_must ((with_reducible refine(K6.out _ ((z0a V _ _).trans (HT5.out.mono (by simp;omega)))).mono ?_);rintro e v6 ⟨rfl,hb6⟩;have HT6:=zz (HT5.out.trans (hb6.mono HT5.out.size));clear hb6)));go_ret;exact⟨z0c HX.out.symm,HB.out.trans (((z0a V _ _).trans (HT6.out.mono (by simp;omega))).mono HB.out.size)⟩
        ·rw[z0x q5] at K5
         have HX:Hid (v=false):=zz (HNO.out fun h=>q5 (z2x.1 h).2.2.2.2.1);clear q5;go_wp2_with (first | (go_at_call 21;go_must ((with_reducible refine(K4.out _ (z0a V _ _)).mono ?_);rintro e v4 ⟨rfl,hb4⟩;have HT4:=zz hb4;clear hb4;obtain⟨u1,u2⟩:=HBX.out _ HT4.out;obtain⟨x0,x1,x2,x3,x4,x5,x6,x7,x8,x9,x10,x11,x12⟩:=u1.all13;obtain⟨y0,y1,y2,y3,y4,y5,y6,y7,y8,y9,y10,y11,y12⟩:=u2.all13;clear u1 u2 x0 x1 x2 x12 y0 y1 y2 y12)) | (go_at_call 22;go_must ((with_reducible refine(K5.out _ ((z0a V _ _).trans (HT4.out.mono (by simp;omega)))).mono ?_);rintro e v5 ⟨rfl,hb5⟩;have HT5:=zz (HT4.out.trans (hb5.mono HT4.out.size));clear hb5)));go_ret;exact⟨z0c HX.out.symm,HB.out.trans (((z0a V _ _).trans (HT5.out.mono (by simp;omega))).mono HB.out.size)⟩
       ·rw[z0x q4] at K4
        have HX:Hid (v=false):=zz (HNO.out fun h=>q4 (z2x.1 h).2.2.2.1);clear q4;go_wp2_with (first | (go_at_call 21;go_must ((with_reducible refine(K4.out _ (z0a V _ _)).mono ?_);rintro e v4 ⟨rfl,hb4⟩;have HT4:=zz hb4;clear hb4)));go_ret;exact⟨z0c HX.out.symm,HB.out.trans (((z0a V _ _).trans (HT4.out.mono (by simp;omega))).mono HB.out.size)⟩
      ·have h3:(r.n != r'.n)=true:=by simp[q3]
       have HX:Hid (v=false):=zz (HNO.out fun h=>q3 (z2x.1 h).2.2.1);clear q3;go_wp2;go_ret;exact⟨z0c HX.out.symm,HB.out.trans ((z0a V _ _).mono HB.out.size)⟩
     ·rw[z0x q2] at gx
      have HX:Hid (v=false):=zz (HNO.out fun h=>q2 (z2x.1 h).2.1);clear q2;go_wp2;go_ret;exact⟨z0c HX.out.symm,HB.out.trans ((z0a V _ _).mono HB.out.size)⟩
    ·have h1:(r.kind != r'.kind)=true:=by simp[q1]
     have HX:Hid (v=false):=zz (HNO.out fun h=>q1 (z2x.1 h).1);clear q1;go_wp2;go_ret;exact⟨z0c HX.out.symm,HB.out.trans ((z0a V _ _).mono HB.out.size)⟩
   ·have HX2:Hid (v=true):=zz (by
     rw[HV.out];have:=HT.out;rw[List.take_of_length_le (by rw[List.length_map];have:=HM.out;omega),List.take_of_length_le (by rw[List.length_map];have:=HM'.out;omega)] at this;exact z0v this)
    clear hb;go_wp2;go_ret;exact⟨z0c HX2.out.symm,HB.out⟩
 ·have HX:Hid (v=false):=zz (by rw[HV.out];exact z0x (fun h=>f6 (by have:=congrArg List.length h;rw[List.length_map,List.length_map] at this;rw[HM.out,HM'.out,this])))
  have g6:((m:Int) != (m2:Int))=true:=by simp;omega
  have g7:(m != m2)=true:=by simp[f6]
  clear f6;go_enter Tryz.func8,Tryz.ntmps8;go_wp2;go_ret;exact⟨z0c HX.out.symm,Below.refl _ _⟩
theorem x5l:(∀ c,QC c)∧∀ r:Ru,PL r.body:=Cm.ind2 (P:=QC) (Q:=fun r=>PL r.body) (fun _ _ _ _ _ b e _ _ hb he hu=>⟨z9o b hb,z9o e he,hu⟩) (fun _ _ _ _ b _ hb=>z9o b hb)
theorem y5h (b:List Cm):PL b:=z9o b fun x _=>x5l.1 x
theorem z72 (wr:World) (c1:List Value) (h1:0<c1.length) (T:TypeId):∀ W',Below (wr.alloc (.cells c1.toArray T)).heap.size (wr.alloc (.cells c1.toArray T)) W'→BoxL W' wr.heap.size c1:=fun _ hb=>(BoxL.new wr T c1).low h1 hb
def SA:BA:=⟨#[101,120,112,101,99,116,32,123,45,114,101,32,34,97,42,34,32,123,125,32,101,111,102,32,123,101,120,105,116,125,125]⟩
def LA:List Tok:=[⟨1,[101,120,112,101,99,116],0,[],0⟩,⟨4,[123],0,[],7⟩,⟨5,[114,101],0,[],8⟩,⟨3,[],0,[([],[97,42])],12⟩,⟨4,[123],0,[],17⟩,⟨4,[125],0,[],18⟩,⟨1,[101,111,102],0,[],20⟩,⟨4,[123],0,[],24⟩,⟨1,[101,120,105,116],0,[],25⟩,⟨4,[125],0,[],29⟩,⟨4,[125],0,[],30⟩]
theorem scanA:scan SA.data.toList=(some LA,0,0):=by
 have b0:behind SA.data.toList 0=0:=by decide
 have h0:tokR (SA.data.toList.drop 0)= .ok ⟨1,[101,120,112,101,99,116],0,[],0⟩ 6:=by kernel_rfl
 have b1:behind SA.data.toList (0+6)=7:=by decide
 have h1:tokR (SA.data.toList.drop 7)= .ok ⟨4,[123],0,[],0⟩ 1:=by kernel_rfl
 have b2:behind SA.data.toList (7+1)=8:=by decide
 have h2:tokR (SA.data.toList.drop 8)= .ok ⟨5,[114,101],0,[],0⟩ 3:=by kernel_rfl
 have b3:behind SA.data.toList (8+3)=12:=by decide
 have h3:tokR (SA.data.toList.drop 12)= .ok ⟨3,[],0,[([],[97,42])],0⟩ 4:=by kernel_rfl
 have b4:behind SA.data.toList (12+4)=17:=by decide
 have h4:tokR (SA.data.toList.drop 17)= .ok ⟨4,[123],0,[],0⟩ 1:=by kernel_rfl
 have b5:behind SA.data.toList (17+1)=18:=by decide
 have h5:tokR (SA.data.toList.drop 18)= .ok ⟨4,[125],0,[],0⟩ 1:=by kernel_rfl
 have b6:behind SA.data.toList (18+1)=20:=by decide
 have h6:tokR (SA.data.toList.drop 20)= .ok ⟨1,[101,111,102],0,[],0⟩ 3:=by kernel_rfl
 have b7:behind SA.data.toList (20+3)=24:=by decide
 have h7:tokR (SA.data.toList.drop 24)= .ok ⟨4,[123],0,[],0⟩ 1:=by kernel_rfl
 have b8:behind SA.data.toList (24+1)=25:=by decide
 have h8:tokR (SA.data.toList.drop 25)= .ok ⟨1,[101,120,105,116],0,[],0⟩ 4:=by kernel_rfl
 have b9:behind SA.data.toList (25+4)=29:=by decide
 have h9:tokR (SA.data.toList.drop 29)= .ok ⟨4,[125],0,[],0⟩ 1:=by kernel_rfl
 have b10:behind SA.data.toList (29+1)=30:=by decide
 have h10:tokR (SA.data.toList.drop 30)= .ok ⟨4,[125],0,[],0⟩ 1:=by kernel_rfl
 have b11:behind SA.data.toList (30+1)=31:=by decide
 unfold scan;rw[if_neg (by decide),b0,z2i _ (by decide) h0,b1,z2i _ (by decide) h1,b2,z2i _ (by decide) h2,b3,z2i _ (by decide) h3,b4,z2i _ (by decide) h4,b5,z2i _ (by decide) h5,b6,z2i _ (by decide) h6,b7,z2i _ (by decide) h7,b8,z2i _ (by decide) h8,b9,z2i _ (by decide) h9,b10,z2i _ (by decide) h10,b11,z54 _ (by decide)]
 rfl
def cmExit:Cm:= .mk 16 [] 0 [] exNone [] [] [] 25
def cmA:Cm:= .mk 12 [] 0 [] exNone [] [] [.mk 1 (-1) 2 [97,42] [] 8,.mk 3 (-1) 0 [] [cmExit] 20] 0
theorem allA:allF LA= .ok [cmA] 11:=by kernel_rfl
theorem parA:parS SA.data.toList=([cmA],0,0):=by
 unfold parS;rw[scanA];show ansS LA _=_;unfold ansS;rw[allA]
def SB:BA:=⟨#[115,101,110,100,32,53]⟩
def LB:List Tok:=[⟨1,[115,101,110,100],0,[],0⟩,⟨2,[],5,[],5⟩]
theorem scanB:scan SB.data.toList=(some LB,0,0):=by
 have b0:behind SB.data.toList 0=0:=by decide
 have h0:tokR (SB.data.toList.drop 0)= .ok ⟨1,[115,101,110,100],0,[],0⟩ 4:=by kernel_rfl
 have b1:behind SB.data.toList (0+4)=5:=by decide
 have h1:tokR (SB.data.toList.drop 5)= .ok ⟨2,[],5,[],0⟩ 1:=by kernel_rfl
 have b2:behind SB.data.toList (5+1)=6:=by decide
 unfold scan;rw[if_neg (by decide),b0,z2i _ (by decide) h0,b1,z2i _ (by decide) h1,b2,z54 _ (by decide)]
 rfl
theorem allB:allF LB= .bad 1 false:=by kernel_rfl
theorem parB:parS SB.data.toList=([],5,1):=by
 unfold parS;rw[scanB];show ansS LB _=_;unfold ansS;rw[allB]
 rfl
mutual
def ctC:Cm→Nat
 | .mk _ _ _ _ _ b e u _=>ctL b+ctL e+ctU u
def ctR:Ru→Nat
 | .mk _ _ _ _ b _=>ctL b
def ctL:List Cm→Nat
 | []=>0
 | c::cs=>1+ctC c+ctL cs
def ctU:List Ru→Nat
 | []=>0
 | r::rs=>ctR r+ctU rs
end
theorem x5b (c:Cm):ctC c=ctL c.body+ctL c.els+ctU c.rules:=by cases c;rw[ctC];rfl
theorem x2y (r:Ru):ctR r=ctL r.body:=by cases r;rw[ctR];rfl
theorem y3j:∀ a b:List Cm,ctL (a++b)=ctL a+ctL b
 | [],b=>by rw[List.nil_append,ctL];omega
 | x::a,b=>by rw[List.cons_append,ctL,ctL,y3j a b];omega
theorem y3w:∀ a b:List Ru,ctU (a++b)=ctU a+ctU b
 | [],b=>by rw[List.nil_append,ctU];omega
 | x::a,b=>by rw[List.cons_append,ctU,ctU,y3w a b];omega
theorem x2p {l:List Cm} {k:Nat} {x:Cm} (h:l[k]?=some x):ctL (l.take (k+1))=ctL (l.take k)+(1+ctC x):=by
 obtain⟨hk,e⟩:=List.getElem?_eq_some_iff.1 h;rw[List.take_succ_eq_append_getElem hk,e,y3j,ctL,ctL];omega
theorem y4j {l:List Ru} {k:Nat} {x:Ru} (h:l[k]?=some x):ctU (l.take (k+1))=ctU (l.take k)+ctR x:=by
 obtain⟨hk,e⟩:=List.getElem?_eq_some_iff.1 h;rw[List.take_succ_eq_append_getElem hk,e,y3w,ctU,ctU];omega
theorem y2s:∀ l:List Cm,l.length≤ctL l
 | []=>Nat.zero_le _
 | x::l=>by have:=y2s l;rw[ctL,List.length_cons];omega
theorem x1m (l:List Cm) (k:Nat):l.length - k+ctL (l.take k)≤ctL l:=by
 have h:=y3j (l.take k) (l.drop k);rw[List.take_append_drop] at h;have h2:=y2s (l.drop k);rw[List.length_drop] at h2;omega
theorem y47 (l:List Ru) (k:Nat):ctU (l.take k)≤ctU l:=by
 have h:=y3w (l.take k) (l.drop k);rw[List.take_append_drop] at h;omega
def CtP (ks:List Cm):Prop:=∀ (A:OA) (c:Nat) (w:World),RowC (LtX w.heap.size) w A ks→(∀ x∈ks,FitC x)→ctL ks≤1000000→
 Cz 14 #[.slice A ks.length c] w fun e w'=>e= .returned (.int .i64 (ctL ks))∧Below w.heap.size w w'
def CtK (c:Cm):Prop:=CtP c.body∧CtP c.els∧∀ r∈c.rules,CtP r.body
theorem z9w (ks:List Cm) (ih:∀ x∈ks,CtK x):CtP ks:=by
 intro A c w hk hft hl;obtain⟨G,hG⟩:∃ G:Int,G=(ctL ks:Int):=⟨_,rfl⟩;rw[←hG];obtain⟨m,hm⟩:∃ m,m=ks.length:=⟨_,rfl⟩;have hmG:(m:Int)≤G:=by have:=y2s ks;omega
 have hG2:G≤1000000:=by omega
 rw[←hm];have HG:=zz hG;have HM:=zz hm;have HK:=zz hk;have HI:=zz ih;have HFT:=zz hft;clear hG hm hk ih hl hft;go_enter Tryz.func14,Tryz.ntmps14;go_wp2
 go_loopw [3,12] (fun g i wr=>∃ (j:Nat) (x:Int),j≤m∧i= .int .i64 j∧g= .int .i64 x∧Hid (x+(j:Int)=(m:Int)+(ctL (ks.take j):Int))∧0≤x∧x≤G∧Below w.heap.size w wr) (fun _ i _=>m - (intOf i).toNat)
 case atStart=>exact⟨0,m,by omega,rfl,rfl,zz (by rw[List.take_zero,ctL]),by omega,hmG,Below.refl _ _⟩
 case round=>
  obtain⟨j,x,hj,rfl,rfl,HX,hx1,hx2,hb⟩:=hrel;obtain⟨V,hV⟩:∃ V,V=wr:=⟨_,rfl⟩;subst hV;have HB:=zz hb;by_cases a:j<m
  ·obtain⟨r,hr⟩:=z0t HM.out a
   obtain⟨ad,lk,rfl,hp,h9,hkr⟩:=z4p HK.out hb hr;obtain⟨lp,lcp,lx,lcx,lb,lcb,le,lce,lu,lcu⟩:=lk;have hQ:=HI.out r (List.mem_of_getElem? hr);have htk:=x2p hr;have hfc:=y3q (HFT.out r (List.mem_of_getElem? hr));have hpt:=x1m ks (j+1);have hcc:=x5b r;have hK:=z0u.1 (hkr.of (fun _ h=>hb.cell h) fun _ h=>Nat.lt_of_lt_of_le h hb.size:KidC (LtX V.heap.size) V ⟨lp,lcp,lx,lcx,lb,lcb,le,lce,lu,lcu⟩ r);have hx0:=HX.out;have hm0:=HM.out;have hg0:=HG.out;obtain⟨y1,hy1⟩:∃ y:Int,y=(ctL r.body:Int):=⟨_,rfl⟩;obtain⟨y2,hy2⟩:∃ y:Int,y=(ctL r.els:Int):=⟨_,rfl⟩;obtain⟨y3,hy3⟩:∃ y:Int,y=(ctU r.rules:Int):=⟨_,rfl⟩;have HST:Hid (x+(y1+y2)+y3+((j+1:Nat):Int)=(m:Int)+(ctL (ks.take (j+1)):Int)):=zz (by omega);have hbd:x+(y1+y2)+y3≤G:=by omega
   have hl1:ctL r.body≤1000000:=by omega
   have hl2:ctL r.els≤1000000:=by omega
   have hl3:ctU r.rules≤1000000:=by omega
   have KB:Hid (∀ w',Below V.heap.size V w'→Cz 14 #[.slice lb r.body.length lcb] w' fun e w2=>e= .returned (.int .i64 y1)∧Below w'.heap.size w' w2):=zz fun w' hw=>by rw[hy1];exact hQ.1 _ _ w' (hK.2.2.1.next hw) hfc.2.2.2.2.2.2.2.2.1 hl1
   have KE:Hid (∀ w',Below V.heap.size V w'→Cz 14 #[.slice le r.els.length lce] w' fun e w2=>e= .returned (.int .i64 y2)∧Below w'.heap.size w' w2):=zz fun w' hw=>by rw[hy2];exact hQ.2.1 _ _ w' (hK.2.2.2.1.next hw) hfc.2.2.2.2.2.2.2.2.2.1 hl2
   have KU:Hid (∀ (i:Nat) (u:Ru) (B:OA) (k:Nat) w',r.rules[i]?=some u→Below V.heap.size V w'→KidR (LtX V.heap.size) V B u→Cz 14 #[.slice B u.body.length k] w' fun e w2=>e= .returned (.int .i64 (ctL u.body))∧Below w'.heap.size w' w2):=zz fun i u B k w' h1 hw hz=>by
    have e1:=y4j h1;have e2:=y47 r.rules (i+1);have e3:=x2y u;exact hQ.2.2 u (List.mem_of_getElem? h1) _ _ w' ((z2j.1 hz).next hw) (y2u (hfc.2.2.2.2.2.2.2.2.2.2 u (List.mem_of_getElem? h1))).2.2 (by omega)
   have HU:Hid (RowU (LtX V.heap.size) V lu r.rules):=zz hK.2.2.2.2;have hy10:0≤y1:=by omega
   have hy20:0≤y2:=by omega
   have hy30:0≤y3:=by omega
   have HY3:=zz hy3;have h9:LieL V (ad.add (j * 13)) [r.kind,r.name,r.n,.slice lp r.parts.length lcp,r.cond.kind,r.cond.n,r.cond.name,r.cond.op,.slice lx r.cond.kids.length lcx,.slice lb r.body.length lcb,.slice le r.els.length lce,.slice lu r.rules.length lcu,r.pl]:=h9;have hbt:(ad.add (j * 13)).block<V.heap.size:=by rw[z0p];have:=hb.size;omega
   obtain⟨c0,c1,c2,c3,c4,c5,c6,c7,c8,c9,c10,c11,c12⟩:=h9.at13;obtain⟨nu,hnu⟩:∃ x,x=r.rules.length:=⟨_,rfl⟩;have HNU:=zz hnu;have hnu2:nu≤1000000:=by rw[hnu];exact hfc.2.2.2.2.2.2.2.1
   rw[←hnu] at c11;obtain⟨bs,hbs⟩:∃ bs,bs=([r.kind,r.name,r.n,.slice lp r.parts.length lcp,r.cond.kind,r.cond.n,r.cond.name,r.cond.op,.slice lx r.cond.kids.length lcx,.slice lb r.body.length lcb,.slice le r.els.length lce,.slice lu nu lcu,r.pl]:List Value):=⟨_,rfl⟩;have HBX:=zz (z72 V bs (by rw[hbs];simp) 41);have HNB:Hid (Below V.heap.size V (V.alloc (.cells bs.toArray 41))):=zz (z0b V _);have hBX9:=fun W' hw=>(HBX.out W' hw).at_ 9 _ (by rw[hbs];rfl)
   have hBX10:=fun W' hw=>(HBX.out W' hw).at_ 10 _ (by rw[hbs];rfl)
   have hBX11:=fun W' hw=>(HBX.out W' hw).at_ 11 _ (by rw[hbs];rfl)
   have H9:=zz hBX9;have H10:=zz hBX10;have H11:=zz hBX11;have HBS:=zz hbs;have hwr1:IntKind.i64.wrap (y1+y2)=y1+y2:=IntWalk.i64_in _ (by omega);have hwr2:IntKind.i64.wrap (x+(y1+y2))=x+(y1+y2):=IntWalk.i64_in _ (by omega);clear hr hQ hfc htk hpt hcc hkr hK hx0 hm0 hg0 hy1 hy2 hy3 hl1 hl2 hl3 h9 hp hb hnu hBX9 hBX10 hBX11 hbs HBX HI;go_wp2;rw[show (#[Value.int .i64 r.kind,r.name,r.n,.slice lp r.parts.length lcp,r.cond.kind,r.cond.n,r.cond.name,r.cond.op,.slice lx r.cond.kids.length lcx,.slice lb r.body.length lcb,.slice le r.els.length lce,.slice lu nu lcu,r.pl]:Array Value)=bs.toArray by rw[HBS.out]];have p9:=z06 (H9.out _ bR);have p10:=z06 (H10.out _ bR);have hne:=z1i (V.alloc (.cells bs.toArray 41));refine z0i (by kernel_rfl) (by kernel_rfl) ?_
   repeat (go_big_quiet_step (first | (go_at_call 14;with_reducible exact z1r KB.out HNB.out _) | (go_at_call 14;with_reducible exact z1r KE.out HNB.out _) | fail))
   refine wpQuiet_nil ?_;intro w5 hw5;obtain⟨m5,rfl⟩:=hw5;have B5:Hid (Below (V.alloc (.cells bs.toArray 41)).heap.size (V.alloc (.cells bs.toArray 41)) m5.at):=zz m5.2;have b11:=H11.out _ B5.out;have hbV:Below V.heap.size V m5.at:=HNB.out.trans (B5.out.mono HNB.out.size);have HVV:=zz hbV;clear p9 p10 hne c0 c1 c2 c3 c4 c5 c6 c7 c8 c9 c10 c11 c12 hwr1 hwr2 hbV;obtain⟨x3,hx3⟩:∃ x3,x3=x+(y1+y2):=⟨_,rfl⟩;have hx30:0≤x3:=by omega
   have hx3G:x3+y3≤G:=by omega
   rw[←hx3] at HST ⊢;clear hx3 hbd;go_wp2;clear b11
   go_loopw [3,28] (fun g i wr2=>∃ (q:Nat) (u:Int),q≤nu∧i= .int .i64 q∧g= .int .i64 u∧Hid (u=x3+(ctU (r.rules.take q):Int))∧0≤u∧u≤G∧Below V.heap.size V wr2) (fun _ i _=>nu - (intOf i).toNat)
   case atStart=>exact⟨0,x3,by omega,rfl,rfl,zz (by rw[List.take_zero,ctU];simp),hx30,by omega,HVV.out⟩
   case round=>
    obtain⟨q,u,hq,rfl,rfl,HUU,hu1,hu2,hbw⟩:=hrel;have HBW:=zz hbw;by_cases a3:q<nu
    ·obtain⟨ru,hru⟩:=z0t HNU.out a3
     obtain⟨ad4,B,k4,rfl,hp4,h5,hk4⟩:=z4l HU.out hbw hru;have htk3:=y4j hru;have hre:=x2y ru;have hpt:=y47 r.rules (q+1);obtain⟨z,hz⟩:∃ z:Int,z=(ctL ru.body:Int):=⟨_,rfl⟩;have KR:=KU.out q ru B k4 (wr.alloc (.cells #[ru.kind,ru.peer,ru.pk,ru.pt,.slice B ru.body.length k4,ru.pl] 65)) hru (hbw.trans ((z0b wr _).mono hbw.size)) hk4;rw[←hz] at KR;have hux:=HUU.out;have hy33:=HY3.out;have hz0:0≤z:=by omega
     have hzG:u+z≤G:=by omega
     have HU2:Hid (u+z=x3+(ctU (r.rules.take (q+1)):Int)):=zz (by omega);obtain⟨d0,d1,d2,d3,d4,d5⟩:=h5.at6;have hbz:(ad4.add (q * 6)).block<wr.heap.size:=World.block_lt_of_cell? wr _ d0;have HKR:=zz KR;clear hru hp4 h5 hk4 htk3 hre hpt hz hux hy33 hbw KR;go_wp2_with (go_at_call 14;go_must ((with_reducible refine(HKR.out).mono ?_);rintro e w8 ⟨rfl,hb8⟩;have HW8:=zz (HBW.out.trans (((z0b wr _).trans (hb8.mono (by simp))).mono HBW.out.size));clear hb8))
     go_roundw
     case rel=>exact⟨q+1,u+z,by omega,by go_num,rfl,HU2,by omega,hzG,HW8.out⟩
     case measure=>simp[intOf];omega
    ·have HE2:Hid (u+((j+1:Nat):Int)=(m:Int)+(ctL (ks.take (j+1)):Int)):=zz (by
      have h1:=HUU.out;have h2:=HNU.out;have h3:=HST.out;have h4:=HY3.out;rw[List.take_of_length_le (by omega)] at h1;omega)
     clear hbw;go_wp2
     go_roundw
     case rel=>exact⟨j+1,u,by omega,by go_num,rfl,HE2,hu1,hu2,HB.out.trans (HBW.out.mono HB.out.size)⟩
     case measure=>simp[intOf];omega
  ·have HX2:Hid (x=G):=zz (by
    have h1:=HX.out;have h2:=HM.out;have h3:=HG.out;rw[List.take_of_length_le (by omega)] at h1;omega)
   go_wp2;go_ret;exact⟨z0m HX2.out,HB.out⟩
theorem x3b:(∀ c,CtK c)∧∀ r:Ru,CtP r.body:=Cm.ind2 (P:=CtK) (Q:=fun r=>CtP r.body) (fun _ _ _ _ _ b e _ _ hb he hu=>⟨z9w b hb,z9w e he,hu⟩) (fun _ _ _ _ b _ hb=>z9w b hb)
theorem y5o (b:List Cm):CtP b:=z9w b fun x _=>x3b.1 x
end Go.Proofs.YtngfihoempcplaaGreatDoor
