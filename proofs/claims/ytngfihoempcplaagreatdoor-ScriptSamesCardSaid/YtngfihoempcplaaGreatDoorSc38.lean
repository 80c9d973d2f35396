import Derived.Test.YtngfihoempcplaaGreatDoorSc36
import Derived.Test.YtngfihoempcplaaGreatDoorEx16
namespace Go.Proofs.YtngfihoempcplaaGreatDoor
open Go Go.RowKit
set_option maxRecDepth 100000
set_option maxHeartbeats 20000000
def PL (b:List Cm):Prop:=∀ (b2:List Cm) (A A':Option Addr) (c c':Nat) (w:World),RowC (LtX w.heap.size) w A b→RowC (LtX w.heap.size) w A' b2→(∀ x∈b,FitC x)→(∀ x∈b2,FitC x)→b.length≤1000000→
 Calls Tryz.prog 8 #[.slice A b.length c,.slice A' b2.length c'] w fun e w'=>e= .returned (.bool (eqB (b.map stC) (b2.map stC)))∧Below w.heap.size w w'
def QC (c:Cm):Prop:=PL c.body∧PL c.els∧∀ r∈c.rules,PL r.body
theorem fitC_eq {c:Cm} (h:FitC c):c.name.length≤1000000∧c.parts.length≤100000∧(∀ q∈c.parts,q.1.length≤100000∧q.2.length≤100000)∧sizeX c.cond≤1000000∧nmX c.cond≤1000000∧c.body.length≤1000000∧c.els.length≤1000000∧c.rules.length≤1000000∧
  (∀ x∈c.body,FitC x)∧(∀ x∈c.els,FitC x)∧∀ r∈c.rules,FitR r:=by
 cases h with | mk h1 h2 h3 h4 h5 h6 h7 h8 h9 h10 h11=>exact⟨h1,h2,h3,h4,h5,h6,h7,h8,h9,h10,h11⟩
theorem fitR_eq {r:Ru} (h:FitR r):r.pt.length≤1000000∧r.body.length≤1000000∧∀ x∈r.body,FitC x:=by
 cases h with | mk h1 h2 h3=>exact⟨h1,h2,h3⟩
theorem stC_iff {r r':Cm}:stC r=stC r' ↔ r.kind=r'.kind∧r.name=r'.name∧r.n=r'.n∧r.parts=r'.parts∧r.cond=r'.cond∧r.body.map stC=r'.body.map stC∧r.els.map stC=r'.els.map stC∧r.rules.map stR=r'.rules.map stR:=by cases r;cases r';exact stC_eq
theorem stR_iff {r r':Ru}:stR r=stR r' ↔ r.kind=r'.kind∧r.peer=r'.peer∧(r.pk=r'.pk∧r.pt=r'.pt)∧r.body.map stC=r'.body.map stC:=by cases r;cases r';exact stR_eq
theorem two_box13 (wr:World) (c1 c2:List Value) (h1:0<c1.length) (h2:0<c2.length) (T:TypeId):∀ W',Below ((wr.alloc (.cells c1.toArray T)).alloc (.cells c2.toArray T)).heap.size ((wr.alloc (.cells c1.toArray T)).alloc (.cells c2.toArray T)) W'→BoxL W' wr.heap.size c1∧BoxL W' (wr.heap.size+1) c2:=fun W' hb=>by
 have e1:=BoxL.new wr T c1;have e2:=BoxL.new (wr.alloc (.cells c1.toArray T)) T c2;rw[size_allocX] at e2;exact⟨(e1.low h1 (one_boxX _ _)).low h1 hb,e2.low h2 hb⟩
theorem rl_list (ks:List Cm) (ih:∀ x∈ks,QC x):PL ks:=by
 intro ks2 A A' c c' w hk hk' hs hs' hm9;obtain⟨v,hv⟩:∃ v,v=eqB (ks.map stC) (ks2.map stC):=⟨_,rfl⟩;rw[←hv];have HV:=Lib.hid hv;obtain⟨m,hm⟩:∃ m,m=ks.length:=⟨_,rfl⟩;obtain⟨m2,hm2⟩:∃ m,m=ks2.length:=⟨_,rfl⟩;rw[←hm] at hm9;rw[←hm,←hm2];have HK:=Lib.hid hk;have HK':=Lib.hid hk';have HI:=Lib.hid ih;have HS:=Lib.hid hs;have HS':=Lib.hid hs';have HM:=Lib.hid hm;have HM':=Lib.hid hm2;clear hv ih hk hk' hs hs' hm hm2;by_cases f6:m=m2
 ·have g6:((m:Int) != (m2:Int))=false:=by simp[f6]
  have g7:(m != m2)=false:=by simp[f6]
  subst f6;go_enter Tryz.func8,Tryz.ntmps8;go_wp2
  go_loopw [5] (fun i wr=>∃ j:Nat,j≤m∧i= .int .i64 j∧(ks.map stC).take j=(ks2.map stC).take j∧Below w.heap.size w wr) (fun i _=>m - (intOf i).toNat)
  case atStart=>exact⟨0,by omega,rfl,rfl,Below.refl _ _⟩
  case round=>
   obtain⟨j,hj,rfl,ht,hb⟩:=hrel;obtain⟨V,hV⟩:∃ V,V=wr:=⟨_,rfl⟩;subst hV;have HB:=Lib.hid hb;have HT:=Lib.hid ht;clear ht;by_cases a:j<m
   ·obtain⟨r,hr⟩:=getX_of_lt HM.out a
    obtain⟨r',hr'⟩:=getX_of_lt HM'.out a;obtain⟨ad,lk,rfl,hp,h9,hkr⟩:=rowC_at HK.out hb hr;obtain⟨ad',lk',rfl,hp',h9',hkr'⟩:=rowC_at HK'.out hb hr';have hmem:=List.mem_of_getElem? hr;have hmem':=List.mem_of_getElem? hr';have hQ:=HI.out r hmem;have hf:=fitC_eq (HS.out r hmem);have hf':=fitC_eq (HS'.out r' hmem');have HR:=Lib.hid (map_getX (f:=stC) hr);have HR':=Lib.hid (map_getX (f:=stC) hr');have hbt:(ad.add (j * 13)).block<V.heap.size:=by rw[blockX_add];have:=hb.size;omega
    have hbt':(ad'.add (j * 13)).block<V.heap.size:=by rw[blockX_add];have:=hb.size;omega
    have hK:=kidC_eq.1 (hkr.of (fun _ h=>hb.cell h) fun _ h=>Nat.lt_of_lt_of_le h hb.size:KidC (LtX V.heap.size) V lk r);have hK':=kidC_eq.1 (hkr'.of (fun _ h=>hb.cell h) fun _ h=>Nat.lt_of_lt_of_le h hb.size:KidC (LtX V.heap.size) V lk' r')
    have K4:Hid (∀ w',Below V.heap.size V w'→Calls Tryz.prog 21 #[.slice lk.p r.parts.length lk.cp,.slice lk'.p r'.parts.length lk'.cp] w' fun e w2=>e= .returned (.bool (eqB r.parts r'.parts))∧Below w'.heap.size w' w2):=Lib.hid fun w' hw=>by
     have:=rsame_any _ _ _ _ lk.cp lk'.cp r.parts r'.parts w' (rdP_rd.1 (hK.1.next hw)) (rdP_rd.1 (hK'.1.next hw)) (by have:=hf.2.1;omega);by_cases h:r.parts=r'.parts
     ·rw[decide_eq_true h] at this;rw[eqB_yes h];exact this
     ·rw[decide_eq_false h] at this;rw[eqB_no h];exact this
    have K5:Hid (∀ w',Below V.heap.size V w'→Calls Tryz.prog 22 #[.agg #[.int .i64 r.cond.kind,.int .i64 r.cond.n,.string ⟨r.cond.name.toArray⟩,.string ⟨r.cond.op.toArray⟩,.slice lk.x r.cond.kids.length lk.cx],.agg #[.int .i64 r'.cond.kind,.int .i64 r'.cond.n,.string ⟨r'.cond.name.toArray⟩,.string ⟨r'.cond.op.toArray⟩,.slice lk'.x r'.cond.kids.length lk'.cx]] w' fun e w2=>e= .returned (.bool (eqB r.cond r'.cond))∧Below w'.heap.size w' w2):=Lib.hid fun w' hw=>by
     have:=rsameX_any r.cond r'.cond lk.x lk'.x lk.cx lk'.cx w' (hK.2.1.next hw) (hK'.2.1.next hw) hf.2.2.2.1 hf'.2.2.2.1;rw[valX_eq,valX_eq] at this;exact this
    have K6:Hid (∀ w',Below V.heap.size V w'→Calls Tryz.prog 8 #[.slice lk.b r.body.length lk.cb,.slice lk'.b r'.body.length lk'.cb] w' fun e w2=>e= .returned (.bool (eqB (r.body.map stC) (r'.body.map stC)))∧Below w'.heap.size w' w2):=Lib.hid fun w' hw=>
     hQ.1 _ _ _ _ _ w' (hK.2.2.1.next hw) (hK'.2.2.1.next hw) hf.2.2.2.2.2.2.2.2.1 hf'.2.2.2.2.2.2.2.2.1 hf.2.2.2.2.2.1
    have K7:Hid (∀ w',Below V.heap.size V w'→Calls Tryz.prog 8 #[.slice lk.e r.els.length lk.ce,.slice lk'.e r'.els.length lk'.ce] w' fun e w2=>e= .returned (.bool (eqB (r.els.map stC) (r'.els.map stC)))∧Below w'.heap.size w' w2):=Lib.hid fun w' hw=>
     hQ.2.1 _ _ _ _ _ w' (hK.2.2.2.1.next hw) (hK'.2.2.2.1.next hw) hf.2.2.2.2.2.2.2.2.2.1 hf'.2.2.2.2.2.2.2.2.2.1 hf.2.2.2.2.2.2.1
    have KU:Hid (∀ (i:Nat) (z z':Ru) (B B':Option Addr) (k k':Nat) w',r.rules[i]?=some z→r'.rules[i]?=some z'→Below V.heap.size V w'→KidR (LtX V.heap.size) V B z→KidR (LtX V.heap.size) V B' z'→Calls Tryz.prog 8 #[.slice B z.body.length k,.slice B' z'.body.length k'] w' fun e w2=>e= .returned (.bool (eqB (z.body.map stC) (z'.body.map stC)))∧Below w'.heap.size w' w2):=Lib.hid fun i z z' B B' k k' w' h1 h2 hw hz hz'=>by
     have m1:=List.mem_of_getElem? h1;have q1:=fitR_eq (hf.2.2.2.2.2.2.2.2.2.2 z m1);have q2:=fitR_eq (hf'.2.2.2.2.2.2.2.2.2.2 z' (List.mem_of_getElem? h2));exact hQ.2.2 z m1 _ _ _ _ _ w' ((kidR_eq.1 hz).next hw) ((kidR_eq.1 hz').next hw) q1.2.2 q2.2.2 q1.2.1
    have HU:Hid (RowU (LtX V.heap.size) V lk.u r.rules∧RowU (LtX V.heap.size) V lk'.u r'.rules∧r.rules.length≤1000000):=Lib.hid ⟨hK.2.2.2.2,hK'.2.2.2.2,hf.2.2.2.2.2.2.2.1⟩;obtain⟨X,hX⟩:∃ X:ByteArray,X=⟨r.name.toArray⟩:=⟨_,rfl⟩;obtain⟨X2,hX2⟩:∃ X:ByteArray,X=⟨r'.name.toArray⟩:=⟨_,rfl⟩;have gx:=nameX_eq hX hX2;have HNO:Hid (stC r≠stC r'→v=false):=Lib.hid fun h=>by rw[HV.out];exact eqB_no (not_eqX HR.out HR'.out h)
    obtain⟨c0,c1,c2,c3,c4,c5,c6,c7,c8,c9,c10,c11,c12⟩:=h9.at13;obtain⟨d0,d1,d2,d3,d4,d5,d6,d7,d8,d9,d10,d11,d12⟩:=h9'.at13;rw[←hX] at c1;rw[←hX2] at d1;clear hX hX2;have HBX:=Lib.hid (two_box13 V [.int .i64 r.kind,.string X,.int .i64 r.n,.slice lk.p r.parts.length lk.cp,.int .i64 r.cond.kind,.int .i64 r.cond.n,.string ⟨r.cond.name.toArray⟩,.string ⟨r.cond.op.toArray⟩,.slice lk.x r.cond.kids.length lk.cx,.slice lk.b r.body.length lk.cb,.slice lk.e r.els.length lk.ce,.slice lk.u r.rules.length lk.cu,.int .i64 r.pl] [.int .i64 r'.kind,.string X2,.int .i64 r'.n,.slice lk'.p r'.parts.length lk'.cp,.int .i64 r'.cond.kind,.int .i64 r'.cond.n,.string ⟨r'.cond.name.toArray⟩,.string ⟨r'.cond.op.toArray⟩,.slice lk'.x r'.cond.kids.length lk'.cx,.slice lk'.b r'.body.length lk'.cb,.slice lk'.e r'.els.length lk'.ce,.slice lk'.u r'.rules.length lk'.cu,.int .i64 r'.pl] (by simp) (by simp) 41);clear hr hr' hmem hmem' hQ hf hf' hkr hkr' hK hK' h9 h9' hp hp' hb;by_cases q1:r.kind=r'.kind
    ·have h1:(r.kind != r'.kind)=false:=by simp[q1]
     have Q1:=Lib.hid q1;clear q1;by_cases q2:r.name=r'.name
     ·rw[eqB_yes q2] at gx
      have Q2:=Lib.hid q2;clear q2;by_cases q3:r.n=r'.n
      ·have h3:(r.n != r'.n)=false:=by simp[q3]
       have Q3:=Lib.hid q3;clear q3;by_cases q4:r.parts=r'.parts
       ·rw[eqB_yes q4] at K4
        have Q4:=Lib.hid q4;clear q4;by_cases q5:r.cond=r'.cond
        ·rw[eqB_yes q5] at K5
         have Q5:=Lib.hid q5;clear q5;by_cases q6:r.body.map stC=r'.body.map stC
         ·rw[eqB_yes q6] at K6
          have Q6:=Lib.hid q6;clear q6;by_cases q7:r.els.map stC=r'.els.map stC
          ·rw[eqB_yes q7] at K7
           have Q7:=Lib.hid q7;clear q7;by_cases q8:r.rules.length=r'.rules.length
           ·have g8:((r.rules.length:Int) != (r'.rules.length:Int))=false:=by simp[q8]
            have g9:(r.rules.length != r'.rules.length)=false:=by simp[q8]
            have HL8:=Lib.hid q8;obtain⟨l4,hl4⟩:∃ x,x=r.rules.length:=⟨_,rfl⟩;obtain⟨l5,hl5⟩:∃ x,x=r'.rules.length:=⟨_,rfl⟩;have HL4:=Lib.hid hl4;have HL5:=Lib.hid hl5;have hl9:l4≤1000000:=by rw[hl4];exact HU.out.2.2
            rw[←hl4,←hl5] at g8 g9 q8;rw[←hl4,←hl5] at HBX;rw[←hl4] at c11;rw[←hl5] at d11;subst q8;clear hl4 hl5;go_wp2_with (first | (go_at_call 21;go_must ((with_reducible refine(K4.out _ (two_boxesX V _ _)).mono ?_);rintro e v4 ⟨rfl,hb4⟩;have HT4:=Lib.hid hb4;clear hb4;obtain⟨u1,u2⟩:=HBX.out _ HT4.out;obtain⟨x0,x1,x2,x3,x4,x5,x6,x7,x8,x9,x10,x11,x12⟩:=u1.all13;obtain⟨y0,y1,y2,y3,y4,y5,y6,y7,y8,y9,y10,y11,y12⟩:=u2.all13;clear u1 u2 x0 x1 x2 x12 y0 y1 y2 y12)) | (go_at_call 22;go_must ((with_reducible refine(K5.out _ ((two_boxesX V _ _).trans (HT4.out.mono (by simp;omega)))).mono ?_);rintro e v5 ⟨rfl,hb5⟩;have HT5:=Lib.hid (HT4.out.trans (hb5.mono HT4.out.size));clear hb5;obtain⟨u1,u2⟩:=HBX.out _ HT5.out;obtain⟨x0,x1,x2,x3,x4,x5,x6,x7,x8,x9,x10,x11,x12⟩:=u1.all13;obtain⟨y0,y1,y2,y3,y4,y5,y6,y7,y8,y9,y10,y11,y12⟩:=u2.all13;clear u1 u2 x0 x1 x2 x12 y0 y1 y2 y12)) | (go_at_call 8;((with_reducible refine(K6.out _ ((two_boxesX V _ _).trans (HT5.out.mono (by simp;omega)))).mono ?_);rintro e v6 ⟨rfl,hb6⟩;have HT6:=Lib.hid (HT5.out.trans (hb6.mono HT5.out.size));clear hb6 K6;obtain⟨u1,u2⟩:=HBX.out _ HT6.out;obtain⟨x0,x1,x2,x3,x4,x5,x6,x7,x8,x9,x10,x11,x12⟩:=u1.all13;obtain⟨y0,y1,y2,y3,y4,y5,y6,y7,y8,y9,y10,y11,y12⟩:=u2.all13;clear u1 u2 x0 x1 x2 x12 y0 y1 y2 y12)) | (go_at_call 8;go_must ((with_reducible refine(K7.out _ ((two_boxesX V _ _).trans (HT6.out.mono (by simp;omega)))).mono ?_);rintro e v7 ⟨rfl,hb7⟩;have HT7:=Lib.hid (HT6.out.trans (hb7.mono HT6.out.size));clear hb7;obtain⟨u1,u2⟩:=HBX.out _ HT7.out;obtain⟨x0,x1,x2,x3,x4,x5,x6,x7,x8,x9,x10,x11,x12⟩:=u1.all13;obtain⟨y0,y1,y2,y3,y4,y5,y6,y7,y8,y9,y10,y11,y12⟩:=u2.all13;clear u1 u2 x0 x1 x2 x12 y0 y1 y2 y12)))
            go_loopw [8] (fun i wr2=>∃ q:Nat,q≤l4∧i= .int .i64 q∧(r.rules.map stR).take q=(r'.rules.map stR).take q∧Hid (Below ((V.alloc (.cells #[.int .i64 r.kind,.string X,.int .i64 r.n,.slice lk.p r.parts.length lk.cp,.int .i64 r.cond.kind,.int .i64 r.cond.n,.string ⟨r.cond.name.toArray⟩,.string ⟨r.cond.op.toArray⟩,.slice lk.x r.cond.kids.length lk.cx,.slice lk.b r.body.length lk.cb,.slice lk.e r.els.length lk.ce,.slice lk.u l4 lk.cu,.int .i64 r.pl] 41)).alloc (.cells #[.int .i64 r'.kind,.string X2,.int .i64 r'.n,.slice lk'.p r'.parts.length lk'.cp,.int .i64 r'.cond.kind,.int .i64 r'.cond.n,.string ⟨r'.cond.name.toArray⟩,.string ⟨r'.cond.op.toArray⟩,.slice lk'.x r'.cond.kids.length lk'.cx,.slice lk'.b r'.body.length lk'.cb,.slice lk'.e r'.els.length lk'.ce,.slice lk'.u l4 lk'.cu,.int .i64 r'.pl] 41)).heap.size ((V.alloc (.cells #[.int .i64 r.kind,.string X,.int .i64 r.n,.slice lk.p r.parts.length lk.cp,.int .i64 r.cond.kind,.int .i64 r.cond.n,.string ⟨r.cond.name.toArray⟩,.string ⟨r.cond.op.toArray⟩,.slice lk.x r.cond.kids.length lk.cx,.slice lk.b r.body.length lk.cb,.slice lk.e r.els.length lk.ce,.slice lk.u l4 lk.cu,.int .i64 r.pl] 41)).alloc (.cells #[.int .i64 r'.kind,.string X2,.int .i64 r'.n,.slice lk'.p r'.parts.length lk'.cp,.int .i64 r'.cond.kind,.int .i64 r'.cond.n,.string ⟨r'.cond.name.toArray⟩,.string ⟨r'.cond.op.toArray⟩,.slice lk'.x r'.cond.kids.length lk'.cx,.slice lk'.b r'.body.length lk'.cb,.slice lk'.e r'.els.length lk'.ce,.slice lk'.u l4 lk'.cu,.int .i64 r'.pl] 41)) wr2)) (fun i _=>l4 - (intOf i).toNat)
            case atStart=>exact⟨0,by omega,rfl,rfl,HT7⟩
            case round=>
             obtain⟨q,hq,rfl,htq,HW⟩:=hrel;have HTQ:=Lib.hid htq;obtain⟨u1,u2⟩:=HBX.out _ HW.out;have x11:=u1.at_ 11 _ rfl
             have y11:=u2.at_ 11 _ rfl
             have hbw:Below V.heap.size V wr:=(two_boxesX V _ _).trans (HW.out.mono (by simp;omega));have hzw:V.heap.size+1<wr.heap.size:=by have:=HW.out.size;simp at this;omega
             clear htq u1 u2 c0 c1 c2 c3 c4 c5 c6 c7 c8 c9 c10 c11 c12 d0 d1 d2 d3 d4 d5 d6 d7 d8 d9 d10 d11 d12;by_cases aq:q<l4
             ·obtain⟨z,hz⟩:=getX_of_lt HL4.out aq
              obtain⟨z',hz'⟩:=getX_of_lt HL5.out aq;obtain⟨ad3,B,k3,hu,hp3,h3z,hk3⟩:=rowU_at HU.out.1 hbw hz;obtain⟨ad4,B',k4,hu',hp4,h4z,hk4⟩:=rowU_at HU.out.2.1 hbw hz'
              have K8:Hid (∀ w',Below wr.heap.size wr w'→Calls Tryz.prog 8 #[.slice B z.body.length k3,.slice B' z'.body.length k4] w' fun e w2=>e= .returned (.bool (eqB (z.body.map stC) (z'.body.map stC)))∧Below w'.heap.size w' w2):=Lib.hid fun w' hw=>
               KU.out q z z' B B' k3 k4 w' hz hz' (hbw.trans (hw.mono hbw.size)) hk3 hk4
              have HRZ:=Lib.hid (map_getX (f:=stR) hz);have HRZ':=Lib.hid (map_getX (f:=stR) hz');have HN8:Hid (stR z≠stR z'→v=false):=Lib.hid fun h=>HNO.out fun e=>(not_eqX HRZ.out HRZ'.out h) (stC_iff.1 e).2.2.2.2.2.2.2
              have hbz:(ad3.add (q * 6)).block<wr.heap.size:=by rw[blockX_add];have:=hbw.size;omega
              have hbz':(ad4.add (q * 6)).block<wr.heap.size:=by rw[blockX_add];have:=hbw.size;omega
              obtain⟨Y,hY⟩:∃ X:ByteArray,X=⟨z.pt.toArray⟩:=⟨_,rfl⟩;obtain⟨Y2,hY2⟩:∃ X:ByteArray,X=⟨z'.pt.toArray⟩:=⟨_,rfl⟩;have gy:=nameX_eq hY hY2;have hP:=neqP_any z.pk z'.pk Y Y2;obtain⟨c0,c1,c2,c3,c4,c5⟩:=h3z.at6;obtain⟨d0,d1,d2,d3,d4,d5⟩:=h4z.at6;rw[←hY] at c3;rw[←hY2] at d3;rw[hu] at x11;rw[hu'] at y11;clear hz hz' hk3 hk4 hp3 hp4 h3z h4z hu hu' hY hY2 hbw;by_cases p1:z.kind=z'.kind
              ·have e1:(z.kind != z'.kind)=false:=by simp[p1]
               have P1:=Lib.hid p1;clear p1;by_cases p2:z.peer=z'.peer
               ·have e2:(z.peer != z'.peer)=false:=by simp[p2]
                have P2:=Lib.hid p2;clear p2;by_cases p3:z.pk=z'.pk∧z.pt=z'.pt
                ·have e3:(z.pk==z'.pk && Y.toList==Y2.toList)=true:=by rw[gy,eqB_yes p3.2,p3.1];simp
                 rw[e3] at hP;simp only[Bool.not_true] at hP;have P3:=Lib.hid p3;clear p3 e3 gy;by_cases p4:z.body.map stC=z'.body.map stC
                 ·rw[eqB_yes p4] at K8
                  have HX:Hid ((r.rules.map stR).take (q+1)=(r'.rules.map stR).take (q+1)):=Lib.hid (by
                   have h7:=HRZ.out;rw[stR_iff.2 ⟨P1.out,P2.out,P3.out,p4⟩] at h7;exact take_eqX HTQ.out h7 HRZ'.out)
                  clear p4;go_wp2_with (go_at_call 8;go_must ((with_reducible refine(K8.out _ (two_boxesX wr _ _)).mono ?_);rintro e w9 ⟨rfl,hb9⟩;have HB9:=Lib.hid ((two_boxesX wr _ _).trans (hb9.mono (by simp;omega)));clear hb9))
                  go_roundw
                  case rel=>exact⟨q+1,by omega,by go_num,HX.out,Lib.hid (HW.out.trans (HB9.out.mono HW.out.size))⟩
                  case measure=>simp[intOf];omega
                 ·rw[eqB_no p4] at K8
                  have HX:Hid (v=false):=Lib.hid (HN8.out fun h=>p4 (stR_iff.1 h).2.2.2);clear p4;go_wp2_with (go_at_call 8;go_must ((with_reducible refine(K8.out _ (two_boxesX wr _ _)).mono ?_);rintro e w9 ⟨rfl,hb9⟩;have HB9:=Lib.hid ((two_boxesX wr _ _).trans (hb9.mono (by simp;omega)));clear hb9));go_ret;exact⟨ret_bool HX.out.symm,HB.out.trans (((two_boxesX V _ _).trans ((HW.out.trans (HB9.out.mono HW.out.size)).mono (by simp;omega))).mono HB.out.size)⟩
                ·have e3:(z.pk==z'.pk && Y.toList==Y2.toList)=false:=by
                  rw[gy];by_cases h:z.pk=z'.pk
                  ·rw[eqB_no (fun e=>p3 ⟨h,e⟩)];simp
                  ·simp[h]
                 rw[e3] at hP;simp only[Bool.not_false] at hP;have HX:Hid (v=false):=Lib.hid (HN8.out fun h=>p3 (stR_iff.1 h).2.2.1);clear p3 e3 gy;go_wp2;go_ret;exact⟨ret_bool HX.out.symm,HB.out.trans (((two_boxesX V _ _).trans ((HW.out.trans ((two_boxesX wr _ _).mono HW.out.size)).mono (by simp;omega))).mono HB.out.size)⟩
               ·have e2:(z.peer != z'.peer)=true:=by simp[p2]
                have HX:Hid (v=false):=Lib.hid (HN8.out fun h=>p2 (stR_iff.1 h).2.1);clear p2 hP gy;go_wp2;go_ret;exact⟨ret_bool HX.out.symm,HB.out.trans (((two_boxesX V _ _).trans ((HW.out.trans ((two_boxesX wr _ _).mono HW.out.size)).mono (by simp;omega))).mono HB.out.size)⟩
              ·have e1:(z.kind != z'.kind)=true:=by simp[p1]
               have HX:Hid (v=false):=Lib.hid (HN8.out fun h=>p1 (stR_iff.1 h).1);clear p1 hP gy;go_wp2;go_ret;exact⟨ret_bool HX.out.symm,HB.out.trans (((two_boxesX V _ _).trans ((HW.out.trans ((two_boxesX wr _ _).mono HW.out.size)).mono (by simp;omega))).mono HB.out.size)⟩
             ·have HX:Hid ((ks.map stC).take (j+1)=(ks2.map stC).take (j+1)):=Lib.hid (by
               have h8:=HTQ.out;rw[List.take_of_length_le (by rw[List.length_map];have:=HL4.out;omega),List.take_of_length_le (by rw[List.length_map];have:=HL5.out;omega)] at h8;have h7:=HR.out;rw[stC_iff.2 ⟨Q1.out,Q2.out,Q3.out,Q4.out,Q5.out,Q6.out,Q7.out,h8⟩] at h7;exact take_eqX HT.out h7 HR'.out)
              have HBW:=Lib.hid hbw;clear hbw;go_wp2
              go_roundw
              case rel=>exact⟨j+1,by omega,by go_num,HX.out,HB.out.trans (HBW.out.mono HB.out.size)⟩
              case measure=>simp[intOf];omega
           ·have g8:((r.rules.length:Int) != (r'.rules.length:Int))=true:=by simp;omega
            have g9:(r.rules.length != r'.rules.length)=true:=by simp[q8]
            have HX:Hid (v=false):=Lib.hid (HNO.out fun h=>q8 (by have:=congrArg List.length (stC_iff.1 h).2.2.2.2.2.2.2;simpa using this));clear q8;go_wp2_with (first | (go_at_call 21;go_must ((with_reducible refine(K4.out _ (two_boxesX V _ _)).mono ?_);rintro e v4 ⟨rfl,hb4⟩;have HT4:=Lib.hid hb4;clear hb4;obtain⟨u1,u2⟩:=HBX.out _ HT4.out;obtain⟨x0,x1,x2,x3,x4,x5,x6,x7,x8,x9,x10,x11,x12⟩:=u1.all13;obtain⟨y0,y1,y2,y3,y4,y5,y6,y7,y8,y9,y10,y11,y12⟩:=u2.all13;clear u1 u2 x0 x1 x2 x12 y0 y1 y2 y12)) | (go_at_call 22;go_must ((with_reducible refine(K5.out _ ((two_boxesX V _ _).trans (HT4.out.mono (by simp;omega)))).mono ?_);rintro e v5 ⟨rfl,hb5⟩;have HT5:=Lib.hid (HT4.out.trans (hb5.mono HT4.out.size));clear hb5;obtain⟨u1,u2⟩:=HBX.out _ HT5.out;obtain⟨x0,x1,x2,x3,x4,x5,x6,x7,x8,x9,x10,x11,x12⟩:=u1.all13;obtain⟨y0,y1,y2,y3,y4,y5,y6,y7,y8,y9,y10,y11,y12⟩:=u2.all13;clear u1 u2 x0 x1 x2 x12 y0 y1 y2 y12)) | (go_at_call 8;((with_reducible refine(K6.out _ ((two_boxesX V _ _).trans (HT5.out.mono (by simp;omega)))).mono ?_);rintro e v6 ⟨rfl,hb6⟩;have HT6:=Lib.hid (HT5.out.trans (hb6.mono HT5.out.size));clear hb6 K6;obtain⟨u1,u2⟩:=HBX.out _ HT6.out;obtain⟨x0,x1,x2,x3,x4,x5,x6,x7,x8,x9,x10,x11,x12⟩:=u1.all13;obtain⟨y0,y1,y2,y3,y4,y5,y6,y7,y8,y9,y10,y11,y12⟩:=u2.all13;clear u1 u2 x0 x1 x2 x12 y0 y1 y2 y12)) | (go_at_call 8;go_must ((with_reducible refine(K7.out _ ((two_boxesX V _ _).trans (HT6.out.mono (by simp;omega)))).mono ?_);rintro e v7 ⟨rfl,hb7⟩;have HT7:=Lib.hid (HT6.out.trans (hb7.mono HT6.out.size));clear hb7;obtain⟨u1,u2⟩:=HBX.out _ HT7.out;obtain⟨x0,x1,x2,x3,x4,x5,x6,x7,x8,x9,x10,x11,x12⟩:=u1.all13;obtain⟨y0,y1,y2,y3,y4,y5,y6,y7,y8,y9,y10,y11,y12⟩:=u2.all13;clear u1 u2 x0 x1 x2 x12 y0 y1 y2 y12)));go_ret;exact⟨ret_bool HX.out.symm,HB.out.trans (((two_boxesX V _ _).trans (HT7.out.mono (by simp;omega))).mono HB.out.size)⟩
          ·rw[eqB_no q7] at K7
           have HX:Hid (v=false):=Lib.hid (HNO.out fun h=>q7 (stC_iff.1 h).2.2.2.2.2.2.1);clear q7;go_wp2_with (first | (go_at_call 21;go_must ((with_reducible refine(K4.out _ (two_boxesX V _ _)).mono ?_);rintro e v4 ⟨rfl,hb4⟩;have HT4:=Lib.hid hb4;clear hb4;obtain⟨u1,u2⟩:=HBX.out _ HT4.out;obtain⟨x0,x1,x2,x3,x4,x5,x6,x7,x8,x9,x10,x11,x12⟩:=u1.all13;obtain⟨y0,y1,y2,y3,y4,y5,y6,y7,y8,y9,y10,y11,y12⟩:=u2.all13;clear u1 u2 x0 x1 x2 x12 y0 y1 y2 y12)) | (go_at_call 22;go_must ((with_reducible refine(K5.out _ ((two_boxesX V _ _).trans (HT4.out.mono (by simp;omega)))).mono ?_);rintro e v5 ⟨rfl,hb5⟩;have HT5:=Lib.hid (HT4.out.trans (hb5.mono HT4.out.size));clear hb5;obtain⟨u1,u2⟩:=HBX.out _ HT5.out;obtain⟨x0,x1,x2,x3,x4,x5,x6,x7,x8,x9,x10,x11,x12⟩:=u1.all13;obtain⟨y0,y1,y2,y3,y4,y5,y6,y7,y8,y9,y10,y11,y12⟩:=u2.all13;clear u1 u2 x0 x1 x2 x12 y0 y1 y2 y12)) | (go_at_call 8;((with_reducible refine(K6.out _ ((two_boxesX V _ _).trans (HT5.out.mono (by simp;omega)))).mono ?_);rintro e v6 ⟨rfl,hb6⟩;have HT6:=Lib.hid (HT5.out.trans (hb6.mono HT5.out.size));clear hb6 K6;obtain⟨u1,u2⟩:=HBX.out _ HT6.out;obtain⟨x0,x1,x2,x3,x4,x5,x6,x7,x8,x9,x10,x11,x12⟩:=u1.all13;obtain⟨y0,y1,y2,y3,y4,y5,y6,y7,y8,y9,y10,y11,y12⟩:=u2.all13;clear u1 u2 x0 x1 x2 x12 y0 y1 y2 y12)) | (go_at_call 8;go_must ((with_reducible refine(K7.out _ ((two_boxesX V _ _).trans (HT6.out.mono (by simp;omega)))).mono ?_);rintro e v7 ⟨rfl,hb7⟩;have HT7:=Lib.hid (HT6.out.trans (hb7.mono HT6.out.size));clear hb7;obtain⟨u1,u2⟩:=HBX.out _ HT7.out;obtain⟨x0,x1,x2,x3,x4,x5,x6,x7,x8,x9,x10,x11,x12⟩:=u1.all13;obtain⟨y0,y1,y2,y3,y4,y5,y6,y7,y8,y9,y10,y11,y12⟩:=u2.all13;clear u1 u2 x0 x1 x2 x12 y0 y1 y2 y12)));go_ret;exact⟨ret_bool HX.out.symm,HB.out.trans (((two_boxesX V _ _).trans (HT7.out.mono (by simp;omega))).mono HB.out.size)⟩
         ·rw[eqB_no q6] at K6
          have HX:Hid (v=false):=Lib.hid (HNO.out fun h=>q6 (stC_iff.1 h).2.2.2.2.2.1);clear q6;go_wp2_with (first | (go_at_call 21;go_must ((with_reducible refine(K4.out _ (two_boxesX V _ _)).mono ?_);rintro e v4 ⟨rfl,hb4⟩;have HT4:=Lib.hid hb4;clear hb4;obtain⟨u1,u2⟩:=HBX.out _ HT4.out;obtain⟨x0,x1,x2,x3,x4,x5,x6,x7,x8,x9,x10,x11,x12⟩:=u1.all13;obtain⟨y0,y1,y2,y3,y4,y5,y6,y7,y8,y9,y10,y11,y12⟩:=u2.all13;clear u1 u2 x0 x1 x2 x12 y0 y1 y2 y12)) | (go_at_call 22;go_must ((with_reducible refine(K5.out _ ((two_boxesX V _ _).trans (HT4.out.mono (by simp;omega)))).mono ?_);rintro e v5 ⟨rfl,hb5⟩;have HT5:=Lib.hid (HT4.out.trans (hb5.mono HT4.out.size));clear hb5;obtain⟨u1,u2⟩:=HBX.out _ HT5.out;obtain⟨x0,x1,x2,x3,x4,x5,x6,x7,x8,x9,x10,x11,x12⟩:=u1.all13;obtain⟨y0,y1,y2,y3,y4,y5,y6,y7,y8,y9,y10,y11,y12⟩:=u2.all13;clear u1 u2 x0 x1 x2 x12 y0 y1 y2 y12)) | (go_at_call 8;go_must ((with_reducible refine(K6.out _ ((two_boxesX V _ _).trans (HT5.out.mono (by simp;omega)))).mono ?_);rintro e v6 ⟨rfl,hb6⟩;have HT6:=Lib.hid (HT5.out.trans (hb6.mono HT5.out.size));clear hb6)));go_ret;exact⟨ret_bool HX.out.symm,HB.out.trans (((two_boxesX V _ _).trans (HT6.out.mono (by simp;omega))).mono HB.out.size)⟩
        ·rw[eqB_no q5] at K5
         have HX:Hid (v=false):=Lib.hid (HNO.out fun h=>q5 (stC_iff.1 h).2.2.2.2.1);clear q5;go_wp2_with (first | (go_at_call 21;go_must ((with_reducible refine(K4.out _ (two_boxesX V _ _)).mono ?_);rintro e v4 ⟨rfl,hb4⟩;have HT4:=Lib.hid hb4;clear hb4;obtain⟨u1,u2⟩:=HBX.out _ HT4.out;obtain⟨x0,x1,x2,x3,x4,x5,x6,x7,x8,x9,x10,x11,x12⟩:=u1.all13;obtain⟨y0,y1,y2,y3,y4,y5,y6,y7,y8,y9,y10,y11,y12⟩:=u2.all13;clear u1 u2 x0 x1 x2 x12 y0 y1 y2 y12)) | (go_at_call 22;go_must ((with_reducible refine(K5.out _ ((two_boxesX V _ _).trans (HT4.out.mono (by simp;omega)))).mono ?_);rintro e v5 ⟨rfl,hb5⟩;have HT5:=Lib.hid (HT4.out.trans (hb5.mono HT4.out.size));clear hb5)));go_ret;exact⟨ret_bool HX.out.symm,HB.out.trans (((two_boxesX V _ _).trans (HT5.out.mono (by simp;omega))).mono HB.out.size)⟩
       ·rw[eqB_no q4] at K4
        have HX:Hid (v=false):=Lib.hid (HNO.out fun h=>q4 (stC_iff.1 h).2.2.2.1);clear q4;go_wp2_with (first | (go_at_call 21;go_must ((with_reducible refine(K4.out _ (two_boxesX V _ _)).mono ?_);rintro e v4 ⟨rfl,hb4⟩;have HT4:=Lib.hid hb4;clear hb4)));go_ret;exact⟨ret_bool HX.out.symm,HB.out.trans (((two_boxesX V _ _).trans (HT4.out.mono (by simp;omega))).mono HB.out.size)⟩
      ·have h3:(r.n != r'.n)=true:=by simp[q3]
       have HX:Hid (v=false):=Lib.hid (HNO.out fun h=>q3 (stC_iff.1 h).2.2.1);clear q3;go_wp2;go_ret;exact⟨ret_bool HX.out.symm,HB.out.trans ((two_boxesX V _ _).mono HB.out.size)⟩
     ·rw[eqB_no q2] at gx
      have HX:Hid (v=false):=Lib.hid (HNO.out fun h=>q2 (stC_iff.1 h).2.1);clear q2;go_wp2;go_ret;exact⟨ret_bool HX.out.symm,HB.out.trans ((two_boxesX V _ _).mono HB.out.size)⟩
    ·have h1:(r.kind != r'.kind)=true:=by simp[q1]
     have HX:Hid (v=false):=Lib.hid (HNO.out fun h=>q1 (stC_iff.1 h).1);clear q1;go_wp2;go_ret;exact⟨ret_bool HX.out.symm,HB.out.trans ((two_boxesX V _ _).mono HB.out.size)⟩
   ·have HX2:Hid (v=true):=Lib.hid (by
     rw[HV.out];have:=HT.out;rw[List.take_of_length_le (by rw[List.length_map];have:=HM.out;omega),List.take_of_length_le (by rw[List.length_map];have:=HM'.out;omega)] at this;exact eqB_yes this)
    clear hb;go_wp2;go_ret;exact⟨ret_bool HX2.out.symm,HB.out⟩
 ·have HX:Hid (v=false):=Lib.hid (by rw[HV.out];exact eqB_no (fun h=>f6 (by have:=congrArg List.length h;rw[List.length_map,List.length_map] at this;rw[HM.out,HM'.out,this])))
  have g6:((m:Int) != (m2:Int))=true:=by simp;omega
  have g7:(m != m2)=true:=by simp[f6]
  clear f6;go_enter Tryz.func8,Tryz.ntmps8;go_wp2;go_ret;exact⟨ret_bool HX.out.symm,Below.refl _ _⟩
theorem ql_all:(∀ c,QC c)∧∀ r:Ru,PL r.body:=Cm.ind2 (P:=QC) (Q:=fun r=>PL r.body) (fun _ _ _ _ _ b e _ _ hb he hu=>⟨rl_list b hb,rl_list e he,hu⟩) (fun _ _ _ _ b _ hb=>rl_list b hb)
theorem rsameS_any (b:List Cm):PL b:=rl_list b fun x _=>ql_all.1 x
mutual
def cnS:Cm→Int→Int
 | .mk _ nm _ ps x b e u _,left=>if 60<nm.length∨6<ps.length∨cntX x 40<0∨¬ ps.all okQ=true then -1 else cnU u (cnL e (cnL b (left - 1)))
def cnR:Ru→Int→Int
 | .mk _ _ _ pt b _,left=>if 60<pt.length then -1 else cnL b (left - 1)
def cnL:List Cm→Int→Int
 | [],left=>left
 | c::cs,left=>if left<0 then left else cnL cs (cnS c left)
def cnU:List Ru→Int→Int
 | [],left=>left
 | r::rs,left=>if left<0 then left else cnU rs (cnR r left)
end
theorem cnS_eq (c:Cm) (z:Int):cnS c z=if 60<c.name.length∨6<c.parts.length∨cntX c.cond 40<0∨¬ c.parts.all okQ=true then -1 else cnU c.rules (cnL c.els (cnL c.body (z - 1))):=by cases c;rw[cnS];rfl
theorem cnR_eq (r:Ru) (z:Int):cnR r z=if 60<r.pt.length then -1 else cnL r.body (z - 1):=by cases r;rw[cnR];rfl
theorem cnL_neg (l:List Cm) {z:Int} (h:z<0):cnL l z=z:=by
 cases l with
 | nil=>rw[cnL]
 | cons x l=>rw[cnL,if_pos h]
theorem cnU_neg (l:List Ru) {z:Int} (h:z<0):cnU l z=z:=by
 cases l with
 | nil=>rw[cnU]
 | cons x l=>rw[cnU,if_pos h]
theorem cnL_snoc (x:Cm):∀ (l:List Cm) (z:Int),cnL (l++[x]) z=if cnL l z<0 then cnL l z else cnS x (cnL l z)
 | [],z=>by rw[List.nil_append,cnL,cnL,cnL]
 | y::l,z=>by
   rw[List.cons_append,cnL,cnL];by_cases h:z<0
   ·rw[if_pos h,if_pos h,if_pos h]
   ·rw[if_neg h,if_neg h];exact cnL_snoc x l _
theorem cnU_snoc (x:Ru):∀ (l:List Ru) (z:Int),cnU (l++[x]) z=if cnU l z<0 then cnU l z else cnR x (cnU l z)
 | [],z=>by rw[List.nil_append,cnU,cnU,cnU]
 | y::l,z=>by
   rw[List.cons_append,cnU,cnU];by_cases h:z<0
   ·rw[if_pos h,if_pos h,if_pos h]
   ·rw[if_neg h,if_neg h];exact cnU_snoc x l _
def CnG (c:Cm):Prop:=∀ z,0≤z→ -1≤cnS c z∧cnS c z≤z - 1
theorem cnL_ge (l:List Cm):(∀ x∈l,CnG x)→∀ z, -1≤z→ -1≤cnL l z∧cnL l z≤z:=by
 induction l with
 | nil=>intro _ z hz;rw[cnL];omega
 | cons x l ih=>
   intro h z hz;rw[cnL]
   split
   ·omega
   ·have h1:=h x (by simp) z (by omega)
    have h2:=ih (fun y hy=>h y (by simp[hy])) (cnS x z) h1.1;omega
def CnGR (r:Ru):Prop:=∀ z,0≤z→ -1≤cnR r z∧cnR r z≤z - 1
theorem cnU_ge (l:List Ru):(∀ x∈l,CnGR x)→∀ z, -1≤z→ -1≤cnU l z∧cnU l z≤z:=by
 induction l with
 | nil=>intro _ z hz;rw[cnU];omega
 | cons x l ih=>
   intro h z hz;rw[cnU]
   split
   ·omega
   ·have h1:=h x (by simp) z (by omega)
    have h2:=ih (fun y hy=>h y (by simp[hy])) (cnR x z) h1.1;omega
theorem cn_ge:(∀ c,CnG c)∧∀ r,CnGR r:=by
 refine Cm.ind2 (P:=CnG) (Q:=CnGR) (fun k nm n ps x b e u p hb he hu z hz=>?_) (fun k q pk pt b p hb z hz=>?_)
 ·rw[cnS]
  split
  ·omega
  ·have h1:=cnL_ge b hb (z - 1) (by omega)
   have h2:=cnL_ge e he _ h1.1;have h3:=cnU_ge u hu _ h2.1;omega
 ·rw[cnR]
  split
  ·omega
  ·exact cnL_ge b hb (z - 1) (by omega)
theorem cnL_ge' (l:List Cm) {z:Int} (hz: -1≤z): -1≤cnL l z∧cnL l z≤z:=cnL_ge l (fun x _=>cn_ge.1 x) z hz
theorem cnL_take {l:List Cm} {k:Nat} {x:Cm} (h:l[k]?=some x) (z:Int):cnL (l.take (k+1)) z=if cnL (l.take k) z<0 then cnL (l.take k) z else cnS x (cnL (l.take k) z):=by
 obtain⟨hk,e⟩:=List.getElem?_eq_some_iff.1 h;rw[List.take_succ_eq_append_getElem hk,e,cnL_snoc]
theorem cnU_take {l:List Ru} {k:Nat} {x:Ru} (h:l[k]?=some x) (z:Int):cnU (l.take (k+1)) z=if cnU (l.take k) z<0 then cnU (l.take k) z else cnR x (cnU (l.take k) z):=by
 obtain⟨hk,e⟩:=List.getElem?_eq_some_iff.1 h;rw[List.take_succ_eq_append_getElem hk,e,cnU_snoc]
theorem cnL_app:∀ (a b:List Cm) (z:Int),cnL (a++b) z=cnL b (cnL a z)
 | [],b,z=>by rw[List.nil_append,cnL]
 | x::a,b,z=>by
   rw[List.cons_append,cnL,cnL]
   split
   ·rename_i h;rw[cnL_neg b h]
   ·exact cnL_app a b _
theorem cnU_app:∀ (a b:List Ru) (z:Int),cnU (a++b) z=cnU b (cnU a z)
 | [],b,z=>by rw[List.nil_append,cnU]
 | x::a,b,z=>by
   rw[List.cons_append,cnU,cnU]
   split
   ·rename_i h;rw[cnU_neg b h]
   ·exact cnU_app a b _
theorem cnL_stop {l:List Cm} {z:Int} (k:Nat) (h:cnL (l.take k) z<0):cnL l z=cnL (l.take k) z:=by
 have e:=cnL_app (l.take k) (l.drop k) z;rw[List.take_append_drop] at e;rw[e,cnL_neg _ h]
theorem cnU_stop {l:List Ru} {z:Int} (k:Nat) (h:cnU (l.take k) z<0):cnU l z=cnU (l.take k) z:=by
 have e:=cnU_app (l.take k) (l.drop k) z;rw[List.take_append_drop] at e;rw[e,cnU_neg _ h]
theorem cnL_idx {l:List Cm} {z:Int} (hz: -1≤z):∀ k,k≤l.length→0≤cnL (l.take k) z→(k:Int)≤z - cnL (l.take k) z
 | 0,_,_=>by rw[List.take_zero,cnL];omega
 | k+1,hk,h=>by
   have e:=cnL_take (List.getElem?_eq_getElem (show k<l.length by omega)) z;obtain⟨y,hy⟩:∃ y,y=cnL (l.take k) z:=⟨_,rfl⟩;have h2:=cnL_idx (l:=l) hz k (by omega);rw[←hy] at e h2;rw[e] at h ⊢;by_cases hn:y<0
   ·rw[if_pos hn] at h;omega
   ·rw[if_neg hn] at h ⊢
    have h1:=cn_ge.1 l[k] y (by omega);have h3:=h2 (by omega);omega
theorem cnU_idx {l:List Ru} {z:Int} (hz: -1≤z):∀ k,k≤l.length→0≤cnU (l.take k) z→(k:Int)≤z - cnU (l.take k) z
 | 0,_,_=>by rw[List.take_zero,cnU];omega
 | k+1,hk,h=>by
   have e:=cnU_take (List.getElem?_eq_getElem (show k<l.length by omega)) z;obtain⟨y,hy⟩:∃ y,y=cnU (l.take k) z:=⟨_,rfl⟩;have h2:=cnU_idx (l:=l) hz k (by omega);rw[←hy] at e h2;rw[e] at h ⊢;by_cases hn:y<0
   ·rw[if_pos hn] at h;omega
   ·rw[if_neg hn] at h ⊢
    have h1:=cn_ge.2 l[k] y (by omega);have h3:=h2 (by omega);omega
theorem cnL_mem:∀ (l:List Cm) (z:Int),0≤cnL l z→0≤z∧∀ x∈l,∃ y,0≤y∧y≤z∧0≤cnS x y
 | [],z,h=>by rw[cnL] at h;exact⟨h,by simp⟩
 | c::l,z,h=>by
   rw[cnL] at h
   split at h
   ·omega
   ·rename_i hz
    have hg:=cn_ge.1 c z (by omega);obtain⟨h1,h2⟩:=cnL_mem l _ h;refine⟨by omega,fun x hx=>?_⟩
    rcases List.mem_cons.1 hx with rfl | hx
    ·exact⟨z,by omega,by omega,h1⟩
    ·obtain⟨y,a,b,d⟩:=h2 x hx
     exact⟨y,a,by omega,d⟩
theorem cnU_mem:∀ (l:List Ru) (z:Int),0≤cnU l z→0≤z∧∀ x∈l,∃ y,0≤y∧y≤z∧0≤cnR x y
 | [],z,h=>by rw[cnU] at h;exact⟨h,by simp⟩
 | c::l,z,h=>by
   rw[cnU] at h
   split at h
   ·omega
   ·rename_i hz
    have hg:=cn_ge.2 c z (by omega);obtain⟨h1,h2⟩:=cnU_mem l _ h;refine⟨by omega,fun x hx=>?_⟩
    rcases List.mem_cons.1 hx with rfl | hx
    ·exact⟨z,by omega,by omega,h1⟩
    ·obtain⟨y,a,b,d⟩:=h2 x hx
     exact⟨y,a,by omega,d⟩
theorem cnL_len {l:List Cm} {z:Int} (h:0≤cnL l z):(l.length:Int)≤z:=by
 have h0:=(cnL_mem l z h).1;have:=cnL_idx (l:=l) (z:=z) (by omega) l.length (Nat.le_refl _) (by rw[List.take_length];exact h);rw[List.take_length] at this;omega
theorem cnU_len {l:List Ru} {z:Int} (h:0≤cnU l z):(l.length:Int)≤z:=by
 have h0:=(cnU_mem l z h).1;have:=cnU_idx (l:=l) (z:=z) (by omega) l.length (Nat.le_refl _) (by rw[List.take_length];exact h);rw[List.take_length] at this;omega
theorem cn_fit:(∀ (c:Cm) (z:Int),0≤cnS c z→z≤120→FitC c)∧∀ (r:Ru) (z:Int),0≤cnR r z→z≤120→FitR r:=by
 have hl:∀ (l:List Cm),(∀ x∈l,∀ z:Int,0≤cnS x z→z≤120→FitC x)→∀ z:Int,0≤cnL l z→z≤120→(∀ x∈l,FitC x)∧l.length≤1000000:=fun l h z hz hz2=>
  ⟨fun x hx=>by obtain⟨y,_,hy,hc⟩:=(cnL_mem l z hz).2 x hx;exact h x hx y hc (by omega),by have:=cnL_len hz;omega⟩
 refine Cm.ind2 (P:=fun c=>∀ z:Int,0≤cnS c z→z≤120→FitC c) (Q:=fun r=>∀ z:Int,0≤cnR r z→z≤120→FitR r) (fun k nm n ps x b e u p hb he hu z h hz=>?_) (fun k q pk pt b p hb z h hz=>?_)
 ·rw[cnS] at h
  split at h
  ·omega
  ·rename_i hc
   have h3:=cnU_mem u _ h;have hu3:=cnU_len h;have h2:=cnL_mem e _ h3.1;have h1:=cnL_mem b _ h2.1;have a1:=hl b hb (z - 1) h2.1 (by omega);have g1:=cnL_ge' b (z:=z - 1) (by omega);have a2:=hl e he (cnL b (z - 1)) h3.1 (by omega);have g2:=cnL_ge' e (z:=cnL b (z - 1)) (by omega);have hx:0≤cntX x 40:=by omega
   have hs:=cntX_sz x 40 hx
   have hps:ps.all okQ=true:=by
    by_cases c:ps.all okQ=true
    ·exact c
    ·exact absurd (.inr (.inr (.inr c))) hc
   refine .mk (by omega) (by omega) (fun q hq=>?_) (by omega) (by omega) a1.2 a2.2 (by omega) a1.1 a2.1 (fun r hr=>?_)
   ·have:=List.all_eq_true.1 hps q hq
    unfold okQ at this;simp at this;omega
   ·obtain⟨y,_,hy,hc⟩:=h3.2 r hr
    exact hu r hr y hc (by omega)
 ·rw[cnR] at h
  split at h
  ·omega
  ·have a1:=hl b hb (z - 1) h (by omega)
   exact .mk (by omega) a1.2 a1.1
theorem cnL_fit {l:List Cm} {z:Int} (h:0≤cnL l z) (hz:z≤120):(∀ x∈l,FitC x)∧l.length≤1000000:=
 ⟨fun x hx=>by obtain⟨y,_,hy,hc⟩:=(cnL_mem l z h).2 x hx;exact cn_fit.1 x y hc (by omega),by have:=cnL_len h;omega⟩
end Go.Proofs.YtngfihoempcplaaGreatDoor
