import Derived.Test.YtfgcdppebeojbaaGreatDoorSrd
import Derived.Test.YtfgcdppebeojbaaGreatDoorSc41
namespace Go.Proofs.YtfgcdppebeojbaaGreatDoor
open Go Go.RowKit
set_option maxRecDepth 100000
set_option maxHeartbeats 8000000
section
theorem head_cases (l:List Tok) (told:Bool) (i:Nat):
  (∃ jf,jf<3∧(∀ j,j<3→j≤jf→isT l 5 (flS j).data.toList i=decide (j=jf))∧headF l told i=(plainF l (i+1)).then fun s m=> .ok (1,(jf:Int),s) m)∨
  ((∀ j,j<3→isT l 5 (flS j).data.toList i=false)∧
    ((isT l 1 [101,111,102] i=true∧headF l told i= .ok (3,0,[]) (i+1))∨
     (isT l 1 [101,111,102] i=false∧isT l 1 [116,105,109,101,111,117,116] i=true∧isT l 1 [100,101,102,97,117,108,116] i=false∧headF l told i=if told then .bad i false else .ok (2,0,[]) (i+1))∨
     (isT l 1 [101,111,102] i=false∧isT l 1 [116,105,109,101,111,117,116] i=false∧isT l 1 [100,101,102,97,117,108,116] i=true∧headF l told i=if told then .bad i false else .ok (4,0,[]) (i+1))∨
     (isT l 1 [101,111,102] i=false∧isT l 1 [116,105,109,101,111,117,116] i=false∧isT l 1 [100,101,102,97,117,108,116] i=false∧headF l told i= .bad i false))):=by
 have hf:∀ j,j<3→(flS j).data.toList=[101,120]∧j=0∨(flS j).data.toList=[103,108]∧j=1∨(flS j).data.toList=[114,101]∧j=2:=fun j hj=>by
  obtain rfl | rfl | rfl:j=0∨j=1∨j=2:=by omega
  ·exact .inl ⟨rfl,rfl⟩
  ·exact .inr (.inl ⟨rfl,rfl⟩)
  ·exact .inr (.inr ⟨rfl,rfl⟩)
 by_cases h5:(nxz l i).kind=5
 ·have hT:∀ w,isT l 5 w i=decide ((nxz l i).word=w):=fun w=>by unfold isT;simp[h5]
  have h1:∀ w,isT l 1 w i=false:=fun w=>by unfold isT;exact decide_eq_false fun e=>by rw[h5] at e;exact absurd e.1 (by decide)
  have hh:headF l told i=(patF l i).then fun p j=> .ok (1,p.1,p.2) j:=by unfold headF;rw[if_pos h5]
  by_cases e0:(nxz l i).word=[101,120]
  ·refine .inl ⟨0,by decide,fun j hj hj2=>?_,?_⟩
   ·obtain rfl:j=0:=by omega
    rw[hT,e0];rfl
   ·rw[hh];unfold patF
    rw[if_pos (by rw[hT,e0];rfl),Rz.then_assoc];rfl
  ·by_cases e1:(nxz l i).word=[103,108]
   ·refine .inl ⟨1,by decide,fun j hj hj2=>?_,?_⟩
    ·obtain rfl | rfl:j=0∨j=1:=by omega
     ·rw[hT,e1];rfl
     ·rw[hT,e1];rfl
    ·rw[hh];unfold patF
     rw[if_neg (by rw[hT,e1];decide),if_pos (by rw[hT,e1];rfl),Rz.then_assoc];rfl
   ·by_cases e2:(nxz l i).word=[114,101]
    ·refine .inl ⟨2,by decide,fun j hj hj2=>?_,?_⟩
     ·obtain rfl | rfl | rfl:j=0∨j=1∨j=2:=by omega
      ·rw[hT,e2];rfl
      ·rw[hT,e2];rfl
      ·rw[hT,e2];rfl
     ·rw[hh];unfold patF
      rw[if_neg (by rw[hT,e2];decide),if_neg (by rw[hT,e2];decide),if_pos (by rw[hT,e2];rfl),Rz.then_assoc];rfl
    ·refine .inr ⟨fun j hj=>?_,.inr (.inr (.inr ⟨h1 _,h1 _,h1 _,?_⟩))⟩
     ·rw[hT]
      refine decide_eq_false fun e=>?_
      rcases hf j hj with ⟨q,_⟩ | ⟨q,_⟩ | ⟨q,_⟩ <;> rw[q] at e
      ·exact e0 e
      ·exact e1 e
      ·exact e2 e
     ·rw[hh];unfold patF
      rw[if_neg (by rw[hT];simpa using e0),if_neg (by rw[hT];simpa using e1),if_neg (by rw[hT];simpa using e2)];rfl
 ·have hT:∀ w,isT l 5 w i=false:=fun w=>by unfold isT;exact decide_eq_false fun e=>h5 e.1
  have hh:headF l told i=(rwordF l told i).then fun x j=> .ok (x,0,[]) j:=by unfold headF;rw[if_neg h5]
  refine .inr ⟨fun j _=>hT _,?_⟩
  have dis:∀ u v:Bs,u≠v→isT l 1 u i=true→isT l 1 v i=false:=fun u v huv hu=>by
   have e:=of_decide_eq_true hu;unfold isT;exact decide_eq_false fun e'=>huv (e.2.symm.trans e'.2)
  cases a:isT l 1 [101,111,102] i with
  | true=>
    have b2:=dis _ [116,105,109,101,111,117,116] (by decide) a;refine .inl ⟨rfl,?_⟩;rw[hh];unfold rwordF;rw[if_neg (by rw[b2];simp),if_pos a];rfl
  | false=>
    refine .inr ?_
    cases c:isT l 1 [116,105,109,101,111,117,116] i with
    | true=>
      have b3:=dis _ [100,101,102,97,117,108,116] (by decide) c;refine .inl ⟨rfl,rfl,b3,?_⟩;rw[hh];unfold rwordF
      cases told with
      | true=>rw[if_neg (by simp),if_neg (by rw[a];decide),if_neg (by simp)];rfl
      | false=>rw[if_pos ⟨rfl,c⟩];rfl
    | false=>
      refine .inr ?_
      cases e:isT l 1 [100,101,102,97,117,108,116] i with
      | true=>
        refine .inl ⟨rfl,rfl,rfl,?_⟩;rw[hh];unfold rwordF
        cases told with
        | true=>rw[if_neg (by simp),if_neg (by rw[a];decide),if_neg (by simp)];rfl
        | false=>rw[if_neg (by rw[c];simp),if_neg (by rw[a];decide),if_pos ⟨rfl,e⟩];rfl
      | false=>
        refine .inr ⟨rfl,rfl,rfl,?_⟩;rw[hh];unfold rwordF;rw[if_neg (by rw[c];simp),if_neg (by rw[a];decide),if_neg (by rw[e];simp)];rfl
theorem plain_cases (l:List Tok) (m:Nat):((nxz l m).kind≠3∧plainF l m= .bad m false)∨((nxz l m).kind=3∧
  (((nxz l m).parts=[]∧plainF l m= .ok [] (m+1))∨(∃ s,(nxz l m).parts=[([],s)]∧plainF l m= .ok s (m+1))∨(∃ p ps,(nxz l m).parts=p::ps∧ps≠[]∧plainF l m= .bad m false)∨∃ p ps,(nxz l m).parts=p::ps∧ps=[]∧p.1≠[]∧plainF l m= .bad m false)):=by
 by_cases h3:(nxz l m).kind=3
 ·refine .inr ⟨h3,?_⟩
  unfold plainF;rw[if_pos h3]
  cases hp:(nxz l m).parts with
  | nil=>exact .inl ⟨rfl,rfl⟩
  | cons p ps=>
    cases ps with
    | nil=>
      obtain⟨p1,p2⟩:=p
      cases p1 with
      | nil=>exact .inr (.inl ⟨p2,rfl,rfl⟩)
      | cons x xs=>exact .inr (.inr (.inr ⟨_,_,rfl,rfl,by simp,rfl⟩))
    | cons q qs=>exact .inr (.inr (.inl ⟨_,_,rfl,by simp,rfl⟩))
 ·exact .inl ⟨h3,by unfold plainF;rw[if_neg h3]⟩
section
variable {b:Nat} {w w':World} {S:ByteArray} {A:Option Addr} {n c:Nat} {l:List Tok}
theorem rul_close {pl:Int} {Q:Int→Int→Int→Bs→Prop} {R4:Rz (List Cm)} {R:Rz Ru} {e:Ending} (h:RulQ b w S A n c l pl Q R4 e w') (hR:∀ kd q pk pt,Q kd q pk pt→R=R4.then fun bd m=> .ok (.mk kd q pk pt bd pl) m):
  ∃ (r:Ru) (A':Option Addr) (c':Nat),e= .returned (.agg #[.int .i64 r.kind,.int .i64 r.peer,.int .i64 r.pk,.string ⟨r.pt.toArray⟩,.slice A' r.body.length c',.int .i64 r.pl])∧StepD b w S A n c l R.at R.err w'∧(∀ y j,R= .ok y j→y=r)∧(R.err=0→KidR (NwX b w.heap.size w'.heap.size) w' A' r):=by
 obtain⟨kd,q,pk,pt,A',xs,c',he,hs,hq,hv,hr⟩:=h;have e1:=hR _ _ _ _ hq;have hm:=then_last hv (fun bd=>Ru.mk kd q pk pt bd pl);refine⟨.mk kd q pk pt xs pl,A',c',he,?_,?_,?_⟩
 ·rw[e1,hm.1,hm.2.1];exact hs
 ·rw[e1];exact fun y j hy=>(hm.2.2 y j hy).1
 ·rw[e1,hm.2.1];exact fun h0=>kidR_eq.2 (hr h0)
theorem rul_none {pl:Int} {i:Nat} {R:Rz Ru} {e:Ending} (hR:R= .bad i false) (h:∃ (kd q pk:Int) (pt:Bs) (A':Option Addr) (xs:List Cm) (c':Nat),e= .returned (.agg #[.int .i64 kd,.int .i64 q,.int .i64 pk,.string ⟨pt.toArray⟩,.slice A' xs.length c',.int .i64 pl])∧StepD b w S A n c l i 1 w'):
  ∃ (r:Ru) (A':Option Addr) (c':Nat),e= .returned (.agg #[.int .i64 r.kind,.int .i64 r.peer,.int .i64 r.pk,.string ⟨r.pt.toArray⟩,.slice A' r.body.length c',.int .i64 r.pl])∧StepD b w S A n c l R.at R.err w'∧(∀ y j,R= .ok y j→y=r)∧(R.err=0→KidR (NwX b w.heap.size w'.heap.size) w' A' r):=by
 obtain⟨kd,q,pk,pt,A',xs,c',he,hs⟩:=h;subst hR;exact⟨.mk kd q pk pt xs pl,A',c',he,hs,(fun y j hy=>by cases hy),fun h0=>by cases h0⟩
end
theorem blD (b:Nat) (S:ByteArray) (A:Option Addr) (n c:Nat) (l:List Tok) (blk:Nat→Nat→Rz (List Cm)) (k0:Nat) (HB:BlkD b S A n c l blk k0) (d k o:Nat) (hk:o=0→k0≤k∧d≤16) (hd:d≤99) {R:Rz (List Cm)} (hR:gate o k (blk d)=R):BlD b S A n c l d k o R:=Lib.hid fun w' h'=>by
 subst hR;exact HB d k o w' hk hd h'
abbrev RuD (b:Nat) (S:ByteArray) (A:Option Addr) (n c:Nat) (l:List Tok) (z:Int) (k:Nat) (R:Rz Ru):Prop:=Hid (∀ w',DocS b w' S A n c l k 0→Calls Tryz.prog 95 #[.pointer (some ⟨b,0,none⟩),.int .i64 z] w' fun e w2=>
 ∃ (r:Ru) (A':Option Addr) (c':Nat),e= .returned (.agg #[.int .i64 r.kind,.int .i64 r.peer,.int .i64 r.pk,.string ⟨r.pt.toArray⟩,.slice A' r.body.length c',.int .i64 r.pl])∧StepD b w' S A n c l R.at R.err w2∧(∀ y j,R= .ok y j→y=r)∧(R.err=0→KidR (NwX b w'.heap.size w2.heap.size) w2 A' r))
theorem pat_kind {l:List Tok} {m:Nat} (h:(nxz l m).kind≠3):gate 0 m (kindF l 3)= .bad m false:=by rw[gate_ok];unfold kindF;rw[if_neg h]
theorem pat_tok {l:List Tok} {m:Nat} (h:(nxz l m).kind=3):gate 0 m (kindF l 3)= .ok (nxz l m) (m+1):=by rw[gate_ok];unfold kindF;rw[if_pos h]
theorem ruD (b:Nat) (S:ByteArray) (A:Option Addr) (n c:Nat) (l:List Tok) (blk:Nat→Nat→Rz (List Cm)) (k0:Nat) (HB:BlkD b S A n c l blk k0) (d k:Nat) (hk:k0≤k∧d≤16) (hd:d≤99) (hkl:k<l.length) {z:Int} (hz:z=d) {R:Rz Ru} (hR:ruleF l blk d k=R):RuD b S A n c l z k R:=Lib.hid fun w h=>by
 subst hz hR;have hlen:=h.len;have ht:l[k]?=some l[k]:=List.getElem?_eq_getElem hkl;have hpl:(nxz l k).pl=l[k].pl:=by rw[nxz_at ht]
 have blk1:∀ j,BlD b S A n c l d j 1 (.bad j false):=fun j=>blD b S A n c l blk k0 HB d j 1 (fun h=>by cases h) hd rfl
 have blk0:∀ j,k≤j→BlD b S A n c l d j 0 (blk d j):=fun j hj=>blD b S A n c l blk k0 HB d j 0 (fun _=>by omega) hd rfl
 have isc:∀ (kd:Int) (hkd:kd≠0) (W:ByteArray) (i:Nat) (v:Bool),isT l kd W.data.toList i=v→IsC b S A n c l kd W i 0 v:=fun kd hkd W i v hv=>isC b S A n c l kd hkd W i 0 hv
 have isn:∀ (kd:Int) (hkd:kd≠0) (W:ByteArray) (i:Nat),IsC b S A n c l kd W i 1 false:=fun kd hkd W i=>isC b S A n c l kd hkd W i 1 (isO_bad l hkd _ _ (by decide))
 have e0:ruleF l blk d k=(peerF l k).then fun q i=>(headF l (isT l 5 [105] k) i).then fun h j=>(blk d j).then fun bd m=> .ok (.mk h.1 q h.2.1 h.2.2 bd l[k].pl) m:=by unfold ruleF;rw[hpl]
 cases hi:isT l 5 [105] k with
 | false=>
   have KI:=isc 5 (by decide) ⟨#[105]⟩ k false hi;have ep:peerF l k= .ok (-1) k:=by unfold peerF;rw[if_neg (by rw[hi];decide)]
   have e1:ruleF l blk d k=(headF l false k).then fun h j=>(blk d j).then fun bd m=> .ok (.mk h.1 (-1) h.2.1 h.2.2 bd l[k].pl) m:=by rw[e0,ep,hi];rfl
   have hkn:k+1≤n:=by omega
   rcases head_cases l false k with ⟨jf,hjf,KF,hh⟩ | ⟨KF,hh⟩
   ·have KF2:∀ j,j<3→j≤jf→IsC b S A n c l 5 (flS j) k 0 (decide (j=jf)):=fun j hj hj2=>isc 5 (by decide) (flS j) k _ (KF j hj hj2)
    rw[hh,Rz.then_assoc] at e1
    rcases plain_cases l (k+1) with ⟨h3,hp⟩ | ⟨h3,hp⟩
    ·refine(drule_b b w S A n c l d k h l[k] ht KI jf hjf KF2 _ (.pa hkn (.bad (k+1) false) (k+1) 1 rfl rfl (by decide) (takC b S A n c l 3 (by decide) (k+1) 0 (pat_kind h3)) _ (blk1 (k+1)))).mono fun e w' hq=>rul_close hq fun _ _ _ _ _=>?_
     rw[e1,hp];rfl
    ·have K2:=takC b S A n c l 3 (by decide) (k+1) 0 (pat_tok h3)
     rcases hp with ⟨hp,he⟩ | ⟨s,hp,he⟩ | ⟨p,ps,hp,hps,he⟩ | ⟨p,ps,hp,hps,hpn,he⟩
     ·refine(drule_b b w S A n c l d k h l[k] ht KI jf hjf KF2 _ (.pb hkn _ K2 hp _ (blk0 (k+2) (by omega)))).mono fun e w' hq=>rul_close hq fun kd q pk pt hQ=>?_
      obtain⟨rfl,rfl,rfl,rfl⟩:=hQ;rw[e1,he];rfl
     ·refine(drule_b b w S A n c l d k h l[k] ht KI jf hjf KF2 _ (.pc hkn _ K2 s hp _ (blk0 (k+2) (by omega)))).mono fun e w' hq=>rul_close hq fun kd q pk pt hQ=>?_
      obtain⟨rfl,rfl,rfl,rfl⟩:=hQ;rw[e1,he];rfl
     ·refine(drule_b b w S A n c l d k h l[k] ht KI jf hjf KF2 _ (.pd hkn _ K2 p ps hp hps _ (blk1 (k+1)))).mono fun e w' hq=>rul_close hq fun _ _ _ _ _=>?_
      rw[e1,he];rfl
     ·refine(drule_b b w S A n c l d k h l[k] ht KI jf hjf KF2 _ (.pe hkn _ K2 p ps hp hps hpn _ (blk1 (k+1)))).mono fun e w' hq=>rul_close hq fun _ _ _ _ _=>?_
      rw[e1,he];rfl
   ·have KF2:∀ j,j<3→IsC b S A n c l 5 (flS j) k 0 false:=fun j hj=>isc 5 (by decide) (flS j) k _ (KF j hj)
    rcases hh with ⟨a1,hh⟩ | ⟨a1,a2,_,hh⟩ | ⟨a1,a2,a3,hh⟩ | ⟨a1,a2,a3,hh⟩
    ·refine(drule_a b w S A n c l d k h l[k] ht KI KF2 _ (.eof hkn (isc 1 (by decide) ⟨#[101,111,102]⟩ k _ a1) _ (blk0 (k+1) (by omega)))).mono fun e w' hq=>rul_close hq fun kd q pk pt hQ=>?_
     obtain⟨rfl,rfl,rfl,rfl⟩:=hQ;rw[e1,hh];rfl
    ·refine(drule_a b w S A n c l d k h l[k] ht KI KF2 _ (.tim hkn (isc 1 (by decide) ⟨#[101,111,102]⟩ k _ a1) (isc 1 (by decide) ⟨#[116,105,109,101,111,117,116]⟩ k _ a2) _ (blk0 (k+1) (by omega)))).mono fun e w' hq=>rul_close hq fun kd q pk pt hQ=>?_
     obtain⟨rfl,rfl,rfl,rfl⟩:=hQ;rw[e1,hh];rfl
    ·refine(drule_a b w S A n c l d k h l[k] ht KI KF2 _ (.dfl hkn (isc 1 (by decide) ⟨#[101,111,102]⟩ k _ a1) (isc 1 (by decide) ⟨#[116,105,109,101,111,117,116]⟩ k _ a2) (isc 1 (by decide) ⟨#[100,101,102,97,117,108,116]⟩ k _ a3) _ (blk0 (k+1) (by omega)))).mono fun e w' hq=>rul_close hq fun kd q pk pt hQ=>?_
     obtain⟨rfl,rfl,rfl,rfl⟩:=hQ;rw[e1,hh];rfl
    ·refine(drule_a b w S A n c l d k h l[k] ht KI KF2 _ (.no (isc 1 (by decide) ⟨#[101,111,102]⟩ k _ a1) (isc 1 (by decide) ⟨#[116,105,109,101,111,117,116]⟩ k _ a2) (isc 1 (by decide) ⟨#[100,101,102,97,117,108,116]⟩ k _ a3) 1 rfl)).mono fun e w' hq=>rul_none ?_ hq
     rw[e1,hh];rfl
 | true=>
   have KI:=isc 5 (by decide) ⟨#[105]⟩ k true hi;by_cases h2:(nxz l (k+1)).kind=2
   ·have hk1:k+1<l.length:=nxz_lt (by rw[h2];decide)
    have er:gate 0 (k+1) (kindF l 2)= .ok (nxz l (k+1)) (k+2):=by rw[gate_ok];unfold kindF;rw[if_pos h2]
    have K1:=takC b S A n c l 2 (by decide) (k+1) 0 er
    have ep:peerF l k= .ok (nxz l (k+1)).n (k+2):=by
     unfold peerF;rw[if_pos hi,show kindF l 2 (k+1)= .ok (nxz l (k+1)) (k+2) from er];rfl
    have e1:ruleF l blk d k=(headF l true (k+2)).then fun h j=>(blk d j).then fun bd m=> .ok (.mk h.1 (nxz l (k+1)).n h.2.1 h.2.2 bd l[k].pl) m:=by rw[e0,ep,hi];rfl
    have hn0:0≤(nxz l (k+1)).n:=by
     have hm:=h.fit.ok l[k+1] (List.getElem_mem hk1);rw[nxz_at (List.getElem?_eq_getElem hk1)] at h2 ⊢;unfold okT at hm;rw[if_pos h2] at hm;simp at hm;exact hm.1.2
    have hzn:∀ y,(∀ y' j,(Rz.ok (nxz l (k+1)) (k+2):Rz Tok)= .ok y' j→y'=y)→0≤y.n:=fun y hy=>by rw[←hy _ _ rfl];exact hn0
    rcases head_cases l true (k+2) with ⟨jf,hjf,KF,hh⟩ | ⟨KF,hh⟩
    ·have hkk:k+2<l.length:=by
      have:=KF jf hjf (Nat.le_refl _);rw[decide_eq_true rfl] at this;exact isT_lt this (by decide)
     have hkn:k+2+1≤n:=by omega
     have KF2:∀ j,j<3→j≤jf→IsC b S A n c l 5 (flS j) (k+2) 0 (decide (j=jf)):=fun j hj hj2=>isc 5 (by decide) (flS j) (k+2) _ (KF j hj hj2)
     rw[hh,Rz.then_assoc] at e1
     rcases plain_cases l (k+2+1) with ⟨h3,hp⟩ | ⟨h3,hp⟩
     ·refine(drule_d b w S A n c l d k h l[k] ht KI _ K1 (k+2) 0 rfl rfl jf hjf KF2 _ (.pa rfl hkn (.bad (k+2+1) false) (k+2+1) 1 rfl rfl (by decide) (takC b S A n c l 3 (by decide) (k+2+1) 0 (pat_kind h3)) _ (blk1 (k+2+1)))).mono fun e w' hq=>rul_close hq fun _ _ _ _ _=>?_
      rw[e1,hp];rfl
     ·have K2:=takC b S A n c l 3 (by decide) (k+2+1) 0 (pat_tok h3)
      rcases hp with ⟨hp,he⟩ | ⟨s,hp,he⟩ | ⟨p,ps,hp,hps,he⟩ | ⟨p,ps,hp,hps,hpn,he⟩
      ·refine(drule_d b w S A n c l d k h l[k] ht KI _ K1 (k+2) 0 rfl rfl jf hjf KF2 _ (.pb rfl hkn _ K2 hp _ (blk0 (k+2+2) (by omega)))).mono fun e w' hq=>rul_close hq fun kd q pk pt hQ=>?_
       obtain⟨hq1,rfl,rfl,rfl⟩:=hQ;rw[e1,he,←hq1 _ _ rfl];rfl
      ·refine(drule_d b w S A n c l d k h l[k] ht KI _ K1 (k+2) 0 rfl rfl jf hjf KF2 _ (.pc rfl hkn _ K2 s hp _ (blk0 (k+2+2) (by omega)))).mono fun e w' hq=>rul_close hq fun kd q pk pt hQ=>?_
       obtain⟨hq1,rfl,rfl,rfl⟩:=hQ;rw[e1,he,←hq1 _ _ rfl];rfl
      ·refine(drule_d b w S A n c l d k h l[k] ht KI _ K1 (k+2) 0 rfl rfl jf hjf KF2 _ (.pd rfl hkn _ K2 p ps hp hps _ (blk1 (k+2+1)))).mono fun e w' hq=>rul_close hq fun _ _ _ _ _=>?_
       rw[e1,he];rfl
      ·refine(drule_d b w S A n c l d k h l[k] ht KI _ K1 (k+2) 0 rfl rfl jf hjf KF2 _ (.pe rfl hkn _ K2 p ps hp hps hpn _ (blk1 (k+2+1)))).mono fun e w' hq=>rul_close hq fun _ _ _ _ _=>?_
       rw[e1,he];rfl
    ·have KF2:∀ j,j<3→IsC b S A n c l 5 (flS j) (k+2) 0 false:=fun j hj=>isc 5 (by decide) (flS j) (k+2) _ (KF j hj)
     rcases hh with ⟨a1,hh⟩ | ⟨a1,a2,a3,hh⟩ | ⟨a1,a2,a3,hh⟩ | ⟨a1,a2,a3,hh⟩
     ·have hkk:k+2<l.length:=isT_lt a1 (by decide)
      refine(drule_c b w S A n c l d k h l[k] ht KI _ K1 (k+2) 0 rfl rfl KF2 _ (.eof rfl (by omega) (isc 1 (by decide) ⟨#[101,111,102]⟩ (k+2) _ a1) _ (blk0 (k+2+1) (by omega)))).mono fun e w' hq=>rul_close hq fun kd q pk pt hQ=>?_
      obtain⟨hq1,rfl,rfl,rfl⟩:=hQ;rw[e1,hh,←hq1 _ _ rfl];rfl
     ·refine(drule_c b w S A n c l d k h l[k] ht KI _ K1 (k+2) 0 rfl rfl KF2 _ (.tim hzn (isc 1 (by decide) ⟨#[101,111,102]⟩ (k+2) _ a1) (isc 1 (by decide) ⟨#[116,105,109,101,111,117,116]⟩ (k+2) _ a2) (isc 1 (by decide) ⟨#[100,101,102,97,117,108,116]⟩ (k+2) _ a3) 1 rfl)).mono fun e w' hq=>rul_none ?_ hq
      rw[e1,hh];rfl
     ·refine(drule_c b w S A n c l d k h l[k] ht KI _ K1 (k+2) 0 rfl rfl KF2 _ (.dfl hzn (isc 1 (by decide) ⟨#[101,111,102]⟩ (k+2) _ a1) (isc 1 (by decide) ⟨#[116,105,109,101,111,117,116]⟩ (k+2) _ a2) (isc 1 (by decide) ⟨#[100,101,102,97,117,108,116]⟩ (k+2) _ a3) 1 rfl)).mono fun e w' hq=>rul_none ?_ hq
      rw[e1,hh];rfl
     ·refine(drule_c b w S A n c l d k h l[k] ht KI _ K1 (k+2) 0 rfl rfl KF2 _ (.no (isc 1 (by decide) ⟨#[101,111,102]⟩ (k+2) _ a1) (isc 1 (by decide) ⟨#[116,105,109,101,111,117,116]⟩ (k+2) _ a2) (isc 1 (by decide) ⟨#[100,101,102,97,117,108,116]⟩ (k+2) _ a3) 1 rfl)).mono fun e w' hq=>rul_none ?_ hq
      rw[e1,hh];rfl
   ·have er:gate 0 (k+1) (kindF l 2)= .bad (k+1) false:=by rw[gate_ok];unfold kindF;rw[if_neg h2]
    have K1:=takC b S A n c l 2 (by decide) (k+1) 0 er
    have ep:peerF l k= .bad (k+1) false:=by
     unfold peerF;rw[if_pos hi,show kindF l 2 (k+1)= .bad (k+1) false from er];rfl
    refine(drule_c b w S A n c l d k h l[k] ht KI _ K1 (k+1) 1 rfl rfl (fun j _=>isn 5 (by decide) (flS j) (k+1)) _ (.no (isn 1 (by decide) ⟨#[101,111,102]⟩ (k+1)) (isn 1 (by decide) ⟨#[116,105,109,101,111,117,116]⟩ (k+1)) (isn 1 (by decide) ⟨#[100,101,102,97,117,108,116]⟩ (k+1)) 1 rfl)).mono fun e w' hq=>rul_none ?_ hq
    rw[e0,ep];rfl
end
section
structure RoH {α:Type} (cf:α→List Value) (s e:Nat) (KP:(Nat→Prop)→World→α→Prop) (b:Nat) (w W:World) (S:ByteArray) (A:Option Addr) (n c:Nat) (l:List Tok) (k o:Nat) (v:Value) (es:List α):Prop where
 cx:Cy b w W S A n c l k o []
 row:W.ownsRow w.heap.size e s v es.length (es.flatMap cf)
 kids:o=0→∀ x∈es,KP (OwX b w.heap.size W.heap.size v.ownBlock) W x
section
variable {α:Type} {cf:α→List Value} {s e:Nat} {KP:(Nat→Prop)→World→α→Prop} {b:Nat} {w W W':World} {S:ByteArray} {A:Option Addr} {n c:Nat} {l:List Tok} {k o k' o':Nat} {v:Value} {es:List α}
theorem DocS.lowB {B:Nat} (h:DocS b w S A n c l k o) (hB:b<B) (hb:Below B w W):DocS b W S A n c l k o:=
 h.same (fun j=>hb.cell (p:=⟨b,j,none⟩) hB) (fun j _=>hb.frozen (p:=⟨b,j,none⟩) hB) (h.row.keep (hb.mono (Nat.le_of_lt hB)))
theorem RoH.start (h:DocS b w S A n c l k o):RoH cf s e KP b w w S A n c l k o (.slice none 0 0) []:=⟨Cy.start h,World.ownsRow_nil _ _ _ _,by simp⟩
theorem RoH.own (h:RoH cf s e KP b w W S A n c l k o v es):∀ g,v.ownBlock=some g→w.heap.size≤g∧g<W.heap.size:=h.row.lt
theorem RoH.call (h:RoH cf s e KP b w W S A n c l k o v es) (hK:Mono KP) (hs:StepD b W S A n c l k' o' W') (ho:o'=0→o=0):RoH cf s e KP b w W' S A n c l k' o' v es:=by
 have hlt:=h.cx.lt;refine⟨h.cx.call hs,h.row.kept hs.1 ?_,fun h0 x hx=>hK _ _ W W' x (fun p hp=>?_) (fun q hq=>?_) (h.kids (ho h0) x hx)⟩
 ·cases hv:v.ownBlock with
  | none=>exact .inl rfl
  | some g=>exact .inr fun e=>by injection e with e;have:=(h.own g hv).1;omega
 ·refine World.cell?_of_block (hs.1.block p.block ?_ (fun e=>?_))
  ·rcases hp with h1 | h1
   ·have:=h.cx.gr.size;omega
   ·exact h1.2.1
  ·injection e with e
   rcases hp with h1 | h1 <;> omega
 ·exact hq.imp id fun h1=>⟨h1.1,Nat.lt_of_lt_of_le h1.2.1 hs.1.size,h1.2.2⟩
theorem RoH.below (h:RoH cf s e KP b w W S A n c l k o v es) (hK:Mono KP) (hb:Below W.heap.size W W'):RoH cf s e KP b w W' S A n c l k o v es:=h.call hK ⟨grown_below hb,h.cx.rd.low hb⟩ id
theorem RoH.push (h:RoH cf s e KP b w W S A n c l k o v es) (hK:Mono KP) {x:α} (hx:o=0→KP (OwX b w.heap.size W.heap.size v.ownBlock) W x) {g cap:Nat} (hr:W'.ownsRow w.heap.size e s (.slice (some ⟨g,0,none⟩) (es.length+1) cap) (es.length+1) (es.flatMap cf++cf x))
  (hg:W.grownBy W' v.ownBlock) (hv:v.ownBlock=some g∨g=W.heap.size):RoH cf s e KP b w W' S A n c l k o (.slice (some ⟨g,0,none⟩) (es.length+1) cap) (es++[x]):=by
 have hlt:=h.cx.lt;have hsz:=h.cx.gr.size;have hgs:=hg.size;have own:∀ i,i<w.heap.size→some i≠v.ownBlock:=fun i hi e=>by have:=(h.own i e.symm).1;omega
 have keep:∀ i,i<w.heap.size→W'.heap[i]?=W.heap[i]?:=fun i hi=>hg.block i (by omega) (fun e=>own i hi e)
 have hbb:Below (b+1) W W':=⟨hg.os,hg.tape,hg.output,hg.size,fun i hi=>keep i (by omega)⟩
 have hcell:∀ p:Addr,OwX b w.heap.size W.heap.size v.ownBlock p.block→W'.cell? p=W.cell? p:=fun p hp=>World.cell?_of_block (by
  rcases hp with h1 | h1
  ·exact keep _ (by omega)
  ·exact hg.block _ h1.2.1 (fun e=>h1.2.2 e.symm))
 have hP:∀ q,OwX b w.heap.size W.heap.size v.ownBlock q→OwX b w.heap.size W'.heap.size (Value.ownBlock (.slice (some ⟨g,0,none⟩) (es.length+1) cap)) q:=fun q hq=>hq.imp id fun h1=>⟨h1.1,by omega,fun e=>by
  have e:g=q:=by injection e
  rcases hv with hv | hv
  ·rw[hv] at h1;exact h1.2.2 (by rw[e])
  ·have:=h1.2.1;omega⟩
 refine⟨⟨hlt,h.cx.rd.lowB (by omega) hbb,⟨hg.os.trans h.cx.gr.os,hg.tape.trans h.cx.gr.tape,hg.output.trans h.cx.gr.output,by omega,fun i hi hn=>(keep i hi).trans (h.cx.gr.block i hi hn)⟩,by simp,List.Pairwise.nil⟩,?_,fun h0 y hy=>?_⟩
 ·rw[List.length_append,List.flatMap_append]
  simpa using hr
 ·rcases List.mem_append.1 hy with hy | hy
  ·exact hK _ _ W W' y hcell hP (h.kids h0 y hy)
  ·rw[List.mem_singleton] at hy
   subst hy;exact hK _ _ W W' y hcell hP (hx h0)
theorem RoH.box (h:RoH cf s e KP b w W S A n c l k o v es) (hK:Mono KP) (x:Obj):RoH cf s e KP b w (W.alloc x) S A n c l k o v es:=h.below hK ((Below.refl _ _).alloc (Nat.le_refl _) _)
end
theorem rowC_ownD {b:Nat} {w W:World} {S:ByteArray} {A:Option Addr} {n c:Nat} {l:List Tok} {k o:Nat} {v:Value} {es:List XC} (h:RoH cfC 13 67 KPC b w W S A n c l k o v es):∃ A' c',v= .slice A' (es.map (·.1)).length c'∧(o=0→RowC (NwX b w.heap.size W.heap.size) W A' (es.map (·.1))):=by
 rcases h.row.2 with ⟨rfl,h0⟩ | ⟨g,cap,cur,rfl,hb,hg,_⟩
 ·have:es=[]:=List.eq_nil_of_length_eq_zero h0
  subst this;exact⟨none,0,rfl,fun _=> .inl rfl⟩
 ·refine⟨_,_,by rw[List.length_map],fun h0=> .inr ⟨_,rfl,.inr ⟨hb,(Array.getElem?_eq_some_iff.1 hg).1⟩,kidCL_iff.2 fun j c hj=>?_⟩⟩
  rw[List.getElem?_map,Option.map_eq_some_iff] at hj;obtain⟨x,hx,rfl⟩:=hj;refine⟨x.2,fun i u hu=>?_,(h.kids h0 x (List.mem_of_getElem? hx)).of (fun _ _=>rfl) OwX.all⟩;rw[add_addX,Nat.zero_add];exact h.row.cells (g:=g) rfl _ _ (flat_at (cf:=cfC) (fun _=>rfl) es j x hx i u hu)
theorem rowU_ownD {b:Nat} {w W:World} {S:ByteArray} {A:Option Addr} {n c:Nat} {l:List Tok} {k o:Nat} {v:Value} {es:List XU} (h:RoH cfU 6 90 KPU b w W S A n c l k o v es):∃ A' c',v= .slice A' (es.map (·.1)).length c'∧(o=0→RowU (NwX b w.heap.size W.heap.size) W A' (es.map (·.1))):=by
 rcases h.row.2 with ⟨rfl,h0⟩ | ⟨g,cap,cur,rfl,hb,hg,_⟩
 ·have:es=[]:=List.eq_nil_of_length_eq_zero h0
  subst this;exact⟨none,0,rfl,fun _=> .inl rfl⟩
 ·refine⟨_,_,by rw[List.length_map],fun h0=> .inr ⟨_,rfl,.inr ⟨hb,(Array.getElem?_eq_some_iff.1 hg).1⟩,kidRL_iff.2 fun j c hj=>?_⟩⟩
  rw[List.getElem?_map,Option.map_eq_some_iff] at hj;obtain⟨x,hx,rfl⟩:=hj;refine⟨x.2.1,x.2.2,fun i u hu=>?_,(h.kids h0 x (List.mem_of_getElem? hx)).of (fun _ _=>rfl) OwX.all⟩;rw[add_addX,Nat.zero_add];exact h.row.cells (g:=g) rfl _ _ (flat_at (cf:=cfU) (fun _=>rfl) es j x hx i u hu)
end
def RusD (b:Nat) (w:World) (S:ByteArray) (A:Option Addr) (n c:Nat) (l:List Tok) (R:Rz (List Ru)) (e:Ending) (w':World):Prop:=
 ∃ (A':Option Addr) (us:List Ru) (c':Nat),e= .returned (.slice A' us.length c')∧StepD b w S A n c l R.at R.err w'∧(∀ y j,R= .ok y j→y=us)∧(R.err=0→RowU (NwX b w.heap.size w'.heap.size) w' A' us)
section
structure RuK (b:Nat) (w:World) (S:ByteArray) (A:Option Addr) (n c:Nat) (l:List Tok) (blk:Nat→Nat→Rz (List Cm)) (k0 d:Nat) (R:Rz (List Ru)) (M:Nat) (v:Value) (wr:World) (es:List XU) (k o:Nat):Prop where
 row:RoH cfU 6 90 KPU b w wr S A n c l k o v es
 eq:R=(gate o k (if es=[] then rulesL l blk d M else restF l blk d M)).then fun rs m=> .ok (es.map (·.1)++rs) m
 fuel:o=0→n<k+M∧k0≤k∧d≤16
 len:es.length+M=n+1
theorem ruleF_end {l:List Tok} {blk:Nat→Nat→Rz (List Cm)} {d k:Nat} (h:¬ k<l.length):ruleF l blk d k= .bad k false:=by
 have hz:=nxz_end h;have ht:∀ kd w,kd≠0→isT l kd w k=false:=fun kd w hk=>by unfold isT;rw[hz];exact decide_eq_false fun e=>hk e.1.symm
 have e1:peerF l k= .ok (-1) k:=by unfold peerF;rw[if_neg (by rw[ht _ _ (by decide)];decide)]
 have e2:∀ told,headF l told k= .bad k false:=fun told=>by
  unfold headF;rw[if_neg (by rw[hz];decide)];unfold rwordF;rw[if_neg (by rw[ht _ _ (by decide)];simp),if_neg (by rw[ht _ _ (by decide)];decide),if_neg (by rw[ht _ _ (by decide)];simp)];rfl
 unfold ruleF;rw[e1];show (headF l _ k).then _=_
 rw[e2];rfl
section
variable {b:Nat} {w wr w' w2 w3:World} {S:ByteArray} {A:Option Addr} {n c:Nat} {l:List Tok} {blk:Nat→Nat→Rz (List Cm)} {k0 d:Nat} {R:Rz (List Ru)} {M:Nat} {v:Value} {es:List XU} {k o:Nat}
theorem RuK.stop (h:RuK b w S A n c l blk k0 d R M v wr es k o) (ho:¬ o=0) (hs:StepD b wr S A n c l k o w'):RusD b w S A n c l R (.returned v) w':=by
 have hR:=h.row.call monoU hs id;obtain⟨A',c',rfl,_⟩:=rowU_ownD hR;have ho2:=h.row.cx.rd.oks.resolve_left ho
 have e1:R.at=k∧R.err=o∧∀ y j,R≠ .ok y j:=by
  rw[h.eq]
  rcases ho2 with rfl | rfl <;> exact⟨rfl,rfl,fun _ _ e=>by cases e⟩
 refine⟨A',es.map (·.1),c',rfl,?_,fun y j e=>absurd e (e1.2.2 y j),fun e=>absurd (e1.2.1.symm.trans e) ho⟩;rw[e1.1,e1.2.1];exact hR.cx.step
theorem RuK.shut (h:RuK b w S A n c l blk k0 d R M v wr es k 0) (hne:¬ es=[]) (ht:isT l 4 [125] k=true) (hs:StepD b wr S A n c l (k+1) 0 w'):RusD b w S A n c l R (.returned v) w':=by
 have hR:=h.row.call monoU hs fun _=>rfl
 obtain⟨A',c',rfl,hk⟩:=rowU_ownD hR
 have e1:R= .ok (es.map (·.1)) (k+1):=by
  rw[h.eq,gate_ok,if_neg hne];unfold restF;rw[if_pos ht];show Rz.ok (es.map (·.1)++[]) (k+1)=_;rw[List.append_nil]
 rw[e1];exact⟨A',es.map (·.1),c',rfl,hR.cx.step,fun y j e=>by injection e with e;exact e.symm,fun _=>hk rfl⟩
theorem RuK.go (h:RuK b w S A n c l blk k0 d R (M+1) v wr es k 0) (ht:es=[]∨isT l 4 [125] k=false):R=((ruleF l blk d k).then fun r i=>(restF l blk d M i).then fun rs m=> .ok (r::rs) m).then fun rs m=> .ok (es.map (·.1)++rs) m:=by
 have e:(if es=[] then rulesL l blk d (M+1) else restF l blk d (M+1)) k=(ruleF l blk d k).then fun r i=>(restF l blk d M i).then fun rs m=> .ok (r::rs) m:=by
  split
  ·exact rulesL_rest l blk d M k
  ·rename_i hne
   unfold restF;rw[if_neg (by rw[ht.resolve_left hne];decide)];exact rulesL_rest l blk d M k
 rw[h.eq,gate_ok,e]
theorem RuK.over (h:RuK b w S A n c l blk k0 d R (M+1) v wr es k 0) (ht:es=[]∨isT l 4 [125] k=false) (hk:¬ k<n) (hs:StepD b wr S A n c l k 1 w'):RusD b w S A n c l R (.returned (.slice none 0 0)) w':=by
 have hlen:=h.row.cx.rd.len;have e1:R= .bad k false:=by rw[h.go ht,ruleF_end (by omega)];rfl
 rw[e1];exact⟨none,[],0,rfl,(h.row.cx.call hs).step,(fun y j e=>by cases e),fun e=>by cases e⟩
theorem RuK.step (h:RuK b w S A n c l blk k0 d R M v wr es k o) (hb:Below wr.heap.size wr w'):RuK b w S A n c l blk k0 d R M v w' es k o:=⟨h.row.below monoU hb,h.eq,h.fuel,h.len⟩
theorem RuK.more (hB:BlkIn l blk) (h:RuK b w S A n c l blk k0 d R (M+1) v wr es k 0) (ht:es=[]∨isT l 4 [125] k=false) {r:Ru} {A2:Option Addr} {c2:Nat}
  (hs:StepD b wr S A n c l (ruleF l blk d k).at (ruleF l blk d k).err w2) (hv:∀ y j,ruleF l blk d k= .ok y j→y=r) (hk:(ruleF l blk d k).err=0→KidR (NwX b wr.heap.size w2.heap.size) w2 A2 r)
  {g cap:Nat} (hr:w3.ownsRow w.heap.size 90 6 (.slice (some ⟨g,0,none⟩) (es.length+1) cap) (es.length+1) (es.flatMap cfU++cfU (r,A2,c2))) (o:Obj) (hg:(w2.alloc o).grownBy w3 v.ownBlock) (hvg:v.ownBlock=some g∨g=w2.heap.size+1):
  RuK b w S A n c l blk k0 d R M (.slice (some ⟨g,0,none⟩) (es.length+1) cap) w3 (es++[(r,A2,c2)]) (ruleF l blk d k).at (ruleF l blk d k).err:=by
 have hf:=h.fuel rfl;have hlen:=h.row.cx.rd.len;have hkn:k≤l.length:=by have:=h.row.cx.rd.le;omega
 refine⟨?_,?_,fun h0=>?_,by have:=h.len;simp;omega⟩
 ·refine((h.row.call monoU hs fun _=>rfl).box monoU o).push monoU (x:=(r,A2,c2)) (fun h0=>?_) hr hg (by simpa using hvg)
  have hown:=h.row.own
  exact((hk h0).of (w':=w2.alloc o) (fun p hp=>World.cell?_of_block (((Below.refl w2.heap.size w2).alloc (Nat.le_refl _) o).block _ (by have:=hs.1.size;have:=h.row.cx.lt;have:=h.row.cx.gr.size;rcases hp with hp | hp <;> omega))) fun _ h=>h).of (fun _ _=>rfl) fun q hq=>
   OwX.of_new (g:=v.ownBlock) h.row.cx.gr.size (fun q hq=>(hown q hq).2) q (NwX.wide (Nat.le_refl _) (by simp) q hq)
 ·rw[h.go ht,if_neg (by simp),Rz.then_assoc]
  refine(then_known (g:=fun i=>(restF l blk d M i).then fun rs m=> .ok ((es++[(r,A2,c2)]).map (·.1)++rs) m) fun y j hy=>?_).trans (gate_seq _ _ _ _);rw[hv y j hy,Rz.then_assoc];simp only[List.map_append,List.map_cons,List.map_nil,List.append_assoc,List.singleton_append]
  rfl
 ·cases hq:ruleF l blk d k with
  | bad j dd=>rw[hq] at h0;cases dd <;> cases h0
  | ok y j=>
    have h1:=ruleF_more hB hkn hq;show n<j+M∧k0≤j∧d≤16;omega
end
theorem drules_any (b:Nat) (S:ByteArray) (A:Option Addr) (n c:Nat) (l:List Tok) (blk:Nat→Nat→Rz (List Cm)) (hIn:BlkIn l blk) (k0:Nat) (HB:BlkD b S A n c l blk k0) (d k o:Nat) (w:World) (hk:o=0→k0≤k∧d≤16) (hd:d≤98) (h:DocS b w S A n c l k o):
  Calls Tryz.prog 69 #[.pointer (some ⟨b,0,none⟩),.int .i64 d] w (RusD b w S A n c l (gate o k (rulesF l blk d))):=by
 have H:=Lib.hid (Cy.start h);have hlt:=h.lt;by_cases h16:isO l 4 [123] k o=true∧d=16
 ·obtain⟨hi,rfl⟩:=h16
  have KI:=isC b S A n c l 4 (by decide) ⟨#[123]⟩ k o hi;obtain⟨rfl,hi2⟩:=isO_lt (by decide) hi
  have eR:gate 0 k (rulesF l blk 16)= .bad k true:=by
   rw[gate_ok];unfold rulesF braceF;rw[if_pos ⟨rfl,hi2⟩];rfl
  rw[eR];have KR:=faiC (z:=8) b S A n c l k 8 k 0 (.inr rfl) h.le rfl (if_pos rfl) (if_pos rfl);unfold RusD
  suffices hs:Calls Tryz.prog 69 #[.pointer (some ⟨b,0,none⟩),.int .i64 16] w fun e w'=>e= .returned (.slice none 0 0)∧StepD b w S A n c l k 8 w' from
   hs.mono fun e w' ⟨h1,h2⟩=>⟨none,[],0,h1,h2,fun y j hy=>(by cases hy),fun h0=>(by cases h0)⟩
  clear hk hd h HB eR hi hi2 hIn;go_enter Tryz.func69,Tryz.ntmps69;go_wp2_with (first | (go_at_call 41;go_must (((with_reducible refine(KI.out _ H.out.rd).mono ?_));rintro e w1 ⟨rfl,hb1⟩;have HC:=Lib.hid (H.out.below hb1);have x2:=HC.out.rd.at0;clear hb1)) | (go_at_call 25;go_must (((with_reducible refine(KR.out _ HC.out.rd).mono ?_));rintro e w2 ⟨rfl,hs2⟩;have HD:=Lib.hid (HC.out.call hs2);clear hs2)));go_ret;exact⟨rfl,HD.out.step⟩
 ·have hn:=h.few
  have hlen:=h.len
  have hz:(gate o k (braceF l d)).err=0→k0≤(gate o k (braceF l d)).at∧d+1≤16:=fun he=>by
   obtain⟨ho,u,hu⟩:=gate_zero h.oks he;have h1:=braceF_ok hu;have h2:=hk ho;omega
  obtain⟨R,hR⟩:∃ R,R=gate o k (rulesF l blk d):=⟨_,rfl⟩;rw[←hR]
  have hR2:R=gate (gate o k (braceF l d)).err (gate o k (braceF l d)).at (rulesL l blk (d+1) (l.length+1)):=by
   rw[hR,show gate o k (rulesF l blk d)=gate o k (fun k=>(braceF l d k).then fun _ i=>rulesL l blk (d+1) (l.length+1) i) from rfl,gate_seq];exact then_known fun _ _ _=>rfl
  clear hR;have KI:∃ v,Hid (v=true→¬ (16:Int)≤d)∧IsC b S A n c l 4 ⟨#[123]⟩ k o v:=⟨_,Lib.hid fun hv hd16=>h16 ⟨hv,by have:=(hk (isO_lt (by decide) hv).1).2;omega⟩,isC b S A n c l 4 (by decide) ⟨#[123]⟩ k o rfl⟩;obtain⟨v,HV,KI⟩:=KI;have K1:=neeC b S A n c l 4 (by decide) ⟨#[123]⟩ k o (k2:=(gate o k (braceF l d)).at) (o2:=(gate o k (braceF l d)).err) (by rw[brace_need h16]) (by rw[brace_need h16]);generalize gate o k (braceF l d)=R0 at K1 hz hR2;obtain⟨i1,hi1⟩:∃ i,i=R0.at:=⟨_,rfl⟩;obtain⟨o1,ho1⟩:∃ i,i=R0.err:=⟨_,rfl⟩;rw[←hi1,←ho1] at K1 hR2;rw[←hi1,←ho1] at hz
  have HF0:Hid (∀ w1,Cy b w w1 S A n c l i1 o1 []→RuK b w S A n c l blk k0 (d+1) R (n+1) (.slice none 0 0) w1 [] i1 o1):=Lib.hid fun w1 hc=>by
   refine⟨⟨hc,World.ownsRow_nil _ _ _ _,by simp⟩,?_,fun h0=>by have:=hz h0;omega,by simp⟩;rw[hR2,if_pos rfl,hlen.1]
   cases gate o1 i1 (rulesL l blk (d+1) (l.length+1)) <;> rfl
  have KM:Hid (∀ k',k0≤k'→d+1≤16→k'<n→RuD b S A n c l ((d:Int)+1) k' (ruleF l blk (d+1) k')):=Lib.hid fun k' h1 h2 h3=>ruD b S A n c l blk k0 HB (d+1) k' ⟨h1,h2⟩ (by omega) (by omega) (by omega) rfl
  have KN:Hid (∀ k' o' k2 o2,(gate o' k' (needF l 4 [125])).at=k2→(gate o' k' (needF l 4 [125])).err=o2→NeeC b S A n c l 4 ⟨#[125]⟩ k' o' k2 o2):=Lib.hid fun k' o' k2 o2 h1 h2=>neeC b S A n c l 4 (by decide) ⟨#[125]⟩ k' o' h1 h2
  have KQ:Hid (∀ k' v,isT l 4 [125] k'=v→IsC b S A n c l 4 ⟨#[125]⟩ k' 0 v):=Lib.hid fun k' v hv=>isC b S A n c l 4 (by decide) ⟨#[125]⟩ k' 0 hv
  have KFA:Hid (∀ k',k'≤n→FaiC b S A n c l k' 1 k' 0 k' 1):=Lib.hid fun k' hk'=>faiC (z:=1) b S A n c l k' 1 k' 0 (.inl rfl) hk' rfl (if_pos rfl) (if_pos rfl)
  have HI:=Lib.hid hIn;obtain⟨i0,hi0,hz0,hz1,hz2⟩:=info_parts infoU;have hn2:n≤1000000:=by omega
  clear hz hk h HB hIn hR2 h16 hi1 ho1 hlen;have loop:∀ w1,Cy b w w1 S A n c l i1 o1 []→True:=fun _ _=>trivial
  clear loop
  cases v with
  | true=>
    have h16:=HV.out rfl;clear HV;go_enter Tryz.func69,Tryz.ntmps69;go_wp2_with (first | (go_at_call 41;go_must (((with_reducible refine(KI.out _ H.out.rd).mono ?_));rintro e w0 ⟨rfl,hb0⟩;have H0:=Lib.hid (H.out.below hb0);clear hb0)) | (go_at_call 93;((with_reducible refine(K1.out _ H0.out.rd).mono ?_);rintro e w1 ⟨rfl,hs1⟩;have HF:=Lib.hid (HF0.out _ (H0.out.call hs1));clear hs1)))
    go_loopg [5] (n+1) (fun M v wr=>∃ (es:List XU) (k' o' M':Nat),Hid (M=M')∧Hid (RuK b w S A n c l blk k0 (d+1) R M' v wr es k' o'))
    case atStart=>exact⟨_,_,_,_,Lib.hid rfl,HF⟩
    case round=>
     obtain⟨es,k',o',M',HMM,HJ⟩:=hrel;obtain⟨Av,cv,rfl,_⟩:=rowU_ownD HJ.out.row;rw[List.length_map] at HJ ⊢;have hel:es.length≤4001:=by have:=HJ.out.len;omega
     have HEL:=Lib.hid hel;have hble:=HJ.out.row.cx.lt;obtain⟨d1,d4⟩:=HJ.out.row.cx.rd.c14;by_cases o0:o'=0
     ·subst o0
      have hf:=HJ.out.fuel rfl;have d2:=HJ.out.row.cx.rd.at0;have hk'n:=HJ.out.row.cx.rd.le;obtain⟨M2,rfl⟩:∃ M2,M'=M2+1:=⟨M' - 1,by omega⟩;by_cases e0:es=[]
      ·subst e0
       rw[show ([]:List XU).length=0 from rfl] at HJ ⊢;clear hel;by_cases hkn:k'<n
       ·have K3:=KM.out k' hf.2.1 hf.2.2 hkn
        have hkI:¬ n≤k':=by omega
        clear hf;go_wp2;go_quiet (fail);have HJ4:=Lib.hid (HJ.out.step (below_drewN (Below.refl _ _) nq));go_wp2_with (first | (go_at_call 95;go_must (((with_reducible refine(K3.out _ HJ4.out.row.cx.rd).mono ?_));rintro e w4 ⟨r2,A4,c4,rfl,hs4,hv4,hk4⟩;have HRW:=Lib.hid ((HJ4.out.row.call monoU hs4 fun _=>rfl).box monoU (.cells #[.int .i64 r2.kind,.int .i64 r2.peer,.int .i64 r2.pk,.string ⟨r2.pt.toArray⟩,.slice A4 r2.body.length c4,.int .i64 r2.pl] 90));have HS4:=Lib.hid hs4;have HV4:=Lib.hid hv4;have HK4:=Lib.hid hk4;clear hs4 hv4 hk4)) | (at_builtin;refine wpList_append_lies _ rfl (.tmp 51) (.tmp 56) 65 rfl w.heap.size 90 i0 (.agg #[.int .i64 0,.int .i64 0,.int .i64 0,.string ⟨#[]⟩,.slice none 0 0,.int .i64 0]) 6 72 Tryz.underlying65 hi0 hz0 hz1 hz2 rfl (by decide) _ 0 (([]:List XU).flatMap cfU) rfl HRW.out.row ⟨w4.heap.size,0,none⟩ 1 1 [.int .i64 r2.kind,.int .i64 r2.peer,.int .i64 r2.pk,.string ⟨r2.pt.toArray⟩,.slice A4 r2.body.length c4,.int .i64 r2.pl] rfl rfl (fun j u hu=>new_cells w4 90 #[.int .i64 r2.kind,.int .i64 r2.peer,.int .i64 r2.pk,.string ⟨r2.pt.toArray⟩,.slice A4 r2.body.length c4,.int .i64 r2.pl] j u hu) (oneU (r2,A4,c4)) (by decide) (by have:=HEL.out;unfold maxLen;omega) (by have:=HEL.out;omega) HRW.out.cx.gr.size (w4.heap.size+1) (by simp) ?_;intro g cap w5 ho hg hvg hgl;have HN:=Lib.hid (HJ4.out.more HI.out (.inl rfl) HS4.out HV4.out HK4.out ho _ hg hvg);clear ho hg hvg hgl))
        go_roundg M2
        case measure=>rw[HMM.out];exact Nat.lt_succ_self _
        case rel=>exact⟨_,_,_,_,Lib.hid rfl,HN⟩
       ·have K3:=KFA.out k' hk'n
        have hkI:n≤k':=by omega
        have HKN:=Lib.hid hkn;clear hf;go_wp2;go_quiet (fail);go_wp2_with (go_at_call 25;go_must (((with_reducible refine(K3.out _ (HJ.out.row.cx.drews nq).rd).mono ?_));rintro e w3 ⟨rfl,hs3⟩;have HS3:=Lib.hid hs3;clear hs3));go_ret;exact(HJ.out.step (below_drewN (Below.refl _ _) nq)).over (.inl rfl) HKN.out HS3.out
      ·have hl0:¬ es.length=0:=fun e=>e0 (List.eq_nil_of_length_eq_zero e)
       obtain⟨b1,b2,b3,b4⟩:=neq0_f hl0;have HE0:=Lib.hid e0
       cases hv:isT l 4 [125] k' with
       | true=>
         have KT:=KQ.out k' _ hv;have K3:=KN.out k' 0 (k'+1) 0 (by rw[gate_ok];unfold needF;rw[if_pos hv];rfl) (by rw[gate_ok];unfold needF;rw[if_pos hv];rfl);have HV2:=Lib.hid hv;clear hv hf e0 hl0 hel;go_wp2_with (first | (go_at_call 41;go_must (((with_reducible refine(KT.out _ HJ.out.row.cx.rd).mono ?_));rintro e w3 ⟨rfl,hb3⟩;have HJ3:=Lib.hid (HJ.out.step hb3);clear hb3)) | (go_at_call 93;go_must (((with_reducible refine(K3.out _ HJ3.out.row.cx.rd).mono ?_));rintro e w4 ⟨rfl,hs4⟩;have HS4:=Lib.hid hs4;clear hs4)));go_ret;exact HJ3.out.shut HE0.out HV2.out HS4.out
       | false=>
         have KT:=KQ.out k' _ hv;have HV2:=Lib.hid hv;clear hv e0 hl0 hel;by_cases hkn:k'<n
         ·have K3:=KM.out k' hf.2.1 hf.2.2 hkn
          have hkI:¬ n≤k':=by omega
          clear hf;go_wp2_with (go_at_call 41;go_must (((with_reducible refine(KT.out _ HJ.out.row.cx.rd).mono ?_));rintro e w3 ⟨rfl,hb3⟩;have HJ3:=Lib.hid (HJ.out.step hb3);clear hb3 d1 d2 d4;obtain⟨d1,d2,d4,_⟩:=HJ3.out.row.cx.rd.four0;have hb9:=World.block_lt_of_cell? _ _ d1));go_quiet (fail);have HJ4:=Lib.hid (HJ3.out.step (below_drewN (Below.refl _ _) nq));go_wp2_with (first | (go_at_call 95;go_must (((with_reducible refine(K3.out _ HJ4.out.row.cx.rd).mono ?_));rintro e w4 ⟨r2,A4,c4,rfl,hs4,hv4,hk4⟩;have HRW:=Lib.hid ((HJ4.out.row.call monoU hs4 fun _=>rfl).box monoU (.cells #[.int .i64 r2.kind,.int .i64 r2.peer,.int .i64 r2.pk,.string ⟨r2.pt.toArray⟩,.slice A4 r2.body.length c4,.int .i64 r2.pl] 90));have HS4:=Lib.hid hs4;have HV4:=Lib.hid hv4;have HK4:=Lib.hid hk4;clear hs4 hv4 hk4)) | (at_builtin;refine wpList_append_lies _ rfl (.tmp 51) (.tmp 56) 65 rfl w.heap.size 90 i0 (.agg #[.int .i64 0,.int .i64 0,.int .i64 0,.string ⟨#[]⟩,.slice none 0 0,.int .i64 0]) 6 72 Tryz.underlying65 hi0 hz0 hz1 hz2 rfl (by decide) _ es.length (es.flatMap cfU) rfl HRW.out.row ⟨w4.heap.size,0,none⟩ 1 1 [.int .i64 r2.kind,.int .i64 r2.peer,.int .i64 r2.pk,.string ⟨r2.pt.toArray⟩,.slice A4 r2.body.length c4,.int .i64 r2.pl] rfl rfl (fun j u hu=>new_cells w4 90 #[.int .i64 r2.kind,.int .i64 r2.peer,.int .i64 r2.pk,.string ⟨r2.pt.toArray⟩,.slice A4 r2.body.length c4,.int .i64 r2.pl] j u hu) (oneU (r2,A4,c4)) (by decide) (by have:=HEL.out;unfold maxLen;omega) (by have:=HEL.out;omega) HRW.out.cx.gr.size (w4.heap.size+1) (by simp) ?_;intro g cap w5 ho hg hvg hgl;have HN:=Lib.hid (HJ4.out.more HI.out (.inr HV2.out) HS4.out HV4.out HK4.out ho _ hg hvg);clear ho hg hvg hgl))
          go_roundg M2
          case measure=>rw[HMM.out];exact Nat.lt_succ_self _
          case rel=>exact⟨_,_,_,_,Lib.hid rfl,HN⟩
         ·have K3:=KFA.out k' hk'n
          have hkI:n≤k':=by omega
          have HKN:=Lib.hid hkn;clear hf;go_wp2_with (go_at_call 41;go_must (((with_reducible refine(KT.out _ HJ.out.row.cx.rd).mono ?_));rintro e w3 ⟨rfl,hb3⟩;have HJ3:=Lib.hid (HJ.out.step hb3);clear hb3 d1 d2 d4;obtain⟨d1,d2,d4,_⟩:=HJ3.out.row.cx.rd.four0;have hb9:=World.block_lt_of_cell? _ _ d1));go_quiet (fail);go_wp2_with (go_at_call 25;go_must (((with_reducible refine(K3.out _ (HJ3.out.row.cx.drews nq).rd).mono ?_));rintro e w4 ⟨rfl,hs4⟩;have HS4:=Lib.hid hs4;clear hs4));go_ret;exact(HJ3.out.step (below_drewN (Below.refl _ _) nq)).over (.inr HV2.out) HKN.out HS4.out
     ·obtain⟨b1,b2,b3,b4⟩:=neq0_f o0
      have hoks:=HJ.out.row.cx.rd.oks;have e9:=gate_err (α:=Unit) (o:=o') (k:=k') (F:=needF l 4 [125]) (by omega);have K3:=KN.out k' o' k' o' e9.2 e9.1;have O0:=Lib.hid o0;clear o0 hoks e9 hel;go_wp2_with (go_at_call 93;go_must (((with_reducible refine(K3.out _ HJ.out.row.cx.rd).mono ?_));rintro e w4 ⟨rfl,hs4⟩;have HS4:=Lib.hid hs4;clear hs4));go_ret;exact HJ.out.stop O0.out HS4.out
  | false=>
    clear HV;go_enter Tryz.func69,Tryz.ntmps69;go_wp2_with (first | (go_at_call 41;go_must (((with_reducible refine(KI.out _ H.out.rd).mono ?_));rintro e w0 ⟨rfl,hb0⟩;have H0:=Lib.hid (H.out.below hb0);clear hb0)) | (go_at_call 93;((with_reducible refine(K1.out _ H0.out.rd).mono ?_);rintro e w1 ⟨rfl,hs1⟩;have HF:=Lib.hid (HF0.out _ (H0.out.call hs1));clear hs1)))
    go_loopg [5] (n+1) (fun M v wr=>∃ (es:List XU) (k' o' M':Nat),Hid (M=M')∧Hid (RuK b w S A n c l blk k0 (d+1) R M' v wr es k' o'))
    case atStart=>exact⟨_,_,_,_,Lib.hid rfl,HF⟩
    case round=>
     obtain⟨es,k',o',M',HMM,HJ⟩:=hrel;obtain⟨Av,cv,rfl,_⟩:=rowU_ownD HJ.out.row;rw[List.length_map] at HJ ⊢;have hel:es.length≤4001:=by have:=HJ.out.len;omega
     have HEL:=Lib.hid hel;have hble:=HJ.out.row.cx.lt;obtain⟨d1,d4⟩:=HJ.out.row.cx.rd.c14;by_cases o0:o'=0
     ·subst o0
      have hf:=HJ.out.fuel rfl;have d2:=HJ.out.row.cx.rd.at0;have hk'n:=HJ.out.row.cx.rd.le;obtain⟨M2,rfl⟩:∃ M2,M'=M2+1:=⟨M' - 1,by omega⟩;by_cases e0:es=[]
      ·subst e0
       rw[show ([]:List XU).length=0 from rfl] at HJ ⊢;clear hel;by_cases hkn:k'<n
       ·have K3:=KM.out k' hf.2.1 hf.2.2 hkn
        have hkI:¬ n≤k':=by omega
        clear hf;go_wp2;go_quiet (fail);have HJ4:=Lib.hid (HJ.out.step (below_drewN (Below.refl _ _) nq));go_wp2_with (first | (go_at_call 95;go_must (((with_reducible refine(K3.out _ HJ4.out.row.cx.rd).mono ?_));rintro e w4 ⟨r2,A4,c4,rfl,hs4,hv4,hk4⟩;have HRW:=Lib.hid ((HJ4.out.row.call monoU hs4 fun _=>rfl).box monoU (.cells #[.int .i64 r2.kind,.int .i64 r2.peer,.int .i64 r2.pk,.string ⟨r2.pt.toArray⟩,.slice A4 r2.body.length c4,.int .i64 r2.pl] 90));have HS4:=Lib.hid hs4;have HV4:=Lib.hid hv4;have HK4:=Lib.hid hk4;clear hs4 hv4 hk4)) | (at_builtin;refine wpList_append_lies _ rfl (.tmp 51) (.tmp 56) 65 rfl w.heap.size 90 i0 (.agg #[.int .i64 0,.int .i64 0,.int .i64 0,.string ⟨#[]⟩,.slice none 0 0,.int .i64 0]) 6 72 Tryz.underlying65 hi0 hz0 hz1 hz2 rfl (by decide) _ 0 (([]:List XU).flatMap cfU) rfl HRW.out.row ⟨w4.heap.size,0,none⟩ 1 1 [.int .i64 r2.kind,.int .i64 r2.peer,.int .i64 r2.pk,.string ⟨r2.pt.toArray⟩,.slice A4 r2.body.length c4,.int .i64 r2.pl] rfl rfl (fun j u hu=>new_cells w4 90 #[.int .i64 r2.kind,.int .i64 r2.peer,.int .i64 r2.pk,.string ⟨r2.pt.toArray⟩,.slice A4 r2.body.length c4,.int .i64 r2.pl] j u hu) (oneU (r2,A4,c4)) (by decide) (by have:=HEL.out;unfold maxLen;omega) (by have:=HEL.out;omega) HRW.out.cx.gr.size (w4.heap.size+1) (by simp) ?_;intro g cap w5 ho hg hvg hgl;have HN:=Lib.hid (HJ4.out.more HI.out (.inl rfl) HS4.out HV4.out HK4.out ho _ hg hvg);clear ho hg hvg hgl))
        go_roundg M2
        case measure=>rw[HMM.out];exact Nat.lt_succ_self _
        case rel=>exact⟨_,_,_,_,Lib.hid rfl,HN⟩
       ·have K3:=KFA.out k' hk'n
        have hkI:n≤k':=by omega
        have HKN:=Lib.hid hkn;clear hf;go_wp2;go_quiet (fail);go_wp2_with (go_at_call 25;go_must (((with_reducible refine(K3.out _ (HJ.out.row.cx.drews nq).rd).mono ?_));rintro e w3 ⟨rfl,hs3⟩;have HS3:=Lib.hid hs3;clear hs3));go_ret;exact(HJ.out.step (below_drewN (Below.refl _ _) nq)).over (.inl rfl) HKN.out HS3.out
      ·have hl0:¬ es.length=0:=fun e=>e0 (List.eq_nil_of_length_eq_zero e)
       obtain⟨b1,b2,b3,b4⟩:=neq0_f hl0;have HE0:=Lib.hid e0
       cases hv:isT l 4 [125] k' with
       | true=>
         have KT:=KQ.out k' _ hv;have K3:=KN.out k' 0 (k'+1) 0 (by rw[gate_ok];unfold needF;rw[if_pos hv];rfl) (by rw[gate_ok];unfold needF;rw[if_pos hv];rfl);have HV2:=Lib.hid hv;clear hv hf e0 hl0 hel;go_wp2_with (first | (go_at_call 41;go_must (((with_reducible refine(KT.out _ HJ.out.row.cx.rd).mono ?_));rintro e w3 ⟨rfl,hb3⟩;have HJ3:=Lib.hid (HJ.out.step hb3);clear hb3)) | (go_at_call 93;go_must (((with_reducible refine(K3.out _ HJ3.out.row.cx.rd).mono ?_));rintro e w4 ⟨rfl,hs4⟩;have HS4:=Lib.hid hs4;clear hs4)));go_ret;exact HJ3.out.shut HE0.out HV2.out HS4.out
       | false=>
         have KT:=KQ.out k' _ hv;have HV2:=Lib.hid hv;clear hv e0 hl0 hel;by_cases hkn:k'<n
         ·have K3:=KM.out k' hf.2.1 hf.2.2 hkn
          have hkI:¬ n≤k':=by omega
          clear hf;go_wp2_with (go_at_call 41;go_must (((with_reducible refine(KT.out _ HJ.out.row.cx.rd).mono ?_));rintro e w3 ⟨rfl,hb3⟩;have HJ3:=Lib.hid (HJ.out.step hb3);clear hb3 d1 d2 d4;obtain⟨d1,d2,d4,_⟩:=HJ3.out.row.cx.rd.four0;have hb9:=World.block_lt_of_cell? _ _ d1));go_quiet (fail);have HJ4:=Lib.hid (HJ3.out.step (below_drewN (Below.refl _ _) nq));go_wp2_with (first | (go_at_call 95;go_must (((with_reducible refine(K3.out _ HJ4.out.row.cx.rd).mono ?_));rintro e w4 ⟨r2,A4,c4,rfl,hs4,hv4,hk4⟩;have HRW:=Lib.hid ((HJ4.out.row.call monoU hs4 fun _=>rfl).box monoU (.cells #[.int .i64 r2.kind,.int .i64 r2.peer,.int .i64 r2.pk,.string ⟨r2.pt.toArray⟩,.slice A4 r2.body.length c4,.int .i64 r2.pl] 90));have HS4:=Lib.hid hs4;have HV4:=Lib.hid hv4;have HK4:=Lib.hid hk4;clear hs4 hv4 hk4)) | (at_builtin;refine wpList_append_lies _ rfl (.tmp 51) (.tmp 56) 65 rfl w.heap.size 90 i0 (.agg #[.int .i64 0,.int .i64 0,.int .i64 0,.string ⟨#[]⟩,.slice none 0 0,.int .i64 0]) 6 72 Tryz.underlying65 hi0 hz0 hz1 hz2 rfl (by decide) _ es.length (es.flatMap cfU) rfl HRW.out.row ⟨w4.heap.size,0,none⟩ 1 1 [.int .i64 r2.kind,.int .i64 r2.peer,.int .i64 r2.pk,.string ⟨r2.pt.toArray⟩,.slice A4 r2.body.length c4,.int .i64 r2.pl] rfl rfl (fun j u hu=>new_cells w4 90 #[.int .i64 r2.kind,.int .i64 r2.peer,.int .i64 r2.pk,.string ⟨r2.pt.toArray⟩,.slice A4 r2.body.length c4,.int .i64 r2.pl] j u hu) (oneU (r2,A4,c4)) (by decide) (by have:=HEL.out;unfold maxLen;omega) (by have:=HEL.out;omega) HRW.out.cx.gr.size (w4.heap.size+1) (by simp) ?_;intro g cap w5 ho hg hvg hgl;have HN:=Lib.hid (HJ4.out.more HI.out (.inr HV2.out) HS4.out HV4.out HK4.out ho _ hg hvg);clear ho hg hvg hgl))
          go_roundg M2
          case measure=>rw[HMM.out];exact Nat.lt_succ_self _
          case rel=>exact⟨_,_,_,_,Lib.hid rfl,HN⟩
         ·have K3:=KFA.out k' hk'n
          have hkI:n≤k':=by omega
          have HKN:=Lib.hid hkn;clear hf;go_wp2_with (go_at_call 41;go_must (((with_reducible refine(KT.out _ HJ.out.row.cx.rd).mono ?_));rintro e w3 ⟨rfl,hb3⟩;have HJ3:=Lib.hid (HJ.out.step hb3);clear hb3 d1 d2 d4;obtain⟨d1,d2,d4,_⟩:=HJ3.out.row.cx.rd.four0;have hb9:=World.block_lt_of_cell? _ _ d1));go_quiet (fail);go_wp2_with (go_at_call 25;go_must (((with_reducible refine(K3.out _ (HJ3.out.row.cx.drews nq).rd).mono ?_));rintro e w4 ⟨rfl,hs4⟩;have HS4:=Lib.hid hs4;clear hs4));go_ret;exact(HJ3.out.step (below_drewN (Below.refl _ _) nq)).over (.inr HV2.out) HKN.out HS4.out
     ·obtain⟨b1,b2,b3,b4⟩:=neq0_f o0
      have hoks:=HJ.out.row.cx.rd.oks;have e9:=gate_err (α:=Unit) (o:=o') (k:=k') (F:=needF l 4 [125]) (by omega);have K3:=KN.out k' o' k' o' e9.2 e9.1;have O0:=Lib.hid o0;clear o0 hoks e9 hel;go_wp2_with (go_at_call 93;go_must (((with_reducible refine(K3.out _ HJ.out.row.cx.rd).mono ?_));rintro e w4 ⟨rfl,hs4⟩;have HS4:=Lib.hid hs4;clear hs4));go_ret;exact HJ.out.stop O0.out HS4.out
end
def wdS (j:Nat):ByteArray:=⟨(wordsC.getD j []).toArray⟩
abbrev wdL:List Value:=[.string ⟨#[115,101,116]⟩,.string ⟨#[108,101,116]⟩,.string ⟨#[105,110,99,114]⟩,.string ⟨#[105,102]⟩,.string ⟨#[119,104,105,108,101]⟩,.string ⟨#[112,114,111,99]⟩,.string ⟨#[99,97,108,108]⟩,.string ⟨#[115,112,97,119,110]⟩,.string ⟨#[117,115,101]⟩,.string ⟨#[115,101,110,100]⟩,.string ⟨#[116,105,109,101,111,117,116]⟩,.string ⟨#[101,120,112,101,99,116]⟩,.string ⟨#[101,120,112,101,99,116,95,98,101,102,111,114,101]⟩,.string ⟨#[101,120,112,101,99,116,95,97,102,116,101,114]⟩,.string ⟨#[101,120,112,95,99,111,110,116,105,110,117,101]⟩,.string ⟨#[101,120,105,116]⟩]
theorem wdS_at {j:Nat} (h:j<16):wdL[j]?=some (.string (wdS j)):=by
 obtain rfl | rfl | rfl | rfl | rfl | rfl | rfl | rfl | rfl | rfl | rfl | rfl | rfl | rfl | rfl | rfl:j=0∨j=1∨j=2∨j=3∨j=4∨j=5∨j=6∨j=7∨j=8∨j=9∨j=10∨j=11∨j=12∨j=13∨j=14∨j=15:=by omega
 all_goals rfl
theorem dwords_any (w:World):Calls Tryz.prog 64 #[] w fun e w'=>e= .returned (.slice (some ⟨w.heap.size,0,none⟩) 16 16)∧w.alloc (.cells wdL.toArray 9)=w':=by
 go_enter Tryz.func64,Tryz.ntmps64;go_wp2;go_ret;exact⟨rfl,rfl⟩
def CmdD (b:Nat) (w:World) (S:ByteArray) (A:Option Addr) (n c:Nat) (l:List Tok) (R:Rz Cm) (e:Ending) (w':World):Prop:=
 ∃ (x:Cm) (lk:Lk),e= .returned (valC x lk)∧StepD b w S A n c l R.at R.err w'∧(∀ y j,R= .ok y j→y=x)∧(R.err=0→KidC (NwX b w.heap.size w'.heap.size) w' lk x)
abbrev RusDC (b:Nat) (S:ByteArray) (A:Option Addr) (n c:Nat) (l:List Tok) (d k o:Nat) (R:Rz (List Ru)):Prop:=Hid (∀ w',DocS b w' S A n c l k o→Calls Tryz.prog 69 #[.pointer (some ⟨b,0,none⟩),.int .i64 d] w' fun e w2=>
 ∃ (A':Option Addr) (us:List Ru) (c':Nat),e= .returned (.slice A' us.length c')∧StepD b w' S A n c l R.at R.err w2∧(∀ y j,R= .ok y j→y=us)∧(R.err=0→RowU (NwX b w'.heap.size w2.heap.size) w2 A' us))
end Go.Proofs.YtfgcdppebeojbaaGreatDoor
