import Derived.Test.YtdobinjbejagcaaGreatDoorPq6
namespace Go.Proofs.YtdobinjbejagcaaGreatDoor
open Go Go.RowKit
set_option maxRecDepth 100000
set_option maxHeartbeats 20000000
theorem pparse_long (S:ByteArray) (w:World) (hs:1000<S.size):Calls Tryz.prog 14 #[.string S] w (PostPe w (parsePe S.data.toList)):=by
 have e:parsePe S.data.toList=(none,1000,2):=if_pos (by rw[len_data];exact hs);rw[e];have hs2:(1000:Int)<S.size:=by omega
 clear e;go_enter Tryz.func14,Tryz.ntmps14;go_wp2;refine bodyPost_ret (v:= .tuple #[.agg #[.int .i64 0,.slice none 0 0],.int .i64 1000,.int .i64 2]) (by simp[results,Tryz.results14,go_sem]) rfl ⟨none,0,0,rfl,⟨rfl,fun h=>by omega⟩,?_⟩
 first | exact one_boxP w _ | exact(one_boxP w _).setCell (by simp) _ | go_outline
theorem pparse_noscan (S:ByteArray) (w:World) (hs:S.size≤1000) (p:Nat) (e:Int) (h:scan S.data.toList=(none,p,e)) (he:e=1∨e=2∨e=3):Calls Tryz.prog 14 #[.string S] w (PostPe w (parsePe S.data.toList)):=by
 have e1:parsePe S.data.toList=(none,(p:Int),e):=by unfold parsePe;rw[if_neg (by rw[len_data];omega),h]
 rw[e1];obtain⟨W0,hW0⟩:∃ W0,W0=w.alloc (.cells #[.int .i64 0,.slice none 0 0] 24):=⟨_,rfl⟩;have KS:=Lib.hid (rscan_any S (by omega) W0);rw[h] at KS;unfold PostT at KS;have HB0:Hid (Below w.heap.size w W0):=Lib.hid (by rw[hW0];exact one_boxP w _);have HBX:Hid (BoxP W0 w.heap.size zeroPe):=Lib.hid (by rw[hW0];exact BoxP.new w 24 zeroPe);have b1:(e != 0)=true:=by rcases he with rfl | rfl | rfl <;> rfl
 have hs2:¬ (1000:Int)<S.size:=by omega
 clear e1 h he;go_enter Tryz.func14,Tryz.ntmps14
 go_upto_region 1 with fail
 rw[←hW0];clear hW0;go_wp2_with (go_at_call 31;go_must (((with_reducible refine(KS.out).mono ?_));rintro e w1 ⟨v,qt,rfl,ht,hm⟩;have HB1:=Lib.hid ht.below;have HX1:=Lib.hid (HBX.out.low (by simp) ht.below);obtain⟨x0,x1⟩:=HX1.out.all2;obtain⟨f0,f1⟩:=HX1.out.fre2;clear ht hm));have HX2:=HX1.out;obtain⟨W2,hW2⟩:∃ W2,W2=(w1.setCell ⟨w.heap.size,0,none⟩ (.int .i64 0)).setCell ⟨w.heap.size,1,none⟩ (.slice none 0 0):=⟨_,rfl⟩;have HX3:BoxP W2 w.heap.size zeroPe:=by rw[hW2];exact(HX2.set 0 (by simp) (.int .i64 0)).set 1 (by simp) (.slice none 0 0)
 obtain⟨l0,l1⟩:=HX3.all2;rw[←hW2];refine bodyPost_ret (v:= .tuple #[.agg #[.int .i64 0,.slice none 0 0],.int .i64 p,.int .i64 e]) (by simp[results,Tryz.results14,go_sem,l0,l1]) rfl ⟨none,0,0,rfl,⟨rfl,fun h=>by omega⟩,?_⟩;rw[hW2];exact((HB0.out.trans (HB1.out.mono HB0.out.size)).setCell (by simp) _).setCell (by simp) _
theorem pparse_scan (S:ByteArray) (w:World) (hs:S.size≤1000) (l:List Tok) (h:scan S.data.toList=(some l,0,0)) (hf:FitP l) (hl:l.length≤1000) (KL:∀ A n c,LinkC S A n c l):Calls Tryz.prog 14 #[.string S] w (PostPe w (outPe S.size l)):=by
 obtain⟨W0,hW0⟩:∃ W0,W0=w.alloc (.cells #[.int .i64 0,.slice none 0 0] 24):=⟨_,rfl⟩;have KS:=Lib.hid (rscan_any S (by omega) W0);rw[h] at KS;unfold PostT at KS;have HB0:Hid (Below w.heap.size w W0):=Lib.hid (by rw[hW0];exact one_boxP w _);have HBX:Hid (BoxP W0 w.heap.size zeroPe):=Lib.hid (by rw[hW0];exact BoxP.new w 24 zeroPe);have HSZ:Hid (W0.heap.size=w.heap.size+1):=Lib.hid (by rw[hW0];simp);have hs2:¬ (1000:Int)<S.size:=by omega
 have HF:=Lib.hid hf;have HL:=Lib.hid hl;have HS:=Lib.hid hs;obtain⟨RR,hRR⟩:∃ RR,RR=outPe S.size l:=⟨_,rfl⟩;rw[←hRR];have HRR:=Lib.hid hRR;clear hRR h hf hl hs;go_enter Tryz.func14,Tryz.ntmps14
 go_upto_region 1 with fail
 rw[←hW0];clear hW0
 go_upto_region 8 with (go_at_call 31;go_must (((with_reducible refine(KS.out).mono ?_));rintro e w1 ⟨v,qt,rfl,ht,hm⟩;obtain⟨A,c,rfl,hr⟩:=rdt_of_own ht;have HT:=Lib.hid ht.below;have HR:=Lib.hid hr;have HM:=Lib.hid hm;clear ht hm hr))
 obtain⟨n,hn⟩:∃ n,n=qt.length:=⟨_,rfl⟩;rw[←hn] at HR ⊢;have HM2:Hid (qt.map (·.1)=l):=HM;have hnl:n=l.length:=by rw[←HM2.out,List.length_map,hn]
 have HRD:Hid (RdT w1.heap.size w1 A n l):=Lib.hid (by have:=HR.out;rw[HM2.out] at this;exact this);have hn4:n≤1000:=by rw[hnl];exact HL.out
 have HNL:=Lib.hid hnl;clear hn HR HM HM2 hnl KS;obtain⟨b,hb⟩:∃ b,b=w1.heap.size:=⟨_,rfl⟩;obtain⟨pb,hpb⟩:∃ pb,pb=w1.heap.size+1:=⟨_,rfl⟩;obtain⟨W3,hW3⟩:∃ W3,W3=(w1.alloc (.cells #[.string S,.slice A n c,.int .i64 0,.int .i64 0,.int .i64 0,.int .i64 0,.int .i64 0,.slice none 0 0,.slice none 0 0] 70)).alloc (.cells #[.int .i64 0,.slice none 0 0] 24):=⟨_,rfl⟩
 have HPA:Hid (PaP W0 b pb W3 S A n c l 0 0 [] [] 0 (.slice none 0 0) (.slice none 0 0) 0 (.slice none 0 0) []):=Lib.hid (by
  have hd:=docp_new (S:=S) (c:=c) HRD.out HF.out (by omega) 70;rw[hW3,hb,hpb];have hw1:=one_boxP w1 (.cells #[.string S,.slice A n c,.int .i64 0,.int .i64 0,.int .i64 0,.int .i64 0,.int .i64 0,.slice none 0 0,.slice none 0 0] 70);have hsz:(w1.alloc (.cells #[.string S,.slice A n c,.int .i64 0,.int .i64 0,.int .i64 0,.int .i64 0,.int .i64 0,.slice none 0 0,.slice none 0 0] 70)).heap.size=w1.heap.size+1:=by simp
  refine⟨hd.low (one_boxP _ _),(HT.out.alloc HT.out.size _).alloc (by rw[hsz];exact Nat.le_succ_of_le HT.out.size) _,HT.out.size,Nat.lt_succ_self _,?_,⟨by simp[Value.ownBlock],by simp[Value.ownBlock]⟩,OwnXs.nil _ _⟩;rw[←hsz];exact BoxP.new _ 24 zeroPe)
 rw[←hpb,←hb,←hW3];have HBX1:=Lib.hid (HBX.out.low (by simp) HT.out);have HRB:Hid (w.heap.size<b):=Lib.hid (by have:=HT.out.size;have:=HSZ.out;omega);clear hb hpb hW3 HRD HT HBX1;obtain⟨R1,hR1⟩:∃ R1,gateR 0 0 (needP l 1 wCap 0)=R1:=⟨_,rfl⟩
 have K1:NeeP b S A n c l 1 ⟨#[99,97,112]⟩ 0 0 R1.at R1.err [] [] 0 (.slice none 0 0) (.slice none 0 0):=by
  rw[←hR1];exact neeP b S A n c l 1 (by decide) ⟨#[99,97,112]⟩ 0 0 [] [] 0 _ _ (.inl rfl)
 obtain⟨R2,hR2⟩:∃ R2,gateR R1.err R1.at (takeP l 2 R1.at)=R2:=⟨_,rfl⟩;have K2:=takP b S A n c l 2 (by decide) R1.at R1.err [] [] 0 (.slice none 0 0) (.slice none 0 0) hR2;have HR1:=Lib.hid hR1;have HR2:=Lib.hid hR2;clear hR1 hR2;unfold TakP at K2
 go_upto_region 10 with (first
  | (go_at_call 32;go_must (((with_reducible refine(K1.out _ HPA.out.rd).mono ?_));rintro e w2 ⟨rfl,hs⟩;have HP1:=Lib.hid (HPA.out.step hs);clear hs))
  | (go_at_call 33;go_must (((with_reducible refine(K2.out _ HP1.out.rd).mono ?_));rintro e w3 ⟨t,A3,c3,u,rfl,hs,ht1,ht2⟩;have HP2:=Lib.hid (HP1.out.step hs);have HT1:=Lib.hid ht1;have HT2:=Lib.hid ht2;clear hs ht1 ht2)))
 obtain⟨W4,hW4⟩:∃ W4,W4=w3.alloc (.cells #[.int .i64 t.kind,.string ⟨t.word.toArray⟩,.int .i64 t.n,.slice A3 t.parts.length c3,.int .i64 t.pl] 48):=⟨_,rfl⟩;have HP3:Hid (PaP W0 b pb W4 S A n c l R2.at R2.err [] [] 0 (.slice none 0 0) (.slice none 0 0) 0 (.slice none 0 0) []):=Lib.hid (by rw[hW4];exact HP2.out.alloc _);have HB4:Hid (BoxP W4 w3.heap.size [.int .i64 t.kind,.string ⟨t.word.toArray⟩,.int .i64 t.n,.slice A3 t.parts.length c3,.int .i64 t.pl]):=Lib.hid (by rw[hW4];exact BoxP.new w3 48 [.int .i64 t.kind,.string ⟨t.word.toArray⟩,.int .i64 t.n,.slice A3 t.parts.length c3,.int .i64 t.pl]);rw[←hW4];have htb:b≠w3.heap.size:=by have:=HP2.out.rd.lt;omega
 obtain⟨tb,htb2⟩:∃ tb,tb=w3.heap.size:=⟨_,rfl⟩;rw[←htb2] at HB4 htb ⊢;have HTB:=Lib.hid htb;obtain⟨cap,hcap⟩:∃ cap,cap=t.n:=⟨_,rfl⟩;have HRX:Hid (RrX S.size l RR cap [] 0 R2.at R2.err (if R2.err=0∧(cap<1∨16<cap) then [(R1.at,2)] else []) [] 0 (restX l cap (l.length+1) [] 0 R2.at)):=Lib.hid (by rw[HRR.out,hcap];exact start_rr S.size l t HR1.out HR2.out fun y j s g hy=>(HT1.out y j s g hy).1)
 have HUU:Hid (R2.err=0→u=R1.at∧u<n):=Lib.hid (by
  intro h0
  cases hq:R2 with
  | bad j=>rw[hq] at h0;cases h0
  | ok y j s g=>
    have h1:=HT1.out y j s g hq;have h2:=HR2.out;rw[hq] at h2;obtain⟨e1,e2⟩:=gate_at (P:=takeP l 2 R1.at) (o:=R1.err) (k:=R1.at) (by rw[h2];rfl);rw[e2] at h2;obtain⟨-, -, -,h3,h4⟩:=take_ok h2;rw[h3] at h4;have:=nxp_lt (l:=l) (k:=R1.at) (by rw[h4];decide);rw[HNL.out];exact⟨h1.2,by rw[h1.2];exact this⟩)
 rw[←hcap] at HB4 ⊢;generalize t.kind=tk0 at HB4 ⊢;generalize (⟨t.word.toArray⟩:ByteArray)=tk1 at HB4 ⊢;generalize t.parts.length=tk2 at HB4 ⊢;generalize t.pl=tk3 at HB4 ⊢;obtain⟨k,hk⟩:∃ k,k=R2.at:=⟨_,rfl⟩;obtain⟨o,ho⟩:∃ o,o=R2.err:=⟨_,rfl⟩;rw[←hk,←ho] at HP3 HRX;rw[←ho] at HUU;obtain⟨r1,hr1⟩:∃ r1,r1=R1.at:=⟨_,rfl⟩;rw[←hr1] at HRX HUU;have KSO:SofP b S A n c l u 2 k o [] [] 0 (.slice none 0 0) (.slice none 0 0):=sofP b S A n c l u 2 (by decide) k o (fun h0=>(HUU.out h0).2) [] [] 0 _ _;clear hW4 htb htb2 hcap hk ho hr1 HT1 HT2 HR1 HR2 HP1 HP2 HPA K1 K2 HRR;obtain⟨tb1,htb1⟩:∃ tb1,tb1=decide (o=0∧(cap<1∨16<cap)):=⟨_,rfl⟩;have HTB1:=Lib.hid htb1;clear htb1
 go_cut [58] from 37 to 208 (fun t58 wx=>t58= .bool tb1∧Hid (PaP W0 b pb wx S A n c l k o [] [] 0 (.slice none 0 0) (.slice none 0 0) 0 (.slice none 0 0) [])∧Hid (BoxP wx tb [.int .i64 tk0,.string tk1,.int .i64 cap,.slice A3 tk2 c3,.int .i64 tk3]))
 case first=>
  as_aux_lemma=>
   obtain⟨x0,x1,x2,x3,x4⟩:=HB4.out.all5;have c4:=HP3.out.rd.c4;by_cases h0:o=0
   ·subst h0
    by_cases h1:cap<1
    ·have HV:Hid (tb1=true):=Lib.hid (by rw[HTB1.out];exact decide_eq_true ⟨rfl,.inl h1⟩)
     go_wp2
     go_meet
     exact⟨by rw[HV.out],HP3,HB4⟩
    ·by_cases h2:16<cap
     ·have HV:Hid (tb1=true):=Lib.hid (by rw[HTB1.out];exact decide_eq_true ⟨rfl,.inr h2⟩)
      go_wp2
      go_meet
      exact⟨by rw[HV.out],HP3,HB4⟩
     ·have HV:Hid (tb1=false):=Lib.hid (by rw[HTB1.out];exact decide_eq_false (by omega))
      go_wp2
      go_meet
      exact⟨by rw[HV.out],HP3,HB4⟩
   ·have HV:Hid (tb1=false):=Lib.hid (by rw[HTB1.out];exact decide_eq_false (by omega))
    obtain⟨b1,b2,b3,b4⟩:=neqP0 h0;go_wp2
    go_meet
    exact⟨by rw[HV.out],HP3,HB4⟩
 case rest=>
  obtain⟨rfl,HP4,HB5⟩:=hcut;clear HP3 HB4
  go_upto_if 58 with fail
  go_cut [] from 37 to 208 (fun wx=>∃ sf,Hid (PaP W0 b pb wx S A n c l k o sf [] 0 (.slice none 0 0) (.slice none 0 0) 0 (.slice none 0 0) [])∧Hid (BoxP wx tb [.int .i64 tk0,.string tk1,.int .i64 cap,.slice A3 tk2 c3,.int .i64 tk3])∧Hid (sf=if o=0∧(cap<1∨16<cap) then [(r1,2)] else []))
  case first=>
   as_aux_lemma=>
    cases tb1 with
    | true=>
      have hq:=of_decide_eq_true HTB1.out.symm;have HSF:Hid ([(u,(2:Int))]=if o=0∧(cap<1∨16<cap) then [(r1,2)] else []):=Lib.hid (by rw[if_pos hq,(HUU.out hq.1).1]);clear hq;go_wp2_with (go_at_call 34;go_must (((with_reducible refine(KSO.out _ HP4.out.rd).mono ?_));rintro e w5 ⟨rfl,hs⟩;have HP5:=Lib.hid (HP4.out.step hs);have HB6:=Lib.hid (HB5.out.grown (by simp) hs.1 (fun e=>HTB.out e.symm));clear hs))
      go_meet
      exact⟨_,HP5,HB6,HSF⟩
    | false=>
      have hq:=of_decide_eq_false HTB1.out.symm;have HSF:Hid (([]:Sf)=if o=0∧(cap<1∨16<cap) then [(r1,2)] else []):=Lib.hid (by rw[if_neg hq]);clear hq;go_wp2
      go_meet
      exact⟨_,HP4,HB5,HSF⟩
  case rest=>
   obtain⟨sf0,HP5,HB6,HSF⟩:=hcut;clear HP4 HB5 KSO;obtain⟨x0,x1,x2,x3,x4⟩:=HB6.out.all5;have fpb:=HP5.out.box.fr 0 (by simp);have xpb:=HP5.out.box.at_ 0 _ rfl
   have HRX2:Hid (RrX S.size l RR cap [] 0 k o sf0 [] 0 (restX l cap (l.length+1) [] 0 k)):=Lib.hid (by rw[HSF.out];exact HRX.out);go_wp2
   go_loopg [] (l.length+1) (fun M wr=>∃ (k o:Nat) (sf:Sf) (gs:Gs) (qq:Nat) (vN vG vX:Value) (q:List Pv),Hid (PaP W0 b pb wr S A n c l k o sf gs qq vN vG cap vX q)∧Hid (RrX S.size l RR cap (q.map (·.1)) 0 k o sf gs qq (restX l cap M (q.map (·.1)) gs.length k))∧Hid (o=0→l.length<M+k∧q.length≤k))
   case atStart=>exact⟨k,o,sf0,[],0,_,_,_,[],Lib.hid (HP5.out.setcap cap),HRX2,Lib.hid fun _=>⟨by omega,by simp⟩⟩
   case round=>
    clear x0 x1 x2 x3 x4 fpb xpb HP5 HB6 HSF HRX HRX2 HUU HTB HTB1;obtain⟨k,o,sf,gs,qq,vN,vG,vX,q,HP,HX,HC⟩:=hrel;obtain⟨ql,hql⟩:∃ ql,ql=q.length:=⟨_,rfl⟩;obtain⟨Ax,cx,rfl⟩:=HP.out.len;rw[←hql] at HP HC;have HQL:=Lib.hid hql;obtain⟨xs,hxs⟩:∃ xs,xs=q.map (·.1):=⟨_,rfl⟩;rw[←hxs] at HX;have HXS:=Lib.hid hxs;have HXL:Hid (xs.length=ql):=Lib.hid (by rw[hxs,List.length_map,hql]);have hql9:ql≤4001:=by rw[←HXL.out];exact HX.out.many.1
    clear hql hxs;have c4:=HP.out.rd.c4;obtain⟨p0,p1⟩:=HP.out.box.all2;have hoks:=HP.out.rd.oks;by_cases h0:o=0
    ·subst h0
     have c2:=HP.out.rd.at0;have hkn:=HP.out.rd.le;by_cases hq:ql=0∨k<n
     ·obtain⟨N,hN⟩:∃ N,gk=N+1:=⟨gk - 1,by have:=(HC.out rfl).1;have:=HNL.out;omega⟩
      subst hN;have HN9:Hid (ql≤n):=Lib.hid (by have:=(HC.out rfl).2;omega);have hgx:gs.length=goesX xs:=by have:=(HX.out.fu rfl).2.2.2;omega
      have HX1:Hid (RrX S.size l RR cap xs 0 k 0 sf gs qq ((needP l 1 wAt k).then fun _ i=>Rp.met (decide (16≤xs.length)) k 9 (nameX l cap N xs (goesX xs) i))):=Lib.hid (by
       rw[←hgx,←places_step]
       have hr:restX l cap (N+1) xs gs.length k=placesP l cap (N+1) (xs.map (·.name)) gs.length k:=if_pos (by
        rcases hq with e | e
        ·exact .inl (List.eq_nil_of_length_eq_zero (by rw[HXL.out,e]))
        ·exact .inr (by rw[←HNL.out];exact e))
       rw[←hr];exact HX.out)
      clear hgx
      go_upto_region 13 with fail
      go_cut [84] from 65 to 188 (fun t84 wx=>t84= .bool true∧Hid (PaP W0 b pb wx S A n c l k 0 sf gs qq vN vG cap (.slice Ax ql cx) q))
      case first=>
       as_aux_lemma=>
        by_cases hq0:ql=0
        ·obtain⟨b1,b2⟩:=nat_eq0 hq0
         clear hq hq0;go_wp2
         go_meet
         exact⟨rfl,HP⟩
        ·obtain⟨b1,b2⟩:=nat_ne0 hq0
         have hk1:(k:Int)<(n:Int):=by omega
         have hk2:k<n:=by omega
         clear hq hq0;go_wp2
         go_meet
         exact⟨rfl,HP⟩
      case rest=>
       obtain⟨rfl,HP1⟩:=hcut;clear HP HX c2 c4 p0 p1 hq;have c2:=HP1.out.rd.at0;obtain⟨R3,hR3⟩:∃ R3,gateR 0 k (needP l 1 wAt k)=R3:=⟨_,rfl⟩
       have K3:NeeP b S A n c l 1 ⟨#[97,116]⟩ k 0 R3.at R3.err sf gs qq vN vG:=by
        rw[←hR3];exact neeP b S A n c l 1 (by decide) ⟨#[97,116]⟩ k 0 sf gs qq vN vG (.inl rfl)
       have HX2:Hid (RrX S.size l RR cap xs 0 R3.at R3.err sf gs qq (Rp.met (decide (16≤xs.length)) k 9 (nameX l cap N xs (goesX xs) R3.at))):=Lib.hid (by have:=HX1.out.need;rw[hR3] at this;exact this)
       have HK3:Hid (R3.err=0→k<n):=Lib.hid fun h0=>by
        have:=(need_at (l:=l) (o:=0) (k:=k) (kd:=1) (w:=wAt) (by rw[hR3];exact h0)).2;obtain⟨e1,e2⟩:=gate_at (P:=needP l 1 wAt k) (o:=0) (k:=k) (by rw[hR3];exact h0);rw[e2] at hR3;unfold needP at hR3
        split at hR3
        ·rename_i hi
         have:=isP_lt hi (by decide);rw[HNL.out];exact this
        ·rw[←hR3] at h0;cases h0
       have HM1:Hid (R3.err=0→k+1≤R3.at):=Lib.hid fun h0=>by
        have:=(need_at (l:=l) (o:=0) (k:=k) (kd:=1) (w:=wAt) (by rw[hR3];exact h0)).2;rw[hR3] at this;omega
       go_upto_region 16 with (go_at_call 32;go_must (((with_reducible refine(K3.out _ HP1.out.rd).mono ?_));rintro e w2 ⟨rfl,hs⟩;have HP2:=Lib.hid (HP1.out.step hs);clear hs))
       obtain⟨k1,hk1⟩:∃ k1,k1=R3.at:=⟨_,rfl⟩;obtain⟨o1,ho1⟩:∃ o1,o1=R3.err:=⟨_,rfl⟩;rw[←hk1,←ho1] at HP2 HX2;rw[←ho1] at HK3;rw[←hk1,←ho1] at HM1;clear hk1 ho1 hR3 K3 HX1 HP1 c2;have c4:=HP2.out.rd.c4;obtain⟨p0,p1⟩:=HP2.out.box.all2;obtain⟨tb2,htb2⟩:∃ tb2,tb2=decide (o1=0∧16≤ql):=⟨_,rfl⟩;have HTB2:=Lib.hid htb2;clear htb2
       go_cut [101] from 65 to 188 (fun t wx=>t= .bool tb2∧Hid (PaP W0 b pb wx S A n c l k1 o1 sf gs qq vN vG cap (.slice Ax ql cx) q))
       case first=>
        as_aux_lemma=>
         by_cases h0:o1=0
         ·subst h0
          by_cases h1:16≤ql
          ·have HV:Hid (tb2=true):=Lib.hid (by rw[HTB2.out];exact decide_eq_true ⟨rfl,h1⟩)
           have h2:decide ((16:Int)≤(ql:Int))=true:=decide_eq_true (by omega);go_wp2
           go_meet
           exact⟨by rw[HV.out],HP2⟩
          ·have HV:Hid (tb2=false):=Lib.hid (by rw[HTB2.out];exact decide_eq_false (by omega))
           have h2:decide ((16:Int)≤(ql:Int))=false:=decide_eq_false (by omega);go_wp2
           go_meet
           exact⟨by rw[HV.out],HP2⟩
         ·have HV:Hid (tb2=false):=Lib.hid (by rw[HTB2.out];exact decide_eq_false (by omega))
          obtain⟨b1,b2,b3,b4⟩:=neqP0 h0;go_wp2
          go_meet
          exact⟨by rw[HV.out],HP2⟩
       case rest=>
        obtain⟨rfl,HP3⟩:=hcut;clear HP2 c4 p0 p1
        go_upto_if 101 with fail
        go_cut [] from 65 to 188 (fun wx=>∃ sf1,Hid (PaP W0 b pb wx S A n c l k1 o1 sf1 gs qq vN vG cap (.slice Ax ql cx) q)∧Hid (RrX S.size l RR cap xs 0 k1 o1 sf1 gs qq (nameX l cap N xs (goesX xs) k1)))
        case first=>
         as_aux_lemma=>
          cases tb2 with
          | true=>
            have hq:=of_decide_eq_true HTB2.out.symm;have KS:=sofP b S A n c l k 9 (by decide) k1 o1 HK3.out sf gs qq vN vG;have HX3:Hid (RrX S.size l RR cap xs 0 k1 o1 (sf++[(k,9)]) gs qq (nameX l cap N xs (goesX xs) k1)):=Lib.hid (HX2.out.met fun _=>by rw[decide_eq_true (by rw[HXL.out];exact hq.2),if_pos rfl]);clear hq;go_wp2_with (go_at_call 34;go_must (((with_reducible refine(KS.out _ HP3.out.rd).mono ?_));rintro e w5 ⟨rfl,hs⟩;have HP4:=Lib.hid (HP3.out.step hs);clear hs))
            go_meet
            exact⟨_,HP4,HX3⟩
          | false=>
            have hq:=of_decide_eq_false HTB2.out.symm;have HX3:Hid (RrX S.size l RR cap xs 0 k1 o1 sf gs qq (nameX l cap N xs (goesX xs) k1)):=Lib.hid (HX2.out.met fun h0=>by rw[decide_eq_false (by rw[HXL.out];omega),if_neg (by decide),List.append_nil]);clear hq;go_wp2
            go_meet
            exact⟨_,HP3,HX3⟩
        case rest=>
         obtain⟨sf1,HP4,HX3⟩:=hcut;clear HP3 HX2 HTB2 HK3;obtain⟨R4,hR4⟩:∃ R4,gateR o1 k1 (nameP l k1)=R4:=⟨_,rfl⟩;have K4:=namP b S A n c l k1 o1 sf1 gs qq vN vG hR4;unfold NamP at K4;have HR4:=Lib.hid hR4;clear hR4
         go_upto_region 19 with (go_at_call 35;go_must (((with_reducible refine(K4.out _ HP4.out.rd).mono ?_));rintro e w5 ⟨W,u,rfl,hs,hw1,hw2⟩;have HP5:=Lib.hid (HP4.out.step hs);have HW1:=Lib.hid hw1;have HW2:=Lib.hid hw2;clear hs hw1 hw2))
         have HX4:Hid (RrX S.size l RR cap xs 0 R4.at R4.err sf1 gs qq (Rp.met ((xs.map (·.name)).contains W) k1 12 (echoX l cap N xs (goesX xs) W R4.at))):=Lib.hid (by have:=HX3.out.name W (fun y j s g hy=>by rw[HR4.out] at hy;exact(HW1.out y j s g hy).1);rw[HR4.out] at this;exact this)
         have HUU:Hid (R4.err=0→u=k1∧k1<n):=Lib.hid fun h0=>by
          have h9:=h0;rw[←HR4.out] at h9;obtain⟨e1,e2⟩:=gate_at h9
          cases hq:R4 with
          | bad j=>rw[hq] at h0;cases h0
          | ok y j s g=>
            refine⟨(HW1.out y j s g hq).2,?_⟩;rw[HR4.out,hq] at e2;obtain⟨-, -, -, -,e3, -⟩:=name_ok e2.symm;rw[HNL.out];exact nxp_lt (by rw[e3];decide)
         have HM2:Hid (R4.err=0→k+1≤R4.at):=Lib.hid fun h0=>by
          have h1:=name_at (l:=l) (o:=o1) (k:=k1) (by rw[HR4.out];exact h0);rw[HR4.out] at h1;have:=HM1.out h1.1;omega
         obtain⟨k2,hk2⟩:∃ k2,k2=R4.at:=⟨_,rfl⟩;obtain⟨o2,ho2⟩:∃ o2,o2=R4.err:=⟨_,rfl⟩;rw[←hk2,←ho2] at HP5 HX4;rw[←ho2] at HUU;rw[←hk2,←ho2] at HM2;obtain⟨nm,hnm⟩:∃ nm:ByteArray,nm=⟨W.toArray⟩:=⟨_,rfl⟩;rw[←hnm];have HNM:=Lib.hid hnm;clear hk2 ho2 hnm K4 HX3 HP4 HR4 HW1 HW2;have KS:Hid (∀ sf2,SofP b S A n c l u 12 k2 o2 sf2 gs qq vN vG):=Lib.hid fun sf2=>sofP b S A n c l u 12 (by decide) k2 o2 (fun h0=>by rw[(HUU.out h0).1];exact(HUU.out h0).2) sf2 gs qq vN vG
         go_wp2
         go_loopg [15] ql (fun M v15 wr=>∃ (i:Nat) (sf2:Sf),v15= .int .i64 i∧Hid (i≤ql∧M=ql - i)∧Hid (PaP W0 b pb wr S A n c l k2 o2 sf2 gs qq vN vG cap (.slice Ax ql cx) q)∧Hid (o2=0→sf2=sf1++if ((xs.take i).map (·.name)).contains W then [(k1,12)] else []))
         case atStart=>exact⟨0,sf1,rfl,Lib.hid ⟨Nat.zero_le _,rfl⟩,HP5,Lib.hid fun _=>by simp⟩
         case round=>
          clear HP5;obtain⟨i,sf2,rfl,HI,HP6,HSF⟩:=hrel;have hiq:=HI.out.1;have c4:=HP6.out.rd.c4;obtain⟨p0,p1⟩:=HP6.out.box.all2;by_cases hlt:i<ql
          ·have hlti:(i:Int)<(ql:Int):=by omega
           as_aux_lemma=>
            obtain⟨x,hx⟩:∃ x,q[i]?=some x:=⟨_,List.getElem?_eq_getElem (by have:=HQL.out;omega)⟩;have hxs:xs[i]?=some x.1:=by rw[HXS.out,List.getElem?_map,hx];rfl
            obtain⟨g,cap9,hvx, -, -⟩:=HP6.out.own.row.form (by have:=HQL.out;omega);injection hvx with hvA hvl hvc
            subst hvA hvc
            have a0:wr.cell? ⟨g,i * 3,none⟩=some (.string ⟨x.1.name.toArray⟩):=by
             have:=HP6.out.own.row.cells (g:=g) rfl (i * 3+0) _ (flat_atP (cf:=cellX) (fun _=>rfl) q i x hx 0 _ rfl);rw[Addr.add_lit,Nat.zero_add] at this;exact this
            obtain⟨ni,hni⟩:∃ ni:ByteArray,ni=⟨x.1.name.toArray⟩:=⟨_,rfl⟩;rw[←hni] at a0
            have hcon:((xs.take (i+1)).map (·.name)).contains W=(((xs.take i).map (·.name)).contains W || decide (x.1.name=W)):=by
             rw[take_snocP hxs,List.map_append];exact contains_snocP
            by_cases h0:o2=0
            ·subst h0
             by_cases hn:x.1.name=W
             ·have hnn:ni=nm:=by rw[hni,HNM.out,hn]
              subst hnn;have hb:(ni.toList==ni.toList)=true:=by simp
              have HSN:Hid (∃ sf3,(softsP l none sf3=softsP l none (sf2++[(k1,12)]))∧sf3=sf1++if ((xs.take (i+1)).map (·.name)).contains W then [(k1,12)] else []):=Lib.hid (by
               rw[hcon,hn,decide_eq_true rfl,Bool.or_true,if_pos rfl];refine⟨_,?_,rfl⟩;rw[HSF.out rfl]
               cases ((xs.take i).map (·.name)).contains W with
               | true=>rw[if_pos rfl,softs_twice]
               | false=>rw[if_neg (by decide),List.append_nil])
              have hu:=(HUU.out rfl).1;have KS2:=KS.out sf2;have HU2:=Lib.hid hu;clear hcon hn hni hx hxs hvl hu;go_wp2_with (go_at_call 34;go_must (((with_reducible refine(KS2.out _ HP6.out.rd).mono ?_));rintro e w7 ⟨rfl,hs⟩;have HP7:=Lib.hid (HP6.out.step hs);clear hs));obtain⟨sf3,hsf1,hsf2⟩:=HSN.out;have HP8:=Lib.hid (HP7.out.note sf3 (fun _=>by rw[HU2.out];exact hsf1));have HSF2:=Lib.hid hsf2;clear hsf1 hsf2 HSN
              go_roundg (ql - (i+1))
              case measure=>have:=HI.out.2;omega
              case rel=>exact⟨i+1,sf3,by go_num,Lib.hid ⟨by omega,rfl⟩,HP8,Lib.hid fun _=>HSF2.out⟩
             ·have hb:(ni.toList==nm.toList)=false:=toListP_ne (by rw[hni,HNM.out];exact fun e=>hn (bytes_injP e))
              have HSF2:Hid (sf2=sf1++if ((xs.take (i+1)).map (·.name)).contains W then [(k1,12)] else []):=Lib.hid (by rw[hcon,decide_eq_false hn,Bool.or_false];exact HSF.out rfl);clear hcon hn hni hx hxs hvl;go_wp2
              go_roundg (ql - (i+1))
              case measure=>have:=HI.out.2;omega
              case rel=>exact⟨i+1,sf2,by go_num,Lib.hid ⟨by omega,rfl⟩,HP6,Lib.hid fun _=>HSF2.out⟩
            ·obtain⟨b1,b2,b3,b4⟩:=neqP0 h0
             have H0:=Lib.hid h0;clear hcon hni hx hxs hvl h0;go_wp2
             go_roundg (ql - (i+1))
             case measure=>have:=HI.out.2;omega
             case rel=>exact⟨i+1,sf2,by go_num,Lib.hid ⟨by omega,rfl⟩,HP6,Lib.hid fun e=>absurd e H0.out⟩
          ·have HX5:Hid (RrX S.size l RR cap xs 0 k2 o2 sf2 gs qq (echoX l cap N xs (goesX xs) W k2)):=Lib.hid (HX4.out.met fun h0=>by
            have:=HSF.out h0;rw[List.take_of_length_le (by rw[HXL.out];omega)] at this;exact this)
           have hlti:¬ (i:Int)<(ql:Int):=by omega
           clear HX4 HSF KS;obtain⟨ec,hec⟩:∃ ec,isOp l 1 wEcho k2 o2=ec:=⟨_,rfl⟩;have KI:IsPC b S A n c l 1 ⟨#[101,99,104,111]⟩ k2 o2 sf2 gs qq vN vG ec:=isPC b S A n c l 1 (by decide) ⟨#[101,99,104,111]⟩ k2 o2 sf2 gs qq vN vG hec;have HEC:=Lib.hid hec;obtain⟨k3,hk3⟩:∃ k3,echoJ l k2 o2=k3:=⟨_,rfl⟩;have HK3:=Lib.hid hk3
           have HM3:Hid (o2=0→k+1≤k3):=Lib.hid fun h0=>by
            have:=HM2.out h0;rw[←hk3];unfold echoJ;split <;> omega
           have HX6:Hid (RrX S.size l RR cap xs 0 k3 o2 sf2 gs qq (openX l cap N xs (goesX xs) W ec k3)):=Lib.hid (by have:=HX5.out.echo;rw[hec,hk3] at this;exact this);clear hec hk3 HX5
           go_upto_region 25 with (go_at_call 36;go_must (((with_reducible refine(KI.out _ HP6.out.rd).mono ?_));rintro e w7 ⟨rfl,hb⟩;have HP7:=Lib.hid (HP6.out.below hb);clear hb))
           obtain⟨W8,hW8⟩:∃ W8,W8=w7.alloc (.cells #[.string nm,.bool ec,.slice none 0 0] 42):=⟨_,rfl⟩;obtain⟨xb,hxb⟩:∃ xb,xb=w7.heap.size:=⟨_,rfl⟩;have HE:Hid (PaE W0 b pb xb W8 S A n c l k2 o2 sf2 gs qq vN vG cap (.slice Ax ql cx) q nm ec (.slice none 0 0) []):=Lib.hid (by rw[hW8,hxb];exact HP7.out.enter nm ec 42);rw[←hW8,←hxb];clear hW8 hxb HP6 HP7 KI c4 p0 p1;obtain⟨y0,y1,y2⟩:=HE.out.box.all3
           go_upto_if 140 with fail
           go_cut [] from 65 to 188 (fun wx=>Hid (PaE W0 b pb xb wx S A n c l k3 o2 sf2 gs qq vN vG cap (.slice Ax ql cx) q nm ec (.slice none 0 0) []))
           case first=>
            as_aux_lemma=>
             cases ec with
             | true=>
               obtain⟨rfl,hi,hlt3⟩:=isOp_lt (by decide) HEC.out;have hk3:k3=k2+1:=by rw[←HK3.out];unfold echoJ;rw[if_pos HEC.out]
               subst hk3;have c2:=HE.out.pa.rd.at0;have f2:=HE.out.pa.rd.fr 2 (by decide);have hk9:k2≤1000:=by have:=HL.out;omega
               have HLT:Hid (k2+1≤n):=Lib.hid (by rw[HNL.out];exact hlt3);clear hi hlt3;go_wp2
               go_meet
               exact Lib.hid (HE.out.step ⟨grnP_set _ _ _ _,HE.out.pa.rd.place (k2+1) _ (by omega) HLT.out⟩)
             | false=>
               have hk3:k3=k2:=by rw[←HK3.out];unfold echoJ;rw[HEC.out,if_neg (by decide)]
               subst hk3;go_wp2
               go_meet
               exact HE
           case rest=>
            have HE1:=hcut;clear hcut HE y0 y1 y2 HEC HK3;obtain⟨R7,hR7⟩:∃ R7,gateR o2 k3 (needP l 4 [123] k3)=R7:=⟨_,rfl⟩
            have K7:NeeP b S A n c l 4 ⟨#[123]⟩ k3 o2 R7.at R7.err sf2 gs qq vN vG:=by
             rw[←hR7];exact neeP b S A n c l 4 (by decide) ⟨#[123]⟩ k3 o2 sf2 gs qq vN vG HE1.out.pa.rd.oks
            have HX7:Hid (RrE S.size l RR cap xs N W ec (l.length+1) [] R7.at R7.err sf2 gs qq):=Lib.hid (by have:=HX6.out.need;rw[hR7] at this;exact RrE.start this)
            have HM7:Hid (R7.err=0→k+1≤R7.at):=Lib.hid fun h0=>by
             have h1:=need_at (l:=l) (o:=o2) (k:=k3) (kd:=4) (w:=[123]) (by rw[hR7];exact h0);rw[hR7] at h1;have:=HM3.out h1.1;omega
            clear HX6 hR7
            go_upto_block 4 with (go_at_call 32;go_must (((with_reducible refine(K7.out _ HE1.out.pa.rd).mono ?_));rintro e w9 ⟨rfl,hs⟩;have HE2:=Lib.hid (HE1.out.step hs);clear hs))
            obtain⟨e0,hi0,hz0,hz1,hz2⟩:=info_parts infoEdP;obtain⟨x0,hx0,hy0,hy1,hy2⟩:=info_parts infoPlP;clear HE1 K7
            go_cut [] from 65 to 188 (fun wx=>∃ (k4 o4:Nat) (sf4:Sf) (gs4:Gs) (qq4:Nat) (vN4 vG4 vE:Value) (es:List EdP),Hid (PaE W0 b pb xb wx S A n c l k4 o4 sf4 gs4 qq4 vN4 vG4 cap (.slice Ax ql cx) q nm ec vE es)∧Hid (RrX S.size l RR cap xs (goesL es) k4 o4 sf4 gs4 qq4 (shutX l cap N xs (goesX xs) W ec es k4))∧Hid (o4=0→okE (goesX xs) es∧k+1≤k4)∧Hid (es.length≤4001))
            case first=>
             go_wp2
             go_loopg [] (l.length+1) (fun M wr=>∃ (k4 o4:Nat) (sf4:Sf) (gs4:Gs) (qq4:Nat) (vN4 vG4 vE:Value) (es:List EdP),Hid (PaE W0 b pb xb wr S A n c l k4 o4 sf4 gs4 qq4 vN4 vG4 cap (.slice Ax ql cx) q nm ec vE es)∧Hid (RrE S.size l RR cap xs N W ec M es k4 o4 sf4 gs4 qq4)∧Hid (o4=0→k+1≤k4))
             case atStart=>exact⟨_,_,_,_,_,_,_,_,_,HE2,HX7,HM7⟩
             case round=>
              clear HE2 HX7 HM7;obtain⟨k4,o4,sf4,gs4,qq4,vN4,vG4,vE,es,HE3,HX8,HM8⟩:=hrel;obtain⟨el,hel⟩:∃ el,el=es.length:=⟨_,rfl⟩;obtain⟨Ae,ce,rfl⟩:=HE3.out.len;rw[←hel] at HE3;have HEL:=Lib.hid hel;have hel9:el≤4001:=by rw[hel];exact HX8.out.many
              clear hel;have c4:=HE3.out.pa.rd.c4;by_cases h0:o4=0
              ·subst h0
               have hkn4:=HE3.out.pa.rd.le
               cases hv:isP l 4 [125] k4 with
               | true=>
                 have KQ:IsPC b S A n c l 4 ⟨#[125]⟩ k4 0 sf4 gs4 qq4 vN4 vG4 true:=isPC b S A n c l 4 (by decide) ⟨#[125]⟩ k4 0 sf4 gs4 qq4 vN4 vG4 hv;have HX9:Hid (RrX S.size l RR cap xs (goesL es) k4 0 sf4 gs4 qq4 (shutX l cap N xs (goesX xs) W ec es k4)):=Lib.hid (HX8.out.shut (fun _=>hv) (fun _=>by rw[←HNL.out];exact hkn4));clear hv;go_wp2_with (go_at_call 36;go_must (((with_reducible refine(KQ.out _ HE3.out.pa.rd).mono ?_));rintro e w7 ⟨rfl,hb⟩;have HE4:=Lib.hid (HE3.out.below hb);clear hb))
                 go_meet
                 exact⟨_,_,_,_,_,_,_,_,_,HE4,HX9,Lib.hid fun h=>⟨(HX8.out.ok h).1,HM8.out trivial⟩,Lib.hid HX8.out.many⟩
               | false=>
                 have KQ:IsPC b S A n c l 4 ⟨#[125]⟩ k4 0 sf4 gs4 qq4 vN4 vG4 false:=isPC b S A n c l 4 (by decide) ⟨#[125]⟩ k4 0 sf4 gs4 qq4 vN4 vG4 hv;have HVV:=Lib.hid hv;clear hv;by_cases hkl:k4<n
                 ·obtain⟨R9,hR9⟩:∃ R9,edgeP l cap es.length gs4.length k4=R9:=⟨_,rfl⟩
                  have hfu:=HX8.out.st.fu rfl
                  have KE:Hid (∀ w',DocP b w' S A n c l k4 0 sf4 gs4 qq4 vN4 vG4→Calls Tryz.prog 38 #[.pointer (some ⟨b,0,none⟩),.int .i64 el,.int .i64 cap] w' (EdgC b w' S A n c l vN4 vG4 (fun e=>∀ y j s g,R9= .ok y j s g→y=e) R9.at R9.err (sf4++R9.sfs) (gs4++R9.gss) (qq4+1))):=Lib.hid fun w' h=>by
                   rw[HEL.out];exact pedge_any es.length cap h hkl (by rw[←HEL.out];omega) (by omega) hR9
                  unfold EdgC at KE;have HR9:=Lib.hid hR9;have hki:¬ n≤k4:=by omega
                  have HKL:=Lib.hid hkl;clear hfu hR9 hkl
                  go_upto_region 31 with (go_at_call 36;go_must (((with_reducible refine(KQ.out _ HE3.out.pa.rd).mono ?_));rintro e w7 ⟨rfl,hb⟩;have HE4:=Lib.hid (HE3.out.below hb);have c2:=HE4.out.pa.rd.at0;clear hb))
                  rw[show Op.load 40 (.tmp 169)=ldEa from rfl,show Op.load 40 (.tmp 172)=ldEb from rfl];have HE5:=Lib.hid (HE4.out.below (Below.refl _ _).drew);obtain⟨u0,u1,u2⟩:=HE4.out.box.all3;obtain⟨v0,v1,v2⟩:=HE5.out.box.all3;obtain⟨p0,p1⟩:=HE4.out.pa.box.all2;obtain⟨q0,q1⟩:=HE5.out.pa.box.all2;clear c4 c2
                  go_region_held3 (fun W'=>W'.cell? ⟨pb,0,none⟩=some (.int .i64 cap)) (first | (with_reducible exact p0) | (with_reducible exact q0) | (with_reducible exact r0) | (with_reducible exact s0) | (with_reducible exact t0) | (with_reducible exact HPX.out _))
                   (first
                    | (go_at_call 38;go_must (((with_reducible refine(KE.out _ HE5.out.pa.rd).mono ?_));rintro e w8 ⟨kd,T,lo,hi,tt,vN5,vG5,rfl,hw,hG⟩;have HE6:=Lib.hid (HE5.out.went hw);have HGG:=Lib.hid hG;have HE7:=Lib.hid (HE6.out.alloc (.cells #[.int .i64 kd,.string T,.int .i64 lo,.int .i64 hi,.int .i64 tt] 39));obtain⟨r0,r1⟩:=HE6.out.pa.box.all2;obtain⟨s0,s1⟩:=HE7.out.pa.box.all2;obtain⟨d0,d1,d2⟩:=HE6.out.box.all3;obtain⟨f0,f1,f2⟩:=HE7.out.box.all3;clear hw hG))
                    | (refine step_append_lies _ rfl (.tmp 170) (.tmp 178) 40 rfl (xb+1) 39 e0 (.agg #[.int .i64 0,.string ⟨#[]⟩,.int .i64 0,.int .i64 0,.int .i64 0]) 5 48 Tryz.underlying40 hi0 hz0 hz1 hz2 rfl (by decide) _ es.length (cellsE es) rfl HE7.out.row ⟨w8.heap.size,0,none⟩ 1 1 [.int .i64 kd,.string T,.int .i64 lo,.int .i64 hi,.int .i64 tt] rfl (by rfl) (fun j u hu=>new_cells w8 39 #[.int .i64 kd,.string T,.int .i64 lo,.int .i64 hi,.int .i64 tt] j u hu) (oneEdP _ _ _ _ _) (by decide) (by rw[←HEL.out];unfold maxLen;omega) (by rw[←HEL.out];omega) (HE7.out.box.lt (by simp)) _ rfl ?_;intro g9 cap9 w9 ho9 hg9 hat9 hlt9;have HG9:=Lib.hid (And.intro ho9 hg9);have HB9:=Lib.hid (HE7.out.grown_box hg9);obtain⟨l0,l1,l2⟩:=HB9.out.all3;have lf:=HB9.out.fr 2 (by simp);have t0:=((HE7.out.pa.box.block (hg9.block pb HE7.out.pa.at_.1 (fun e=>by have:=(HE7.out.row.lt pb e.symm).1;have:=HE7.out.hx;omega))).all2).1;have HPX:Hid (∀ v,(w9.setCell ⟨xb,2,none⟩ v).cell? ⟨pb,0,none⟩=some (.int .i64 cap)):=Lib.hid (fun v=>(World.cell?_setCell_other _ _ _ _ (fun e=>by injection e with e _;have:=HE7.out.hx;omega)).trans t0);clear ho9 hg9 hat9 hlt9))
                  all_goals
                   go_wp2
                   go_roundg (gk - 1)
                   case measure=>have:=(HX8.out.ok rfl).2.1;have:=HNL.out;omega
                   case rel=>
                    obtain⟨M2,hM2,HX9⟩:=HX8.out.more HVV.out (by rw[←HNL.out];exact HKL.out) (by have:=HL.out;omega) HR9.out (by rw[←HNL.out];exact HE7.out.pa.rd.le) ⟨kd,T.data.toList,lo,hi,tt⟩ HGG.out;refine⟨R9.at,R9.err,_,_,_,vN5,vG5,_,es++[⟨kd,T.data.toList,lo,hi,tt⟩],Lib.hid (HE7.out.push ⟨kd,T.data.toList,lo,hi,tt⟩ (by have:=HG9.out.1;unfold cellE;rw[ba_backP];exact this) HG9.out.2),Lib.hid ?_,Lib.hid fun h0=>?_⟩
                    ·rw[show gk - 1=M2 by omega];exact HX9
                    ·have:=HM8.out trivial
                     cases hq:R9 with
                     | bad j=>rw[hq] at h0;cases h0
                     | ok y j s g=>
                       have h9:=HR9.out;rw[hq] at h9;have:=(edge_at h9).1;show k+1≤j;omega
                 ·have KF:=faiP b S A n c l k4 0 sf4 gs4 qq4 vN4 vG4
                  have hki:n≤k4:=by omega
                  have HX9:Hid (RrX S.size l RR cap xs (goesL es) k4 1 sf4 gs4 qq4 (shutX l cap N xs (goesX xs) W ec es k4)):=Lib.hid (HX8.out.none HVV.out (by rw[←HNL.out];exact hkl) (by rw[←HNL.out];exact hkn4) _);clear hkl
                  go_wp2_with (first
                   | (go_at_call 36;go_must (((with_reducible refine(KQ.out _ HE3.out.pa.rd).mono ?_));rintro e w7 ⟨rfl,hb⟩;have HE4:=Lib.hid (HE3.out.below hb);have c2:=HE4.out.pa.rd.at0;clear hb))
                   | (go_at_call 37;go_must (((with_reducible refine(KF.out _ HE4.out.pa.rd).mono ?_));rintro e w8 ⟨rfl,hs⟩;have HE5:=Lib.hid (HE4.out.step hs);clear hs)))
                  go_meet
                  exact⟨_,_,_,_,_,_,_,_,_,HE5,HX9,Lib.hid fun h=>(by cases h),Lib.hid HX8.out.many⟩
              ·obtain⟨b1,b2,b3,b4⟩:=neqP0 h0
               have H0:=Lib.hid h0;have HX9:Hid (RrX S.size l RR cap xs (goesL es) k4 o4 sf4 gs4 qq4 (shutX l cap N xs (goesX xs) W ec es k4)):=Lib.hid (HX8.out.shut (fun h=>absurd h h0) (fun h=>absurd h h0));clear h0;go_wp2
               go_meet
               exact⟨_,_,_,_,_,_,_,_,_,HE3,HX9,Lib.hid fun h=>absurd h H0.out,Lib.hid HX8.out.many⟩
            case rest=>
             as_aux_lemma=>
              clear HE2 HX7 HM7;obtain⟨k4,o4,sf4,gs4,qq4,vN4,vG4,vE,es,HE3,HX8,HOK,HEL⟩:=hcut;obtain⟨Ae,ce,rfl⟩:=HE3.out.len;obtain⟨el,hel⟩:∃ el,el=es.length:=⟨_,rfl⟩;rw[←hel] at HE3;clear hel;obtain⟨R8,hR8⟩:∃ R8,gateR o4 k4 (needP l 4 [125] k4)=R8:=⟨_,rfl⟩
              have K8:NeeP b S A n c l 4 ⟨#[125]⟩ k4 o4 R8.at R8.err sf4 gs4 qq4 vN4 vG4:=by
               rw[←hR8];exact neeP b S A n c l 4 (by decide) ⟨#[125]⟩ k4 o4 sf4 gs4 qq4 vN4 vG4 HE3.out.pa.rd.oks
              have HX9:Hid (RrX S.size l RR cap xs (goesL es) R8.at R8.err sf4 gs4 qq4 (afterX l cap N xs (goesX xs) ⟨W,ec,es⟩ R8.at)):=Lib.hid (by have:=HX8.out.need;rw[hR8] at this;exact this)
              have HM9:Hid (R8.err=0→k+1<R8.at∧okE (goesX xs) es):=Lib.hid fun h0=>by
               have h1:=need_at (l:=l) (o:=o4) (k:=k4) (kd:=4) (w:=[125]) (by rw[hR8];exact h0);rw[hR8] at h1;have:=HOK.out h1.1;exact⟨by omega,this.1⟩
              clear hR8 HX8 HOK
              go_upto_region 33 with (go_at_call 32;go_must (((with_reducible refine(K8.out _ HE3.out.pa.rd).mono ?_));rintro e w9 ⟨rfl,hs⟩;have HE4:=Lib.hid (HE3.out.step hs);clear hs))
              obtain⟨p0,p1⟩:=HE4.out.pa.box.all2;obtain⟨y0,y1,y2⟩:=HE4.out.box.all3;have HE5:=Lib.hid (HE4.out.alloc (.cells #[.string nm,.bool ec,.slice Ae el ce] 42));go_wp2_with (at_builtin;refine wpList_append_lies _ rfl (.tmp 184) (.tmp 186) 22 rfl (pb+1) 42 x0 (.agg #[.string ⟨#[]⟩,.bool false,.slice none 0 0]) 3 48 Tryz.underlying22 hx0 hy0 hy1 hy2 rfl (by decide) _ q.length (cellsX q) rfl HE5.out.pa.own.row ⟨w9.heap.size,0,none⟩ 1 1 [.string nm,.bool ec,.slice Ae el ce] rfl rfl (fun j u hu=>new_cells w9 42 #[.string nm,.bool ec,.slice Ae el ce] j u hu) (onePlP _ _ _ _ _) (by decide) (by rw[←HQL.out];unfold maxLen;omega) (by rw[←HQL.out];omega) HE5.out.pa.at_.1 _ rfl ?_;intro g9 cap9 w10 ho9 hg9 hat9 hlt9;have HG9:=Lib.hid (And.intro ho9 hg9);have HB9:=Lib.hid (HE5.out.grown_pb hg9);clear p0 p1;obtain⟨p0,p1⟩:=HB9.out.all2;have pf:=HB9.out.fr 1 (by simp);clear ho9 hg9 hat9 hlt9)
              go_roundg N
              case measure=>exact Nat.lt_succ_self _
              case rel=>
               have hW:nm.data.toList=W:=by rw[HNM.out]
               have hlv:=HE5.out.leave (vX':= .slice (some ⟨g9,0,none⟩) (q.length+1) cap9) HG9.out.1 HG9.out.2;rw[hW] at hlv;have hmap:(q++[((⟨W,ec,es⟩:PlP),Value.slice Ae el ce)]).map (·.1)=xs++[⟨W,ec,es⟩]:=by rw[List.map_append,←HXS.out];rfl
               refine⟨R8.at,R8.err,sf4,gs4,qq4,vN4,vG4,_,_,Lib.hid hlv,Lib.hid ?_,Lib.hid fun h0=>?_⟩
               ·rw[hmap]
                refine HX9.out.after (x:=⟨W,ec,es⟩) (by have:=HC.out;rw[HXL.out];have:=HN9.out;omega) HEL.out fun h0=>(HM9.out h0).2
               ·have h1:=(HM9.out h0).1
                have h2:=HC.out trivial;rw[List.length_append,←HQL.out];simp only[List.length_cons,List.length_nil];omega
     ·have hq1:¬ ql=0:=fun e=>hq (.inl e)
      have hq2:¬ k<n:=fun e=>hq (.inr e)
      obtain⟨b1,b2⟩:=nat_ne0 hq1;have hk1:¬ (k:Int)<(n:Int):=by omega
      obtain⟨f1,f2,f3,f4⟩:=HX.out.fu rfl
      have hrr:RR=finL l cap xs sf gs:=by
       rw[HX.out.rr]
       have hr:restX l cap gk xs gs.length k= .ok [] k [] []:=if_neg (by
        rintro(e | e)
        ·exact hq1 (by rw[←HXL.out,e];rfl)
        ·exact hq2 (by rw[HNL.out];exact e))
       show finX _ _ _ _ _ _ (restX l cap gk xs gs.length k)=_;rw[hr];simp only[finX,List.append_nil]
      have KLL:=Lib.hid ((KL A n c).out W0 wr b pb k sf gs qq vN vG cap (.slice Ax ql cx) q HP.out (by rw[←HXS.out];exact f3) (by rw[←HXS.out];omega) (HX.out.gl rfl) (by rw[←HQL.out];exact hql9) (by have:=HX.out.many.2;rw[HXS.out] at this;exact fun x hx=>this x.1 (List.mem_map_of_mem hx)));rw[←HXS.out,←hrr] at KLL;unfold PostL at KLL;have HRR:=Lib.hid hrr;clear hq hq1 f1 f2 f3 f4 hrr;go_wp2_with (go_at_call 39;go_must (((with_reducible refine(KLL.out).mono ?_));rintro e w9 ⟨A9,m9,c9,rfl,hrd,hb⟩;have HRD:=Lib.hid hrd;have HB9:=Lib.hid hb;have HX9:=Lib.hid (HBX.out.low (by simp) hb);obtain⟨z0,z1⟩:=HX9.out.all2;obtain⟨zf0,zf1⟩:=HX9.out.fre2;clear hrd hb));have HX9b:=HX9.out;obtain⟨W9,hW9⟩:∃ W9,W9=(w9.setCell ⟨w.heap.size,0,none⟩ (.int .i64 (peO RR).cap)).setCell ⟨w.heap.size,1,none⟩ (.slice A9 m9 c9):=⟨_,rfl⟩;have HX3:BoxP W9 w.heap.size [.int .i64 (peO RR).cap,.slice A9 m9 c9]:=by rw[hW9];exact(HX9b.set 0 (by simp) (.int .i64 (peO RR).cap)).set 1 (by simp) (.slice A9 m9 c9)
      obtain⟨l0,l1⟩:=HX3.all2;rw[←hW9];refine bodyPost_ret (v:= .tuple #[.agg #[.int .i64 (peO RR).cap,.slice A9 m9 c9],.int .i64 RR.2.1,.int .i64 RR.2.2]) (by simp[results,Tryz.results14,go_sem,l0,l1]) rfl ⟨A9,m9,c9,rfl,?_,?_⟩
      ·refine HRD.out W9 fun g hg=>?_
       have hne:g≠w.heap.size:=by have:=HSZ.out;omega
       rw[hW9,Below.heap_setCell _ _ _ _ hne,Below.heap_setCell _ _ _ _ hne]
      ·rw[hW9]
       exact((HB0.out.trans (HB9.out.mono HB0.out.size)).setCell (by simp) _).setCell (by simp) _
    ·obtain⟨b1,b2,b3,b4⟩:=neqP0 h0
     obtain⟨a,p,x2,x3, -, -,x6⟩:=HP.out.rd.ex;have ho1:o=1:=by rcases hoks with e | e;exact absurd e h0;exact e
     have hrr:RR=(none,placeOf S.size l k,1):=by rw[HX.out.rr,fin_bad h0]
     have hp:=x6 h0;have HRR:=Lib.hid hrr;have HPP:=Lib.hid hp;have HX9:=Lib.hid (HBX.out.low (by simp) HP.out.low);obtain⟨z0,z1⟩:=HX9.out.all2;obtain⟨zf0,zf1⟩:=HX9.out.fre2;subst ho1;clear h0 x6 hrr hp hoks;go_wp2
     go_region
     go_wp2;have HX9b:=HX9.out;obtain⟨W9,hW9⟩:∃ W9,W9=((wr.setCell ⟨w.heap.size,0,none⟩ (.int .i64 0)).setCell ⟨w.heap.size,1,none⟩ (.slice none 0 0)).drew:=⟨_,rfl⟩;have HX3:BoxP W9 w.heap.size zeroPe:=by rw[hW9];exact((HX9b.set 0 (by simp) (.int .i64 0)).set 1 (by simp) (.slice none 0 0)).drews 1
     obtain⟨l0,l1⟩:=HX3.all2;rw[←hW9];refine bodyPost_ret (v:= .tuple #[.agg #[.int .i64 0,.slice none 0 0],.int .i64 p,.int .i64 1]) (by simp[results,Tryz.results14,go_sem,l0,l1]) rfl ⟨none,0,0,?_,?_,?_⟩
     ·rw[HRR.out,HPP.out];rfl
     ·rw[HRR.out];exact⟨rfl,fun h=>by omega⟩
     ·rw[hW9]
      exact(((HB0.out.trans (HP.out.low.mono HB0.out.size)).setCell (by simp) _).setCell (by simp) _).drew
end Go.Proofs.YtdobinjbejagcaaGreatDoor
