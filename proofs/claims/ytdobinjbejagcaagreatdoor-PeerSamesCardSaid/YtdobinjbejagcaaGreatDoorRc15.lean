import Derived.Test.YtdobinjbejagcaaGreatDoorRc11
import Derived.Test.YtdobinjbejagcaaGreatDoorPr3
import Derived.Test.YtdobinjbejagcaaGreatDoorPq7
import Derived.Test.YtdobinjbejagcaaGreatDoorTkG
import Derived.Test.YtdobinjbejagcaaGreatDoorPw4
import Derived.Test.YtdobinjbejagcaaGreatDoorPq6
namespace Go.Proofs.YtdobinjbejagcaaGreatDoor
open Go Go.RowKit
set_option maxRecDepth 100000
set_option maxHeartbeats 8000000
section
section
variable {b:Nat} {w w' W W':World} {A:Option Addr} {n c:Nat} {l:List Tok} {vN:Value} {ns:List Bs} {k o k' o':Nat} {sf sf':Sf} {ms ms':List Bs} {vM vM' vM0:Value}
def PeeS (b:Nat) (w:World) (A:Option Addr) (n c:Nat) (l:List Tok) (vN:Value) (ns:List Bs) (sf:Sf) (vM:Value) (R:Rp PeP) (e:Ending) (w':World):Prop:=∃ (p:PeP) (vX vM':Value) (q:List Pv),e= .returned (.agg #[.int .i64 p.cap,vX])∧RdC b w' A n c l vN ns R.at R.err (sf++R.sfs) (p.places.map (·.name)) vM'∧WentC b w vM vM' w'∧OwnXs w.heap.size w' vX q∧q.map (·.1)=p.places∧RsV R p
theorem peer_end {R1:Rp Unit} {R2:Rp Unit} {R3:Rp Tok} {z:Int} {T:Rp (List PlP)} (h1:R1=needP l 1 wCap 0) (h2:R2=gateR R1.err R1.at (demP (decide (1≤(nxq l R1.at R1.err).n∧(nxq l R1.at R1.err).n≤16)) 2 R1.at)) (h3:R3=gateR R2.err R2.at (takeP l 2 R2.at)) (hT:T=gateR R3.err R3.at (cplaces l ns z (l.length+1) [] R3.at))
  {t:Tok} {xs:List PlP} (ht:RsV R3 t) (hz:z=t.n) (he:RsV T xs) (hr:RdC b W A n c l vN ns T.at T.err ((((sf++R1.sfs)++R2.sfs)++R3.sfs)++T.sfs) ms' vM'):
  RdC b W A n c l vN ns (callC l ns).at (callC l ns).err (sf++(callC l ns).sfs) ms' vM'∧RsV (callC l ns) ⟨z,xs⟩:=by
 subst hz;have s5:=fin_rd (fun xs:List PlP=>(⟨t.n,xs⟩:PeP)) he hr;have g5:T.then (fun xs m=>Rp.ok (⟨t.n,xs⟩:PeP) m [] [])=gateR R3.err R3.at ((cplaces l ns t.n (l.length+1) [] R3.at).then fun xs m=>Rp.ok (⟨t.n,xs⟩:PeP) m [] []):=by rw[gate_then,←hT]
 have s4:=two_rd (F:=fun (t:Tok) j=>(cplaces l ns t.n (l.length+1) [] j).then fun xs m=>Rp.ok (⟨t.n,xs⟩:PeP) m [] []) ht g5 s5;have g4:R3.then (fun (t:Tok) j=>(cplaces l ns t.n (l.length+1) [] j).then fun xs m=>Rp.ok (⟨t.n,xs⟩:PeP) m [] [])=gateR R2.err R2.at ((takeP l 2 R2.at).then fun (t:Tok) j=>(cplaces l ns t.n (l.length+1) [] j).then fun xs m=>Rp.ok (⟨t.n,xs⟩:PeP) m [] []):=by rw[gate_then,←h3]
 have s3:=two_rd (F:=fun _ i=>(takeP l 2 i).then fun (t:Tok) j=>(cplaces l ns t.n (l.length+1) [] j).then fun xs m=>Rp.ok (⟨t.n,xs⟩:PeP) m [] []) (x:=()) unit_res g4 s4
 have g3:R2.then (fun _ i=>(takeP l 2 i).then fun (t:Tok) j=>(cplaces l ns t.n (l.length+1) [] j).then fun xs m=>Rp.ok (⟨t.n,xs⟩:PeP) m [] [])=gateR R1.err R1.at ((fun i=>(ccap l i).then fun z j=>(cplaces l ns z (l.length+1) [] j).then fun xs m=>Rp.ok (⟨z,xs⟩:PeP) m [] []) R1.at):=by
  rw[h2,←gate_then];unfold gateR
  split
  ·rename_i ho
   show _=(ccap l R1.at).then _
   rw[ccap_parts,then_assoc,ho];show (demP _ 2 R1.at).then _=(demP _ 2 R1.at).then _
   congr 1
   funext _ i
   rw[then_assoc]
   congr 1
   funext t j
   rw[ok_then0]
  ·rfl
 have s2:=two_rd (F:=fun _ i=>(ccap l i).then fun z j=>(cplaces l ns z (l.length+1) [] j).then fun xs m=>Rp.ok (⟨z,xs⟩:PeP) m [] []) (x:=()) unit_res g3 s3;have g2:R1.then (fun _ i=>(ccap l i).then fun z j=>(cplaces l ns z (l.length+1) [] j).then fun xs m=>Rp.ok (⟨z,xs⟩:PeP) m [] [])=callC l ns:=by rw[h1];rfl
 rw[g2] at s2;exact s2
theorem cpeer_any (h:RdC b w A n c l vN ns 0 0 sf [] vM):
  Calls Tryz.prog 29 #[.pointer (some ⟨b,0,none⟩)] w (PeeS b w A n c l vN ns sf vM (callC l ns)):=by
 have H:=Lib.hid (Cyc.start h);have hlen:=h.len;obtain⟨R1,h1⟩:∃ R1,R1=needP l 1 wCap 0:=⟨_,rfl⟩;have K1:NeeR b A n c l vN ns [] vM 1 ⟨#[99,97,112]⟩ 0 0 sf R1:=by rw[h1];exact neeR b A n c l vN ns [] vM 1 (by decide) ⟨#[99,97,112]⟩ 0 0 sf
 have K:=nexR b A n c l vN ns [] vM R1.at R1.err (sf++R1.sfs);have KC:Hid (∀ W,Calls Tryz.prog 22 #[.int .i64 (nxq l R1.at R1.err).n] W fun e w2=>e= .returned (.bool (decide (1≤(nxq l R1.at R1.err).n∧(nxq l R1.at R1.err).n≤16)))∧W=w2):=Lib.hid fun W=>cmaycap_any _ W
 obtain⟨R2,h2⟩:∃ R2,R2=gateR R1.err R1.at (demP (decide (1≤(nxq l R1.at R1.err).n∧(nxq l R1.at R1.err).n≤16)) 2 R1.at):=⟨_,rfl⟩;have K2:=demR b A n c l vN ns [] vM (decide (1≤(nxq l R1.at R1.err).n∧(nxq l R1.at R1.err).n≤16)) 2 (by decide) R1.at R1.err (sf++R1.sfs);rw[←h2] at K2;obtain⟨R3,h3⟩:∃ R3,R3=gateR R2.err R2.at (takeP l 2 R2.at):=⟨_,rfl⟩;have K3:=kinR b A n c l vN ns [] vM 2 (by decide) R2.at R2.err ((sf++R1.sfs)++R2.sfs);rw[←h3] at K3;have HF:Hid (∀ (t:Tok) (xs:List PlP) (W:World) (ms':List Bs) (vM':Value),RsV R3 t→RsV (gateR R3.err R3.at (cplaces l ns t.n (l.length+1) [] R3.at)) xs→RdC b W A n c l vN ns (gateR R3.err R3.at (cplaces l ns t.n (l.length+1) [] R3.at)).at (gateR R3.err R3.at (cplaces l ns t.n (l.length+1) [] R3.at)).err ((((sf++R1.sfs)++R2.sfs)++R3.sfs)++(gateR R3.err R3.at (cplaces l ns t.n (l.length+1) [] R3.at)).sfs) ms' vM'→RdC b W A n c l vN ns (callC l ns).at (callC l ns).err (sf++(callC l ns).sfs) ms' vM'∧RsV (callC l ns) ⟨t.n,xs⟩):=Lib.hid fun t xs W ms' vM' ht he hr=>peer_end h1 h2 h3 rfl ht rfl he hr
 obtain⟨j0,hj0,hy0,hy1,hy2⟩:=info_parts infoPlP;have tf:=tkF2;clear h1 h2 h3 h;generalize callC l ns=R at HF ⊢;generalize hsf5:(((sf++R1.sfs)++R2.sfs)++R3.sfs)=sf5 at HF;generalize nxq l R1.at R1.err=t1 at K KC K2;generalize decide (1≤t1.n∧t1.n≤16)=vc at KC K2;have eS:(w.alloc (.cells zeroPe.toArray 24)).heap.size=w.heap.size+1:=by simp
 have HA0:=Lib.hid ((H.out.alloc 24 zeroPe (by simp)).alloc 24 zeroPe (by simp));rw[eS] at HA0;have hlS:b<w.heap.size:=H.out.lt;clear eS;go_enter Tryz.func29,Tryz.ntmps29
 go_wp2_with (first
  | (go_at_call 58;go_must (((with_reducible refine(K1.out _ HA0.out.rd).mono ?_));rintro e w1 ⟨rfl,hs⟩;have HA:=Lib.hid (HA0.out.call hs);clear hs))
  | (go_at_call 60;go_must (((with_reducible refine(K.out _ HA.out.rd).mono ?_));rintro e w2 ⟨A1,c1,rfl,hb1, -⟩;have HB:=Lib.hid (HA.out.below hb1);clear hb1))
  | (go_at_call 22;go_must (((with_reducible refine(KC.out _).mono ?_));rintro e w3 ⟨rfl,rfl⟩))
  | (go_at_call 59;go_must (((with_reducible refine(K2.out _ HB.out.rd).mono ?_));rintro e w4 ⟨rfl,hs⟩;have HC:=Lib.hid (HB.out.call hs);clear hs))
  | (go_at_call 61;go_must (((with_reducible refine(K3.out _ HC.out.rd).mono ?_));rintro e w5 ⟨t3,A3,c3,rfl,hs,hv⟩;have HD:=Lib.hid (PeC.start (HC.out.call hs));have HV:=Lib.hid hv;obtain⟨p0,p1⟩:=HD.out.pbox.all2;have pf:=HD.out.pbox.fr 0 (by simp);have HD1:=Lib.hid (HD.out.setcap t3.n);clear hs hv)))
 rw[hsf5] at HD1;generalize w5.setCell ⟨w.heap.size+1,0,none⟩ (.int .i64 t3.n)=W5 at HD1 ⊢;have HF:=Lib.hid (fun xs W ms' vM'=>HF.out t3 xs W ms' vM' HV.out);obtain⟨T,hT⟩:∃ T,T=gateR R3.err R3.at (cplaces l ns t3.n (l.length+1) [] R3.at):=⟨_,rfl⟩
 have HC0:Hid (Cont T sf5 [] sf5 (gateR R3.err R3.at (restC l ns t3.n (l.length+1) [] R3.at))):=Lib.hid (by
  have e:restC l ns t3.n (l.length+1) [] R3.at=cplaces l ns t3.n (l.length+1) [] R3.at:=by unfold restC;rw[if_pos (.inl rfl)]
  rw[e,←hT];exact Cont.start _ _)
 rw[←hT] at HF;generalize t3.n=cap at HD1 HF HC0 ⊢;have hln:=hlen.1;clear hT HV HD p0 p1 pf
 go_loopg [] (l.length+1) (fun M wr=>∃ (k4 o4:Nat) (sf4:Sf) (vX vM4:Value) (q:List Pv),Hid (PeC b w.heap.size (w.heap.size+1) w wr A n c l vN ns k4 o4 sf4 (q.map fun x=>x.1.name) vM vM4 cap vX q)∧Hid (Cont T sf5 (q.map (·.1)) sf4 (gateR o4 k4 (restC l ns cap M (q.map fun x=>x.1.name) k4)))∧Hid (o4=0→l.length<M+k4)∧Hid (q.length+M≤l.length+1))
 case atStart=>exact⟨_,_,_,_,_,[],HD1,HC0,Lib.hid fun _=>by omega,Lib.hid (by simp)⟩
 case round=>
  clear HD1 HC0;obtain⟨k4,o4,sf4,vX,vM4,q,HE,HQ,HM,HN⟩:=hrel;obtain⟨Aq,cq,rfl⟩:=HE.out.len;have hlM:=HN.out;have hc2:=HE.out.rd.c2;have hc0:=HE.out.rd.c0;have hc1:=HE.out.rd.c1;have hkn4:=HE.out.rd.le;obtain⟨p0,p1⟩:=HE.out.pbox.all2;by_cases o0:o4=0
  ·subst o0
   by_cases hg:q=[]∨k4<n
   ·have hM0:=HM.out rfl
    obtain⟨M2,hM2⟩:∃ M2,gk=M2+1:=⟨gk - 1,by omega⟩;have HM2:=Lib.hid hM2
    have HQ2:Hid (Cont T sf5 (q.map (·.1)) sf4 ((demP (decide (((q.map fun x=>x.1.name).length:Int)<16)) 9 k4).then fun _ _=>(cplace l ns cap (q.map fun x=>x.1.name) k4).then fun x i=>(restC l ns cap M2 ((q.map fun x=>x.1.name)++[x.name]) i).then fun xs m=> .ok (x::xs) m [] [])):=Lib.hid (by
     have HQo:=HQ.out;rw[hM2] at HQo;rw[←places_more cap M2 k4]
     have e:gateR 0 k4 (restC l ns cap (M2+1) (q.map fun x=>x.1.name) k4)=cplaces l ns cap (M2+1) (q.map fun x=>x.1.name) k4:=by
      unfold gateR restC;rw[if_pos rfl,if_pos]
      rcases hg with e | e
      ·exact .inl (by rw[e];rfl)
      ·exact .inr (by omega)
     rw[e] at HQo;exact HQo)
    rw[List.length_map] at HQ2;obtain⟨ql,hql⟩:∃ ql,ql=q.length:=⟨_,rfl⟩;have HQL:=Lib.hid hql;have hql9:ql≤4001:=by omega
    have hgk1:1≤gk:=by omega
    have HLE:Hid (PeC b w.heap.size (w.heap.size+1) w wr A n c l vN ns k4 0 sf4 (q.map fun x=>x.1.name) vM vM4 cap (.slice Aq ql cq) q):=Lib.hid (by rw[hql];exact HE.out);have p1':wr.cell? ⟨w.heap.size+1,1,none⟩=some (.slice Aq ql cq):=by rw[hql];exact p1
    have KD:=demR b A n c l vN ns (q.map fun x=>x.1.name) vM4 (decide ((ql:Int)<16)) 9 (by decide) k4 0 sf4;have hml:(q.map fun x=>x.1.name).length≤4001:=by rw[List.length_map];omega
    have KP:Hid (∀ w',RdC b w' A n c l vN ns k4 0 (sf4++(demP (decide ((ql:Int)<16)) 9 k4).sfs) (q.map fun x=>x.1.name) vM4→Calls Tryz.prog 62 #[.pointer (some ⟨b,0,none⟩),.int .i64 cap] w' fun r w2=>∃ (x:PlP) (Ae:Option Addr) (ce:Nat) (vM':Value),r= .returned (.agg #[.string ⟨x.name.toArray⟩,.bool x.echo,.slice Ae x.edges.length ce])∧(RdC b w2 A n c l vN ns (cplace l ns cap (q.map fun x=>x.1.name) k4).at (cplace l ns cap (q.map fun x=>x.1.name) k4).err ((sf4++(demP (decide ((ql:Int)<16)) 9 k4).sfs)++(cplace l ns cap (q.map fun x=>x.1.name) k4).sfs) ((q.map fun x=>x.1.name)++[x.name]) vM'∧WentC b w' vM4 vM' w2)∧OwnE w'.heap.size w2 (.slice Ae x.edges.length ce) x.edges∧RsV (cplace l ns cap (q.map fun x=>x.1.name) k4) x):=Lib.hid fun w' h=>
     (cplace_any cap h hml).mono fun e w2 ⟨x,vE,vM',h1,h2,h3,h4,h5⟩=>by
      have:∃ A' c',vE= .slice A' x.edges.length c':=by
       rcases h4.2 with ⟨rfl,e⟩ | ⟨g,cap,cur,rfl,_⟩
       ·exact⟨_,_,by rw[e]⟩
       ·exact⟨_,_,rfl⟩
      obtain⟨A',c',rfl⟩:=this;exact⟨x,A',c',vM',h1,⟨h2,h3⟩,h4,h5⟩
    have hg2:((ql:Int)==0)=true∨((ql:Int)==0)=false∧(k4:Int)<n:=by
     rcases Nat.eq_zero_or_pos ql with e | e
     ·exact .inl (by rw[e];rfl)
     ·refine .inr ⟨by simp;omega,?_⟩
      rcases hg with h | h
      ·rw[h] at hql;simp at hql;omega
      ·omega
    clear HQ hlM hql hM2 hM0 HE p1 hml hg
    rcases hg2 with hb1 | ⟨hb1,hk2⟩
    all_goals
     go_wp2;go_quiet (fail);have HL1:=Lib.hid (HLE.out.below (below_drewN (Below.refl _ _) nq));clear hc0 hc1 hc2 p0 p1' HLE;generalize wr.drewN nq=wq at HL1 ⊢;obtain⟨p0,p1⟩:=HL1.out.pbox.all2
     go_upto_region 7 with (go_at_call 59;go_must (((with_reducible refine(KD.out _ HL1.out.rd).mono ?_));rintro e w10 ⟨rfl,hs⟩;have HE2:=Lib.hid (HL1.out.call hs);clear hs p0 p1))
     rw[show Op.load 22 (.tmp 54)=ldP from rfl];have HE5:=Lib.hid (HE2.out.below (Below.refl _ _).drew);obtain⟨u0,u1⟩:=HE2.out.pbox.all2;obtain⟨v0,v1⟩:=HE5.out.pbox.all2
     go_region_held3 (fun W'=>W'.cell? ⟨w.heap.size+1,0,none⟩=some (.int .i64 cap)) (first | (with_reducible exact u0) | (with_reducible exact v0) | (with_reducible exact d0) | (with_reducible exact f0) | (with_reducible exact l0) | (with_reducible exact HPX.out _))
      (first
       | (go_at_call 62;go_must (((with_reducible refine(KP.out _ HE5.out.rd).mono ?_));rintro e w11 ⟨x,Ae,ce,vM5,rfl,hw,hE,hv⟩;have HE6:=Lib.hid (HE5.out.went_on hw.1 hw.2);have HV:=Lib.hid hv;have HOE:=Lib.hid hE;have HE7:=Lib.hid (HE6.out.below (one_boxP w11 (.cells #[.string ⟨x.name.toArray⟩,.bool x.echo,.slice Ae x.edges.length ce] 42)));obtain⟨d0,d1⟩:=HE6.out.pbox.all2;obtain⟨f0,f1⟩:=HE7.out.pbox.all2;clear hw hE hv))
       | (refine step_append_lies _ rfl (.tmp 55) (.tmp 60) 22 rfl (w.heap.size+1+1) 42 j0 (.agg #[.string ⟨#[]⟩,.bool false,.slice none 0 0]) 3 48 Tryz.underlying22 hj0 hy0 hy1 hy2 rfl (by decide) _ q.length (cellsX q) rfl HE7.out.own.row ⟨w11.heap.size,0,none⟩ 1 1 [.string ⟨x.name.toArray⟩,.bool x.echo,.slice Ae x.edges.length ce] rfl (by rfl) (fun j u hu=>new_cells w11 42 #[.string ⟨x.name.toArray⟩,.bool x.echo,.slice Ae x.edges.length ce] j u hu) (onePlP _ _ _ _ _) (by decide) (by rw[←HQL.out];unfold maxLen;omega) (by rw[←HQL.out];omega) (HE7.out.pbox.lt (by simp)) _ rfl ?_;intro g9 cap9 w12 ho9 hg9 hat9 hlt9;have HG9:=Lib.hid (And.intro ho9 hg9);have HB9:=Lib.hid (HE7.out.grown_box hg9);obtain⟨l0,l1⟩:=HB9.out.all2;have lf:=HB9.out.fr 1 (by simp);have HPX:Hid (∀ v,(w12.setCell ⟨w.heap.size+1,1,none⟩ v).cell? ⟨w.heap.size+1,0,none⟩=some (.int .i64 cap)):=Lib.hid (fun v=>(setP_ne _ _ _ _ _ (by decide)).trans l0);clear ho9 hg9 hat9 hlt9)
       | fail)
     all_goals
      go_wp2
      go_roundg (gk - 1)
      case measure=>omega
      case rel=>
       refine⟨(cplace l ns cap (q.map fun x=>x.1.name) k4).at,(cplace l ns cap (q.map fun x=>x.1.name) k4).err,(sf4++(demP (decide ((ql:Int)<16)) 9 k4).sfs)++(cplace l ns cap (q.map fun x=>x.1.name) k4).sfs,.slice (some ⟨g9,0,none⟩) (q.length+1) cap9,vM5,q++[(x,.slice Ae x.edges.length ce)],Lib.hid ?_,Lib.hid ?_,Lib.hid fun h0=>?_,Lib.hid ?_⟩
       ·rw[List.map_append]
        exact HE7.out.push x (row_kept HOE.out fun g hg=>(one_boxP w11 _).block g (HOE.out.lt g hg).2) HE5.out.at_.2.2.2 (fun y hy g hg=>(HE5.out.own.lt g (.inr ⟨y,hy,hg⟩)).2) HG9.out.1 HG9.out.2
       ·have:=HQ2.out
        rw[←HQL.out] at this;have:=this.more rfl HV.out;rw[show gk - 1=M2 by have:=HM2.out;omega,List.map_append,List.map_append];exact this
       ·have hM0:=HM.out trivial
        cases hq:cplace l ns cap (q.map fun x=>x.1.name) k4 with
        | bad j=>rw[hq] at h0;cases h0
        | ok y j s' g=>
          have:=geR_place cap _ k4 _ _ _ _ hq;show l.length<gk - 1+j;omega
       ·have:=HN.out
        rw[List.length_append];show q.length+1+(gk - 1)≤_;omega
   ·have hq0:¬ q.length=0:=fun e=>hg (.inl (List.length_eq_zero_iff.1 e))
    have b1:((q.length:Int)==0)=false:=by simpa using hq0
    have hk2:¬ (k4:Int)<n:=by omega
    have HQ2:Hid (T.at=k4∧T.err=0∧(sf5++T.sfs).head?=sf4.head?∧RsV T (q.map (·.1))):=Lib.hid (by
     obtain⟨a1,a2,a3,a4⟩:=HQ.out
     have e:gateR 0 k4 (restC l ns cap gk (q.map fun x=>x.1.name) k4)= .ok [] k4 [] []:=by
      unfold gateR restC;rw[if_pos rfl,if_neg];rintro(e | e)
      ·exact hg (.inl (by simpa using e))
      ·omega
     rw[e] at a1 a2 a3 a4;refine⟨a1,a2,by have:=a3 rfl;simpa[Rp.sfs] using this,?_⟩;have:=a4 [] (fun y m z g e=>by injection e with e;exact e.symm);simpa using this)
    have hr:=HE.out.rbox.all2;obtain⟨y0,y1⟩:=hr;have yf0:=HE.out.rbox.fr 0 (by simp);have yf1:=HE.out.rbox.fr 1 (by simp);clear HQ hlM hg;go_wp2;go_quiet (fail);go_wp2;have HZ:=Lib.hid ((HE.out.below (below_drewN (Below.refl _ _) nq)).fin (.int .i64 cap) (.slice Aq q.length cq));refine bodyPost_ret (v:= .agg #[.int .i64 cap,.slice Aq q.length cq]) (by simp[results,Tryz.results29,go_sem,y0,y1,World.cell?_setCell_same,setP_ne]) rfl ?_;obtain⟨z1,z2,z3⟩:=HZ.out;obtain⟨u1,u2,u3,u4⟩:=HQ2.out;have hF:=HF.out (q.map (·.1)) _ _ _ u4 (by rw[u1,u2];exact z1.noting _ fun _=>u3);exact⟨⟨cap,q.map (·.1)⟩,_,_,q,rfl,by have:=hF.1;rw[List.map_map];exact this,z2,z3,rfl,hF.2⟩
  ·have ho4:o4=1:=by have:=HE.out.rd.oks;omega
   subst ho4;have HQ2:Hid (T.at=k4∧T.err=1):=Lib.hid ⟨HQ.out.1,HQ.out.2.1⟩;obtain⟨y0,y1⟩:=HE.out.rbox.all2;have yf0:=HE.out.rbox.fr 0 (by simp);have yf1:=HE.out.rbox.fr 1 (by simp);clear HQ hlM o0;go_wp2;go_quiet (fail);go_wp2;have HZ:=Lib.hid ((HE.out.below (below_drewN (Below.refl _ _) nq)).fin (.int .i64 cap) (.slice Aq q.length cq));refine bodyPost_ret (v:= .agg #[.int .i64 cap,.slice Aq q.length cq]) (by simp[results,Tryz.results29,go_sem,y0,y1,World.cell?_setCell_same,setP_ne]) rfl ?_;obtain⟨z1,z2,z3⟩:=HZ.out;obtain⟨u1,u2⟩:=HQ2.out;have hF:=HF.out (q.map (·.1)) _ _ _ (fun y m z g e=>by rw[e] at u2;cases u2) (by rw[u1,u2];exact z1.noting _ fun e=>by cases e);exact⟨⟨cap,q.map (·.1)⟩,_,_,q,rfl,by have:=hF.1;rw[List.map_map];exact this,z2,z3,rfl,hF.2⟩
end
end
section
section
variable {b:Nat} {w w' W W':World} {A:Option Addr} {n c:Nat} {l:List Tok} {vN:Value} {ns:List Bs} {k o k' o':Nat} {sf sf':Sf} {ms ms':List Bs} {vM vM' vM0:Value}
theorem cplaceof_any (S:ByteArray) (j:Nat) (hj:j≤n) (h:RdC b w A n c l vN ns k o sf ms vM):Calls Tryz.prog 30 #[.pointer (some ⟨b,0,none⟩),.string S,.int .i64 j] w fun e w'=>e= .returned (.int .i64 (placeOf S.size l j))∧w'=w:=by
 have hlen:=h.len;have c0:=h.c0;by_cases a:j<n
 ·obtain⟨t,ht⟩:∃ t,l[j]?=some t:=⟨_,List.getElem?_eq_getElem (by omega)⟩
  have e1:placeOf S.size l j=t.pl:=by unfold placeOf;rw[if_pos (by omega),nxp_at ht]
  obtain⟨ad,A',c',rfl,h5, -⟩:=h.row.at_ ht
  obtain⟨x0,x1,x2,x3,x4⟩:=h5;rw[e1];obtain⟨b1,b2,b3,b4⟩:=eqP_f (show ¬ j=n by omega);have hj1:(j:Int)<n:=by omega
  have hn2:n≤1000000:=by omega
  clear h ht e1 hlen x0 x1 x2 x3;go_enter Tryz.func30,Tryz.ntmps30;go_wp2;go_ret;exact⟨rfl,rfl⟩
 ·have hjn:j=n:=by omega
  have e1:placeOf S.size l j=S.size:=by unfold placeOf;rw[if_neg (by omega)]
  rw[e1];obtain⟨b1,b2,b3,b4⟩:=eqP_t hjn;clear h e1 hlen a hjn;go_enter Tryz.func30,Tryz.ntmps30;go_wp2;go_ret;exact⟨rfl,rfl⟩
theorem rdc_new (h:RdT w.heap.size w A n l) (hN:NamR w.heap.size w vN ns) (hg:Given w) (hf:FitP l) (hn:n≤4000) (T:TypeId):RdC w.heap.size (w.alloc (.cells #[.slice A n c,.int .i64 0,.int .i64 0,vN,.slice none 0 0,.int .i64 0,.int .i64 0] T)) A n c l vN ns 0 0 [] [] nilV:=by
 have hb:Below w.heap.size w (w.alloc (.cells #[.slice A n c,.int .i64 0,.int .i64 0,vN,.slice none 0 0,.int .i64 0,.int .i64 0] T)):=one_boxP w _;have na:∀ j u,(#[.slice A n c,.int .i64 0,.int .i64 0,vN,.slice none 0 0,.int .i64 0,.int .i64 0]:Array Value)[j]?=some u→_:=newP_at w T #[.slice A n c,.int .i64 0,.int .i64 0,vN,.slice none 0 0,.int .i64 0,.int .i64 0];exact⟨na 0 _ rfl,na 1 _ rfl,na 2 _ rfl,na 3 _ rfl,na 4 _ rfl,⟨0,0,na 5 _ rfl,na 6 _ rfl,fun _=>rfl⟩,fun j _=>by simp[go_sem],⟨⟨[],World.ownsRow_nil _ _ _ _,fun _=>rfl,Nat.zero_le _⟩⟩,hN.keep hb,h.keep hb,fun w' h'=>hg.below (hb.trans h'),hf,Nat.zero_le _,.inl rfl,hn⟩
theorem RdC.names (h:RdC b w A n c l vN ns k 0 sf ms vM) (hl:ms.length≤100000):NamR w.heap.size w vM ms:=by
 obtain⟨xs,r1,e1, -⟩:=h.own.ex;obtain rfl:=e1 rfl;refine⟨?_,hl⟩
 rcases r1.2 with ⟨rfl,h0⟩ | ⟨g,cap,cur,rfl,_⟩
 ·exact .inl ⟨List.length_eq_zero_iff.1 h0,none,0,rfl⟩
 ·refine .inr ⟨g,0,cap,rfl,(r1.lt g rfl).2,fun j s hs=>?_⟩
  have:=r1.cells (g:=g) rfl j (.string ⟨s.toArray⟩) (by unfold strsP;rw[List.getElem?_map,hs];rfl);rw[show (⟨g,0,none⟩:Addr).add j=⟨g,0+j,none⟩ from by cases j <;> simp[Addr.add]] at this;exact this
theorem WentC.low {B:Nat} (h:WentC b w nilV vM w') (hB:B≤b) (hw:B≤w.heap.size):Below B w w':=h.far.low hB hw (fun g hg=>by cases hg) (fun g hg=>by cases hg)
theorem post_none {R:OutP} {a e:Int} (hR:R=(none,a,e)) (hb:Below w.heap.size w w'):PostPc w R (.returned (.tuple #[.agg #[.int .i64 0,.slice none 0 0],.int .i64 a,.int .i64 e])) w':=by
 subst hR;exact⟨none,0,0,rfl,⟨rfl,fun h=>absurd h (by decide)⟩,hb,Nat.le_refl _⟩
end
end
theorem cparse_long (S:ByteArray) (w:World) (hs:1000<S.size):Calls Tryz.prog 12 #[.string S] w (PostPc w (parsePe S.data.toList)):=by
 have e:parsePe S.data.toList=(none,1000,2):=if_pos (by rw[len_data];exact hs);have hs2:(1000:Int)<S.size:=by omega
 have HE:=Lib.hid e;clear e;go_enter Tryz.func12,Tryz.ntmps12;go_wp2;refine bodyPost_ret (v:= .tuple #[.agg #[.int .i64 0,.slice none 0 0],.int .i64 1000,.int .i64 2]) (by simp[results,Tryz.results12,go_sem]) rfl (post_none HE.out ?_)
 first | exact one_boxP w _ | exact(one_boxP w _).setCell (by simp) _ | go_outline
theorem cparse_noscan (S:ByteArray) (w:World) (hG:Given w) (hs:S.size≤1000) (p:Nat) (e:Int) (h:scan S.data.toList=(none,p,e)) (he:e=1∨e=2∨e=3):Calls Tryz.prog 12 #[.string S] w (PostPc w (parsePe S.data.toList)):=by
 have e1:parsePe S.data.toList=(none,(p:Int),e):=by unfold parsePe;rw[if_neg (by rw[len_data];omega),h]
 have HE:=Lib.hid e1;obtain⟨W0,hW0⟩:∃ W0,W0=w.alloc (.cells #[.int .i64 0,.slice none 0 0] 24):=⟨_,rfl⟩;have HB0:Hid (Below w.heap.size w W0):=Lib.hid (by rw[hW0];exact one_boxP w _);have KS:=Lib.hid (scan_any S (by omega) W0 (hG.below HB0.out));rw[h] at KS;unfold PostT at KS;have HBX:Hid (BoxP W0 w.heap.size zeroPe):=Lib.hid (by rw[hW0];exact BoxP.new w 24 zeroPe);have b1:(e != 0)=true:=by rcases he with rfl | rfl | rfl <;> rfl
 have hs2:¬ (1000:Int)<S.size:=by omega
 clear e1 h he hG;go_enter Tryz.func12,Tryz.ntmps12
 go_upto_region 1 with fail
 rw[←hW0];clear hW0;go_wp2_with (go_at_call 28;go_must (((with_reducible refine(KS.out).mono ?_));rintro e w1 ⟨v,qt,rfl,ht,hm⟩;have HB1:=Lib.hid ht.below;have HX1:=Lib.hid (HBX.out.low (by simp) ht.below);obtain⟨x0,x1⟩:=HX1.out.all2;obtain⟨f0,f1⟩:=HX1.out.fre2;clear ht hm));refine bodyPost_ret (v:= .tuple #[.agg #[.int .i64 0,.slice none 0 0],.int .i64 p,.int .i64 e]) (by simp[results,Tryz.results12,go_sem,x0,x1,World.cell?_setCell_same,setP_ne]) rfl (post_none HE.out ?_);exact((HB0.out.trans (HB1.out.mono HB0.out.size)).setCell (Nat.le_refl _) _).setCell (Nat.le_refl _) _
theorem cparse_bad (S:ByteArray) (w:World) (hG:Given w) (hs:S.size≤1000) (l:List Tok) (h:scan S.data.toList=(some l,0,0)) (hf:FitP l) (hl:l.length≤1000) (j:Nat) (hj:callC l []= .bad j) (hE:parsePe S.data.toList=(none,placeOf S.size l j,1)):Calls Tryz.prog 12 #[.string S] w (PostPc w (parsePe S.data.toList)):=by
 have HE:=Lib.hid hE;obtain⟨W0,hW0⟩:∃ W0,W0=w.alloc (.cells #[.int .i64 0,.slice none 0 0] 24):=⟨_,rfl⟩;have HB0:Hid (Below w.heap.size w W0):=Lib.hid (by rw[hW0];exact one_boxP w _);have HGW:=Lib.hid hG;have KS:=Lib.hid (scan_any S (by omega) W0 (hG.below HB0.out));rw[h] at KS;unfold PostT at KS;have HBX:Hid (BoxP W0 w.heap.size zeroPe):=Lib.hid (by rw[hW0];exact BoxP.new w 24 zeroPe);have hs2:¬ (1000:Int)<S.size:=by omega
 have KP:Hid (∀ (b:Nat) (W:World) (A:Option Addr) (c:Nat),RdC b W A l.length c l nilV [] 0 0 [] [] nilV→Calls Tryz.prog 29 #[.pointer (some ⟨b,0,none⟩)] W fun e w2=>∃ (z:Int) (vX:Value) (ms:List Bs) (vM:Value),e= .returned (.agg #[.int .i64 z,vX])∧RdC b w2 A l.length c l nilV [] j 1 [] ms vM∧WentC b W nilV vM w2):=Lib.hid fun b W A c hr=>by
  have:=cpeer_any hr;rw[hj] at this;exact this.mono fun e w2 ⟨p,vX,vM,q,h1,h2,h3,_⟩=>⟨p.cap,vX,_,vM,h1,h2,h3⟩
 have HF:=Lib.hid (And.intro hf hl);clear h hj hE hf hG;go_enter Tryz.func12,Tryz.ntmps12
 go_upto_region 1 with fail
 rw[←hW0];clear hW0
 go_upto_region 9 with (first
  | (go_at_call 28;go_must (((with_reducible refine(KS.out).mono ?_));rintro e w1 ⟨v,qt,rfl,ht,hm⟩;obtain⟨A,c,rfl,hr⟩:=rdt_of_own ht;have hm:qt.map (·.1)=l:=hm;have hql:qt.length=l.length:=(by rw[←hm,List.length_map]);rw[hm,hql] at hr;rw[hql];have HB1:=Lib.hid (HB0.out.trans (ht.below.mono HB0.out.size));have HX1:=Lib.hid (HBX.out.low (by simp) ht.below);have HR:=Lib.hid (rdc_new (A:=A) (n:=l.length) (c:=c) (l:=l) (vN:=nilV) (ns:=[]) hr ⟨.inl ⟨rfl,none,0,rfl⟩,by simp⟩ (HGW.out.below HB1.out) HF.out.1 (by omega) 62);clear ht hm hr hql))
  | (go_at_call 29;go_must (((with_reducible refine(KP.out _ _ _ _ HR.out).mono ?_));rintro e w2 ⟨z,vX,ms,vM,rfl,hr,hw⟩;have HQ:=Lib.hid hr;have HW:=Lib.hid hw;have c2:=hr.c2;clear hr hw)))
 have hlw:=HB1.out.size;have hrb:w.heap.size<w1.heap.size:=HX1.out.lt (by simp);have HX2:Hid (BoxP w2 w.heap.size zeroPe):=Lib.hid ((HX1.out.low (by simp) (one_boxP w1 _)).block (HW.out.far.block w.heap.size (Nat.lt_of_lt_of_le hrb (one_boxP w1 _).size) (by omega) (by simp[Value.ownBlock]) (by simp[Value.ownBlock])));have HB2:Hid (Below w.heap.size w w2):=Lib.hid (HB1.out.trans (((one_boxP w1 _).mono hlw).trans (HW.out.low hlw (Nat.le_trans hlw (one_boxP w1 _).size))));have KL:Hid (∀ W,RdC w1.heap.size W A l.length c l nilV [] j 1 [] ms vM→Calls Tryz.prog 30 #[.pointer (some ⟨w1.heap.size,0,none⟩),.string S,.int .i64 j] W fun e w'=>e= .returned (.int .i64 (placeOf S.size l j))∧w'=W):=Lib.hid fun W hW=>cplaceof_any S j hW.le hW
 have HD:=Lib.hid (HQ.out.low (Below.refl _ _).drew);have HS:Hid (w2.drew.cell? ⟨w1.heap.size,1,none⟩=some (.int .i64 j)∧w2.drew.cell? ⟨w1.heap.size,2,none⟩=some (.int .i64 1)):=Lib.hid ⟨HQ.out.c1,HQ.out.c2⟩
 have HS3:Hid (((w2.drew.setCell ⟨w.heap.size,0,none⟩ (.int .i64 0)).setCell ⟨w.heap.size,1,none⟩ (.slice none 0 0)).cell? ⟨w1.heap.size,1,none⟩=some (.int .i64 j)∧((w2.drew.setCell ⟨w.heap.size,0,none⟩ (.int .i64 0)).setCell ⟨w.heap.size,1,none⟩ (.slice none 0 0)).cell? ⟨w1.heap.size,2,none⟩=some (.int .i64 1)):=Lib.hid (by
  have ne:∀ (W:World) (a b:Nat) (u:Value),(W.setCell ⟨w.heap.size,a,none⟩ u).cell? ⟨w1.heap.size,b,none⟩=W.cell? ⟨w1.heap.size,b,none⟩:=fun W a b u=>World.cell?_setCell_other _ _ _ _ (fun e=>by injection e with e _;omega)
  rw[ne,ne,ne,ne];exact HS.out)
 obtain⟨x0,x1⟩:=HX2.out.all2;obtain⟨f0,f1⟩:=HX2.out.fre2;clear c2
 go_region_held3 (fun W'=>W'.cell? ⟨w1.heap.size,1,none⟩=some (.int .i64 j)∧W'.cell? ⟨w1.heap.size,2,none⟩=some (.int .i64 1)) (first | with_reducible exact HS.out | with_reducible exact HS3.out | exact HS.out | exact HS3.out)
  (first
   | (go_at_call 30;go_must (((with_reducible refine(KL.out _ HD.out).mono ?_));rintro e w3 ⟨rfl,rfl⟩))
   | fail)
 all_goals
  go_wp2;refine bodyPost_ret (v:= .tuple #[.agg #[.int .i64 0,.slice none 0 0],.int .i64 (placeOf S.size l j),.int .i64 1]) (by simp[results,Tryz.results12,go_sem,x0,x1,World.cell?_setCell_same,setP_ne]) rfl (post_none HE.out ?_);have hq0:w.heap.size≤(⟨w.heap.size,0,none⟩:Addr).block:=Nat.le_refl _;have hq1:w.heap.size≤(⟨w.heap.size,1,none⟩:Addr).block:=Nat.le_refl _
  first | exact(HB2.out.setCell hq0 _).setCell hq1 _ | exact((HB2.out.setCell hq0 _).setCell hq1 _).drew | exact(HB2.out.drew.setCell hq0 _).setCell hq1 _
theorem OwnXs.room {B:Nat} {w:World} {A:Option Addr} {n c:Nat} {q:List Pv} (h:OwnXs B w (.slice A n c) q):n≤c:=by
 rcases h.row.2 with ⟨e,_⟩ | ⟨g,cap,cur,e,_,_,hle,_⟩
 ·injection e with _ e1 e2;omega
 ·injection e with _ e1 e2;omega
theorem wrC_some {sf:Sf} {e p:Int} {y:Nat × Int} (h:WrC sf e p) (hy:sf.head?=some y):e=y.2∧p=(y.1:Int)∧e≠0:=by unfold WrC at h;rw[hy] at h;exact h
theorem wrC_none {sf:Sf} {e p:Int} (h:WrC sf e p) (hy:sf.head?=none):e=0:=by unfold WrC at h;rw[hy] at h;exact h
abbrev FstK (l:List Tok) (p0:PeP):Prop:=Hid (∀ (b:Nat) (W:World) (A:Option Addr) (c:Nat),RdC b W A l.length c l nilV [] 0 0 [] [] nilV→Calls Tryz.prog 29 #[.pointer (some ⟨b,0,none⟩)] W fun e w2=>∃ (z:Int) (vX:Value) (Av:Option Addr) (nv cv:Nat),e= .returned (.agg #[.int .i64 z,vX])∧(w2.cell? ⟨b,2,none⟩=some (.int .i64 0)∧w2.cell? ⟨b,4,none⟩=some (.slice Av nv cv))∧NamR w2.heap.size w2 (.slice Av nv cv) (p0.places.map (·.name))∧WentC b W nilV (.slice Av nv cv) w2∧RdT b w2 A l.length l)
theorem fstK {l:List Tok} {p0:PeP} {j0:Nat} {s0:Sf} {g0:Gs} (h:callC l []= .ok p0 j0 s0 g0) (hp:p0.places.length≤100000):FstK l p0:=Lib.hid fun b W A c hr=>by
 have:=cpeer_any hr;rw[h] at this
 exact this.mono fun e w2 ⟨p,vX,vM,q,h1,h2,h3,_,_,h6⟩=>by
  obtain rfl:=h6 _ _ _ _ rfl
  have hv:∃ Av nv cv,vM= .slice Av nv cv:=by
   obtain⟨xs,r1, -⟩:=h2.own.ex
   rcases r1.2 with ⟨rfl,_⟩ | ⟨g,cap,cur,rfl,_⟩
   ·exact⟨_,_,_,rfl⟩
   ·exact⟨_,_,_,rfl⟩
  obtain⟨Av,nv,cv,rfl⟩:=hv;exact⟨_,vX,Av,nv,cv,h1,⟨h2.c2,h2.c4⟩,h2.names (by rw[List.length_map];exact hp),h3,h2.row⟩
theorem places_len (cap:Int) {l:List Tok} {ns:List Bs}:∀ (N k:Nat) (met:List Bs) (xs:List PlP) (j:Nat) (s:Sf) (g:Gs),cplaces l ns cap N met k= .ok xs j s g→xs.length≤N
 | 0,_,_,_,_,_,_,h=>by cases h
 | N+1,k,met,xs,j,s,g,h=>by
   rw[cplaces] at h
   cases h1:Rp.met (decide (16≤met.length)) k 9 (cplace l ns cap met k) with
   | bad m=>rw[h1] at h;cases h
   | ok x i s1 g1=>
     rw[h1] at h;unfold Rp.then at h
     simp only at h
     split at h
     ·rename_i y m s2 g2 h2
      injection h with h _
      subst h
      split at h2
      ·cases h3:cplaces l ns cap N (met++[x.name]) i with
       | bad m=>rw[h3] at h2;cases h2
       | ok ys m2 s3 g3=>
         rw[h3] at h2;injection h2 with h2 _
         subst h2;have:=places_len cap N i (met++[x.name]) ys m2 s3 g3 h3;rw[List.length_cons];omega
      ·injection h2 with h2 _
       subst h2;simp
     ·cases h
theorem call_len {l:List Tok} {ns:List Bs} {p:PeP} {j:Nat} {s:Sf} {g:Gs} (h:callC l ns= .ok p j s g):p.places.length≤l.length+1:=by
 unfold callC at h
 cases h1:needP l 1 wCap 0 with
 | bad m=>rw[h1] at h;cases h
 | ok u i s1 g1=>
   rw[h1] at h;simp only[Rp.then] at h
   split at h
   ·rename_i y m s2 g2 h2
    injection h with h _
    subst h
    split at h2
    ·rename_i t i2 s3 g3 h3
     split at h2
     ·rename_i z m3 s4 g4 h4
      injection h2 with h2 _
      subst h2;dsimp only at h4
      split at h4
      ·rename_i xs m5 s5 g5 h5
       injection h4 with h4 _
       subst h4;exact places_len _ _ _ _ _ _ _ _ h5
      ·cases h4
     ·cases h2
    ·cases h2
   ·cases h
theorem cparse_soft (S:ByteArray) (w:World) (hG:Given w) (hs:S.size≤1000) (l:List Tok) (h:scan S.data.toList=(some l,0,0)) (hf:FitP l) (hl:l.length≤1000) {p0:PeP} {j0:Nat} {s0:Sf} {g0:Gs} (h0:callC l []= .ok p0 j0 s0 g0) {p1:PeP} {j1:Nat} {s1:Sf} {g1:Gs} (h1:callC l (p0.places.map (·.name))= .ok p1 j1 s1 g1) (k:Nat) (er:Int) (hy:s1.head?=some (k,er)) (hk:k<l.length) (hE:parsePe S.data.toList=(none,(nxp l k).pl,er)):Calls Tryz.prog 12 #[.string S] w (PostPc w (parsePe S.data.toList)):=by
 have HE:=Lib.hid hE;obtain⟨W0,hW0⟩:∃ W0,W0=w.alloc (.cells #[.int .i64 0,.slice none 0 0] 24):=⟨_,rfl⟩;have HB0:Hid (Below w.heap.size w W0):=Lib.hid (by rw[hW0];exact one_boxP w _);have HGW:=Lib.hid hG;have KS:=Lib.hid (scan_any S (by omega) W0 (hG.below HB0.out));rw[h] at KS;unfold PostT at KS;have HBX:Hid (BoxP W0 w.heap.size zeroPe):=Lib.hid (by rw[hW0];exact BoxP.new w 24 zeroPe);have hs2:¬ (1000:Int)<S.size:=by omega
 have KP:=fstK h0 (by have:=call_len h0;omega)
 have KQ:Hid (∀ (b:Nat) (W:World) (A:Option Addr) (c:Nat) (vN:Value),RdC b W A l.length c l vN (p0.places.map (·.name)) 0 0 [] [] nilV→Calls Tryz.prog 29 #[.pointer (some ⟨b,0,none⟩)] W fun e w2=>∃ (z:Int) (Ax:Option Addr) (nx cx:Nat) (ms:List Bs) (vM:Value),e= .returned (.agg #[.int .i64 z,.slice Ax nx cx])∧RdC b w2 A l.length c l vN (p0.places.map (·.name)) j1 0 s1 ms vM∧WentC b W nilV vM w2):=Lib.hid fun b W A c vN hr=>by
  have:=cpeer_any hr;rw[h1] at this
  exact this.mono fun e w2 ⟨p,vX,vM,q,h1,h2,h3,h4,_⟩=>by
   obtain⟨Ax,cx,rfl, -⟩:=h4.read;exact⟨p.cap,Ax,_,cx,_,vM,h1,h2,h3⟩
 have HF:=Lib.hid (And.intro hf hl);have HY:=Lib.hid hy;have hpl:placeOf S.size l k=(nxp l k).pl:=by unfold placeOf;rw[if_pos hk]
 have HPL:=Lib.hid hpl;have HK:=Lib.hid hk;unfold FstK at KP;generalize p0.places.map (·.name)=ns at KP KQ;clear h h0 h1 hE hf hG hy hpl hk;go_enter Tryz.func12,Tryz.ntmps12
 go_upto_region 1 with fail
 rw[←hW0];clear hW0
 go_upto_region 10 with (first
  | (go_at_call 28;go_must (((with_reducible refine(KS.out).mono ?_));rintro e w1 ⟨v,qt,rfl,ht,hm⟩;obtain⟨A,c,rfl,hr⟩:=rdt_of_own ht;have hm:qt.map (·.1)=l:=hm;have hql:qt.length=l.length:=(by rw[←hm,List.length_map]);rw[hm,hql] at hr;rw[hql];have HB1:=Lib.hid (HB0.out.trans (ht.below.mono HB0.out.size));have HX1:=Lib.hid (HBX.out.low (by simp) ht.below);have HT:=Lib.hid hr;have HR:=Lib.hid (rdc_new (A:=A) (n:=l.length) (c:=c) (l:=l) (vN:=nilV) (ns:=[]) hr ⟨.inl ⟨rfl,none,0,rfl⟩,by simp⟩ (HGW.out.below HB1.out) HF.out.1 (by omega) 62);clear ht hm hr hql))
  | (go_at_call 29;go_must (((with_reducible refine(KP.out _ _ _ _ HR.out).mono ?_));rintro e w2 ⟨z,vX,Av,nv,cv,rfl,⟨c2,c4⟩,hn,hw,ht⟩;have HNM:=Lib.hid hn;have HW:=Lib.hid hw;have HT2:=Lib.hid ht;clear hn hw ht)))
 have hlw:=HB1.out.size;have hrb:w.heap.size<w1.heap.size:=HX1.out.lt (by simp);have hs12:=(one_boxP w1 (.cells #[.slice A l.length c,.int .i64 0,.int .i64 0,nilV,.slice none 0 0,.int .i64 0,.int .i64 0] 62)).size;have HX2:Hid (BoxP w2 w.heap.size zeroPe):=Lib.hid ((HX1.out.low (by simp) (one_boxP w1 _)).block (HW.out.far.block w.heap.size (by omega) (by omega) (by simp[Value.ownBlock]) (by simp[Value.ownBlock])));have HB2:Hid (Below w.heap.size w w2):=Lib.hid (HB1.out.trans (((one_boxP w1 _).mono hlw).trans (HW.out.low hlw (Nat.le_trans hlw (one_boxP w1 _).size))));have hw12:w1.heap.size<w2.heap.size:=World.block_lt_of_cell? w2 _ c2;have HR2:=Lib.hid (rdc_new (A:=A) (n:=l.length) (c:=c) (l:=l) (vN:= .slice Av nv cv) (ns:=ns) (HT2.out.up (Nat.le_of_lt hw12)) HNM.out (HGW.out.below HB2.out) HF.out.1 (by omega) 62)
 go_upto_region 12 with (go_at_call 29;go_must (((with_reducible refine(KQ.out _ _ _ _ _ HR2.out).mono ?_));rintro e w3 ⟨z3,Ax,nx,cx,ms3,vM3,rfl,hr,hw⟩;have HQ:=Lib.hid hr;have HW3:=Lib.hid hw;clear hr hw))
 have hs23:=(one_boxP w2 (.cells #[.slice A l.length c,.int .i64 0,.int .i64 0,.slice Av nv cv,.slice none 0 0,.int .i64 0,.int .i64 0] 62)).size;have hlw2:=HB2.out.size;have HX3:Hid (BoxP w3 w.heap.size zeroPe):=Lib.hid ((HX2.out.low (by simp) (one_boxP w2 _)).block (HW3.out.far.block w.heap.size (by omega) (by omega) (by simp[Value.ownBlock]) (by simp[Value.ownBlock])));have HB3:Hid (Below w.heap.size w w3):=Lib.hid (HB2.out.trans (((one_boxP w2 _).mono hlw2).trans (HW3.out.low hlw2 (Nat.le_trans hlw2 (one_boxP w2 _).size))));obtain⟨e5,p6,d5,d6,hwr⟩:=HQ.out.ey;obtain⟨h5,h6,her⟩:=wrC_some (hwr rfl) HY.out;dsimp only at h5 h6;rw[h5] at d5 her;rw[h6] at d6;have b5:(er != 0)=true:=by simpa using her
 obtain⟨W4,hW4⟩:∃ W4,W4=w3.alloc (.cells #[.int .i64 z3,.slice Ax nx cx] 24):=⟨_,rfl⟩;have hb34:Below w3.heap.size w3 W4:=by rw[hW4];exact one_boxP w3 _
 have HQ4:=Lib.hid (HQ.out.low hb34);have HX4:=Lib.hid (HX3.out.low (by simp) hb34);have HB4:Hid (Below w.heap.size w W4):=Lib.hid (HB3.out.trans (hb34.mono HB3.out.size));have c5:=(hb34.cell (World.block_lt_of_cell? w3 _ d5)).trans d5;have c6:=(hb34.cell (World.block_lt_of_cell? w3 _ d6)).trans d6;clear d5 d6 hwr c2 c4 h5 h6
 go_upto_region 12 with fail
 rw[←hW4];clear hW4 hb34
 go_upto_region 13 with fail
 have hw23:w2.heap.size<W4.heap.size:=World.block_lt_of_cell? W4 _ c5
 have KL:Hid (∀ W,RdC w2.heap.size W A l.length c l (.slice Av nv cv) ns j1 0 s1 ms3 vM3→Calls Tryz.prog 30 #[.pointer (some ⟨w2.heap.size,0,none⟩),.string S,.int .i64 k] W fun e w'=>e= .returned (.int .i64 (nxp l k).pl)∧w'=W):=Lib.hid fun W hW=>by
  rw[←HPL.out];exact cplaceof_any S k (Nat.le_of_lt HK.out) hW
 have HD:=Lib.hid (HQ4.out.low (Below.refl _ _).drew);have HS:Hid (W4.drew.cell? ⟨w2.heap.size,6,none⟩=some (.int .i64 k)∧W4.drew.cell? ⟨w2.heap.size,5,none⟩=some (.int .i64 er)):=Lib.hid ⟨c6,c5⟩
 have HS3:Hid (((W4.drew.setCell ⟨w.heap.size,0,none⟩ (.int .i64 0)).setCell ⟨w.heap.size,1,none⟩ (.slice none 0 0)).cell? ⟨w2.heap.size,6,none⟩=some (.int .i64 k)∧((W4.drew.setCell ⟨w.heap.size,0,none⟩ (.int .i64 0)).setCell ⟨w.heap.size,1,none⟩ (.slice none 0 0)).cell? ⟨w2.heap.size,5,none⟩=some (.int .i64 er)):=Lib.hid (by
  have ne:∀ (W:World) (a b:Nat) (u:Value),(W.setCell ⟨w.heap.size,a,none⟩ u).cell? ⟨w2.heap.size,b,none⟩=W.cell? ⟨w2.heap.size,b,none⟩:=fun W a b u=>World.cell?_setCell_other _ _ _ _ (fun e=>by injection e with e _;omega)
  rw[ne,ne,ne,ne];exact HS.out)
 obtain⟨x0,x1⟩:=HX4.out.all2;obtain⟨f0,f1⟩:=HX4.out.fre2;clear c5 c6
 go_region_held3 (fun W'=>W'.cell? ⟨w2.heap.size,6,none⟩=some (.int .i64 k)∧W'.cell? ⟨w2.heap.size,5,none⟩=some (.int .i64 er)) (first | with_reducible exact HS.out | with_reducible exact HS3.out | exact HS.out | exact HS3.out)
  (first
   | (go_at_call 30;go_must (((with_reducible refine(KL.out _ HD.out).mono ?_));rintro e w5 ⟨rfl,rfl⟩))
   | fail)
 all_goals
  go_wp2;refine bodyPost_ret (v:= .tuple #[.agg #[.int .i64 0,.slice none 0 0],.int .i64 (nxp l k).pl,.int .i64 er]) (by simp[results,Tryz.results12,go_sem,x0,x1,World.cell?_setCell_same,setP_ne]) rfl (post_none HE.out ?_);have hq0:w.heap.size≤(⟨w.heap.size,0,none⟩:Addr).block:=Nat.le_refl _;have hq1:w.heap.size≤(⟨w.heap.size,1,none⟩:Addr).block:=Nat.le_refl _
  first | exact(HB4.out.setCell hq0 _).setCell hq1 _ | exact((HB4.out.setCell hq0 _).setCell hq1 _).drew | exact(HB4.out.drew.setCell hq0 _).setCell hq1 _
theorem cparse_good (S:ByteArray) (w:World) (hG:Given w) (hs:S.size≤1000) (l:List Tok) (h:scan S.data.toList=(some l,0,0)) (hf:FitP l) (hl:l.length≤1000) {p0:PeP} {j0:Nat} {s0:Sf} {g0:Gs} (h0:callC l []= .ok p0 j0 s0 g0) {p1:PeP} {j1:Nat} {s1:Sf} {g1:Gs} (h1:callC l (p0.places.map (·.name))= .ok p1 j1 s1 g1) (hy:s1.head?=none) (hE:parsePe S.data.toList=(some p1,0,0)):Calls Tryz.prog 12 #[.string S] w (PostPc w (parsePe S.data.toList)):=by
 have HE:=Lib.hid hE;obtain⟨W0,hW0⟩:∃ W0,W0=w.alloc (.cells #[.int .i64 0,.slice none 0 0] 24):=⟨_,rfl⟩;have HB0:Hid (Below w.heap.size w W0):=Lib.hid (by rw[hW0];exact one_boxP w _);have HGW:=Lib.hid hG;have KS:=Lib.hid (scan_any S (by omega) W0 (hG.below HB0.out));rw[h] at KS;unfold PostT at KS;have HBX:Hid (BoxP W0 w.heap.size zeroPe):=Lib.hid (by rw[hW0];exact BoxP.new w 24 zeroPe);have hs2:¬ (1000:Int)<S.size:=by omega
 have KP:=fstK h0 (by have:=call_len h0;omega)
 have KQ:Hid (∀ (b:Nat) (W:World) (A:Option Addr) (c:Nat) (vN:Value),RdC b W A l.length c l vN (p0.places.map (·.name)) 0 0 [] [] nilV→Calls Tryz.prog 29 #[.pointer (some ⟨b,0,none⟩)] W fun e w2=>∃ (Ax:Option Addr) (nx cx:Nat) (ms:List Bs) (vM:Value),e= .returned (.agg #[.int .i64 p1.cap,.slice Ax nx cx])∧RdC b w2 A l.length c l vN (p0.places.map (·.name)) j1 0 s1 ms vM∧WentC b W nilV vM w2∧∃ q,OwnXs W.heap.size w2 (.slice Ax nx cx) q∧q.map (·.1)=p1.places):=Lib.hid fun b W A c vN hr=>by
  have:=cpeer_any hr;rw[h1] at this
  exact this.mono fun e w2 ⟨p,vX,vM,q,h1,h2,h3,h4,h5,h6⟩=>by
   obtain rfl:=h6 _ _ _ _ rfl;obtain⟨Ax,cx,rfl,hx⟩:=h4.read;exact⟨Ax,_,cx,_,vM,h1,h2,h3,q,h4,h5⟩
 have HF:=Lib.hid (And.intro hf hl);have HY:=Lib.hid hy;unfold FstK at KP;generalize p0.places.map (·.name)=ns at KP KQ;clear h h0 h1 hE hf hG hy;go_enter Tryz.func12,Tryz.ntmps12
 go_upto_region 1 with fail
 rw[←hW0];clear hW0
 go_upto_region 10 with (first
  | (go_at_call 28;go_must (((with_reducible refine(KS.out).mono ?_));rintro e w1 ⟨v,qt,rfl,ht,hm⟩;obtain⟨A,c,rfl,hr⟩:=rdt_of_own ht;have hm:qt.map (·.1)=l:=hm;have hql:qt.length=l.length:=(by rw[←hm,List.length_map]);rw[hm,hql] at hr;rw[hql];have HB1:=Lib.hid (HB0.out.trans (ht.below.mono HB0.out.size));have HX1:=Lib.hid (HBX.out.low (by simp) ht.below);have HT:=Lib.hid hr;have HR:=Lib.hid (rdc_new (A:=A) (n:=l.length) (c:=c) (l:=l) (vN:=nilV) (ns:=[]) hr ⟨.inl ⟨rfl,none,0,rfl⟩,by simp⟩ (HGW.out.below HB1.out) HF.out.1 (by omega) 62);clear ht hm hr hql))
  | (go_at_call 29;go_must (((with_reducible refine(KP.out _ _ _ _ HR.out).mono ?_));rintro e w2 ⟨z,vX,Av,nv,cv,rfl,⟨c2,c4⟩,hn,hw,ht⟩;have HNM:=Lib.hid hn;have HW:=Lib.hid hw;have HT2:=Lib.hid ht;clear hn hw ht)))
 have hlw:=HB1.out.size;have hrb:w.heap.size<w1.heap.size:=HX1.out.lt (by simp);have hs12:=(one_boxP w1 (.cells #[.slice A l.length c,.int .i64 0,.int .i64 0,nilV,.slice none 0 0,.int .i64 0,.int .i64 0] 62)).size;have HX2:Hid (BoxP w2 w.heap.size zeroPe):=Lib.hid ((HX1.out.low (by simp) (one_boxP w1 _)).block (HW.out.far.block w.heap.size (by omega) (by omega) (by simp[Value.ownBlock]) (by simp[Value.ownBlock])));have HB2:Hid (Below w.heap.size w w2):=Lib.hid (HB1.out.trans (((one_boxP w1 _).mono hlw).trans (HW.out.low hlw (Nat.le_trans hlw (one_boxP w1 _).size))));have hw12:w1.heap.size<w2.heap.size:=World.block_lt_of_cell? w2 _ c2;have HR2:=Lib.hid (rdc_new (A:=A) (n:=l.length) (c:=c) (l:=l) (vN:= .slice Av nv cv) (ns:=ns) (HT2.out.up (Nat.le_of_lt hw12)) HNM.out (HGW.out.below HB2.out) HF.out.1 (by omega) 62)
 go_upto_region 12 with (go_at_call 29;go_must (((with_reducible refine(KQ.out _ _ _ _ _ HR2.out).mono ?_));rintro e w3 ⟨Ax,nx,cx,ms3,vM3,rfl,hr,hw,q,hx,hqe⟩;have HQ:=Lib.hid hr;have HW3:=Lib.hid hw;have HX9:=Lib.hid (And.intro hx hqe);clear hr hw hx hqe))
 have hs23:=(one_boxP w2 (.cells #[.slice A l.length c,.int .i64 0,.int .i64 0,.slice Av nv cv,.slice none 0 0,.int .i64 0,.int .i64 0] 62)).size;have hlw2:=HB2.out.size;have HX3:Hid (BoxP w3 w.heap.size zeroPe):=Lib.hid ((HX2.out.low (by simp) (one_boxP w2 _)).block (HW3.out.far.block w.heap.size (by omega) (by omega) (by simp[Value.ownBlock]) (by simp[Value.ownBlock])));have HB3:Hid (Below w.heap.size w w3):=Lib.hid (HB2.out.trans (((one_boxP w2 _).mono hlw2).trans (HW3.out.low hlw2 (Nat.le_trans hlw2 (one_boxP w2 _).size))));obtain⟨e5,p6,d5,d6,hwr⟩:=HQ.out.ey;have h5:=wrC_none (hwr rfl) HY.out;rw[h5] at d5;obtain⟨W4,hW4⟩:∃ W4,W4=w3.alloc (.cells #[.int .i64 p1.cap,.slice Ax nx cx] 24):=⟨_,rfl⟩;have hb34:Below w3.heap.size w3 W4:=by rw[hW4];exact one_boxP w3 _
 have HX4:=Lib.hid (HX3.out.low (by simp) hb34);have HB4:Hid (Below w.heap.size w W4):=Lib.hid (HB3.out.trans (hb34.mono HB3.out.size));have HPB:Hid (BoxP W4 w3.heap.size [.int .i64 p1.cap,.slice Ax nx cx]):=Lib.hid (by rw[hW4];exact BoxP.new w3 24 [.int .i64 p1.cap,.slice Ax nx cx]);have HX8:=Lib.hid (HX9.out.1.keep (w':=W4) fun g hg=>hb34.block g (HX9.out.1.lt g hg).2);have hz9:=hb34.size;have c5:=(hb34.cell (World.block_lt_of_cell? w3 _ d5)).trans d5;have hw3:w.heap.size<w3.heap.size:=HX3.out.lt (by simp);clear d5 d6 hwr c2 c4 h5
 go_upto_region 12 with fail
 rw[←hW4];clear hW4 hb34;obtain⟨x0,x1⟩:=HX4.out.all2;obtain⟨f0,f1⟩:=HX4.out.fre2;obtain⟨y0,y1⟩:=HPB.out.all2;go_wp2;refine bodyPost_ret (v:= .tuple #[.agg #[.int .i64 p1.cap,.slice Ax nx cx],.int .i64 0,.int .i64 0]) (by simp[results,Tryz.results12,go_sem,x0,x1,World.cell?_setCell_same,setP_ne]) rfl ?_;rw[HE.out];have hq0:w.heap.size≤(⟨w.heap.size,0,none⟩:Addr).block:=Nat.le_refl _;have hq1:w.heap.size≤(⟨w.heap.size,1,none⟩:Addr).block:=Nat.le_refl _;refine⟨Ax,nx,cx,rfl,?_,(HB4.out.setCell hq0 _).setCell hq1 _,HX9.out.1.room⟩
 have hk:=HX8.out.keep (w':=(W4.setCell ⟨w.heap.size,0,none⟩ (.int .i64 p1.cap)).setCell ⟨w.heap.size,1,none⟩ (.slice Ax nx cx)) fun g hg=>by
  have hne:g≠w.heap.size:=fun e=>by have:=(HX9.out.1.lt g hg).1;omega
  exact(Below.heap_setCell _ _ _ _ hne).trans (Below.heap_setCell _ _ _ _ hne)
 obtain⟨A',c',e,hx⟩:=hk.read;injection e with e1 e2 e3
 subst e1 e2;rw[HX9.out.2] at hx;exact hx
theorem cparse_any:ParK:=fun S w _ hG=>by
 by_cases h:1000<S.size
 ·exact cparse_long S w h
 ·rcases scan_fitP S (by omega) with ⟨q,e,hq,he⟩ | ⟨ts,ht,hf,hl⟩
  ·exact cparse_noscan S w hG (by omega) q e hq he
  ·have e:parsePe S.data.toList=outCd S.size ts:=by
    rw[out_code (scan_inc ht) hf.ok];unfold parsePe;rw[if_neg (by rw[len_data];omega),ht];show outPe S.data.toList.length ts=_;rw[len_data]
   unfold outCd at e
   cases h0:callC ts [] with
   | bad j=>
     rw[h0] at e;exact cparse_bad S w hG (by omega) ts ht hf hl j h0 e
   | ok p0 j0 s0 g0=>
     rw[h0] at e;obtain⟨p1,j1,s1,g1,h1,hk⟩:=code_both hf.ok h0;simp only[h1] at e
     cases hy:s1.head? with
     | none=>
       rw[hy] at e;exact cparse_good S w hG (by omega) ts ht hf hl h0 h1 hy e
     | some y=>
       rw[hy] at e;obtain⟨k,er⟩:=y;exact cparse_soft S w hG (by omega) ts ht hf hl h0 h1 k er hy (hk _ hy) e
end Go.Proofs.YtdobinjbejagcaaGreatDoor
