import Derived.Deep.RegionHeld3
import Derived.Deep.AppendLies
import Derived.Deep.DeepMust
import Derived.Deep.CutRange
import Derived.Test.YtdobinjbejagcaaGreatDoorPp0
namespace Go.Proofs.YtdobinjbejagcaaGreatDoor
open Go Go.RowKit
set_option maxRecDepth 100000
set_option maxHeartbeats 8000000
theorem pprint_no (p:PeP) (A:Option Addr) (n c:Nat) (w:World) (h:RdX w.heap.size w A n p.places) (hs:smallPe p=true) (hm:mayPe p=false):
  Calls Tryz.prog 9 #[.agg #[.int .i64 p.cap,.slice A n c]] w fun r w'=>r= .returned (.tuple #[.string ⟨(outText p).toArray⟩,.int .i64 (errPe p)])∧Below w.heap.size w w':=by
 have e1:outText p=[]:=if_neg (by rw[hm];simp);have e2:errPe p=5:=if_neg (by rw[hm];simp);rw[e1,e2];have KM:=Lib.hid (pmay_any p A n c (w.alloc (.cells #[.int .i64 p.cap,.slice A n c] 24)) (h.next (one_boxP w _)) (smallPe_fit hs));rw[hm] at KM;clear h hs hm e1 e2;go_enter Tryz.func9,Tryz.ntmps9;go_wp2_with (go_at_call 11;((with_reducible refine(KM.out).mono ?_));rintro e w1 ⟨rfl,hb⟩;have HB1:=Lib.hid ((one_boxP w _).trans (hb.mono (one_boxP w _).size));clear hb)
 go_ret2
 exact⟨rfl,HB1.out⟩
theorem infoTk:(Tryz.prog.info? 48).map (fun i=>(i.zero,i.size,i.bytes))=some (some (.agg #[.int .i64 0,.string ⟨#[]⟩,.int .i64 0,.slice none 0 0,.int .i64 0]),5,64):=by kernel_rfl
theorem pprint_yes (p:PeP) (A:Option Addr) (n c:Nat) (w:World) (h:RdX w.heap.size w A n p.places) (hs:smallPe p=true) (hm:mayPe p=true):
  Calls Tryz.prog 9 #[.agg #[.int .i64 p.cap,.slice A n c]] w fun r w'=>r= .returned (.tuple #[.string ⟨(outText p).toArray⟩,.int .i64 (errPe p)])∧Below w.heap.size w w':=by
 have KM:=Lib.hid (pmay_any p A n c (w.alloc (.cells #[.int .i64 p.cap,.slice A n c] 24)) (h.next (one_boxP w _)) (smallPe_fit hs));rw[hm] at KM;have HM:=Lib.hid hm;have HS:=Lib.hid hs;have HR:=Lib.hid h;have KW:Hid (∀ (T:ByteArray) (w':World),Calls Tryz.prog 18 #[.string T] w' fun r w2=>r= .returned (.agg #[.int .i64 1,.string T,.int .i64 0,.slice none 0 0,.int .i64 0])∧Below w'.heap.size w' w2):=Lib.hid pword_any;obtain⟨W0,hW0⟩:∃ W0,W0=w.alloc (.cells #[.int .i64 p.cap,.slice A n c] 24):=⟨_,rfl⟩;rw[←hW0] at KM;have HB0:Hid (Below w.heap.size w W0):=Lib.hid (by rw[hW0];exact one_boxP w _);have HX:Hid (∀ W',KepP W0 W'→BoxP W' w.heap.size [.int .i64 p.cap,.slice A n c]):=Lib.hid fun W' hk=>by rw[hW0] at hk;exact hk.box (by decide)
 obtain⟨cp,hcp⟩:∃ cp,cp=p.cap:=⟨_,rfl⟩;have HCP:=Lib.hid hcp;rw[←hcp] at HX hW0 KM ⊢;obtain⟨i0,hi0,hz0,hz1,hz2⟩:=info_parts infoTk;obtain⟨x0,x1⟩:=(HX.out W0 (.refl _)).all2;clear h hs hm hcp;go_enter Tryz.func9,Tryz.ntmps9
 go_upto_region 1 with fail
 rw[←hW0];clear hW0
 go_upto_region 3 with (go_at_call 11;((with_reducible refine(KM.out).mono ?_));rintro e w1 ⟨rfl,hb⟩;have HB1:=Lib.hid hb;clear x0 x1;obtain⟨x0,x1⟩:=(HX.out w1 (.below hb)).all2;clear hb)
 have HBD:=Lib.hid (HB1.out.drew);obtain⟨y0,y1⟩:=(HX.out w1.drew (.below HBD.out)).all2
 go_region_held3 (fun W'=>W'.cell? ⟨w.heap.size,0,none⟩=some (.int .i64 cp)) (first | (with_reducible exact x0) | (with_reducible exact y0) | (with_reducible exact z0) | (with_reducible exact(HX.out _ (.below (H2.out.alloc H2.out.size _))).all2.1))
  (first | (go_at_call 18;((with_reducible refine(KW.out _ _).mono ?_));rintro r w2 ⟨rfl,hb2⟩;have H2:=Lib.hid (HBD.out.trans (hb2.mono HBD.out.size));obtain⟨z0,z1⟩:=(HX.out _ (.below H2.out)).all2;clear hb2))
 have HC:Hid (PrT w W0 (.slice (some ⟨w2.heap.size,0,none⟩) 2 2) (tvP [wdT wCap,nmb cp]) [wdT wCap,nmb cp] (w2.alloc (.cells #[.int .i64 1,.string ⟨#[99,97,112]⟩,.int .i64 0,.slice none 0 0,.int .i64 0,.int .i64 2,.string ⟨#[]⟩,.int .i64 cp,.slice none 0 0,.int .i64 0] 48))):=Lib.hid (by
  have hb:=HB0.out.trans (H2.out.mono HB0.out.size);exact⟨⟨own_built w2 48 [.int .i64 1,.string ⟨#[99,97,112]⟩,.int .i64 0,.slice none 0 0,.int .i64 0,.int .i64 2,.string ⟨#[]⟩,.int .i64 cp,.slice none 0 0,.int .i64 0] w.heap.size 5 2 rfl hb.size (by unfold maxLen;omega),tvP_two _ _ rfl rfl,hb.alloc hb.size _,by simp;have:=hb.size;omega⟩,.below (H2.out.alloc H2.out.size _),tvP_map _⟩)
 go_upto_region 4 with fail
 generalize w2.alloc (.cells #[.int .i64 1,.string ⟨#[99,97,112]⟩,.int .i64 0,.slice none 0 0,.int .i64 0,.int .i64 2,.string ⟨#[]⟩,.int .i64 cp,.slice none 0 0,.int .i64 0] 48)=U at HC ⊢;generalize w2.heap.size=g0 at HC ⊢;clear x0 x1 y0 y1 z0 z1 HB1 HBD H2 KM;obtain⟨T0,hT0⟩:∃ T0,T0=[wdT wCap,nmb cp]:=⟨_,rfl⟩;have HT0:=Lib.hid hT0;have hl0:T0.length=2:=by rw[hT0];rfl
 have HL0:=Lib.hid hl0;rw[←hT0] at HC;obtain⟨q0,hq0⟩:∃ q0,q0=tvP T0:=⟨_,rfl⟩;rw[←hq0] at HC;clear hT0 hq0 hl0;obtain⟨ns,hns⟩:∃ ns,ns=p.places.map (·.name):=⟨_,rfl⟩;have HNS:=Lib.hid hns;clear hns;have HN:=Lib.hid HR.out.1;have HMP:=Lib.hid (mayPe_parts HM.out);have hn16:n≤16:=by rw[HN.out];exact HMP.out.2.2.2.1
 go_wp2
 go_loopg [4,5] n (fun M v4 v5 wr=>∃ (i:Nat) (q:List Tv),v5= .int .i64 i∧Hid (i≤n∧M=n - i)∧Hid (PrT w W0 v4 q (T0++(p.places.take i).flatMap (tokPl ns)) wr))
 case atStart=>exact⟨0,q0,rfl,Lib.hid ⟨Nat.zero_le _,rfl⟩,Lib.hid (HC.out.to (by simp))⟩
 case round=>
  obtain⟨i,q,rfl,HI,HP⟩:=hrel;have hin:=HI.out.1;obtain⟨x0,x1⟩:=(HX.out wr HP.out.kep).all2
  have hql:q.length≤1000:=by
   rw[HP.out.len,List.length_append,HL0.out];have:=plsT_le ns p.places i (by rw[←HN.out];exact hn16) HMP.out.2.2.2.2.1;omega
  by_cases hlt:i<n
  ·obtain⟨x,hx⟩:∃ x,p.places[i]?=some x:=⟨_,List.getElem?_eq_getElem (by have:=HN.out;omega)⟩
   have HXI:=Lib.hid hx;obtain⟨ad,A',c',rfl,had,hat,hrd⟩:=HR.out.at_ hx
   have HRD:=Lib.hid hrd;obtain⟨a0,a1,a2⟩:=hat.keep (by rw[block_of_add];exact had) HP.out.tk.below;clear hat had;obtain⟨nm,hnm⟩:∃ nm:ByteArray,nm=⟨x.name.toArray⟩:=⟨_,rfl⟩;have HNM:=Lib.hid hnm;obtain⟨m,hm⟩:∃ m,m=x.edges.length:=⟨_,rfl⟩;have HME:=Lib.hid hm;have hm8:m≤8:=by rw[hm];exact HMP.out.2.2.2.2.1 x (List.mem_of_getElem? hx)
   rw[←hnm] at a0;rw[←hm] at a2;obtain⟨ec,hec⟩:∃ ec,ec=x.echo:=⟨_,rfl⟩;have HEC:=Lib.hid hec;rw[←hec] at a1;obtain⟨W1,hW1⟩:∃ W1,W1=wr.alloc (.cells #[.string nm,.bool ec,.slice A' m c'] 42):=⟨_,rfl⟩;have hb1:Below wr.heap.size wr W1:=by rw[hW1];exact one_boxP _ _
   have HP1:=Lib.hid ((HP.out.below hb1).from (.refl W1));have HK1:=Lib.hid (HP.out.kep.trans (.below hb1));have HX1:Hid (∀ W',KepP W1 W'→BoxP W' wr.heap.size [.string nm,.bool ec,.slice A' m c']):=Lib.hid fun W' hk=>by rw[hW1] at hk;exact hk.box (by decide)
   clear hx hrd hnm hm hec hb1;have hlti:(i:Int)<(n:Int):=by omega
   go_upto_region 8 with fail
   rw[←hW1];clear hW1 x0 x1 a0 a1 a2;obtain⟨xb,hxb⟩:∃ xb,xb=wr.heap.size:=⟨_,rfl⟩;rw[←hxb] at HX1 ⊢;clear hxb;obtain⟨T,hT⟩:∃ T,T=T0++(p.places.take i).flatMap (tokPl ns):=⟨_,rfl⟩;rw[←hT] at HP1;have HTT:=Lib.hid hT;clear hT HP
   go_cut [4] from 21 to 106 (fun v4 wx=>∃ q2,Hid (PrT w W1 v4 q2 (T++[wdT wAt,wdT x.name]) wx))
   case first=>
    have HD1:=Lib.hid (HP1.out.below (Below.refl _ _).drew);obtain⟨y0,y1,y2⟩:=(HX1.out W1 (.refl _)).all3;obtain⟨d0,d1,d2⟩:=(HX1.out W1.drew HD1.out.kep).all3
    go_region_held3 (fun W'=>W'.cell? ⟨xb,0,none⟩=some (.string nm)) (first | (with_reducible exact y0) | (with_reducible exact d0) | (with_reducible exact e0) | (with_reducible exact f0) | (with_reducible exact(HX1.out _ (HP4.out.alloc _).kep).all3.1) | (with_reducible exact(HX1.out _ HQ.out.kep).all3.1))
     (first
      | (go_at_call 18;((with_reducible refine(KW.out _ _).mono ?_));rintro r w4 ⟨rfl,hb4⟩;have HP4:=Lib.hid (HP3.out.below hb4);obtain⟨f0,f1,f2⟩:=(HX1.out _ HP4.out.kep).all3;clear hb4)
      | (go_at_call 18;((with_reducible refine(KW.out _ _).mono ?_));rintro r w3 ⟨rfl,hb3⟩;have HP3:=Lib.hid (HD1.out.below hb3);obtain⟨e0,e1,e2⟩:=(HX1.out _ HP3.out.kep).all3;clear hb3)
      | (refine step_append_lies _ rfl (.tmp 33) (.tmp 38) 44 rfl w.heap.size 48 i0 (.agg #[.int .i64 0,.string ⟨#[]⟩,.int .i64 0,.slice none 0 0,.int .i64 0]) 5 64 Tryz.underlying44 hi0 hz0 hz1 hz2 rfl (by decide) _ q.length (cellsT q) rfl (HP4.out.alloc _).tk.row ⟨w4.heap.size,0,none⟩ 2 2 [.int .i64 1,.string ⟨#[97,116]⟩,.int .i64 0,.slice none 0 0,.int .i64 0,.int .i64 1,.string nm,.int .i64 0,.slice none 0 0,.int .i64 0] rfl (by rfl) (fun j u hu=>new_cells w4 48 #[.int .i64 1,.string ⟨#[97,116]⟩,.int .i64 0,.slice none 0 0,.int .i64 0,.int .i64 1,.string nm,.int .i64 0,.slice none 0 0,.int .i64 0] j u hu) (ten_one _ _ _ _ _ _ _ _ _ _ _ _ _ _) (by decide) (by unfold maxLen;omega) (by omega) (HP4.out.alloc _).tk.size _ rfl ?_;intro g9 cap9 w5 ho9 hg9 hat9 hlt9;have HQ:=Lib.hid ((HP4.out.alloc _).cat (tvP [wdT wAt,wdT x.name]) (tvP_two _ _ rfl rfl) rfl (by rw[HNM.out];rfl) ho9 hg9);clear ho9 hg9 hat9 hlt9))
    all_goals go_wp2
    all_goals go_meet
    all_goals exact⟨_,HQ⟩
   case rest=>
    obtain⟨q2,HP2⟩:=hcut;clear HP1;obtain⟨y0,y1,y2⟩:=(HX1.out _ HP2.out.kep).all3
    go_upto_if 41 with fail
    have hq2:q2.length≤1002:=by
     rw[HP2.out.len,HTT.out,List.length_append,List.length_append,HL0.out];have:=plsT_le ns p.places i (by rw[←HN.out];exact hn16) HMP.out.2.2.2.2.1;simp only[List.length_cons,List.length_nil];omega
    go_cut [4] from 21 to 106 (fun v4 wx=>∃ q3,Hid (PrT w W1 v4 q3 (T++[wdT wAt,wdT x.name]++(if x.echo then [wdT wEcho] else [])) wx))
    case first=>
     cases ec with
     | true=>
       go_wp2_with (first
        | (go_at_call 18;((with_reducible refine(KW.out _ _).mono ?_));rintro r w4 ⟨rfl,hb4⟩;have HP4:=Lib.hid (HP2.out.below hb4);clear hb4)
        | (at_builtin;refine wpList_append_lies _ rfl (.tmp 42) (.tmp 44) 44 rfl w.heap.size 48 i0 (.agg #[.int .i64 0,.string ⟨#[]⟩,.int .i64 0,.slice none 0 0,.int .i64 0]) 5 64 Tryz.underlying44 hi0 hz0 hz1 hz2 rfl (by decide) _ q2.length (cellsT q2) rfl (HP4.out.alloc _).tk.row ⟨w4.heap.size,0,none⟩ 1 1 [.int .i64 1,.string ⟨#[101,99,104,111]⟩,.int .i64 0,.slice none 0 0,.int .i64 0] rfl rfl (fun j u hu=>new_cells w4 48 #[.int .i64 1,.string ⟨#[101,99,104,111]⟩,.int .i64 0,.slice none 0 0,.int .i64 0] j u hu) (five_one _ _ _ _ _ _ _) (by decide) (by unfold maxLen;omega) (by omega) (HP4.out.alloc _).tk.size _ rfl ?_;intro g9 cap9 w5 ho9 hg9 hat9 hlt9;have HQ:=Lib.hid ((HP4.out.alloc _).cat (tvP [wdT wEcho]) (tvP_one _ rfl) rfl rfl ho9 hg9);clear ho9 hg9 hat9 hlt9))
       go_meet
       exact⟨_,Lib.hid (HQ.out.to (by rw[←HEC.out,if_pos rfl];rfl))⟩
     | false=>
       go_wp2
       go_meet
       exact⟨_,Lib.hid (HP2.out.to (by rw[←HEC.out];simp))⟩
    case rest=>
     clear y0 y1 y2 hq2 HP2;obtain⟨q3,HP3⟩:=hcut
     have hq3:q3.length≤1003:=by
      rw[HP3.out.len,HTT.out,List.length_append,List.length_append,List.length_append,HL0.out];have:=plsT_le ns p.places i (by rw[←HN.out];exact hn16) HMP.out.2.2.2.2.1;have h2:(if x.echo then [wdT wEcho] else ([]:List Tok)).length≤1:=by split <;> simp
      simp only[List.length_cons,List.length_nil];omega
     go_wp2_with (at_builtin;refine wpList_append_lies _ rfl (.tmp 46) (.tmp 48) 44 rfl w.heap.size 48 i0 (.agg #[.int .i64 0,.string ⟨#[]⟩,.int .i64 0,.slice none 0 0,.int .i64 0]) 5 64 Tryz.underlying44 hi0 hz0 hz1 hz2 rfl (by decide) _ q3.length (cellsT q3) rfl (HP3.out.alloc _).tk.row ⟨wc.heap.size,0,none⟩ 1 1 [.int .i64 4,.string ⟨#[123]⟩,.int .i64 0,.slice none 0 0,.int .i64 0] rfl rfl (fun j u hu=>new_cells wc 48 #[.int .i64 4,.string ⟨#[123]⟩,.int .i64 0,.slice none 0 0,.int .i64 0] j u hu) (five_one _ _ _ _ _ _ _) (by decide) (by unfold maxLen;omega) (by omega) (HP3.out.alloc _).tk.size _ rfl ?_;intro g9 cap9 w5 ho9 hg9 hat9 hlt9;have HQ:=Lib.hid ((HP3.out.alloc _).cat (tvP [sgn [123]]) (tvP_one _ rfl) rfl rfl ho9 hg9);clear ho9 hg9 hat9 hlt9);obtain⟨T2,hT2⟩:∃ T2,T2=T++[wdT wAt,wdT x.name]++(if x.echo then [wdT wEcho] else [])++[sgn [123]]:=⟨_,rfl⟩;have HQ2:Hid (PrT w W1 (.slice (some ⟨g9,0,none⟩) (q3.length+1) cap9) (q3++tvP [sgn [123]]) T2 w5):=Lib.hid (HQ.out.to (by rw[hT2];rfl));have HT2:=Lib.hid hT2;clear hT2
     go_loopg [4,7] m (fun M v4 v7 wr=>∃ (k:Nat) (q:List Tv),v7= .int .i64 k∧Hid (k≤m∧M=m - k)∧Hid (PrT w W1 v4 q (T2++(x.edges.take k).flatMap (tokEd ns)) wr))
     case atStart=>exact⟨0,_,rfl,Lib.hid ⟨Nat.zero_le _,rfl⟩,Lib.hid (HQ2.out.to (by simp))⟩
     case round=>
      obtain⟨k,q,rfl,HI2,HP⟩:=hrel;have hkm:=HI2.out.1;obtain⟨y0,y1,y2⟩:=(HX1.out wr HP.out.kep).all3
      have hql:q.length≤1062:=by
       rw[HP.out.len,List.length_append,HT2.out,HTT.out];simp only[List.length_append,List.length_cons,List.length_nil];rw[HL0.out];have:=plsT_le ns p.places i (by rw[←HN.out];exact hn16) HMP.out.2.2.2.2.1;have h2:(if x.echo then [wdT wEcho] else ([]:List Tok)).length≤1:=by split <;> simp
       have:=edsT_le ns x.edges k (by rw[←HME.out];exact hm8);omega
      by_cases hkl:k<m
      ·obtain⟨e,he⟩:∃ e,x.edges[k]?=some e:=⟨_,List.getElem?_eq_getElem (by have:=HME.out;omega)⟩
       have HE:=Lib.hid he;obtain⟨ad2,rfl,had2,hat2⟩:=HRD.out.at_ he
       obtain⟨b0,b1,b2,b3,b4⟩:=hat2.keep (by rw[block_of_add];exact had2) HP.out.tk.below;have HME2:=Lib.hid (HMP.out.2.2.2.2.2 x (List.mem_of_getElem? HXI.out) e (List.mem_of_getElem? he));obtain⟨tb,htb⟩:∃ tb:ByteArray,tb=⟨e.text.toArray⟩:=⟨_,rfl⟩;rw[←htb] at b1;have KT:Hid (∀ w',Calls Tryz.prog 19 #[.string tb] w' fun r w2=>∃ A m c,r= .returned (.agg #[.int .i64 3,.string ⟨#[]⟩,.int .i64 0,.slice A m c,.int .i64 0])∧Below w'.heap.size w' w2∧Hid (OwnP w'.heap.size w2 (.slice A m c) (txt e.text).parts)):=Lib.hid (by rw[htb];exact ptextt_any e.text);have KD:Hid (∀ w',Calls Tryz.prog 20 #[.agg #[.int .i64 e.kind,.string tb,.int .i64 e.lo,.int .i64 e.hi,.int .i64 e.to]] w' fun r w2=>∃ g cap q2,r= .returned (.slice (some ⟨g,0,none⟩) 3 cap)∧Below w'.heap.size w' w2∧Hid (w2.ownsRow w'.heap.size 48 5 (.slice (some ⟨g,0,none⟩) 3 cap) 3 (cellsT q2)∧(∀ x∈q2,OwnP w'.heap.size w2 x.2 x.1.parts)∧q2.map (·.1)=tokDl e∧q2.length=3)):=Lib.hid (by rw[htb];exact pdelay3_any e);obtain⟨kd,hkd⟩:∃ kd,kd=e.kind:=⟨_,rfl⟩;obtain⟨lo,hlo⟩:∃ kd,kd=e.lo:=⟨_,rfl⟩;obtain⟨hi,hhi⟩:∃ kd,kd=e.hi:=⟨_,rfl⟩;obtain⟨tt,htt⟩:∃ kd,kd=e.to:=⟨_,rfl⟩;have HKD:=Lib.hid hkd;have HTT2:=Lib.hid htt;rw[←hkd] at b0;rw[←hlo] at b2;rw[←hhi] at b3;rw[←htt] at b4;rw[←hkd,←hlo,←hhi,←htt] at KD;obtain⟨W2,hW2⟩:∃ W2,W2=wr.alloc (.cells #[.int .i64 kd,.string tb,.int .i64 lo,.int .i64 hi,.int .i64 tt] 39):=⟨_,rfl⟩;have hb2:Below wr.heap.size wr W2:=by rw[hW2];exact one_boxP _ _
       have HQ0:=Lib.hid ((HP.out.below hb2).from (.refl W2));have HK2:=Lib.hid (HP.out.kep.trans (.below hb2));have HX2:Hid (∀ W',KepP W2 W'→BoxP W' wr.heap.size [.int .i64 kd,.string tb,.int .i64 lo,.int .i64 hi,.int .i64 tt]):=Lib.hid fun W' hk=>by rw[hW2] at hk;exact hk.box (by decide)
       have hkli:(k:Int)<(m:Int):=by omega
       clear he hat2 had2 htb hkd hlo hhi htt hb2
       go_upto_region 16 with fail
       rw[←hW2];clear hW2 y0 y1 y2 b0 b1 b2 b3 b4;obtain⟨eb,heb⟩:∃ eb,eb=wr.heap.size:=⟨_,rfl⟩;rw[←heb] at HX2 ⊢;clear heb;obtain⟨U,hU⟩:∃ U,U=T2++(x.edges.take k).flatMap (tokEd ns):=⟨_,rfl⟩;rw[←hU] at HQ0;have HUU:=Lib.hid hU;clear hU HP;obtain⟨c0,c1,c2,c3,c4⟩:=(HX2.out W2 (.refl _)).all5;obtain⟨f0,f1,f2,f3,f4⟩:=(HX2.out (W2.alloc (.cells #[.string ⟨#[101,109,105,116]⟩,.string ⟨#[108,105,110,101]⟩,.string ⟨#[115,104,117,116]⟩] 9)) (.below (one_boxP _ _))).all5
       rcases mayEd_kinds HME2.out with hk1 | hk1 | hk1
       ·rw[←HKD.out] at hk1
        subst hk1;obtain⟨j,y,hj,hy,hyn⟩:=goes_at HNS.out HME2.out (by rw[←HKD.out];decide);have htj:tt=(j:Int):=by rw[HTT2.out,hj]
        subst htj;have hjn:j<n:=by have:=(List.getElem?_eq_some_iff.1 hy).1;have:=HN.out;omega
        obtain⟨ady,Ay,cy,hady,hlty,haty, -⟩:=HR.out.at_ hy
        injection hady with hady
        subst hady;obtain⟨nj,hnj⟩:∃ nj:ByteArray,nj=⟨(toN ns e).toArray⟩:=⟨_,rfl⟩;have HNJ:=Lib.hid hnj;have HSJ:Hid (∀ W,KepP W2 W→Below w.heap.size w W→Hid (W.cell? ⟨w.heap.size,1,none⟩=some (.slice (some ad) n c)∧W.cell? ⟨eb,4,none⟩=some (.int .i64 (j:Int))∧W.cell? (ad.add (j * 3))=some (.string nj))):=Lib.hid fun W hk hb=>Lib.hid ⟨(HX.out W (HK1.out.trans (HK2.out.trans hk))).all2.2,(HX2.out W hk).all5.2.2.2.2,by have:=(haty.keep (by rw[block_of_add];exact hlty) hb).1;rw[hyn,←hnj] at this;exact this⟩
        have hjni:(j:Int)<(n:Int):=by omega
        clear hj hy hyn haty hlty hnj
        go_upto_region 22 with (first
         | (go_at_call 18;((with_reducible refine(KW.out _ _).mono ?_));rintro r w3 ⟨rfl,hb3⟩;have HA:=Lib.hid ((HQ0.out.alloc _).below hb3);clear f0 f1 f2 f3 f4;obtain⟨f0,f1,f2,f3,f4⟩:=(HX2.out _ HA.out.kep).all5;clear hb3)
         | (at_builtin;refine wpList_append_lies _ rfl (.tmp 62) (.tmp 70) 44 rfl w.heap.size 48 i0 (.agg #[.int .i64 0,.string ⟨#[]⟩,.int .i64 0,.slice none 0 0,.int .i64 0]) 5 64 Tryz.underlying44 hi0 hz0 hz1 hz2 rfl (by decide) _ q.length (cellsT q) rfl (HA.out.alloc _).tk.row ⟨w3.heap.size,0,none⟩ 1 1 [.int .i64 1,.string ⟨#[101,109,105,116]⟩,.int .i64 0,.slice none 0 0,.int .i64 0] rfl rfl (fun j u hu=>new_cells w3 48 #[.int .i64 1,.string ⟨#[101,109,105,116]⟩,.int .i64 0,.slice none 0 0,.int .i64 0] j u hu) (five_one _ _ _ _ _ _ _) (by decide) (by unfold maxLen;omega) (by omega) (HA.out.alloc _).tk.size _ rfl ?_;intro g9 cap9 w4 ho9 hg9 hat9 hlt9;obtain⟨qB,hqB,HB⟩:∃ q9:List Tv,q9.length≤q.length+1∧Hid (PrT w W2 _ q9 _ w4):=⟨_,(by simp),Lib.hid ((HA.out.alloc _).cat (tvP [wdT wEmit]) (tvP_one _ rfl) rfl rfl ho9 hg9)⟩;clear ho9 hg9 hat9 hlt9;clear f0 f1 f2 f3 f4;obtain⟨f0,f1,f2,f3,f4⟩:=(HX2.out _ HB.out.kep).all5)
         | (go_at_call 19;((with_reducible refine(KT.out _).mono ?_));rintro r w5 ⟨A5,m5,c5,rfl,hb5,HU5⟩;have HC5:=Lib.hid (HB.out.below hb5);clear f0 f1 f2 f3 f4;obtain⟨f0,f1,f2,f3,f4⟩:=(HX2.out _ HC5.out.kep).all5;clear hb5)
         | (at_builtin;refine wpList_append_lies _ rfl (.tmp 75) (.tmp 79) 44 rfl w.heap.size 48 i0 (.agg #[.int .i64 0,.string ⟨#[]⟩,.int .i64 0,.slice none 0 0,.int .i64 0]) 5 64 Tryz.underlying44 hi0 hz0 hz1 hz2 rfl (by decide) _ qB.length (cellsT qB) rfl (HC5.out.alloc _).tk.row ⟨w5.heap.size,0,none⟩ 1 1 [.int .i64 3,.string ⟨#[]⟩,.int .i64 0,.slice A5 m5 c5,.int .i64 0] rfl rfl (fun j u hu=>new_cells w5 48 #[.int .i64 3,.string ⟨#[]⟩,.int .i64 0,.slice A5 m5 c5,.int .i64 0] j u hu) (five_one _ _ _ _ _ _ _) (by decide) (by unfold maxLen;omega) (by omega) (HC5.out.alloc _).tk.size _ rfl ?_;intro g9 cap9 w6 ho9 hg9 hat9 hlt9;obtain⟨qC,hqC,HC6⟩:∃ q9:List Tv,q9.length≤qB.length+1∧Hid (PrT w W2 _ q9 _ w6):=⟨_,(by simp),Lib.hid ((HC5.out.alloc _).cat ([(txt e.text,.slice A5 m5 c5)]) (fun x hx=>by rw[List.mem_singleton] at hx;subst hx;exact below_kept (own_lowP HU5.out HB.out.tk.size) (one_boxP _ _)) rfl rfl ho9 hg9)⟩;clear ho9 hg9 hat9 hlt9;clear f0 f1 f2 f3 f4;obtain⟨f0,f1,f2,f3,f4⟩:=(HX2.out _ HC6.out.kep).all5)
         | (go_at_call 20;((with_reducible refine(KD.out _).mono ?_));rintro r w7 ⟨g7,cap7,q7,rfl,hb7,H7⟩;have HD7:=Lib.hid (HC6.out.below hb7);clear f0 f1 f2 f3 f4;obtain⟨f0,f1,f2,f3,f4⟩:=(HX2.out _ HD7.out.kep).all5;clear hb7)
         | (at_builtin;refine wpList_append_lies _ rfl (.tmp 84) (.tmp 86) 44 rfl w.heap.size 48 i0 (.agg #[.int .i64 0,.string ⟨#[]⟩,.int .i64 0,.slice none 0 0,.int .i64 0]) 5 64 Tryz.underlying44 hi0 hz0 hz1 hz2 rfl (by decide) _ qC.length (cellsT qC) rfl (HD7.out).tk.row ⟨g7,0,none⟩ 3 cap7 (cellsT q7) rfl (by rw[cellsT_length,H7.out.2.2.2]) (H7.out.1.cells rfl) (cellsT_onep H7.out.2.1) (by decide) (by unfold maxLen;omega) (by omega) (HD7.out).tk.size _ rfl ?_;intro g9 cap9 w8 ho9 hg9 hat9 hlt9;obtain⟨qD,hqD,HD8⟩:∃ q9:List Tv,q9.length≤qC.length+3∧Hid (PrT w W2 _ q9 _ w8):=⟨_,(by rw[List.length_append,H7.out.2.2.2];exact Nat.le_refl _),Lib.hid ((HD7.out).cat (q7) (fun x hx=>own_lowP (H7.out.2.1 x hx) HC6.out.tk.size) H7.out.2.2.2 rfl ho9 hg9)⟩;clear ho9 hg9 hat9 hlt9;clear f0 f1 f2 f3 f4;obtain⟨f0,f1,f2,f3,f4⟩:=(HX2.out _ HD8.out.kep).all5))
        have HZ:Hid (PrT w W2 _ qD (U++[wdT wEmit]++[txt e.text]++tokDl e) w8):=Lib.hid (HD8.out.to (by rw[H7.out.2.2.1];rfl));clear f0 f1 f2 f3 f4;have HZD:=Lib.hid (HZ.out.below (Below.refl _ _).drew);have S0:=HSJ.out _ HZ.out.kep HZ.out.tk.below;have S1:=HSJ.out _ HZD.out.kep HZD.out.tk.below
        go_region_held3 (fun W'=>W'.cell? ⟨w.heap.size,1,none⟩=some (.slice (some ad) n c)∧W'.cell? ⟨eb,4,none⟩=some (.int .i64 (j:Int))∧W'.cell? (ad.add (j * 3))=some (.string nj)) (first | (with_reducible exact S0.out) | (with_reducible exact S1.out) | (with_reducible exact S2.out) | (with_reducible exact S3.out) | (with_reducible exact S4.out) | (with_reducible exact(HSJ.out _ (HG4.out.alloc _).kep (HG4.out.alloc _).tk.below).out))
         (first
          | (go_at_call 18;((with_reducible refine(KW.out _ _).mono ?_));rintro r w4 ⟨rfl,hb4⟩;have HG4:=Lib.hid (HG3.out.below hb4);have S3:=HSJ.out _ HG4.out.kep HG4.out.tk.below;clear hb4)
          | (go_at_call 18;((with_reducible refine(KW.out _ _).mono ?_));rintro r w3 ⟨rfl,hb3⟩;have HG3:=Lib.hid (HZD.out.below hb3);have S2:=HSJ.out _ HG3.out.kep HG3.out.tk.below;clear hb3)
          | (refine step_append_lies _ rfl (.tmp 91) (.tmp 101) 44 rfl w.heap.size 48 i0 (.agg #[.int .i64 0,.string ⟨#[]⟩,.int .i64 0,.slice none 0 0,.int .i64 0]) 5 64 Tryz.underlying44 hi0 hz0 hz1 hz2 rfl (by decide) _ qD.length (cellsT qD) rfl (HG4.out.alloc _).tk.row ⟨w4.heap.size,0,none⟩ 2 2 [.int .i64 1,.string ⟨#[103,111,116,111]⟩,.int .i64 0,.slice none 0 0,.int .i64 0,.int .i64 1,.string nj,.int .i64 0,.slice none 0 0,.int .i64 0] rfl (by rfl) (fun j u hu=>new_cells w4 48 #[.int .i64 1,.string ⟨#[103,111,116,111]⟩,.int .i64 0,.slice none 0 0,.int .i64 0,.int .i64 1,.string nj,.int .i64 0,.slice none 0 0,.int .i64 0] j u hu) (ten_one _ _ _ _ _ _ _ _ _ _ _ _ _ _) (by decide) (by unfold maxLen;omega) (by omega) (HG4.out.alloc _).tk.size _ rfl ?_;intro g9 cap9 w5 ho9 hg9 hat9 hlt9;have HE4:=Lib.hid ((HG4.out.alloc _).cat (tvP [wdT wGoto,wdT (toN ns e)]) (tvP_two _ _ rfl rfl) rfl (by rw[HNJ.out];rfl) ho9 hg9);clear ho9 hg9 hat9 hlt9;have S4:=HSJ.out _ HE4.out.kep HE4.out.tk.below))
        all_goals go_wp2
        all_goals go_roundg (m - (k+1))
        case measure=>have:=HI2.out.2;omega
        case rel=>exact⟨k+1,_,by go_num,Lib.hid ⟨by omega,rfl⟩,Lib.hid ((HE4.out.from (HK2.out.trans HE4.out.kep)).to (by rw[take_flat _ HE.out,HUU.out,tokEd,if_pos HKD.out.symm];simp[tvP]))⟩
       ·rw[←HKD.out] at hk1
        subst hk1;obtain⟨j,y,hj,hy,hyn⟩:=goes_at HNS.out HME2.out (by rw[←HKD.out];decide);have htj:tt=(j:Int):=by rw[HTT2.out,hj]
        subst htj;have hjn:j<n:=by have:=(List.getElem?_eq_some_iff.1 hy).1;have:=HN.out;omega
        obtain⟨ady,Ay,cy,hady,hlty,haty, -⟩:=HR.out.at_ hy
        injection hady with hady
        subst hady;obtain⟨nj,hnj⟩:∃ nj:ByteArray,nj=⟨(toN ns e).toArray⟩:=⟨_,rfl⟩;have HNJ:=Lib.hid hnj;have HSJ:Hid (∀ W,KepP W2 W→Below w.heap.size w W→Hid (W.cell? ⟨w.heap.size,1,none⟩=some (.slice (some ad) n c)∧W.cell? ⟨eb,4,none⟩=some (.int .i64 (j:Int))∧W.cell? (ad.add (j * 3))=some (.string nj))):=Lib.hid fun W hk hb=>Lib.hid ⟨(HX.out W (HK1.out.trans (HK2.out.trans hk))).all2.2,(HX2.out W hk).all5.2.2.2.2,by have:=(haty.keep (by rw[block_of_add];exact hlty) hb).1;rw[hyn,←hnj] at this;exact this⟩
        have hjni:(j:Int)<(n:Int):=by omega
        clear hj hy hyn haty hlty hnj
        go_upto_region 22 with (first
         | (go_at_call 18;((with_reducible refine(KW.out _ _).mono ?_));rintro r w3 ⟨rfl,hb3⟩;have HA:=Lib.hid ((HQ0.out.alloc _).below hb3);clear f0 f1 f2 f3 f4;obtain⟨f0,f1,f2,f3,f4⟩:=(HX2.out _ HA.out.kep).all5;clear hb3)
         | (at_builtin;refine wpList_append_lies _ rfl (.tmp 62) (.tmp 70) 44 rfl w.heap.size 48 i0 (.agg #[.int .i64 0,.string ⟨#[]⟩,.int .i64 0,.slice none 0 0,.int .i64 0]) 5 64 Tryz.underlying44 hi0 hz0 hz1 hz2 rfl (by decide) _ q.length (cellsT q) rfl (HA.out.alloc _).tk.row ⟨w3.heap.size,0,none⟩ 1 1 [.int .i64 1,.string ⟨#[108,105,110,101]⟩,.int .i64 0,.slice none 0 0,.int .i64 0] rfl rfl (fun j u hu=>new_cells w3 48 #[.int .i64 1,.string ⟨#[108,105,110,101]⟩,.int .i64 0,.slice none 0 0,.int .i64 0] j u hu) (five_one _ _ _ _ _ _ _) (by decide) (by unfold maxLen;omega) (by omega) (HA.out.alloc _).tk.size _ rfl ?_;intro g9 cap9 w4 ho9 hg9 hat9 hlt9;obtain⟨qB,hqB,HB⟩:∃ q9:List Tv,q9.length≤q.length+1∧Hid (PrT w W2 _ q9 _ w4):=⟨_,(by simp),Lib.hid ((HA.out.alloc _).cat (tvP [wdT wLine]) (tvP_one _ rfl) rfl rfl ho9 hg9)⟩;clear ho9 hg9 hat9 hlt9;clear f0 f1 f2 f3 f4;obtain⟨f0,f1,f2,f3,f4⟩:=(HX2.out _ HB.out.kep).all5)
         | (go_at_call 19;((with_reducible refine(KT.out _).mono ?_));rintro r w5 ⟨A5,m5,c5,rfl,hb5,HU5⟩;have HC5:=Lib.hid (HB.out.below hb5);clear f0 f1 f2 f3 f4;obtain⟨f0,f1,f2,f3,f4⟩:=(HX2.out _ HC5.out.kep).all5;clear hb5)
         | (at_builtin;refine wpList_append_lies _ rfl (.tmp 75) (.tmp 79) 44 rfl w.heap.size 48 i0 (.agg #[.int .i64 0,.string ⟨#[]⟩,.int .i64 0,.slice none 0 0,.int .i64 0]) 5 64 Tryz.underlying44 hi0 hz0 hz1 hz2 rfl (by decide) _ qB.length (cellsT qB) rfl (HC5.out.alloc _).tk.row ⟨w5.heap.size,0,none⟩ 1 1 [.int .i64 3,.string ⟨#[]⟩,.int .i64 0,.slice A5 m5 c5,.int .i64 0] rfl rfl (fun j u hu=>new_cells w5 48 #[.int .i64 3,.string ⟨#[]⟩,.int .i64 0,.slice A5 m5 c5,.int .i64 0] j u hu) (five_one _ _ _ _ _ _ _) (by decide) (by unfold maxLen;omega) (by omega) (HC5.out.alloc _).tk.size _ rfl ?_;intro g9 cap9 w6 ho9 hg9 hat9 hlt9;obtain⟨qC,hqC,HC6⟩:∃ q9:List Tv,q9.length≤qB.length+1∧Hid (PrT w W2 _ q9 _ w6):=⟨_,(by simp),Lib.hid ((HC5.out.alloc _).cat ([(txt e.text,.slice A5 m5 c5)]) (fun x hx=>by rw[List.mem_singleton] at hx;subst hx;exact below_kept (own_lowP HU5.out HB.out.tk.size) (one_boxP _ _)) rfl rfl ho9 hg9)⟩;clear ho9 hg9 hat9 hlt9;clear f0 f1 f2 f3 f4;obtain⟨f0,f1,f2,f3,f4⟩:=(HX2.out _ HC6.out.kep).all5))
        have HZ:Hid (PrT w W2 _ qC (U++[wdT wLine]++[txt e.text]) w6):=Lib.hid (HC6.out.to (by rfl));clear f0 f1 f2 f3 f4;have HZD:=Lib.hid (HZ.out.below (Below.refl _ _).drew);have S0:=HSJ.out _ HZ.out.kep HZ.out.tk.below;have S1:=HSJ.out _ HZD.out.kep HZD.out.tk.below
        go_region_held3 (fun W'=>W'.cell? ⟨w.heap.size,1,none⟩=some (.slice (some ad) n c)∧W'.cell? ⟨eb,4,none⟩=some (.int .i64 (j:Int))∧W'.cell? (ad.add (j * 3))=some (.string nj)) (first | (with_reducible exact S0.out) | (with_reducible exact S1.out) | (with_reducible exact S2.out) | (with_reducible exact S3.out) | (with_reducible exact S4.out) | (with_reducible exact(HSJ.out _ (HG4.out.alloc _).kep (HG4.out.alloc _).tk.below).out))
         (first
          | (go_at_call 18;((with_reducible refine(KW.out _ _).mono ?_));rintro r w4 ⟨rfl,hb4⟩;have HG4:=Lib.hid (HG3.out.below hb4);have S3:=HSJ.out _ HG4.out.kep HG4.out.tk.below;clear hb4)
          | (go_at_call 18;((with_reducible refine(KW.out _ _).mono ?_));rintro r w3 ⟨rfl,hb3⟩;have HG3:=Lib.hid (HZD.out.below hb3);have S2:=HSJ.out _ HG3.out.kep HG3.out.tk.below;clear hb3)
          | (refine step_append_lies _ rfl (.tmp 91) (.tmp 101) 44 rfl w.heap.size 48 i0 (.agg #[.int .i64 0,.string ⟨#[]⟩,.int .i64 0,.slice none 0 0,.int .i64 0]) 5 64 Tryz.underlying44 hi0 hz0 hz1 hz2 rfl (by decide) _ qC.length (cellsT qC) rfl (HG4.out.alloc _).tk.row ⟨w4.heap.size,0,none⟩ 2 2 [.int .i64 1,.string ⟨#[103,111,116,111]⟩,.int .i64 0,.slice none 0 0,.int .i64 0,.int .i64 1,.string nj,.int .i64 0,.slice none 0 0,.int .i64 0] rfl (by rfl) (fun j u hu=>new_cells w4 48 #[.int .i64 1,.string ⟨#[103,111,116,111]⟩,.int .i64 0,.slice none 0 0,.int .i64 0,.int .i64 1,.string nj,.int .i64 0,.slice none 0 0,.int .i64 0] j u hu) (ten_one _ _ _ _ _ _ _ _ _ _ _ _ _ _) (by decide) (by unfold maxLen;omega) (by omega) (HG4.out.alloc _).tk.size _ rfl ?_;intro g9 cap9 w5 ho9 hg9 hat9 hlt9;have HE4:=Lib.hid ((HG4.out.alloc _).cat (tvP [wdT wGoto,wdT (toN ns e)]) (tvP_two _ _ rfl rfl) rfl (by rw[HNJ.out];rfl) ho9 hg9);clear ho9 hg9 hat9 hlt9;have S4:=HSJ.out _ HE4.out.kep HE4.out.tk.below))
        all_goals go_wp2
        all_goals go_roundg (m - (k+1))
        case measure=>have:=HI2.out.2;omega
        case rel=>exact⟨k+1,_,by go_num,Lib.hid ⟨by omega,rfl⟩,Lib.hid ((HE4.out.from (HK2.out.trans HE4.out.kep)).to (by rw[take_flat _ HE.out,HUU.out,tokEd,if_neg (by rw[←HKD.out];decide),if_pos HKD.out.symm];simp[tvP]))⟩
       ·rw[←HKD.out] at hk1
        subst hk1
        go_wp2_with (first
         | (go_at_call 18;((with_reducible refine(KW.out _ _).mono ?_));rintro r w3 ⟨rfl,hb3⟩;have HA:=Lib.hid ((HQ0.out.alloc _).below hb3);clear f0 f1 f2 f3 f4;obtain⟨f0,f1,f2,f3,f4⟩:=(HX2.out _ HA.out.kep).all5;clear hb3)
         | (at_builtin;refine wpList_append_lies _ rfl (.tmp 62) (.tmp 70) 44 rfl w.heap.size 48 i0 (.agg #[.int .i64 0,.string ⟨#[]⟩,.int .i64 0,.slice none 0 0,.int .i64 0]) 5 64 Tryz.underlying44 hi0 hz0 hz1 hz2 rfl (by decide) _ q.length (cellsT q) rfl (HA.out.alloc _).tk.row ⟨w3.heap.size,0,none⟩ 1 1 [.int .i64 1,.string ⟨#[115,104,117,116]⟩,.int .i64 0,.slice none 0 0,.int .i64 0] rfl rfl (fun j u hu=>new_cells w3 48 #[.int .i64 1,.string ⟨#[115,104,117,116]⟩,.int .i64 0,.slice none 0 0,.int .i64 0] j u hu) (five_one _ _ _ _ _ _ _) (by decide) (by unfold maxLen;omega) (by omega) (HA.out.alloc _).tk.size _ rfl ?_;intro g9 cap9 w4 ho9 hg9 hat9 hlt9;obtain⟨qB,hqB,HB⟩:∃ q9:List Tv,q9.length≤q.length+1∧Hid (PrT w W2 _ q9 _ w4):=⟨_,(by simp),Lib.hid ((HA.out.alloc _).cat (tvP [wdT wShut]) (tvP_one _ rfl) rfl rfl ho9 hg9)⟩;clear ho9 hg9 hat9 hlt9;clear f0 f1 f2 f3 f4;obtain⟨f0,f1,f2,f3,f4⟩:=(HX2.out _ HB.out.kep).all5)
         | (go_at_call 20;((with_reducible refine(KD.out _).mono ?_));rintro r w7 ⟨g7,cap7,q7,rfl,hb7,H7⟩;have HD7:=Lib.hid (HB.out.below hb7);clear f0 f1 f2 f3 f4;obtain⟨f0,f1,f2,f3,f4⟩:=(HX2.out _ HD7.out.kep).all5;clear hb7)
         | (at_builtin;refine wpList_append_lies _ rfl (.tmp 84) (.tmp 86) 44 rfl w.heap.size 48 i0 (.agg #[.int .i64 0,.string ⟨#[]⟩,.int .i64 0,.slice none 0 0,.int .i64 0]) 5 64 Tryz.underlying44 hi0 hz0 hz1 hz2 rfl (by decide) _ qB.length (cellsT qB) rfl (HD7.out).tk.row ⟨g7,0,none⟩ 3 cap7 (cellsT q7) rfl (by rw[cellsT_length,H7.out.2.2.2]) (H7.out.1.cells rfl) (cellsT_onep H7.out.2.1) (by decide) (by unfold maxLen;omega) (by omega) (HD7.out).tk.size _ rfl ?_;intro g9 cap9 w8 ho9 hg9 hat9 hlt9;obtain⟨qD,hqD,HD8⟩:∃ q9:List Tv,q9.length≤qB.length+3∧Hid (PrT w W2 _ q9 _ w8):=⟨_,(by rw[List.length_append,H7.out.2.2.2];exact Nat.le_refl _),Lib.hid ((HD7.out).cat (q7) (fun x hx=>own_lowP (H7.out.2.1 x hx) HB.out.tk.size) H7.out.2.2.2 rfl ho9 hg9)⟩;clear ho9 hg9 hat9 hlt9;clear f0 f1 f2 f3 f4;obtain⟨f0,f1,f2,f3,f4⟩:=(HX2.out _ HD8.out.kep).all5))
        go_roundg (m - (k+1))
        case measure=>have:=HI2.out.2;omega
        case rel=>exact⟨k+1,_,by go_num,Lib.hid ⟨by omega,rfl⟩,Lib.hid ((HD8.out.from (HK2.out.trans HD8.out.kep)).to (by rw[take_flat _ HE.out,HUU.out,H7.out.2.2.1,tokEd,if_neg (by rw[←HKD.out];decide),if_neg (by rw[←HKD.out];decide)];simp[tvP]))⟩
      ·go_wp2_with (at_builtin;refine wpList_append_lies _ rfl (.tmp 103) (.tmp 105) 44 rfl w.heap.size 48 i0 (.agg #[.int .i64 0,.string ⟨#[]⟩,.int .i64 0,.slice none 0 0,.int .i64 0]) 5 64 Tryz.underlying44 hi0 hz0 hz1 hz2 rfl (by decide) _ q.length (cellsT q) rfl (HP.out.alloc _).tk.row ⟨wr.heap.size,0,none⟩ 1 1 [.int .i64 4,.string ⟨#[125]⟩,.int .i64 0,.slice none 0 0,.int .i64 0] rfl rfl (fun j u hu=>new_cells wr 48 #[.int .i64 4,.string ⟨#[125]⟩,.int .i64 0,.slice none 0 0,.int .i64 0] j u hu) (five_one _ _ _ _ _ _ _) (by decide) (by unfold maxLen;omega) (by omega) (HP.out.alloc _).tk.size _ rfl ?_;intro g9 cap9 w5 ho9 hg9 hat9 hlt9;have HZ:=Lib.hid ((HP.out.alloc _).cat (tvP [sgn [125]]) (tvP_one _ rfl) rfl rfl ho9 hg9);clear ho9 hg9 hat9 hlt9)
       go_roundg (n - (i+1))
       case measure=>have:=HI.out.2;omega
       case rel=>exact⟨i+1,_,by go_num,Lib.hid ⟨by omega,rfl⟩,Lib.hid ((HZ.out.from (HK1.out.trans HZ.out.kep)).to (by rw[take_flat _ HXI.out,HT2.out,HTT.out,take_flat_all (l:=x.edges) (tokEd ns) (by rw[←HME.out];exact hkl),tokPl];simp[tvP]))⟩
  ·have hts:q.map (·.1)=tokPe p:=by rw[HP.out.is,take_flat_all _ (by rw[←HN.out];exact hlt),HT0.out,HNS.out,HCP.out];rfl
   obtain⟨Ao,co,rfl,hro⟩:=rdt_of_own HP.out.tk;rw[hts] at hro;obtain⟨ln,hln⟩:∃ ln,ln=q.length:=⟨_,rfl⟩;rw[←hln] at hro hql ⊢;have HTL:Hid ((tokPe p).length=ln):=Lib.hid (by rw[hln,←hts,List.length_map]);have HLT:=Lib.hid (lit_pe HS.out HM.out);have HOK:Hid (∀ t∈tokPe p,okT t=true):=Lib.hid fun t ht=>(okN_pe HM.out t ht).1
   have HTX:Hid (textPe p=joinT (tokPe p)):=Lib.hid rfl;obtain⟨ts,hts2⟩:∃ ts,ts=tokPe p:=⟨_,rfl⟩;rw[←hts2] at hro HTL HLT HOK HTX;have HRO:=Lib.hid hro;have HBL:=Lib.hid HP.out.tk.below;clear hro hts hts2 hln HP HC HX KW HR HI;have hnlt:¬ (i:Int)<(n:Int):=by omega
   obtain⟨V,rfl⟩:∃ V,V=wr:=⟨_,rfl⟩;go_wp2
   go_loopw [9,10] (fun v9 v10 wr=>∃ (k:Nat) (S:ByteArray),k≤ln∧v10= .int .i64 k∧v9= .string S∧Hid (JR ts k S)∧Hid (Below V.heap.size V wr)) (fun _ v10 _=>ln - (intOf v10).toNat)
   case atStart=>exact⟨0,⟨#[]⟩,by omega,rfl,rfl,Lib.hid ⟨rfl,rfl⟩,Lib.hid (Below.refl _ _)⟩
   case round=>
    obtain⟨k,S,hk,rfl,rfl,HJ,HB⟩:=hrel
    have hSs:S.size≤2001000:=by
     rw[←len_data,HJ.out.out];exact joinPe_len HLT.out HOK.out (by rw[HTL.out];exact hql) k
    by_cases a:k<ln
    ·obtain⟨t,ht⟩:∃ t,ts[k]?=some t:=⟨_,List.getElem?_eq_getElem (by have:=HTL.out;omega)⟩
     obtain⟨ado,A',c',rfl,⟨c0,c1,c2,c3,c4⟩,hrd⟩:=(HRO.out.keep HB.out).at_ ht
     have hmem:=List.mem_of_getElem? ht;have hrd0:Rd V.heap.size wr A' t.parts.length t.parts:=hrd;have KT:=Lib.hid (rtext_any t A' c' wr (hrd0.up HB.out.size) (HLT.out t hmem).1 (HLT.out t hmem).2);unfold tokA at KT;obtain⟨e1,e2⟩:=errB_ok (HOK.out t hmem);rw[e1,e2] at KT;obtain⟨W,hW⟩:∃ W:ByteArray,W=⟨t.word.toArray⟩:=⟨_,rfl⟩;rw[←hW] at c1 KT;obtain⟨mp,hmp⟩:∃ m,m=t.parts.length:=⟨_,rfl⟩;rw[←hmp] at c3 KT;obtain⟨T,hT⟩:∃ T:ByteArray,T=⟨(textT t).toArray⟩:=⟨_,rfl⟩;rw[←hT] at KT;have hTd:T.data.toList=textT t:=by rw[hT]
     have hTs:T.size≤2000:=by rw[←len_data,hTd,←cand_ok (HOK.out t hmem)];exact(HLT.out t hmem).2
     by_cases hk0:k=0
     ·have HSS:=Lib.hid (HJ.out.first hk0 ht (HOK.out t hmem) hTd)
      have hk1:¬ 0<k:=by omega
      have hk2:¬ (0:Int)<k:=by omega
      clear e1 e2 hT hTd hk0 hW hmp hrd hrd0 ht hmem;go_wp2_with (go_at_call 21;((with_reducible refine(KT.out).mono ?_));rintro e w1 ⟨rfl,hb⟩;have HB1:=Lib.hid (HB.out.trans (hb.mono HB.out.size));clear hb)
      go_roundw
      case rel=>exact⟨k+1,_,by omega,by go_num,rfl,HSS,HB1⟩
      case measure=>simp[intOf];omega
     ·have HSS:=Lib.hid (HJ.out.more (by omega) ht (HOK.out t hmem) hTd)
      have hk1:0<k:=by omega
      have hk2:(0:Int)<k:=by omega
      clear e1 e2 hT hTd hk0 hW hmp hrd hrd0 ht hmem;go_wp2_with (go_at_call 21;((with_reducible refine(KT.out).mono ?_));rintro e w1 ⟨rfl,hb⟩;have HB1:=Lib.hid (HB.out.trans (hb.mono HB.out.size));clear hb)
      go_roundw
      case rel=>exact⟨k+1,_,by omega,by go_num,rfl,HSS,HB1⟩
      case measure=>simp[intOf];omega
    ·have hSL:S.data.toList=textPe p:=by rw[HTX.out,HJ.out.out,List.take_of_length_le (by have:=HTL.out;omega)]
     have hSn:S.size=(textPe p).length:=by rw[←hSL,len_data]
     by_cases hl:1000<S.size
     ·have H1:Hid (errPe p=2):=Lib.hid (by unfold errPe;rw[if_pos HM.out,if_pos (by omega)])
      have H2:Hid ((⟨(outText p).toArray⟩:ByteArray)=⟨#[]⟩):=Lib.hid (by unfold outText;rw[if_neg (by rintro⟨_,q⟩;omega)]);have hl2:(1000:Int)<S.size:=by omega
      clear hSL hSn;go_wp2
      go_ret2
      exact⟨ret_sj H2.out H1.out,HBL.out.trans (HB.out.mono HBL.out.size)⟩
     ·have H1:Hid (errPe p=0):=Lib.hid (by unfold errPe;rw[if_pos HM.out,if_neg (by omega)])
      have H2:Hid ((⟨(outText p).toArray⟩:ByteArray)=S):=Lib.hid (by unfold outText;rw[if_pos ⟨HM.out,by omega⟩,←hSL]);have hl2:¬ (1000:Int)<S.size:=by omega
      clear hSL hSn;go_wp2
      go_ret2
      exact⟨ret_sj H2.out H1.out,HBL.out.trans (HB.out.mono HBL.out.size)⟩
theorem pprint_any (p:PeP) (A:Option Addr) (n c:Nat) (w:World) (h:RdX w.heap.size w A n p.places) (hs:smallPe p=true):
  Calls Tryz.prog 9 #[.agg #[.int .i64 p.cap,.slice A n c]] w fun r w'=>r= .returned (.tuple #[.string ⟨(outText p).toArray⟩,.int .i64 (errPe p)])∧Below w.heap.size w w':=by
 cases hm:mayPe p with
 | true=>exact pprint_yes p A n c w h hs hm
 | false=>exact pprint_no p A n c w h hs hm
end Go.Proofs.YtdobinjbejagcaaGreatDoor
