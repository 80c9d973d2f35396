import Derived.Test.YtmmmleoeokaaeaaGreatDoorTkR
import Derived.Test.YtmmmleoeokaaeaaGreatDoorTkQ
import Derived.RegionTactic
import Derived.ChangeAlike
namespace Go.Proofs.YtmmmleoeokaaeaaGreatDoor
open Go Go.RowKit
set_option maxRecDepth 100000
set_option maxHeartbeats 4000000
theorem rtext_any (t:Tok) (A:Option Addr) (c:Nat) (w:World) (h:Rd w.heap.size w A t.parts.length t.parts) (hf:FitT t) (hl:(candT t).length≤2000):
  Calls Tryz.prog 9 #[tokA t A c] w fun e w'=>e= .returned (.tuple #[.string (textB t),.int .i64 (errB t)])∧Below w.heap.size w w':=by
 obtain⟨kd,wd,n,ps,pl⟩:=t;have hC:(⟨(candT ⟨kd,wd,n,ps,pl⟩).toArray⟩:ByteArray).data.toList=candT ⟨kd,wd,n,ps,pl⟩:=rfl;have hCs:(⟨(candT ⟨kd,wd,n,ps,pl⟩).toArray⟩:ByteArray).size≤2000:=by rw[←len_data];exact hl
 have KS:∀ w' wb,Below wb.heap.size wb w'→Calls Tryz.prog 20 #[.string ⟨(candT ⟨kd,wd,n,ps,pl⟩).toArray⟩] w' fun e w2=>PostT w' (scan (candT ⟨kd,wd,n,ps,pl⟩)) e w2∧Below wb.heap.size wb w2:=fun w' wb hb=>by
  have:=rscan_any _ (Nat.le_trans hCs (by decide)) w';rw[hC] at this;exact this.mono fun e w2 hp=>⟨hp,by obtain⟨v,l,_,ht,_⟩:=hp;exact hb.trans (ht.below.mono hb.size)⟩
 by_cases ho:okT ⟨kd,wd,n,ps,pl⟩=true
 ·have e1:=cand_ok ho
  have hsc:=scan_text _ ho hf.n.2 (by rw[←e1];exact hl);rw[←e1] at hsc;have h0:errB ⟨kd,wd,n,ps,pl⟩=0∧textB ⟨kd,wd,n,ps,pl⟩=⟨(candT ⟨kd,wd,n,ps,pl⟩).toArray⟩:=by rw[e1];exact errB_ok ho
  rw[h0.1,h0.2];refine rtext_yes kd wd n ps pl A ps.length c rfl w h hf _ rfl _ rfl hCs (withPl ⟨kd,wd,n,ps,pl⟩ 0) (Nat.le_trans hf.parts (by decide)) (eqT_self _) fun w' hb=>(KS w' _ hb).mono fun e w2 ⟨hp,h2⟩=>?_
  rw[hsc] at hp;obtain⟨v,l,he,ht,hm⟩:=hp;exact⟨v,l,he,ht,hm,h2⟩
 ·have ho:=Bool.eq_false_iff.2 ho
  have h0:errB ⟨kd,wd,n,ps,pl⟩=5∧textB ⟨kd,wd,n,ps,pl⟩=⟨#[]⟩:=by unfold errB textB;rw[ho];exact⟨rfl,rfl⟩
  rw[h0.1,h0.2]
  rcases cand_no ho hl with ⟨q,x,hsc,hx⟩ | ⟨out,hsc,hr,hlen,hone⟩
  ·refine rtext_none kd wd n ps pl A ps.length c rfl w h hf _ rfl _ rfl hCs q x (by rcases hx with e | e <;> (subst e;rfl)) (by rcases hx with e | e <;> (subst e;rfl)) fun w' hb=>(KS w' _ hb).mono fun e w2 ⟨hp,h2⟩=>?_
   rw[hsc] at hp;obtain⟨A2,c2,he,_,_⟩:=postT_read (ts:=[]) rfl hp;exact⟨A2,c2,he,h2⟩
  ·by_cases h1:out.length=1
   ·obtain⟨x,rfl⟩:=List.length_eq_one_iff.1 h1
    refine rtext_no kd wd n ps pl A ps.length c rfl w h hf _ rfl _ rfl hCs x (by
     rcases(hr x (by simp)).parts with e | ⟨l,q,e,hl2⟩
     ·rw[e];simp
     ·have:=parse_len l x.parts (by rw[e]);omega) (hone x rfl) fun w' hb=>(KS w' _ hb).mono fun e w2 ⟨hp,h2⟩=>?_
    rw[hsc] at hp;obtain⟨v,l,he,ht,hm⟩:=hp;exact⟨v,l,he,ht,hm,h2⟩
   ·refine rtext_many kd wd n ps pl A ps.length c rfl w h hf _ rfl _ rfl hCs out.length (by simp;omega) (by simpa using h1) fun w' hb=>(KS w' _ hb).mono fun e w2 ⟨hp,h2⟩=>?_
    rw[hsc] at hp;obtain⟨A2,c2,he,_,_⟩:=postT_read (ts:=out) rfl hp;exact⟨A2,c2,he,h2⟩
theorem joinT_take {ts:List Tok} (hl:∀ t∈ts,okT t=true→(textT t).length≤2000):∀ k,(ts.take k).all okT=true→(joinT (ts.take k)).length≤k * 2001
 | 0,_=>by simp[joinT]
 | k+1,h=>by
   by_cases hk:k<ts.length
   ·have e:ts.take (k+1)=ts.take k++[ts[k]]:=List.take_succ_eq_append_getElem hk
    rw[e,List.all_append,Bool.and_eq_true] at h;have ih:=joinT_take hl k h.1;have ho:okT ts[k]=true:=by simpa using h.2
    have:=hl ts[k] (by simp) ho;have h1:(if ts.take k=[] then ([]:Bs) else [32]).length≤1:=by split <;> simp
    rw[e,joinT_snoc,List.length_append,List.length_append,Nat.succ_mul];exact Nat.le_trans (Nat.add_le_add (Nat.add_le_add ih h1) this) (by omega)
   ·rw[List.take_of_length_le (by omega)] at h ⊢
    have ih:=joinT_take hl k (by rw[List.take_of_length_le (by omega)];exact h);rw[List.take_of_length_le (by omega)] at ih;rw[Nat.succ_mul];exact Nat.le_trans ih (Nat.le_add_right _ _)
structure JR (ts:List Tok) (k:Nat) (S:ByteArray):Prop where
 ok:(ts.take k).all okT=true
 out:S.data.toList=joinT (ts.take k)
theorem JR.more {ts:List Tok} {k:Nat} {S:ByteArray} {t:Tok} {T:ByteArray} (h:JR ts k S) (hk:0<k) (ht:ts[k]?=some t) (ho:okT t=true) (hT:T.data.toList=textT t):JR ts (k+1) (S++⟨#[32]⟩++T):=by
 refine⟨by rw[take_snocT ht,List.all_append,h.ok];simp[ho],?_⟩
 have hne:¬ ts.take k=[]:=by
  intro e;have h1:=congrArg List.length e;have h2:=(List.getElem?_eq_some_iff.1 ht).1;rw[List.length_take,List.length_nil] at h1;omega
 rw[take_snocT ht,joinT_snoc,if_neg hne];exact cat_data _ _ _ _ (cat_data _ _ _ _ h.out rfl) hT
theorem JR.first {ts:List Tok} {k:Nat} {S:ByteArray} {t:Tok} {T:ByteArray} (h:JR ts k S) (hk:k=0) (ht:ts[k]?=some t) (ho:okT t=true) (hT:T.data.toList=textT t):JR ts (k+1) (S++T):=by
 subst hk;refine⟨by rw[take_snocT ht,List.all_append,h.ok];simp[ho],?_⟩;rw[take_snocT ht,joinT_snoc];have:=cat_data S T _ _ h.out hT;rw[this];simp
theorem JR.end_ {ts:List Tok} {k:Nat} {S:ByteArray} (h:JR ts k S) (hk:¬ k<ts.length):(2000<S.size→joinE ts=2∧joinB ts=⟨#[]⟩)∧(¬ 2000<S.size→joinE ts=0∧joinB ts=S):=by
 have h1:=h.ok;have h2:=h.out;rw[List.take_of_length_le (by omega)] at h1 h2;have h3:S.size=(joinT ts).length:=by rw[←h2,len_data]
 constructor
 ·intro hl
  unfold joinE joinB;rw[h1,if_pos rfl,if_pos (by omega),if_neg (by rintro⟨_,a⟩;omega)];exact⟨rfl,rfl⟩
 ·intro hl
  unfold joinE joinB;rw[h1,if_pos rfl,if_neg (by omega),if_pos ⟨rfl,by omega⟩];exact⟨rfl,(ba_eq _ _ h2).symm⟩
theorem rjoin_any (A:Option Addr) (n c:Nat) (ts:List Tok) (w:World) (h:RdT w.heap.size w A n ts) (hn:n≤1000) (hf:∀ t∈ts,FitT t) (hl:∀ t∈ts,(candT t).length≤2000):
  Calls Tryz.prog 7 #[.slice A n c] w fun e w'=>e= .returned (.tuple #[.string (joinB ts),.int .i64 (joinE ts)])∧Below w.heap.size w w':=by
 have HR:=Lib.hid h;have HF:=Lib.hid hf;have HL:=Lib.hid hl;have HN:=Lib.hid h.1;have HT2:Hid (∀ t∈ts,okT t=true→(textT t).length≤2000):=Lib.hid fun t ht ho=>by rw[←cand_ok ho];exact hl t ht
 clear h hf hl;go_enter Tryz.func7,Tryz.ntmps7;go_wp2
 go_loopw [4,5] (fun v i wr=>∃ (k:Nat) (S:ByteArray),k≤n∧i= .int .i64 k∧v= .string S∧JR ts k S∧Below w.heap.size w wr) (fun _ i _=>n - (intOf i).toNat)
 case atStart=>exact⟨0,⟨#[]⟩,by omega,rfl,rfl,⟨rfl,rfl⟩,Below.refl _ _⟩
 case round=>
  obtain⟨k,S,hk,rfl,rfl,hJ,hB⟩:=hrel
  have hSs:S.size≤2001000:=by
   rw[←len_data,hJ.out];have:=joinT_take HT2.out k hJ.ok;have:k * 2001≤1000 * 2001:=Nat.mul_le_mul_right _ (by omega);omega
  have HJ:=Lib.hid hJ;have HB:=Lib.hid hB;clear hJ hB;by_cases a:k<n
  ·obtain⟨t,ht⟩:∃ t,ts[k]?=some t:=⟨_,List.getElem?_eq_getElem (by have:=HN.out;omega)⟩
   obtain⟨ad,A',c',rfl,⟨c0,c1,c2,c3,c4⟩,hrd⟩:=(HR.out.keep HB.out).at_ ht
   have hmem:=List.mem_of_getElem? ht;have hrd0:Rd w.heap.size wr A' t.parts.length t.parts:=hrd;have KT:=Lib.hid (rtext_any t A' c' wr (hrd0.up HB.out.size) (HF.out t hmem) (HL.out t hmem));unfold tokA at KT;have HT:=Lib.hid ht;have HM:=Lib.hid hmem;obtain⟨W,hW⟩:∃ W:ByteArray,W=⟨t.word.toArray⟩:=⟨_,rfl⟩;rw[←hW] at c1 KT;obtain⟨m,hm⟩:∃ m,m=t.parts.length:=⟨_,rfl⟩;rw[←hm] at c3 KT;clear hrd hrd0 ht hmem hW hm;by_cases ho:okT t=true
   ·obtain⟨e1,e2⟩:=errB_ok ho
    rw[e1,e2] at KT;obtain⟨T,hT⟩:∃ T:ByteArray,T=⟨(textT t).toArray⟩:=⟨_,rfl⟩;rw[←hT] at KT;have hTd:T.data.toList=textT t:=by rw[hT]
    have hTs:T.size≤2000:=by rw[←len_data,hTd];exact HT2.out t HM.out ho
    by_cases hk0:k=0
    ·have HS:=Lib.hid (HJ.out.first hk0 HT.out ho hTd)
     have hk1:¬ 0<k:=by omega
     have hk2:¬ (0:Int)<k:=by omega
     clear e1 e2 hT hTd ho hk0;go_wp2_with (go_at_call 9;((with_reducible refine(KT.out).mono ?_));rintro e w1 ⟨rfl,hb⟩;have HB1:=Lib.hid (HB.out.trans (hb.mono HB.out.size));clear hb)
     go_roundw
     case rel=>exact⟨k+1,_,by omega,by go_num,rfl,HS.out,HB1.out⟩
     case measure=>simp[intOf];omega
    ·have HS:=Lib.hid (HJ.out.more (by omega) HT.out ho hTd)
     have hk1:0<k:=by omega
     have hk2:(0:Int)<k:=by omega
     clear e1 e2 hT hTd ho hk0;go_wp2_with (go_at_call 9;((with_reducible refine(KT.out).mono ?_));rintro e w1 ⟨rfl,hb⟩;have HB1:=Lib.hid (HB.out.trans (hb.mono HB.out.size));clear hb)
     go_roundw
     case rel=>exact⟨k+1,_,by omega,by go_num,rfl,HS.out,HB1.out⟩
     case measure=>simp[intOf];omega
   ·have ho:=Bool.eq_false_iff.2 ho
    obtain⟨e1,e2⟩:=JI.bad HT.out ho;rw[errB_no ho] at KT;have H1:=Lib.hid e1;have H2:=Lib.hid e2;clear e1 e2 ho;go_wp2_with (go_at_call 9;((with_reducible refine(KT.out).mono ?_));rintro e w1 ⟨rfl,hb⟩;have HB1:=Lib.hid (HB.out.trans (hb.mono HB.out.size));clear hb)
    go_ret2
    exact⟨ret_sj H2.out H1.out,HB1.out⟩
  ·obtain⟨f1,f2⟩:=HJ.out.end_ (by have:=HN.out;omega)
   by_cases hl:2000<S.size
   ·obtain⟨e1,e2⟩:=f1 hl
    have H1:=Lib.hid e1;have H2:=Lib.hid e2;have hl2:(2000:Int)<S.size:=by omega
    clear e1 e2 f1 f2;go_wp2
    go_ret2
    exact⟨ret_sj H2.out H1.out,HB.out⟩
   ·obtain⟨e1,e2⟩:=f2 hl
    have H1:=Lib.hid e1;have H2:=Lib.hid e2;have hl2:¬ (2000:Int)<S.size:=by omega
    clear e1 e2 f1 f2;go_wp2
    go_ret2
    exact⟨ret_sj H2.out H1.out,HB.out⟩
def okS (t:Tok):Bool:=decide (t.word.length≤60) && decide (t.parts.length≤6) && t.parts.all okQ
def smallT (ts:List Tok):Bool:=decide (ts.length≤30) && ts.all okS
theorem all_takeT {ps:List Tok} {k:Nat} {p:Tok} (f:Tok→Bool) (h:ps[k]?=some p):(ps.take (k+1)).all f=((ps.take k).all f && f p):=by
 obtain⟨hk,e⟩:=List.getElem?_eq_some_iff.1 h;rw[List.take_succ_eq_append_getElem hk,e];simp
theorem all_notT {ps:List Tok} {k:Nat} {p:Tok} (f:Tok→Bool) (h:ps[k]?=some p) (hf:f p=false):ps.all f=false:=by
 rw[List.all_eq_false];exact⟨p,List.mem_of_getElem? h,by simp[hf]⟩
theorem RdT.all_ {B:Nat} {w:World} {A:Option Addr} {n:Nat} {ts:List Tok} {k:Nat} {t:Tok} (h:RdT B w A n ts) (hk:ts[k]?=some t):
  ∃ ad A' c',A=some ad∧∀ w',Below B w w'→At5 w' (ad.add (k * 5)) t A' c'∧Rd B w' A' t.parts.length t.parts:=by
 obtain⟨ad,e,hlt,hc⟩:=h.2 (by have:=(List.getElem?_eq_some_iff.1 hk).1;have:=h.1;omega);obtain⟨A',c',h5,hr⟩:=hc k t hk;exact⟨ad,A',c',e,fun w' hb=>⟨h5.keep (by rw[block_of_add];exact hlt) hb,hr.keep hb⟩⟩
theorem smallT_any (A:Option Addr) (n c:Nat) (ts:List Tok) (w:World) (h:RdT w.heap.size w A n ts) (hmax:n≤9223372036854775807) (hps:∀ t∈ts,t.parts.length≤9223372036854775807):
  Calls Tryz.prog 5 #[.slice A n c] w fun e w'=>e= .returned (.bool (smallT ts))∧Below w.heap.size w w':=by
 have hn:=h.1;obtain⟨v,hv⟩:∃ v,v=smallT ts:=⟨_,rfl⟩;rw[←hv];by_cases h30:n≤30
 ·have HV:Hid (v=ts.all okS):=by apply Lib.hid;rw[hv];unfold smallT;rw[←hn];simp[h30]
  have HR:=Lib.hid h;have HN:=Lib.hid hn;have HPS:=Lib.hid hps;clear hv h hn hps;go_enter Tryz.func5,Tryz.ntmps5;go_wp2
  go_loopw [12] (fun i wr=>∃ k:Nat,k≤n∧i= .int .i64 k∧(ts.take k).all okS=true∧Below w.heap.size w wr) (fun i _=>n - (intOf i).toNat)
  case atStart=>exact⟨0,by omega,rfl,rfl,Below.refl _ _⟩
  case round=>
   obtain⟨k,hk,rfl,hall,hb⟩:=hrel;have HA:=Lib.hid hall;have HB:=Lib.hid hb;obtain⟨wo,rfl⟩:∃ wo:World,wo=wr:=⟨_,rfl⟩;clear hall hb;by_cases a:k<n
   ·obtain⟨t,ht⟩:∃ t,ts[k]?=some t:=⟨_,List.getElem?_eq_getElem (by have:=HN.out;omega)⟩
    obtain⟨ad,A',c',rfl,hev⟩:=HR.out.all_ ht;obtain⟨⟨c0,c1,c2,c3,c4⟩,_⟩:=hev wo HB.out;have hmp:=HPS.out t (List.mem_of_getElem? ht);obtain⟨W,hW⟩:∃ W:ByteArray,W=⟨t.word.toArray⟩:=⟨_,rfl⟩;have hWs:W.size=t.word.length:=by rw[←len_data,hW]
    rw[←hW] at c1;obtain⟨m,hm⟩:∃ m,m=t.parts.length:=⟨_,rfl⟩;have HRD:Hid (∀ w',Below w.heap.size w w'→Rd w.heap.size w' A' m t.parts):=Lib.hid fun w' hb=>by rw[hm];exact(hev w' hb).2
    rw[←hm] at c3 hmp;clear hev;have HT:=Lib.hid ht;have HM:=Lib.hid hm;have HWS:=Lib.hid hWs;by_cases l1:W.size≤60
    ·by_cases l2:m≤6
     ·clear ht hW hm hWs
      go_wp2
      go_loopw [29] (fun i wq=>∃ j:Nat,j≤m∧i= .int .i64 j∧(t.parts.take j).all okQ=true∧Below w.heap.size w wq) (fun i _=>m - (intOf i).toNat)
      case atStart=>exact⟨0,by omega,rfl,rfl,HB.out.alloc HB.out.size _⟩
      case round=>
       obtain⟨j,hj,rfl,hallj,hbq⟩:=hrel;have HAJ:=Lib.hid hallj;have HBQ:=Lib.hid hbq;clear hallj hbq;by_cases b:j<m
       ·have hrq:=HRD.out _ HBQ.out
        obtain⟨ap,rfl,hrp⟩:=hrq.2 (by omega);obtain⟨p,hp⟩:∃ p,t.parts[j]?=some p:=⟨_,List.getElem?_eq_getElem (by have:=HM.out;omega)⟩;obtain⟨d0,d1⟩:=hrp.at_ hp
        have HP:=Lib.hid hp;clear hrq hrp hp;by_cases q1:p.1.length≤60
        ·by_cases q2:p.2.length≤60
         ·have HX:Hid ((t.parts.take (j+1)).all okQ=true):=by apply Lib.hid;rw[all_take okQ HP.out,HAJ.out];simp[okQ,q1,q2]
          go_wp2
          go_roundw
          case rel=>exact⟨j+1,by omega,by go_num,HX.out,HBQ.out.alloc HBQ.out.size _⟩
          case measure=>simp[intOf];omega
         ·have HX:Hid (v=false):=by
           apply Lib.hid;rw[HV.out];refine all_notT okS HT.out ?_;unfold okS;rw[all_not okQ HP.out (by simp[okQ];omega),Bool.and_false]
          go_wp2;go_ret;exact⟨ret_bool HX.out.symm,HBQ.out.alloc HBQ.out.size _⟩
        ·have HX:Hid (v=false):=by
          apply Lib.hid;rw[HV.out];refine all_notT okS HT.out ?_;unfold okS;rw[all_not okQ HP.out (by simp[okQ];omega),Bool.and_false]
         go_wp2;go_ret;exact⟨ret_bool HX.out.symm,HBQ.out.alloc HBQ.out.size _⟩
       ·have HX:Hid ((ts.take (k+1)).all okS=true):=by
         apply Lib.hid;have h1:=HAJ.out;rw[List.take_of_length_le (by have:=HM.out;omega)] at h1;rw[all_takeT okS HT.out,HA.out];unfold okS;rw[h1,←HM.out,←HWS.out];simp[l1,l2]
        go_wp2
        go_roundw
        case rel=>exact⟨k+1,by omega,by go_num,HX.out,HBQ.out⟩
        case measure=>simp[intOf];omega
     ·have HX:Hid (v=false):=by apply Lib.hid;rw[HV.out];exact all_notT okS HT.out (by unfold okS;rw[←HM.out];simp[l2])
      clear ht hW hm hWs;go_wp2;go_ret;exact⟨ret_bool HX.out.symm,HB.out.alloc HB.out.size _⟩
    ·have HX:Hid (v=false):=by apply Lib.hid;rw[HV.out];exact all_notT okS HT.out (by unfold okS;rw[←HWS.out];simp[l1])
     clear ht hW hm hWs;go_wp2;go_ret;exact⟨ret_bool HX.out.symm,HB.out.alloc HB.out.size _⟩
   ·have HX:Hid (v=true):=by
     apply Lib.hid;rw[HV.out];have:=HA.out;rw[List.take_of_length_le (by have:=HN.out;omega)] at this;exact this
    go_wp2;go_ret;exact⟨ret_bool HX.out.symm,HB.out⟩
 ·have HV:Hid (v=false):=by apply Lib.hid;rw[hv];unfold smallT;rw[←hn];simp[h30]
  clear hv h hn hps;go_enter Tryz.func5,Tryz.ntmps5;go_wp2;go_ret;exact⟨ret_bool HV.out.symm,Below.refl _ _⟩
theorem part_len60 (p:Pt) (h:okQ p=true):(prP p).length≤303:=by
 unfold okQ at h;simp at h;have h1:=bytes_len p.2;have e:prP p=prV p.1++p.2.flatMap prB:=rfl;rw[e,List.length_append]
 have h2:(prV p.1).length≤p.1.length+3:=by
  unfold prV;split
  ·simp
  ·simp
 omega
theorem parts_len60:∀ ps:List Pt,ps.all okQ=true→(ps.flatMap prP).length≤303 * ps.length
 | [],_=>by simp
 | p::ps,h=>by
   rw[List.all_cons,Bool.and_eq_true] at h;have:=parts_len60 ps h.2;have:=part_len60 p h.1;rw[List.flatMap_cons,List.length_append,List.length_cons];omega
theorem okS_facts {t:Tok} (h:okS t=true) (hn: -9223372036854775808≤t.n∧t.n≤9223372036854775807):FitT t∧(candT t).length≤2000:=by
 unfold okS at h;simp only[Bool.and_eq_true,decide_eq_true_eq] at h;obtain⟨⟨h1,h2⟩,h3⟩:=h;have hb:=parts_len60 t.parts h3;rw[List.all_eq_true] at h3;have hpr:(print t.parts).length≤1900:=by unfold print;simp only[List.length_cons,List.length_append,List.length_nil];omega
 refine⟨⟨by omega,hn,by omega,fun p hp=>?_,fun p hp=>?_,by omega⟩,?_⟩
 ·have:=h3 p hp;unfold okQ at this;simp at this;omega
 ·have:=h3 p hp;unfold okQ at this;simp at this;omega
 ·unfold candT
  split
  ·omega
  ·split
   ·split
    ·have:=Lib.itoa_length_le t.n hn.1 hn.2;omega
    ·simp
   ·split
    ·split
     ·omega
     ·simp
    ·split
     ·rw[List.length_cons];omega
     ·split
      ·rw[List.length_cons];omega
      ·simp
theorem noPl_len {a b:List Tok} (h:noPl a=noPl b):a.length=b.length:=by
 have:=congrArg List.length h;simpa[noPl] using this
theorem noPl_at {a b:List Tok} (h:noPl a=noPl b) {k:Nat} {x y:Tok} (hx:a[k]?=some x) (hy:b[k]?=some y):withPl x 0=withPl y 0:=by
 have h1:(noPl a)[k]?=some (withPl x 0):=by unfold noPl;rw[List.getElem?_map,hx];rfl
 have h2:(noPl b)[k]?=some (withPl y 0):=by unfold noPl;rw[List.getElem?_map,hy];rfl
 rw[h,h2] at h1;injection h1 with h1;exact h1.symm
theorem cell_al {w:World} {p:Addr} {v:Value} (h:w.cell? p=some v) (o:Obj):(w.alloc o).cell? p=some v:=by
 have hb:Below w.heap.size w (w.alloc o):=(Below.refl _ _).alloc (Nat.le_refl _) o;exact(hb.cell (World.block_lt_of_cell? w _ h)).trans h
theorem cell_al2 {w:World} {p:Addr} {v:Value} (h:w.cell? p=some v) (o o2:Obj):((w.alloc o).alloc o2).cell? p=some v:=cell_al (cell_al h o) o2
theorem lsame_yes (A A':Option Addr) (n c c':Nat) (xs ys:List Tok) (w:World) (h:RdT w.heap.size w A n xs) (h':RdT w.heap.size w A' n ys) (hn:n≤1000000) (he:noPl xs=noPl ys) (hp:∀ t∈xs,t.parts.length≤1000000):
  Calls Tryz.prog 11 #[.slice A n c,.slice A' n c'] w fun e w'=>e= .returned (.bool true)∧Below w.heap.size w w':=by
 have HR:=Lib.hid h;have HR':=Lib.hid h';have HN:=Lib.hid h.1;have HN':=Lib.hid h'.1;have HE:=Lib.hid he;have HP:=Lib.hid hp;clear h h' he hp;go_enter Tryz.func11,Tryz.ntmps11;go_wp2
 go_loopw [15] (fun i wr=>∃ k:Nat,k≤n∧i= .int .i64 k∧Below w.heap.size w wr) (fun i _=>n - (intOf i).toNat)
 case atStart=>exact⟨0,by omega,rfl,Below.refl _ _⟩
 case round=>
  obtain⟨k,hk,rfl,hb⟩:=hrel;have HB:=Lib.hid hb;clear hb;by_cases a:k<n
  ·obtain⟨x,hx⟩:∃ t,xs[k]?=some t:=⟨_,List.getElem?_eq_getElem (by have:=HN.out;omega)⟩
   obtain⟨y,hy⟩:∃ t,ys[k]?=some t:=⟨_,List.getElem?_eq_getElem (by have:=HN'.out;omega)⟩;obtain⟨ad,A1,c1,rfl,h5,hrx⟩:=(HR.out.next HB.out).at_ hx
   obtain⟨ad',A2,c2,rfl,h5',hry⟩:=(HR'.out.next HB.out).at_ hy
   have hxy:=noPl_at HE.out hx hy
   have K:∀ w',Below wr.heap.size wr w'→Calls Tryz.prog 21 #[tokA (withPl x 0) A1 c1,tokA (withPl y 0) A2 c2] w' fun e w2=>e= .returned (.bool true)∧Below wr.heap.size wr w2:=fun w' hb'=>by
    have:=tsame_any (withPl x 0) (withPl y 0) A1 A2 c1 c2 w' (hrx.onto hb') (hry.onto hb') (HP.out x (List.mem_of_getElem? hx));rw[hxy,eqT_self] at this;rw[hxy];exact this.mono fun e w2 ⟨he,h2⟩=>⟨he,hb'.trans (h2.mono hb'.size)⟩
   have HK:Hid (∀ w',Below wr.heap.size wr w'→Calls Tryz.prog 21 #[.agg #[.int .i64 x.kind,.string ⟨x.word.toArray⟩,.int .i64 x.n,.slice A1 x.parts.length c1,.int .i64 0],.agg #[.int .i64 y.kind,.string ⟨y.word.toArray⟩,.int .i64 y.n,.slice A2 y.parts.length c2,.int .i64 0]] w' fun e w2=>e= .returned (.bool true)∧Below wr.heap.size wr w2):=Lib.hid K;obtain⟨x0,x1,x2,x3,x4⟩:=h5;obtain⟨y0,y1,y2,y3,y4⟩:=h5';clear K hx hy hxy hrx hry;generalize (⟨x.word.toArray⟩:ByteArray)=W1 at x1 HK;generalize (⟨y.word.toArray⟩:ByteArray)=W2 at y1 HK;generalize x.parts.length=m1 at x3 HK;generalize y.parts.length=m2 at y3 HK;have ax0:=cell_al x0;have ex0:=cell_al2 x0;have ax1:=cell_al x1;have ex1:=cell_al2 x1;have ax2:=cell_al x2;have ex2:=cell_al2 x2;have ax3:=cell_al x3;have ex3:=cell_al2 x3;have ax4:=cell_al x4;have ex4:=cell_al2 x4;have ay0:=cell_al y0;have ey0:=cell_al2 y0;have ay1:=cell_al y1;have ey1:=cell_al2 y1;have ay2:=cell_al y2;have ey2:=cell_al2 y2;have ay3:=cell_al y3;have ey3:=cell_al2 y3;have ay4:=cell_al y4;have ey4:=cell_al2 y4;go_wp2
   go_region
   all_goals
    clear x0 ax0 ex0 x1 ax1 ex1 x2 ax2 ex2 x3 ax3 ex3 x4 ax4 ex4 y0 ay0 ey0 y1 ay1 ey1 y2 ay2 ey2 y3 ay3 ey3 y4 ay4 ey4;go_wp2_with (go_at_call 21;((with_reducible refine(HK.out _ (((Below.refl _ _).alloc (Nat.le_refl _) _).alloc (by simp) _).drew).mono ?_));rintro e w2 ⟨rfl,hb2⟩;have HB2:=Lib.hid (HB.out.trans (hb2.mono HB.out.size));clear hb2)
    go_roundw
    case rel=>exact⟨k+1,by omega,by go_num,HB2.out⟩
    case measure=>simp[intOf];omega
  ·go_wp2
   go_ret;exact⟨rfl,HB.out⟩
end Go.Proofs.YtmmmleoeokaaeaaGreatDoor
