import Derived.Test.YtdobinjbejagcaaGreatDoorRc8
import Derived.Test.YtdobinjbejagcaaGreatDoorPm6
import Derived.Test.YtdobinjbejagcaaGreatDoorRm1
import Derived.Test.YtdobinjbejagcaaGreatDoorRc11
import Derived.Test.YtdobinjbejagcaaGreatDoorPw4
import Derived.Test.YtdobinjbejagcaaGreatDoorPlainC
namespace Go.Proofs.YtdobinjbejagcaaGreatDoor
open Go Go.RowKit
set_option maxRecDepth 100000
set_option maxHeartbeats 8000000
theorem name_begins {s:Bs} {c:UInt8} {r:Bs} (hs:s=c::r) (h:isName s=true):begins s= !(decide ((48:Int)≤(c.toNat:Int)) && decide ((c.toNat:Int)≤57)):=by
 subst hs;show decide (97≤(c.toNat:Int))=_;unfold isName at h;simp only[Bool.and_eq_true] at h;have h2:=of_decide_eq_true h.2;simp only[nameLen] at h2;by_cases d:isDig c=true
 ·unfold isDig at d
  have d:=of_decide_eq_true d;rw[decide_eq_false (by omega),decide_eq_true d.1,decide_eq_true d.2];rfl
 ·rw[if_neg d] at h2
  by_cases l:isLow c=true
  ·unfold isLow at l
   have l:=of_decide_eq_true l;rw[decide_eq_true l.1,decide_eq_false (p:=(c.toNat:Int)≤57) (by omega),Bool.and_false];rfl
  ·rw[if_neg l] at h2
   simp at h2
theorem cisname_any (S:ByteArray) (hS:S.size≤1000000) (w:World):Calls Tryz.prog 23 #[.string S] w fun e w'=>e= .returned (.bool (isName S.data.toList && begins S.data.toList))∧w=w':=by
 have K:Hid (∀ w',Calls Tryz.prog 52 #[.string S] w' fun e w2=>e= .returned (.bool (isName S.data.toList))∧w'=w2):=Lib.hid fun w'=>name_any S (by omega) w'
 cases hn:isName S.data.toList with
 | false=>
   rw[hn] at K;clear hn;go_enter Tryz.func23,Tryz.ntmps23;go_wp2_with (go_at_call 52;go_must (((with_reducible refine(K.out _).mono ?_));rintro e w1 ⟨rfl,rfl⟩));go_ret;exact⟨rfl,rfl⟩
 | true=>
   rw[hn] at K
   have hne:0<S.size:=by
    have:=(name_all hn).1;have h1:S.data.toList.length=S.size:=Array.length_toList;have:=List.length_pos_iff.2 this;omega
   have hb:begins S.data.toList= !(decide ((48:Int)≤((S[0]).toNat:Int)) && decide (((S[0]).toNat:Int)≤57)):=by
    obtain⟨c,r,hcr⟩:∃ c r,S.data.toList=c::r:=by
     cases hq:S.data.toList with
     | nil=>have h1:S.data.toList.length=S.size:=Array.length_toList;rw[hq] at h1;simp at h1;omega
     | cons c r=>exact⟨c,r,rfl⟩
    have e0:S[0]=c:=by
     have:S.data.toList[0]?=some c:=by rw[hcr];rfl
     rw[List.getElem?_eq_getElem (by have h1:S.data.toList.length=S.size:=Array.length_toList;omega)] at this;injection this
    rw[e0];exact name_begins hcr hn
   rw[Bool.true_and,hb];by_cases c1:(48:Int)≤((S[0]).toNat:Int)
   ·by_cases c2:((S[0]).toNat:Int)≤57
    ·rw[decide_eq_true c1,decide_eq_true c2]
     clear hb hn;go_enter Tryz.func23,Tryz.ntmps23;go_wp2_with (go_at_call 52;go_must (((with_reducible refine(K.out _).mono ?_));rintro e w1 ⟨rfl,rfl⟩));go_ret;exact⟨by simp,rfl⟩
    ·rw[decide_eq_true c1,decide_eq_false c2]
     clear hb hn;go_enter Tryz.func23,Tryz.ntmps23;go_wp2_with (go_at_call 52;go_must (((with_reducible refine(K.out _).mono ?_));rintro e w1 ⟨rfl,rfl⟩));go_ret;exact⟨by simp[c2],rfl⟩
   ·rw[decide_eq_false c1]
    clear hb hn;go_enter Tryz.func23,Tryz.ntmps23;go_wp2_with (go_at_call 52;go_must (((with_reducible refine(K.out _).mono ?_));rintro e w1 ⟨rfl,rfl⟩));go_ret;exact⟨by simp,rfl⟩
theorem camong_any (xs:List PlP) (A:Option Addr) (n c j:Nat) (s:Bs) (w:World) (h:RdX w.heap.size w A n xs) (hj:j≤n) (hn:n≤1000000):
  Calls Tryz.prog 24 #[.string ⟨s.toArray⟩,.slice A j c] w fun e w'=>e= .returned (.bool (((xs.take j).map (·.name)).contains s))∧Below w.heap.size w w':=by
 obtain⟨v,hv⟩:∃ v,v=((xs.take j).map (·.name)).contains s:=⟨_,rfl⟩;rw[←hv];have HV:=Lib.hid hv;have HR:=Lib.hid h;have HN:=Lib.hid h.1;obtain⟨T,hT⟩:∃ T:ByteArray,T=⟨s.toArray⟩:=⟨_,rfl⟩;rw[←hT];have HT:=Lib.hid hT;clear hv h hT;go_enter Tryz.func24,Tryz.ntmps24;go_wp2
 go_loopw [9] (fun i wr=>∃ k:Nat,k≤j∧i= .int .i64 k∧(∀ (i:Nat) (y:PlP),i<k→xs[i]?=some y→y.name≠s)∧Below w.heap.size w wr) (fun i _=>j - (intOf i).toNat)
 case atStart=>exact⟨0,by omega,rfl,fun _ _ h=>by omega,Below.refl _ _⟩
 case round=>
  obtain⟨k,hk,rfl,hq,hb⟩:=hrel;have HU:=Lib.hid hb;have HQ:=Lib.hid hq;clear hq;by_cases a2:k<j
  ·obtain⟨y,hy⟩:∃ y,xs[k]?=some y:=⟨_,List.getElem?_eq_getElem (by have:=HN.out;omega)⟩
   obtain⟨ad2,Ay,cy,rfl,hl2,⟨t0,t1,t2⟩,_⟩:=(HR.out.next hb).at_ hy
   have i3:(ad2.add (k * 3)).block<wr.heap.size:=by rw[block_of_add];exact hl2
   obtain⟨TY,hTY⟩:∃ T:ByteArray,T=⟨y.name.toArray⟩:=⟨_,rfl⟩;rw[←hTY] at t0;have hB1:∀ o,Below w.heap.size w (wr.alloc o):=fun o=>hb.trans ((one_boxP wr o).mono hb.size)
   have HB1:=Lib.hid hB1;by_cases e3:TY=T
   ·have HG:Hid (v=true):=Lib.hid (by
     rw[HV.out,List.contains_iff_mem];have e4:y.name=s:=by rw[hTY,HT.out] at e3;have:=congrArg (fun b:ByteArray=>b.data.toList) e3;exact this
     rw[←e4];refine List.mem_map.2 ⟨y,?_,rfl⟩;have:(xs.take j)[k]?=some y:=by rw[List.getElem?_take_of_lt a2];exact hy
     exact List.mem_of_getElem? this)
    subst e3;have b2:(TY.toList==TY.toList)=true:=by simp
    clear hb hB1 hy hTY hl2;go_wp2;go_ret;exact⟨ret_bool HG.out.symm,HB1.out _⟩
   ·have b2:(TY.toList==T.toList)=false:=toListP_ne e3
    have HY:Hid (∀ (i:Nat) (y:PlP),i<k+1→xs[i]?=some y→y.name≠s):=Lib.hid fun i y' hi hy'=>by
     by_cases hik:i<k
     ·exact HQ.out i y' hik hy'
     ·have:i=k:=by omega
      subst this;rw[hy] at hy';injection hy' with hy'
      subst hy';intro e;exact e3 (by rw[hTY,HT.out,e])
    clear hb hB1 hy hTY hl2 e3;go_wp2
    go_roundw
    case rel=>exact⟨k+1,by omega,by go_num,HY.out,HB1.out _⟩
    case measure=>simp[intOf];omega
  ·have HG:Hid (v=false):=Lib.hid (by
    rw[HV.out,Bool.eq_false_iff];intro e;rw[List.contains_iff_mem] at e;obtain⟨y,hy,e⟩:=List.mem_map.1 e;obtain⟨i,hi⟩:=List.getElem?_of_mem hy
    have hij:i<j:=by
     have:=(List.getElem?_eq_some_iff.1 hi).1;rw[List.length_take] at this;omega
    rw[List.getElem?_take_of_lt hij] at hi;exact HQ.out i y (by omega) hi e)
   clear hb;go_wp2;go_ret;exact⟨ret_bool HG.out.symm,HU.out⟩
theorem cmayedge_none (T:ByteArray) (kd lo hi tt cap:Int) (A:Option Addr) (n c:Nat) (w:World) (k1:¬ kd=1) (k2:¬ kd=2) (k3:¬ kd=3):
  Calls Tryz.prog 53 #[.agg #[.int .i64 kd,.string T,.int .i64 lo,.int .i64 hi,.int .i64 tt],.agg #[.int .i64 cap,.slice A n c]] w fun r w'=>r= .returned (.bool false)∧Below w.heap.size w w':=by
 have e1:wordF kd=[]:=by unfold wordF;rw[if_neg k1,if_neg k2,if_neg k3]
 have e2:formF kd=0:=by unfold formF;rw[if_neg k1,if_neg k2,if_neg k3]
 have KF:Hid (∀ w',Calls Tryz.prog 72 #[.int .i64 kd] w' fun e w2=>e= .returned (.tuple #[.string ⟨([]:Bs).toArray⟩,.int .i64 0])∧w'=w2):=Lib.hid fun w'=>by
  have:=cform_any kd w';rw[e1,e2] at this;exact this
 have bS:(⟨([]:Bs).toArray⟩:ByteArray).toList.isEmpty=true:=by rw[toList_data];rfl
 generalize (⟨([]:Bs).toArray⟩:ByteArray)=SW at KF bS;have HB2:Hid (∀ T U:TypeId,∀ a b:Array Value,Below w.heap.size w ((w.alloc (.cells a T)).alloc (.cells b U))):=Lib.hid fun _ _ _ _=>(one_boxP w _).trans ((one_boxP _ _).mono (one_boxP w _).size)
 clear k1 k2 k3 e1 e2;go_enter Tryz.func53,Tryz.ntmps53
 go_upto_region 2 with (go_at_call 72;go_must (((with_reducible refine(KF.out _).mono ?_));rintro e1 w1 ⟨rfl,rfl⟩))
 simp only[List.append_eq,List.cons_append,List.nil_append];go_wp2;go_ret;exact⟨rfl,HB2.out _ _ _ _⟩
theorem cmayedge_any (p:PeP) (e:EdP) (A:Option Addr) (n c:Nat) (w:World) (hp:n=p.places.length) (ht:e.text.length≤1000000):
  Calls Tryz.prog 53 #[.agg #[.int .i64 e.kind,.string ⟨e.text.toArray⟩,.int .i64 e.lo,.int .i64 e.hi,.int .i64 e.to],.agg #[.int .i64 p.cap,.slice A n c]] w fun r w'=>r= .returned (.bool (mayEd p e))∧Below w.heap.size w w':=by
 obtain⟨v,hv⟩:∃ v,v=mayEd p e:=⟨_,rfl⟩;rw[←hv];have hv:v=if e.kind=1 then timesB e.lo e.hi && (decide (0≤e.to∧e.to<n) && decide (1≤e.text.length∧(e.text.length:Int)≤p.cap)) else if e.kind=2 then decide (e.lo=0) && (decide (e.hi=0) && (decide (0≤e.to∧e.to<n) && globOk e.text)) else decide (e.kind=3) && (timesB e.lo e.hi && (decide (e.to=0) && decide (e.text=[]))):=by rw[hv,hp];rfl
 have KM:∀ kd,Hid (∀ w',Calls Tryz.prog 78 #[.int .i64 kd,.string ⟨e.text.toArray⟩,.int .i64 p.cap] w' fun e' w2=>e'= .returned (.bool (!badText kd p.cap e.text))∧Below w'.heap.size w' w2):=fun kd=>Lib.hid fun w'=>cmaytext_any kd p.cap ⟨e.text.toArray⟩ (by show (List.toArray _).size≤_;rw[List.size_toArray];omega) w'
 have KD:Hid (∀ w',Calls Tryz.prog 79 #[.int .i64 e.lo,.int .i64 e.hi] w' fun e' w2=>e'= .returned (.bool (timesB e.lo e.hi))∧w'=w2):=Lib.hid fun w'=>cmaydel_any e.lo e.hi w'
 have htx:(decide (1≤e.text.length∧(e.text.length:Int)≤p.cap))= !badText 1 p.cap e.text:=by
  show _= !decide (e.text=[]∨p.cap<e.text.length);rw[Bool.eq_iff_iff,Bool.not_eq_true',decide_eq_true_iff,decide_eq_false_iff_not,←List.length_eq_zero_iff];omega
 have hgl:globOk e.text= !badText 2 p.cap e.text:=by
  show _= !!globOk e.text;rw[Bool.not_not]
 obtain⟨T,hT⟩:∃ T:ByteArray,T=⟨e.text.toArray⟩:=⟨_,rfl⟩
 have hem:T.toList.isEmpty=decide (e.text=[]):=by
  rw[hT,toList_data]
  cases e.text with
  | nil=>rfl
  | cons a r=>rfl
 rw[htx,hgl,←hem] at hv;rw[←hT] at KM ⊢;by_cases k1:e.kind=1
 ·rw[k1,if_pos rfl] at hv
  rw[k1];exact cmayedge_emit T e.lo e.hi e.to p.cap A n c w _ _ v hv (KM 1) KD
 ·by_cases k2:e.kind=2
  ·rw[k2,if_neg (by decide),if_pos rfl] at hv
   rw[k2];exact cmayedge_line T e.lo e.hi e.to p.cap A n c w _ _ v hv (KM 2) KD
  ·by_cases k3:e.kind=3
   ·rw[k3,if_neg (by decide),if_neg (by decide)] at hv
    rw[k3];exact cmayedge_shut T e.lo e.hi e.to p.cap A n c w _ _ v hv (KM 3) KD
   ·have HV:v=false:=by rw[hv,if_neg k1,if_neg k2,decide_eq_false k3];rfl
    rw[HV];exact cmayedge_none T e.kind e.lo e.hi e.to p.cap A n c w k1 k2 k3
theorem cmayedges_any (p:PeP) (es:List EdP) (B:Option Addr) (m d:Nat) (A:Option Addr) (n c:Nat) (w:World) (hp:n=p.places.length) (h:RdE5 w.heap.size w B m es) (hm:m≤1000000) (ht:∀ e∈es,e.text.length≤1000000):
  Calls Tryz.prog 25 #[.slice B m d,.agg #[.int .i64 p.cap,.slice A n c]] w fun r w'=>r= .returned (.bool (decide (es.length≤8) && es.all (mayEd p)))∧Below w.heap.size w w':=by
 obtain⟨v,hv⟩:∃ v,v=(decide (es.length≤8) && es.all (mayEd p)):=⟨_,rfl⟩;rw[←hv];have hml:=h.1;by_cases c8:m≤8
 ·obtain⟨W0,hW0⟩:∃ W0,W0=w.alloc (.cells #[.int .i64 p.cap,.slice A n c] 24):=⟨_,rfl⟩
  have hB0:Below w.heap.size w W0:=by rw[hW0];exact one_boxP w _
  have HB0:=Lib.hid hB0;have HBX:Hid (BoxP W0 w.heap.size [.int .i64 p.cap,.slice A n c]):=Lib.hid (by rw[hW0];exact BoxP.new w 24 [.int .i64 p.cap,.slice A n c]);have HR:=Lib.hid ((h.keep hB0).up hB0.size);have HN:=Lib.hid hml;have HT:=Lib.hid ht;have HV:Hid (v=es.all (mayEd p)):=Lib.hid (by rw[hv,decide_eq_true (by omega:es.length≤8)];rfl);have e8:¬ (8:Int)<m:=by omega
  have hs0:W0.heap.size=w.heap.size+1:=by rw[hW0];simp
  have HP:=Lib.hid hp;clear hv h ht hB0 hp hml;go_enter Tryz.func25,Tryz.ntmps25;go_wp2;rw[←hW0];clear hW0
  go_loopw [12] (fun i wr=>∃ k:Nat,k≤m∧i= .int .i64 k∧(∀ (i:Nat) (e:EdP),i<k→es[i]?=some e→mayEd p e=true)∧Below W0.heap.size W0 wr) (fun i _=>m - (intOf i).toNat)
  case atStart=>exact⟨0,by omega,rfl,fun _ _ h=>by omega,Below.refl _ _⟩
  case round=>
   obtain⟨k,hk,rfl,hq,hb⟩:=hrel;have HU:=Lib.hid hb;have HQ:=Lib.hid hq;obtain⟨y0,y1⟩:=(HBX.out.low (by simp) hb).all2;clear hq;by_cases a2:k<m
   ·obtain⟨e,he⟩:∃ e,es[k]?=some e:=⟨_,List.getElem?_eq_getElem (by have:=HN.out;omega)⟩
    obtain⟨ad2,rfl,hl3,p0,p1,p2,p3,p4⟩:=((HR.out.keep hb).up hb.size).at_ he
    have i3:(ad2.add (k * 5)).block<wr.heap.size:=by rw[block_of_add];exact hl3
    have hzz:=hb.size;have i4:w.heap.size<wr.heap.size:=by omega
    have KE:Hid (∀ w',Calls Tryz.prog 53 #[.agg #[.int .i64 e.kind,.string ⟨e.text.toArray⟩,.int .i64 e.lo,.int .i64 e.hi,.int .i64 e.to],.agg #[.int .i64 p.cap,.slice A n c]] w' fun r w2=>r= .returned (.bool (mayEd p e))∧Below w'.heap.size w' w2):=Lib.hid fun w'=>cmayedge_any p e A n c w' HP.out (HT.out e (List.mem_of_getElem? he))
    have HB1:Hid (∀ o w',Below (wr.alloc o).heap.size (wr.alloc o) w'→Below W0.heap.size W0 w'):=Lib.hid fun o w' h'=>hb.trans (((one_boxP wr o).trans (h'.mono (one_boxP wr o).size)).mono hzz)
    cases hq:mayEd p e with
    | true=>
      have HY:Hid (∀ (i:Nat) (y:EdP),i<k+1→es[i]?=some y→mayEd p y=true):=Lib.hid fun i y hi hy=>by
       by_cases hik:i<k
       ·exact HQ.out i y hik hy
       ·have:i=k:=by omega
        subst this;rw[he] at hy;injection hy with hy
        rw[←hy];exact hq
      rw[hq] at KE;clear hb he hq hzz hl3;go_wp2_with (go_at_call 53;go_must (((with_reducible refine(KE.out _).mono ?_));rintro r w4 ⟨rfl,hb4⟩;have HB4:=Lib.hid (HB1.out _ _ hb4);clear hb4))
      go_roundw
      case rel=>exact⟨k+1,by omega,by go_num,HY.out,HB4.out⟩
      case measure=>simp[intOf];omega
    | false=>
      have HF:Hid (v=false):=Lib.hid (by
       rw[HV.out,Bool.eq_false_iff];intro hall;rw[List.all_eq_true] at hall;rw[hall e (List.mem_of_getElem? he)] at hq
       cases hq)
      rw[hq] at KE;clear hb he hq hzz hl3;go_wp2_with (go_at_call 53;go_must (((with_reducible refine(KE.out _).mono ?_));rintro r w4 ⟨rfl,hb4⟩;have HB4:=Lib.hid (HB1.out _ _ hb4);clear hb4));go_ret;exact⟨ret_bool HF.out.symm,HB0.out.trans (HB4.out.mono HB0.out.size)⟩
   ·have HF:Hid (v=true):=Lib.hid (by
     rw[HV.out,List.all_eq_true];intro e he;obtain⟨i,hi⟩:=List.getElem?_of_mem he;have:=(List.getElem?_eq_some_iff.1 hi).1;have hmn:=HN.out;exact HQ.out i e (by omega) hi)
    clear hb;go_wp2;go_ret;exact⟨ret_bool HF.out.symm,HB0.out.trans (HU.out.mono HB0.out.size)⟩
 ·have HV:Hid (v=false):=Lib.hid (by rw[hv,decide_eq_false (by omega:¬ es.length≤8)];rfl)
  have e8:(8:Int)<m:=by omega
  clear hv h ht c8 hml hp;go_enter Tryz.func25,Tryz.ntmps25;go_wp2;go_ret;exact⟨ret_bool HV.out.symm,one_boxP w _⟩
theorem later_bwP {P:Program} {f:FuncId} {args:Array Value} {v:Value} {W:World} (h:∀ w',Below W.heap.size W w'→Calls P f args w' fun e w2=>e= .returned v∧Below w'.heap.size w' w2) (n:Bw W):
 Calls P f args n.at fun e w''=>e= .returned v∧∃ m:Bw W,w''=m.at:=bw_calls (h n.at n.2)
theorem same_bwP {P:Program} {f:FuncId} {args:Array Value} {v:Value} {W:World} (h:∀ w',Calls P f args w' fun e w2=>e= .returned v∧w'=w2) (n:Bw W):
 Calls P f args n.at fun e w''=>e= .returned v∧∃ m:Bw W,w''=m.at:=(h n.at).mono fun _ _ ⟨he,hw⟩=>⟨he,n,hw.symm⟩
theorem cmay_any:MayK:=by
 intro p A c w h hcc hf hG;obtain⟨v,hv⟩:∃ v,v=mayPe p:=⟨_,rfl⟩;rw[←hv];have HV:=Lib.hid hv;have HF:=Lib.hid hf;obtain⟨n,hn⟩:∃ n,n=p.places.length:=⟨_,rfl⟩;have HN:=Lib.hid hn;have hn1:n≤1000000:=by rw[hn];exact hf.places
 show Calls _ _ #[.agg #[.int .i64 p.cap,.slice A p.places.length c]] _ _;rw[←hn] at h hcc ⊢;obtain⟨cap,hcap⟩:∃ cap,cap=p.cap:=⟨_,rfl⟩;rw[←hcap]
 have hno:¬ ((1≤cap∧cap≤16)∧(1≤n∧n≤16))→v=false:=fun hno=>by
  rw[hv]
  cases hq:mayPe p with
  | false=>rfl
  | true=>
    unfold mayPe at hq;simp only[Bool.and_eq_true,decide_eq_true_eq] at hq;exact absurd ⟨hcap ▸ hq.1,by rw[hn];exact hq.2.1⟩ hno
 obtain⟨W0,hW0⟩:∃ W0,W0=w.alloc (.cells #[.int .i64 cap,.slice A n c] 24):=⟨_,rfl⟩;have hB0:Below w.heap.size w W0:=by rw[hW0];exact one_boxP w _
 have HB0:=Lib.hid hB0;have HBX:Hid (BoxP W0 w.heap.size [.int .i64 cap,.slice A n c]):=Lib.hid (by rw[hW0];exact BoxP.new w 24 [.int .i64 cap,.slice A n c]);have hs0:W0.heap.size=w.heap.size+1:=by rw[hW0];simp
 have KC:Hid (∀ W,Calls Tryz.prog 22 #[.int .i64 cap] W fun e w2=>e= .returned (.bool (decide (1≤cap∧cap≤16)))∧W=w2):=Lib.hid fun W=>cmaycap_any _ W
 have HCAP:=Lib.hid hcap;have HR:=Lib.hid (h.next hB0);have HCC:=Lib.hid hcc;clear hB0 h hf hv hcap hcc hn hG;by_cases c1:1≤cap∧cap≤16
 ·rw[decide_eq_true c1] at KC
  by_cases c3:n=0
  ·have HX:Hid (v=false):=Lib.hid (hno fun h=>by omega)
   have b3:((n:Int)==0)=true:=by rw[c3];rfl
   clear hno c1 c3;go_enter Tryz.func10,Tryz.ntmps10
   go_upto_region 1 with fail
   rw[←hW0];clear hW0;obtain⟨x0,x1⟩:=HBX.out.all2;go_wp2_with (go_at_call 22;go_must (((with_reducible refine(KC.out _).mono ?_));rintro e w1 ⟨rfl,rfl⟩));go_ret;exact⟨ret_bool HX.out.symm,HB0.out⟩
  ·have b3:((n:Int)==0)=false:=by simpa using c3
   by_cases c4:n≤16
   ·have e4:¬ (16:Int)<n:=by omega
    have HC:=Lib.hid (And.intro c1 (And.intro (by omega:1≤n) c4));clear hno c1;go_enter Tryz.func10,Tryz.ntmps10
    go_upto_region 1 with fail
    rw[←hW0];clear hW0;obtain⟨x0,x1⟩:=HBX.out.all2;go_wp2_with (go_at_call 22;go_must (((with_reducible refine(KC.out _).mono ?_));rintro e w1 ⟨rfl,rfl⟩));clear x0 x1
    go_loopw [24] (fun i wr=>∃ j:Nat,j≤n∧i= .int .i64 j∧((∀ (i:Nat) (x:PlP),i<j→p.places[i]?=some x→mayPl p x=true)∧∀ (i k:Nat) (y x:PlP),i<k→k<j→p.places[i]?=some y→p.places[k]?=some x→y.name≠x.name)∧Below W0.heap.size W0 wr) (fun i _=>n - (intOf i).toNat)
    case atStart=>exact⟨0,by omega,rfl,⟨fun _ _ h=>by omega,fun _ _ _ _ _ h=>by omega⟩,Below.refl _ _⟩
    case round=>
     obtain⟨j,hj,rfl,ht,hb⟩:=hrel;have HB:=Lib.hid hb;have HT:=Lib.hid ht;clear ht;by_cases a:j<n
     ·obtain⟨x,hx⟩:∃ x,p.places[j]?=some x:=⟨_,List.getElem?_eq_getElem (by have:=HN.out;omega)⟩
      obtain⟨ad,Ax,cx,rfl,hl1,⟨s0,s1,s2⟩,hrx⟩:=(HR.out.next hb).at_ hx
      have g1:(ad.add (j * 3)).block<wr.heap.size:=by rw[block_of_add];exact hl1
      have hxm:=List.mem_of_getElem? hx;have hex:=HF.out.edges x hxm;have hnx:=HF.out.names x hxm;have htx:=HF.out.texts x hxm;have HX2:=Lib.hid hx;have HP:Hid (mayPl p x=false→v=false):=Lib.hid fun q=>by rw[HV.out];exact mayPe_no hxm q
      obtain⟨W1,hW1⟩:∃ W1,W1=wr.alloc (.cells #[.string ⟨x.name.toArray⟩,.bool x.echo,.slice Ax x.edges.length cx] 42):=⟨_,rfl⟩;have hB1:Below wr.heap.size wr W1:=by rw[hW1];exact one_boxP wr _
      have HB1:Hid (Below W0.heap.size W0 W1):=Lib.hid (hb.trans (hB1.mono hb.size));have HPB:Hid (BoxP W1 wr.heap.size [.string ⟨x.name.toArray⟩,.bool x.echo,.slice Ax x.edges.length cx]):=Lib.hid (by rw[hW1];exact BoxP.new wr 42 [.string ⟨x.name.toArray⟩,.bool x.echo,.slice Ax x.edges.length cx]);have hs1:W1.heap.size=wr.heap.size+1:=by rw[hW1];simp
      have KN:Hid (∀ w',Calls Tryz.prog 23 #[.string ⟨x.name.toArray⟩] w' fun e w2=>e= .returned (.bool (isName x.name && begins x.name))∧w'=w2):=Lib.hid fun w'=>cisname_any ⟨x.name.toArray⟩ (by show (List.toArray _).size≤_;rw[List.size_toArray];exact hnx) w'
      have KA:Hid (∀ w',Below W1.heap.size W1 w'→Calls Tryz.prog 24 #[.string ⟨x.name.toArray⟩,.slice (some ad) j c] w' fun e w2=>e= .returned (.bool (((p.places.take j).map (·.name)).contains x.name))∧Below w'.heap.size w' w2):=Lib.hid fun w' hw=>camong_any p.places _ n c j x.name w' ((HR.out.next HB1.out).next hw) hj hn1
      have KE:Hid (∀ w',Below W1.heap.size W1 w'→Calls Tryz.prog 25 #[.slice Ax x.edges.length cx,.agg #[.int .i64 cap,.slice (some ad) n c]] w' fun r w2=>r= .returned (.bool (decide (x.edges.length≤8) && x.edges.all (mayEd p)))∧Below w'.heap.size w' w2):=Lib.hid fun w' hw=>by
       rw[HCAP.out];exact cmayedges_any p x.edges Ax x.edges.length cx _ n c w' HN.out ((hrx.keep (hB1.trans (hw.mono hB1.size))).up (Nat.le_trans hB1.size hw.size)) hex htx
      have hpl:mayPl p x=(isName x.name && (begins x.name && (decide (x.edges.length≤8) && x.edges.all (mayEd p)))):=rfl;have hzz:=hb.size;have hz4:w.heap.size<wr.heap.size:=by omega
      have hcc2:=HCC.out;obtain⟨y0,y1⟩:=(HBX.out.low (by simp) HB1.out).all2;obtain⟨z0,z1,z2⟩:=HPB.out.all3;have HPL:=Lib.hid hpl;clear hpl hrx hB1 hex hnx htx hxm hx;generalize hN:(⟨x.name.toArray⟩:ByteArray)=T at KN KA z0 s0 hW1;obtain⟨mx,hmx⟩:∃ m,m=x.edges.length:=⟨_,rfl⟩;have HMX:=Lib.hid hmx;rw[←hmx] at KE z2 s2 hW1;clear hmx;clear hN;generalize x.echo=ec at z1 s1 hW1;have HGO:∀ b:Bool,b=b:=fun _=>rfl
      clear HGO;obtain⟨b1,hb1⟩:∃ b,b=(isName x.name && begins x.name):=⟨_,rfl⟩;obtain⟨b2,hb2⟩:∃ b,b=((p.places.take j).map (·.name)).contains x.name:=⟨_,rfl⟩;obtain⟨b3,hb3⟩:∃ b,b=(decide (mx≤8) && x.edges.all (mayEd p)):=⟨_,rfl⟩;rw[←hb1] at KN;rw[←hb2] at KA;rw[←hb3] at KE;have HB1X:=Lib.hid hb1;have HB2X:=Lib.hid hb2;have HB3X:=Lib.hid hb3;have HPL2:Hid (mayPl p x=(b1 && b3)):=Lib.hid (by rw[HPL.out,hb1,hb3,Bool.and_assoc,HMX.out]);have hjc:j≤c:=by omega
      have hne:=bw_some W1;have p0:=bw_cell y0;have p1:=bw_cell y1;have r0:=bw_cell z0;have r1:=bw_cell z1;have r2:=bw_cell z2;clear hb1 hb2 hb3 y0 y1 z0 z1 z2;have HWW:Hid (∀ m:Bw W1,Below w.heap.size w m.at):=Lib.hid fun m=>HB0.out.trans ((HB1.out.trans (m.2.mono HB1.out.size)).mono HB0.out.size)
      have HW0:Hid (∀ m:Bw W1,Below W0.heap.size W0 m.at):=Lib.hid fun m=>HB1.out.trans (m.2.mono HB1.out.size)
      clear hb hzz
      cases b1 with
      | false=>
        have HX:Hid (v=false):=Lib.hid (HP.out (by rw[HPL2.out];rfl))
        go_upto_region 6 with fail
        rw[←hW1];clear hW1;refine wp_region_below (by kernel_rfl) (by kernel_rfl) ?_
        repeat (go_big_quiet_step (first | (go_at_call 23;with_reducible exact same_bwP KN.out _) | (go_at_call 24;with_reducible exact later_bwP KA.out _) | (go_at_call 25;with_reducible exact later_bwP KE.out _) | fail))
        refine wpQuiet_nil ?_;intro w5 hw5;obtain⟨m5,rfl⟩:=hw5;go_wp2;go_ret;exact⟨ret_bool HX.out.symm,HWW.out m5⟩
      | true=>
        cases b2 with
        | true=>
          have HX:Hid (v=false):=Lib.hid (by
           rw[HV.out];have h1:=HB2X.out.symm;rw[List.contains_iff_mem] at h1;obtain⟨y,hy,e⟩:=List.mem_map.1 h1;obtain⟨i,hi⟩:=List.getElem?_of_mem hy
           have hij:i<j:=by
            have:=(List.getElem?_eq_some_iff.1 hi).1;rw[List.length_take] at this;omega
           rw[List.getElem?_take_of_lt hij] at hi;exact mayPe_two hi HX2.out hij e)
          go_upto_region 6 with fail
          rw[←hW1];clear hW1;refine wp_region_below (by kernel_rfl) (by kernel_rfl) ?_
          repeat (go_big_quiet_step (first | (go_at_call 23;with_reducible exact same_bwP KN.out _) | (go_at_call 24;with_reducible exact later_bwP KA.out _) | (go_at_call 25;with_reducible exact later_bwP KE.out _) | fail))
          refine wpQuiet_nil ?_;intro w5 hw5;obtain⟨m5,rfl⟩:=hw5;go_wp2;go_ret;exact⟨ret_bool HX.out.symm,HWW.out m5⟩
        | false=>
          cases b3 with
          | false=>
            have HX:Hid (v=false):=Lib.hid (HP.out (by rw[HPL2.out];rfl))
            go_upto_region 6 with fail
            rw[←hW1];clear hW1;refine wp_region_below (by kernel_rfl) (by kernel_rfl) ?_
            repeat (go_big_quiet_step (first | (go_at_call 23;with_reducible exact same_bwP KN.out _) | (go_at_call 24;with_reducible exact later_bwP KA.out _) | (go_at_call 25;with_reducible exact later_bwP KE.out _) | fail))
            refine wpQuiet_nil ?_;intro w5 hw5;obtain⟨m5,rfl⟩:=hw5;go_wp2;go_ret;exact⟨ret_bool HX.out.symm,HWW.out m5⟩
          | true=>
            have HY:Hid ((∀ (i:Nat) (x:PlP),i<j+1→p.places[i]?=some x→mayPl p x=true)∧∀ (i k:Nat) (y x:PlP),i<k→k<j+1→p.places[i]?=some y→p.places[k]?=some x→y.name≠x.name):=Lib.hid (by
             refine⟨fun i x' hi hx'=>?_,fun i k y x' hik hk hy hx'=>?_⟩
             ·by_cases hij:i<j
              ·exact HT.out.1 i x' hij hx'
              ·have:i=j:=by omega
               subst this;have:=HX2.out.symm.trans hx';injection this with this
               rw[←this,HPL2.out];rfl
             ·by_cases hkj:k<j
              ·exact HT.out.2 i k y x' hik hkj hy hx'
              ·have:k=j:=by omega
               subst this;have:=HX2.out.symm.trans hx';injection this with this
               rw[←this];intro e;have h1:=HB2X.out.symm;rw[Bool.eq_false_iff] at h1;refine h1 (List.contains_iff_mem.2 (List.mem_map.2 ⟨y,?_,e⟩));have:(p.places.take k)[i]?=some y:=by rw[List.getElem?_take_of_lt hik];exact hy
               exact List.mem_of_getElem? this)
            go_upto_region 6 with fail
            rw[←hW1];clear hW1;refine wp_region_below (by kernel_rfl) (by kernel_rfl) ?_
            repeat (go_big_quiet_step (first | (go_at_call 23;with_reducible exact same_bwP KN.out _) | (go_at_call 24;with_reducible exact later_bwP KA.out _) | (go_at_call 25;with_reducible exact later_bwP KE.out _) | fail))
            refine wpQuiet_nil ?_;intro w5 hw5;obtain⟨m5,rfl⟩:=hw5;go_wp2
            go_roundw
            case rel=>exact⟨j+1,by omega,by go_num,HY.out,HW0.out m5⟩
            case measure=>simp[intOf];omega
     ·have HX:Hid (v=true):=Lib.hid (by
       rw[HV.out];have hnn:=HN.out;refine mayPe_yes (by rw[←HCAP.out];exact HC.out.1) (by rw[←hnn];exact HC.out.2) (fun i x hi=>HT.out.1 i x (by have:=(List.getElem?_eq_some_iff.1 hi).1;omega) hi) (fun i k y x hik hi hk=>HT.out.2 i k y x hik (by have:=(List.getElem?_eq_some_iff.1 hk).1;omega) hi hk))
      have HB9:Hid (Below w.heap.size w wr):=Lib.hid (HB0.out.trans (hb.mono HB0.out.size));clear hb;go_wp2;go_ret;exact⟨ret_bool HX.out.symm,HB9.out⟩
   ·have HX:Hid (v=false):=Lib.hid (hno fun h=>by omega)
    have e4:(16:Int)<n:=by omega
    clear hno c1 c4;go_enter Tryz.func10,Tryz.ntmps10
    go_upto_region 1 with fail
    rw[←hW0];clear hW0;obtain⟨x0,x1⟩:=HBX.out.all2;go_wp2_with (go_at_call 22;go_must (((with_reducible refine(KC.out _).mono ?_));rintro e w1 ⟨rfl,rfl⟩));go_ret;exact⟨ret_bool HX.out.symm,HB0.out⟩
 ·rw[decide_eq_false c1] at KC
  have HX:Hid (v=false):=Lib.hid (hno fun h=>c1 h.1);clear hno c1;go_enter Tryz.func10,Tryz.ntmps10
  go_upto_region 1 with fail
  rw[←hW0];clear hW0;obtain⟨x0,x1⟩:=HBX.out.all2;go_wp2_with (go_at_call 22;go_must (((with_reducible refine(KC.out _).mono ?_));rintro e w1 ⟨rfl,rfl⟩));go_ret;exact⟨ret_bool HX.out.symm,HB0.out⟩
end Go.Proofs.YtdobinjbejagcaaGreatDoor
