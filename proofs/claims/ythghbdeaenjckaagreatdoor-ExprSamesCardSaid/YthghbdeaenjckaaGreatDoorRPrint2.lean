import Derived.Test.YthghbdeaenjckaaGreatDoorPrint
namespace Go.Proofs.YthghbdeaenjckaaGreatDoor
open Go Go.RowKit
set_option maxHeartbeats 2000000
theorem ret_st {a b:ByteArray} (h:a=b):Ending.returned (.string a)= .returned (.string b):=by rw[h]
theorem hex_any (a:Nat) (ha:a<16) (w:World):Calls Tryz.prog 95 #[.int .u8 a] w fun e w'=>e= .returned (.string ⟨#[hexC a]⟩)∧Below w.heap.size w w':=by
 have hone:=fun (c:UInt8) (W:World)=>one_byte W (c.toNat:Int) c rfl
 have a0:(0:Int)≤a∧(a:Int)<16:=by omega
 go_enter Tryz.func95,Tryz.ntmps95;go_wp2;go_ret;refine⟨ret_st ?_,(Below.refl _ _).alloc (Nat.le_refl _) _⟩;have:=hexC_at a ha ha;show (⟨#[hexSet[a]]⟩:ByteArray)=_;rw[this]
theorem byte_any (c:UInt8) (w:World):Calls Tryz.prog 71 #[.int .u8 c.toNat] w fun e w'=>e= .returned (.string ⟨(prB c).toArray⟩)∧Below w.heap.size w w':=by
 have hone:=fun (c:UInt8) (W:World)=>one_byte W (c.toNat:Int) c rfl
 have c256:=UInt8.toNat_lt c;obtain⟨R,hR⟩:∃ R:ByteArray,R=⟨(prB c).toArray⟩:=⟨_,rfl⟩;rw[←hR];have HR:=Lib.hid hR;clear hR;by_cases h1:c=10
 ·subst h1
  go_enter Tryz.func71,Tryz.ntmps71;go_wp2;go_ret;exact⟨ret_st (by rw[HR.out];rfl),Below.refl _ _⟩
 by_cases h2:c=13
 ·subst h2
  go_enter Tryz.func71,Tryz.ntmps71;go_wp2;go_ret;exact⟨ret_st (by rw[HR.out];rfl),Below.refl _ _⟩
 by_cases h3:c=9
 ·subst h3
  go_enter Tryz.func71,Tryz.ntmps71;go_wp2;go_ret;exact⟨ret_st (by rw[HR.out];rfl),Below.refl _ _⟩
 have f1:((c.toNat:Int)==10)=false:=byte_ne (n:=10) h1 (by omega);have f2:((c.toNat:Int)==13)=false:=byte_ne (n:=13) h2 (by omega);have f3:((c.toNat:Int)==9)=false:=byte_ne (n:=9) h3 (by omega);by_cases h4:c=34
 ·have g4:((c.toNat:Int)==34)=true:=byte_eq (n:=34) h4 (by omega)
  have HE:Hid (prB c=[92,c]):=by apply Lib.hid;rw[h4];rfl
  clear h1 h2 h3 h4;go_enter Tryz.func71,Tryz.ntmps71;go_wp2;go_ret;exact⟨ret_st (by rw[HR.out,HE.out];rfl),(Below.refl _ _).alloc (Nat.le_refl _) _⟩
 have f4:((c.toNat:Int)==34)=false:=byte_ne (n:=34) h4 (by omega);by_cases h5:c=92
 ·have g5:((c.toNat:Int)==92)=true:=byte_eq (n:=92) h5 (by omega)
  have HE:Hid (prB c=[92,c]):=by apply Lib.hid;rw[h5];rfl
  clear h1 h2 h3 h4 h5;go_enter Tryz.func71,Tryz.ntmps71;go_wp2;go_ret;exact⟨ret_st (by rw[HR.out,HE.out];rfl),(Below.refl _ _).alloc (Nat.le_refl _) _⟩
 have f5:((c.toNat:Int)==92)=false:=byte_ne (n:=92) h5 (by omega);by_cases h6:c=36
 ·have g6:((c.toNat:Int)==36)=true:=byte_eq (n:=36) h6 (by omega)
  have HE:Hid (prB c=[92,c]):=by apply Lib.hid;rw[h6];rfl
  clear h1 h2 h3 h4 h5 h6;go_enter Tryz.func71,Tryz.ntmps71;go_wp2;go_ret;exact⟨ret_st (by rw[HR.out,HE.out];rfl),(Below.refl _ _).alloc (Nat.le_refl _) _⟩
 have f6:((c.toNat:Int)==36)=false:=byte_ne (n:=36) h6 (by omega);by_cases hp:plainB c=true
 ·have HE:Hid (prB c=[c]):=by apply Lib.hid;unfold prB;rw[if_pos hp]
  have hx:32≤(c.toNat:Int)∧(c.toNat:Int)≤126:=by
   have:=hp;unfold plainB at this;simp at this;omega
  obtain⟨x1,x2⟩:=hx;clear h1 h2 h3 h4 h5 h6 hp;go_enter Tryz.func71,Tryz.ntmps71;go_wp2;go_ret;exact⟨ret_st (by rw[HR.out,HE.out]),(Below.refl _ _).alloc (Nat.le_refl _) _⟩
 ·have HE:Hid (prB c=[92,120,hexC (c.toNat / 16),hexC (c.toNat % 16)]):=by apply Lib.hid;unfold prB;simp[hp,h1,h2,h3,h4,h5,h6]
  have hx:((c.toNat:Int)<32∧decide (126<(c.toNat:Int))=false)∨(32≤(c.toNat:Int)∧126<(c.toNat:Int)):=by
   have e4:¬ (c.toNat:Int)=34:=by simpa using f4
   have e5:¬ (c.toNat:Int)=92:=by simpa using f5
   have e6:¬ (c.toNat:Int)=36:=by simpa using f6
   have:=hp;unfold plainB at this;simp at this;simp;omega
  obtain⟨a,ha⟩:∃ a,a=c.toNat / 16:=⟨_,rfl⟩;obtain⟨b,hb⟩:∃ b,b=c.toNat % 16:=⟨_,rfl⟩;rw[←ha,←hb] at HE;have e1:(c.toNat:Int) / 16=(a:Int):=by omega
  have e2:(c.toNat:Int) % 16=(b:Int):=by omega
  have KA:=Lib.hid fun w=>hex_any a (by omega) w
  have KB:=Lib.hid fun w=>hex_any b (by omega) w
  clear h1 h2 h3 h4 h5 h6 hp ha hb
  rcases hx with ⟨hx,hx2⟩ | ⟨hx,hx2⟩
  all_goals
   go_enter Tryz.func71,Tryz.ntmps71;go_wp2_with (go_at_call 95;(first | ((with_reducible refine(KA.out _).mono ?_);rintro e w1 ⟨rfl,hb1⟩) | ((with_reducible refine(KB.out _).mono ?_);rintro e w2 ⟨rfl,hb2⟩)));go_ret;exact⟨ret_st (by rw[HR.out,HE.out];rfl),hb1.trans (hb2.mono hb1.size)⟩
theorem cat3 (S N:ByteArray) (t n:Bs) (h:S.data.toList=t) (g:N.data.toList=n) (h0:n≠[]):((S++⟨#[36,123]⟩)++N++⟨#[125]⟩).data.toList=t++prV n:=by
 have e:prV n=[36,123]++n++[125]:=by unfold prV;rw[if_neg h0];simp
 rw[cat_data _ _ _ _ (cat_data _ _ _ _ (cat_data _ _ _ _ h rfl) g) rfl,e];simp
theorem ba_eq (S:ByteArray) (l:Bs) (h:S.data.toList=l):S=⟨l.toArray⟩:=by
 apply ByteArray.ext;rw[←h]
theorem rprint_any (A:Option Addr) (n c:Nat) (ps:List Pt) (w:World) (h:Rd w.heap.size w A n ps) (hmax:n≤1000000) (hl:∀ p∈ps,p.1.length≤1000000) (hl2:∀ p∈ps,p.2.length≤1000000) (hp:(print ps).length≤1000000):
  Calls Tryz.prog 47 #[.slice A n c] w fun e w'=>e= .returned (.string ⟨(print ps).toArray⟩)∧Below w.heap.size w w':=by
 obtain⟨R,hR⟩:∃ R:ByteArray,R=⟨(print ps).toArray⟩:=⟨_,rfl⟩;rw[←hR];have HRes:=Lib.hid hR;have HR:=Lib.hid h;have HN:=Lib.hid h.1;have HL:=Lib.hid hl;have HL2:=Lib.hid hl2;have HP:=Lib.hid hp;clear h hl hl2 hR hp;go_enter Tryz.func47,Tryz.ntmps47;go_wp2
 go_loopw [3,4] (fun o i wr=>∃ (k:Nat) (S:ByteArray),k≤n∧i= .int .i64 k∧o= .string S∧S.data.toList=34::(ps.take k).flatMap prP∧Below w.heap.size w wr) (fun _ i _=>n - (intOf i).toNat)
 case atStart=>exact⟨0,⟨#[34]⟩,by omega,rfl,rfl,rfl,Below.refl _ _⟩
 case round=>
  obtain⟨k,S,hk,rfl,rfl,hS,hb⟩:=hrel
  have hSl:S.size≤1000000:=by
   have h1:=print_len ps k;rw[←hS,len_data] at h1;have:=HP.out;omega
  by_cases a:k<n
  ·obtain⟨ad,rfl,hr⟩:=HR.out.2 (by omega)
   obtain⟨p,hp⟩:∃ p,ps[k]?=some p:=⟨_,List.getElem?_eq_getElem (by have:=HN.out;omega)⟩;obtain⟨c0,c1⟩:=(hr.keep hb).at_ hp
   have hq:=part_len hp;have hnx:=take_pt hp;have HPm:=Lib.hid (List.mem_of_getElem? hp);obtain⟨t0,ht0⟩:∃ t0,t0=34::(ps.take k).flatMap prP:=⟨_,rfl⟩;rw[←ht0] at hS hq;have hnx2:34::(ps.take (k+1)).flatMap prP=t0++prV p.1++p.2.flatMap prB:=by rw[hnx,ht0];unfold prP;simp
   have HX:=Lib.hid hnx2;have HS:=Lib.hid hS;obtain⟨N,hN⟩:∃ N:ByteArray,N=⟨p.1.toArray⟩:=⟨_,rfl⟩;obtain⟨T,hT⟩:∃ T:ByteArray,T=⟨p.2.toArray⟩:=⟨_,rfl⟩;rw[←hN] at c0;rw[←hT] at c1;have HN1:Hid (N.data.toList=p.1):=Lib.hid (by rw[hN]);have HT1:Hid (T.data.toList=p.2):=Lib.hid (by rw[hT]);have hTs:T.size≤1000000:=by rw[←len_data,HT1.out];exact HL2.out p HPm.out
   have hNs:N.size≤1000000:=by rw[←len_data,HN1.out];exact HL.out p HPm.out
   have hp1:=HP.out;have HQ:Hid (t0.length+(prV p.1).length+(p.2.flatMap prB).length≤1000000):=Lib.hid (by omega);have HRr:=Lib.hid hr;have HPp:=Lib.hid hp;clear hr hp hq hnx ht0 hnx2 hp1 hS;by_cases e1:p.1=[]
   ·obtain⟨n1,n2⟩:=tx_nil hN e1
    have HV:Hid (S.data.toList=t0++prV p.1):=by apply Lib.hid;rw[HS.out,e1];simp[prV]
    have hT2:=Lib.hid hT;clear e1 hN hT;go_wp2
    go_loopw [3,5] (fun o i wq=>∃ (j:Nat) (U:ByteArray),j≤T.size∧i= .int .i64 j∧o= .string U∧U.data.toList=t0++prV p.1++(T.data.toList.take j).flatMap prB∧Below w.heap.size w wq) (fun _ i _=>T.size - (intOf i).toNat)
    case atStart=>exact⟨0,_,by omega,rfl,rfl,by rw[HV.out];simp,hb⟩
    case round=>
     obtain⟨j,U,hj,rfl,rfl,hU,hbq⟩:=hrel;have HU:=Lib.hid hU;have hsub:=sub_len T.data.toList j
     have hUl:U.size≤1000000:=by
      rw[←len_data,hU];have h1:=HQ.out;rw[HT1.out] at hsub ⊢;simp only[List.length_append];omega
     clear hU hsub;obtain⟨d0,d1⟩:=(HRr.out.keep hbq).at_ HPp.out
     rw[←hT2.out] at d1;by_cases b:j<T.size
     ·have K23:=Lib.hid fun w=>byte_any T[j] w
      have HJ:=Lib.hid (take_by T j b);have hB:(⟨(prB T[j]).toArray⟩:ByteArray).data.toList=prB T[j]:=rfl
      have hBl:(⟨(prB T[j]).toArray⟩:ByteArray).size≤1000000:=by
       rw[←len_data];show (prB T[j]).length≤_;unfold prB
       repeat (first | (split <;> try (simp;done)) | simp)
      obtain⟨Q,hQ⟩:∃ Q:ByteArray,Q=⟨(prB T[j]).toArray⟩:=⟨_,rfl⟩;rw[←hQ] at K23 hB hBl;have HB:=Lib.hid hB;clear hB hQ;go_wp2_with (go_at_call 71;((with_reducible refine(K23.out _).mono ?_));rintro e w2 ⟨rfl,hb2⟩)
      go_roundw
      case rel=>exact⟨j+1,_,by omega,by go_num,rfl,by rw[HJ.out,←List.append_assoc];exact cat_data _ _ _ _ HU.out HB.out,hbq.trans (hb2.mono hbq.size)⟩
      case measure=>simp[intOf];omega
     ·go_wp2
      go_roundw
      case rel=>
       refine⟨k+1,U,by omega,by go_num,rfl,?_,hbq⟩;have hz:=HU.out;rw[List.take_of_length_le (by rw[len_data];omega),HT1.out] at hz;rw[HX.out];exact hz
      case measure=>simp[intOf];omega
   ·obtain⟨n1,n2⟩:=tx_some hN e1
    have HV:Hid (((S++⟨#[36,123]⟩)++N++⟨#[125]⟩).data.toList=t0++prV p.1):=Lib.hid (cat3 S N _ _ HS.out HN1.out e1);have hT2:=Lib.hid hT;clear e1 hN hT;go_wp2
    go_loopw [3,5] (fun o i wq=>∃ (j:Nat) (U:ByteArray),j≤T.size∧i= .int .i64 j∧o= .string U∧U.data.toList=t0++prV p.1++(T.data.toList.take j).flatMap prB∧Below w.heap.size w wq) (fun _ i _=>T.size - (intOf i).toNat)
    case atStart=>exact⟨0,_,by omega,rfl,rfl,by rw[HV.out];simp,hb⟩
    case round=>
     obtain⟨j,U,hj,rfl,rfl,hU,hbq⟩:=hrel;have HU:=Lib.hid hU;have hsub:=sub_len T.data.toList j
     have hUl:U.size≤1000000:=by
      rw[←len_data,hU];have h1:=HQ.out;rw[HT1.out] at hsub ⊢;simp only[List.length_append];omega
     clear hU hsub;obtain⟨d0,d1⟩:=(HRr.out.keep hbq).at_ HPp.out
     rw[←hT2.out] at d1;by_cases b:j<T.size
     ·have K23:=Lib.hid fun w=>byte_any T[j] w
      have HJ:=Lib.hid (take_by T j b);have hB:(⟨(prB T[j]).toArray⟩:ByteArray).data.toList=prB T[j]:=rfl
      have hBl:(⟨(prB T[j]).toArray⟩:ByteArray).size≤1000000:=by
       rw[←len_data];show (prB T[j]).length≤_;unfold prB
       repeat (first | (split <;> try (simp;done)) | simp)
      obtain⟨Q,hQ⟩:∃ Q:ByteArray,Q=⟨(prB T[j]).toArray⟩:=⟨_,rfl⟩;rw[←hQ] at K23 hB hBl;have HB:=Lib.hid hB;clear hB hQ;go_wp2_with (go_at_call 71;((with_reducible refine(K23.out _).mono ?_));rintro e w2 ⟨rfl,hb2⟩)
      go_roundw
      case rel=>exact⟨j+1,_,by omega,by go_num,rfl,by rw[HJ.out,←List.append_assoc];exact cat_data _ _ _ _ HU.out HB.out,hbq.trans (hb2.mono hbq.size)⟩
      case measure=>simp[intOf];omega
     ·go_wp2
      go_roundw
      case rel=>
       refine⟨k+1,U,by omega,by go_num,rfl,?_,hbq⟩;have hz:=HU.out;rw[List.take_of_length_le (by rw[len_data];omega),HT1.out] at hz;rw[HX.out];exact hz
      case measure=>simp[intOf];omega
  ·have HX:Hid (print ps=(34::(ps.take k).flatMap prP)++[34]):=by
    apply Lib.hid;rw[List.take_of_length_le (by have:=HN.out;omega)];rfl
   have HS:=Lib.hid hS;clear hS;go_wp2;go_ret;exact⟨ret_st (by rw[HRes.out,HX.out];exact ba_eq _ _ (cat_data S _ _ [34] HS.out rfl)),hb⟩
end Go.Proofs.YthghbdeaenjckaaGreatDoor
