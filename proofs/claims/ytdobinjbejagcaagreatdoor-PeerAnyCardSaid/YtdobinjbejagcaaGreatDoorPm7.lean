import Derived.Test.YtdobinjbejagcaaGreatDoorPm6
namespace Go.Proofs.YtdobinjbejagcaaGreatDoor
open Go Go.RowKit
set_option maxRecDepth 100000
set_option maxHeartbeats 8000000
def smallEd (e:EdP):Bool:=decide (e.text.length≤60)
def smallPl (x:PlP):Bool:=decide (x.edges.length≤12) && (decide (x.name.length≤60) && x.edges.all smallEd)
def smallPe (p:PeP):Bool:=decide (p.places.length≤20) && p.places.all smallPl
theorem smallPe_fit {p:PeP} (h:smallPe p=true):FitPe p:=by
 unfold smallPe at h;simp only[Bool.and_eq_true,decide_eq_true_eq,List.all_eq_true] at h
 have hx:∀ x∈p.places,x.edges.length≤12∧x.name.length≤60∧∀ e∈x.edges,e.text.length≤60:=fun x hx=>by
  have:=h.2 x hx;unfold smallPl at this;simp only[Bool.and_eq_true,decide_eq_true_eq,List.all_eq_true] at this;exact⟨this.1,this.2.1,fun e he=>by have:=this.2.2 e he;unfold smallEd at this;exact of_decide_eq_true this⟩
 exact⟨by omega,fun x hx'=>by have:=hx x hx';omega,fun x hx'=>by have:=hx x hx';omega,fun x hx' e he=>by have:=(hx x hx').2.2 e he;omega⟩
theorem smallPe_no {p:PeP} {x:PlP} (hx:x∈p.places) (h:smallPl x=false):smallPe p=false:=by
 cases hq:smallPe p with
 | false=>rfl
 | true=>
   unfold smallPe at hq;simp only[Bool.and_eq_true,List.all_eq_true] at hq;rw[hq.2 x hx] at h
   cases h
theorem psmall13_any (p:PeP) (A:Option Addr) (n c:Nat) (w:World) (h:RdX w.heap.size w A n p.places):
  Calls Tryz.prog 7 #[.agg #[.int .i64 p.cap,.slice A n c]] w fun r w'=>r= .returned (.bool (smallPe p))∧Below w.heap.size w w':=by
 obtain⟨v,hv⟩:∃ v,v=smallPe p:=⟨_,rfl⟩;rw[←hv];have HV:=Lib.hid hv;have HN:=Lib.hid h.1;generalize hcap:p.cap=cap;clear hcap;by_cases c1:n≤20
 ·obtain⟨W0,hW0⟩:∃ W0,W0=w.alloc (.cells #[.int .i64 cap,.slice A n c] 24):=⟨_,rfl⟩
  have hB0:Below w.heap.size w W0:=by rw[hW0];exact one_boxP w _
  have HB0:=Lib.hid hB0;have HR:=Lib.hid (h.next hB0);have d1:¬ (20:Int)<n:=by omega
  have HC:=Lib.hid c1;clear h hv hB0;go_enter Tryz.func7,Tryz.ntmps7;go_wp2;rw[←hW0];clear hW0
  go_loopw [14] (fun i wr=>∃ j:Nat,j≤n∧i= .int .i64 j∧(∀ (i:Nat) (x:PlP),i<j→p.places[i]?=some x→smallPl x=true)∧Below W0.heap.size W0 wr) (fun i _=>n - (intOf i).toNat)
  case atStart=>exact⟨0,by omega,rfl,fun _ _ h=>by omega,Below.refl _ _⟩
  case round=>
   obtain⟨j,hj,rfl,ht,hb⟩:=hrel;obtain⟨V,hV⟩:∃ V,V=wr:=⟨_,rfl⟩;subst hV;have HB:=Lib.hid hb;have HT:=Lib.hid ht;clear ht;by_cases a:j<n
   ·obtain⟨x,hx⟩:∃ x,p.places[j]?=some x:=⟨_,List.getElem?_eq_getElem (by have:=HN.out;omega)⟩
    obtain⟨ad,Ax,cx,rfl,hl1,⟨s0,s1,s2⟩,hrx⟩:=(HR.out.next hb).at_ hx
    have g1:(ad.add (j * 3)).block<V.heap.size:=by rw[block_of_add];exact hl1
    have hxm:=List.mem_of_getElem? hx;obtain⟨TX,hTX⟩:∃ T:ByteArray,T=⟨x.name.toArray⟩:=⟨_,rfl⟩;have hsz:TX.size=x.name.length:=by rw[hTX];simp[ByteArray.size]
    obtain⟨mx,hMX⟩:∃ e,e=x.edges.length:=⟨_,rfl⟩;have HMX:=Lib.hid hMX;have HX2:=Lib.hid hx;have HP:Hid (smallPl x=false→v=false):=Lib.hid fun q=>by rw[HV.out];exact smallPe_no hxm q
    rw[←hTX] at s0;rw[←hMX] at s2 hrx;have HRX:=Lib.hid hrx;have HBL:Hid (Below w.heap.size w (V.alloc (.cells #[.string TX,.bool x.echo,.slice Ax mx cx] 42))):=Lib.hid ((HB0.out.trans (HB.out.mono HB0.out.size)).trans ((one_boxP V _).mono (by have:=hb.size;have:=HB0.out.size;omega)));by_cases c12:mx≤12
    ·have e1:¬ (12:Int)<mx:=by omega
     have e2:decide ((12:Int)<mx)=false:=decide_eq_false e1;by_cases c60:TX.size≤60
     ·have e3:¬ (60:Int)<TX.size:=by omega
      have e4:decide ((60:Int)<TX.size)=false:=decide_eq_false e3;obtain⟨V1,hV1⟩:∃ V1,V1=V.alloc (.cells #[.string TX,.bool x.echo,.slice Ax mx cx] 42):=⟨_,rfl⟩;have hB1:Below V.heap.size V V1:=by rw[hV1];exact one_boxP V _
      have HB1:=Lib.hid hB1;have HS:=Lib.hid hsz;rw[←hV1] at HBL;clear hb hx hxm hrx hTX hMX hB1 hsz;go_wp2;rw[←hV1];clear hV1
      go_loopw [31] (fun i wr=>∃ m:Nat,m≤mx∧i= .int .i64 m∧(∀ (i:Nat) (e:EdP),i<m→x.edges[i]?=some e→smallEd e=true)∧Below V1.heap.size V1 wr) (fun i _=>mx - (intOf i).toNat)
      case atStart=>exact⟨0,by omega,rfl,fun _ _ h=>by omega,Below.refl _ _⟩
      case round=>
       obtain⟨m,hm,rfl,hq,hb⟩:=hrel;obtain⟨Z,hZ⟩:∃ Z,Z=wr:=⟨_,rfl⟩;subst hZ;have HU:=Lib.hid hb;have HQ:=Lib.hid hq;have hVZ:Below V.heap.size V Z:=HB1.out.trans (hb.mono HB1.out.size);have HVZ:=Lib.hid hVZ;clear hq;by_cases a3:m<mx
       ·obtain⟨e,he⟩:∃ e,x.edges[m]?=some e:=⟨_,List.getElem?_eq_getElem (by have:=HMX.out;omega)⟩
        obtain⟨ad3,rfl,hl3,p0,p1,p2,p3,p4⟩:=((HRX.out.keep hVZ).up hVZ.size).at_ he
        have i4:(ad3.add (m * 5)).block<Z.heap.size:=by rw[block_of_add];exact hl3
        obtain⟨TE,hTE⟩:∃ T:ByteArray,T=⟨e.text.toArray⟩:=⟨_,rfl⟩;have hse:TE.size=e.text.length:=by rw[hTE];simp[ByteArray.size]
        rw[←hTE] at p1;have HEE:=Lib.hid he;by_cases c6:TE.size≤60
        ·have f1:¬ (60:Int)<TE.size:=by omega
         have HY:Hid (∀ (i:Nat) (e:EdP),i<m+1→x.edges[i]?=some e→smallEd e=true):=Lib.hid fun i e' hi he'=>by
          by_cases him:i<m
          ·exact HQ.out i e' him he'
          ·have:i=m:=by omega
           subst this;rw[HEE.out] at he';injection he' with he'
           subst he';unfold smallEd;exact decide_eq_true (by omega)
         clear hb hVZ he hTE hse;go_wp2
         go_roundw
         case rel=>exact⟨m+1,by omega,by go_num,HY.out,HU.out.trans ((one_boxP Z _).mono HU.out.size)⟩
         case measure=>simp[intOf];omega
        ·have f1:(60:Int)<TE.size:=by omega
         have HG:Hid (v=false):=Lib.hid (HP.out (by
          cases hpl:smallPl x with
          | false=>rfl
          | true=>
            unfold smallPl at hpl;simp only[Bool.and_eq_true,List.all_eq_true] at hpl;have:=hpl.2.2 e (List.mem_of_getElem? he);unfold smallEd at this;have:=of_decide_eq_true this;omega))
         have HZ:Hid (Below w.heap.size w Z):=Lib.hid (HBL.out.trans (hb.mono HBL.out.size));clear hb hVZ he hTE hse;go_wp2;go_ret;exact⟨ret_bool HG.out.symm,HZ.out.trans ((one_boxP Z _).mono HZ.out.size)⟩
       ·have HD:Hid (smallPl x=true):=Lib.hid (by
         unfold smallPl;simp only[Bool.and_eq_true,decide_eq_true_eq,List.all_eq_true];refine⟨by rw[←HMX.out];exact c12,by rw[←HS.out];exact c60,fun e he=>?_⟩;obtain⟨i,hi⟩:=List.getElem?_of_mem he;exact HQ.out i e (by have:=(List.getElem?_eq_some_iff.1 hi).1;have:=HMX.out;omega) hi)
        clear hb hVZ;go_wp2
        go_roundw
        case rel=>
         refine⟨j+1,by omega,by go_num,fun i x' hi hx'=>?_,HB.out.trans (HVZ.out.mono HB.out.size)⟩;by_cases hij:i<j
         ·exact HT.out i x' hij hx'
         ·have:i=j:=by omega
          subst this;rw[HX2.out] at hx';injection hx' with hx'
          subst hx';exact HD.out
        case measure=>simp[intOf];omega
     ·have e3:(60:Int)<TX.size:=by omega
      have e4:decide ((60:Int)<TX.size)=true:=decide_eq_true e3;have HG:Hid (v=false):=Lib.hid (HP.out (by unfold smallPl;rw[←hsz,decide_eq_false c60];simp));clear hb hx hxm hrx hTX hMX hsz;go_wp2;go_ret;exact⟨ret_bool HG.out.symm,HBL.out⟩
    ·have e1:(12:Int)<mx:=by omega
     have e2:decide ((12:Int)<mx)=true:=decide_eq_true e1;have HG:Hid (v=false):=Lib.hid (HP.out (by unfold smallPl;rw[←hMX,decide_eq_false c12];rfl));clear hb hx hxm hrx hTX hMX hsz;go_wp2;go_ret;exact⟨ret_bool HG.out.symm,HBL.out⟩
   ·have HG:Hid (v=true):=Lib.hid (by
     rw[HV.out];unfold smallPe;simp only[Bool.and_eq_true,decide_eq_true_eq,List.all_eq_true];refine⟨by rw[←HN.out];exact HC.out,fun x hx=>?_⟩;obtain⟨i,hi⟩:=List.getElem?_of_mem hx;exact HT.out i x (by have:=(List.getElem?_eq_some_iff.1 hi).1;have:=HN.out;omega) hi)
    go_wp2;go_ret;exact⟨ret_bool HG.out.symm,HB0.out.trans (HB.out.mono HB0.out.size)⟩
 ·have HG:Hid (v=false):=Lib.hid (by rw[hv];unfold smallPe;rw[←h.1,decide_eq_false c1];rfl)
  have d1:(20:Int)<n:=by omega
  clear h hv HV;go_enter Tryz.func7,Tryz.ntmps7;go_wp2;go_ret;exact⟨ret_bool HG.out.symm,one_boxP w _⟩
end Go.Proofs.YtdobinjbejagcaaGreatDoor
