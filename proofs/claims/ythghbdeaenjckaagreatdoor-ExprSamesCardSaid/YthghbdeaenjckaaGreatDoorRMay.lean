import Derived.Test.YthghbdeaenjckaaGreatDoorSame
namespace Go.Proofs.YthghbdeaenjckaaGreatDoor
open Go Go.RowKit
set_option maxHeartbeats 2000000
def Prev (ps:List Pt) (k:Nat) (x:Bool):Prop:=(k=0→x=false)∧(0<k→∃ q,ps[k - 1]?=some q∧x=decide (q.1=[]))
theorem rmay_any (A:Option Addr) (n c:Nat) (ps:List Pt) (w:World) (h:Rd w.heap.size w A n ps) (hmax:n≤1000000) (hl:∀ p∈ps,p.1.length≤1000000):
  Calls Tryz.prog 46 #[.slice A n c] w fun e w'=>e= .returned (.bool (may false ps))∧Below w.heap.size w w':=by
 obtain⟨v,hv⟩:∃ v,v=may false ps:=⟨_,rfl⟩;rw[←hv];have HV:=Lib.hid hv;have HN:=Lib.hid h.1;have HR:=Lib.hid h;have HL:=Lib.hid hl;clear hv h hl;go_enter Tryz.func46,Tryz.ntmps46;go_wp2
 go_loopw [3] (fun i wr=>∃ (k m:Nat) (x:Bool),k≤n∧i= .int .i64 k∧Prev ps k x∧may x (ps.drop k)=v∧wr=w.drewN m) (fun i _=>n - (intOf i).toNat)
 case atStart=>exact⟨0,0,false,by omega,rfl,⟨fun _=>rfl,fun h=>by omega⟩,HV.out.symm,rfl⟩
 case round=>
  obtain⟨k,m,x,hk,rfl,hx,hm,rfl⟩:=hrel;have HM:=Lib.hid hm;have HX:=Lib.hid hx;clear hm hx;by_cases a:k<n
  ·obtain⟨ad,rfl,hr⟩:=HR.out.2 (by omega)
   obtain⟨p,hp⟩:∃ p,ps[k]?=some p:=⟨_,List.getElem?_eq_getElem (by have:=HN.out;omega)⟩;obtain⟨c0,c1⟩:=hr.at_ hp
   obtain⟨N,hN⟩:∃ N:ByteArray,N=⟨p.1.toArray⟩:=⟨_,rfl⟩;obtain⟨T,hT⟩:∃ T:ByteArray,T=⟨p.2.toArray⟩:=⟨_,rfl⟩;rw[←hN] at c0;rw[←hT] at c1;have hN1:N.data.toList=p.1:=by rw[hN]
   have hN2:N.size≤4611686018427387904:=by
    have:=HL.out p (List.mem_of_getElem? hp);have e:=len_data N;rw[hN1] at e;omega
   have hc:(okP x p && may (decide (p.1=[])) (ps.drop (k+1)))=v:=by have:=HM.out;rw[drop_pt hp,may_cons] at this;exact this
   have HP:Hid (Prev ps (k+1) (decide (p.1=[]))):=Lib.hid ⟨fun h=>by omega,fun _=>⟨p,hp,rfl⟩⟩;have HRr:=Lib.hid hr;clear hp hr;by_cases e1:p.1=[]
   ·obtain⟨n1,n2⟩:=tx_nil hN e1
    rw[e1] at HP;by_cases e2:p.2=[]
    ·obtain⟨t1,t2⟩:=tx_nil hT e2
     have HX:Hid (v=false):=by apply Lib.hid;rw[←hc];simp[okP,e1,e2]
     clear e1 e2 hc hN hT hN1;go_wp2;go_quiet (fail);go_wp2;go_ret;exact⟨ret_bool HX.out.symm,(by first | exact below_drewN (Below.refl _ _) _ | exact below_drewN (below_drewN (Below.refl _ _) _) _)⟩
    ·obtain⟨t1,t2⟩:=tx_some hT e2
     by_cases hk0:k=0
     ·have hx:=HX.out.1 hk0
      subst hx;have hk0':¬ 0<(k:Int):=by omega
      have HY:Hid (may true (ps.drop (k+1))=v):=by apply Lib.hid;rw[←hc];simp[okP,e1,e2]
      clear e1 e2 hc hN hT hN1 hk0;go_wp2;go_quiet (fail);go_wp2
      go_roundw
      case rel=>exact⟨k+1,_,true,by omega,by go_num,HP.out,HY.out,rfl⟩
      case measure=>simp[intOf];omega
     ·have hk0':0<k:=by omega
      obtain⟨q,hq,hxq⟩:=HX.out.2 hk0';obtain⟨d0,_⟩:=HRr.out.at_ hq
      obtain⟨M,hM⟩:∃ M:ByteArray,M=⟨q.1.toArray⟩:=⟨_,rfl⟩;rw[←hM] at d0;have hk1:0≤(k:Int) - 1:=by omega
      clear hk0;by_cases e3:q.1=[]
      ·obtain⟨m1,m2⟩:=tx_nil hM e3
       have HY:Hid (v=false):=by apply Lib.hid;rw[←hc];simp[okP,e1,hxq,e3]
       clear e1 e2 hc hN hT hN1 hM hq hxq e3;go_wp2;go_quiet (fail);go_wp2;go_ret;exact⟨ret_bool HY.out.symm,(by first | exact below_drewN (Below.refl _ _) _ | exact below_drewN (below_drewN (Below.refl _ _) _) _)⟩
      ·obtain⟨m1,m2⟩:=tx_some hM e3
       have HY:Hid (may true (ps.drop (k+1))=v):=by apply Lib.hid;rw[←hc];simp[okP,e1,e2,hxq,e3]
       clear e1 e2 hc hN hT hN1 hM hq hxq e3;go_wp2;go_quiet (fail);go_wp2
       go_roundw
       case rel=>exact⟨k+1,_,true,by omega,by go_num,HP.out,HY.out,rfl⟩
       case measure=>simp[intOf];omega
   ·obtain⟨n1,n2⟩:=tx_some hN e1
    have HP:Hid (Prev ps (k+1) false):=by apply Lib.hid;have:=HP.out;simpa[e1] using this
    by_cases e2:p.2=[]
    ·obtain⟨t1,t2⟩:=tx_nil hT e2
     by_cases e3:isName p.1=true
     ·have K:=Lib.hid fun w=>rname_is N p.1 true hN1 hN2 e3 w
      have HX:Hid (may false (ps.drop (k+1))=v):=by apply Lib.hid;rw[←hc];simp[okP,e1,e2,e3]
      clear e1 e2 hc hN hT hN1 e3;go_wp2;go_quiet (fail);go_wp2_with (go_at_call 25;((with_reducible refine(K.out _).mono ?_));rintro e w' ⟨rfl,rfl⟩)
      all_goals
       go_roundw
       case rel=>exact⟨k+1,_,false,by omega,by go_num,HP.out,HX.out,rfl⟩
       case measure=>simp[intOf];omega
     ·have K:=Lib.hid fun w=>rname_is N p.1 false hN1 hN2 (Bool.eq_false_iff.2 e3) w
      have HX:Hid (v=false):=by apply Lib.hid;rw[←hc];simp[okP,e1,e3]
      clear e1 e2 hc hN hT hN1 e3;go_wp2;go_quiet (fail);go_wp2_with (go_at_call 25;((with_reducible refine(K.out _).mono ?_));rintro e w' ⟨rfl,rfl⟩);go_ret;exact⟨ret_bool HX.out.symm,(by first | exact below_drewN (Below.refl _ _) _ | exact below_drewN (below_drewN (Below.refl _ _) _) _)⟩
    ·obtain⟨t1,t2⟩:=tx_some hT e2
     have HX:Hid (v=false):=by apply Lib.hid;rw[←hc];simp[okP,e1,e2]
     clear e1 e2 hc hN hT hN1;go_wp2;go_quiet (fail);go_wp2;go_ret;exact⟨ret_bool HX.out.symm,(by first | exact below_drewN (Below.refl _ _) _ | exact below_drewN (below_drewN (Below.refl _ _) _) _)⟩
  ·have HX:Hid (v=true):=by
    apply Lib.hid;rw[←HM.out,List.drop_eq_nil_of_le (by have:=HN.out;omega)];rfl
   go_wp2;go_ret;exact⟨ret_bool HX.out.symm,(by first | exact below_drewN (Below.refl _ _) _ | exact below_drewN (below_drewN (Below.refl _ _) _) _)⟩
end Go.Proofs.YthghbdeaenjckaaGreatDoor
