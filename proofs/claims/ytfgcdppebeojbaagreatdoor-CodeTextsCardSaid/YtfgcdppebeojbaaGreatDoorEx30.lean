import Derived.Test.YtfgcdppebeojbaaGreatDoorEx29
namespace Go.Proofs.YtfgcdppebeojbaaGreatDoor
open Go Go.RowKit
set_option maxRecDepth 100000
set_option maxHeartbeats 4000000
def CSame (x:Ex):Prop:=∀ (y:Ex) (A A':Option Addr) (c c':Nat) (w:World),KidsX (LtX w.heap.size) w A x→KidsX (LtX w.heap.size) w A' y→sizeX x≤1000000→sizeX y≤1000000→
 Calls Tryz.prog 131 #[valX x A c,valX y A' c'] w fun e w'=>e= .returned (.bool (eqB x y))∧Below w.heap.size w w'
theorem equal_of (k n k2 n2:Int) (nm op nm2 op2:Bs) (ks ks2:List Ex) (ih:∀ x∈ks,CSame x) (A A':Option Addr) (c c':Nat) (w:World) (hk:KidsX (LtX w.heap.size) w A (.mk k n nm op ks)) (hk':KidsX (LtX w.heap.size) w A' (.mk k2 n2 nm2 op2 ks2)) (hs:sizeXL ks≤1000000) (hs':sizeXL ks2≤1000000):
  Calls Tryz.prog 151 #[.slice A ks.length c,.slice A' ks2.length c',.func (.func 131) #[] #[]] w fun e w'=>e= .returned (.bool (eqB ks ks2))∧Below w.heap.size w w':=by
 obtain⟨v,hv⟩:∃ v,v=eqB ks ks2:=⟨_,rfl⟩;rw[←hv];have HV:=Lib.hid hv;obtain⟨m,hm⟩:∃ m,m=ks.length:=⟨_,rfl⟩;obtain⟨m2,hm2⟩:∃ m,m=ks2.length:=⟨_,rfl⟩;have hmx:=sizeXL_len ks;have hm9:m≤1000000:=by omega
 rw[←hm,←hm2];have HK:=Lib.hid hk;have HK':=Lib.hid hk';have HI:=Lib.hid ih;have HS:=Lib.hid hs;have HS':=Lib.hid hs';have HM:=Lib.hid hm;have HM':=Lib.hid hm2;clear hv ih hk hk' hs hs' hm hm2 hmx;by_cases f6:m=m2
 ·have g6:((m:Int) != (m2:Int))=false:=by simp[f6]
  have g7:(m != m2)=false:=by simp[f6]
  subst f6;go_enter Tryz.func151,Tryz.ntmps151;go_wp2
  go_loopw [17] (fun i wr=>∃ j:Nat,j≤m∧i= .int .i64 j∧ks.take j=ks2.take j∧Below w.heap.size w wr) (fun i _=>m - (intOf i).toNat)
  case atStart=>exact⟨0,by omega,rfl,rfl,Below.refl _ _⟩
  case round=>
   obtain⟨j,hj,rfl,ht,hb⟩:=hrel;have HB:=Lib.hid hb;have HT:=Lib.hid ht;clear ht;by_cases a:j<m
   ·obtain⟨r,hr⟩:=getX_of_lt HM.out a
    obtain⟨r',hr'⟩:=getX_of_lt HM'.out a;obtain⟨ad,B,b,rfl,hp,h9,hkr⟩:=kidX_at HK.out hb hr;obtain⟨ad',B',b',rfl,hp',h9',hkr'⟩:=kidX_at HK'.out hb hr';have hmem:=List.mem_of_getElem? hr;have hsz1:=sizeXL_mem hmem;have hsz2:=sizeXL_mem (List.mem_of_getElem? hr')
    have K:∀ w2,Below wr.heap.size wr w2→Calls Tryz.prog 131 #[valX r B b,valX r' B' b'] w2 fun e w'=>e= .returned (.bool (eqB r r'))∧Below w2.heap.size w2 w':=fun w2 h2=>
     HI.out r hmem r' B B' b b' w2 (hkr.next (hb.trans (h2.mono hb.size))) (hkr'.next (hb.trans (h2.mono hb.size))) (by have:=HS.out;omega) (by have:=HS'.out;omega)
    obtain⟨v2,hv2⟩:∃ v2,v2=eqB r r':=⟨_,rfl⟩;rw[←hv2] at K;have HV2:=Lib.hid hv2;have HR:=Lib.hid hr;have HR':=Lib.hid hr';have hbt:(ad.add (j * 5)).block<wr.heap.size:=by rw[blockX_add];have:=hb.size;omega
    have hbt':(ad'.add (j * 5)).block<wr.heap.size:=by rw[blockX_add];have:=hb.size;omega
    clear hr hr' hv2 hkr hkr' hmem hsz1 hsz2;obtain⟨k',n',nm',op',ks1⟩:=r;obtain⟨k3,n3,nm3,op3,ks3⟩:=r';simp only[valX] at K;obtain⟨c0,c1,c2,c3,c4⟩:=h9;obtain⟨d0,d1,d2,d3,d4⟩:=h9';obtain⟨M1,hM1⟩:∃ M:ByteArray,M=⟨nm'.toArray⟩:=⟨_,rfl⟩;obtain⟨M2,hM2⟩:∃ M:ByteArray,M=⟨op'.toArray⟩:=⟨_,rfl⟩;obtain⟨M3,hM3⟩:∃ M:ByteArray,M=⟨nm3.toArray⟩:=⟨_,rfl⟩;obtain⟨M4,hM4⟩:∃ M:ByteArray,M=⟨op3.toArray⟩:=⟨_,rfl⟩;obtain⟨l1,hl1⟩:∃ l,l=ks1.length:=⟨_,rfl⟩;obtain⟨l2,hl2⟩:∃ l,l=ks3.length:=⟨_,rfl⟩;rw[←hM1,←hM2,←hM3,←hM4,←hl1,←hl2] at K;rw[←hM1] at c2;rw[←hM2] at c3;rw[←hl1] at c4;rw[←hM3] at d2;rw[←hM4] at d3;rw[←hl2] at d4;have HKC:Hid (∀ o1 o2,Calls Tryz.prog 131 #[.agg #[.int .i64 k',.int .i64 n',.string M1,.string M2,.slice B l1 b],.agg #[.int .i64 k3,.int .i64 n3,.string M3,.string M4,.slice B' l2 b']] ((wr.alloc o1).alloc o2) fun e w'=>e= .returned (.bool v2)∧Below wr.heap.size wr w'):=Lib.hid fun o1 o2=>(K _ (two_boxesX wr o1 o2)).mono fun e w' ⟨he,h2⟩=>⟨he,(two_boxesX wr o1 o2).trans (h2.mono (by simp;omega))⟩
    clear K hM1 hM2 hM3 hM4 hl1 hl2 hb hp hp'
    cases v2 with
    | true=>
      have HX:Hid (ks.take (j+1)=ks2.take (j+1)):=Lib.hid (by
       have:=eqB_of HV2.out.symm;rw[←this] at HR';exact take_eqX HT.out HR.out HR'.out)
      go_wp2_with (go_at_call 131;go_must ((with_reducible refine(HKC.out _ _).mono ?_);rintro e w4 ⟨rfl,hb4⟩))
      go_roundw
      case rel=>exact⟨j+1,by omega,by go_num,HX.out,HB.out.trans (hb4.mono HB.out.size)⟩
      case measure=>simp[intOf];omega
    | false=>
      have HX2:Hid (v=false):=Lib.hid (by rw[HV.out];exact eqB_no (not_eqX HR.out HR'.out (eqB_not HV2.out.symm)));go_wp2_with (go_at_call 131;go_must ((with_reducible refine(HKC.out _ _).mono ?_);rintro e w4 ⟨rfl,hb4⟩));go_ret;exact⟨ret_bool HX2.out.symm,HB.out.trans (hb4.mono HB.out.size)⟩
   ·have HX2:Hid (v=true):=Lib.hid (by
     rw[HV.out];have:=HT.out;rw[List.take_of_length_le (by have:=HM.out;omega),List.take_of_length_le (by have:=HM'.out;omega)] at this;exact eqB_yes this)
    clear hb;go_wp2;go_ret;exact⟨ret_bool HX2.out.symm,HB.out⟩
 ·have HX:Hid (v=false):=Lib.hid (by rw[HV.out];exact eqB_no (fun h=>f6 (by rw[HM.out,HM'.out,h])))
  have g6:((m:Int) != (m2:Int))=true:=by simp;omega
  have g7:(m != m2)=true:=by simp[f6]
  clear f6;go_enter Tryz.func151,Tryz.ntmps151;go_wp2;go_ret;exact⟨ret_bool HX.out.symm,Below.refl _ _⟩
theorem eqX_of {k n k2 n2:Int} {nm op nm2 op2:Bs} {ks ks2:List Ex} (h1:k=k2) (h2:n=n2) (h3:nm=nm2) (h4:op=op2):eqB (Ex.mk k n nm op ks) (Ex.mk k2 n2 nm2 op2 ks2)=eqB ks ks2:=by
 by_cases h:ks=ks2
 ·rw[eqB_yes h,eqB_yes (by rw[h1,h2,h3,h4,h])]
 ·rw[eqB_no h,eqB_no (fun e=>h (by injection e))]
theorem csame_any (x:Ex):CSame x:=by
 induction x using Ex.ind with
 | h k n nm op ks ih=>
   intro y A A' c c' w hk hk' hs hs';obtain⟨k2,n2,nm2,op2,ks2⟩:=y;obtain⟨v,hv⟩:∃ v,v=eqB (Ex.mk k n nm op ks) (Ex.mk k2 n2 nm2 op2 ks2):=⟨_,rfl⟩;rw[←hv];rw[sizeX] at hs hs';simp only[valX]
   have KE:Hid (∀ w',Below w.heap.size w w'→Calls Tryz.prog 151 #[.slice A ks.length c,.slice A' ks2.length c',.func (.func 131) #[] #[]] w' fun e w2=>e= .returned (.bool (eqB ks ks2))∧Below w'.heap.size w' w2):=Lib.hid fun w' hb=>
    equal_of k n k2 n2 nm op nm2 op2 ks ks2 ih A A' c c' w' (hk.next hb) (hk'.next hb) (by omega) (by omega)
   have HV:=Lib.hid hv;obtain⟨X,hX⟩:∃ X:ByteArray,X=⟨nm.toArray⟩:=⟨_,rfl⟩;obtain⟨X2,hX2⟩:∃ X:ByteArray,X=⟨nm2.toArray⟩:=⟨_,rfl⟩;obtain⟨Y,hY⟩:∃ X:ByteArray,X=⟨op.toArray⟩:=⟨_,rfl⟩;obtain⟨Y2,hY2⟩:∃ X:ByteArray,X=⟨op2.toArray⟩:=⟨_,rfl⟩;have gx:=nameX_eq hX hX2;have gy:=nameX_eq hY hY2;obtain⟨u,hu⟩:∃ u,u=eqB ks ks2:=⟨_,rfl⟩;rw[←hu] at KE;have HU:=Lib.hid hu;rw[←hX,←hX2,←hY,←hY2];generalize ks.length=m at KE ⊢;generalize ks2.length=m2 at KE ⊢;clear hv ih hk hk' hs hs' hX hX2 hY hY2 hu;by_cases f1:k=k2
   ·by_cases f2:n=n2
    ·by_cases f3:nm=nm2
     ·by_cases f4:op=op2
      ·have HX:Hid (v=u):=Lib.hid (by rw[HV.out,HU.out];exact eqX_of f1 f2 f3 f4)
       have g1:(k==k2)=true:=by simp[f1]
       have g2:(n==n2)=true:=by simp[f2]
       rw[eqB_yes f3] at gx;rw[eqB_yes f4] at gy;subst f1 f2;clear f3 f4;go_enter Tryz.func131,Tryz.ntmps131;go_wp2_with (go_at_call 151;go_must ((with_reducible refine(KE.out _ (two_boxesX w _ _)).mono ?_);rintro e w4 ⟨rfl,hb4⟩));go_ret;exact⟨ret_bool HX.out.symm,(two_boxesX w _ _).trans (hb4.mono (by simp;omega))⟩
      ·have HX:Hid (v=false):=Lib.hid (by rw[HV.out];exact eqB_no (fun h=>f4 (by injection h)))
       have g1:(k==k2)=true:=by simp[f1]
       have g2:(n==n2)=true:=by simp[f2]
       rw[eqB_yes f3] at gx;rw[eqB_no f4] at gy;subst f1 f2;clear f3 f4;go_enter Tryz.func131,Tryz.ntmps131;go_wp2;go_ret;exact⟨ret_bool HX.out.symm,two_boxesX _ _ _⟩
     ·have HX:Hid (v=false):=Lib.hid (by rw[HV.out];exact eqB_no (fun h=>f3 (by injection h)))
      have g1:(k==k2)=true:=by simp[f1]
      have g2:(n==n2)=true:=by simp[f2]
      rw[eqB_no f3] at gx;subst f1 f2;clear f3;go_enter Tryz.func131,Tryz.ntmps131;go_wp2;go_ret;exact⟨ret_bool HX.out.symm,two_boxesX _ _ _⟩
    ·have HX:Hid (v=false):=Lib.hid (by rw[HV.out];exact eqB_no (fun h=>f2 (by injection h)))
     have g1:(k==k2)=true:=by simp[f1]
     have g2:(n==n2)=false:=by simp[f2]
     subst f1;clear f2;go_enter Tryz.func131,Tryz.ntmps131;go_wp2;go_ret;exact⟨ret_bool HX.out.symm,two_boxesX _ _ _⟩
   ·have HX:Hid (v=false):=Lib.hid (by rw[HV.out];exact eqB_no (fun h=>f1 (by injection h)))
    have g1:(k==k2)=false:=by simp[f1]
    clear f1;go_enter Tryz.func131,Tryz.ntmps131;go_wp2;go_ret;exact⟨ret_bool HX.out.symm,two_boxesX _ _ _⟩
end Go.Proofs.YtfgcdppebeojbaaGreatDoor
