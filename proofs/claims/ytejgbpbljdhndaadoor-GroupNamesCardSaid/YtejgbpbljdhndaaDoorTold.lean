import Derived.Test.YtejgbpbljdhndaaDoorSame
import Derived.Test.YtejgbpbljdhndaaDoorQBelow
namespace Go.Proofs.YtejgbpbljdhndaaDoor
open Go Go.RowKit
set_option maxRecDepth 100000
set_option maxHeartbeats 4000000
theorem y1n (k:Int) (w:World):Calls Tryd.prog 47 #[.int .i64 k] w fun e w'=>e= .returned (.int .i64 (lev k))∧w=w':=by
 by_cases k1:k=1
 ·subst k1
  go_enter Tryd.func47,Tryd.ntmps47;go_wp2;go_ret;exact⟨rfl,rfl⟩
 ·skip
  by_cases k2:k=2
  ·subst k2
   go_enter Tryd.func47,Tryd.ntmps47;go_wp2;go_ret;exact⟨rfl,rfl⟩
  ·skip
   by_cases k3:k=3
   ·subst k3
    go_enter Tryd.func47,Tryd.ntmps47;go_wp2;go_ret;exact⟨rfl,rfl⟩
   ·skip
    by_cases k7:k=7
    ·subst k7
     go_enter Tryd.func47,Tryd.ntmps47;go_wp2;go_ret;exact⟨rfl,rfl⟩
    ·skip
     by_cases k6:k=6
     ·subst k6
      go_enter Tryd.func47,Tryd.ntmps47;go_wp2;go_ret;exact⟨rfl,rfl⟩
     ·skip
      by_cases k0:k=0
      ·subst k0
       go_enter Tryd.func47,Tryd.ntmps47;go_wp2;go_ret;exact⟨rfl,rfl⟩
      ·skip
       by_cases k4:k=4
       ·subst k4
        go_enter Tryd.func47,Tryd.ntmps47;go_wp2;go_ret;exact⟨rfl,rfl⟩
       ·skip
        by_cases k5:k=5
        ·subst k5
         go_enter Tryd.func47,Tryd.ntmps47;go_wp2;go_ret;exact⟨rfl,rfl⟩
        ·skip
         have b1:(k==1)=false:=by simp[k1]
         have b2:(k==2)=false:=by simp[k2]
         have b3:(k==3)=false:=by simp[k3]
         have b7:(k==7)=false:=by simp[k7]
         have b6:(k==6)=false:=by simp[k6]
         have b0:(k==0)=false:=by simp[k0]
         have b4:(k==4)=false:=by simp[k4]
         have b5:(k==5)=false:=by simp[k5]
         have hv:lev k=4:=by simp[lev,k1,k2,k3,k7,k6,k0,k4,k5]
         rw[hv];clear hv k1 k2 k3 k7 k6 k0 k4 k5;go_enter Tryd.func47,Tryd.ntmps47;go_wp2;go_ret;exact⟨rfl,rfl⟩
theorem z73 (k:Int) (w:World):Calls Tryd.prog 50 #[.int .i64 k] w fun e w'=>e= .returned (.int .i64 (levK k))∧w=w':=by
 by_cases k4:k=4
 ·subst k4
  go_enter Tryd.func50,Tryd.ntmps50;go_wp2;go_ret;exact⟨rfl,rfl⟩
 ·skip
  by_cases k5:k=5
  ·subst k5
   go_enter Tryd.func50,Tryd.ntmps50;go_wp2;go_ret;exact⟨rfl,rfl⟩
  ·skip
   by_cases k7:k=7
   ·subst k7
    go_enter Tryd.func50,Tryd.ntmps50;go_wp2;go_ret;exact⟨rfl,rfl⟩
   ·skip
    have b4:(k==4)=false:=by simp[k4]
    have b5:(k==5)=false:=by simp[k5]
    have b7:(k==7)=false:=by simp[k7]
    have hv:levK k=0:=by simp[levK,k4,k5,k7]
    rw[hv];clear hv k4 k5 k7;go_enter Tryd.func50,Tryd.ntmps50;go_wp2;go_ret;exact⟨rfl,rfl⟩
theorem x2b (g:Nat) (hg:g≤1000000) (w:World):Calls Tryd.prog 49 #[.int .i64 g] w fun e w'=>e= .returned (.int .i64 (num g))∧w=w':=by
 unfold num;by_cases h:g > 9
 ·rw[if_pos h]
  go_enter Tryd.func49,Tryd.ntmps49;go_wp2;go_ret;exact⟨rfl,rfl⟩
 ·rw[if_neg h]
  go_enter Tryd.func49,Tryd.ntmps49;go_wp2;go_ret;exact⟨rfl,rfl⟩
def repK (k:Int):Bool:=k != 2 && k != 3
theorem z8j (k:Int) (w:World):Calls Tryd.prog 68 #[.int .i64 k] w fun e w'=>e= .returned (.bool (repK k))∧w=w':=by
 by_cases k2:k=2
 ·subst k2
  go_enter Tryd.func68,Tryd.ntmps68;go_wp2;go_ret;exact⟨rfl,rfl⟩
 ·by_cases k3:k=3
  ·subst k3
   go_enter Tryd.func68,Tryd.ntmps68;go_wp2;go_ret;exact⟨rfl,rfl⟩
  ·have b2:(k != 2)=true:=by simp[k2]
   have b3:(k != 3)=true:=by simp[k3]
   have hv:repK k=true:=by unfold repK;rw[b2,b3];rfl
   rw[hv];clear hv k2 k3;go_enter Tryd.func68,Tryd.ntmps68;go_wp2;go_ret;exact⟨rfl,rfl⟩
theorem z9v (lo hi:Int) (w:World):Calls Tryd.prog 69 #[.int .i64 lo,.int .i64 hi] w fun e w'=>e= .returned (.bool (bound lo hi))∧w=w':=by
 by_cases h0:0≤lo
 ·by_cases h8:lo≤8
  ·by_cases h1:hi= -1
   ·have hv:bound lo hi=true:=by simp[bound,h0,h8,h1]
    rw[hv];subst h1;clear hv;go_enter Tryd.func69,Tryd.ntmps69;go_wp2;go_ret;exact⟨rfl,rfl⟩
   ·have b1:(hi== -1)=false:=by simp[h1]
    by_cases h2:lo≤hi
    ·by_cases h3:hi≤8
     ·have hv:bound lo hi=true:=by simp[bound,h0,h8,h1,h2,h3]
      rw[hv];clear hv h1;go_enter Tryd.func69,Tryd.ntmps69;go_wp2;go_ret;exact⟨rfl,rfl⟩
     ·have hv:bound lo hi=false:=by simp[bound,h1,h3]
      rw[hv];clear hv h1;go_enter Tryd.func69,Tryd.ntmps69;go_wp2;go_ret;exact⟨rfl,rfl⟩
    ·have hv:bound lo hi=false:=by simp[bound,h1,h2]
     rw[hv];clear hv h1;go_enter Tryd.func69,Tryd.ntmps69;go_wp2;go_ret;exact⟨rfl,rfl⟩
  ·have hv:bound lo hi=false:=by simp[bound,h8]
   rw[hv];clear hv;go_enter Tryd.func69,Tryd.ntmps69;go_wp2;go_ret;exact⟨rfl,rfl⟩
 ·have hv:bound lo hi=false:=by simp[bound,h0]
  rw[hv];clear hv;go_enter Tryd.func69,Tryd.ntmps69;go_wp2;go_ret;exact⟨rfl,rfl⟩
theorem y8p (S:S4) (w:World):(binOp .neq 24 (.agg #[.int .u64 S.1.toNat,.int .u64 S.2.1.toNat,.int .u64 S.2.2.1.toNat,.int .u64 S.2.2.2.toNat]) (.agg #[.int .u64 0,.int .u64 0,.int .u64 0,.int .u64 0])).run Tryd.prog w= .ok (.bool (!decide (S=none4))) w:=z2v S none4 w
theorem z0b (w:World) (o:Obj):Below w.heap.size w (w.alloc o):=(Below.refl _ _).alloc (Nat.le_refl _) _
theorem y8t (r:Re) (A:Option Addr) (c:Nat) (w:World) (hk:Kids (Lt w.heap.size) w A r):
  Calls Tryd.prog 48 #[valR r A c] w fun e w'=>e= .returned (.bool (told r))∧Below w.heap.size w w':=by
 obtain⟨k,S,ks,lo,hi,n⟩:=r;obtain⟨v,hv⟩:∃ v,v=told (.mk k S ks lo hi n):=⟨_,rfl⟩;rw[←hv];simp only[valR];have hz:=fun W=>y8p S W
 have HK:=Lib.hid hk;have HV:=Lib.hid hv;obtain⟨s0,hs0⟩:∃ s0:Int,s0=S.1.toNat:=⟨_,rfl⟩;obtain⟨s1,hs1⟩:∃ s1:Int,s1=S.2.1.toNat:=⟨_,rfl⟩;obtain⟨s2,hs2⟩:∃ s2:Int,s2=S.2.2.1.toNat:=⟨_,rfl⟩;obtain⟨s3,hs3⟩:∃ s3:Int,s3=S.2.2.2.toNat:=⟨_,rfl⟩;rw[←hs0,←hs1,←hs2,←hs3] at hz ⊢;clear hv hk hs0 hs1 hs2 hs3;by_cases k1:k=1
 ·subst k1
  by_cases hn:n=0
  ·have gn:(n != 0)=false:=by simp[hn]
   obtain⟨m,hm⟩:∃ m,ks.length=m:=⟨_,rfl⟩;rw[hm];by_cases hc:m=0
   ·by_cases hl:lo=0
    ·by_cases hh:hi=0
     ·skip
      have gm:((m:Int)==0)=true:=by simp;omega
      have gm2:(m==0)=true:=by simp;omega
      have gl:(lo==0)=true:=by simp[hl]
      have gh:(hi==0)=true:=by simp[hh]
      have HX:Hid (v=true):=Lib.hid (by rw[HV.out];simp[told, *]);clear HV HK hm hn hc hl hh;go_enter Tryd.func48,Tryd.ntmps48;go_wp2;go_ret;exact⟨z0n HX.out.symm,z0b _ _⟩
     ·skip
      have gm:((m:Int)==0)=true:=by simp;omega
      have gm2:(m==0)=true:=by simp;omega
      have gl:(lo==0)=true:=by simp[hl]
      have gh:(hi==0)=false:=by simp[hh]
      have HX:Hid (v=false):=Lib.hid (by rw[HV.out];simp[told, *]);clear HV HK hm hn hc hl hh;go_enter Tryd.func48,Tryd.ntmps48;go_wp2;go_ret;exact⟨z0n HX.out.symm,z0b _ _⟩
    ·skip
     have gm:((m:Int)==0)=true:=by simp;omega
     have gm2:(m==0)=true:=by simp;omega
     have gl:(lo==0)=false:=by simp[hl]
     have HX:Hid (v=false):=Lib.hid (by rw[HV.out];simp[told, *]);clear HV HK hm hn hc hl;go_enter Tryd.func48,Tryd.ntmps48;go_wp2;go_ret;exact⟨z0n HX.out.symm,z0b _ _⟩
   ·skip
    have gm:((m:Int)==0)=false:=by simp;omega
    have gm2:(m==0)=false:=by simp;omega
    have HX:Hid (v=false):=Lib.hid (by rw[HV.out];simp[told, *]);clear HV HK hm hn hc;go_enter Tryd.func48,Tryd.ntmps48;go_wp2;go_ret;exact⟨z0n HX.out.symm,z0b _ _⟩
  ·have gn:(n != 0)=true:=by simp[hn]
   have HX:Hid (v=false):=Lib.hid (by rw[HV.out];simp[told, *]);clear HV hn;go_enter Tryd.func48,Tryd.ntmps48;go_wp2;go_ret;exact⟨z0n HX.out.symm,z0b _ _⟩
 ·skip
  by_cases k6:k=6
  ·subst k6
   by_cases hS:S=none4
   ·have g2:(!decide (S=none4))=false:=by simp[hS]
    simp only[g2] at hz;clear g2;by_cases hn:n=0
    ·have gn:(n != 0)=false:=by simp[hn]
     rcases ks with _ | ⟨x,_ | ⟨y,t⟩⟩
     ·have HX:Hid (v=false):=Lib.hid (by rw[HV.out];simp[told, *])
      clear HV hS hn;go_enter Tryd.func48,Tryd.ntmps48;go_wp2;go_ret;exact⟨z0n HX.out.symm,z0b _ _⟩
     ·obtain⟨ad,A',c',rfl,hp,h9,_⟩:=z2t (k:=0) HK.out (r:= .mk 6 S [x] lo hi n) (x:=x) rfl
      obtain⟨k',S',ks',lo',hi',n'⟩:=x;have hlt:(ad.add (0 * 9)).block<w.heap.size:=by rw[z0j];exact hp
      have had:ad.add (0 * 9)=ad:=by unfold Addr.add;simp
      have h0:w.cell? ad=some (.int .i64 k'):=by rw[←had];exact h9.1
      have h0a:∀ o,(w.alloc o).cell? ad=some (.int .i64 k'):=fun o=>(World.cell?_alloc_lt w o ad (by rw[had] at hlt;exact hlt)).trans h0
      have K42:=Lib.hid fun w2=>z8j k' w2
      have K43:=Lib.hid fun w2=>z9v lo hi w2
      have HX0:Hid (v=(repK k' && bound lo hi)):=Lib.hid (by rw[HV.out];simp[told,rep,Re.kind,repK, *]);clear HV h9 hS hn HK hlt had;obtain⟨b1,hb1⟩:∃ b,b=repK k':=⟨_,rfl⟩;obtain⟨b2,hb2⟩:∃ b,b=bound lo hi:=⟨_,rfl⟩;rw[←hb1,←hb2] at HX0;rw[←hb1] at K42;rw[←hb2] at K43;clear hb1 hb2
      cases b1
      ·go_enter Tryd.func48,Tryd.ntmps48
       go_wp2_with (go_at_call 68;((with_reducible refine(K42.out _).mono ?_));rintro e w' ⟨rfl,rfl⟩);go_ret;exact⟨z0n (by rw[HX0.out];rfl),z0b _ _⟩
      ·go_enter Tryd.func48,Tryd.ntmps48
       go_wp2_with (first | (go_at_call 68;((with_reducible refine(K42.out _).mono ?_));rintro e w' ⟨rfl,rfl⟩) | (go_at_call 69;((with_reducible refine(K43.out _).mono ?_));rintro e w' ⟨rfl,rfl⟩));go_ret;exact⟨z0n (by rw[HX0.out];rfl),z0b _ _⟩
     ·have gl:((((Re.mk 0 none4 [] 0 0 0)::y::t).length:Int)==1)=false:=by simp;omega
      have HX:Hid (v=false):=Lib.hid (by rw[HV.out];simp[told, *]);obtain⟨m,hm⟩:∃ m,m=(x::y::t).length:=⟨_,rfl⟩;have gm:((m:Int)==1)=false:=by rw[hm];simp;omega
      have gm2:(m==1)=false:=by rw[hm];simp
      rw[←hm];clear HV hS hn hm gl HK;go_enter Tryd.func48,Tryd.ntmps48;go_wp2;go_ret;exact⟨z0n HX.out.symm,z0b _ _⟩
    ·have gn:(n != 0)=true:=by simp[hn]
     have HX:Hid (v=false):=Lib.hid (by rw[HV.out];simp[told, *]);clear HV hS hn;go_enter Tryd.func48,Tryd.ntmps48;go_wp2;go_ret;exact⟨z0n HX.out.symm,z0b _ _⟩
   ·have g2:(!decide (S=none4))=true:=by simp[hS]
    simp only[g2] at hz;have HX:Hid (v=false):=Lib.hid (by rw[HV.out];simp[told, *]);clear HV hS g2;go_enter Tryd.func48,Tryd.ntmps48;go_wp2;go_ret;exact⟨z0n HX.out.symm,z0b _ _⟩
  ·skip
   by_cases k7:k=7
   ·subst k7
    by_cases hS:S=none4
    ·have g2:(!decide (S=none4))=false:=by simp[hS]
     simp only[g2] at hz;clear g2;obtain⟨m,hm⟩:∃ m,ks.length=m:=⟨_,rfl⟩;rw[hm];by_cases hc:m=1
     ·by_cases hl:lo=0
      ·by_cases hh:hi=0
       ·skip
        have gm:((m:Int)==1)=true:=by simp;omega
        have gm2:(m==1)=true:=by simp;omega
        have gl:(lo==0)=true:=by simp[hl]
        have gh:(hi==0)=true:=by simp[hh]
        have HX:Hid (v=true):=Lib.hid (by rw[HV.out];simp[told, *]);clear HV HK hm hS hc hl hh;go_enter Tryd.func48,Tryd.ntmps48;go_wp2;go_ret;exact⟨z0n HX.out.symm,z0b _ _⟩
       ·skip
        have gm:((m:Int)==1)=true:=by simp;omega
        have gm2:(m==1)=true:=by simp;omega
        have gl:(lo==0)=true:=by simp[hl]
        have gh:(hi==0)=false:=by simp[hh]
        have HX:Hid (v=false):=Lib.hid (by rw[HV.out];simp[told, *]);clear HV HK hm hS hc hl hh;go_enter Tryd.func48,Tryd.ntmps48;go_wp2;go_ret;exact⟨z0n HX.out.symm,z0b _ _⟩
      ·skip
       have gm:((m:Int)==1)=true:=by simp;omega
       have gm2:(m==1)=true:=by simp;omega
       have gl:(lo==0)=false:=by simp[hl]
       have HX:Hid (v=false):=Lib.hid (by rw[HV.out];simp[told, *]);clear HV HK hm hS hc hl;go_enter Tryd.func48,Tryd.ntmps48;go_wp2;go_ret;exact⟨z0n HX.out.symm,z0b _ _⟩
     ·skip
      have gm:((m:Int)==1)=false:=by simp;omega
      have gm2:(m==1)=false:=by simp;omega
      have HX:Hid (v=false):=Lib.hid (by rw[HV.out];simp[told, *]);clear HV HK hm hS hc;go_enter Tryd.func48,Tryd.ntmps48;go_wp2;go_ret;exact⟨z0n HX.out.symm,z0b _ _⟩
    ·have g2:(!decide (S=none4))=true:=by simp[hS]
     simp only[g2] at hz;have HX:Hid (v=false):=Lib.hid (by rw[HV.out];simp[told, *]);clear HV hS g2;go_enter Tryd.func48,Tryd.ntmps48;go_wp2;go_ret;exact⟨z0n HX.out.symm,z0b _ _⟩
   ·skip
    by_cases k4:k=4
    ·subst k4
     by_cases hS:S=none4
     ·have g2:(!decide (S=none4))=false:=by simp[hS]
      simp only[g2] at hz;clear g2;by_cases hn:n=0
      ·have gn:(n != 0)=false:=by simp[hn]
       obtain⟨m,hm⟩:∃ m,ks.length=m:=⟨_,rfl⟩;rw[hm];by_cases hc:2≤m
       ·by_cases hl:lo=0
        ·by_cases hh:hi=0
         ·skip
          have gl:(lo==0)=true:=by simp[hl]
          have gh:(hi==0)=true:=by simp[hh]
          have HX:Hid (v=true):=Lib.hid (by rw[HV.out];simp[told, *]);clear HV HK hm hS hn hl hh;go_enter Tryd.func48,Tryd.ntmps48;go_wp2;go_ret;exact⟨z0n HX.out.symm,z0b _ _⟩
         ·skip
          have gl:(lo==0)=true:=by simp[hl]
          have gh:(hi==0)=false:=by simp[hh]
          have HX:Hid (v=false):=Lib.hid (by rw[HV.out];simp[told, *]);clear HV HK hm hS hn hl hh;go_enter Tryd.func48,Tryd.ntmps48;go_wp2;go_ret;exact⟨z0n HX.out.symm,z0b _ _⟩
        ·skip
         have gl:(lo==0)=false:=by simp[hl]
         have HX:Hid (v=false):=Lib.hid (by rw[HV.out];simp[told, *]);clear HV HK hm hS hn hl;go_enter Tryd.func48,Tryd.ntmps48;go_wp2;go_ret;exact⟨z0n HX.out.symm,z0b _ _⟩
       ·skip
        have HX:Hid (v=false):=Lib.hid (by rw[HV.out];simp[told, *]);clear HV HK hm hS hn;go_enter Tryd.func48,Tryd.ntmps48;go_wp2;go_ret;exact⟨z0n HX.out.symm,z0b _ _⟩
      ·have gn:(n != 0)=true:=by simp[hn]
       have HX:Hid (v=false):=Lib.hid (by rw[HV.out];simp[told, *]);clear HV hS hn;go_enter Tryd.func48,Tryd.ntmps48;go_wp2;go_ret;exact⟨z0n HX.out.symm,z0b _ _⟩
     ·have g2:(!decide (S=none4))=true:=by simp[hS]
      simp only[g2] at hz;have HX:Hid (v=false):=Lib.hid (by rw[HV.out];simp[told, *]);clear HV hS g2;go_enter Tryd.func48,Tryd.ntmps48;go_wp2;go_ret;exact⟨z0n HX.out.symm,z0b _ _⟩
    ·skip
     by_cases k5:k=5
     ·subst k5
      by_cases hS:S=none4
      ·have g2:(!decide (S=none4))=false:=by simp[hS]
       simp only[g2] at hz;clear g2;by_cases hn:n=0
       ·have gn:(n != 0)=false:=by simp[hn]
        obtain⟨m,hm⟩:∃ m,ks.length=m:=⟨_,rfl⟩;rw[hm];by_cases hc:2≤m
        ·by_cases hl:lo=0
         ·by_cases hh:hi=0
          ·skip
           have gl:(lo==0)=true:=by simp[hl]
           have gh:(hi==0)=true:=by simp[hh]
           have HX:Hid (v=true):=Lib.hid (by rw[HV.out];simp[told, *]);clear HV HK hm hS hn hl hh;go_enter Tryd.func48,Tryd.ntmps48;go_wp2;go_ret;exact⟨z0n HX.out.symm,z0b _ _⟩
          ·skip
           have gl:(lo==0)=true:=by simp[hl]
           have gh:(hi==0)=false:=by simp[hh]
           have HX:Hid (v=false):=Lib.hid (by rw[HV.out];simp[told, *]);clear HV HK hm hS hn hl hh;go_enter Tryd.func48,Tryd.ntmps48;go_wp2;go_ret;exact⟨z0n HX.out.symm,z0b _ _⟩
         ·skip
          have gl:(lo==0)=false:=by simp[hl]
          have HX:Hid (v=false):=Lib.hid (by rw[HV.out];simp[told, *]);clear HV HK hm hS hn hl;go_enter Tryd.func48,Tryd.ntmps48;go_wp2;go_ret;exact⟨z0n HX.out.symm,z0b _ _⟩
        ·skip
         have HX:Hid (v=false):=Lib.hid (by rw[HV.out];simp[told, *]);clear HV HK hm hS hn;go_enter Tryd.func48,Tryd.ntmps48;go_wp2;go_ret;exact⟨z0n HX.out.symm,z0b _ _⟩
       ·have gn:(n != 0)=true:=by simp[hn]
        have HX:Hid (v=false):=Lib.hid (by rw[HV.out];simp[told, *]);clear HV hS hn;go_enter Tryd.func48,Tryd.ntmps48;go_wp2;go_ret;exact⟨z0n HX.out.symm,z0b _ _⟩
      ·have g2:(!decide (S=none4))=true:=by simp[hS]
       simp only[g2] at hz;have HX:Hid (v=false):=Lib.hid (by rw[HV.out];simp[told, *]);clear HV hS g2;go_enter Tryd.func48,Tryd.ntmps48;go_wp2;go_ret;exact⟨z0n HX.out.symm,z0b _ _⟩
     ·skip
      have b1:(k==1)=false:=by simp[k1]
      have b6:(k==6)=false:=by simp[k6]
      have b7:(k==7)=false:=by simp[k7]
      have b4:(k==4)=false:=by simp[k4]
      have b5:(k==5)=false:=by simp[k5]
      have c1:(k != 1)=true:=by simp[k1]
      have c7:(k != 7)=true:=by simp[k7]
      by_cases hS:S=none4
      ·have g2:(!decide (S=none4))=false:=by simp[hS]
       simp only[g2] at hz;clear g2;by_cases hn:n=0
       ·have gn:(n != 0)=false:=by simp[hn]
        obtain⟨m,hm⟩:∃ m,ks.length=m:=⟨_,rfl⟩;rw[hm];by_cases hc:m=0
        ·by_cases hl:lo=0
         ·by_cases hh:hi=0
          ·skip
           have gm:((m:Int)==0)=true:=by simp;omega
           have gm2:(m==0)=true:=by simp;omega
           have gl:(lo==0)=true:=by simp[hl]
           have gh:(hi==0)=true:=by simp[hh]
           have HX:Hid (v=true):=Lib.hid (by rw[HV.out];simp[told, *]);clear HV HK hm hS hn hc hl hh;go_enter Tryd.func48,Tryd.ntmps48;go_wp2;go_ret;exact⟨z0n HX.out.symm,z0b _ _⟩
          ·skip
           have gm:((m:Int)==0)=true:=by simp;omega
           have gm2:(m==0)=true:=by simp;omega
           have gl:(lo==0)=true:=by simp[hl]
           have gh:(hi==0)=false:=by simp[hh]
           have HX:Hid (v=false):=Lib.hid (by rw[HV.out];simp[told, *]);clear HV HK hm hS hn hc hl hh;go_enter Tryd.func48,Tryd.ntmps48;go_wp2;go_ret;exact⟨z0n HX.out.symm,z0b _ _⟩
         ·skip
          have gm:((m:Int)==0)=true:=by simp;omega
          have gm2:(m==0)=true:=by simp;omega
          have gl:(lo==0)=false:=by simp[hl]
          have HX:Hid (v=false):=Lib.hid (by rw[HV.out];simp[told, *]);clear HV HK hm hS hn hc hl;go_enter Tryd.func48,Tryd.ntmps48;go_wp2;go_ret;exact⟨z0n HX.out.symm,z0b _ _⟩
        ·skip
         have gm:((m:Int)==0)=false:=by simp;omega
         have gm2:(m==0)=false:=by simp;omega
         have HX:Hid (v=false):=Lib.hid (by rw[HV.out];simp[told, *]);clear HV HK hm hS hn hc;go_enter Tryd.func48,Tryd.ntmps48;go_wp2;go_ret;exact⟨z0n HX.out.symm,z0b _ _⟩
       ·have gn:(n != 0)=true:=by simp[hn]
        have HX:Hid (v=false):=Lib.hid (by rw[HV.out];simp[told, *]);clear HV hS hn;go_enter Tryd.func48,Tryd.ntmps48;go_wp2;go_ret;exact⟨z0n HX.out.symm,z0b _ _⟩
      ·have g2:(!decide (S=none4))=true:=by simp[hS]
       simp only[g2] at hz;have HX:Hid (v=false):=Lib.hid (by rw[HV.out];simp[told, *]);clear HV hS g2;go_enter Tryd.func48,Tryd.ntmps48;go_wp2;go_ret;exact⟨z0n HX.out.symm,z0b _ _⟩
end Go.Proofs.YtejgbpbljdhndaaDoor
