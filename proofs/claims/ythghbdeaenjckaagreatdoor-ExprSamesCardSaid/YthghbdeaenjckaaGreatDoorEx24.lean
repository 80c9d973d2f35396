import Derived.Test.YthghbdeaenjckaaGreatDoorEx10
import Derived.Test.YthghbdeaenjckaaGreatDoorEx11
import Derived.Test.YthghbdeaenjckaaGreatDoorName2
namespace Go.Proofs.YthghbdeaenjckaaGreatDoor
open Go Go.RowKit
set_option maxRecDepth 100000
set_option maxHeartbeats 4000000
theorem ne_list {X:ByteArray} {b:Bool} (h:(X.toList==[])=b):(X.toList != [])= !b:=by rw[bne,h]
theorem emp_list (X:ByteArray):X.toList.isEmpty=(X.toList==[]):=by cases X.toList <;> rfl
theorem told_any9 (r:Ex) (A:Option Addr) (c:Nat) (w:World) (hnm:r.name.length≤1000000):
  Calls Tryz.prog 44 #[valX r A c] w fun e w'=>e= .returned (.bool (shapeX r.kind r.n r.name r.op r.kids.length))∧Below w.heap.size w w':=by
 obtain⟨k,n,nm,op,ks⟩:=r;simp only[valX,Ex.kind,Ex.n,Ex.name,Ex.op,Ex.kids] at hnm ⊢;obtain⟨v,hv⟩:∃ v,v=shapeX k n nm op ks.length:=⟨_,rfl⟩;rw[←hv];unfold shapeX at hv;obtain⟨X,rfl,eX⟩:=ba_of nm;obtain⟨Y,rfl,eY⟩:=ba_of op;rw[eX,eY]
 have hXs:X.size≤4611686018427387904:=by
  have:X.toList.length=X.size:=by rw[toList_data];exact len_data X
  omega
 have KN:Hid (∀ w,Calls Tryz.prog 69 #[.string X] w fun e w'=>e= .returned (.bool (isName X.toList))∧w=w'):=Lib.hid fun w=>by rw[toList_data];exact name_any X hXs w
 have KS:Hid (∀ w,Calls Tryz.prog 41 #[.string Y] w fun e w'=>e= .returned (.int .i64 (strong Y.toList))∧w=w'):=Lib.hid fun w=>by rw[toList_data];exact cstrong_any Y w
 obtain⟨b1,hb1⟩:∃ b,b=isName X.toList:=⟨_,rfl⟩;obtain⟨b2,hb2⟩:∃ b,b=strong Y.toList:=⟨_,rfl⟩;rw[←hb1] at KN hv;rw[←hb2] at KS hv;clear hb1 hb2 eX eY hXs hnm;obtain⟨m,hm⟩:∃ m,m=ks.length:=⟨_,rfl⟩;rw[←hm] at hv ⊢;clear hm;obtain⟨x,hx⟩:∃ x,(X.toList==[])=x:=⟨_,rfl⟩;obtain⟨y,hy⟩:∃ y,(Y.toList==[])=y:=⟨_,rfl⟩;rw[emp_list,emp_list,hx,hy] at hv;have hx':=ne_list hx;have hy':=ne_list hy;by_cases k0:k=0
 ·subst k0
  by_cases hn:0≤n
  ·have n1:decide ((0:Int)≤n)=true:=by simpa using hn
   by_cases hm0:m=0
   ·subst hm0
    cases x <;> cases y
    all_goals
     simp[hn] at hv;subst hv;go_enter Tryz.func44,Tryz.ntmps44;go_wp2_with (first | (go_at_call 69;((with_reducible refine(KN.out _).mono ?_));rintro e w1 ⟨rfl,rfl⟩) | (go_at_call 41;((with_reducible refine(KS.out _).mono ?_));rintro e w1 ⟨rfl,rfl⟩));go_ret;exact⟨rfl,one_boxX _ _⟩
   ·have m1:((m:Int)==0)=false:=by simp;omega
    have m2:(m==0)=false:=by simp;omega
    cases x <;> cases y
    all_goals
     simp[hn,m2] at hv;subst hv;go_enter Tryz.func44,Tryz.ntmps44;go_wp2_with (first | (go_at_call 69;((with_reducible refine(KN.out _).mono ?_));rintro e w1 ⟨rfl,rfl⟩) | (go_at_call 41;((with_reducible refine(KS.out _).mono ?_));rintro e w1 ⟨rfl,rfl⟩));go_ret;exact⟨rfl,one_boxX _ _⟩
  ·have n1:decide ((0:Int)≤n)=false:=by simpa using hn
   by_cases hm0:m=0
   ·subst hm0
    cases x <;> cases y
    all_goals
     simp[hn] at hv;subst hv;go_enter Tryz.func44,Tryz.ntmps44;go_wp2_with (first | (go_at_call 69;((with_reducible refine(KN.out _).mono ?_));rintro e w1 ⟨rfl,rfl⟩) | (go_at_call 41;((with_reducible refine(KS.out _).mono ?_));rintro e w1 ⟨rfl,rfl⟩));go_ret;exact⟨rfl,one_boxX _ _⟩
   ·have m1:((m:Int)==0)=false:=by simp;omega
    have m2:(m==0)=false:=by simp;omega
    cases x <;> cases y
    all_goals
     simp[hn,m2] at hv;subst hv;go_enter Tryz.func44,Tryz.ntmps44;go_wp2_with (first | (go_at_call 69;((with_reducible refine(KN.out _).mono ?_));rintro e w1 ⟨rfl,rfl⟩) | (go_at_call 41;((with_reducible refine(KS.out _).mono ?_));rintro e w1 ⟨rfl,rfl⟩));go_ret;exact⟨rfl,one_boxX _ _⟩
 by_cases k1:k=1
 ·subst k1
  by_cases hn:n=0
  ·subst hn
   by_cases hm0:m=0
   ·subst hm0
    cases x <;> cases y <;> cases b1
    all_goals
     simp[] at hv;subst hv;go_enter Tryz.func44,Tryz.ntmps44;go_wp2_with (first | (go_at_call 69;((with_reducible refine(KN.out _).mono ?_));rintro e w1 ⟨rfl,rfl⟩) | (go_at_call 41;((with_reducible refine(KS.out _).mono ?_));rintro e w1 ⟨rfl,rfl⟩));go_ret;exact⟨rfl,one_boxX _ _⟩
   ·have m1:((m:Int)==0)=false:=by simp;omega
    have m2:(m==0)=false:=by simp;omega
    cases x <;> cases y <;> cases b1
    all_goals
     simp[m2] at hv;subst hv;go_enter Tryz.func44,Tryz.ntmps44;go_wp2_with (first | (go_at_call 69;((with_reducible refine(KN.out _).mono ?_));rintro e w1 ⟨rfl,rfl⟩) | (go_at_call 41;((with_reducible refine(KS.out _).mono ?_));rintro e w1 ⟨rfl,rfl⟩));go_ret;exact⟨rfl,one_boxX _ _⟩
  ·have n1:(n != 0)=true:=by simpa using hn
   by_cases hm0:m=0
   ·subst hm0
    cases x <;> cases y <;> cases b1
    all_goals
     simp[hn] at hv;subst hv;go_enter Tryz.func44,Tryz.ntmps44;go_wp2_with (first | (go_at_call 69;((with_reducible refine(KN.out _).mono ?_));rintro e w1 ⟨rfl,rfl⟩) | (go_at_call 41;((with_reducible refine(KS.out _).mono ?_));rintro e w1 ⟨rfl,rfl⟩));go_ret;exact⟨rfl,one_boxX _ _⟩
   ·have m1:((m:Int)==0)=false:=by simp;omega
    have m2:(m==0)=false:=by simp;omega
    cases x <;> cases y <;> cases b1
    all_goals
     simp[hn,m2] at hv;subst hv;go_enter Tryz.func44,Tryz.ntmps44;go_wp2_with (first | (go_at_call 69;((with_reducible refine(KN.out _).mono ?_));rintro e w1 ⟨rfl,rfl⟩) | (go_at_call 41;((with_reducible refine(KS.out _).mono ?_));rintro e w1 ⟨rfl,rfl⟩));go_ret;exact⟨rfl,one_boxX _ _⟩
 by_cases k2:k=2
 ·subst k2
  by_cases hn:n=0
  ·subst hn
   by_cases hm0:m=1
   ·subst hm0
    cases x <;> cases y
    all_goals
     simp[] at hv;subst hv;go_enter Tryz.func44,Tryz.ntmps44;go_wp2_with (first | (go_at_call 69;((with_reducible refine(KN.out _).mono ?_));rintro e w1 ⟨rfl,rfl⟩) | (go_at_call 41;((with_reducible refine(KS.out _).mono ?_));rintro e w1 ⟨rfl,rfl⟩));go_ret;exact⟨rfl,one_boxX _ _⟩
   ·have m1:((m:Int)==1)=false:=by simp;omega
    have m2:(m==1)=false:=by simp;omega
    cases x <;> cases y
    all_goals
     simp[m2] at hv;subst hv;go_enter Tryz.func44,Tryz.ntmps44;go_wp2_with (first | (go_at_call 69;((with_reducible refine(KN.out _).mono ?_));rintro e w1 ⟨rfl,rfl⟩) | (go_at_call 41;((with_reducible refine(KS.out _).mono ?_));rintro e w1 ⟨rfl,rfl⟩));go_ret;exact⟨rfl,one_boxX _ _⟩
  ·have n1:(n != 0)=true:=by simpa using hn
   by_cases hm0:m=1
   ·subst hm0
    cases x <;> cases y
    all_goals
     simp[hn] at hv;subst hv;go_enter Tryz.func44,Tryz.ntmps44;go_wp2_with (first | (go_at_call 69;((with_reducible refine(KN.out _).mono ?_));rintro e w1 ⟨rfl,rfl⟩) | (go_at_call 41;((with_reducible refine(KS.out _).mono ?_));rintro e w1 ⟨rfl,rfl⟩));go_ret;exact⟨rfl,one_boxX _ _⟩
   ·have m1:((m:Int)==1)=false:=by simp;omega
    have m2:(m==1)=false:=by simp;omega
    cases x <;> cases y
    all_goals
     simp[hn,m2] at hv;subst hv;go_enter Tryz.func44,Tryz.ntmps44;go_wp2_with (first | (go_at_call 69;((with_reducible refine(KN.out _).mono ?_));rintro e w1 ⟨rfl,rfl⟩) | (go_at_call 41;((with_reducible refine(KS.out _).mono ?_));rintro e w1 ⟨rfl,rfl⟩));go_ret;exact⟨rfl,one_boxX _ _⟩
 by_cases k3:k=3
 ·subst k3
  by_cases hn:n=0
  ·subst hn
   by_cases hm0:m=1
   ·subst hm0
    cases x <;> cases y
    all_goals
     simp[] at hv;subst hv;go_enter Tryz.func44,Tryz.ntmps44;go_wp2_with (first | (go_at_call 69;((with_reducible refine(KN.out _).mono ?_));rintro e w1 ⟨rfl,rfl⟩) | (go_at_call 41;((with_reducible refine(KS.out _).mono ?_));rintro e w1 ⟨rfl,rfl⟩));go_ret;exact⟨rfl,one_boxX _ _⟩
   ·have m1:((m:Int)==1)=false:=by simp;omega
    have m2:(m==1)=false:=by simp;omega
    cases x <;> cases y
    all_goals
     simp[m2] at hv;subst hv;go_enter Tryz.func44,Tryz.ntmps44;go_wp2_with (first | (go_at_call 69;((with_reducible refine(KN.out _).mono ?_));rintro e w1 ⟨rfl,rfl⟩) | (go_at_call 41;((with_reducible refine(KS.out _).mono ?_));rintro e w1 ⟨rfl,rfl⟩));go_ret;exact⟨rfl,one_boxX _ _⟩
  ·have n1:(n != 0)=true:=by simpa using hn
   by_cases hm0:m=1
   ·subst hm0
    cases x <;> cases y
    all_goals
     simp[hn] at hv;subst hv;go_enter Tryz.func44,Tryz.ntmps44;go_wp2_with (first | (go_at_call 69;((with_reducible refine(KN.out _).mono ?_));rintro e w1 ⟨rfl,rfl⟩) | (go_at_call 41;((with_reducible refine(KS.out _).mono ?_));rintro e w1 ⟨rfl,rfl⟩));go_ret;exact⟨rfl,one_boxX _ _⟩
   ·have m1:((m:Int)==1)=false:=by simp;omega
    have m2:(m==1)=false:=by simp;omega
    cases x <;> cases y
    all_goals
     simp[hn,m2] at hv;subst hv;go_enter Tryz.func44,Tryz.ntmps44;go_wp2_with (first | (go_at_call 69;((with_reducible refine(KN.out _).mono ?_));rintro e w1 ⟨rfl,rfl⟩) | (go_at_call 41;((with_reducible refine(KS.out _).mono ?_));rintro e w1 ⟨rfl,rfl⟩));go_ret;exact⟨rfl,one_boxX _ _⟩
 by_cases k4:k=4
 ·subst k4
  by_cases hn:n=0
  ·subst hn
   by_cases hm0:m=2
   ·subst hm0
    by_cases hb:b2=0
    ·subst hb
     cases x <;> cases y
     all_goals
      simp[] at hv;subst hv;go_enter Tryz.func44,Tryz.ntmps44;go_wp2_with (first | (go_at_call 69;((with_reducible refine(KN.out _).mono ?_));rintro e w1 ⟨rfl,rfl⟩) | (go_at_call 41;((with_reducible refine(KS.out _).mono ?_));rintro e w1 ⟨rfl,rfl⟩));go_ret;exact⟨rfl,one_boxX _ _⟩
    ·have b3:((b2:Int) != 0)=true:=by simp;omega
     have b4:(b2 != 0)=true:=by simp;omega
     cases x <;> cases y
     all_goals
      simp[b4] at hv;subst hv;go_enter Tryz.func44,Tryz.ntmps44;go_wp2_with (first | (go_at_call 69;((with_reducible refine(KN.out _).mono ?_));rintro e w1 ⟨rfl,rfl⟩) | (go_at_call 41;((with_reducible refine(KS.out _).mono ?_));rintro e w1 ⟨rfl,rfl⟩));go_ret;exact⟨rfl,one_boxX _ _⟩
   ·have m1:((m:Int)==2)=false:=by simp;omega
    have m2:(m==2)=false:=by simp;omega
    by_cases hb:b2=0
    ·subst hb
     cases x <;> cases y
     all_goals
      simp[m2] at hv;subst hv;go_enter Tryz.func44,Tryz.ntmps44;go_wp2_with (first | (go_at_call 69;((with_reducible refine(KN.out _).mono ?_));rintro e w1 ⟨rfl,rfl⟩) | (go_at_call 41;((with_reducible refine(KS.out _).mono ?_));rintro e w1 ⟨rfl,rfl⟩));go_ret;exact⟨rfl,one_boxX _ _⟩
    ·have b3:((b2:Int) != 0)=true:=by simp;omega
     have b4:(b2 != 0)=true:=by simp;omega
     cases x <;> cases y
     all_goals
      simp[m2] at hv;subst hv;go_enter Tryz.func44,Tryz.ntmps44;go_wp2_with (first | (go_at_call 69;((with_reducible refine(KN.out _).mono ?_));rintro e w1 ⟨rfl,rfl⟩) | (go_at_call 41;((with_reducible refine(KS.out _).mono ?_));rintro e w1 ⟨rfl,rfl⟩));go_ret;exact⟨rfl,one_boxX _ _⟩
  ·have n1:(n != 0)=true:=by simpa using hn
   by_cases hm0:m=2
   ·subst hm0
    by_cases hb:b2=0
    ·subst hb
     cases x <;> cases y
     all_goals
      simp[hn] at hv;subst hv;go_enter Tryz.func44,Tryz.ntmps44;go_wp2_with (first | (go_at_call 69;((with_reducible refine(KN.out _).mono ?_));rintro e w1 ⟨rfl,rfl⟩) | (go_at_call 41;((with_reducible refine(KS.out _).mono ?_));rintro e w1 ⟨rfl,rfl⟩));go_ret;exact⟨rfl,one_boxX _ _⟩
    ·have b3:((b2:Int) != 0)=true:=by simp;omega
     have b4:(b2 != 0)=true:=by simp;omega
     cases x <;> cases y
     all_goals
      simp[hn] at hv;subst hv;go_enter Tryz.func44,Tryz.ntmps44;go_wp2_with (first | (go_at_call 69;((with_reducible refine(KN.out _).mono ?_));rintro e w1 ⟨rfl,rfl⟩) | (go_at_call 41;((with_reducible refine(KS.out _).mono ?_));rintro e w1 ⟨rfl,rfl⟩));go_ret;exact⟨rfl,one_boxX _ _⟩
   ·have m1:((m:Int)==2)=false:=by simp;omega
    have m2:(m==2)=false:=by simp;omega
    by_cases hb:b2=0
    ·subst hb
     cases x <;> cases y
     all_goals
      simp[hn,m2] at hv;subst hv;go_enter Tryz.func44,Tryz.ntmps44;go_wp2_with (first | (go_at_call 69;((with_reducible refine(KN.out _).mono ?_));rintro e w1 ⟨rfl,rfl⟩) | (go_at_call 41;((with_reducible refine(KS.out _).mono ?_));rintro e w1 ⟨rfl,rfl⟩));go_ret;exact⟨rfl,one_boxX _ _⟩
    ·have b3:((b2:Int) != 0)=true:=by simp;omega
     have b4:(b2 != 0)=true:=by simp;omega
     cases x <;> cases y
     all_goals
      simp[hn,m2] at hv;subst hv;go_enter Tryz.func44,Tryz.ntmps44;go_wp2_with (first | (go_at_call 69;((with_reducible refine(KN.out _).mono ?_));rintro e w1 ⟨rfl,rfl⟩) | (go_at_call 41;((with_reducible refine(KS.out _).mono ?_));rintro e w1 ⟨rfl,rfl⟩));go_ret;exact⟨rfl,one_boxX _ _⟩
 have q0:(k==0)=false:=by simpa using k0
 have q1:(k==1)=false:=by simpa using k1
 have q2:(k==2)=false:=by simpa using k2
 have q3:(k==3)=false:=by simpa using k3
 have q4:(k==4)=false:=by simpa using k4
 have r0:(k != 0)=true:=by simpa using k0
 have r1:(k != 1)=true:=by simpa using k1
 have r4:(k != 4)=true:=by simpa using k4
 simp[k0,k1,k2,k3,k4] at hv;subst hv;clear k0 k1 k2 k3 k4;by_cases hn:n=0
 ·subst hn
  cases x <;> cases y
  all_goals
   go_enter Tryz.func44,Tryz.ntmps44;go_wp2_with (first | (go_at_call 69;((with_reducible refine(KN.out _).mono ?_));rintro e w1 ⟨rfl,rfl⟩) | (go_at_call 41;((with_reducible refine(KS.out _).mono ?_));rintro e w1 ⟨rfl,rfl⟩));go_ret;exact⟨rfl,one_boxX _ _⟩
 ·have n1:(n != 0)=true:=by simpa using hn
  clear hn
  cases x <;> cases y
  all_goals
   go_enter Tryz.func44,Tryz.ntmps44;go_wp2_with (first | (go_at_call 69;((with_reducible refine(KN.out _).mono ?_));rintro e w1 ⟨rfl,rfl⟩) | (go_at_call 41;((with_reducible refine(KS.out _).mono ?_));rintro e w1 ⟨rfl,rfl⟩));go_ret;exact⟨rfl,one_boxX _ _⟩
theorem maywithin_any (r:Ex):∀ (A:Option Addr) (c d:Nat) (w:World),KidsX (LtX w.heap.size) w A r→d≤64→nmX r≤1000000→sizeX r≤1000000→
  Calls Tryz.prog 27 #[valX r A c,.int .i64 d] w fun e w'=>e= .returned (.bool (mayX r d))∧Below w.heap.size w w':=by
 induction r using Ex.ind with
 | h k n nm op ks ih=>
   intro A c d w hk hd hnm hsz;have KH:Hid (∀ w,Calls Tryz.prog 44 #[valX (Ex.mk k n nm op ks) A c] w fun e w'=>e= .returned (.bool (shapeX k n nm op ks.length))∧Below w.heap.size w w'):=Lib.hid fun w=>told_any9 (Ex.mk k n nm op ks) A c w (by rw[nmX] at hnm;show nm.length≤_;omega)
   obtain⟨v,hv⟩:∃ v,v=mayX (Ex.mk k n nm op ks) d:=⟨_,rfl⟩;rw[←hv];rw[mayX] at hv;rw[nmX] at hnm;rw[sizeX] at hsz;have hml:=sizeXL_len ks;have HNM:=Lib.hid hnm;have HSZ:=Lib.hid hsz;simp only[valX] at KH ⊢;generalize (⟨nm.toArray⟩:ByteArray)=X at KH ⊢;generalize (⟨op.toArray⟩:ByteArray)=Y at KH ⊢;generalize shapeX k n nm op ks.length=sh at KH hv;obtain⟨m,hm⟩:∃ m,m=ks.length:=⟨_,rfl⟩;rw[←hm] at KH hml ⊢;have hm9:m≤1000000:=by omega
   have he:ks.isEmpty=decide (m=0):=by rw[hm];cases ks <;> simp
   rw[he] at hv;have HM:=Lib.hid hm;have HK:=Lib.hid hk;have HI:=Lib.hid ih;clear hk ih hm he hnm hsz hml
   cases sh with
   | false=>
     have HX:Hid (v=false):=Lib.hid (by rw[hv];rfl);clear hv;go_enter Tryz.func27,Tryz.ntmps27;go_wp2_with (go_at_call 44;go_must ((with_reducible refine(KH.out _).mono ?_);rintro e w1 ⟨rfl,hb1⟩;have HB1:=Lib.hid ((one_boxX w (.cells #[.int .i64 k,.int .i64 n,.string X,.string Y,.slice A m c] 24)).trans (hb1.mono (by simp)));clear hb1));go_ret;exact⟨ret_bool HX.out.symm,HB1.out⟩
   | true=>
     by_cases hbad:m≠0∧d=64
     ·obtain⟨hm0,rfl⟩:=hbad
      have HX:Hid (v=false):=Lib.hid (by rw[hv];simp[hm0]);have q1:decide ((0:Int)<(m:Int))=true:=by simp;omega
      have q2:decide (0<m)=true:=by simp;omega
      clear hv hm0;go_enter Tryz.func27,Tryz.ntmps27;go_wp2_with (go_at_call 44;go_must ((with_reducible refine(KH.out _).mono ?_);rintro e w1 ⟨rfl,hb1⟩;have HBX:=Lib.hid ((Box5.new w 24 (.int .i64 k) (.int .i64 n) (.string X) (.string Y) (.slice A m c)).low hb1);have HB1:=Lib.hid ((one_boxX w (.cells #[.int .i64 k,.int .i64 n,.string X,.string Y,.slice A m c] 24)).trans (hb1.mono (by simp)));clear hb1;obtain⟨d0,d1,d2,d3,d4,_⟩:=HBX.out));go_ret;exact⟨ret_bool HX.out.symm,HB1.out⟩
     ·have HX:Hid (∀ b,mayL ks (d+1)=b→v=b):=Lib.hid (by
       rintro b rfl;rw[hv];by_cases hm0:m=0
       ·simp[hm0]
       ·have:d<64:=by omega
        simp[this])
      have hq:(m=0∧decide ((0:Int)<(m:Int))=false∧decide (0<m)=false)∨(decide ((0:Int)<(m:Int))=true∧decide (0<m)=true∧((d:Int)==64)=false∧(d==64)=false∧d<64):=by
       by_cases hm0:m=0
       ·left;simp[hm0]
       ·right;refine⟨by simp;omega,by simp;omega,by simp;omega,by simp;omega,by omega⟩
      clear hv hbad
      rcases hq with ⟨rfl,q1,q2⟩ | ⟨q1,q2,q3,q4,hd4⟩
      ·have HX2:Hid (v=true):=Lib.hid (HX.out true (by
        have:=HM.out;rw[List.length_eq_zero_iff.1 this.symm,mayL]))
       clear hd;go_enter Tryz.func27,Tryz.ntmps27;go_wp2_with (go_at_call 44;go_must ((with_reducible refine(KH.out _).mono ?_);rintro e w1 ⟨rfl,hb1⟩;have HBX:=Lib.hid ((Box5.new w 24 (.int .i64 k) (.int .i64 n) (.string X) (.string Y) (.slice A 0 c)).low hb1);have HB1:=Lib.hid ((one_boxX w (.cells #[.int .i64 k,.int .i64 n,.string X,.string Y,.slice A 0 c] 24)).trans (hb1.mono (by simp)));clear hb1;obtain⟨d0,d1,d2,d3,d4,_⟩:=HBX.out))
       go_loopw [23] (fun i wr=>i= .int .i64 0∧wr=w1) (fun _ _=>0)
       case atStart=>exact⟨rfl,rfl⟩
       case round=>
        obtain⟨rfl,rfl⟩:=hrel;go_wp2;go_ret;exact⟨ret_bool HX2.out.symm,HB1.out⟩
      ·go_enter Tryz.func27,Tryz.ntmps27
       go_wp2_with (go_at_call 44;go_must ((with_reducible refine(KH.out _).mono ?_);rintro e w1 ⟨rfl,hb1⟩;have HBX:=Lib.hid ((Box5.new w 24 (.int .i64 k) (.int .i64 n) (.string X) (.string Y) (.slice A m c)).low hb1);have HB1:=Lib.hid ((one_boxX w (.cells #[.int .i64 k,.int .i64 n,.string X,.string Y,.slice A m c] 24)).trans (hb1.mono (by simp)));clear hb1;obtain⟨d0,d1,d2,d3,d4,_⟩:=HBX.out))
       go_loopw [23] (fun i wr=>∃ j:Nat,j≤m∧i= .int .i64 j∧mayL (ks.take j) (d+1)=true∧Below w1.heap.size w1 wr) (fun i _=>m - (intOf i).toNat)
       case atStart=>exact⟨0,by omega,rfl,by rw[List.take_zero,mayL],Below.refl _ _⟩
       case round=>
        obtain⟨j,hj,rfl,ht,hb1⟩:=hrel;have hb:Below w.heap.size w wr:=HB1.out.trans (hb1.mono HB1.out.size);have HT:=Lib.hid ht;have HBB:=Lib.hid hb1;clear ht hb1;by_cases a:j<m
        ·obtain⟨r,hr⟩:=getX_of_lt HM.out a
         obtain⟨ad,B,b,rfl,hp,h9,hkr⟩:=kidX_at HK.out hb hr;have hmem:=List.mem_of_getElem? hr
         have K:∀ w2,Below w.heap.size w w2→Calls Tryz.prog 27 #[valX r B b,.int .i64 ((d:Int)+1)] w2 fun e w'=>e= .returned (.bool (mayX r (d+1)))∧Below w2.heap.size w2 w':=fun w2 h2=>
          HI.out r hmem B b (d+1) w2 (hkr.next h2) (by omega) (by have:=HNM.out;have:=nmXL_mem hmem;omega) (by have:=HSZ.out;have:=sizeXL_mem hmem;omega)
         obtain⟨v2,hv2⟩:∃ v2,v2=mayX r (d+1):=⟨_,rfl⟩;rw[←hv2] at K;have HV2:=Lib.hid hv2;have HR:=Lib.hid hr;clear hr hv2 hkr hmem;obtain⟨k',n',nm',op',ks1⟩:=r;simp only[valX] at K;obtain⟨c0,c1,c2,c3,c4⟩:=h9;generalize (⟨nm'.toArray⟩:ByteArray)=M1 at K c2;generalize (⟨op'.toArray⟩:ByteArray)=M2 at K c3;obtain⟨l1,hl1⟩:∃ l,l=ks1.length:=⟨_,rfl⟩;rw[←hl1] at K c4;have HKC:=Lib.hid K;have HBK:Hid (∀ o,Below w.heap.size w (wr.alloc o)):=Lib.hid fun o=>hb.alloc hb.size o
         clear K hl1
         cases v2 with
         | true=>
           have HT2:Hid (mayL (ks.take (j+1)) (d+1)=true):=Lib.hid (by rw[mayL_take HR.out HT.out];exact HV2.out.symm);go_wp2_with (go_at_call 27;go_must ((with_reducible refine(HKC.out _ (HBK.out _)).mono ?_);rintro e w' ⟨rfl,hb2⟩))
           go_roundw
           case rel=>exact⟨j+1,by omega,by go_num,HT2.out,HBB.out.trans (((one_boxX wr _).trans (hb2.mono (by simp))).mono HBB.out.size)⟩
           case measure=>simp[intOf];omega
         | false=>
           have HX2:Hid (v=false):=Lib.hid (HX.out _ (mayL_not HR.out HV2.out.symm));go_wp2_with (go_at_call 27;go_must ((with_reducible refine(HKC.out _ (HBK.out _)).mono ?_);rintro e w' ⟨rfl,hb2⟩));go_ret;exact⟨ret_bool HX2.out.symm,(HBK.out _).trans (hb2.mono (HBK.out _).size)⟩
        ·have HX2:Hid (v=true):=by
          apply Lib.hid;apply HX.out;have:=HT.out;rw[List.take_of_length_le (by have:=HM.out;omega)] at this;exact this
         go_wp2;go_ret;exact⟨ret_bool HX2.out.symm,hb⟩
theorem cmay_any (r:Ex) (A:Option Addr) (c:Nat) (w:World) (hk:KidsX (LtX w.heap.size) w A r) (hn:nmX r≤1000000) (hs:sizeX r≤1000000):
  Calls Tryz.prog 11 #[valX r A c] w fun e w'=>e= .returned (.bool (mayX r 0))∧Below w.heap.size w w':=by
 have K:Hid (∀ o,Calls Tryz.prog 27 #[valX r A c,.int .i64 0] (w.alloc o) fun e w'=>e= .returned (.bool (mayX r 0))∧Below (w.alloc o).heap.size (w.alloc o) w'):=Lib.hid fun o=>maywithin_any r A c 0 _ (hk.next (one_boxX w o)) (by omega) hn hs
 generalize mayX r 0=v at K ⊢;obtain⟨k',n',nm',op',ks'⟩:=r;simp only[valX] at K ⊢;clear hk hn hs;go_enter Tryz.func11,Tryz.ntmps11;go_wp2_with (go_at_call 27;go_must ((with_reducible refine(K.out _).mono ?_);rintro e w' ⟨rfl,hb2⟩));go_ret;exact⟨rfl,(one_boxX _ _).trans (hb2.mono (by simp))⟩
end Go.Proofs.YthghbdeaenjckaaGreatDoor
